/-
  Plain mathematics for 'Reads': what a subframe says, by places in a text of bits. No dump is imported.
-/
namespace Go.Proofs.YtlncjgnomhpjnaaDoor

/-- the number that n bits say -/
def bitsNum (f : Nat → Bool) : Nat → Nat
  | 0 => 0
  | n + 1 => 2 * bitsNum f n + (f n).toNat
theorem bitsNum_lt (f : Nat → Bool) : ∀ n, bitsNum f n < 2 ^ n
  | 0 => by simp [bitsNum]
  | n + 1 => by
    have := bitsNum_lt f n
    have h : (f n).toNat ≤ 1 := Bool.toNat_le _
    simp only [bitsNum, Nat.pow_succ]; omega
theorem bitsNum_top (f : Nat → Bool) : ∀ n, bitsNum f (n + 1) = (f 0).toNat * 2 ^ n + bitsNum (fun i => f (i + 1)) n
  | 0 => by simp [bitsNum]
  | n + 1 => by
    have := bitsNum_top f n
    rw [bitsNum, this, bitsNum, Nat.pow_succ, ← Nat.mul_assoc]
    omega
/-- the number in k bits from place p on -/
def num (b : Nat → Bool) (p k : Nat) : Nat := bitsNum (fun i => b (p + i)) k
theorem num_lt (b : Nat → Bool) (p k : Nat) : num b p k < 2 ^ k := bitsNum_lt _ _
/-- .. of which the first stands for one below 0 -/
def sgn (b : Nat → Bool) (p k : Nat) : Int := if 2 ^ (k - 1) ≤ num b p k then (num b p k : Int) - 2 ^ k else num b p k
theorem num_top (b : Nat → Bool) (p k : Nat) (hk : 1 ≤ k) : 2 ^ (k - 1) ≤ num b p k ↔ b p = true := by
  obtain ⟨m, rfl⟩ : ∃ m, k = m + 1 := ⟨k - 1, by omega⟩
  unfold num
  rw [bitsNum_top]
  have h := bitsNum_lt (fun i => b (p + (i + 1))) m
  simp only [Nat.add_sub_cancel, Nat.add_zero]
  cases b p
  · simp; omega
  · simp

/-- how many 0s stand from place p on, of at most m places -/
def zrun (b : Nat → Bool) : Nat → Nat → Nat
  | 0, _ => 0
  | m + 1, p => if b p then 0 else zrun b m (p + 1) + 1
theorem zrun_le (b : Nat → Bool) : ∀ m p, zrun b m p ≤ m
  | 0, _ => Nat.le_refl _
  | m + 1, p => by
    unfold zrun
    have := zrun_le b m (p + 1)
    split <;> omega
theorem zrun_zero (b : Nat → Bool) : ∀ m p i, i < zrun b m p → b (p + i) = false
  | 0, _, i, h => absurd h (by simp [zrun])
  | m + 1, p, i, h => by
    unfold zrun at h
    by_cases e : b p = true
    · simp [e] at h
    · simp only [e] at h
      cases i with
      | zero => simpa using e
      | succ i =>
        have := zrun_zero b m (p + 1) i (by simp at h; omega)
        rw [← this]; congr 1; omega
theorem zrun_one (b : Nat → Bool) : ∀ m p, zrun b m p < m → b (p + zrun b m p) = true
  | 0, _, h => absurd h (by omega)
  | m + 1, p, h => by
    unfold zrun at h ⊢
    by_cases e : b p = true
    · simp [e]
    · simp only [e] at h ⊢
      simp at h ⊢
      have := zrun_one b m (p + 1) (by omega)
      rw [← this]; congr 1; omega
/-- whoever counts 0s comes to this -/
theorem zrun_eq (b : Nat → Bool) (m p q : Nat) (hq : q ≤ m) (h0 : ∀ i, i < q → b (p + i) = false) (h1 : q < m → b (p + q) = true) : zrun b m p = q := by
  have hle := zrun_le b m p
  by_cases h : zrun b m p < q
  · have := zrun_one b m p (by omega)
    rw [h0 _ h] at this; cases this
  · by_cases h2 : q < zrun b m p
    · have := zrun_zero b m p q h2
      rw [h1 (by omega)] at this; cases this
    · omega

/-- a letter for a bit -/
def ltr (b : Bool) : UInt8 := if b then 49 else 48
theorem ltr_nat (b : Bool) : (ltr b).toNat = 48 + b.toNat := by cases b <;> rfl
/-- a text says these bits -/
def Bits (s : ByteArray) (b : Nat → Bool) : Prop := ∀ j (h : j < s.size), s[j] = ltr (b j)

/-- what a fold stands for -/
def unf (f : Nat) : Int := if f % 2 = 0 then (f : Int) / 2 else -(((f : Int) + 1) / 2)

/-- the number whose Rice code by k stands at place p, and the place behind it -/
def rice (b : Nat → Bool) (N k p : Nat) : Option (Int × Nat) :=
  if p + zrun b (N - p) p + 1 + k ≤ N then some (unf (zrun b (N - p) p * 2 ^ k + num b (p + zrun b (N - p) p + 1) k), p + zrun b (N - p) p + 1 + k) else none

theorem unf_bd (f : Nat) : -(f : Int) - 1 ≤ unf f ∧ unf f ≤ f := by
  unfold unf; split <;> omega
theorem rice_bd {b : Nat → Bool} {N k p p' : Nat} {v : Int} (h : rice b N k p = some (v, p')) (hN : N ≤ 80000) (hk : k ≤ 14) : (-1400000000 ≤ v ∧ v ≤ 1400000000) ∧ p ≤ p' ∧ p' ≤ N := by
  unfold rice at h
  split at h
  · rename_i hle
    simp only [Option.some.injEq, Prod.mk.injEq] at h
    obtain ⟨rfl, rfl⟩ := h
    have h2 : 2 ^ k ≤ 16384 := Nat.le_trans (Nat.pow_le_pow_right (by omega) hk) (by decide)
    have h3 := num_lt b (p + zrun b (N - p) p + 1) k
    have h4 : zrun b (N - p) p * 2 ^ k ≤ 80000 * 16384 := Nat.mul_le_mul (by omega) h2
    have h5 := unf_bd (zrun b (N - p) p * 2 ^ k + num b (p + zrun b (N - p) p + 1) k)
    refine ⟨⟨by omega, by omega⟩, by omega, hle⟩
  · cases h

/-- how often each of the samples ahead is taken -/
def tab (r c : Nat) : Int :=
  match r, c with
  | 1, 0 => 1
  | 2, 0 => 2
  | 2, 1 => -1
  | 3, 0 => 3
  | 3, 1 => -3
  | 3, 2 => 1
  | 4, 0 => 4
  | 4, 1 => -6
  | 4, 2 => 4
  | 4, 3 => -1
  | _, _ => 0
def ord (kind : Nat) : Nat := if kind = 7 then 2 else kind - 2
/-- by how many bits a kind's weighted sum is divided -/
def scl (kind : Nat) : Nat := if kind = 7 then 3 else 0
def wt (kind : Nat) (a c : Int) (j : Nat) : Int := if kind = 7 then (if j = 0 then a else if j = 1 then c else 0) else tab (kind - 2) j
def sumG (w : Nat → Int) (x : Nat → Int) (i : Nat) : Nat → Int
  | 0 => 0
  | m + 1 => sumG w x i m + w m * x (i - 1 - m)
def guessG (kind : Nat) (a c : Int) (x : Nat → Int) (i : Nat) : Int := sumG (wt kind a c) x i (ord kind) / (if kind = 7 then 8 else 1)

def within (v lo hi : Int) : Bool := decide (lo ≤ v) && decide (v ≤ hi)
theorem within_iff (v lo hi : Int) : within v lo hi = true ↔ lo ≤ v ∧ v ≤ hi := by simp [within]
def fitsB (d : Nat) (v : Int) : Bool := within v (-(2 ^ (d - 1))) (2 ^ (d - 1) - 1)

theorem pow12 {d : Nat} (h : d ≤ 13) : (2 : Int) ^ (d - 1) ≤ 4096 := by
  have h1 : 2 ^ (d - 1) ≤ 4096 := Nat.le_trans (Nat.pow_le_pow_right (by omega) (by omega : d - 1 ≤ 12)) (by decide)
  have e : ((2 ^ (d - 1) : Nat) : Int) = (2 : Int) ^ (d - 1) := by simp
  rw [← e]; exact Int.ofNat_le.2 h1
theorem fits_bd {d : Nat} {v : Int} (h : fitsB d v = true) (hd : d ≤ 13) : -4096 ≤ v ∧ v ≤ 4096 := by
  unfold fitsB at h
  rw [within_iff] at h
  have := pow12 hd
  omega
theorem sgn_fits (b : Nat → Bool) (p : Nat) {d : Nat} (h1 : 1 ≤ d) : fitsB d (sgn b p d) = true := by
  unfold fitsB sgn
  rw [within_iff]
  have h2 := num_lt b p d
  have e0 : 2 ^ d = 2 * 2 ^ (d - 1) := by
    obtain ⟨m, rfl⟩ : ∃ m, d = m + 1 := ⟨d - 1, by omega⟩
    rw [Nat.pow_succ]; simp [Nat.mul_comm]
  have e1 : (2 : Int) ^ d = 2 * 2 ^ (d - 1) := by
    obtain ⟨m, rfl⟩ : ∃ m, d = m + 1 := ⟨d - 1, by omega⟩
    rw [Int.pow_succ]; simp [Int.mul_comm]
  have e2 : ((2 ^ (d - 1) : Nat) : Int) = (2 : Int) ^ (d - 1) := by simp
  rw [e0] at h2
  generalize hq : 2 ^ (d - 1) = q at *
  rw [e1, ← e2]
  split <;> omega

/-- where a reading is -/
structure St where
  p : Nat
  k : Nat
  x : Nat → Int

def updI (x : Nat → Int) (i : Nat) (v : Int) (j : Nat) : Int := if j = i then v else x j

/-- what is read: the text, its length, the short samples' width, the kind, a and b, the places of a part -/
structure Job where
  b : Nat → Bool
  N : Nat
  w : Nat
  kind : Nat
  a : Int
  c : Int
  size : Nat

/-- a part's parameter -/
def Job.rdK (J : Job) (s : St) : Option St := if s.p + 4 ≤ J.N ∧ num J.b s.p 4 ≤ 14 then some ⟨s.p + 4, num J.b s.p 4, s.x⟩ else none
/-- a place -/
def Job.plc (J : Job) (i : Nat) (s : St) : Option St :=
  if i < ord J.kind then some s else
    match rice J.b J.N s.k s.p with
    | none => none
    | some (v, p') => if fitsB J.w (guessG J.kind J.a J.c s.x i + v) then some ⟨p', s.k, updI s.x i (guessG J.kind J.a J.c s.x i + v)⟩ else none
theorem Job.plc_none {J : Job} {i : Nat} {s : St} (hi : ¬ i < ord J.kind) (h : rice J.b J.N s.k s.p = none) : J.plc i s = none := by
  unfold Job.plc; rw [if_neg hi, h]
theorem Job.plc_no {J : Job} {i : Nat} {s : St} {v : Int} {p' : Nat} (hi : ¬ i < ord J.kind) (h : rice J.b J.N s.k s.p = some (v, p')) (hf : fitsB J.w (guessG J.kind J.a J.c s.x i + v) = false) : J.plc i s = none := by
  unfold Job.plc; rw [if_neg hi, h]; simp only [hf]; rfl
theorem Job.plc_yes {J : Job} {i : Nat} {s : St} {v : Int} {p' : Nat} (hi : ¬ i < ord J.kind) (h : rice J.b J.N s.k s.p = some (v, p')) (hf : fitsB J.w (guessG J.kind J.a J.c s.x i + v) = true) :
    J.plc i s = some ⟨p', s.k, updI s.x i (guessG J.kind J.a J.c s.x i + v)⟩ := by
  unfold Job.plc; rw [if_neg hi, h]; simp only [hf]; rfl
/-- the first i places -/
def Job.R (J : Job) (s0 : St) : Nat → Option St
  | 0 => some s0
  | i + 1 => (J.R s0 i).bind fun s => (if i % J.size = 0 then J.rdK s else some s).bind (J.plc i)
/-- a part's parameter, and so many places of it -/
def Job.U (J : Job) (s0 : St) (from' : Nat) : Nat → Option St
  | 0 => (J.R s0 from').bind J.rdK
  | t + 1 => (J.U s0 from' t).bind (J.plc (from' + t))

theorem Job.U_eq (J : Job) (s0 : St) (f : Nat) (hf : f % J.size = 0) : ∀ t, 1 ≤ t → t ≤ J.size → J.U s0 f t = J.R s0 (f + t)
  | 0, h, _ => absurd h (by omega)
  | 1, _, _ => by
    show (J.U s0 f 0).bind _ = J.R s0 (f + 1)
    simp only [Job.U, Job.R, hf, if_true, Nat.add_zero]
    cases J.R s0 f <;> rfl
  | t + 2, _, h => by
    have ih := J.U_eq s0 f hf (t + 1) (by omega) (by omega)
    have hne : ¬ (f + (t + 1)) % J.size = 0 := by
      rw [Nat.add_mod, hf, Nat.zero_add, Nat.mod_mod, Nat.mod_eq_of_lt (by omega)]; omega
    show (J.U s0 f (t + 1)).bind _ = J.R s0 (f + (t + 1) + 1)
    rw [ih]
    simp only [Job.R, if_neg hne]
    cases J.R s0 (f + (t + 1)) <;> rfl
theorem Job.U_skip (J : Job) (s0 : St) : ∀ t, t ≤ ord J.kind → J.U s0 0 t = J.U s0 0 0
  | 0, _ => rfl
  | t + 1, h => by
    have ih := J.U_skip s0 t (by omega)
    show (J.U s0 0 t).bind _ = _
    rw [ih]
    have : ∀ s, J.plc (0 + t) s = some s := fun s => by unfold Job.plc; rw [if_pos (by omega)]
    cases h0 : J.U s0 0 0 with
    | none => rfl
    | some s => exact this s
theorem Job.R_none (J : Job) (s0 : St) {i j : Nat} (h : J.R s0 i = none) (hij : i ≤ j) : J.R s0 j = none := by
  induction j with
  | zero => have : i = 0 := by omega
            subst this; exact h
  | succ j ih =>
    by_cases e : i = j + 1
    · subst e; exact h
    · simp only [Job.R, ih (by omega)]; rfl
theorem Job.R_fits (J : Job) (s0 : St) (h0 : ∀ j, j < ord J.kind → fitsB J.w (s0.x j) = true) : ∀ i st, J.R s0 i = some st → ∀ j, j < max i (ord J.kind) → fitsB J.w (st.x j) = true
  | 0, st, h, j, hj => by
    simp only [Job.R, Option.some.injEq] at h
    subst h; exact h0 j (by omega)
  | i + 1, st, h, j, hj => by
    simp only [Job.R] at h
    cases hR : J.R s0 i with
    | none => rw [hR] at h; simp at h
    | some s =>
      have ih := J.R_fits s0 h0 i s hR
      rw [hR, Option.bind_some] at h
      have hx : ∃ s', (if i % J.size = 0 then J.rdK s else some s) = some s' ∧ s'.x = s.x := by
        cases hs : (if i % J.size = 0 then J.rdK s else some s) with
        | none => rw [hs] at h; simp at h
        | some s' =>
          refine ⟨s', rfl, ?_⟩
          split at hs
          · unfold Job.rdK at hs
            split at hs
            · simp only [Option.some.injEq] at hs; subst hs; rfl
            · cases hs
          · simp only [Option.some.injEq] at hs; subst hs; rfl
      obtain ⟨s', hs', hxx⟩ := hx
      rw [hs', Option.bind_some] at h
      unfold Job.plc at h
      split at h
      · rename_i hi
        simp only [Option.some.injEq] at h
        subst h; rw [hxx]; exact ih j (by omega)
      · rename_i hi
        split at h
        · cases h
        · split at h
          · rename_i hf
            simp only [Option.some.injEq] at h
            subst h
            simp only [updI]
            split
            · exact hf
            · rw [hxx]; exact ih j (by omega)
          · cases h
end Go.Proofs.YtlncjgnomhpjnaaDoor
