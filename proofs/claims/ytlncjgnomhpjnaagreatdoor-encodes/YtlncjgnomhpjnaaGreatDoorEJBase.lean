import Derived.Test.YtlncjgnomhpjnaaGreatDoorChecked
import GoSem.Claim
import GoSem.ClaimJoined
import GoSem.ClaimMapViews
import Derived.JoinedTies
import Derived.KernelRfl
import Derived.RowKit
import Derived.WalkKit
import Derived.WalkSpells
import Derived.WalkLawsBesides
import Derived.Deep.OwnRows
import Derived.Laws.CopyOwn
/-
  Small laws for worlds that only grow, and for rows of bytes that a call has made.
-/
namespace Go.Proofs.YtlncjgnomhpjnaaGreatDoor
open Go.RowKit

/-- the world has at most new memory, and nothing is frozen that was not -/
def Up (w w' : World) : Prop := Below w.heap.size w w' ∧ ∀ a, w'.frozen? a = w.frozen? a

theorem Up.refl (w : World) : Up w w := ⟨Below.refl _ _, fun _ => rfl⟩
theorem Up.trans {a b c : World} (h : Up a b) (k : Up b c) : Up a c :=
  ⟨h.1.trans (k.1.mono h.1.size), fun x => (k.2 x).trans (h.2 x)⟩
theorem Up.drew {a b : World} (h : Up a b) : Up a b.drew := ⟨h.1.drew, h.2⟩
theorem Up.alloc {a b : World} (h : Up a b) (c : Array Value) (t : TypeId) : Up a (b.alloc (.cells c t)) :=
  ⟨h.1.alloc h.1.size _, fun x => (frozen?_alloc_cells b c t x).trans (h.2 x)⟩
theorem Up.setCell {a b : World} (h : Up a b) {p : Addr} (hp : a.heap.size ≤ p.block) (v : Value) : Up a (b.setCell p v) :=
  ⟨h.1.setCell hp v, fun x => by rw [World.frozen?_setCell]; exact h.2 x⟩
theorem Up.size {a b : World} (h : Up a b) : a.heap.size ≤ b.heap.size := h.1.size
theorem Up.cell {a b : World} (h : Up a b) {p : Addr} (hp : p.block < a.heap.size) : b.cell? p = a.cell? p := h.1.cell hp
theorem Up.grown {a b : World} (h : Up a b) : Grown a b := ⟨h.1.frame _, h.2, h.1.size⟩

/-- nothing in new memory is frozen -/
theorem frozen_past (w : World) {a : Addr} (h : w.heap.size ≤ a.block) : w.frozen? a = false := by
  simp [World.frozen?, Array.getElem?_eq_none h]
theorem Up.free {a b : World} (h : Up a b) {p : Addr} (hp : a.heap.size ≤ p.block) : b.frozen? p = false := (h.2 p).trans (frozen_past a hp)

/-- a row of n bytes at the head of a block -/
def RowB (w : World) (b n : Nat) (f : Nat → Int) : Prop := ∀ j, j < n → w.cell? ⟨b, j, none⟩ = some (.int .u8 (f j))

theorem RowB.drew {w : World} {b n : Nat} {f : Nat → Int} (h : RowB w b n f) : RowB w.drew b n f := h
theorem RowB.up {w w' : World} {b n : Nat} {f : Nat → Int} (h : RowB w b n f) (u : Up w w') (hb : b < w.heap.size) : RowB w' b n f :=
  fun j hj => (u.cell hb).trans (h j hj)
theorem RowB.set {w : World} {b n : Nat} {f g : Nat → Int} (h : RowB w b n f) (i : Nat) (v : Int) (hi : i < n) (hv : g i = v) (hg : ∀ j, j < n → j ≠ i → g j = f j) :
    RowB (w.setCell ⟨b, i, none⟩ (.int .u8 v)) b n g := by
  intro j hj
  by_cases e : j = i
  · subst e; rw [World.cell?_setCell_same _ _ _ (h j hj), hv]
  · rw [World.cell?_setCell_other _ _ _ _ (by intro x; injection x; omega), h j hj, hg j hj e]
theorem RowB.made (w : World) (n : Nat) (t : TypeId) : RowB (w.alloc (.cells (madeCells #[.int .u8 0] n) t)) w.heap.size n (fun _ => 0) := by
  intro j hj
  rw [World.cell?_alloc_new]
  simp [madeCells, hj, Nat.mod_one]

/-- the string that bytes make -/
def strOf (f : Nat → UInt8) (n : Nat) : ByteArray := ⟨((List.range n).map f).toArray⟩
theorem strOf_size (f : Nat → UInt8) (n : Nat) : (strOf f n).size = n := by
  show ((List.range n).map f).toArray.size = n; simp
theorem strOf_get (f : Nat → UInt8) (n j : Nat) (h : j < (strOf f n).size) : (strOf f n)[j] = f j := by
  have h' : j < n := by rw [strOf_size] at h; exact h
  show ((List.range n).map f)[j]'(by simpa using h') = f j
  simp
theorem strOf_list (f : Nat → UInt8) (n : Nat) : (strOf f n).data.toList = (List.range n).map f := by simp [strOf]

theorem fold_push : ∀ (l : List UInt8) (s : ByteArray), l.foldl (fun r n => r.push n) s = ⟨s.data ++ l.toArray⟩
  | [], s => by simp
  | c :: l, s => by
    rw [List.foldl_cons, fold_push l]
    congr 1
    simp [ByteArray.push]

/-- 'string(b)' of such a row, or of its end -/
theorem run_rowString {P : Program} (w : World) (src dst e : TypeId) (b o n c : Nat) (f : Nat → UInt8)
    (hs : P.underlying src = some (.slice e)) (he : P.underlying e = some (.int .u8)) (hd : P.underlying dst = some .string)
    (h : ∀ j, j < n → w.cell? ⟨b, o + j, none⟩ = some (.int .u8 ((f j).toNat : Int))) :
    (convert src dst (.slice (some ⟨b, o, none⟩) n c)).run P w = .ok (.string (strOf f n)) w := by
  rw [run_convert_bytes_string w src dst e _ _ _ hs he hd]
  have hl := run_loadCells (P := P) w ⟨b, o, none⟩ n (fun j => .int .u8 ((f j).toNat : Int)) (fun j hj => by rw [← h j hj]; cases j <;> simp [Addr.add])
  have e1 : ((List.range n).map fun j => Value.int .u8 ((f j).toNat : Int)) = ((List.range n).map fun j => ((f j).toNat : Int)).map (Value.int .u8) := by simp
  rw [e1] at hl
  rw [run_bytesToString w ⟨b, o, none⟩ n c _ hl]
  congr 2
  have e2 : ∀ (l : List Nat) (s : ByteArray), (l.map fun j => ((f j).toNat : Int)).foldl (fun r n => r.push (UInt8.ofNat n.toNat)) s = (l.map f).foldl (fun r n => r.push n) s := by
    intro l
    induction l with
    | nil => intro s; rfl
    | cons x l ih => intro s; simp only [List.map_cons, List.foldl_cons]; rw [ih]; simp
  rw [e2, fold_push]
  simp [strOf]

end Go.Proofs.YtlncjgnomhpjnaaGreatDoor

/-
  Plain mathematics for 'Reads': what a subframe says, by places in a text of bits. No dump is imported.
-/
namespace Go.Proofs.YtlncjgnomhpjnaaGreatDoor

/-- the number that n bits say -/
def bitsNum (f : Nat → Bool) : Nat → Nat
  | 0 => 0
  | n + 1 => 2 * bitsNum f n + (f n).toNat
theorem bitsNum_lt (f : Nat → Bool) : ∀ n, bitsNum f n < 2 ^ n
  | 0 => by simp [bitsNum]
  | n + 1 => by
    have := bitsNum_lt f n
    have h : (f n).toNat ≤ 1 := Bool.toNat_le _
    simp only [bitsNum, Nat.pow_succ]; omega
theorem bitsNum_top (f : Nat → Bool) : ∀ n, bitsNum f (n + 1) = (f 0).toNat * 2 ^ n + bitsNum (fun i => f (i + 1)) n
  | 0 => by simp [bitsNum]
  | n + 1 => by
    have := bitsNum_top f n
    rw [bitsNum, this, bitsNum, Nat.pow_succ, ← Nat.mul_assoc]
    omega
/-- the number in k bits from place p on -/
def num (b : Nat → Bool) (p k : Nat) : Nat := bitsNum (fun i => b (p + i)) k
theorem num_lt (b : Nat → Bool) (p k : Nat) : num b p k < 2 ^ k := bitsNum_lt _ _
/-- .. of which the first stands for one below 0 -/
def sgn (b : Nat → Bool) (p k : Nat) : Int := if 2 ^ (k - 1) ≤ num b p k then (num b p k : Int) - 2 ^ k else num b p k
theorem num_top (b : Nat → Bool) (p k : Nat) (hk : 1 ≤ k) : 2 ^ (k - 1) ≤ num b p k ↔ b p = true := by
  obtain ⟨m, rfl⟩ : ∃ m, k = m + 1 := ⟨k - 1, by omega⟩
  unfold num
  rw [bitsNum_top]
  have h := bitsNum_lt (fun i => b (p + (i + 1))) m
  simp only [Nat.add_sub_cancel, Nat.add_zero]
  cases b p
  · simp; omega
  · simp

/-- how many 0s stand from place p on, of at most m places -/
def zrun (b : Nat → Bool) : Nat → Nat → Nat
  | 0, _ => 0
  | m + 1, p => if b p then 0 else zrun b m (p + 1) + 1
theorem zrun_le (b : Nat → Bool) : ∀ m p, zrun b m p ≤ m
  | 0, _ => Nat.le_refl _
  | m + 1, p => by
    unfold zrun
    have := zrun_le b m (p + 1)
    split <;> omega
theorem zrun_zero (b : Nat → Bool) : ∀ m p i, i < zrun b m p → b (p + i) = false
  | 0, _, i, h => absurd h (by simp [zrun])
  | m + 1, p, i, h => by
    unfold zrun at h
    by_cases e : b p = true
    · simp [e] at h
    · simp only [e] at h
      cases i with
      | zero => simpa using e
      | succ i =>
        have := zrun_zero b m (p + 1) i (by simp at h; omega)
        rw [← this]; congr 1; omega
theorem zrun_one (b : Nat → Bool) : ∀ m p, zrun b m p < m → b (p + zrun b m p) = true
  | 0, _, h => absurd h (by omega)
  | m + 1, p, h => by
    unfold zrun at h ⊢
    by_cases e : b p = true
    · simp [e]
    · simp only [e] at h ⊢
      simp at h ⊢
      have := zrun_one b m (p + 1) (by omega)
      rw [← this]; congr 1; omega
/-- whoever counts 0s comes to this -/
theorem zrun_eq (b : Nat → Bool) (m p q : Nat) (hq : q ≤ m) (h0 : ∀ i, i < q → b (p + i) = false) (h1 : q < m → b (p + q) = true) : zrun b m p = q := by
  have hle := zrun_le b m p
  by_cases h : zrun b m p < q
  · have := zrun_one b m p (by omega)
    rw [h0 _ h] at this; cases this
  · by_cases h2 : q < zrun b m p
    · have := zrun_zero b m p q h2
      rw [h1 (by omega)] at this; cases this
    · omega

/-- a letter for a bit -/
def ltr (b : Bool) : UInt8 := if b then 49 else 48
theorem ltr_nat (b : Bool) : (ltr b).toNat = 48 + b.toNat := by cases b <;> rfl
/-- a text says these bits -/
def Bits (s : ByteArray) (b : Nat → Bool) : Prop := ∀ j (h : j < s.size), s[j] = ltr (b j)

/-- what a fold stands for -/
def unf (f : Nat) : Int := if f % 2 = 0 then (f : Int) / 2 else -(((f : Int) + 1) / 2)

/-- the number whose Rice code by k stands at place p, and the place behind it -/
def rice (b : Nat → Bool) (N k p : Nat) : Option (Int × Nat) :=
  if p + zrun b (N - p) p + 1 + k ≤ N then some (unf (zrun b (N - p) p * 2 ^ k + num b (p + zrun b (N - p) p + 1) k), p + zrun b (N - p) p + 1 + k) else none

theorem unf_bd (f : Nat) : -(f : Int) - 1 ≤ unf f ∧ unf f ≤ f := by
  unfold unf; split <;> omega
theorem rice_bd {b : Nat → Bool} {N k p p' : Nat} {v : Int} (h : rice b N k p = some (v, p')) (hN : N ≤ 80000) (hk : k ≤ 14) : (-1400000000 ≤ v ∧ v ≤ 1400000000) ∧ p ≤ p' ∧ p' ≤ N := by
  unfold rice at h
  split at h
  · rename_i hle
    simp only [Option.some.injEq, Prod.mk.injEq] at h
    obtain ⟨rfl, rfl⟩ := h
    have h2 : 2 ^ k ≤ 16384 := Nat.le_trans (Nat.pow_le_pow_right (by omega) hk) (by decide)
    have h3 := num_lt b (p + zrun b (N - p) p + 1) k
    have h4 : zrun b (N - p) p * 2 ^ k ≤ 80000 * 16384 := Nat.mul_le_mul (by omega) h2
    have h5 := unf_bd (zrun b (N - p) p * 2 ^ k + num b (p + zrun b (N - p) p + 1) k)
    refine ⟨⟨by omega, by omega⟩, by omega, hle⟩
  · cases h

/-- how often each of the samples ahead is taken -/
def tab (r c : Nat) : Int :=
  match r, c with
  | 1, 0 => 1
  | 2, 0 => 2
  | 2, 1 => -1
  | 3, 0 => 3
  | 3, 1 => -3
  | 3, 2 => 1
  | 4, 0 => 4
  | 4, 1 => -6
  | 4, 2 => 4
  | 4, 3 => -1
  | _, _ => 0
def ord (kind : Nat) : Nat := if kind = 7 then 2 else kind - 2
/-- by how many bits a kind's weighted sum is divided -/
def scl (kind : Nat) : Nat := if kind = 7 then 3 else 0
def wt (kind : Nat) (a c : Int) (j : Nat) : Int := if kind = 7 then (if j = 0 then a else if j = 1 then c else 0) else tab (kind - 2) j
def sumG (w : Nat → Int) (x : Nat → Int) (i : Nat) : Nat → Int
  | 0 => 0
  | m + 1 => sumG w x i m + w m * x (i - 1 - m)
def guessG (kind : Nat) (a c : Int) (x : Nat → Int) (i : Nat) : Int := sumG (wt kind a c) x i (ord kind) / (if kind = 7 then 8 else 1)

def within (v lo hi : Int) : Bool := decide (lo ≤ v) && decide (v ≤ hi)
theorem within_iff (v lo hi : Int) : within v lo hi = true ↔ lo ≤ v ∧ v ≤ hi := by simp [within]
def fitsB (d : Nat) (v : Int) : Bool := within v (-(2 ^ (d - 1))) (2 ^ (d - 1) - 1)

theorem pow12 {d : Nat} (h : d ≤ 13) : (2 : Int) ^ (d - 1) ≤ 4096 := by
  have h1 : 2 ^ (d - 1) ≤ 4096 := Nat.le_trans (Nat.pow_le_pow_right (by omega) (by omega : d - 1 ≤ 12)) (by decide)
  have e : ((2 ^ (d - 1) : Nat) : Int) = (2 : Int) ^ (d - 1) := by simp
  rw [← e]; exact Int.ofNat_le.2 h1
theorem fits_bd {d : Nat} {v : Int} (h : fitsB d v = true) (hd : d ≤ 13) : -4096 ≤ v ∧ v ≤ 4096 := by
  unfold fitsB at h
  rw [within_iff] at h
  have := pow12 hd
  omega
theorem sgn_fits (b : Nat → Bool) (p : Nat) {d : Nat} (h1 : 1 ≤ d) : fitsB d (sgn b p d) = true := by
  unfold fitsB sgn
  rw [within_iff]
  have h2 := num_lt b p d
  have e0 : 2 ^ d = 2 * 2 ^ (d - 1) := by
    obtain ⟨m, rfl⟩ : ∃ m, d = m + 1 := ⟨d - 1, by omega⟩
    rw [Nat.pow_succ]; simp [Nat.mul_comm]
  have e1 : (2 : Int) ^ d = 2 * 2 ^ (d - 1) := by
    obtain ⟨m, rfl⟩ : ∃ m, d = m + 1 := ⟨d - 1, by omega⟩
    rw [Int.pow_succ]; simp [Int.mul_comm]
  have e2 : ((2 ^ (d - 1) : Nat) : Int) = (2 : Int) ^ (d - 1) := by simp
  rw [e0] at h2
  generalize hq : 2 ^ (d - 1) = q at *
  rw [e1, ← e2]
  split <;> omega

/-- where a reading is -/
structure St where
  p : Nat
  k : Nat
  x : Nat → Int

def updI (x : Nat → Int) (i : Nat) (v : Int) (j : Nat) : Int := if j = i then v else x j

/-- what is read: the text, its length, the short samples' width, the kind, a and b, the places of a part -/
structure Job where
  b : Nat → Bool
  N : Nat
  w : Nat
  kind : Nat
  a : Int
  c : Int
  size : Nat

/-- a part's parameter -/
def Job.rdK (J : Job) (s : St) : Option St := if s.p + 4 ≤ J.N ∧ num J.b s.p 4 ≤ 14 then some ⟨s.p + 4, num J.b s.p 4, s.x⟩ else none
/-- a place -/
def Job.plc (J : Job) (i : Nat) (s : St) : Option St :=
  if i < ord J.kind then some s else
    match rice J.b J.N s.k s.p with
    | none => none
    | some (v, p') => if fitsB J.w (guessG J.kind J.a J.c s.x i + v) then some ⟨p', s.k, updI s.x i (guessG J.kind J.a J.c s.x i + v)⟩ else none
theorem Job.plc_none {J : Job} {i : Nat} {s : St} (hi : ¬ i < ord J.kind) (h : rice J.b J.N s.k s.p = none) : J.plc i s = none := by
  unfold Job.plc; rw [if_neg hi, h]
theorem Job.plc_no {J : Job} {i : Nat} {s : St} {v : Int} {p' : Nat} (hi : ¬ i < ord J.kind) (h : rice J.b J.N s.k s.p = some (v, p')) (hf : fitsB J.w (guessG J.kind J.a J.c s.x i + v) = false) : J.plc i s = none := by
  unfold Job.plc; rw [if_neg hi, h]; simp only [hf]; rfl
theorem Job.plc_yes {J : Job} {i : Nat} {s : St} {v : Int} {p' : Nat} (hi : ¬ i < ord J.kind) (h : rice J.b J.N s.k s.p = some (v, p')) (hf : fitsB J.w (guessG J.kind J.a J.c s.x i + v) = true) :
    J.plc i s = some ⟨p', s.k, updI s.x i (guessG J.kind J.a J.c s.x i + v)⟩ := by
  unfold Job.plc; rw [if_neg hi, h]; simp only [hf]; rfl
/-- the first i places -/
def Job.R (J : Job) (s0 : St) : Nat → Option St
  | 0 => some s0
  | i + 1 => (J.R s0 i).bind fun s => (if i % J.size = 0 then J.rdK s else some s).bind (J.plc i)
/-- a part's parameter, and so many places of it -/
def Job.U (J : Job) (s0 : St) (from' : Nat) : Nat → Option St
  | 0 => (J.R s0 from').bind J.rdK
  | t + 1 => (J.U s0 from' t).bind (J.plc (from' + t))

theorem Job.U_eq (J : Job) (s0 : St) (f : Nat) (hf : f % J.size = 0) : ∀ t, 1 ≤ t → t ≤ J.size → J.U s0 f t = J.R s0 (f + t)
  | 0, h, _ => absurd h (by omega)
  | 1, _, _ => by
    show (J.U s0 f 0).bind _ = J.R s0 (f + 1)
    simp only [Job.U, Job.R, hf, if_true, Nat.add_zero]
    cases J.R s0 f <;> rfl
  | t + 2, _, h => by
    have ih := J.U_eq s0 f hf (t + 1) (by omega) (by omega)
    have hne : ¬ (f + (t + 1)) % J.size = 0 := by
      rw [Nat.add_mod, hf, Nat.zero_add, Nat.mod_mod, Nat.mod_eq_of_lt (by omega)]; omega
    show (J.U s0 f (t + 1)).bind _ = J.R s0 (f + (t + 1) + 1)
    rw [ih]
    simp only [Job.R, if_neg hne]
    cases J.R s0 (f + (t + 1)) <;> rfl
theorem Job.U_skip (J : Job) (s0 : St) : ∀ t, t ≤ ord J.kind → J.U s0 0 t = J.U s0 0 0
  | 0, _ => rfl
  | t + 1, h => by
    have ih := J.U_skip s0 t (by omega)
    show (J.U s0 0 t).bind _ = _
    rw [ih]
    have : ∀ s, J.plc (0 + t) s = some s := fun s => by unfold Job.plc; rw [if_pos (by omega)]
    cases h0 : J.U s0 0 0 with
    | none => rfl
    | some s => exact this s
theorem Job.R_none (J : Job) (s0 : St) {i j : Nat} (h : J.R s0 i = none) (hij : i ≤ j) : J.R s0 j = none := by
  induction j with
  | zero => have : i = 0 := by omega
            subst this; exact h
  | succ j ih =>
    by_cases e : i = j + 1
    · subst e; exact h
    · simp only [Job.R, ih (by omega)]; rfl
theorem Job.R_fits (J : Job) (s0 : St) (h0 : ∀ j, j < ord J.kind → fitsB J.w (s0.x j) = true) : ∀ i st, J.R s0 i = some st → ∀ j, j < max i (ord J.kind) → fitsB J.w (st.x j) = true
  | 0, st, h, j, hj => by
    simp only [Job.R, Option.some.injEq] at h
    subst h; exact h0 j (by omega)
  | i + 1, st, h, j, hj => by
    simp only [Job.R] at h
    cases hR : J.R s0 i with
    | none => rw [hR] at h; simp at h
    | some s =>
      have ih := J.R_fits s0 h0 i s hR
      rw [hR, Option.bind_some] at h
      have hx : ∃ s', (if i % J.size = 0 then J.rdK s else some s) = some s' ∧ s'.x = s.x := by
        cases hs : (if i % J.size = 0 then J.rdK s else some s) with
        | none => rw [hs] at h; simp at h
        | some s' =>
          refine ⟨s', rfl, ?_⟩
          split at hs
          · unfold Job.rdK at hs
            split at hs
            · simp only [Option.some.injEq] at hs; subst hs; rfl
            · cases hs
          · simp only [Option.some.injEq] at hs; subst hs; rfl
      obtain ⟨s', hs', hxx⟩ := hx
      rw [hs', Option.bind_some] at h
      unfold Job.plc at h
      split at h
      · rename_i hi
        simp only [Option.some.injEq] at h
        subst h; rw [hxx]; exact ih j (by omega)
      · rename_i hi
        split at h
        · cases h
        · split at h
          · rename_i hf
            simp only [Option.some.injEq] at h
            subst h
            simp only [updI]
            split
            · exact hf
            · rw [hxx]; exact ih j (by omega)
          · cases h
end Go.Proofs.YtlncjgnomhpjnaaGreatDoor

/-
  The lists that are lent: 'lend', 'whole', 'spoil', 'shows'.
-/
namespace Go.Proofs.YtlncjgnomhpjnaaGreatDoor
open Go.RowKit Go.Deep

theorem infoInt : (Tryz.prog.info? 3).map (fun i => (i.zero, i.size, i.bytes)) = some (some (.int .i64 0), 1, 8) := by kernel_rfl
theorem sizeInt : (Tryz.prog.info? 3).map (·.size) = some 1 := by kernel_rfl

/-- what a slice of numbers holds -/
def IntsAt (w : World) (a : Option Addr) (n : Nat) (f : Nat → Int) : Prop := ∀ i, i < n → ∃ x, a = some x ∧ w.cell? (x.add i) = some (.int .i64 (f i))

theorem IntsAt.open {w : World} {a : Option Addr} {n : Nat} {f : Nat → Int} (h : IntsAt w a n f) (hn : 0 < n) :
    ∃ b off, a = some ⟨b, off, none⟩ ∧ ∀ i, i < n → w.cell? ⟨b, off + i, none⟩ = some (.int .i64 (f i)) := by
  obtain ⟨⟨b, off, sp⟩, rfl, hc⟩ := h 0 hn
  have hs : sp = none := by simpa [Addr.add] using World.cell?_spot hc
  subst hs
  refine ⟨b, off, rfl, fun i hi => ?_⟩
  obtain ⟨x, hx, hc⟩ := h i hi
  cases hx
  rw [← hc]
  cases i <;> simp [Addr.add]

/-- the row that is lent -/
def lentRow (n : Nat) (f : Nat → Int) (i : Nat) : Value := .int .i64 (if i < n then f i else 77)

/-- the row while it is filled -/
def fillRow (n : Nat) (f : Nat → Int) (k i : Nat) : Value := .int .i64 (if i < n then f i else if i < k then 77 else 0)
theorem fillRow_full (n : Nat) (f : Nat → Int) (i : Nat) (h : i < n + 8) : fillRow n f (n + 8) i = lentRow n f i := by
  unfold fillRow lentRow
  by_cases e : i < n
  · simp [e]
  · simp [e, h]
theorem fillRow_step {w : World} {b : Nat} {t : TypeId} {n k : Nat} {f : Nat → Int} (hk : n ≤ k) (h : w.rowIs b t (n + 8) (fillRow n f k)) :
    (w.setCell ⟨b, k, none⟩ (.int .i64 77)).rowIs b t (n + 8) (fillRow n f (k + 1)) := by
  refine (h.set k (.int .i64 77)).congr fun i _ => ?_
  unfold fillRow
  by_cases e : i = k
  · subst e; simp; omega
  · simp only [if_neg e]
    by_cases e1 : i < n
    · simp [e1]
    · by_cases e2 : i < k
      · simp [e2]; omega
      · simp [e1, e2]; omega
theorem fillRow_start {w : World} {b : Nat} {t : TypeId} {n : Nat} {f : Nat → Int}
    (h : w.heap[b]? = some (.cells (splice (List.replicate (n + 8) (Value.int .i64 0)) 0 ((List.range n).map fun i => .int .i64 (f i))).toArray t (0, 0))) :
    w.rowIs b t (n + 8) (fillRow n f n) := by
  refine ⟨_, h, ?_, fun i hi => ?_⟩
  · simp [splice]
  · simp only [splice, List.take_zero, List.nil_append, List.getElem?_toArray, Nat.zero_add, List.length_map, List.length_range]
    unfold fillRow
    by_cases e : i < n
    · rw [List.getElem?_append_left (by simpa using e)]; simp [e]
    · rw [List.getElem?_append_right (by simp; omega)]
      rw [List.drop_replicate, List.getElem?_replicate]
      simp [e]; omega

def lentA (a : Option Addr) (b : Nat) : Option Addr := a.map fun _ => ⟨b, 0, none⟩
def lentC (a : Option Addr) (n : Nat) : Nat := if a.isNone then 0 else n + 8

/-- 'copy' into the new row -/
theorem lend_copy (x : Addr) (n c : Nat) (f : Nat → Int) (w0 w : World) (g : Nat) (hI : IntsAt w (some x) n f)
    (hblk : w.heap[g]? = some (.cells (List.replicate (n + 8) (Value.int .i64 0)).toArray 3 (0, 0))) (hb : Below w0.heap.size w0 w) (hg : w0.heap.size ≤ g) :
    ∃ w2, (∀ ty, (Builtin.copy_ #[29, 29] ty #[.slice (some ⟨g, 0, none⟩) (n + 8) (n + 8), .slice (some x) n c]).run Tryz.prog w = .ok (goInt n) w2) ∧
      w2.rowIs g 3 (n + 8) (fillRow n f n) ∧ Below w0.heap.size w0 w2 := by
  by_cases h0 : n = 0
  · subst h0
    refine ⟨w, fun ty => ?_, fillRow_start (by simpa [splice] using hblk), hb⟩
    exact run_copy_none (P := Tryz.prog) w 29 29 ty 3 _ _ _ _ _ _ Tryz.underlying29 sizeInt (by simp [Nat.min])
  · have hlen : ((List.range n).map fun i => Value.int .i64 (f i)).length = n := by simp
    refine ⟨_, fun ty => ?_, fillRow_start (w := w.setRow g _) (n := n) (f := f) (setRow_heap w g _ _ 3 _ hblk), below_setRow hb hg _⟩
    have h := run_copy_row (P := Tryz.prog) w 29 29 ty 3 g 0 (n + 8) (n + 8) x n c _ 3 ((List.range n).map fun i => .int .i64 (f i)) Tryz.underlying29 sizeInt hblk
      (by rw [hlen]; simp [Nat.min])
      (fun j v hj => by
        have hj2 : j < n := by have := (List.getElem?_eq_some_iff.1 hj).1; simpa using this
        obtain ⟨y, hy, hc⟩ := hI j hj2
        cases hy
        rw [hc, ← hj]; simp [hj2])
      (by rw [hlen]; simp) (by intro v hv; obtain ⟨i, _, rfl⟩ := List.mem_map.1 hv; rfl)
    rw [hlen] at h
    rw [h]
    simp [splice]

set_option maxHeartbeats 400000 in
theorem lend_some (x : Addr) (n c : Nat) (f : Nat → Int) (w : World) (hn : n ≤ 17592186044416) (hI : IntsAt w (some x) n f) (hx : 0 < n → x.block < w.heap.size) :
    Calls Tryz.prog 68 #[.slice (some x) n c] w fun e w' => e = .returned (.slice (some ⟨w.heap.size, 0, none⟩) n (n + 8)) ∧ w'.rowIs w.heap.size 3 (n + 8) (lentRow n f) ∧ Below w.heap.size w w' := by
  have hmk := run_make_row' (P := Tryz.prog) 29 3 (.int .i64 0) 8 Tryz.underlying29 infoInt rfl .i64 .i64 (n + 8) (by omega) (by omega)
  have ec : ((n + 8 : Nat) : Int) = (n : Int) + 8 := by omega
  rw [ec] at hmk
  have hb0 : Below w.heap.size w (w.alloc (.cells (madeCells #[.int .i64 0] (n + 8)) 3)) := (Below.refl _ _).alloc (Nat.le_refl _) _
  have hblk : (w.alloc (.cells (madeCells #[.int .i64 0] (n + 8)) 3)).heap[w.heap.size]? = some (.cells (List.replicate (n + 8) (Value.int .i64 0)).toArray 3 (0, 0)) := by
    rw [← toList_madeCells_one]; exact blk_alloc_new _ _
  have hI2 : IntsAt (w.alloc (.cells (madeCells #[.int .i64 0] (n + 8)) 3)) (some x) n f := fun i hi => by
    obtain ⟨y, hy, hc⟩ := hI i hi
    cases hy
    refine ⟨x, rfl, ?_⟩
    rw [hb0.cell (by have := hx (by omega); cases i <;> simpa [Addr.add] using this), hc]
  obtain ⟨w2, hcp, hrow, hbel⟩ := lend_copy x n c f w _ w.heap.size hI2 hblk hb0 (Nat.le_refl _)
  have hnil := fun u : World => Lib.run_eql_slice_nil (P := Tryz.prog) u 29 3 (some x) n c 0 0 Tryz.underlying29
  clear hblk hI2 hb0 hI hx ec
  go_enter Tryz.func68, Tryz.ntmps68
  go_wp2
  clear hmk hcp hnil
  go_loopw [5] (fun i wr => ∃ k : Nat, n ≤ k ∧ k ≤ n + 8 ∧ i = .int .i64 k ∧ wr.rowIs w.heap.size 3 (n + 8) (fillRow n f k) ∧ Below w.heap.size w wr) (fun i _ => n + 8 - (intOf i).toNat)
  case atStart => exact ⟨n, Nat.le_refl _, by omega, rfl, hrow, hbel⟩
  case round =>
    clear hrow hbel
    obtain ⟨k, hk1, hk2, rfl, hrow, hbel⟩ := hrel
    by_cases hlt : k < n + 8
    · have hc1 := hrow.cell hlt
      have hf1 := hrow.frozen k
      go_wp2
      go_roundw
      case rel => exact ⟨k + 1, by omega, by omega, by go_num, fillRow_step hk1 hrow, hbel.setCell (Nat.le_refl _) _⟩
      case measure => simp [intOf]; omega
    · have e : k = n + 8 := by omega
      subst e
      go_wp2
      go_ret
      exact ⟨rfl, hrow.congr fun i hi => fillRow_full n f i hi, hbel⟩

set_option maxHeartbeats 400000 in
theorem lend_none (w : World) :
    Calls Tryz.prog 68 #[.slice none 0 0] w fun e w' => e = .returned (.slice none 0 0) ∧ w' = w := by
  have hnil := fun u : World => Lib.run_eql_slice_nil (P := Tryz.prog) u 29 3 none 0 0 0 0 Tryz.underlying29
  go_enter Tryz.func68, Tryz.ntmps68
  go_wp2
  go_ret
  exact ⟨rfl, rfl⟩

set_option maxHeartbeats 400000 in
theorem whole_some (x : Addr) (n c B : Nat) (f : Nat → Int) (w : World) (hn : n ≤ 17592186044416) (hI : IntsAt w (some x) n f) (hrow : w.rowIs B 3 (n + 8) (lentRow n f)) :
    Calls Tryz.prog 72 #[.slice (some ⟨B, 0, none⟩) n (n + 8), .slice (some x) n c] w fun e w' => e = .returned (.bool true) ∧ w' = w := by
  have hnil := fun u : World => Lib.run_eql_slice_nil (P := Tryz.prog) u 29 3 (some x) n c 0 0 Tryz.underlying29
  have HI : Hid (IntsAt w (some x) n f) := hI
  clear hI
  go_enter Tryz.func72, Tryz.ntmps72
  go_wp2
  clear hnil
  go_loop [7, 8] (fun i _ => ∃ k : Nat, k ≤ n + 8 ∧ i = .int .i64 k) (fun i _ => n + 8 - (intOf i).toNat)
  case atStart => exact ⟨0, Nat.zero_le _, rfl⟩
  case round =>
    obtain ⟨k, hk, rfl⟩ := hrel
    by_cases hlt : k < n + 8
    · by_cases hkn : k < n
      · obtain ⟨b, off, hx, hc⟩ := HI.out.open (by omega)
        cases hx
        have hc1 := hc k hkn
        have hc2 := hrow.cell hlt
        unfold lentRow at hc2
        rw [if_pos hkn] at hc2
        clear hc
        go_wp2
        go_round
        case rel => exact ⟨k + 1, by omega, by go_num⟩
        case measure => simp [intOf]; omega
      · have hc2 := hrow.cell hlt
        unfold lentRow at hc2
        rw [if_neg hkn] at hc2
        go_wp2
        go_round
        case rel => exact ⟨k + 1, by omega, by go_num⟩
        case measure => simp [intOf]; omega
    · go_wp2
      go_ret
      exact ⟨rfl, rfl⟩

set_option maxHeartbeats 400000 in
theorem whole_none (v : Value) (w : World) :
    Calls Tryz.prog 72 #[v, .slice none 0 0] w fun e w' => e = .returned (.bool true) ∧ w' = w := by
  have hnil := fun u : World => Lib.run_eql_slice_nil (P := Tryz.prog) u 29 3 none 0 0 0 0 Tryz.underlying29
  go_enter Tryz.func72, Tryz.ntmps72
  go_wp2
  go_ret
  exact ⟨rfl, rfl⟩

/-- the row while it is written over -/
def overRow (g : Nat → Value) (v : Int) (k i : Nat) : Value := if i < k then .int .i64 v else g i
theorem overRow_step {w : World} {b : Nat} {t : TypeId} {n k : Nat} {g : Nat → Value} {v : Int} (h : w.rowIs b t n (overRow g v k)) :
    (w.setCell ⟨b, k, none⟩ (.int .i64 v)).rowIs b t n (overRow g v (k + 1)) := by
  refine (h.set k (.int .i64 v)).congr fun i _ => ?_
  unfold overRow
  by_cases e : i = k
  · subst e; simp
  · simp only [if_neg e]
    by_cases e2 : i < k
    · rw [if_pos e2, if_pos (by omega)]
    · rw [if_neg e2, if_neg (by omega)]

/-- only one block has turned -/
structure Only (b : Nat) (w w' : World) : Prop where
  os : w'.os = w.os
  tape : w'.tape = w.tape
  output : w'.output = w.output
  size : w'.heap.size = w.heap.size
  block : ∀ k, k ≠ b → w'.heap[k]? = w.heap[k]?
theorem Only.refl (b : Nat) (w : World) : Only b w w := ⟨rfl, rfl, rfl, rfl, fun _ _ => rfl⟩
theorem Only.set {b : Nat} {w w' : World} (h : Only b w w') (i : Nat) (v : Value) : Only b w (w'.setCell ⟨b, i, none⟩ v) :=
  ⟨h.os, h.tape, h.output, by rw [World.size_setCell]; exact h.size, fun k hk => (blk_setCell_other _ _ _ _ (by simpa using hk)).trans (h.block k hk)⟩
theorem Only.below {b B : Nat} {w w' : World} (h : Only b w w') (hb : B ≤ b) : Below B w w' :=
  ⟨h.os, h.tape, h.output, Nat.le_of_eq h.size.symm, fun k hk => h.block k (by omega)⟩
theorem Only.row {b : Nat} {w w' : World} (h : Only b w w') {c : Nat} {t : TypeId} {n : Nat} {f : Nat → Value} (hr : w.rowIs c t n f) (hc : c ≠ b) : w'.rowIs c t n f :=
  hr.of_block (h.block c hc)

set_option maxHeartbeats 400000 in
theorem shows_yes (a : Option Addr) (n c : Nat) (v : Int) (w : World) (hn : n ≤ 17592186044416) (hI : IntsAt w a n (fun _ => v)) :
    Calls Tryz.prog 46 #[.slice a n c, .int .i64 n, .int .i64 v] w fun e w' => e = .returned (.bool true) ∧ w' = w := by
  have HI : Hid (IntsAt w a n (fun _ => v)) := hI
  clear hI
  go_enter Tryz.func46, Tryz.ntmps46
  go_wp2
  go_loop [7] (fun i => ∃ k : Nat, k ≤ n ∧ i = .int .i64 k) (fun i => n - (intOf i).toNat)
  case atStart => exact ⟨0, Nat.zero_le _, rfl⟩
  case round =>
    obtain ⟨k, hk, rfl⟩ := hrel
    by_cases hlt : k < n
    · obtain ⟨b, off, hx, hc⟩ := HI.out.open (by omega)
      cases hx
      have hc1 := hc k hlt
      clear hc
      go_wp2
      go_round
      case rel => exact ⟨k + 1, by omega, by go_num⟩
      case measure => simp [intOf]; omega
    · go_wp2
      go_ret
      exact ⟨rfl, rfl⟩

end Go.Proofs.YtlncjgnomhpjnaaGreatDoor

