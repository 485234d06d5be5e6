import Derived.Test.YtlncjgnomhpjnaaGreatDoorPS16
import Derived.Test.YtlncjgnomhpjnaaGreatDoorPS3
import Derived.Test.YtlncjgnomhpjnaaGreatDoorPS15
import Derived.Test.YtlncjgnomhpjnaaGreatDoorPS1
import Derived.Test.YtlncjgnomhpjnaaGreatDoorPS6
/-
  Plain mathematics for 'Tight': a subframe is read back.
-/
namespace Go.Proofs.YtlncjgnomhpjnaaGreatDoor
set_option linter.unusedVariables false
theorem nums_at {b : Nat → Bool} {p w : Nat} {x : Nat → Int} : ∀ {m j : Nat}, SaysT b p (numsT x w m) → j < m → SaysT b (posn p w j) (binT (x j) w)
  | 0, j, _, hj => absurd hj (Nat.not_lt_zero j)
  | m + 1, j, h, hj => by
    simp only [numsT] at h
    by_cases e : j = m
    · subst e
      have := h.right
      rw [numsT_length] at this
      exact this
    · exact nums_at h.left (by omega)
theorem bestK_zero (w : Nat) (x : Nat → Int) (n : Nat) : ∀ j, bestK w x n j = 0 → allSame x n = true
  | 0, h => by
    unfold bestK at h
    cases e : allSame x n with
    | true => rfl
    | false => rw [e] at h; simp at h
  | j + 1, h => by
    unfold bestK at h
    split at h
    · omega
    · exact bestK_zero w x n j h
theorem short_mul (l : Nat → Int) (n width j : Nat) (hj : j < n) : shortX l n width j * 2 ^ shiftN l n width = l j :=
  Int.ediv_mul_cancel (Int.dvd_of_emod_eq_zero (shiftT_div l n (width - 1) j hj))
theorem short_fits (l : Nat → Int) (n width j : Nat) (hw1 : 1 ≤ width) (hj : j < n) (hf : fitsB width (l j) = true) : fitsB (width - shiftN l n width) (shortX l n width j) = true := by
  have hs : shiftN l n width ≤ width - 1 := shiftT_le _ _ _
  have hm := short_mul l n width j hj
  unfold fitsB at hf ⊢
  rw [within_iff] at hf ⊢
  generalize shortX l n width j = x at *
  generalize shiftN l n width = s at *
  have e : (2 : Int) ^ (width - 1) = 2 ^ (width - s - 1) * 2 ^ s := by rw [← Int.pow_add]; congr 1; omega
  have hp := ip2_pos s
  rw [e, ← hm] at hf
  generalize (2 : Int) ^ (width - s - 1) = q at *
  generalize (2 : Int) ^ s = r at *
  constructor
  · have h1 : -q * r ≤ x * r := by rw [Int.neg_mul]; exact hf.1
    exact Int.le_of_mul_le_mul_right h1 hp
  · have h1 : x * r < q * r := by omega
    have := Int.lt_of_mul_lt_mul_right h1 (Int.le_of_lt hp)
    omega
theorem body_back {b : Nat → Bool} {N kind W n p : Nat} {x : Nat → Int} (h7 : kind ≤ 7) (hn1 : 1 ≤ n) (hW1 : 1 ≤ W) (hW : W ≤ 13) (hfit : ∀ j, j < n → fitsB W (x j) = true) (h0 : kind = 0 → allSame x n = true) (hok : 2 ≤ kind → okG kind x n = true)
    (hT : SaysT b p (bodyT kind W x n)) (hL : p + bodyL kind W x n ≤ N) : ∃ r, bodySt b N kind W n p = some r ∧ r.2 = p + bodyL kind W x n ∧ ∀ j, j < n → r.1 j = x j := by
  unfold bodySt
  unfold bodyT at hT
  unfold bodyL at hL ⊢
  by_cases k0 : kind = 0
  · rw [if_pos k0] at hT hL ⊢
    rw [if_pos k0, if_pos hL]
    refine ⟨_, rfl, rfl, fun j hj => ?_⟩
    show sgn b p W = x j
    rw [sgn_bin hT hW1 (hfit 0 (by omega)), (allSame_iff x n).1 (h0 k0) j hj]
  · rw [if_neg k0] at hT hL ⊢
    rw [if_neg k0]
    by_cases k1 : kind = 1
    · rw [if_pos k1] at hT hL ⊢
      rw [if_pos k1, if_pos (show posn p W n ≤ N from hL)]
      exact ⟨_, rfl, rfl, fun j hj => sgn_bin (nums_at hT hj) hW1 (hfit j hj)⟩
    · rw [if_neg k1] at hT hL ⊢
      have h2 : 2 ≤ kind := by omega
      have hg := hok h2
      have hon : ord kind < n := by unfold okG at hg; rw [Bool.and_eq_true, decide_eq_true_eq] at hg; exact hg.1
      rw [if_neg k1, if_neg (by omega)]
      unfold gT at hT
      unfold gL at hL ⊢
      have hx := hT.left
      have hr := hT.right
      rw [numsT_length] at hr
      rw [if_pos (show posn p W (ord kind) ≤ N by unfold posn; omega)]
      have hxs : ∀ j, j < ord kind → sgn b (posn p W j) W = x j := fun j hj => sgn_bin (nums_at hx hj) hW1 (hfit j (by omega))
      have hbc := bestC_le (fR kind x n) (ord kind) n 3
      have hcok := bestC_ok (fR kind x n) (ord kind) n hon 3
      have key : ∀ (a c : Int) (p2 : Nat), a = wA kind x n → c = wB kind x n → SaysT b p2 (cutT (fR kind x n) (ord kind) n (bC kind x n)) → p2 + cutL (fR kind x n) (ord kind) n (bC kind x n) ≤ N →
          ∃ st, restsSt b N W kind a c n p2 (fun i => sgn b (posn p W i) W) = some st ∧ st.p = p2 + cutL (fR kind x n) (ord kind) n (bC kind x n) ∧ ∀ j, j < n → st.x j = x j := by
        intro a c p2 ha hc hcut hcl
        unfold cutT at hcut
        unfold cutL at hcl ⊢
        have hb2 := hcut.left
        have hpt := hcut.right
        rw [binT_length] at hpt
        have hnum : num b p2 2 = bC kind x n := num_binN hb2 (show bestC (fR kind x n) (ord kind) n 3 < 2 ^ 2 from Nat.lt_of_le_of_lt hbc (by decide))
        have hcf := cut_facts (show cutB n (ord kind) (bC kind x n) = true from hcok)
        unfold restsSt
        rw [hnum, if_pos ⟨by omega, hcok⟩]
        have hJs : (theJob b N W kind a c n p2).size = n / 2 ^ bC kind x n := by show n / 2 ^ num b p2 2 = _; rw [hnum]
        obtain ⟨st, hst, hat⟩ := rests_back (theJob b N W kind a c n p2) x n (2 ^ bC kind x n) (p2 + 2) (fR kind x n) ⟨p2 + 2, 0, fun i => sgn b (posn p W i) W⟩ ⟨rfl, hxs⟩
          (by rw [hJs]; exact hcf.1.symm) (by rw [hJs]; exact hcf.2) hfit (fun i => by show fR kind x n i = foldN (x i - guessG kind a c x i); rw [ha, hc]; rfl) (by rw [hJs]; exact hpt) (by rw [hJs]; show _ ≤ N; simp only [theJob]; omega) (2 ^ bC kind x n) (Nat.le_refl _)
        rw [hJs] at hst hat
        have e : 2 ^ bC kind x n * (n / 2 ^ bC kind x n) = n := by rw [Nat.mul_comm]; exact hcf.1
        rw [e] at hst hat
        exact ⟨st, hst, by rw [hat.p]; simp only [theJob]; omega, fun j hj => hat.x j (by simp only [theJob]; omega)⟩
      by_cases k7 : kind = 7
      · rw [if_pos k7] at hr hL ⊢
        rw [if_pos k7, if_pos (by unfold posn; omega)]
        have ha := hr.left.left
        have hb := hr.left.right
        have hc := hr.right
        rw [binT_length] at hb
        rw [List.length_append, binT_length, binT_length] at hc
        have hab := clamp_bd (8 * lag x 1 n * (lag x 0 n - lag x 2 n) / leanD x n)
        have hbb := clamp_bd (8 * (lag x 0 n * lag x 2 n - lag x 1 n * lag x 1 n) / leanD x n)
        have fa : fitsB 6 (leanA x n) = true := by unfold fitsB leanA; rw [within_iff]; omega
        have fb : fitsB 6 (leanB x n) = true := by unfold fitsB leanB; rw [within_iff]; omega
        obtain ⟨st, hst, hp, hxx⟩ := key (sgn b (posn p W (ord kind)) 6) (sgn b (posn p W (ord kind) + 6) 6) (posn p W (ord kind) + 12)
          (by rw [show wA kind x n = leanA x n from if_pos k7]; exact sgn_bin ha (by omega) fa) (by rw [show wB kind x n = leanB x n from if_pos k7]; exact sgn_bin hb (by omega) fb) hc (by unfold posn; omega)
        rw [hst]
        exact ⟨_, rfl, by show st.p = _; rw [hp]; unfold posn; omega, hxx⟩
      · rw [if_neg k7] at hr hL ⊢
        rw [if_neg k7]
        rw [List.nil_append] at hr
        obtain ⟨st, hst, hp, hxx⟩ := key 0 0 (posn p W (ord kind)) (if_neg k7).symm (if_neg k7).symm hr (by unfold posn; omega)
        rw [hst]
        exact ⟨_, rfl, by show st.p = _; rw [hp]; unfold posn; omega, hxx⟩
theorem subT_length (width : Nat) (l : Nat → Int) (n : Nat) : (subT width l n).length = 8 + bodyL (subKind width l n) (width - shiftN l n width) (shortX l n width) n := by
  unfold subT
  rw [List.length_append, List.length_append, binT_length, binT_length, bodyT_length]; omega
/-- a subframe is read as its samples, whatever stands behind it -/
theorem sub_back {b : Nat → Bool} {N width n : Nat} {l : Nat → Int} (hn1 : 1 ≤ n) (hw1 : 1 ≤ width) (hw : width ≤ 13) (hfit : ∀ j, j < n → fitsB width (l j) = true) (hT : SaysT b 0 (subT width l n)) (hL : (subT width l n).length ≤ N) :
    ∃ r, readSt b N width n = some r ∧ r.2 = (subT width l n).length ∧ ∀ j, j < n → r.1 j = l j := by
  have hs : shiftN l n width ≤ width - 1 := shiftT_le _ _ _
  have hk := bestK_le (width - shiftN l n width) (shortX l n width) n 6
  rw [subT_length] at hL ⊢
  unfold subT at hT
  have t1 := hT.left
  have t2 := hT.right.left
  have t3 := hT.right.right
  rw [binT_length] at t2 t3
  rw [binT_length] at t3
  have e1 : num b 0 4 = subKind width l n := num_binN t1 (Nat.lt_of_le_of_lt hk (by decide))
  have e2 : num b 4 4 = shiftN l n width := num_binN t2 (by omega)
  obtain ⟨r, h1, h2, h3⟩ := body_back (b := b) (N := N) (kind := subKind width l n) (W := width - shiftN l n width) (n := n) (p := 8) (x := shortX l n width) hk hn1 (by omega) (by omega) (fun j hj => short_fits l n width j hw1 hj (hfit j hj)) (fun h => bestK_zero _ _ _ _ h) (fun h => bestK_ok _ _ _ _ h) t3 hL
  unfold readSt
  rw [e1, e2, if_pos ⟨by omega, by omega⟩, h1]
  exact ⟨_, rfl, h2, fun j hj => by show r.1 j * 2 ^ _ = l j; rw [h3 j hj]; exact short_mul l n width j hj⟩
/-- and it is no longer than the samples, each in its width -/
theorem bestK_plain (w : Nat) (x : Nat → Int) (n : Nat) (hn1 : 1 ≤ n) : ∀ j, bodyL (bestK w x n j) w x n ≤ n * w
  | 0 => by
    unfold bestK
    split
    · show w ≤ n * w
      exact Nat.le_mul_of_pos_left _ hn1
    · exact Nat.le_refl _
  | j + 1 => by
    have ih := bestK_plain w x n hn1 j
    unfold bestK
    split
    · rename_i h; omega
    · exact ih
theorem subT_le (width : Nat) (l : Nat → Int) (n : Nat) (hn1 : 1 ≤ n) : (subT width l n).length ≤ 8 + n * width := by
  rw [subT_length]
  have h := bestK_plain (width - shiftN l n width) (shortX l n width) n hn1 6
  have h2 : n * (width - shiftN l n width) ≤ n * width := Nat.mul_le_mul_left _ (by omega)
  unfold subKind
  omega
end Go.Proofs.YtlncjgnomhpjnaaGreatDoor

/-
  Texts of bits for 'Tight'; what it calls of its own package.
-/
namespace Go.Proofs.YtlncjgnomhpjnaaGreatDoor
open Go.RowKit Go.Deep
set_option linter.unusedVariables false
def AllB (T : List UInt8) : Prop := ∀ c ∈ T, c = 48 ∨ c = 49
theorem AllB.append {T U : List UInt8} (h : AllB T) (k : AllB U) : AllB (T ++ U) := fun c hc => by
  rcases List.mem_append.1 hc with h1 | h1
  · exact h c h1
  · exact k c h1
theorem ltr_bit (b : Bool) : ltr b = 48 ∨ ltr b = 49 := by cases b <;> simp [ltr]
theorem binT_bits (v : Int) (k : Nat) : AllB (binT v k) := fun c hc => by
  unfold binT at hc
  obtain ⟨i, _, rfl⟩ := List.mem_map.1 hc
  exact ltr_bit _
theorem riceT_bits (f k : Nat) : AllB (riceT f k) := by
  unfold riceT
  refine AllB.append (AllB.append (fun c hc => ?_) (fun c hc => ?_)) (binT_bits _ _)
  · exact .inl (List.eq_of_mem_replicate hc)
  · exact .inr (by simpa using hc)
theorem codedT_bits (f : Nat → Nat) (k lo : Nat) : ∀ m, AllB (codedT f k lo m)
  | 0 => fun c hc => by cases hc
  | m + 1 => (codedT_bits f k lo m).append (riceT_bits _ _)
theorem partsT_bits (f : Nat → Nat) (o sz : Nat) : ∀ m, AllB (partsT f o sz m)
  | 0 => fun c hc => by cases hc
  | m + 1 => (partsT_bits f o sz m).append ((binT_bits _ _).append (codedT_bits _ _ _ _))
theorem numsT_bits (x : Nat → Int) (w : Nat) : ∀ m, AllB (numsT x w m)
  | 0 => fun c hc => by cases hc
  | m + 1 => (numsT_bits x w m).append (binT_bits _ _)
theorem bodyT_bits (kind w : Nat) (x : Nat → Int) (n : Nat) : AllB (bodyT kind w x n) := by
  unfold bodyT
  split
  · exact binT_bits _ _
  · split
    · exact numsT_bits _ _ _
    · unfold gT cutT
      refine (numsT_bits _ _ _).append (AllB.append ?_ ((binT_bits _ _).append (partsT_bits _ _ _ _)))
      split
      · exact (binT_bits _ _).append (binT_bits _ _)
      · exact fun c hc => by cases hc
theorem subT_bits (width : Nat) (l : Nat → Int) (n : Nat) : AllB (subT width l n) := (binT_bits _ _).append ((binT_bits _ _).append (bodyT_bits _ _ _ _))
theorem bs_get (T : List UInt8) (j : Nat) (h : j < (bs T).size) : (bs T)[j] = T[j]'(by rw [bs_size] at h; exact h) := rfl
/-- which of n things a number speaks of -/
def pickV (a : Int) (n : Nat) : Nat := (if a < 0 then (-(a + 1)).toNat else a.toNat) % n
theorem pickV_lt (a : Int) (n : Nat) (h : 1 ≤ n) : pickV a n < n := Nat.mod_lt _ h
set_option maxHeartbeats 400000 in
theorem pick_any (a : Int) (n : Nat) (w : World) (hn : 1 ≤ n) (hn2 : n ≤ 100000) (ha : -9223372036854775808 ≤ a ∧ a ≤ 9223372036854775807) :
    Calls Tryz.prog 33 #[.int .i64 a, .int .i64 n] w fun e w' => e = .returned (.int .i64 (pickV a n)) ∧ w' = w := by
  have nz : ¬ (n : Int) = 0 := by omega
  by_cases h : a < 0
  · have t1 : decide (a < 0) = true := decide_eq_true h
    have HV : Hid (pickV a n = (-(a + 1)).toNat % n) := by show _ = _; unfold pickV; rw [if_pos h]
    have v1 : IntKind.i64.wrap (a + 1) = a + 1 := by rw [IntKind.wrap_i64]; omega
    have v2 : IntKind.i64.wrap (-(a + 1)) = ((-(a + 1)).toNat : Int) := by rw [IntKind.wrap_i64]; omega
    generalize (-(a + 1)).toNat = q at *
    have m1 : (q : Int).tmod (n : Int) = ((q % n : Nat) : Int) := by rw [Int.tmod_eq_emod_of_nonneg (by omega)]; simp
    have hml : q % n < n := Nat.mod_lt _ hn
    have HV2 := Hid.mk' HV.out
    generalize q % n = r at *
    go_enter Tryz.func33, Tryz.ntmps33
    go_wp2
    go_ret
    exact ⟨ret_int (by rw [HV2.out]), rfl⟩
  · have t1 : decide (a < 0) = false := decide_eq_false h
    have HV : Hid (pickV a n = a.toNat % n) := by show _ = _; unfold pickV; rw [if_neg h]
    obtain ⟨q, rfl⟩ : ∃ q : Nat, a = q := ⟨a.toNat, by omega⟩
    rw [Int.toNat_natCast] at HV
    have m1 : (q : Int).tmod (n : Int) = ((q % n : Nat) : Int) := by rw [Int.tmod_eq_emod_of_nonneg (by omega)]; simp
    have hml : q % n < n := Nat.mod_lt _ hn
    have HV2 := Hid.mk' HV.out
    generalize q % n = r at *
    go_enter Tryz.func33, Tryz.ntmps33
    go_wp2
    go_ret
    exact ⟨ret_int (by rw [HV2.out]), rfl⟩
end Go.Proofs.YtlncjgnomhpjnaaGreatDoor

/-
  Plain mathematics for the checks: the two ways to a remainder.
-/
namespace Go.Proofs.YtlncjgnomhpjnaaGreatDoor
/-- bit number j of a list of bytes, the highest bit of the first byte first -/
def msgBit (l : List UInt8) (j : Nat) : Bool := (l.getD (j / 8) 0).toNat.testBit (7 - j % 8)
/-- what i steps of the long division have turned at place j -/
def acc (k D : Nat) (m : Nat → Bool) : Nat → Nat → Bool
  | 0, _ => false
  | i + 1, j => acc k D m i j ^^ ((m i ^^ acc k D m i i) && (decide (i ≤ j) && decide (j ≤ i + k) && D.testBit (k - (j - i))))
theorem acc_far (k D : Nat) (m : Nat → Bool) : ∀ i j, i + k ≤ j → acc k D m i j = false
  | 0, _, _ => rfl
  | i + 1, j, h => by
    have h1 := acc_far k D m i j (by omega)
    have h2 : decide (j ≤ i + k) = false := by simp; omega
    simp [acc, h1, h2]
/-- the number that a running remainder holds: i bits are done, the byte that is under way ends at e -/
def Good (k D : Nat) (m : Nat → Bool) (i e R : Nat) : Prop :=
  R < 2 ^ k ∧ ∀ p, p < k → R.testBit p = (acc k D m i (i + (k - 1 - p)) ^^ (decide (i + (k - 1 - p) < e) && m (i + (k - 1 - p))))
theorem good_zero (k D : Nat) (m : Nat → Bool) : Good k D m 0 0 0 :=
  ⟨Nat.two_pow_pos _, fun p _ => by simp [acc]⟩
theorem good_inj {k D : Nat} {m : Nat → Bool} {i e R S : Nat} (h : Good k D m i e R) (g : Good k D m i e S) : R = S := by
  refine Nat.eq_of_testBit_eq fun p => ?_
  by_cases hp : p < k
  · rw [h.2 p hp, g.2 p hp]
  · have e1 : R.testBit p = false := Nat.testBit_lt_two_pow (Nat.lt_of_lt_of_le h.1 (Nat.pow_le_pow_right (by omega) (by omega)))
    have e2 : S.testBit p = false := Nat.testBit_lt_two_pow (Nat.lt_of_lt_of_le g.1 (Nat.pow_le_pow_right (by omega) (by omega)))
    rw [e1, e2]
/-- a byte comes in -/
theorem good_start {k D : Nat} {m : Nat → Bool} {i R c : Nat} (hk : 8 ≤ k) (hc : c < 256) (hm : ∀ x, x < 8 → m (i + x) = c.testBit (7 - x))
    (h : Good k D m i i R) : Good k D m i (i + 8) (R ^^^ c * 2 ^ (k - 8)) := by
  have hb : c * 2 ^ (k - 8) < 2 ^ k := by
    have e : 2 ^ k = 256 * 2 ^ (k - 8) := by
      have : k = 8 + (k - 8) := by omega
      rw [this, Nat.pow_add]; simp
    rw [e]
    exact Nat.mul_lt_mul_of_pos_right hc (Nat.two_pow_pos _)
  refine ⟨Nat.xor_lt_two_pow h.1 hb, fun p hp => ?_⟩
  rw [Nat.testBit_xor, h.2 p hp, Nat.mul_comm, Nat.testBit_two_pow_mul]
  by_cases hq : k - 8 ≤ p
  · have e1 : i + (k - 1 - p) < i + 8 := by omega
    have e2 : decide (i + (k - 1 - p) < i) = false := decide_eq_false (by omega)
    have e3 := hm (k - 1 - p) (by omega)
    have e4 : 7 - (k - 1 - p) = p - (k - 8) := by omega
    rw [e4] at e3
    simp [e1, e2, e3, hq]
  · have e1 : ¬ i + (k - 1 - p) < i + 8 := by omega
    have e2 : decide (i + (k - 1 - p) < i) = false := decide_eq_false (by omega)
    simp [e1, e2, hq]
theorem top_iff {k R : Nat} (hk : 1 ≤ k) (h : R < 2 ^ k) : (R * 2 / 2 ^ k = 1) ↔ R.testBit (k - 1) = true := by
  have e : 2 ^ k = 2 * 2 ^ (k - 1) := by
    have : k = (k - 1) + 1 := by omega
    rw [this, Nat.pow_succ]; simp [Nat.mul_comm]
  have e2 : R * 2 / 2 ^ k = R / 2 ^ (k - 1) := by
    rw [e, Nat.mul_comm R 2, Nat.mul_div_mul_left _ _ (by decide)]
  rw [e2, Nat.testBit_eq_decide_div_mod_eq]
  have lt : R / 2 ^ (k - 1) < 2 := by
    rw [Nat.div_lt_iff_lt_mul (Nat.two_pow_pos _)]; omega
  have : R / 2 ^ (k - 1) % 2 = R / 2 ^ (k - 1) := Nat.mod_eq_of_lt lt
  rw [this]; simp
theorem dbl_bit (R p : Nat) : (R * 2).testBit p = (decide (1 ≤ p) && R.testBit (p - 1)) := by
  have := Nat.testBit_two_pow_mul (i := 1) (a := R) (j := p)
  rw [Nat.mul_comm]; simpa using this
/-- a bit goes out, and it is a 1 -/
theorem good_yes {k D : Nat} {m : Nat → Bool} {i e R : Nat} (hk : 8 ≤ k) (hD : D < 2 ^ (k + 1)) (hD1 : D.testBit k = true) (hi : i < e) (he : e ≤ i + 8)
    (h : Good k D m i e R) (ht : R * 2 / 2 ^ k = 1) : Good k D m (i + 1) e ((R * 2) ^^^ D) := by
  have top : R.testBit (k - 1) = true := (top_iff (by omega) h.1).1 ht
  have t2 := h.2 (k - 1) (by omega)
  rw [top] at t2
  have z : k - 1 - (k - 1) = 0 := by omega
  rw [z, Nat.add_zero] at t2
  have t3 : (m i ^^ acc k D m i i) = true := by
    rw [t2]; simp [hi, Bool.xor_comm]
  constructor
  · have b1 : (R * 2) ^^^ D < 2 ^ (k + 1) := Nat.xor_lt_two_pow (by rw [Nat.pow_succ]; have := h.1; omega) hD
    apply Nat.lt_pow_two_of_testBit
    intro p hp
    by_cases e : p = k
    · subst e
      rw [Nat.testBit_xor, hD1, dbl_bit, top]
      simp; omega
    · exact Nat.testBit_lt_two_pow (Nat.lt_of_lt_of_le b1 (Nat.pow_le_pow_right (by omega) (by omega)))
  · intro p hp
    have e1 : i + 1 + (k - 1 - p) = i + (k - p) := by omega
    rw [Nat.testBit_xor, dbl_bit, e1]
    have e2 : acc k D m (i + 1) (i + (k - p)) = (acc k D m i (i + (k - p)) ^^ D.testBit p) := by
      have a1 : i ≤ i + (k - p) := by omega
      have a2 : i + (k - p) ≤ i + k := by omega
      have a3 : k - (i + (k - p) - i) = p := by omega
      simp only [acc, t3, a3]
      simp
    rw [e2]
    by_cases hp0 : 1 ≤ p
    · have e3 := h.2 (p - 1) (by omega)
      have e4 : k - 1 - (p - 1) = k - p := by omega
      rw [e4] at e3
      rw [e3]
      simp only [hp0, decide_true, Bool.true_and]
      cases acc k D m i (i + (k - p)) <;> cases D.testBit p <;> cases (decide (i + (k - p) < e) && m (i + (k - p))) <;> rfl
    · have e3 : p = 0 := by omega
      subst e3
      have e4 : acc k D m i (i + (k - 0)) = false := acc_far _ _ _ _ _ (by omega)
      have e5 : decide (i + (k - 0) < e) = false := decide_eq_false (by omega)
      rw [e4, e5]
      simp
/-- a bit goes out, and it is a 0 -/
theorem good_no {k D : Nat} {m : Nat → Bool} {i e R : Nat} (hk : 8 ≤ k) (hi : i < e) (he : e ≤ i + 8)
    (h : Good k D m i e R) (ht : ¬ R * 2 / 2 ^ k = 1) : Good k D m (i + 1) e (R * 2) := by
  have top : R.testBit (k - 1) = false := by
    cases hh : R.testBit (k - 1) with
    | false => rfl
    | true => exact absurd ((top_iff (by omega) h.1).2 hh) ht
  have t2 := h.2 (k - 1) (by omega)
  rw [top] at t2
  have z : k - 1 - (k - 1) = 0 := by omega
  rw [z, Nat.add_zero] at t2
  have t3 : (m i ^^ acc k D m i i) = false := by
    rw [t2]; simp [hi, Bool.xor_comm]
  constructor
  · have b1 : R * 2 < 2 ^ (k + 1) := by rw [Nat.pow_succ]; have := h.1; omega
    apply Nat.lt_pow_two_of_testBit
    intro p hp
    by_cases e : p = k
    · subst e
      rw [dbl_bit, top]
      simp
    · exact Nat.testBit_lt_two_pow (Nat.lt_of_lt_of_le b1 (Nat.pow_le_pow_right (by omega) (by omega)))
  · intro p hp
    have e1 : i + 1 + (k - 1 - p) = i + (k - p) := by omega
    rw [dbl_bit, e1]
    have e2 : acc k D m (i + 1) (i + (k - p)) = acc k D m i (i + (k - p)) := by
      simp only [acc, t3]
      simp
    rw [e2]
    by_cases hp0 : 1 ≤ p
    · have e3 := h.2 (p - 1) (by omega)
      have e4 : k - 1 - (p - 1) = k - p := by omega
      rw [e4] at e3
      rw [e3]
      simp [hp0]
    · have e3 : p = 0 := by omega
      subst e3
      have e4 : acc k D m i (i + (k - 0)) = false := acc_far _ _ _ _ _ (by omega)
      have e5 : decide (i + (k - 0) < e) = false := decide_eq_false (by omega)
      rw [e4, e5]
      simp
theorem msgBit_byte (l : List UInt8) (k x : Nat) (hx : x < 8) : msgBit l (8 * k + x) = (l.getD k 0).toNat.testBit (7 - x) := by
  unfold msgBit
  have h1 : (8 * k + x) / 8 = k := by omega
  have h2 : (8 * k + x) % 8 = x := by omega
  rw [h1, h2]
theorem msgBit_past (l : List UInt8) (j : Nat) (h : 8 * l.length ≤ j) : msgBit l j = false := by
  unfold msgBit
  have : l.getD (j / 8) 0 = 0 := by
    rw [List.getD_eq_getElem?_getD, List.getElem?_eq_none (by omega)]; rfl
  rw [this]; simp
theorem bitsNum_bit (f : Nat → Bool) : ∀ n p, p < n → (bitsNum f n).testBit p = f (n - 1 - p)
  | 0, _, h => absurd h (by omega)
  | n + 1, 0, _ => by
    simp only [bitsNum, Nat.testBit_zero]
    cases h : f n <;> simp [h] <;> omega
  | n + 1, p + 1, h => by
    have ih := bitsNum_bit f n p (by omega)
    have e : (2 * bitsNum f n + (f n).toNat) / 2 = bitsNum f n := by
      have : (f n).toNat ≤ 1 := Bool.toNat_le _
      omega
    simp only [bitsNum, Nat.testBit_succ, e, ih]
    congr 1; omega
/-- the long division's last bits are the running remainder -/
theorem good_bitsNum {k D : Nat} {m : Nat → Bool} {L : Nat} (hm : ∀ j, L ≤ j → m j = false) : Good k D m L L (bitsNum (fun x => m (L + x) ^^ acc k D m L (L + x)) k) := by
  refine ⟨bitsNum_lt _ _, fun p hp => ?_⟩
  rw [bitsNum_bit _ _ _ hp]
  have := hm (L + (k - 1 - p)) (by omega)
  simp [this]
end Go.Proofs.YtlncjgnomhpjnaaGreatDoor

/-
  The program's remainders.
-/
namespace Go.Proofs.YtlncjgnomhpjnaaGreatDoor
open Go.RowKit
theorem xor_i64 (a b : Nat) (ha : a < 4294967296) (hb : b < 4294967296) : bits .xor .i64 (a : Int) (b : Int) = ((a ^^^ b : Nat) : Int) := by
  have hx : a ^^^ b < 2 ^ 32 := Nat.xor_lt_two_pow (by omega) (by omega)
  have h1 : (BitVec.ofInt 64 (a : Int)).toNat = a := by
    rw [BitVec.ofInt_natCast, BitVec.toNat_ofNat]; exact Nat.mod_eq_of_lt (by omega)
  have h2 : (BitVec.ofInt 64 (b : Int)).toNat = b := by
    rw [BitVec.ofInt_natCast, BitVec.toNat_ofNat]; exact Nat.mod_eq_of_lt (by omega)
  show IntKind.i64.wrap ((BitVec.ofInt 64 (a : Int) ^^^ BitVec.ofInt 64 (b : Int)).toNat : Int) = _
  rw [BitVec.toNat_xor, h1, h2, IntKind.wrap_i64]
  omega
theorem getD_byte (s : ByteArray) (k : Nat) (h : k < s.size) : s.data.toList.getD k 0 = s[k] := by
  rw [List.getD_eq_getElem?_getD, List.getElem?_eq_getElem (by simpa using h)]; rfl
set_option maxHeartbeats 400000 in
theorem rem8_any (s : ByteArray) (w : World) (hs : s.size ≤ 2097152) :
    Calls Tryz.prog 146 #[.string s, .int .i64 8, .int .i64 263] w fun e w' => ∃ R : Nat, e = .returned (.int .i64 R) ∧ Good 8 263 (msgBit s.data.toList) (8 * s.size) (8 * s.size) R ∧ w' = w := by
  go_enter Tryz.func146, Tryz.ntmps146
  go_wp2
  go_loop [7, 11] (fun n i => ∃ k : Nat, ∃ R : Nat, k ≤ s.size ∧ i = .int .i64 k ∧ n = .int .i64 R ∧ Good 8 263 (msgBit s.data.toList) (8 * k) (8 * k) R) (fun _ i => s.size - (intOf i).toNat)
  case atStart => exact ⟨0, 0, Nat.zero_le _, rfl, rfl, good_zero _ _ _⟩
  case round =>
    obtain ⟨k, R, hk, rfl, rfl, hG⟩ := hrel
    by_cases hlt : k < s.size
    · have hc : s[k].toNat < 256 := UInt8.toNat_lt _
      have hR : R < 256 := hG.1
      have HG : Hid (Good 8 263 (msgBit s.data.toList) (8 * k) (8 * k + 8) (R ^^^ s[k].toNat)) := by
        have := good_start (c := s[k].toNat) (by decide) hc (fun x hx => by rw [msgBit_byte _ _ _ hx, getD_byte s k hlt]) hG
        show Good _ _ _ _ _ _
        simpa using this
      clear hG
      have hx := xor_i64 R s[k].toNat (by omega) (by omega)
      go_wp2
      go_loop [7, 23] (fun n i => ∃ t : Nat, ∃ R : Nat, t ≤ 8 ∧ i = .int .i64 t ∧ n = .int .i64 R ∧ Good 8 263 (msgBit s.data.toList) (8 * k + t) (8 * k + 8) R) (fun _ i => 8 - (intOf i).toNat)
      case atStart => exact ⟨0, _, Nat.zero_le _, rfl, rfl, HG.out⟩
      case round =>
        obtain ⟨t, Q, ht, rfl, rfl, hQ⟩ := hrel
        clear hx HG
        by_cases hlt8 : t < 8
        · have hQb : Q < 256 := hQ.1
          have hx2 := xor_i64 (Q * 2) 263 (by omega) (by omega)
          have HQ : Hid (Good 8 263 (msgBit s.data.toList) (8 * k + t) (8 * k + 8) Q) := hQ
          clear hQ
          go_wp2
          · have hh : ((Q : Int) * 2 / 256 == 1) = true := by assumption
            go_round
            case rel =>
              refine ⟨t + 1, _, by omega, by go_num, by simp only [Int.natCast_mul] at hx2; exact congrArg _ hx2, good_yes (i := 8 * k + t) (by decide) (by decide) (by decide) (by omega) (by omega) HQ.out ?_⟩
              simp at hh; omega
            case measure => simp [intOf]; omega
          · have hh : ((Q : Int) * 2 / 256 == 1) = false := by assumption
            go_round
            case rel =>
              refine ⟨t + 1, Q * 2, by omega, by go_num, by go_num, good_no (i := 8 * k + t) (by decide) (by omega) (by omega) HQ.out ?_⟩
              simp at hh; omega
            case measure => simp [intOf]; omega
        · have e : t = 8 := by omega
          subst e
          have HQ : Hid (Good 8 263 (msgBit s.data.toList) (8 * k + 8) (8 * k + 8) Q) := hQ
          clear hQ
          go_wp2
          go_round
          case rel => exact ⟨k + 1, Q, by omega, by go_num, rfl, HQ.out⟩
          case measure => simp [intOf]; omega
    · have e : k = s.size := by omega
      subst e
      have HG : Hid (Good 8 263 (msgBit s.data.toList) (8 * s.size) (8 * s.size) R) := hG
      clear hG
      go_wp2
      go_ret
      exact ⟨R, rfl, HG.out, rfl⟩
set_option maxHeartbeats 400000 in
theorem rem16_any (s : ByteArray) (w : World) (hs : s.size ≤ 2097152) :
    Calls Tryz.prog 146 #[.string s, .int .i64 16, .int .i64 98309] w fun e w' => ∃ R : Nat, e = .returned (.int .i64 R) ∧ Good 16 98309 (msgBit s.data.toList) (8 * s.size) (8 * s.size) R ∧ w' = w := by
  go_enter Tryz.func146, Tryz.ntmps146
  go_wp2
  go_loop [7, 11] (fun n i => ∃ k : Nat, ∃ R : Nat, k ≤ s.size ∧ i = .int .i64 k ∧ n = .int .i64 R ∧ Good 16 98309 (msgBit s.data.toList) (8 * k) (8 * k) R) (fun _ i => s.size - (intOf i).toNat)
  case atStart => exact ⟨0, 0, Nat.zero_le _, rfl, rfl, good_zero _ _ _⟩
  case round =>
    obtain ⟨k, R, hk, rfl, rfl, hG⟩ := hrel
    by_cases hlt : k < s.size
    · have hc : s[k].toNat < 256 := UInt8.toNat_lt _
      have hR : R < 65536 := hG.1
      have HG : Hid (Good 16 98309 (msgBit s.data.toList) (8 * k) (8 * k + 8) (R ^^^ s[k].toNat * 256)) := by
        have := good_start (c := s[k].toNat) (by decide) hc (fun x hx => by rw [msgBit_byte _ _ _ hx, getD_byte s k hlt]) hG
        show Good _ _ _ _ _ _
        simpa using this
      clear hG
      have hx := xor_i64 R (s[k].toNat * 256) (by omega) (by omega)
      go_wp2
      go_loop [7, 23] (fun n i => ∃ t : Nat, ∃ R : Nat, t ≤ 8 ∧ i = .int .i64 t ∧ n = .int .i64 R ∧ Good 16 98309 (msgBit s.data.toList) (8 * k + t) (8 * k + 8) R) (fun _ i => 8 - (intOf i).toNat)
      case atStart =>
        refine ⟨0, _, Nat.zero_le _, rfl, ?_, HG.out⟩
        simp only [Int.natCast_mul] at hx; exact congrArg _ hx
      case round =>
        obtain ⟨t, Q, ht, rfl, rfl, hQ⟩ := hrel
        clear hx HG
        by_cases hlt8 : t < 8
        · have hQb : Q < 65536 := hQ.1
          have hx2 := xor_i64 (Q * 2) 98309 (by omega) (by omega)
          have HQ : Hid (Good 16 98309 (msgBit s.data.toList) (8 * k + t) (8 * k + 8) Q) := hQ
          clear hQ
          go_wp2
          · have hh : ((Q : Int) * 2 / 65536 == 1) = true := by assumption
            go_round
            case rel =>
              refine ⟨t + 1, _, by omega, by go_num, by simp only [Int.natCast_mul] at hx2; exact congrArg _ hx2, good_yes (i := 8 * k + t) (by decide) (by decide) (by decide) (by omega) (by omega) HQ.out ?_⟩
              simp at hh; omega
            case measure => simp [intOf]; omega
          · have hh : ((Q : Int) * 2 / 65536 == 1) = false := by assumption
            go_round
            case rel =>
              refine ⟨t + 1, Q * 2, by omega, by go_num, by go_num, good_no (i := 8 * k + t) (by decide) (by omega) (by omega) HQ.out ?_⟩
              simp at hh; omega
            case measure => simp [intOf]; omega
        · have e : t = 8 := by omega
          subst e
          have HQ : Hid (Good 16 98309 (msgBit s.data.toList) (8 * k + 8) (8 * k + 8) Q) := hQ
          clear hQ
          go_wp2
          go_round
          case rel => exact ⟨k + 1, Q, by omega, by go_num, rfl, HQ.out⟩
          case measure => simp [intOf]; omega
    · have e : k = s.size := by omega
      subst e
      have HG : Hid (Good 16 98309 (msgBit s.data.toList) (8 * s.size) (8 * s.size) R) := hG
      clear hG
      go_wp2
      go_ret
      exact ⟨R, rfl, HG.out, rfl⟩
end Go.Proofs.YtlncjgnomhpjnaaGreatDoor

/-
  The bits of bytes, as the document spells them.
-/
namespace Go.Proofs.YtlncjgnomhpjnaaGreatDoor
open Go.RowKit
def lv (b : Bool) : Int := if b then 49 else 48
end Go.Proofs.YtlncjgnomhpjnaaGreatDoor

namespace Go.Proofs.YtlncjgnomhpjnaaGreatDoor
open Go.RowKit
def leftBit (K D : Nat) (m : Nat → Bool) (L x : Nat) : Bool := m (L + x) ^^ acc K D m L (L + x)
end Go.Proofs.YtlncjgnomhpjnaaGreatDoor

namespace Go.Proofs.YtlncjgnomhpjnaaGreatDoor
open Go.RowKit
/-- the remainder of bytes -/
def crc (k D : Nat) (l : List UInt8) : Nat := bitsNum (leftBit k D (msgBit l) (8 * l.length)) k
theorem crc_good (k D : Nat) (l : List UInt8) : Good k D (msgBit l) (8 * l.length) (8 * l.length) (crc k D l) :=
  good_bitsNum fun j h => msgBit_past l j h
theorem crc_eq {k D R : Nat} {s : ByteArray} (h : Good k D (msgBit s.data.toList) (8 * s.size) (8 * s.size) R) : R = crc k D s.data.toList := by
  have e : s.data.toList.length = s.size := by simp
  rw [← e] at h
  exact good_inj h (crc_good k D _)
theorem eight_any (s : ByteArray) (w : World) (hs : s.size ≤ 2097152) :
    Calls Tryz.prog 147 #[.string s] w fun e w' => e = .returned (.int .i64 (crc 8 263 s.data.toList)) ∧ w' = w := by
  go_enter Tryz.func147, Tryz.ntmps147
  go_wp2_with (go_at_call 146; refine (rem8_any _ _ hs).mono ?_; rintro e w' ⟨R, rfl, hG, rfl⟩)
  go_ret
  exact ⟨ret_int (by rw [crc_eq hG]), rfl⟩
theorem sixteen_any (s : ByteArray) (w : World) (hs : s.size ≤ 2097152) :
    Calls Tryz.prog 106 #[.string s] w fun e w' => e = .returned (.int .i64 (crc 16 98309 s.data.toList)) ∧ w' = w := by
  go_enter Tryz.func106, Tryz.ntmps106
  go_wp2_with (go_at_call 146; refine (rem16_any _ _ hs).mono ?_; rintro e w' ⟨R, rfl, hG, rfl⟩)
  go_ret
  exact ⟨ret_int (by rw [crc_eq hG]), rfl⟩
end Go.Proofs.YtlncjgnomhpjnaaGreatDoor

