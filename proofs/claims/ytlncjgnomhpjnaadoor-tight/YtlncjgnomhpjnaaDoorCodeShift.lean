/-
  Plain mathematics for 'Codes': the shift by which all samples can be shortened, by their 'or' and by its trailing zeros.
-/
import Derived.Test.YtlncjgnomhpjnaaDoorCodeMath
import Derived.WalkKit
namespace Go.Proofs.YtlncjgnomhpjnaaDoor
open Go.RowKit

theorem ip2 (k : Nat) : ((2 ^ k : Nat) : Int) = (2 : Int) ^ k := by simp
theorem ip2_pos (k : Nat) : (0 : Int) < 2 ^ k := by rw [← ip2]; exact Int.ofNat_lt.2 (Nat.two_pow_pos k)
theorem ip2_dvd {k m : Nat} (h : k ≤ m) : (2 : Int) ^ k ∣ 2 ^ m := by
  refine ⟨2 ^ (m - k), ?_⟩
  rw [← Int.pow_add]; congr 1; omega
theorem ofInt_mod (a : Int) (k : Nat) (hk : k ≤ 64) : a % 2 ^ k = 0 ↔ (BitVec.ofInt 64 a).toNat % 2 ^ k = 0 := by
  have e : ((BitVec.ofInt 64 a).toNat : Int) = a % 2 ^ 64 := by
    rw [BitVec.toNat_ofInt]
    have : 0 ≤ a % ((2 ^ 64 : Nat) : Int) := Int.emod_nonneg _ (by decide)
    rw [Int.toNat_of_nonneg this]; simp
  have h1 : (((BitVec.ofInt 64 a).toNat % 2 ^ k : Nat) : Int) = a % 2 ^ k := by
    rw [Int.natCast_emod, e, ip2, Int.emod_emod_of_dvd _ (ip2_dvd hk)]
  omega
theorem wrap_mod (v : Int) (k : Nat) (hk : k ≤ 64) : IntKind.i64.wrap v % 2 ^ k = v % 2 ^ k := by
  have h : ∃ q : Int, IntKind.i64.wrap v = v + q * 2 ^ 64 := by
    rw [IntKind.wrap_i64]
    refine ⟨-((v + 9223372036854775808) / 18446744073709551616), ?_⟩
    have e : (2 : Int) ^ 64 = 18446744073709551616 := rfl
    rw [e]; omega
  obtain ⟨q, hq⟩ := h
  obtain ⟨r, hr⟩ := ip2_dvd hk
  rw [hq, hr, Int.mul_left_comm, Int.add_mul_emod_self_left]
theorem or_mod0 (a b : Int) (k : Nat) (hk : k ≤ 64) : bits .or .i64 a b % 2 ^ k = 0 ↔ a % 2 ^ k = 0 ∧ b % 2 ^ k = 0 := by
  have e : bits .or .i64 a b = IntKind.i64.wrap (((BitVec.ofInt 64 a ||| BitVec.ofInt 64 b).toNat : Nat) : Int) := rfl
  rw [e, wrap_mod _ _ hk, BitVec.toNat_or, ofInt_mod a k hk, ofInt_mod b k hk]
  generalize (BitVec.ofInt 64 a).toNat = A
  generalize (BitVec.ofInt 64 b).toNat = B
  rw [← ip2, ← Int.natCast_emod, Nat.or_mod_two_pow]
  have : ∀ x y : Nat, ((x ||| y : Nat) : Int) = 0 ↔ x = 0 ∧ y = 0 := fun x y => by
    constructor
    · intro h
      have h' : x ||| y = 0 := by omega
      exact ⟨Nat.eq_zero_of_le_zero (h' ▸ Nat.left_le_or), Nat.eq_zero_of_le_zero (h' ▸ Nat.right_le_or)⟩
    · rintro ⟨rfl, rfl⟩; rfl
  exact this _ _
/-- v is the 'or' of the first i, as far as its trailing zeros go -/
def OrOf (l : Nat → Int) (i : Nat) (v : Int) : Prop := (∀ k, k ≤ 64 → (v % 2 ^ k = 0 ↔ ∀ j, j < i → l j % 2 ^ k = 0)) ∧ -9223372036854775808 ≤ v ∧ v ≤ 9223372036854775807
theorem OrOf.zero (l : Nat → Int) : OrOf l 0 0 := ⟨fun k _ => by simp, by omega, by omega⟩
theorem OrOf.step {l : Nat → Int} {i : Nat} {v : Int} (h : OrOf l i v) : OrOf l (i + 1) (bits .or .i64 v (l i)) := by
  refine ⟨fun k hk => ?_, ?_⟩
  · rw [or_mod0 _ _ _ hk, h.1 k hk]
    constructor
    · rintro ⟨h1, h2⟩ j hj
      by_cases e : j = i
      · subst e; exact h2
      · exact h1 j (by omega)
    · intro h1; exact ⟨fun j hj => h1 j (by omega), h1 i (by omega)⟩
  · have e : ∃ z : Int, bits .or .i64 v (l i) = IntKind.i64.wrap z := ⟨_, rfl⟩
    obtain ⟨z, hz⟩ := e
    rw [hz, IntKind.wrap_i64]; omega
theorem OrOf.nz {l : Nat → Int} {i : Nat} {v : Int} (h : OrOf l i v) (hl : ∀ j, j < i → -4096 ≤ l j ∧ l j ≤ 4096) : v = 0 ↔ anyNz l i = false := by
  have h64 := h.1 64 (Nat.le_refl _)
  have e : (2 : Int) ^ 64 = 18446744073709551616 := rfl
  rw [e] at h64
  have hv : v = 0 ↔ v % 18446744073709551616 = 0 := by have := h.2; omega
  rw [hv, h64]
  simp only [anyNz, List.any_eq_false, List.mem_range, decide_eq_true_eq, ne_eq, Decidable.not_not]
  constructor
  · intro hh j hj; have := hh j hj; have := hl j hj; omega
  · intro hh j hj; rw [hh j hj]; rfl
theorem allDiv_mono {l : Nat → Int} {n k m : Nat} (h : allDiv l n m = true) (hk : k ≤ m) : allDiv l n k = true := by
  rw [allDiv_iff] at h ⊢
  intro i hi
  have h1 := Int.dvd_of_emod_eq_zero (h i hi)
  exact Int.emod_eq_zero_of_dvd (Int.dvd_trans (ip2_dvd hk) h1)
theorem shiftT_eq {l : Nat → Int} {n t : Nat} (h1 : allDiv l n t = true) (h2 : allDiv l n (t + 1) = false) (h3 : anyNz l n = true) : ∀ K, t ≤ K → shiftT l n K = t
  | 0, h => by have : t = 0 := by omega
               subst this; rfl
  | K + 1, h => by
    by_cases e : t = K + 1
    · subst e; rw [shiftT, if_pos (by rw [h1, h3]; rfl)]
    · rw [shiftT, if_neg, shiftT_eq h1 h2 h3 K (by omega)]
      intro hc
      rw [Bool.and_eq_true] at hc
      rw [allDiv_mono hc.1 (by omega : t + 1 ≤ K + 1)] at h2; cases h2
theorem shiftT_none {l : Nat → Int} {n : Nat} (h3 : anyNz l n = false) : ∀ K, shiftT l n K = 0
  | 0 => rfl
  | K + 1 => by rw [shiftT, if_neg (by rw [h3]; simp), shiftT_none h3 K]

/-- a number above 0 is a power of 2 times an odd one -/
theorem odd_part : ∀ (B u : Nat), u ≤ B → 0 < u → ∃ t m, u = 2 ^ t * (2 * m + 1)
  | 0, u, h, h0 => absurd h0 (by omega)
  | B + 1, u, h, h0 => by
    by_cases e : u % 2 = 1
    · exact ⟨0, u / 2, by simp; omega⟩
    · obtain ⟨t, m, hm⟩ := odd_part B (u / 2) (by omega) (by omega)
      refine ⟨t + 1, m, ?_⟩
      rw [Nat.pow_succ, Nat.mul_comm (2 ^ t) 2, Nat.mul_assoc, ← hm]; omega
theorem and_neg_odd (m s : Nat) (hs : 0 < s) (h : 2 * m < 2 ^ s) : (2 * m + 1) &&& (2 ^ s - (2 * m + 1)) = 1 := by
  apply Nat.eq_of_testBit_eq
  intro i
  rw [Nat.testBit_and, Nat.testBit_two_pow_sub_succ h]
  cases i with
  | zero =>
    simp [hs]
  | succ i =>
    have e1 : Nat.testBit (2 * m + 1) (i + 1) = Nat.testBit m i := by
      rw [Nat.testBit_succ]; congr 1; omega
    have e2 : Nat.testBit (2 * m) (i + 1) = Nat.testBit m i := by
      rw [Nat.testBit_succ]; congr 1; omega
    have e3 : Nat.testBit 1 (i + 1) = false := by rw [Nat.testBit_succ]; simp
    rw [e1, e2, e3]
    cases Nat.testBit m i <;> simp
theorem and_neg (t m : Nat) (ht : t < 64) (h : 2 ^ t * (2 * m + 1) < 2 ^ 64) : bits .and .u64 ((2 ^ t * (2 * m + 1) : Nat) : Int) (IntKind.u64.wrap (-((2 ^ t * (2 * m + 1) : Nat) : Int))) = ((2 ^ t : Nat) : Int) := by
  generalize hu : 2 ^ t * (2 * m + 1) = u at *
  have hu0 : 0 < u := by rw [← hu]; exact Nat.mul_pos (Nat.two_pow_pos t) (by omega)
  have e0 : bits .and .u64 (u : Int) (IntKind.u64.wrap (-(u : Int))) = IntKind.u64.wrap (((BitVec.ofInt 64 (u : Int) &&& BitVec.ofInt 64 (IntKind.u64.wrap (-(u : Int)))).toNat : Nat) : Int) := rfl
  have e64 : (2 : Nat) ^ 64 = 18446744073709551616 := rfl
  rw [e64] at h
  have e1 : (BitVec.ofInt 64 (u : Int)).toNat = u := by
    rw [BitVec.toNat_ofInt, e64]; omega
  have e2 : (BitVec.ofInt 64 (IntKind.u64.wrap (-(u : Int)))).toNat = 2 ^ 64 - u := by
    rw [BitVec.toNat_ofInt, e64, IntKind.wrap_u64]; omega
  have e3 : u &&& (2 ^ 64 - u) = 2 ^ t := by
    have f1 : u = (2 * m + 1) <<< t := by rw [Nat.shiftLeft_eq, Nat.mul_comm]; exact hu.symm
    have f3 : 2 ^ 64 = 2 ^ t * 2 ^ (64 - t) := by rw [← Nat.pow_add]; congr 1; omega
    have f2 : 2 ^ 64 - u = (2 ^ (64 - t) - (2 * m + 1)) <<< t := by
      rw [Nat.shiftLeft_eq, Nat.mul_comm, Nat.mul_sub, ← f3, hu]
    have f4 : 2 * m < 2 ^ (64 - t) := by
      rw [← e64, f3, ← hu] at h
      have := Nat.lt_of_mul_lt_mul_left h
      omega
    rw [f2, f1, ← Nat.shiftLeft_and_distrib, and_neg_odd m (64 - t) (by omega) f4, Nat.shiftLeft_eq, Nat.one_mul]
  rw [e0, BitVec.toNat_and, e1, e2, e3, IntKind.wrap_u64]
  have : 2 ^ t ≤ u := by rw [← hu]; exact Nat.le_mul_of_pos_right _ (by omega)
  omega
/-- the trailing zeros of the 'or' -/
theorem OrOf.tz {l : Nat → Int} {n width : Nat} {v : Int} (h : OrOf l n v) (hw1 : 1 ≤ width) (hw : width ≤ 13) (hl : ∀ j, j < n → fitsB width (l j) = true) (hv : v ≠ 0) :
    ∃ m, (IntKind.u64.wrap v) = ((2 ^ (shiftN l n width) * (2 * m + 1) : Nat) : Int) ∧ 2 ^ (shiftN l n width) * (2 * m + 1) < 2 ^ 64 ∧ shiftN l n width ≤ 12 := by
  have hl' : ∀ j, j < n → -4096 ≤ l j ∧ l j ≤ 4096 := fun j hj => fits_bd (hl j hj) hw
  have hr := h.2
  obtain ⟨u, hu⟩ : ∃ u : Nat, IntKind.u64.wrap v = u := ⟨(v % 18446744073709551616).toNat, by rw [IntKind.wrap_u64]; omega⟩
  have hu0 : 0 < u ∧ u < 18446744073709551616 := by rw [IntKind.wrap_u64] at hu; omega
  obtain ⟨t, m, htm⟩ := odd_part u u (Nat.le_refl _) hu0.1
  have hmod : ∀ k, k ≤ 64 → ((u % 2 ^ k = 0) ↔ allDiv l n k = true) := fun k hk => by
    rw [allDiv_iff, ← h.1 k hk]
    obtain ⟨q, hq⟩ : ∃ q : Int, v = u + q * 2 ^ 64 := ⟨v / 18446744073709551616, by
      have e : (2 : Int) ^ 64 = 18446744073709551616 := rfl
      rw [IntKind.wrap_u64] at hu; rw [e]; omega⟩
    obtain ⟨r, hr⟩ := ip2_dvd hk
    rw [hq, hr, Int.mul_left_comm, Int.add_mul_emod_self_left, ← ip2, ← Int.natCast_emod]
    omega
  have hnz : anyNz l n = true := by
    cases e : anyNz l n with
    | true => rfl
    | false => exact absurd ((h.nz hl').2 e) hv
  have ht64 : t < 64 := by
    by_cases e : t < 64
    · exact e
    · have h1 : 2 ^ 64 ≤ 2 ^ t := Nat.pow_le_pow_right (by omega) (by omega)
      have h2 : 2 ^ t ≤ u := by rw [htm]; exact Nat.le_mul_of_pos_right _ (by omega)
      have e64 : (2 : Nat) ^ 64 = 18446744073709551616 := rfl
      omega
  have d1 : allDiv l n t = true := (hmod t (by omega)).1 (by rw [htm]; exact Nat.mul_mod_right _ _)
  have d2 : allDiv l n (t + 1) = false := by
    cases e : allDiv l n (t + 1) with
    | false => rfl
    | true =>
      have h4 := (hmod (t + 1) (by omega)).2 e
      rw [htm, Nat.pow_succ, Nat.mul_mod_mul_left, show (2 * m + 1) % 2 = 1 by omega, Nat.mul_one] at h4
      exact absurd h4 (Nat.ne_of_gt (Nat.two_pow_pos t))
  have hlt : t ≤ width - 1 := by
    simp only [anyNz, List.any_eq_true, List.mem_range, decide_eq_true_eq] at hnz
    obtain ⟨j, hj, hz⟩ := hnz
    have hd := Int.dvd_of_emod_eq_zero ((allDiv_iff l n t).1 d1 j hj)
    have hf := hl j hj
    unfold fitsB at hf
    rw [within_iff] at hf
    have h1 := Int.natAbs_dvd_natAbs.2 hd
    have h2 := Nat.le_of_dvd (by omega) h1
    rw [← ip2, Int.natAbs_natCast] at h2
    have hf2 : (l j).natAbs ≤ 2 ^ (width - 1) := by
      rw [← ip2] at hf; omega
    exact (Nat.pow_le_pow_iff_right (by omega)).1 (Nat.le_trans h2 hf2)
  have es : shiftN l n width = t := shiftT_eq d1 d2 hnz _ hlt
  rw [es]
  have e64 : (2 : Nat) ^ 64 = 18446744073709551616 := rfl
  exact ⟨m, by rw [← htm]; exact hu, by rw [← htm, e64]; exact hu0.2, by omega⟩
theorem OrOf.shift0 {l : Nat → Int} {n width : Nat} {v : Int} (h : OrOf l n v) (hw : width ≤ 13) (hl : ∀ j, j < n → fitsB width (l j) = true) (hv : v = 0) : shiftN l n width = 0 :=
  shiftT_none ((h.nz fun j hj => fits_bd (hl j hj) hw).1 hv) _
end Go.Proofs.YtlncjgnomhpjnaaDoor
