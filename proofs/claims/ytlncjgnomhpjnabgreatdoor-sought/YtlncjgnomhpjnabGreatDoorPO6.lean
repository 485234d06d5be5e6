import Derived.Test.YtlncjgnomhpjnabGreatDoorPO5
import Derived.WalkKit
import Derived.Test.YtlncjgnomhpjnabGreatDoorPO1
import Derived.Lib.Builder
import Derived.Lib.FrozenHead2
import Derived.Lib.OthersKept
import Derived.Deep.RegionWith
/-
  Plain mathematics for 'Codes': the shift by which all samples can be shortened, by their 'or' and by its trailing zeros.
-/
namespace Go.Proofs.YtlncjgnomhpjnabGreatDoor
open Go.RowKit
theorem ip2 (k : Nat) : ((2 ^ k : Nat) : Int) = (2 : Int) ^ k := by simp
theorem ip2_pos (k : Nat) : (0 : Int) < 2 ^ k := by rw [← ip2]; exact Int.ofNat_lt.2 (Nat.two_pow_pos k)
theorem ip2_dvd {k m : Nat} (h : k ≤ m) : (2 : Int) ^ k ∣ 2 ^ m := by
  refine ⟨2 ^ (m - k), ?_⟩
  rw [← Int.pow_add]; congr 1; omega
theorem ofInt_mod (a : Int) (k : Nat) (hk : k ≤ 64) : a % 2 ^ k = 0 ↔ (BitVec.ofInt 64 a).toNat % 2 ^ k = 0 := by
  have e : ((BitVec.ofInt 64 a).toNat : Int) = a % 2 ^ 64 := by
    rw [BitVec.toNat_ofInt]
    have : 0 ≤ a % ((2 ^ 64 : Nat) : Int) := Int.emod_nonneg _ (by decide)
    rw [Int.toNat_of_nonneg this]; simp
  have h1 : (((BitVec.ofInt 64 a).toNat % 2 ^ k : Nat) : Int) = a % 2 ^ k := by
    rw [Int.natCast_emod, e, ip2, Int.emod_emod_of_dvd _ (ip2_dvd hk)]
  omega
theorem wrap_mod (v : Int) (k : Nat) (hk : k ≤ 64) : IntKind.i64.wrap v % 2 ^ k = v % 2 ^ k := by
  have h : ∃ q : Int, IntKind.i64.wrap v = v + q * 2 ^ 64 := by
    rw [IntKind.wrap_i64]
    refine ⟨-((v + 9223372036854775808) / 18446744073709551616), ?_⟩
    have e : (2 : Int) ^ 64 = 18446744073709551616 := rfl
    rw [e]; omega
  obtain ⟨q, hq⟩ := h
  obtain ⟨r, hr⟩ := ip2_dvd hk
  rw [hq, hr, Int.mul_left_comm, Int.add_mul_emod_self_left]
theorem or_mod0 (a b : Int) (k : Nat) (hk : k ≤ 64) : bits .or .i64 a b % 2 ^ k = 0 ↔ a % 2 ^ k = 0 ∧ b % 2 ^ k = 0 := by
  have e : bits .or .i64 a b = IntKind.i64.wrap (((BitVec.ofInt 64 a ||| BitVec.ofInt 64 b).toNat : Nat) : Int) := rfl
  rw [e, wrap_mod _ _ hk, BitVec.toNat_or, ofInt_mod a k hk, ofInt_mod b k hk]
  generalize (BitVec.ofInt 64 a).toNat = A
  generalize (BitVec.ofInt 64 b).toNat = B
  rw [← ip2, ← Int.natCast_emod, Nat.or_mod_two_pow]
  have : ∀ x y : Nat, ((x ||| y : Nat) : Int) = 0 ↔ x = 0 ∧ y = 0 := fun x y => by
    constructor
    · intro h
      have h' : x ||| y = 0 := by omega
      exact ⟨Nat.eq_zero_of_le_zero (h' ▸ Nat.left_le_or), Nat.eq_zero_of_le_zero (h' ▸ Nat.right_le_or)⟩
    · rintro ⟨rfl, rfl⟩; rfl
  exact this _ _
/-- v is the 'or' of the first i, as far as its trailing zeros go -/
def OrOf (l : Nat → Int) (i : Nat) (v : Int) : Prop := (∀ k, k ≤ 64 → (v % 2 ^ k = 0 ↔ ∀ j, j < i → l j % 2 ^ k = 0)) ∧ -9223372036854775808 ≤ v ∧ v ≤ 9223372036854775807
theorem OrOf.zero (l : Nat → Int) : OrOf l 0 0 := ⟨fun k _ => by simp, by omega, by omega⟩
theorem OrOf.step {l : Nat → Int} {i : Nat} {v : Int} (h : OrOf l i v) : OrOf l (i + 1) (bits .or .i64 v (l i)) := by
  refine ⟨fun k hk => ?_, ?_⟩
  · rw [or_mod0 _ _ _ hk, h.1 k hk]
    constructor
    · rintro ⟨h1, h2⟩ j hj
      by_cases e : j = i
      · subst e; exact h2
      · exact h1 j (by omega)
    · intro h1; exact ⟨fun j hj => h1 j (by omega), h1 i (by omega)⟩
  · have e : ∃ z : Int, bits .or .i64 v (l i) = IntKind.i64.wrap z := ⟨_, rfl⟩
    obtain ⟨z, hz⟩ := e
    rw [hz, IntKind.wrap_i64]; omega
theorem OrOf.nz {l : Nat → Int} {i : Nat} {v : Int} (h : OrOf l i v) (hl : ∀ j, j < i → -4096 ≤ l j ∧ l j ≤ 4096) : v = 0 ↔ anyNz l i = false := by
  have h64 := h.1 64 (Nat.le_refl _)
  have e : (2 : Int) ^ 64 = 18446744073709551616 := rfl
  rw [e] at h64
  have hv : v = 0 ↔ v % 18446744073709551616 = 0 := by have := h.2; omega
  rw [hv, h64]
  simp only [anyNz, List.any_eq_false, List.mem_range, decide_eq_true_eq, ne_eq, Decidable.not_not]
  constructor
  · intro hh j hj; have := hh j hj; have := hl j hj; omega
  · intro hh j hj; rw [hh j hj]; rfl
theorem allDiv_mono {l : Nat → Int} {n k m : Nat} (h : allDiv l n m = true) (hk : k ≤ m) : allDiv l n k = true := by
  rw [allDiv_iff] at h ⊢
  intro i hi
  have h1 := Int.dvd_of_emod_eq_zero (h i hi)
  exact Int.emod_eq_zero_of_dvd (Int.dvd_trans (ip2_dvd hk) h1)
theorem shiftT_eq {l : Nat → Int} {n t : Nat} (h1 : allDiv l n t = true) (h2 : allDiv l n (t + 1) = false) (h3 : anyNz l n = true) : ∀ K, t ≤ K → shiftT l n K = t
  | 0, h => by have : t = 0 := by omega
               subst this; rfl
  | K + 1, h => by
    by_cases e : t = K + 1
    · subst e; rw [shiftT, if_pos (by rw [h1, h3]; rfl)]
    · rw [shiftT, if_neg, shiftT_eq h1 h2 h3 K (by omega)]
      intro hc
      rw [Bool.and_eq_true] at hc
      rw [allDiv_mono hc.1 (by omega : t + 1 ≤ K + 1)] at h2; cases h2
theorem shiftT_none {l : Nat → Int} {n : Nat} (h3 : anyNz l n = false) : ∀ K, shiftT l n K = 0
  | 0 => rfl
  | K + 1 => by rw [shiftT, if_neg (by rw [h3]; simp), shiftT_none h3 K]
/-- a number above 0 is a power of 2 times an odd one -/
theorem odd_part : ∀ (B u : Nat), u ≤ B → 0 < u → ∃ t m, u = 2 ^ t * (2 * m + 1)
  | 0, u, h, h0 => absurd h0 (by omega)
  | B + 1, u, h, h0 => by
    by_cases e : u % 2 = 1
    · exact ⟨0, u / 2, by simp; omega⟩
    · obtain ⟨t, m, hm⟩ := odd_part B (u / 2) (by omega) (by omega)
      refine ⟨t + 1, m, ?_⟩
      rw [Nat.pow_succ, Nat.mul_comm (2 ^ t) 2, Nat.mul_assoc, ← hm]; omega
theorem and_neg_odd (m s : Nat) (hs : 0 < s) (h : 2 * m < 2 ^ s) : (2 * m + 1) &&& (2 ^ s - (2 * m + 1)) = 1 := by
  apply Nat.eq_of_testBit_eq
  intro i
  rw [Nat.testBit_and, Nat.testBit_two_pow_sub_succ h]
  cases i with
  | zero =>
    simp [hs]
  | succ i =>
    have e1 : Nat.testBit (2 * m + 1) (i + 1) = Nat.testBit m i := by
      rw [Nat.testBit_succ]; congr 1; omega
    have e2 : Nat.testBit (2 * m) (i + 1) = Nat.testBit m i := by
      rw [Nat.testBit_succ]; congr 1; omega
    have e3 : Nat.testBit 1 (i + 1) = false := by rw [Nat.testBit_succ]; simp
    rw [e1, e2, e3]
    cases Nat.testBit m i <;> simp
theorem and_neg (t m : Nat) (ht : t < 64) (h : 2 ^ t * (2 * m + 1) < 2 ^ 64) : bits .and .u64 ((2 ^ t * (2 * m + 1) : Nat) : Int) (IntKind.u64.wrap (-((2 ^ t * (2 * m + 1) : Nat) : Int))) = ((2 ^ t : Nat) : Int) := by
  generalize hu : 2 ^ t * (2 * m + 1) = u at *
  have hu0 : 0 < u := by rw [← hu]; exact Nat.mul_pos (Nat.two_pow_pos t) (by omega)
  have e0 : bits .and .u64 (u : Int) (IntKind.u64.wrap (-(u : Int))) = IntKind.u64.wrap (((BitVec.ofInt 64 (u : Int) &&& BitVec.ofInt 64 (IntKind.u64.wrap (-(u : Int)))).toNat : Nat) : Int) := rfl
  have e64 : (2 : Nat) ^ 64 = 18446744073709551616 := rfl
  rw [e64] at h
  have e1 : (BitVec.ofInt 64 (u : Int)).toNat = u := by
    rw [BitVec.toNat_ofInt, e64]; omega
  have e2 : (BitVec.ofInt 64 (IntKind.u64.wrap (-(u : Int)))).toNat = 2 ^ 64 - u := by
    rw [BitVec.toNat_ofInt, e64, IntKind.wrap_u64]; omega
  have e3 : u &&& (2 ^ 64 - u) = 2 ^ t := by
    have f1 : u = (2 * m + 1) <<< t := by rw [Nat.shiftLeft_eq, Nat.mul_comm]; exact hu.symm
    have f3 : 2 ^ 64 = 2 ^ t * 2 ^ (64 - t) := by rw [← Nat.pow_add]; congr 1; omega
    have f2 : 2 ^ 64 - u = (2 ^ (64 - t) - (2 * m + 1)) <<< t := by
      rw [Nat.shiftLeft_eq, Nat.mul_comm, Nat.mul_sub, ← f3, hu]
    have f4 : 2 * m < 2 ^ (64 - t) := by
      rw [← e64, f3, ← hu] at h
      have := Nat.lt_of_mul_lt_mul_left h
      omega
    rw [f2, f1, ← Nat.shiftLeft_and_distrib, and_neg_odd m (64 - t) (by omega) f4, Nat.shiftLeft_eq, Nat.one_mul]
  rw [e0, BitVec.toNat_and, e1, e2, e3, IntKind.wrap_u64]
  have : 2 ^ t ≤ u := by rw [← hu]; exact Nat.le_mul_of_pos_right _ (by omega)
  omega
/-- the trailing zeros of the 'or' -/
theorem OrOf.tz {l : Nat → Int} {n width : Nat} {v : Int} (h : OrOf l n v) (hw1 : 1 ≤ width) (hw : width ≤ 13) (hl : ∀ j, j < n → fitsB width (l j) = true) (hv : v ≠ 0) :
    ∃ m, (IntKind.u64.wrap v) = ((2 ^ (shiftN l n width) * (2 * m + 1) : Nat) : Int) ∧ 2 ^ (shiftN l n width) * (2 * m + 1) < 2 ^ 64 ∧ shiftN l n width ≤ 12 := by
  have hl' : ∀ j, j < n → -4096 ≤ l j ∧ l j ≤ 4096 := fun j hj => fits_bd (hl j hj) hw
  have hr := h.2
  obtain ⟨u, hu⟩ : ∃ u : Nat, IntKind.u64.wrap v = u := ⟨(v % 18446744073709551616).toNat, by rw [IntKind.wrap_u64]; omega⟩
  have hu0 : 0 < u ∧ u < 18446744073709551616 := by rw [IntKind.wrap_u64] at hu; omega
  obtain ⟨t, m, htm⟩ := odd_part u u (Nat.le_refl _) hu0.1
  have hmod : ∀ k, k ≤ 64 → ((u % 2 ^ k = 0) ↔ allDiv l n k = true) := fun k hk => by
    rw [allDiv_iff, ← h.1 k hk]
    obtain ⟨q, hq⟩ : ∃ q : Int, v = u + q * 2 ^ 64 := ⟨v / 18446744073709551616, by
      have e : (2 : Int) ^ 64 = 18446744073709551616 := rfl
      rw [IntKind.wrap_u64] at hu; rw [e]; omega⟩
    obtain ⟨r, hr⟩ := ip2_dvd hk
    rw [hq, hr, Int.mul_left_comm, Int.add_mul_emod_self_left, ← ip2, ← Int.natCast_emod]
    omega
  have hnz : anyNz l n = true := by
    cases e : anyNz l n with
    | true => rfl
    | false => exact absurd ((h.nz hl').2 e) hv
  have ht64 : t < 64 := by
    by_cases e : t < 64
    · exact e
    · have h1 : 2 ^ 64 ≤ 2 ^ t := Nat.pow_le_pow_right (by omega) (by omega)
      have h2 : 2 ^ t ≤ u := by rw [htm]; exact Nat.le_mul_of_pos_right _ (by omega)
      have e64 : (2 : Nat) ^ 64 = 18446744073709551616 := rfl
      omega
  have d1 : allDiv l n t = true := (hmod t (by omega)).1 (by rw [htm]; exact Nat.mul_mod_right _ _)
  have d2 : allDiv l n (t + 1) = false := by
    cases e : allDiv l n (t + 1) with
    | false => rfl
    | true =>
      have h4 := (hmod (t + 1) (by omega)).2 e
      rw [htm, Nat.pow_succ, Nat.mul_mod_mul_left, show (2 * m + 1) % 2 = 1 by omega, Nat.mul_one] at h4
      exact absurd h4 (Nat.ne_of_gt (Nat.two_pow_pos t))
  have hlt : t ≤ width - 1 := by
    simp only [anyNz, List.any_eq_true, List.mem_range, decide_eq_true_eq] at hnz
    obtain ⟨j, hj, hz⟩ := hnz
    have hd := Int.dvd_of_emod_eq_zero ((allDiv_iff l n t).1 d1 j hj)
    have hf := hl j hj
    unfold fitsB at hf
    rw [within_iff] at hf
    have h1 := Int.natAbs_dvd_natAbs.2 hd
    have h2 := Nat.le_of_dvd (by omega) h1
    rw [← ip2, Int.natAbs_natCast] at h2
    have hf2 : (l j).natAbs ≤ 2 ^ (width - 1) := by
      rw [← ip2] at hf; omega
    exact (Nat.pow_le_pow_iff_right (by omega)).1 (Nat.le_trans h2 hf2)
  have es : shiftN l n width = t := shiftT_eq d1 d2 hnz _ hlt
  rw [es]
  have e64 : (2 : Nat) ^ 64 = 18446744073709551616 := rfl
  exact ⟨m, by rw [← htm]; exact hu, by rw [← htm, e64]; exact hu0.2, by omega⟩
theorem OrOf.shift0 {l : Nat → Int} {n width : Nat} {v : Int} (h : OrOf l n v) (hw : width ≤ 13) (hl : ∀ j, j < n → fitsB width (l j) = true) (hv : v = 0) : shiftN l n width = 0 :=
  shiftT_none ((h.nz fun j hj => fits_bd (hl j hj) hw).1 hv) _
end Go.Proofs.YtlncjgnomhpjnabGreatDoor

/-
  Plain mathematics for 'Tight': a subframe is read back.
-/
namespace Go.Proofs.YtlncjgnomhpjnabGreatDoor
set_option linter.unusedVariables false
theorem nums_at {b : Nat → Bool} {p w : Nat} {x : Nat → Int} : ∀ {m j : Nat}, SaysT b p (numsT x w m) → j < m → SaysT b (posn p w j) (binT (x j) w)
  | 0, j, _, hj => absurd hj (Nat.not_lt_zero j)
  | m + 1, j, h, hj => by
    simp only [numsT] at h
    by_cases e : j = m
    · subst e
      have := h.right
      rw [numsT_length] at this
      exact this
    · exact nums_at h.left (by omega)
theorem bestK_zero (w : Nat) (x : Nat → Int) (n : Nat) : ∀ j, bestK w x n j = 0 → allSame x n = true
  | 0, h => by
    unfold bestK at h
    cases e : allSame x n with
    | true => rfl
    | false => rw [e] at h; simp at h
  | j + 1, h => by
    unfold bestK at h
    split at h
    · omega
    · exact bestK_zero w x n j h
theorem short_mul (l : Nat → Int) (n width j : Nat) (hj : j < n) : shortX l n width j * 2 ^ shiftN l n width = l j :=
  Int.ediv_mul_cancel (Int.dvd_of_emod_eq_zero (shiftT_div l n (width - 1) j hj))
theorem short_fits (l : Nat → Int) (n width j : Nat) (hw1 : 1 ≤ width) (hj : j < n) (hf : fitsB width (l j) = true) : fitsB (width - shiftN l n width) (shortX l n width j) = true := by
  have hs : shiftN l n width ≤ width - 1 := shiftT_le _ _ _
  have hm := short_mul l n width j hj
  unfold fitsB at hf ⊢
  rw [within_iff] at hf ⊢
  generalize shortX l n width j = x at *
  generalize shiftN l n width = s at *
  have e : (2 : Int) ^ (width - 1) = 2 ^ (width - s - 1) * 2 ^ s := by rw [← Int.pow_add]; congr 1; omega
  have hp := ip2_pos s
  rw [e, ← hm] at hf
  generalize (2 : Int) ^ (width - s - 1) = q at *
  generalize (2 : Int) ^ s = r at *
  constructor
  · have h1 : -q * r ≤ x * r := by rw [Int.neg_mul]; exact hf.1
    exact Int.le_of_mul_le_mul_right h1 hp
  · have h1 : x * r < q * r := by omega
    have := Int.lt_of_mul_lt_mul_right h1 (Int.le_of_lt hp)
    omega
theorem body_back {b : Nat → Bool} {N kind W n p : Nat} {x : Nat → Int} (h7 : kind ≤ 7) (hn1 : 1 ≤ n) (hW1 : 1 ≤ W) (hW : W ≤ 13) (hfit : ∀ j, j < n → fitsB W (x j) = true) (h0 : kind = 0 → allSame x n = true) (hok : 2 ≤ kind → okG kind x n = true)
    (hT : SaysT b p (bodyT kind W x n)) (hL : p + bodyL kind W x n ≤ N) : ∃ r, bodySt b N kind W n p = some r ∧ r.2 = p + bodyL kind W x n ∧ ∀ j, j < n → r.1 j = x j := by
  unfold bodySt
  unfold bodyT at hT
  unfold bodyL at hL ⊢
  by_cases k0 : kind = 0
  · rw [if_pos k0] at hT hL ⊢
    rw [if_pos k0, if_pos hL]
    refine ⟨_, rfl, rfl, fun j hj => ?_⟩
    show sgn b p W = x j
    rw [sgn_bin hT hW1 (hfit 0 (by omega)), (allSame_iff x n).1 (h0 k0) j hj]
  · rw [if_neg k0] at hT hL ⊢
    rw [if_neg k0]
    by_cases k1 : kind = 1
    · rw [if_pos k1] at hT hL ⊢
      rw [if_pos k1, if_pos (show posn p W n ≤ N from hL)]
      exact ⟨_, rfl, rfl, fun j hj => sgn_bin (nums_at hT hj) hW1 (hfit j hj)⟩
    · rw [if_neg k1] at hT hL ⊢
      have h2 : 2 ≤ kind := by omega
      have hg := hok h2
      have hon : ord kind < n := by unfold okG at hg; rw [Bool.and_eq_true, decide_eq_true_eq] at hg; exact hg.1
      rw [if_neg k1, if_neg (by omega)]
      unfold gT at hT
      unfold gL at hL ⊢
      have hx := hT.left
      have hr := hT.right
      rw [numsT_length] at hr
      rw [if_pos (show posn p W (ord kind) ≤ N by unfold posn; omega)]
      have hxs : ∀ j, j < ord kind → sgn b (posn p W j) W = x j := fun j hj => sgn_bin (nums_at hx hj) hW1 (hfit j (by omega))
      have hbc := bestC_le (fR kind x n) (ord kind) n 3
      have hcok := bestC_ok (fR kind x n) (ord kind) n hon 3
      have key : ∀ (a c : Int) (p2 : Nat), a = wA kind x n → c = wB kind x n → SaysT b p2 (cutT (fR kind x n) (ord kind) n (bC kind x n)) → p2 + cutL (fR kind x n) (ord kind) n (bC kind x n) ≤ N →
          ∃ st, restsSt b N W kind a c n p2 (fun i => sgn b (posn p W i) W) = some st ∧ st.p = p2 + cutL (fR kind x n) (ord kind) n (bC kind x n) ∧ ∀ j, j < n → st.x j = x j := by
        intro a c p2 ha hc hcut hcl
        unfold cutT at hcut
        unfold cutL at hcl ⊢
        have hb2 := hcut.left
        have hpt := hcut.right
        rw [binT_length] at hpt
        have hnum : num b p2 2 = bC kind x n := num_binN hb2 (show bestC (fR kind x n) (ord kind) n 3 < 2 ^ 2 from Nat.lt_of_le_of_lt hbc (by decide))
        have hcf := cut_facts (show cutB n (ord kind) (bC kind x n) = true from hcok)
        unfold restsSt
        rw [hnum, if_pos ⟨by omega, hcok⟩]
        have hJs : (theJob b N W kind a c n p2).size = n / 2 ^ bC kind x n := by show n / 2 ^ num b p2 2 = _; rw [hnum]
        obtain ⟨st, hst, hat⟩ := rests_back (theJob b N W kind a c n p2) x n (2 ^ bC kind x n) (p2 + 2) (fR kind x n) ⟨p2 + 2, 0, fun i => sgn b (posn p W i) W⟩ ⟨rfl, hxs⟩
          (by rw [hJs]; exact hcf.1.symm) (by rw [hJs]; exact hcf.2) hfit (fun i => by show fR kind x n i = foldN (x i - guessG kind a c x i); rw [ha, hc]; rfl) (by rw [hJs]; exact hpt) (by rw [hJs]; show _ ≤ N; simp only [theJob]; omega) (2 ^ bC kind x n) (Nat.le_refl _)
        rw [hJs] at hst hat
        have e : 2 ^ bC kind x n * (n / 2 ^ bC kind x n) = n := by rw [Nat.mul_comm]; exact hcf.1
        rw [e] at hst hat
        exact ⟨st, hst, by rw [hat.p]; simp only [theJob]; omega, fun j hj => hat.x j (by simp only [theJob]; omega)⟩
      by_cases k7 : kind = 7
      · rw [if_pos k7] at hr hL ⊢
        rw [if_pos k7, if_pos (by unfold posn; omega)]
        have ha := hr.left.left
        have hb := hr.left.right
        have hc := hr.right
        rw [binT_length] at hb
        rw [List.length_append, binT_length, binT_length] at hc
        have hab := clamp_bd (8 * lag x 1 n * (lag x 0 n - lag x 2 n) / leanD x n)
        have hbb := clamp_bd (8 * (lag x 0 n * lag x 2 n - lag x 1 n * lag x 1 n) / leanD x n)
        have fa : fitsB 6 (leanA x n) = true := by unfold fitsB leanA; rw [within_iff]; omega
        have fb : fitsB 6 (leanB x n) = true := by unfold fitsB leanB; rw [within_iff]; omega
        obtain ⟨st, hst, hp, hxx⟩ := key (sgn b (posn p W (ord kind)) 6) (sgn b (posn p W (ord kind) + 6) 6) (posn p W (ord kind) + 12)
          (by rw [show wA kind x n = leanA x n from if_pos k7]; exact sgn_bin ha (by omega) fa) (by rw [show wB kind x n = leanB x n from if_pos k7]; exact sgn_bin hb (by omega) fb) hc (by unfold posn; omega)
        rw [hst]
        exact ⟨_, rfl, by show st.p = _; rw [hp]; unfold posn; omega, hxx⟩
      · rw [if_neg k7] at hr hL ⊢
        rw [if_neg k7]
        rw [List.nil_append] at hr
        obtain ⟨st, hst, hp, hxx⟩ := key 0 0 (posn p W (ord kind)) (if_neg k7).symm (if_neg k7).symm hr (by unfold posn; omega)
        rw [hst]
        exact ⟨_, rfl, by show st.p = _; rw [hp]; unfold posn; omega, hxx⟩
theorem subT_length (width : Nat) (l : Nat → Int) (n : Nat) : (subT width l n).length = 8 + bodyL (subKind width l n) (width - shiftN l n width) (shortX l n width) n := by
  unfold subT
  rw [List.length_append, List.length_append, binT_length, binT_length, bodyT_length]; omega
/-- a subframe is read as its samples, whatever stands behind it -/
theorem sub_back {b : Nat → Bool} {N width n : Nat} {l : Nat → Int} (hn1 : 1 ≤ n) (hw1 : 1 ≤ width) (hw : width ≤ 13) (hfit : ∀ j, j < n → fitsB width (l j) = true) (hT : SaysT b 0 (subT width l n)) (hL : (subT width l n).length ≤ N) :
    ∃ r, readSt b N width n = some r ∧ r.2 = (subT width l n).length ∧ ∀ j, j < n → r.1 j = l j := by
  have hs : shiftN l n width ≤ width - 1 := shiftT_le _ _ _
  have hk := bestK_le (width - shiftN l n width) (shortX l n width) n 6
  rw [subT_length] at hL ⊢
  unfold subT at hT
  have t1 := hT.left
  have t2 := hT.right.left
  have t3 := hT.right.right
  rw [binT_length] at t2 t3
  rw [binT_length] at t3
  have e1 : num b 0 4 = subKind width l n := num_binN t1 (Nat.lt_of_le_of_lt hk (by decide))
  have e2 : num b 4 4 = shiftN l n width := num_binN t2 (by omega)
  obtain ⟨r, h1, h2, h3⟩ := body_back (b := b) (N := N) (kind := subKind width l n) (W := width - shiftN l n width) (n := n) (p := 8) (x := shortX l n width) hk hn1 (by omega) (by omega) (fun j hj => short_fits l n width j hw1 hj (hfit j hj)) (fun h => bestK_zero _ _ _ _ h) (fun h => bestK_ok _ _ _ _ h) t3 hL
  unfold readSt
  rw [e1, e2, if_pos ⟨by omega, by omega⟩, h1]
  exact ⟨_, rfl, h2, fun j hj => by show r.1 j * 2 ^ _ = l j; rw [h3 j hj]; exact short_mul l n width j hj⟩
/-- and it is no longer than the samples, each in its width -/
theorem bestK_plain (w : Nat) (x : Nat → Int) (n : Nat) (hn1 : 1 ≤ n) : ∀ j, bodyL (bestK w x n j) w x n ≤ n * w
  | 0 => by
    unfold bestK
    split
    · show w ≤ n * w
      exact Nat.le_mul_of_pos_left _ hn1
    · exact Nat.le_refl _
  | j + 1 => by
    have ih := bestK_plain w x n hn1 j
    unfold bestK
    split
    · rename_i h; omega
    · exact ih
theorem subT_le (width : Nat) (l : Nat → Int) (n : Nat) (hn1 : 1 ≤ n) : (subT width l n).length ≤ 8 + n * width := by
  rw [subT_length]
  have h := bestK_plain (width - shiftN l n width) (shortX l n width) n hn1 6
  have h2 : n * (width - shiftN l n width) ≤ n * width := Nat.mul_le_mul_left _ (by omega)
  unfold subKind
  omega
end Go.Proofs.YtlncjgnomhpjnabGreatDoor

/-
  The writer of bits: strings.Builder in a block of its own, or in a writer's.
-/
namespace Go.Proofs.YtlncjgnomhpjnabGreatDoor
open Go.RowKit Go.Deep
set_option linter.unusedVariables false
theorem sizeBuilder : (Tryz.prog.info? 278).map (·.size) = some 2 := by kernel_rfl
theorem infoByte : (Tryz.prog.info? 5).map (fun i => (i.zero, i.size, i.bytes)) = some (some (.int .u8 0), 1, 1) := by kernel_rfl
theorem cellsByte : Tryz.prog.cellsOf 5 = 1 := by kernel_rfl
/-- a builder may lie in such a block -/
def Lies (T : TypeId) : Prop := liesAt Tryz.prog Tryz.prog.depth T (2 / Tryz.prog.cellsOf T) 0 278 1 = true ∧ T ≠ 5
theorem lies_writer : Lies 326 := ⟨by kernel_rfl, by decide⟩
theorem lies_builder : Lies 278 := ⟨by kernel_rfl, by decide⟩
set_option maxHeartbeats 1000000 in
set_option maxRecDepth 100000 in
theorem copyCheck_any (T : TypeId) (hT : Lies T) (B b : Nat) (bs : List Value) (w : World) (h : Lib.IsBuilderF T 5 B b bs w) :
    Calls Tryz.prog 251 #[.pointer (some ⟨b, 0, none⟩)] w fun e w' => e = .returned (.tuple #[]) ∧ (Lib.BuilderAtF T 5 B b (.pointer (some ⟨b, 0, none⟩)) bs w' ∧ Below B w w' ∧ Lib.OthersKept 5 (some b) w w') := by
  obtain ⟨j, hj, hjs⟩ := Option.map_eq_some_iff.1 sizeBuilder
  rcases h with h | h
  · have h0 := h.cell0
    have hsh := h.shape
    have hfz := h.frozen0
    have HH := Hid.mk' h
    clear h
    go_enter Tryz.func251, Tryz.ntmps251
    go_wp2
    rw [Lib.run_to_unsafe w ⟨b, 0, none⟩ Tryz.underlying276 Tryz.underlying261 hj (by rw [hjs]; decide) hsh (Nat.zero_lt_succ 1)]
    simp only [Result.andThen]
    rw [Oper.upon_value]
    go_wp2
    rw [run_callFunc_extern Tryz.func284 (by kernel_rfl) (by kernel_rfl) (by kernel_rfl) (e := Extern.AbiNoEscape.same) (by kernel_rfl)]
    rw [Lib.run_noEscape]
    simp only [Result.andThen]
    rw [Oper.upon_value]
    go_wp2
    rw [Lib.run_from_unsafe w ⟨b, 0, none⟩ Tryz.underlying261 Tryz.underlying276 hj hsh hT.1]
    simp only [Result.andThen]
    rw [Oper.upon_value]
    go_wp2
    go_end0
    exact ⟨rfl, HH.out.used _, (Below.refl B w).setCell (p := ⟨b, 0, none⟩) HH.out.1 _, (Lib.OthersKept.refl _ _ w).setCell ⟨b, 0, none⟩ rfl _⟩
  · have h0 := h.cell0
    have HH := Hid.mk' h
    clear h
    have hne := fun u : World => Lib.run_neq_ptr_same (P := Tryz.prog) (w := u) (j := j) (⟨b, 0, none⟩ : Addr) Tryz.underlying276 hj
    go_enter Tryz.func251, Tryz.ntmps251
    go_wp2
    go_end0
    exact ⟨rfl, HH.out, Below.refl B _, Lib.OthersKept.refl _ _ _⟩
set_option maxHeartbeats 2000000 in
set_option maxRecDepth 100000 in
theorem writeByte_any (T : TypeId) (hT : Lies T) (B b : Nat) (bs : List Value) (c : Int) (w : World) (h : Lib.IsBuilderF T 5 B b bs w) (hlen : bs.length + 1 ≤ 140737488355328) (hBw : B ≤ w.heap.size) :
    Calls Tryz.prog 287 #[.pointer (some ⟨b, 0, none⟩), .int .u8 c] w fun e w' => e = .returned .nilIface ∧ (Lib.BuilderAtF T 5 B b (.pointer (some ⟨b, 0, none⟩)) (bs ++ [.int .u8 c]) w' ∧ Below B w w' ∧ Lib.OthersKept 5 (some b) w w') := by
  obtain ⟨i0, hi, hz0, hz1, hz2⟩ := info_parts infoByte
  have HH := Hid.mk' h
  clear h
  go_enter Tryz.func287, Tryz.ntmps287
  go_wp2_with (go_at_call 251; refine (copyCheck_any T hT B b bs _ HH.out).mono ?_)
  rintro e w1 ⟨rfl, h1, hb1, hk1⟩
  obtain ⟨hB, v, hbk, hown, hne⟩ := h1
  have c0 : w1.cell? ⟨b, 0, none⟩ = some (.pointer (some ⟨b, 0, none⟩)) := by rw [Lib.cell_of_heap hbk]; rfl
  have c1 : w1.cell? ⟨b, 1, none⟩ = some v := by rw [Lib.cell_of_heap hbk]; rfl
  go_wp2_with (at_builtin; refine wpList_append_ownF _ rfl _ _ 33 rfl B 5 i0 (.int .u8 0) 1 1 Tryz.underlying33 hi hz0 hz1 hz2 rfl (by decide) _ _ _ rfl (hown.alloc _) ⟨w1.heap.size, 0, none⟩ 1 1 [.int .u8 c] rfl rfl ?c1 ?c2 ?c3 ?c4 ?c5 ?_)
  case c1 =>
    intro j u hj
    match j, hj with
    | 0, hj => simp at hj; subst hj; simp [Addr.add]
  case c2 => intro u hu; simp at hu; subst hu; rfl
  case c3 => unfold maxLen; omega
  case c4 => omega
  case c5 => have := hb1.size; simp; omega
  intro v' w2 hown' hgrow _
  have hlt : b < w1.heap.size := (Array.getElem?_eq_some_iff.1 hbk).1
  have hb2 : w2.heap[b]? = some (.cells #[.pointer (some ⟨b, 0, none⟩), v] T (0, 0)) := by
    rw [hgrow.block b (by simp; omega) (fun e => hne e.symm), Lib.alloc_old w1 _ b hlt]
    exact hbk
  have d0 : w2.cell? ⟨b, 0, none⟩ = some (.pointer (some ⟨b, 0, none⟩)) := by rw [Lib.cell_of_heap hb2]; rfl
  have d1 : w2.cell? ⟨b, 1, none⟩ = some v := by rw [Lib.cell_of_heap hb2]; rfl
  have f1 : w2.frozen? ⟨b, 1, none⟩ = false := Lib.frozen_of_heap hb2 1
  obtain ⟨g, cap, rfl⟩ : ∃ g cap, v' = .slice (some ⟨g, 0, none⟩) (bs.length + 1) cap := by
    rcases hown'.2 with ⟨_, h0⟩ | ⟨g, cap, cur, fz, hv, _⟩
    · omega
    · exact ⟨g, cap, hv⟩
  go_wp2
  go_ret
  refine ⟨rfl, ?_, ?_, ((hk1.alloc _).grown hgrow (Lib.ownsRowF_kind (hown.alloc _))).setCell ⟨b, 1, none⟩ rfl _⟩
  · exact Lib.BuilderAtF.put (T := T) (e := 5) hB hb2 (bs' := bs ++ [.int .u8 c]) (by simpa using hown') hT.2
  · exact ((hb1.alloc (by have := hb1.size; omega) _).grown hgrow (by have := hb1.size; simp; omega) (fun k hk => (hown.lt k hk).1)).setCell (p := ⟨b, 1, none⟩) hB _
set_option maxHeartbeats 2000000 in
set_option maxRecDepth 100000 in
theorem string_any (T : TypeId) (B b : Nat) (l : List UInt8) (w : World) (h : Lib.IsBuilderF T 5 B b (Lib.byteCells l) w) (h0 : l ≠ []) :
    Calls Tryz.prog 201 #[.pointer (some ⟨b, 0, none⟩)] w fun e w' => e = .returned (.string ⟨l.toArray⟩) ∧ Below B w w' := by
  obtain ⟨p, hAt⟩ : ∃ p, Lib.BuilderAtF T 5 B b p (Lib.byteCells l) w := by
    rcases h with h | h
    · exact ⟨_, h⟩
    · exact ⟨_, h⟩
  obtain ⟨hB, v, hbk, hown, hne⟩ := hAt
  have hl0 : l.length ≠ 0 := by simpa using h0
  rw [Lib.byteCells_length] at hown
  obtain ⟨g, cap, cur, fz, rfl, hbg, hg, hfz, hnc, hcm, hcs, htake⟩ : ∃ g cap cur fz, v = .slice (some ⟨g, 0, none⟩) l.length cap ∧ B ≤ g ∧ w.heap[g]? = some (.cells cur 5 fz) ∧ fz.2 ≤ l.length * 1 ∧ l.length ≤ cap ∧ cap ≤ maxLen ∧ cur.size = cap * 1 ∧ cur.toList.take (l.length * 1) = Lib.byteCells l := by
    rcases hown.2 with ⟨_, hz⟩ | ⟨g, cap, cur, fz, hv, r⟩
    · exact absurd hz hl0
    · exact ⟨g, cap, cur, fz, hv, r⟩
  have c1 : w.drew.cell? ⟨b, 1, none⟩ = some (.slice (some ⟨g, 0, none⟩) l.length cap) := by
    have : w.drew.heap[b]? = some (.cells #[p, .slice (some ⟨g, 0, none⟩) l.length cap] T (0, 0)) := hbk
    rw [Lib.cell_of_heap this]; rfl
  have hSD : (Builtin.unsafeSliceData_ #[33] 322 #[.slice (some ⟨g, 0, none⟩) l.length cap]).run Tryz.prog w.drew = .ok (.pointer (some ⟨g, 0, none⟩)) w.drew :=
    Lib.run_unsafeSliceData_row _ _ _ _ _ _ (by omega)
  have hUS : (Builtin.unsafeString_ #[322, 3] 9 #[.pointer (some ⟨g, 0, none⟩), .int .i64 l.length]).run Tryz.prog w.drew = .ok (.string ⟨l.toArray⟩) (w.drew.freeze ⟨g, 0, none⟩ l.length) := by
    refine Lib.run_unsafeString_row w.drew 322 3 9 5 Tryz.underlying322 cellsByte g cur.size (by have hg' : w.drew.heap[g]? = some (.cells cur 5 fz) := hg; simp [World.shape?, hg']) l h0 (by omega) (by unfold maxLen at hcm; omega) ?_
    intro j x hx
    have := hown.cells (g := g) rfl j (.int .u8 x.toNat) (by simp [Lib.byteCells, hx])
    exact this
  clear hown hg htake hbk
  go_enter Tryz.func201, Tryz.ntmps201
  go_wp2
  go_region
  all_goals (go_wp2; go_ret; exact ⟨rfl, Lib.below_freeze (Below.drew (Below.refl B w)) (p := ⟨g, 0, none⟩) hbg _⟩)
end Go.Proofs.YtlncjgnomhpjnabGreatDoor

/-
  The writer's methods.
-/
namespace Go.Proofs.YtlncjgnomhpjnabGreatDoor
open Go.RowKit Go.Deep
set_option linter.unusedVariables false
/-- a writer that holds this text -/
def Wr (w : World) (B b : Nat) (T : List UInt8) : Prop := Lib.IsBuilderF 326 5 B b (Lib.byteCells T) w
/-- what a writer's call leaves -/
def KeptW (B b : Nat) (w w' : World) : Prop := Below B w w' ∧ Lib.OthersKept 5 (some b) w w'
theorem KeptW.refl (B b : Nat) (w : World) : KeptW B b w w := ⟨Below.refl _ _, Lib.OthersKept.refl _ _ _⟩
theorem KeptW.trans {B b : Nat} {w w' w'' : World} (h : KeptW B b w w') (k : KeptW B b w' w'') : KeptW B b w w'' := ⟨h.1.trans k.1, h.2.trans k.2⟩
theorem Wr.drew {w : World} {B b : Nat} {T : List UInt8} (h : Wr w B b T) : Wr w.drew B b T := h
theorem KeptW.drew {B b : Nat} {w w' : World} (h : KeptW B b w w') : KeptW B b w w'.drew := ⟨h.1.drew, h.2.drew⟩
theorem wWrite_any (B b : Nat) (T : List UInt8) (c : UInt8) (w : World) (h : Wr w B b T) (hlen : T.length + 1 ≤ 140737488355328) (hBw : B ≤ w.heap.size) :
    Calls Tryz.prog 287 #[.pointer (some ⟨b, 0, none⟩), .int .u8 (c.toNat : Int)] w fun e w' => e = .returned .nilIface ∧ Wr w' B b (T ++ [c]) ∧ KeptW B b w w' := by
  refine (writeByte_any 326 lies_writer B b _ (c.toNat : Int) w h (by rw [Lib.byteCells_length]; exact hlen) hBw).mono ?_
  rintro e w' ⟨rfl, h1, h2, h3⟩
  refine ⟨rfl, .inr ?_, h2, h3⟩
  have : Lib.byteCells (T ++ [c]) = Lib.byteCells T ++ [.int .u8 (c.toNat : Int)] := by simp [Lib.byteCells]
  rw [this]; exact h1
theorem and_one (x : Int) : bits .and .i64 x 1 = x % 2 := by
  have e : bits .and .i64 x 1 = IntKind.i64.wrap (((BitVec.ofInt 64 x &&& BitVec.ofInt 64 1).toNat : Nat) : Int) := rfl
  have e1 : (BitVec.ofInt 64 1).toNat = 1 := by decide
  have e2 : ((BitVec.ofInt 64 x).toNat : Int) = x % 18446744073709551616 := by
    rw [BitVec.toNat_ofInt]
    have e64 : ((2 ^ 64 : Nat) : Int) = 18446744073709551616 := rfl
    rw [e64]; omega
  rw [e, BitVec.toNat_and, e1, Nat.and_one_is_mod, IntKind.wrap_i64]
  omega
theorem bit_byte (v : Int) (i : Nat) : IntKind.u8.wrap (48 + IntKind.u8.wrap (bits .and .i64 (v / 2 ^ i) 1)) = ((ltr (decide (v / 2 ^ i % 2 = 1))).toNat : Int) := by
  rw [and_one, ltr_nat]
  generalize v / 2 ^ i = y
  rw [IntKind.wrap_u8, IntKind.wrap_u8]
  by_cases h : y % 2 = 1
  · simp [h]
  · have h0 : y % 2 = 0 := by omega
    simp [h0]
/-- the first j of k bits of v -/
def binP (v : Int) (k j : Nat) : List UInt8 := (List.range j).map fun i => ltr (decide (v / 2 ^ (k - 1 - i) % 2 = 1))
theorem binP_succ (v : Int) (k j : Nat) : binP v k (j + 1) = binP v k j ++ [ltr (decide (v / 2 ^ (k - 1 - j) % 2 = 1))] := by
  simp [binP, List.range_succ]
theorem binP_len (v : Int) (k j : Nat) : (binP v k j).length = j := by simp [binP]
set_option maxHeartbeats 1000000 in
theorem wNumber_any (B b : Nat) (T : List UInt8) (v : Int) (k : Nat) (w : World) (h : Wr w B b T) (hk : k ≤ 16) (hlen : T.length ≤ 100000000000) (hBw : B ≤ w.heap.size) :
    Calls Tryz.prog 257 #[.pointer (some ⟨b, 0, none⟩), .int .i64 v, .int .i64 k] w fun e w' => e = .returned (.tuple #[]) ∧ Wr w' B b (T ++ binT v k) ∧ KeptW B b w w' := by
  have HH := Hid.mk' h
  clear h
  have v1 : IntKind.i64.wrap ((k : Int) - 1) = (k : Int) - 1 := by rw [IntKind.wrap_i64]; omega
  go_enter Tryz.func257, Tryz.ntmps257
  go_wp2
  go_loopw [6] (fun iv wr => ∃ j : Nat, j ≤ k ∧ iv = .int .i64 ((k : Int) - 1 - j) ∧ Hid (Wr wr B b (T ++ binP v k j) ∧ KeptW B b w wr)) (fun iv _ => (intOf iv + 1).toNat)
  case atStart => exact ⟨0, by omega, by simp, by simpa [binP] using HH.out, KeptW.refl _ _ _⟩
  case round =>
    obtain ⟨j, hj, rfl, HI⟩ := hrel
    by_cases hlt : j < k
    · have HW := Hid.mk' (wWrite_any B b (T ++ binP v k j) (ltr (decide (v / 2 ^ (k - 1 - j) % 2 = 1))) wr.drew HI.out.1.drew (by rw [List.length_append, binP_len]; omega) (Nat.le_trans hBw HI.out.2.1.size))
      have hb := bit_byte v (k - 1 - j)
      have t1 : ((k : Int) - 1 - (j : Int)).toNat = k - 1 - j := by omega
      have t2 : decide (0 ≤ (k : Int) - 1 - (j : Int)) = true := decide_eq_true (by omega)
      have v2 : IntKind.i64.wrap ((k : Int) - 1 - (j : Int) - 1) = (k : Int) - 1 - (j : Int) - 1 := by rw [IntKind.wrap_i64]; omega
      have HJ := Hid.mk' (binP_succ v k j)
      go_wp2
      go_region_with (go_at_call 287; refine (HW.out).mono ?_; rintro e w1 ⟨rfl, h1, h2⟩; have H1 := Hid.mk' h1; have H2 := Hid.mk' h2; clear h1 h2 HW)
      go_wp2
      go_roundw
      case rel => exact ⟨j + 1, by omega, by congr 1; omega, by rw [HJ.out, ← List.append_assoc]; exact H1.out, HI.out.2.drew.trans H2.out⟩
      case measure => simp [intOf]; omega
    · have e : j = k := by omega
      subst e
      have t2 : decide (0 ≤ (j : Int) - 1 - (j : Int)) = false := decide_eq_false (by omega)
      go_wp2
      go_end0
      exact ⟨rfl, HI.out.1, HI.out.2⟩
end Go.Proofs.YtlncjgnomhpjnabGreatDoor

