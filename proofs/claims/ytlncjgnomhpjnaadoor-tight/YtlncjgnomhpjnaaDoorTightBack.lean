/-
  Plain mathematics for 'Tight': what was laid down is read back.
-/
import Derived.Test.YtlncjgnomhpjnaaDoorTightMath
namespace Go.Proofs.YtlncjgnomhpjnaaDoor
set_option linter.unusedVariables false

theorem num_bin {b : Nat → Bool} {p : Nat} {v : Int} {k : Nat} (h : SaysT b p (binT v k)) : (num b p k : Int) = v % 2 ^ k := bitsNum_bin v k _ (fun i hi => bin_says h i hi)
theorem num_binN {b : Nat → Bool} {p v k : Nat} (h : SaysT b p (binT v k)) (hv : v < 2 ^ k) : num b p k = v := by
  have e := num_bin h
  have e2 : ((2 ^ k : Nat) : Int) = (2 : Int) ^ k := by simp
  rw [Int.emod_eq_of_lt (by omega) (by rw [← e2]; omega)] at e
  omega
theorem sgn_bin {b : Nat → Bool} {p : Nat} {v : Int} {k : Nat} (h : SaysT b p (binT v k)) (hk : 1 ≤ k) (hf : fitsB k v = true) : sgn b p k = v := by
  have e := num_bin h
  unfold fitsB at hf
  rw [within_iff] at hf
  obtain ⟨m, rfl⟩ : ∃ m, k = m + 1 := ⟨k - 1, by omega⟩
  have e2 : ((2 ^ m : Nat) : Int) = (2 : Int) ^ m := by simp
  have hp : 0 < 2 ^ m := Nat.two_pow_pos m
  have e3 : (2 : Int) ^ (m + 1) = 2 * 2 ^ m := by rw [Int.pow_succ, Int.mul_comm]
  unfold sgn
  simp only [Nat.add_sub_cancel] at hf ⊢
  rw [e3] at e ⊢
  rw [← e2] at e hf ⊢
  generalize 2 ^ m = q at *
  by_cases h0 : 0 ≤ v
  · rw [Int.emod_eq_of_lt h0 (by omega)] at e
    rw [if_neg (by omega)]; exact e
  · have e4 : v % (2 * (q : Int)) = v + 2 * q := by
      rw [← Int.add_mul_emod_self_left v (2 * (q : Int)) 1, Int.mul_one]
      exact Int.emod_eq_of_lt (by omega) (by omega)
    rw [e4] at e
    rw [if_pos (by omega)]; omega
theorem unf_fold (v : Int) : unf (foldN v) = v := by
  have h := foldN_int v
  unfold unf
  split at h
  · rw [if_pos (by omega)]; omega
  · rw [if_neg (by omega)]; omega
theorem rice_back {b : Nat → Bool} {N p f k : Nat} (h : SaysT b p (riceT f k)) (hN : p + riceL f k ≤ N) : rice b N k p = some (unf f, p + riceL f k) := by
  unfold riceT at h
  have h1 := h.left.left
  have h2 := h.left.right
  have h3 := h.right
  rw [List.length_replicate] at h2
  rw [List.length_append, List.length_replicate] at h3
  unfold riceL at hN
  have hz : zrun b (N - p) p = f / 2 ^ k := by
    refine zrun_eq b (N - p) p _ (by omega) (fun i hi => ?_) (fun _ => ?_)
    · have := h1 i (by rw [List.length_replicate]; exact hi)
      rw [List.getElem_replicate] at this
      exact (ltr_inj (show ltr false = _ from this)).symm
    · have := h2 0 (by simp)
      rw [Nat.add_zero] at this
      exact (ltr_inj (show ltr true = _ from this)).symm
  have hn : num b (p + f / 2 ^ k + 1) k = f % 2 ^ k := by
    have e := num_bin (b := b) (p := p + f / 2 ^ k + 1) (v := (f : Int)) (k := k) (by rw [Nat.add_assoc]; exact h3)
    have e2 : ((2 ^ k : Nat) : Int) = (2 : Int) ^ k := by simp
    rw [← e2] at e
    omega
  unfold rice
  rw [hz, if_pos (by omega), hn]
  congr 2
  · congr 1
    have := Nat.div_add_mod f (2 ^ k)
    rw [Nat.mul_comm] at this
    exact this
  · unfold riceL; omega
end Go.Proofs.YtlncjgnomhpjnaaDoor
