/-
  'Tight', walked.
-/
import Derived.Test.YtlncjgnomhpjnaaDoorTightText
import Derived.Test.YtlncjgnomhpjnaaDoorRefSub2
import Derived.Test.YtlncjgnomhpjnaaDoorLawCodes
import Derived.Laws.AppendOwn
namespace Go.Proofs.YtlncjgnomhpjnaaDoor
open Go.RowKit Go.Deep
set_option linter.unusedVariables false

/-- the subframe is read, whatever stands behind -/
theorem readYes (width n : Nat) (l : Nat → Int) (U : List UInt8) (w : World) (hn1 : 1 ≤ n) (hn : n ≤ 32) (hw1 : 1 ≤ width) (hw : width ≤ 13) (hfit : ∀ j, j < n → fitsB width (l j) = true) (hU : AllB U) (hUl : U.length ≤ 64) (hT : TabAt w 2) (hTl : 2 < w.heap.size) :
    Calls Tryd.prog 9 #[.int .i64 width, .int .i64 n, .string (bs (subT width l n ++ U))] w fun e w' => ∃ g, e = .returned (.tuple #[.slice (some ⟨g, 0, none⟩) n n, .int .i64 (subT width l n).length, .int .i64 0]) ∧ IntsAt w' (some ⟨g, 0, none⟩) n l ∧ Below w.heap.size w w' := by
  have hle := subT_le width l n hn1
  have hm : n * width ≤ 32 * 13 := Nat.mul_le_mul hn hw
  have hsz : (bs (subT width l n ++ U)).size ≤ 80000 := by rw [bs_size, List.length_append]; omega
  obtain ⟨r, h1, h2, h3⟩ := tight_yes (N := 0) hn1 hw1 hw hfit hU
  have hbits : IsBitsP (bs (subT width l n ++ U)) := bs_bits ((subT_bits _ _ _).append hU)
  have hwi : (within (width : Int) 1 13 && within (n : Int) 1 32) = true := by rw [Bool.and_eq_true, within_iff, within_iff]; omega
  refine (read_any (width : Int) (n : Int) _ w (by omega) hT hTl).mono ?_
  rintro e w' ⟨h, hb⟩
  rcases h with ⟨h, -⟩ | ⟨-, h, -⟩ | ⟨-, -, h, -⟩ | ⟨-, -, -, h, -⟩ | ⟨-, -, -, xp, g, h, he, hg, hr⟩
  · exact absurd hwi h
  · omega
  · exact absurd hbits h
  · rw [Int.toNat_natCast, Int.toNat_natCast, h1] at h; cases h
  · rw [Int.toNat_natCast, Int.toNat_natCast, h1] at h
    obtain rfl := Option.some.inj h
    rw [Int.toNat_natCast] at he hr
    rw [h2] at he
    refine ⟨g, he, fun i hi => ⟨_, rfl, ?_⟩, hb⟩
    have := hr.cell (i := i) hi
    unfold cutV cutI at this
    rw [if_pos hi, h3 i hi] at this
    rw [addr_add, Nat.zero_add]; exact this
/-- and not without its last bit -/
theorem readNo (width n : Nat) (l : Nat → Int) (w : World) (hn1 : 1 ≤ n) (hn : n ≤ 32) (hw1 : 1 ≤ width) (hw : width ≤ 13) (hfit : ∀ j, j < n → fitsB width (l j) = true) (hT : TabAt w 2) (hTl : 2 < w.heap.size) :
    Calls Tryd.prog 9 #[.int .i64 width, .int .i64 n, .string (bs ((subT width l n).take ((subT width l n).length - 1)))] w fun e w' => e = .returned (.tuple #[.slice none 0 0, .int .i64 0, .int .i64 5]) ∧ Below w.heap.size w w' := by
  have hle := subT_le width l n hn1
  have hm : n * width ≤ 32 * 13 := Nat.mul_le_mul hn hw
  have hsz : (bs ((subT width l n).take ((subT width l n).length - 1))).size ≤ 80000 := by rw [bs_size, List.length_take]; omega
  have h1 := tight_no hn1 hw1 hw hfit
  have hbits : IsBitsP (bs ((subT width l n).take ((subT width l n).length - 1))) := bs_bits (fun c hc => subT_bits _ _ _ c (List.mem_of_mem_take hc))
  have hwi : (within (width : Int) 1 13 && within (n : Int) 1 32) = true := by rw [Bool.and_eq_true, within_iff, within_iff]; omega
  refine (read_any (width : Int) (n : Int) _ w (by omega) hT hTl).mono ?_
  rintro e w' ⟨h, hb⟩
  rcases h with ⟨h, -⟩ | ⟨-, h, -⟩ | ⟨-, -, h, -⟩ | ⟨-, -, -, h, he⟩ | ⟨-, -, -, xp, g, h, he, hg, hr⟩
  · exact absurd hwi h
  · omega
  · exact absurd hbits h
  · exact ⟨he, hb⟩
  · rw [Int.toNat_natCast, Int.toNat_natCast, h1] at h; cases h

/-- a number made a sample -/
def sampV (W : Nat) (v : Int) : Int := if fitsB W v then v else (pickV v (2 * 2 ^ (W - 1)) : Int) - 2 ^ (W - 1)
theorem sampV_fits (W : Nat) (v : Int) (hW : 1 ≤ W) : fitsB W (sampV W v) = true := by
  unfold sampV
  split
  · rename_i h; exact h
  · have hp := Nat.two_pow_pos (W - 1)
    have h := pickV_lt v (2 * 2 ^ (W - 1)) (by omega)
    have e : ((2 ^ (W - 1) : Nat) : Int) = (2 : Int) ^ (W - 1) := by simp
    unfold fitsB
    rw [within_iff, ← e]
    omega
end Go.Proofs.YtlncjgnomhpjnaaDoor
