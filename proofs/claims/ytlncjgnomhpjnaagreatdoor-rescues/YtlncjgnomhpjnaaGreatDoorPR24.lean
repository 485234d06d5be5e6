import Derived.Test.YtlncjgnomhpjnaaGreatDoorPR23
import Derived.Test.YtlncjgnomhpjnaaGreatDoorPR9
import Derived.Test.YtlncjgnomhpjnaaGreatDoorPR10
import Derived.Test.YtlncjgnomhpjnaaGreatDoorPR8
import Derived.Deep.RegionHeld3
import Derived.Deep.DeepCutAuto
/-
  The configuration in its variable, kept through calls.
-/
namespace Go.Proofs.YtlncjgnomhpjnaaGreatDoor
open Go.RowKit Go.Deep
set_option linter.unusedVariables false
theorem set6_grown (u : World) (g : Nat) (s0 s1 s2 s3 s4 s5 : Value) : u.grownBy ((((((u.setCell ⟨g, 0, none⟩ s0).setCell ⟨g, 1, none⟩ s1).setCell ⟨g, 2, none⟩ s2).setCell ⟨g, 3, none⟩ s3).setCell ⟨g, 4, none⟩ s4).setCell ⟨g, 5, none⟩ s5) (some g) :=
  grown_tr (grown_tr (grown_tr (grown_tr (grown_tr (grown_set u ⟨g, 0, none⟩ s0) (grown_set _ ⟨g, 1, none⟩ s1)) (grown_set _ ⟨g, 2, none⟩ s2)) (grown_set _ ⟨g, 3, none⟩ s3)) (grown_set _ ⟨g, 4, none⟩ s4)) (grown_set _ ⟨g, 5, none⟩ s5)
theorem set6_below {B g : Nat} {w u : World} {s0 s1 s2 s3 s4 s5 : Value} (h : Below B w u) (hg : B ≤ g) : Below B w ((((((u.setCell ⟨g, 0, none⟩ s0).setCell ⟨g, 1, none⟩ s1).setCell ⟨g, 2, none⟩ s2).setCell ⟨g, 3, none⟩ s3).setCell ⟨g, 4, none⟩ s4).setCell ⟨g, 5, none⟩ s5) :=
  (((((h.setCell (p := ⟨g, 0, none⟩) hg _).setCell (p := ⟨g, 1, none⟩) hg _).setCell (p := ⟨g, 2, none⟩) hg _).setCell (p := ⟨g, 3, none⟩) hg _).setCell (p := ⟨g, 4, none⟩) hg _).setCell (p := ⟨g, 5, none⟩) hg _
theorem Bx.set6 {u : World} {g : Nat} {t : TypeId} {o0 o1 o2 o3 o4 o5 : Value} (h : Bx u g t #[o0, o1, o2, o3, o4, o5]) (s0 s1 s2 s3 s4 s5 : Value) : Bx ((((((u.setCell ⟨g, 0, none⟩ s0).setCell ⟨g, 1, none⟩ s1).setCell ⟨g, 2, none⟩ s2).setCell ⟨g, 3, none⟩ s3).setCell ⟨g, 4, none⟩ s4).setCell ⟨g, 5, none⟩ s5) g t #[s0, s1, s2, s3, s4, s5] := by
  simp [Bx, World.setCell, Array.getElem?_modify, show u.heap[g]? = _ from h]
theorem six_of_blk {u : World} {b : Nat} {o0 o1 o2 o3 o4 o5 : Value} {T : TypeId} (h : Bx u b T #[o0, o1, o2, o3, o4, o5]) :
    u.cell? ⟨b, 0, none⟩ = some o0 ∧ u.cell? ⟨b, 1, none⟩ = some o1 ∧ u.cell? ⟨b, 2, none⟩ = some o2 ∧ u.cell? ⟨b, 3, none⟩ = some o3 ∧ u.cell? ⟨b, 4, none⟩ = some o4 ∧ u.cell? ⟨b, 5, none⟩ = some o5 ∧ u.frozen? ⟨b, 0, none⟩ = false ∧ u.frozen? ⟨b, 1, none⟩ = false ∧ u.frozen? ⟨b, 2, none⟩ = false ∧ u.frozen? ⟨b, 3, none⟩ = false ∧ u.frozen? ⟨b, 4, none⟩ = false ∧ u.frozen? ⟨b, 5, none⟩ = false :=
  ⟨Lib.cell_of_heap h 0, Lib.cell_of_heap h 1, Lib.cell_of_heap h 2, Lib.cell_of_heap h 3, Lib.cell_of_heap h 4, Lib.cell_of_heap h 5, Lib.frozen_of_heap h 0, Lib.frozen_of_heap h 1, Lib.frozen_of_heap h 2, Lib.frozen_of_heap h 3, Lib.frozen_of_heap h 4, Lib.frozen_of_heap h 5⟩
end Go.Proofs.YtlncjgnomhpjnaaGreatDoor

/-
  Blocks of a sound: sound.Blocks, sound.BlockSamples, sound.Block.
-/
namespace Go.Proofs.YtlncjgnomhpjnaaGreatDoor
open Go.RowKit Go.Deep
set_option linter.unusedVariables false
theorem blocks_any (S B : Nat) (w : World) (hB : 1 ≤ B) (hB2 : B ≤ 100000) (hS : S ≤ 100000) :
    Calls Tryz.prog 83 #[.int .i64 S, .int .i64 B] w fun e w' => e = .returned (.int .i64 (nBlk S B : Nat)) ∧ w' = w := by
  have hle := nBlk_le (S := S) hB
  have w1 : IntKind.i64.wrap ((S : Int) + (B : Int)) = (S : Int) + (B : Int) := by rw [IntKind.wrap_i64]; omega
  have w2 : IntKind.i64.wrap ((S : Int) + (B : Int) - 1) = (S : Int) + (B : Int) - 1 := by rw [IntKind.wrap_i64]; omega
  have d0 : ((S : Int) + (B : Int) - 1) / (B : Int) = ((nBlk S B : Nat) : Int) := by
    rw [show (S : Int) + (B : Int) - 1 = ((S + B - 1 : Nat) : Int) by omega]; rfl
  have d1 : ((S : Int) + (B : Int) - 1).tdiv (B : Int) = ((nBlk S B : Nat) : Int) := by
    rw [Int.tdiv_eq_ediv_of_nonneg (by omega)]; exact d0
  have w3 : IntKind.i64.wrap ((nBlk S B : Nat) : Int) = ((nBlk S B : Nat) : Int) := by rw [IntKind.wrap_i64]; omega
  have hz : ((B : Int) == 0) = false := by simp; omega
  have hz2 : ¬ (B : Int) = 0 := by omega
  generalize nBlk S B = N at *
  go_enter Tryz.func83, Tryz.ntmps83
  go_wp2
  go_ret
  exact ⟨rfl, rfl⟩
theorem blockSamples_any (S B k : Nat) (w : World) (hk : k * B ≤ S) (hB2 : B ≤ 100000) (hS : S ≤ 100000) :
    Calls Tryz.prog 127 #[.int .i64 S, .int .i64 B, .int .i64 k] w fun e w' => e = .returned (.int .i64 (blkN S B k : Nat)) ∧ w' = w := by
  have e1 : (k : Int) * (B : Int) = ((k * B : Nat) : Int) := by simp
  have w1 : IntKind.i64.wrap ((k : Int) * (B : Int)) = ((k * B : Nat) : Int) := by rw [IntKind.wrap_i64, e1]; omega
  have w2 : IntKind.i64.wrap ((S : Int) - ((k * B : Nat) : Int)) = ((S - k * B : Nat) : Int) := by rw [IntKind.wrap_i64]; omega
  have HM : Hid (((blkN S B k : Nat) : Int) = min (B : Int) ((S - k * B : Nat) : Int)) := by show _ = _; unfold blkN; omega
  rw [HM.out]
  clear e1
  generalize k * B = q at *
  generalize S - q = r at *
  go_enter Tryz.func127, Tryz.ntmps127
  go_wp2
  go_ret
  exact ⟨rfl, rfl⟩
end Go.Proofs.YtlncjgnomhpjnaaGreatDoor

/-
  The document's frames of a sound: reelref.allFrames.
-/
namespace Go.Proofs.YtlncjgnomhpjnaaGreatDoor
open Go.RowKit Go.Deep
set_option linter.unusedVariables false
theorem own_some {w : World} {base : Nat} {t : TypeId} {v : Value} {n : Nat} {xs : List Value} (h : w.ownsRow base t 1 v n xs) (hn : 1 ≤ n) : ∃ g c, v = .slice (some ⟨g, 0, none⟩) n c := by
  rcases h.2 with ⟨-, h0⟩ | ⟨g, c, cur, e, -⟩
  · omega
  · exact ⟨g, c, e⟩
end Go.Proofs.YtlncjgnomhpjnaaGreatDoor

