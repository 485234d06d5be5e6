import Derived.Test.YtlncjgnomhpjnabGreatDoorRows
import Derived.Test.YtlncjgnomhpjnabGreatDoorPO1
import Derived.JoinedCond
/-
  What the kernel reckons of the program for Sought's card, a piece at a time.
-/
namespace Go.Proofs.YtlncjgnomhpjnabGreatDoor.sought
open Go.RowKit
set_option maxRecDepth 100000
theorem j0 : laidOutB Tryz.prog = true := by kernel_rfl
theorem j1 : mapsRowed Tryz.prog = true := by kernel_rfl
theorem j2 : (Rows.soughtRow.inPlace == Tryz.prog.inPlace 3) = true := by kernel_rfl
theorem j3 : (Rows.soughtRow.unfollowed == Tryz.prog.unfollowed 3) = true := by kernel_rfl
theorem j4 : (Rows.soughtRow.recurses == Tryz.prog.recurses 3) = true := by kernel_rfl
theorem j5 : (Rows.soughtRow.named == Tryz.prog.varsNamed 3) = true := by kernel_rfl
theorem j6 : Tryz.pinned.checked.prog.funcNamed "reel/reelkeep.Sought" = some 3 := by kernel_rfl
theorem closed : joinedFacts Tryz.prog 3 Tryz.f3 (OpenSpec.ofChange Rows.soughtSpec).bare Rows.soughtRow = true := by
  unfold joinedFacts
  rw [j0, j1, j2, j3, j4, j5]
  kernel_rfl
end Go.Proofs.YtlncjgnomhpjnabGreatDoor.sought
