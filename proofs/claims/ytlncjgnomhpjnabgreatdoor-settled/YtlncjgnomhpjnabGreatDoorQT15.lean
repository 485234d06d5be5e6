import Derived.Test.YtlncjgnomhpjnabGreatDoorRows
import Derived.Test.YtlncjgnomhpjnabGreatDoorQT1
import Derived.JoinedCond
/-
  What the kernel reckons of the program for Settled's card, a piece at a time.
-/
namespace Go.Proofs.YtlncjgnomhpjnabGreatDoor.settled
open Go.RowKit
set_option maxRecDepth 100000
theorem j0 : laidOutB Tryz.prog = true := by kernel_rfl
theorem j1 : mapsRowed Tryz.prog = true := by kernel_rfl
theorem j2 : (Rows.settledRow.inPlace == Tryz.prog.inPlace 5) = true := by kernel_rfl
theorem j3 : (Rows.settledRow.unfollowed == Tryz.prog.unfollowed 5) = true := by kernel_rfl
theorem j4 : (Rows.settledRow.recurses == Tryz.prog.recurses 5) = true := by kernel_rfl
theorem j5 : (Rows.settledRow.named == Tryz.prog.varsNamed 5) = true := by kernel_rfl
theorem j6 : Tryz.pinned.checked.prog.funcNamed "reel/reelkeep.Settled" = some 5 := by kernel_rfl
theorem closed : joinedFacts Tryz.prog 5 Tryz.f5 (OpenSpec.ofChange Rows.settledSpec).bare Rows.settledRow = true := by
  unfold joinedFacts
  rw [j0, j1, j2, j3, j4, j5]
  kernel_rfl
end Go.Proofs.YtlncjgnomhpjnabGreatDoor.settled

