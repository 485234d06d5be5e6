import Derived.Test.YtlncjgnomhpjnabGreatDoorRows
import Derived.Test.YtlncjgnomhpjnabGreatDoorQC1
import Derived.JoinedCond
import Derived.Test.YtlncjgnomhpjnabGreatDoorQC0
set_option maxHeartbeats 8000000
namespace Go.Proofs.YtlncjgnomhpjnabGreatDoor.broken
open Go.RowKit
set_option maxRecDepth 100000
theorem j0:laidOutB Tryz.prog=true:=by kernel_rfl
theorem j1:mapsRowed Tryz.prog=true:=by kernel_rfl
theorem j2:(Rows.brokenRow.inPlace == Tryz.prog.inPlace 6)=true:=by kernel_rfl
theorem j3:(Rows.brokenRow.unfollowed == Tryz.prog.unfollowed 6)=true:=by kernel_rfl
theorem j4:(Rows.brokenRow.recurses == Tryz.prog.recurses 6)=true:=by kernel_rfl
theorem j5:(Rows.brokenRow.named == Tryz.prog.varsNamed 6)=true:=by kernel_rfl
theorem j6:Tryz.pinned.checked.prog.funcNamed "reel/reelkeep.Broken" = some 6:=by kernel_rfl
theorem closed:joinedFacts Tryz.prog 6 Tryz.f6 (OpenSpec.ofChange Rows.brokenSpec).bare Rows.brokenRow=true:=by
 unfold joinedFacts;rw [j0,j1,j2,j3,j4,j5]
 kernel_rfl
end Go.Proofs.YtlncjgnomhpjnabGreatDoor.broken
