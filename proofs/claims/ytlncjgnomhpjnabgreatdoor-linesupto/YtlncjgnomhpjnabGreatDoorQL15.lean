import Derived.Test.YtlncjgnomhpjnabGreatDoorQL1
import Derived.JoinedCond
namespace Go.Proofs.YtlncjgnomhpjnabGreatDoor.lines
open Go.RowKit
set_option maxRecDepth 100000
theorem j0:laidOutB Tryz.prog=true:=by kernel_rfl
theorem j1:mapsRowed Tryz.prog=true:=by kernel_rfl
theorem j2:(Rows.linesUptoRow.inPlace == Tryz.prog.inPlace 4)=true:=by kernel_rfl
theorem j3:(Rows.linesUptoRow.unfollowed == Tryz.prog.unfollowed 4)=true:=by kernel_rfl
theorem j4:(Rows.linesUptoRow.recurses == Tryz.prog.recurses 4)=true:=by kernel_rfl
theorem j5:(Rows.linesUptoRow.named == Tryz.prog.varsNamed 4)=true:=by kernel_rfl
theorem j6:Tryz.pinned.checked.prog.funcNamed "reel/reellaw.Lines" = some 4:=by kernel_rfl
theorem closed:joinedFacts Tryz.prog 4 Tryz.f4 (Rows.OpenSpec.upto Rows.linesSpec).bare Rows.linesUptoRow=true:=by
 unfold joinedFacts;rw [j0,j1,j2,j3,j4,j5]
 kernel_rfl
end Go.Proofs.YtlncjgnomhpjnabGreatDoor.lines
