import Derived.Test.YtlncjgnomhpjnabGreatDoorQL12
namespace Go.Proofs.YtlncjgnomhpjnabGreatDoor
open Go.Proofs.Tryz
open Go.RowKit Go.Deep
set_option linter.unusedVariables false
theorem z8q:(prog.info? 23).map (·.size)=some 8:=zT
end Go.Proofs.YtlncjgnomhpjnabGreatDoor
