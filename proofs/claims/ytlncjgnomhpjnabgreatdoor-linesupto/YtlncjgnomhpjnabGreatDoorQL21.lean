import Derived.Test.YtlncjgnomhpjnabGreatDoorQL20
namespace Go.Proofs.YtlncjgnomhpjnabGreatDoor
open Go.Proofs.Tryz
open Go.RowKit Go.Deep
set_option linter.unusedVariables false
theorem y6x:(prog.info? 110).map (·.size)=some 11:=zT
end Go.Proofs.YtlncjgnomhpjnabGreatDoor
