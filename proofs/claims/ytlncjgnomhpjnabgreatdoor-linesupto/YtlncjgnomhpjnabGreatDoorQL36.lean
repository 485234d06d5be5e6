import Derived.Test.YtlncjgnomhpjnabGreatDoorQL32
set_option maxRecDepth 100000
namespace Go.Proofs.YtlncjgnomhpjnabGreatDoor
open Go.RowKit Go.Deep
set_option linter.unusedVariables false
def hI (H:Nat->Option Nat) (i:Nat):Int:=match H i with
 | none=>-1
 | some k=>k
end Go.Proofs.YtlncjgnomhpjnabGreatDoor
