import Derived.Test.YtlncjgnomhpjnabGreatDoorQS26
import Derived.Test.YtlncjgnomhpjnabGreatDoorQS20
import Derived.Test.YtlncjgnomhpjnabGreatDoorQS25
import Derived.Test.YtlncjgnomhpjnabGreatDoorQS13
import Derived.Test.YtlncjgnomhpjnabGreatDoorQS14
import Derived.Test.YtlncjgnomhpjnabGreatDoorQS24
import Derived.Test.YtlncjgnomhpjnabGreatDoorQS3
import Derived.Deep.RegionHeld3
import Derived.Deep.DeepCutAuto
import Derived.BigQuiet
import Derived.Deep.QuietTactic
/-
  The program reads a head's fields: head.readFields.
-/
namespace Go.Proofs.YtlncjgnomhpjnabGreatDoor
open Go.RowKit Go.Deep
set_option linter.unusedVariables false
theorem infoHd11 : (Tryz.prog.info? 110).map (·.size) = some 11 := by kernel_rfl
end Go.Proofs.YtlncjgnomhpjnabGreatDoor

