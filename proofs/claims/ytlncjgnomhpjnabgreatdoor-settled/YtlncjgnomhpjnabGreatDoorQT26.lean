import Derived.Test.YtlncjgnomhpjnabGreatDoorQT25
import Derived.Test.YtlncjgnomhpjnabGreatDoorQT19
import Derived.Test.YtlncjgnomhpjnabGreatDoorQT24
import Derived.Test.YtlncjgnomhpjnabGreatDoorQT13
import Derived.Test.YtlncjgnomhpjnabGreatDoorQT14
import Derived.Test.YtlncjgnomhpjnabGreatDoorQT23
import Derived.Test.YtlncjgnomhpjnabGreatDoorQT4
import Derived.Deep.RegionHeld3
import Derived.Deep.DeepCutAuto
import Derived.BigQuiet
import Derived.Deep.QuietTactic
/-
  The program reads a head's fields: head.readFields.
-/
namespace Go.Proofs.YtlncjgnomhpjnabGreatDoor
open Go.RowKit Go.Deep
set_option linter.unusedVariables false
theorem infoHd11 : (Tryz.prog.info? 110).map (·.size) = some 11 := by kernel_rfl
end Go.Proofs.YtlncjgnomhpjnabGreatDoor

