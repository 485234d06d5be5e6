import Derived.Test.YtlncjgnomhpjnabGreatDoorQC9
import Derived.Test.YtlncjgnomhpjnabGreatDoorQC0
set_option maxHeartbeats 8000000
namespace Go.Proofs.YtlncjgnomhpjnabGreatDoor
open Go.RowKit Go.Deep
set_option linter.unusedVariables false
theorem y3D (T:List UInt8):(bs T).toList=T:=ByteArray.toList_mk T
theorem z3U (g a k:Nat):(⟨g,a,none⟩:Addr).add k=⟨g,a+k,none⟩:=by cases k <;> simp [Addr.add]
end Go.Proofs.YtlncjgnomhpjnabGreatDoor
