import Derived.Test.YtlncjgnomhpjnabGreatDoorQC6
import Derived.Test.YtlncjgnomhpjnabGreatDoorQC0
set_option maxHeartbeats 8000000
namespace Go.Proofs.YtlncjgnomhpjnabGreatDoor
open Go.RowKit Go.Deep
set_option linter.unusedVariables false
def bs (T:List UInt8):ByteArray:=⟨T.toArray⟩
theorem z0N (a b:List UInt8):bs a ++ bs b=bs (a ++ b):=by
 apply ByteArray.ext;simp [bs]
theorem z0e (a:List UInt8):(bs a).size=a.length:=by simp [bs,ByteArray.size]
end Go.Proofs.YtlncjgnomhpjnabGreatDoor
