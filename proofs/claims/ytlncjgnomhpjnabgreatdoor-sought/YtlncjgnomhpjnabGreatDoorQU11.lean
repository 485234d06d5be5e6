import Derived.Test.YtlncjgnomhpjnabGreatDoorQU8
/-
  The document's packer: texts of bits.
-/
namespace Go.Proofs.YtlncjgnomhpjnabGreatDoor
open Go.RowKit Go.Deep
set_option linter.unusedVariables false
/-- a text as a string -/
def bs (T : List UInt8) : ByteArray := ⟨T.toArray⟩
theorem bs_append (a b : List UInt8) : bs a ++ bs b = bs (a ++ b) := by
  apply ByteArray.ext
  simp [bs]
theorem bs_size (a : List UInt8) : (bs a).size = a.length := by simp [bs, ByteArray.size]
end Go.Proofs.YtlncjgnomhpjnabGreatDoor

