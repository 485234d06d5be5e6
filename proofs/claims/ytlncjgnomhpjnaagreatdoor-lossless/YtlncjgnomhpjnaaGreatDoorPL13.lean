import Derived.Test.YtlncjgnomhpjnaaGreatDoorPL11
/-
  The document's packer: texts of bits.
-/
namespace Go.Proofs.YtlncjgnomhpjnaaGreatDoor
open Go.RowKit Go.Deep
set_option linter.unusedVariables false
/-- a text as a string -/
def bs (T : List UInt8) : ByteArray := ⟨T.toArray⟩
theorem bs_append (a b : List UInt8) : bs a ++ bs b = bs (a ++ b) := by
  apply ByteArray.ext
  simp [bs]
theorem bs_size (a : List UInt8) : (bs a).size = a.length := by simp [bs, ByteArray.size]
end Go.Proofs.YtlncjgnomhpjnaaGreatDoor

/-
  The document's packer: the cuts.
-/
namespace Go.Proofs.YtlncjgnomhpjnaaGreatDoor
open Go.RowKit Go.Deep
set_option linter.unusedVariables false
theorem bs_toList (T : List UInt8) : (bs T).toList = T := ByteArray.toList_mk T
theorem addr_add (g a k : Nat) : (⟨g, a, none⟩ : Addr).add k = ⟨g, a + k, none⟩ := by cases k <;> simp [Addr.add]
end Go.Proofs.YtlncjgnomhpjnaaGreatDoor
