import Derived.Test.YtlncjgnomhpjnabGreatDoorQT10
/-
  The document's packer: the cuts.
-/
namespace Go.Proofs.YtlncjgnomhpjnabGreatDoor
open Go.RowKit Go.Deep
set_option linter.unusedVariables false
theorem addr_add (g a k : Nat) : (⟨g, a, none⟩ : Addr).add k = ⟨g, a + k, none⟩ := by cases k <;> simp [Addr.add]
end Go.Proofs.YtlncjgnomhpjnabGreatDoor

