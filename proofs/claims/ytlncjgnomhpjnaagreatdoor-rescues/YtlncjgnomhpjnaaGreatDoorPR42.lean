import Derived.Test.YtlncjgnomhpjnaaGreatDoorPR40
import Derived.Test.YtlncjgnomhpjnaaGreatDoorPR41
/-
  The program decodes: stream.Decode, where it gives no sound.
-/
namespace Go.Proofs.YtlncjgnomhpjnaaGreatDoor
open Go.RowKit Go.Deep
set_option linter.unusedVariables false
theorem HdOut.yes {e : Ending} {w w' : World} {T : List UInt8} (h : HdOut e w w' T) (hp : HdP T) {b : Bool} (hb : decide (dWh T = 1) = b) : ∃ a c, e = .returned (.tuple #[.agg #[.int .i64 (dCh T), .int .i64 (dDe T), .int .i64 (dBl T), .int .i64 (dRa T), .int .i64 (dSe T), .int .i64 (dSa T), .bool b, .int .i64 (dLe T), .int .i64 (dMo T), .int .i64 (dSu T), .slice a (dNp T) c], .int .i64 (dSz T), .bool true]) ∧ w'.ownsRow w.heap.size 3 1 (.slice a (dNp T) c) (dPts T).length (pntV (dPts T)) ∧ Below w.heap.size w w' := by
  subst hb
  rcases h with ⟨⟨-, pv, rfl, ho⟩ | ⟨hno, -⟩, hb⟩
  · obtain ⟨a, c, rfl⟩ := own_form ho
    exact ⟨a, c, rfl, by rw [dPts_length]; exact ho, hb⟩
  · exact absurd hp hno
theorem HdOut.nothing {e : Ending} {w w' : World} {T : List UInt8} (h : HdOut e w w' T) (hp : ¬ HdP T) : e = .returned (.tuple #[.agg #[.int .i64 0, .int .i64 0, .int .i64 0, .int .i64 0, .int .i64 0, .int .i64 0, .bool false, .int .i64 0, .int .i64 0, .int .i64 0, .slice none 0 0], .int .i64 0, .bool false]) ∧ Below w.heap.size w w' := by
  rcases h with ⟨⟨hy, -⟩ | ⟨-, he⟩, hb⟩
  · exact absurd hy hp
  · exact ⟨he, hb⟩
theorem infoInf6 : (Tryz.prog.info? 46).map (·.size) = some 6 := by kernel_rfl
theorem below_row {w u : World} {g : Nat} (h : Below w.heap.size w u) (hg : w.heap.size ≤ g) (cs : Array Value) : Below w.heap.size w (u.setRow g cs) := below_setRow h hg cs
end Go.Proofs.YtlncjgnomhpjnaaGreatDoor

