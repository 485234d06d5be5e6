import Derived.Test.YtlncjgnomhpjnaaGreatDoorPR23
/-
  The document's head: reelref.headFor.
-/
namespace Go.Proofs.YtlncjgnomhpjnaaGreatDoor
open Go.RowKit Go.Deep
set_option linter.unusedVariables false
/-- a head's cells -/
def rhC (c0 c1 c2 c3 c4 s : Int) (f : Int) (least most sum : Int) (pv : Value) : Array Value :=
  #[.int .i64 f, .int .i64 c0, .int .i64 c1, .int .i64 c2, .int .i64 c3, .int .i64 c4, .int .i64 s, .int .i64 least, .int .i64 most, .int .i64 sum, pv]
theorem Bx.rh10 {w : World} {b : Nat} {t : TypeId} {c0 c1 c2 c3 c4 s : Int} {f : Int} {least most sum : Int} {pv : Value} (h : Bx w b t (rhC c0 c1 c2 c3 c4 s f least most sum pv)) (x : Value) : Bx (w.setCell ⟨b, 10, none⟩ x) b t (rhC c0 c1 c2 c3 c4 s f least most sum x) := by
  simp [Bx, World.setCell, Array.getElem?_modify, show w.heap[b]? = _ from h, rhC]
theorem Bx.rcells {w : World} {b : Nat} {t : TypeId} {c0 c1 c2 c3 c4 s : Int} {f : Int} {least most sum : Int} {pv : Value} (h : Bx w b t (rhC c0 c1 c2 c3 c4 s f least most sum pv)) :
    w.cell? ⟨b, 7, none⟩ = some (.int .i64 least) ∧ w.cell? ⟨b, 8, none⟩ = some (.int .i64 most) ∧ w.cell? ⟨b, 10, none⟩ = some pv ∧ w.frozen? ⟨b, 7, none⟩ = false ∧ w.frozen? ⟨b, 8, none⟩ = false ∧ w.frozen? ⟨b, 10, none⟩ = false := by
  simp [World.cell?, World.frozen?, show w.heap[b]? = _ from h, rhC]
end Go.Proofs.YtlncjgnomhpjnaaGreatDoor

