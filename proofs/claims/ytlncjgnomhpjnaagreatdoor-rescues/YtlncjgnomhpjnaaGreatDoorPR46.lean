import Derived.Test.YtlncjgnomhpjnaaGreatDoorPR23
import Derived.Test.YtlncjgnomhpjnaaGreatDoorPR9
import Derived.Test.YtlncjgnomhpjnaaGreatDoorPR24
import Derived.Deep.RegionHeld3
/-
  The document's head: reelref.headFor.
-/
namespace Go.Proofs.YtlncjgnomhpjnaaGreatDoor
open Go.RowKit Go.Deep
set_option linter.unusedVariables false
/-- a head's cells -/
def rhC (c0 c1 c2 c3 c4 s : Int) (f : Int) (least most sum : Int) (pv : Value) : Array Value :=
  #[.int .i64 f, .int .i64 c0, .int .i64 c1, .int .i64 c2, .int .i64 c3, .int .i64 c4, .int .i64 s, .int .i64 least, .int .i64 most, .int .i64 sum, pv]
theorem Bx.rh10 {w : World} {b : Nat} {t : TypeId} {c0 c1 c2 c3 c4 s : Int} {f : Int} {least most sum : Int} {pv : Value} (h : Bx w b t (rhC c0 c1 c2 c3 c4 s f least most sum pv)) (x : Value) : Bx (w.setCell ⟨b, 10, none⟩ x) b t (rhC c0 c1 c2 c3 c4 s f least most sum x) := by
  simp [Bx, World.setCell, Array.getElem?_modify, show w.heap[b]? = _ from h, rhC]
theorem Bx.rcells {w : World} {b : Nat} {t : TypeId} {c0 c1 c2 c3 c4 s : Int} {f : Int} {least most sum : Int} {pv : Value} (h : Bx w b t (rhC c0 c1 c2 c3 c4 s f least most sum pv)) :
    w.cell? ⟨b, 7, none⟩ = some (.int .i64 least) ∧ w.cell? ⟨b, 8, none⟩ = some (.int .i64 most) ∧ w.cell? ⟨b, 10, none⟩ = some pv ∧ w.frozen? ⟨b, 7, none⟩ = false ∧ w.frozen? ⟨b, 8, none⟩ = false ∧ w.frozen? ⟨b, 10, none⟩ = false := by
  simp [World.cell?, World.frozen?, show w.heap[b]? = _ from h, rhC]
end Go.Proofs.YtlncjgnomhpjnaaGreatDoor

/-
  The document's head as bytes: (reelref.Head).Text.
-/
namespace Go.Proofs.YtlncjgnomhpjnaaGreatDoor
open Go.RowKit Go.Deep
set_option linter.unusedVariables false
theorem kt_below {q : Nat} {wh c0 c1 c2 c3 c4 s least most sum : Int} {pv : Value} {u u' : World} (hb : Below u.heap.size u u') (h : q + 1 < u.heap.size ∧ u.cell? ⟨q, 0, none⟩ = some (.int .i64 wh) ∧ u.cell? ⟨q, 7, none⟩ = some (.int .i64 least) ∧ u.cell? ⟨q, 8, none⟩ = some (.int .i64 most) ∧ u.cell? ⟨q, 9, none⟩ = some (.int .i64 sum) ∧ u.cell? ⟨q, 10, none⟩ = some pv ∧ u.cell? ⟨q + 1, 0, none⟩ = some (.int .i64 c0) ∧ u.cell? ⟨q + 1, 1, none⟩ = some (.int .i64 c1) ∧ u.cell? ⟨q + 1, 2, none⟩ = some (.int .i64 c2) ∧ u.cell? ⟨q + 1, 3, none⟩ = some (.int .i64 c3) ∧ u.cell? ⟨q + 1, 4, none⟩ = some (.int .i64 c4) ∧ u.cell? ⟨q + 1, 5, none⟩ = some (.int .i64 s)) : q + 1 < u'.heap.size ∧ u'.cell? ⟨q, 0, none⟩ = some (.int .i64 wh) ∧ u'.cell? ⟨q, 7, none⟩ = some (.int .i64 least) ∧ u'.cell? ⟨q, 8, none⟩ = some (.int .i64 most) ∧ u'.cell? ⟨q, 9, none⟩ = some (.int .i64 sum) ∧ u'.cell? ⟨q, 10, none⟩ = some pv ∧ u'.cell? ⟨q + 1, 0, none⟩ = some (.int .i64 c0) ∧ u'.cell? ⟨q + 1, 1, none⟩ = some (.int .i64 c1) ∧ u'.cell? ⟨q + 1, 2, none⟩ = some (.int .i64 c2) ∧ u'.cell? ⟨q + 1, 3, none⟩ = some (.int .i64 c3) ∧ u'.cell? ⟨q + 1, 4, none⟩ = some (.int .i64 c4) ∧ u'.cell? ⟨q + 1, 5, none⟩ = some (.int .i64 s) :=
  have h1 : q < u.heap.size := by have := h.1; omega
  ⟨Nat.lt_of_lt_of_le h.1 hb.size, keep_cell hb h1 h.2.1, keep_cell hb h1 h.2.2.1, keep_cell hb h1 h.2.2.2.1, keep_cell hb h1 h.2.2.2.2.1, keep_cell hb h1 h.2.2.2.2.2.1, keep_cell hb h.1 h.2.2.2.2.2.2.1, keep_cell hb h.1 h.2.2.2.2.2.2.2.1, keep_cell hb h.1 h.2.2.2.2.2.2.2.2.1, keep_cell hb h.1 h.2.2.2.2.2.2.2.2.2.1, keep_cell hb h.1 h.2.2.2.2.2.2.2.2.2.2.1, keep_cell hb h.1 h.2.2.2.2.2.2.2.2.2.2.2⟩
end Go.Proofs.YtlncjgnomhpjnaaGreatDoor
