import Derived.Test.YtlncjgnomhpjnaaGreatDoorPD22
import Derived.Test.YtlncjgnomhpjnaaGreatDoorPD8
import Derived.Test.YtlncjgnomhpjnaaGreatDoorPD23
import Derived.Deep.RegionHeld3
/-
  The document's head: reelref.headFor.
-/
namespace Go.Proofs.YtlncjgnomhpjnaaGreatDoor
open Go.RowKit Go.Deep
set_option linter.unusedVariables false
theorem infoRHead : (Tryz.prog.info? 123).map (·.size) = some 11 := by kernel_rfl
/-- a head's cells -/
def rhC (c0 c1 c2 c3 c4 s : Int) (f : Int) (least most sum : Int) (pv : Value) : Array Value :=
  #[.int .i64 f, .int .i64 c0, .int .i64 c1, .int .i64 c2, .int .i64 c3, .int .i64 c4, .int .i64 s, .int .i64 least, .int .i64 most, .int .i64 sum, pv]
theorem Bx.rh7 {w : World} {b : Nat} {t : TypeId} {c0 c1 c2 c3 c4 s : Int} {f : Int} {least most sum : Int} {pv : Value} (h : Bx w b t (rhC c0 c1 c2 c3 c4 s f least most sum pv)) (x : Int) : Bx (w.setCell ⟨b, 7, none⟩ (.int .i64 x)) b t (rhC c0 c1 c2 c3 c4 s f x most sum pv) := by
  simp [Bx, World.setCell, Array.getElem?_modify, show w.heap[b]? = _ from h, rhC]
theorem Bx.rh8 {w : World} {b : Nat} {t : TypeId} {c0 c1 c2 c3 c4 s : Int} {f : Int} {least most sum : Int} {pv : Value} (h : Bx w b t (rhC c0 c1 c2 c3 c4 s f least most sum pv)) (x : Int) : Bx (w.setCell ⟨b, 8, none⟩ (.int .i64 x)) b t (rhC c0 c1 c2 c3 c4 s f least x sum pv) := by
  simp [Bx, World.setCell, Array.getElem?_modify, show w.heap[b]? = _ from h, rhC]
theorem Bx.rh10 {w : World} {b : Nat} {t : TypeId} {c0 c1 c2 c3 c4 s : Int} {f : Int} {least most sum : Int} {pv : Value} (h : Bx w b t (rhC c0 c1 c2 c3 c4 s f least most sum pv)) (x : Value) : Bx (w.setCell ⟨b, 10, none⟩ x) b t (rhC c0 c1 c2 c3 c4 s f least most sum x) := by
  simp [Bx, World.setCell, Array.getElem?_modify, show w.heap[b]? = _ from h, rhC]
theorem Bx.rcells {w : World} {b : Nat} {t : TypeId} {c0 c1 c2 c3 c4 s : Int} {f : Int} {least most sum : Int} {pv : Value} (h : Bx w b t (rhC c0 c1 c2 c3 c4 s f least most sum pv)) :
    w.cell? ⟨b, 7, none⟩ = some (.int .i64 least) ∧ w.cell? ⟨b, 8, none⟩ = some (.int .i64 most) ∧ w.cell? ⟨b, 10, none⟩ = some pv ∧ w.frozen? ⟨b, 7, none⟩ = false ∧ w.frozen? ⟨b, 8, none⟩ = false ∧ w.frozen? ⟨b, 10, none⟩ = false := by
  simp [World.cell?, World.frozen?, show w.heap[b]? = _ from h, rhC]
theorem res_rin (tmps : Array Value) (R : Nat) (cs : Array Value) (W : World) (h : Bx W R 123 cs) (hs : cs.size = 11) (h6 : tmps.getD 6 undef = .pointer (some ⟨R, 0, none⟩)) :
    (results Tryz.f95 tmps).run Tryz.prog W = .ok (.agg cs) W := by
  have hl := run_loadVar_row (P := Tryz.prog) W R 123 123 cs (0, 0) _ h Tryz.underlying123 rfl (by rw [hs]; exact infoRHead)
  rw [Array.getD_eq_getD_getElem?] at h6
  simp [results, Tryz.results95, asAddr, h6, hl]
/-- what holds while lengths are looked through -/
structure RinI (w wr : World) (c0 c1 c2 c3 c4 s : Int) (least most sum : Int) (pv : Value) (m : Nat) (ps : List Value) : Prop where
  info : wr.cell? ⟨w.heap.size, 4, none⟩ = some (.int .i64 c4)
  hd : Bx wr (w.heap.size + 1 + 1) 123 (rhC c0 c1 c2 c3 c4 s 1 least most sum pv)
  res : Bx wr (w.heap.size + 1) 123 (rhC 0 0 0 0 0 0 0 0 0 0 (.slice none 0 0))
  own : wr.ownsRow (w.heap.size + 1 + 1 + 1) 3 1 pv m ps
  below : Below w.heap.size w wr
  size : w.heap.size + 1 + 1 + 1 ≤ wr.heap.size
theorem RinI.ne {w wr : World} {c0 c1 c2 c3 c4 s : Int} {least most sum : Int} {pv : Value} {m : Nat} {ps : List Value} (h : RinI w wr c0 c1 c2 c3 c4 s least most sum pv m ps) : ∀ k, k < w.heap.size + 1 + 1 + 1 → pv.ownBlock ≠ some k := fun k hk e => by have := (h.own.lt k e).1; omega
/-- a field of the head is set -/
theorem RinI.set {w wr : World} {c0 c1 c2 c3 c4 s : Int} {least most sum : Int} {pv : Value} {m : Nat} {ps : List Value} (h : RinI w wr c0 c1 c2 c3 c4 s least most sum pv m ps) (j : Nat) (v : Value) {least' most' : Int}
    (hd : Bx (wr.setCell ⟨w.heap.size + 1 + 1, j, none⟩ v) (w.heap.size + 1 + 1) 123 (rhC c0 c1 c2 c3 c4 s 1 least' most' sum pv)) : RinI w (wr.setCell ⟨w.heap.size + 1 + 1, j, none⟩ v) c0 c1 c2 c3 c4 s least' most' sum pv m ps :=
  have hg := grown_set wr ⟨w.heap.size + 1 + 1, j, none⟩ v
  ⟨hg.cell h.info (by simp; omega), hd, h.res.of (hg.block _ (by have := h.size; omega) (by simp)), h.own.kept hg (.inr (h.ne _ (by show w.heap.size + 1 + 1 < _; omega))), h.below.setCell (p := ⟨w.heap.size + 1 + 1, j, none⟩) (by show w.heap.size ≤ w.heap.size + 1 + 1; omega) _, by have := h.size; have := hg.size; omega⟩
theorem RinI.like {w u u' : World} {c0 c1 c2 c3 c4 s : Int} {least most sum : Int} {pv : Value} {m : Nat} {ps : List Value} (h : RinI w u c0 c1 c2 c3 c4 s least most sum pv m ps) (hh : u'.heap = u.heap) (h1 : u'.os = u.os) (h2 : u'.tape = u.tape) (h3 : u'.output = u.output) : RinI w u' c0 c1 c2 c3 c4 s least most sum pv m ps :=
  ⟨by have := h.info; unfold World.cell? at this ⊢; rw [hh]; exact this, by have := h.hd; unfold Bx at this ⊢; rw [hh]; exact this, by have := h.res; unfold Bx at this ⊢; rw [hh]; exact this, by have := h.own; unfold World.ownsRow at this ⊢; rw [hh]; exact this,
   ⟨h1.trans h.below.os, h2.trans h.below.tape, h3.trans h.below.output, by rw [hh]; exact h.below.size, fun k hk => by rw [hh]; exact h.below.block k hk⟩, by rw [hh]; exact h.size⟩
/-- a point more -/
theorem RinI.point {w wr u : World} {c0 c1 c2 c3 c4 s : Int} {least most sum : Int} {pv : Value} {m : Nat} {ps : List Value} (h : RinI w wr c0 c1 c2 c3 c4 s least most sum pv m ps) {g cap : Nat} {x : Value}
    (ho : u.ownsRow (w.heap.size + 1 + 1 + 1) 3 1 (.slice (some ⟨g, 0, none⟩) (m + 1) cap) (m + 1) (ps ++ [x])) (hg : wr.grownBy u pv.ownBlock) :
    RinI w (u.setCell ⟨w.heap.size + 1 + 1, 10, none⟩ (.slice (some ⟨g, 0, none⟩) (m + 1) cap)) c0 c1 c2 c3 c4 s least most sum (.slice (some ⟨g, 0, none⟩) (m + 1) cap) (m + 1) (ps ++ [x]) :=
  have hs := h.size
  have hd : Bx u (w.heap.size + 1 + 1) 123 (rhC c0 c1 c2 c3 c4 s 1 least most sum pv) := h.hd.of (hg.block _ (by omega) (fun e => h.ne _ (by show w.heap.size + 1 + 1 < _; omega) e.symm))
  have hg2 := grown_set u ⟨w.heap.size + 1 + 1, 10, none⟩ (.slice (some ⟨g, 0, none⟩) (m + 1) cap)
  have hgl := (ho.lt g rfl).1
  ⟨hg2.cell (hg.cell h.info (fun e => h.ne w.heap.size (by omega) e.symm)) (by simp; omega), hd.rh10 _, (h.res.of (hg.block _ (by omega) (fun e => h.ne (w.heap.size + 1) (by omega) e.symm))).of (hg2.block _ (by have := hg.size; omega) (by simp)), ho.kept hg2 (.inr (by simp [Value.ownBlock]; omega)), (h.below.grown hg h.below.size (fun k hk => by have := (h.own.lt k hk).1; omega)).setCell (p := ⟨w.heap.size + 1 + 1, 10, none⟩) (by show w.heap.size ≤ w.heap.size + 1 + 1; omega) _, by have := hg.size; have := hg2.size; omega⟩
end Go.Proofs.YtlncjgnomhpjnaaGreatDoor

/-
  The document's head as bytes: (reelref.Head).Text.
-/
namespace Go.Proofs.YtlncjgnomhpjnaaGreatDoor
open Go.RowKit Go.Deep
set_option linter.unusedVariables false
theorem kt_below {q : Nat} {wh c0 c1 c2 c3 c4 s least most sum : Int} {pv : Value} {u u' : World} (hb : Below u.heap.size u u') (h : q + 1 < u.heap.size ∧ u.cell? ⟨q, 0, none⟩ = some (.int .i64 wh) ∧ u.cell? ⟨q, 7, none⟩ = some (.int .i64 least) ∧ u.cell? ⟨q, 8, none⟩ = some (.int .i64 most) ∧ u.cell? ⟨q, 9, none⟩ = some (.int .i64 sum) ∧ u.cell? ⟨q, 10, none⟩ = some pv ∧ u.cell? ⟨q + 1, 0, none⟩ = some (.int .i64 c0) ∧ u.cell? ⟨q + 1, 1, none⟩ = some (.int .i64 c1) ∧ u.cell? ⟨q + 1, 2, none⟩ = some (.int .i64 c2) ∧ u.cell? ⟨q + 1, 3, none⟩ = some (.int .i64 c3) ∧ u.cell? ⟨q + 1, 4, none⟩ = some (.int .i64 c4) ∧ u.cell? ⟨q + 1, 5, none⟩ = some (.int .i64 s)) : q + 1 < u'.heap.size ∧ u'.cell? ⟨q, 0, none⟩ = some (.int .i64 wh) ∧ u'.cell? ⟨q, 7, none⟩ = some (.int .i64 least) ∧ u'.cell? ⟨q, 8, none⟩ = some (.int .i64 most) ∧ u'.cell? ⟨q, 9, none⟩ = some (.int .i64 sum) ∧ u'.cell? ⟨q, 10, none⟩ = some pv ∧ u'.cell? ⟨q + 1, 0, none⟩ = some (.int .i64 c0) ∧ u'.cell? ⟨q + 1, 1, none⟩ = some (.int .i64 c1) ∧ u'.cell? ⟨q + 1, 2, none⟩ = some (.int .i64 c2) ∧ u'.cell? ⟨q + 1, 3, none⟩ = some (.int .i64 c3) ∧ u'.cell? ⟨q + 1, 4, none⟩ = some (.int .i64 c4) ∧ u'.cell? ⟨q + 1, 5, none⟩ = some (.int .i64 s) :=
  have h1 : q < u.heap.size := by have := h.1; omega
  ⟨Nat.lt_of_lt_of_le h.1 hb.size, keep_cell hb h1 h.2.1, keep_cell hb h1 h.2.2.1, keep_cell hb h1 h.2.2.2.1, keep_cell hb h1 h.2.2.2.2.1, keep_cell hb h1 h.2.2.2.2.2.1, keep_cell hb h.1 h.2.2.2.2.2.2.1, keep_cell hb h.1 h.2.2.2.2.2.2.2.1, keep_cell hb h.1 h.2.2.2.2.2.2.2.2.1, keep_cell hb h.1 h.2.2.2.2.2.2.2.2.2.1, keep_cell hb h.1 h.2.2.2.2.2.2.2.2.2.2.1, keep_cell hb h.1 h.2.2.2.2.2.2.2.2.2.2.2⟩
end Go.Proofs.YtlncjgnomhpjnaaGreatDoor
