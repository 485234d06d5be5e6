import Derived.Test.YtlncjgnomhpjnaaGreatDoorPR10
import Derived.Test.YtlncjgnomhpjnaaGreatDoorPR5
/-
  A stream's head: head.Finished.
-/
namespace Go.Proofs.YtlncjgnomhpjnaaGreatDoor
open Go.RowKit Go.Deep
set_option linter.unusedVariables false
/-- a head's cells -/
def hdC (c0 c1 c2 c3 c4 s : Int) (f : Bool) (least most sum : Int) (pv : Value) : Array Value :=
  #[.int .i64 c0, .int .i64 c1, .int .i64 c2, .int .i64 c3, .int .i64 c4, .int .i64 s, .bool f, .int .i64 least, .int .i64 most, .int .i64 sum, pv]
theorem Bx.hd10 {w : World} {b : Nat} {t : TypeId} {c0 c1 c2 c3 c4 s : Int} {f : Bool} {least most sum : Int} {pv : Value} (h : Bx w b t (hdC c0 c1 c2 c3 c4 s f least most sum pv)) (x : Value) : Bx (w.setCell ⟨b, 10, none⟩ x) b t (hdC c0 c1 c2 c3 c4 s f least most sum x) := by
  simp [Bx, World.setCell, Array.getElem?_modify, show w.heap[b]? = _ from h, hdC]
theorem grown_set (w : World) (p : Addr) (v : Value) : w.grownBy (w.setCell p v) (some p.block) :=
  ⟨rfl, rfl, rfl, by simp [World.setCell], fun k hk hne => by
    have : p.block ≠ k := fun e => hne (by rw [e])
    simp [World.setCell, Array.getElem?_modify, this]⟩
theorem Bx.new2 {u : World} {k : Nat} (h : u.heap.size = k) (cs : Array Value) (t : TypeId) : Bx (u.alloc (.cells cs t)) k t cs := h ▸ Bx.new u cs t
theorem grown_row (w : World) (g : Nat) (cs : Array Value) : w.grownBy (w.setRow g cs) (some g) :=
  ⟨rfl, rfl, rfl, by simp [World.setRow], fun k hk hne => setRow_other w g k cs (fun e => hne (by rw [e]))⟩
theorem owns_mono {w : World} {base base' : Nat} {e : TypeId} {size : Nat} {v : Value} {n : Nat} {xs : List Value} (h : w.ownsRow base e size v n xs) (hb : base' ≤ base) : w.ownsRow base' e size v n xs :=
  ⟨h.1, h.2.imp id fun ⟨g, cap, cur, h1, h2, h3⟩ => ⟨g, cap, cur, h1, Nat.le_trans hb h2, h3⟩⟩
theorem size_set (u : World) (p : Addr) (v : Value) : (u.setCell p v).heap.size = u.heap.size := by simp [World.setCell]
/-- numbers as cells -/
def pntV (l : List Nat) : List Value := l.map fun p : Nat => Value.int .i64 (p : Int)
theorem pntV_snoc (l : List Nat) (p : Nat) : pntV (l ++ [p]) = pntV l ++ [Value.int .i64 (p : Int)] := by simp [pntV]
end Go.Proofs.YtlncjgnomhpjnaaGreatDoor

