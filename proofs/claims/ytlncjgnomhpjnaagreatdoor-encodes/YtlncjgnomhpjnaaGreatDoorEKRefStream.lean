import Derived.Test.YtlncjgnomhpjnaaGreatDoorEKRefTxt
import Derived.Test.YtlncjgnomhpjnaaGreatDoorEJEncAll
import Derived.Test.YtlncjgnomhpjnaaGreatDoorEJEncTop
import Derived.Test.YtlncjgnomhpjnaaGreatDoorEKCrcFast
import Derived.Deep.RegionHeld3
import Derived.Deep.DeepCutAuto
/-
  The document's stream: reelref.stream, reelref.Check, reelref.Encode.
-/
namespace Go.Proofs.YtlncjgnomhpjnaaGreatDoor
open Go.RowKit Go.Deep
set_option linter.unusedVariables false

theorem pnts_open2 {w : World} {base : Nat} {ps : List Nat} {v : Value} (h : w.ownsRow base 3 1 v ps.length (pntV ps)) : ∃ a cap, v = .slice a ps.length cap ∧ IntsAt w a ps.length (fun i => ((ps.getD i 0 : Nat) : Int)) ∧ (∀ x, a = some x → 0 < ps.length → x.block < w.heap.size) ∧ ∀ x, a = some x → base ≤ x.block := by
  obtain ⟨a, cap, rfl, h1, h2⟩ := pnts_open h
  exact ⟨a, cap, rfl, h1, h2, fun x hx => (h.lt x.block (by rw [hx]; rfl)).1⟩
theorem ints_grew {w w' : World} {r : Option Nat} {a : Option Addr} {n : Nat} {f : Nat → Int} (h : IntsAt w a n f) (hg : w.grownBy w' r) (hne : ∀ y, a = some y → some y.block ≠ r) : IntsAt w' a n f := by
  intro i hi
  obtain ⟨y, e, hc⟩ := h i hi
  have hb : (y.add i).block = y.block := by cases y; cases i <;> simp [Addr.add]
  exact ⟨y, e, hg.cell hc (by rw [hb]; exact hne y e)⟩
theorem fits13 {d : Nat} {v : Int} (hd : d ≤ 12) (h : fitsB d v = true) : -65536 ≤ v ∧ v < 65536 := by
  unfold fitsB at h
  rw [within_iff] at h
  have : (2 : Int) ^ (d - 1) ≤ 2 ^ 11 := by exact_mod_cast Nat.pow_le_pow_right (by omega) (show d - 1 ≤ 11 by omega)
  omega
theorem frsL_get {d n S B N j : Nat} {F : Nat → Nat → Int} (hj : j < N) : (frsL d n F S B N)[j]? = some (Value.string (bs (frT d n F S B j))) := by
  unfold frsL
  rw [List.getElem?_map, List.getElem?_range hj]; rfl
/-- what holds while frames are joined -/
structure StrI (w wr : World) (cs : Array Value) (kv : Value) (k : Nat) (ls : List Value) : Prop where
  cfg : Bx wr w.heap.size 23 cs
  own : wr.ownsRow (w.heap.size + 1) 3 1 kv k ls
  below : Below w.heap.size w wr
  size : w.heap.size + 1 ≤ wr.heap.size
theorem StrI.grew {w wr u : World} {cs : Array Value} {kv kv' : Value} {k : Nat} {ls ls' : List Value} (h : StrI w wr cs kv k ls) (ho : u.ownsRow (w.heap.size + 1) 3 1 kv' (k + 1) ls') (hg : wr.grownBy u kv.ownBlock) : StrI w u cs kv' (k + 1) ls' :=
  ⟨h.cfg.of (hg.block _ (by have := h.size; omega) (fun e => by have := (h.own.lt _ e.symm).1; omega)), ho, h.below.grown hg h.below.size (fun j hj => by have := (h.own.lt j hj).1; omega), Nat.le_trans h.size hg.size⟩

theorem ki_al {g : Nat} {c0 c1 c2 c3 c4 s : Int} {u : World} {o : Obj} (h : g < u.heap.size ∧ u.cell? ⟨g, 0, none⟩ = some (.int .i64 c0) ∧ u.cell? ⟨g, 1, none⟩ = some (.int .i64 c1) ∧ u.cell? ⟨g, 2, none⟩ = some (.int .i64 c2) ∧ u.cell? ⟨g, 3, none⟩ = some (.int .i64 c3) ∧ u.cell? ⟨g, 4, none⟩ = some (.int .i64 c4) ∧ u.cell? ⟨g, 5, none⟩ = some (.int .i64 s)) : g < (u.alloc o).heap.size ∧ (u.alloc o).cell? ⟨g, 0, none⟩ = some (.int .i64 c0) ∧ (u.alloc o).cell? ⟨g, 1, none⟩ = some (.int .i64 c1) ∧ (u.alloc o).cell? ⟨g, 2, none⟩ = some (.int .i64 c2) ∧ (u.alloc o).cell? ⟨g, 3, none⟩ = some (.int .i64 c3) ∧ (u.alloc o).cell? ⟨g, 4, none⟩ = some (.int .i64 c4) ∧ (u.alloc o).cell? ⟨g, 5, none⟩ = some (.int .i64 s) :=
  ki_below ((Below.refl _ _).alloc (Nat.le_refl _) _) h
theorem set11_grown (u : World) (g : Nat) (s0 s1 s2 s3 s4 s5 s6 s7 s8 s9 s10 : Value) : u.grownBy (((((((((((u.setCell ⟨g, 0, none⟩ s0).setCell ⟨g, 1, none⟩ s1).setCell ⟨g, 2, none⟩ s2).setCell ⟨g, 3, none⟩ s3).setCell ⟨g, 4, none⟩ s4).setCell ⟨g, 5, none⟩ s5).setCell ⟨g, 6, none⟩ s6).setCell ⟨g, 7, none⟩ s7).setCell ⟨g, 8, none⟩ s8).setCell ⟨g, 9, none⟩ s9).setCell ⟨g, 10, none⟩ s10) (some g) :=
  grown_tr (grown_tr (grown_tr (grown_tr (grown_tr (grown_tr (grown_tr (grown_tr (grown_tr (grown_tr (grown_set u ⟨g, 0, none⟩ s0) (grown_set _ ⟨g, 1, none⟩ s1)) (grown_set _ ⟨g, 2, none⟩ s2)) (grown_set _ ⟨g, 3, none⟩ s3)) (grown_set _ ⟨g, 4, none⟩ s4)) (grown_set _ ⟨g, 5, none⟩ s5)) (grown_set _ ⟨g, 6, none⟩ s6)) (grown_set _ ⟨g, 7, none⟩ s7)) (grown_set _ ⟨g, 8, none⟩ s8)) (grown_set _ ⟨g, 9, none⟩ s9)) (grown_set _ ⟨g, 10, none⟩ s10)
theorem ki_st {g q : Nat} {c0 c1 c2 c3 c4 s : Int} {s0 s1 s2 s3 s4 s5 s6 s7 s8 s9 s10 : Value} {u : World} (hq : g ≠ q) (h : g < u.heap.size ∧ u.cell? ⟨g, 0, none⟩ = some (.int .i64 c0) ∧ u.cell? ⟨g, 1, none⟩ = some (.int .i64 c1) ∧ u.cell? ⟨g, 2, none⟩ = some (.int .i64 c2) ∧ u.cell? ⟨g, 3, none⟩ = some (.int .i64 c3) ∧ u.cell? ⟨g, 4, none⟩ = some (.int .i64 c4) ∧ u.cell? ⟨g, 5, none⟩ = some (.int .i64 s)) : g < (((((((((((u.setCell ⟨q, 0, none⟩ s0).setCell ⟨q, 1, none⟩ s1).setCell ⟨q, 2, none⟩ s2).setCell ⟨q, 3, none⟩ s3).setCell ⟨q, 4, none⟩ s4).setCell ⟨q, 5, none⟩ s5).setCell ⟨q, 6, none⟩ s6).setCell ⟨q, 7, none⟩ s7).setCell ⟨q, 8, none⟩ s8).setCell ⟨q, 9, none⟩ s9).setCell ⟨q, 10, none⟩ s10).heap.size ∧ (((((((((((u.setCell ⟨q, 0, none⟩ s0).setCell ⟨q, 1, none⟩ s1).setCell ⟨q, 2, none⟩ s2).setCell ⟨q, 3, none⟩ s3).setCell ⟨q, 4, none⟩ s4).setCell ⟨q, 5, none⟩ s5).setCell ⟨q, 6, none⟩ s6).setCell ⟨q, 7, none⟩ s7).setCell ⟨q, 8, none⟩ s8).setCell ⟨q, 9, none⟩ s9).setCell ⟨q, 10, none⟩ s10).cell? ⟨g, 0, none⟩ = some (.int .i64 c0) ∧ (((((((((((u.setCell ⟨q, 0, none⟩ s0).setCell ⟨q, 1, none⟩ s1).setCell ⟨q, 2, none⟩ s2).setCell ⟨q, 3, none⟩ s3).setCell ⟨q, 4, none⟩ s4).setCell ⟨q, 5, none⟩ s5).setCell ⟨q, 6, none⟩ s6).setCell ⟨q, 7, none⟩ s7).setCell ⟨q, 8, none⟩ s8).setCell ⟨q, 9, none⟩ s9).setCell ⟨q, 10, none⟩ s10).cell? ⟨g, 1, none⟩ = some (.int .i64 c1) ∧ (((((((((((u.setCell ⟨q, 0, none⟩ s0).setCell ⟨q, 1, none⟩ s1).setCell ⟨q, 2, none⟩ s2).setCell ⟨q, 3, none⟩ s3).setCell ⟨q, 4, none⟩ s4).setCell ⟨q, 5, none⟩ s5).setCell ⟨q, 6, none⟩ s6).setCell ⟨q, 7, none⟩ s7).setCell ⟨q, 8, none⟩ s8).setCell ⟨q, 9, none⟩ s9).setCell ⟨q, 10, none⟩ s10).cell? ⟨g, 2, none⟩ = some (.int .i64 c2) ∧ (((((((((((u.setCell ⟨q, 0, none⟩ s0).setCell ⟨q, 1, none⟩ s1).setCell ⟨q, 2, none⟩ s2).setCell ⟨q, 3, none⟩ s3).setCell ⟨q, 4, none⟩ s4).setCell ⟨q, 5, none⟩ s5).setCell ⟨q, 6, none⟩ s6).setCell ⟨q, 7, none⟩ s7).setCell ⟨q, 8, none⟩ s8).setCell ⟨q, 9, none⟩ s9).setCell ⟨q, 10, none⟩ s10).cell? ⟨g, 3, none⟩ = some (.int .i64 c3) ∧ (((((((((((u.setCell ⟨q, 0, none⟩ s0).setCell ⟨q, 1, none⟩ s1).setCell ⟨q, 2, none⟩ s2).setCell ⟨q, 3, none⟩ s3).setCell ⟨q, 4, none⟩ s4).setCell ⟨q, 5, none⟩ s5).setCell ⟨q, 6, none⟩ s6).setCell ⟨q, 7, none⟩ s7).setCell ⟨q, 8, none⟩ s8).setCell ⟨q, 9, none⟩ s9).setCell ⟨q, 10, none⟩ s10).cell? ⟨g, 4, none⟩ = some (.int .i64 c4) ∧ (((((((((((u.setCell ⟨q, 0, none⟩ s0).setCell ⟨q, 1, none⟩ s1).setCell ⟨q, 2, none⟩ s2).setCell ⟨q, 3, none⟩ s3).setCell ⟨q, 4, none⟩ s4).setCell ⟨q, 5, none⟩ s5).setCell ⟨q, 6, none⟩ s6).setCell ⟨q, 7, none⟩ s7).setCell ⟨q, 8, none⟩ s8).setCell ⟨q, 9, none⟩ s9).setCell ⟨q, 10, none⟩ s10).cell? ⟨g, 5, none⟩ = some (.int .i64 s) := by
  have hg := set11_grown u q s0 s1 s2 s3 s4 s5 s6 s7 s8 s9 s10
  have e1 : ∀ j v, u.cell? ⟨g, j, none⟩ = some v → (((((((((((u.setCell ⟨q, 0, none⟩ s0).setCell ⟨q, 1, none⟩ s1).setCell ⟨q, 2, none⟩ s2).setCell ⟨q, 3, none⟩ s3).setCell ⟨q, 4, none⟩ s4).setCell ⟨q, 5, none⟩ s5).setCell ⟨q, 6, none⟩ s6).setCell ⟨q, 7, none⟩ s7).setCell ⟨q, 8, none⟩ s8).setCell ⟨q, 9, none⟩ s9).setCell ⟨q, 10, none⟩ s10).cell? ⟨g, j, none⟩ = some v := fun j v hv => hg.cell hv (by simpa using hq)
  exact ⟨Nat.lt_of_lt_of_le h.1 hg.size, e1 _ _ h.2.1, e1 _ _ h.2.2.1, e1 _ _ h.2.2.2.1, e1 _ _ h.2.2.2.2.1, e1 _ _ h.2.2.2.2.2.1, e1 _ _ h.2.2.2.2.2.2⟩
theorem ki_alst {g : Nat} {c0 c1 c2 c3 c4 s : Int} {s0 s1 s2 s3 s4 s5 s6 s7 s8 s9 s10 : Value} {u : World} {o : Obj} (h : g < u.heap.size ∧ u.cell? ⟨g, 0, none⟩ = some (.int .i64 c0) ∧ u.cell? ⟨g, 1, none⟩ = some (.int .i64 c1) ∧ u.cell? ⟨g, 2, none⟩ = some (.int .i64 c2) ∧ u.cell? ⟨g, 3, none⟩ = some (.int .i64 c3) ∧ u.cell? ⟨g, 4, none⟩ = some (.int .i64 c4) ∧ u.cell? ⟨g, 5, none⟩ = some (.int .i64 s)) : g < ((((((((((((u.alloc o).setCell ⟨u.heap.size, 0, none⟩ s0).setCell ⟨u.heap.size, 1, none⟩ s1).setCell ⟨u.heap.size, 2, none⟩ s2).setCell ⟨u.heap.size, 3, none⟩ s3).setCell ⟨u.heap.size, 4, none⟩ s4).setCell ⟨u.heap.size, 5, none⟩ s5).setCell ⟨u.heap.size, 6, none⟩ s6).setCell ⟨u.heap.size, 7, none⟩ s7).setCell ⟨u.heap.size, 8, none⟩ s8).setCell ⟨u.heap.size, 9, none⟩ s9).setCell ⟨u.heap.size, 10, none⟩ s10).heap.size ∧ ((((((((((((u.alloc o).setCell ⟨u.heap.size, 0, none⟩ s0).setCell ⟨u.heap.size, 1, none⟩ s1).setCell ⟨u.heap.size, 2, none⟩ s2).setCell ⟨u.heap.size, 3, none⟩ s3).setCell ⟨u.heap.size, 4, none⟩ s4).setCell ⟨u.heap.size, 5, none⟩ s5).setCell ⟨u.heap.size, 6, none⟩ s6).setCell ⟨u.heap.size, 7, none⟩ s7).setCell ⟨u.heap.size, 8, none⟩ s8).setCell ⟨u.heap.size, 9, none⟩ s9).setCell ⟨u.heap.size, 10, none⟩ s10).cell? ⟨g, 0, none⟩ = some (.int .i64 c0) ∧ ((((((((((((u.alloc o).setCell ⟨u.heap.size, 0, none⟩ s0).setCell ⟨u.heap.size, 1, none⟩ s1).setCell ⟨u.heap.size, 2, none⟩ s2).setCell ⟨u.heap.size, 3, none⟩ s3).setCell ⟨u.heap.size, 4, none⟩ s4).setCell ⟨u.heap.size, 5, none⟩ s5).setCell ⟨u.heap.size, 6, none⟩ s6).setCell ⟨u.heap.size, 7, none⟩ s7).setCell ⟨u.heap.size, 8, none⟩ s8).setCell ⟨u.heap.size, 9, none⟩ s9).setCell ⟨u.heap.size, 10, none⟩ s10).cell? ⟨g, 1, none⟩ = some (.int .i64 c1) ∧ ((((((((((((u.alloc o).setCell ⟨u.heap.size, 0, none⟩ s0).setCell ⟨u.heap.size, 1, none⟩ s1).setCell ⟨u.heap.size, 2, none⟩ s2).setCell ⟨u.heap.size, 3, none⟩ s3).setCell ⟨u.heap.size, 4, none⟩ s4).setCell ⟨u.heap.size, 5, none⟩ s5).setCell ⟨u.heap.size, 6, none⟩ s6).setCell ⟨u.heap.size, 7, none⟩ s7).setCell ⟨u.heap.size, 8, none⟩ s8).setCell ⟨u.heap.size, 9, none⟩ s9).setCell ⟨u.heap.size, 10, none⟩ s10).cell? ⟨g, 2, none⟩ = some (.int .i64 c2) ∧ ((((((((((((u.alloc o).setCell ⟨u.heap.size, 0, none⟩ s0).setCell ⟨u.heap.size, 1, none⟩ s1).setCell ⟨u.heap.size, 2, none⟩ s2).setCell ⟨u.heap.size, 3, none⟩ s3).setCell ⟨u.heap.size, 4, none⟩ s4).setCell ⟨u.heap.size, 5, none⟩ s5).setCell ⟨u.heap.size, 6, none⟩ s6).setCell ⟨u.heap.size, 7, none⟩ s7).setCell ⟨u.heap.size, 8, none⟩ s8).setCell ⟨u.heap.size, 9, none⟩ s9).setCell ⟨u.heap.size, 10, none⟩ s10).cell? ⟨g, 3, none⟩ = some (.int .i64 c3) ∧ ((((((((((((u.alloc o).setCell ⟨u.heap.size, 0, none⟩ s0).setCell ⟨u.heap.size, 1, none⟩ s1).setCell ⟨u.heap.size, 2, none⟩ s2).setCell ⟨u.heap.size, 3, none⟩ s3).setCell ⟨u.heap.size, 4, none⟩ s4).setCell ⟨u.heap.size, 5, none⟩ s5).setCell ⟨u.heap.size, 6, none⟩ s6).setCell ⟨u.heap.size, 7, none⟩ s7).setCell ⟨u.heap.size, 8, none⟩ s8).setCell ⟨u.heap.size, 9, none⟩ s9).setCell ⟨u.heap.size, 10, none⟩ s10).cell? ⟨g, 4, none⟩ = some (.int .i64 c4) ∧ ((((((((((((u.alloc o).setCell ⟨u.heap.size, 0, none⟩ s0).setCell ⟨u.heap.size, 1, none⟩ s1).setCell ⟨u.heap.size, 2, none⟩ s2).setCell ⟨u.heap.size, 3, none⟩ s3).setCell ⟨u.heap.size, 4, none⟩ s4).setCell ⟨u.heap.size, 5, none⟩ s5).setCell ⟨u.heap.size, 6, none⟩ s6).setCell ⟨u.heap.size, 7, none⟩ s7).setCell ⟨u.heap.size, 8, none⟩ s8).setCell ⟨u.heap.size, 9, none⟩ s9).setCell ⟨u.heap.size, 10, none⟩ s10).cell? ⟨g, 5, none⟩ = some (.int .i64 s) :=
  ki_st (Nat.ne_of_lt h.1) (ki_al h)
theorem Bx.set11 {u : World} {g : Nat} {t : TypeId} {o0 o1 o2 o3 o4 o5 o6 o7 o8 o9 o10 : Value} (h : Bx u g t #[o0, o1, o2, o3, o4, o5, o6, o7, o8, o9, o10]) (s0 s1 s2 s3 s4 s5 s6 s7 s8 s9 s10 : Value) : Bx (((((((((((u.setCell ⟨g, 0, none⟩ s0).setCell ⟨g, 1, none⟩ s1).setCell ⟨g, 2, none⟩ s2).setCell ⟨g, 3, none⟩ s3).setCell ⟨g, 4, none⟩ s4).setCell ⟨g, 5, none⟩ s5).setCell ⟨g, 6, none⟩ s6).setCell ⟨g, 7, none⟩ s7).setCell ⟨g, 8, none⟩ s8).setCell ⟨g, 9, none⟩ s9).setCell ⟨g, 10, none⟩ s10) g t #[s0, s1, s2, s3, s4, s5, s6, s7, s8, s9, s10] := by
  simp [Bx, World.setCell, Array.getElem?_modify, show u.heap[g]? = _ from h]
theorem ele_of_blk {u : World} {b : Nat} {o0 o1 o2 o3 o4 o5 o6 o7 o8 o9 o10 : Value} {T : TypeId} (h : Bx u b T #[o0, o1, o2, o3, o4, o5, o6, o7, o8, o9, o10]) :
    u.cell? ⟨b, 0, none⟩ = some o0 ∧ u.cell? ⟨b, 1, none⟩ = some o1 ∧ u.cell? ⟨b, 2, none⟩ = some o2 ∧ u.cell? ⟨b, 3, none⟩ = some o3 ∧ u.cell? ⟨b, 4, none⟩ = some o4 ∧ u.cell? ⟨b, 5, none⟩ = some o5 ∧ u.cell? ⟨b, 6, none⟩ = some o6 ∧ u.cell? ⟨b, 7, none⟩ = some o7 ∧ u.cell? ⟨b, 8, none⟩ = some o8 ∧ u.cell? ⟨b, 9, none⟩ = some o9 ∧ u.cell? ⟨b, 10, none⟩ = some o10 ∧ u.frozen? ⟨b, 0, none⟩ = false ∧ u.frozen? ⟨b, 1, none⟩ = false ∧ u.frozen? ⟨b, 2, none⟩ = false ∧ u.frozen? ⟨b, 3, none⟩ = false ∧ u.frozen? ⟨b, 4, none⟩ = false ∧ u.frozen? ⟨b, 5, none⟩ = false ∧ u.frozen? ⟨b, 6, none⟩ = false ∧ u.frozen? ⟨b, 7, none⟩ = false ∧ u.frozen? ⟨b, 8, none⟩ = false ∧ u.frozen? ⟨b, 9, none⟩ = false ∧ u.frozen? ⟨b, 10, none⟩ = false :=
  ⟨Lib.cell_of_heap h 0, Lib.cell_of_heap h 1, Lib.cell_of_heap h 2, Lib.cell_of_heap h 3, Lib.cell_of_heap h 4, Lib.cell_of_heap h 5, Lib.cell_of_heap h 6, Lib.cell_of_heap h 7, Lib.cell_of_heap h 8, Lib.cell_of_heap h 9, Lib.cell_of_heap h 10, Lib.frozen_of_heap h 0, Lib.frozen_of_heap h 1, Lib.frozen_of_heap h 2, Lib.frozen_of_heap h 3, Lib.frozen_of_heap h 4, Lib.frozen_of_heap h 5, Lib.frozen_of_heap h 6, Lib.frozen_of_heap h 7, Lib.frozen_of_heap h 8, Lib.frozen_of_heap h 9, Lib.frozen_of_heap h 10⟩

set_option maxRecDepth 4000 in
set_option maxHeartbeats 4000000 in
theorem rstream_any (c5 c6 c7 : Int) (d B c3 c4 : Nat) (a : Option Addr) (n cap : Nat) (A : Nat → Option Addr) (S : Nat) (C : Nat → Nat) (F : Nat → Nat → Int) (fv : Value) (w : World) (hd1 : 1 ≤ d) (hd : d ≤ 12) (hn1 : 1 ≤ n) (hn4 : n ≤ 4) (hB1 : 1 ≤ B) (hB2 : B ≤ 32) (hc3 : c3 < 65536) (hc4 : c4 < 256) (hS : S ≤ 300)
    (hf : ∀ i, i < n → ∀ j, j < S → fitsB d (F i j) = true) (hA : ListsAt w a n A (fun _ => S) C) (hI : ∀ i, i < n → IntsAt w (A i) S (F i)) (hlow : Low w.heap.size a n A (fun _ => S))
    (base : Nat) (hfv : w.ownsRow base 9 1 fv (nBlk S B) (frsL d n F S B (nBlk S B))) :
    Calls Tryz.prog 89 #[.agg #[.int .i64 n, .int .i64 d, .int .i64 B, .int .i64 c3, .int .i64 c4, .int .i64 c5, .int .i64 c6, .int .i64 c7], .slice a n cap, fv] w fun e w' => e = .returned (.string (bs (streamT d n B c3 c4 F S))) ∧ Below w.heap.size w w' := by
  obtain ⟨af, capf, rfl, hcf, hlf⟩ : ∃ af capf, fv = .slice af (nBlk S B) capf ∧ (∀ j, j < nBlk S B → ∃ gf, af = some ⟨gf, 0, none⟩ ∧ gf < w.heap.size ∧ w.cell? ⟨gf, j, none⟩ = some (.string (bs (frT d n F S B j)))) ∧ True := by
    rcases hfv.2 with ⟨rfl, h0⟩ | ⟨g, cp, cur, rfl, -⟩
    · exact ⟨none, 0, by rw [h0], fun j hj => absurd hj (by omega), trivial⟩
    · refine ⟨_, cp, rfl, fun j hj => ⟨g, rfl, (hfv.lt g rfl).2, ?_⟩, trivial⟩
      have := hfv.cells (g := g) rfl j _ (frsL_get hj)
      rw [Addr.add_lit, Nat.zero_add] at this; exact this
  clear hfv hlf
  have HCF := Hid.mk' hcf
  have HIN := Hid.mk' (fun (u : World) (hu : Below w.heap.size w u) => interleaved_any a n cap A S C F u hn1 hn4 hS (fun i hi j hj => by have := fits13 hd (hf i hi j hj); omega) (hA.below hu hlow.1) (fun i hi => (hI i hi).below hu (hlow.2 i hi)) ⟨fun x hx h0 => Nat.lt_of_lt_of_le (hlow.1 x hx h0) hu.size, fun i hi x hx h0 => Nat.lt_of_lt_of_le (hlow.2 i hi x hx h0) hu.size⟩)
  have HSU := Hid.mk' (fun u => refSum_any (intT n F (2 * (S * n))) u (by rw [intT_length]; have : S * n ≤ 300 * 4 := Nat.mul_le_mul hS hn4; omega))
  have HHF := Hid.mk' (fun (u : World) (a' : Option Addr) (cap' : Nat) hI' hl' => headFor_any n d B c3 S c4 (sumN (intT n F (2 * (S * n)))) a' (nBlk S B) cap' (lnF d n F S B) u (by have := nBlk_le (S := S) hB1; omega) (by omega) (fun i hi => (lnF_bd d n F S B i hd hn1 hn4 hB1 hB2 hi).2) hI' hl')
  unfold rhC at HHF
  have hlb : ∀ i, i < nBlk S B → lnF d n F S B i ≤ 222 := fun i hi => (lnF_bd d n F S B i hd hn1 hn4 hB1 hB2 hi).2
  have hnb0 := nBlk_le (S := S) hB1
  have hpl0 := pntN_len (lnF d n F S B) c4 (nBlk S B)
  have HTT := Hid.mk' (fun (u : World) (a' : Option Addr) (cap' : Nat) hI' hl' => refText_any n d B c3 S c4 (leastN (lnF d n F S B) (nBlk S B)) (mostN (lnF d n F S B) (nBlk S B)) (sumN (intT n F (2 * (S * n)))) (pntN (lnF d n F S B) c4 (nBlk S B)) a' cap' u (by omega) (by omega) (by omega) hc3 hc4 (by omega)
    (by have := leastN_bd (nBlk S B) hlb; omega) (by have := mostN_bd (nBlk S B) hlb; omega) (sumN_lt _) (by omega) (fun p hp => by have h1 := pntN_bd (nBlk S B) hlb p hp; omega) hI' hl')
  unfold rhC at HTT
  have hz1 : (bs (headTx 1 n d B c3 S c4 (leastN (lnF d n F S B) (nBlk S B)) (mostN (lnF d n F S B) (nBlk S B)) (sumN (intT n F (2 * (S * n)))) (pntN (lnF d n F S B) c4 (nBlk S B)))).size ≤ 700 := by rw [bs_size, headTx_length]; omega
  clear hlb hpl0
  have HNB : Hid (nBlk S B ≤ 300) := by have := nBlk_le (S := S) hB1; show _ ≤ _; omega
  have HLB := Hid.mk' (fun k (hk : k < nBlk S B) => lnF_bd d n F S B k hd hn1 hn4 hB1 hB2 hk)
  have HFB := Hid.mk' (frsT_bd d n F S B hd hn1 hn4 hB1 hB2)
  have hB0 : Below w.heap.size w (w.alloc (.cells #[.int .i64 n, .int .i64 d, .int .i64 B, .int .i64 c3, .int .i64 c4, .int .i64 c5, .int .i64 c6, .int .i64 c7] 23)) := (Below.refl _ _).alloc (Nat.le_refl _) _
  have HB0 := Hid.mk' hB0
  clear hB0 hcf
  go_enter Tryz.func89, Tryz.ntmps89
  go_wp2
  go_loopw [7, 8, 9] (fun lv sv kv wr => ∃ k : Nat, ∃ ov : Value, k ≤ nBlk S B ∧ kv = .int .i64 k ∧ ov = lv ∧ sv = .string (bs (frsT d n F S B k)) ∧ Hid (StrI w wr #[.int .i64 n, .int .i64 d, .int .i64 B, .int .i64 c3, .int .i64 c4, .int .i64 c5, .int .i64 c6, .int .i64 c7] ov k (lnL (lnF d n F S B) k))) (fun _ _ kv _ => nBlk S B - (intOf kv).toNat)
  case atStart => exact ⟨0, .slice none 0 0, Nat.zero_le _, rfl, rfl, rfl, Bx.new _ _ _, World.ownsRow_nil _ _ _ _, HB0.out, by simp⟩
  case round =>
    obtain ⟨k, lv, hk, rfl, e, rfl, HR⟩ := hrel
    subst e
    clear HB0
    by_cases hlt : k < nBlk S B
    · obtain ⟨gf, rfl, hgf, hcf⟩ := HCF.out k hlt
      have hcv : wr.cell? ⟨gf, k, none⟩ = some (.string (bs (frT d n F S B k))) := (HR.out.below.cell (p := ⟨gf, k, none⟩) hgf).trans hcf
      have hzf : (bs (frT d n F S B k)).size = lnF d n F S B k := bs_size _
      have hzs : (bs (frsT d n F S B k)).size = (frsT d n F S B k).length := bs_size _
      have hzl := (HLB.out k hlt).2
      have hsl := HFB.out k hk
      have hnb := HNB.out
      have HFS : Hid (bs (frsT d n F S B (k + 1)) = bs (frsT d n F S B k) ++ bs (frT d n F S B k)) := by show _ = _; rw [bs_append]; rfl
      have HLS := Hid.mk' (lnL_snoc (lnF d n F S B) k)
      obtain ⟨g', c', u4, hr, ho, hgr⟩ := app_row 29 3 (.int .i64 0) 8 Tryz.underlying29 infoInt rfl wr _ lv _ _ #[.int .i64 ((lnF d n F S B k : Nat) : Int)] HR.out.own (by simp) (by intro u hu; simp at hu; rw [hu]; rfl) (by simp only [maxLen]; simp; omega) (by simp; omega) HR.out.size 29
      have HE4 := Hid.mk' (HR.out.grew ho hgr)
      have hcv4 : u4.cell? ⟨gf, k, none⟩ = some (.string (bs (frT d n F S B k))) := hgr.cell hcv (fun e => by have := (HR.out.own.lt gf e.symm).1; omega)
      have HAP : Hid (_ = _) := hr
      clear hcf hr ho hgr
      generalize (frsT d n F S B k).length = sl at *
      generalize bs (frsT d n F S B k) = Y at *
      generalize bs (frT d n F S B k) = X at *
      generalize lnF d n F S B k = ln at *
      go_wp2_with (at_builtin; refine wpList_append_rn rfl _ _ _ rfl _ _ _ rfl rfl HAP.out ?_; clear HAP)
      go_roundw
      case rel => exact ⟨k + 1, _, by omega, by go_num, rfl, by rw [HFS.out], by rw [HLS.out]; exact HE4.out⟩
      case measure => simp [intOf]; omega
    · have e : k = nBlk S B := by omega
      subst e
      obtain ⟨b, off, rfl, hcell⟩ := hA.open (by omega)
      have hc0 := hcell 0 (by omega)
      simp only [Nat.add_zero] at hc0
      have hbl : b < w.heap.size := hlow.1 _ rfl (by omega : 0 < n)
      have hS3 := HR.out.cfg.cfS ((HR.out.below.cell (p := ⟨b, off, none⟩) hbl).trans hc0)
      unfold CfS at hS3
      have hn02 : 0 < n := hn1
      have hn03 : (0 : Int) < (n : Int) := by omega
      obtain ⟨hwr, x0, x1, x2, x3, x4, -, -, -, xL⟩ := hS3
      have hbr : b < wr.heap.size := Nat.lt_trans hbl hwr
      obtain ⟨a', cap', hkv, hI', hl'⟩ := lens_open HR.out.own
      subst hkv
      have HI' := Hid.mk' hI'
      have HL' := Hid.mk' hl'
      have HBW := Hid.mk' HR.out.below
      have HFB2 : Hid ((frsT d n F S B (nBlk S B)).length ≤ 66600) := by have h1 := HFB.out (nBlk S B) (Nat.le_refl _); have h2 := HNB.out; show _ ≤ _; omega
      clear hI' hl' HR HCF HFB hA hlow hI hf hcell
      go_wp2_with fail
      go_cut [10] (fun s10 wx => ∃ gi : Nat, s10 = .pointer (some ⟨gi, 0, none⟩) ∧ Hid (Below wr.heap.size wr wx ∧ Bx wx gi 46 #[.int .i64 n, .int .i64 d, .int .i64 B, .int .i64 c3, .int .i64 c4, .int .i64 S]))
      case first =>
        go_region
        go_wp2
        go_meet
        case rel => exact ⟨wr.heap.size, rfl, ((Below.refl _ _).alloc (Nat.le_refl _) _).drew, Bx.new _ _ _⟩
      case rest =>
        obtain ⟨gi, rfl, HC⟩ := hcut
        clear x0 x1 x2 x3 x4 xL hc0 hbr hwr
        have HBC := Hid.mk' (HBW.out.trans (HC.out.1.mono HBW.out.size))
        have hS0 : gi < wc.drew.heap.size ∧ wc.drew.cell? ⟨gi, 0, none⟩ = some (.int .i64 n) ∧ wc.drew.cell? ⟨gi, 1, none⟩ = some (.int .i64 d) ∧ wc.drew.cell? ⟨gi, 2, none⟩ = some (.int .i64 B) ∧ wc.drew.cell? ⟨gi, 3, none⟩ = some (.int .i64 c3) ∧ wc.drew.cell? ⟨gi, 4, none⟩ = some (.int .i64 c4) ∧ wc.drew.cell? ⟨gi, 5, none⟩ = some (.int .i64 S) := ⟨HC.out.2.lt, HC.out.2.cell 0, HC.out.2.cell 1, HC.out.2.cell 2, HC.out.2.cell 3, HC.out.2.cell 4, HC.out.2.cell 5⟩
        have hSA : gi < (wc.alloc (.cells #[.int .i64 0, .int .i64 0, .int .i64 0, .int .i64 0, .int .i64 0, .int .i64 0, .int .i64 0, .int .i64 0, .int .i64 0, .int .i64 0, .slice none 0 0] 123)).drew.heap.size ∧ (wc.alloc (.cells #[.int .i64 0, .int .i64 0, .int .i64 0, .int .i64 0, .int .i64 0, .int .i64 0, .int .i64 0, .int .i64 0, .int .i64 0, .int .i64 0, .slice none 0 0] 123)).drew.cell? ⟨gi, 0, none⟩ = some (.int .i64 n) ∧ (wc.alloc (.cells #[.int .i64 0, .int .i64 0, .int .i64 0, .int .i64 0, .int .i64 0, .int .i64 0, .int .i64 0, .int .i64 0, .int .i64 0, .int .i64 0, .slice none 0 0] 123)).drew.cell? ⟨gi, 1, none⟩ = some (.int .i64 d) ∧ (wc.alloc (.cells #[.int .i64 0, .int .i64 0, .int .i64 0, .int .i64 0, .int .i64 0, .int .i64 0, .int .i64 0, .int .i64 0, .int .i64 0, .int .i64 0, .slice none 0 0] 123)).drew.cell? ⟨gi, 2, none⟩ = some (.int .i64 B) ∧ (wc.alloc (.cells #[.int .i64 0, .int .i64 0, .int .i64 0, .int .i64 0, .int .i64 0, .int .i64 0, .int .i64 0, .int .i64 0, .int .i64 0, .int .i64 0, .slice none 0 0] 123)).drew.cell? ⟨gi, 3, none⟩ = some (.int .i64 c3) ∧ (wc.alloc (.cells #[.int .i64 0, .int .i64 0, .int .i64 0, .int .i64 0, .int .i64 0, .int .i64 0, .int .i64 0, .int .i64 0, .int .i64 0, .int .i64 0, .slice none 0 0] 123)).drew.cell? ⟨gi, 4, none⟩ = some (.int .i64 c4) ∧ (wc.alloc (.cells #[.int .i64 0, .int .i64 0, .int .i64 0, .int .i64 0, .int .i64 0, .int .i64 0, .int .i64 0, .int .i64 0, .int .i64 0, .int .i64 0, .slice none 0 0] 123)).drew.cell? ⟨gi, 5, none⟩ = some (.int .i64 S) := ki_al hS0
        have HZ0 : Hid (Bx (wc.alloc (.cells #[.int .i64 0, .int .i64 0, .int .i64 0, .int .i64 0, .int .i64 0, .int .i64 0, .int .i64 0, .int .i64 0, .int .i64 0, .int .i64 0, .slice none 0 0] 123)).drew wc.heap.size 123 #[.int .i64 0, .int .i64 0, .int .i64 0, .int .i64 0, .int .i64 0, .int .i64 0, .int .i64 0, .int .i64 0, .int .i64 0, .int .i64 0, .slice none 0 0]) := (Bx.new _ _ _ : Bx (wc.alloc (.cells #[.int .i64 0, .int .i64 0, .int .i64 0, .int .i64 0, .int .i64 0, .int .i64 0, .int .i64 0, .int .i64 0, .int .i64 0, .int .i64 0, .slice none 0 0] 123)) wc.heap.size 123 #[.int .i64 0, .int .i64 0, .int .i64 0, .int .i64 0, .int .i64 0, .int .i64 0, .int .i64 0, .int .i64 0, .int .i64 0, .int .i64 0, .slice none 0 0])
        have HICW : Hid (∀ u : World, Below wc.heap.size wc u → IntsAt u a' (nBlk S B) (fun i => ((lnF d n F S B i : Nat) : Int)) ∧ ∀ x, a' = some x → 0 < nBlk S B → x.block < u.heap.size) := fun u hu =>
          have h1 := HC.out.1.trans (hu.mono HC.out.1.size)
          ⟨HI'.out.below h1 HL'.out, fun x hx h0 => Nat.lt_of_lt_of_le (HL'.out x hx h0) h1.size⟩
        have hgi := hS0.1
        clear HI' HL' HC HBW
        go_wp2_with fail
        go_cut [11] (fun s11 wx => ∃ gh : Nat, ∃ a2 : Option Addr, ∃ cp2 : Nat, s11 = .pointer (some ⟨gh, 0, none⟩) ∧ Hid (Below w.heap.size w wx ∧ Bx wx gh 123 #[.int .i64 1, .int .i64 n, .int .i64 d, .int .i64 B, .int .i64 c3, .int .i64 c4, .int .i64 S, .int .i64 (leastN (lnF d n F S B) (nBlk S B) : Nat), .int .i64 (mostN (lnF d n F S B) (nBlk S B) : Nat), .int .i64 (sumN (intT n F (2 * (S * n))) : Nat), .slice a2 (pntN (lnF d n F S B) c4 (nBlk S B)).length cp2] ∧ IntsAt wx a2 (pntN (lnF d n F S B) c4 (nBlk S B)).length (fun i => (((pntN (lnF d n F S B) c4 (nBlk S B)).getD i 0 : Nat) : Int)) ∧ ∀ x, a2 = some x → 0 < (pntN (lnF d n F S B) c4 (nBlk S B)).length → x.block < wx.heap.size))
        case first =>
          go_region_held3 (fun w' => gi < w'.heap.size ∧ w'.cell? ⟨gi, 0, none⟩ = some (.int .i64 n) ∧ w'.cell? ⟨gi, 1, none⟩ = some (.int .i64 d) ∧ w'.cell? ⟨gi, 2, none⟩ = some (.int .i64 B) ∧ w'.cell? ⟨gi, 3, none⟩ = some (.int .i64 c3) ∧ w'.cell? ⟨gi, 4, none⟩ = some (.int .i64 c4) ∧ w'.cell? ⟨gi, 5, none⟩ = some (.int .i64 S))
            (first | with_reducible exact hS0 | with_reducible exact hSA | with_reducible exact hS1 | with_reducible exact ki_al hS1 | with_reducible exact hS3 | with_reducible exact ki_al hS3 | with_reducible exact ki_alst hS3 | with_reducible exact ki_st hne3 hS3)
            (first
            | (go_at_call 99; refine (HIN.out _ ?_).mono ?_; (first | exact HBC.out.drew | exact (HBC.out.alloc HBC.out.size _).drew); rintro e u1 ⟨rfl, hb1⟩; have hS1 : gi < u1.heap.size ∧ u1.cell? ⟨gi, 0, none⟩ = some (.int .i64 n) ∧ u1.cell? ⟨gi, 1, none⟩ = some (.int .i64 d) ∧ u1.cell? ⟨gi, 2, none⟩ = some (.int .i64 B) ∧ u1.cell? ⟨gi, 3, none⟩ = some (.int .i64 c3) ∧ u1.cell? ⟨gi, 4, none⟩ = some (.int .i64 c4) ∧ u1.cell? ⟨gi, 5, none⟩ = some (.int .i64 S) := (by first | exact ki_below hb1 hS0 | exact ki_below hb1 hSA); have HB1 : Hid (Below wc.heap.size wc u1) := (by first | exact (⟨hb1.os, hb1.tape, hb1.output, hb1.size, hb1.block⟩ : Below wc.heap.size wc u1) | exact ((Below.refl wc.heap.size wc).alloc (Nat.le_refl _) _).drew.trans (hb1.mono (by simp))); (first | (have hz1 := HZ0.out.below hb1; have HZ1 := Hid.mk' hz1; clear hz1) | skip))
            | (go_at_call 98; refine (HSU.out _).mono ?_; rintro e u2 ⟨rfl, hw⟩; subst u2)
            | (go_at_call 95; refine (HHF.out _ a' cap' ?_ ?_).mono ?_; (first | exact (HICW.out _ HB1.out).1 | exact (HICW.out _ (HB1.out.alloc HB1.out.size _)).1); (first | exact (HICW.out _ HB1.out).2 | exact (HICW.out _ (HB1.out.alloc HB1.out.size _)).2); rintro e u3 ⟨pv, rfl, hown, hb3⟩; obtain ⟨a2, cp2, rfl, hI2, hl2, hbs⟩ := pnts_open2 hown; have HPV := Hid.mk' (And.intro hI2 hl2); clear hown hI2 hl2; have hS3 : gi < u3.heap.size ∧ u3.cell? ⟨gi, 0, none⟩ = some (.int .i64 n) ∧ u3.cell? ⟨gi, 1, none⟩ = some (.int .i64 d) ∧ u3.cell? ⟨gi, 2, none⟩ = some (.int .i64 B) ∧ u3.cell? ⟨gi, 3, none⟩ = some (.int .i64 c3) ∧ u3.cell? ⟨gi, 4, none⟩ = some (.int .i64 c4) ∧ u3.cell? ⟨gi, 5, none⟩ = some (.int .i64 S) := (by first | exact ki_below hb3 hS1 | exact ki_below hb3 (ki_al hS1)); have HB3 : Hid (Below wc.heap.size wc u3) := (by first | exact HB1.out.trans (hb3.mono HB1.out.size) | exact (HB1.out.alloc HB1.out.size _).trans (hb3.mono (by have := HB1.out.size; simp; omega))); (first | (have hz3 := HZ1.out.below hb3; have hne3 : gi ≠ wc.heap.size := Nat.ne_of_lt hgi; have HNE : Hid (∀ y, a2 = some y → some y.block ≠ some wc.heap.size) := (fun y hy e => by have h1 := hbs y hy; have h2 := HZ1.out.lt; injection e with e; omega); obtain ⟨q0, q1, q2, q3, q4, q5, q6, q7, q8, q9, q10, z0, z1, z2, z3, z4, z5, z6, z7, z8, z9, z10⟩ := ele_of_blk hz3; have HZ3 := Hid.mk' hz3; clear hz3) | (have hz3 := (Bx.new u1 #[.int .i64 0, .int .i64 0, .int .i64 0, .int .i64 0, .int .i64 0, .int .i64 0, .int .i64 0, .int .i64 0, .int .i64 0, .int .i64 0, .slice none 0 0] 123).below hb3; have hne3 : gi ≠ u1.heap.size := Nat.ne_of_lt hS1.1; have HNE : Hid (∀ y, a2 = some y → some y.block ≠ some u1.heap.size) := (fun y hy e => by have h1 := hbs y hy; simp at h1; injection e with e; omega); obtain ⟨q0, q1, q2, q3, q4, q5, q6, q7, q8, q9, q10, z0, z1, z2, z3, z4, z5, z6, z7, z8, z9, z10⟩ := ele_of_blk hz3; have HZ3 := Hid.mk' hz3; clear hz3) | skip)))
          · go_wp2
            go_meet
            case rel => exact ⟨u3.heap.size, a2, cp2, rfl, (HBC.out.trans (HB3.out.mono HBC.out.size)).alloc (Nat.le_trans HBC.out.size HB3.out.size) _, Bx.new _ _ _, HPV.out.1.below ((Below.refl _ _).alloc (Nat.le_refl _) _) HPV.out.2, fun x hx h0 => Nat.lt_of_lt_of_le (HPV.out.2 x hx h0) (by simp)⟩
          all_goals
            go_wp2
            go_meet
            case rel => exact ⟨_, a2, cp2, rfl, (HBC.out.trans (HB3.out.mono HBC.out.size)).grown (set11_grown u3 _ _ _ _ _ _ _ _ _ _ _ _) (Nat.le_trans HBC.out.size HB3.out.size) (fun k hk => by injection hk with hk; rw [← hk]; first | exact HBC.out.size | exact Nat.le_trans HBC.out.size HB1.out.size), HZ3.out.set11 _ _ _ _ _ _ _ _ _ _ _, ints_grew HPV.out.1 (set11_grown u3 _ _ _ _ _ _ _ _ _ _ _ _) HNE.out, fun x hx h0 => Nat.lt_of_lt_of_le (HPV.out.2 x hx h0) (set11_grown u3 _ _ _ _ _ _ _ _ _ _ _ _).size⟩
        case rest =>
          obtain ⟨gh, a2, cp2, rfl, HH⟩ := hcut
          have HTXT := Hid.mk' (HTT.out wc a2 cp2 HH.out.2.2.1 HH.out.2.2.2)
          have HHX := Hid.mk' HH.out.2.1
          have HBH := Hid.mk' HH.out.1
          have hz2 : (bs (frsT d n F S B (nBlk S B))).size ≤ 66600 := by rw [bs_size]; have h1 := HFB2.out; omega
          have HFIN : Hid (bs (headTx 1 n d B c3 S c4 (leastN (lnF d n F S B) (nBlk S B)) (mostN (lnF d n F S B) (nBlk S B)) (sumN (intT n F (2 * (S * n)))) (pntN (lnF d n F S B) c4 (nBlk S B))) ++ bs (frsT d n F S B (nBlk S B)) = bs (streamT d n B c3 c4 F S)) := by show _ = _; rw [bs_append]; rfl
          clear HH HTT HHF HIN HSU HICW HZ0 hS0 hSA
          generalize bs (headTx 1 n d B c3 S c4 (leastN (lnF d n F S B) (nBlk S B)) (mostN (lnF d n F S B) (nBlk S B)) (sumN (intT n F (2 * (S * n)))) (pntN (lnF d n F S B) c4 (nBlk S B))) = X1 at *
          generalize bs (frsT d n F S B (nBlk S B)) = X2 at *
          go_wp2_with (first
            | (refine wpList_loadRow rfl _ 123 rfl gh 123 _ (0, 0) _ rfl HHX.out Tryz.underlying123 rfl infoRHead ?_)
            | (go_at_call 97; refine HTXT.out.mono ?_; rintro e v1 ⟨rfl, hv1⟩; have HV1 := Hid.mk' (HBH.out.trans (hv1.mono HBH.out.size)); clear HTXT hv1))
          go_ret
          exact ⟨by rw [← HFIN.out]; rfl, HV1.out⟩
end Go.Proofs.YtlncjgnomhpjnaaGreatDoor

