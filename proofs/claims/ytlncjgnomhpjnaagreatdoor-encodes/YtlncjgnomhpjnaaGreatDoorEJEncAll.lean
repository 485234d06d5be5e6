import Derived.Test.YtlncjgnomhpjnaaGreatDoorEKEncHead
import Derived.Test.YtlncjgnomhpjnaaGreatDoorEJFrameHead
import Derived.Test.YtlncjgnomhpjnaaGreatDoorEJEncBlock
import Derived.Test.YtlncjgnomhpjnaaGreatDoorEKRefFrame
import Derived.Deep.RegionHeld3
/-
  The configuration in its variable, kept through calls.
-/
namespace Go.Proofs.YtlncjgnomhpjnaaGreatDoor
open Go.RowKit Go.Deep
set_option linter.unusedVariables false

/-- the configuration's cells -/
def cfC (c0 c1 c2 c3 c4 c5 c6 c7 : Int) : Array Value := #[.int .i64 c0, .int .i64 c1, .int .i64 c2, .int .i64 c3, .int .i64 c4, .int .i64 c5, .int .i64 c6, .int .i64 c7]
/-- the configuration and the first list's place -/
def CfS (q b off : Nat) (c0 c1 c2 c3 c4 c5 c6 c7 : Int) (v : Value) (u : World) : Prop :=
  q < u.heap.size ∧ u.cell? ⟨q, 0, none⟩ = some (.int .i64 c0) ∧ u.cell? ⟨q, 1, none⟩ = some (.int .i64 c1) ∧ u.cell? ⟨q, 2, none⟩ = some (.int .i64 c2) ∧ u.cell? ⟨q, 3, none⟩ = some (.int .i64 c3) ∧ u.cell? ⟨q, 4, none⟩ = some (.int .i64 c4) ∧ u.cell? ⟨q, 5, none⟩ = some (.int .i64 c5) ∧ u.cell? ⟨q, 6, none⟩ = some (.int .i64 c6) ∧ u.cell? ⟨q, 7, none⟩ = some (.int .i64 c7) ∧ u.cell? ⟨b, off, none⟩ = some v
theorem keepC {q b off : Nat} {c0 c1 c2 c3 c4 c5 c6 c7 : Int} {v : Value} {u u' : World} (hb : Below u.heap.size u u') (hbl : b < u.heap.size) (h : CfS q b off c0 c1 c2 c3 c4 c5 c6 c7 v u) : CfS q b off c0 c1 c2 c3 c4 c5 c6 c7 v u' :=
  ⟨Nat.lt_of_lt_of_le h.1 hb.size, keep_cell hb h.1 h.2.1, keep_cell hb h.1 h.2.2.1, keep_cell hb h.1 h.2.2.2.1, keep_cell hb h.1 h.2.2.2.2.1, keep_cell hb h.1 h.2.2.2.2.2.1, keep_cell hb h.1 h.2.2.2.2.2.2.1, keep_cell hb h.1 h.2.2.2.2.2.2.2.1, keep_cell hb h.1 h.2.2.2.2.2.2.2.2.1, keep_cell hb hbl h.2.2.2.2.2.2.2.2.2⟩
theorem Bx.cfS {w : World} {q b off : Nat} {c0 c1 c2 c3 c4 c5 c6 c7 : Int} {v : Value} (h : Bx w q 23 #[.int .i64 c0, .int .i64 c1, .int .i64 c2, .int .i64 c3, .int .i64 c4, .int .i64 c5, .int .i64 c6, .int .i64 c7]) (hv : w.cell? ⟨b, off, none⟩ = some v) : CfS q b off c0 c1 c2 c3 c4 c5 c6 c7 v w :=
  ⟨h.lt, h.cell 0, h.cell 1, h.cell 2, h.cell 3, h.cell 4, h.cell 5, h.cell 6, h.cell 7, hv⟩
theorem ks_below {q b off : Nat} {c0 c1 c2 c3 c4 c5 c6 c7 : Int} {v : Value} {u u' : World} (hb : Below u.heap.size u u') (hbl : b < u.heap.size) (h : q < u.heap.size ∧ u.cell? ⟨q, 0, none⟩ = some (.int .i64 c0) ∧ u.cell? ⟨q, 1, none⟩ = some (.int .i64 c1) ∧ u.cell? ⟨q, 2, none⟩ = some (.int .i64 c2) ∧ u.cell? ⟨q, 3, none⟩ = some (.int .i64 c3) ∧ u.cell? ⟨q, 4, none⟩ = some (.int .i64 c4) ∧ u.cell? ⟨q, 5, none⟩ = some (.int .i64 c5) ∧ u.cell? ⟨q, 6, none⟩ = some (.int .i64 c6) ∧ u.cell? ⟨q, 7, none⟩ = some (.int .i64 c7) ∧ u.cell? ⟨b, off, none⟩ = some v) : q < u'.heap.size ∧ u'.cell? ⟨q, 0, none⟩ = some (.int .i64 c0) ∧ u'.cell? ⟨q, 1, none⟩ = some (.int .i64 c1) ∧ u'.cell? ⟨q, 2, none⟩ = some (.int .i64 c2) ∧ u'.cell? ⟨q, 3, none⟩ = some (.int .i64 c3) ∧ u'.cell? ⟨q, 4, none⟩ = some (.int .i64 c4) ∧ u'.cell? ⟨q, 5, none⟩ = some (.int .i64 c5) ∧ u'.cell? ⟨q, 6, none⟩ = some (.int .i64 c6) ∧ u'.cell? ⟨q, 7, none⟩ = some (.int .i64 c7) ∧ u'.cell? ⟨b, off, none⟩ = some v :=
  keepC hb hbl h
theorem ks_al {q b off : Nat} {c0 c1 c2 c3 c4 c5 c6 c7 : Int} {v : Value} {u : World} {o : Obj} (hbl : b < u.heap.size) (h : q < u.heap.size ∧ u.cell? ⟨q, 0, none⟩ = some (.int .i64 c0) ∧ u.cell? ⟨q, 1, none⟩ = some (.int .i64 c1) ∧ u.cell? ⟨q, 2, none⟩ = some (.int .i64 c2) ∧ u.cell? ⟨q, 3, none⟩ = some (.int .i64 c3) ∧ u.cell? ⟨q, 4, none⟩ = some (.int .i64 c4) ∧ u.cell? ⟨q, 5, none⟩ = some (.int .i64 c5) ∧ u.cell? ⟨q, 6, none⟩ = some (.int .i64 c6) ∧ u.cell? ⟨q, 7, none⟩ = some (.int .i64 c7) ∧ u.cell? ⟨b, off, none⟩ = some v) : q < (u.alloc o).heap.size ∧ (u.alloc o).cell? ⟨q, 0, none⟩ = some (.int .i64 c0) ∧ (u.alloc o).cell? ⟨q, 1, none⟩ = some (.int .i64 c1) ∧ (u.alloc o).cell? ⟨q, 2, none⟩ = some (.int .i64 c2) ∧ (u.alloc o).cell? ⟨q, 3, none⟩ = some (.int .i64 c3) ∧ (u.alloc o).cell? ⟨q, 4, none⟩ = some (.int .i64 c4) ∧ (u.alloc o).cell? ⟨q, 5, none⟩ = some (.int .i64 c5) ∧ (u.alloc o).cell? ⟨q, 6, none⟩ = some (.int .i64 c6) ∧ (u.alloc o).cell? ⟨q, 7, none⟩ = some (.int .i64 c7) ∧ (u.alloc o).cell? ⟨b, off, none⟩ = some v :=
  ks_below ((Below.refl _ _).alloc (Nat.le_refl _) _) hbl h
theorem set6_grown (u : World) (g : Nat) (s0 s1 s2 s3 s4 s5 : Value) : u.grownBy ((((((u.setCell ⟨g, 0, none⟩ s0).setCell ⟨g, 1, none⟩ s1).setCell ⟨g, 2, none⟩ s2).setCell ⟨g, 3, none⟩ s3).setCell ⟨g, 4, none⟩ s4).setCell ⟨g, 5, none⟩ s5) (some g) :=
  grown_tr (grown_tr (grown_tr (grown_tr (grown_tr (grown_set u ⟨g, 0, none⟩ s0) (grown_set _ ⟨g, 1, none⟩ s1)) (grown_set _ ⟨g, 2, none⟩ s2)) (grown_set _ ⟨g, 3, none⟩ s3)) (grown_set _ ⟨g, 4, none⟩ s4)) (grown_set _ ⟨g, 5, none⟩ s5)
theorem ks_st {q b off g : Nat} {c0 c1 c2 c3 c4 c5 c6 c7 : Int} {v s0 s1 s2 s3 s4 s5 : Value} {u : World} (hq : q ≠ g) (hbg : b ≠ g) (h : q < u.heap.size ∧ u.cell? ⟨q, 0, none⟩ = some (.int .i64 c0) ∧ u.cell? ⟨q, 1, none⟩ = some (.int .i64 c1) ∧ u.cell? ⟨q, 2, none⟩ = some (.int .i64 c2) ∧ u.cell? ⟨q, 3, none⟩ = some (.int .i64 c3) ∧ u.cell? ⟨q, 4, none⟩ = some (.int .i64 c4) ∧ u.cell? ⟨q, 5, none⟩ = some (.int .i64 c5) ∧ u.cell? ⟨q, 6, none⟩ = some (.int .i64 c6) ∧ u.cell? ⟨q, 7, none⟩ = some (.int .i64 c7) ∧ u.cell? ⟨b, off, none⟩ = some v) : q < ((((((u.setCell ⟨g, 0, none⟩ s0).setCell ⟨g, 1, none⟩ s1).setCell ⟨g, 2, none⟩ s2).setCell ⟨g, 3, none⟩ s3).setCell ⟨g, 4, none⟩ s4).setCell ⟨g, 5, none⟩ s5).heap.size ∧ ((((((u.setCell ⟨g, 0, none⟩ s0).setCell ⟨g, 1, none⟩ s1).setCell ⟨g, 2, none⟩ s2).setCell ⟨g, 3, none⟩ s3).setCell ⟨g, 4, none⟩ s4).setCell ⟨g, 5, none⟩ s5).cell? ⟨q, 0, none⟩ = some (.int .i64 c0) ∧ ((((((u.setCell ⟨g, 0, none⟩ s0).setCell ⟨g, 1, none⟩ s1).setCell ⟨g, 2, none⟩ s2).setCell ⟨g, 3, none⟩ s3).setCell ⟨g, 4, none⟩ s4).setCell ⟨g, 5, none⟩ s5).cell? ⟨q, 1, none⟩ = some (.int .i64 c1) ∧ ((((((u.setCell ⟨g, 0, none⟩ s0).setCell ⟨g, 1, none⟩ s1).setCell ⟨g, 2, none⟩ s2).setCell ⟨g, 3, none⟩ s3).setCell ⟨g, 4, none⟩ s4).setCell ⟨g, 5, none⟩ s5).cell? ⟨q, 2, none⟩ = some (.int .i64 c2) ∧ ((((((u.setCell ⟨g, 0, none⟩ s0).setCell ⟨g, 1, none⟩ s1).setCell ⟨g, 2, none⟩ s2).setCell ⟨g, 3, none⟩ s3).setCell ⟨g, 4, none⟩ s4).setCell ⟨g, 5, none⟩ s5).cell? ⟨q, 3, none⟩ = some (.int .i64 c3) ∧ ((((((u.setCell ⟨g, 0, none⟩ s0).setCell ⟨g, 1, none⟩ s1).setCell ⟨g, 2, none⟩ s2).setCell ⟨g, 3, none⟩ s3).setCell ⟨g, 4, none⟩ s4).setCell ⟨g, 5, none⟩ s5).cell? ⟨q, 4, none⟩ = some (.int .i64 c4) ∧ ((((((u.setCell ⟨g, 0, none⟩ s0).setCell ⟨g, 1, none⟩ s1).setCell ⟨g, 2, none⟩ s2).setCell ⟨g, 3, none⟩ s3).setCell ⟨g, 4, none⟩ s4).setCell ⟨g, 5, none⟩ s5).cell? ⟨q, 5, none⟩ = some (.int .i64 c5) ∧ ((((((u.setCell ⟨g, 0, none⟩ s0).setCell ⟨g, 1, none⟩ s1).setCell ⟨g, 2, none⟩ s2).setCell ⟨g, 3, none⟩ s3).setCell ⟨g, 4, none⟩ s4).setCell ⟨g, 5, none⟩ s5).cell? ⟨q, 6, none⟩ = some (.int .i64 c6) ∧ ((((((u.setCell ⟨g, 0, none⟩ s0).setCell ⟨g, 1, none⟩ s1).setCell ⟨g, 2, none⟩ s2).setCell ⟨g, 3, none⟩ s3).setCell ⟨g, 4, none⟩ s4).setCell ⟨g, 5, none⟩ s5).cell? ⟨q, 7, none⟩ = some (.int .i64 c7) ∧ ((((((u.setCell ⟨g, 0, none⟩ s0).setCell ⟨g, 1, none⟩ s1).setCell ⟨g, 2, none⟩ s2).setCell ⟨g, 3, none⟩ s3).setCell ⟨g, 4, none⟩ s4).setCell ⟨g, 5, none⟩ s5).cell? ⟨b, off, none⟩ = some v := by
  have hg := set6_grown u g s0 s1 s2 s3 s4 s5
  have e1 : ∀ j v, u.cell? ⟨q, j, none⟩ = some v → ((((((u.setCell ⟨g, 0, none⟩ s0).setCell ⟨g, 1, none⟩ s1).setCell ⟨g, 2, none⟩ s2).setCell ⟨g, 3, none⟩ s3).setCell ⟨g, 4, none⟩ s4).setCell ⟨g, 5, none⟩ s5).cell? ⟨q, j, none⟩ = some v := fun j v hv => hg.cell hv (by simpa using hq)
  exact ⟨Nat.lt_of_lt_of_le h.1 hg.size, e1 _ _ h.2.1, e1 _ _ h.2.2.1, e1 _ _ h.2.2.2.1, e1 _ _ h.2.2.2.2.1, e1 _ _ h.2.2.2.2.2.1, e1 _ _ h.2.2.2.2.2.2.1, e1 _ _ h.2.2.2.2.2.2.2.1, e1 _ _ h.2.2.2.2.2.2.2.2.1, hg.cell h.2.2.2.2.2.2.2.2.2 (by simpa using hbg)⟩
theorem set6_below {B g : Nat} {w u : World} {s0 s1 s2 s3 s4 s5 : Value} (h : Below B w u) (hg : B ≤ g) : Below B w ((((((u.setCell ⟨g, 0, none⟩ s0).setCell ⟨g, 1, none⟩ s1).setCell ⟨g, 2, none⟩ s2).setCell ⟨g, 3, none⟩ s3).setCell ⟨g, 4, none⟩ s4).setCell ⟨g, 5, none⟩ s5) :=
  (((((h.setCell (p := ⟨g, 0, none⟩) hg _).setCell (p := ⟨g, 1, none⟩) hg _).setCell (p := ⟨g, 2, none⟩) hg _).setCell (p := ⟨g, 3, none⟩) hg _).setCell (p := ⟨g, 4, none⟩) hg _).setCell (p := ⟨g, 5, none⟩) hg _
theorem Bx.set6 {u : World} {g : Nat} {t : TypeId} {o0 o1 o2 o3 o4 o5 : Value} (h : Bx u g t #[o0, o1, o2, o3, o4, o5]) (s0 s1 s2 s3 s4 s5 : Value) : Bx ((((((u.setCell ⟨g, 0, none⟩ s0).setCell ⟨g, 1, none⟩ s1).setCell ⟨g, 2, none⟩ s2).setCell ⟨g, 3, none⟩ s3).setCell ⟨g, 4, none⟩ s4).setCell ⟨g, 5, none⟩ s5) g t #[s0, s1, s2, s3, s4, s5] := by
  simp [Bx, World.setCell, Array.getElem?_modify, show u.heap[g]? = _ from h]
theorem six_of_blk {u : World} {b : Nat} {o0 o1 o2 o3 o4 o5 : Value} {T : TypeId} (h : Bx u b T #[o0, o1, o2, o3, o4, o5]) :
    u.cell? ⟨b, 0, none⟩ = some o0 ∧ u.cell? ⟨b, 1, none⟩ = some o1 ∧ u.cell? ⟨b, 2, none⟩ = some o2 ∧ u.cell? ⟨b, 3, none⟩ = some o3 ∧ u.cell? ⟨b, 4, none⟩ = some o4 ∧ u.cell? ⟨b, 5, none⟩ = some o5 ∧ u.frozen? ⟨b, 0, none⟩ = false ∧ u.frozen? ⟨b, 1, none⟩ = false ∧ u.frozen? ⟨b, 2, none⟩ = false ∧ u.frozen? ⟨b, 3, none⟩ = false ∧ u.frozen? ⟨b, 4, none⟩ = false ∧ u.frozen? ⟨b, 5, none⟩ = false :=
  ⟨Lib.cell_of_heap h 0, Lib.cell_of_heap h 1, Lib.cell_of_heap h 2, Lib.cell_of_heap h 3, Lib.cell_of_heap h 4, Lib.cell_of_heap h 5, Lib.frozen_of_heap h 0, Lib.frozen_of_heap h 1, Lib.frozen_of_heap h 2, Lib.frozen_of_heap h 3, Lib.frozen_of_heap h 4, Lib.frozen_of_heap h 5⟩
end Go.Proofs.YtlncjgnomhpjnaaGreatDoor

/-
  The document's frames of a sound: reelref.allFrames.
-/
namespace Go.Proofs.YtlncjgnomhpjnaaGreatDoor
open Go.RowKit Go.Deep
set_option linter.unusedVariables false

theorem infoStr : (Tryz.prog.info? 9).map (fun i => (i.zero, i.size, i.bytes)) = some (some (.string ⟨#[]⟩), 1, 16) := by kernel_rfl
/-- the first frames, as cells -/
def frsL (d n : Nat) (F : Nat → Nat → Int) (S B k : Nat) : List Value := (List.range k).map fun j => Value.string (bs (frT d n F S B j))
theorem frsL_snoc (d n : Nat) (F : Nat → Nat → Int) (S B k : Nat) : frsL d n F S B (k + 1) = frsL d n F S B k ++ [Value.string (bs (frT d n F S B k))] := by
  unfold frsL
  rw [List.range_succ, List.map_append]; rfl
structure AllI (w wr : World) (cs : Array Value) (kv : Value) (k : Nat) (ls : List Value) : Prop where
  cfg : Bx wr w.heap.size 23 cs
  own : wr.ownsRow (w.heap.size + 1) 9 1 kv k ls
  below : Below w.heap.size w wr
  size : w.heap.size + 1 ≤ wr.heap.size
theorem AllI.next {w wr u : World} {cs : Array Value} {kv : Value} {k : Nat} {ls : List Value} (h : AllI w wr cs kv k ls) (hb : Below wr.heap.size wr u) : AllI w u cs kv k ls :=
  ⟨h.cfg.below hb, h.own.kept ⟨hb.os, hb.tape, hb.output, hb.size, fun j hj _ => hb.block j hj⟩ (Classical.em _), h.below.trans (hb.mono h.below.size), Nat.le_trans h.size hb.size⟩
theorem AllI.grew {w wr u : World} {cs : Array Value} {kv kv' : Value} {k : Nat} {ls ls' : List Value} (h : AllI w wr cs kv k ls) (ho : u.ownsRow (w.heap.size + 1) 9 1 kv' (k + 1) ls') (hg : wr.grownBy u kv.ownBlock) : AllI w u cs kv' (k + 1) ls' :=
  ⟨h.cfg.of (hg.block _ (by have := h.size; omega) (fun e => by have := (h.own.lt _ e.symm).1; omega)), ho, h.below.grown hg h.below.size (fun j hj => by have := (h.own.lt j hj).1; omega), Nat.le_trans h.size hg.size⟩
theorem own_some {w : World} {base : Nat} {t : TypeId} {v : Value} {n : Nat} {xs : List Value} (h : w.ownsRow base t 1 v n xs) (hn : 1 ≤ n) : ∃ g c, v = .slice (some ⟨g, 0, none⟩) n c := by
  rcases h.2 with ⟨-, h0⟩ | ⟨g, c, cur, e, -⟩
  · omega
  · exact ⟨g, c, e⟩
theorem blkL_get {A : Nat → Option Addr} {C : Nat → Nat} {q m n i : Nat} (hi : i < n) : (blkL A C q m n)[i]? = some (Value.slice (blkA A q i) m (C i - q)) := by
  unfold blkL
  rw [List.getElem?_map, List.getElem?_range hi]; rfl

set_option maxRecDepth 4000 in
set_option maxHeartbeats 2000000 in
theorem allFrames_any (c3 c4 c5 c6 c7 : Int) (d B : Nat) (a : Option Addr) (n cap : Nat) (A : Nat → Option Addr) (S : Nat) (C : Nat → Nat) (F : Nat → Nat → Int) (w : World) (hd1 : 1 ≤ d) (hd : d ≤ 12) (hn1 : 1 ≤ n) (hn4 : n ≤ 4) (hB1 : 1 ≤ B) (hB2 : B ≤ 32) (hS : S ≤ 300)
    (hf : ∀ i, i < n → ∀ j, j < S → fitsB d (F i j) = true) (hA : ListsAt w a n A (fun _ => S) C) (hC : ∀ i, i < n → S ≤ C i) (hI : ∀ i, i < n → IntsAt w (A i) S (F i)) (hlow : Low w.heap.size a n A (fun _ => S)) (hT : TabAt w 3) (hTl : 3 < w.heap.size) :
    Calls Tryz.prog 88 #[.agg #[.int .i64 n, .int .i64 d, .int .i64 B, .int .i64 c3, .int .i64 c4, .int .i64 c5, .int .i64 c6, .int .i64 c7], .slice a n cap] w fun e w' =>
      ∃ kv, e = .returned kv ∧ w'.ownsRow w.heap.size 9 1 kv (nBlk S B) (frsL d n F S B (nBlk S B)) ∧ Below w.heap.size w w' := by
  have HSL := Hid.mk' (fun (u : World) (hu : Below w.heap.size w u) k (hk : k < nBlk S B) => rslice_any a n cap A S C F B k u hn1 hn4 hB1 hB2 hS hk (hA.below hu hlow.1) hC (fun i hi => (hI i hi).below hu (hlow.2 i hi)) ⟨fun x hx h0 => Nat.lt_of_lt_of_le (hlow.1 x hx h0) hu.size, fun i hi x hx h0 => Nat.lt_of_lt_of_le (hlow.2 i hi x hx h0) hu.size⟩)
  have HFR := Hid.mk' (fun (u : World) (hu : Below w.heap.size w u) (k g c : Nat) (hk : k < nBlk S B) (hg : u.ownsRow w.heap.size 29 1 (.slice (some ⟨g, 0, none⟩) n c) n (blkL A C (k * B) (blkN S B k) n)) =>
    have hbd := blkN_bd hB1 hk
    rframe_any B c3 c4 c5 c6 c7 d k g 0 n c (blkA A (k * B)) (blkN S B k) (fun i => C i - k * B) (blkF F B k) u hd1 hd hn1 hn4 hbd.1 (by omega) (by have := nBlk_le (S := S) hB1; omega)
      (fun i hi j hj => hf i hi (k * B + j) (by omega)) (fun i hi => by
        have := hg.cells (g := g) rfl i _ (blkL_get hi)
        rw [Addr.add_lit] at this; exact this) ((hg.lt g rfl).2) (fun i hi => ints_cut ((hI i hi).below hu (hlow.2 i hi)) (by omega)) (fun i hi x hx h0 => by
        have h1 := ints_addr (hI i hi) (by omega)
        have h2 := hlow.2 i hi _ h1 (by show 0 < S; omega)
        cases hx
        exact Nat.lt_of_lt_of_le h2 hu.size) (fun r c hr hc => (hu.cell (p := ⟨3, 4 * r + c, none⟩) hTl).trans (hT r c hr hc)) (Nat.lt_of_lt_of_le hTl hu.size))
  have HNL : Hid (∀ k, k < nBlk S B ↔ k * B < S) := fun k => nBlk_lt hB1
  have HNB := Hid.mk' (nBlk_le (S := S) hB1)
  obtain ⟨b, off, rfl, hcell⟩ := hA.open (by omega)
  have hc0 := hcell 0 (by omega)
  simp only [Nat.add_zero] at hc0
  have hbl : b < w.heap.size := hlow.1 _ rfl (by omega : 0 < n)
  have hn02 : 0 < n := hn1
  have hn03 : (0 : Int) < (n : Int) := by omega
  clear hf hA hC hI hlow hT hcell
  go_enter Tryz.func88, Tryz.ntmps88
  go_wp2
  go_loopw [5, 6, 7] (fun ov kv _ wr => ∃ k : Nat, ∃ lv : Value, k ≤ nBlk S B ∧ kv = .int .i64 k ∧ lv = ov ∧ Hid (AllI w wr #[.int .i64 n, .int .i64 d, .int .i64 B, .int .i64 c3, .int .i64 c4, .int .i64 c5, .int .i64 c6, .int .i64 c7] lv k (frsL d n F S B k))) (fun _ kv _ _ => nBlk S B - (intOf kv).toNat)
  case atStart => exact ⟨0, .slice none 0 0, Nat.zero_le _, rfl, rfl, Bx.new _ _ _, World.ownsRow_nil _ _ _ _, (Below.refl _ _).alloc (Nat.le_refl _) _, by simp⟩
  case round =>
    obtain ⟨k, lv, hk, rfl, e, HR⟩ := hrel
    subst e
    have HBW := Hid.mk' HR.out.below
    have hS3 := HR.out.cfg.cfS ((HR.out.below.cell (p := ⟨b, off, none⟩) hbl).trans hc0)
    unfold CfS at hS3
    have hkb : k * B ≤ 9600 := by
      have h1 : k * B ≤ 300 * 32 := Nat.mul_le_mul (by have := HNB.out; omega) hB2
      omega
    have e1 : (k : Int) * (B : Int) = ((k * B : Nat) : Int) := by simp
    have w1 : IntKind.i64.wrap ((k : Int) * (B : Int)) = ((k * B : Nat) : Int) := by rw [IntKind.wrap_i64, e1]; omega
    clear e1
    by_cases hlt : k < nBlk S B
    · have hq := (HNL.out k).1 hlt
      have HSL1 := Hid.mk' (fun (u : World) (hu : Below w.heap.size w u) => HSL.out u hu k hlt)
      have HFR1 : Hid (∀ (u : World) (hu : Below w.heap.size w u) (g c : Nat) (hg : u.ownsRow w.heap.size 29 1 (.slice (some ⟨g, 0, none⟩) n c) n (blkL A C (k * B) (blkN S B k) n)), Calls Tryz.prog 71 #[.agg #[.int .i64 n, .int .i64 d, .int .i64 B, .int .i64 c3, .int .i64 c4, .int .i64 c5, .int .i64 c6, .int .i64 c7], .int .i64 k, .slice (some ⟨g, 0, none⟩) n c] u fun e w' => e = .returned (.string (bs (frT d n F S B k))) ∧ Below u.heap.size u w') := fun u hu g c hg => HFR.out u hu k g c hlt hg
      have hbr : b < wr.heap.size := Nat.lt_of_lt_of_le hbl HBW.out.size
      have HFL := Hid.mk' (frsL_snoc d n F S B k)
      have hnb := HNB.out
      generalize bs (frT d n F S B k) = X at *
      generalize blkN S B k = m at *
      generalize k * B = q at *
      have tq : decide ((q : Int) < (S : Int)) = true := decide_eq_true (by omega)
      have hSa := hS3
      obtain ⟨-, -, -, xB, -, -, -, -, -, xL⟩ := hS3
      go_wp2_with fail
      go_region
      clear xB xL
      have hS4 : w.heap.size < wr.drew.drew.heap.size ∧ wr.drew.drew.cell? ⟨w.heap.size, 0, none⟩ = some (.int .i64 n) ∧ wr.drew.drew.cell? ⟨w.heap.size, 1, none⟩ = some (.int .i64 d) ∧ wr.drew.drew.cell? ⟨w.heap.size, 2, none⟩ = some (.int .i64 B) ∧ wr.drew.drew.cell? ⟨w.heap.size, 3, none⟩ = some (.int .i64 c3) ∧ wr.drew.drew.cell? ⟨w.heap.size, 4, none⟩ = some (.int .i64 c4) ∧ wr.drew.drew.cell? ⟨w.heap.size, 5, none⟩ = some (.int .i64 c5) ∧ wr.drew.drew.cell? ⟨w.heap.size, 6, none⟩ = some (.int .i64 c6) ∧ wr.drew.drew.cell? ⟨w.heap.size, 7, none⟩ = some (.int .i64 c7) ∧ wr.drew.drew.cell? ⟨b, off, none⟩ = some (.slice (A 0) S (C 0)) := hSa
      clear hSa
      go_wp2_with fail
      go_region_held3 (fun w' => w.heap.size < w'.heap.size ∧ w'.cell? ⟨w.heap.size, 0, none⟩ = some (.int .i64 n) ∧ w'.cell? ⟨w.heap.size, 1, none⟩ = some (.int .i64 d) ∧ w'.cell? ⟨w.heap.size, 2, none⟩ = some (.int .i64 B) ∧ w'.cell? ⟨w.heap.size, 3, none⟩ = some (.int .i64 c3) ∧ w'.cell? ⟨w.heap.size, 4, none⟩ = some (.int .i64 c4) ∧ w'.cell? ⟨w.heap.size, 5, none⟩ = some (.int .i64 c5) ∧ w'.cell? ⟨w.heap.size, 6, none⟩ = some (.int .i64 c6) ∧ w'.cell? ⟨w.heap.size, 7, none⟩ = some (.int .i64 c7) ∧ w'.cell? ⟨b, off, none⟩ = some (.slice (A 0) S (C 0)))
        (with_reducible assumption)
        (first
        | (go_at_call 132; refine (HSL1.out _ HBW.out.drew.drew).mono ?_; rintro e u1 ⟨kv, rfl, hown, hb1⟩; obtain ⟨gs, cs, rfl⟩ := own_some hown hn1; have HOW := Hid.mk' (owns_mono hown (HBW.out.size)); have hS5 := ks_below hb1 hbr hS4; have HB1 : Hid (Below wr.heap.size wr u1) := (⟨hb1.os, hb1.tape, hb1.output, hb1.size, hb1.block⟩ : Below wr.heap.size wr u1); have hbr1 := Nat.lt_of_lt_of_le hbr HB1.out.size; clear HSL1 hS4 hown hb1)
        | (go_at_call 71; refine (HFR1.out _ (HBW.out.trans (HB1.out.mono HBW.out.size)) _ _ HOW.out).mono ?_; rintro e u2 ⟨rfl, hb2⟩; have hS6 := ks_below hb2 hbr1 hS5; have HB2 : Hid (Below wr.heap.size wr u2) := HB1.out.trans (hb2.mono HB1.out.size); clear HFR1 hS5 hb2 HB1 HOW))
      have hA2 := HR.out.next HB2.out
      obtain ⟨g', c', u3, hr, ho, hgr⟩ := app_row 109 9 (.string ⟨#[]⟩) 16 Tryz.underlying109 infoStr rfl u2 _ lv _ _ #[.string X] hA2.own (by simp) (by intro u hu; simp at hu; rw [hu]; rfl) (by simp only [maxLen]; simp; omega) (by simp; omega) hA2.size 109
      have HA3 := Hid.mk' (hA2.grew ho hgr)
      have HAP : Hid (_ = _) := hr
      clear hA2 hr ho hgr hS6
      go_wp2_with (at_builtin; refine wpList_append_rn rfl _ _ _ rfl _ _ _ rfl rfl HAP.out ?_; clear HAP)
      go_roundw
      case rel => exact ⟨k + 1, _, by omega, by go_num, rfl, by rw [HFL.out]; exact HA3.out⟩
      case measure => simp [intOf]; omega
    · have e : k = nBlk S B := by omega
      subst e
      have hq : ¬ nBlk S B * B < S := fun h => hlt ((HNL.out _).2 h)
      have HO := Hid.mk' (owns_mono HR.out.own (Nat.le_succ _))
      generalize nBlk S B * B = q at *
      have tq : decide ((q : Int) < (S : Int)) = false := decide_eq_false (by omega)
      obtain ⟨-, -, -, xB, -, -, -, -, -, xL⟩ := hS3
      go_wp2_with fail
      go_region
      go_wp2
      go_ret
      exact ⟨lv, rfl, HO.out, HBW.out.drew⟩
end Go.Proofs.YtlncjgnomhpjnaaGreatDoor

