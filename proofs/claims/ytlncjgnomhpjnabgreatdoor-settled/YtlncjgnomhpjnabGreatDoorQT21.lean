import Derived.Test.YtlncjgnomhpjnabGreatDoorQT19
import Derived.Test.YtlncjgnomhpjnabGreatDoorQT18
import Derived.Ground.NamesProg
import Derived.Shelf.Lay
import Derived.Shelf.Strings.OnBuilder
import Derived.Test.YtlncjgnomhpjnabGreatDoorQT20
import Derived.Deep.RegionHeld3
import Derived.Deep.DeepCutAuto
import Derived.Test.YtlncjgnomhpjnabGreatDoorQT16
/-
  The configuration in its variable, kept through calls.
-/
namespace Go.Proofs.YtlncjgnomhpjnabGreatDoor
open Go.RowKit Go.Deep
set_option linter.unusedVariables false
/-- the configuration's cells -/
def cfC (c0 c1 c2 c3 c4 c5 c6 c7 : Int) : Array Value := #[.int .i64 c0, .int .i64 c1, .int .i64 c2, .int .i64 c3, .int .i64 c4, .int .i64 c5, .int .i64 c6, .int .i64 c7]
/-- the configuration and the first list's place -/
def CfS (q b off : Nat) (c0 c1 c2 c3 c4 c5 c6 c7 : Int) (v : Value) (u : World) : Prop :=
  q < u.heap.size ∧ u.cell? ⟨q, 0, none⟩ = some (.int .i64 c0) ∧ u.cell? ⟨q, 1, none⟩ = some (.int .i64 c1) ∧ u.cell? ⟨q, 2, none⟩ = some (.int .i64 c2) ∧ u.cell? ⟨q, 3, none⟩ = some (.int .i64 c3) ∧ u.cell? ⟨q, 4, none⟩ = some (.int .i64 c4) ∧ u.cell? ⟨q, 5, none⟩ = some (.int .i64 c5) ∧ u.cell? ⟨q, 6, none⟩ = some (.int .i64 c6) ∧ u.cell? ⟨q, 7, none⟩ = some (.int .i64 c7) ∧ u.cell? ⟨b, off, none⟩ = some v
theorem keepC {q b off : Nat} {c0 c1 c2 c3 c4 c5 c6 c7 : Int} {v : Value} {u u' : World} (hb : Below u.heap.size u u') (hbl : b < u.heap.size) (h : CfS q b off c0 c1 c2 c3 c4 c5 c6 c7 v u) : CfS q b off c0 c1 c2 c3 c4 c5 c6 c7 v u' :=
  ⟨Nat.lt_of_lt_of_le h.1 hb.size, keep_cell hb h.1 h.2.1, keep_cell hb h.1 h.2.2.1, keep_cell hb h.1 h.2.2.2.1, keep_cell hb h.1 h.2.2.2.2.1, keep_cell hb h.1 h.2.2.2.2.2.1, keep_cell hb h.1 h.2.2.2.2.2.2.1, keep_cell hb h.1 h.2.2.2.2.2.2.2.1, keep_cell hb h.1 h.2.2.2.2.2.2.2.2.1, keep_cell hb hbl h.2.2.2.2.2.2.2.2.2⟩
theorem Bx.cfS {w : World} {q b off : Nat} {c0 c1 c2 c3 c4 c5 c6 c7 : Int} {v : Value} (h : Bx w q 23 #[.int .i64 c0, .int .i64 c1, .int .i64 c2, .int .i64 c3, .int .i64 c4, .int .i64 c5, .int .i64 c6, .int .i64 c7]) (hv : w.cell? ⟨b, off, none⟩ = some v) : CfS q b off c0 c1 c2 c3 c4 c5 c6 c7 v w :=
  ⟨h.lt, h.cell 0, h.cell 1, h.cell 2, h.cell 3, h.cell 4, h.cell 5, h.cell 6, h.cell 7, hv⟩
theorem ks_below {q b off : Nat} {c0 c1 c2 c3 c4 c5 c6 c7 : Int} {v : Value} {u u' : World} (hb : Below u.heap.size u u') (hbl : b < u.heap.size) (h : q < u.heap.size ∧ u.cell? ⟨q, 0, none⟩ = some (.int .i64 c0) ∧ u.cell? ⟨q, 1, none⟩ = some (.int .i64 c1) ∧ u.cell? ⟨q, 2, none⟩ = some (.int .i64 c2) ∧ u.cell? ⟨q, 3, none⟩ = some (.int .i64 c3) ∧ u.cell? ⟨q, 4, none⟩ = some (.int .i64 c4) ∧ u.cell? ⟨q, 5, none⟩ = some (.int .i64 c5) ∧ u.cell? ⟨q, 6, none⟩ = some (.int .i64 c6) ∧ u.cell? ⟨q, 7, none⟩ = some (.int .i64 c7) ∧ u.cell? ⟨b, off, none⟩ = some v) : q < u'.heap.size ∧ u'.cell? ⟨q, 0, none⟩ = some (.int .i64 c0) ∧ u'.cell? ⟨q, 1, none⟩ = some (.int .i64 c1) ∧ u'.cell? ⟨q, 2, none⟩ = some (.int .i64 c2) ∧ u'.cell? ⟨q, 3, none⟩ = some (.int .i64 c3) ∧ u'.cell? ⟨q, 4, none⟩ = some (.int .i64 c4) ∧ u'.cell? ⟨q, 5, none⟩ = some (.int .i64 c5) ∧ u'.cell? ⟨q, 6, none⟩ = some (.int .i64 c6) ∧ u'.cell? ⟨q, 7, none⟩ = some (.int .i64 c7) ∧ u'.cell? ⟨b, off, none⟩ = some v :=
  keepC hb hbl h
theorem ks_al {q b off : Nat} {c0 c1 c2 c3 c4 c5 c6 c7 : Int} {v : Value} {u : World} {o : Obj} (hbl : b < u.heap.size) (h : q < u.heap.size ∧ u.cell? ⟨q, 0, none⟩ = some (.int .i64 c0) ∧ u.cell? ⟨q, 1, none⟩ = some (.int .i64 c1) ∧ u.cell? ⟨q, 2, none⟩ = some (.int .i64 c2) ∧ u.cell? ⟨q, 3, none⟩ = some (.int .i64 c3) ∧ u.cell? ⟨q, 4, none⟩ = some (.int .i64 c4) ∧ u.cell? ⟨q, 5, none⟩ = some (.int .i64 c5) ∧ u.cell? ⟨q, 6, none⟩ = some (.int .i64 c6) ∧ u.cell? ⟨q, 7, none⟩ = some (.int .i64 c7) ∧ u.cell? ⟨b, off, none⟩ = some v) : q < (u.alloc o).heap.size ∧ (u.alloc o).cell? ⟨q, 0, none⟩ = some (.int .i64 c0) ∧ (u.alloc o).cell? ⟨q, 1, none⟩ = some (.int .i64 c1) ∧ (u.alloc o).cell? ⟨q, 2, none⟩ = some (.int .i64 c2) ∧ (u.alloc o).cell? ⟨q, 3, none⟩ = some (.int .i64 c3) ∧ (u.alloc o).cell? ⟨q, 4, none⟩ = some (.int .i64 c4) ∧ (u.alloc o).cell? ⟨q, 5, none⟩ = some (.int .i64 c5) ∧ (u.alloc o).cell? ⟨q, 6, none⟩ = some (.int .i64 c6) ∧ (u.alloc o).cell? ⟨q, 7, none⟩ = some (.int .i64 c7) ∧ (u.alloc o).cell? ⟨b, off, none⟩ = some v :=
  ks_below ((Below.refl _ _).alloc (Nat.le_refl _) _) hbl h
theorem set6_grown (u : World) (g : Nat) (s0 s1 s2 s3 s4 s5 : Value) : u.grownBy ((((((u.setCell ⟨g, 0, none⟩ s0).setCell ⟨g, 1, none⟩ s1).setCell ⟨g, 2, none⟩ s2).setCell ⟨g, 3, none⟩ s3).setCell ⟨g, 4, none⟩ s4).setCell ⟨g, 5, none⟩ s5) (some g) :=
  grown_tr (grown_tr (grown_tr (grown_tr (grown_tr (grown_set u ⟨g, 0, none⟩ s0) (grown_set _ ⟨g, 1, none⟩ s1)) (grown_set _ ⟨g, 2, none⟩ s2)) (grown_set _ ⟨g, 3, none⟩ s3)) (grown_set _ ⟨g, 4, none⟩ s4)) (grown_set _ ⟨g, 5, none⟩ s5)
theorem ks_st {q b off g : Nat} {c0 c1 c2 c3 c4 c5 c6 c7 : Int} {v s0 s1 s2 s3 s4 s5 : Value} {u : World} (hq : q ≠ g) (hbg : b ≠ g) (h : q < u.heap.size ∧ u.cell? ⟨q, 0, none⟩ = some (.int .i64 c0) ∧ u.cell? ⟨q, 1, none⟩ = some (.int .i64 c1) ∧ u.cell? ⟨q, 2, none⟩ = some (.int .i64 c2) ∧ u.cell? ⟨q, 3, none⟩ = some (.int .i64 c3) ∧ u.cell? ⟨q, 4, none⟩ = some (.int .i64 c4) ∧ u.cell? ⟨q, 5, none⟩ = some (.int .i64 c5) ∧ u.cell? ⟨q, 6, none⟩ = some (.int .i64 c6) ∧ u.cell? ⟨q, 7, none⟩ = some (.int .i64 c7) ∧ u.cell? ⟨b, off, none⟩ = some v) : q < ((((((u.setCell ⟨g, 0, none⟩ s0).setCell ⟨g, 1, none⟩ s1).setCell ⟨g, 2, none⟩ s2).setCell ⟨g, 3, none⟩ s3).setCell ⟨g, 4, none⟩ s4).setCell ⟨g, 5, none⟩ s5).heap.size ∧ ((((((u.setCell ⟨g, 0, none⟩ s0).setCell ⟨g, 1, none⟩ s1).setCell ⟨g, 2, none⟩ s2).setCell ⟨g, 3, none⟩ s3).setCell ⟨g, 4, none⟩ s4).setCell ⟨g, 5, none⟩ s5).cell? ⟨q, 0, none⟩ = some (.int .i64 c0) ∧ ((((((u.setCell ⟨g, 0, none⟩ s0).setCell ⟨g, 1, none⟩ s1).setCell ⟨g, 2, none⟩ s2).setCell ⟨g, 3, none⟩ s3).setCell ⟨g, 4, none⟩ s4).setCell ⟨g, 5, none⟩ s5).cell? ⟨q, 1, none⟩ = some (.int .i64 c1) ∧ ((((((u.setCell ⟨g, 0, none⟩ s0).setCell ⟨g, 1, none⟩ s1).setCell ⟨g, 2, none⟩ s2).setCell ⟨g, 3, none⟩ s3).setCell ⟨g, 4, none⟩ s4).setCell ⟨g, 5, none⟩ s5).cell? ⟨q, 2, none⟩ = some (.int .i64 c2) ∧ ((((((u.setCell ⟨g, 0, none⟩ s0).setCell ⟨g, 1, none⟩ s1).setCell ⟨g, 2, none⟩ s2).setCell ⟨g, 3, none⟩ s3).setCell ⟨g, 4, none⟩ s4).setCell ⟨g, 5, none⟩ s5).cell? ⟨q, 3, none⟩ = some (.int .i64 c3) ∧ ((((((u.setCell ⟨g, 0, none⟩ s0).setCell ⟨g, 1, none⟩ s1).setCell ⟨g, 2, none⟩ s2).setCell ⟨g, 3, none⟩ s3).setCell ⟨g, 4, none⟩ s4).setCell ⟨g, 5, none⟩ s5).cell? ⟨q, 4, none⟩ = some (.int .i64 c4) ∧ ((((((u.setCell ⟨g, 0, none⟩ s0).setCell ⟨g, 1, none⟩ s1).setCell ⟨g, 2, none⟩ s2).setCell ⟨g, 3, none⟩ s3).setCell ⟨g, 4, none⟩ s4).setCell ⟨g, 5, none⟩ s5).cell? ⟨q, 5, none⟩ = some (.int .i64 c5) ∧ ((((((u.setCell ⟨g, 0, none⟩ s0).setCell ⟨g, 1, none⟩ s1).setCell ⟨g, 2, none⟩ s2).setCell ⟨g, 3, none⟩ s3).setCell ⟨g, 4, none⟩ s4).setCell ⟨g, 5, none⟩ s5).cell? ⟨q, 6, none⟩ = some (.int .i64 c6) ∧ ((((((u.setCell ⟨g, 0, none⟩ s0).setCell ⟨g, 1, none⟩ s1).setCell ⟨g, 2, none⟩ s2).setCell ⟨g, 3, none⟩ s3).setCell ⟨g, 4, none⟩ s4).setCell ⟨g, 5, none⟩ s5).cell? ⟨q, 7, none⟩ = some (.int .i64 c7) ∧ ((((((u.setCell ⟨g, 0, none⟩ s0).setCell ⟨g, 1, none⟩ s1).setCell ⟨g, 2, none⟩ s2).setCell ⟨g, 3, none⟩ s3).setCell ⟨g, 4, none⟩ s4).setCell ⟨g, 5, none⟩ s5).cell? ⟨b, off, none⟩ = some v := by
  have hg := set6_grown u g s0 s1 s2 s3 s4 s5
  have e1 : ∀ j v, u.cell? ⟨q, j, none⟩ = some v → ((((((u.setCell ⟨g, 0, none⟩ s0).setCell ⟨g, 1, none⟩ s1).setCell ⟨g, 2, none⟩ s2).setCell ⟨g, 3, none⟩ s3).setCell ⟨g, 4, none⟩ s4).setCell ⟨g, 5, none⟩ s5).cell? ⟨q, j, none⟩ = some v := fun j v hv => hg.cell hv (by simpa using hq)
  exact ⟨Nat.lt_of_lt_of_le h.1 hg.size, e1 _ _ h.2.1, e1 _ _ h.2.2.1, e1 _ _ h.2.2.2.1, e1 _ _ h.2.2.2.2.1, e1 _ _ h.2.2.2.2.2.1, e1 _ _ h.2.2.2.2.2.2.1, e1 _ _ h.2.2.2.2.2.2.2.1, e1 _ _ h.2.2.2.2.2.2.2.2.1, hg.cell h.2.2.2.2.2.2.2.2.2 (by simpa using hbg)⟩
theorem set6_below {B g : Nat} {w u : World} {s0 s1 s2 s3 s4 s5 : Value} (h : Below B w u) (hg : B ≤ g) : Below B w ((((((u.setCell ⟨g, 0, none⟩ s0).setCell ⟨g, 1, none⟩ s1).setCell ⟨g, 2, none⟩ s2).setCell ⟨g, 3, none⟩ s3).setCell ⟨g, 4, none⟩ s4).setCell ⟨g, 5, none⟩ s5) :=
  (((((h.setCell (p := ⟨g, 0, none⟩) hg _).setCell (p := ⟨g, 1, none⟩) hg _).setCell (p := ⟨g, 2, none⟩) hg _).setCell (p := ⟨g, 3, none⟩) hg _).setCell (p := ⟨g, 4, none⟩) hg _).setCell (p := ⟨g, 5, none⟩) hg _
theorem Bx.set6 {u : World} {g : Nat} {t : TypeId} {o0 o1 o2 o3 o4 o5 : Value} (h : Bx u g t #[o0, o1, o2, o3, o4, o5]) (s0 s1 s2 s3 s4 s5 : Value) : Bx ((((((u.setCell ⟨g, 0, none⟩ s0).setCell ⟨g, 1, none⟩ s1).setCell ⟨g, 2, none⟩ s2).setCell ⟨g, 3, none⟩ s3).setCell ⟨g, 4, none⟩ s4).setCell ⟨g, 5, none⟩ s5) g t #[s0, s1, s2, s3, s4, s5] := by
  simp [Bx, World.setCell, Array.getElem?_modify, show u.heap[g]? = _ from h]
theorem six_of_blk {u : World} {b : Nat} {o0 o1 o2 o3 o4 o5 : Value} {T : TypeId} (h : Bx u b T #[o0, o1, o2, o3, o4, o5]) :
    u.cell? ⟨b, 0, none⟩ = some o0 ∧ u.cell? ⟨b, 1, none⟩ = some o1 ∧ u.cell? ⟨b, 2, none⟩ = some o2 ∧ u.cell? ⟨b, 3, none⟩ = some o3 ∧ u.cell? ⟨b, 4, none⟩ = some o4 ∧ u.cell? ⟨b, 5, none⟩ = some o5 ∧ u.frozen? ⟨b, 0, none⟩ = false ∧ u.frozen? ⟨b, 1, none⟩ = false ∧ u.frozen? ⟨b, 2, none⟩ = false ∧ u.frozen? ⟨b, 3, none⟩ = false ∧ u.frozen? ⟨b, 4, none⟩ = false ∧ u.frozen? ⟨b, 5, none⟩ = false :=
  ⟨Lib.cell_of_heap h 0, Lib.cell_of_heap h 1, Lib.cell_of_heap h 2, Lib.cell_of_heap h 3, Lib.cell_of_heap h 4, Lib.cell_of_heap h 5, Lib.frozen_of_heap h 0, Lib.frozen_of_heap h 1, Lib.frozen_of_heap h 2, Lib.frozen_of_heap h 3, Lib.frozen_of_heap h 4, Lib.frozen_of_heap h 5⟩
end Go.Proofs.YtlncjgnomhpjnabGreatDoor

/-
  strings.Join, off the shelf, at this dump.
-/
namespace Go.Proofs.YtlncjgnomhpjnabGreatDoor
open Go.Shelf Go.RowKit Go.Deep
set_option linter.unusedVariables false
shelf_lay Lays.n156 Nm 156 at Tryz as layJoin
set_option maxRecDepth 100000 in
theorem joinExtra : Builder.Extra Tryz.prog layJoin_ren where
  sizeBuilder := by kernel_rfl
  liesBuilder := by kernel_rfl
  t5 := by kernel_rfl
  a5 := fun w => by exact Tryz.isAgg5 w
  z5 := Tryz.sizeOf5
  v5 := Tryz.zeroValue5
  infoByte := by kernel_rfl
  cellsByte := by kernel_rfl
  sizeByte := by kernel_rfl
  neB5 := by decide
theorem joinNum : layJoin_ren.f 156 = 130 := by kernel_rfl
/-- the first texts, one behind the other -/
def catT (X : Nat → List UInt8) : Nat → List UInt8
  | 0 => []
  | k + 1 => catT X k ++ X k
theorem catT_flat (X : Nat → List UInt8) : ∀ k, catT X k = ((List.range k).map X).flatten
  | 0 => rfl
  | k + 1 => by rw [catT, catT_flat X k, List.range_succ]; simp
theorem join_flat : ∀ (l : List (List UInt8)), Lib.join l [] = l.flatten
  | [] => rfl
  | x :: r => by
    rw [Lib.join_cons]
    simp [Lib.joinTail]
/-- the first texts, as cells -/
def strL (X : Nat → List UInt8) (k : Nat) : List Value := (List.range k).map fun j => Value.string (bs (X j))
theorem strL_snoc (X : Nat → List UInt8) (k : Nat) : strL X (k + 1) = strL X k ++ [Value.string (bs (X k))] := by
  unfold strL
  rw [List.range_succ, List.map_append]; rfl
theorem strL_get (X : Nat → List UInt8) (k i : Nat) (h : i < k) : (strL X k)[i]? = some (Value.string (bs (X i))) := by
  unfold strL
  rw [List.getElem?_map, List.getElem?_range h]; rfl
theorem join_any (X : Nat → List UInt8) (N base : Nat) (kv : Value) (w : World) (h : w.ownsRow base 9 1 kv N (strL X N)) (hN : N ≤ 100000) (hl : (catT X N).length ≤ 10000000) :
    Calls Tryz.prog 130 #[kv, .string ⟨#[]⟩] w fun e w' => e = .returned (.string (bs (catT X N))) ∧ Below w.heap.size w w' := by
  rcases h.2 with ⟨rfl, rfl⟩ | ⟨g, cap, cur, rfl, hg, hbk, hcap, -⟩
  · have := Any.strings_Join_none layJoin joinExtra none 0 ⟨#[]⟩ w
    rw [joinNum] at this
    exact this.mono fun e w' ⟨he, hw⟩ => ⟨he, hw ▸ Below.refl _ _⟩
  · have hc : ∀ (j : Nat) x, ((List.range N).map fun i => bs (X i))[j]? = some x → w.cell? ⟨g, 0 + j, none⟩ = some (.string x) := fun j x hx => by
      rw [List.getElem?_map] at hx
      rcases Nat.lt_or_ge j N with hj | hj
      · rw [List.getElem?_range hj] at hx
        injection hx with hx
        have := h.cells (g := g) rfl j _ (strL_get X N j hj)
        rw [Addr.add_lit] at this
        rw [← hx]
        exact this
      · rw [List.getElem?_eq_none (by simpa using hj)] at hx
        simp at hx
    have hd : ((List.range N).map fun i => bs (X i)).map (·.data.toList) = (List.range N).map X := by
      rw [List.map_map]
      refine List.map_congr_left fun i _ => ?_
      simp [bs]
    have hL : ((List.range N).map fun i => bs (X i)).length = N := by simp
    have := Any.strings_Join layJoin joinExtra g 0 cap ((List.range N).map fun i => bs (X i)) ⟨#[]⟩ w hc (Array.getElem?_eq_some_iff.1 hbk).1 (by omega) (by omega) (by
      rw [hd]
      show (Lib.join _ []).length ≤ _
      rw [join_flat, ← catT_flat]; omega)
    rw [joinNum, hd, hL] at this
    have e1 : Lib.join ((List.range N).map X) (⟨#[]⟩ : ByteArray).data.toList = catT X N := by
      show Lib.join _ [] = _
      rw [join_flat, ← catT_flat]
    rw [e1] at this
    exact this
end Go.Proofs.YtlncjgnomhpjnabGreatDoor

/-
  stream.Join: the stream of frames.
-/
namespace Go.Proofs.YtlncjgnomhpjnabGreatDoor
open Go.RowKit Go.Deep
set_option linter.unusedVariables false
/-- lengths, as cells -/
def lnL (ln : Nat → Nat) (k : Nat) : List Value := (List.range k).map fun j => Value.int .i64 ((ln j : Nat) : Int)
theorem lnL_snoc (ln : Nat → Nat) (k : Nat) : lnL ln (k + 1) = lnL ln k ++ [Value.int .i64 ((ln k : Nat) : Int)] := by
  unfold lnL
  rw [List.range_succ, List.map_append]; rfl
theorem ki_below {g : Nat} {c0 c1 c2 c3 c4 s : Int} {u u' : World} (hb : Below u.heap.size u u') (h : g < u.heap.size ∧ u.cell? ⟨g, 0, none⟩ = some (.int .i64 c0) ∧ u.cell? ⟨g, 1, none⟩ = some (.int .i64 c1) ∧ u.cell? ⟨g, 2, none⟩ = some (.int .i64 c2) ∧ u.cell? ⟨g, 3, none⟩ = some (.int .i64 c3) ∧ u.cell? ⟨g, 4, none⟩ = some (.int .i64 c4) ∧ u.cell? ⟨g, 5, none⟩ = some (.int .i64 s)) : g < u'.heap.size ∧ u'.cell? ⟨g, 0, none⟩ = some (.int .i64 c0) ∧ u'.cell? ⟨g, 1, none⟩ = some (.int .i64 c1) ∧ u'.cell? ⟨g, 2, none⟩ = some (.int .i64 c2) ∧ u'.cell? ⟨g, 3, none⟩ = some (.int .i64 c3) ∧ u'.cell? ⟨g, 4, none⟩ = some (.int .i64 c4) ∧ u'.cell? ⟨g, 5, none⟩ = some (.int .i64 s) :=
  ⟨Nat.lt_of_lt_of_le h.1 hb.size, keep_cell hb h.1 h.2.1, keep_cell hb h.1 h.2.2.1, keep_cell hb h.1 h.2.2.2.1, keep_cell hb h.1 h.2.2.2.2.1, keep_cell hb h.1 h.2.2.2.2.2.1, keep_cell hb h.1 h.2.2.2.2.2.2⟩
theorem owns_cells {w : World} {base m : Nat} {v : Value} {f : Nat → Int} {ls : List Value} (h : w.ownsRow base 3 1 v m ls) (hf : ∀ i, i < m → ls[i]? = some (.int .i64 (f i))) : ∃ a cap, v = .slice a m cap ∧ IntsAt w a m f ∧ ∀ x, a = some x → 0 < m → x.block < w.heap.size := by
  rcases h.2 with ⟨rfl, rfl⟩ | ⟨g, cap, cur, rfl, -⟩
  · exact ⟨none, 0, rfl, fun i hi => absurd hi (by omega), fun x hx => by cases hx⟩
  · refine ⟨_, cap, rfl, fun i hi => ⟨_, rfl, h.cells (g := g) rfl i _ (hf i hi)⟩, fun x hx h0 => ?_⟩
    cases hx
    exact (h.lt g rfl).2
theorem lens_open {w : World} {base k : Nat} {ln : Nat → Nat} {v : Value} (h : w.ownsRow base 3 1 v k (lnL ln k)) : ∃ a cap, v = .slice a k cap ∧ IntsAt w a k (fun i => ((ln i : Nat) : Int)) ∧ ∀ x, a = some x → 0 < k → x.block < w.heap.size :=
  owns_cells h fun i hi => by unfold lnL; rw [List.getElem?_map, List.getElem?_range hi]; rfl
theorem pnts_open {w : World} {base : Nat} {ps : List Nat} {v : Value} (h : w.ownsRow base 3 1 v ps.length (pntV ps)) : ∃ a cap, v = .slice a ps.length cap ∧ IntsAt w a ps.length (fun i => ((ps.getD i 0 : Nat) : Int)) ∧ ∀ x, a = some x → 0 < ps.length → x.block < w.heap.size :=
  owns_cells h fun i hi => by unfold pntV; rw [List.getElem?_map, List.getElem?_eq_getElem hi, List.getD_eq_getElem?_getD, List.getElem?_eq_getElem hi]; rfl
theorem strs_open {w : World} {base k : Nat} {X : Nat → List UInt8} {v : Value} (h : w.ownsRow base 9 1 v k (strL X k)) : ∃ a cap, v = .slice a k cap ∧ ∀ i, i < k → ∃ g, a = some ⟨g, 0, none⟩ ∧ g < w.heap.size ∧ w.cell? ⟨g, i, none⟩ = some (.string (bs (X i))) := by
  rcases h.2 with ⟨rfl, rfl⟩ | ⟨g, cap, cur, rfl, -⟩
  · exact ⟨none, 0, rfl, fun i hi => absurd hi (by omega)⟩
  · refine ⟨_, cap, rfl, fun i hi => ⟨g, rfl, (h.lt g rfl).2, ?_⟩⟩
    have := h.cells (g := g) rfl i _ (strL_get X k i hi)
    rw [Addr.add_lit, Nat.zero_add] at this
    exact this
/-- what holds while lengths are taken -/
structure JoinI (w wr : World) (is : Array Value) (kv : Value) (k : Nat) (ls : List Value) : Prop where
  inf : Bx wr w.heap.size 39 is
  own : wr.ownsRow (w.heap.size + 1) 3 1 kv k ls
  below : Below w.heap.size w wr
  size : w.heap.size + 1 ≤ wr.heap.size
theorem JoinI.grew {w wr u : World} {is : Array Value} {kv kv' : Value} {k : Nat} {ls ls' : List Value} (h : JoinI w wr is kv k ls) (ho : u.ownsRow (w.heap.size + 1) 3 1 kv' (k + 1) ls') (hg : wr.grownBy u kv.ownBlock) : JoinI w u is kv' (k + 1) ls' :=
  ⟨h.inf.of (hg.block _ (by have := h.size; omega) (fun e => by have := (h.own.lt _ e.symm).1; omega)), ho, h.below.grown hg h.below.size (fun j hj => by have := (h.own.lt j hj).1; omega), Nat.le_trans h.size hg.size⟩
set_option maxRecDepth 4000 in
set_option maxHeartbeats 2000000 in
theorem streamJoin_any (n d B c3 S c4 sum : Nat) (X : Nat → List UInt8) (N base : Nat) (kv : Value) (w : World) (h0 : n < 256) (h1 : d < 256) (h2 : B < 256) (h3 : c3 < 65536) (h4 : c4 < 256) (h5 : S < 65536) (h6 : sum < 4294967296) (hN : N ≤ 300) (hX : ∀ i, i < N → (X i).length ≤ 222)
    (h : w.ownsRow base 9 1 kv N (strL X N)) :
    Calls Tryz.prog 65 #[.agg #[.int .i64 n, .int .i64 d, .int .i64 B, .int .i64 c3, .int .i64 c4, .int .i64 S], kv, .int .i64 sum] w fun e w' =>
      e = .returned (.string (bs (headTx 1 n d B c3 S c4 (leastN (fun i => (X i).length) N) (mostN (fun i => (X i).length) N) sum (pntN (fun i => (X i).length) c4 N) ++ catT X N))) ∧ Below w.heap.size w w' := by
  have HJ := Hid.mk' (fun (u : World) (hu : Below w.heap.size w u) => join_any X N base kv u (h.kept ⟨hu.os, hu.tape, hu.output, hu.size, fun j hj _ => hu.block j hj⟩ (Classical.em _)) (by omega) (by
    have : ∀ k, k ≤ N → (catT X k).length ≤ 222 * k := by
      intro k
      induction k with
      | zero => intro _; simp [catT]
      | succ k ih => intro hk; have h1 := ih (by omega); have h2 := hX k (by omega); rw [catT, List.length_append]; omega
    have := this N (Nat.le_refl _)
    omega))
  have HCT : Hid ((catT X N).length ≤ 66600) := by
    have : ∀ k, k ≤ N → (catT X k).length ≤ 222 * k := by
      intro k
      induction k with
      | zero => intro _; simp [catT]
      | succ k ih => intro hk; have h1 := ih (by omega); have h2 := hX k (by omega); rw [catT, List.length_append]; omega
    have := this N (Nat.le_refl _)
    show _ ≤ _
    omega
  obtain ⟨a, cap, rfl, hcl⟩ := strs_open h
  have HCL := Hid.mk' hcl
  have HX := Hid.mk' hX
  have hlb : ∀ i, i < N → (fun i => (X i).length) i ≤ 222 := hX
  have HPL : Hid ((pntN (fun i => (X i).length) c4 N).length ≤ 300) := by have h1 := pntN_len (fun i => (X i).length) c4 N; show _ ≤ _; omega
  have HFN := Hid.mk' (fun (u : World) (a' : Option Addr) (cap' : Nat) hI' hl' => finished_any n d B c3 S c4 sum a' N cap' (fun i => (X i).length) u hN (by omega) hX hI' hl')
  have HLY := Hid.mk' (fun (u : World) (a' : Option Addr) (cap' : Nat) hI' hl' => headText_any true n d B c3 S c4 (leastN (fun i => (X i).length) N) (mostN (fun i => (X i).length) N) sum (pntN (fun i => (X i).length) c4 N) a' cap' u h0 h1 h2 h3 h4 h5
    (by have := leastN_bd N hlb; omega) (by have := mostN_bd N hlb; omega) h6 HPL.out (fun p hp => by have h1 := pntN_bd N hlb p hp; omega) hI' hl')
  simp only [Bool.toNat_true] at HLY
  have hz1 : (bs (headTx 1 n d B c3 S c4 (leastN (fun i => (X i).length) N) (mostN (fun i => (X i).length) N) sum (pntN (fun i => (X i).length) c4 N))).size ≤ 700 := by rw [bs_size, headTx_length]; have := HPL.out; omega
  have hz2 : (bs (catT X N)).size ≤ 66600 := by rw [bs_size]; exact HCT.out
  clear h hcl hX hlb
  go_enter Tryz.func65, Tryz.ntmps65
  go_wp2
  go_loopw [7, 9, 12] (fun lv _ iv wr => ∃ i : Nat, ∃ ov : Value, i ≤ N ∧ iv = .int .i64 i ∧ ov = lv ∧ Hid (JoinI w wr #[.int .i64 n, .int .i64 d, .int .i64 B, .int .i64 c3, .int .i64 c4, .int .i64 S] ov i (lnL (fun i => (X i).length) i))) (fun _ _ iv _ => N - (intOf iv).toNat)
  case atStart => exact ⟨0, .slice none 0 0, Nat.zero_le _, rfl, rfl, Bx.new _ _ _, World.ownsRow_nil _ _ _ _, (Below.refl _ _).alloc (Nat.le_refl _) _, by simp⟩
  case round =>
    obtain ⟨i, kv, hi, rfl, e, HR⟩ := hrel
    subst e
    by_cases hlt : i < N
    · obtain ⟨g, rfl, hg, hc⟩ := HCL.out i hlt
      have hcv : wr.cell? ⟨g, i, none⟩ = some (.string (bs (X i))) := (HR.out.below.cell (p := ⟨g, i, none⟩) hg).trans hc
      have hz : (bs (X i)).size = (X i).length := bs_size _
      have hL := HX.out i hlt
      obtain ⟨g', c', u4, hr, ho, hgr⟩ := app_row 30 3 (.int .i64 0) 8 Tryz.underlying30 infoInt rfl wr _ kv _ _ #[.int .i64 ((X i).length : Int)] HR.out.own (by simp) (by intro u hu; simp at hu; rw [hu]; rfl) (by simp only [maxLen]; simp; omega) (by simp; omega) HR.out.size 30
      have HE4 : Hid (JoinI w u4 #[.int .i64 n, .int .i64 d, .int .i64 B, .int .i64 c3, .int .i64 c4, .int .i64 S] (.slice (some ⟨g', 0, none⟩) (i + 1) c') (i + 1) (lnL (fun i => (X i).length) (i + 1))) := by
        have := HR.out.grew ho hgr
        show JoinI _ _ _ _ _ _
        rw [lnL_snoc]
        exact this
      have HAP : Hid (_ = _) := hr
      clear hr ho hgr hc
      generalize bs (X i) = Z at *
      generalize (X i).length = ln at *
      go_wp2_with (at_builtin; refine wpList_append_rn rfl _ _ _ rfl _ _ _ rfl rfl HAP.out ?_; clear HAP)
      go_roundw
      case rel => exact ⟨i + 1, _, by omega, by go_num, rfl, HE4.out⟩
      case measure => simp [intOf]; omega
    · have e : i = N := by omega
      subst e
      obtain ⟨a', cap', hkv, hI', hl'⟩ := lens_open HR.out.own
      subst hkv
      have HI' := Hid.mk' hI'
      have HL' := Hid.mk' hl'
      have x0 := HR.out.inf.cell 0
      have x1 := HR.out.inf.cell 1
      have x2 := HR.out.inf.cell 2
      have x3 := HR.out.inf.cell 3
      have x4 := HR.out.inf.cell 4
      have x5 := HR.out.inf.cell 5
      have xl := HR.out.inf.lt
      have HBW := Hid.mk' HR.out.below
      clear hI' hl' HR
      generalize hX1 : bs (headTx 1 n d B c3 S c4 (leastN (fun i => (X i).length) i) (mostN (fun i => (X i).length) i) sum (pntN (fun i => (X i).length) c4 i)) = X1 at *
      generalize hX2 : bs (catT X i) = X2 at *
      have HX12 : Hid (X1 ++ X2 = bs (headTx 1 n d B c3 S c4 (leastN (fun i => (X i).length) i) (mostN (fun i => (X i).length) i) sum (pntN (fun i => (X i).length) c4 i) ++ catT X i)) := by show _ = _; rw [← hX1, ← hX2, bs_append]
      clear hX1 hX2
      have q8 : ¬ 9223372036854775807 < X1.size + X2.size := by omega
      go_wp2_with (first
        | (go_at_call 128; refine (HFN.out _ _ _ HI'.out HL'.out).mono ?_; rintro e u2 ⟨pv, rfl, hown, hb2⟩; obtain ⟨a2, cp2, rfl, hI2, hl2⟩ := pnts_open hown; have HLY2 := Hid.mk' (HLY.out u2 a2 cp2 hI2 hl2); have HB2 : Hid (Below wr.heap.size wr u2) := (⟨hb2.os, hb2.tape, hb2.output, hb2.size, hb2.block⟩ : Below wr.heap.size wr u2); clear HFN hown hI2 hl2 hb2 HLY x0 x1 x2 x3 x4 x5 xl)
        | (go_at_call 129; refine HLY2.out.mono ?_; rintro e u3 ⟨rfl, hb3⟩; have HB3 := Hid.mk' (HBW.out.trans ((HB2.out.trans (hb3.mono HB2.out.size)).mono HBW.out.size)); clear HLY2 HB2 hb3)
        | (go_at_call 130; refine (HJ.out _ HB3.out).mono ?_; rintro e u4 ⟨rfl, hb4⟩; have HB4 := Hid.mk' (HB3.out.trans (hb4.mono HB3.out.size)); clear HJ HB3 hb4))
      go_ret
      exact ⟨by rw [← HX12.out]; rfl, HB4.out⟩
end Go.Proofs.YtlncjgnomhpjnabGreatDoor

/-
  Blocks of a sound: sound.Blocks, sound.BlockSamples, sound.Block.
-/
namespace Go.Proofs.YtlncjgnomhpjnabGreatDoor
open Go.RowKit Go.Deep
set_option linter.unusedVariables false
theorem blocks_any (S B : Nat) (w : World) (hB : 1 ≤ B) (hB2 : B ≤ 100000) (hS : S ≤ 100000) :
    Calls Tryz.prog 62 #[.int .i64 S, .int .i64 B] w fun e w' => e = .returned (.int .i64 (nBlk S B : Nat)) ∧ w' = w := by
  have hle := nBlk_le (S := S) hB
  have w1 : IntKind.i64.wrap ((S : Int) + (B : Int)) = (S : Int) + (B : Int) := by rw [IntKind.wrap_i64]; omega
  have w2 : IntKind.i64.wrap ((S : Int) + (B : Int) - 1) = (S : Int) + (B : Int) - 1 := by rw [IntKind.wrap_i64]; omega
  have d0 : ((S : Int) + (B : Int) - 1) / (B : Int) = ((nBlk S B : Nat) : Int) := by
    rw [show (S : Int) + (B : Int) - 1 = ((S + B - 1 : Nat) : Int) by omega]; rfl
  have d1 : ((S : Int) + (B : Int) - 1).tdiv (B : Int) = ((nBlk S B : Nat) : Int) := by
    rw [Int.tdiv_eq_ediv_of_nonneg (by omega)]; exact d0
  have w3 : IntKind.i64.wrap ((nBlk S B : Nat) : Int) = ((nBlk S B : Nat) : Int) := by rw [IntKind.wrap_i64]; omega
  have hz : ((B : Int) == 0) = false := by simp; omega
  have hz2 : ¬ (B : Int) = 0 := by omega
  generalize nBlk S B = N at *
  go_enter Tryz.func62, Tryz.ntmps62
  go_wp2
  go_ret
  exact ⟨rfl, rfl⟩
theorem blockSamples_any (S B k : Nat) (w : World) (hk : k * B ≤ S) (hB2 : B ≤ 100000) (hS : S ≤ 100000) :
    Calls Tryz.prog 127 #[.int .i64 S, .int .i64 B, .int .i64 k] w fun e w' => e = .returned (.int .i64 (blkN S B k : Nat)) ∧ w' = w := by
  have e1 : (k : Int) * (B : Int) = ((k * B : Nat) : Int) := by simp
  have w1 : IntKind.i64.wrap ((k : Int) * (B : Int)) = ((k * B : Nat) : Int) := by rw [IntKind.wrap_i64, e1]; omega
  have w2 : IntKind.i64.wrap ((S : Int) - ((k * B : Nat) : Int)) = ((S - k * B : Nat) : Int) := by rw [IntKind.wrap_i64]; omega
  have HM : Hid (((blkN S B k : Nat) : Int) = min (B : Int) ((S - k * B : Nat) : Int)) := by show _ = _; unfold blkN; omega
  rw [HM.out]
  clear e1
  generalize k * B = q at *
  generalize S - q = r at *
  go_enter Tryz.func127, Tryz.ntmps127
  go_wp2
  go_ret
  exact ⟨rfl, rfl⟩
/-- where a list lies -/
def bkOf : Option Addr → Nat
  | some x => x.block
  | none => 0
def ofOf : Option Addr → Nat
  | some x => x.off
  | none => 0
/-- a block's lists -/
def blkA (A : Nat → Option Addr) (q i : Nat) : Option Addr := some ⟨bkOf (A i), ofOf (A i) + q, none⟩
theorem ints_addr {w : World} {a : Option Addr} {n : Nat} {f : Nat → Int} (h : IntsAt w a n f) (hn : 0 < n) : a = some ⟨bkOf a, ofOf a, none⟩ := by
  obtain ⟨b, off, rfl, -⟩ := h.open hn
  rfl
theorem ints_cut {w : World} {A : Nat → Option Addr} {i n q m : Nat} {f : Nat → Int} (h : IntsAt w (A i) n f) (hm : q + m ≤ n) : IntsAt w (blkA A q i) m (fun j => f (q + j)) := fun j hj => by
  obtain ⟨b, off, ha, hc⟩ := h.open (by omega)
  refine ⟨_, rfl, ?_⟩
  have := hc (q + j) (by omega)
  rw [ha]
  show w.cell? (Addr.add ⟨b, off + q, none⟩ j) = _
  rw [show Addr.add ⟨b, off + q, none⟩ j = ⟨b, off + (q + j), none⟩ by cases j <;> simp [Addr.add] <;> omega]
  exact this
def blkV (A : Nat → Option Addr) (C : Nat → Nat) (q m j i : Nat) : Value := if i < j then .slice (blkA A q i) m (C i - q) else .slice none 0 0
theorem blkV_step {wr : World} {g n q m j : Nat} {A : Nat → Option Addr} {C : Nat → Nat} (h : wr.rowIs g 30 n (blkV A C q m j)) :
    (wr.setCell ⟨g, j, none⟩ (.slice (blkA A q j) m (C j - q))).rowIs g 30 n (blkV A C q m (j + 1)) :=
  (h.set j _).congr fun i _ => by
    unfold blkV
    by_cases e : i = j
    · rw [if_pos e, if_pos (by omega), e]
    · rw [if_neg e]
      by_cases e2 : i < j
      · rw [if_pos e2, if_pos (by omega)]
      · rw [if_neg e2, if_neg (by omega)]
set_option maxHeartbeats 1000000 in
theorem block_any (a : Option Addr) (n cap : Nat) (A : Nat → Option Addr) (S : Nat) (C : Nat → Nat) (F : Nat → Nat → Int) (B k : Nat) (w : World) (hn1 : 1 ≤ n) (hn4 : n ≤ 4) (hB : 1 ≤ B) (hB2 : B ≤ 32) (hS : S ≤ 300) (hk : k < nBlk S B)
    (hA : ListsAt w a n A (fun _ => S) C) (hC : ∀ i, i < n → S ≤ C i) (hI : ∀ i, i < n → IntsAt w (A i) S (F i)) (hlow : Low w.heap.size a n A (fun _ => S)) :
    Calls Tryz.prog 64 #[.slice a n cap, .int .i64 B, .int .i64 k] w fun e w' =>
      e = .returned (.slice (some ⟨w.heap.size, 0, none⟩) n n) ∧ w'.rowIs w.heap.size 30 n (blkV A C (k * B) (blkN S B k) n) ∧ Below w.heap.size w w' := by
  have hbd := blkN_bd hB hk
  have HAD := Hid.mk' (fun i (hi : i < n) => ints_addr (hI i hi) (by omega))
  have HBS := Hid.mk' (fun u => blockSamples_any S B k u (by omega) (by omega) (by omega))
  have HC := Hid.mk' hC
  have hmk := run_make_row' (P := Tryz.prog) 24 30 (.slice none 0 0) 24 Tryz.underlying24 infoInts rfl .i64 .i64 n (by omega) (by omega)
  obtain ⟨b, off, rfl, hcell⟩ := hA.open (by omega)
  have HCL := Hid.mk' hcell
  have HBL : Hid (b < w.heap.size) := by
    have := hlow.1 _ rfl (by omega : 0 < n)
    exact this
  have e1 : (k : Int) * (B : Int) = ((k * B : Nat) : Int) := by simp
  have w1 : IntKind.i64.wrap ((k : Int) * (B : Int)) = ((k * B : Nat) : Int) := by rw [IntKind.wrap_i64, e1]; omega
  have hbl := HBL.out
  clear hA hI hlow hcell hC e1
  generalize blkN S B k = m at *
  generalize k * B = q at *
  have w2 : IntKind.i64.wrap ((q : Int) + (m : Int)) = ((q + m : Nat) : Int) := by rw [IntKind.wrap_i64]; omega
  have hb0 : Below w.heap.size w (w.alloc (.cells (madeCells #[.slice none 0 0] n) 30)) := (Below.refl _ _).alloc (Nat.le_refl _) _
  have HB0 := Hid.mk' hb0
  clear hb0
  go_enter Tryz.func64, Tryz.ntmps64
  go_wp2
  clear hmk
  go_loopw [8, 9, 10, 16] (fun _ _ _ iv wr => ∃ i : Nat, i ≤ n ∧ iv = .int .i64 i ∧ Hid (wr.rowIs w.heap.size 30 n (blkV A C q m i) ∧ Below w.heap.size w wr)) (fun _ _ _ iv _ => n - (intOf iv).toNat)
  case atStart => exact ⟨0, Nat.zero_le _, rfl, (World.rowIs_made w (.slice none 0 0) n 30).congr fun i _ => by unfold blkV; rw [if_neg (by omega)], HB0.out⟩
  case round =>
    obtain ⟨i, hi, rfl, HR⟩ := hrel
    by_cases hlt : i < n
    · have hcb : wr.cell? ⟨b, off + i, none⟩ = some (.slice (some ⟨bkOf (A i), ofOf (A i), none⟩) S (C i)) := by
        have := (HR.out.2.cell (p := ⟨b, off + i, none⟩) hbl).trans (HCL.out i hlt)
        rw [HAD.out i hlt] at this; exact this
      have hCi := HC.out i hlt
      have hc1 := HR.out.1.cell hlt
      have hf1 := HR.out.1.frozen i
      have HZ := Hid.mk' (blkV_step HR.out.1)
      unfold blkA at HZ
      generalize bkOf (A i) = gi at *
      generalize ofOf (A i) = oi at *
      generalize C i = ci at *
      generalize blkV A C q m i i = old at *
      have t1 : (((q + m : Nat) : Int) - (q : Int)).toNat = m := by omega
      go_wp2_with (go_at_call 127; refine (HBS.out _).mono ?_; rintro e u1 ⟨rfl, hw⟩; subst u1)
      go_roundw
      case rel => exact ⟨i + 1, by omega, by go_num, HZ.out, HR.out.2.setCell (Nat.le_refl _) _⟩
      case measure => simp [intOf]; omega
    · have e : i = n := by omega
      subst e
      go_wp2
      go_ret
      exact ⟨rfl, HR.out⟩
end Go.Proofs.YtlncjgnomhpjnabGreatDoor

/-
  Sums of bytes: sums.SumOn and reelref.Sum.
-/
namespace Go.Proofs.YtlncjgnomhpjnabGreatDoor
open Go.RowKit Go.Deep
set_option linter.unusedVariables false
theorem sumN_parts (l : List UInt8) : ((sumN l : Nat) : Int).tmod 65536 = ((sA l % 65521 : Nat) : Int) ∧ ((sumN l : Nat) : Int).tdiv 65536 = ((sB l % 65521 : Nat) : Int) ∧ ((sumN l : Nat) : Int) % 65536 = ((sA l % 65521 : Nat) : Int) ∧ ((sumN l : Nat) : Int) / 65536 = ((sB l % 65521 : Nat) : Int) := by
  have h2 : sA l % 65521 < 65521 := Nat.mod_lt _ (by decide)
  rw [Int.tmod_eq_emod_of_nonneg (by omega), Int.tdiv_eq_ediv_of_nonneg (by omega)]
  unfold sumN
  omega
set_option maxHeartbeats 400000 in
/-- the program's sum, behind other bytes -/
theorem sumOn_any (p T : List UInt8) (w : World) (hT : T.length ≤ 2097152) :
    Calls Tryz.prog 202 #[.int .i64 (sumN p : Nat), .string (bs T)] w fun e w' => e = .returned (.int .i64 (sumN (p ++ T) : Nat)) ∧ w' = w := by
  have hz : (bs T).size = T.length := bs_size T
  have HG : Hid (∀ k (h : k < (bs T).size), (bs T)[k] = T[k]'(by rw [hz] at h; exact h)) := fun k h => bs_get T k h
  generalize bs T = S at *
  obtain ⟨q1, q2, q3, q4⟩ := sumN_parts p
  have q5 := sumN_lt p
  generalize hN : sumN p = N0 at *
  clear hN
  have hA0 : sA p % 65521 < 65521 := Nat.mod_lt _ (by decide)
  have hB0 : sB p % 65521 < 65521 := Nat.mod_lt _ (by decide)
  have HA0 : Hid (sA p % 65521 = sA (p ++ T.take 0) % 65521 ∧ sB p % 65521 = sB (p ++ T.take 0) % 65521) := ⟨by simp, by simp⟩
  generalize sA p % 65521 = A0 at *
  generalize sB p % 65521 = B0 at *
  go_enter Tryz.func202, Tryz.ntmps202
  go_wp2
  clear q1 q2 q3 q4 q5 hA0 hB0
  go_loop [5, 6, 7, 14] (fun a b _ i => ∃ k : Nat, k ≤ T.length ∧ i = .int .i64 k ∧ a = .int .i64 ((sA (p ++ T.take k) % 65521 : Nat) : Int) ∧ b = .int .i64 ((sB (p ++ T.take k) % 65521 : Nat) : Int)) (fun _ _ _ i => T.length - (intOf i).toNat)
  case atStart => exact ⟨0, Nat.zero_le _, rfl, by rw [HA0.out.1], by rw [HA0.out.2]⟩
  case round =>
    obtain ⟨k, hk, rfl, rfl, rfl⟩ := hrel
    by_cases hlt : k < T.length
    · have hkS : k < S.size := by omega
      have hc : S[k].toNat < 256 := UInt8.toNat_lt _
      have HE : Hid (p ++ T.take (k + 1) = p ++ T.take k ++ [S[k]]) := by show _ = _; rw [List.take_succ_eq_append_getElem hlt, HG.out k hkS, List.append_assoc]
      have HA : Hid (sA (p ++ T.take (k + 1)) = sA (p ++ T.take k) + S[k].toNat) := by
        show _ = _; rw [HE.out, sA_snoc]
      have HB : Hid (sB (p ++ T.take (k + 1)) = sB (p ++ T.take k) + (sA (p ++ T.take k) + S[k].toNat)) := by
        show _ = _; rw [HE.out, sB_snoc, sA_snoc]
      clear HE
      generalize sA (p ++ T.take k) = A at *
      generalize sB (p ++ T.take k) = B at *
      have h1 : A % 65521 < 65521 := Nat.mod_lt _ (by decide)
      have h2 : B % 65521 < 65521 := Nat.mod_lt _ (by decide)
      go_wp2
      go_round
      case rel => exact ⟨k + 1, by omega, by go_num, by rw [HA.out]; go_num, by rw [HB.out]; go_num⟩
      case measure => simp [intOf]; omega
    · have e : k = T.length := by omega
      subst e
      rw [List.take_length]
      have HN : Hid (((sumN (p ++ T) : Nat) : Int) = 65536 * ((sB (p ++ T) % 65521 : Nat) : Int) + ((sA (p ++ T) % 65521 : Nat) : Int)) := by show _ = _; unfold sumN; omega
      have h1 : sA (p ++ T) % 65521 < 65521 := Nat.mod_lt _ (by decide)
      have h2 : sB (p ++ T) % 65521 < 65521 := Nat.mod_lt _ (by decide)
      generalize sA (p ++ T) % 65521 = A at *
      generalize sB (p ++ T) % 65521 = B at *
      go_wp2
      go_ret
      exact ⟨ret_int HN.out.symm, rfl⟩
end Go.Proofs.YtlncjgnomhpjnabGreatDoor

/-
  The sum of a sound: sound.SumOn, sound.Sum, reelref.interleaved.
-/
namespace Go.Proofs.YtlncjgnomhpjnabGreatDoor
open Go.RowKit Go.Deep
set_option linter.unusedVariables false
theorem smp_lo (v : Int) : v % 256 = ((smpB v false).toNat : Int) := by
  have e : (smpB v false).toNat = (v % 65536).toNat % 256 := by
    show (UInt8.ofNat ((v % 65536).toNat % 256)).toNat = _
    rw [UInt8.toNat_ofNat']; omega
  rw [e]
  omega
theorem smp_hi (v : Int) : v / 256 % 256 = ((smpB v true).toNat : Int) := by
  have e : (smpB v true).toNat = (v % 65536).toNat / 256 := by
    show (UInt8.ofNat ((v % 65536).toNat / 256)).toNat = _
    rw [UInt8.toNat_ofNat']; omega
  rw [e]
  omega
theorem strOf_int (n : Nat) (F : Nat → Nat → Int) (m : Nat) : strOf (intB n F) m = bs (intT n F m) := rfl
theorem cells_two (n : Nat) (F : Nat → Nat → Int) (i p m : Nat) (hi : i < n) (hm : m = 2 * (p * n + i)) : Lib.byteCells (intT n F m) ++ [Value.int .u8 (F i p % 256), Value.int .u8 (F i p / 256 % 256)] = Lib.byteCells (intT n F (m + 2)) := by
  rw [hm, intT_two n F i p hi, Lib.byteCells_append, smp_lo, smp_hi]
  rfl
theorem run_make_none (t e : TypeId) (z : Value) (bytes : Nat) (ht : Tryz.prog.underlying t = some (.slice e)) (hinfo : (Tryz.prog.info? e).map (fun i => (i.zero, i.size, i.bytes)) = some (some z, 1, bytes)) (hz1 : z.cells = #[z]) (c : Nat) (hb : bytes * c ≤ 281474976710656) (h63 : c ≤ 9223372036854775807) (w : World) :
    (Instr.makeSlice t (.int .i64 0) (.int .i64 (c : Int))).run Tryz.prog w = .ok (.slice (some ⟨w.heap.size, 0, none⟩) 0 c) (w.alloc (.cells (madeCells #[z] c) e)) := by
  obtain ⟨i, hi, hz0, hz2, hz3⟩ := info_parts hinfo
  have h : (i.bytes : Int) * (c : Int) ≤ 281474976710656 := by
    rw [hz3]
    have : ((bytes * c : Nat) : Int) ≤ 281474976710656 := by omega
    rwa [Int.natCast_mul] at this
  have := run_make (P := Tryz.prog) w t e i z ht hi hz0 .i64 .i64 0 c (Int.le_refl _) (by omega) h (by omega)
  rw [hz1, hz2] at this
  simpa using this
set_option maxHeartbeats 1000000 in
theorem soundSumOn_any (p0 : List UInt8) (a : Option Addr) (n cap : Nat) (A : Nat → Option Addr) (S : Nat) (C : Nat → Nat) (F : Nat → Nat → Int) (w : World) (hn1 : 1 ≤ n) (hn4 : n ≤ 4) (hS : S ≤ 300)
    (hA : ListsAt w a n A (fun _ => S) C) (hI : ∀ i, i < n → IntsAt w (A i) S (F i)) (hlow : Low w.heap.size a n A (fun _ => S)) :
    Calls Tryz.prog 131 #[.int .i64 (sumN p0 : Nat), .slice a n cap] w fun e w' => e = .returned (.int .i64 (sumN (p0 ++ intT n F (2 * (S * n))) : Nat)) ∧ Below w.heap.size w w' := by
  have HSO := Hid.mk' (fun u => sumOn_any p0 (intT n F (2 * (S * n))) u (by rw [intT_length]; have : S * n ≤ 300 * 4 := Nat.mul_le_mul hS hn4; omega))
  have hSn : S * n ≤ 1200 := Nat.mul_le_mul hS hn4
  have hmk := run_make_none 33 5 (.int .u8 0) 1 Tryz.underlying33 infoByte rfl (2 * (n * S)) (by rw [Nat.mul_comm n S]; omega) (by rw [Nat.mul_comm n S]; omega)
  have e1 : IntKind.i64.wrap (2 * (n : Int)) = ((2 * n : Nat) : Int) := by rw [IntKind.wrap_i64]; omega
  have e2 : IntKind.i64.wrap (((2 * n : Nat) : Int) * (S : Int)) = ((2 * (n * S) : Nat) : Int) := by
    have h1 : ((2 * n : Nat) : Int) * (S : Int) = ((2 * (n * S) : Nat) : Int) := by simp [Int.mul_assoc]
    have h2 : n * S ≤ 1200 := by rw [Nat.mul_comm]; exact hSn
    rw [h1, IntKind.wrap_i64]; omega
  have HI := Hid.mk' hI
  have HLOW := Hid.mk' hlow
  obtain ⟨b, off, rfl, hcell⟩ := hA.open (by omega)
  have HCL := Hid.mk' hcell
  have HBL : Hid (b < w.heap.size) := by
    have := hlow.1 _ rfl (by omega : 0 < n)
    exact this
  have hc0 := hcell 0 (by omega)
  simp only [Nat.add_zero] at hc0
  clear hA hI hlow hcell
  generalize hK : 2 * (n * S) = K at *
  have HK := Hid.mk' hK
  clear hK
  generalize 2 * n = N2 at *
  have hbl := HBL.out
  have HST : Hid (∀ (u : World) (g c : Nat), u.ownsRow w.heap.size 5 1 (.slice (some ⟨g, 0, none⟩) (2 * (S * n)) c) (2 * (S * n)) (Lib.byteCells (intT n F (2 * (S * n)))) → _) := fun u g c (h : u.ownsRow w.heap.size 5 1 (.slice (some ⟨g, 0, none⟩) (2 * (S * n)) c) (2 * (S * n)) (Lib.byteCells (intT n F (2 * (S * n))))) =>
    run_rowString (P := Tryz.prog) u 33 9 5 g 0 (2 * (S * n)) c (intB n F) Tryz.underlying33 Tryz.underlying5 Tryz.underlying9 (fun i hi => by
      have := h.cells (g := g) rfl i (.int .u8 (intB n F i).toNat) (by simp [Lib.byteCells, intT, List.getElem?_range hi])
      rw [Addr.add_lit] at this; exact this)
  rw [strOf_int] at HST
  generalize sumN p0 = N0 at *
  go_enter Tryz.func131, Tryz.ntmps131
  go_wp2
  clear hmk e1 e2 hc0
  go_loopw [5, 6, 8, 9, 23] (fun ov _ _ _ pv wr => ∃ p g c m : Nat, p ≤ S ∧ pv = .int .i64 p ∧ ov = .slice (some ⟨g, 0, none⟩) m c ∧ Hid (m = 2 * (p * n) ∧ wr.ownsRow w.heap.size 5 1 (.slice (some ⟨g, 0, none⟩) m c) m (Lib.byteCells (intT n F m)) ∧ Below w.heap.size w wr)) (fun _ _ _ _ pv _ => S - (intOf pv).toNat)
  case atStart =>
    refine ⟨0, w.heap.size, K, 0, Nat.zero_le _, rfl, rfl, by simp, ?_, (Below.refl _ _).alloc (Nat.le_refl _) _⟩
    exact World.ownsRow_made w _ K (Nat.le_refl _) (by have := HK.out; rw [Nat.mul_comm n S] at this; simp only [maxLen]; omega) (by simp [size_madeCells])
  case round =>
    obtain ⟨p, g, c, m, hp, rfl, rfl, HR⟩ := hrel
    by_cases hlt : p < S
    · go_wp2
      go_loopw [5, 8, 9, 28] (fun ov _ _ iv wr => ∃ i g c m : Nat, i ≤ n ∧ iv = .int .i64 i ∧ ov = .slice (some ⟨g, 0, none⟩) m c ∧ Hid (m = 2 * (p * n + i) ∧ wr.ownsRow w.heap.size 5 1 (.slice (some ⟨g, 0, none⟩) m c) m (Lib.byteCells (intT n F m)) ∧ Below w.heap.size w wr)) (fun _ _ _ iv _ => n - (intOf iv).toNat)
      case atStart => exact ⟨0, g, c, m, by omega, rfl, rfl, by have := HR.out.1; omega, HR.out.2⟩
      case round =>
        clear HR
        obtain ⟨i, g, c, m, hi, rfl, rfl, HR⟩ := hrel
        by_cases hin : i < n
        · obtain ⟨gi, oi, hAi, hci⟩ := (HI.out i hin).open (by omega)
          have hcb : wr.cell? ⟨b, off + i, none⟩ = some (.slice (some ⟨gi, oi, none⟩) S (C i)) := by
            have := (HR.out.2.2.cell (p := ⟨b, off + i, none⟩) hbl).trans (HCL.out i hin)
            rw [hAi] at this; exact this
          have hgl : gi < w.heap.size := by have := HLOW.out.2 i hin _ hAi (by show 0 < S; omega); exact this
          have hcv : wr.cell? ⟨gi, oi + p, none⟩ = some (.int .i64 (F i p)) := (HR.out.2.2.cell (p := ⟨gi, oi + p, none⟩) hgl).trans (hci p hlt)
          have hpn : p * n + i ≤ 1200 := by
            have h1 : p * n ≤ 299 * n := Nat.mul_le_mul_right n (by omega)
            omega
          have hm2 := HR.out.1
          obtain ⟨g', c', u', hr, ho, hg⟩ := app_row 33 5 (.int .u8 0) 1 Tryz.underlying33 infoByte rfl wr w.heap.size (.slice (some ⟨g, 0, none⟩) m c) m _ #[.int .u8 (F i p % 256), .int .u8 (F i p / 256 % 256)] HR.out.2.1 (by simp) (by intro u hu; simp at hu; rcases hu with rfl | rfl <;> rfl) (by simp only [maxLen]; simp; omega) (by simp; omega) HR.out.2.2.size 33
          have HN : Hid (u'.ownsRow w.heap.size 5 1 (.slice (some ⟨g', 0, none⟩) (m + 2) c') (m + 2) (Lib.byteCells (intT n F (m + 2))) ∧ Below w.heap.size w u') := by
            refine ⟨?_, HR.out.2.2.grown hg HR.out.2.2.size (fun k hk => (HR.out.2.1.lt k hk).1)⟩
            rw [← cells_two n F i p m hin hm2]
            exact ho
          have HAP : Hid (_ = _) := hr
          generalize F i p = V at *
          clear hci hr ho hg hpn
          have HM2 := Hid.mk' hm2
          clear hm2
          go_wp2_with (at_builtin; refine wpList_append_rn rfl _ _ _ rfl _ _ _ rfl rfl HAP.out ?_; clear HAP)
          go_roundw
          case rel => exact ⟨i + 1, g', c', m + 2, by omega, by go_num, rfl, by rw [HM2.out]; omega, HN.out⟩
          case measure => simp [intOf]; omega
        · have e : i = n := by omega
          subst e
          go_wp2
          go_roundw
          case rel => exact ⟨p + 1, g, c, m, by omega, by go_num, rfl, by rw [HR.out.1, Nat.add_mul, Nat.one_mul], HR.out.2⟩
          case measure => simp [intOf]; omega
    · have e : p = S := by omega
      subst e
      obtain ⟨hm, ho, hb⟩ := HR.out
      subst hm
      have hcv := HST.out wr g c ho
      have HB := Hid.mk' hb
      clear ho hb HR HST
      generalize bs (intT n F (2 * (p * n))) = T at *
      generalize hm : 2 * (p * n) = m at *
      have HM := Hid.mk' hm
      clear hm
      go_wp2_with (go_at_call 202; refine (HSO.out _).mono ?_; rintro e u1 ⟨rfl, hw⟩; subst u1)
      go_ret
      exact ⟨by rw [HM.out]; rfl, HB.out⟩
end Go.Proofs.YtlncjgnomhpjnabGreatDoor

