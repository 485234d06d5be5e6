import Derived.Test.YtjpdfdihpfmgjaaGreatDoorKEncLay
import Derived.Test.YtjpdfdihpfmgjaaGreatDoorJEncAll
import Derived.Deep.RegionHeld3
import Derived.Deep.DeepCutAuto
import Derived.Test.YtjpdfdihpfmgjaaGreatDoorJEncBlock
import Derived.Test.YtjpdfdihpfmgjaaGreatDoorJEncSound
import Derived.Test.YtjpdfdihpfmgjaaGreatDoorKFrameTop
/-
  stream.Encode, reel.Check, reel.Encode.
-/
namespace Go.Proofs.YtjpdfdihpfmgjaaGreatDoor
open Go.RowKit Go.Deep
set_option linter.unusedVariables false

/-- what holds while blocks are packed -/
structure EncI (w wc wr : World) (g : Nat) (cs is : Array Value) (T : List UInt8) (kv : Value) (k : Nat) (ls : List Value) : Prop where
  cfg : Bx wr w.heap.size 23 cs
  inf : Bx wr g 46 is
  bld : Bld wr wc.heap.size wc.heap.size T
  own : wr.ownsRow (wc.heap.size + 1) 3 1 kv k ls
  below : Below w.heap.size w wr
  size : wc.heap.size + 1 ≤ wr.heap.size
theorem EncI.next {w wc wr u : World} {g : Nat} {cs is : Array Value} {T : List UInt8} {kv : Value} {k : Nat} {ls : List Value} (h : EncI w wc wr g cs is T kv k ls) (hb : Below wr.heap.size wr u) : EncI w wc u g cs is T kv k ls :=
  ⟨h.cfg.below hb, h.inf.below hb, h.bld.below hb, h.own.kept ⟨hb.os, hb.tape, hb.output, hb.size, fun j hj _ => hb.block j hj⟩ (Classical.em _), h.below.trans (hb.mono h.below.size), Nat.le_trans h.size hb.size⟩
theorem EncI.written {w wc wr u : World} {g : Nat} {cs is : Array Value} {T U : List UInt8} {kv : Value} {k : Nat} {ls : List Value} (h : EncI w wc wr g cs is T kv k ls) (hg1 : w.heap.size < wc.heap.size) (hg2 : g < wc.heap.size) (hbl : Bld u wc.heap.size wc.heap.size U) (hb : Below wc.heap.size wr u) (hk : Lib.OthersKept 5 (some wc.heap.size) wr u) : EncI w wc u g cs is U kv k ls :=
  ⟨h.cfg.of (hb.block _ hg1), h.inf.of (hb.block _ hg2), hbl, owns_others h.own hk (fun e => by have := (h.own.lt _ e).1; omega), h.below.trans (hb.mono (Nat.le_of_lt hg1)), Nat.le_trans h.size hb.size⟩
theorem EncI.grew {w wc wr u : World} {g : Nat} {cs is : Array Value} {T : List UInt8} {kv kv' : Value} {k : Nat} {ls ls' : List Value} (h : EncI w wc wr g cs is T kv k ls) (hg1 : w.heap.size < wc.heap.size) (hg2 : g < wc.heap.size) (ho : u.ownsRow (wc.heap.size + 1) 3 1 kv' (k + 1) ls') (hg : wr.grownBy u kv.ownBlock) (hT : Bld u wc.heap.size wc.heap.size T) : EncI w wc u g cs is T kv' (k + 1) ls' :=
  have ne : ∀ j, j < wc.heap.size + 1 → some j ≠ kv.ownBlock := fun j hj e => by have := (h.own.lt j e.symm).1; omega
  ⟨h.cfg.of (hg.block _ (by have := h.size; omega) (ne _ (by omega))), h.inf.of (hg.block _ (by have := h.size; omega) (ne _ (by omega))), hT, ho, h.below.grown hg h.below.size (fun j hj => by have := (h.own.lt j hj).1; omega), Nat.le_trans h.size hg.size⟩
/-- a builder beside a row of numbers that grows -/
theorem Bld.grew {w w' : World} {B b base : Nat} {T : List UInt8} {kv : Value} {k : Nat} {ls : List Value} (h : Bld w B b T) (ho : w.ownsRow base 3 1 kv k ls) (hb : b < base) (hg : w.grownBy w' kv.ownBlock) : Bld w' B b T := by
  have hbk : w'.heap[b]? = w.heap[b]? := hg.block b h.lt (fun e => by have := (ho.lt b e.symm).1; omega)
  have key : ∀ {p : Value} {xs : List Value}, Lib.BuilderAtF 111 5 B b p xs w → Lib.BuilderAtF 111 5 B b p xs w' := by
    intro p xs h0
    obtain ⟨hB, v, hbk0, hown, hne⟩ := h0
    refine ⟨hB, v, hbk.trans hbk0, ?_, hne⟩
    refine ⟨hown.1, ?_⟩
    rcases hown.2 with h1 | ⟨g, cap, cur, fz, h1, h2, h3, h4⟩
    · exact .inl h1
    · refine .inr ⟨g, cap, cur, fz, h1, h2, ?_, h4⟩
      rw [hg.block g (Array.getElem?_eq_some_iff.1 h3).1 ?_]
      · exact h3
      · intro e
        rcases ho.2 with ⟨rfl, -⟩ | ⟨g2, cap2, cur2, rfl, -, h5, -⟩
        · simp [Value.ownBlock] at e
        · simp [Value.ownBlock] at e
          subst e
          rw [h3] at h5
          injection h5 with h5
          injection h5 with _ h6
          exact absurd h6 (by decide)
  exact ⟨h.1.imp key key, fun e => hbk.trans (h.2 e)⟩
theorem blkV_at {u : World} {g n q m : Nat} {A : Nat → Option Addr} {C : Nat → Nat} (h : u.rowIs g 29 n (blkV A C q m n)) : ListsAt u (some ⟨g, 0, none⟩) n (blkA A q) (fun _ => m) (fun i => C i - q) := fun i hi => ⟨_, rfl, by
  have := h.cell hi
  unfold blkV at this
  rw [if_pos hi] at this
  rw [Addr.add_lit, Nat.zero_add]
  exact this⟩
/-- the lengths of the first frames, as cells -/
def lnL (d n : Nat) (F : Nat → Nat → Int) (S B k : Nat) : List Value := (List.range k).map fun j => Value.int .i64 ((lnF d n F S B j : Nat) : Int)
theorem lnL_snoc (d n : Nat) (F : Nat → Nat → Int) (S B k : Nat) : lnL d n F S B (k + 1) = lnL d n F S B k ++ [Value.int .i64 ((lnF d n F S B k : Nat) : Int)] := by
  unfold lnL
  rw [List.range_succ, List.map_append]; rfl

theorem ki_below {g : Nat} {c0 c1 c2 c3 c4 s : Int} {u u' : World} (hb : Below u.heap.size u u') (h : g < u.heap.size ∧ u.cell? ⟨g, 0, none⟩ = some (.int .i64 c0) ∧ u.cell? ⟨g, 1, none⟩ = some (.int .i64 c1) ∧ u.cell? ⟨g, 2, none⟩ = some (.int .i64 c2) ∧ u.cell? ⟨g, 3, none⟩ = some (.int .i64 c3) ∧ u.cell? ⟨g, 4, none⟩ = some (.int .i64 c4) ∧ u.cell? ⟨g, 5, none⟩ = some (.int .i64 s)) : g < u'.heap.size ∧ u'.cell? ⟨g, 0, none⟩ = some (.int .i64 c0) ∧ u'.cell? ⟨g, 1, none⟩ = some (.int .i64 c1) ∧ u'.cell? ⟨g, 2, none⟩ = some (.int .i64 c2) ∧ u'.cell? ⟨g, 3, none⟩ = some (.int .i64 c3) ∧ u'.cell? ⟨g, 4, none⟩ = some (.int .i64 c4) ∧ u'.cell? ⟨g, 5, none⟩ = some (.int .i64 s) :=
  ⟨Nat.lt_of_lt_of_le h.1 hb.size, keep_cell hb h.1 h.2.1, keep_cell hb h.1 h.2.2.1, keep_cell hb h.1 h.2.2.2.1, keep_cell hb h.1 h.2.2.2.2.1, keep_cell hb h.1 h.2.2.2.2.2.1, keep_cell hb h.1 h.2.2.2.2.2.2⟩
theorem ki_belowB {g B : Nat} {c0 c1 c2 c3 c4 s : Int} {u u' : World} (hg : g < B) (hb : Below B u u') (h : g < u.heap.size ∧ u.cell? ⟨g, 0, none⟩ = some (.int .i64 c0) ∧ u.cell? ⟨g, 1, none⟩ = some (.int .i64 c1) ∧ u.cell? ⟨g, 2, none⟩ = some (.int .i64 c2) ∧ u.cell? ⟨g, 3, none⟩ = some (.int .i64 c3) ∧ u.cell? ⟨g, 4, none⟩ = some (.int .i64 c4) ∧ u.cell? ⟨g, 5, none⟩ = some (.int .i64 s)) : g < u'.heap.size ∧ u'.cell? ⟨g, 0, none⟩ = some (.int .i64 c0) ∧ u'.cell? ⟨g, 1, none⟩ = some (.int .i64 c1) ∧ u'.cell? ⟨g, 2, none⟩ = some (.int .i64 c2) ∧ u'.cell? ⟨g, 3, none⟩ = some (.int .i64 c3) ∧ u'.cell? ⟨g, 4, none⟩ = some (.int .i64 c4) ∧ u'.cell? ⟨g, 5, none⟩ = some (.int .i64 s) :=
  ⟨Nat.lt_of_lt_of_le h.1 hb.size, (hb.cell (p := ⟨g, 0, none⟩) hg).trans h.2.1, (hb.cell (p := ⟨g, 1, none⟩) hg).trans h.2.2.1, (hb.cell (p := ⟨g, 2, none⟩) hg).trans h.2.2.2.1, (hb.cell (p := ⟨g, 3, none⟩) hg).trans h.2.2.2.2.1, (hb.cell (p := ⟨g, 4, none⟩) hg).trans h.2.2.2.2.2.1, (hb.cell (p := ⟨g, 5, none⟩) hg).trans h.2.2.2.2.2.2⟩
theorem owns_cells {w : World} {base m : Nat} {v : Value} {f : Nat → Int} {ls : List Value} (h : w.ownsRow base 3 1 v m ls) (hf : ∀ i, i < m → ls[i]? = some (.int .i64 (f i))) : ∃ a cap, v = .slice a m cap ∧ IntsAt w a m f ∧ ∀ x, a = some x → 0 < m → x.block < w.heap.size := by
  rcases h.2 with ⟨rfl, rfl⟩ | ⟨g, cap, cur, rfl, -⟩
  · exact ⟨none, 0, rfl, fun i hi => absurd hi (by omega), fun x hx => by cases hx⟩
  · refine ⟨_, cap, rfl, fun i hi => ⟨_, rfl, h.cells (g := g) rfl i _ (hf i hi)⟩, fun x hx h0 => ?_⟩
    cases hx
    exact (h.lt g rfl).2
theorem lens_open {w : World} {base d n S B k : Nat} {F : Nat → Nat → Int} {v : Value} (h : w.ownsRow base 3 1 v k (lnL d n F S B k)) : ∃ a cap, v = .slice a k cap ∧ IntsAt w a k (fun i => ((lnF d n F S B i : Nat) : Int)) ∧ ∀ x, a = some x → 0 < k → x.block < w.heap.size :=
  owns_cells h fun i hi => by unfold lnL; rw [List.getElem?_map, List.getElem?_range hi]; rfl
theorem pnts_open {w : World} {base : Nat} {ps : List Nat} {v : Value} (h : w.ownsRow base 3 1 v ps.length (pntV ps)) : ∃ a cap, v = .slice a ps.length cap ∧ IntsAt w a ps.length (fun i => ((ps.getD i 0 : Nat) : Int)) ∧ ∀ x, a = some x → 0 < ps.length → x.block < w.heap.size :=
  owns_cells h fun i hi => by unfold pntV; rw [List.getElem?_map, List.getElem?_eq_getElem hi, List.getD_eq_getElem?_getD, List.getElem?_eq_getElem hi]; rfl

set_option maxRecDepth 4000 in
set_option maxHeartbeats 2000000 in
theorem streamEncode_any (c5 c6 c7 : Int) (d B c3 c4 : Nat) (a : Option Addr) (n cap : Nat) (A : Nat → Option Addr) (S : Nat) (C : Nat → Nat) (F : Nat → Nat → Int) (w : World) (hd1 : 1 ≤ d) (hd : d ≤ 12) (hn1 : 1 ≤ n) (hn4 : n ≤ 4) (hB1 : 1 ≤ B) (hB2 : B ≤ 32) (hc3 : c3 < 65536) (hc4 : c4 < 256) (hS : S ≤ 300)
    (hf : ∀ i, i < n → ∀ j, j < S → fitsB d (F i j) = true) (hA : ListsAt w a n A (fun _ => S) C) (hC : ∀ i, i < n → S ≤ C i) (hI : ∀ i, i < n → IntsAt w (A i) S (F i)) (hlow : Low w.heap.size a n A (fun _ => S)) (hT : TabsF w) :
    Calls Tryz.prog 49 #[.agg (cfC n d B c3 c4 c5 c6 c7), .slice a n cap] w fun e w' => e = .returned (.string (bs (streamT d n B c3 c4 F S))) ∧ Below w.heap.size w w' := by
  unfold cfC
  obtain ⟨b, off, rfl, hcell⟩ := hA.open (by omega)
  have hc0 := hcell 0 (by omega)
  simp only [Nat.add_zero] at hc0
  have hbl : b < w.heap.size := hlow.1 _ rfl (by omega : 0 < n)
  have HIO := Hid.mk' (fun u => infoOf_any n d B c3 c4 c5 c6 c7 S u)
  have HBK := Hid.mk' (fun u => blocks_any S B u hB1 (by omega) (by omega))
  have HBB := Hid.mk' (fun (u : World) (hu : Below w.heap.size w u) k (hk : k < nBlk S B) => block_any (some ⟨b, off, none⟩) n cap A S C F B k u hn1 hn4 hB1 hB2 hS hk (hA.below hu hlow.1) hC (fun i hi => (hI i hi).below hu (hlow.2 i hi)) ⟨fun x hx h0 => Nat.lt_of_lt_of_le (hlow.1 x hx h0) hu.size, fun i hi x hx h0 => Nat.lt_of_lt_of_le (hlow.2 i hi x hx h0) hu.size⟩)
  have HMK := Hid.mk' (fun (u : World) (hu : Below w.heap.size w u) k (hk : k < nBlk S B) (G : Nat) (hG : u.rowIs G 29 n (blkV A C (k * B) (blkN S B k) n)) =>
    have hbd := blkN_bd hB1 hk
    make_any B c3 c4 c5 c6 c7 d k (some ⟨G, 0, none⟩) n n (blkA A (k * B)) (blkN S B k) (fun i => C i - k * B) (blkF F B k) u hd1 hd hn1 hn4 hbd.1 (by omega) (by have := nBlk_le (S := S) hB1; omega)
      (fun i hi j hj => hf i hi (k * B + j) (by omega)) (blkV_at hG) (fun i hi => ints_cut ((hI i hi).below hu (hlow.2 i hi)) (by omega)) ⟨fun x hx h0 => by cases hx; exact hG.lt, fun i hi x hx h0 => by
        have h1 := ints_addr (hI i hi) (by omega)
        have h2 := hlow.2 i hi _ h1 (by show 0 < S; omega)
        cases hx
        exact Nat.lt_of_lt_of_le h2 hu.size⟩ (hT.below hu))
  have HLB := Hid.mk' (fun k (hk : k < nBlk S B) => lnF_bd d n F S B k hd hn1 hn4 hB1 hB2 hk)
  have HFB := Hid.mk' (frsT_bd d n F S B hd hn1 hn4 hB1 hB2)
  have HNB : Hid (nBlk S B ≤ 300) := by have := nBlk_le (S := S) hB1; show _ ≤ _; omega
  have HFN := Hid.mk' (fun (u : World) (a' : Option Addr) (cap' : Nat) hI' hl' => finished_any n d B c3 S c4 (sumN (intT n F (2 * (S * n)))) a' (nBlk S B) cap' (lnF d n F S B) u (by have := nBlk_le (S := S) hB1; omega) (by omega) (fun i hi => (lnF_bd d n F S B i hd hn1 hn4 hB1 hB2 hi).2) hI' hl')
  have hlb : ∀ i, i < nBlk S B → lnF d n F S B i ≤ 222 := fun i hi => (lnF_bd d n F S B i hd hn1 hn4 hB1 hB2 hi).2
  have HPL : Hid ((pntN (lnF d n F S B) c4 (nBlk S B)).length ≤ 300) := by have h1 := pntN_len (lnF d n F S B) c4 (nBlk S B); have h2 := HNB.out; show _ ≤ _; omega
  have HLY := Hid.mk' (fun (u : World) (a' : Option Addr) (cap' : Nat) hI' hl' => headText_any true n d B c3 S c4 (leastN (lnF d n F S B) (nBlk S B)) (mostN (lnF d n F S B) (nBlk S B)) (sumN (intT n F (2 * (S * n)))) (pntN (lnF d n F S B) c4 (nBlk S B)) a' cap' u (by omega) (by omega) (by omega) hc3 hc4 (by omega)
    (by have := leastN_bd (nBlk S B) hlb; omega) (by have := mostN_bd (nBlk S B) hlb; omega) (sumN_lt _) HPL.out (fun p hp => by have h1 := pntN_bd (nBlk S B) hlb p hp; have h2 := HNB.out; omega) hI' hl')
  simp only [Bool.toNat_true] at HLY
  clear hlb
  have hz1 : (bs (headTx 1 n d B c3 S c4 (leastN (lnF d n F S B) (nBlk S B)) (mostN (lnF d n F S B) (nBlk S B)) (sumN (intT n F (2 * (S * n)))) (pntN (lnF d n F S B) c4 (nBlk S B)))).size ≤ 700 := by rw [bs_size, headTx_length]; have := HPL.out; omega
  have hz2 : (bs (frsT d n F S B (nBlk S B))).size ≤ 66600 := by rw [bs_size]; have h1 := HFB.out (nBlk S B) (Nat.le_refl _); have h2 := HNB.out; omega
  have HSM := Hid.mk' (fun (u : World) (hu : Below w.heap.size w u) => soundSum_any (some ⟨b, off, none⟩) n cap A S C F u hn1 hn4 hS (hA.below hu hlow.1) (fun i hi => (hI i hi).below hu (hlow.2 i hi)) ⟨fun x hx h0 => Nat.lt_of_lt_of_le (hlow.1 x hx h0) hu.size, fun i hi x hx h0 => Nat.lt_of_lt_of_le (hlow.2 i hi x hx h0) hu.size⟩)
  have hB0 : Below w.heap.size w (w.alloc (.cells #[.int .i64 n, .int .i64 d, .int .i64 B, .int .i64 c3, .int .i64 c4, .int .i64 c5, .int .i64 c6, .int .i64 c7] 23)) := (Below.refl _ _).alloc (Nat.le_refl _) _
  have HB0 := Hid.mk' hB0
  clear hB0
  have HX0 : Hid (Bx (w.alloc (.cells #[.int .i64 n, .int .i64 d, .int .i64 B, .int .i64 c3, .int .i64 c4, .int .i64 c5, .int .i64 c6, .int .i64 c7] 23)).drew w.heap.size 23 #[.int .i64 n, .int .i64 d, .int .i64 B, .int .i64 c3, .int .i64 c4, .int .i64 c5, .int .i64 c6, .int .i64 c7]) := (Bx.new _ _ _ : Bx (w.alloc (.cells #[.int .i64 n, .int .i64 d, .int .i64 B, .int .i64 c3, .int .i64 c4, .int .i64 c5, .int .i64 c6, .int .i64 c7] 23)) w.heap.size 23 #[.int .i64 n, .int .i64 d, .int .i64 B, .int .i64 c3, .int .i64 c4, .int .i64 c5, .int .i64 c6, .int .i64 c7])
  have HXA : Hid (Bx ((w.alloc (.cells #[.int .i64 n, .int .i64 d, .int .i64 B, .int .i64 c3, .int .i64 c4, .int .i64 c5, .int .i64 c6, .int .i64 c7] 23)).alloc (.cells #[.int .i64 0, .int .i64 0, .int .i64 0, .int .i64 0, .int .i64 0, .int .i64 0] 46)).drew w.heap.size 23 #[.int .i64 n, .int .i64 d, .int .i64 B, .int .i64 c3, .int .i64 c4, .int .i64 c5, .int .i64 c6, .int .i64 c7]) := ((Bx.new _ _ _ : Bx (w.alloc (.cells #[.int .i64 n, .int .i64 d, .int .i64 B, .int .i64 c3, .int .i64 c4, .int .i64 c5, .int .i64 c6, .int .i64 c7] 23)) w.heap.size 23 #[.int .i64 n, .int .i64 d, .int .i64 B, .int .i64 c3, .int .i64 c4, .int .i64 c5, .int .i64 c6, .int .i64 c7]).alloc _ : Bx ((w.alloc (.cells #[.int .i64 n, .int .i64 d, .int .i64 B, .int .i64 c3, .int .i64 c4, .int .i64 c5, .int .i64 c6, .int .i64 c7] 23)).alloc (.cells #[.int .i64 0, .int .i64 0, .int .i64 0, .int .i64 0, .int .i64 0, .int .i64 0] 46)) w.heap.size 23 #[.int .i64 n, .int .i64 d, .int .i64 B, .int .i64 c3, .int .i64 c4, .int .i64 c5, .int .i64 c6, .int .i64 c7])
  have hbl2 : b < (w.alloc (.cells #[.int .i64 n, .int .i64 d, .int .i64 B, .int .i64 c3, .int .i64 c4, .int .i64 c5, .int .i64 c6, .int .i64 c7] 23)).drew.heap.size := by simp; omega
  have hbl3 : b < ((w.alloc (.cells #[.int .i64 n, .int .i64 d, .int .i64 B, .int .i64 c3, .int .i64 c4, .int .i64 c5, .int .i64 c6, .int .i64 c7] 23)).alloc (.cells #[.int .i64 0, .int .i64 0, .int .i64 0, .int .i64 0, .int .i64 0, .int .i64 0] 46)).drew.heap.size := by simp; omega
  have hS0 : w.heap.size < (w.alloc (.cells #[.int .i64 n, .int .i64 d, .int .i64 B, .int .i64 c3, .int .i64 c4, .int .i64 c5, .int .i64 c6, .int .i64 c7] 23)).drew.heap.size ∧ (w.alloc (.cells #[.int .i64 n, .int .i64 d, .int .i64 B, .int .i64 c3, .int .i64 c4, .int .i64 c5, .int .i64 c6, .int .i64 c7] 23)).drew.cell? ⟨w.heap.size, 0, none⟩ = some (.int .i64 n) ∧ (w.alloc (.cells #[.int .i64 n, .int .i64 d, .int .i64 B, .int .i64 c3, .int .i64 c4, .int .i64 c5, .int .i64 c6, .int .i64 c7] 23)).drew.cell? ⟨w.heap.size, 1, none⟩ = some (.int .i64 d) ∧ (w.alloc (.cells #[.int .i64 n, .int .i64 d, .int .i64 B, .int .i64 c3, .int .i64 c4, .int .i64 c5, .int .i64 c6, .int .i64 c7] 23)).drew.cell? ⟨w.heap.size, 2, none⟩ = some (.int .i64 B) ∧ (w.alloc (.cells #[.int .i64 n, .int .i64 d, .int .i64 B, .int .i64 c3, .int .i64 c4, .int .i64 c5, .int .i64 c6, .int .i64 c7] 23)).drew.cell? ⟨w.heap.size, 3, none⟩ = some (.int .i64 c3) ∧ (w.alloc (.cells #[.int .i64 n, .int .i64 d, .int .i64 B, .int .i64 c3, .int .i64 c4, .int .i64 c5, .int .i64 c6, .int .i64 c7] 23)).drew.cell? ⟨w.heap.size, 4, none⟩ = some (.int .i64 c4) ∧ (w.alloc (.cells #[.int .i64 n, .int .i64 d, .int .i64 B, .int .i64 c3, .int .i64 c4, .int .i64 c5, .int .i64 c6, .int .i64 c7] 23)).drew.cell? ⟨w.heap.size, 5, none⟩ = some (.int .i64 c5) ∧ (w.alloc (.cells #[.int .i64 n, .int .i64 d, .int .i64 B, .int .i64 c3, .int .i64 c4, .int .i64 c5, .int .i64 c6, .int .i64 c7] 23)).drew.cell? ⟨w.heap.size, 6, none⟩ = some (.int .i64 c6) ∧ (w.alloc (.cells #[.int .i64 n, .int .i64 d, .int .i64 B, .int .i64 c3, .int .i64 c4, .int .i64 c5, .int .i64 c6, .int .i64 c7] 23)).drew.cell? ⟨w.heap.size, 7, none⟩ = some (.int .i64 c7) ∧ (w.alloc (.cells #[.int .i64 n, .int .i64 d, .int .i64 B, .int .i64 c3, .int .i64 c4, .int .i64 c5, .int .i64 c6, .int .i64 c7] 23)).drew.cell? ⟨b, off, none⟩ = some (.slice (A 0) S (C 0)) := HX0.out.cfS ((HB0.out.cell (p := ⟨b, off, none⟩) hbl).trans hc0)
  have hSA : w.heap.size < ((w.alloc (.cells #[.int .i64 n, .int .i64 d, .int .i64 B, .int .i64 c3, .int .i64 c4, .int .i64 c5, .int .i64 c6, .int .i64 c7] 23)).alloc (.cells #[.int .i64 0, .int .i64 0, .int .i64 0, .int .i64 0, .int .i64 0, .int .i64 0] 46)).drew.heap.size ∧ ((w.alloc (.cells #[.int .i64 n, .int .i64 d, .int .i64 B, .int .i64 c3, .int .i64 c4, .int .i64 c5, .int .i64 c6, .int .i64 c7] 23)).alloc (.cells #[.int .i64 0, .int .i64 0, .int .i64 0, .int .i64 0, .int .i64 0, .int .i64 0] 46)).drew.cell? ⟨w.heap.size, 0, none⟩ = some (.int .i64 n) ∧ ((w.alloc (.cells #[.int .i64 n, .int .i64 d, .int .i64 B, .int .i64 c3, .int .i64 c4, .int .i64 c5, .int .i64 c6, .int .i64 c7] 23)).alloc (.cells #[.int .i64 0, .int .i64 0, .int .i64 0, .int .i64 0, .int .i64 0, .int .i64 0] 46)).drew.cell? ⟨w.heap.size, 1, none⟩ = some (.int .i64 d) ∧ ((w.alloc (.cells #[.int .i64 n, .int .i64 d, .int .i64 B, .int .i64 c3, .int .i64 c4, .int .i64 c5, .int .i64 c6, .int .i64 c7] 23)).alloc (.cells #[.int .i64 0, .int .i64 0, .int .i64 0, .int .i64 0, .int .i64 0, .int .i64 0] 46)).drew.cell? ⟨w.heap.size, 2, none⟩ = some (.int .i64 B) ∧ ((w.alloc (.cells #[.int .i64 n, .int .i64 d, .int .i64 B, .int .i64 c3, .int .i64 c4, .int .i64 c5, .int .i64 c6, .int .i64 c7] 23)).alloc (.cells #[.int .i64 0, .int .i64 0, .int .i64 0, .int .i64 0, .int .i64 0, .int .i64 0] 46)).drew.cell? ⟨w.heap.size, 3, none⟩ = some (.int .i64 c3) ∧ ((w.alloc (.cells #[.int .i64 n, .int .i64 d, .int .i64 B, .int .i64 c3, .int .i64 c4, .int .i64 c5, .int .i64 c6, .int .i64 c7] 23)).alloc (.cells #[.int .i64 0, .int .i64 0, .int .i64 0, .int .i64 0, .int .i64 0, .int .i64 0] 46)).drew.cell? ⟨w.heap.size, 4, none⟩ = some (.int .i64 c4) ∧ ((w.alloc (.cells #[.int .i64 n, .int .i64 d, .int .i64 B, .int .i64 c3, .int .i64 c4, .int .i64 c5, .int .i64 c6, .int .i64 c7] 23)).alloc (.cells #[.int .i64 0, .int .i64 0, .int .i64 0, .int .i64 0, .int .i64 0, .int .i64 0] 46)).drew.cell? ⟨w.heap.size, 5, none⟩ = some (.int .i64 c5) ∧ ((w.alloc (.cells #[.int .i64 n, .int .i64 d, .int .i64 B, .int .i64 c3, .int .i64 c4, .int .i64 c5, .int .i64 c6, .int .i64 c7] 23)).alloc (.cells #[.int .i64 0, .int .i64 0, .int .i64 0, .int .i64 0, .int .i64 0, .int .i64 0] 46)).drew.cell? ⟨w.heap.size, 6, none⟩ = some (.int .i64 c6) ∧ ((w.alloc (.cells #[.int .i64 n, .int .i64 d, .int .i64 B, .int .i64 c3, .int .i64 c4, .int .i64 c5, .int .i64 c6, .int .i64 c7] 23)).alloc (.cells #[.int .i64 0, .int .i64 0, .int .i64 0, .int .i64 0, .int .i64 0, .int .i64 0] 46)).drew.cell? ⟨w.heap.size, 7, none⟩ = some (.int .i64 c7) ∧ ((w.alloc (.cells #[.int .i64 n, .int .i64 d, .int .i64 B, .int .i64 c3, .int .i64 c4, .int .i64 c5, .int .i64 c6, .int .i64 c7] 23)).alloc (.cells #[.int .i64 0, .int .i64 0, .int .i64 0, .int .i64 0, .int .i64 0, .int .i64 0] 46)).drew.cell? ⟨b, off, none⟩ = some (.slice (A 0) S (C 0)) := ks_al hbl2 hS0
  have HZ0 : Hid (Bx ((w.alloc (.cells #[.int .i64 n, .int .i64 d, .int .i64 B, .int .i64 c3, .int .i64 c4, .int .i64 c5, .int .i64 c6, .int .i64 c7] 23)).alloc (.cells #[.int .i64 0, .int .i64 0, .int .i64 0, .int .i64 0, .int .i64 0, .int .i64 0] 46)).drew (w.heap.size + 1) 46 #[.int .i64 0, .int .i64 0, .int .i64 0, .int .i64 0, .int .i64 0, .int .i64 0]) := Bx.new2 (by simp) _ _
  clear hf hA hC hI hlow hT hcell
  have hn0 : (0 : Int) < (n : Int) := by omega
  have hn02 : 0 < n := hn1
  have hwb : w.heap.size ≠ b := by omega
  go_enter Tryz.func49, Tryz.ntmps49
  go_wp2_with fail
  go_cut [5] (fun s5 wx => ∃ g : Nat, s5 = .pointer (some ⟨g, 0, none⟩) ∧ Hid (w.heap.size < g ∧ g < wx.heap.size ∧ Below w.heap.size w wx ∧ Bx wx w.heap.size 23 #[.int .i64 n, .int .i64 d, .int .i64 B, .int .i64 c3, .int .i64 c4, .int .i64 c5, .int .i64 c6, .int .i64 c7] ∧ Bx wx g 46 #[.int .i64 n, .int .i64 d, .int .i64 B, .int .i64 c3, .int .i64 c4, .int .i64 S]))
  case first =>
    go_region_held3 (fun w' => w.heap.size < w'.heap.size ∧ w'.cell? ⟨w.heap.size, 0, none⟩ = some (.int .i64 n) ∧ w'.cell? ⟨w.heap.size, 1, none⟩ = some (.int .i64 d) ∧ w'.cell? ⟨w.heap.size, 2, none⟩ = some (.int .i64 B) ∧ w'.cell? ⟨w.heap.size, 3, none⟩ = some (.int .i64 c3) ∧ w'.cell? ⟨w.heap.size, 4, none⟩ = some (.int .i64 c4) ∧ w'.cell? ⟨w.heap.size, 5, none⟩ = some (.int .i64 c5) ∧ w'.cell? ⟨w.heap.size, 6, none⟩ = some (.int .i64 c6) ∧ w'.cell? ⟨w.heap.size, 7, none⟩ = some (.int .i64 c7) ∧ w'.cell? ⟨b, off, none⟩ = some (.slice (A 0) S (C 0)))
      (first | with_reducible exact hS0 | with_reducible exact hSA | with_reducible exact hS1 | with_reducible exact ks_al hb1l hS1 | with_reducible exact ks_st (Nat.ne_of_lt (Nat.lt_succ_self _)) hbg1 hS1)
      (first | (go_at_call 82; refine (HIO.out _).mono ?_; rintro e u1 ⟨rfl, hb1⟩; have hS1 : w.heap.size < u1.heap.size ∧ u1.cell? ⟨w.heap.size, 0, none⟩ = some (.int .i64 n) ∧ u1.cell? ⟨w.heap.size, 1, none⟩ = some (.int .i64 d) ∧ u1.cell? ⟨w.heap.size, 2, none⟩ = some (.int .i64 B) ∧ u1.cell? ⟨w.heap.size, 3, none⟩ = some (.int .i64 c3) ∧ u1.cell? ⟨w.heap.size, 4, none⟩ = some (.int .i64 c4) ∧ u1.cell? ⟨w.heap.size, 5, none⟩ = some (.int .i64 c5) ∧ u1.cell? ⟨w.heap.size, 6, none⟩ = some (.int .i64 c6) ∧ u1.cell? ⟨w.heap.size, 7, none⟩ = some (.int .i64 c7) ∧ u1.cell? ⟨b, off, none⟩ = some (.slice (A 0) S (C 0)) := (by first | exact ks_below hb1 hbl2 hS0 | exact ks_below hb1 hbl3 hSA); have HX1 : Hid (Bx u1 w.heap.size 23 #[.int .i64 n, .int .i64 d, .int .i64 B, .int .i64 c3, .int .i64 c4, .int .i64 c5, .int .i64 c6, .int .i64 c7]) := (by first | exact HX0.out.below hb1 | exact HXA.out.below hb1); have HB1 : Hid (Below w.heap.size w u1) := (by first | exact HB0.out.drew.trans (hb1.mono (by simp)) | exact (HB0.out.alloc HB0.out.size _).drew.trans (hb1.mono (by simp; omega))); have hb1l : b < u1.heap.size := Nat.lt_of_lt_of_le hbl HB1.out.size; have hbg1 : b ≠ w.heap.size + 1 := (by omega); (first | (have hz1 := HZ0.out.below hb1; obtain ⟨q0, q1, q2, q3, q4, q5, z0, z1, z2, z3, z4, z5⟩ := six_of_blk hz1; have HZ1 := Hid.mk' hz1; clear hz1) | skip)))
    · go_wp2
      go_meet
      case rel => exact ⟨u1.heap.size, rfl, Nat.lt_of_lt_of_le HX1.out.lt (Nat.le_refl _), by simp, HB1.out.alloc HB1.out.size _, HX1.out.alloc _, Bx.new _ _ _⟩
    · go_wp2
      go_meet
      case rel => exact ⟨w.heap.size + 1, rfl, Nat.lt_succ_self _, by simp only [size_set]; exact HZ1.out.lt, set6_below HB1.out (Nat.le_succ _), HX1.out.of ((set6_grown u1 _ _ _ _ _ _ _).block _ HX1.out.lt (by simp)), HZ1.out.set6 _ _ _ _ _ _⟩
  case rest =>
    obtain ⟨g, rfl, HC⟩ := hcut
    have hxc := HC.out.2.2.2.1
    have hS2 := hxc.cfS ((HC.out.2.2.1.cell (p := ⟨b, off, none⟩) hbl).trans hc0)
    unfold CfS at hS2
    have hg1 := HC.out.2.1
    have hw1 : w.heap.size < wc.heap.size := Nat.lt_trans HC.out.1 hg1
    have hb1 : b < wc.heap.size := Nat.lt_trans hbl hw1
    have xi5 : wc.cell? ⟨g, 5, none⟩ = some (.int .i64 S) := HC.out.2.2.2.2.cell 5
    clear hxc hS0 hSA HX0 HXA HZ0 HB0 HIO hbl2 hbl3
    go_wp2_with (go_at_call 83; refine (HBK.out _).mono ?_; rintro e u2 ⟨rfl, hw⟩; subst u2)
    clear hS2 xi5
    go_loopw [7, 8, 9, 21] (fun lv _ _ kv wr => ∃ k : Nat, ∃ ov : Value, k ≤ nBlk S B ∧ kv = .int .i64 k ∧ ov = lv ∧ Hid (EncI w wc wr g #[.int .i64 n, .int .i64 d, .int .i64 B, .int .i64 c3, .int .i64 c4, .int .i64 c5, .int .i64 c6, .int .i64 c7] #[.int .i64 n, .int .i64 d, .int .i64 B, .int .i64 c3, .int .i64 c4, .int .i64 S] (frsT d n F S B k) ov k (lnL d n F S B k))) (fun _ _ _ kv _ => nBlk S B - (intOf kv).toNat)
    case atStart => exact ⟨0, .slice none 0 0, Nat.zero_le _, rfl, rfl, HC.out.2.2.2.1.alloc _, HC.out.2.2.2.2.alloc _, Bld.new wc, World.ownsRow_nil _ _ _ _, HC.out.2.2.1.alloc HC.out.2.2.1.size _, by simp⟩
    case round =>
      obtain ⟨k, kv, hk, rfl, e, HR⟩ := hrel
      subst e
      by_cases hlt : k < nBlk S B
      · have hbd := blkN_bd hB1 hlt
        have HBW := Hid.mk' HR.out.below
        have HBL1 := Hid.mk' (fun (u : World) (hu : Below wr.heap.size wr u) =>
          have hu2 := HBW.out.trans (hu.mono HBW.out.size)
          HBB.out u hu2 k hlt)
        have HMK1 : Hid (∀ (u : World) (hu : Below w.heap.size w u) (G : Nat) (hG : u.rowIs G 29 n (blkV A C (k * B) (blkN S B k) n)), Calls Tryz.prog 38 #[.agg #[.int .i64 n, .int .i64 d, .int .i64 B, .int .i64 c3, .int .i64 c4, .int .i64 c5, .int .i64 c6, .int .i64 c7], .int .i64 k, .slice (some ⟨G, 0, none⟩) n n] u fun e w' => e = .returned (.string (bs (frT d n F S B k))) ∧ Below u.heap.size u w') := fun u hu => HMK.out u hu k hlt
        have hS3 := HR.out.cfg.cfS ((HR.out.below.cell (p := ⟨b, off, none⟩) hbl).trans hc0)
        unfold CfS at hS3
        have hS4 : w.heap.size < wr.drew.heap.size ∧ wr.drew.cell? ⟨w.heap.size, 0, none⟩ = some (.int .i64 n) ∧ wr.drew.cell? ⟨w.heap.size, 1, none⟩ = some (.int .i64 d) ∧ wr.drew.cell? ⟨w.heap.size, 2, none⟩ = some (.int .i64 B) ∧ wr.drew.cell? ⟨w.heap.size, 3, none⟩ = some (.int .i64 c3) ∧ wr.drew.cell? ⟨w.heap.size, 4, none⟩ = some (.int .i64 c4) ∧ wr.drew.cell? ⟨w.heap.size, 5, none⟩ = some (.int .i64 c5) ∧ wr.drew.cell? ⟨w.heap.size, 6, none⟩ = some (.int .i64 c6) ∧ wr.drew.cell? ⟨w.heap.size, 7, none⟩ = some (.int .i64 c7) ∧ wr.drew.cell? ⟨b, off, none⟩ = some (.slice (A 0) S (C 0)) := hS3
        have hbr : b < wr.heap.size := Nat.lt_of_lt_of_le hbl HBW.out.size
        clear hS3
        go_wp2_with fail
        go_region_held3 (fun w' => w.heap.size < w'.heap.size ∧ w'.cell? ⟨w.heap.size, 0, none⟩ = some (.int .i64 n) ∧ w'.cell? ⟨w.heap.size, 1, none⟩ = some (.int .i64 d) ∧ w'.cell? ⟨w.heap.size, 2, none⟩ = some (.int .i64 B) ∧ w'.cell? ⟨w.heap.size, 3, none⟩ = some (.int .i64 c3) ∧ w'.cell? ⟨w.heap.size, 4, none⟩ = some (.int .i64 c4) ∧ w'.cell? ⟨w.heap.size, 5, none⟩ = some (.int .i64 c5) ∧ w'.cell? ⟨w.heap.size, 6, none⟩ = some (.int .i64 c6) ∧ w'.cell? ⟨w.heap.size, 7, none⟩ = some (.int .i64 c7) ∧ w'.cell? ⟨b, off, none⟩ = some (.slice (A 0) S (C 0)))
          (with_reducible assumption)
          (first
          | (go_at_call 84; refine (HBL1.out _ (Below.refl _ _).drew).mono ?_; rintro e u1 ⟨rfl, hrow, hb1⟩; have HRW := Hid.mk' hrow; have hS5 := ks_below hb1 hbr hS4; have HB1 : Hid (Below wr.heap.size wr u1) := (⟨hb1.os, hb1.tape, hb1.output, hb1.size, hb1.block⟩ : Below wr.heap.size wr u1); have hbr1 := Nat.lt_of_lt_of_le hbr HB1.out.size; clear HBL1 hS4 hrow hb1)
          | (go_at_call 38; refine (HMK1.out _ (HBW.out.trans (HB1.out.mono HBW.out.size)) _ HRW.out).mono ?_; rintro e u2 ⟨rfl, hb2⟩; have hS6 := ks_below hb2 hbr1 hS5; have HB2 : Hid (Below wr.heap.size wr u2) := HB1.out.trans (hb2.mono HB1.out.size); clear HMK1 hS5 hb2 HB1 HRW))
        have HE2 := Hid.mk' (HR.out.next HB2.out)
        have hs2 := HE2.out.size
        have HW := Hid.mk' (bld_write wc.heap.size wc.heap.size (frsT d n F S B k) (frT d n F S B k) u2 HE2.out.bld (fun e => by have := (HLB.out k hlt).1; unfold lnF at this; rw [e] at this; simp at this) (by have h1 := HFB.out k hk; have h2 := (HLB.out k hlt).2; have h3 := HNB.out; unfold lnF at h2; omega) (by omega))
        have hz : (bs (frT d n F S B k)).size = lnF d n F S B k := bs_size _
        rw [hz] at HW
        have hzb := HLB.out k hlt
        have HFS : Hid (frsT d n F S B (k + 1) = frsT d n F S B k ++ frT d n F S B k) := rfl
        have HLS := Hid.mk' (lnL_snoc d n F S B k)
        have hnb := HNB.out
        generalize bs (frT d n F S B k) = X at *
        generalize lnF d n F S B k = ln at *
        clear hS6
        go_wp2_with (first
          | (go_at_call 85; refine HW.out.mono ?_; rintro e u3 ⟨rfl, hbl3, hb3, hok3⟩; have hE3 := HE2.out.written hw1 hg1 hbl3 hb3 hok3; obtain ⟨g', c', u4, hr, ho, hgr⟩ := app_row 29 3 (.int .i64 0) 8 Tryz.underlying29 infoInt rfl u3 _ kv _ _ #[.int .i64 (ln : Int)] hE3.own (by simp) (by intro u hu; simp at hu; rw [hu]; rfl) (by simp only [maxLen]; simp; omega) (by simp; omega) hE3.size 29; have HE4 := Hid.mk' (hE3.grew hw1 hg1 ho hgr (hE3.bld.grew hE3.own (Nat.lt_succ_self _) hgr)); have HAP : Hid (_ = _) := hr; clear hbl3 hb3 hok3 hE3 hr ho hgr HW)
          | (at_builtin; refine wpList_append_rn rfl _ _ _ rfl _ _ _ rfl rfl HAP.out ?_; clear HAP))
        go_roundw
        case rel => exact ⟨k + 1, _, by omega, by go_num, rfl, by rw [HFS.out, HLS.out]; exact HE4.out⟩
        case measure => simp [intOf]; omega
      · have e : k = nBlk S B := by omega
        subst e
        obtain ⟨a', cap', hkv, hI', hl'⟩ := lens_open HR.out.own
        subst hkv
        have HI' := Hid.mk' hI'
        have HL' := Hid.mk' hl'
        have hS7 : g < wr.drew.heap.size ∧ wr.drew.cell? ⟨g, 0, none⟩ = some (.int .i64 n) ∧ wr.drew.cell? ⟨g, 1, none⟩ = some (.int .i64 d) ∧ wr.drew.cell? ⟨g, 2, none⟩ = some (.int .i64 B) ∧ wr.drew.cell? ⟨g, 3, none⟩ = some (.int .i64 c3) ∧ wr.drew.cell? ⟨g, 4, none⟩ = some (.int .i64 c4) ∧ wr.drew.cell? ⟨g, 5, none⟩ = some (.int .i64 S) := ⟨HR.out.inf.lt, HR.out.inf.cell 0, HR.out.inf.cell 1, HR.out.inf.cell 2, HR.out.inf.cell 3, HR.out.inf.cell 4, HR.out.inf.cell 5⟩
        have HBW := Hid.mk' HR.out.below
        have HBD := Hid.mk' (fun (u : World) (hu : Below wr.heap.size wr u) => bld_string wc.heap.size wc.heap.size (frsT d n F S B (nBlk S B)) u (HR.out.bld.below hu))
        clear hI' hl' HBK HBB HMK HLB HFB HR
        generalize hX1 : bs (headTx 1 n d B c3 S c4 (leastN (lnF d n F S B) (nBlk S B)) (mostN (lnF d n F S B) (nBlk S B)) (sumN (intT n F (2 * (S * n)))) (pntN (lnF d n F S B) c4 (nBlk S B))) = X1 at *
        generalize hX2 : bs (frsT d n F S B (nBlk S B)) = X2 at *
        have HX12 : Hid (X1 ++ X2 = bs (streamT d n B c3 c4 F S)) := by show _ = _; rw [← hX1, ← hX2, bs_append]; rfl
        clear hX1 hX2
        have q8 : ¬ 9223372036854775807 < X1.size + X2.size := by omega
        go_wp2_with fail
        go_region_held3 (fun w' => g < w'.heap.size ∧ w'.cell? ⟨g, 0, none⟩ = some (.int .i64 n) ∧ w'.cell? ⟨g, 1, none⟩ = some (.int .i64 d) ∧ w'.cell? ⟨g, 2, none⟩ = some (.int .i64 B) ∧ w'.cell? ⟨g, 3, none⟩ = some (.int .i64 c3) ∧ w'.cell? ⟨g, 4, none⟩ = some (.int .i64 c4) ∧ w'.cell? ⟨g, 5, none⟩ = some (.int .i64 S))
          (with_reducible assumption)
          (first
          | (go_at_call 87; refine (HSM.out _ HBW.out.drew).mono ?_; rintro e u1 ⟨rfl, hb1⟩; have hS8 := ki_below hb1 hS7; have HB1 : Hid (Below wr.heap.size wr u1) := (⟨hb1.os, hb1.tape, hb1.output, hb1.size, hb1.block⟩ : Below wr.heap.size wr u1); clear HSM hS7 hb1)
          | (go_at_call 86; refine (HFN.out _ _ _ (HI'.out.below HB1.out HL'.out) (fun x hx h0 => Nat.lt_of_lt_of_le (HL'.out x hx h0) HB1.out.size)).mono ?_; rintro e u2 ⟨pv, rfl, hown, hb2⟩; obtain ⟨a2, cp2, rfl, hI2, hl2⟩ := pnts_open hown; have HLY2 := Hid.mk' (HLY.out u2 a2 cp2 hI2 hl2); have hS9 := ki_below hb2 hS8; have HB2 := Hid.mk' (HB1.out.trans (hb2.mono HB1.out.size)); clear HFN hS8 HB1 hown hI2 hl2 hb2 HLY)
          | (go_at_call 88; refine HLY2.out.mono ?_; rintro e u3 ⟨rfl, hb3⟩; have hS10 := ki_below hb3 hS9; have HB3 := Hid.mk' (HB2.out.trans (hb3.mono HB2.out.size)); clear HLY2 hS9 HB2 hb3)
          | (go_at_call 89; refine (HBD.out _ HB3.out).mono ?_; rintro e u4 ⟨rfl, hb4⟩; have hS11 := ki_belowB hg1 hb4 hS10; have HB4 := Hid.mk' (HBW.out.trans ((HB3.out.mono HBW.out.size).trans (hb4.mono (Nat.le_of_lt hw1)))); clear HBD hS10 HB3 hb4))
        go_wp2
        go_ret
        exact ⟨by rw [← HX12.out]; rfl, HB4.out⟩
end Go.Proofs.YtjpdfdihpfmgjaaGreatDoor

/-
  What Encode answers; reel.Check, reel.Encode.
-/
namespace Go.Proofs.YtjpdfdihpfmgjaaGreatDoor
open Go.RowKit Go.Deep
set_option linter.unusedVariables false

def encOk (c0 c1 c2 c3 c4 c5 c6 c7 : Int) (n : Nat) (L : Nat → Nat) (F : Nat → Nat → Int) : Prop :=
  rightB c0 c1 c2 c3 c4 c5 c6 c7 = true ∧ ChanP c0 c1.toNat n 0 300 L F
open Classical in
noncomputable def encE (c0 c1 c2 c3 c4 c5 c6 c7 : Int) (n : Nat) (L : Nat → Nat) (F : Nat → Nat → Int) : Int :=
  if rightB c0 c1 c2 c3 c4 c5 c6 c7 = true then (if ChanP c0 c1.toNat n 0 300 L F then 0 else 2) else 1
open Classical in
noncomputable def encS (c0 c1 c2 c3 c4 c5 c6 c7 : Int) (n : Nat) (L : Nat → Nat) (F : Nat → Nat → Int) : ByteArray :=
  if encOk c0 c1 c2 c3 c4 c5 c6 c7 n L F then bs (streamT c1.toNat n c2.toNat c3.toNat c4.toNat F (L 0)) else ⟨#[]⟩
theorem enc_no {c0 c1 c2 c3 c4 c5 c6 c7 : Int} {n : Nat} {L : Nat → Nat} {F : Nat → Nat → Int} (h : ¬ encOk c0 c1 c2 c3 c4 c5 c6 c7 n L F) : encS c0 c1 c2 c3 c4 c5 c6 c7 n L F = ⟨#[]⟩ := by
  unfold encS; rw [if_neg h]
theorem enc_yes {c0 c1 c2 c3 c4 c5 c6 c7 : Int} {n : Nat} {L : Nat → Nat} {F : Nat → Nat → Int} (h : encOk c0 c1 c2 c3 c4 c5 c6 c7 n L F) :
    encS c0 c1 c2 c3 c4 c5 c6 c7 n L F = bs (streamT c1.toNat n c2.toNat c3.toNat c4.toNat F (L 0)) ∧ encE c0 c1 c2 c3 c4 c5 c6 c7 n L F = 0 := by
  unfold encS encE; rw [if_pos h, if_pos h.1, if_pos h.2]; exact ⟨rfl, rfl⟩
theorem enc_e {c0 c1 c2 c3 c4 c5 c6 c7 : Int} {n : Nat} {L : Nat → Nat} {F : Nat → Nat → Int} (h : ¬ encOk c0 c1 c2 c3 c4 c5 c6 c7 n L F) : encE c0 c1 c2 c3 c4 c5 c6 c7 n L F = 1 ∨ encE c0 c1 c2 c3 c4 c5 c6 c7 n L F = 2 := by
  unfold encE
  by_cases h1 : rightB c0 c1 c2 c3 c4 c5 c6 c7 = true
  · rw [if_pos h1, if_neg (fun h2 => h ⟨h1, h2⟩)]; exact .inr rfl
  · rw [if_neg h1]; exact .inl rfl

set_option maxHeartbeats 1000000 in
theorem reelCheck_any (c0 c1 c2 c3 c4 c5 c6 c7 : Int) (a : Option Addr) (n cap : Nat) (A : Nat → Option Addr) (L C : Nat → Nat) (F : Nat → Nat → Int) (w : World) (hn : n ≤ 17592186044416) (hL : ∀ i, i < n → L i ≤ 17592186044416)
    (hA : ListsAt w a n A L C) (hI : ∀ i, i < n → IntsAt w (A i) (L i) (F i)) (hlow : Low w.heap.size a n A L) :
    Calls Tryz.prog 48 #[.agg #[.int .i64 c0, .int .i64 c1, .int .i64 c2, .int .i64 c3, .int .i64 c4, .int .i64 c5, .int .i64 c6, .int .i64 c7], .slice a n cap] w fun e w' =>
      e = .returned (.int .i64 (encE c0 c1 c2 c3 c4 c5 c6 c7 n L F)) ∧ Below w.heap.size w w' := by
  have hb0 : Below w.heap.size w (w.alloc (.cells #[.int .i64 c0, .int .i64 c1, .int .i64 c2, .int .i64 c3, .int .i64 c4, .int .i64 c5, .int .i64 c6, .int .i64 c7] 23)) := (Below.refl _ _).alloc (Nat.le_refl _) _
  have HB0 := Hid.mk' hb0
  have HRC := Hid.mk' (fun u => rightConfig_any c0 c1 c2 c3 c4 c5 c6 c7 u)
  clear hb0
  unfold encE
  cases hr : rightB c0 c1 c2 c3 c4 c5 c6 c7 with
  | false =>
    rw [hr] at HRC
    rw [if_neg (by simp)]
    clear hr hA hI hlow hL
    go_enter Tryz.func48, Tryz.ntmps48
    go_wp2_with (go_at_call 61; refine (HRC.out _).mono ?_; rintro e u1 ⟨rfl, hb⟩; have HB1 := Hid.mk' (HB0.out.trans (hb.mono (by simp))); clear hb HRC HB0)
    go_ret
    exact ⟨rfl, HB1.out⟩
  | true =>
    rw [hr] at HRC
    rw [if_pos rfl]
    obtain ⟨hc0, hc4, hc2, d, rfl, h1, h2⟩ := rightB_d hr
    have lowU : ∀ u, Below w.heap.size w u → Low u.heap.size a n A L := fun u hu => ⟨fun x hx h0 => Nat.lt_of_lt_of_le (hlow.1 x hx h0) hu.size, fun i hi x hx h0 => Nat.lt_of_lt_of_le (hlow.2 i hi x hx h0) hu.size⟩
    have HIB := Hid.mk' (fun (u : World) (hu : Below w.heap.size w u) => isSound_any c0 c2 c3 c4 c5 c6 c7 d a n cap A L C F u hc0 (by omega) (by omega) hn hL (hA.below hu hlow.1) (fun i hi => (hI i hi).below hu (hlow.2 i hi)) (lowU u hu))
    rw [Int.toNat_natCast]
    clear hA hI hlow hL lowU hr
    by_cases hs : ChanP c0 d n 0 300 L F
    · rw [if_pos hs]
      have HS := Hid.mk' hs
      clear hs
      go_enter Tryz.func48, Tryz.ntmps48
      go_wp2_with (first
        | (go_at_call 61; refine (HRC.out _).mono ?_; rintro e u1 ⟨rfl, hb⟩; obtain ⟨hc1, hf1⟩ := bcell hb; have hs1 : w.heap.size < u1.heap.size := by {have := hb.size; simp at this; omega}; have HB1 := Hid.mk' (HB0.out.trans (hb.mono (by simp))); clear hb hf1 HRC HB0)
        | (go_at_call 81; refine (HIB.out _ ?_).mono ?_; exact HB1.out; rintro e u2 ⟨he, hb⟩; have he := he.true_of HS.out; subst he; have HB2 := Hid.mk' (HB1.out.trans (hb.mono HB1.out.size)); clear hb HIB HB1))
      go_ret
      exact ⟨rfl, HB2.out⟩
    · rw [if_neg hs]
      have HS := Hid.mk' hs
      clear hs
      go_enter Tryz.func48, Tryz.ntmps48
      go_wp2_with (first
        | (go_at_call 61; refine (HRC.out _).mono ?_; rintro e u1 ⟨rfl, hb⟩; obtain ⟨hc1, hf1⟩ := bcell hb; have hs1 : w.heap.size < u1.heap.size := by {have := hb.size; simp at this; omega}; have HB1 := Hid.mk' (HB0.out.trans (hb.mono (by simp))); clear hb hf1 HRC HB0)
        | (go_at_call 81; refine (HIB.out _ ?_).mono ?_; exact HB1.out; rintro e u2 ⟨he, hb⟩; have he := he.false_of HS.out; subst he; have HB2 := Hid.mk' (HB1.out.trans (hb.mono HB1.out.size)); clear hb HIB HB1))
      go_ret
      exact ⟨rfl, HB2.out⟩

set_option maxHeartbeats 2000000 in
theorem reelEncode_any (c0 c1 c2 c3 c4 c5 c6 c7 : Int) (a : Option Addr) (n cap : Nat) (A : Nat → Option Addr) (L C : Nat → Nat) (F : Nat → Nat → Int) (w : World) (hn : n ≤ 17592186044416) (hL : ∀ i, i < n → L i ≤ 17592186044416) (hC : ∀ i, i < n → L i ≤ C i)
    (hA : ListsAt w a n A L C) (hI : ∀ i, i < n → IntsAt w (A i) (L i) (F i)) (hlow : Low w.heap.size a n A L) (hT : TabsF w) :
    Calls Tryz.prog 19 #[.agg #[.int .i64 c0, .int .i64 c1, .int .i64 c2, .int .i64 c3, .int .i64 c4, .int .i64 c5, .int .i64 c6, .int .i64 c7], .slice a n cap] w fun e w' =>
      e = .returned (.tuple #[.string (encS c0 c1 c2 c3 c4 c5 c6 c7 n L F), .int .i64 (encE c0 c1 c2 c3 c4 c5 c6 c7 n L F)]) ∧ Below w.heap.size w w' := by
  have hb0 : Below w.heap.size w (w.alloc (.cells #[.int .i64 c0, .int .i64 c1, .int .i64 c2, .int .i64 c3, .int .i64 c4, .int .i64 c5, .int .i64 c6, .int .i64 c7] 23)) := (Below.refl _ _).alloc (Nat.le_refl _) _
  have HB0 := Hid.mk' hb0
  have lowU : ∀ u, Below w.heap.size w u → Low u.heap.size a n A L := fun u hu => ⟨fun x hx h0 => Nat.lt_of_lt_of_le (hlow.1 x hx h0) hu.size, fun i hi x hx h0 => Nat.lt_of_lt_of_le (hlow.2 i hi x hx h0) hu.size⟩
  have HCK := Hid.mk' (fun (u : World) (hu : Below w.heap.size w u) => reelCheck_any c0 c1 c2 c3 c4 c5 c6 c7 a n cap A L C F u hn hL (hA.below hu hlow.1) (fun i hi => (hI i hi).below hu (hlow.2 i hi)) (lowU u hu))
  by_cases hok : encOk c0 c1 c2 c3 c4 c5 c6 c7 n L F
  · obtain ⟨eS, eE⟩ := enc_yes hok
    rw [eE] at HCK
    rw [eS, eE]
    obtain ⟨hr, hs⟩ := hok
    obtain ⟨hc0, hc4, hc2, d, rfl, h1, h2⟩ := rightB_d hr
    have hri : 0 ≤ c3 ∧ c3 ≤ 65535 ∧ 0 ≤ c4 ∧ c4 ≤ 255 := by
      rw [rightB_info] at hr
      simp [infoB, within_iff] at hr
      omega
    obtain ⟨hnc, hL0, hall⟩ := hs
    subst hnc
    rw [within_iff] at hL0
    obtain ⟨B, rfl⟩ : ∃ B : Nat, c2 = (B : Int) := ⟨c2.toNat, by omega⟩
    obtain ⟨r, rfl⟩ : ∃ r : Nat, c3 = (r : Int) := ⟨c3.toNat, by omega⟩
    obtain ⟨k, rfl⟩ : ∃ k : Nat, c4 = (k : Int) := ⟨c4.toNat, by omega⟩
    simp only [Int.toNat_natCast] at *
    have hA2 : ListsAt w a n A (fun _ => L 0) C := fun i hi => by
      obtain ⟨x, hx, hc⟩ := hA i hi
      rw [(hall i hi).1] at hc
      exact ⟨x, hx, hc⟩
    have hI2 : ∀ i, i < n → IntsAt w (A i) (L 0) (F i) := fun i hi => by have := hI i hi; rw [(hall i hi).1] at this; exact this
    have hlow2 : Low w.heap.size a n A (fun _ => L 0) := ⟨hlow.1, fun i hi x hx h0 => hlow.2 i hi x hx (by rw [(hall i hi).1]; exact h0)⟩
    have HMK := Hid.mk' (fun (u : World) (hu : Below w.heap.size w u) => streamEncode_any c5 c6 c7 d B r k a n cap A (L 0) C F u (by omega) h2 (by omega) (by omega) (by omega) (by omega) (by omega) (by omega) (by omega) (fun i hi j hj => (hall i hi).2 j (by rw [(hall i hi).1]; exact hj)) (hA2.below hu hlow2.1) (fun i hi => by have := hC i hi; rw [(hall i hi).1] at this; exact this) (fun i hi => (hI2 i hi).below hu (hlow2.2 i hi))
      ⟨fun x hx h0 => Nat.lt_of_lt_of_le (hlow2.1 x hx h0) hu.size, fun i hi x hx h0 => Nat.lt_of_lt_of_le (hlow2.2 i hi x hx h0) hu.size⟩ (hT.below hu))
    clear hA hI hlow hT lowU hall hA2 hI2 hlow2 hr hb0 hL hC eS eE
    generalize bs (streamT d n B r k F (L 0)) = R at *
    go_enter Tryz.func19, Tryz.ntmps19
    go_wp2_with (first
      | (go_at_call 48; refine (HCK.out _ ?_).mono ?_; exact HB0.out; rintro e u1 ⟨rfl, hb⟩; obtain ⟨hc1, hf1⟩ := bcell hb; have hs1 : w.heap.size < u1.heap.size := by {have := hb.size; simp at this; omega}; have HB1 := Hid.mk' (HB0.out.trans (hb.mono (by simp))); clear hb hf1 HCK HB0)
      | (go_at_call 49; refine (HMK.out _ ?_).mono ?_; exact HB1.out; rintro e u3 ⟨rfl, hb⟩; have HB3 := Hid.mk' (HB1.out.trans (hb.mono (Nat.le_of_lt hs1))); clear hb HMK HB1))
    go_ret2
    exact ⟨rfl, HB3.out⟩
  · have hS := enc_no hok
    rw [hS]
    have hE := enc_e hok
    clear hA hI hlow hT lowU hb0 hL hC hS hok
    generalize encE c0 c1 c2 c3 c4 c5 c6 c7 n L F = E at *
    have tE : (E != 0) = true := by rcases hE with h | h <;> rw [h] <;> rfl
    have tE2 : ¬ E = 0 := by omega
    clear hE
    go_enter Tryz.func19, Tryz.ntmps19
    go_wp2_with (go_at_call 48; refine (HCK.out _ ?_).mono ?_; exact HB0.out; rintro e u1 ⟨rfl, hb⟩; have HB1 := Hid.mk' (HB0.out.trans (hb.mono (by simp))); clear hb HCK HB0)
    go_ret2
    exact ⟨rfl, HB1.out⟩
end Go.Proofs.YtjpdfdihpfmgjaaGreatDoor

