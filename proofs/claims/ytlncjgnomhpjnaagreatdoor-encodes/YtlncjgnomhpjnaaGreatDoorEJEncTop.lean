import Derived.Test.YtlncjgnomhpjnaaGreatDoorEKEncJoin
import Derived.Test.YtlncjgnomhpjnaaGreatDoorEJEncAll
import Derived.Deep.RegionHeld3
import Derived.Deep.DeepCutAuto
import Derived.Test.YtlncjgnomhpjnaaGreatDoorEJEncBlock
import Derived.Test.YtlncjgnomhpjnaaGreatDoorEJEncSound
import Derived.Test.YtlncjgnomhpjnaaGreatDoorEKFrameTop
/-
  stream.Encode, reel.Check, reel.Encode.
-/
namespace Go.Proofs.YtlncjgnomhpjnaaGreatDoor
open Go.RowKit Go.Deep
set_option linter.unusedVariables false

/-- what holds while blocks are packed -/
structure EncI (w wc wr : World) (g : Nat) (cs is : Array Value) (kv : Value) (k : Nat) (ls : List Value) : Prop where
  cfg : Bx wr w.heap.size 23 cs
  inf : Bx wr g 46 is
  own : wr.ownsRow wc.heap.size 9 1 kv k ls
  below : Below w.heap.size w wr
  size : wc.heap.size ≤ wr.heap.size
theorem EncI.next {w wc wr u : World} {g : Nat} {cs is : Array Value} {kv : Value} {k : Nat} {ls : List Value} (h : EncI w wc wr g cs is kv k ls) (hb : Below wr.heap.size wr u) : EncI w wc u g cs is kv k ls :=
  ⟨h.cfg.below hb, h.inf.below hb, h.own.kept ⟨hb.os, hb.tape, hb.output, hb.size, fun j hj _ => hb.block j hj⟩ (Classical.em _), h.below.trans (hb.mono h.below.size), Nat.le_trans h.size hb.size⟩
theorem EncI.grew {w wc wr u : World} {g : Nat} {cs is : Array Value} {kv kv' : Value} {k : Nat} {ls ls' : List Value} (h : EncI w wc wr g cs is kv k ls) (hg1 : w.heap.size < wc.heap.size) (hg2 : g < wc.heap.size) (ho : u.ownsRow wc.heap.size 9 1 kv' (k + 1) ls') (hg : wr.grownBy u kv.ownBlock) : EncI w wc u g cs is kv' (k + 1) ls' :=
  have ne : ∀ j, j < wc.heap.size → some j ≠ kv.ownBlock := fun j hj e => by have := (h.own.lt j e.symm).1; omega
  ⟨h.cfg.of (hg.block _ (by have := h.size; omega) (ne _ (by omega))), h.inf.of (hg.block _ (by have := h.size; omega) (ne _ (by omega))), ho, h.below.grown hg h.below.size (fun j hj => by have := (h.own.lt j hj).1; omega), Nat.le_trans h.size hg.size⟩
theorem infoStrg : (Tryz.prog.info? 9).map (fun i => (i.zero, i.size, i.bytes)) = some (some (.string ⟨#[]⟩), 1, 16) := by kernel_rfl
theorem frsT_cat (d n : Nat) (F : Nat → Nat → Int) (S B : Nat) : ∀ k, frsT d n F S B k = catT (frT d n F S B) k
  | 0 => rfl
  | k + 1 => by rw [frsT, catT, frsT_cat d n F S B k]
/-- append, as one step of a region that draws, by its run -/
theorem step_append_run {P : Program} {ops : Array Oper} {o : Oper} {a : Act} {w w' : World} {K : Act → World → Prop} {Q : Exit → Act → World → Prop} {E : Prop}
    (hg : o.guard = none) (s x : Operand) (t : TypeId) (hop : o.op = Op.call { callee := Callee.builtin Builtin.append, args := #[s, x], argTypes := #[t, t] })
    (v b v' : Value) (hs : a.eval s = v) (hx : a.eval x = b) (hrun : (Builtin.append_ #[t, t] o.type #[v, b]).run P w = .ok v' w') (hK : K (a.put o.dst v') w') :
    if Region.wanted o (yielded ops a.tmps) = true then Oper.wp P o a w K Q else E := by
  have hw : Region.wanted o (yielded ops a.tmps) = true := by simp [Region.wanted, hg]
  rw [if_pos hw]
  unfold Oper.wp
  simp [execOp, hop, resolve, invoke, builtin, hs, hx, hrun, Result.andThen]
  exact hK
theorem ks_gr {q b off : Nat} {c0 c1 c2 c3 c4 c5 c6 c7 : Int} {v : Value} {u u' : World} {r : Option Nat} (hg : u.grownBy u' r) (hq : some q ≠ r) (hb : some b ≠ r) (h : q < u.heap.size ∧ u.cell? ⟨q, 0, none⟩ = some (.int .i64 c0) ∧ u.cell? ⟨q, 1, none⟩ = some (.int .i64 c1) ∧ u.cell? ⟨q, 2, none⟩ = some (.int .i64 c2) ∧ u.cell? ⟨q, 3, none⟩ = some (.int .i64 c3) ∧ u.cell? ⟨q, 4, none⟩ = some (.int .i64 c4) ∧ u.cell? ⟨q, 5, none⟩ = some (.int .i64 c5) ∧ u.cell? ⟨q, 6, none⟩ = some (.int .i64 c6) ∧ u.cell? ⟨q, 7, none⟩ = some (.int .i64 c7) ∧ u.cell? ⟨b, off, none⟩ = some v) : q < u'.heap.size ∧ u'.cell? ⟨q, 0, none⟩ = some (.int .i64 c0) ∧ u'.cell? ⟨q, 1, none⟩ = some (.int .i64 c1) ∧ u'.cell? ⟨q, 2, none⟩ = some (.int .i64 c2) ∧ u'.cell? ⟨q, 3, none⟩ = some (.int .i64 c3) ∧ u'.cell? ⟨q, 4, none⟩ = some (.int .i64 c4) ∧ u'.cell? ⟨q, 5, none⟩ = some (.int .i64 c5) ∧ u'.cell? ⟨q, 6, none⟩ = some (.int .i64 c6) ∧ u'.cell? ⟨q, 7, none⟩ = some (.int .i64 c7) ∧ u'.cell? ⟨b, off, none⟩ = some v :=
  ⟨Nat.lt_of_lt_of_le h.1 hg.size, hg.cell h.2.1 hq, hg.cell h.2.2.1 hq, hg.cell h.2.2.2.1 hq, hg.cell h.2.2.2.2.1 hq, hg.cell h.2.2.2.2.2.1 hq, hg.cell h.2.2.2.2.2.2.1 hq, hg.cell h.2.2.2.2.2.2.2.1 hq, hg.cell h.2.2.2.2.2.2.2.2.1 hq, hg.cell h.2.2.2.2.2.2.2.2.2 hb⟩
theorem blkV_at {u : World} {g n q m : Nat} {A : Nat → Option Addr} {C : Nat → Nat} (h : u.rowIs g 29 n (blkV A C q m n)) : ListsAt u (some ⟨g, 0, none⟩) n (blkA A q) (fun _ => m) (fun i => C i - q) := fun i hi => ⟨_, rfl, by
  have := h.cell hi
  unfold blkV at this
  rw [if_pos hi] at this
  rw [Addr.add_lit, Nat.zero_add]
  exact this⟩

set_option maxRecDepth 4000 in
set_option maxHeartbeats 2000000 in
theorem streamEncode_any (c5 c6 c7 : Int) (d B c3 c4 : Nat) (a : Option Addr) (n cap : Nat) (A : Nat → Option Addr) (S : Nat) (C : Nat → Nat) (F : Nat → Nat → Int) (w : World) (hd1 : 1 ≤ d) (hd : d ≤ 12) (hn1 : 1 ≤ n) (hn4 : n ≤ 4) (hB1 : 1 ≤ B) (hB2 : B ≤ 32) (hc3 : c3 < 65536) (hc4 : c4 < 256) (hS : S ≤ 300)
    (hf : ∀ i, i < n → ∀ j, j < S → fitsB d (F i j) = true) (hA : ListsAt w a n A (fun _ => S) C) (hC : ∀ i, i < n → S ≤ C i) (hI : ∀ i, i < n → IntsAt w (A i) S (F i)) (hlow : Low w.heap.size a n A (fun _ => S)) (hT : TabsF w) :
    Calls Tryz.prog 49 #[.agg (cfC n d B c3 c4 c5 c6 c7), .slice a n cap] w fun e w' => e = .returned (.string (bs (streamT d n B c3 c4 F S))) ∧ Below w.heap.size w w' := by
  unfold cfC
  obtain ⟨b, off, rfl, hcell⟩ := hA.open (by omega)
  have hc0 := hcell 0 (by omega)
  simp only [Nat.add_zero] at hc0
  have hbl : b < w.heap.size := hlow.1 _ rfl (by omega : 0 < n)
  have HIO := Hid.mk' (fun u => infoOf_any n d B c3 c4 c5 c6 c7 S u)
  have HBK := Hid.mk' (fun u => blocks_any S B u hB1 (by omega) (by omega))
  have HBB := Hid.mk' (fun (u : World) (hu : Below w.heap.size w u) k (hk : k < nBlk S B) => block_any (some ⟨b, off, none⟩) n cap A S C F B k u hn1 hn4 hB1 hB2 hS hk (hA.below hu hlow.1) hC (fun i hi => (hI i hi).below hu (hlow.2 i hi)) ⟨fun x hx h0 => Nat.lt_of_lt_of_le (hlow.1 x hx h0) hu.size, fun i hi x hx h0 => Nat.lt_of_lt_of_le (hlow.2 i hi x hx h0) hu.size⟩)
  have HMK := Hid.mk' (fun (u : World) (hu : Below w.heap.size w u) k (hk : k < nBlk S B) (G : Nat) (hG : u.rowIs G 29 n (blkV A C (k * B) (blkN S B k) n)) =>
    have hbd := blkN_bd hB1 hk
    make_any B c3 c4 c5 c6 c7 d k (some ⟨G, 0, none⟩) n n (blkA A (k * B)) (blkN S B k) (fun i => C i - k * B) (blkF F B k) u hd1 hd hn1 hn4 hbd.1 (by omega) (by have := nBlk_le (S := S) hB1; omega)
      (fun i hi j hj => hf i hi (k * B + j) (by omega)) (blkV_at hG) (fun i hi => ints_cut ((hI i hi).below hu (hlow.2 i hi)) (by omega)) ⟨fun x hx h0 => by cases hx; exact hG.lt, fun i hi x hx h0 => by
        have h1 := ints_addr (hI i hi) (by omega)
        have h2 := hlow.2 i hi _ h1 (by show 0 < S; omega)
        cases hx
        exact Nat.lt_of_lt_of_le h2 hu.size⟩ (hT.below hu))
  have HLB := Hid.mk' (fun k (hk : k < nBlk S B) => lnF_bd d n F S B k hd hn1 hn4 hB1 hB2 hk)
  have HFB := Hid.mk' (frsT_bd d n F S B hd hn1 hn4 hB1 hB2)
  have HNB : Hid (nBlk S B ≤ 300) := by have := nBlk_le (S := S) hB1; show _ ≤ _; omega
  have HJN := Hid.mk' (fun (u : World) (kv : Value) (base : Nat) (ho : u.ownsRow base 9 1 kv (nBlk S B) (strL (frT d n F S B) (nBlk S B))) => streamJoin_any n d B c3 S c4 (sumN (intT n F (2 * (S * n)))) (frT d n F S B) (nBlk S B) base kv u (by omega) (by omega) (by omega) hc3 hc4 (by omega) (sumN_lt _) HNB.out (fun i hi => (lnF_bd d n F S B i hd hn1 hn4 hB1 hB2 hi).2) ho)
  have HST : Hid (headTx 1 n d B c3 S c4 (leastN (fun i => (frT d n F S B i).length) (nBlk S B)) (mostN (fun i => (frT d n F S B i).length) (nBlk S B)) (sumN (intT n F (2 * (S * n)))) (pntN (fun i => (frT d n F S B i).length) c4 (nBlk S B)) ++ catT (frT d n F S B) (nBlk S B) = streamT d n B c3 c4 F S) := by
    show _ = _
    rw [← frsT_cat]; rfl
  rw [HST.out] at HJN
  clear HST
  have HSM := Hid.mk' (fun (u : World) (hu : Below w.heap.size w u) => soundSum_any (some ⟨b, off, none⟩) n cap A S C F u hn1 hn4 hS (hA.below hu hlow.1) (fun i hi => (hI i hi).below hu (hlow.2 i hi)) ⟨fun x hx h0 => Nat.lt_of_lt_of_le (hlow.1 x hx h0) hu.size, fun i hi x hx h0 => Nat.lt_of_lt_of_le (hlow.2 i hi x hx h0) hu.size⟩)
  have hB0 : Below w.heap.size w (w.alloc (.cells #[.int .i64 n, .int .i64 d, .int .i64 B, .int .i64 c3, .int .i64 c4, .int .i64 c5, .int .i64 c6, .int .i64 c7] 23)) := (Below.refl _ _).alloc (Nat.le_refl _) _
  have HB0 := Hid.mk' hB0
  clear hB0
  have HX0 : Hid (Bx (w.alloc (.cells #[.int .i64 n, .int .i64 d, .int .i64 B, .int .i64 c3, .int .i64 c4, .int .i64 c5, .int .i64 c6, .int .i64 c7] 23)).drew w.heap.size 23 #[.int .i64 n, .int .i64 d, .int .i64 B, .int .i64 c3, .int .i64 c4, .int .i64 c5, .int .i64 c6, .int .i64 c7]) := (Bx.new _ _ _ : Bx (w.alloc (.cells #[.int .i64 n, .int .i64 d, .int .i64 B, .int .i64 c3, .int .i64 c4, .int .i64 c5, .int .i64 c6, .int .i64 c7] 23)) w.heap.size 23 #[.int .i64 n, .int .i64 d, .int .i64 B, .int .i64 c3, .int .i64 c4, .int .i64 c5, .int .i64 c6, .int .i64 c7])
  have HXA : Hid (Bx ((w.alloc (.cells #[.int .i64 n, .int .i64 d, .int .i64 B, .int .i64 c3, .int .i64 c4, .int .i64 c5, .int .i64 c6, .int .i64 c7] 23)).alloc (.cells #[.int .i64 0, .int .i64 0, .int .i64 0, .int .i64 0, .int .i64 0, .int .i64 0] 46)).drew w.heap.size 23 #[.int .i64 n, .int .i64 d, .int .i64 B, .int .i64 c3, .int .i64 c4, .int .i64 c5, .int .i64 c6, .int .i64 c7]) := ((Bx.new _ _ _ : Bx (w.alloc (.cells #[.int .i64 n, .int .i64 d, .int .i64 B, .int .i64 c3, .int .i64 c4, .int .i64 c5, .int .i64 c6, .int .i64 c7] 23)) w.heap.size 23 #[.int .i64 n, .int .i64 d, .int .i64 B, .int .i64 c3, .int .i64 c4, .int .i64 c5, .int .i64 c6, .int .i64 c7]).alloc _ : Bx ((w.alloc (.cells #[.int .i64 n, .int .i64 d, .int .i64 B, .int .i64 c3, .int .i64 c4, .int .i64 c5, .int .i64 c6, .int .i64 c7] 23)).alloc (.cells #[.int .i64 0, .int .i64 0, .int .i64 0, .int .i64 0, .int .i64 0, .int .i64 0] 46)) w.heap.size 23 #[.int .i64 n, .int .i64 d, .int .i64 B, .int .i64 c3, .int .i64 c4, .int .i64 c5, .int .i64 c6, .int .i64 c7])
  have hbl2 : b < (w.alloc (.cells #[.int .i64 n, .int .i64 d, .int .i64 B, .int .i64 c3, .int .i64 c4, .int .i64 c5, .int .i64 c6, .int .i64 c7] 23)).drew.heap.size := by simp; omega
  have hbl3 : b < ((w.alloc (.cells #[.int .i64 n, .int .i64 d, .int .i64 B, .int .i64 c3, .int .i64 c4, .int .i64 c5, .int .i64 c6, .int .i64 c7] 23)).alloc (.cells #[.int .i64 0, .int .i64 0, .int .i64 0, .int .i64 0, .int .i64 0, .int .i64 0] 46)).drew.heap.size := by simp; omega
  have hS0 : w.heap.size < (w.alloc (.cells #[.int .i64 n, .int .i64 d, .int .i64 B, .int .i64 c3, .int .i64 c4, .int .i64 c5, .int .i64 c6, .int .i64 c7] 23)).drew.heap.size ∧ (w.alloc (.cells #[.int .i64 n, .int .i64 d, .int .i64 B, .int .i64 c3, .int .i64 c4, .int .i64 c5, .int .i64 c6, .int .i64 c7] 23)).drew.cell? ⟨w.heap.size, 0, none⟩ = some (.int .i64 n) ∧ (w.alloc (.cells #[.int .i64 n, .int .i64 d, .int .i64 B, .int .i64 c3, .int .i64 c4, .int .i64 c5, .int .i64 c6, .int .i64 c7] 23)).drew.cell? ⟨w.heap.size, 1, none⟩ = some (.int .i64 d) ∧ (w.alloc (.cells #[.int .i64 n, .int .i64 d, .int .i64 B, .int .i64 c3, .int .i64 c4, .int .i64 c5, .int .i64 c6, .int .i64 c7] 23)).drew.cell? ⟨w.heap.size, 2, none⟩ = some (.int .i64 B) ∧ (w.alloc (.cells #[.int .i64 n, .int .i64 d, .int .i64 B, .int .i64 c3, .int .i64 c4, .int .i64 c5, .int .i64 c6, .int .i64 c7] 23)).drew.cell? ⟨w.heap.size, 3, none⟩ = some (.int .i64 c3) ∧ (w.alloc (.cells #[.int .i64 n, .int .i64 d, .int .i64 B, .int .i64 c3, .int .i64 c4, .int .i64 c5, .int .i64 c6, .int .i64 c7] 23)).drew.cell? ⟨w.heap.size, 4, none⟩ = some (.int .i64 c4) ∧ (w.alloc (.cells #[.int .i64 n, .int .i64 d, .int .i64 B, .int .i64 c3, .int .i64 c4, .int .i64 c5, .int .i64 c6, .int .i64 c7] 23)).drew.cell? ⟨w.heap.size, 5, none⟩ = some (.int .i64 c5) ∧ (w.alloc (.cells #[.int .i64 n, .int .i64 d, .int .i64 B, .int .i64 c3, .int .i64 c4, .int .i64 c5, .int .i64 c6, .int .i64 c7] 23)).drew.cell? ⟨w.heap.size, 6, none⟩ = some (.int .i64 c6) ∧ (w.alloc (.cells #[.int .i64 n, .int .i64 d, .int .i64 B, .int .i64 c3, .int .i64 c4, .int .i64 c5, .int .i64 c6, .int .i64 c7] 23)).drew.cell? ⟨w.heap.size, 7, none⟩ = some (.int .i64 c7) ∧ (w.alloc (.cells #[.int .i64 n, .int .i64 d, .int .i64 B, .int .i64 c3, .int .i64 c4, .int .i64 c5, .int .i64 c6, .int .i64 c7] 23)).drew.cell? ⟨b, off, none⟩ = some (.slice (A 0) S (C 0)) := HX0.out.cfS ((HB0.out.cell (p := ⟨b, off, none⟩) hbl).trans hc0)
  have hSA : w.heap.size < ((w.alloc (.cells #[.int .i64 n, .int .i64 d, .int .i64 B, .int .i64 c3, .int .i64 c4, .int .i64 c5, .int .i64 c6, .int .i64 c7] 23)).alloc (.cells #[.int .i64 0, .int .i64 0, .int .i64 0, .int .i64 0, .int .i64 0, .int .i64 0] 46)).drew.heap.size ∧ ((w.alloc (.cells #[.int .i64 n, .int .i64 d, .int .i64 B, .int .i64 c3, .int .i64 c4, .int .i64 c5, .int .i64 c6, .int .i64 c7] 23)).alloc (.cells #[.int .i64 0, .int .i64 0, .int .i64 0, .int .i64 0, .int .i64 0, .int .i64 0] 46)).drew.cell? ⟨w.heap.size, 0, none⟩ = some (.int .i64 n) ∧ ((w.alloc (.cells #[.int .i64 n, .int .i64 d, .int .i64 B, .int .i64 c3, .int .i64 c4, .int .i64 c5, .int .i64 c6, .int .i64 c7] 23)).alloc (.cells #[.int .i64 0, .int .i64 0, .int .i64 0, .int .i64 0, .int .i64 0, .int .i64 0] 46)).drew.cell? ⟨w.heap.size, 1, none⟩ = some (.int .i64 d) ∧ ((w.alloc (.cells #[.int .i64 n, .int .i64 d, .int .i64 B, .int .i64 c3, .int .i64 c4, .int .i64 c5, .int .i64 c6, .int .i64 c7] 23)).alloc (.cells #[.int .i64 0, .int .i64 0, .int .i64 0, .int .i64 0, .int .i64 0, .int .i64 0] 46)).drew.cell? ⟨w.heap.size, 2, none⟩ = some (.int .i64 B) ∧ ((w.alloc (.cells #[.int .i64 n, .int .i64 d, .int .i64 B, .int .i64 c3, .int .i64 c4, .int .i64 c5, .int .i64 c6, .int .i64 c7] 23)).alloc (.cells #[.int .i64 0, .int .i64 0, .int .i64 0, .int .i64 0, .int .i64 0, .int .i64 0] 46)).drew.cell? ⟨w.heap.size, 3, none⟩ = some (.int .i64 c3) ∧ ((w.alloc (.cells #[.int .i64 n, .int .i64 d, .int .i64 B, .int .i64 c3, .int .i64 c4, .int .i64 c5, .int .i64 c6, .int .i64 c7] 23)).alloc (.cells #[.int .i64 0, .int .i64 0, .int .i64 0, .int .i64 0, .int .i64 0, .int .i64 0] 46)).drew.cell? ⟨w.heap.size, 4, none⟩ = some (.int .i64 c4) ∧ ((w.alloc (.cells #[.int .i64 n, .int .i64 d, .int .i64 B, .int .i64 c3, .int .i64 c4, .int .i64 c5, .int .i64 c6, .int .i64 c7] 23)).alloc (.cells #[.int .i64 0, .int .i64 0, .int .i64 0, .int .i64 0, .int .i64 0, .int .i64 0] 46)).drew.cell? ⟨w.heap.size, 5, none⟩ = some (.int .i64 c5) ∧ ((w.alloc (.cells #[.int .i64 n, .int .i64 d, .int .i64 B, .int .i64 c3, .int .i64 c4, .int .i64 c5, .int .i64 c6, .int .i64 c7] 23)).alloc (.cells #[.int .i64 0, .int .i64 0, .int .i64 0, .int .i64 0, .int .i64 0, .int .i64 0] 46)).drew.cell? ⟨w.heap.size, 6, none⟩ = some (.int .i64 c6) ∧ ((w.alloc (.cells #[.int .i64 n, .int .i64 d, .int .i64 B, .int .i64 c3, .int .i64 c4, .int .i64 c5, .int .i64 c6, .int .i64 c7] 23)).alloc (.cells #[.int .i64 0, .int .i64 0, .int .i64 0, .int .i64 0, .int .i64 0, .int .i64 0] 46)).drew.cell? ⟨w.heap.size, 7, none⟩ = some (.int .i64 c7) ∧ ((w.alloc (.cells #[.int .i64 n, .int .i64 d, .int .i64 B, .int .i64 c3, .int .i64 c4, .int .i64 c5, .int .i64 c6, .int .i64 c7] 23)).alloc (.cells #[.int .i64 0, .int .i64 0, .int .i64 0, .int .i64 0, .int .i64 0, .int .i64 0] 46)).drew.cell? ⟨b, off, none⟩ = some (.slice (A 0) S (C 0)) := ks_al hbl2 hS0
  have HZ0 : Hid (Bx ((w.alloc (.cells #[.int .i64 n, .int .i64 d, .int .i64 B, .int .i64 c3, .int .i64 c4, .int .i64 c5, .int .i64 c6, .int .i64 c7] 23)).alloc (.cells #[.int .i64 0, .int .i64 0, .int .i64 0, .int .i64 0, .int .i64 0, .int .i64 0] 46)).drew (w.heap.size + 1) 46 #[.int .i64 0, .int .i64 0, .int .i64 0, .int .i64 0, .int .i64 0, .int .i64 0]) := Bx.new2 (by simp) _ _
  clear hf hA hC hI hlow hT hcell
  have hn0 : (0 : Int) < (n : Int) := by omega
  have hn02 : 0 < n := hn1
  have hwb : w.heap.size ≠ b := by omega
  go_enter Tryz.func49, Tryz.ntmps49
  go_wp2_with fail
  go_cut [5] (fun s5 wx => ∃ g : Nat, s5 = .pointer (some ⟨g, 0, none⟩) ∧ Hid (w.heap.size < g ∧ g < wx.heap.size ∧ Below w.heap.size w wx ∧ Bx wx w.heap.size 23 #[.int .i64 n, .int .i64 d, .int .i64 B, .int .i64 c3, .int .i64 c4, .int .i64 c5, .int .i64 c6, .int .i64 c7] ∧ Bx wx g 46 #[.int .i64 n, .int .i64 d, .int .i64 B, .int .i64 c3, .int .i64 c4, .int .i64 S]))
  case first =>
    go_region_held3 (fun w' => w.heap.size < w'.heap.size ∧ w'.cell? ⟨w.heap.size, 0, none⟩ = some (.int .i64 n) ∧ w'.cell? ⟨w.heap.size, 1, none⟩ = some (.int .i64 d) ∧ w'.cell? ⟨w.heap.size, 2, none⟩ = some (.int .i64 B) ∧ w'.cell? ⟨w.heap.size, 3, none⟩ = some (.int .i64 c3) ∧ w'.cell? ⟨w.heap.size, 4, none⟩ = some (.int .i64 c4) ∧ w'.cell? ⟨w.heap.size, 5, none⟩ = some (.int .i64 c5) ∧ w'.cell? ⟨w.heap.size, 6, none⟩ = some (.int .i64 c6) ∧ w'.cell? ⟨w.heap.size, 7, none⟩ = some (.int .i64 c7) ∧ w'.cell? ⟨b, off, none⟩ = some (.slice (A 0) S (C 0)))
      (first | with_reducible exact hS0 | with_reducible exact hSA | with_reducible exact hS1 | with_reducible exact ks_al hb1l hS1 | with_reducible exact ks_st (Nat.ne_of_lt (Nat.lt_succ_self _)) hbg1 hS1)
      (first | (go_at_call 82; refine (HIO.out _).mono ?_; rintro e u1 ⟨rfl, hb1⟩; have hS1 : w.heap.size < u1.heap.size ∧ u1.cell? ⟨w.heap.size, 0, none⟩ = some (.int .i64 n) ∧ u1.cell? ⟨w.heap.size, 1, none⟩ = some (.int .i64 d) ∧ u1.cell? ⟨w.heap.size, 2, none⟩ = some (.int .i64 B) ∧ u1.cell? ⟨w.heap.size, 3, none⟩ = some (.int .i64 c3) ∧ u1.cell? ⟨w.heap.size, 4, none⟩ = some (.int .i64 c4) ∧ u1.cell? ⟨w.heap.size, 5, none⟩ = some (.int .i64 c5) ∧ u1.cell? ⟨w.heap.size, 6, none⟩ = some (.int .i64 c6) ∧ u1.cell? ⟨w.heap.size, 7, none⟩ = some (.int .i64 c7) ∧ u1.cell? ⟨b, off, none⟩ = some (.slice (A 0) S (C 0)) := (by first | exact ks_below hb1 hbl2 hS0 | exact ks_below hb1 hbl3 hSA); have HX1 : Hid (Bx u1 w.heap.size 23 #[.int .i64 n, .int .i64 d, .int .i64 B, .int .i64 c3, .int .i64 c4, .int .i64 c5, .int .i64 c6, .int .i64 c7]) := (by first | exact HX0.out.below hb1 | exact HXA.out.below hb1); have HB1 : Hid (Below w.heap.size w u1) := (by first | exact HB0.out.drew.trans (hb1.mono (by simp)) | exact (HB0.out.alloc HB0.out.size _).drew.trans (hb1.mono (by simp; omega))); have hb1l : b < u1.heap.size := Nat.lt_of_lt_of_le hbl HB1.out.size; have hbg1 : b ≠ w.heap.size + 1 := (by omega); (first | (have hz1 := HZ0.out.below hb1; obtain ⟨q0, q1, q2, q3, q4, q5, z0, z1, z2, z3, z4, z5⟩ := six_of_blk hz1; have HZ1 := Hid.mk' hz1; clear hz1) | skip)))
    · go_wp2
      go_meet
      case rel => exact ⟨u1.heap.size, rfl, Nat.lt_of_lt_of_le HX1.out.lt (Nat.le_refl _), by simp, HB1.out.alloc HB1.out.size _, HX1.out.alloc _, Bx.new _ _ _⟩
    · go_wp2
      go_meet
      case rel => exact ⟨w.heap.size + 1, rfl, Nat.lt_succ_self _, by simp only [size_set]; exact HZ1.out.lt, set6_below HB1.out (Nat.le_succ _), HX1.out.of ((set6_grown u1 _ _ _ _ _ _ _).block _ HX1.out.lt (by simp)), HZ1.out.set6 _ _ _ _ _ _⟩
  case rest =>
    obtain ⟨g, rfl, HC⟩ := hcut
    have hxc := HC.out.2.2.2.1
    have hS2 := hxc.cfS ((HC.out.2.2.1.cell (p := ⟨b, off, none⟩) hbl).trans hc0)
    unfold CfS at hS2
    have hg1 := HC.out.2.1
    have hw1 : w.heap.size < wc.heap.size := Nat.lt_trans HC.out.1 hg1
    have hb1 : b < wc.heap.size := Nat.lt_trans hbl hw1
    have xi5 : wc.cell? ⟨g, 5, none⟩ = some (.int .i64 S) := HC.out.2.2.2.2.cell 5
    clear hxc hS0 hSA HX0 HXA HZ0 HB0 HIO hbl2 hbl3
    go_wp2_with (go_at_call 83; refine (HBK.out _).mono ?_; rintro e u2 ⟨rfl, hw⟩; subst u2)
    clear hS2 xi5
    go_loopw [6, 7, 19] (fun lv _ kv wr => ∃ k : Nat, ∃ ov : Value, k ≤ nBlk S B ∧ kv = .int .i64 k ∧ ov = lv ∧ Hid (EncI w wc wr g #[.int .i64 n, .int .i64 d, .int .i64 B, .int .i64 c3, .int .i64 c4, .int .i64 c5, .int .i64 c6, .int .i64 c7] #[.int .i64 n, .int .i64 d, .int .i64 B, .int .i64 c3, .int .i64 c4, .int .i64 S] ov k (strL (frT d n F S B) k))) (fun _ _ kv _ => nBlk S B - (intOf kv).toNat)
    case atStart => exact ⟨0, .slice none 0 0, Nat.zero_le _, rfl, rfl, HC.out.2.2.2.1, HC.out.2.2.2.2, World.ownsRow_nil _ _ _ _, HC.out.2.2.1, Nat.le_refl _⟩
    case round =>
      obtain ⟨k, kv, hk, rfl, e, HR⟩ := hrel
      subst e
      by_cases hlt : k < nBlk S B
      · have hbd := blkN_bd hB1 hlt
        have HBW := Hid.mk' HR.out.below
        have HBL1 := Hid.mk' (fun (u : World) (hu : Below wr.heap.size wr u) =>
          have hu2 := HBW.out.trans (hu.mono HBW.out.size)
          HBB.out u hu2 k hlt)
        have HMK1 : Hid (∀ (u : World) (hu : Below w.heap.size w u) (G : Nat) (hG : u.rowIs G 29 n (blkV A C (k * B) (blkN S B k) n)), Calls Tryz.prog 38 #[.agg #[.int .i64 n, .int .i64 d, .int .i64 B, .int .i64 c3, .int .i64 c4, .int .i64 c5, .int .i64 c6, .int .i64 c7], .int .i64 k, .slice (some ⟨G, 0, none⟩) n n] u fun e w' => e = .returned (.string (bs (frT d n F S B k))) ∧ Below u.heap.size u w') := fun u hu => HMK.out u hu k hlt
        have hS3 := HR.out.cfg.cfS ((HR.out.below.cell (p := ⟨b, off, none⟩) hbl).trans hc0)
        unfold CfS at hS3
        have hS4 : w.heap.size < wr.drew.heap.size ∧ wr.drew.cell? ⟨w.heap.size, 0, none⟩ = some (.int .i64 n) ∧ wr.drew.cell? ⟨w.heap.size, 1, none⟩ = some (.int .i64 d) ∧ wr.drew.cell? ⟨w.heap.size, 2, none⟩ = some (.int .i64 B) ∧ wr.drew.cell? ⟨w.heap.size, 3, none⟩ = some (.int .i64 c3) ∧ wr.drew.cell? ⟨w.heap.size, 4, none⟩ = some (.int .i64 c4) ∧ wr.drew.cell? ⟨w.heap.size, 5, none⟩ = some (.int .i64 c5) ∧ wr.drew.cell? ⟨w.heap.size, 6, none⟩ = some (.int .i64 c6) ∧ wr.drew.cell? ⟨w.heap.size, 7, none⟩ = some (.int .i64 c7) ∧ wr.drew.cell? ⟨b, off, none⟩ = some (.slice (A 0) S (C 0)) := hS3
        have hbr : b < wr.heap.size := Nat.lt_of_lt_of_le hbl HBW.out.size
        clear hS3
        have hnb := HNB.out
        have hzb := HLB.out k hlt
        have HLS := Hid.mk' (strL_snoc (frT d n F S B) k)
        generalize bs (frT d n F S B k) = X at *
        go_wp2_with fail
        go_region_held3 (fun w' => w.heap.size < w'.heap.size ∧ w'.cell? ⟨w.heap.size, 0, none⟩ = some (.int .i64 n) ∧ w'.cell? ⟨w.heap.size, 1, none⟩ = some (.int .i64 d) ∧ w'.cell? ⟨w.heap.size, 2, none⟩ = some (.int .i64 B) ∧ w'.cell? ⟨w.heap.size, 3, none⟩ = some (.int .i64 c3) ∧ w'.cell? ⟨w.heap.size, 4, none⟩ = some (.int .i64 c4) ∧ w'.cell? ⟨w.heap.size, 5, none⟩ = some (.int .i64 c5) ∧ w'.cell? ⟨w.heap.size, 6, none⟩ = some (.int .i64 c6) ∧ w'.cell? ⟨w.heap.size, 7, none⟩ = some (.int .i64 c7) ∧ w'.cell? ⟨b, off, none⟩ = some (.slice (A 0) S (C 0)))
          (first | with_reducible assumption | with_reducible exact ks_al hbr2 hS6)
          (first
          | (go_at_call 84; refine (HBL1.out _ (Below.refl _ _).drew).mono ?_; rintro e u1 ⟨rfl, hrow, hb1⟩; have HRW := Hid.mk' hrow; have hS5 := ks_below hb1 hbr hS4; have HB1 : Hid (Below wr.heap.size wr u1) := (⟨hb1.os, hb1.tape, hb1.output, hb1.size, hb1.block⟩ : Below wr.heap.size wr u1); have hbr1 := Nat.lt_of_lt_of_le hbr HB1.out.size; clear HBL1 hS4 hrow hb1)
          | (go_at_call 38; refine (HMK1.out _ (HBW.out.trans (HB1.out.mono HBW.out.size)) _ HRW.out).mono ?_; rintro e u2 ⟨rfl, hb2⟩; have hS6 := ks_below hb2 hbr1 hS5; have HB2 : Hid (Below wr.heap.size wr u2) := HB1.out.trans (hb2.mono HB1.out.size); have hbr2 : b < u2.heap.size := Nat.lt_of_lt_of_le hbr1 hb2.size; have hE2 := HR.out.next HB2.out; obtain ⟨g', c', u4, hr, ho, hgr⟩ := app_row 109 9 (.string ⟨#[]⟩) 16 Tryz.underlying109 infoStrg rfl u2 _ kv _ _ #[.string X] hE2.own (by simp) (by intro u hu; simp at hu; rw [hu]; rfl) (by simp only [maxLen]; simp; omega) (by simp; omega) hE2.size 109; have HE4 := Hid.mk' (hE2.grew hw1 hg1 ho hgr); have hS7 := ks_gr hgr (fun e => by have := (hE2.own.lt _ e.symm).1; omega) (fun e => by have := (hE2.own.lt _ e.symm).1; omega) hS6; have HAP : Hid (_ = _) := hr; clear hr ho hgr hE2 HMK1 hS5 hb2 HB1 HRW)
          | (refine step_append_run rfl _ _ _ rfl _ _ _ rfl rfl HAP.out ?_; clear HAP))
        clear hS7 hS6
        go_wp2
        go_roundw
        case rel => exact ⟨k + 1, _, by omega, by go_num, rfl, by rw [HLS.out]; exact HE4.out⟩
        case measure => simp [intOf]; omega
      · have e : k = nBlk S B := by omega
        subst e
        have hS7 : g < wr.drew.heap.size ∧ wr.drew.cell? ⟨g, 0, none⟩ = some (.int .i64 n) ∧ wr.drew.cell? ⟨g, 1, none⟩ = some (.int .i64 d) ∧ wr.drew.cell? ⟨g, 2, none⟩ = some (.int .i64 B) ∧ wr.drew.cell? ⟨g, 3, none⟩ = some (.int .i64 c3) ∧ wr.drew.cell? ⟨g, 4, none⟩ = some (.int .i64 c4) ∧ wr.drew.cell? ⟨g, 5, none⟩ = some (.int .i64 S) := ⟨HR.out.inf.lt, HR.out.inf.cell 0, HR.out.inf.cell 1, HR.out.inf.cell 2, HR.out.inf.cell 3, HR.out.inf.cell 4, HR.out.inf.cell 5⟩
        have HBW := Hid.mk' HR.out.below
        obtain ⟨al, cl, hkv⟩ : ∃ al cl, kv = .slice al (nBlk S B) cl := by
          rcases HR.out.own.2 with ⟨rfl, h0⟩ | ⟨g0, c0, cur, rfl, -⟩
          · exact ⟨none, 0, by rw [h0]⟩
          · exact ⟨_, c0, rfl⟩
        subst hkv
        have HJ1 := Hid.mk' (fun (u : World) (hu : Below wr.heap.size wr u) => HJN.out u (.slice al (nBlk S B) cl) wc.heap.size (HR.out.own.kept ⟨hu.os, hu.tape, hu.output, hu.size, fun j hj _ => hu.block j hj⟩ (Classical.em _)))
        clear HBK HBB HMK HLB HFB HR HJN
        go_wp2_with fail
        go_region_held3 (fun w' => g < w'.heap.size ∧ w'.cell? ⟨g, 0, none⟩ = some (.int .i64 n) ∧ w'.cell? ⟨g, 1, none⟩ = some (.int .i64 d) ∧ w'.cell? ⟨g, 2, none⟩ = some (.int .i64 B) ∧ w'.cell? ⟨g, 3, none⟩ = some (.int .i64 c3) ∧ w'.cell? ⟨g, 4, none⟩ = some (.int .i64 c4) ∧ w'.cell? ⟨g, 5, none⟩ = some (.int .i64 S))
          (with_reducible assumption)
          (first
          | (go_at_call 86; refine (HSM.out _ HBW.out.drew).mono ?_; rintro e u1 ⟨rfl, hb1⟩; have hS8 := ki_below hb1 hS7; have HB1 : Hid (Below wr.heap.size wr u1) := (⟨hb1.os, hb1.tape, hb1.output, hb1.size, hb1.block⟩ : Below wr.heap.size wr u1); clear HSM hb1 hS7)
          | (go_at_call 85; refine (HJ1.out _ HB1.out).mono ?_; rintro e u2 ⟨rfl, hb2⟩; have hS9 := ki_below hb2 hS8; have HB2 := Hid.mk' (HBW.out.trans ((HB1.out.trans (hb2.mono HB1.out.size)).mono HBW.out.size)); clear HJ1 hb2 HB1 hS8))
        go_wp2
        go_ret
        exact ⟨rfl, HB2.out⟩
end Go.Proofs.YtlncjgnomhpjnaaGreatDoor

/-
  What Encode answers; reel.Check, reel.Encode.
-/
namespace Go.Proofs.YtlncjgnomhpjnaaGreatDoor
open Go.RowKit Go.Deep
set_option linter.unusedVariables false

def encOk (c0 c1 c2 c3 c4 c5 c6 c7 : Int) (n : Nat) (L : Nat → Nat) (F : Nat → Nat → Int) : Prop :=
  rightB c0 c1 c2 c3 c4 c5 c6 c7 = true ∧ ChanP c0 c1.toNat n 0 300 L F
open Classical in
noncomputable def encE (c0 c1 c2 c3 c4 c5 c6 c7 : Int) (n : Nat) (L : Nat → Nat) (F : Nat → Nat → Int) : Int :=
  if rightB c0 c1 c2 c3 c4 c5 c6 c7 = true then (if ChanP c0 c1.toNat n 0 300 L F then 0 else 2) else 1
open Classical in
noncomputable def encS (c0 c1 c2 c3 c4 c5 c6 c7 : Int) (n : Nat) (L : Nat → Nat) (F : Nat → Nat → Int) : ByteArray :=
  if encOk c0 c1 c2 c3 c4 c5 c6 c7 n L F then bs (streamT c1.toNat n c2.toNat c3.toNat c4.toNat F (L 0)) else ⟨#[]⟩
theorem enc_no {c0 c1 c2 c3 c4 c5 c6 c7 : Int} {n : Nat} {L : Nat → Nat} {F : Nat → Nat → Int} (h : ¬ encOk c0 c1 c2 c3 c4 c5 c6 c7 n L F) : encS c0 c1 c2 c3 c4 c5 c6 c7 n L F = ⟨#[]⟩ := by
  unfold encS; rw [if_neg h]
theorem enc_yes {c0 c1 c2 c3 c4 c5 c6 c7 : Int} {n : Nat} {L : Nat → Nat} {F : Nat → Nat → Int} (h : encOk c0 c1 c2 c3 c4 c5 c6 c7 n L F) :
    encS c0 c1 c2 c3 c4 c5 c6 c7 n L F = bs (streamT c1.toNat n c2.toNat c3.toNat c4.toNat F (L 0)) ∧ encE c0 c1 c2 c3 c4 c5 c6 c7 n L F = 0 := by
  unfold encS encE; rw [if_pos h, if_pos h.1, if_pos h.2]; exact ⟨rfl, rfl⟩
theorem enc_e {c0 c1 c2 c3 c4 c5 c6 c7 : Int} {n : Nat} {L : Nat → Nat} {F : Nat → Nat → Int} (h : ¬ encOk c0 c1 c2 c3 c4 c5 c6 c7 n L F) : encE c0 c1 c2 c3 c4 c5 c6 c7 n L F = 1 ∨ encE c0 c1 c2 c3 c4 c5 c6 c7 n L F = 2 := by
  unfold encE
  by_cases h1 : rightB c0 c1 c2 c3 c4 c5 c6 c7 = true
  · rw [if_pos h1, if_neg (fun h2 => h ⟨h1, h2⟩)]; exact .inr rfl
  · rw [if_neg h1]; exact .inl rfl

set_option maxHeartbeats 1000000 in
theorem reelCheck_any (c0 c1 c2 c3 c4 c5 c6 c7 : Int) (a : Option Addr) (n cap : Nat) (A : Nat → Option Addr) (L C : Nat → Nat) (F : Nat → Nat → Int) (w : World) (hn : n ≤ 17592186044416) (hL : ∀ i, i < n → L i ≤ 17592186044416)
    (hA : ListsAt w a n A L C) (hI : ∀ i, i < n → IntsAt w (A i) (L i) (F i)) (hlow : Low w.heap.size a n A L) :
    Calls Tryz.prog 48 #[.agg #[.int .i64 c0, .int .i64 c1, .int .i64 c2, .int .i64 c3, .int .i64 c4, .int .i64 c5, .int .i64 c6, .int .i64 c7], .slice a n cap] w fun e w' =>
      e = .returned (.int .i64 (encE c0 c1 c2 c3 c4 c5 c6 c7 n L F)) ∧ Below w.heap.size w w' := by
  have hb0 : Below w.heap.size w (w.alloc (.cells #[.int .i64 c0, .int .i64 c1, .int .i64 c2, .int .i64 c3, .int .i64 c4, .int .i64 c5, .int .i64 c6, .int .i64 c7] 23)) := (Below.refl _ _).alloc (Nat.le_refl _) _
  have HB0 := Hid.mk' hb0
  have HRC := Hid.mk' (fun u => rightConfig_any c0 c1 c2 c3 c4 c5 c6 c7 u)
  clear hb0
  unfold encE
  cases hr : rightB c0 c1 c2 c3 c4 c5 c6 c7 with
  | false =>
    rw [hr] at HRC
    rw [if_neg (by simp)]
    clear hr hA hI hlow hL
    go_enter Tryz.func48, Tryz.ntmps48
    go_wp2_with (go_at_call 61; refine (HRC.out _).mono ?_; rintro e u1 ⟨rfl, hb⟩; have HB1 := Hid.mk' (HB0.out.trans (hb.mono (by simp))); clear hb HRC HB0)
    go_ret
    exact ⟨rfl, HB1.out⟩
  | true =>
    rw [hr] at HRC
    rw [if_pos rfl]
    obtain ⟨hc0, hc4, hc2, d, rfl, h1, h2⟩ := rightB_d hr
    have lowU : ∀ u, Below w.heap.size w u → Low u.heap.size a n A L := fun u hu => ⟨fun x hx h0 => Nat.lt_of_lt_of_le (hlow.1 x hx h0) hu.size, fun i hi x hx h0 => Nat.lt_of_lt_of_le (hlow.2 i hi x hx h0) hu.size⟩
    have HIB := Hid.mk' (fun (u : World) (hu : Below w.heap.size w u) => isSound_any c0 c2 c3 c4 c5 c6 c7 d a n cap A L C F u hc0 (by omega) (by omega) hn hL (hA.below hu hlow.1) (fun i hi => (hI i hi).below hu (hlow.2 i hi)) (lowU u hu))
    rw [Int.toNat_natCast]
    clear hA hI hlow hL lowU hr
    by_cases hs : ChanP c0 d n 0 300 L F
    · rw [if_pos hs]
      have HS := Hid.mk' hs
      clear hs
      go_enter Tryz.func48, Tryz.ntmps48
      go_wp2_with (first
        | (go_at_call 61; refine (HRC.out _).mono ?_; rintro e u1 ⟨rfl, hb⟩; obtain ⟨hc1, hf1⟩ := bcell hb; have hs1 : w.heap.size < u1.heap.size := by {have := hb.size; simp at this; omega}; have HB1 := Hid.mk' (HB0.out.trans (hb.mono (by simp))); clear hb hf1 HRC HB0)
        | (go_at_call 81; refine (HIB.out _ ?_).mono ?_; exact HB1.out; rintro e u2 ⟨he, hb⟩; have he := he.true_of HS.out; subst he; have HB2 := Hid.mk' (HB1.out.trans (hb.mono HB1.out.size)); clear hb HIB HB1))
      go_ret
      exact ⟨rfl, HB2.out⟩
    · rw [if_neg hs]
      have HS := Hid.mk' hs
      clear hs
      go_enter Tryz.func48, Tryz.ntmps48
      go_wp2_with (first
        | (go_at_call 61; refine (HRC.out _).mono ?_; rintro e u1 ⟨rfl, hb⟩; obtain ⟨hc1, hf1⟩ := bcell hb; have hs1 : w.heap.size < u1.heap.size := by {have := hb.size; simp at this; omega}; have HB1 := Hid.mk' (HB0.out.trans (hb.mono (by simp))); clear hb hf1 HRC HB0)
        | (go_at_call 81; refine (HIB.out _ ?_).mono ?_; exact HB1.out; rintro e u2 ⟨he, hb⟩; have he := he.false_of HS.out; subst he; have HB2 := Hid.mk' (HB1.out.trans (hb.mono HB1.out.size)); clear hb HIB HB1))
      go_ret
      exact ⟨rfl, HB2.out⟩

set_option maxHeartbeats 2000000 in
theorem reelEncode_any (c0 c1 c2 c3 c4 c5 c6 c7 : Int) (a : Option Addr) (n cap : Nat) (A : Nat → Option Addr) (L C : Nat → Nat) (F : Nat → Nat → Int) (w : World) (hn : n ≤ 17592186044416) (hL : ∀ i, i < n → L i ≤ 17592186044416) (hC : ∀ i, i < n → L i ≤ C i)
    (hA : ListsAt w a n A L C) (hI : ∀ i, i < n → IntsAt w (A i) (L i) (F i)) (hlow : Low w.heap.size a n A L) (hT : TabsF w) :
    Calls Tryz.prog 19 #[.agg #[.int .i64 c0, .int .i64 c1, .int .i64 c2, .int .i64 c3, .int .i64 c4, .int .i64 c5, .int .i64 c6, .int .i64 c7], .slice a n cap] w fun e w' =>
      e = .returned (.tuple #[.string (encS c0 c1 c2 c3 c4 c5 c6 c7 n L F), .int .i64 (encE c0 c1 c2 c3 c4 c5 c6 c7 n L F)]) ∧ Below w.heap.size w w' := by
  have hb0 : Below w.heap.size w (w.alloc (.cells #[.int .i64 c0, .int .i64 c1, .int .i64 c2, .int .i64 c3, .int .i64 c4, .int .i64 c5, .int .i64 c6, .int .i64 c7] 23)) := (Below.refl _ _).alloc (Nat.le_refl _) _
  have HB0 := Hid.mk' hb0
  have lowU : ∀ u, Below w.heap.size w u → Low u.heap.size a n A L := fun u hu => ⟨fun x hx h0 => Nat.lt_of_lt_of_le (hlow.1 x hx h0) hu.size, fun i hi x hx h0 => Nat.lt_of_lt_of_le (hlow.2 i hi x hx h0) hu.size⟩
  have HCK := Hid.mk' (fun (u : World) (hu : Below w.heap.size w u) => reelCheck_any c0 c1 c2 c3 c4 c5 c6 c7 a n cap A L C F u hn hL (hA.below hu hlow.1) (fun i hi => (hI i hi).below hu (hlow.2 i hi)) (lowU u hu))
  by_cases hok : encOk c0 c1 c2 c3 c4 c5 c6 c7 n L F
  · obtain ⟨eS, eE⟩ := enc_yes hok
    rw [eE] at HCK
    rw [eS, eE]
    obtain ⟨hr, hs⟩ := hok
    obtain ⟨hc0, hc4, hc2, d, rfl, h1, h2⟩ := rightB_d hr
    have hri : 0 ≤ c3 ∧ c3 ≤ 65535 ∧ 0 ≤ c4 ∧ c4 ≤ 255 := by
      rw [rightB_info] at hr
      simp [infoB, within_iff] at hr
      omega
    obtain ⟨hnc, hL0, hall⟩ := hs
    subst hnc
    rw [within_iff] at hL0
    obtain ⟨B, rfl⟩ : ∃ B : Nat, c2 = (B : Int) := ⟨c2.toNat, by omega⟩
    obtain ⟨r, rfl⟩ : ∃ r : Nat, c3 = (r : Int) := ⟨c3.toNat, by omega⟩
    obtain ⟨k, rfl⟩ : ∃ k : Nat, c4 = (k : Int) := ⟨c4.toNat, by omega⟩
    simp only [Int.toNat_natCast] at *
    have hA2 : ListsAt w a n A (fun _ => L 0) C := fun i hi => by
      obtain ⟨x, hx, hc⟩ := hA i hi
      rw [(hall i hi).1] at hc
      exact ⟨x, hx, hc⟩
    have hI2 : ∀ i, i < n → IntsAt w (A i) (L 0) (F i) := fun i hi => by have := hI i hi; rw [(hall i hi).1] at this; exact this
    have hlow2 : Low w.heap.size a n A (fun _ => L 0) := ⟨hlow.1, fun i hi x hx h0 => hlow.2 i hi x hx (by rw [(hall i hi).1]; exact h0)⟩
    have HMK := Hid.mk' (fun (u : World) (hu : Below w.heap.size w u) => streamEncode_any c5 c6 c7 d B r k a n cap A (L 0) C F u (by omega) h2 (by omega) (by omega) (by omega) (by omega) (by omega) (by omega) (by omega) (fun i hi j hj => (hall i hi).2 j (by rw [(hall i hi).1]; exact hj)) (hA2.below hu hlow2.1) (fun i hi => by have := hC i hi; rw [(hall i hi).1] at this; exact this) (fun i hi => (hI2 i hi).below hu (hlow2.2 i hi))
      ⟨fun x hx h0 => Nat.lt_of_lt_of_le (hlow2.1 x hx h0) hu.size, fun i hi x hx h0 => Nat.lt_of_lt_of_le (hlow2.2 i hi x hx h0) hu.size⟩ (hT.below hu))
    clear hA hI hlow hT lowU hall hA2 hI2 hlow2 hr hb0 hL hC eS eE
    generalize bs (streamT d n B r k F (L 0)) = R at *
    go_enter Tryz.func19, Tryz.ntmps19
    go_wp2_with (first
      | (go_at_call 48; refine (HCK.out _ ?_).mono ?_; exact HB0.out; rintro e u1 ⟨rfl, hb⟩; obtain ⟨hc1, hf1⟩ := bcell hb; have hs1 : w.heap.size < u1.heap.size := by {have := hb.size; simp at this; omega}; have HB1 := Hid.mk' (HB0.out.trans (hb.mono (by simp))); clear hb hf1 HCK HB0)
      | (go_at_call 49; refine (HMK.out _ ?_).mono ?_; exact HB1.out; rintro e u3 ⟨rfl, hb⟩; have HB3 := Hid.mk' (HB1.out.trans (hb.mono (Nat.le_of_lt hs1))); clear hb HMK HB1))
    go_ret2
    exact ⟨rfl, HB3.out⟩
  · have hS := enc_no hok
    rw [hS]
    have hE := enc_e hok
    clear hA hI hlow hT lowU hb0 hL hC hS hok
    generalize encE c0 c1 c2 c3 c4 c5 c6 c7 n L F = E at *
    have tE : (E != 0) = true := by rcases hE with h | h <;> rw [h] <;> rfl
    have tE2 : ¬ E = 0 := by omega
    clear hE
    go_enter Tryz.func19, Tryz.ntmps19
    go_wp2_with (go_at_call 48; refine (HCK.out _ ?_).mono ?_; exact HB0.out; rintro e u1 ⟨rfl, hb⟩; have HB1 := Hid.mk' (HB0.out.trans (hb.mono (by simp))); clear hb HCK HB0)
    go_ret2
    exact ⟨rfl, HB1.out⟩
end Go.Proofs.YtlncjgnomhpjnaaGreatDoor

