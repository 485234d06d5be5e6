import Derived.Test.YtlncjgnomhpjnaaGreatDoorPR28
import Derived.Test.YtlncjgnomhpjnaaGreatDoorPR18
import Derived.Test.YtlncjgnomhpjnaaGreatDoorPR27
import Derived.Test.YtlncjgnomhpjnaaGreatDoorPR5
import Derived.Test.YtlncjgnomhpjnaaGreatDoorPR10
import Derived.Deep.RegionHeld3
/-
  The subframes of a frame, in the document: reelref.inside.
-/
namespace Go.Proofs.YtlncjgnomhpjnaaGreatDoor
open Go.RowKit Go.Deep
set_option linter.unusedVariables false
theorem tab_belowB {w w' : World} (h : Below w.heap.size w w') {g : Nat} (hT : TabAt w g) (hg : g < w.heap.size) : TabAt w' g :=
  fun r c hr hc => (h.cell (p := ⟨g, 4 * r + c, none⟩) hg).trans (hT r c hr hc)
theorem rwidth_any (d n m i : Nat) (w : World) (hd : d ≤ 12) (hm : m < 4) (h0 : n ≠ 2 → m = 0) (hi : i < n) : Calls Tryz.prog 150 #[.int .i64 d, .int .i64 m, .int .i64 i] w fun e w' => e = .returned (.int .i64 (widN d n m i)) ∧ w' = w := by
  by_cases h2 : n = 2
  · rcases (show i = 0 ∨ i = 1 by omega) with e | e <;> subst e
    · have := width0_any d m w hd hm
      rw [show widN d n m 0 = w1 d m by unfold widN; rw [if_pos h2, if_pos rfl]]
      exact this
    · have := width1_any d m w hd hm
      rw [show widN d n m 1 = w2 d m by unfold widN; rw [if_pos h2, if_neg (by omega)]]
      exact this
  · have e := h0 h2
    subst e
    rw [show widN d n 0 i = d by unfold widN; rw [if_neg h2]]
    clear hm h0
    go_enter Tryz.func150, Tryz.ntmps150
    go_wp2
    go_ret
    exact ⟨rfl, rfl⟩
/-- what holds while subframes are read -/
structure InI (w wr : World) (cs : Array Value) (s : ByteArray) (o : Nat) (lv : Value) (nn i : Nat) (gs : Nat → Nat) (G : Nat → Nat → Int) : Prop where
  cfg : Bx wr w.heap.size 23 cs
  cu : Cu wr (w.heap.size + 1) s o false
  own : wr.ownsRow (w.heap.size + 2) 29 1 lv i (rowL nn gs i)
  rows : ∀ k, k < i → wr.rowIs (gs k) 3 nn (cutV nn (G k))
  far : ∀ k, k < i → w.heap.size + 2 ≤ gs k
  apart : ∀ k l, k < i → l < i → k ≠ l → gs k ≠ gs l
  below : Below w.heap.size w wr
  size : w.heap.size + 2 ≤ wr.heap.size
theorem InI.sub {w wr u : World} {cs : Array Value} {s : ByteArray} {o o' : Nat} {lv : Value} {nn i : Nat} {gs : Nat → Nat} {G : Nat → Nat → Int} (h : InI w wr cs s o lv nn i gs G) (hc : Chg (w.heap.size + 1) wr u) (hcu : Cu u (w.heap.size + 1) s o' false) : InI w u cs s o' lv nn i gs G :=
  ⟨h.cfg.of (hc.block _ (by have := h.size; omega) (by simp)), hcu, h.own.kept hc (.inr (fun e => by have := (h.own.lt _ e).1; omega)), fun k hk => hc.row (h.rows k hk) (by have := h.far k hk; omega), h.far, h.apart,
   h.below.trans (hc.toBelow (A := w.heap.size) (by omega) (by have := h.size; omega)), Nat.le_trans h.size hc.size⟩
theorem InI.more {w wr u : World} {cs : Array Value} {s : ByteArray} {o : Nat} {lv lv' : Value} {nn i g : Nat} {gs : Nat → Nat} {G : Nat → Nat → Int} {x : Nat → Int} (h : InI w wr cs s o lv nn i gs G) (hrow : wr.rowIs g 3 nn (cutV nn x)) (hg : w.heap.size + 2 ≤ g) (hnew : ∀ k, k < i → gs k ≠ g)
    (ho : u.ownsRow (w.heap.size + 2) 29 1 lv' (i + 1) (rowL nn (updN gs i g) (i + 1))) (hgr : wr.grownBy u lv.ownBlock) : InI w u cs s o lv' nn (i + 1) (updN gs i g) (upd2 G i x) := by
  have ne : ∀ j, j < w.heap.size + 2 → some j ≠ lv.ownBlock := fun j hj e => by have := (h.own.lt j e.symm).1; omega
  have ner : ∀ {q N : Nat} {f : Nat → Value}, wr.rowIs q 3 N f → some q ≠ lv.ownBlock := fun {q N f} hr e => own_ne h.own hr e.symm
  refine ⟨h.cfg.of (hgr.block _ (by have := h.size; omega) (ne _ (by omega))), h.cu.of (hgr.block _ (by have := h.size; omega) (ne _ (by omega))), ho, fun k hk => ?_, fun k hk => ?_, fun k l hk hl hkl => ?_, h.below.grown hgr h.below.size (fun j hj => by have := (h.own.lt j hj).1; omega), Nat.le_trans h.size hgr.size⟩
  · unfold updN upd2
    by_cases e : k = i
    · rw [if_pos e, if_pos e]; exact hrow.of_block (hgr.block _ hrow.lt (ner hrow))
    · rw [if_neg e, if_neg e]; exact (h.rows k (by omega)).of_block (hgr.block _ (h.rows k (by omega)).lt (ner (h.rows k (by omega))))
  · unfold updN
    split
    · exact hg
    · exact h.far k (by omega)
  · unfold updN
    by_cases e : k = i
    · rw [if_pos e, if_neg (by omega)]; exact Ne.symm (hnew l (by omega))
    · rw [if_neg e]
      by_cases e2 : l = i
      · rw [if_pos e2]; exact hnew k (by omega)
      · rw [if_neg e2]; exact h.apart k l (by omega) (by omega) hkl
theorem InI.next {w wr u : World} {cs : Array Value} {s : ByteArray} {o : Nat} {lv : Value} {nn i : Nat} {gs : Nat → Nat} {G : Nat → Nat → Int} (h : InI w wr cs s o lv nn i gs G) (hb : Below wr.heap.size wr u) : InI w u cs s o lv nn i gs G :=
  ⟨h.cfg.below hb, h.cu.of (hb.block _ h.cu.lt), h.own.kept ⟨hb.os, hb.tape, hb.output, hb.size, fun j hj _ => hb.block j hj⟩ (Classical.em _), fun k hk => row_below (h.rows k hk) hb, h.far, h.apart, h.below.trans (hb.mono h.below.size), Nat.le_trans h.size hb.size⟩
theorem ApOut.yes {e : Ending} {w w' : World} {d m nn : Nat} {G : Nat → Nat → Int} (h : ApOut e w w' d m nn (G 0) (G 1)) (hs : sampP d m nn G) : e = .returned (.tuple #[.slice (some ⟨w.heap.size, 0, none⟩) nn nn, .slice (some ⟨w.heap.size + 1, 0, none⟩) nn nn, .bool true]) ∧
    w'.rowIs w.heap.size 3 nn (cutV nn (fun j => unL m (G 0 j) (G 1 j))) ∧ w'.rowIs (w.heap.size + 1) 3 nn (cutV nn (fun j => unR m (G 0 j) (G 1 j))) ∧ Below w.heap.size w w' := by
  rcases h with ⟨⟨-, h1, h2, h3⟩ | ⟨⟨j, hj, hn⟩, -⟩, hb⟩
  · exact ⟨h1, h2, h3, hb⟩
  · exact absurd (hs j hj) hn
theorem ApOut.no {e : Ending} {w w' : World} {d m nn : Nat} {G : Nat → Nat → Int} (h : ApOut e w w' d m nn (G 0) (G 1)) (hs : ¬ sampP d m nn G) : e = .returned (.tuple #[.slice none 0 0, .slice none 0 0, .bool false]) ∧ Below w.heap.size w w' := by
  rcases h with ⟨⟨h0, -⟩ | ⟨-, h1⟩, hb⟩
  · exact absurd h0 hs
  · exact ⟨h1, hb⟩
theorem rows_two {w u1 u2 : World} {m nn : Nat} {G : Nat → Nat → Int} (hs : w.heap.size ≤ u1.heap.size) (h0 : u2.rowIs u1.heap.size 3 nn (cutV nn (fun j => unL m (G 0 j) (G 1 j)))) (h1 : u2.rowIs (u1.heap.size + 1) 3 nn (cutV nn (fun j => unR m (G 0 j) (G 1 j)))) :
    RowsAre w (u2.alloc (.cells #[.slice (some ⟨u1.heap.size, 0, none⟩) nn nn, .slice (some ⟨u1.heap.size + 1, 0, none⟩) nn nn] 29)) (.slice (some ⟨u2.heap.size, 0, none⟩) 2 2) 2 nn (unG 2 m G) := by
  have hlt := h1.lt
  refine ⟨u2.heap.size, 2, fun k => if k = 0 then u1.heap.size else u1.heap.size + 1, rfl, ⟨rfl, .inr ⟨u2.heap.size, 2, #[.slice (some ⟨u1.heap.size, 0, none⟩) nn nn, .slice (some ⟨u1.heap.size + 1, 0, none⟩) nn nn], rfl, by omega, blk_alloc_new _ _, Nat.le_refl _, by simp only [maxLen]; omega, rfl, rfl⟩⟩, fun k hk => ?_, fun k l hk hl hkl => ?_⟩
  · rcases (show k = 0 ∨ k = 1 by omega) with e | e <;> subst e
    · exact ⟨(h0.alloc _).congr fun j _ => by unfold unG; rfl, hs⟩
    · exact ⟨(h1.alloc _).congr fun j _ => by unfold unG; rfl, by show w.heap.size ≤ u1.heap.size + 1; omega⟩
  · rcases (show k = 0 ∨ k = 1 by omega) with e | e <;> subst e <;> rcases (show l = 0 ∨ l = 1 by omega) with e | e <;> subst e
    · exact absurd rfl hkl
    · show u1.heap.size ≠ u1.heap.size + 1; omega
    · show u1.heap.size + 1 ≠ u1.heap.size; omega
    · exact absurd rfl hkl
/-- what reading a frame's inside gives -/
def InOut (e : Ending) (w w' : World) (BT : List UInt8) (b : Nat → Bool) (d n m nn : Nat) : Prop :=
  ((∃ H v, InsP BT b d n m nn H ∧ e = .returned (.tuple #[v, .bool true]) ∧ RowsAre w w' v n nn H) ∨ (∃ v, (∀ H, ¬ InsP BT b d n m nn H) ∧ e = .returned (.tuple #[v, .bool false]))) ∧ Below w.heap.size w w'
theorem fill_iff (T : List UInt8) : FillP T ↔ T.length ≤ 7 ∧ T = List.replicate T.length 48 := by
  unfold FillP
  constructor
  · rintro ⟨h1, h2⟩
    refine ⟨by omega, List.ext_getElem (by simp) fun i hi hi2 => ?_⟩
    have := h2 i hi
    rw [List.getD_eq_getElem?_getD, List.getElem?_eq_getElem hi] at this
    simpa using this
  · rintro ⟨h1, h2⟩
    refine ⟨by omega, fun j hj => ?_⟩
    rw [h2, List.getD_eq_getElem?_getD, List.getElem?_replicate, if_pos (by simpa using hj)]; rfl
set_option maxRecDepth 4000 in
set_option maxHeartbeats 2000000 in
theorem inside_any (c2 c3 c4 c5 c6 c7 : Int) (d n m nn : Nat) (BT : List UInt8) (b : Nat → Bool) (w : World) (hd1 : 1 ≤ d) (hd : d ≤ 12) (hn1 : 1 ≤ n) (hn4 : n ≤ 4) (hm : m < 4) (h0 : n ≠ 2 → m = 0) (hnn1 : 1 ≤ nn) (hnn : nn ≤ 32) (hBT : BT.length ≤ 80000) (hb : Bits (bs BT) b) (hT : TabAt w 3) (hT3 : 3 < w.heap.size) :
    Calls Tryz.prog 125 #[.agg #[.int .i64 n, .int .i64 d, .int .i64 c2, .int .i64 c3, .int .i64 c4, .int .i64 c5, .int .i64 c6, .int .i64 c7], .int .i64 m, .int .i64 nn, .string (bs BT)] w fun e w' => InOut e w w' BT b d n m nn := by
  have hz : (bs BT).size = BT.length := bs_size BT
  have HWI := Hid.mk' (fun (u : World) i (hi : i < n) => rwidth_any d n m i u hd hm h0 hi)
  have HRD := Hid.mk' (fun (u : World) (hu : Below w.heap.size w u) o i (ho : o ≤ BT.length) (hc : Cu u (w.heap.size + 1) (bs BT) o false) => cSubAt_any (w.heap.size + 1) (bs BT) b (widN d n m i) nn o (o + 8) u rfl (by omega) (by omega) (widN_bd hd1 hd).1 (widN_bd hd1 hd).2 hnn1 hnn hc hb (tab_belowB hu hT hT3) (Nat.lt_of_lt_of_le hT3 hu.size) (by omega))
  have HSL : Hid (∀ (i : Nat) (r : (Nat → Nat → Int) × Nat), subsAt b BT.length d n m nn i = some r → r.2 ≤ BT.length ∧ ∀ k, k < i → ∀ j, j < nn → -4096 ≤ r.1 k j ∧ r.1 k j ≤ 4096) := fun i r h => subsAt_le hd1 hd h
  clear hb hT
  go_enter Tryz.func125, Tryz.ntmps125
  go_wp2_with fail
  go_loopw [8, 9, 11, 12, 13, 14, 15] (fun _ _ lv iv _ _ _ wr => ∃ i o : Nat, ∃ ov : Value, ∃ gs : Nat → Nat, ∃ G : Nat → Nat → Int, i ≤ n ∧ iv = .int .i64 i ∧ ov = lv ∧ Hid (subsAt b BT.length d n m nn i = some (G, o) ∧ InI w wr #[.int .i64 n, .int .i64 d, .int .i64 c2, .int .i64 c3, .int .i64 c4, .int .i64 c5, .int .i64 c6, .int .i64 c7] (bs BT) o ov nn i gs G)) (fun _ _ _ iv _ _ _ _ => n - (intOf iv).toNat)
  case atStart =>
    refine ⟨0, 0, .slice none 0 0, fun _ => 0, fun _ _ => 0, Nat.zero_le _, rfl, rfl, rfl, ?_⟩
    refine ⟨(Bx.new w _ _).alloc _, Bx.new2 (by simp) _ _, World.ownsRow_nil _ _ _ _, fun k hk => absurd hk (Nat.not_lt_zero k), fun k hk => absurd hk (Nat.not_lt_zero k), fun k l hk => absurd hk (Nat.not_lt_zero k), ((Below.refl _ _).alloc (Nat.le_refl _) _).alloc (by simp) _, by simp⟩
  case round =>
    obtain ⟨i, o, lv, gs, G, hi, rfl, e, HR⟩ := hrel
    subst e
    have hoN := (HSL.out _ _ HR.out.1).1
    have HBW := Hid.mk' HR.out.2.below
    have x0 := HR.out.2.cfg.cell 0
    have x1 := HR.out.2.cfg.cell 1
    by_cases hlt : i < n
    · have HWI1 := Hid.mk' (fun (u : World) => HWI.out u i hlt)
      have HRD1 := Hid.mk' (HRD.out wr HBW.out o i hoN HR.out.2.cu)
      cases hrd : readAt b (bs BT).size o (widN d n m i) nn with
      | none =>
        rw [hrd] at HRD1
        have HNO : Hid (∀ H, ¬ InsP BT b d n m nn H) := fun H ⟨G', o', h1, _⟩ => by
          have : subsAt b BT.length d n m nn (i + 1) = none := by
            unfold subsAt
            rw [HR.out.1, Option.bind_some]
            show Option.map _ (readAt b BT.length o (widN d n m i) nn) = none
            rw [← hz, hrd]; rfl
          rw [subsAt_none this (by omega)] at h1
          cases h1
        clear hrd
        go_wp2_with (first
          | (go_at_call 150; refine (HWI1.out _).mono ?_; rintro e u1 ⟨rfl, hw1⟩; subst u1; clear HWI1)
          | (go_at_call 159; refine HRD1.out.mono ?_; rintro e u2 ⟨v, rfl, hch⟩; have HB2 : Hid (Below w.heap.size w u2) := HBW.out.trans (hch.toBelow (A := w.heap.size) (by omega) HBW.out.size); clear HRD1 hch x0 x1))
        go_ret2
        exact ⟨.inr ⟨_, HNO.out, rfl⟩, HB2.out⟩
      | some xp =>
        rw [hrd] at HRD1
        have HSU : Hid (subsAt b BT.length d n m nn (i + 1) = some (upd2 G i xp.1, xp.2)) := by
          show _ = _
          unfold subsAt
          rw [HR.out.1, Option.bind_some]
          show Option.map _ (readAt b BT.length o (widN d n m i) nn) = _
          rw [← hz, hrd]; rfl
        clear hrd
        go_wp2_with (first
          | (go_at_call 150; refine (HWI1.out _).mono ?_; rintro e u1 ⟨rfl, hw1⟩; subst u1; clear HWI1)
          | (go_at_call 159; refine HRD1.out.mono ?_; rintro e u2 ⟨gx, rfl, hgx, hrow, hcu, hch⟩; have hI2 := HR.out.2.sub hch hcu; have hnew : ∀ k, k < i → gs k ≠ gx := (fun k hk e => by have h1 := (HR.out.2.rows k hk).lt; omega); obtain ⟨g', c', u4, hr, ho, hgr⟩ := app_row 24 29 (.slice none 0 0) 24 Tryz.underlying24 infoInts rfl u2 _ lv _ _ #[.slice (some ⟨gx, 0, none⟩) nn nn] hI2.own (by simp) (by intro u hu; simp at hu; rw [hu]; rfl) (by simp only [maxLen]; simp; omega) (by simp; omega) hI2.size 24; have HI4 := Hid.mk' (hI2.more hrow (by have := HR.out.2.size; omega) hnew (by rw [rowL_snoc]; exact ho) hgr); have HAP : Hid (_ = _) := hr; clear hr ho hgr hI2 hnew HRD1 hch hcu hrow x0 x1)
          | (at_builtin; refine wpList_append_rn rfl _ _ _ rfl _ _ _ rfl rfl HAP.out ?_; clear HAP))
        go_roundw
        case rel => exact ⟨i + 1, xp.2, _, updN gs i gx, upd2 G i xp.1, by omega, by go_num, rfl, HSU.out, HI4.out⟩
        case measure => simp [intOf]; omega
    · have e : i = n := by omega
      subst e
      obtain ⟨k0, k1, k2, -, -⟩ := HR.out.2.cu.cells
      have hsl : (bs BT).extract o BT.length = bs (BT.drop o) := by rw [bs_cut', List.take_of_length_le (by rw [List.length_drop]; omega)]
      have hlo : ((BT.length : Int) - (o : Int)) = ((BT.length - o : Nat) : Int) := by omega
      have w1 : IntKind.i64.wrap ((BT.length : Int) - (o : Int)) = ((BT.length - o : Nat) : Int) := by rw [IntKind.wrap_i64]; omega
      have HFI : Hid (∀ H, InsP BT b d i m nn H → FillP (BT.drop o)) := fun H ⟨G', o', h1, h2, _⟩ => by
        rw [HR.out.1] at h1
        injection h1 with h1
        injection h1 with h3 h4
        rw [h4]; exact h2
      obtain ⟨gl, cl, hlv⟩ := own_some HR.out.2.own (by omega)
      subst hlv
      by_cases hf7 : BT.length - o ≤ 7
      · have HZ := Hid.mk' (fun (u : World) => zeros_any (BT.length - o) u (by omega))
        have c1 : ¬ (7 : Int) < ((BT.length - o : Nat) : Int) := by omega
        have c2' : decide ((7 : Int) < ((BT.length - o : Nat) : Int)) = false := decide_eq_false c1
        by_cases hfe : BT.drop o = List.replicate (BT.length - o) 48
        · have hFP : FillP (BT.drop o) := (fill_iff _).2 ⟨by rw [List.length_drop]; exact hf7, by rw [List.length_drop]; exact hfe⟩
          have heq : ((bs (BT.drop o)).toList == (bs (List.replicate (BT.length - o) 48)).toList) = true := (str_beq _ _).2 (by rw [hfe])
          have HFP := Hid.mk' hFP
          clear hFP hfe hlo
          have hS0 : wr.drew.cell? ⟨w.heap.size + 1, 1, none⟩ = some (.int .i64 (o : Int)) := k1
          have hBlt := HR.out.2.cu.lt
          generalize bs (List.replicate (BT.length - o) 48) = ZS at *
          generalize bs (BT.drop o) = DS at *
          have HWW := Hid.mk' HR.out.2
          go_wp2_with fail
          go_region_held3 (fun w' => w'.cell? ⟨w.heap.size + 1, 1, none⟩ = some (.int .i64 (o : Int)))
            (with_reducible assumption)
            (first
            | (go_at_call 160; refine (HZ.out _).mono ?_; rintro e u1 ⟨rfl, hb1⟩; have hS1 : u1.cell? ⟨w.heap.size + 1, 1, none⟩ = some (.int .i64 (o : Int)) := (hb1.cell (p := ⟨w.heap.size + 1, 1, none⟩) hBlt).trans hS0; have HI1 := Hid.mk' (HWW.out.next (⟨hb1.os, hb1.tape, hb1.output, hb1.size, hb1.block⟩ : Below wr.heap.size wr u1)); clear HZ hb1 hS0))
          clear x0 x1
          have x0 := HI1.out.cfg.cell 0
          have x1 := HI1.out.cfg.cell 1
          by_cases h2 : i = 2
          · subst h2
            have l0 : u1.cell? ⟨gl, 0, none⟩ = some (.slice (some ⟨gs 0, 0, none⟩) nn nn) := by
              have := HI1.out.own.cells (g := gl) rfl 0 (.slice (some ⟨gs 0, 0, none⟩) nn nn) (by unfold rowL; rfl)
              rw [Addr.add_lit] at this; exact this
            have l1 : u1.cell? ⟨gl, 1, none⟩ = some (.slice (some ⟨gs 1, 0, none⟩) nn nn) := by
              have := HI1.out.own.cells (g := gl) rfl 1 (.slice (some ⟨gs 1, 0, none⟩) nn nn) (by unfold rowL; rfl)
              rw [Addr.add_lit] at this; exact this
            have HBD := Hid.mk' (HSL.out _ _ HR.out.1).2
            have HAPT := Hid.mk' (fun (u : World) (hu : Below u1.heap.size u1 u) => apart_any d m (gs 0) (gs 1) nn (G 0) (G 1) u hd1 hd hm hnn (fun j hj => by have h := HBD.out 0 (by omega) j hj; have h' : -4096 ≤ G 0 j ∧ G 0 j ≤ 4096 := h; omega) (fun j hj => by have h := HBD.out 1 (by omega) j hj; have h' : -4096 ≤ G 1 j ∧ G 1 j ≤ 4096 := h; omega) (row_below (HI1.out.rows 0 (by omega)) hu) (row_below (HI1.out.rows 1 (by omega)) hu))
            have hT0 : u1.drew.cell? ⟨w.heap.size, 1, none⟩ = some (.int .i64 d) ∧ u1.drew.cell? ⟨gl, 0, none⟩ = some (.slice (some ⟨gs 0, 0, none⟩) nn nn) ∧ u1.drew.cell? ⟨gl, 1, none⟩ = some (.slice (some ⟨gs 1, 0, none⟩) nn nn) := ⟨x1, l0, l1⟩
            have hgl1 : gl < u1.heap.size := (HI1.out.own.lt gl rfl).2
            have hwl1 : w.heap.size < u1.heap.size := HI1.out.cfg.lt
            clear hS1 k0 k1 k2
            by_cases hsm : sampP d m nn G
            · have HSM := Hid.mk' hsm
              have HIN : Hid (InsP BT b d 2 m nn (unG 2 m G)) := ⟨G, o, HR.out.1, HFP.out, fun _ => hsm, rfl⟩
              clear hsm
              go_wp2_with fail
              go_region_held3 (fun w' => w'.cell? ⟨w.heap.size, 1, none⟩ = some (.int .i64 d) ∧ w'.cell? ⟨gl, 0, none⟩ = some (.slice (some ⟨gs 0, 0, none⟩) nn nn) ∧ w'.cell? ⟨gl, 1, none⟩ = some (.slice (some ⟨gs 1, 0, none⟩) nn nn))
                (with_reducible assumption)
                (first
                | (go_at_call 161; refine (HAPT.out _ (Below.refl _ _).drew).mono ?_; intro e u2 hap; obtain ⟨rfl, hr0, hr1, hb2⟩ := hap.yes HSM.out; have hT1 : u2.cell? ⟨w.heap.size, 1, none⟩ = some (.int .i64 d) ∧ u2.cell? ⟨gl, 0, none⟩ = some (.slice (some ⟨gs 0, 0, none⟩) nn nn) ∧ u2.cell? ⟨gl, 1, none⟩ = some (.slice (some ⟨gs 1, 0, none⟩) nn nn) := ⟨(hb2.cell (p := ⟨w.heap.size, 1, none⟩) hwl1).trans hT0.1, (hb2.cell (p := ⟨gl, 0, none⟩) hgl1).trans hT0.2.1, (hb2.cell (p := ⟨gl, 1, none⟩) hgl1).trans hT0.2.2⟩; have HB2 : Hid (Below w.heap.size w u2) := HI1.out.below.drew.trans (hb2.mono HI1.out.below.size); have HRA := Hid.mk' (rows_two (w := w) (u1 := u1) (m := m) (G := G) HI1.out.below.size hr0 hr1); clear HAPT hap hr0 hr1 hb2 hT0))
              clear hT1 x0 x1 l0 l1
              go_wp2
              go_ret2
              exact ⟨.inl ⟨_, _, HIN.out, rfl, HRA.out⟩, HB2.out.alloc HB2.out.size _⟩
            · have HSM : Hid (¬ sampP d m nn G) := hsm
              have HNO : Hid (∀ H, ¬ InsP BT b d 2 m nn H) := fun H ⟨G', o', h1, _, h3, _⟩ => by
                rw [HR.out.1] at h1
                injection h1 with h1
                injection h1 with h4 h5
                rw [← h4] at h3
                exact HSM.out (h3 rfl)
              clear hsm
              go_wp2_with fail
              go_region_held3 (fun w' => w'.cell? ⟨w.heap.size, 1, none⟩ = some (.int .i64 d) ∧ w'.cell? ⟨gl, 0, none⟩ = some (.slice (some ⟨gs 0, 0, none⟩) nn nn) ∧ w'.cell? ⟨gl, 1, none⟩ = some (.slice (some ⟨gs 1, 0, none⟩) nn nn))
                (with_reducible assumption)
                (first
                | (go_at_call 161; refine (HAPT.out _ (Below.refl _ _).drew).mono ?_; intro e u2 hap; obtain ⟨rfl, hb2⟩ := hap.no HSM.out; have hT1 : u2.cell? ⟨w.heap.size, 1, none⟩ = some (.int .i64 d) ∧ u2.cell? ⟨gl, 0, none⟩ = some (.slice (some ⟨gs 0, 0, none⟩) nn nn) ∧ u2.cell? ⟨gl, 1, none⟩ = some (.slice (some ⟨gs 1, 0, none⟩) nn nn) := ⟨(hb2.cell (p := ⟨w.heap.size, 1, none⟩) hwl1).trans hT0.1, (hb2.cell (p := ⟨gl, 0, none⟩) hgl1).trans hT0.2.1, (hb2.cell (p := ⟨gl, 1, none⟩) hgl1).trans hT0.2.2⟩; have HB2 : Hid (Below w.heap.size w u2) := HI1.out.below.drew.trans (hb2.mono HI1.out.below.size); clear HAPT hap hb2 hT0))
              clear hT1 x0 x1 l0 l1
              go_wp2
              go_ret2
              exact ⟨.inr ⟨_, HNO.out, rfl⟩, HB2.out.alloc HB2.out.size _⟩
          · have t2 : ((i : Int) == 2) = false := by simp; omega
            have HIN : Hid (InsP BT b d i m nn (unG i m G)) := ⟨G, o, HR.out.1, HFP.out, fun h => absurd h h2, rfl⟩
            have HRA : Hid (RowsAre w u1 (.slice (some ⟨gl, 0, none⟩) i cl) i nn (unG i m G)) := ⟨gl, cl, gs, rfl, own_mono HI1.out.own (by omega), fun k hk => ⟨(HI1.out.rows k hk).congr fun j _ => by show cutV nn (G k) j = cutV nn (unG i m G k) j; rw [show unG i m G k = G k from funext fun j => by unfold unG; rw [if_neg h2]], by have := HI1.out.far k hk; omega⟩, HI1.out.apart⟩
            clear hS1 k0 k1 k2
            go_wp2
            go_ret2
            exact ⟨.inl ⟨_, _, HIN.out, rfl, HRA.out⟩, HI1.out.below⟩
        · have hne : ¬ (bs (BT.drop o)).toList = (bs (List.replicate (BT.length - o) 48)).toList := fun h => hfe (bs_inj ((str_beq _ _).1 (by rw [h]; simp)))
          have heq : ((bs (BT.drop o)).toList == (bs (List.replicate (BT.length - o) 48)).toList) = false := by simpa using hne
          have HNO : Hid (∀ H, ¬ InsP BT b d i m nn H) := fun H h => hfe (by
            have := ((fill_iff _).1 (HFI.out H h)).2
            rw [List.length_drop] at this
            exact this)
          clear hfe hlo
          generalize bs (List.replicate (BT.length - o) 48) = ZS at *
          generalize bs (BT.drop o) = DS at *
          have hS0 : wr.drew.cell? ⟨w.heap.size + 1, 1, none⟩ = some (.int .i64 (o : Int)) := k1
          have hBlt := HR.out.2.cu.lt
          go_wp2_with fail
          go_region_held3 (fun w' => w'.cell? ⟨w.heap.size + 1, 1, none⟩ = some (.int .i64 (o : Int)))
            (with_reducible assumption)
            (first
            | (go_at_call 160; refine (HZ.out _).mono ?_; rintro e u1 ⟨rfl, hb1⟩; have hS1 : u1.cell? ⟨w.heap.size + 1, 1, none⟩ = some (.int .i64 (o : Int)) := (hb1.cell (p := ⟨w.heap.size + 1, 1, none⟩) hBlt).trans hS0; have HB1 : Hid (Below w.heap.size w u1) := HBW.out.drew.trans (hb1.mono HBW.out.size); clear HZ hb1 hS0))
          go_wp2
          go_ret2
          exact ⟨.inr ⟨_, HNO.out, rfl⟩, HB1.out⟩
      · have c1 : (7 : Int) < ((BT.length - o : Nat) : Int) := by omega
        have HNO : Hid (∀ H, ¬ InsP BT b d i m nn H) := fun H h => hf7 (by
          have := ((fill_iff _).1 (HFI.out H h)).1
          rw [List.length_drop] at this
          exact this)
        have c2' : decide ((7 : Int) < ((BT.length - o : Nat) : Int)) = true := decide_eq_true c1
        have c3' : ¬ ((BT.length - o : Nat) : Int) ≤ 7 := by omega
        clear hlo HWI HRD HSL HFI x1 k0 k2 hsl
        generalize ((BT.length - o : Nat) : Int) = LO at *
        go_wp2_with fail
        go_region
        go_wp2
        go_ret2
        exact ⟨.inr ⟨_, HNO.out, rfl⟩, HBW.out.drew⟩
end Go.Proofs.YtlncjgnomhpjnaaGreatDoor

