import Derived.Test.YtlncjgnomhpjnaaGreatDoorPD22
import Derived.Test.YtlncjgnomhpjnaaGreatDoorPD23
import Derived.Test.YtlncjgnomhpjnaaGreatDoorPD9
import Derived.Test.YtlncjgnomhpjnaaGreatDoorPD6
import Derived.Deep.RegionHeld3
/-
  The program reads a frame's subframes: frame.readSubframes.
-/
namespace Go.Proofs.YtlncjgnomhpjnaaGreatDoor
open Go.RowKit Go.Deep
set_option linter.unusedVariables false
theorem bits_drop {BT : List UInt8} {b : Nat → Bool} {o : Nat} (h : Bits (bs BT) b) : Bits (bs (BT.drop o)) (shB b o) := by
  intro j hj
  have h1 : j < (BT.drop o).length := by rw [bs_size] at hj; exact hj
  have h2 : o + j < BT.length := by rw [List.length_drop] at h1; omega
  have := h (o + j) (by rw [bs_size]; exact h2)
  rw [bs_get] at this
  rw [bs_get, List.getElem_drop, this]
  rfl
/-- the tables that reading wants -/
structure TabsU (w : World) : Prop where
  fix : TabAt w 7
  fixLt : 7 < w.heap.size
  pairs : PairsAt w
  pairsLt : 2 < w.heap.size
theorem TabsU.below {w u : World} (h : TabsU w) (hb : Below w.heap.size w u) : TabsU u :=
  ⟨fun r c hr hc => (hb.cell (p := ⟨7, 4 * r + c, none⟩) h.fixLt).trans (h.fix r c hr hc), Nat.lt_of_lt_of_le h.fixLt hb.size,
   fun r c hr hc => (hb.cell (p := ⟨2, 2 * r + c, none⟩) h.pairsLt).trans (h.pairs r c hr hc), Nat.lt_of_lt_of_le h.pairsLt hb.size⟩
def rowL (nn : Nat) (gs : Nat → Nat) (i : Nat) : List Value := (List.range i).map fun k => Value.slice (some ⟨gs k, 0, none⟩) nn nn
def updN (gs : Nat → Nat) (i g k : Nat) : Nat := if k = i then g else gs k
theorem rowL_snoc (nn : Nat) (gs : Nat → Nat) (i g : Nat) : rowL nn (updN gs i g) (i + 1) = rowL nn gs i ++ [Value.slice (some ⟨g, 0, none⟩) nn nn] := by
  unfold rowL
  rw [List.range_succ, List.map_append]
  congr 1
  · apply List.map_congr_left
    intro k hk
    have : k < i := List.mem_range.1 hk
    unfold updN
    rw [if_neg (by omega)]
  · simp [updN]
/-- what holds while subframes are read -/
structure SubI (w wr : World) (cs hs : Array Value) (lv : Value) (nn i : Nat) (gs : Nat → Nat) (G : Nat → Nat → Int) : Prop where
  cfg : Bx wr w.heap.size 23 cs
  hdr : Bx wr (w.heap.size + 1) 99 hs
  own : wr.ownsRow (w.heap.size + 2) 29 1 lv i (rowL nn gs i)
  rows : ∀ k, k < i → wr.rowIs (gs k) 3 nn (cutV nn (G k))
  far : ∀ k, k < i → w.heap.size + 2 ≤ gs k
  apart : ∀ k l, k < i → l < i → k ≠ l → gs k ≠ gs l
  below : Below w.heap.size w wr
  size : w.heap.size + 2 ≤ wr.heap.size
theorem row_below {w w' : World} {g n : Nat} {t : TypeId} {f : Nat → Value} (h : w.rowIs g t n f) (hb : Below w.heap.size w w') : w'.rowIs g t n f := by
  obtain ⟨cs, h1, h2⟩ := h
  exact ⟨cs, (hb.block g (Array.getElem?_eq_some_iff.1 h1).1).trans h1, h2⟩
theorem SubI.next {w wr u : World} {cs hs : Array Value} {lv : Value} {nn i : Nat} {gs : Nat → Nat} {G : Nat → Nat → Int} (h : SubI w wr cs hs lv nn i gs G) (hb : Below wr.heap.size wr u) : SubI w u cs hs lv nn i gs G :=
  ⟨h.cfg.below hb, h.hdr.below hb, h.own.kept ⟨hb.os, hb.tape, hb.output, hb.size, fun j hj _ => hb.block j hj⟩ (Classical.em _), fun k hk => row_below (h.rows k hk) hb, h.far, h.apart, h.below.trans (hb.mono h.below.size), Nat.le_trans h.size hb.size⟩
theorem own_form {w : World} {base : Nat} {t : TypeId} {v : Value} {n : Nat} {xs : List Value} (h : w.ownsRow base t 1 v n xs) : ∃ a c, v = .slice a n c := by
  rcases h.2 with ⟨rfl, rfl⟩ | ⟨g, c, cur, rfl, -⟩
  · exact ⟨none, 0, rfl⟩
  · exact ⟨_, c, rfl⟩
theorem SubI.more {w wr u : World} {cs hs : Array Value} {lv lv' : Value} {nn i g : Nat} {gs : Nat → Nat} {G : Nat → Nat → Int} {x : Nat → Int} (h : SubI w wr cs hs lv nn i gs G) (hrow : wr.rowIs g 3 nn (cutV nn x)) (hg : w.heap.size + 2 ≤ g) (hnew : ∀ k, k < i → gs k ≠ g)
    (ho : u.ownsRow (w.heap.size + 2) 29 1 lv' (i + 1) (rowL nn gs i ++ [Value.slice (some ⟨g, 0, none⟩) nn nn])) (hgr : wr.grownBy u lv.ownBlock) : SubI w u cs hs lv' nn (i + 1) (updN gs i g) (upd2 G i x) :=
  have ne : ∀ j, j < w.heap.size + 2 → some j ≠ lv.ownBlock := fun j hj e => by have := (h.own.lt j e.symm).1; omega
  have keep : ∀ {k : Nat} {f : Nat → Value}, wr.rowIs k 3 nn f → u.rowIs k 3 nn f := fun {k f} hk => by
    obtain ⟨c0, h1, h2⟩ := hk
    refine ⟨c0, (hgr.block k (Array.getElem?_eq_some_iff.1 h1).1 ?_).trans h1, h2⟩
    intro e
    rcases h.own.2 with ⟨rfl, -⟩ | ⟨g2, cap2, cur2, rfl, -, h5, -⟩
    · simp [Value.ownBlock] at e
    · simp [Value.ownBlock] at e
      subst e
      rw [h1] at h5
      injection h5 with h5
      injection h5 with _ h6
      exact absurd h6 (by decide)
  ⟨h.cfg.of (hgr.block _ (by have := h.size; omega) (ne _ (by omega))), h.hdr.of (hgr.block _ (by have := h.size; omega) (ne _ (by omega))), by rw [rowL_snoc]; exact ho,
   fun k hk => by
     unfold updN upd2
     by_cases e : k = i
     · rw [if_pos e, if_pos e]; exact keep hrow
     · rw [if_neg e, if_neg e]; exact keep (h.rows k (by omega)),
   fun k hk => by
     unfold updN
     by_cases e : k = i
     · rw [if_pos e]; exact hg
     · rw [if_neg e]; exact h.far k (by omega),
   fun k l hk hl hkl => by
     unfold updN
     by_cases e : k = i
     · rw [if_pos e, if_neg (by omega)]; exact Ne.symm (hnew l (by omega))
     · rw [if_neg e]
       by_cases e2 : l = i
       · rw [if_pos e2]; exact hnew k (by omega)
       · rw [if_neg e2]; exact h.apart k l (by omega) (by omega) hkl,
   h.below.grown hgr h.below.size (fun j hj => by have := (h.own.lt j hj).1; omega), Nat.le_trans h.size hgr.size⟩
/-- what reading a frame's subframes gives -/
def SubsOut (e : Ending) (w w' : World) (BT : List UInt8) (b : Nat → Bool) (d n m nn : Nat) : Prop :=
  ((∃ H g c gs, InsP BT b d n m nn H ∧ e = .returned (.tuple #[.slice (some ⟨g, 0, none⟩) n c, .bool true]) ∧ w'.ownsRow w.heap.size 29 1 (.slice (some ⟨g, 0, none⟩) n c) n (rowL nn gs n) ∧ (∀ k, k < n → w'.rowIs (gs k) 3 nn (cutV nn (H k)) ∧ w.heap.size ≤ gs k) ∧ ∀ k l, k < n → l < n → k ≠ l → gs k ≠ gs l)
   ∨ (∃ v, (∀ H, ¬ InsP BT b d n m nn H) ∧ e = .returned (.tuple #[v, .bool false]))) ∧ Below w.heap.size w w'
theorem ku_below {q : Nat} {v0 v1 v2 v3 : Value} {u u' : World} (hb : Below u.heap.size u u') (h : q + 1 < u.heap.size ∧ u.cell? ⟨q, 0, none⟩ = some v0 ∧ u.cell? ⟨q, 1, none⟩ = some v1 ∧ u.cell? ⟨q + 1, 2, none⟩ = some v2 ∧ u.cell? ⟨q + 1, 3, none⟩ = some v3) : q + 1 < u'.heap.size ∧ u'.cell? ⟨q, 0, none⟩ = some v0 ∧ u'.cell? ⟨q, 1, none⟩ = some v1 ∧ u'.cell? ⟨q + 1, 2, none⟩ = some v2 ∧ u'.cell? ⟨q + 1, 3, none⟩ = some v3 :=
  have h1 : q < u.heap.size := by have := h.1; omega
  ⟨Nat.lt_of_lt_of_le h.1 hb.size, keep_cell hb h1 h.2.1, keep_cell hb h1 h.2.2.1, keep_cell hb h.1 h.2.2.2.1, keep_cell hb h.1 h.2.2.2.2⟩
set_option maxRecDepth 4000 in
set_option maxHeartbeats 2000000 in
theorem readSubs_ne (c2 c3 c4 c5 c6 c7 : Int) (num len d n m nn : Nat) (BT : List UInt8) (b : Nat → Bool) (w : World) (hd1 : 1 ≤ d) (hd : d ≤ 12) (hn1 : 1 ≤ n) (hn4 : n ≤ 4) (hm : m < 4) (hnn : nn ≤ 32) (hBT : BT.length ≤ 80000) (hb : Bits (bs BT) b) (hT : TabsU w) (h2 : n ≠ 2) :
    Calls Tryz.prog 77 #[.agg #[.int .i64 n, .int .i64 d, .int .i64 c2, .int .i64 c3, .int .i64 c4, .int .i64 c5, .int .i64 c6, .int .i64 c7], .agg #[.int .i64 num, .int .i64 len, .int .i64 nn, .int .i64 m], .string (bs BT)] w fun e w' => SubsOut e w w' BT b d n m nn := by
  have hmk := run_make_none 24 29 (.slice none 0 0) 24 Tryz.underlying24 infoInts rfl n (by omega) (by omega)
  have HWI := Hid.mk' (fun (u : World) (hu : Below w.heap.size w u) i (hi : i < n) => widthOf_any d n m i u hd hm hi hn4 (hT.below hu).pairs)
  have HRD := Hid.mk' (fun (u : World) (hu : Below w.heap.size w u) o i => subRead_any (bs (BT.drop o)) (shB b o) (widN d n m i) nn u (by rw [bs_size, List.length_drop]; omega) (widN_bd hd1 hd).1 (widN_bd hd1 hd).2 hnn (bits_drop hb) (hT.below hu).fix (hT.below hu).fixLt)
  have HSZ : Hid (∀ o, (bs (BT.drop o)).size = BT.length - o) := fun o => by rw [bs_size, List.length_drop]
  have HCUT : Hid (∀ o t, o + t ≤ BT.length → (bs (BT.drop o)).extract t (BT.length - o) = bs (BT.drop (o + t))) := fun o t h => by
    rw [bs_cut', List.drop_drop, List.take_of_length_le (by rw [List.length_drop]; omega)]
  have HSL : Hid (∀ (i : Nat) (r : (Nat → Nat → Int) × Nat), subsAt b BT.length d n m nn i = some r → r.2 ≤ BT.length) := fun i r h => (subsAt_le hd1 hd h).1
  have HB0 : Hid (Below w.heap.size w ((w.alloc (.cells #[.int .i64 n, .int .i64 d, .int .i64 c2, .int .i64 c3, .int .i64 c4, .int .i64 c5, .int .i64 c6, .int .i64 c7] 23)).alloc (.cells #[.int .i64 num, .int .i64 len, .int .i64 nn, .int .i64 m] 99))) := ((Below.refl _ _).alloc (Nat.le_refl _) _).alloc (by simp) _
  clear hb hT
  go_enter Tryz.func77, Tryz.ntmps77
  go_wp2_with fail
  refine wp_scope_straight ?_
  go_wp2_with fail
  refine wp_label ?_
  go_wp2_with fail
  clear hmk
  go_loopw [2, 8, 9, 10, 11, 12, 13, 14, 15, 16, 22] (fun bv lv _ _ _ _ _ _ _ _ iv wr => ∃ i o : Nat, ∃ ov : Value, ∃ gs : Nat → Nat, ∃ G : Nat → Nat → Int, i ≤ n ∧ iv = .int .i64 i ∧ ov = lv ∧ bv = .string (bs (BT.drop o)) ∧ Hid (subsAt b BT.length d n m nn i = some (G, o) ∧ SubI w wr #[.int .i64 n, .int .i64 d, .int .i64 c2, .int .i64 c3, .int .i64 c4, .int .i64 c5, .int .i64 c6, .int .i64 c7] #[.int .i64 num, .int .i64 len, .int .i64 nn, .int .i64 m] ov nn i gs G)) (fun _ _ _ _ _ _ _ _ _ _ iv _ => n - (intOf iv).toNat)
  case atStart =>
    refine ⟨0, 0, .slice (some ⟨w.heap.size + 1 + 1, 0, none⟩) 0 n, fun _ => 0, fun _ _ => 0, Nat.zero_le _, rfl, rfl, rfl, rfl, ?_⟩
    refine ⟨((Bx.new w _ _).alloc _).alloc _, (Bx.new2 (by simp) _ _).alloc _, ?_, fun k hk => absurd hk (Nat.not_lt_zero k), fun k hk => absurd hk (Nat.not_lt_zero k), fun k l hk => absurd hk (Nat.not_lt_zero k), HB0.out.alloc HB0.out.size _, by simp⟩
    have := World.ownsRow_made (base := w.heap.size + 2) (e := 29) (size := 1) ((w.alloc (.cells #[.int .i64 n, .int .i64 d, .int .i64 c2, .int .i64 c3, .int .i64 c4, .int .i64 c5, .int .i64 c6, .int .i64 c7] 23)).alloc (.cells #[.int .i64 num, .int .i64 len, .int .i64 nn, .int .i64 m] 99)) (madeCells #[.slice none 0 0] n) n (by simp) (by simp only [maxLen]; omega) (by simp [size_madeCells])
    rw [show rowL nn (fun _ => 0) 0 = [] from rfl]
    simpa using this
  case round =>
    obtain ⟨i, o, lv, gs, G, hi, rfl, e, rfl, HR⟩ := hrel
    subst e
    have hoN := HSL.out _ _ HR.out.1
    obtain ⟨al, cl, hlv⟩ := own_form HR.out.2.own
    subst hlv
    have hsz := HSZ.out o
    have HBW := Hid.mk' HR.out.2.below
    by_cases hlt : i < n
    · have hS0 : w.heap.size + 1 < wr.drew.heap.size ∧ wr.drew.cell? ⟨w.heap.size, 0, none⟩ = some (.int .i64 n) ∧ wr.drew.cell? ⟨w.heap.size, 1, none⟩ = some (.int .i64 d) ∧ wr.drew.cell? ⟨w.heap.size + 1, 2, none⟩ = some (.int .i64 nn) ∧ wr.drew.cell? ⟨w.heap.size + 1, 3, none⟩ = some (.int .i64 m) := ⟨by have := HR.out.2.size; show _ < wr.heap.size; omega, HR.out.2.cfg.cell 0, HR.out.2.cfg.cell 1, HR.out.2.hdr.cell 2, HR.out.2.hdr.cell 3⟩
      have HWI1 := Hid.mk' (fun (u : World) (hu : Below w.heap.size w u) => HWI.out u hu i hlt)
      have HRD1 := Hid.mk' (fun (u : World) (hu : Below w.heap.size w u) => HRD.out u hu o i)
      have HRS := Hid.mk' (readAt_sh (b := b) hoN (widN d n m i) nn)
      rw [hsz] at HRD1
      cases hrd : readSt (shB b o) (BT.length - o) (widN d n m i) nn with
      | none =>
        rw [hrd] at HRD1 HRS
        go_wp2_with fail
        go_region_held3 (fun w' => w.heap.size + 1 < w'.heap.size ∧ w'.cell? ⟨w.heap.size, 0, none⟩ = some (.int .i64 n) ∧ w'.cell? ⟨w.heap.size, 1, none⟩ = some (.int .i64 d) ∧ w'.cell? ⟨w.heap.size + 1, 2, none⟩ = some (.int .i64 nn) ∧ w'.cell? ⟨w.heap.size + 1, 3, none⟩ = some (.int .i64 m))
          (with_reducible assumption)
          (first
          | (go_at_call 118; refine (HWI1.out _ HBW.out.drew).mono ?_; rintro e u1 ⟨rfl, hw1⟩; subst u1; clear HWI1)
          | (go_at_call 117; refine (HRD1.out _ HBW.out.drew).mono ?_; rintro e u2 ⟨rfl, hb2⟩; have hS1 := ku_below hb2 hS0; have HB2 : Hid (Below wr.heap.size wr u2) := (⟨hb2.os, hb2.tape, hb2.output, hb2.size, hb2.block⟩ : Below wr.heap.size wr u2); clear HRD1 hb2))
        have x0 := hS1.2.1
        have t1 : ((i : Int) == (n : Int)) = false := by simp; omega
        have HNO : Hid (∀ H, ¬ InsP BT b d n m nn H) := fun H ⟨G', o', h1, _⟩ => by
          have : subsAt b BT.length d n m nn (i + 1) = none := by
            unfold subsAt
            rw [HR.out.1, Option.bind_some]
            show Option.map _ (readAt b BT.length o (widN d n m i) nn) = none
            rw [HRS.out]; rfl
          rw [subsAt_none this (by omega)] at h1
          cases h1
        clear hS1 hS0
        go_wp2
        rw [Exit.noGoto_ret]
        go_ret2
        exact ⟨.inr ⟨_, HNO.out, rfl⟩, HBW.out.trans (HB2.out.mono HBW.out.size)⟩
      | some xp =>
        rw [hrd] at HRD1 HRS
        have HXL := Hid.mk' (readSt_le hrd)
        clear hrd
        go_wp2_with fail
        go_region_held3 (fun w' => w.heap.size + 1 < w'.heap.size ∧ w'.cell? ⟨w.heap.size, 0, none⟩ = some (.int .i64 n) ∧ w'.cell? ⟨w.heap.size, 1, none⟩ = some (.int .i64 d) ∧ w'.cell? ⟨w.heap.size + 1, 2, none⟩ = some (.int .i64 nn) ∧ w'.cell? ⟨w.heap.size + 1, 3, none⟩ = some (.int .i64 m))
          (with_reducible assumption)
          (first
          | (go_at_call 118; refine (HWI1.out _ HBW.out.drew).mono ?_; rintro e u1 ⟨rfl, hw1⟩; subst u1; clear HWI1)
          | (go_at_call 117; refine (HRD1.out _ HBW.out.drew).mono ?_; rintro e u2 ⟨gx, rfl, hgx, hrow, hb2⟩; have HRW := Hid.mk' hrow; have hS1 := ku_below hb2 hS0; have HB2 : Hid (Below wr.heap.size wr u2) := (⟨hb2.os, hb2.tape, hb2.output, hb2.size, hb2.block⟩ : Below wr.heap.size wr u2); clear HRD1 hb2 hrow))
        have hx := HXL.out
        have HCU := Hid.mk' (HCUT.out o xp.2 (by omega))
        have hA2 := HR.out.2.next HB2.out
        have hgx2 : wr.heap.size ≤ gx := hgx
        obtain ⟨g', c', u3, hr, ho, hgr⟩ := app_row 24 29 (.slice none 0 0) 24 Tryz.underlying24 infoInts rfl u2 _ (.slice al i cl) i _ #[.slice (some ⟨gx, 0, none⟩) nn nn] hA2.own (by simp) (by intro u hu; simp at hu; rw [hu]; rfl) (by simp only [maxLen]; simp; omega) (by simp; omega) hA2.size 24
        have HA3 := Hid.mk' (hA2.more HRW.out (by have := HR.out.2.size; omega) (fun k hk e => by
          have h1 := (HR.out.2.rows k hk).lt
          omega) ho hgr)
        have HAP : Hid (_ = _) := hr
        have HSU : Hid (subsAt b BT.length d n m nn (i + 1) = some (upd2 G i xp.1, o + xp.2)) := by
          show _ = _
          unfold subsAt
          rw [HR.out.1, Option.bind_some]
          show Option.map _ (readAt b BT.length o (widN d n m i) nn) = _
          rw [HRS.out]; rfl
        have x0 := hS1.2.1
        have t2 : ((n : Int) == 2) = false := by simp; omega
        clear hA2 hr ho hgr hS1 hS0
        generalize xp.2 = tk at *
        generalize hY : bs (BT.drop (o + tk)) = Y at *
        have HY := Hid.mk' hY
        clear hY
        generalize bs (BT.drop o) = Z at *
        have b1 : (tk : Int) ≤ ((BT.length - o : Nat) : Int) := by omega
        have hcu := HCU.out
        go_wp2_with (at_builtin; refine wpList_append_rn rfl _ _ _ rfl _ _ _ rfl rfl HAP.out ?_; clear HAP)
        go_roundw
        case rel => exact ⟨i + 1, o + tk, _, updN gs i gx, upd2 G i xp.1, by omega, by go_num, rfl, by rw [HY.out], HSU.out, HA3.out⟩
        case measure => simp [intOf]; omega
    · have e : i = n := by omega
      subst e
      have x0 := HR.out.2.cfg.cell 0
      have HFL := Hid.mk' (fun u => isFill_any (BT.drop o) u (by rw [List.length_drop]; omega))
      have hEX : unG i m G = G := by funext k j; unfold unG; rw [if_neg h2]
      obtain ⟨gl, cl', hal⟩ := own_some HR.out.2.own hn1
      injection hal with e1 e2 e3
      subst e1 e3
      by_cases hF : FillP (BT.drop o)
      · have HF := Hid.mk' hF
        have HIN : Hid (InsP BT b d i m nn G) := ⟨G, o, HR.out.1, hF, fun e => absurd e h2, hEX.symm⟩
        clear hF hEX
        go_wp2_with (go_at_call 121; refine (HFL.out _).mono ?_; rintro e u1 ⟨he, hb1⟩; have he := he.true_of HF.out; subst he; have HA := Hid.mk' (HR.out.2.next hb1); clear hb1 HFL)
        rw [Exit.noGoto_ret]
        go_ret2
        exact ⟨.inl ⟨G, gl, _, gs, HIN.out, rfl, owns_mono HA.out.own (Nat.le_add_right _ 2), fun k hk => ⟨HA.out.rows k hk, by have := HA.out.far k hk; omega⟩, HA.out.apart⟩, HA.out.below⟩
      · have HF := Hid.mk' hF
        have HNO : Hid (∀ H, ¬ InsP BT b d i m nn H) := fun H ⟨G', o', h1, h2, _⟩ => by
          rw [HR.out.1] at h1
          injection h1 with h1
          injection h1 with _ h1
          rw [← h1] at h2
          exact hF h2
        clear hF hEX
        go_wp2_with (go_at_call 121; refine (HFL.out _).mono ?_; rintro e u1 ⟨he, hb1⟩; have he := he.false_of HF.out; subst he; have HA := Hid.mk' (HR.out.2.next hb1); clear hb1 HFL)
        rw [Exit.noGoto_ret]
        go_ret2
        exact ⟨.inr ⟨_, HNO.out, rfl⟩, HA.out.below⟩
end Go.Proofs.YtlncjgnomhpjnaaGreatDoor

