import Derived.Test.YtlncjgnomhpjnaaGreatDoorJRefU
import Derived.Test.YtlncjgnomhpjnaaGreatDoorKCrcFast
import Derived.Test.YtlncjgnomhpjnaaGreatDoorJUnR
import Derived.Test.YtlncjgnomhpjnaaGreatDoorJLawFrames
import Derived.Deep.RegionHeld3
import Derived.BigQuiet
import Derived.Deep.QuietTactic
import Derived.Test.YtlncjgnomhpjnaaGreatDoorRows
/-
  A frame read, in the document: reelref.Unframe.
-/
namespace Go.Proofs.YtlncjgnomhpjnaaGreatDoor
open Go.RowKit Go.Deep
set_option linter.unusedVariables false

theorem refUnframe_any (c2 c3 c4 c5 c6 c7 : Int) (n d : Nat) (number : Int) (T : List UInt8) (w : World) (hs2 : T.length ≤ 9000) (hd1 : 4 ≤ d) (hd : d ≤ 12) (hn1 : 1 ≤ n) (hn4 : n ≤ 4) (h2 : c2 ≤ 32) (hT : TabAt w 3) (hT3 : 3 < w.heap.size) :
    Calls Tryz.prog 79 #[.agg #[.int .i64 n, .int .i64 d, .int .i64 c2, .int .i64 c3, .int .i64 c4, .int .i64 c5, .int .i64 c6, .int .i64 c7], .int .i64 number, .string (bs T)] w fun e w' => RefOut e w w' T n d c2 number := by
  by_cases hs : 10 ≤ T.length
  · by_cases hM : valN (pieceT T 0 1) = 165
    · by_cases hN : (hNum T : Int) = number
      · subst hN
        by_cases hE : valN (pieceT T 7 8) = crc 8 263 (T.take 7)
        · exact refUn_rest c2 c3 c4 c5 c6 c7 n d T w hs hs2 hd1 hd hn1 hn4 h2 hT hT3 hM hE
        · exact refUn_eight c2 c3 c4 c5 c6 c7 n d T w hs hs2 hM hE
      · exact refUn_num c2 c3 c4 c5 c6 c7 n d number T w hs hs2 hM hN
    · exact refUn_mark c2 c3 c4 c5 c6 c7 n d number T w hs hs2 hM
  · exact refUn_short c2 c3 c4 c5 c6 c7 n d number T w (by omega)
theorem RefOut.yes {e : Ending} {w w' : World} {T : List UInt8} {n d : Nat} {c2 number : Int} {H : Nat → Nat → Int} (h : RefOut e w w' T n d c2 number) (hI : FrmP T n d c2 number H) :
    ∃ H v, e = .returned (.tuple #[v, .int .i64 (hLen T)]) ∧ FrmP T n d c2 number H ∧ RowsAre w w' v n (hCnt T + 1) H ∧ Below w.heap.size w w' := by
  rcases h with ⟨⟨H', v, h1, h2, h3⟩ | ⟨hno, -⟩, hb⟩
  · exact ⟨H', v, h2, h1, h3, hb⟩
  · exact absurd hI (hno H)
theorem RefOut.nothing {e : Ending} {w w' : World} {T : List UInt8} {n d : Nat} {c2 number : Int} (h : RefOut e w w' T n d c2 number) (hI : ∀ H, ¬ FrmP T n d c2 number H) : e = .returned (.tuple #[.slice none 0 0, .int .i64 0]) ∧ Below w.heap.size w w' := by
  rcases h with ⟨⟨H', v, h1, -⟩ | ⟨-, h2⟩, hb⟩
  · exact absurd h1 (hI H')
  · exact ⟨h2, hb⟩
set_option maxRecDepth 4000 in
set_option maxHeartbeats 2000000 in
theorem refUnframeTop_any (c0 c1 c2 c3 c4 c5 c6 c7 number : Int) (T : List UInt8) (w : World) (hs : T.length ≤ 9223372036854775807) (hT : TabAt w 3) (hT3 : 3 < w.heap.size) :
    Calls Tryz.prog 44 #[.agg #[.int .i64 c0, .int .i64 c1, .int .i64 c2, .int .i64 c3, .int .i64 c4, .int .i64 c5, .int .i64 c6, .int .i64 c7], .int .i64 number, .string (bs T)] w fun e w' => UnAns e w w' c0 c1 c2 c3 c4 c5 c6 c7 number T := by
  have HB0 : Hid (Below w.heap.size w (w.alloc (.cells #[.int .i64 c0, .int .i64 c1, .int .i64 c2, .int .i64 c3, .int .i64 c4, .int .i64 c5, .int .i64 c6, .int .i64 c7] 23))) := (Below.refl _ _).alloc (Nat.le_refl _) _
  have HRT := Hid.mk' (fun u => right_any c0 c1 c2 c3 c4 c5 c6 c7 u)
  have hz : (bs T).size = T.length := bs_size T
  have HC1 : Hid (∀ u, Below (w.alloc (.cells #[.int .i64 c0, .int .i64 c1, .int .i64 c2, .int .i64 c3, .int .i64 c4, .int .i64 c5, .int .i64 c6, .int .i64 c7] 23)).heap.size (w.alloc (.cells #[.int .i64 c0, .int .i64 c1, .int .i64 c2, .int .i64 c3, .int .i64 c4, .int .i64 c5, .int .i64 c6, .int .i64 c7] 23)) u → Bx u w.heap.size 23 #[.int .i64 c0, .int .i64 c1, .int .i64 c2, .int .i64 c3, .int .i64 c4, .int .i64 c5, .int .i64 c6, .int .i64 c7]) := fun u hu => (Bx.new _ _ _).below hu
  have bad : ∀ (E : Int), E = unE c0 c1 c2 c3 c4 c5 c6 c7 number T → (∀ H, ¬ UnOk c0 c1 c2 c3 c4 c5 c6 c7 number T H) → ∀ w', Below w.heap.size w w' → UnAns (.returned (.tuple #[.slice none 0 0, .int .i64 0, .int .i64 E])) w w' c0 c1 c2 c3 c4 c5 c6 c7 number T := fun E hE hno w' hb => ⟨.inr ⟨hno, by rw [hE]⟩, hb⟩
  by_cases hr : rightB c0 c1 c2 c3 c4 c5 c6 c7 = true
  · have HRR := Hid.mk' hr
    by_cases hw : within number 0 65535 = true
    · have hww := hw
      rw [within_iff] at hww
      have a1 : ¬ number < 0 := by omega
      have a2 : ¬ (65535 : Int) < number := by omega
      by_cases hl : T.length ≤ 9000
      · have a3 : ¬ (9000 : Int) < (T.length : Int) := by omega
        obtain ⟨hc0, hc4, hc2, d, rfl, h1, h2⟩ := rightB_d hr
        obtain ⟨n, rfl⟩ : ∃ n : Nat, c0 = (n : Int) := ⟨c0.toNat, by omega⟩
        have HFR := Hid.mk' (fun (u : World) (hu : Below w.heap.size w u) => refUnframe_any c2 c3 c4 c5 c6 c7 n d number T u hl h1 h2 (by omega) (by omega) hc2.2 (tab_belowB hu hT hT3) (Nat.lt_of_lt_of_le hT3 hu.size))
        by_cases hI : ∃ H, FrmP T n d c2 number H
        · obtain ⟨H, hI⟩ := hI
          have HI := Hid.mk' hI
          have hk10 : 10 ≤ hLen T := hI.2.2.1.1.1
          have HRW := Hid.mk' (And.intro hr (And.intro hw hl))
          have tk : ((hLen T : Int) == 0) = false := by simp; omega
          clear hI bad hr hw hT hww
          generalize hSB : bs T = SB at *
          clear hSB
          go_enter Tryz.func44, Tryz.ntmps44
          go_wp2_with (first
            | (go_at_call 69; refine (HRT.out _).mono ?_; rintro e u1 ⟨he, hb⟩; have he := he.true_of HRR.out; subst he; have HB1 := Hid.mk' (HB0.out.trans (hb.mono (by simp))); have hC := HC1.out _ hb; have x0 := hC.cell 0; have x1 := hC.cell 1; have x2 := hC.cell 2; have x3 := hC.cell 3; have x4 := hC.cell 4; have x5 := hC.cell 5; have x6 := hC.cell 6; have x7 := hC.cell 7; clear hb HRT HB0 HC1 hC)
            | (go_at_call 79; refine (HFR.out _ HB1.out).mono ?_; intro e u2 hfo; obtain ⟨H', v, rfl, hI', hro, hb⟩ := hfo.yes HI.out; have HB2 := Hid.mk' (HB1.out.trans (hb.mono HB1.out.size)); have HRO := Hid.mk' (hro.mono HB1.out.size); have HI' := Hid.mk' hI'; obtain ⟨gv, cv, gsv, hv, hv2⟩ := hro; clear hv2; subst hv; clear hb hfo HFR HB1 hI' x0 x1 x2 x3 x4 x5 x6 x7))
          go_ret3
          exact ⟨.inl ⟨H', _, ⟨HRW.out.1, HRW.out.2.1, HRW.out.2.2, HI'.out⟩, rfl, HRO.out⟩, HB2.out⟩
        · have HI : Hid (∀ H, ¬ FrmP T n d c2 number H) := fun H h => hI ⟨H, h⟩
          have HBAD := Hid.mk' (bad 6 (by unfold unE; rw [if_pos hr, if_pos hw, if_pos hl]) (fun H h => HI.out H h.2.2.2))
          clear hI bad hr hw hT hww
          generalize hSB : bs T = SB at *
          clear hSB
          go_enter Tryz.func44, Tryz.ntmps44
          go_wp2_with (first
            | (go_at_call 69; refine (HRT.out _).mono ?_; rintro e u1 ⟨he, hb⟩; have he := he.true_of HRR.out; subst he; have HB1 := Hid.mk' (HB0.out.trans (hb.mono (by simp))); have hC := HC1.out _ hb; have x0 := hC.cell 0; have x1 := hC.cell 1; have x2 := hC.cell 2; have x3 := hC.cell 3; have x4 := hC.cell 4; have x5 := hC.cell 5; have x6 := hC.cell 6; have x7 := hC.cell 7; clear hb HRT HB0 HC1 hC)
            | (go_at_call 79; refine (HFR.out _ HB1.out).mono ?_; intro e u2 hfo; obtain ⟨rfl, hb⟩ := hfo.nothing HI.out; have HB2 := Hid.mk' (HB1.out.trans (hb.mono HB1.out.size)); clear hb hfo HFR HB1 x0 x1 x2 x3 x4 x5 x6 x7))
          go_ret3
          exact HBAD.out _ HB2.out
      · have HBAD := Hid.mk' (bad 4 (by unfold unE; rw [if_pos hr, if_pos hw, if_neg hl]) (fun H h => hl h.2.2.1))
        have hl2 : (9000 : Int) < (T.length : Int) := by omega
        clear bad hr hw hT HC1 hww
        generalize hSB : bs T = SB at *
        clear hSB
        go_enter Tryz.func44, Tryz.ntmps44
        go_wp2_with (go_at_call 69; refine (HRT.out _).mono ?_; rintro e u1 ⟨he, hb⟩; have he := he.true_of HRR.out; subst he; have HB1 := Hid.mk' (HB0.out.trans (hb.mono (by simp))); clear hb HRT HB0)
        go_ret3
        exact HBAD.out _ HB1.out
    · have HBAD := Hid.mk' (bad 3 (by unfold unE; rw [if_pos hr, if_neg hw]) (fun H h => hw h.2.1))
      have hww : number < 0 ∨ 65535 < number := by rw [within_iff] at hw; omega
      clear bad hr hw hT HC1
      generalize bs T = SB at *
      by_cases a1 : number < 0
      · clear hww
        go_enter Tryz.func44, Tryz.ntmps44
        go_wp2_with (go_at_call 69; refine (HRT.out _).mono ?_; rintro e u1 ⟨he, hb⟩; have he := he.true_of HRR.out; subst he; have HB1 := Hid.mk' (HB0.out.trans (hb.mono (by simp))); clear hb HRT HB0)
        go_ret3
        exact HBAD.out _ HB1.out
      · have a2 : (65535 : Int) < number := by omega
        clear hww
        go_enter Tryz.func44, Tryz.ntmps44
        go_wp2_with (go_at_call 69; refine (HRT.out _).mono ?_; rintro e u1 ⟨he, hb⟩; have he := he.true_of HRR.out; subst he; have HB1 := Hid.mk' (HB0.out.trans (hb.mono (by simp))); clear hb HRT HB0)
        go_ret3
        exact HBAD.out _ HB1.out
  · have hr' : rightB c0 c1 c2 c3 c4 c5 c6 c7 = false := by simpa using hr
    have HRR := Hid.mk' hr
    have HBAD := Hid.mk' (bad 1 (by unfold unE; rw [if_neg hr]) (fun H h => hr h.1))
    clear bad hr hr' hT HC1
    generalize bs T = SB at *
    go_enter Tryz.func44, Tryz.ntmps44
    go_wp2_with (go_at_call 69; refine (HRT.out _).mono ?_; rintro e u1 ⟨he, hb⟩; have he := he.false_of HRR.out; subst he; have HB1 := Hid.mk' (HB0.out.trans (hb.mono (by simp))); clear hb HRT HB0)
    go_ret3
    exact HBAD.out _ HB1.out
end Go.Proofs.YtlncjgnomhpjnaaGreatDoor

/-
  The law 'Unframes': two answers held against each other.
-/
namespace Go.Proofs.YtlncjgnomhpjnaaGreatDoor
open Go.RowKit Go.Deep
set_option linter.unusedVariables false

theorem FrmP.uniq {T : List UInt8} {n d : Nat} {c2 number : Int} {H H' : Nat → Nat → Int} (h : FrmP T n d c2 number H) (h' : FrmP T n d c2 number H') : H = H' := by
  obtain ⟨-, -, -, -, G, o, h1, -, -, rfl⟩ := h
  obtain ⟨-, -, -, -, G', o', h2, -, -, rfl⟩ := h'
  rw [h1] at h2
  injection h2 with h2
  injection h2 with h2
  rw [h2]
set_option maxHeartbeats 1000000 in
theorem sameL_any (a a' : Option Addr) (n c c' : Nat) (x : Nat → Int) (w : World) (hn : n ≤ 1000000) (h1 : IntsAt w a n x) (h2 : IntsAt w a' n x) :
    Calls Tryz.prog 80 #[.slice a n c, .slice a' n c'] w fun e w' => e = .returned (.bool true) ∧ ∃ m, w' = w.drewN m := by
  have H1 := Hid.mk' h1
  have H2 := Hid.mk' h2
  clear h1 h2
  go_enter Tryz.func80, Tryz.ntmps80
  go_wp2
  go_loopw [5] (fun i wr => ∃ k : Nat, k ≤ n ∧ i = .int .i64 k ∧ ∃ m, wr = w.drewN m) (fun i _ => n - (intOf i).toNat)
  case atStart => exact ⟨0, Nat.zero_le _, rfl, 0, rfl⟩
  case round =>
    obtain ⟨k, hk, rfl, m, rfl⟩ := hrel
    by_cases hkn : k < n
    · obtain ⟨b1, o1, hx1, hc1⟩ := H1.out.open (by omega)
      obtain ⟨b2, o2, hx2, hc2⟩ := H2.out.open (by omega)
      cases hx1
      cases hx2
      have hd1 := hc1 k hkn
      have hd2 := hc2 k hkn
      clear hc1 hc2
      go_wp2
      go_region
      all_goals go_wp2
      go_roundw
      case rel => exact ⟨k + 1, by omega, by go_num, _, rfl⟩
      case measure => simp [intOf]; omega
    · have e : k = n := by omega
      subst e
      go_wp2
      go_ret
      exact ⟨rfl, _, rfl⟩
/-- lists in a world -/
def RowsC (u : World) (v : Value) (n nn : Nat) (H : Nat → Nat → Int) : Prop :=
  ∃ (g c : Nat) (gs : Nat → Nat), v = .slice (some ⟨g, 0, none⟩) n c ∧ g < u.heap.size ∧ (∀ i, i < n → u.cell? ⟨g, i, none⟩ = some (.slice (some ⟨gs i, 0, none⟩) nn nn)) ∧ ∀ i, i < n → u.rowIs (gs i) 3 nn (cutV nn (H i))
theorem RowsAre.c {w u : World} {v : Value} {n nn : Nat} {H : Nat → Nat → Int} (h : RowsAre w u v n nn H) : RowsC u v n nn H := by
  obtain ⟨g, c, gs, rfl, ho, hr, -⟩ := h
  refine ⟨g, c, gs, rfl, (ho.lt g rfl).2, fun i hi => ?_, fun i hi => (hr i hi).1⟩
  have h1 : (rowL nn gs n)[i]? = some (.slice (some ⟨gs i, 0, none⟩) nn nn) := by unfold rowL; rw [List.getElem?_map, List.getElem?_range hi]; rfl
  have := ho.cells (g := g) rfl i _ h1
  rw [Addr.add_lit, Nat.zero_add] at this
  exact this
theorem RowsC.below {w u : World} {v : Value} {n nn : Nat} {H : Nat → Nat → Int} (h : RowsC w v n nn H) (hb : Below w.heap.size w u) : RowsC u v n nn H := by
  obtain ⟨g, c, gs, e, hl, hc, hr⟩ := h
  exact ⟨g, c, gs, e, Nat.lt_of_lt_of_le hl hb.size, fun i hi => (hb.cell (p := ⟨g, i, none⟩) hl).trans (hc i hi), fun i hi => row_below (hr i hi) hb⟩
theorem RowsAre.below2 {w u u' : World} {v : Value} {n nn : Nat} {H : Nat → Nat → Int} (h : RowsAre w u v n nn H) (hb : Below u.heap.size u u') : RowsAre w u' v n nn H := by
  obtain ⟨g, c, gs, e, ho, hr, ha⟩ := h
  exact ⟨g, c, gs, e, ho.kept ⟨hb.os, hb.tape, hb.output, hb.size, fun j hj _ => hb.block j hj⟩ (Classical.em _), fun k hk => ⟨row_below (hr k hk).1 hb, (hr k hk).2⟩, ha⟩
theorem row_ints {w : World} {g n : Nat} {x : Nat → Int} (h : w.rowIs g 3 n (cutV n x)) : IntsAt w (some ⟨g, 0, none⟩) n x := fun i hi => ⟨_, rfl, by
  have := h.cell hi
  rw [Addr.add_lit, Nat.zero_add]
  simpa [cutV, cutI, hi] using this⟩
set_option maxHeartbeats 1000000 in
theorem sameAll_rows (v v' : Value) (n nn : Nat) (H : Nat → Nat → Int) (w : World) (hn : n ≤ 1000000) (hnn : nn ≤ 1000000) (h : RowsC w v n nn H) (h' : RowsC w v' n nn H) :
    Calls Tryz.prog 45 #[v, v'] w fun e w' => e = .returned (.bool true) ∧ Below w.heap.size w w' := by
  obtain ⟨g, c, gs, rfl, hl, hc, hr⟩ := h
  obtain ⟨g', c', gs', rfl, hl', hc', hr'⟩ := h'
  have HC := Hid.mk' hc
  have HC' := Hid.mk' hc'
  have HR := Hid.mk' hr
  have HR' := Hid.mk' hr'
  clear hc hc' hr hr'
  go_enter Tryz.func45, Tryz.ntmps45
  go_wp2
  go_loopw [4, 5, 6] (fun _ iv _ wr => ∃ i : Nat, i ≤ n ∧ iv = .int .i64 i ∧ Hid (Below w.heap.size w wr)) (fun _ iv _ _ => n - (intOf iv).toNat)
  case atStart => exact ⟨0, Nat.zero_le _, rfl, Below.refl _ _⟩
  case round =>
    obtain ⟨i, hi, rfl, HB⟩ := hrel
    by_cases hlt : i < n
    · have k0 : wr.cell? ⟨g, i, none⟩ = some (.slice (some ⟨gs i, 0, none⟩) nn nn) := (HB.out.cell (p := ⟨g, i, none⟩) hl).trans (HC.out i hlt)
      have k1 : wr.cell? ⟨g', i, none⟩ = some (.slice (some ⟨gs' i, 0, none⟩) nn nn) := (HB.out.cell (p := ⟨g', i, none⟩) hl').trans (HC'.out i hlt)
      have hS0 : wr.drew.cell? ⟨g, i, none⟩ = some (.slice (some ⟨gs i, 0, none⟩) nn nn) ∧ wr.drew.cell? ⟨g', i, none⟩ = some (.slice (some ⟨gs' i, 0, none⟩) nn nn) := ⟨k0, k1⟩
      have HSM := Hid.mk' (sameL_any (some ⟨gs i, 0, none⟩) (some ⟨gs' i, 0, none⟩) nn nn nn (H i) wr.drew hnn (row_ints (row_below (HR.out i hlt) HB.out.drew)) (row_ints (row_below (HR'.out i hlt) HB.out.drew)))
      go_wp2_with fail
      go_region_held3 (fun w' => w'.cell? ⟨g, i, none⟩ = some (.slice (some ⟨gs i, 0, none⟩) nn nn) ∧ w'.cell? ⟨g', i, none⟩ = some (.slice (some ⟨gs' i, 0, none⟩) nn nn))
        (with_reducible assumption)
        (first
        | (go_at_call 80; refine HSM.out.mono ?_; rintro e u1 ⟨rfl, m, hu⟩; have hS1 : u1.cell? ⟨g, i, none⟩ = some (.slice (some ⟨gs i, 0, none⟩) nn nn) ∧ u1.cell? ⟨g', i, none⟩ = some (.slice (some ⟨gs' i, 0, none⟩) nn nn) := (by rw [hu]; exact ⟨k0, k1⟩); have HB1 : Hid (Below w.heap.size w u1) := (by rw [hu]; exact bl_drewN HB.out.drew m); clear HSM hu hS0))
      clear hS1
      go_wp2
      go_roundw
      case rel => exact ⟨i + 1, by omega, by go_num, HB1.out⟩
      case measure => simp [intOf]; omega
    · have e : i = n := by omega
      subst e
      go_wp2
      go_ret
      exact ⟨rfl, HB.out⟩
theorem sameAll_nil (w : World) : Calls Tryz.prog 45 #[.slice none 0 0, .slice none 0 0] w fun e w' => e = .returned (.bool true) ∧ Below w.heap.size w w' := by
  go_enter Tryz.func45, Tryz.ntmps45
  go_wp2
  go_loopw [4, 5, 6] (fun _ iv _ wr => iv = .int .i64 0 ∧ wr = w) (fun _ _ _ _ => 0)
  case atStart => exact ⟨rfl, rfl⟩
  case round =>
    obtain ⟨rfl, hwr⟩ := hrel
    subst hwr
    go_wp2
    go_ret
    exact ⟨rfl, Below.refl _ _⟩
end Go.Proofs.YtlncjgnomhpjnaaGreatDoor

/-
  The law 'Unframes': the document's example, and one Unframe.
-/
namespace Go.Proofs.YtlncjgnomhpjnaaGreatDoor
open Go.RowKit Go.Deep
set_option linter.unusedVariables false

/-- the example's frame, and a byte behind it -/
def exT : List UInt8 := [165, 0, 1, 0, 12, 0, 0, 25, 0, 16, 217, 212, 82]
theorem exT_bs : bs exT = exFr ++ ⟨#[82]⟩ := by kernel_rfl
theorem exT_len : exT.length = 13 := rfl
theorem exT_h : hNum exT = 1 ∧ hLen exT = 12 ∧ hCnt exT = 0 ∧ hMode exT = 0 := by decide
theorem exT_8 : seal8 (exT.take 7) = exT.take 8 := by
  unfold seal8
  rw [crc8_fast]
  decide +kernel
theorem exT_16 : seal16 (exT.take 10) = exT.take 12 := by
  unfold seal16
  rw [crc16_fast]
  decide +kernel
theorem exT_ins : insT exT = [0, 16] := by decide
theorem exT_sub : (subsAt (msgBit [0, 16]) 16 4 1 0 1 1).map (fun r => (r.1 0 0, r.2)) = some (1, 12) := by kernel_rfl
theorem exT_frm : ∃ H, FrmP exT 1 4 2 1 H ∧ H 0 0 = 1 := by
  have hm := exT_sub
  cases hs : subsAt (msgBit [0, 16]) 16 4 1 0 1 1 with
  | none => rw [hs] at hm; cases hm
  | some r =>
    rw [hs] at hm
    simp only [Option.map_some, Option.some.injEq, Prod.mk.injEq] at hm
    obtain ⟨h1, h2, h3, h4⟩ := exT_h
    refine ⟨unG 1 0 r.1, ⟨⟨by decide, by decide, exT_8⟩, by rw [h1]; rfl, ?_, ?_, ?_⟩, ?_⟩
    · rw [h2, h3, h4]; exact ⟨⟨by decide, by decide⟩, by decide, by decide⟩
    · rw [h2]; exact exT_16
    · rw [h3, h4, exT_ins]
      refine ⟨r.1, r.2, hs, ?_, fun h => absurd h (by decide), rfl⟩
      rw [hm.2]
      exact ⟨by decide, by decide⟩
    · unfold unG
      rw [if_neg (by decide)]
      exact hm.1
theorem exT_ok : ∃ H, UnOk 1 4 2 8 1 2 2 1 1 exT H ∧ H 0 0 = 1 := by
  obtain ⟨H, h, h0⟩ := exT_frm
  exact ⟨H, ⟨by decide, by decide, by decide, h⟩, h0⟩
theorem UnAns.yes {e : Ending} {w w' : World} {c0 c1 c2 c3 c4 c5 c6 c7 number : Int} {T : List UInt8} {H : Nat → Nat → Int} (h : UnAns e w w' c0 c1 c2 c3 c4 c5 c6 c7 number T) (hI : UnOk c0 c1 c2 c3 c4 c5 c6 c7 number T H) :
    ∃ v, e = .returned (.tuple #[v, .int .i64 (hLen T), .int .i64 0]) ∧ RowsAre w w' v c0.toNat (hCnt T + 1) H ∧ Below w.heap.size w w' := by
  rcases h with ⟨⟨H', v, h1, h2, h3⟩ | ⟨hno, -⟩, hb⟩
  · rw [FrmP.uniq hI.2.2.2 h1.2.2.2]
    exact ⟨v, h2, h3, hb⟩
  · exact absurd hI (hno H)
theorem UnAns.none {e : Ending} {w w' : World} {c0 c1 c2 c3 c4 c5 c6 c7 number : Int} {T : List UInt8} (h : UnAns e w w' c0 c1 c2 c3 c4 c5 c6 c7 number T) (hI : ∀ H, ¬ UnOk c0 c1 c2 c3 c4 c5 c6 c7 number T H) :
    e = .returned (.tuple #[.slice none 0 0, .int .i64 0, .int .i64 (unE c0 c1 c2 c3 c4 c5 c6 c7 number T)]) ∧ Below w.heap.size w w' := by
  rcases h with ⟨⟨H', v, h1, -⟩ | ⟨-, h2⟩, hb⟩
  · exact absurd h1 (hI H')
  · exact ⟨h2, hb⟩
/-- the tables that the law wants -/
structure TabsL (w : World) : Prop where
  prog : TabsU w
  tak : TabAt w 3
  takLt : 3 < w.heap.size
  one : ∀ i, i < 12 → w.cell? ⟨0, i, none⟩ = some (.int .u8 (one12.getD i 0))
  oneLt : 0 < w.heap.size
theorem TabsL.below {w u : World} (h : TabsL w) (hb : Below w.heap.size w u) : TabsL u :=
  ⟨h.prog.below hb, tab_belowB hb h.tak h.takLt, Nat.lt_of_lt_of_le h.takLt hb.size, fun i hi => (hb.cell (p := ⟨0, i, none⟩) h.oneLt).trans (h.one i hi), Nat.lt_of_lt_of_le h.oneLt hb.size⟩
theorem TabsL.belowL {w u : World} {L : Nat} (h : TabsL w) (h1 : 3 < L) (h2 : 0 < L) (h3 : 7 < L) (h4 : 2 < L) (hb : Below L w u) : TabsL u :=
  ⟨⟨fun r c hr hc => (hb.cell (p := ⟨7, 4 * r + c, none⟩) h3).trans (h.prog.fix r c hr hc), Nat.lt_of_lt_of_le h.prog.fixLt hb.size,
     fun r c hr hc => (hb.cell (p := ⟨2, 2 * r + c, none⟩) h4).trans (h.prog.pairs r c hr hc), Nat.lt_of_lt_of_le h.prog.pairsLt hb.size⟩,
   fun r c hr hc => (hb.cell (p := ⟨3, 4 * r + c, none⟩) h1).trans (h.tak r c hr hc), Nat.lt_of_lt_of_le h.takLt hb.size, fun i hi => (hb.cell (p := ⟨0, i, none⟩) h2).trans (h.one i hi), Nat.lt_of_lt_of_le h.oneLt hb.size⟩
theorem unE_bd (c0 c1 c2 c3 c4 c5 c6 c7 number : Int) (T : List UInt8) : 0 ≤ unE c0 c1 c2 c3 c4 c5 c6 c7 number T ∧ unE c0 c1 c2 c3 c4 c5 c6 c7 number T ≤ 100 := by
  unfold unE
  split
  · split
    · split <;> omega
    · omega
  · omega
set_option maxRecDepth 4000 in
set_option maxHeartbeats 2000000 in
theorem unframes_any (L B K : Nat) (c0 c1 c2 c3 c4 c5 c6 c7 number : Int) (T : List UInt8) (w : World) (hs : T.length ≤ 9223372036854775807) (hL : L ≤ w.heap.size) (hK : K ≤ 1000) (hB : BookL L w B K) (hT : TabsL w) :
    Calls Tryz.prog 17 #[.pointer (some ⟨B, 0, none⟩), .agg #[.int .i64 c0, .int .i64 c1, .int .i64 c2, .int .i64 c3, .int .i64 c4, .int .i64 c5, .int .i64 c6, .int .i64 c7], .int .i64 number, .string (bs T)] w fun e w' => e = .returned (.bool true) ∧ (∃ K', K' ≤ K + 100 ∧ BookL L w' B K') ∧ Below L w w' := by
  have HB0 : Hid (Below w.heap.size w (w.alloc (.cells #[.int .i64 c0, .int .i64 c1, .int .i64 c2, .int .i64 c3, .int .i64 c4, .int .i64 c5, .int .i64 c6, .int .i64 c7] 23))) := (Below.refl _ _).alloc (Nat.le_refl _) _
  have HBK := Hid.mk' hB
  have HP := Hid.mk' (fun (u : World) (hu : Below w.heap.size w u) => reelUnframe_any c0 c1 c2 c3 c4 c5 c6 c7 number T u hs (hT.below hu).prog)
  have HD := Hid.mk' (fun (u : World) (hu : Below w.heap.size w u) => refUnframeTop_any c0 c1 c2 c3 c4 c5 c6 c7 number T u hs (hT.below hu).tak (hT.below hu).takLt)
  have HC1 : Hid (∀ u, Below (w.alloc (.cells #[.int .i64 c0, .int .i64 c1, .int .i64 c2, .int .i64 c3, .int .i64 c4, .int .i64 c5, .int .i64 c6, .int .i64 c7] 23)).heap.size (w.alloc (.cells #[.int .i64 c0, .int .i64 c1, .int .i64 c2, .int .i64 c3, .int .i64 c4, .int .i64 c5, .int .i64 c6, .int .i64 c7] 23)) u → Bx u w.heap.size 23 #[.int .i64 c0, .int .i64 c1, .int .i64 c2, .int .i64 c3, .int .i64 c4, .int .i64 c5, .int .i64 c6, .int .i64 c7]) := fun u hu => (Bx.new _ _ _).below hu
  clear hT hB
  by_cases hI : ∃ H, UnOk c0 c1 c2 c3 c4 c5 c6 c7 number T H
  · obtain ⟨H, hI⟩ := hI
    have HI := Hid.mk' hI
    obtain ⟨hc0, hc4, -⟩ := rightB_d hI.1
    have hn4 : c0.toNat ≤ 4 := by omega
    have hcn : hCnt T + 1 ≤ 1000000 := by
      have h1 := hI.2.2.2.2.2.1.2.1
      have h2 := (rightB_d hI.1).2.2.1.2
      omega
    have HNM := Hid.mk' (fun u => lnum_any 0 u)
    clear hI
    generalize hSB : bs T = SB at *
    clear hSB
    go_enter Tryz.func17, Tryz.ntmps17
    go_wp2_with (first
      | (go_at_call 15; refine (HP.out _ HB0.out).mono ?_; intro e u1 ha; obtain ⟨v, rfl, hro, hb⟩ := ha.yes HI.out; have HB1 := Hid.mk' (HB0.out.trans (hb.mono (by simp))); have hC := HC1.out _ hb; have x0 := hC.cell 0; have x1 := hC.cell 1; have x2 := hC.cell 2; have x3 := hC.cell 3; have x4 := hC.cell 4; have x5 := hC.cell 5; have x6 := hC.cell 6; have x7 := hC.cell 7; have HRO := Hid.mk' (hro.mono (w := w) (by simp)); obtain ⟨gv, cv, gsv, hv, hv2⟩ := hro; clear hv2; subst hv; clear ha hb HP HB0 HC1 hC)
      | (go_at_call 44; refine (HD.out _ HB1.out).mono ?_; intro e u2 ha; obtain ⟨v2, rfl, hro, hb⟩ := ha.yes HI.out; have HB2 := Hid.mk' (HB1.out.trans (hb.mono HB1.out.size)); have HB12 := Hid.mk' hb; have HSA := Hid.mk' (sameAll_rows _ v2 c0.toNat (hCnt T + 1) H u2 (by omega) hcn (HRO.out.c.below hb) hro.c); obtain ⟨gv2, cv2, gsv2, hv, hv2⟩ := hro; clear hv2; subst hv; clear ha hb HD HB1 x0 x1 x2 x3 x4 x5 x6 x7)
      | (go_at_call 45; refine HSA.out.mono ?_; rintro e u3 ⟨rfl, hb⟩; have HB3 := Hid.mk' (HB2.out.trans (hb.mono HB2.out.size)); have HR3 := Hid.mk' (HRO.out.below2 (HB12.out.trans (hb.mono HB12.out.size))); clear hb HSA HB2)
      | (go_at_call 13; refine (HNM.out _).mono ?_; rintro e w6 ⟨rfl, hw⟩; subst w6; clear HNM)
      | (go_at_call 16; refine (bookL_rows L B K c0.toNat (hCnt T + 1) _ H w u3 hL (by omega) hcn (by omega) HBK.out HB3.out HR3.out).mono ?_; rintro e u4 ⟨rfl, hbk, hb⟩; have HE : Hid ((∃ K', K' ≤ K + 100 ∧ BookL L u4 B K') ∧ Below L w u4) := ⟨⟨_, by omega, hbk⟩, (HB3.out.mono hL).trans hb⟩; clear hbk hb))
    go_ret
    exact ⟨rfl, HE.out⟩
  · have HI : Hid (∀ H, ¬ UnOk c0 c1 c2 c3 c4 c5 c6 c7 number T H) := fun H h => hI ⟨H, h⟩
    have hEb := unE_bd c0 c1 c2 c3 c4 c5 c6 c7 number T
    have HNM := Hid.mk' (fun u => lnum_any (unE c0 c1 c2 c3 c4 c5 c6 c7 number T) u)
    have HAN := Hid.mk' (fun (e : Ending) (w w' : World) (h : UnAns e w w' c0 c1 c2 c3 c4 c5 c6 c7 number T) => h.none HI.out)
    clear hI
    generalize hSB : bs T = SB at *
    clear hSB
    generalize unE c0 c1 c2 c3 c4 c5 c6 c7 number T = E at *
    go_enter Tryz.func17, Tryz.ntmps17
    go_wp2_with (first
      | (go_at_call 15; refine (HP.out _ HB0.out).mono ?_; intro e u1 ha; obtain ⟨rfl, hb⟩ := HAN.out _ _ _ ha; have HB1 := Hid.mk' (HB0.out.trans (hb.mono (by simp))); have hC := HC1.out _ hb; have x0 := hC.cell 0; have x1 := hC.cell 1; have x2 := hC.cell 2; have x3 := hC.cell 3; have x4 := hC.cell 4; have x5 := hC.cell 5; have x6 := hC.cell 6; have x7 := hC.cell 7; clear ha hb HP HB0 HC1 hC)
      | (go_at_call 44; refine (HD.out _ HB1.out).mono ?_; intro e u2 ha; obtain ⟨rfl, hb⟩ := HAN.out _ _ _ ha; have HB2 := Hid.mk' (HB1.out.trans (hb.mono HB1.out.size)); clear ha hb HD HB1 x0 x1 x2 x3 x4 x5 x6 x7)
      | (go_at_call 45; refine (sameAll_nil _).mono ?_; rintro e u3 ⟨rfl, hb⟩; have HB3 := Hid.mk' (HB2.out.trans (hb.mono HB2.out.size)); clear hb HB2)
      | (go_at_call 13; refine (HNM.out _).mono ?_; rintro e w6 ⟨rfl, hw⟩; subst w6; clear HNM)
      | (go_at_call 16; refine (bookL_nil L B K w u3 hL (by omega) HBK.out HB3.out).mono ?_; rintro e u4 ⟨rfl, hbk, hb⟩; have HE : Hid ((∃ K', K' ≤ K + 100 ∧ BookL L u4 B K') ∧ Below L w u4) := ⟨⟨_, by omega, hbk⟩, (HB3.out.mono hL).trans hb⟩; clear hbk hb))
    go_ret
    exact ⟨rfl, HE.out⟩
end Go.Proofs.YtlncjgnomhpjnaaGreatDoor

/-
  The law 'Unframes'.
-/
namespace Go.Proofs.YtlncjgnomhpjnaaGreatDoor
open Go.RowKit Go.Deep
set_option linter.unusedVariables false

theorem exUn_any (w : World) (hT : TabsL w) :
    Calls Tryz.prog 15 #[.agg #[.int .i64 1, .int .i64 4, .int .i64 2, .int .i64 8, .int .i64 1, .int .i64 2, .int .i64 2, .int .i64 1], .int .i64 1, .string (exFr ++ ⟨#[82]⟩)] w fun e w' =>
      ∃ g c q H, e = .returned (.tuple #[.slice (some ⟨g, 0, none⟩) 1 c, .int .i64 12, .int .i64 0]) ∧ w'.cell? ⟨g, 0, none⟩ = some (.slice (some ⟨q, 0, none⟩) 1 1) ∧ w'.cell? ⟨q, 0, none⟩ = some (.int .i64 1) ∧ RowsAre w w' (.slice (some ⟨g, 0, none⟩) 1 c) 1 1 H ∧ Below w.heap.size w w' := by
  rw [← exT_bs]
  refine (reelUnframe_any 1 4 2 8 1 2 2 1 1 exT w (by decide) hT.prog).mono ?_
  intro e w' ha
  obtain ⟨H, hok, h0⟩ := exT_ok
  obtain ⟨v, rfl, hro, hb⟩ := ha.yes hok
  obtain ⟨-, h2, h3, -⟩ := exT_h
  rw [h2]
  rw [h3] at hro
  have hro' : RowsAre w w' v 1 1 H := hro
  obtain ⟨g, c, gs, rfl, hl, hc, hr⟩ := hro'.c
  refine ⟨g, c, gs 0, H, rfl, hc 0 (by omega), ?_, hro', hb⟩
  have := (hr 0 (by omega)).cell (i := 0) (by omega)
  simpa [cutV, cutI, h0] using this
theorem bookL_first (L : Nat) (w u : World) (v : Value) (n nn : Nat) (H : Nat → Nat → Int) (hL : L ≤ w.heap.size) (hwu : w.heap.size ≤ u.heap.size) (hn : n ≤ 1000000) (hnn : nn ≤ 1000000) (h : RowsAre w u v n nn H) :
    Calls Tryz.prog 16 #[.pointer (some ⟨u.heap.size, 0, none⟩), v] (u.alloc (.cells #[.slice none 0 0, .slice none 0 0, .int .i64 0] 39)) fun e w' => e = .returned (.tuple #[]) ∧ BookL L w' u.heap.size (0 + n + 1) ∧ Below L u w' := by
  have hb : Below u.heap.size u (u.alloc (.cells #[.slice none 0 0, .slice none 0 0, .int .i64 0] 39)) := (Below.refl _ _).alloc (Nat.le_refl _) _
  have hB : BookP (fun k => k = u.heap.size) (u.alloc (.cells #[.slice none 0 0, .slice none 0 0, .int .i64 0] 39)) u.heap.size 0 := by
    refine ⟨.slice none 0 0, .slice none 0 0, 0, 0, [], [], blk_alloc_new _ _, rfl, World.ownsRow_nil _ _ _ _, World.ownsRow_nil _ _ _ _, fun g hg => ?_, fun g hg => ?_, fun i hi => absurd hi (Nat.not_lt_zero i), fun i hi => absurd hi (Nat.not_lt_zero i), Nat.le_refl _, fun k hk => by rw [hk]; simp⟩
    · simp [Value.ownBlock] at hg
    · simp [Value.ownBlock] at hg
  obtain ⟨g, X, gs, h1, h2, h3, h4, h5⟩ := RowsAre.take (h.below2 hb)
  obtain ⟨-, -, -, h1', h2', h3', h4', h5'⟩ := RowsAre.take h
  have hgl : g < u.heap.size := by
    obtain ⟨g', c', gs', e, hl, -⟩ := h.c
    rcases h1 with ⟨h0, -⟩ | ⟨g2, o, c, N, f, e1, e2, -⟩
    · rw [e] at h0; cases h0
    · rw [e] at e2
      injection e2 with e2
      injection e2 with e2
      injection e2 with e2
      injection e1 with e1
      omega
  have hql : ∀ i, i < n → gs i < u.heap.size := fun i hi => by
    have hlt := (h3 i hi).lt rfl
    have hne : gs i ≠ u.heap.size := fun e => by
      obtain ⟨N, f, hr⟩ := (h3 i hi).row rfl
      rw [e] at hr
      obtain ⟨c, hb', -⟩ := hr
      rw [blk_alloc_new] at hb'
      injection hb' with hb'
      injection hb' with q1 q2
      exact absurd q2 (by decide)
    simp at hlt
    omega
  refine (bookTakeAll_any (fun k => k = u.heap.size) u.heap.size 0 n (some g) X v (fun i => some (gs i)) _ hn (by omega) hB h1 (fun q hq hh => by injection hq with hq; omega) (fun i hi => ⟨nn, _, hnn, h3 i hi⟩) (fun i hi q hq hh => by injection hq with hq; have := hql i hi; omega) (fun i k hi hk hik q h6 h7 => by injection h6 with h6; injection h7 with h7; exact h5 i k hi hk hik (by omega))).mono ?_
  rintro e w' ⟨he, ht⟩
  have hsz : (u.alloc (.cells #[.slice none 0 0, .slice none 0 0, .int .i64 0] 39)).heap.size = u.heap.size + 1 := by simp
  refine ⟨he, BookP.mono ht.book (fun k hk => ⟨?_, hk.2⟩) (fun k hk => hk.2), ht.os.trans hb.os, ht.tape.trans hb.tape, ht.output.trans hb.output, Nat.le_trans hb.size ht.size, fun k hk => (ht.block k (by omega) (by omega) (fun e => by injection e with e; omega) (fun i hi e => by injection e with e; have := h4 i hi; omega)).trans (hb.block k (by omega))⟩
  rcases hk.1 with h6 | h6 | ⟨i, hi, h6⟩ | h6
  · omega
  · injection h6 with h6; omega
  · injection h6 with h6; have := h4 i hi; omega
  · rw [hsz] at h6; omega
set_option maxRecDepth 4000 in
set_option maxHeartbeats 2000000 in
theorem unframesLaw (c0 c1 c2 c3 c4 c5 c6 c7 number : Int) (T : List UInt8) (w : World) (hs : T.length ≤ 9223372036854775807) (hT : TabsL w) :
    Calls Tryz.prog 4 #[.agg #[.int .i64 c0, .int .i64 c1, .int .i64 c2, .int .i64 c3, .int .i64 c4, .int .i64 c5, .int .i64 c6, .int .i64 c7], .int .i64 number, .string (bs T)] w fun e w' => e = .returned (.bool true) ∧ Below w.heap.size w w' := by
  obtain ⟨W, hW⟩ : ∃ W, W = w.alloc (.cells #[.int .i64 c0, .int .i64 c1, .int .i64 c2, .int .i64 c3, .int .i64 c4, .int .i64 c5, .int .i64 c6, .int .i64 c7] 23) := ⟨_, rfl⟩
  have hWs : W.heap.size = w.heap.size + 1 := by rw [hW]; simp
  have HBW : Hid (Below w.heap.size w W) := by rw [hW]; exact (Below.refl _ _).alloc (Nat.le_refl _) _
  have HXW : Hid (Bx W w.heap.size 23 #[.int .i64 c0, .int .i64 c1, .int .i64 c2, .int .i64 c3, .int .i64 c4, .int .i64 c5, .int .i64 c6, .int .i64 c7]) := by rw [hW]; exact Bx.new _ _ _
  have hTW : TabsL W := hT.below HBW.out
  have HEX := Hid.mk' (fun (u : World) (hu : Below W.heap.size W u) => exUn_any u (hTW.below hu))
  have HTW := Hid.mk' (fun (u : World) (hu : Below W.heap.size W u) => twelve_any u (hTW.below hu).one (hTW.below hu).oneLt)
  have HUN := Hid.mk' (fun (u : World) (B K : Nat) (hu : Below W.heap.size W u) (hK : K ≤ 1000) (hB : BookL W.heap.size u B K) => unframes_any W.heap.size B K c0 c1 c2 c3 c4 c5 c6 c7 number T u hs hu.size hK hB (hTW.below hu))
  have HNM := Hid.mk' (fun u => lnum_any 0 u)
  clear hT hTW
  have HWE := Hid.mk' hW
  clear hW
  generalize hES : exFr = ES at *
  generalize bs T = SB at *
  have hz1 : ES.size = 12 := by rw [← hES]; rfl
  clear hES
  have q8 : ¬ 9223372036854775807 < ES.size + (⟨#[82]⟩ : ByteArray).size := by rw [hz1]; decide
  go_enter Tryz.func4, Tryz.ntmps4
  go_wp2_with (first
    | (go_at_call 11; refine (example_any _).mono ?_; rintro e w1 ⟨rfl, hb⟩; have HB1 : Hid (Below W.heap.size W w1) := (by rw [HWE.out]; exact hb); clear hb)
    | (go_at_call 12; refine (HTW.out _ HB1.out).mono ?_; rintro e w2 ⟨rfl, hb⟩; have HB2 := Hid.mk' (HB1.out.trans (hb.mono HB1.out.size)); clear hb HTW HB1)
    | (go_at_call 15; refine (HEX.out _ HB2.out).mono ?_; rintro e u1 ⟨g, c, q, H, rfl, k0, k1, hro, hb⟩; have HB3 := Hid.mk' (HB2.out.trans (hb.mono HB2.out.size)); have HRO := Hid.mk' (hro.mono HB2.out.size); clear hb hro HEX HB2)
    | (go_at_call 13; refine (HNM.out _).mono ?_; rintro e w6 ⟨rfl, hw⟩; subst w6; clear HNM)
    | (go_at_call 16; refine (bookL_first W.heap.size W u1 _ 1 1 H (Nat.le_refl _) HB3.out.size (by omega) (by omega) HRO.out).mono ?_; rintro e u2 ⟨rfl, hbk, hb⟩; have HB4 := Hid.mk' (HB3.out.trans hb); have hC := HXW.out.below HB4.out; have x0 := hC.cell 0; have x1 := hC.cell 1; have x2 := hC.cell 2; have x3 := hC.cell 3; have x4 := hC.cell 4; have x5 := hC.cell 5; have x6 := hC.cell 6; have x7 := hC.cell 7; have HBK := Hid.mk' hbk; clear hbk hb hC k0 k1 HRO HB3)
    | (go_at_call 17; refine (HUN.out u2 u1.heap.size (0 + 1 + 1) HB4.out (by omega) HBK.out).mono ?_; rintro e u3 ⟨rfl, ⟨K', hK', hbk⟩, hb⟩; have HB5 := Hid.mk' (HB4.out.trans hb); have HBK2 := Hid.mk' hbk; clear hbk hb HUN HB4 HBK x0 x1 x2 x3 x4 x5 x6 x7)
    | (go_at_call 18; refine (bookLooks_any _ u1.heap.size K' u3 (by omega) HBK2.out).mono ?_; rintro e u4 ⟨rfl, hb⟩; have HB6 := Hid.mk' (HB5.out.trans (hb.mono HB5.out.size)); clear hb))
  go_ret
  exact ⟨rfl, HBW.out.trans (HB6.out.mono HBW.out.size)⟩
end Go.Proofs.YtlncjgnomhpjnaaGreatDoor

/-
  The tables among the laid variables of 'Unframes'.
-/
namespace Go.Proofs.YtlncjgnomhpjnaaGreatDoor
open Go Go.Lib
set_option linter.unusedVariables false

/-- what the row's list gives -/
theorem tablesL {W : World} (h : laidMetH Tryz.prog Rows.unframesRow.laid W) : TabsL W := by
  have h' : laidMet Tryz.prog [("reel/reelref.taken", .agg (tabRows.map (tabData .i64))), ("unicode/utf8.acceptRanges", Rows.laid_unicode_utf8_acceptRanges), ("reel/subframe.fixedWeights", .agg (tabRows.map (tabData .i64))), ("reel/frame.pairs", .agg (pairRows.map (tabData .i64))), ("reel/reellaw.one12", tabData .u8 one12), ("unicode/utf8.first", Rows.laid_unicode_utf8_first)] W := h
  obtain ⟨ps, ⟨g1, t1, cs1, fuel1, p1, q1, hg1, ht1, hvar1, hd1, ⟨g0, t0, cs0, fuel0, p0, q0, hg0, ht0, hvar0, hd0, ⟨g2, t2, cs2, fuel2, p2, q2, hg2, ht2, hvar2, hd2, ⟨g3, t3, cs3, fuel3, p3, q3, hg3, ht3, hvar3, hd3, ⟨g4, t4, cs4, fuel4, p4, q4, hg4, ht4, hvar4, hd4, _, _⟩, _⟩, _⟩, _⟩, _⟩, _⟩ := h'
  obtain rfl := Option.some.inj (gPairs.symm.trans hg3)
  obtain rfl := Option.some.inj (gPairsType.symm.trans ht3)
  obtain rfl := Option.some.inj (gOne.symm.trans hg4)
  obtain rfl := Option.some.inj (gOneType.symm.trans ht4)
  obtain rfl := Option.some.inj (gTaken.symm.trans hg1)
  obtain rfl := Option.some.inj (gTakenType.symm.trans ht1)
  obtain rfl := Option.some.inj (gFixed.symm.trans hg2)
  obtain rfl := Option.some.inj (gFixedType.symm.trans ht2)
  have hT : TabAt W 3 := by
    intro r c hr hc
    obtain ⟨zs, hz1, hz2⟩ := tabRows_at r c hr hc
    have := cells_of_tab2 Tryz.underlying249 Tryz.underlying199 Tryz.underlying3 cells1 cells4 cells54 hd1 r zs hz1 c _ hc hz2
    have h2 := World.var?_cell gTaken hvar1 (r * 4 + c)
    rw [Nat.mul_comm 4 r, h2]
    simpa using this
  have hF : TabAt W 7 := by
    intro r c hr hc
    obtain ⟨zs, hz1, hz2⟩ := tabRows_at r c hr hc
    have := cells_of_tab2 Tryz.underlying249 Tryz.underlying199 Tryz.underlying3 cells1 cells4 cells54 hd2 r zs hz1 c _ hc hz2
    have h2 := World.var?_cell gFixed hvar2 (r * 4 + c)
    rw [Nat.mul_comm 4 r, h2]
    simpa using this
  have hP : PairsAt W := by
    intro r c hr hc
    obtain ⟨zs, hz1, hz2⟩ := pairRows_at r c hr hc
    have := cells_of_tab2 Tryz.underlying140 Tryz.underlying139 Tryz.underlying3 cells1 cells2 cells42 hd3 r zs hz1 c _ hc hz2
    have h2 := World.var?_cell gPairs hvar3 (r * 2 + c)
    rw [Nat.mul_comm 2 r, h2]
    simpa using this
  have hO : ∀ i, i < 12 → W.cell? ⟨0, i, none⟩ = some (.int .u8 (one12.getD i 0)) := by
    intro i hi
    have e := cells_of_tab Tryz.underlying65 Tryz.underlying5 cellsByte cells12 hd4
    have h2 := World.var?_cell gOne hvar4 i
    rw [h2]
    have h3 : ∀ i : Fin 12, one12[i.val]? = some (one12.getD i.val 0) := by decide
    have h4 : cs4.toList[i]? = some (.int .u8 (one12.getD i 0)) := by
      rw [e, List.getElem?_map, h3 ⟨i, hi⟩]; rfl
    simpa using h4
  exact ⟨⟨hF, tab_lt4 (hF 0 0 (by omega) (by omega)), hP, tab_lt4 (hP 0 0 (by omega) (by omega))⟩, hT, tab_lt4 (hT 0 0 (by omega) (by omega)), hO, tab_lt4 (hO 0 (by omega))⟩
end Go.Proofs.YtlncjgnomhpjnaaGreatDoor

