import Derived.Test.YtlncjgnomhpjnabGreatDoorPO53
import Derived.BigQuiet
import Derived.Deep.QuietTactic
import Derived.Deep.DeepCutAuto
/-
  The law 'Sought'.
-/
namespace Go.Proofs.YtlncjgnomhpjnabGreatDoor
open Go.RowKit Go.Deep
set_option linter.unusedVariables false

theorem AccI.cells {base : Nat} {u : World} {g c nn n : Nat} {gs : Nat → Nat} {G : Nat → Nat → Int} (h : AccI base u (.slice (some ⟨g, 0, none⟩) n c) nn n gs G) (hn : 1 ≤ n) : g < u.heap.size ∧ ∀ i, i < n → u.cell? ⟨g, i, none⟩ = some (.slice (some ⟨gs i, 0, none⟩) nn nn) := by
  obtain ⟨g', c', e, h1, h2, h3⟩ := h.open hn
  injection e with e1 e2 e3
  injection e1 with e1
  injection e1 with e1
  subst e1
  exact ⟨h2, h3⟩
theorem pick_succ (pl : Int) (S : Nat) (u : World) (hS : S ≤ 300) (hpl : -9223372036854775808 ≤ pl ∧ pl ≤ 9223372036854775807) :
    Calls Tryz.prog 13 #[.int .i64 pl, .int .i64 ((S : Int) + 1)] u fun e w' => ∃ k : Nat, k ≤ S ∧ e = .returned (.int .i64 k) ∧ w' = u := by
  have h1 := pick_any pl (S + 1) u (by omega) (by omega) hpl
  rw [show ((S + 1 : Nat) : Int) = (S : Int) + 1 by omega] at h1
  refine h1.mono ?_
  rintro e w' ⟨rfl, hw⟩
  have := pickV_lt pl (S + 1) (by omega)
  exact ⟨_, by omega, rfl, hw⟩
theorem part_keep {base : Nat} {lv : Value} {S n k : Nat} {gs : Nat → Nat} {G : Nat → Nat → Int} (w : World) (hn1 : 1 ≤ n) (hn4 : n ≤ 4) (hS : S ≤ 300) (hk : k ≤ S) (h : AccI base w lv S n gs G) :
    Calls Tryz.prog 16 #[lv, .int .i64 k, .int .i64 S] w fun e w' => ∃ lv2, e = .returned lv2 ∧ ViewL w' lv2 n (S - k) (fun i j => G i (k + j)) ∧ Below w.heap.size w w' := by
  have h1 := part_any base lv S n k S gs G w hn1 hn4 hS (by omega) (by omega) h
  rw [Nat.min_self, Nat.min_eq_left hk] at h1
  refine h1.mono ?_
  rintro e w' ⟨lv2, gs2, G2, rfl, ha, hg, hb⟩
  exact ⟨lv2, rfl, (ha.view hn1).ext hg, hb⟩
theorem ats_cell {u : World} {base ga ca nb d ch S B hs : Nat} {G : Nat → Nat → Int} (h : u.ownsRow base 3 1 (.slice (some ⟨ga, 0, none⟩) (nb + 1) ca) (nb + 1) (atsL d ch G S B hs (nb + 1))) {j : Nat} (hj : j < nb + 1) : u.cell? ⟨ga, j, none⟩ = some (.int .i64 ((hs + (frsT d ch G S B j).length : Nat) : Int)) := by
  rcases h.2 with ⟨h0, -⟩ | ⟨g, c, cur, e, hg, hcur, hcap, -, hcs, htk⟩
  · cases h0
  · injection e with e1 e2 e3
    injection e1 with e1
    injection e1 with e1
    subst e1
    have h1 : (atsL d ch G S B hs (nb + 1))[j]? = some (.int .i64 ((hs + (frsT d ch G S B j).length : Nat) : Int)) := by unfold atsL; rw [List.getElem?_map, List.getElem?_range hj]; rfl
    rw [← htk, List.getElem?_take, if_pos (by omega), Array.getElem?_toList] at h1
    simp [World.cell?, hcur, h1]
theorem ats_cell0 {u : World} {base ga ca nb d ch S B hs : Nat} {G : Nat → Nat → Int} (h : u.ownsRow base 3 1 (.slice (some ⟨ga, 0, none⟩) (nb + 1) ca) (nb + 1) (atsL d ch G S B hs (nb + 1))) : u.cell? ⟨ga, 0, none⟩ = some (.int .i64 (hs : Int)) := ats_cell h (Nat.succ_pos _)
/-- with points -/
theorem CfgK.seek {ch d B c3 k0 c5 c6 c7 : Nat} (h : CfgK ch d B c3 k0 c5 c6 c7) : CfgK ch d B c3 (if k0 = 0 then 1 else k0) c5 c6 c7 :=
  ⟨h.ch1, h.ch4, h.d4, h.d12, h.B1, h.B32, h.c3b, by have := h.c4b; split <;> omega, h.c51, h.c58, h.c61, h.c616, h.c71, h.c78⟩
/-- From of what was written over -/
theorem ow_from {ch d B c3 c4 S k : Nat} {G : Nat → Nat → Int} (u : World) (hk : KP d ch B c3 c4 S G) (hkS : k ≤ S) (q : Nat) (v : UInt8) (hq : k < S → q ≤ (frsT d ch G S B (stN (streamT d ch B c3 c4 G S) k)).length) (hT : TabsU u) :
    Calls Tryz.prog 14 #[.string (bs (owT (streamT d ch B c3 c4 G S) (22 + 2 * nPts S B c4) v q)), .int .i64 k] u fun e u' => ∃ yv, e = .returned (.tuple #[yv, .int .i64 0]) ∧ ViewL u' yv ch (S - k) (fun i j => G i (k + j)) ∧ Below u.heap.size u u' := by
  have hh := stream_head hk
  obtain ⟨e0, e1, e2, e3, e4, e5, e6, e7, e8, e9⟩ := owT_hd (v := v) (stream_hd hk) (show dSz _ ≤ 22 + 2 * nPts S B c4 by rw [hh.sz]; exact Nat.le_refl _) q
  refine (reelFrom_any _ k u (by rw [owT_length]; have := stream_short hk; omega) hT).mono ?_
  intro e u' ha
  obtain ⟨gl, rfl, hro, hb⟩ := ha.yes (ow_frm hk hkS q hq)
  rw [e2, e6, hh.ch, hh.sa, Int.toNat_natCast] at hro
  refine ⟨_, rfl, ?_, hb⟩
  rw [e2, hh.ch]
  exact hro.view.ext fun i hi j hj => ow_frmS hk (by omega) q (hq (by omega)) hi hj
theorem ow_from0 {ch d B c3 c4 S : Nat} {G : Nat → Nat → Int} (u : World) (hk : KP d ch B c3 c4 S G) (q : Nat) (v : UInt8) (hq : 3 ≤ q) (hq2 : 22 + 2 * nPts S B c4 + q ≤ (streamT d ch B c3 c4 G S).length) (hS : 0 < nBlk S B) (hT : TabsU u) :
    Calls Tryz.prog 14 #[.string (bs (owT (streamT d ch B c3 c4 G S) (22 + 2 * nPts S B c4) v q)), .int .i64 0] u fun e u' => e = .returned (.tuple #[.slice none 0 0, .int .i64 6]) ∧ Below u.heap.size u u' := by
  refine (reelFrom_any _ 0 u (by rw [owT_length]; have := stream_short hk; omega) hT).mono ?_
  intro e u' ha
  have hE := ow_frm0 hk (v := v) q hq hq2 hS
  have h := ha.nothing (by rw [hE]; decide)
  rw [hE] at h
  exact h
theorem ow_dec {ch d B c3 c4 S : Nat} {G : Nat → Nat → Int} (u : World) (hk : KP d ch B c3 c4 S G) (q : Nat) (v : UInt8) (hq : 3 ≤ q) (hq2 : 22 + 2 * nPts S B c4 + q ≤ (streamT d ch B c3 c4 G S).length) (hS : 0 < nBlk S B) (hT : TabsU u) :
    Calls Tryz.prog 17 #[.string (bs (owT (streamT d ch B c3 c4 G S) (22 + 2 * nPts S B c4) v q))] u fun e u' => e = .returned (.tuple #[.agg #[.int .i64 0, .int .i64 0, .int .i64 0, .int .i64 0, .int .i64 0, .int .i64 0], .slice none 0 0, .int .i64 6]) ∧ Below u.heap.size u u' := by
  have hE := ow_decE hk (v := v) q hq hq2 hS
  refine (reelDecode_any _ u (by rw [owT_length]; have := stream_short hk; omega) hT).mono ?_
  intro e u' ha
  have h := ha.nothing (by rw [hE]; decide)
  rw [hE] at h
  exact h
theorem stN_stream {ch d B c3 c4 S k : Nat} {G : Nat → Nat → Int} (hk : KP d ch B c3 c4 S G) (h0 : ¬ c4 = 0) : stN (streamT d ch B c3 c4 G S) k = k / B / c4 * c4 := by
  unfold stN
  rw [(stream_head hk).se, (stream_head hk).bl, if_neg h0]
set_option maxRecDepth 4000 in
set_option maxHeartbeats 4000000 in
theorem soughtLaw (c0 c1 c2 c3 c4 c5 c6 c7 : Int) (a : Option Addr) (n cap : Nat) (A : Nat → Option Addr) (L C : Nat → Nat) (F : Nat → Nat → Int) (pl tw : Int) (w : World) (h3 : -9223372036854775808 ≤ c3 ∧ c3 ≤ 9223372036854775807) (h4 : -9223372036854775808 ≤ c4 ∧ c4 ≤ 9223372036854775807) (hpl : -9223372036854775808 ≤ pl ∧ pl ≤ 9223372036854775807) (hto : -9223372036854775808 ≤ tw ∧ tw ≤ 9223372036854775807) (h : SoundIn w a n cap A L C F)
    (hF : ∀ i, i < n → ∀ j, j < L i → -9223372036854775808 ≤ F i j ∧ F i j ≤ 9223372036854775807) (hT : TabsF w) (hU : TabsU w) :
    Calls Tryz.prog 3 #[.agg #[.int .i64 c0, .int .i64 c1, .int .i64 c2, .int .i64 c3, .int .i64 c4, .int .i64 c5, .int .i64 c6, .int .i64 c7], .slice a n cap, .int .i64 pl, .int .i64 tw] w fun e w' => e = .returned (.bool true) ∧ Below w.heap.size w w' := by
  have HQ0 := Hid.mk' (Bx.new w #[.int .i64 c0, .int .i64 c1, .int .i64 c2, .int .i64 c3, .int .i64 c4, .int .i64 c5, .int .i64 c6, .int .i64 c7] 23)
  have HB0 : Hid (Below w.heap.size w (w.alloc (.cells #[.int .i64 c0, .int .i64 c1, .int .i64 c2, .int .i64 c3, .int .i64 c4, .int .i64 c5, .int .i64 c6, .int .i64 c7] 23))) := (Below.refl _ _).alloc (Nat.le_refl _) _
  have HRT := Hid.mk' (fun u => right_ok c0 c1 c2 c3 c4 c5 c6 c7 u h3 h4)
  have HSD := Hid.mk' (fun (u : World) (hu : Below w.heap.size w u) (ch d : Nat) (k2 k3 k4 k5 k6 k7 : Int) h1 h2 h3 => sounded_any k2 k3 k4 k5 k6 k7 ch d a n cap A L C F u h1 h2 h3 (by have := h.hn; omega) h.hL (h.below hu).hA (h.below hu).hI hF (h.below hu).low)
  have HS3 : Hid (sndN n L ≤ 300) := by show _ ≤ _; unfold sndN; split <;> omega
  have HTT := Hid.mk' (fun (u : World) (hu : Below w.heap.size w u) => And.intro (hT.below hu) (hU.below hu))
  have HPK := Hid.mk' (fun (S : Nat) u (hS : S ≤ 300) => pick_succ pl S u hS hpl)
  have HPV : Hid (∀ u, Calls Tryz.prog 13 #[.int .i64 tw, .int .i64 256] u fun e w' => e = .returned (.int .i64 (pickV tw 256)) ∧ w' = u) := fun u => pick_any tw 256 u (by omega) (by omega) hto
  have hvl := pickV_lt tw 256 (by omega)
  generalize pickV tw 256 = pv at *
  clear h hF hT hU h3 h4 hpl hto
  generalize sndN n L = S at *
  go_enter Tryz.func3, Tryz.ntmps3
  go_upto_if 31 with (first
    | (refine wpList_loadRow rfl _ 23 rfl w.heap.size 23 #[.int .i64 c0, .int .i64 c1, .int .i64 c2, .int .i64 c3, .int .i64 c4, .int .i64 c5, .int .i64 c6, .int .i64 c7] (0, 0) _ rfl HQ0.out Tryz.underlying23 rfl infoCfgK ?_)
    | (go_at_call 9; refine (HRT.out _).mono ?_; rintro e w1 ⟨ch, d, B, k3, k0, k5, k6, k7, rfl, hcf, hb⟩; have HCF0 := Hid.mk' hcf; have HQ1 := Hid.mk' (HQ0.out.below hb); have HB1 := Hid.mk' (HB0.out.trans (hb.mono HB0.out.size)); have HR1 := Hid.mk' (HQ1.out.row #[.int .i64 ch, .int .i64 d, .int .i64 B, .int .i64 k3, .int .i64 k0, .int .i64 k5, .int .i64 k6, .int .i64 k7]); have x4 := HR1.out.cell 4; clear HRT hcf hb HQ0 HB0)
    | (refine wpList_storeRow rfl _ _ 23 rfl w.heap.size 23 _ _ rfl rfl HQ1.out infoCfgK rfl rfl ?_))
  obtain ⟨k4, hk4⟩ : ∃ k4, k4 = if k0 = 0 then 1 else k0 := ⟨_, rfl⟩
  have hk41 : 1 ≤ k4 := by rw [hk4]; split <;> omega
  have HCF : Hid (CfgK ch d B k3 k4 k5 k6 k7) := by show CfgK _ _ _ _ _ _ _ _; rw [hk4]; exact HCF0.out.seek
  have HK4 := Hid.mk' hk4
  clear hk4
  go_cut [8] (fun s wx => s = .bool false ∧ Hid (Bx wx w.heap.size 23 #[.int .i64 ch, .int .i64 d, .int .i64 B, .int .i64 k3, .int .i64 k4, .int .i64 k5, .int .i64 k6, .int .i64 k7] ∧ Below w.heap.size w wx))
  case first =>
    by_cases e0 : k0 = 0
    · subst e0
      have e4 : k4 = 1 := by rw [HK4.out, if_pos rfl]
      subst e4
      have HR1' : Hid (Bx (w1.setRow w.heap.size #[.int .i64 ch, .int .i64 d, .int .i64 B, .int .i64 k3, .int .i64 0, .int .i64 k5, .int .i64 k6, .int .i64 k7]) w.heap.size 23 #[.int .i64 ch, .int .i64 d, .int .i64 B, .int .i64 k3, .int .i64 0, .int .i64 k5, .int .i64 k6, .int .i64 k7]) := HR1.out
      have f4 := HR1'.out.fz 4
      have y4 := HR1'.out.cell 4
      simp at y4
      have HZ : Hid (Bx ((w1.setRow w.heap.size #[.int .i64 ch, .int .i64 d, .int .i64 B, .int .i64 k3, .int .i64 0, .int .i64 k5, .int .i64 k6, .int .i64 k7]).setCell ⟨w.heap.size, 4, none⟩ (.int .i64 1)) w.heap.size 23 #[.int .i64 ch, .int .i64 d, .int .i64 B, .int .i64 k3, .int .i64 1, .int .i64 k5, .int .i64 k6, .int .i64 k7]) := by
        have h0 : (w1.setRow w.heap.size #[.int .i64 ch, .int .i64 d, .int .i64 B, .int .i64 k3, .int .i64 0, .int .i64 k5, .int .i64 k6, .int .i64 k7]).heap[w.heap.size]? = _ := HR1'.out
        show Bx _ _ _ _
        simp [Bx, World.setCell, Array.getElem?_modify, h0]
      have HZB : Hid (Below w.heap.size w ((w1.setRow w.heap.size #[.int .i64 ch, .int .i64 d, .int .i64 B, .int .i64 k3, .int .i64 0, .int .i64 k5, .int .i64 k6, .int .i64 k7]).setCell ⟨w.heap.size, 4, none⟩ (.int .i64 1))) := (below_row HB1.out (Nat.le_refl _) _).setCell (Nat.le_refl _) _
      go_wp2_with fail
      go_meet
      case rel => exact ⟨rfl, HZ.out, HZB.out⟩
    · have e4 : k4 = k0 := by rw [HK4.out, if_neg e0]
      subst e4
      have e1 : ((k4 : Int) == 0) = false := by simp; omega
      have e2 : ¬ (k4 : Int) = 0 := by omega
      have HZB : Hid (Below w.heap.size w (w1.setRow w.heap.size #[.int .i64 ch, .int .i64 d, .int .i64 B, .int .i64 k3, .int .i64 k4, .int .i64 k5, .int .i64 k6, .int .i64 k7])) := below_row HB1.out (Nat.le_refl _) _
      go_wp2_with fail
      go_meet
      case rel => exact ⟨rfl, HR1.out, HZB.out⟩
  case rest =>
    obtain ⟨rfl, HR2⟩ := hcut
    have HQ2 := Hid.mk' HR2.out.1
    have HB2 := Hid.mk' HR2.out.2
    clear HR2 HQ1 HB1 HR1 HK4 HCF0 x4
    go_upto_if 67 with (first
      | (refine wpList_loadRow rfl _ 23 rfl w.heap.size 23 #[.int .i64 ch, .int .i64 d, .int .i64 B, .int .i64 k3, .int .i64 k4, .int .i64 k5, .int .i64 k6, .int .i64 k7] (0, 0) _ rfl HQ2.out Tryz.underlying23 rfl infoCfgK ?_)
      | (go_at_call 10; refine (HSD.out _ HB2.out ch d B k3 k4 k5 k6 k7 HCF.out.ch4 HCF.out.d4 HCF.out.d12).mono ?_; rintro e w3 ⟨xv, gs, G, rfl, hx, hG, hb⟩; obtain ⟨gx, cx, hxv, -, -, -⟩ := hx.open HCF.out.ch1; subst hxv; have HKP := Hid.mk' (kp_of HCF.out HS3.out hG); have HX3 := Hid.mk' (hx.mono (Nat.zero_le _)); have HQ3 := Hid.mk' (HQ2.out.below hb); have HB3 := Hid.mk' (HB2.out.trans (hb.mono HB2.out.size)); clear hx hG hb HQ2 HB2 HSD)
      | (refine wpList_loadRow rfl _ 23 rfl w.heap.size 23 #[.int .i64 ch, .int .i64 d, .int .i64 B, .int .i64 k3, .int .i64 k4, .int .i64 k5, .int .i64 k6, .int .i64 k7] (0, 0) _ rfl HQ3.out Tryz.underlying23 rfl infoCfgK ?_)
      | (go_at_call 11; refine (enc_keep _ HCF.out HKP.out HX3.out (HTT.out _ HB3.out).1).mono ?_; rintro e w4 ⟨rfl, hb⟩; have HQ4 := Hid.mk' (HQ3.out.below hb); have HB4 := Hid.mk' (HB3.out.trans (hb.mono HB3.out.size)); have HX4 := Hid.mk' (HX3.out.next hb); clear hb HQ3 HB3 HX3)
      | (refine wpList_loadRow rfl _ 23 rfl w.heap.size 23 #[.int .i64 ch, .int .i64 d, .int .i64 B, .int .i64 k3, .int .i64 k4, .int .i64 k5, .int .i64 k6, .int .i64 k7] (0, 0) _ rfl HQ4.out Tryz.underlying23 rfl infoCfgK ?_)
      | (go_at_call 12; refine (places_any ch d B k3 k4 k5 k6 k7 S 0 gx cx gs G _ HCF.out HKP.out HX4.out (HTT.out _ HB4.out).1).mono ?_; rintro e w5 ⟨ov, rfl, ho, hb⟩; obtain ⟨ga, ca, hov⟩ := own_some ho (by omega); subst hov; have HO5 := Hid.mk' ho; have HQ5 := Hid.mk' (HQ4.out.below hb); have HB5 := Hid.mk' (HB4.out.trans (hb.mono HB4.out.size)); have HX5 := Hid.mk' (HX4.out.next hb); have xc := (HX5.out.cells HCF.out.ch1).2 0 HCF.out.ch1; have hch : 0 < ch := HCF.out.ch1; have hS3 := HS3.out; have xb2 := HQ5.out.cell 2; have xb4 := HQ5.out.cell 4; clear ho hb HQ4 HB4 HX4)
      | (go_at_call 13; refine (HPK.out S _ hS3).mono ?_; rintro e w6 ⟨k, hk, rfl, hw⟩; subst w6; clear HPK))
    all_goals
      obtain ⟨fi, hfi⟩ : ∃ fi, fi = if 0 < S ∧ k < S then k / B / k4 * k4 else 0 := ⟨_, rfl⟩
      have HFI := Hid.mk' hfi
      have hB1 := HCF.out.B1
      have hB32 := HCF.out.B32
      have hk4b := HCF.out.c4b
      clear hfi
      go_cut [15] (fun s wx => s = .int .i64 fi ∧ Hid (wx.ownsRow w4.heap.size 3 1 (.slice (some ⟨ga, 0, none⟩) (nBlk S B + 1) ca) (nBlk S B + 1) (atsL d ch G S B (22 + 2 * nPts S B k4) (nBlk S B + 1)) ∧ Bx wx w.heap.size 23 #[.int .i64 ch, .int .i64 d, .int .i64 B, .int .i64 k3, .int .i64 k4, .int .i64 k5, .int .i64 k6, .int .i64 k7] ∧ Below w.heap.size w wx ∧ AccI 0 wx (.slice (some ⟨gx, 0, none⟩) ch cx) S ch gs G))
      case first =>
        by_cases h1 : 0 < S
        · by_cases h2 : k < S
          · first
              | (exfalso; omega)
              | (have hd : fi = k / B / k4 * k4 := by rw [HFI.out, if_pos ⟨h1, h2⟩]
                 have t1 : (k : Int).tdiv (B : Int) = ((k / B : Nat) : Int) := by rw [Int.tdiv_eq_ediv_of_nonneg (by omega)]; rfl
                 have hl1 : k / B ≤ 300 := Nat.le_trans (Nat.div_le_self _ _) (by omega)
                 generalize k / B = kb at *
                 have t2 : (kb : Int).tdiv (k4 : Int) = ((kb / k4 : Nat) : Int) := by rw [Int.tdiv_eq_ediv_of_nonneg (by omega)]; rfl
                 have hl2 : kb / k4 ≤ 300 := Nat.le_trans (Nat.div_le_self _ _) hl1
                 have hl3 : kb / k4 * k4 ≤ 300 := Nat.le_trans (Nat.div_mul_le_self _ _) hl1
                 generalize kb / k4 = kc at *
                 have e3 : (kc : Int) * (k4 : Int) = ((kc * k4 : Nat) : Int) := by simp
                 rw [← hd] at e3 hl3
                 have w1 : IntKind.i64.wrap (kb : Int) = (kb : Int) := by rw [IntKind.wrap_i64]; omega
                 have w2 : IntKind.i64.wrap (kc : Int) = (kc : Int) := by rw [IntKind.wrap_i64]; omega
                 have w3 : IntKind.i64.wrap ((kc : Int) * (k4 : Int)) = (fi : Int) := by rw [IntKind.wrap_i64, e3]; omega
                 have z1 : ((B : Int) == 0) = false := by simp; omega
                 have z2 : ¬ (B : Int) = 0 := by omega
                 have z3 : ((k4 : Int) == 0) = false := by simp; omega
                 have z4 : ¬ (k4 : Int) = 0 := by omega
                 have d1 : decide ((k : Int) < (S : Int)) = true := decide_eq_true (by omega)
                 clear hd HFI e3
                 go_wp2_with fail
                 go_quiet (fail)
                 go_wp2_with fail
                 go_meet
                 case rel =>
                   have hb5 : Below w5.heap.size w5 (w5.drewN nq) := ⟨rfl, rfl, rfl, Nat.le_refl _, fun _ _ => rfl⟩
                   exact ⟨rfl, HO5.out, HQ5.out, HB5.out.trans (hb5.mono HB5.out.size), HX5.out.next hb5⟩)
          · first
              | (exfalso; omega)
              | (have hd : fi = 0 := by rw [HFI.out, if_neg (fun h => h2 h.2)]
                 have d1 : decide ((k : Int) < (S : Int)) = false := decide_eq_false (by omega)
                 have d2 : decide (k < S) = false := decide_eq_false h2
                 subst hd
                 go_wp2_with fail
                 go_meet
                 case rel => exact ⟨rfl, HO5.out, HQ5.out, HB5.out, HX5.out⟩)
        · first
            | (exfalso; omega)
            | (have hd : fi = 0 := by rw [HFI.out, if_neg (fun h => h1 h.1)]
               have e0 : S = 0 := by omega
               subst hd
               subst e0
               go_wp2_with fail
               go_meet
               case rel => exact ⟨rfl, HO5.out, HQ5.out, HB5.out, HX5.out⟩)
      case rest =>
        obtain ⟨rfl, HFX⟩ := hcut
        clear HO5 HQ5 HB5 HX5 xc xb2 xb4
        have HO5 := Hid.mk' HFX.out.1
        have HQ5 := Hid.mk' HFX.out.2.1
        have HB5 := Hid.mk' HFX.out.2.2.1
        have HX5 := Hid.mk' HFX.out.2.2.2
        have xc := (HX5.out.cells HCF.out.ch1).2 0 HCF.out.ch1
        have xb2 := HQ5.out.cell 2
        have xb4 := HQ5.out.cell 4
        clear HFX
        have HK0 : Hid (¬ k4 = 0) := fun e => by omega
        have HST : Hid (k < S → fi = stN (streamT d ch B k3 k4 G S) k) := fun h => by
          rw [HFI.out, if_pos ⟨by omega, h⟩, stN_stream HKP.out HK0.out]
        have HFN : Hid (fi ≤ nBlk S B ∧ (0 < fi → fi < nBlk S B ∧ k < S)) := by
          by_cases h2 : k < S
          · have hb := stN_lt (T := (streamT d ch B k3 k4 G S)) (a := k) (by rw [(stream_head HKP.out).bl]; exact HKP.out.B1) (by rw [(stream_head HKP.out).sa]; exact h2)
            rw [(stream_head HKP.out).sa, (stream_head HKP.out).bl, ← HST.out h2] at hb
            exact ⟨Nat.le_of_lt hb, fun _ => ⟨hb, h2⟩⟩
          · have hd : fi = 0 := by rw [HFI.out, if_neg (fun h => h2 h.2)]
            rw [hd]
            exact ⟨Nat.zero_le _, fun h => absurd h (Nat.lt_irrefl _)⟩
        have HQL : Hid (22 + 2 * nPts S B k4 + (frsT d ch G S B fi).length ≤ (streamT d ch B k3 k4 G S).length) := by
          show _ ≤ _
          rw [stream_len HKP.out]
          obtain ⟨Z, hZ⟩ := frs_pre d ch G S B fi (nBlk S B - fi)
          rw [Nat.add_sub_cancel' HFN.out.1] at hZ
          rw [hZ, List.length_append]
          omega
        have HQ3 : Hid (0 < fi → 3 ≤ (frsT d ch G S B fi).length) := fun h => by
          obtain ⟨f, rfl⟩ : ∃ f, fi = f + 1 := ⟨fi - 1, by omega⟩
          have h12 := frT_twelve HKP.out (k := f) (by have := (HFN.out.2 h).1; omega)
          have hl : (frsT d ch G S B (f + 1)).length = (frsT d ch G S B f).length + (frT d ch G S B f).length := List.length_append
          omega
        have HFK := Hid.mk' (fun u hT => ow_from u HKP.out hk (frsT d ch G S B fi).length (UInt8.ofNat pv) (fun h => by rw [← HST.out h]; exact Nat.le_refl _) hT)
        have HF0 := Hid.mk' (fun u (h : 0 < fi) hT => ow_from0 u HKP.out (frsT d ch G S B fi).length (UInt8.ofNat pv) (HQ3.out h) HQL.out (by have := (HFN.out.2 h).1; omega) hT)
        have HDC := Hid.mk' (fun u (h : 0 < fi) hT => ow_dec u HKP.out (frsT d ch G S B fi).length (UInt8.ofNat pv) (HQ3.out h) HQL.out (by have := (HFN.out.2 h).1; omega) hT)
        have hT9 := stream_short HKP.out
        have hhs3 : 22 + 2 * nPts S B k4 ≤ 700 := by have := np_bd S B k4 HKP.out.B1; have := HKP.out.nb; omega
        have hnb3 := HKP.out.nb
        have hfn := HFN.out.1
        have ha0 := ats_cell0 HO5.out
        have haf := ats_cell HO5.out (j := fi) (by omega)
        obtain ⟨cb, w6, hcv, hby, hb6⟩ := byt_of_string wc (streamT d ch B k3 k4 G S)
        have HXL := Hid.mk' (And.intro (HX5.out.cells HCF.out.ch1).1 (fun k (hk : k < ch) => (HX5.out.rows k hk).lt))
        have HQX := Hid.mk' HQ5.out.lt
        have HOL : Hid (ga < wc.heap.size) := (HO5.out.lt ga rfl).2
        have HO6 := Hid.mk' (HO5.out.kept (grownAll hb6 _) (Classical.em _))
        have HQ6 := Hid.mk' (HQ5.out.below hb6)
        have HB6 := Hid.mk' (HB5.out.trans (hb6.mono HB5.out.size))
        have HX6 := Hid.mk' (HX5.out.next hb6)
        have HY6 : Hid (Byt w6 wc.heap.size (owT (streamT d ch B k3 k4 G S) (22 + 2 * nPts S B k4) (UInt8.ofNat pv) 0)) := hby
        have ha06 := ats_cell0 HO6.out
        have u0 : (UInt8.ofNat pv).toNat = pv := by rw [UInt8.toNat_ofNat']; omega
        clear hby hb6 HO5 HQ5 HB5 HX5 xb2 xb4 xc HFI HST HQ3
        generalize (streamT d ch B k3 k4 G S) = T0 at *
        generalize 22 + 2 * nPts S B k4 = hs at *
        generalize nBlk S B = nb at *
        have HOW : Hid (∀ j, (owT T0 hs (UInt8.ofNat pv) j).length = T0.length) := fun j => owT_length _ _ _ j
        have hql := HQL.out
        obtain ⟨en, hen⟩ : ∃ en, en = hs + (frsT d ch G S B fi).length := ⟨_, rfl⟩
        rw [← hen] at haf hql
        have HEN := Hid.mk' hen
        clear hen
        have wv : IntKind.u8.wrap (pv : Int) = (pv : Int) := by rw [IntKind.wrap_u8]; omega
        go_wp2_with fail
        go_loopw [17] (fun iv wr => ∃ j p : Nat, iv = .int .i64 p ∧ Hid (p = hs + j ∧ p ≤ en ∧ Byt wr wc.heap.size (owT T0 hs (UInt8.ofNat pv) j) ∧ Bx wr w.heap.size 23 #[.int .i64 ch, .int .i64 d, .int .i64 B, .int .i64 k3, .int .i64 k4, .int .i64 k5, .int .i64 k6, .int .i64 k7] ∧ AccI 0 wr (.slice (some ⟨gx, 0, none⟩) ch cx) S ch gs G ∧ wr.ownsRow w4.heap.size 3 1 (.slice (some ⟨ga, 0, none⟩) (nb + 1) ca) (nb + 1) (atsL d ch G S B hs (nb + 1)) ∧ Below w.heap.size w wr)) (fun iv _ => en - (intOf iv).toNat)
        case atStart => exact ⟨0, hs, rfl, rfl, (by have := HEN.out; omega), HY6.out, HQ6.out, HX6.out, HO6.out, HB6.out⟩
        case round =>
          obtain ⟨j, p, rfl, HR⟩ := hrel
          have haw := ats_cell HR.out.2.2.2.2.2.1 (j := fi) (by omega)
          rw [← HEN.out] at haw
          have hpe := HR.out.2.1
          by_cases hlt : p < en
          · have hpl : p < (owT T0 hs (UInt8.ofNat pv) j).length := by rw [HOW.out]; omega
            have hci := HR.out.2.2.1.cell hpl
            have hfz := HR.out.2.2.1.frozen hpl
            have hzz := HR.out.2.2.1.set (UInt8.ofNat pv) hpl
            rw [u0] at hzz
            have HZ : Hid (Byt (wr.setCell ⟨wc.heap.size, p, none⟩ (.int .u8 (pv : Int))) wc.heap.size (owT T0 hs (UInt8.ofNat pv) (j + 1))) := by
              show Byt _ _ ((owT T0 hs (UInt8.ofNat pv) j).set (hs + j) (UInt8.ofNat pv))
              rw [← HR.out.1]
              exact hzz
            have HZQ : Hid (Bx (wr.setCell ⟨wc.heap.size, p, none⟩ (.int .u8 (pv : Int))) w.heap.size 23 #[.int .i64 ch, .int .i64 d, .int .i64 B, .int .i64 k3, .int .i64 k4, .int .i64 k5, .int .i64 k6, .int .i64 k7]) := HR.out.2.2.2.1.of (blk_setCell_other _ _ _ _ (Nat.ne_of_lt HQX.out))
            have HZB : Hid (Below w.heap.size w (wr.setCell ⟨wc.heap.size, p, none⟩ (.int .u8 (pv : Int)))) := HR.out.2.2.2.2.2.2.setCell (Nat.le_of_lt HQX.out) _
            have HZX := Hid.mk' (HR.out.2.2.2.2.1.put (a := ⟨wc.heap.size, p, none⟩) (.int .u8 (pv : Int)) (fun e => by have e' : gx = wc.heap.size := (by injection e); have := HXL.out.1; omega) (fun k hk e => by have e' : gs k = wc.heap.size := e; have := HXL.out.2 k hk; omega))
            have HZO := Hid.mk' (HR.out.2.2.2.2.2.1.kept (grown_set wr ⟨wc.heap.size, p, none⟩ (.int .u8 (pv : Int))) (.inr fun e => by have e' : ga = wc.heap.size := (by injection e); have := HOL.out; omega))
            have HPJ : Hid (p + 1 = hs + (j + 1) ∧ p + 1 ≤ en) := ⟨by have := HR.out.1; omega, by omega⟩
            have d1 : decide ((p : Int) < (en : Int)) = true := decide_eq_true (by omega)
            obtain ⟨ob, hob⟩ : ∃ x, ((owT T0 hs (UInt8.ofNat pv) j)[p].toNat : Int) = x := ⟨_, rfl⟩
            rw [hob] at hci
            clear hzz hob
            have hp3 : (p : Int) < (T0.length : Int) := by omega
            go_wp2_with (first
              | (go_at_call 13; refine (HPV.out _).mono ?_; rintro e w' ⟨rfl, hw⟩; subst hw))
            go_roundw
            case rel => exact ⟨j + 1, p + 1, by go_num, HPJ.out.1, HPJ.out.2, HZ.out, HZQ.out, HZX.out, HZO.out, HZB.out⟩
            case measure => simp [intOf]; omega
          · have e0 : p = en := by omega
            subst e0
            have ej : j = (frsT d ch G S B fi).length := by have := HR.out.1; have := HEN.out; omega
            have hc7 := byt_back (cap := cb) HR.out.2.2.1
            rw [HOW.out, ej] at hc7
            have d1 : decide ((p : Int) < (p : Int)) = false := decide_eq_false (by omega)
            generalize bs (owT T0 hs (UInt8.ofNat pv) (frsT d ch G S B fi).length) = ST at *
            clear HPV ej
            by_cases hf0 : fi = 0
            · subst hf0
              go_wp2_with (first
              | (go_at_call 14; refine (HFK.out _ (HTT.out _ HR.out.2.2.2.2.2.2).2).mono ?_; rintro e wa ⟨yv, rfl, hy, hb⟩; have HBA := Hid.mk' (HR.out.2.2.2.2.2.2.trans (hb.mono HR.out.2.2.2.2.2.2.size)); have HXA := Hid.mk' (HR.out.2.2.2.2.1.next hb); have HYA := Hid.mk' hy; clear hb hy HFK)
              | (go_at_call 16; refine (part_keep _ HCF.out.ch1 HCF.out.ch4 hS3 hk HXA.out).mono ?_; rintro e wb ⟨pv2, rfl, hp, hb⟩; have HBB := Hid.mk' (HBA.out.trans (hb.mono HBA.out.size)); have HYB := Hid.mk' (HYA.out.below hb); have HPB := Hid.mk' hp; clear hb hp HBA HXA HYA)
              | (go_at_call 15; refine (ksameAll_any _ _ ch (S - k) (fun i j => G i (k + j)) _ (by have := HCF.out.ch4; omega) (by omega) HPB.out HYB.out).mono ?_; rintro e wd ⟨rfl, hb⟩; have HBD := Hid.mk' (HBB.out.trans (hb.mono HBB.out.size)); clear hb)
              | (go_at_call 14; refine (HF0.out _ HFP.out (HTT.out _ HBD.out).2).mono ?_; rintro e we ⟨rfl, hb⟩; have HBE := Hid.mk' (HBD.out.trans (hb.mono HBD.out.size)); clear hb HF0)
              | (go_at_call 17; refine (HDC.out _ HFP.out (HTT.out _ HBE.out).2).mono ?_; rintro e wf ⟨rfl, hb⟩; have HBF := Hid.mk' (HBE.out.trans (hb.mono HBE.out.size)); clear hb HDC))
              go_ret
              exact ⟨rfl, HBD.out⟩
            · have HFP : Hid (0 < fi) := Nat.pos_of_ne_zero hf0
              have f1 : ((fi : Int) == 0) = false := by simp; omega
              have f2 : ¬ (fi : Int) = 0 := by omega
              go_wp2_with (first
              | (go_at_call 14; refine (HFK.out _ (HTT.out _ HR.out.2.2.2.2.2.2).2).mono ?_; rintro e wa ⟨yv, rfl, hy, hb⟩; have HBA := Hid.mk' (HR.out.2.2.2.2.2.2.trans (hb.mono HR.out.2.2.2.2.2.2.size)); have HXA := Hid.mk' (HR.out.2.2.2.2.1.next hb); have HYA := Hid.mk' hy; clear hb hy HFK)
              | (go_at_call 16; refine (part_keep _ HCF.out.ch1 HCF.out.ch4 hS3 hk HXA.out).mono ?_; rintro e wb ⟨pv2, rfl, hp, hb⟩; have HBB := Hid.mk' (HBA.out.trans (hb.mono HBA.out.size)); have HYB := Hid.mk' (HYA.out.below hb); have HPB := Hid.mk' hp; clear hb hp HBA HXA HYA)
              | (go_at_call 15; refine (ksameAll_any _ _ ch (S - k) (fun i j => G i (k + j)) _ (by have := HCF.out.ch4; omega) (by omega) HPB.out HYB.out).mono ?_; rintro e wd ⟨rfl, hb⟩; have HBD := Hid.mk' (HBB.out.trans (hb.mono HBB.out.size)); clear hb)
              | (go_at_call 14; refine (HF0.out _ HFP.out (HTT.out _ HBD.out).2).mono ?_; rintro e we ⟨rfl, hb⟩; have HBE := Hid.mk' (HBD.out.trans (hb.mono HBD.out.size)); clear hb HF0)
              | (go_at_call 17; refine (HDC.out _ HFP.out (HTT.out _ HBE.out).2).mono ?_; rintro e wf ⟨rfl, hb⟩; have HBF := Hid.mk' (HBE.out.trans (hb.mono HBE.out.size)); clear hb HDC))
              go_ret
              exact ⟨rfl, HBF.out.alloc HBF.out.size _⟩
end Go.Proofs.YtlncjgnomhpjnabGreatDoor
