import Derived.Test.YtlncjgnomhpjnaaGreatDoorPS54
import Derived.BigQuiet
import Derived.Deep.QuietTactic
import Derived.Deep.DeepCutAuto
/-
  The law 'Spoilt'.
-/
namespace Go.Proofs.YtlncjgnomhpjnaaGreatDoor
open Go.RowKit Go.Deep
set_option linter.unusedVariables false
theorem ats_cell {u : World} {base ga ca nb d ch S B hs : Nat} {G : Nat → Nat → Int} (h : u.ownsRow base 3 1 (.slice (some ⟨ga, 0, none⟩) (nb + 1) ca) (nb + 1) (atsL d ch G S B hs (nb + 1))) {j : Nat} (hj : j < nb + 1) : u.cell? ⟨ga, j, none⟩ = some (.int .i64 ((hs + (frsT d ch G S B j).length : Nat) : Int)) := by
  rcases h.2 with ⟨h0, -⟩ | ⟨g, c, cur, e, hg, hcur, hcap, -, hcs, htk⟩
  · cases h0
  · injection e with e1 e2 e3
    injection e1 with e1
    injection e1 with e1
    subst e1
    have h1 : (atsL d ch G S B hs (nb + 1))[j]? = some (.int .i64 ((hs + (frsT d ch G S B j).length : Nat) : Int)) := by unfold atsL; rw [List.getElem?_map, List.getElem?_range hj]; rfl
    rw [← htk, List.getElem?_take, if_pos (by omega), Array.getElem?_toList] at h1
    simp [World.cell?, hcur, h1]
theorem ats_cell0 {u : World} {base ga ca nb d ch S B hs : Nat} {G : Nat → Nat → Int} (h : u.ownsRow base 3 1 (.slice (some ⟨ga, 0, none⟩) (nb + 1) ca) (nb + 1) (atsL d ch G S B hs (nb + 1))) : u.cell? ⟨ga, 0, none⟩ = some (.int .i64 (hs : Int)) := ats_cell h (Nat.succ_pos _)
theorem part_pre {base : Nat} {lv : Value} {S n k : Nat} {gs : Nat → Nat} {G : Nat → Nat → Int} (w : World) (hn1 : 1 ≤ n) (hn4 : n ≤ 4) (hS : S ≤ 300) (hk : k ≤ S) (h : AccI base w lv S n gs G) :
    Calls Tryz.prog 34 #[lv, .int .i64 0, .int .i64 k] w fun e w' => ∃ lv2, e = .returned lv2 ∧ ViewL w' lv2 n k G ∧ Below w.heap.size w w' := by
  have h1 := part_any base lv S n 0 k gs G w hn1 hn4 hS (by omega) (by omega) h
  rw [Nat.min_eq_left hk, Nat.zero_min, Nat.sub_zero] at h1
  refine h1.mono ?_
  rintro e w' ⟨lv2, gs2, G2, rfl, ha, hg, hb⟩
  exact ⟨lv2, rfl, (ha.view hn1).ext (fun i hi j hj => by rw [hg i hi j hj, Nat.zero_add]), hb⟩
set_option maxRecDepth 4000 in
set_option maxHeartbeats 4000000 in
theorem spoiltLaw (c0 c1 c2 c3 c4 c5 c6 c7 : Int) (a : Option Addr) (n cap : Nat) (A : Nat → Option Addr) (L C : Nat → Nat) (F : Nat → Nat → Int) (pl tw : Int) (w : World) (h3 : -9223372036854775808 ≤ c3 ∧ c3 ≤ 9223372036854775807) (h4 : -9223372036854775808 ≤ c4 ∧ c4 ≤ 9223372036854775807) (hpl : -9223372036854775808 ≤ pl ∧ pl ≤ 9223372036854775807) (hto : -9223372036854775808 ≤ tw ∧ tw ≤ 9223372036854775807) (h : SoundIn w a n cap A L C F)
    (hF : ∀ i, i < n → ∀ j, j < L i → -9223372036854775808 ≤ F i j ∧ F i j ≤ 9223372036854775807) (hT : TabsF w) (hU : TabsU w) :
    Calls Tryz.prog 9 #[.agg #[.int .i64 c0, .int .i64 c1, .int .i64 c2, .int .i64 c3, .int .i64 c4, .int .i64 c5, .int .i64 c6, .int .i64 c7], .slice a n cap, .int .i64 pl, .int .i64 tw] w fun e w' => e = .returned (.bool true) ∧ Below w.heap.size w w' := by
  have HQ0 := Hid.mk' (Bx.new w #[.int .i64 c0, .int .i64 c1, .int .i64 c2, .int .i64 c3, .int .i64 c4, .int .i64 c5, .int .i64 c6, .int .i64 c7] 23)
  have HB0 : Hid (Below w.heap.size w (w.alloc (.cells #[.int .i64 c0, .int .i64 c1, .int .i64 c2, .int .i64 c3, .int .i64 c4, .int .i64 c5, .int .i64 c6, .int .i64 c7] 23))) := (Below.refl _ _).alloc (Nat.le_refl _) _
  have HRT := Hid.mk' (fun u => right_ok c0 c1 c2 c3 c4 c5 c6 c7 u h3 h4)
  have HSD := Hid.mk' (fun (u : World) (hu : Below w.heap.size w u) (ch d : Nat) (k2 k3 k4 k5 k6 k7 : Int) h1 h2 h3 => sounded_any k2 k3 k4 k5 k6 k7 ch d a n cap A L C F u h1 h2 h3 (by have := h.hn; omega) h.hL (h.below hu).hA (h.below hu).hI hF (h.below hu).low)
  have HS3 : Hid (sndN n L ≤ 300) := by show _ ≤ _; unfold sndN; split <;> omega
  have HTT := Hid.mk' (fun (u : World) (hu : Below w.heap.size w u) => And.intro (hT.below hu) (hU.below hu))
  have HPI := Hid.mk' (fun (TL : Nat) u (h1 : 1 ≤ TL) (h2 : TL ≤ 100000) => pick_any pl TL u h1 h2 hpl)
  have HPV : Hid (∀ u, Calls Tryz.prog 33 #[.int .i64 tw, .int .i64 256] u fun e w' => e = .returned (.int .i64 (pickV tw 256)) ∧ w' = u) := fun u => pick_any tw 256 u (by omega) (by omega) hto
  have hvl := pickV_lt tw 256 (by omega)
  generalize pickV tw 256 = pv at *
  clear h hF hT hU h3 h4 hpl hto
  generalize sndN n L = S at *
  go_enter Tryz.func9, Tryz.ntmps9
  go_upto_if 61 with (first
    | (refine wpList_loadRow rfl _ 23 rfl w.heap.size 23 #[.int .i64 c0, .int .i64 c1, .int .i64 c2, .int .i64 c3, .int .i64 c4, .int .i64 c5, .int .i64 c6, .int .i64 c7] (0, 0) _ rfl HQ0.out Tryz.underlying23 rfl infoCfgK ?_)
    | (go_at_call 29; refine (HRT.out _).mono ?_; rintro e w1 ⟨ch, d, B, k3, k4, k5, k6, k7, rfl, hcf, hb⟩; have HCF := Hid.mk' hcf; have HQ1 := Hid.mk' (HQ0.out.below hb); have HB1 := Hid.mk' (HB0.out.trans (hb.mono HB0.out.size)); clear HRT hcf hb HQ0 HB0)
    | (refine wpList_storeRow rfl _ _ 23 rfl w.heap.size 23 _ _ rfl rfl HQ1.out infoCfgK rfl rfl ?_)
    | (refine wpList_loadRow rfl _ 23 rfl w.heap.size 23 #[.int .i64 ch, .int .i64 d, .int .i64 B, .int .i64 k3, .int .i64 k4, .int .i64 k5, .int .i64 k6, .int .i64 k7] (0, 0) _ rfl (HQ1.out.row _) Tryz.underlying23 rfl infoCfgK ?_)
    | (go_at_call 30; refine (HSD.out _ (below_row HB1.out (Nat.le_refl _) _) ch d B k3 k4 k5 k6 k7 HCF.out.ch4 HCF.out.d4 HCF.out.d12).mono ?_; rintro e w2 ⟨xv, gs, G, rfl, hx, hG, hb⟩; obtain ⟨gx, cx, hxv, -, -, -⟩ := hx.open HCF.out.ch1; subst hxv; have HKP := Hid.mk' (kp_of HCF.out HS3.out hG); have HX2 := Hid.mk' (hx.mono (Nat.zero_le _)); have HQ2 := Hid.mk' ((HQ1.out.row #[.int .i64 ch, .int .i64 d, .int .i64 B, .int .i64 k3, .int .i64 k4, .int .i64 k5, .int .i64 k6, .int .i64 k7]).below hb); have HB2 := Hid.mk' ((below_row HB1.out (Nat.le_refl _) _).trans (hb.mono (below_row HB1.out (Nat.le_refl _) _).size)); clear hx hG hb HQ1 HB1 HSD)
    | (refine wpList_loadRow rfl _ 23 rfl w.heap.size 23 #[.int .i64 ch, .int .i64 d, .int .i64 B, .int .i64 k3, .int .i64 k4, .int .i64 k5, .int .i64 k6, .int .i64 k7] (0, 0) _ rfl HQ2.out Tryz.underlying23 rfl infoCfgK ?_)
    | (go_at_call 19; refine (enc_keep _ HCF.out HKP.out HX2.out (HTT.out _ HB2.out).1).mono ?_; rintro e w3 ⟨rfl, hb⟩; have HQ3 := Hid.mk' (HQ2.out.below hb); have HB3 := Hid.mk' (HB2.out.trans (hb.mono HB2.out.size)); have HX3 := Hid.mk' (HX2.out.next hb); clear hb HQ2 HB2 HX2)
    | (refine wpList_loadRow rfl _ 23 rfl w.heap.size 23 #[.int .i64 ch, .int .i64 d, .int .i64 B, .int .i64 k3, .int .i64 k4, .int .i64 k5, .int .i64 k6, .int .i64 k7] (0, 0) _ rfl HQ3.out Tryz.underlying23 rfl infoCfgK ?_)
    | (go_at_call 35; refine (places_any ch d B k3 k4 k5 k6 k7 S 0 gx cx gs G _ HCF.out HKP.out HX3.out (HTT.out _ HB3.out).1).mono ?_; rintro e w4 ⟨ov, rfl, ho, hb⟩; obtain ⟨ga, ca, hov⟩ := own_some ho (by omega); subst hov; have HO4 := Hid.mk' ho; have HQ4 := Hid.mk' (HQ3.out.below hb); have HB4 := Hid.mk' (HB3.out.trans (hb.mono HB3.out.size)); have HX4 := Hid.mk' (HX3.out.next hb); obtain ⟨cb, w5, hcv, hby, hb5⟩ := byt_of_string w4 (streamT d ch B k3 k4 G S); have HO5 := Hid.mk' (HO4.out.kept (grownAll hb5 _) (Classical.em _)); have HQ5 := Hid.mk' (HQ4.out.below hb5); have HB5 := Hid.mk' (HB4.out.trans (hb5.mono HB4.out.size)); have HX5 := Hid.mk' (HX4.out.next hb5); have HY5 := Hid.mk' hby; have HXL := Hid.mk' (And.intro (HX4.out.cells HCF.out.ch1).1 (fun k (hk : k < ch) => (HX4.out.rows k hk).lt)); have HQL := Hid.mk' HQ4.out.lt; have HOL : Hid (ga < w4.heap.size) := (HO4.out.lt ga rfl).2; have HDC := Hid.mk' (fun (u : World) (i : Nat) (v : UInt8) hi hv hT => spoil_dec (i := i) (v := v) u HKP.out hi hv hT); have HSH := Hid.mk' (fun (u : World) (i : Nat) (v : UInt8) hi hv h0 hT => spoil_salH (i := i) (v := v) u HKP.out hi hv h0 hT); have HSL := Hid.mk' (fun (u : World) (i k : Nat) (v : UInt8) hi hv hkb h1 h2 hT => spoil_salT (i := i) (k := k) (v := v) u HKP.out hi hv hkb h1 h2 hT); have HLN : Hid (22 + 2 * nPts S B k4 + (frsT d ch G S B (nBlk S B)).length = (streamT d ch B k3 k4 G S).length) := (stream_len HKP.out).symm; have hT9 := stream_short HKP.out; have hT22 : 22 ≤ (streamT d ch B k3 k4 G S).length := (by have := HLN.out; omega); have hnb3 := HKP.out.nb; have HKB := Hid.mk' (fun k (h : k < nBlk S B) => (nBlk_lt HKP.out.B1).1 h); have hhs3 : 22 + 2 * nPts S B k4 ≤ 700 := (by have := np_bd S B k4 HKP.out.B1; omega); clear ho hb hb5 hby HQ3 HB3 HX3 HQ4 HB4 HX4 HO4; generalize (streamT d ch B k3 k4 G S) = T0 at *; generalize 22 + 2 * nPts S B k4 = hs at *; generalize nBlk S B = nb at *)
    | (go_at_call 33; refine (HPI.out T0.length _ (by omega) (by omega)).mono ?_; rintro e w6 ⟨rfl, hw⟩; subst w6; have hil := pickV_lt pl T0.length (by omega); generalize pickV pl T0.length = i at *; have hci := HY5.out.cell hil; have htl : T0[i].toNat < 256 := T0[i].toNat_lt; obtain ⟨tb, htb⟩ : ∃ x, T0[i].toNat = x := ⟨_, rfl⟩; have HTB := Hid.mk' htb; rw [htb] at hci htl; clear HPI htb)
    | (go_at_call 33; refine (HPV.out _).mono ?_; rintro e w6 ⟨rfl, hw⟩; subst w6; clear HPV))
  obtain ⟨vv, hvv⟩ : ∃ vv, vv = if pv = tb then (pv + 1) % 256 else pv := ⟨_, rfl⟩
  have hv1 : vv < 256 := by rw [hvv]; split <;> omega
  have HV2 : Hid (vv ≠ tb) := by
    show _ ≠ _
    rw [hvv]
    by_cases e : pv = tb
    · rw [if_pos e]; omega
    · rw [if_neg e]; exact e
  have HVV := Hid.mk' hvv
  clear hvv
  go_cut [15] (fun s wx => s = .int .i64 vv ∧ wx = w5)
  case first =>
    by_cases e : pv = tb
    · subst e
      have hd : vv = (pv + 1) % 256 := by rw [HVV.out, if_pos rfl]
      have m0 : ((pv : Int) + 1) = ((pv + 1 : Nat) : Int) := by omega
      have m1 : ((pv : Int) + 1).tmod 256 = (vv : Int) := by rw [m0, Int.tmod_eq_emod_of_nonneg (by omega)]; omega
      have m2 : IntKind.i64.wrap ((pv : Int) + 1) = (pv : Int) + 1 := by rw [IntKind.wrap_i64]; omega
      have HD := Hid.mk' hd
      clear hd m0
      go_wp2_with fail
      go_meet
      case rel => exact ⟨rfl, rfl⟩
    · have hd : vv = pv := by rw [HVV.out, if_neg e]
      have e1 : ((pv : Int) == (tb : Int)) = false := beq_eq_false_iff_ne.2 (by omega)
      have e2 : ¬ (pv : Int) = (tb : Int) := by omega
      go_wp2_with fail
      go_meet
      case rel => exact ⟨by rw [hd], rfl⟩
  case rest =>
    obtain ⟨rfl, hwx⟩ := hcut
    subst hwx
    have u0 : (UInt8.ofNat vv).toNat = vv := by rw [UInt8.toNat_ofNat']; omega
    have HNE : Hid (T0[i] ≠ UInt8.ofNat vv) := fun e => HV2.out (by rw [← u0, ← e]; exact HTB.out)
    have hfz := HY5.out.frozen hil
    have hby6 : Byt (wc.setCell ⟨w4.heap.size, i, none⟩ (.int .u8 (vv : Int))) w4.heap.size (T0.set i (UInt8.ofNat vv)) := by
      have := HY5.out.set (UInt8.ofNat vv) hil
      rw [u0] at this
      exact this
    have HY6 := Hid.mk' hby6
    have hc6 := byt_back (cap := cb) hby6
    rw [List.length_set] at hc6
    have HNQ : Hid (w.heap.size ≠ w4.heap.size) := Nat.ne_of_lt HQL.out
    have HQ6 : Hid (Bx (wc.setCell ⟨w4.heap.size, i, none⟩ (.int .u8 (vv : Int))) w.heap.size 23 #[.int .i64 ch, .int .i64 d, .int .i64 B, .int .i64 k3, .int .i64 k4, .int .i64 k5, .int .i64 k6, .int .i64 k7]) := HQ5.out.of (blk_setCell_other _ _ _ _ HNQ.out)
    have HB6 : Hid (Below w.heap.size w (wc.setCell ⟨w4.heap.size, i, none⟩ (.int .u8 (vv : Int)))) := HB5.out.setCell (Nat.le_of_lt HQL.out) _
    have HX6 := Hid.mk' (HX5.out.put (a := ⟨w4.heap.size, i, none⟩) (.int .u8 (vv : Int)) (fun e => by have e' : gx = w4.heap.size := (by injection e); have := HXL.out.1; omega) (fun k hk e => by have e' : gs k = w4.heap.size := e; have := HXL.out.2 k hk; omega))
    have HO6 := Hid.mk' (HO5.out.kept (grown_set wc ⟨w4.heap.size, i, none⟩ (.int .u8 (vv : Int))) (.inr fun e => by have e' : ga = w4.heap.size := (by injection e); have := HOL.out; omega))
    have HD6 := Hid.mk' (fun (u : World) hT => HDC.out u i (UInt8.ofNat vv) hil HNE.out hT)
    have HH6 := Hid.mk' (fun (u : World) h0 hT => HSH.out u i (UInt8.ofNat vv) hil HNE.out h0 hT)
    have HL6 := Hid.mk' (fun (u : World) (k : Nat) hkb h1 h2 hT => HSL.out u i k (UInt8.ofNat vv) hil HNE.out hkb h1 h2 hT)
    have HBK : Hid (∀ u cap, Byt u w4.heap.size (T0.set i (UInt8.ofNat vv)) → (convert 61 9 (.slice (some ⟨w4.heap.size, 0, none⟩) T0.length cap)).run Tryz.prog u = .ok (.string (bs (T0.set i (UInt8.ofNat vv)))) u) := fun u cap h => by
      have := byt_back (cap := cap) h
      rw [List.length_set] at this
      exact this
    have wv : IntKind.u8.wrap (vv : Int) = (vv : Int) := by rw [IntKind.wrap_u8]; omega
    clear hby6 HDC HSH HSL HY5 HQ5 HB5 HX5 HO5 HVV HV2 u0
    generalize bs (T0.set i (UInt8.ofNat vv)) = SB at *
    by_cases hh : i < hs
    · rw [if_pos hh] at HD6
      have HHH := Hid.mk' (fun u hT => HH6.out u hh hT)
      clear HL6 HH6
      have hd0 : decide ((i : Int) < (hs : Int)) = true := decide_eq_true (by omega)
      go_wp2_with (first
        | (go_at_call 23; refine (HD6.out _ (HTT.out _ HB6.out).2).mono ?_; rintro e w7 ⟨rfl, hb⟩; have HY7 := Hid.mk' (HY6.out.below hb); have HB7 := Hid.mk' (HB6.out.trans (hb.mono HB6.out.size)); have HO7 := Hid.mk' (HO6.out.kept (grownAll hb _) (Classical.em _)); have ha0 := ats_cell0 (HO7.out.alloc (.cells #[.int .i64 0, .int .i64 0, .int .i64 0, .int .i64 0, .int .i64 0, .int .i64 0] 46)); have hc8 := HBK.out (w7.alloc (.cells #[.int .i64 0, .int .i64 0, .int .i64 0, .int .i64 0, .int .i64 0, .int .i64 0] 46)) cb (HY7.out.below ((Below.refl _ _).alloc (Nat.le_refl _) _)); clear hb HY6 HB6 HO6 HQ6 HX6 HD6 hc6))
      go_loopw [19] (fun kv wr => kv = .int .i64 0 ∧ wr = w7.alloc (.cells #[.int .i64 0, .int .i64 0, .int .i64 0, .int .i64 0, .int .i64 0, .int .i64 0] 46)) (fun _ _ => 0)
      case atStart => exact ⟨rfl, rfl⟩
      case round =>
        obtain ⟨rfl, hwr⟩ := hrel
        subst hwr
        by_cases h1 : 0 < nb
        · have ha1 := ats_cell (HO7.out.alloc (.cells #[.int .i64 0, .int .i64 0, .int .i64 0, .int .i64 0, .int .i64 0, .int .i64 0] 46)) (j := 1) (by omega)
          have hp1 : i < hs + (frsT d ch G S B 1).length := by omega
          generalize hs + (frsT d ch G S B 1).length = p1 at *
          have hd1 : decide ((p1 : Int) ≤ (i : Int)) = false := decide_eq_false (by omega)
          have hd2 : ¬ (p1 : Int) ≤ (i : Int) := by omega
          go_wp2_with (first
            | (go_at_call 25; refine (HHH.out _ (HTT.out _ (HB7.out.alloc HB7.out.size _)).2).mono ?_; rintro e w9 ⟨rfl, hb⟩; have HB9 := Hid.mk' ((HB7.out.alloc HB7.out.size _).trans (hb.mono (HB7.out.alloc HB7.out.size _).size)); have HO9 := Hid.mk' ((HO7.out.alloc (.cells #[.int .i64 0, .int .i64 0, .int .i64 0, .int .i64 0, .int .i64 0, .int .i64 0] 46)).kept (grownAll hb _) (Classical.em _)); have ha9 := ats_cell0 (HO9.out.alloc (.cells #[.int .i64 0, .int .i64 0, .int .i64 0, .int .i64 0, .int .i64 0, .int .i64 0] 46)); clear hb HHH hc8))
          go_ret
          exact ⟨rfl, HB9.out.alloc HB9.out.size _⟩
        · have e0 : nb = 0 := by omega
          subst e0
          go_wp2_with (first
            | (go_at_call 25; refine (HHH.out _ (HTT.out _ (HB7.out.alloc HB7.out.size _)).2).mono ?_; rintro e w9 ⟨rfl, hb⟩; have HB9 := Hid.mk' ((HB7.out.alloc HB7.out.size _).trans (hb.mono (HB7.out.alloc HB7.out.size _).size)); have HO9 := Hid.mk' ((HO7.out.alloc (.cells #[.int .i64 0, .int .i64 0, .int .i64 0, .int .i64 0, .int .i64 0, .int .i64 0] 46)).kept (grownAll hb _) (Classical.em _)); have ha9 := ats_cell0 (HO9.out.alloc (.cells #[.int .i64 0, .int .i64 0, .int .i64 0, .int .i64 0, .int .i64 0, .int .i64 0] 46)); clear hb HHH hc8))
          go_ret
          exact ⟨rfl, HB9.out.alloc HB9.out.size _⟩
    · rw [if_neg hh] at HD6
      clear HH6
      have hd0 : decide ((i : Int) < (hs : Int)) = false := decide_eq_false (by omega)
      have hd9 : ¬ (i : Int) < (hs : Int) := by omega
      go_wp2_with (first
        | (go_at_call 23; refine (HD6.out _ (HTT.out _ HB6.out).2).mono ?_; rintro e w7 ⟨rfl, hb⟩; have HY7 := Hid.mk' (HY6.out.below hb); have HB7 := Hid.mk' (HB6.out.trans (hb.mono HB6.out.size)); have HO7 := Hid.mk' (HO6.out.kept (grownAll hb _) (Classical.em _)); have HQ7 := Hid.mk' (HQ6.out.below hb); have HX7 := Hid.mk' (HX6.out.next hb); have ha0 := ats_cell0 (HO7.out.alloc (.cells #[.int .i64 0, .int .i64 0, .int .i64 0, .int .i64 0, .int .i64 0, .int .i64 0] 46)); have hc8 := HBK.out (w7.alloc (.cells #[.int .i64 0, .int .i64 0, .int .i64 0, .int .i64 0, .int .i64 0, .int .i64 0] 46)) cb (HY7.out.below ((Below.refl _ _).alloc (Nat.le_refl _) _)); clear hb HY6 HB6 HO6 HQ6 HX6 HD6 hc6))
      go_loopw [19] (fun kv wr => ∃ k : Nat, k ≤ nb ∧ kv = .int .i64 k ∧ wr = (w7.alloc (.cells #[.int .i64 0, .int .i64 0, .int .i64 0, .int .i64 0, .int .i64 0, .int .i64 0] 46)) ∧ Hid (hs + (frsT d ch G S B k).length ≤ i)) (fun kv _ => nb - (intOf kv).toNat)
      case atStart => exact ⟨0, Nat.zero_le _, rfl, rfl, (show hs + 0 ≤ i by omega)⟩
      case round =>
        obtain ⟨k, hk, rfl, hwr, HK⟩ := hrel
        subst hwr
        by_cases h1 : k < nb
        · have ha1 := ats_cell (HO7.out.alloc (.cells #[.int .i64 0, .int .i64 0, .int .i64 0, .int .i64 0, .int .i64 0, .int .i64 0] 46)) (j := k + 1) (by omega)
          by_cases h2 : hs + (frsT d ch G S B (k + 1)).length ≤ i
          · obtain ⟨p1, hp1⟩ : ∃ p1, p1 = hs + (frsT d ch G S B (k + 1)).length := ⟨_, rfl⟩
            have HK2 : Hid (hs + (frsT d ch G S B (k + 1)).length ≤ i) := h2
            rw [← hp1] at ha1 h2
            clear hp1
            have hd3 : decide (p1 ≤ i) = true := decide_eq_true h2
            have hd1 : decide ((p1 : Int) ≤ (i : Int)) = true := decide_eq_true (by omega)
            have hd2 : (p1 : Int) ≤ (i : Int) := by omega
            go_wp2_with fail
            go_roundw
            case rel => exact ⟨k + 1, by omega, by go_num, (by first | trivial | rfl), HK2.out⟩
            case measure => simp [intOf]; omega
          · have HSK := Hid.mk' (fun u hT => HL6.out u k h1 HK.out (by omega) hT)
            generalize hs + (frsT d ch G S B (k + 1)).length = p1 at *
            have hd1 : decide ((p1 : Int) ≤ (i : Int)) = false := decide_eq_false (by omega)
            have hd2 : ¬ (p1 : Int) ≤ (i : Int) := by omega
            clear HL6
            have hkS : k * B < S := HKB.out k h1
            have e1 : (k : Int) * (B : Int) = ((k * B : Nat) : Int) := by simp
            have hs3 := HS3.out
            generalize k * B = kb at *
            have v1 : IntKind.i64.wrap ((k : Int) * (B : Int)) = (kb : Int) := by rw [IntKind.wrap_i64, e1]; omega
            have HKS : Hid (kb ≤ S) := Nat.le_of_lt hkS
            clear e1
            go_wp2_with (first
              | (go_at_call 25; refine (HSK.out _ (HTT.out _ (HB7.out.alloc HB7.out.size _)).2).mono ?_; rintro e w9 ⟨zv, rfl, hz, hb⟩; have HB9 := Hid.mk' ((HB7.out.alloc HB7.out.size _).trans (hb.mono (HB7.out.alloc HB7.out.size _).size)); have HO9 := Hid.mk' ((HO7.out.alloc (.cells #[.int .i64 0, .int .i64 0, .int .i64 0, .int .i64 0, .int .i64 0, .int .i64 0] 46)).kept (grownAll hb _) (Classical.em _)); have ha9 := ats_cell0 (HO9.out.alloc (.cells #[.int .i64 ch, .int .i64 d, .int .i64 B, .int .i64 k3, .int .i64 k4, .int .i64 S] 46)); have HZ9 := Hid.mk' hz; have HQ9 := Hid.mk' ((HQ7.out.alloc (.cells #[.int .i64 0, .int .i64 0, .int .i64 0, .int .i64 0, .int .i64 0, .int .i64 0] 46)).below hb); have HX9 := Hid.mk' ((HX7.out.next ((Below.refl _ _).alloc (Nat.le_refl _) _)).next hb); have HI9 := Hid.mk' (Bx.new w9 #[.int .i64 ch, .int .i64 d, .int .i64 B, .int .i64 k3, .int .i64 k4, .int .i64 S] 46); have xq := (HQ9.out.alloc (.cells #[.int .i64 ch, .int .i64 d, .int .i64 B, .int .i64 k3, .int .i64 k4, .int .i64 S] 46)).cell 2; clear hb hz HSK hc8 HB7 HO7 HQ7 HX7)
              | (go_at_call 34; refine (part_pre _ HCF.out.ch1 HCF.out.ch4 HS3.out HKS.out (HX9.out.next ((Below.refl _ _).alloc (Nat.le_refl _) _))).mono ?_; rintro e wa ⟨pv2, rfl, hp, hb⟩; have HBA := Hid.mk' ((HB9.out.alloc HB9.out.size _).trans (hb.mono (HB9.out.alloc HB9.out.size _).size)); have HZA := Hid.mk' ((HZ9.out.below ((Below.refl _ _).alloc (Nat.le_refl _) _)).below hb); have HPA := Hid.mk' hp; have HQA := Hid.mk' ((HQ9.out.alloc _).below hb); have HXA := Hid.mk' ((HX9.out.next ((Below.refl _ _).alloc (Nat.le_refl _) _)).next hb); have HIA := Hid.mk' (HI9.out.below hb); clear hb hp HB9 HZ9 HQ9 HX9 HI9 xq)
              | (go_at_call 31; refine (ksameAll_any _ _ ch kb G _ (by have := HCF.out.ch4; omega) (by have := HS3.out; have := HKS.out; omega) HPA.out HZA.out).mono ?_; rintro e wb ⟨rfl, hb⟩; have HBB := Hid.mk' (HBA.out.trans (hb.mono HBA.out.size)); have HQB := Hid.mk' (HQA.out.below hb); have HXB := Hid.mk' (HXA.out.next hb); have HIB := Hid.mk' (HIA.out.below hb); clear hb HBA HQA HXA HIA)
              | (refine wpList_loadRow rfl _ 46 rfl w9.heap.size 46 #[.int .i64 ch, .int .i64 d, .int .i64 B, .int .i64 k3, .int .i64 k4, .int .i64 S] (0, 0) _ rfl HIB.out Tryz.underlying46 rfl infoInf6 ?_)
              | (refine wpList_loadRow rfl _ 23 rfl w.heap.size 23 #[.int .i64 ch, .int .i64 d, .int .i64 B, .int .i64 k3, .int .i64 k4, .int .i64 k5, .int .i64 k6, .int .i64 k7] (0, 0) _ rfl HQB.out Tryz.underlying23 rfl infoCfgK ?_)
              | (go_at_call 32; refine (tells_any ch d B k3 k4 S k5 k6 k7 _ ch S G _ HCF.out.ch1 rfl (HXB.out.view HCF.out.ch1)).mono ?_; rintro e wd ⟨rfl, hb⟩; have HBD := Hid.mk' (HBB.out.trans (hb.mono HBB.out.size)); clear hb))
            go_ret
            exact ⟨rfl, HBD.out⟩
        · have e : k = nb := by omega
          subst e
          have := HK.out
          have := HLN.out
          omega
end Go.Proofs.YtlncjgnomhpjnaaGreatDoor

