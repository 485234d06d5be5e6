import Derived.Test.YtlncjgnomhpjnaaGreatDoorPR49
import Derived.Deep.RegionLaw
import Derived.Deep.RegionHeld3
/-
  The document reads frames: reelref.run.
-/
namespace Go.Proofs.YtlncjgnomhpjnaaGreatDoor
open Go.RowKit Go.Deep
set_option linter.unusedVariables false
/-- what reading frames gives -/
def RunOut (e : Ending) (w w' : World) (n d B S k0 at0 : Nat) (X : List UInt8) : Prop :=
  ∃ (m gl : Nat) (la : Option Addr) (lc : Nat), e = .returned (.tuple #[.slice (some ⟨gl, 0, none⟩) n n, .slice la m lc, .int .i64 ((at0 + offX X m : Nat) : Int)]) ∧ RunIs n d B S k0 X m ∧ RowsL w.heap.size w' (.slice (some ⟨gl, 0, none⟩) n n) n (chN B S k0 m) (smpL n d B S k0 X m) ∧
    w'.ownsRow w.heap.size 3 1 (.slice la m lc) m (lnL (lnX X) m) ∧ Below w.heap.size w w'
theorem RfI.done {w wr : World} {n d B S k0 m at0 : Nat} {X : List UInt8} {is : Array Value} {vs : Nat → Value} {la : Option Addr} {lc : Nat} (h : RfI w wr n is vs (fun c => chL n d B S k0 X c m) (.slice la m lc) (lnL (lnX X) m)) (hr : RunIs n d B S k0 X m) (a : Nat) (ha : a = at0 + offX X m) :
    RunOut (.returned (.tuple #[.slice (some ⟨w.heap.size + 1, 0, none⟩) n n, .slice la m lc, .int .i64 (a : Int)])) w wr n d B S k0 at0 X := by
  refine ⟨m, w.heap.size + 1, la, lc, by rw [ha], hr, ⟨w.heap.size + 1, vs, fun c => (vs c).ownBlock, rfl, by omega, h.row, fun c hc => ?_, fun c c' hc hc' hne q h1 h2 => ?_⟩, ?_, h.below⟩
  · have h1 := h.own c hc
    rw [chL_length] at h1
    have h2 := lst_of_own h1 (fun j _ => rfl)
    exact ⟨h2.1, fun q hq => by have := h2.2 q hq; omega⟩
  · rcases h.apart c c' hc hc' hne with h3 | h3
    · have h1' : (vs c).ownBlock = some q := h1
      rw [h3] at h1'; cases h1'
    · exact h3 (h1.trans h2.symm)
  · have h1 := h.lens
    rw [lnL_length] at h1
    exact own_mono h1 (by omega)
theorem tab_at {w u : World} {g : Nat} (h : TabAt w g) (hb : Below w.heap.size w u) (hg : g < w.heap.size) : TabAt u g := fun r c hr hc => (hb.cell (p := ⟨g, 4 * r + c, none⟩) hg).trans (h r c hr hc)
theorem RefOut.yes2 {e : Ending} {w w' : World} {T : List UInt8} {n d : Nat} {c2 number : Int} {H : Nat → Nat → Int} (h : RefOut e w w' T n d c2 number) (hI : FrmP T n d c2 number H) :
    ∃ H g c, e = .returned (.tuple #[.slice (some ⟨g, 0, none⟩) n c, .int .i64 (hLen T)]) ∧ FrmP T n d c2 number H ∧ RowsAre w w' (.slice (some ⟨g, 0, none⟩) n c) n (hCnt T + 1) H ∧ Below w.heap.size w w' := by
  rcases h with ⟨⟨H', v, h1, h2, h3⟩ | ⟨hno, -⟩, hb⟩
  · obtain ⟨g, c, gs, rfl, h4⟩ := h3
    exact ⟨H', g, c, h2, h1, ⟨g, c, gs, rfl, h4⟩, hb⟩
  · exact absurd hI (hno H)
theorem RefOut.none2 {e : Ending} {w w' : World} {T : List UInt8} {n d : Nat} {c2 number : Int} (h : RefOut e w w' T n d c2 number) (hI : ∀ H, ¬ FrmP T n d c2 number H) : e = .returned (.tuple #[.slice none 0 0, .int .i64 0]) ∧ Below w.heap.size w w' := by
  rcases h with ⟨⟨H', v, h1, -⟩ | ⟨-, h2⟩, hb⟩
  · exact absurd h1 (hI H')
  · exact ⟨h2, hb⟩
set_option maxRecDepth 4000 in
set_option maxHeartbeats 4000000 in
theorem refRun_any (n d B c3 c4 S k0 at0 : Nat) (T : List UInt8) (w : World) (hd1 : 4 ≤ d) (hd : d ≤ 12) (hn1 : 1 ≤ n) (hn4 : n ≤ 4) (hB : 1 ≤ B) (hB2 : B ≤ 32) (hS : S ≤ 300) (hk : k0 ≤ nBlk S B) (hX : T.length ≤ 9000) (hat : at0 ≤ T.length) (hT : TabAt w 3) (hT3 : 3 < w.heap.size) :
    Calls Tryz.prog 94 #[.agg #[.int .i64 n, .int .i64 d, .int .i64 B, .int .i64 c3, .int .i64 c4, .int .i64 S], .string (bs T), .int .i64 k0, .int .i64 at0] w fun e w' => RunOut e w w' n d B S k0 at0 (T.drop at0) := by
  have hz : (bs T).size = T.length := bs_size T
  have HBL := Hid.mk' (fun u => rblocks_any n d c3 c4 B S u hB (by omega) (by omega))
  have hmk := run_make_row' (P := Tryz.prog) 24 29 (.slice none 0 0) 24 Tryz.underlying24 infoInts rfl .i64 .i64 n (by omega) (by omega)
  have HNB := Hid.mk' (nBlk_le (S := S) (B := B) hB)
  have HRS := Hid.mk' (RfI.start w n #[.int .i64 n, .int .i64 d, .int .i64 B, .int .i64 c3, .int .i64 c4, .int .i64 S])
  have HUF := Hid.mk' (fun (u : World) (hu : Below w.heap.size w u) (q j : Nat) => refUnframe_any B c3 c4 1 1 1 n d q (atX (T.drop at0) j) u (by show ((T.drop at0).drop _).length ≤ 9000; rw [List.length_drop, List.length_drop]; omega) hd1 hd hn1 hn4 (by omega) (tab_at hT hu hT3) (Nat.lt_of_lt_of_le hT3 hu.size))
  have HEX : Hid (∀ j, (bs T).extract (at0 + offX (T.drop at0) j) T.length = bs (atX (T.drop at0) j)) := fun j => by
    rw [bs_cut', List.take_of_length_le (by rw [List.length_drop]; exact Nat.le_refl _)]
    unfold atX
    rw [List.drop_drop]
  have HXL : Hid ((T.drop at0).length = T.length - at0) := List.length_drop
  have HCF := Hid.mk' (fun u => rconfig_any n d B c3 c4 S u)
  generalize T.drop at0 = X at *
  generalize bs T = SB at *
  clear hT hT3
  go_enter Tryz.func94, Tryz.ntmps94
  go_wp2_with (first
    | (go_at_call 96; refine (HBL.out _).mono ?_; rintro e u1 ⟨rfl, hb⟩; have HR1 := Hid.mk' (HRS.out.next hb); clear HBL hb HRS))
  clear hmk
  go_loopw [2, 3, 12, 14, 15, 16, 17, 18] (fun kv av lv _ _ _ _ _ wr => ∃ (j q a : Nat) (vs : Nat → Value) (la : Option Addr) (lc : Nat), Hid (q = k0 + j ∧ a = at0 + offX X j) ∧ q ≤ nBlk S B ∧ kv = .int .i64 q ∧ av = .int .i64 a ∧ lv = .slice la j lc ∧ Hid ((∀ j', j' < j → okF n d B S (k0 + j') (atX X j')) ∧ RfI w wr n #[.int .i64 n, .int .i64 d, .int .i64 B, .int .i64 c3, .int .i64 c4, .int .i64 S] vs (fun c => chL n d B S k0 X c j) (.slice la j lc) (lnL (lnX X) j))) (fun kv _ _ _ _ _ _ _ _ => nBlk S B - (intOf kv).toNat)
  case atStart => exact ⟨0, k0, at0, fun _ => .slice none 0 0, none, 0, ⟨by omega, rfl⟩, hk, rfl, rfl, rfl, fun j' h => absurd h (Nat.not_lt_zero _), HR1.out⟩
  case round =>
    clear HR1
    obtain ⟨j, q, a, vs, la, lc, HQA, hqn, rfl, rfl, rfl, HR⟩ := hrel
    have hoff := offX_le HR.out.1 j (Nat.le_refl _)
    have hnb := HNB.out
    have hq3 : q ≤ 300 := by omega
    have haT : a ≤ T.length := by have := HQA.out.2; have := HXL.out; omega
    by_cases hlt : q < nBlk S B
    · have hqB := (nBlk_lt hB).1 hlt
      obtain ⟨qb, hqb⟩ : ∃ x, x = q * B := ⟨_, rfl⟩
      obtain ⟨r, hr⟩ : ∃ x, x = S - q * B := ⟨_, rfl⟩
      have w1 : IntKind.i64.wrap ((q : Int) * (B : Int)) = (qb : Int) := by rw [IntKind.wrap_i64, show (q : Int) * (B : Int) = ((q * B : Nat) : Int) by rw [Int.natCast_mul]]; omega
      have w2 : IntKind.i64.wrap ((S : Int) - (qb : Int)) = (r : Int) := by rw [IntKind.wrap_i64]; omega
      have HBN : Hid (blkN S B q = min B r) := by show _ = _; unfold blkN; rw [hr]
      have hr1 : 1 ≤ r := by omega
      have hr3 : r ≤ 300 := by omega
      have eS : SB.extract a T.length = bs (atX X j) := by rw [HQA.out.2]; exact HEX.out j
      have HU1 := Hid.mk' (fun u hu => HUF.out u hu q j)
      have hS0 : w.heap.size < wr.drew.heap.size ∧ wr.drew.cell? ⟨w.heap.size, 0, none⟩ = some (.int .i64 n) ∧ wr.drew.cell? ⟨w.heap.size, 1, none⟩ = some (.int .i64 d) ∧ wr.drew.cell? ⟨w.heap.size, 2, none⟩ = some (.int .i64 B) ∧ wr.drew.cell? ⟨w.heap.size, 3, none⟩ = some (.int .i64 c3) ∧ wr.drew.cell? ⟨w.heap.size, 4, none⟩ = some (.int .i64 c4) ∧ wr.drew.cell? ⟨w.heap.size, 5, none⟩ = some (.int .i64 S) := ⟨HR.out.2.inf.lt, HR.out.2.inf.cell 0, HR.out.2.inf.cell 1, HR.out.2.inf.cell 2, HR.out.2.inf.cell 3, HR.out.2.inf.cell 4, HR.out.2.inf.cell 5⟩
      have i1 : (a : Int) ≤ (T.length : Int) := by omega
      clear hqb hr hqB
      by_cases hI : ∃ H, FrmP (atX X j) n d B q H
      · obtain ⟨H, hI⟩ := hI
        have HI := Hid.mk' hI
        have hH := smpF_eq hI
        have HH := Hid.mk' hH
        have hln := hI.2.2.1.1
        have HLJ : Hid (hLen (atX X j) = lnX X j) := rfl
        have HIU := Hid.mk' (fun H' (h : FrmP (atX X j) n d B q H') => frmP_uniq h HI.out)
        obtain ⟨nn, hnn⟩ : ∃ nn, nn = hCnt (atX X j) + 1 := ⟨_, rfl⟩
        have HNN := Hid.mk' hnn
        obtain ⟨L, hL⟩ : ∃ L, L = hLen (atX X j) := ⟨_, rfl⟩
        have HL := Hid.mk' hL
        have hL10 : 10 ≤ L := by omega
        have hL9 : L ≤ 9000 := by
          have e1 : (atX X j).length = X.length - offX X j := List.length_drop
          have := HXL.out
          omega
        have hL0 : ¬ (L : Int) = 0 := by omega
        have hL0' : ((L : Int) == 0) = false := by simp; omega
        clear hI hH hln hnn hL
        generalize bs (atX X j) = SJ at *
        go_wp2_with fail
        go_region_held3 (fun w' => w.heap.size < w'.heap.size ∧ w'.cell? ⟨w.heap.size, 0, none⟩ = some (.int .i64 n) ∧ w'.cell? ⟨w.heap.size, 1, none⟩ = some (.int .i64 d) ∧ w'.cell? ⟨w.heap.size, 2, none⟩ = some (.int .i64 B) ∧ w'.cell? ⟨w.heap.size, 3, none⟩ = some (.int .i64 c3) ∧ w'.cell? ⟨w.heap.size, 4, none⟩ = some (.int .i64 c4) ∧ w'.cell? ⟨w.heap.size, 5, none⟩ = some (.int .i64 S)) (first | with_reducible exact hS0 | with_reducible exact hS1 | with_reducible exact hS2)
          (first
          | (go_at_call 138; refine (HCF.out _).mono ?_; rintro e u1 ⟨rfl, hb⟩; have hS1 : w.heap.size < u1.heap.size ∧ u1.cell? ⟨w.heap.size, 0, none⟩ = some (.int .i64 n) ∧ u1.cell? ⟨w.heap.size, 1, none⟩ = some (.int .i64 d) ∧ u1.cell? ⟨w.heap.size, 2, none⟩ = some (.int .i64 B) ∧ u1.cell? ⟨w.heap.size, 3, none⟩ = some (.int .i64 c3) ∧ u1.cell? ⟨w.heap.size, 4, none⟩ = some (.int .i64 c4) ∧ u1.cell? ⟨w.heap.size, 5, none⟩ = some (.int .i64 S) := ki_below hb hS0; have HR1 := Hid.mk' (HR.out.2.next (show Below wr.heap.size wr u1 from ⟨hb.os, hb.tape, hb.output, hb.size, hb.block⟩)); clear hb hS0)
          | (go_at_call 79; refine (HU1.out _ HR1.out.below).mono ?_; intro e u2 hfo; obtain ⟨H', g, c, rfl, hI', hro, hb⟩ := hfo.yes2 HI.out; have eH := HIU.out H' hI'; subst eH; rw [← HNN.out] at hro; rw [← HL.out]; have hS2 : w.heap.size < u2.heap.size ∧ u2.cell? ⟨w.heap.size, 0, none⟩ = some (.int .i64 n) ∧ u2.cell? ⟨w.heap.size, 1, none⟩ = some (.int .i64 d) ∧ u2.cell? ⟨w.heap.size, 2, none⟩ = some (.int .i64 B) ∧ u2.cell? ⟨w.heap.size, 3, none⟩ = some (.int .i64 c3) ∧ u2.cell? ⟨w.heap.size, 4, none⟩ = some (.int .i64 c4) ∧ u2.cell? ⟨w.heap.size, 5, none⟩ = some (.int .i64 S) := ki_below hb hS1; obtain ⟨gs, hbk⟩ := HR1.out.blk hro; have HR2 := Hid.mk' (HR1.out.next hb); have HBK2 := Hid.mk' hbk; clear hb hfo hS1 hro hbk hI' HIU HU1 HR1))
        have i5 := HR2.out.inf.cell 5
        have i2 := HR2.out.inf.cell 2
        have hn0 : (0 : Int) < (n : Int) := by omega
        have hn0' : 0 < n := by omega
        have k0' := HBK2.out.cell 0 hn0'
        have HOKS := Hid.mk' HR.out.1
        clear hS2 HR
        by_cases hcn : nn = blkN S B q
        · have HOK : Hid (okF n d B S (k0 + j) (atX X j)) := by show okF _ _ _ _ _ _; rw [← HQA.out.1]; exact ⟨⟨H', HI.out⟩, by rw [← HNN.out]; exact hcn⟩
          have HCN := Hid.mk' hcn
          have HCHN : Hid (chN B S k0 j + nn ≤ 99999) := by
            have h1 := chN_le (B := B) (S := S) (k0 := k0) (m := j) hB (by have := HQA.out.1; omega)
            have h2 := blkN_bd (S := S) hB hlt
            show _ ≤ _
            omega
          rw [HBN.out] at hcn
          by_cases hrB : r ≤ B
          · have e : nn = r := by omega
            clear hcn
            subst e
            have dB : decide ((B : Int) < (nn : Int)) = false := decide_eq_false (by omega)
            have dB2 : decide (B < nn) = false := decide_eq_false (by omega)
            have dB3 : ¬ B < nn := by omega
            go_wp2_with fail
            clear i5 i2 k0' eS
            go_loopw [17, 18] (fun cv _ wx => ∃ (c' : Nat) (vs' : Nat → Value), c' ≤ n ∧ cv = .int .i64 c' ∧ Hid (RfI w wx n #[.int .i64 n, .int .i64 d, .int .i64 B, .int .i64 c3, .int .i64 c4, .int .i64 S] vs' (lsR n d B S k0 X j c' 0) (.slice la j lc) (lnL (lnX X) j) ∧ BkR w wx n nn g gs H' vs')) (fun cv _ _ => n - (intOf cv).toNat)
            case atStart => exact ⟨0, vs, Nat.zero_le _, rfl, by rw [lsR_zero]; exact HR2.out, HBK2.out⟩
            case round =>
              clear HR2 HBK2
              obtain ⟨c', vs1, hc', rfl, HX⟩ := hrel
              have i0 := HX.out.1.inf.cell 0
              by_cases hcl : c' < n
              · go_wp2_with fail
                go_loopw [18] (fun jv wx => ∃ (p : Nat) (vs' : Nat → Value), p ≤ nn ∧ jv = .int .i64 p ∧ Hid (RfI w wx n #[.int .i64 n, .int .i64 d, .int .i64 B, .int .i64 c3, .int .i64 c4, .int .i64 S] vs' (lsR n d B S k0 X j c' p) (.slice la j lc) (lnL (lnX X) j) ∧ BkR w wx n nn g gs H' vs')) (fun jv _ => nn - (intOf jv).toNat)
                case atStart => exact ⟨0, vs1, Nat.zero_le _, rfl, HX.out⟩
                case round =>
                  clear HX i0
                  obtain ⟨p, vs2, hp, rfl, HY⟩ := hrel
                  by_cases hpl : p < nn
                  · have hxs := HY.out.2.sample hcl hpl
                    have hlen : (lsR n d B S k0 X j c' p c').length + 1 ≤ 100000 := by
                      rw [lsR_self, List.length_append, chL_length, List.length_map, List.length_range]
                      have := HCHN.out
                      omega
                    obtain ⟨gq, cq, u3, hrun, e1, e2, hgr, hR3, hB3⟩ := HY.out.1.drew.app HY.out.2.drew c' hcl (H' c' p) hlen 29
                    rw [lsR_step n d B S k0 X j c' p (H' c' p) (by rw [← HQA.out.1, HH.out])] at hR3
                    have HX3 := Hid.mk' (And.intro hR3 hB3)
                    generalize (lsR n d B S k0 X j c' p c').length = ll at *
                    generalize H' c' p = xv at *
                    have HAP : Hid ((Builtin.append_ #[29, 29] 29 #[vs2 c', .slice (some ⟨wr.heap.size, 0, none⟩) 1 1]).run Tryz.prog (wr.alloc (.cells #[.int .i64 xv] 3)).drew = .ok (.slice (some ⟨gq, 0, none⟩) (ll + 1) cq) u3) := hrun
                    have s0 : wr.cell? ⟨w.heap.size + 1, c', none⟩ = some (vs2 c') := HY.out.1.row.cell hcl
                    have s1 : wr.cell? ⟨g, c', none⟩ = some (.slice (some ⟨gs c', 0, none⟩) nn nn) := HY.out.2.cell c' hcl
                    have s2 : wr.cell? ⟨gs c', p, none⟩ = some (.int .i64 xv) := hxs
                    have s3 : (wr.alloc (.cells #[.int .i64 xv] 3)).cell? ⟨w.heap.size + 1, c', none⟩ = some (vs2 c') := (World.grownBy_alloc wr _ none).cell (HY.out.1.row.cell hcl) (by simp)
                    clear hrun hR3 hB3 hgr hxs hlen
                    have j0 : (0 : Int) ≤ (c' : Int) := by omega
                    have j1 : (c' : Int) < (n : Int) := by omega
                    have j2 : (0 : Int) ≤ (p : Int) := by omega
                    have j3 : (p : Int) < (nn : Int) := by omega
                    go_wp2_with fail
                    go_region_law (first | (refine step_append_run rfl _ _ _ rfl _ _ _ rfl rfl HAP.out ?_))
                    all_goals
                      (go_wp2_with fail
                       go_roundw
                       case rel => exact ⟨p + 1, _, by omega, by go_num, HX3.out.1, HX3.out.2⟩
                       case measure => simp [intOf]; omega)
                  · have e : nn = p := by omega
                    subst e
                    have HY2 : Hid (RfI w wr n #[.int .i64 n, .int .i64 d, .int .i64 B, .int .i64 c3, .int .i64 c4, .int .i64 S] vs2 (lsR n d B S k0 X j (c' + 1) 0) (.slice la j lc) (lnL (lnX X) j) ∧ BkR w wr n nn g gs H' vs2) := by
                      have h1 := HY.out
                      rw [lsR_next n d B S k0 X j c' nn (by rw [← HQA.out.1]; exact HCN.out)] at h1
                      exact h1
                    clear HY
                    go_wp2_with fail
                    exact ⟨⟨c' + 1, vs2, by omega, by go_num, HY2.out.1, HY2.out.2⟩, by simp [intOf]; omega⟩
              · have e : c' = n := by omega
                subst e
                obtain ⟨gq, cq, u3, hrun, hR3⟩ := HX.out.1.len L (by rw [lnL_length]; have := HQA.out.1; omega) 29
                rw [lnL_length] at hrun hR3
                have HLN := Hid.mk' hrun
                have HX3 := Hid.mk' hR3
                clear hrun hR3
                obtain ⟨aL, haL⟩ : ∃ x, x = a + L := ⟨_, rfl⟩
                have w5 : IntKind.i64.wrap ((a : Int) + (L : Int)) = (aL : Int) := by rw [IntKind.wrap_i64]; omega
                have HAL := Hid.mk' haL
                clear haL
                go_wp2_with (first
                  | (at_builtin; refine wpList_append_rn rfl _ _ _ rfl _ _ _ rfl rfl HLN.out ?_; clear HLN))
                refine ⟨⟨j + 1, q + 1, aL, vs1, some ⟨gq, 0, none⟩, cq, ⟨by rw [HQA.out.1]; omega, ?_⟩, by omega, by go_num, rfl, rfl, fun j' hj' => ?_, ?_⟩, by simp [intOf]; omega⟩
                · show aL = at0 + (offX X j + lnX X j)
                  rw [HAL.out, HQA.out.2, ← HLJ.out, HL.out]
                  omega
                · by_cases e : j' = j
                  · rw [e]; exact HOK.out
                  · exact HOKS.out j' (by omega)
                · rw [lnL_snoc, ← HLJ.out, ← HL.out]
                  exact RfI.congr HX3.out fun c hc => lsR_full hc
          · have e : B = nn := by omega
            clear hcn
            subst e
            have dB : (B : Int) < (r : Int) := by omega
            have dB2 : B < r := by omega
            go_wp2_with fail
            clear i5 i2 k0' eS
            go_loopw [17, 18] (fun cv _ wx => ∃ (c' : Nat) (vs' : Nat → Value), c' ≤ n ∧ cv = .int .i64 c' ∧ Hid (RfI w wx n #[.int .i64 n, .int .i64 d, .int .i64 B, .int .i64 c3, .int .i64 c4, .int .i64 S] vs' (lsR n d B S k0 X j c' 0) (.slice la j lc) (lnL (lnX X) j) ∧ BkR w wx n B g gs H' vs')) (fun cv _ _ => n - (intOf cv).toNat)
            case atStart => exact ⟨0, vs, Nat.zero_le _, rfl, by rw [lsR_zero]; exact HR2.out, HBK2.out⟩
            case round =>
              clear HR2 HBK2
              obtain ⟨c', vs1, hc', rfl, HX⟩ := hrel
              have i0 := HX.out.1.inf.cell 0
              by_cases hcl : c' < n
              · go_wp2_with fail
                go_loopw [18] (fun jv wx => ∃ (p : Nat) (vs' : Nat → Value), p ≤ B ∧ jv = .int .i64 p ∧ Hid (RfI w wx n #[.int .i64 n, .int .i64 d, .int .i64 B, .int .i64 c3, .int .i64 c4, .int .i64 S] vs' (lsR n d B S k0 X j c' p) (.slice la j lc) (lnL (lnX X) j) ∧ BkR w wx n B g gs H' vs')) (fun jv _ => B - (intOf jv).toNat)
                case atStart => exact ⟨0, vs1, Nat.zero_le _, rfl, HX.out⟩
                case round =>
                  clear HX i0
                  obtain ⟨p, vs2, hp, rfl, HY⟩ := hrel
                  by_cases hpl : p < B
                  · have hxs := HY.out.2.sample hcl hpl
                    have hlen : (lsR n d B S k0 X j c' p c').length + 1 ≤ 100000 := by
                      rw [lsR_self, List.length_append, chL_length, List.length_map, List.length_range]
                      have := HCHN.out
                      omega
                    obtain ⟨gq, cq, u3, hrun, e1, e2, hgr, hR3, hB3⟩ := HY.out.1.drew.app HY.out.2.drew c' hcl (H' c' p) hlen 29
                    rw [lsR_step n d B S k0 X j c' p (H' c' p) (by rw [← HQA.out.1, HH.out])] at hR3
                    have HX3 := Hid.mk' (And.intro hR3 hB3)
                    generalize (lsR n d B S k0 X j c' p c').length = ll at *
                    generalize H' c' p = xv at *
                    have HAP : Hid ((Builtin.append_ #[29, 29] 29 #[vs2 c', .slice (some ⟨wr.heap.size, 0, none⟩) 1 1]).run Tryz.prog (wr.alloc (.cells #[.int .i64 xv] 3)).drew = .ok (.slice (some ⟨gq, 0, none⟩) (ll + 1) cq) u3) := hrun
                    have s0 : wr.cell? ⟨w.heap.size + 1, c', none⟩ = some (vs2 c') := HY.out.1.row.cell hcl
                    have s1 : wr.cell? ⟨g, c', none⟩ = some (.slice (some ⟨gs c', 0, none⟩) B B) := HY.out.2.cell c' hcl
                    have s2 : wr.cell? ⟨gs c', p, none⟩ = some (.int .i64 xv) := hxs
                    have s3 : (wr.alloc (.cells #[.int .i64 xv] 3)).cell? ⟨w.heap.size + 1, c', none⟩ = some (vs2 c') := (World.grownBy_alloc wr _ none).cell (HY.out.1.row.cell hcl) (by simp)
                    clear hrun hR3 hB3 hgr hxs hlen
                    have j0 : (0 : Int) ≤ (c' : Int) := by omega
                    have j1 : (c' : Int) < (n : Int) := by omega
                    have j2 : (0 : Int) ≤ (p : Int) := by omega
                    have j3 : (p : Int) < (B : Int) := by omega
                    go_wp2_with fail
                    go_region_law (first | (refine step_append_run rfl _ _ _ rfl _ _ _ rfl rfl HAP.out ?_))
                    all_goals
                      (go_wp2_with fail
                       go_roundw
                       case rel => exact ⟨p + 1, _, by omega, by go_num, HX3.out.1, HX3.out.2⟩
                       case measure => simp [intOf]; omega)
                  · have e : B = p := by omega
                    subst e
                    have HY2 : Hid (RfI w wr n #[.int .i64 n, .int .i64 d, .int .i64 B, .int .i64 c3, .int .i64 c4, .int .i64 S] vs2 (lsR n d B S k0 X j (c' + 1) 0) (.slice la j lc) (lnL (lnX X) j) ∧ BkR w wr n B g gs H' vs2) := by
                      have h1 := HY.out
                      rw [lsR_next n d B S k0 X j c' B (by rw [← HQA.out.1]; exact HCN.out)] at h1
                      exact h1
                    clear HY
                    go_wp2_with fail
                    exact ⟨⟨c' + 1, vs2, by omega, by go_num, HY2.out.1, HY2.out.2⟩, by simp [intOf]; omega⟩
              · have e : c' = n := by omega
                subst e
                obtain ⟨gq, cq, u3, hrun, hR3⟩ := HX.out.1.len L (by rw [lnL_length]; have := HQA.out.1; omega) 29
                rw [lnL_length] at hrun hR3
                have HLN := Hid.mk' hrun
                have HX3 := Hid.mk' hR3
                clear hrun hR3
                obtain ⟨aL, haL⟩ : ∃ x, x = a + L := ⟨_, rfl⟩
                have w5 : IntKind.i64.wrap ((a : Int) + (L : Int)) = (aL : Int) := by rw [IntKind.wrap_i64]; omega
                have HAL := Hid.mk' haL
                clear haL
                go_wp2_with (first
                  | (at_builtin; refine wpList_append_rn rfl _ _ _ rfl _ _ _ rfl rfl HLN.out ?_; clear HLN))
                refine ⟨⟨j + 1, q + 1, aL, vs1, some ⟨gq, 0, none⟩, cq, ⟨by rw [HQA.out.1]; omega, ?_⟩, by omega, by go_num, rfl, rfl, fun j' hj' => ?_, ?_⟩, by simp [intOf]; omega⟩
                · show aL = at0 + (offX X j + lnX X j)
                  rw [HAL.out, HQA.out.2, ← HLJ.out, HL.out]
                  omega
                · by_cases e : j' = j
                  · rw [e]; exact HOK.out
                  · exact HOKS.out j' (by omega)
                · rw [lnL_snoc, ← HLJ.out, ← HL.out]
                  exact RfI.congr HX3.out fun c hc => lsR_full hc
        · have HNO : Hid (¬ okF n d B S (k0 + j) (atX X j)) := fun h => hcn (by rw [HQA.out.1, ← h.2, HNN.out])
          have HRUN : Hid (RunIs n d B S k0 X j) := ⟨.inl (by have := HQA.out.1; omega), HOKS.out, fun _ => HNO.out⟩
          have HDN := Hid.mk' (HR2.out.done (at0 := at0) HRUN.out)
          rw [HBN.out] at hcn
          by_cases hrB : r ≤ B
          · have dB : decide ((B : Int) < (r : Int)) = false := decide_eq_false (by omega)
            have m1 : ¬ ((nn : Nat) : Int) = ((r : Nat) : Int) := by omega
            have m2 : ((nn : Int) == (r : Int)) = false := beq_eq_false_iff_ne.2 m1
            clear hcn
            go_wp2_with fail
            go_ret3
            exact HDN.out a HQA.out.2
          · have dB : (B : Int) < (r : Int) := by omega
            have m1 : ¬ ((nn : Nat) : Int) = ((B : Nat) : Int) := by omega
            have m2 : ((nn : Int) == (B : Int)) = false := beq_eq_false_iff_ne.2 m1
            clear hcn
            go_wp2_with fail
            go_ret3
            exact HDN.out a HQA.out.2
      · have HI : Hid (∀ H, ¬ FrmP (atX X j) n d B q H) := fun H h => hI ⟨H, h⟩
        have HNO : Hid (¬ okF n d B S (k0 + j) (atX X j)) := fun h => by
          obtain ⟨H, hH⟩ := h.1
          rw [← HQA.out.1] at hH
          exact HI.out H hH
        have HRUN : Hid (RunIs n d B S k0 X j) := ⟨.inl (by have := HQA.out.1; omega), HR.out.1, fun _ => HNO.out⟩
        clear hI
        generalize bs (atX X j) = SJ at *
        go_wp2_with fail
        go_region_held3 (fun w' => w.heap.size < w'.heap.size ∧ w'.cell? ⟨w.heap.size, 0, none⟩ = some (.int .i64 n) ∧ w'.cell? ⟨w.heap.size, 1, none⟩ = some (.int .i64 d) ∧ w'.cell? ⟨w.heap.size, 2, none⟩ = some (.int .i64 B) ∧ w'.cell? ⟨w.heap.size, 3, none⟩ = some (.int .i64 c3) ∧ w'.cell? ⟨w.heap.size, 4, none⟩ = some (.int .i64 c4) ∧ w'.cell? ⟨w.heap.size, 5, none⟩ = some (.int .i64 S)) (first | with_reducible exact hS0 | with_reducible exact hS1 | with_reducible exact hS2)
          (first
          | (go_at_call 138; refine (HCF.out _).mono ?_; rintro e u1 ⟨rfl, hb⟩; have hS1 : w.heap.size < u1.heap.size ∧ u1.cell? ⟨w.heap.size, 0, none⟩ = some (.int .i64 n) ∧ u1.cell? ⟨w.heap.size, 1, none⟩ = some (.int .i64 d) ∧ u1.cell? ⟨w.heap.size, 2, none⟩ = some (.int .i64 B) ∧ u1.cell? ⟨w.heap.size, 3, none⟩ = some (.int .i64 c3) ∧ u1.cell? ⟨w.heap.size, 4, none⟩ = some (.int .i64 c4) ∧ u1.cell? ⟨w.heap.size, 5, none⟩ = some (.int .i64 S) := ki_below hb hS0; have HR1 := Hid.mk' (HR.out.2.next (show Below wr.heap.size wr u1 from ⟨hb.os, hb.tape, hb.output, hb.size, hb.block⟩)); clear hb hS0)
          | (go_at_call 79; refine (HU1.out _ HR1.out.below).mono ?_; intro e u2 hfo; obtain ⟨rfl, hb⟩ := hfo.none2 HI.out; have hS2 : w.heap.size < u2.heap.size ∧ u2.cell? ⟨w.heap.size, 0, none⟩ = some (.int .i64 n) ∧ u2.cell? ⟨w.heap.size, 1, none⟩ = some (.int .i64 d) ∧ u2.cell? ⟨w.heap.size, 2, none⟩ = some (.int .i64 B) ∧ u2.cell? ⟨w.heap.size, 3, none⟩ = some (.int .i64 c3) ∧ u2.cell? ⟨w.heap.size, 4, none⟩ = some (.int .i64 c4) ∧ u2.cell? ⟨w.heap.size, 5, none⟩ = some (.int .i64 S) := ki_below hb hS1; have HR2 := Hid.mk' (HR1.out.next hb); clear hb hfo hS1 HU1 HR1))
        have i5 := HR2.out.inf.cell 5
        have i2 := HR2.out.inf.cell 2
        have HDN := Hid.mk' (HR2.out.done (at0 := at0) HRUN.out)
        clear hS2 HR
        by_cases hrB : r ≤ B
        · have dB : decide ((B : Int) < (r : Int)) = false := decide_eq_false (by omega)
          go_wp2_with fail
          go_ret3
          exact HDN.out a HQA.out.2
        · have dB : (B : Int) < (r : Int) := by omega
          go_wp2_with fail
          go_ret3
          exact HDN.out a HQA.out.2
    · have HRUN : Hid (RunIs n d B S k0 X j) := ⟨.inl (by have := HQA.out.1; omega), HR.out.1, fun h => by have := HQA.out.1; omega⟩
      have HDN := Hid.mk' (HR.out.2.done (at0 := at0) HRUN.out)
      have hlt' : decide ((q : Int) < (nBlk S B : Int)) = false := decide_eq_false (by omega)
      go_wp2_with fail
      go_ret3
      exact HDN.out a HQA.out.2
end Go.Proofs.YtlncjgnomhpjnaaGreatDoor

