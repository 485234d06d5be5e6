import Derived.Test.YtlncjgnomhpjnabGreatDoorQU44
import Derived.Test.YtlncjgnomhpjnabGreatDoorQU37
import Derived.Deep.RegionLaw
/-
  Lists that were read, wherever they lie; what Decode answers.
-/
namespace Go.Proofs.YtlncjgnomhpjnabGreatDoor
open Go.RowKit Go.Deep
set_option linter.unusedVariables false
/-- lists of a row of lists -/
def RowsL (base : Nat) (u : World) (v : Value) (n nn : Nat) (H : Nat → Nat → Int) : Prop :=
  ∃ (g : Nat) (vs : Nat → Value) (ogs : Nat → Option Nat), v = .slice (some ⟨g, 0, none⟩) n n ∧ base ≤ g ∧ u.rowIs g 30 n vs ∧
    (∀ c, c < n → LstE 3 u (vs c) nn (ogs c) (fun j => .int .i64 (H c j)) ∧ ∀ q, ogs c = some q → base ≤ q) ∧
    ∀ c c', c < n → c' < n → c ≠ c' → ∀ q, ogs c = some q → ogs c' ≠ some q
theorem lst_of_own {w : World} {base n : Nat} {v : Value} {l : List Int} {H : Nat → Int} (h : w.ownsRow base 3 1 v n (intL l)) (hH : ∀ j, j < n → l.getD j 0 = H j) : LstE 3 w v n v.ownBlock (fun j => .int .i64 (H j)) ∧ ∀ q, v.ownBlock = some q → base ≤ q := by
  refine ⟨?_, fun q hq => (h.lt q hq).1⟩
  have hlen := h.1
  rw [intL_length] at hlen
  rcases h.2 with ⟨rfl, rfl⟩ | ⟨g, cap, cur, rfl, hb, hcur, h1, h2, h3, h4⟩
  · exact .inl ⟨rfl, rfl, rfl⟩
  · refine .inr ⟨g, 0, cap, cap, fun i => cur.getD i undef, rfl, rfl, ⟨cur, hcur, by omega, fun j hj => ?_⟩, by omega, h1, fun i hi => ?_⟩
    · have hjc : j < cur.size := by omega
      show cur[j]? = some (cur.getD j undef)
      rw [Array.getD_eq_getD_getElem?, Array.getElem?_eq_getElem hjc]; rfl
    · have hi2 : i < l.length := by omega
      have e : (intL l)[i]? = some (.int .i64 (H i)) := by
        rw [← hH i hi]
        unfold intL
        rw [List.getElem?_map, List.getElem?_eq_getElem hi2, List.getD_eq_getElem?_getD, List.getElem?_eq_getElem hi2]; rfl
      rw [← h4, List.getElem?_take, if_pos (by omega), Array.getElem?_toList] at e
      show cur.getD (0 + i) undef = _
      rw [Nat.zero_add, Array.getD_eq_getD_getElem?, e]; rfl
theorem LstE.ints {w : World} {v : Value} {n : Nat} {og : Option Nat} {H : Nat → Int} (h : LstE 3 w v n og (fun j => .int .i64 (H j))) : ∃ a c, v = .slice a n c ∧ IntsAt w a n H ∧ ∀ x, a = some x → x.block < w.heap.size := by
  rcases h with ⟨rfl, rfl, -⟩ | ⟨g, o, c, N, f, -, rfl, hr, h1, h2, h3⟩
  · exact ⟨none, 0, rfl, fun i hi => absurd hi (Nat.not_lt_zero i), fun x hx => by cases hx⟩
  · refine ⟨_, c, rfl, fun i hi => ⟨_, rfl, ?_⟩, fun x hx => by cases hx; exact hr.lt⟩
    have := hr.cell (i := o + i) (by omega)
    rw [h3 i hi] at this
    rw [Addr.add_lit]
    exact this
theorem RowsL.mono {base base' : Nat} {u : World} {v : Value} {n nn : Nat} {H : Nat → Nat → Int} (h : RowsL base u v n nn H) (hb : base' ≤ base) : RowsL base' u v n nn H := by
  obtain ⟨g, vs, ogs, h1, h2, h3, h4, h5⟩ := h
  exact ⟨g, vs, ogs, h1, Nat.le_trans hb h2, h3, fun c hc => ⟨(h4 c hc).1, fun q hq => Nat.le_trans hb ((h4 c hc).2 q hq)⟩, h5⟩
theorem RowsL.below {base : Nat} {u u' : World} {v : Value} {n nn : Nat} {H : Nat → Nat → Int} (h : RowsL base u v n nn H) (hb : Below u.heap.size u u') : RowsL base u' v n nn H := by
  obtain ⟨g, vs, ogs, h1, h2, h3, h4, h5⟩ := h
  exact ⟨g, vs, ogs, h1, h2, rowIs_of h3 (hb.block _ h3.lt), fun c hc => ⟨(h4 c hc).1.keep fun q hq => hb.block _ ((h4 c hc).1.lt hq), (h4 c hc).2⟩, h5⟩
/-- rows, as functions that take lists want them -/
theorem RowsL.open {base : Nat} {u : World} {v : Value} {n nn : Nat} {H : Nat → Nat → Int} (h : RowsL base u v n nn H) : ∃ g A C, v = .slice (some ⟨g, 0, none⟩) n n ∧ g < u.heap.size ∧ ListsAt u (some ⟨g, 0, none⟩) n A (fun _ => nn) C ∧ (∀ i, i < n → IntsAt u (A i) nn (H i)) ∧ Low u.heap.size (some ⟨g, 0, none⟩) n A (fun _ => nn) := by
  obtain ⟨g, vs, ogs, h1, h2, h3, h4, h5⟩ := h
  have hex : ∀ c, ∃ p : Option Addr × Nat, c < n → vs c = .slice p.1 nn p.2 ∧ IntsAt u p.1 nn (H c) ∧ ∀ x, p.1 = some x → x.block < u.heap.size := fun c => by
    by_cases hc : c < n
    · obtain ⟨a, q, e1, e2, e3⟩ := (h4 c hc).1.ints
      exact ⟨(a, q), fun _ => ⟨e1, e2, e3⟩⟩
    · exact ⟨(none, 0), fun h => absurd h hc⟩
  refine ⟨g, fun c => (hex c).choose.1, fun c => (hex c).choose.2, h1, h3.lt, fun i hi => ⟨_, rfl, ?_⟩, fun i hi => ((hex i).choose_spec hi).2.1, fun x hx _ => by cases hx; exact h3.lt, fun i hi x hx _ => ((hex i).choose_spec hi).2.2 x hx⟩
  have := h3.cell hi
  rw [Addr.add_lit, Nat.zero_add, this, ((hex i).choose_spec hi).1]
/-- the samples of frames that were read -/
noncomputable def smpL (n d B S k0 : Nat) (X : List UInt8) (m c j : Nat) : Int := (chL n d B S k0 X c m).getD j 0
theorem FrsOut.rows {e : Ending} {w w' : World} {n d B S k0 : Nat} {X : List UInt8} (h : FrsOut e w w' n d B S k0 X) : ∃ (m : Nat) (v lv : Value), RunIs n d B S k0 X m ∧ e = .returned (.agg #[v, lv, .bool (decide (k0 + m = nBlk S B ∧ offX X m = X.length))]) ∧ RowsL w.heap.size w' v n (chN B S k0 m) (smpL n d B S k0 X m) ∧
    w'.ownsRow w.heap.size 3 1 lv m (lnL (lnX X) m) ∧ Below w.heap.size w w' := by
  obtain ⟨m, g, vs, lv, hr, rfl, hg, hrow, hown, hap, hl, hb⟩ := h
  refine ⟨m, _, lv, hr, rfl, ⟨g, vs, fun c => (vs c).ownBlock, rfl, hg, hrow, fun c hc => lst_of_own (hown c hc) (fun j _ => rfl), fun c c' hc hc' hne q h1 h2 => ?_⟩, hl, hb⟩
  rcases hap c c' hc hc' hne with h3 | h3
  · have h1' : (vs c).ownBlock = some q := h1
    rw [h3] at h1'; cases h1'
  · exact h3 (h1.trans h2.symm)
/-- a head says what its frames are -/
def SaysP (T X : List UInt8) (m : Nat) : Prop := dLe T = leastN (lnX X) m ∧ dMo T = mostN (lnX X) m ∧ dPts T = pntN (lnX X) (dSe T) m
/-- a text is a head, and the frames that it speaks of -/
def AllP (T : List UInt8) : Prop := ∃ m, RunIs (dCh T) (dDe T) (dBl T) (dSa T) 0 (T.drop (dSz T)) m ∧ m = nBlk (dSa T) (dBl T) ∧ offX (T.drop (dSz T)) m = (T.drop (dSz T)).length ∧ SaysP T (T.drop (dSz T)) m
noncomputable def dSmp (T : List UInt8) : Nat → Nat → Int := smpL (dCh T) (dDe T) (dBl T) (dSa T) 0 (T.drop (dSz T)) (nBlk (dSa T) (dBl T))
def SumP (T : List UInt8) : Prop := dSu T = sumN (intT (dCh T) (dSmp T) (2 * (dSa T * dCh T)))
open Classical in
noncomputable def decE (T : List UInt8) : Int :=
  if T.length ≤ 9000 then (if HdP T ∧ dWh T = 1 then (if AllP T then (if SumP T then 0 else 8) else 6) else 7) else 4
def info0 : Value := .agg #[.int .i64 0, .int .i64 0, .int .i64 0, .int .i64 0, .int .i64 0, .int .i64 0]
def dInfo (T : List UInt8) : Value := .agg #[.int .i64 (dCh T), .int .i64 (dDe T), .int .i64 (dBl T), .int .i64 (dRa T), .int .i64 (dSe T), .int .i64 (dSa T)]
/-- what Decode answers -/
def DecAns (e : Ending) (w w' : World) (T : List UInt8) : Prop :=
  ((decE T = 0 ∧ ∃ v, e = .returned (.tuple #[dInfo T, v, .int .i64 0]) ∧ RowsL w.heap.size w' v (dCh T) (dSa T) (dSmp T))
   ∨ (decE T ≠ 0 ∧ e = .returned (.tuple #[info0, .slice none 0 0, .int .i64 (decE T)]))) ∧ Below w.heap.size w w'
end Go.Proofs.YtlncjgnomhpjnabGreatDoor

/-
  The program reads frames: stream.readFrames.
-/
namespace Go.Proofs.YtlncjgnomhpjnabGreatDoor
open Go.RowKit Go.Deep
set_option linter.unusedVariables false
theorem bs_empty (T : List UInt8) : (bs T).toList.isEmpty = decide (T.length = 0) := by
  rw [bs_toList]
  cases T <;> simp
set_option maxRecDepth 4000 in
set_option maxHeartbeats 1000000 in
theorem readFrames_any (n d B c3 c4 S k0 : Nat) (X : List UInt8) (w : World) (hd1 : 4 ≤ d) (hd : d ≤ 12) (hn1 : 1 ≤ n) (hn4 : n ≤ 4) (hB : 1 ≤ B) (hB2 : B ≤ 32) (hS : S ≤ 300) (hk : k0 ≤ nBlk S B) (hX : X.length ≤ 9000) (hT : TabsU w) :
    Calls Tryz.prog 72 #[.agg #[.int .i64 n, .int .i64 d, .int .i64 B, .int .i64 c3, .int .i64 c4, .int .i64 S], .int .i64 k0, .string (bs X)] w fun e w' => FrsOut e w w' n d B S k0 X := by
  have HBK := Hid.mk' (fun u => blocks_any S B u (by omega) (by omega) (by omega))
  have hmk := run_make_row' (P := Tryz.prog) 24 30 (.slice none 0 0) 24 Tryz.underlying24 infoInts rfl .i64 .i64 n (by omega) (by omega)
  have HFR := Hid.mk' (fun (u : World) (hu : Below w.heap.size w u) (j q : Nat) => frameRead_any B 0 0 0 0 0 n d q (atX X j) u hd1 hd hn1 hn4 (by omega) (by show (X.drop _).length ≤ 9000; rw [List.length_drop]; omega) (hT.below hu))
  have HNB := Hid.mk' (nBlk_le (S := S) (B := B) hB)
  clear hT
  go_enter Tryz.func72, Tryz.ntmps72
  go_wp2_with fail
  refine wp_scope_straight ?_
  go_wp2_with (first
    | (go_at_call 62; refine (HBK.out _).mono ?_; rintro e u2 ⟨rfl, hw⟩; subst u2))
  refine wp_label ?_
  go_wp2_with fail
  clear hmk
  go_loopw [1, 2, 10, 11, 12, 13, 14] (fun nv sv _ _ _ _ _ wr => ∃ (j q : Nat) (vs : Nat → Value) (la : Option Addr) (lc : Nat), q = k0 + j ∧ q ≤ nBlk S B ∧ nv = .int .i64 q ∧ sv = .string (bs (atX X j)) ∧ Hid ((∀ j', j' < j → okF n d B S (k0 + j') (atX X j')) ∧ RnI w wr n #[.int .i64 n, .int .i64 d, .int .i64 B, .int .i64 c3, .int .i64 c4, .int .i64 S] #[.int .i64 n, .int .i64 d, .int .i64 B, .int .i64 0, .int .i64 0, .int .i64 0, .int .i64 0, .int .i64 0] vs (fun c => chL n d B S k0 X c j) (.slice la j lc) (lnL (lnX X) j))) (fun nv _ _ _ _ _ _ _ => nBlk S B - (intOf nv).toNat)
  case atStart =>
    refine ⟨0, k0, fun _ => .slice none 0 0, none, 0, by omega, hk, rfl, rfl, fun j' h => absurd h (Nat.not_lt_zero _), RnI.start w n _ _⟩
  case round =>
    obtain ⟨j, q, vs, la, lc, hq, hqn, rfl, rfl, HR⟩ := hrel
    have hoff := offX_le HR.out.1 j (Nat.le_refl _)
    by_cases hlt : q < nBlk S B
    · have c0 := HR.out.2.cfg.cell 0
      have c1 := HR.out.2.cfg.cell 1
      have c2 := HR.out.2.cfg.cell 2
      have c3' := HR.out.2.cfg.cell 3
      have c4' := HR.out.2.cfg.cell 4
      have c5 := HR.out.2.cfg.cell 5
      have c6 := HR.out.2.cfg.cell 6
      have c7 := HR.out.2.cfg.cell 7
      have HNQ : Hid (¬ (q : Int) = (nBlk S B : Int)) := by show ¬ _; omega
      by_cases hok : okF n d B S q (atX X j)
      · have hq3 : q < 300 := by have := HNB.out; omega
        obtain ⟨⟨H, hI⟩, hcn⟩ := hok
        have hH := smpF_eq hI
        have HI := Hid.mk' hI
        have hbd := blkN_bd hB hlt
        have HQ := Hid.mk' hq
        have HBS := Hid.mk' (fun u => blockSamples_any S B q u (Nat.le_of_lt ((nBlk_lt hB).1 hlt)) (by omega) (by omega))
        have HF1 := Hid.mk' (fun u hu => HFR.out u hu j q)
        have HOK : Hid (okF n d B S (k0 + j) (atX X j)) := by show okF _ _ _ _ _ _; rw [← hq]; exact ⟨⟨H, hI⟩, hcn⟩
        have hzz : (bs (atX X j)).size = (atX X j).length := bs_size _
        have hlen := HOK.out.len
        have eS : (bs (atX X j)).extract (hLen (atX X j)) (atX X j).length = bs (atX X (j + 1)) := by
          rw [bs_cut', ← atX_step, List.take_of_length_le (by rw [List.length_drop]; exact Nat.le_refl _)]
          rfl
        have l1 : ((hLen (atX X j) : Nat) : Int) ≤ ((atX X j).length : Int) := by omega
        have HCH : Hid (∀ i, (lsI n d B S k0 X j i i).length + blkN S B q ≤ 100000) := fun i => by
          rw [lsI_self, chL_length]
          have := chN_le (B := B) (S := S) (k0 := k0) (m := j) hB (by omega)
          omega
        have HST := Hid.mk' (fun i => lsI_step n d B S k0 X j i (hCnt (atX X j) + 1) H (by rw [← hq]; exact hcn) (by rw [← hq]; exact hH))
        have hLJ : Hid (hLen (atX X j) = lnX X j) := rfl
        have hjn : Hid (j ≤ 300) := by have := HNB.out; show _ ≤ _; omega
        rw [← hcn] at HBS HCH hbd
        clear hq HFR hH hI hcn hoff
        obtain ⟨nn, hnn⟩ : ∃ nn, nn = hCnt (atX X j) + 1 := ⟨_, rfl⟩
        have HNN := Hid.mk' hnn
        rw [← hnn] at HBS HCH hbd HST
        clear hnn
        have HIU := Hid.mk' (fun H' (h : FrmP (atX X j) n d B q H') => frmP_uniq h HI.out)
        generalize hSN : bs (atX X (j + 1)) = SN at *
        have HSN := Hid.mk' hSN
        clear hSN
        generalize bs (atX X j) = SJ at *
        generalize (atX X j).length = zz at *
        go_wp2_with (first
          | (go_at_call 138; refine (HF1.out _ HR.out.2.below).mono ?_; intro e u2 hfo; obtain ⟨H', g, c, rfl, hI', hro, hb⟩ := hfo.yes HI.out; have eH := HIU.out H' hI'; subst eH; rw [← HNN.out] at hro; have HR2 := Hid.mk' (HR.out.2.next hb); obtain ⟨gs, hbk⟩ := HR.out.2.blk hro; have HBK2 := Hid.mk' hbk; clear HF1 hfo hb c0 c1 c2 c3' c4' c5 c6 c7 hro hbk hI' HIU))
        have HOKS := Hid.mk' HR.out.1
        clear HR
        go_loopw [13, 14, 48] (fun _ _ iv wx => ∃ (i : Nat) (vs' : Nat → Value), i ≤ n ∧ iv = .int .i64 i ∧ Hid (RnI w wx n #[.int .i64 n, .int .i64 d, .int .i64 B, .int .i64 c3, .int .i64 c4, .int .i64 S] #[.int .i64 n, .int .i64 d, .int .i64 B, .int .i64 0, .int .i64 0, .int .i64 0, .int .i64 0, .int .i64 0] vs' (lsI n d B S k0 X j i) (.slice la j lc) (lnL (lnX X) j) ∧ BkI w wx n nn g gs H' vs')) (fun _ _ iv _ => n - (intOf iv).toNat)
        case atStart => exact ⟨0, vs, Nat.zero_le _, rfl, by rw [lsI_zero]; exact HR2.out, HBK2.out⟩
        case round =>
          clear HR2 HBK2
          obtain ⟨i, vs', hi, rfl, HX⟩ := hrel
          by_cases hin : i < n
          · have b1 := HX.out.2.cell i hin
            have i5 := HX.out.1.inf.cell 5
            have i2 := HX.out.1.inf.cell 2
            obtain ⟨gq, cq, u3, hrun, e1, e2, e3, hR3, hB3⟩ := HX.out.1.drew.app HX.out.2.drew i hin (by omega) (HCH.out i) 30
            have HAP := Hid.mk' hrun
            have HX3 := Hid.mk' (And.intro hR3 hB3)
            have s00 : wr.drew.cell? ⟨w.heap.size + 1 + 1 + 1 + 1, 0, none⟩ = some (.slice (some ⟨w.heap.size + 1 + 1 + 1, 0, none⟩) n n) := HX.out.1.run.cell 0
            have s01 : wr.drew.cell? ⟨w.heap.size + 1 + 1 + 1, i, none⟩ = some (vs' i) := HX.out.1.row.cell hin
            clear hrun hR3 hB3
            generalize (lsI n d B S k0 X j i i).length = ll at *
            have i0 : (0 : Int) ≤ (i : Int) := by omega
            have i1 : (i : Int) < (n : Int) := by omega
            go_wp2_with (first
              | (go_at_call 127; refine (HBS.out _).mono ?_; rintro e u4 ⟨rfl, hw⟩; subst u4; clear HBS))
            go_region_law (first | (refine step_append_run rfl _ _ _ rfl _ _ _ rfl rfl HAP.out ?_))
            all_goals go_wp2_with fail
            all_goals go_roundw
            all_goals first
              | (case rel => exact ⟨i + 1, _, by omega, by go_num, by rw [← HST.out]; exact HX3.out.1, HX3.out.2⟩)
              | (case measure => simp [intOf]; omega)
          · have e : i = n := by omega
            subst e
            obtain ⟨gq, cq, u3, hrun, e1, e2, hR3⟩ := HX.out.1.len (hLen (atX X j)) (by rw [lnL_length]; have := hjn.out; omega) 30
            rw [lnL_length] at hrun hR3
            have HLN := Hid.mk' hrun
            have HX3 := Hid.mk' hR3
            have r1 := HX.out.1.run.cell 1
            clear hrun hR3
            go_wp2_with (first
              | (at_builtin; refine wpList_append_rn rfl _ _ _ rfl _ _ _ rfl rfl HLN.out ?_; clear HLN))
            refine ⟨⟨j + 1, q + 1, vs', some ⟨gq, 0, none⟩, cq, by rw [HQ.out]; omega, by omega, by go_num, by rw [HSN.out], fun j' hj' => ?_, ?_⟩, by simp [intOf]; omega⟩
            · by_cases e : j' = j
              · rw [e]; exact HOK.out
              · exact HOKS.out j' (by omega)
            · rw [lnL_snoc, ← hLJ.out]
              exact RnI.congr HX3.out fun c hc => lsI_full hc
      · have HRUN : Hid (RunIs n d B S k0 X j) := ⟨.inl (by omega), HR.out.1, fun _ => by rw [← hq]; exact hok⟩
        have HDEC : Hid (false = decide (k0 + j = nBlk S B ∧ offX X j = X.length)) := (decide_eq_false (fun h => by omega)).symm
        by_cases hI : ∃ H, FrmP (atX X j) n d B q H
        · obtain ⟨H, hI⟩ := hI
          have HI := Hid.mk' hI
          have hcn : ¬ hCnt (atX X j) + 1 = blkN S B q := fun h => hok ⟨⟨H, hI⟩, h⟩
          have HQ := Hid.mk' hq
          have HBS := Hid.mk' (fun u => blockSamples_any S B q u (Nat.le_of_lt ((nBlk_lt hB).1 hlt)) (by omega) (by omega))
          have HF1 := Hid.mk' (fun u hu => HFR.out u hu j q)
          have hn0 : (0 : Int) < (n : Int) := by omega
          have hn0' : 0 < n := by omega
          have hnq := HNQ.out
          clear hok hI hoff hq HFR
          generalize bs (atX X j) = SJ at *
          go_wp2_with (first
            | (go_at_call 138; refine (HF1.out _ HR.out.2.below).mono ?_; intro e u2 hfo; obtain ⟨H', g, c, rfl, hI', hro, hb⟩ := hfo.yes HI.out; have HR2 := Hid.mk' (HR.out.2.next hb); obtain ⟨gs, hbk⟩ := HR.out.2.blk hro; have HBK2 := Hid.mk' hbk; clear HF1 hfo hb HR c0 c1 c2 c3' c4' c5 c6 c7 hro hbk hI'))
          go_loopw [13, 14, 48] (fun _ _ iv wx => iv = .int .i64 0 ∧ wx = u2) (fun _ _ _ _ => 0)
          case atStart => exact ⟨rfl, rfl⟩
          case round =>
            obtain ⟨rfl, hwx⟩ := hrel
            subst hwx
            have k0' := HBK2.out.cell 0 hn0'
            obtain ⟨x0, x1, x2, z2, y0, y1, y2, zy0, zy1, zy2⟩ := HR2.out.ends
            have i5 := HR2.out.inf.cell 5
            have i2 := HR2.out.inf.cell 2
            have m1 : ¬ ((hCnt (atX X j) + 1 : Nat) : Int) = ((blkN S B q : Nat) : Int) := by omega
            have HM1 := Hid.mk' m1
            generalize hCnt (atX X j) + 1 = nn at *
            generalize hCnt (atX X j) = nn' at *
            generalize blkN S B q = bk at *
            go_wp2_with (first
              | (go_at_call 127; refine (HBS.out _).mono ?_; rintro e u3 ⟨rfl, hw⟩; subst u3; clear HBS))
            have HD := Hid.mk' (HR2.out.done HRUN.out false HDEC.out)
            rw [Exit.noGoto_ret]
            exact bodyPost_ret (res_rn _ (w.heap.size + 1) _ _ HD.out.1 rfl rfl) rfl HD.out.2
        · have HI : Hid (∀ H, ¬ FrmP (atX X j) n d B q H) := fun H h => hI ⟨H, h⟩
          have HQ := Hid.mk' hq
          clear hok hI hoff hq
          have hnq := HNQ.out
          have HF1 := Hid.mk' (fun u hu => HFR.out u hu j q)
          clear HFR
          generalize bs (atX X j) = SJ at *
          go_wp2_with (first
            | (go_at_call 138; refine (HF1.out _ HR.out.2.below).mono ?_; intro e u2 hfo; obtain ⟨rfl, hb⟩ := hfo.nothing HI.out; have HR2 := Hid.mk' (HR.out.2.next hb); obtain ⟨x0, x1, x2, z2, y0, y1, y2, zy0, zy1, zy2⟩ := HR2.out.ends; clear HF1 hfo hb HR c0 c1 c2 c3' c4' c5 c6 c7))
          have HD := Hid.mk' (HR2.out.done HRUN.out false HDEC.out)
          rw [Exit.noGoto_ret]
          exact bodyPost_ret (res_rn _ (w.heap.size + 1) _ _ HD.out.1 rfl rfl) rfl HD.out.2
    · have e : q = nBlk S B := by omega
      subst e
      have HRUN : Hid (RunIs n d B S k0 X j) := ⟨.inl (by omega), HR.out.1, fun h => by omega⟩
      have HDEC : Hid ((bs (atX X j)).toList.isEmpty = decide (k0 + j = nBlk S B ∧ offX X j = X.length)) := by
        have e1 : (atX X j).length = X.length - offX X j := List.length_drop
        have e2 : (bs (atX X j)).toList.isEmpty = decide ((atX X j).length = 0) := by
          rw [bs_empty]
        show _ = _
        rw [e2]
        exact decide_eq_decide.2 ⟨fun h => ⟨by omega, by omega⟩, fun h => by omega⟩
      obtain ⟨x0, x1, x2, z2, y0, y1, y2, zy0, zy1, zy2⟩ := HR.out.2.ends
      clear hoff hq
      generalize bs (atX X j) = SJ at *
      go_wp2_with fail
      have HD := Hid.mk' (HR.out.2.done HRUN.out _ HDEC.out)
      rw [Exit.noGoto_ret]
      exact bodyPost_ret (res_rn _ (w.heap.size + 1) _ _ HD.out.1 rfl rfl) rfl HD.out.2
end Go.Proofs.YtlncjgnomhpjnabGreatDoor

