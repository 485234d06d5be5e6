import Derived.Test.YtlncjgnomhpjnaaGreatDoorPR8
import Derived.WalkMore
/-
  The document's reader: rests, walked.
-/
namespace Go.Proofs.YtlncjgnomhpjnaaGreatDoor
open Go.RowKit Go.Deep
set_option linter.unusedVariables false
theorem Job.R_count {J : Job} {s0 st : St} {i : Nat} (hR : J.R s0 i = some st) (hm : i % J.size = 0) : J.R s0 (i + 1) = (J.rdK st).bind (J.plc i) := by
  simp only [Job.R, hR, Option.bind_some, if_pos hm]
theorem Job.R_same {J : Job} {s0 st : St} {i : Nat} (hR : J.R s0 i = some st) (hm : ¬ i % J.size = 0) : J.R s0 (i + 1) = J.plc i st := by
  simp only [Job.R, hR, Option.bind_some, if_neg hm]
theorem CInv.cell {w wr : World} {B g : Nat} {s : ByteArray} {d n p : Nat} {bad : Bool} {x : Nat → Int} {len : Nat} (h : CInv w wr B g s d n p bad x len) {i : Nat} (hi : i < n) (hl : i < len) : wr.cell? ⟨g, i, none⟩ = some (.int .i64 (x i)) := by
  have := h.row.cell hi
  simpa [cutV, cutI, hl] using this
theorem row_at {w : World} {g : Nat} {t : TypeId} {n : Nat} {x : Nat → Int} {i : Nat} (h : w.rowIs g t n (cutV i x)) (hi : i < n) : w.cell? ⟨g, i, none⟩ = some (.int .i64 0) := by
  have := h.cell hi
  simpa [cutV, cutI] using this
theorem row_put {w : World} {g : Nat} {t : TypeId} {n : Nat} {V : Nat → Value} (h : w.rowIs g t n V) {i : Nat} (hi : i < n) (z : Int) : (w.setCell ⟨g, i, none⟩ (.int .i64 z)).cell? ⟨g, i, none⟩ = some (.int .i64 z) := by
  have := (h.set i (.int .i64 z)).cell hi
  simpa using this
set_option maxRecDepth 100000 in
set_option maxHeartbeats 4000000 in
theorem cRests_any (B g : Nat) (s : ByteArray) (b : Nat → Bool) (p d n kind : Nat) (bad : Bool) (x0 : Nat → Int) (w : World) (hs : s.size ≤ 80000) (hp : p ≤ s.size) (hd1 : 1 ≤ d) (hd : d ≤ 13) (hn : n ≤ 32) (h2 : 2 ≤ kind) (h7 : kind ≤ 7)
    (hC : Cu w B s p bad) (hb : Bits s b) (hrow : bad = false → w.rowIs g 3 n (cutV (ord kind) x0)) (hgB : g ≠ B) (hx0 : ∀ j, j < ord kind → fitsB d (x0 j) = true) (hon : ord kind < n) (hT : TabAt w 3) (hT3 : 3 < w.heap.size) (hB3 : B ≠ 3) (hg3 : g ≠ 3) :
    Calls Tryz.prog 186 #[.pointer (some ⟨B, 0, none⟩), .int .i64 kind, .int .i64 d, .slice (some ⟨g, 0, none⟩) n n] w fun e w' => CRestsOut e w w' B g s n (if bad then none else cRestsSt b s.size d kind n p x0) := by
  have ho := ord_le kind h2 h7
  generalize hoo : (if bad = true then none else cRestsSt b s.size d kind n p x0) = oo
  have HC := Hid.mk' hC
  have HB := Hid.mk' hb
  have HROW := Hid.mk' hrow
  have HX0 := Hid.mk' hx0
  have HT := Hid.mk' hT
  clear hC hb hrow hx0 hT
  by_cases h7' : kind = 7
  · have t7 : ((kind : Int) == 7) = true := by simp; omega
    obtain ⟨a, p1, b1, HS1, hp1, hS1⟩ := short_any B s b 6 hs (by omega) (by omega) HB.out p bad hp
    obtain ⟨c, p2, b2, HS2, hp2, hS2⟩ := short_any B s b 6 hs (by omega) (by omega) HB.out p1 b1 hp1
    obtain ⟨q, p3, b3, HQ, hp3, hQ⟩ := count_any B s b 2 hs (by omega) HB.out p2 b2 hp2
    have hHD : Head b s.size d kind n p bad x0 a c q p3 b3 oo := by subst h7'; exact head7 hp3 hS1 hS2 hQ hoo
    have ha : -32 ≤ a ∧ a ≤ 32 := by
      rcases hS1 with ⟨-, -, rfl, -, -⟩ | ⟨-, rfl, -⟩
      · exact sgn6 b p
      · omega
    have hc : -32 ≤ c ∧ c ≤ 32 := by
      rcases hS2 with ⟨-, -, rfl, -, -⟩ | ⟨-, rfl, -⟩
      · exact sgn6 b p1
      · omega
    clear hS1 hS2 hQ hoo h7'
    have HHD := Hid.mk' hHD
    have hq := hHD.q3
    clear hHD
    obtain ⟨P, hP⟩ : ∃ P : Nat, P = 2 ^ q := ⟨_, rfl⟩
    obtain ⟨sz, hsz⟩ : ∃ sz : Nat, sz = n / P := ⟨_, rfl⟩
    have hP1 : 1 ≤ P := by rw [hP]; exact Nat.two_pow_pos _
    have hP8 : P ≤ 8 := by rw [hP]; exact Nat.le_trans (Nat.pow_le_pow_right (by omega) hq) (by decide)
    have hP0 : ¬ (P : Int) = 0 := by omega
    have hszn : sz ≤ n := by rw [hsz]; exact Nat.div_le_self _ _
    have hszw : IntKind.i64.wrap ((n : Int) / (P : Int)) = (sz : Int) := by
      rw [show (n : Int) / (P : Int) = (sz : Int) by rw [hsz]; simp, IntKind.wrap_i64]
      omega
    have hmul : sz * P ≤ 32 := by have := Nat.div_mul_le_self n P; rw [← hsz] at this; omega
    have hmw : IntKind.i64.wrap ((sz : Int) * (P : Int)) = (sz : Int) * (P : Int) := by
      have : ((sz * P : Nat) : Int) = (sz : Int) * (P : Int) := by simp
      rw [IntKind.wrap_i64]; omega
    have HCB : Hid (cutB n (ord kind) q = (decide (sz * P = n) && decide (ord kind < sz))) := by
      show _ = _; rw [hsz, hP]; rfl
    have HPE := Hid.mk' hP
    have hPw : IntKind.i64.wrap ((2 : Int) ^ q) = (P : Int) := by
      rw [show ((2 : Int) ^ q) = (P : Int) by rw [hP]; simp, IntKind.wrap_i64]
      omega
    have HSZ := Hid.mk' hsz
    clear hP hsz
    cases b3 with
    | true =>
      go_enter Tryz.func186, Tryz.ntmps186
      go_wp2_with (first
        | (go_at_call 184; refine (cOrderOf_any kind _ h2 h7).mono ?_; rintro e w0 ⟨rfl, hw0⟩; subst w0)
        | (go_at_call 185; refine (HS1.out _ HC.out).mono ?_; rintro e u1 ⟨rfl, hC1, hG1⟩; clear HS1; have HC1 := Hid.mk' hC1; have HG1 := Hid.mk' hG1; clear hC1 hG1)
        | (go_at_call 185; refine (HS2.out _ HC1.out).mono ?_; rintro e u2 ⟨rfl, hC2, hG2⟩; clear HS2; have HC2 := Hid.mk' hC2; have HG := Hid.mk' (HG1.out.trans hG2); clear hC2 hG2)
        | (go_at_call 183; refine (HQ.out _ HC2.out).mono ?_; rintro e u3 ⟨rfl, hC3, hG3⟩; clear HQ; obtain ⟨cc0, cc1, cc2, ff1, ff2⟩ := hC3.cells; have HC3 := Hid.mk' hC3; have HG3 := Hid.mk' (HG.out.trans hG3); clear hC3 hG3))
      go_ret
      rw [HHD.out.no rfl]
      exact ⟨rfl, (ChgS.refl _ w).chg HG3.out (.inl (.inl rfl))⟩
    | false =>
      obtain ⟨hbad, J, hJ, hoj⟩ := HHD.out.yes rfl
      subst hbad
      rw [← HPE.out, ← HSZ.out] at hJ
      have HJ := Hid.mk' hJ
      have HOJ := Hid.mk' hoj
      clear hJ hoj HHD
      by_cases hm : sz * P = n
      · have tm : ((sz : Int) * (P : Int) != (n : Int)) = false := by
          have : ((sz * P : Nat) : Int) = (sz : Int) * (P : Int) := by simp
          simp; omega
        by_cases hlo : ord kind < sz
        · have tl : decide ((sz : Int) ≤ (ord kind : Int)) = false := decide_eq_false (by omega)
          have tlN : decide (sz ≤ ord kind) = false := decide_eq_false (by omega)
          have HOK : Hid (oo = J.R ⟨p3, 0, x0⟩ n) := by
            show _ = _
            rw [HOJ.out, HCB.out, if_pos (by simp [hm, hlo])]
          clear HOJ HCB
          go_enter Tryz.func186, Tryz.ntmps186
          go_wp2_with (first
            | (go_at_call 184; refine (cOrderOf_any kind _ h2 h7).mono ?_; rintro e w0 ⟨rfl, hw0⟩; subst w0)
            | (go_at_call 185; refine (HS1.out _ HC.out).mono ?_; rintro e u1 ⟨rfl, hC1, hG1⟩; clear HS1; have HC1 := Hid.mk' hC1; have HG1 := Hid.mk' hG1; clear hC1 hG1)
            | (go_at_call 185; refine (HS2.out _ HC1.out).mono ?_; rintro e u2 ⟨rfl, hC2, hG2⟩; clear HS2; have HC2 := Hid.mk' hC2; have HG := Hid.mk' (HG1.out.trans hG2); clear hC2 hG2)
            | (go_at_call 183; refine (HQ.out _ HC2.out).mono ?_; rintro e u3 ⟨rfl, hC3, hG3⟩; clear HQ; obtain ⟨cc0, cc1, cc2, ff1, ff2⟩ := hC3.cells; have HC3 := Hid.mk' hC3; have HG3 := Hid.mk' (HG.out.trans hG3); clear hC3 hG3))
          have HI0 : Hid (CInv w u3 B g s d n p3 false x0 (ord kind)) := ⟨HG3.out.row (HROW.out (by first | rfl | trivial)) hgB, HC3.out, (ChgS.refl _ w).chg HG3.out (.inl (.inl rfl)), hp3, HX0.out⟩
          clear cc0 cc1 cc2 ff1 ff2 HC3 HG3
          go_loopw [14, 15, 16, 17, 18] (fun kv iv _ _ _ wr => ∃ i k : Nat, i ≤ n ∧ k ≤ 14 ∧ iv = .int .i64 i ∧ kv = .int .i64 k ∧ Hid (∃ st : St, J.R ⟨p3, 0, x0⟩ i = some st ∧ st.k = k ∧ CInv w wr B g s d n st.p false st.x (max i (ord kind)))) (fun _ iv _ _ _ _ => n - (intOf iv).toNat)
          case atStart => exact ⟨0, 0, by omega, by omega, rfl, rfl, ⟨p3, 0, x0⟩, rfl, rfl, by rw [show max 0 (ord kind) = ord kind by omega]; exact HI0.out⟩
          case round =>
            clear HI0
            obtain ⟨i, k, hi, hk, rfl, rfl, HX⟩ := hrel
            obtain ⟨st, hst, hstk, hI⟩ := HX.out
            have HST := Hid.mk' hst
            have HSTK := Hid.mk' hstk
            have HI := Hid.mk' hI
            have hstp := hI.p
            clear hst hstk hI HX
            by_cases hin : i < n
            · have hsz1 : ¬ (sz : Int) = 0 := by omega
              have HNONE : Hid (J.R ⟨p3, 0, x0⟩ (i + 1) = none → oo = none) := fun h => HOK.out.trans (J.R_none _ h (by omega))
              have hcast : ((i % sz : Nat) : Int) = (i : Int) % (sz : Int) := by simp
              by_cases hmod : i % sz = 0
              · have tmod : ((i : Int) % (sz : Int) == 0) = true := by rw [← hcast, hmod]; rfl
                have HM := Hid.mk' hmod
                clear hcast hmod
                obtain ⟨k1, pK, bK, HK, hpK, hK⟩ := count_any B s b 4 hs (by omega) HB.out st.p false hstp
                by_cases hk1 : k1 ≤ 14
                · have tk : decide ((14 : Int) < (k1 : Int)) = false := decide_eq_false (by omega)
                  have HNX : Hid (bK = true → J.R ⟨p3, 0, x0⟩ (i + 1) = none) := fun e => by
                    rw [J.R_count HST.out (by rw [HJ.out.2.2.2.2.2.2]; exact HM.out)]
                    rcases hK with ⟨-, -, -, -, h⟩ | ⟨h, -, -⟩
                    · rw [e] at h; cases h
                    · unfold Job.rdK
                      rw [if_neg]
                      · rfl
                      · intro h3; rw [HJ.out.2.1] at h3; exact h ⟨rfl, h3.1⟩
                  have HNY : Hid (bK = false → J.R ⟨p3, 0, x0⟩ (i + 1) = J.plc i ⟨pK, k1, st.x⟩) := fun e => by
                    rw [J.R_count HST.out (by rw [HJ.out.2.2.2.2.2.2]; exact HM.out)]
                    rcases hK with ⟨-, h4, hk4, hp4, h⟩ | ⟨-, -, h⟩
                    · unfold Job.rdK
                      rw [if_pos ⟨by rw [HJ.out.2.1]; exact h4, by rw [HJ.out.1, ← hk4]; exact hk1⟩, HJ.out.1, ← hk4, ← hp4]
                      rfl
                    · rw [e] at h; cases h
                  clear hK
                  by_cases hio : i < ord kind
                  · have tio : decide ((ord kind : Int) ≤ (i : Int)) = false := decide_eq_false (by omega)
                    have hfx : fitsB d (st.x i) = true := HI.out.fits i (by omega)
                    cases bK with
                    | true =>
                      go_wp2_with (first
                        | (go_at_call 183; refine (HK.out _ HI.out.cu).mono ?_; rintro e u1 ⟨rfl, hC1, hG1⟩; clear HK; have HI1 := Hid.mk' (HI.out.chgB hG1 hC1 hpK hgB); clear hC1 hG1; obtain ⟨cc0, cc1, cc2, ff1, ff2⟩ := HI1.out.cu.cells; have hcx := HI1.out.cell hin (by omega))
                        | (go_at_call 108; refine (cFits_any d _ _ hd1 hd).mono ?_; rintro e w0 ⟨rfl, hw0⟩; subst w0; rw [hfx]))
                      go_ret
                      rw [HNONE.out (HNX.out (by first | rfl | trivial))]
                      exact ⟨rfl, HI1.out.chg⟩
                    | false =>
                      go_wp2_with (first
                        | (go_at_call 183; refine (HK.out _ HI.out.cu).mono ?_; rintro e u1 ⟨rfl, hC1, hG1⟩; clear HK; have HI1 := Hid.mk' (HI.out.chgB hG1 hC1 hpK hgB); clear hC1 hG1; obtain ⟨cc0, cc1, cc2, ff1, ff2⟩ := HI1.out.cu.cells; have hcx := HI1.out.cell hin (by omega))
                        | (go_at_call 108; refine (cFits_any d _ _ hd1 hd).mono ?_; rintro e w0 ⟨rfl, hw0⟩; subst w0; rw [hfx]))
                      go_roundw
                      case rel =>
                        refine ⟨i + 1, k1, by omega, hk1, by go_num, rfl, ⟨pK, k1, st.x⟩, ?_, rfl, ?_⟩
                        · rw [HNY.out (by first | rfl | trivial)]; unfold Job.plc; rw [if_pos (by rw [HJ.out.2.2.2.1]; exact hio)]
                        · rw [show max (i + 1) (ord kind) = max i (ord kind) by omega]; exact HI1.out
                      case measure => simp [intOf]; omega
                  · have tio : decide ((ord kind : Int) ≤ (i : Int)) = true := decide_eq_true (by omega)
                    have tioN : decide (ord kind ≤ i) = true := decide_eq_true (by omega)
                    rw [show max i (ord kind) = i by omega] at HI
                    have HX4 : Hid (∀ j, j < i → -4096 ≤ st.x j ∧ st.x j ≤ 4096) := fun j hj => fits_bd (HI.out.fits j hj) hd
                    obtain ⟨G, hG⟩ : ∃ G, G = guessG kind a c st.x i := ⟨_, rfl⟩
                    have hGb : -524288 ≤ G ∧ G ≤ 524288 := by rw [hG]; exact guessG_bd h2 h7 ha hc HX4.out (by omega)
                    have HGU : Hid (∀ u : World, u.rowIs g 3 n (cutV i st.x) → TabAt u 3 → Calls Tryz.prog 196 #[.int .i64 kind, .int .i64 a, .int .i64 c, .slice (some ⟨g, 0, none⟩) n n, .int .i64 i] u fun e w' => e = .returned (.int .i64 G) ∧ ∃ m, w' = u.drewN m) := fun u hu hTu => by
                      rw [hG]; exact cGuess_any kind a c g n i i st.x u h2 h7 ha hc hn hin (by omega) HX4.out hu (Nat.le_refl _) hTu
                    have HGE := Hid.mk' hG
                    clear hG
                    have HRI0 := Hid.mk' (fun (u : World) (hu : Cu u B s pK bK) => cRice_any B s b pK k1 bK u hs hpK hk1 hu HB.out)
                    generalize hro : (if bK = true then none else rice b s.size k1 pK) = ro at HRI0
                    cases ro with
                    | none =>
                      have HRI : Hid (∀ u : World, Cu u B s pK bK → Calls Tryz.prog 208 #[.pointer (some ⟨B, 0, none⟩), .int .i64 k1] u fun e u' => ∃ v p', e = .returned (.int .i64 v) ∧ (-1400000000 ≤ v ∧ v ≤ 1400000000) ∧ p' ≤ s.size ∧ Cu u' B s p' true ∧ Chg B u u') := HRI0.out
                      have HNO : Hid (J.R ⟨p3, 0, x0⟩ (i + 1) = none) := by
                        show _ = _
                        cases bK with
                        | true => exact HNX.out (by first | rfl | trivial)
                        | false =>
                          rw [HNY.out (by first | rfl | trivial)]
                          rw [if_neg (by simp)] at hro
                          obtain ⟨j1, j2, j3, j4, j5, j6, j7⟩ := HJ.out
                          exact Job.plc_none (by rw [j4]; exact hio) (by rw [j1, j2]; exact hro)
                      clear HRI0 hro HNX HNY
                      go_wp2_with (first
                        | (go_at_call 183; refine (HK.out _ HI.out.cu).mono ?_; rintro e u1 ⟨rfl, hC1, hG1⟩; clear HK; have HI1 := Hid.mk' (HI.out.chgB hG1 hC1 hpK hgB); clear hC1 hG1)
                        | (go_at_call 208; refine (HRI.out _ HI1.out.cu).mono ?_; rintro e u2 ⟨v, pR, rfl, hv, hpR, hC2, hG2⟩; clear HRI; have HI2 := Hid.mk' (HI1.out.chgB hG2 hC2 hpR hgB); clear hC2 hG2)
                        | (go_at_call 196; refine (HGU.out _ HI2.out.row (HI2.out.chg.tab HT.out hT3 (by omega))).mono ?_; rintro e w0 ⟨rfl, m, hw0⟩; subst w0; have hfr := HI2.out.row.frozen i; have hc0 := row_at HI2.out.row hin; have tz : IntKind.i64.wrap (G + v) = G + v := (by rw [IntKind.wrap_i64]; omega); have hcell := row_put (HI2.out.drewN m).row hin (G + v); have hbadc := (((Chg.refl g _).set i (.int .i64 (G + v))).cu (HI2.out.drewN m).cu (Ne.symm hgB)).cells.2.2.1)
                        | (go_at_call 108; refine (cFits_any d _ _ hd1 hd).mono ?_; rintro e w0 ⟨rfl, hw0⟩; subst w0))
                      all_goals
                        go_ret
                        rw [HNONE.out HNO.out]
                        exact ⟨rfl, (HI2.out.drewN m).chg.chg ((Chg.refl g _).set i _) (.inl (.inr rfl))⟩
                    | some vp =>
                      obtain ⟨v, pR⟩ := vp
                      have hbK : bK = false := by
                        cases bK with
                        | false => rfl
                        | true => simp at hro
                      subst hbK
                      rw [if_neg (by simp)] at hro
                      have HRI : Hid (∀ u : World, Cu u B s pK false → Calls Tryz.prog 208 #[.pointer (some ⟨B, 0, none⟩), .int .i64 k1] u fun e u' => e = .returned (.int .i64 v) ∧ Cu u' B s pR false ∧ Chg B u u') := HRI0.out
                      obtain ⟨hv, -, hpR⟩ := rice_bd hro hs hk1
                      have HRO := Hid.mk' hro
                      clear HRI0 hro HNX
                      cases hfz : fitsB d (G + v) with
                      | true =>
                        have HFZ := Hid.mk' hfz
                        have HNO : Hid (J.R ⟨p3, 0, x0⟩ (i + 1) = some ⟨pR, k1, updI st.x i (G + v)⟩) := by
                          show _ = _
                          rw [HNY.out (by first | rfl | trivial)]
                          obtain ⟨j1, j2, j3, j4, j5, j6, j7⟩ := HJ.out
                          have e := HGE.out
                          rw [Job.plc_yes (v := v) (p' := pR) (by rw [j4]; exact hio) (by rw [j1, j2]; exact HRO.out) (by rw [j3, j4, j5, j6, ← e]; exact hfz), j4, j5, j6, ← e]
                        clear HNY
                        go_wp2_with (first
                          | (go_at_call 183; refine (HK.out _ HI.out.cu).mono ?_; rintro e u1 ⟨rfl, hC1, hG1⟩; clear HK; have HI1 := Hid.mk' (HI.out.chgB hG1 hC1 hpK hgB); clear hC1 hG1)
                          | (go_at_call 208; refine (HRI.out _ HI1.out.cu).mono ?_; rintro e u2 ⟨rfl, hC2, hG2⟩; clear HRI; have HI2 := Hid.mk' (HI1.out.chgB hG2 hC2 hpR hgB); clear hC2 hG2)
                          | (go_at_call 196; refine (HGU.out _ HI2.out.row (HI2.out.chg.tab HT.out hT3 (by omega))).mono ?_; rintro e w0 ⟨rfl, m, hw0⟩; subst w0; have hfr := HI2.out.row.frozen i; have hc0 := row_at HI2.out.row hin; have tz : IntKind.i64.wrap (G + v) = G + v := (by rw [IntKind.wrap_i64]; omega); have hcell := row_put (HI2.out.drewN m).row hin (G + v); have hbadc := (((Chg.refl g _).set i (.int .i64 (G + v))).cu (HI2.out.drewN m).cu (Ne.symm hgB)).cells.2.2.1)
                          | (go_at_call 108; refine (cFits_any d _ _ hd1 hd).mono ?_; rintro e w0 ⟨rfl, hw0⟩; subst w0; rw [hfz]))
                        go_roundw
                        case rel =>
                          refine ⟨i + 1, k1, by omega, hk1, by go_num, rfl, _, HNO.out, rfl, ?_⟩
                          rw [show max (i + 1) (ord kind) = i + 1 by omega]
                          exact (HI2.out.drewN m).put (G + v) HFZ.out hgB
                        case measure => simp [intOf]; omega
                      | false =>
                        have HNO : Hid (J.R ⟨p3, 0, x0⟩ (i + 1) = none) := by
                          show _ = _
                          rw [HNY.out (by first | rfl | trivial)]
                          obtain ⟨j1, j2, j3, j4, j5, j6, j7⟩ := HJ.out
                          have e := HGE.out
                          exact Job.plc_no (v := v) (p' := pR) (by rw [j4]; exact hio) (by rw [j1, j2]; exact HRO.out) (by rw [j3, j4, j5, j6, ← e]; exact hfz)
                        clear HNY
                        go_wp2_with (first
                          | (go_at_call 183; refine (HK.out _ HI.out.cu).mono ?_; rintro e u1 ⟨rfl, hC1, hG1⟩; clear HK; have HI1 := Hid.mk' (HI.out.chgB hG1 hC1 hpK hgB); clear hC1 hG1)
                          | (go_at_call 208; refine (HRI.out _ HI1.out.cu).mono ?_; rintro e u2 ⟨rfl, hC2, hG2⟩; clear HRI; have HI2 := Hid.mk' (HI1.out.chgB hG2 hC2 hpR hgB); clear hC2 hG2)
                          | (go_at_call 196; refine (HGU.out _ HI2.out.row (HI2.out.chg.tab HT.out hT3 (by omega))).mono ?_; rintro e w0 ⟨rfl, m, hw0⟩; subst w0; have hfr := HI2.out.row.frozen i; have hc0 := row_at HI2.out.row hin; have tz : IntKind.i64.wrap (G + v) = G + v := (by rw [IntKind.wrap_i64]; omega); have hcell := row_put (HI2.out.drewN m).row hin (G + v); have hbadc := (((Chg.refl g _).set i (.int .i64 (G + v))).cu (HI2.out.drewN m).cu (Ne.symm hgB)).cells.2.2.1)
                          | (go_at_call 108; refine (cFits_any d _ _ hd1 hd).mono ?_; rintro e w0 ⟨rfl, hw0⟩; subst w0; rw [hfz]))
                        go_ret
                        rw [HNONE.out HNO.out]
                        exact ⟨rfl, (HI2.out.drewN m).chg.chg ((Chg.refl g _).set i _) (.inl (.inr rfl))⟩
                · have tk : decide ((14 : Int) < (k1 : Int)) = true := decide_eq_true (by omega)
                  have HNO : Hid (J.R ⟨p3, 0, x0⟩ (i + 1) = none) := by
                    show _ = _
                    rw [J.R_count HST.out (by rw [HJ.out.2.2.2.2.2.2]; exact HM.out)]
                    unfold Job.rdK
                    rw [if_neg]
                    · rfl
                    · intro h3
                      rw [HJ.out.1] at h3
                      rcases hK with ⟨-, -, h, -, -⟩ | ⟨-, h, -⟩ <;> omega
                  clear hK
                  go_wp2_with (go_at_call 183; refine (HK.out _ HI.out.cu).mono ?_; rintro e u1 ⟨rfl, hC1, hG1⟩; clear HK; have HI1 := Hid.mk' (HI.out.chgB hG1 hC1 hpK hgB); clear hC1 hG1)
                  go_ret
                  rw [HNONE.out HNO.out]
                  exact ⟨rfl, HI1.out.chg⟩
              · have tmod : ((i : Int) % (sz : Int) == 0) = false := by rw [← hcast]; simp; omega
                have HM := Hid.mk' hmod
                clear hcast hmod
                have HNY : Hid (J.R ⟨p3, 0, x0⟩ (i + 1) = J.plc i ⟨st.p, k, st.x⟩) := by
                  show _ = _
                  rw [J.R_same HST.out (by rw [HJ.out.2.2.2.2.2.2]; exact HM.out), ← HSTK.out]
                by_cases hio : i < ord kind
                · have tio : decide ((ord kind : Int) ≤ (i : Int)) = false := decide_eq_false (by omega)
                  have hfx : fitsB d (st.x i) = true := HI.out.fits i (by omega)
                  have HI1 := HI
                  obtain ⟨cc0, cc1, cc2, ff1, ff2⟩ := HI1.out.cu.cells
                  have hcx := HI1.out.cell hin (by omega)
                  go_wp2_with (first
                    | (go_at_call 108; refine (cFits_any d _ _ hd1 hd).mono ?_; rintro e w0 ⟨rfl, hw0⟩; subst w0; rw [hfx]))
                  go_roundw
                  case rel =>
                    refine ⟨i + 1, k, by omega, hk, by go_num, rfl, ⟨st.p, k, st.x⟩, ?_, rfl, ?_⟩
                    · rw [HNY.out]; unfold Job.plc; rw [if_pos (by rw [HJ.out.2.2.2.1]; exact hio)]
                    · rw [show max (i + 1) (ord kind) = max i (ord kind) by omega]; exact HI1.out
                  case measure => simp [intOf]; omega
                · have tio : decide ((ord kind : Int) ≤ (i : Int)) = true := decide_eq_true (by omega)
                  have tioN : decide (ord kind ≤ i) = true := decide_eq_true (by omega)
                  rw [show max i (ord kind) = i by omega] at HI
                  have HI1 := HI
                  have HX4 : Hid (∀ j, j < i → -4096 ≤ st.x j ∧ st.x j ≤ 4096) := fun j hj => fits_bd (HI.out.fits j hj) hd
                  obtain ⟨G, hG⟩ : ∃ G, G = guessG kind a c st.x i := ⟨_, rfl⟩
                  have hGb : -524288 ≤ G ∧ G ≤ 524288 := by rw [hG]; exact guessG_bd h2 h7 ha hc HX4.out (by omega)
                  have HGU : Hid (∀ u : World, u.rowIs g 3 n (cutV i st.x) → TabAt u 3 → Calls Tryz.prog 196 #[.int .i64 kind, .int .i64 a, .int .i64 c, .slice (some ⟨g, 0, none⟩) n n, .int .i64 i] u fun e w' => e = .returned (.int .i64 G) ∧ ∃ m, w' = u.drewN m) := fun u hu hTu => by
                    rw [hG]; exact cGuess_any kind a c g n i i st.x u h2 h7 ha hc hn hin (by omega) HX4.out hu (Nat.le_refl _) hTu
                  have HGE := Hid.mk' hG
                  clear hG
                  have HRI0 := Hid.mk' (fun (u : World) (hu : Cu u B s st.p false) => cRice_any B s b st.p k false u hs hstp hk hu HB.out)
                  generalize hro : (if false = true then none else rice b s.size k st.p) = ro at HRI0
                  cases ro with
                  | none =>
                    have HRI : Hid (∀ u : World, Cu u B s st.p false → Calls Tryz.prog 208 #[.pointer (some ⟨B, 0, none⟩), .int .i64 k] u fun e u' => ∃ v p', e = .returned (.int .i64 v) ∧ (-1400000000 ≤ v ∧ v ≤ 1400000000) ∧ p' ≤ s.size ∧ Cu u' B s p' true ∧ Chg B u u') := HRI0.out
                    have HNO : Hid (J.R ⟨p3, 0, x0⟩ (i + 1) = none) := by
                      show _ = _
                      rw [HNY.out]
                      rw [if_neg (by simp)] at hro
                      obtain ⟨j1, j2, j3, j4, j5, j6, j7⟩ := HJ.out
                      exact Job.plc_none (by rw [j4]; exact hio) (by rw [j1, j2]; exact hro)
                    clear HRI0 hro HNY
                    go_wp2_with (first
                      | (go_at_call 208; refine (HRI.out _ HI1.out.cu).mono ?_; rintro e u2 ⟨v, pR, rfl, hv, hpR, hC2, hG2⟩; clear HRI; have HI2 := Hid.mk' (HI1.out.chgB hG2 hC2 hpR hgB); clear hC2 hG2)
                      | (go_at_call 196; refine (HGU.out _ HI2.out.row (HI2.out.chg.tab HT.out hT3 (by omega))).mono ?_; rintro e w0 ⟨rfl, m, hw0⟩; subst w0; have hfr := HI2.out.row.frozen i; have hc0 := row_at HI2.out.row hin; have tz : IntKind.i64.wrap (G + v) = G + v := (by rw [IntKind.wrap_i64]; omega); have hcell := row_put (HI2.out.drewN m).row hin (G + v); have hbadc := (((Chg.refl g _).set i (.int .i64 (G + v))).cu (HI2.out.drewN m).cu (Ne.symm hgB)).cells.2.2.1)
                      | (go_at_call 108; refine (cFits_any d _ _ hd1 hd).mono ?_; rintro e w0 ⟨rfl, hw0⟩; subst w0))
                    all_goals
                      go_ret
                      rw [HNONE.out HNO.out]
                      exact ⟨rfl, (HI2.out.drewN m).chg.chg ((Chg.refl g _).set i _) (.inl (.inr rfl))⟩
                  | some vp =>
                    obtain ⟨v, pR⟩ := vp
                    rw [if_neg (by simp)] at hro
                    have HRI : Hid (∀ u : World, Cu u B s st.p false → Calls Tryz.prog 208 #[.pointer (some ⟨B, 0, none⟩), .int .i64 k] u fun e u' => e = .returned (.int .i64 v) ∧ Cu u' B s pR false ∧ Chg B u u') := HRI0.out
                    obtain ⟨hv, -, hpR⟩ := rice_bd hro hs hk
                    have HRO := Hid.mk' hro
                    clear HRI0 hro
                    cases hfz : fitsB d (G + v) with
                    | true =>
                      have HFZ := Hid.mk' hfz
                      have HNO : Hid (J.R ⟨p3, 0, x0⟩ (i + 1) = some ⟨pR, k, updI st.x i (G + v)⟩) := by
                        show _ = _
                        rw [HNY.out]
                        obtain ⟨j1, j2, j3, j4, j5, j6, j7⟩ := HJ.out
                        have e := HGE.out
                        rw [Job.plc_yes (v := v) (p' := pR) (by rw [j4]; exact hio) (by rw [j1, j2]; exact HRO.out) (by rw [j3, j4, j5, j6, ← e]; exact hfz), j4, j5, j6, ← e]
                      clear HNY
                      go_wp2_with (first
                        | (go_at_call 208; refine (HRI.out _ HI1.out.cu).mono ?_; rintro e u2 ⟨rfl, hC2, hG2⟩; clear HRI; have HI2 := Hid.mk' (HI1.out.chgB hG2 hC2 hpR hgB); clear hC2 hG2)
                        | (go_at_call 196; refine (HGU.out _ HI2.out.row (HI2.out.chg.tab HT.out hT3 (by omega))).mono ?_; rintro e w0 ⟨rfl, m, hw0⟩; subst w0; have hfr := HI2.out.row.frozen i; have hc0 := row_at HI2.out.row hin; have tz : IntKind.i64.wrap (G + v) = G + v := (by rw [IntKind.wrap_i64]; omega); have hcell := row_put (HI2.out.drewN m).row hin (G + v); have hbadc := (((Chg.refl g _).set i (.int .i64 (G + v))).cu (HI2.out.drewN m).cu (Ne.symm hgB)).cells.2.2.1)
                        | (go_at_call 108; refine (cFits_any d _ _ hd1 hd).mono ?_; rintro e w0 ⟨rfl, hw0⟩; subst w0; rw [hfz]))
                      go_roundw
                      case rel =>
                        refine ⟨i + 1, k, by omega, hk, by go_num, rfl, _, HNO.out, rfl, ?_⟩
                        rw [show max (i + 1) (ord kind) = i + 1 by omega]
                        exact (HI2.out.drewN m).put (G + v) HFZ.out hgB
                      case measure => simp [intOf]; omega
                    | false =>
                      have HNO : Hid (J.R ⟨p3, 0, x0⟩ (i + 1) = none) := by
                        show _ = _
                        rw [HNY.out]
                        obtain ⟨j1, j2, j3, j4, j5, j6, j7⟩ := HJ.out
                        have e := HGE.out
                        exact Job.plc_no (v := v) (p' := pR) (by rw [j4]; exact hio) (by rw [j1, j2]; exact HRO.out) (by rw [j3, j4, j5, j6, ← e]; exact hfz)
                      clear HNY
                      go_wp2_with (first
                        | (go_at_call 208; refine (HRI.out _ HI1.out.cu).mono ?_; rintro e u2 ⟨rfl, hC2, hG2⟩; clear HRI; have HI2 := Hid.mk' (HI1.out.chgB hG2 hC2 hpR hgB); clear hC2 hG2)
                        | (go_at_call 196; refine (HGU.out _ HI2.out.row (HI2.out.chg.tab HT.out hT3 (by omega))).mono ?_; rintro e w0 ⟨rfl, m, hw0⟩; subst w0; have hfr := HI2.out.row.frozen i; have hc0 := row_at HI2.out.row hin; have tz : IntKind.i64.wrap (G + v) = G + v := (by rw [IntKind.wrap_i64]; omega); have hcell := row_put (HI2.out.drewN m).row hin (G + v); have hbadc := (((Chg.refl g _).set i (.int .i64 (G + v))).cu (HI2.out.drewN m).cu (Ne.symm hgB)).cells.2.2.1)
                        | (go_at_call 108; refine (cFits_any d _ _ hd1 hd).mono ?_; rintro e w0 ⟨rfl, hw0⟩; subst w0; rw [hfz]))
                      go_ret
                      rw [HNONE.out HNO.out]
                      exact ⟨rfl, (HI2.out.drewN m).chg.chg ((Chg.refl g _).set i _) (.inl (.inr rfl))⟩
            · have e : i = n := by omega
              subst e
              go_wp2
              go_ret
              rw [HOK.out, HST.out]
              refine ⟨rfl, ?_, HI.out.cu, HI.out.chg⟩
              have := HI.out.row
              rw [show max i (ord kind) = i by omega] at this
              exact this
        · have tl : decide ((sz : Int) ≤ (ord kind : Int)) = true := decide_eq_true (by omega)
          have HNO : Hid (oo = none) := by
            show _ = _
            rw [HOJ.out, HCB.out, if_neg (by simp [hlo])]
          go_enter Tryz.func186, Tryz.ntmps186
          go_wp2_with (first
            | (go_at_call 184; refine (cOrderOf_any kind _ h2 h7).mono ?_; rintro e w0 ⟨rfl, hw0⟩; subst w0)
            | (go_at_call 185; refine (HS1.out _ HC.out).mono ?_; rintro e u1 ⟨rfl, hC1, hG1⟩; clear HS1; have HC1 := Hid.mk' hC1; have HG1 := Hid.mk' hG1; clear hC1 hG1)
            | (go_at_call 185; refine (HS2.out _ HC1.out).mono ?_; rintro e u2 ⟨rfl, hC2, hG2⟩; clear HS2; have HC2 := Hid.mk' hC2; have HG := Hid.mk' (HG1.out.trans hG2); clear hC2 hG2)
            | (go_at_call 183; refine (HQ.out _ HC2.out).mono ?_; rintro e u3 ⟨rfl, hC3, hG3⟩; clear HQ; obtain ⟨cc0, cc1, cc2, ff1, ff2⟩ := hC3.cells; have HC3 := Hid.mk' hC3; have HG3 := Hid.mk' (HG.out.trans hG3); clear hC3 hG3))
          go_ret
          rw [HNO.out]
          exact ⟨rfl, (ChgS.refl _ w).chg HG3.out (.inl (.inl rfl))⟩
      · have tm : ((sz : Int) * (P : Int) != (n : Int)) = true := by
          have : ((sz * P : Nat) : Int) = (sz : Int) * (P : Int) := by simp
          simp; omega
        have HNO : Hid (oo = none) := by
          show _ = _
          rw [HOJ.out, HCB.out, if_neg (by simp [hm])]
        go_enter Tryz.func186, Tryz.ntmps186
        go_wp2_with (first
          | (go_at_call 184; refine (cOrderOf_any kind _ h2 h7).mono ?_; rintro e w0 ⟨rfl, hw0⟩; subst w0)
          | (go_at_call 185; refine (HS1.out _ HC.out).mono ?_; rintro e u1 ⟨rfl, hC1, hG1⟩; clear HS1; have HC1 := Hid.mk' hC1; have HG1 := Hid.mk' hG1; clear hC1 hG1)
          | (go_at_call 185; refine (HS2.out _ HC1.out).mono ?_; rintro e u2 ⟨rfl, hC2, hG2⟩; clear HS2; have HC2 := Hid.mk' hC2; have HG := Hid.mk' (HG1.out.trans hG2); clear hC2 hG2)
          | (go_at_call 183; refine (HQ.out _ HC2.out).mono ?_; rintro e u3 ⟨rfl, hC3, hG3⟩; clear HQ; obtain ⟨cc0, cc1, cc2, ff1, ff2⟩ := hC3.cells; have HC3 := Hid.mk' hC3; have HG3 := Hid.mk' (HG.out.trans hG3); clear hC3 hG3))
        go_ret
        rw [HNO.out]
        exact ⟨rfl, (ChgS.refl _ w).chg HG3.out (.inl (.inl rfl))⟩
  · have t7 : ((kind : Int) == 7) = false := by simp; omega
    obtain ⟨q, p3, b3, HQ, hp3, hQ⟩ := count_any B s b 2 hs (by omega) HB.out p bad hp
    have hHD : Head b s.size d kind n p bad x0 0 0 q p3 b3 oo := headF h7' hp3 hQ hoo
    have HC2 := HC
    have HG := Hid.mk' (Chg.refl B w)
    have ha : -32 ≤ (0 : Int) ∧ (0 : Int) ≤ 32 := by omega
    have hc : -32 ≤ (0 : Int) ∧ (0 : Int) ≤ 32 := by omega
    clear hQ hoo h7'
    have HHD := Hid.mk' hHD
    have hq := hHD.q3
    clear hHD
    obtain ⟨P, hP⟩ : ∃ P : Nat, P = 2 ^ q := ⟨_, rfl⟩
    obtain ⟨sz, hsz⟩ : ∃ sz : Nat, sz = n / P := ⟨_, rfl⟩
    have hP1 : 1 ≤ P := by rw [hP]; exact Nat.two_pow_pos _
    have hP8 : P ≤ 8 := by rw [hP]; exact Nat.le_trans (Nat.pow_le_pow_right (by omega) hq) (by decide)
    have hP0 : ¬ (P : Int) = 0 := by omega
    have hszn : sz ≤ n := by rw [hsz]; exact Nat.div_le_self _ _
    have hszw : IntKind.i64.wrap ((n : Int) / (P : Int)) = (sz : Int) := by
      rw [show (n : Int) / (P : Int) = (sz : Int) by rw [hsz]; simp, IntKind.wrap_i64]
      omega
    have hmul : sz * P ≤ 32 := by have := Nat.div_mul_le_self n P; rw [← hsz] at this; omega
    have hmw : IntKind.i64.wrap ((sz : Int) * (P : Int)) = (sz : Int) * (P : Int) := by
      have : ((sz * P : Nat) : Int) = (sz : Int) * (P : Int) := by simp
      rw [IntKind.wrap_i64]; omega
    have HCB : Hid (cutB n (ord kind) q = (decide (sz * P = n) && decide (ord kind < sz))) := by
      show _ = _; rw [hsz, hP]; rfl
    have HPE := Hid.mk' hP
    have hPw : IntKind.i64.wrap ((2 : Int) ^ q) = (P : Int) := by
      rw [show ((2 : Int) ^ q) = (P : Int) by rw [hP]; simp, IntKind.wrap_i64]
      omega
    have HSZ := Hid.mk' hsz
    clear hP hsz
    cases b3 with
    | true =>
      go_enter Tryz.func186, Tryz.ntmps186
      go_wp2_with (first
        | (go_at_call 184; refine (cOrderOf_any kind _ h2 h7).mono ?_; rintro e w0 ⟨rfl, hw0⟩; subst w0)
        | (go_at_call 185; refine (HS1.out _ HC.out).mono ?_; rintro e u1 ⟨rfl, hC1, hG1⟩; clear HS1; have HC1 := Hid.mk' hC1; have HG1 := Hid.mk' hG1; clear hC1 hG1)
        | (go_at_call 185; refine (HS2.out _ HC1.out).mono ?_; rintro e u2 ⟨rfl, hC2, hG2⟩; clear HS2; have HC2 := Hid.mk' hC2; have HG := Hid.mk' (HG1.out.trans hG2); clear hC2 hG2)
        | (go_at_call 183; refine (HQ.out _ HC2.out).mono ?_; rintro e u3 ⟨rfl, hC3, hG3⟩; clear HQ; obtain ⟨cc0, cc1, cc2, ff1, ff2⟩ := hC3.cells; have HC3 := Hid.mk' hC3; have HG3 := Hid.mk' (HG.out.trans hG3); clear hC3 hG3))
      go_ret
      rw [HHD.out.no rfl]
      exact ⟨rfl, (ChgS.refl _ w).chg HG3.out (.inl (.inl rfl))⟩
    | false =>
      obtain ⟨hbad, J, hJ, hoj⟩ := HHD.out.yes rfl
      subst hbad
      rw [← HPE.out, ← HSZ.out] at hJ
      have HJ := Hid.mk' hJ
      have HOJ := Hid.mk' hoj
      clear hJ hoj HHD
      by_cases hm : sz * P = n
      · have tm : ((sz : Int) * (P : Int) != (n : Int)) = false := by
          have : ((sz * P : Nat) : Int) = (sz : Int) * (P : Int) := by simp
          simp; omega
        by_cases hlo : ord kind < sz
        · have tl : decide ((sz : Int) ≤ (ord kind : Int)) = false := decide_eq_false (by omega)
          have tlN : decide (sz ≤ ord kind) = false := decide_eq_false (by omega)
          have HOK : Hid (oo = J.R ⟨p3, 0, x0⟩ n) := by
            show _ = _
            rw [HOJ.out, HCB.out, if_pos (by simp [hm, hlo])]
          clear HOJ HCB
          go_enter Tryz.func186, Tryz.ntmps186
          go_wp2_with (first
            | (go_at_call 184; refine (cOrderOf_any kind _ h2 h7).mono ?_; rintro e w0 ⟨rfl, hw0⟩; subst w0)
            | (go_at_call 185; refine (HS1.out _ HC.out).mono ?_; rintro e u1 ⟨rfl, hC1, hG1⟩; clear HS1; have HC1 := Hid.mk' hC1; have HG1 := Hid.mk' hG1; clear hC1 hG1)
            | (go_at_call 185; refine (HS2.out _ HC1.out).mono ?_; rintro e u2 ⟨rfl, hC2, hG2⟩; clear HS2; have HC2 := Hid.mk' hC2; have HG := Hid.mk' (HG1.out.trans hG2); clear hC2 hG2)
            | (go_at_call 183; refine (HQ.out _ HC2.out).mono ?_; rintro e u3 ⟨rfl, hC3, hG3⟩; clear HQ; obtain ⟨cc0, cc1, cc2, ff1, ff2⟩ := hC3.cells; have HC3 := Hid.mk' hC3; have HG3 := Hid.mk' (HG.out.trans hG3); clear hC3 hG3))
          have HI0 : Hid (CInv w u3 B g s d n p3 false x0 (ord kind)) := ⟨HG3.out.row (HROW.out (by first | rfl | trivial)) hgB, HC3.out, (ChgS.refl _ w).chg HG3.out (.inl (.inl rfl)), hp3, HX0.out⟩
          clear cc0 cc1 cc2 ff1 ff2 HC3 HG3
          go_loopw [14, 15, 16, 17, 18] (fun kv iv _ _ _ wr => ∃ i k : Nat, i ≤ n ∧ k ≤ 14 ∧ iv = .int .i64 i ∧ kv = .int .i64 k ∧ Hid (∃ st : St, J.R ⟨p3, 0, x0⟩ i = some st ∧ st.k = k ∧ CInv w wr B g s d n st.p false st.x (max i (ord kind)))) (fun _ iv _ _ _ _ => n - (intOf iv).toNat)
          case atStart => exact ⟨0, 0, by omega, by omega, rfl, rfl, ⟨p3, 0, x0⟩, rfl, rfl, by rw [show max 0 (ord kind) = ord kind by omega]; exact HI0.out⟩
          case round =>
            clear HI0
            obtain ⟨i, k, hi, hk, rfl, rfl, HX⟩ := hrel
            obtain ⟨st, hst, hstk, hI⟩ := HX.out
            have HST := Hid.mk' hst
            have HSTK := Hid.mk' hstk
            have HI := Hid.mk' hI
            have hstp := hI.p
            clear hst hstk hI HX
            by_cases hin : i < n
            · have hsz1 : ¬ (sz : Int) = 0 := by omega
              have HNONE : Hid (J.R ⟨p3, 0, x0⟩ (i + 1) = none → oo = none) := fun h => HOK.out.trans (J.R_none _ h (by omega))
              have hcast : ((i % sz : Nat) : Int) = (i : Int) % (sz : Int) := by simp
              by_cases hmod : i % sz = 0
              · have tmod : ((i : Int) % (sz : Int) == 0) = true := by rw [← hcast, hmod]; rfl
                have HM := Hid.mk' hmod
                clear hcast hmod
                obtain ⟨k1, pK, bK, HK, hpK, hK⟩ := count_any B s b 4 hs (by omega) HB.out st.p false hstp
                by_cases hk1 : k1 ≤ 14
                · have tk : decide ((14 : Int) < (k1 : Int)) = false := decide_eq_false (by omega)
                  have HNX : Hid (bK = true → J.R ⟨p3, 0, x0⟩ (i + 1) = none) := fun e => by
                    rw [J.R_count HST.out (by rw [HJ.out.2.2.2.2.2.2]; exact HM.out)]
                    rcases hK with ⟨-, -, -, -, h⟩ | ⟨h, -, -⟩
                    · rw [e] at h; cases h
                    · unfold Job.rdK
                      rw [if_neg]
                      · rfl
                      · intro h3; rw [HJ.out.2.1] at h3; exact h ⟨rfl, h3.1⟩
                  have HNY : Hid (bK = false → J.R ⟨p3, 0, x0⟩ (i + 1) = J.plc i ⟨pK, k1, st.x⟩) := fun e => by
                    rw [J.R_count HST.out (by rw [HJ.out.2.2.2.2.2.2]; exact HM.out)]
                    rcases hK with ⟨-, h4, hk4, hp4, h⟩ | ⟨-, -, h⟩
                    · unfold Job.rdK
                      rw [if_pos ⟨by rw [HJ.out.2.1]; exact h4, by rw [HJ.out.1, ← hk4]; exact hk1⟩, HJ.out.1, ← hk4, ← hp4]
                      rfl
                    · rw [e] at h; cases h
                  clear hK
                  by_cases hio : i < ord kind
                  · have tio : decide ((ord kind : Int) ≤ (i : Int)) = false := decide_eq_false (by omega)
                    have hfx : fitsB d (st.x i) = true := HI.out.fits i (by omega)
                    cases bK with
                    | true =>
                      go_wp2_with (first
                        | (go_at_call 183; refine (HK.out _ HI.out.cu).mono ?_; rintro e u1 ⟨rfl, hC1, hG1⟩; clear HK; have HI1 := Hid.mk' (HI.out.chgB hG1 hC1 hpK hgB); clear hC1 hG1; obtain ⟨cc0, cc1, cc2, ff1, ff2⟩ := HI1.out.cu.cells; have hcx := HI1.out.cell hin (by omega))
                        | (go_at_call 108; refine (cFits_any d _ _ hd1 hd).mono ?_; rintro e w0 ⟨rfl, hw0⟩; subst w0; rw [hfx]))
                      go_ret
                      rw [HNONE.out (HNX.out (by first | rfl | trivial))]
                      exact ⟨rfl, HI1.out.chg⟩
                    | false =>
                      go_wp2_with (first
                        | (go_at_call 183; refine (HK.out _ HI.out.cu).mono ?_; rintro e u1 ⟨rfl, hC1, hG1⟩; clear HK; have HI1 := Hid.mk' (HI.out.chgB hG1 hC1 hpK hgB); clear hC1 hG1; obtain ⟨cc0, cc1, cc2, ff1, ff2⟩ := HI1.out.cu.cells; have hcx := HI1.out.cell hin (by omega))
                        | (go_at_call 108; refine (cFits_any d _ _ hd1 hd).mono ?_; rintro e w0 ⟨rfl, hw0⟩; subst w0; rw [hfx]))
                      go_roundw
                      case rel =>
                        refine ⟨i + 1, k1, by omega, hk1, by go_num, rfl, ⟨pK, k1, st.x⟩, ?_, rfl, ?_⟩
                        · rw [HNY.out (by first | rfl | trivial)]; unfold Job.plc; rw [if_pos (by rw [HJ.out.2.2.2.1]; exact hio)]
                        · rw [show max (i + 1) (ord kind) = max i (ord kind) by omega]; exact HI1.out
                      case measure => simp [intOf]; omega
                  · have tio : decide ((ord kind : Int) ≤ (i : Int)) = true := decide_eq_true (by omega)
                    have tioN : decide (ord kind ≤ i) = true := decide_eq_true (by omega)
                    rw [show max i (ord kind) = i by omega] at HI
                    have HX4 : Hid (∀ j, j < i → -4096 ≤ st.x j ∧ st.x j ≤ 4096) := fun j hj => fits_bd (HI.out.fits j hj) hd
                    obtain ⟨G, hG⟩ : ∃ G, G = guessG kind 0 0 st.x i := ⟨_, rfl⟩
                    have hGb : -524288 ≤ G ∧ G ≤ 524288 := by rw [hG]; exact guessG_bd h2 h7 ha hc HX4.out (by omega)
                    have HGU : Hid (∀ u : World, u.rowIs g 3 n (cutV i st.x) → TabAt u 3 → Calls Tryz.prog 196 #[.int .i64 kind, .int .i64 0, .int .i64 0, .slice (some ⟨g, 0, none⟩) n n, .int .i64 i] u fun e w' => e = .returned (.int .i64 G) ∧ ∃ m, w' = u.drewN m) := fun u hu hTu => by
                      rw [hG]; exact cGuess_any kind 0 0 g n i i st.x u h2 h7 ha hc hn hin (by omega) HX4.out hu (Nat.le_refl _) hTu
                    have HGE := Hid.mk' hG
                    clear hG
                    have HRI0 := Hid.mk' (fun (u : World) (hu : Cu u B s pK bK) => cRice_any B s b pK k1 bK u hs hpK hk1 hu HB.out)
                    generalize hro : (if bK = true then none else rice b s.size k1 pK) = ro at HRI0
                    cases ro with
                    | none =>
                      have HRI : Hid (∀ u : World, Cu u B s pK bK → Calls Tryz.prog 208 #[.pointer (some ⟨B, 0, none⟩), .int .i64 k1] u fun e u' => ∃ v p', e = .returned (.int .i64 v) ∧ (-1400000000 ≤ v ∧ v ≤ 1400000000) ∧ p' ≤ s.size ∧ Cu u' B s p' true ∧ Chg B u u') := HRI0.out
                      have HNO : Hid (J.R ⟨p3, 0, x0⟩ (i + 1) = none) := by
                        show _ = _
                        cases bK with
                        | true => exact HNX.out (by first | rfl | trivial)
                        | false =>
                          rw [HNY.out (by first | rfl | trivial)]
                          rw [if_neg (by simp)] at hro
                          obtain ⟨j1, j2, j3, j4, j5, j6, j7⟩ := HJ.out
                          exact Job.plc_none (by rw [j4]; exact hio) (by rw [j1, j2]; exact hro)
                      clear HRI0 hro HNX HNY
                      go_wp2_with (first
                        | (go_at_call 183; refine (HK.out _ HI.out.cu).mono ?_; rintro e u1 ⟨rfl, hC1, hG1⟩; clear HK; have HI1 := Hid.mk' (HI.out.chgB hG1 hC1 hpK hgB); clear hC1 hG1)
                        | (go_at_call 208; refine (HRI.out _ HI1.out.cu).mono ?_; rintro e u2 ⟨v, pR, rfl, hv, hpR, hC2, hG2⟩; clear HRI; have HI2 := Hid.mk' (HI1.out.chgB hG2 hC2 hpR hgB); clear hC2 hG2)
                        | (go_at_call 196; refine (HGU.out _ HI2.out.row (HI2.out.chg.tab HT.out hT3 (by omega))).mono ?_; rintro e w0 ⟨rfl, m, hw0⟩; subst w0; have hfr := HI2.out.row.frozen i; have hc0 := row_at HI2.out.row hin; have tz : IntKind.i64.wrap (G + v) = G + v := (by rw [IntKind.wrap_i64]; omega); have hcell := row_put (HI2.out.drewN m).row hin (G + v); have hbadc := (((Chg.refl g _).set i (.int .i64 (G + v))).cu (HI2.out.drewN m).cu (Ne.symm hgB)).cells.2.2.1)
                        | (go_at_call 108; refine (cFits_any d _ _ hd1 hd).mono ?_; rintro e w0 ⟨rfl, hw0⟩; subst w0))
                      all_goals
                        go_ret
                        rw [HNONE.out HNO.out]
                        exact ⟨rfl, (HI2.out.drewN m).chg.chg ((Chg.refl g _).set i _) (.inl (.inr rfl))⟩
                    | some vp =>
                      obtain ⟨v, pR⟩ := vp
                      have hbK : bK = false := by
                        cases bK with
                        | false => rfl
                        | true => simp at hro
                      subst hbK
                      rw [if_neg (by simp)] at hro
                      have HRI : Hid (∀ u : World, Cu u B s pK false → Calls Tryz.prog 208 #[.pointer (some ⟨B, 0, none⟩), .int .i64 k1] u fun e u' => e = .returned (.int .i64 v) ∧ Cu u' B s pR false ∧ Chg B u u') := HRI0.out
                      obtain ⟨hv, -, hpR⟩ := rice_bd hro hs hk1
                      have HRO := Hid.mk' hro
                      clear HRI0 hro HNX
                      cases hfz : fitsB d (G + v) with
                      | true =>
                        have HFZ := Hid.mk' hfz
                        have HNO : Hid (J.R ⟨p3, 0, x0⟩ (i + 1) = some ⟨pR, k1, updI st.x i (G + v)⟩) := by
                          show _ = _
                          rw [HNY.out (by first | rfl | trivial)]
                          obtain ⟨j1, j2, j3, j4, j5, j6, j7⟩ := HJ.out
                          have e := HGE.out
                          rw [Job.plc_yes (v := v) (p' := pR) (by rw [j4]; exact hio) (by rw [j1, j2]; exact HRO.out) (by rw [j3, j4, j5, j6, ← e]; exact hfz), j4, j5, j6, ← e]
                        clear HNY
                        go_wp2_with (first
                          | (go_at_call 183; refine (HK.out _ HI.out.cu).mono ?_; rintro e u1 ⟨rfl, hC1, hG1⟩; clear HK; have HI1 := Hid.mk' (HI.out.chgB hG1 hC1 hpK hgB); clear hC1 hG1)
                          | (go_at_call 208; refine (HRI.out _ HI1.out.cu).mono ?_; rintro e u2 ⟨rfl, hC2, hG2⟩; clear HRI; have HI2 := Hid.mk' (HI1.out.chgB hG2 hC2 hpR hgB); clear hC2 hG2)
                          | (go_at_call 196; refine (HGU.out _ HI2.out.row (HI2.out.chg.tab HT.out hT3 (by omega))).mono ?_; rintro e w0 ⟨rfl, m, hw0⟩; subst w0; have hfr := HI2.out.row.frozen i; have hc0 := row_at HI2.out.row hin; have tz : IntKind.i64.wrap (G + v) = G + v := (by rw [IntKind.wrap_i64]; omega); have hcell := row_put (HI2.out.drewN m).row hin (G + v); have hbadc := (((Chg.refl g _).set i (.int .i64 (G + v))).cu (HI2.out.drewN m).cu (Ne.symm hgB)).cells.2.2.1)
                          | (go_at_call 108; refine (cFits_any d _ _ hd1 hd).mono ?_; rintro e w0 ⟨rfl, hw0⟩; subst w0; rw [hfz]))
                        go_roundw
                        case rel =>
                          refine ⟨i + 1, k1, by omega, hk1, by go_num, rfl, _, HNO.out, rfl, ?_⟩
                          rw [show max (i + 1) (ord kind) = i + 1 by omega]
                          exact (HI2.out.drewN m).put (G + v) HFZ.out hgB
                        case measure => simp [intOf]; omega
                      | false =>
                        have HNO : Hid (J.R ⟨p3, 0, x0⟩ (i + 1) = none) := by
                          show _ = _
                          rw [HNY.out (by first | rfl | trivial)]
                          obtain ⟨j1, j2, j3, j4, j5, j6, j7⟩ := HJ.out
                          have e := HGE.out
                          exact Job.plc_no (v := v) (p' := pR) (by rw [j4]; exact hio) (by rw [j1, j2]; exact HRO.out) (by rw [j3, j4, j5, j6, ← e]; exact hfz)
                        clear HNY
                        go_wp2_with (first
                          | (go_at_call 183; refine (HK.out _ HI.out.cu).mono ?_; rintro e u1 ⟨rfl, hC1, hG1⟩; clear HK; have HI1 := Hid.mk' (HI.out.chgB hG1 hC1 hpK hgB); clear hC1 hG1)
                          | (go_at_call 208; refine (HRI.out _ HI1.out.cu).mono ?_; rintro e u2 ⟨rfl, hC2, hG2⟩; clear HRI; have HI2 := Hid.mk' (HI1.out.chgB hG2 hC2 hpR hgB); clear hC2 hG2)
                          | (go_at_call 196; refine (HGU.out _ HI2.out.row (HI2.out.chg.tab HT.out hT3 (by omega))).mono ?_; rintro e w0 ⟨rfl, m, hw0⟩; subst w0; have hfr := HI2.out.row.frozen i; have hc0 := row_at HI2.out.row hin; have tz : IntKind.i64.wrap (G + v) = G + v := (by rw [IntKind.wrap_i64]; omega); have hcell := row_put (HI2.out.drewN m).row hin (G + v); have hbadc := (((Chg.refl g _).set i (.int .i64 (G + v))).cu (HI2.out.drewN m).cu (Ne.symm hgB)).cells.2.2.1)
                          | (go_at_call 108; refine (cFits_any d _ _ hd1 hd).mono ?_; rintro e w0 ⟨rfl, hw0⟩; subst w0; rw [hfz]))
                        go_ret
                        rw [HNONE.out HNO.out]
                        exact ⟨rfl, (HI2.out.drewN m).chg.chg ((Chg.refl g _).set i _) (.inl (.inr rfl))⟩
                · have tk : decide ((14 : Int) < (k1 : Int)) = true := decide_eq_true (by omega)
                  have HNO : Hid (J.R ⟨p3, 0, x0⟩ (i + 1) = none) := by
                    show _ = _
                    rw [J.R_count HST.out (by rw [HJ.out.2.2.2.2.2.2]; exact HM.out)]
                    unfold Job.rdK
                    rw [if_neg]
                    · rfl
                    · intro h3
                      rw [HJ.out.1] at h3
                      rcases hK with ⟨-, -, h, -, -⟩ | ⟨-, h, -⟩ <;> omega
                  clear hK
                  go_wp2_with (go_at_call 183; refine (HK.out _ HI.out.cu).mono ?_; rintro e u1 ⟨rfl, hC1, hG1⟩; clear HK; have HI1 := Hid.mk' (HI.out.chgB hG1 hC1 hpK hgB); clear hC1 hG1)
                  go_ret
                  rw [HNONE.out HNO.out]
                  exact ⟨rfl, HI1.out.chg⟩
              · have tmod : ((i : Int) % (sz : Int) == 0) = false := by rw [← hcast]; simp; omega
                have HM := Hid.mk' hmod
                clear hcast hmod
                have HNY : Hid (J.R ⟨p3, 0, x0⟩ (i + 1) = J.plc i ⟨st.p, k, st.x⟩) := by
                  show _ = _
                  rw [J.R_same HST.out (by rw [HJ.out.2.2.2.2.2.2]; exact HM.out), ← HSTK.out]
                by_cases hio : i < ord kind
                · have tio : decide ((ord kind : Int) ≤ (i : Int)) = false := decide_eq_false (by omega)
                  have hfx : fitsB d (st.x i) = true := HI.out.fits i (by omega)
                  have HI1 := HI
                  obtain ⟨cc0, cc1, cc2, ff1, ff2⟩ := HI1.out.cu.cells
                  have hcx := HI1.out.cell hin (by omega)
                  go_wp2_with (first
                    | (go_at_call 108; refine (cFits_any d _ _ hd1 hd).mono ?_; rintro e w0 ⟨rfl, hw0⟩; subst w0; rw [hfx]))
                  go_roundw
                  case rel =>
                    refine ⟨i + 1, k, by omega, hk, by go_num, rfl, ⟨st.p, k, st.x⟩, ?_, rfl, ?_⟩
                    · rw [HNY.out]; unfold Job.plc; rw [if_pos (by rw [HJ.out.2.2.2.1]; exact hio)]
                    · rw [show max (i + 1) (ord kind) = max i (ord kind) by omega]; exact HI1.out
                  case measure => simp [intOf]; omega
                · have tio : decide ((ord kind : Int) ≤ (i : Int)) = true := decide_eq_true (by omega)
                  have tioN : decide (ord kind ≤ i) = true := decide_eq_true (by omega)
                  rw [show max i (ord kind) = i by omega] at HI
                  have HI1 := HI
                  have HX4 : Hid (∀ j, j < i → -4096 ≤ st.x j ∧ st.x j ≤ 4096) := fun j hj => fits_bd (HI.out.fits j hj) hd
                  obtain ⟨G, hG⟩ : ∃ G, G = guessG kind 0 0 st.x i := ⟨_, rfl⟩
                  have hGb : -524288 ≤ G ∧ G ≤ 524288 := by rw [hG]; exact guessG_bd h2 h7 ha hc HX4.out (by omega)
                  have HGU : Hid (∀ u : World, u.rowIs g 3 n (cutV i st.x) → TabAt u 3 → Calls Tryz.prog 196 #[.int .i64 kind, .int .i64 0, .int .i64 0, .slice (some ⟨g, 0, none⟩) n n, .int .i64 i] u fun e w' => e = .returned (.int .i64 G) ∧ ∃ m, w' = u.drewN m) := fun u hu hTu => by
                    rw [hG]; exact cGuess_any kind 0 0 g n i i st.x u h2 h7 ha hc hn hin (by omega) HX4.out hu (Nat.le_refl _) hTu
                  have HGE := Hid.mk' hG
                  clear hG
                  have HRI0 := Hid.mk' (fun (u : World) (hu : Cu u B s st.p false) => cRice_any B s b st.p k false u hs hstp hk hu HB.out)
                  generalize hro : (if false = true then none else rice b s.size k st.p) = ro at HRI0
                  cases ro with
                  | none =>
                    have HRI : Hid (∀ u : World, Cu u B s st.p false → Calls Tryz.prog 208 #[.pointer (some ⟨B, 0, none⟩), .int .i64 k] u fun e u' => ∃ v p', e = .returned (.int .i64 v) ∧ (-1400000000 ≤ v ∧ v ≤ 1400000000) ∧ p' ≤ s.size ∧ Cu u' B s p' true ∧ Chg B u u') := HRI0.out
                    have HNO : Hid (J.R ⟨p3, 0, x0⟩ (i + 1) = none) := by
                      show _ = _
                      rw [HNY.out]
                      rw [if_neg (by simp)] at hro
                      obtain ⟨j1, j2, j3, j4, j5, j6, j7⟩ := HJ.out
                      exact Job.plc_none (by rw [j4]; exact hio) (by rw [j1, j2]; exact hro)
                    clear HRI0 hro HNY
                    go_wp2_with (first
                      | (go_at_call 208; refine (HRI.out _ HI1.out.cu).mono ?_; rintro e u2 ⟨v, pR, rfl, hv, hpR, hC2, hG2⟩; clear HRI; have HI2 := Hid.mk' (HI1.out.chgB hG2 hC2 hpR hgB); clear hC2 hG2)
                      | (go_at_call 196; refine (HGU.out _ HI2.out.row (HI2.out.chg.tab HT.out hT3 (by omega))).mono ?_; rintro e w0 ⟨rfl, m, hw0⟩; subst w0; have hfr := HI2.out.row.frozen i; have hc0 := row_at HI2.out.row hin; have tz : IntKind.i64.wrap (G + v) = G + v := (by rw [IntKind.wrap_i64]; omega); have hcell := row_put (HI2.out.drewN m).row hin (G + v); have hbadc := (((Chg.refl g _).set i (.int .i64 (G + v))).cu (HI2.out.drewN m).cu (Ne.symm hgB)).cells.2.2.1)
                      | (go_at_call 108; refine (cFits_any d _ _ hd1 hd).mono ?_; rintro e w0 ⟨rfl, hw0⟩; subst w0))
                    all_goals
                      go_ret
                      rw [HNONE.out HNO.out]
                      exact ⟨rfl, (HI2.out.drewN m).chg.chg ((Chg.refl g _).set i _) (.inl (.inr rfl))⟩
                  | some vp =>
                    obtain ⟨v, pR⟩ := vp
                    rw [if_neg (by simp)] at hro
                    have HRI : Hid (∀ u : World, Cu u B s st.p false → Calls Tryz.prog 208 #[.pointer (some ⟨B, 0, none⟩), .int .i64 k] u fun e u' => e = .returned (.int .i64 v) ∧ Cu u' B s pR false ∧ Chg B u u') := HRI0.out
                    obtain ⟨hv, -, hpR⟩ := rice_bd hro hs hk
                    have HRO := Hid.mk' hro
                    clear HRI0 hro
                    cases hfz : fitsB d (G + v) with
                    | true =>
                      have HFZ := Hid.mk' hfz
                      have HNO : Hid (J.R ⟨p3, 0, x0⟩ (i + 1) = some ⟨pR, k, updI st.x i (G + v)⟩) := by
                        show _ = _
                        rw [HNY.out]
                        obtain ⟨j1, j2, j3, j4, j5, j6, j7⟩ := HJ.out
                        have e := HGE.out
                        rw [Job.plc_yes (v := v) (p' := pR) (by rw [j4]; exact hio) (by rw [j1, j2]; exact HRO.out) (by rw [j3, j4, j5, j6, ← e]; exact hfz), j4, j5, j6, ← e]
                      clear HNY
                      go_wp2_with (first
                        | (go_at_call 208; refine (HRI.out _ HI1.out.cu).mono ?_; rintro e u2 ⟨rfl, hC2, hG2⟩; clear HRI; have HI2 := Hid.mk' (HI1.out.chgB hG2 hC2 hpR hgB); clear hC2 hG2)
                        | (go_at_call 196; refine (HGU.out _ HI2.out.row (HI2.out.chg.tab HT.out hT3 (by omega))).mono ?_; rintro e w0 ⟨rfl, m, hw0⟩; subst w0; have hfr := HI2.out.row.frozen i; have hc0 := row_at HI2.out.row hin; have tz : IntKind.i64.wrap (G + v) = G + v := (by rw [IntKind.wrap_i64]; omega); have hcell := row_put (HI2.out.drewN m).row hin (G + v); have hbadc := (((Chg.refl g _).set i (.int .i64 (G + v))).cu (HI2.out.drewN m).cu (Ne.symm hgB)).cells.2.2.1)
                        | (go_at_call 108; refine (cFits_any d _ _ hd1 hd).mono ?_; rintro e w0 ⟨rfl, hw0⟩; subst w0; rw [hfz]))
                      go_roundw
                      case rel =>
                        refine ⟨i + 1, k, by omega, hk, by go_num, rfl, _, HNO.out, rfl, ?_⟩
                        rw [show max (i + 1) (ord kind) = i + 1 by omega]
                        exact (HI2.out.drewN m).put (G + v) HFZ.out hgB
                      case measure => simp [intOf]; omega
                    | false =>
                      have HNO : Hid (J.R ⟨p3, 0, x0⟩ (i + 1) = none) := by
                        show _ = _
                        rw [HNY.out]
                        obtain ⟨j1, j2, j3, j4, j5, j6, j7⟩ := HJ.out
                        have e := HGE.out
                        exact Job.plc_no (v := v) (p' := pR) (by rw [j4]; exact hio) (by rw [j1, j2]; exact HRO.out) (by rw [j3, j4, j5, j6, ← e]; exact hfz)
                      clear HNY
                      go_wp2_with (first
                        | (go_at_call 208; refine (HRI.out _ HI1.out.cu).mono ?_; rintro e u2 ⟨rfl, hC2, hG2⟩; clear HRI; have HI2 := Hid.mk' (HI1.out.chgB hG2 hC2 hpR hgB); clear hC2 hG2)
                        | (go_at_call 196; refine (HGU.out _ HI2.out.row (HI2.out.chg.tab HT.out hT3 (by omega))).mono ?_; rintro e w0 ⟨rfl, m, hw0⟩; subst w0; have hfr := HI2.out.row.frozen i; have hc0 := row_at HI2.out.row hin; have tz : IntKind.i64.wrap (G + v) = G + v := (by rw [IntKind.wrap_i64]; omega); have hcell := row_put (HI2.out.drewN m).row hin (G + v); have hbadc := (((Chg.refl g _).set i (.int .i64 (G + v))).cu (HI2.out.drewN m).cu (Ne.symm hgB)).cells.2.2.1)
                        | (go_at_call 108; refine (cFits_any d _ _ hd1 hd).mono ?_; rintro e w0 ⟨rfl, hw0⟩; subst w0; rw [hfz]))
                      go_ret
                      rw [HNONE.out HNO.out]
                      exact ⟨rfl, (HI2.out.drewN m).chg.chg ((Chg.refl g _).set i _) (.inl (.inr rfl))⟩
            · have e : i = n := by omega
              subst e
              go_wp2
              go_ret
              rw [HOK.out, HST.out]
              refine ⟨rfl, ?_, HI.out.cu, HI.out.chg⟩
              have := HI.out.row
              rw [show max i (ord kind) = i by omega] at this
              exact this
        · have tl : decide ((sz : Int) ≤ (ord kind : Int)) = true := decide_eq_true (by omega)
          have HNO : Hid (oo = none) := by
            show _ = _
            rw [HOJ.out, HCB.out, if_neg (by simp [hlo])]
          go_enter Tryz.func186, Tryz.ntmps186
          go_wp2_with (first
            | (go_at_call 184; refine (cOrderOf_any kind _ h2 h7).mono ?_; rintro e w0 ⟨rfl, hw0⟩; subst w0)
            | (go_at_call 185; refine (HS1.out _ HC.out).mono ?_; rintro e u1 ⟨rfl, hC1, hG1⟩; clear HS1; have HC1 := Hid.mk' hC1; have HG1 := Hid.mk' hG1; clear hC1 hG1)
            | (go_at_call 185; refine (HS2.out _ HC1.out).mono ?_; rintro e u2 ⟨rfl, hC2, hG2⟩; clear HS2; have HC2 := Hid.mk' hC2; have HG := Hid.mk' (HG1.out.trans hG2); clear hC2 hG2)
            | (go_at_call 183; refine (HQ.out _ HC2.out).mono ?_; rintro e u3 ⟨rfl, hC3, hG3⟩; clear HQ; obtain ⟨cc0, cc1, cc2, ff1, ff2⟩ := hC3.cells; have HC3 := Hid.mk' hC3; have HG3 := Hid.mk' (HG.out.trans hG3); clear hC3 hG3))
          go_ret
          rw [HNO.out]
          exact ⟨rfl, (ChgS.refl _ w).chg HG3.out (.inl (.inl rfl))⟩
      · have tm : ((sz : Int) * (P : Int) != (n : Int)) = true := by
          have : ((sz * P : Nat) : Int) = (sz : Int) * (P : Int) := by simp
          simp; omega
        have HNO : Hid (oo = none) := by
          show _ = _
          rw [HOJ.out, HCB.out, if_neg (by simp [hm])]
        go_enter Tryz.func186, Tryz.ntmps186
        go_wp2_with (first
          | (go_at_call 184; refine (cOrderOf_any kind _ h2 h7).mono ?_; rintro e w0 ⟨rfl, hw0⟩; subst w0)
          | (go_at_call 185; refine (HS1.out _ HC.out).mono ?_; rintro e u1 ⟨rfl, hC1, hG1⟩; clear HS1; have HC1 := Hid.mk' hC1; have HG1 := Hid.mk' hG1; clear hC1 hG1)
          | (go_at_call 185; refine (HS2.out _ HC1.out).mono ?_; rintro e u2 ⟨rfl, hC2, hG2⟩; clear HS2; have HC2 := Hid.mk' hC2; have HG := Hid.mk' (HG1.out.trans hG2); clear hC2 hG2)
          | (go_at_call 183; refine (HQ.out _ HC2.out).mono ?_; rintro e u3 ⟨rfl, hC3, hG3⟩; clear HQ; obtain ⟨cc0, cc1, cc2, ff1, ff2⟩ := hC3.cells; have HC3 := Hid.mk' hC3; have HG3 := Hid.mk' (HG.out.trans hG3); clear hC3 hG3))
        go_ret
        rw [HNO.out]
        exact ⟨rfl, (ChgS.refl _ w).chg HG3.out (.inl (.inl rfl))⟩
end Go.Proofs.YtlncjgnomhpjnaaGreatDoor

