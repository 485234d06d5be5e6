import Derived.Test.YtlncjgnomhpjnabGreatDoorQT44
/-
  What the laws ask of a line: grown, placed.
-/
namespace Go.Proofs.YtlncjgnomhpjnabGreatDoor
open Go.RowKit Go.Deep
set_option linter.unusedVariables false
set_option maxRecDepth 100000 in
set_option maxHeartbeats 2000000 in
theorem grown_yes (ps qs : Int) (pg pu pw pn qg qu qw qn pe pk qe qk : Nat) (p5 p6 p7 p8 p9 q5 q6 q7 q8 q9 : Value) (pA qA : Option Addr) (w : World) (h1 : pg ≤ qg) (h2 : pu ≤ qu) (h3 : pw ≤ qw) (h4 : pn ≤ qn) (h5 : pe ≤ qe) :
    Calls Tryz.prog 50 #[.agg #[.int .i64 ps, .int .i64 (pg : Nat), .int .i64 (pu : Nat), .int .i64 (pw : Nat), .int .i64 (pn : Nat), p5, p6, p7, p8, p9, .slice pA pe pk], .agg #[.int .i64 qs, .int .i64 (qg : Nat), .int .i64 (qu : Nat), .int .i64 (qw : Nat), .int .i64 (qn : Nat), q5, q6, q7, q8, q9, .slice qA qe qk]] w fun e w' => e = .returned (.bool true) ∧ Below w.heap.size w w' := by
  have hx := (Bx.new w #[.int .i64 ps, .int .i64 (pg : Nat), .int .i64 (pu : Nat), .int .i64 (pw : Nat), .int .i64 (pn : Nat), p5, p6, p7, p8, p9, .slice pA pe pk] 64).alloc (.cells #[.int .i64 qs, .int .i64 (qg : Nat), .int .i64 (qu : Nat), .int .i64 (qw : Nat), .int .i64 (qn : Nat), q5, q6, q7, q8, q9, .slice qA qe qk] 64)
  have hy := Bx.new2 (u := w.alloc (.cells #[.int .i64 ps, .int .i64 (pg : Nat), .int .i64 (pu : Nat), .int .i64 (pw : Nat), .int .i64 (pn : Nat), p5, p6, p7, p8, p9, .slice pA pe pk] 64)) (k := w.heap.size + 1) (by simp) #[.int .i64 qs, .int .i64 (qg : Nat), .int .i64 (qu : Nat), .int .i64 (qw : Nat), .int .i64 (qn : Nat), q5, q6, q7, q8, q9, .slice qA qe qk] 64
  have x1 := hx.cell 1; have x2 := hx.cell 2; have x3 := hx.cell 3; have x4 := hx.cell 4; have x10 := hx.cell 10
  have y1 := hy.cell 1; have y2 := hy.cell 2; have y3 := hy.cell 3; have y4 := hy.cell 4; have y10 := hy.cell 10
  simp at x1 x2 x3 x4 x10 y1 y2 y3 y4 y10
  clear hx hy
  have i1 : (pg : Int) ≤ (qg : Int) := by omega
  have i2 : (pu : Int) ≤ (qu : Int) := by omega
  have i3 : (pw : Int) ≤ (qw : Int) := by omega
  have i4 : (pn : Int) ≤ (qn : Int) := by omega
  have i5 : (pe : Int) ≤ (qe : Int) := by omega
  go_enter Tryz.func50, Tryz.ntmps50
  go_wp2
  go_ret
  exact ⟨rfl, ((Below.refl _ _).alloc (Nat.le_refl _) _).alloc (by simp) _⟩
/-- What a worker holds, as a number. -/
def hI (H : Nat → Option Nat) (i : Nat) : Int := match H i with
  | none => -1
  | some k => k
def cntH (H : Nat → Option Nat) (q : Nat) : Nat := ((List.range q).filterMap H).length
theorem cntH_le (H : Nat → Option Nat) (q : Nat) : cntH H q ≤ q := by
  have := List.length_filterMap_le H (List.range q)
  rw [List.length_range] at this
  exact this
theorem cntH_next (H : Nat → Option Nat) (q : Nat) : cntH H (q + 1) = cntH H q + (match H q with | none => 0 | some _ => 1) := by
  unfold cntH
  rw [List.range_succ, List.filterMap_append, List.length_append]
  congr 1
  cases h : H q <;> simp [h]
theorem hI_inj {H : Nat → Option Nat} {i k : Nat} (h : hI H i = (k : Int)) : H i = some k := by
  unfold hI at h
  cases hHi : H i with
  | none =>
    rw [hHi] at h
    simp at h
  | some k' =>
    rw [hHi] at h
    exact congrArg some (Int.ofNat.inj h)
theorem drewN_cell (u : World) (m : Nat) (a : Addr) : (u.drewN m).cell? a = u.cell? a := rfl
set_option linter.unusedSimpArgs false in
set_option maxRecDepth 100000 in
set_option maxHeartbeats 8000000 in
theorem placed_yes (st c0 c1 c2 c3 c4 : Int) (gi su wo wn J Ln R W k1 SH k2 Wd Rm n : Nat) (A1 A2 : Option Addr) (v10 : Value) (H : Nat → Option Nat) (sh : Nat → Nat) (w : World)
    (hJ : J ≤ Rm) (hLn : Ln ≤ Rm) (hR : R ≤ Rm) (hRm : Rm ≤ 8) (hwo : wo ≤ gi) (hgi : gi ≤ n) (hn : n ≤ 300) (hwd : gi - wo ≤ Wd) (hWd : Wd ≤ 16) (hsu : su ≤ gi) (hln : gi - su = Ln) (hW : W ≤ 8) (hk1 : W ≤ k1) (hSH : SH ≤ 300)
    (hA1 : ∀ i, i < W → ∃ g, A1 = some ⟨g, 0, none⟩ ∧ w.cell? ⟨g, i, none⟩ = some (.int .i64 (hI H i))) (hA2 : ∀ i, i < SH → ∃ g, A2 = some ⟨g, 0, none⟩ ∧ w.cell? ⟨g, i, none⟩ = some (.int .i64 (sh i : Nat)))
    (hh : ∀ i, i < W → ∀ k, H i = some k → wo ≤ k ∧ k < gi ∧ (∀ j, j < i → H j ≠ some k) ∧ (∀ j, j < SH → sh j ≠ k)) (hs : ∀ i, i < SH → wo ≤ sh i ∧ sh i < gi ∧ ∀ j, j + 1 = i → sh j < sh i) (hc : J + cntH H W + R + SH = gi - wo) :
    Calls Tryz.prog 49 #[.agg #[.int .i64 st, .int .i64 (gi : Nat), .int .i64 (su : Nat), .int .i64 (wo : Nat), .int .i64 (wn : Nat), .int .i64 (J : Nat), .int .i64 (Ln : Nat), .int .i64 (R : Nat), .slice A1 W k1, .slice A2 SH k2, v10], .agg #[.int .i64 c0, .int .i64 c1, .int .i64 c2, .int .i64 c3, .int .i64 c4, .int .i64 W, .int .i64 Wd, .int .i64 Rm], .int .i64 n] w fun e w' => e = .returned (.bool true) ∧ Below w.heap.size w w' := by
  have hx := (Bx.new w #[.int .i64 st, .int .i64 (gi : Nat), .int .i64 (su : Nat), .int .i64 (wo : Nat), .int .i64 (wn : Nat), .int .i64 (J : Nat), .int .i64 (Ln : Nat), .int .i64 (R : Nat), .slice A1 W k1, .slice A2 SH k2, v10] 64).alloc (.cells #[.int .i64 c0, .int .i64 c1, .int .i64 c2, .int .i64 c3, .int .i64 c4, .int .i64 W, .int .i64 Wd, .int .i64 Rm] 23)
  have hy := Bx.new2 (u := w.alloc (.cells #[.int .i64 st, .int .i64 (gi : Nat), .int .i64 (su : Nat), .int .i64 (wo : Nat), .int .i64 (wn : Nat), .int .i64 (J : Nat), .int .i64 (Ln : Nat), .int .i64 (R : Nat), .slice A1 W k1, .slice A2 SH k2, v10] 64)) (k := w.heap.size + 1) (by simp) #[.int .i64 c0, .int .i64 c1, .int .i64 c2, .int .i64 c3, .int .i64 c4, .int .i64 W, .int .i64 Wd, .int .i64 Rm] 23
  have hbV : Below w.heap.size w ((w.alloc (.cells #[.int .i64 st, .int .i64 (gi : Nat), .int .i64 (su : Nat), .int .i64 (wo : Nat), .int .i64 (wn : Nat), .int .i64 (J : Nat), .int .i64 (Ln : Nat), .int .i64 (R : Nat), .slice A1 W k1, .slice A2 SH k2, v10] 64)).alloc (.cells #[.int .i64 c0, .int .i64 c1, .int .i64 c2, .int .i64 c3, .int .i64 c4, .int .i64 W, .int .i64 Wd, .int .i64 Rm] 23)) := ((Below.refl _ _).alloc (Nat.le_refl _) _).alloc (by simp) _
  have HBV := Hid.mk' hbV
  have x1 := hx.cell 1; have x2 := hx.cell 2; have x3 := hx.cell 3; have x5 := hx.cell 5; have x6 := hx.cell 6; have x7 := hx.cell 7; have x8 := hx.cell 8; have x9 := hx.cell 9
  have y5 := hy.cell 5; have y6 := hy.cell 6; have y7 := hy.cell 7
  simp at x1 x2 x3 x5 x6 x7 x8 x9 y5 y6 y7
  have HA1 : Hid (∀ i, i < W → ∃ g, A1 = some ⟨g, 0, none⟩ ∧ ((w.alloc (.cells #[.int .i64 st, .int .i64 (gi : Nat), .int .i64 (su : Nat), .int .i64 (wo : Nat), .int .i64 (wn : Nat), .int .i64 (J : Nat), .int .i64 (Ln : Nat), .int .i64 (R : Nat), .slice A1 W k1, .slice A2 SH k2, v10] 64)).alloc (.cells #[.int .i64 c0, .int .i64 c1, .int .i64 c2, .int .i64 c3, .int .i64 c4, .int .i64 W, .int .i64 Wd, .int .i64 Rm] 23)).cell? ⟨g, i, none⟩ = some (.int .i64 (hI H i))) := fun i hi => by
    obtain ⟨g, rfl, h1⟩ := hA1 i hi
    exact ⟨g, rfl, (cellOf (hbV.block g (World.block_lt_of_cell? w _ h1))).trans h1⟩
  have HA2 : Hid (∀ i, i < SH → ∃ g, A2 = some ⟨g, 0, none⟩ ∧ ((w.alloc (.cells #[.int .i64 st, .int .i64 (gi : Nat), .int .i64 (su : Nat), .int .i64 (wo : Nat), .int .i64 (wn : Nat), .int .i64 (J : Nat), .int .i64 (Ln : Nat), .int .i64 (R : Nat), .slice A1 W k1, .slice A2 SH k2, v10] 64)).alloc (.cells #[.int .i64 c0, .int .i64 c1, .int .i64 c2, .int .i64 c3, .int .i64 c4, .int .i64 W, .int .i64 Wd, .int .i64 Rm] 23)).cell? ⟨g, i, none⟩ = some (.int .i64 (sh i : Nat))) := fun i hi => by
    obtain ⟨g, rfl, h1⟩ := hA2 i hi
    exact ⟨g, rfl, (cellOf (hbV.block g (World.block_lt_of_cell? w _ h1))).trans h1⟩
  clear hx hy hbV hA1 hA2
  have i1 : ¬ ((J : Int) < 0) := by omega
  have i2 : ¬ ((Rm : Int) < (J : Int)) := by omega
  have i3 : ¬ ((Ln : Int) < 0) := by omega
  have i4 : ¬ ((Rm : Int) < (Ln : Int)) := by omega
  have i5 : ¬ ((R : Int) < 0) := by omega
  have i6 : ¬ ((Rm : Int) < (R : Int)) := by omega
  have i7 : ¬ ((wo : Int) < 0) := by omega
  have i8 : ¬ ((gi : Int) < (wo : Int)) := by omega
  have i9 : ¬ ((n : Int) < (gi : Int)) := by omega
  have w1 : IntKind.i64.wrap ((gi : Int) - (wo : Int)) = ((gi - wo : Nat) : Int) := by rw [IntKind.wrap_i64]; omega
  have w2 : IntKind.i64.wrap ((gi : Int) - (su : Int)) = (Ln : Int) := by rw [IntKind.wrap_i64]; omega
  have i10 : ¬ ((Wd : Int) < ((gi - wo : Nat) : Int)) := by omega
  have HH := Hid.mk' hh
  have HS := Hid.mk' hs
  have HC := Hid.mk' hc
  have HLE := Hid.mk' (cntH_le H)
  have HWO := Hid.mk' hwo
  have HNX := Hid.mk' (cntH_next H)
  have HMI := Hid.mk' (fun A n cap f k u h1 h2 h3 => mine_no A n cap f k u h1 h2 h3)
  clear hh hs hc hwd hsu hln hgi hwo hJ hLn hR
  go_enter Tryz.func49, Tryz.ntmps49
  go_wp2
  go_loopw [7, 8] (fun s7 s8 wr => ∃ q : Nat, q ≤ W ∧ s7 = .int .i64 (cntH H q : Nat) ∧ s8 = .int .i64 q ∧ wr = ((w.alloc (.cells #[.int .i64 st, .int .i64 (gi : Nat), .int .i64 (su : Nat), .int .i64 (wo : Nat), .int .i64 (wn : Nat), .int .i64 (J : Nat), .int .i64 (Ln : Nat), .int .i64 (R : Nat), .slice A1 W k1, .slice A2 SH k2, v10] 64)).alloc (.cells #[.int .i64 c0, .int .i64 c1, .int .i64 c2, .int .i64 c3, .int .i64 c4, .int .i64 W, .int .i64 Wd, .int .i64 Rm] 23))) (fun _ s8 _ => W - (intOf s8).toNat)
  case atStart => exact ⟨0, Nat.zero_le _, rfl, rfl, rfl⟩
  case round =>
    obtain ⟨q, hq, rfl, rfl, rfl⟩ := hrel
    by_cases hlt : q < W
    · obtain ⟨g, rfl, hcl⟩ := HA1.out q hlt
      have hnx := HNX.out q
      have hle := HLE.out q
      cases hH : H q with
      | none =>
        rw [hH] at hnx
        simp only [Nat.add_zero] at hnx
        have hv : hI H q = -1 := by unfold hI; rw [hH]
        rw [hv] at hcl
        clear hv
        generalize cntH H q = cq at *
        go_wp2
        go_roundw
        case rel => exact ⟨q + 1, by omega, by rw [hnx], by go_num, trivial⟩
        case measure => simp [intOf]; omega
      | some k =>
        rw [hH] at hnx
        have hnx : cntH H (q + 1) = cntH H q + 1 := hnx
        have hv : hI H q = (k : Int) := by unfold hI; rw [hH]
        rw [hv] at hcl
        obtain ⟨h1, h2, h3, h4⟩ := HH.out q hlt k hH
        have HM1 := Hid.mk' (HMI.out (some ⟨g, 0, none⟩) q k1 (hI H) (k : Int) _ (fun i hi => HA1.out i (by omega)) (fun i hi he => h3 i hi (hI_inj he)) (by omega))
        have HM2 := Hid.mk' (HMI.out A2 SH k2 (fun i => (sh i : Int)) (k : Int) _ HA2.out (fun i hi he => h4 i hi (Int.ofNat.inj he)) (by omega))
        have j1 : ¬ ((k : Int) < (wo : Int)) := by omega
        have j2 : ¬ ((gi : Int) ≤ (k : Int)) := by omega
        have j3 : ¬ ((k : Int) = -1) := by omega
        have j4 : q ≤ k1 := by omega
        have j5 : (q : Int) ≤ (k1 : Int) := by omega
        clear hv h1 h2 h3 h4 hH
        generalize hcq : cntH H q = cq at *
        clear hcq
        have j6 : cq ≤ 8 := by omega
        go_wp2_with (first
          | (go_at_call 103; refine HM1.out.mono ?_; rintro e u ⟨rfl, hu⟩; subst u; clear HM1)
          | (go_at_call 103; refine HM2.out.mono ?_; rintro e u ⟨rfl, hu⟩; subst u; clear HM2))
        go_roundw
        case rel => exact ⟨q + 1, by omega, by rw [hnx]; simp, by go_num, trivial⟩
        case measure => simp [intOf]; omega
    · have e : W = q := by omega
      subst e
      have hle := HLE.out W
      go_wp2
      go_loopw [12] (fun s12 wr => ∃ p : Nat, p ≤ SH ∧ s12 = .int .i64 p ∧ ∃ m, wr = World.drewN ((w.alloc (.cells #[.int .i64 st, .int .i64 (gi : Nat), .int .i64 (su : Nat), .int .i64 (wo : Nat), .int .i64 (wn : Nat), .int .i64 (J : Nat), .int .i64 (Ln : Nat), .int .i64 (R : Nat), .slice A1 W k1, .slice A2 SH k2, v10] 64)).alloc (.cells #[.int .i64 c0, .int .i64 c1, .int .i64 c2, .int .i64 c3, .int .i64 c4, .int .i64 W, .int .i64 Wd, .int .i64 Rm] 23)) m) (fun s12 _ => SH - (intOf s12).toNat)
      case atStart => exact ⟨0, Nat.zero_le _, rfl, 0, rfl⟩
      case round =>
        obtain ⟨p, hp, rfl, m, rfl⟩ := hrel
        by_cases hpt : p < SH
        · obtain ⟨h1, h2, h3⟩ := HS.out p hpt
          obtain ⟨g2, rfl, hcp⟩ := HA2.out p hpt
          have hcp := (drewN_cell _ m _).trans hcp
          have j1 : ¬ ((sh p : Int) < (wo : Int)) := by omega
          have j2 : ¬ ((gi : Int) ≤ (sh p : Int)) := by omega
          cases p with
          | zero =>
            have d1 : ¬ (sh 0 < wo) := by omega
            have d2 : ¬ (gi ≤ sh 0) := by omega
            have d3 : decide ((sh 0 : Int) < (wo : Int)) = false := decide_eq_false (by omega)
            have d4 : decide ((gi : Int) ≤ (sh 0 : Int)) = false := decide_eq_false (by omega)
            clear h1 h2 h3
            go_wp2
            go_quiet (fail)
            go_wp2
            go_roundw
            case rel => exact ⟨1, by omega, by go_num, _, rfl⟩
            case measure => simp [intOf]; omega
          | succ p =>
            obtain ⟨g3, he3, hcq⟩ := HA2.out p (by omega)
            have he3 : g2 = g3 := by simpa using he3
            subst he3
            have hcq := (drewN_cell _ m _).trans hcq
            have h4 := h3 p rfl
            have j3 : ¬ ((sh (p + 1) : Int) ≤ (sh p : Int)) := by omega
            have d1 : ¬ (sh (p + 1) < wo) := by omega
            have d2 : ¬ (gi ≤ sh (p + 1)) := by omega
            have d3 : decide ((sh (p + 1) : Int) < (wo : Int)) = false := decide_eq_false (by omega)
            have d4 : decide ((gi : Int) ≤ (sh (p + 1) : Int)) = false := decide_eq_false (by omega)
            have d5 : ¬ (sh (p + 1) ≤ sh p) := by omega
            have d6 : decide ((sh (p + 1) : Int) ≤ (sh p : Int)) = false := decide_eq_false (by omega)
            clear h1 h2 h3 h4
            go_wp2
            go_quiet (fail)
            go_wp2
            go_roundw
            case rel => exact ⟨p + 1 + 1, by omega, by go_num, _, rfl⟩
            case measure => simp [intOf]; omega
        · have e : SH = p := by omega
          subst e
          have hc := HC.out
          have HD : Hid ((((J : Int) + (cntH H W : Nat) + (R : Nat) + (SH : Nat)) == ((gi - wo : Nat) : Int)) = true) := by
            show _ = _
            rw [beq_iff_eq]
            omega
          clear hc HC
          have hwo2 := HWO.out
          generalize cntH H W = cq at *
          go_wp2
          go_ret
          exact ⟨ret_bool HD.out, ⟨HBV.out.os, HBV.out.tape, HBV.out.output, HBV.out.size, HBV.out.block⟩⟩
end Go.Proofs.YtlncjgnomhpjnabGreatDoor

