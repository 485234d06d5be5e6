import Derived.Test.YtlncjgnomhpjnabGreatDoorQU2
import Derived.WalkMore
/-
  readRests, walked.
-/
namespace Go.Proofs.YtlncjgnomhpjnabGreatDoor
open Go.RowKit Go.Deep
set_option linter.unusedVariables false
/-- the job of a subframe's rests -/
def theJob (b : Nat → Bool) (N d kind : Nat) (a c : Int) (n p : Nat) : Job := ⟨b, N, d, kind, a, c, n / 2 ^ num b p 2⟩
/-- what the rests are: the state behind them -/
def restsSt (b : Nat → Bool) (N d kind : Nat) (a c : Int) (n p : Nat) (x0 : Nat → Int) : Option St :=
  if p + 2 ≤ N ∧ cutB n (ord kind) (num b p 2) = true then (theJob b N d kind a c n p).R ⟨p + 2, 0, x0⟩ n else none
def RestsOut (e : Ending) (w w' : World) (B g : Nat) (s : ByteArray) (n : Nat) : Option St → Prop
  | some st => e = .returned (.tuple #[.slice (some ⟨g, 0, none⟩) n n, .bool true]) ∧ w'.rowIs g 3 n (cutV n st.x) ∧ Rd w' B s st.p ∧ ChgS (fun k => k = B ∨ k = g) w w'
  | none => ∃ v, e = .returned (.tuple #[v, .bool false]) ∧ ChgS (fun k => k = B ∨ k = g) w w'
/-- what holds while the rests are read -/
structure Inv (w wr : World) (B g G : Nat) (s : ByteArray) (d n kind : Nat) (a c : Int) (st : St) (len : Nat) : Prop where
  row : wr.rowIs g 3 n (cutV len st.x)
  rd : Rd wr B s st.p
  gd : Gd wr G kind a c
  chg : ChgS (fun k => k = B ∨ k = g) w wr
  p : st.p ≤ s.size
  fits : ∀ j, j < len → fitsB d (st.x j) = true
theorem Inv.chgB {w wr wr' : World} {B g G : Nat} {s : ByteArray} {d n kind : Nat} {a c : Int} {st : St} {len q k' : Nat} (h : Inv w wr B g G s d n kind a c st len) (hc : Chg B wr wr') (hr : Rd wr' B s q) (hq : q ≤ s.size) (hg : g ≠ B) (hG : G ≠ B) : Inv w wr' B g G s d n kind a c ⟨q, k', st.x⟩ len :=
  ⟨hc.row h.row hg, hr, h.gd.of (hc.block G h.gd.lt (fun e => hG (by injection e))), h.chg.chg hc (.inl (.inl rfl)), hq, h.fits⟩
theorem Inv.below {w wr wr' : World} {B g G : Nat} {s : ByteArray} {d n kind : Nat} {a c : Int} {st : St} {len : Nat} (h : Inv w wr B g G s d n kind a c st len) (hb : Below wr.heap.size wr wr') : Inv w wr' B g G s d n kind a c st len :=
  ⟨h.row.of_block (hb.block _ h.row.lt), h.rd.of (hb.block _ h.rd.lt), h.gd.of (hb.block _ h.gd.lt), h.chg.below hb, h.p, h.fits⟩
theorem Inv.put {w wr : World} {B g G : Nat} {s : ByteArray} {d n kind : Nat} {a c : Int} {st : St} {len : Nat} (h : Inv w wr B g G s d n kind a c st len) (z : Int) (hz : fitsB d z = true) (hg : g ≠ B) (hG : G ≠ g) :
    Inv w (wr.setCell ⟨g, len, none⟩ (.int .i64 z)) B g G s d n kind a c ⟨st.p, st.k, updI st.x len z⟩ (len + 1) := by
  have hch : Chg g wr (wr.setCell ⟨g, len, none⟩ (.int .i64 z)) := (Chg.refl _ _).set _ _
  refine ⟨cutV_step (x := updI st.x len z) (z := z) (by simp [updI]) ((h.row.set len (.int .i64 z)).congr fun i _ => ?_), hch.rd h.rd (Ne.symm hg), h.gd.of (hch.block G h.gd.lt (fun e => hG (by injection e))), h.chg.chg hch (.inl (.inr rfl)), h.p, fun j hj => ?_⟩
  · by_cases e : i = len
    · simp [e]
    · simp only [if_neg e, cutV, cutI, updI]
  · by_cases e : j = len
    · simp [updI, e, hz]
    · simp only [updI, if_neg e]; exact h.fits j (by omega)
theorem cut_facts {n o q : Nat} (h : cutB n o q = true) : n / 2 ^ q * 2 ^ q = n ∧ o < n / 2 ^ q := by
  simpa [cutB] using h
set_option maxRecDepth 100000 in
set_option maxHeartbeats 4000000 in
theorem readRests_any (B g : Nat) (s : ByteArray) (b : Nat → Bool) (p d n kind : Nat) (a c : Int) (x0 : Nat → Int) (w : World) (hs : s.size ≤ 80000) (hp : p ≤ s.size) (hd1 : 1 ≤ d) (hd : d ≤ 13) (hn : n ≤ 32) (h2 : 2 ≤ kind) (h7 : kind ≤ 7)
    (ha : -32 ≤ a ∧ a ≤ 32) (hc : -32 ≤ c ∧ c ≤ 32) (hR : Rd w B s p) (hb : Bits s b) (hrow : w.rowIs g 3 n (cutV (ord kind) x0)) (hgB : g ≠ B) (hx0 : ∀ j, j < ord kind → fitsB d (x0 j) = true) (hon : ord kind < n) :
    Calls Tryz.prog 331 #[.pointer (some ⟨B, 0, none⟩), gV kind a c, .int .i64 d, .slice (some ⟨g, 0, none⟩) (ord kind) n, .int .i64 n] w fun e w' => RestsOut e w w' B g s n (restsSt b s.size d kind a c n p x0) := by
  have ho := ord_le kind h2 h7
  have hBlt := hR.lt
  have hglt := hrow.lt
  obtain ⟨O, hO⟩ : ∃ O, O = Obj.cells #[.int .i64 (ord kind), .int .i64 (wt kind a c 0), .int .i64 (wt kind a c 1), .int .i64 (wt kind a c 2), .int .i64 (wt kind a c 3), .int .i64 (scl kind : Int)] 333 := ⟨_, rfl⟩
  have I0 : Inv w (w.alloc O) B g w.heap.size s d n kind a c ⟨p, 0, x0⟩ (ord kind) :=
    ⟨hrow.alloc _, hR.of (blk_alloc_lt _ _ _ hBlt), by rw [hO]; exact blk_alloc_new _ _, (ChgS.refl _ w).below ((Below.refl _ _).alloc (Nat.le_refl _) _), hp, hx0⟩
  rw [hO] at I0
  have HI0 := Hid.mk' I0
  have HB := Hid.mk' hb
  by_cases hp2 : p + 2 ≤ s.size
  · have HNUM := Hid.mk' (number_yes B s b p 2 _ hs (by omega) HI0.out.rd hp2 hb)
    have hq : num b p 2 ≤ 3 := by have := num_lt b p 2; omega
    by_cases hcut : cutB n (ord kind) (num b p 2) = true
    · have HST : Hid (restsSt b s.size d kind a c n p x0 = (theJob b s.size d kind a c n p).R ⟨p + 2, 0, x0⟩ n) := by
        show _ = _; unfold restsSt; rw [if_pos ⟨hp2, hcut⟩]
      have HCF := Hid.mk' (cut_facts hcut)
      have HPS := Hid.mk' (fun u => partSize_any n (ord kind) (num b p 2) u hn ho hq)
      obtain ⟨J, hJ⟩ : ∃ J, J = theJob b s.size d kind a c n p := ⟨_, rfl⟩
      obtain ⟨sz, hsz⟩ : ∃ sz, sz = n / 2 ^ num b p 2 := ⟨_, rfl⟩
      obtain ⟨q, hqq⟩ : ∃ q, q = num b p 2 := ⟨_, rfl⟩
      have HJ : Hid (J.b = b ∧ J.N = s.size ∧ J.w = d ∧ J.kind = kind ∧ J.a = a ∧ J.c = c ∧ J.size = sz) := by rw [hJ, hsz]; exact ⟨rfl, rfl, rfl, rfl, rfl, rfl, rfl⟩
      rw [← hJ] at HST
      rw [hcut, ← hsz] at HPS
      rw [← hsz, ← hqq] at HCF
      rw [← hqq] at HNUM HPS
      have hszo : ord kind < sz := HCF.out.2
      have hszn : sz ≤ n := by
        have h1 := HCF.out.1
        have h2 : sz * 1 ≤ sz * 2 ^ q := Nat.mul_le_mul_left _ (Nat.two_pow_pos _)
        omega
      clear hJ hsz hqq hcut hq hb hR hrow hx0 I0 hO
      simp only [gV]
      go_enter Tryz.func331, Tryz.ntmps331
      go_wp2_with fail
      refine wp_scope_straight ?_
      go_wp2_with (first
        | (go_at_call 269; refine HNUM.out.mono ?_; rintro e w1 ⟨rfl, hR1, hC1⟩; have HI1 := Hid.mk' (HI0.out.chgB (k' := 0) hC1 hR1 hp2 hgB (Nat.ne_of_gt hBlt)); clear hR1 hC1; obtain ⟨gc0, gc1, gc2, gc3, gc4, gc5⟩ := HI1.out.gd.cells)
        | (go_at_call 339; refine (HPS.out _).mono ?_; rintro e w' ⟨rfl, rfl⟩))
      refine wp_label ?_
      go_wp2
      go_loopw [3, 15, 16, 17, 18, 19, 20, 21] (fun l f _ _ _ _ _ _ wr => ∃ F : Nat, ∃ len : Nat, F ≤ n ∧ f = .int .i64 F ∧ l = .slice (some ⟨g, 0, none⟩) len n ∧ Hid (len = max F (ord kind) ∧ (∃ m, F = m * sz) ∧ ∃ st, J.R ⟨p + 2, 0, x0⟩ F = some st ∧ Inv w wr B g w.heap.size s d n kind a c st len)) (fun _ f _ _ _ _ _ _ _ => n - (intOf f).toNat)
      case atStart => exact ⟨0, ord kind, Nat.zero_le _, rfl, rfl, by omega, ⟨0, by simp⟩, ⟨p + 2, 0, x0⟩, rfl, HI1.out⟩
      case round =>
        clear HI1 gc0 gc1 gc2 gc3 gc4 gc5
        obtain ⟨F, len, hF, rfl, rfl, HX⟩ := hrel
        obtain ⟨hlen, ⟨m, hm⟩, st, hst, hinv⟩ := HX.out
        have HLEN := Hid.mk' hlen
        have HM := Hid.mk' hm
        have HSTF := Hid.mk' hst
        have HINV := Hid.mk' hinv
        clear hlen hm hst hinv HX
        by_cases hFn : F < n
        · have hFs : F + sz ≤ n := by
            have h1 := HCF.out.1
            have h2 := HM.out
            have h3 : m < 2 ^ q := by
              apply Nat.lt_of_mul_lt_mul_right (a := sz)
              rw [Nat.mul_comm (2 ^ q) sz]; omega
            have h4 : (m + 1) * sz ≤ 2 ^ q * sz := Nat.mul_le_mul_right _ h3
            rw [Nat.succ_mul, Nat.mul_comm (2 ^ q) sz] at h4
            omega
          have hlenn : len < n := by have := HLEN.out; omega
          have hlen1 : F ≤ len := by have := HLEN.out; omega
          have hlen2 : len < F + sz := by have := HLEN.out; omega
          have hlen3 : ord kind ≤ len := by have := HLEN.out; omega
          obtain ⟨gc0, gc1, gc2, gc3, gc4, gc5⟩ := HINV.out.gd.cells
          have hne : ((len : Int) == (n : Int)) = false := by simp; omega
          by_cases hk4 : st.p + 4 ≤ s.size
          · have HK := Hid.mk' (number_yes B s b st.p 4 wr hs (by omega) HINV.out.rd hk4 HB.out)
            by_cases hk14 : num b st.p 4 ≤ 14
            · have hmod : F % J.size = 0 := by rw [HJ.out.2.2.2.2.2.2, HM.out]; exact Nat.mul_mod_left _ _
              have HMOD := Hid.mk' hmod
              have HU0 : Hid (J.U ⟨p + 2, 0, x0⟩ F (len - F) = some ⟨st.p + 4, num b st.p 4, st.x⟩) := by
                have h0 : J.U ⟨p + 2, 0, x0⟩ F 0 = some ⟨st.p + 4, num b st.p 4, st.x⟩ := by
                  simp only [Job.U, HSTF.out, Option.bind_some, Job.rdK]
                  rw [if_pos ⟨by rw [HJ.out.2.1]; exact hk4, by rw [HJ.out.1]; exact hk14⟩, HJ.out.1]
                show _ = _
                by_cases e : F = 0
                · have hl := HLEN.out
                  subst e
                  rw [J.U_skip _ _ (by rw [HJ.out.2.2.2.1]; omega)]; exact h0
                · have h1 := HM.out
                  have h2 : sz ≤ F := by
                    have : 1 ≤ m := by
                      rcases Nat.eq_zero_or_pos m with h | h
                      · subst h; simp at h1; omega
                      · exact h
                    have h3 := Nat.mul_le_mul_right sz this
                    omega
                  have h3 : len - F = 0 := by have := HLEN.out; omega
                  rw [h3]; exact h0
              have hkb : num b st.p 4 < 16 := num_lt b st.p 4
              clear hmod
              go_wp2_with (go_at_call 269; refine HK.out.mono ?_; rintro e w2 ⟨rfl, hR2, hC2⟩; have HI2 := Hid.mk' (HINV.out.chgB (k' := num b st.p 4) hC2 hR2 hk4 hgB (Nat.ne_of_gt hBlt)); clear hR2 hC2 gc0 gc1 gc2 gc3 gc4 gc5; obtain ⟨gc0, gc1, gc2, gc3, gc4, gc5⟩ := HI2.out.gd.cells)
              clear hne gc0 gc1 gc2 gc3 gc4 gc5 HK
              have HMAX : Hid ((max (F : Int) (ord kind : Int)) = (len : Int)) := by show _ = _; have := HLEN.out; omega
              go_loopw [3, 18, 19, 20, 21] (fun l pl _ _ _ wr => ∃ j : Nat, len ≤ j ∧ j ≤ F + sz ∧ pl = .int .i64 j ∧ l = .slice (some ⟨g, 0, none⟩) j n ∧ Hid (∃ st', J.U ⟨p + 2, 0, x0⟩ F (j - F) = some st' ∧ st'.k = num b st.p 4 ∧ Inv w wr B g w.heap.size s d n kind a c st' j)) (fun _ pl _ _ _ _ => F + sz - (intOf pl).toNat)
              case atStart => exact ⟨len, Nat.le_refl _, by omega, by rw [HMAX.out], rfl, _, HU0.out, rfl, HI2.out⟩
              case round =>
                clear HI2 HU0
                obtain ⟨j, hj1, hj2, rfl, rfl, HY⟩ := hrel
                obtain ⟨st2, hU2, hkk, hinv2⟩ := HY.out
                have HU2 := Hid.mk' hU2
                have HKK := Hid.mk' hkk
                have HV2 := Hid.mk' hinv2
                clear hU2 hkk hinv2 HY
                by_cases hjs : j < F + sz
                · obtain ⟨gc0, gc1, gc2, gc3, gc4, gc5⟩ := HV2.out.gd.cells
                  have hne : ((j : Int) == (n : Int)) = false := by simp; omega
                  have HXB : Hid (∀ i, i < j → -4096 ≤ st2.x i ∧ st2.x i ≤ 4096) := fun i hi => fits_bd (HV2.out.fits i hi) hd
                  have hgb := guessG_bd (n := j) h2 h7 ha hc HXB.out (by omega)
                  have HFAIL : Hid (J.plc j st2 = none → J.R ⟨p + 2, 0, x0⟩ n = none) := by
                    intro h
                    refine J.R_none _ (i := j + 1) ?_ (by omega)
                    have e1 : j + 1 = F + (j - F + 1) := by omega
                    rw [e1, ← J.U_eq _ F HMOD.out (j - F + 1) (by omega) (by rw [HJ.out.2.2.2.2.2.2]; omega)]
                    show (J.U ⟨p + 2, 0, x0⟩ F (j - F)).bind _ = none
                    rw [HU2.out, Option.bind_some, show F + (j - F) = j by omega]; exact h
                  have hoj : ¬ j < ord J.kind := by rw [HJ.out.2.2.2.1]; omega
                  have HOJ := Hid.mk' hoj
                  clear hoj
                  cases hrc : rice b s.size (num b st.p 4) st2.p with
                  | none =>
                    have HNONE := Hid.mk' (HFAIL.out (Job.plc_none HOJ.out (by rw [HJ.out.1, HJ.out.2.1, HKK.out]; exact hrc)))
                    have HRC := Hid.mk' (rice_no B s b st2.p (num b st.p 4) wr hs HV2.out.p (by omega) HV2.out.rd HB.out hrc)
                    clear hrc
                    go_wp2_with (first
                      | (go_at_call 342; refine HRC.out.mono ?_; rintro e w3 ⟨rfl, ⟨q3, hq3, hR3⟩, hC3⟩; have HV3 := Hid.mk' (HV2.out.chgB (k' := 0) hC3 hR3 hq3 hgB (Nat.ne_of_gt hBlt)); clear hR3 hC3 gc0 gc1 gc2 gc3 gc4 gc5; obtain ⟨gc0, gc1, gc2, gc3, gc4, gc5⟩ := HV3.out.gd.cells)
                      | (go_at_call 318; refine (guessV_any kind a c g j n st2.x _ h2 h7 ha hc (by omega) (by omega) HXB.out HV3.out.row (by omega)).mono ?_; rintro e w4 ⟨rfl, hb4⟩; have HV4 := Hid.mk' (HV3.out.below hb4); clear hb4))
                    rw [Exit.noGoto_ret]
                    go_ret2
                    rw [HST.out, HNONE.out]
                    exact ⟨_, rfl, HV4.out.chg⟩
                  | some vp =>
                    obtain ⟨v, p'⟩ := vp
                    have hvb := rice_bd hrc hs (by omega)
                    have HRC := Hid.mk' (rice_yes B s b st2.p (num b st.p 4) wr hs HV2.out.p (by omega) HV2.out.rd HB.out v p' hrc)
                    cases hfit : fitsB d (guessG kind a c st2.x j + v)
                    · have HNONE := Hid.mk' (HFAIL.out (Job.plc_no HOJ.out (by rw [HJ.out.1, HJ.out.2.1, HKK.out]; exact hrc) (by rw [HJ.out.2.2.1, HJ.out.2.2.2.1, HJ.out.2.2.2.2.1, HJ.out.2.2.2.2.2.1]; exact hfit)))
                      clear hrc
                      go_wp2_with (first
                        | (go_at_call 342; refine HRC.out.mono ?_; rintro e w3 ⟨rfl, hR3, hC3⟩; have HV3 := Hid.mk' (HV2.out.chgB (k' := 0) hC3 hR3 hvb.2.2 hgB (Nat.ne_of_gt hBlt)); clear hR3 hC3 gc0 gc1 gc2 gc3 gc4 gc5; obtain ⟨gc0, gc1, gc2, gc3, gc4, gc5⟩ := HV3.out.gd.cells)
                        | (go_at_call 318; refine (guessV_any kind a c g j n st2.x _ h2 h7 ha hc (by omega) (by omega) HXB.out HV3.out.row (by omega)).mono ?_; rintro e w4 ⟨rfl, hb4⟩; have HV4 := Hid.mk' (HV3.out.below hb4); clear hb4)
                        | (go_at_call 246; refine (isSample_any d _ _ hd1 hd).mono ?_; rintro e w5 ⟨rfl, rfl⟩))
                      rw [Exit.noGoto_ret]
                      go_ret2
                      rw [HST.out, HNONE.out]
                      exact ⟨_, rfl, HV4.out.chg⟩
                    · have HYES := Hid.mk' (Job.plc_yes (J := J) (s := st2) HOJ.out (by rw [HJ.out.1, HJ.out.2.1, HKK.out]; exact hrc) (by rw [HJ.out.2.2.1, HJ.out.2.2.2.1, HJ.out.2.2.2.2.1, HJ.out.2.2.2.2.2.1]; exact hfit))
                      clear hrc
                      go_wp2_with (first
                        | (go_at_call 342; refine HRC.out.mono ?_; rintro e w3 ⟨rfl, hR3, hC3⟩; have HV3 := Hid.mk' (HV2.out.chgB (k' := num b st.p 4) hC3 hR3 hvb.2.2 hgB (Nat.ne_of_gt hBlt)); clear hR3 hC3 gc0 gc1 gc2 gc3 gc4 gc5; obtain ⟨gc0, gc1, gc2, gc3, gc4, gc5⟩ := HV3.out.gd.cells)
                        | (go_at_call 318; refine (guessV_any kind a c g j n st2.x _ h2 h7 ha hc (by omega) (by omega) HXB.out HV3.out.row (by omega)).mono ?_; rintro e w4 ⟨rfl, hb4⟩; have HV4 := Hid.mk' (HV3.out.below hb4); clear hb4; have hca := fun o => (HV4.out.row.alloc o).cell (i := j) (by omega); have hfa := fun o => (HV4.out.row.alloc o).frozen j; unfold cutV at hca)
                        | (go_at_call 246; refine (isSample_any d _ _ hd1 hd).mono ?_; rintro e w5 ⟨rfl, rfl⟩))
                      go_roundw
                      case rel =>
                        refine ⟨j + 1, by omega, by omega, by go_num, rfl, _, ?_, ?_, (HV4.out.below ((Below.refl _ _).alloc (Nat.le_refl _) _)).put _ hfit hgB (Nat.ne_of_gt hglt)⟩
                        · rw [show j + 1 - F = (j - F) + 1 by omega]
                          show (J.U ⟨p + 2, 0, x0⟩ F (j - F)).bind _ = _
                          rw [HU2.out, Option.bind_some, show F + (j - F) = j by omega, HYES.out, HJ.out.2.2.2.1, HJ.out.2.2.2.2.1, HJ.out.2.2.2.2.2.1, HKK.out]
                        · rfl
                      case measure => simp [intOf]; omega
                · have e : j = F + sz := by omega
                  subst e
                  go_wp2
                  go_roundw
                  case rel =>
                    refine ⟨F + sz, F + sz, hFs, by go_num, rfl, by omega, ⟨m + 1, by rw [Nat.succ_mul, ← HM.out]⟩, st2, ?_, HV2.out⟩
                    rw [← J.U_eq _ F HMOD.out sz (by omega) (by rw [HJ.out.2.2.2.2.2.2]; omega)]
                    have := HU2.out
                    rwa [show F + sz - F = sz by omega] at this
                  case measure => simp [intOf]; omega
            · have HNONE : Hid (J.R ⟨p + 2, 0, x0⟩ n = none) := by
                refine J.R_none _ (i := F + 1) ?_ (by omega)
                simp only [Job.R, HSTF.out, Option.bind_some]
                have hmod : F % J.size = 0 := by rw [HJ.out.2.2.2.2.2.2, HM.out]; exact Nat.mul_mod_left _ _
                rw [if_pos hmod, Job.rdK, if_neg (fun h => hk14 (by have := h.2; rwa [HJ.out.1] at this))]; rfl
              have hkb : num b st.p 4 < 16 := num_lt b st.p 4
              go_wp2_with (go_at_call 269; refine HK.out.mono ?_; rintro e w2 ⟨rfl, hR2, hC2⟩)
              rw [Exit.noGoto_ret]
              go_ret2
              rw [HST.out, HNONE.out]
              exact ⟨_, rfl, HINV.out.chg.chg hC2 (.inl (.inl rfl))⟩
          · have HK := Hid.mk' (number_no B s st.p 4 wr hs HINV.out.p (by omega) HINV.out.rd (by omega))
            have HNONE : Hid (J.R ⟨p + 2, 0, x0⟩ n = none) := by
              refine J.R_none _ (i := F + 1) ?_ (by omega)
              simp only [Job.R, HSTF.out, Option.bind_some]
              have hmod : F % J.size = 0 := by rw [HJ.out.2.2.2.2.2.2, HM.out]; exact Nat.mul_mod_left _ _
              rw [if_pos hmod, Job.rdK, if_neg (fun h => hk4 (by have := h.1; rwa [HJ.out.2.1] at this))]; rfl
            go_wp2_with (go_at_call 269; refine HK.out.mono ?_; rintro e w2 ⟨rfl, j, rfl⟩)
            rw [Exit.noGoto_ret]
            go_ret2
            rw [HST.out, HNONE.out]
            exact ⟨_, rfl, HINV.out.chg.drewN j⟩
        · have e : F = n := by omega
          subst e
          have hl : len = F := by have := HLEN.out; omega
          subst hl
          go_wp2
          rw [Exit.noGoto_ret]
          go_ret2
          rw [HST.out, HSTF.out]
          exact ⟨rfl, HINV.out.row, HINV.out.rd, HINV.out.chg⟩
    · have HST : Hid (restsSt b s.size d kind a c n p x0 = none) := by
        show _ = _; unfold restsSt; rw [if_neg (fun h => hcut h.2)]
      have hcut0 : cutB n (ord kind) (num b p 2) = false := by simpa using hcut
      have HPS := Hid.mk' (fun u => partSize_any n (ord kind) (num b p 2) u hn ho hq)
      rw [hcut0] at HPS
      clear hcut hcut0 hb hR hrow hx0 I0 hO
      simp only [gV]
      go_enter Tryz.func331, Tryz.ntmps331
      go_wp2_with fail
      refine wp_scope_straight ?_
      go_wp2_with (first
        | (go_at_call 269; refine HNUM.out.mono ?_; rintro e w1 ⟨rfl, hR1, hC1⟩; have HI1 := Hid.mk' (HI0.out.chgB (k' := 0) hC1 hR1 hp2 hgB (Nat.ne_of_gt hBlt)); clear hR1 hC1; obtain ⟨gc0, gc1, gc2, gc3, gc4, gc5⟩ := HI1.out.gd.cells)
        | (go_at_call 339; refine (HPS.out _).mono ?_; rintro e w' ⟨rfl, rfl⟩))
      rw [Exit.noGoto_ret]
      go_ret2
      rw [HST.out]
      exact ⟨_, rfl, HI1.out.chg⟩
  · have HNUM := Hid.mk' (number_no B s p 2 _ hs hp (by omega) HI0.out.rd (by omega))
    have HST : Hid (restsSt b s.size d kind a c n p x0 = none) := by
      show _ = _; unfold restsSt; rw [if_neg (fun h => hp2 h.1)]
    clear hb hR hrow hx0 I0 hO
    simp only [gV]
    go_enter Tryz.func331, Tryz.ntmps331
    go_wp2_with fail
    refine wp_scope_straight ?_
    go_wp2_with (go_at_call 269; refine HNUM.out.mono ?_; rintro e w1 ⟨rfl, j, rfl⟩)
    rw [Exit.noGoto_ret]
    go_ret2
    rw [HST.out]
    exact ⟨_, rfl, HI0.out.chg.drewN j⟩
end Go.Proofs.YtlncjgnomhpjnabGreatDoor

/-
  readGuessed, readBody, subframe.Read, IsBits, reel.Read.
-/
namespace Go.Proofs.YtlncjgnomhpjnabGreatDoor
open Go.RowKit Go.Deep
set_option linter.unusedVariables false
/-- the short samples that a body tells, and the place behind it -/
def bodySt (b : Nat → Bool) (N kind d n p : Nat) : Option ((Nat → Int) × Nat) :=
  if kind = 0 then (if p + d ≤ N then some (fun _ => sgn b p d, p + d) else none)
  else if kind = 1 then (if posn p d n ≤ N then some (fun i => sgn b (posn p d i) d, posn p d n) else none)
  else if 7 < kind ∨ n ≤ ord kind then none
  else if posn p d (ord kind) ≤ N then
    (if kind = 7 then
      (if posn p d (ord kind) + 12 ≤ N then (restsSt b N d kind (sgn b (posn p d (ord kind)) 6) (sgn b (posn p d (ord kind) + 6) 6) n (posn p d (ord kind) + 12) (fun i => sgn b (posn p d i) d)).map fun st => (st.x, st.p) else none)
    else (restsSt b N d kind 0 0 n (posn p d (ord kind)) (fun i => sgn b (posn p d i) d)).map fun st => (st.x, st.p))
  else none
/-- a list was read, or none -/
def Out (e : Ending) (w w' : World) (B : Nat) (s : ByteArray) (n : Nat) : Option ((Nat → Int) × Nat) → Prop
  | some xp => Got e w w' B s n n xp.1 xp.2
  | none => Not e w w' B
theorem sgn6 (b : Nat → Bool) (p : Nat) : -32 ≤ sgn b p 6 ∧ sgn b p 6 ≤ 32 := by
  have h := sgn_fits b p (d := 6) (by omega)
  unfold fitsB at h
  rw [within_iff] at h
  have e : (2 : Int) ^ (6 - 1) = 32 := rfl
  omega
theorem ChgS.toChg {B g : Nat} {w w1 w' : World} (h1 : Chg B w w1) (h : ChgS (fun k => k = B ∨ k = g) w1 w') (hg : w.heap.size ≤ g) : Chg B w w' :=
  ⟨h.os.trans h1.os, h.tape.trans h1.tape, h.output.trans h1.output, Nat.le_trans h1.size h.size, fun j hj hne => (h.block j (Nat.lt_of_lt_of_le hj h1.size) (fun e => by rcases e with e | e; exact hne (by rw [e]); omega)).trans (h1.block j hj hne)⟩
theorem restsOut_out {e : Ending} {w w1 w' : World} {B g : Nat} {s : ByteArray} {n : Nat} {o : Option St} (h1 : Chg B w w1) (hg : w.heap.size ≤ g) (h : RestsOut e w1 w' B g s n o) : Out e w w' B s n (o.map fun st => (st.x, st.p)) := by
  cases o with
  | none => obtain ⟨v, he, hc⟩ := h; exact ⟨v, he, ChgS.toChg h1 hc hg⟩
  | some st => obtain ⟨he, hr, hd, hc⟩ := h; exact ⟨g, he, hg, hr, hd, ChgS.toChg h1 hc hg⟩
theorem RestsOut.form {e : Ending} {w w' : World} {B g : Nat} {s : ByteArray} {n : Nat} {o : Option St} (h : RestsOut e w w' B g s n o) : ∃ u c, e = .returned (.tuple #[u, .bool c]) := by
  cases o with
  | none => obtain ⟨v, he, _⟩ := h; exact ⟨v, false, he⟩
  | some st => exact ⟨_, true, h.1⟩
theorem Out.form {e : Ending} {w w' : World} {B : Nat} {s : ByteArray} {n : Nat} {o : Option ((Nat → Int) × Nat)} (h : Out e w w' B s n o) : ∃ u c, e = .returned (.tuple #[u, .bool c]) := by
  cases o with
  | none => obtain ⟨v, he, _⟩ := h; exact ⟨v, false, he⟩
  | some st => obtain ⟨g, he, _⟩ := h; exact ⟨_, true, he⟩
set_option maxRecDepth 100000 in
set_option maxHeartbeats 2000000 in
theorem readGuessed_any (B : Nat) (s : ByteArray) (b : Nat → Bool) (p d n kind : Nat) (w : World) (hs : s.size ≤ 80000) (hp : p ≤ s.size) (hd1 : 1 ≤ d) (hd : d ≤ 13) (hn : n ≤ 32) (h2 : 2 ≤ kind) (h7 : kind ≤ 7) (hR : Rd w B s p) (hb : Bits s b) (hT : TabAt w 5) (hT2 : 5 < w.heap.size) (hB2 : B ≠ 5) :
    Calls Tryz.prog 301 #[.pointer (some ⟨B, 0, none⟩), .int .i64 kind, .int .i64 d, .int .i64 n] w fun e w' => Out e w w' B s n (bodySt b s.size kind d n p) := by
  have ho := ord_le kind h2 h7
  have hk0 : ¬ kind = 0 := by omega
  have hk1 : ¬ kind = 1 := by omega
  by_cases hno : n ≤ ord kind
  · have HO : Hid (bodySt b s.size kind d n p = none) := by
      show _ = _; unfold bodySt; rw [if_neg hk0, if_neg hk1, if_pos (.inr hno)]
    clear hb hR hT
    go_enter Tryz.func301, Tryz.ntmps301
    go_wp2_with (go_at_call 319; refine (orderOf_any kind _ h2 h7).mono ?_; rintro e w' ⟨rfl, rfl⟩)
    go_ret2
    rw [HO.out]
    exact ⟨_, rfl, Chg.refl _ _⟩
  · have HPL := Hid.mk' (readPlain_any B s b p d (ord kind) n w hs hp hd1 hd (by omega) hn hR hb)
    have HBO : Hid (bodySt b s.size kind d n p = if posn p d (ord kind) ≤ s.size then
        (if kind = 7 then
          (if posn p d (ord kind) + 12 ≤ s.size then (restsSt b s.size d kind (sgn b (posn p d (ord kind)) 6) (sgn b (posn p d (ord kind) + 6) 6) n (posn p d (ord kind) + 12) (fun i => sgn b (posn p d i) d)).map fun st => (st.x, st.p) else none)
        else (restsSt b s.size d kind 0 0 n (posn p d (ord kind)) (fun i => sgn b (posn p d i) d)).map fun st => (st.x, st.p))
        else none) := by
      show _ = _; unfold bodySt; rw [if_neg hk0, if_neg hk1, if_neg (by omega)]
    by_cases hfi : posn p d (ord kind) ≤ s.size
    · have HP1 : Hid (Calls Tryz.prog 300 #[.pointer (some ⟨B, 0, none⟩), .int .i64 d, .int .i64 (ord kind), .int .i64 n] w fun e w' => Got e w w' B s (ord kind) n (fun i => sgn b (posn p d i) d) (posn p d (ord kind))) :=
        HPL.out.mono fun e w' h => by
          rcases h with h | h
          · exact h.2
          · have := h.1; omega
      have HT := Hid.mk' hT
      have HB := Hid.mk' hb
      have hBlt := hR.lt
      clear HPL hb hR hT
      by_cases h7' : kind = 7
      · subst h7'
        by_cases h12 : posn p d (ord 7) + 12 ≤ s.size
        · have HO : Hid (bodySt b s.size 7 d n p = (restsSt b s.size d 7 (sgn b (posn p d (ord 7)) 6) (sgn b (posn p d (ord 7) + 6) 6) n (posn p d (ord 7) + 12) (fun i => sgn b (posn p d i) d)).map fun st => (st.x, st.p)) := by
            show _ = _; rw [HBO.out, if_pos hfi, if_pos rfl, if_pos h12]
          have HG : Hid (∀ u : World, Rd u B s (posn p d (ord 7)) → Calls Tryz.prog 330 #[.pointer (some ⟨B, 0, none⟩), .int .i64 7] u fun e w' => GotG e u w' B s (gV 7 (sgn b (posn p d (ord 7)) 6) (sgn b (posn p d (ord 7) + 6) 6)) (posn p d (ord 7) + 12)) := fun u hu =>
            (readGuesser_seven B s b _ u hs hfi hu HB.out).mono fun e w' h => by
              rcases h with h | h
              · exact h.2
              · have := h.1; omega
          go_enter Tryz.func301, Tryz.ntmps301
          go_wp2_with (first
            | (go_at_call 319; refine (orderOf_any 7 _ h2 h7).mono ?_; rintro e w' ⟨rfl, rfl⟩)
            | (go_at_call 300; refine HP1.out.mono ?_; rintro e w1 ⟨g, rfl, hg1, hrow1, hR1, hC1⟩; have HROW1 := Hid.mk' hrow1; have HR1 := Hid.mk' hR1; have HC1 := Hid.mk' hC1; clear hrow1 hR1 hC1)
            | (go_at_call 330; refine (HG.out _ HR1.out).mono ?_; rintro e w2 ⟨rfl, hR2, hC2⟩; have HR2 := Hid.mk' hR2; have HC2 := Hid.mk' hC2; clear hR2 hC2; simp only [gV])
            | (go_at_call 331; refine (readRests_any B g s b (posn p d (ord 7) + 12) d n 7 (sgn b (posn p d (ord 7)) 6) (sgn b (posn p d (ord 7) + 6) 6) (fun i => sgn b (posn p d i) d) _ hs h12 hd1 hd hn h2 h7 (sgn6 _ _) (sgn6 _ _) (HR2.out.of (blk_alloc_lt _ _ _ HR2.out.lt)) HB.out ((HC2.out.row HROW1.out (by omega)).alloc _) (by omega) (fun j _ => sgn_fits b _ hd1) (by omega)).mono ?_; rintro e w3 h3; obtain ⟨u, cc, rfl⟩ := h3.form; have H3 := Hid.mk' h3; clear h3))
          go_ret2
          rw [HO.out]
          exact restsOut_out ((HC1.out.trans HC2.out).below ((Below.refl _ _).alloc (Nat.le_refl _) _)) hg1 H3.out
        · have HO : Hid (bodySt b s.size 7 d n p = none) := by
            show _ = _; rw [HBO.out, if_pos hfi, if_pos rfl, if_neg h12]
          have HG : Hid (∀ u : World, Rd u B s (posn p d (ord 7)) → Calls Tryz.prog 330 #[.pointer (some ⟨B, 0, none⟩), .int .i64 7] u fun e w' => NotG e u w' B) := fun u hu =>
            (readGuesser_seven B s b _ u hs hfi hu HB.out).mono fun e w' h => by
              rcases h with h | h
              · exact absurd h.1 h12
              · exact h.2
          go_enter Tryz.func301, Tryz.ntmps301
          go_wp2_with (first
            | (go_at_call 319; refine (orderOf_any 7 _ h2 h7).mono ?_; rintro e w' ⟨rfl, rfl⟩)
            | (go_at_call 300; refine HP1.out.mono ?_; rintro e w1 ⟨g, rfl, hg1, hrow1, hR1, hC1⟩; have HROW1 := Hid.mk' hrow1; have HR1 := Hid.mk' hR1; have HC1 := Hid.mk' hC1; clear hrow1 hR1 hC1)
            | (go_at_call 330; refine (HG.out _ HR1.out).mono ?_; rintro e w2 ⟨v0, v1, v2, v3, v4, v5, rfl, hC2⟩; have HC2 := Hid.mk' hC2; clear hC2))
          go_ret2
          rw [HO.out]
          exact ⟨_, rfl, (HC1.out.trans HC2.out).below ((Below.refl _ _).alloc (Nat.le_refl _) _)⟩
      · have HG : Hid (∀ u : World, Rd u B s (posn p d (ord kind)) → TabAt u 5 → 5 < u.heap.size → Calls Tryz.prog 330 #[.pointer (some ⟨B, 0, none⟩), .int .i64 kind] u fun e w' => GotG e u w' B s (gV kind 0 0) (posn p d (ord kind))) := fun u hu hTu hu2 =>
          readGuesser_fixed B s _ kind u h2 (by omega) hu hTu hu2
        go_enter Tryz.func301, Tryz.ntmps301
        go_wp2_with (first
          | (go_at_call 319; refine (orderOf_any kind _ h2 h7).mono ?_; rintro e w' ⟨rfl, rfl⟩)
          | (go_at_call 300; refine HP1.out.mono ?_; rintro e w1 ⟨g, rfl, hg1, hrow1, hR1, hC1⟩; have HROW1 := Hid.mk' hrow1; have HR1 := Hid.mk' hR1; have HC1 := Hid.mk' hC1; clear hrow1 hR1 hC1)
          | (go_at_call 330; refine (HG.out _ HR1.out (HC1.out.tabs HT.out hT2 (Ne.symm hB2)) (Nat.lt_of_lt_of_le hT2 HC1.out.size)).mono ?_; rintro e w2 ⟨rfl, hR2, hC2⟩; have HR2 := Hid.mk' hR2; have HC2 := Hid.mk' hC2; clear hR2 hC2; simp only [gV])
          | (go_at_call 331; refine (readRests_any B g s b (posn p d (ord kind)) d n kind 0 0 (fun i => sgn b (posn p d i) d) _ hs hfi hd1 hd hn h2 h7 (by omega) (by omega) (HR2.out.of (blk_alloc_lt _ _ _ HR2.out.lt)) HB.out ((HC2.out.row HROW1.out (by omega)).alloc _) (by omega) (fun j _ => sgn_fits b _ hd1) (by omega)).mono ?_; rintro e w3 h3; obtain ⟨u, cc, rfl⟩ := h3.form; have H3 := Hid.mk' h3; clear h3))
        go_ret2
        rw [HBO.out, if_pos hfi, if_neg h7']
        exact restsOut_out ((HC1.out.trans HC2.out).below ((Below.refl _ _).alloc (Nat.le_refl _) _)) hg1 H3.out
    · have HP1 : Hid (Calls Tryz.prog 300 #[.pointer (some ⟨B, 0, none⟩), .int .i64 d, .int .i64 (ord kind), .int .i64 n] w fun e w' => Not e w w' B) :=
        HPL.out.mono fun e w' h => by
          rcases h with h | h
          · exact absurd h.1 hfi
          · exact h.2
      have HO : Hid (bodySt b s.size kind d n p = none) := by show _ = _; rw [HBO.out, if_neg hfi]
      clear HPL hb hR hT
      go_enter Tryz.func301, Tryz.ntmps301
      go_wp2_with (first
        | (go_at_call 319; refine (orderOf_any kind _ h2 h7).mono ?_; rintro e w' ⟨rfl, rfl⟩)
        | (go_at_call 300; refine HP1.out.mono ?_; rintro e w1 ⟨v, rfl, hC1⟩))
      go_ret2
      rw [HO.out]
      exact ⟨_, rfl, hC1⟩
theorem rests_fits {b : Nat → Bool} {N d kind n p : Nat} {a c : Int} {x0 : Nat → Int} {st : St} (h : restsSt b N d kind a c n p x0 = some st) (h0 : ∀ j, j < ord kind → fitsB d (x0 j) = true) : ∀ j, j < n → fitsB d (st.x j) = true := by
  unfold restsSt at h
  split at h
  · intro j hj
    exact (theJob b N d kind a c n p).R_fits ⟨p + 2, 0, x0⟩ h0 n st h j (by omega)
  · cases h
theorem body_fits {b : Nat → Bool} {N kind d n p : Nat} {xp : (Nat → Int) × Nat} (hd : 1 ≤ d) (h : bodySt b N kind d n p = some xp) : ∀ j, j < n → fitsB d (xp.1 j) = true := by
  unfold bodySt at h
  intro j hj
  split at h
  · split at h
    · cases h; exact sgn_fits b _ hd
    · cases h
  · split at h
    · split at h
      · cases h; exact sgn_fits b _ hd
      · cases h
    · split at h
      · cases h
      · split at h
        · split at h
          · split at h
            · simp only [Option.map_eq_some_iff] at h
              obtain ⟨st, hst, rfl⟩ := h
              exact rests_fits hst (fun j _ => sgn_fits b _ hd) j hj
            · cases h
          · simp only [Option.map_eq_some_iff] at h
            obtain ⟨st, hst, rfl⟩ := h
            exact rests_fits hst (fun j _ => sgn_fits b _ hd) j hj
        · cases h
set_option maxHeartbeats 1000000 in
theorem readBody_any (B : Nat) (s : ByteArray) (b : Nat → Bool) (p d n kind : Nat) (w : World) (hs : s.size ≤ 80000) (hp : p ≤ s.size) (hd1 : 1 ≤ d) (hd : d ≤ 13) (hn : n ≤ 32) (hk : kind ≤ 15) (hR : Rd w B s p) (hb : Bits s b) (hT : TabAt w 5) (hT2 : 5 < w.heap.size) (hB2 : B ≠ 5) :
    Calls Tryz.prog 270 #[.pointer (some ⟨B, 0, none⟩), .int .i64 kind, .int .i64 d, .int .i64 n] w fun e w' => Out e w w' B s n (bodySt b s.size kind d n p) := by
  by_cases k0 : kind = 0
  · subst k0
    by_cases h : p + d ≤ s.size
    · have HO : Hid (bodySt b s.size 0 d n p = some (fun _ => sgn b p d, p + d)) := by show _ = _; unfold bodySt; rw [if_pos rfl, if_pos h]
      have HC := Hid.mk' (readStill_yes B s b p d n w hs hd1 hd hn hR hb h)
      clear hb hR hT
      go_enter Tryz.func270, Tryz.ntmps270
      go_wp2_with (go_at_call 299; refine HC.out.mono ?_; rintro e w1 ⟨g, rfl, h1⟩; have H1 := Hid.mk' h1; clear h1)
      go_ret2
      rw [HO.out]
      exact ⟨g, rfl, H1.out⟩
    · have HO : Hid (bodySt b s.size 0 d n p = none) := by show _ = _; unfold bodySt; rw [if_pos rfl, if_neg h]
      have HC := Hid.mk' (readStill_no B s p d n w hs hp hd hR (by omega))
      clear hb hR hT
      go_enter Tryz.func270, Tryz.ntmps270
      go_wp2_with (go_at_call 299; refine HC.out.mono ?_; rintro e w1 ⟨v, rfl, h1⟩; have H1 := Hid.mk' h1; clear h1)
      go_ret2
      rw [HO.out]
      exact ⟨v, rfl, H1.out⟩
  · have t0 : ((kind : Int) == 0) = false := by simp; omega
    by_cases k1 : kind = 1
    · subst k1
      have HO : Hid (bodySt b s.size 1 d n p = if posn p d n ≤ s.size then some (fun i => sgn b (posn p d i) d, posn p d n) else none) := by show _ = _; unfold bodySt; rw [if_neg (by omega), if_pos rfl]
      have HC : Hid (Calls Tryz.prog 300 #[.pointer (some ⟨B, 0, none⟩), .int .i64 d, .int .i64 n, .int .i64 n] w fun e w' => Out e w w' B s n (bodySt b s.size 1 d n p)) :=
        (readPlain_any B s b p d n n w hs hp hd1 hd (Nat.le_refl _) hn hR hb).mono fun e w' h => by
          rw [HO.out]
          rcases h with h | h
          · rw [if_pos h.1]; exact h.2
          · rw [if_neg (by omega)]; exact h.2
      clear hb hR hT HO
      go_enter Tryz.func270, Tryz.ntmps270
      go_wp2_with (go_at_call 300; refine HC.out.mono ?_; rintro e w1 h1; obtain ⟨u, cc, rfl⟩ := h1.form; have H1 := Hid.mk' h1; clear h1)
      go_ret2
      exact H1.out
    · have t1 : ((kind : Int) == 1) = false := by simp; omega
      by_cases k7 : kind ≤ 7
      · have HC := Hid.mk' (readGuessed_any B s b p d n kind w hs hp hd1 hd hn (by omega) k7 hR hb hT hT2 hB2)
        clear hb hR hT
        go_enter Tryz.func270, Tryz.ntmps270
        go_wp2_with (go_at_call 301; refine HC.out.mono ?_; rintro e w1 h1; obtain ⟨u, cc, rfl⟩ := h1.form; have H1 := Hid.mk' h1; clear h1)
        go_ret2
        exact H1.out
      · have HO : Hid (bodySt b s.size kind d n p = none) := by show _ = _; unfold bodySt; rw [if_neg k0, if_neg k1, if_pos (.inl (by omega))]
        clear hb hR hT
        go_enter Tryz.func270, Tryz.ntmps270
        go_wp2
        go_ret2
        rw [HO.out]
        exact ⟨_, rfl, Chg.refl _ _⟩
end Go.Proofs.YtlncjgnomhpjnabGreatDoor

