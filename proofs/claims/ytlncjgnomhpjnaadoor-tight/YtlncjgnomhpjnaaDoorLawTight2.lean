/-
  'Tight', walked.
-/
import Derived.Test.YtlncjgnomhpjnaaDoorLawTight
namespace Go.Proofs.YtlncjgnomhpjnaaDoor
open Go.RowKit Go.Deep
set_option linter.unusedVariables false

theorem owns_ints {w : World} {B g n cap : Nat} {x : Nat → Int} (h : w.ownsRow B 3 1 (.slice (some ⟨g, 0, none⟩) n cap) n ((List.range n).map fun i => .int .i64 (x i))) : IntsAt w (some ⟨g, 0, none⟩) n x := fun i hi => ⟨_, rfl, by
  exact h.cells (g := g) rfl i (.int .i64 (x i)) (by simp [hi])⟩

theorem code_yes {W n : Nat} {x : Nat → Int} (hW1 : 1 ≤ W) (hW : W ≤ 13) (hn1 : 1 ≤ n) (hn : n ≤ 32) (hf : ∀ j, j < n → fitsB W (x j) = true) : codeS W x n = bs (subT W x n) ∧ codeE W x n = 0 := by
  have e : codeOk (W : Int) x n = true := by
    unfold codeOk
    rw [Int.toNat_natCast, (allFit_iff W x n).2 hf, Bool.and_eq_true, Bool.and_eq_true, within_iff, within_iff]
    exact ⟨⟨by omega, by omega⟩, rfl⟩
  unfold codeS codeE
  rw [e, Int.toNat_natCast]; exact ⟨rfl, rfl⟩
theorem subT_ge (W : Nat) (x : Nat → Int) (n : Nat) (hW1 : 1 ≤ W) (hn1 : 1 ≤ n) : 9 ≤ (subT W x n).length := by
  rw [subT_length]
  have hs : shiftN x n W ≤ W - 1 := shiftT_le _ _ _
  have := bodyL_pos (subKind W x n) (W - shiftN x n W) (shortX x n W) n (by omega) hn1
  omega

theorem below_drewN {B : Nat} {a b : World} (h : Below B a b) (m : Nat) : Below B a (b.drewN m) := ⟨h.os, h.tape, h.output, h.size, h.block⟩
theorem bs_take (T : List UInt8) (k : Nat) : (bs T).extract 0 k = bs (T.take k) := by
  apply ByteArray.ext
  have hd : ((bs T).extract 0 k).data = (bs T).data.extract 0 k := by simp
  rw [hd]
  show T.toArray.extract 0 k = (T.take k).toArray
  simp
theorem fitsB_zero (W : Nat) : fitsB W 0 = true := by
  have hp := Nat.two_pow_pos (W - 1)
  have e : ((2 ^ (W - 1) : Nat) : Int) = (2 : Int) ^ (W - 1) := by simp
  unfold fitsB
  rw [within_iff, ← e]
  omega
theorem AllB_snoc {U : List UInt8} (h : AllB U) {c : UInt8} (k : c = 48 ∨ c = 49) : AllB (U ++ [c]) := h.append (fun d hd => by simp at hd; rw [hd]; exact k)

set_option maxRecDepth 100000 in
set_option maxHeartbeats 4000000 in
theorem tightLaw (width : Int) (A : Option Addr) (n c : Nat) (l : Nat → Int) (behind : ByteArray) (w : World) (hwd : -9223372036854775808 ≤ width ∧ width ≤ 9223372036854775807) (hn : n ≤ 17592186044416) (hI : IntsAt w A n l) (hlow : ∀ y, A = some y → 0 < n → y.block < w.heap.size)
    (hlr : ∀ i, i < n → -9223372036854775808 ≤ l i ∧ l i ≤ 9223372036854775807) (hbs : behind.size ≤ 9223372036854775807) (hT : Tabs w) :
    Calls Tryd.prog 5 #[.int .i64 width, .slice A n c, .string behind] w fun e w' => e = .returned (.bool true) ∧ Below w.heap.size w w' := by
  obtain ⟨i0, hi0, hz0, hz1, hz2⟩ := info_parts infoInt
  obtain ⟨wv, hwv⟩ : ∃ wv, wv = IntKind.i64.wrap (width - 1) := ⟨_, rfl⟩
  have hwr : -9223372036854775808 ≤ wv ∧ wv ≤ 9223372036854775807 := by rw [hwv, IntKind.wrap_i64]; omega
  have v0 : IntKind.i64.wrap (width - 1) = wv := hwv.symm
  have HPK := Hid.mk' (fun u => pick_any wv 13 u (by omega) (by omega) hwr)
  have hp13 := pickV_lt wv 13 (by omega)
  generalize pickV wv 13 = W0 at *
  have v00 : IntKind.i64.wrap (1 + (W0 : Int)) = ((W0 + 1 : Nat) : Int) := by rw [IntKind.wrap_i64]; omega
  have HI := Hid.mk' (fun u (h : Below w.heap.size w u) => hI.belowB h hlow)
  have HLR := Hid.mk' hlr
  have HT := Hid.mk' hT
  obtain ⟨W, hW⟩ : ∃ W, W = W0 + 1 := ⟨_, rfl⟩
  rw [← hW] at v00
  have hW1 : 1 ≤ W := by omega
  have hW13 : W ≤ 13 := by omega
  clear hwv hwr hI hlow hlr hT hW
  obtain ⟨H, hH⟩ : ∃ H : Nat, H = 2 ^ (W - 1) := ⟨_, rfl⟩
  have hH1 : 1 ≤ H := by rw [hH]; exact Nat.two_pow_pos _
  have hH2 : H ≤ 4096 := by rw [hH]; exact Nat.le_trans (Nat.pow_le_pow_right (by omega) (by omega : W - 1 ≤ 12)) (by decide)
  have HSV : Hid (∀ v, sampV W v = if (decide (-(H : Int) ≤ v) && decide (v ≤ (H : Int) - 1)) = true then v else (pickV v (2 * H) : Int) - H) := fun v => by
    unfold sampV fitsB within; rw [hH]; simp
  have vh0 : IntKind.i64.wrap ((W : Int) - 1) = ((W - 1 : Nat) : Int) := by rw [IntKind.wrap_i64]; omega
  have hmn : min (W - 1) 64 = W - 1 := by omega
  have vh : IntKind.i64.wrap ((2 : Int) ^ (W - 1)) = (H : Int) := by rw [show ((2 : Int) ^ (W - 1)) = (H : Int) by rw [hH]; simp, IntKind.wrap_i64]; omega
  have vh2 : IntKind.i64.wrap (2 * (H : Int)) = ((2 * H : Nat) : Int) := by rw [IntKind.wrap_i64]; omega
  have vh3 : IntKind.i64.wrap (-(H : Int)) = -(H : Int) := by rw [IntKind.wrap_i64]; omega
  clear hH
  go_enter Tryd.func5, Tryd.ntmps5
  go_wp2_with (go_at_call 13; refine (HPK.out _).mono ?_; rintro e w1 ⟨rfl, hw⟩; subst w1; clear HPK)
  go_loopw [8, 9] (fun xv iv wr => ∃ j : Nat, ∃ v : Value, j ≤ n ∧ j ≤ 32 ∧ iv = .int .i64 j ∧ xv = v ∧ Hid ((j = 0 → v = .slice none 0 0) ∧ wr.ownsRow w.heap.size 3 1 v j ((List.range j).map fun i => .int .i64 (sampV W (l i))) ∧ Below w.heap.size w wr)) (fun _ iv _ => 32 - (intOf iv).toNat)
  case atStart => exact ⟨0, _, by omega, by omega, rfl, rfl, fun _ => rfl, ⟨rfl, .inl ⟨rfl, rfl⟩⟩, Below.refl _ _⟩
  case round =>
    obtain ⟨j, v, hjn, hj32, rfl, hxv, HR⟩ := hrel
    have hxv2 := hxv.symm
    clear hxv
    subst hxv2
    by_cases hlt : j < n
    · have t1 : decide ((j : Int) < (n : Int)) = true := decide_eq_true (by omega)
      by_cases hlt2 : j < 32
      · have t2 : decide ((j : Int) < 32) = true := decide_eq_true (by omega)
        obtain ⟨bb, off, hx, hc⟩ := (HI.out wr HR.out.2.2).open (by omega)
        cases hx
        have hcj := hc j hlt
        have hlj := HLR.out j hlt
        clear hc
        have HS := Hid.mk' (HSV.out (l j))
        by_cases d1 : l j < -(H : Int)
        · have u1 : decide (l j < -(H : Int)) = true := decide_eq_true d1
          rw [if_neg (by simp; omega)] at HS
          have hpl := pickV_lt (l j) (2 * H) (by omega)
          have HPI := Hid.mk' (fun u => pick_any (l j) (2 * H) u (by omega) (by omega) hlj)
          generalize pickV (l j) (2 * H) = q at *
          have vq : IntKind.i64.wrap ((q : Int) - (H : Int)) = sampV W (l j) := by rw [HS.out, IntKind.wrap_i64]; omega
          clear d1 HS
          go_wp2_with (first | (go_at_call 13; refine (HPI.out _).mono ?_; rintro e w9 ⟨rfl, hw⟩; subst w9; clear HPI) | (at_builtin; refine wpList_append_own _ rfl _ _ 22 rfl w.heap.size 3 i0 (.int .i64 0) 1 8 Tryd.underlying22 hi0 hz0 hz1 hz2 rfl (by decide) _ _ _ rfl (HR.out.2.1.alloc _) ⟨wr.heap.size, 0, none⟩ 1 1 [.int .i64 (sampV W (l j))] rfl rfl ?c1 ?c2 ?c3 ?c4 ?c5 ?_))
          case c1 =>
            intro k u hk
            match k, hk with
            | 0, hk => simp at hk; subst hk; simp [Addr.add]
          case c2 => intro u hu; simp at hu; subst hu; rfl
          case c3 => unfold maxLen; omega
          case c4 => omega
          case c5 => have := HR.out.2.2.size; simp; omega
          intro v' w2 hown' hgrow _
          obtain ⟨g, cap, rfl⟩ : ∃ g cap, v' = .slice (some ⟨g, 0, none⟩) (j + 1) cap := by
            rcases hown'.2 with ⟨_, h0⟩ | ⟨g, cap, cur, hv, _⟩
            · omega
            · exact ⟨g, cap, hv⟩
          have HB2 : Hid (Below w.heap.size w w2) := (HR.out.2.2.alloc HR.out.2.2.size _).grown hgrow (by have := HR.out.2.2.size; simp; omega) (fun k hk => (HR.out.2.1.lt k hk).1)
          have HO2 := Hid.mk' hown'
          clear hown' hgrow
          go_wp2
          go_roundw
          case rel => exact ⟨j + 1, _, by omega, by omega, by go_num, rfl, fun h => absurd h (by omega), by rw [List.range_succ, List.map_append]; first | exact HO2.out | (rw [← HSF.out] at HO2; exact HO2.out), HB2.out⟩
          case measure => simp [intOf]; omega
        · have u1 : decide (l j < -(H : Int)) = false := decide_eq_false d1
          by_cases d2 : (H : Int) ≤ l j
          · have u2 : decide ((H : Int) ≤ l j) = true := decide_eq_true d2
            rw [if_neg (by simp; omega)] at HS
            have hpl := pickV_lt (l j) (2 * H) (by omega)
            have HPI := Hid.mk' (fun u => pick_any (l j) (2 * H) u (by omega) (by omega) hlj)
            generalize pickV (l j) (2 * H) = q at *
            have vq : IntKind.i64.wrap ((q : Int) - (H : Int)) = sampV W (l j) := by rw [HS.out, IntKind.wrap_i64]; omega
            clear d1 d2 HS
            go_wp2_with (first | (go_at_call 13; refine (HPI.out _).mono ?_; rintro e w9 ⟨rfl, hw⟩; subst w9; clear HPI) | (at_builtin; refine wpList_append_own _ rfl _ _ 22 rfl w.heap.size 3 i0 (.int .i64 0) 1 8 Tryd.underlying22 hi0 hz0 hz1 hz2 rfl (by decide) _ _ _ rfl (HR.out.2.1.alloc _) ⟨wr.heap.size, 0, none⟩ 1 1 [.int .i64 (sampV W (l j))] rfl rfl ?c1 ?c2 ?c3 ?c4 ?c5 ?_))
            case c1 =>
              intro k u hk
              match k, hk with
              | 0, hk => simp at hk; subst hk; simp [Addr.add]
            case c2 => intro u hu; simp at hu; subst hu; rfl
            case c3 => unfold maxLen; omega
            case c4 => omega
            case c5 => have := HR.out.2.2.size; simp; omega
            intro v' w2 hown' hgrow _
            obtain ⟨g, cap, rfl⟩ : ∃ g cap, v' = .slice (some ⟨g, 0, none⟩) (j + 1) cap := by
              rcases hown'.2 with ⟨_, h0⟩ | ⟨g, cap, cur, hv, _⟩
              · omega
              · exact ⟨g, cap, hv⟩
            have HB2 : Hid (Below w.heap.size w w2) := (HR.out.2.2.alloc HR.out.2.2.size _).grown hgrow (by have := HR.out.2.2.size; simp; omega) (fun k hk => (HR.out.2.1.lt k hk).1)
            have HO2 := Hid.mk' hown'
            clear hown' hgrow
            go_wp2
            go_roundw
            case rel => exact ⟨j + 1, _, by omega, by omega, by go_num, rfl, fun h => absurd h (by omega), by rw [List.range_succ, List.map_append]; first | exact HO2.out | (rw [← HSF.out] at HO2; exact HO2.out), HB2.out⟩
            case measure => simp [intOf]; omega
          · have u2 : decide ((H : Int) ≤ l j) = false := decide_eq_false d2
            rw [if_pos (by simp; omega)] at HS
            have HSF := Hid.mk' HS.out
            clear d1 d2 HS
            go_wp2_with (first | (go_at_call 13; refine (HPI.out _).mono ?_; rintro e w9 ⟨rfl, hw⟩; subst w9; clear HPI) | (at_builtin; refine wpList_append_own _ rfl _ _ 22 rfl w.heap.size 3 i0 (.int .i64 0) 1 8 Tryd.underlying22 hi0 hz0 hz1 hz2 rfl (by decide) _ _ _ rfl (HR.out.2.1.alloc _) ⟨wr.heap.size, 0, none⟩ 1 1 [.int .i64 (l j)] rfl rfl ?c1 ?c2 ?c3 ?c4 ?c5 ?_))
            case c1 =>
              intro k u hk
              match k, hk with
              | 0, hk => simp at hk; subst hk; simp [Addr.add]
            case c2 => intro u hu; simp at hu; subst hu; rfl
            case c3 => unfold maxLen; omega
            case c4 => omega
            case c5 => have := HR.out.2.2.size; simp; omega
            intro v' w2 hown' hgrow _
            obtain ⟨g, cap, rfl⟩ : ∃ g cap, v' = .slice (some ⟨g, 0, none⟩) (j + 1) cap := by
              rcases hown'.2 with ⟨_, h0⟩ | ⟨g, cap, cur, hv, _⟩
              · omega
              · exact ⟨g, cap, hv⟩
            have HB2 : Hid (Below w.heap.size w w2) := (HR.out.2.2.alloc HR.out.2.2.size _).grown hgrow (by have := HR.out.2.2.size; simp; omega) (fun k hk => (HR.out.2.1.lt k hk).1)
            have HO2 := Hid.mk' hown'
            clear hown' hgrow
            go_wp2
            go_roundw
            case rel => exact ⟨j + 1, _, by omega, by omega, by go_num, rfl, fun h => absurd h (by omega), by rw [List.range_succ, List.map_append]; first | exact HO2.out | (rw [← HSF.out] at HO2; exact HO2.out), HB2.out⟩
            case measure => simp [intOf]; omega
      · have t2 : decide ((j : Int) < 32) = false := decide_eq_false (by omega)
        have hj0 : 0 < j := by omega
        obtain ⟨g, cap, hv⟩ : ∃ g cap, v = .slice (some ⟨g, 0, none⟩) j cap := by
          rcases HR.out.2.1.2 with ⟨_, h0⟩ | ⟨g, cap, cur, hv, _⟩
          · omega
          · exact ⟨g, cap, hv⟩
        subst hv
        have tl : ((j : Int) == 0) = false := by simp; omega
        have HFX : Hid (∀ i, i < j → fitsB W (sampV W (l i)) = true) := fun i _ => sampV_fits W (l i) hW1
        have HIX := Hid.mk' (owns_ints HR.out.2.1)
        have HBX := Hid.mk' HR.out.2.2
        have hgx := (HR.out.2.1.lt g rfl).2
        clear HR HLR HSV
        obtain ⟨xs, hxs⟩ : ∃ xs : Nat → Int, xs = fun i => sampV W (l i) := ⟨_, rfl⟩
        have hxs2 : (fun i => sampV W (l i)) = xs := hxs.symm
        rw [hxs2] at HIX
        have HFX2 : Hid (∀ i, i < j → fitsB W (xs i) = true) := fun i hi => by rw [hxs]; exact HFX.out i hi
        clear HFX hxs hxs2
        have HFX := Hid.mk' HFX2.out
        clear HFX2
        have hm1 : 1 ≤ j := by omega
        obtain ⟨e1, e2⟩ := code_yes hW1 hW13 (show 1 ≤ j by omega) (show j ≤ 32 by omega) HFX.out
        have HCODE := Hid.mk' (fun (u : World) (hu : Below w.heap.size w u) (hi : IntsAt u (some ⟨g, 0, none⟩) j xs) (hg : g < u.heap.size) => reelCode_any (W : Int) (some ⟨g, 0, none⟩) j cap xs u (by omega) hi (fun y hy _ => by cases hy; exact hg) (HT.out.below hu))
        rw [e1, e2] at HCODE
        have hL9 := subT_ge W xs j hW1 (by omega)
        have hL8 := subT_le W xs j (by omega)
        have hmW : j * W ≤ 32 * 13 := Nat.mul_le_mul (by omega) hW13
        have hSz : (bs (subT W xs j)).size = (subT W xs j).length := bs_size _
        have HRY := Hid.mk' (fun (u : World) (hu : Below w.heap.size w u) (U : List UInt8) (hU : AllB U) (hUl : U.length ≤ 64) => readYes W j xs U u (by omega) (by omega) hW1 hW13 HFX.out hU hUl (HT.out.below hu).fixed (HT.out.below hu).fixedLt)
        have HRN := Hid.mk' (fun (u : World) (hu : Below w.heap.size w u) => readNo W j xs u (by omega) (by omega) hW1 hW13 HFX.out (HT.out.below hu).fixed (HT.out.below hu).fixedLt)
        have vmW : IntKind.i64.wrap ((j : Int) * (W : Int)) = ((j * W : Nat) : Int) := by rw [show (j : Int) * (W : Int) = ((j * W : Nat) : Int) by simp, IntKind.wrap_i64]; omega
        clear e1 e2
        obtain ⟨L, hL⟩ : ∃ L, L = (subT W xs j).length := ⟨_, rfl⟩
        rw [← hL] at hL9 hL8 hSz HRY HRN
        simp only [← bs_append, ← bs_take] at HRY HRN
        generalize bs (subT W xs j) = S0 at *
        have vL1 : IntKind.i64.wrap ((L : Int) - 1) = ((L - 1 : Nat) : Int) := by rw [IntKind.wrap_i64]; omega
        have HLL := Hid.mk' hL
        clear hL
        generalize j * W = mW at *
        have c1 : decide ((L : Int) < 9) = false := decide_eq_false (by omega)
        have c2 : decide (8 + (mW : Int) < (L : Int)) = false := decide_eq_false (by omega)
        go_wp2_with (go_at_call 6; refine (HCODE.out _ ?_ ?_ ?_).mono ?_; exact HBX.out; exact HIX.out; exact hgx; rintro e w3 ⟨rfl, hb3⟩; have HB3 := Hid.mk' (HBX.out.trans (hb3.mono HBX.out.size)); have HI3 := Hid.mk' (HIX.out.belowB hb3 (fun y hy _ => by cases hy; exact hgx)); have hg3 := Nat.lt_of_lt_of_le hgx hb3.size; clear hb3 HCODE)
        go_loopw [14, 15] (fun sv iv wi => ∃ i : Nat, ∃ U : List UInt8, i ≤ behind.size ∧ i ≤ 64 ∧ iv = .int .i64 i ∧ sv = .string (bs U) ∧ Hid (AllB U ∧ U.length = i) ∧ Hid (Below w.heap.size w wi ∧ IntsAt wi (some ⟨g, 0, none⟩) j xs ∧ g < wi.heap.size)) (fun _ iv _ => 64 - (intOf iv).toNat)
        case atStart => exact ⟨0, [], by omega, by omega, rfl, rfl, ⟨(fun c hc => by simp at hc), rfl⟩, HB3.out, HI3.out, hg3⟩
        case round =>
          obtain ⟨i, U, hib, hi64, rfl, rfl, HU, HW⟩ := hrel
          have hUs : (bs U).size = i := by rw [bs_size, HU.out.2]
          clear HB3 HI3 hg3
          by_cases hlt3 : i < behind.size
          · have t3 : decide ((i : Int) < (behind.size : Int)) = true := decide_eq_true (by omega)
            by_cases hlt4 : i < 64
            · have t4 : decide ((i : Int) < 64) = true := decide_eq_true (by omega)
              have hby : behind[i].toNat < 256 := behind[i].toNat_lt
              by_cases hpar : behind[i].toNat % 2 = 0
              · have HS2 : Hid (bs U ++ bs [48] = bs (U ++ [48])) := bs_append _ _
                go_wp2
                go_roundw
                case rel => exact ⟨i + 1, U ++ [48], by omega, by omega, by go_num, congrArg Value.string HS2.out, ⟨AllB_snoc HU.out.1 (.inl rfl), by rw [List.length_append, HU.out.2]; rfl⟩, HW.out⟩
                case measure => simp [intOf]; omega
              · have HS2 : Hid (bs U ++ bs [49] = bs (U ++ [49])) := bs_append _ _
                have hpar2 : behind[i].toNat % 2 = 1 := by omega
                go_wp2
                go_roundw
                case rel => exact ⟨i + 1, U ++ [49], by omega, by omega, by go_num, congrArg Value.string HS2.out, ⟨AllB_snoc HU.out.1 (.inr rfl), by rw [List.length_append, HU.out.2]; rfl⟩, HW.out⟩
                case measure => simp [intOf]; omega
            · have t4 : decide ((i : Int) < 64) = false := decide_eq_false (by omega)
              have HRY2 := Hid.mk' (fun (u : World) (hu : Below w.heap.size w u) => HRY.out u hu U HU.out.1 (by rw [HU.out.2]; omega))
              clear HRY HU
              have HY := HRY2
              clear HRY2
              go_wp2_with (first | (go_at_call 14; refine (HKS.out).mono ?_; rintro e w9 ⟨rfl, mm, hw⟩; subst hw; clear HKS) | (go_at_call 9; go_loud (first | (refine (HY.out _ HW.out.1).mono ?_; rintro e w5 ⟨gy, rfl, hiy, hb5⟩; have HB5 := Hid.mk' (HW.out.1.trans (hb5.mono HW.out.1.size)); have HKS := Hid.mk' (ksame_any _ _ j cap j xs w5 (by omega) (HW.out.2.1.belowB hb5 (fun y hy _ => by cases hy; exact HW.out.2.2)) hiy); clear hb5 hiy HY HW) | (refine (HRN.out _ (below_drewN HB5.out mm)).mono ?_; rintro e w6 ⟨rfl, hb6⟩; have HB6 := Hid.mk' ((below_drewN HB5.out mm).trans (hb6.mono (below_drewN HB5.out mm).size)); clear hb6 HRN))))
              go_ret
              exact ⟨rfl, HB6.out⟩
          · have t3 : decide ((i : Int) < (behind.size : Int)) = false := decide_eq_false (by omega)
            have HRY2 := Hid.mk' (fun (u : World) (hu : Below w.heap.size w u) => HRY.out u hu U HU.out.1 (by rw [HU.out.2]; omega))
            clear HRY HU
            have HY := HRY2
            clear HRY2
            go_wp2_with (first | (go_at_call 14; refine (HKS.out).mono ?_; rintro e w9 ⟨rfl, mm, hw⟩; subst hw; clear HKS) | (go_at_call 9; go_loud (first | (refine (HY.out _ HW.out.1).mono ?_; rintro e w5 ⟨gy, rfl, hiy, hb5⟩; have HB5 := Hid.mk' (HW.out.1.trans (hb5.mono HW.out.1.size)); have HKS := Hid.mk' (ksame_any _ _ j cap j xs w5 (by omega) (HW.out.2.1.belowB hb5 (fun y hy _ => by cases hy; exact HW.out.2.2)) hiy); clear hb5 hiy HY HW) | (refine (HRN.out _ (below_drewN HB5.out mm)).mono ?_; rintro e w6 ⟨rfl, hb6⟩; have HB6 := Hid.mk' ((below_drewN HB5.out mm).trans (hb6.mono (below_drewN HB5.out mm).size)); clear hb6 HRN))))
            go_ret
            exact ⟨rfl, HB6.out⟩
    · have t1 : decide ((j : Int) < (n : Int)) = false := decide_eq_false (by omega)
      by_cases hj0 : 0 < j
      · obtain ⟨g, cap, hv⟩ : ∃ g cap, v = .slice (some ⟨g, 0, none⟩) j cap := by
          rcases HR.out.2.1.2 with ⟨_, h0⟩ | ⟨g, cap, cur, hv, _⟩
          · omega
          · exact ⟨g, cap, hv⟩
        subst hv
        have tl : ((j : Int) == 0) = false := by simp; omega
        have HFX : Hid (∀ i, i < j → fitsB W (sampV W (l i)) = true) := fun i _ => sampV_fits W (l i) hW1
        have HIX := Hid.mk' (owns_ints HR.out.2.1)
        have HBX := Hid.mk' HR.out.2.2
        have hgx := (HR.out.2.1.lt g rfl).2
        clear HR HLR HSV
        obtain ⟨xs, hxs⟩ : ∃ xs : Nat → Int, xs = fun i => sampV W (l i) := ⟨_, rfl⟩
        have hxs2 : (fun i => sampV W (l i)) = xs := hxs.symm
        rw [hxs2] at HIX
        have HFX2 : Hid (∀ i, i < j → fitsB W (xs i) = true) := fun i hi => by rw [hxs]; exact HFX.out i hi
        clear HFX hxs hxs2
        have HFX := Hid.mk' HFX2.out
        clear HFX2
        have hm1 : 1 ≤ j := by omega
        obtain ⟨e1, e2⟩ := code_yes hW1 hW13 (show 1 ≤ j by omega) (show j ≤ 32 by omega) HFX.out
        have HCODE := Hid.mk' (fun (u : World) (hu : Below w.heap.size w u) (hi : IntsAt u (some ⟨g, 0, none⟩) j xs) (hg : g < u.heap.size) => reelCode_any (W : Int) (some ⟨g, 0, none⟩) j cap xs u (by omega) hi (fun y hy _ => by cases hy; exact hg) (HT.out.below hu))
        rw [e1, e2] at HCODE
        have hL9 := subT_ge W xs j hW1 (by omega)
        have hL8 := subT_le W xs j (by omega)
        have hmW : j * W ≤ 32 * 13 := Nat.mul_le_mul (by omega) hW13
        have hSz : (bs (subT W xs j)).size = (subT W xs j).length := bs_size _
        have HRY := Hid.mk' (fun (u : World) (hu : Below w.heap.size w u) (U : List UInt8) (hU : AllB U) (hUl : U.length ≤ 64) => readYes W j xs U u (by omega) (by omega) hW1 hW13 HFX.out hU hUl (HT.out.below hu).fixed (HT.out.below hu).fixedLt)
        have HRN := Hid.mk' (fun (u : World) (hu : Below w.heap.size w u) => readNo W j xs u (by omega) (by omega) hW1 hW13 HFX.out (HT.out.below hu).fixed (HT.out.below hu).fixedLt)
        have vmW : IntKind.i64.wrap ((j : Int) * (W : Int)) = ((j * W : Nat) : Int) := by rw [show (j : Int) * (W : Int) = ((j * W : Nat) : Int) by simp, IntKind.wrap_i64]; omega
        clear e1 e2
        obtain ⟨L, hL⟩ : ∃ L, L = (subT W xs j).length := ⟨_, rfl⟩
        rw [← hL] at hL9 hL8 hSz HRY HRN
        simp only [← bs_append, ← bs_take] at HRY HRN
        generalize bs (subT W xs j) = S0 at *
        have vL1 : IntKind.i64.wrap ((L : Int) - 1) = ((L - 1 : Nat) : Int) := by rw [IntKind.wrap_i64]; omega
        have HLL := Hid.mk' hL
        clear hL
        generalize j * W = mW at *
        have c1 : decide ((L : Int) < 9) = false := decide_eq_false (by omega)
        have c2 : decide (8 + (mW : Int) < (L : Int)) = false := decide_eq_false (by omega)
        go_wp2_with (go_at_call 6; refine (HCODE.out _ ?_ ?_ ?_).mono ?_; exact HBX.out; exact HIX.out; exact hgx; rintro e w3 ⟨rfl, hb3⟩; have HB3 := Hid.mk' (HBX.out.trans (hb3.mono HBX.out.size)); have HI3 := Hid.mk' (HIX.out.belowB hb3 (fun y hy _ => by cases hy; exact hgx)); have hg3 := Nat.lt_of_lt_of_le hgx hb3.size; clear hb3 HCODE)
        go_loopw [14, 15] (fun sv iv wi => ∃ i : Nat, ∃ U : List UInt8, i ≤ behind.size ∧ i ≤ 64 ∧ iv = .int .i64 i ∧ sv = .string (bs U) ∧ Hid (AllB U ∧ U.length = i) ∧ Hid (Below w.heap.size w wi ∧ IntsAt wi (some ⟨g, 0, none⟩) j xs ∧ g < wi.heap.size)) (fun _ iv _ => 64 - (intOf iv).toNat)
        case atStart => exact ⟨0, [], by omega, by omega, rfl, rfl, ⟨(fun c hc => by simp at hc), rfl⟩, HB3.out, HI3.out, hg3⟩
        case round =>
          obtain ⟨i, U, hib, hi64, rfl, rfl, HU, HW⟩ := hrel
          have hUs : (bs U).size = i := by rw [bs_size, HU.out.2]
          clear HB3 HI3 hg3
          by_cases hlt3 : i < behind.size
          · have t3 : decide ((i : Int) < (behind.size : Int)) = true := decide_eq_true (by omega)
            by_cases hlt4 : i < 64
            · have t4 : decide ((i : Int) < 64) = true := decide_eq_true (by omega)
              have hby : behind[i].toNat < 256 := behind[i].toNat_lt
              by_cases hpar : behind[i].toNat % 2 = 0
              · have HS2 : Hid (bs U ++ bs [48] = bs (U ++ [48])) := bs_append _ _
                go_wp2
                go_roundw
                case rel => exact ⟨i + 1, U ++ [48], by omega, by omega, by go_num, congrArg Value.string HS2.out, ⟨AllB_snoc HU.out.1 (.inl rfl), by rw [List.length_append, HU.out.2]; rfl⟩, HW.out⟩
                case measure => simp [intOf]; omega
              · have HS2 : Hid (bs U ++ bs [49] = bs (U ++ [49])) := bs_append _ _
                have hpar2 : behind[i].toNat % 2 = 1 := by omega
                go_wp2
                go_roundw
                case rel => exact ⟨i + 1, U ++ [49], by omega, by omega, by go_num, congrArg Value.string HS2.out, ⟨AllB_snoc HU.out.1 (.inr rfl), by rw [List.length_append, HU.out.2]; rfl⟩, HW.out⟩
                case measure => simp [intOf]; omega
            · have t4 : decide ((i : Int) < 64) = false := decide_eq_false (by omega)
              have HRY2 := Hid.mk' (fun (u : World) (hu : Below w.heap.size w u) => HRY.out u hu U HU.out.1 (by rw [HU.out.2]; omega))
              clear HRY HU
              have HY := HRY2
              clear HRY2
              go_wp2_with (first | (go_at_call 14; refine (HKS.out).mono ?_; rintro e w9 ⟨rfl, mm, hw⟩; subst hw; clear HKS) | (go_at_call 9; go_loud (first | (refine (HY.out _ HW.out.1).mono ?_; rintro e w5 ⟨gy, rfl, hiy, hb5⟩; have HB5 := Hid.mk' (HW.out.1.trans (hb5.mono HW.out.1.size)); have HKS := Hid.mk' (ksame_any _ _ j cap j xs w5 (by omega) (HW.out.2.1.belowB hb5 (fun y hy _ => by cases hy; exact HW.out.2.2)) hiy); clear hb5 hiy HY HW) | (refine (HRN.out _ (below_drewN HB5.out mm)).mono ?_; rintro e w6 ⟨rfl, hb6⟩; have HB6 := Hid.mk' ((below_drewN HB5.out mm).trans (hb6.mono (below_drewN HB5.out mm).size)); clear hb6 HRN))))
              go_ret
              exact ⟨rfl, HB6.out⟩
          · have t3 : decide ((i : Int) < (behind.size : Int)) = false := decide_eq_false (by omega)
            have HRY2 := Hid.mk' (fun (u : World) (hu : Below w.heap.size w u) => HRY.out u hu U HU.out.1 (by rw [HU.out.2]; omega))
            clear HRY HU
            have HY := HRY2
            clear HRY2
            go_wp2_with (first | (go_at_call 14; refine (HKS.out).mono ?_; rintro e w9 ⟨rfl, mm, hw⟩; subst hw; clear HKS) | (go_at_call 9; go_loud (first | (refine (HY.out _ HW.out.1).mono ?_; rintro e w5 ⟨gy, rfl, hiy, hb5⟩; have HB5 := Hid.mk' (HW.out.1.trans (hb5.mono HW.out.1.size)); have HKS := Hid.mk' (ksame_any _ _ j cap j xs w5 (by omega) (HW.out.2.1.belowB hb5 (fun y hy _ => by cases hy; exact HW.out.2.2)) hiy); clear hb5 hiy HY HW) | (refine (HRN.out _ (below_drewN HB5.out mm)).mono ?_; rintro e w6 ⟨rfl, hb6⟩; have HB6 := Hid.mk' ((below_drewN HB5.out mm).trans (hb6.mono (below_drewN HB5.out mm).size)); clear hb6 HRN))))
            go_ret
            exact ⟨rfl, HB6.out⟩
      · have hv := HR.out.1 (by omega)
        have hj00 : j = 0 := by omega
        subst hv
        subst hj00
        obtain ⟨j, hj1⟩ : ∃ j : Nat, j = 1 := ⟨_, rfl⟩
        go_wp2_with (at_builtin; refine wpList_append_own _ rfl _ _ 22 rfl w.heap.size 3 i0 (.int .i64 0) 1 8 Tryd.underlying22 hi0 hz0 hz1 hz2 rfl (by decide) _ _ _ rfl (HR.out.2.1.alloc _) ⟨wr.heap.size, 0, none⟩ 1 1 [.int .i64 0] rfl rfl ?c1 ?c2 ?c3 ?c4 ?c5 ?_)
        case c2 => rfl
        case c3 => unfold maxLen; omega
        case c5 => have := HR.out.2.2.size; simp; omega
        intro v' w2 hown' hgrow _
        have hown2 : w2.ownsRow w.heap.size 3 1 v' j [.int .i64 0] := by rw [hj1]; exact hown'
        clear hown'
        have hown' := hown2
        clear hown2
        obtain ⟨g, cap, rfl⟩ : ∃ g cap, v' = .slice (some ⟨g, 0, none⟩) j cap := by
          rcases hown'.2 with ⟨_, h0⟩ | ⟨g, cap, cur, hv, _⟩
          · omega
          · exact ⟨g, cap, hv⟩
        have HBX : Hid (Below w.heap.size w w2) := (HR.out.2.2.alloc HR.out.2.2.size _).grown hgrow (by have := HR.out.2.2.size; simp; omega) (fun k hk => (HR.out.2.1.lt k hk).1)
        have hgx := (hown'.lt g rfl).2
        obtain ⟨xs, hxs⟩ : ∃ xs : Nat → Int, xs = fun _ => 0 := ⟨_, rfl⟩
        have HFX : Hid (∀ i, i < j → fitsB W (xs i) = true) := fun i hi => by rw [hxs]; exact fitsB_zero W
        have HIX : Hid (IntsAt w2 (some ⟨g, 0, none⟩) j xs) := owns_ints (x := xs) (by rw [hxs]; subst hj1; exact hown')
        have tl : ((j : Int) == 0) = false := by simp; omega
        have hm1 : 1 ≤ j := by omega
        have hj32' : j ≤ 32 := by omega
        clear HR HLR HSV hown' hgrow hxs hj1
        obtain ⟨e1, e2⟩ := code_yes hW1 hW13 (show 1 ≤ j by omega) (show j ≤ 32 by omega) HFX.out
        have HCODE := Hid.mk' (fun (u : World) (hu : Below w.heap.size w u) (hi : IntsAt u (some ⟨g, 0, none⟩) j xs) (hg : g < u.heap.size) => reelCode_any (W : Int) (some ⟨g, 0, none⟩) j cap xs u (by omega) hi (fun y hy _ => by cases hy; exact hg) (HT.out.below hu))
        rw [e1, e2] at HCODE
        have hL9 := subT_ge W xs j hW1 (by omega)
        have hL8 := subT_le W xs j (by omega)
        have hmW : j * W ≤ 32 * 13 := Nat.mul_le_mul (by omega) hW13
        have hSz : (bs (subT W xs j)).size = (subT W xs j).length := bs_size _
        have HRY := Hid.mk' (fun (u : World) (hu : Below w.heap.size w u) (U : List UInt8) (hU : AllB U) (hUl : U.length ≤ 64) => readYes W j xs U u (by omega) (by omega) hW1 hW13 HFX.out hU hUl (HT.out.below hu).fixed (HT.out.below hu).fixedLt)
        have HRN := Hid.mk' (fun (u : World) (hu : Below w.heap.size w u) => readNo W j xs u (by omega) (by omega) hW1 hW13 HFX.out (HT.out.below hu).fixed (HT.out.below hu).fixedLt)
        have vmW : IntKind.i64.wrap ((j : Int) * (W : Int)) = ((j * W : Nat) : Int) := by rw [show (j : Int) * (W : Int) = ((j * W : Nat) : Int) by simp, IntKind.wrap_i64]; omega
        clear e1 e2
        obtain ⟨L, hL⟩ : ∃ L, L = (subT W xs j).length := ⟨_, rfl⟩
        rw [← hL] at hL9 hL8 hSz HRY HRN
        simp only [← bs_append, ← bs_take] at HRY HRN
        generalize bs (subT W xs j) = S0 at *
        have vL1 : IntKind.i64.wrap ((L : Int) - 1) = ((L - 1 : Nat) : Int) := by rw [IntKind.wrap_i64]; omega
        have HLL := Hid.mk' hL
        clear hL
        generalize j * W = mW at *
        have c1 : decide ((L : Int) < 9) = false := decide_eq_false (by omega)
        have c2 : decide (8 + (mW : Int) < (L : Int)) = false := decide_eq_false (by omega)
        go_wp2_with (go_at_call 6; refine (HCODE.out _ ?_ ?_ ?_).mono ?_; exact HBX.out; exact HIX.out; exact hgx; rintro e w3 ⟨rfl, hb3⟩; have HB3 := Hid.mk' (HBX.out.trans (hb3.mono HBX.out.size)); have HI3 := Hid.mk' (HIX.out.belowB hb3 (fun y hy _ => by cases hy; exact hgx)); have hg3 := Nat.lt_of_lt_of_le hgx hb3.size; clear hb3 HCODE)
        go_loopw [14, 15] (fun sv iv wi => ∃ i : Nat, ∃ U : List UInt8, i ≤ behind.size ∧ i ≤ 64 ∧ iv = .int .i64 i ∧ sv = .string (bs U) ∧ Hid (AllB U ∧ U.length = i) ∧ Hid (Below w.heap.size w wi ∧ IntsAt wi (some ⟨g, 0, none⟩) j xs ∧ g < wi.heap.size)) (fun _ iv _ => 64 - (intOf iv).toNat)
        case atStart => exact ⟨0, [], by omega, by omega, rfl, rfl, ⟨(fun c hc => by simp at hc), rfl⟩, HB3.out, HI3.out, hg3⟩
        case round =>
          obtain ⟨i, U, hib, hi64, rfl, rfl, HU, HW⟩ := hrel
          have hUs : (bs U).size = i := by rw [bs_size, HU.out.2]
          clear HB3 HI3 hg3
          by_cases hlt3 : i < behind.size
          · have t3 : decide ((i : Int) < (behind.size : Int)) = true := decide_eq_true (by omega)
            by_cases hlt4 : i < 64
            · have t4 : decide ((i : Int) < 64) = true := decide_eq_true (by omega)
              have hby : behind[i].toNat < 256 := behind[i].toNat_lt
              by_cases hpar : behind[i].toNat % 2 = 0
              · have HS2 : Hid (bs U ++ bs [48] = bs (U ++ [48])) := bs_append _ _
                go_wp2
                go_roundw
                case rel => exact ⟨i + 1, U ++ [48], by omega, by omega, by go_num, congrArg Value.string HS2.out, ⟨AllB_snoc HU.out.1 (.inl rfl), by rw [List.length_append, HU.out.2]; rfl⟩, HW.out⟩
                case measure => simp [intOf]; omega
              · have HS2 : Hid (bs U ++ bs [49] = bs (U ++ [49])) := bs_append _ _
                have hpar2 : behind[i].toNat % 2 = 1 := by omega
                go_wp2
                go_roundw
                case rel => exact ⟨i + 1, U ++ [49], by omega, by omega, by go_num, congrArg Value.string HS2.out, ⟨AllB_snoc HU.out.1 (.inr rfl), by rw [List.length_append, HU.out.2]; rfl⟩, HW.out⟩
                case measure => simp [intOf]; omega
            · have t4 : decide ((i : Int) < 64) = false := decide_eq_false (by omega)
              have HRY2 := Hid.mk' (fun (u : World) (hu : Below w.heap.size w u) => HRY.out u hu U HU.out.1 (by rw [HU.out.2]; omega))
              clear HRY HU
              have HY := HRY2
              clear HRY2
              go_wp2_with (first | (go_at_call 14; refine (HKS.out).mono ?_; rintro e w9 ⟨rfl, mm, hw⟩; subst hw; clear HKS) | (go_at_call 9; go_loud (first | (refine (HY.out _ HW.out.1).mono ?_; rintro e w5 ⟨gy, rfl, hiy, hb5⟩; have HB5 := Hid.mk' (HW.out.1.trans (hb5.mono HW.out.1.size)); have HKS := Hid.mk' (ksame_any _ _ j cap j xs w5 (by omega) (HW.out.2.1.belowB hb5 (fun y hy _ => by cases hy; exact HW.out.2.2)) hiy); clear hb5 hiy HY HW) | (refine (HRN.out _ (below_drewN HB5.out mm)).mono ?_; rintro e w6 ⟨rfl, hb6⟩; have HB6 := Hid.mk' ((below_drewN HB5.out mm).trans (hb6.mono (below_drewN HB5.out mm).size)); clear hb6 HRN))))
              go_ret
              exact ⟨rfl, HB6.out⟩
          · have t3 : decide ((i : Int) < (behind.size : Int)) = false := decide_eq_false (by omega)
            have HRY2 := Hid.mk' (fun (u : World) (hu : Below w.heap.size w u) => HRY.out u hu U HU.out.1 (by rw [HU.out.2]; omega))
            clear HRY HU
            have HY := HRY2
            clear HRY2
            go_wp2_with (first | (go_at_call 14; refine (HKS.out).mono ?_; rintro e w9 ⟨rfl, mm, hw⟩; subst hw; clear HKS) | (go_at_call 9; go_loud (first | (refine (HY.out _ HW.out.1).mono ?_; rintro e w5 ⟨gy, rfl, hiy, hb5⟩; have HB5 := Hid.mk' (HW.out.1.trans (hb5.mono HW.out.1.size)); have HKS := Hid.mk' (ksame_any _ _ j cap j xs w5 (by omega) (HW.out.2.1.belowB hb5 (fun y hy _ => by cases hy; exact HW.out.2.2)) hiy); clear hb5 hiy HY HW) | (refine (HRN.out _ (below_drewN HB5.out mm)).mono ?_; rintro e w6 ⟨rfl, hb6⟩; have HB6 := Hid.mk' ((below_drewN HB5.out mm).trans (hb6.mono (below_drewN HB5.out mm).size)); clear hb6 HRN))))
            go_ret
            exact ⟨rfl, HB6.out⟩
end Go.Proofs.YtlncjgnomhpjnaaDoor
