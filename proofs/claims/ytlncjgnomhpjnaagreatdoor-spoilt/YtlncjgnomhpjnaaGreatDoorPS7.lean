import Derived.Test.YtlncjgnomhpjnaaGreatDoorPS6
/-
  The program's packer: all the same, the lagged sums, the weights.
-/
namespace Go.Proofs.YtlncjgnomhpjnaaGreatDoor
open Go.RowKit Go.Deep
set_option linter.unusedVariables false
set_option maxHeartbeats 1000000 in
theorem allSame_any (a : Option Addr) (n c : Nat) (x : Nat → Int) (w : World) (hn : n ≤ 32) (hI : IntsAt w a n x) :
    Calls Tryz.prog 192 #[.slice a n c] w fun e w' => e = .returned (.bool (allSame x n)) ∧ ∃ m, w' = w.drewN m := by
  have HI := Hid.mk' hI
  clear hI
  go_enter Tryz.func192, Tryz.ntmps192
  go_wp2
  go_loopw [7] (fun i wr => ∃ j : Nat, j ≤ n ∧ i = .int .i64 j ∧ Hid (∀ i, i < j → x i = x 0) ∧ ∃ m, wr = w.drewN m) (fun i _ => n - (intOf i).toNat)
  case atStart => exact ⟨0, by omega, rfl, fun i hi => absurd hi (Nat.not_lt_zero i), 0, rfl⟩
  case round =>
    obtain ⟨j, hj, rfl, HS, m, rfl⟩ := hrel
    by_cases hlt : j < n
    · obtain ⟨bb, off, hx, hc⟩ := HI.out.open (by omega)
      cases hx
      have hcj := hc j hlt
      have hc0 := hc 0 (by omega)
      rw [Nat.add_zero] at hc0
      clear hc
      by_cases hne : x j = x 0
      · have t1 : (x j != x 0) = false := by simp [hne]
        have HE := Hid.mk' hne
        clear hne
        go_wp2
        go_roundw
        case rel => exact ⟨j + 1, by omega, by go_num, fun i hi => by
          by_cases e : i = j
          · subst e; exact HE.out
          · exact HS.out i (by omega), _, rfl⟩
        case measure => simp [intOf]; omega
      · have t1 : (x j != x 0) = true := by simp [hne]
        have HE := Hid.mk' hne
        clear hne
        go_wp2
        go_ret
        refine ⟨ret_bool ?_, _, rfl⟩
        cases e : allSame x n with
        | false => rfl
        | true => exact absurd ((allSame_iff x n).1 e j hlt) HE.out
    · have e : j = n := by omega
      subst e
      go_wp2
      go_ret
      exact ⟨ret_bool ((allSame_iff x j).2 HS.out).symm, _, rfl⟩
theorem lag_zero (x : Nat → Int) (k : Nat) : ∀ m, m ≤ k → lag x k m = 0
  | 0, _ => rfl
  | m + 1, h => by simp only [lag]; rw [lag_zero x k m (by omega), if_neg (by omega)]; rfl
set_option maxHeartbeats 1000000 in
theorem laggedSum_any (a : Option Addr) (n c k : Nat) (x : Nat → Int) (w : World) (hn : n ≤ 32) (hk : k ≤ 2) (hX : ∀ j, j < n → -4096 ≤ x j ∧ x j ≤ 4096) (hI : IntsAt w a n x) :
    Calls Tryz.prog 229 #[.slice a n c, .int .i64 k] w fun e w' => e = .returned (.int .i64 (lag x k n)) ∧ ∃ m, w' = w.drewN m := by
  have HI := Hid.mk' hI
  have HX := Hid.mk' hX
  clear hI hX
  go_enter Tryz.func229, Tryz.ntmps229
  go_wp2
  go_loopw [5, 6] (fun v i wr => ∃ j : Nat, k ≤ j ∧ j ≤ max n k ∧ i = .int .i64 j ∧ v = .int .i64 (lag x k j) ∧ ∃ m, wr = w.drewN m) (fun _ i _ => n - (intOf i).toNat)
  case atStart => exact ⟨k, by omega, by omega, rfl, by rw [lag_zero x k k (Nat.le_refl _)], 0, rfl⟩
  case round =>
    obtain ⟨j, hkj, hj, rfl, rfl, m, rfl⟩ := hrel
    by_cases hlt : j < n
    · obtain ⟨bb, off, hx, hc⟩ := HI.out.open (by omega)
      cases hx
      have hcj := hc j hlt
      have hck := hc (j - k) (by omega)
      clear hc
      have hb := lag_bd x k j (fun i hi => HX.out i (by omega))
      have hm := mulBd (a := 4096) (b := 4096) (HX.out j hlt) (HX.out (j - k) (by omega))
      have e1 : ((4096 * 4096 : Nat) : Int) = 16777216 := rfl
      rw [e1] at hm
      have HE : Hid (lag x k (j + 1) = lag x k j + x j * x (j - k)) := by show _ = _; simp only [lag]; rw [if_pos hkj]
      have v1 : IntKind.i64.wrap ((j : Int) - (k : Int)) = (j : Int) - (k : Int) := by rw [IntKind.wrap_i64]; omega
      have t1 : ((j : Int) - (k : Int)).toNat = j - k := by omega
      have l1 : 0 ≤ (j : Int) - (k : Int) := by omega
      have l2 : (j : Int) - (k : Int) < (n : Int) := by omega
      have v2 : IntKind.i64.wrap (x j * x (j - k)) = x j * x (j - k) := by rw [IntKind.wrap_i64]; omega
      have v3 : IntKind.i64.wrap (lag x k j + x j * x (j - k)) = lag x k j + x j * x (j - k) := by rw [IntKind.wrap_i64]; omega
      go_wp2
      go_quiet ((fail))
      go_wp2
      go_roundw
      case rel => exact ⟨j + 1, by omega, by omega, by go_num, by rw [HE.out], _, rfl⟩
      case measure => simp [intOf]; omega
    · have HE : Hid (lag x k n = lag x k j) := by
        show _ = _
        by_cases e : j = n
        · rw [e]
        · rw [lag_zero x k j (by omega), lag_zero x k n (by omega)]
      go_wp2
      go_ret
      exact ⟨ret_int HE.out.symm, _, rfl⟩
theorem tdivPos (a d : Int) (hd : 0 < d) : (a.tdiv d = a / d ∧ 0 ≤ a.tmod d) ∨ (a.tdiv d = a / d + 1 ∧ a.tmod d < 0) := by
  by_cases h : 0 ≤ a
  · left
    exact ⟨Int.tdiv_eq_ediv_of_nonneg h, Int.tmod_nonneg _ h⟩
  · have e := Int.tmod_add_mul_tdiv a d
    have e2 := Int.emod_add_mul_ediv a d
    have m1 := Int.emod_nonneg a (Int.ne_of_gt hd)
    have m2 := Int.emod_lt_of_pos a hd
    have h1 : a.tdiv d = -((-a) / d) := by
      rw [← Int.tdiv_eq_ediv_of_nonneg (a := -a) (b := d) (by omega), Int.neg_tdiv, Int.neg_neg]
    by_cases hz : a % d = 0
    · left
      have hdv : d ∣ a := Int.dvd_of_emod_eq_zero hz
      have : (-a) / d = -(a / d) := Int.neg_ediv_of_dvd hdv
      have h2 : a.tdiv d = a / d := by rw [h1, this, Int.neg_neg]
      refine ⟨h2, ?_⟩
      rw [h2] at e; omega
    · right
      have h3 : (-a) / d = -(a / d) - 1 := by
        have e3 := Int.emod_add_mul_ediv (-a) d
        have m3 := Int.emod_nonneg (-a) (Int.ne_of_gt hd)
        have m4 := Int.emod_lt_of_pos (-a) hd
        have hx : d * ((-a) / d + a / d) = -((-a) % d) - a % d := by rw [Int.mul_add]; omega
        have h5 : d * ((-a) / d + a / d + 1) = d - ((-a) % d) - a % d := by rw [Int.mul_add, hx]; omega
        have hq : ∀ q : Int, d * q = d - ((-a) % d) - a % d → q = 0 := fun q hq => by
          rcases Int.lt_trichotomy q 0 with h | h | h
          · have := Int.mul_le_mul_of_nonneg_left (show q ≤ -1 by omega) (Int.le_of_lt hd)
            omega
          · exact h
          · have := Int.mul_le_mul_of_nonneg_left (show 1 ≤ q by omega) (Int.le_of_lt hd)
            omega
        have := hq _ h5
        omega
      have h4 : a.tdiv d = a / d + 1 := by rw [h1, h3]; omega
      refine ⟨h4, ?_⟩
      rw [h4, Int.mul_add] at e; omega
set_option maxHeartbeats 400000 in
theorem divideDown_any (v d : Int) (w : World) (hd : 0 < d) (hv : -9000000000000000000 ≤ v ∧ v ≤ 9000000000000000000) :
    Calls Tryz.prog 238 #[.int .i64 v, .int .i64 d] w fun e w' => e = .returned (.int .i64 (v / d)) ∧ w' = w := by
  have hz : (d == 0) = false := by simp; omega
  have hz2 : ¬ d = 0 := by omega
  have hb : -9000000000000000000 ≤ v / d ∧ v / d ≤ 9000000000000000000 := by
    constructor
    · have h1 := Int.ediv_le_ediv hd hv.1
      have h2 : (-9000000000000000000 : Int) ≤ -9000000000000000000 / d := by
        rw [Int.le_ediv_iff_mul_le hd]
        have := Int.mul_le_mul_of_nonneg_left (show 1 ≤ d by omega) (show (0 : Int) ≤ 9000000000000000000 by omega)
        omega
      omega
    · by_cases h : 0 ≤ v
      · have := Int.ediv_le_self d h; omega
      · have := Int.ediv_neg_of_neg_of_pos (show v < 0 by omega) hd; omega
  have hcase := tdivPos v d hd
  have HB := Hid.mk' hb
  by_cases hm : v.tmod d < 0
  · have t1 : decide (v.tmod d < 0) = true := decide_eq_true hm
    have he : v.tdiv d = v / d + 1 := by omega
    have w1 : IntKind.i64.wrap (v / d + 1) = v / d + 1 := by rw [IntKind.wrap_i64]; omega
    have w2 : wrap64 (v / d) = v / d := by unfold wrap64; omega
    clear hcase hb
    generalize v / d = Q at *
    go_enter Tryz.func238, Tryz.ntmps238
    go_wp2
    go_ret
    exact ⟨ret_int (by first | rfl | omega), rfl⟩
  · have t1 : decide (v.tmod d < 0) = false := decide_eq_false hm
    have he : v.tdiv d = v / d := by omega
    have w1 : IntKind.i64.wrap (v / d) = v / d := by rw [IntKind.wrap_i64]; omega
    clear hcase hb
    generalize v / d = Q at *
    go_enter Tryz.func238, Tryz.ntmps238
    go_wp2
    go_ret
    exact ⟨ret_int (by first | rfl | omega), rfl⟩
theorem clamp_min (q : Int) : min (max q (-32)) 31 = clamp q := by
  unfold clamp; split
  · omega
  · split <;> omega
set_option maxHeartbeats 400000 in
theorem weight_any (v d : Int) (w : World) (hd : 0 < d) (hv : -9000000000000000000 ≤ v ∧ v ≤ 9000000000000000000) :
    Calls Tryz.prog 230 #[.int .i64 v, .int .i64 d] w fun e w' => e = .returned (.int .i64 (clamp (v / d))) ∧ ∃ m, w' = w.drewN m := by
  have HD := Hid.mk' (fun u => divideDown_any v d u hd hv)
  have HC := Hid.mk' (clamp_min (v / d))
  clear hv
  generalize v / d = Q at *
  go_enter Tryz.func230, Tryz.ntmps230
  go_wp2_with (go_at_call 238; refine (HD.out _).mono ?_; rintro e w1 ⟨rfl, hw⟩; subst w1; clear HD)
  go_ret
  exact ⟨ret_int HC.out, 0, rfl⟩
end Go.Proofs.YtlncjgnomhpjnaaGreatDoor

/-
  The program's packer: lengths of Rice codes, the best parameter, the weights, the folded rests.
-/
namespace Go.Proofs.YtlncjgnomhpjnaaGreatDoor
open Go.RowKit Go.Deep
set_option linter.unusedVariables false
set_option maxHeartbeats 400000 in
theorem riceLength_any (f k : Nat) (w : World) (hk : k ≤ 14) (hf : f ≤ 2000000) :
    Calls Tryz.prog 241 #[.int .i64 f, .int .i64 k] w fun e w' => e = .returned (.int .i64 (riceL f k)) ∧ w' = w := by
  have hm : min k 64 = k := by omega
  have HR : Hid (riceL f k = f / 2 ^ k + 1 + k) := rfl
  have hq : f / 2 ^ k ≤ f := Nat.div_le_self _ _
  have hqi : (f : Int) / 2 ^ k = ((f / 2 ^ k : Nat) : Int) := by simp
  generalize f / 2 ^ k = q at *
  go_enter Tryz.func241, Tryz.ntmps241
  go_wp2
  go_ret
  exact ⟨ret_int (by rw [HR.out]; go_num), rfl⟩
set_option maxHeartbeats 1000000 in
theorem partLength_any (a : Option Addr) (n c k lo : Nat) (F : Nat → Nat) (w : World) (hn : n ≤ 32) (hk : k ≤ 14) (hF : ∀ i, i < n → F (lo + i) ≤ 2000000) (hI : IntsAt w a n (fun i => (F (lo + i) : Int))) :
    Calls Tryz.prog 239 #[.slice a n c, .int .i64 k] w fun e w' => e = .returned (.int .i64 (plen F k lo n)) ∧ ∃ m, w' = w.drewN m := by
  have HI := Hid.mk' hI
  have HF := Hid.mk' hF
  clear hI hF
  go_enter Tryz.func239, Tryz.ntmps239
  go_wp2
  go_loopw [5, 10] (fun v i wr => ∃ j : Nat, j ≤ n ∧ i = .int .i64 j ∧ v = .int .i64 (plen F k lo j) ∧ ∃ m, wr = w.drewN m) (fun _ i _ => n - (intOf i).toNat)
  case atStart => exact ⟨0, by omega, rfl, rfl, 0, rfl⟩
  case round =>
    obtain ⟨j, hj, rfl, rfl, m, rfl⟩ := hrel
    by_cases hlt : j < n
    · obtain ⟨bb, off, hx, hc⟩ := HI.out.open (by omega)
      cases hx
      have hcj := hc j hlt
      clear hc
      have hfj := HF.out j hlt
      have HL := Hid.mk' (fun u => riceLength_any (F (lo + j)) k u hk hfj)
      have hr := riceL_le (F (lo + j)) k 2000000 hfj hk
      have hp := plen_le F k lo 2000000 hk j (fun i hi => HF.out i (by omega))
      have hp2 : j * (2000000 + 15) ≤ 32 * (2000000 + 15) := Nat.mul_le_mul_right _ (by omega)
      have hp3 : plen F k lo j ≤ 64000480 := by omega
      have HE : Hid (plen F k lo (j + 1) = plen F k lo j + riceL (F (lo + j)) k) := rfl
      clear hp hp2
      generalize riceL (F (lo + j)) k = R at *
      go_wp2_with (go_at_call 241; refine (HL.out _).mono ?_; rintro e w1 ⟨rfl, hw⟩; subst w1; clear HL)
      go_roundw
      case rel => exact ⟨j + 1, by omega, by go_num, by rw [HE.out]; go_num, _, rfl⟩
      case measure => simp [intOf]; omega
    · have e : j = n := by omega
      subst e
      go_wp2
      go_ret
      exact ⟨rfl, _, rfl⟩
set_option maxHeartbeats 1000000 in
theorem shortestParameter_any (a : Option Addr) (n c lo : Nat) (F : Nat → Nat) (w : World) (hn : n ≤ 32) (hF : ∀ i, i < n → F (lo + i) ≤ 2000000) (hI : IntsAt w a n (fun i => (F (lo + i) : Int))) :
    Calls Tryz.prog 231 #[.slice a n c] w fun e w' => e = .returned (.tuple #[.int .i64 (parK F lo n), .int .i64 (plen F (parK F lo n) lo n)]) ∧ ∃ m, w' = w.drewN m := by
  have HI := Hid.mk' hI
  have HF := Hid.mk' hF
  clear hI hF
  have HP := Hid.mk' (fun (k : Nat) (hk : k ≤ 14) (u : World) (hu : IntsAt u a n (fun i => (F (lo + i) : Int))) => partLength_any a n c k lo F u hn hk HF.out hu)
  have HP0 := Hid.mk' (fun (u : World) (hu : IntsAt u a n (fun i => (F (lo + i) : Int))) => HP.out 0 (by omega) u hu)
  have HPK : Hid (parK F lo n = argmin (fun k => plen F k lo n) 14) := rfl
  have HB := Hid.mk' (fun (k : Nat) (hk : k ≤ 14) => Nat.le_trans (plen_le F k lo 2000000 hk n HF.out) (Nat.mul_le_mul_right _ hn))
  go_enter Tryz.func231, Tryz.ntmps231
  go_wp2_with (go_at_call 239; refine (HP0.out _ ?_).mono ?_; exact HI.out; rintro e w1 ⟨rfl, q, hw⟩; subst w1; clear HP0)
  go_loopw [4, 5, 6] (fun b l i wr => ∃ k : Nat, k ≤ 14 ∧ i = .int .i64 ((k : Int) + 1) ∧ b = .int .i64 (argmin (fun k => plen F k lo n) k) ∧ l = .int .i64 (plen F (argmin (fun k => plen F k lo n) k) lo n) ∧ ∃ m, wr = w.drewN m) (fun _ _ i _ => 15 - (intOf i).toNat)
  case atStart => exact ⟨0, by omega, rfl, rfl, rfl, _, rfl⟩
  case round =>
    obtain ⟨k, hk, rfl, rfl, rfl, m, rfl⟩ := hrel
    by_cases hlt : k < 14
    · have HC : Hid (∀ u : World, IntsAt u a n (fun i => (F (lo + i) : Int)) → Calls Tryz.prog 239 #[.slice a n c, .int .i64 ((k : Int) + 1)] u fun e w' => e = .returned (.int .i64 (plen F (k + 1) lo n)) ∧ ∃ m, w' = u.drewN m) := HP.out (k + 1) (by omega)
      have ha := argmin_le (fun k => plen F k lo n) k
      have hb1 := HB.out (argmin (fun k => plen F k lo n) k) (by omega)
      have hb2 := HB.out (k + 1) (by omega)
      have HE : Hid (argmin (fun k => plen F k lo n) (k + 1) = if plen F (k + 1) lo n < plen F (argmin (fun k => plen F k lo n) k) lo n then k + 1 else argmin (fun k => plen F k lo n) k) := rfl
      generalize argmin (fun k => plen F k lo n) k = A at *
      obtain ⟨L1, hL1⟩ : ∃ L, L = plen F (k + 1) lo n := ⟨_, rfl⟩
      obtain ⟨L2, hL2⟩ : ∃ L, L = plen F A lo n := ⟨_, rfl⟩
      rw [← hL1] at hb2 HE HC
      rw [← hL2] at hb1 HE
      have HL1 := Hid.mk' hL1
      rw [← hL2]
      have HL2 := Hid.mk' hL2
      clear hL1 hL2
      by_cases hd : L1 < L2
      · have t1 : decide ((L1 : Int) < (L2 : Int)) = true := decide_eq_true (by omega)
        have t2 : decide (L1 < L2) = true := decide_eq_true hd
        rw [if_pos hd] at HE
        clear hd
        go_wp2_with (go_at_call 239; refine (HC.out _ ?_).mono ?_; exact HI.out; rintro e w1 ⟨rfl, q, hw⟩; subst w1; clear HC)
        go_roundw
        case rel => exact ⟨k + 1, by omega, by go_num, by rw [HE.out]; rfl, by rw [HE.out, HL1.out], _, rfl⟩
        case measure => simp [intOf]; omega
      · have t1 : decide ((L1 : Int) < (L2 : Int)) = false := decide_eq_false (by omega)
        have t2 : decide (L1 < L2) = false := decide_eq_false hd
        rw [if_neg hd] at HE
        clear hd
        go_wp2_with (go_at_call 239; refine (HC.out _ ?_).mono ?_; exact HI.out; rintro e w1 ⟨rfl, q, hw⟩; subst w1; clear HC)
        go_roundw
        case rel => exact ⟨k + 1, by omega, by go_num, by rw [HE.out], by rw [HE.out, HL2.out], _, rfl⟩
        case measure => simp [intOf]; omega
    · have e : k = 14 := by omega
      subst e
      rw [← HPK.out]
      go_wp2
      go_ret2
      exact ⟨rfl, _, rfl⟩
end Go.Proofs.YtlncjgnomhpjnaaGreatDoor

/-
  The program's packer: the weights of the kind Leaning, the folded rests.
-/
namespace Go.Proofs.YtlncjgnomhpjnaaGreatDoor
open Go.RowKit Go.Deep
set_option linter.unusedVariables false
/-- the bounds of all that the weights are made of -/
theorem lean_bds (x : Nat → Int) (n : Nat) (hn : n ≤ 32) (hX : ∀ j, j < n → -4096 ≤ x j ∧ x j ≤ 4096) (r0 r1 r2 : Int) (h0 : r0 = lag x 0 n) (h1 : r1 = lag x 1 n) (h2 : r2 = lag x 2 n) :
    IntKind.i64.wrap (r0 * r0) = r0 * r0 ∧ IntKind.i64.wrap (r1 * r1) = r1 * r1 ∧ IntKind.i64.wrap (r0 * r0 - r1 * r1) = r0 * r0 - r1 * r1 ∧ IntKind.i64.wrap (8 * r1) = 8 * r1 ∧ IntKind.i64.wrap (r0 - r2) = r0 - r2 ∧
    IntKind.i64.wrap (8 * r1 * (r0 - r2)) = 8 * r1 * (r0 - r2) ∧ IntKind.i64.wrap (r0 * r2) = r0 * r2 ∧ IntKind.i64.wrap (r0 * r2 - r1 * r1) = r0 * r2 - r1 * r1 ∧ IntKind.i64.wrap (8 * (r0 * r2 - r1 * r1)) = 8 * (r0 * r2 - r1 * r1) ∧
    (-9000000000000000000 ≤ 8 * r1 * (r0 - r2) ∧ 8 * r1 * (r0 - r2) ≤ 9000000000000000000) ∧ (-9000000000000000000 ≤ 8 * (r0 * r2 - r1 * r1) ∧ 8 * (r0 * r2 - r1 * r1) ≤ 9000000000000000000) := by
  have b0 := lag_bd x 0 n hX
  have b1 := lag_bd x 1 n hX
  have b2 := lag_bd x 2 n hX
  rw [← h0] at b0
  rw [← h1] at b1
  rw [← h2] at b2
  have c0 : -((536870912 : Nat) : Int) ≤ r0 ∧ r0 ≤ ((536870912 : Nat) : Int) := by omega
  have c1 : -((536870912 : Nat) : Int) ≤ r1 ∧ r1 ≤ ((536870912 : Nat) : Int) := by omega
  have c2 : -((536870912 : Nat) : Int) ≤ r2 ∧ r2 ≤ ((536870912 : Nat) : Int) := by omega
  have c3 : -((4294967296 : Nat) : Int) ≤ 8 * r1 ∧ 8 * r1 ≤ ((4294967296 : Nat) : Int) := by omega
  have c4 : -((1073741824 : Nat) : Int) ≤ r0 - r2 ∧ r0 - r2 ≤ ((1073741824 : Nat) : Int) := by omega
  have m0 := mulBd c0 c0
  have m1 := mulBd c1 c1
  have m2 := mulBd c0 c2
  have m3 := mulBd c3 c4
  have e1 : ((536870912 * 536870912 : Nat) : Int) = 288230376151711744 := rfl
  have e2 : ((4294967296 * 1073741824 : Nat) : Int) = 4611686018427387904 := rfl
  rw [e1] at m0 m1 m2
  rw [e2] at m3
  clear b0 b1 b2 h0 h1 h2 hX e1 e2 c3
  generalize r0 * r0 = A at *
  generalize r1 * r1 = B at *
  generalize r0 * r2 = C at *
  generalize 8 * r1 * (r0 - r2) = D at *
  refine ⟨?_, ?_, ?_, ?_, ?_, ?_, ?_, ?_, ?_, by omega, by omega⟩ <;> (rw [IntKind.wrap_i64]; omega)
set_option maxHeartbeats 1000000 in
theorem weightsFor_any (a : Option Addr) (n c : Nat) (x : Nat → Int) (w : World) (hn : n ≤ 32) (hX : ∀ j, j < n → -4096 ≤ x j ∧ x j ≤ 4096) (hI : IntsAt w a n x) :
    Calls Tryz.prog 214 #[.slice a n c] w fun e w' => (∃ A B : Int, e = .returned (.tuple #[.int .i64 A, .int .i64 B, .bool (decide (0 < leanD x n))]) ∧ (0 < leanD x n → A = leanA x n ∧ B = leanB x n)) ∧ ∃ m, w' = w.drewN m := by
  have HI := Hid.mk' hI
  have H0 := Hid.mk' (fun (u : World) (hu : IntsAt u a n x) => laggedSum_any a n c 0 x u hn (by omega) hX hu)
  have H1 := Hid.mk' (fun (u : World) (hu : IntsAt u a n x) => laggedSum_any a n c 1 x u hn (by omega) hX hu)
  have H2 := Hid.mk' (fun (u : World) (hu : IntsAt u a n x) => laggedSum_any a n c 2 x u hn (by omega) hX hu)
  obtain ⟨r0, h0⟩ : ∃ r, r = lag x 0 n := ⟨_, rfl⟩
  obtain ⟨r1, h1⟩ : ∃ r, r = lag x 1 n := ⟨_, rfl⟩
  obtain ⟨r2, h2⟩ : ∃ r, r = lag x 2 n := ⟨_, rfl⟩
  obtain ⟨v1, v2, v3, v4, v5, v6, v7, v8, v9, b1, b2⟩ := lean_bds x n hn hX r0 r1 r2 h0 h1 h2
  have hD : leanD x n = r0 * r0 - r1 * r1 := by rw [h0, h1]; rfl
  have HA : Hid (leanA x n = clamp (8 * r1 * (r0 - r2) / (r0 * r0 - r1 * r1))) := by show _ = _; rw [h0, h1, h2]; rfl
  have HB : Hid (leanB x n = clamp (8 * (r0 * r2 - r1 * r1) / (r0 * r0 - r1 * r1))) := by show _ = _; rw [h0, h1, h2]; rfl
  rw [← h0] at H0
  rw [← h1] at H1
  rw [← h2] at H2
  rw [hD]
  clear h0 h1 h2 hI hX hD
  by_cases hd : 0 < r0 * r0 - r1 * r1
  · have t1 : decide (r0 * r0 - r1 * r1 ≤ 0) = false := decide_eq_false (by omega)
    have t2 : decide (0 < r0 * r0 - r1 * r1) = true := decide_eq_true hd
    rw [t2]
    have HWA := Hid.mk' (fun u => weight_any (8 * r1 * (r0 - r2)) (r0 * r0 - r1 * r1) u hd b1)
    have HWB := Hid.mk' (fun u => weight_any (8 * (r0 * r2 - r1 * r1)) (r0 * r0 - r1 * r1) u hd b2)
    rw [← HA.out] at HWA
    rw [← HB.out] at HWB
    clear b1 b2 hd t2 HA HB
    go_enter Tryz.func214, Tryz.ntmps214
    go_wp2_with (first
      | (go_at_call 229; refine (H0.out _ ?_).mono ?_; exact HI.out; rintro e w1 ⟨rfl, q1, hw⟩; subst w1; clear H0)
      | (go_at_call 229; refine (H1.out _ ?_).mono ?_; exact HI.out; rintro e w1 ⟨rfl, q2, hw⟩; subst w1; clear H1)
      | (go_at_call 229; refine (H2.out _ ?_).mono ?_; exact HI.out; rintro e w1 ⟨rfl, q3, hw⟩; subst w1; clear H2)
      | (go_at_call 230; refine (HWA.out _).mono ?_; rintro e w1 ⟨rfl, q4, hw⟩; subst w1; clear HWA)
      | (go_at_call 230; refine (HWB.out _).mono ?_; rintro e w1 ⟨rfl, q5, hw⟩; subst w1; clear HWB))
    go_ret3
    exact ⟨⟨_, _, rfl, fun _ => ⟨rfl, rfl⟩⟩, _, rfl⟩
  · have t1 : decide (r0 * r0 - r1 * r1 ≤ 0) = true := decide_eq_true (by omega)
    have t2 : decide (0 < r0 * r0 - r1 * r1) = false := decide_eq_false hd
    have HND := Hid.mk' hd
    rw [t2]
    clear b1 b2 hd t2 HA HB
    go_enter Tryz.func214, Tryz.ntmps214
    go_wp2_with (first
      | (go_at_call 229; refine (H0.out _ ?_).mono ?_; exact HI.out; rintro e w1 ⟨rfl, q1, hw⟩; subst w1; clear H0)
      | (go_at_call 229; refine (H1.out _ ?_).mono ?_; exact HI.out; rintro e w1 ⟨rfl, q2, hw⟩; subst w1; clear H1)
      | (go_at_call 229; refine (H2.out _ ?_).mono ?_; exact HI.out; rintro e w1 ⟨rfl, q3, hw⟩; subst w1; clear H2))
    go_ret3
    exact ⟨⟨_, _, rfl, fun h => absurd h (Int.not_lt.2 HND.out)⟩, _, rfl⟩
/-- the guess of a list -/
theorem guessI_any (kind : Nat) (a c : Int) (A : Option Addr) (n cap : Nat) (x : Nat → Int) (w : World) (h2 : 2 ≤ kind) (h7 : kind ≤ 7) (ha : -32 ≤ a ∧ a ≤ 32) (hc : -32 ≤ c ∧ c ≤ 32) (hn : n ≤ 32) (hon : ord kind ≤ n) (hX : ∀ j, j < n → -4096 ≤ x j ∧ x j ≤ 4096)
    (hI : IntsAt w A n x) (hlow : ∀ y, A = some y → 0 < n → y.block < w.heap.size) :
    Calls Tryz.prog 213 #[gV kind a c, .slice A n cap] w fun e w' => e = .returned (.int .i64 (guessG kind a c x n)) ∧ Below w.heap.size w w' := by
  have hb := wt_bd kind a c ha hc
  refine (guess_any (ord kind) (scl kind) _ _ _ _ A n cap x w (ord_le kind h2 h7) hon (by unfold scl; split <;> omega) hn (hb 0) (hb 1) (hb 2) (hb 3) hX hI hlow).mono fun e w' h => ⟨?_, h.2⟩
  rw [h.1, guess_of kind a c x n h2 h7]
theorem fR_bd (kind : Nat) (x : Nat → Int) (n i : Nat) (h2 : 2 ≤ kind) (h7 : kind ≤ 7) (hX : ∀ j, j ≤ i → -4096 ≤ x j ∧ x j ≤ 4096) (hi : ord kind ≤ i) :
    (-1000000 ≤ x i - guessG kind (wA kind x n) (wB kind x n) x i ∧ x i - guessG kind (wA kind x n) (wB kind x n) x i ≤ 1000000) ∧ fR kind x n i ≤ 2000000 := by
  have hA := wA_bd kind x n
  have hB := wB_bd kind x n
  have hg := guessG_bd (kind := kind) (a := wA kind x n) (c := wB kind x n) (x := x) (n := i) h2 h7 (by omega) (by omega) (fun j hj => hX j (by omega)) (by omega)
  have hxi := hX i (by omega)
  refine ⟨by omega, ?_⟩
  exact foldN_le _ 1000000 (by omega)
def foldV (o : Nat) (F : Nat → Nat) (j i : Nat) : Value := .int .i64 (if o ≤ i ∧ i < j then (F i : Int) else 0)
theorem foldV_step {w : World} {g : Nat} {t : TypeId} {cap k o : Nat} {F : Nat → Nat} {z : Int} (ho : o ≤ k) (hz : z = F k) (h : w.rowIs g t cap (fun i => if i = k then .int .i64 z else foldV o F k i)) : w.rowIs g t cap (foldV o F (k + 1)) := by
  refine h.congr fun i _ => ?_
  unfold foldV
  by_cases e : i = k
  · subst e; simp [hz, ho]
  · by_cases e2 : i < k
    · simp [e, e2, Nat.lt_succ_of_lt e2]
    · have : ¬ i < k + 1 := by omega
      simp [e, e2, this]
set_option maxHeartbeats 2000000 in
theorem foldedRests_any (kind : Nat) (A : Option Addr) (n c : Nat) (x : Nat → Int) (w : World) (h2 : 2 ≤ kind) (h7 : kind ≤ 7) (hn : n ≤ 32) (hon : ord kind < n) (hX : ∀ j, j < n → -4096 ≤ x j ∧ x j ≤ 4096)
    (hI : IntsAt w A n x) (hlow : ∀ y, A = some y → 0 < n → y.block < w.heap.size) (hnc : n ≤ c) :
    Calls Tryz.prog 218 #[gV kind (wA kind x n) (wB kind x n), .slice A n c] w fun e w' => ∃ G, w.heap.size ≤ G ∧ e = .returned (.slice (some ⟨G, 0, none⟩) n n) ∧ w'.rowIs G 3 n (foldV (ord kind) (fR kind x n) n) ∧ Below w.heap.size w w' := by
  have hmk := run_make_row' (P := Tryz.prog) 29 3 (.int .i64 0) 8 Tryz.underlying29 infoInt rfl .i64 .i64 n (by omega) (by omega)
  have hA := wA_bd kind x n
  have hB := wB_bd kind x n
  have HX := Hid.mk' hX
  have HFR : Hid (∀ i, fR kind x n i = foldN (x i - guessG kind (wA kind x n) (wB kind x n) x i)) := fun i => rfl
  have HBD := Hid.mk' (fun i (hi : ord kind ≤ i) (hin : i < n) => fR_bd kind x n i h2 h7 (fun j hj => hX j (by omega)) hi)
  have HG := Hid.mk' (fun (i : Nat) (hi : ord kind ≤ i) (hin : i < n) (u : World) (hu : IntsAt u A n x) (hs : ∀ y, A = some y → 0 < n → y.block < u.heap.size) => guessI_any kind (wA kind x n) (wB kind x n) A i c x u h2 h7 (by omega) (by omega) (by omega) hi (fun j hj => hX j (by omega)) (fun j hj => hu j (by omega)) (fun y hy _ => hs y hy (by omega)))
  have HI := Hid.mk' (fun u (h : Below w.heap.size w u) => hI.belowB h hlow)
  have HLOW := Hid.mk' hlow
  generalize wA kind x n = wa at *
  generalize wB kind x n = wb at *
  generalize fR kind x n = F at *
  clear hI hlow hX hA hB
  unfold gV at HG ⊢
  have ho := ord_le kind h2 h7
  go_enter Tryz.func218, Tryz.ntmps218
  go_wp2
  clear hmk
  go_loopw [6] (fun iv wr => ∃ j : Nat, ord kind ≤ j ∧ j ≤ n ∧ iv = .int .i64 j ∧ Hid (Gd wr w.heap.size kind wa wb ∧ wr.rowIs (w.heap.size + 1) 3 n (foldV (ord kind) F j) ∧ Below w.heap.size w wr)) (fun iv _ => n - (intOf iv).toNat)
  case atStart =>
    refine ⟨ord kind, by omega, by omega, rfl, ?_, ?_, ?_⟩
    · unfold Gd
      rw [blk_alloc_lt _ _ _ (by simp)]
      exact blk_alloc_new _ _
    · have := World.rowIs_made (w.alloc (.cells #[.int .i64 (ord kind), .int .i64 (wt kind wa wb 0), .int .i64 (wt kind wa wb 1), .int .i64 (wt kind wa wb 2), .int .i64 (wt kind wa wb 3), .int .i64 (scl kind : Int)] 201)) (.int .i64 0) n 3
      rw [World.size_alloc] at this
      exact this.congr fun i _ => by unfold foldV; rw [if_neg (by omega)]
    · exact ((Below.refl _ _).alloc (Nat.le_refl _) _).alloc (by simp) _
  case round =>
    obtain ⟨j, hoj, hj, rfl, HR⟩ := hrel
    by_cases hlt : j < n
    · obtain ⟨bb, off, hx, hc⟩ := (HI.out wr HR.out.2.2).open (by omega)
      subst hx
      have hcj := hc j hlt
      clear hc
      obtain ⟨g0, g1, g2, g3, g4, g5⟩ := HR.out.1.cells
      have hlw := HLOW.out _ rfl (by omega)
      have hs := HR.out.2.2.size
      have hr1 := HR.out.2.1.lt
      have HGJ := Hid.mk' (HG.out j hoj hlt wr.drew (HI.out wr.drew HR.out.2.2.drew) (fun y hy h0 => Nat.lt_of_lt_of_le (HLOW.out y hy h0) hs))
      have hbd := (HBD.out j hoj hlt).1
      have HFJ := Hid.mk' (HFR.out j)
      have hgb : -2000000 ≤ guessG kind wa wb x j ∧ guessG kind wa wb x j ≤ 2000000 := by have := HX.out j hlt; omega
      obtain ⟨gv, hgv⟩ : ∃ v, v = guessG kind wa wb x j := ⟨_, rfl⟩
      rw [← hgv] at HGJ hbd HFJ hgb
      have HFO := Hid.mk' (fun u => fold_any (x j - gv) u hbd)
      rw [← HFJ.out] at HFO
      have v1 : IntKind.i64.wrap (x j - gv) = x j - gv := by rw [IntKind.wrap_i64]; omega
      have hcj1 := Hid.mk' (fun (u : World) (h : Below wr.drew.heap.size wr.drew u) => (h.cell (p := ⟨bb, off + j, none⟩) (show bb < wr.drew.heap.size from Nat.lt_of_lt_of_le hlw hs)).trans hcj)
      have hrw1 := Hid.mk' (fun (u : World) (h : Below wr.drew.heap.size wr.drew u) => (HR.out.2.1.of_block (h.block _ hr1) : u.rowIs (w.heap.size + 1) 3 n (foldV (ord kind) F j)))
      clear hgv hbd hgb
      go_wp2
      go_region_with (first
        | (go_at_call 213; refine HGJ.out.mono ?_; rintro e w1 ⟨rfl, hb1⟩; have hcj2 := hcj1.out w1 hb1; have HR1 := Hid.mk' (hrw1.out w1 hb1); have hcw := HR1.out.cell hlt; have hfw := HR1.out.frozen j; unfold foldV at hcw; have HB1 := Hid.mk' hb1; clear hb1 HGJ)
        | (go_at_call 228; refine (HFO.out _).mono ?_; rintro e w2 ⟨rfl, hw⟩; subst w2; clear HFO))
      all_goals go_wp2
      all_goals go_roundw
      all_goals first
        | exact ⟨j + 1, by omega, by omega, by go_num, HR.out.1.of (by rw [blk_setCell_other _ _ _ _ (by simp)]; exact HB1.out.block _ (by show w.heap.size < wr.heap.size; omega)), foldV_step hoj rfl (HR1.out.set j _), (HR.out.2.2.drew.trans (HB1.out.mono hs)).setCell (by simp) _⟩
        | (simp [intOf]; omega)
    · have e : j = n := by omega
      subst e
      go_wp2
      go_ret
      exact ⟨_, by omega, rfl, HR.out.2.1, HR.out.2.2⟩
end Go.Proofs.YtlncjgnomhpjnaaGreatDoor

