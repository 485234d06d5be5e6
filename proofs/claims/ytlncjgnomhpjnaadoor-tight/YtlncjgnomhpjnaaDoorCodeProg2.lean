/-
  The program's packer: all the same, the lagged sums, the weights.
-/
import Derived.Test.YtlncjgnomhpjnaaDoorCodeProg
namespace Go.Proofs.YtlncjgnomhpjnaaDoor
open Go.RowKit Go.Deep
set_option linter.unusedVariables false

set_option maxHeartbeats 1000000 in
theorem allSame_any (a : Option Addr) (n c : Nat) (x : Nat → Int) (w : World) (hn : n ≤ 32) (hI : IntsAt w a n x) :
    Calls Tryd.prog 45 #[.slice a n c] w fun e w' => e = .returned (.bool (allSame x n)) ∧ ∃ m, w' = w.drewN m := by
  have HI := Hid.mk' hI
  clear hI
  go_enter Tryd.func45, Tryd.ntmps45
  go_wp2
  go_loopw [7] (fun i wr => ∃ j : Nat, j ≤ n ∧ i = .int .i64 j ∧ Hid (∀ i, i < j → x i = x 0) ∧ ∃ m, wr = w.drewN m) (fun i _ => n - (intOf i).toNat)
  case atStart => exact ⟨0, by omega, rfl, fun i hi => absurd hi (Nat.not_lt_zero i), 0, rfl⟩
  case round =>
    obtain ⟨j, hj, rfl, HS, m, rfl⟩ := hrel
    by_cases hlt : j < n
    · obtain ⟨bb, off, hx, hc⟩ := HI.out.open (by omega)
      cases hx
      have hcj := hc j hlt
      have hc0 := hc 0 (by omega)
      rw [Nat.add_zero] at hc0
      clear hc
      by_cases hne : x j = x 0
      · have t1 : (x j != x 0) = false := by simp [hne]
        have HE := Hid.mk' hne
        clear hne
        go_wp2
        go_roundw
        case rel => exact ⟨j + 1, by omega, by go_num, fun i hi => by
          by_cases e : i = j
          · subst e; exact HE.out
          · exact HS.out i (by omega), _, rfl⟩
        case measure => simp [intOf]; omega
      · have t1 : (x j != x 0) = true := by simp [hne]
        have HE := Hid.mk' hne
        clear hne
        go_wp2
        go_ret
        refine ⟨ret_bool ?_, _, rfl⟩
        cases e : allSame x n with
        | false => rfl
        | true => exact absurd ((allSame_iff x n).1 e j hlt) HE.out
    · have e : j = n := by omega
      subst e
      go_wp2
      go_ret
      exact ⟨ret_bool ((allSame_iff x j).2 HS.out).symm, _, rfl⟩

theorem lag_zero (x : Nat → Int) (k : Nat) : ∀ m, m ≤ k → lag x k m = 0
  | 0, _ => rfl
  | m + 1, h => by simp only [lag]; rw [lag_zero x k m (by omega), if_neg (by omega)]; rfl
set_option maxHeartbeats 1000000 in
theorem laggedSum_any (a : Option Addr) (n c k : Nat) (x : Nat → Int) (w : World) (hn : n ≤ 32) (hk : k ≤ 2) (hX : ∀ j, j < n → -4096 ≤ x j ∧ x j ≤ 4096) (hI : IntsAt w a n x) :
    Calls Tryd.prog 81 #[.slice a n c, .int .i64 k] w fun e w' => e = .returned (.int .i64 (lag x k n)) ∧ ∃ m, w' = w.drewN m := by
  have HI := Hid.mk' hI
  have HX := Hid.mk' hX
  clear hI hX
  go_enter Tryd.func81, Tryd.ntmps81
  go_wp2
  go_loopw [5, 6] (fun v i wr => ∃ j : Nat, k ≤ j ∧ j ≤ max n k ∧ i = .int .i64 j ∧ v = .int .i64 (lag x k j) ∧ ∃ m, wr = w.drewN m) (fun _ i _ => n - (intOf i).toNat)
  case atStart => exact ⟨k, by omega, by omega, rfl, by rw [lag_zero x k k (Nat.le_refl _)], 0, rfl⟩
  case round =>
    obtain ⟨j, hkj, hj, rfl, rfl, m, rfl⟩ := hrel
    by_cases hlt : j < n
    · obtain ⟨bb, off, hx, hc⟩ := HI.out.open (by omega)
      cases hx
      have hcj := hc j hlt
      have hck := hc (j - k) (by omega)
      clear hc
      have hb := lag_bd x k j (fun i hi => HX.out i (by omega))
      have hm := mulBd (a := 4096) (b := 4096) (HX.out j hlt) (HX.out (j - k) (by omega))
      have e1 : ((4096 * 4096 : Nat) : Int) = 16777216 := rfl
      rw [e1] at hm
      have HE : Hid (lag x k (j + 1) = lag x k j + x j * x (j - k)) := by show _ = _; simp only [lag]; rw [if_pos hkj]
      have v1 : IntKind.i64.wrap ((j : Int) - (k : Int)) = (j : Int) - (k : Int) := by rw [IntKind.wrap_i64]; omega
      have t1 : ((j : Int) - (k : Int)).toNat = j - k := by omega
      have l1 : 0 ≤ (j : Int) - (k : Int) := by omega
      have l2 : (j : Int) - (k : Int) < (n : Int) := by omega
      have v2 : IntKind.i64.wrap (x j * x (j - k)) = x j * x (j - k) := by rw [IntKind.wrap_i64]; omega
      have v3 : IntKind.i64.wrap (lag x k j + x j * x (j - k)) = lag x k j + x j * x (j - k) := by rw [IntKind.wrap_i64]; omega
      go_wp2
      go_quiet ((fail))
      go_wp2
      go_roundw
      case rel => exact ⟨j + 1, by omega, by omega, by go_num, by rw [HE.out], _, rfl⟩
      case measure => simp [intOf]; omega
    · have HE : Hid (lag x k n = lag x k j) := by
        show _ = _
        by_cases e : j = n
        · rw [e]
        · rw [lag_zero x k j (by omega), lag_zero x k n (by omega)]
      go_wp2
      go_ret
      exact ⟨ret_int HE.out.symm, _, rfl⟩

theorem tdivPos (a d : Int) (hd : 0 < d) : (a.tdiv d = a / d ∧ 0 ≤ a.tmod d) ∨ (a.tdiv d = a / d + 1 ∧ a.tmod d < 0) := by
  by_cases h : 0 ≤ a
  · left
    exact ⟨Int.tdiv_eq_ediv_of_nonneg h, Int.tmod_nonneg _ h⟩
  · have e := Int.tmod_add_mul_tdiv a d
    have e2 := Int.emod_add_mul_ediv a d
    have m1 := Int.emod_nonneg a (Int.ne_of_gt hd)
    have m2 := Int.emod_lt_of_pos a hd
    have h1 : a.tdiv d = -((-a) / d) := by
      rw [← Int.tdiv_eq_ediv_of_nonneg (a := -a) (b := d) (by omega), Int.neg_tdiv, Int.neg_neg]
    by_cases hz : a % d = 0
    · left
      have hdv : d ∣ a := Int.dvd_of_emod_eq_zero hz
      have : (-a) / d = -(a / d) := Int.neg_ediv_of_dvd hdv
      have h2 : a.tdiv d = a / d := by rw [h1, this, Int.neg_neg]
      refine ⟨h2, ?_⟩
      rw [h2] at e; omega
    · right
      have h3 : (-a) / d = -(a / d) - 1 := by
        have e3 := Int.emod_add_mul_ediv (-a) d
        have m3 := Int.emod_nonneg (-a) (Int.ne_of_gt hd)
        have m4 := Int.emod_lt_of_pos (-a) hd
        have hx : d * ((-a) / d + a / d) = -((-a) % d) - a % d := by rw [Int.mul_add]; omega
        have h5 : d * ((-a) / d + a / d + 1) = d - ((-a) % d) - a % d := by rw [Int.mul_add, hx]; omega
        have hq : ∀ q : Int, d * q = d - ((-a) % d) - a % d → q = 0 := fun q hq => by
          rcases Int.lt_trichotomy q 0 with h | h | h
          · have := Int.mul_le_mul_of_nonneg_left (show q ≤ -1 by omega) (Int.le_of_lt hd)
            omega
          · exact h
          · have := Int.mul_le_mul_of_nonneg_left (show 1 ≤ q by omega) (Int.le_of_lt hd)
            omega
        have := hq _ h5
        omega
      have h4 : a.tdiv d = a / d + 1 := by rw [h1, h3]; omega
      refine ⟨h4, ?_⟩
      rw [h4, Int.mul_add] at e; omega

set_option maxHeartbeats 400000 in
theorem divideDown_any (v d : Int) (w : World) (hd : 0 < d) (hv : -9000000000000000000 ≤ v ∧ v ≤ 9000000000000000000) :
    Calls Tryd.prog 92 #[.int .i64 v, .int .i64 d] w fun e w' => e = .returned (.int .i64 (v / d)) ∧ w' = w := by
  have hz : (d == 0) = false := by simp; omega
  have hz2 : ¬ d = 0 := by omega
  have hb : -9000000000000000000 ≤ v / d ∧ v / d ≤ 9000000000000000000 := by
    constructor
    · have h1 := Int.ediv_le_ediv hd hv.1
      have h2 : (-9000000000000000000 : Int) ≤ -9000000000000000000 / d := by
        rw [Int.le_ediv_iff_mul_le hd]
        have := Int.mul_le_mul_of_nonneg_left (show 1 ≤ d by omega) (show (0 : Int) ≤ 9000000000000000000 by omega)
        omega
      omega
    · by_cases h : 0 ≤ v
      · have := Int.ediv_le_self d h; omega
      · have := Int.ediv_neg_of_neg_of_pos (show v < 0 by omega) hd; omega
  have hcase := tdivPos v d hd
  have HB := Hid.mk' hb
  by_cases hm : v.tmod d < 0
  · have t1 : decide (v.tmod d < 0) = true := decide_eq_true hm
    have he : v.tdiv d = v / d + 1 := by omega
    have w1 : IntKind.i64.wrap (v / d + 1) = v / d + 1 := by rw [IntKind.wrap_i64]; omega
    have w2 : wrap64 (v / d) = v / d := by unfold wrap64; omega
    clear hcase hb
    generalize v / d = Q at *
    go_enter Tryd.func92, Tryd.ntmps92
    go_wp2
    go_ret
    exact ⟨ret_int (by first | rfl | omega), rfl⟩
  · have t1 : decide (v.tmod d < 0) = false := decide_eq_false hm
    have he : v.tdiv d = v / d := by omega
    have w1 : IntKind.i64.wrap (v / d) = v / d := by rw [IntKind.wrap_i64]; omega
    clear hcase hb
    generalize v / d = Q at *
    go_enter Tryd.func92, Tryd.ntmps92
    go_wp2
    go_ret
    exact ⟨ret_int (by first | rfl | omega), rfl⟩

theorem clamp_min (q : Int) : min (max q (-32)) 31 = clamp q := by
  unfold clamp; split
  · omega
  · split <;> omega
set_option maxHeartbeats 400000 in
theorem weight_any (v d : Int) (w : World) (hd : 0 < d) (hv : -9000000000000000000 ≤ v ∧ v ≤ 9000000000000000000) :
    Calls Tryd.prog 82 #[.int .i64 v, .int .i64 d] w fun e w' => e = .returned (.int .i64 (clamp (v / d))) ∧ ∃ m, w' = w.drewN m := by
  have HD := Hid.mk' (fun u => divideDown_any v d u hd hv)
  have HC := Hid.mk' (clamp_min (v / d))
  clear hv
  generalize v / d = Q at *
  go_enter Tryd.func82, Tryd.ntmps82
  go_wp2_with (go_at_call 92; refine (HD.out _).mono ?_; rintro e w1 ⟨rfl, hw⟩; subst w1; clear HD)
  go_ret
  exact ⟨ret_int HC.out, 0, rfl⟩
end Go.Proofs.YtlncjgnomhpjnaaDoor
