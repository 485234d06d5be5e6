import Derived.Test.YtlncjgnomhpjnaaGreatDoorEKRefTextB
/-
  The document's packer: all the same, the lagged sums, the weights.
-/
namespace Go.Proofs.YtlncjgnomhpjnaaGreatDoor
open Go.RowKit Go.Deep
set_option linter.unusedVariables false

theorem drewN_two (w : World) (m q : Nat) : ∃ k, (w.drewN m).drewN q = w.drewN k := ⟨m + q, by simp [World.drewN, Nat.add_assoc]⟩
set_option maxHeartbeats 1000000 in
theorem rsame_any (a : Option Addr) (n c : Nat) (x : Nat → Int) (w : World) (hn1 : 1 ≤ n) (hn : n ≤ 32) (hI : IntsAt w a n x) :
    Calls Tryz.prog 194 #[.slice a n c] w fun e w' => e = .returned (.bool (allSame x n)) ∧ ∃ m, w' = w.drewN m := by
  have HI := Hid.mk' hI
  clear hI
  go_enter Tryz.func194, Tryz.ntmps194
  go_wp2
  go_loopw [3] (fun i wr => ∃ j : Nat, 1 ≤ j ∧ j ≤ n ∧ i = .int .i64 j ∧ Hid (∀ i, i < j → x i = x 0) ∧ ∃ m, wr = w.drewN m) (fun i _ => n - (intOf i).toNat)
  case atStart => exact ⟨1, by omega, by omega, rfl, fun i hi => by rw [show i = 0 by omega], 0, rfl⟩
  case round =>
    obtain ⟨j, hj1, hj, rfl, HS, m, rfl⟩ := hrel
    by_cases hlt : j < n
    · obtain ⟨bb, off, hx, hc⟩ := HI.out.open (by omega)
      cases hx
      have hcj := hc j hlt
      have hc0 := hc 0 (by omega)
      rw [Nat.add_zero] at hc0
      clear hc
      by_cases hne : x j = x 0
      · have t1 : (x j != x 0) = false := by simp [hne]
        have HE := Hid.mk' hne
        clear hne
        go_wp2
        go_quiet ((fail))
        go_wp2
        go_roundw
        case rel => exact ⟨j + 1, by omega, by omega, by go_num, fun i hi => by
          by_cases e : i = j
          · subst e; exact HE.out
          · exact HS.out i (by omega), _, rfl⟩
        case measure => simp [intOf]; omega
      · have t1 : (x j != x 0) = true := by simp [hne]
        have HE := Hid.mk' hne
        clear hne
        go_wp2
        go_quiet ((fail))
        go_wp2
        go_ret
        refine ⟨ret_bool ?_, drewN_two _ _ _⟩
        cases e : allSame x n with
        | false => rfl
        | true => exact absurd ((allSame_iff x n).1 e j hlt) HE.out
    · have e : j = n := by omega
      subst e
      go_wp2
      go_ret
      exact ⟨ret_bool ((allSame_iff x j).2 HS.out).symm, _, rfl⟩

set_option maxHeartbeats 1000000 in
theorem rlagged_any (a : Option Addr) (n c k : Nat) (x : Nat → Int) (w : World) (hn : n ≤ 32) (hk : k ≤ 2) (hX : ∀ j, j < n → -4096 ≤ x j ∧ x j ≤ 4096) (hI : IntsAt w a n x) :
    Calls Tryz.prog 219 #[.slice a n c, .int .i64 k] w fun e w' => e = .returned (.int .i64 (lag x k n)) ∧ ∃ m, w' = w.drewN m := by
  have HI := Hid.mk' hI
  have HX := Hid.mk' hX
  clear hI hX
  go_enter Tryz.func219, Tryz.ntmps219
  go_wp2
  go_loopw [5, 6] (fun v i wr => ∃ j : Nat, k ≤ j ∧ j ≤ max n k ∧ i = .int .i64 j ∧ v = .int .i64 (lag x k j) ∧ ∃ m, wr = w.drewN m) (fun _ i _ => n - (intOf i).toNat)
  case atStart => exact ⟨k, by omega, by omega, rfl, by rw [lag_zero x k k (Nat.le_refl _)], 0, rfl⟩
  case round =>
    obtain ⟨j, hkj, hj, rfl, rfl, m, rfl⟩ := hrel
    by_cases hlt : j < n
    · obtain ⟨bb, off, hx, hc⟩ := HI.out.open (by omega)
      cases hx
      have hcj := hc j hlt
      have hck := hc (j - k) (by omega)
      clear hc
      have hb := lag_bd x k j (fun i hi => HX.out i (by omega))
      have hm := mulBd (a := 4096) (b := 4096) (HX.out j hlt) (HX.out (j - k) (by omega))
      have e1 : ((4096 * 4096 : Nat) : Int) = 16777216 := rfl
      rw [e1] at hm
      have HE : Hid (lag x k (j + 1) = lag x k j + x j * x (j - k)) := by show _ = _; simp only [lag]; rw [if_pos hkj]
      have v1 : IntKind.i64.wrap ((j : Int) - (k : Int)) = (j : Int) - (k : Int) := by rw [IntKind.wrap_i64]; omega
      have t1 : ((j : Int) - (k : Int)).toNat = j - k := by omega
      have l1 : 0 ≤ (j : Int) - (k : Int) := by omega
      have l2 : (j : Int) - (k : Int) < (n : Int) := by omega
      have v2 : IntKind.i64.wrap (x j * x (j - k)) = x j * x (j - k) := by rw [IntKind.wrap_i64]; omega
      have v3 : IntKind.i64.wrap (lag x k j + x j * x (j - k)) = lag x k j + x j * x (j - k) := by rw [IntKind.wrap_i64]; omega
      go_wp2
      go_quiet ((fail))
      go_wp2
      go_roundw
      case rel => exact ⟨j + 1, by omega, by omega, by go_num, by rw [HE.out], _, rfl⟩
      case measure => simp [intOf]; omega
    · have HE : Hid (lag x k n = lag x k j) := by
        show _ = _
        by_cases e : j = n
        · rw [e]
        · rw [lag_zero x k j (by omega), lag_zero x k n (by omega)]
      go_wp2
      go_ret
      exact ⟨ret_int HE.out.symm, _, rfl⟩

set_option maxHeartbeats 400000 in
theorem rdown_any (v d : Int) (w : World) (hd : 0 < d) (hv : -9000000000000000000 ≤ v ∧ v ≤ 9000000000000000000) :
    Calls Tryz.prog 170 #[.int .i64 v, .int .i64 d] w fun e w' => e = .returned (.int .i64 (v / d)) ∧ w' = w := by
  have hz : (d == 0) = false := by simp; omega
  have hz2 : ¬ d = 0 := by omega
  have hb : -9000000000000000000 ≤ v / d ∧ v / d ≤ 9000000000000000000 := by
    constructor
    · have h1 := Int.ediv_le_ediv hd hv.1
      have h2 : (-9000000000000000000 : Int) ≤ -9000000000000000000 / d := by
        rw [Int.le_ediv_iff_mul_le hd]
        have := Int.mul_le_mul_of_nonneg_left (show 1 ≤ d by omega) (show (0 : Int) ≤ 9000000000000000000 by omega)
        omega
      omega
    · by_cases h : 0 ≤ v
      · have := Int.ediv_le_self d h; omega
      · have := Int.ediv_neg_of_neg_of_pos (show v < 0 by omega) hd; omega
  have hcase := tdivPos v d hd
  have HB := Hid.mk' hb
  by_cases hm : v.tmod d < 0
  · have t1 : decide (v.tmod d < 0) = true := decide_eq_true hm
    have he : v.tdiv d = v / d + 1 := by omega
    have w1 : IntKind.i64.wrap (v / d + 1) = v / d + 1 := by rw [IntKind.wrap_i64]; omega
    have w2 : wrap64 (v / d) = v / d := by unfold wrap64; omega
    clear hcase hb
    generalize v / d = Q at *
    go_enter Tryz.func170, Tryz.ntmps170
    go_wp2
    go_ret
    exact ⟨ret_int (by first | rfl | omega), rfl⟩
  · have t1 : decide (v.tmod d < 0) = false := decide_eq_false hm
    have he : v.tdiv d = v / d := by omega
    have w1 : IntKind.i64.wrap (v / d) = v / d := by rw [IntKind.wrap_i64]; omega
    clear hcase hb
    generalize v / d = Q at *
    go_enter Tryz.func170, Tryz.ntmps170
    go_wp2
    go_ret
    exact ⟨ret_int (by first | rfl | omega), rfl⟩


theorem rsix_any (v : Int) (w : World) : Calls Tryz.prog 220 #[.int .i64 v] w fun e w' => e = .returned (.int .i64 (clamp v)) ∧ w' = w := by
  have HC : Hid (clamp v = if v < -32 then -32 else if 31 < v then 31 else v) := rfl
  by_cases h1 : v < -32
  · rw [if_pos h1] at HC
    have t1 : decide (v < -32) = true := decide_eq_true h1
    go_enter Tryz.func220, Tryz.ntmps220
    go_wp2
    go_ret
    exact ⟨ret_int HC.out.symm, rfl⟩
  · rw [if_neg h1] at HC
    have t1 : decide (v < -32) = false := decide_eq_false h1
    by_cases h2 : 31 < v
    · rw [if_pos h2] at HC
      have t2 : decide (31 < v) = true := decide_eq_true h2
      go_enter Tryz.func220, Tryz.ntmps220
      go_wp2
      go_ret
      exact ⟨ret_int HC.out.symm, rfl⟩
    · rw [if_neg h2] at HC
      have t2 : decide (31 < v) = false := decide_eq_false h2
      go_enter Tryz.func220, Tryz.ntmps220
      go_wp2
      go_ret
      exact ⟨ret_int HC.out.symm, rfl⟩

set_option maxHeartbeats 1000000 in
theorem rlean_any (a : Option Addr) (n c : Nat) (x : Nat → Int) (w : World) (hn : n ≤ 32) (hX : ∀ j, j < n → -4096 ≤ x j ∧ x j ≤ 4096) (hI : IntsAt w a n x) :
    Calls Tryz.prog 195 #[.slice a n c] w fun e w' => (∃ A B : Int, e = .returned (.tuple #[.int .i64 A, .int .i64 B, .bool (decide (0 < leanD x n))]) ∧ (0 < leanD x n → A = leanA x n ∧ B = leanB x n)) ∧ ∃ m, w' = w.drewN m := by
  have HI := Hid.mk' hI
  have H0 := Hid.mk' (fun (u : World) (hu : IntsAt u a n x) => rlagged_any a n c 0 x u hn (by omega) hX hu)
  have H1 := Hid.mk' (fun (u : World) (hu : IntsAt u a n x) => rlagged_any a n c 1 x u hn (by omega) hX hu)
  have H2 := Hid.mk' (fun (u : World) (hu : IntsAt u a n x) => rlagged_any a n c 2 x u hn (by omega) hX hu)
  obtain ⟨r0, h0⟩ : ∃ r, r = lag x 0 n := ⟨_, rfl⟩
  obtain ⟨r1, h1⟩ : ∃ r, r = lag x 1 n := ⟨_, rfl⟩
  obtain ⟨r2, h2⟩ : ∃ r, r = lag x 2 n := ⟨_, rfl⟩
  obtain ⟨v1, v2, v3, v4, v5, v6, v7, v8, v9, b1, b2⟩ := lean_bds x n hn hX r0 r1 r2 h0 h1 h2
  have hD : leanD x n = r0 * r0 - r1 * r1 := by rw [h0, h1]; rfl
  have HA : Hid (leanA x n = clamp (8 * r1 * (r0 - r2) / (r0 * r0 - r1 * r1))) := by show _ = _; rw [h0, h1, h2]; rfl
  have HB : Hid (leanB x n = clamp (8 * (r0 * r2 - r1 * r1) / (r0 * r0 - r1 * r1))) := by show _ = _; rw [h0, h1, h2]; rfl
  rw [← h0] at H0
  rw [← h1] at H1
  rw [← h2] at H2
  rw [hD]
  clear h0 h1 h2 hI hX hD
  by_cases hd : 0 < r0 * r0 - r1 * r1
  · have t1 : decide (r0 * r0 - r1 * r1 ≤ 0) = false := decide_eq_false (by omega)
    have t2 : decide (0 < r0 * r0 - r1 * r1) = true := decide_eq_true hd
    rw [t2]
    have HWA := Hid.mk' (fun u => rdown_any (8 * r1 * (r0 - r2)) (r0 * r0 - r1 * r1) u hd b1)
    have HWB := Hid.mk' (fun u => rdown_any (8 * (r0 * r2 - r1 * r1)) (r0 * r0 - r1 * r1) u hd b2)
    have HXA := Hid.mk' (fun u => rsix_any (8 * r1 * (r0 - r2) / (r0 * r0 - r1 * r1)) u)
    have HXB := Hid.mk' (fun u => rsix_any (8 * (r0 * r2 - r1 * r1) / (r0 * r0 - r1 * r1)) u)
    rw [← HA.out] at HXA
    rw [← HB.out] at HXB
    generalize 8 * r1 * (r0 - r2) / (r0 * r0 - r1 * r1) = qa at *
    generalize 8 * (r0 * r2 - r1 * r1) / (r0 * r0 - r1 * r1) = qb at *
    clear b1 b2 hd t2 HA HB
    go_enter Tryz.func195, Tryz.ntmps195
    go_wp2_with (first
      | (go_at_call 219; refine (H0.out _ ?_).mono ?_; exact HI.out; rintro e w1 ⟨rfl, q1, hw⟩; subst w1; clear H0)
      | (go_at_call 219; refine (H1.out _ ?_).mono ?_; exact HI.out; rintro e w1 ⟨rfl, q2, hw⟩; subst w1; clear H1)
      | (go_at_call 219; refine (H2.out _ ?_).mono ?_; exact HI.out; rintro e w1 ⟨rfl, q3, hw⟩; subst w1; clear H2)
      | (go_at_call 170; refine (HWA.out _).mono ?_; rintro e w1 ⟨rfl, hw⟩; subst w1; clear HWA)
      | (go_at_call 170; refine (HWB.out _).mono ?_; rintro e w1 ⟨rfl, hw⟩; subst w1; clear HWB)
      | (go_at_call 220; refine (HXA.out _).mono ?_; rintro e w1 ⟨rfl, hw⟩; subst w1; clear HXA)
      | (go_at_call 220; refine (HXB.out _).mono ?_; rintro e w1 ⟨rfl, hw⟩; subst w1; clear HXB))
    go_ret3
    exact ⟨⟨_, _, rfl, fun _ => ⟨rfl, rfl⟩⟩, _, rfl⟩
  · have t1 : decide (r0 * r0 - r1 * r1 ≤ 0) = true := decide_eq_true (by omega)
    have t2 : decide (0 < r0 * r0 - r1 * r1) = false := decide_eq_false hd
    have HND := Hid.mk' hd
    rw [t2]
    clear b1 b2 hd t2 HA HB
    go_enter Tryz.func195, Tryz.ntmps195
    go_wp2_with (first
      | (go_at_call 219; refine (H0.out _ ?_).mono ?_; exact HI.out; rintro e w1 ⟨rfl, q1, hw⟩; subst w1; clear H0)
      | (go_at_call 219; refine (H1.out _ ?_).mono ?_; exact HI.out; rintro e w1 ⟨rfl, q2, hw⟩; subst w1; clear H1)
      | (go_at_call 219; refine (H2.out _ ?_).mono ?_; exact HI.out; rintro e w1 ⟨rfl, q3, hw⟩; subst w1; clear H2))
    go_ret3
    exact ⟨⟨_, _, rfl, fun h => absurd h (Int.not_lt.2 HND.out)⟩, _, rfl⟩

end Go.Proofs.YtlncjgnomhpjnaaGreatDoor

