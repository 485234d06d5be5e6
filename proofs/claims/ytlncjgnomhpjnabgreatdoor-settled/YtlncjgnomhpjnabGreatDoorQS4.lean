import Derived.Test.YtlncjgnomhpjnabGreatDoorQS3
/-
  The program's packer: lengths of Rice codes, the best parameter, the weights, the folded rests.
-/
namespace Go.Proofs.YtlncjgnomhpjnabGreatDoor
open Go.RowKit Go.Deep
set_option linter.unusedVariables false
set_option maxHeartbeats 400000 in
theorem riceLength_any (f k : Nat) (w : World) (hk : k ≤ 14) (hf : f ≤ 2000000) :
    Calls Tryz.prog 353 #[.int .i64 f, .int .i64 k] w fun e w' => e = .returned (.int .i64 (riceL f k)) ∧ w' = w := by
  have hm : min k 64 = k := by omega
  have HR : Hid (riceL f k = f / 2 ^ k + 1 + k) := rfl
  have hq : f / 2 ^ k ≤ f := Nat.div_le_self _ _
  have hqi : (f : Int) / 2 ^ k = ((f / 2 ^ k : Nat) : Int) := by simp
  generalize f / 2 ^ k = q at *
  go_enter Tryz.func353, Tryz.ntmps353
  go_wp2
  go_ret
  exact ⟨ret_int (by rw [HR.out]; go_num), rfl⟩
set_option maxHeartbeats 1000000 in
theorem partLength_any (a : Option Addr) (n c k lo : Nat) (F : Nat → Nat) (w : World) (hn : n ≤ 32) (hk : k ≤ 14) (hF : ∀ i, i < n → F (lo + i) ≤ 2000000) (hI : IntsAt w a n (fun i => (F (lo + i) : Int))) :
    Calls Tryz.prog 347 #[.slice a n c, .int .i64 k] w fun e w' => e = .returned (.int .i64 (plen F k lo n)) ∧ ∃ m, w' = w.drewN m := by
  have HI := Hid.mk' hI
  have HF := Hid.mk' hF
  clear hI hF
  go_enter Tryz.func347, Tryz.ntmps347
  go_wp2
  go_loopw [5, 10] (fun v i wr => ∃ j : Nat, j ≤ n ∧ i = .int .i64 j ∧ v = .int .i64 (plen F k lo j) ∧ ∃ m, wr = w.drewN m) (fun _ i _ => n - (intOf i).toNat)
  case atStart => exact ⟨0, by omega, rfl, rfl, 0, rfl⟩
  case round =>
    obtain ⟨j, hj, rfl, rfl, m, rfl⟩ := hrel
    by_cases hlt : j < n
    · obtain ⟨bb, off, hx, hc⟩ := HI.out.open (by omega)
      cases hx
      have hcj := hc j hlt
      clear hc
      have hfj := HF.out j hlt
      have HL := Hid.mk' (fun u => riceLength_any (F (lo + j)) k u hk hfj)
      have hr := riceL_le (F (lo + j)) k 2000000 hfj hk
      have hp := plen_le F k lo 2000000 hk j (fun i hi => HF.out i (by omega))
      have hp2 : j * (2000000 + 15) ≤ 32 * (2000000 + 15) := Nat.mul_le_mul_right _ (by omega)
      have hp3 : plen F k lo j ≤ 64000480 := by omega
      have HE : Hid (plen F k lo (j + 1) = plen F k lo j + riceL (F (lo + j)) k) := rfl
      clear hp hp2
      generalize riceL (F (lo + j)) k = R at *
      go_wp2_with (go_at_call 353; refine (HL.out _).mono ?_; rintro e w1 ⟨rfl, hw⟩; subst w1; clear HL)
      go_roundw
      case rel => exact ⟨j + 1, by omega, by go_num, by rw [HE.out]; go_num, _, rfl⟩
      case measure => simp [intOf]; omega
    · have e : j = n := by omega
      subst e
      go_wp2
      go_ret
      exact ⟨rfl, _, rfl⟩
set_option maxHeartbeats 1000000 in
theorem shortestParameter_any (a : Option Addr) (n c lo : Nat) (F : Nat → Nat) (w : World) (hn : n ≤ 32) (hF : ∀ i, i < n → F (lo + i) ≤ 2000000) (hI : IntsAt w a n (fun i => (F (lo + i) : Int))) :
    Calls Tryz.prog 340 #[.slice a n c] w fun e w' => e = .returned (.tuple #[.int .i64 (parK F lo n), .int .i64 (plen F (parK F lo n) lo n)]) ∧ ∃ m, w' = w.drewN m := by
  have HI := Hid.mk' hI
  have HF := Hid.mk' hF
  clear hI hF
  have HP := Hid.mk' (fun (k : Nat) (hk : k ≤ 14) (u : World) (hu : IntsAt u a n (fun i => (F (lo + i) : Int))) => partLength_any a n c k lo F u hn hk HF.out hu)
  have HP0 := Hid.mk' (fun (u : World) (hu : IntsAt u a n (fun i => (F (lo + i) : Int))) => HP.out 0 (by omega) u hu)
  have HPK : Hid (parK F lo n = argmin (fun k => plen F k lo n) 14) := rfl
  have HB := Hid.mk' (fun (k : Nat) (hk : k ≤ 14) => Nat.le_trans (plen_le F k lo 2000000 hk n HF.out) (Nat.mul_le_mul_right _ hn))
  go_enter Tryz.func340, Tryz.ntmps340
  go_wp2_with (go_at_call 347; refine (HP0.out _ ?_).mono ?_; exact HI.out; rintro e w1 ⟨rfl, q, hw⟩; subst w1; clear HP0)
  go_loopw [4, 5, 6] (fun b l i wr => ∃ k : Nat, k ≤ 14 ∧ i = .int .i64 ((k : Int) + 1) ∧ b = .int .i64 (argmin (fun k => plen F k lo n) k) ∧ l = .int .i64 (plen F (argmin (fun k => plen F k lo n) k) lo n) ∧ ∃ m, wr = w.drewN m) (fun _ _ i _ => 15 - (intOf i).toNat)
  case atStart => exact ⟨0, by omega, rfl, rfl, rfl, _, rfl⟩
  case round =>
    obtain ⟨k, hk, rfl, rfl, rfl, m, rfl⟩ := hrel
    by_cases hlt : k < 14
    · have HC : Hid (∀ u : World, IntsAt u a n (fun i => (F (lo + i) : Int)) → Calls Tryz.prog 347 #[.slice a n c, .int .i64 ((k : Int) + 1)] u fun e w' => e = .returned (.int .i64 (plen F (k + 1) lo n)) ∧ ∃ m, w' = u.drewN m) := HP.out (k + 1) (by omega)
      have ha := argmin_le (fun k => plen F k lo n) k
      have hb1 := HB.out (argmin (fun k => plen F k lo n) k) (by omega)
      have hb2 := HB.out (k + 1) (by omega)
      have HE : Hid (argmin (fun k => plen F k lo n) (k + 1) = if plen F (k + 1) lo n < plen F (argmin (fun k => plen F k lo n) k) lo n then k + 1 else argmin (fun k => plen F k lo n) k) := rfl
      generalize argmin (fun k => plen F k lo n) k = A at *
      obtain ⟨L1, hL1⟩ : ∃ L, L = plen F (k + 1) lo n := ⟨_, rfl⟩
      obtain ⟨L2, hL2⟩ : ∃ L, L = plen F A lo n := ⟨_, rfl⟩
      rw [← hL1] at hb2 HE HC
      rw [← hL2] at hb1 HE
      have HL1 := Hid.mk' hL1
      rw [← hL2]
      have HL2 := Hid.mk' hL2
      clear hL1 hL2
      by_cases hd : L1 < L2
      · have t1 : decide ((L1 : Int) < (L2 : Int)) = true := decide_eq_true (by omega)
        have t2 : decide (L1 < L2) = true := decide_eq_true hd
        rw [if_pos hd] at HE
        clear hd
        go_wp2_with (go_at_call 347; refine (HC.out _ ?_).mono ?_; exact HI.out; rintro e w1 ⟨rfl, q, hw⟩; subst w1; clear HC)
        go_roundw
        case rel => exact ⟨k + 1, by omega, by go_num, by rw [HE.out]; rfl, by rw [HE.out, HL1.out], _, rfl⟩
        case measure => simp [intOf]; omega
      · have t1 : decide ((L1 : Int) < (L2 : Int)) = false := decide_eq_false (by omega)
        have t2 : decide (L1 < L2) = false := decide_eq_false hd
        rw [if_neg hd] at HE
        clear hd
        go_wp2_with (go_at_call 347; refine (HC.out _ ?_).mono ?_; exact HI.out; rintro e w1 ⟨rfl, q, hw⟩; subst w1; clear HC)
        go_roundw
        case rel => exact ⟨k + 1, by omega, by go_num, by rw [HE.out], by rw [HE.out, HL2.out], _, rfl⟩
        case measure => simp [intOf]; omega
    · have e : k = 14 := by omega
      subst e
      rw [← HPK.out]
      go_wp2
      go_ret2
      exact ⟨rfl, _, rfl⟩
end Go.Proofs.YtlncjgnomhpjnabGreatDoor

