import Derived.Test.YtlncjgnomhpjnaaGreatDoorEKRefText
/-
  The document's packer: the least parameter, the cuts.
-/
namespace Go.Proofs.YtlncjgnomhpjnaaGreatDoor
open Go.RowKit Go.Deep
set_option linter.unusedVariables false

set_option maxHeartbeats 2000000 in
theorem least_any (A : Option Addr) (n c lo : Nat) (R : Nat → Int) (w : World) (hn : n ≤ 32) (hR : ∀ i, i < n → -1000000 ≤ R (lo + i) ∧ R (lo + i) ≤ 1000000) (hI : IntsAt w A n (fun i => R (lo + i))) :
    Calls Tryz.prog 221 #[.slice A n c] w fun e w' => e = .returned (.int .i64 (parK (fun i => foldN (R i)) lo n)) ∧ ∃ m, w' = w.drewN m := by
  have HI := Hid.mk' hI
  have HR := Hid.mk' hR
  clear hI hR
  have HPK : Hid (parK (fun i => foldN (R i)) lo n = argmin (fun k => plen (fun i => foldN (R i)) k lo n) 14) := rfl
  obtain ⟨F, hF⟩ : ∃ F : Nat → Nat, F = fun i => foldN (R i) := ⟨_, rfl⟩
  have HFE : Hid (∀ i, foldN (R i) = F i) := fun i => by rw [hF]
  rw [← hF] at HPK ⊢
  have HFB : Hid (∀ i, i < n → F (lo + i) ≤ 2000000) := fun i hi => by rw [← HFE.out]; exact foldN_le _ 1000000 (HR.out i hi)
  clear hF
  have HB := Hid.mk' (fun (k : Nat) (hk : k ≤ 14) (j : Nat) (hj : j ≤ n) => Nat.le_trans (plen_le F k lo 2000000 hk j (fun i hi => HFB.out i (by omega))) (Nat.mul_le_mul_right _ (show j ≤ 32 by omega)))
  go_enter Tryz.func221, Tryz.ntmps221
  go_wp2
  go_loopw [3, 4, 5] (fun b s i wr => ∃ k : Nat, ∃ bv sv : Int, k ≤ 15 ∧ i = .int .i64 k ∧ b = .int .i64 bv ∧ s = .int .i64 sv ∧ Hid ((k = 0 → sv = -1 ∧ bv = 0) ∧ ∀ d, k = d + 1 → bv = (argmin (fun k => plen F k lo n) d : Nat) ∧ sv = (plen F (argmin (fun k => plen F k lo n) d) lo n : Nat)) ∧ ∃ m, wr = w.drewN m) (fun _ _ i _ => 15 - (intOf i).toNat)
  case atStart => exact ⟨0, 0, -1, by omega, rfl, rfl, rfl, ⟨fun _ => ⟨rfl, rfl⟩, fun d h => absurd h (by omega)⟩, 0, rfl⟩
  case round =>
    obtain ⟨k, bv, sv, hk, rfl, rfl, rfl, HS, m, rfl⟩ := hrel
    by_cases hk14 : k ≤ 14
    · have t0 : decide ((k : Int) ≤ 14) = true := decide_eq_true (by omega)
      go_wp2
      go_loopw [6, 7] (fun v i wr => ∃ j : Nat, j ≤ n ∧ i = .int .i64 j ∧ v = .int .i64 (plen F k lo j) ∧ ∃ m, wr = w.drewN m) (fun _ i _ => n - (intOf i).toNat)
      case atStart => exact ⟨0, by omega, rfl, rfl, _, rfl⟩
      case round =>
        obtain ⟨j, hj, rfl, rfl, m', rfl⟩ := hrel
        by_cases hlt : j < n
        · obtain ⟨bb, off, hx, hc⟩ := HI.out.open (by omega)
          cases hx
          have hcj := hc j hlt
          clear hc
          have HF := Hid.mk' (fun u => rfold_any (R (lo + j)) u (HR.out j hlt))
          rw [HFE.out] at HF
          have hfl := HFB.out j hlt
          have hpb := HB.out k hk14 j (by omega)
          have HE : Hid (plen F k lo (j + 1) = plen F k lo j + (F (lo + j) / 2 ^ k + 1 + k)) := rfl
          have hmn : min k 64 = k := by omega
          generalize F (lo + j) = f at *
          have hq : f / 2 ^ k ≤ f := Nat.div_le_self _ _
          have hqi : (f : Int) / 2 ^ k = ((f / 2 ^ k : Nat) : Int) := by simp
          generalize f / 2 ^ k = q at *
          go_wp2_with (go_at_call 232; refine (HF.out _).mono ?_; rintro e w1 ⟨rfl, hw⟩; subst w1; clear HF)
          go_roundw
          case rel => exact ⟨j + 1, by omega, by go_num, by rw [HE.out]; go_num, _, rfl⟩
          case measure => simp [intOf]; omega
        · have e : j = n := by omega
          subst e
          have hpb := HB.out k hk14 j (by omega)
          rcases Nat.eq_zero_or_pos k with hk0 | hk0
          · obtain ⟨rfl, rfl⟩ := HS.out.1 hk0
            have HN : Hid (∀ L : Nat, L = plen F k lo j → ((0 : Nat) = 0 ∧ L = plen F (argmin (fun k => plen F k lo j) 0) lo j)) := fun L h => ⟨rfl, by rw [h, hk0]; rfl⟩
            generalize hL : plen F k lo j = L at *
            have HL := Hid.mk' hL
            have HK0 := Hid.mk' hk0
            clear hL hk0 HS
            go_wp2
            exact ⟨⟨k + 1, (k : Int), (L : Int), by omega, by go_num, rfl, rfl, ⟨fun h => absurd h (by omega), fun d h => by
              have hd : d = 0 := by have := HK0.out; omega
              subst hd
              exact ⟨by rw [HK0.out]; rfl, by rw [← HL.out, HK0.out]; rfl⟩⟩, _, rfl⟩, by simp [intOf]; omega⟩
          · obtain ⟨d, rfl⟩ : ∃ d, k = d + 1 := ⟨k - 1, by omega⟩
            obtain ⟨rfl, rfl⟩ := HS.out.2 d rfl
            have hda := argmin_le (fun k => plen F k lo j) d
            have hpb2 := HB.out (argmin (fun k => plen F k lo j) d) (by omega) j (by omega)
            have HAE : Hid (argmin (fun k => plen F k lo j) (d + 1) = if plen F (d + 1) lo j < plen F (argmin (fun k => plen F k lo j) d) lo j then d + 1 else argmin (fun k => plen F k lo j) d) := rfl
            generalize argmin (fun k => plen F k lo j) d = a at *
            obtain ⟨L1, hL1⟩ : ∃ L, L = plen F (d + 1) lo j := ⟨_, rfl⟩
            obtain ⟨L2, hL2⟩ : ∃ L, L = plen F a lo j := ⟨_, rfl⟩
            have HL1 := Hid.mk' hL1
            have HL2 := Hid.mk' hL2
            rw [← hL1] at hpb HAE ⊢
            rw [← hL2] at hpb2 HAE ⊢
            clear hL1 hL2 HS hk0
            by_cases hd : L1 < L2
            · rw [if_pos hd] at HAE
              have t1 : decide ((L1 : Int) < (L2 : Int)) = true := decide_eq_true (by omega)
              have t2 : decide (L1 < L2) = true := decide_eq_true hd
              clear hd
              go_wp2
              exact ⟨⟨d + 1 + 1, ((d + 1 : Nat) : Int), (L1 : Int), by omega, by go_num, rfl, rfl, ⟨fun h => absurd h (by omega), fun d' h => by
                have hd : d' = d + 1 := by omega
                subst hd
                rw [HAE.out]
                exact ⟨rfl, by rw [HL1.out]⟩⟩, _, rfl⟩, by simp [intOf]; omega⟩
            · rw [if_neg hd] at HAE
              have t1 : decide ((L1 : Int) < (L2 : Int)) = false := decide_eq_false (by omega)
              have t2 : decide (L1 < L2) = false := decide_eq_false hd
              clear hd
              go_wp2
              exact ⟨⟨d + 1 + 1, (a : Int), (L2 : Int), by omega, by go_num, rfl, rfl, ⟨fun h => absurd h (by omega), fun d' h => by
                have hd : d' = d + 1 := by omega
                subst hd
                rw [HAE.out]
                exact ⟨rfl, by rw [HL2.out]⟩⟩, _, rfl⟩, by simp [intOf]; omega⟩
    · have e : k = 15 := by omega
      subst e
      obtain ⟨rfl, rfl⟩ := HS.out.2 14 rfl
      rw [← HPK.out]
      go_wp2
      go_ret
      exact ⟨rfl, _, rfl⟩
end Go.Proofs.YtlncjgnomhpjnaaGreatDoor

