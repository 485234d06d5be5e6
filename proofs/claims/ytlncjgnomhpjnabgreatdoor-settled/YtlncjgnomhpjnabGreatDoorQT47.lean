import Derived.Test.YtlncjgnomhpjnabGreatDoorQT11
import Derived.Test.YtlncjgnomhpjnabGreatDoorQT13
import Derived.Test.YtlncjgnomhpjnabGreatDoorQT19
import Derived.Deep.RegionHeld3
/-
  What 'reelkeep' makes of its arguments: right, sample.
-/
namespace Go.Proofs.YtlncjgnomhpjnabGreatDoor
open Go.RowKit Go.Deep
set_option linter.unusedVariables false
def wr64 (a : Int) : Int := IntKind.i64.wrap a
theorem wr64_bd (a : Int) : -9223372036854775808 ≤ wr64 a ∧ wr64 a ≤ 9223372036854775807 := by
  unfold wr64
  rw [IntKind.wrap_i64]
  omega
theorem infoCfgK : (Tryz.prog.info? 23).map (·.size) = some 8 := by kernel_rfl
theorem res_right (tmps : Array Value) (R : Nat) (cs : Array Value) (W : World) (h : Bx W R 23 cs) (hs : cs.size = 8) (h2 : tmps.getD 2 undef = .pointer (some ⟨R, 0, none⟩)) :
    (results Tryz.f9 tmps).run Tryz.prog W = .ok (.agg cs) W := by
  have hl := run_loadVar_row (P := Tryz.prog) W R 23 23 cs (0, 0) _ h Tryz.underlying23 rfl (by rw [hs]; exact infoCfgK)
  rw [Array.getD_eq_getD_getElem?] at h2
  simp [results, Tryz.results9, asAddr, h2, hl]
set_option maxRecDepth 4000 in
set_option maxHeartbeats 2000000 in
theorem right_keep (c0 c1 c2 c3 c4 c5 c6 c7 : Int) (w : World) (h3 : -9223372036854775808 ≤ c3 ∧ c3 ≤ 9223372036854775807) (h4 : -9223372036854775808 ≤ c4 ∧ c4 ≤ 9223372036854775807) :
    Calls Tryz.prog 9 #[.agg #[.int .i64 c0, .int .i64 c1, .int .i64 c2, .int .i64 c3, .int .i64 c4, .int .i64 c5, .int .i64 c6, .int .i64 c7]] w fun e w' =>
      e = .returned (.agg #[.int .i64 (1 + (pickV (wr64 (c0 - 1)) 4 : Nat)), .int .i64 (4 + (pickV (wr64 (c1 - 4)) 9 : Nat)), .int .i64 (1 + (pickV (wr64 (c2 - 1)) 32 : Nat)), .int .i64 (pickV c3 65536 : Nat), .int .i64 (pickV c4 256 : Nat), .int .i64 (1 + (pickV (wr64 (c5 - 1)) 8 : Nat)), .int .i64 (1 + (pickV (wr64 (c6 - 1)) 16 : Nat)), .int .i64 (1 + (pickV (wr64 (c7 - 1)) 8 : Nat))]) ∧ Below w.heap.size w w' := by
  have HP0 := Hid.mk' (fun u => pick_any (wr64 (c0 - 1)) 4 u (by omega) (by omega) (wr64_bd _))
  have HP1 := Hid.mk' (fun u => pick_any (wr64 (c1 - 4)) 9 u (by omega) (by omega) (wr64_bd _))
  have HP2 := Hid.mk' (fun u => pick_any (wr64 (c2 - 1)) 32 u (by omega) (by omega) (wr64_bd _))
  have HP3 := Hid.mk' (fun u => pick_any c3 65536 u (by omega) (by omega) h3)
  have HP4 := Hid.mk' (fun u => pick_any c4 256 u (by omega) (by omega) h4)
  have HP5 := Hid.mk' (fun u => pick_any (wr64 (c5 - 1)) 8 u (by omega) (by omega) (wr64_bd _))
  have HP6 := Hid.mk' (fun u => pick_any (wr64 (c6 - 1)) 16 u (by omega) (by omega) (wr64_bd _))
  have HP7 := Hid.mk' (fun u => pick_any (wr64 (c7 - 1)) 8 u (by omega) (by omega) (wr64_bd _))
  have e0 : IntKind.i64.wrap (c0 - 1) = wr64 (c0 - 1) := rfl
  have e1 : IntKind.i64.wrap (c1 - 4) = wr64 (c1 - 4) := rfl
  have e2 : IntKind.i64.wrap (c2 - 1) = wr64 (c2 - 1) := rfl
  have e5 : IntKind.i64.wrap (c5 - 1) = wr64 (c5 - 1) := rfl
  have e6 : IntKind.i64.wrap (c6 - 1) = wr64 (c6 - 1) := rfl
  have e7 : IntKind.i64.wrap (c7 - 1) = wr64 (c7 - 1) := rfl
  generalize wr64 (c0 - 1) = r0 at *
  generalize wr64 (c1 - 4) = r1 at *
  generalize wr64 (c2 - 1) = r2 at *
  generalize wr64 (c5 - 1) = r5 at *
  generalize wr64 (c6 - 1) = r6 at *
  generalize wr64 (c7 - 1) = r7 at *
  have l0 := pickV_lt r0 4 (by omega)
  have l1 := pickV_lt r1 9 (by omega)
  have l2 := pickV_lt r2 32 (by omega)
  have l3 := pickV_lt c3 65536 (by omega)
  have l4 := pickV_lt c4 256 (by omega)
  have l5 := pickV_lt r5 8 (by omega)
  have l6 := pickV_lt r6 16 (by omega)
  have l7 := pickV_lt r7 8 (by omega)
  clear h3 h4
  generalize pickV r0 4 = p0 at *
  generalize pickV r1 9 = p1 at *
  generalize pickV r2 32 = p2 at *
  generalize pickV c3 65536 = p3 at *
  generalize pickV c4 256 = p4 at *
  generalize pickV r5 8 = p5 at *
  generalize pickV r6 16 = p6 at *
  generalize pickV r7 8 = p7 at *
  have v0 : IntKind.i64.wrap (1 + (p0 : Int)) = 1 + (p0 : Int) := by rw [IntKind.wrap_i64]; omega
  have v1 : IntKind.i64.wrap (4 + (p1 : Int)) = 4 + (p1 : Int) := by rw [IntKind.wrap_i64]; omega
  have v2 : IntKind.i64.wrap (1 + (p2 : Int)) = 1 + (p2 : Int) := by rw [IntKind.wrap_i64]; omega
  have v5 : IntKind.i64.wrap (1 + (p5 : Int)) = 1 + (p5 : Int) := by rw [IntKind.wrap_i64]; omega
  have v6 : IntKind.i64.wrap (1 + (p6 : Int)) = 1 + (p6 : Int) := by rw [IntKind.wrap_i64]; omega
  have v7 : IntKind.i64.wrap (1 + (p7 : Int)) = 1 + (p7 : Int) := by rw [IntKind.wrap_i64]; omega
  have hS0 : ∀ o, ((w.alloc (.cells #[.int .i64 c0, .int .i64 c1, .int .i64 c2, .int .i64 c3, .int .i64 c4, .int .i64 c5, .int .i64 c6, .int .i64 c7] 23)).alloc o).drew.cell? ⟨w.heap.size, 0, none⟩ = some (.int .i64 c0) ∧ ((w.alloc (.cells #[.int .i64 c0, .int .i64 c1, .int .i64 c2, .int .i64 c3, .int .i64 c4, .int .i64 c5, .int .i64 c6, .int .i64 c7] 23)).alloc o).drew.cell? ⟨w.heap.size, 1, none⟩ = some (.int .i64 c1) ∧ ((w.alloc (.cells #[.int .i64 c0, .int .i64 c1, .int .i64 c2, .int .i64 c3, .int .i64 c4, .int .i64 c5, .int .i64 c6, .int .i64 c7] 23)).alloc o).drew.cell? ⟨w.heap.size, 2, none⟩ = some (.int .i64 c2) ∧ ((w.alloc (.cells #[.int .i64 c0, .int .i64 c1, .int .i64 c2, .int .i64 c3, .int .i64 c4, .int .i64 c5, .int .i64 c6, .int .i64 c7] 23)).alloc o).drew.cell? ⟨w.heap.size, 3, none⟩ = some (.int .i64 c3) ∧ ((w.alloc (.cells #[.int .i64 c0, .int .i64 c1, .int .i64 c2, .int .i64 c3, .int .i64 c4, .int .i64 c5, .int .i64 c6, .int .i64 c7] 23)).alloc o).drew.cell? ⟨w.heap.size, 4, none⟩ = some (.int .i64 c4) ∧ ((w.alloc (.cells #[.int .i64 c0, .int .i64 c1, .int .i64 c2, .int .i64 c3, .int .i64 c4, .int .i64 c5, .int .i64 c6, .int .i64 c7] 23)).alloc o).drew.cell? ⟨w.heap.size, 5, none⟩ = some (.int .i64 c5) ∧ ((w.alloc (.cells #[.int .i64 c0, .int .i64 c1, .int .i64 c2, .int .i64 c3, .int .i64 c4, .int .i64 c5, .int .i64 c6, .int .i64 c7] 23)).alloc o).drew.cell? ⟨w.heap.size, 6, none⟩ = some (.int .i64 c6) ∧ ((w.alloc (.cells #[.int .i64 c0, .int .i64 c1, .int .i64 c2, .int .i64 c3, .int .i64 c4, .int .i64 c5, .int .i64 c6, .int .i64 c7] 23)).alloc o).drew.cell? ⟨w.heap.size, 7, none⟩ = some (.int .i64 c7) := fun o => by
    have hc : Bx ((w.alloc (.cells #[.int .i64 c0, .int .i64 c1, .int .i64 c2, .int .i64 c3, .int .i64 c4, .int .i64 c5, .int .i64 c6, .int .i64 c7] 23)).alloc o) w.heap.size 23 #[.int .i64 c0, .int .i64 c1, .int .i64 c2, .int .i64 c3, .int .i64 c4, .int .i64 c5, .int .i64 c6, .int .i64 c7] := (Bx.new w _ _).alloc _
    exact ⟨hc.cell 0, hc.cell 1, hc.cell 2, hc.cell 3, hc.cell 4, hc.cell 5, hc.cell 6, hc.cell 7⟩
  have HBE : Hid (∀ o, Below w.heap.size w ((w.alloc (.cells #[.int .i64 c0, .int .i64 c1, .int .i64 c2, .int .i64 c3, .int .i64 c4, .int .i64 c5, .int .i64 c6, .int .i64 c7] 23)).alloc o).drew) := fun o => (((Below.refl _ _).alloc (Nat.le_refl _) _).alloc (by simp) _).drew
  go_enter Tryz.func9, Tryz.ntmps9
  go_wp2_with fail
  go_region_held3 (fun w' => w'.cell? ⟨w.heap.size, 0, none⟩ = some (.int .i64 c0) ∧ w'.cell? ⟨w.heap.size, 1, none⟩ = some (.int .i64 c1) ∧ w'.cell? ⟨w.heap.size, 2, none⟩ = some (.int .i64 c2) ∧ w'.cell? ⟨w.heap.size, 3, none⟩ = some (.int .i64 c3) ∧ w'.cell? ⟨w.heap.size, 4, none⟩ = some (.int .i64 c4) ∧ w'.cell? ⟨w.heap.size, 5, none⟩ = some (.int .i64 c5) ∧ w'.cell? ⟨w.heap.size, 6, none⟩ = some (.int .i64 c6) ∧ w'.cell? ⟨w.heap.size, 7, none⟩ = some (.int .i64 c7))
    (with_reducible exact hS0 _)
    (first
      | (go_at_call 13; refine (HP0.out _).mono ?_; rintro e w' ⟨rfl, hw⟩; subst hw; clear HP0)
      | (go_at_call 13; refine (HP1.out _).mono ?_; rintro e w' ⟨rfl, hw⟩; subst hw; clear HP1)
      | (go_at_call 13; refine (HP2.out _).mono ?_; rintro e w' ⟨rfl, hw⟩; subst hw; clear HP2)
      | (go_at_call 13; refine (HP3.out _).mono ?_; rintro e w' ⟨rfl, hw⟩; subst hw; clear HP3)
      | (go_at_call 13; refine (HP4.out _).mono ?_; rintro e w' ⟨rfl, hw⟩; subst hw; clear HP4)
      | (go_at_call 13; refine (HP5.out _).mono ?_; rintro e w' ⟨rfl, hw⟩; subst hw; clear HP5)
      | (go_at_call 13; refine (HP6.out _).mono ?_; rintro e w' ⟨rfl, hw⟩; subst hw; clear HP6)
      | (go_at_call 13; refine (HP7.out _).mono ?_; rintro e w' ⟨rfl, hw⟩; subst hw; clear HP7))
  go_wp2_with fail
  refine bodyPost_ret (res_right _ (w.heap.size + 1) #[.int .i64 (1 + (p0 : Int)), .int .i64 (4 + (p1 : Int)), .int .i64 (1 + (p2 : Int)), .int .i64 (p3 : Int), .int .i64 (p4 : Int), .int .i64 (1 + (p5 : Int)), .int .i64 (1 + (p6 : Int)), .int .i64 (1 + (p7 : Int))] _ ?_ rfl rfl) rfl ⟨rfl, HBE.out _⟩
  exact Bx.new2 (by simp) _ _
/-- a sample that fits -/
def smpK (d : Nat) (v : Int) : Int := if -(2 ^ (d - 1)) ≤ v ∧ v < 2 ^ (d - 1) then v else (pickV v (2 * 2 ^ (d - 1)) : Int) - 2 ^ (d - 1)
theorem smpK_fits (d : Nat) (v : Int) : fitsB d (smpK d v) = true := by
  unfold smpK fitsB
  rw [within_iff]
  have hp := Nat.two_pow_pos (d - 1)
  have e : (2 : Int) ^ (d - 1) = ((2 ^ (d - 1) : Nat) : Int) := by rw [Int.natCast_pow]; rfl
  rw [e]
  generalize 2 ^ (d - 1) = h at *
  by_cases h0 : -(h : Int) ≤ v ∧ v < (h : Int)
  · rw [if_pos h0]; omega
  · rw [if_neg h0]
    have h1 := pickV_lt v (2 * h) (by omega)
    omega
set_option maxRecDepth 4000 in
set_option maxHeartbeats 2000000 in
theorem sample_keep (v : Int) (d : Nat) (w : World) (hd1 : 4 ≤ d) (hd : d ≤ 12) (hv : -9223372036854775808 ≤ v ∧ v ≤ 9223372036854775807) :
    Calls Tryz.prog 32 #[.int .i64 v, .int .i64 d] w fun e w' => e = .returned (.int .i64 (smpK d v)) ∧ w' = w := by
  obtain ⟨h, hh⟩ : ∃ h : Nat, h = 2 ^ (d - 1) := ⟨_, rfl⟩
  have hh2 : h ≤ 2048 := by rw [hh]; exact Nat.pow_le_pow_right (n := 2) (by omega) (show d - 1 ≤ 11 by omega)
  have hh1 : 1 ≤ h := by rw [hh]; exact Nat.two_pow_pos _
  have e0 : (2 : Int) ^ (d - 1) = (h : Int) := by rw [hh, Int.natCast_pow]; rfl
  have HSM : Hid (smpK d v = if -(h : Int) ≤ v ∧ v < (h : Int) then v else (pickV v (2 * h) : Int) - (h : Int)) := by
    show _ = _
    unfold smpK
    rw [e0, hh]
  have e2 : ((2 * h : Nat) : Int) = 2 * (h : Int) := by omega
  have HPK : Hid (∀ u, Calls Tryz.prog 13 #[.int .i64 v, .int .i64 (2 * (h : Int))] u fun e w' => e = .returned (.int .i64 (pickV v (2 * h))) ∧ w' = u) := fun u => by
    have := pick_any v (2 * h) u (by omega) (by omega) hv
    rwa [e2] at this
  have hpl := pickV_lt v (2 * h) (by omega)
  have w1 : IntKind.i64.wrap ((d : Int) - 1) = ((d - 1 : Nat) : Int) := by rw [IntKind.wrap_i64]; omega
  have s1 : (1 : Int) * 2 ^ (d - 1) = (h : Int) := by rw [e0, Int.one_mul]
  clear hh e0 e2
  by_cases h1 : -(h : Int) ≤ v
  · by_cases h2 : v < (h : Int)
    · have HV : Hid (smpK d v = v) := by show _ = _; rw [HSM.out, if_pos ⟨h1, h2⟩]
      have d1 : decide (v < (h : Int)) = true := decide_eq_true h2
      rw [HV.out]
      clear HV HSM hpl HPK
      go_enter Tryz.func32, Tryz.ntmps32
      go_wp2_with fail
      go_ret
      exact ⟨rfl, rfl⟩
    · have HV : Hid (smpK d v = (pickV v (2 * h) : Int) - (h : Int)) := by show _ = _; rw [HSM.out, if_neg (fun hh => h2 hh.2)]
      have d1 : decide (v < (h : Int)) = false := decide_eq_false h2
      rw [HV.out]
      clear HV HSM
      generalize pickV v (2 * h) = p at *
      have w2 : IntKind.i64.wrap ((p : Int) - (h : Int)) = (p : Int) - (h : Int) := by rw [IntKind.wrap_i64]; omega
      go_enter Tryz.func32, Tryz.ntmps32
      go_wp2_with (first
        | (go_at_call 13; refine (HPK.out _).mono ?_; rintro e w' ⟨rfl, hw⟩; subst hw; clear HPK))
      go_ret
      exact ⟨rfl, rfl⟩
  · have HV : Hid (smpK d v = (pickV v (2 * h) : Int) - (h : Int)) := by show _ = _; rw [HSM.out, if_neg (fun hh => h1 hh.1)]
    have d1 : decide (-(h : Int) ≤ v) = false := decide_eq_false h1
    rw [HV.out]
    clear HV HSM
    generalize pickV v (2 * h) = p at *
    have w2 : IntKind.i64.wrap ((p : Int) - (h : Int)) = (p : Int) - (h : Int) := by rw [IntKind.wrap_i64]; omega
    go_enter Tryz.func32, Tryz.ntmps32
    go_wp2_with (first
      | (go_at_call 13; refine (HPK.out _).mono ?_; rintro e w' ⟨rfl, hw⟩; subst hw; clear HPK))
    go_ret
    exact ⟨rfl, rfl⟩
end Go.Proofs.YtlncjgnomhpjnabGreatDoor

