/-
  Numbers in bytes: bytenum.In and reelref.low.
-/
import Derived.Test.YtfhmnplioghhiaaGreatDoorFrameMath
import Derived.Test.YtfhmnplioghhiaaGreatDoorChan
namespace Go.Proofs.YtfhmnplioghhiaaGreatDoor
open Go.RowKit Go.Deep
set_option linter.unusedVariables false

theorem in_step {w wr : World} {B v k j : Nat} (h : wr.rowIs B 5 k (fun i => .int .u8 (if k - 1 - i < j then ((inB v k i).toNat : Int) else 0))) (hj : j < k) :
    (wr.setCell ⟨B, k - 1 - j, none⟩ (.int .u8 ((v / 256 ^ j % 256 : Nat) : Int))).rowIs B 5 k (fun i => .int .u8 (if k - 1 - i < j + 1 then ((inB v k i).toNat : Int) else 0)) := by
  refine (h.set (k - 1 - j) _).congr fun i hi => ?_
  by_cases e : i = k - 1 - j
  · subst e
    rw [if_pos rfl, if_pos (by omega), inB_nat, show k - 1 - (k - 1 - j) = j by omega]
  · rw [if_neg e]
    by_cases e2 : k - 1 - i < j
    · rw [if_pos e2, if_pos (by omega)]
    · rw [if_neg e2, if_neg (by omega)]

set_option maxHeartbeats 1000000 in
theorem low_any (v k : Nat) (w : World) (hk : k ≤ 8) (hv : v < 4294967296) :
    Calls Tryz.prog 114 #[.int .i64 v, .int .i64 k] w fun e w' => e = .returned (.string (bs (inT v k))) ∧ Below w.heap.size w w' := by
  have hmk := run_make_row' (P := Tryz.prog) 61 5 (.int .u8 0) 1 Tryz.underlying61 infoByte rfl .i64 .i64 k (by omega) (by omega)
  have w2 : IntKind.i64.wrap ((k : Int) - 1) = (k : Int) - 1 := by rw [IntKind.wrap_i64]; omega
  have HS := Hid.mk' (strOf_in v k)
  have HCV := Hid.mk' (fun (u : World) h => run_rowString (P := Tryz.prog) u 61 9 5 w.heap.size 0 k k (inB v k) Tryz.underlying61 Tryz.underlying5 Tryz.underlying9 h)
  go_enter Tryz.func114, Tryz.ntmps114
  go_wp2
  clear hmk w2
  go_loopw [0, 6] (fun vv iv wr => ∃ j : Nat, j ≤ k ∧ iv = .int .i64 ((k : Int) - 1 - j) ∧ vv = .int .i64 ((v / 256 ^ j : Nat) : Int) ∧ Hid (wr.rowIs w.heap.size 5 k (fun i => .int .u8 (if k - 1 - i < j then ((inB v k i).toNat : Int) else 0)) ∧ Below w.heap.size w wr)) (fun _ iv _ => (intOf iv + 1).toNat)
  case atStart => exact ⟨0, by omega, by simp, by simp, (World.rowIs_made w (.int .u8 0) k 5).congr fun i _ => by rw [if_neg (by omega)], (Below.refl _ _).alloc (Nat.le_refl _) _⟩
  case round =>
    obtain ⟨j, hj, rfl, rfl, HR⟩ := hrel
    by_cases hlt : j < k
    · have hc1 := HR.out.1.cell (i := k - 1 - j) (by omega)
      have hf1 := HR.out.1.frozen (k - 1 - j)
      have hq : v / 256 ^ j ≤ v := Nat.div_le_self _ _
      have HQ : Hid (v / 256 ^ (j + 1) = v / 256 ^ j / 256) := by show _ = _; rw [Nat.pow_succ, Nat.div_div_eq_div_mul]
      have HK := Hid.mk' (in_step (w := w) HR.out.1 hlt)
      generalize v / 256 ^ j = q at *
      have t1 : ((k : Int) - 1 - (j : Int)).toNat = k - 1 - j := by omega
      have t2 : decide (0 ≤ (k : Int) - 1 - (j : Int)) = true := decide_eq_true (by omega)
      have l1 : 0 ≤ (k : Int) - 1 - (j : Int) := by omega
      have l2 : (k : Int) - 1 - (j : Int) < (k : Int) := by omega
      have v2 : IntKind.i64.wrap ((k : Int) - 1 - (j : Int) - 1) = (k : Int) - 1 - (j : Int) - 1 := by rw [IntKind.wrap_i64]; omega
      have m1 : ((q : Int)).tmod 256 = ((q % 256 : Nat) : Int) := by rw [Int.tmod_eq_emod_of_nonneg (by omega)]; omega
      have m2 : ((q : Int)).tdiv 256 = ((q / 256 : Nat) : Int) := by rw [Int.tdiv_eq_ediv_of_nonneg (by omega)]; omega
      have m3 : ((q : Int)) / 256 = ((q / 256 : Nat) : Int) := by omega
      have hq3 : q / 256 ≤ q := Nat.div_le_self _ _
      have HV6 : Hid (wrap64 ((q / 256 : Nat) : Int) = ((q / 256 : Nat) : Int)) := by show _ = _; unfold wrap64; omega
      have hq2 : q % 256 < 256 := Nat.mod_lt _ (by omega)
      have v4 : IntKind.u8.wrap (q : Int) = ((q % 256 : Nat) : Int) := by rw [IntKind.wrap_u8]; omega
      generalize q % 256 = r at *
      generalize q / 256 = q' at *
      have v5 : IntKind.u8.wrap (r : Int) = (r : Int) := by rw [IntKind.wrap_u8]; omega
      generalize hcv : (if k - 1 - (k - 1 - j) < j then ((inB v k (k - 1 - j)).toNat : Int) else 0) = oldv at hc1
      clear hcv
      go_wp2
      go_roundw
      case rel => exact ⟨j + 1, by omega, by congr 1; omega, by rw [HQ.out], HK.out, HR.out.2.setCell (Nat.le_refl _) _⟩
      case measure => simp [intOf]; omega
    · have e : j = k := by omega
      subst e
      have e1 : (j : Int) - 1 - (j : Int) = -1 := by omega
      rw [e1]
      clear e1
      have hcv := HCV.out wr (fun i hi => by
        have := HR.out.1.cell (i := i) hi
        rw [if_pos (by omega)] at this
        simpa using this)
      rw [HS.out] at hcv
      generalize v / 256 ^ j = q0 at *
      clear HCV
      go_wp2
      go_ret
      exact ⟨rfl, HR.out.2⟩

set_option maxHeartbeats 1000000 in
theorem in_any (v k : Nat) (w : World) (hk : k ≤ 8) (hv : v < 4294967296) :
    Calls Tryz.prog 108 #[.int .i64 v, .int .i64 k] w fun e w' => e = .returned (.string (bs (inT v k))) ∧ Below w.heap.size w w' := by
  have hmk := run_make_row' (P := Tryz.prog) 61 5 (.int .u8 0) 1 Tryz.underlying61 infoByte rfl .i64 .i64 k (by omega) (by omega)
  have w2 : IntKind.i64.wrap ((k : Int) - 1) = (k : Int) - 1 := by rw [IntKind.wrap_i64]; omega
  have HS := Hid.mk' (strOf_in v k)
  have HCV := Hid.mk' (fun (u : World) h => run_rowString (P := Tryz.prog) u 61 9 5 w.heap.size 0 k k (inB v k) Tryz.underlying61 Tryz.underlying5 Tryz.underlying9 h)
  go_enter Tryz.func108, Tryz.ntmps108
  go_wp2
  clear hmk w2
  go_loopw [0, 6] (fun vv iv wr => ∃ j : Nat, j ≤ k ∧ iv = .int .i64 ((k : Int) - 1 - j) ∧ vv = .int .i64 ((v / 256 ^ j : Nat) : Int) ∧ Hid (wr.rowIs w.heap.size 5 k (fun i => .int .u8 (if k - 1 - i < j then ((inB v k i).toNat : Int) else 0)) ∧ Below w.heap.size w wr)) (fun _ iv _ => (intOf iv + 1).toNat)
  case atStart => exact ⟨0, by omega, by simp, by simp, (World.rowIs_made w (.int .u8 0) k 5).congr fun i _ => by rw [if_neg (by omega)], (Below.refl _ _).alloc (Nat.le_refl _) _⟩
  case round =>
    obtain ⟨j, hj, rfl, rfl, HR⟩ := hrel
    by_cases hlt : j < k
    · have hc1 := HR.out.1.cell (i := k - 1 - j) (by omega)
      have hf1 := HR.out.1.frozen (k - 1 - j)
      have hq : v / 256 ^ j ≤ v := Nat.div_le_self _ _
      have HQ : Hid (v / 256 ^ (j + 1) = v / 256 ^ j / 256) := by show _ = _; rw [Nat.pow_succ, Nat.div_div_eq_div_mul]
      have HK := Hid.mk' (in_step (w := w) HR.out.1 hlt)
      generalize v / 256 ^ j = q at *
      have t1 : ((k : Int) - 1 - (j : Int)).toNat = k - 1 - j := by omega
      have t2 : decide (0 ≤ (k : Int) - 1 - (j : Int)) = true := decide_eq_true (by omega)
      have l1 : 0 ≤ (k : Int) - 1 - (j : Int) := by omega
      have l2 : (k : Int) - 1 - (j : Int) < (k : Int) := by omega
      have v2 : IntKind.i64.wrap ((k : Int) - 1 - (j : Int) - 1) = (k : Int) - 1 - (j : Int) - 1 := by rw [IntKind.wrap_i64]; omega
      have m1 : ((q : Int)).tmod 256 = ((q % 256 : Nat) : Int) := by rw [Int.tmod_eq_emod_of_nonneg (by omega)]; omega
      have m2 : ((q : Int)).tdiv 256 = ((q / 256 : Nat) : Int) := by rw [Int.tdiv_eq_ediv_of_nonneg (by omega)]; omega
      have m3 : ((q : Int)) / 256 = ((q / 256 : Nat) : Int) := by omega
      have hq3 : q / 256 ≤ q := Nat.div_le_self _ _
      have HV6 : Hid (wrap64 ((q / 256 : Nat) : Int) = ((q / 256 : Nat) : Int)) := by show _ = _; unfold wrap64; omega
      have hq2 : q % 256 < 256 := Nat.mod_lt _ (by omega)
      have v4 : IntKind.u8.wrap (q : Int) = ((q % 256 : Nat) : Int) := by rw [IntKind.wrap_u8]; omega
      generalize q % 256 = r at *
      generalize q / 256 = q' at *
      have v5 : IntKind.u8.wrap (r : Int) = (r : Int) := by rw [IntKind.wrap_u8]; omega
      generalize hcv : (if k - 1 - (k - 1 - j) < j then ((inB v k (k - 1 - j)).toNat : Int) else 0) = oldv at hc1
      clear hcv
      go_wp2
      go_roundw
      case rel => exact ⟨j + 1, by omega, by congr 1; omega, by rw [HQ.out], HK.out, HR.out.2.setCell (Nat.le_refl _) _⟩
      case measure => simp [intOf]; omega
    · have e : j = k := by omega
      subst e
      have e1 : (j : Int) - 1 - (j : Int) = -1 := by omega
      rw [e1]
      clear e1
      have hcv := HCV.out wr (fun i hi => by
        have := HR.out.1.cell (i := i) hi
        rw [if_pos (by omega)] at this
        simpa using this)
      rw [HS.out] at hcv
      generalize v / 256 ^ j = q0 at *
      clear HCV
      go_wp2
      go_ret
      exact ⟨rfl, HR.out.2⟩
end Go.Proofs.YtfhmnplioghhiaaGreatDoor
