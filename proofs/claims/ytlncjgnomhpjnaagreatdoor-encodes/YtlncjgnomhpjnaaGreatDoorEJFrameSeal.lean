import Derived.Test.YtlncjgnomhpjnaaGreatDoorEKFrameMath
import Derived.Test.YtlncjgnomhpjnaaGreatDoorEKChan
/-
  Numbers in bytes: bytenum.In and reelref.low.
-/
namespace Go.Proofs.YtlncjgnomhpjnaaGreatDoor
open Go.RowKit Go.Deep
set_option linter.unusedVariables false

theorem in_step {w wr : World} {B v k j : Nat} (h : wr.rowIs B 5 k (fun i => .int .u8 (if k - 1 - i < j then ((inB v k i).toNat : Int) else 0))) (hj : j < k) :
    (wr.setCell ⟨B, k - 1 - j, none⟩ (.int .u8 ((v / 256 ^ j % 256 : Nat) : Int))).rowIs B 5 k (fun i => .int .u8 (if k - 1 - i < j + 1 then ((inB v k i).toNat : Int) else 0)) := by
  refine (h.set (k - 1 - j) _).congr fun i hi => ?_
  by_cases e : i = k - 1 - j
  · subst e
    rw [if_pos rfl, if_pos (by omega), inB_nat, show k - 1 - (k - 1 - j) = j by omega]
  · rw [if_neg e]
    by_cases e2 : k - 1 - i < j
    · rw [if_pos e2, if_pos (by omega)]
    · rw [if_neg e2, if_neg (by omega)]

set_option maxHeartbeats 1000000 in
theorem low_any (v k : Nat) (w : World) (hk : k ≤ 8) (hv : v < 4294967296) :
    Calls Tryz.prog 111 #[.int .i64 v, .int .i64 k] w fun e w' => e = .returned (.string (bs (inT v k))) ∧ Below w.heap.size w w' := by
  have hmk := run_make_row' (P := Tryz.prog) 61 5 (.int .u8 0) 1 Tryz.underlying61 infoByte rfl .i64 .i64 k (by omega) (by omega)
  have w2 : IntKind.i64.wrap ((k : Int) - 1) = (k : Int) - 1 := by rw [IntKind.wrap_i64]; omega
  have HS := Hid.mk' (strOf_in v k)
  have HCV := Hid.mk' (fun (u : World) h => run_rowString (P := Tryz.prog) u 61 9 5 w.heap.size 0 k k (inB v k) Tryz.underlying61 Tryz.underlying5 Tryz.underlying9 h)
  go_enter Tryz.func111, Tryz.ntmps111
  go_wp2
  clear hmk w2
  go_loopw [0, 6] (fun vv iv wr => ∃ j : Nat, j ≤ k ∧ iv = .int .i64 ((k : Int) - 1 - j) ∧ vv = .int .i64 ((v / 256 ^ j : Nat) : Int) ∧ Hid (wr.rowIs w.heap.size 5 k (fun i => .int .u8 (if k - 1 - i < j then ((inB v k i).toNat : Int) else 0)) ∧ Below w.heap.size w wr)) (fun _ iv _ => (intOf iv + 1).toNat)
  case atStart => exact ⟨0, by omega, by simp, by simp, (World.rowIs_made w (.int .u8 0) k 5).congr fun i _ => by rw [if_neg (by omega)], (Below.refl _ _).alloc (Nat.le_refl _) _⟩
  case round =>
    obtain ⟨j, hj, rfl, rfl, HR⟩ := hrel
    by_cases hlt : j < k
    · have hc1 := HR.out.1.cell (i := k - 1 - j) (by omega)
      have hf1 := HR.out.1.frozen (k - 1 - j)
      have hq : v / 256 ^ j ≤ v := Nat.div_le_self _ _
      have HQ : Hid (v / 256 ^ (j + 1) = v / 256 ^ j / 256) := by show _ = _; rw [Nat.pow_succ, Nat.div_div_eq_div_mul]
      have HK := Hid.mk' (in_step (w := w) HR.out.1 hlt)
      generalize v / 256 ^ j = q at *
      have t1 : ((k : Int) - 1 - (j : Int)).toNat = k - 1 - j := by omega
      have t2 : decide (0 ≤ (k : Int) - 1 - (j : Int)) = true := decide_eq_true (by omega)
      have l1 : 0 ≤ (k : Int) - 1 - (j : Int) := by omega
      have l2 : (k : Int) - 1 - (j : Int) < (k : Int) := by omega
      have v2 : IntKind.i64.wrap ((k : Int) - 1 - (j : Int) - 1) = (k : Int) - 1 - (j : Int) - 1 := by rw [IntKind.wrap_i64]; omega
      have m1 : ((q : Int)).tmod 256 = ((q % 256 : Nat) : Int) := by rw [Int.tmod_eq_emod_of_nonneg (by omega)]; omega
      have m2 : ((q : Int)).tdiv 256 = ((q / 256 : Nat) : Int) := by rw [Int.tdiv_eq_ediv_of_nonneg (by omega)]; omega
      have m3 : ((q : Int)) / 256 = ((q / 256 : Nat) : Int) := by omega
      have hq3 : q / 256 ≤ q := Nat.div_le_self _ _
      have HV6 : Hid (wrap64 ((q / 256 : Nat) : Int) = ((q / 256 : Nat) : Int)) := by show _ = _; unfold wrap64; omega
      have hq2 : q % 256 < 256 := Nat.mod_lt _ (by omega)
      have v4 : IntKind.u8.wrap (q : Int) = ((q % 256 : Nat) : Int) := by rw [IntKind.wrap_u8]; omega
      generalize q % 256 = r at *
      generalize q / 256 = q' at *
      have v5 : IntKind.u8.wrap (r : Int) = (r : Int) := by rw [IntKind.wrap_u8]; omega
      generalize hcv : (if k - 1 - (k - 1 - j) < j then ((inB v k (k - 1 - j)).toNat : Int) else 0) = oldv at hc1
      clear hcv
      go_wp2
      go_roundw
      case rel => exact ⟨j + 1, by omega, by congr 1; omega, by rw [HQ.out], HK.out, HR.out.2.setCell (Nat.le_refl _) _⟩
      case measure => simp [intOf]; omega
    · have e : j = k := by omega
      subst e
      have e1 : (j : Int) - 1 - (j : Int) = -1 := by omega
      rw [e1]
      clear e1
      have hcv := HCV.out wr (fun i hi => by
        have := HR.out.1.cell (i := i) hi
        rw [if_pos (by omega)] at this
        simpa using this)
      rw [HS.out] at hcv
      generalize v / 256 ^ j = q0 at *
      clear HCV
      go_wp2
      go_ret
      exact ⟨rfl, HR.out.2⟩

set_option maxHeartbeats 1000000 in
theorem in_any (v k : Nat) (w : World) (hk : k ≤ 8) (hv : v < 4294967296) :
    Calls Tryz.prog 105 #[.int .i64 v, .int .i64 k] w fun e w' => e = .returned (.string (bs (inT v k))) ∧ Below w.heap.size w w' := by
  have hmk := run_make_row' (P := Tryz.prog) 61 5 (.int .u8 0) 1 Tryz.underlying61 infoByte rfl .i64 .i64 k (by omega) (by omega)
  have w2 : IntKind.i64.wrap ((k : Int) - 1) = (k : Int) - 1 := by rw [IntKind.wrap_i64]; omega
  have HS := Hid.mk' (strOf_in v k)
  have HCV := Hid.mk' (fun (u : World) h => run_rowString (P := Tryz.prog) u 61 9 5 w.heap.size 0 k k (inB v k) Tryz.underlying61 Tryz.underlying5 Tryz.underlying9 h)
  go_enter Tryz.func105, Tryz.ntmps105
  go_wp2
  clear hmk w2
  go_loopw [0, 6] (fun vv iv wr => ∃ j : Nat, j ≤ k ∧ iv = .int .i64 ((k : Int) - 1 - j) ∧ vv = .int .i64 ((v / 256 ^ j : Nat) : Int) ∧ Hid (wr.rowIs w.heap.size 5 k (fun i => .int .u8 (if k - 1 - i < j then ((inB v k i).toNat : Int) else 0)) ∧ Below w.heap.size w wr)) (fun _ iv _ => (intOf iv + 1).toNat)
  case atStart => exact ⟨0, by omega, by simp, by simp, (World.rowIs_made w (.int .u8 0) k 5).congr fun i _ => by rw [if_neg (by omega)], (Below.refl _ _).alloc (Nat.le_refl _) _⟩
  case round =>
    obtain ⟨j, hj, rfl, rfl, HR⟩ := hrel
    by_cases hlt : j < k
    · have hc1 := HR.out.1.cell (i := k - 1 - j) (by omega)
      have hf1 := HR.out.1.frozen (k - 1 - j)
      have hq : v / 256 ^ j ≤ v := Nat.div_le_self _ _
      have HQ : Hid (v / 256 ^ (j + 1) = v / 256 ^ j / 256) := by show _ = _; rw [Nat.pow_succ, Nat.div_div_eq_div_mul]
      have HK := Hid.mk' (in_step (w := w) HR.out.1 hlt)
      generalize v / 256 ^ j = q at *
      have t1 : ((k : Int) - 1 - (j : Int)).toNat = k - 1 - j := by omega
      have t2 : decide (0 ≤ (k : Int) - 1 - (j : Int)) = true := decide_eq_true (by omega)
      have l1 : 0 ≤ (k : Int) - 1 - (j : Int) := by omega
      have l2 : (k : Int) - 1 - (j : Int) < (k : Int) := by omega
      have v2 : IntKind.i64.wrap ((k : Int) - 1 - (j : Int) - 1) = (k : Int) - 1 - (j : Int) - 1 := by rw [IntKind.wrap_i64]; omega
      have m1 : ((q : Int)).tmod 256 = ((q % 256 : Nat) : Int) := by rw [Int.tmod_eq_emod_of_nonneg (by omega)]; omega
      have m2 : ((q : Int)).tdiv 256 = ((q / 256 : Nat) : Int) := by rw [Int.tdiv_eq_ediv_of_nonneg (by omega)]; omega
      have m3 : ((q : Int)) / 256 = ((q / 256 : Nat) : Int) := by omega
      have hq3 : q / 256 ≤ q := Nat.div_le_self _ _
      have HV6 : Hid (wrap64 ((q / 256 : Nat) : Int) = ((q / 256 : Nat) : Int)) := by show _ = _; unfold wrap64; omega
      have hq2 : q % 256 < 256 := Nat.mod_lt _ (by omega)
      have v4 : IntKind.u8.wrap (q : Int) = ((q % 256 : Nat) : Int) := by rw [IntKind.wrap_u8]; omega
      generalize q % 256 = r at *
      generalize q / 256 = q' at *
      have v5 : IntKind.u8.wrap (r : Int) = (r : Int) := by rw [IntKind.wrap_u8]; omega
      generalize hcv : (if k - 1 - (k - 1 - j) < j then ((inB v k (k - 1 - j)).toNat : Int) else 0) = oldv at hc1
      clear hcv
      go_wp2
      go_roundw
      case rel => exact ⟨j + 1, by omega, by congr 1; omega, by rw [HQ.out], HK.out, HR.out.2.setCell (Nat.le_refl _) _⟩
      case measure => simp [intOf]; omega
    · have e : j = k := by omega
      subst e
      have e1 : (j : Int) - 1 - (j : Int) = -1 := by omega
      rw [e1]
      clear e1
      have hcv := HCV.out wr (fun i hi => by
        have := HR.out.1.cell (i := i) hi
        rw [if_pos (by omega)] at this
        simpa using this)
      rw [HS.out] at hcv
      generalize v / 256 ^ j = q0 at *
      clear HCV
      go_wp2
      go_ret
      exact ⟨rfl, HR.out.2⟩
end Go.Proofs.YtlncjgnomhpjnaaGreatDoor

/-
  The seals: sums.SealByEight, sums.SealBySixteen.
-/
namespace Go.Proofs.YtlncjgnomhpjnaaGreatDoor
open Go.RowKit Go.Deep
set_option linter.unusedVariables false

theorem crc_lt (k D : Nat) (l : List UInt8) : crc k D l < 2 ^ k := bitsNum_lt _ _
theorem bs_list (T : List UInt8) : (bs T).data.toList = T := by simp [bs]
theorem eight_bs (T : List UInt8) (w : World) (hs : T.length ≤ 2097152) :
    Calls Tryz.prog 147 #[.string (bs T)] w fun e w' => e = .returned (.int .i64 (crc 8 263 T)) ∧ w' = w := by
  have := eight_any (bs T) w (by rw [bs_size]; exact hs)
  rwa [bs_list] at this
theorem sixteen_bs (T : List UInt8) (w : World) (hs : T.length ≤ 2097152) :
    Calls Tryz.prog 106 #[.string (bs T)] w fun e w' => e = .returned (.int .i64 (crc 16 98309 T)) ∧ w' = w := by
  have := sixteen_any (bs T) w (by rw [bs_size]; exact hs)
  rwa [bs_list] at this
theorem ref8_bs (T : List UInt8) (w : World) (hs : T.length ≤ 2097152) :
    Calls Tryz.prog 112 #[.string (bs T)] w fun e w' => e = .returned (.int .i64 (crc 8 263 T)) ∧ Below w.heap.size w w' := by
  have := ref8_any (bs T) w (by rw [bs_size]; exact hs)
  rw [bs_list] at this
  exact this.mono fun e w' h => ⟨h.1, h.2.1⟩
theorem ref16_bs (T : List UInt8) (w : World) (hs : T.length ≤ 2097152) :
    Calls Tryz.prog 113 #[.string (bs T)] w fun e w' => e = .returned (.int .i64 (crc 16 98309 T)) ∧ Below w.heap.size w w' := by
  have := ref16_any (bs T) w (by rw [bs_size]; exact hs)
  rw [bs_list] at this
  exact this.mono fun e w' h => ⟨h.1, h.2.1⟩

set_option maxHeartbeats 400000 in
theorem seal8_any (T : List UInt8) (w : World) (hs : T.length ≤ 1048576) :
    Calls Tryz.prog 107 #[.string (bs T)] w fun e w' => e = .returned (.string (bs (seal8 T))) ∧ Below w.heap.size w w' := by
  have hc : crc 8 263 T < 256 := crc_lt 8 263 T
  have HE := Hid.mk' (fun u => eight_bs T u (by omega))
  have HIN := Hid.mk' (fun u => in_any (crc 8 263 T) 1 u (by omega) (by omega))
  have HS : Hid (bs T ++ bs (inT (crc 8 263 T) 1) = bs (seal8 T)) := bs_append _ _
  have hz1 : (bs T).size ≤ 1048576 := by rw [bs_size]; exact hs
  have hz2 : (bs (inT (crc 8 263 T) 1)).size ≤ 1 := by rw [bs_size, inT_length]; omega
  generalize crc 8 263 T = C at *
  rw [← HS.out]
  generalize bs (inT C 1) = X at *
  generalize bs T = S at *
  clear HS
  go_enter Tryz.func107, Tryz.ntmps107
  go_wp2_with (first
    | (go_at_call 147; refine (HE.out _).mono ?_; rintro e w1 ⟨rfl, hw⟩; subst w1; clear HE)
    | (go_at_call 105; refine (HIN.out _).mono ?_; rintro e w2 ⟨rfl, hb2⟩; have HB2 := Hid.mk' hb2; clear hb2 HIN))
  go_ret
  exact ⟨rfl, HB2.out⟩

set_option maxHeartbeats 400000 in
theorem seal16_any (T : List UInt8) (w : World) (hs : T.length ≤ 1048576) :
    Calls Tryz.prog 66 #[.string (bs T)] w fun e w' => e = .returned (.string (bs (seal16 T))) ∧ Below w.heap.size w w' := by
  have hc : crc 16 98309 T < 65536 := crc_lt 16 98309 T
  have HE := Hid.mk' (fun u => sixteen_bs T u (by omega))
  have HIN := Hid.mk' (fun u => in_any (crc 16 98309 T) 2 u (by omega) (by omega))
  have HS : Hid (bs T ++ bs (inT (crc 16 98309 T) 2) = bs (seal16 T)) := bs_append _ _
  have hz1 : (bs T).size ≤ 1048576 := by rw [bs_size]; exact hs
  have hz2 : (bs (inT (crc 16 98309 T) 2)).size ≤ 2 := by rw [bs_size, inT_length]; omega
  generalize crc 16 98309 T = C at *
  rw [← HS.out]
  generalize bs (inT C 2) = X at *
  generalize bs T = S at *
  clear HS
  go_enter Tryz.func66, Tryz.ntmps66
  go_wp2_with (first
    | (go_at_call 106; refine (HE.out _).mono ?_; rintro e w1 ⟨rfl, hw⟩; subst w1; clear HE)
    | (go_at_call 105; refine (HIN.out _).mono ?_; rintro e w2 ⟨rfl, hb2⟩; have HB2 := Hid.mk' hb2; clear hb2 HIN))
  go_ret
  exact ⟨rfl, HB2.out⟩
end Go.Proofs.YtlncjgnomhpjnaaGreatDoor

