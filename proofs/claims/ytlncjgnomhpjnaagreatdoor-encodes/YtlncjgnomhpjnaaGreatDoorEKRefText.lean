import Derived.Test.YtlncjgnomhpjnaaGreatDoorEKCodeBest
/-
  The document's packer: texts of bits.
-/
namespace Go.Proofs.YtlncjgnomhpjnaaGreatDoor
open Go.RowKit Go.Deep
set_option linter.unusedVariables false

/-- a text as a string -/
def bs (T : List UInt8) : ByteArray := ⟨T.toArray⟩
theorem bs_append (a b : List UInt8) : bs a ++ bs b = bs (a ++ b) := by
  apply ByteArray.ext
  simp [bs]
theorem bs_size (a : List UInt8) : (bs a).size = a.length := by simp [bs, ByteArray.size]
theorem strOf_bin (v : Int) (k : Nat) : strOf (fun i => ltr (decide (v / 2 ^ (k - 1 - i) % 2 = 1))) k = bs (binT v k) := rfl
theorem strOf_zeros (k : Nat) : strOf (fun _ => 48) k = bs (List.replicate k 48) := by
  unfold strOf bs
  congr 2
  apply List.ext_getElem
  · simp
  · intro i h1 h2; simp

theorem bit_shift (v : Int) (V j k : Nat) (hj : j < k) (hV : (V : Int) = if v < 0 then v + 2 ^ k else v) : ((V / 2 ^ j % 2 : Nat) : Int) = v / 2 ^ j % 2 := by
  have e : ((V / 2 ^ j % 2 : Nat) : Int) = (V : Int) / 2 ^ j % 2 := by simp
  rw [e, hV]
  split
  · obtain ⟨d, rfl⟩ : ∃ d, k = j + (d + 1) := ⟨k - j - 1, by omega⟩
    have e2 : (2 : Int) ^ (j + (d + 1)) = (2 ^ d * 2) * 2 ^ j := by rw [Int.pow_add, Int.pow_succ, Int.mul_comm]
    rw [e2, Int.add_mul_ediv_right _ _ (Int.ne_of_gt (ip2_pos j)), Int.add_mul_emod_self_right]
  · rfl

set_option maxHeartbeats 1000000 in
theorem binary_any (v : Int) (k : Nat) (w : World) (hk : k ≤ 16) (hv : v < 4294967296) (hv0 : -(2 ^ k) ≤ v) :
    Calls Tryz.prog 172 #[.int .i64 v, .int .i64 k] w fun e w' => e = .returned (.string (bs (binT v k))) ∧ Below w.heap.size w w' := by
  have hmk := run_make_row' (P := Tryz.prog) 61 5 (.int .u8 0) 1 Tryz.underlying61 infoByte rfl .i64 .i64 k (by omega) (by omega)
  have hp : (1 : Int) ≤ 2 ^ k := by have := ip2_pos k; omega
  have hp2 : (2 : Int) ^ k ≤ 65536 := by rw [← ip2]; exact Int.ofNat_le.2 (Nat.le_trans (Nat.pow_le_pow_right (by omega) hk) (by decide))
  have hmn : min k 64 = k := by omega
  obtain ⟨V, hV⟩ : ∃ V : Nat, (V : Int) = if v < 0 then v + 2 ^ k else v := ⟨(if v < 0 then v + 2 ^ k else v).toNat, by split <;> omega⟩
  have HBIT := Hid.mk' (fun j (hj : j < k) => bit_shift v V j k hj hV)
  have hVb : V < 4294967296 := by split at hV <;> omega
  have w1 : v < 0 → IntKind.i64.wrap (v + 2 ^ k) = (V : Int) := fun h => by rw [if_pos h] at hV; rw [← hV, IntKind.wrap_i64]; omega
  have w1b : IntKind.i64.wrap ((2 : Int) ^ k) = 2 ^ k := by rw [IntKind.wrap_i64]; omega
  have w2 : IntKind.i64.wrap ((k : Int) - 1) = (k : Int) - 1 := by rw [IntKind.wrap_i64]; omega
  have HS := Hid.mk' (strOf_bin v k)
  have HCV := Hid.mk' (fun (u : World) h => run_rowString (P := Tryz.prog) u 61 9 5 w.heap.size 0 k k (fun i => ltr (decide (v / 2 ^ (k - 1 - i) % 2 = 1))) Tryz.underlying61 Tryz.underlying5 Tryz.underlying9 h)
  have key : ∀ (wr : World) (j : Nat), wr.rowIs w.heap.size 5 k (fun i => .int .u8 (if k - 1 - i < j then ((ltr (decide (v / 2 ^ (k - 1 - i) % 2 = 1))).toNat : Int) else 0)) → j < k →
      (wr.setCell ⟨w.heap.size, k - 1 - j, none⟩ (.int .u8 ((48 + V / 2 ^ j % 2 : Nat) : Int))).rowIs w.heap.size 5 k (fun i => .int .u8 (if k - 1 - i < j + 1 then ((ltr (decide (v / 2 ^ (k - 1 - i) % 2 = 1))).toNat : Int) else 0)) := fun wr j h hj => by
    refine (h.set (k - 1 - j) _).congr fun i hi => ?_
    by_cases e : i = k - 1 - j
    · subst e
      rw [if_pos rfl, if_pos (by omega), show k - 1 - (k - 1 - j) = j by omega, ltr_nat, ← HBIT.out j hj]
      congr 1
      have : V / 2 ^ j % 2 < 2 := Nat.mod_lt _ (by omega)
      have hd : decide (((V / 2 ^ j % 2 : Nat) : Int) = 1) = decide (V / 2 ^ j % 2 = 1) := by congr 1; exact propext (by omega)
      rw [hd]
      rcases Nat.lt_or_ge (V / 2 ^ j % 2) 1 with h0 | h1
      · have : V / 2 ^ j % 2 = 0 := by omega
        rw [this]; rfl
      · have : V / 2 ^ j % 2 = 1 := by omega
        rw [this]; rfl
    · rw [if_neg e]
      by_cases e2 : k - 1 - i < j
      · rw [if_pos e2, if_pos (by omega)]
      · rw [if_neg e2, if_neg (by omega)]
  have KEY := Hid.mk' key
  clear key
  by_cases hneg : v < 0
  · have t0 : decide (v < 0) = true := decide_eq_true hneg
    have w1' := w1 hneg
    have HVV := Hid.mk' (show V = V from rfl)
    clear w1 hV
    go_enter Tryz.func172, Tryz.ntmps172
    go_wp2
    clear hmk hp hp2 w1b hmn hv hv0
    go_loopw [0, 6] (fun vv iv wr => ∃ j : Nat, j ≤ k ∧ iv = .int .i64 ((k : Int) - 1 - j) ∧ vv = .int .i64 ((V / 2 ^ j : Nat) : Int) ∧ Hid (wr.rowIs w.heap.size 5 k (fun i => .int .u8 (if k - 1 - i < j then ((ltr (decide (v / 2 ^ (k - 1 - i) % 2 = 1))).toNat : Int) else 0)) ∧ Below w.heap.size w wr)) (fun _ iv _ => (intOf iv + 1).toNat)
    case atStart => exact ⟨0, by omega, by simp, by rw [show ((V / 2 ^ 0 : Nat) : Int) = (V : Int) by simp]; try rw [HVV.out], (World.rowIs_made w (.int .u8 0) k 5).congr fun i _ => by rw [if_neg (by omega)], (Below.refl _ _).alloc (Nat.le_refl _) _⟩
    case round =>
      obtain ⟨j, hj, rfl, rfl, HR⟩ := hrel
      by_cases hlt : j < k
      · have hc1 := HR.out.1.cell (i := k - 1 - j) (by omega)
        have hf1 := HR.out.1.frozen (k - 1 - j)
        have hq : V / 2 ^ j ≤ V := Nat.div_le_self _ _
        have HQ : Hid (V / 2 ^ (j + 1) = V / 2 ^ j / 2) := by show _ = _; rw [Nat.pow_succ, Nat.div_div_eq_div_mul]
        have HK := Hid.mk' (KEY.out wr j HR.out.1 hlt)
        generalize V / 2 ^ j = q at *
        have t1 : ((k : Int) - 1 - (j : Int)).toNat = k - 1 - j := by omega
        have t2 : decide (0 ≤ (k : Int) - 1 - (j : Int)) = true := decide_eq_true (by omega)
        have l1 : 0 ≤ (k : Int) - 1 - (j : Int) := by omega
        have l2 : (k : Int) - 1 - (j : Int) < (k : Int) := by omega
        have v2 : IntKind.i64.wrap ((k : Int) - 1 - (j : Int) - 1) = (k : Int) - 1 - (j : Int) - 1 := by rw [IntKind.wrap_i64]; omega
        have m1 : ((q : Int)).tmod 2 = ((q % 2 : Nat) : Int) := by rw [Int.tmod_eq_emod_of_nonneg (by omega)]; omega
        have m2 : ((q : Int)).tdiv 2 = ((q / 2 : Nat) : Int) := by rw [Int.tdiv_eq_ediv_of_nonneg (by omega)]; omega
        have hq3 : q / 2 ≤ q := Nat.div_le_self _ _
        have HV6 : Hid (wrap64 ((q / 2 : Nat) : Int) = ((q / 2 : Nat) : Int)) := by show _ = _; unfold wrap64; omega
        have hq2 : q % 2 < 2 := Nat.mod_lt _ (by omega)
        generalize q % 2 = r at *
        generalize q / 2 = q' at *
        have v3 : IntKind.i64.wrap (48 + (r : Int)) = 48 + (r : Int) := by rw [IntKind.wrap_i64]; omega
        have v4 : IntKind.u8.wrap (48 + (r : Int)) = ((48 + r : Nat) : Int) := by rw [IntKind.wrap_u8]; omega
        generalize hcv : (if k - 1 - (k - 1 - j) < j then ((ltr (decide (v / 2 ^ (k - 1 - (k - 1 - j)) % 2 = 1))).toNat : Int) else 0) = oldv at hc1
        clear hcv HBIT
        go_wp2
        go_roundw
        case rel => exact ⟨j + 1, by omega, by congr 1; omega, by rw [HQ.out], HK.out, HR.out.2.setCell (Nat.le_refl _) _⟩
        case measure => simp [intOf]; omega
      · have e : j = k := by omega
        subst e
        have e1 : (j : Int) - 1 - (j : Int) = -1 := by omega
        rw [e1]
        clear e1
        have hcv := HCV.out wr (fun i hi => by
          have := HR.out.1.cell (i := i) hi
          rw [if_pos (by omega)] at this
          simpa using this)
        rw [HS.out] at hcv
        generalize V / 2 ^ j = q0 at *
        clear HBIT KEY HCV
        go_wp2
        go_ret
        exact ⟨rfl, HR.out.2⟩
  · have t0 : decide (v < 0) = false := decide_eq_false hneg
    rw [if_neg hneg] at hV
    have HVV := Hid.mk' hV
    clear w1 hV
    go_enter Tryz.func172, Tryz.ntmps172
    go_wp2
    clear hmk hp hp2 w1b hmn hv hv0
    go_loopw [0, 6] (fun vv iv wr => ∃ j : Nat, j ≤ k ∧ iv = .int .i64 ((k : Int) - 1 - j) ∧ vv = .int .i64 ((V / 2 ^ j : Nat) : Int) ∧ Hid (wr.rowIs w.heap.size 5 k (fun i => .int .u8 (if k - 1 - i < j then ((ltr (decide (v / 2 ^ (k - 1 - i) % 2 = 1))).toNat : Int) else 0)) ∧ Below w.heap.size w wr)) (fun _ iv _ => (intOf iv + 1).toNat)
    case atStart => exact ⟨0, by omega, by simp, by rw [show ((V / 2 ^ 0 : Nat) : Int) = (V : Int) by simp]; try rw [HVV.out], (World.rowIs_made w (.int .u8 0) k 5).congr fun i _ => by rw [if_neg (by omega)], (Below.refl _ _).alloc (Nat.le_refl _) _⟩
    case round =>
      obtain ⟨j, hj, rfl, rfl, HR⟩ := hrel
      by_cases hlt : j < k
      · have hc1 := HR.out.1.cell (i := k - 1 - j) (by omega)
        have hf1 := HR.out.1.frozen (k - 1 - j)
        have hq : V / 2 ^ j ≤ V := Nat.div_le_self _ _
        have HQ : Hid (V / 2 ^ (j + 1) = V / 2 ^ j / 2) := by show _ = _; rw [Nat.pow_succ, Nat.div_div_eq_div_mul]
        have HK := Hid.mk' (KEY.out wr j HR.out.1 hlt)
        generalize V / 2 ^ j = q at *
        have t1 : ((k : Int) - 1 - (j : Int)).toNat = k - 1 - j := by omega
        have t2 : decide (0 ≤ (k : Int) - 1 - (j : Int)) = true := decide_eq_true (by omega)
        have l1 : 0 ≤ (k : Int) - 1 - (j : Int) := by omega
        have l2 : (k : Int) - 1 - (j : Int) < (k : Int) := by omega
        have v2 : IntKind.i64.wrap ((k : Int) - 1 - (j : Int) - 1) = (k : Int) - 1 - (j : Int) - 1 := by rw [IntKind.wrap_i64]; omega
        have m1 : ((q : Int)).tmod 2 = ((q % 2 : Nat) : Int) := by rw [Int.tmod_eq_emod_of_nonneg (by omega)]; omega
        have m2 : ((q : Int)).tdiv 2 = ((q / 2 : Nat) : Int) := by rw [Int.tdiv_eq_ediv_of_nonneg (by omega)]; omega
        have hq3 : q / 2 ≤ q := Nat.div_le_self _ _
        have HV6 : Hid (wrap64 ((q / 2 : Nat) : Int) = ((q / 2 : Nat) : Int)) := by show _ = _; unfold wrap64; omega
        have hq2 : q % 2 < 2 := Nat.mod_lt _ (by omega)
        generalize q % 2 = r at *
        generalize q / 2 = q' at *
        have v3 : IntKind.i64.wrap (48 + (r : Int)) = 48 + (r : Int) := by rw [IntKind.wrap_i64]; omega
        have v4 : IntKind.u8.wrap (48 + (r : Int)) = ((48 + r : Nat) : Int) := by rw [IntKind.wrap_u8]; omega
        generalize hcv : (if k - 1 - (k - 1 - j) < j then ((ltr (decide (v / 2 ^ (k - 1 - (k - 1 - j)) % 2 = 1))).toNat : Int) else 0) = oldv at hc1
        clear hcv HBIT
        go_wp2
        go_roundw
        case rel => exact ⟨j + 1, by omega, by congr 1; omega, by rw [HQ.out], HK.out, HR.out.2.setCell (Nat.le_refl _) _⟩
        case measure => simp [intOf]; omega
      · have e : j = k := by omega
        subst e
        have e1 : (j : Int) - 1 - (j : Int) = -1 := by omega
        rw [e1]
        clear e1
        have hcv := HCV.out wr (fun i hi => by
          have := HR.out.1.cell (i := i) hi
          rw [if_pos (by omega)] at this
          simpa using this)
        rw [HS.out] at hcv
        generalize V / 2 ^ j = q0 at *
        clear HBIT KEY HCV
        go_wp2
        go_ret
        exact ⟨rfl, HR.out.2⟩

set_option maxHeartbeats 1000000 in
theorem zeros_any (k : Nat) (w : World) (hk : k ≤ 3000000) :
    Calls Tryz.prog 160 #[.int .i64 k] w fun e w' => e = .returned (.string (bs (List.replicate k 48))) ∧ Below w.heap.size w w' := by
  have hmk := run_make_row' (P := Tryz.prog) 61 5 (.int .u8 0) 1 Tryz.underlying61 infoByte rfl .i64 .i64 k (by omega) (by omega)
  have HS := Hid.mk' (strOf_zeros k)
  have HCV := Hid.mk' (fun (u : World) h => run_rowString (P := Tryz.prog) u 61 9 5 w.heap.size 0 k k (fun _ => 48) Tryz.underlying61 Tryz.underlying5 Tryz.underlying9 h)
  go_enter Tryz.func160, Tryz.ntmps160
  go_wp2
  clear hmk
  go_loopw [4] (fun iv wr => ∃ j : Nat, j ≤ k ∧ iv = .int .i64 j ∧ Hid (wr.rowIs w.heap.size 5 k (fun i => .int .u8 (if i < j then 48 else 0)) ∧ Below w.heap.size w wr)) (fun iv _ => k - (intOf iv).toNat)
  case atStart => exact ⟨0, by omega, rfl, (World.rowIs_made w (.int .u8 0) k 5).congr fun i _ => by rw [if_neg (by omega)], (Below.refl _ _).alloc (Nat.le_refl _) _⟩
  case round =>
    obtain ⟨j, hj, rfl, HR⟩ := hrel
    by_cases hlt : j < k
    · have hc1 := HR.out.1.cell (i := j) hlt
      have hf1 := HR.out.1.frozen j
      generalize hcv : (if j < j then (48 : Int) else 0) = oldv at hc1
      clear hcv
      go_wp2
      go_roundw
      case rel => exact ⟨j + 1, by omega, by go_num, (HR.out.1.set j _).congr (fun i _ => by
        by_cases e : i = j
        · subst e; rw [if_pos rfl, if_pos (by omega)]
        · rw [if_neg e]
          by_cases e2 : i < j
          · rw [if_pos e2, if_pos (by omega)]
          · rw [if_neg e2, if_neg (by omega)]), HR.out.2.setCell (Nat.le_refl _) _⟩
      case measure => simp [intOf]; omega
    · have e : j = k := by omega
      subst e
      have hcv := HCV.out wr (fun i hi => by
        have := HR.out.1.cell (i := i) hi
        rw [if_pos hi] at this
        simpa using this)
      rw [HS.out] at hcv
      go_wp2
      go_ret
      exact ⟨rfl, HR.out.2⟩

theorem rfold_any (v : Int) (w : World) (h : -1000000 ≤ v ∧ v ≤ 1000000) :
    Calls Tryz.prog 232 #[.int .i64 v] w fun e w' => e = .returned (.int .i64 (foldN v)) ∧ w' = w := by
  have hf := foldN_int v
  by_cases h0 : 0 ≤ v
  · rw [if_pos h0] at hf
    have HF := Hid.mk' hf
    clear hf
    go_enter Tryz.func232, Tryz.ntmps232
    go_wp2
    go_ret
    exact ⟨ret_int (by rw [HF.out]), rfl⟩
  · rw [if_neg h0] at hf
    have HF := Hid.mk' hf
    clear hf
    go_enter Tryz.func232, Tryz.ntmps232
    go_wp2
    go_ret
    exact ⟨ret_int (by rw [HF.out]), rfl⟩

theorem binT_mod (f k : Nat) : binT ((f % 2 ^ k : Nat) : Int) k = binT (f : Int) k := by
  unfold binT
  apply List.map_congr_left
  intro i hi
  rw [List.mem_range] at hi
  congr 1
  have e : ((f % 2 ^ k : Nat) : Int) / 2 ^ (k - 1 - i) % 2 = (f : Int) / 2 ^ (k - 1 - i) % 2 := by
    have h1 : ∀ a : Nat, (a : Int) / 2 ^ (k - 1 - i) % 2 = ((a / 2 ^ (k - 1 - i) % 2 : Nat) : Int) := fun a => by simp
    rw [h1, h1]
    congr 1
    have hk : 2 ^ k = 2 ^ (k - 1 - i) * (2 * 2 ^ i) := by rw [← Nat.pow_succ', ← Nat.pow_add]; congr 1; omega
    rw [hk, Nat.mod_mul_right_div_self, Nat.mod_mul_right_mod]
  rw [e]

set_option maxHeartbeats 1000000 in
theorem coded_any (A : Option Addr) (n c k lo : Nat) (R : Nat → Int) (w : World) (hn : n ≤ 32) (hk : k ≤ 14) (hR : ∀ i, i < n → -1000000 ≤ R (lo + i) ∧ R (lo + i) ≤ 1000000) (hI : IntsAt w A n (fun i => R (lo + i))) (hlow : ∀ y, A = some y → 0 < n → y.block < w.heap.size) :
    Calls Tryz.prog 222 #[.slice A n c, .int .i64 k] w fun e w' => e = .returned (.string (bs (codedT (fun i => foldN (R i)) k lo n))) ∧ Below w.heap.size w w' := by
  have HI := Hid.mk' (fun u (h : Below w.heap.size w u) => hI.belowB h hlow)
  have HR := Hid.mk' hR
  have hmn : min k 64 = k := by omega
  have hp2 : 2 ^ k ≤ 16384 := Nat.le_trans (Nat.pow_le_pow_right (by omega) hk) (by decide)
  have hp1 : 1 ≤ 2 ^ k := Nat.two_pow_pos k
  clear hI hlow hR
  go_enter Tryz.func222, Tryz.ntmps222
  go_wp2
  go_loopw [5, 6] (fun sv iv wr => ∃ j : Nat, j ≤ n ∧ iv = .int .i64 j ∧ sv = .string (bs (codedT (fun i => foldN (R i)) k lo j)) ∧ Hid (Below w.heap.size w wr)) (fun _ iv _ => n - (intOf iv).toNat)
  case atStart => exact ⟨0, by omega, rfl, rfl, Below.refl _ _⟩
  case round =>
    obtain ⟨j, hj, rfl, rfl, HB⟩ := hrel
    by_cases hlt : j < n
    · obtain ⟨bb, off, hx, hc⟩ := (HI.out wr HB.out).open (by omega)
      cases hx
      have hcj := hc j hlt
      clear hc
      have HF := Hid.mk' (fun u => rfold_any (R (lo + j)) u (HR.out j hlt))
      have hfl := foldN_le (R (lo + j)) 1000000 (HR.out j hlt)
      have HCD : Hid (codedT (fun i => foldN (R i)) k lo (j + 1) = codedT (fun i => foldN (R i)) k lo j ++ (List.replicate (foldN (R (lo + j)) / 2 ^ k) 48 ++ [49] ++ binT (foldN (R (lo + j))) k)) := rfl
      have hcl : (codedT (fun i => foldN (R i)) k lo j).length ≤ 100000000 := by
        rw [codedT_length]
        have h1 := plen_le (fun i => foldN (R i)) k lo 2000000 hk j (fun i hi => foldN_le _ 1000000 (HR.out i (by omega)))
        have h2 : j * (2000000 + 15) ≤ 32 * (2000000 + 15) := Nat.mul_le_mul_right _ (by omega)
        omega
      have hss : (bs (codedT (fun i => foldN (R i)) k lo j)).size ≤ 100000000 := by rw [bs_size]; exact hcl
      generalize foldN (R (lo + j)) = f at *
      have hq : f / 2 ^ k ≤ f := Nat.div_le_self _ _
      have hqi : (f : Int) / 2 ^ k = ((f / 2 ^ k : Nat) : Int) := by simp
      have HZ := Hid.mk' (fun u => zeros_any (f / 2 ^ k) u (by omega))
      have HBN := Hid.mk' (fun u => binary_any ((f % 2 ^ k : Nat) : Int) k u (by omega) (by have := Nat.mod_lt f hp1; omega) (by have := ip2_pos k; omega))
      rw [binT_mod] at HBN
      have hmd : (f : Int).tmod ((2 ^ k : Nat) : Int) = ((f % 2 ^ k : Nat) : Int) := by rw [Int.tmod_eq_emod_of_nonneg (by omega)]; simp
      have hzs : (bs (List.replicate (f / 2 ^ k) 48)).size ≤ 3000000 := by rw [bs_size]; simp; omega
      have hbs : (bs (binT (f : Int) k)).size ≤ 14 := by rw [bs_size, binT_length]; exact hk
      have vP : IntKind.i64.wrap ((2 : Int) ^ k) = ((2 ^ k : Nat) : Int) := by rw [← ip2, IntKind.wrap_i64]; omega
      have nP : ¬ ((2 ^ k : Nat) : Int) = 0 := by omega
      have hsz := HB.out.size
      generalize f / 2 ^ k = q at *
      generalize f % 2 ^ k = r at *
      generalize 2 ^ k = P at *
      generalize hS : bs (codedT (fun i => foldN (R i)) k lo j) = S at *
      generalize hZs : bs (List.replicate q 48) = Z at *
      generalize hBs : bs (binT (f : Int) k) = Bn at *
      have HSTR : Hid (S ++ Z ++ ⟨#[49]⟩ ++ Bn = bs (codedT (fun i => foldN (R i)) k lo (j + 1))) := by
        show _ = _
        rw [HCD.out, ← hS, ← hZs, ← hBs, show (⟨#[49]⟩ : ByteArray) = bs [49] from rfl, bs_append, bs_append, bs_append]
        simp [List.append_assoc]
      clear hS hZs hBs HCD
      go_wp2_with (go_at_call 232; refine (HF.out _).mono ?_; rintro e w1 ⟨rfl, hw⟩; subst w1; clear HF)
      go_region_with (first
        | (go_at_call 160; refine (HZ.out _).mono ?_; rintro e w1 ⟨rfl, hb1⟩; have HB1 := Hid.mk' (HB.out.drew.trans (hb1.mono hsz)); have hsz1 := HB1.out.size; clear hb1 HZ)
        | (go_at_call 172; refine (HBN.out _).mono ?_; rintro e w2 ⟨rfl, hb2⟩; have HB2 := Hid.mk' (HB1.out.trans (hb2.mono hsz1)); clear hb2 HBN))
      all_goals go_wp2
      all_goals exact ⟨⟨j + 1, by omega, by go_num, by rw [HSTR.out], HB2.out⟩, by simp [intOf]; omega⟩
    · have e : j = n := by omega
      subst e
      go_wp2
      go_ret
      exact ⟨rfl, HB.out⟩
end Go.Proofs.YtlncjgnomhpjnaaGreatDoor

