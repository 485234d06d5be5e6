import Derived.Test.YtlncjgnomhpjnaaGreatDoorPR8
import Derived.Deep.RegionHeld3
import Derived.Deep.DeepCutAuto
/-
  The bits of bytes, as the document spells them.
-/
namespace Go.Proofs.YtlncjgnomhpjnaaGreatDoor
open Go.RowKit
theorem info5 : (Tryz.prog.info? 5).map (fun i => (i.zero, i.size, i.bytes)) = some (some (.int .u8 0), 1, 1) := by kernel_rfl
def lv (b : Bool) : Int := if b then 49 else 48
theorem lv_lo (b : Bool) : 48 ≤ lv b := by cases b <;> decide
theorem lv_hi (b : Bool) : lv b ≤ 49 := by cases b <;> decide
theorem lv_ltr (b : Bool) : lv b = ((ltr b).toNat : Int) := by cases b <;> rfl
theorem lv_not (b : Bool) : 97 - lv b = lv (!b) := by cases b <;> rfl
/-- the letters that are laid already -/
def laidTo (m : Nat → Bool) (i j : Nat) : Int := if j < i then lv (m j) else 0
theorem laidTo_at (m : Nat → Bool) (k : Nat) : laidTo m (k + 1) k = lv (m k) := by unfold laidTo; rw [if_pos (by omega)]
theorem laidTo_other (m : Nat → Bool) (k j : Nat) (h : j ≠ k) : laidTo m (k + 1) j = laidTo m k j := by
  unfold laidTo
  by_cases e : j < k
  · rw [if_pos e, if_pos (by omega)]
  · rw [if_neg e, if_neg (by omega)]
/-- one letter more, the letter 0 laid first -/
theorem RowB.one {w : World} {b n k : Nat} {m : Nat → Bool} (h : RowB w b n (laidTo m k)) (hk : k < n) (hm : m k = true) :
    RowB ((w.setCell ⟨b, k, none⟩ (.int .u8 48)).setCell ⟨b, k, none⟩ (.int .u8 49)) b n (laidTo m (k + 1)) := by
  have h1 : RowB (w.setCell ⟨b, k, none⟩ (.int .u8 48)) b n (fun j => if j = k then 48 else laidTo m k j) :=
    h.set k 48 hk (by simp) (fun j _ hj => by simp [hj])
  refine h1.set k 49 hk (by rw [laidTo_at, hm]; rfl) (fun j _ hj => ?_)
  rw [laidTo_other _ _ _ hj]; simp [hj]
theorem RowB.nought {w : World} {b n k : Nat} {m : Nat → Bool} (h : RowB w b n (laidTo m k)) (hk : k < n) (hm : m k = false) :
    RowB (w.setCell ⟨b, k, none⟩ (.int .u8 48)) b n (laidTo m (k + 1)) :=
  h.set k 48 hk (by rw [laidTo_at, hm]; rfl) (fun j _ hj => laidTo_other _ _ _ hj)
set_option maxRecDepth 4000 in
set_option maxHeartbeats 1000000 in
theorem spelt_any (s : ByteArray) (w : World) (hs : s.size ≤ 2097152) :
    Calls Tryz.prog 126 #[.string s] w fun e w' => e = .returned (.string (strOf (fun j => ltr (msgBit s.data.toList j)) (8 * s.size))) ∧ Up w w' := by
  obtain ⟨i0, hi, hz0, hz1, hz2⟩ := info_parts info5
  have hmk : ∀ u : World, (Instr.makeSlice 61 (.int .i64 (8 * (s.size : Int))) (.int .i64 (8 * (s.size : Int)))).run Tryz.prog u =
      .ok (.slice (some ⟨u.heap.size, 0, none⟩) (8 * s.size) (8 * s.size)) (u.alloc (.cells (madeCells #[.int .u8 0] (8 * s.size)) 5)) := fun u => by
    have h := run_make (P := Tryz.prog) u 61 5 i0 (.int .u8 0) Tryz.underlying61 hi hz0 .i64 .i64 (8 * (s.size : Int)) (8 * (s.size : Int)) (by omega) (Int.le_refl _) (by rw [hz2]; omega) (by omega)
    have e : (8 * (s.size : Int)).toNat = 8 * s.size := by omega
    rw [e] at h
    simpa [hz1, Value.cells] using h
  go_enter Tryz.func126, Tryz.ntmps126
  go_wp2
  clear hmk
  go_loopw [4] (fun i wr => ∃ k : Nat, k ≤ 8 * s.size ∧ i = .int .i64 k ∧ Up w wr ∧ w.heap.size < wr.heap.size ∧ RowB wr w.heap.size (8 * s.size) (laidTo (msgBit s.data.toList) k)) (fun i _ => 8 * s.size - (intOf i).toNat)
  case atStart =>
    refine ⟨0, Nat.zero_le _, rfl, (Up.refl _).alloc _ _, by simp, ?_⟩
    exact RowB.made w _ _
  case round =>
    obtain ⟨k, hk, rfl, hup, hsz, hrow⟩ := hrel
    by_cases hlt : k < 8 * s.size
    · have hc1 : wr.cell? ⟨w.heap.size, k, none⟩ = some (.int .u8 (laidTo (msgBit s.data.toList) k k)) := hrow k hlt
      have hf1 : wr.frozen? ⟨w.heap.size, k, none⟩ = false := hup.free (Nat.le_refl _)
      have hq0 : 0 ≤ (k : Int) / 8 := by omega
      have hq1 : (k : Int) / 8 < (s.size : Int) := by omega
      have hq2 : IntKind.i64.wrap ((k : Int) / 8) = (k : Int) / 8 := by rw [IntKind.wrap_i64]; omega
      have hq3 : k / 8 < s.size := by omega
      have hq4 : s[k / 8].toNat < 256 := UInt8.toNat_lt _
      have hq5 : (1 : Int) ≤ 2 ^ (7 - k % 8) := by have : 0 < 2 ^ (7 - k % 8) := Nat.two_pow_pos _; exact_mod_cast this
      have hq6 : (2 : Int) ^ (7 - k % 8) ≤ 128 := by have : 2 ^ (7 - k % 8) ≤ 2 ^ 7 := Nat.pow_le_pow_right (by omega) (by omega); exact_mod_cast this
      have hq7 : 0 ≤ (s[k / 8].toNat : Int) / 2 ^ (7 - k % 8) := Int.ediv_nonneg (by omega) (by omega)
      have hq8 : (s[k / 8].toNat : Int) / 2 ^ (7 - k % 8) ≤ 255 := Int.le_trans (Int.ediv_le_self _ (by omega)) (by omega)
      have hbit : ((s[k / 8].toNat : Int) / 2 ^ (7 - k % 8) % 2 == 1) = msgBit s.data.toList k := by
        unfold msgBit
        rw [getD_byte s _ hq3, Nat.testBit_eq_decide_div_mod_eq, Bool.eq_iff_iff]
        simp only [beq_iff_eq, decide_eq_true_eq]
        constructor
        · intro h; exact_mod_cast h
        · intro h; exact_mod_cast h
      by_cases hb : msgBit s.data.toList k = true
      · rw [hb] at hbit
        go_wp2
        go_region
        all_goals go_wp2
        all_goals go_roundw
        case rel => exact ⟨k + 1, by omega, by go_num, ((hup.setCell (Nat.le_refl _) _).setCell (Nat.le_refl _) _).drew, by simpa using hsz, (hrow.one hlt hb).drew⟩
        case measure => simp [intOf]; omega
      · have hb' : msgBit s.data.toList k = false := by simpa using hb
        rw [hb'] at hbit
        go_wp2
        go_region
        all_goals go_wp2
        all_goals go_roundw
        case rel => exact ⟨k + 1, by omega, by go_num, (hup.setCell (Nat.le_refl _) _).drew, by simpa using hsz, (hrow.nought hlt hb').drew⟩
        case measure => simp [intOf]; omega
    · have hcv := run_rowString (P := Tryz.prog) wr 61 9 5 w.heap.size 0 (8 * s.size) (8 * s.size) (fun j => ltr (msgBit s.data.toList j)) Tryz.underlying61 Tryz.underlying5 Tryz.underlying9 (fun j hj => by
        rw [Nat.zero_add, hrow j hj]; unfold laidTo; rw [if_pos (by omega), lv_ltr])
      go_wp2
      go_ret
      exact ⟨rfl, hup⟩
end Go.Proofs.YtlncjgnomhpjnaaGreatDoor

namespace Go.Proofs.YtlncjgnomhpjnaaGreatDoor
open Go.RowKit
/-- the row behind i rounds of the division -/
def divRow (K D : Nat) (m : Nat → Bool) (i x : Nat) : Int := lv (m x ^^ acc K D m i x)
def leftBit (K D : Nat) (m : Nat → Bool) (L x : Nat) : Bool := m (L + x) ^^ acc K D m L (L + x)
/-- the row inside a round -/
def inRow (K D : Nat) (m : Nat → Bool) (i j x : Nat) : Int := lv (m x ^^ acc K D m i x ^^ (decide (i ≤ x) && decide (x < i + j) && D.testBit (K - (x - i))))
theorem inRow_zero (K D : Nat) (m : Nat → Bool) (i x : Nat) : inRow K D m i 0 x = divRow K D m i x := by
  unfold inRow divRow
  have : (decide (i ≤ x) && decide (x < i + 0)) = false := by simp
  rw [this]; simp
theorem inRow_other (K D : Nat) (m : Nat → Bool) (i j x : Nat) (h : x ≠ i + j) : inRow K D m i (j + 1) x = inRow K D m i j x := by
  unfold inRow
  have : decide (x < i + (j + 1)) = decide (x < i + j) := by rw [decide_eq_decide]; omega
  rw [this]
theorem inRow_yes (K D : Nat) (m : Nat → Bool) (i j : Nat) (h : D.testBit (K - j) = true) : inRow K D m i (j + 1) (i + j) = 97 - inRow K D m i j (i + j) := by
  unfold inRow
  have a : i + j - i = j := by omega
  rw [lv_not, a, h]
  have b : decide (i + j < i + (j + 1)) = true := decide_eq_true (by omega)
  have c : decide (i + j < i + j) = false := decide_eq_false (by omega)
  have d : decide (i ≤ i + j) = true := decide_eq_true (by omega)
  rw [b, c, d]
  cases m (i + j) <;> cases acc K D m i (i + j) <;> rfl
theorem inRow_no (K D : Nat) (m : Nat → Bool) (i j x : Nat) (h : D.testBit (K - j) = false) : inRow K D m i (j + 1) x = inRow K D m i j x := by
  by_cases e : x = i + j
  · subst e
    unfold inRow
    have a : i + j - i = j := by omega
    rw [a, h]; simp
  · exact inRow_other K D m i j x e
theorem inRow_full (K D : Nat) (m : Nat → Bool) (i x : Nat) (h : (m i ^^ acc K D m i i) = true) : inRow K D m i (K + 1) x = divRow K D m (i + 1) x := by
  unfold inRow divRow
  simp only [acc, h]
  have : decide (x < i + (K + 1)) = decide (x ≤ i + K) := by rw [decide_eq_decide]; omega
  rw [this]; simp
theorem divRow_no (K D : Nat) (m : Nat → Bool) (i x : Nat) (h : (m i ^^ acc K D m i i) = false) : divRow K D m (i + 1) x = divRow K D m i x := by
  unfold divRow
  simp only [acc, h]; simp
theorem divRow_zero (K D : Nat) (m : Nat → Bool) (x n : Nat) (h : x < n) : divRow K D m 0 x = laidTo m n x := by
  unfold divRow laidTo
  rw [if_pos h]; simp [acc]
theorem RowB.congr {w : World} {b n : Nat} {f g : Nat → Int} (h : RowB w b n f) (e : ∀ j, j < n → g j = f j) : RowB w b n g :=
  fun j hj => by rw [h j hj, e j hj]
theorem RowB.put {w : World} {b n k : Nat} {m : Nat → Bool} {v : Int} (h : RowB w b n (laidTo m k)) (hk : k < n) (hv : v = lv (m k)) :
    RowB ((w.setCell ⟨b, k, none⟩ (.int .u8 48)).setCell ⟨b, k, none⟩ (.int .u8 v)) b n (laidTo m (k + 1)) := by
  have h1 : RowB (w.setCell ⟨b, k, none⟩ (.int .u8 48)) b n (fun j => if j = k then 48 else laidTo m k j) :=
    h.set k 48 hk (by simp) (fun j _ hj => by simp [hj])
  refine h1.set k v hk (by rw [laidTo_at, hv]) (fun j _ hj => ?_)
  rw [laidTo_other _ _ _ hj]; simp [hj]
theorem ltr_eq (b : Bool) : ((ltr b).toNat : Int) = lv b := (lv_ltr b).symm
theorem lv_test (b : Bool) : (lv b == 49) = b := by cases b <;> rfl
set_option maxRecDepth 4000 in
set_option maxHeartbeats 2000000 in
theorem left_any (t by' : ByteArray) (w : World) (K D : Nat) (m : Nat → Bool) (ht : t.size ≤ 16777216) (hK0 : 1 ≤ K) (hK : K ≤ 16) (hby : by'.size = K + 1)
    (htm : ∀ j (h : j < t.size), t[j] = ltr (m j)) (hm : ∀ j, t.size ≤ j → m j = false) (hbm : ∀ j (h : j < by'.size), by'[j] = ltr (D.testBit (K - j))) :
    Calls Tryz.prog 152 #[.string t, .string by'] w fun e w' => e = .returned (.int .i64 (bitsNum (leftBit K D m t.size) K)) ∧ Up w w' := by
  obtain ⟨i0, hi, hz0, hz1, hz2⟩ := info_parts info5
  have hmk : ∀ u : World, (Instr.makeSlice 61 (.int .i64 ((t.size : Int) + (K : Int))) (.int .i64 ((t.size : Int) + (K : Int)))).run Tryz.prog u =
      .ok (.slice (some ⟨u.heap.size, 0, none⟩) (t.size + K) (t.size + K)) (u.alloc (.cells (madeCells #[.int .u8 0] (t.size + K)) 5)) := fun u => by
    have h := run_make (P := Tryz.prog) u 61 5 i0 (.int .u8 0) Tryz.underlying61 hi hz0 .i64 .i64 ((t.size : Int) + (K : Int)) ((t.size : Int) + (K : Int)) (by omega) (Int.le_refl _) (by rw [hz2]; omega) (by omega)
    have e : ((t.size : Int) + (K : Int)).toNat = t.size + K := by omega
    rw [e] at h
    simpa [hz1, Value.cells] using h
  have hk1 : (by'.size : Int) - 1 = (K : Int) := by omega
  have HBY : Hid (by'.size = K + 1) := hby
  have HTM : Hid (∀ j (h : j < t.size), t[j] = ltr (m j)) := htm
  have HBM : Hid (∀ j (h : j < by'.size), by'[j] = ltr (D.testBit (K - j))) := hbm
  have HM : Hid (∀ j, t.size ≤ j → m j = false) := hm
  clear hby hi hz0 hz1 hz2 htm hbm hm
  go_enter Tryz.func152, Tryz.ntmps152
  go_wp2
  clear hmk
  go_loopw [7] (fun i wr => ∃ k : Nat, k ≤ t.size + K ∧ i = .int .i64 k ∧ Up w wr ∧ w.heap.size < wr.heap.size ∧ RowB wr w.heap.size (t.size + K) (laidTo m k)) (fun i _ => t.size + K - (intOf i).toNat)
  case atStart =>
    refine ⟨0, Nat.zero_le _, rfl, (Up.refl _).alloc _ _, by simp, ?_⟩
    exact RowB.made w _ _
  case round =>
    obtain ⟨k, hk, rfl, hup, hsz, hrow⟩ := hrel
    by_cases hlt : k < t.size + K
    · have hc1 : wr.cell? ⟨w.heap.size, k, none⟩ = some (.int .u8 (laidTo m k k)) := hrow k hlt
      have hf1 : wr.frozen? ⟨w.heap.size, k, none⟩ = false := hup.free (Nat.le_refl _)
      by_cases hkt : k < t.size
      · have HV : Hid ((t[k].toNat : Int) = lv (m k)) := by show _ = _; rw [HTM.out k hkt, ltr_eq]
        go_wp2
        go_roundw
        case rel => exact ⟨k + 1, by omega, by go_num, ((hup.setCell (Nat.le_refl _) _).setCell (Nat.le_refl _) _), by simpa using hsz, hrow.put hlt HV.out⟩
        case measure => simp [intOf]; omega
      · have HM1 : Hid (m k = false) := HM.out k (by omega)
        go_wp2
        go_roundw
        case rel => exact ⟨k + 1, by omega, by go_num, hup.setCell (Nat.le_refl _) _, by simpa using hsz, hrow.nought hlt HM1.out⟩
        case measure => simp [intOf]; omega
    · have e : k = t.size + K := by omega
      subst e
      have HR : Hid (RowB wr w.heap.size (t.size + K) (divRow K D m 0)) := hrow.congr fun j hj => divRow_zero K D m j _ hj
      clear hrow
      clear hk hlt
      go_wp2
      go_loopw [8] (fun i wr => ∃ k : Nat, k ≤ t.size ∧ i = .int .i64 k ∧ Up w wr ∧ w.heap.size < wr.heap.size ∧ RowB wr w.heap.size (t.size + K) (divRow K D m k)) (fun i _ => t.size - (intOf i).toNat)
      case atStart => exact ⟨0, Nat.zero_le _, rfl, hup, hsz, HR.out⟩
      case round =>
        clear HR hup hsz
        obtain ⟨i, hit, rfl, hup, hsz, hrow⟩ := hrel
        by_cases hlt : i < t.size
        · have hc1 : wr.cell? ⟨w.heap.size, i, none⟩ = some (.int .u8 (divRow K D m i i)) := hrow i (by omega)
          have HB : Hid ((divRow K D m i i == 49) = (m i ^^ acc K D m i i)) := lv_test _
          by_cases hb : (m i ^^ acc K D m i i) = true
          · have hb1 : (divRow K D m i i == 49) = true := by rw [HB.out, hb]
            have HI : Hid (RowB wr w.heap.size (t.size + K) (inRow K D m i 0)) := hrow.congr fun j _ => inRow_zero K D m i j
            clear hrow
            go_wp2
            go_loopw [9] (fun i' wr => ∃ j : Nat, j ≤ K + 1 ∧ i' = .int .i64 j ∧ Up w wr ∧ w.heap.size < wr.heap.size ∧ RowB wr w.heap.size (t.size + K) (inRow K D m i j)) (fun i' _ => K + 1 - (intOf i').toNat)
            case atStart => exact ⟨0, Nat.zero_le _, rfl, hup, hsz, HI.out⟩
            case round =>
              clear HI hup hsz hc1 hb1
              obtain ⟨j, hj, rfl, hup, hsz, hrow⟩ := hrel
              by_cases hjk : j ≤ K
              · have hjb : j < by'.size := by rw [HBY.out]; omega
                have HT : Hid (((by'[j].toNat : Int) == 49) = D.testBit (K - j)) := by show _ = _; rw [HBM.out j hjb, ltr_eq, lv_test]
                have hc1 : wr.cell? ⟨w.heap.size, i + j, none⟩ = some (.int .u8 (inRow K D m i j (i + j))) := hrow (i + j) (by omega)
                have hf1 : wr.frozen? ⟨w.heap.size, i + j, none⟩ = false := hup.free (Nat.le_refl _)
                have hl1 : 48 ≤ inRow K D m i j (i + j) := lv_lo _
                have hl2 : inRow K D m i j (i + j) ≤ 49 := lv_hi _
                by_cases hd : D.testBit (K - j) = true
                · have ht1 : ((by'[j].toNat : Int) == 49) = true := by rw [HT.out, hd]
                  go_wp2
                  go_roundw
                  case rel => exact ⟨j + 1, by omega, by go_num, hup.setCell (Nat.le_refl _) _, by simpa using hsz, hrow.set (i + j) _ (by omega) (inRow_yes K D m i j hd) (fun x _ hx => inRow_other K D m i j x hx)⟩
                  case measure => simp [intOf]; omega
                · have hd0 : D.testBit (K - j) = false := by simpa using hd
                  have ht1 : ((by'[j].toNat : Int) == 49) = false := by rw [HT.out, hd0]
                  go_wp2
                  go_roundw
                  case rel => exact ⟨j + 1, by omega, by go_num, hup, hsz, hrow.congr fun x _ => inRow_no K D m i j x hd0⟩
                  case measure => simp [intOf]; omega
              · have e : j = K + 1 := by omega
                subst e
                go_wp2
                go_roundw
                case rel => exact ⟨i + 1, by omega, by go_num, hup, hsz, hrow.congr fun x _ => (inRow_full K D m i x hb).symm⟩
                case measure => simp [intOf]; omega
          · have hb0 : (m i ^^ acc K D m i i) = false := by simpa using hb
            have hb1 : (divRow K D m i i == 49) = false := by rw [HB.out, hb0]
            go_wp2
            go_roundw
            case rel => exact ⟨i + 1, by omega, by go_num, hup, hsz, hrow.congr fun j _ => divRow_no K D m i j hb0⟩
            case measure => simp [intOf]; omega
        · have e : i = t.size := by omega
          subst e
          have hcv := run_rowString (P := Tryz.prog) wr 61 9 5 w.heap.size t.size K K (fun x => ltr (leftBit K D m t.size x)) Tryz.underlying61 Tryz.underlying5 Tryz.underlying9 (fun j hj => by
            rw [hrow _ (by omega)]; unfold divRow leftBit; rw [lv_ltr])
          have hnum := fun u => number_any (strOf (fun x => ltr (leftBit K D m t.size x)) K) u (by rw [strOf_size]; omega) (leftBit K D m t.size) (fun j h => by rw [strOf_get])
          rw [strOf_size] at hnum
          go_wp2_with (go_at_call 151; refine (hnum _).mono ?_; rintro e w' ⟨rfl, rfl⟩)
          go_ret
          exact ⟨rfl, hup⟩
end Go.Proofs.YtlncjgnomhpjnaaGreatDoor

namespace Go.Proofs.YtlncjgnomhpjnaaGreatDoor
open Go.RowKit
/-- the remainder of bytes -/
def crc (k D : Nat) (l : List UInt8) : Nat := bitsNum (leftBit k D (msgBit l) (8 * l.length)) k
theorem crc_good (k D : Nat) (l : List UInt8) : Good k D (msgBit l) (8 * l.length) (8 * l.length) (crc k D l) :=
  good_bitsNum fun j h => msgBit_past l j h
theorem crc_eq {k D R : Nat} {s : ByteArray} (h : Good k D (msgBit s.data.toList) (8 * s.size) (8 * s.size) R) : R = crc k D s.data.toList := by
  have e : s.data.toList.length = s.size := by simp
  rw [← e] at h
  exact good_inj h (crc_good k D _)
theorem eight_any (s : ByteArray) (w : World) (hs : s.size ≤ 2097152) :
    Calls Tryz.prog 147 #[.string s] w fun e w' => e = .returned (.int .i64 (crc 8 263 s.data.toList)) ∧ w' = w := by
  go_enter Tryz.func147, Tryz.ntmps147
  go_wp2_with (go_at_call 146; refine (rem8_any _ _ hs).mono ?_; rintro e w' ⟨R, rfl, hG, rfl⟩)
  go_ret
  exact ⟨ret_int (by rw [crc_eq hG]), rfl⟩
theorem sixteen_any (s : ByteArray) (w : World) (hs : s.size ≤ 2097152) :
    Calls Tryz.prog 106 #[.string s] w fun e w' => e = .returned (.int .i64 (crc 16 98309 s.data.toList)) ∧ w' = w := by
  go_enter Tryz.func106, Tryz.ntmps106
  go_wp2_with (go_at_call 146; refine (rem16_any _ _ hs).mono ?_; rintro e w' ⟨R, rfl, hG, rfl⟩)
  go_ret
  exact ⟨ret_int (by rw [crc_eq hG]), rfl⟩
theorem div8 : ∀ j (h : j < (ByteArray.mk #[49, 48, 48, 48, 48, 48, 49, 49, 49]).size), (ByteArray.mk #[49, 48, 48, 48, 48, 48, 49, 49, 49])[j] = ltr (Nat.testBit 263 (8 - j)) := by decide
theorem div16 : ∀ j (h : j < (ByteArray.mk #[49, 49, 48, 48, 48, 48, 48, 48, 48, 48, 48, 48, 48, 48, 49, 48, 49]).size), (ByteArray.mk #[49, 49, 48, 48, 48, 48, 48, 48, 48, 48, 48, 48, 48, 48, 49, 48, 49])[j] = ltr (Nat.testBit 98309 (16 - j)) := by decide
theorem ref8_any (s : ByteArray) (w : World) (hs : s.size ≤ 2097152) :
    Calls Tryz.prog 112 #[.string s] w fun e w' => e = .returned (.int .i64 (crc 8 263 s.data.toList)) ∧ Up w w' := by
  have hl := fun u => left_any (strOf (fun j => ltr (msgBit s.data.toList j)) (8 * s.size)) ⟨#[49, 48, 48, 48, 48, 48, 49, 49, 49]⟩ u 8 263 (msgBit s.data.toList)
    (by rw [strOf_size]; omega) (by decide) (by decide) rfl (fun j h => by rw [strOf_get]) (fun j h => by rw [strOf_size] at h; exact msgBit_past _ _ (by simpa using h)) div8
  rw [strOf_size] at hl
  have HE : Hid (8 * s.size = 8 * s.data.toList.length) := by show _ = _; simp
  go_enter Tryz.func112, Tryz.ntmps112
  go_wp2_with (first | (go_at_call 126; refine (spelt_any _ _ hs).mono ?_; rintro e w1 ⟨rfl, hu1⟩) | (go_at_call 152; refine (hl _).mono ?_; rintro e w2 ⟨rfl, hu2⟩))
  go_ret
  exact ⟨ret_int (by unfold crc; rw [HE.out]), hu1.trans hu2⟩
theorem ref16_any (s : ByteArray) (w : World) (hs : s.size ≤ 2097152) :
    Calls Tryz.prog 113 #[.string s] w fun e w' => e = .returned (.int .i64 (crc 16 98309 s.data.toList)) ∧ Up w w' := by
  have hl := fun u => left_any (strOf (fun j => ltr (msgBit s.data.toList j)) (8 * s.size)) ⟨#[49, 49, 48, 48, 48, 48, 48, 48, 48, 48, 48, 48, 48, 48, 49, 48, 49]⟩ u 16 98309 (msgBit s.data.toList)
    (by rw [strOf_size]; omega) (by decide) (by decide) rfl (fun j h => by rw [strOf_get]) (fun j h => by rw [strOf_size] at h; exact msgBit_past _ _ (by simpa using h)) div16
  rw [strOf_size] at hl
  have HE : Hid (8 * s.size = 8 * s.data.toList.length) := by show _ = _; simp
  go_enter Tryz.func113, Tryz.ntmps113
  go_wp2_with (first | (go_at_call 126; refine (spelt_any _ _ hs).mono ?_; rintro e w1 ⟨rfl, hu1⟩) | (go_at_call 152; refine (hl _).mono ?_; rintro e w2 ⟨rfl, hu2⟩))
  go_ret
  exact ⟨ret_int (by unfold crc; rw [HE.out]), hu1.trans hu2⟩
end Go.Proofs.YtlncjgnomhpjnaaGreatDoor

/-
  Plain mathematics for 'Frames': numbers in bytes, bits in bytes, the modes, a frame.
-/
namespace Go.Proofs.YtlncjgnomhpjnaaGreatDoor
set_option linter.unusedVariables false
/-- a number in k bytes, the highest first -/
def inB (v k i : Nat) : UInt8 := UInt8.ofNat (v / 256 ^ (k - 1 - i) % 256)
def inT (v k : Nat) : List UInt8 := (List.range k).map (inB v k)
theorem inT_length (v k : Nat) : (inT v k).length = k := by simp [inT]
theorem strOf_in (v k : Nat) : strOf (inB v k) k = bs (inT v k) := rfl
theorem inB_nat (v k i : Nat) : (inB v k i).toNat = v / 256 ^ (k - 1 - i) % 256 := by
  unfold inB
  rw [UInt8.toNat_ofNat']
  exact Nat.mod_eq_of_lt (Nat.lt_of_lt_of_le (Nat.mod_lt _ (by decide)) (by decide))
def seal8 (s : List UInt8) : List UInt8 := s ++ inT (crc 8 263 s) 1
def seal16 (s : List UInt8) : List UInt8 := s ++ inT (crc 16 98309 s) 2
theorem seal8_length (s : List UInt8) : (seal8 s).length = s.length + 1 := by simp [seal8, inT_length]
theorem seal16_length (s : List UInt8) : (seal16 s).length = s.length + 2 := by simp [seal16, inT_length]
/-- what two channels may be told by -/
def sideL (l r : Nat → Int) (j : Nat) : Int := l j - r j
def midL (l r : Nat → Int) (j : Nat) : Int := (l j + r j) / 2
def pairT (d : Nat) (l r : Nat → Int) (n m : Nat) : List UInt8 :=
  if m = 0 then subT d l n ++ subT d r n else if m = 1 then subT d l n ++ subT (d + 1) (sideL l r) n
  else if m = 2 then subT (d + 1) (sideL l r) n ++ subT d r n else subT d (midL l r) n ++ subT (d + 1) (sideL l r) n
end Go.Proofs.YtlncjgnomhpjnaaGreatDoor

/-
  Numbers in bytes: bytenum.In and reelref.low.
-/
namespace Go.Proofs.YtlncjgnomhpjnaaGreatDoor
open Go.RowKit Go.Deep
set_option linter.unusedVariables false
theorem in_step {w wr : World} {B v k j : Nat} (h : wr.rowIs B 5 k (fun i => .int .u8 (if k - 1 - i < j then ((inB v k i).toNat : Int) else 0))) (hj : j < k) :
    (wr.setCell ⟨B, k - 1 - j, none⟩ (.int .u8 ((v / 256 ^ j % 256 : Nat) : Int))).rowIs B 5 k (fun i => .int .u8 (if k - 1 - i < j + 1 then ((inB v k i).toNat : Int) else 0)) := by
  refine (h.set (k - 1 - j) _).congr fun i hi => ?_
  by_cases e : i = k - 1 - j
  · subst e
    rw [if_pos rfl, if_pos (by omega), inB_nat, show k - 1 - (k - 1 - j) = j by omega]
  · rw [if_neg e]
    by_cases e2 : k - 1 - i < j
    · rw [if_pos e2, if_pos (by omega)]
    · rw [if_neg e2, if_neg (by omega)]
set_option maxHeartbeats 1000000 in
theorem low_any (v k : Nat) (w : World) (hk : k ≤ 8) (hv : v < 4294967296) :
    Calls Tryz.prog 111 #[.int .i64 v, .int .i64 k] w fun e w' => e = .returned (.string (bs (inT v k))) ∧ Below w.heap.size w w' := by
  have hmk := run_make_row' (P := Tryz.prog) 61 5 (.int .u8 0) 1 Tryz.underlying61 infoByte rfl .i64 .i64 k (by omega) (by omega)
  have w2 : IntKind.i64.wrap ((k : Int) - 1) = (k : Int) - 1 := by rw [IntKind.wrap_i64]; omega
  have HS := Hid.mk' (strOf_in v k)
  have HCV := Hid.mk' (fun (u : World) h => run_rowString (P := Tryz.prog) u 61 9 5 w.heap.size 0 k k (inB v k) Tryz.underlying61 Tryz.underlying5 Tryz.underlying9 h)
  go_enter Tryz.func111, Tryz.ntmps111
  go_wp2
  clear hmk w2
  go_loopw [0, 6] (fun vv iv wr => ∃ j : Nat, j ≤ k ∧ iv = .int .i64 ((k : Int) - 1 - j) ∧ vv = .int .i64 ((v / 256 ^ j : Nat) : Int) ∧ Hid (wr.rowIs w.heap.size 5 k (fun i => .int .u8 (if k - 1 - i < j then ((inB v k i).toNat : Int) else 0)) ∧ Below w.heap.size w wr)) (fun _ iv _ => (intOf iv + 1).toNat)
  case atStart => exact ⟨0, by omega, by simp, by simp, (World.rowIs_made w (.int .u8 0) k 5).congr fun i _ => by rw [if_neg (by omega)], (Below.refl _ _).alloc (Nat.le_refl _) _⟩
  case round =>
    obtain ⟨j, hj, rfl, rfl, HR⟩ := hrel
    by_cases hlt : j < k
    · have hc1 := HR.out.1.cell (i := k - 1 - j) (by omega)
      have hf1 := HR.out.1.frozen (k - 1 - j)
      have hq : v / 256 ^ j ≤ v := Nat.div_le_self _ _
      have HQ : Hid (v / 256 ^ (j + 1) = v / 256 ^ j / 256) := by show _ = _; rw [Nat.pow_succ, Nat.div_div_eq_div_mul]
      have HK := Hid.mk' (in_step (w := w) HR.out.1 hlt)
      generalize v / 256 ^ j = q at *
      have t1 : ((k : Int) - 1 - (j : Int)).toNat = k - 1 - j := by omega
      have t2 : decide (0 ≤ (k : Int) - 1 - (j : Int)) = true := decide_eq_true (by omega)
      have l1 : 0 ≤ (k : Int) - 1 - (j : Int) := by omega
      have l2 : (k : Int) - 1 - (j : Int) < (k : Int) := by omega
      have v2 : IntKind.i64.wrap ((k : Int) - 1 - (j : Int) - 1) = (k : Int) - 1 - (j : Int) - 1 := by rw [IntKind.wrap_i64]; omega
      have m1 : ((q : Int)).tmod 256 = ((q % 256 : Nat) : Int) := by rw [Int.tmod_eq_emod_of_nonneg (by omega)]; omega
      have m2 : ((q : Int)).tdiv 256 = ((q / 256 : Nat) : Int) := by rw [Int.tdiv_eq_ediv_of_nonneg (by omega)]; omega
      have m3 : ((q : Int)) / 256 = ((q / 256 : Nat) : Int) := by omega
      have hq3 : q / 256 ≤ q := Nat.div_le_self _ _
      have HV6 : Hid (wrap64 ((q / 256 : Nat) : Int) = ((q / 256 : Nat) : Int)) := by show _ = _; unfold wrap64; omega
      have hq2 : q % 256 < 256 := Nat.mod_lt _ (by omega)
      have v4 : IntKind.u8.wrap (q : Int) = ((q % 256 : Nat) : Int) := by rw [IntKind.wrap_u8]; omega
      generalize q % 256 = r at *
      generalize q / 256 = q' at *
      have v5 : IntKind.u8.wrap (r : Int) = (r : Int) := by rw [IntKind.wrap_u8]; omega
      generalize hcv : (if k - 1 - (k - 1 - j) < j then ((inB v k (k - 1 - j)).toNat : Int) else 0) = oldv at hc1
      clear hcv
      go_wp2
      go_roundw
      case rel => exact ⟨j + 1, by omega, by congr 1; omega, by rw [HQ.out], HK.out, HR.out.2.setCell (Nat.le_refl _) _⟩
      case measure => simp [intOf]; omega
    · have e : j = k := by omega
      subst e
      have e1 : (j : Int) - 1 - (j : Int) = -1 := by omega
      rw [e1]
      clear e1
      have hcv := HCV.out wr (fun i hi => by
        have := HR.out.1.cell (i := i) hi
        rw [if_pos (by omega)] at this
        simpa using this)
      rw [HS.out] at hcv
      generalize v / 256 ^ j = q0 at *
      clear HCV
      go_wp2
      go_ret
      exact ⟨rfl, HR.out.2⟩
set_option maxHeartbeats 1000000 in
theorem in_any (v k : Nat) (w : World) (hk : k ≤ 8) (hv : v < 4294967296) :
    Calls Tryz.prog 105 #[.int .i64 v, .int .i64 k] w fun e w' => e = .returned (.string (bs (inT v k))) ∧ Below w.heap.size w w' := by
  have hmk := run_make_row' (P := Tryz.prog) 61 5 (.int .u8 0) 1 Tryz.underlying61 infoByte rfl .i64 .i64 k (by omega) (by omega)
  have w2 : IntKind.i64.wrap ((k : Int) - 1) = (k : Int) - 1 := by rw [IntKind.wrap_i64]; omega
  have HS := Hid.mk' (strOf_in v k)
  have HCV := Hid.mk' (fun (u : World) h => run_rowString (P := Tryz.prog) u 61 9 5 w.heap.size 0 k k (inB v k) Tryz.underlying61 Tryz.underlying5 Tryz.underlying9 h)
  go_enter Tryz.func105, Tryz.ntmps105
  go_wp2
  clear hmk w2
  go_loopw [0, 6] (fun vv iv wr => ∃ j : Nat, j ≤ k ∧ iv = .int .i64 ((k : Int) - 1 - j) ∧ vv = .int .i64 ((v / 256 ^ j : Nat) : Int) ∧ Hid (wr.rowIs w.heap.size 5 k (fun i => .int .u8 (if k - 1 - i < j then ((inB v k i).toNat : Int) else 0)) ∧ Below w.heap.size w wr)) (fun _ iv _ => (intOf iv + 1).toNat)
  case atStart => exact ⟨0, by omega, by simp, by simp, (World.rowIs_made w (.int .u8 0) k 5).congr fun i _ => by rw [if_neg (by omega)], (Below.refl _ _).alloc (Nat.le_refl _) _⟩
  case round =>
    obtain ⟨j, hj, rfl, rfl, HR⟩ := hrel
    by_cases hlt : j < k
    · have hc1 := HR.out.1.cell (i := k - 1 - j) (by omega)
      have hf1 := HR.out.1.frozen (k - 1 - j)
      have hq : v / 256 ^ j ≤ v := Nat.div_le_self _ _
      have HQ : Hid (v / 256 ^ (j + 1) = v / 256 ^ j / 256) := by show _ = _; rw [Nat.pow_succ, Nat.div_div_eq_div_mul]
      have HK := Hid.mk' (in_step (w := w) HR.out.1 hlt)
      generalize v / 256 ^ j = q at *
      have t1 : ((k : Int) - 1 - (j : Int)).toNat = k - 1 - j := by omega
      have t2 : decide (0 ≤ (k : Int) - 1 - (j : Int)) = true := decide_eq_true (by omega)
      have l1 : 0 ≤ (k : Int) - 1 - (j : Int) := by omega
      have l2 : (k : Int) - 1 - (j : Int) < (k : Int) := by omega
      have v2 : IntKind.i64.wrap ((k : Int) - 1 - (j : Int) - 1) = (k : Int) - 1 - (j : Int) - 1 := by rw [IntKind.wrap_i64]; omega
      have m1 : ((q : Int)).tmod 256 = ((q % 256 : Nat) : Int) := by rw [Int.tmod_eq_emod_of_nonneg (by omega)]; omega
      have m2 : ((q : Int)).tdiv 256 = ((q / 256 : Nat) : Int) := by rw [Int.tdiv_eq_ediv_of_nonneg (by omega)]; omega
      have m3 : ((q : Int)) / 256 = ((q / 256 : Nat) : Int) := by omega
      have hq3 : q / 256 ≤ q := Nat.div_le_self _ _
      have HV6 : Hid (wrap64 ((q / 256 : Nat) : Int) = ((q / 256 : Nat) : Int)) := by show _ = _; unfold wrap64; omega
      have hq2 : q % 256 < 256 := Nat.mod_lt _ (by omega)
      have v4 : IntKind.u8.wrap (q : Int) = ((q % 256 : Nat) : Int) := by rw [IntKind.wrap_u8]; omega
      generalize q % 256 = r at *
      generalize q / 256 = q' at *
      have v5 : IntKind.u8.wrap (r : Int) = (r : Int) := by rw [IntKind.wrap_u8]; omega
      generalize hcv : (if k - 1 - (k - 1 - j) < j then ((inB v k (k - 1 - j)).toNat : Int) else 0) = oldv at hc1
      clear hcv
      go_wp2
      go_roundw
      case rel => exact ⟨j + 1, by omega, by congr 1; omega, by rw [HQ.out], HK.out, HR.out.2.setCell (Nat.le_refl _) _⟩
      case measure => simp [intOf]; omega
    · have e : j = k := by omega
      subst e
      have e1 : (j : Int) - 1 - (j : Int) = -1 := by omega
      rw [e1]
      clear e1
      have hcv := HCV.out wr (fun i hi => by
        have := HR.out.1.cell (i := i) hi
        rw [if_pos (by omega)] at this
        simpa using this)
      rw [HS.out] at hcv
      generalize v / 256 ^ j = q0 at *
      clear HCV
      go_wp2
      go_ret
      exact ⟨rfl, HR.out.2⟩
end Go.Proofs.YtlncjgnomhpjnaaGreatDoor

/-
  The seals: sums.SealByEight, sums.SealBySixteen.
-/
namespace Go.Proofs.YtlncjgnomhpjnaaGreatDoor
open Go.RowKit Go.Deep
set_option linter.unusedVariables false
theorem crc_lt (k D : Nat) (l : List UInt8) : crc k D l < 2 ^ k := bitsNum_lt _ _
theorem bs_list (T : List UInt8) : (bs T).data.toList = T := by simp [bs]
theorem eight_bs (T : List UInt8) (w : World) (hs : T.length ≤ 2097152) :
    Calls Tryz.prog 147 #[.string (bs T)] w fun e w' => e = .returned (.int .i64 (crc 8 263 T)) ∧ w' = w := by
  have := eight_any (bs T) w (by rw [bs_size]; exact hs)
  rwa [bs_list] at this
theorem sixteen_bs (T : List UInt8) (w : World) (hs : T.length ≤ 2097152) :
    Calls Tryz.prog 106 #[.string (bs T)] w fun e w' => e = .returned (.int .i64 (crc 16 98309 T)) ∧ w' = w := by
  have := sixteen_any (bs T) w (by rw [bs_size]; exact hs)
  rwa [bs_list] at this
theorem ref8_bs (T : List UInt8) (w : World) (hs : T.length ≤ 2097152) :
    Calls Tryz.prog 112 #[.string (bs T)] w fun e w' => e = .returned (.int .i64 (crc 8 263 T)) ∧ Below w.heap.size w w' := by
  have := ref8_any (bs T) w (by rw [bs_size]; exact hs)
  rw [bs_list] at this
  exact this.mono fun e w' h => ⟨h.1, h.2.1⟩
theorem ref16_bs (T : List UInt8) (w : World) (hs : T.length ≤ 2097152) :
    Calls Tryz.prog 113 #[.string (bs T)] w fun e w' => e = .returned (.int .i64 (crc 16 98309 T)) ∧ Below w.heap.size w w' := by
  have := ref16_any (bs T) w (by rw [bs_size]; exact hs)
  rw [bs_list] at this
  exact this.mono fun e w' h => ⟨h.1, h.2.1⟩
set_option maxHeartbeats 400000 in
theorem seal8_any (T : List UInt8) (w : World) (hs : T.length ≤ 1048576) :
    Calls Tryz.prog 107 #[.string (bs T)] w fun e w' => e = .returned (.string (bs (seal8 T))) ∧ Below w.heap.size w w' := by
  have hc : crc 8 263 T < 256 := crc_lt 8 263 T
  have HE := Hid.mk' (fun u => eight_bs T u (by omega))
  have HIN := Hid.mk' (fun u => in_any (crc 8 263 T) 1 u (by omega) (by omega))
  have HS : Hid (bs T ++ bs (inT (crc 8 263 T) 1) = bs (seal8 T)) := bs_append _ _
  have hz1 : (bs T).size ≤ 1048576 := by rw [bs_size]; exact hs
  have hz2 : (bs (inT (crc 8 263 T) 1)).size ≤ 1 := by rw [bs_size, inT_length]; omega
  generalize crc 8 263 T = C at *
  rw [← HS.out]
  generalize bs (inT C 1) = X at *
  generalize bs T = S at *
  clear HS
  go_enter Tryz.func107, Tryz.ntmps107
  go_wp2_with (first
    | (go_at_call 147; refine (HE.out _).mono ?_; rintro e w1 ⟨rfl, hw⟩; subst w1; clear HE)
    | (go_at_call 105; refine (HIN.out _).mono ?_; rintro e w2 ⟨rfl, hb2⟩; have HB2 := Hid.mk' hb2; clear hb2 HIN))
  go_ret
  exact ⟨rfl, HB2.out⟩
set_option maxHeartbeats 400000 in
theorem seal16_any (T : List UInt8) (w : World) (hs : T.length ≤ 1048576) :
    Calls Tryz.prog 66 #[.string (bs T)] w fun e w' => e = .returned (.string (bs (seal16 T))) ∧ Below w.heap.size w w' := by
  have hc : crc 16 98309 T < 65536 := crc_lt 16 98309 T
  have HE := Hid.mk' (fun u => sixteen_bs T u (by omega))
  have HIN := Hid.mk' (fun u => in_any (crc 16 98309 T) 2 u (by omega) (by omega))
  have HS : Hid (bs T ++ bs (inT (crc 16 98309 T) 2) = bs (seal16 T)) := bs_append _ _
  have hz1 : (bs T).size ≤ 1048576 := by rw [bs_size]; exact hs
  have hz2 : (bs (inT (crc 16 98309 T) 2)).size ≤ 2 := by rw [bs_size, inT_length]; omega
  generalize crc 16 98309 T = C at *
  rw [← HS.out]
  generalize bs (inT C 2) = X at *
  generalize bs T = S at *
  clear HS
  go_enter Tryz.func66, Tryz.ntmps66
  go_wp2_with (first
    | (go_at_call 106; refine (HE.out _).mono ?_; rintro e w1 ⟨rfl, hw⟩; subst w1; clear HE)
    | (go_at_call 105; refine (HIN.out _).mono ?_; rintro e w2 ⟨rfl, hb2⟩; have HB2 := Hid.mk' hb2; clear hb2 HIN))
  go_ret
  exact ⟨rfl, HB2.out⟩
end Go.Proofs.YtlncjgnomhpjnaaGreatDoor

/-
  Texts that are built up: (*strings.Builder).WriteString, frame.codeAll.
-/
namespace Go.Proofs.YtlncjgnomhpjnaaGreatDoor
open Go.RowKit Go.Deep
set_option linter.unusedVariables false
theorem builder_at_below {T e : TypeId} {B b : Nat} {p : Value} {xs : List Value} {w w' : World} (h : Lib.BuilderAtF T e B b p xs w) (hb : Below w.heap.size w w') : Lib.BuilderAtF T e B b p xs w' := by
  have hlt := h.lt
  obtain ⟨hB, v, hbk, hown, hne⟩ := h
  refine ⟨hB, v, (hb.block b hlt).trans hbk, ?_, hne⟩
  obtain ⟨hl, hr⟩ := hown
  refine ⟨hl, ?_⟩
  rcases hr with h0 | ⟨g, cap, cur, fz, h1, h2, h3, h4⟩
  · exact .inl h0
  · exact .inr ⟨g, cap, cur, fz, h1, h2, (hb.block g (Array.getElem?_eq_some_iff.1 h3).1).trans h3, h4⟩
theorem builder_below {T e : TypeId} {B b : Nat} {xs : List Value} {w w' : World} (h : Lib.IsBuilderF T e B b xs w) (hb : Below w.heap.size w w') : Lib.IsBuilderF T e B b xs w' :=
  h.elim (fun h => .inl (builder_at_below h hb)) (fun h => .inr (builder_at_below h hb))
theorem cells_bs (T : List UInt8) : Lib.strCells (bs T) = Lib.byteCells T := by
  unfold Lib.strCells Lib.byteCells
  rw [bs_list]
theorem cells_app (T U : List UInt8) : Lib.byteCells T ++ Lib.byteCells U = Lib.byteCells (T ++ U) := by simp [Lib.byteCells]
theorem builder_new (w : World) : Lib.IsBuilderF 150 5 w.heap.size w.heap.size (Lib.byteCells []) (w.alloc (.cells #[.pointer none, .slice none 0 0] 150)) :=
  .inl ⟨Nat.le_refl _, .slice none 0 0, blk_alloc_new _ _, ⟨rfl, .inl ⟨rfl, rfl⟩⟩, by simp [Value.ownBlock]⟩
end Go.Proofs.YtlncjgnomhpjnaaGreatDoor

/-
  The mode with the fewest bits: frame.codePair, frame.shortestMode.
-/
namespace Go.Proofs.YtlncjgnomhpjnaaGreatDoor
open Go.RowKit Go.Deep
set_option linter.unusedVariables false
def pairV (r c : Nat) : Int := ([[0, 1], [0, 2], [2, 1], [3, 2]].getD r []).getD c 0
def PairsAt (w : World) : Prop := ∀ r c, r < 4 → c < 2 → w.cell? ⟨2, 2 * r + c, none⟩ = some (.int .i64 (pairV r c))
theorem keep_blk {u u' : World} {b : Nat} {o : Obj} (h : Below u.heap.size u u') (hk : b < u.heap.size ∧ u.heap[b]? = some o) : b < u'.heap.size ∧ u'.heap[b]? = some o :=
  ⟨Nat.lt_of_lt_of_le hk.1 h.size, (h.block b hk.1).trans hk.2⟩
theorem four_of_blk {u : World} {b : Nat} {s : Value} {T : TypeId} (h : u.heap[b]? = some (.cells #[s, s, s, s] T (0, 0))) :
    u.cell? ⟨b, 0, none⟩ = some s ∧ u.cell? ⟨b, 1, none⟩ = some s ∧ u.cell? ⟨b, 2, none⟩ = some s ∧ u.cell? ⟨b, 3, none⟩ = some s ∧ u.frozen? ⟨b, 0, none⟩ = false ∧ u.frozen? ⟨b, 1, none⟩ = false ∧ u.frozen? ⟨b, 2, none⟩ = false ∧ u.frozen? ⟨b, 3, none⟩ = false :=
  ⟨Lib.cell_of_heap h 0, Lib.cell_of_heap h 1, Lib.cell_of_heap h 2, Lib.cell_of_heap h 3, Lib.frozen_of_heap h 0, Lib.frozen_of_heap h 1, Lib.frozen_of_heap h 2, Lib.frozen_of_heap h 3⟩
end Go.Proofs.YtlncjgnomhpjnaaGreatDoor

/-
  Two channels in the document: reelref.pair, reelref.width, reelref.bitsOf.
-/
namespace Go.Proofs.YtlncjgnomhpjnaaGreatDoor
open Go.RowKit Go.Deep
set_option linter.unusedVariables false
def l1 (l r : Nat → Int) (m : Nat) : Nat → Int := if m ≤ 1 then l else if m = 2 then sideL l r else midL l r
def l2 (l r : Nat → Int) (m : Nat) : Nat → Int := if m = 0 ∨ m = 2 then r else sideL l r
def w1 (d m : Nat) : Nat := if m = 2 then d + 1 else d
def w2 (d m : Nat) : Nat := if m = 0 ∨ m = 2 then d else d + 1
theorem pairT_eq (d : Nat) (l r : Nat → Int) (n m : Nat) (hm : m < 4) : pairT d l r n m = subT (w1 d m) (l1 l r m) n ++ subT (w2 d m) (l2 l r m) n := by
  match m, hm with
  | 0, _ => rfl
  | 1, _ => rfl
  | 2, _ => rfl
  | 3, _ => rfl
theorem width0_any (d m : Nat) (w : World) (hd : d ≤ 12) (hm : m < 4) : Calls Tryz.prog 150 #[.int .i64 d, .int .i64 m, .int .i64 0] w fun e w' => e = .returned (.int .i64 (w1 d m)) ∧ w' = w := by
  match m, hm with
  | 0, _ => go_enter Tryz.func150, Tryz.ntmps150; go_wp2; go_ret; exact ⟨rfl, rfl⟩
  | 1, _ => go_enter Tryz.func150, Tryz.ntmps150; go_wp2; go_ret; exact ⟨rfl, rfl⟩
  | 2, _ => go_enter Tryz.func150, Tryz.ntmps150; go_wp2; go_ret; exact ⟨rfl, rfl⟩
  | 3, _ => go_enter Tryz.func150, Tryz.ntmps150; go_wp2; go_ret; exact ⟨rfl, rfl⟩
theorem width1_any (d m : Nat) (w : World) (hd : d ≤ 12) (hm : m < 4) : Calls Tryz.prog 150 #[.int .i64 d, .int .i64 m, .int .i64 1] w fun e w' => e = .returned (.int .i64 (w2 d m)) ∧ w' = w := by
  match m, hm with
  | 0, _ => go_enter Tryz.func150, Tryz.ntmps150; go_wp2; go_ret; exact ⟨rfl, rfl⟩
  | 1, _ => go_enter Tryz.func150, Tryz.ntmps150; go_wp2; go_ret; exact ⟨rfl, rfl⟩
  | 2, _ => go_enter Tryz.func150, Tryz.ntmps150; go_wp2; go_ret; exact ⟨rfl, rfl⟩
  | 3, _ => go_enter Tryz.func150, Tryz.ntmps150; go_wp2; go_ret; exact ⟨rfl, rfl⟩
theorem tdiv2 (a : Int) : (a.tmod 2 < 0 → a.tdiv 2 = a / 2 + 1) ∧ (¬ a.tmod 2 < 0 → a.tdiv 2 = a / 2) := by
  have h0 := Int.mul_tdiv_add_tmod a 2
  have h1 := Int.tmod_lt_of_pos a (show (0 : Int) < 2 by decide)
  have h2 : -2 < a.tmod 2 := by have := Int.lt_tmod_of_pos a (show (0 : Int) < 2 by decide); omega
  omega
theorem down2_any (a : Int) (w : World) (h : -2000000 ≤ a ∧ a ≤ 2000000) :
    Calls Tryz.prog 170 #[.int .i64 a, .int .i64 2] w fun e w' => e = .returned (.int .i64 (a / 2)) ∧ w' = w := by
  have ht := tdiv2 a
  by_cases hm : a.tmod 2 < 0
  · have hd : decide (a.tmod 2 < 0) = true := decide_eq_true hm
    have he : a.tdiv 2 = a / 2 + 1 := ht.1 hm
    clear ht
    go_enter Tryz.func170, Tryz.ntmps170
    go_wp2
    go_ret
    exact ⟨ret_int rfl, rfl⟩
  · have hd : decide (a.tmod 2 < 0) = false := decide_eq_false hm
    have he : a.tdiv 2 = a / 2 := ht.2 hm
    clear ht
    go_enter Tryz.func170, Tryz.ntmps170
    go_wp2
    go_ret
    exact ⟨ret_int rfl, rfl⟩
end Go.Proofs.YtlncjgnomhpjnaaGreatDoor

/-
  A frame's head, laid down.
-/
namespace Go.Proofs.YtlncjgnomhpjnaaGreatDoor
open Go.RowKit Go.Deep
set_option linter.unusedVariables false
/-- a cell of a variable's block, in a later world -/
theorem keep_cell {u u' : World} {b o : Nat} {v : Value} (h : Below u.heap.size u u') (hb : b < u.heap.size) (hc : u.cell? ⟨b, o, none⟩ = some v) : u'.cell? ⟨b, o, none⟩ = some v :=
  (h.cell (p := ⟨b, o, none⟩) hb).trans hc
end Go.Proofs.YtlncjgnomhpjnaaGreatDoor

