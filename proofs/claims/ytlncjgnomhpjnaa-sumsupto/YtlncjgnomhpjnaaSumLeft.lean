import Derived.Test.YtlncjgnomhpjnaaSumSpelt
namespace Go.Proofs.Ytlncjgnomhpjnaa
open Go.RowKit

/-- the row behind i rounds of the division -/
def divRow (K D : Nat) (m : Nat → Bool) (i x : Nat) : Int := lv (m x ^^ acc K D m i x)
def leftBit (K D : Nat) (m : Nat → Bool) (L x : Nat) : Bool := m (L + x) ^^ acc K D m L (L + x)
/-- the row inside a round -/
def inRow (K D : Nat) (m : Nat → Bool) (i j x : Nat) : Int := lv (m x ^^ acc K D m i x ^^ (decide (i ≤ x) && decide (x < i + j) && D.testBit (K - (x - i))))

theorem inRow_zero (K D : Nat) (m : Nat → Bool) (i x : Nat) : inRow K D m i 0 x = divRow K D m i x := by
  unfold inRow divRow
  have : (decide (i ≤ x) && decide (x < i + 0)) = false := by simp
  rw [this]; simp
theorem inRow_other (K D : Nat) (m : Nat → Bool) (i j x : Nat) (h : x ≠ i + j) : inRow K D m i (j + 1) x = inRow K D m i j x := by
  unfold inRow
  have : decide (x < i + (j + 1)) = decide (x < i + j) := by rw [decide_eq_decide]; omega
  rw [this]
theorem inRow_yes (K D : Nat) (m : Nat → Bool) (i j : Nat) (h : D.testBit (K - j) = true) : inRow K D m i (j + 1) (i + j) = 97 - inRow K D m i j (i + j) := by
  unfold inRow
  have a : i + j - i = j := by omega
  rw [lv_not, a, h]
  have b : decide (i + j < i + (j + 1)) = true := decide_eq_true (by omega)
  have c : decide (i + j < i + j) = false := decide_eq_false (by omega)
  have d : decide (i ≤ i + j) = true := decide_eq_true (by omega)
  rw [b, c, d]
  cases m (i + j) <;> cases acc K D m i (i + j) <;> rfl
theorem inRow_no (K D : Nat) (m : Nat → Bool) (i j x : Nat) (h : D.testBit (K - j) = false) : inRow K D m i (j + 1) x = inRow K D m i j x := by
  by_cases e : x = i + j
  · subst e
    unfold inRow
    have a : i + j - i = j := by omega
    rw [a, h]; simp
  · exact inRow_other K D m i j x e
theorem inRow_full (K D : Nat) (m : Nat → Bool) (i x : Nat) (h : (m i ^^ acc K D m i i) = true) : inRow K D m i (K + 1) x = divRow K D m (i + 1) x := by
  unfold inRow divRow
  simp only [acc, h]
  have : decide (x < i + (K + 1)) = decide (x ≤ i + K) := by rw [decide_eq_decide]; omega
  rw [this]; simp
theorem divRow_no (K D : Nat) (m : Nat → Bool) (i x : Nat) (h : (m i ^^ acc K D m i i) = false) : divRow K D m (i + 1) x = divRow K D m i x := by
  unfold divRow
  simp only [acc, h]; simp
theorem divRow_zero (K D : Nat) (m : Nat → Bool) (x n : Nat) (h : x < n) : divRow K D m 0 x = laidTo m n x := by
  unfold divRow laidTo
  rw [if_pos h]; simp [acc]
theorem RowB.congr {w : World} {b n : Nat} {f g : Nat → Int} (h : RowB w b n f) (e : ∀ j, j < n → g j = f j) : RowB w b n g :=
  fun j hj => by rw [h j hj, e j hj]

theorem RowB.put {w : World} {b n k : Nat} {m : Nat → Bool} {v : Int} (h : RowB w b n (laidTo m k)) (hk : k < n) (hv : v = lv (m k)) :
    RowB ((w.setCell ⟨b, k, none⟩ (.int .u8 48)).setCell ⟨b, k, none⟩ (.int .u8 v)) b n (laidTo m (k + 1)) := by
  have h1 : RowB (w.setCell ⟨b, k, none⟩ (.int .u8 48)) b n (fun j => if j = k then 48 else laidTo m k j) :=
    h.set k 48 hk (by simp) (fun j _ hj => by simp [hj])
  refine h1.set k v hk (by rw [laidTo_at, hv]) (fun j _ hj => ?_)
  rw [laidTo_other _ _ _ hj]; simp [hj]
theorem ltr_eq (b : Bool) : ((ltr b).toNat : Int) = lv b := (lv_ltr b).symm
theorem lv_test (b : Bool) : (lv b == 49) = b := by cases b <;> rfl

set_option maxHeartbeats 800000 in
theorem left_any (t by' : ByteArray) (w : World) (K D : Nat) (m : Nat → Bool) (ht : t.size ≤ 16777216) (hK0 : 1 ≤ K) (hK : K ≤ 16) (hby : by'.size = K + 1)
    (htm : ∀ j (h : j < t.size), t[j] = ltr (m j)) (hm : ∀ j, t.size ≤ j → m j = false) (hbm : ∀ j (h : j < by'.size), by'[j] = ltr (D.testBit (K - j))) :
    Calls Try.prog 37 #[.string t, .string by'] w fun e w' => e = .returned (.int .i64 (bitsNum (leftBit K D m t.size) K)) ∧ Up w w' := by
  obtain ⟨i0, hi, hz0, hz1, hz2⟩ := info_parts info5
  have hmk : ∀ u : World, (Instr.makeSlice 55 (.int .i64 ((t.size : Int) + (K : Int))) (.int .i64 ((t.size : Int) + (K : Int)))).run Try.prog u =
      .ok (.slice (some ⟨u.heap.size, 0, none⟩) (t.size + K) (t.size + K)) (u.alloc (.cells (madeCells #[.int .u8 0] (t.size + K)) 5)) := fun u => by
    have h := run_make (P := Try.prog) u 55 5 i0 (.int .u8 0) Try.underlying55 hi hz0 .i64 .i64 ((t.size : Int) + (K : Int)) ((t.size : Int) + (K : Int)) (by omega) (Int.le_refl _) (by rw [hz2]; omega) (by omega)
    have e : ((t.size : Int) + (K : Int)).toNat = t.size + K := by omega
    rw [e] at h
    simpa [hz1, Value.cells] using h
  have hk1 : (by'.size : Int) - 1 = (K : Int) := by omega
  have HBY : Hid (by'.size = K + 1) := hby
  have HTM : Hid (∀ j (h : j < t.size), t[j] = ltr (m j)) := htm
  have HBM : Hid (∀ j (h : j < by'.size), by'[j] = ltr (D.testBit (K - j))) := hbm
  have HM : Hid (∀ j, t.size ≤ j → m j = false) := hm
  clear hby hi hz0 hz1 hz2 htm hbm hm
  go_enter Try.func37, Try.ntmps37
  go_wp2
  clear hmk
  go_loopw [7] (fun i wr => ∃ k : Nat, k ≤ t.size + K ∧ i = .int .i64 k ∧ Up w wr ∧ w.heap.size < wr.heap.size ∧ RowB wr w.heap.size (t.size + K) (laidTo m k)) (fun i _ => t.size + K - (intOf i).toNat)
  case atStart =>
    refine ⟨0, Nat.zero_le _, rfl, (Up.refl _).alloc _ _, by simp, ?_⟩
    exact RowB.made w _ _
  case round =>
    obtain ⟨k, hk, rfl, hup, hsz, hrow⟩ := hrel
    by_cases hlt : k < t.size + K
    · have hc1 : wr.cell? ⟨w.heap.size, k, none⟩ = some (.int .u8 (laidTo m k k)) := hrow k hlt
      have hf1 : wr.frozen? ⟨w.heap.size, k, none⟩ = false := hup.free (Nat.le_refl _)
      by_cases hkt : k < t.size
      · have HV : Hid ((t[k].toNat : Int) = lv (m k)) := by show _ = _; rw [HTM.out k hkt, ltr_eq]
        go_wp2
        go_roundw
        case rel => exact ⟨k + 1, by omega, by go_num, ((hup.setCell (Nat.le_refl _) _).setCell (Nat.le_refl _) _), by simpa using hsz, hrow.put hlt HV.out⟩
        case measure => simp [intOf]; omega
      · have HM1 : Hid (m k = false) := HM.out k (by omega)
        go_wp2
        go_roundw
        case rel => exact ⟨k + 1, by omega, by go_num, hup.setCell (Nat.le_refl _) _, by simpa using hsz, hrow.nought hlt HM1.out⟩
        case measure => simp [intOf]; omega
    · have e : k = t.size + K := by omega
      subst e
      have HR : Hid (RowB wr w.heap.size (t.size + K) (divRow K D m 0)) := hrow.congr fun j hj => divRow_zero K D m j _ hj
      clear hrow
      clear hk hlt
      go_wp2
      go_loopw [8] (fun i wr => ∃ k : Nat, k ≤ t.size ∧ i = .int .i64 k ∧ Up w wr ∧ w.heap.size < wr.heap.size ∧ RowB wr w.heap.size (t.size + K) (divRow K D m k)) (fun i _ => t.size - (intOf i).toNat)
      case atStart => exact ⟨0, Nat.zero_le _, rfl, hup, hsz, HR.out⟩
      case round =>
        clear HR hup hsz
        obtain ⟨i, hit, rfl, hup, hsz, hrow⟩ := hrel
        by_cases hlt : i < t.size
        · have hc1 : wr.cell? ⟨w.heap.size, i, none⟩ = some (.int .u8 (divRow K D m i i)) := hrow i (by omega)
          have HB : Hid ((divRow K D m i i == 49) = (m i ^^ acc K D m i i)) := lv_test _
          by_cases hb : (m i ^^ acc K D m i i) = true
          · have hb1 : (divRow K D m i i == 49) = true := by rw [HB.out, hb]
            have HI : Hid (RowB wr w.heap.size (t.size + K) (inRow K D m i 0)) := hrow.congr fun j _ => inRow_zero K D m i j
            clear hrow
            go_wp2
            go_loopw [9] (fun i' wr => ∃ j : Nat, j ≤ K + 1 ∧ i' = .int .i64 j ∧ Up w wr ∧ w.heap.size < wr.heap.size ∧ RowB wr w.heap.size (t.size + K) (inRow K D m i j)) (fun i' _ => K + 1 - (intOf i').toNat)
            case atStart => exact ⟨0, Nat.zero_le _, rfl, hup, hsz, HI.out⟩
            case round =>
              clear HI hup hsz hc1 hb1
              obtain ⟨j, hj, rfl, hup, hsz, hrow⟩ := hrel
              by_cases hjk : j ≤ K
              · have hjb : j < by'.size := by rw [HBY.out]; omega
                have HT : Hid (((by'[j].toNat : Int) == 49) = D.testBit (K - j)) := by show _ = _; rw [HBM.out j hjb, ltr_eq, lv_test]
                have hc1 : wr.cell? ⟨w.heap.size, i + j, none⟩ = some (.int .u8 (inRow K D m i j (i + j))) := hrow (i + j) (by omega)
                have hf1 : wr.frozen? ⟨w.heap.size, i + j, none⟩ = false := hup.free (Nat.le_refl _)
                have hl1 : 48 ≤ inRow K D m i j (i + j) := lv_lo _
                have hl2 : inRow K D m i j (i + j) ≤ 49 := lv_hi _
                by_cases hd : D.testBit (K - j) = true
                · have ht1 : ((by'[j].toNat : Int) == 49) = true := by rw [HT.out, hd]
                  go_wp2
                  go_roundw
                  case rel => exact ⟨j + 1, by omega, by go_num, hup.setCell (Nat.le_refl _) _, by simpa using hsz, hrow.set (i + j) _ (by omega) (inRow_yes K D m i j hd) (fun x _ hx => inRow_other K D m i j x hx)⟩
                  case measure => simp [intOf]; omega
                · have hd0 : D.testBit (K - j) = false := by simpa using hd
                  have ht1 : ((by'[j].toNat : Int) == 49) = false := by rw [HT.out, hd0]
                  go_wp2
                  go_roundw
                  case rel => exact ⟨j + 1, by omega, by go_num, hup, hsz, hrow.congr fun x _ => inRow_no K D m i j x hd0⟩
                  case measure => simp [intOf]; omega
              · have e : j = K + 1 := by omega
                subst e
                go_wp2
                go_roundw
                case rel => exact ⟨i + 1, by omega, by go_num, hup, hsz, hrow.congr fun x _ => (inRow_full K D m i x hb).symm⟩
                case measure => simp [intOf]; omega
          · have hb0 : (m i ^^ acc K D m i i) = false := by simpa using hb
            have hb1 : (divRow K D m i i == 49) = false := by rw [HB.out, hb0]
            go_wp2
            go_roundw
            case rel => exact ⟨i + 1, by omega, by go_num, hup, hsz, hrow.congr fun j _ => divRow_no K D m i j hb0⟩
            case measure => simp [intOf]; omega
        · have e : i = t.size := by omega
          subst e
          have hcv := run_rowString (P := Try.prog) wr 55 9 5 w.heap.size t.size K K (fun x => ltr (leftBit K D m t.size x)) Try.underlying55 Try.underlying5 Try.underlying9 (fun j hj => by
            rw [hrow _ (by omega)]; unfold divRow leftBit; rw [lv_ltr])
          have hnum := fun u => number_any (strOf (fun x => ltr (leftBit K D m t.size x)) K) u (by rw [strOf_size]; omega) (leftBit K D m t.size) (fun j h => by rw [strOf_get])
          rw [strOf_size] at hnum
          go_wp2_with (go_at_call 40; refine (hnum _).mono ?_; rintro e w' ⟨rfl, rfl⟩)
          go_ret
          exact ⟨rfl, hup⟩
end Go.Proofs.Ytlncjgnomhpjnaa
