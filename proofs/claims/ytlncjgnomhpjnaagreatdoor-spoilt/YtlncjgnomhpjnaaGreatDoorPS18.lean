import Derived.Test.YtlncjgnomhpjnaaGreatDoorPS17
import Derived.Test.YtlncjgnomhpjnaaGreatDoorPS15
/-
  Plain mathematics for 'Frames': numbers in bytes, bits in bytes, the modes, a frame.
-/
namespace Go.Proofs.YtlncjgnomhpjnaaGreatDoor
set_option linter.unusedVariables false
/-- a number in k bytes, the highest first -/
def inB (v k i : Nat) : UInt8 := UInt8.ofNat (v / 256 ^ (k - 1 - i) % 256)
def inT (v k : Nat) : List UInt8 := (List.range k).map (inB v k)
theorem inT_length (v k : Nat) : (inT v k).length = k := by simp [inT]
theorem strOf_in (v k : Nat) : strOf (inB v k) k = bs (inT v k) := rfl
theorem inB_nat (v k i : Nat) : (inB v k i).toNat = v / 256 ^ (k - 1 - i) % 256 := by
  unfold inB
  rw [UInt8.toNat_ofNat']
  exact Nat.mod_eq_of_lt (Nat.lt_of_lt_of_le (Nat.mod_lt _ (by decide)) (by decide))
/-- a bit of a text of letters; behind its end there are 0s -/
def tbit (t : List UInt8) (i : Nat) : Bool := t.getD i 48 == 49
theorem tbit_get {t : List UInt8} (h : AllB t) (i : Nat) (hi : i < t.length) : t[i] = ltr (tbit t i) := by
  unfold tbit
  rw [List.getD_eq_getElem?_getD, List.getElem?_eq_getElem hi]
  rcases h _ (List.getElem_mem hi) with e | e <;> rw [Option.getD_some, e] <;> rfl
/-- byte number k of the bits, 0s fill the last one up, when m bits are laid already -/
def pkN (t : List UInt8) (m k : Nat) : Nat := bitsNum (fun j => decide (8 * k + j < m) && tbit t (8 * k + j)) 8
def pkB (t : List UInt8) (k : Nat) : UInt8 := UInt8.ofNat (pkN t t.length k)
def packT (t : List UInt8) : List UInt8 := (List.range ((t.length + 7) / 8)).map (pkB t)
theorem packT_length (t : List UInt8) : (packT t).length = (t.length + 7) / 8 := by simp [packT]
theorem strOf_pack (t : List UInt8) : strOf (pkB t) ((t.length + 7) / 8) = bs (packT t) := rfl
theorem pkN_lt (t : List UInt8) (m k : Nat) : pkN t m k < 256 := bitsNum_lt _ 8
theorem pkB_nat (t : List UInt8) (k : Nat) : (pkB t k).toNat = pkN t t.length k := by
  unfold pkB
  rw [UInt8.toNat_ofNat']
  exact Nat.mod_eq_of_lt (pkN_lt _ _ _)
theorem pkN_zero (t : List UInt8) (k : Nat) : pkN t 0 k = 0 := by
  unfold pkN
  simp [bitsNum]
theorem pkN_bit (t : List UInt8) (m k p : Nat) : (pkN t m k).testBit p = (decide (p < 8) && (decide (8 * k + (7 - p) < m) && tbit t (8 * k + (7 - p)))) := by
  by_cases hp : p < 8
  · unfold pkN
    rw [bitsNum_bit _ _ _ hp]
    have e : 8 - 1 - p = 7 - p := rfl
    rw [e]; simp [hp]
  · rw [Nat.testBit_lt_two_pow (Nat.lt_of_lt_of_le (pkN_lt t m k) (Nat.le_trans (by decide : 256 ≤ 2 ^ 8) (Nat.pow_le_pow_right (by omega) (by omega))))]
    simp [hp]
theorem one_bit (b : Bool) (s p : Nat) : (b.toNat * 2 ^ s).testBit p = (decide (p = s) && b) := by
  rw [Nat.mul_comm, Nat.testBit_two_pow_mul]
  cases b
  · simp
  · by_cases e : p = s
    · subst e; simp
    · by_cases h : s ≤ p
      · have : p - s = (p - s - 1) + 1 := by omega
        simp [h, e]
        rw [this, Nat.testBit_succ]; simp
      · simp [h, e]
/-- one bit more -/
theorem pkN_step (t : List UInt8) (m : Nat) : pkN t m (m / 8) ||| (tbit t m).toNat * 2 ^ (7 - m % 8) = pkN t (m + 1) (m / 8) := by
  apply Nat.eq_of_testBit_eq
  intro p
  rw [Nat.testBit_or, pkN_bit, pkN_bit, one_bit]
  by_cases hp : p < 8
  · by_cases e : p = 7 - m % 8
    · have e1 : 8 * (m / 8) + (7 - p) = m := by omega
      rw [e1]; simp [e]
      intro h; omega
    · have e2 : decide (8 * (m / 8) + (7 - p) < m + 1) = decide (8 * (m / 8) + (7 - p) < m) := by rw [decide_eq_decide]; omega
      rw [e2]; simp [e]
  · have e : ¬ p = 7 - m % 8 := by omega
    simp [hp, e]
theorem pkN_other (t : List UInt8) (m k : Nat) (h : k ≠ m / 8) : pkN t (m + 1) k = pkN t m k := by
  apply Nat.eq_of_testBit_eq
  intro p
  rw [pkN_bit, pkN_bit]
  by_cases hp : p < 8
  · have e2 : decide (8 * k + (7 - p) < m + 1) = decide (8 * k + (7 - p) < m) := by rw [decide_eq_decide]; omega
    rw [e2]
  · simp [hp]
/-- what a head of a frame says -/
def headT (number len n mode : Nat) : List UInt8 := inT 165 1 ++ inT number 2 ++ inT len 2 ++ inT (n - 1) 1 ++ inT mode 1
theorem headT_length (number len n mode : Nat) : (headT number len n mode).length = 7 := by simp [headT, inT_length]
def seal8 (s : List UInt8) : List UInt8 := s ++ inT (crc 8 263 s) 1
def seal16 (s : List UInt8) : List UInt8 := s ++ inT (crc 16 98309 s) 2
theorem seal8_length (s : List UInt8) : (seal8 s).length = s.length + 1 := by simp [seal8, inT_length]
theorem seal16_length (s : List UInt8) : (seal16 s).length = s.length + 2 := by simp [seal16, inT_length]
def frameT (number n mode : Nat) (bits : List UInt8) : List UInt8 := seal16 (seal8 (headT number ((packT bits).length + 10) n mode) ++ packT bits)
theorem frameT_length (number n mode : Nat) (bits : List UInt8) : (frameT number n mode bits).length = (packT bits).length + 10 := by
  simp [frameT, seal16_length, seal8_length, headT_length]; omega
/-- what two channels may be told by -/
def sideL (l r : Nat → Int) (j : Nat) : Int := l j - r j
def midL (l r : Nat → Int) (j : Nat) : Int := (l j + r j) / 2
def pairT (d : Nat) (l r : Nat → Int) (n m : Nat) : List UInt8 :=
  if m = 0 then subT d l n ++ subT d r n else if m = 1 then subT d l n ++ subT (d + 1) (sideL l r) n
  else if m = 2 then subT (d + 1) (sideL l r) n ++ subT d r n else subT d (midL l r) n ++ subT (d + 1) (sideL l r) n
/-- the mode with the fewest bits, of the first m -/
def bestM (T : Nat → List UInt8) : Nat → Nat
  | 0 => 0
  | m + 1 => if m = 0 ∨ (T m).length < (T (bestM T m)).length then m else bestM T m
theorem bestM_lt (T : Nat → List UInt8) : ∀ m, 1 ≤ m → bestM T m < m
  | 0, h => absurd h (by omega)
  | m + 1, _ => by
    unfold bestM
    split
    · omega
    · have := bestM_lt T m (by omega); omega
/-- all channels, one behind the other -/
def allT (d : Nat) (F : Nat → Nat → Int) (N : Nat) : Nat → List UInt8
  | 0 => []
  | i + 1 => allT d F N i ++ subT d (F i) N
def modeN (d n : Nat) (F : Nat → Nat → Int) (N : Nat) : Nat := if n = 2 then bestM (pairT d (F 0) (F 1) N) 4 else 0
def blockT (d n : Nat) (F : Nat → Nat → Int) (N : Nat) : List UInt8 := if n = 2 then pairT d (F 0) (F 1) N (modeN d n F N) else allT d F N n
theorem modeN_lt (d n : Nat) (F : Nat → Nat → Int) (N : Nat) : modeN d n F N < 4 := by
  unfold modeN; split
  · exact bestM_lt _ 4 (by omega)
  · omega
theorem subT_pos (width : Nat) (l : Nat → Int) (n : Nat) : 8 ≤ (subT width l n).length := by rw [subT_length]; omega
theorem subT_le' (width : Nat) (l : Nat → Int) (n : Nat) (hn1 : 1 ≤ n) (hn : n ≤ 32) (hw : width ≤ 13) : (subT width l n).length ≤ 424 := by
  have := subT_le width l n hn1
  have h2 : n * width ≤ 32 * 13 := Nat.mul_le_mul hn hw
  omega
theorem pairT_bd (d : Nat) (l r : Nat → Int) (n m : Nat) (hn1 : 1 ≤ n) (hn : n ≤ 32) (hd : d ≤ 12) : 16 ≤ (pairT d l r n m).length ∧ (pairT d l r n m).length ≤ 848 := by
  have a1 := subT_pos d l n
  have a2 := subT_pos d r n
  have a3 := subT_pos (d + 1) (sideL l r) n
  have a4 := subT_pos d (midL l r) n
  have b1 := subT_le' d l n hn1 hn (by omega)
  have b2 := subT_le' d r n hn1 hn (by omega)
  have b3 := subT_le' (d + 1) (sideL l r) n hn1 hn (by omega)
  have b4 := subT_le' d (midL l r) n hn1 hn (by omega)
  unfold pairT
  split
  · rw [List.length_append]; omega
  · split
    · rw [List.length_append]; omega
    · split <;> (rw [List.length_append]; omega)
theorem pairT_bits (d : Nat) (l r : Nat → Int) (n m : Nat) : AllB (pairT d l r n m) := by
  unfold pairT
  split
  · exact (subT_bits _ _ _).append (subT_bits _ _ _)
  · split
    · exact (subT_bits _ _ _).append (subT_bits _ _ _)
    · split <;> exact (subT_bits _ _ _).append (subT_bits _ _ _)
theorem allT_bd (d : Nat) (F : Nat → Nat → Int) (N : Nat) (hn1 : 1 ≤ N) (hn : N ≤ 32) (hd : d ≤ 12) : ∀ i, 8 * i ≤ (allT d F N i).length ∧ (allT d F N i).length ≤ 424 * i
  | 0 => by simp [allT]
  | i + 1 => by
    have := allT_bd d F N hn1 hn hd i
    have a1 := subT_pos d (F i) N
    have b1 := subT_le' d (F i) N hn1 hn (by omega)
    simp only [allT, List.length_append]; omega
theorem allT_bits (d : Nat) (F : Nat → Nat → Int) (N : Nat) : ∀ i, AllB (allT d F N i)
  | 0 => fun c hc => by cases hc
  | i + 1 => (allT_bits d F N i).append (subT_bits _ _ _)
theorem blockT_bits (d n : Nat) (F : Nat → Nat → Int) (N : Nat) : AllB (blockT d n F N) := by
  unfold blockT; split
  · exact pairT_bits _ _ _ _ _
  · exact allT_bits _ _ _ _
theorem blockT_bd (d n : Nat) (F : Nat → Nat → Int) (N : Nat) (hn1 : 1 ≤ N) (hn : N ≤ 32) (hd : d ≤ 12) (h1 : 1 ≤ n) (h4 : n ≤ 4) : 8 ≤ (blockT d n F N).length ∧ (blockT d n F N).length ≤ 1696 := by
  unfold blockT; split
  · have := pairT_bd d (F 0) (F 1) N (modeN d n F N) hn1 hn hd; omega
  · have := allT_bd d F N hn1 hn hd n; omega
theorem side_fits {d : Nat} {a b : Int} (hd : 1 ≤ d) (ha : fitsB d a = true) (hb : fitsB d b = true) : fitsB (d + 1) (a - b) = true := by
  unfold fitsB at *
  rw [within_iff] at *
  have e : (2 : Int) ^ (d + 1 - 1) = 2 * 2 ^ (d - 1) := by
    have : d + 1 - 1 = (d - 1) + 1 := by omega
    rw [this, Int.pow_succ]; omega
  rw [e]; omega
theorem mid_fits {d : Nat} {a b : Int} (ha : fitsB d a = true) (hb : fitsB d b = true) : fitsB d ((a + b) / 2) = true := by
  unfold fitsB at *
  rw [within_iff] at *
  omega
end Go.Proofs.YtlncjgnomhpjnaaGreatDoor

/-
  Numbers in bytes: bytenum.In and reelref.low.
-/
namespace Go.Proofs.YtlncjgnomhpjnaaGreatDoor
open Go.RowKit Go.Deep
set_option linter.unusedVariables false
theorem in_step {w wr : World} {B v k j : Nat} (h : wr.rowIs B 5 k (fun i => .int .u8 (if k - 1 - i < j then ((inB v k i).toNat : Int) else 0))) (hj : j < k) :
    (wr.setCell ⟨B, k - 1 - j, none⟩ (.int .u8 ((v / 256 ^ j % 256 : Nat) : Int))).rowIs B 5 k (fun i => .int .u8 (if k - 1 - i < j + 1 then ((inB v k i).toNat : Int) else 0)) := by
  refine (h.set (k - 1 - j) _).congr fun i hi => ?_
  by_cases e : i = k - 1 - j
  · subst e
    rw [if_pos rfl, if_pos (by omega), inB_nat, show k - 1 - (k - 1 - j) = j by omega]
  · rw [if_neg e]
    by_cases e2 : k - 1 - i < j
    · rw [if_pos e2, if_pos (by omega)]
    · rw [if_neg e2, if_neg (by omega)]
set_option maxHeartbeats 1000000 in
theorem low_any (v k : Nat) (w : World) (hk : k ≤ 8) (hv : v < 4294967296) :
    Calls Tryz.prog 111 #[.int .i64 v, .int .i64 k] w fun e w' => e = .returned (.string (bs (inT v k))) ∧ Below w.heap.size w w' := by
  have hmk := run_make_row' (P := Tryz.prog) 61 5 (.int .u8 0) 1 Tryz.underlying61 infoByte rfl .i64 .i64 k (by omega) (by omega)
  have w2 : IntKind.i64.wrap ((k : Int) - 1) = (k : Int) - 1 := by rw [IntKind.wrap_i64]; omega
  have HS := Hid.mk' (strOf_in v k)
  have HCV := Hid.mk' (fun (u : World) h => run_rowString (P := Tryz.prog) u 61 9 5 w.heap.size 0 k k (inB v k) Tryz.underlying61 Tryz.underlying5 Tryz.underlying9 h)
  go_enter Tryz.func111, Tryz.ntmps111
  go_wp2
  clear hmk w2
  go_loopw [0, 6] (fun vv iv wr => ∃ j : Nat, j ≤ k ∧ iv = .int .i64 ((k : Int) - 1 - j) ∧ vv = .int .i64 ((v / 256 ^ j : Nat) : Int) ∧ Hid (wr.rowIs w.heap.size 5 k (fun i => .int .u8 (if k - 1 - i < j then ((inB v k i).toNat : Int) else 0)) ∧ Below w.heap.size w wr)) (fun _ iv _ => (intOf iv + 1).toNat)
  case atStart => exact ⟨0, by omega, by simp, by simp, (World.rowIs_made w (.int .u8 0) k 5).congr fun i _ => by rw [if_neg (by omega)], (Below.refl _ _).alloc (Nat.le_refl _) _⟩
  case round =>
    obtain ⟨j, hj, rfl, rfl, HR⟩ := hrel
    by_cases hlt : j < k
    · have hc1 := HR.out.1.cell (i := k - 1 - j) (by omega)
      have hf1 := HR.out.1.frozen (k - 1 - j)
      have hq : v / 256 ^ j ≤ v := Nat.div_le_self _ _
      have HQ : Hid (v / 256 ^ (j + 1) = v / 256 ^ j / 256) := by show _ = _; rw [Nat.pow_succ, Nat.div_div_eq_div_mul]
      have HK := Hid.mk' (in_step (w := w) HR.out.1 hlt)
      generalize v / 256 ^ j = q at *
      have t1 : ((k : Int) - 1 - (j : Int)).toNat = k - 1 - j := by omega
      have t2 : decide (0 ≤ (k : Int) - 1 - (j : Int)) = true := decide_eq_true (by omega)
      have l1 : 0 ≤ (k : Int) - 1 - (j : Int) := by omega
      have l2 : (k : Int) - 1 - (j : Int) < (k : Int) := by omega
      have v2 : IntKind.i64.wrap ((k : Int) - 1 - (j : Int) - 1) = (k : Int) - 1 - (j : Int) - 1 := by rw [IntKind.wrap_i64]; omega
      have m1 : ((q : Int)).tmod 256 = ((q % 256 : Nat) : Int) := by rw [Int.tmod_eq_emod_of_nonneg (by omega)]; omega
      have m2 : ((q : Int)).tdiv 256 = ((q / 256 : Nat) : Int) := by rw [Int.tdiv_eq_ediv_of_nonneg (by omega)]; omega
      have m3 : ((q : Int)) / 256 = ((q / 256 : Nat) : Int) := by omega
      have hq3 : q / 256 ≤ q := Nat.div_le_self _ _
      have HV6 : Hid (wrap64 ((q / 256 : Nat) : Int) = ((q / 256 : Nat) : Int)) := by show _ = _; unfold wrap64; omega
      have hq2 : q % 256 < 256 := Nat.mod_lt _ (by omega)
      have v4 : IntKind.u8.wrap (q : Int) = ((q % 256 : Nat) : Int) := by rw [IntKind.wrap_u8]; omega
      generalize q % 256 = r at *
      generalize q / 256 = q' at *
      have v5 : IntKind.u8.wrap (r : Int) = (r : Int) := by rw [IntKind.wrap_u8]; omega
      generalize hcv : (if k - 1 - (k - 1 - j) < j then ((inB v k (k - 1 - j)).toNat : Int) else 0) = oldv at hc1
      clear hcv
      go_wp2
      go_roundw
      case rel => exact ⟨j + 1, by omega, by congr 1; omega, by rw [HQ.out], HK.out, HR.out.2.setCell (Nat.le_refl _) _⟩
      case measure => simp [intOf]; omega
    · have e : j = k := by omega
      subst e
      have e1 : (j : Int) - 1 - (j : Int) = -1 := by omega
      rw [e1]
      clear e1
      have hcv := HCV.out wr (fun i hi => by
        have := HR.out.1.cell (i := i) hi
        rw [if_pos (by omega)] at this
        simpa using this)
      rw [HS.out] at hcv
      generalize v / 256 ^ j = q0 at *
      clear HCV
      go_wp2
      go_ret
      exact ⟨rfl, HR.out.2⟩
set_option maxHeartbeats 1000000 in
theorem in_any (v k : Nat) (w : World) (hk : k ≤ 8) (hv : v < 4294967296) :
    Calls Tryz.prog 105 #[.int .i64 v, .int .i64 k] w fun e w' => e = .returned (.string (bs (inT v k))) ∧ Below w.heap.size w w' := by
  have hmk := run_make_row' (P := Tryz.prog) 61 5 (.int .u8 0) 1 Tryz.underlying61 infoByte rfl .i64 .i64 k (by omega) (by omega)
  have w2 : IntKind.i64.wrap ((k : Int) - 1) = (k : Int) - 1 := by rw [IntKind.wrap_i64]; omega
  have HS := Hid.mk' (strOf_in v k)
  have HCV := Hid.mk' (fun (u : World) h => run_rowString (P := Tryz.prog) u 61 9 5 w.heap.size 0 k k (inB v k) Tryz.underlying61 Tryz.underlying5 Tryz.underlying9 h)
  go_enter Tryz.func105, Tryz.ntmps105
  go_wp2
  clear hmk w2
  go_loopw [0, 6] (fun vv iv wr => ∃ j : Nat, j ≤ k ∧ iv = .int .i64 ((k : Int) - 1 - j) ∧ vv = .int .i64 ((v / 256 ^ j : Nat) : Int) ∧ Hid (wr.rowIs w.heap.size 5 k (fun i => .int .u8 (if k - 1 - i < j then ((inB v k i).toNat : Int) else 0)) ∧ Below w.heap.size w wr)) (fun _ iv _ => (intOf iv + 1).toNat)
  case atStart => exact ⟨0, by omega, by simp, by simp, (World.rowIs_made w (.int .u8 0) k 5).congr fun i _ => by rw [if_neg (by omega)], (Below.refl _ _).alloc (Nat.le_refl _) _⟩
  case round =>
    obtain ⟨j, hj, rfl, rfl, HR⟩ := hrel
    by_cases hlt : j < k
    · have hc1 := HR.out.1.cell (i := k - 1 - j) (by omega)
      have hf1 := HR.out.1.frozen (k - 1 - j)
      have hq : v / 256 ^ j ≤ v := Nat.div_le_self _ _
      have HQ : Hid (v / 256 ^ (j + 1) = v / 256 ^ j / 256) := by show _ = _; rw [Nat.pow_succ, Nat.div_div_eq_div_mul]
      have HK := Hid.mk' (in_step (w := w) HR.out.1 hlt)
      generalize v / 256 ^ j = q at *
      have t1 : ((k : Int) - 1 - (j : Int)).toNat = k - 1 - j := by omega
      have t2 : decide (0 ≤ (k : Int) - 1 - (j : Int)) = true := decide_eq_true (by omega)
      have l1 : 0 ≤ (k : Int) - 1 - (j : Int) := by omega
      have l2 : (k : Int) - 1 - (j : Int) < (k : Int) := by omega
      have v2 : IntKind.i64.wrap ((k : Int) - 1 - (j : Int) - 1) = (k : Int) - 1 - (j : Int) - 1 := by rw [IntKind.wrap_i64]; omega
      have m1 : ((q : Int)).tmod 256 = ((q % 256 : Nat) : Int) := by rw [Int.tmod_eq_emod_of_nonneg (by omega)]; omega
      have m2 : ((q : Int)).tdiv 256 = ((q / 256 : Nat) : Int) := by rw [Int.tdiv_eq_ediv_of_nonneg (by omega)]; omega
      have m3 : ((q : Int)) / 256 = ((q / 256 : Nat) : Int) := by omega
      have hq3 : q / 256 ≤ q := Nat.div_le_self _ _
      have HV6 : Hid (wrap64 ((q / 256 : Nat) : Int) = ((q / 256 : Nat) : Int)) := by show _ = _; unfold wrap64; omega
      have hq2 : q % 256 < 256 := Nat.mod_lt _ (by omega)
      have v4 : IntKind.u8.wrap (q : Int) = ((q % 256 : Nat) : Int) := by rw [IntKind.wrap_u8]; omega
      generalize q % 256 = r at *
      generalize q / 256 = q' at *
      have v5 : IntKind.u8.wrap (r : Int) = (r : Int) := by rw [IntKind.wrap_u8]; omega
      generalize hcv : (if k - 1 - (k - 1 - j) < j then ((inB v k (k - 1 - j)).toNat : Int) else 0) = oldv at hc1
      clear hcv
      go_wp2
      go_roundw
      case rel => exact ⟨j + 1, by omega, by congr 1; omega, by rw [HQ.out], HK.out, HR.out.2.setCell (Nat.le_refl _) _⟩
      case measure => simp [intOf]; omega
    · have e : j = k := by omega
      subst e
      have e1 : (j : Int) - 1 - (j : Int) = -1 := by omega
      rw [e1]
      clear e1
      have hcv := HCV.out wr (fun i hi => by
        have := HR.out.1.cell (i := i) hi
        rw [if_pos (by omega)] at this
        simpa using this)
      rw [HS.out] at hcv
      generalize v / 256 ^ j = q0 at *
      clear HCV
      go_wp2
      go_ret
      exact ⟨rfl, HR.out.2⟩
end Go.Proofs.YtlncjgnomhpjnaaGreatDoor

/-
  The seals: sums.SealByEight, sums.SealBySixteen.
-/
namespace Go.Proofs.YtlncjgnomhpjnaaGreatDoor
open Go.RowKit Go.Deep
set_option linter.unusedVariables false
theorem crc_lt (k D : Nat) (l : List UInt8) : crc k D l < 2 ^ k := bitsNum_lt _ _
theorem bs_list (T : List UInt8) : (bs T).data.toList = T := by simp [bs]
theorem eight_bs (T : List UInt8) (w : World) (hs : T.length ≤ 2097152) :
    Calls Tryz.prog 147 #[.string (bs T)] w fun e w' => e = .returned (.int .i64 (crc 8 263 T)) ∧ w' = w := by
  have := eight_any (bs T) w (by rw [bs_size]; exact hs)
  rwa [bs_list] at this
theorem sixteen_bs (T : List UInt8) (w : World) (hs : T.length ≤ 2097152) :
    Calls Tryz.prog 106 #[.string (bs T)] w fun e w' => e = .returned (.int .i64 (crc 16 98309 T)) ∧ w' = w := by
  have := sixteen_any (bs T) w (by rw [bs_size]; exact hs)
  rwa [bs_list] at this
set_option maxHeartbeats 400000 in
theorem seal8_any (T : List UInt8) (w : World) (hs : T.length ≤ 1048576) :
    Calls Tryz.prog 107 #[.string (bs T)] w fun e w' => e = .returned (.string (bs (seal8 T))) ∧ Below w.heap.size w w' := by
  have hc : crc 8 263 T < 256 := crc_lt 8 263 T
  have HE := Hid.mk' (fun u => eight_bs T u (by omega))
  have HIN := Hid.mk' (fun u => in_any (crc 8 263 T) 1 u (by omega) (by omega))
  have HS : Hid (bs T ++ bs (inT (crc 8 263 T) 1) = bs (seal8 T)) := bs_append _ _
  have hz1 : (bs T).size ≤ 1048576 := by rw [bs_size]; exact hs
  have hz2 : (bs (inT (crc 8 263 T) 1)).size ≤ 1 := by rw [bs_size, inT_length]; omega
  generalize crc 8 263 T = C at *
  rw [← HS.out]
  generalize bs (inT C 1) = X at *
  generalize bs T = S at *
  clear HS
  go_enter Tryz.func107, Tryz.ntmps107
  go_wp2_with (first
    | (go_at_call 147; refine (HE.out _).mono ?_; rintro e w1 ⟨rfl, hw⟩; subst w1; clear HE)
    | (go_at_call 105; refine (HIN.out _).mono ?_; rintro e w2 ⟨rfl, hb2⟩; have HB2 := Hid.mk' hb2; clear hb2 HIN))
  go_ret
  exact ⟨rfl, HB2.out⟩
set_option maxHeartbeats 400000 in
theorem seal16_any (T : List UInt8) (w : World) (hs : T.length ≤ 1048576) :
    Calls Tryz.prog 66 #[.string (bs T)] w fun e w' => e = .returned (.string (bs (seal16 T))) ∧ Below w.heap.size w w' := by
  have hc : crc 16 98309 T < 65536 := crc_lt 16 98309 T
  have HE := Hid.mk' (fun u => sixteen_bs T u (by omega))
  have HIN := Hid.mk' (fun u => in_any (crc 16 98309 T) 2 u (by omega) (by omega))
  have HS : Hid (bs T ++ bs (inT (crc 16 98309 T) 2) = bs (seal16 T)) := bs_append _ _
  have hz1 : (bs T).size ≤ 1048576 := by rw [bs_size]; exact hs
  have hz2 : (bs (inT (crc 16 98309 T) 2)).size ≤ 2 := by rw [bs_size, inT_length]; omega
  generalize crc 16 98309 T = C at *
  rw [← HS.out]
  generalize bs (inT C 2) = X at *
  generalize bs T = S at *
  clear HS
  go_enter Tryz.func66, Tryz.ntmps66
  go_wp2_with (first
    | (go_at_call 106; refine (HE.out _).mono ?_; rintro e w1 ⟨rfl, hw⟩; subst w1; clear HE)
    | (go_at_call 105; refine (HIN.out _).mono ?_; rintro e w2 ⟨rfl, hb2⟩; have HB2 := Hid.mk' hb2; clear hb2 HIN))
  go_ret
  exact ⟨rfl, HB2.out⟩
end Go.Proofs.YtlncjgnomhpjnaaGreatDoor

/-
  Texts that are built up: (*strings.Builder).WriteString, frame.codeAll.
-/
namespace Go.Proofs.YtlncjgnomhpjnaaGreatDoor
open Go.RowKit Go.Deep
set_option linter.unusedVariables false
theorem builder_at_below {T e : TypeId} {B b : Nat} {p : Value} {xs : List Value} {w w' : World} (h : Lib.BuilderAtF T e B b p xs w) (hb : Below w.heap.size w w') : Lib.BuilderAtF T e B b p xs w' := by
  have hlt := h.lt
  obtain ⟨hB, v, hbk, hown, hne⟩ := h
  refine ⟨hB, v, (hb.block b hlt).trans hbk, ?_, hne⟩
  obtain ⟨hl, hr⟩ := hown
  refine ⟨hl, ?_⟩
  rcases hr with h0 | ⟨g, cap, cur, fz, h1, h2, h3, h4⟩
  · exact .inl h0
  · exact .inr ⟨g, cap, cur, fz, h1, h2, (hb.block g (Array.getElem?_eq_some_iff.1 h3).1).trans h3, h4⟩
theorem builder_below {T e : TypeId} {B b : Nat} {xs : List Value} {w w' : World} (h : Lib.IsBuilderF T e B b xs w) (hb : Below w.heap.size w w') : Lib.IsBuilderF T e B b xs w' :=
  h.elim (fun h => .inl (builder_at_below h hb)) (fun h => .inr (builder_at_below h hb))
set_option maxHeartbeats 2000000 in
set_option maxRecDepth 100000 in
theorem writeString_any (T : TypeId) (hT : Lies T) (B b : Nat) (xs : List Value) (s : ByteArray) (w : World) (h : Lib.IsBuilderF T 5 B b xs w) (hs : 0 < s.size) (hlen : xs.length + s.size ≤ 140737488355328) (hBw : B ≤ w.heap.size) :
    Calls Tryz.prog 140 #[.pointer (some ⟨b, 0, none⟩), .string s] w fun e w' => e = .returned (.tuple #[.int .i64 s.size, .nilIface]) ∧ (Lib.BuilderAtF T 5 B b (.pointer (some ⟨b, 0, none⟩)) (xs ++ Lib.strCells s) w' ∧ Below B w w') := by
  obtain ⟨i0, hi, hz0, hz1, hz2⟩ := info_parts infoByte
  have HH := Hid.mk' h
  clear h
  go_enter Tryz.func140, Tryz.ntmps140
  go_wp2_with (go_at_call 165; refine (copyCheck_any T hT B b xs _ HH.out).mono ?_)
  rintro e w1 ⟨rfl, h1, hb1, hk1⟩
  obtain ⟨hB, v, hbk, hown, hne⟩ := h1
  have c0 : w1.cell? ⟨b, 0, none⟩ = some (.pointer (some ⟨b, 0, none⟩)) := by rw [Lib.cell_of_heap hbk]; rfl
  have c1 : w1.cell? ⟨b, 1, none⟩ = some v := by rw [Lib.cell_of_heap hbk]; rfl
  go_wp2_with (at_builtin; refine Lib.wpList_append_own_stringF _ rfl _ _ 61 9 rfl B 5 i0 Tryz.underlying61 Tryz.underlying9 hi hz0 hz1 hz2 _ _ _ rfl hown s rfl ?c3 ?c4 ?c5 ?_)
  case c3 => unfold maxLen; omega
  case c4 => omega
  case c5 => have := hb1.size; omega
  intro v' w2 hown' hgrow _
  have hlt : b < w1.heap.size := (Array.getElem?_eq_some_iff.1 hbk).1
  have hb2 : w2.heap[b]? = some (.cells #[.pointer (some ⟨b, 0, none⟩), v] T (0, 0)) := by
    rw [hgrow.block b hlt (fun e => hne e.symm)]
    exact hbk
  have d0 : w2.cell? ⟨b, 0, none⟩ = some (.pointer (some ⟨b, 0, none⟩)) := by rw [Lib.cell_of_heap hb2]; rfl
  have d1 : w2.cell? ⟨b, 1, none⟩ = some v := by rw [Lib.cell_of_heap hb2]; rfl
  have f1 : w2.frozen? ⟨b, 1, none⟩ = false := Lib.frozen_of_heap hb2 1
  obtain ⟨g, cap, rfl⟩ : ∃ g cap, v' = .slice (some ⟨g, 0, none⟩) (xs.length + s.size) cap := by
    rcases hown'.2 with ⟨_, h0⟩ | ⟨g, cap, cur, fz, hv, _⟩
    · omega
    · exact ⟨g, cap, hv⟩
  go_wp2
  go_ret2
  refine ⟨rfl, ?_, ?_⟩
  · exact Lib.BuilderAtF.put (T := T) (e := 5) hB hb2 (bs' := xs ++ Lib.strCells s) (by rw [List.length_append, Lib.strCells_length]; exact hown') hT.2
  · exact ((hb1.grown hgrow (by have := hb1.size; omega) (fun k hk => (hown.lt k hk).1))).setCell (p := ⟨b, 1, none⟩) hB _
theorem cells_bs (T : List UInt8) : Lib.strCells (bs T) = Lib.byteCells T := by
  unfold Lib.strCells Lib.byteCells
  rw [bs_list]
theorem cells_app (T U : List UInt8) : Lib.byteCells T ++ Lib.byteCells U = Lib.byteCells (T ++ U) := by simp [Lib.byteCells]
theorem builder_new (w : World) : Lib.IsBuilderF 150 5 w.heap.size w.heap.size (Lib.byteCells []) (w.alloc (.cells #[.pointer none, .slice none 0 0] 150)) :=
  .inl ⟨Nat.le_refl _, .slice none 0 0, blk_alloc_new _ _, ⟨rfl, .inl ⟨rfl, rfl⟩⟩, by simp [Value.ownBlock]⟩
set_option maxHeartbeats 2000000 in
theorem codeAll_any (d : Nat) (a : Option Addr) (n cap : Nat) (A : Nat → Option Addr) (N : Nat) (C : Nat → Nat) (F : Nat → Nat → Int) (w : World) (hd1 : 1 ≤ d) (hd : d ≤ 12) (hn1 : 1 ≤ n) (hn4 : n ≤ 4) (hN1 : 1 ≤ N) (hN : N ≤ 32)
    (hf : ∀ i, i < n → ∀ j, j < N → fitsB d (F i j) = true) (hA : ListsAt w a n A (fun _ => N) C) (hI : ∀ i, i < n → IntsAt w (A i) N (F i)) (hlow : Low w.heap.size a n A (fun _ => N)) (hT : Tabs w) :
    Calls Tryz.prog 103 #[.int .i64 d, .slice a n cap] w fun e w' => e = .returned (.string (bs (allT d F N n))) ∧ Below w.heap.size w w' := by
  have HC := Hid.mk' (fun (u : World) (hu : Below w.heap.size w u) i (hi : i < n) => subCode_any (A i) N (C i) d (F i) u hN1 hN hd1 (by omega) (hf i hi) ((hI i hi).below hu (hlow.2 i hi)) (fun y hy h0 => Nat.lt_of_lt_of_le (hlow.2 i hi y hy h0) hu.size) (hT.below hu))
  have HA := Hid.mk' (fun (u : World) (hu : Below w.heap.size w u) => hA.below hu hlow.1)
  have HBD := Hid.mk' (allT_bd d F N hN1 hN hd)
  have HSB := Hid.mk' (fun i => subT_le' d (F i) N hN1 hN (by omega))
  have HNE : Hid (allT d F N n ≠ []) := fun h => by
    have := (allT_bd d F N hN1 hN hd n).1
    rw [h] at this; simp at this; omega
  obtain ⟨b, off, rfl, hcell⟩ := hA.open (by omega)
  have HCL := Hid.mk' hcell
  have HBL : Hid (b < w.heap.size) := by
    have := hlow.1 _ rfl (by omega : 0 < n)
    exact this
  clear hf hA hI hlow hT hcell
  go_enter Tryz.func103, Tryz.ntmps103
  go_wp2
  go_loopw [7, 10] (fun _ iv wr => ∃ i : Nat, i ≤ n ∧ iv = .int .i64 i ∧ Hid (Lib.IsBuilderF 150 5 w.heap.size w.heap.size (Lib.byteCells (allT d F N i)) wr ∧ Below w.heap.size w wr ∧ w.heap.size < wr.heap.size)) (fun _ iv _ => n - (intOf iv).toNat)
  case atStart => exact ⟨0, Nat.zero_le _, rfl, builder_new w, (Below.refl _ _).alloc (Nat.le_refl _) _, by simp⟩
  case round =>
    obtain ⟨i, hi, rfl, HR⟩ := hrel
    by_cases hlt : i < n
    · have hc1 : wr.cell? ⟨b, off + i, none⟩ = some (.slice (A i) N (C i)) := (HR.out.2.1.cell (p := ⟨b, off + i, none⟩) HBL.out).trans (HCL.out i hlt)
      have HC1 := Hid.mk' (fun (u : World) (hu : Below wr.heap.size wr u) => HC.out u (HR.out.2.1.trans (hu.mono HR.out.2.1.size)) i hlt)
      have HW := Hid.mk' (fun (u : World) (hu : Below wr.heap.size wr u) => writeString_any 150 lies_builder w.heap.size w.heap.size _ (bs (subT d (F i) N)) u (builder_below HR.out.1 hu) (by rw [bs_size]; have := subT_pos d (F i) N; omega) (by rw [Lib.byteCells_length, bs_size]; have := HSB.out i; have := (HBD.out i).2; omega) (Nat.le_trans HR.out.2.1.size hu.size))
      have HE : Hid (Lib.byteCells (allT d F N i) ++ Lib.strCells (bs (subT d (F i) N)) = Lib.byteCells (allT d F N (i + 1))) := by show _ = _; rw [cells_bs, cells_app]; rfl
      have hz : (bs (subT d (F i) N)).size ≤ 424 := by rw [bs_size]; exact HSB.out i
      generalize bs (subT d (F i) N) = S at *
      go_wp2_with (first
        | (go_at_call 141; refine (HC1.out _ ?_).mono ?_; (first | exact Below.refl _ _ | exact (Below.refl _ _).drew); rintro e w1 ⟨rfl, hb1⟩; have HB1 : Hid (Below wr.heap.size wr w1) := (⟨hb1.os, hb1.tape, hb1.output, hb1.size, hb1.block⟩ : Below wr.heap.size wr w1); clear hb1 HC1)
        | (go_at_call 140; refine (HW.out _ ?_).mono ?_; exact HB1.out; rintro e w2 ⟨rfl, hbl2, hb2⟩; have HB2 : Hid (Lib.IsBuilderF 150 5 w.heap.size w.heap.size (Lib.byteCells (allT d F N (i + 1))) w2 ∧ Below w.heap.size w w2 ∧ w.heap.size < w2.heap.size) := ⟨.inr (by rw [← HE.out]; exact hbl2), HR.out.2.1.trans ((HB1.out.mono HR.out.2.1.size).trans hb2), Nat.lt_of_lt_of_le HR.out.2.2 (Nat.le_trans HB1.out.size hb2.size)⟩; clear hbl2 hb2 HW))
      go_roundw
      case rel => exact ⟨i + 1, by omega, by go_num, HB2.out⟩
      case measure => simp [intOf]; omega
    · have e : i = n := by omega
      subst e
      have HST := Hid.mk' (fun (u : World) (hu : Below wr.heap.size wr u) => string_any 150 w.heap.size w.heap.size (allT d F N i) u (builder_below HR.out.1 hu) HNE.out)
      go_wp2_with (go_at_call 142; refine (HST.out _ ?_).mono ?_; (first | exact Below.refl _ _ | exact (Below.refl _ _).drew); rintro e w1 ⟨rfl, hb1⟩; have HB1 : Hid (Below w.heap.size w w1) := HR.out.2.1.trans ⟨hb1.os, hb1.tape, hb1.output, hb1.size, hb1.block⟩; clear hb1 HST)
      go_ret
      exact ⟨rfl, HB1.out⟩
end Go.Proofs.YtlncjgnomhpjnaaGreatDoor

