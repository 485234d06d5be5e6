import Derived.Test.YtlncjgnomhpjnaaGreatDoorEJTight
import Derived.Test.YtlncjgnomhpjnaaGreatDoorEJCrc
/-
  Plain mathematics for 'Frames': numbers in bytes, bits in bytes, the modes, a frame.
-/
namespace Go.Proofs.YtlncjgnomhpjnaaGreatDoor
set_option linter.unusedVariables false

/-- a number in k bytes, the highest first -/
def inB (v k i : Nat) : UInt8 := UInt8.ofNat (v / 256 ^ (k - 1 - i) % 256)
def inT (v k : Nat) : List UInt8 := (List.range k).map (inB v k)
theorem inT_length (v k : Nat) : (inT v k).length = k := by simp [inT]
theorem strOf_in (v k : Nat) : strOf (inB v k) k = bs (inT v k) := rfl
theorem inB_nat (v k i : Nat) : (inB v k i).toNat = v / 256 ^ (k - 1 - i) % 256 := by
  unfold inB
  rw [UInt8.toNat_ofNat']
  exact Nat.mod_eq_of_lt (Nat.lt_of_lt_of_le (Nat.mod_lt _ (by decide)) (by decide))

/-- a bit of a text of letters; behind its end there are 0s -/
def tbit (t : List UInt8) (i : Nat) : Bool := t.getD i 48 == 49
theorem tbit_past (t : List UInt8) (i : Nat) (h : t.length ≤ i) : tbit t i = false := by
  unfold tbit
  rw [List.getD_eq_getElem?_getD, List.getElem?_eq_none h]; rfl
theorem tbit_get {t : List UInt8} (h : AllB t) (i : Nat) (hi : i < t.length) : t[i] = ltr (tbit t i) := by
  unfold tbit
  rw [List.getD_eq_getElem?_getD, List.getElem?_eq_getElem hi]
  rcases h _ (List.getElem_mem hi) with e | e <;> rw [Option.getD_some, e] <;> rfl
/-- byte number k of the bits, 0s fill the last one up, when m bits are laid already -/
def pkN (t : List UInt8) (m k : Nat) : Nat := bitsNum (fun j => decide (8 * k + j < m) && tbit t (8 * k + j)) 8
def pkB (t : List UInt8) (k : Nat) : UInt8 := UInt8.ofNat (pkN t t.length k)
def packT (t : List UInt8) : List UInt8 := (List.range ((t.length + 7) / 8)).map (pkB t)
theorem packT_length (t : List UInt8) : (packT t).length = (t.length + 7) / 8 := by simp [packT]
theorem strOf_pack (t : List UInt8) : strOf (pkB t) ((t.length + 7) / 8) = bs (packT t) := rfl
theorem pkN_lt (t : List UInt8) (m k : Nat) : pkN t m k < 256 := bitsNum_lt _ 8
theorem pkB_nat (t : List UInt8) (k : Nat) : (pkB t k).toNat = pkN t t.length k := by
  unfold pkB
  rw [UInt8.toNat_ofNat']
  exact Nat.mod_eq_of_lt (pkN_lt _ _ _)
theorem pkN_zero (t : List UInt8) (k : Nat) : pkN t 0 k = 0 := by
  unfold pkN
  simp [bitsNum]
theorem pkN_bit (t : List UInt8) (m k p : Nat) : (pkN t m k).testBit p = (decide (p < 8) && (decide (8 * k + (7 - p) < m) && tbit t (8 * k + (7 - p)))) := by
  by_cases hp : p < 8
  · unfold pkN
    rw [bitsNum_bit _ _ _ hp]
    have e : 8 - 1 - p = 7 - p := rfl
    rw [e]; simp [hp]
  · rw [Nat.testBit_lt_two_pow (Nat.lt_of_lt_of_le (pkN_lt t m k) (Nat.le_trans (by decide : 256 ≤ 2 ^ 8) (Nat.pow_le_pow_right (by omega) (by omega))))]
    simp [hp]
theorem one_bit (b : Bool) (s p : Nat) : (b.toNat * 2 ^ s).testBit p = (decide (p = s) && b) := by
  rw [Nat.mul_comm, Nat.testBit_two_pow_mul]
  cases b
  · simp
  · by_cases e : p = s
    · subst e; simp
    · by_cases h : s ≤ p
      · have : p - s = (p - s - 1) + 1 := by omega
        simp [h, e]
        rw [this, Nat.testBit_succ]; simp
      · simp [h, e]
/-- one bit more -/
theorem pkN_step (t : List UInt8) (m : Nat) : pkN t m (m / 8) ||| (tbit t m).toNat * 2 ^ (7 - m % 8) = pkN t (m + 1) (m / 8) := by
  apply Nat.eq_of_testBit_eq
  intro p
  rw [Nat.testBit_or, pkN_bit, pkN_bit, one_bit]
  by_cases hp : p < 8
  · by_cases e : p = 7 - m % 8
    · have e1 : 8 * (m / 8) + (7 - p) = m := by omega
      rw [e1]; simp [e]
      intro h; omega
    · have e2 : decide (8 * (m / 8) + (7 - p) < m + 1) = decide (8 * (m / 8) + (7 - p) < m) := by rw [decide_eq_decide]; omega
      rw [e2]; simp [e]
  · have e : ¬ p = 7 - m % 8 := by omega
    simp [hp, e]
theorem pkN_other (t : List UInt8) (m k : Nat) (h : k ≠ m / 8) : pkN t (m + 1) k = pkN t m k := by
  apply Nat.eq_of_testBit_eq
  intro p
  rw [pkN_bit, pkN_bit]
  by_cases hp : p < 8
  · have e2 : decide (8 * k + (7 - p) < m + 1) = decide (8 * k + (7 - p) < m) := by rw [decide_eq_decide]; omega
    rw [e2]
  · simp [hp]
theorem bitsNum_pad (f : Nat → Bool) (n : Nat) : ∀ m, (∀ i, n ≤ i → f i = false) → bitsNum f (n + m) = bitsNum f n * 2 ^ m
  | 0, _ => by simp
  | m + 1, h => by
    have e := bitsNum_pad f n m h
    rw [← Nat.add_assoc, bitsNum, e, h (n + m) (by omega), Nat.pow_succ]
    simp [Nat.mul_comm, Nat.mul_assoc]
/-- as the document packs: the number that up to eight bits say, times a power of 2 -/
theorem pkN_doc (t : List UInt8) (k c : Nat) (hc : c ≤ 8) (h : c = 8 ∨ t.length = 8 * k + c) (h2 : 8 * k + c ≤ t.length) : bitsNum (fun j => tbit t (8 * k + j)) c * 2 ^ (8 - c) = pkN t t.length k := by
  have e : pkN t t.length k = bitsNum (fun j => tbit t (8 * k + j)) 8 := by
    unfold pkN
    congr 1
    funext j
    by_cases hj : 8 * k + j < t.length
    · simp [hj]
    · rw [tbit_past _ _ (by omega)]; simp [hj]
  rw [e]
  rcases h with rfl | h
  · simp
  · have := bitsNum_pad (fun j => tbit t (8 * k + j)) c (8 - c) (fun i hi => tbit_past _ _ (by omega))
    rw [← this]; congr 1; omega

/-- what a head of a frame says -/
def headT (number len n mode : Nat) : List UInt8 := inT 165 1 ++ inT number 2 ++ inT len 2 ++ inT (n - 1) 1 ++ inT mode 1
theorem headT_length (number len n mode : Nat) : (headT number len n mode).length = 7 := by simp [headT, inT_length]
def seal8 (s : List UInt8) : List UInt8 := s ++ inT (crc 8 263 s) 1
def seal16 (s : List UInt8) : List UInt8 := s ++ inT (crc 16 98309 s) 2
theorem seal8_length (s : List UInt8) : (seal8 s).length = s.length + 1 := by simp [seal8, inT_length]
theorem seal16_length (s : List UInt8) : (seal16 s).length = s.length + 2 := by simp [seal16, inT_length]
def frameT (number n mode : Nat) (bits : List UInt8) : List UInt8 := seal16 (seal8 (headT number ((packT bits).length + 10) n mode) ++ packT bits)
theorem frameT_length (number n mode : Nat) (bits : List UInt8) : (frameT number n mode bits).length = (packT bits).length + 10 := by
  simp [frameT, seal16_length, seal8_length, headT_length]; omega

/-- what two channels may be told by -/
def sideL (l r : Nat → Int) (j : Nat) : Int := l j - r j
def midL (l r : Nat → Int) (j : Nat) : Int := (l j + r j) / 2
def pairT (d : Nat) (l r : Nat → Int) (n m : Nat) : List UInt8 :=
  if m = 0 then subT d l n ++ subT d r n else if m = 1 then subT d l n ++ subT (d + 1) (sideL l r) n
  else if m = 2 then subT (d + 1) (sideL l r) n ++ subT d r n else subT d (midL l r) n ++ subT (d + 1) (sideL l r) n
/-- the mode with the fewest bits, of the first m -/
def bestM (T : Nat → List UInt8) : Nat → Nat
  | 0 => 0
  | m + 1 => if m = 0 ∨ (T m).length < (T (bestM T m)).length then m else bestM T m
theorem bestM_lt (T : Nat → List UInt8) : ∀ m, 1 ≤ m → bestM T m < m
  | 0, h => absurd h (by omega)
  | m + 1, _ => by
    unfold bestM
    split
    · omega
    · have := bestM_lt T m (by omega); omega
/-- all channels, one behind the other -/
def allT (d : Nat) (F : Nat → Nat → Int) (N : Nat) : Nat → List UInt8
  | 0 => []
  | i + 1 => allT d F N i ++ subT d (F i) N
def modeN (d n : Nat) (F : Nat → Nat → Int) (N : Nat) : Nat := if n = 2 then bestM (pairT d (F 0) (F 1) N) 4 else 0
def blockT (d n : Nat) (F : Nat → Nat → Int) (N : Nat) : List UInt8 := if n = 2 then pairT d (F 0) (F 1) N (modeN d n F N) else allT d F N n
theorem modeN_lt (d n : Nat) (F : Nat → Nat → Int) (N : Nat) : modeN d n F N < 4 := by
  unfold modeN; split
  · exact bestM_lt _ 4 (by omega)
  · omega

theorem subT_pos (width : Nat) (l : Nat → Int) (n : Nat) : 8 ≤ (subT width l n).length := by rw [subT_length]; omega
theorem subT_le' (width : Nat) (l : Nat → Int) (n : Nat) (hn1 : 1 ≤ n) (hn : n ≤ 32) (hw : width ≤ 13) : (subT width l n).length ≤ 424 := by
  have := subT_le width l n hn1
  have h2 : n * width ≤ 32 * 13 := Nat.mul_le_mul hn hw
  omega
theorem pairT_bd (d : Nat) (l r : Nat → Int) (n m : Nat) (hn1 : 1 ≤ n) (hn : n ≤ 32) (hd : d ≤ 12) : 16 ≤ (pairT d l r n m).length ∧ (pairT d l r n m).length ≤ 848 := by
  have a1 := subT_pos d l n
  have a2 := subT_pos d r n
  have a3 := subT_pos (d + 1) (sideL l r) n
  have a4 := subT_pos d (midL l r) n
  have b1 := subT_le' d l n hn1 hn (by omega)
  have b2 := subT_le' d r n hn1 hn (by omega)
  have b3 := subT_le' (d + 1) (sideL l r) n hn1 hn (by omega)
  have b4 := subT_le' d (midL l r) n hn1 hn (by omega)
  unfold pairT
  split
  · rw [List.length_append]; omega
  · split
    · rw [List.length_append]; omega
    · split <;> (rw [List.length_append]; omega)
theorem pairT_bits (d : Nat) (l r : Nat → Int) (n m : Nat) : AllB (pairT d l r n m) := by
  unfold pairT
  split
  · exact (subT_bits _ _ _).append (subT_bits _ _ _)
  · split
    · exact (subT_bits _ _ _).append (subT_bits _ _ _)
    · split <;> exact (subT_bits _ _ _).append (subT_bits _ _ _)
theorem allT_bd (d : Nat) (F : Nat → Nat → Int) (N : Nat) (hn1 : 1 ≤ N) (hn : N ≤ 32) (hd : d ≤ 12) : ∀ i, 8 * i ≤ (allT d F N i).length ∧ (allT d F N i).length ≤ 424 * i
  | 0 => by simp [allT]
  | i + 1 => by
    have := allT_bd d F N hn1 hn hd i
    have a1 := subT_pos d (F i) N
    have b1 := subT_le' d (F i) N hn1 hn (by omega)
    simp only [allT, List.length_append]; omega
theorem allT_bits (d : Nat) (F : Nat → Nat → Int) (N : Nat) : ∀ i, AllB (allT d F N i)
  | 0 => fun c hc => by cases hc
  | i + 1 => (allT_bits d F N i).append (subT_bits _ _ _)
theorem blockT_bits (d n : Nat) (F : Nat → Nat → Int) (N : Nat) : AllB (blockT d n F N) := by
  unfold blockT; split
  · exact pairT_bits _ _ _ _ _
  · exact allT_bits _ _ _ _
theorem blockT_bd (d n : Nat) (F : Nat → Nat → Int) (N : Nat) (hn1 : 1 ≤ N) (hn : N ≤ 32) (hd : d ≤ 12) (h1 : 1 ≤ n) (h4 : n ≤ 4) : 8 ≤ (blockT d n F N).length ∧ (blockT d n F N).length ≤ 1696 := by
  unfold blockT; split
  · have := pairT_bd d (F 0) (F 1) N (modeN d n F N) hn1 hn hd; omega
  · have := allT_bd d F N hn1 hn hd n; omega

theorem side_fits {d : Nat} {a b : Int} (hd : 1 ≤ d) (ha : fitsB d a = true) (hb : fitsB d b = true) : fitsB (d + 1) (a - b) = true := by
  unfold fitsB at *
  rw [within_iff] at *
  have e : (2 : Int) ^ (d + 1 - 1) = 2 * 2 ^ (d - 1) := by
    have : d + 1 - 1 = (d - 1) + 1 := by omega
    rw [this, Int.pow_succ]; omega
  rw [e]; omega
theorem mid_fits {d : Nat} {a b : Int} (ha : fitsB d a = true) (hb : fitsB d b = true) : fitsB d ((a + b) / 2) = true := by
  unfold fitsB at *
  rw [within_iff] at *
  omega
end Go.Proofs.YtlncjgnomhpjnaaGreatDoor

