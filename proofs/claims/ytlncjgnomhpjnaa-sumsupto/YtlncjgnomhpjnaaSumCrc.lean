/-
  Plain mathematics for 'Sums': the two ways to a remainder. No dump is imported.
-/
namespace Go.Proofs.Ytlncjgnomhpjnaa

/-- bit number j of a list of bytes, the highest bit of the first byte first -/
def msgBit (l : List UInt8) (j : Nat) : Bool := (l.getD (j / 8) 0).toNat.testBit (7 - j % 8)

/-- what i steps of the long division have turned at place j -/
def acc (k D : Nat) (m : Nat → Bool) : Nat → Nat → Bool
  | 0, _ => false
  | i + 1, j => acc k D m i j ^^ ((m i ^^ acc k D m i i) && (decide (i ≤ j) && decide (j ≤ i + k) && D.testBit (k - (j - i))))

theorem acc_far (k D : Nat) (m : Nat → Bool) : ∀ i j, i + k ≤ j → acc k D m i j = false
  | 0, _, _ => rfl
  | i + 1, j, h => by
    have h1 := acc_far k D m i j (by omega)
    have h2 : decide (j ≤ i + k) = false := by simp; omega
    simp [acc, h1, h2]

/-- the number that a running remainder holds: i bits are done, the byte that is under way ends at e -/
def Good (k D : Nat) (m : Nat → Bool) (i e R : Nat) : Prop :=
  R < 2 ^ k ∧ ∀ p, p < k → R.testBit p = (acc k D m i (i + (k - 1 - p)) ^^ (decide (i + (k - 1 - p) < e) && m (i + (k - 1 - p))))

theorem good_zero (k D : Nat) (m : Nat → Bool) : Good k D m 0 0 0 :=
  ⟨Nat.two_pow_pos _, fun p _ => by simp [acc]⟩

theorem good_inj {k D : Nat} {m : Nat → Bool} {i e R S : Nat} (h : Good k D m i e R) (g : Good k D m i e S) : R = S := by
  refine Nat.eq_of_testBit_eq fun p => ?_
  by_cases hp : p < k
  · rw [h.2 p hp, g.2 p hp]
  · have e1 : R.testBit p = false := Nat.testBit_lt_two_pow (Nat.lt_of_lt_of_le h.1 (Nat.pow_le_pow_right (by omega) (by omega)))
    have e2 : S.testBit p = false := Nat.testBit_lt_two_pow (Nat.lt_of_lt_of_le g.1 (Nat.pow_le_pow_right (by omega) (by omega)))
    rw [e1, e2]

/-- a byte comes in -/
theorem good_start {k D : Nat} {m : Nat → Bool} {i R c : Nat} (hk : 8 ≤ k) (hc : c < 256) (hm : ∀ x, x < 8 → m (i + x) = c.testBit (7 - x))
    (h : Good k D m i i R) : Good k D m i (i + 8) (R ^^^ c * 2 ^ (k - 8)) := by
  have hb : c * 2 ^ (k - 8) < 2 ^ k := by
    have e : 2 ^ k = 256 * 2 ^ (k - 8) := by
      have : k = 8 + (k - 8) := by omega
      rw [this, Nat.pow_add]; simp
    rw [e]
    exact Nat.mul_lt_mul_of_pos_right hc (Nat.two_pow_pos _)
  refine ⟨Nat.xor_lt_two_pow h.1 hb, fun p hp => ?_⟩
  rw [Nat.testBit_xor, h.2 p hp, Nat.mul_comm, Nat.testBit_two_pow_mul]
  by_cases hq : k - 8 ≤ p
  · have e1 : i + (k - 1 - p) < i + 8 := by omega
    have e2 : decide (i + (k - 1 - p) < i) = false := decide_eq_false (by omega)
    have e3 := hm (k - 1 - p) (by omega)
    have e4 : 7 - (k - 1 - p) = p - (k - 8) := by omega
    rw [e4] at e3
    simp [e1, e2, e3, hq]
  · have e1 : ¬ i + (k - 1 - p) < i + 8 := by omega
    have e2 : decide (i + (k - 1 - p) < i) = false := decide_eq_false (by omega)
    simp [e1, e2, hq]

theorem top_iff {k R : Nat} (hk : 1 ≤ k) (h : R < 2 ^ k) : (R * 2 / 2 ^ k = 1) ↔ R.testBit (k - 1) = true := by
  have e : 2 ^ k = 2 * 2 ^ (k - 1) := by
    have : k = (k - 1) + 1 := by omega
    rw [this, Nat.pow_succ]; simp [Nat.mul_comm]
  have e2 : R * 2 / 2 ^ k = R / 2 ^ (k - 1) := by
    rw [e, Nat.mul_comm R 2, Nat.mul_div_mul_left _ _ (by decide)]
  rw [e2, Nat.testBit_eq_decide_div_mod_eq]
  have lt : R / 2 ^ (k - 1) < 2 := by
    rw [Nat.div_lt_iff_lt_mul (Nat.two_pow_pos _)]; omega
  have : R / 2 ^ (k - 1) % 2 = R / 2 ^ (k - 1) := Nat.mod_eq_of_lt lt
  rw [this]; simp

theorem dbl_bit (R p : Nat) : (R * 2).testBit p = (decide (1 ≤ p) && R.testBit (p - 1)) := by
  have := Nat.testBit_two_pow_mul (i := 1) (a := R) (j := p)
  rw [Nat.mul_comm]; simpa using this

/-- a bit goes out, and it is a 1 -/
theorem good_yes {k D : Nat} {m : Nat → Bool} {i e R : Nat} (hk : 8 ≤ k) (hD : D < 2 ^ (k + 1)) (hD1 : D.testBit k = true) (hi : i < e) (he : e ≤ i + 8)
    (h : Good k D m i e R) (ht : R * 2 / 2 ^ k = 1) : Good k D m (i + 1) e ((R * 2) ^^^ D) := by
  have top : R.testBit (k - 1) = true := (top_iff (by omega) h.1).1 ht
  have t2 := h.2 (k - 1) (by omega)
  rw [top] at t2
  have z : k - 1 - (k - 1) = 0 := by omega
  rw [z, Nat.add_zero] at t2
  have t3 : (m i ^^ acc k D m i i) = true := by
    rw [t2]; simp [hi, Bool.xor_comm]
  constructor
  · have b1 : (R * 2) ^^^ D < 2 ^ (k + 1) := Nat.xor_lt_two_pow (by rw [Nat.pow_succ]; have := h.1; omega) hD
    apply Nat.lt_pow_two_of_testBit
    intro p hp
    by_cases e : p = k
    · subst e
      rw [Nat.testBit_xor, hD1, dbl_bit, top]
      simp; omega
    · exact Nat.testBit_lt_two_pow (Nat.lt_of_lt_of_le b1 (Nat.pow_le_pow_right (by omega) (by omega)))
  · intro p hp
    have e1 : i + 1 + (k - 1 - p) = i + (k - p) := by omega
    rw [Nat.testBit_xor, dbl_bit, e1]
    have e2 : acc k D m (i + 1) (i + (k - p)) = (acc k D m i (i + (k - p)) ^^ D.testBit p) := by
      have a1 : i ≤ i + (k - p) := by omega
      have a2 : i + (k - p) ≤ i + k := by omega
      have a3 : k - (i + (k - p) - i) = p := by omega
      simp only [acc, t3, a3]
      simp
    rw [e2]
    by_cases hp0 : 1 ≤ p
    · have e3 := h.2 (p - 1) (by omega)
      have e4 : k - 1 - (p - 1) = k - p := by omega
      rw [e4] at e3
      rw [e3]
      simp only [hp0, decide_true, Bool.true_and]
      cases acc k D m i (i + (k - p)) <;> cases D.testBit p <;> cases (decide (i + (k - p) < e) && m (i + (k - p))) <;> rfl
    · have e3 : p = 0 := by omega
      subst e3
      have e4 : acc k D m i (i + (k - 0)) = false := acc_far _ _ _ _ _ (by omega)
      have e5 : decide (i + (k - 0) < e) = false := decide_eq_false (by omega)
      rw [e4, e5]
      simp

/-- a bit goes out, and it is a 0 -/
theorem good_no {k D : Nat} {m : Nat → Bool} {i e R : Nat} (hk : 8 ≤ k) (hi : i < e) (he : e ≤ i + 8)
    (h : Good k D m i e R) (ht : ¬ R * 2 / 2 ^ k = 1) : Good k D m (i + 1) e (R * 2) := by
  have top : R.testBit (k - 1) = false := by
    cases hh : R.testBit (k - 1) with
    | false => rfl
    | true => exact absurd ((top_iff (by omega) h.1).2 hh) ht
  have t2 := h.2 (k - 1) (by omega)
  rw [top] at t2
  have z : k - 1 - (k - 1) = 0 := by omega
  rw [z, Nat.add_zero] at t2
  have t3 : (m i ^^ acc k D m i i) = false := by
    rw [t2]; simp [hi, Bool.xor_comm]
  constructor
  · have b1 : R * 2 < 2 ^ (k + 1) := by rw [Nat.pow_succ]; have := h.1; omega
    apply Nat.lt_pow_two_of_testBit
    intro p hp
    by_cases e : p = k
    · subst e
      rw [dbl_bit, top]
      simp
    · exact Nat.testBit_lt_two_pow (Nat.lt_of_lt_of_le b1 (Nat.pow_le_pow_right (by omega) (by omega)))
  · intro p hp
    have e1 : i + 1 + (k - 1 - p) = i + (k - p) := by omega
    rw [dbl_bit, e1]
    have e2 : acc k D m (i + 1) (i + (k - p)) = acc k D m i (i + (k - p)) := by
      simp only [acc, t3]
      simp
    rw [e2]
    by_cases hp0 : 1 ≤ p
    · have e3 := h.2 (p - 1) (by omega)
      have e4 : k - 1 - (p - 1) = k - p := by omega
      rw [e4] at e3
      rw [e3]
      simp [hp0]
    · have e3 : p = 0 := by omega
      subst e3
      have e4 : acc k D m i (i + (k - 0)) = false := acc_far _ _ _ _ _ (by omega)
      have e5 : decide (i + (k - 0) < e) = false := decide_eq_false (by omega)
      rw [e4, e5]
      simp

theorem msgBit_byte (l : List UInt8) (k x : Nat) (hx : x < 8) : msgBit l (8 * k + x) = (l.getD k 0).toNat.testBit (7 - x) := by
  unfold msgBit
  have h1 : (8 * k + x) / 8 = k := by omega
  have h2 : (8 * k + x) % 8 = x := by omega
  rw [h1, h2]

theorem msgBit_past (l : List UInt8) (j : Nat) (h : 8 * l.length ≤ j) : msgBit l j = false := by
  unfold msgBit
  have : l.getD (j / 8) 0 = 0 := by
    rw [List.getD_eq_getElem?_getD, List.getElem?_eq_none (by omega)]; rfl
  rw [this]; simp

/-- the number that bits say -/
def bitsNum (f : Nat → Bool) : Nat → Nat
  | 0 => 0
  | n + 1 => 2 * bitsNum f n + (f n).toNat

theorem bitsNum_lt (f : Nat → Bool) : ∀ n, bitsNum f n < 2 ^ n
  | 0 => by simp [bitsNum]
  | n + 1 => by
    have := bitsNum_lt f n
    have h : (f n).toNat ≤ 1 := Bool.toNat_le _
    simp only [bitsNum, Nat.pow_succ]; omega

theorem bitsNum_bit (f : Nat → Bool) : ∀ n p, p < n → (bitsNum f n).testBit p = f (n - 1 - p)
  | 0, _, h => absurd h (by omega)
  | n + 1, 0, _ => by
    simp only [bitsNum, Nat.testBit_zero]
    cases h : f n <;> simp [h] <;> omega
  | n + 1, p + 1, h => by
    have ih := bitsNum_bit f n p (by omega)
    have e : (2 * bitsNum f n + (f n).toNat) / 2 = bitsNum f n := by
      have : (f n).toNat ≤ 1 := Bool.toNat_le _
      omega
    simp only [bitsNum, Nat.testBit_succ, e, ih]
    congr 1; omega

/-- the long division's last bits are the running remainder -/
theorem good_bitsNum {k D : Nat} {m : Nat → Bool} {L : Nat} (hm : ∀ j, L ≤ j → m j = false) : Good k D m L L (bitsNum (fun x => m (L + x) ^^ acc k D m L (L + x)) k) := by
  refine ⟨bitsNum_lt _ _, fun p hp => ?_⟩
  rw [bitsNum_bit _ _ _ hp]
  have := hm (L + (k - 1 - p)) (by omega)
  simp [this]
end Go.Proofs.Ytlncjgnomhpjnaa
