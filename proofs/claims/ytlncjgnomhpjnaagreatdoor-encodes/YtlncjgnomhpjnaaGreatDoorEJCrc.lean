import Derived.Test.YtlncjgnomhpjnaaGreatDoorEJBase
import Derived.Test.YtlncjgnomhpjnaaGreatDoorEJCursor
/-
  Plain mathematics for the checks: the two ways to a remainder.
-/
namespace Go.Proofs.YtlncjgnomhpjnaaGreatDoor

/-- bit number j of a list of bytes, the highest bit of the first byte first -/
def msgBit (l : List UInt8) (j : Nat) : Bool := (l.getD (j / 8) 0).toNat.testBit (7 - j % 8)

/-- what i steps of the long division have turned at place j -/
def acc (k D : Nat) (m : Nat → Bool) : Nat → Nat → Bool
  | 0, _ => false
  | i + 1, j => acc k D m i j ^^ ((m i ^^ acc k D m i i) && (decide (i ≤ j) && decide (j ≤ i + k) && D.testBit (k - (j - i))))

theorem acc_far (k D : Nat) (m : Nat → Bool) : ∀ i j, i + k ≤ j → acc k D m i j = false
  | 0, _, _ => rfl
  | i + 1, j, h => by
    have h1 := acc_far k D m i j (by omega)
    have h2 : decide (j ≤ i + k) = false := by simp; omega
    simp [acc, h1, h2]

/-- the number that a running remainder holds: i bits are done, the byte that is under way ends at e -/
def Good (k D : Nat) (m : Nat → Bool) (i e R : Nat) : Prop :=
  R < 2 ^ k ∧ ∀ p, p < k → R.testBit p = (acc k D m i (i + (k - 1 - p)) ^^ (decide (i + (k - 1 - p) < e) && m (i + (k - 1 - p))))

theorem good_zero (k D : Nat) (m : Nat → Bool) : Good k D m 0 0 0 :=
  ⟨Nat.two_pow_pos _, fun p _ => by simp [acc]⟩

theorem good_inj {k D : Nat} {m : Nat → Bool} {i e R S : Nat} (h : Good k D m i e R) (g : Good k D m i e S) : R = S := by
  refine Nat.eq_of_testBit_eq fun p => ?_
  by_cases hp : p < k
  · rw [h.2 p hp, g.2 p hp]
  · have e1 : R.testBit p = false := Nat.testBit_lt_two_pow (Nat.lt_of_lt_of_le h.1 (Nat.pow_le_pow_right (by omega) (by omega)))
    have e2 : S.testBit p = false := Nat.testBit_lt_two_pow (Nat.lt_of_lt_of_le g.1 (Nat.pow_le_pow_right (by omega) (by omega)))
    rw [e1, e2]

/-- a byte comes in -/
theorem good_start {k D : Nat} {m : Nat → Bool} {i R c : Nat} (hk : 8 ≤ k) (hc : c < 256) (hm : ∀ x, x < 8 → m (i + x) = c.testBit (7 - x))
    (h : Good k D m i i R) : Good k D m i (i + 8) (R ^^^ c * 2 ^ (k - 8)) := by
  have hb : c * 2 ^ (k - 8) < 2 ^ k := by
    have e : 2 ^ k = 256 * 2 ^ (k - 8) := by
      have : k = 8 + (k - 8) := by omega
      rw [this, Nat.pow_add]; simp
    rw [e]
    exact Nat.mul_lt_mul_of_pos_right hc (Nat.two_pow_pos _)
  refine ⟨Nat.xor_lt_two_pow h.1 hb, fun p hp => ?_⟩
  rw [Nat.testBit_xor, h.2 p hp, Nat.mul_comm, Nat.testBit_two_pow_mul]
  by_cases hq : k - 8 ≤ p
  · have e1 : i + (k - 1 - p) < i + 8 := by omega
    have e2 : decide (i + (k - 1 - p) < i) = false := decide_eq_false (by omega)
    have e3 := hm (k - 1 - p) (by omega)
    have e4 : 7 - (k - 1 - p) = p - (k - 8) := by omega
    rw [e4] at e3
    simp [e1, e2, e3, hq]
  · have e1 : ¬ i + (k - 1 - p) < i + 8 := by omega
    have e2 : decide (i + (k - 1 - p) < i) = false := decide_eq_false (by omega)
    simp [e1, e2, hq]

theorem top_iff {k R : Nat} (hk : 1 ≤ k) (h : R < 2 ^ k) : (R * 2 / 2 ^ k = 1) ↔ R.testBit (k - 1) = true := by
  have e : 2 ^ k = 2 * 2 ^ (k - 1) := by
    have : k = (k - 1) + 1 := by omega
    rw [this, Nat.pow_succ]; simp [Nat.mul_comm]
  have e2 : R * 2 / 2 ^ k = R / 2 ^ (k - 1) := by
    rw [e, Nat.mul_comm R 2, Nat.mul_div_mul_left _ _ (by decide)]
  rw [e2, Nat.testBit_eq_decide_div_mod_eq]
  have lt : R / 2 ^ (k - 1) < 2 := by
    rw [Nat.div_lt_iff_lt_mul (Nat.two_pow_pos _)]; omega
  have : R / 2 ^ (k - 1) % 2 = R / 2 ^ (k - 1) := Nat.mod_eq_of_lt lt
  rw [this]; simp

theorem dbl_bit (R p : Nat) : (R * 2).testBit p = (decide (1 ≤ p) && R.testBit (p - 1)) := by
  have := Nat.testBit_two_pow_mul (i := 1) (a := R) (j := p)
  rw [Nat.mul_comm]; simpa using this

/-- a bit goes out, and it is a 1 -/
theorem good_yes {k D : Nat} {m : Nat → Bool} {i e R : Nat} (hk : 8 ≤ k) (hD : D < 2 ^ (k + 1)) (hD1 : D.testBit k = true) (hi : i < e) (he : e ≤ i + 8)
    (h : Good k D m i e R) (ht : R * 2 / 2 ^ k = 1) : Good k D m (i + 1) e ((R * 2) ^^^ D) := by
  have top : R.testBit (k - 1) = true := (top_iff (by omega) h.1).1 ht
  have t2 := h.2 (k - 1) (by omega)
  rw [top] at t2
  have z : k - 1 - (k - 1) = 0 := by omega
  rw [z, Nat.add_zero] at t2
  have t3 : (m i ^^ acc k D m i i) = true := by
    rw [t2]; simp [hi, Bool.xor_comm]
  constructor
  · have b1 : (R * 2) ^^^ D < 2 ^ (k + 1) := Nat.xor_lt_two_pow (by rw [Nat.pow_succ]; have := h.1; omega) hD
    apply Nat.lt_pow_two_of_testBit
    intro p hp
    by_cases e : p = k
    · subst e
      rw [Nat.testBit_xor, hD1, dbl_bit, top]
      simp; omega
    · exact Nat.testBit_lt_two_pow (Nat.lt_of_lt_of_le b1 (Nat.pow_le_pow_right (by omega) (by omega)))
  · intro p hp
    have e1 : i + 1 + (k - 1 - p) = i + (k - p) := by omega
    rw [Nat.testBit_xor, dbl_bit, e1]
    have e2 : acc k D m (i + 1) (i + (k - p)) = (acc k D m i (i + (k - p)) ^^ D.testBit p) := by
      have a1 : i ≤ i + (k - p) := by omega
      have a2 : i + (k - p) ≤ i + k := by omega
      have a3 : k - (i + (k - p) - i) = p := by omega
      simp only [acc, t3, a3]
      simp
    rw [e2]
    by_cases hp0 : 1 ≤ p
    · have e3 := h.2 (p - 1) (by omega)
      have e4 : k - 1 - (p - 1) = k - p := by omega
      rw [e4] at e3
      rw [e3]
      simp only [hp0, decide_true, Bool.true_and]
      cases acc k D m i (i + (k - p)) <;> cases D.testBit p <;> cases (decide (i + (k - p) < e) && m (i + (k - p))) <;> rfl
    · have e3 : p = 0 := by omega
      subst e3
      have e4 : acc k D m i (i + (k - 0)) = false := acc_far _ _ _ _ _ (by omega)
      have e5 : decide (i + (k - 0) < e) = false := decide_eq_false (by omega)
      rw [e4, e5]
      simp

/-- a bit goes out, and it is a 0 -/
theorem good_no {k D : Nat} {m : Nat → Bool} {i e R : Nat} (hk : 8 ≤ k) (hi : i < e) (he : e ≤ i + 8)
    (h : Good k D m i e R) (ht : ¬ R * 2 / 2 ^ k = 1) : Good k D m (i + 1) e (R * 2) := by
  have top : R.testBit (k - 1) = false := by
    cases hh : R.testBit (k - 1) with
    | false => rfl
    | true => exact absurd ((top_iff (by omega) h.1).2 hh) ht
  have t2 := h.2 (k - 1) (by omega)
  rw [top] at t2
  have z : k - 1 - (k - 1) = 0 := by omega
  rw [z, Nat.add_zero] at t2
  have t3 : (m i ^^ acc k D m i i) = false := by
    rw [t2]; simp [hi, Bool.xor_comm]
  constructor
  · have b1 : R * 2 < 2 ^ (k + 1) := by rw [Nat.pow_succ]; have := h.1; omega
    apply Nat.lt_pow_two_of_testBit
    intro p hp
    by_cases e : p = k
    · subst e
      rw [dbl_bit, top]
      simp
    · exact Nat.testBit_lt_two_pow (Nat.lt_of_lt_of_le b1 (Nat.pow_le_pow_right (by omega) (by omega)))
  · intro p hp
    have e1 : i + 1 + (k - 1 - p) = i + (k - p) := by omega
    rw [dbl_bit, e1]
    have e2 : acc k D m (i + 1) (i + (k - p)) = acc k D m i (i + (k - p)) := by
      simp only [acc, t3]
      simp
    rw [e2]
    by_cases hp0 : 1 ≤ p
    · have e3 := h.2 (p - 1) (by omega)
      have e4 : k - 1 - (p - 1) = k - p := by omega
      rw [e4] at e3
      rw [e3]
      simp [hp0]
    · have e3 : p = 0 := by omega
      subst e3
      have e4 : acc k D m i (i + (k - 0)) = false := acc_far _ _ _ _ _ (by omega)
      have e5 : decide (i + (k - 0) < e) = false := decide_eq_false (by omega)
      rw [e4, e5]
      simp

theorem msgBit_byte (l : List UInt8) (k x : Nat) (hx : x < 8) : msgBit l (8 * k + x) = (l.getD k 0).toNat.testBit (7 - x) := by
  unfold msgBit
  have h1 : (8 * k + x) / 8 = k := by omega
  have h2 : (8 * k + x) % 8 = x := by omega
  rw [h1, h2]

theorem msgBit_past (l : List UInt8) (j : Nat) (h : 8 * l.length ≤ j) : msgBit l j = false := by
  unfold msgBit
  have : l.getD (j / 8) 0 = 0 := by
    rw [List.getD_eq_getElem?_getD, List.getElem?_eq_none (by omega)]; rfl
  rw [this]; simp

theorem bitsNum_bit (f : Nat → Bool) : ∀ n p, p < n → (bitsNum f n).testBit p = f (n - 1 - p)
  | 0, _, h => absurd h (by omega)
  | n + 1, 0, _ => by
    simp only [bitsNum, Nat.testBit_zero]
    cases h : f n <;> simp [h] <;> omega
  | n + 1, p + 1, h => by
    have ih := bitsNum_bit f n p (by omega)
    have e : (2 * bitsNum f n + (f n).toNat) / 2 = bitsNum f n := by
      have : (f n).toNat ≤ 1 := Bool.toNat_le _
      omega
    simp only [bitsNum, Nat.testBit_succ, e, ih]
    congr 1; omega

/-- the long division's last bits are the running remainder -/
theorem good_bitsNum {k D : Nat} {m : Nat → Bool} {L : Nat} (hm : ∀ j, L ≤ j → m j = false) : Good k D m L L (bitsNum (fun x => m (L + x) ^^ acc k D m L (L + x)) k) := by
  refine ⟨bitsNum_lt _ _, fun p hp => ?_⟩
  rw [bitsNum_bit _ _ _ hp]
  have := hm (L + (k - 1 - p)) (by omega)
  simp [this]
end Go.Proofs.YtlncjgnomhpjnaaGreatDoor

/-
  The program's remainders.
-/
namespace Go.Proofs.YtlncjgnomhpjnaaGreatDoor
open Go.RowKit

theorem xor_i64 (a b : Nat) (ha : a < 4294967296) (hb : b < 4294967296) : bits .xor .i64 (a : Int) (b : Int) = ((a ^^^ b : Nat) : Int) := by
  have hx : a ^^^ b < 2 ^ 32 := Nat.xor_lt_two_pow (by omega) (by omega)
  have h1 : (BitVec.ofInt 64 (a : Int)).toNat = a := by
    rw [BitVec.ofInt_natCast, BitVec.toNat_ofNat]; exact Nat.mod_eq_of_lt (by omega)
  have h2 : (BitVec.ofInt 64 (b : Int)).toNat = b := by
    rw [BitVec.ofInt_natCast, BitVec.toNat_ofNat]; exact Nat.mod_eq_of_lt (by omega)
  show IntKind.i64.wrap ((BitVec.ofInt 64 (a : Int) ^^^ BitVec.ofInt 64 (b : Int)).toNat : Int) = _
  rw [BitVec.toNat_xor, h1, h2, IntKind.wrap_i64]
  omega

theorem getD_byte (s : ByteArray) (k : Nat) (h : k < s.size) : s.data.toList.getD k 0 = s[k] := by
  rw [List.getD_eq_getElem?_getD, List.getElem?_eq_getElem (by simpa using h)]; rfl

set_option maxHeartbeats 400000 in
theorem rem8_any (s : ByteArray) (w : World) (hs : s.size ≤ 2097152) :
    Calls Tryz.prog 146 #[.string s, .int .i64 8, .int .i64 263] w fun e w' => ∃ R : Nat, e = .returned (.int .i64 R) ∧ Good 8 263 (msgBit s.data.toList) (8 * s.size) (8 * s.size) R ∧ w' = w := by
  go_enter Tryz.func146, Tryz.ntmps146
  go_wp2
  go_loop [7, 11] (fun n i => ∃ k : Nat, ∃ R : Nat, k ≤ s.size ∧ i = .int .i64 k ∧ n = .int .i64 R ∧ Good 8 263 (msgBit s.data.toList) (8 * k) (8 * k) R) (fun _ i => s.size - (intOf i).toNat)
  case atStart => exact ⟨0, 0, Nat.zero_le _, rfl, rfl, good_zero _ _ _⟩
  case round =>
    obtain ⟨k, R, hk, rfl, rfl, hG⟩ := hrel
    by_cases hlt : k < s.size
    · have hc : s[k].toNat < 256 := UInt8.toNat_lt _
      have hR : R < 256 := hG.1
      have HG : Hid (Good 8 263 (msgBit s.data.toList) (8 * k) (8 * k + 8) (R ^^^ s[k].toNat)) := by
        have := good_start (c := s[k].toNat) (by decide) hc (fun x hx => by rw [msgBit_byte _ _ _ hx, getD_byte s k hlt]) hG
        show Good _ _ _ _ _ _
        simpa using this
      clear hG
      have hx := xor_i64 R s[k].toNat (by omega) (by omega)
      go_wp2
      go_loop [7, 23] (fun n i => ∃ t : Nat, ∃ R : Nat, t ≤ 8 ∧ i = .int .i64 t ∧ n = .int .i64 R ∧ Good 8 263 (msgBit s.data.toList) (8 * k + t) (8 * k + 8) R) (fun _ i => 8 - (intOf i).toNat)
      case atStart => exact ⟨0, _, Nat.zero_le _, rfl, rfl, HG.out⟩
      case round =>
        obtain ⟨t, Q, ht, rfl, rfl, hQ⟩ := hrel
        clear hx HG
        by_cases hlt8 : t < 8
        · have hQb : Q < 256 := hQ.1
          have hx2 := xor_i64 (Q * 2) 263 (by omega) (by omega)
          have HQ : Hid (Good 8 263 (msgBit s.data.toList) (8 * k + t) (8 * k + 8) Q) := hQ
          clear hQ
          go_wp2
          · have hh : ((Q : Int) * 2 / 256 == 1) = true := by assumption
            go_round
            case rel =>
              refine ⟨t + 1, _, by omega, by go_num, by simp only [Int.natCast_mul] at hx2; exact congrArg _ hx2, good_yes (i := 8 * k + t) (by decide) (by decide) (by decide) (by omega) (by omega) HQ.out ?_⟩
              simp at hh; omega
            case measure => simp [intOf]; omega
          · have hh : ((Q : Int) * 2 / 256 == 1) = false := by assumption
            go_round
            case rel =>
              refine ⟨t + 1, Q * 2, by omega, by go_num, by go_num, good_no (i := 8 * k + t) (by decide) (by omega) (by omega) HQ.out ?_⟩
              simp at hh; omega
            case measure => simp [intOf]; omega
        · have e : t = 8 := by omega
          subst e
          have HQ : Hid (Good 8 263 (msgBit s.data.toList) (8 * k + 8) (8 * k + 8) Q) := hQ
          clear hQ
          go_wp2
          go_round
          case rel => exact ⟨k + 1, Q, by omega, by go_num, rfl, HQ.out⟩
          case measure => simp [intOf]; omega
    · have e : k = s.size := by omega
      subst e
      have HG : Hid (Good 8 263 (msgBit s.data.toList) (8 * s.size) (8 * s.size) R) := hG
      clear hG
      go_wp2
      go_ret
      exact ⟨R, rfl, HG.out, rfl⟩

set_option maxHeartbeats 400000 in
theorem rem16_any (s : ByteArray) (w : World) (hs : s.size ≤ 2097152) :
    Calls Tryz.prog 146 #[.string s, .int .i64 16, .int .i64 98309] w fun e w' => ∃ R : Nat, e = .returned (.int .i64 R) ∧ Good 16 98309 (msgBit s.data.toList) (8 * s.size) (8 * s.size) R ∧ w' = w := by
  go_enter Tryz.func146, Tryz.ntmps146
  go_wp2
  go_loop [7, 11] (fun n i => ∃ k : Nat, ∃ R : Nat, k ≤ s.size ∧ i = .int .i64 k ∧ n = .int .i64 R ∧ Good 16 98309 (msgBit s.data.toList) (8 * k) (8 * k) R) (fun _ i => s.size - (intOf i).toNat)
  case atStart => exact ⟨0, 0, Nat.zero_le _, rfl, rfl, good_zero _ _ _⟩
  case round =>
    obtain ⟨k, R, hk, rfl, rfl, hG⟩ := hrel
    by_cases hlt : k < s.size
    · have hc : s[k].toNat < 256 := UInt8.toNat_lt _
      have hR : R < 65536 := hG.1
      have HG : Hid (Good 16 98309 (msgBit s.data.toList) (8 * k) (8 * k + 8) (R ^^^ s[k].toNat * 256)) := by
        have := good_start (c := s[k].toNat) (by decide) hc (fun x hx => by rw [msgBit_byte _ _ _ hx, getD_byte s k hlt]) hG
        show Good _ _ _ _ _ _
        simpa using this
      clear hG
      have hx := xor_i64 R (s[k].toNat * 256) (by omega) (by omega)
      go_wp2
      go_loop [7, 23] (fun n i => ∃ t : Nat, ∃ R : Nat, t ≤ 8 ∧ i = .int .i64 t ∧ n = .int .i64 R ∧ Good 16 98309 (msgBit s.data.toList) (8 * k + t) (8 * k + 8) R) (fun _ i => 8 - (intOf i).toNat)
      case atStart =>
        refine ⟨0, _, Nat.zero_le _, rfl, ?_, HG.out⟩
        simp only [Int.natCast_mul] at hx; exact congrArg _ hx
      case round =>
        obtain ⟨t, Q, ht, rfl, rfl, hQ⟩ := hrel
        clear hx HG
        by_cases hlt8 : t < 8
        · have hQb : Q < 65536 := hQ.1
          have hx2 := xor_i64 (Q * 2) 98309 (by omega) (by omega)
          have HQ : Hid (Good 16 98309 (msgBit s.data.toList) (8 * k + t) (8 * k + 8) Q) := hQ
          clear hQ
          go_wp2
          · have hh : ((Q : Int) * 2 / 65536 == 1) = true := by assumption
            go_round
            case rel =>
              refine ⟨t + 1, _, by omega, by go_num, by simp only [Int.natCast_mul] at hx2; exact congrArg _ hx2, good_yes (i := 8 * k + t) (by decide) (by decide) (by decide) (by omega) (by omega) HQ.out ?_⟩
              simp at hh; omega
            case measure => simp [intOf]; omega
          · have hh : ((Q : Int) * 2 / 65536 == 1) = false := by assumption
            go_round
            case rel =>
              refine ⟨t + 1, Q * 2, by omega, by go_num, by go_num, good_no (i := 8 * k + t) (by decide) (by omega) (by omega) HQ.out ?_⟩
              simp at hh; omega
            case measure => simp [intOf]; omega
        · have e : t = 8 := by omega
          subst e
          have HQ : Hid (Good 16 98309 (msgBit s.data.toList) (8 * k + 8) (8 * k + 8) Q) := hQ
          clear hQ
          go_wp2
          go_round
          case rel => exact ⟨k + 1, Q, by omega, by go_num, rfl, HQ.out⟩
          case measure => simp [intOf]; omega
    · have e : k = s.size := by omega
      subst e
      have HG : Hid (Good 16 98309 (msgBit s.data.toList) (8 * s.size) (8 * s.size) R) := hG
      clear hG
      go_wp2
      go_ret
      exact ⟨R, rfl, HG.out, rfl⟩
end Go.Proofs.YtlncjgnomhpjnaaGreatDoor

/-
  The bits of bytes, as the document spells them.
-/
namespace Go.Proofs.YtlncjgnomhpjnaaGreatDoor
open Go.RowKit

theorem info5 : (Tryz.prog.info? 5).map (fun i => (i.zero, i.size, i.bytes)) = some (some (.int .u8 0), 1, 1) := by kernel_rfl

def lv (b : Bool) : Int := if b then 49 else 48
theorem lv_lo (b : Bool) : 48 ≤ lv b := by cases b <;> decide
theorem lv_hi (b : Bool) : lv b ≤ 49 := by cases b <;> decide
theorem lv_ltr (b : Bool) : lv b = ((ltr b).toNat : Int) := by cases b <;> rfl
theorem lv_not (b : Bool) : 97 - lv b = lv (!b) := by cases b <;> rfl

/-- the letters that are laid already -/
def laidTo (m : Nat → Bool) (i j : Nat) : Int := if j < i then lv (m j) else 0
theorem laidTo_at (m : Nat → Bool) (k : Nat) : laidTo m (k + 1) k = lv (m k) := by unfold laidTo; rw [if_pos (by omega)]
theorem laidTo_other (m : Nat → Bool) (k j : Nat) (h : j ≠ k) : laidTo m (k + 1) j = laidTo m k j := by
  unfold laidTo
  by_cases e : j < k
  · rw [if_pos e, if_pos (by omega)]
  · rw [if_neg e, if_neg (by omega)]
/-- one letter more, the letter 0 laid first -/
theorem RowB.one {w : World} {b n k : Nat} {m : Nat → Bool} (h : RowB w b n (laidTo m k)) (hk : k < n) (hm : m k = true) :
    RowB ((w.setCell ⟨b, k, none⟩ (.int .u8 48)).setCell ⟨b, k, none⟩ (.int .u8 49)) b n (laidTo m (k + 1)) := by
  have h1 : RowB (w.setCell ⟨b, k, none⟩ (.int .u8 48)) b n (fun j => if j = k then 48 else laidTo m k j) :=
    h.set k 48 hk (by simp) (fun j _ hj => by simp [hj])
  refine h1.set k 49 hk (by rw [laidTo_at, hm]; rfl) (fun j _ hj => ?_)
  rw [laidTo_other _ _ _ hj]; simp [hj]
theorem RowB.nought {w : World} {b n k : Nat} {m : Nat → Bool} (h : RowB w b n (laidTo m k)) (hk : k < n) (hm : m k = false) :
    RowB (w.setCell ⟨b, k, none⟩ (.int .u8 48)) b n (laidTo m (k + 1)) :=
  h.set k 48 hk (by rw [laidTo_at, hm]; rfl) (fun j _ hj => laidTo_other _ _ _ hj)

set_option maxRecDepth 4000 in
set_option maxHeartbeats 1000000 in
theorem spelt_any (s : ByteArray) (w : World) (hs : s.size ≤ 2097152) :
    Calls Tryz.prog 126 #[.string s] w fun e w' => e = .returned (.string (strOf (fun j => ltr (msgBit s.data.toList j)) (8 * s.size))) ∧ Up w w' := by
  obtain ⟨i0, hi, hz0, hz1, hz2⟩ := info_parts info5
  have hmk : ∀ u : World, (Instr.makeSlice 61 (.int .i64 (8 * (s.size : Int))) (.int .i64 (8 * (s.size : Int)))).run Tryz.prog u =
      .ok (.slice (some ⟨u.heap.size, 0, none⟩) (8 * s.size) (8 * s.size)) (u.alloc (.cells (madeCells #[.int .u8 0] (8 * s.size)) 5)) := fun u => by
    have h := run_make (P := Tryz.prog) u 61 5 i0 (.int .u8 0) Tryz.underlying61 hi hz0 .i64 .i64 (8 * (s.size : Int)) (8 * (s.size : Int)) (by omega) (Int.le_refl _) (by rw [hz2]; omega) (by omega)
    have e : (8 * (s.size : Int)).toNat = 8 * s.size := by omega
    rw [e] at h
    simpa [hz1, Value.cells] using h
  go_enter Tryz.func126, Tryz.ntmps126
  go_wp2
  clear hmk
  go_loopw [4] (fun i wr => ∃ k : Nat, k ≤ 8 * s.size ∧ i = .int .i64 k ∧ Up w wr ∧ w.heap.size < wr.heap.size ∧ RowB wr w.heap.size (8 * s.size) (laidTo (msgBit s.data.toList) k)) (fun i _ => 8 * s.size - (intOf i).toNat)
  case atStart =>
    refine ⟨0, Nat.zero_le _, rfl, (Up.refl _).alloc _ _, by simp, ?_⟩
    exact RowB.made w _ _
  case round =>
    obtain ⟨k, hk, rfl, hup, hsz, hrow⟩ := hrel
    by_cases hlt : k < 8 * s.size
    · have hc1 : wr.cell? ⟨w.heap.size, k, none⟩ = some (.int .u8 (laidTo (msgBit s.data.toList) k k)) := hrow k hlt
      have hf1 : wr.frozen? ⟨w.heap.size, k, none⟩ = false := hup.free (Nat.le_refl _)
      have hq0 : 0 ≤ (k : Int) / 8 := by omega
      have hq1 : (k : Int) / 8 < (s.size : Int) := by omega
      have hq2 : IntKind.i64.wrap ((k : Int) / 8) = (k : Int) / 8 := by rw [IntKind.wrap_i64]; omega
      have hq3 : k / 8 < s.size := by omega
      have hq4 : s[k / 8].toNat < 256 := UInt8.toNat_lt _
      have hq5 : (1 : Int) ≤ 2 ^ (7 - k % 8) := by have : 0 < 2 ^ (7 - k % 8) := Nat.two_pow_pos _; exact_mod_cast this
      have hq6 : (2 : Int) ^ (7 - k % 8) ≤ 128 := by have : 2 ^ (7 - k % 8) ≤ 2 ^ 7 := Nat.pow_le_pow_right (by omega) (by omega); exact_mod_cast this
      have hq7 : 0 ≤ (s[k / 8].toNat : Int) / 2 ^ (7 - k % 8) := Int.ediv_nonneg (by omega) (by omega)
      have hq8 : (s[k / 8].toNat : Int) / 2 ^ (7 - k % 8) ≤ 255 := Int.le_trans (Int.ediv_le_self _ (by omega)) (by omega)
      have hbit : ((s[k / 8].toNat : Int) / 2 ^ (7 - k % 8) % 2 == 1) = msgBit s.data.toList k := by
        unfold msgBit
        rw [getD_byte s _ hq3, Nat.testBit_eq_decide_div_mod_eq, Bool.eq_iff_iff]
        simp only [beq_iff_eq, decide_eq_true_eq]
        constructor
        · intro h; exact_mod_cast h
        · intro h; exact_mod_cast h
      by_cases hb : msgBit s.data.toList k = true
      · rw [hb] at hbit
        go_wp2
        go_region
        all_goals go_wp2
        all_goals go_roundw
        case rel => exact ⟨k + 1, by omega, by go_num, ((hup.setCell (Nat.le_refl _) _).setCell (Nat.le_refl _) _).drew, by simpa using hsz, (hrow.one hlt hb).drew⟩
        case measure => simp [intOf]; omega
      · have hb' : msgBit s.data.toList k = false := by simpa using hb
        rw [hb'] at hbit
        go_wp2
        go_region
        all_goals go_wp2
        all_goals go_roundw
        case rel => exact ⟨k + 1, by omega, by go_num, (hup.setCell (Nat.le_refl _) _).drew, by simpa using hsz, (hrow.nought hlt hb').drew⟩
        case measure => simp [intOf]; omega
    · have hcv := run_rowString (P := Tryz.prog) wr 61 9 5 w.heap.size 0 (8 * s.size) (8 * s.size) (fun j => ltr (msgBit s.data.toList j)) Tryz.underlying61 Tryz.underlying5 Tryz.underlying9 (fun j hj => by
        rw [Nat.zero_add, hrow j hj]; unfold laidTo; rw [if_pos (by omega), lv_ltr])
      go_wp2
      go_ret
      exact ⟨rfl, hup⟩
end Go.Proofs.YtlncjgnomhpjnaaGreatDoor

namespace Go.Proofs.YtlncjgnomhpjnaaGreatDoor
open Go.RowKit

/-- the row behind i rounds of the division -/
def divRow (K D : Nat) (m : Nat → Bool) (i x : Nat) : Int := lv (m x ^^ acc K D m i x)
def leftBit (K D : Nat) (m : Nat → Bool) (L x : Nat) : Bool := m (L + x) ^^ acc K D m L (L + x)
/-- the row inside a round -/
def inRow (K D : Nat) (m : Nat → Bool) (i j x : Nat) : Int := lv (m x ^^ acc K D m i x ^^ (decide (i ≤ x) && decide (x < i + j) && D.testBit (K - (x - i))))

theorem inRow_zero (K D : Nat) (m : Nat → Bool) (i x : Nat) : inRow K D m i 0 x = divRow K D m i x := by
  unfold inRow divRow
  have : (decide (i ≤ x) && decide (x < i + 0)) = false := by simp
  rw [this]; simp
theorem inRow_other (K D : Nat) (m : Nat → Bool) (i j x : Nat) (h : x ≠ i + j) : inRow K D m i (j + 1) x = inRow K D m i j x := by
  unfold inRow
  have : decide (x < i + (j + 1)) = decide (x < i + j) := by rw [decide_eq_decide]; omega
  rw [this]
theorem inRow_yes (K D : Nat) (m : Nat → Bool) (i j : Nat) (h : D.testBit (K - j) = true) : inRow K D m i (j + 1) (i + j) = 97 - inRow K D m i j (i + j) := by
  unfold inRow
  have a : i + j - i = j := by omega
  rw [lv_not, a, h]
  have b : decide (i + j < i + (j + 1)) = true := decide_eq_true (by omega)
  have c : decide (i + j < i + j) = false := decide_eq_false (by omega)
  have d : decide (i ≤ i + j) = true := decide_eq_true (by omega)
  rw [b, c, d]
  cases m (i + j) <;> cases acc K D m i (i + j) <;> rfl
theorem inRow_no (K D : Nat) (m : Nat → Bool) (i j x : Nat) (h : D.testBit (K - j) = false) : inRow K D m i (j + 1) x = inRow K D m i j x := by
  by_cases e : x = i + j
  · subst e
    unfold inRow
    have a : i + j - i = j := by omega
    rw [a, h]; simp
  · exact inRow_other K D m i j x e
theorem inRow_full (K D : Nat) (m : Nat → Bool) (i x : Nat) (h : (m i ^^ acc K D m i i) = true) : inRow K D m i (K + 1) x = divRow K D m (i + 1) x := by
  unfold inRow divRow
  simp only [acc, h]
  have : decide (x < i + (K + 1)) = decide (x ≤ i + K) := by rw [decide_eq_decide]; omega
  rw [this]; simp
theorem divRow_no (K D : Nat) (m : Nat → Bool) (i x : Nat) (h : (m i ^^ acc K D m i i) = false) : divRow K D m (i + 1) x = divRow K D m i x := by
  unfold divRow
  simp only [acc, h]; simp
theorem divRow_zero (K D : Nat) (m : Nat → Bool) (x n : Nat) (h : x < n) : divRow K D m 0 x = laidTo m n x := by
  unfold divRow laidTo
  rw [if_pos h]; simp [acc]
theorem RowB.congr {w : World} {b n : Nat} {f g : Nat → Int} (h : RowB w b n f) (e : ∀ j, j < n → g j = f j) : RowB w b n g :=
  fun j hj => by rw [h j hj, e j hj]

theorem RowB.put {w : World} {b n k : Nat} {m : Nat → Bool} {v : Int} (h : RowB w b n (laidTo m k)) (hk : k < n) (hv : v = lv (m k)) :
    RowB ((w.setCell ⟨b, k, none⟩ (.int .u8 48)).setCell ⟨b, k, none⟩ (.int .u8 v)) b n (laidTo m (k + 1)) := by
  have h1 : RowB (w.setCell ⟨b, k, none⟩ (.int .u8 48)) b n (fun j => if j = k then 48 else laidTo m k j) :=
    h.set k 48 hk (by simp) (fun j _ hj => by simp [hj])
  refine h1.set k v hk (by rw [laidTo_at, hv]) (fun j _ hj => ?_)
  rw [laidTo_other _ _ _ hj]; simp [hj]
theorem ltr_eq (b : Bool) : ((ltr b).toNat : Int) = lv b := (lv_ltr b).symm
theorem lv_test (b : Bool) : (lv b == 49) = b := by cases b <;> rfl

set_option maxRecDepth 4000 in
set_option maxHeartbeats 2000000 in
theorem left_any (t by' : ByteArray) (w : World) (K D : Nat) (m : Nat → Bool) (ht : t.size ≤ 16777216) (hK0 : 1 ≤ K) (hK : K ≤ 16) (hby : by'.size = K + 1)
    (htm : ∀ j (h : j < t.size), t[j] = ltr (m j)) (hm : ∀ j, t.size ≤ j → m j = false) (hbm : ∀ j (h : j < by'.size), by'[j] = ltr (D.testBit (K - j))) :
    Calls Tryz.prog 152 #[.string t, .string by'] w fun e w' => e = .returned (.int .i64 (bitsNum (leftBit K D m t.size) K)) ∧ Up w w' := by
  obtain ⟨i0, hi, hz0, hz1, hz2⟩ := info_parts info5
  have hmk : ∀ u : World, (Instr.makeSlice 61 (.int .i64 ((t.size : Int) + (K : Int))) (.int .i64 ((t.size : Int) + (K : Int)))).run Tryz.prog u =
      .ok (.slice (some ⟨u.heap.size, 0, none⟩) (t.size + K) (t.size + K)) (u.alloc (.cells (madeCells #[.int .u8 0] (t.size + K)) 5)) := fun u => by
    have h := run_make (P := Tryz.prog) u 61 5 i0 (.int .u8 0) Tryz.underlying61 hi hz0 .i64 .i64 ((t.size : Int) + (K : Int)) ((t.size : Int) + (K : Int)) (by omega) (Int.le_refl _) (by rw [hz2]; omega) (by omega)
    have e : ((t.size : Int) + (K : Int)).toNat = t.size + K := by omega
    rw [e] at h
    simpa [hz1, Value.cells] using h
  have hk1 : (by'.size : Int) - 1 = (K : Int) := by omega
  have HBY : Hid (by'.size = K + 1) := hby
  have HTM : Hid (∀ j (h : j < t.size), t[j] = ltr (m j)) := htm
  have HBM : Hid (∀ j (h : j < by'.size), by'[j] = ltr (D.testBit (K - j))) := hbm
  have HM : Hid (∀ j, t.size ≤ j → m j = false) := hm
  clear hby hi hz0 hz1 hz2 htm hbm hm
  go_enter Tryz.func152, Tryz.ntmps152
  go_wp2
  clear hmk
  go_loopw [7] (fun i wr => ∃ k : Nat, k ≤ t.size + K ∧ i = .int .i64 k ∧ Up w wr ∧ w.heap.size < wr.heap.size ∧ RowB wr w.heap.size (t.size + K) (laidTo m k)) (fun i _ => t.size + K - (intOf i).toNat)
  case atStart =>
    refine ⟨0, Nat.zero_le _, rfl, (Up.refl _).alloc _ _, by simp, ?_⟩
    exact RowB.made w _ _
  case round =>
    obtain ⟨k, hk, rfl, hup, hsz, hrow⟩ := hrel
    by_cases hlt : k < t.size + K
    · have hc1 : wr.cell? ⟨w.heap.size, k, none⟩ = some (.int .u8 (laidTo m k k)) := hrow k hlt
      have hf1 : wr.frozen? ⟨w.heap.size, k, none⟩ = false := hup.free (Nat.le_refl _)
      by_cases hkt : k < t.size
      · have HV : Hid ((t[k].toNat : Int) = lv (m k)) := by show _ = _; rw [HTM.out k hkt, ltr_eq]
        go_wp2
        go_roundw
        case rel => exact ⟨k + 1, by omega, by go_num, ((hup.setCell (Nat.le_refl _) _).setCell (Nat.le_refl _) _), by simpa using hsz, hrow.put hlt HV.out⟩
        case measure => simp [intOf]; omega
      · have HM1 : Hid (m k = false) := HM.out k (by omega)
        go_wp2
        go_roundw
        case rel => exact ⟨k + 1, by omega, by go_num, hup.setCell (Nat.le_refl _) _, by simpa using hsz, hrow.nought hlt HM1.out⟩
        case measure => simp [intOf]; omega
    · have e : k = t.size + K := by omega
      subst e
      have HR : Hid (RowB wr w.heap.size (t.size + K) (divRow K D m 0)) := hrow.congr fun j hj => divRow_zero K D m j _ hj
      clear hrow
      clear hk hlt
      go_wp2
      go_loopw [8] (fun i wr => ∃ k : Nat, k ≤ t.size ∧ i = .int .i64 k ∧ Up w wr ∧ w.heap.size < wr.heap.size ∧ RowB wr w.heap.size (t.size + K) (divRow K D m k)) (fun i _ => t.size - (intOf i).toNat)
      case atStart => exact ⟨0, Nat.zero_le _, rfl, hup, hsz, HR.out⟩
      case round =>
        clear HR hup hsz
        obtain ⟨i, hit, rfl, hup, hsz, hrow⟩ := hrel
        by_cases hlt : i < t.size
        · have hc1 : wr.cell? ⟨w.heap.size, i, none⟩ = some (.int .u8 (divRow K D m i i)) := hrow i (by omega)
          have HB : Hid ((divRow K D m i i == 49) = (m i ^^ acc K D m i i)) := lv_test _
          by_cases hb : (m i ^^ acc K D m i i) = true
          · have hb1 : (divRow K D m i i == 49) = true := by rw [HB.out, hb]
            have HI : Hid (RowB wr w.heap.size (t.size + K) (inRow K D m i 0)) := hrow.congr fun j _ => inRow_zero K D m i j
            clear hrow
            go_wp2
            go_loopw [9] (fun i' wr => ∃ j : Nat, j ≤ K + 1 ∧ i' = .int .i64 j ∧ Up w wr ∧ w.heap.size < wr.heap.size ∧ RowB wr w.heap.size (t.size + K) (inRow K D m i j)) (fun i' _ => K + 1 - (intOf i').toNat)
            case atStart => exact ⟨0, Nat.zero_le _, rfl, hup, hsz, HI.out⟩
            case round =>
              clear HI hup hsz hc1 hb1
              obtain ⟨j, hj, rfl, hup, hsz, hrow⟩ := hrel
              by_cases hjk : j ≤ K
              · have hjb : j < by'.size := by rw [HBY.out]; omega
                have HT : Hid (((by'[j].toNat : Int) == 49) = D.testBit (K - j)) := by show _ = _; rw [HBM.out j hjb, ltr_eq, lv_test]
                have hc1 : wr.cell? ⟨w.heap.size, i + j, none⟩ = some (.int .u8 (inRow K D m i j (i + j))) := hrow (i + j) (by omega)
                have hf1 : wr.frozen? ⟨w.heap.size, i + j, none⟩ = false := hup.free (Nat.le_refl _)
                have hl1 : 48 ≤ inRow K D m i j (i + j) := lv_lo _
                have hl2 : inRow K D m i j (i + j) ≤ 49 := lv_hi _
                by_cases hd : D.testBit (K - j) = true
                · have ht1 : ((by'[j].toNat : Int) == 49) = true := by rw [HT.out, hd]
                  go_wp2
                  go_roundw
                  case rel => exact ⟨j + 1, by omega, by go_num, hup.setCell (Nat.le_refl _) _, by simpa using hsz, hrow.set (i + j) _ (by omega) (inRow_yes K D m i j hd) (fun x _ hx => inRow_other K D m i j x hx)⟩
                  case measure => simp [intOf]; omega
                · have hd0 : D.testBit (K - j) = false := by simpa using hd
                  have ht1 : ((by'[j].toNat : Int) == 49) = false := by rw [HT.out, hd0]
                  go_wp2
                  go_roundw
                  case rel => exact ⟨j + 1, by omega, by go_num, hup, hsz, hrow.congr fun x _ => inRow_no K D m i j x hd0⟩
                  case measure => simp [intOf]; omega
              · have e : j = K + 1 := by omega
                subst e
                go_wp2
                go_roundw
                case rel => exact ⟨i + 1, by omega, by go_num, hup, hsz, hrow.congr fun x _ => (inRow_full K D m i x hb).symm⟩
                case measure => simp [intOf]; omega
          · have hb0 : (m i ^^ acc K D m i i) = false := by simpa using hb
            have hb1 : (divRow K D m i i == 49) = false := by rw [HB.out, hb0]
            go_wp2
            go_roundw
            case rel => exact ⟨i + 1, by omega, by go_num, hup, hsz, hrow.congr fun j _ => divRow_no K D m i j hb0⟩
            case measure => simp [intOf]; omega
        · have e : i = t.size := by omega
          subst e
          have hcv := run_rowString (P := Tryz.prog) wr 61 9 5 w.heap.size t.size K K (fun x => ltr (leftBit K D m t.size x)) Tryz.underlying61 Tryz.underlying5 Tryz.underlying9 (fun j hj => by
            rw [hrow _ (by omega)]; unfold divRow leftBit; rw [lv_ltr])
          have hnum := fun u => number_any (strOf (fun x => ltr (leftBit K D m t.size x)) K) u (by rw [strOf_size]; omega) (leftBit K D m t.size) (fun j h => by rw [strOf_get])
          rw [strOf_size] at hnum
          go_wp2_with (go_at_call 151; refine (hnum _).mono ?_; rintro e w' ⟨rfl, rfl⟩)
          go_ret
          exact ⟨rfl, hup⟩
end Go.Proofs.YtlncjgnomhpjnaaGreatDoor

namespace Go.Proofs.YtlncjgnomhpjnaaGreatDoor
open Go.RowKit

/-- the remainder of bytes -/
def crc (k D : Nat) (l : List UInt8) : Nat := bitsNum (leftBit k D (msgBit l) (8 * l.length)) k
theorem crc_good (k D : Nat) (l : List UInt8) : Good k D (msgBit l) (8 * l.length) (8 * l.length) (crc k D l) :=
  good_bitsNum fun j h => msgBit_past l j h
theorem crc_eq {k D R : Nat} {s : ByteArray} (h : Good k D (msgBit s.data.toList) (8 * s.size) (8 * s.size) R) : R = crc k D s.data.toList := by
  have e : s.data.toList.length = s.size := by simp
  rw [← e] at h
  exact good_inj h (crc_good k D _)

theorem eight_any (s : ByteArray) (w : World) (hs : s.size ≤ 2097152) :
    Calls Tryz.prog 147 #[.string s] w fun e w' => e = .returned (.int .i64 (crc 8 263 s.data.toList)) ∧ w' = w := by
  go_enter Tryz.func147, Tryz.ntmps147
  go_wp2_with (go_at_call 146; refine (rem8_any _ _ hs).mono ?_; rintro e w' ⟨R, rfl, hG, rfl⟩)
  go_ret
  exact ⟨ret_int (by rw [crc_eq hG]), rfl⟩
theorem sixteen_any (s : ByteArray) (w : World) (hs : s.size ≤ 2097152) :
    Calls Tryz.prog 106 #[.string s] w fun e w' => e = .returned (.int .i64 (crc 16 98309 s.data.toList)) ∧ w' = w := by
  go_enter Tryz.func106, Tryz.ntmps106
  go_wp2_with (go_at_call 146; refine (rem16_any _ _ hs).mono ?_; rintro e w' ⟨R, rfl, hG, rfl⟩)
  go_ret
  exact ⟨ret_int (by rw [crc_eq hG]), rfl⟩

theorem div8 : ∀ j (h : j < (ByteArray.mk #[49, 48, 48, 48, 48, 48, 49, 49, 49]).size), (ByteArray.mk #[49, 48, 48, 48, 48, 48, 49, 49, 49])[j] = ltr (Nat.testBit 263 (8 - j)) := by decide
theorem div16 : ∀ j (h : j < (ByteArray.mk #[49, 49, 48, 48, 48, 48, 48, 48, 48, 48, 48, 48, 48, 48, 49, 48, 49]).size), (ByteArray.mk #[49, 49, 48, 48, 48, 48, 48, 48, 48, 48, 48, 48, 48, 48, 49, 48, 49])[j] = ltr (Nat.testBit 98309 (16 - j)) := by decide

theorem ref8_any (s : ByteArray) (w : World) (hs : s.size ≤ 2097152) :
    Calls Tryz.prog 112 #[.string s] w fun e w' => e = .returned (.int .i64 (crc 8 263 s.data.toList)) ∧ Up w w' := by
  have hl := fun u => left_any (strOf (fun j => ltr (msgBit s.data.toList j)) (8 * s.size)) ⟨#[49, 48, 48, 48, 48, 48, 49, 49, 49]⟩ u 8 263 (msgBit s.data.toList)
    (by rw [strOf_size]; omega) (by decide) (by decide) rfl (fun j h => by rw [strOf_get]) (fun j h => by rw [strOf_size] at h; exact msgBit_past _ _ (by simpa using h)) div8
  rw [strOf_size] at hl
  have HE : Hid (8 * s.size = 8 * s.data.toList.length) := by show _ = _; simp
  go_enter Tryz.func112, Tryz.ntmps112
  go_wp2_with (first | (go_at_call 126; refine (spelt_any _ _ hs).mono ?_; rintro e w1 ⟨rfl, hu1⟩) | (go_at_call 152; refine (hl _).mono ?_; rintro e w2 ⟨rfl, hu2⟩))
  go_ret
  exact ⟨ret_int (by unfold crc; rw [HE.out]), hu1.trans hu2⟩
theorem ref16_any (s : ByteArray) (w : World) (hs : s.size ≤ 2097152) :
    Calls Tryz.prog 113 #[.string s] w fun e w' => e = .returned (.int .i64 (crc 16 98309 s.data.toList)) ∧ Up w w' := by
  have hl := fun u => left_any (strOf (fun j => ltr (msgBit s.data.toList j)) (8 * s.size)) ⟨#[49, 49, 48, 48, 48, 48, 48, 48, 48, 48, 48, 48, 48, 48, 49, 48, 49]⟩ u 16 98309 (msgBit s.data.toList)
    (by rw [strOf_size]; omega) (by decide) (by decide) rfl (fun j h => by rw [strOf_get]) (fun j h => by rw [strOf_size] at h; exact msgBit_past _ _ (by simpa using h)) div16
  rw [strOf_size] at hl
  have HE : Hid (8 * s.size = 8 * s.data.toList.length) := by show _ = _; simp
  go_enter Tryz.func113, Tryz.ntmps113
  go_wp2_with (first | (go_at_call 126; refine (spelt_any _ _ hs).mono ?_; rintro e w1 ⟨rfl, hu1⟩) | (go_at_call 152; refine (hl _).mono ?_; rintro e w2 ⟨rfl, hu2⟩))
  go_ret
  exact ⟨ret_int (by unfold crc; rw [HE.out]), hu1.trans hu2⟩

end Go.Proofs.YtlncjgnomhpjnaaGreatDoor

