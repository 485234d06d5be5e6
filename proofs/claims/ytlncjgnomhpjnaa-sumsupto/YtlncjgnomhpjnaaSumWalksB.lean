import Derived.Test.YtlncjgnomhpjnaaSumWalks
import Derived.Test.YtlncjgnomhpjnaaSumCrc
namespace Go.Proofs.Ytlncjgnomhpjnaa
open Go.RowKit

theorem mod_step (B n v : Nat) : (B % 65521 + n % 65521 * v) % 65521 = (B + n * v) % 65521 := by
  rw [Nat.add_mod, Nat.mod_mod, Nat.mod_mul_mod, ← Nat.add_mod]
theorem refSum_step (B n v : Nat) : ((B : Int) % 65521 + (n : Int) % 65521 * (v : Int)) % 65521 = (((B + n * v) % 65521 : Nat) : Int) := by
  rw [← mod_step]; simp

set_option maxHeartbeats 400000 in
/-- the document's sum -/
theorem refSum_any (s : ByteArray) (w : World) (hs : s.size ≤ 2097152) :
    Calls Try.prog 23 #[.string s] w fun e w' => e = .returned (.int .i64 (65536 * ((sB s.data.toList % 65521 : Nat) : Int) + ((sA s.data.toList % 65521 : Nat) : Int))) ∧ w' = w := by
  go_enter Try.func23, Try.ntmps23
  go_wp2
  go_loop [4, 5, 6] (fun a b i => ∃ k : Nat, k ≤ s.size ∧ i = .int .i64 k ∧ a = .int .i64 ((sA (s.data.toList.take k) % 65521 : Nat) : Int) ∧ b = .int .i64 ((sR s.size (s.data.toList.take k) % 65521 : Nat) : Int)) (fun _ _ i => s.size - (intOf i).toNat)
  case atStart => exact ⟨0, Nat.zero_le _, rfl, rfl, rfl⟩
  case round =>
    obtain ⟨k, hk, rfl, rfl, rfl⟩ := hrel
    by_cases hlt : k < s.size
    · have hc : s[k].toNat < 256 := UInt8.toNat_lt _
      have HA : Hid (sA (s.data.toList.take (k + 1)) = sA (s.data.toList.take k) + s[k].toNat) := by
        show _ = _; rw [take_snoc s k hlt, sA_snoc]
      have HB : Hid (sR s.size (s.data.toList.take (k + 1)) = sR s.size (s.data.toList.take k) + (s.size - k) * s[k].toNat) := by
        show _ = _; rw [take_snoc s k hlt, sR_snoc]; rw [List.length_take, Nat.min_eq_left (by simp; omega)]
      generalize sA (s.data.toList.take k) = A at *
      generalize sR s.size (s.data.toList.take k) = B at *
      have h1 : A % 65521 < 65521 := Nat.mod_lt _ (by decide)
      have h2 : B % 65521 < 65521 := Nat.mod_lt _ (by decide)
      have h4 : ((s.size : Int) - (k : Int)) % 65521 * (s[k].toNat : Int) ≤ 16777216 := by
        have := Int.emod_lt_of_pos ((s.size : Int) - (k : Int)) (b := 65521) (by decide)
        have h0 := Int.emod_nonneg ((s.size : Int) - (k : Int)) (b := 65521) (by decide)
        have : ((s.size : Int) - (k : Int)) % 65521 * (s[k].toNat : Int) ≤ 65521 * 256 := Int.mul_le_mul (by omega) (by omega) (by omega) (by omega)
        omega
      have h5 : 0 ≤ ((s.size : Int) - (k : Int)) % 65521 * (s[k].toNat : Int) := Int.mul_nonneg (Int.emod_nonneg _ (by decide)) (by omega)
      go_wp2
      go_round
      case rel =>
        refine ⟨k + 1, by omega, by go_num, by rw [HA.out]; go_num, ?_⟩
        rw [HB.out]
        have e : ((s.size : Int) - (k : Int)) = ((s.size - k : Nat) : Int) := by omega
        rw [e, refSum_step]
      case measure => simp [intOf]; omega
    · go_wp2
      go_ret
      refine ⟨ret_int ?_, rfl⟩
      have e : s.data.toList.length = s.size := by simp
      rw [List.take_of_length_le (by omega), ← e, sR_full]

/-- a letter for a bit -/
def ltr (b : Bool) : UInt8 := if b then 49 else 48
theorem ltr_nat (b : Bool) : (ltr b).toNat = 48 + b.toNat := by cases b <;> rfl

set_option maxHeartbeats 400000 in
theorem number_any (s : ByteArray) (w : World) (hs : s.size ≤ 32) (f : Nat → Bool) (hf : ∀ j (h : j < s.size), s[j] = ltr (f j)) :
    Calls Try.prog 40 #[.string s] w fun e w' => e = .returned (.int .i64 (bitsNum f s.size)) ∧ w' = w := by
  go_enter Try.func40, Try.ntmps40
  go_wp2
  go_loop [3, 4] (fun n i => ∃ k : Nat, k ≤ s.size ∧ i = .int .i64 k ∧ n = .int .i64 (bitsNum f k)) (fun _ i => s.size - (intOf i).toNat)
  case atStart => exact ⟨0, Nat.zero_le _, rfl, rfl⟩
  case round =>
    obtain ⟨k, hk, rfl, rfl⟩ := hrel
    by_cases hlt : k < s.size
    · have HF : Hid (bitsNum f (k + 1) = 2 * bitsNum f k + (f k).toNat) := rfl
      have h1 := bitsNum_lt f k
      have h2 : 2 ^ k ≤ 2 ^ 32 := Nat.pow_le_pow_right (by omega) (by omega)
      have HT : Hid (s[k].toNat = 48 + (f k).toNat) := by show _ = _; rw [hf k hlt, ltr_nat]
      have h3 : 48 ≤ s[k].toNat := by rw [HT.out]; omega
      have h4 : s[k].toNat ≤ 49 := by rw [HT.out]; have := Bool.toNat_le (f k); omega
      have h5 : bitsNum f k ≤ 4294967296 := by omega
      clear hf h1 h2
      go_wp2
      go_round
      case rel => exact ⟨k + 1, by omega, by go_num, by rw [HF.out]; have := HT.out; go_num⟩
      case measure => simp [intOf]; omega
    · have e : k = s.size := by omega
      subst e
      go_wp2
      go_ret
      exact ⟨rfl, rfl⟩

theorem xor_i64 (a b : Nat) (ha : a < 4294967296) (hb : b < 4294967296) : bits .xor .i64 (a : Int) (b : Int) = ((a ^^^ b : Nat) : Int) := by
  have hx : a ^^^ b < 2 ^ 32 := Nat.xor_lt_two_pow (by omega) (by omega)
  have h1 : (BitVec.ofInt 64 (a : Int)).toNat = a := by
    rw [BitVec.ofInt_natCast, BitVec.toNat_ofNat]; exact Nat.mod_eq_of_lt (by omega)
  have h2 : (BitVec.ofInt 64 (b : Int)).toNat = b := by
    rw [BitVec.ofInt_natCast, BitVec.toNat_ofNat]; exact Nat.mod_eq_of_lt (by omega)
  show IntKind.i64.wrap ((BitVec.ofInt 64 (a : Int) ^^^ BitVec.ofInt 64 (b : Int)).toNat : Int) = _
  rw [BitVec.toNat_xor, h1, h2, IntKind.wrap_i64]
  omega

theorem getD_byte (s : ByteArray) (k : Nat) (h : k < s.size) : s.data.toList.getD k 0 = s[k] := by
  rw [List.getD_eq_getElem?_getD, List.getElem?_eq_getElem (by simpa using h)]; rfl

set_option maxHeartbeats 400000 in
theorem rem8_any (s : ByteArray) (w : World) (hs : s.size ≤ 2097152) :
    Calls Try.prog 34 #[.string s, .int .i64 8, .int .i64 263] w fun e w' => ∃ R : Nat, e = .returned (.int .i64 R) ∧ Good 8 263 (msgBit s.data.toList) (8 * s.size) (8 * s.size) R ∧ w' = w := by
  go_enter Try.func34, Try.ntmps34
  go_wp2
  go_loop [7, 11] (fun n i => ∃ k : Nat, ∃ R : Nat, k ≤ s.size ∧ i = .int .i64 k ∧ n = .int .i64 R ∧ Good 8 263 (msgBit s.data.toList) (8 * k) (8 * k) R) (fun _ i => s.size - (intOf i).toNat)
  case atStart => exact ⟨0, 0, Nat.zero_le _, rfl, rfl, good_zero _ _ _⟩
  case round =>
    obtain ⟨k, R, hk, rfl, rfl, hG⟩ := hrel
    by_cases hlt : k < s.size
    · have hc : s[k].toNat < 256 := UInt8.toNat_lt _
      have hR : R < 256 := hG.1
      have HG : Hid (Good 8 263 (msgBit s.data.toList) (8 * k) (8 * k + 8) (R ^^^ s[k].toNat)) := by
        have := good_start (c := s[k].toNat) (by decide) hc (fun x hx => by rw [msgBit_byte _ _ _ hx, getD_byte s k hlt]) hG
        show Good _ _ _ _ _ _
        simpa using this
      clear hG
      have hx := xor_i64 R s[k].toNat (by omega) (by omega)
      go_wp2
      go_loop [7, 23] (fun n i => ∃ t : Nat, ∃ R : Nat, t ≤ 8 ∧ i = .int .i64 t ∧ n = .int .i64 R ∧ Good 8 263 (msgBit s.data.toList) (8 * k + t) (8 * k + 8) R) (fun _ i => 8 - (intOf i).toNat)
      case atStart => exact ⟨0, _, Nat.zero_le _, rfl, rfl, HG.out⟩
      case round =>
        obtain ⟨t, Q, ht, rfl, rfl, hQ⟩ := hrel
        clear hx HG
        by_cases hlt8 : t < 8
        · have hQb : Q < 256 := hQ.1
          have hx2 := xor_i64 (Q * 2) 263 (by omega) (by omega)
          have HQ : Hid (Good 8 263 (msgBit s.data.toList) (8 * k + t) (8 * k + 8) Q) := hQ
          clear hQ
          go_wp2
          · have hh : ((Q : Int) * 2 / 256 == 1) = true := by assumption
            go_round
            case rel =>
              refine ⟨t + 1, _, by omega, by go_num, by simp only [Int.natCast_mul] at hx2; exact congrArg _ hx2, good_yes (i := 8 * k + t) (by decide) (by decide) (by decide) (by omega) (by omega) HQ.out ?_⟩
              simp at hh; omega
            case measure => simp [intOf]; omega
          · have hh : ((Q : Int) * 2 / 256 == 1) = false := by assumption
            go_round
            case rel =>
              refine ⟨t + 1, Q * 2, by omega, by go_num, by go_num, good_no (i := 8 * k + t) (by decide) (by omega) (by omega) HQ.out ?_⟩
              simp at hh; omega
            case measure => simp [intOf]; omega
        · have e : t = 8 := by omega
          subst e
          have HQ : Hid (Good 8 263 (msgBit s.data.toList) (8 * k + 8) (8 * k + 8) Q) := hQ
          clear hQ
          go_wp2
          go_round
          case rel => exact ⟨k + 1, Q, by omega, by go_num, rfl, HQ.out⟩
          case measure => simp [intOf]; omega
    · have e : k = s.size := by omega
      subst e
      have HG : Hid (Good 8 263 (msgBit s.data.toList) (8 * s.size) (8 * s.size) R) := hG
      clear hG
      go_wp2
      go_ret
      exact ⟨R, rfl, HG.out, rfl⟩

set_option maxHeartbeats 400000 in
theorem rem16_any (s : ByteArray) (w : World) (hs : s.size ≤ 2097152) :
    Calls Try.prog 34 #[.string s, .int .i64 16, .int .i64 98309] w fun e w' => ∃ R : Nat, e = .returned (.int .i64 R) ∧ Good 16 98309 (msgBit s.data.toList) (8 * s.size) (8 * s.size) R ∧ w' = w := by
  go_enter Try.func34, Try.ntmps34
  go_wp2
  go_loop [7, 11] (fun n i => ∃ k : Nat, ∃ R : Nat, k ≤ s.size ∧ i = .int .i64 k ∧ n = .int .i64 R ∧ Good 16 98309 (msgBit s.data.toList) (8 * k) (8 * k) R) (fun _ i => s.size - (intOf i).toNat)
  case atStart => exact ⟨0, 0, Nat.zero_le _, rfl, rfl, good_zero _ _ _⟩
  case round =>
    obtain ⟨k, R, hk, rfl, rfl, hG⟩ := hrel
    by_cases hlt : k < s.size
    · have hc : s[k].toNat < 256 := UInt8.toNat_lt _
      have hR : R < 65536 := hG.1
      have HG : Hid (Good 16 98309 (msgBit s.data.toList) (8 * k) (8 * k + 8) (R ^^^ s[k].toNat * 256)) := by
        have := good_start (c := s[k].toNat) (by decide) hc (fun x hx => by rw [msgBit_byte _ _ _ hx, getD_byte s k hlt]) hG
        show Good _ _ _ _ _ _
        simpa using this
      clear hG
      have hx := xor_i64 R (s[k].toNat * 256) (by omega) (by omega)
      go_wp2
      go_loop [7, 23] (fun n i => ∃ t : Nat, ∃ R : Nat, t ≤ 8 ∧ i = .int .i64 t ∧ n = .int .i64 R ∧ Good 16 98309 (msgBit s.data.toList) (8 * k + t) (8 * k + 8) R) (fun _ i => 8 - (intOf i).toNat)
      case atStart =>
        refine ⟨0, _, Nat.zero_le _, rfl, ?_, HG.out⟩
        simp only [Int.natCast_mul] at hx; exact congrArg _ hx
      case round =>
        obtain ⟨t, Q, ht, rfl, rfl, hQ⟩ := hrel
        clear hx HG
        by_cases hlt8 : t < 8
        · have hQb : Q < 65536 := hQ.1
          have hx2 := xor_i64 (Q * 2) 98309 (by omega) (by omega)
          have HQ : Hid (Good 16 98309 (msgBit s.data.toList) (8 * k + t) (8 * k + 8) Q) := hQ
          clear hQ
          go_wp2
          · have hh : ((Q : Int) * 2 / 65536 == 1) = true := by assumption
            go_round
            case rel =>
              refine ⟨t + 1, _, by omega, by go_num, by simp only [Int.natCast_mul] at hx2; exact congrArg _ hx2, good_yes (i := 8 * k + t) (by decide) (by decide) (by decide) (by omega) (by omega) HQ.out ?_⟩
              simp at hh; omega
            case measure => simp [intOf]; omega
          · have hh : ((Q : Int) * 2 / 65536 == 1) = false := by assumption
            go_round
            case rel =>
              refine ⟨t + 1, Q * 2, by omega, by go_num, by go_num, good_no (i := 8 * k + t) (by decide) (by omega) (by omega) HQ.out ?_⟩
              simp at hh; omega
            case measure => simp [intOf]; omega
        · have e : t = 8 := by omega
          subst e
          have HQ : Hid (Good 16 98309 (msgBit s.data.toList) (8 * k + 8) (8 * k + 8) Q) := hQ
          clear hQ
          go_wp2
          go_round
          case rel => exact ⟨k + 1, Q, by omega, by go_num, rfl, HQ.out⟩
          case measure => simp [intOf]; omega
    · have e : k = s.size := by omega
      subst e
      have HG : Hid (Good 16 98309 (msgBit s.data.toList) (8 * s.size) (8 * s.size) R) := hG
      clear hG
      go_wp2
      go_ret
      exact ⟨R, rfl, HG.out, rfl⟩
end Go.Proofs.Ytlncjgnomhpjnaa
