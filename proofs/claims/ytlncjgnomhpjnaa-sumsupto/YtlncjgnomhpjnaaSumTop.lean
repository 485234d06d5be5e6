import Derived.Test.YtlncjgnomhpjnaaSumLeft
namespace Go.Proofs.Ytlncjgnomhpjnaa
open Go.RowKit

/-- the remainder of bytes -/
def crc (k D : Nat) (l : List UInt8) : Nat := bitsNum (leftBit k D (msgBit l) (8 * l.length)) k
theorem crc_good (k D : Nat) (l : List UInt8) : Good k D (msgBit l) (8 * l.length) (8 * l.length) (crc k D l) :=
  good_bitsNum fun j h => msgBit_past l j h
theorem crc_eq {k D R : Nat} {s : ByteArray} (h : Good k D (msgBit s.data.toList) (8 * s.size) (8 * s.size) R) : R = crc k D s.data.toList := by
  have e : s.data.toList.length = s.size := by simp
  rw [← e] at h
  exact good_inj h (crc_good k D _)

theorem eight_any (s : ByteArray) (w : World) (hs : s.size ≤ 2097152) :
    Calls Try.prog 9 #[.string s] w fun e w' => e = .returned (.int .i64 (crc 8 263 s.data.toList)) ∧ w' = w := by
  go_enter Try.func9, Try.ntmps9
  go_wp2_with (first | (go_at_call 34; refine (rem8_any _ _ hs).mono ?_; rintro e w' ⟨R, rfl, hG, rfl⟩) | go_in)
  go_ret
  exact ⟨ret_int (by rw [crc_eq hG]), rfl⟩
theorem sixteen_any (s : ByteArray) (w : World) (hs : s.size ≤ 2097152) :
    Calls Try.prog 10 #[.string s] w fun e w' => e = .returned (.int .i64 (crc 16 98309 s.data.toList)) ∧ w' = w := by
  go_enter Try.func10, Try.ntmps10
  go_wp2_with (first | (go_at_call 34; refine (rem16_any _ _ hs).mono ?_; rintro e w' ⟨R, rfl, hG, rfl⟩) | go_in)
  go_ret
  exact ⟨ret_int (by rw [crc_eq hG]), rfl⟩
theorem reelSum_any (s : ByteArray) (w : World) (hs : s.size ≤ 2097152) :
    Calls Try.prog 11 #[.string s] w fun e w' => e = .returned (.int .i64 (65536 * ((sB s.data.toList % 65521 : Nat) : Int) + ((sA s.data.toList % 65521 : Nat) : Int))) ∧ w' = w := by
  go_enter Try.func11, Try.ntmps11
  go_wp2_with (first | (go_at_call 20; refine (sum_any _ _ hs).mono ?_; rintro e w' ⟨rfl, rfl⟩) | go_in)
  go_ret
  exact ⟨rfl, rfl⟩

theorem div8 : ∀ j (h : j < (ByteArray.mk #[49, 48, 48, 48, 48, 48, 49, 49, 49]).size), (ByteArray.mk #[49, 48, 48, 48, 48, 48, 49, 49, 49])[j] = ltr (Nat.testBit 263 (8 - j)) := by decide
theorem div16 : ∀ j (h : j < (ByteArray.mk #[49, 49, 48, 48, 48, 48, 48, 48, 48, 48, 48, 48, 48, 48, 49, 48, 49]).size), (ByteArray.mk #[49, 49, 48, 48, 48, 48, 48, 48, 48, 48, 48, 48, 48, 48, 49, 48, 49])[j] = ltr (Nat.testBit 98309 (16 - j)) := by decide

theorem ref8_any (s : ByteArray) (w : World) (hs : s.size ≤ 2097152) :
    Calls Try.prog 21 #[.string s] w fun e w' => e = .returned (.int .i64 (crc 8 263 s.data.toList)) ∧ Up w w' := by
  have hl := fun u => left_any (strOf (fun j => ltr (msgBit s.data.toList j)) (8 * s.size)) ⟨#[49, 48, 48, 48, 48, 48, 49, 49, 49]⟩ u 8 263 (msgBit s.data.toList)
    (by rw [strOf_size]; omega) (by decide) (by decide) rfl (fun j h => by rw [strOf_get]) (fun j h => by rw [strOf_size] at h; exact msgBit_past _ _ (by simpa using h)) div8
  rw [strOf_size] at hl
  have HE : Hid (8 * s.size = 8 * s.data.toList.length) := by show _ = _; simp
  go_enter Try.func21, Try.ntmps21
  go_wp2_with (first | (go_at_call 36; refine (spelt_any _ _ hs).mono ?_; rintro e w1 ⟨rfl, hu1⟩) | (go_at_call 37; refine (hl _).mono ?_; rintro e w2 ⟨rfl, hu2⟩))
  go_ret
  exact ⟨ret_int (by unfold crc; rw [HE.out]), hu1.trans hu2⟩
theorem ref16_any (s : ByteArray) (w : World) (hs : s.size ≤ 2097152) :
    Calls Try.prog 22 #[.string s] w fun e w' => e = .returned (.int .i64 (crc 16 98309 s.data.toList)) ∧ Up w w' := by
  have hl := fun u => left_any (strOf (fun j => ltr (msgBit s.data.toList j)) (8 * s.size)) ⟨#[49, 49, 48, 48, 48, 48, 48, 48, 48, 48, 48, 48, 48, 48, 49, 48, 49]⟩ u 16 98309 (msgBit s.data.toList)
    (by rw [strOf_size]; omega) (by decide) (by decide) rfl (fun j h => by rw [strOf_get]) (fun j h => by rw [strOf_size] at h; exact msgBit_past _ _ (by simpa using h)) div16
  rw [strOf_size] at hl
  have HE : Hid (8 * s.size = 8 * s.data.toList.length) := by show _ = _; simp
  go_enter Try.func22, Try.ntmps22
  go_wp2_with (first | (go_at_call 36; refine (spelt_any _ _ hs).mono ?_; rintro e w1 ⟨rfl, hu1⟩) | (go_at_call 37; refine (hl _).mono ?_; rintro e w2 ⟨rfl, hu2⟩))
  go_ret
  exact ⟨ret_int (by unfold crc; rw [HE.out]), hu1.trans hu2⟩

theorem crc8_c : ((crc 8 263 (ByteArray.mk #[128]).data.toList : Nat) : Int) = 137 := by decide
theorem crc16_c : ((crc 16 98309 (ByteArray.mk #[128]).data.toList : Nat) : Int) = 33539 := by decide
theorem sum_c : (65536 * ((sB (ByteArray.mk #[97]).data.toList % 65521 : Nat) : Int) + ((sA (ByteArray.mk #[97]).data.toList % 65521 : Nat) : Int)) = 6422626 := by decide

theorem eight_c (w : World) : Calls Try.prog 9 #[.string ⟨#[128]⟩] w fun e w' => e = .returned (.int .i64 137) ∧ w' = w :=
  (eight_any ⟨#[128]⟩ w (by decide)).mono fun e w' h => ⟨h.1.trans (ret_int crc8_c), h.2⟩
theorem sixteen_c (w : World) : Calls Try.prog 10 #[.string ⟨#[128]⟩] w fun e w' => e = .returned (.int .i64 33539) ∧ w' = w :=
  (sixteen_any ⟨#[128]⟩ w (by decide)).mono fun e w' h => ⟨h.1.trans (ret_int crc16_c), h.2⟩
theorem reelSum_c (w : World) : Calls Try.prog 11 #[.string ⟨#[97]⟩] w fun e w' => e = .returned (.int .i64 6422626) ∧ w' = w :=
  (reelSum_any ⟨#[97]⟩ w (by decide)).mono fun e w' h => ⟨h.1.trans (ret_int sum_c), h.2⟩

theorem sums_any (s : ByteArray) (w : World) (hs : s.size ≤ 2097152) :
    Calls Try.prog 12 #[.string s] w fun e w' => e = .returned (.bool true) ∧ Up w w' := by
  go_enter Try.func12, Try.ntmps12
  go_wp2_with (first
    | (go_at_call 9; refine (eight_any _ _ hs).mono ?_; rintro e w' ⟨rfl, rfl⟩)
    | (go_at_call 21; refine (ref8_any _ _ hs).mono ?_; rintro e w1 ⟨rfl, hu1⟩)
    | (go_at_call 10; refine (sixteen_any _ _ hs).mono ?_; rintro e w' ⟨rfl, rfl⟩)
    | (go_at_call 22; refine (ref16_any _ _ hs).mono ?_; rintro e w2 ⟨rfl, hu2⟩)
    | (go_at_call 11; refine (reelSum_any _ _ hs).mono ?_; rintro e w' ⟨rfl, rfl⟩)
    | (go_at_call 23; refine (refSum_any _ _ hs).mono ?_; rintro e w' ⟨rfl, rfl⟩))
  go_ret
  exact ⟨by simp, hu1.trans hu2⟩

theorem Sums_any (s : ByteArray) (w : World) (hs : s.size ≤ 2097152) :
    Calls Try.prog 4 #[.string s] w fun e w' => e = .returned (.bool true) ∧ Up w w' := by
  go_enter Try.func4, Try.ntmps4
  go_wp2_with (first
    | (go_at_call 9; refine (eight_c _).mono ?_; rintro e w' ⟨rfl, rfl⟩)
    | (go_at_call 10; refine (sixteen_c _).mono ?_; rintro e w' ⟨rfl, rfl⟩)
    | (go_at_call 11; refine (reelSum_c _).mono ?_; rintro e w' ⟨rfl, rfl⟩)
    | (go_at_call 12; refine (sums_any _ _ hs).mono ?_; rintro e w1 ⟨rfl, hu1⟩))
  go_ret
  exact ⟨rfl, hu1⟩
end Go.Proofs.Ytlncjgnomhpjnaa
