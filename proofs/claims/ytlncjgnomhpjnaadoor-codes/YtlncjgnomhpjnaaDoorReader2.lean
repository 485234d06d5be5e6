/-
  The reader of bits: Signed, Rice, Taken, NewReader.
-/
import Derived.Test.YtlncjgnomhpjnaaDoorReader
import Derived.Lib.Bytealg
import Derived.Lib.Strings
import Derived.Lib.Walk
namespace Go.Proofs.YtlncjgnomhpjnaaDoor
open Go.RowKit Go.Deep
set_option linter.unusedVariables false

theorem index_range (b : Nat → Bool) : ∀ m p, Lib.indexByte ((List.range m).map fun i => ltr (b (p + i))) 49 = if zrun b m p < m then (zrun b m p : Int) else -1
  | 0, p => by simp [Lib.indexByte, zrun]
  | m + 1, p => by
    have ih := index_range b m (p + 1)
    rw [List.range_succ_eq_map, List.map_cons, List.map_map]
    have e : ((fun i => ltr (b (p + i))) ∘ Nat.succ) = fun i => ltr (b (p + 1 + i)) := by
      funext i; simp only [Function.comp]; congr 2; omega
    rw [e, Lib.indexByte, ih]
    have hz := zrun_le b m (p + 1)
    rw [Nat.add_zero]
    cases hb : b p
    · have h1 : (ltr false == 49) = false := rfl
      rw [h1, zrun, hb]
      by_cases h : zrun b m (p + 1) < m
      · have h2 : ((zrun b m (p + 1) : Int) == -1) = false := by simp
        have h3 : zrun b m (p + 1) + 1 < m + 1 := by omega
        simp [h, h2]
      · have h3 : ¬ zrun b m (p + 1) + 1 < m + 1 := by omega
        simp [h]
    · have h1 : (ltr true == 49) = true := rfl
      rw [h1, zrun, hb]
      simp

theorem extract_range (s : ByteArray) (b : Nat → Bool) (p : Nat) (hb : Bits s b) (hp : p ≤ s.size) : (s.extract p s.size).data.toList = (List.range (s.size - p)).map fun i => ltr (b (p + i)) := by
  have hd : (s.extract p s.size).data = s.data.extract p s.size := by simp
  have hs : s.data.size = s.size := rfl
  rw [hd]
  apply List.ext_getElem
  · simp
  · intro i h1 h2
    rw [Array.getElem_toList, Array.getElem_extract]
    simp only [List.getElem_map, List.getElem_range]
    have hi : i < s.size - p := by simpa using h2
    exact hb (p + i) (by omega)

set_option maxHeartbeats 400000 in
set_option maxRecDepth 100000 in
theorem liteIndex_any (s : ByteArray) (c : Int) (w : World) :
    Calls Tryd.prog 99 #[.string s, .int .u8 c] w fun e w' => e = .returned (.int .i64 (Lib.indexByte s.data.toList c.toNat.toUInt8)) ∧ w' = w := by
  go_enter Tryd.func99, Tryd.ntmps99
  go_wp2
  rw [run_callFunc_extern Tryd.func100 (by kernel_rfl) (by kernel_rfl) (by kernel_rfl) (e := Extern.BytealgIndexByte.indexByte) (by kernel_rfl), Lib.run_indexByteString]
  simp only [Result.andThen]
  rw [Oper.upon_value]
  go_wp2
  go_ret
  exact ⟨rfl, rfl⟩
theorem index_any (s : ByteArray) (c : Int) (w : World) :
    Calls Tryd.prog 96 #[.string s, .int .u8 c] w fun e w' => e = .returned (.int .i64 (Lib.indexByte s.data.toList c.toNat.toUInt8)) ∧ w' = w := by
  go_enter Tryd.func96, Tryd.ntmps96
  go_wp2_with (go_at_call 99; refine (liteIndex_any _ _ _).mono ?_; rintro e w' ⟨rfl, rfl⟩)
  go_ret
  exact ⟨rfl, rfl⟩

theorem ipow_le (d m : Nat) (h : 2 ^ d ≤ m) : (2 : Int) ^ d ≤ (m : Int) := by
  have e : ((2 ^ d : Nat) : Int) = (2 : Int) ^ d := by simp
  rw [← e]; exact Int.ofNat_le.2 h
theorem ipow_pos (d : Nat) : (1 : Int) ≤ 2 ^ d := by have : 0 < 2 ^ d := Nat.two_pow_pos _; exact_mod_cast this
theorem ipow_cast (d : Nat) : ((2 ^ d : Nat) : Int) = (2 : Int) ^ d := by simp

set_option maxHeartbeats 400000 in
theorem signed_no (B : Nat) (s : ByteArray) (p k : Nat) (w : World) (hs : s.size ≤ 80000) (hp : p ≤ s.size) (hk : k ≤ 16) (hR : Rd w B s p) (hlt : s.size < p + k) :
    Calls Tryd.prog 72 #[.pointer (some ⟨B, 0, none⟩), .int .i64 k] w fun e w' => e = .returned (.tuple #[.int .i64 0, .bool false]) ∧ ∃ m, w' = w.drewN m := by
  go_enter Tryd.func72, Tryd.ntmps72
  go_wp2_with (go_at_call 36; refine (number_no B s p k _ hs hp hk hR hlt).mono ?_; rintro e w' ⟨rfl, m, rfl⟩)
  go_ret2
  exact ⟨rfl, m, rfl⟩

set_option maxHeartbeats 400000 in
theorem signed_yes (B : Nat) (s : ByteArray) (b : Nat → Bool) (p k : Nat) (w : World) (hs : s.size ≤ 80000) (hk1 : 1 ≤ k) (hk : k ≤ 16) (hR : Rd w B s p) (hle : p + k ≤ s.size) (hb : Bits s b) :
    Calls Tryd.prog 72 #[.pointer (some ⟨B, 0, none⟩), .int .i64 k] w fun e w' => e = .returned (.tuple #[.int .i64 (sgn b p k), .bool true]) ∧ Rd w' B s (p + k) ∧ Chg B w w' := by
  have hN := number_yes B s b p k w hs hk hR hle hb
  have q1 := ipow_pos (k - 1)
  have q2 := ipow_le (k - 1) 32768 (Nat.le_trans (Nat.pow_le_pow_right (by omega) (by omega : k - 1 ≤ 15)) (by decide))
  have q3 := ipow_pos k
  have q4 := ipow_le k 65536 (Nat.le_trans (Nat.pow_le_pow_right (by omega) (by omega : k ≤ 16)) (by decide))
  have q5 : num b p k < 65536 := Nat.lt_of_lt_of_le (num_lt b p k) (Nat.le_trans (Nat.pow_le_pow_right (by omega) (by omega : k ≤ 16)) (by decide))
  have HS : Hid (sgn b p k = if 2 ^ (k - 1) ≤ num b p k then (num b p k : Int) - 2 ^ k else num b p k) := rfl
  clear hb
  by_cases h : 2 ^ (k - 1) ≤ num b p k
  · have h1 : (2 : Int) ^ (k - 1) ≤ (num b p k : Int) := by rw [← ipow_cast]; exact Int.ofNat_le.2 h
    go_enter Tryd.func72, Tryd.ntmps72
    go_wp2_with (go_at_call 36; refine hN.mono ?_; rintro e w' ⟨rfl, hR', hC⟩)
    go_ret2
    exact ⟨by rw [HS.out, if_pos h]; rfl, hR', hC⟩
  · have h1 : (num b p k : Int) < (2 : Int) ^ (k - 1) := by rw [← ipow_cast]; exact Int.ofNat_lt.2 (by omega)
    go_enter Tryd.func72, Tryd.ntmps72
    go_wp2_with (go_at_call 36; refine hN.mono ?_; rintro e w' ⟨rfl, hR', hC⟩)
    go_ret2
    exact ⟨by rw [HS.out, if_neg h]; rfl, hR', hC⟩

theorem taken_any (B : Nat) (s : ByteArray) (p : Nat) (w : World) (hR : Rd w B s p) :
    Calls Tryd.prog 38 #[.pointer (some ⟨B, 0, none⟩)] w fun e w' => e = .returned (.int .i64 p) ∧ w' = w := by
  have h1 := hR.c1
  go_enter Tryd.func38, Tryd.ntmps38
  go_wp2
  go_ret
  exact ⟨rfl, rfl⟩
theorem newReader_any (s : ByteArray) (w : World) :
    Calls Tryd.prog 35 #[.string s] w fun e w' => e = .returned (.pointer (some ⟨w.heap.size, 0, none⟩)) ∧ Rd w' w.heap.size s 0 ∧ Below w.heap.size w w' := by
  go_enter Tryd.func35, Tryd.ntmps35
  go_wp2
  go_ret
  exact ⟨rfl, blk_alloc_new _ _, (Below.refl _ _).alloc (Nat.le_refl _) _⟩

theorem unfold_any (f : Nat) (w : World) (hf : f ≤ 4294967296) :
    Calls Tryd.prog 97 #[.int .i64 f] w fun e w' => e = .returned (.int .i64 (unf f)) ∧ w' = w := by
  have HU : Hid (unf f = if f % 2 = 0 then (f : Int) / 2 else -(((f : Int) + 1) / 2)) := rfl
  by_cases h : f % 2 = 0
  · have h1 : ((f : Int) % 2 == 0) = true := by simp; omega
    go_enter Tryd.func97, Tryd.ntmps97
    go_wp2
    go_ret
    exact ⟨ret_int (by rw [HU.out, if_pos h]), rfl⟩
  · have h1 : ((f : Int) % 2 == 0) = false := by simp; omega
    go_enter Tryd.func97, Tryd.ntmps97
    go_wp2
    go_ret
    refine ⟨ret_int ?_, rfl⟩
    rw [HU.out, if_neg h, Int.tdiv_eq_ediv_of_nonneg (by omega)]
    exact IntWalk.wrap64_in _ ⟨by omega, by omega⟩

theorem index_yes (s : ByteArray) (b : Nat → Bool) (p q : Nat) (w : World) (hb : Bits s b) (hp : p ≤ s.size) (hq : zrun b (s.size - p) p = q) (h : q < s.size - p) :
    Calls Tryd.prog 96 #[.string (s.extract p s.size), .int .u8 49] w fun e w' => e = .returned (.int .i64 (q : Int)) ∧ w' = w := by
  refine (index_any _ _ w).mono fun e w' h' => ⟨h'.1.trans (ret_int ?_), h'.2⟩
  rw [extract_range s b p hb hp]
  refine (index_range b _ p).trans ?_
  rw [hq, if_pos h]
theorem index_no (s : ByteArray) (b : Nat → Bool) (p : Nat) (w : World) (hb : Bits s b) (hp : p ≤ s.size) (h : ¬ zrun b (s.size - p) p < s.size - p) :
    Calls Tryd.prog 96 #[.string (s.extract p s.size), .int .u8 49] w fun e w' => e = .returned (.int .i64 (-1)) ∧ w' = w := by
  refine (index_any _ _ w).mono fun e w' h' => ⟨h'.1.trans (ret_int ?_), h'.2⟩
  rw [extract_range s b p hb hp]
  refine (index_range b _ p).trans ?_
  rw [if_neg h]

set_option maxHeartbeats 1000000 in
theorem rice_no (B : Nat) (s : ByteArray) (b : Nat → Bool) (p k : Nat) (w : World) (hs : s.size ≤ 80000) (hp : p ≤ s.size) (hk : k ≤ 14) (hR : Rd w B s p) (hb : Bits s b) (hno : rice b s.size k p = none) :
    Calls Tryd.prog 90 #[.pointer (some ⟨B, 0, none⟩), .int .i64 k] w fun e w' => e = .returned (.tuple #[.int .i64 0, .bool false]) ∧ (∃ q, q ≤ s.size ∧ Rd w' B s q) ∧ Chg B w w' := by
  have hno' : ¬ p + zrun b (s.size - p) p + 1 + k ≤ s.size := by
    intro h; simp [rice, h] at hno
  clear hno
  have h0 := hR.c0
  have h1 := hR.c1
  have f1 := hR.f1
  by_cases hfound : zrun b (s.size - p) p < s.size - p
  · have HIX := fun u => index_yes s b p _ u hb hp rfl hfound
    generalize zrun b (s.size - p) p = q at *
    have HN : Hid (∀ m, Calls Tryd.prog 36 #[.pointer (some ⟨B, 0, none⟩), .int .i64 k] ((w.drewN m).setCell ⟨B, 1, none⟩ (.int .i64 ((p : Int) + ((q : Int) + 1)))) fun e w' => e = .returned (.tuple #[.int .i64 0, .bool false]) ∧ ∃ j, w' = ((w.drewN m).setCell ⟨B, 1, none⟩ (.int .i64 ((p : Int) + ((q : Int) + 1)))).drewN j) := fun m =>
      number_no B s (p + (q + 1)) k _ hs (by omega) (by omega) (Rd.set (Rd.of hR rfl) (by go_num)) (by omega)
    have HC : Hid (∀ m j, Rd (((w.drewN m).setCell ⟨B, 1, none⟩ (.int .i64 ((p : Int) + ((q : Int) + 1)))).drewN j) B s (p + (q + 1)) ∧ Chg B w (((w.drewN m).setCell ⟨B, 1, none⟩ (.int .i64 ((p : Int) + ((q : Int) + 1)))).drewN j)) := fun m j =>
      ⟨Rd.set (Rd.of hR rfl) (by go_num), (((Chg.refl B w).drewN m).set 1 _).drewN j⟩
    have HIXX : Hid _ := HIX
    clear HIX hb hR
    go_enter Tryd.func90, Tryd.ntmps90
    go_wp2
    go_quiet ((go_at_call 96; exact Calls.quiet_of_same (HIXX.out _)))
    go_wp2_with (go_at_call 36; refine (HN.out _).mono ?_; rintro e w' ⟨rfl, j, rfl⟩)
    go_ret2
    exact ⟨rfl, ⟨_, by omega, (HC.out _ _).1⟩, (HC.out _ _).2⟩
  · have HIXX : Hid _ := fun u => index_no s b p u hb hp hfound
    go_enter Tryd.func90, Tryd.ntmps90
    go_wp2
    go_quiet ((go_at_call 96; exact Calls.quiet_of_same (HIXX.out _)))
    go_wp2
    go_ret2
    exact ⟨rfl, ⟨p, hp, hR⟩, (Chg.refl _ _).drewN _⟩

set_option maxHeartbeats 1000000 in
theorem rice_yes (B : Nat) (s : ByteArray) (b : Nat → Bool) (p k : Nat) (w : World) (hs : s.size ≤ 80000) (hp : p ≤ s.size) (hk : k ≤ 14) (hR : Rd w B s p) (hb : Bits s b) (v : Int) (p' : Nat) (hyes : rice b s.size k p = some (v, p')) :
    Calls Tryd.prog 90 #[.pointer (some ⟨B, 0, none⟩), .int .i64 k] w fun e w' => e = .returned (.tuple #[.int .i64 v, .bool true]) ∧ Rd w' B s p' ∧ Chg B w w' := by
  have hz := zrun_le b (s.size - p) p
  have hle : p + zrun b (s.size - p) p + 1 + k ≤ s.size := by
    by_cases h : p + zrun b (s.size - p) p + 1 + k ≤ s.size
    · exact h
    · simp [rice, h] at hyes
  simp only [rice, if_pos hle, Option.some.injEq, Prod.mk.injEq] at hyes
  obtain ⟨rfl, rfl⟩ := hyes
  have h0 := hR.c0
  have h1 := hR.c1
  have f1 := hR.f1
  have HIX := fun u => index_yes s b p _ u hb hp rfl (show zrun b (s.size - p) p < s.size - p by omega)
  generalize zrun b (s.size - p) p = q at *
  have e1 : p + q + 1 = p + (q + 1) := by omega
  rw [e1] at hle
  have HN : Hid (∀ m, Calls Tryd.prog 36 #[.pointer (some ⟨B, 0, none⟩), .int .i64 k] ((w.drewN m).setCell ⟨B, 1, none⟩ (.int .i64 ((p : Int) + ((q : Int) + 1)))) fun e w' => e = .returned (.tuple #[.int .i64 (num b (p + (q + 1)) k), .bool true]) ∧ Rd w' B s (p + (q + 1) + k) ∧ Chg B w w') := fun m =>
    (number_yes B s b (p + (q + 1)) k ((w.drewN m).setCell ⟨B, 1, none⟩ (.int .i64 ((p : Int) + ((q : Int) + 1)))) hs (by omega) (Rd.set (Rd.of hR rfl) (by go_num)) hle hb).mono fun e w' h => ⟨h.1, h.2.1, (((Chg.refl B w).drewN m).set 1 _).trans h.2.2⟩
  have HIXX : Hid _ := HIX
  have q4 := ipow_le k 16384 (Nat.le_trans (Nat.pow_le_pow_right (by omega) (by omega : k ≤ 14)) (by decide))
  have q3 := ipow_pos k
  have q5 : num b (p + (q + 1)) k < 16384 := Nat.lt_of_lt_of_le (num_lt b _ k) (Nat.le_trans (Nat.pow_le_pow_right (by omega) (by omega : k ≤ 14)) (by decide))
  have q6 : (q : Int) * 2 ^ k ≤ 80000 * 16384 := Int.mul_le_mul (by omega) q4 (by omega) (by omega)
  have q7 : 0 ≤ (q : Int) * 2 ^ k := Int.mul_nonneg (by omega) (by omega)
  have HU : Hid (∀ u, Calls Tryd.prog 97 #[.int .i64 ((q : Int) * 2 ^ k + (num b (p + (q + 1)) k : Int))] u fun e w' => e = .returned (.int .i64 (unf (q * 2 ^ k + num b (p + (q + 1)) k))) ∧ w' = u) := fun u => by
    have e : ((q : Int) * 2 ^ k + (num b (p + (q + 1)) k : Int)) = ((q * 2 ^ k + num b (p + (q + 1)) k : Nat) : Int) := by simp
    rw [e]
    refine unfold_any _ u ?_
    have : q * 2 ^ k ≤ 80000 * 16384 := Nat.mul_le_mul (by omega) (Nat.le_trans (Nat.pow_le_pow_right (by omega) (by omega : k ≤ 14)) (by decide))
    omega
  rw [e1]
  clear HIX hb hR
  go_enter Tryd.func90, Tryd.ntmps90
  go_wp2
  go_quiet ((go_at_call 96; exact Calls.quiet_of_same (HIXX.out _)))
  go_wp2_with (first
    | (go_at_call 36; refine (HN.out _).mono ?_; rintro e w' ⟨rfl, hR', hC⟩)
    | (go_at_call 97; refine (HU.out _).mono ?_; rintro e w' ⟨rfl, rfl⟩))
  go_ret2
  exact ⟨rfl, hR', hC⟩
end Go.Proofs.YtlncjgnomhpjnaaDoor
