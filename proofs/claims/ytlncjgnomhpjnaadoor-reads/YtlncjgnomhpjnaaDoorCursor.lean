/-
  The document's reader: reelref.Cursor: next, count, short, rice.
-/
import Derived.Test.YtlncjgnomhpjnaaDoorReadTop2
namespace Go.Proofs.YtlncjgnomhpjnaaDoor
open Go.RowKit Go.Deep
set_option linter.unusedVariables false

/-- a cursor -/
def Cu (w : World) (B : Nat) (s : ByteArray) (p : Nat) (bad : Bool) : Prop := w.heap[B]? = some (.cells #[.string s, .int .i64 p, .bool bad] 80 (0, 0))
theorem Cu.cells {w : World} {B : Nat} {s : ByteArray} {p : Nat} {bad : Bool} (h : Cu w B s p bad) : w.cell? ⟨B, 0, none⟩ = some (.string s) ∧ w.cell? ⟨B, 1, none⟩ = some (.int .i64 p) ∧ w.cell? ⟨B, 2, none⟩ = some (.bool bad) ∧ w.frozen? ⟨B, 1, none⟩ = false ∧ w.frozen? ⟨B, 2, none⟩ = false := by
  simp [World.cell?, World.frozen?, show w.heap[B]? = _ from h]
theorem Cu.lt {w : World} {B : Nat} {s : ByteArray} {p : Nat} {bad : Bool} (h : Cu w B s p bad) : B < w.heap.size := (Array.getElem?_eq_some_iff.1 h).1
theorem Cu.set1 {w : World} {B : Nat} {s : ByteArray} {p q : Nat} {bad : Bool} (h : Cu w B s p bad) {v : Value} (hv : v = .int .i64 q) : Cu (w.setCell ⟨B, 1, none⟩ v) B s q bad := by
  subst hv
  simp [Cu, World.setCell, Array.getElem?_modify, show w.heap[B]? = _ from h]
theorem Cu.set2 {w : World} {B : Nat} {s : ByteArray} {p : Nat} {bad : Bool} (h : Cu w B s p bad) (c : Bool) : Cu (w.setCell ⟨B, 2, none⟩ (.bool c)) B s p c := by
  simp [Cu, World.setCell, Array.getElem?_modify, show w.heap[B]? = _ from h]
theorem Cu.of {w w' : World} {B : Nat} {s : ByteArray} {p : Nat} {bad : Bool} (h : Cu w B s p bad) (e : w'.heap[B]? = w.heap[B]?) : Cu w' B s p bad := e.trans h
theorem Chg.cu {B : Nat} {w w' : World} (h : Chg B w w') {c : Nat} {s : ByteArray} {p : Nat} {bad : Bool} (hr : Cu w c s p bad) (hc : c ≠ B) : Cu w' c s p bad :=
  hr.of (h.block c hr.lt (fun e => hc (by injection e)))

set_option maxHeartbeats 1000000 in
theorem next_yes (B : Nat) (s : ByteArray) (p k : Nat) (w : World) (hs : s.size ≤ 80000) (hC : Cu w B s p false) (hle : p + k ≤ s.size) :
    Calls Tryd.prog 75 #[.pointer (some ⟨B, 0, none⟩), .int .i64 k] w fun e w' => e = .returned (.string (s.extract p (p + k))) ∧ Cu w' B s (p + k) false ∧ Chg B w w' := by
  obtain ⟨c0, c1, c2, f1, f2⟩ := hC.cells
  have HC := Hid.mk' hC
  clear hC
  go_enter Tryd.func75, Tryd.ntmps75
  go_wp2
  go_region
  all_goals go_wp2
  go_region
  all_goals go_wp2
  go_ret
  refine ⟨?_, ?_, ?_⟩
  · simp
  · exact HC.out.set1 (by go_num)
  · exact ((Chg.refl B w).set 1 _).drewN 2

set_option maxHeartbeats 1000000 in
theorem next_short (B : Nat) (s : ByteArray) (p k : Nat) (w : World) (hs : s.size ≤ 80000) (hp : p ≤ s.size) (hk : k ≤ 100000) (hC : Cu w B s p false) (hlt : s.size < p + k) :
    Calls Tryd.prog 75 #[.pointer (some ⟨B, 0, none⟩), .int .i64 k] w fun e w' => e = .returned (.string ByteArray.empty) ∧ Cu w' B s p true ∧ Chg B w w' := by
  obtain ⟨c0, c1, c2, f1, f2⟩ := hC.cells
  have HC := Hid.mk' hC
  clear hC
  go_enter Tryd.func75, Tryd.ntmps75
  go_wp2
  go_region
  all_goals go_wp2
  go_ret
  exact ⟨rfl, HC.out.set2 true, ((Chg.refl B w).set 2 _).drewN 1⟩

set_option maxHeartbeats 1000000 in
theorem next_bad (B : Nat) (s : ByteArray) (p : Nat) (k : Int) (w : World) (hC : Cu w B s p true) :
    Calls Tryd.prog 75 #[.pointer (some ⟨B, 0, none⟩), .int .i64 k] w fun e w' => e = .returned (.string ByteArray.empty) ∧ Cu w' B s p true ∧ Chg B w w' := by
  obtain ⟨c0, c1, c2, f1, f2⟩ := hC.cells
  have HC := Hid.mk' hC
  clear hC
  go_enter Tryd.func75, Tryd.ntmps75
  go_wp2
  go_region
  all_goals go_wp2
  go_ret
  exact ⟨rfl, HC.out.set2 true, ((Chg.refl B w).set 2 _).drewN 1⟩

set_option maxHeartbeats 400000 in
theorem number_any (t : ByteArray) (w : World) (hs : t.size ≤ 32) (f : Nat → Bool) (hf : ∀ j (h : j < t.size), t[j] = ltr (f j)) :
    Calls Tryd.prog 76 #[.string t] w fun e w' => e = .returned (.int .i64 (bitsNum f t.size)) ∧ w' = w := by
  go_enter Tryd.func76, Tryd.ntmps76
  go_wp2
  go_loop [3, 4] (fun n i => ∃ k : Nat, k ≤ t.size ∧ i = .int .i64 k ∧ n = .int .i64 (bitsNum f k)) (fun _ i => t.size - (intOf i).toNat)
  case atStart => exact ⟨0, Nat.zero_le _, rfl, rfl⟩
  case round =>
    obtain ⟨k, hk, rfl, rfl⟩ := hrel
    by_cases hlt : k < t.size
    · have HF : Hid (bitsNum f (k + 1) = 2 * bitsNum f k + (f k).toNat) := rfl
      have h1 := bitsNum_lt f k
      have h2 : 2 ^ k ≤ 2 ^ 32 := Nat.pow_le_pow_right (by omega) (by omega)
      have HT : Hid (t[k].toNat = 48 + (f k).toNat) := by show _ = _; rw [hf k hlt, ltr_nat]
      have h3 : 48 ≤ t[k].toNat := by rw [HT.out]; omega
      have h4 : t[k].toNat ≤ 49 := by rw [HT.out]; have := Bool.toNat_le (f k); omega
      have h5 : bitsNum f k ≤ 4294967296 := by omega
      clear hf h1 h2
      go_wp2
      go_round
      case rel => exact ⟨k + 1, by omega, by go_num, by rw [HF.out]; have := HT.out; go_num⟩
      case measure => simp [intOf]; omega
    · have e : k = t.size := by omega
      subst e
      go_wp2
      go_ret
      exact ⟨rfl, rfl⟩

theorem ext_size (s : ByteArray) (p k : Nat) (hle : p + k ≤ s.size) : (s.extract p (p + k)).size = k := by simp; omega
theorem ext_bits (s : ByteArray) (b : Nat → Bool) (p k : Nat) (hb : Bits s b) (hle : p + k ≤ s.size) : ∀ j (h : j < (s.extract p (p + k)).size), (s.extract p (p + k))[j] = ltr (b (p + j)) := by
  intro j h
  have hj : j < k := by rw [ext_size s p k hle] at h; exact h
  rw [← hb (p + j) (by omega)]
  show (s.extract p (p + k)).data[j] = s.data[p + j]'(by show p + j < s.size; omega)
  have hd : (s.extract p (p + k)).data = s.data.extract p (p + k) := by simp
  simp only [hd]
  rw [Array.getElem_extract]
theorem numExt_any (s : ByteArray) (b : Nat → Bool) (p k : Nat) (w : World) (hk : k ≤ 32) (hb : Bits s b) (hle : p + k ≤ s.size) :
    Calls Tryd.prog 76 #[.string (s.extract p (p + k))] w fun e w' => e = .returned (.int .i64 (num b p k)) ∧ w' = w := by
  have := number_any (s.extract p (p + k)) w (by rw [ext_size s p k hle]; exact hk) (fun i => b (p + i)) (ext_bits s b p k hb hle)
  rw [ext_size s p k hle] at this
  exact this
theorem numEmpty_any (w : World) : Calls Tryd.prog 76 #[.string ByteArray.empty] w fun e w' => e = .returned (.int .i64 0) ∧ w' = w :=
  number_any ByteArray.empty w (by decide) (fun _ => false) (fun j h => absurd h (by simp))

theorem count_yes (B : Nat) (s : ByteArray) (b : Nat → Bool) (p k : Nat) (w : World) (hs : s.size ≤ 80000) (hk : k ≤ 32) (hC : Cu w B s p false) (hle : p + k ≤ s.size) (hb : Bits s b) :
    Calls Tryd.prog 52 #[.pointer (some ⟨B, 0, none⟩), .int .i64 k] w fun e w' => e = .returned (.int .i64 (num b p k)) ∧ Cu w' B s (p + k) false ∧ Chg B w w' := by
  have HN := Hid.mk' (next_yes B s p k w hs hC hle)
  have HM := Hid.mk' (fun u => numExt_any s b p k u hk hb hle)
  clear hC hb
  go_enter Tryd.func52, Tryd.ntmps52
  go_wp2_with (first
    | (go_at_call 75; refine HN.out.mono ?_; rintro e w1 ⟨rfl, hC1, hG1⟩)
    | (go_at_call 76; refine (HM.out _).mono ?_; rintro e w' ⟨rfl, rfl⟩))
  go_ret
  exact ⟨rfl, hC1, hG1⟩
/-- a cursor that has failed, or will -/
def Fails (w : World) (B : Nat) (s : ByteArray) (p k : Nat) : Prop := p ≤ s.size ∧ ∃ bad, Cu w B s p bad ∧ (bad = true ∨ s.size < p + k)
theorem next_no (B : Nat) (s : ByteArray) (p k : Nat) (w : World) (hs : s.size ≤ 80000) (hk : k ≤ 100000) (hF : Fails w B s p k) :
    Calls Tryd.prog 75 #[.pointer (some ⟨B, 0, none⟩), .int .i64 k] w fun e w' => e = .returned (.string ByteArray.empty) ∧ Cu w' B s p true ∧ Chg B w w' := by
  obtain ⟨hp, bad, hC, h⟩ := hF
  cases bad with
  | true => exact next_bad B s p k w hC
  | false => rcases h with h | h
             · cases h
             · exact next_short B s p k w hs hp hk hC h
theorem count_no (B : Nat) (s : ByteArray) (p k : Nat) (w : World) (hs : s.size ≤ 80000) (hk : k ≤ 32) (hF : Fails w B s p k) :
    Calls Tryd.prog 52 #[.pointer (some ⟨B, 0, none⟩), .int .i64 k] w fun e w' => e = .returned (.int .i64 0) ∧ Cu w' B s p true ∧ Chg B w w' := by
  have HN := Hid.mk' (next_no B s p k w hs (by omega) hF)
  clear hF
  go_enter Tryd.func52, Tryd.ntmps52
  go_wp2_with (first
    | (go_at_call 75; refine HN.out.mono ?_; rintro e w1 ⟨rfl, hC1, hG1⟩)
    | (go_at_call 76; refine (numEmpty_any _).mono ?_; rintro e w' ⟨rfl, rfl⟩))
  go_ret
  exact ⟨rfl, hC1, hG1⟩

set_option maxHeartbeats 400000 in
theorem signedExt_any (s : ByteArray) (b : Nat → Bool) (p k : Nat) (w : World) (hk1 : 1 ≤ k) (hk : k ≤ 16) (hb : Bits s b) (hle : p + k ≤ s.size) :
    Calls Tryd.prog 77 #[.string (s.extract p (p + k))] w fun e w' => e = .returned (.int .i64 (sgn b p k)) ∧ w' = w := by
  have HM := Hid.mk' (fun u => numExt_any s b p k u (by omega) hb hle)
  have hsz := ext_size s p k hle
  have h0 : 0 < (s.extract p (p + k)).size := by omega
  have hbit : (s.extract p (p + k))[0] = ltr (b p) := ext_bits s b p k hb hle 0 h0
  have htop := num_top b p k hk1
  have q3 := ipow_pos k
  have q4 := ipow_le k 65536 (Nat.le_trans (Nat.pow_le_pow_right (by omega) (by omega : k ≤ 16)) (by decide))
  have q5 : num b p k < 65536 := Nat.lt_of_lt_of_le (num_lt b p k) (Nat.le_trans (Nat.pow_le_pow_right (by omega) (by omega : k ≤ 16)) (by decide))
  have HS : Hid (sgn b p k = if 2 ^ (k - 1) ≤ num b p k then (num b p k : Int) - 2 ^ k else num b p k) := rfl
  clear hb
  generalize s.extract p (p + k) = t at *
  have HSZ := Hid.mk' hsz
  by_cases h : b p = true
  · have HH := Hid.mk' (htop.2 h)
    have ht : ((t[0].toNat : Int) == 49) = true := by rw [hbit, h]; rfl
    clear hbit htop h
    subst hsz
    go_enter Tryd.func77, Tryd.ntmps77
    go_wp2_with (go_at_call 76; refine (HM.out _).mono ?_; rintro e w' ⟨rfl, rfl⟩)
    go_ret
    exact ⟨ret_int (by rw [HS.out, if_pos HH.out]), rfl⟩
  · have HH := Hid.mk' (fun e => h (htop.1 e))
    have ht : ((t[0].toNat : Int) == 49) = false := by
      have h' : b p = false := by simpa using h
      rw [hbit, h']; rfl
    clear hbit htop h
    subst hsz
    go_enter Tryd.func77, Tryd.ntmps77
    go_wp2_with (go_at_call 76; refine (HM.out _).mono ?_; rintro e w' ⟨rfl, rfl⟩)
    go_ret
    exact ⟨ret_int (by rw [HS.out, if_neg HH.out]), rfl⟩
theorem signedEmpty_any (w : World) : Calls Tryd.prog 77 #[.string ByteArray.empty] w fun e w' => e = .returned (.int .i64 0) ∧ w' = w := by
  go_enter Tryd.func77, Tryd.ntmps77
  go_wp2_with (go_at_call 76; refine (numEmpty_any _).mono ?_; rintro e w' ⟨rfl, rfl⟩)
  go_ret
  exact ⟨rfl, rfl⟩
theorem short_yes (B : Nat) (s : ByteArray) (b : Nat → Bool) (p k : Nat) (w : World) (hs : s.size ≤ 80000) (hk1 : 1 ≤ k) (hk : k ≤ 16) (hC : Cu w B s p false) (hle : p + k ≤ s.size) (hb : Bits s b) :
    Calls Tryd.prog 54 #[.pointer (some ⟨B, 0, none⟩), .int .i64 k] w fun e w' => e = .returned (.int .i64 (sgn b p k)) ∧ Cu w' B s (p + k) false ∧ Chg B w w' := by
  have HN := Hid.mk' (next_yes B s p k w hs hC hle)
  have HM := Hid.mk' (fun u => signedExt_any s b p k u hk1 hk hb hle)
  clear hC hb
  go_enter Tryd.func54, Tryd.ntmps54
  go_wp2_with (first
    | (go_at_call 75; refine HN.out.mono ?_; rintro e w1 ⟨rfl, hC1, hG1⟩)
    | (go_at_call 77; refine (HM.out _).mono ?_; rintro e w' ⟨rfl, rfl⟩))
  go_ret
  exact ⟨rfl, hC1, hG1⟩
theorem short_no (B : Nat) (s : ByteArray) (p k : Nat) (w : World) (hs : s.size ≤ 80000) (hk : k ≤ 32) (hF : Fails w B s p k) :
    Calls Tryd.prog 54 #[.pointer (some ⟨B, 0, none⟩), .int .i64 k] w fun e w' => e = .returned (.int .i64 0) ∧ Cu w' B s p true ∧ Chg B w w' := by
  have HN := Hid.mk' (next_no B s p k w hs (by omega) hF)
  clear hF
  go_enter Tryd.func54, Tryd.ntmps54
  go_wp2_with (first
    | (go_at_call 75; refine HN.out.mono ?_; rintro e w1 ⟨rfl, hC1, hG1⟩)
    | (go_at_call 77; refine (signedEmpty_any _).mono ?_; rintro e w' ⟨rfl, rfl⟩))
  go_ret
  exact ⟨rfl, hC1, hG1⟩
end Go.Proofs.YtlncjgnomhpjnaaDoor
