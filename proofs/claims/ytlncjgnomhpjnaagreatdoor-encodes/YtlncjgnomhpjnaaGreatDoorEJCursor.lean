import Derived.Test.YtlncjgnomhpjnaaGreatDoorEJReadTop
/-
  The document's reader: reelref.Cursor: next, count, short, rice.
-/
namespace Go.Proofs.YtlncjgnomhpjnaaGreatDoor
open Go.RowKit Go.Deep
set_option linter.unusedVariables false

/-- a cursor -/
def Cu (w : World) (B : Nat) (s : ByteArray) (p : Nat) (bad : Bool) : Prop := w.heap[B]? = some (.cells #[.string s, .int .i64 p, .bool bad] 188 (0, 0))
theorem Cu.cells {w : World} {B : Nat} {s : ByteArray} {p : Nat} {bad : Bool} (h : Cu w B s p bad) : w.cell? ⟨B, 0, none⟩ = some (.string s) ∧ w.cell? ⟨B, 1, none⟩ = some (.int .i64 p) ∧ w.cell? ⟨B, 2, none⟩ = some (.bool bad) ∧ w.frozen? ⟨B, 1, none⟩ = false ∧ w.frozen? ⟨B, 2, none⟩ = false := by
  simp [World.cell?, World.frozen?, show w.heap[B]? = _ from h]
theorem Cu.lt {w : World} {B : Nat} {s : ByteArray} {p : Nat} {bad : Bool} (h : Cu w B s p bad) : B < w.heap.size := (Array.getElem?_eq_some_iff.1 h).1
theorem Cu.set1 {w : World} {B : Nat} {s : ByteArray} {p q : Nat} {bad : Bool} (h : Cu w B s p bad) {v : Value} (hv : v = .int .i64 q) : Cu (w.setCell ⟨B, 1, none⟩ v) B s q bad := by
  subst hv
  simp [Cu, World.setCell, Array.getElem?_modify, show w.heap[B]? = _ from h]
theorem Cu.set2 {w : World} {B : Nat} {s : ByteArray} {p : Nat} {bad : Bool} (h : Cu w B s p bad) (c : Bool) : Cu (w.setCell ⟨B, 2, none⟩ (.bool c)) B s p c := by
  simp [Cu, World.setCell, Array.getElem?_modify, show w.heap[B]? = _ from h]
theorem Cu.of {w w' : World} {B : Nat} {s : ByteArray} {p : Nat} {bad : Bool} (h : Cu w B s p bad) (e : w'.heap[B]? = w.heap[B]?) : Cu w' B s p bad := e.trans h
theorem Chg.cu {B : Nat} {w w' : World} (h : Chg B w w') {c : Nat} {s : ByteArray} {p : Nat} {bad : Bool} (hr : Cu w c s p bad) (hc : c ≠ B) : Cu w' c s p bad :=
  hr.of (h.block c hr.lt (fun e => hc (by injection e)))

set_option maxHeartbeats 1000000 in
theorem next_yes (B : Nat) (s : ByteArray) (p k : Nat) (w : World) (hs : s.size ≤ 80000) (hC : Cu w B s p false) (hle : p + k ≤ s.size) :
    Calls Tryz.prog 206 #[.pointer (some ⟨B, 0, none⟩), .int .i64 k] w fun e w' => e = .returned (.string (s.extract p (p + k))) ∧ Cu w' B s (p + k) false ∧ Chg B w w' := by
  obtain ⟨c0, c1, c2, f1, f2⟩ := hC.cells
  have HC := Hid.mk' hC
  clear hC
  go_enter Tryz.func206, Tryz.ntmps206
  go_wp2
  go_region
  all_goals go_wp2
  go_region
  all_goals go_wp2
  go_ret
  refine ⟨?_, ?_, ?_⟩
  · simp
  · exact HC.out.set1 (by go_num)
  · exact ((Chg.refl B w).set 1 _).drewN 2

set_option maxHeartbeats 1000000 in
theorem next_short (B : Nat) (s : ByteArray) (p k : Nat) (w : World) (hs : s.size ≤ 80000) (hp : p ≤ s.size) (hk : k ≤ 100000) (hC : Cu w B s p false) (hlt : s.size < p + k) :
    Calls Tryz.prog 206 #[.pointer (some ⟨B, 0, none⟩), .int .i64 k] w fun e w' => e = .returned (.string ByteArray.empty) ∧ Cu w' B s p true ∧ Chg B w w' := by
  obtain ⟨c0, c1, c2, f1, f2⟩ := hC.cells
  have HC := Hid.mk' hC
  clear hC
  go_enter Tryz.func206, Tryz.ntmps206
  go_wp2
  go_region
  all_goals go_wp2
  go_ret
  exact ⟨rfl, HC.out.set2 true, ((Chg.refl B w).set 2 _).drewN 1⟩

set_option maxHeartbeats 1000000 in
theorem next_bad (B : Nat) (s : ByteArray) (p : Nat) (k : Int) (w : World) (hC : Cu w B s p true) :
    Calls Tryz.prog 206 #[.pointer (some ⟨B, 0, none⟩), .int .i64 k] w fun e w' => e = .returned (.string ByteArray.empty) ∧ Cu w' B s p true ∧ Chg B w w' := by
  obtain ⟨c0, c1, c2, f1, f2⟩ := hC.cells
  have HC := Hid.mk' hC
  clear hC
  go_enter Tryz.func206, Tryz.ntmps206
  go_wp2
  go_region
  all_goals go_wp2
  go_ret
  exact ⟨rfl, HC.out.set2 true, ((Chg.refl B w).set 2 _).drewN 1⟩

set_option maxHeartbeats 400000 in
theorem number_any (t : ByteArray) (w : World) (hs : t.size ≤ 32) (f : Nat → Bool) (hf : ∀ j (h : j < t.size), t[j] = ltr (f j)) :
    Calls Tryz.prog 151 #[.string t] w fun e w' => e = .returned (.int .i64 (bitsNum f t.size)) ∧ w' = w := by
  go_enter Tryz.func151, Tryz.ntmps151
  go_wp2
  go_loop [3, 4] (fun n i => ∃ k : Nat, k ≤ t.size ∧ i = .int .i64 k ∧ n = .int .i64 (bitsNum f k)) (fun _ i => t.size - (intOf i).toNat)
  case atStart => exact ⟨0, Nat.zero_le _, rfl, rfl⟩
  case round =>
    obtain ⟨k, hk, rfl, rfl⟩ := hrel
    by_cases hlt : k < t.size
    · have HF : Hid (bitsNum f (k + 1) = 2 * bitsNum f k + (f k).toNat) := rfl
      have h1 := bitsNum_lt f k
      have h2 : 2 ^ k ≤ 2 ^ 32 := Nat.pow_le_pow_right (by omega) (by omega)
      have HT : Hid (t[k].toNat = 48 + (f k).toNat) := by show _ = _; rw [hf k hlt, ltr_nat]
      have h3 : 48 ≤ t[k].toNat := by rw [HT.out]; omega
      have h4 : t[k].toNat ≤ 49 := by rw [HT.out]; have := Bool.toNat_le (f k); omega
      have h5 : bitsNum f k ≤ 4294967296 := by omega
      clear hf h1 h2
      go_wp2
      go_round
      case rel => exact ⟨k + 1, by omega, by go_num, by rw [HF.out]; have := HT.out; go_num⟩
      case measure => simp [intOf]; omega
    · have e : k = t.size := by omega
      subst e
      go_wp2
      go_ret
      exact ⟨rfl, rfl⟩

theorem ext_size (s : ByteArray) (p k : Nat) (hle : p + k ≤ s.size) : (s.extract p (p + k)).size = k := by simp; omega
theorem ext_bits (s : ByteArray) (b : Nat → Bool) (p k : Nat) (hb : Bits s b) (hle : p + k ≤ s.size) : ∀ j (h : j < (s.extract p (p + k)).size), (s.extract p (p + k))[j] = ltr (b (p + j)) := by
  intro j h
  have hj : j < k := by rw [ext_size s p k hle] at h; exact h
  rw [← hb (p + j) (by omega)]
  show (s.extract p (p + k)).data[j] = s.data[p + j]'(by show p + j < s.size; omega)
  have hd : (s.extract p (p + k)).data = s.data.extract p (p + k) := by simp
  simp only [hd]
  rw [Array.getElem_extract]
theorem numExt_any (s : ByteArray) (b : Nat → Bool) (p k : Nat) (w : World) (hk : k ≤ 32) (hb : Bits s b) (hle : p + k ≤ s.size) :
    Calls Tryz.prog 151 #[.string (s.extract p (p + k))] w fun e w' => e = .returned (.int .i64 (num b p k)) ∧ w' = w := by
  have := number_any (s.extract p (p + k)) w (by rw [ext_size s p k hle]; exact hk) (fun i => b (p + i)) (ext_bits s b p k hb hle)
  rw [ext_size s p k hle] at this
  exact this
theorem numEmpty_any (w : World) : Calls Tryz.prog 151 #[.string ByteArray.empty] w fun e w' => e = .returned (.int .i64 0) ∧ w' = w :=
  number_any ByteArray.empty w (by decide) (fun _ => false) (fun j h => absurd h (by simp))

theorem count_yes (B : Nat) (s : ByteArray) (b : Nat → Bool) (p k : Nat) (w : World) (hs : s.size ≤ 80000) (hk : k ≤ 32) (hC : Cu w B s p false) (hle : p + k ≤ s.size) (hb : Bits s b) :
    Calls Tryz.prog 183 #[.pointer (some ⟨B, 0, none⟩), .int .i64 k] w fun e w' => e = .returned (.int .i64 (num b p k)) ∧ Cu w' B s (p + k) false ∧ Chg B w w' := by
  have HN := Hid.mk' (next_yes B s p k w hs hC hle)
  have HM := Hid.mk' (fun u => numExt_any s b p k u hk hb hle)
  clear hC hb
  go_enter Tryz.func183, Tryz.ntmps183
  go_wp2_with (first
    | (go_at_call 206; refine HN.out.mono ?_; rintro e w1 ⟨rfl, hC1, hG1⟩)
    | (go_at_call 151; refine (HM.out _).mono ?_; rintro e w' ⟨rfl, rfl⟩))
  go_ret
  exact ⟨rfl, hC1, hG1⟩
/-- a cursor that has failed, or will -/
def Fails (w : World) (B : Nat) (s : ByteArray) (p k : Nat) : Prop := p ≤ s.size ∧ ∃ bad, Cu w B s p bad ∧ (bad = true ∨ s.size < p + k)
theorem next_no (B : Nat) (s : ByteArray) (p k : Nat) (w : World) (hs : s.size ≤ 80000) (hk : k ≤ 100000) (hF : Fails w B s p k) :
    Calls Tryz.prog 206 #[.pointer (some ⟨B, 0, none⟩), .int .i64 k] w fun e w' => e = .returned (.string ByteArray.empty) ∧ Cu w' B s p true ∧ Chg B w w' := by
  obtain ⟨hp, bad, hC, h⟩ := hF
  cases bad with
  | true => exact next_bad B s p k w hC
  | false => rcases h with h | h
             · cases h
             · exact next_short B s p k w hs hp hk hC h
theorem count_no (B : Nat) (s : ByteArray) (p k : Nat) (w : World) (hs : s.size ≤ 80000) (hk : k ≤ 32) (hF : Fails w B s p k) :
    Calls Tryz.prog 183 #[.pointer (some ⟨B, 0, none⟩), .int .i64 k] w fun e w' => e = .returned (.int .i64 0) ∧ Cu w' B s p true ∧ Chg B w w' := by
  have HN := Hid.mk' (next_no B s p k w hs (by omega) hF)
  clear hF
  go_enter Tryz.func183, Tryz.ntmps183
  go_wp2_with (first
    | (go_at_call 206; refine HN.out.mono ?_; rintro e w1 ⟨rfl, hC1, hG1⟩)
    | (go_at_call 151; refine (numEmpty_any _).mono ?_; rintro e w' ⟨rfl, rfl⟩))
  go_ret
  exact ⟨rfl, hC1, hG1⟩

set_option maxHeartbeats 400000 in
theorem signedExt_any (s : ByteArray) (b : Nat → Bool) (p k : Nat) (w : World) (hk1 : 1 ≤ k) (hk : k ≤ 16) (hb : Bits s b) (hle : p + k ≤ s.size) :
    Calls Tryz.prog 207 #[.string (s.extract p (p + k))] w fun e w' => e = .returned (.int .i64 (sgn b p k)) ∧ w' = w := by
  have HM := Hid.mk' (fun u => numExt_any s b p k u (by omega) hb hle)
  have hsz := ext_size s p k hle
  have h0 : 0 < (s.extract p (p + k)).size := by omega
  have hbit : (s.extract p (p + k))[0] = ltr (b p) := ext_bits s b p k hb hle 0 h0
  have htop := num_top b p k hk1
  have q3 := ipow_pos k
  have q4 := ipow_le k 65536 (Nat.le_trans (Nat.pow_le_pow_right (by omega) (by omega : k ≤ 16)) (by decide))
  have q5 : num b p k < 65536 := Nat.lt_of_lt_of_le (num_lt b p k) (Nat.le_trans (Nat.pow_le_pow_right (by omega) (by omega : k ≤ 16)) (by decide))
  have HS : Hid (sgn b p k = if 2 ^ (k - 1) ≤ num b p k then (num b p k : Int) - 2 ^ k else num b p k) := rfl
  clear hb
  generalize s.extract p (p + k) = t at *
  have HSZ := Hid.mk' hsz
  by_cases h : b p = true
  · have HH := Hid.mk' (htop.2 h)
    have ht : ((t[0].toNat : Int) == 49) = true := by rw [hbit, h]; rfl
    clear hbit htop h
    subst hsz
    go_enter Tryz.func207, Tryz.ntmps207
    go_wp2_with (go_at_call 151; refine (HM.out _).mono ?_; rintro e w' ⟨rfl, rfl⟩)
    go_ret
    exact ⟨ret_int (by rw [HS.out, if_pos HH.out]), rfl⟩
  · have HH := Hid.mk' (fun e => h (htop.1 e))
    have ht : ((t[0].toNat : Int) == 49) = false := by
      have h' : b p = false := by simpa using h
      rw [hbit, h']; rfl
    clear hbit htop h
    subst hsz
    go_enter Tryz.func207, Tryz.ntmps207
    go_wp2_with (go_at_call 151; refine (HM.out _).mono ?_; rintro e w' ⟨rfl, rfl⟩)
    go_ret
    exact ⟨ret_int (by rw [HS.out, if_neg HH.out]), rfl⟩
theorem signedEmpty_any (w : World) : Calls Tryz.prog 207 #[.string ByteArray.empty] w fun e w' => e = .returned (.int .i64 0) ∧ w' = w := by
  go_enter Tryz.func207, Tryz.ntmps207
  go_wp2_with (go_at_call 151; refine (numEmpty_any _).mono ?_; rintro e w' ⟨rfl, rfl⟩)
  go_ret
  exact ⟨rfl, rfl⟩
theorem short_yes (B : Nat) (s : ByteArray) (b : Nat → Bool) (p k : Nat) (w : World) (hs : s.size ≤ 80000) (hk1 : 1 ≤ k) (hk : k ≤ 16) (hC : Cu w B s p false) (hle : p + k ≤ s.size) (hb : Bits s b) :
    Calls Tryz.prog 185 #[.pointer (some ⟨B, 0, none⟩), .int .i64 k] w fun e w' => e = .returned (.int .i64 (sgn b p k)) ∧ Cu w' B s (p + k) false ∧ Chg B w w' := by
  have HN := Hid.mk' (next_yes B s p k w hs hC hle)
  have HM := Hid.mk' (fun u => signedExt_any s b p k u hk1 hk hb hle)
  clear hC hb
  go_enter Tryz.func185, Tryz.ntmps185
  go_wp2_with (first
    | (go_at_call 206; refine HN.out.mono ?_; rintro e w1 ⟨rfl, hC1, hG1⟩)
    | (go_at_call 207; refine (HM.out _).mono ?_; rintro e w' ⟨rfl, rfl⟩))
  go_ret
  exact ⟨rfl, hC1, hG1⟩
theorem short_no (B : Nat) (s : ByteArray) (p k : Nat) (w : World) (hs : s.size ≤ 80000) (hk : k ≤ 32) (hF : Fails w B s p k) :
    Calls Tryz.prog 185 #[.pointer (some ⟨B, 0, none⟩), .int .i64 k] w fun e w' => e = .returned (.int .i64 0) ∧ Cu w' B s p true ∧ Chg B w w' := by
  have HN := Hid.mk' (next_no B s p k w hs (by omega) hF)
  clear hF
  go_enter Tryz.func185, Tryz.ntmps185
  go_wp2_with (first
    | (go_at_call 206; refine HN.out.mono ?_; rintro e w1 ⟨rfl, hC1, hG1⟩)
    | (go_at_call 207; refine (signedEmpty_any _).mono ?_; rintro e w' ⟨rfl, rfl⟩))
  go_ret
  exact ⟨rfl, hC1, hG1⟩
end Go.Proofs.YtlncjgnomhpjnaaGreatDoor

/-
  The document's reader: rice; guesses.
-/
namespace Go.Proofs.YtlncjgnomhpjnaaGreatDoor
open Go.RowKit Go.Deep
set_option linter.unusedVariables false

theorem unf_neg (f : Nat) (h : f % 2 = 1) (hf : f ≤ 4294967296) : wrap64 (-(((f : Int) + 1).tdiv 2)) = unf f := by
  unfold unf
  rw [if_neg (by omega), Int.tdiv_eq_ediv_of_nonneg (by omega)]
  exact IntWalk.wrap64_in _ ⟨by omega, by omega⟩

/-- what a Rice code's reading ends in -/
def RiceOut (e : Ending) (w w' : World) (B : Nat) (s : ByteArray) : Option (Int × Nat) → Prop
  | some vp => e = .returned (.int .i64 vp.1) ∧ Cu w' B s vp.2 false ∧ Chg B w w'
  | none => ∃ v p', e = .returned (.int .i64 v) ∧ (-1400000000 ≤ v ∧ v ≤ 1400000000) ∧ p' ≤ s.size ∧ Cu w' B s p' true ∧ Chg B w w'

theorem byte_eq {c : UInt8} {k : Nat} (hk : k < 256) : ((c.toNat : Int) == (k : Int)) = (c == UInt8.ofNat k) := by
  rw [Bool.eq_iff_iff]
  simp only [beq_iff_eq]
  constructor
  · intro e; apply UInt8.toNat_inj.1; simp [Nat.mod_eq_of_lt hk]; omega
  · intro e; rw [e]; simp [Nat.mod_eq_of_lt hk]

theorem rice_tail (B : Nat) (s : ByteArray) (b : Nat → Bool) (p k j : Nat) (bad : Bool) (w : World) (hs : s.size ≤ 80000) (hp : p ≤ s.size) (hk : k ≤ 14) (hC : Cu w B s p bad) (hb : Bits s b) (hj : p + j ≤ s.size) (hz : zrun b (s.size - p) p = j) :
    ∃ s1 p1 b1 s2 p2 b2, ∃ N : Nat,
      Hid (∀ m, Calls Tryz.prog 206 #[.pointer (some ⟨B, 0, none⟩), .int .i64 ((j : Int) + 1)] (w.drewN m) fun e u => e = .returned (.string s1) ∧ Cu u B s p1 b1 ∧ Chg B w u) ∧
      Hid (∀ u, Cu u B s p1 b1 → Calls Tryz.prog 206 #[.pointer (some ⟨B, 0, none⟩), .int .i64 k] u fun e u' => e = .returned (.string s2) ∧ Cu u' B s p2 b2 ∧ Chg B u u') ∧
      Hid (∀ u, Calls Tryz.prog 151 #[.string s2] u fun e u' => e = .returned (.int .i64 (N : Int)) ∧ u' = u) ∧ N < 16384 ∧
      Hid (∀ u, Cu u B s p2 b2 → Chg B w u → RiceOut (.returned (.int .i64 (unf (j * 2 ^ k + N)))) w u B s (if bad then none else rice b s.size k p)) := by
  have q4 : (2 : Nat) ^ k ≤ 16384 := Nat.le_trans (Nat.pow_le_pow_right (by omega) (by omega : k ≤ 14)) (by decide)
  have q6 : j * 2 ^ k ≤ 80000 * 16384 := Nat.mul_le_mul (by omega) q4
  have hub := unf_bd (j * 2 ^ k)
  have hcj : ((j + 1 : Nat) : Int) = (j : Int) + 1 := by omega
  by_cases h1 : bad = false ∧ p + (j + 1) ≤ s.size
  · obtain ⟨rfl, h1⟩ := h1
    have N1 : ∀ m, Calls Tryz.prog 206 #[.pointer (some ⟨B, 0, none⟩), .int .i64 ((j : Int) + 1)] (w.drewN m) fun e u => e = .returned (.string (s.extract p (p + (j + 1)))) ∧ Cu u B s (p + (j + 1)) false ∧ Chg B w u := by
      intro m
      rw [← hcj]
      exact (next_yes B s p (j + 1) (w.drewN m) hs hC h1).mono fun e u h => ⟨h.1, h.2.1, ((Chg.refl B w).drewN m).trans h.2.2⟩
    by_cases h2 : p + (j + 1) + k ≤ s.size
    · refine ⟨_, _, _, _, _, _, num b (p + (j + 1)) k, N1, fun u hu => next_yes B s (p + (j + 1)) k u hs hu h2, fun u => numExt_any s b (p + (j + 1)) k u (by omega) hb h2, Nat.lt_of_lt_of_le (num_lt b _ k) q4, fun u hu hg => ?_⟩
      rw [if_neg (by simp)]
      unfold rice
      rw [hz, if_pos (by omega)]
      exact ⟨by rw [show p + j + 1 = p + (j + 1) by omega], by rw [show p + j + 1 + k = p + (j + 1) + k by omega]; exact hu, hg⟩
    · refine ⟨_, _, _, _, _, _, 0, N1, fun u hu => next_no B s (p + (j + 1)) k u hs (by omega) ⟨h1, false, hu, .inr (by omega)⟩, fun u => numEmpty_any u, by omega, fun u hu hg => ?_⟩
      rw [if_neg (by simp)]
      unfold rice
      rw [hz, if_neg (by omega)]
      exact ⟨_, _, rfl, by simp only [Nat.add_zero]; omega, h1, hu, hg⟩
  · have hF : Fails w B s p (j + 1) := by
      refine ⟨hp, bad, hC, ?_⟩
      cases bad with
      | true => exact .inl rfl
      | false => right; simp only [true_and] at h1; omega
    have N1 : ∀ m, Calls Tryz.prog 206 #[.pointer (some ⟨B, 0, none⟩), .int .i64 ((j : Int) + 1)] (w.drewN m) fun e u => e = .returned (.string ByteArray.empty) ∧ Cu u B s p true ∧ Chg B w u := by
      intro m
      rw [← hcj]
      exact (next_no B s p (j + 1) (w.drewN m) hs (by omega) hF).mono fun e u h => ⟨h.1, h.2.1, ((Chg.refl B w).drewN m).trans h.2.2⟩
    refine ⟨_, _, _, _, _, _, 0, N1, fun u hu => next_no B s p k u hs (by omega) ⟨hp, true, hu, .inl rfl⟩, fun u => numEmpty_any u, by omega, fun u hu hg => ?_⟩
    have ho : (if bad = true then none else rice b s.size k p) = none := by
      split
      · rfl
      · rename_i hb'
        unfold rice
        rw [hz, if_neg]
        intro h3
        exact h1 ⟨by simpa using hb', by omega⟩
    rw [ho]
    exact ⟨_, _, rfl, by simp only [Nat.add_zero]; omega, hp, hu, hg⟩

set_option maxRecDepth 100000 in
set_option maxHeartbeats 1000000 in
theorem cRice_any (B : Nat) (s : ByteArray) (b : Nat → Bool) (p k : Nat) (bad : Bool) (w : World) (hs : s.size ≤ 80000) (hp : p ≤ s.size) (hk : k ≤ 14) (hC : Cu w B s p bad) (hb : Bits s b) :
    Calls Tryz.prog 208 #[.pointer (some ⟨B, 0, none⟩), .int .i64 k] w fun e w' => RiceOut e w w' B s (if bad then none else rice b s.size k p) := by
  obtain ⟨c0, c1, c2, f1, f2⟩ := hC.cells
  have HC := Hid.mk' hC
  have HB := Hid.mk' hb
  clear hC hb
  generalize hoo : (if bad = true then none else rice b s.size k p) = oo
  have HOO := Hid.mk' hoo
  clear hoo
  go_enter Tryz.func208, Tryz.ntmps208
  go_wp2
  go_loopw [5] (fun q wr => ∃ j : Nat, p + j ≤ s.size ∧ q = .int .i64 j ∧ Hid (∀ i, i < j → b (p + i) = false) ∧ ∃ m, wr = w.drewN m) (fun q _ => s.size - p - (intOf q).toNat)
  case atStart => exact ⟨0, by omega, rfl, fun i hi => absurd hi (by omega), 0, rfl⟩
  case round =>
    obtain ⟨j, hj, rfl, HJ, m, rfl⟩ := hrel
    have hwr : IntKind.i64.wrap ((p : Int) + (j : Int)) = (p : Int) + (j : Int) := by rw [IntKind.wrap_i64]; omega
    have htn : ((p : Int) + (j : Int)).toNat = p + j := by omega
    by_cases hlt : p + j < s.size
    · have hd1 : decide ((p : Int) + (j : Int) < (s.size : Int)) = true := decide_eq_true (by omega)
      have hl0 : 0 ≤ (p : Int) + (j : Int) := by omega
      have hl1 : (p : Int) + (j : Int) < (s.size : Int) := by omega
      by_cases hz : b (p + j) = false
      · have ht : ((s[p + j].toNat : Int) == 48) = true := by rw [HB.out (p + j) hlt, hz]; rfl
        have HZ := Hid.mk' hz
        clear hz
        go_wp2
        go_quiet ((fail))
        go_wp2
        go_roundw
        case rel =>
          refine ⟨j + 1, by omega, by go_num, fun i hi => ?_, _, rfl⟩
          by_cases e : i = j
          · subst e; exact HZ.out
          · exact HJ.out i (by omega)
        case measure => simp [intOf]; omega
      · have hz' : b (p + j) = true := by simpa using hz
        have ht : ((s[p + j].toNat : Int) == 48) = false := by rw [HB.out (p + j) hlt, hz']; rfl
        have HZR := Hid.mk' (zrun_eq b (s.size - p) p j (by omega) HJ.out (fun _ => hz'))
        clear hz hz'
        obtain ⟨s1, p1, b1, s2, p2, b2, N, HN1, HN2, HM, hN, HFIN⟩ := rice_tail B s b p k j bad w hs hp hk HC.out HB.out hj HZR.out
        have q3 := ipow_pos k
        have q4 := ipow_le k 16384 (Nat.le_trans (Nat.pow_le_pow_right (by omega) (by omega : k ≤ 14)) (by decide))
        have w1 : IntKind.i64.wrap ((2 : Int) ^ k) = 2 ^ k := by rw [IntKind.wrap_i64]; omega
        have q6 : (j : Int) * 2 ^ k ≤ 80000 * 16384 := Int.mul_le_mul (by omega) q4 (by omega) (by omega)
        have q7 : 0 ≤ (j : Int) * 2 ^ k := Int.mul_nonneg (by omega) (by omega)
        have w2 : IntKind.i64.wrap ((j : Int) * 2 ^ k) = (j : Int) * 2 ^ k := by rw [IntKind.wrap_i64]; omega
        have w3 : IntKind.i64.wrap ((j : Int) * 2 ^ k + (N : Int)) = (j : Int) * 2 ^ k + (N : Int) := by rw [IntKind.wrap_i64]; omega
        obtain ⟨F, hF⟩ : ∃ F : Nat, F = j * 2 ^ k + N := ⟨_, rfl⟩
        have hFi : (j : Int) * 2 ^ k + (N : Int) = (F : Int) := by rw [hF]; simp
        rw [← hF, HOO.out] at HFIN
        have hFb : F ≤ 4294967296 := by omega
        clear hF
        go_wp2
        go_quiet ((fail))
        go_wp2_with (first
          | (go_at_call 206; refine (HN1.out _).mono ?_; rintro e u1 ⟨rfl, hC1, hG1⟩; clear HN1; have HC1 := Hid.mk' hC1; have HG1 := Hid.mk' hG1; clear hC1 hG1)
          | (go_at_call 206; refine (HN2.out _ HC1.out).mono ?_; rintro e u2 ⟨rfl, hC2, hG2⟩; clear HN2; have HC2 := Hid.mk' hC2; have HG2 := Hid.mk' hG2; clear hC2 hG2))
        go_quiet ((go_at_call 151; exact (HM.out _).mono fun _ _ h => ⟨h.1, _, h.2⟩))
        by_cases hodd : (F) % 2 = 1
        · have ht1 : (((F : Int)) % 2 == 1) = true := by simp; omega
          go_wp2
          go_ret
          rw [unf_neg F hodd hFb]
          exact HFIN.out (u2.drewN _) HC2.out ((HG1.out.trans HG2.out).drewN _)
        · have ht1 : (((F : Int)) % 2 == 1) = false := by simp; omega
          go_wp2
          go_ret
          have hu : (F : Int) / 2 = unf F := by unfold unf; rw [if_pos (by omega)]
          rw [hu]
          exact HFIN.out (u2.drewN _) HC2.out ((HG1.out.trans HG2.out).drewN _)
    · have hd1 : decide ((p : Int) + (j : Int) < (s.size : Int)) = false := decide_eq_false (by omega)
      have HZR := Hid.mk' (zrun_eq b (s.size - p) p j (by omega) HJ.out (fun h => absurd h (by omega)))
      obtain ⟨s1, p1, b1, s2, p2, b2, N, HN1, HN2, HM, hN, HFIN⟩ := rice_tail B s b p k j bad w hs hp hk HC.out HB.out hj HZR.out
      have q3 := ipow_pos k
      have q4 := ipow_le k 16384 (Nat.le_trans (Nat.pow_le_pow_right (by omega) (by omega : k ≤ 14)) (by decide))
      have w1 : IntKind.i64.wrap ((2 : Int) ^ k) = 2 ^ k := by rw [IntKind.wrap_i64]; omega
      have q6 : (j : Int) * 2 ^ k ≤ 80000 * 16384 := Int.mul_le_mul (by omega) q4 (by omega) (by omega)
      have q7 : 0 ≤ (j : Int) * 2 ^ k := Int.mul_nonneg (by omega) (by omega)
      have w2 : IntKind.i64.wrap ((j : Int) * 2 ^ k) = (j : Int) * 2 ^ k := by rw [IntKind.wrap_i64]; omega
      have w3 : IntKind.i64.wrap ((j : Int) * 2 ^ k + (N : Int)) = (j : Int) * 2 ^ k + (N : Int) := by rw [IntKind.wrap_i64]; omega
      obtain ⟨F, hF⟩ : ∃ F : Nat, F = j * 2 ^ k + N := ⟨_, rfl⟩
      have hFi : (j : Int) * 2 ^ k + (N : Int) = (F : Int) := by rw [hF]; simp
      rw [← hF, HOO.out] at HFIN
      have hFb : F ≤ 4294967296 := by omega
      clear hF
      go_wp2
      go_quiet ((fail))
      go_wp2_with (first
        | (go_at_call 206; refine (HN1.out _).mono ?_; rintro e u1 ⟨rfl, hC1, hG1⟩; clear HN1; have HC1 := Hid.mk' hC1; have HG1 := Hid.mk' hG1; clear hC1 hG1)
        | (go_at_call 206; refine (HN2.out _ HC1.out).mono ?_; rintro e u2 ⟨rfl, hC2, hG2⟩; clear HN2; have HC2 := Hid.mk' hC2; have HG2 := Hid.mk' hG2; clear hC2 hG2))
      go_quiet ((go_at_call 151; exact (HM.out _).mono fun _ _ h => ⟨h.1, _, h.2⟩))
      by_cases hodd : (F) % 2 = 1
      · have ht1 : (((F : Int)) % 2 == 1) = true := by simp; omega
        go_wp2
        go_ret
        rw [unf_neg F hodd hFb]
        exact HFIN.out (u2.drewN _) HC2.out ((HG1.out.trans HG2.out).drewN _)
      · have ht1 : (((F : Int)) % 2 == 1) = false := by simp; omega
        go_wp2
        go_ret
        have hu : (F : Int) / 2 = unf F := by unfold unf; rw [if_pos (by omega)]
        rw [hu]
        exact HFIN.out (u2.drewN _) HC2.out ((HG1.out.trans HG2.out).drewN _)
end Go.Proofs.YtlncjgnomhpjnaaGreatDoor

/-
  The document's reader: orders, guesses, fits.
-/
namespace Go.Proofs.YtlncjgnomhpjnaaGreatDoor
open Go.RowKit Go.Deep
set_option linter.unusedVariables false

theorem cOrderOf_any (kind : Nat) (w : World) (h : 2 ≤ kind) (h7 : kind ≤ 7) :
    Calls Tryz.prog 184 #[.int .i64 kind] w fun e w' => e = .returned (.int .i64 (ord kind)) ∧ w' = w := by
  have HO : Hid (ord kind = if kind = 7 then 2 else kind - 2) := rfl
  by_cases e : kind = 7
  · have h1 : ((kind : Int) == 7) = true := by simp; omega
    go_enter Tryz.func184, Tryz.ntmps184
    go_wp2
    go_ret
    exact ⟨ret_int (by rw [HO.out, if_pos e]; rfl), rfl⟩
  · have h1 : ((kind : Int) == 7) = false := by simp; omega
    go_enter Tryz.func184, Tryz.ntmps184
    go_wp2
    go_ret
    exact ⟨ret_int (by rw [HO.out, if_neg e]; omega), rfl⟩

set_option maxHeartbeats 400000 in
theorem cFits_any (d : Nat) (v : Int) (w : World) (h1 : 1 ≤ d) (h2 : d ≤ 13) :
    Calls Tryz.prog 108 #[.int .i64 v, .int .i64 d] w fun e w' => e = .returned (.bool (fitsB d v)) ∧ w' = w := by
  have hp1 : (1 : Int) ≤ 2 ^ (d - 1) := by have : 0 < 2 ^ (d - 1) := Nat.two_pow_pos _; exact_mod_cast this
  have hp2 : (2 : Int) ^ (d - 1) ≤ 4096 := ipow_le (d - 1) 4096 (Nat.le_trans (Nat.pow_le_pow_right (by omega) (by omega : d - 1 ≤ 12)) (by decide))
  by_cases h : -(2 ^ (d - 1)) ≤ v
  · have hd : decide (-(2 ^ (d - 1)) ≤ v) = true := decide_eq_true h
    go_enter Tryz.func108, Tryz.ntmps108
    go_wp2
    go_ret
    refine ⟨ret_bool ?_, rfl⟩
    unfold fitsB within
    rw [hd]; simp; omega
  · have hd : decide (-(2 ^ (d - 1)) ≤ v) = false := decide_eq_false h
    go_enter Tryz.func108, Tryz.ntmps108
    go_wp2
    go_ret
    refine ⟨ret_bool ?_, rfl⟩
    unfold fitsB within
    rw [hd]; simp

theorem tdiv8 (a : Int) : (a.tdiv 8 = a / 8 ∧ 0 ≤ a.tmod 8) ∨ (a.tdiv 8 = a / 8 + 1 ∧ a.tmod 8 < 0) := by
  have e := Int.tmod_add_mul_tdiv a 8
  by_cases h : 0 ≤ a
  · left
    have h1 := Int.tdiv_eq_ediv_of_nonneg (b := 8) h
    omega
  · have h1 : a.tdiv 8 = -((-a) / 8) := by
      rw [← Int.tdiv_eq_ediv_of_nonneg (a := -a) (b := 8) (by omega), Int.neg_tdiv, Int.neg_neg]
    omega
theorem cDown_any (a : Int) (w : World) (h : -2000000 ≤ a ∧ a ≤ 2000000) :
    Calls Tryz.prog 170 #[.int .i64 a, .int .i64 8] w fun e w' => e = .returned (.int .i64 (a / 8)) ∧ w' = w := by
  have ht := tdiv8 a
  by_cases hm : a.tmod 8 < 0
  · have hd : decide (a.tmod 8 < 0) = true := decide_eq_true hm
    have he : a.tdiv 8 = a / 8 + 1 := by omega
    clear ht
    go_enter Tryz.func170, Tryz.ntmps170
    go_wp2
    go_ret
    exact ⟨ret_int rfl, rfl⟩
  · have hd : decide (a.tmod 8 < 0) = false := decide_eq_false hm
    have he : a.tdiv 8 = a / 8 := by omega
    clear ht
    go_enter Tryz.func170, Tryz.ntmps170
    go_wp2
    go_ret
    exact ⟨ret_int rfl, rfl⟩

set_option maxHeartbeats 1000000 in
theorem cGuess7_any (a c : Int) (g n i len : Nat) (x : Nat → Int) (w : World) (ha : -32 ≤ a ∧ a ≤ 32) (hc : -32 ≤ c ∧ c ≤ 32) (hn : n ≤ 32) (hi : i < n) (h2i : 2 ≤ i) (hX : ∀ j, j < i → -4096 ≤ x j ∧ x j ≤ 4096)
    (hrow : w.rowIs g 3 n (cutV len x)) (hil : i ≤ len) :
    Calls Tryz.prog 196 #[.int .i64 7, .int .i64 a, .int .i64 c, .slice (some ⟨g, 0, none⟩) n n, .int .i64 i] w fun e w' => e = .returned (.int .i64 (guessG 7 a c x i)) ∧ ∃ m, w' = w.drewN m := by
  have HG : Hid (guessG 7 a c x i = (a * x (i - 1) + c * x (i - 2)) / 8) := by
    show _ = _; simp [guessG, ord, sumG, wt]; congr 3
  have c1 : w.cell? ⟨g, i - 1, none⟩ = some (.int .i64 (x (i - 1))) := by
    have := hrow.cell (i := i - 1) (by omega); simpa [cutV, cutI, show i - 1 < len by omega] using this
  have c2 : w.cell? ⟨g, i - 2, none⟩ = some (.int .i64 (x (i - 2))) := by
    have := hrow.cell (i := i - 2) (by omega); simpa [cutV, cutI, show i - 2 < len by omega] using this
  have b1 := mul_bd ha (hX (i - 1) (by omega))
  have b2 := mul_bd hc (hX (i - 2) (by omega))
  generalize x (i - 1) = x1 at *
  generalize x (i - 2) = x2 at *
  clear hX hrow
  have v1 : IntKind.i64.wrap ((i : Int) - 1) = (i : Int) - 1 := by rw [IntKind.wrap_i64]; omega
  have v2 : IntKind.i64.wrap ((i : Int) - 2) = (i : Int) - 2 := by rw [IntKind.wrap_i64]; omega
  have t1 : ((i : Int) - 1).toNat = i - 1 := by omega
  have t2 : ((i : Int) - 2).toNat = i - 2 := by omega
  have l1 : 0 ≤ (i : Int) - 1 := by omega
  have l2 : 0 ≤ (i : Int) - 2 := by omega
  have l3 : (i : Int) - 1 < (n : Int) := by omega
  have l4 : (i : Int) - 2 < (n : Int) := by omega
  have v3 : IntKind.i64.wrap (a * x1) = a * x1 := by rw [IntKind.wrap_i64]; omega
  have v4 : IntKind.i64.wrap (c * x2) = c * x2 := by rw [IntKind.wrap_i64]; omega
  have v5 : IntKind.i64.wrap (a * x1 + c * x2) = a * x1 + c * x2 := by rw [IntKind.wrap_i64]; omega
  have HD := Hid.mk' (fun u => cDown_any (a * x1 + c * x2) u (by omega))
  go_enter Tryz.func196, Tryz.ntmps196
  go_wp2
  go_quiet ((go_at_call 170; exact (HD.out _).mono fun _ _ h => ⟨h.1, _, h.2⟩))
  go_wp2
  go_ret
  exact ⟨ret_int HG.out.symm, _, rfl⟩

set_option maxHeartbeats 1000000 in
theorem cGuessF_any (kind : Nat) (a c : Int) (g n i len : Nat) (x : Nat → Int) (w : World) (h2 : 2 ≤ kind) (h6 : kind ≤ 6) (hn : n ≤ 32) (hi : i < n) (hoi : kind - 2 ≤ i) (hX : ∀ j, j < i → -4096 ≤ x j ∧ x j ≤ 4096)
    (hrow : w.rowIs g 3 n (cutV len x)) (hil : i ≤ len) (hT : TabAt w 3) :
    Calls Tryz.prog 196 #[.int .i64 kind, .int .i64 a, .int .i64 c, .slice (some ⟨g, 0, none⟩) n n, .int .i64 i] w fun e w' => e = .returned (.int .i64 (guessG kind a c x i)) ∧ ∃ m, w' = w.drewN m := by
  obtain ⟨r, rfl⟩ : ∃ r, kind = r + 2 := ⟨kind - 2, by omega⟩
  have HG : Hid (guessG (r + 2) a c x i = sumG (tab r) x i r) := by
    show _ = _
    have e7 : ¬ r + 2 = 7 := by omega
    unfold guessG
    rw [if_neg e7, Int.ediv_one, show ord (r + 2) = r by unfold ord; rw [if_neg e7]; omega]
    exact sumG_congr r (fun j _ => by unfold wt; rw [if_neg e7]; rfl) (fun _ _ => rfl)
  have HX := Hid.mk' hX
  have HROW := Hid.mk' hrow
  have HT := Hid.mk' hT
  clear hX hrow hT
  go_enter Tryz.func196, Tryz.ntmps196
  have r1 : IntKind.i64.wrap ((r : Int) + 2 - 2) = (r : Int) := by rw [IntKind.wrap_i64]; omega
  go_wp2
  go_loopw [11, 12] (fun v jj wr => ∃ j : Nat, j ≤ r ∧ jj = .int .i64 j ∧ v = .int .i64 (sumG (tab r) x i j) ∧ ∃ m, wr = w.drewN m) (fun _ jj _ => r - (intOf jj).toNat)
  case atStart => exact ⟨0, Nat.zero_le _, rfl, rfl, 0, rfl⟩
  case round =>
    obtain ⟨j, hj, rfl, rfl, m, rfl⟩ := hrel
    by_cases hlt : j < r
    · have c1 : w.cell? ⟨g, i - 1 - j, none⟩ = some (.int .i64 (x (i - 1 - j))) := by
        have := HROW.out.cell (i := i - 1 - j) (by omega); simpa [cutV, cutI, show i - 1 - j < len by omega] using this
      have c2 : w.cell? ⟨3, 4 * r + j, none⟩ = some (.int .i64 (tab r j)) := HT.out r j (by omega) (by omega)
      have c3 : w.cell? ⟨3, r * 4 + j, none⟩ = some (.int .i64 (tab r j)) := by rw [Nat.mul_comm]; exact c2
      have htb : -32 ≤ tab r j ∧ tab r j ≤ 32 := by unfold tab; split <;> omega
      have hmb := mul_bd htb (HX.out (i - 1 - j) (by omega))
      have hsb := sumG_bd (w := tab r) (x := x) (i := i) (fun j => by unfold tab; split <;> omega) HX.out (by omega) j
      have HE : Hid (sumG (tab r) x i (j + 1) = sumG (tab r) x i j + tab r j * x (i - 1 - j)) := rfl
      have v1 : IntKind.i64.wrap ((i : Int) - 1) = (i : Int) - 1 := by rw [IntKind.wrap_i64]; omega
      have v2 : IntKind.i64.wrap ((i : Int) - 1 - (j : Int)) = (i : Int) - 1 - (j : Int) := by rw [IntKind.wrap_i64]; omega
      have t2 : ((i : Int) - 1 - (j : Int)).toNat = i - 1 - j := by omega
      have l1 : 0 ≤ (i : Int) - 1 - (j : Int) := by omega
      have l2 : (i : Int) - 1 - (j : Int) < (n : Int) := by omega
      have v3 : IntKind.i64.wrap (tab r j * x (i - 1 - j)) = tab r j * x (i - 1 - j) := by rw [IntKind.wrap_i64]; omega
      have v4 : IntKind.i64.wrap (sumG (tab r) x i j + tab r j * x (i - 1 - j)) = sumG (tab r) x i j + tab r j * x (i - 1 - j) := by rw [IntKind.wrap_i64]; omega
      go_wp2
      go_quiet ((fail))
      go_wp2
      go_roundw
      case rel => exact ⟨j + 1, by omega, by go_num, by rw [HE.out], _, rfl⟩
      case measure => simp [intOf]; omega
    · have e : j = r := by omega
      subst e
      go_wp2
      go_ret
      exact ⟨ret_int HG.out.symm, _, rfl⟩
end Go.Proofs.YtlncjgnomhpjnaaGreatDoor

/-
  The document's reader: rests.
-/
namespace Go.Proofs.YtlncjgnomhpjnaaGreatDoor
open Go.RowKit Go.Deep
set_option linter.unusedVariables false

def CRestsOut (e : Ending) (w w' : World) (B g : Nat) (s : ByteArray) (n : Nat) : Option St → Prop
  | some st => e = .returned (.bool true) ∧ w'.rowIs g 3 n (cutV n st.x) ∧ Cu w' B s st.p false ∧ ChgS (fun k => k = B ∨ k = g) w w'
  | none => e = .returned (.bool false) ∧ ChgS (fun k => k = B ∨ k = g) w w'

/-- the rests, by the kind -/
def cRestsSt (b : Nat → Bool) (N d kind n p : Nat) (x0 : Nat → Int) : Option St :=
  if kind = 7 then (if p + 12 ≤ N then restsSt b N d kind (sgn b p 6) (sgn b (p + 6) 6) n (p + 12) x0 else none) else restsSt b N d kind 0 0 n p x0

/-- what holds while the rests are read -/
structure CInv (w wr : World) (B g : Nat) (s : ByteArray) (d n : Nat) (p : Nat) (bad : Bool) (x : Nat → Int) (len : Nat) : Prop where
  row : wr.rowIs g 3 n (cutV len x)
  cu : Cu wr B s p bad
  chg : ChgS (fun k => k = B ∨ k = g) w wr
  p : p ≤ s.size
  fits : ∀ j, j < len → fitsB d (x j) = true

theorem CInv.chgB {w wr wr' : World} {B g : Nat} {s : ByteArray} {d n p : Nat} {bad : Bool} {x : Nat → Int} {len q : Nat} {bad' : Bool} (h : CInv w wr B g s d n p bad x len) (hc : Chg B wr wr') (hr : Cu wr' B s q bad') (hq : q ≤ s.size) (hg : g ≠ B) : CInv w wr' B g s d n q bad' x len :=
  ⟨hc.row h.row hg, hr, h.chg.chg hc (.inl (.inl rfl)), hq, h.fits⟩
theorem CInv.drewN {w wr : World} {B g : Nat} {s : ByteArray} {d n p : Nat} {bad : Bool} {x : Nat → Int} {len : Nat} (h : CInv w wr B g s d n p bad x len) (m : Nat) : CInv w (wr.drewN m) B g s d n p bad x len :=
  ⟨h.row, h.cu, h.chg.drewN m, h.p, h.fits⟩
theorem CInv.put {w wr : World} {B g : Nat} {s : ByteArray} {d n p : Nat} {bad : Bool} {x : Nat → Int} {len : Nat} (h : CInv w wr B g s d n p bad x len) (z : Int) (hz : fitsB d z = true) (hg : g ≠ B) :
    CInv w (wr.setCell ⟨g, len, none⟩ (.int .i64 z)) B g s d n p bad (updI x len z) (len + 1) := by
  have hch : Chg g wr (wr.setCell ⟨g, len, none⟩ (.int .i64 z)) := (Chg.refl _ _).set _ _
  refine ⟨cutV_step (x := updI x len z) (z := z) (by simp [updI]) ((h.row.set len (.int .i64 z)).congr fun i _ => ?_), hch.cu h.cu (Ne.symm hg), h.chg.chg hch (.inl (.inr rfl)), h.p, fun j hj => ?_⟩
  · by_cases e : i = len
    · simp [e]
    · simp only [if_neg e, cutV, cutI, updI]
  · by_cases e : j = len
    · simp [updI, e, hz]
    · simp only [updI, if_neg e]; exact h.fits j (by omega)

/-- a call that gives a number, or fails -/
theorem count_any (B : Nat) (s : ByteArray) (b : Nat → Bool) (k : Nat) (hs : s.size ≤ 80000) (hk : k ≤ 32) (hb : Bits s b) (p : Nat) (bad : Bool) (hp : p ≤ s.size) :
    ∃ v p', ∃ bad' : Bool, Hid (∀ u, Cu u B s p bad → Calls Tryz.prog 183 #[.pointer (some ⟨B, 0, none⟩), .int .i64 k] u fun e u' => e = .returned (.int .i64 (v : Nat)) ∧ Cu u' B s p' bad' ∧ Chg B u u') ∧ p' ≤ s.size ∧
      ((bad = false ∧ p + k ≤ s.size ∧ v = num b p k ∧ p' = p + k ∧ bad' = false) ∨ (¬ (bad = false ∧ p + k ≤ s.size) ∧ v = 0 ∧ bad' = true)) := by
  by_cases h : bad = false ∧ p + k ≤ s.size
  · obtain ⟨rfl, h⟩ := h
    exact ⟨num b p k, p + k, false, fun u hu => count_yes B s b p k u hs hk hu h hb, h, .inl ⟨rfl, h, rfl, rfl, rfl⟩⟩
  · refine ⟨0, p, true, fun u hu => count_no B s p k u hs hk ⟨hp, bad, hu, ?_⟩, hp, .inr ⟨h, rfl, rfl⟩⟩
    cases bad with
    | true => exact .inl rfl
    | false => right; simp only [true_and] at h; omega
theorem short_any (B : Nat) (s : ByteArray) (b : Nat → Bool) (k : Nat) (hs : s.size ≤ 80000) (hk1 : 1 ≤ k) (hk : k ≤ 16) (hb : Bits s b) (p : Nat) (bad : Bool) (hp : p ≤ s.size) :
    ∃ v p', ∃ bad' : Bool, Hid (∀ u, Cu u B s p bad → Calls Tryz.prog 185 #[.pointer (some ⟨B, 0, none⟩), .int .i64 k] u fun e u' => e = .returned (.int .i64 v) ∧ Cu u' B s p' bad' ∧ Chg B u u') ∧ p' ≤ s.size ∧
      ((bad = false ∧ p + k ≤ s.size ∧ v = sgn b p k ∧ p' = p + k ∧ bad' = false) ∨ (¬ (bad = false ∧ p + k ≤ s.size) ∧ v = 0 ∧ bad' = true)) := by
  by_cases h : bad = false ∧ p + k ≤ s.size
  · obtain ⟨rfl, h⟩ := h
    exact ⟨sgn b p k, p + k, false, fun u hu => short_yes B s b p k u hs hk1 hk hu h hb, h, .inl ⟨rfl, h, rfl, rfl, rfl⟩⟩
  · refine ⟨0, p, true, fun u hu => short_no B s p k u hs (by omega) ⟨hp, bad, hu, ?_⟩, hp, .inr ⟨h, rfl, rfl⟩⟩
    cases bad with
    | true => exact .inl rfl
    | false => right; simp only [true_and] at h; omega

/-- what stands behind the head of the rests -/
structure Head (b : Nat → Bool) (N d kind n p : Nat) (bad : Bool) (x0 : Nat → Int) (a c : Int) (q p3 : Nat) (b3 : Bool) (oo : Option St) : Prop where
  q3 : q ≤ 3
  pN : p3 ≤ N
  no : b3 = true → oo = none
  yes : b3 = false → bad = false ∧ ∃ J : Job, (J.b = b ∧ J.N = N ∧ J.w = d ∧ J.kind = kind ∧ J.a = a ∧ J.c = c ∧ J.size = n / 2 ^ q) ∧ oo = if cutB n (ord kind) q = true then J.R ⟨p3, 0, x0⟩ n else none

theorem head7 {b : Nat → Bool} {N d n p : Nat} {bad : Bool} {x0 : Nat → Int} {a c : Int} {q p1 p2 p3 : Nat} {b1 b2 b3 : Bool} {oo : Option St} (hp3 : p3 ≤ N)
    (hS1 : (bad = false ∧ p + 6 ≤ N ∧ a = sgn b p 6 ∧ p1 = p + 6 ∧ b1 = false) ∨ (¬ (bad = false ∧ p + 6 ≤ N) ∧ a = 0 ∧ b1 = true))
    (hS2 : (b1 = false ∧ p1 + 6 ≤ N ∧ c = sgn b p1 6 ∧ p2 = p1 + 6 ∧ b2 = false) ∨ (¬ (b1 = false ∧ p1 + 6 ≤ N) ∧ c = 0 ∧ b2 = true))
    (hQ : (b2 = false ∧ p2 + 2 ≤ N ∧ q = num b p2 2 ∧ p3 = p2 + 2 ∧ b3 = false) ∨ (¬ (b2 = false ∧ p2 + 2 ≤ N) ∧ q = 0 ∧ b3 = true))
    (hoo : (if bad = true then none else cRestsSt b N d 7 n p x0) = oo) : Head b N d 7 n p bad x0 a c q p3 b3 oo := by
  have hn2 := num_lt b p2 2
  refine ⟨by omega, hp3, fun e => ?_, fun e => ?_⟩
  · subst e
    rw [← hoo]
    split
    · rfl
    · rename_i hb
      unfold cRestsSt
      rw [if_pos rfl]
      split
      · rename_i h12
        rcases hS1 with ⟨e1, h1, -, rfl, rfl⟩ | ⟨h, -, -⟩
        · rcases hS2 with ⟨-, h2, -, rfl, rfl⟩ | ⟨h, -, -⟩
          · rcases hQ with ⟨-, -, -, -, h⟩ | ⟨h, -, -⟩
            · cases h
            · unfold restsSt
              rw [if_neg]
              intro h3
              exact h ⟨rfl, by omega⟩
          · exact absurd ⟨rfl, by omega⟩ h
        · exact absurd ⟨by simpa using hb, by omega⟩ h
      · rfl
  · subst e
    rcases hQ with ⟨rfl, h3, rfl, rfl, -⟩ | ⟨-, -, h⟩
    · rcases hS2 with ⟨rfl, h2, rfl, rfl, -⟩ | ⟨-, -, h⟩
      · rcases hS1 with ⟨rfl, h1, rfl, rfl, -⟩ | ⟨-, -, h⟩
        · refine ⟨rfl, theJob b N d 7 (sgn b p 6) (sgn b (p + 6) 6) n (p + 6 + 6), ⟨rfl, rfl, rfl, rfl, rfl, rfl, rfl⟩, ?_⟩
          rw [← hoo, if_neg (by simp)]
          unfold cRestsSt
          rw [if_pos rfl, if_pos (by omega)]
          unfold restsSt
          simp only [show p + 12 = p + 6 + 6 by omega, h3, true_and]
        · cases h
      · cases h
    · cases h
theorem headF {b : Nat → Bool} {N d kind n p : Nat} {bad : Bool} {x0 : Nat → Int} {q p3 : Nat} {b3 : Bool} {oo : Option St} (hk : ¬ kind = 7) (hp3 : p3 ≤ N)
    (hQ : (bad = false ∧ p + 2 ≤ N ∧ q = num b p 2 ∧ p3 = p + 2 ∧ b3 = false) ∨ (¬ (bad = false ∧ p + 2 ≤ N) ∧ q = 0 ∧ b3 = true))
    (hoo : (if bad = true then none else cRestsSt b N d kind n p x0) = oo) : Head b N d kind n p bad x0 0 0 q p3 b3 oo := by
  have hn2 := num_lt b p 2
  refine ⟨by omega, hp3, fun e => ?_, fun e => ?_⟩
  · subst e
    rw [← hoo]
    split
    · rfl
    · rename_i hb
      unfold cRestsSt
      rw [if_neg hk]
      rcases hQ with ⟨-, -, -, -, h⟩ | ⟨h, -, -⟩
      · cases h
      · unfold restsSt
        rw [if_neg]
        intro h3
        exact h ⟨by simpa using hb, h3.1⟩
  · subst e
    rcases hQ with ⟨rfl, h3, rfl, rfl, -⟩ | ⟨-, -, h⟩
    · refine ⟨rfl, theJob b N d kind 0 0 n p, ⟨rfl, rfl, rfl, rfl, rfl, rfl, rfl⟩, ?_⟩
      rw [← hoo, if_neg (by simp)]
      unfold cRestsSt
      rw [if_neg hk]
      unfold restsSt
      simp only [h3, true_and]
    · cases h

theorem cGuess_any (kind : Nat) (a c : Int) (g n i len : Nat) (x : Nat → Int) (w : World) (h2 : 2 ≤ kind) (h7 : kind ≤ 7) (ha : -32 ≤ a ∧ a ≤ 32) (hc : -32 ≤ c ∧ c ≤ 32) (hn : n ≤ 32) (hi : i < n) (hoi : ord kind ≤ i) (hX : ∀ j, j < i → -4096 ≤ x j ∧ x j ≤ 4096)
    (hrow : w.rowIs g 3 n (cutV len x)) (hil : i ≤ len) (hT : TabAt w 3) :
    Calls Tryz.prog 196 #[.int .i64 kind, .int .i64 a, .int .i64 c, .slice (some ⟨g, 0, none⟩) n n, .int .i64 i] w fun e w' => e = .returned (.int .i64 (guessG kind a c x i)) ∧ ∃ m, w' = w.drewN m := by
  by_cases h : kind = 7
  · subst h
    exact cGuess7_any a c g n i len x w ha hc hn hi hoi hX hrow hil
  · refine cGuessF_any kind a c g n i len x w h2 (by omega) hn hi ?_ hX hrow hil hT
    unfold ord at hoi
    rw [if_neg h] at hoi
    exact hoi
theorem ChgS.tab {S : Nat → Prop} {w w' : World} (h : ChgS S w w') (hT : TabAt w 3) (h3 : 3 < w.heap.size) (hS : ¬ S 3) : TabAt w' 3 := by
  intro r c hr hc
  have := hT r c hr hc
  simp only [World.cell?, h.block 3 h3 hS] at this ⊢
  exact this

end Go.Proofs.YtlncjgnomhpjnaaGreatDoor

