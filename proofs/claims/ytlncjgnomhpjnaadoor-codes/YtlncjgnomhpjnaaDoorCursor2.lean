/-
  The document's reader: rice; guesses.
-/
import Derived.Test.YtlncjgnomhpjnaaDoorCursor
namespace Go.Proofs.YtlncjgnomhpjnaaDoor
open Go.RowKit Go.Deep
set_option linter.unusedVariables false

theorem unf_neg (f : Nat) (h : f % 2 = 1) (hf : f ≤ 4294967296) : wrap64 (-(((f : Int) + 1).tdiv 2)) = unf f := by
  unfold unf
  rw [if_neg (by omega), Int.tdiv_eq_ediv_of_nonneg (by omega)]
  exact IntWalk.wrap64_in _ ⟨by omega, by omega⟩

/-- what a Rice code's reading ends in -/
def RiceOut (e : Ending) (w w' : World) (B : Nat) (s : ByteArray) : Option (Int × Nat) → Prop
  | some vp => e = .returned (.int .i64 vp.1) ∧ Cu w' B s vp.2 false ∧ Chg B w w'
  | none => ∃ v p', e = .returned (.int .i64 v) ∧ (-1400000000 ≤ v ∧ v ≤ 1400000000) ∧ p' ≤ s.size ∧ Cu w' B s p' true ∧ Chg B w w'

theorem byte_eq {c : UInt8} {k : Nat} (hk : k < 256) : ((c.toNat : Int) == (k : Int)) = (c == UInt8.ofNat k) := by
  rw [Bool.eq_iff_iff]
  simp only [beq_iff_eq]
  constructor
  · intro e; apply UInt8.toNat_inj.1; simp [Nat.mod_eq_of_lt hk]; omega
  · intro e; rw [e]; simp [Nat.mod_eq_of_lt hk]

theorem rice_tail (B : Nat) (s : ByteArray) (b : Nat → Bool) (p k j : Nat) (bad : Bool) (w : World) (hs : s.size ≤ 80000) (hp : p ≤ s.size) (hk : k ≤ 14) (hC : Cu w B s p bad) (hb : Bits s b) (hj : p + j ≤ s.size) (hz : zrun b (s.size - p) p = j) :
    ∃ s1 p1 b1 s2 p2 b2, ∃ N : Nat,
      Hid (∀ m, Calls Tryd.prog 75 #[.pointer (some ⟨B, 0, none⟩), .int .i64 ((j : Int) + 1)] (w.drewN m) fun e u => e = .returned (.string s1) ∧ Cu u B s p1 b1 ∧ Chg B w u) ∧
      Hid (∀ u, Cu u B s p1 b1 → Calls Tryd.prog 75 #[.pointer (some ⟨B, 0, none⟩), .int .i64 k] u fun e u' => e = .returned (.string s2) ∧ Cu u' B s p2 b2 ∧ Chg B u u') ∧
      Hid (∀ u, Calls Tryd.prog 76 #[.string s2] u fun e u' => e = .returned (.int .i64 (N : Int)) ∧ u' = u) ∧ N < 16384 ∧
      Hid (∀ u, Cu u B s p2 b2 → Chg B w u → RiceOut (.returned (.int .i64 (unf (j * 2 ^ k + N)))) w u B s (if bad then none else rice b s.size k p)) := by
  have q4 : (2 : Nat) ^ k ≤ 16384 := Nat.le_trans (Nat.pow_le_pow_right (by omega) (by omega : k ≤ 14)) (by decide)
  have q6 : j * 2 ^ k ≤ 80000 * 16384 := Nat.mul_le_mul (by omega) q4
  have hub := unf_bd (j * 2 ^ k)
  have hcj : ((j + 1 : Nat) : Int) = (j : Int) + 1 := by omega
  by_cases h1 : bad = false ∧ p + (j + 1) ≤ s.size
  · obtain ⟨rfl, h1⟩ := h1
    have N1 : ∀ m, Calls Tryd.prog 75 #[.pointer (some ⟨B, 0, none⟩), .int .i64 ((j : Int) + 1)] (w.drewN m) fun e u => e = .returned (.string (s.extract p (p + (j + 1)))) ∧ Cu u B s (p + (j + 1)) false ∧ Chg B w u := by
      intro m
      rw [← hcj]
      exact (next_yes B s p (j + 1) (w.drewN m) hs hC h1).mono fun e u h => ⟨h.1, h.2.1, ((Chg.refl B w).drewN m).trans h.2.2⟩
    by_cases h2 : p + (j + 1) + k ≤ s.size
    · refine ⟨_, _, _, _, _, _, num b (p + (j + 1)) k, N1, fun u hu => next_yes B s (p + (j + 1)) k u hs hu h2, fun u => numExt_any s b (p + (j + 1)) k u (by omega) hb h2, Nat.lt_of_lt_of_le (num_lt b _ k) q4, fun u hu hg => ?_⟩
      rw [if_neg (by simp)]
      unfold rice
      rw [hz, if_pos (by omega)]
      exact ⟨by rw [show p + j + 1 = p + (j + 1) by omega], by rw [show p + j + 1 + k = p + (j + 1) + k by omega]; exact hu, hg⟩
    · refine ⟨_, _, _, _, _, _, 0, N1, fun u hu => next_no B s (p + (j + 1)) k u hs (by omega) ⟨h1, false, hu, .inr (by omega)⟩, fun u => numEmpty_any u, by omega, fun u hu hg => ?_⟩
      rw [if_neg (by simp)]
      unfold rice
      rw [hz, if_neg (by omega)]
      exact ⟨_, _, rfl, by simp only [Nat.add_zero]; omega, h1, hu, hg⟩
  · have hF : Fails w B s p (j + 1) := by
      refine ⟨hp, bad, hC, ?_⟩
      cases bad with
      | true => exact .inl rfl
      | false => right; simp only [true_and] at h1; omega
    have N1 : ∀ m, Calls Tryd.prog 75 #[.pointer (some ⟨B, 0, none⟩), .int .i64 ((j : Int) + 1)] (w.drewN m) fun e u => e = .returned (.string ByteArray.empty) ∧ Cu u B s p true ∧ Chg B w u := by
      intro m
      rw [← hcj]
      exact (next_no B s p (j + 1) (w.drewN m) hs (by omega) hF).mono fun e u h => ⟨h.1, h.2.1, ((Chg.refl B w).drewN m).trans h.2.2⟩
    refine ⟨_, _, _, _, _, _, 0, N1, fun u hu => next_no B s p k u hs (by omega) ⟨hp, true, hu, .inl rfl⟩, fun u => numEmpty_any u, by omega, fun u hu hg => ?_⟩
    have ho : (if bad = true then none else rice b s.size k p) = none := by
      split
      · rfl
      · rename_i hb'
        unfold rice
        rw [hz, if_neg]
        intro h3
        exact h1 ⟨by simpa using hb', by omega⟩
    rw [ho]
    exact ⟨_, _, rfl, by simp only [Nat.add_zero]; omega, hp, hu, hg⟩

set_option maxRecDepth 100000 in
set_option maxHeartbeats 1000000 in
theorem cRice_any (B : Nat) (s : ByteArray) (b : Nat → Bool) (p k : Nat) (bad : Bool) (w : World) (hs : s.size ≤ 80000) (hp : p ≤ s.size) (hk : k ≤ 14) (hC : Cu w B s p bad) (hb : Bits s b) :
    Calls Tryd.prog 78 #[.pointer (some ⟨B, 0, none⟩), .int .i64 k] w fun e w' => RiceOut e w w' B s (if bad then none else rice b s.size k p) := by
  obtain ⟨c0, c1, c2, f1, f2⟩ := hC.cells
  have HC := Hid.mk' hC
  have HB := Hid.mk' hb
  clear hC hb
  generalize hoo : (if bad = true then none else rice b s.size k p) = oo
  have HOO := Hid.mk' hoo
  clear hoo
  go_enter Tryd.func78, Tryd.ntmps78
  go_wp2
  go_loopw [5] (fun q wr => ∃ j : Nat, p + j ≤ s.size ∧ q = .int .i64 j ∧ Hid (∀ i, i < j → b (p + i) = false) ∧ ∃ m, wr = w.drewN m) (fun q _ => s.size - p - (intOf q).toNat)
  case atStart => exact ⟨0, by omega, rfl, fun i hi => absurd hi (by omega), 0, rfl⟩
  case round =>
    obtain ⟨j, hj, rfl, HJ, m, rfl⟩ := hrel
    have hwr : IntKind.i64.wrap ((p : Int) + (j : Int)) = (p : Int) + (j : Int) := by rw [IntKind.wrap_i64]; omega
    have htn : ((p : Int) + (j : Int)).toNat = p + j := by omega
    by_cases hlt : p + j < s.size
    · have hd1 : decide ((p : Int) + (j : Int) < (s.size : Int)) = true := decide_eq_true (by omega)
      have hl0 : 0 ≤ (p : Int) + (j : Int) := by omega
      have hl1 : (p : Int) + (j : Int) < (s.size : Int) := by omega
      by_cases hz : b (p + j) = false
      · have ht : ((s[p + j].toNat : Int) == 48) = true := by rw [HB.out (p + j) hlt, hz]; rfl
        have HZ := Hid.mk' hz
        clear hz
        go_wp2
        go_quiet ((fail))
        go_wp2
        go_roundw
        case rel =>
          refine ⟨j + 1, by omega, by go_num, fun i hi => ?_, _, rfl⟩
          by_cases e : i = j
          · subst e; exact HZ.out
          · exact HJ.out i (by omega)
        case measure => simp [intOf]; omega
      · have hz' : b (p + j) = true := by simpa using hz
        have ht : ((s[p + j].toNat : Int) == 48) = false := by rw [HB.out (p + j) hlt, hz']; rfl
        have HZR := Hid.mk' (zrun_eq b (s.size - p) p j (by omega) HJ.out (fun _ => hz'))
        clear hz hz'
        obtain ⟨s1, p1, b1, s2, p2, b2, N, HN1, HN2, HM, hN, HFIN⟩ := rice_tail B s b p k j bad w hs hp hk HC.out HB.out hj HZR.out
        have q3 := ipow_pos k
        have q4 := ipow_le k 16384 (Nat.le_trans (Nat.pow_le_pow_right (by omega) (by omega : k ≤ 14)) (by decide))
        have w1 : IntKind.i64.wrap ((2 : Int) ^ k) = 2 ^ k := by rw [IntKind.wrap_i64]; omega
        have q6 : (j : Int) * 2 ^ k ≤ 80000 * 16384 := Int.mul_le_mul (by omega) q4 (by omega) (by omega)
        have q7 : 0 ≤ (j : Int) * 2 ^ k := Int.mul_nonneg (by omega) (by omega)
        have w2 : IntKind.i64.wrap ((j : Int) * 2 ^ k) = (j : Int) * 2 ^ k := by rw [IntKind.wrap_i64]; omega
        have w3 : IntKind.i64.wrap ((j : Int) * 2 ^ k + (N : Int)) = (j : Int) * 2 ^ k + (N : Int) := by rw [IntKind.wrap_i64]; omega
        obtain ⟨F, hF⟩ : ∃ F : Nat, F = j * 2 ^ k + N := ⟨_, rfl⟩
        have hFi : (j : Int) * 2 ^ k + (N : Int) = (F : Int) := by rw [hF]; simp
        rw [← hF, HOO.out] at HFIN
        have hFb : F ≤ 4294967296 := by omega
        clear hF
        go_wp2
        go_quiet ((fail))
        go_wp2_with (first
          | (go_at_call 75; refine (HN1.out _).mono ?_; rintro e u1 ⟨rfl, hC1, hG1⟩; clear HN1; have HC1 := Hid.mk' hC1; have HG1 := Hid.mk' hG1; clear hC1 hG1)
          | (go_at_call 75; refine (HN2.out _ HC1.out).mono ?_; rintro e u2 ⟨rfl, hC2, hG2⟩; clear HN2; have HC2 := Hid.mk' hC2; have HG2 := Hid.mk' hG2; clear hC2 hG2))
        go_quiet ((go_at_call 76; exact (HM.out _).mono fun _ _ h => ⟨h.1, _, h.2⟩))
        by_cases hodd : (F) % 2 = 1
        · have ht1 : (((F : Int)) % 2 == 1) = true := by simp; omega
          go_wp2
          go_ret
          rw [unf_neg F hodd hFb]
          exact HFIN.out (u2.drewN _) HC2.out ((HG1.out.trans HG2.out).drewN _)
        · have ht1 : (((F : Int)) % 2 == 1) = false := by simp; omega
          go_wp2
          go_ret
          have hu : (F : Int) / 2 = unf F := by unfold unf; rw [if_pos (by omega)]
          rw [hu]
          exact HFIN.out (u2.drewN _) HC2.out ((HG1.out.trans HG2.out).drewN _)
    · have hd1 : decide ((p : Int) + (j : Int) < (s.size : Int)) = false := decide_eq_false (by omega)
      have HZR := Hid.mk' (zrun_eq b (s.size - p) p j (by omega) HJ.out (fun h => absurd h (by omega)))
      obtain ⟨s1, p1, b1, s2, p2, b2, N, HN1, HN2, HM, hN, HFIN⟩ := rice_tail B s b p k j bad w hs hp hk HC.out HB.out hj HZR.out
      have q3 := ipow_pos k
      have q4 := ipow_le k 16384 (Nat.le_trans (Nat.pow_le_pow_right (by omega) (by omega : k ≤ 14)) (by decide))
      have w1 : IntKind.i64.wrap ((2 : Int) ^ k) = 2 ^ k := by rw [IntKind.wrap_i64]; omega
      have q6 : (j : Int) * 2 ^ k ≤ 80000 * 16384 := Int.mul_le_mul (by omega) q4 (by omega) (by omega)
      have q7 : 0 ≤ (j : Int) * 2 ^ k := Int.mul_nonneg (by omega) (by omega)
      have w2 : IntKind.i64.wrap ((j : Int) * 2 ^ k) = (j : Int) * 2 ^ k := by rw [IntKind.wrap_i64]; omega
      have w3 : IntKind.i64.wrap ((j : Int) * 2 ^ k + (N : Int)) = (j : Int) * 2 ^ k + (N : Int) := by rw [IntKind.wrap_i64]; omega
      obtain ⟨F, hF⟩ : ∃ F : Nat, F = j * 2 ^ k + N := ⟨_, rfl⟩
      have hFi : (j : Int) * 2 ^ k + (N : Int) = (F : Int) := by rw [hF]; simp
      rw [← hF, HOO.out] at HFIN
      have hFb : F ≤ 4294967296 := by omega
      clear hF
      go_wp2
      go_quiet ((fail))
      go_wp2_with (first
        | (go_at_call 75; refine (HN1.out _).mono ?_; rintro e u1 ⟨rfl, hC1, hG1⟩; clear HN1; have HC1 := Hid.mk' hC1; have HG1 := Hid.mk' hG1; clear hC1 hG1)
        | (go_at_call 75; refine (HN2.out _ HC1.out).mono ?_; rintro e u2 ⟨rfl, hC2, hG2⟩; clear HN2; have HC2 := Hid.mk' hC2; have HG2 := Hid.mk' hG2; clear hC2 hG2))
      go_quiet ((go_at_call 76; exact (HM.out _).mono fun _ _ h => ⟨h.1, _, h.2⟩))
      by_cases hodd : (F) % 2 = 1
      · have ht1 : (((F : Int)) % 2 == 1) = true := by simp; omega
        go_wp2
        go_ret
        rw [unf_neg F hodd hFb]
        exact HFIN.out (u2.drewN _) HC2.out ((HG1.out.trans HG2.out).drewN _)
      · have ht1 : (((F : Int)) % 2 == 1) = false := by simp; omega
        go_wp2
        go_ret
        have hu : (F : Int) / 2 = unf F := by unfold unf; rw [if_pos (by omega)]
        rw [hu]
        exact HFIN.out (u2.drewN _) HC2.out ((HG1.out.trans HG2.out).drewN _)
end Go.Proofs.YtlncjgnomhpjnaaDoor
