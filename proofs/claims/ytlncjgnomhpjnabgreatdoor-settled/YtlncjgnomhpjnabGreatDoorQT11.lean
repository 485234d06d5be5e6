import Derived.Test.YtlncjgnomhpjnabGreatDoorQT9
import Derived.Test.YtlncjgnomhpjnabGreatDoorQT10
import Derived.Test.YtlncjgnomhpjnabGreatDoorQT3
import Derived.Test.YtlncjgnomhpjnabGreatDoorQT1
/-
  The program's packer: Code.
-/
namespace Go.Proofs.YtlncjgnomhpjnabGreatDoor
open Go.RowKit Go.Deep
set_option linter.unusedVariables false
theorem short_bd (l : Nat → Int) (n width i : Nat) (h : -4096 ≤ l i ∧ l i ≤ 4096) : -4096 ≤ shortX l n width i ∧ shortX l n width i ≤ 4096 := by
  unfold shortX
  have hp := ip2_pos (shiftN l n width)
  constructor
  · rw [Int.le_ediv_iff_mul_le hp]
    have := Int.mul_le_mul_of_nonneg_left (show (1 : Int) ≤ 2 ^ shiftN l n width by omega) (show (0 : Int) ≤ 4096 by omega)
    omega
  · by_cases h0 : 0 ≤ l i
    · have := Int.ediv_le_self (2 ^ shiftN l n width) h0; omega
    · have := Int.ediv_neg_of_neg_of_pos (show l i < 0 by omega) hp; omega
/-- what the program's tables are -/
structure Tabs (w : World) : Prop where
  fixed : TabAt w 5
  fixedLt : 5 < w.heap.size
  tz : TzAt w 4
  tzLt : 4 < w.heap.size
theorem Tabs.below {w u : World} (h : Tabs w) (hb : Below w.heap.size w u) : Tabs u :=
  ⟨fun r c hr hc => (hb.cell (p := ⟨5, 4 * r + c, none⟩) h.fixedLt).trans (h.fixed r c hr hc), Nat.lt_of_lt_of_le h.fixedLt hb.size,
   fun t ht => (hb.cell (p := ⟨4, _, none⟩) h.tzLt).trans (h.tz t ht), Nat.lt_of_lt_of_le h.tzLt hb.size⟩
set_option maxRecDepth 100000 in
set_option maxHeartbeats 2000000 in
theorem subCode_any (A : Option Addr) (n c width : Nat) (l : Nat → Int) (w : World) (hn1 : 1 ≤ n) (hn : n ≤ 32) (hw1 : 1 ≤ width) (hw : width ≤ 13) (hl : ∀ j, j < n → fitsB width (l j) = true) (hI : IntsAt w A n l) (hlow : ∀ y, A = some y → 0 < n → y.block < w.heap.size) (hT : Tabs w) :
    Calls Tryz.prog 221 #[.int .i64 width, .slice A n c] w fun e w' => e = .returned (.string (bs (subT width l n))) ∧ Below w.heap.size w w' := by
  have hsl : shiftN l n width ≤ width - 1 := shiftT_le _ _ _
  have HCS := Hid.mk' (commonShift_any A n c width l w hn hw1 hw hl hI hT.tz)
  have HSH := Hid.mk' (fun m => shorten_any A n c (shiftN l n width) l (w.drewN m) hn (by omega) hI hlow)
  have HTX : Hid (bs (subT width l n) = ⟨(binT (bestK (width - shiftN l n width) (shortX l n width) n 6 : Nat) 4 ++ binT (shiftN l n width) 4 ++ bodyT (bestK (width - shiftN l n width) (shortX l n width) n 6) (width - shiftN l n width) (shortX l n width) n).toArray⟩) := by
    show _ = _
    unfold subT subKind bs
    rw [List.append_assoc]
  have hbd := fun j (hj : j < n) => short_bd l n width j (fits_bd (hl j hj) hw)
  have HXE : Hid ((fun i => l i / 2 ^ shiftN l n width) = shortX l n width) := rfl
  rw [HXE.out] at HSH
  generalize shortX l n width = x at *
  generalize shiftN l n width = s at *
  have HSHORT := Hid.mk' (fun (u : World) (G : Nat) (h : u.rowIs G 3 n (cutV n x)) => (⟨fun i hi => ⟨_, rfl, by
      have := h.cell (i := i) hi
      unfold cutV cutI at this
      rw [if_pos hi] at this
      rw [← this]; cases i <;> simp [Addr.add]⟩, fun y hy _ => by cases hy; exact h.lt, hbd⟩ : Shorts u (some ⟨G, 0, none⟩) n x))
  have HSB := Hid.mk' (fun (G : Nat) (u : World) (hu : Shorts u (some ⟨G, 0, none⟩) n x) (ht : Tabs u) => shortestBody_any (some ⟨G, 0, none⟩) n n (width - s) x u hn1 hn (Nat.le_refl _) (by omega) (by omega) hu ht.fixed ht.fixedLt)
  have HLY := Hid.mk' (fun (G : Nat) (u : World) (hu : Shorts u (some ⟨G, 0, none⟩) n x) => lay_any (bestK (width - s) x n 6) s (some ⟨G, 0, none⟩) n n (width - s) x u (bestK_le _ _ _ _) (by omega) hn1 hn (Nat.le_refl _) (by omega) (bestK_ok _ _ _ _) hu)
  have HTT := Hid.mk' hT
  have vW : IntKind.i64.wrap ((width : Int) - (s : Int)) = ((width - s : Nat) : Int) := by rw [IntKind.wrap_i64]; omega
  rw [HTX.out]
  generalize hws : width - s = ws at *
  clear hl hI hlow hT hbd HXE HTX hws
  simp only [bodyV_eq] at HSB
  go_enter Tryz.func221, Tryz.ntmps221
  go_wp2_with (first
    | (go_at_call 262; refine HCS.out.mono ?_; rintro e w1 ⟨rfl, m, hm⟩; subst w1; clear HCS)
    | (go_at_call 263; refine (HSH.out m).mono ?_; rintro e w2 ⟨rfl, hrow, hb2⟩; have HR2 := Hid.mk' hrow; have HW2 : Hid (Below w.heap.size w w2) := (⟨hb2.os, hb2.tape, hb2.output, hb2.size, hb2.block⟩ : Below w.heap.size w w2); clear hrow hb2 HSH)
    | (go_at_call 265; refine (HSB.out _ _ ?_ ?_).mono ?_; exact HSHORT.out _ _ HR2.out; exact HTT.out.below HW2.out; rintro e w3 ⟨rfl, hb3⟩; have HR3 := Hid.mk' (HR2.out.of_block (hb3.block _ HR2.out.lt)); have HW3 := Hid.mk' (HW2.out.trans (hb3.mono HW2.out.size)); clear hb3 HSB HR2 HW2)
    | (go_at_call 264; refine (HLY.out _ _ ?_).mono ?_; exact HSHORT.out _ _ HR3.out; rintro e w4 ⟨rfl, hb4⟩; have HW4 := Hid.mk' (HW3.out.trans (hb4.mono HW3.out.size)); clear hb4 HLY))
  go_ret
  exact ⟨rfl, HW4.out⟩
def allFit (d : Nat) (f : Nat → Int) (n : Nat) : Bool := (List.range n).all fun i => fitsB d (f i)
theorem allFit_iff (d : Nat) (f : Nat → Int) (n : Nat) : allFit d f n = true ↔ ∀ i, i < n → fitsB d (f i) = true := by simp [allFit]
set_option maxHeartbeats 1000000 in
theorem areS_any (d : Nat) (a : Option Addr) (n c : Nat) (f : Nat → Int) (w : World) (h1 : 1 ≤ d) (h2 : d ≤ 13) (hn : n ≤ 17592186044416) (hI : IntsAt w a n f) :
    Calls Tryz.prog 192 #[.int .i64 d, .slice a n c] w fun e w' => e = .returned (.bool (allFit d f n)) ∧ w' = w := by
  have HI : Hid (IntsAt w a n f) := hI
  clear hI
  go_enter Tryz.func192, Tryz.ntmps192
  go_wp2
  go_loop [6, 9] (fun _ i => ∃ k : Nat, k ≤ n ∧ i = .int .i64 k ∧ Hid (∀ i, i < k → fitsB d (f i) = true)) (fun _ i => n - (intOf i).toNat)
  case atStart => exact ⟨0, Nat.zero_le _, rfl, fun i hi => absurd hi (by omega)⟩
  case round =>
    obtain ⟨k, hk, rfl, HA⟩ := hrel
    by_cases hlt : k < n
    · obtain ⟨b, off, hx, hc⟩ := HI.out.open (by omega)
      cases hx
      have hc1 := hc k hlt
      clear hc
      cases hf : fitsB d (f k)
      · go_wp2_with (go_at_call 246; refine (isSample_any _ _ _ h1 h2).mono ?_; rintro e w' ⟨rfl, rfl⟩)
        go_ret
        refine ⟨ret_bool ?_, rfl⟩
        cases e : allFit d f n with
        | false => rfl
        | true => rw [(allFit_iff d f n).1 e k hlt] at hf; cases hf
      · go_wp2_with (go_at_call 246; refine (isSample_any _ _ _ h1 h2).mono ?_; rintro e w' ⟨rfl, rfl⟩)
        go_round
        case rel =>
          refine ⟨k + 1, by omega, by go_num, fun i hi => ?_⟩
          by_cases e : i = k
          · subst e; exact hf
          · exact HA.out i (by omega)
        case measure => simp [intOf]; omega
    · have e : k = n := by omega
      subst e
      go_wp2
      go_ret
      exact ⟨ret_bool ((allFit_iff d f k).2 HA.out).symm, rfl⟩
end Go.Proofs.YtlncjgnomhpjnabGreatDoor

/-
  Texts of bits for 'Tight'; what it calls of its own package.
-/
namespace Go.Proofs.YtlncjgnomhpjnabGreatDoor
open Go.RowKit Go.Deep
set_option linter.unusedVariables false
def AllB (T : List UInt8) : Prop := ∀ c ∈ T, c = 48 ∨ c = 49
theorem AllB.append {T U : List UInt8} (h : AllB T) (k : AllB U) : AllB (T ++ U) := fun c hc => by
  rcases List.mem_append.1 hc with h1 | h1
  · exact h c h1
  · exact k c h1
theorem ltr_bit (b : Bool) : ltr b = 48 ∨ ltr b = 49 := by cases b <;> simp [ltr]
theorem binT_bits (v : Int) (k : Nat) : AllB (binT v k) := fun c hc => by
  unfold binT at hc
  obtain ⟨i, _, rfl⟩ := List.mem_map.1 hc
  exact ltr_bit _
theorem riceT_bits (f k : Nat) : AllB (riceT f k) := by
  unfold riceT
  refine AllB.append (AllB.append (fun c hc => ?_) (fun c hc => ?_)) (binT_bits _ _)
  · exact .inl (List.eq_of_mem_replicate hc)
  · exact .inr (by simpa using hc)
theorem codedT_bits (f : Nat → Nat) (k lo : Nat) : ∀ m, AllB (codedT f k lo m)
  | 0 => fun c hc => by cases hc
  | m + 1 => (codedT_bits f k lo m).append (riceT_bits _ _)
theorem partsT_bits (f : Nat → Nat) (o sz : Nat) : ∀ m, AllB (partsT f o sz m)
  | 0 => fun c hc => by cases hc
  | m + 1 => (partsT_bits f o sz m).append ((binT_bits _ _).append (codedT_bits _ _ _ _))
theorem numsT_bits (x : Nat → Int) (w : Nat) : ∀ m, AllB (numsT x w m)
  | 0 => fun c hc => by cases hc
  | m + 1 => (numsT_bits x w m).append (binT_bits _ _)
theorem bodyT_bits (kind w : Nat) (x : Nat → Int) (n : Nat) : AllB (bodyT kind w x n) := by
  unfold bodyT
  split
  · exact binT_bits _ _
  · split
    · exact numsT_bits _ _ _
    · unfold gT cutT
      refine (numsT_bits _ _ _).append (AllB.append ?_ ((binT_bits _ _).append (partsT_bits _ _ _ _)))
      split
      · exact (binT_bits _ _).append (binT_bits _ _)
      · exact fun c hc => by cases hc
theorem subT_bits (width : Nat) (l : Nat → Int) (n : Nat) : AllB (subT width l n) := (binT_bits _ _).append ((binT_bits _ _).append (bodyT_bits _ _ _ _))
theorem bs_get (T : List UInt8) (j : Nat) (h : j < (bs T).size) : (bs T)[j] = T[j]'(by rw [bs_size] at h; exact h) := rfl
/-- which of n things a number speaks of -/
def pickV (a : Int) (n : Nat) : Nat := (if a < 0 then (-(a + 1)).toNat else a.toNat) % n
theorem pickV_lt (a : Int) (n : Nat) (h : 1 ≤ n) : pickV a n < n := Nat.mod_lt _ h
set_option maxHeartbeats 400000 in
theorem pick_any (a : Int) (n : Nat) (w : World) (hn : 1 ≤ n) (hn2 : n ≤ 100000) (ha : -9223372036854775808 ≤ a ∧ a ≤ 9223372036854775807) :
    Calls Tryz.prog 13 #[.int .i64 a, .int .i64 n] w fun e w' => e = .returned (.int .i64 (pickV a n)) ∧ w' = w := by
  have nz : ¬ (n : Int) = 0 := by omega
  by_cases h : a < 0
  · have t1 : decide (a < 0) = true := decide_eq_true h
    have HV : Hid (pickV a n = (-(a + 1)).toNat % n) := by show _ = _; unfold pickV; rw [if_pos h]
    have v1 : IntKind.i64.wrap (a + 1) = a + 1 := by rw [IntKind.wrap_i64]; omega
    have v2 : IntKind.i64.wrap (-(a + 1)) = ((-(a + 1)).toNat : Int) := by rw [IntKind.wrap_i64]; omega
    generalize (-(a + 1)).toNat = q at *
    have m1 : (q : Int).tmod (n : Int) = ((q % n : Nat) : Int) := by rw [Int.tmod_eq_emod_of_nonneg (by omega)]; simp
    have hml : q % n < n := Nat.mod_lt _ hn
    have HV2 := Hid.mk' HV.out
    generalize q % n = r at *
    go_enter Tryz.func13, Tryz.ntmps13
    go_wp2
    go_ret
    exact ⟨ret_int (by rw [HV2.out]), rfl⟩
  · have t1 : decide (a < 0) = false := decide_eq_false h
    have HV : Hid (pickV a n = a.toNat % n) := by show _ = _; unfold pickV; rw [if_neg h]
    obtain ⟨q, rfl⟩ : ∃ q : Nat, a = q := ⟨a.toNat, by omega⟩
    rw [Int.toNat_natCast] at HV
    have m1 : (q : Int).tmod (n : Int) = ((q % n : Nat) : Int) := by rw [Int.tmod_eq_emod_of_nonneg (by omega)]; simp
    have hml : q % n < n := Nat.mod_lt _ hn
    have HV2 := Hid.mk' HV.out
    generalize q % n = r at *
    go_enter Tryz.func13, Tryz.ntmps13
    go_wp2
    go_ret
    exact ⟨ret_int (by rw [HV2.out]), rfl⟩
end Go.Proofs.YtlncjgnomhpjnabGreatDoor

/-
  Plain mathematics for the checks: the two ways to a remainder.
-/
namespace Go.Proofs.YtlncjgnomhpjnabGreatDoor
/-- bit number j of a list of bytes, the highest bit of the first byte first -/
def msgBit (l : List UInt8) (j : Nat) : Bool := (l.getD (j / 8) 0).toNat.testBit (7 - j % 8)
/-- what i steps of the long division have turned at place j -/
def acc (k D : Nat) (m : Nat → Bool) : Nat → Nat → Bool
  | 0, _ => false
  | i + 1, j => acc k D m i j ^^ ((m i ^^ acc k D m i i) && (decide (i ≤ j) && decide (j ≤ i + k) && D.testBit (k - (j - i))))
theorem acc_far (k D : Nat) (m : Nat → Bool) : ∀ i j, i + k ≤ j → acc k D m i j = false
  | 0, _, _ => rfl
  | i + 1, j, h => by
    have h1 := acc_far k D m i j (by omega)
    have h2 : decide (j ≤ i + k) = false := by simp; omega
    simp [acc, h1, h2]
/-- the number that a running remainder holds: i bits are done, the byte that is under way ends at e -/
def Good (k D : Nat) (m : Nat → Bool) (i e R : Nat) : Prop :=
  R < 2 ^ k ∧ ∀ p, p < k → R.testBit p = (acc k D m i (i + (k - 1 - p)) ^^ (decide (i + (k - 1 - p) < e) && m (i + (k - 1 - p))))
theorem good_zero (k D : Nat) (m : Nat → Bool) : Good k D m 0 0 0 :=
  ⟨Nat.two_pow_pos _, fun p _ => by simp [acc]⟩
theorem good_inj {k D : Nat} {m : Nat → Bool} {i e R S : Nat} (h : Good k D m i e R) (g : Good k D m i e S) : R = S := by
  refine Nat.eq_of_testBit_eq fun p => ?_
  by_cases hp : p < k
  · rw [h.2 p hp, g.2 p hp]
  · have e1 : R.testBit p = false := Nat.testBit_lt_two_pow (Nat.lt_of_lt_of_le h.1 (Nat.pow_le_pow_right (by omega) (by omega)))
    have e2 : S.testBit p = false := Nat.testBit_lt_two_pow (Nat.lt_of_lt_of_le g.1 (Nat.pow_le_pow_right (by omega) (by omega)))
    rw [e1, e2]
/-- a byte comes in -/
theorem good_start {k D : Nat} {m : Nat → Bool} {i R c : Nat} (hk : 8 ≤ k) (hc : c < 256) (hm : ∀ x, x < 8 → m (i + x) = c.testBit (7 - x))
    (h : Good k D m i i R) : Good k D m i (i + 8) (R ^^^ c * 2 ^ (k - 8)) := by
  have hb : c * 2 ^ (k - 8) < 2 ^ k := by
    have e : 2 ^ k = 256 * 2 ^ (k - 8) := by
      have : k = 8 + (k - 8) := by omega
      rw [this, Nat.pow_add]; simp
    rw [e]
    exact Nat.mul_lt_mul_of_pos_right hc (Nat.two_pow_pos _)
  refine ⟨Nat.xor_lt_two_pow h.1 hb, fun p hp => ?_⟩
  rw [Nat.testBit_xor, h.2 p hp, Nat.mul_comm, Nat.testBit_two_pow_mul]
  by_cases hq : k - 8 ≤ p
  · have e1 : i + (k - 1 - p) < i + 8 := by omega
    have e2 : decide (i + (k - 1 - p) < i) = false := decide_eq_false (by omega)
    have e3 := hm (k - 1 - p) (by omega)
    have e4 : 7 - (k - 1 - p) = p - (k - 8) := by omega
    rw [e4] at e3
    simp [e1, e2, e3, hq]
  · have e1 : ¬ i + (k - 1 - p) < i + 8 := by omega
    have e2 : decide (i + (k - 1 - p) < i) = false := decide_eq_false (by omega)
    simp [e1, e2, hq]
theorem top_iff {k R : Nat} (hk : 1 ≤ k) (h : R < 2 ^ k) : (R * 2 / 2 ^ k = 1) ↔ R.testBit (k - 1) = true := by
  have e : 2 ^ k = 2 * 2 ^ (k - 1) := by
    have : k = (k - 1) + 1 := by omega
    rw [this, Nat.pow_succ]; simp [Nat.mul_comm]
  have e2 : R * 2 / 2 ^ k = R / 2 ^ (k - 1) := by
    rw [e, Nat.mul_comm R 2, Nat.mul_div_mul_left _ _ (by decide)]
  rw [e2, Nat.testBit_eq_decide_div_mod_eq]
  have lt : R / 2 ^ (k - 1) < 2 := by
    rw [Nat.div_lt_iff_lt_mul (Nat.two_pow_pos _)]; omega
  have : R / 2 ^ (k - 1) % 2 = R / 2 ^ (k - 1) := Nat.mod_eq_of_lt lt
  rw [this]; simp
theorem dbl_bit (R p : Nat) : (R * 2).testBit p = (decide (1 ≤ p) && R.testBit (p - 1)) := by
  have := Nat.testBit_two_pow_mul (i := 1) (a := R) (j := p)
  rw [Nat.mul_comm]; simpa using this
/-- a bit goes out, and it is a 1 -/
theorem good_yes {k D : Nat} {m : Nat → Bool} {i e R : Nat} (hk : 8 ≤ k) (hD : D < 2 ^ (k + 1)) (hD1 : D.testBit k = true) (hi : i < e) (he : e ≤ i + 8)
    (h : Good k D m i e R) (ht : R * 2 / 2 ^ k = 1) : Good k D m (i + 1) e ((R * 2) ^^^ D) := by
  have top : R.testBit (k - 1) = true := (top_iff (by omega) h.1).1 ht
  have t2 := h.2 (k - 1) (by omega)
  rw [top] at t2
  have z : k - 1 - (k - 1) = 0 := by omega
  rw [z, Nat.add_zero] at t2
  have t3 : (m i ^^ acc k D m i i) = true := by
    rw [t2]; simp [hi, Bool.xor_comm]
  constructor
  · have b1 : (R * 2) ^^^ D < 2 ^ (k + 1) := Nat.xor_lt_two_pow (by rw [Nat.pow_succ]; have := h.1; omega) hD
    apply Nat.lt_pow_two_of_testBit
    intro p hp
    by_cases e : p = k
    · subst e
      rw [Nat.testBit_xor, hD1, dbl_bit, top]
      simp; omega
    · exact Nat.testBit_lt_two_pow (Nat.lt_of_lt_of_le b1 (Nat.pow_le_pow_right (by omega) (by omega)))
  · intro p hp
    have e1 : i + 1 + (k - 1 - p) = i + (k - p) := by omega
    rw [Nat.testBit_xor, dbl_bit, e1]
    have e2 : acc k D m (i + 1) (i + (k - p)) = (acc k D m i (i + (k - p)) ^^ D.testBit p) := by
      have a1 : i ≤ i + (k - p) := by omega
      have a2 : i + (k - p) ≤ i + k := by omega
      have a3 : k - (i + (k - p) - i) = p := by omega
      simp only [acc, t3, a3]
      simp
    rw [e2]
    by_cases hp0 : 1 ≤ p
    · have e3 := h.2 (p - 1) (by omega)
      have e4 : k - 1 - (p - 1) = k - p := by omega
      rw [e4] at e3
      rw [e3]
      simp only [hp0, decide_true, Bool.true_and]
      cases acc k D m i (i + (k - p)) <;> cases D.testBit p <;> cases (decide (i + (k - p) < e) && m (i + (k - p))) <;> rfl
    · have e3 : p = 0 := by omega
      subst e3
      have e4 : acc k D m i (i + (k - 0)) = false := acc_far _ _ _ _ _ (by omega)
      have e5 : decide (i + (k - 0) < e) = false := decide_eq_false (by omega)
      rw [e4, e5]
      simp
/-- a bit goes out, and it is a 0 -/
theorem good_no {k D : Nat} {m : Nat → Bool} {i e R : Nat} (hk : 8 ≤ k) (hi : i < e) (he : e ≤ i + 8)
    (h : Good k D m i e R) (ht : ¬ R * 2 / 2 ^ k = 1) : Good k D m (i + 1) e (R * 2) := by
  have top : R.testBit (k - 1) = false := by
    cases hh : R.testBit (k - 1) with
    | false => rfl
    | true => exact absurd ((top_iff (by omega) h.1).2 hh) ht
  have t2 := h.2 (k - 1) (by omega)
  rw [top] at t2
  have z : k - 1 - (k - 1) = 0 := by omega
  rw [z, Nat.add_zero] at t2
  have t3 : (m i ^^ acc k D m i i) = false := by
    rw [t2]; simp [hi, Bool.xor_comm]
  constructor
  · have b1 : R * 2 < 2 ^ (k + 1) := by rw [Nat.pow_succ]; have := h.1; omega
    apply Nat.lt_pow_two_of_testBit
    intro p hp
    by_cases e : p = k
    · subst e
      rw [dbl_bit, top]
      simp
    · exact Nat.testBit_lt_two_pow (Nat.lt_of_lt_of_le b1 (Nat.pow_le_pow_right (by omega) (by omega)))
  · intro p hp
    have e1 : i + 1 + (k - 1 - p) = i + (k - p) := by omega
    rw [dbl_bit, e1]
    have e2 : acc k D m (i + 1) (i + (k - p)) = acc k D m i (i + (k - p)) := by
      simp only [acc, t3]
      simp
    rw [e2]
    by_cases hp0 : 1 ≤ p
    · have e3 := h.2 (p - 1) (by omega)
      have e4 : k - 1 - (p - 1) = k - p := by omega
      rw [e4] at e3
      rw [e3]
      simp [hp0]
    · have e3 : p = 0 := by omega
      subst e3
      have e4 : acc k D m i (i + (k - 0)) = false := acc_far _ _ _ _ _ (by omega)
      have e5 : decide (i + (k - 0) < e) = false := decide_eq_false (by omega)
      rw [e4, e5]
      simp
theorem msgBit_byte (l : List UInt8) (k x : Nat) (hx : x < 8) : msgBit l (8 * k + x) = (l.getD k 0).toNat.testBit (7 - x) := by
  unfold msgBit
  have h1 : (8 * k + x) / 8 = k := by omega
  have h2 : (8 * k + x) % 8 = x := by omega
  rw [h1, h2]
theorem msgBit_past (l : List UInt8) (j : Nat) (h : 8 * l.length ≤ j) : msgBit l j = false := by
  unfold msgBit
  have : l.getD (j / 8) 0 = 0 := by
    rw [List.getD_eq_getElem?_getD, List.getElem?_eq_none (by omega)]; rfl
  rw [this]; simp
theorem bitsNum_bit (f : Nat → Bool) : ∀ n p, p < n → (bitsNum f n).testBit p = f (n - 1 - p)
  | 0, _, h => absurd h (by omega)
  | n + 1, 0, _ => by
    simp only [bitsNum, Nat.testBit_zero]
    cases h : f n <;> simp [h] <;> omega
  | n + 1, p + 1, h => by
    have ih := bitsNum_bit f n p (by omega)
    have e : (2 * bitsNum f n + (f n).toNat) / 2 = bitsNum f n := by
      have : (f n).toNat ≤ 1 := Bool.toNat_le _
      omega
    simp only [bitsNum, Nat.testBit_succ, e, ih]
    congr 1; omega
/-- the long division's last bits are the running remainder -/
theorem good_bitsNum {k D : Nat} {m : Nat → Bool} {L : Nat} (hm : ∀ j, L ≤ j → m j = false) : Good k D m L L (bitsNum (fun x => m (L + x) ^^ acc k D m L (L + x)) k) := by
  refine ⟨bitsNum_lt _ _, fun p hp => ?_⟩
  rw [bitsNum_bit _ _ _ hp]
  have := hm (L + (k - 1 - p)) (by omega)
  simp [this]
end Go.Proofs.YtlncjgnomhpjnabGreatDoor

/-
  The program's remainders.
-/
namespace Go.Proofs.YtlncjgnomhpjnabGreatDoor
open Go.RowKit
theorem xor_i64 (a b : Nat) (ha : a < 4294967296) (hb : b < 4294967296) : bits .xor .i64 (a : Int) (b : Int) = ((a ^^^ b : Nat) : Int) := by
  have hx : a ^^^ b < 2 ^ 32 := Nat.xor_lt_two_pow (by omega) (by omega)
  have h1 : (BitVec.ofInt 64 (a : Int)).toNat = a := by
    rw [BitVec.ofInt_natCast, BitVec.toNat_ofNat]; exact Nat.mod_eq_of_lt (by omega)
  have h2 : (BitVec.ofInt 64 (b : Int)).toNat = b := by
    rw [BitVec.ofInt_natCast, BitVec.toNat_ofNat]; exact Nat.mod_eq_of_lt (by omega)
  show IntKind.i64.wrap ((BitVec.ofInt 64 (a : Int) ^^^ BitVec.ofInt 64 (b : Int)).toNat : Int) = _
  rw [BitVec.toNat_xor, h1, h2, IntKind.wrap_i64]
  omega
theorem getD_byte (s : ByteArray) (k : Nat) (h : k < s.size) : s.data.toList.getD k 0 = s[k] := by
  rw [List.getD_eq_getElem?_getD, List.getElem?_eq_getElem (by simpa using h)]; rfl
set_option maxHeartbeats 400000 in
theorem rem8_any (s : ByteArray) (w : World) (hs : s.size ≤ 2097152) :
    Calls Tryz.prog 250 #[.string s, .int .i64 8, .int .i64 263] w fun e w' => ∃ R : Nat, e = .returned (.int .i64 R) ∧ Good 8 263 (msgBit s.data.toList) (8 * s.size) (8 * s.size) R ∧ w' = w := by
  go_enter Tryz.func250, Tryz.ntmps250
  go_wp2
  go_loop [7, 11] (fun n i => ∃ k : Nat, ∃ R : Nat, k ≤ s.size ∧ i = .int .i64 k ∧ n = .int .i64 R ∧ Good 8 263 (msgBit s.data.toList) (8 * k) (8 * k) R) (fun _ i => s.size - (intOf i).toNat)
  case atStart => exact ⟨0, 0, Nat.zero_le _, rfl, rfl, good_zero _ _ _⟩
  case round =>
    obtain ⟨k, R, hk, rfl, rfl, hG⟩ := hrel
    by_cases hlt : k < s.size
    · have hc : s[k].toNat < 256 := UInt8.toNat_lt _
      have hR : R < 256 := hG.1
      have HG : Hid (Good 8 263 (msgBit s.data.toList) (8 * k) (8 * k + 8) (R ^^^ s[k].toNat)) := by
        have := good_start (c := s[k].toNat) (by decide) hc (fun x hx => by rw [msgBit_byte _ _ _ hx, getD_byte s k hlt]) hG
        show Good _ _ _ _ _ _
        simpa using this
      clear hG
      have hx := xor_i64 R s[k].toNat (by omega) (by omega)
      go_wp2
      go_loop [7, 23] (fun n i => ∃ t : Nat, ∃ R : Nat, t ≤ 8 ∧ i = .int .i64 t ∧ n = .int .i64 R ∧ Good 8 263 (msgBit s.data.toList) (8 * k + t) (8 * k + 8) R) (fun _ i => 8 - (intOf i).toNat)
      case atStart => exact ⟨0, _, Nat.zero_le _, rfl, rfl, HG.out⟩
      case round =>
        obtain ⟨t, Q, ht, rfl, rfl, hQ⟩ := hrel
        clear hx HG
        by_cases hlt8 : t < 8
        · have hQb : Q < 256 := hQ.1
          have hx2 := xor_i64 (Q * 2) 263 (by omega) (by omega)
          have HQ : Hid (Good 8 263 (msgBit s.data.toList) (8 * k + t) (8 * k + 8) Q) := hQ
          clear hQ
          go_wp2
          · have hh : ((Q : Int) * 2 / 256 == 1) = true := by assumption
            go_round
            case rel =>
              refine ⟨t + 1, _, by omega, by go_num, by simp only [Int.natCast_mul] at hx2; exact congrArg _ hx2, good_yes (i := 8 * k + t) (by decide) (by decide) (by decide) (by omega) (by omega) HQ.out ?_⟩
              simp at hh; omega
            case measure => simp [intOf]; omega
          · have hh : ((Q : Int) * 2 / 256 == 1) = false := by assumption
            go_round
            case rel =>
              refine ⟨t + 1, Q * 2, by omega, by go_num, by go_num, good_no (i := 8 * k + t) (by decide) (by omega) (by omega) HQ.out ?_⟩
              simp at hh; omega
            case measure => simp [intOf]; omega
        · have e : t = 8 := by omega
          subst e
          have HQ : Hid (Good 8 263 (msgBit s.data.toList) (8 * k + 8) (8 * k + 8) Q) := hQ
          clear hQ
          go_wp2
          go_round
          case rel => exact ⟨k + 1, Q, by omega, by go_num, rfl, HQ.out⟩
          case measure => simp [intOf]; omega
    · have e : k = s.size := by omega
      subst e
      have HG : Hid (Good 8 263 (msgBit s.data.toList) (8 * s.size) (8 * s.size) R) := hG
      clear hG
      go_wp2
      go_ret
      exact ⟨R, rfl, HG.out, rfl⟩
set_option maxHeartbeats 400000 in
theorem rem16_any (s : ByteArray) (w : World) (hs : s.size ≤ 2097152) :
    Calls Tryz.prog 250 #[.string s, .int .i64 16, .int .i64 98309] w fun e w' => ∃ R : Nat, e = .returned (.int .i64 R) ∧ Good 16 98309 (msgBit s.data.toList) (8 * s.size) (8 * s.size) R ∧ w' = w := by
  go_enter Tryz.func250, Tryz.ntmps250
  go_wp2
  go_loop [7, 11] (fun n i => ∃ k : Nat, ∃ R : Nat, k ≤ s.size ∧ i = .int .i64 k ∧ n = .int .i64 R ∧ Good 16 98309 (msgBit s.data.toList) (8 * k) (8 * k) R) (fun _ i => s.size - (intOf i).toNat)
  case atStart => exact ⟨0, 0, Nat.zero_le _, rfl, rfl, good_zero _ _ _⟩
  case round =>
    obtain ⟨k, R, hk, rfl, rfl, hG⟩ := hrel
    by_cases hlt : k < s.size
    · have hc : s[k].toNat < 256 := UInt8.toNat_lt _
      have hR : R < 65536 := hG.1
      have HG : Hid (Good 16 98309 (msgBit s.data.toList) (8 * k) (8 * k + 8) (R ^^^ s[k].toNat * 256)) := by
        have := good_start (c := s[k].toNat) (by decide) hc (fun x hx => by rw [msgBit_byte _ _ _ hx, getD_byte s k hlt]) hG
        show Good _ _ _ _ _ _
        simpa using this
      clear hG
      have hx := xor_i64 R (s[k].toNat * 256) (by omega) (by omega)
      go_wp2
      go_loop [7, 23] (fun n i => ∃ t : Nat, ∃ R : Nat, t ≤ 8 ∧ i = .int .i64 t ∧ n = .int .i64 R ∧ Good 16 98309 (msgBit s.data.toList) (8 * k + t) (8 * k + 8) R) (fun _ i => 8 - (intOf i).toNat)
      case atStart =>
        refine ⟨0, _, Nat.zero_le _, rfl, ?_, HG.out⟩
        simp only [Int.natCast_mul] at hx; exact congrArg _ hx
      case round =>
        obtain ⟨t, Q, ht, rfl, rfl, hQ⟩ := hrel
        clear hx HG
        by_cases hlt8 : t < 8
        · have hQb : Q < 65536 := hQ.1
          have hx2 := xor_i64 (Q * 2) 98309 (by omega) (by omega)
          have HQ : Hid (Good 16 98309 (msgBit s.data.toList) (8 * k + t) (8 * k + 8) Q) := hQ
          clear hQ
          go_wp2
          · have hh : ((Q : Int) * 2 / 65536 == 1) = true := by assumption
            go_round
            case rel =>
              refine ⟨t + 1, _, by omega, by go_num, by simp only [Int.natCast_mul] at hx2; exact congrArg _ hx2, good_yes (i := 8 * k + t) (by decide) (by decide) (by decide) (by omega) (by omega) HQ.out ?_⟩
              simp at hh; omega
            case measure => simp [intOf]; omega
          · have hh : ((Q : Int) * 2 / 65536 == 1) = false := by assumption
            go_round
            case rel =>
              refine ⟨t + 1, Q * 2, by omega, by go_num, by go_num, good_no (i := 8 * k + t) (by decide) (by omega) (by omega) HQ.out ?_⟩
              simp at hh; omega
            case measure => simp [intOf]; omega
        · have e : t = 8 := by omega
          subst e
          have HQ : Hid (Good 16 98309 (msgBit s.data.toList) (8 * k + 8) (8 * k + 8) Q) := hQ
          clear hQ
          go_wp2
          go_round
          case rel => exact ⟨k + 1, Q, by omega, by go_num, rfl, HQ.out⟩
          case measure => simp [intOf]; omega
    · have e : k = s.size := by omega
      subst e
      have HG : Hid (Good 16 98309 (msgBit s.data.toList) (8 * s.size) (8 * s.size) R) := hG
      clear hG
      go_wp2
      go_ret
      exact ⟨R, rfl, HG.out, rfl⟩
end Go.Proofs.YtlncjgnomhpjnabGreatDoor

/-
  The bits of bytes, as the document spells them.
-/
namespace Go.Proofs.YtlncjgnomhpjnabGreatDoor
open Go.RowKit
def lv (b : Bool) : Int := if b then 49 else 48
end Go.Proofs.YtlncjgnomhpjnabGreatDoor

namespace Go.Proofs.YtlncjgnomhpjnabGreatDoor
open Go.RowKit
def leftBit (K D : Nat) (m : Nat → Bool) (L x : Nat) : Bool := m (L + x) ^^ acc K D m L (L + x)
end Go.Proofs.YtlncjgnomhpjnabGreatDoor

namespace Go.Proofs.YtlncjgnomhpjnabGreatDoor
open Go.RowKit
/-- the remainder of bytes -/
def crc (k D : Nat) (l : List UInt8) : Nat := bitsNum (leftBit k D (msgBit l) (8 * l.length)) k
theorem crc_good (k D : Nat) (l : List UInt8) : Good k D (msgBit l) (8 * l.length) (8 * l.length) (crc k D l) :=
  good_bitsNum fun j h => msgBit_past l j h
theorem crc_eq {k D R : Nat} {s : ByteArray} (h : Good k D (msgBit s.data.toList) (8 * s.size) (8 * s.size) R) : R = crc k D s.data.toList := by
  have e : s.data.toList.length = s.size := by simp
  rw [← e] at h
  exact good_inj h (crc_good k D _)
theorem eight_any (s : ByteArray) (w : World) (hs : s.size ≤ 2097152) :
    Calls Tryz.prog 216 #[.string s] w fun e w' => e = .returned (.int .i64 (crc 8 263 s.data.toList)) ∧ w' = w := by
  go_enter Tryz.func216, Tryz.ntmps216
  go_wp2_with (go_at_call 250; refine (rem8_any _ _ hs).mono ?_; rintro e w' ⟨R, rfl, hG, rfl⟩)
  go_ret
  exact ⟨ret_int (by rw [crc_eq hG]), rfl⟩
theorem sixteen_any (s : ByteArray) (w : World) (hs : s.size ≤ 2097152) :
    Calls Tryz.prog 196 #[.string s] w fun e w' => e = .returned (.int .i64 (crc 16 98309 s.data.toList)) ∧ w' = w := by
  go_enter Tryz.func196, Tryz.ntmps196
  go_wp2_with (go_at_call 250; refine (rem16_any _ _ hs).mono ?_; rintro e w' ⟨R, rfl, hG, rfl⟩)
  go_ret
  exact ⟨ret_int (by rw [crc_eq hG]), rfl⟩
end Go.Proofs.YtlncjgnomhpjnabGreatDoor

/-
  Plain mathematics for 'Frames': numbers in bytes, bits in bytes, the modes, a frame.
-/
namespace Go.Proofs.YtlncjgnomhpjnabGreatDoor
set_option linter.unusedVariables false
/-- a number in k bytes, the highest first -/
def inB (v k i : Nat) : UInt8 := UInt8.ofNat (v / 256 ^ (k - 1 - i) % 256)
def inT (v k : Nat) : List UInt8 := (List.range k).map (inB v k)
theorem inT_length (v k : Nat) : (inT v k).length = k := by simp [inT]
theorem strOf_in (v k : Nat) : strOf (inB v k) k = bs (inT v k) := rfl
theorem inB_nat (v k i : Nat) : (inB v k i).toNat = v / 256 ^ (k - 1 - i) % 256 := by
  unfold inB
  rw [UInt8.toNat_ofNat']
  exact Nat.mod_eq_of_lt (Nat.lt_of_lt_of_le (Nat.mod_lt _ (by decide)) (by decide))
/-- a bit of a text of letters; behind its end there are 0s -/
def tbit (t : List UInt8) (i : Nat) : Bool := t.getD i 48 == 49
theorem tbit_get {t : List UInt8} (h : AllB t) (i : Nat) (hi : i < t.length) : t[i] = ltr (tbit t i) := by
  unfold tbit
  rw [List.getD_eq_getElem?_getD, List.getElem?_eq_getElem hi]
  rcases h _ (List.getElem_mem hi) with e | e <;> rw [Option.getD_some, e] <;> rfl
/-- byte number k of the bits, 0s fill the last one up, when m bits are laid already -/
def pkN (t : List UInt8) (m k : Nat) : Nat := bitsNum (fun j => decide (8 * k + j < m) && tbit t (8 * k + j)) 8
def pkB (t : List UInt8) (k : Nat) : UInt8 := UInt8.ofNat (pkN t t.length k)
def packT (t : List UInt8) : List UInt8 := (List.range ((t.length + 7) / 8)).map (pkB t)
theorem packT_length (t : List UInt8) : (packT t).length = (t.length + 7) / 8 := by simp [packT]
theorem strOf_pack (t : List UInt8) : strOf (pkB t) ((t.length + 7) / 8) = bs (packT t) := rfl
theorem pkN_lt (t : List UInt8) (m k : Nat) : pkN t m k < 256 := bitsNum_lt _ 8
theorem pkB_nat (t : List UInt8) (k : Nat) : (pkB t k).toNat = pkN t t.length k := by
  unfold pkB
  rw [UInt8.toNat_ofNat']
  exact Nat.mod_eq_of_lt (pkN_lt _ _ _)
theorem pkN_zero (t : List UInt8) (k : Nat) : pkN t 0 k = 0 := by
  unfold pkN
  simp [bitsNum]
theorem pkN_bit (t : List UInt8) (m k p : Nat) : (pkN t m k).testBit p = (decide (p < 8) && (decide (8 * k + (7 - p) < m) && tbit t (8 * k + (7 - p)))) := by
  by_cases hp : p < 8
  · unfold pkN
    rw [bitsNum_bit _ _ _ hp]
    have e : 8 - 1 - p = 7 - p := rfl
    rw [e]; simp [hp]
  · rw [Nat.testBit_lt_two_pow (Nat.lt_of_lt_of_le (pkN_lt t m k) (Nat.le_trans (by decide : 256 ≤ 2 ^ 8) (Nat.pow_le_pow_right (by omega) (by omega))))]
    simp [hp]
theorem one_bit (b : Bool) (s p : Nat) : (b.toNat * 2 ^ s).testBit p = (decide (p = s) && b) := by
  rw [Nat.mul_comm, Nat.testBit_two_pow_mul]
  cases b
  · simp
  · by_cases e : p = s
    · subst e; simp
    · by_cases h : s ≤ p
      · have : p - s = (p - s - 1) + 1 := by omega
        simp [h, e]
        rw [this, Nat.testBit_succ]; simp
      · simp [h, e]
/-- one bit more -/
theorem pkN_step (t : List UInt8) (m : Nat) : pkN t m (m / 8) ||| (tbit t m).toNat * 2 ^ (7 - m % 8) = pkN t (m + 1) (m / 8) := by
  apply Nat.eq_of_testBit_eq
  intro p
  rw [Nat.testBit_or, pkN_bit, pkN_bit, one_bit]
  by_cases hp : p < 8
  · by_cases e : p = 7 - m % 8
    · have e1 : 8 * (m / 8) + (7 - p) = m := by omega
      rw [e1]; simp [e]
      intro h; omega
    · have e2 : decide (8 * (m / 8) + (7 - p) < m + 1) = decide (8 * (m / 8) + (7 - p) < m) := by rw [decide_eq_decide]; omega
      rw [e2]; simp [e]
  · have e : ¬ p = 7 - m % 8 := by omega
    simp [hp, e]
theorem pkN_other (t : List UInt8) (m k : Nat) (h : k ≠ m / 8) : pkN t (m + 1) k = pkN t m k := by
  apply Nat.eq_of_testBit_eq
  intro p
  rw [pkN_bit, pkN_bit]
  by_cases hp : p < 8
  · have e2 : decide (8 * k + (7 - p) < m + 1) = decide (8 * k + (7 - p) < m) := by rw [decide_eq_decide]; omega
    rw [e2]
  · simp [hp]
/-- what a head of a frame says -/
def headT (number len n mode : Nat) : List UInt8 := inT 165 1 ++ inT number 2 ++ inT len 2 ++ inT (n - 1) 1 ++ inT mode 1
theorem headT_length (number len n mode : Nat) : (headT number len n mode).length = 7 := by simp [headT, inT_length]
def seal8 (s : List UInt8) : List UInt8 := s ++ inT (crc 8 263 s) 1
def seal16 (s : List UInt8) : List UInt8 := s ++ inT (crc 16 98309 s) 2
theorem seal8_length (s : List UInt8) : (seal8 s).length = s.length + 1 := by simp [seal8, inT_length]
theorem seal16_length (s : List UInt8) : (seal16 s).length = s.length + 2 := by simp [seal16, inT_length]
def frameT (number n mode : Nat) (bits : List UInt8) : List UInt8 := seal16 (seal8 (headT number ((packT bits).length + 10) n mode) ++ packT bits)
theorem frameT_length (number n mode : Nat) (bits : List UInt8) : (frameT number n mode bits).length = (packT bits).length + 10 := by
  simp [frameT, seal16_length, seal8_length, headT_length]; omega
/-- what two channels may be told by -/
def sideL (l r : Nat → Int) (j : Nat) : Int := l j - r j
def midL (l r : Nat → Int) (j : Nat) : Int := (l j + r j) / 2
def pairT (d : Nat) (l r : Nat → Int) (n m : Nat) : List UInt8 :=
  if m = 0 then subT d l n ++ subT d r n else if m = 1 then subT d l n ++ subT (d + 1) (sideL l r) n
  else if m = 2 then subT (d + 1) (sideL l r) n ++ subT d r n else subT d (midL l r) n ++ subT (d + 1) (sideL l r) n
/-- the mode with the fewest bits, of the first m -/
def bestM (T : Nat → List UInt8) : Nat → Nat
  | 0 => 0
  | m + 1 => if m = 0 ∨ (T m).length < (T (bestM T m)).length then m else bestM T m
theorem bestM_lt (T : Nat → List UInt8) : ∀ m, 1 ≤ m → bestM T m < m
  | 0, h => absurd h (by omega)
  | m + 1, _ => by
    unfold bestM
    split
    · omega
    · have := bestM_lt T m (by omega); omega
/-- all channels, one behind the other -/
def allT (d : Nat) (F : Nat → Nat → Int) (N : Nat) : Nat → List UInt8
  | 0 => []
  | i + 1 => allT d F N i ++ subT d (F i) N
def modeN (d n : Nat) (F : Nat → Nat → Int) (N : Nat) : Nat := if n = 2 then bestM (pairT d (F 0) (F 1) N) 4 else 0
def blockT (d n : Nat) (F : Nat → Nat → Int) (N : Nat) : List UInt8 := if n = 2 then pairT d (F 0) (F 1) N (modeN d n F N) else allT d F N n
theorem modeN_lt (d n : Nat) (F : Nat → Nat → Int) (N : Nat) : modeN d n F N < 4 := by
  unfold modeN; split
  · exact bestM_lt _ 4 (by omega)
  · omega
theorem subT_pos (width : Nat) (l : Nat → Int) (n : Nat) : 8 ≤ (subT width l n).length := by rw [subT_length]; omega
theorem subT_le' (width : Nat) (l : Nat → Int) (n : Nat) (hn1 : 1 ≤ n) (hn : n ≤ 32) (hw : width ≤ 13) : (subT width l n).length ≤ 424 := by
  have := subT_le width l n hn1
  have h2 : n * width ≤ 32 * 13 := Nat.mul_le_mul hn hw
  omega
theorem pairT_bd (d : Nat) (l r : Nat → Int) (n m : Nat) (hn1 : 1 ≤ n) (hn : n ≤ 32) (hd : d ≤ 12) : 16 ≤ (pairT d l r n m).length ∧ (pairT d l r n m).length ≤ 848 := by
  have a1 := subT_pos d l n
  have a2 := subT_pos d r n
  have a3 := subT_pos (d + 1) (sideL l r) n
  have a4 := subT_pos d (midL l r) n
  have b1 := subT_le' d l n hn1 hn (by omega)
  have b2 := subT_le' d r n hn1 hn (by omega)
  have b3 := subT_le' (d + 1) (sideL l r) n hn1 hn (by omega)
  have b4 := subT_le' d (midL l r) n hn1 hn (by omega)
  unfold pairT
  split
  · rw [List.length_append]; omega
  · split
    · rw [List.length_append]; omega
    · split <;> (rw [List.length_append]; omega)
theorem pairT_bits (d : Nat) (l r : Nat → Int) (n m : Nat) : AllB (pairT d l r n m) := by
  unfold pairT
  split
  · exact (subT_bits _ _ _).append (subT_bits _ _ _)
  · split
    · exact (subT_bits _ _ _).append (subT_bits _ _ _)
    · split <;> exact (subT_bits _ _ _).append (subT_bits _ _ _)
theorem allT_bd (d : Nat) (F : Nat → Nat → Int) (N : Nat) (hn1 : 1 ≤ N) (hn : N ≤ 32) (hd : d ≤ 12) : ∀ i, 8 * i ≤ (allT d F N i).length ∧ (allT d F N i).length ≤ 424 * i
  | 0 => by simp [allT]
  | i + 1 => by
    have := allT_bd d F N hn1 hn hd i
    have a1 := subT_pos d (F i) N
    have b1 := subT_le' d (F i) N hn1 hn (by omega)
    simp only [allT, List.length_append]; omega
theorem allT_bits (d : Nat) (F : Nat → Nat → Int) (N : Nat) : ∀ i, AllB (allT d F N i)
  | 0 => fun c hc => by cases hc
  | i + 1 => (allT_bits d F N i).append (subT_bits _ _ _)
theorem blockT_bits (d n : Nat) (F : Nat → Nat → Int) (N : Nat) : AllB (blockT d n F N) := by
  unfold blockT; split
  · exact pairT_bits _ _ _ _ _
  · exact allT_bits _ _ _ _
theorem blockT_bd (d n : Nat) (F : Nat → Nat → Int) (N : Nat) (hn1 : 1 ≤ N) (hn : N ≤ 32) (hd : d ≤ 12) (h1 : 1 ≤ n) (h4 : n ≤ 4) : 8 ≤ (blockT d n F N).length ∧ (blockT d n F N).length ≤ 1696 := by
  unfold blockT; split
  · have := pairT_bd d (F 0) (F 1) N (modeN d n F N) hn1 hn hd; omega
  · have := allT_bd d F N hn1 hn hd n; omega
theorem side_fits {d : Nat} {a b : Int} (hd : 1 ≤ d) (ha : fitsB d a = true) (hb : fitsB d b = true) : fitsB (d + 1) (a - b) = true := by
  unfold fitsB at *
  rw [within_iff] at *
  have e : (2 : Int) ^ (d + 1 - 1) = 2 * 2 ^ (d - 1) := by
    have : d + 1 - 1 = (d - 1) + 1 := by omega
    rw [this, Int.pow_succ]; omega
  rw [e]; omega
theorem mid_fits {d : Nat} {a b : Int} (ha : fitsB d a = true) (hb : fitsB d b = true) : fitsB d ((a + b) / 2) = true := by
  unfold fitsB at *
  rw [within_iff] at *
  omega
end Go.Proofs.YtlncjgnomhpjnabGreatDoor

