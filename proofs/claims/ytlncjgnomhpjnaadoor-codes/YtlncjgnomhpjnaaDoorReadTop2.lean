/-
  subframe.Read, IsBits, reel.Read.
-/
import Derived.Test.YtlncjgnomhpjnaaDoorReadTop
namespace Go.Proofs.YtlncjgnomhpjnaaDoor
open Go.RowKit Go.Deep
set_option linter.unusedVariables false

/-- the samples that a subframe tells, and the place behind it -/
def readSt (b : Nat → Bool) (N width n : Nat) : Option ((Nat → Int) × Nat) :=
  if 8 ≤ N ∧ num b 4 4 < width then (bodySt b N (num b 0 4) (width - num b 4 4) n 8).map fun xp => (fun i => xp.1 i * 2 ^ num b 4 4, xp.2) else none

/-- a list, a number and a word were answered -/
def Out3 (e : Ending) (w w' : World) (n : Nat) : Option ((Nat → Int) × Nat) → Prop
  | some xp => ∃ g, e = .returned (.tuple #[.slice (some ⟨g, 0, none⟩) n n, .int .i64 xp.2, .bool true]) ∧ w.heap.size ≤ g ∧ w'.rowIs g 3 n (cutV n xp.1) ∧ Below w.heap.size w w'
  | none => e = .returned (.tuple #[.slice none 0 0, .int .i64 0, .bool false]) ∧ Below w.heap.size w w'

/-- the row while it is shifted -/
def shV (n : Nat) (x : Nat → Int) (q k i : Nat) : Value := if i < k then cutV n (fun i => x i * 2 ^ q) i else cutV n x i
theorem shV_step {w : World} {g : Nat} {t : TypeId} {n k q : Nat} {x : Nat → Int} (hk : k < n) (h : w.rowIs g t n (shV n x q k)) : (w.setCell ⟨g, k, none⟩ (.int .i64 (x k * 2 ^ q))).rowIs g t n (shV n x q (k + 1)) := by
  refine (h.set k _).congr fun i _ => ?_
  unfold shV
  by_cases e : i = k
  · subst e; simp [cutV, cutI, hk]
  · by_cases e2 : i < k
    · simp [e, e2, Nat.lt_succ_of_lt e2]
    · have : ¬ i < k + 1 := by omega
      simp [e, e2, this]

theorem mul_sh {d : Nat} {v : Int} {q width : Nat} (h : fitsB d v = true) (hd1 : 1 ≤ d) (hq : d + q ≤ 13) : -4096 ≤ v * 2 ^ q ∧ v * 2 ^ q ≤ 4096 := by
  unfold fitsB at h
  rw [within_iff] at h
  have e : (2 : Int) ^ (d - 1) * 2 ^ q = 2 ^ (d - 1 + q) := by rw [Int.pow_add]
  have hp : (2 : Int) ^ (d - 1 + q) ≤ 4096 := ipow_le (d - 1 + q) 4096 (Nat.le_trans (Nat.pow_le_pow_right (by omega) (by omega : d - 1 + q ≤ 12)) (by decide))
  have hpos := ipow_pos q
  have h1 : v * 2 ^ q ≤ 2 ^ (d - 1) * 2 ^ q := Int.mul_le_mul_of_nonneg_right (by omega) (by omega)
  have h2 : -(2 ^ (d - 1)) * 2 ^ q ≤ v * 2 ^ q := Int.mul_le_mul_of_nonneg_right h.1 (by omega)
  rw [Int.neg_mul] at h2
  omega

set_option maxRecDepth 100000 in
set_option maxHeartbeats 2000000 in
theorem subRead_any (s : ByteArray) (b : Nat → Bool) (width n : Nat) (w : World) (hs : s.size ≤ 80000) (hw1 : 1 ≤ width) (hw : width ≤ 13) (hn : n ≤ 32) (hb : Bits s b) (hT : TabAt w 2) (hT2 : 2 < w.heap.size) :
    Calls Tryd.prog 22 #[.int .i64 width, .int .i64 n, .string s] w fun e w' => Out3 e w w' n (readSt b s.size width n) := by
  have HB := Hid.mk' hb
  have HT := Hid.mk' hT
  clear hb hT
  have k16 : num b 0 4 < 16 := num_lt b 0 4
  have q16 : num b 4 4 < 16 := num_lt b 4 4
  by_cases h4 : 4 ≤ s.size
  · by_cases h8 : 8 ≤ s.size
    · by_cases hq : num b 4 4 < width
      · have HO : Hid (readSt b s.size width n = (bodySt b s.size (num b 0 4) (width - num b 4 4) n 8).map fun xp => (fun i => xp.1 i * 2 ^ num b 4 4, xp.2)) := by show _ = _; unfold readSt; rw [if_pos ⟨h8, hq⟩]
        have hcast : ((width - num b 4 4 : Nat) : Int) = (width : Int) - (num b 4 4 : Int) := by omega
        have HBODY : Hid (∀ u : World, Rd u w.heap.size s 8 → TabAt u 2 → 2 < u.heap.size → Calls Tryd.prog 37 #[.pointer (some ⟨w.heap.size, 0, none⟩), .int .i64 (num b 0 4), .int .i64 ((width : Int) - (num b 4 4 : Int)), .int .i64 n] u fun e w' => Out e u w' w.heap.size s n (bodySt b s.size (num b 0 4) (width - num b 4 4) n 8)) := fun u hu hTu hu2 => by
          rw [← hcast]
          exact readBody_any w.heap.size s b 8 (width - num b 4 4) n (num b 0 4) u hs h8 (by omega) (by omega) hn (by omega) hu HB.out hTu hu2 (by omega)
        clear hcast
        cases hbody : bodySt b s.size (num b 0 4) (width - num b 4 4) n 8 with
        | none =>
          rw [hbody] at HBODY HO
          go_enter Tryd.func22, Tryd.ntmps22
          go_wp2_with (first
            | (go_at_call 35; refine (newReader_any _ _).mono ?_; rintro e w1 ⟨rfl, hR1, hb1⟩; have HR1 := Hid.mk' hR1; have HB1 := Hid.mk' hb1; clear hR1 hb1)
            | (go_at_call 36; refine (number_yes w.heap.size s b 0 4 _ hs (by omega) HR1.out (by omega) HB.out).mono ?_; rintro e w2 ⟨rfl, hR2, hC2⟩; have HR2 := Hid.mk' hR2; have HC2 := Hid.mk' hC2; clear hR2 hC2)
            | (go_at_call 36; refine (number_yes w.heap.size s b 4 4 _ hs (by omega) HR2.out (by omega) HB.out).mono ?_; rintro e w3 ⟨rfl, hR3, hC3⟩; have HR3 := Hid.mk' hR3; have HC3 := Hid.mk' hC3; clear hR3 hC3; have HB3 := Hid.mk' (HB1.out.trans ((HC2.out.trans HC3.out).toBelow (Nat.le_refl _) (Nat.le_of_lt HR1.out.lt))))
            | (go_at_call 37; refine (HBODY.out _ HR3.out (fun r c hr hc => (HB3.out.cell (p := ⟨2, 4 * r + c, none⟩) hT2).trans (HT.out r c hr hc)) (Nat.lt_of_lt_of_le hT2 HB3.out.size)).mono ?_; rintro e w4 ⟨v4, rfl, hC4⟩; have HC4 := Hid.mk' hC4; clear hC4))
          go_ret3
          rw [HO.out]
          exact ⟨rfl, HB3.out.trans (HC4.out.toBelow (Nat.le_refl _) (Nat.le_of_lt (Nat.lt_of_lt_of_le HR1.out.lt (HC2.out.trans HC3.out).size)))⟩
        | some xp =>
          rw [hbody] at HBODY HO
          have HF := Hid.mk' (body_fits (by omega) hbody)
          clear hbody
          go_enter Tryd.func22, Tryd.ntmps22
          go_wp2_with (first
            | (go_at_call 35; refine (newReader_any _ _).mono ?_; rintro e w1 ⟨rfl, hR1, hb1⟩; have HR1 := Hid.mk' hR1; have HB1 := Hid.mk' hb1; clear hR1 hb1)
            | (go_at_call 36; refine (number_yes w.heap.size s b 0 4 _ hs (by omega) HR1.out (by omega) HB.out).mono ?_; rintro e w2 ⟨rfl, hR2, hC2⟩; have HR2 := Hid.mk' hR2; have HC2 := Hid.mk' hC2; clear hR2 hC2)
            | (go_at_call 36; refine (number_yes w.heap.size s b 4 4 _ hs (by omega) HR2.out (by omega) HB.out).mono ?_; rintro e w3 ⟨rfl, hR3, hC3⟩; have HR3 := Hid.mk' hR3; have HC3 := Hid.mk' hC3; clear hR3 hC3; have HB3 := Hid.mk' (HB1.out.trans ((HC2.out.trans HC3.out).toBelow (Nat.le_refl _) (Nat.le_of_lt HR1.out.lt))))
            | (go_at_call 37; refine (HBODY.out _ HR3.out (fun r c hr hc => (HB3.out.cell (p := ⟨2, 4 * r + c, none⟩) hT2).trans (HT.out r c hr hc)) (Nat.lt_of_lt_of_le hT2 HB3.out.size)).mono ?_; rintro e w4 ⟨g, rfl, hg4, hrow4, hR4, hC4⟩; have HROW4 := Hid.mk' hrow4; have HR4 := Hid.mk' hR4; have HC4 := Hid.mk' hC4; clear hrow4 hR4 hC4))
          have HBE : Hid (Below w.heap.size w w4) := HB3.out.trans (HC4.out.toBelow (Nat.le_refl _) (Nat.le_of_lt (Nat.lt_of_lt_of_le HR1.out.lt (HC2.out.trans HC3.out).size)))
          have hgw : w.heap.size < g := by have := HR3.out.lt; omega
          have hp2 := ipow_pos (num b 4 4)
          clear HB3 HC4 HR3 HR2 HR1 HC2 HC3 HB1 HBODY
          go_loopw [14, 50] (fun _ i wr => ∃ k : Nat, k ≤ n ∧ i = .int .i64 k ∧ Hid (wr.rowIs g 3 n (shV n xp.1 (num b 4 4) k) ∧ Rd wr w.heap.size s xp.2 ∧ Below w.heap.size w wr)) (fun _ i _ => n - (intOf i).toNat)
          case atStart => exact ⟨0, Nat.zero_le _, rfl, HROW4.out.congr fun i _ => by simp [shV], HR4.out, HBE.out⟩
          case round =>
            clear HROW4 HR4 HBE
            obtain ⟨k, hk, rfl, HX⟩ := hrel
            by_cases hkn : k < n
            · have hc1 := HX.out.1.cell hkn
              have hf1 := HX.out.1.frozen k
              unfold shV cutV cutI at hc1
              rw [if_neg (Nat.lt_irrefl k), if_pos hkn] at hc1
              have hmb := mul_sh (width := width) (q := num b 4 4) (HF.out k hkn) (by omega) (by omega)
              go_wp2
              go_roundw
              case rel =>
                refine ⟨k + 1, by omega, by go_num, shV_step hkn HX.out.1, ?_, HX.out.2.2.setCell (Nat.le_of_lt hgw) _⟩
                exact ((Chg.refl g wr).set k _).rd HX.out.2.1 (by omega)
              case measure => simp [intOf]; omega
            · have e : k = n := by omega
              subst e
              go_wp2_with (go_at_call 38; refine (taken_any _ s _ _ HX.out.2.1).mono ?_; rintro e w' ⟨rfl, rfl⟩)
              go_ret3
              rw [HO.out]
              exact ⟨g, rfl, Nat.le_of_lt hgw, HX.out.1.congr fun i hi => by simp [shV, hi], HX.out.2.2⟩
      · have HO : Hid (readSt b s.size width n = none) := by show _ = _; unfold readSt; rw [if_neg (fun h => hq h.2)]
        go_enter Tryd.func22, Tryd.ntmps22
        go_wp2_with (first
          | (go_at_call 35; refine (newReader_any _ _).mono ?_; rintro e w1 ⟨rfl, hR1, hb1⟩; have HR1 := Hid.mk' hR1; have HB1 := Hid.mk' hb1; clear hR1 hb1)
          | (go_at_call 36; refine (number_yes w.heap.size s b 0 4 _ hs (by omega) HR1.out (by omega) HB.out).mono ?_; rintro e w2 ⟨rfl, hR2, hC2⟩; have HR2 := Hid.mk' hR2; have HC2 := Hid.mk' hC2; clear hR2 hC2)
          | (go_at_call 36; refine (number_yes w.heap.size s b 4 4 _ hs (by omega) HR2.out (by omega) HB.out).mono ?_; rintro e w3 ⟨rfl, hR3, hC3⟩; have HR3 := Hid.mk' hR3; have HC3 := Hid.mk' hC3; clear hR3 hC3; have HB3 := Hid.mk' (HB1.out.trans ((HC2.out.trans HC3.out).toBelow (Nat.le_refl _) (Nat.le_of_lt HR1.out.lt)))))
        go_ret3
        rw [HO.out]
        exact ⟨rfl, HB3.out⟩
    · have HO : Hid (readSt b s.size width n = none) := by show _ = _; unfold readSt; rw [if_neg (fun h => h8 h.1)]
      go_enter Tryd.func22, Tryd.ntmps22
      go_wp2_with (first
        | (go_at_call 35; refine (newReader_any _ _).mono ?_; rintro e w1 ⟨rfl, hR1, hb1⟩; have HR1 := Hid.mk' hR1; have HB1 := Hid.mk' hb1; clear hR1 hb1)
        | (go_at_call 36; refine (number_yes w.heap.size s b 0 4 _ hs (by omega) HR1.out (by omega) HB.out).mono ?_; rintro e w2 ⟨rfl, hR2, hC2⟩; have HR2 := Hid.mk' hR2; have HC2 := Hid.mk' hC2; clear hR2 hC2)
        | (go_at_call 36; refine (number_no w.heap.size s 4 4 _ hs (by omega) (by omega) HR2.out (by omega)).mono ?_; rintro e w3 ⟨rfl, j, rfl⟩))
      go_ret3
      rw [HO.out]
      exact ⟨rfl, HB1.out.trans ((HC2.out.drewN j).toBelow (Nat.le_refl _) (Nat.le_of_lt HR1.out.lt))⟩
  · have HO : Hid (readSt b s.size width n = none) := by show _ = _; unfold readSt; rw [if_neg (fun h => h4 (by omega))]
    go_enter Tryd.func22, Tryd.ntmps22
    go_wp2_with (first
      | (go_at_call 35; refine (newReader_any _ _).mono ?_; rintro e w1 ⟨rfl, hR1, hb1⟩; have HR1 := Hid.mk' hR1; have HB1 := Hid.mk' hb1; clear hR1 hb1)
      | (go_at_call 36; refine (number_no w.heap.size s 0 4 _ hs (by omega) (by omega) HR1.out (by omega)).mono ?_; rintro e w2 ⟨rfl, j, rfl⟩))
    go_ret3
    rw [HO.out]
    exact ⟨rfl, HB1.out.trans (((Chg.refl w.heap.size _).drewN j).toBelow (Nat.le_refl _) (Nat.le_of_lt HR1.out.lt))⟩

/-- a text of nothing but 0 and 1 -/
def IsBitsP (s : ByteArray) : Prop := ∀ j (h : j < s.size), s[j] = 48 ∨ s[j] = 49
/-- the bits that a text says -/
def bitsOf (s : ByteArray) (j : Nat) : Bool := if h : j < s.size then s[j] == 49 else false
theorem bits_of {s : ByteArray} (h : IsBitsP s) : Bits s (bitsOf s) := by
  intro j hj
  unfold bitsOf
  simp only [dif_pos hj]
  rcases h j hj with e | e <;> rw [e] <;> rfl
theorem byte_ne {c : UInt8} {k : Nat} (hk : k < 256) : ((c.toNat : Int) != (k : Int)) = !(c == UInt8.ofNat k) := by
  rw [Bool.eq_iff_iff]
  simp only [bne_iff_ne, ne_eq, Bool.not_eq_true', beq_eq_false_iff_ne]
  constructor
  · intro h e; apply h; rw [e]; simp [Nat.mod_eq_of_lt hk]
  · intro h e; apply h; apply UInt8.toNat_inj.1; simp [Nat.mod_eq_of_lt hk]; omega

set_option maxHeartbeats 1000000 in
theorem isBits_any (s : ByteArray) (w : World) (hs : s.size ≤ 80000) :
    Calls Tryd.prog 21 #[.string s] w fun e w' => Says e (IsBitsP s) ∧ w' = w := by
  go_enter Tryd.func21, Tryd.ntmps21
  go_wp2
  go_loop [3, 6] (fun _ i => ∃ k : Nat, k ≤ s.size ∧ i = .int .i64 k ∧ Hid (∀ j, j < k → ∀ h : j < s.size, s[j] = 48 ∨ s[j] = 49)) (fun _ i => s.size - (intOf i).toNat)
  case atStart => exact ⟨0, Nat.zero_le _, rfl, fun j hj => absurd hj (by omega)⟩
  case round =>
    obtain ⟨k, hk, rfl, HK⟩ := hrel
    by_cases hlt : k < s.size
    · by_cases h0 : s[k] = 48
      · have t0 : ((s[k].toNat : Int) != 48) = false := by rw [h0]; rfl
        have H0 := Hid.mk' h0
        clear h0
        go_wp2
        go_round
        case rel =>
          refine ⟨k + 1, by omega, by go_num, fun j hj h => ?_⟩
          by_cases e : j = k
          · subst e; exact .inl H0.out
          · exact HK.out j (by omega) h
        case measure => simp [intOf]; omega
      · have t0 : ((s[k].toNat : Int) != 48) = true := by
          have := byte_ne (c := s[k]) (k := 48) (by omega)
          rw [show ((48 : Nat) : Int) = 48 from rfl] at this
          rw [this]; simpa using h0
        have H0 := Hid.mk' h0
        clear h0
        by_cases h1 : s[k] = 49
        · have t1 : ((s[k].toNat : Int) != 49) = false := by rw [h1]; rfl
          have H1 := Hid.mk' h1
          clear h1
          go_wp2
          go_round
          case rel =>
            refine ⟨k + 1, by omega, by go_num, fun j hj h => ?_⟩
            by_cases e : j = k
            · subst e; exact .inr H1.out
            · exact HK.out j (by omega) h
          case measure => simp [intOf]; omega
        · have t1 : ((s[k].toNat : Int) != 49) = true := by
            have := byte_ne (c := s[k]) (k := 49) (by omega)
            rw [show ((49 : Nat) : Int) = 49 from rfl] at this
            rw [this]; simpa using h1
          have H1 := Hid.mk' h1
          clear h1
          go_wp2
          go_ret
          refine ⟨Says.no (fun h => ?_), rfl⟩
          rcases h k hlt with e | e
          · exact H0.out e
          · exact H1.out e
    · have e : k = s.size := by omega
      subst e
      go_wp2
      go_ret
      exact ⟨Says.yes (fun j hj => HK.out j hj hj), rfl⟩

/-- what Read answers -/
def ReadAns (e : Ending) (w w' : World) (width n : Int) (s : ByteArray) : Prop :=
  (¬ (within width 1 13 && within n 1 32) = true ∧ e = .returned (.tuple #[.slice none 0 0, .int .i64 0, .int .i64 3])) ∨
  ((within width 1 13 && within n 1 32) = true ∧ 80000 < s.size ∧ e = .returned (.tuple #[.slice none 0 0, .int .i64 0, .int .i64 4])) ∨
  ((within width 1 13 && within n 1 32) = true ∧ s.size ≤ 80000 ∧ ¬ IsBitsP s ∧ e = .returned (.tuple #[.slice none 0 0, .int .i64 0, .int .i64 5])) ∨
  ((within width 1 13 && within n 1 32) = true ∧ s.size ≤ 80000 ∧ IsBitsP s ∧ readSt (bitsOf s) s.size width.toNat n.toNat = none ∧ e = .returned (.tuple #[.slice none 0 0, .int .i64 0, .int .i64 5])) ∨
  ((within width 1 13 && within n 1 32) = true ∧ s.size ≤ 80000 ∧ IsBitsP s ∧ ∃ xp g, readSt (bitsOf s) s.size width.toNat n.toNat = some xp ∧ e = .returned (.tuple #[.slice (some ⟨g, 0, none⟩) n.toNat n.toNat, .int .i64 xp.2, .int .i64 0]) ∧ w.heap.size ≤ g ∧ w'.rowIs g 3 n.toNat (cutV n.toNat xp.1))

set_option maxHeartbeats 1000000 in
theorem read_any (width n : Int) (s : ByteArray) (w : World) (hsz : s.size ≤ 9223372036854775807) (hT : TabAt w 2) (hT2 : 2 < w.heap.size) :
    Calls Tryd.prog 9 #[.int .i64 width, .int .i64 n, .string s] w fun e w' => ReadAns e w w' width n s ∧ Below w.heap.size w w' := by
  by_cases hok : (within width 1 13 && within n 1 32) = true
  · have HOK := Hid.mk' hok
    obtain ⟨W, hWe⟩ : ∃ W : Nat, width = (W : Int) := ⟨width.toNat, by simp [within_iff] at hok; omega⟩
    obtain ⟨M, hMe⟩ : ∃ M : Nat, n = (M : Int) := ⟨n.toNat, by simp [within_iff] at hok; omega⟩
    subst hWe
    subst hMe
    have hb1 : 1 ≤ W ∧ W ≤ 13 ∧ 1 ≤ M ∧ M ≤ 32 := by simp [within_iff] at hok; omega
    by_cases hlong : s.size ≤ 80000
    · by_cases hbits : IsBitsP s
      · have HBI := Hid.mk' hbits
        have HSUB := Hid.mk' (subRead_any s (bitsOf s) W M w hlong hb1.1 hb1.2.1 hb1.2.2.2 (bits_of hbits) hT hT2)
        clear hbits hT
        cases hst : readSt (bitsOf s) s.size W M with
        | none =>
          rw [hst] at HSUB
          have HST := Hid.mk' hst
          clear hst
          go_enter Tryd.func9, Tryd.ntmps9
          go_wp2_with (first
            | (go_at_call 15; refine (isSize_any _ _ _).mono ?_; rintro e w' ⟨rfl, rfl⟩)
            | (go_at_call 21; refine (isBits_any s _ hlong).mono ?_; rintro e w' ⟨he, rfl⟩; have he := he.true_of HBI.out; subst he)
            | (go_at_call 22; refine HSUB.out.mono ?_; rintro e w1 ⟨rfl, hb1⟩))
          go_ret3
          exact ⟨.inr (.inr (.inr (.inl ⟨HOK.out, hlong, HBI.out, HST.out, rfl⟩))), hb1⟩
        | some xp =>
          rw [hst] at HSUB
          have HST := Hid.mk' hst
          clear hst
          go_enter Tryd.func9, Tryd.ntmps9
          go_wp2_with (first
            | (go_at_call 15; refine (isSize_any _ _ _).mono ?_; rintro e w' ⟨rfl, rfl⟩)
            | (go_at_call 21; refine (isBits_any s _ hlong).mono ?_; rintro e w' ⟨he, rfl⟩; have he := he.true_of HBI.out; subst he)
            | (go_at_call 22; refine HSUB.out.mono ?_; rintro e w1 ⟨g, rfl, hg, hrow, hb1⟩; have HROW := Hid.mk' hrow; clear hrow))
          go_ret3
          exact ⟨.inr (.inr (.inr (.inr ⟨HOK.out, hlong, HBI.out, xp, g, HST.out, rfl, hg, HROW.out⟩))), hb1⟩
      · have HBI := Hid.mk' hbits
        clear hbits hT
        go_enter Tryd.func9, Tryd.ntmps9
        go_wp2_with (first
          | (go_at_call 15; refine (isSize_any _ _ _).mono ?_; rintro e w' ⟨rfl, rfl⟩)
          | (go_at_call 21; refine (isBits_any s _ hlong).mono ?_; rintro e w' ⟨he, rfl⟩; have he := he.false_of HBI.out; subst he))
        go_ret3
        exact ⟨.inr (.inr (.inl ⟨HOK.out, hlong, HBI.out, rfl⟩)), Below.refl _ _⟩
    · clear hT
      go_enter Tryd.func9, Tryd.ntmps9
      go_wp2_with (go_at_call 15; refine (isSize_any _ _ _).mono ?_; rintro e w' ⟨rfl, rfl⟩)
      go_ret3
      exact ⟨.inr (.inl ⟨HOK.out, by omega, rfl⟩), Below.refl _ _⟩
  · have HOK := Hid.mk' hok
    have hok0 : (within width 1 13 && within n 1 32) = false := by simpa using hok
    clear hok hT
    go_enter Tryd.func9, Tryd.ntmps9
    go_wp2_with (go_at_call 15; refine (isSize_any _ _ _).mono ?_; rintro e w' ⟨rfl, rfl⟩; rw [hok0])
    go_ret3
    exact ⟨.inl ⟨HOK.out, rfl⟩, Below.refl _ _⟩
end Go.Proofs.YtlncjgnomhpjnaaDoor
