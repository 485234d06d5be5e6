import Derived.Test.YtlncjgnomhpjnabGreatDoorQU3
import Derived.Test.YtlncjgnomhpjnabGreatDoorQU1
import Derived.WalkKit
import Derived.Lib.Builder
import Derived.Lib.FrozenHead2
import Derived.Lib.OthersKept
/-
  subframe.Read, IsBits, reel.Read.
-/
namespace Go.Proofs.YtlncjgnomhpjnabGreatDoor
open Go.RowKit Go.Deep
set_option linter.unusedVariables false
/-- the samples that a subframe tells, and the place behind it -/
def readSt (b : Nat → Bool) (N width n : Nat) : Option ((Nat → Int) × Nat) :=
  if 8 ≤ N ∧ num b 4 4 < width then (bodySt b N (num b 0 4) (width - num b 4 4) n 8).map fun xp => (fun i => xp.1 i * 2 ^ num b 4 4, xp.2) else none
/-- a list, a number and a word were answered -/
def Out3 (e : Ending) (w w' : World) (n : Nat) : Option ((Nat → Int) × Nat) → Prop
  | some xp => ∃ g, e = .returned (.tuple #[.slice (some ⟨g, 0, none⟩) n n, .int .i64 xp.2, .bool true]) ∧ w.heap.size ≤ g ∧ w'.rowIs g 3 n (cutV n xp.1) ∧ Below w.heap.size w w'
  | none => e = .returned (.tuple #[.slice none 0 0, .int .i64 0, .bool false]) ∧ Below w.heap.size w w'
/-- the row while it is shifted -/
def shV (n : Nat) (x : Nat → Int) (q k i : Nat) : Value := if i < k then cutV n (fun i => x i * 2 ^ q) i else cutV n x i
theorem shV_step {w : World} {g : Nat} {t : TypeId} {n k q : Nat} {x : Nat → Int} (hk : k < n) (h : w.rowIs g t n (shV n x q k)) : (w.setCell ⟨g, k, none⟩ (.int .i64 (x k * 2 ^ q))).rowIs g t n (shV n x q (k + 1)) := by
  refine (h.set k _).congr fun i _ => ?_
  unfold shV
  by_cases e : i = k
  · subst e; simp [cutV, cutI, hk]
  · by_cases e2 : i < k
    · simp [e, e2, Nat.lt_succ_of_lt e2]
    · have : ¬ i < k + 1 := by omega
      simp [e, e2, this]
theorem mul_sh {d : Nat} {v : Int} {q width : Nat} (h : fitsB d v = true) (hd1 : 1 ≤ d) (hq : d + q ≤ 13) : -4096 ≤ v * 2 ^ q ∧ v * 2 ^ q ≤ 4096 := by
  unfold fitsB at h
  rw [within_iff] at h
  have e : (2 : Int) ^ (d - 1) * 2 ^ q = 2 ^ (d - 1 + q) := by rw [Int.pow_add]
  have hp : (2 : Int) ^ (d - 1 + q) ≤ 4096 := ipow_le (d - 1 + q) 4096 (Nat.le_trans (Nat.pow_le_pow_right (by omega) (by omega : d - 1 + q ≤ 12)) (by decide))
  have hpos := ipow_pos q
  have h1 : v * 2 ^ q ≤ 2 ^ (d - 1) * 2 ^ q := Int.mul_le_mul_of_nonneg_right (by omega) (by omega)
  have h2 : -(2 ^ (d - 1)) * 2 ^ q ≤ v * 2 ^ q := Int.mul_le_mul_of_nonneg_right h.1 (by omega)
  rw [Int.neg_mul] at h2
  omega
set_option maxRecDepth 100000 in
set_option maxHeartbeats 2000000 in
theorem subRead_any (s : ByteArray) (b : Nat → Bool) (width n : Nat) (w : World) (hs : s.size ≤ 80000) (hw1 : 1 ≤ width) (hw : width ≤ 13) (hn : n ≤ 32) (hb : Bits s b) (hT : TabAt w 5) (hT2 : 5 < w.heap.size) :
    Calls Tryz.prog 225 #[.int .i64 width, .int .i64 n, .string s] w fun e w' => Out3 e w w' n (readSt b s.size width n) := by
  have HB := Hid.mk' hb
  have HT := Hid.mk' hT
  clear hb hT
  have k16 : num b 0 4 < 16 := num_lt b 0 4
  have q16 : num b 4 4 < 16 := num_lt b 4 4
  by_cases h4 : 4 ≤ s.size
  · by_cases h8 : 8 ≤ s.size
    · by_cases hq : num b 4 4 < width
      · have HO : Hid (readSt b s.size width n = (bodySt b s.size (num b 0 4) (width - num b 4 4) n 8).map fun xp => (fun i => xp.1 i * 2 ^ num b 4 4, xp.2)) := by show _ = _; unfold readSt; rw [if_pos ⟨h8, hq⟩]
        have hcast : ((width - num b 4 4 : Nat) : Int) = (width : Int) - (num b 4 4 : Int) := by omega
        have HBODY : Hid (∀ u : World, Rd u w.heap.size s 8 → TabAt u 5 → 5 < u.heap.size → Calls Tryz.prog 270 #[.pointer (some ⟨w.heap.size, 0, none⟩), .int .i64 (num b 0 4), .int .i64 ((width : Int) - (num b 4 4 : Int)), .int .i64 n] u fun e w' => Out e u w' w.heap.size s n (bodySt b s.size (num b 0 4) (width - num b 4 4) n 8)) := fun u hu hTu hu2 => by
          rw [← hcast]
          exact readBody_any w.heap.size s b 8 (width - num b 4 4) n (num b 0 4) u hs h8 (by omega) (by omega) hn (by omega) hu HB.out hTu hu2 (by omega)
        clear hcast
        cases hbody : bodySt b s.size (num b 0 4) (width - num b 4 4) n 8 with
        | none =>
          rw [hbody] at HBODY HO
          go_enter Tryz.func225, Tryz.ntmps225
          go_wp2_with (first
            | (go_at_call 268; refine (newReader_any _ _).mono ?_; rintro e w1 ⟨rfl, hR1, hb1⟩; have HR1 := Hid.mk' hR1; have HB1 := Hid.mk' hb1; clear hR1 hb1)
            | (go_at_call 269; refine (number_yes w.heap.size s b 0 4 _ hs (by omega) HR1.out (by omega) HB.out).mono ?_; rintro e w2 ⟨rfl, hR2, hC2⟩; have HR2 := Hid.mk' hR2; have HC2 := Hid.mk' hC2; clear hR2 hC2)
            | (go_at_call 269; refine (number_yes w.heap.size s b 4 4 _ hs (by omega) HR2.out (by omega) HB.out).mono ?_; rintro e w3 ⟨rfl, hR3, hC3⟩; have HR3 := Hid.mk' hR3; have HC3 := Hid.mk' hC3; clear hR3 hC3; have HB3 := Hid.mk' (HB1.out.trans ((HC2.out.trans HC3.out).toBelow (Nat.le_refl _) (Nat.le_of_lt HR1.out.lt))))
            | (go_at_call 270; refine (HBODY.out _ HR3.out (fun r c hr hc => (HB3.out.cell (p := ⟨5, 4 * r + c, none⟩) hT2).trans (HT.out r c hr hc)) (Nat.lt_of_lt_of_le hT2 HB3.out.size)).mono ?_; rintro e w4 ⟨v4, rfl, hC4⟩; have HC4 := Hid.mk' hC4; clear hC4))
          go_ret3
          rw [HO.out]
          exact ⟨rfl, HB3.out.trans (HC4.out.toBelow (Nat.le_refl _) (Nat.le_of_lt (Nat.lt_of_lt_of_le HR1.out.lt (HC2.out.trans HC3.out).size)))⟩
        | some xp =>
          rw [hbody] at HBODY HO
          have HF := Hid.mk' (body_fits (by omega) hbody)
          clear hbody
          go_enter Tryz.func225, Tryz.ntmps225
          go_wp2_with (first
            | (go_at_call 268; refine (newReader_any _ _).mono ?_; rintro e w1 ⟨rfl, hR1, hb1⟩; have HR1 := Hid.mk' hR1; have HB1 := Hid.mk' hb1; clear hR1 hb1)
            | (go_at_call 269; refine (number_yes w.heap.size s b 0 4 _ hs (by omega) HR1.out (by omega) HB.out).mono ?_; rintro e w2 ⟨rfl, hR2, hC2⟩; have HR2 := Hid.mk' hR2; have HC2 := Hid.mk' hC2; clear hR2 hC2)
            | (go_at_call 269; refine (number_yes w.heap.size s b 4 4 _ hs (by omega) HR2.out (by omega) HB.out).mono ?_; rintro e w3 ⟨rfl, hR3, hC3⟩; have HR3 := Hid.mk' hR3; have HC3 := Hid.mk' hC3; clear hR3 hC3; have HB3 := Hid.mk' (HB1.out.trans ((HC2.out.trans HC3.out).toBelow (Nat.le_refl _) (Nat.le_of_lt HR1.out.lt))))
            | (go_at_call 270; refine (HBODY.out _ HR3.out (fun r c hr hc => (HB3.out.cell (p := ⟨5, 4 * r + c, none⟩) hT2).trans (HT.out r c hr hc)) (Nat.lt_of_lt_of_le hT2 HB3.out.size)).mono ?_; rintro e w4 ⟨g, rfl, hg4, hrow4, hR4, hC4⟩; have HROW4 := Hid.mk' hrow4; have HR4 := Hid.mk' hR4; have HC4 := Hid.mk' hC4; clear hrow4 hR4 hC4))
          have HBE : Hid (Below w.heap.size w w4) := HB3.out.trans (HC4.out.toBelow (Nat.le_refl _) (Nat.le_of_lt (Nat.lt_of_lt_of_le HR1.out.lt (HC2.out.trans HC3.out).size)))
          have hgw : w.heap.size < g := by have := HR3.out.lt; omega
          have hp2 := ipow_pos (num b 4 4)
          clear HB3 HC4 HR3 HR2 HR1 HC2 HC3 HB1 HBODY
          go_loopw [14, 50] (fun _ i wr => ∃ k : Nat, k ≤ n ∧ i = .int .i64 k ∧ Hid (wr.rowIs g 3 n (shV n xp.1 (num b 4 4) k) ∧ Rd wr w.heap.size s xp.2 ∧ Below w.heap.size w wr)) (fun _ i _ => n - (intOf i).toNat)
          case atStart => exact ⟨0, Nat.zero_le _, rfl, HROW4.out.congr fun i _ => by simp [shV], HR4.out, HBE.out⟩
          case round =>
            clear HROW4 HR4 HBE
            obtain ⟨k, hk, rfl, HX⟩ := hrel
            by_cases hkn : k < n
            · have hc1 := HX.out.1.cell hkn
              have hf1 := HX.out.1.frozen k
              unfold shV cutV cutI at hc1
              rw [if_neg (Nat.lt_irrefl k), if_pos hkn] at hc1
              have hmb := mul_sh (width := width) (q := num b 4 4) (HF.out k hkn) (by omega) (by omega)
              go_wp2
              go_roundw
              case rel =>
                refine ⟨k + 1, by omega, by go_num, shV_step hkn HX.out.1, ?_, HX.out.2.2.setCell (Nat.le_of_lt hgw) _⟩
                exact ((Chg.refl g wr).set k _).rd HX.out.2.1 (by omega)
              case measure => simp [intOf]; omega
            · have e : k = n := by omega
              subst e
              go_wp2_with (go_at_call 271; refine (taken_any _ s _ _ HX.out.2.1).mono ?_; rintro e w' ⟨rfl, rfl⟩)
              go_ret3
              rw [HO.out]
              exact ⟨g, rfl, Nat.le_of_lt hgw, HX.out.1.congr fun i hi => by simp [shV, hi], HX.out.2.2⟩
      · have HO : Hid (readSt b s.size width n = none) := by show _ = _; unfold readSt; rw [if_neg (fun h => hq h.2)]
        go_enter Tryz.func225, Tryz.ntmps225
        go_wp2_with (first
          | (go_at_call 268; refine (newReader_any _ _).mono ?_; rintro e w1 ⟨rfl, hR1, hb1⟩; have HR1 := Hid.mk' hR1; have HB1 := Hid.mk' hb1; clear hR1 hb1)
          | (go_at_call 269; refine (number_yes w.heap.size s b 0 4 _ hs (by omega) HR1.out (by omega) HB.out).mono ?_; rintro e w2 ⟨rfl, hR2, hC2⟩; have HR2 := Hid.mk' hR2; have HC2 := Hid.mk' hC2; clear hR2 hC2)
          | (go_at_call 269; refine (number_yes w.heap.size s b 4 4 _ hs (by omega) HR2.out (by omega) HB.out).mono ?_; rintro e w3 ⟨rfl, hR3, hC3⟩; have HR3 := Hid.mk' hR3; have HC3 := Hid.mk' hC3; clear hR3 hC3; have HB3 := Hid.mk' (HB1.out.trans ((HC2.out.trans HC3.out).toBelow (Nat.le_refl _) (Nat.le_of_lt HR1.out.lt)))))
        go_ret3
        rw [HO.out]
        exact ⟨rfl, HB3.out⟩
    · have HO : Hid (readSt b s.size width n = none) := by show _ = _; unfold readSt; rw [if_neg (fun h => h8 h.1)]
      go_enter Tryz.func225, Tryz.ntmps225
      go_wp2_with (first
        | (go_at_call 268; refine (newReader_any _ _).mono ?_; rintro e w1 ⟨rfl, hR1, hb1⟩; have HR1 := Hid.mk' hR1; have HB1 := Hid.mk' hb1; clear hR1 hb1)
        | (go_at_call 269; refine (number_yes w.heap.size s b 0 4 _ hs (by omega) HR1.out (by omega) HB.out).mono ?_; rintro e w2 ⟨rfl, hR2, hC2⟩; have HR2 := Hid.mk' hR2; have HC2 := Hid.mk' hC2; clear hR2 hC2)
        | (go_at_call 269; refine (number_no w.heap.size s 4 4 _ hs (by omega) (by omega) HR2.out (by omega)).mono ?_; rintro e w3 ⟨rfl, j, rfl⟩))
      go_ret3
      rw [HO.out]
      exact ⟨rfl, HB1.out.trans ((HC2.out.drewN j).toBelow (Nat.le_refl _) (Nat.le_of_lt HR1.out.lt))⟩
  · have HO : Hid (readSt b s.size width n = none) := by show _ = _; unfold readSt; rw [if_neg (fun h => h4 (by omega))]
    go_enter Tryz.func225, Tryz.ntmps225
    go_wp2_with (first
      | (go_at_call 268; refine (newReader_any _ _).mono ?_; rintro e w1 ⟨rfl, hR1, hb1⟩; have HR1 := Hid.mk' hR1; have HB1 := Hid.mk' hb1; clear hR1 hb1)
      | (go_at_call 269; refine (number_no w.heap.size s 0 4 _ hs (by omega) (by omega) HR1.out (by omega)).mono ?_; rintro e w2 ⟨rfl, j, rfl⟩))
    go_ret3
    rw [HO.out]
    exact ⟨rfl, HB1.out.trans (((Chg.refl w.heap.size _).drewN j).toBelow (Nat.le_refl _) (Nat.le_of_lt HR1.out.lt))⟩
end Go.Proofs.YtlncjgnomhpjnabGreatDoor

/-
  What is read of a text from a place on is what is read of its rest.
-/
namespace Go.Proofs.YtlncjgnomhpjnabGreatDoor
set_option linter.unusedVariables false
/-- the text from place o on -/
def shB (b : Nat → Bool) (o i : Nat) : Bool := b (o + i)
def shS (o : Nat) (s : St) : St := ⟨o + s.p, s.k, s.x⟩
theorem num_sh (b : Nat → Bool) (o p k : Nat) : num (shB b o) p k = num b (o + p) k := by
  unfold num shB
  simp only [Nat.add_assoc]
theorem sgn_sh (b : Nat → Bool) (o p k : Nat) : sgn (shB b o) p k = sgn b (o + p) k := by
  unfold sgn
  rw [num_sh]
theorem zrun_sh (b : Nat → Bool) (o : Nat) : ∀ m p, zrun (shB b o) m p = zrun b m (o + p)
  | 0, _ => rfl
  | m + 1, p => by
    have e : shB b o p = b (o + p) := rfl
    unfold zrun
    rw [e, zrun_sh b o m (p + 1), Nat.add_assoc]
theorem rice_sh {b : Nat → Bool} {o N : Nat} (ho : o ≤ N) (k p : Nat) : rice b N k (o + p) = (rice (shB b o) (N - o) k p).map fun r => (r.1, o + r.2) := by
  unfold rice
  rw [zrun_sh, num_sh, show N - o - p = N - (o + p) by omega]
  by_cases h : o + p + zrun b (N - (o + p)) (o + p) + 1 + k ≤ N
  · rw [if_pos h, if_pos (by omega)]
    simp only [Option.map_some]
    congr 2
    · congr 3; omega
    · omega
  · rw [if_neg h, if_neg (by omega)]; rfl
/-- the same job over the rest -/
def Job.sh (J : Job) (o : Nat) : Job := ⟨shB J.b o, J.N - o, J.w, J.kind, J.a, J.c, J.size⟩
theorem Job.rdK_sh {J : Job} {o : Nat} (ho : o ≤ J.N) (s : St) : J.rdK (shS o s) = ((J.sh o).rdK s).map (shS o) := by
  unfold Job.rdK Job.sh shS
  simp only [num_sh]
  by_cases h : o + s.p + 4 ≤ J.N ∧ num J.b (o + s.p) 4 ≤ 14
  · rw [if_pos h, if_pos ⟨by omega, h.2⟩]
    simp only [Option.map_some]
    rw [Nat.add_assoc]
  · rw [if_neg h, if_neg (fun hh => h ⟨by omega, hh.2⟩)]; rfl
theorem Job.plc_sh {J : Job} {o : Nat} (ho : o ≤ J.N) (i : Nat) (s : St) : J.plc i (shS o s) = ((J.sh o).plc i s).map (shS o) := by
  unfold Job.plc
  have e1 : (J.sh o).kind = J.kind := rfl
  by_cases hi : i < ord J.kind
  · rw [if_pos hi, if_pos (by rw [e1]; exact hi)]; rfl
  · rw [if_neg hi, if_neg (by rw [e1]; exact hi)]
    have e2 : rice J.b J.N (shS o s).k (shS o s).p = (rice (J.sh o).b (J.sh o).N s.k s.p).map fun r => (r.1, o + r.2) := rice_sh ho s.k s.p
    rw [e2]
    cases hr : rice (J.sh o).b (J.sh o).N s.k s.p with
    | none => rfl
    | some r =>
      obtain ⟨v, p'⟩ := r
      simp only [Option.map_some]
      show (if fitsB J.w (guessG J.kind J.a J.c s.x i + v) = true then _ else _) = Option.map _ (if fitsB J.w (guessG J.kind J.a J.c s.x i + v) = true then _ else _)
      by_cases hf : fitsB J.w (guessG J.kind J.a J.c s.x i + v) = true
      · rw [if_pos hf, if_pos hf]; rfl
      · rw [if_neg hf, if_neg hf]; rfl
theorem Job.R_sh {J : Job} {o : Nat} (ho : o ≤ J.N) (s0 : St) : ∀ i, J.R (shS o s0) i = ((J.sh o).R s0 i).map (shS o)
  | 0 => rfl
  | i + 1 => by
    unfold Job.R
    rw [Job.R_sh ho s0 i]
    cases h : (J.sh o).R s0 i with
    | none => rfl
    | some s =>
      simp only [Option.map_some, Option.bind_some]
      have e : (J.sh o).size = J.size := rfl
      rw [e]
      by_cases hm : i % J.size = 0
      · rw [if_pos hm, if_pos hm, Job.rdK_sh ho]
        cases h2 : (J.sh o).rdK s with
        | none => rfl
        | some s2 => simp only [Option.map_some, Option.bind_some]; exact Job.plc_sh ho i s2
      · rw [if_neg hm, if_neg hm]
        simp only [Option.bind_some]
        exact Job.plc_sh ho i s
theorem restsSt_sh {b : Nat → Bool} {o N : Nat} (ho : o ≤ N) (d kind : Nat) (a c : Int) (n p : Nat) (x0 : Nat → Int) : restsSt b N d kind a c n (o + p) x0 = (restsSt (shB b o) (N - o) d kind a c n p x0).map (shS o) := by
  unfold restsSt
  rw [num_sh]
  by_cases h : o + p + 2 ≤ N ∧ cutB n (ord kind) (num b (o + p) 2) = true
  · rw [if_pos h, if_pos ⟨by omega, h.2⟩]
    have e1 : (theJob b N d kind a c n (o + p)).sh o = theJob (shB b o) (N - o) d kind a c n p := by
      unfold theJob Job.sh
      simp only [num_sh]
    have e2 : (⟨o + p + 2, 0, x0⟩ : St) = shS o ⟨p + 2, 0, x0⟩ := by unfold shS; simp only [Nat.add_assoc]
    rw [e2, Job.R_sh (J := theJob b N d kind a c n (o + p)) ho, e1]
  · rw [if_neg h, if_neg (fun hh => h ⟨by omega, hh.2⟩)]; rfl
theorem posn_sh (o p d i : Nat) : posn (o + p) d i = o + posn p d i := by unfold posn; omega
theorem bodySt_sh {b : Nat → Bool} {o N : Nat} (ho : o ≤ N) (kind d n p : Nat) : bodySt b N kind d n (o + p) = (bodySt (shB b o) (N - o) kind d n p).map fun r => (r.1, o + r.2) := by
  unfold bodySt
  simp only [sgn_sh, posn_sh]
  by_cases h0 : kind = 0
  · rw [if_pos h0, if_pos h0]
    by_cases h : o + p + d ≤ N
    · rw [if_pos h, if_pos (by omega)]; simp only [Option.map_some, Nat.add_assoc]
    · rw [if_neg h, if_neg (by omega)]; rfl
  · rw [if_neg h0, if_neg h0]
    by_cases h1 : kind = 1
    · rw [if_pos h1, if_pos h1]
      by_cases h : o + posn p d n ≤ N
      · rw [if_pos h, if_pos (by omega)]; rfl
      · rw [if_neg h, if_neg (by omega)]; rfl
    · rw [if_neg h1, if_neg h1]
      by_cases h2 : 7 < kind ∨ n ≤ ord kind
      · rw [if_pos h2, if_pos h2]; rfl
      · rw [if_neg h2, if_neg h2]
        by_cases h : o + posn p d (ord kind) ≤ N
        · rw [if_pos h, if_pos (show posn p d (ord kind) ≤ N - o by omega)]
          by_cases h7 : kind = 7
          · rw [if_pos h7, if_pos h7]
            by_cases hh : o + posn p d (ord kind) + 12 ≤ N
            · rw [if_pos hh, if_pos (show posn p d (ord kind) + 12 ≤ N - o by omega), Nat.add_assoc o, Nat.add_assoc o, restsSt_sh ho]
              cases restsSt (shB b o) (N - o) d kind (sgn b (o + posn p d (ord kind)) 6) (sgn b (o + (posn p d (ord kind) + 6)) 6) n (posn p d (ord kind) + 12) (fun i => sgn b (o + posn p d i) d) <;> rfl
            · rw [if_neg hh, if_neg (show ¬ posn p d (ord kind) + 12 ≤ N - o by omega)]; rfl
          · rw [if_neg h7, if_neg h7, restsSt_sh ho]
            cases restsSt (shB b o) (N - o) d kind 0 0 n (posn p d (ord kind)) (fun i => sgn b (o + posn p d i) d) <;> rfl
        · rw [if_neg h, if_neg (show ¬ posn p d (ord kind) ≤ N - o by omega)]; rfl
/-- reading at a place of a longer text -/
def readAt (b : Nat → Bool) (N o width n : Nat) : Option ((Nat → Int) × Nat) :=
  if o + 8 ≤ N ∧ num b (o + 4) 4 < width then (bodySt b N (num b o 4) (width - num b (o + 4) 4) n (o + 8)).map fun xp => (fun i => xp.1 i * 2 ^ num b (o + 4) 4, xp.2) else none
theorem readAt_sh {b : Nat → Bool} {o N : Nat} (ho : o ≤ N) (width n : Nat) : readAt b N o width n = (readSt (shB b o) (N - o) width n).map fun r => (r.1, o + r.2) := by
  unfold readAt readSt
  rw [num_sh, num_sh, Nat.add_zero, bodySt_sh ho]
  by_cases h : o + 8 ≤ N ∧ num b (o + 4) 4 < width
  · rw [if_pos h, if_pos ⟨by omega, h.2⟩]
    cases bodySt (shB b o) (N - o) (num b o 4) (width - num b (o + 4) 4) n 8 <;> rfl
  · rw [if_neg h, if_neg (fun hh => h ⟨by omega, hh.2⟩)]; rfl
end Go.Proofs.YtlncjgnomhpjnabGreatDoor

/-
  Plain mathematics for 'Codes': the shortest subframe, as a text. No dump is imported.
-/
namespace Go.Proofs.YtlncjgnomhpjnabGreatDoor
/-- v in k bits -/
def binT (v : Int) (k : Nat) : List UInt8 := (List.range k).map fun i => ltr (decide (v / 2 ^ (k - 1 - i) % 2 = 1))
theorem binT_length (v : Int) (k : Nat) : (binT v k).length = k := by simp [binT]
/-- the fold of a whole number -/
def foldN (v : Int) : Nat := if 0 ≤ v then (2 * v).toNat else (-2 * v - 1).toNat
theorem foldN_int (v : Int) : (foldN v : Int) = if 0 ≤ v then 2 * v else -2 * v - 1 := by
  unfold foldN; split <;> omega
theorem foldN_le (v : Int) (m : Nat) (h : -(m : Int) ≤ v ∧ v ≤ m) : foldN v ≤ 2 * m := by
  have := foldN_int v
  split at this <;> omega
def riceT (f k : Nat) : List UInt8 := List.replicate (f / 2 ^ k) 48 ++ [49] ++ binT f k
def riceL (f k : Nat) : Nat := f / 2 ^ k + 1 + k
theorem riceT_length (f k : Nat) : (riceT f k).length = riceL f k := by simp [riceT, riceL, binT_length]; omega
/-- the Rice codes by k of m folds from place lo on -/
def codedT (f : Nat → Nat) (k lo : Nat) : Nat → List UInt8
  | 0 => []
  | m + 1 => codedT f k lo m ++ riceT (f (lo + m)) k
def plen (f : Nat → Nat) (k lo : Nat) : Nat → Nat
  | 0 => 0
  | m + 1 => plen f k lo m + riceL (f (lo + m)) k
theorem codedT_length (f : Nat → Nat) (k lo : Nat) : ∀ m, (codedT f k lo m).length = plen f k lo m
  | 0 => rfl
  | m + 1 => by simp [codedT, plen, codedT_length f k lo m, riceT_length]
theorem riceL_le (f k M : Nat) (h : f ≤ M) (hk : k ≤ 14) : riceL f k ≤ M + 15 := by
  have : f / 2 ^ k ≤ f := Nat.div_le_self _ _
  unfold riceL; omega
theorem plen_le (f : Nat → Nat) (k lo M : Nat) (hk : k ≤ 14) : ∀ m, (∀ i, i < m → f (lo + i) ≤ M) → plen f k lo m ≤ m * (M + 15)
  | 0, _ => by simp [plen]
  | m + 1, h => by
    have h1 := plen_le f k lo M hk m (fun i hi => h i (by omega))
    have h2 := riceL_le (f (lo + m)) k M (h m (by omega)) hk
    simp only [plen]
    rw [Nat.succ_mul]; omega
/-- the least argument up to K at which g is least -/
def argmin (g : Nat → Nat) : Nat → Nat
  | 0 => 0
  | k + 1 => if g (k + 1) < g (argmin g k) then k + 1 else argmin g k
theorem argmin_le (g : Nat → Nat) : ∀ k, argmin g k ≤ k
  | 0 => Nat.le_refl _
  | k + 1 => by
    have := argmin_le g k
    unfold argmin; split <;> omega
/-- the parameter of m places from lo on -/
def parK (f : Nat → Nat) (lo m : Nat) : Nat := argmin (fun k => plen f k lo m) 14
theorem parK_le (f : Nat → Nat) (lo m : Nat) : parK f lo m ≤ 14 := argmin_le _ _
def ploN (o sz i : Nat) : Nat := max (i * sz) o
def pcnt (o sz i : Nat) : Nat := (i + 1) * sz - ploN o sz i
def parN (f : Nat → Nat) (o sz i : Nat) : Nat := parK f (ploN o sz i) (pcnt o sz i)
/-- the first i parts of a cut into parts of sz places -/
def partsT (f : Nat → Nat) (o sz : Nat) : Nat → List UInt8
  | 0 => []
  | i + 1 => partsT f o sz i ++ (binT (parN f o sz i) 4 ++ codedT f (parN f o sz i) (ploN o sz i) (pcnt o sz i))
def partsL (f : Nat → Nat) (o sz : Nat) : Nat → Nat
  | 0 => 0
  | i + 1 => partsL f o sz i + (4 + plen f (parN f o sz i) (ploN o sz i) (pcnt o sz i))
theorem partsT_length (f : Nat → Nat) (o sz : Nat) : ∀ i, (partsT f o sz i).length = partsL f o sz i
  | 0 => rfl
  | i + 1 => by simp [partsT, partsL, partsT_length f o sz i, codedT_length, binT_length]
theorem partsL_mono (f : Nat → Nat) (o sz : Nat) {i : Nat} : ∀ {j : Nat}, i ≤ j → partsL f o sz i ≤ partsL f o sz j
  | 0, h => by have : i = 0 := by omega
               subst this; exact Nat.le_refl _
  | j + 1, h => by
    by_cases e : i = j + 1
    · subst e; exact Nat.le_refl _
    · have := partsL_mono f o sz (i := i) (j := j) (by omega)
      simp only [partsL]; omega
/-- may n places be cut so? -/
def okC (n o c : Nat) : Bool := decide (n / 2 ^ c * 2 ^ c = n) && decide (o < n / 2 ^ c)
theorem okC_zero {n o : Nat} (h : o < n) : okC n o 0 = true := by simp [okC, h]
theorem okC_succ {n o c : Nat} (h : okC n o (c + 1) = true) : okC n o c = true := by
  simp only [okC, Bool.and_eq_true, decide_eq_true_eq] at h ⊢
  obtain ⟨h1, h2⟩ := h
  have e : n / 2 ^ (c + 1) = n / 2 ^ c / 2 := by rw [Nat.pow_succ, Nat.div_div_eq_div_mul]
  have e2 : 2 ^ (c + 1) = 2 * 2 ^ c := by rw [Nat.pow_succ, Nat.mul_comm]
  refine ⟨?_, ?_⟩
  · have hd : 2 ^ c ∣ n := by
      refine ⟨n / 2 ^ (c + 1) * 2, ?_⟩
      rw [← Nat.mul_assoc, Nat.mul_comm (2 ^ c), Nat.mul_assoc, Nat.mul_comm (2 ^ c) 2, ← e2]; exact h1.symm
    exact Nat.div_mul_cancel hd
  · rw [e] at h2
    have := Nat.div_le_self (n / 2 ^ c) 2
    omega
theorem okC_later {n o c : Nat} (h : okC n o c = false) : ∀ {d : Nat}, c ≤ d → okC n o d = false
  | 0, hd => by have : c = 0 := by omega
                subst this; exact h
  | d + 1, hd => by
    by_cases e : c = d + 1
    · subst e; exact h
    · have := okC_later h (d := d) (by omega)
      cases hx : okC n o (d + 1) with
      | false => rfl
      | true => rw [okC_succ hx] at this; cases this
/-- the bits of a cut -/
def cutL (f : Nat → Nat) (o n c : Nat) : Nat := 2 + partsL f o (n / 2 ^ c) (2 ^ c)
def cutT (f : Nat → Nat) (o n c : Nat) : List UInt8 := binT c 2 ++ partsT f o (n / 2 ^ c) (2 ^ c)
theorem cutT_length (f : Nat → Nat) (o n c : Nat) : (cutT f o n c).length = cutL f o n c := by simp [cutT, cutL, binT_length, partsT_length]
/-- the best cut up to c; cut 0 may be -/
def bestC (f : Nat → Nat) (o n : Nat) : Nat → Nat
  | 0 => 0
  | c + 1 => if okC n o (c + 1) = true ∧ cutL f o n (c + 1) < cutL f o n (bestC f o n c) then c + 1 else bestC f o n c
theorem bestC_le (f : Nat → Nat) (o n : Nat) : ∀ c, bestC f o n c ≤ c
  | 0 => Nat.le_refl _
  | c + 1 => by
    have := bestC_le f o n c
    unfold bestC; split <;> omega
theorem bestC_stop (f : Nat → Nat) (o n : Nat) {c : Nat} (h : okC n o (c + 1) = false) : ∀ {d : Nat}, c ≤ d → bestC f o n d = bestC f o n c
  | 0, hd => by have : c = 0 := by omega
                subst this; rfl
  | d + 1, hd => by
    by_cases e : c = d + 1
    · subst e; rfl
    · have h2 := okC_later h (d := d + 1) (by omega)
      rw [bestC, if_neg (by rw [h2]; simp)]
      exact bestC_stop f o n h (by omega)
theorem bestC_ok (f : Nat → Nat) (o n : Nat) (h : o < n) : ∀ c, okC n o (bestC f o n c) = true
  | 0 => okC_zero h
  | c + 1 => by
    unfold bestC; split
    · rename_i hh; exact hh.1
    · exact bestC_ok f o n h c
/-- the sum of each number times the one k before it, up to place m -/
def lag (x : Nat → Int) (k : Nat) : Nat → Int
  | 0 => 0
  | m + 1 => lag x k m + (if k ≤ m then x m * x (m - k) else 0)
theorem mulBd {u v : Int} {a b : Nat} (hu : -(a : Int) ≤ u ∧ u ≤ a) (hv : -(b : Int) ≤ v ∧ v ≤ b) : -((a * b : Nat) : Int) ≤ u * v ∧ u * v ≤ ((a * b : Nat) : Int) := by
  have h := Int.natAbs_mul u v
  have h1 : u.natAbs ≤ a := by omega
  have h2 : v.natAbs ≤ b := by omega
  have h3 : u.natAbs * v.natAbs ≤ a * b := Nat.mul_le_mul h1 h2
  omega
theorem lag_bd (x : Nat → Int) (k : Nat) : ∀ m : Nat, (∀ i, i < m → -4096 ≤ x i ∧ x i ≤ 4096) → -16777216 * (m : Int) ≤ lag x k m ∧ lag x k m ≤ 16777216 * (m : Int)
  | 0, _ => by simp [lag]
  | m + 1, h => by
    have h1 := lag_bd x k m (fun i hi => h i (by omega))
    simp only [lag]
    split
    · have h2 := mulBd (a := 4096) (b := 4096) (h m (by omega)) (h (m - k) (by omega))
      have e : ((4096 * 4096 : Nat) : Int) = 16777216 := rfl
      rw [e] at h2
      omega
    · omega
def leanD (x : Nat → Int) (n : Nat) : Int := lag x 0 n * lag x 0 n - lag x 1 n * lag x 1 n
def clamp (v : Int) : Int := if v < -32 then -32 else if 31 < v then 31 else v
theorem clamp_bd (v : Int) : -32 ≤ clamp v ∧ clamp v ≤ 31 := by unfold clamp; split <;> (try split) <;> omega
def leanA (x : Nat → Int) (n : Nat) : Int := clamp (8 * lag x 1 n * (lag x 0 n - lag x 2 n) / leanD x n)
def leanB (x : Nat → Int) (n : Nat) : Int := clamp (8 * (lag x 0 n * lag x 2 n - lag x 1 n * lag x 1 n) / leanD x n)
/-- the numbers of a list, each in w bits -/
def numsT (x : Nat → Int) (w : Nat) : Nat → List UInt8
  | 0 => []
  | m + 1 => numsT x w m ++ binT (x m) w
theorem numsT_length (x : Nat → Int) (w : Nat) : ∀ m, (numsT x w m).length = m * w
  | 0 => by simp [numsT]
  | m + 1 => by simp [numsT, numsT_length x w m, binT_length, Nat.succ_mul]
/-- the weights of a kind; those of kind 7 alone hang on the samples -/
def wA (kind : Nat) (x : Nat → Int) (n : Nat) : Int := if kind = 7 then leanA x n else 0
def wB (kind : Nat) (x : Nat → Int) (n : Nat) : Int := if kind = 7 then leanB x n else 0
theorem wA_bd (kind : Nat) (x : Nat → Int) (n : Nat) : -32 ≤ wA kind x n ∧ wA kind x n ≤ 31 := by
  unfold wA; split
  · exact clamp_bd _
  · omega
theorem wB_bd (kind : Nat) (x : Nat → Int) (n : Nat) : -32 ≤ wB kind x n ∧ wB kind x n ≤ 31 := by
  unfold wB; split
  · exact clamp_bd _
  · omega
/-- the fold at a place -/
def fR (kind : Nat) (x : Nat → Int) (n i : Nat) : Nat := foldN (x i - guessG kind (wA kind x n) (wB kind x n) x i)
def bC (kind : Nat) (x : Nat → Int) (n : Nat) : Nat := bestC (fR kind x n) (ord kind) n 3
/-- the body of a kind of 2 to 7 -/
def gT (kind w : Nat) (x : Nat → Int) (n : Nat) : List UInt8 :=
  numsT x w (ord kind) ++ ((if kind = 7 then binT (leanA x n) 6 ++ binT (leanB x n) 6 else []) ++ cutT (fR kind x n) (ord kind) n (bC kind x n))
def gL (kind w : Nat) (x : Nat → Int) (n : Nat) : Nat := ord kind * w + (if kind = 7 then 12 else 0) + cutL (fR kind x n) (ord kind) n (bC kind x n)
theorem gT_length (kind w : Nat) (x : Nat → Int) (n : Nat) : (gT kind w x n).length = gL kind w x n := by
  unfold gT gL
  simp only [List.length_append, numsT_length, cutT_length]
  split <;> simp [binT_length] <;> omega
def allSame (x : Nat → Int) (n : Nat) : Bool := (List.range n).all fun i => decide (x i = x 0)
theorem allSame_iff (x : Nat → Int) (n : Nat) : allSame x n = true ↔ ∀ i, i < n → x i = x 0 := by simp [allSame]
/-- can a kind tell it? -/
def okG (kind : Nat) (x : Nat → Int) (n : Nat) : Bool := decide (ord kind < n) && (decide (kind ≠ 7) || decide (0 < leanD x n))
def bodyT (kind w : Nat) (x : Nat → Int) (n : Nat) : List UInt8 := if kind = 0 then binT (x 0) w else if kind = 1 then numsT x w n else gT kind w x n
def bodyL (kind w : Nat) (x : Nat → Int) (n : Nat) : Nat := if kind = 0 then w else if kind = 1 then n * w else gL kind w x n
theorem bodyT_length (kind w : Nat) (x : Nat → Int) (n : Nat) : (bodyT kind w x n).length = bodyL kind w x n := by
  unfold bodyT bodyL
  split
  · exact binT_length _ _
  · split
    · exact numsT_length _ _ _
    · exact gT_length _ _ _ _
/-- the best kind of the first two, and of the first j + 2 -/
def bestK (w : Nat) (x : Nat → Int) (n : Nat) : Nat → Nat
  | 0 => if allSame x n then 0 else 1
  | j + 1 => if okG (j + 2) x n = true ∧ bodyL (j + 2) w x n < bodyL (bestK w x n j) w x n then j + 2 else bestK w x n j
theorem bestK_le (w : Nat) (x : Nat → Int) (n : Nat) : ∀ j, bestK w x n j ≤ j + 1
  | 0 => by unfold bestK; split <;> omega
  | j + 1 => by
    have := bestK_le w x n j
    unfold bestK; split <;> omega
theorem bestK_ok (w : Nat) (x : Nat → Int) (n : Nat) : ∀ j, 2 ≤ bestK w x n j → okG (bestK w x n j) x n = true
  | 0, h => by unfold bestK at h; split at h <;> omega
  | j + 1, h => by
    unfold bestK at h ⊢
    split
    · rename_i hh; exact hh.1
    · rename_i hh; rw [if_neg hh] at h; exact bestK_ok w x n j h
/-- by how many bits all can be shortened: up to k -/
def allDiv (l : Nat → Int) (n k : Nat) : Bool := (List.range n).all fun i => decide (l i % 2 ^ k = 0)
def anyNz (l : Nat → Int) (n : Nat) : Bool := (List.range n).any fun i => decide (l i ≠ 0)
def shiftT (l : Nat → Int) (n : Nat) : Nat → Nat
  | 0 => 0
  | k + 1 => if (allDiv l n (k + 1) && anyNz l n) = true then k + 1 else shiftT l n k
theorem shiftT_le (l : Nat → Int) (n : Nat) : ∀ k, shiftT l n k ≤ k
  | 0 => Nat.le_refl _
  | k + 1 => by
    have := shiftT_le l n k
    unfold shiftT; split <;> omega
theorem allDiv_iff (l : Nat → Int) (n k : Nat) : allDiv l n k = true ↔ ∀ i, i < n → l i % 2 ^ k = 0 := by simp [allDiv]
theorem shiftT_div (l : Nat → Int) (n : Nat) : ∀ k i, i < n → l i % 2 ^ (shiftT l n k) = 0
  | 0, i, hi => by simp [shiftT, Int.emod_one]
  | k + 1, i, hi => by
    unfold shiftT; split
    · rename_i h
      rw [Bool.and_eq_true] at h
      exact (allDiv_iff l n (k + 1)).1 h.1 i hi
    · exact shiftT_div l n k i hi
def shiftN (l : Nat → Int) (n width : Nat) : Nat := shiftT l n (width - 1)
def shortX (l : Nat → Int) (n width : Nat) (i : Nat) : Int := l i / 2 ^ (shiftN l n width)
/-- the whole subframe -/
def subKind (width : Nat) (l : Nat → Int) (n : Nat) : Nat := bestK (width - shiftN l n width) (shortX l n width) n 6
def subT (width : Nat) (l : Nat → Int) (n : Nat) : List UInt8 :=
  binT (subKind width l n) 4 ++ (binT (shiftN l n width) 4 ++ bodyT (subKind width l n) (width - shiftN l n width) (shortX l n width) n)
end Go.Proofs.YtlncjgnomhpjnabGreatDoor

/-
  Plain mathematics for 'Tight': what is read of a text hangs on the bits that were read alone.
-/
namespace Go.Proofs.YtlncjgnomhpjnabGreatDoor
set_option linter.unusedVariables false
/-- two texts say the same up to place N -/
def Agree (b b' : Nat → Bool) (N : Nat) : Prop := ∀ i, i < N → b i = b' i
theorem bitsNum_ext {f g : Nat → Bool} : ∀ n, (∀ i, i < n → f i = g i) → bitsNum f n = bitsNum g n
  | 0, _ => rfl
  | n + 1, h => by simp only [bitsNum]; rw [bitsNum_ext n (fun i hi => h i (by omega)), h n (by omega)]
theorem num_ext {b b' : Nat → Bool} {N p k : Nat} (h : Agree b b' N) (hp : p + k ≤ N) : num b p k = num b' p k :=
  bitsNum_ext k (fun i hi => h (p + i) (by omega))
theorem sgn_ext {b b' : Nat → Bool} {N p k : Nat} (h : Agree b b' N) (hp : p + k ≤ N) : sgn b p k = sgn b' p k := by
  unfold sgn; rw [num_ext h hp]
theorem rice_ext {b b' : Nat → Bool} {N M k p : Nat} {r : Int × Nat} (h : Agree b b' N) (hNM : N ≤ M) (hr : rice b N k p = some r) : rice b' M k p = some r ∧ r.2 ≤ N ∧ p ≤ r.2 := by
  unfold rice at hr
  split at hr
  · rename_i hle
    simp only [Option.some.injEq] at hr
    have hz : zrun b' (M - p) p = zrun b (N - p) p := by
      have h1 := zrun_le b (N - p) p
      have hlt : zrun b (N - p) p < N - p := by omega
      refine zrun_eq b' (M - p) p _ (by omega) (fun i hi => ?_) (fun _ => ?_)
      · rw [← h (p + i) (by omega)]; exact zrun_zero b (N - p) p i hi
      · rw [← h (p + zrun b (N - p) p) (by omega)]; exact zrun_one b (N - p) p hlt
    unfold rice
    rw [hz, if_pos (by omega), ← num_ext h (p := p + zrun b (N - p) p + 1) (k := k) (by omega)]
    subst hr
    exact ⟨rfl, hle, by simp only; omega⟩
  · cases hr
/-- two jobs that differ in the text behind place N alone -/
structure JobExt (J K : Job) : Prop where
  ag : Agree J.b K.b J.N
  le : J.N ≤ K.N
  w : K.w = J.w
  kind : K.kind = J.kind
  a : K.a = J.a
  c : K.c = J.c
  size : K.size = J.size
theorem JobExt.rdK {J K : Job} (h : JobExt J K) {s t : St} (hr : J.rdK s = some t) : K.rdK s = some t ∧ t.p ≤ J.N := by
  unfold Job.rdK at hr
  split at hr
  · rename_i hh
    simp only [Option.some.injEq] at hr
    subst hr
    have e := num_ext h.ag (p := s.p) (k := 4) hh.1
    unfold Job.rdK
    have hle := h.le
    rw [← e, if_pos ⟨by omega, hh.2⟩]
    exact ⟨rfl, hh.1⟩
  · cases hr
/-- two states alike in the first m samples -/
structure Sim (m : Nat) (s t : St) : Prop where
  p : t.p = s.p
  k : t.k = s.k
  x : ∀ j, j < m → t.x j = s.x j
theorem guessG_ext {kind : Nat} {a c : Int} {x y : Nat → Int} {i : Nat} (h : ∀ j, j < i → y j = x j) (ho : ord kind ≤ i) : guessG kind a c y i = guessG kind a c x i := by
  unfold guessG
  rw [sumG_congr (ord kind) (fun _ _ => rfl) (fun j hj => h (i - 1 - j) (by omega))]
theorem JobExt.rdK' {J K : Job} (h : JobExt J K) {m : Nat} {s t s' : St} (hs : Sim m s t) (hr : J.rdK s = some s') : ∃ t', K.rdK t = some t' ∧ Sim m s' t' ∧ s'.p ≤ J.N := by
  unfold Job.rdK at hr
  split at hr
  · rename_i hh
    simp only [Option.some.injEq] at hr
    subst hr
    have e := num_ext h.ag (p := s.p) (k := 4) hh.1
    have hle := h.le
    refine ⟨⟨s.p + 4, num J.b s.p 4, t.x⟩, ?_, ⟨rfl, rfl, hs.x⟩, hh.1⟩
    unfold Job.rdK
    rw [hs.p, ← e, if_pos ⟨by omega, hh.2⟩]
  · cases hr
theorem JobExt.plc {J K : Job} (h : JobExt J K) {i : Nat} {s t s' : St} (hs : Sim (max i (ord J.kind)) s t) (hp : s.p ≤ J.N) (hr : J.plc i s = some s') : ∃ t', K.plc i t = some t' ∧ Sim (max (i + 1) (ord J.kind)) s' t' ∧ s'.p ≤ J.N := by
  unfold Job.plc at hr ⊢
  rw [h.kind, h.a, h.c, h.w, hs.p, hs.k]
  split at hr
  · rename_i hi
    simp only [Option.some.injEq] at hr
    subst hr
    rw [if_pos hi]
    exact ⟨t, rfl, ⟨hs.p, hs.k, fun j hj => hs.x j (by omega)⟩, hp⟩
  · rename_i hi
    rw [if_neg hi, guessG_ext (x := s.x) (fun j hj => hs.x j (by omega)) (by omega)]
    cases hx : rice J.b J.N s.k s.p with
    | none => rw [hx] at hr; cases hr
    | some r =>
      obtain ⟨v, p'⟩ := r
      obtain ⟨h1, h2, _⟩ := rice_ext h.ag h.le hx
      rw [hx] at hr
      rw [h1]
      simp only at hr ⊢
      split at hr
      · rename_i hf
        simp only [Option.some.injEq] at hr
        subst hr
        rw [if_pos hf]
        refine ⟨_, rfl, ⟨rfl, rfl, fun j hj => ?_⟩, h2⟩
        simp only [updI]
        by_cases e : j = i
        · rw [if_pos e, if_pos e]
        · rw [if_neg e, if_neg e]; exact hs.x j (by omega)
      · cases hr
theorem JobExt.R {J K : Job} (h : JobExt J K) {s0 t0 : St} (h0 : Sim (ord J.kind) s0 t0) (hp : s0.p ≤ J.N) : ∀ i s, J.R s0 i = some s → ∃ t, K.R t0 i = some t ∧ Sim (max i (ord J.kind)) s t ∧ s.p ≤ J.N
  | 0, s, hr => by
    simp only [Job.R, Option.some.injEq] at hr ⊢
    subst hr
    exact ⟨t0, rfl, ⟨h0.p, h0.k, fun j hj => h0.x j (by omega)⟩, hp⟩
  | i + 1, s', hr => by
    simp only [Job.R] at hr ⊢
    cases h1 : J.R s0 i with
    | none => rw [h1] at hr; cases hr
    | some s =>
      obtain ⟨t, e1, m1, p1⟩ := h.R h0 hp i s h1
      rw [h1, Option.bind_some] at hr
      rw [e1, Option.bind_some, h.size]
      by_cases hm : i % J.size = 0
      · rw [if_pos hm] at hr ⊢
        cases h2 : J.rdK s with
        | none => rw [h2] at hr; cases hr
        | some s2 =>
          obtain ⟨t2, e2, m2, p2⟩ := h.rdK' m1 h2
          rw [h2, Option.bind_some] at hr
          rw [e2, Option.bind_some]
          exact h.plc m2 p2 hr
      · rw [if_neg hm, Option.bind_some] at hr ⊢
        exact h.plc m1 p1 hr
theorem restsSt_ext {b b' : Nat → Bool} {N M d kind : Nat} {a c : Int} {n p : Nat} {x0 y0 : Nat → Int} {s : St} (h : Agree b b' N) (hNM : N ≤ M) (hxy : ∀ j, j < ord kind → y0 j = x0 j) (hr : restsSt b N d kind a c n p x0 = some s) :
    ∃ t, restsSt b' M d kind a c n p y0 = some t ∧ Sim (max n (ord kind)) s t ∧ s.p ≤ N := by
  unfold restsSt at hr
  split at hr
  · rename_i hh
    have e := num_ext h (p := p) (k := 2) hh.1
    unfold restsSt
    rw [← e, if_pos ⟨by omega, hh.2⟩]
    exact JobExt.R (J := theJob b N d kind a c n p) (K := theJob b' M d kind a c n p) ⟨h, hNM, rfl, rfl, rfl, rfl, by unfold theJob; rw [e]⟩ (s0 := ⟨p + 2, 0, x0⟩) (t0 := ⟨p + 2, 0, y0⟩) ⟨rfl, rfl, hxy⟩ (show p + 2 ≤ N from hh.1) n s hr
  · cases hr
/-- what is read of a text is read of every longer one that agrees with it -/
theorem bodySt_ext {b b' : Nat → Bool} {N M kind d n p : Nat} {r : (Nat → Int) × Nat} (h : Agree b b' N) (hNM : N ≤ M) (hr : bodySt b N kind d n p = some r) : ∃ r', bodySt b' M kind d n p = some r' ∧ r'.2 = r.2 ∧ r.2 ≤ N := by
  unfold bodySt at hr ⊢
  by_cases h0 : kind = 0
  · rw [if_pos h0] at hr ⊢
    split at hr
    · rename_i hh
      simp only [Option.some.injEq] at hr
      subst hr
      rw [if_pos (by omega)]
      exact ⟨_, rfl, rfl, hh⟩
    · cases hr
  · rw [if_neg h0] at hr ⊢
    by_cases h1 : kind = 1
    · rw [if_pos h1] at hr ⊢
      split at hr
      · rename_i hh
        simp only [Option.some.injEq] at hr
        subst hr
        rw [if_pos (by omega)]
        exact ⟨_, rfl, rfl, hh⟩
      · cases hr
    · rw [if_neg h1] at hr ⊢
      split at hr
      · cases hr
      · rename_i h2
        rw [if_neg h2]
        split at hr
        · rename_i h3
          rw [if_pos (by omega)]
          have hx : ∀ i, i < ord kind → sgn b' (posn p d i) d = sgn b (posn p d i) d := fun i hi => (sgn_ext h (by
            have := posn_le p d (show i + 1 ≤ ord kind from hi)
            rw [posn_succ] at this
            omega)).symm
          by_cases h7 : kind = 7
          · rw [if_pos h7] at hr ⊢
            split at hr
            · rename_i h4
              rw [if_pos (by omega), ← sgn_ext h (p := posn p d (ord kind)) (k := 6) (by omega), ← sgn_ext h (p := posn p d (ord kind) + 6) (k := 6) (by omega)]
              obtain ⟨s, hs, rfl⟩ := Option.map_eq_some_iff.1 hr
              obtain ⟨t, ht, hsim, hsp⟩ := restsSt_ext h hNM hx hs
              exact ⟨(t.x, t.p), by rw [ht]; rfl, hsim.p, hsp⟩
            · cases hr
          · rw [if_neg h7] at hr ⊢
            obtain ⟨s, hs, rfl⟩ := Option.map_eq_some_iff.1 hr
            obtain ⟨t, ht, hsim, hsp⟩ := restsSt_ext h hNM hx hs
            exact ⟨(t.x, t.p), by rw [ht]; rfl, hsim.p, hsp⟩
        · cases hr
theorem readSt_ext {b b' : Nat → Bool} {N M width n : Nat} {r : (Nat → Int) × Nat} (h : Agree b b' N) (hNM : N ≤ M) (hr : readSt b N width n = some r) : ∃ r', readSt b' M width n = some r' ∧ r'.2 = r.2 ∧ r.2 ≤ N := by
  unfold readSt at hr
  split at hr
  · rename_i hh
    obtain ⟨s, hs, rfl⟩ := Option.map_eq_some_iff.1 hr
    have e0 := num_ext h (p := 0) (k := 4) (by omega)
    have e4 := num_ext h (p := 4) (k := 4) (by omega)
    obtain ⟨t, ht, h1, h2⟩ := bodySt_ext h hNM hs
    unfold readSt
    rw [← e0, ← e4, if_pos ⟨by omega, hh.2⟩, ht]
    exact ⟨_, rfl, h1, h2⟩
  · cases hr
/-- a text stands at a place -/
def SaysT (b : Nat → Bool) (p : Nat) (T : List UInt8) : Prop := ∀ i (h : i < T.length), T[i] = ltr (b (p + i))
theorem SaysT.left {b : Nat → Bool} {p : Nat} {T U : List UInt8} (h : SaysT b p (T ++ U)) : SaysT b p T := fun i hi => by
  have := h i (by rw [List.length_append]; omega)
  rw [List.getElem_append_left hi] at this
  exact this
theorem SaysT.right {b : Nat → Bool} {p : Nat} {T U : List UInt8} (h : SaysT b p (T ++ U)) : SaysT b (p + T.length) U := fun i hi => by
  have := h (T.length + i) (by rw [List.length_append]; omega)
  rw [List.getElem_append_right (by omega)] at this
  simp only [Nat.add_sub_cancel_left] at this
  rw [this, Nat.add_assoc]
theorem ltr_inj {a b : Bool} (h : ltr a = ltr b) : a = b := by cases a <;> cases b <;> first | rfl | (exact absurd h (by decide))
theorem bin_says {b : Nat → Bool} {p : Nat} {v : Int} {k : Nat} (h : SaysT b p (binT v k)) (i : Nat) (hi : i < k) : b (p + i) = decide (v / 2 ^ (k - 1 - i) % 2 = 1) := by
  have := h i (by rw [binT_length]; exact hi)
  unfold binT at this
  simp only [List.getElem_map, List.getElem_range] at this
  exact (ltr_inj this).symm
/-- the number of bits of v -/
theorem emod_two_mul (v : Int) (k : Nat) : v % (2 * 2 ^ k) = v % 2 + 2 * (v / 2 % 2 ^ k) := by
  have hp : (0 : Int) < 2 ^ k := by
    have h : 0 < 2 ^ k := Nat.two_pow_pos k
    have e : ((2 ^ k : Nat) : Int) = (2 : Int) ^ k := by simp
    omega
  have h1 := Int.emod_add_mul_ediv v 2
  have h2 := Int.emod_add_mul_ediv (v / 2) (2 ^ k)
  have h3 := Int.emod_nonneg (v / 2) (Int.ne_of_gt hp)
  have h4 := Int.emod_lt_of_pos (v / 2) hp
  have e : v = (v % 2 + 2 * (v / 2 % 2 ^ k)) + (2 * 2 ^ k) * (v / 2 / 2 ^ k) := by
    rw [Int.mul_assoc]; omega
  have h5 : (v % 2 + 2 * (v / 2 % 2 ^ k)) % (2 * 2 ^ k) = v % 2 + 2 * (v / 2 % 2 ^ k) := Int.emod_eq_of_lt (by omega) (by omega)
  calc v % (2 * 2 ^ k) = ((v % 2 + 2 * (v / 2 % 2 ^ k)) + (2 * 2 ^ k) * (v / 2 / 2 ^ k)) % (2 * 2 ^ k) := by rw [← e]
    _ = (v % 2 + 2 * (v / 2 % 2 ^ k)) % (2 * 2 ^ k) := Int.add_mul_emod_self_left _ _ _
    _ = _ := h5
theorem bitsNum_bin (v : Int) : ∀ k (f : Nat → Bool), (∀ i, i < k → f i = decide (v / 2 ^ (k - 1 - i) % 2 = 1)) → (bitsNum f k : Int) = v % 2 ^ k
  | 0, f, _ => by simp [bitsNum, Int.emod_one]
  | k + 1, f, h => by
    have ih := bitsNum_bin (v / 2) k f (fun i hi => by
      rw [h i (by omega)]
      congr 2
      have e : k + 1 - 1 - i = (k - 1 - i) + 1 := by omega
      rw [e, Int.pow_succ, Int.mul_comm, ← Int.ediv_ediv_of_nonneg (by omega)])
    have hl := h k (by omega)
    simp only [Nat.add_sub_cancel, Nat.sub_self, Int.pow_zero, Int.ediv_one] at hl
    simp only [bitsNum]
    rw [hl]
    have e2 : (2 : Int) ^ (k + 1) = 2 * 2 ^ k := by rw [Int.pow_succ, Int.mul_comm]
    have e3 : v % (2 * 2 ^ k) = v % 2 + 2 * (v / 2 % 2 ^ k) := emod_two_mul v k
    rw [e2, e3, ← ih]
    by_cases h1 : v % 2 = 1
    · simp [h1]; omega
    · have h0 : v % 2 = 0 := by omega
      simp [h0]
end Go.Proofs.YtlncjgnomhpjnabGreatDoor

/-
  Plain mathematics for 'Tight': what was laid down is read back.
-/
namespace Go.Proofs.YtlncjgnomhpjnabGreatDoor
set_option linter.unusedVariables false
theorem num_bin {b : Nat → Bool} {p : Nat} {v : Int} {k : Nat} (h : SaysT b p (binT v k)) : (num b p k : Int) = v % 2 ^ k := bitsNum_bin v k _ (fun i hi => bin_says h i hi)
theorem num_binN {b : Nat → Bool} {p v k : Nat} (h : SaysT b p (binT v k)) (hv : v < 2 ^ k) : num b p k = v := by
  have e := num_bin h
  have e2 : ((2 ^ k : Nat) : Int) = (2 : Int) ^ k := by simp
  rw [Int.emod_eq_of_lt (by omega) (by rw [← e2]; omega)] at e
  omega
theorem sgn_bin {b : Nat → Bool} {p : Nat} {v : Int} {k : Nat} (h : SaysT b p (binT v k)) (hk : 1 ≤ k) (hf : fitsB k v = true) : sgn b p k = v := by
  have e := num_bin h
  unfold fitsB at hf
  rw [within_iff] at hf
  obtain ⟨m, rfl⟩ : ∃ m, k = m + 1 := ⟨k - 1, by omega⟩
  have e2 : ((2 ^ m : Nat) : Int) = (2 : Int) ^ m := by simp
  have hp : 0 < 2 ^ m := Nat.two_pow_pos m
  have e3 : (2 : Int) ^ (m + 1) = 2 * 2 ^ m := by rw [Int.pow_succ, Int.mul_comm]
  unfold sgn
  simp only [Nat.add_sub_cancel] at hf ⊢
  rw [e3] at e ⊢
  rw [← e2] at e hf ⊢
  generalize 2 ^ m = q at *
  by_cases h0 : 0 ≤ v
  · rw [Int.emod_eq_of_lt h0 (by omega)] at e
    rw [if_neg (by omega)]; exact e
  · have e4 : v % (2 * (q : Int)) = v + 2 * q := by
      rw [← Int.add_mul_emod_self_left v (2 * (q : Int)) 1, Int.mul_one]
      exact Int.emod_eq_of_lt (by omega) (by omega)
    rw [e4] at e
    rw [if_pos (by omega)]; omega
theorem unf_fold (v : Int) : unf (foldN v) = v := by
  have h := foldN_int v
  unfold unf
  split at h
  · rw [if_pos (by omega)]; omega
  · rw [if_neg (by omega)]; omega
theorem rice_back {b : Nat → Bool} {N p f k : Nat} (h : SaysT b p (riceT f k)) (hN : p + riceL f k ≤ N) : rice b N k p = some (unf f, p + riceL f k) := by
  unfold riceT at h
  have h1 := h.left.left
  have h2 := h.left.right
  have h3 := h.right
  rw [List.length_replicate] at h2
  rw [List.length_append, List.length_replicate] at h3
  unfold riceL at hN
  have hz : zrun b (N - p) p = f / 2 ^ k := by
    refine zrun_eq b (N - p) p _ (by omega) (fun i hi => ?_) (fun _ => ?_)
    · have := h1 i (by rw [List.length_replicate]; exact hi)
      rw [List.getElem_replicate] at this
      exact (ltr_inj (show ltr false = _ from this)).symm
    · have := h2 0 (by simp)
      rw [Nat.add_zero] at this
      exact (ltr_inj (show ltr true = _ from this)).symm
  have hn : num b (p + f / 2 ^ k + 1) k = f % 2 ^ k := by
    have e := num_bin (b := b) (p := p + f / 2 ^ k + 1) (v := (f : Int)) (k := k) (by rw [Nat.add_assoc]; exact h3)
    have e2 : ((2 ^ k : Nat) : Int) = (2 : Int) ^ k := by simp
    rw [← e2] at e
    omega
  unfold rice
  rw [hz, if_pos (by omega), hn]
  congr 2
  · congr 1
    have := Nat.div_add_mod f (2 ^ k)
    rw [Nat.mul_comm] at this
    exact this
  · unfold riceL; omega
end Go.Proofs.YtlncjgnomhpjnabGreatDoor

/-
  Plain mathematics for 'Tight': the rests are read back.
-/
namespace Go.Proofs.YtlncjgnomhpjnabGreatDoor
set_option linter.unusedVariables false
theorem coded_at {b : Nat → Bool} {p k lo : Nat} {f : Nat → Nat} : ∀ {m j : Nat}, SaysT b p (codedT f k lo m) → j < m → SaysT b (p + plen f k lo j) (riceT (f (lo + j)) k)
  | 0, j, _, hj => absurd hj (Nat.not_lt_zero j)
  | m + 1, j, h, hj => by
    simp only [codedT] at h
    by_cases e : j = m
    · subst e
      have := h.right
      rw [codedT_length] at this
      exact this
    · exact coded_at h.left (by omega)
theorem parts_at {b : Nat → Bool} {p o sz : Nat} {f : Nat → Nat} : ∀ {m q : Nat}, SaysT b p (partsT f o sz m) → q < m → SaysT b (p + partsL f o sz q) (binT (parN f o sz q) 4 ++ codedT f (parN f o sz q) (ploN o sz q) (pcnt o sz q))
  | 0, q, _, hq => absurd hq (Nat.not_lt_zero q)
  | m + 1, q, h, hq => by
    simp only [partsT] at h
    by_cases e : q = m
    · subst e
      have := h.right
      rw [partsT_length] at this
      exact this
    · exact parts_at h.left (by omega)
theorem plen_mono (f : Nat → Nat) (k lo : Nat) {i : Nat} : ∀ {j : Nat}, i ≤ j → plen f k lo i ≤ plen f k lo j
  | 0, h => by have : i = 0 := by omega
               subst this; exact Nat.le_refl _
  | j + 1, h => by
    by_cases e : i = j + 1
    · subst e; exact Nat.le_refl _
    · have := plen_mono f k lo (i := i) (j := j) (by omega)
      simp only [plen]; omega
/-- what holds behind i places -/
structure At (s : St) (p m : Nat) (x : Nat → Int) : Prop where
  p : s.p = p
  x : ∀ j, j < m → s.x j = x j
section
variable (J : Job) (x : Nat → Int) (n P p0 : Nat) (f : Nat → Nat)
variable (hN : n = J.size * P) (ho : ord J.kind < J.size) (hfit : ∀ j, j < n → fitsB J.w (x j) = true) (hf : ∀ i, f i = foldN (x i - guessG J.kind J.a J.c x i))
variable (hT : SaysT J.b p0 (partsT f (ord J.kind) J.size P)) (hL : p0 + partsL f (ord J.kind) J.size P ≤ J.N)
theorem part_back (s0 s : St) (q : Nat) (hq : q < P) (hR : J.R s0 (q * J.size) = some s) (hs : At s (p0 + partsL f (ord J.kind) J.size q) (max (q * J.size) (ord J.kind)) x)
    (hfit : ∀ j, j < n → fitsB J.w (x j) = true) (hN : n = J.size * P) (hf : ∀ i, f i = foldN (x i - guessG J.kind J.a J.c x i)) (hT : SaysT J.b p0 (partsT f (ord J.kind) J.size P)) (hL : p0 + partsL f (ord J.kind) J.size P ≤ J.N) (ho : ord J.kind < J.size) :
    ∀ t, t ≤ J.size → ∃ s', J.U s0 (q * J.size) t = some s' ∧ s'.k = parN f (ord J.kind) J.size q ∧
      At s' (p0 + partsL f (ord J.kind) J.size q + 4 + plen f (parN f (ord J.kind) J.size q) (ploN (ord J.kind) J.size q) (q * J.size + t - ploN (ord J.kind) J.size q)) (max (q * J.size + t) (ord J.kind)) x := by
  have hpart := parts_at hT hq
  have hK := hpart.left
  have hC := hpart.right
  rw [binT_length] at hC
  have hK14 : parN f (ord J.kind) J.size q ≤ 14 := parK_le _ _ _
  have hmono := partsL_mono f (ord J.kind) J.size (i := q + 1) (j := P) hq
  have hsucc : partsL f (ord J.kind) J.size (q + 1) = partsL f (ord J.kind) J.size q + (4 + plen f (parN f (ord J.kind) J.size q) (ploN (ord J.kind) J.size q) (pcnt (ord J.kind) J.size q)) := rfl
  have hqn : (q + 1) * J.size ≤ n := by
    rw [hN, Nat.mul_comm J.size P]; exact Nat.mul_le_mul_right _ hq
  have hq1 : (q + 1) * J.size = q * J.size + J.size := Nat.succ_mul _ _
  have hpc : pcnt (ord J.kind) J.size q = q * J.size + J.size - ploN (ord J.kind) J.size q := by unfold pcnt; rw [hq1]
  have hlo : ploN (ord J.kind) J.size q = max (q * J.size) (ord J.kind) := rfl
  generalize parN f (ord J.kind) J.size q = K at *
  generalize ploN (ord J.kind) J.size q = lo at *
  generalize partsL f (ord J.kind) J.size q = L0 at *
  intro t
  induction t with
  | zero =>
    intro _
    refine ⟨⟨s.p + 4, K, s.x⟩, ?_, rfl, ⟨?_, hs.x⟩⟩
    · simp only [Job.U]
      rw [hR, Option.bind_some]
      unfold Job.rdK
      have hn : num J.b s.p 4 = K := by rw [hs.p]; exact num_binN hK (by omega)
      rw [hn, if_pos ⟨by rw [hs.p]; omega, hK14⟩]
    · show s.p + 4 = _
      rw [hs.p, show q * J.size + 0 - lo = 0 by omega]; rfl
  | succ t ih =>
    intro ht
    obtain ⟨s', hU, hk, hat⟩ := ih (by omega)
    simp only [Job.U]
    rw [hU, Option.bind_some]
    by_cases hi : q * J.size + t < ord J.kind
    · refine ⟨s', ?_, hk, ⟨?_, fun j hj => hat.x j (by omega)⟩⟩
      · unfold Job.plc; rw [if_pos hi]
      · rw [hat.p]; congr 2; omega
    · have hin : q * J.size + t < n := by omega
      have e1 : lo + (q * J.size + t - lo) = q * J.size + t := by omega
      have hrs := coded_at hC (j := q * J.size + t - lo) (by omega)
      rw [e1] at hrs
      have hpl : plen f K lo (q * J.size + (t + 1) - lo) = plen f K lo (q * J.size + t - lo) + riceL (f (q * J.size + t)) K := by
        rw [show q * J.size + (t + 1) - lo = (q * J.size + t - lo) + 1 by omega]
        simp only [plen]; rw [e1]
      have hple := plen_mono f K lo (i := q * J.size + (t + 1) - lo) (j := pcnt (ord J.kind) J.size q) (by omega)
      have hrice : rice J.b J.N s'.k s'.p = some (unf (f (q * J.size + t)), s'.p + riceL (f (q * J.size + t)) K) := by
        rw [hk, hat.p]
        exact rice_back hrs (by omega)
      have hg : guessG J.kind J.a J.c s'.x (q * J.size + t) = guessG J.kind J.a J.c x (q * J.size + t) := guessG_ext (fun j hj => hat.x j (by omega)) (by omega)
      have hv : guessG J.kind J.a J.c s'.x (q * J.size + t) + unf (f (q * J.size + t)) = x (q * J.size + t) := by
        rw [hg, hf, unf_fold]; omega
      refine ⟨⟨s'.p + riceL (f (q * J.size + t)) K, s'.k, updI s'.x (q * J.size + t) (x (q * J.size + t))⟩, ?_, hk, ⟨?_, fun j hj => ?_⟩⟩
      · rw [Job.plc_yes hi hrice (by rw [hv]; exact hfit _ hin), hv]
      · show s'.p + _ = _
        rw [hat.p, hpl]; omega
      · show updI _ _ _ j = x j
        unfold updI
        by_cases e : j = q * J.size + t
        · rw [if_pos e, e]
        · rw [if_neg e]; exact hat.x j (by omega)
theorem rests_back (s0 : St) (h0 : At s0 p0 (ord J.kind) x) (hN : n = J.size * P) (ho : ord J.kind < J.size) (hfit : ∀ j, j < n → fitsB J.w (x j) = true) (hf : ∀ i, f i = foldN (x i - guessG J.kind J.a J.c x i))
    (hT : SaysT J.b p0 (partsT f (ord J.kind) J.size P)) (hL : p0 + partsL f (ord J.kind) J.size P ≤ J.N) :
    ∀ q, q ≤ P → ∃ s, J.R s0 (q * J.size) = some s ∧ At s (p0 + partsL f (ord J.kind) J.size q) (max (q * J.size) (ord J.kind)) x := by
  intro q
  induction q with
  | zero =>
    intro _
    refine ⟨s0, by rw [Nat.zero_mul]; rfl, ⟨h0.p, fun j hj => h0.x j (by omega)⟩⟩
  | succ q ih =>
    intro hq
    obtain ⟨s, hR, hs⟩ := ih (by omega)
    obtain ⟨s', hU, _, hat⟩ := part_back J x n P p0 f s0 s q (by omega) hR hs hfit hN hf hT hL ho J.size (Nat.le_refl _)
    rw [J.U_eq s0 (q * J.size) (Nat.mul_mod_left _ _) J.size (by omega) (Nat.le_refl _)] at hU
    have e : (q + 1) * J.size = q * J.size + J.size := Nat.succ_mul _ _
    refine ⟨s', by rw [e]; exact hU, ⟨?_, fun j hj => hat.x j (by omega)⟩⟩
    rw [hat.p]
    have hsucc : partsL f (ord J.kind) J.size (q + 1) = partsL f (ord J.kind) J.size q + (4 + plen f (parN f (ord J.kind) J.size q) (ploN (ord J.kind) J.size q) (pcnt (ord J.kind) J.size q)) := rfl
    have hpc : pcnt (ord J.kind) J.size q = q * J.size + J.size - ploN (ord J.kind) J.size q := by unfold pcnt; rw [e]
    rw [hsucc, hpc]; omega
end
end Go.Proofs.YtlncjgnomhpjnabGreatDoor

/-
  Plain mathematics for 'Codes': the shift by which all samples can be shortened, by their 'or' and by its trailing zeros.
-/
namespace Go.Proofs.YtlncjgnomhpjnabGreatDoor
open Go.RowKit
theorem ip2 (k : Nat) : ((2 ^ k : Nat) : Int) = (2 : Int) ^ k := by simp
theorem ip2_pos (k : Nat) : (0 : Int) < 2 ^ k := by rw [← ip2]; exact Int.ofNat_lt.2 (Nat.two_pow_pos k)
theorem ip2_dvd {k m : Nat} (h : k ≤ m) : (2 : Int) ^ k ∣ 2 ^ m := by
  refine ⟨2 ^ (m - k), ?_⟩
  rw [← Int.pow_add]; congr 1; omega
theorem ofInt_mod (a : Int) (k : Nat) (hk : k ≤ 64) : a % 2 ^ k = 0 ↔ (BitVec.ofInt 64 a).toNat % 2 ^ k = 0 := by
  have e : ((BitVec.ofInt 64 a).toNat : Int) = a % 2 ^ 64 := by
    rw [BitVec.toNat_ofInt]
    have : 0 ≤ a % ((2 ^ 64 : Nat) : Int) := Int.emod_nonneg _ (by decide)
    rw [Int.toNat_of_nonneg this]; simp
  have h1 : (((BitVec.ofInt 64 a).toNat % 2 ^ k : Nat) : Int) = a % 2 ^ k := by
    rw [Int.natCast_emod, e, ip2, Int.emod_emod_of_dvd _ (ip2_dvd hk)]
  omega
theorem wrap_mod (v : Int) (k : Nat) (hk : k ≤ 64) : IntKind.i64.wrap v % 2 ^ k = v % 2 ^ k := by
  have h : ∃ q : Int, IntKind.i64.wrap v = v + q * 2 ^ 64 := by
    rw [IntKind.wrap_i64]
    refine ⟨-((v + 9223372036854775808) / 18446744073709551616), ?_⟩
    have e : (2 : Int) ^ 64 = 18446744073709551616 := rfl
    rw [e]; omega
  obtain ⟨q, hq⟩ := h
  obtain ⟨r, hr⟩ := ip2_dvd hk
  rw [hq, hr, Int.mul_left_comm, Int.add_mul_emod_self_left]
theorem or_mod0 (a b : Int) (k : Nat) (hk : k ≤ 64) : bits .or .i64 a b % 2 ^ k = 0 ↔ a % 2 ^ k = 0 ∧ b % 2 ^ k = 0 := by
  have e : bits .or .i64 a b = IntKind.i64.wrap (((BitVec.ofInt 64 a ||| BitVec.ofInt 64 b).toNat : Nat) : Int) := rfl
  rw [e, wrap_mod _ _ hk, BitVec.toNat_or, ofInt_mod a k hk, ofInt_mod b k hk]
  generalize (BitVec.ofInt 64 a).toNat = A
  generalize (BitVec.ofInt 64 b).toNat = B
  rw [← ip2, ← Int.natCast_emod, Nat.or_mod_two_pow]
  have : ∀ x y : Nat, ((x ||| y : Nat) : Int) = 0 ↔ x = 0 ∧ y = 0 := fun x y => by
    constructor
    · intro h
      have h' : x ||| y = 0 := by omega
      exact ⟨Nat.eq_zero_of_le_zero (h' ▸ Nat.left_le_or), Nat.eq_zero_of_le_zero (h' ▸ Nat.right_le_or)⟩
    · rintro ⟨rfl, rfl⟩; rfl
  exact this _ _
/-- v is the 'or' of the first i, as far as its trailing zeros go -/
def OrOf (l : Nat → Int) (i : Nat) (v : Int) : Prop := (∀ k, k ≤ 64 → (v % 2 ^ k = 0 ↔ ∀ j, j < i → l j % 2 ^ k = 0)) ∧ -9223372036854775808 ≤ v ∧ v ≤ 9223372036854775807
theorem OrOf.zero (l : Nat → Int) : OrOf l 0 0 := ⟨fun k _ => by simp, by omega, by omega⟩
theorem OrOf.step {l : Nat → Int} {i : Nat} {v : Int} (h : OrOf l i v) : OrOf l (i + 1) (bits .or .i64 v (l i)) := by
  refine ⟨fun k hk => ?_, ?_⟩
  · rw [or_mod0 _ _ _ hk, h.1 k hk]
    constructor
    · rintro ⟨h1, h2⟩ j hj
      by_cases e : j = i
      · subst e; exact h2
      · exact h1 j (by omega)
    · intro h1; exact ⟨fun j hj => h1 j (by omega), h1 i (by omega)⟩
  · have e : ∃ z : Int, bits .or .i64 v (l i) = IntKind.i64.wrap z := ⟨_, rfl⟩
    obtain ⟨z, hz⟩ := e
    rw [hz, IntKind.wrap_i64]; omega
theorem OrOf.nz {l : Nat → Int} {i : Nat} {v : Int} (h : OrOf l i v) (hl : ∀ j, j < i → -4096 ≤ l j ∧ l j ≤ 4096) : v = 0 ↔ anyNz l i = false := by
  have h64 := h.1 64 (Nat.le_refl _)
  have e : (2 : Int) ^ 64 = 18446744073709551616 := rfl
  rw [e] at h64
  have hv : v = 0 ↔ v % 18446744073709551616 = 0 := by have := h.2; omega
  rw [hv, h64]
  simp only [anyNz, List.any_eq_false, List.mem_range, decide_eq_true_eq, ne_eq, Decidable.not_not]
  constructor
  · intro hh j hj; have := hh j hj; have := hl j hj; omega
  · intro hh j hj; rw [hh j hj]; rfl
theorem allDiv_mono {l : Nat → Int} {n k m : Nat} (h : allDiv l n m = true) (hk : k ≤ m) : allDiv l n k = true := by
  rw [allDiv_iff] at h ⊢
  intro i hi
  have h1 := Int.dvd_of_emod_eq_zero (h i hi)
  exact Int.emod_eq_zero_of_dvd (Int.dvd_trans (ip2_dvd hk) h1)
theorem shiftT_eq {l : Nat → Int} {n t : Nat} (h1 : allDiv l n t = true) (h2 : allDiv l n (t + 1) = false) (h3 : anyNz l n = true) : ∀ K, t ≤ K → shiftT l n K = t
  | 0, h => by have : t = 0 := by omega
               subst this; rfl
  | K + 1, h => by
    by_cases e : t = K + 1
    · subst e; rw [shiftT, if_pos (by rw [h1, h3]; rfl)]
    · rw [shiftT, if_neg, shiftT_eq h1 h2 h3 K (by omega)]
      intro hc
      rw [Bool.and_eq_true] at hc
      rw [allDiv_mono hc.1 (by omega : t + 1 ≤ K + 1)] at h2; cases h2
theorem shiftT_none {l : Nat → Int} {n : Nat} (h3 : anyNz l n = false) : ∀ K, shiftT l n K = 0
  | 0 => rfl
  | K + 1 => by rw [shiftT, if_neg (by rw [h3]; simp), shiftT_none h3 K]
/-- a number above 0 is a power of 2 times an odd one -/
theorem odd_part : ∀ (B u : Nat), u ≤ B → 0 < u → ∃ t m, u = 2 ^ t * (2 * m + 1)
  | 0, u, h, h0 => absurd h0 (by omega)
  | B + 1, u, h, h0 => by
    by_cases e : u % 2 = 1
    · exact ⟨0, u / 2, by simp; omega⟩
    · obtain ⟨t, m, hm⟩ := odd_part B (u / 2) (by omega) (by omega)
      refine ⟨t + 1, m, ?_⟩
      rw [Nat.pow_succ, Nat.mul_comm (2 ^ t) 2, Nat.mul_assoc, ← hm]; omega
theorem and_neg_odd (m s : Nat) (hs : 0 < s) (h : 2 * m < 2 ^ s) : (2 * m + 1) &&& (2 ^ s - (2 * m + 1)) = 1 := by
  apply Nat.eq_of_testBit_eq
  intro i
  rw [Nat.testBit_and, Nat.testBit_two_pow_sub_succ h]
  cases i with
  | zero =>
    simp [hs]
  | succ i =>
    have e1 : Nat.testBit (2 * m + 1) (i + 1) = Nat.testBit m i := by
      rw [Nat.testBit_succ]; congr 1; omega
    have e2 : Nat.testBit (2 * m) (i + 1) = Nat.testBit m i := by
      rw [Nat.testBit_succ]; congr 1; omega
    have e3 : Nat.testBit 1 (i + 1) = false := by rw [Nat.testBit_succ]; simp
    rw [e1, e2, e3]
    cases Nat.testBit m i <;> simp
theorem and_neg (t m : Nat) (ht : t < 64) (h : 2 ^ t * (2 * m + 1) < 2 ^ 64) : bits .and .u64 ((2 ^ t * (2 * m + 1) : Nat) : Int) (IntKind.u64.wrap (-((2 ^ t * (2 * m + 1) : Nat) : Int))) = ((2 ^ t : Nat) : Int) := by
  generalize hu : 2 ^ t * (2 * m + 1) = u at *
  have hu0 : 0 < u := by rw [← hu]; exact Nat.mul_pos (Nat.two_pow_pos t) (by omega)
  have e0 : bits .and .u64 (u : Int) (IntKind.u64.wrap (-(u : Int))) = IntKind.u64.wrap (((BitVec.ofInt 64 (u : Int) &&& BitVec.ofInt 64 (IntKind.u64.wrap (-(u : Int)))).toNat : Nat) : Int) := rfl
  have e64 : (2 : Nat) ^ 64 = 18446744073709551616 := rfl
  rw [e64] at h
  have e1 : (BitVec.ofInt 64 (u : Int)).toNat = u := by
    rw [BitVec.toNat_ofInt, e64]; omega
  have e2 : (BitVec.ofInt 64 (IntKind.u64.wrap (-(u : Int)))).toNat = 2 ^ 64 - u := by
    rw [BitVec.toNat_ofInt, e64, IntKind.wrap_u64]; omega
  have e3 : u &&& (2 ^ 64 - u) = 2 ^ t := by
    have f1 : u = (2 * m + 1) <<< t := by rw [Nat.shiftLeft_eq, Nat.mul_comm]; exact hu.symm
    have f3 : 2 ^ 64 = 2 ^ t * 2 ^ (64 - t) := by rw [← Nat.pow_add]; congr 1; omega
    have f2 : 2 ^ 64 - u = (2 ^ (64 - t) - (2 * m + 1)) <<< t := by
      rw [Nat.shiftLeft_eq, Nat.mul_comm, Nat.mul_sub, ← f3, hu]
    have f4 : 2 * m < 2 ^ (64 - t) := by
      rw [← e64, f3, ← hu] at h
      have := Nat.lt_of_mul_lt_mul_left h
      omega
    rw [f2, f1, ← Nat.shiftLeft_and_distrib, and_neg_odd m (64 - t) (by omega) f4, Nat.shiftLeft_eq, Nat.one_mul]
  rw [e0, BitVec.toNat_and, e1, e2, e3, IntKind.wrap_u64]
  have : 2 ^ t ≤ u := by rw [← hu]; exact Nat.le_mul_of_pos_right _ (by omega)
  omega
/-- the trailing zeros of the 'or' -/
theorem OrOf.tz {l : Nat → Int} {n width : Nat} {v : Int} (h : OrOf l n v) (hw1 : 1 ≤ width) (hw : width ≤ 13) (hl : ∀ j, j < n → fitsB width (l j) = true) (hv : v ≠ 0) :
    ∃ m, (IntKind.u64.wrap v) = ((2 ^ (shiftN l n width) * (2 * m + 1) : Nat) : Int) ∧ 2 ^ (shiftN l n width) * (2 * m + 1) < 2 ^ 64 ∧ shiftN l n width ≤ 12 := by
  have hl' : ∀ j, j < n → -4096 ≤ l j ∧ l j ≤ 4096 := fun j hj => fits_bd (hl j hj) hw
  have hr := h.2
  obtain ⟨u, hu⟩ : ∃ u : Nat, IntKind.u64.wrap v = u := ⟨(v % 18446744073709551616).toNat, by rw [IntKind.wrap_u64]; omega⟩
  have hu0 : 0 < u ∧ u < 18446744073709551616 := by rw [IntKind.wrap_u64] at hu; omega
  obtain ⟨t, m, htm⟩ := odd_part u u (Nat.le_refl _) hu0.1
  have hmod : ∀ k, k ≤ 64 → ((u % 2 ^ k = 0) ↔ allDiv l n k = true) := fun k hk => by
    rw [allDiv_iff, ← h.1 k hk]
    obtain ⟨q, hq⟩ : ∃ q : Int, v = u + q * 2 ^ 64 := ⟨v / 18446744073709551616, by
      have e : (2 : Int) ^ 64 = 18446744073709551616 := rfl
      rw [IntKind.wrap_u64] at hu; rw [e]; omega⟩
    obtain ⟨r, hr⟩ := ip2_dvd hk
    rw [hq, hr, Int.mul_left_comm, Int.add_mul_emod_self_left, ← ip2, ← Int.natCast_emod]
    omega
  have hnz : anyNz l n = true := by
    cases e : anyNz l n with
    | true => rfl
    | false => exact absurd ((h.nz hl').2 e) hv
  have ht64 : t < 64 := by
    by_cases e : t < 64
    · exact e
    · have h1 : 2 ^ 64 ≤ 2 ^ t := Nat.pow_le_pow_right (by omega) (by omega)
      have h2 : 2 ^ t ≤ u := by rw [htm]; exact Nat.le_mul_of_pos_right _ (by omega)
      have e64 : (2 : Nat) ^ 64 = 18446744073709551616 := rfl
      omega
  have d1 : allDiv l n t = true := (hmod t (by omega)).1 (by rw [htm]; exact Nat.mul_mod_right _ _)
  have d2 : allDiv l n (t + 1) = false := by
    cases e : allDiv l n (t + 1) with
    | false => rfl
    | true =>
      have h4 := (hmod (t + 1) (by omega)).2 e
      rw [htm, Nat.pow_succ, Nat.mul_mod_mul_left, show (2 * m + 1) % 2 = 1 by omega, Nat.mul_one] at h4
      exact absurd h4 (Nat.ne_of_gt (Nat.two_pow_pos t))
  have hlt : t ≤ width - 1 := by
    simp only [anyNz, List.any_eq_true, List.mem_range, decide_eq_true_eq] at hnz
    obtain ⟨j, hj, hz⟩ := hnz
    have hd := Int.dvd_of_emod_eq_zero ((allDiv_iff l n t).1 d1 j hj)
    have hf := hl j hj
    unfold fitsB at hf
    rw [within_iff] at hf
    have h1 := Int.natAbs_dvd_natAbs.2 hd
    have h2 := Nat.le_of_dvd (by omega) h1
    rw [← ip2, Int.natAbs_natCast] at h2
    have hf2 : (l j).natAbs ≤ 2 ^ (width - 1) := by
      rw [← ip2] at hf; omega
    exact (Nat.pow_le_pow_iff_right (by omega)).1 (Nat.le_trans h2 hf2)
  have es : shiftN l n width = t := shiftT_eq d1 d2 hnz _ hlt
  rw [es]
  have e64 : (2 : Nat) ^ 64 = 18446744073709551616 := rfl
  exact ⟨m, by rw [← htm]; exact hu, by rw [← htm, e64]; exact hu0.2, by omega⟩
theorem OrOf.shift0 {l : Nat → Int} {n width : Nat} {v : Int} (h : OrOf l n v) (hw : width ≤ 13) (hl : ∀ j, j < n → fitsB width (l j) = true) (hv : v = 0) : shiftN l n width = 0 :=
  shiftT_none ((h.nz fun j hj => fits_bd (hl j hj) hw).1 hv) _
end Go.Proofs.YtlncjgnomhpjnabGreatDoor

/-
  Plain mathematics for 'Tight': a subframe is read back.
-/
namespace Go.Proofs.YtlncjgnomhpjnabGreatDoor
set_option linter.unusedVariables false
theorem nums_at {b : Nat → Bool} {p w : Nat} {x : Nat → Int} : ∀ {m j : Nat}, SaysT b p (numsT x w m) → j < m → SaysT b (posn p w j) (binT (x j) w)
  | 0, j, _, hj => absurd hj (Nat.not_lt_zero j)
  | m + 1, j, h, hj => by
    simp only [numsT] at h
    by_cases e : j = m
    · subst e
      have := h.right
      rw [numsT_length] at this
      exact this
    · exact nums_at h.left (by omega)
theorem bestK_zero (w : Nat) (x : Nat → Int) (n : Nat) : ∀ j, bestK w x n j = 0 → allSame x n = true
  | 0, h => by
    unfold bestK at h
    cases e : allSame x n with
    | true => rfl
    | false => rw [e] at h; simp at h
  | j + 1, h => by
    unfold bestK at h
    split at h
    · omega
    · exact bestK_zero w x n j h
theorem short_mul (l : Nat → Int) (n width j : Nat) (hj : j < n) : shortX l n width j * 2 ^ shiftN l n width = l j :=
  Int.ediv_mul_cancel (Int.dvd_of_emod_eq_zero (shiftT_div l n (width - 1) j hj))
theorem short_fits (l : Nat → Int) (n width j : Nat) (hw1 : 1 ≤ width) (hj : j < n) (hf : fitsB width (l j) = true) : fitsB (width - shiftN l n width) (shortX l n width j) = true := by
  have hs : shiftN l n width ≤ width - 1 := shiftT_le _ _ _
  have hm := short_mul l n width j hj
  unfold fitsB at hf ⊢
  rw [within_iff] at hf ⊢
  generalize shortX l n width j = x at *
  generalize shiftN l n width = s at *
  have e : (2 : Int) ^ (width - 1) = 2 ^ (width - s - 1) * 2 ^ s := by rw [← Int.pow_add]; congr 1; omega
  have hp := ip2_pos s
  rw [e, ← hm] at hf
  generalize (2 : Int) ^ (width - s - 1) = q at *
  generalize (2 : Int) ^ s = r at *
  constructor
  · have h1 : -q * r ≤ x * r := by rw [Int.neg_mul]; exact hf.1
    exact Int.le_of_mul_le_mul_right h1 hp
  · have h1 : x * r < q * r := by omega
    have := Int.lt_of_mul_lt_mul_right h1 (Int.le_of_lt hp)
    omega
theorem body_back {b : Nat → Bool} {N kind W n p : Nat} {x : Nat → Int} (h7 : kind ≤ 7) (hn1 : 1 ≤ n) (hW1 : 1 ≤ W) (hW : W ≤ 13) (hfit : ∀ j, j < n → fitsB W (x j) = true) (h0 : kind = 0 → allSame x n = true) (hok : 2 ≤ kind → okG kind x n = true)
    (hT : SaysT b p (bodyT kind W x n)) (hL : p + bodyL kind W x n ≤ N) : ∃ r, bodySt b N kind W n p = some r ∧ r.2 = p + bodyL kind W x n ∧ ∀ j, j < n → r.1 j = x j := by
  unfold bodySt
  unfold bodyT at hT
  unfold bodyL at hL ⊢
  by_cases k0 : kind = 0
  · rw [if_pos k0] at hT hL ⊢
    rw [if_pos k0, if_pos hL]
    refine ⟨_, rfl, rfl, fun j hj => ?_⟩
    show sgn b p W = x j
    rw [sgn_bin hT hW1 (hfit 0 (by omega)), (allSame_iff x n).1 (h0 k0) j hj]
  · rw [if_neg k0] at hT hL ⊢
    rw [if_neg k0]
    by_cases k1 : kind = 1
    · rw [if_pos k1] at hT hL ⊢
      rw [if_pos k1, if_pos (show posn p W n ≤ N from hL)]
      exact ⟨_, rfl, rfl, fun j hj => sgn_bin (nums_at hT hj) hW1 (hfit j hj)⟩
    · rw [if_neg k1] at hT hL ⊢
      have h2 : 2 ≤ kind := by omega
      have hg := hok h2
      have hon : ord kind < n := by unfold okG at hg; rw [Bool.and_eq_true, decide_eq_true_eq] at hg; exact hg.1
      rw [if_neg k1, if_neg (by omega)]
      unfold gT at hT
      unfold gL at hL ⊢
      have hx := hT.left
      have hr := hT.right
      rw [numsT_length] at hr
      rw [if_pos (show posn p W (ord kind) ≤ N by unfold posn; omega)]
      have hxs : ∀ j, j < ord kind → sgn b (posn p W j) W = x j := fun j hj => sgn_bin (nums_at hx hj) hW1 (hfit j (by omega))
      have hbc := bestC_le (fR kind x n) (ord kind) n 3
      have hcok := bestC_ok (fR kind x n) (ord kind) n hon 3
      have key : ∀ (a c : Int) (p2 : Nat), a = wA kind x n → c = wB kind x n → SaysT b p2 (cutT (fR kind x n) (ord kind) n (bC kind x n)) → p2 + cutL (fR kind x n) (ord kind) n (bC kind x n) ≤ N →
          ∃ st, restsSt b N W kind a c n p2 (fun i => sgn b (posn p W i) W) = some st ∧ st.p = p2 + cutL (fR kind x n) (ord kind) n (bC kind x n) ∧ ∀ j, j < n → st.x j = x j := by
        intro a c p2 ha hc hcut hcl
        unfold cutT at hcut
        unfold cutL at hcl ⊢
        have hb2 := hcut.left
        have hpt := hcut.right
        rw [binT_length] at hpt
        have hnum : num b p2 2 = bC kind x n := num_binN hb2 (show bestC (fR kind x n) (ord kind) n 3 < 2 ^ 2 from Nat.lt_of_le_of_lt hbc (by decide))
        have hcf := cut_facts (show cutB n (ord kind) (bC kind x n) = true from hcok)
        unfold restsSt
        rw [hnum, if_pos ⟨by omega, hcok⟩]
        have hJs : (theJob b N W kind a c n p2).size = n / 2 ^ bC kind x n := by show n / 2 ^ num b p2 2 = _; rw [hnum]
        obtain ⟨st, hst, hat⟩ := rests_back (theJob b N W kind a c n p2) x n (2 ^ bC kind x n) (p2 + 2) (fR kind x n) ⟨p2 + 2, 0, fun i => sgn b (posn p W i) W⟩ ⟨rfl, hxs⟩
          (by rw [hJs]; exact hcf.1.symm) (by rw [hJs]; exact hcf.2) hfit (fun i => by show fR kind x n i = foldN (x i - guessG kind a c x i); rw [ha, hc]; rfl) (by rw [hJs]; exact hpt) (by rw [hJs]; show _ ≤ N; simp only [theJob]; omega) (2 ^ bC kind x n) (Nat.le_refl _)
        rw [hJs] at hst hat
        have e : 2 ^ bC kind x n * (n / 2 ^ bC kind x n) = n := by rw [Nat.mul_comm]; exact hcf.1
        rw [e] at hst hat
        exact ⟨st, hst, by rw [hat.p]; simp only [theJob]; omega, fun j hj => hat.x j (by simp only [theJob]; omega)⟩
      by_cases k7 : kind = 7
      · rw [if_pos k7] at hr hL ⊢
        rw [if_pos k7, if_pos (by unfold posn; omega)]
        have ha := hr.left.left
        have hb := hr.left.right
        have hc := hr.right
        rw [binT_length] at hb
        rw [List.length_append, binT_length, binT_length] at hc
        have hab := clamp_bd (8 * lag x 1 n * (lag x 0 n - lag x 2 n) / leanD x n)
        have hbb := clamp_bd (8 * (lag x 0 n * lag x 2 n - lag x 1 n * lag x 1 n) / leanD x n)
        have fa : fitsB 6 (leanA x n) = true := by unfold fitsB leanA; rw [within_iff]; omega
        have fb : fitsB 6 (leanB x n) = true := by unfold fitsB leanB; rw [within_iff]; omega
        obtain ⟨st, hst, hp, hxx⟩ := key (sgn b (posn p W (ord kind)) 6) (sgn b (posn p W (ord kind) + 6) 6) (posn p W (ord kind) + 12)
          (by rw [show wA kind x n = leanA x n from if_pos k7]; exact sgn_bin ha (by omega) fa) (by rw [show wB kind x n = leanB x n from if_pos k7]; exact sgn_bin hb (by omega) fb) hc (by unfold posn; omega)
        rw [hst]
        exact ⟨_, rfl, by show st.p = _; rw [hp]; unfold posn; omega, hxx⟩
      · rw [if_neg k7] at hr hL ⊢
        rw [if_neg k7]
        rw [List.nil_append] at hr
        obtain ⟨st, hst, hp, hxx⟩ := key 0 0 (posn p W (ord kind)) (if_neg k7).symm (if_neg k7).symm hr (by unfold posn; omega)
        rw [hst]
        exact ⟨_, rfl, by show st.p = _; rw [hp]; unfold posn; omega, hxx⟩
theorem subT_length (width : Nat) (l : Nat → Int) (n : Nat) : (subT width l n).length = 8 + bodyL (subKind width l n) (width - shiftN l n width) (shortX l n width) n := by
  unfold subT
  rw [List.length_append, List.length_append, binT_length, binT_length, bodyT_length]; omega
/-- a subframe is read as its samples, whatever stands behind it -/
theorem sub_back {b : Nat → Bool} {N width n : Nat} {l : Nat → Int} (hn1 : 1 ≤ n) (hw1 : 1 ≤ width) (hw : width ≤ 13) (hfit : ∀ j, j < n → fitsB width (l j) = true) (hT : SaysT b 0 (subT width l n)) (hL : (subT width l n).length ≤ N) :
    ∃ r, readSt b N width n = some r ∧ r.2 = (subT width l n).length ∧ ∀ j, j < n → r.1 j = l j := by
  have hs : shiftN l n width ≤ width - 1 := shiftT_le _ _ _
  have hk := bestK_le (width - shiftN l n width) (shortX l n width) n 6
  rw [subT_length] at hL ⊢
  unfold subT at hT
  have t1 := hT.left
  have t2 := hT.right.left
  have t3 := hT.right.right
  rw [binT_length] at t2 t3
  rw [binT_length] at t3
  have e1 : num b 0 4 = subKind width l n := num_binN t1 (Nat.lt_of_le_of_lt hk (by decide))
  have e2 : num b 4 4 = shiftN l n width := num_binN t2 (by omega)
  obtain ⟨r, h1, h2, h3⟩ := body_back (b := b) (N := N) (kind := subKind width l n) (W := width - shiftN l n width) (n := n) (p := 8) (x := shortX l n width) hk hn1 (by omega) (by omega) (fun j hj => short_fits l n width j hw1 hj (hfit j hj)) (fun h => bestK_zero _ _ _ _ h) (fun h => bestK_ok _ _ _ _ h) t3 hL
  unfold readSt
  rw [e1, e2, if_pos ⟨by omega, by omega⟩, h1]
  exact ⟨_, rfl, h2, fun j hj => by show r.1 j * 2 ^ _ = l j; rw [h3 j hj]; exact short_mul l n width j hj⟩
/-- and it is no longer than the samples, each in its width -/
theorem bestK_plain (w : Nat) (x : Nat → Int) (n : Nat) (hn1 : 1 ≤ n) : ∀ j, bodyL (bestK w x n j) w x n ≤ n * w
  | 0 => by
    unfold bestK
    split
    · show w ≤ n * w
      exact Nat.le_mul_of_pos_left _ hn1
    · exact Nat.le_refl _
  | j + 1 => by
    have ih := bestK_plain w x n hn1 j
    unfold bestK
    split
    · rename_i h; omega
    · exact ih
theorem subT_le (width : Nat) (l : Nat → Int) (n : Nat) (hn1 : 1 ≤ n) : (subT width l n).length ≤ 8 + n * width := by
  rw [subT_length]
  have h := bestK_plain (width - shiftN l n width) (shortX l n width) n hn1 6
  have h2 : n * (width - shiftN l n width) ≤ n * width := Nat.mul_le_mul_left _ (by omega)
  unfold subKind
  omega
end Go.Proofs.YtlncjgnomhpjnabGreatDoor

/-
  The writer of bits: strings.Builder in a block of its own, or in a writer's.
-/
namespace Go.Proofs.YtlncjgnomhpjnabGreatDoor
open Go.RowKit Go.Deep
set_option linter.unusedVariables false
theorem sizeBuilder : (Tryz.prog.info? 278).map (·.size) = some 2 := by kernel_rfl
theorem infoByte : (Tryz.prog.info? 5).map (fun i => (i.zero, i.size, i.bytes)) = some (some (.int .u8 0), 1, 1) := by kernel_rfl
theorem cellsByte : Tryz.prog.cellsOf 5 = 1 := by kernel_rfl
/-- a builder may lie in such a block -/
def Lies (T : TypeId) : Prop := liesAt Tryz.prog Tryz.prog.depth T (2 / Tryz.prog.cellsOf T) 0 278 1 = true ∧ T ≠ 5
theorem lies_writer : Lies 326 := ⟨by kernel_rfl, by decide⟩
theorem lies_builder : Lies 278 := ⟨by kernel_rfl, by decide⟩
set_option maxHeartbeats 1000000 in
set_option maxRecDepth 100000 in
theorem copyCheck_any (T : TypeId) (hT : Lies T) (B b : Nat) (bs : List Value) (w : World) (h : Lib.IsBuilderF T 5 B b bs w) :
    Calls Tryz.prog 251 #[.pointer (some ⟨b, 0, none⟩)] w fun e w' => e = .returned (.tuple #[]) ∧ (Lib.BuilderAtF T 5 B b (.pointer (some ⟨b, 0, none⟩)) bs w' ∧ Below B w w' ∧ Lib.OthersKept 5 (some b) w w') := by
  obtain ⟨j, hj, hjs⟩ := Option.map_eq_some_iff.1 sizeBuilder
  rcases h with h | h
  · have h0 := h.cell0
    have hsh := h.shape
    have hfz := h.frozen0
    have HH := Hid.mk' h
    clear h
    go_enter Tryz.func251, Tryz.ntmps251
    go_wp2
    rw [Lib.run_to_unsafe w ⟨b, 0, none⟩ Tryz.underlying276 Tryz.underlying261 hj (by rw [hjs]; decide) hsh (Nat.zero_lt_succ 1)]
    simp only [Result.andThen]
    rw [Oper.upon_value]
    go_wp2
    rw [run_callFunc_extern Tryz.func284 (by kernel_rfl) (by kernel_rfl) (by kernel_rfl) (e := Extern.AbiNoEscape.same) (by kernel_rfl)]
    rw [Lib.run_noEscape]
    simp only [Result.andThen]
    rw [Oper.upon_value]
    go_wp2
    rw [Lib.run_from_unsafe w ⟨b, 0, none⟩ Tryz.underlying261 Tryz.underlying276 hj hsh hT.1]
    simp only [Result.andThen]
    rw [Oper.upon_value]
    go_wp2
    go_end0
    exact ⟨rfl, HH.out.used _, (Below.refl B w).setCell (p := ⟨b, 0, none⟩) HH.out.1 _, (Lib.OthersKept.refl _ _ w).setCell ⟨b, 0, none⟩ rfl _⟩
  · have h0 := h.cell0
    have HH := Hid.mk' h
    clear h
    have hne := fun u : World => Lib.run_neq_ptr_same (P := Tryz.prog) (w := u) (j := j) (⟨b, 0, none⟩ : Addr) Tryz.underlying276 hj
    go_enter Tryz.func251, Tryz.ntmps251
    go_wp2
    go_end0
    exact ⟨rfl, HH.out, Below.refl B _, Lib.OthersKept.refl _ _ _⟩
set_option maxHeartbeats 2000000 in
set_option maxRecDepth 100000 in
theorem writeByte_any (T : TypeId) (hT : Lies T) (B b : Nat) (bs : List Value) (c : Int) (w : World) (h : Lib.IsBuilderF T 5 B b bs w) (hlen : bs.length + 1 ≤ 140737488355328) (hBw : B ≤ w.heap.size) :
    Calls Tryz.prog 287 #[.pointer (some ⟨b, 0, none⟩), .int .u8 c] w fun e w' => e = .returned .nilIface ∧ (Lib.BuilderAtF T 5 B b (.pointer (some ⟨b, 0, none⟩)) (bs ++ [.int .u8 c]) w' ∧ Below B w w' ∧ Lib.OthersKept 5 (some b) w w') := by
  obtain ⟨i0, hi, hz0, hz1, hz2⟩ := info_parts infoByte
  have HH := Hid.mk' h
  clear h
  go_enter Tryz.func287, Tryz.ntmps287
  go_wp2_with (go_at_call 251; refine (copyCheck_any T hT B b bs _ HH.out).mono ?_)
  rintro e w1 ⟨rfl, h1, hb1, hk1⟩
  obtain ⟨hB, v, hbk, hown, hne⟩ := h1
  have c0 : w1.cell? ⟨b, 0, none⟩ = some (.pointer (some ⟨b, 0, none⟩)) := by rw [Lib.cell_of_heap hbk]; rfl
  have c1 : w1.cell? ⟨b, 1, none⟩ = some v := by rw [Lib.cell_of_heap hbk]; rfl
  go_wp2_with (at_builtin; refine wpList_append_ownF _ rfl _ _ 33 rfl B 5 i0 (.int .u8 0) 1 1 Tryz.underlying33 hi hz0 hz1 hz2 rfl (by decide) _ _ _ rfl (hown.alloc _) ⟨w1.heap.size, 0, none⟩ 1 1 [.int .u8 c] rfl rfl ?c1 ?c2 ?c3 ?c4 ?c5 ?_)
  case c1 =>
    intro j u hj
    match j, hj with
    | 0, hj => simp at hj; subst hj; simp [Addr.add]
  case c2 => intro u hu; simp at hu; subst hu; rfl
  case c3 => unfold maxLen; omega
  case c4 => omega
  case c5 => have := hb1.size; simp; omega
  intro v' w2 hown' hgrow _
  have hlt : b < w1.heap.size := (Array.getElem?_eq_some_iff.1 hbk).1
  have hb2 : w2.heap[b]? = some (.cells #[.pointer (some ⟨b, 0, none⟩), v] T (0, 0)) := by
    rw [hgrow.block b (by simp; omega) (fun e => hne e.symm), Lib.alloc_old w1 _ b hlt]
    exact hbk
  have d0 : w2.cell? ⟨b, 0, none⟩ = some (.pointer (some ⟨b, 0, none⟩)) := by rw [Lib.cell_of_heap hb2]; rfl
  have d1 : w2.cell? ⟨b, 1, none⟩ = some v := by rw [Lib.cell_of_heap hb2]; rfl
  have f1 : w2.frozen? ⟨b, 1, none⟩ = false := Lib.frozen_of_heap hb2 1
  obtain ⟨g, cap, rfl⟩ : ∃ g cap, v' = .slice (some ⟨g, 0, none⟩) (bs.length + 1) cap := by
    rcases hown'.2 with ⟨_, h0⟩ | ⟨g, cap, cur, fz, hv, _⟩
    · omega
    · exact ⟨g, cap, hv⟩
  go_wp2
  go_ret
  refine ⟨rfl, ?_, ?_, ((hk1.alloc _).grown hgrow (Lib.ownsRowF_kind (hown.alloc _))).setCell ⟨b, 1, none⟩ rfl _⟩
  · exact Lib.BuilderAtF.put (T := T) (e := 5) hB hb2 (bs' := bs ++ [.int .u8 c]) (by simpa using hown') hT.2
  · exact ((hb1.alloc (by have := hb1.size; omega) _).grown hgrow (by have := hb1.size; simp; omega) (fun k hk => (hown.lt k hk).1)).setCell (p := ⟨b, 1, none⟩) hB _
set_option maxHeartbeats 2000000 in
set_option maxRecDepth 100000 in
theorem string_any (T : TypeId) (B b : Nat) (l : List UInt8) (w : World) (h : Lib.IsBuilderF T 5 B b (Lib.byteCells l) w) (h0 : l ≠ []) :
    Calls Tryz.prog 201 #[.pointer (some ⟨b, 0, none⟩)] w fun e w' => e = .returned (.string ⟨l.toArray⟩) ∧ Below B w w' := by
  obtain ⟨p, hAt⟩ : ∃ p, Lib.BuilderAtF T 5 B b p (Lib.byteCells l) w := by
    rcases h with h | h
    · exact ⟨_, h⟩
    · exact ⟨_, h⟩
  obtain ⟨hB, v, hbk, hown, hne⟩ := hAt
  have hl0 : l.length ≠ 0 := by simpa using h0
  rw [Lib.byteCells_length] at hown
  obtain ⟨g, cap, cur, fz, rfl, hbg, hg, hfz, hnc, hcm, hcs, htake⟩ : ∃ g cap cur fz, v = .slice (some ⟨g, 0, none⟩) l.length cap ∧ B ≤ g ∧ w.heap[g]? = some (.cells cur 5 fz) ∧ fz.2 ≤ l.length * 1 ∧ l.length ≤ cap ∧ cap ≤ maxLen ∧ cur.size = cap * 1 ∧ cur.toList.take (l.length * 1) = Lib.byteCells l := by
    rcases hown.2 with ⟨_, hz⟩ | ⟨g, cap, cur, fz, hv, r⟩
    · exact absurd hz hl0
    · exact ⟨g, cap, cur, fz, hv, r⟩
  have c1 : w.drew.cell? ⟨b, 1, none⟩ = some (.slice (some ⟨g, 0, none⟩) l.length cap) := by
    have : w.drew.heap[b]? = some (.cells #[p, .slice (some ⟨g, 0, none⟩) l.length cap] T (0, 0)) := hbk
    rw [Lib.cell_of_heap this]; rfl
  have hSD : (Builtin.unsafeSliceData_ #[33] 322 #[.slice (some ⟨g, 0, none⟩) l.length cap]).run Tryz.prog w.drew = .ok (.pointer (some ⟨g, 0, none⟩)) w.drew :=
    Lib.run_unsafeSliceData_row _ _ _ _ _ _ (by omega)
  have hUS : (Builtin.unsafeString_ #[322, 3] 9 #[.pointer (some ⟨g, 0, none⟩), .int .i64 l.length]).run Tryz.prog w.drew = .ok (.string ⟨l.toArray⟩) (w.drew.freeze ⟨g, 0, none⟩ l.length) := by
    refine Lib.run_unsafeString_row w.drew 322 3 9 5 Tryz.underlying322 cellsByte g cur.size (by have hg' : w.drew.heap[g]? = some (.cells cur 5 fz) := hg; simp [World.shape?, hg']) l h0 (by omega) (by unfold maxLen at hcm; omega) ?_
    intro j x hx
    have := hown.cells (g := g) rfl j (.int .u8 x.toNat) (by simp [Lib.byteCells, hx])
    exact this
  clear hown hg htake hbk
  go_enter Tryz.func201, Tryz.ntmps201
  go_wp2
  go_region
  all_goals (go_wp2; go_ret; exact ⟨rfl, Lib.below_freeze (Below.drew (Below.refl B w)) (p := ⟨g, 0, none⟩) hbg _⟩)
end Go.Proofs.YtlncjgnomhpjnabGreatDoor

