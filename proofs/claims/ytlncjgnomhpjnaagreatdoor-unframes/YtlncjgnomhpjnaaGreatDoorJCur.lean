import Derived.Test.YtlncjgnomhpjnaaGreatDoorJReadTop
import Derived.Test.YtlncjgnomhpjnaaGreatDoorJCursor
import Derived.WalkMore
/-
  What is read of a text from a place on is what is read of its rest.
-/
namespace Go.Proofs.YtlncjgnomhpjnaaGreatDoor
set_option linter.unusedVariables false

/-- the text from place o on -/
def shB (b : Nat → Bool) (o i : Nat) : Bool := b (o + i)
def shS (o : Nat) (s : St) : St := ⟨o + s.p, s.k, s.x⟩
theorem num_sh (b : Nat → Bool) (o p k : Nat) : num (shB b o) p k = num b (o + p) k := by
  unfold num shB
  simp only [Nat.add_assoc]
theorem sgn_sh (b : Nat → Bool) (o p k : Nat) : sgn (shB b o) p k = sgn b (o + p) k := by
  unfold sgn
  rw [num_sh]
theorem zrun_sh (b : Nat → Bool) (o : Nat) : ∀ m p, zrun (shB b o) m p = zrun b m (o + p)
  | 0, _ => rfl
  | m + 1, p => by
    have e : shB b o p = b (o + p) := rfl
    unfold zrun
    rw [e, zrun_sh b o m (p + 1), Nat.add_assoc]
theorem rice_sh {b : Nat → Bool} {o N : Nat} (ho : o ≤ N) (k p : Nat) : rice b N k (o + p) = (rice (shB b o) (N - o) k p).map fun r => (r.1, o + r.2) := by
  unfold rice
  rw [zrun_sh, num_sh, show N - o - p = N - (o + p) by omega]
  by_cases h : o + p + zrun b (N - (o + p)) (o + p) + 1 + k ≤ N
  · rw [if_pos h, if_pos (by omega)]
    simp only [Option.map_some]
    congr 2
    · congr 3; omega
    · omega
  · rw [if_neg h, if_neg (by omega)]; rfl
/-- the same job over the rest -/
def Job.sh (J : Job) (o : Nat) : Job := ⟨shB J.b o, J.N - o, J.w, J.kind, J.a, J.c, J.size⟩
theorem Job.rdK_sh {J : Job} {o : Nat} (ho : o ≤ J.N) (s : St) : J.rdK (shS o s) = ((J.sh o).rdK s).map (shS o) := by
  unfold Job.rdK Job.sh shS
  simp only [num_sh]
  by_cases h : o + s.p + 4 ≤ J.N ∧ num J.b (o + s.p) 4 ≤ 14
  · rw [if_pos h, if_pos ⟨by omega, h.2⟩]
    simp only [Option.map_some]
    rw [Nat.add_assoc]
  · rw [if_neg h, if_neg (fun hh => h ⟨by omega, hh.2⟩)]; rfl
theorem Job.plc_sh {J : Job} {o : Nat} (ho : o ≤ J.N) (i : Nat) (s : St) : J.plc i (shS o s) = ((J.sh o).plc i s).map (shS o) := by
  unfold Job.plc
  have e1 : (J.sh o).kind = J.kind := rfl
  by_cases hi : i < ord J.kind
  · rw [if_pos hi, if_pos (by rw [e1]; exact hi)]; rfl
  · rw [if_neg hi, if_neg (by rw [e1]; exact hi)]
    have e2 : rice J.b J.N (shS o s).k (shS o s).p = (rice (J.sh o).b (J.sh o).N s.k s.p).map fun r => (r.1, o + r.2) := rice_sh ho s.k s.p
    rw [e2]
    cases hr : rice (J.sh o).b (J.sh o).N s.k s.p with
    | none => rfl
    | some r =>
      obtain ⟨v, p'⟩ := r
      simp only [Option.map_some]
      show (if fitsB J.w (guessG J.kind J.a J.c s.x i + v) = true then _ else _) = Option.map _ (if fitsB J.w (guessG J.kind J.a J.c s.x i + v) = true then _ else _)
      by_cases hf : fitsB J.w (guessG J.kind J.a J.c s.x i + v) = true
      · rw [if_pos hf, if_pos hf]; rfl
      · rw [if_neg hf, if_neg hf]; rfl
theorem Job.R_sh {J : Job} {o : Nat} (ho : o ≤ J.N) (s0 : St) : ∀ i, J.R (shS o s0) i = ((J.sh o).R s0 i).map (shS o)
  | 0 => rfl
  | i + 1 => by
    unfold Job.R
    rw [Job.R_sh ho s0 i]
    cases h : (J.sh o).R s0 i with
    | none => rfl
    | some s =>
      simp only [Option.map_some, Option.bind_some]
      have e : (J.sh o).size = J.size := rfl
      rw [e]
      by_cases hm : i % J.size = 0
      · rw [if_pos hm, if_pos hm, Job.rdK_sh ho]
        cases h2 : (J.sh o).rdK s with
        | none => rfl
        | some s2 => simp only [Option.map_some, Option.bind_some]; exact Job.plc_sh ho i s2
      · rw [if_neg hm, if_neg hm]
        simp only [Option.bind_some]
        exact Job.plc_sh ho i s
theorem restsSt_sh {b : Nat → Bool} {o N : Nat} (ho : o ≤ N) (d kind : Nat) (a c : Int) (n p : Nat) (x0 : Nat → Int) : restsSt b N d kind a c n (o + p) x0 = (restsSt (shB b o) (N - o) d kind a c n p x0).map (shS o) := by
  unfold restsSt
  rw [num_sh]
  by_cases h : o + p + 2 ≤ N ∧ cutB n (ord kind) (num b (o + p) 2) = true
  · rw [if_pos h, if_pos ⟨by omega, h.2⟩]
    have e1 : (theJob b N d kind a c n (o + p)).sh o = theJob (shB b o) (N - o) d kind a c n p := by
      unfold theJob Job.sh
      simp only [num_sh]
    have e2 : (⟨o + p + 2, 0, x0⟩ : St) = shS o ⟨p + 2, 0, x0⟩ := by unfold shS; simp only [Nat.add_assoc]
    rw [e2, Job.R_sh (J := theJob b N d kind a c n (o + p)) ho, e1]
  · rw [if_neg h, if_neg (fun hh => h ⟨by omega, hh.2⟩)]; rfl
theorem posn_sh (o p d i : Nat) : posn (o + p) d i = o + posn p d i := by unfold posn; omega
theorem bodySt_sh {b : Nat → Bool} {o N : Nat} (ho : o ≤ N) (kind d n p : Nat) : bodySt b N kind d n (o + p) = (bodySt (shB b o) (N - o) kind d n p).map fun r => (r.1, o + r.2) := by
  unfold bodySt
  simp only [sgn_sh, posn_sh]
  by_cases h0 : kind = 0
  · rw [if_pos h0, if_pos h0]
    by_cases h : o + p + d ≤ N
    · rw [if_pos h, if_pos (by omega)]; simp only [Option.map_some, Nat.add_assoc]
    · rw [if_neg h, if_neg (by omega)]; rfl
  · rw [if_neg h0, if_neg h0]
    by_cases h1 : kind = 1
    · rw [if_pos h1, if_pos h1]
      by_cases h : o + posn p d n ≤ N
      · rw [if_pos h, if_pos (by omega)]; rfl
      · rw [if_neg h, if_neg (by omega)]; rfl
    · rw [if_neg h1, if_neg h1]
      by_cases h2 : 7 < kind ∨ n ≤ ord kind
      · rw [if_pos h2, if_pos h2]; rfl
      · rw [if_neg h2, if_neg h2]
        by_cases h : o + posn p d (ord kind) ≤ N
        · rw [if_pos h, if_pos (show posn p d (ord kind) ≤ N - o by omega)]
          by_cases h7 : kind = 7
          · rw [if_pos h7, if_pos h7]
            by_cases hh : o + posn p d (ord kind) + 12 ≤ N
            · rw [if_pos hh, if_pos (show posn p d (ord kind) + 12 ≤ N - o by omega), Nat.add_assoc o, Nat.add_assoc o, restsSt_sh ho]
              cases restsSt (shB b o) (N - o) d kind (sgn b (o + posn p d (ord kind)) 6) (sgn b (o + (posn p d (ord kind) + 6)) 6) n (posn p d (ord kind) + 12) (fun i => sgn b (o + posn p d i) d) <;> rfl
            · rw [if_neg hh, if_neg (show ¬ posn p d (ord kind) + 12 ≤ N - o by omega)]; rfl
          · rw [if_neg h7, if_neg h7, restsSt_sh ho]
            cases restsSt (shB b o) (N - o) d kind 0 0 n (posn p d (ord kind)) (fun i => sgn b (o + posn p d i) d) <;> rfl
        · rw [if_neg h, if_neg (show ¬ posn p d (ord kind) ≤ N - o by omega)]; rfl
/-- reading at a place of a longer text -/
def readAt (b : Nat → Bool) (N o width n : Nat) : Option ((Nat → Int) × Nat) :=
  if o + 8 ≤ N ∧ num b (o + 4) 4 < width then (bodySt b N (num b o 4) (width - num b (o + 4) 4) n (o + 8)).map fun xp => (fun i => xp.1 i * 2 ^ num b (o + 4) 4, xp.2) else none
theorem readAt_sh {b : Nat → Bool} {o N : Nat} (ho : o ≤ N) (width n : Nat) : readAt b N o width n = (readSt (shB b o) (N - o) width n).map fun r => (r.1, o + r.2) := by
  unfold readAt readSt
  rw [num_sh, num_sh, Nat.add_zero, bodySt_sh ho]
  by_cases h : o + 8 ≤ N ∧ num b (o + 4) 4 < width
  · rw [if_pos h, if_pos ⟨by omega, h.2⟩]
    cases bodySt (shB b o) (N - o) (num b o 4) (width - num b (o + 4) 4) n 8 <;> rfl
  · rw [if_neg h, if_neg (fun hh => h ⟨by omega, hh.2⟩)]; rfl
end Go.Proofs.YtlncjgnomhpjnaaGreatDoor

/-
  The document's reader: rests, walked.
-/
namespace Go.Proofs.YtlncjgnomhpjnaaGreatDoor
open Go.RowKit Go.Deep
set_option linter.unusedVariables false

theorem Job.R_count {J : Job} {s0 st : St} {i : Nat} (hR : J.R s0 i = some st) (hm : i % J.size = 0) : J.R s0 (i + 1) = (J.rdK st).bind (J.plc i) := by
  simp only [Job.R, hR, Option.bind_some, if_pos hm]
theorem Job.R_same {J : Job} {s0 st : St} {i : Nat} (hR : J.R s0 i = some st) (hm : ¬ i % J.size = 0) : J.R s0 (i + 1) = J.plc i st := by
  simp only [Job.R, hR, Option.bind_some, if_neg hm]
theorem CInv.cell {w wr : World} {B g : Nat} {s : ByteArray} {d n p : Nat} {bad : Bool} {x : Nat → Int} {len : Nat} (h : CInv w wr B g s d n p bad x len) {i : Nat} (hi : i < n) (hl : i < len) : wr.cell? ⟨g, i, none⟩ = some (.int .i64 (x i)) := by
  have := h.row.cell hi
  simpa [cutV, cutI, hl] using this

theorem row_at {w : World} {g : Nat} {t : TypeId} {n : Nat} {x : Nat → Int} {i : Nat} (h : w.rowIs g t n (cutV i x)) (hi : i < n) : w.cell? ⟨g, i, none⟩ = some (.int .i64 0) := by
  have := h.cell hi
  simpa [cutV, cutI] using this
theorem row_put {w : World} {g : Nat} {t : TypeId} {n : Nat} {V : Nat → Value} (h : w.rowIs g t n V) {i : Nat} (hi : i < n) (z : Int) : (w.setCell ⟨g, i, none⟩ (.int .i64 z)).cell? ⟨g, i, none⟩ = some (.int .i64 z) := by
  have := (h.set i (.int .i64 z)).cell hi
  simpa using this

set_option maxRecDepth 100000 in
set_option maxHeartbeats 4000000 in
theorem cRests_any (B g : Nat) (s : ByteArray) (b : Nat → Bool) (p d n kind : Nat) (bad : Bool) (x0 : Nat → Int) (w : World) (hs : s.size ≤ 80000) (hp : p ≤ s.size) (hd1 : 1 ≤ d) (hd : d ≤ 13) (hn : n ≤ 32) (h2 : 2 ≤ kind) (h7 : kind ≤ 7)
    (hC : Cu w B s p bad) (hb : Bits s b) (hrow : bad = false → w.rowIs g 3 n (cutV (ord kind) x0)) (hgB : g ≠ B) (hx0 : ∀ j, j < ord kind → fitsB d (x0 j) = true) (hon : ord kind < n) (hT : TabAt w 3) (hT3 : 3 < w.heap.size) (hB3 : B ≠ 3) (hg3 : g ≠ 3) :
    Calls Tryz.prog 186 #[.pointer (some ⟨B, 0, none⟩), .int .i64 kind, .int .i64 d, .slice (some ⟨g, 0, none⟩) n n] w fun e w' => CRestsOut e w w' B g s n (if bad then none else cRestsSt b s.size d kind n p x0) := by
  have ho := ord_le kind h2 h7
  generalize hoo : (if bad = true then none else cRestsSt b s.size d kind n p x0) = oo
  have HC := Hid.mk' hC
  have HB := Hid.mk' hb
  have HROW := Hid.mk' hrow
  have HX0 := Hid.mk' hx0
  have HT := Hid.mk' hT
  clear hC hb hrow hx0 hT
  by_cases h7' : kind = 7
  · have t7 : ((kind : Int) == 7) = true := by simp; omega
    obtain ⟨a, p1, b1, HS1, hp1, hS1⟩ := short_any B s b 6 hs (by omega) (by omega) HB.out p bad hp
    obtain ⟨c, p2, b2, HS2, hp2, hS2⟩ := short_any B s b 6 hs (by omega) (by omega) HB.out p1 b1 hp1
    obtain ⟨q, p3, b3, HQ, hp3, hQ⟩ := count_any B s b 2 hs (by omega) HB.out p2 b2 hp2
    have hHD : Head b s.size d kind n p bad x0 a c q p3 b3 oo := by subst h7'; exact head7 hp3 hS1 hS2 hQ hoo
    have ha : -32 ≤ a ∧ a ≤ 32 := by
      rcases hS1 with ⟨-, -, rfl, -, -⟩ | ⟨-, rfl, -⟩
      · exact sgn6 b p
      · omega
    have hc : -32 ≤ c ∧ c ≤ 32 := by
      rcases hS2 with ⟨-, -, rfl, -, -⟩ | ⟨-, rfl, -⟩
      · exact sgn6 b p1
      · omega
    clear hS1 hS2 hQ hoo h7'
    have HHD := Hid.mk' hHD
    have hq := hHD.q3
    clear hHD
    obtain ⟨P, hP⟩ : ∃ P : Nat, P = 2 ^ q := ⟨_, rfl⟩
    obtain ⟨sz, hsz⟩ : ∃ sz : Nat, sz = n / P := ⟨_, rfl⟩
    have hP1 : 1 ≤ P := by rw [hP]; exact Nat.two_pow_pos _
    have hP8 : P ≤ 8 := by rw [hP]; exact Nat.le_trans (Nat.pow_le_pow_right (by omega) hq) (by decide)
    have hP0 : ¬ (P : Int) = 0 := by omega
    have hszn : sz ≤ n := by rw [hsz]; exact Nat.div_le_self _ _
    have hszw : IntKind.i64.wrap ((n : Int) / (P : Int)) = (sz : Int) := by
      rw [show (n : Int) / (P : Int) = (sz : Int) by rw [hsz]; simp, IntKind.wrap_i64]
      omega
    have hmul : sz * P ≤ 32 := by have := Nat.div_mul_le_self n P; rw [← hsz] at this; omega
    have hmw : IntKind.i64.wrap ((sz : Int) * (P : Int)) = (sz : Int) * (P : Int) := by
      have : ((sz * P : Nat) : Int) = (sz : Int) * (P : Int) := by simp
      rw [IntKind.wrap_i64]; omega
    have HCB : Hid (cutB n (ord kind) q = (decide (sz * P = n) && decide (ord kind < sz))) := by
      show _ = _; rw [hsz, hP]; rfl
    have HPE := Hid.mk' hP
    have hPw : IntKind.i64.wrap ((2 : Int) ^ q) = (P : Int) := by
      rw [show ((2 : Int) ^ q) = (P : Int) by rw [hP]; simp, IntKind.wrap_i64]
      omega
    have HSZ := Hid.mk' hsz
    clear hP hsz
    cases b3 with
    | true =>
      go_enter Tryz.func186, Tryz.ntmps186
      go_wp2_with (first
        | (go_at_call 184; refine (cOrderOf_any kind _ h2 h7).mono ?_; rintro e w0 ⟨rfl, hw0⟩; subst w0)
        | (go_at_call 185; refine (HS1.out _ HC.out).mono ?_; rintro e u1 ⟨rfl, hC1, hG1⟩; clear HS1; have HC1 := Hid.mk' hC1; have HG1 := Hid.mk' hG1; clear hC1 hG1)
        | (go_at_call 185; refine (HS2.out _ HC1.out).mono ?_; rintro e u2 ⟨rfl, hC2, hG2⟩; clear HS2; have HC2 := Hid.mk' hC2; have HG := Hid.mk' (HG1.out.trans hG2); clear hC2 hG2)
        | (go_at_call 183; refine (HQ.out _ HC2.out).mono ?_; rintro e u3 ⟨rfl, hC3, hG3⟩; clear HQ; obtain ⟨cc0, cc1, cc2, ff1, ff2⟩ := hC3.cells; have HC3 := Hid.mk' hC3; have HG3 := Hid.mk' (HG.out.trans hG3); clear hC3 hG3))
      go_ret
      rw [HHD.out.no rfl]
      exact ⟨rfl, (ChgS.refl _ w).chg HG3.out (.inl (.inl rfl))⟩
    | false =>
      obtain ⟨hbad, J, hJ, hoj⟩ := HHD.out.yes rfl
      subst hbad
      rw [← HPE.out, ← HSZ.out] at hJ
      have HJ := Hid.mk' hJ
      have HOJ := Hid.mk' hoj
      clear hJ hoj HHD
      by_cases hm : sz * P = n
      · have tm : ((sz : Int) * (P : Int) != (n : Int)) = false := by
          have : ((sz * P : Nat) : Int) = (sz : Int) * (P : Int) := by simp
          simp; omega
        by_cases hlo : ord kind < sz
        · have tl : decide ((sz : Int) ≤ (ord kind : Int)) = false := decide_eq_false (by omega)
          have tlN : decide (sz ≤ ord kind) = false := decide_eq_false (by omega)
          have HOK : Hid (oo = J.R ⟨p3, 0, x0⟩ n) := by
            show _ = _
            rw [HOJ.out, HCB.out, if_pos (by simp [hm, hlo])]
          clear HOJ HCB
          go_enter Tryz.func186, Tryz.ntmps186
          go_wp2_with (first
            | (go_at_call 184; refine (cOrderOf_any kind _ h2 h7).mono ?_; rintro e w0 ⟨rfl, hw0⟩; subst w0)
            | (go_at_call 185; refine (HS1.out _ HC.out).mono ?_; rintro e u1 ⟨rfl, hC1, hG1⟩; clear HS1; have HC1 := Hid.mk' hC1; have HG1 := Hid.mk' hG1; clear hC1 hG1)
            | (go_at_call 185; refine (HS2.out _ HC1.out).mono ?_; rintro e u2 ⟨rfl, hC2, hG2⟩; clear HS2; have HC2 := Hid.mk' hC2; have HG := Hid.mk' (HG1.out.trans hG2); clear hC2 hG2)
            | (go_at_call 183; refine (HQ.out _ HC2.out).mono ?_; rintro e u3 ⟨rfl, hC3, hG3⟩; clear HQ; obtain ⟨cc0, cc1, cc2, ff1, ff2⟩ := hC3.cells; have HC3 := Hid.mk' hC3; have HG3 := Hid.mk' (HG.out.trans hG3); clear hC3 hG3))
          have HI0 : Hid (CInv w u3 B g s d n p3 false x0 (ord kind)) := ⟨HG3.out.row (HROW.out (by first | rfl | trivial)) hgB, HC3.out, (ChgS.refl _ w).chg HG3.out (.inl (.inl rfl)), hp3, HX0.out⟩
          clear cc0 cc1 cc2 ff1 ff2 HC3 HG3
          go_loopw [14, 15, 16, 17, 18] (fun kv iv _ _ _ wr => ∃ i k : Nat, i ≤ n ∧ k ≤ 14 ∧ iv = .int .i64 i ∧ kv = .int .i64 k ∧ Hid (∃ st : St, J.R ⟨p3, 0, x0⟩ i = some st ∧ st.k = k ∧ CInv w wr B g s d n st.p false st.x (max i (ord kind)))) (fun _ iv _ _ _ _ => n - (intOf iv).toNat)
          case atStart => exact ⟨0, 0, by omega, by omega, rfl, rfl, ⟨p3, 0, x0⟩, rfl, rfl, by rw [show max 0 (ord kind) = ord kind by omega]; exact HI0.out⟩
          case round =>
            clear HI0
            obtain ⟨i, k, hi, hk, rfl, rfl, HX⟩ := hrel
            obtain ⟨st, hst, hstk, hI⟩ := HX.out
            have HST := Hid.mk' hst
            have HSTK := Hid.mk' hstk
            have HI := Hid.mk' hI
            have hstp := hI.p
            clear hst hstk hI HX
            by_cases hin : i < n
            · have hsz1 : ¬ (sz : Int) = 0 := by omega
              have HNONE : Hid (J.R ⟨p3, 0, x0⟩ (i + 1) = none → oo = none) := fun h => HOK.out.trans (J.R_none _ h (by omega))
              have hcast : ((i % sz : Nat) : Int) = (i : Int) % (sz : Int) := by simp
              by_cases hmod : i % sz = 0
              · have tmod : ((i : Int) % (sz : Int) == 0) = true := by rw [← hcast, hmod]; rfl
                have HM := Hid.mk' hmod
                clear hcast hmod
                obtain ⟨k1, pK, bK, HK, hpK, hK⟩ := count_any B s b 4 hs (by omega) HB.out st.p false hstp
                by_cases hk1 : k1 ≤ 14
                · have tk : decide ((14 : Int) < (k1 : Int)) = false := decide_eq_false (by omega)
                  have HNX : Hid (bK = true → J.R ⟨p3, 0, x0⟩ (i + 1) = none) := fun e => by
                    rw [J.R_count HST.out (by rw [HJ.out.2.2.2.2.2.2]; exact HM.out)]
                    rcases hK with ⟨-, -, -, -, h⟩ | ⟨h, -, -⟩
                    · rw [e] at h; cases h
                    · unfold Job.rdK
                      rw [if_neg]
                      · rfl
                      · intro h3; rw [HJ.out.2.1] at h3; exact h ⟨rfl, h3.1⟩
                  have HNY : Hid (bK = false → J.R ⟨p3, 0, x0⟩ (i + 1) = J.plc i ⟨pK, k1, st.x⟩) := fun e => by
                    rw [J.R_count HST.out (by rw [HJ.out.2.2.2.2.2.2]; exact HM.out)]
                    rcases hK with ⟨-, h4, hk4, hp4, h⟩ | ⟨-, -, h⟩
                    · unfold Job.rdK
                      rw [if_pos ⟨by rw [HJ.out.2.1]; exact h4, by rw [HJ.out.1, ← hk4]; exact hk1⟩, HJ.out.1, ← hk4, ← hp4]
                      rfl
                    · rw [e] at h; cases h
                  clear hK
                  by_cases hio : i < ord kind
                  · have tio : decide ((ord kind : Int) ≤ (i : Int)) = false := decide_eq_false (by omega)
                    have hfx : fitsB d (st.x i) = true := HI.out.fits i (by omega)
                    cases bK with
                    | true =>
                      go_wp2_with (first
                        | (go_at_call 183; refine (HK.out _ HI.out.cu).mono ?_; rintro e u1 ⟨rfl, hC1, hG1⟩; clear HK; have HI1 := Hid.mk' (HI.out.chgB hG1 hC1 hpK hgB); clear hC1 hG1; obtain ⟨cc0, cc1, cc2, ff1, ff2⟩ := HI1.out.cu.cells; have hcx := HI1.out.cell hin (by omega))
                        | (go_at_call 108; refine (cFits_any d _ _ hd1 hd).mono ?_; rintro e w0 ⟨rfl, hw0⟩; subst w0; rw [hfx]))
                      go_ret
                      rw [HNONE.out (HNX.out (by first | rfl | trivial))]
                      exact ⟨rfl, HI1.out.chg⟩
                    | false =>
                      go_wp2_with (first
                        | (go_at_call 183; refine (HK.out _ HI.out.cu).mono ?_; rintro e u1 ⟨rfl, hC1, hG1⟩; clear HK; have HI1 := Hid.mk' (HI.out.chgB hG1 hC1 hpK hgB); clear hC1 hG1; obtain ⟨cc0, cc1, cc2, ff1, ff2⟩ := HI1.out.cu.cells; have hcx := HI1.out.cell hin (by omega))
                        | (go_at_call 108; refine (cFits_any d _ _ hd1 hd).mono ?_; rintro e w0 ⟨rfl, hw0⟩; subst w0; rw [hfx]))
                      go_roundw
                      case rel =>
                        refine ⟨i + 1, k1, by omega, hk1, by go_num, rfl, ⟨pK, k1, st.x⟩, ?_, rfl, ?_⟩
                        · rw [HNY.out (by first | rfl | trivial)]; unfold Job.plc; rw [if_pos (by rw [HJ.out.2.2.2.1]; exact hio)]
                        · rw [show max (i + 1) (ord kind) = max i (ord kind) by omega]; exact HI1.out
                      case measure => simp [intOf]; omega
                  · have tio : decide ((ord kind : Int) ≤ (i : Int)) = true := decide_eq_true (by omega)
                    have tioN : decide (ord kind ≤ i) = true := decide_eq_true (by omega)
                    rw [show max i (ord kind) = i by omega] at HI
                    have HX4 : Hid (∀ j, j < i → -4096 ≤ st.x j ∧ st.x j ≤ 4096) := fun j hj => fits_bd (HI.out.fits j hj) hd
                    obtain ⟨G, hG⟩ : ∃ G, G = guessG kind a c st.x i := ⟨_, rfl⟩
                    have hGb : -524288 ≤ G ∧ G ≤ 524288 := by rw [hG]; exact guessG_bd h2 h7 ha hc HX4.out (by omega)
                    have HGU : Hid (∀ u : World, u.rowIs g 3 n (cutV i st.x) → TabAt u 3 → Calls Tryz.prog 196 #[.int .i64 kind, .int .i64 a, .int .i64 c, .slice (some ⟨g, 0, none⟩) n n, .int .i64 i] u fun e w' => e = .returned (.int .i64 G) ∧ ∃ m, w' = u.drewN m) := fun u hu hTu => by
                      rw [hG]; exact cGuess_any kind a c g n i i st.x u h2 h7 ha hc hn hin (by omega) HX4.out hu (Nat.le_refl _) hTu
                    have HGE := Hid.mk' hG
                    clear hG
                    have HRI0 := Hid.mk' (fun (u : World) (hu : Cu u B s pK bK) => cRice_any B s b pK k1 bK u hs hpK hk1 hu HB.out)
                    generalize hro : (if bK = true then none else rice b s.size k1 pK) = ro at HRI0
                    cases ro with
                    | none =>
                      have HRI : Hid (∀ u : World, Cu u B s pK bK → Calls Tryz.prog 208 #[.pointer (some ⟨B, 0, none⟩), .int .i64 k1] u fun e u' => ∃ v p', e = .returned (.int .i64 v) ∧ (-1400000000 ≤ v ∧ v ≤ 1400000000) ∧ p' ≤ s.size ∧ Cu u' B s p' true ∧ Chg B u u') := HRI0.out
                      have HNO : Hid (J.R ⟨p3, 0, x0⟩ (i + 1) = none) := by
                        show _ = _
                        cases bK with
                        | true => exact HNX.out (by first | rfl | trivial)
                        | false =>
                          rw [HNY.out (by first | rfl | trivial)]
                          rw [if_neg (by simp)] at hro
                          obtain ⟨j1, j2, j3, j4, j5, j6, j7⟩ := HJ.out
                          exact Job.plc_none (by rw [j4]; exact hio) (by rw [j1, j2]; exact hro)
                      clear HRI0 hro HNX HNY
                      go_wp2_with (first
                        | (go_at_call 183; refine (HK.out _ HI.out.cu).mono ?_; rintro e u1 ⟨rfl, hC1, hG1⟩; clear HK; have HI1 := Hid.mk' (HI.out.chgB hG1 hC1 hpK hgB); clear hC1 hG1)
                        | (go_at_call 208; refine (HRI.out _ HI1.out.cu).mono ?_; rintro e u2 ⟨v, pR, rfl, hv, hpR, hC2, hG2⟩; clear HRI; have HI2 := Hid.mk' (HI1.out.chgB hG2 hC2 hpR hgB); clear hC2 hG2)
                        | (go_at_call 196; refine (HGU.out _ HI2.out.row (HI2.out.chg.tab HT.out hT3 (by omega))).mono ?_; rintro e w0 ⟨rfl, m, hw0⟩; subst w0; have hfr := HI2.out.row.frozen i; have hc0 := row_at HI2.out.row hin; have tz : IntKind.i64.wrap (G + v) = G + v := (by rw [IntKind.wrap_i64]; omega); have hcell := row_put (HI2.out.drewN m).row hin (G + v); have hbadc := (((Chg.refl g _).set i (.int .i64 (G + v))).cu (HI2.out.drewN m).cu (Ne.symm hgB)).cells.2.2.1)
                        | (go_at_call 108; refine (cFits_any d _ _ hd1 hd).mono ?_; rintro e w0 ⟨rfl, hw0⟩; subst w0))
                      all_goals
                        go_ret
                        rw [HNONE.out HNO.out]
                        exact ⟨rfl, (HI2.out.drewN m).chg.chg ((Chg.refl g _).set i _) (.inl (.inr rfl))⟩
                    | some vp =>
                      obtain ⟨v, pR⟩ := vp
                      have hbK : bK = false := by
                        cases bK with
                        | false => rfl
                        | true => simp at hro
                      subst hbK
                      rw [if_neg (by simp)] at hro
                      have HRI : Hid (∀ u : World, Cu u B s pK false → Calls Tryz.prog 208 #[.pointer (some ⟨B, 0, none⟩), .int .i64 k1] u fun e u' => e = .returned (.int .i64 v) ∧ Cu u' B s pR false ∧ Chg B u u') := HRI0.out
                      obtain ⟨hv, -, hpR⟩ := rice_bd hro hs hk1
                      have HRO := Hid.mk' hro
                      clear HRI0 hro HNX
                      cases hfz : fitsB d (G + v) with
                      | true =>
                        have HFZ := Hid.mk' hfz
                        have HNO : Hid (J.R ⟨p3, 0, x0⟩ (i + 1) = some ⟨pR, k1, updI st.x i (G + v)⟩) := by
                          show _ = _
                          rw [HNY.out (by first | rfl | trivial)]
                          obtain ⟨j1, j2, j3, j4, j5, j6, j7⟩ := HJ.out
                          have e := HGE.out
                          rw [Job.plc_yes (v := v) (p' := pR) (by rw [j4]; exact hio) (by rw [j1, j2]; exact HRO.out) (by rw [j3, j4, j5, j6, ← e]; exact hfz), j4, j5, j6, ← e]
                        clear HNY
                        go_wp2_with (first
                          | (go_at_call 183; refine (HK.out _ HI.out.cu).mono ?_; rintro e u1 ⟨rfl, hC1, hG1⟩; clear HK; have HI1 := Hid.mk' (HI.out.chgB hG1 hC1 hpK hgB); clear hC1 hG1)
                          | (go_at_call 208; refine (HRI.out _ HI1.out.cu).mono ?_; rintro e u2 ⟨rfl, hC2, hG2⟩; clear HRI; have HI2 := Hid.mk' (HI1.out.chgB hG2 hC2 hpR hgB); clear hC2 hG2)
                          | (go_at_call 196; refine (HGU.out _ HI2.out.row (HI2.out.chg.tab HT.out hT3 (by omega))).mono ?_; rintro e w0 ⟨rfl, m, hw0⟩; subst w0; have hfr := HI2.out.row.frozen i; have hc0 := row_at HI2.out.row hin; have tz : IntKind.i64.wrap (G + v) = G + v := (by rw [IntKind.wrap_i64]; omega); have hcell := row_put (HI2.out.drewN m).row hin (G + v); have hbadc := (((Chg.refl g _).set i (.int .i64 (G + v))).cu (HI2.out.drewN m).cu (Ne.symm hgB)).cells.2.2.1)
                          | (go_at_call 108; refine (cFits_any d _ _ hd1 hd).mono ?_; rintro e w0 ⟨rfl, hw0⟩; subst w0; rw [hfz]))
                        go_roundw
                        case rel =>
                          refine ⟨i + 1, k1, by omega, hk1, by go_num, rfl, _, HNO.out, rfl, ?_⟩
                          rw [show max (i + 1) (ord kind) = i + 1 by omega]
                          exact (HI2.out.drewN m).put (G + v) HFZ.out hgB
                        case measure => simp [intOf]; omega
                      | false =>
                        have HNO : Hid (J.R ⟨p3, 0, x0⟩ (i + 1) = none) := by
                          show _ = _
                          rw [HNY.out (by first | rfl | trivial)]
                          obtain ⟨j1, j2, j3, j4, j5, j6, j7⟩ := HJ.out
                          have e := HGE.out
                          exact Job.plc_no (v := v) (p' := pR) (by rw [j4]; exact hio) (by rw [j1, j2]; exact HRO.out) (by rw [j3, j4, j5, j6, ← e]; exact hfz)
                        clear HNY
                        go_wp2_with (first
                          | (go_at_call 183; refine (HK.out _ HI.out.cu).mono ?_; rintro e u1 ⟨rfl, hC1, hG1⟩; clear HK; have HI1 := Hid.mk' (HI.out.chgB hG1 hC1 hpK hgB); clear hC1 hG1)
                          | (go_at_call 208; refine (HRI.out _ HI1.out.cu).mono ?_; rintro e u2 ⟨rfl, hC2, hG2⟩; clear HRI; have HI2 := Hid.mk' (HI1.out.chgB hG2 hC2 hpR hgB); clear hC2 hG2)
                          | (go_at_call 196; refine (HGU.out _ HI2.out.row (HI2.out.chg.tab HT.out hT3 (by omega))).mono ?_; rintro e w0 ⟨rfl, m, hw0⟩; subst w0; have hfr := HI2.out.row.frozen i; have hc0 := row_at HI2.out.row hin; have tz : IntKind.i64.wrap (G + v) = G + v := (by rw [IntKind.wrap_i64]; omega); have hcell := row_put (HI2.out.drewN m).row hin (G + v); have hbadc := (((Chg.refl g _).set i (.int .i64 (G + v))).cu (HI2.out.drewN m).cu (Ne.symm hgB)).cells.2.2.1)
                          | (go_at_call 108; refine (cFits_any d _ _ hd1 hd).mono ?_; rintro e w0 ⟨rfl, hw0⟩; subst w0; rw [hfz]))
                        go_ret
                        rw [HNONE.out HNO.out]
                        exact ⟨rfl, (HI2.out.drewN m).chg.chg ((Chg.refl g _).set i _) (.inl (.inr rfl))⟩
                · have tk : decide ((14 : Int) < (k1 : Int)) = true := decide_eq_true (by omega)
                  have HNO : Hid (J.R ⟨p3, 0, x0⟩ (i + 1) = none) := by
                    show _ = _
                    rw [J.R_count HST.out (by rw [HJ.out.2.2.2.2.2.2]; exact HM.out)]
                    unfold Job.rdK
                    rw [if_neg]
                    · rfl
                    · intro h3
                      rw [HJ.out.1] at h3
                      rcases hK with ⟨-, -, h, -, -⟩ | ⟨-, h, -⟩ <;> omega
                  clear hK
                  go_wp2_with (go_at_call 183; refine (HK.out _ HI.out.cu).mono ?_; rintro e u1 ⟨rfl, hC1, hG1⟩; clear HK; have HI1 := Hid.mk' (HI.out.chgB hG1 hC1 hpK hgB); clear hC1 hG1)
                  go_ret
                  rw [HNONE.out HNO.out]
                  exact ⟨rfl, HI1.out.chg⟩
              · have tmod : ((i : Int) % (sz : Int) == 0) = false := by rw [← hcast]; simp; omega
                have HM := Hid.mk' hmod
                clear hcast hmod
                have HNY : Hid (J.R ⟨p3, 0, x0⟩ (i + 1) = J.plc i ⟨st.p, k, st.x⟩) := by
                  show _ = _
                  rw [J.R_same HST.out (by rw [HJ.out.2.2.2.2.2.2]; exact HM.out), ← HSTK.out]
                by_cases hio : i < ord kind
                · have tio : decide ((ord kind : Int) ≤ (i : Int)) = false := decide_eq_false (by omega)
                  have hfx : fitsB d (st.x i) = true := HI.out.fits i (by omega)
                  have HI1 := HI
                  obtain ⟨cc0, cc1, cc2, ff1, ff2⟩ := HI1.out.cu.cells
                  have hcx := HI1.out.cell hin (by omega)
                  go_wp2_with (first
                    | (go_at_call 108; refine (cFits_any d _ _ hd1 hd).mono ?_; rintro e w0 ⟨rfl, hw0⟩; subst w0; rw [hfx]))
                  go_roundw
                  case rel =>
                    refine ⟨i + 1, k, by omega, hk, by go_num, rfl, ⟨st.p, k, st.x⟩, ?_, rfl, ?_⟩
                    · rw [HNY.out]; unfold Job.plc; rw [if_pos (by rw [HJ.out.2.2.2.1]; exact hio)]
                    · rw [show max (i + 1) (ord kind) = max i (ord kind) by omega]; exact HI1.out
                  case measure => simp [intOf]; omega
                · have tio : decide ((ord kind : Int) ≤ (i : Int)) = true := decide_eq_true (by omega)
                  have tioN : decide (ord kind ≤ i) = true := decide_eq_true (by omega)
                  rw [show max i (ord kind) = i by omega] at HI
                  have HI1 := HI
                  have HX4 : Hid (∀ j, j < i → -4096 ≤ st.x j ∧ st.x j ≤ 4096) := fun j hj => fits_bd (HI.out.fits j hj) hd
                  obtain ⟨G, hG⟩ : ∃ G, G = guessG kind a c st.x i := ⟨_, rfl⟩
                  have hGb : -524288 ≤ G ∧ G ≤ 524288 := by rw [hG]; exact guessG_bd h2 h7 ha hc HX4.out (by omega)
                  have HGU : Hid (∀ u : World, u.rowIs g 3 n (cutV i st.x) → TabAt u 3 → Calls Tryz.prog 196 #[.int .i64 kind, .int .i64 a, .int .i64 c, .slice (some ⟨g, 0, none⟩) n n, .int .i64 i] u fun e w' => e = .returned (.int .i64 G) ∧ ∃ m, w' = u.drewN m) := fun u hu hTu => by
                    rw [hG]; exact cGuess_any kind a c g n i i st.x u h2 h7 ha hc hn hin (by omega) HX4.out hu (Nat.le_refl _) hTu
                  have HGE := Hid.mk' hG
                  clear hG
                  have HRI0 := Hid.mk' (fun (u : World) (hu : Cu u B s st.p false) => cRice_any B s b st.p k false u hs hstp hk hu HB.out)
                  generalize hro : (if false = true then none else rice b s.size k st.p) = ro at HRI0
                  cases ro with
                  | none =>
                    have HRI : Hid (∀ u : World, Cu u B s st.p false → Calls Tryz.prog 208 #[.pointer (some ⟨B, 0, none⟩), .int .i64 k] u fun e u' => ∃ v p', e = .returned (.int .i64 v) ∧ (-1400000000 ≤ v ∧ v ≤ 1400000000) ∧ p' ≤ s.size ∧ Cu u' B s p' true ∧ Chg B u u') := HRI0.out
                    have HNO : Hid (J.R ⟨p3, 0, x0⟩ (i + 1) = none) := by
                      show _ = _
                      rw [HNY.out]
                      rw [if_neg (by simp)] at hro
                      obtain ⟨j1, j2, j3, j4, j5, j6, j7⟩ := HJ.out
                      exact Job.plc_none (by rw [j4]; exact hio) (by rw [j1, j2]; exact hro)
                    clear HRI0 hro HNY
                    go_wp2_with (first
                      | (go_at_call 208; refine (HRI.out _ HI1.out.cu).mono ?_; rintro e u2 ⟨v, pR, rfl, hv, hpR, hC2, hG2⟩; clear HRI; have HI2 := Hid.mk' (HI1.out.chgB hG2 hC2 hpR hgB); clear hC2 hG2)
                      | (go_at_call 196; refine (HGU.out _ HI2.out.row (HI2.out.chg.tab HT.out hT3 (by omega))).mono ?_; rintro e w0 ⟨rfl, m, hw0⟩; subst w0; have hfr := HI2.out.row.frozen i; have hc0 := row_at HI2.out.row hin; have tz : IntKind.i64.wrap (G + v) = G + v := (by rw [IntKind.wrap_i64]; omega); have hcell := row_put (HI2.out.drewN m).row hin (G + v); have hbadc := (((Chg.refl g _).set i (.int .i64 (G + v))).cu (HI2.out.drewN m).cu (Ne.symm hgB)).cells.2.2.1)
                      | (go_at_call 108; refine (cFits_any d _ _ hd1 hd).mono ?_; rintro e w0 ⟨rfl, hw0⟩; subst w0))
                    all_goals
                      go_ret
                      rw [HNONE.out HNO.out]
                      exact ⟨rfl, (HI2.out.drewN m).chg.chg ((Chg.refl g _).set i _) (.inl (.inr rfl))⟩
                  | some vp =>
                    obtain ⟨v, pR⟩ := vp
                    rw [if_neg (by simp)] at hro
                    have HRI : Hid (∀ u : World, Cu u B s st.p false → Calls Tryz.prog 208 #[.pointer (some ⟨B, 0, none⟩), .int .i64 k] u fun e u' => e = .returned (.int .i64 v) ∧ Cu u' B s pR false ∧ Chg B u u') := HRI0.out
                    obtain ⟨hv, -, hpR⟩ := rice_bd hro hs hk
                    have HRO := Hid.mk' hro
                    clear HRI0 hro
                    cases hfz : fitsB d (G + v) with
                    | true =>
                      have HFZ := Hid.mk' hfz
                      have HNO : Hid (J.R ⟨p3, 0, x0⟩ (i + 1) = some ⟨pR, k, updI st.x i (G + v)⟩) := by
                        show _ = _
                        rw [HNY.out]
                        obtain ⟨j1, j2, j3, j4, j5, j6, j7⟩ := HJ.out
                        have e := HGE.out
                        rw [Job.plc_yes (v := v) (p' := pR) (by rw [j4]; exact hio) (by rw [j1, j2]; exact HRO.out) (by rw [j3, j4, j5, j6, ← e]; exact hfz), j4, j5, j6, ← e]
                      clear HNY
                      go_wp2_with (first
                        | (go_at_call 208; refine (HRI.out _ HI1.out.cu).mono ?_; rintro e u2 ⟨rfl, hC2, hG2⟩; clear HRI; have HI2 := Hid.mk' (HI1.out.chgB hG2 hC2 hpR hgB); clear hC2 hG2)
                        | (go_at_call 196; refine (HGU.out _ HI2.out.row (HI2.out.chg.tab HT.out hT3 (by omega))).mono ?_; rintro e w0 ⟨rfl, m, hw0⟩; subst w0; have hfr := HI2.out.row.frozen i; have hc0 := row_at HI2.out.row hin; have tz : IntKind.i64.wrap (G + v) = G + v := (by rw [IntKind.wrap_i64]; omega); have hcell := row_put (HI2.out.drewN m).row hin (G + v); have hbadc := (((Chg.refl g _).set i (.int .i64 (G + v))).cu (HI2.out.drewN m).cu (Ne.symm hgB)).cells.2.2.1)
                        | (go_at_call 108; refine (cFits_any d _ _ hd1 hd).mono ?_; rintro e w0 ⟨rfl, hw0⟩; subst w0; rw [hfz]))
                      go_roundw
                      case rel =>
                        refine ⟨i + 1, k, by omega, hk, by go_num, rfl, _, HNO.out, rfl, ?_⟩
                        rw [show max (i + 1) (ord kind) = i + 1 by omega]
                        exact (HI2.out.drewN m).put (G + v) HFZ.out hgB
                      case measure => simp [intOf]; omega
                    | false =>
                      have HNO : Hid (J.R ⟨p3, 0, x0⟩ (i + 1) = none) := by
                        show _ = _
                        rw [HNY.out]
                        obtain ⟨j1, j2, j3, j4, j5, j6, j7⟩ := HJ.out
                        have e := HGE.out
                        exact Job.plc_no (v := v) (p' := pR) (by rw [j4]; exact hio) (by rw [j1, j2]; exact HRO.out) (by rw [j3, j4, j5, j6, ← e]; exact hfz)
                      clear HNY
                      go_wp2_with (first
                        | (go_at_call 208; refine (HRI.out _ HI1.out.cu).mono ?_; rintro e u2 ⟨rfl, hC2, hG2⟩; clear HRI; have HI2 := Hid.mk' (HI1.out.chgB hG2 hC2 hpR hgB); clear hC2 hG2)
                        | (go_at_call 196; refine (HGU.out _ HI2.out.row (HI2.out.chg.tab HT.out hT3 (by omega))).mono ?_; rintro e w0 ⟨rfl, m, hw0⟩; subst w0; have hfr := HI2.out.row.frozen i; have hc0 := row_at HI2.out.row hin; have tz : IntKind.i64.wrap (G + v) = G + v := (by rw [IntKind.wrap_i64]; omega); have hcell := row_put (HI2.out.drewN m).row hin (G + v); have hbadc := (((Chg.refl g _).set i (.int .i64 (G + v))).cu (HI2.out.drewN m).cu (Ne.symm hgB)).cells.2.2.1)
                        | (go_at_call 108; refine (cFits_any d _ _ hd1 hd).mono ?_; rintro e w0 ⟨rfl, hw0⟩; subst w0; rw [hfz]))
                      go_ret
                      rw [HNONE.out HNO.out]
                      exact ⟨rfl, (HI2.out.drewN m).chg.chg ((Chg.refl g _).set i _) (.inl (.inr rfl))⟩
            · have e : i = n := by omega
              subst e
              go_wp2
              go_ret
              rw [HOK.out, HST.out]
              refine ⟨rfl, ?_, HI.out.cu, HI.out.chg⟩
              have := HI.out.row
              rw [show max i (ord kind) = i by omega] at this
              exact this
        · have tl : decide ((sz : Int) ≤ (ord kind : Int)) = true := decide_eq_true (by omega)
          have HNO : Hid (oo = none) := by
            show _ = _
            rw [HOJ.out, HCB.out, if_neg (by simp [hlo])]
          go_enter Tryz.func186, Tryz.ntmps186
          go_wp2_with (first
            | (go_at_call 184; refine (cOrderOf_any kind _ h2 h7).mono ?_; rintro e w0 ⟨rfl, hw0⟩; subst w0)
            | (go_at_call 185; refine (HS1.out _ HC.out).mono ?_; rintro e u1 ⟨rfl, hC1, hG1⟩; clear HS1; have HC1 := Hid.mk' hC1; have HG1 := Hid.mk' hG1; clear hC1 hG1)
            | (go_at_call 185; refine (HS2.out _ HC1.out).mono ?_; rintro e u2 ⟨rfl, hC2, hG2⟩; clear HS2; have HC2 := Hid.mk' hC2; have HG := Hid.mk' (HG1.out.trans hG2); clear hC2 hG2)
            | (go_at_call 183; refine (HQ.out _ HC2.out).mono ?_; rintro e u3 ⟨rfl, hC3, hG3⟩; clear HQ; obtain ⟨cc0, cc1, cc2, ff1, ff2⟩ := hC3.cells; have HC3 := Hid.mk' hC3; have HG3 := Hid.mk' (HG.out.trans hG3); clear hC3 hG3))
          go_ret
          rw [HNO.out]
          exact ⟨rfl, (ChgS.refl _ w).chg HG3.out (.inl (.inl rfl))⟩
      · have tm : ((sz : Int) * (P : Int) != (n : Int)) = true := by
          have : ((sz * P : Nat) : Int) = (sz : Int) * (P : Int) := by simp
          simp; omega
        have HNO : Hid (oo = none) := by
          show _ = _
          rw [HOJ.out, HCB.out, if_neg (by simp [hm])]
        go_enter Tryz.func186, Tryz.ntmps186
        go_wp2_with (first
          | (go_at_call 184; refine (cOrderOf_any kind _ h2 h7).mono ?_; rintro e w0 ⟨rfl, hw0⟩; subst w0)
          | (go_at_call 185; refine (HS1.out _ HC.out).mono ?_; rintro e u1 ⟨rfl, hC1, hG1⟩; clear HS1; have HC1 := Hid.mk' hC1; have HG1 := Hid.mk' hG1; clear hC1 hG1)
          | (go_at_call 185; refine (HS2.out _ HC1.out).mono ?_; rintro e u2 ⟨rfl, hC2, hG2⟩; clear HS2; have HC2 := Hid.mk' hC2; have HG := Hid.mk' (HG1.out.trans hG2); clear hC2 hG2)
          | (go_at_call 183; refine (HQ.out _ HC2.out).mono ?_; rintro e u3 ⟨rfl, hC3, hG3⟩; clear HQ; obtain ⟨cc0, cc1, cc2, ff1, ff2⟩ := hC3.cells; have HC3 := Hid.mk' hC3; have HG3 := Hid.mk' (HG.out.trans hG3); clear hC3 hG3))
        go_ret
        rw [HNO.out]
        exact ⟨rfl, (ChgS.refl _ w).chg HG3.out (.inl (.inl rfl))⟩
  · have t7 : ((kind : Int) == 7) = false := by simp; omega
    obtain ⟨q, p3, b3, HQ, hp3, hQ⟩ := count_any B s b 2 hs (by omega) HB.out p bad hp
    have hHD : Head b s.size d kind n p bad x0 0 0 q p3 b3 oo := headF h7' hp3 hQ hoo
    have HC2 := HC
    have HG := Hid.mk' (Chg.refl B w)
    have ha : -32 ≤ (0 : Int) ∧ (0 : Int) ≤ 32 := by omega
    have hc : -32 ≤ (0 : Int) ∧ (0 : Int) ≤ 32 := by omega
    clear hQ hoo h7'
    have HHD := Hid.mk' hHD
    have hq := hHD.q3
    clear hHD
    obtain ⟨P, hP⟩ : ∃ P : Nat, P = 2 ^ q := ⟨_, rfl⟩
    obtain ⟨sz, hsz⟩ : ∃ sz : Nat, sz = n / P := ⟨_, rfl⟩
    have hP1 : 1 ≤ P := by rw [hP]; exact Nat.two_pow_pos _
    have hP8 : P ≤ 8 := by rw [hP]; exact Nat.le_trans (Nat.pow_le_pow_right (by omega) hq) (by decide)
    have hP0 : ¬ (P : Int) = 0 := by omega
    have hszn : sz ≤ n := by rw [hsz]; exact Nat.div_le_self _ _
    have hszw : IntKind.i64.wrap ((n : Int) / (P : Int)) = (sz : Int) := by
      rw [show (n : Int) / (P : Int) = (sz : Int) by rw [hsz]; simp, IntKind.wrap_i64]
      omega
    have hmul : sz * P ≤ 32 := by have := Nat.div_mul_le_self n P; rw [← hsz] at this; omega
    have hmw : IntKind.i64.wrap ((sz : Int) * (P : Int)) = (sz : Int) * (P : Int) := by
      have : ((sz * P : Nat) : Int) = (sz : Int) * (P : Int) := by simp
      rw [IntKind.wrap_i64]; omega
    have HCB : Hid (cutB n (ord kind) q = (decide (sz * P = n) && decide (ord kind < sz))) := by
      show _ = _; rw [hsz, hP]; rfl
    have HPE := Hid.mk' hP
    have hPw : IntKind.i64.wrap ((2 : Int) ^ q) = (P : Int) := by
      rw [show ((2 : Int) ^ q) = (P : Int) by rw [hP]; simp, IntKind.wrap_i64]
      omega
    have HSZ := Hid.mk' hsz
    clear hP hsz
    cases b3 with
    | true =>
      go_enter Tryz.func186, Tryz.ntmps186
      go_wp2_with (first
        | (go_at_call 184; refine (cOrderOf_any kind _ h2 h7).mono ?_; rintro e w0 ⟨rfl, hw0⟩; subst w0)
        | (go_at_call 185; refine (HS1.out _ HC.out).mono ?_; rintro e u1 ⟨rfl, hC1, hG1⟩; clear HS1; have HC1 := Hid.mk' hC1; have HG1 := Hid.mk' hG1; clear hC1 hG1)
        | (go_at_call 185; refine (HS2.out _ HC1.out).mono ?_; rintro e u2 ⟨rfl, hC2, hG2⟩; clear HS2; have HC2 := Hid.mk' hC2; have HG := Hid.mk' (HG1.out.trans hG2); clear hC2 hG2)
        | (go_at_call 183; refine (HQ.out _ HC2.out).mono ?_; rintro e u3 ⟨rfl, hC3, hG3⟩; clear HQ; obtain ⟨cc0, cc1, cc2, ff1, ff2⟩ := hC3.cells; have HC3 := Hid.mk' hC3; have HG3 := Hid.mk' (HG.out.trans hG3); clear hC3 hG3))
      go_ret
      rw [HHD.out.no rfl]
      exact ⟨rfl, (ChgS.refl _ w).chg HG3.out (.inl (.inl rfl))⟩
    | false =>
      obtain ⟨hbad, J, hJ, hoj⟩ := HHD.out.yes rfl
      subst hbad
      rw [← HPE.out, ← HSZ.out] at hJ
      have HJ := Hid.mk' hJ
      have HOJ := Hid.mk' hoj
      clear hJ hoj HHD
      by_cases hm : sz * P = n
      · have tm : ((sz : Int) * (P : Int) != (n : Int)) = false := by
          have : ((sz * P : Nat) : Int) = (sz : Int) * (P : Int) := by simp
          simp; omega
        by_cases hlo : ord kind < sz
        · have tl : decide ((sz : Int) ≤ (ord kind : Int)) = false := decide_eq_false (by omega)
          have tlN : decide (sz ≤ ord kind) = false := decide_eq_false (by omega)
          have HOK : Hid (oo = J.R ⟨p3, 0, x0⟩ n) := by
            show _ = _
            rw [HOJ.out, HCB.out, if_pos (by simp [hm, hlo])]
          clear HOJ HCB
          go_enter Tryz.func186, Tryz.ntmps186
          go_wp2_with (first
            | (go_at_call 184; refine (cOrderOf_any kind _ h2 h7).mono ?_; rintro e w0 ⟨rfl, hw0⟩; subst w0)
            | (go_at_call 185; refine (HS1.out _ HC.out).mono ?_; rintro e u1 ⟨rfl, hC1, hG1⟩; clear HS1; have HC1 := Hid.mk' hC1; have HG1 := Hid.mk' hG1; clear hC1 hG1)
            | (go_at_call 185; refine (HS2.out _ HC1.out).mono ?_; rintro e u2 ⟨rfl, hC2, hG2⟩; clear HS2; have HC2 := Hid.mk' hC2; have HG := Hid.mk' (HG1.out.trans hG2); clear hC2 hG2)
            | (go_at_call 183; refine (HQ.out _ HC2.out).mono ?_; rintro e u3 ⟨rfl, hC3, hG3⟩; clear HQ; obtain ⟨cc0, cc1, cc2, ff1, ff2⟩ := hC3.cells; have HC3 := Hid.mk' hC3; have HG3 := Hid.mk' (HG.out.trans hG3); clear hC3 hG3))
          have HI0 : Hid (CInv w u3 B g s d n p3 false x0 (ord kind)) := ⟨HG3.out.row (HROW.out (by first | rfl | trivial)) hgB, HC3.out, (ChgS.refl _ w).chg HG3.out (.inl (.inl rfl)), hp3, HX0.out⟩
          clear cc0 cc1 cc2 ff1 ff2 HC3 HG3
          go_loopw [14, 15, 16, 17, 18] (fun kv iv _ _ _ wr => ∃ i k : Nat, i ≤ n ∧ k ≤ 14 ∧ iv = .int .i64 i ∧ kv = .int .i64 k ∧ Hid (∃ st : St, J.R ⟨p3, 0, x0⟩ i = some st ∧ st.k = k ∧ CInv w wr B g s d n st.p false st.x (max i (ord kind)))) (fun _ iv _ _ _ _ => n - (intOf iv).toNat)
          case atStart => exact ⟨0, 0, by omega, by omega, rfl, rfl, ⟨p3, 0, x0⟩, rfl, rfl, by rw [show max 0 (ord kind) = ord kind by omega]; exact HI0.out⟩
          case round =>
            clear HI0
            obtain ⟨i, k, hi, hk, rfl, rfl, HX⟩ := hrel
            obtain ⟨st, hst, hstk, hI⟩ := HX.out
            have HST := Hid.mk' hst
            have HSTK := Hid.mk' hstk
            have HI := Hid.mk' hI
            have hstp := hI.p
            clear hst hstk hI HX
            by_cases hin : i < n
            · have hsz1 : ¬ (sz : Int) = 0 := by omega
              have HNONE : Hid (J.R ⟨p3, 0, x0⟩ (i + 1) = none → oo = none) := fun h => HOK.out.trans (J.R_none _ h (by omega))
              have hcast : ((i % sz : Nat) : Int) = (i : Int) % (sz : Int) := by simp
              by_cases hmod : i % sz = 0
              · have tmod : ((i : Int) % (sz : Int) == 0) = true := by rw [← hcast, hmod]; rfl
                have HM := Hid.mk' hmod
                clear hcast hmod
                obtain ⟨k1, pK, bK, HK, hpK, hK⟩ := count_any B s b 4 hs (by omega) HB.out st.p false hstp
                by_cases hk1 : k1 ≤ 14
                · have tk : decide ((14 : Int) < (k1 : Int)) = false := decide_eq_false (by omega)
                  have HNX : Hid (bK = true → J.R ⟨p3, 0, x0⟩ (i + 1) = none) := fun e => by
                    rw [J.R_count HST.out (by rw [HJ.out.2.2.2.2.2.2]; exact HM.out)]
                    rcases hK with ⟨-, -, -, -, h⟩ | ⟨h, -, -⟩
                    · rw [e] at h; cases h
                    · unfold Job.rdK
                      rw [if_neg]
                      · rfl
                      · intro h3; rw [HJ.out.2.1] at h3; exact h ⟨rfl, h3.1⟩
                  have HNY : Hid (bK = false → J.R ⟨p3, 0, x0⟩ (i + 1) = J.plc i ⟨pK, k1, st.x⟩) := fun e => by
                    rw [J.R_count HST.out (by rw [HJ.out.2.2.2.2.2.2]; exact HM.out)]
                    rcases hK with ⟨-, h4, hk4, hp4, h⟩ | ⟨-, -, h⟩
                    · unfold Job.rdK
                      rw [if_pos ⟨by rw [HJ.out.2.1]; exact h4, by rw [HJ.out.1, ← hk4]; exact hk1⟩, HJ.out.1, ← hk4, ← hp4]
                      rfl
                    · rw [e] at h; cases h
                  clear hK
                  by_cases hio : i < ord kind
                  · have tio : decide ((ord kind : Int) ≤ (i : Int)) = false := decide_eq_false (by omega)
                    have hfx : fitsB d (st.x i) = true := HI.out.fits i (by omega)
                    cases bK with
                    | true =>
                      go_wp2_with (first
                        | (go_at_call 183; refine (HK.out _ HI.out.cu).mono ?_; rintro e u1 ⟨rfl, hC1, hG1⟩; clear HK; have HI1 := Hid.mk' (HI.out.chgB hG1 hC1 hpK hgB); clear hC1 hG1; obtain ⟨cc0, cc1, cc2, ff1, ff2⟩ := HI1.out.cu.cells; have hcx := HI1.out.cell hin (by omega))
                        | (go_at_call 108; refine (cFits_any d _ _ hd1 hd).mono ?_; rintro e w0 ⟨rfl, hw0⟩; subst w0; rw [hfx]))
                      go_ret
                      rw [HNONE.out (HNX.out (by first | rfl | trivial))]
                      exact ⟨rfl, HI1.out.chg⟩
                    | false =>
                      go_wp2_with (first
                        | (go_at_call 183; refine (HK.out _ HI.out.cu).mono ?_; rintro e u1 ⟨rfl, hC1, hG1⟩; clear HK; have HI1 := Hid.mk' (HI.out.chgB hG1 hC1 hpK hgB); clear hC1 hG1; obtain ⟨cc0, cc1, cc2, ff1, ff2⟩ := HI1.out.cu.cells; have hcx := HI1.out.cell hin (by omega))
                        | (go_at_call 108; refine (cFits_any d _ _ hd1 hd).mono ?_; rintro e w0 ⟨rfl, hw0⟩; subst w0; rw [hfx]))
                      go_roundw
                      case rel =>
                        refine ⟨i + 1, k1, by omega, hk1, by go_num, rfl, ⟨pK, k1, st.x⟩, ?_, rfl, ?_⟩
                        · rw [HNY.out (by first | rfl | trivial)]; unfold Job.plc; rw [if_pos (by rw [HJ.out.2.2.2.1]; exact hio)]
                        · rw [show max (i + 1) (ord kind) = max i (ord kind) by omega]; exact HI1.out
                      case measure => simp [intOf]; omega
                  · have tio : decide ((ord kind : Int) ≤ (i : Int)) = true := decide_eq_true (by omega)
                    have tioN : decide (ord kind ≤ i) = true := decide_eq_true (by omega)
                    rw [show max i (ord kind) = i by omega] at HI
                    have HX4 : Hid (∀ j, j < i → -4096 ≤ st.x j ∧ st.x j ≤ 4096) := fun j hj => fits_bd (HI.out.fits j hj) hd
                    obtain ⟨G, hG⟩ : ∃ G, G = guessG kind 0 0 st.x i := ⟨_, rfl⟩
                    have hGb : -524288 ≤ G ∧ G ≤ 524288 := by rw [hG]; exact guessG_bd h2 h7 ha hc HX4.out (by omega)
                    have HGU : Hid (∀ u : World, u.rowIs g 3 n (cutV i st.x) → TabAt u 3 → Calls Tryz.prog 196 #[.int .i64 kind, .int .i64 0, .int .i64 0, .slice (some ⟨g, 0, none⟩) n n, .int .i64 i] u fun e w' => e = .returned (.int .i64 G) ∧ ∃ m, w' = u.drewN m) := fun u hu hTu => by
                      rw [hG]; exact cGuess_any kind 0 0 g n i i st.x u h2 h7 ha hc hn hin (by omega) HX4.out hu (Nat.le_refl _) hTu
                    have HGE := Hid.mk' hG
                    clear hG
                    have HRI0 := Hid.mk' (fun (u : World) (hu : Cu u B s pK bK) => cRice_any B s b pK k1 bK u hs hpK hk1 hu HB.out)
                    generalize hro : (if bK = true then none else rice b s.size k1 pK) = ro at HRI0
                    cases ro with
                    | none =>
                      have HRI : Hid (∀ u : World, Cu u B s pK bK → Calls Tryz.prog 208 #[.pointer (some ⟨B, 0, none⟩), .int .i64 k1] u fun e u' => ∃ v p', e = .returned (.int .i64 v) ∧ (-1400000000 ≤ v ∧ v ≤ 1400000000) ∧ p' ≤ s.size ∧ Cu u' B s p' true ∧ Chg B u u') := HRI0.out
                      have HNO : Hid (J.R ⟨p3, 0, x0⟩ (i + 1) = none) := by
                        show _ = _
                        cases bK with
                        | true => exact HNX.out (by first | rfl | trivial)
                        | false =>
                          rw [HNY.out (by first | rfl | trivial)]
                          rw [if_neg (by simp)] at hro
                          obtain ⟨j1, j2, j3, j4, j5, j6, j7⟩ := HJ.out
                          exact Job.plc_none (by rw [j4]; exact hio) (by rw [j1, j2]; exact hro)
                      clear HRI0 hro HNX HNY
                      go_wp2_with (first
                        | (go_at_call 183; refine (HK.out _ HI.out.cu).mono ?_; rintro e u1 ⟨rfl, hC1, hG1⟩; clear HK; have HI1 := Hid.mk' (HI.out.chgB hG1 hC1 hpK hgB); clear hC1 hG1)
                        | (go_at_call 208; refine (HRI.out _ HI1.out.cu).mono ?_; rintro e u2 ⟨v, pR, rfl, hv, hpR, hC2, hG2⟩; clear HRI; have HI2 := Hid.mk' (HI1.out.chgB hG2 hC2 hpR hgB); clear hC2 hG2)
                        | (go_at_call 196; refine (HGU.out _ HI2.out.row (HI2.out.chg.tab HT.out hT3 (by omega))).mono ?_; rintro e w0 ⟨rfl, m, hw0⟩; subst w0; have hfr := HI2.out.row.frozen i; have hc0 := row_at HI2.out.row hin; have tz : IntKind.i64.wrap (G + v) = G + v := (by rw [IntKind.wrap_i64]; omega); have hcell := row_put (HI2.out.drewN m).row hin (G + v); have hbadc := (((Chg.refl g _).set i (.int .i64 (G + v))).cu (HI2.out.drewN m).cu (Ne.symm hgB)).cells.2.2.1)
                        | (go_at_call 108; refine (cFits_any d _ _ hd1 hd).mono ?_; rintro e w0 ⟨rfl, hw0⟩; subst w0))
                      all_goals
                        go_ret
                        rw [HNONE.out HNO.out]
                        exact ⟨rfl, (HI2.out.drewN m).chg.chg ((Chg.refl g _).set i _) (.inl (.inr rfl))⟩
                    | some vp =>
                      obtain ⟨v, pR⟩ := vp
                      have hbK : bK = false := by
                        cases bK with
                        | false => rfl
                        | true => simp at hro
                      subst hbK
                      rw [if_neg (by simp)] at hro
                      have HRI : Hid (∀ u : World, Cu u B s pK false → Calls Tryz.prog 208 #[.pointer (some ⟨B, 0, none⟩), .int .i64 k1] u fun e u' => e = .returned (.int .i64 v) ∧ Cu u' B s pR false ∧ Chg B u u') := HRI0.out
                      obtain ⟨hv, -, hpR⟩ := rice_bd hro hs hk1
                      have HRO := Hid.mk' hro
                      clear HRI0 hro HNX
                      cases hfz : fitsB d (G + v) with
                      | true =>
                        have HFZ := Hid.mk' hfz
                        have HNO : Hid (J.R ⟨p3, 0, x0⟩ (i + 1) = some ⟨pR, k1, updI st.x i (G + v)⟩) := by
                          show _ = _
                          rw [HNY.out (by first | rfl | trivial)]
                          obtain ⟨j1, j2, j3, j4, j5, j6, j7⟩ := HJ.out
                          have e := HGE.out
                          rw [Job.plc_yes (v := v) (p' := pR) (by rw [j4]; exact hio) (by rw [j1, j2]; exact HRO.out) (by rw [j3, j4, j5, j6, ← e]; exact hfz), j4, j5, j6, ← e]
                        clear HNY
                        go_wp2_with (first
                          | (go_at_call 183; refine (HK.out _ HI.out.cu).mono ?_; rintro e u1 ⟨rfl, hC1, hG1⟩; clear HK; have HI1 := Hid.mk' (HI.out.chgB hG1 hC1 hpK hgB); clear hC1 hG1)
                          | (go_at_call 208; refine (HRI.out _ HI1.out.cu).mono ?_; rintro e u2 ⟨rfl, hC2, hG2⟩; clear HRI; have HI2 := Hid.mk' (HI1.out.chgB hG2 hC2 hpR hgB); clear hC2 hG2)
                          | (go_at_call 196; refine (HGU.out _ HI2.out.row (HI2.out.chg.tab HT.out hT3 (by omega))).mono ?_; rintro e w0 ⟨rfl, m, hw0⟩; subst w0; have hfr := HI2.out.row.frozen i; have hc0 := row_at HI2.out.row hin; have tz : IntKind.i64.wrap (G + v) = G + v := (by rw [IntKind.wrap_i64]; omega); have hcell := row_put (HI2.out.drewN m).row hin (G + v); have hbadc := (((Chg.refl g _).set i (.int .i64 (G + v))).cu (HI2.out.drewN m).cu (Ne.symm hgB)).cells.2.2.1)
                          | (go_at_call 108; refine (cFits_any d _ _ hd1 hd).mono ?_; rintro e w0 ⟨rfl, hw0⟩; subst w0; rw [hfz]))
                        go_roundw
                        case rel =>
                          refine ⟨i + 1, k1, by omega, hk1, by go_num, rfl, _, HNO.out, rfl, ?_⟩
                          rw [show max (i + 1) (ord kind) = i + 1 by omega]
                          exact (HI2.out.drewN m).put (G + v) HFZ.out hgB
                        case measure => simp [intOf]; omega
                      | false =>
                        have HNO : Hid (J.R ⟨p3, 0, x0⟩ (i + 1) = none) := by
                          show _ = _
                          rw [HNY.out (by first | rfl | trivial)]
                          obtain ⟨j1, j2, j3, j4, j5, j6, j7⟩ := HJ.out
                          have e := HGE.out
                          exact Job.plc_no (v := v) (p' := pR) (by rw [j4]; exact hio) (by rw [j1, j2]; exact HRO.out) (by rw [j3, j4, j5, j6, ← e]; exact hfz)
                        clear HNY
                        go_wp2_with (first
                          | (go_at_call 183; refine (HK.out _ HI.out.cu).mono ?_; rintro e u1 ⟨rfl, hC1, hG1⟩; clear HK; have HI1 := Hid.mk' (HI.out.chgB hG1 hC1 hpK hgB); clear hC1 hG1)
                          | (go_at_call 208; refine (HRI.out _ HI1.out.cu).mono ?_; rintro e u2 ⟨rfl, hC2, hG2⟩; clear HRI; have HI2 := Hid.mk' (HI1.out.chgB hG2 hC2 hpR hgB); clear hC2 hG2)
                          | (go_at_call 196; refine (HGU.out _ HI2.out.row (HI2.out.chg.tab HT.out hT3 (by omega))).mono ?_; rintro e w0 ⟨rfl, m, hw0⟩; subst w0; have hfr := HI2.out.row.frozen i; have hc0 := row_at HI2.out.row hin; have tz : IntKind.i64.wrap (G + v) = G + v := (by rw [IntKind.wrap_i64]; omega); have hcell := row_put (HI2.out.drewN m).row hin (G + v); have hbadc := (((Chg.refl g _).set i (.int .i64 (G + v))).cu (HI2.out.drewN m).cu (Ne.symm hgB)).cells.2.2.1)
                          | (go_at_call 108; refine (cFits_any d _ _ hd1 hd).mono ?_; rintro e w0 ⟨rfl, hw0⟩; subst w0; rw [hfz]))
                        go_ret
                        rw [HNONE.out HNO.out]
                        exact ⟨rfl, (HI2.out.drewN m).chg.chg ((Chg.refl g _).set i _) (.inl (.inr rfl))⟩
                · have tk : decide ((14 : Int) < (k1 : Int)) = true := decide_eq_true (by omega)
                  have HNO : Hid (J.R ⟨p3, 0, x0⟩ (i + 1) = none) := by
                    show _ = _
                    rw [J.R_count HST.out (by rw [HJ.out.2.2.2.2.2.2]; exact HM.out)]
                    unfold Job.rdK
                    rw [if_neg]
                    · rfl
                    · intro h3
                      rw [HJ.out.1] at h3
                      rcases hK with ⟨-, -, h, -, -⟩ | ⟨-, h, -⟩ <;> omega
                  clear hK
                  go_wp2_with (go_at_call 183; refine (HK.out _ HI.out.cu).mono ?_; rintro e u1 ⟨rfl, hC1, hG1⟩; clear HK; have HI1 := Hid.mk' (HI.out.chgB hG1 hC1 hpK hgB); clear hC1 hG1)
                  go_ret
                  rw [HNONE.out HNO.out]
                  exact ⟨rfl, HI1.out.chg⟩
              · have tmod : ((i : Int) % (sz : Int) == 0) = false := by rw [← hcast]; simp; omega
                have HM := Hid.mk' hmod
                clear hcast hmod
                have HNY : Hid (J.R ⟨p3, 0, x0⟩ (i + 1) = J.plc i ⟨st.p, k, st.x⟩) := by
                  show _ = _
                  rw [J.R_same HST.out (by rw [HJ.out.2.2.2.2.2.2]; exact HM.out), ← HSTK.out]
                by_cases hio : i < ord kind
                · have tio : decide ((ord kind : Int) ≤ (i : Int)) = false := decide_eq_false (by omega)
                  have hfx : fitsB d (st.x i) = true := HI.out.fits i (by omega)
                  have HI1 := HI
                  obtain ⟨cc0, cc1, cc2, ff1, ff2⟩ := HI1.out.cu.cells
                  have hcx := HI1.out.cell hin (by omega)
                  go_wp2_with (first
                    | (go_at_call 108; refine (cFits_any d _ _ hd1 hd).mono ?_; rintro e w0 ⟨rfl, hw0⟩; subst w0; rw [hfx]))
                  go_roundw
                  case rel =>
                    refine ⟨i + 1, k, by omega, hk, by go_num, rfl, ⟨st.p, k, st.x⟩, ?_, rfl, ?_⟩
                    · rw [HNY.out]; unfold Job.plc; rw [if_pos (by rw [HJ.out.2.2.2.1]; exact hio)]
                    · rw [show max (i + 1) (ord kind) = max i (ord kind) by omega]; exact HI1.out
                  case measure => simp [intOf]; omega
                · have tio : decide ((ord kind : Int) ≤ (i : Int)) = true := decide_eq_true (by omega)
                  have tioN : decide (ord kind ≤ i) = true := decide_eq_true (by omega)
                  rw [show max i (ord kind) = i by omega] at HI
                  have HI1 := HI
                  have HX4 : Hid (∀ j, j < i → -4096 ≤ st.x j ∧ st.x j ≤ 4096) := fun j hj => fits_bd (HI.out.fits j hj) hd
                  obtain ⟨G, hG⟩ : ∃ G, G = guessG kind 0 0 st.x i := ⟨_, rfl⟩
                  have hGb : -524288 ≤ G ∧ G ≤ 524288 := by rw [hG]; exact guessG_bd h2 h7 ha hc HX4.out (by omega)
                  have HGU : Hid (∀ u : World, u.rowIs g 3 n (cutV i st.x) → TabAt u 3 → Calls Tryz.prog 196 #[.int .i64 kind, .int .i64 0, .int .i64 0, .slice (some ⟨g, 0, none⟩) n n, .int .i64 i] u fun e w' => e = .returned (.int .i64 G) ∧ ∃ m, w' = u.drewN m) := fun u hu hTu => by
                    rw [hG]; exact cGuess_any kind 0 0 g n i i st.x u h2 h7 ha hc hn hin (by omega) HX4.out hu (Nat.le_refl _) hTu
                  have HGE := Hid.mk' hG
                  clear hG
                  have HRI0 := Hid.mk' (fun (u : World) (hu : Cu u B s st.p false) => cRice_any B s b st.p k false u hs hstp hk hu HB.out)
                  generalize hro : (if false = true then none else rice b s.size k st.p) = ro at HRI0
                  cases ro with
                  | none =>
                    have HRI : Hid (∀ u : World, Cu u B s st.p false → Calls Tryz.prog 208 #[.pointer (some ⟨B, 0, none⟩), .int .i64 k] u fun e u' => ∃ v p', e = .returned (.int .i64 v) ∧ (-1400000000 ≤ v ∧ v ≤ 1400000000) ∧ p' ≤ s.size ∧ Cu u' B s p' true ∧ Chg B u u') := HRI0.out
                    have HNO : Hid (J.R ⟨p3, 0, x0⟩ (i + 1) = none) := by
                      show _ = _
                      rw [HNY.out]
                      rw [if_neg (by simp)] at hro
                      obtain ⟨j1, j2, j3, j4, j5, j6, j7⟩ := HJ.out
                      exact Job.plc_none (by rw [j4]; exact hio) (by rw [j1, j2]; exact hro)
                    clear HRI0 hro HNY
                    go_wp2_with (first
                      | (go_at_call 208; refine (HRI.out _ HI1.out.cu).mono ?_; rintro e u2 ⟨v, pR, rfl, hv, hpR, hC2, hG2⟩; clear HRI; have HI2 := Hid.mk' (HI1.out.chgB hG2 hC2 hpR hgB); clear hC2 hG2)
                      | (go_at_call 196; refine (HGU.out _ HI2.out.row (HI2.out.chg.tab HT.out hT3 (by omega))).mono ?_; rintro e w0 ⟨rfl, m, hw0⟩; subst w0; have hfr := HI2.out.row.frozen i; have hc0 := row_at HI2.out.row hin; have tz : IntKind.i64.wrap (G + v) = G + v := (by rw [IntKind.wrap_i64]; omega); have hcell := row_put (HI2.out.drewN m).row hin (G + v); have hbadc := (((Chg.refl g _).set i (.int .i64 (G + v))).cu (HI2.out.drewN m).cu (Ne.symm hgB)).cells.2.2.1)
                      | (go_at_call 108; refine (cFits_any d _ _ hd1 hd).mono ?_; rintro e w0 ⟨rfl, hw0⟩; subst w0))
                    all_goals
                      go_ret
                      rw [HNONE.out HNO.out]
                      exact ⟨rfl, (HI2.out.drewN m).chg.chg ((Chg.refl g _).set i _) (.inl (.inr rfl))⟩
                  | some vp =>
                    obtain ⟨v, pR⟩ := vp
                    rw [if_neg (by simp)] at hro
                    have HRI : Hid (∀ u : World, Cu u B s st.p false → Calls Tryz.prog 208 #[.pointer (some ⟨B, 0, none⟩), .int .i64 k] u fun e u' => e = .returned (.int .i64 v) ∧ Cu u' B s pR false ∧ Chg B u u') := HRI0.out
                    obtain ⟨hv, -, hpR⟩ := rice_bd hro hs hk
                    have HRO := Hid.mk' hro
                    clear HRI0 hro
                    cases hfz : fitsB d (G + v) with
                    | true =>
                      have HFZ := Hid.mk' hfz
                      have HNO : Hid (J.R ⟨p3, 0, x0⟩ (i + 1) = some ⟨pR, k, updI st.x i (G + v)⟩) := by
                        show _ = _
                        rw [HNY.out]
                        obtain ⟨j1, j2, j3, j4, j5, j6, j7⟩ := HJ.out
                        have e := HGE.out
                        rw [Job.plc_yes (v := v) (p' := pR) (by rw [j4]; exact hio) (by rw [j1, j2]; exact HRO.out) (by rw [j3, j4, j5, j6, ← e]; exact hfz), j4, j5, j6, ← e]
                      clear HNY
                      go_wp2_with (first
                        | (go_at_call 208; refine (HRI.out _ HI1.out.cu).mono ?_; rintro e u2 ⟨rfl, hC2, hG2⟩; clear HRI; have HI2 := Hid.mk' (HI1.out.chgB hG2 hC2 hpR hgB); clear hC2 hG2)
                        | (go_at_call 196; refine (HGU.out _ HI2.out.row (HI2.out.chg.tab HT.out hT3 (by omega))).mono ?_; rintro e w0 ⟨rfl, m, hw0⟩; subst w0; have hfr := HI2.out.row.frozen i; have hc0 := row_at HI2.out.row hin; have tz : IntKind.i64.wrap (G + v) = G + v := (by rw [IntKind.wrap_i64]; omega); have hcell := row_put (HI2.out.drewN m).row hin (G + v); have hbadc := (((Chg.refl g _).set i (.int .i64 (G + v))).cu (HI2.out.drewN m).cu (Ne.symm hgB)).cells.2.2.1)
                        | (go_at_call 108; refine (cFits_any d _ _ hd1 hd).mono ?_; rintro e w0 ⟨rfl, hw0⟩; subst w0; rw [hfz]))
                      go_roundw
                      case rel =>
                        refine ⟨i + 1, k, by omega, hk, by go_num, rfl, _, HNO.out, rfl, ?_⟩
                        rw [show max (i + 1) (ord kind) = i + 1 by omega]
                        exact (HI2.out.drewN m).put (G + v) HFZ.out hgB
                      case measure => simp [intOf]; omega
                    | false =>
                      have HNO : Hid (J.R ⟨p3, 0, x0⟩ (i + 1) = none) := by
                        show _ = _
                        rw [HNY.out]
                        obtain ⟨j1, j2, j3, j4, j5, j6, j7⟩ := HJ.out
                        have e := HGE.out
                        exact Job.plc_no (v := v) (p' := pR) (by rw [j4]; exact hio) (by rw [j1, j2]; exact HRO.out) (by rw [j3, j4, j5, j6, ← e]; exact hfz)
                      clear HNY
                      go_wp2_with (first
                        | (go_at_call 208; refine (HRI.out _ HI1.out.cu).mono ?_; rintro e u2 ⟨rfl, hC2, hG2⟩; clear HRI; have HI2 := Hid.mk' (HI1.out.chgB hG2 hC2 hpR hgB); clear hC2 hG2)
                        | (go_at_call 196; refine (HGU.out _ HI2.out.row (HI2.out.chg.tab HT.out hT3 (by omega))).mono ?_; rintro e w0 ⟨rfl, m, hw0⟩; subst w0; have hfr := HI2.out.row.frozen i; have hc0 := row_at HI2.out.row hin; have tz : IntKind.i64.wrap (G + v) = G + v := (by rw [IntKind.wrap_i64]; omega); have hcell := row_put (HI2.out.drewN m).row hin (G + v); have hbadc := (((Chg.refl g _).set i (.int .i64 (G + v))).cu (HI2.out.drewN m).cu (Ne.symm hgB)).cells.2.2.1)
                        | (go_at_call 108; refine (cFits_any d _ _ hd1 hd).mono ?_; rintro e w0 ⟨rfl, hw0⟩; subst w0; rw [hfz]))
                      go_ret
                      rw [HNONE.out HNO.out]
                      exact ⟨rfl, (HI2.out.drewN m).chg.chg ((Chg.refl g _).set i _) (.inl (.inr rfl))⟩
            · have e : i = n := by omega
              subst e
              go_wp2
              go_ret
              rw [HOK.out, HST.out]
              refine ⟨rfl, ?_, HI.out.cu, HI.out.chg⟩
              have := HI.out.row
              rw [show max i (ord kind) = i by omega] at this
              exact this
        · have tl : decide ((sz : Int) ≤ (ord kind : Int)) = true := decide_eq_true (by omega)
          have HNO : Hid (oo = none) := by
            show _ = _
            rw [HOJ.out, HCB.out, if_neg (by simp [hlo])]
          go_enter Tryz.func186, Tryz.ntmps186
          go_wp2_with (first
            | (go_at_call 184; refine (cOrderOf_any kind _ h2 h7).mono ?_; rintro e w0 ⟨rfl, hw0⟩; subst w0)
            | (go_at_call 185; refine (HS1.out _ HC.out).mono ?_; rintro e u1 ⟨rfl, hC1, hG1⟩; clear HS1; have HC1 := Hid.mk' hC1; have HG1 := Hid.mk' hG1; clear hC1 hG1)
            | (go_at_call 185; refine (HS2.out _ HC1.out).mono ?_; rintro e u2 ⟨rfl, hC2, hG2⟩; clear HS2; have HC2 := Hid.mk' hC2; have HG := Hid.mk' (HG1.out.trans hG2); clear hC2 hG2)
            | (go_at_call 183; refine (HQ.out _ HC2.out).mono ?_; rintro e u3 ⟨rfl, hC3, hG3⟩; clear HQ; obtain ⟨cc0, cc1, cc2, ff1, ff2⟩ := hC3.cells; have HC3 := Hid.mk' hC3; have HG3 := Hid.mk' (HG.out.trans hG3); clear hC3 hG3))
          go_ret
          rw [HNO.out]
          exact ⟨rfl, (ChgS.refl _ w).chg HG3.out (.inl (.inl rfl))⟩
      · have tm : ((sz : Int) * (P : Int) != (n : Int)) = true := by
          have : ((sz * P : Nat) : Int) = (sz : Int) * (P : Int) := by simp
          simp; omega
        have HNO : Hid (oo = none) := by
          show _ = _
          rw [HOJ.out, HCB.out, if_neg (by simp [hm])]
        go_enter Tryz.func186, Tryz.ntmps186
        go_wp2_with (first
          | (go_at_call 184; refine (cOrderOf_any kind _ h2 h7).mono ?_; rintro e w0 ⟨rfl, hw0⟩; subst w0)
          | (go_at_call 185; refine (HS1.out _ HC.out).mono ?_; rintro e u1 ⟨rfl, hC1, hG1⟩; clear HS1; have HC1 := Hid.mk' hC1; have HG1 := Hid.mk' hG1; clear hC1 hG1)
          | (go_at_call 185; refine (HS2.out _ HC1.out).mono ?_; rintro e u2 ⟨rfl, hC2, hG2⟩; clear HS2; have HC2 := Hid.mk' hC2; have HG := Hid.mk' (HG1.out.trans hG2); clear hC2 hG2)
          | (go_at_call 183; refine (HQ.out _ HC2.out).mono ?_; rintro e u3 ⟨rfl, hC3, hG3⟩; clear HQ; obtain ⟨cc0, cc1, cc2, ff1, ff2⟩ := hC3.cells; have HC3 := Hid.mk' hC3; have HG3 := Hid.mk' (HG.out.trans hG3); clear hC3 hG3))
        go_ret
        rw [HNO.out]
        exact ⟨rfl, (ChgS.refl _ w).chg HG3.out (.inl (.inl rfl))⟩
end Go.Proofs.YtlncjgnomhpjnaaGreatDoor

/-
  The document's reader: subframe.
-/
namespace Go.Proofs.YtlncjgnomhpjnaaGreatDoor
open Go.RowKit Go.Deep
set_option linter.unusedVariables false

def CSubOut (e : Ending) (w w' : World) (B : Nat) (s : ByteArray) (n : Nat) : Option ((Nat → Int) × Nat) → Prop
  | some xp => ∃ g, e = .returned (.tuple #[.slice (some ⟨g, 0, none⟩) n n, .bool true]) ∧ w.heap.size ≤ g ∧ w'.rowIs g 3 n (cutV n xp.1) ∧ Cu w' B s xp.2 false ∧ Chg B w w'
  | none => ∃ v, e = .returned (.tuple #[v, .bool false]) ∧ Chg B w w'

/-- what holds while the first samples are read -/
structure SInv (w wr : World) (B g : Nat) (s : ByteArray) (b : Nat → Bool) (d n p F k : Nat) (f : Nat → Int) (pp : Nat) (bb : Bool) : Prop where
  row : wr.rowIs g 3 n (cutV k f)
  cu : Cu wr B s pp bb
  chg : Chg B w wr
  pN : pp ≤ s.size
  fits : ∀ j, fitsB d (f j) = true
  good : bb = false → pp = posn p d k ∧ ∀ j, j < k → f j = sgn b (posn p d j) d
  bad : bb = true → s.size < posn p d F

theorem Chg.drew {B : Nat} {a b : World} (h : Chg B a b) : Chg B a b.drew := ⟨h.os, h.tape, h.output, h.size, h.block⟩
theorem zero_fits {d : Nat} : fitsB d 0 = true := by
  unfold fitsB
  rw [within_iff]
  have : (1 : Int) ≤ 2 ^ (d - 1) := by have : 0 < 2 ^ (d - 1) := Nat.two_pow_pos _; exact_mod_cast this
  omega

theorem SInv.step {w wr u : World} {B g : Nat} {s : ByteArray} {b : Nat → Bool} {d n p F k : Nat} {f : Nat → Int} {pp : Nat} {bb : Bool} (h : SInv w wr B g s b d n p F k f pp bb) (hg : w.heap.size ≤ g) (hgB : g ≠ B) (hkF : k < F) (hd1 : 1 ≤ d)
    {v : Int} {p' : Nat} {b' : Bool} (hC : Cu u B s p' b') (hG : Chg B wr u) (hp' : p' ≤ s.size)
    (hS : (bb = false ∧ pp + d ≤ s.size ∧ v = sgn b pp d ∧ p' = pp + d ∧ b' = false) ∨ (¬ (bb = false ∧ pp + d ≤ s.size) ∧ v = 0 ∧ b' = true)) :
    SInv w (u.setCell ⟨g, k, none⟩ (.int .i64 v)) B g s b d n p F (k + 1) (updI f k v) p' b' := by
  have hch : Chg g u (u.setCell ⟨g, k, none⟩ (.int .i64 v)) := (Chg.refl _ _).set _ _
  have hrow := hG.row h.row hgB
  refine ⟨cutV_step (x := updI f k v) (z := v) (by simp [updI]) ((hrow.set k (.int .i64 v)).congr fun i _ => ?_), hch.cu hC (Ne.symm hgB), (h.chg.trans hG).other hch hg, hp', fun j => ?_, fun e => ?_, fun e => ?_⟩
  · by_cases e : i = k
    · simp [e]
    · simp only [if_neg e, cutV, cutI, updI]
  · unfold updI
    split
    · rcases hS with ⟨-, -, rfl, -, -⟩ | ⟨-, rfl, -⟩
      · exact sgn_fits b pp hd1
      · exact zero_fits
    · exact h.fits j
  · subst e
    rcases hS with ⟨rfl, h1, rfl, rfl, -⟩ | ⟨-, -, h⟩
    · obtain ⟨rfl, h3⟩ := h.good rfl
      refine ⟨(posn_succ p d k).symm, fun j hj => ?_⟩
      unfold updI
      split
      · rename_i e; rw [e]
      · exact h3 j (by omega)
    · cases h
  · subst e
    rcases hS with ⟨-, -, -, -, h⟩ | ⟨h1, -, -⟩
    · cases h
    · cases bb with
      | true => exact h.bad rfl
      | false =>
        obtain ⟨h2, -⟩ := h.good rfl
        simp only [true_and] at h1
        have h3 := posn_succ p d k
        have h4 := posn_le p d (show k + 1 ≤ F by omega)
        omega

theorem readAt_zero (b : Nat → Bool) (N width n : Nat) : readAt b N 0 width n = readSt b N width n := by
  unfold readAt readSt
  simp only [Nat.zero_add]
/-- kind and shift, from place o on -/
theorem sub_head {b : Nat → Bool} {N width n : Nat} {kd o q p1 sh p2 : Nat} {b1 b2 : Bool} (hq : q = o + 8)
    (hK : (false = false ∧ o + 4 ≤ N ∧ kd = num b o 4 ∧ p1 = o + 4 ∧ b1 = false) ∨ (¬ (false = false ∧ o + 4 ≤ N) ∧ kd = 0 ∧ b1 = true))
    (hQ : (b1 = false ∧ p1 + 4 ≤ N ∧ sh = num b p1 4 ∧ p2 = p1 + 4 ∧ b2 = false) ∨ (¬ (b1 = false ∧ p1 + 4 ≤ N) ∧ sh = 0 ∧ b2 = true)) :
    kd < 16 ∧ sh < 16 ∧ (b2 = true → readAt b N o width n = none) ∧ (b2 = false → q = p2 ∧ (¬ sh < width → readAt b N o width n = none) ∧ (sh < width → readAt b N o width n = (bodySt b N kd (width - sh) n q).map fun xp => (fun i => xp.1 i * 2 ^ sh, xp.2))) := by
  have h1 : num b o 4 < 16 := num_lt b o 4
  have h2 : num b p1 4 < 16 := num_lt b p1 4
  refine ⟨by omega, by omega, fun e => ?_, fun e => ?_⟩
  · unfold readAt
    rw [if_neg]
    rintro ⟨h8, -⟩
    subst e
    rcases hK with ⟨-, h4, rfl, rfl, rfl⟩ | ⟨h4, -, -⟩
    · rcases hQ with ⟨-, -, -, -, h⟩ | ⟨h, -, -⟩
      · cases h
      · exact h ⟨rfl, by omega⟩
    · exact h4 ⟨rfl, by omega⟩
  · subst e
    rcases hQ with ⟨rfl, h8, rfl, rfl, -⟩ | ⟨-, -, h⟩
    · rcases hK with ⟨-, h4, rfl, rfl, -⟩ | ⟨-, -, h⟩
      · refine ⟨by omega, fun h => ?_, fun h => ?_⟩
        · unfold readAt; rw [if_neg (fun h3 => h h3.2)]
        · unfold readAt; rw [if_pos ⟨by omega, h⟩, hq]
      · cases h
    · cases h

theorem Chg.tab3 {B : Nat} {w w' : World} (h : Chg B w w') (hT : TabAt w 3) (h3 : 3 < w.heap.size) (hB : B ≠ 3) : TabAt w' 3 := by
  intro r c hr hc
  have := hT r c hr hc
  simp only [World.cell?, h.block 3 h3 (fun e => hB (by injection e with e; exact e.symm))] at this ⊢
  exact this
theorem body_rests {w wr : World} {B g : Nat} {s : ByteArray} {b : Nat → Bool} {d n kd q : Nat} {f : Nat → Int} {pp : Nat} {bb : Bool} (h2 : 2 ≤ kd) (h7 : kd ≤ 7) (hno : ¬ n ≤ ord kd) (h : SInv w wr B g s b d n q (ord kd) (ord kd) f pp bb) :
    bodySt b s.size kd d n q = (if bb = true then none else cRestsSt b s.size d kd n pp (fun i => sgn b (posn q d i) d)).map fun st => (st.x, st.p) := by
  unfold bodySt
  rw [if_neg (by omega), if_neg (by omega), if_neg (by omega)]
  cases bb with
  | true =>
    have := h.bad rfl
    rw [if_neg (by omega)]
    rfl
  | false =>
    obtain ⟨rfl, -⟩ := h.good rfl
    rw [if_pos h.pN, show (if false = true then (none : Option St) else cRestsSt b s.size d kd n (posn q d (ord kd)) (fun i => sgn b (posn q d i) d)) = cRestsSt b s.size d kd n (posn q d (ord kd)) (fun i => sgn b (posn q d i) d) from rfl]
    unfold cRestsSt
    by_cases h7' : kd = 7
    · rw [if_pos h7', if_pos h7']
      split <;> rfl
    · rw [if_neg h7', if_neg h7']

set_option maxRecDepth 100000 in
set_option maxHeartbeats 4000000 in
theorem cSubAt_any (B : Nat) (s : ByteArray) (b : Nat → Bool) (width n o q : Nat) (w : World) (hq : q = o + 8) (ho : o ≤ s.size) (hs : s.size ≤ 80000) (hw1 : 1 ≤ width) (hw : width ≤ 13) (hn1 : 1 ≤ n) (hn : n ≤ 32)
    (hC : Cu w B s o false) (hb : Bits s b) (hT : TabAt w 3) (hT3 : 3 < w.heap.size) (hB3 : B ≠ 3) :
    Calls Tryz.prog 159 #[.pointer (some ⟨B, 0, none⟩), .int .i64 width, .int .i64 n] w fun e w' => CSubOut e w w' B s n (readAt b s.size o width n) := by
  generalize hoo : readAt b s.size o width n = oo
  have hBlt := hC.lt
  have HC := Hid.mk' hC
  have HB := Hid.mk' hb
  have HT := Hid.mk' hT
  clear hC hb hT
  obtain ⟨kd, p1, b1, HK, hp1, hK⟩ := count_any B s b 4 hs (by omega) HB.out o false ho
  obtain ⟨sh, p2, b2, HQ, hp2, hQ⟩ := count_any B s b 4 hs (by omega) HB.out p1 b1 hp1
  obtain ⟨hkd, hsh, hno, hyes⟩ := sub_head (width := width) (n := n) hq hK hQ
  rw [hoo] at hno hyes
  clear hoo hK hQ hq ho
  have HNO := Hid.mk' hno
  have HYES := Hid.mk' hyes
  clear hno hyes
  cases b2 with
  | true =>
    go_enter Tryz.func159, Tryz.ntmps159
    go_wp2_with (first
      | (go_at_call 183; refine (HK.out _ HC.out).mono ?_; rintro e u1 ⟨rfl, hC1, hG1⟩; clear HK; have HC1 := Hid.mk' hC1; have HG1 := Hid.mk' hG1; clear hC1 hG1)
      | (go_at_call 183; refine (HQ.out _ HC1.out).mono ?_; rintro e u2 ⟨rfl, hC2, hG2⟩; clear HQ; obtain ⟨cc0, cc1, cc2, ff1, ff2⟩ := hC2.cells; have HC2 := Hid.mk' hC2; have HG := Hid.mk' (HG1.out.trans hG2); clear hC2 hG2)
      | (go_at_call 184; refine (cOrderOf_any kd _ (by omega) (by omega)).mono ?_; rintro e w0 ⟨rfl, hw0⟩; subst w0))
    go_ret2
    rw [HNO.out (by first | rfl | trivial)]
    exact ⟨_, rfl, HG.out⟩
  | false =>
    obtain ⟨rfl, hno, hyes⟩ := HYES.out rfl
    clear HNO HYES
    by_cases hk7 : kd ≤ 7
    · have tk : decide ((7 : Int) < (kd : Int)) = false := decide_eq_false (by omega)
      have tkN : decide (7 < kd) = false := decide_eq_false (by omega)
      by_cases hsw : sh < width
      · have ts : decide ((width : Int) ≤ (sh : Int)) = false := decide_eq_false (by omega)
        have tsN : decide (width ≤ sh) = false := decide_eq_false (by omega)
        have HOO := Hid.mk' (hyes hsw)
        clear hno hyes
        obtain ⟨d, hd⟩ : ∃ d, width = d + sh := ⟨width - sh, by omega⟩
        have hd1 : 1 ≤ d := by omega
        have hdd : (width : Int) - (sh : Int) = (d : Int) := by omega
        have hdw : IntKind.i64.wrap ((width : Int) - (sh : Int)) = (d : Int) := by rw [hdd, IntKind.wrap_i64]; omega
        rw [show width - sh = d by omega] at HOO
        have hd13 : d + sh ≤ 13 := by omega
        have HD := Hid.mk' hd
        clear hd
        have hmk := run_make_row' (P := Tryz.prog) 29 3 (.int .i64 0) 8 Tryz.underlying29 infoInt rfl .i64 .i64 n (by omega) (by omega)
        by_cases hk2 : 2 ≤ kd
        · have t0 : ((kd : Int) == 0) = false := by simp; omega
          have t1 : decide ((1 : Int) < (kd : Int)) = true := decide_eq_true (by omega)
          have t1N : decide (1 < kd) = true := decide_eq_true (by omega)
          by_cases hno : n ≤ ord kd
          · have tn : decide ((n : Int) ≤ (ord kd : Int)) = true := decide_eq_true (by omega)
            have tnN : decide (n ≤ ord kd) = true := decide_eq_true hno
            have HNO : Hid (oo = none) := by
              show _ = _
              rw [HOO.out]
              unfold bodySt
              rw [if_neg (by omega), if_neg (by omega), if_pos (.inr hno)]
              rfl
            go_enter Tryz.func159, Tryz.ntmps159
            go_wp2_with (first
              | (go_at_call 183; refine (HK.out _ HC.out).mono ?_; rintro e u1 ⟨rfl, hC1, hG1⟩; clear HK; have HC1 := Hid.mk' hC1; have HG1 := Hid.mk' hG1; clear hC1 hG1)
              | (go_at_call 183; refine (HQ.out _ HC1.out).mono ?_; rintro e u2 ⟨rfl, hC2, hG2⟩; clear HQ; obtain ⟨cc0, cc1, cc2, ff1, ff2⟩ := hC2.cells; have HC2 := Hid.mk' hC2; have HG := Hid.mk' (HG1.out.trans hG2); clear hC2 hG2)
              | (go_at_call 184; refine (cOrderOf_any kd _ (by omega) (by omega)).mono ?_; rintro e w0 ⟨rfl, hw0⟩; subst w0))
            go_ret2
            rw [HNO.out]
            exact ⟨_, rfl, HG.out.below ((Below.refl _ _).alloc (Nat.le_refl _) _)⟩
          · have tn : decide ((n : Int) ≤ (ord kd : Int)) = false := decide_eq_false (by omega)
            have tnN : decide (n ≤ ord kd) = false := decide_eq_false hno
            go_enter Tryz.func159, Tryz.ntmps159
            go_wp2_with (first
              | (go_at_call 183; refine (HK.out _ HC.out).mono ?_; rintro e u1 ⟨rfl, hC1, hG1⟩; clear HK; have HC1 := Hid.mk' hC1; have HG1 := Hid.mk' hG1; clear hC1 hG1)
              | (go_at_call 183; refine (HQ.out _ HC1.out).mono ?_; rintro e u2 ⟨rfl, hC2, hG2⟩; clear HQ; obtain ⟨cc0, cc1, cc2, ff1, ff2⟩ := hC2.cells; have HC2 := Hid.mk' hC2; have HG := Hid.mk' (HG1.out.trans hG2); clear hC2 hG2)
              | (go_at_call 184; refine (cOrderOf_any kd _ (by omega) (by omega)).mono ?_; rintro e w0 ⟨rfl, hw0⟩; subst w0))
            have hg : w.heap.size ≤ u2.heap.size := HG.out.size
            have hgB : u2.heap.size ≠ B := by omega
            have HS0 : Hid (SInv w (u2.alloc (.cells (madeCells #[.int .i64 0] n) 3)) B u2.heap.size s b d n q (ord kd) 0 (fun _ => 0) q false) :=
              ⟨(World.rowIs_made u2 (.int .i64 0) n 3).congr fun i _ => by simp [cutV, cutI], HC2.out.of (blk_alloc_lt _ _ _ HC2.out.lt), HG.out.below ((Below.refl _ _).alloc (Nat.le_refl _) _), hp2, fun _ => zero_fits, fun _ => ⟨(posn_zero q d).symm, fun j hj => absurd hj (by omega)⟩, fun e => by cases e⟩
            clear cc0 cc1 cc2 ff1 ff2 hmk
            go_loopw [13] (fun iv wr => ∃ k : Nat, k ≤ ord kd ∧ iv = .int .i64 k ∧ Hid (∃ f pp bb, SInv w wr B u2.heap.size s b d n q (ord kd) k f pp bb)) (fun iv _ => ord kd - (intOf iv).toNat)
            case atStart => exact ⟨0, by omega, rfl, _, _, _, HS0.out⟩
            case round =>
              clear HS0
              obtain ⟨k, hk, rfl, HX⟩ := hrel
              obtain ⟨f, pp, bb, hI⟩ := HX.out
              have HI := Hid.mk' hI
              have hpp := hI.pN
              clear hI HX
              by_cases hkF : k < ord kd
              · obtain ⟨v, p', b', HSH, hp', hS⟩ := short_any B s b d hs hd1 (by omega) HB.out pp bb hpp
                have HHS := Hid.mk' hS
                clear hS
                go_wp2_with (go_at_call 185; refine (HSH.out _ HI.out.cu).mono ?_; rintro e u3 ⟨rfl, hC3, hG3⟩; clear HSH; have HC3 := Hid.mk' hC3; have HG3 := Hid.mk' hG3; clear hC3 hG3; have hfr := (HG3.out.row HI.out.row hgB).frozen k; have hc0 := row_at (HG3.out.row HI.out.row hgB) (by omega))
                go_roundw
                case rel => exact ⟨k + 1, by omega, by go_num, _, _, _, HI.out.step hg hgB hkF hd1 HC3.out HG3.out hp' HHS.out⟩
                case measure => simp [intOf]; omega
              · obtain rfl : k = ord kd := by omega
                have hT4 := HI.out.chg.tab3 HT.out hT3 hB3
                have hsz4 : 3 < wr.heap.size := Nat.lt_of_lt_of_le hT3 HI.out.chg.size
                have HRS := Hid.mk' (cRests_any B u2.heap.size s b pp d n kd bb (fun i => sgn b (posn q d i) d) wr hs hpp hd1 (by omega) hn hk2 hk7 HI.out.cu HB.out (fun e => HI.out.row.congr fun i _ => by
                  obtain ⟨-, h3⟩ := HI.out.good e
                  unfold cutV cutI
                  split
                  · rename_i hi; rw [h3 i hi]
                  · rfl) hgB (fun j _ => sgn_fits b _ hd1) (by omega) hT4 hsz4 hB3 (by omega))
                have HBE := Hid.mk' (body_rests hk2 hk7 hno HI.out)
                generalize (if bb = true then none else cRestsSt b s.size d kd n pp (fun i => sgn b (posn q d i) d)) = ro at HRS HBE
                clear hT4
                cases ro with
                | none =>
                  have HR4 : Hid (Calls Tryz.prog 186 #[.pointer (some ⟨B, 0, none⟩), .int .i64 kd, .int .i64 d, .slice (some ⟨u2.heap.size, 0, none⟩) n n] wr fun e w' => e = .returned (.bool false) ∧ ChgS (fun k => k = B ∨ k = u2.heap.size) wr w') := HRS.out
                  clear HRS
                  go_wp2_with (go_at_call 186; refine HR4.out.mono ?_; rintro e u4 ⟨rfl, hC4⟩; clear HR4; have HC4 := Hid.mk' hC4; clear hC4)
                  go_ret2
                  rw [HOO.out, HBE.out]
                  exact ⟨_, rfl, ChgS.toChg HI.out.chg HC4.out hg⟩
                | some st =>
                  have HR4 : Hid (Calls Tryz.prog 186 #[.pointer (some ⟨B, 0, none⟩), .int .i64 kd, .int .i64 d, .slice (some ⟨u2.heap.size, 0, none⟩) n n] wr fun e w' => e = .returned (.bool true) ∧ w'.rowIs u2.heap.size 3 n (cutV n st.x) ∧ Cu w' B s st.p false ∧ ChgS (fun k => k = B ∨ k = u2.heap.size) wr w') := HRS.out
                  have HF := Hid.mk' (body_fits hd1 HBE.out)
                  have hps := ipow_pos sh
                  have hpl := ipow_le sh 4096 (Nat.le_trans (Nat.pow_le_pow_right (by omega) (by omega : sh ≤ 12)) (by decide))
                  have hpw : IntKind.i64.wrap ((2 : Int) ^ sh) = 2 ^ sh := by rw [IntKind.wrap_i64]; omega
                  clear HRS
                  go_wp2_with (go_at_call 186; refine HR4.out.mono ?_; rintro e u4 ⟨rfl, hrow4, hcu4, hC4⟩; clear HR4; have HROW4 := Hid.mk' hrow4; have HCU4 := Hid.mk' hcu4; have HC4 := Hid.mk' (ChgS.toChg HI.out.chg hC4 hg); clear hC4 hrow4 hcu4)
                  go_loopw [15] (fun iv wr => ∃ k : Nat, k ≤ n ∧ iv = .int .i64 k ∧ Hid (wr.rowIs u2.heap.size 3 n (shV n st.x sh k) ∧ Cu wr B s st.p false ∧ Chg B w wr)) (fun iv _ => n - (intOf iv).toNat)
                  case atStart => exact ⟨0, Nat.zero_le _, rfl, HROW4.out.congr fun i _ => by simp [shV], HCU4.out, HC4.out⟩
                  case round =>
                    clear HROW4 HCU4 HC4
                    obtain ⟨k, hk, rfl, HX⟩ := hrel
                    by_cases hkn : k < n
                    · have hc1 := HX.out.1.cell hkn
                      have hf1 := HX.out.1.frozen k
                      unfold shV cutV cutI at hc1
                      rw [if_neg (Nat.lt_irrefl k), if_pos hkn] at hc1
                      have hmb := mul_sh (width := width) (q := sh) (HF.out k hkn) (by omega) (by omega)
                      have hmw : IntKind.i64.wrap (st.x k * 2 ^ sh) = st.x k * 2 ^ sh := by rw [IntKind.wrap_i64]; omega
                      go_wp2
                      go_region
                      all_goals go_wp2
                      go_roundw
                      case rel =>
                        refine ⟨k + 1, by omega, by go_num, shV_step hkn HX.out.1, ?_, (HX.out.2.2.other ((Chg.refl _ _).set k _) hg).drew⟩
                        exact ((Chg.refl u2.heap.size _).set k _).cu HX.out.2.1 (by omega)
                      case measure => simp [intOf]; omega
                    · have e : k = n := by omega
                      subst e
                      obtain ⟨cd0, cd1, cd2, fd1, fd2⟩ := HX.out.2.1.cells
                      go_wp2
                      go_quiet ((fail))
                      go_wp2
                      go_ret2
                      rw [HOO.out, HBE.out]
                      exact ⟨u2.heap.size, rfl, hg, HX.out.1.congr fun i hi => by simp [shV, hi], HX.out.2.1, HX.out.2.2.drewN _⟩
        · by_cases hk1 : kd = 1
          · have t0 : ((kd : Int) == 0) = false := by simp; omega
            have t1 : decide ((1 : Int) < (kd : Int)) = false := decide_eq_false (by omega)
            have t1N : decide (1 < kd) = false := decide_eq_false (by omega)
            have HBE : Hid (bodySt b s.size kd d n q = if posn q d n ≤ s.size then some (fun i => sgn b (posn q d i) d, posn q d n) else none) := by
              show _ = _; unfold bodySt; rw [if_neg (by omega), if_pos hk1]
            clear hk1
            go_enter Tryz.func159, Tryz.ntmps159
            go_wp2_with (first
              | (go_at_call 183; refine (HK.out _ HC.out).mono ?_; rintro e u1 ⟨rfl, hC1, hG1⟩; clear HK; have HC1 := Hid.mk' hC1; have HG1 := Hid.mk' hG1; clear hC1 hG1)
              | (go_at_call 183; refine (HQ.out _ HC1.out).mono ?_; rintro e u2 ⟨rfl, hC2, hG2⟩; clear HQ; obtain ⟨cc0, cc1, cc2, ff1, ff2⟩ := hC2.cells; have HC2 := Hid.mk' hC2; have HG := Hid.mk' (HG1.out.trans hG2); clear hC2 hG2)
              | (go_at_call 184; refine (cOrderOf_any kd _ (by omega) (by omega)).mono ?_; rintro e w0 ⟨rfl, hw0⟩; subst w0))
            have hg : w.heap.size ≤ u2.heap.size := HG.out.size
            have hgB : u2.heap.size ≠ B := by omega
            have HS0 : Hid (SInv w (u2.alloc (.cells (madeCells #[.int .i64 0] n) 3)) B u2.heap.size s b d n q n 0 (fun _ => 0) q false) :=
              ⟨(World.rowIs_made u2 (.int .i64 0) n 3).congr fun i _ => by simp [cutV, cutI], HC2.out.of (blk_alloc_lt _ _ _ HC2.out.lt), HG.out.below ((Below.refl _ _).alloc (Nat.le_refl _) _), hp2, fun _ => zero_fits, fun _ => ⟨(posn_zero q d).symm, fun j hj => absurd hj (by omega)⟩, fun e => by cases e⟩
            clear cc0 cc1 cc2 ff1 ff2 hmk
            go_loopw [13] (fun iv wr => ∃ k : Nat, k ≤ n ∧ iv = .int .i64 k ∧ Hid (∃ f pp bb, SInv w wr B u2.heap.size s b d n q n k f pp bb)) (fun iv _ => n - (intOf iv).toNat)
            case atStart => exact ⟨0, by omega, rfl, _, _, _, HS0.out⟩
            case round =>
              clear HS0
              obtain ⟨k, hk, rfl, HX⟩ := hrel
              obtain ⟨f, pp, bb, hI⟩ := HX.out
              have HI := Hid.mk' hI
              have hpp := hI.pN
              clear hI HX
              by_cases hkF : k < n
              · obtain ⟨v, p', b', HSH, hp', hS⟩ := short_any B s b d hs hd1 (by omega) HB.out pp bb hpp
                have HHS := Hid.mk' hS
                clear hS
                go_wp2_with (go_at_call 185; refine (HSH.out _ HI.out.cu).mono ?_; rintro e u3 ⟨rfl, hC3, hG3⟩; clear HSH; have HC3 := Hid.mk' hC3; have HG3 := Hid.mk' hG3; clear hC3 hG3; have hfr := (HG3.out.row HI.out.row hgB).frozen k; have hc0 := row_at (HG3.out.row HI.out.row hgB) (by omega))
                go_roundw
                case rel => exact ⟨k + 1, by omega, by go_num, _, _, _, HI.out.step hg hgB hkF hd1 HC3.out HG3.out hp' HHS.out⟩
                case measure => simp [intOf]; omega
              · have hkn : k = n := by omega
                subst k
                have hps := ipow_pos sh
                have hpl := ipow_le sh 4096 (Nat.le_trans (Nat.pow_le_pow_right (by omega) (by omega : sh ≤ 12)) (by decide))
                have hpw : IntKind.i64.wrap ((2 : Int) ^ sh) = 2 ^ sh := by rw [IntKind.wrap_i64]; omega
                have HF := Hid.mk' HI.out.fits
                go_wp2
                go_loopw [15] (fun iv wr => ∃ k : Nat, k ≤ n ∧ iv = .int .i64 k ∧ Hid (wr.rowIs u2.heap.size 3 n (shV n f sh k) ∧ Cu wr B s pp bb ∧ Chg B w wr)) (fun iv _ => n - (intOf iv).toNat)
                case atStart => exact ⟨0, Nat.zero_le _, rfl, HI.out.row.congr fun i _ => by simp [shV], HI.out.cu, HI.out.chg⟩
                case round =>
                  obtain ⟨k, hk, rfl, HX⟩ := hrel
                  by_cases hkn : k < n
                  · have hc1 := HX.out.1.cell hkn
                    have hf1 := HX.out.1.frozen k
                    unfold shV cutV cutI at hc1
                    rw [if_neg (Nat.lt_irrefl k), if_pos hkn] at hc1
                    have hmb := mul_sh (width := width) (q := sh) (HF.out k) (by omega) (by omega)
                    have hmw : IntKind.i64.wrap (f k * 2 ^ sh) = f k * 2 ^ sh := by rw [IntKind.wrap_i64]; omega
                    go_wp2
                    go_region
                    all_goals go_wp2
                    go_roundw
                    case rel =>
                      refine ⟨k + 1, by omega, by go_num, shV_step hkn HX.out.1, ?_, (HX.out.2.2.other ((Chg.refl _ _).set k _) hg).drew⟩
                      exact ((Chg.refl u2.heap.size _).set k _).cu HX.out.2.1 (by omega)
                    case measure => simp [intOf]; omega
                  · have e : k = n := by omega
                    subst k
                    obtain ⟨cd0, cd1, cd2, fd1, fd2⟩ := HX.out.2.1.cells
                    go_wp2
                    go_quiet ((fail))
                    go_wp2
                    go_ret2
                    rw [HOO.out, HBE.out]
                    cases bb with
                    | true =>
                      have := HI.out.bad rfl
                      rw [if_neg (by omega)]
                      exact ⟨_, rfl, HX.out.2.2.drewN _⟩
                    | false =>
                      obtain ⟨hpe, hfe⟩ := HI.out.good rfl
                      rw [if_pos (by omega)]
                      refine ⟨u2.heap.size, rfl, hg, HX.out.1.congr fun i hi => ?_, by rw [← hpe]; exact HX.out.2.1, HX.out.2.2.drewN _⟩
                      simp [shV, hi, cutV, cutI, hfe i hi]
          · have t0 : ((kd : Int) == 0) = true := by simp; omega
            have t1 : decide ((1 : Int) < (kd : Int)) = false := decide_eq_false (by omega)
            have t1N : decide (1 < kd) = false := decide_eq_false (by omega)
            have HBE : Hid (bodySt b s.size kd d n q = if q + d ≤ s.size then some (fun _ => sgn b q d, q + d) else none) := by
              show _ = _; unfold bodySt; rw [if_pos (by omega)]
            have HP1 : Hid (posn q d 1 = q + d) := by show _ = _; rw [posn_succ, posn_zero]
            clear hk1 hk2
            go_enter Tryz.func159, Tryz.ntmps159
            go_wp2_with (first
              | (go_at_call 183; refine (HK.out _ HC.out).mono ?_; rintro e u1 ⟨rfl, hC1, hG1⟩; clear HK; have HC1 := Hid.mk' hC1; have HG1 := Hid.mk' hG1; clear hC1 hG1)
              | (go_at_call 183; refine (HQ.out _ HC1.out).mono ?_; rintro e u2 ⟨rfl, hC2, hG2⟩; clear HQ; obtain ⟨cc0, cc1, cc2, ff1, ff2⟩ := hC2.cells; have HC2 := Hid.mk' hC2; have HG := Hid.mk' (HG1.out.trans hG2); clear hC2 hG2)
              | (go_at_call 184; refine (cOrderOf_any kd _ (by omega) (by omega)).mono ?_; rintro e w0 ⟨rfl, hw0⟩; subst w0))
            have hg : w.heap.size ≤ u2.heap.size := HG.out.size
            have hgB : u2.heap.size ≠ B := by omega
            have HS0 : Hid (SInv w (u2.alloc (.cells (madeCells #[.int .i64 0] n) 3)) B u2.heap.size s b d n q 1 0 (fun _ => 0) q false) :=
              ⟨(World.rowIs_made u2 (.int .i64 0) n 3).congr fun i _ => by simp [cutV, cutI], HC2.out.of (blk_alloc_lt _ _ _ HC2.out.lt), HG.out.below ((Below.refl _ _).alloc (Nat.le_refl _) _), hp2, fun _ => zero_fits, fun _ => ⟨(posn_zero q d).symm, fun j hj => absurd hj (by omega)⟩, fun e => by cases e⟩
            clear cc0 cc1 cc2 ff1 ff2 hmk
            go_loopw [13] (fun iv wr => ∃ k : Nat, k ≤ 1 ∧ iv = .int .i64 k ∧ Hid (∃ f pp bb, SInv w wr B u2.heap.size s b d n q 1 k f pp bb)) (fun iv _ => 1 - (intOf iv).toNat)
            case atStart => exact ⟨0, by omega, rfl, _, _, _, HS0.out⟩
            case round =>
              clear HS0
              obtain ⟨k, hk, rfl, HX⟩ := hrel
              obtain ⟨f, pp, bb, hI⟩ := HX.out
              have HI := Hid.mk' hI
              have hpp := hI.pN
              clear hI HX
              by_cases hkF : k < 1
              · obtain ⟨v, p', b', HSH, hp', hS⟩ := short_any B s b d hs hd1 (by omega) HB.out pp bb hpp
                have HHS := Hid.mk' hS
                clear hS
                go_wp2_with (go_at_call 185; refine (HSH.out _ HI.out.cu).mono ?_; rintro e u3 ⟨rfl, hC3, hG3⟩; clear HSH; have HC3 := Hid.mk' hC3; have HG3 := Hid.mk' hG3; clear hC3 hG3; have hfr := (HG3.out.row HI.out.row hgB).frozen k; have hc0 := row_at (HG3.out.row HI.out.row hgB) (by omega))
                go_roundw
                case rel => exact ⟨k + 1, by omega, by go_num, _, _, _, HI.out.step hg hgB hkF hd1 HC3.out HG3.out hp' HHS.out⟩
                case measure => simp [intOf]; omega
              · have hkn : k = 1 := by omega
                subst k
                have hps := ipow_pos sh
                have hpl := ipow_le sh 4096 (Nat.le_trans (Nat.pow_le_pow_right (by omega) (by omega : sh ≤ 12)) (by decide))
                have hpw : IntKind.i64.wrap ((2 : Int) ^ sh) = 2 ^ sh := by rw [IntKind.wrap_i64]; omega
                have hmb := mul_sh (width := width) (q := sh) (HI.out.fits 0) (by omega) (by omega)
                have hmw : IntKind.i64.wrap (f 0 * 2 ^ sh) = f 0 * 2 ^ sh := by rw [IntKind.wrap_i64]; omega
                go_wp2
                go_loopw [15] (fun iv wr => ∃ k : Nat, k ≤ n ∧ iv = .int .i64 k ∧ Hid (((k = 0 ∧ wr.rowIs u2.heap.size 3 n (cutV 1 f)) ∨ (1 ≤ k ∧ wr.rowIs u2.heap.size 3 n (cutV k (fun _ => f 0 * 2 ^ sh)))) ∧ Cu wr B s pp bb ∧ Chg B w wr)) (fun iv _ => n - (intOf iv).toNat)
                case atStart => exact ⟨0, Nat.zero_le _, rfl, .inl ⟨rfl, HI.out.row⟩, HI.out.cu, HI.out.chg⟩
                case round =>
                  obtain ⟨k, hk, rfl, HX⟩ := hrel
                  by_cases hkn : k < n
                  · by_cases hk0 : k = 0
                    · have hrow : wr.rowIs u2.heap.size 3 n (cutV 1 f) := by
                        rcases HX.out.1 with h | h
                        · exact h.2
                        · have := h.1; omega
                      have HROW := Hid.mk' hrow
                      have hc1 : wr.cell? ⟨u2.heap.size, k, none⟩ = some (.int .i64 (f 0)) := by
                        have := hrow.cell hkn
                        unfold cutV cutI at this
                        rw [if_pos (by omega), hk0] at this
                        rw [hk0]; exact this
                      have hf1 := hrow.frozen k
                      have t2 : decide ((0 : Int) < (k : Int)) = false := decide_eq_false (by omega)
                      have t2N : decide (0 < k) = false := decide_eq_false (by omega)
                      have HK0 := Hid.mk' hk0
                      clear hrow hk0
                      go_wp2
                      go_region
                      all_goals go_wp2
                      go_roundw
                      case rel =>
                        refine ⟨k + 1, by omega, by go_num, .inr ⟨by omega, ?_⟩, ?_, (HX.out.2.2.other ((Chg.refl _ _).set k _) hg).drew⟩
                        · have hk0 := HK0.out
                          exact (HROW.out.set k (.int .i64 (f 0 * 2 ^ sh))).congr fun i _ => by
                            by_cases e : i = k
                            · have : i < k + 1 := by omega
                              simp [e, cutV, cutI]
                            · have h1 : ¬ i < 1 := by omega
                              have h2 : ¬ i < k + 1 := by omega
                              simp only [if_neg e, cutV, cutI, if_neg h1, if_neg h2]
                        · exact ((Chg.refl u2.heap.size _).set k _).cu HX.out.2.1 (by omega)
                      case measure => simp [intOf]; omega
                    · have hrow : wr.rowIs u2.heap.size 3 n (cutV k (fun _ => f 0 * 2 ^ sh)) := by
                        rcases HX.out.1 with h | h
                        · exact absurd h.1 hk0
                        · exact h.2
                      have HROW := Hid.mk' hrow
                      have hc1 := hrow.cell (i := 0) (by omega)
                      have hc0 := row_at hrow hkn
                      have hf1 := hrow.frozen k
                      unfold cutV cutI at hc1
                      rw [if_pos (by omega)] at hc1
                      have t2 : decide ((0 : Int) < (k : Int)) = true := decide_eq_true (by omega)
                      have t2N : decide (0 < k) = true := decide_eq_true (by omega)
                      clear hrow
                      go_wp2
                      go_roundw
                      case rel =>
                        refine ⟨k + 1, by omega, by go_num, .inr ⟨by omega, ?_⟩, ?_, HX.out.2.2.other ((Chg.refl _ _).set k _) hg⟩
                        · exact cutV_step (x := fun _ => f 0 * 2 ^ sh) rfl (HROW.out.set k _)
                        · exact ((Chg.refl u2.heap.size _).set k _).cu HX.out.2.1 (by omega)
                      case measure => simp [intOf]; omega
                  · have e : k = n := by omega
                    subst k
                    obtain ⟨cd0, cd1, cd2, fd1, fd2⟩ := HX.out.2.1.cells
                    go_wp2
                    go_quiet ((fail))
                    go_wp2
                    go_ret2
                    rw [HOO.out, HBE.out]
                    have hp1 := HP1.out
                    cases bb with
                    | true =>
                      have := HI.out.bad rfl
                      rw [if_neg (by omega)]
                      exact ⟨_, rfl, HX.out.2.2.drewN _⟩
                    | false =>
                      obtain ⟨hpe, hfe⟩ := HI.out.good rfl
                      rw [if_pos (by omega)]
                      refine ⟨u2.heap.size, rfl, hg, ?_, by rw [← hp1, ← hpe]; exact HX.out.2.1, HX.out.2.2.drewN _⟩
                      have hf0 := hfe 0 (by omega)
                      rw [posn_zero] at hf0
                      have hrow : wr.rowIs u2.heap.size 3 n (cutV n (fun _ => f 0 * 2 ^ sh)) := by
                        rcases HX.out.1 with h | h
                        · have := h.1; omega
                        · exact h.2
                      rw [hf0] at hrow
                      exact hrow
      · have ts : decide ((width : Int) ≤ (sh : Int)) = true := decide_eq_true (by omega)
        have tsN : decide (width ≤ sh) = true := decide_eq_true (by omega)
        have HNO := Hid.mk' (hno hsw)
        clear hno hyes
        go_enter Tryz.func159, Tryz.ntmps159
        go_wp2_with (first
          | (go_at_call 183; refine (HK.out _ HC.out).mono ?_; rintro e u1 ⟨rfl, hC1, hG1⟩; clear HK; have HC1 := Hid.mk' hC1; have HG1 := Hid.mk' hG1; clear hC1 hG1)
          | (go_at_call 183; refine (HQ.out _ HC1.out).mono ?_; rintro e u2 ⟨rfl, hC2, hG2⟩; clear HQ; obtain ⟨cc0, cc1, cc2, ff1, ff2⟩ := hC2.cells; have HC2 := Hid.mk' hC2; have HG := Hid.mk' (HG1.out.trans hG2); clear hC2 hG2)
          | (go_at_call 184; refine (cOrderOf_any kd _ (by omega) (by omega)).mono ?_; rintro e w0 ⟨rfl, hw0⟩; subst w0))
        go_ret2
        rw [HNO.out]
        exact ⟨_, rfl, HG.out⟩
    · have tk : decide ((7 : Int) < (kd : Int)) = true := decide_eq_true (by omega)
      have tkN : decide (7 < kd) = true := decide_eq_true (by omega)
      have HNO : Hid (oo = none) := by
        show _ = _
        by_cases hsw : sh < width
        · rw [hyes hsw]
          unfold bodySt
          rw [if_neg (by omega), if_neg (by omega), if_pos (.inl (by omega))]
          rfl
        · exact hno hsw
      clear hno hyes
      go_enter Tryz.func159, Tryz.ntmps159
      go_wp2_with (first
        | (go_at_call 183; refine (HK.out _ HC.out).mono ?_; rintro e u1 ⟨rfl, hC1, hG1⟩; clear HK; have HC1 := Hid.mk' hC1; have HG1 := Hid.mk' hG1; clear hC1 hG1)
        | (go_at_call 183; refine (HQ.out _ HC1.out).mono ?_; rintro e u2 ⟨rfl, hC2, hG2⟩; clear HQ; obtain ⟨cc0, cc1, cc2, ff1, ff2⟩ := hC2.cells; have HC2 := Hid.mk' hC2; have HG := Hid.mk' (HG1.out.trans hG2); clear hC2 hG2)
        | (go_at_call 184; refine (cOrderOf_any kd _ (by omega) (by omega)).mono ?_; rintro e w0 ⟨rfl, hw0⟩; subst w0))
      go_ret2
      rw [HNO.out]
      exact ⟨_, rfl, HG.out⟩

theorem cSub_any (B : Nat) (s : ByteArray) (b : Nat → Bool) (width n : Nat) (w : World) (hs : s.size ≤ 80000) (hw1 : 1 ≤ width) (hw : width ≤ 13) (hn1 : 1 ≤ n) (hn : n ≤ 32)
    (hC : Cu w B s 0 false) (hb : Bits s b) (hT : TabAt w 3) (hT3 : 3 < w.heap.size) (hB3 : B ≠ 3) :
    Calls Tryz.prog 159 #[.pointer (some ⟨B, 0, none⟩), .int .i64 width, .int .i64 n] w fun e w' => CSubOut e w w' B s n (readSt b s.size width n) := by
  have h := cSubAt_any B s b width n 0 8 w rfl (Nat.zero_le _) hs hw1 hw hn1 hn hC hb hT hT3 hB3
  rwa [readAt_zero] at h
end Go.Proofs.YtlncjgnomhpjnaaGreatDoor

