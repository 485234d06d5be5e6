import Derived.Test.YtlncjgnomhpjnaaGreatDoorPR5
import Derived.Test.YtlncjgnomhpjnaaGreatDoorPR17
/-
  What is read of a text from a place on is what is read of its rest.
-/
namespace Go.Proofs.YtlncjgnomhpjnaaGreatDoor
set_option linter.unusedVariables false
/-- the text from place o on -/
def shB (b : Nat → Bool) (o i : Nat) : Bool := b (o + i)
def shS (o : Nat) (s : St) : St := ⟨o + s.p, s.k, s.x⟩
theorem num_sh (b : Nat → Bool) (o p k : Nat) : num (shB b o) p k = num b (o + p) k := by
  unfold num shB
  simp only [Nat.add_assoc]
theorem sgn_sh (b : Nat → Bool) (o p k : Nat) : sgn (shB b o) p k = sgn b (o + p) k := by
  unfold sgn
  rw [num_sh]
theorem zrun_sh (b : Nat → Bool) (o : Nat) : ∀ m p, zrun (shB b o) m p = zrun b m (o + p)
  | 0, _ => rfl
  | m + 1, p => by
    have e : shB b o p = b (o + p) := rfl
    unfold zrun
    rw [e, zrun_sh b o m (p + 1), Nat.add_assoc]
theorem rice_sh {b : Nat → Bool} {o N : Nat} (ho : o ≤ N) (k p : Nat) : rice b N k (o + p) = (rice (shB b o) (N - o) k p).map fun r => (r.1, o + r.2) := by
  unfold rice
  rw [zrun_sh, num_sh, show N - o - p = N - (o + p) by omega]
  by_cases h : o + p + zrun b (N - (o + p)) (o + p) + 1 + k ≤ N
  · rw [if_pos h, if_pos (by omega)]
    simp only [Option.map_some]
    congr 2
    · congr 3; omega
    · omega
  · rw [if_neg h, if_neg (by omega)]; rfl
/-- the same job over the rest -/
def Job.sh (J : Job) (o : Nat) : Job := ⟨shB J.b o, J.N - o, J.w, J.kind, J.a, J.c, J.size⟩
theorem Job.rdK_sh {J : Job} {o : Nat} (ho : o ≤ J.N) (s : St) : J.rdK (shS o s) = ((J.sh o).rdK s).map (shS o) := by
  unfold Job.rdK Job.sh shS
  simp only [num_sh]
  by_cases h : o + s.p + 4 ≤ J.N ∧ num J.b (o + s.p) 4 ≤ 14
  · rw [if_pos h, if_pos ⟨by omega, h.2⟩]
    simp only [Option.map_some]
    rw [Nat.add_assoc]
  · rw [if_neg h, if_neg (fun hh => h ⟨by omega, hh.2⟩)]; rfl
theorem Job.plc_sh {J : Job} {o : Nat} (ho : o ≤ J.N) (i : Nat) (s : St) : J.plc i (shS o s) = ((J.sh o).plc i s).map (shS o) := by
  unfold Job.plc
  have e1 : (J.sh o).kind = J.kind := rfl
  by_cases hi : i < ord J.kind
  · rw [if_pos hi, if_pos (by rw [e1]; exact hi)]; rfl
  · rw [if_neg hi, if_neg (by rw [e1]; exact hi)]
    have e2 : rice J.b J.N (shS o s).k (shS o s).p = (rice (J.sh o).b (J.sh o).N s.k s.p).map fun r => (r.1, o + r.2) := rice_sh ho s.k s.p
    rw [e2]
    cases hr : rice (J.sh o).b (J.sh o).N s.k s.p with
    | none => rfl
    | some r =>
      obtain ⟨v, p'⟩ := r
      simp only [Option.map_some]
      show (if fitsB J.w (guessG J.kind J.a J.c s.x i + v) = true then _ else _) = Option.map _ (if fitsB J.w (guessG J.kind J.a J.c s.x i + v) = true then _ else _)
      by_cases hf : fitsB J.w (guessG J.kind J.a J.c s.x i + v) = true
      · rw [if_pos hf, if_pos hf]; rfl
      · rw [if_neg hf, if_neg hf]; rfl
theorem Job.R_sh {J : Job} {o : Nat} (ho : o ≤ J.N) (s0 : St) : ∀ i, J.R (shS o s0) i = ((J.sh o).R s0 i).map (shS o)
  | 0 => rfl
  | i + 1 => by
    unfold Job.R
    rw [Job.R_sh ho s0 i]
    cases h : (J.sh o).R s0 i with
    | none => rfl
    | some s =>
      simp only [Option.map_some, Option.bind_some]
      have e : (J.sh o).size = J.size := rfl
      rw [e]
      by_cases hm : i % J.size = 0
      · rw [if_pos hm, if_pos hm, Job.rdK_sh ho]
        cases h2 : (J.sh o).rdK s with
        | none => rfl
        | some s2 => simp only [Option.map_some, Option.bind_some]; exact Job.plc_sh ho i s2
      · rw [if_neg hm, if_neg hm]
        simp only [Option.bind_some]
        exact Job.plc_sh ho i s
theorem restsSt_sh {b : Nat → Bool} {o N : Nat} (ho : o ≤ N) (d kind : Nat) (a c : Int) (n p : Nat) (x0 : Nat → Int) : restsSt b N d kind a c n (o + p) x0 = (restsSt (shB b o) (N - o) d kind a c n p x0).map (shS o) := by
  unfold restsSt
  rw [num_sh]
  by_cases h : o + p + 2 ≤ N ∧ cutB n (ord kind) (num b (o + p) 2) = true
  · rw [if_pos h, if_pos ⟨by omega, h.2⟩]
    have e1 : (theJob b N d kind a c n (o + p)).sh o = theJob (shB b o) (N - o) d kind a c n p := by
      unfold theJob Job.sh
      simp only [num_sh]
    have e2 : (⟨o + p + 2, 0, x0⟩ : St) = shS o ⟨p + 2, 0, x0⟩ := by unfold shS; simp only [Nat.add_assoc]
    rw [e2, Job.R_sh (J := theJob b N d kind a c n (o + p)) ho, e1]
  · rw [if_neg h, if_neg (fun hh => h ⟨by omega, hh.2⟩)]; rfl
theorem posn_sh (o p d i : Nat) : posn (o + p) d i = o + posn p d i := by unfold posn; omega
theorem bodySt_sh {b : Nat → Bool} {o N : Nat} (ho : o ≤ N) (kind d n p : Nat) : bodySt b N kind d n (o + p) = (bodySt (shB b o) (N - o) kind d n p).map fun r => (r.1, o + r.2) := by
  unfold bodySt
  simp only [sgn_sh, posn_sh]
  by_cases h0 : kind = 0
  · rw [if_pos h0, if_pos h0]
    by_cases h : o + p + d ≤ N
    · rw [if_pos h, if_pos (by omega)]; simp only [Option.map_some, Nat.add_assoc]
    · rw [if_neg h, if_neg (by omega)]; rfl
  · rw [if_neg h0, if_neg h0]
    by_cases h1 : kind = 1
    · rw [if_pos h1, if_pos h1]
      by_cases h : o + posn p d n ≤ N
      · rw [if_pos h, if_pos (by omega)]; rfl
      · rw [if_neg h, if_neg (by omega)]; rfl
    · rw [if_neg h1, if_neg h1]
      by_cases h2 : 7 < kind ∨ n ≤ ord kind
      · rw [if_pos h2, if_pos h2]; rfl
      · rw [if_neg h2, if_neg h2]
        by_cases h : o + posn p d (ord kind) ≤ N
        · rw [if_pos h, if_pos (show posn p d (ord kind) ≤ N - o by omega)]
          by_cases h7 : kind = 7
          · rw [if_pos h7, if_pos h7]
            by_cases hh : o + posn p d (ord kind) + 12 ≤ N
            · rw [if_pos hh, if_pos (show posn p d (ord kind) + 12 ≤ N - o by omega), Nat.add_assoc o, Nat.add_assoc o, restsSt_sh ho]
              cases restsSt (shB b o) (N - o) d kind (sgn b (o + posn p d (ord kind)) 6) (sgn b (o + (posn p d (ord kind) + 6)) 6) n (posn p d (ord kind) + 12) (fun i => sgn b (o + posn p d i) d) <;> rfl
            · rw [if_neg hh, if_neg (show ¬ posn p d (ord kind) + 12 ≤ N - o by omega)]; rfl
          · rw [if_neg h7, if_neg h7, restsSt_sh ho]
            cases restsSt (shB b o) (N - o) d kind 0 0 n (posn p d (ord kind)) (fun i => sgn b (o + posn p d i) d) <;> rfl
        · rw [if_neg h, if_neg (show ¬ posn p d (ord kind) ≤ N - o by omega)]; rfl
/-- reading at a place of a longer text -/
def readAt (b : Nat → Bool) (N o width n : Nat) : Option ((Nat → Int) × Nat) :=
  if o + 8 ≤ N ∧ num b (o + 4) 4 < width then (bodySt b N (num b o 4) (width - num b (o + 4) 4) n (o + 8)).map fun xp => (fun i => xp.1 i * 2 ^ num b (o + 4) 4, xp.2) else none
theorem readAt_sh {b : Nat → Bool} {o N : Nat} (ho : o ≤ N) (width n : Nat) : readAt b N o width n = (readSt (shB b o) (N - o) width n).map fun r => (r.1, o + r.2) := by
  unfold readAt readSt
  rw [num_sh, num_sh, Nat.add_zero, bodySt_sh ho]
  by_cases h : o + 8 ≤ N ∧ num b (o + 4) 4 < width
  · rw [if_pos h, if_pos ⟨by omega, h.2⟩]
    cases bodySt (shB b o) (N - o) (num b o 4) (width - num b (o + 4) 4) n 8 <;> rfl
  · rw [if_neg h, if_neg (fun hh => h ⟨by omega, hh.2⟩)]; rfl
end Go.Proofs.YtlncjgnomhpjnaaGreatDoor

/-
  The document's reader: subframe.
-/
namespace Go.Proofs.YtlncjgnomhpjnaaGreatDoor
open Go.RowKit Go.Deep
set_option linter.unusedVariables false
def CSubOut (e : Ending) (w w' : World) (B : Nat) (s : ByteArray) (n : Nat) : Option ((Nat → Int) × Nat) → Prop
  | some xp => ∃ g, e = .returned (.tuple #[.slice (some ⟨g, 0, none⟩) n n, .bool true]) ∧ w.heap.size ≤ g ∧ w'.rowIs g 3 n (cutV n xp.1) ∧ Cu w' B s xp.2 false ∧ Chg B w w'
  | none => ∃ v, e = .returned (.tuple #[v, .bool false]) ∧ Chg B w w'
/-- what holds while the first samples are read -/
structure SInv (w wr : World) (B g : Nat) (s : ByteArray) (b : Nat → Bool) (d n p F k : Nat) (f : Nat → Int) (pp : Nat) (bb : Bool) : Prop where
  row : wr.rowIs g 3 n (cutV k f)
  cu : Cu wr B s pp bb
  chg : Chg B w wr
  pN : pp ≤ s.size
  fits : ∀ j, fitsB d (f j) = true
  good : bb = false → pp = posn p d k ∧ ∀ j, j < k → f j = sgn b (posn p d j) d
  bad : bb = true → s.size < posn p d F
theorem Chg.drew {B : Nat} {a b : World} (h : Chg B a b) : Chg B a b.drew := ⟨h.os, h.tape, h.output, h.size, h.block⟩
theorem zero_fits {d : Nat} : fitsB d 0 = true := by
  unfold fitsB
  rw [within_iff]
  have : (1 : Int) ≤ 2 ^ (d - 1) := by have : 0 < 2 ^ (d - 1) := Nat.two_pow_pos _; exact_mod_cast this
  omega
theorem SInv.step {w wr u : World} {B g : Nat} {s : ByteArray} {b : Nat → Bool} {d n p F k : Nat} {f : Nat → Int} {pp : Nat} {bb : Bool} (h : SInv w wr B g s b d n p F k f pp bb) (hg : w.heap.size ≤ g) (hgB : g ≠ B) (hkF : k < F) (hd1 : 1 ≤ d)
    {v : Int} {p' : Nat} {b' : Bool} (hC : Cu u B s p' b') (hG : Chg B wr u) (hp' : p' ≤ s.size)
    (hS : (bb = false ∧ pp + d ≤ s.size ∧ v = sgn b pp d ∧ p' = pp + d ∧ b' = false) ∨ (¬ (bb = false ∧ pp + d ≤ s.size) ∧ v = 0 ∧ b' = true)) :
    SInv w (u.setCell ⟨g, k, none⟩ (.int .i64 v)) B g s b d n p F (k + 1) (updI f k v) p' b' := by
  have hch : Chg g u (u.setCell ⟨g, k, none⟩ (.int .i64 v)) := (Chg.refl _ _).set _ _
  have hrow := hG.row h.row hgB
  refine ⟨cutV_step (x := updI f k v) (z := v) (by simp [updI]) ((hrow.set k (.int .i64 v)).congr fun i _ => ?_), hch.cu hC (Ne.symm hgB), (h.chg.trans hG).other hch hg, hp', fun j => ?_, fun e => ?_, fun e => ?_⟩
  · by_cases e : i = k
    · simp [e]
    · simp only [if_neg e, cutV, cutI, updI]
  · unfold updI
    split
    · rcases hS with ⟨-, -, rfl, -, -⟩ | ⟨-, rfl, -⟩
      · exact sgn_fits b pp hd1
      · exact zero_fits
    · exact h.fits j
  · subst e
    rcases hS with ⟨rfl, h1, rfl, rfl, -⟩ | ⟨-, -, h⟩
    · obtain ⟨rfl, h3⟩ := h.good rfl
      refine ⟨(posn_succ p d k).symm, fun j hj => ?_⟩
      unfold updI
      split
      · rename_i e; rw [e]
      · exact h3 j (by omega)
    · cases h
  · subst e
    rcases hS with ⟨-, -, -, -, h⟩ | ⟨h1, -, -⟩
    · cases h
    · cases bb with
      | true => exact h.bad rfl
      | false =>
        obtain ⟨h2, -⟩ := h.good rfl
        simp only [true_and] at h1
        have h3 := posn_succ p d k
        have h4 := posn_le p d (show k + 1 ≤ F by omega)
        omega
/-- kind and shift, from place o on -/
theorem sub_head {b : Nat → Bool} {N width n : Nat} {kd o q p1 sh p2 : Nat} {b1 b2 : Bool} (hq : q = o + 8)
    (hK : (false = false ∧ o + 4 ≤ N ∧ kd = num b o 4 ∧ p1 = o + 4 ∧ b1 = false) ∨ (¬ (false = false ∧ o + 4 ≤ N) ∧ kd = 0 ∧ b1 = true))
    (hQ : (b1 = false ∧ p1 + 4 ≤ N ∧ sh = num b p1 4 ∧ p2 = p1 + 4 ∧ b2 = false) ∨ (¬ (b1 = false ∧ p1 + 4 ≤ N) ∧ sh = 0 ∧ b2 = true)) :
    kd < 16 ∧ sh < 16 ∧ (b2 = true → readAt b N o width n = none) ∧ (b2 = false → q = p2 ∧ (¬ sh < width → readAt b N o width n = none) ∧ (sh < width → readAt b N o width n = (bodySt b N kd (width - sh) n q).map fun xp => (fun i => xp.1 i * 2 ^ sh, xp.2))) := by
  have h1 : num b o 4 < 16 := num_lt b o 4
  have h2 : num b p1 4 < 16 := num_lt b p1 4
  refine ⟨by omega, by omega, fun e => ?_, fun e => ?_⟩
  · unfold readAt
    rw [if_neg]
    rintro ⟨h8, -⟩
    subst e
    rcases hK with ⟨-, h4, rfl, rfl, rfl⟩ | ⟨h4, -, -⟩
    · rcases hQ with ⟨-, -, -, -, h⟩ | ⟨h, -, -⟩
      · cases h
      · exact h ⟨rfl, by omega⟩
    · exact h4 ⟨rfl, by omega⟩
  · subst e
    rcases hQ with ⟨rfl, h8, rfl, rfl, -⟩ | ⟨-, -, h⟩
    · rcases hK with ⟨-, h4, rfl, rfl, -⟩ | ⟨-, -, h⟩
      · refine ⟨by omega, fun h => ?_, fun h => ?_⟩
        · unfold readAt; rw [if_neg (fun h3 => h h3.2)]
        · unfold readAt; rw [if_pos ⟨by omega, h⟩, hq]
      · cases h
    · cases h
theorem Chg.tab3 {B : Nat} {w w' : World} (h : Chg B w w') (hT : TabAt w 3) (h3 : 3 < w.heap.size) (hB : B ≠ 3) : TabAt w' 3 := by
  intro r c hr hc
  have := hT r c hr hc
  simp only [World.cell?, h.block 3 h3 (fun e => hB (by injection e with e; exact e.symm))] at this ⊢
  exact this
theorem body_rests {w wr : World} {B g : Nat} {s : ByteArray} {b : Nat → Bool} {d n kd q : Nat} {f : Nat → Int} {pp : Nat} {bb : Bool} (h2 : 2 ≤ kd) (h7 : kd ≤ 7) (hno : ¬ n ≤ ord kd) (h : SInv w wr B g s b d n q (ord kd) (ord kd) f pp bb) :
    bodySt b s.size kd d n q = (if bb = true then none else cRestsSt b s.size d kd n pp (fun i => sgn b (posn q d i) d)).map fun st => (st.x, st.p) := by
  unfold bodySt
  rw [if_neg (by omega), if_neg (by omega), if_neg (by omega)]
  cases bb with
  | true =>
    have := h.bad rfl
    rw [if_neg (by omega)]
    rfl
  | false =>
    obtain ⟨rfl, -⟩ := h.good rfl
    rw [if_pos h.pN, show (if false = true then (none : Option St) else cRestsSt b s.size d kd n (posn q d (ord kd)) (fun i => sgn b (posn q d i) d)) = cRestsSt b s.size d kd n (posn q d (ord kd)) (fun i => sgn b (posn q d i) d) from rfl]
    unfold cRestsSt
    by_cases h7' : kd = 7
    · rw [if_pos h7', if_pos h7']
      split <;> rfl
    · rw [if_neg h7', if_neg h7']
set_option maxRecDepth 100000 in
set_option maxHeartbeats 4000000 in
theorem cSubAt_any (B : Nat) (s : ByteArray) (b : Nat → Bool) (width n o q : Nat) (w : World) (hq : q = o + 8) (ho : o ≤ s.size) (hs : s.size ≤ 80000) (hw1 : 1 ≤ width) (hw : width ≤ 13) (hn1 : 1 ≤ n) (hn : n ≤ 32)
    (hC : Cu w B s o false) (hb : Bits s b) (hT : TabAt w 3) (hT3 : 3 < w.heap.size) (hB3 : B ≠ 3) :
    Calls Tryz.prog 159 #[.pointer (some ⟨B, 0, none⟩), .int .i64 width, .int .i64 n] w fun e w' => CSubOut e w w' B s n (readAt b s.size o width n) := by
  generalize hoo : readAt b s.size o width n = oo
  have hBlt := hC.lt
  have HC := Hid.mk' hC
  have HB := Hid.mk' hb
  have HT := Hid.mk' hT
  clear hC hb hT
  obtain ⟨kd, p1, b1, HK, hp1, hK⟩ := count_any B s b 4 hs (by omega) HB.out o false ho
  obtain ⟨sh, p2, b2, HQ, hp2, hQ⟩ := count_any B s b 4 hs (by omega) HB.out p1 b1 hp1
  obtain ⟨hkd, hsh, hno, hyes⟩ := sub_head (width := width) (n := n) hq hK hQ
  rw [hoo] at hno hyes
  clear hoo hK hQ hq ho
  have HNO := Hid.mk' hno
  have HYES := Hid.mk' hyes
  clear hno hyes
  cases b2 with
  | true =>
    go_enter Tryz.func159, Tryz.ntmps159
    go_wp2_with (first
      | (go_at_call 183; refine (HK.out _ HC.out).mono ?_; rintro e u1 ⟨rfl, hC1, hG1⟩; clear HK; have HC1 := Hid.mk' hC1; have HG1 := Hid.mk' hG1; clear hC1 hG1)
      | (go_at_call 183; refine (HQ.out _ HC1.out).mono ?_; rintro e u2 ⟨rfl, hC2, hG2⟩; clear HQ; obtain ⟨cc0, cc1, cc2, ff1, ff2⟩ := hC2.cells; have HC2 := Hid.mk' hC2; have HG := Hid.mk' (HG1.out.trans hG2); clear hC2 hG2)
      | (go_at_call 184; refine (cOrderOf_any kd _ (by omega) (by omega)).mono ?_; rintro e w0 ⟨rfl, hw0⟩; subst w0))
    go_ret2
    rw [HNO.out (by first | rfl | trivial)]
    exact ⟨_, rfl, HG.out⟩
  | false =>
    obtain ⟨rfl, hno, hyes⟩ := HYES.out rfl
    clear HNO HYES
    by_cases hk7 : kd ≤ 7
    · have tk : decide ((7 : Int) < (kd : Int)) = false := decide_eq_false (by omega)
      have tkN : decide (7 < kd) = false := decide_eq_false (by omega)
      by_cases hsw : sh < width
      · have ts : decide ((width : Int) ≤ (sh : Int)) = false := decide_eq_false (by omega)
        have tsN : decide (width ≤ sh) = false := decide_eq_false (by omega)
        have HOO := Hid.mk' (hyes hsw)
        clear hno hyes
        obtain ⟨d, hd⟩ : ∃ d, width = d + sh := ⟨width - sh, by omega⟩
        have hd1 : 1 ≤ d := by omega
        have hdd : (width : Int) - (sh : Int) = (d : Int) := by omega
        have hdw : IntKind.i64.wrap ((width : Int) - (sh : Int)) = (d : Int) := by rw [hdd, IntKind.wrap_i64]; omega
        rw [show width - sh = d by omega] at HOO
        have hd13 : d + sh ≤ 13 := by omega
        have HD := Hid.mk' hd
        clear hd
        have hmk := run_make_row' (P := Tryz.prog) 29 3 (.int .i64 0) 8 Tryz.underlying29 infoInt rfl .i64 .i64 n (by omega) (by omega)
        by_cases hk2 : 2 ≤ kd
        · have t0 : ((kd : Int) == 0) = false := by simp; omega
          have t1 : decide ((1 : Int) < (kd : Int)) = true := decide_eq_true (by omega)
          have t1N : decide (1 < kd) = true := decide_eq_true (by omega)
          by_cases hno : n ≤ ord kd
          · have tn : decide ((n : Int) ≤ (ord kd : Int)) = true := decide_eq_true (by omega)
            have tnN : decide (n ≤ ord kd) = true := decide_eq_true hno
            have HNO : Hid (oo = none) := by
              show _ = _
              rw [HOO.out]
              unfold bodySt
              rw [if_neg (by omega), if_neg (by omega), if_pos (.inr hno)]
              rfl
            go_enter Tryz.func159, Tryz.ntmps159
            go_wp2_with (first
              | (go_at_call 183; refine (HK.out _ HC.out).mono ?_; rintro e u1 ⟨rfl, hC1, hG1⟩; clear HK; have HC1 := Hid.mk' hC1; have HG1 := Hid.mk' hG1; clear hC1 hG1)
              | (go_at_call 183; refine (HQ.out _ HC1.out).mono ?_; rintro e u2 ⟨rfl, hC2, hG2⟩; clear HQ; obtain ⟨cc0, cc1, cc2, ff1, ff2⟩ := hC2.cells; have HC2 := Hid.mk' hC2; have HG := Hid.mk' (HG1.out.trans hG2); clear hC2 hG2)
              | (go_at_call 184; refine (cOrderOf_any kd _ (by omega) (by omega)).mono ?_; rintro e w0 ⟨rfl, hw0⟩; subst w0))
            go_ret2
            rw [HNO.out]
            exact ⟨_, rfl, HG.out.below ((Below.refl _ _).alloc (Nat.le_refl _) _)⟩
          · have tn : decide ((n : Int) ≤ (ord kd : Int)) = false := decide_eq_false (by omega)
            have tnN : decide (n ≤ ord kd) = false := decide_eq_false hno
            go_enter Tryz.func159, Tryz.ntmps159
            go_wp2_with (first
              | (go_at_call 183; refine (HK.out _ HC.out).mono ?_; rintro e u1 ⟨rfl, hC1, hG1⟩; clear HK; have HC1 := Hid.mk' hC1; have HG1 := Hid.mk' hG1; clear hC1 hG1)
              | (go_at_call 183; refine (HQ.out _ HC1.out).mono ?_; rintro e u2 ⟨rfl, hC2, hG2⟩; clear HQ; obtain ⟨cc0, cc1, cc2, ff1, ff2⟩ := hC2.cells; have HC2 := Hid.mk' hC2; have HG := Hid.mk' (HG1.out.trans hG2); clear hC2 hG2)
              | (go_at_call 184; refine (cOrderOf_any kd _ (by omega) (by omega)).mono ?_; rintro e w0 ⟨rfl, hw0⟩; subst w0))
            have hg : w.heap.size ≤ u2.heap.size := HG.out.size
            have hgB : u2.heap.size ≠ B := by omega
            have HS0 : Hid (SInv w (u2.alloc (.cells (madeCells #[.int .i64 0] n) 3)) B u2.heap.size s b d n q (ord kd) 0 (fun _ => 0) q false) :=
              ⟨(World.rowIs_made u2 (.int .i64 0) n 3).congr fun i _ => by simp [cutV, cutI], HC2.out.of (blk_alloc_lt _ _ _ HC2.out.lt), HG.out.below ((Below.refl _ _).alloc (Nat.le_refl _) _), hp2, fun _ => zero_fits, fun _ => ⟨(posn_zero q d).symm, fun j hj => absurd hj (by omega)⟩, fun e => by cases e⟩
            clear cc0 cc1 cc2 ff1 ff2 hmk
            go_loopw [13] (fun iv wr => ∃ k : Nat, k ≤ ord kd ∧ iv = .int .i64 k ∧ Hid (∃ f pp bb, SInv w wr B u2.heap.size s b d n q (ord kd) k f pp bb)) (fun iv _ => ord kd - (intOf iv).toNat)
            case atStart => exact ⟨0, by omega, rfl, _, _, _, HS0.out⟩
            case round =>
              clear HS0
              obtain ⟨k, hk, rfl, HX⟩ := hrel
              obtain ⟨f, pp, bb, hI⟩ := HX.out
              have HI := Hid.mk' hI
              have hpp := hI.pN
              clear hI HX
              by_cases hkF : k < ord kd
              · obtain ⟨v, p', b', HSH, hp', hS⟩ := short_any B s b d hs hd1 (by omega) HB.out pp bb hpp
                have HHS := Hid.mk' hS
                clear hS
                go_wp2_with (go_at_call 185; refine (HSH.out _ HI.out.cu).mono ?_; rintro e u3 ⟨rfl, hC3, hG3⟩; clear HSH; have HC3 := Hid.mk' hC3; have HG3 := Hid.mk' hG3; clear hC3 hG3; have hfr := (HG3.out.row HI.out.row hgB).frozen k; have hc0 := row_at (HG3.out.row HI.out.row hgB) (by omega))
                go_roundw
                case rel => exact ⟨k + 1, by omega, by go_num, _, _, _, HI.out.step hg hgB hkF hd1 HC3.out HG3.out hp' HHS.out⟩
                case measure => simp [intOf]; omega
              · obtain rfl : k = ord kd := by omega
                have hT4 := HI.out.chg.tab3 HT.out hT3 hB3
                have hsz4 : 3 < wr.heap.size := Nat.lt_of_lt_of_le hT3 HI.out.chg.size
                have HRS := Hid.mk' (cRests_any B u2.heap.size s b pp d n kd bb (fun i => sgn b (posn q d i) d) wr hs hpp hd1 (by omega) hn hk2 hk7 HI.out.cu HB.out (fun e => HI.out.row.congr fun i _ => by
                  obtain ⟨-, h3⟩ := HI.out.good e
                  unfold cutV cutI
                  split
                  · rename_i hi; rw [h3 i hi]
                  · rfl) hgB (fun j _ => sgn_fits b _ hd1) (by omega) hT4 hsz4 hB3 (by omega))
                have HBE := Hid.mk' (body_rests hk2 hk7 hno HI.out)
                generalize (if bb = true then none else cRestsSt b s.size d kd n pp (fun i => sgn b (posn q d i) d)) = ro at HRS HBE
                clear hT4
                cases ro with
                | none =>
                  have HR4 : Hid (Calls Tryz.prog 186 #[.pointer (some ⟨B, 0, none⟩), .int .i64 kd, .int .i64 d, .slice (some ⟨u2.heap.size, 0, none⟩) n n] wr fun e w' => e = .returned (.bool false) ∧ ChgS (fun k => k = B ∨ k = u2.heap.size) wr w') := HRS.out
                  clear HRS
                  go_wp2_with (go_at_call 186; refine HR4.out.mono ?_; rintro e u4 ⟨rfl, hC4⟩; clear HR4; have HC4 := Hid.mk' hC4; clear hC4)
                  go_ret2
                  rw [HOO.out, HBE.out]
                  exact ⟨_, rfl, ChgS.toChg HI.out.chg HC4.out hg⟩
                | some st =>
                  have HR4 : Hid (Calls Tryz.prog 186 #[.pointer (some ⟨B, 0, none⟩), .int .i64 kd, .int .i64 d, .slice (some ⟨u2.heap.size, 0, none⟩) n n] wr fun e w' => e = .returned (.bool true) ∧ w'.rowIs u2.heap.size 3 n (cutV n st.x) ∧ Cu w' B s st.p false ∧ ChgS (fun k => k = B ∨ k = u2.heap.size) wr w') := HRS.out
                  have HF := Hid.mk' (body_fits hd1 HBE.out)
                  have hps := ipow_pos sh
                  have hpl := ipow_le sh 4096 (Nat.le_trans (Nat.pow_le_pow_right (by omega) (by omega : sh ≤ 12)) (by decide))
                  have hpw : IntKind.i64.wrap ((2 : Int) ^ sh) = 2 ^ sh := by rw [IntKind.wrap_i64]; omega
                  clear HRS
                  go_wp2_with (go_at_call 186; refine HR4.out.mono ?_; rintro e u4 ⟨rfl, hrow4, hcu4, hC4⟩; clear HR4; have HROW4 := Hid.mk' hrow4; have HCU4 := Hid.mk' hcu4; have HC4 := Hid.mk' (ChgS.toChg HI.out.chg hC4 hg); clear hC4 hrow4 hcu4)
                  go_loopw [15] (fun iv wr => ∃ k : Nat, k ≤ n ∧ iv = .int .i64 k ∧ Hid (wr.rowIs u2.heap.size 3 n (shV n st.x sh k) ∧ Cu wr B s st.p false ∧ Chg B w wr)) (fun iv _ => n - (intOf iv).toNat)
                  case atStart => exact ⟨0, Nat.zero_le _, rfl, HROW4.out.congr fun i _ => by simp [shV], HCU4.out, HC4.out⟩
                  case round =>
                    clear HROW4 HCU4 HC4
                    obtain ⟨k, hk, rfl, HX⟩ := hrel
                    by_cases hkn : k < n
                    · have hc1 := HX.out.1.cell hkn
                      have hf1 := HX.out.1.frozen k
                      unfold shV cutV cutI at hc1
                      rw [if_neg (Nat.lt_irrefl k), if_pos hkn] at hc1
                      have hmb := mul_sh (width := width) (q := sh) (HF.out k hkn) (by omega) (by omega)
                      have hmw : IntKind.i64.wrap (st.x k * 2 ^ sh) = st.x k * 2 ^ sh := by rw [IntKind.wrap_i64]; omega
                      go_wp2
                      go_region
                      all_goals go_wp2
                      go_roundw
                      case rel =>
                        refine ⟨k + 1, by omega, by go_num, shV_step hkn HX.out.1, ?_, (HX.out.2.2.other ((Chg.refl _ _).set k _) hg).drew⟩
                        exact ((Chg.refl u2.heap.size _).set k _).cu HX.out.2.1 (by omega)
                      case measure => simp [intOf]; omega
                    · have e : k = n := by omega
                      subst e
                      obtain ⟨cd0, cd1, cd2, fd1, fd2⟩ := HX.out.2.1.cells
                      go_wp2
                      go_quiet ((fail))
                      go_wp2
                      go_ret2
                      rw [HOO.out, HBE.out]
                      exact ⟨u2.heap.size, rfl, hg, HX.out.1.congr fun i hi => by simp [shV, hi], HX.out.2.1, HX.out.2.2.drewN _⟩
        · by_cases hk1 : kd = 1
          · have t0 : ((kd : Int) == 0) = false := by simp; omega
            have t1 : decide ((1 : Int) < (kd : Int)) = false := decide_eq_false (by omega)
            have t1N : decide (1 < kd) = false := decide_eq_false (by omega)
            have HBE : Hid (bodySt b s.size kd d n q = if posn q d n ≤ s.size then some (fun i => sgn b (posn q d i) d, posn q d n) else none) := by
              show _ = _; unfold bodySt; rw [if_neg (by omega), if_pos hk1]
            clear hk1
            go_enter Tryz.func159, Tryz.ntmps159
            go_wp2_with (first
              | (go_at_call 183; refine (HK.out _ HC.out).mono ?_; rintro e u1 ⟨rfl, hC1, hG1⟩; clear HK; have HC1 := Hid.mk' hC1; have HG1 := Hid.mk' hG1; clear hC1 hG1)
              | (go_at_call 183; refine (HQ.out _ HC1.out).mono ?_; rintro e u2 ⟨rfl, hC2, hG2⟩; clear HQ; obtain ⟨cc0, cc1, cc2, ff1, ff2⟩ := hC2.cells; have HC2 := Hid.mk' hC2; have HG := Hid.mk' (HG1.out.trans hG2); clear hC2 hG2)
              | (go_at_call 184; refine (cOrderOf_any kd _ (by omega) (by omega)).mono ?_; rintro e w0 ⟨rfl, hw0⟩; subst w0))
            have hg : w.heap.size ≤ u2.heap.size := HG.out.size
            have hgB : u2.heap.size ≠ B := by omega
            have HS0 : Hid (SInv w (u2.alloc (.cells (madeCells #[.int .i64 0] n) 3)) B u2.heap.size s b d n q n 0 (fun _ => 0) q false) :=
              ⟨(World.rowIs_made u2 (.int .i64 0) n 3).congr fun i _ => by simp [cutV, cutI], HC2.out.of (blk_alloc_lt _ _ _ HC2.out.lt), HG.out.below ((Below.refl _ _).alloc (Nat.le_refl _) _), hp2, fun _ => zero_fits, fun _ => ⟨(posn_zero q d).symm, fun j hj => absurd hj (by omega)⟩, fun e => by cases e⟩
            clear cc0 cc1 cc2 ff1 ff2 hmk
            go_loopw [13] (fun iv wr => ∃ k : Nat, k ≤ n ∧ iv = .int .i64 k ∧ Hid (∃ f pp bb, SInv w wr B u2.heap.size s b d n q n k f pp bb)) (fun iv _ => n - (intOf iv).toNat)
            case atStart => exact ⟨0, by omega, rfl, _, _, _, HS0.out⟩
            case round =>
              clear HS0
              obtain ⟨k, hk, rfl, HX⟩ := hrel
              obtain ⟨f, pp, bb, hI⟩ := HX.out
              have HI := Hid.mk' hI
              have hpp := hI.pN
              clear hI HX
              by_cases hkF : k < n
              · obtain ⟨v, p', b', HSH, hp', hS⟩ := short_any B s b d hs hd1 (by omega) HB.out pp bb hpp
                have HHS := Hid.mk' hS
                clear hS
                go_wp2_with (go_at_call 185; refine (HSH.out _ HI.out.cu).mono ?_; rintro e u3 ⟨rfl, hC3, hG3⟩; clear HSH; have HC3 := Hid.mk' hC3; have HG3 := Hid.mk' hG3; clear hC3 hG3; have hfr := (HG3.out.row HI.out.row hgB).frozen k; have hc0 := row_at (HG3.out.row HI.out.row hgB) (by omega))
                go_roundw
                case rel => exact ⟨k + 1, by omega, by go_num, _, _, _, HI.out.step hg hgB hkF hd1 HC3.out HG3.out hp' HHS.out⟩
                case measure => simp [intOf]; omega
              · have hkn : k = n := by omega
                subst k
                have hps := ipow_pos sh
                have hpl := ipow_le sh 4096 (Nat.le_trans (Nat.pow_le_pow_right (by omega) (by omega : sh ≤ 12)) (by decide))
                have hpw : IntKind.i64.wrap ((2 : Int) ^ sh) = 2 ^ sh := by rw [IntKind.wrap_i64]; omega
                have HF := Hid.mk' HI.out.fits
                go_wp2
                go_loopw [15] (fun iv wr => ∃ k : Nat, k ≤ n ∧ iv = .int .i64 k ∧ Hid (wr.rowIs u2.heap.size 3 n (shV n f sh k) ∧ Cu wr B s pp bb ∧ Chg B w wr)) (fun iv _ => n - (intOf iv).toNat)
                case atStart => exact ⟨0, Nat.zero_le _, rfl, HI.out.row.congr fun i _ => by simp [shV], HI.out.cu, HI.out.chg⟩
                case round =>
                  obtain ⟨k, hk, rfl, HX⟩ := hrel
                  by_cases hkn : k < n
                  · have hc1 := HX.out.1.cell hkn
                    have hf1 := HX.out.1.frozen k
                    unfold shV cutV cutI at hc1
                    rw [if_neg (Nat.lt_irrefl k), if_pos hkn] at hc1
                    have hmb := mul_sh (width := width) (q := sh) (HF.out k) (by omega) (by omega)
                    have hmw : IntKind.i64.wrap (f k * 2 ^ sh) = f k * 2 ^ sh := by rw [IntKind.wrap_i64]; omega
                    go_wp2
                    go_region
                    all_goals go_wp2
                    go_roundw
                    case rel =>
                      refine ⟨k + 1, by omega, by go_num, shV_step hkn HX.out.1, ?_, (HX.out.2.2.other ((Chg.refl _ _).set k _) hg).drew⟩
                      exact ((Chg.refl u2.heap.size _).set k _).cu HX.out.2.1 (by omega)
                    case measure => simp [intOf]; omega
                  · have e : k = n := by omega
                    subst k
                    obtain ⟨cd0, cd1, cd2, fd1, fd2⟩ := HX.out.2.1.cells
                    go_wp2
                    go_quiet ((fail))
                    go_wp2
                    go_ret2
                    rw [HOO.out, HBE.out]
                    cases bb with
                    | true =>
                      have := HI.out.bad rfl
                      rw [if_neg (by omega)]
                      exact ⟨_, rfl, HX.out.2.2.drewN _⟩
                    | false =>
                      obtain ⟨hpe, hfe⟩ := HI.out.good rfl
                      rw [if_pos (by omega)]
                      refine ⟨u2.heap.size, rfl, hg, HX.out.1.congr fun i hi => ?_, by rw [← hpe]; exact HX.out.2.1, HX.out.2.2.drewN _⟩
                      simp [shV, hi, cutV, cutI, hfe i hi]
          · have t0 : ((kd : Int) == 0) = true := by simp; omega
            have t1 : decide ((1 : Int) < (kd : Int)) = false := decide_eq_false (by omega)
            have t1N : decide (1 < kd) = false := decide_eq_false (by omega)
            have HBE : Hid (bodySt b s.size kd d n q = if q + d ≤ s.size then some (fun _ => sgn b q d, q + d) else none) := by
              show _ = _; unfold bodySt; rw [if_pos (by omega)]
            have HP1 : Hid (posn q d 1 = q + d) := by show _ = _; rw [posn_succ, posn_zero]
            clear hk1 hk2
            go_enter Tryz.func159, Tryz.ntmps159
            go_wp2_with (first
              | (go_at_call 183; refine (HK.out _ HC.out).mono ?_; rintro e u1 ⟨rfl, hC1, hG1⟩; clear HK; have HC1 := Hid.mk' hC1; have HG1 := Hid.mk' hG1; clear hC1 hG1)
              | (go_at_call 183; refine (HQ.out _ HC1.out).mono ?_; rintro e u2 ⟨rfl, hC2, hG2⟩; clear HQ; obtain ⟨cc0, cc1, cc2, ff1, ff2⟩ := hC2.cells; have HC2 := Hid.mk' hC2; have HG := Hid.mk' (HG1.out.trans hG2); clear hC2 hG2)
              | (go_at_call 184; refine (cOrderOf_any kd _ (by omega) (by omega)).mono ?_; rintro e w0 ⟨rfl, hw0⟩; subst w0))
            have hg : w.heap.size ≤ u2.heap.size := HG.out.size
            have hgB : u2.heap.size ≠ B := by omega
            have HS0 : Hid (SInv w (u2.alloc (.cells (madeCells #[.int .i64 0] n) 3)) B u2.heap.size s b d n q 1 0 (fun _ => 0) q false) :=
              ⟨(World.rowIs_made u2 (.int .i64 0) n 3).congr fun i _ => by simp [cutV, cutI], HC2.out.of (blk_alloc_lt _ _ _ HC2.out.lt), HG.out.below ((Below.refl _ _).alloc (Nat.le_refl _) _), hp2, fun _ => zero_fits, fun _ => ⟨(posn_zero q d).symm, fun j hj => absurd hj (by omega)⟩, fun e => by cases e⟩
            clear cc0 cc1 cc2 ff1 ff2 hmk
            go_loopw [13] (fun iv wr => ∃ k : Nat, k ≤ 1 ∧ iv = .int .i64 k ∧ Hid (∃ f pp bb, SInv w wr B u2.heap.size s b d n q 1 k f pp bb)) (fun iv _ => 1 - (intOf iv).toNat)
            case atStart => exact ⟨0, by omega, rfl, _, _, _, HS0.out⟩
            case round =>
              clear HS0
              obtain ⟨k, hk, rfl, HX⟩ := hrel
              obtain ⟨f, pp, bb, hI⟩ := HX.out
              have HI := Hid.mk' hI
              have hpp := hI.pN
              clear hI HX
              by_cases hkF : k < 1
              · obtain ⟨v, p', b', HSH, hp', hS⟩ := short_any B s b d hs hd1 (by omega) HB.out pp bb hpp
                have HHS := Hid.mk' hS
                clear hS
                go_wp2_with (go_at_call 185; refine (HSH.out _ HI.out.cu).mono ?_; rintro e u3 ⟨rfl, hC3, hG3⟩; clear HSH; have HC3 := Hid.mk' hC3; have HG3 := Hid.mk' hG3; clear hC3 hG3; have hfr := (HG3.out.row HI.out.row hgB).frozen k; have hc0 := row_at (HG3.out.row HI.out.row hgB) (by omega))
                go_roundw
                case rel => exact ⟨k + 1, by omega, by go_num, _, _, _, HI.out.step hg hgB hkF hd1 HC3.out HG3.out hp' HHS.out⟩
                case measure => simp [intOf]; omega
              · have hkn : k = 1 := by omega
                subst k
                have hps := ipow_pos sh
                have hpl := ipow_le sh 4096 (Nat.le_trans (Nat.pow_le_pow_right (by omega) (by omega : sh ≤ 12)) (by decide))
                have hpw : IntKind.i64.wrap ((2 : Int) ^ sh) = 2 ^ sh := by rw [IntKind.wrap_i64]; omega
                have hmb := mul_sh (width := width) (q := sh) (HI.out.fits 0) (by omega) (by omega)
                have hmw : IntKind.i64.wrap (f 0 * 2 ^ sh) = f 0 * 2 ^ sh := by rw [IntKind.wrap_i64]; omega
                go_wp2
                go_loopw [15] (fun iv wr => ∃ k : Nat, k ≤ n ∧ iv = .int .i64 k ∧ Hid (((k = 0 ∧ wr.rowIs u2.heap.size 3 n (cutV 1 f)) ∨ (1 ≤ k ∧ wr.rowIs u2.heap.size 3 n (cutV k (fun _ => f 0 * 2 ^ sh)))) ∧ Cu wr B s pp bb ∧ Chg B w wr)) (fun iv _ => n - (intOf iv).toNat)
                case atStart => exact ⟨0, Nat.zero_le _, rfl, .inl ⟨rfl, HI.out.row⟩, HI.out.cu, HI.out.chg⟩
                case round =>
                  obtain ⟨k, hk, rfl, HX⟩ := hrel
                  by_cases hkn : k < n
                  · by_cases hk0 : k = 0
                    · have hrow : wr.rowIs u2.heap.size 3 n (cutV 1 f) := by
                        rcases HX.out.1 with h | h
                        · exact h.2
                        · have := h.1; omega
                      have HROW := Hid.mk' hrow
                      have hc1 : wr.cell? ⟨u2.heap.size, k, none⟩ = some (.int .i64 (f 0)) := by
                        have := hrow.cell hkn
                        unfold cutV cutI at this
                        rw [if_pos (by omega), hk0] at this
                        rw [hk0]; exact this
                      have hf1 := hrow.frozen k
                      have t2 : decide ((0 : Int) < (k : Int)) = false := decide_eq_false (by omega)
                      have t2N : decide (0 < k) = false := decide_eq_false (by omega)
                      have HK0 := Hid.mk' hk0
                      clear hrow hk0
                      go_wp2
                      go_region
                      all_goals go_wp2
                      go_roundw
                      case rel =>
                        refine ⟨k + 1, by omega, by go_num, .inr ⟨by omega, ?_⟩, ?_, (HX.out.2.2.other ((Chg.refl _ _).set k _) hg).drew⟩
                        · have hk0 := HK0.out
                          exact (HROW.out.set k (.int .i64 (f 0 * 2 ^ sh))).congr fun i _ => by
                            by_cases e : i = k
                            · have : i < k + 1 := by omega
                              simp [e, cutV, cutI]
                            · have h1 : ¬ i < 1 := by omega
                              have h2 : ¬ i < k + 1 := by omega
                              simp only [if_neg e, cutV, cutI, if_neg h1, if_neg h2]
                        · exact ((Chg.refl u2.heap.size _).set k _).cu HX.out.2.1 (by omega)
                      case measure => simp [intOf]; omega
                    · have hrow : wr.rowIs u2.heap.size 3 n (cutV k (fun _ => f 0 * 2 ^ sh)) := by
                        rcases HX.out.1 with h | h
                        · exact absurd h.1 hk0
                        · exact h.2
                      have HROW := Hid.mk' hrow
                      have hc1 := hrow.cell (i := 0) (by omega)
                      have hc0 := row_at hrow hkn
                      have hf1 := hrow.frozen k
                      unfold cutV cutI at hc1
                      rw [if_pos (by omega)] at hc1
                      have t2 : decide ((0 : Int) < (k : Int)) = true := decide_eq_true (by omega)
                      have t2N : decide (0 < k) = true := decide_eq_true (by omega)
                      clear hrow
                      go_wp2
                      go_roundw
                      case rel =>
                        refine ⟨k + 1, by omega, by go_num, .inr ⟨by omega, ?_⟩, ?_, HX.out.2.2.other ((Chg.refl _ _).set k _) hg⟩
                        · exact cutV_step (x := fun _ => f 0 * 2 ^ sh) rfl (HROW.out.set k _)
                        · exact ((Chg.refl u2.heap.size _).set k _).cu HX.out.2.1 (by omega)
                      case measure => simp [intOf]; omega
                  · have e : k = n := by omega
                    subst k
                    obtain ⟨cd0, cd1, cd2, fd1, fd2⟩ := HX.out.2.1.cells
                    go_wp2
                    go_quiet ((fail))
                    go_wp2
                    go_ret2
                    rw [HOO.out, HBE.out]
                    have hp1 := HP1.out
                    cases bb with
                    | true =>
                      have := HI.out.bad rfl
                      rw [if_neg (by omega)]
                      exact ⟨_, rfl, HX.out.2.2.drewN _⟩
                    | false =>
                      obtain ⟨hpe, hfe⟩ := HI.out.good rfl
                      rw [if_pos (by omega)]
                      refine ⟨u2.heap.size, rfl, hg, ?_, by rw [← hp1, ← hpe]; exact HX.out.2.1, HX.out.2.2.drewN _⟩
                      have hf0 := hfe 0 (by omega)
                      rw [posn_zero] at hf0
                      have hrow : wr.rowIs u2.heap.size 3 n (cutV n (fun _ => f 0 * 2 ^ sh)) := by
                        rcases HX.out.1 with h | h
                        · have := h.1; omega
                        · exact h.2
                      rw [hf0] at hrow
                      exact hrow
      · have ts : decide ((width : Int) ≤ (sh : Int)) = true := decide_eq_true (by omega)
        have tsN : decide (width ≤ sh) = true := decide_eq_true (by omega)
        have HNO := Hid.mk' (hno hsw)
        clear hno hyes
        go_enter Tryz.func159, Tryz.ntmps159
        go_wp2_with (first
          | (go_at_call 183; refine (HK.out _ HC.out).mono ?_; rintro e u1 ⟨rfl, hC1, hG1⟩; clear HK; have HC1 := Hid.mk' hC1; have HG1 := Hid.mk' hG1; clear hC1 hG1)
          | (go_at_call 183; refine (HQ.out _ HC1.out).mono ?_; rintro e u2 ⟨rfl, hC2, hG2⟩; clear HQ; obtain ⟨cc0, cc1, cc2, ff1, ff2⟩ := hC2.cells; have HC2 := Hid.mk' hC2; have HG := Hid.mk' (HG1.out.trans hG2); clear hC2 hG2)
          | (go_at_call 184; refine (cOrderOf_any kd _ (by omega) (by omega)).mono ?_; rintro e w0 ⟨rfl, hw0⟩; subst w0))
        go_ret2
        rw [HNO.out]
        exact ⟨_, rfl, HG.out⟩
    · have tk : decide ((7 : Int) < (kd : Int)) = true := decide_eq_true (by omega)
      have tkN : decide (7 < kd) = true := decide_eq_true (by omega)
      have HNO : Hid (oo = none) := by
        show _ = _
        by_cases hsw : sh < width
        · rw [hyes hsw]
          unfold bodySt
          rw [if_neg (by omega), if_neg (by omega), if_pos (.inl (by omega))]
          rfl
        · exact hno hsw
      clear hno hyes
      go_enter Tryz.func159, Tryz.ntmps159
      go_wp2_with (first
        | (go_at_call 183; refine (HK.out _ HC.out).mono ?_; rintro e u1 ⟨rfl, hC1, hG1⟩; clear HK; have HC1 := Hid.mk' hC1; have HG1 := Hid.mk' hG1; clear hC1 hG1)
        | (go_at_call 183; refine (HQ.out _ HC1.out).mono ?_; rintro e u2 ⟨rfl, hC2, hG2⟩; clear HQ; obtain ⟨cc0, cc1, cc2, ff1, ff2⟩ := hC2.cells; have HC2 := Hid.mk' hC2; have HG := Hid.mk' (HG1.out.trans hG2); clear hC2 hG2)
        | (go_at_call 184; refine (cOrderOf_any kd _ (by omega) (by omega)).mono ?_; rintro e w0 ⟨rfl, hw0⟩; subst w0))
      go_ret2
      rw [HNO.out]
      exact ⟨_, rfl, HG.out⟩
end Go.Proofs.YtlncjgnomhpjnaaGreatDoor

