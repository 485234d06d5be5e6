import Derived.Test.YtlncjgnomhpjnabGreatDoorQU48
/-
  The program reads from a place on: stream.From, where it gives no samples.
-/
namespace Go.Proofs.YtlncjgnomhpjnabGreatDoor
open Go.RowKit Go.Deep
set_option linter.unusedVariables false
/-- the block from which on frames are read, and where its frame begins -/
def stN (T : List UInt8) (a : Nat) : Nat := if dSe T = 0 then 0 else a / dBl T / dSe T * dSe T
def stB (T : List UInt8) (a : Nat) : Nat := if dSe T = 0 then 0 else (dPts T).getD (a / dBl T / dSe T) 0
/-- the frames from there on reach to the end -/
def FrmsP (T : List UInt8) (a : Nat) : Prop :=
  dSz T + stB T a ≤ T.length ∧ ∃ m, RunIs (dCh T) (dDe T) (dBl T) (dSa T) (stN T a) (T.drop (dSz T + stB T a)) m ∧ stN T a + m = nBlk (dSa T) (dBl T) ∧ offX (T.drop (dSz T + stB T a)) m = (T.drop (dSz T + stB T a)).length
open Classical in
/-- the error -/
noncomputable def frmE (T : List UInt8) (a : Int) : Int :=
  if T.length ≤ 9000 then (if HdP T ∧ dWh T = 1 then (if 0 ≤ a ∧ a ≤ dSa T then (if a = dSa T ∨ FrmsP T a.toNat then 0 else 6) else 3) else 7) else 4
/-- the samples -/
noncomputable def frmS (T : List UInt8) (a : Nat) (c j : Nat) : Int := smpL (dCh T) (dDe T) (dBl T) (dSa T) (stN T a) (T.drop (dSz T + stB T a)) (nBlk (dSa T) (dBl T) - stN T a) c (a - stN T a * dBl T + j)
/-- what From answers -/
def FrmAns (e : Ending) (w w' : World) (T : List UInt8) (a : Int) : Prop :=
  ((frmE T a = 0 ∧ ∃ v, e = .returned (.tuple #[v, .int .i64 0]) ∧ RowsL w.heap.size w' v (dCh T) (dSa T - a.toNat) (frmS T a.toNat))
   ∨ (frmE T a ≠ 0 ∧ e = .returned (.tuple #[.slice none 0 0, .int .i64 (frmE T a)]))) ∧ Below w.heap.size w w'
theorem frm_bad {w w' : World} {T : List UInt8} {a : Int} (E : Int) (h0 : E ≠ 0) (hE : frmE T a = E) (hb : Below w.heap.size w w') : FrmAns (.returned (.tuple #[.slice none 0 0, .int .i64 E])) w w' T a := ⟨.inr ⟨by rw [hE]; exact h0, by rw [hE]⟩, hb⟩
set_option maxRecDepth 4000 in
set_option maxHeartbeats 2000000 in
theorem streamFrom_head (T : List UInt8) (a : Int) (w : World) (hs : T.length ≤ 9000) (hp : ¬ (HdP T ∧ dWh T = 1)) :
    Calls Tryz.prog 37 #[.string (bs T), .int .i64 a] w fun e w' => FrmAns e w w' T a := by
  have HHR := Hid.mk' (fun u => headRead_any T u hs)
  have HBAD : Hid (∀ w', Below w.heap.size w w' → FrmAns (.returned (.tuple #[.slice none 0 0, .int .i64 7])) w w' T a) := fun w' hb => frm_bad 7 (by omega) (by unfold frmE; rw [if_pos hs, if_neg hp]) hb
  by_cases hy : HdP T
  · have HY := Hid.mk' hy
    have hw0 : decide (dWh T = 1) = false := decide_eq_false (fun h => hp ⟨hy, h⟩)
    have HW := Hid.mk' hw0
    clear hp hy hw0
    generalize bs T = SB at *
    go_enter Tryz.func37, Tryz.ntmps37
    go_wp2_with (first
      | (go_at_call 69; refine (HHR.out _).mono ?_; intro e u1 ho; obtain ⟨pa, pc, rfl, hown, hb⟩ := ho.yes HY.out HW.out; have HB1 := Hid.mk' hb; clear HHR ho hb hown))
    go_ret2
    exact HBAD.out _ (HB1.out.alloc HB1.out.size _)
  · have HY := Hid.mk' hy
    clear hp hy
    generalize bs T = SB at *
    go_enter Tryz.func37, Tryz.ntmps37
    go_wp2_with (first
      | (go_at_call 69; refine (HHR.out _).mono ?_; intro e u1 ho; obtain ⟨rfl, hb⟩ := ho.nothing HY.out; have HB1 := Hid.mk' hb; clear HHR ho hb))
    go_ret2
    exact HBAD.out _ (HB1.out.alloc HB1.out.size _)
set_option maxRecDepth 4000 in
set_option maxHeartbeats 2000000 in
theorem streamFrom_arg (T : List UInt8) (a : Int) (w : World) (hs : T.length ≤ 9000) (hp : HdP T) (hw : dWh T = 1) (ha : ¬ (0 ≤ a ∧ a ≤ dSa T)) :
    Calls Tryz.prog 37 #[.string (bs T), .int .i64 a] w fun e w' => FrmAns e w w' T a := by
  have HHR := Hid.mk' (fun u => headRead_any T u hs)
  have HBAD : Hid (∀ w', Below w.heap.size w w' → FrmAns (.returned (.tuple #[.slice none 0 0, .int .i64 3])) w w' T a) := fun w' hb => frm_bad 3 (by omega) (by unfold frmE; rw [if_pos hs, if_pos ⟨hp, hw⟩, if_neg ha]) hb
  have HWI := Hid.mk' (fun u => within_any a 0 (dSa T) u)
  have hwf : within a 0 (dSa T) = false := by
    rw [Bool.eq_false_iff, ne_eq, within_iff]
    exact ha
  rw [hwf] at HWI
  have HY := Hid.mk' hp
  have HW : Hid (decide (dWh T = 1) = true) := decide_eq_true hw
  clear hp hw ha hwf
  generalize bs T = SB at *
  go_enter Tryz.func37, Tryz.ntmps37
  go_wp2_with (first
    | (go_at_call 69; refine (HHR.out _).mono ?_; intro e u1 ho; obtain ⟨pa, pc, rfl, hown, hb⟩ := ho.yes HY.out HW.out; have HB1 := Hid.mk' hb; clear HHR ho hb hown)
    | (go_at_call 70; refine (HWI.out _).mono ?_; rintro e u2 ⟨rfl, hw⟩; subst u2; clear HWI))
  go_ret2
  exact HBAD.out _ (HB1.out.alloc HB1.out.size _)
/-- lists without samples -/
theorem rows_made (base n : Nat) (U : World) (H : Nat → Nat → Int) (hb : base ≤ U.heap.size) : RowsL base (U.alloc (.cells (madeCells #[.slice none 0 0] n) 30)) (.slice (some ⟨U.heap.size, 0, none⟩) n n) n 0 H :=
  ⟨U.heap.size, fun _ => .slice none 0 0, fun _ => none, rfl, hb, World.rowIs_made U (.slice none 0 0) n 30, fun c _ => ⟨.inl ⟨rfl, rfl, rfl⟩, fun q hq => by cases hq⟩, fun c c' _ _ _ q hq => by cases hq⟩
set_option maxRecDepth 4000 in
set_option maxHeartbeats 2000000 in
theorem streamFrom_end (T : List UInt8) (w : World) (hs : T.length ≤ 9000) (hp : HdP T) (hw : dWh T = 1) :
    Calls Tryz.prog 37 #[.string (bs T), .int .i64 (dSa T)] w fun e w' => FrmAns e w w' T (dSa T) := by
  obtain ⟨b1, b2, b3, b4, b5, b6, b7, b8, b9, b10, b11⟩ := hd_bd hp
  have HHR := Hid.mk' (fun u => headRead_any T u hs)
  have HE : Hid (frmE T (dSa T) = 0) := by
    show _ = _
    unfold frmE
    rw [if_pos hs, if_pos ⟨hp, hw⟩, if_pos ⟨by omega, by omega⟩, if_pos (.inl rfl)]
  have HWI := Hid.mk' (fun u => within_any (dSa T) 0 (dSa T) u)
  have hwf : within (dSa T) 0 (dSa T) = true := by
    rw [within_iff]
    omega
  rw [hwf] at HWI
  have hmk := run_make_row' (P := Tryz.prog) 24 30 (.slice none 0 0) 24 Tryz.underlying24 infoInts rfl .i64 .i64 (dCh T) (by omega) (by omega)
  have HY := Hid.mk' hp
  have HW : Hid (decide (dWh T = 1) = true) := decide_eq_true hw
  clear hp hw hwf
  generalize bs T = SB at *
  go_enter Tryz.func37, Tryz.ntmps37
  go_wp2_with (first
    | (go_at_call 69; refine (HHR.out _).mono ?_; intro e u1 ho; obtain ⟨pa, pc, rfl, hown, hb⟩ := ho.yes HY.out HW.out; have HB1 := Hid.mk' hb; clear HHR ho hb hown)
    | (go_at_call 70; refine (HWI.out _).mono ?_; rintro e u2 ⟨rfl, hw⟩; subst u2; clear HWI))
  have hU : (u1.alloc (.cells #[.int .i64 (dCh T), .int .i64 (dDe T), .int .i64 (dBl T), .int .i64 (dRa T), .int .i64 (dSe T), .int .i64 (dSa T), .bool true, .int .i64 (dLe T), .int .i64 (dMo T), .int .i64 (dSu T), .slice pa (dNp T) pc] 110)).heap.size = u1.heap.size + 1 := by simp
  have hrow := rows_made w.heap.size (dCh T) (u1.alloc (.cells #[.int .i64 (dCh T), .int .i64 (dDe T), .int .i64 (dBl T), .int .i64 (dRa T), .int .i64 (dSe T), .int .i64 (dSa T), .bool true, .int .i64 (dLe T), .int .i64 (dMo T), .int .i64 (dSu T), .slice pa (dNp T) pc] 110)) (frmS T (dSa T)) (by rw [hU]; have := HB1.out.size; omega)
  rw [hU] at hrow
  have HROW := Hid.mk' hrow
  go_ret2
  refine ⟨.inl ⟨HE.out, _, rfl, ?_⟩, (HB1.out.alloc HB1.out.size _).alloc (Nat.le_trans HB1.out.size (by simp)) _⟩
  have e : dSa T - ((dSa T : Nat) : Int).toNat = 0 := by omega
  rw [e]
  exact HROW.out
end Go.Proofs.YtlncjgnomhpjnabGreatDoor

/-
  The program reads from a place on: stream.From, the frames (a draft).
-/
namespace Go.Proofs.YtlncjgnomhpjnabGreatDoor
open Go.RowKit Go.Deep
set_option linter.unusedVariables false
/-- Start, as the head that was read wants it -/
theorem start_any (T : List UInt8) (a : Nat) (pv : Value) (base : Nat) (w : World) (hp : HdP T) (ha : a < dSa T) (ho : w.ownsRow base 3 1 pv (dPts T).length (pntV (dPts T))) :
    Calls Tryz.prog 71 #[.agg (hdC (dCh T) (dDe T) (dBl T) (dRa T) (dSe T) (dSa T) true (dLe T) (dMo T) (dSu T) pv), .int .i64 a] w fun e w' => e = .returned (.tuple #[.int .i64 (stN T a : Nat), .int .i64 (stB T a : Nat)]) ∧ Below w.heap.size w w' := by
  obtain ⟨b1, b2, b3, b4, b5, b6, b7, b8, b9, b10, b11⟩ := hd_bd hp
  unfold stN stB
  by_cases h0 : dSe T = 0
  · rw [if_pos h0, if_pos h0, h0]
    obtain ⟨x, c, rfl⟩ := own_form ho
    exact headStart_none _ _ _ _ _ _ _ _ _ _ _ _ _ w
  · rw [if_neg h0, if_neg h0]
    refine headStart_some (dCh T) (dDe T) (dRa T) (dSa T) (dBl T) (dSe T) true (dLe T) (dMo T) (dSu T) a (dPts T) pv base w b5 b6 (by omega) b8 (by omega) (by rw [dPts_length]; exact b9) ?_ ho
    rw [dPts_length]
    unfold dNp nPts
    rw [if_neg h0]
    have h1 : a / dBl T < nBlk (dSa T) (dBl T) := (nBlk_lt b5).2 (Nat.lt_of_le_of_lt (Nat.div_mul_le_self _ _) ha)
    exact (nBlk_lt (by omega)).2 (Nat.lt_of_le_of_lt (Nat.div_mul_le_self _ _) h1)
end Go.Proofs.YtlncjgnomhpjnabGreatDoor

/-
  Lists from a place on: rows of lists, cut.
-/
namespace Go.Proofs.YtlncjgnomhpjnabGreatDoor
open Go.RowKit Go.Deep
set_option linter.unusedVariables false
/-- a row of lists, of which the first j are cut -/
def ctV (bk ofs cs : Nat → Nat) (nn q j i : Nat) : Value := if i < j then .slice (some ⟨bk i, ofs i + q, none⟩) (nn - q : Nat) (cs i - q : Nat) else .slice (some ⟨bk i, ofs i, none⟩) nn (cs i)
structure CutI (base : Nat) (u : World) (g n nn q j : Nat) (bk ofs cs : Nat → Nat) (H : Nat → Nat → Int) : Prop where
  le : base ≤ g
  row : u.rowIs g 30 n (ctV bk ofs cs nn q j)
  cap : ∀ c, c < n → nn ≤ cs c
  low : ∀ c, c < n → base ≤ bk c
  lst : ∀ c, c < n → ∃ N f, u.rowIs (bk c) 3 N f ∧ ofs c + cs c ≤ N ∧ ∀ i, i < nn → f (ofs c + i) = .int .i64 (H c i)
  apart : ∀ c c', c < n → c' < n → c ≠ c' → bk c ≠ bk c'
theorem RowsL.toCut {base : Nat} {u : World} {g n nn : Nat} {H : Nat → Nat → Int} (h : RowsL base u (.slice (some ⟨g, 0, none⟩) n n) n nn H) (hn : 0 < nn) (q : Nat) : ∃ bk ofs cs, CutI base u g n nn q 0 bk ofs cs H := by
  obtain ⟨g', vs, ogs, h1, h2, h3, h4, h5⟩ := h
  have eg : g' = g := by injection h1 with e; injection e with e; injection e with e; exact e.symm
  subst eg
  have hex : ∀ c, ∃ p : Nat × Nat × Nat, c < n → ogs c = some p.1 ∧ vs c = .slice (some ⟨p.1, p.2.1, none⟩) nn p.2.2 ∧ nn ≤ p.2.2 ∧ ∃ N f, u.rowIs p.1 3 N f ∧ p.2.1 + p.2.2 ≤ N ∧ ∀ i, i < nn → f (p.2.1 + i) = .int .i64 (H c i) := fun c => by
    by_cases hc : c < n
    · rcases (h4 c hc).1 with ⟨-, e, -⟩ | ⟨b, o, k, N, f, e1, e2, e3, e4, e5, e6⟩
      · omega
      · exact ⟨(b, o, k), fun _ => ⟨e1, e2, e5, N, f, e3, e4, e6⟩⟩
    · exact ⟨(0, 0, 0), fun h => absurd h hc⟩
  refine ⟨fun c => (hex c).choose.1, fun c => (hex c).choose.2.1, fun c => (hex c).choose.2.2, h2, h3.congr fun i hi => ?_, fun c hc => ((hex c).choose_spec hc).2.2.1, fun c hc => (h4 c hc).2 _ ((hex c).choose_spec hc).1, fun c hc => ((hex c).choose_spec hc).2.2.2, fun c c' hc hc' hne e => ?_⟩
  · unfold ctV
    rw [if_neg (Nat.not_lt_zero i)]
    exact ((hex i).choose_spec hi).2.1
  · refine h5 c c' hc hc' hne _ ((hex c).choose_spec hc).1 ?_
    have e' : (hex c).choose.1 = (hex c').choose.1 := e
    rw [e']
    exact ((hex c').choose_spec hc').1
theorem CutI.step {base : Nat} {u : World} {g n nn q j : Nat} {bk ofs cs : Nat → Nat} {H : Nat → Nat → Int} (h : CutI base u g n nn q j bk ofs cs H) : CutI base (u.setCell ⟨g, j, none⟩ (.slice (some ⟨bk j, ofs j + q, none⟩) (nn - q : Nat) (cs j - q : Nat))) g n nn q (j + 1) bk ofs cs H := by
  refine ⟨h.le, (h.row.set j _).congr fun i _ => ?_, h.cap, h.low, fun c hc => ?_, h.apart⟩
  · unfold ctV
    by_cases e : i = j
    · rw [if_pos e, if_pos (by omega), e]
    · rw [if_neg e]
      by_cases e2 : i < j
      · rw [if_pos e2, if_pos (by omega)]
      · rw [if_neg e2, if_neg (by omega)]
  · obtain ⟨N, f, h1, h2⟩ := h.lst c hc
    refine ⟨N, f, h1.setOther (fun e => ?_) _, h2⟩
    have e' : bk c = g := e
    rw [e'] at h1
    exact absurd (row_type h1 h.row) (by decide)
theorem CutI.done {base : Nat} {u : World} {g n nn q : Nat} {bk ofs cs : Nat → Nat} {H : Nat → Nat → Int} (h : CutI base u g n nn q n bk ofs cs H) (hq : q ≤ nn) : RowsL base u (.slice (some ⟨g, 0, none⟩) n n) n (nn - q) (fun c j => H c (q + j)) := by
  refine ⟨g, ctV bk ofs cs nn q n, fun c => some (bk c), rfl, h.le, h.row, fun c hc => ⟨.inr ?_, fun k hk => by injection hk with hk; rw [← hk]; exact h.low c hc⟩, fun c c' hc hc' hne k h1 h2 => h.apart c c' hc hc' hne ?_⟩
  · obtain ⟨N, f, h1, h2, h3⟩ := h.lst c hc
    have hcap := h.cap c hc
    refine ⟨bk c, ofs c + q, cs c - q, N, f, rfl, ?_, h1, by omega, by omega, fun i hi => ?_⟩
    · unfold ctV; rw [if_pos hc]
    · rw [Nat.add_assoc]; exact h3 (q + i) (by omega)
  · injection h1 with h1
    injection h2 with h2
    rw [h1, h2]
theorem CutI.cell {base : Nat} {u : World} {g n nn q j : Nat} {bk ofs cs : Nat → Nat} {H : Nat → Nat → Int} (h : CutI base u g n nn q j bk ofs cs H) (hj : j < n) : u.cell? ⟨g, j, none⟩ = some (.slice (some ⟨bk j, ofs j, none⟩) nn (cs j)) := by
  have := h.row.cell hj
  unfold ctV at this
  rw [if_neg (Nat.lt_irrefl j)] at this
  exact this
theorem CutI.below {base : Nat} {u u' : World} {g n nn q j : Nat} {bk ofs cs : Nat → Nat} {H : Nat → Nat → Int} (h : CutI base u g n nn q j bk ofs cs H) (hb : Below u.heap.size u u') : CutI base u' g n nn q j bk ofs cs H :=
  ⟨h.le, row_below h.row hb, h.cap, h.low, fun c hc => by
    obtain ⟨N, f, h1, h2⟩ := h.lst c hc
    exact ⟨N, f, row_below h1 hb, h2⟩, h.apart⟩
/-- another block than the row -/
theorem Bx.ne_row {u : World} {b g N : Nat} {t e : TypeId} {cs : Array Value} {f : Nat → Value} (h : Bx u b t cs) (hr : u.rowIs g e N f) (ht : t ≠ e) : b ≠ g := by
  rintro rfl
  obtain ⟨c, hc, -⟩ := hr
  have h' : u.heap[b]? = _ := h
  rw [hc] at h'
  injection h' with h'
  injection h' with h1 h2
  exact ht h2.symm
theorem Bx.put {u : World} {b : Nat} {t : TypeId} {cs : Array Value} (h : Bx u b t cs) {a : Addr} (ha : b ≠ a.block) (v : Value) : Bx (u.setCell a v) b t cs := h.of (blk_setCell_other _ _ _ _ ha)
/-- the block from which on frames are read lies at or ahead of the sample -/
theorem stN_le (T : List UInt8) (a : Nat) : stN T a * dBl T ≤ a := by
  unfold stN
  split
  · omega
  · exact Nat.le_trans (Nat.mul_le_mul_right _ (Nat.div_mul_le_self _ _)) (Nat.div_mul_le_self _ _)
theorem stN_lt {T : List UInt8} {a : Nat} (hB : 1 ≤ dBl T) (ha : a < dSa T) : stN T a < nBlk (dSa T) (dBl T) := (nBlk_lt hB).2 (Nat.lt_of_le_of_lt (stN_le T a) ha)
/-- the lists, cut -/
theorem cut_frm {base : Nat} {u : World} {g : Nat} {bk ofs cs : Nat → Nat} {T : List UInt8} {a m nn : Nat} (hB : 1 ≤ dBl T) (ha : a < dSa T) (hm : stN T a + m = nBlk (dSa T) (dBl T)) (hnn : nn = chN (dBl T) (dSa T) (stN T a) m)
    (h : CutI base u g (dCh T) nn (a - stN T a * dBl T) (dCh T) bk ofs cs (smpL (dCh T) (dDe T) (dBl T) (dSa T) (stN T a) (T.drop (dSz T + stB T a)) m)) : RowsL base u (.slice (some ⟨g, 0, none⟩) (dCh T) (dCh T)) (dCh T) (dSa T - a) (frmS T a) := by
  have h1 := stN_le T a
  have h2 := chN_whole hB hm (by omega)
  have h3 := h.done (by omega)
  have e1 : nn - (a - stN T a * dBl T) = dSa T - a := by omega
  have e2 : m = nBlk (dSa T) (dBl T) - stN T a := by omega
  rw [e1, e2] at h3
  exact h3
/-- a point is a number of two bytes -/
theorem pt_bd {T : List UInt8} (hp : HdP T) (k : Nat) : (dPts T).getD k 0 ≤ 65535 := by
  unfold dPts
  rw [List.getD_eq_getElem?_getD, List.getElem?_map]
  by_cases hk : k < dNp T
  · rw [List.getElem?_range hk]
    show fld T (20 + 2 * k) (22 + 2 * k) ≤ _
    have h1 := fld_lt T (20 + 2 * k) (22 + 2 * k) (by omega) (by have := hp.2.2.2.1; unfold dSz at this; omega)
    rw [show 22 + 2 * k - (20 + 2 * k) = 2 by omega] at h1
    omega
  · rw [List.getElem?_eq_none (by simp; omega)]
    simp
theorem stB_bd {T : List UInt8} (hp : HdP T) (a : Nat) : stB T a ≤ 65535 := by
  unfold stB
  split
  · omega
  · exact pt_bd hp _
end Go.Proofs.YtlncjgnomhpjnabGreatDoor

/-
  A stream that was made is read as its sound.
-/
namespace Go.Proofs.YtlncjgnomhpjnabGreatDoor
open Go.RowKit Go.Deep
set_option linter.unusedVariables false
/-- a configuration and a sound of it -/
structure KP (d n B c3 c4 S : Nat) (F : Nat → Nat → Int) : Prop where
  d4 : 4 ≤ d
  d12 : d ≤ 12
  n1 : 1 ≤ n
  n4 : n ≤ 4
  B1 : 1 ≤ B
  B32 : B ≤ 32
  c3b : c3 < 65536
  c4b : c4 < 256
  S3 : S ≤ 300
  fit : ∀ i, i < n → ∀ j, j < S → fitsB d (F i j) = true
theorem KP.blk {d n B c3 c4 S : Nat} {F : Nat → Nat → Int} (h : KP d n B c3 c4 S F) {k : Nat} (hk : k < nBlk S B) : ∀ i, i < n → ∀ j, j < blkN S B k → fitsB d (blkF F B k i j) = true := fun i hi j hj => by
  have := blkN_bd h.B1 hk
  exact h.fit i hi (k * B + j) (by omega)
theorem KP.nb {d n B c3 c4 S : Nat} {F : Nat → Nat → Int} (h : KP d n B c3 c4 S F) : nBlk S B ≤ 300 := Nat.le_trans (nBlk_le h.B1) h.S3
/-- the frames from one on -/
def tlX (d n : Nat) (F : Nat → Nat → Int) (S B k : Nat) : List UInt8 := (frsT d n F S B (nBlk S B)).drop (frsT d n F S B k).length
theorem frs_pre (d n : Nat) (F : Nat → Nat → Int) (S B k : Nat) : ∀ j, ∃ Z, frsT d n F S B (k + j) = frsT d n F S B k ++ Z
  | 0 => ⟨[], by rw [List.append_nil]; rfl⟩
  | j + 1 => by
    obtain ⟨Z, hZ⟩ := frs_pre d n F S B k j
    exact ⟨Z ++ frT d n F S B (k + j), by show frsT d n F S B (k + j) ++ frT d n F S B (k + j) = _; rw [hZ, List.append_assoc]⟩
theorem tl_step {d n : Nat} {F : Nat → Nat → Int} {S B k : Nat} (hk : k < nBlk S B) : tlX d n F S B k = frT d n F S B k ++ tlX d n F S B (k + 1) := by
  obtain ⟨Z, hZ⟩ := frs_pre d n F S B (k + 1) (nBlk S B - (k + 1))
  rw [Nat.add_sub_cancel' hk] at hZ
  have e : frsT d n F S B (k + 1) = frsT d n F S B k ++ frT d n F S B k := rfl
  unfold tlX
  rw [hZ, List.drop_left, e, List.append_assoc, List.drop_left]
theorem tl_end (d n : Nat) (F : Nat → Nat → Int) (S B : Nat) : tlX d n F S B (nBlk S B) = [] := List.drop_length
theorem tl_zero (d n : Nat) (F : Nat → Nat → Int) (S B : Nat) : tlX d n F S B 0 = frsT d n F S B (nBlk S B) := rfl
/-- a frame of the stream -/
theorem tl_frame {d n B c3 c4 S : Nat} {F : Nat → Nat → Int} (h : KP d n B c3 c4 S F) {k : Nat} (hk : k < nBlk S B) :
    okF n d B S k (tlX d n F S B k) ∧ hLen (tlX d n F S B k) = lnF d n F S B k ∧ ∀ c, c < n → ∀ j, j < blkN S B k → smpF n d B k (tlX d n F S B k) c j = F c (k * B + j) := by
  have hb := blkN_bd h.B1 hk
  have hnb := h.nb
  have h1 := h.d4
  have h2 := h.B32
  obtain ⟨H, hF, hc, hl, hH⟩ := frame_back (B := B) (number := k) (tlX d n F S B (k + 1)) hb.1 hb.2.1 h2 (by omega) h.d12 h.n1 h.n4 (by omega) (h.blk hk)
  rw [tl_step hk]
  refine ⟨⟨⟨H, hF⟩, hc⟩, hl, fun c hc2 j hj => ?_⟩
  have e : smpF n d B k (frT d n F S B k ++ tlX d n F S B (k + 1)) = H := smpF_eq hF
  rw [e, hH c hc2 j hj]
  rfl
theorem tl_at {d n B c3 c4 S : Nat} {F : Nat → Nat → Int} (h : KP d n B c3 c4 S F) {k0 : Nat} : ∀ j, k0 + j ≤ nBlk S B → atX (tlX d n F S B k0) j = tlX d n F S B (k0 + j)
  | 0, _ => by
    show List.drop 0 _ = _
    rw [List.drop_zero]
    rfl
  | j + 1, hj => by
    have ih := tl_at (k0 := k0) h j (by omega)
    rw [← atX_step]
    unfold lnX
    rw [ih, (tl_frame h (k := k0 + j) (by omega)).2.1, tl_step (k := k0 + j) (by omega)]
    show List.drop (frT d n F S B (k0 + j)).length _ = _
    rw [List.drop_left]
    rfl
/-- all frames from one on are read -/
theorem tl_run {d n B c3 c4 S : Nat} {F : Nat → Nat → Int} (h : KP d n B c3 c4 S F) {k0 : Nat} (hk : k0 ≤ nBlk S B) : RunIs n d B S k0 (tlX d n F S B k0) (nBlk S B - k0) :=
  ⟨.inl (by omega), fun j hj => by rw [tl_at h j (by omega)]; exact (tl_frame h (k := k0 + j) (by omega)).1, fun hlt => by omega⟩
theorem tl_off {d n B c3 c4 S : Nat} {F : Nat → Nat → Int} (h : KP d n B c3 c4 S F) {k0 : Nat} (hk : k0 ≤ nBlk S B) : offX (tlX d n F S B k0) (nBlk S B - k0) = (tlX d n F S B k0).length := by
  have h1 := offX_le (tl_run h hk).ok (nBlk S B - k0) (Nat.le_refl _)
  have h2 : atX (tlX d n F S B k0) (nBlk S B - k0) = [] := by
    rw [tl_at h _ (by omega), Nat.add_sub_cancel' hk]
    exact tl_end d n F S B
  have h3 := List.drop_eq_nil_iff.1 h2
  omega
theorem tl_chL {d n B c3 c4 S : Nat} {F : Nat → Nat → Int} (h : KP d n B c3 c4 S F) {k0 c : Nat} (hc : c < n) : ∀ m, k0 + m ≤ nBlk S B → chL n d B S k0 (tlX d n F S B k0) c m = (List.range (chN B S k0 m)).map fun j => F c (k0 * B + j)
  | 0, _ => rfl
  | m + 1, hm => by
    have hlt : (k0 + m) * B < S := (nBlk_lt h.B1).1 (by omega)
    have e1 := chN_full (B := B) (S := S) (k0 := k0) m (by omega)
    have e2 : (k0 + m) * B = k0 * B + m * B := Nat.add_mul _ _ _
    unfold chL chN
    rw [tl_chL h hc m (by omega), tl_at h m (by omega), List.range_add, List.map_append, List.map_map]
    congr 1
    refine List.map_congr_left fun i hi => ?_
    rw [List.mem_range] at hi
    show smpF n d B (k0 + m) (tlX d n F S B (k0 + m)) c i = F c (k0 * B + (chN B S k0 m + i))
    rw [(tl_frame h (k := k0 + m) (by omega)).2.2 c hc i hi, e1, e2, Nat.add_assoc]
theorem tl_smp {d n B c3 c4 S : Nat} {F : Nat → Nat → Int} (h : KP d n B c3 c4 S F) {k0 c m j : Nat} (hc : c < n) (hm : k0 + m ≤ nBlk S B) (hj : j < chN B S k0 m) : smpL n d B S k0 (tlX d n F S B k0) m c j = F c (k0 * B + j) := by
  unfold smpL
  rw [tl_chL h hc m hm, List.getD_eq_getElem?_getD, List.getElem?_map, List.getElem?_range hj]
  rfl
/-- the points -/
theorem nat_ext {a b : Nat} (h : ∀ j, j < a ↔ j < b) : a = b := by
  have h1 := h a
  have h2 := h b
  omega
theorem pntN_all (ln : Nat → Nat) {s : Nat} (hs : 1 ≤ s) : ∀ k, pntN ln s k = (List.range (nBlk k s)).map fun i => atN ln (i * s)
  | 0 => by
    have e : nBlk 0 s = 0 := nat_ext fun j => by rw [nBlk_lt hs]; omega
    rw [e]; rfl
  | k + 1 => by
    unfold pntN
    by_cases h : k % s = 0
    · have hq : k / s * s = k := Nat.div_mul_cancel (Nat.dvd_of_mod_eq_zero h)
      generalize k / s = q at hq
      have e1 : nBlk k s = q := nat_ext fun j => by rw [nBlk_lt hs, ← hq]; exact Nat.mul_lt_mul_right hs
      have e2 : nBlk (k + 1) s = q + 1 := nat_ext fun j => by
        rw [nBlk_lt hs, ← hq, Nat.lt_succ_iff, Nat.lt_succ_iff]
        exact Nat.mul_le_mul_right_iff hs
      rw [if_pos ⟨hs, h⟩, pntN_all ln hs k, e1, e2, List.range_succ, List.map_append, List.map_cons, List.map_nil, hq]
    · have e1 : nBlk (k + 1) s = nBlk k s := nat_ext fun j => by
        rw [nBlk_lt hs, nBlk_lt hs]
        have : j * s ≠ k := fun e => h (by rw [← e]; exact Nat.mul_mod_left _ _)
        omega
      rw [if_neg (fun hh => h hh.2), pntN_all ln hs k, e1]
theorem pntN_zero (ln : Nat → Nat) : ∀ k, pntN ln 0 k = []
  | 0 => rfl
  | k + 1 => by
    unfold pntN
    rw [if_neg (fun h => by omega)]
    exact pntN_zero ln k
theorem pntN_size (ln : Nat → Nat) (S B s : Nat) : (pntN ln s (nBlk S B)).length = nPts S B s := by
  unfold nPts
  by_cases h : s = 0
  · rw [if_pos h, h, pntN_zero]; rfl
  · rw [if_neg h, pntN_all ln (by omega), List.length_map, List.length_range]
theorem atN_frs (d n : Nat) (F : Nat → Nat → Int) (S B : Nat) : ∀ k, atN (lnF d n F S B) k = (frsT d n F S B k).length
  | 0 => rfl
  | k + 1 => by
    show atN (lnF d n F S B) k + _ = (frsT d n F S B k ++ frT d n F S B k).length
    rw [atN_frs d n F S B k, List.length_append]
    rfl
/-- the numbers of a head, all of them -/
theorem headTx_all (wh c0 c1 c2 c3 s c4 le mo su : Nat) (ps : List Nat) (R : List UInt8) (h0 : wh < 256) (h1 : c0 < 256) (h2 : c1 < 256) (h3 : c2 < 256) (h4 : c3 < 65536) (h5 : s < 65536) (h6 : c4 < 256) (hle : le < 65536) (hmo : mo < 65536) (hsu : su < 4294967296) :
    dWh (headTx wh c0 c1 c2 c3 s c4 le mo su ps ++ R) = wh ∧ dCh (headTx wh c0 c1 c2 c3 s c4 le mo su ps ++ R) = c0 ∧ dDe (headTx wh c0 c1 c2 c3 s c4 le mo su ps ++ R) = c1 ∧ dBl (headTx wh c0 c1 c2 c3 s c4 le mo su ps ++ R) = c2 ∧ dRa (headTx wh c0 c1 c2 c3 s c4 le mo su ps ++ R) = c3 ∧ dSa (headTx wh c0 c1 c2 c3 s c4 le mo su ps ++ R) = s ∧ dSe (headTx wh c0 c1 c2 c3 s c4 le mo su ps ++ R) = c4 ∧ dLe (headTx wh c0 c1 c2 c3 s c4 le mo su ps ++ R) = le ∧ dMo (headTx wh c0 c1 c2 c3 s c4 le mo su ps ++ R) = mo ∧ dSu (headTx wh c0 c1 c2 c3 s c4 le mo su ps ++ R) = su := by
  have hhl := headTx_length wh c0 c1 c2 c3 s c4 le mo su ps
  have hF : ∀ a b, a ≤ b → b ≤ 19 → pieceT (headTx wh c0 c1 c2 c3 s c4 le mo su ps ++ R) a b = pieceT (fieldsT wh c0 c1 c2 c3 s c4 le mo su) a b := fun a b h1 h2 => by
    have hl := fieldsT_length wh c0 c1 c2 c3 s c4 le mo su
    rw [piece_left _ _ a b h1 (by omega)]
    unfold headTx seal16
    rw [piece_left _ _ a b h1 (by rw [List.length_append, seal8_length]; omega), piece_left _ _ a b h1 (by rw [seal8_length]; omega)]
    unfold seal8
    rw [piece_left _ _ a b h1 (by omega)]
  obtain ⟨f1, f2, f3⟩ := headTx_fld wh c0 c1 c2 c3 s c4 le mo su ps hle hmo hsu
  have hG : ∀ a b, a ≤ b → b ≤ 19 → fld (headTx wh c0 c1 c2 c3 s c4 le mo su ps ++ R) a b = fld (headTx wh c0 c1 c2 c3 s c4 le mo su ps) a b := fun a b h1 h2 => by
    unfold fld
    rw [piece_left _ _ a b h1 (by omega)]
  have hq : ∀ a b x, a ≤ b → b ≤ 19 → valN (pieceT (fieldsT wh c0 c1 c2 c3 s c4 le mo su) a b) = x → fld (headTx wh c0 c1 c2 c3 s c4 le mo su ps ++ R) a b = x := fun a b x h1 h2 h3 => by
    unfold fld
    rw [hF a b h1 h2]; exact h3
  refine ⟨hq 2 3 _ (by omega) (by omega) ?_, hq 3 4 _ (by omega) (by omega) ?_, hq 4 5 _ (by omega) (by omega) ?_, hq 5 6 _ (by omega) (by omega) ?_, hq 6 8 _ (by omega) (by omega) ?_, hq 8 10 _ (by omega) (by omega) ?_, hq 10 11 _ (by omega) (by omega) ?_, (hG 11 13 (by omega) (by omega)).trans f1, (hG 13 15 (by omega) (by omega)).trans f2, (hG 15 19 (by omega) (by omega)).trans f3⟩
  all_goals unfold fieldsT
  · rw [piece_left _ _ 2 3 (by omega) (by simp [inT_length]), piece_left _ _ 2 3 (by omega) (by simp [inT_length]), piece_left _ _ 2 3 (by omega) (by simp [inT_length]), piece_left _ _ 2 3 (by omega) (by simp [inT_length]), piece_left _ _ 2 3 (by omega) (by simp [inT_length]), piece_left _ _ 2 3 (by omega) (by simp [inT_length]), piece_left _ _ 2 3 (by omega) (by simp [inT_length]), piece_left _ _ 2 3 (by omega) (by simp [inT_length]), piece_left _ _ 2 3 (by omega) (by simp [inT_length]), piece_right _ _ 2 3 (by simp)]
    exact (congrArg valN (piece_whole _ _ (by rw [inT_length]; rfl))).trans (valN_inT 1 _ (by omega))
  · rw [piece_left _ _ 3 4 (by omega) (by simp [inT_length]), piece_left _ _ 3 4 (by omega) (by simp [inT_length]), piece_left _ _ 3 4 (by omega) (by simp [inT_length]), piece_left _ _ 3 4 (by omega) (by simp [inT_length]), piece_left _ _ 3 4 (by omega) (by simp [inT_length]), piece_left _ _ 3 4 (by omega) (by simp [inT_length]), piece_left _ _ 3 4 (by omega) (by simp [inT_length]), piece_left _ _ 3 4 (by omega) (by simp [inT_length]), piece_right _ _ 3 4 (by simp [inT_length])]
    simp only [List.length_append, inT_length, List.length_cons, List.length_nil]
    exact (congrArg valN (piece_whole _ _ (by rw [inT_length]))).trans (valN_inT 1 _ (by omega))
  · rw [piece_left _ _ 4 5 (by omega) (by simp [inT_length]), piece_left _ _ 4 5 (by omega) (by simp [inT_length]), piece_left _ _ 4 5 (by omega) (by simp [inT_length]), piece_left _ _ 4 5 (by omega) (by simp [inT_length]), piece_left _ _ 4 5 (by omega) (by simp [inT_length]), piece_left _ _ 4 5 (by omega) (by simp [inT_length]), piece_left _ _ 4 5 (by omega) (by simp [inT_length]), piece_right _ _ 4 5 (by simp [inT_length])]
    simp only [List.length_append, inT_length, List.length_cons, List.length_nil]
    exact (congrArg valN (piece_whole _ _ (by rw [inT_length]))).trans (valN_inT 1 _ (by omega))
  · rw [piece_left _ _ 5 6 (by omega) (by simp [inT_length]), piece_left _ _ 5 6 (by omega) (by simp [inT_length]), piece_left _ _ 5 6 (by omega) (by simp [inT_length]), piece_left _ _ 5 6 (by omega) (by simp [inT_length]), piece_left _ _ 5 6 (by omega) (by simp [inT_length]), piece_left _ _ 5 6 (by omega) (by simp [inT_length]), piece_right _ _ 5 6 (by simp [inT_length])]
    simp only [List.length_append, inT_length, List.length_cons, List.length_nil]
    exact (congrArg valN (piece_whole _ _ (by rw [inT_length]))).trans (valN_inT 1 _ (by omega))
  · rw [piece_left _ _ 6 8 (by omega) (by simp [inT_length]), piece_left _ _ 6 8 (by omega) (by simp [inT_length]), piece_left _ _ 6 8 (by omega) (by simp [inT_length]), piece_left _ _ 6 8 (by omega) (by simp [inT_length]), piece_left _ _ 6 8 (by omega) (by simp [inT_length]), piece_right _ _ 6 8 (by simp [inT_length])]
    simp only [List.length_append, inT_length, List.length_cons, List.length_nil]
    exact (congrArg valN (piece_whole _ _ (by rw [inT_length]))).trans (valN_inT 2 _ (by omega))
  · rw [piece_left _ _ 8 10 (by omega) (by simp [inT_length]), piece_left _ _ 8 10 (by omega) (by simp [inT_length]), piece_left _ _ 8 10 (by omega) (by simp [inT_length]), piece_left _ _ 8 10 (by omega) (by simp [inT_length]), piece_right _ _ 8 10 (by simp [inT_length])]
    simp only [List.length_append, inT_length, List.length_cons, List.length_nil]
    exact (congrArg valN (piece_whole _ _ (by rw [inT_length]))).trans (valN_inT 2 _ (by omega))
  · rw [piece_left _ _ 10 11 (by omega) (by simp [inT_length]), piece_left _ _ 10 11 (by omega) (by simp [inT_length]), piece_left _ _ 10 11 (by omega) (by simp [inT_length]), piece_right _ _ 10 11 (by simp [inT_length])]
    simp only [List.length_append, inT_length, List.length_cons, List.length_nil]
    exact (congrArg valN (piece_whole _ _ (by rw [inT_length]))).trans (valN_inT 1 _ (by omega))
end Go.Proofs.YtlncjgnomhpjnabGreatDoor

/-
  A stream that was made: its length, its head, its sum; what Decode, Salvage and From answer.
-/
namespace Go.Proofs.YtlncjgnomhpjnabGreatDoor
open Go.RowKit Go.Deep
set_option linter.unusedVariables false
/-- frames are short -/
theorem allT_fine (d : Nat) (F : Nat → Nat → Int) (N : Nat) (hN : 1 ≤ N) : ∀ i, (allT d F N i).length ≤ i * (8 + N * d)
  | 0 => by simp [allT]
  | i + 1 => by
    have ih := allT_fine d F N hN i
    have h1 := subT_le d (F i) N hN
    show (allT d F N i ++ subT d (F i) N).length ≤ _
    rw [List.length_append, Nat.add_one_mul]
    omega
theorem bestM_le (T : Nat → List UInt8) : ∀ m j, j < m → (T (bestM T m)).length ≤ (T j).length
  | 0, j, h => absurd h (Nat.not_lt_zero j)
  | m + 1, j, h => by
    unfold bestM
    by_cases e : m = 0 ∨ (T m).length < (T (bestM T m)).length
    · rw [if_pos e]
      by_cases ej : j = m
      · rw [ej]; exact Nat.le_refl _
      · have := bestM_le T m j (by omega)
        rcases e with e | e
        · omega
        · omega
    · rw [if_neg e]
      by_cases ej : j = m
      · rw [ej]; omega
      · exact bestM_le T m j (by omega)
theorem blockT_fine (d n : Nat) (F : Nat → Nat → Int) (N : Nat) (hN : 1 ≤ N) : (blockT d n F N).length ≤ n * (8 + N * d) := by
  unfold blockT
  by_cases h : n = 2
  · rw [if_pos h]
    have h1 := bestM_le (pairT d (F 0) (F 1) N) 4 0 (by omega)
    have h2 : (pairT d (F 0) (F 1) N 0).length ≤ 2 * (8 + N * d) := by
      show (subT d (F 0) N ++ subT d (F 1) N).length ≤ _
      have h3 := subT_le d (F 0) N hN
      have h4 := subT_le d (F 1) N hN
      rw [List.length_append]
      omega
    unfold modeN
    rw [if_pos h]
    rw [h]
    omega
  · rw [if_neg h]
    exact allT_fine d F N hN n
theorem lnF_fine {d n B c3 c4 S : Nat} {F : Nat → Nat → Int} (h : KP d n B c3 c4 S F) {k : Nat} (hk : k < nBlk S B) : lnF d n F S B k ≤ 14 + 6 * blkN S B k := by
  have hb := blkN_bd h.B1 hk
  have h1 := blockT_fine d n (blkF F B k) (blkN S B k) hb.1
  unfold lnF frT
  rw [frameT_length, packT_length]
  generalize (blockT d n (blkF F B k) (blkN S B k)).length = L at *
  generalize blkN S B k = N at *
  have h2 : N * d ≤ N * 12 := Nat.mul_le_mul_left _ h.d12
  have h3 : n * (8 + N * d) ≤ 4 * (8 + N * d) := Nat.mul_le_mul_right _ h.n4
  omega
theorem atN_fine {d n B c3 c4 S : Nat} {F : Nat → Nat → Int} (h : KP d n B c3 c4 S F) : ∀ k, k ≤ nBlk S B → atN (lnF d n F S B) k ≤ 14 * k + 6 * chN B S 0 k
  | 0, _ => by simp [atN]
  | k + 1, hk => by
    have ih := atN_fine h k (by omega)
    have h1 := lnF_fine h (k := k) (by omega)
    show atN (lnF d n F S B) k + lnF d n F S B k ≤ 14 * (k + 1) + 6 * (chN B S 0 k + blkN S B (0 + k))
    rw [Nat.zero_add]
    omega
theorem at_bd {d n B c3 c4 S : Nat} {F : Nat → Nat → Int} (h : KP d n B c3 c4 S F) {k : Nat} (hk : k ≤ nBlk S B) : atN (lnF d n F S B) k ≤ 6000 := by
  have h1 := atN_fine h k hk
  have h2 := chN_le (B := B) (S := S) (k0 := 0) (m := k) h.B1 (by omega)
  have h3 := h.nb
  have h4 := h.S3
  omega
theorem ln_bd {d n B c3 c4 S : Nat} {F : Nat → Nat → Int} (h : KP d n B c3 c4 S F) {k : Nat} (hk : k < nBlk S B) : lnF d n F S B k ≤ 222 := (lnF_bd d n F S B k h.d12 h.n1 h.n4 h.B1 h.B32 hk).2
theorem pts_bd {d n B c3 c4 S : Nat} {F : Nat → Nat → Int} (h : KP d n B c3 c4 S F) {p : Nat} (hp : p ∈ pntN (lnF d n F S B) c4 (nBlk S B)) : p ≤ 6000 := by
  obtain ⟨i, hi, rfl⟩ := pnt_mem _ _ hp
  exact at_bd h (Nat.le_of_lt hi)
theorem np_bd (S B s : Nat) (hB : 1 ≤ B) : nPts S B s ≤ nBlk S B := by
  unfold nPts
  by_cases h : s = 0
  · rw [if_pos h]; exact Nat.zero_le _
  · rw [if_neg h]; exact nBlk_le (by omega)
/-- the head of the stream -/
structure HdIs (T : List UInt8) (d n B c3 c4 S : Nat) (F : Nat → Nat → Int) : Prop where
  wh : dWh T = 1
  ch : dCh T = n
  de : dDe T = d
  bl : dBl T = B
  ra : dRa T = c3
  sa : dSa T = S
  se : dSe T = c4
  le : dLe T = leastN (lnF d n F S B) (nBlk S B)
  mo : dMo T = mostN (lnF d n F S B) (nBlk S B)
  su : dSu T = sumN (intT n F (2 * (S * n)))
theorem stream_head {d n B c3 c4 S : Nat} {F : Nat → Nat → Int} (h : KP d n B c3 c4 S F) : HdIs (streamT d n B c3 c4 F S) d n B c3 c4 S F := by
  have h1 := h.d12
  have h2 := h.n4
  have h3 := h.B32
  have h4 := h.S3
  have hle := leastN_bd (ln := lnF d n F S B) (m := 222) (nBlk S B) (fun i hi => ln_bd h hi)
  have hmo := mostN_bd (ln := lnF d n F S B) (m := 222) (nBlk S B) (fun i hi => ln_bd h hi)
  obtain ⟨a1, a2, a3, a4, a5, a6, a7, a8, a9, a10⟩ := headTx_all 1 n d B c3 S c4 (leastN (lnF d n F S B) (nBlk S B)) (mostN (lnF d n F S B) (nBlk S B)) (sumN (intT n F (2 * (S * n)))) (pntN (lnF d n F S B) c4 (nBlk S B)) (frsT d n F S B (nBlk S B)) (by omega) (by omega) (by omega) (by omega) h.c3b (by omega) h.c4b (by omega) (by omega) (sumN_lt _)
  exact ⟨a1, a2, a3, a4, a5, a6, a7, a8, a9, a10⟩
theorem HdIs.np {T : List UInt8} {d n B c3 c4 S : Nat} {F : Nat → Nat → Int} (h : HdIs T d n B c3 c4 S F) : dNp T = nPts S B c4 := by
  unfold dNp
  rw [h.sa, h.bl, h.se]
theorem HdIs.sz {T : List UInt8} {d n B c3 c4 S : Nat} {F : Nat → Nat → Int} (h : HdIs T d n B c3 c4 S F) : dSz T = 22 + 2 * nPts S B c4 := by
  unfold dSz
  rw [h.np]
theorem head_len (d n B c3 c4 S : Nat) (F : Nat → Nat → Int) : (headTx 1 n d B c3 S c4 (leastN (lnF d n F S B) (nBlk S B)) (mostN (lnF d n F S B) (nBlk S B)) (sumN (intT n F (2 * (S * n)))) (pntN (lnF d n F S B) c4 (nBlk S B))).length = 22 + 2 * nPts S B c4 := by
  rw [headTx_length, pntN_size]
theorem stream_take {d n B c3 c4 S : Nat} {F : Nat → Nat → Int} (h : KP d n B c3 c4 S F) : (streamT d n B c3 c4 F S).take (dSz (streamT d n B c3 c4 F S)) = headTx 1 n d B c3 S c4 (leastN (lnF d n F S B) (nBlk S B)) (mostN (lnF d n F S B) (nBlk S B)) (sumN (intT n F (2 * (S * n)))) (pntN (lnF d n F S B) c4 (nBlk S B)) := by
  rw [(stream_head h).sz, ← head_len d n B c3 c4 S F]
  exact List.take_left
theorem stream_drop {d n B c3 c4 S : Nat} {F : Nat → Nat → Int} (h : KP d n B c3 c4 S F) : (streamT d n B c3 c4 F S).drop (dSz (streamT d n B c3 c4 F S)) = tlX d n F S B 0 := by
  rw [(stream_head h).sz, ← head_len d n B c3 c4 S F]
  exact List.drop_left
theorem stream_len {d n B c3 c4 S : Nat} {F : Nat → Nat → Int} (h : KP d n B c3 c4 S F) : (streamT d n B c3 c4 F S).length = 22 + 2 * nPts S B c4 + (frsT d n F S B (nBlk S B)).length := by
  unfold streamT
  rw [List.length_append, head_len]
theorem stream_short {d n B c3 c4 S : Nat} {F : Nat → Nat → Int} (h : KP d n B c3 c4 S F) : (streamT d n B c3 c4 F S).length ≤ 9000 := by
  rw [stream_len h, ← atN_frs]
  have h1 := at_bd h (Nat.le_refl (nBlk S B))
  have h2 := np_bd S B c4 h.B1
  have h3 := h.nb
  omega
theorem stream_pts {d n B c3 c4 S : Nat} {F : Nat → Nat → Int} (h : KP d n B c3 c4 S F) : dPts (streamT d n B c3 c4 F S) = pntN (lnF d n F S B) c4 (nBlk S B) := by
  have hl := pntN_size (lnF d n F S B) S B c4
  unfold dPts
  rw [(stream_head h).np]
  refine List.ext_getElem (by rw [List.length_map, List.length_range, hl]) fun i h1 h2 => ?_
  rw [List.getElem_map, List.getElem_range]
  have hp : (pntN (lnF d n F S B) c4 (nBlk S B))[i] < 65536 := by
    have := pts_bd h (List.getElem_mem h2)
    omega
  have := headTx_pt 1 n d B c3 S c4 (leastN (lnF d n F S B) (nBlk S B)) (mostN (lnF d n F S B) (nBlk S B)) (sumN (intT n F (2 * (S * n)))) (pntN (lnF d n F S B) c4 (nBlk S B)) i h2 hp
  rw [← this]
  unfold fld streamT
  rw [piece_left _ _ _ _ (by omega) (by rw [head_len]; omega)]
theorem stream_hd {d n B c3 c4 S : Nat} {F : Nat → Nat → Int} (h : KP d n B c3 c4 S F) : HdP (streamT d n B c3 c4 F S) := by
  have hh := stream_head h
  have hl := stream_len h
  have b1 := h.d4
  have b2 := h.d12
  have b3 := h.n1
  have b4 := h.n4
  have b5 := h.B1
  have b6 := h.B32
  have b7 := h.c3b
  have b8 := h.c4b
  have b9 := h.S3
  refine ⟨by omega, by rw [hh.wh]; exact Nat.le_refl _, ?_, by rw [hh.sz]; omega, ?_, fun h0 => by rw [hh.wh] at h0; cases h0⟩
  · rw [hh.ch, hh.de, hh.bl, hh.ra, hh.se, hh.sa]
    simp only [infoB, Bool.and_eq_true, within_iff]
    omega
  · rw [stream_take h]
    unfold dTx
    rw [hh.wh, hh.ch, hh.de, hh.bl, hh.ra, hh.sa, hh.se, hh.le, hh.mo, hh.su, stream_pts h]
/-- From answers with the samples from a place on -/
theorem stream_stB {d n B c3 c4 S a : Nat} {F : Nat → Nat → Int} (h : KP d n B c3 c4 S F) (ha : a < S) : stB (streamT d n B c3 c4 F S) a = (frsT d n F S B (stN (streamT d n B c3 c4 F S) a)).length := by
  have hh := stream_head h
  unfold stB stN
  rw [hh.se, hh.bl]
  by_cases h0 : c4 = 0
  · rw [if_pos h0, if_pos h0]; rfl
  · rw [if_neg h0, if_neg h0, stream_pts h, pntN_all _ (by omega), List.getD_eq_getElem?_getD, List.getElem?_map]
    have h1 : a / B < nBlk S B := (nBlk_lt h.B1).2 (Nat.lt_of_le_of_lt (Nat.div_mul_le_self _ _) ha)
    have h2 : a / B / c4 < nBlk (nBlk S B) c4 := (nBlk_lt (by omega)).2 (Nat.lt_of_le_of_lt (Nat.div_mul_le_self _ _) h1)
    rw [List.getElem?_range h2]
    show atN (lnF d n F S B) (a / B / c4 * c4) = _
    exact atN_frs _ _ _ _ _ _
theorem stream_from {d n B c3 c4 S a : Nat} {F : Nat → Nat → Int} (h : KP d n B c3 c4 S F) (ha : a < S) : (streamT d n B c3 c4 F S).drop (dSz (streamT d n B c3 c4 F S) + stB (streamT d n B c3 c4 F S) a) = tlX d n F S B (stN (streamT d n B c3 c4 F S) a) := by
  rw [← List.drop_drop, stream_drop h, tl_zero, stream_stB h ha]
  rfl
theorem stream_frmS {d n B c3 c4 S a : Nat} {F : Nat → Nat → Int} (h : KP d n B c3 c4 S F) (ha : a < S) {c j : Nat} (hc : c < n) (hj : j < S - a) : frmS (streamT d n B c3 c4 F S) a c j = F c (a + j) := by
  have hh := stream_head h
  have hka := stN_le (streamT d n B c3 c4 F S) a
  have hk : stN (streamT d n B c3 c4 F S) a < nBlk S B := by
    have := stN_lt (T := streamT d n B c3 c4 F S) (a := a) (by rw [hh.bl]; exact h.B1) (by rw [hh.sa]; omega)
    rwa [hh.sa, hh.bl] at this
  unfold frmS
  rw [stream_from h ha]
  rw [hh.bl] at hka
  rw [hh.ch, hh.de, hh.bl, hh.sa]
  generalize stN (streamT d n B c3 c4 F S) a = k at *
  rw [tl_smp h hc (by omega) (by rw [chN_whole h.B1 (by omega) (by omega)]; omega)]
  congr 1
  omega
end Go.Proofs.YtlncjgnomhpjnabGreatDoor

