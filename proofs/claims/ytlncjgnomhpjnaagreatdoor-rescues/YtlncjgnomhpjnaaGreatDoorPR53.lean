import Derived.Test.YtlncjgnomhpjnaaGreatDoorPR52
/-
  The program reads from a place on: stream.From, where it gives no samples.
-/
namespace Go.Proofs.YtlncjgnomhpjnaaGreatDoor
open Go.RowKit Go.Deep
set_option linter.unusedVariables false
/-- the block from which on frames are read, and where its frame begins -/
def stN (T : List UInt8) (a : Nat) : Nat := if dSe T = 0 then 0 else a / dBl T / dSe T * dSe T
def stB (T : List UInt8) (a : Nat) : Nat := if dSe T = 0 then 0 else (dPts T).getD (a / dBl T / dSe T) 0
/-- the frames from there on reach to the end -/
def FrmsP (T : List UInt8) (a : Nat) : Prop :=
  dSz T + stB T a ≤ T.length ∧ ∃ m, RunIs (dCh T) (dDe T) (dBl T) (dSa T) (stN T a) (T.drop (dSz T + stB T a)) m ∧ stN T a + m = nBlk (dSa T) (dBl T) ∧ offX (T.drop (dSz T + stB T a)) m = (T.drop (dSz T + stB T a)).length
open Classical in
/-- the error -/
noncomputable def frmE (T : List UInt8) (a : Int) : Int :=
  if T.length ≤ 9000 then (if HdP T ∧ dWh T = 1 then (if 0 ≤ a ∧ a ≤ dSa T then (if a = dSa T ∨ FrmsP T a.toNat then 0 else 6) else 3) else 7) else 4
/-- the samples -/
noncomputable def frmS (T : List UInt8) (a : Nat) (c j : Nat) : Int := smpL (dCh T) (dDe T) (dBl T) (dSa T) (stN T a) (T.drop (dSz T + stB T a)) (nBlk (dSa T) (dBl T) - stN T a) c (a - stN T a * dBl T + j)
/-- what From answers -/
def FrmAns (e : Ending) (w w' : World) (T : List UInt8) (a : Int) : Prop :=
  ((frmE T a = 0 ∧ ∃ v, e = .returned (.tuple #[v, .int .i64 0]) ∧ RowsL w.heap.size w' v (dCh T) (dSa T - a.toNat) (frmS T a.toNat))
   ∨ (frmE T a ≠ 0 ∧ e = .returned (.tuple #[.slice none 0 0, .int .i64 (frmE T a)]))) ∧ Below w.heap.size w w'
theorem frm_bad {w w' : World} {T : List UInt8} {a : Int} (E : Int) (h0 : E ≠ 0) (hE : frmE T a = E) (hb : Below w.heap.size w w') : FrmAns (.returned (.tuple #[.slice none 0 0, .int .i64 E])) w w' T a := ⟨.inr ⟨by rw [hE]; exact h0, by rw [hE]⟩, hb⟩
set_option maxRecDepth 4000 in
set_option maxHeartbeats 2000000 in
theorem streamFrom_head (T : List UInt8) (a : Int) (w : World) (hs : T.length ≤ 9000) (hp : ¬ (HdP T ∧ dWh T = 1)) :
    Calls Tryz.prog 54 #[.string (bs T), .int .i64 a] w fun e w' => FrmAns e w w' T a := by
  have HHR := Hid.mk' (fun u => headRead_any T u hs)
  have HBAD : Hid (∀ w', Below w.heap.size w w' → FrmAns (.returned (.tuple #[.slice none 0 0, .int .i64 7])) w w' T a) := fun w' hb => frm_bad 7 (by omega) (by unfold frmE; rw [if_pos hs, if_neg hp]) hb
  by_cases hy : HdP T
  · have HY := Hid.mk' hy
    have hw0 : decide (dWh T = 1) = false := decide_eq_false (fun h => hp ⟨hy, h⟩)
    have HW := Hid.mk' hw0
    clear hp hy hw0
    generalize bs T = SB at *
    go_enter Tryz.func54, Tryz.ntmps54
    go_wp2_with (first
      | (go_at_call 90; refine (HHR.out _).mono ?_; intro e u1 ho; obtain ⟨pa, pc, rfl, hown, hb⟩ := ho.yes HY.out HW.out; have HB1 := Hid.mk' hb; clear HHR ho hb hown))
    go_ret2
    exact HBAD.out _ (HB1.out.alloc HB1.out.size _)
  · have HY := Hid.mk' hy
    clear hp hy
    generalize bs T = SB at *
    go_enter Tryz.func54, Tryz.ntmps54
    go_wp2_with (first
      | (go_at_call 90; refine (HHR.out _).mono ?_; intro e u1 ho; obtain ⟨rfl, hb⟩ := ho.nothing HY.out; have HB1 := Hid.mk' hb; clear HHR ho hb))
    go_ret2
    exact HBAD.out _ (HB1.out.alloc HB1.out.size _)
set_option maxRecDepth 4000 in
set_option maxHeartbeats 2000000 in
theorem streamFrom_arg (T : List UInt8) (a : Int) (w : World) (hs : T.length ≤ 9000) (hp : HdP T) (hw : dWh T = 1) (ha : ¬ (0 ≤ a ∧ a ≤ dSa T)) :
    Calls Tryz.prog 54 #[.string (bs T), .int .i64 a] w fun e w' => FrmAns e w w' T a := by
  have HHR := Hid.mk' (fun u => headRead_any T u hs)
  have HBAD : Hid (∀ w', Below w.heap.size w w' → FrmAns (.returned (.tuple #[.slice none 0 0, .int .i64 3])) w w' T a) := fun w' hb => frm_bad 3 (by omega) (by unfold frmE; rw [if_pos hs, if_pos ⟨hp, hw⟩, if_neg ha]) hb
  have HWI := Hid.mk' (fun u => within_any a 0 (dSa T) u)
  have hwf : within a 0 (dSa T) = false := by
    rw [Bool.eq_false_iff, ne_eq, within_iff]
    exact ha
  rw [hwf] at HWI
  have HY := Hid.mk' hp
  have HW : Hid (decide (dWh T = 1) = true) := decide_eq_true hw
  clear hp hw ha hwf
  generalize bs T = SB at *
  go_enter Tryz.func54, Tryz.ntmps54
  go_wp2_with (first
    | (go_at_call 90; refine (HHR.out _).mono ?_; intro e u1 ho; obtain ⟨pa, pc, rfl, hown, hb⟩ := ho.yes HY.out HW.out; have HB1 := Hid.mk' hb; clear HHR ho hb hown)
    | (go_at_call 62; refine (HWI.out _).mono ?_; rintro e u2 ⟨rfl, hw⟩; subst u2; clear HWI))
  go_ret2
  exact HBAD.out _ (HB1.out.alloc HB1.out.size _)
/-- lists without samples -/
theorem rows_made (base n : Nat) (U : World) (H : Nat → Nat → Int) (hb : base ≤ U.heap.size) : RowsL base (U.alloc (.cells (madeCells #[.slice none 0 0] n) 29)) (.slice (some ⟨U.heap.size, 0, none⟩) n n) n 0 H :=
  ⟨U.heap.size, fun _ => .slice none 0 0, fun _ => none, rfl, hb, World.rowIs_made U (.slice none 0 0) n 29, fun c _ => ⟨.inl ⟨rfl, rfl, rfl⟩, fun q hq => by cases hq⟩, fun c c' _ _ _ q hq => by cases hq⟩
set_option maxRecDepth 4000 in
set_option maxHeartbeats 2000000 in
theorem streamFrom_end (T : List UInt8) (w : World) (hs : T.length ≤ 9000) (hp : HdP T) (hw : dWh T = 1) :
    Calls Tryz.prog 54 #[.string (bs T), .int .i64 (dSa T)] w fun e w' => FrmAns e w w' T (dSa T) := by
  obtain ⟨b1, b2, b3, b4, b5, b6, b7, b8, b9, b10, b11⟩ := hd_bd hp
  have HHR := Hid.mk' (fun u => headRead_any T u hs)
  have HE : Hid (frmE T (dSa T) = 0) := by
    show _ = _
    unfold frmE
    rw [if_pos hs, if_pos ⟨hp, hw⟩, if_pos ⟨by omega, by omega⟩, if_pos (.inl rfl)]
  have HWI := Hid.mk' (fun u => within_any (dSa T) 0 (dSa T) u)
  have hwf : within (dSa T) 0 (dSa T) = true := by
    rw [within_iff]
    omega
  rw [hwf] at HWI
  have hmk := run_make_row' (P := Tryz.prog) 24 29 (.slice none 0 0) 24 Tryz.underlying24 infoInts rfl .i64 .i64 (dCh T) (by omega) (by omega)
  have HY := Hid.mk' hp
  have HW : Hid (decide (dWh T = 1) = true) := decide_eq_true hw
  clear hp hw hwf
  generalize bs T = SB at *
  go_enter Tryz.func54, Tryz.ntmps54
  go_wp2_with (first
    | (go_at_call 90; refine (HHR.out _).mono ?_; intro e u1 ho; obtain ⟨pa, pc, rfl, hown, hb⟩ := ho.yes HY.out HW.out; have HB1 := Hid.mk' hb; clear HHR ho hb hown)
    | (go_at_call 62; refine (HWI.out _).mono ?_; rintro e u2 ⟨rfl, hw⟩; subst u2; clear HWI))
  have hU : (u1.alloc (.cells #[.int .i64 (dCh T), .int .i64 (dDe T), .int .i64 (dBl T), .int .i64 (dRa T), .int .i64 (dSe T), .int .i64 (dSa T), .bool true, .int .i64 (dLe T), .int .i64 (dMo T), .int .i64 (dSu T), .slice pa (dNp T) pc] 115)).heap.size = u1.heap.size + 1 := by simp
  have hrow := rows_made w.heap.size (dCh T) (u1.alloc (.cells #[.int .i64 (dCh T), .int .i64 (dDe T), .int .i64 (dBl T), .int .i64 (dRa T), .int .i64 (dSe T), .int .i64 (dSa T), .bool true, .int .i64 (dLe T), .int .i64 (dMo T), .int .i64 (dSu T), .slice pa (dNp T) pc] 115)) (frmS T (dSa T)) (by rw [hU]; have := HB1.out.size; omega)
  rw [hU] at hrow
  have HROW := Hid.mk' hrow
  go_ret2
  refine ⟨.inl ⟨HE.out, _, rfl, ?_⟩, (HB1.out.alloc HB1.out.size _).alloc (Nat.le_trans HB1.out.size (by simp)) _⟩
  have e : dSa T - ((dSa T : Nat) : Int).toNat = 0 := by omega
  rw [e]
  exact HROW.out
end Go.Proofs.YtlncjgnomhpjnaaGreatDoor

/-
  The program reads from a place on: stream.From, the frames (a draft).
-/
namespace Go.Proofs.YtlncjgnomhpjnaaGreatDoor
open Go.RowKit Go.Deep
set_option linter.unusedVariables false
/-- Start, as the head that was read wants it -/
theorem start_any (T : List UInt8) (a : Nat) (pv : Value) (base : Nat) (w : World) (hp : HdP T) (ha : a < dSa T) (ho : w.ownsRow base 3 1 pv (dPts T).length (pntV (dPts T))) :
    Calls Tryz.prog 100 #[.agg (hdC (dCh T) (dDe T) (dBl T) (dRa T) (dSe T) (dSa T) true (dLe T) (dMo T) (dSu T) pv), .int .i64 a] w fun e w' => e = .returned (.tuple #[.int .i64 (stN T a : Nat), .int .i64 (stB T a : Nat)]) ∧ Below w.heap.size w w' := by
  obtain ⟨b1, b2, b3, b4, b5, b6, b7, b8, b9, b10, b11⟩ := hd_bd hp
  unfold stN stB
  by_cases h0 : dSe T = 0
  · rw [if_pos h0, if_pos h0, h0]
    obtain ⟨x, c, rfl⟩ := own_form ho
    exact headStart_none _ _ _ _ _ _ _ _ _ _ _ _ _ w
  · rw [if_neg h0, if_neg h0]
    refine headStart_some (dCh T) (dDe T) (dRa T) (dSa T) (dBl T) (dSe T) true (dLe T) (dMo T) (dSu T) a (dPts T) pv base w b5 b6 (by omega) b8 (by omega) (by rw [dPts_length]; exact b9) ?_ ho
    rw [dPts_length]
    unfold dNp nPts
    rw [if_neg h0]
    have h1 : a / dBl T < nBlk (dSa T) (dBl T) := (nBlk_lt b5).2 (Nat.lt_of_le_of_lt (Nat.div_mul_le_self _ _) ha)
    exact (nBlk_lt (by omega)).2 (Nat.lt_of_le_of_lt (Nat.div_mul_le_self _ _) h1)
end Go.Proofs.YtlncjgnomhpjnaaGreatDoor

/-
  Lists from a place on: rows of lists, cut.
-/
namespace Go.Proofs.YtlncjgnomhpjnaaGreatDoor
open Go.RowKit Go.Deep
set_option linter.unusedVariables false
/-- a row of lists, of which the first j are cut -/
def ctV (bk ofs cs : Nat → Nat) (nn q j i : Nat) : Value := if i < j then .slice (some ⟨bk i, ofs i + q, none⟩) (nn - q : Nat) (cs i - q : Nat) else .slice (some ⟨bk i, ofs i, none⟩) nn (cs i)
structure CutI (base : Nat) (u : World) (g n nn q j : Nat) (bk ofs cs : Nat → Nat) (H : Nat → Nat → Int) : Prop where
  le : base ≤ g
  row : u.rowIs g 29 n (ctV bk ofs cs nn q j)
  cap : ∀ c, c < n → nn ≤ cs c
  low : ∀ c, c < n → base ≤ bk c
  lst : ∀ c, c < n → ∃ N f, u.rowIs (bk c) 3 N f ∧ ofs c + cs c ≤ N ∧ ∀ i, i < nn → f (ofs c + i) = .int .i64 (H c i)
  apart : ∀ c c', c < n → c' < n → c ≠ c' → bk c ≠ bk c'
theorem RowsL.toCut {base : Nat} {u : World} {g n nn : Nat} {H : Nat → Nat → Int} (h : RowsL base u (.slice (some ⟨g, 0, none⟩) n n) n nn H) (hn : 0 < nn) (q : Nat) : ∃ bk ofs cs, CutI base u g n nn q 0 bk ofs cs H := by
  obtain ⟨g', vs, ogs, h1, h2, h3, h4, h5⟩ := h
  have eg : g' = g := by injection h1 with e; injection e with e; injection e with e; exact e.symm
  subst eg
  have hex : ∀ c, ∃ p : Nat × Nat × Nat, c < n → ogs c = some p.1 ∧ vs c = .slice (some ⟨p.1, p.2.1, none⟩) nn p.2.2 ∧ nn ≤ p.2.2 ∧ ∃ N f, u.rowIs p.1 3 N f ∧ p.2.1 + p.2.2 ≤ N ∧ ∀ i, i < nn → f (p.2.1 + i) = .int .i64 (H c i) := fun c => by
    by_cases hc : c < n
    · rcases (h4 c hc).1 with ⟨-, e, -⟩ | ⟨b, o, k, N, f, e1, e2, e3, e4, e5, e6⟩
      · omega
      · exact ⟨(b, o, k), fun _ => ⟨e1, e2, e5, N, f, e3, e4, e6⟩⟩
    · exact ⟨(0, 0, 0), fun h => absurd h hc⟩
  refine ⟨fun c => (hex c).choose.1, fun c => (hex c).choose.2.1, fun c => (hex c).choose.2.2, h2, h3.congr fun i hi => ?_, fun c hc => ((hex c).choose_spec hc).2.2.1, fun c hc => (h4 c hc).2 _ ((hex c).choose_spec hc).1, fun c hc => ((hex c).choose_spec hc).2.2.2, fun c c' hc hc' hne e => ?_⟩
  · unfold ctV
    rw [if_neg (Nat.not_lt_zero i)]
    exact ((hex i).choose_spec hi).2.1
  · refine h5 c c' hc hc' hne _ ((hex c).choose_spec hc).1 ?_
    have e' : (hex c).choose.1 = (hex c').choose.1 := e
    rw [e']
    exact ((hex c').choose_spec hc').1
theorem CutI.step {base : Nat} {u : World} {g n nn q j : Nat} {bk ofs cs : Nat → Nat} {H : Nat → Nat → Int} (h : CutI base u g n nn q j bk ofs cs H) : CutI base (u.setCell ⟨g, j, none⟩ (.slice (some ⟨bk j, ofs j + q, none⟩) (nn - q : Nat) (cs j - q : Nat))) g n nn q (j + 1) bk ofs cs H := by
  refine ⟨h.le, (h.row.set j _).congr fun i _ => ?_, h.cap, h.low, fun c hc => ?_, h.apart⟩
  · unfold ctV
    by_cases e : i = j
    · rw [if_pos e, if_pos (by omega), e]
    · rw [if_neg e]
      by_cases e2 : i < j
      · rw [if_pos e2, if_pos (by omega)]
      · rw [if_neg e2, if_neg (by omega)]
  · obtain ⟨N, f, h1, h2⟩ := h.lst c hc
    refine ⟨N, f, h1.setOther (fun e => ?_) _, h2⟩
    have e' : bk c = g := e
    rw [e'] at h1
    exact absurd (row_type h1 h.row) (by decide)
theorem CutI.done {base : Nat} {u : World} {g n nn q : Nat} {bk ofs cs : Nat → Nat} {H : Nat → Nat → Int} (h : CutI base u g n nn q n bk ofs cs H) (hq : q ≤ nn) : RowsL base u (.slice (some ⟨g, 0, none⟩) n n) n (nn - q) (fun c j => H c (q + j)) := by
  refine ⟨g, ctV bk ofs cs nn q n, fun c => some (bk c), rfl, h.le, h.row, fun c hc => ⟨.inr ?_, fun k hk => by injection hk with hk; rw [← hk]; exact h.low c hc⟩, fun c c' hc hc' hne k h1 h2 => h.apart c c' hc hc' hne ?_⟩
  · obtain ⟨N, f, h1, h2, h3⟩ := h.lst c hc
    have hcap := h.cap c hc
    refine ⟨bk c, ofs c + q, cs c - q, N, f, rfl, ?_, h1, by omega, by omega, fun i hi => ?_⟩
    · unfold ctV; rw [if_pos hc]
    · rw [Nat.add_assoc]; exact h3 (q + i) (by omega)
  · injection h1 with h1
    injection h2 with h2
    rw [h1, h2]
theorem CutI.cell {base : Nat} {u : World} {g n nn q j : Nat} {bk ofs cs : Nat → Nat} {H : Nat → Nat → Int} (h : CutI base u g n nn q j bk ofs cs H) (hj : j < n) : u.cell? ⟨g, j, none⟩ = some (.slice (some ⟨bk j, ofs j, none⟩) nn (cs j)) := by
  have := h.row.cell hj
  unfold ctV at this
  rw [if_neg (Nat.lt_irrefl j)] at this
  exact this
theorem CutI.below {base : Nat} {u u' : World} {g n nn q j : Nat} {bk ofs cs : Nat → Nat} {H : Nat → Nat → Int} (h : CutI base u g n nn q j bk ofs cs H) (hb : Below u.heap.size u u') : CutI base u' g n nn q j bk ofs cs H :=
  ⟨h.le, row_below h.row hb, h.cap, h.low, fun c hc => by
    obtain ⟨N, f, h1, h2⟩ := h.lst c hc
    exact ⟨N, f, row_below h1 hb, h2⟩, h.apart⟩
/-- another block than the row -/
theorem Bx.ne_row {u : World} {b g N : Nat} {t e : TypeId} {cs : Array Value} {f : Nat → Value} (h : Bx u b t cs) (hr : u.rowIs g e N f) (ht : t ≠ e) : b ≠ g := by
  rintro rfl
  obtain ⟨c, hc, -⟩ := hr
  have h' : u.heap[b]? = _ := h
  rw [hc] at h'
  injection h' with h'
  injection h' with h1 h2
  exact ht h2.symm
theorem Bx.put {u : World} {b : Nat} {t : TypeId} {cs : Array Value} (h : Bx u b t cs) {a : Addr} (ha : b ≠ a.block) (v : Value) : Bx (u.setCell a v) b t cs := h.of (blk_setCell_other _ _ _ _ ha)
/-- the block from which on frames are read lies at or ahead of the sample -/
theorem stN_le (T : List UInt8) (a : Nat) : stN T a * dBl T ≤ a := by
  unfold stN
  split
  · omega
  · exact Nat.le_trans (Nat.mul_le_mul_right _ (Nat.div_mul_le_self _ _)) (Nat.div_mul_le_self _ _)
theorem stN_lt {T : List UInt8} {a : Nat} (hB : 1 ≤ dBl T) (ha : a < dSa T) : stN T a < nBlk (dSa T) (dBl T) := (nBlk_lt hB).2 (Nat.lt_of_le_of_lt (stN_le T a) ha)
/-- the lists, cut -/
theorem cut_frm {base : Nat} {u : World} {g : Nat} {bk ofs cs : Nat → Nat} {T : List UInt8} {a m nn : Nat} (hB : 1 ≤ dBl T) (ha : a < dSa T) (hm : stN T a + m = nBlk (dSa T) (dBl T)) (hnn : nn = chN (dBl T) (dSa T) (stN T a) m)
    (h : CutI base u g (dCh T) nn (a - stN T a * dBl T) (dCh T) bk ofs cs (smpL (dCh T) (dDe T) (dBl T) (dSa T) (stN T a) (T.drop (dSz T + stB T a)) m)) : RowsL base u (.slice (some ⟨g, 0, none⟩) (dCh T) (dCh T)) (dCh T) (dSa T - a) (frmS T a) := by
  have h1 := stN_le T a
  have h2 := chN_whole hB hm (by omega)
  have h3 := h.done (by omega)
  have e1 : nn - (a - stN T a * dBl T) = dSa T - a := by omega
  have e2 : m = nBlk (dSa T) (dBl T) - stN T a := by omega
  rw [e1, e2] at h3
  exact h3
/-- a point is a number of two bytes -/
theorem pt_bd {T : List UInt8} (hp : HdP T) (k : Nat) : (dPts T).getD k 0 ≤ 65535 := by
  unfold dPts
  rw [List.getD_eq_getElem?_getD, List.getElem?_map]
  by_cases hk : k < dNp T
  · rw [List.getElem?_range hk]
    show fld T (20 + 2 * k) (22 + 2 * k) ≤ _
    have h1 := fld_lt T (20 + 2 * k) (22 + 2 * k) (by omega) (by have := hp.2.2.2.1; unfold dSz at this; omega)
    rw [show 22 + 2 * k - (20 + 2 * k) = 2 by omega] at h1
    omega
  · rw [List.getElem?_eq_none (by simp; omega)]
    simp
theorem stB_bd {T : List UInt8} (hp : HdP T) (a : Nat) : stB T a ≤ 65535 := by
  unfold stB
  split
  · omega
  · exact pt_bd hp _
/-- so many frames are read: there is such a number -/
theorem run_exists (n d : Nat) {B S k0 : Nat} (X : List UInt8) (h : k0 ≤ nBlk S B) : ∃ m, RunIs n d B S k0 X m := by
  have key : ∀ t m, k0 + m + t = nBlk S B → (∀ j, j < m → okF n d B S (k0 + j) (atX X j)) → ∃ m, RunIs n d B S k0 X m := fun t => by
    induction t with
    | zero => exact fun m e h => ⟨m, .inl (by omega), h, fun h => by omega⟩
    | succ t ih =>
      intro m e h
      by_cases ho : okF n d B S (k0 + m) (atX X m)
      · refine ih (m + 1) (by omega) fun j hj => ?_
        by_cases hjm : j = m
        · rw [hjm]; exact ho
        · exact h j (by omega)
      · exact ⟨m, .inl (by omega), h, fun _ => ho⟩
  exact key (nBlk S B - k0) 0 (by omega) fun j hj => absurd hj (Nat.not_lt_zero j)
end Go.Proofs.YtlncjgnomhpjnaaGreatDoor

/-
  The program reads from a place on: stream.From, the frames.
-/
namespace Go.Proofs.YtlncjgnomhpjnaaGreatDoor
open Go.RowKit Go.Deep
set_option linter.unusedVariables false
/-- what lies in memory when the frames are read -/
structure FrmI (T X : List UInt8) (kk : Nat) (w wx : World) (H g gl m : Nat) (la : Option Addr) (lc : Nat) (pa : Option Addr) (pc : Nat) (bf : Bool) : Prop where
  flag : bf = true ↔ (kk + m = nBlk (dSa T) (dBl T) ∧ offX X m = X.length)
  hd : Bx wx H 115 #[.int .i64 (dCh T), .int .i64 (dDe T), .int .i64 (dBl T), .int .i64 (dRa T), .int .i64 (dSe T), .int .i64 (dSa T), .bool true, .int .i64 (dLe T), .int .i64 (dMo T), .int .i64 (dSu T), .slice pa (dNp T) pc]
  r : Bx wx g 119 #[(.slice (some ⟨gl, 0, none⟩) (dCh T) (dCh T)), .slice la m lc, .bool bf]
  run : RunIs (dCh T) (dDe T) (dBl T) (dSa T) kk X m
  rows : RowsL w.heap.size wx (.slice (some ⟨gl, 0, none⟩) (dCh T) (dCh T)) (dCh T) (chN (dBl T) (dSa T) kk m) (smpL (dCh T) (dDe T) (dBl T) (dSa T) kk X m)
  below : Below w.heap.size w wx
/-- r lies behind what was read -/
theorem frmI_one {T X : List UInt8} {kk : Nat} {w U u2 : World} {H gl m : Nat} {la : Option Addr} {lc : Nat} {pa : Option Addr} {pc : Nat} {bf : Bool} (hfl : bf = true ↔ (kk + m = nBlk (dSa T) (dBl T) ∧ offX X m = X.length)) (hh : Bx U H 115 #[.int .i64 (dCh T), .int .i64 (dDe T), .int .i64 (dBl T), .int .i64 (dRa T), .int .i64 (dSe T), .int .i64 (dSa T), .bool true, .int .i64 (dLe T), .int .i64 (dMo T), .int .i64 (dSu T), .slice pa (dNp T) pc]) (hb0 : Below w.heap.size w U)
    (hr : RunIs (dCh T) (dDe T) (dBl T) (dSa T) kk X m) (hrow : RowsL U.drew.heap.size u2 (.slice (some ⟨gl, 0, none⟩) (dCh T) (dCh T)) (dCh T) (chN (dBl T) (dSa T) kk m) (smpL (dCh T) (dDe T) (dBl T) (dSa T) kk X m)) (hb : Below U.drew.heap.size U.drew u2) :
    FrmI T X kk w (u2.alloc (.cells #[(.slice (some ⟨gl, 0, none⟩) (dCh T) (dCh T)), .slice la m lc, .bool bf] 119)) H u2.heap.size gl m la lc pa pc bf := by
  have hb' : Below U.heap.size U u2 := ⟨hb.os, hb.tape, hb.output, hb.size, hb.block⟩
  have hs : w.heap.size ≤ U.drew.heap.size := hb0.size
  exact ⟨hfl, (hh.below hb').alloc _, Bx.new _ _ _, hr, (hrow.mono hs).below ((Below.refl _ _).alloc (Nat.le_refl _) _), (hb0.trans (hb'.mono hb0.size)).alloc (Nat.le_trans hb0.size hb'.size) _⟩
/-- r lies ahead of what was read -/
theorem frmI_two {T X : List UInt8} {kk : Nat} {w U u2 : World} {H gl m : Nat} {la : Option Addr} {lc : Nat} {pa : Option Addr} {pc : Nat} {bf : Bool} (hfl : bf = true ↔ (kk + m = nBlk (dSa T) (dBl T) ∧ offX X m = X.length)) (hh : Bx U H 115 #[.int .i64 (dCh T), .int .i64 (dDe T), .int .i64 (dBl T), .int .i64 (dRa T), .int .i64 (dSe T), .int .i64 (dSa T), .bool true, .int .i64 (dLe T), .int .i64 (dMo T), .int .i64 (dSu T), .slice pa (dNp T) pc]) (hb0 : Below w.heap.size w U)
    (hr : RunIs (dCh T) (dDe T) (dBl T) (dSa T) kk X m) (hrow : RowsL (U.alloc (.cells #[.slice none 0 0, .slice none 0 0, .bool false] 119)).drew.heap.size u2 (.slice (some ⟨gl, 0, none⟩) (dCh T) (dCh T)) (dCh T) (chN (dBl T) (dSa T) kk m) (smpL (dCh T) (dDe T) (dBl T) (dSa T) kk X m)) (hb : Below (U.alloc (.cells #[.slice none 0 0, .slice none 0 0, .bool false] 119)).drew.heap.size (U.alloc (.cells #[.slice none 0 0, .slice none 0 0, .bool false] 119)).drew u2) :
    FrmI T X kk w (((u2.setCell ⟨U.heap.size, 0, none⟩ (.slice (some ⟨gl, 0, none⟩) (dCh T) (dCh T))).setCell ⟨U.heap.size, 1, none⟩ (.slice la m lc)).setCell ⟨U.heap.size, 2, none⟩ (.bool bf)) H U.heap.size gl m la lc pa pc bf := by
  have hA : (U.alloc (.cells #[.slice none 0 0, .slice none 0 0, .bool false] 119)).drew.heap.size = U.heap.size + 1 := by simp
  have hb' : Below U.heap.size U u2 := ((Below.refl _ _).alloc (Nat.le_refl _) _ : Below U.heap.size U (U.alloc (.cells #[.slice none 0 0, .slice none 0 0, .bool false] 119))).trans ((⟨hb.os, hb.tape, hb.output, hb.size, hb.block⟩ : Below (U.alloc (.cells #[.slice none 0 0, .slice none 0 0, .bool false] 119)).heap.size (U.alloc (.cells #[.slice none 0 0, .slice none 0 0, .bool false] 119)) u2).mono (by simp))
  have hs := hb0.size
  have hu := hb.size
  rw [hA] at hu
  have hg := set3_grown u2 U.heap.size (.slice (some ⟨gl, 0, none⟩) (dCh T) (dCh T)) (.slice la m lc) (.bool bf)
  have hhl := hh.lt
  have hne : ∀ k, k ≠ U.heap.size → some k ≠ some U.heap.size := fun k h e => h (by injection e)
  refine ⟨hfl, (hh.below hb').of (hg.block _ (by omega) (hne _ (by omega))), ?_, hr, ?_, ?_⟩
  · exact ((Bx.new U _ _).below (⟨hb.os, hb.tape, hb.output, hb.size, hb.block⟩ : Below (U.alloc (.cells #[.slice none 0 0, .slice none 0 0, .bool false] 119)).heap.size (U.alloc (.cells #[.slice none 0 0, .slice none 0 0, .bool false] 119)) u2)).set3 _ _ _
  · exact (hrow.grown hg (by omega)).mono (by omega)
  · exact (hb0.trans (hb'.mono hb0.size)).grown hg (Nat.le_trans hb0.size hb'.size) (fun k hk => by injection hk with hk; omega)
set_option maxRecDepth 4000 in
set_option maxHeartbeats 2000000 in
/-- the frame would stand beyond the text -/
theorem streamFrom_short (T : List UInt8) (a : Nat) (w : World) (hs : T.length ≤ 9000) (hp : HdP T) (hw : dWh T = 1) (ha : a < dSa T) (hB : T.length - dSz T < stB T a) (hB2 : stB T a ≤ 1000000) :
    Calls Tryz.prog 54 #[.string (bs T), .int .i64 a] w fun e w' => FrmAns e w w' T a := by
  obtain ⟨b1, b2, b3, b4, b5, b6, b7, b8, b9, b10, b11⟩ := hd_bd hp
  have hz : (bs T).size = T.length := bs_size T
  have HHR := Hid.mk' (fun u => headRead_any T u hs)
  have HWI := Hid.mk' (fun u => within_any a 0 (dSa T) u)
  have hwf : within a 0 (dSa T) = true := by
    rw [within_iff]
    omega
  rw [hwf] at HWI
  have HSA := Hid.mk' (fun (u : World) (pv : Value) (base : Nat) ho => start_any T a pv base u hp ha ho)
  unfold hdC at HSA
  have n1 : ¬ (a : Int) = (dSa T : Int) := by omega
  have n2 : ((a : Int) == (dSa T : Int)) = false := beq_eq_false_iff_ne.2 n1
  have n3 : ¬ a = dSa T := by omega
  have HBAD : Hid (∀ w', Below w.heap.size w w' → FrmAns (.returned (.tuple #[.slice none 0 0, .int .i64 6])) w w' T a) := fun w' hb => frm_bad 6 (by omega) (by
    unfold frmE
    rw [if_pos hs, if_pos ⟨hp, hw⟩, if_pos ⟨by omega, by omega⟩, if_neg]
    rintro (h | ⟨h, -⟩)
    · omega
    · rw [Int.toNat_natCast] at h; omega) hb
  have HY := Hid.mk' hp
  have HW : Hid (decide (dWh T = 1) = true) := decide_eq_true hw
  clear hp hw hwf
  generalize stB T a = bb at *
  generalize stN T a = kk at *
  have w1 : IntKind.i64.wrap ((T.length : Int) - (dSz T : Int)) = ((T.length - dSz T : Nat) : Int) := by rw [IntKind.wrap_i64]; omega
  have q1 : ((T.length - dSz T : Nat) : Int) < (bb : Int) := by omega
  generalize T.length - dSz T = rest at *
  generalize bs T = SB at *
  go_enter Tryz.func54, Tryz.ntmps54
  go_wp2_with (first
    | (go_at_call 90; refine (HHR.out _).mono ?_; intro e u1 ho; obtain ⟨pa, pc, rfl, hown, hb⟩ := ho.yes HY.out HW.out; have HB1 := Hid.mk' hb; have HO1 := Hid.mk' hown; clear HHR ho hb hown)
    | (go_at_call 62; refine (HWI.out _).mono ?_; rintro e u2 ⟨rfl, hw⟩; subst u2; clear HWI)
    | (go_at_call 100; refine (HSA.out _ _ _ (HO1.out.alloc _)).mono ?_; rintro e u3 ⟨rfl, hb⟩; have HB3 := Hid.mk' hb; clear HSA hb))
  go_ret2
  exact HBAD.out _ ((HB1.out.alloc HB1.out.size _).trans (HB3.out.mono (HB1.out.alloc HB1.out.size _).size))
set_option maxRecDepth 4000 in
set_option maxHeartbeats 2000000 in
theorem streamFrom_rest (T : List UInt8) (a : Nat) (w : World) (hs : T.length ≤ 9000) (hp : HdP T) (hw : dWh T = 1) (ha : a < dSa T) (hB : stB T a ≤ T.length - dSz T) (hT : TabsU w) :
    Calls Tryz.prog 54 #[.string (bs T), .int .i64 a] w fun e w' => FrmAns e w w' T a := by
  obtain ⟨b1, b2, b3, b4, b5, b6, b7, b8, b9, b10, b11⟩ := hd_bd hp
  have hz : (bs T).size = T.length := bs_size T
  have HHR := Hid.mk' (fun u => headRead_any T u hs)
  have HWI := Hid.mk' (fun u => within_any a 0 (dSa T) u)
  have hwf : within a 0 (dSa T) = true := by
    rw [within_iff]
    omega
  rw [hwf] at HWI
  have HSA := Hid.mk' (fun (u : World) (pv : Value) (base : Nat) ho => start_any T a pv base u hp ha ho)
  unfold hdC at HSA
  have n1 : ¬ (a : Int) = (dSa T : Int) := by omega
  have n2 : ((a : Int) == (dSa T : Int)) = false := beq_eq_false_iff_ne.2 n1
  have n3 : ¬ a = dSa T := by omega
  have hkl := stN_lt b5 ha
  have hka := stN_le T a
  have HFR := Hid.mk' (fun (u : World) (hu : Below w.heap.size w u) => readFrames_any (dCh T) (dDe T) (dBl T) (dRa T) (dSe T) (dSa T) (stN T a) (T.drop (dSz T + stB T a)) u b3 b4 b1 b2 b5 b6 b7 (Nat.le_of_lt hkl) (by rw [List.length_drop]; omega) (hT.below hu))
  have HOK : Hid (∀ (m g nn : Nat) (bk ofs cs : Nat → Nat) (w' : World), RunIs (dCh T) (dDe T) (dBl T) (dSa T) (stN T a) (T.drop (dSz T + stB T a)) m → stN T a + m = nBlk (dSa T) (dBl T) → offX (T.drop (dSz T + stB T a)) m = (T.drop (dSz T + stB T a)).length → nn = chN (dBl T) (dSa T) (stN T a) m → CutI w.heap.size w' g (dCh T) nn (a - stN T a * dBl T) (dCh T) bk ofs cs (smpL (dCh T) (dDe T) (dBl T) (dSa T) (stN T a) (T.drop (dSz T + stB T a)) m) → Below w.heap.size w w' → FrmAns (.returned (.tuple #[.slice (some ⟨g, 0, none⟩) (dCh T) (dCh T), .int .i64 0])) w w' T a) := fun m g nn bk ofs cs w' h1 h2 h3 h4 h5 h6 => by
    refine ⟨.inl ⟨?_, _, rfl, ?_⟩, h6⟩
    · unfold frmE
      rw [if_pos hs, if_pos ⟨hp, hw⟩, if_pos ⟨by omega, by omega⟩, if_pos]
      right
      rw [Int.toNat_natCast]
      exact ⟨by omega, m, h1, h2, h3⟩
    · rw [Int.toNat_natCast]
      exact cut_frm b5 ha h2 h4 h5
  have HBAD : Hid (∀ (m : Nat) (w' : World), RunIs (dCh T) (dDe T) (dBl T) (dSa T) (stN T a) (T.drop (dSz T + stB T a)) m → ¬ (stN T a + m = nBlk (dSa T) (dBl T) ∧ offX (T.drop (dSz T + stB T a)) m = (T.drop (dSz T + stB T a)).length) → Below w.heap.size w w' → FrmAns (.returned (.tuple #[.slice none 0 0, .int .i64 6])) w w' T a) := fun m w' h1 h2 hb => frm_bad 6 (by omega) (by
    unfold frmE
    rw [if_pos hs, if_pos ⟨hp, hw⟩, if_pos ⟨by omega, by omega⟩, if_neg]
    rintro (h | ⟨-, m', h3, h4⟩)
    · omega
    · rw [Int.toNat_natCast] at h3 h4
      rw [h3.uniq h1] at h4
      exact h2 h4) hb
  have HCW : Hid (∀ m, stN T a + m = nBlk (dSa T) (dBl T) → chN (dBl T) (dSa T) (stN T a) m = dSa T - stN T a * dBl T) := fun m hm => chN_whole b5 hm (by omega)
  have hkb : stN T a ≤ 300 := by have := nBlk_le (S := dSa T) (B := dBl T) b5; omega
  have HY := Hid.mk' hp
  have HW : Hid (decide (dWh T = 1) = true) := decide_eq_true hw
  have eS : (bs T).extract (dSz T + stB T a) T.length = bs (T.drop (dSz T + stB T a)) := by
    rw [bs_cut', List.take_of_length_le (by rw [List.length_drop]; exact Nat.le_refl _)]
  clear hp hw hwf hT hkl
  have hdb := stB T a
  generalize stB T a = bb at *
  generalize stN T a = kk at *
  have w1 : IntKind.i64.wrap ((T.length : Int) - (dSz T : Int)) = ((T.length - dSz T : Nat) : Int) := by rw [IntKind.wrap_i64]; omega
  have w2 : IntKind.i64.wrap ((dSz T : Int) + (bb : Int)) = ((dSz T + bb : Nat) : Int) := by rw [IntKind.wrap_i64]; omega
  have q1 : ¬ ((T.length - dSz T : Nat) : Int) < (bb : Int) := by omega
  have q2 : ((dSz T + bb : Nat) : Int) ≤ (T.length : Int) := by omega
  generalize T.drop (dSz T + bb) = X at *
  have HE : Hid (dSz T + bb ≤ T.length) := by show _ ≤ _; omega
  generalize hpl : dSz T + bb = pl at *
  clear hpl
  generalize T.length - dSz T = rest at *
  generalize bs X = SX at *
  generalize bs T = SB at *
  go_enter Tryz.func54, Tryz.ntmps54
  go_wp2_with (first
    | (go_at_call 90; refine (HHR.out _).mono ?_; intro e u1 ho; obtain ⟨pa, pc, rfl, hown, hb⟩ := ho.yes HY.out HW.out; have HB1 := Hid.mk' hb; have HO1 := Hid.mk' hown; clear HHR ho hb hown)
    | (go_at_call 62; refine (HWI.out _).mono ?_; rintro e u2 ⟨rfl, hw⟩; subst u2; clear HWI)
    | (go_at_call 100; refine (HSA.out _ _ _ (HO1.out.alloc _)).mono ?_; rintro e u3 ⟨rfl, hb⟩; have HB3 := Hid.mk' hb; clear HSA hb))
  have HHU := Hid.mk' ((Bx.new u1 #[.int .i64 (dCh T), .int .i64 (dDe T), .int .i64 (dBl T), .int .i64 (dRa T), .int .i64 (dSe T), .int .i64 (dSa T), .bool true, .int .i64 (dLe T), .int .i64 (dMo T), .int .i64 (dSu T), .slice pa (dNp T) pc] 115).below HB3.out)
  have HBU := Hid.mk' ((HB1.out.alloc HB1.out.size (.cells #[.int .i64 (dCh T), .int .i64 (dDe T), .int .i64 (dBl T), .int .i64 (dRa T), .int .i64 (dSe T), .int .i64 (dSa T), .bool true, .int .i64 (dLe T), .int .i64 (dMo T), .int .i64 (dSu T), .slice pa (dNp T) pc] 115)).trans (HB3.out.mono (HB1.out.alloc HB1.out.size _).size))
  clear HB1 HO1 HB3
  generalize u1.heap.size = H at *
  generalize u3 = U at *
  clear u1
  go_cut [11] (fun s8 wx => ∃ g gl m la lc bf, s8 = .pointer (some ⟨g, 0, none⟩) ∧ Hid (FrmI T X kk w wx H g gl m la lc pa pc bf))
  case first =>
    have hS0 : H < U.drew.heap.size ∧ U.drew.cell? ⟨H, 0, none⟩ = some (.int .i64 (dCh T)) ∧ U.drew.cell? ⟨H, 1, none⟩ = some (.int .i64 (dDe T)) ∧ U.drew.cell? ⟨H, 2, none⟩ = some (.int .i64 (dBl T)) ∧ U.drew.cell? ⟨H, 3, none⟩ = some (.int .i64 (dRa T)) ∧ U.drew.cell? ⟨H, 4, none⟩ = some (.int .i64 (dSe T)) ∧ U.drew.cell? ⟨H, 5, none⟩ = some (.int .i64 (dSa T)) := ⟨HHU.out.lt, HHU.out.cell 0, HHU.out.cell 1, HHU.out.cell 2, HHU.out.cell 3, HHU.out.cell 4, HHU.out.cell 5⟩
    have hSA : H < (U.alloc (.cells #[.slice none 0 0, .slice none 0 0, .bool false] 119)).drew.heap.size ∧ (U.alloc (.cells #[.slice none 0 0, .slice none 0 0, .bool false] 119)).drew.cell? ⟨H, 0, none⟩ = some (.int .i64 (dCh T)) ∧ (U.alloc (.cells #[.slice none 0 0, .slice none 0 0, .bool false] 119)).drew.cell? ⟨H, 1, none⟩ = some (.int .i64 (dDe T)) ∧ (U.alloc (.cells #[.slice none 0 0, .slice none 0 0, .bool false] 119)).drew.cell? ⟨H, 2, none⟩ = some (.int .i64 (dBl T)) ∧ (U.alloc (.cells #[.slice none 0 0, .slice none 0 0, .bool false] 119)).drew.cell? ⟨H, 3, none⟩ = some (.int .i64 (dRa T)) ∧ (U.alloc (.cells #[.slice none 0 0, .slice none 0 0, .bool false] 119)).drew.cell? ⟨H, 4, none⟩ = some (.int .i64 (dSe T)) ∧ (U.alloc (.cells #[.slice none 0 0, .slice none 0 0, .bool false] 119)).drew.cell? ⟨H, 5, none⟩ = some (.int .i64 (dSa T)) := ki_al6 hS0
    have hHl : H ≠ U.heap.size := Nat.ne_of_lt HHU.out.lt
    have HZA := Hid.mk' (show Bx (U.alloc (.cells #[.slice none 0 0, .slice none 0 0, .bool false] 119)).drew U.heap.size 119 #[.slice none 0 0, .slice none 0 0, .bool false] from Bx.new U _ _)
    go_region_held3 (fun w' => H < w'.heap.size ∧ w'.cell? ⟨H, 0, none⟩ = some (.int .i64 (dCh T)) ∧ w'.cell? ⟨H, 1, none⟩ = some (.int .i64 (dDe T)) ∧ w'.cell? ⟨H, 2, none⟩ = some (.int .i64 (dBl T)) ∧ w'.cell? ⟨H, 3, none⟩ = some (.int .i64 (dRa T)) ∧ w'.cell? ⟨H, 4, none⟩ = some (.int .i64 (dSe T)) ∧ w'.cell? ⟨H, 5, none⟩ = some (.int .i64 (dSa T)))
      (first | with_reducible exact hS0 | with_reducible exact hSA | with_reducible exact hS1 | with_reducible exact ki_al6 hS1 | with_reducible exact ki_st3 hHl hS1)
      (first
      | (go_at_call 91; refine (HFR.out _ ?_).mono ?_; (first | exact HBU.out.drew | exact (HBU.out.alloc HBU.out.size _).drew); intro e u2 ho; obtain ⟨m, gl, la, lc, bf, rfl, hfl, hri, hrow, hl, hb⟩ := ho.all; have HFL := Hid.mk' hfl; clear hfl; have hS1 : H < u2.heap.size ∧ u2.cell? ⟨H, 0, none⟩ = some (.int .i64 (dCh T)) ∧ u2.cell? ⟨H, 1, none⟩ = some (.int .i64 (dDe T)) ∧ u2.cell? ⟨H, 2, none⟩ = some (.int .i64 (dBl T)) ∧ u2.cell? ⟨H, 3, none⟩ = some (.int .i64 (dRa T)) ∧ u2.cell? ⟨H, 4, none⟩ = some (.int .i64 (dSe T)) ∧ u2.cell? ⟨H, 5, none⟩ = some (.int .i64 (dSa T)) := (by first | exact ki_below hb hS0 | exact ki_below hb hSA); have HQ := Hid.mk' (And.intro hri (And.intro hrow hb)); (first | (have hza := HZA.out.below hb; have x0 := hza.cell 0; have x1 := hza.cell 1; have x2 := hza.cell 2; have z0 := hza.fz 0; have z1 := hza.fz 1; have z2 := hza.fz 2; clear hza) | skip); clear hri hrow hl hb ho))
    · go_wp2
      go_meet
      case rel => exact ⟨_, gl, m, la, lc, bf, rfl, frmI_one HFL.out HHU.out HBU.out HQ.out.1 HQ.out.2.1 HQ.out.2.2⟩
    · go_wp2
      go_meet
      case rel => exact ⟨_, gl, m, la, lc, bf, rfl, frmI_two HFL.out HHU.out HBU.out HQ.out.1 HQ.out.2.1 HQ.out.2.2⟩
  case rest =>
    obtain ⟨g, gl, m, la, lc, bf, rfl, HC⟩ := hcut
    clear HFR HHU HBU eS hz HW w1 w2 q1 q2
    have r0 := HC.out.r.cell 0
    have r1 := HC.out.r.cell 1
    have r2 := HC.out.r.cell 2
    have h2 := HC.out.hd.cell 2
    by_cases hbf : bf = true
    · have HM := Hid.mk' (HC.out.flag.1 hbf)
      subst hbf
      have hnn := HCW.out m HM.out.1
      have HNN := Hid.mk' hnn
      have HR := Hid.mk' (HC.out.rows)
      rw [hnn] at HR
      obtain ⟨bk, ofs, cs, hct⟩ := HR.out.toCut (by omega) (a - kk * dBl T)
      have HCT := Hid.mk' hct
      have HGR : Hid (g ≠ gl) := HC.out.r.ne_row hct.row (by decide)
      have HHR2 : Hid (H ≠ gl) := HC.out.hd.ne_row hct.row (by decide)
      have e1 : (kk : Int) * (dBl T : Int) = ((kk * dBl T : Nat) : Int) := by simp
      clear hct hnn HR HCW
      generalize kk * dBl T = kb at *
      have w1 : IntKind.i64.wrap ((kk : Int) * (dBl T : Int)) = (kb : Int) := by rw [IntKind.wrap_i64, e1]; omega
      have w2 : IntKind.i64.wrap ((a : Int) - (kb : Int)) = ((a - kb : Nat) : Int) := by rw [IntKind.wrap_i64]; omega
      have hq : a - kb < dSa T - kb := by omega
      clear e1
      generalize dSa T - kb = nn at *
      generalize a - kb = q at *
      go_wp2
      clear r0 r1 r2 h2
      go_loopw [12, 13, 69] (fun _ _ iv wr => ∃ i : Nat, i ≤ dCh T ∧ iv = .int .i64 i ∧ Hid (CutI w.heap.size wr gl (dCh T) nn q i bk ofs cs (smpL (dCh T) (dDe T) (dBl T) (dSa T) kk X m) ∧ Bx wr H 115 #[.int .i64 (dCh T), .int .i64 (dDe T), .int .i64 (dBl T), .int .i64 (dRa T), .int .i64 (dSe T), .int .i64 (dSa T), .bool true, .int .i64 (dLe T), .int .i64 (dMo T), .int .i64 (dSu T), .slice pa (dNp T) pc] ∧ Bx wr g 119 #[(.slice (some ⟨gl, 0, none⟩) (dCh T) (dCh T)), .slice la m lc, .bool true] ∧ Below w.heap.size w wr)) (fun _ _ iv _ => dCh T - (intOf iv).toNat)
      case atStart => exact ⟨0, Nat.zero_le _, rfl, HCT.out, HC.out.hd, HC.out.r, HC.out.below⟩
      case round =>
        obtain ⟨i, hi, rfl, HR⟩ := hrel
        have x0 := HR.out.2.2.1.cell 0
        have h2 := HR.out.2.1.cell 2
        by_cases hlt : i < dCh T
        · have hc1 := HR.out.1.cell hlt
          have hf1 := HR.out.1.row.frozen i
          have hcap := HR.out.1.cap i hlt
          have HZ := Hid.mk' HR.out.1.step
          have HZH := Hid.mk' (HR.out.2.1.put (a := ⟨gl, i, none⟩) HHR2.out (.slice (some ⟨bk i, ofs i + q, none⟩) (nn - q : Nat) (cs i - q : Nat)))
          have HZR := Hid.mk' (HR.out.2.2.1.put (a := ⟨gl, i, none⟩) HGR.out (.slice (some ⟨bk i, ofs i + q, none⟩) (nn - q : Nat) (cs i - q : Nat)))
          have HZB := Hid.mk' (HR.out.2.2.2.setCell (p := ⟨gl, i, none⟩) HR.out.1.le (.slice (some ⟨bk i, ofs i + q, none⟩) (nn - q : Nat) (cs i - q : Nat)))
          generalize bk i = bi at *
          generalize ofs i = oi at *
          generalize cs i = ci at *
          have q0 : (q : Int) ≤ (nn : Int) := by omega
          have q1 : (nn : Int) ≤ (ci : Int) := by omega
          have q2 : (q : Int) ≤ (ci : Int) := by omega
          have q3 : ((nn : Int) - (q : Int)).toNat = nn - q := by omega
          have q4 : ((ci : Int) - (q : Int)).toNat = ci - q := by omega
          have q5 : ¬ ci = q := by omega
          have q6 : (0 : Int) ≤ (q : Int) := by omega
          have hS0 : wr.drew.cell? ⟨H, 2, none⟩ = some (.int .i64 (dBl T)) ∧ wr.drew.cell? ⟨g, 0, none⟩ = some (.slice (some ⟨gl, 0, none⟩) (dCh T) (dCh T)) := ⟨h2, x0⟩
          have hS1 : (wr.setCell ⟨gl, i, none⟩ (.slice (some ⟨bi, oi + q, none⟩) (nn - q : Nat) (ci - q : Nat))).drew.cell? ⟨H, 2, none⟩ = some (.int .i64 (dBl T)) ∧ (wr.setCell ⟨gl, i, none⟩ (.slice (some ⟨bi, oi + q, none⟩) (nn - q : Nat) (ci - q : Nat))).drew.cell? ⟨g, 0, none⟩ = some (.slice (some ⟨gl, 0, none⟩) (dCh T) (dCh T)) := ⟨HZH.out.cell 2, HZR.out.cell 0⟩
          have HZ2 := Hid.mk' (HZ.out.below (Below.refl _ _).drew)
          go_wp2
          go_region_held3 (fun w' => w'.cell? ⟨H, 2, none⟩ = some (.int .i64 (dBl T)) ∧ w'.cell? ⟨g, 0, none⟩ = some (.slice (some ⟨gl, 0, none⟩) (dCh T) (dCh T))) (first | with_reducible exact hS0 | with_reducible exact hS1) (fail)
          go_wp2
          go_roundw
          case rel => exact ⟨i + 1, by omega, by go_num, HZ2.out, HZH.out.drew1, HZR.out.drew1, HZB.out.drew⟩
          case measure => simp [intOf]; omega
        · have e : i = dCh T := by omega
          subst e
          go_wp2
          go_ret2
          exact HOK.out m gl nn bk ofs cs _ HC.out.run HM.out.1 HM.out.2 HNN.out.symm HR.out.1 HR.out.2.2.2
    · have HX : Hid (¬ (kk + m = nBlk (dSa T) (dBl T) ∧ offX X m = X.length)) := fun h => hbf (HC.out.flag.2 h)
      have hbf := Bool.eq_false_iff.2 hbf
      subst hbf
      go_wp2
      go_ret2
      exact HBAD.out m _ HC.out.run HX.out HC.out.below
end Go.Proofs.YtlncjgnomhpjnaaGreatDoor

