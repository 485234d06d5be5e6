import Derived.Test.YtlncjgnomhpjnabGreatDoorQU45
import Derived.Deep.DeepCutAuto
import Derived.Deep.RegionHeld3
/-
  The program decodes: stream.Decode, where it gives no sound.
-/
namespace Go.Proofs.YtlncjgnomhpjnabGreatDoor
open Go.RowKit Go.Deep
set_option linter.unusedVariables false
theorem HdOut.yes {e : Ending} {w w' : World} {T : List UInt8} (h : HdOut e w w' T) (hp : HdP T) {b : Bool} (hb : decide (dWh T = 1) = b) : ∃ a c, e = .returned (.tuple #[.agg #[.int .i64 (dCh T), .int .i64 (dDe T), .int .i64 (dBl T), .int .i64 (dRa T), .int .i64 (dSe T), .int .i64 (dSa T), .bool b, .int .i64 (dLe T), .int .i64 (dMo T), .int .i64 (dSu T), .slice a (dNp T) c], .int .i64 (dSz T), .bool true]) ∧ w'.ownsRow w.heap.size 3 1 (.slice a (dNp T) c) (dPts T).length (pntV (dPts T)) ∧ Below w.heap.size w w' := by
  subst hb
  rcases h with ⟨⟨-, pv, rfl, ho⟩ | ⟨hno, -⟩, hb⟩
  · obtain ⟨a, c, rfl⟩ := own_form ho
    exact ⟨a, c, rfl, by rw [dPts_length]; exact ho, hb⟩
  · exact absurd hp hno
theorem HdOut.nothing {e : Ending} {w w' : World} {T : List UInt8} (h : HdOut e w w' T) (hp : ¬ HdP T) : e = .returned (.tuple #[.agg #[.int .i64 0, .int .i64 0, .int .i64 0, .int .i64 0, .int .i64 0, .int .i64 0, .bool false, .int .i64 0, .int .i64 0, .int .i64 0, .slice none 0 0], .int .i64 0, .bool false]) ∧ Below w.heap.size w w' := by
  rcases h with ⟨⟨hy, -⟩ | ⟨-, he⟩, hb⟩
  · exact absurd hy hp
  · exact ⟨he, hb⟩
theorem soundSum_rows (base n S : Nat) (v : Value) (F : Nat → Nat → Int) (w : World) (hn1 : 1 ≤ n) (hn4 : n ≤ 4) (hS : S ≤ 300) (h : RowsL base w v n S F) :
    Calls Tryz.prog 66 #[v] w fun e w' => e = .returned (.int .i64 (sumN (intT n F (2 * (S * n))) : Nat)) ∧ Below w.heap.size w w' := by
  obtain ⟨g, A, C, rfl, -, hA, hI, hlow⟩ := h.open
  exact soundSum_any _ n n A S C F w hn1 hn4 hS hA hI hlow
theorem infoInf6 : (Tryz.prog.info? 39).map (·.size) = some 6 := by kernel_rfl
theorem res_dec (tmps : Array Value) (R : Nat) (v : Value) (k : Int) (cs : Array Value) (W : World) (h : Bx W R 39 cs) (hs : cs.size = 6) (h2 : tmps.getD 2 undef = .pointer (some ⟨R, 0, none⟩)) (h3 : tmps.getD 3 undef = v) (h4 : tmps.getD 4 undef = .int .i64 k) :
    (results Tryz.f39 tmps).run Tryz.prog W = .ok (.tuple #[.agg cs, v, .int .i64 k]) W := by
  have hl := run_loadVar_row (P := Tryz.prog) W R 39 39 cs (0, 0) _ h Tryz.underlying39 rfl (by rw [hs]; exact infoInf6)
  rw [Array.getD_eq_getD_getElem?] at h2 h3 h4
  simp [results, Tryz.results39, asAddr, h2, h3, h4, hl]
theorem dec_bad {w w' : World} {T : List UInt8} (E : Int) (h0 : E ≠ 0) (hE : decE T = E) (hb : Below w.heap.size w w') : DecAns (.returned (.tuple #[info0, .slice none 0 0, .int .i64 E])) w w' T := ⟨.inr ⟨by rw [hE]; exact h0, by rw [hE]⟩, hb⟩
theorem below_row {w u : World} {g : Nat} (h : Below w.heap.size w u) (hg : w.heap.size ≤ g) (cs : Array Value) : Below w.heap.size w (u.setRow g cs) := below_setRow h hg cs
set_option maxRecDepth 4000 in
set_option maxHeartbeats 2000000 in
theorem streamDecode_headH (T : List UInt8) (w : World) (hs : T.length ≤ 9000) (hp : ¬ (HdP T ∧ dWh T = 1)) (HR : ∀ u, Calls Tryz.prog 69 #[.string (bs T)] u fun e w' => HdOut e u w' T) :
    Calls Tryz.prog 39 #[.string (bs T)] w fun e w' => DecAns e w w' T := by
  have HHR := Hid.mk' HR
  have HBAD : Hid (∀ w', Below w.heap.size w w' → DecAns (.returned (.tuple #[info0, .slice none 0 0, .int .i64 7])) w w' T) := fun w' hb => dec_bad 7 (by omega) (by unfold decE; rw [if_pos hs, if_neg hp]) hb
  have HZ0 : Hid (Bx (w.alloc (.cells #[.int .i64 0, .int .i64 0, .int .i64 0, .int .i64 0, .int .i64 0, .int .i64 0] 39)) w.heap.size 39 #[.int .i64 0, .int .i64 0, .int .i64 0, .int .i64 0, .int .i64 0, .int .i64 0]) := Bx.new _ _ _
  have HB0 : Hid (Below w.heap.size w (w.alloc (.cells #[.int .i64 0, .int .i64 0, .int .i64 0, .int .i64 0, .int .i64 0, .int .i64 0] 39))) := (Below.refl _ _).alloc (Nat.le_refl _) _
  by_cases hy : HdP T
  · have HY := Hid.mk' hy
    have hw0 : decide (dWh T = 1) = false := decide_eq_false (fun h => hp ⟨hy, h⟩)
    have HW := Hid.mk' hw0
    clear hp hy hw0
    generalize bs T = SB at *
    go_enter Tryz.func39, Tryz.ntmps39
    go_wp2_with (first
      | (go_at_call 69; refine (HHR.out _).mono ?_; intro e u1 ho; obtain ⟨pa, pc, rfl, hown, hb⟩ := ho.yes HY.out HW.out; have HZ1 := Hid.mk' (HZ0.out.below hb); have HB1 := Hid.mk' (HB0.out.trans (hb.mono HB0.out.size)); clear HHR ho hb HZ0 HB0 hown)
      | (refine wpList_storeRow rfl _ _ 39 rfl w.heap.size 39 _ _ rfl rfl (HZ1.out.alloc _) infoInf6 rfl rfl ?_))
    exact bodyPost_ret (res_dec _ w.heap.size _ 7 _ _ ((HZ1.out.alloc _).row _) rfl rfl rfl rfl) rfl (HBAD.out _ (below_row (HB1.out.alloc HB1.out.size _) (Nat.le_refl _) _))
  · have HY := Hid.mk' hy
    clear hp hy
    generalize bs T = SB at *
    go_enter Tryz.func39, Tryz.ntmps39
    go_wp2_with (first
      | (go_at_call 69; refine (HHR.out _).mono ?_; intro e u1 ho; obtain ⟨rfl, hb⟩ := ho.nothing HY.out; have HZ1 := Hid.mk' (HZ0.out.below hb); have HB1 := Hid.mk' (HB0.out.trans (hb.mono HB0.out.size)); clear HHR ho hb HZ0 HB0)
      | (refine wpList_storeRow rfl _ _ 39 rfl w.heap.size 39 _ _ rfl rfl (HZ1.out.alloc _) infoInf6 rfl rfl ?_))
    exact bodyPost_ret (res_dec _ w.heap.size _ 7 _ _ ((HZ1.out.alloc _).row _) rfl rfl rfl rfl) rfl (HBAD.out _ (below_row (HB1.out.alloc HB1.out.size _) (Nat.le_refl _) _))
theorem streamDecode_head (T : List UInt8) (w : World) (hs : T.length ≤ 9000) (hp : ¬ (HdP T ∧ dWh T = 1)) :
    Calls Tryz.prog 39 #[.string (bs T)] w fun e w' => DecAns e w w' T := streamDecode_headH T w hs hp (fun u => headRead_any T u hs)
end Go.Proofs.YtlncjgnomhpjnabGreatDoor

/-
  The program decodes: stream.Decode, the frames.
-/
namespace Go.Proofs.YtlncjgnomhpjnabGreatDoor
open Go.RowKit Go.Deep
set_option linter.unusedVariables false
theorem hd_bd {T : List UInt8} (h : HdP T) : 1 ≤ dCh T ∧ dCh T ≤ 4 ∧ 4 ≤ dDe T ∧ dDe T ≤ 12 ∧ 1 ≤ dBl T ∧ dBl T ≤ 32 ∧ dSa T ≤ 300 ∧ dSe T ≤ 255 ∧ dNp T ≤ 300 ∧ 22 ≤ dSz T ∧ dSz T ≤ T.length := by
  have h4 := h.2.2.2.1
  have hin := h.2.2.1
  have h0 : 22 ≤ dSz T := by unfold dSz; omega
  have hse : dSe T < 256 := fld_lt T 10 11 (by omega) (by have := h.1; omega)
  simp only [infoB, Bool.and_eq_true, within_iff] at hin
  have hNP : dNp T ≤ 300 := by
    unfold dNp nPts
    split
    · omega
    · have h1 := nBlk_le (S := dSa T) (B := dBl T) (by omega)
      have h2 := nBlk_le (S := nBlk (dSa T) (dBl T)) (B := dSe T) (by omega)
      omega
  omega
theorem lnX_bd {n d B S k0 : Nat} {X : List UInt8} {m : Nat} (h : RunIs n d B S k0 X m) (hX : X.length ≤ 9000) : ∀ i, i < m → lnX X i ≤ 9000 := fun i hi => by
  have h1 := (h.ok i hi).len.2
  have e : (atX X i).length = X.length - offX X i := List.length_drop
  unfold lnX
  omega
theorem RowsL.grown {base : Nat} {u u' : World} {v : Value} {n nn g : Nat} {H : Nat → Nat → Int} (h : RowsL base u v n nn H) (hg : u.grownBy u' (some g)) (hb : g < base) : RowsL base u' v n nn H := by
  obtain ⟨q, vs, ogs, h1, h2, h3, h4, h5⟩ := h
  exact ⟨q, vs, ogs, h1, h2, rowIs_of h3 (hg.block _ h3.lt (by simp; omega)), fun c hc => ⟨(h4 c hc).1.keep fun k hk => hg.block _ ((h4 c hc).1.lt hk) (by have := (h4 c hc).2 k hk; simp; omega), (h4 c hc).2⟩, h5⟩
theorem set3_grown (u : World) (g : Nat) (s0 s1 s2 : Value) : u.grownBy (((u.setCell ⟨g, 0, none⟩ s0).setCell ⟨g, 1, none⟩ s1).setCell ⟨g, 2, none⟩ s2) (some g) :=
  gr_trans (gr_trans (grown_set u ⟨g, 0, none⟩ s0) (grown_set _ ⟨g, 1, none⟩ s1)) (grown_set _ ⟨g, 2, none⟩ s2)
theorem ki_al6 {g : Nat} {c0 c1 c2 c3 c4 s : Int} {u : World} {o : Obj} (h : g < u.heap.size ∧ u.cell? ⟨g, 0, none⟩ = some (.int .i64 c0) ∧ u.cell? ⟨g, 1, none⟩ = some (.int .i64 c1) ∧ u.cell? ⟨g, 2, none⟩ = some (.int .i64 c2) ∧ u.cell? ⟨g, 3, none⟩ = some (.int .i64 c3) ∧ u.cell? ⟨g, 4, none⟩ = some (.int .i64 c4) ∧ u.cell? ⟨g, 5, none⟩ = some (.int .i64 s)) : g < (u.alloc o).heap.size ∧ (u.alloc o).cell? ⟨g, 0, none⟩ = some (.int .i64 c0) ∧ (u.alloc o).cell? ⟨g, 1, none⟩ = some (.int .i64 c1) ∧ (u.alloc o).cell? ⟨g, 2, none⟩ = some (.int .i64 c2) ∧ (u.alloc o).cell? ⟨g, 3, none⟩ = some (.int .i64 c3) ∧ (u.alloc o).cell? ⟨g, 4, none⟩ = some (.int .i64 c4) ∧ (u.alloc o).cell? ⟨g, 5, none⟩ = some (.int .i64 s) :=
  ki_below ((Below.refl _ _).alloc (Nat.le_refl _) _) h
theorem ki_st3 {g q : Nat} {c0 c1 c2 c3 c4 s : Int} {s0 s1 s2 : Value} {u : World} (hq : g ≠ q) (h : g < u.heap.size ∧ u.cell? ⟨g, 0, none⟩ = some (.int .i64 c0) ∧ u.cell? ⟨g, 1, none⟩ = some (.int .i64 c1) ∧ u.cell? ⟨g, 2, none⟩ = some (.int .i64 c2) ∧ u.cell? ⟨g, 3, none⟩ = some (.int .i64 c3) ∧ u.cell? ⟨g, 4, none⟩ = some (.int .i64 c4) ∧ u.cell? ⟨g, 5, none⟩ = some (.int .i64 s)) : g < (((u.setCell ⟨q, 0, none⟩ s0).setCell ⟨q, 1, none⟩ s1).setCell ⟨q, 2, none⟩ s2).heap.size ∧ (((u.setCell ⟨q, 0, none⟩ s0).setCell ⟨q, 1, none⟩ s1).setCell ⟨q, 2, none⟩ s2).cell? ⟨g, 0, none⟩ = some (.int .i64 c0) ∧ (((u.setCell ⟨q, 0, none⟩ s0).setCell ⟨q, 1, none⟩ s1).setCell ⟨q, 2, none⟩ s2).cell? ⟨g, 1, none⟩ = some (.int .i64 c1) ∧ (((u.setCell ⟨q, 0, none⟩ s0).setCell ⟨q, 1, none⟩ s1).setCell ⟨q, 2, none⟩ s2).cell? ⟨g, 2, none⟩ = some (.int .i64 c2) ∧ (((u.setCell ⟨q, 0, none⟩ s0).setCell ⟨q, 1, none⟩ s1).setCell ⟨q, 2, none⟩ s2).cell? ⟨g, 3, none⟩ = some (.int .i64 c3) ∧ (((u.setCell ⟨q, 0, none⟩ s0).setCell ⟨q, 1, none⟩ s1).setCell ⟨q, 2, none⟩ s2).cell? ⟨g, 4, none⟩ = some (.int .i64 c4) ∧ (((u.setCell ⟨q, 0, none⟩ s0).setCell ⟨q, 1, none⟩ s1).setCell ⟨q, 2, none⟩ s2).cell? ⟨g, 5, none⟩ = some (.int .i64 s) := by
  have hg := set3_grown u q s0 s1 s2
  have e1 : ∀ j v, u.cell? ⟨g, j, none⟩ = some v → (((u.setCell ⟨q, 0, none⟩ s0).setCell ⟨q, 1, none⟩ s1).setCell ⟨q, 2, none⟩ s2).cell? ⟨g, j, none⟩ = some v := fun j v hv => hg.cell hv (by simpa using hq)
  exact ⟨Nat.lt_of_lt_of_le h.1 hg.size, e1 _ _ h.2.1, e1 _ _ h.2.2.1, e1 _ _ h.2.2.2.1, e1 _ _ h.2.2.2.2.1, e1 _ _ h.2.2.2.2.2.1, e1 _ _ h.2.2.2.2.2.2⟩
/-- what lies in memory when the frames are read -/
structure DecI (T : List UInt8) (w wx : World) (H g gl m : Nat) (la : Option Addr) (lc : Nat) (pa : Option Addr) (pc : Nat) (bf : Bool) : Prop where
  flag : bf = true ↔ (0 + m = nBlk (dSa T) (dBl T) ∧ offX (T.drop (dSz T)) m = (T.drop (dSz T)).length)
  zin : Bx wx w.heap.size 39 #[.int .i64 0, .int .i64 0, .int .i64 0, .int .i64 0, .int .i64 0, .int .i64 0]
  hd : Bx wx H 110 #[.int .i64 (dCh T), .int .i64 (dDe T), .int .i64 (dBl T), .int .i64 (dRa T), .int .i64 (dSe T), .int .i64 (dSa T), .bool true, .int .i64 (dLe T), .int .i64 (dMo T), .int .i64 (dSu T), .slice pa (dNp T) pc]
  r : Bx wx g 117 #[.slice (some ⟨gl, 0, none⟩) (dCh T) (dCh T), .slice la m lc, .bool bf]
  run : RunIs (dCh T) (dDe T) (dBl T) (dSa T) 0 (T.drop (dSz T)) m
  rows : RowsL (w.heap.size + 1) wx (.slice (some ⟨gl, 0, none⟩) (dCh T) (dCh T)) (dCh T) (chN (dBl T) (dSa T) 0 m) (smpL (dCh T) (dDe T) (dBl T) (dSa T) 0 (T.drop (dSz T)) m)
  lens : wx.ownsRow w.heap.size 3 1 (.slice la m lc) m (lnL (lnX (T.drop (dSz T))) m)
  pts : wx.ownsRow w.heap.size 3 1 (.slice pa (dNp T) pc) (dPts T).length (pntV (dPts T))
  below : Below w.heap.size w wx
theorem FrsOut.all {e : Ending} {w w' : World} {n d B S k0 : Nat} {X : List UInt8} (h : FrsOut e w w' n d B S k0 X) : ∃ (m gl : Nat) (la : Option Addr) (lc : Nat) (bf : Bool), e = .returned (.agg #[.slice (some ⟨gl, 0, none⟩) n n, .slice la m lc, .bool bf]) ∧ (bf = true ↔ (k0 + m = nBlk S B ∧ offX X m = X.length)) ∧ RunIs n d B S k0 X m ∧ RowsL w.heap.size w' (.slice (some ⟨gl, 0, none⟩) n n) n (chN B S k0 m) (smpL n d B S k0 X m) ∧
    w'.ownsRow w.heap.size 3 1 (.slice la m lc) m (lnL (lnX X) m) ∧ Below w.heap.size w w' := by
  obtain ⟨m, v, lv, hr, rfl, hrow, hl, hb⟩ := h.rows
  obtain ⟨la, lc, rfl⟩ := own_form hl
  obtain ⟨g, A, C, rfl, -⟩ := hrow.open
  exact ⟨m, g, la, lc, _, rfl, decide_eq_true_iff, hr, hrow, hl, hb⟩
theorem own_mono2 {w : World} {base base' : Nat} {v : Value} {n : Nat} {xs : List Value} (h : w.ownsRow base 3 1 v n xs) (hb : base' ≤ base) : w.ownsRow base' 3 1 v n xs := own_mono h hb
/-- r lies behind what was read -/
theorem decI_one {T : List UInt8} {w U u2 : World} {H gl m : Nat} {la : Option Addr} {lc : Nat} {pa : Option Addr} {pc : Nat} {bf : Bool} (hfl : bf = true ↔ (0 + m = nBlk (dSa T) (dBl T) ∧ offX (T.drop (dSz T)) m = (T.drop (dSz T)).length)) (hz : Bx U w.heap.size 39 #[.int .i64 0, .int .i64 0, .int .i64 0, .int .i64 0, .int .i64 0, .int .i64 0]) (hh : Bx U H 110 #[.int .i64 (dCh T), .int .i64 (dDe T), .int .i64 (dBl T), .int .i64 (dRa T), .int .i64 (dSe T), .int .i64 (dSa T), .bool true, .int .i64 (dLe T), .int .i64 (dMo T), .int .i64 (dSu T), .slice pa (dNp T) pc]) (hp : U.ownsRow w.heap.size 3 1 (.slice pa (dNp T) pc) (dPts T).length (pntV (dPts T))) (hb0 : Below w.heap.size w U)
    (hr : RunIs (dCh T) (dDe T) (dBl T) (dSa T) 0 (T.drop (dSz T)) m) (hrow : RowsL U.drew.heap.size u2 (.slice (some ⟨gl, 0, none⟩) (dCh T) (dCh T)) (dCh T) (chN (dBl T) (dSa T) 0 m) (smpL (dCh T) (dDe T) (dBl T) (dSa T) 0 (T.drop (dSz T)) m)) (hl : u2.ownsRow U.drew.heap.size 3 1 (.slice la m lc) m (lnL (lnX (T.drop (dSz T))) m)) (hb : Below U.drew.heap.size U.drew u2) :
    DecI T w (u2.alloc (.cells #[.slice (some ⟨gl, 0, none⟩) (dCh T) (dCh T), .slice la m lc, .bool bf] 117)) H u2.heap.size gl m la lc pa pc bf := by
  have hb' : Below U.heap.size U u2 := ⟨hb.os, hb.tape, hb.output, hb.size, hb.block⟩
  have hs : w.heap.size ≤ U.drew.heap.size := hb0.size
  exact ⟨hfl, (hz.below hb').alloc _, (hh.below hb').alloc _, Bx.new _ _ _, hr, (hrow.mono hz.lt).below ((Below.refl _ _).alloc (Nat.le_refl _) _), (own_mono2 hl hs).alloc _, (hp.kept (grownAll hb' _) (Classical.em _)).alloc _, (hb0.trans (hb'.mono hb0.size)).alloc (Nat.le_trans hb0.size hb'.size) _⟩
/-- r lies ahead of what was read -/
theorem decI_two {T : List UInt8} {w U u2 : World} {H gl m : Nat} {la : Option Addr} {lc : Nat} {pa : Option Addr} {pc : Nat} {bf : Bool} (hfl : bf = true ↔ (0 + m = nBlk (dSa T) (dBl T) ∧ offX (T.drop (dSz T)) m = (T.drop (dSz T)).length)) (hz : Bx U w.heap.size 39 #[.int .i64 0, .int .i64 0, .int .i64 0, .int .i64 0, .int .i64 0, .int .i64 0]) (hh : Bx U H 110 #[.int .i64 (dCh T), .int .i64 (dDe T), .int .i64 (dBl T), .int .i64 (dRa T), .int .i64 (dSe T), .int .i64 (dSa T), .bool true, .int .i64 (dLe T), .int .i64 (dMo T), .int .i64 (dSu T), .slice pa (dNp T) pc]) (hp : U.ownsRow w.heap.size 3 1 (.slice pa (dNp T) pc) (dPts T).length (pntV (dPts T))) (hb0 : Below w.heap.size w U)
    (hr : RunIs (dCh T) (dDe T) (dBl T) (dSa T) 0 (T.drop (dSz T)) m) (hrow : RowsL (U.alloc (.cells #[.slice none 0 0, .slice none 0 0, .bool false] 117)).drew.heap.size u2 (.slice (some ⟨gl, 0, none⟩) (dCh T) (dCh T)) (dCh T) (chN (dBl T) (dSa T) 0 m) (smpL (dCh T) (dDe T) (dBl T) (dSa T) 0 (T.drop (dSz T)) m)) (hl : u2.ownsRow (U.alloc (.cells #[.slice none 0 0, .slice none 0 0, .bool false] 117)).drew.heap.size 3 1 (.slice la m lc) m (lnL (lnX (T.drop (dSz T))) m)) (hb : Below (U.alloc (.cells #[.slice none 0 0, .slice none 0 0, .bool false] 117)).drew.heap.size (U.alloc (.cells #[.slice none 0 0, .slice none 0 0, .bool false] 117)).drew u2) :
    DecI T w (((u2.setCell ⟨U.heap.size, 0, none⟩ (.slice (some ⟨gl, 0, none⟩) (dCh T) (dCh T))).setCell ⟨U.heap.size, 1, none⟩ (.slice la m lc)).setCell ⟨U.heap.size, 2, none⟩ (.bool bf)) H U.heap.size gl m la lc pa pc bf := by
  have hA : (U.alloc (.cells #[.slice none 0 0, .slice none 0 0, .bool false] 117)).drew.heap.size = U.heap.size + 1 := by simp
  have hb' : Below U.heap.size U u2 := ((Below.refl _ _).alloc (Nat.le_refl _) _ : Below U.heap.size U (U.alloc (.cells #[.slice none 0 0, .slice none 0 0, .bool false] 117))).trans ((⟨hb.os, hb.tape, hb.output, hb.size, hb.block⟩ : Below (U.alloc (.cells #[.slice none 0 0, .slice none 0 0, .bool false] 117)).heap.size (U.alloc (.cells #[.slice none 0 0, .slice none 0 0, .bool false] 117)) u2).mono (by simp))
  have hs := hb0.size
  have hu := hb.size
  rw [hA] at hu
  have hg := set3_grown u2 U.heap.size (.slice (some ⟨gl, 0, none⟩) (dCh T) (dCh T)) (.slice la m lc) (.bool bf)
  have hzl := hz.lt
  have hhl := hh.lt
  have hne : ∀ k, k ≠ U.heap.size → some k ≠ some U.heap.size := fun k h e => h (by injection e)
  refine ⟨hfl, (hz.below hb').of (hg.block _ (by omega) (hne _ (by omega))), (hh.below hb').of (hg.block _ (by omega) (hne _ (by omega))), ?_, hr, ?_, ?_, ?_, ?_⟩
  · exact ((Bx.new U _ _).below (⟨hb.os, hb.tape, hb.output, hb.size, hb.block⟩ : Below (U.alloc (.cells #[.slice none 0 0, .slice none 0 0, .bool false] 117)).heap.size (U.alloc (.cells #[.slice none 0 0, .slice none 0 0, .bool false] 117)) u2)).set3 _ _ _
  · exact (hrow.grown hg (by omega)).mono (by omega)
  · exact own_mono2 (hl.kept hg (.inr fun e => by have := (hl.lt _ e).1; omega)) (by omega)
  · exact (hp.kept (grownAll hb' _) (Classical.em _)).kept hg (.inr fun e => by have := own_in hp e; omega)
  · exact (hb0.trans (hb'.mono hb0.size)).grown hg (Nat.le_trans hb0.size hb'.size) (fun k hk => by injection hk with hk; omega)
theorem kj_st6 {H g q : Nat} {c0 c1 c2 c3 c4 c5 : Int} {v s0 s1 s2 s3 s4 s5 : Value} {u : World} (h1 : H ≠ q) (h2 : g ≠ q) (h : u.cell? ⟨H, 0, none⟩ = some (.int .i64 c0) ∧ u.cell? ⟨H, 1, none⟩ = some (.int .i64 c1) ∧ u.cell? ⟨H, 2, none⟩ = some (.int .i64 c2) ∧ u.cell? ⟨H, 3, none⟩ = some (.int .i64 c3) ∧ u.cell? ⟨H, 4, none⟩ = some (.int .i64 c4) ∧ u.cell? ⟨H, 5, none⟩ = some (.int .i64 c5) ∧ u.cell? ⟨g, 0, none⟩ = some v) : ((((((u.setCell ⟨q, 0, none⟩ s0).setCell ⟨q, 1, none⟩ s1).setCell ⟨q, 2, none⟩ s2).setCell ⟨q, 3, none⟩ s3).setCell ⟨q, 4, none⟩ s4).setCell ⟨q, 5, none⟩ s5).cell? ⟨H, 0, none⟩ = some (.int .i64 c0) ∧ ((((((u.setCell ⟨q, 0, none⟩ s0).setCell ⟨q, 1, none⟩ s1).setCell ⟨q, 2, none⟩ s2).setCell ⟨q, 3, none⟩ s3).setCell ⟨q, 4, none⟩ s4).setCell ⟨q, 5, none⟩ s5).cell? ⟨H, 1, none⟩ = some (.int .i64 c1) ∧ ((((((u.setCell ⟨q, 0, none⟩ s0).setCell ⟨q, 1, none⟩ s1).setCell ⟨q, 2, none⟩ s2).setCell ⟨q, 3, none⟩ s3).setCell ⟨q, 4, none⟩ s4).setCell ⟨q, 5, none⟩ s5).cell? ⟨H, 2, none⟩ = some (.int .i64 c2) ∧ ((((((u.setCell ⟨q, 0, none⟩ s0).setCell ⟨q, 1, none⟩ s1).setCell ⟨q, 2, none⟩ s2).setCell ⟨q, 3, none⟩ s3).setCell ⟨q, 4, none⟩ s4).setCell ⟨q, 5, none⟩ s5).cell? ⟨H, 3, none⟩ = some (.int .i64 c3) ∧ ((((((u.setCell ⟨q, 0, none⟩ s0).setCell ⟨q, 1, none⟩ s1).setCell ⟨q, 2, none⟩ s2).setCell ⟨q, 3, none⟩ s3).setCell ⟨q, 4, none⟩ s4).setCell ⟨q, 5, none⟩ s5).cell? ⟨H, 4, none⟩ = some (.int .i64 c4) ∧ ((((((u.setCell ⟨q, 0, none⟩ s0).setCell ⟨q, 1, none⟩ s1).setCell ⟨q, 2, none⟩ s2).setCell ⟨q, 3, none⟩ s3).setCell ⟨q, 4, none⟩ s4).setCell ⟨q, 5, none⟩ s5).cell? ⟨H, 5, none⟩ = some (.int .i64 c5) ∧ ((((((u.setCell ⟨q, 0, none⟩ s0).setCell ⟨q, 1, none⟩ s1).setCell ⟨q, 2, none⟩ s2).setCell ⟨q, 3, none⟩ s3).setCell ⟨q, 4, none⟩ s4).setCell ⟨q, 5, none⟩ s5).cell? ⟨g, 0, none⟩ = some v := by
  have hg := set6_grown u q s0 s1 s2 s3 s4 s5
  have e1 : ∀ b j x, b ≠ q → u.cell? ⟨b, j, none⟩ = some x → ((((((u.setCell ⟨q, 0, none⟩ s0).setCell ⟨q, 1, none⟩ s1).setCell ⟨q, 2, none⟩ s2).setCell ⟨q, 3, none⟩ s3).setCell ⟨q, 4, none⟩ s4).setCell ⟨q, 5, none⟩ s5).cell? ⟨b, j, none⟩ = some x := fun b j x hb hv => hg.cell hv (by simpa using hb)
  exact ⟨e1 _ _ _ h1 h.1, e1 _ _ _ h1 h.2.1, e1 _ _ _ h1 h.2.2.1, e1 _ _ _ h1 h.2.2.2.1, e1 _ _ _ h1 h.2.2.2.2.1, e1 _ _ _ h1 h.2.2.2.2.2.1, e1 _ _ _ h2 h.2.2.2.2.2.2⟩
theorem kj_drew {H g : Nat} {c0 c1 c2 c3 c4 c5 : Int} {v : Value} {u : World} (h : u.cell? ⟨H, 0, none⟩ = some (.int .i64 c0) ∧ u.cell? ⟨H, 1, none⟩ = some (.int .i64 c1) ∧ u.cell? ⟨H, 2, none⟩ = some (.int .i64 c2) ∧ u.cell? ⟨H, 3, none⟩ = some (.int .i64 c3) ∧ u.cell? ⟨H, 4, none⟩ = some (.int .i64 c4) ∧ u.cell? ⟨H, 5, none⟩ = some (.int .i64 c5) ∧ u.cell? ⟨g, 0, none⟩ = some v) : u.drew.cell? ⟨H, 0, none⟩ = some (.int .i64 c0) ∧ u.drew.cell? ⟨H, 1, none⟩ = some (.int .i64 c1) ∧ u.drew.cell? ⟨H, 2, none⟩ = some (.int .i64 c2) ∧ u.drew.cell? ⟨H, 3, none⟩ = some (.int .i64 c3) ∧ u.drew.cell? ⟨H, 4, none⟩ = some (.int .i64 c4) ∧ u.drew.cell? ⟨H, 5, none⟩ = some (.int .i64 c5) ∧ u.drew.cell? ⟨g, 0, none⟩ = some v := h
theorem Bx.drew1 {u : World} {q : Nat} {t : TypeId} {cs : Array Value} (h : Bx u q t cs) : Bx u.drew q t cs := h
theorem kj_st6d {H g q : Nat} {c0 c1 c2 c3 c4 c5 : Int} {v s0 s1 s2 s3 s4 s5 : Value} {u : World} (h1 : H ≠ q) (h2 : g ≠ q) (h : u.cell? ⟨H, 0, none⟩ = some (.int .i64 c0) ∧ u.cell? ⟨H, 1, none⟩ = some (.int .i64 c1) ∧ u.cell? ⟨H, 2, none⟩ = some (.int .i64 c2) ∧ u.cell? ⟨H, 3, none⟩ = some (.int .i64 c3) ∧ u.cell? ⟨H, 4, none⟩ = some (.int .i64 c4) ∧ u.cell? ⟨H, 5, none⟩ = some (.int .i64 c5) ∧ u.cell? ⟨g, 0, none⟩ = some v) : ((((((u.setCell ⟨q, 0, none⟩ s0).setCell ⟨q, 1, none⟩ s1).setCell ⟨q, 2, none⟩ s2).setCell ⟨q, 3, none⟩ s3).setCell ⟨q, 4, none⟩ s4).setCell ⟨q, 5, none⟩ s5).drew.cell? ⟨H, 0, none⟩ = some (.int .i64 c0) ∧ ((((((u.setCell ⟨q, 0, none⟩ s0).setCell ⟨q, 1, none⟩ s1).setCell ⟨q, 2, none⟩ s2).setCell ⟨q, 3, none⟩ s3).setCell ⟨q, 4, none⟩ s4).setCell ⟨q, 5, none⟩ s5).drew.cell? ⟨H, 1, none⟩ = some (.int .i64 c1) ∧ ((((((u.setCell ⟨q, 0, none⟩ s0).setCell ⟨q, 1, none⟩ s1).setCell ⟨q, 2, none⟩ s2).setCell ⟨q, 3, none⟩ s3).setCell ⟨q, 4, none⟩ s4).setCell ⟨q, 5, none⟩ s5).drew.cell? ⟨H, 2, none⟩ = some (.int .i64 c2) ∧ ((((((u.setCell ⟨q, 0, none⟩ s0).setCell ⟨q, 1, none⟩ s1).setCell ⟨q, 2, none⟩ s2).setCell ⟨q, 3, none⟩ s3).setCell ⟨q, 4, none⟩ s4).setCell ⟨q, 5, none⟩ s5).drew.cell? ⟨H, 3, none⟩ = some (.int .i64 c3) ∧ ((((((u.setCell ⟨q, 0, none⟩ s0).setCell ⟨q, 1, none⟩ s1).setCell ⟨q, 2, none⟩ s2).setCell ⟨q, 3, none⟩ s3).setCell ⟨q, 4, none⟩ s4).setCell ⟨q, 5, none⟩ s5).drew.cell? ⟨H, 4, none⟩ = some (.int .i64 c4) ∧ ((((((u.setCell ⟨q, 0, none⟩ s0).setCell ⟨q, 1, none⟩ s1).setCell ⟨q, 2, none⟩ s2).setCell ⟨q, 3, none⟩ s3).setCell ⟨q, 4, none⟩ s4).setCell ⟨q, 5, none⟩ s5).drew.cell? ⟨H, 5, none⟩ = some (.int .i64 c5) ∧ ((((((u.setCell ⟨q, 0, none⟩ s0).setCell ⟨q, 1, none⟩ s1).setCell ⟨q, 2, none⟩ s2).setCell ⟨q, 3, none⟩ s3).setCell ⟨q, 4, none⟩ s4).setCell ⟨q, 5, none⟩ s5).drew.cell? ⟨g, 0, none⟩ = some v := by
  exact kj_drew (kj_st6 h1 h2 h)
theorem rows_whole {b : Nat} {u : World} {v : Value} {n d B S m : Nat} {X : List UInt8} (h : RowsL b u v n (chN B S 0 m) (smpL n d B S 0 X m)) (hm : 0 + m = nBlk S B) (hB : 1 ≤ B) : RowsL b u v n S (smpL n d B S 0 X (nBlk S B)) := by
  have e : m = nBlk S B := by omega
  rw [chN_whole hB hm (by omega), Nat.zero_mul, Nat.sub_zero, e] at h
  exact h
theorem RowsL.drew {b : Nat} {u : World} {v : Value} {n nn : Nat} {H : Nat → Nat → Int} (h : RowsL b u v n nn H) : RowsL b u.drew v n nn H := h.below (Below.refl _ _).drew
set_option maxRecDepth 4000 in
set_option maxHeartbeats 2000000 in
theorem streamDecode_rest (T : List UInt8) (w : World) (hs : T.length ≤ 9000) (hp : HdP T) (hw : dWh T = 1) (hT : TabsU w) :
    Calls Tryz.prog 39 #[.string (bs T)] w fun e w' => DecAns e w w' T := by
  obtain ⟨b1, b2, b3, b4, b5, b6, b7, b8, b9, b10, b11⟩ := hd_bd hp
  have HHR := Hid.mk' (fun u => headRead_any T u hs)
  have HFR := Hid.mk' (fun (u : World) (hu : Below w.heap.size w u) => readFrames_any (dCh T) (dDe T) (dBl T) (dRa T) (dSe T) (dSa T) 0 (T.drop (dSz T)) u b3 b4 b1 b2 b5 b6 b7 (Nat.zero_le _) (by rw [List.length_drop]; omega) (hT.below hu))
  have HZ0 : Hid (Bx (w.alloc (.cells #[.int .i64 0, .int .i64 0, .int .i64 0, .int .i64 0, .int .i64 0, .int .i64 0] 39)) w.heap.size 39 #[.int .i64 0, .int .i64 0, .int .i64 0, .int .i64 0, .int .i64 0, .int .i64 0]) := Bx.new _ _ _
  have HB0 : Hid (Below w.heap.size w (w.alloc (.cells #[.int .i64 0, .int .i64 0, .int .i64 0, .int .i64 0, .int .i64 0, .int .i64 0] 39))) := (Below.refl _ _).alloc (Nat.le_refl _) _
  have HY := Hid.mk' hp
  have HW : Hid (decide (dWh T = 1) = true) := decide_eq_true hw
  have HWW := Hid.mk' hw
  have hz : (bs T).size = T.length := bs_size T
  have eS : (bs T).extract (dSz T) T.length = bs (T.drop (dSz T)) := by
    rw [bs_cut', List.take_of_length_le (by rw [List.length_drop]; exact Nat.le_refl _)]
  have i1 : ((dSz T : Nat) : Int) ≤ (T.length : Int) := by omega
  clear hp hw hT
  generalize bs (T.drop (dSz T)) = SX at *
  generalize bs T = SB at *
  go_enter Tryz.func39, Tryz.ntmps39
  go_wp2_with (first
    | (go_at_call 69; refine (HHR.out _).mono ?_; intro e u1 ho; obtain ⟨pa, pc, rfl, hown, hb⟩ := ho.yes HY.out HW.out; have HZ1 := Hid.mk' (HZ0.out.below hb); have HB1 := Hid.mk' (HB0.out.trans (hb.mono HB0.out.size)); have HO1 := Hid.mk' (own_mono2 hown HB0.out.size); clear HHR ho hb HZ0 HB0 hown))
  have HZU := Hid.mk' (HZ1.out.alloc (.cells #[.int .i64 (dCh T), .int .i64 (dDe T), .int .i64 (dBl T), .int .i64 (dRa T), .int .i64 (dSe T), .int .i64 (dSa T), .bool true, .int .i64 (dLe T), .int .i64 (dMo T), .int .i64 (dSu T), .slice pa (dNp T) pc] 110))
  have HHU := Hid.mk' (Bx.new u1 #[.int .i64 (dCh T), .int .i64 (dDe T), .int .i64 (dBl T), .int .i64 (dRa T), .int .i64 (dSe T), .int .i64 (dSa T), .bool true, .int .i64 (dLe T), .int .i64 (dMo T), .int .i64 (dSu T), .slice pa (dNp T) pc] 110)
  have HOU := Hid.mk' (HO1.out.alloc (.cells #[.int .i64 (dCh T), .int .i64 (dDe T), .int .i64 (dBl T), .int .i64 (dRa T), .int .i64 (dSe T), .int .i64 (dSa T), .bool true, .int .i64 (dLe T), .int .i64 (dMo T), .int .i64 (dSu T), .slice pa (dNp T) pc] 110))
  have HBU := Hid.mk' (HB1.out.alloc HB1.out.size (.cells #[.int .i64 (dCh T), .int .i64 (dDe T), .int .i64 (dBl T), .int .i64 (dRa T), .int .i64 (dSe T), .int .i64 (dSa T), .bool true, .int .i64 (dLe T), .int .i64 (dMo T), .int .i64 (dSu T), .slice pa (dNp T) pc] 110))
  clear HZ1 HO1 HB1
  generalize hU : u1.alloc (.cells #[.int .i64 (dCh T), .int .i64 (dDe T), .int .i64 (dBl T), .int .i64 (dRa T), .int .i64 (dSe T), .int .i64 (dSa T), .bool true, .int .i64 (dLe T), .int .i64 (dMo T), .int .i64 (dSu T), .slice pa (dNp T) pc] 110) = U at *
  clear hU
  generalize u1.heap.size = H at *
  go_cut [8] (fun s8 wx => ∃ g gl m la lc bf, s8 = .pointer (some ⟨g, 0, none⟩) ∧ Hid (DecI T w wx H g gl m la lc pa pc bf))
  case first =>
    have hS0 : H < U.drew.heap.size ∧ U.drew.cell? ⟨H, 0, none⟩ = some (.int .i64 (dCh T)) ∧ U.drew.cell? ⟨H, 1, none⟩ = some (.int .i64 (dDe T)) ∧ U.drew.cell? ⟨H, 2, none⟩ = some (.int .i64 (dBl T)) ∧ U.drew.cell? ⟨H, 3, none⟩ = some (.int .i64 (dRa T)) ∧ U.drew.cell? ⟨H, 4, none⟩ = some (.int .i64 (dSe T)) ∧ U.drew.cell? ⟨H, 5, none⟩ = some (.int .i64 (dSa T)) := ⟨HHU.out.lt, HHU.out.cell 0, HHU.out.cell 1, HHU.out.cell 2, HHU.out.cell 3, HHU.out.cell 4, HHU.out.cell 5⟩
    have hSA : H < (U.alloc (.cells #[.slice none 0 0, .slice none 0 0, .bool false] 117)).drew.heap.size ∧ (U.alloc (.cells #[.slice none 0 0, .slice none 0 0, .bool false] 117)).drew.cell? ⟨H, 0, none⟩ = some (.int .i64 (dCh T)) ∧ (U.alloc (.cells #[.slice none 0 0, .slice none 0 0, .bool false] 117)).drew.cell? ⟨H, 1, none⟩ = some (.int .i64 (dDe T)) ∧ (U.alloc (.cells #[.slice none 0 0, .slice none 0 0, .bool false] 117)).drew.cell? ⟨H, 2, none⟩ = some (.int .i64 (dBl T)) ∧ (U.alloc (.cells #[.slice none 0 0, .slice none 0 0, .bool false] 117)).drew.cell? ⟨H, 3, none⟩ = some (.int .i64 (dRa T)) ∧ (U.alloc (.cells #[.slice none 0 0, .slice none 0 0, .bool false] 117)).drew.cell? ⟨H, 4, none⟩ = some (.int .i64 (dSe T)) ∧ (U.alloc (.cells #[.slice none 0 0, .slice none 0 0, .bool false] 117)).drew.cell? ⟨H, 5, none⟩ = some (.int .i64 (dSa T)) := ki_al6 hS0
    have hHl : H ≠ U.heap.size := Nat.ne_of_lt HHU.out.lt
    have HZA := Hid.mk' (show Bx (U.alloc (.cells #[.slice none 0 0, .slice none 0 0, .bool false] 117)).drew U.heap.size 117 #[.slice none 0 0, .slice none 0 0, .bool false] from Bx.new U _ _)
    go_region_held3 (fun w' => H < w'.heap.size ∧ w'.cell? ⟨H, 0, none⟩ = some (.int .i64 (dCh T)) ∧ w'.cell? ⟨H, 1, none⟩ = some (.int .i64 (dDe T)) ∧ w'.cell? ⟨H, 2, none⟩ = some (.int .i64 (dBl T)) ∧ w'.cell? ⟨H, 3, none⟩ = some (.int .i64 (dRa T)) ∧ w'.cell? ⟨H, 4, none⟩ = some (.int .i64 (dSe T)) ∧ w'.cell? ⟨H, 5, none⟩ = some (.int .i64 (dSa T)))
      (first | with_reducible exact hS0 | with_reducible exact hSA | with_reducible exact hS1 | with_reducible exact ki_al6 hS1 | with_reducible exact ki_st3 hHl hS1)
      (first
      | (go_at_call 72; refine (HFR.out _ ?_).mono ?_; (first | exact HBU.out.drew | exact (HBU.out.alloc HBU.out.size _).drew); intro e u2 ho; obtain ⟨m, gl, la, lc, bf, rfl, hfl, hri, hrow, hl, hb⟩ := ho.all; have HFL := Hid.mk' hfl; clear hfl; have hS1 : H < u2.heap.size ∧ u2.cell? ⟨H, 0, none⟩ = some (.int .i64 (dCh T)) ∧ u2.cell? ⟨H, 1, none⟩ = some (.int .i64 (dDe T)) ∧ u2.cell? ⟨H, 2, none⟩ = some (.int .i64 (dBl T)) ∧ u2.cell? ⟨H, 3, none⟩ = some (.int .i64 (dRa T)) ∧ u2.cell? ⟨H, 4, none⟩ = some (.int .i64 (dSe T)) ∧ u2.cell? ⟨H, 5, none⟩ = some (.int .i64 (dSa T)) := (by first | exact ki_below hb hS0 | exact ki_below hb hSA); have HQ := Hid.mk' (And.intro hri (And.intro hrow (And.intro hl hb))); (first | (have hza := HZA.out.below hb; have x0 := hza.cell 0; have x1 := hza.cell 1; have x2 := hza.cell 2; have z0 := hza.fz 0; have z1 := hza.fz 1; have z2 := hza.fz 2; clear hza) | skip); clear hri hrow hl hb ho))
    · go_wp2
      go_meet
      case rel => exact ⟨_, gl, m, la, lc, bf, rfl, decI_one HFL.out HZU.out HHU.out HOU.out HBU.out HQ.out.1 HQ.out.2.1 HQ.out.2.2.1 HQ.out.2.2.2⟩
    · go_wp2
      go_meet
      case rel => exact ⟨_, gl, m, la, lc, bf, rfl, decI_two HFL.out HZU.out HHU.out HOU.out HBU.out HQ.out.1 HQ.out.2.1 HQ.out.2.2.1 HQ.out.2.2.2⟩
  case rest =>
    obtain ⟨g, gl, m, la, lc, bf, rfl, HC⟩ := hcut
    clear HFR HZU HHU HOU HBU eS hz i1 HW
    have r0 := HC.out.r.cell 0
    have r1 := HC.out.r.cell 1
    have r2 := HC.out.r.cell 2
    have h0 := HC.out.hd.cell 0
    have h1 := HC.out.hd.cell 1
    have h2 := HC.out.hd.cell 2
    have h3 := HC.out.hd.cell 3
    have h4 := HC.out.hd.cell 4
    have h5 := HC.out.hd.cell 5
    have h6 := HC.out.hd.cell 6
    have h7 := HC.out.hd.cell 7
    have h8 := HC.out.hd.cell 8
    have h9 := HC.out.hd.cell 9
    have h10 := HC.out.hd.cell 10
    have HX9 : Hid ((T.drop (dSz T)).length ≤ 9000) := by show _ ≤ _; rw [List.length_drop]; omega
    by_cases hbf : bf = true
    · have HM := Hid.mk' (HC.out.flag.1 hbf)
      subst hbf
      have HSO := Hid.mk' (fun (u : World) hP hL => saysOf_any (dCh T) (dDe T) (dBl T) (dRa T) (dSa T) (dSe T) (dSu T) (dLe T) (dMo T) true (.slice pa (dNp T) pc) (.slice la m lc) (dPts T) (lnX (T.drop (dSz T))) w.heap.size w.heap.size m u (by have := HM.out.1; have := nBlk_le (S := dSa T) (B := dBl T) b5; omega) b8 (by rw [dPts_length]; exact b9) (lnX_bd HC.out.run HX9.out) hP hL)
      unfold hdC at HSO
      by_cases hsy : SaysP T (T.drop (dSz T)) m
      · have HSY := Hid.mk' hsy
        clear hsy
        go_wp2_with (first
          | (go_at_call 73; refine (HSO.out _ HC.out.pts HC.out.lens).mono ?_; rintro e u3 ⟨he, hb⟩; have he := he.true_of HSY.out; subst he; have HB3 := Hid.mk' hb; clear HSO hb))
        have HH3 := Hid.mk' (HC.out.hd.below HB3.out)
        have HR3 := Hid.mk' (HC.out.r.below HB3.out)
        have HZ3 := Hid.mk' (HC.out.zin.below HB3.out)
        have HBB3 := Hid.mk' (HC.out.below.trans (HB3.out.mono HC.out.below.size))
        have HRW := Hid.mk' (rows_whole (HC.out.rows.below HB3.out) HM.out.1 b5)
        have HNH : Hid (H ≠ w.heap.size) := fun e => by
          have h1 : _ = _ := HC.out.zin
          have h2 : _ = _ := HC.out.hd
          rw [e, h1] at h2
          simp at h2
        have HNG : Hid (g ≠ w.heap.size) := fun e => by
          have h1 : _ = _ := HC.out.zin
          have h2 : _ = _ := HC.out.r
          rw [e, h1] at h2
          simp at h2
        have HALL : Hid (AllP T) := ⟨m, HC.out.run, by have := HM.out.1; omega, HM.out.2, HSY.out⟩
        have s0 : u3.drew.cell? ⟨H, 9, none⟩ = some (.int .i64 (dSu T)) ∧ u3.drew.cell? ⟨g, 0, none⟩ = some (.slice (some ⟨gl, 0, none⟩) (dCh T) (dCh T)) := ⟨HH3.out.cell 9, HR3.out.cell 0⟩
        have HSU := Hid.mk' (soundSum_rows (w.heap.size + 1) (dCh T) (dSa T) (.slice (some ⟨gl, 0, none⟩) (dCh T) (dCh T)) (dSmp T) u3.drew b1 b2 b7 HRW.out.drew)
        clear HC HM r0 r1 r2 h0 h1 h2 h3 h4 h5 h6 h7 h8 h9 h10 HB3
        by_cases hsm : SumP T
        · have HE : Hid (decE T = 0) := by show _ = _; unfold decE; rw [if_pos hs, if_pos ⟨HY.out, HWW.out⟩, if_pos HALL.out, if_pos hsm]
          unfold SumP at hsm
          generalize sumN (intT (dCh T) (dSmp T) (2 * (dSa T * dCh T))) = sm at *
          subst hsm
          go_region_held3 (fun w' => w'.cell? ⟨H, 9, none⟩ = some (.int .i64 (dSu T)) ∧ w'.cell? ⟨g, 0, none⟩ = some (.slice (some ⟨gl, 0, none⟩) (dCh T) (dCh T))) (with_reducible assumption)
            (first
            | (go_at_call 66; refine HSU.out.mono ?_; rintro e u4 ⟨rfl, hb⟩; have hb' : Below u3.heap.size u3 u4 := ⟨hb.os, hb.tape, hb.output, hb.size, hb.block⟩; have HB4 := Hid.mk' hb'; have s1 : u4.cell? ⟨H, 9, none⟩ = some (.int .i64 (dSu T)) ∧ u4.cell? ⟨g, 0, none⟩ = some (.slice (some ⟨gl, 0, none⟩) (dCh T) (dCh T)) := ⟨(HH3.out.below hb').cell 9, (HR3.out.below hb').cell 0⟩; clear hb hb' HSU))
          have HH4 := Hid.mk' (HH3.out.below HB4.out)
          have HR4 := Hid.mk' (HR3.out.below HB4.out)
          have HZ4 : Hid (Bx u4.drew w.heap.size 39 #[.int .i64 0, .int .i64 0, .int .i64 0, .int .i64 0, .int .i64 0, .int .i64 0]) := HZ3.out.below HB4.out.drew
          have hS4u : u4.cell? ⟨H, 0, none⟩ = some (.int .i64 (dCh T)) ∧ u4.cell? ⟨H, 1, none⟩ = some (.int .i64 (dDe T)) ∧ u4.cell? ⟨H, 2, none⟩ = some (.int .i64 (dBl T)) ∧ u4.cell? ⟨H, 3, none⟩ = some (.int .i64 (dRa T)) ∧ u4.cell? ⟨H, 4, none⟩ = some (.int .i64 (dSe T)) ∧ u4.cell? ⟨H, 5, none⟩ = some (.int .i64 (dSa T)) ∧ u4.cell? ⟨g, 0, none⟩ = some (.slice (some ⟨gl, 0, none⟩) (dCh T) (dCh T)) := ⟨HH4.out.cell 0, HH4.out.cell 1, HH4.out.cell 2, HH4.out.cell 3, HH4.out.cell 4, HH4.out.cell 5, HR4.out.cell 0⟩
          have hS4 : u4.drew.cell? ⟨H, 0, none⟩ = some (.int .i64 (dCh T)) ∧ u4.drew.cell? ⟨H, 1, none⟩ = some (.int .i64 (dDe T)) ∧ u4.drew.cell? ⟨H, 2, none⟩ = some (.int .i64 (dBl T)) ∧ u4.drew.cell? ⟨H, 3, none⟩ = some (.int .i64 (dRa T)) ∧ u4.drew.cell? ⟨H, 4, none⟩ = some (.int .i64 (dSe T)) ∧ u4.drew.cell? ⟨H, 5, none⟩ = some (.int .i64 (dSa T)) ∧ u4.drew.cell? ⟨g, 0, none⟩ = some (.slice (some ⟨gl, 0, none⟩) (dCh T) (dCh T)) := ⟨HH4.out.cell 0, HH4.out.cell 1, HH4.out.cell 2, HH4.out.cell 3, HH4.out.cell 4, HH4.out.cell 5, HR4.out.cell 0⟩
          obtain ⟨q0, q1, q2, q3, q4, q5, z0, z1, z2, z3, z4, z5⟩ := six_of_blk (HZ3.out.below HB4.out)
          have hn1 : H ≠ w.heap.size := HNH.out
          have hn2 : g ≠ w.heap.size := HNG.out
          have hS6 : ((((((u4.setCell ⟨w.heap.size, 0, none⟩ (.int .i64 (dCh T))).setCell ⟨w.heap.size, 1, none⟩ (.int .i64 (dDe T))).setCell ⟨w.heap.size, 2, none⟩ (.int .i64 (dBl T))).setCell ⟨w.heap.size, 3, none⟩ (.int .i64 (dRa T))).setCell ⟨w.heap.size, 4, none⟩ (.int .i64 (dSe T))).setCell ⟨w.heap.size, 5, none⟩ (.int .i64 (dSa T))).drew.cell? ⟨H, 0, none⟩ = some (.int .i64 (dCh T)) ∧ ((((((u4.setCell ⟨w.heap.size, 0, none⟩ (.int .i64 (dCh T))).setCell ⟨w.heap.size, 1, none⟩ (.int .i64 (dDe T))).setCell ⟨w.heap.size, 2, none⟩ (.int .i64 (dBl T))).setCell ⟨w.heap.size, 3, none⟩ (.int .i64 (dRa T))).setCell ⟨w.heap.size, 4, none⟩ (.int .i64 (dSe T))).setCell ⟨w.heap.size, 5, none⟩ (.int .i64 (dSa T))).drew.cell? ⟨H, 1, none⟩ = some (.int .i64 (dDe T)) ∧ ((((((u4.setCell ⟨w.heap.size, 0, none⟩ (.int .i64 (dCh T))).setCell ⟨w.heap.size, 1, none⟩ (.int .i64 (dDe T))).setCell ⟨w.heap.size, 2, none⟩ (.int .i64 (dBl T))).setCell ⟨w.heap.size, 3, none⟩ (.int .i64 (dRa T))).setCell ⟨w.heap.size, 4, none⟩ (.int .i64 (dSe T))).setCell ⟨w.heap.size, 5, none⟩ (.int .i64 (dSa T))).drew.cell? ⟨H, 2, none⟩ = some (.int .i64 (dBl T)) ∧ ((((((u4.setCell ⟨w.heap.size, 0, none⟩ (.int .i64 (dCh T))).setCell ⟨w.heap.size, 1, none⟩ (.int .i64 (dDe T))).setCell ⟨w.heap.size, 2, none⟩ (.int .i64 (dBl T))).setCell ⟨w.heap.size, 3, none⟩ (.int .i64 (dRa T))).setCell ⟨w.heap.size, 4, none⟩ (.int .i64 (dSe T))).setCell ⟨w.heap.size, 5, none⟩ (.int .i64 (dSa T))).drew.cell? ⟨H, 3, none⟩ = some (.int .i64 (dRa T)) ∧ ((((((u4.setCell ⟨w.heap.size, 0, none⟩ (.int .i64 (dCh T))).setCell ⟨w.heap.size, 1, none⟩ (.int .i64 (dDe T))).setCell ⟨w.heap.size, 2, none⟩ (.int .i64 (dBl T))).setCell ⟨w.heap.size, 3, none⟩ (.int .i64 (dRa T))).setCell ⟨w.heap.size, 4, none⟩ (.int .i64 (dSe T))).setCell ⟨w.heap.size, 5, none⟩ (.int .i64 (dSa T))).drew.cell? ⟨H, 4, none⟩ = some (.int .i64 (dSe T)) ∧ ((((((u4.setCell ⟨w.heap.size, 0, none⟩ (.int .i64 (dCh T))).setCell ⟨w.heap.size, 1, none⟩ (.int .i64 (dDe T))).setCell ⟨w.heap.size, 2, none⟩ (.int .i64 (dBl T))).setCell ⟨w.heap.size, 3, none⟩ (.int .i64 (dRa T))).setCell ⟨w.heap.size, 4, none⟩ (.int .i64 (dSe T))).setCell ⟨w.heap.size, 5, none⟩ (.int .i64 (dSa T))).drew.cell? ⟨H, 5, none⟩ = some (.int .i64 (dSa T)) ∧ ((((((u4.setCell ⟨w.heap.size, 0, none⟩ (.int .i64 (dCh T))).setCell ⟨w.heap.size, 1, none⟩ (.int .i64 (dDe T))).setCell ⟨w.heap.size, 2, none⟩ (.int .i64 (dBl T))).setCell ⟨w.heap.size, 3, none⟩ (.int .i64 (dRa T))).setCell ⟨w.heap.size, 4, none⟩ (.int .i64 (dSe T))).setCell ⟨w.heap.size, 5, none⟩ (.int .i64 (dSa T))).drew.cell? ⟨g, 0, none⟩ = some (.slice (some ⟨gl, 0, none⟩) (dCh T) (dCh T)) := kj_st6d hn1 hn2 hS4u
          clear s1 hS4u
          go_wp2_with fail
          go_region_held3 (fun w' => w'.cell? ⟨H, 0, none⟩ = some (.int .i64 (dCh T)) ∧ w'.cell? ⟨H, 1, none⟩ = some (.int .i64 (dDe T)) ∧ w'.cell? ⟨H, 2, none⟩ = some (.int .i64 (dBl T)) ∧ w'.cell? ⟨H, 3, none⟩ = some (.int .i64 (dRa T)) ∧ w'.cell? ⟨H, 4, none⟩ = some (.int .i64 (dSe T)) ∧ w'.cell? ⟨H, 5, none⟩ = some (.int .i64 (dSa T)) ∧ w'.cell? ⟨g, 0, none⟩ = some (.slice (some ⟨gl, 0, none⟩) (dCh T) (dCh T))) (first | with_reducible exact hS4 | with_reducible exact hS6) (fail)
          go_wp2_with fail
          have hset := set6_grown u4 w.heap.size (.int .i64 (dCh T)) (.int .i64 (dDe T)) (.int .i64 (dBl T)) (.int .i64 (dRa T)) (.int .i64 (dSe T)) (.int .i64 (dSa T))
          have HZ6 : Hid (Bx ((((((u4.setCell ⟨w.heap.size, 0, none⟩ (.int .i64 (dCh T))).setCell ⟨w.heap.size, 1, none⟩ (.int .i64 (dDe T))).setCell ⟨w.heap.size, 2, none⟩ (.int .i64 (dBl T))).setCell ⟨w.heap.size, 3, none⟩ (.int .i64 (dRa T))).setCell ⟨w.heap.size, 4, none⟩ (.int .i64 (dSe T))).setCell ⟨w.heap.size, 5, none⟩ (.int .i64 (dSa T))).drew w.heap.size 39 #[.int .i64 (dCh T), .int .i64 (dDe T), .int .i64 (dBl T), .int .i64 (dRa T), .int .i64 (dSe T), .int .i64 (dSa T)]) := ((HZ3.out.below HB4.out).set6 _ _ _ _ _ _).drew1
          refine bodyPost_ret (res_dec _ w.heap.size (.slice (some ⟨gl, 0, none⟩) (dCh T) (dCh T)) 0 _ _ HZ6.out rfl rfl rfl rfl) rfl ⟨.inl ⟨HE.out, _, rfl, ?_⟩, ?_⟩
          · exact (((HRW.out.below HB4.out).grown hset (Nat.lt_succ_self _)).drew).mono (Nat.le_succ _)
          · exact (set6_below (HBB3.out.trans (HB4.out.mono HBB3.out.size)) (Nat.le_refl _)).drew
        · have HBAD : Hid (∀ w', Below w.heap.size w w' → DecAns (.returned (.tuple #[info0, .slice none 0 0, .int .i64 8])) w w' T) := fun w' hb => dec_bad 8 (by omega) (by unfold decE; rw [if_pos hs, if_pos ⟨HY.out, HWW.out⟩, if_pos HALL.out, if_neg hsm]) hb
          unfold SumP at hsm
          generalize sumN (intT (dCh T) (dSmp T) (2 * (dSa T * dCh T))) = sm at *
          have q1 : ((dSu T : Int) == (sm : Int)) = false := beq_eq_false_iff_ne.2 (by omega)
          have q2 : ¬ (dSu T : Int) = (sm : Int) := by omega
          have q3 : ((dSu T : Int) != (sm : Int)) = true := by rw [bne, q1]; rfl
          go_region_held3 (fun w' => w'.cell? ⟨H, 9, none⟩ = some (.int .i64 (dSu T)) ∧ w'.cell? ⟨g, 0, none⟩ = some (.slice (some ⟨gl, 0, none⟩) (dCh T) (dCh T))) (with_reducible assumption)
            (first
            | (go_at_call 66; refine HSU.out.mono ?_; rintro e u4 ⟨rfl, hb⟩; have hb' : Below u3.heap.size u3 u4 := ⟨hb.os, hb.tape, hb.output, hb.size, hb.block⟩; have HB4 := Hid.mk' hb'; have s1 : u4.cell? ⟨H, 9, none⟩ = some (.int .i64 (dSu T)) ∧ u4.cell? ⟨g, 0, none⟩ = some (.slice (some ⟨gl, 0, none⟩) (dCh T) (dCh T)) := ⟨(HH3.out.below hb').cell 9, (HR3.out.below hb').cell 0⟩; clear hb hb' HSU))
          go_wp2_with (first
            | (refine wpList_storeRow rfl _ _ 39 rfl w.heap.size 39 _ _ rfl rfl (HZ3.out.below HB4.out) infoInf6 rfl rfl ?_))
          exact bodyPost_ret (res_dec _ w.heap.size _ 8 _ _ ((HZ3.out.below HB4.out).row _) rfl rfl rfl rfl) rfl (HBAD.out _ (below_row (HBB3.out.trans (HB4.out.mono HBB3.out.size)) (Nat.le_refl _) _))
      · have HBAD : Hid (∀ w', Below w.heap.size w w' → DecAns (.returned (.tuple #[info0, .slice none 0 0, .int .i64 6])) w w' T) := fun w' hb => dec_bad 6 (by omega) (by
          unfold decE
          rw [if_pos hs, if_pos ⟨HY.out, HWW.out⟩, if_neg]
          rintro ⟨m', h1, h2, h3, h4⟩
          have e := h1.uniq HC.out.run
          subst e
          exact hsy h4) hb
        have HSY := Hid.mk' hsy
        clear hsy
        go_wp2_with (first
          | (go_at_call 73; refine (HSO.out _ HC.out.pts HC.out.lens).mono ?_; rintro e u3 ⟨he, hb⟩; have he := he.false_of HSY.out; subst he; have HB3 := Hid.mk' hb; clear HSO hb)
          | (refine wpList_storeRow rfl _ _ 39 rfl w.heap.size 39 _ _ rfl rfl (HC.out.zin.below HB3.out) infoInf6 rfl rfl ?_))
        exact bodyPost_ret (res_dec _ w.heap.size _ 6 _ _ ((HC.out.zin.below HB3.out).row _) rfl rfl rfl rfl) rfl (HBAD.out _ (below_row (HC.out.below.trans (HB3.out.mono HC.out.below.size)) (Nat.le_refl _) _))
    · have HBAD : Hid (∀ w', Below w.heap.size w w' → DecAns (.returned (.tuple #[info0, .slice none 0 0, .int .i64 6])) w w' T) := fun w' hb => dec_bad 6 (by omega) (by
        unfold decE
        rw [if_pos hs, if_pos ⟨HY.out, HWW.out⟩, if_neg]
        rintro ⟨m', h1, h2, h3, -⟩
        have e := h1.uniq HC.out.run
        subst e
        exact hbf (HC.out.flag.2 ⟨by omega, h3⟩)) hb
      have hbf := Bool.eq_false_iff.2 hbf
      subst hbf
      go_wp2_with (first
        | (refine wpList_storeRow rfl _ _ 39 rfl w.heap.size 39 _ _ rfl rfl HC.out.zin infoInf6 rfl rfl ?_))
      exact bodyPost_ret (res_dec _ w.heap.size _ 6 _ _ (HC.out.zin.row _) rfl rfl rfl rfl) rfl (HBAD.out _ (below_row HC.out.below (Nat.le_refl _) _))
end Go.Proofs.YtlncjgnomhpjnabGreatDoor

