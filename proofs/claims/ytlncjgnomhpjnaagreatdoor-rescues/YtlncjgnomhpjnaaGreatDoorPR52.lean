import Derived.Test.YtlncjgnomhpjnaaGreatDoorPR10
import Derived.Test.YtlncjgnomhpjnaaGreatDoorPR32
import Derived.Test.YtlncjgnomhpjnaaGreatDoorPR43
import Derived.Test.YtlncjgnomhpjnaaGreatDoorPR51
import Derived.BigQuiet
import Derived.Deep.QuietTactic
import Derived.Test.YtlncjgnomhpjnaaGreatDoorRows
/-
  The law 'Decodes': two answers held against each other.
-/
namespace Go.Proofs.YtlncjgnomhpjnaaGreatDoor
open Go.RowKit Go.Deep
set_option linter.unusedVariables false
set_option maxHeartbeats 1000000 in
theorem sameAll_L (base base' : Nat) (v v' : Value) (n nn : Nat) (H : Nat → Nat → Int) (w : World) (hn : n ≤ 1000000) (hnn : nn ≤ 1000000) (h : RowsL base w v n nn H) (h' : RowsL base' w v' n nn H) :
    Calls Tryz.prog 45 #[v, v'] w fun e w' => e = .returned (.bool true) ∧ Below w.heap.size w w' := by
  obtain ⟨g, A, C, rfl, hl, hA, hI, hlow⟩ := h.open
  obtain ⟨g', A', C', rfl, hl', hA', hI', hlow'⟩ := h'.open
  have HC : Hid (∀ i, i < n → w.cell? ⟨g, i, none⟩ = some (.slice (A i) nn (C i))) := fun i hi => by
    obtain ⟨x, hx, hc⟩ := hA i hi
    cases hx
    rw [Addr.add_lit, Nat.zero_add] at hc
    exact hc
  have HC' : Hid (∀ i, i < n → w.cell? ⟨g', i, none⟩ = some (.slice (A' i) nn (C' i))) := fun i hi => by
    obtain ⟨x, hx, hc⟩ := hA' i hi
    cases hx
    rw [Addr.add_lit, Nat.zero_add] at hc
    exact hc
  have HR := Hid.mk' (And.intro hI hlow.2)
  have HR' := Hid.mk' (And.intro hI' hlow'.2)
  clear hA hA' hI hI' hlow hlow' h h'
  go_enter Tryz.func45, Tryz.ntmps45
  go_wp2
  go_loopw [4, 5, 6] (fun _ iv _ wr => ∃ i : Nat, i ≤ n ∧ iv = .int .i64 i ∧ Hid (Below w.heap.size w wr)) (fun _ iv _ _ => n - (intOf iv).toNat)
  case atStart => exact ⟨0, Nat.zero_le _, rfl, Below.refl _ _⟩
  case round =>
    obtain ⟨i, hi, rfl, HB⟩ := hrel
    by_cases hlt : i < n
    · have k0 : wr.cell? ⟨g, i, none⟩ = some (.slice (A i) nn (C i)) := (HB.out.cell (p := ⟨g, i, none⟩) hl).trans (HC.out i hlt)
      have k1 : wr.cell? ⟨g', i, none⟩ = some (.slice (A' i) nn (C' i)) := (HB.out.cell (p := ⟨g', i, none⟩) hl').trans (HC'.out i hlt)
      have hS0 : wr.drew.cell? ⟨g, i, none⟩ = some (.slice (A i) nn (C i)) ∧ wr.drew.cell? ⟨g', i, none⟩ = some (.slice (A' i) nn (C' i)) := ⟨k0, k1⟩
      have HSM := Hid.mk' (sameL_any (A i) (A' i) nn (C i) (C' i) (H i) wr.drew hnn ((HR.out.1 i hlt).below HB.out.drew (HR.out.2 i hlt)) ((HR'.out.1 i hlt).below HB.out.drew (HR'.out.2 i hlt)))
      go_wp2_with fail
      go_region_held3 (fun w' => w'.cell? ⟨g, i, none⟩ = some (.slice (A i) nn (C i)) ∧ w'.cell? ⟨g', i, none⟩ = some (.slice (A' i) nn (C' i)))
        (with_reducible assumption)
        (first
        | (go_at_call 80; refine HSM.out.mono ?_; rintro e u1 ⟨rfl, m, hu⟩; have hS1 : u1.cell? ⟨g, i, none⟩ = some (.slice (A i) nn (C i)) ∧ u1.cell? ⟨g', i, none⟩ = some (.slice (A' i) nn (C' i)) := (by rw [hu]; exact ⟨k0, k1⟩); have HB1 : Hid (Below w.heap.size w u1) := (by rw [hu]; exact bl_drewN HB.out.drew m); clear HSM hu hS0))
      clear hS1
      go_wp2
      go_roundw
      case rel => exact ⟨i + 1, by omega, by go_num, HB1.out⟩
      case measure => simp [intOf]; omega
    · have e : i = n := by omega
      subst e
      go_wp2
      go_ret
      exact ⟨rfl, HB.out⟩
theorem RowsL.lst {base : Nat} {u : World} {v : Value} {n nn : Nat} {H : Nat → Nat → Int} (h : RowsL base u v n nn H) : ∃ (g : Nat) (X : Nat → Value) (ogs : Nat → Option Nat), LstE 29 u v n (some g) X ∧ base ≤ g ∧ (∀ i, i < n → LstE 3 u (X i) nn (ogs i) (fun j => .int .i64 (H i j))) ∧ (∀ i, i < n → ∀ q, ogs i = some q → base ≤ q) ∧ ∀ i k, i < n → k < n → i ≠ k → ∀ q, ogs i = some q → ogs k ≠ some q := by
  obtain ⟨g, vs, ogs, rfl, h2, h3, h4, h5⟩ := h
  exact ⟨g, vs, ogs, .inr ⟨g, 0, n, n, vs, rfl, rfl, h3, by omega, Nat.le_refl _, fun i _ => by rw [Nat.zero_add]⟩, h2, fun i hi => (h4 i hi).1, fun i hi => (h4 i hi).2, h5⟩
theorem bookL_L (L B K n nn : Nat) (v : Value) (H : Nat → Nat → Int) (w u : World) (hL : L ≤ w.heap.size) (hn : n ≤ 1000000) (hnn : nn ≤ 1000000) (hK : K ≤ 500000000000) (hB : BookL L w B K) (hb : Below w.heap.size w u) (h : RowsL w.heap.size u v n nn H) :
    Calls Tryz.prog 16 #[.pointer (some ⟨B, 0, none⟩), v] u fun e w' => e = .returned (.tuple #[]) ∧ BookL L w' B (K + n + 1) ∧ Below L u w' := by
  obtain ⟨g, X, gs, h1, h2, h3, h4, h5⟩ := h.lst
  refine (bookTakeAll_any (fun k => L ≤ k ∧ k < w.heap.size) B K n (some g) X v gs u hn hK (hB.next hb) h1 (fun q hq hh => by injection hq with hq; omega) (fun i hi => ⟨nn, _, hnn, h3 i hi⟩) (fun i hi q hq hh => by have := h4 i hi q hq; omega) (fun i k hi hk hik q h6 h7 => h5 i k hi hk hik q h6 h7)).mono ?_
  rintro e w' ⟨he, ht⟩
  exact ⟨he, ht.toL hL hb.size (fun q hq => by injection hq with hq; omega) (fun i hi q hq => h4 i hi q hq)⟩
/-- the tables that the law wants -/
structure TabsD (w : World) : Prop where
  prog : TabsU w
  tak : TabAt w 3
  takLt : 3 < w.heap.size
  non : ∀ i, i < 22 → w.cell? ⟨1, i, none⟩ = some (.int .u8 (none22.getD i 0))
  nonLt : 1 < w.heap.size
theorem TabsD.below {w u : World} (h : TabsD w) (hb : Below w.heap.size w u) : TabsD u :=
  ⟨h.prog.below hb, tab_at h.tak hb h.takLt, Nat.lt_of_lt_of_le h.takLt hb.size, fun i hi => (hb.cell (p := ⟨1, i, none⟩) h.nonLt).trans (h.non i hi), Nat.lt_of_lt_of_le h.nonLt hb.size⟩
end Go.Proofs.YtlncjgnomhpjnaaGreatDoor

/-
  The law 'Decodes'.
-/
namespace Go.Proofs.YtlncjgnomhpjnaaGreatDoor
open Go.RowKit Go.Deep
set_option linter.unusedVariables false
/-- the stream of an empty sound -/
def exD : List UInt8 := [82, 76, 1, 1, 4, 1, 0, 0, 0, 0, 0, 0, 0, 0, 0, 0, 0, 0, 1, 158, 139, 66]
theorem exD_bs : bs exD = exSt := by kernel_rfl
theorem exD_h : dWh exD = 1 ∧ dCh exD = 1 ∧ dDe exD = 4 ∧ dBl exD = 1 ∧ dRa exD = 0 ∧ dSa exD = 0 ∧ dSe exD = 0 ∧ dLe exD = 0 ∧ dMo exD = 0 ∧ dSu exD = 1 := by decide
theorem exD_tx : dTx exD = exD.take (dSz exD) := by
  unfold dTx headTx seal16 seal8
  rw [crc8_fast, crc16_fast]
  decide +kernel
theorem exD_hd : HdP exD := ⟨by decide, by decide, by decide, by decide, exD_tx, fun h => absurd h (by decide)⟩
end Go.Proofs.YtlncjgnomhpjnaaGreatDoor

/-
  The tables among the laid variables of 'Decodes'.
-/
namespace Go.Proofs.YtlncjgnomhpjnaaGreatDoor
open Go Go.Lib
set_option linter.unusedVariables false
theorem gNon : Tryz.prog.globalNamed "reel/reellaw.none22" = some 1 := by kernel_rfl
theorem gNonType : (Tryz.prog.globals[1]?).map (·.type) = some 84 := by kernel_rfl
theorem cellsNon : Tryz.prog.cellsOf 84 = 22 := by kernel_rfl
/-- what the row's list gives -/
theorem tablesD {W : World} (h : laidMetH Tryz.prog Rows.decodesRow.laid W) : TabsD W := by
  have h' : laidMet Tryz.prog [("reel/reelref.taken", .agg (tabRows.map (tabData .i64))), ("unicode/utf8.acceptRanges", Rows.laid_unicode_utf8_acceptRanges), ("reel/subframe.fixedWeights", .agg (tabRows.map (tabData .i64))), ("reel/frame.pairs", .agg (pairRows.map (tabData .i64))), ("reel/reellaw.none22", tabData .u8 none22), ("unicode/utf8.first", Rows.laid_unicode_utf8_first)] W := h
  obtain ⟨ps, ⟨g1, t1, cs1, fuel1, p1, q1, hg1, ht1, hvar1, hd1, ⟨g0, t0, cs0, fuel0, p0, q0, hg0, ht0, hvar0, hd0, ⟨g2, t2, cs2, fuel2, p2, q2, hg2, ht2, hvar2, hd2, ⟨g3, t3, cs3, fuel3, p3, q3, hg3, ht3, hvar3, hd3, ⟨g4, t4, cs4, fuel4, p4, q4, hg4, ht4, hvar4, hd4, _, _⟩, _⟩, _⟩, _⟩, _⟩, _⟩ := h'
  obtain rfl := Option.some.inj (gPairs.symm.trans hg3)
  obtain rfl := Option.some.inj (gPairsType.symm.trans ht3)
  obtain rfl := Option.some.inj (gNon.symm.trans hg4)
  obtain rfl := Option.some.inj (gNonType.symm.trans ht4)
  obtain rfl := Option.some.inj (gTaken.symm.trans hg1)
  obtain rfl := Option.some.inj (gTakenType.symm.trans ht1)
  obtain rfl := Option.some.inj (gFixed.symm.trans hg2)
  obtain rfl := Option.some.inj (gFixedType.symm.trans ht2)
  have hT : TabAt W 3 := by
    intro r c hr hc
    obtain ⟨zs, hz1, hz2⟩ := tabRows_at r c hr hc
    have := cells_of_tab2 Tryz.underlying249 Tryz.underlying199 Tryz.underlying3 cells1 cells4 cells54 hd1 r zs hz1 c _ hc hz2
    have h2 := World.var?_cell gTaken hvar1 (r * 4 + c)
    rw [Nat.mul_comm 4 r, h2]
    simpa using this
  have hF : TabAt W 7 := by
    intro r c hr hc
    obtain ⟨zs, hz1, hz2⟩ := tabRows_at r c hr hc
    have := cells_of_tab2 Tryz.underlying249 Tryz.underlying199 Tryz.underlying3 cells1 cells4 cells54 hd2 r zs hz1 c _ hc hz2
    have h2 := World.var?_cell gFixed hvar2 (r * 4 + c)
    rw [Nat.mul_comm 4 r, h2]
    simpa using this
  have hP : PairsAt W := by
    intro r c hr hc
    obtain ⟨zs, hz1, hz2⟩ := pairRows_at r c hr hc
    have := cells_of_tab2 Tryz.underlying140 Tryz.underlying139 Tryz.underlying3 cells1 cells2 cells42 hd3 r zs hz1 c _ hc hz2
    have h2 := World.var?_cell gPairs hvar3 (r * 2 + c)
    rw [Nat.mul_comm 2 r, h2]
    simpa using this
  have hO : ∀ i, i < 22 → W.cell? ⟨1, i, none⟩ = some (.int .u8 (none22.getD i 0)) := by
    intro i hi
    have e := cells_of_tab Tryz.underlying84 Tryz.underlying5 cellsByte cellsNon hd4
    have h2 := World.var?_cell gNon hvar4 i
    rw [h2]
    have h3 : ∀ i : Fin 22, none22[i.val]? = some (none22.getD i.val 0) := by decide
    have h4 : cs4.toList[i]? = some (.int .u8 (none22.getD i 0)) := by
      rw [e, List.getElem?_map, h3 ⟨i, hi⟩]; rfl
    simpa using h4
  exact ⟨⟨hF, tab_lt4 (hF 0 0 (by omega) (by omega)), hP, tab_lt4 (hP 0 0 (by omega) (by omega))⟩, hT, tab_lt4 (hT 0 0 (by omega) (by omega)), hO, tab_lt4 (hO 0 (by omega))⟩
end Go.Proofs.YtlncjgnomhpjnaaGreatDoor

/-
  The program salvages: stream.Salvage.
-/
namespace Go.Proofs.YtlncjgnomhpjnaaGreatDoor
open Go.RowKit Go.Deep
set_option linter.unusedVariables false
/-- what Salvage answers -/
def SalAns (e : Ending) (w w' : World) (T : List UInt8) : Prop :=
  ((T.length ≤ 9000 ∧ HdP T ∧ ∃ m v, RunIs (dCh T) (dDe T) (dBl T) (dSa T) 0 (T.drop (dSz T)) m ∧ e = .returned (.tuple #[dInfo T, v, .int .i64 0]) ∧ RowsL w.heap.size w' v (dCh T) (chN (dBl T) (dSa T) 0 m) (smpL (dCh T) (dDe T) (dBl T) (dSa T) 0 (T.drop (dSz T)) m))
   ∨ (¬ (T.length ≤ 9000 ∧ HdP T) ∧ e = .returned (.tuple #[info0, .slice none 0 0, .int .i64 (if T.length ≤ 9000 then 7 else 4)]))) ∧ Below w.heap.size w w'
theorem res_sal (tmps : Array Value) (R : Nat) (v : Value) (k : Int) (cs : Array Value) (W : World) (h : Bx W R 46 cs) (hs : cs.size = 6) (h2 : tmps.getD 2 undef = .pointer (some ⟨R, 0, none⟩)) (h3 : tmps.getD 3 undef = v) (h4 : tmps.getD 4 undef = .int .i64 k) :
    (results Tryz.f53 tmps).run Tryz.prog W = .ok (.tuple #[.agg cs, v, .int .i64 k]) W := by
  have hl := run_loadVar_row (P := Tryz.prog) W R 46 46 cs (0, 0) _ h Tryz.underlying46 rfl (by rw [hs]; exact infoInf6)
  rw [Array.getD_eq_getD_getElem?] at h2 h3 h4
  simp [results, Tryz.results53, asAddr, h2, h3, h4, hl]
set_option maxRecDepth 4000 in
set_option maxHeartbeats 2000000 in
theorem streamSalvage_no (T : List UInt8) (w : World) (hs : T.length ≤ 9000) (hp : ¬ HdP T) :
    Calls Tryz.prog 53 #[.string (bs T)] w fun e w' => SalAns e w w' T := by
  have HHR := Hid.mk' (fun u => headRead_any T u hs)
  have HBAD : Hid (∀ w', Below w.heap.size w w' → SalAns (.returned (.tuple #[info0, .slice none 0 0, .int .i64 7])) w w' T) := fun w' hb => ⟨.inr ⟨fun h => hp h.2, by rw [if_pos hs]⟩, hb⟩
  have HZ0 : Hid (Bx (w.alloc (.cells #[.int .i64 0, .int .i64 0, .int .i64 0, .int .i64 0, .int .i64 0, .int .i64 0] 46)) w.heap.size 46 #[.int .i64 0, .int .i64 0, .int .i64 0, .int .i64 0, .int .i64 0, .int .i64 0]) := Bx.new _ _ _
  have HB0 : Hid (Below w.heap.size w (w.alloc (.cells #[.int .i64 0, .int .i64 0, .int .i64 0, .int .i64 0, .int .i64 0, .int .i64 0] 46))) := (Below.refl _ _).alloc (Nat.le_refl _) _
  have HY := Hid.mk' hp
  clear hp
  generalize bs T = SB at *
  go_enter Tryz.func53, Tryz.ntmps53
  go_wp2_with (first
    | (go_at_call 90; refine (HHR.out _).mono ?_; intro e u1 ho; obtain ⟨rfl, hb⟩ := ho.nothing HY.out; have HZ1 := Hid.mk' (HZ0.out.below hb); have HB1 := Hid.mk' (HB0.out.trans (hb.mono HB0.out.size)); clear HHR ho hb HZ0 HB0)
    | (refine wpList_storeRow rfl _ _ 46 rfl w.heap.size 46 _ _ rfl rfl (HZ1.out.alloc _) infoInf6 rfl rfl ?_))
  exact bodyPost_ret (res_sal _ w.heap.size _ 7 #[.int .i64 0, .int .i64 0, .int .i64 0, .int .i64 0, .int .i64 0, .int .i64 0] _ ((HZ1.out.alloc _).row _) rfl rfl rfl rfl) rfl (HBAD.out _ (below_row (HB1.out.alloc HB1.out.size _) (Nat.le_refl _) _))
theorem run_lists (a b c : Value) (u : World) : Sem.run Tryz.prog (Instr.field 119 (.agg #[a, b, c]) 0) u = .ok a u := by kernel_rfl
theorem ki_st6 {g q : Nat} {c0 c1 c2 c3 c4 c5 : Int} {s0 s1 s2 s3 s4 s5 : Value} {u : World} (hq : g ≠ q) (h : g < u.heap.size ∧ u.cell? ⟨g, 0, none⟩ = some (.int .i64 c0) ∧ u.cell? ⟨g, 1, none⟩ = some (.int .i64 c1) ∧ u.cell? ⟨g, 2, none⟩ = some (.int .i64 c2) ∧ u.cell? ⟨g, 3, none⟩ = some (.int .i64 c3) ∧ u.cell? ⟨g, 4, none⟩ = some (.int .i64 c4) ∧ u.cell? ⟨g, 5, none⟩ = some (.int .i64 c5)) : g < ((((((u.setCell ⟨q, 0, none⟩ s0).setCell ⟨q, 1, none⟩ s1).setCell ⟨q, 2, none⟩ s2).setCell ⟨q, 3, none⟩ s3).setCell ⟨q, 4, none⟩ s4).setCell ⟨q, 5, none⟩ s5).heap.size ∧ ((((((u.setCell ⟨q, 0, none⟩ s0).setCell ⟨q, 1, none⟩ s1).setCell ⟨q, 2, none⟩ s2).setCell ⟨q, 3, none⟩ s3).setCell ⟨q, 4, none⟩ s4).setCell ⟨q, 5, none⟩ s5).cell? ⟨g, 0, none⟩ = some (.int .i64 c0) ∧ ((((((u.setCell ⟨q, 0, none⟩ s0).setCell ⟨q, 1, none⟩ s1).setCell ⟨q, 2, none⟩ s2).setCell ⟨q, 3, none⟩ s3).setCell ⟨q, 4, none⟩ s4).setCell ⟨q, 5, none⟩ s5).cell? ⟨g, 1, none⟩ = some (.int .i64 c1) ∧ ((((((u.setCell ⟨q, 0, none⟩ s0).setCell ⟨q, 1, none⟩ s1).setCell ⟨q, 2, none⟩ s2).setCell ⟨q, 3, none⟩ s3).setCell ⟨q, 4, none⟩ s4).setCell ⟨q, 5, none⟩ s5).cell? ⟨g, 2, none⟩ = some (.int .i64 c2) ∧ ((((((u.setCell ⟨q, 0, none⟩ s0).setCell ⟨q, 1, none⟩ s1).setCell ⟨q, 2, none⟩ s2).setCell ⟨q, 3, none⟩ s3).setCell ⟨q, 4, none⟩ s4).setCell ⟨q, 5, none⟩ s5).cell? ⟨g, 3, none⟩ = some (.int .i64 c3) ∧ ((((((u.setCell ⟨q, 0, none⟩ s0).setCell ⟨q, 1, none⟩ s1).setCell ⟨q, 2, none⟩ s2).setCell ⟨q, 3, none⟩ s3).setCell ⟨q, 4, none⟩ s4).setCell ⟨q, 5, none⟩ s5).cell? ⟨g, 4, none⟩ = some (.int .i64 c4) ∧ ((((((u.setCell ⟨q, 0, none⟩ s0).setCell ⟨q, 1, none⟩ s1).setCell ⟨q, 2, none⟩ s2).setCell ⟨q, 3, none⟩ s3).setCell ⟨q, 4, none⟩ s4).setCell ⟨q, 5, none⟩ s5).cell? ⟨g, 5, none⟩ = some (.int .i64 c5) := by
  have hg := set6_grown u q s0 s1 s2 s3 s4 s5
  have e1 : ∀ j v, u.cell? ⟨g, j, none⟩ = some v → ((((((u.setCell ⟨q, 0, none⟩ s0).setCell ⟨q, 1, none⟩ s1).setCell ⟨q, 2, none⟩ s2).setCell ⟨q, 3, none⟩ s3).setCell ⟨q, 4, none⟩ s4).setCell ⟨q, 5, none⟩ s5).cell? ⟨g, j, none⟩ = some v := fun j v hv => hg.cell hv (by simpa using hq)
  exact ⟨Nat.lt_of_lt_of_le h.1 hg.size, e1 _ _ h.2.1, e1 _ _ h.2.2.1, e1 _ _ h.2.2.2.1, e1 _ _ h.2.2.2.2.1, e1 _ _ h.2.2.2.2.2.1, e1 _ _ h.2.2.2.2.2.2⟩
set_option maxRecDepth 4000 in
set_option maxHeartbeats 2000000 in
theorem streamSalvage_yes (T : List UInt8) (w : World) (hs : T.length ≤ 9000) (hp : HdP T) (hT : TabsU w) :
    Calls Tryz.prog 53 #[.string (bs T)] w fun e w' => SalAns e w w' T := by
  obtain ⟨b1, b2, b3, b4, b5, b6, b7, b8, b9, b10, b11⟩ := hd_bd hp
  have HHR := Hid.mk' (fun u => headRead_any T u hs)
  have HFR := Hid.mk' (fun (u : World) (hu : Below w.heap.size w u) => readFrames_any (dCh T) (dDe T) (dBl T) (dRa T) (dSe T) (dSa T) 0 (T.drop (dSz T)) u b3 b4 b1 b2 b5 b6 b7 (Nat.zero_le _) (by rw [List.length_drop]; omega) (hT.below hu))
  have HZ0 : Hid (Bx (w.alloc (.cells #[.int .i64 0, .int .i64 0, .int .i64 0, .int .i64 0, .int .i64 0, .int .i64 0] 46)) w.heap.size 46 #[.int .i64 0, .int .i64 0, .int .i64 0, .int .i64 0, .int .i64 0, .int .i64 0]) := Bx.new _ _ _
  have HB0 : Hid (Below w.heap.size w (w.alloc (.cells #[.int .i64 0, .int .i64 0, .int .i64 0, .int .i64 0, .int .i64 0, .int .i64 0] 46))) := (Below.refl _ _).alloc (Nat.le_refl _) _
  have HY := Hid.mk' hp
  obtain ⟨bw, hbw⟩ : ∃ b, decide (dWh T = 1) = b := ⟨_, rfl⟩
  have HBW := Hid.mk' hbw
  clear hbw
  have hz : (bs T).size = T.length := bs_size T
  have eS : (bs T).extract (dSz T) T.length = bs (T.drop (dSz T)) := by
    rw [bs_cut', List.take_of_length_le (by rw [List.length_drop]; exact Nat.le_refl _)]
  have i1 : ((dSz T : Nat) : Int) ≤ (T.length : Int) := by omega
  clear hp hT
  generalize bs (T.drop (dSz T)) = SX at *
  generalize bs T = SB at *
  go_enter Tryz.func53, Tryz.ntmps53
  go_wp2_with (first
    | (go_at_call 90; refine (HHR.out _).mono ?_; intro e u1 ho; obtain ⟨pa, pc, rfl, hown, hb⟩ := ho.yes HY.out HBW.out; have HZ1 := Hid.mk' (HZ0.out.below hb); have HB1 := Hid.mk' (HB0.out.trans (hb.mono HB0.out.size)); clear HHR ho hb HZ0 HB0 hown))
  have HZU := Hid.mk' (HZ1.out.alloc (.cells #[.int .i64 (dCh T), .int .i64 (dDe T), .int .i64 (dBl T), .int .i64 (dRa T), .int .i64 (dSe T), .int .i64 (dSa T), .bool bw, .int .i64 (dLe T), .int .i64 (dMo T), .int .i64 (dSu T), .slice pa (dNp T) pc] 115))
  have HHU := Hid.mk' (Bx.new u1 #[.int .i64 (dCh T), .int .i64 (dDe T), .int .i64 (dBl T), .int .i64 (dRa T), .int .i64 (dSe T), .int .i64 (dSa T), .bool bw, .int .i64 (dLe T), .int .i64 (dMo T), .int .i64 (dSu T), .slice pa (dNp T) pc] 115)
  have HBU := Hid.mk' (HB1.out.alloc HB1.out.size (.cells #[.int .i64 (dCh T), .int .i64 (dDe T), .int .i64 (dBl T), .int .i64 (dRa T), .int .i64 (dSe T), .int .i64 (dSa T), .bool bw, .int .i64 (dLe T), .int .i64 (dMo T), .int .i64 (dSu T), .slice pa (dNp T) pc] 115))
  have hHn : u1.heap.size ≠ w.heap.size := Nat.ne_of_gt HZ1.out.lt
  clear HZ1 HB1
  generalize hU : u1.alloc (.cells #[.int .i64 (dCh T), .int .i64 (dDe T), .int .i64 (dBl T), .int .i64 (dRa T), .int .i64 (dSe T), .int .i64 (dSa T), .bool bw, .int .i64 (dLe T), .int .i64 (dMo T), .int .i64 (dSu T), .slice pa (dNp T) pc] 115) = U at *
  clear hU
  generalize u1.heap.size = H at *
  have hrl := fun (a b c : Value) (u : World) => run_lists a b c u
  have hS0 : H < U.drew.heap.size ∧ U.drew.cell? ⟨H, 0, none⟩ = some (.int .i64 (dCh T)) ∧ U.drew.cell? ⟨H, 1, none⟩ = some (.int .i64 (dDe T)) ∧ U.drew.cell? ⟨H, 2, none⟩ = some (.int .i64 (dBl T)) ∧ U.drew.cell? ⟨H, 3, none⟩ = some (.int .i64 (dRa T)) ∧ U.drew.cell? ⟨H, 4, none⟩ = some (.int .i64 (dSe T)) ∧ U.drew.cell? ⟨H, 5, none⟩ = some (.int .i64 (dSa T)) := ⟨HHU.out.lt, HHU.out.cell 0, HHU.out.cell 1, HHU.out.cell 2, HHU.out.cell 3, HHU.out.cell 4, HHU.out.cell 5⟩
  go_region_held3 (fun w' => H < w'.heap.size ∧ w'.cell? ⟨H, 0, none⟩ = some (.int .i64 (dCh T)) ∧ w'.cell? ⟨H, 1, none⟩ = some (.int .i64 (dDe T)) ∧ w'.cell? ⟨H, 2, none⟩ = some (.int .i64 (dBl T)) ∧ w'.cell? ⟨H, 3, none⟩ = some (.int .i64 (dRa T)) ∧ w'.cell? ⟨H, 4, none⟩ = some (.int .i64 (dSe T)) ∧ w'.cell? ⟨H, 5, none⟩ = some (.int .i64 (dSa T))) (first | with_reducible exact hS0 | with_reducible exact hS1 | with_reducible exact ki_st6 hHn hS1)
    (first
    | (go_at_call 91; refine (HFR.out _ HBU.out.drew).mono ?_; intro e u2 ho; obtain ⟨m, gl, la, lc, bf, rfl, hfl, hri, hrow, hl, hb⟩ := ho.all; have hb2 : Below U.heap.size U u2 := ⟨hb.os, hb.tape, hb.output, hb.size, hb.block⟩; have hS1 : H < u2.heap.size ∧ u2.cell? ⟨H, 0, none⟩ = some (.int .i64 (dCh T)) ∧ u2.cell? ⟨H, 1, none⟩ = some (.int .i64 (dDe T)) ∧ u2.cell? ⟨H, 2, none⟩ = some (.int .i64 (dBl T)) ∧ u2.cell? ⟨H, 3, none⟩ = some (.int .i64 (dRa T)) ∧ u2.cell? ⟨H, 4, none⟩ = some (.int .i64 (dSe T)) ∧ u2.cell? ⟨H, 5, none⟩ = some (.int .i64 (dSa T)) := ki_below hb hS0; have HROW := Hid.mk' (hrow.mono (show w.heap.size + 1 ≤ _ from HZU.out.lt)); have HRI := Hid.mk' hri; have HZ2 := Hid.mk' (HZU.out.below hb2); have HB2 := Hid.mk' (HBU.out.trans (hb2.mono HBU.out.size)); obtain ⟨q0, q1, q2, q3, q4, q5, z0, z1, z2, z3, z4, z5⟩ := six_of_blk HZ2.out; clear HFR ho hb hb2 hfl hri hrow hl hS0))
  go_wp2_with fail
  have HL := Hid.mk' (And.intro hs HY.out)
  refine bodyPost_ret (res_sal _ w.heap.size (.slice (some ⟨gl, 0, none⟩) (dCh T) (dCh T)) 0 #[.int .i64 (dCh T), .int .i64 (dDe T), .int .i64 (dBl T), .int .i64 (dRa T), .int .i64 (dSe T), .int .i64 (dSa T)] _ (HZ2.out.set6 _ _ _ _ _ _) rfl rfl rfl rfl) rfl ⟨.inl ⟨HL.out.1, HL.out.2, m, _, HRI.out, rfl, ?_⟩, set6_below HB2.out (Nat.le_refl _)⟩
  exact (HROW.out.grown (set6_grown u2 w.heap.size _ _ _ _ _ _) (Nat.lt_succ_self _)).mono (Nat.le_succ _)
end Go.Proofs.YtlncjgnomhpjnaaGreatDoor

/-
  Salvage: reel.Salvage, reelref.Salvage.
-/
namespace Go.Proofs.YtlncjgnomhpjnaaGreatDoor
open Go.RowKit Go.Deep
set_option linter.unusedVariables false
theorem SalAns.yes {e : Ending} {w w' : World} {T : List UInt8} (h : SalAns e w w' T) (hy : T.length ≤ 9000 ∧ HdP T) : ∃ m gl, RunIs (dCh T) (dDe T) (dBl T) (dSa T) 0 (T.drop (dSz T)) m ∧ e = .returned (.tuple #[.agg #[.int .i64 (dCh T), .int .i64 (dDe T), .int .i64 (dBl T), .int .i64 (dRa T), .int .i64 (dSe T), .int .i64 (dSa T)], .slice (some ⟨gl, 0, none⟩) (dCh T) (dCh T), .int .i64 0]) ∧ RowsL w.heap.size w' (.slice (some ⟨gl, 0, none⟩) (dCh T) (dCh T)) (dCh T) (chN (dBl T) (dSa T) 0 m) (smpL (dCh T) (dDe T) (dBl T) (dSa T) 0 (T.drop (dSz T)) m) ∧ Below w.heap.size w w' := by
  rcases h with ⟨⟨-, -, m, v, h1, rfl, h3⟩ | ⟨hno, -⟩, hb⟩
  · obtain ⟨g, A, C, rfl, -⟩ := h3.open
    exact ⟨m, g, h1, rfl, h3, hb⟩
  · exact absurd hy hno
theorem SalAns.nothing {e : Ending} {w w' : World} {T : List UInt8} (h : SalAns e w w' T) (hn : ¬ (T.length ≤ 9000 ∧ HdP T)) : e = .returned (.tuple #[.agg #[.int .i64 0, .int .i64 0, .int .i64 0, .int .i64 0, .int .i64 0, .int .i64 0], .slice none 0 0, .int .i64 (if T.length ≤ 9000 then 7 else 4)]) ∧ Below w.heap.size w w' := by
  rcases h with ⟨⟨h1, h2, -⟩ | ⟨-, he⟩, hb⟩
  · exact absurd ⟨h1, h2⟩ hn
  · exact ⟨he, hb⟩
theorem streamSalvage_any (T : List UInt8) (w : World) (hs : T.length ≤ 9000) (hT : TabsU w) : Calls Tryz.prog 53 #[.string (bs T)] w fun e w' => SalAns e w w' T := by
  by_cases hp : HdP T
  · exact streamSalvage_yes T w hs hp hT
  · exact streamSalvage_no T w hs hp
theorem res_rsal (tmps : Array Value) (R : Nat) (v : Value) (k : Int) (cs : Array Value) (W : World) (h : Bx W R 46 cs) (hs : cs.size = 6) (h2 : tmps.getD 2 undef = .pointer (some ⟨R, 0, none⟩)) (h3 : tmps.getD 3 undef = v) (h4 : tmps.getD 4 undef = .int .i64 k) :
    (results Tryz.f25 tmps).run Tryz.prog W = .ok (.tuple #[.agg cs, v, .int .i64 k]) W := by
  have hl := run_loadVar_row (P := Tryz.prog) W R 46 46 cs (0, 0) _ h Tryz.underlying46 rfl (by rw [hs]; exact infoInf6)
  rw [Array.getD_eq_getD_getElem?] at h2 h3 h4
  simp [results, Tryz.results25, asAddr, h2, h3, h4, hl]
theorem res_fsal (tmps : Array Value) (R : Nat) (v : Value) (k : Int) (cs : Array Value) (W : World) (h : Bx W R 46 cs) (hs : cs.size = 6) (h2 : tmps.getD 2 undef = .pointer (some ⟨R, 0, none⟩)) (h3 : tmps.getD 3 undef = v) (h4 : tmps.getD 4 undef = .int .i64 k) :
    (results Tryz.f55 tmps).run Tryz.prog W = .ok (.tuple #[.agg cs, v, .int .i64 k]) W := by
  have hl := run_loadVar_row (P := Tryz.prog) W R 46 46 cs (0, 0) _ h Tryz.underlying46 rfl (by rw [hs]; exact infoInf6)
  rw [Array.getD_eq_getD_getElem?] at h2 h3 h4
  simp [results, Tryz.results55, asAddr, h2, h3, h4, hl]
set_option maxRecDepth 4000 in
set_option maxHeartbeats 2000000 in
theorem reelSalvage_any (T : List UInt8) (w : World) (hs : T.length ≤ 9223372036854775807) (hT : TabsU w) :
    Calls Tryz.prog 25 #[.string (bs T)] w fun e w' => SalAns e w w' T := by
  have hz : (bs T).size = T.length := bs_size T
  have HZ0 : Hid (Bx (w.alloc (.cells #[.int .i64 0, .int .i64 0, .int .i64 0, .int .i64 0, .int .i64 0, .int .i64 0] 46)) w.heap.size 46 #[.int .i64 0, .int .i64 0, .int .i64 0, .int .i64 0, .int .i64 0, .int .i64 0]) := Bx.new _ _ _
  have HB0 : Hid (Below w.heap.size w (w.alloc (.cells #[.int .i64 0, .int .i64 0, .int .i64 0, .int .i64 0, .int .i64 0, .int .i64 0] 46))) := (Below.refl _ _).alloc (Nat.le_refl _) _
  by_cases hl : T.length ≤ 9000
  · have HSD := Hid.mk' (streamSalvage_any T _ hl (hT.below HB0.out))
    clear hT
    by_cases h0 : HdP T
    · have HY := Hid.mk' (And.intro hl h0)
      clear h0
      generalize bs T = SB at *
      go_enter Tryz.func25, Tryz.ntmps25
      go_wp2_with (first
        | (go_at_call 53; refine HSD.out.mono ?_; intro e u1 ho; obtain ⟨m, gl, hri, rfl, hrow, hb⟩ := ho.yes HY.out; have HRI := Hid.mk' hri; have HROW := Hid.mk' hrow; have HZ1 := Hid.mk' (HZ0.out.below hb); have HB1 := Hid.mk' (HB0.out.trans (hb.mono HB0.out.size)); clear hri hrow hb HSD HZ0 HB0 ho)
        | (refine wpList_storeRow rfl _ _ 46 rfl w.heap.size 46 _ _ rfl rfl HZ1.out infoInf6 rfl rfl ?_))
      refine bodyPost_ret (res_rsal _ w.heap.size (.slice (some ⟨gl, 0, none⟩) (dCh T) (dCh T)) 0 #[.int .i64 (dCh T), .int .i64 (dDe T), .int .i64 (dBl T), .int .i64 (dRa T), .int .i64 (dSe T), .int .i64 (dSa T)] _ (HZ1.out.row _) rfl rfl rfl rfl) rfl ⟨.inl ⟨HY.out.1, HY.out.2, m, _, HRI.out, rfl, ?_⟩, below_row HB1.out (Nat.le_refl _) _⟩
      exact (HROW.out.grown (grown_row u1 w.heap.size _) (by simp)).mono (by simp)
    · have HN : Hid (¬ (T.length ≤ 9000 ∧ HdP T)) := fun h => h0 h.2
      have HBAD : Hid (∀ w', Below w.heap.size w w' → SalAns (.returned (.tuple #[info0, .slice none 0 0, .int .i64 7])) w w' T) := fun w' hb => ⟨.inr ⟨HN.out, by rw [if_pos hl]⟩, hb⟩
      have HAN : Hid (∀ e u u', SalAns e u u' T → e = .returned (.tuple #[.agg #[.int .i64 0, .int .i64 0, .int .i64 0, .int .i64 0, .int .i64 0, .int .i64 0], .slice none 0 0, .int .i64 7]) ∧ Below u.heap.size u u') := fun e u u' h => by
        have := h.nothing HN.out
        rw [if_pos hl] at this
        exact this
      clear h0
      generalize bs T = SB at *
      go_enter Tryz.func25, Tryz.ntmps25
      go_wp2_with (first
        | (go_at_call 53; refine HSD.out.mono ?_; intro e u1 ho; obtain ⟨rfl, hb⟩ := HAN.out _ _ _ ho; have HZ1 := Hid.mk' (HZ0.out.below hb); have HB1 := Hid.mk' (HB0.out.trans (hb.mono HB0.out.size)); clear hb HSD HZ0 HB0 ho)
        | (refine wpList_storeRow rfl _ _ 46 rfl w.heap.size 46 _ _ rfl rfl HZ1.out infoInf6 rfl rfl ?_))
      exact bodyPost_ret (res_rsal _ w.heap.size _ 7 #[.int .i64 0, .int .i64 0, .int .i64 0, .int .i64 0, .int .i64 0, .int .i64 0] _ (HZ1.out.row _) rfl rfl rfl rfl) rfl (HBAD.out _ (below_row HB1.out (Nat.le_refl _) _))
  · have HBAD : Hid (∀ w', Below w.heap.size w w' → SalAns (.returned (.tuple #[info0, .slice none 0 0, .int .i64 4])) w w' T) := fun w' hb => ⟨.inr ⟨fun h => hl h.1, by rw [if_neg hl]⟩, hb⟩
    have hl2 : 9000 < T.length := by omega
    clear hT
    generalize bs T = SB at *
    go_enter Tryz.func25, Tryz.ntmps25
    go_wp2_with (first
      | (refine wpList_storeRow rfl _ _ 46 rfl w.heap.size 46 _ _ rfl rfl HZ0.out infoInf6 rfl rfl ?_))
    exact bodyPost_ret (res_rsal _ w.heap.size _ 4 #[.int .i64 0, .int .i64 0, .int .i64 0, .int .i64 0, .int .i64 0, .int .i64 0] _ (HZ0.out.row _) rfl rfl rfl rfl) rfl (HBAD.out _ (below_row HB0.out (Nat.le_refl _) _))
set_option maxRecDepth 4000 in
set_option maxHeartbeats 2000000 in
theorem refSalvage_any (T : List UInt8) (w : World) (hs2 : T.length ≤ 9223372036854775807) (hT : TabAt w 3) (hT3 : 3 < w.heap.size) :
    Calls Tryz.prog 55 #[.string (bs T)] w fun e w' => SalAns e w w' T := by
  have hz : (bs T).size = T.length := bs_size T
  have HZ0 : Hid (Bx (w.alloc (.cells #[.int .i64 0, .int .i64 0, .int .i64 0, .int .i64 0, .int .i64 0, .int .i64 0] 46)) w.heap.size 46 #[.int .i64 0, .int .i64 0, .int .i64 0, .int .i64 0, .int .i64 0, .int .i64 0]) := Bx.new _ _ _
  have HB0 : Hid (Below w.heap.size w (w.alloc (.cells #[.int .i64 0, .int .i64 0, .int .i64 0, .int .i64 0, .int .i64 0, .int .i64 0] 46))) := (Below.refl _ _).alloc (Nat.le_refl _) _
  by_cases hs : T.length ≤ 9000
  · have hd9 : decide ((9000 : Int) < (T.length : Int)) = false := decide_eq_false (by omega)
    have HHR := Hid.mk' (fun u => headOf_any T u hs)
    by_cases hp : HdP T
    · obtain ⟨b1, b2, b3, b4, b5, b6, b7, b8, b9, b10, b11⟩ := hd_bd hp
      have HY := Hid.mk' (And.intro hs hp)
      have HRN := Hid.mk' (fun (u : World) (hu : Below w.heap.size w u) => refRun_any (dCh T) (dDe T) (dBl T) (dRa T) (dSe T) (dSa T) 0 (dSz T) T u b3 b4 b1 b2 b5 b6 b7 (Nat.zero_le _) hs b11 (tab_at hT hu hT3) (Nat.lt_of_lt_of_le hT3 hu.size))
      have z0 : ((dSz T : Int) == 0) = false := by simp; omega
      have z1 : ¬ (dSz T : Int) = 0 := by omega
      clear hp hT hT3
      generalize bs T = SB at *
      go_enter Tryz.func55, Tryz.ntmps55
      go_wp2_with (first
        | (go_at_call 93; refine (HHR.out _).mono ?_; intro e u1 ho; obtain ⟨pa, pc, rfl, hown, hb⟩ := ho.yes HY.out.2; have HZ1 := Hid.mk' (HZ0.out.below hb); have HB1 := Hid.mk' (HB0.out.trans (hb.mono HB0.out.size)); clear HHR ho hb HZ0 HB0 hown)
        | (go_at_call 94; refine (HRN.out _ (HB1.out.alloc HB1.out.size _)).mono ?_; intro e u2 ho; obtain ⟨m, gl, la, lc, he, hri, hrow, hl, hb⟩ := ho; subst he; have HRI := Hid.mk' hri; have HROW := Hid.mk' (hrow.mono (show w.heap.size + 1 ≤ _ from (HZ1.out.alloc _).lt)); have HZ2 := Hid.mk' ((HZ1.out.alloc _).below hb); have HH2 := Hid.mk' ((Bx.new u1 #[.int .i64 (dWh T), .int .i64 (dCh T), .int .i64 (dDe T), .int .i64 (dBl T), .int .i64 (dRa T), .int .i64 (dSe T), .int .i64 (dSa T), .int .i64 (dLe T), .int .i64 (dMo T), .int .i64 (dSu T), .slice pa (dNp T) pc] 123).below hb); have HB2 := Hid.mk' ((HB1.out.alloc HB1.out.size _).trans (hb.mono (HB1.out.alloc HB1.out.size _).size)); have x1 := HH2.out.cell 1; have x2 := HH2.out.cell 2; have x3 := HH2.out.cell 3; have x4 := HH2.out.cell 4; have x5 := HH2.out.cell 5; have x6 := HH2.out.cell 6; clear HRN hb HZ1 HB1 hrow hl hri)
        | (refine wpList_storeRow rfl _ _ 46 rfl w.heap.size 46 _ _ rfl rfl HZ2.out infoInf6 rfl rfl ?_))
      refine bodyPost_ret (res_fsal _ w.heap.size (.slice (some ⟨gl, 0, none⟩) (dCh T) (dCh T)) 0 #[.int .i64 (dCh T), .int .i64 (dDe T), .int .i64 (dBl T), .int .i64 (dRa T), .int .i64 (dSe T), .int .i64 (dSa T)] _ (HZ2.out.row _) rfl rfl rfl rfl) rfl ⟨.inl ⟨HY.out.1, HY.out.2, m, _, HRI.out, rfl, ?_⟩, below_row HB2.out (Nat.le_refl _) _⟩
      exact (HROW.out.grown (grown_row u2 w.heap.size _) (Nat.lt_succ_self _)).mono (Nat.le_succ _)
    · have HY := Hid.mk' hp
      have HBAD : Hid (∀ w', Below w.heap.size w w' → SalAns (.returned (.tuple #[info0, .slice none 0 0, .int .i64 7])) w w' T) := fun w' hb => ⟨.inr ⟨fun h => HY.out h.2, by rw [if_pos hs]⟩, hb⟩
      clear hp hT hT3
      generalize bs T = SB at *
      go_enter Tryz.func55, Tryz.ntmps55
      go_wp2_with (first
        | (go_at_call 93; refine (HHR.out _).mono ?_; intro e u1 ho; obtain ⟨f, c0, c1, c2, c3, c4, s, le, mo, su, a, n, c, rfl, hb⟩ := ho.nothing HY.out; have HZ1 := Hid.mk' (HZ0.out.below hb); have HB1 := Hid.mk' (HB0.out.trans (hb.mono HB0.out.size)); clear HHR ho hb HZ0 HB0)
        | (refine wpList_storeRow rfl _ _ 46 rfl w.heap.size 46 _ _ rfl rfl (HZ1.out.alloc _) infoInf6 rfl rfl ?_))
      exact bodyPost_ret (res_fsal _ w.heap.size _ 7 #[.int .i64 0, .int .i64 0, .int .i64 0, .int .i64 0, .int .i64 0, .int .i64 0] _ ((HZ1.out.alloc _).row _) rfl rfl rfl rfl) rfl (HBAD.out _ (below_row (HB1.out.alloc HB1.out.size _) (Nat.le_refl _) _))
  · have HBAD : Hid (∀ w', Below w.heap.size w w' → SalAns (.returned (.tuple #[info0, .slice none 0 0, .int .i64 4])) w w' T) := fun w' hb => ⟨.inr ⟨fun h => hs h.1, by rw [if_neg hs]⟩, hb⟩
    have hl2 : 9000 < T.length := by omega
    clear hT hT3
    generalize bs T = SB at *
    go_enter Tryz.func55, Tryz.ntmps55
    go_wp2_with (first
      | (refine wpList_storeRow rfl _ _ 46 rfl w.heap.size 46 _ _ rfl rfl HZ0.out infoInf6 rfl rfl ?_))
    exact bodyPost_ret (res_fsal _ w.heap.size _ 4 #[.int .i64 0, .int .i64 0, .int .i64 0, .int .i64 0, .int .i64 0, .int .i64 0] _ (HZ0.out.row _) rfl rfl rfl rfl) rfl (HBAD.out _ (below_row HB0.out (Nat.le_refl _) _))
end Go.Proofs.YtlncjgnomhpjnaaGreatDoor

/-
  Where reading begins: (head.Head).Start.
-/
namespace Go.Proofs.YtlncjgnomhpjnaaGreatDoor
open Go.RowKit Go.Deep
set_option linter.unusedVariables false
theorem below_drewN2 {B : Nat} {a b : World} (h : Below B a b) (m : Nat) : Below B a (b.drewN m) := ⟨h.os, h.tape, h.output, h.size, h.block⟩
set_option maxRecDepth 4000 in
set_option maxHeartbeats 1000000 in
theorem headStart_none (c0 c1 c2 c3 s : Int) (f : Bool) (le mo su at' : Int) (a : Option Addr) (n cap : Nat) (w : World) :
    Calls Tryz.prog 100 #[.agg (hdC c0 c1 c2 c3 0 s f le mo su (.slice a n cap)), .int .i64 at'] w fun e w' => e = .returned (.tuple #[.int .i64 0, .int .i64 0]) ∧ Below w.heap.size w w' := by
  unfold hdC
  go_enter Tryz.func100, Tryz.ntmps100
  go_wp2
  go_ret2
  exact ⟨rfl, (Below.refl _ _).alloc (Nat.le_refl _) _⟩
set_option maxRecDepth 4000 in
set_option maxHeartbeats 1000000 in
theorem headStart_some (c0 c1 c3 s : Int) (B seek : Nat) (f : Bool) (le mo su : Int) (at' : Nat) (ps : List Nat) (pv : Value) (base : Nat) (w : World) (hB : 1 ≤ B) (hB2 : B ≤ 32) (hk : 1 ≤ seek) (hk2 : seek ≤ 255) (hat : at' ≤ 300) (hl : ps.length ≤ 300) (hp : at' / B / seek < ps.length) (ho : w.ownsRow base 3 1 pv ps.length (pntV ps)) :
    Calls Tryz.prog 100 #[.agg (hdC c0 c1 B c3 seek s f le mo su pv), .int .i64 at'] w fun e w' => e = .returned (.tuple #[.int .i64 (at' / B / seek * seek : Nat), .int .i64 (ps.getD (at' / B / seek) 0 : Nat)]) ∧ Below w.heap.size w w' := by
  obtain ⟨a, cap, rfl, hI, hlow⟩ := pnts_open ho
  have hp0 : 0 < ps.length := Nat.lt_of_le_of_lt (Nat.zero_le _) hp
  obtain ⟨g, o, rfl, hc⟩ := hI.open hp0
  have hg : g < w.heap.size := hlow _ rfl hp0
  have hq1 : at' / B ≤ 300 := Nat.le_trans (Nat.div_le_self _ _) hat
  have hq2 : at' / B / seek ≤ 300 := Nat.le_trans (Nat.div_le_self _ _) hq1
  have hq3 : at' / B / seek * seek ≤ 300 := Nat.le_trans (Nat.div_mul_le_self _ _) hq1
  have e1 : (at' : Int).tdiv (B : Int) = ((at' / B : Nat) : Int) := by rw [Int.tdiv_eq_ediv_of_nonneg (Int.natCast_nonneg _)]; rfl
  have e2 : ((at' / B : Nat) : Int).tdiv (seek : Int) = ((at' / B / seek : Nat) : Int) := by rw [Int.tdiv_eq_ediv_of_nonneg (Int.natCast_nonneg _)]; rfl
  have e3 : ((at' / B / seek : Nat) : Int) * (seek : Int) = ((at' / B / seek * seek : Nat) : Int) := by rw [Int.natCast_mul]
  have n1 : ¬ (B : Int) = 0 := by omega
  have n2 : ¬ (seek : Int) = 0 := by omega
  have n3 : ((seek : Int) == 0) = false := by simp; omega
  have n4 : ¬ seek = 0 := by omega
  have hcp := hc _ hp
  clear hc hI hlow ho
  generalize at' / B / seek * seek = ns at *
  generalize at' / B / seek = p at *
  generalize at' / B = d1 at *
  generalize ps.getD p 0 = pp at *
  have w1 : IntKind.i64.wrap (d1 : Int) = (d1 : Int) := by rw [IntKind.wrap_i64]; omega
  have w2 : IntKind.i64.wrap (p : Int) = (p : Int) := by rw [IntKind.wrap_i64]; omega
  have w3 : IntKind.i64.wrap (ns : Int) = (ns : Int) := by rw [IntKind.wrap_i64]; omega
  have i0 : (0 : Int) ≤ (p : Int) := by omega
  have i1 : (p : Int) < (ps.length : Int) := by omega
  generalize ps.length = np at *
  unfold hdC
  have k0 : ((w.alloc (.cells #[.int .i64 c0, .int .i64 c1, .int .i64 B, .int .i64 c3, .int .i64 seek, .int .i64 s, .bool f, .int .i64 le, .int .i64 mo, .int .i64 su, .slice (some ⟨g, o, none⟩) np cap] 115))).cell? ⟨g, o + p, none⟩ = some (.int .i64 (pp : Int)) := (World.grownBy_alloc w _ none).cell hcp (by simp)
  go_enter Tryz.func100, Tryz.ntmps100
  go_wp2
  go_quiet (fail)
  go_wp2
  go_quiet (fail)
  go_wp2
  go_ret2
  exact ⟨rfl, below_drewN2 (below_drewN2 ((Below.refl _ _).alloc (Nat.le_refl _) _) _) _⟩
end Go.Proofs.YtlncjgnomhpjnaaGreatDoor

