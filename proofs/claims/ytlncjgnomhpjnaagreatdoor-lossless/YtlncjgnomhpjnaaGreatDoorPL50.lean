import Derived.Test.YtlncjgnomhpjnaaGreatDoorPL49
import Derived.Test.YtlncjgnomhpjnaaGreatDoorPL34
import Derived.Test.YtlncjgnomhpjnaaGreatDoorPL26
import Derived.Test.YtlncjgnomhpjnaaGreatDoorPL15
import Derived.Test.YtlncjgnomhpjnaaGreatDoorPL25
import Derived.Test.YtlncjgnomhpjnaaGreatDoorPL20
import Derived.Test.YtlncjgnomhpjnaaGreatDoorPL45
import Derived.Test.YtlncjgnomhpjnaaGreatDoorPL47
import Derived.Test.YtlncjgnomhpjnaaGreatDoorPL32
import Derived.Deep.RegionHeld3
import Derived.Deep.DeepCutAuto
import Derived.Deep.RegionLaw
import Derived.BigQuiet
import Derived.Deep.QuietTactic
/-
  The program salvages: stream.Salvage.
-/
namespace Go.Proofs.YtlncjgnomhpjnaaGreatDoor
open Go.RowKit Go.Deep
set_option linter.unusedVariables false
/-- what Salvage answers -/
def SalAns (e : Ending) (w w' : World) (T : List UInt8) : Prop :=
  ((T.length ≤ 9000 ∧ HdP T ∧ ∃ m v, RunIs (dCh T) (dDe T) (dBl T) (dSa T) 0 (T.drop (dSz T)) m ∧ e = .returned (.tuple #[dInfo T, v, .int .i64 0]) ∧ RowsL w.heap.size w' v (dCh T) (chN (dBl T) (dSa T) 0 m) (smpL (dCh T) (dDe T) (dBl T) (dSa T) 0 (T.drop (dSz T)) m))
   ∨ (¬ (T.length ≤ 9000 ∧ HdP T) ∧ e = .returned (.tuple #[info0, .slice none 0 0, .int .i64 (if T.length ≤ 9000 then 7 else 4)]))) ∧ Below w.heap.size w w'
theorem res_sal (tmps : Array Value) (R : Nat) (v : Value) (k : Int) (cs : Array Value) (W : World) (h : Bx W R 46 cs) (hs : cs.size = 6) (h2 : tmps.getD 2 undef = .pointer (some ⟨R, 0, none⟩)) (h3 : tmps.getD 3 undef = v) (h4 : tmps.getD 4 undef = .int .i64 k) :
    (results Tryz.f53 tmps).run Tryz.prog W = .ok (.tuple #[.agg cs, v, .int .i64 k]) W := by
  have hl := run_loadVar_row (P := Tryz.prog) W R 46 46 cs (0, 0) _ h Tryz.underlying46 rfl (by rw [hs]; exact infoInf6)
  rw [Array.getD_eq_getD_getElem?] at h2 h3 h4
  simp [results, Tryz.results53, asAddr, h2, h3, h4, hl]
set_option maxRecDepth 4000 in
set_option maxHeartbeats 2000000 in
theorem streamSalvage_no (T : List UInt8) (w : World) (hs : T.length ≤ 9000) (hp : ¬ HdP T) :
    Calls Tryz.prog 53 #[.string (bs T)] w fun e w' => SalAns e w w' T := by
  have HHR := Hid.mk' (fun u => headRead_any T u hs)
  have HBAD : Hid (∀ w', Below w.heap.size w w' → SalAns (.returned (.tuple #[info0, .slice none 0 0, .int .i64 7])) w w' T) := fun w' hb => ⟨.inr ⟨fun h => hp h.2, by rw [if_pos hs]⟩, hb⟩
  have HZ0 : Hid (Bx (w.alloc (.cells #[.int .i64 0, .int .i64 0, .int .i64 0, .int .i64 0, .int .i64 0, .int .i64 0] 46)) w.heap.size 46 #[.int .i64 0, .int .i64 0, .int .i64 0, .int .i64 0, .int .i64 0, .int .i64 0]) := Bx.new _ _ _
  have HB0 : Hid (Below w.heap.size w (w.alloc (.cells #[.int .i64 0, .int .i64 0, .int .i64 0, .int .i64 0, .int .i64 0, .int .i64 0] 46))) := (Below.refl _ _).alloc (Nat.le_refl _) _
  have HY := Hid.mk' hp
  clear hp
  generalize bs T = SB at *
  go_enter Tryz.func53, Tryz.ntmps53
  go_wp2_with (first
    | (go_at_call 90; refine (HHR.out _).mono ?_; intro e u1 ho; obtain ⟨rfl, hb⟩ := ho.nothing HY.out; have HZ1 := Hid.mk' (HZ0.out.below hb); have HB1 := Hid.mk' (HB0.out.trans (hb.mono HB0.out.size)); clear HHR ho hb HZ0 HB0)
    | (refine wpList_storeRow rfl _ _ 46 rfl w.heap.size 46 _ _ rfl rfl (HZ1.out.alloc _) infoInf6 rfl rfl ?_))
  exact bodyPost_ret (res_sal _ w.heap.size _ 7 #[.int .i64 0, .int .i64 0, .int .i64 0, .int .i64 0, .int .i64 0, .int .i64 0] _ ((HZ1.out.alloc _).row _) rfl rfl rfl rfl) rfl (HBAD.out _ (below_row (HB1.out.alloc HB1.out.size _) (Nat.le_refl _) _))
theorem run_lists (a b c : Value) (u : World) : Sem.run Tryz.prog (Instr.field 119 (.agg #[a, b, c]) 0) u = .ok a u := by kernel_rfl
theorem ki_st6 {g q : Nat} {c0 c1 c2 c3 c4 c5 : Int} {s0 s1 s2 s3 s4 s5 : Value} {u : World} (hq : g ≠ q) (h : g < u.heap.size ∧ u.cell? ⟨g, 0, none⟩ = some (.int .i64 c0) ∧ u.cell? ⟨g, 1, none⟩ = some (.int .i64 c1) ∧ u.cell? ⟨g, 2, none⟩ = some (.int .i64 c2) ∧ u.cell? ⟨g, 3, none⟩ = some (.int .i64 c3) ∧ u.cell? ⟨g, 4, none⟩ = some (.int .i64 c4) ∧ u.cell? ⟨g, 5, none⟩ = some (.int .i64 c5)) : g < ((((((u.setCell ⟨q, 0, none⟩ s0).setCell ⟨q, 1, none⟩ s1).setCell ⟨q, 2, none⟩ s2).setCell ⟨q, 3, none⟩ s3).setCell ⟨q, 4, none⟩ s4).setCell ⟨q, 5, none⟩ s5).heap.size ∧ ((((((u.setCell ⟨q, 0, none⟩ s0).setCell ⟨q, 1, none⟩ s1).setCell ⟨q, 2, none⟩ s2).setCell ⟨q, 3, none⟩ s3).setCell ⟨q, 4, none⟩ s4).setCell ⟨q, 5, none⟩ s5).cell? ⟨g, 0, none⟩ = some (.int .i64 c0) ∧ ((((((u.setCell ⟨q, 0, none⟩ s0).setCell ⟨q, 1, none⟩ s1).setCell ⟨q, 2, none⟩ s2).setCell ⟨q, 3, none⟩ s3).setCell ⟨q, 4, none⟩ s4).setCell ⟨q, 5, none⟩ s5).cell? ⟨g, 1, none⟩ = some (.int .i64 c1) ∧ ((((((u.setCell ⟨q, 0, none⟩ s0).setCell ⟨q, 1, none⟩ s1).setCell ⟨q, 2, none⟩ s2).setCell ⟨q, 3, none⟩ s3).setCell ⟨q, 4, none⟩ s4).setCell ⟨q, 5, none⟩ s5).cell? ⟨g, 2, none⟩ = some (.int .i64 c2) ∧ ((((((u.setCell ⟨q, 0, none⟩ s0).setCell ⟨q, 1, none⟩ s1).setCell ⟨q, 2, none⟩ s2).setCell ⟨q, 3, none⟩ s3).setCell ⟨q, 4, none⟩ s4).setCell ⟨q, 5, none⟩ s5).cell? ⟨g, 3, none⟩ = some (.int .i64 c3) ∧ ((((((u.setCell ⟨q, 0, none⟩ s0).setCell ⟨q, 1, none⟩ s1).setCell ⟨q, 2, none⟩ s2).setCell ⟨q, 3, none⟩ s3).setCell ⟨q, 4, none⟩ s4).setCell ⟨q, 5, none⟩ s5).cell? ⟨g, 4, none⟩ = some (.int .i64 c4) ∧ ((((((u.setCell ⟨q, 0, none⟩ s0).setCell ⟨q, 1, none⟩ s1).setCell ⟨q, 2, none⟩ s2).setCell ⟨q, 3, none⟩ s3).setCell ⟨q, 4, none⟩ s4).setCell ⟨q, 5, none⟩ s5).cell? ⟨g, 5, none⟩ = some (.int .i64 c5) := by
  have hg := set6_grown u q s0 s1 s2 s3 s4 s5
  have e1 : ∀ j v, u.cell? ⟨g, j, none⟩ = some v → ((((((u.setCell ⟨q, 0, none⟩ s0).setCell ⟨q, 1, none⟩ s1).setCell ⟨q, 2, none⟩ s2).setCell ⟨q, 3, none⟩ s3).setCell ⟨q, 4, none⟩ s4).setCell ⟨q, 5, none⟩ s5).cell? ⟨g, j, none⟩ = some v := fun j v hv => hg.cell hv (by simpa using hq)
  exact ⟨Nat.lt_of_lt_of_le h.1 hg.size, e1 _ _ h.2.1, e1 _ _ h.2.2.1, e1 _ _ h.2.2.2.1, e1 _ _ h.2.2.2.2.1, e1 _ _ h.2.2.2.2.2.1, e1 _ _ h.2.2.2.2.2.2⟩
set_option maxRecDepth 4000 in
set_option maxHeartbeats 2000000 in
theorem streamSalvage_yes (T : List UInt8) (w : World) (hs : T.length ≤ 9000) (hp : HdP T) (hT : TabsU w) :
    Calls Tryz.prog 53 #[.string (bs T)] w fun e w' => SalAns e w w' T := by
  obtain ⟨b1, b2, b3, b4, b5, b6, b7, b8, b9, b10, b11⟩ := hd_bd hp
  have HHR := Hid.mk' (fun u => headRead_any T u hs)
  have HFR := Hid.mk' (fun (u : World) (hu : Below w.heap.size w u) => readFrames_any (dCh T) (dDe T) (dBl T) (dRa T) (dSe T) (dSa T) 0 (T.drop (dSz T)) u b3 b4 b1 b2 b5 b6 b7 (Nat.zero_le _) (by rw [List.length_drop]; omega) (hT.below hu))
  have HZ0 : Hid (Bx (w.alloc (.cells #[.int .i64 0, .int .i64 0, .int .i64 0, .int .i64 0, .int .i64 0, .int .i64 0] 46)) w.heap.size 46 #[.int .i64 0, .int .i64 0, .int .i64 0, .int .i64 0, .int .i64 0, .int .i64 0]) := Bx.new _ _ _
  have HB0 : Hid (Below w.heap.size w (w.alloc (.cells #[.int .i64 0, .int .i64 0, .int .i64 0, .int .i64 0, .int .i64 0, .int .i64 0] 46))) := (Below.refl _ _).alloc (Nat.le_refl _) _
  have HY := Hid.mk' hp
  obtain ⟨bw, hbw⟩ : ∃ b, decide (dWh T = 1) = b := ⟨_, rfl⟩
  have HBW := Hid.mk' hbw
  clear hbw
  have hz : (bs T).size = T.length := bs_size T
  have eS : (bs T).extract (dSz T) T.length = bs (T.drop (dSz T)) := by
    rw [bs_cut', List.take_of_length_le (by rw [List.length_drop]; exact Nat.le_refl _)]
  have i1 : ((dSz T : Nat) : Int) ≤ (T.length : Int) := by omega
  clear hp hT
  generalize bs (T.drop (dSz T)) = SX at *
  generalize bs T = SB at *
  go_enter Tryz.func53, Tryz.ntmps53
  go_wp2_with (first
    | (go_at_call 90; refine (HHR.out _).mono ?_; intro e u1 ho; obtain ⟨pa, pc, rfl, hown, hb⟩ := ho.yes HY.out HBW.out; have HZ1 := Hid.mk' (HZ0.out.below hb); have HB1 := Hid.mk' (HB0.out.trans (hb.mono HB0.out.size)); clear HHR ho hb HZ0 HB0 hown))
  have HZU := Hid.mk' (HZ1.out.alloc (.cells #[.int .i64 (dCh T), .int .i64 (dDe T), .int .i64 (dBl T), .int .i64 (dRa T), .int .i64 (dSe T), .int .i64 (dSa T), .bool bw, .int .i64 (dLe T), .int .i64 (dMo T), .int .i64 (dSu T), .slice pa (dNp T) pc] 115))
  have HHU := Hid.mk' (Bx.new u1 #[.int .i64 (dCh T), .int .i64 (dDe T), .int .i64 (dBl T), .int .i64 (dRa T), .int .i64 (dSe T), .int .i64 (dSa T), .bool bw, .int .i64 (dLe T), .int .i64 (dMo T), .int .i64 (dSu T), .slice pa (dNp T) pc] 115)
  have HBU := Hid.mk' (HB1.out.alloc HB1.out.size (.cells #[.int .i64 (dCh T), .int .i64 (dDe T), .int .i64 (dBl T), .int .i64 (dRa T), .int .i64 (dSe T), .int .i64 (dSa T), .bool bw, .int .i64 (dLe T), .int .i64 (dMo T), .int .i64 (dSu T), .slice pa (dNp T) pc] 115))
  have hHn : u1.heap.size ≠ w.heap.size := Nat.ne_of_gt HZ1.out.lt
  clear HZ1 HB1
  generalize hU : u1.alloc (.cells #[.int .i64 (dCh T), .int .i64 (dDe T), .int .i64 (dBl T), .int .i64 (dRa T), .int .i64 (dSe T), .int .i64 (dSa T), .bool bw, .int .i64 (dLe T), .int .i64 (dMo T), .int .i64 (dSu T), .slice pa (dNp T) pc] 115) = U at *
  clear hU
  generalize u1.heap.size = H at *
  have hrl := fun (a b c : Value) (u : World) => run_lists a b c u
  have hS0 : H < U.drew.heap.size ∧ U.drew.cell? ⟨H, 0, none⟩ = some (.int .i64 (dCh T)) ∧ U.drew.cell? ⟨H, 1, none⟩ = some (.int .i64 (dDe T)) ∧ U.drew.cell? ⟨H, 2, none⟩ = some (.int .i64 (dBl T)) ∧ U.drew.cell? ⟨H, 3, none⟩ = some (.int .i64 (dRa T)) ∧ U.drew.cell? ⟨H, 4, none⟩ = some (.int .i64 (dSe T)) ∧ U.drew.cell? ⟨H, 5, none⟩ = some (.int .i64 (dSa T)) := ⟨HHU.out.lt, HHU.out.cell 0, HHU.out.cell 1, HHU.out.cell 2, HHU.out.cell 3, HHU.out.cell 4, HHU.out.cell 5⟩
  go_region_held3 (fun w' => H < w'.heap.size ∧ w'.cell? ⟨H, 0, none⟩ = some (.int .i64 (dCh T)) ∧ w'.cell? ⟨H, 1, none⟩ = some (.int .i64 (dDe T)) ∧ w'.cell? ⟨H, 2, none⟩ = some (.int .i64 (dBl T)) ∧ w'.cell? ⟨H, 3, none⟩ = some (.int .i64 (dRa T)) ∧ w'.cell? ⟨H, 4, none⟩ = some (.int .i64 (dSe T)) ∧ w'.cell? ⟨H, 5, none⟩ = some (.int .i64 (dSa T))) (first | with_reducible exact hS0 | with_reducible exact hS1 | with_reducible exact ki_st6 hHn hS1)
    (first
    | (go_at_call 91; refine (HFR.out _ HBU.out.drew).mono ?_; intro e u2 ho; obtain ⟨m, gl, la, lc, bf, rfl, hfl, hri, hrow, hl, hb⟩ := ho.all; have hb2 : Below U.heap.size U u2 := ⟨hb.os, hb.tape, hb.output, hb.size, hb.block⟩; have hS1 : H < u2.heap.size ∧ u2.cell? ⟨H, 0, none⟩ = some (.int .i64 (dCh T)) ∧ u2.cell? ⟨H, 1, none⟩ = some (.int .i64 (dDe T)) ∧ u2.cell? ⟨H, 2, none⟩ = some (.int .i64 (dBl T)) ∧ u2.cell? ⟨H, 3, none⟩ = some (.int .i64 (dRa T)) ∧ u2.cell? ⟨H, 4, none⟩ = some (.int .i64 (dSe T)) ∧ u2.cell? ⟨H, 5, none⟩ = some (.int .i64 (dSa T)) := ki_below hb hS0; have HROW := Hid.mk' (hrow.mono (show w.heap.size + 1 ≤ _ from HZU.out.lt)); have HRI := Hid.mk' hri; have HZ2 := Hid.mk' (HZU.out.below hb2); have HB2 := Hid.mk' (HBU.out.trans (hb2.mono HBU.out.size)); obtain ⟨q0, q1, q2, q3, q4, q5, z0, z1, z2, z3, z4, z5⟩ := six_of_blk HZ2.out; clear HFR ho hb hb2 hfl hri hrow hl hS0))
  go_wp2_with fail
  have HL := Hid.mk' (And.intro hs HY.out)
  refine bodyPost_ret (res_sal _ w.heap.size (.slice (some ⟨gl, 0, none⟩) (dCh T) (dCh T)) 0 #[.int .i64 (dCh T), .int .i64 (dDe T), .int .i64 (dBl T), .int .i64 (dRa T), .int .i64 (dSe T), .int .i64 (dSa T)] _ (HZ2.out.set6 _ _ _ _ _ _) rfl rfl rfl rfl) rfl ⟨.inl ⟨HL.out.1, HL.out.2, m, _, HRI.out, rfl, ?_⟩, set6_below HB2.out (Nat.le_refl _)⟩
  exact (HROW.out.grown (set6_grown u2 w.heap.size _ _ _ _ _ _) (Nat.lt_succ_self _)).mono (Nat.le_succ _)
end Go.Proofs.YtlncjgnomhpjnaaGreatDoor

/-
  Salvage: reel.Salvage, reelref.Salvage.
-/
namespace Go.Proofs.YtlncjgnomhpjnaaGreatDoor
open Go.RowKit Go.Deep
set_option linter.unusedVariables false
theorem SalAns.yes {e : Ending} {w w' : World} {T : List UInt8} (h : SalAns e w w' T) (hy : T.length ≤ 9000 ∧ HdP T) : ∃ m gl, RunIs (dCh T) (dDe T) (dBl T) (dSa T) 0 (T.drop (dSz T)) m ∧ e = .returned (.tuple #[.agg #[.int .i64 (dCh T), .int .i64 (dDe T), .int .i64 (dBl T), .int .i64 (dRa T), .int .i64 (dSe T), .int .i64 (dSa T)], .slice (some ⟨gl, 0, none⟩) (dCh T) (dCh T), .int .i64 0]) ∧ RowsL w.heap.size w' (.slice (some ⟨gl, 0, none⟩) (dCh T) (dCh T)) (dCh T) (chN (dBl T) (dSa T) 0 m) (smpL (dCh T) (dDe T) (dBl T) (dSa T) 0 (T.drop (dSz T)) m) ∧ Below w.heap.size w w' := by
  rcases h with ⟨⟨-, -, m, v, h1, rfl, h3⟩ | ⟨hno, -⟩, hb⟩
  · obtain ⟨g, A, C, rfl, -⟩ := h3.open
    exact ⟨m, g, h1, rfl, h3, hb⟩
  · exact absurd hy hno
theorem SalAns.nothing {e : Ending} {w w' : World} {T : List UInt8} (h : SalAns e w w' T) (hn : ¬ (T.length ≤ 9000 ∧ HdP T)) : e = .returned (.tuple #[.agg #[.int .i64 0, .int .i64 0, .int .i64 0, .int .i64 0, .int .i64 0, .int .i64 0], .slice none 0 0, .int .i64 (if T.length ≤ 9000 then 7 else 4)]) ∧ Below w.heap.size w w' := by
  rcases h with ⟨⟨h1, h2, -⟩ | ⟨-, he⟩, hb⟩
  · exact absurd ⟨h1, h2⟩ hn
  · exact ⟨he, hb⟩
theorem streamSalvage_any (T : List UInt8) (w : World) (hs : T.length ≤ 9000) (hT : TabsU w) : Calls Tryz.prog 53 #[.string (bs T)] w fun e w' => SalAns e w w' T := by
  by_cases hp : HdP T
  · exact streamSalvage_yes T w hs hp hT
  · exact streamSalvage_no T w hs hp
theorem res_rsal (tmps : Array Value) (R : Nat) (v : Value) (k : Int) (cs : Array Value) (W : World) (h : Bx W R 46 cs) (hs : cs.size = 6) (h2 : tmps.getD 2 undef = .pointer (some ⟨R, 0, none⟩)) (h3 : tmps.getD 3 undef = v) (h4 : tmps.getD 4 undef = .int .i64 k) :
    (results Tryz.f25 tmps).run Tryz.prog W = .ok (.tuple #[.agg cs, v, .int .i64 k]) W := by
  have hl := run_loadVar_row (P := Tryz.prog) W R 46 46 cs (0, 0) _ h Tryz.underlying46 rfl (by rw [hs]; exact infoInf6)
  rw [Array.getD_eq_getD_getElem?] at h2 h3 h4
  simp [results, Tryz.results25, asAddr, h2, h3, h4, hl]
set_option maxRecDepth 4000 in
set_option maxHeartbeats 2000000 in
theorem reelSalvage_any (T : List UInt8) (w : World) (hs : T.length ≤ 9223372036854775807) (hT : TabsU w) :
    Calls Tryz.prog 25 #[.string (bs T)] w fun e w' => SalAns e w w' T := by
  have hz : (bs T).size = T.length := bs_size T
  have HZ0 : Hid (Bx (w.alloc (.cells #[.int .i64 0, .int .i64 0, .int .i64 0, .int .i64 0, .int .i64 0, .int .i64 0] 46)) w.heap.size 46 #[.int .i64 0, .int .i64 0, .int .i64 0, .int .i64 0, .int .i64 0, .int .i64 0]) := Bx.new _ _ _
  have HB0 : Hid (Below w.heap.size w (w.alloc (.cells #[.int .i64 0, .int .i64 0, .int .i64 0, .int .i64 0, .int .i64 0, .int .i64 0] 46))) := (Below.refl _ _).alloc (Nat.le_refl _) _
  by_cases hl : T.length ≤ 9000
  · have HSD := Hid.mk' (streamSalvage_any T _ hl (hT.below HB0.out))
    clear hT
    by_cases h0 : HdP T
    · have HY := Hid.mk' (And.intro hl h0)
      clear h0
      generalize bs T = SB at *
      go_enter Tryz.func25, Tryz.ntmps25
      go_wp2_with (first
        | (go_at_call 53; refine HSD.out.mono ?_; intro e u1 ho; obtain ⟨m, gl, hri, rfl, hrow, hb⟩ := ho.yes HY.out; have HRI := Hid.mk' hri; have HROW := Hid.mk' hrow; have HZ1 := Hid.mk' (HZ0.out.below hb); have HB1 := Hid.mk' (HB0.out.trans (hb.mono HB0.out.size)); clear hri hrow hb HSD HZ0 HB0 ho)
        | (refine wpList_storeRow rfl _ _ 46 rfl w.heap.size 46 _ _ rfl rfl HZ1.out infoInf6 rfl rfl ?_))
      refine bodyPost_ret (res_rsal _ w.heap.size (.slice (some ⟨gl, 0, none⟩) (dCh T) (dCh T)) 0 #[.int .i64 (dCh T), .int .i64 (dDe T), .int .i64 (dBl T), .int .i64 (dRa T), .int .i64 (dSe T), .int .i64 (dSa T)] _ (HZ1.out.row _) rfl rfl rfl rfl) rfl ⟨.inl ⟨HY.out.1, HY.out.2, m, _, HRI.out, rfl, ?_⟩, below_row HB1.out (Nat.le_refl _) _⟩
      exact (HROW.out.grown (grown_row u1 w.heap.size _) (by simp)).mono (by simp)
    · have HN : Hid (¬ (T.length ≤ 9000 ∧ HdP T)) := fun h => h0 h.2
      have HBAD : Hid (∀ w', Below w.heap.size w w' → SalAns (.returned (.tuple #[info0, .slice none 0 0, .int .i64 7])) w w' T) := fun w' hb => ⟨.inr ⟨HN.out, by rw [if_pos hl]⟩, hb⟩
      have HAN : Hid (∀ e u u', SalAns e u u' T → e = .returned (.tuple #[.agg #[.int .i64 0, .int .i64 0, .int .i64 0, .int .i64 0, .int .i64 0, .int .i64 0], .slice none 0 0, .int .i64 7]) ∧ Below u.heap.size u u') := fun e u u' h => by
        have := h.nothing HN.out
        rw [if_pos hl] at this
        exact this
      clear h0
      generalize bs T = SB at *
      go_enter Tryz.func25, Tryz.ntmps25
      go_wp2_with (first
        | (go_at_call 53; refine HSD.out.mono ?_; intro e u1 ho; obtain ⟨rfl, hb⟩ := HAN.out _ _ _ ho; have HZ1 := Hid.mk' (HZ0.out.below hb); have HB1 := Hid.mk' (HB0.out.trans (hb.mono HB0.out.size)); clear hb HSD HZ0 HB0 ho)
        | (refine wpList_storeRow rfl _ _ 46 rfl w.heap.size 46 _ _ rfl rfl HZ1.out infoInf6 rfl rfl ?_))
      exact bodyPost_ret (res_rsal _ w.heap.size _ 7 #[.int .i64 0, .int .i64 0, .int .i64 0, .int .i64 0, .int .i64 0, .int .i64 0] _ (HZ1.out.row _) rfl rfl rfl rfl) rfl (HBAD.out _ (below_row HB1.out (Nat.le_refl _) _))
  · have HBAD : Hid (∀ w', Below w.heap.size w w' → SalAns (.returned (.tuple #[info0, .slice none 0 0, .int .i64 4])) w w' T) := fun w' hb => ⟨.inr ⟨fun h => hl h.1, by rw [if_neg hl]⟩, hb⟩
    have hl2 : 9000 < T.length := by omega
    clear hT
    generalize bs T = SB at *
    go_enter Tryz.func25, Tryz.ntmps25
    go_wp2_with (first
      | (refine wpList_storeRow rfl _ _ 46 rfl w.heap.size 46 _ _ rfl rfl HZ0.out infoInf6 rfl rfl ?_))
    exact bodyPost_ret (res_rsal _ w.heap.size _ 4 #[.int .i64 0, .int .i64 0, .int .i64 0, .int .i64 0, .int .i64 0, .int .i64 0] _ (HZ0.out.row _) rfl rfl rfl rfl) rfl (HBAD.out _ (below_row HB0.out (Nat.le_refl _) _))
end Go.Proofs.YtlncjgnomhpjnaaGreatDoor

/-
  Where reading begins: (head.Head).Start.
-/
namespace Go.Proofs.YtlncjgnomhpjnaaGreatDoor
open Go.RowKit Go.Deep
set_option linter.unusedVariables false
theorem below_drewN2 {B : Nat} {a b : World} (h : Below B a b) (m : Nat) : Below B a (b.drewN m) := ⟨h.os, h.tape, h.output, h.size, h.block⟩
set_option maxRecDepth 4000 in
set_option maxHeartbeats 1000000 in
theorem headStart_none (c0 c1 c2 c3 s : Int) (f : Bool) (le mo su at' : Int) (a : Option Addr) (n cap : Nat) (w : World) :
    Calls Tryz.prog 100 #[.agg (hdC c0 c1 c2 c3 0 s f le mo su (.slice a n cap)), .int .i64 at'] w fun e w' => e = .returned (.tuple #[.int .i64 0, .int .i64 0]) ∧ Below w.heap.size w w' := by
  unfold hdC
  go_enter Tryz.func100, Tryz.ntmps100
  go_wp2
  go_ret2
  exact ⟨rfl, (Below.refl _ _).alloc (Nat.le_refl _) _⟩
set_option maxRecDepth 4000 in
set_option maxHeartbeats 1000000 in
theorem headStart_some (c0 c1 c3 s : Int) (B seek : Nat) (f : Bool) (le mo su : Int) (at' : Nat) (ps : List Nat) (pv : Value) (base : Nat) (w : World) (hB : 1 ≤ B) (hB2 : B ≤ 32) (hk : 1 ≤ seek) (hk2 : seek ≤ 255) (hat : at' ≤ 300) (hl : ps.length ≤ 300) (hp : at' / B / seek < ps.length) (ho : w.ownsRow base 3 1 pv ps.length (pntV ps)) :
    Calls Tryz.prog 100 #[.agg (hdC c0 c1 B c3 seek s f le mo su pv), .int .i64 at'] w fun e w' => e = .returned (.tuple #[.int .i64 (at' / B / seek * seek : Nat), .int .i64 (ps.getD (at' / B / seek) 0 : Nat)]) ∧ Below w.heap.size w w' := by
  obtain ⟨a, cap, rfl, hI, hlow⟩ := pnts_open ho
  have hp0 : 0 < ps.length := Nat.lt_of_le_of_lt (Nat.zero_le _) hp
  obtain ⟨g, o, rfl, hc⟩ := hI.open hp0
  have hg : g < w.heap.size := hlow _ rfl hp0
  have hq1 : at' / B ≤ 300 := Nat.le_trans (Nat.div_le_self _ _) hat
  have hq2 : at' / B / seek ≤ 300 := Nat.le_trans (Nat.div_le_self _ _) hq1
  have hq3 : at' / B / seek * seek ≤ 300 := Nat.le_trans (Nat.div_mul_le_self _ _) hq1
  have e1 : (at' : Int).tdiv (B : Int) = ((at' / B : Nat) : Int) := by rw [Int.tdiv_eq_ediv_of_nonneg (Int.natCast_nonneg _)]; rfl
  have e2 : ((at' / B : Nat) : Int).tdiv (seek : Int) = ((at' / B / seek : Nat) : Int) := by rw [Int.tdiv_eq_ediv_of_nonneg (Int.natCast_nonneg _)]; rfl
  have e3 : ((at' / B / seek : Nat) : Int) * (seek : Int) = ((at' / B / seek * seek : Nat) : Int) := by rw [Int.natCast_mul]
  have n1 : ¬ (B : Int) = 0 := by omega
  have n2 : ¬ (seek : Int) = 0 := by omega
  have n3 : ((seek : Int) == 0) = false := by simp; omega
  have n4 : ¬ seek = 0 := by omega
  have hcp := hc _ hp
  clear hc hI hlow ho
  generalize at' / B / seek * seek = ns at *
  generalize at' / B / seek = p at *
  generalize at' / B = d1 at *
  generalize ps.getD p 0 = pp at *
  have w1 : IntKind.i64.wrap (d1 : Int) = (d1 : Int) := by rw [IntKind.wrap_i64]; omega
  have w2 : IntKind.i64.wrap (p : Int) = (p : Int) := by rw [IntKind.wrap_i64]; omega
  have w3 : IntKind.i64.wrap (ns : Int) = (ns : Int) := by rw [IntKind.wrap_i64]; omega
  have i0 : (0 : Int) ≤ (p : Int) := by omega
  have i1 : (p : Int) < (ps.length : Int) := by omega
  generalize ps.length = np at *
  unfold hdC
  have k0 : ((w.alloc (.cells #[.int .i64 c0, .int .i64 c1, .int .i64 B, .int .i64 c3, .int .i64 seek, .int .i64 s, .bool f, .int .i64 le, .int .i64 mo, .int .i64 su, .slice (some ⟨g, o, none⟩) np cap] 115))).cell? ⟨g, o + p, none⟩ = some (.int .i64 (pp : Int)) := (World.grownBy_alloc w _ none).cell hcp (by simp)
  go_enter Tryz.func100, Tryz.ntmps100
  go_wp2
  go_quiet (fail)
  go_wp2
  go_quiet (fail)
  go_wp2
  go_ret2
  exact ⟨rfl, below_drewN2 (below_drewN2 ((Below.refl _ _).alloc (Nat.le_refl _) _) _) _⟩
end Go.Proofs.YtlncjgnomhpjnaaGreatDoor

/-
  The program reads from a place on: stream.From, where it gives no samples.
-/
namespace Go.Proofs.YtlncjgnomhpjnaaGreatDoor
open Go.RowKit Go.Deep
set_option linter.unusedVariables false
/-- the block from which on frames are read, and where its frame begins -/
def stN (T : List UInt8) (a : Nat) : Nat := if dSe T = 0 then 0 else a / dBl T / dSe T * dSe T
def stB (T : List UInt8) (a : Nat) : Nat := if dSe T = 0 then 0 else (dPts T).getD (a / dBl T / dSe T) 0
/-- the frames from there on reach to the end -/
def FrmsP (T : List UInt8) (a : Nat) : Prop :=
  dSz T + stB T a ≤ T.length ∧ ∃ m, RunIs (dCh T) (dDe T) (dBl T) (dSa T) (stN T a) (T.drop (dSz T + stB T a)) m ∧ stN T a + m = nBlk (dSa T) (dBl T) ∧ offX (T.drop (dSz T + stB T a)) m = (T.drop (dSz T + stB T a)).length
open Classical in
/-- the error -/
noncomputable def frmE (T : List UInt8) (a : Int) : Int :=
  if T.length ≤ 9000 then (if HdP T ∧ dWh T = 1 then (if 0 ≤ a ∧ a ≤ dSa T then (if a = dSa T ∨ FrmsP T a.toNat then 0 else 6) else 3) else 7) else 4
/-- the samples -/
noncomputable def frmS (T : List UInt8) (a : Nat) (c j : Nat) : Int := smpL (dCh T) (dDe T) (dBl T) (dSa T) (stN T a) (T.drop (dSz T + stB T a)) (nBlk (dSa T) (dBl T) - stN T a) c (a - stN T a * dBl T + j)
/-- what From answers -/
def FrmAns (e : Ending) (w w' : World) (T : List UInt8) (a : Int) : Prop :=
  ((frmE T a = 0 ∧ ∃ v, e = .returned (.tuple #[v, .int .i64 0]) ∧ RowsL w.heap.size w' v (dCh T) (dSa T - a.toNat) (frmS T a.toNat))
   ∨ (frmE T a ≠ 0 ∧ e = .returned (.tuple #[.slice none 0 0, .int .i64 (frmE T a)]))) ∧ Below w.heap.size w w'
theorem frm_bad {w w' : World} {T : List UInt8} {a : Int} (E : Int) (h0 : E ≠ 0) (hE : frmE T a = E) (hb : Below w.heap.size w w') : FrmAns (.returned (.tuple #[.slice none 0 0, .int .i64 E])) w w' T a := ⟨.inr ⟨by rw [hE]; exact h0, by rw [hE]⟩, hb⟩
set_option maxRecDepth 4000 in
set_option maxHeartbeats 2000000 in
theorem streamFrom_head (T : List UInt8) (a : Int) (w : World) (hs : T.length ≤ 9000) (hp : ¬ (HdP T ∧ dWh T = 1)) :
    Calls Tryz.prog 54 #[.string (bs T), .int .i64 a] w fun e w' => FrmAns e w w' T a := by
  have HHR := Hid.mk' (fun u => headRead_any T u hs)
  have HBAD : Hid (∀ w', Below w.heap.size w w' → FrmAns (.returned (.tuple #[.slice none 0 0, .int .i64 7])) w w' T a) := fun w' hb => frm_bad 7 (by omega) (by unfold frmE; rw [if_pos hs, if_neg hp]) hb
  by_cases hy : HdP T
  · have HY := Hid.mk' hy
    have hw0 : decide (dWh T = 1) = false := decide_eq_false (fun h => hp ⟨hy, h⟩)
    have HW := Hid.mk' hw0
    clear hp hy hw0
    generalize bs T = SB at *
    go_enter Tryz.func54, Tryz.ntmps54
    go_wp2_with (first
      | (go_at_call 90; refine (HHR.out _).mono ?_; intro e u1 ho; obtain ⟨pa, pc, rfl, hown, hb⟩ := ho.yes HY.out HW.out; have HB1 := Hid.mk' hb; clear HHR ho hb hown))
    go_ret2
    exact HBAD.out _ (HB1.out.alloc HB1.out.size _)
  · have HY := Hid.mk' hy
    clear hp hy
    generalize bs T = SB at *
    go_enter Tryz.func54, Tryz.ntmps54
    go_wp2_with (first
      | (go_at_call 90; refine (HHR.out _).mono ?_; intro e u1 ho; obtain ⟨rfl, hb⟩ := ho.nothing HY.out; have HB1 := Hid.mk' hb; clear HHR ho hb))
    go_ret2
    exact HBAD.out _ (HB1.out.alloc HB1.out.size _)
set_option maxRecDepth 4000 in
set_option maxHeartbeats 2000000 in
theorem streamFrom_arg (T : List UInt8) (a : Int) (w : World) (hs : T.length ≤ 9000) (hp : HdP T) (hw : dWh T = 1) (ha : ¬ (0 ≤ a ∧ a ≤ dSa T)) :
    Calls Tryz.prog 54 #[.string (bs T), .int .i64 a] w fun e w' => FrmAns e w w' T a := by
  have HHR := Hid.mk' (fun u => headRead_any T u hs)
  have HBAD : Hid (∀ w', Below w.heap.size w w' → FrmAns (.returned (.tuple #[.slice none 0 0, .int .i64 3])) w w' T a) := fun w' hb => frm_bad 3 (by omega) (by unfold frmE; rw [if_pos hs, if_pos ⟨hp, hw⟩, if_neg ha]) hb
  have HWI := Hid.mk' (fun u => within_any a 0 (dSa T) u)
  have hwf : within a 0 (dSa T) = false := by
    rw [Bool.eq_false_iff, ne_eq, within_iff]
    exact ha
  rw [hwf] at HWI
  have HY := Hid.mk' hp
  have HW : Hid (decide (dWh T = 1) = true) := decide_eq_true hw
  clear hp hw ha hwf
  generalize bs T = SB at *
  go_enter Tryz.func54, Tryz.ntmps54
  go_wp2_with (first
    | (go_at_call 90; refine (HHR.out _).mono ?_; intro e u1 ho; obtain ⟨pa, pc, rfl, hown, hb⟩ := ho.yes HY.out HW.out; have HB1 := Hid.mk' hb; clear HHR ho hb hown)
    | (go_at_call 62; refine (HWI.out _).mono ?_; rintro e u2 ⟨rfl, hw⟩; subst u2; clear HWI))
  go_ret2
  exact HBAD.out _ (HB1.out.alloc HB1.out.size _)
/-- lists without samples -/
theorem rows_made (base n : Nat) (U : World) (H : Nat → Nat → Int) (hb : base ≤ U.heap.size) : RowsL base (U.alloc (.cells (madeCells #[.slice none 0 0] n) 29)) (.slice (some ⟨U.heap.size, 0, none⟩) n n) n 0 H :=
  ⟨U.heap.size, fun _ => .slice none 0 0, fun _ => none, rfl, hb, World.rowIs_made U (.slice none 0 0) n 29, fun c _ => ⟨.inl ⟨rfl, rfl, rfl⟩, fun q hq => by cases hq⟩, fun c c' _ _ _ q hq => by cases hq⟩
set_option maxRecDepth 4000 in
set_option maxHeartbeats 2000000 in
theorem streamFrom_end (T : List UInt8) (w : World) (hs : T.length ≤ 9000) (hp : HdP T) (hw : dWh T = 1) :
    Calls Tryz.prog 54 #[.string (bs T), .int .i64 (dSa T)] w fun e w' => FrmAns e w w' T (dSa T) := by
  obtain ⟨b1, b2, b3, b4, b5, b6, b7, b8, b9, b10, b11⟩ := hd_bd hp
  have HHR := Hid.mk' (fun u => headRead_any T u hs)
  have HE : Hid (frmE T (dSa T) = 0) := by
    show _ = _
    unfold frmE
    rw [if_pos hs, if_pos ⟨hp, hw⟩, if_pos ⟨by omega, by omega⟩, if_pos (.inl rfl)]
  have HWI := Hid.mk' (fun u => within_any (dSa T) 0 (dSa T) u)
  have hwf : within (dSa T) 0 (dSa T) = true := by
    rw [within_iff]
    omega
  rw [hwf] at HWI
  have hmk := run_make_row' (P := Tryz.prog) 24 29 (.slice none 0 0) 24 Tryz.underlying24 infoInts rfl .i64 .i64 (dCh T) (by omega) (by omega)
  have HY := Hid.mk' hp
  have HW : Hid (decide (dWh T = 1) = true) := decide_eq_true hw
  clear hp hw hwf
  generalize bs T = SB at *
  go_enter Tryz.func54, Tryz.ntmps54
  go_wp2_with (first
    | (go_at_call 90; refine (HHR.out _).mono ?_; intro e u1 ho; obtain ⟨pa, pc, rfl, hown, hb⟩ := ho.yes HY.out HW.out; have HB1 := Hid.mk' hb; clear HHR ho hb hown)
    | (go_at_call 62; refine (HWI.out _).mono ?_; rintro e u2 ⟨rfl, hw⟩; subst u2; clear HWI))
  have hU : (u1.alloc (.cells #[.int .i64 (dCh T), .int .i64 (dDe T), .int .i64 (dBl T), .int .i64 (dRa T), .int .i64 (dSe T), .int .i64 (dSa T), .bool true, .int .i64 (dLe T), .int .i64 (dMo T), .int .i64 (dSu T), .slice pa (dNp T) pc] 115)).heap.size = u1.heap.size + 1 := by simp
  have hrow := rows_made w.heap.size (dCh T) (u1.alloc (.cells #[.int .i64 (dCh T), .int .i64 (dDe T), .int .i64 (dBl T), .int .i64 (dRa T), .int .i64 (dSe T), .int .i64 (dSa T), .bool true, .int .i64 (dLe T), .int .i64 (dMo T), .int .i64 (dSu T), .slice pa (dNp T) pc] 115)) (frmS T (dSa T)) (by rw [hU]; have := HB1.out.size; omega)
  rw [hU] at hrow
  have HROW := Hid.mk' hrow
  go_ret2
  refine ⟨.inl ⟨HE.out, _, rfl, ?_⟩, (HB1.out.alloc HB1.out.size _).alloc (Nat.le_trans HB1.out.size (by simp)) _⟩
  have e : dSa T - ((dSa T : Nat) : Int).toNat = 0 := by omega
  rw [e]
  exact HROW.out
end Go.Proofs.YtlncjgnomhpjnaaGreatDoor

/-
  The program reads from a place on: stream.From, the frames (a draft).
-/
namespace Go.Proofs.YtlncjgnomhpjnaaGreatDoor
open Go.RowKit Go.Deep
set_option linter.unusedVariables false
/-- Start, as the head that was read wants it -/
theorem start_any (T : List UInt8) (a : Nat) (pv : Value) (base : Nat) (w : World) (hp : HdP T) (ha : a < dSa T) (ho : w.ownsRow base 3 1 pv (dPts T).length (pntV (dPts T))) :
    Calls Tryz.prog 100 #[.agg (hdC (dCh T) (dDe T) (dBl T) (dRa T) (dSe T) (dSa T) true (dLe T) (dMo T) (dSu T) pv), .int .i64 a] w fun e w' => e = .returned (.tuple #[.int .i64 (stN T a : Nat), .int .i64 (stB T a : Nat)]) ∧ Below w.heap.size w w' := by
  obtain ⟨b1, b2, b3, b4, b5, b6, b7, b8, b9, b10, b11⟩ := hd_bd hp
  unfold stN stB
  by_cases h0 : dSe T = 0
  · rw [if_pos h0, if_pos h0, h0]
    obtain ⟨x, c, rfl⟩ := own_form ho
    exact headStart_none _ _ _ _ _ _ _ _ _ _ _ _ _ w
  · rw [if_neg h0, if_neg h0]
    refine headStart_some (dCh T) (dDe T) (dRa T) (dSa T) (dBl T) (dSe T) true (dLe T) (dMo T) (dSu T) a (dPts T) pv base w b5 b6 (by omega) b8 (by omega) (by rw [dPts_length]; exact b9) ?_ ho
    rw [dPts_length]
    unfold dNp nPts
    rw [if_neg h0]
    have h1 : a / dBl T < nBlk (dSa T) (dBl T) := (nBlk_lt b5).2 (Nat.lt_of_le_of_lt (Nat.div_mul_le_self _ _) ha)
    exact (nBlk_lt (by omega)).2 (Nat.lt_of_le_of_lt (Nat.div_mul_le_self _ _) h1)
end Go.Proofs.YtlncjgnomhpjnaaGreatDoor

