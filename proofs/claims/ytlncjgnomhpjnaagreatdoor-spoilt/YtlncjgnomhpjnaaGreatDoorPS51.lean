import Derived.Test.YtlncjgnomhpjnaaGreatDoorPS50
import Derived.Test.YtlncjgnomhpjnaaGreatDoorPS35
import Derived.Test.YtlncjgnomhpjnaaGreatDoorPS27
import Derived.Test.YtlncjgnomhpjnaaGreatDoorPS15
import Derived.Test.YtlncjgnomhpjnaaGreatDoorPS26
import Derived.Test.YtlncjgnomhpjnaaGreatDoorPS21
import Derived.Test.YtlncjgnomhpjnaaGreatDoorPS46
import Derived.Test.YtlncjgnomhpjnaaGreatDoorPS48
import Derived.Test.YtlncjgnomhpjnaaGreatDoorPS34
import Derived.Deep.RegionHeld3
import Derived.Deep.DeepCutAuto
import Derived.Deep.RegionLaw
import Derived.BigQuiet
import Derived.Deep.QuietTactic
/-
  The program salvages: stream.Salvage.
-/
namespace Go.Proofs.YtlncjgnomhpjnaaGreatDoor
open Go.RowKit Go.Deep
set_option linter.unusedVariables false
/-- what Salvage answers -/
def SalAns (e : Ending) (w w' : World) (T : List UInt8) : Prop :=
  ((T.length ≤ 9000 ∧ HdP T ∧ ∃ m v, RunIs (dCh T) (dDe T) (dBl T) (dSa T) 0 (T.drop (dSz T)) m ∧ e = .returned (.tuple #[dInfo T, v, .int .i64 0]) ∧ RowsL w.heap.size w' v (dCh T) (chN (dBl T) (dSa T) 0 m) (smpL (dCh T) (dDe T) (dBl T) (dSa T) 0 (T.drop (dSz T)) m))
   ∨ (¬ (T.length ≤ 9000 ∧ HdP T) ∧ e = .returned (.tuple #[info0, .slice none 0 0, .int .i64 (if T.length ≤ 9000 then 7 else 4)]))) ∧ Below w.heap.size w w'
theorem res_sal (tmps : Array Value) (R : Nat) (v : Value) (k : Int) (cs : Array Value) (W : World) (h : Bx W R 46 cs) (hs : cs.size = 6) (h2 : tmps.getD 2 undef = .pointer (some ⟨R, 0, none⟩)) (h3 : tmps.getD 3 undef = v) (h4 : tmps.getD 4 undef = .int .i64 k) :
    (results Tryz.f53 tmps).run Tryz.prog W = .ok (.tuple #[.agg cs, v, .int .i64 k]) W := by
  have hl := run_loadVar_row (P := Tryz.prog) W R 46 46 cs (0, 0) _ h Tryz.underlying46 rfl (by rw [hs]; exact infoInf6)
  rw [Array.getD_eq_getD_getElem?] at h2 h3 h4
  simp [results, Tryz.results53, asAddr, h2, h3, h4, hl]
set_option maxRecDepth 4000 in
set_option maxHeartbeats 2000000 in
theorem streamSalvage_no (T : List UInt8) (w : World) (hs : T.length ≤ 9000) (hp : ¬ HdP T) :
    Calls Tryz.prog 53 #[.string (bs T)] w fun e w' => SalAns e w w' T := by
  have HHR := Hid.mk' (fun u => headRead_any T u hs)
  have HBAD : Hid (∀ w', Below w.heap.size w w' → SalAns (.returned (.tuple #[info0, .slice none 0 0, .int .i64 7])) w w' T) := fun w' hb => ⟨.inr ⟨fun h => hp h.2, by rw [if_pos hs]⟩, hb⟩
  have HZ0 : Hid (Bx (w.alloc (.cells #[.int .i64 0, .int .i64 0, .int .i64 0, .int .i64 0, .int .i64 0, .int .i64 0] 46)) w.heap.size 46 #[.int .i64 0, .int .i64 0, .int .i64 0, .int .i64 0, .int .i64 0, .int .i64 0]) := Bx.new _ _ _
  have HB0 : Hid (Below w.heap.size w (w.alloc (.cells #[.int .i64 0, .int .i64 0, .int .i64 0, .int .i64 0, .int .i64 0, .int .i64 0] 46))) := (Below.refl _ _).alloc (Nat.le_refl _) _
  have HY := Hid.mk' hp
  clear hp
  generalize bs T = SB at *
  go_enter Tryz.func53, Tryz.ntmps53
  go_wp2_with (first
    | (go_at_call 90; refine (HHR.out _).mono ?_; intro e u1 ho; obtain ⟨rfl, hb⟩ := ho.nothing HY.out; have HZ1 := Hid.mk' (HZ0.out.below hb); have HB1 := Hid.mk' (HB0.out.trans (hb.mono HB0.out.size)); clear HHR ho hb HZ0 HB0)
    | (refine wpList_storeRow rfl _ _ 46 rfl w.heap.size 46 _ _ rfl rfl (HZ1.out.alloc _) infoInf6 rfl rfl ?_))
  exact bodyPost_ret (res_sal _ w.heap.size _ 7 #[.int .i64 0, .int .i64 0, .int .i64 0, .int .i64 0, .int .i64 0, .int .i64 0] _ ((HZ1.out.alloc _).row _) rfl rfl rfl rfl) rfl (HBAD.out _ (below_row (HB1.out.alloc HB1.out.size _) (Nat.le_refl _) _))
theorem run_lists (a b c : Value) (u : World) : Sem.run Tryz.prog (Instr.field 119 (.agg #[a, b, c]) 0) u = .ok a u := by kernel_rfl
theorem ki_st6 {g q : Nat} {c0 c1 c2 c3 c4 c5 : Int} {s0 s1 s2 s3 s4 s5 : Value} {u : World} (hq : g ≠ q) (h : g < u.heap.size ∧ u.cell? ⟨g, 0, none⟩ = some (.int .i64 c0) ∧ u.cell? ⟨g, 1, none⟩ = some (.int .i64 c1) ∧ u.cell? ⟨g, 2, none⟩ = some (.int .i64 c2) ∧ u.cell? ⟨g, 3, none⟩ = some (.int .i64 c3) ∧ u.cell? ⟨g, 4, none⟩ = some (.int .i64 c4) ∧ u.cell? ⟨g, 5, none⟩ = some (.int .i64 c5)) : g < ((((((u.setCell ⟨q, 0, none⟩ s0).setCell ⟨q, 1, none⟩ s1).setCell ⟨q, 2, none⟩ s2).setCell ⟨q, 3, none⟩ s3).setCell ⟨q, 4, none⟩ s4).setCell ⟨q, 5, none⟩ s5).heap.size ∧ ((((((u.setCell ⟨q, 0, none⟩ s0).setCell ⟨q, 1, none⟩ s1).setCell ⟨q, 2, none⟩ s2).setCell ⟨q, 3, none⟩ s3).setCell ⟨q, 4, none⟩ s4).setCell ⟨q, 5, none⟩ s5).cell? ⟨g, 0, none⟩ = some (.int .i64 c0) ∧ ((((((u.setCell ⟨q, 0, none⟩ s0).setCell ⟨q, 1, none⟩ s1).setCell ⟨q, 2, none⟩ s2).setCell ⟨q, 3, none⟩ s3).setCell ⟨q, 4, none⟩ s4).setCell ⟨q, 5, none⟩ s5).cell? ⟨g, 1, none⟩ = some (.int .i64 c1) ∧ ((((((u.setCell ⟨q, 0, none⟩ s0).setCell ⟨q, 1, none⟩ s1).setCell ⟨q, 2, none⟩ s2).setCell ⟨q, 3, none⟩ s3).setCell ⟨q, 4, none⟩ s4).setCell ⟨q, 5, none⟩ s5).cell? ⟨g, 2, none⟩ = some (.int .i64 c2) ∧ ((((((u.setCell ⟨q, 0, none⟩ s0).setCell ⟨q, 1, none⟩ s1).setCell ⟨q, 2, none⟩ s2).setCell ⟨q, 3, none⟩ s3).setCell ⟨q, 4, none⟩ s4).setCell ⟨q, 5, none⟩ s5).cell? ⟨g, 3, none⟩ = some (.int .i64 c3) ∧ ((((((u.setCell ⟨q, 0, none⟩ s0).setCell ⟨q, 1, none⟩ s1).setCell ⟨q, 2, none⟩ s2).setCell ⟨q, 3, none⟩ s3).setCell ⟨q, 4, none⟩ s4).setCell ⟨q, 5, none⟩ s5).cell? ⟨g, 4, none⟩ = some (.int .i64 c4) ∧ ((((((u.setCell ⟨q, 0, none⟩ s0).setCell ⟨q, 1, none⟩ s1).setCell ⟨q, 2, none⟩ s2).setCell ⟨q, 3, none⟩ s3).setCell ⟨q, 4, none⟩ s4).setCell ⟨q, 5, none⟩ s5).cell? ⟨g, 5, none⟩ = some (.int .i64 c5) := by
  have hg := set6_grown u q s0 s1 s2 s3 s4 s5
  have e1 : ∀ j v, u.cell? ⟨g, j, none⟩ = some v → ((((((u.setCell ⟨q, 0, none⟩ s0).setCell ⟨q, 1, none⟩ s1).setCell ⟨q, 2, none⟩ s2).setCell ⟨q, 3, none⟩ s3).setCell ⟨q, 4, none⟩ s4).setCell ⟨q, 5, none⟩ s5).cell? ⟨g, j, none⟩ = some v := fun j v hv => hg.cell hv (by simpa using hq)
  exact ⟨Nat.lt_of_lt_of_le h.1 hg.size, e1 _ _ h.2.1, e1 _ _ h.2.2.1, e1 _ _ h.2.2.2.1, e1 _ _ h.2.2.2.2.1, e1 _ _ h.2.2.2.2.2.1, e1 _ _ h.2.2.2.2.2.2⟩
set_option maxRecDepth 4000 in
set_option maxHeartbeats 2000000 in
theorem streamSalvage_yes (T : List UInt8) (w : World) (hs : T.length ≤ 9000) (hp : HdP T) (hT : TabsU w) :
    Calls Tryz.prog 53 #[.string (bs T)] w fun e w' => SalAns e w w' T := by
  obtain ⟨b1, b2, b3, b4, b5, b6, b7, b8, b9, b10, b11⟩ := hd_bd hp
  have HHR := Hid.mk' (fun u => headRead_any T u hs)
  have HFR := Hid.mk' (fun (u : World) (hu : Below w.heap.size w u) => readFrames_any (dCh T) (dDe T) (dBl T) (dRa T) (dSe T) (dSa T) 0 (T.drop (dSz T)) u b3 b4 b1 b2 b5 b6 b7 (Nat.zero_le _) (by rw [List.length_drop]; omega) (hT.below hu))
  have HZ0 : Hid (Bx (w.alloc (.cells #[.int .i64 0, .int .i64 0, .int .i64 0, .int .i64 0, .int .i64 0, .int .i64 0] 46)) w.heap.size 46 #[.int .i64 0, .int .i64 0, .int .i64 0, .int .i64 0, .int .i64 0, .int .i64 0]) := Bx.new _ _ _
  have HB0 : Hid (Below w.heap.size w (w.alloc (.cells #[.int .i64 0, .int .i64 0, .int .i64 0, .int .i64 0, .int .i64 0, .int .i64 0] 46))) := (Below.refl _ _).alloc (Nat.le_refl _) _
  have HY := Hid.mk' hp
  obtain ⟨bw, hbw⟩ : ∃ b, decide (dWh T = 1) = b := ⟨_, rfl⟩
  have HBW := Hid.mk' hbw
  clear hbw
  have hz : (bs T).size = T.length := bs_size T
  have eS : (bs T).extract (dSz T) T.length = bs (T.drop (dSz T)) := by
    rw [bs_cut', List.take_of_length_le (by rw [List.length_drop]; exact Nat.le_refl _)]
  have i1 : ((dSz T : Nat) : Int) ≤ (T.length : Int) := by omega
  clear hp hT
  generalize bs (T.drop (dSz T)) = SX at *
  generalize bs T = SB at *
  go_enter Tryz.func53, Tryz.ntmps53
  go_wp2_with (first
    | (go_at_call 90; refine (HHR.out _).mono ?_; intro e u1 ho; obtain ⟨pa, pc, rfl, hown, hb⟩ := ho.yes HY.out HBW.out; have HZ1 := Hid.mk' (HZ0.out.below hb); have HB1 := Hid.mk' (HB0.out.trans (hb.mono HB0.out.size)); clear HHR ho hb HZ0 HB0 hown))
  have HZU := Hid.mk' (HZ1.out.alloc (.cells #[.int .i64 (dCh T), .int .i64 (dDe T), .int .i64 (dBl T), .int .i64 (dRa T), .int .i64 (dSe T), .int .i64 (dSa T), .bool bw, .int .i64 (dLe T), .int .i64 (dMo T), .int .i64 (dSu T), .slice pa (dNp T) pc] 115))
  have HHU := Hid.mk' (Bx.new u1 #[.int .i64 (dCh T), .int .i64 (dDe T), .int .i64 (dBl T), .int .i64 (dRa T), .int .i64 (dSe T), .int .i64 (dSa T), .bool bw, .int .i64 (dLe T), .int .i64 (dMo T), .int .i64 (dSu T), .slice pa (dNp T) pc] 115)
  have HBU := Hid.mk' (HB1.out.alloc HB1.out.size (.cells #[.int .i64 (dCh T), .int .i64 (dDe T), .int .i64 (dBl T), .int .i64 (dRa T), .int .i64 (dSe T), .int .i64 (dSa T), .bool bw, .int .i64 (dLe T), .int .i64 (dMo T), .int .i64 (dSu T), .slice pa (dNp T) pc] 115))
  have hHn : u1.heap.size ≠ w.heap.size := Nat.ne_of_gt HZ1.out.lt
  clear HZ1 HB1
  generalize hU : u1.alloc (.cells #[.int .i64 (dCh T), .int .i64 (dDe T), .int .i64 (dBl T), .int .i64 (dRa T), .int .i64 (dSe T), .int .i64 (dSa T), .bool bw, .int .i64 (dLe T), .int .i64 (dMo T), .int .i64 (dSu T), .slice pa (dNp T) pc] 115) = U at *
  clear hU
  generalize u1.heap.size = H at *
  have hrl := fun (a b c : Value) (u : World) => run_lists a b c u
  have hS0 : H < U.drew.heap.size ∧ U.drew.cell? ⟨H, 0, none⟩ = some (.int .i64 (dCh T)) ∧ U.drew.cell? ⟨H, 1, none⟩ = some (.int .i64 (dDe T)) ∧ U.drew.cell? ⟨H, 2, none⟩ = some (.int .i64 (dBl T)) ∧ U.drew.cell? ⟨H, 3, none⟩ = some (.int .i64 (dRa T)) ∧ U.drew.cell? ⟨H, 4, none⟩ = some (.int .i64 (dSe T)) ∧ U.drew.cell? ⟨H, 5, none⟩ = some (.int .i64 (dSa T)) := ⟨HHU.out.lt, HHU.out.cell 0, HHU.out.cell 1, HHU.out.cell 2, HHU.out.cell 3, HHU.out.cell 4, HHU.out.cell 5⟩
  go_region_held3 (fun w' => H < w'.heap.size ∧ w'.cell? ⟨H, 0, none⟩ = some (.int .i64 (dCh T)) ∧ w'.cell? ⟨H, 1, none⟩ = some (.int .i64 (dDe T)) ∧ w'.cell? ⟨H, 2, none⟩ = some (.int .i64 (dBl T)) ∧ w'.cell? ⟨H, 3, none⟩ = some (.int .i64 (dRa T)) ∧ w'.cell? ⟨H, 4, none⟩ = some (.int .i64 (dSe T)) ∧ w'.cell? ⟨H, 5, none⟩ = some (.int .i64 (dSa T))) (first | with_reducible exact hS0 | with_reducible exact hS1 | with_reducible exact ki_st6 hHn hS1)
    (first
    | (go_at_call 91; refine (HFR.out _ HBU.out.drew).mono ?_; intro e u2 ho; obtain ⟨m, gl, la, lc, bf, rfl, hfl, hri, hrow, hl, hb⟩ := ho.all; have hb2 : Below U.heap.size U u2 := ⟨hb.os, hb.tape, hb.output, hb.size, hb.block⟩; have hS1 : H < u2.heap.size ∧ u2.cell? ⟨H, 0, none⟩ = some (.int .i64 (dCh T)) ∧ u2.cell? ⟨H, 1, none⟩ = some (.int .i64 (dDe T)) ∧ u2.cell? ⟨H, 2, none⟩ = some (.int .i64 (dBl T)) ∧ u2.cell? ⟨H, 3, none⟩ = some (.int .i64 (dRa T)) ∧ u2.cell? ⟨H, 4, none⟩ = some (.int .i64 (dSe T)) ∧ u2.cell? ⟨H, 5, none⟩ = some (.int .i64 (dSa T)) := ki_below hb hS0; have HROW := Hid.mk' (hrow.mono (show w.heap.size + 1 ≤ _ from HZU.out.lt)); have HRI := Hid.mk' hri; have HZ2 := Hid.mk' (HZU.out.below hb2); have HB2 := Hid.mk' (HBU.out.trans (hb2.mono HBU.out.size)); obtain ⟨q0, q1, q2, q3, q4, q5, z0, z1, z2, z3, z4, z5⟩ := six_of_blk HZ2.out; clear HFR ho hb hb2 hfl hri hrow hl hS0))
  go_wp2_with fail
  have HL := Hid.mk' (And.intro hs HY.out)
  refine bodyPost_ret (res_sal _ w.heap.size (.slice (some ⟨gl, 0, none⟩) (dCh T) (dCh T)) 0 #[.int .i64 (dCh T), .int .i64 (dDe T), .int .i64 (dBl T), .int .i64 (dRa T), .int .i64 (dSe T), .int .i64 (dSa T)] _ (HZ2.out.set6 _ _ _ _ _ _) rfl rfl rfl rfl) rfl ⟨.inl ⟨HL.out.1, HL.out.2, m, _, HRI.out, rfl, ?_⟩, set6_below HB2.out (Nat.le_refl _)⟩
  exact (HROW.out.grown (set6_grown u2 w.heap.size _ _ _ _ _ _) (Nat.lt_succ_self _)).mono (Nat.le_succ _)
end Go.Proofs.YtlncjgnomhpjnaaGreatDoor

/-
  Salvage: reel.Salvage, reelref.Salvage.
-/
namespace Go.Proofs.YtlncjgnomhpjnaaGreatDoor
open Go.RowKit Go.Deep
set_option linter.unusedVariables false
theorem SalAns.yes {e : Ending} {w w' : World} {T : List UInt8} (h : SalAns e w w' T) (hy : T.length ≤ 9000 ∧ HdP T) : ∃ m gl, RunIs (dCh T) (dDe T) (dBl T) (dSa T) 0 (T.drop (dSz T)) m ∧ e = .returned (.tuple #[.agg #[.int .i64 (dCh T), .int .i64 (dDe T), .int .i64 (dBl T), .int .i64 (dRa T), .int .i64 (dSe T), .int .i64 (dSa T)], .slice (some ⟨gl, 0, none⟩) (dCh T) (dCh T), .int .i64 0]) ∧ RowsL w.heap.size w' (.slice (some ⟨gl, 0, none⟩) (dCh T) (dCh T)) (dCh T) (chN (dBl T) (dSa T) 0 m) (smpL (dCh T) (dDe T) (dBl T) (dSa T) 0 (T.drop (dSz T)) m) ∧ Below w.heap.size w w' := by
  rcases h with ⟨⟨-, -, m, v, h1, rfl, h3⟩ | ⟨hno, -⟩, hb⟩
  · obtain ⟨g, A, C, rfl, -⟩ := h3.open
    exact ⟨m, g, h1, rfl, h3, hb⟩
  · exact absurd hy hno
theorem SalAns.nothing {e : Ending} {w w' : World} {T : List UInt8} (h : SalAns e w w' T) (hn : ¬ (T.length ≤ 9000 ∧ HdP T)) : e = .returned (.tuple #[.agg #[.int .i64 0, .int .i64 0, .int .i64 0, .int .i64 0, .int .i64 0, .int .i64 0], .slice none 0 0, .int .i64 (if T.length ≤ 9000 then 7 else 4)]) ∧ Below w.heap.size w w' := by
  rcases h with ⟨⟨h1, h2, -⟩ | ⟨-, he⟩, hb⟩
  · exact absurd ⟨h1, h2⟩ hn
  · exact ⟨he, hb⟩
theorem streamSalvage_any (T : List UInt8) (w : World) (hs : T.length ≤ 9000) (hT : TabsU w) : Calls Tryz.prog 53 #[.string (bs T)] w fun e w' => SalAns e w w' T := by
  by_cases hp : HdP T
  · exact streamSalvage_yes T w hs hp hT
  · exact streamSalvage_no T w hs hp
theorem res_rsal (tmps : Array Value) (R : Nat) (v : Value) (k : Int) (cs : Array Value) (W : World) (h : Bx W R 46 cs) (hs : cs.size = 6) (h2 : tmps.getD 2 undef = .pointer (some ⟨R, 0, none⟩)) (h3 : tmps.getD 3 undef = v) (h4 : tmps.getD 4 undef = .int .i64 k) :
    (results Tryz.f25 tmps).run Tryz.prog W = .ok (.tuple #[.agg cs, v, .int .i64 k]) W := by
  have hl := run_loadVar_row (P := Tryz.prog) W R 46 46 cs (0, 0) _ h Tryz.underlying46 rfl (by rw [hs]; exact infoInf6)
  rw [Array.getD_eq_getD_getElem?] at h2 h3 h4
  simp [results, Tryz.results25, asAddr, h2, h3, h4, hl]
set_option maxRecDepth 4000 in
set_option maxHeartbeats 2000000 in
theorem reelSalvage_any (T : List UInt8) (w : World) (hs : T.length ≤ 9223372036854775807) (hT : TabsU w) :
    Calls Tryz.prog 25 #[.string (bs T)] w fun e w' => SalAns e w w' T := by
  have hz : (bs T).size = T.length := bs_size T
  have HZ0 : Hid (Bx (w.alloc (.cells #[.int .i64 0, .int .i64 0, .int .i64 0, .int .i64 0, .int .i64 0, .int .i64 0] 46)) w.heap.size 46 #[.int .i64 0, .int .i64 0, .int .i64 0, .int .i64 0, .int .i64 0, .int .i64 0]) := Bx.new _ _ _
  have HB0 : Hid (Below w.heap.size w (w.alloc (.cells #[.int .i64 0, .int .i64 0, .int .i64 0, .int .i64 0, .int .i64 0, .int .i64 0] 46))) := (Below.refl _ _).alloc (Nat.le_refl _) _
  by_cases hl : T.length ≤ 9000
  · have HSD := Hid.mk' (streamSalvage_any T _ hl (hT.below HB0.out))
    clear hT
    by_cases h0 : HdP T
    · have HY := Hid.mk' (And.intro hl h0)
      clear h0
      generalize bs T = SB at *
      go_enter Tryz.func25, Tryz.ntmps25
      go_wp2_with (first
        | (go_at_call 53; refine HSD.out.mono ?_; intro e u1 ho; obtain ⟨m, gl, hri, rfl, hrow, hb⟩ := ho.yes HY.out; have HRI := Hid.mk' hri; have HROW := Hid.mk' hrow; have HZ1 := Hid.mk' (HZ0.out.below hb); have HB1 := Hid.mk' (HB0.out.trans (hb.mono HB0.out.size)); clear hri hrow hb HSD HZ0 HB0 ho)
        | (refine wpList_storeRow rfl _ _ 46 rfl w.heap.size 46 _ _ rfl rfl HZ1.out infoInf6 rfl rfl ?_))
      refine bodyPost_ret (res_rsal _ w.heap.size (.slice (some ⟨gl, 0, none⟩) (dCh T) (dCh T)) 0 #[.int .i64 (dCh T), .int .i64 (dDe T), .int .i64 (dBl T), .int .i64 (dRa T), .int .i64 (dSe T), .int .i64 (dSa T)] _ (HZ1.out.row _) rfl rfl rfl rfl) rfl ⟨.inl ⟨HY.out.1, HY.out.2, m, _, HRI.out, rfl, ?_⟩, below_row HB1.out (Nat.le_refl _) _⟩
      exact (HROW.out.grown (grown_row u1 w.heap.size _) (by simp)).mono (by simp)
    · have HN : Hid (¬ (T.length ≤ 9000 ∧ HdP T)) := fun h => h0 h.2
      have HBAD : Hid (∀ w', Below w.heap.size w w' → SalAns (.returned (.tuple #[info0, .slice none 0 0, .int .i64 7])) w w' T) := fun w' hb => ⟨.inr ⟨HN.out, by rw [if_pos hl]⟩, hb⟩
      have HAN : Hid (∀ e u u', SalAns e u u' T → e = .returned (.tuple #[.agg #[.int .i64 0, .int .i64 0, .int .i64 0, .int .i64 0, .int .i64 0, .int .i64 0], .slice none 0 0, .int .i64 7]) ∧ Below u.heap.size u u') := fun e u u' h => by
        have := h.nothing HN.out
        rw [if_pos hl] at this
        exact this
      clear h0
      generalize bs T = SB at *
      go_enter Tryz.func25, Tryz.ntmps25
      go_wp2_with (first
        | (go_at_call 53; refine HSD.out.mono ?_; intro e u1 ho; obtain ⟨rfl, hb⟩ := HAN.out _ _ _ ho; have HZ1 := Hid.mk' (HZ0.out.below hb); have HB1 := Hid.mk' (HB0.out.trans (hb.mono HB0.out.size)); clear hb HSD HZ0 HB0 ho)
        | (refine wpList_storeRow rfl _ _ 46 rfl w.heap.size 46 _ _ rfl rfl HZ1.out infoInf6 rfl rfl ?_))
      exact bodyPost_ret (res_rsal _ w.heap.size _ 7 #[.int .i64 0, .int .i64 0, .int .i64 0, .int .i64 0, .int .i64 0, .int .i64 0] _ (HZ1.out.row _) rfl rfl rfl rfl) rfl (HBAD.out _ (below_row HB1.out (Nat.le_refl _) _))
  · have HBAD : Hid (∀ w', Below w.heap.size w w' → SalAns (.returned (.tuple #[info0, .slice none 0 0, .int .i64 4])) w w' T) := fun w' hb => ⟨.inr ⟨fun h => hl h.1, by rw [if_neg hl]⟩, hb⟩
    have hl2 : 9000 < T.length := by omega
    clear hT
    generalize bs T = SB at *
    go_enter Tryz.func25, Tryz.ntmps25
    go_wp2_with (first
      | (refine wpList_storeRow rfl _ _ 46 rfl w.heap.size 46 _ _ rfl rfl HZ0.out infoInf6 rfl rfl ?_))
    exact bodyPost_ret (res_rsal _ w.heap.size _ 4 #[.int .i64 0, .int .i64 0, .int .i64 0, .int .i64 0, .int .i64 0, .int .i64 0] _ (HZ0.out.row _) rfl rfl rfl rfl) rfl (HBAD.out _ (below_row HB0.out (Nat.le_refl _) _))
end Go.Proofs.YtlncjgnomhpjnaaGreatDoor

/-
  A stream that was made is read as its sound.
-/
namespace Go.Proofs.YtlncjgnomhpjnaaGreatDoor
open Go.RowKit Go.Deep
set_option linter.unusedVariables false
/-- a configuration and a sound of it -/
structure KP (d n B c3 c4 S : Nat) (F : Nat → Nat → Int) : Prop where
  d4 : 4 ≤ d
  d12 : d ≤ 12
  n1 : 1 ≤ n
  n4 : n ≤ 4
  B1 : 1 ≤ B
  B32 : B ≤ 32
  c3b : c3 < 65536
  c4b : c4 < 256
  S3 : S ≤ 300
  fit : ∀ i, i < n → ∀ j, j < S → fitsB d (F i j) = true
theorem KP.blk {d n B c3 c4 S : Nat} {F : Nat → Nat → Int} (h : KP d n B c3 c4 S F) {k : Nat} (hk : k < nBlk S B) : ∀ i, i < n → ∀ j, j < blkN S B k → fitsB d (blkF F B k i j) = true := fun i hi j hj => by
  have := blkN_bd h.B1 hk
  exact h.fit i hi (k * B + j) (by omega)
theorem KP.nb {d n B c3 c4 S : Nat} {F : Nat → Nat → Int} (h : KP d n B c3 c4 S F) : nBlk S B ≤ 300 := Nat.le_trans (nBlk_le h.B1) h.S3
/-- the frames from one on -/
def tlX (d n : Nat) (F : Nat → Nat → Int) (S B k : Nat) : List UInt8 := (frsT d n F S B (nBlk S B)).drop (frsT d n F S B k).length
theorem frs_pre (d n : Nat) (F : Nat → Nat → Int) (S B k : Nat) : ∀ j, ∃ Z, frsT d n F S B (k + j) = frsT d n F S B k ++ Z
  | 0 => ⟨[], by rw [List.append_nil]; rfl⟩
  | j + 1 => by
    obtain ⟨Z, hZ⟩ := frs_pre d n F S B k j
    exact ⟨Z ++ frT d n F S B (k + j), by show frsT d n F S B (k + j) ++ frT d n F S B (k + j) = _; rw [hZ, List.append_assoc]⟩
theorem tl_step {d n : Nat} {F : Nat → Nat → Int} {S B k : Nat} (hk : k < nBlk S B) : tlX d n F S B k = frT d n F S B k ++ tlX d n F S B (k + 1) := by
  obtain ⟨Z, hZ⟩ := frs_pre d n F S B (k + 1) (nBlk S B - (k + 1))
  rw [Nat.add_sub_cancel' hk] at hZ
  have e : frsT d n F S B (k + 1) = frsT d n F S B k ++ frT d n F S B k := rfl
  unfold tlX
  rw [hZ, List.drop_left, e, List.append_assoc, List.drop_left]
theorem tl_zero (d n : Nat) (F : Nat → Nat → Int) (S B : Nat) : tlX d n F S B 0 = frsT d n F S B (nBlk S B) := rfl
/-- the points -/
theorem nat_ext {a b : Nat} (h : ∀ j, j < a ↔ j < b) : a = b := by
  have h1 := h a
  have h2 := h b
  omega
theorem pntN_all (ln : Nat → Nat) {s : Nat} (hs : 1 ≤ s) : ∀ k, pntN ln s k = (List.range (nBlk k s)).map fun i => atN ln (i * s)
  | 0 => by
    have e : nBlk 0 s = 0 := nat_ext fun j => by rw [nBlk_lt hs]; omega
    rw [e]; rfl
  | k + 1 => by
    unfold pntN
    by_cases h : k % s = 0
    · have hq : k / s * s = k := Nat.div_mul_cancel (Nat.dvd_of_mod_eq_zero h)
      generalize k / s = q at hq
      have e1 : nBlk k s = q := nat_ext fun j => by rw [nBlk_lt hs, ← hq]; exact Nat.mul_lt_mul_right hs
      have e2 : nBlk (k + 1) s = q + 1 := nat_ext fun j => by
        rw [nBlk_lt hs, ← hq, Nat.lt_succ_iff, Nat.lt_succ_iff]
        exact Nat.mul_le_mul_right_iff hs
      rw [if_pos ⟨hs, h⟩, pntN_all ln hs k, e1, e2, List.range_succ, List.map_append, List.map_cons, List.map_nil, hq]
    · have e1 : nBlk (k + 1) s = nBlk k s := nat_ext fun j => by
        rw [nBlk_lt hs, nBlk_lt hs]
        have : j * s ≠ k := fun e => h (by rw [← e]; exact Nat.mul_mod_left _ _)
        omega
      rw [if_neg (fun hh => h hh.2), pntN_all ln hs k, e1]
theorem pntN_zero (ln : Nat → Nat) : ∀ k, pntN ln 0 k = []
  | 0 => rfl
  | k + 1 => by
    unfold pntN
    rw [if_neg (fun h => by omega)]
    exact pntN_zero ln k
theorem pntN_size (ln : Nat → Nat) (S B s : Nat) : (pntN ln s (nBlk S B)).length = nPts S B s := by
  unfold nPts
  by_cases h : s = 0
  · rw [if_pos h, h, pntN_zero]; rfl
  · rw [if_neg h, pntN_all ln (by omega), List.length_map, List.length_range]
theorem atN_frs (d n : Nat) (F : Nat → Nat → Int) (S B : Nat) : ∀ k, atN (lnF d n F S B) k = (frsT d n F S B k).length
  | 0 => rfl
  | k + 1 => by
    show atN (lnF d n F S B) k + _ = (frsT d n F S B k ++ frT d n F S B k).length
    rw [atN_frs d n F S B k, List.length_append]
    rfl
/-- the numbers of a head, all of them -/
theorem headTx_all (wh c0 c1 c2 c3 s c4 le mo su : Nat) (ps : List Nat) (R : List UInt8) (h0 : wh < 256) (h1 : c0 < 256) (h2 : c1 < 256) (h3 : c2 < 256) (h4 : c3 < 65536) (h5 : s < 65536) (h6 : c4 < 256) (hle : le < 65536) (hmo : mo < 65536) (hsu : su < 4294967296) :
    dWh (headTx wh c0 c1 c2 c3 s c4 le mo su ps ++ R) = wh ∧ dCh (headTx wh c0 c1 c2 c3 s c4 le mo su ps ++ R) = c0 ∧ dDe (headTx wh c0 c1 c2 c3 s c4 le mo su ps ++ R) = c1 ∧ dBl (headTx wh c0 c1 c2 c3 s c4 le mo su ps ++ R) = c2 ∧ dRa (headTx wh c0 c1 c2 c3 s c4 le mo su ps ++ R) = c3 ∧ dSa (headTx wh c0 c1 c2 c3 s c4 le mo su ps ++ R) = s ∧ dSe (headTx wh c0 c1 c2 c3 s c4 le mo su ps ++ R) = c4 ∧ dLe (headTx wh c0 c1 c2 c3 s c4 le mo su ps ++ R) = le ∧ dMo (headTx wh c0 c1 c2 c3 s c4 le mo su ps ++ R) = mo ∧ dSu (headTx wh c0 c1 c2 c3 s c4 le mo su ps ++ R) = su := by
  have hhl := headTx_length wh c0 c1 c2 c3 s c4 le mo su ps
  have hF : ∀ a b, a ≤ b → b ≤ 19 → pieceT (headTx wh c0 c1 c2 c3 s c4 le mo su ps ++ R) a b = pieceT (fieldsT wh c0 c1 c2 c3 s c4 le mo su) a b := fun a b h1 h2 => by
    have hl := fieldsT_length wh c0 c1 c2 c3 s c4 le mo su
    rw [piece_left _ _ a b h1 (by omega)]
    unfold headTx seal16
    rw [piece_left _ _ a b h1 (by rw [List.length_append, seal8_length]; omega), piece_left _ _ a b h1 (by rw [seal8_length]; omega)]
    unfold seal8
    rw [piece_left _ _ a b h1 (by omega)]
  obtain ⟨f1, f2, f3⟩ := headTx_fld wh c0 c1 c2 c3 s c4 le mo su ps hle hmo hsu
  have hG : ∀ a b, a ≤ b → b ≤ 19 → fld (headTx wh c0 c1 c2 c3 s c4 le mo su ps ++ R) a b = fld (headTx wh c0 c1 c2 c3 s c4 le mo su ps) a b := fun a b h1 h2 => by
    unfold fld
    rw [piece_left _ _ a b h1 (by omega)]
  have hq : ∀ a b x, a ≤ b → b ≤ 19 → valN (pieceT (fieldsT wh c0 c1 c2 c3 s c4 le mo su) a b) = x → fld (headTx wh c0 c1 c2 c3 s c4 le mo su ps ++ R) a b = x := fun a b x h1 h2 h3 => by
    unfold fld
    rw [hF a b h1 h2]; exact h3
  refine ⟨hq 2 3 _ (by omega) (by omega) ?_, hq 3 4 _ (by omega) (by omega) ?_, hq 4 5 _ (by omega) (by omega) ?_, hq 5 6 _ (by omega) (by omega) ?_, hq 6 8 _ (by omega) (by omega) ?_, hq 8 10 _ (by omega) (by omega) ?_, hq 10 11 _ (by omega) (by omega) ?_, (hG 11 13 (by omega) (by omega)).trans f1, (hG 13 15 (by omega) (by omega)).trans f2, (hG 15 19 (by omega) (by omega)).trans f3⟩
  all_goals unfold fieldsT
  · rw [piece_left _ _ 2 3 (by omega) (by simp [inT_length]), piece_left _ _ 2 3 (by omega) (by simp [inT_length]), piece_left _ _ 2 3 (by omega) (by simp [inT_length]), piece_left _ _ 2 3 (by omega) (by simp [inT_length]), piece_left _ _ 2 3 (by omega) (by simp [inT_length]), piece_left _ _ 2 3 (by omega) (by simp [inT_length]), piece_left _ _ 2 3 (by omega) (by simp [inT_length]), piece_left _ _ 2 3 (by omega) (by simp [inT_length]), piece_left _ _ 2 3 (by omega) (by simp [inT_length]), piece_right _ _ 2 3 (by simp)]
    exact (congrArg valN (piece_whole _ _ (by rw [inT_length]; rfl))).trans (valN_inT 1 _ (by omega))
  · rw [piece_left _ _ 3 4 (by omega) (by simp [inT_length]), piece_left _ _ 3 4 (by omega) (by simp [inT_length]), piece_left _ _ 3 4 (by omega) (by simp [inT_length]), piece_left _ _ 3 4 (by omega) (by simp [inT_length]), piece_left _ _ 3 4 (by omega) (by simp [inT_length]), piece_left _ _ 3 4 (by omega) (by simp [inT_length]), piece_left _ _ 3 4 (by omega) (by simp [inT_length]), piece_left _ _ 3 4 (by omega) (by simp [inT_length]), piece_right _ _ 3 4 (by simp [inT_length])]
    simp only [List.length_append, inT_length, List.length_cons, List.length_nil]
    exact (congrArg valN (piece_whole _ _ (by rw [inT_length]))).trans (valN_inT 1 _ (by omega))
  · rw [piece_left _ _ 4 5 (by omega) (by simp [inT_length]), piece_left _ _ 4 5 (by omega) (by simp [inT_length]), piece_left _ _ 4 5 (by omega) (by simp [inT_length]), piece_left _ _ 4 5 (by omega) (by simp [inT_length]), piece_left _ _ 4 5 (by omega) (by simp [inT_length]), piece_left _ _ 4 5 (by omega) (by simp [inT_length]), piece_left _ _ 4 5 (by omega) (by simp [inT_length]), piece_right _ _ 4 5 (by simp [inT_length])]
    simp only [List.length_append, inT_length, List.length_cons, List.length_nil]
    exact (congrArg valN (piece_whole _ _ (by rw [inT_length]))).trans (valN_inT 1 _ (by omega))
  · rw [piece_left _ _ 5 6 (by omega) (by simp [inT_length]), piece_left _ _ 5 6 (by omega) (by simp [inT_length]), piece_left _ _ 5 6 (by omega) (by simp [inT_length]), piece_left _ _ 5 6 (by omega) (by simp [inT_length]), piece_left _ _ 5 6 (by omega) (by simp [inT_length]), piece_left _ _ 5 6 (by omega) (by simp [inT_length]), piece_right _ _ 5 6 (by simp [inT_length])]
    simp only [List.length_append, inT_length, List.length_cons, List.length_nil]
    exact (congrArg valN (piece_whole _ _ (by rw [inT_length]))).trans (valN_inT 1 _ (by omega))
  · rw [piece_left _ _ 6 8 (by omega) (by simp [inT_length]), piece_left _ _ 6 8 (by omega) (by simp [inT_length]), piece_left _ _ 6 8 (by omega) (by simp [inT_length]), piece_left _ _ 6 8 (by omega) (by simp [inT_length]), piece_left _ _ 6 8 (by omega) (by simp [inT_length]), piece_right _ _ 6 8 (by simp [inT_length])]
    simp only [List.length_append, inT_length, List.length_cons, List.length_nil]
    exact (congrArg valN (piece_whole _ _ (by rw [inT_length]))).trans (valN_inT 2 _ (by omega))
  · rw [piece_left _ _ 8 10 (by omega) (by simp [inT_length]), piece_left _ _ 8 10 (by omega) (by simp [inT_length]), piece_left _ _ 8 10 (by omega) (by simp [inT_length]), piece_left _ _ 8 10 (by omega) (by simp [inT_length]), piece_right _ _ 8 10 (by simp [inT_length])]
    simp only [List.length_append, inT_length, List.length_cons, List.length_nil]
    exact (congrArg valN (piece_whole _ _ (by rw [inT_length]))).trans (valN_inT 2 _ (by omega))
  · rw [piece_left _ _ 10 11 (by omega) (by simp [inT_length]), piece_left _ _ 10 11 (by omega) (by simp [inT_length]), piece_left _ _ 10 11 (by omega) (by simp [inT_length]), piece_right _ _ 10 11 (by simp [inT_length])]
    simp only [List.length_append, inT_length, List.length_cons, List.length_nil]
    exact (congrArg valN (piece_whole _ _ (by rw [inT_length]))).trans (valN_inT 1 _ (by omega))
end Go.Proofs.YtlncjgnomhpjnaaGreatDoor

