import Derived.Test.YtlncjgnomhpjnabGreatDoorQU35
import Derived.Test.YtlncjgnomhpjnabGreatDoorQU23
import Derived.Test.YtlncjgnomhpjnabGreatDoorQU30
import Derived.Deep.RegionHeld3
import Derived.Deep.DeepCutAuto
import Derived.BigQuiet
import Derived.Deep.QuietTactic
/-
  The program reads a head's fields: head.readFields.
-/
namespace Go.Proofs.YtlncjgnomhpjnabGreatDoor
open Go.RowKit Go.Deep
set_option linter.unusedVariables false
theorem infoHd11 : (Tryz.prog.info? 110).map (·.size) = some 11 := by kernel_rfl
theorem res_rf (tmps : Array Value) (R : Nat) (b : Bool) (cs : Array Value) (W : World) (h : Bx W R 110 cs) (hs : cs.size = 11) (h2 : tmps.getD 2 undef = .pointer (some ⟨R, 0, none⟩)) (h3 : tmps.getD 3 undef = .bool b) :
    (results Tryz.f133 tmps).run Tryz.prog W = .ok (.tuple #[.agg cs, .bool b]) W := by
  have hl := run_loadVar_row (P := Tryz.prog) W R 110 110 cs (0, 0) _ h Tryz.underlying110 rfl (by rw [hs]; exact infoHd11)
  rw [Array.getD_eq_getD_getElem?] at h2 h3
  simp [results, Tryz.results133, asAddr, h2, h3, hl]
set_option maxRecDepth 4000 in
set_option maxHeartbeats 2000000 in
theorem readFields_any (T : List UInt8) (w : World) (h22 : 20 ≤ T.length) (hs : T.length ≤ 9000) :
    Calls Tryz.prog 133 #[.string (bs T)] w fun e w' => e = .returned (.tuple #[.agg (hdC (dCh T) (dDe T) (dBl T) (dRa T) (dSe T) (dSa T) (decide (dWh T = 1)) (dLe T) (dMo T) (dSu T) (.slice none 0 0)), .bool (decide (T.take 2 = [82, 76]) && (decide (dWh T ≤ 1) && infoB (dCh T) (dDe T) (dBl T) (dRa T) (dSe T) (dSa T)))]) ∧ Below w.heap.size w w' := by
  have hz : (bs T).size = T.length := bs_size T
  have HV0 : Hid (∀ u a b, b - a ≤ 4 → a ≤ b → b ≤ T.length → Calls Tryz.prog 203 #[.string (bs (pieceT T a b))] u fun e w' => e = .returned (.int .i64 (fld T a b)) ∧ w' = u) := fun u a b h1 h2 h3 => value_any (pieceT T a b) u (by rw [pieceT_length _ _ _ h3 h2]; exact h1)
  have V2 : Hid (∀ u, Calls Tryz.prog 203 #[.string (bs (pieceT T 2 3))] u fun e w' => e = .returned (.int .i64 (dWh T)) ∧ w' = u) := fun u => HV0.out u 2 3 (by omega) (by omega) (by omega)
  have V3 : Hid (∀ u, Calls Tryz.prog 203 #[.string (bs (pieceT T 3 4))] u fun e w' => e = .returned (.int .i64 (dCh T)) ∧ w' = u) := fun u => HV0.out u 3 4 (by omega) (by omega) (by omega)
  have V4 : Hid (∀ u, Calls Tryz.prog 203 #[.string (bs (pieceT T 4 5))] u fun e w' => e = .returned (.int .i64 (dDe T)) ∧ w' = u) := fun u => HV0.out u 4 5 (by omega) (by omega) (by omega)
  have V5 : Hid (∀ u, Calls Tryz.prog 203 #[.string (bs (pieceT T 5 6))] u fun e w' => e = .returned (.int .i64 (dBl T)) ∧ w' = u) := fun u => HV0.out u 5 6 (by omega) (by omega) (by omega)
  have V6 : Hid (∀ u, Calls Tryz.prog 203 #[.string (bs (pieceT T 6 8))] u fun e w' => e = .returned (.int .i64 (dRa T)) ∧ w' = u) := fun u => HV0.out u 6 8 (by omega) (by omega) (by omega)
  have V8 : Hid (∀ u, Calls Tryz.prog 203 #[.string (bs (pieceT T 8 10))] u fun e w' => e = .returned (.int .i64 (dSa T)) ∧ w' = u) := fun u => HV0.out u 8 10 (by omega) (by omega) (by omega)
  have V10 : Hid (∀ u, Calls Tryz.prog 203 #[.string (bs (pieceT T 10 11))] u fun e w' => e = .returned (.int .i64 (dSe T)) ∧ w' = u) := fun u => HV0.out u 10 11 (by omega) (by omega) (by omega)
  have V11 : Hid (∀ u, Calls Tryz.prog 203 #[.string (bs (pieceT T 11 13))] u fun e w' => e = .returned (.int .i64 (dLe T)) ∧ w' = u) := fun u => HV0.out u 11 13 (by omega) (by omega) (by omega)
  have V13 : Hid (∀ u, Calls Tryz.prog 203 #[.string (bs (pieceT T 13 15))] u fun e w' => e = .returned (.int .i64 (dMo T)) ∧ w' = u) := fun u => HV0.out u 13 15 (by omega) (by omega) (by omega)
  have V15 : Hid (∀ u, Calls Tryz.prog 203 #[.string (bs (pieceT T 15 19))] u fun e w' => e = .returned (.int .i64 (dSu T)) ∧ w' = u) := fun u => HV0.out u 15 19 (by omega) (by omega) (by omega)
  have e2 : (bs T).extract 2 3 = bs (pieceT T 2 3) := bs_cut T 2 3
  have e3 : (bs T).extract 3 4 = bs (pieceT T 3 4) := bs_cut T 3 4
  have e4 : (bs T).extract 4 5 = bs (pieceT T 4 5) := bs_cut T 4 5
  have e5 : (bs T).extract 5 6 = bs (pieceT T 5 6) := bs_cut T 5 6
  have e6 : (bs T).extract 6 8 = bs (pieceT T 6 8) := bs_cut T 6 8
  have e8 : (bs T).extract 8 10 = bs (pieceT T 8 10) := bs_cut T 8 10
  have e10 : (bs T).extract 10 11 = bs (pieceT T 10 11) := bs_cut T 10 11
  have e11 : (bs T).extract 11 13 = bs (pieceT T 11 13) := bs_cut T 11 13
  have e13 : (bs T).extract 13 15 = bs (pieceT T 13 15) := bs_cut T 13 15
  have e15 : (bs T).extract 15 19 = bs (pieceT T 15 19) := bs_cut T 15 19
  have e0 : (bs T).extract 0 2 = bs (T.take 2) := bs_takeN T 2
  clear HV0
  have n2 : 2 ≤ T.length := by omega
  have i2 : (2 : Int) ≤ (T.length : Int) := by omega
  have n3 : 3 ≤ T.length := by omega
  have i3 : (3 : Int) ≤ (T.length : Int) := by omega
  have n4 : 4 ≤ T.length := by omega
  have i4 : (4 : Int) ≤ (T.length : Int) := by omega
  have n5 : 5 ≤ T.length := by omega
  have i5 : (5 : Int) ≤ (T.length : Int) := by omega
  have n6 : 6 ≤ T.length := by omega
  have i6 : (6 : Int) ≤ (T.length : Int) := by omega
  have n8 : 8 ≤ T.length := by omega
  have i8 : (8 : Int) ≤ (T.length : Int) := by omega
  have n10 : 10 ≤ T.length := by omega
  have i10 : (10 : Int) ≤ (T.length : Int) := by omega
  have n11 : 11 ≤ T.length := by omega
  have i11 : (11 : Int) ≤ (T.length : Int) := by omega
  have n13 : 13 ≤ T.length := by omega
  have i13 : (13 : Int) ≤ (T.length : Int) := by omega
  have n15 : 15 ≤ T.length := by omega
  have i15 : (15 : Int) ≤ (T.length : Int) := by omega
  have n19 : 19 ≤ T.length := by omega
  have i19 : (19 : Int) ≤ (T.length : Int) := by omega
  generalize bs (pieceT T 2 3) = P2 at *
  generalize bs (pieceT T 3 4) = P3 at *
  generalize bs (pieceT T 4 5) = P4 at *
  generalize bs (pieceT T 5 6) = P5 at *
  generalize bs (pieceT T 6 8) = P6 at *
  generalize bs (pieceT T 8 10) = P8 at *
  generalize bs (pieceT T 10 11) = P10 at *
  generalize bs (pieceT T 11 13) = P11 at *
  generalize bs (pieceT T 13 15) = P13 at *
  generalize bs (pieceT T 15 19) = P15 at *
  generalize dWh T = whh at *
  generalize dCh T = v3 at *
  generalize dDe T = v4 at *
  generalize dBl T = v5 at *
  generalize dRa T = v6 at *
  generalize dSa T = v8 at *
  generalize dSe T = v10 at *
  generalize dLe T = v11 at *
  generalize dMo T = v13 at *
  generalize dSu T = v15 at *
  go_enter Tryz.func133, Tryz.ntmps133
  go_wp2_with (first
    | (go_at_call 203; refine (V2.out _).mono ?_; rintro e u2 ⟨rfl, hw⟩; subst u2; clear V2))
  go_cut [5] (fun s5 wx => s5 = .pointer (some ⟨w.heap.size + 1, 0, none⟩) ∧ Hid (Below w.heap.size w wx ∧ Bx wx w.heap.size 110 (hdC 0 0 0 0 0 0 false 0 0 0 (.slice none 0 0)) ∧ Bx wx (w.heap.size + 1) 110 (hdC v3 v4 v5 v6 v10 v8 ((whh : Int) == 1) v11 v13 v15 (.slice none 0 0))))
  case first =>
    go_region_held3 (fun w' => True)
      (trivial)
      (first
      | (go_at_call 203; refine (V3.out _).mono ?_; rintro e u2 ⟨rfl, hw⟩; subst u2; clear V3)
      | (go_at_call 203; refine (V4.out _).mono ?_; rintro e u2 ⟨rfl, hw⟩; subst u2; clear V4)
      | (go_at_call 203; refine (V5.out _).mono ?_; rintro e u2 ⟨rfl, hw⟩; subst u2; clear V5)
      | (go_at_call 203; refine (V6.out _).mono ?_; rintro e u2 ⟨rfl, hw⟩; subst u2; clear V6)
      | (go_at_call 203; refine (V8.out _).mono ?_; rintro e u2 ⟨rfl, hw⟩; subst u2; clear V8)
      | (go_at_call 203; refine (V10.out _).mono ?_; rintro e u2 ⟨rfl, hw⟩; subst u2; clear V10)
      | (go_at_call 203; refine (V11.out _).mono ?_; rintro e u2 ⟨rfl, hw⟩; subst u2; clear V11)
      | (go_at_call 203; refine (V13.out _).mono ?_; rintro e u2 ⟨rfl, hw⟩; subst u2; clear V13)
      | (go_at_call 203; refine (V15.out _).mono ?_; rintro e u2 ⟨rfl, hw⟩; subst u2; clear V15))
    all_goals
      (go_wp2
       go_meet
       case rel => exact ⟨rfl, (((Below.refl _ _).alloc (Nat.le_refl _) _).alloc (by simp) _).drew, (Bx.new w _ _).alloc _, Bx.new2 (by simp) _ _⟩)
  case rest =>
    obtain ⟨rfl, HC⟩ := hcut
    have hX := HC.out.2.2
    have hR0 := HC.out.2.1
    unfold hdC at hX hR0
    have x0 := hX.cell 0
    have x1 := hX.cell 1
    have x2 := hX.cell 2
    have x3 := hX.cell 3
    have x4 := hX.cell 4
    have x5 := hX.cell 5
    have HXX := Hid.mk' hX
    have HR0 := Hid.mk' hR0
    clear hR0
    have HRI := Hid.mk' (fun u => rightInfo_any v3 v4 v5 v6 v10 v8 u)
    have hww : ((whh : Int) == 1) = decide (whh = 1) := by
      by_cases e : whh = 1
      · subst e; rfl
      · rw [decide_eq_false e]; simp; omega
    have HWW := Hid.mk' hww
    clear hX hww
    have hz2 : (bs (T.take 2)).size = 2 := by rw [bs_size, List.length_take]; omega
    have hL : (bs [82, 76]).toList = [82, 76] := by kernel_rfl
    generalize hwb : ((whh : Int) == 1) = wb at *
    clear hwb
    by_cases p1 : T.take 2 = [82, 76]
    · have t1 : ((bs (T.take 2)).toList == [82, 76]) = true := by rw [← hL]; exact (str_beq _ _).2 (by rw [p1])
      have HP1 := Hid.mk' p1
      clear p1 hL
      generalize hP0 : bs (T.take 2) = P0 at *
      clear hP0
      by_cases p2 : whh ≤ 1
      · have t2 : (whh : Int) ≤ 1 := by omega
        have t2d : decide ((whh : Int) ≤ 1) = true := decide_eq_true t2
        go_wp2_with (first
          | (go_at_call 121; refine (HRI.out _).mono ?_; rintro e u1 ⟨rfl, hb⟩; have HB1 := Hid.mk' (HC.out.1.trans (hb.mono HC.out.1.size)); have hX := HXX.out.below hb; have HX1 := Hid.mk' hX; have HR1 := Hid.mk' (HR0.out.below hb); clear HRI hX hb x0 x1 x2 x3 x4 x5)
          | (refine wpList_loadRow rfl _ 110 rfl (w.heap.size + 1) 110 #[.int .i64 v3, .int .i64 v4, .int .i64 v5, .int .i64 v6, .int .i64 v10, .int .i64 v8, .bool wb, .int .i64 v11, .int .i64 v13, .int .i64 v15, .slice none 0 0] (0, 0) _ rfl HX1.out Tryz.underlying110 rfl infoHd11 ?_)
          | (refine wpList_storeRow rfl _ _ 110 rfl w.heap.size 110 _ _ rfl rfl HR1.out infoHd11 rfl rfl ?_))
        exact bodyPost_ret (res_rf _ w.heap.size _ _ _ (HR1.out.row _) rfl rfl rfl) rfl ⟨by rw [← HWW.out, decide_eq_true HP1.out, decide_eq_true p2]; rfl, HB1.out.grown (grown_row _ _ _) HB1.out.size (fun j hj => by injection hj with hj; omega)⟩
      · have t2 : ¬ (whh : Int) ≤ 1 := by omega
        have t2d : decide ((whh : Int) ≤ 1) = false := decide_eq_false t2
        go_wp2_with (first
          | (refine wpList_loadRow rfl _ 110 rfl (w.heap.size + 1) 110 #[.int .i64 v3, .int .i64 v4, .int .i64 v5, .int .i64 v6, .int .i64 v10, .int .i64 v8, .bool wb, .int .i64 v11, .int .i64 v13, .int .i64 v15, .slice none 0 0] (0, 0) _ rfl HXX.out Tryz.underlying110 rfl infoHd11 ?_)
          | (refine wpList_storeRow rfl _ _ 110 rfl w.heap.size 110 _ _ rfl rfl HR0.out infoHd11 rfl rfl ?_))
        exact bodyPost_ret (res_rf _ w.heap.size _ _ _ (HR0.out.row _) rfl rfl rfl) rfl ⟨by rw [← HWW.out]; first | rfl | (rw [decide_eq_false p2]; simp; rfl), HC.out.1.grown (grown_row _ _ _) HC.out.1.size (fun j hj => by injection hj with hj; omega)⟩
    · have t1 : ((bs (T.take 2)).toList == [82, 76]) = false := by
        rw [← hL]
        refine Bool.eq_false_iff.2 fun h => p1 ?_
        exact bs_inj ((str_beq _ _).1 h)
      clear hL
      generalize hP0 : bs (T.take 2) = P0 at *
      clear hP0
      go_wp2_with (first
          | (refine wpList_loadRow rfl _ 110 rfl (w.heap.size + 1) 110 #[.int .i64 v3, .int .i64 v4, .int .i64 v5, .int .i64 v6, .int .i64 v10, .int .i64 v8, .bool wb, .int .i64 v11, .int .i64 v13, .int .i64 v15, .slice none 0 0] (0, 0) _ rfl HXX.out Tryz.underlying110 rfl infoHd11 ?_)
          | (refine wpList_storeRow rfl _ _ 110 rfl w.heap.size 110 _ _ rfl rfl HR0.out infoHd11 rfl rfl ?_))
      exact bodyPost_ret (res_rf _ w.heap.size _ _ _ (HR0.out.row _) rfl rfl rfl) rfl ⟨by rw [← HWW.out]; first | rfl | (rw [decide_eq_false p1]; simp; rfl), HC.out.1.grown (grown_row _ _ _) HC.out.1.size (fun j hj => by injection hj with hj; omega)⟩
end Go.Proofs.YtlncjgnomhpjnabGreatDoor

