import Derived.Test.YtlncjgnomhpjnaaGreatDoorPD49
import Derived.Test.YtlncjgnomhpjnaaGreatDoorPD51
import Derived.Test.YtlncjgnomhpjnaaGreatDoorPD52
import Derived.Test.YtlncjgnomhpjnaaGreatDoorPD53
import Derived.Deep.RegionHeld3
import Derived.Deep.DeepCutAuto
/-
  The document decodes: reelref.Decode.
-/
namespace Go.Proofs.YtlncjgnomhpjnaaGreatDoor
open Go.RowKit Go.Deep
set_option linter.unusedVariables false
theorem HdR.yes {e : Ending} {w w' : World} {T : List UInt8} (h : HdR e w w' T) (hp : HdP T) : ∃ a c, e = .returned (.tuple #[.agg #[.int .i64 (dWh T), .int .i64 (dCh T), .int .i64 (dDe T), .int .i64 (dBl T), .int .i64 (dRa T), .int .i64 (dSe T), .int .i64 (dSa T), .int .i64 (dLe T), .int .i64 (dMo T), .int .i64 (dSu T), .slice a (dNp T) c], .int .i64 (dSz T)]) ∧ w'.ownsRow w.heap.size 3 1 (.slice a (dNp T) c) (dNp T) (pntV (dPts T)) ∧ Below w.heap.size w w' := by
  rcases h with ⟨⟨-, a, c, rfl, ho⟩ | ⟨hno, -⟩, hb⟩
  · exact ⟨a, c, rfl, ho, hb⟩
  · exact absurd hp hno
theorem HdR.nothing {e : Ending} {w w' : World} {T : List UInt8} (h : HdR e w w' T) (hp : ¬ HdP T) : ∃ (f c0 c1 c2 c3 c4 s le mo su : Int) (a : Option Addr) (n c : Nat), e = .returned (.tuple #[.agg #[.int .i64 f, .int .i64 c0, .int .i64 c1, .int .i64 c2, .int .i64 c3, .int .i64 c4, .int .i64 s, .int .i64 le, .int .i64 mo, .int .i64 su, .slice a n c], .int .i64 0]) ∧ Below w.heap.size w w' := by
  rcases h with ⟨⟨hy, -⟩ | ⟨-, f, c0, c1, c2, c3, c4, s, le, mo, su, a, n, c, he⟩, hb⟩
  · exact absurd hy hp
  · exact ⟨f, c0, c1, c2, c3, c4, s, le, mo, su, a, n, c, he, hb⟩
theorem headOf_any (T : List UInt8) (w : World) (h2 : T.length ≤ 9000) : Calls Tryz.prog 93 #[.string (bs T)] w fun e w' => HdR e w w' T := by
  by_cases h : T.length < 22
  · exact headOf_short T w h
  · exact headOf_long T w (by omega) h2
theorem res_fdec (tmps : Array Value) (R : Nat) (v : Value) (k : Int) (cs : Array Value) (W : World) (h : Bx W R 46 cs) (hs : cs.size = 6) (h2 : tmps.getD 2 undef = .pointer (some ⟨R, 0, none⟩)) (h3 : tmps.getD 3 undef = v) (h4 : tmps.getD 4 undef = .int .i64 k) :
    (results Tryz.f52 tmps).run Tryz.prog W = .ok (.tuple #[.agg cs, v, .int .i64 k]) W := by
  have hl := run_loadVar_row (P := Tryz.prog) W R 46 46 cs (0, 0) _ h Tryz.underlying46 rfl (by rw [hs]; exact infoInf6)
  rw [Array.getD_eq_getD_getElem?] at h2 h3 h4
  simp [results, Tryz.results52, asAddr, h2, h3, h4, hl]
set_option maxRecDepth 4000 in
set_option maxHeartbeats 2000000 in
theorem refDecode_long (T : List UInt8) (w : World) (hs : ¬ T.length ≤ 9000) (hs2 : T.length ≤ 9223372036854775807) : Calls Tryz.prog 52 #[.string (bs T)] w fun e w' => DecAns e w w' T := by
  have hz : (bs T).size = T.length := bs_size T
  have HZ0 : Hid (Bx (w.alloc (.cells #[.int .i64 0, .int .i64 0, .int .i64 0, .int .i64 0, .int .i64 0, .int .i64 0] 46)) w.heap.size 46 #[.int .i64 0, .int .i64 0, .int .i64 0, .int .i64 0, .int .i64 0, .int .i64 0]) := Bx.new _ _ _
  have HB0 : Hid (Below w.heap.size w (w.alloc (.cells #[.int .i64 0, .int .i64 0, .int .i64 0, .int .i64 0, .int .i64 0, .int .i64 0] 46))) := (Below.refl _ _).alloc (Nat.le_refl _) _
  have HBAD : Hid (∀ w', Below w.heap.size w w' → DecAns (.returned (.tuple #[info0, .slice none 0 0, .int .i64 4])) w w' T) := fun w' hb => dec_bad 4 (by omega) (by unfold decE; rw [if_neg hs]) hb
  have hl2 : 9000 < T.length := by omega
  generalize bs T = SB at *
  go_enter Tryz.func52, Tryz.ntmps52
  go_wp2_with (first
    | (refine wpList_storeRow rfl _ _ 46 rfl w.heap.size 46 _ _ rfl rfl HZ0.out infoInf6 rfl rfl ?_))
  exact bodyPost_ret (res_fdec _ w.heap.size _ 4 #[.int .i64 0, .int .i64 0, .int .i64 0, .int .i64 0, .int .i64 0, .int .i64 0] _ (HZ0.out.row _) rfl rfl rfl rfl) rfl (HBAD.out _ (below_row HB0.out (Nat.le_refl _) _))
set_option maxRecDepth 4000 in
set_option maxHeartbeats 2000000 in
theorem refDecode_head (T : List UInt8) (w : World) (hs : T.length ≤ 9000) (hp : ¬ (HdP T ∧ dWh T = 1)) : Calls Tryz.prog 52 #[.string (bs T)] w fun e w' => DecAns e w w' T := by
  have hz : (bs T).size = T.length := bs_size T
  have hd9 : decide ((9000 : Int) < (T.length : Int)) = false := decide_eq_false (by omega)
  have HHR := Hid.mk' (fun u => headOf_any T u hs)
  have HBAD : Hid (∀ w', Below w.heap.size w w' → DecAns (.returned (.tuple #[info0, .slice none 0 0, .int .i64 7])) w w' T) := fun w' hb => dec_bad 7 (by omega) (by unfold decE; rw [if_pos hs, if_neg hp]) hb
  have HZ0 : Hid (Bx (w.alloc (.cells #[.int .i64 0, .int .i64 0, .int .i64 0, .int .i64 0, .int .i64 0, .int .i64 0] 46)) w.heap.size 46 #[.int .i64 0, .int .i64 0, .int .i64 0, .int .i64 0, .int .i64 0, .int .i64 0]) := Bx.new _ _ _
  have HB0 : Hid (Below w.heap.size w (w.alloc (.cells #[.int .i64 0, .int .i64 0, .int .i64 0, .int .i64 0, .int .i64 0, .int .i64 0] 46))) := (Below.refl _ _).alloc (Nat.le_refl _) _
  by_cases hy : HdP T
  · have HY := Hid.mk' hy
    have hw0 : dWh T = 0 := by have := hy.2.1; have : ¬ dWh T = 1 := fun h => hp ⟨hy, h⟩; omega
    have k0 : ((dWh T : Int) == 0) = true := by simp; omega
    have k1 : decide (dWh T = 0) = true := decide_eq_true hw0
    obtain ⟨-, -, -, -, -, -, -, -, -, b10, b11⟩ := hd_bd hy
    have z0 : ((dSz T : Int) == 0) = false := by simp; omega
    have z1 : ¬ (dSz T : Int) = 0 := by omega
    clear hp hy hw0
    generalize bs T = SB at *
    go_enter Tryz.func52, Tryz.ntmps52
    go_wp2_with (first
      | (go_at_call 93; refine (HHR.out _).mono ?_; intro e u1 ho; obtain ⟨pa, pc, rfl, hown, hb⟩ := ho.yes HY.out; have HZ1 := Hid.mk' (HZ0.out.below hb); have HB1 := Hid.mk' (HB0.out.trans (hb.mono HB0.out.size)); clear HHR ho hb HZ0 HB0 hown)
      | (refine wpList_storeRow rfl _ _ 46 rfl w.heap.size 46 _ _ rfl rfl (HZ1.out.alloc _) infoInf6 rfl rfl ?_))
    exact bodyPost_ret (res_fdec _ w.heap.size _ 7 #[.int .i64 0, .int .i64 0, .int .i64 0, .int .i64 0, .int .i64 0, .int .i64 0] _ ((HZ1.out.alloc _).row _) rfl rfl rfl rfl) rfl (HBAD.out _ (below_row (HB1.out.alloc HB1.out.size _) (Nat.le_refl _) _))
  · have HY := Hid.mk' hy
    clear hp hy
    generalize bs T = SB at *
    go_enter Tryz.func52, Tryz.ntmps52
    go_wp2_with (first
      | (go_at_call 93; refine (HHR.out _).mono ?_; intro e u1 ho; obtain ⟨f, c0, c1, c2, c3, c4, s, le, mo, su, a, n, c, rfl, hb⟩ := ho.nothing HY.out; have HZ1 := Hid.mk' (HZ0.out.below hb); have HB1 := Hid.mk' (HB0.out.trans (hb.mono HB0.out.size)); clear HHR ho hb HZ0 HB0)
      | (refine wpList_storeRow rfl _ _ 46 rfl w.heap.size 46 _ _ rfl rfl (HZ1.out.alloc _) infoInf6 rfl rfl ?_))
    exact bodyPost_ret (res_fdec _ w.heap.size _ 7 #[.int .i64 0, .int .i64 0, .int .i64 0, .int .i64 0, .int .i64 0, .int .i64 0] _ ((HZ1.out.alloc _).row _) rfl rfl rfl rfl) rfl (HBAD.out _ (below_row (HB1.out.alloc HB1.out.size _) (Nat.le_refl _) _))
theorem interleaved_rows (base n S : Nat) (v : Value) (F : Nat → Nat → Int) (w : World) (hn1 : 1 ≤ n) (hn4 : n ≤ 4) (hS : S ≤ 300) (hf : ∀ i, i < n → ∀ j, j < S → -65536 ≤ F i j ∧ F i j < 65536) (h : RowsL base w v n S F) :
    Calls Tryz.prog 99 #[v] w fun e w' => e = .returned (.string (bs (intT n F (2 * (S * n))))) ∧ Below w.heap.size w w' := by
  obtain ⟨g, A, C, rfl, -, hA, hI, hlow⟩ := h.open
  exact interleaved_any _ n n A S C F w hn1 hn4 hS hf hA hI hlow
theorem lens_at {w : World} {base k : Nat} {ln : Nat → Nat} {la : Option Addr} {lc : Nat} (h : w.ownsRow base 3 1 (.slice la k lc) k (lnL ln k)) : IntsAt w la k (fun i => ((ln i : Nat) : Int)) ∧ ∀ x, la = some x → 0 < k → x.block < w.heap.size := by
  obtain ⟨a, c, e, h1, h2⟩ := lens_open h
  injection e with e1 e2 e3
  subst e1
  exact ⟨h1, h2⟩
set_option linter.unusedSimpArgs false in
set_option maxRecDepth 4000 in
set_option maxHeartbeats 4000000 in
theorem refDecode_rest (T : List UInt8) (w : World) (hs : T.length ≤ 9000) (hp : HdP T) (hw : dWh T = 1) (hT : TabAt w 3) (hT3 : 3 < w.heap.size) :
    Calls Tryz.prog 52 #[.string (bs T)] w fun e w' => DecAns e w w' T := by
  obtain ⟨b1, b2, b3, b4, b5, b6, b7, b8, b9, b10, b11⟩ := hd_bd hp
  have hz : (bs T).size = T.length := bs_size T
  have hd9 : decide ((9000 : Int) < (T.length : Int)) = false := decide_eq_false (by omega)
  have HHR := Hid.mk' (fun u => headOf_any T u hs)
  have HRN := Hid.mk' (fun (u : World) (hu : Below w.heap.size w u) => refRun_any (dCh T) (dDe T) (dBl T) (dRa T) (dSe T) (dSa T) 0 (dSz T) T u b3 b4 b1 b2 b5 b6 b7 (Nat.zero_le _) hs b11 (tab_at hT hu hT3) (Nat.lt_of_lt_of_le hT3 hu.size))
  have HZ0 : Hid (Bx (w.alloc (.cells #[.int .i64 0, .int .i64 0, .int .i64 0, .int .i64 0, .int .i64 0, .int .i64 0] 46)) w.heap.size 46 #[.int .i64 0, .int .i64 0, .int .i64 0, .int .i64 0, .int .i64 0, .int .i64 0]) := Bx.new _ _ _
  have HB0 : Hid (Below w.heap.size w (w.alloc (.cells #[.int .i64 0, .int .i64 0, .int .i64 0, .int .i64 0, .int .i64 0, .int .i64 0] 46))) := (Below.refl _ _).alloc (Nat.le_refl _) _
  have HY := Hid.mk' hp
  have HWW := Hid.mk' hw
  have k0 : ((dWh T : Int) == 0) = false := by simp; omega
  have k1 : ¬ (dWh T : Int) = 0 := by omega
  have k2 : decide (dWh T = 0) = false := decide_eq_false (by omega)
  have z0 : ((dSz T : Int) == 0) = false := by simp; omega
  have z1 : ¬ (dSz T : Int) = 0 := by omega
  by_cases hm : ∃ m, RunIs (dCh T) (dDe T) (dBl T) (dSa T) 0 (T.drop (dSz T)) m
  · obtain ⟨m, hm⟩ := hm
    have HM := Hid.mk' hm
    have HX9 : Hid ((T.drop (dSz T)).length ≤ 9000) := by show _ ≤ _; rw [List.length_drop]; omega
    have hm3 : m ≤ 300 := by
      have h1 := nBlk_le (S := dSa T) (B := dBl T) b5
      rcases hm.le with h | h <;> omega
    have HHF := Hid.mk' (fun (u : World) a cap hI hlow => headFor9_any (dCh T) (dDe T) (dBl T) (dRa T) (dSa T) (dSe T) (dSu T) a m cap (lnX (T.drop (dSz T))) u hm3 b8 (lnX_bd HM.out HX9.out) hI hlow)
    unfold rhC at HHF
    have HBL := Hid.mk' (fun u => rblocks_any (dCh T) (dDe T) (dRa T) (dSe T) (dBl T) (dSa T) u b5 (by omega) (by omega))
    obtain ⟨en, hen⟩ : ∃ x, x = dSz T + offX (T.drop (dSz T)) m := ⟨_, rfl⟩
    have HEN := Hid.mk' hen
    clear hen
    clear hp hw hT hT3 hm
    have HEX : Hid (∀ b, (bs T).extract 0 b = bs (T.take b)) := fun b => bs_takeN T b
    generalize bs T = SB at *
    go_enter Tryz.func52, Tryz.ntmps52
    go_wp2_with (first
      | (go_at_call 93; refine (HHR.out _).mono ?_; intro e u1 ho; obtain ⟨pa, pc, rfl, hown, hb⟩ := ho.yes HY.out; have HZ1 := Hid.mk' (HZ0.out.below hb); have HB1 := Hid.mk' (HB0.out.trans (hb.mono HB0.out.size)); clear HHR ho hb HZ0 HB0 hown)
      | (go_at_call 94; refine (HRN.out _ (HB1.out.alloc HB1.out.size _)).mono ?_; intro e u2 ho; obtain ⟨m', gl, la, lc, he, hri, hrow, hl, hb⟩ := ho; have em := HM.out.uniq hri; subst em; rw [← HEN.out] at he; subst he; obtain ⟨hIL, hLL⟩ := lens_at hl; have HIL := Hid.mk' (And.intro hIL hLL); clear hIL hLL; have HROW := Hid.mk' (hrow.mono (show w.heap.size + 1 ≤ _ from (HZ1.out.alloc _).lt)); have HLN := Hid.mk' hl; have HZ2 := Hid.mk' ((HZ1.out.alloc _).below hb); have HH2 := Hid.mk' ((Bx.new u1 #[.int .i64 (dWh T), .int .i64 (dCh T), .int .i64 (dDe T), .int .i64 (dBl T), .int .i64 (dRa T), .int .i64 (dSe T), .int .i64 (dSa T), .int .i64 (dLe T), .int .i64 (dMo T), .int .i64 (dSu T), .slice pa (dNp T) pc] 123).below hb); have HB2 := Hid.mk' ((HB1.out.alloc HB1.out.size _).trans (hb.mono (HB1.out.alloc HB1.out.size _).size)); clear HRN hb HZ1 HB1 hrow hl hri; have x1 := HH2.out.cell 1; have x2 := HH2.out.cell 2; have x3 := HH2.out.cell 3; have x4 := HH2.out.cell 4; have x5 := HH2.out.cell 5; have x6 := HH2.out.cell 6; have x9 := HH2.out.cell 9)
      | (go_at_call 95; refine (HHF.out _ la lc HIL.out.1 HIL.out.2).mono ?_; rintro e u3 ⟨pv, rfl, ho, hb⟩; obtain ⟨qa, qc, rfl⟩ := own_form ho; have HQO := Hid.mk' ho; have HZ3 := Hid.mk' (HZ2.out.below hb); have HH3 := Hid.mk' (HH2.out.below hb); have HB3 := Hid.mk' (HB2.out.trans (hb.mono HB2.out.size)); have HRW3 := Hid.mk' (HROW.out.below hb); clear HHF hb ho HZ2 HH2 HB2 HROW x1 x2 x3 x4 x5 x6 x9))
    have HZU := Hid.mk' (HZ3.out.alloc (.cells #[.int .i64 1, .int .i64 (dCh T), .int .i64 (dDe T), .int .i64 (dBl T), .int .i64 (dRa T), .int .i64 (dSe T), .int .i64 (dSa T), .int .i64 (leastN (lnX (T.drop (dSz T))) m : Nat), .int .i64 (mostN (lnX (T.drop (dSz T))) m : Nat), .int .i64 (dSu T), .slice qa (pntN (lnX (T.drop (dSz T))) (dSe T) m).length qc] 123))
    have HHU := Hid.mk' (HH3.out.alloc (.cells #[.int .i64 1, .int .i64 (dCh T), .int .i64 (dDe T), .int .i64 (dBl T), .int .i64 (dRa T), .int .i64 (dSe T), .int .i64 (dSa T), .int .i64 (leastN (lnX (T.drop (dSz T))) m : Nat), .int .i64 (mostN (lnX (T.drop (dSz T))) m : Nat), .int .i64 (dSu T), .slice qa (pntN (lnX (T.drop (dSz T))) (dSe T) m).length qc] 123))
    have HMU := Hid.mk' (Bx.new u3 #[.int .i64 1, .int .i64 (dCh T), .int .i64 (dDe T), .int .i64 (dBl T), .int .i64 (dRa T), .int .i64 (dSe T), .int .i64 (dSa T), .int .i64 (leastN (lnX (T.drop (dSz T))) m : Nat), .int .i64 (mostN (lnX (T.drop (dSz T))) m : Nat), .int .i64 (dSu T), .slice qa (pntN (lnX (T.drop (dSz T))) (dSe T) m).length qc] 123)
    have HBU := Hid.mk' (HB3.out.alloc HB3.out.size (.cells #[.int .i64 1, .int .i64 (dCh T), .int .i64 (dDe T), .int .i64 (dBl T), .int .i64 (dRa T), .int .i64 (dSe T), .int .i64 (dSa T), .int .i64 (leastN (lnX (T.drop (dSz T))) m : Nat), .int .i64 (mostN (lnX (T.drop (dSz T))) m : Nat), .int .i64 (dSu T), .slice qa (pntN (lnX (T.drop (dSz T))) (dSe T) m).length qc] 123))
    have HRU := Hid.mk' (HRW3.out.below ((Below.refl _ _).alloc (Nat.le_refl _) (.cells #[.int .i64 1, .int .i64 (dCh T), .int .i64 (dDe T), .int .i64 (dBl T), .int .i64 (dRa T), .int .i64 (dSe T), .int .i64 (dSa T), .int .i64 (leastN (lnX (T.drop (dSz T))) m : Nat), .int .i64 (mostN (lnX (T.drop (dSz T))) m : Nat), .int .i64 (dSu T), .slice qa (pntN (lnX (T.drop (dSz T))) (dSe T) m).length qc] 123)))
    have HQU := Hid.mk' (HQO.out.alloc (.cells #[.int .i64 1, .int .i64 (dCh T), .int .i64 (dDe T), .int .i64 (dBl T), .int .i64 (dRa T), .int .i64 (dSe T), .int .i64 (dSa T), .int .i64 (leastN (lnX (T.drop (dSz T))) m : Nat), .int .i64 (mostN (lnX (T.drop (dSz T))) m : Nat), .int .i64 (dSu T), .slice qa (pntN (lnX (T.drop (dSz T))) (dSe T) m).length qc] 123))
    clear HZ3 HH3 HB3 HRW3 HQO
    generalize hU : u3.alloc (.cells #[.int .i64 1, .int .i64 (dCh T), .int .i64 (dDe T), .int .i64 (dBl T), .int .i64 (dRa T), .int .i64 (dSe T), .int .i64 (dSa T), .int .i64 (leastN (lnX (T.drop (dSz T))) m : Nat), .int .i64 (mostN (lnX (T.drop (dSz T))) m : Nat), .int .i64 (dSu T), .slice qa (pntN (lnX (T.drop (dSz T))) (dSe T) m).length qc] 123) = U at *
    clear hU
    generalize u1.heap.size = H at *
    generalize u3.heap.size = M at *
    have hsu : dSu T < 4294967296 := by
      have := HY.out.1
      exact fld_lt T 15 19 (by omega) (by omega)
    have hra : dRa T < 65536 := by
      have := HY.out.1
      exact fld_lt T 6 8 (by omega) (by omega)
    have HTX0 : Hid (∀ u, Below U.heap.size U u → Calls Tryz.prog 97 #[.agg #[.int .i64 1, .int .i64 (dCh T), .int .i64 (dDe T), .int .i64 (dBl T), .int .i64 (dRa T), .int .i64 (dSe T), .int .i64 (dSa T), .int .i64 (leastN (lnX (T.drop (dSz T))) m : Nat), .int .i64 (mostN (lnX (T.drop (dSz T))) m : Nat), .int .i64 (dSu T), .slice qa (pntN (lnX (T.drop (dSz T))) (dSe T) m).length qc]] u fun e w' => e = .returned (.string (bs (headTx 1 (dCh T) (dDe T) (dBl T) (dRa T) (dSa T) (dSe T) (leastN (lnX (T.drop (dSz T))) m : Nat) (mostN (lnX (T.drop (dSz T))) m : Nat) (dSu T) (pntN (lnX (T.drop (dSz T))) (dSe T) m)))) ∧ Below u.heap.size u w') := fun u hu => by
      obtain ⟨a, cap, e, hI, hlow⟩ := pnts_open (HQU.out.kept (grownAll hu _) (Classical.em _))
      injection e with e1 e2 e3
      subst e1 e3
      have hle := leastN_bd (ln := lnX (T.drop (dSz T))) (m := 9000) m (lnX_bd HM.out HX9.out)
      have hmo := mostN_bd (ln := lnX (T.drop (dSz T))) (m := 9000) m (lnX_bd HM.out HX9.out)
      have hpl := pntN_len (lnX (T.drop (dSz T))) (dSe T) m
      exact textW_any 1 (dCh T) (dDe T) (dBl T) (dRa T) (dSa T) (dSe T) _ _ (dSu T) _ qa qc u (by omega) (by omega) (by omega) (by omega) hra (by omega) (by omega) (by omega) (by omega) hsu (by omega) (fun p hp => by have := pnt_bd (seek := dSe T) HM.out HX9.out p hp; omega) hI hlow
    have HST := Hid.mk' (says_text HY.out HWW.out hs HM.out)
    have eS : SB.extract 0 (dSz T) = bs (T.take (dSz T)) := HEX.out _
    have c4 : ((dSz T : Nat) : Int) ≤ (T.length : Int) := by omega
    generalize (pntN (lnX (T.drop (dSz T))) (dSe T) m).length = pl at *
    generalize hLE : leastN (lnX (T.drop (dSz T))) m = le at *
    generalize hMO : mostN (lnX (T.drop (dSz T))) m = mo at *
    clear hLE hMO
    have HSS : Hid (∀ u, Below U.heap.size U u → u.cell? ⟨H, 1, none⟩ = some (.int .i64 (dCh T)) ∧ u.cell? ⟨H, 2, none⟩ = some (.int .i64 (dDe T)) ∧ u.cell? ⟨H, 3, none⟩ = some (.int .i64 (dBl T)) ∧ u.cell? ⟨H, 4, none⟩ = some (.int .i64 (dRa T)) ∧ u.cell? ⟨H, 5, none⟩ = some (.int .i64 (dSe T)) ∧ u.cell? ⟨H, 6, none⟩ = some (.int .i64 (dSa T)) ∧ u.cell? ⟨M, 0, none⟩ = some (.int .i64 1) ∧ u.cell? ⟨M, 1, none⟩ = some (.int .i64 (dCh T)) ∧ u.cell? ⟨M, 2, none⟩ = some (.int .i64 (dDe T)) ∧ u.cell? ⟨M, 3, none⟩ = some (.int .i64 (dBl T)) ∧ u.cell? ⟨M, 4, none⟩ = some (.int .i64 (dRa T)) ∧ u.cell? ⟨M, 5, none⟩ = some (.int .i64 (dSe T)) ∧ u.cell? ⟨M, 6, none⟩ = some (.int .i64 (dSa T)) ∧ u.cell? ⟨M, 7, none⟩ = some (.int .i64 (le : Nat)) ∧ u.cell? ⟨M, 8, none⟩ = some (.int .i64 (mo : Nat)) ∧ u.cell? ⟨M, 9, none⟩ = some (.int .i64 (dSu T)) ∧ u.cell? ⟨M, 10, none⟩ = some (.slice qa pl qc)) := fun u hu => ⟨(HHU.out.below hu).cell 1, (HHU.out.below hu).cell 2, (HHU.out.below hu).cell 3, (HHU.out.below hu).cell 4, (HHU.out.below hu).cell 5, (HHU.out.below hu).cell 6, (HMU.out.below hu).cell 0, (HMU.out.below hu).cell 1, (HMU.out.below hu).cell 2, (HMU.out.below hu).cell 3, (HMU.out.below hu).cell 4, (HMU.out.below hu).cell 5, (HMU.out.below hu).cell 6, (HMU.out.below hu).cell 7, (HMU.out.below hu).cell 8, (HMU.out.below hu).cell 9, (HMU.out.below hu).cell 10⟩
    have hS0 : U.drew.cell? ⟨H, 1, none⟩ = some (.int .i64 (dCh T)) ∧ U.drew.cell? ⟨H, 2, none⟩ = some (.int .i64 (dDe T)) ∧ U.drew.cell? ⟨H, 3, none⟩ = some (.int .i64 (dBl T)) ∧ U.drew.cell? ⟨H, 4, none⟩ = some (.int .i64 (dRa T)) ∧ U.drew.cell? ⟨H, 5, none⟩ = some (.int .i64 (dSe T)) ∧ U.drew.cell? ⟨H, 6, none⟩ = some (.int .i64 (dSa T)) ∧ U.drew.cell? ⟨M, 0, none⟩ = some (.int .i64 1) ∧ U.drew.cell? ⟨M, 1, none⟩ = some (.int .i64 (dCh T)) ∧ U.drew.cell? ⟨M, 2, none⟩ = some (.int .i64 (dDe T)) ∧ U.drew.cell? ⟨M, 3, none⟩ = some (.int .i64 (dBl T)) ∧ U.drew.cell? ⟨M, 4, none⟩ = some (.int .i64 (dRa T)) ∧ U.drew.cell? ⟨M, 5, none⟩ = some (.int .i64 (dSe T)) ∧ U.drew.cell? ⟨M, 6, none⟩ = some (.int .i64 (dSa T)) ∧ U.drew.cell? ⟨M, 7, none⟩ = some (.int .i64 (le : Nat)) ∧ U.drew.cell? ⟨M, 8, none⟩ = some (.int .i64 (mo : Nat)) ∧ U.drew.cell? ⟨M, 9, none⟩ = some (.int .i64 (dSu T)) ∧ U.drew.cell? ⟨M, 10, none⟩ = some (.slice qa pl qc) := HSS.out _ (Below.refl _ _).drew
    by_cases h1 : m = nBlk (dSa T) (dBl T)
    · by_cases h2 : offX (T.drop (dSz T)) m = ((T.drop (dSz T))).length
      · have hen : en = T.length := by
          have h3 := HEN.out
          rw [h2, List.length_drop] at h3
          omega
        have HM1 := Hid.mk' h1
        have HM2 := Hid.mk' h2
        have q1 : ((m : Int) == (nBlk (dSa T) (dBl T) : Int)) = true := by rw [← h1]; simp
        have q1' : decide (m = nBlk (dSa T) (dBl T)) = true := decide_eq_true h1
        rw [← h1] at HBL
        clear h1 h2 q1 q1'
        subst hen
        by_cases hsy : SaysP T (T.drop (dSz T)) m
        · rw [HST.out.2 hsy] at HTX0
          have HSY := Hid.mk' hsy
          have HTX := HTX0
          clear hsy HTX0 HST
          generalize bs (T.take (dSz T)) = SS at *
          go_region_held3 (fun w' => w'.cell? ⟨H, 1, none⟩ = some (.int .i64 (dCh T)) ∧ w'.cell? ⟨H, 2, none⟩ = some (.int .i64 (dDe T)) ∧ w'.cell? ⟨H, 3, none⟩ = some (.int .i64 (dBl T)) ∧ w'.cell? ⟨H, 4, none⟩ = some (.int .i64 (dRa T)) ∧ w'.cell? ⟨H, 5, none⟩ = some (.int .i64 (dSe T)) ∧ w'.cell? ⟨H, 6, none⟩ = some (.int .i64 (dSa T)) ∧ w'.cell? ⟨M, 0, none⟩ = some (.int .i64 1) ∧ w'.cell? ⟨M, 1, none⟩ = some (.int .i64 (dCh T)) ∧ w'.cell? ⟨M, 2, none⟩ = some (.int .i64 (dDe T)) ∧ w'.cell? ⟨M, 3, none⟩ = some (.int .i64 (dBl T)) ∧ w'.cell? ⟨M, 4, none⟩ = some (.int .i64 (dRa T)) ∧ w'.cell? ⟨M, 5, none⟩ = some (.int .i64 (dSe T)) ∧ w'.cell? ⟨M, 6, none⟩ = some (.int .i64 (dSa T)) ∧ w'.cell? ⟨M, 7, none⟩ = some (.int .i64 (le : Nat)) ∧ w'.cell? ⟨M, 8, none⟩ = some (.int .i64 (mo : Nat)) ∧ w'.cell? ⟨M, 9, none⟩ = some (.int .i64 (dSu T)) ∧ w'.cell? ⟨M, 10, none⟩ = some (.slice qa pl qc)) (first | with_reducible exact hS0 | with_reducible exact hS1 | with_reducible exact hS2)
          (first
          | (go_at_call 96; refine (HBL.out _).mono ?_; rintro e u4 ⟨rfl, hb⟩; have hb4 : Below U.heap.size U u4 := ⟨hb.os, hb.tape, hb.output, hb.size, hb.block⟩; have hS1 := HSS.out _ hb4; have HB4 := Hid.mk' hb4; clear hb hb4 HBL hS0)
          | (go_at_call 97; refine (HTX.out _ HB4.out).mono ?_; rintro e u5 ⟨rfl, hb⟩; have hb5 : Below U.heap.size U u5 := HB4.out.trans (hb.mono HB4.out.size); have hS2 := HSS.out _ hb5; have HB5 := Hid.mk' hb5; clear hb hb5 HTX hS1 HB4))
          have HHX := Hid.mk' (HHU.out.below HB5.out)
          have HZX := Hid.mk' (HZU.out.below HB5.out)
          have HBX := Hid.mk' (HBU.out.trans (HB5.out.mono HBU.out.size))
          have HRX := Hid.mk' (rows_whole (HRU.out.below HB5.out) (by rw [Nat.zero_add]; exact HM1.out) b5)
          have HALL : Hid (AllP T) := ⟨m, HM.out, HM1.out, HM2.out, HSY.out⟩
          have HSB : Hid (∀ i, i < dCh T → ∀ j, j < dSa T → -65536 ≤ dSmp T i j ∧ dSmp T i j < 65536) := fun i hi j _ => by
            have h5 := smpL_bd b3 b4 b2 HM.out i hi j
            rw [HM1.out] at h5
            exact h5
          have hS5 : dSa T * dCh T ≤ 1200 := Nat.mul_le_mul b7 b2
          have HIN := Hid.mk' (fun (u : World) (h : RowsL (w.heap.size + 1) u (.slice (some ⟨gl, 0, none⟩) (dCh T) (dCh T)) (dCh T) (dSa T) (dSmp T)) => interleaved_rows (w.heap.size + 1) (dCh T) (dSa T) (.slice (some ⟨gl, 0, none⟩) (dCh T) (dCh T)) (dSmp T) u b1 b2 b7 HSB.out h)
          have HSU := Hid.mk' (fun u => refSum_any (intT (dCh T) (dSmp T) (2 * (dSa T * dCh T))) u (by rw [intT_length]; omega))
          have s9 : u5.drew.cell? ⟨H, 9, none⟩ = some (.int .i64 (dSu T)) := HHX.out.cell 9
          clear hS2 HHU HZU HBU HRU HMU HQU HSS HB5 hS5 HM HM1 HM2 HSY
          by_cases hsm : SumP T
          · have HE : Hid (decE T = 0) := by show _ = _; unfold decE; rw [if_pos hs, if_pos ⟨HY.out, HWW.out⟩, if_pos HALL.out, if_pos hsm]
            unfold SumP at hsm
            generalize bs (intT (dCh T) (dSmp T) (2 * (dSa T * dCh T))) = ST at *
            generalize sumN (intT (dCh T) (dSmp T) (2 * (dSa T * dCh T))) = sm at *
            subst hsm
            go_wp2_with fail
            go_region_held3 (fun w' => w'.cell? ⟨H, 9, none⟩ = some (.int .i64 (dSu T))) (first | with_reducible exact s9 | with_reducible exact s10)
              (first
              | (go_at_call 99; refine (HIN.out _ HRX.out.drew).mono ?_; rintro e u6 ⟨rfl, hb⟩; have hb6 : Below u5.heap.size u5 u6 := ⟨hb.os, hb.tape, hb.output, hb.size, hb.block⟩; have HB6 := Hid.mk' hb6; have s10 : u6.cell? ⟨H, 9, none⟩ = some (.int .i64 (dSu T)) := (HHX.out.below hb6).cell 9; clear HIN hb hb6 s9)
              | (go_at_call 98; refine (HSU.out _).mono ?_; rintro e u7 ⟨rfl, hw⟩; subst u7; clear HSU))
            have k3 := (HHX.out.below HB6.out).cell 1
            have k4 := (HHX.out.below HB6.out).cell 2
            have k5 := (HHX.out.below HB6.out).cell 3
            have k6 := (HHX.out.below HB6.out).cell 4
            have k7 := (HHX.out.below HB6.out).cell 5
            have k8 := (HHX.out.below HB6.out).cell 6
            go_wp2_with (first
              | (refine wpList_storeRow rfl _ _ 46 rfl w.heap.size 46 _ _ rfl rfl (HZX.out.below HB6.out) infoInf6 rfl rfl ?_))
            refine bodyPost_ret (res_fdec _ w.heap.size (.slice (some ⟨gl, 0, none⟩) (dCh T) (dCh T)) 0 #[.int .i64 (dCh T), .int .i64 (dDe T), .int .i64 (dBl T), .int .i64 (dRa T), .int .i64 (dSe T), .int .i64 (dSa T)] _ ((HZX.out.below HB6.out).row _) rfl rfl rfl rfl) rfl ⟨.inl ⟨HE.out, _, rfl, ?_⟩, below_row (HBX.out.trans (HB6.out.mono HBX.out.size)) (Nat.le_refl _) _⟩
            exact ((HRX.out.below HB6.out).grown (grown_row u6 w.heap.size _) (Nat.lt_succ_self _)).mono (Nat.le_succ _)
          · have HBAD : Hid (∀ w', Below w.heap.size w w' → DecAns (.returned (.tuple #[info0, .slice none 0 0, .int .i64 8])) w w' T) := fun w' hb => dec_bad 8 (by omega) (by unfold decE; rw [if_pos hs, if_pos ⟨HY.out, HWW.out⟩, if_pos HALL.out, if_neg hsm]) hb
            unfold SumP at hsm
            generalize bs (intT (dCh T) (dSmp T) (2 * (dSa T * dCh T))) = ST at *
            generalize sumN (intT (dCh T) (dSmp T) (2 * (dSa T * dCh T))) = sm at *
            have q1 : ((dSu T : Int) == (sm : Int)) = false := beq_eq_false_iff_ne.2 (by omega)
            have q2 : ¬ (dSu T : Int) = (sm : Int) := by omega
            have q3 : ((dSu T : Int) != (sm : Int)) = true := by rw [bne, q1]; rfl
            go_wp2_with fail
            go_region_held3 (fun w' => w'.cell? ⟨H, 9, none⟩ = some (.int .i64 (dSu T))) (first | with_reducible exact s9 | with_reducible exact s10)
              (first
              | (go_at_call 99; refine (HIN.out _ HRX.out.drew).mono ?_; rintro e u6 ⟨rfl, hb⟩; have hb6 : Below u5.heap.size u5 u6 := ⟨hb.os, hb.tape, hb.output, hb.size, hb.block⟩; have HB6 := Hid.mk' hb6; have s10 : u6.cell? ⟨H, 9, none⟩ = some (.int .i64 (dSu T)) := (HHX.out.below hb6).cell 9; clear HIN hb hb6 s9)
              | (go_at_call 98; refine (HSU.out _).mono ?_; rintro e u7 ⟨rfl, hw⟩; subst u7; clear HSU))
            go_wp2_with (first
              | (refine wpList_storeRow rfl _ _ 46 rfl w.heap.size 46 _ _ rfl rfl (HZX.out.below HB6.out) infoInf6 rfl rfl ?_))
            exact bodyPost_ret (res_fdec _ w.heap.size _ 8 #[.int .i64 0, .int .i64 0, .int .i64 0, .int .i64 0, .int .i64 0, .int .i64 0] _ ((HZX.out.below HB6.out).row _) rfl rfl rfl rfl) rfl (HBAD.out _ (below_row (HBX.out.trans (HB6.out.mono HBX.out.size)) (Nat.le_refl _) _))
        · have HBAD : Hid (∀ w', Below w.heap.size w w' → DecAns (.returned (.tuple #[info0, .slice none 0 0, .int .i64 6])) w w' T) := fun w' hb => dec_bad 6 (by omega) (by
            unfold decE
            rw [if_pos hs, if_pos ⟨HY.out, HWW.out⟩, if_neg]
            rintro ⟨m', h1, h2, h3, h4⟩
            have e := h1.uniq HM.out
            subst e
            exact hsy h4) hb
          have hb2 : ((bs (headTx 1 (dCh T) (dDe T) (dBl T) (dRa T) (dSa T) (dSe T) le mo (dSu T) (pntN (lnX (T.drop (dSz T))) (dSe T) m))).toList == (bs (T.take (dSz T))).toList) = false := Bool.eq_false_iff.2 fun h => hsy (HST.out.1 (bs_inj ((str_beq _ _).1 h)))
          have HTX := HTX0
          clear hsy HTX0 HST
          generalize bs (T.take (dSz T)) = SS at *
          generalize bs (headTx 1 (dCh T) (dDe T) (dBl T) (dRa T) (dSa T) (dSe T) le mo (dSu T) (pntN (lnX (T.drop (dSz T))) (dSe T) m)) = TX at *
          go_region_held3 (fun w' => w'.cell? ⟨H, 1, none⟩ = some (.int .i64 (dCh T)) ∧ w'.cell? ⟨H, 2, none⟩ = some (.int .i64 (dDe T)) ∧ w'.cell? ⟨H, 3, none⟩ = some (.int .i64 (dBl T)) ∧ w'.cell? ⟨H, 4, none⟩ = some (.int .i64 (dRa T)) ∧ w'.cell? ⟨H, 5, none⟩ = some (.int .i64 (dSe T)) ∧ w'.cell? ⟨H, 6, none⟩ = some (.int .i64 (dSa T)) ∧ w'.cell? ⟨M, 0, none⟩ = some (.int .i64 1) ∧ w'.cell? ⟨M, 1, none⟩ = some (.int .i64 (dCh T)) ∧ w'.cell? ⟨M, 2, none⟩ = some (.int .i64 (dDe T)) ∧ w'.cell? ⟨M, 3, none⟩ = some (.int .i64 (dBl T)) ∧ w'.cell? ⟨M, 4, none⟩ = some (.int .i64 (dRa T)) ∧ w'.cell? ⟨M, 5, none⟩ = some (.int .i64 (dSe T)) ∧ w'.cell? ⟨M, 6, none⟩ = some (.int .i64 (dSa T)) ∧ w'.cell? ⟨M, 7, none⟩ = some (.int .i64 (le : Nat)) ∧ w'.cell? ⟨M, 8, none⟩ = some (.int .i64 (mo : Nat)) ∧ w'.cell? ⟨M, 9, none⟩ = some (.int .i64 (dSu T)) ∧ w'.cell? ⟨M, 10, none⟩ = some (.slice qa pl qc)) (first | with_reducible exact hS0 | with_reducible exact hS1 | with_reducible exact hS2)
          (first
          | (go_at_call 96; refine (HBL.out _).mono ?_; rintro e u4 ⟨rfl, hb⟩; have hb4 : Below U.heap.size U u4 := ⟨hb.os, hb.tape, hb.output, hb.size, hb.block⟩; have hS1 := HSS.out _ hb4; have HB4 := Hid.mk' hb4; clear hb hb4 HBL hS0)
          | (go_at_call 97; refine (HTX.out _ HB4.out).mono ?_; rintro e u5 ⟨rfl, hb⟩; have hb5 : Below U.heap.size U u5 := HB4.out.trans (hb.mono HB4.out.size); have hS2 := HSS.out _ hb5; have HB5 := Hid.mk' hb5; clear hb hb5 HTX hS1 HB4))
          go_wp2_with (first
            | (refine wpList_storeRow rfl _ _ 46 rfl w.heap.size 46 _ _ rfl rfl (HZU.out.below HB5.out) infoInf6 rfl rfl ?_))
          exact bodyPost_ret (res_fdec _ w.heap.size _ 6 #[.int .i64 0, .int .i64 0, .int .i64 0, .int .i64 0, .int .i64 0, .int .i64 0] _ ((HZU.out.below HB5.out).row _) rfl rfl rfl rfl) rfl (HBAD.out _ (below_row (HBU.out.trans (HB5.out.mono HBU.out.size)) (Nat.le_refl _) _))
      · have HBAD : Hid (∀ w', Below w.heap.size w w' → DecAns (.returned (.tuple #[info0, .slice none 0 0, .int .i64 6])) w w' T) := fun w' hb => dec_bad 6 (by omega) (by
          unfold decE
          rw [if_pos hs, if_pos ⟨HY.out, HWW.out⟩, if_neg]
          rintro ⟨m', h3, h4, h5, -⟩
          have e := h3.uniq HM.out
          subst e
          exact h2 h5) hb
        have hoff := offX_le HM.out.ok m (Nat.le_refl _)
        have q2 : ¬ (en : Int) = (T.length : Int) := by
          have h3 := HEN.out
          rw [List.length_drop] at h2
          intro e
          omega
        have q3 : ((en : Int) == (T.length : Int)) = false := beq_eq_false_iff_ne.2 q2
        have q4 : ¬ en = T.length := by omega
        have q5 : decide (en = T.length) = false := decide_eq_false q4
        have q6 : (en == T.length) = false := beq_eq_false_iff_ne.2 q4
        have q7 : (en != T.length) = true := by rw [bne, q6]; rfl
        have q8 : ((en : Int) != (T.length : Int)) = true := by rw [bne, q3]; rfl
        rw [← h1] at HBL
        clear h1 h2 hoff
        refine wp_region_held_drew (S := fun w' => w'.cell? ⟨H, 1, none⟩ = some (.int .i64 (dCh T)) ∧ w'.cell? ⟨H, 2, none⟩ = some (.int .i64 (dDe T)) ∧ w'.cell? ⟨H, 3, none⟩ = some (.int .i64 (dBl T)) ∧ w'.cell? ⟨H, 4, none⟩ = some (.int .i64 (dRa T)) ∧ w'.cell? ⟨H, 5, none⟩ = some (.int .i64 (dSe T)) ∧ w'.cell? ⟨H, 6, none⟩ = some (.int .i64 (dSa T)) ∧ w'.cell? ⟨M, 0, none⟩ = some (.int .i64 1) ∧ w'.cell? ⟨M, 1, none⟩ = some (.int .i64 (dCh T)) ∧ w'.cell? ⟨M, 2, none⟩ = some (.int .i64 (dDe T)) ∧ w'.cell? ⟨M, 3, none⟩ = some (.int .i64 (dBl T)) ∧ w'.cell? ⟨M, 4, none⟩ = some (.int .i64 (dRa T)) ∧ w'.cell? ⟨M, 5, none⟩ = some (.int .i64 (dSe T)) ∧ w'.cell? ⟨M, 6, none⟩ = some (.int .i64 (dSa T)) ∧ w'.cell? ⟨M, 7, none⟩ = some (.int .i64 (le : Nat)) ∧ w'.cell? ⟨M, 8, none⟩ = some (.int .i64 (mo : Nat)) ∧ w'.cell? ⟨M, 9, none⟩ = some (.int .i64 (dSu T)) ∧ w'.cell? ⟨M, 10, none⟩ = some (.slice qa pl qc)) (by kernel_rfl) hS0 (fun hHeld => ?_)
        refine wpAnyH_take (i := 0) (v := ?_) rfl (by kernel_rfl) (by kernel_rfl) (by kernel_rfl) (fun _ _ _ h => h) (Or.inl ⟨by rfl, ?_⟩) (by assumption) ?_
        rotate_left
        · (intro w hSw; (try dsimp only at hSw); go_simp; try with_reducible rfl)
        try simp only [List.getElem_toArray, List.getElem_cons_succ, List.getElem_cons_zero, Act.put, List.setIfInBounds_toArray, List.set_cons_zero, List.set_cons_succ]
        refine wpAnyH_take (i := 1) (v := ?_) rfl (by kernel_rfl) (by kernel_rfl) (by kernel_rfl) (fun _ _ _ h => h) (Or.inl ⟨by rfl, ?_⟩) (by assumption) ?_
        rotate_left
        · (intro w hSw; (try dsimp only at hSw); go_simp; try with_reducible rfl)
        try simp only [List.getElem_toArray, List.getElem_cons_succ, List.getElem_cons_zero, Act.put, List.setIfInBounds_toArray, List.set_cons_zero, List.set_cons_succ]
        refine wpAnyH_take (i := 2) (v := ?_) rfl (by kernel_rfl) (by kernel_rfl) (by kernel_rfl) (fun _ _ _ h => h) (Or.inl ⟨by rfl, ?_⟩) (by assumption) ?_
        rotate_left
        · (intro w hSw; (try dsimp only at hSw); go_simp; try with_reducible rfl)
        try simp only [List.getElem_toArray, List.getElem_cons_succ, List.getElem_cons_zero, Act.put, List.setIfInBounds_toArray, List.set_cons_zero, List.set_cons_succ]
        refine wpAnyH_take (i := 3) (v := ?_) rfl (by kernel_rfl) (by kernel_rfl) (by kernel_rfl) (fun _ _ _ h => h) (Or.inl ⟨by rfl, ?_⟩) (by assumption) ?_
        rotate_left
        · (intro w hSw; (try dsimp only at hSw); go_simp; try with_reducible rfl)
        try simp only [List.getElem_toArray, List.getElem_cons_succ, List.getElem_cons_zero, Act.put, List.setIfInBounds_toArray, List.set_cons_zero, List.set_cons_succ]
        refine wpAnyH_ready (rs := [4]) (by kernel_rfl) (by simp) ?_
        refine AllReadyH.cons rfl (fun K hK => ?_) AllReadyH.nil
        go_simp
        go_at_call 96; refine (HBL.out _).mono ?_; rintro e u4 ⟨rfl, hb⟩; have hb4 : Below U.heap.size U u4 := ⟨hb.os, hb.tape, hb.output, hb.size, hb.block⟩; have hS1 := HSS.out _ hb4; have HB4 := Hid.mk' hb4; clear hb hb4 HBL hS0
        go_wp2_with fail
        refine hK.out _ _ hS1 (fun hHeld => ?_)
        clear hK K
        try simp only [List.getElem_toArray, List.getElem_cons_succ, List.getElem_cons_zero, Act.put, List.setIfInBounds_toArray, List.set_cons_zero, List.set_cons_succ]
        refine wpAnyH_take (i := 5) (v := ?_) rfl (by kernel_rfl) (by kernel_rfl) (by kernel_rfl) (fun _ _ _ h => h) (Or.inl ⟨by rfl, ?_⟩) (by assumption) ?_
        rotate_left
        · (intro w hSw; (try dsimp only at hSw); go_simp; try with_reducible rfl)
        try simp only [List.getElem_toArray, List.getElem_cons_succ, List.getElem_cons_zero, Act.put, List.setIfInBounds_toArray, List.set_cons_zero, List.set_cons_succ]
        refine wpAnyH_take (i := 6) (v := ?_) rfl (by kernel_rfl) (by kernel_rfl) (by kernel_rfl) (fun _ _ _ h => h) (Or.inl ⟨by rfl, ?_⟩) (by assumption) ?_
        rotate_left
        · (intro w hSw; (try dsimp only at hSw); go_simp; try with_reducible rfl)
        try simp only [List.getElem_toArray, List.getElem_cons_succ, List.getElem_cons_zero, Act.put, List.setIfInBounds_toArray, List.set_cons_zero, List.set_cons_succ]
        refine wpAnyH_take (i := 7) (v := ?_) rfl (by kernel_rfl) (by kernel_rfl) (by kernel_rfl) (fun _ _ _ h => h) (Or.inl ⟨by rfl, ?_⟩) (by assumption) ?_
        rotate_left
        · (intro w hSw; (try dsimp only at hSw); go_simp; try with_reducible rfl)
        try simp only [List.getElem_toArray, List.getElem_cons_succ, List.getElem_cons_zero, Act.put, List.setIfInBounds_toArray, List.set_cons_zero, List.set_cons_succ]
        refine wpAnyH_take (i := 8) (v := ?_) rfl (by kernel_rfl) (by kernel_rfl) (by kernel_rfl) (fun _ _ _ h => h) (Or.inl ⟨by rfl, ?_⟩) (by assumption) ?_
        rotate_left
        · (intro w hSw; (try dsimp only at hSw); go_simp; try with_reducible rfl)
        try simp only [List.getElem_toArray, List.getElem_cons_succ, List.getElem_cons_zero, Act.put, List.setIfInBounds_toArray, List.set_cons_zero, List.set_cons_succ]
        refine wpAnyH_take (i := 9) (v := ?_) rfl (by kernel_rfl) (by kernel_rfl) (by kernel_rfl) (fun _ _ _ h => h) (Or.inl ⟨by rfl, ?_⟩) (by assumption) ?_
        rotate_left
        · (intro w hSw; (try dsimp only at hSw); go_simp; try with_reducible rfl)
        try simp only [List.getElem_toArray, List.getElem_cons_succ, List.getElem_cons_zero, Act.put, List.setIfInBounds_toArray, List.set_cons_zero, List.set_cons_succ]
        refine wpAnyH_take (i := 10) (v := ?_) rfl (by kernel_rfl) (by kernel_rfl) (by kernel_rfl) (fun _ _ _ h => h) (Or.inl ⟨by rfl, ?_⟩) (by assumption) ?_
        rotate_left
        · (intro w hSw; (try dsimp only at hSw); go_simp; try with_reducible rfl)
        try simp only [List.getElem_toArray, List.getElem_cons_succ, List.getElem_cons_zero, Act.put, List.setIfInBounds_toArray, List.set_cons_zero, List.set_cons_succ]
        refine wpAnyH_take (i := 11) (v := ?_) rfl (by kernel_rfl) (by kernel_rfl) (by kernel_rfl) (fun _ _ _ h => h) (Or.inl ⟨by rfl, ?_⟩) (by assumption) ?_
        rotate_left
        · (intro w hSw; (try dsimp only at hSw); go_simp; try with_reducible rfl)
        try simp only [List.getElem_toArray, List.getElem_cons_succ, List.getElem_cons_zero, Act.put, List.setIfInBounds_toArray, List.set_cons_zero, List.set_cons_succ]
        refine wpAnyH_take (i := 12) (v := ?_) rfl (by kernel_rfl) (by kernel_rfl) (by kernel_rfl) (fun _ _ _ h => h) (Or.inl ⟨by rfl, ?_⟩) (by assumption) ?_
        rotate_left
        · (intro w hSw; (try dsimp only at hSw); go_simp; try with_reducible rfl)
        try simp only [List.getElem_toArray, List.getElem_cons_succ, List.getElem_cons_zero, Act.put, List.setIfInBounds_toArray, List.set_cons_zero, List.set_cons_succ]
        refine wpAnyH_take (i := 13) (v := undef) rfl (by kernel_rfl) (by kernel_rfl) (by kernel_rfl) (fun _ _ _ h => h) (Or.inr ⟨by rfl, rfl⟩) (by assumption) ?_
        try simp only [List.getElem_toArray, List.getElem_cons_succ, List.getElem_cons_zero, Act.put, List.setIfInBounds_toArray, List.set_cons_zero, List.set_cons_succ]
        refine wpAnyH_take (i := 15) (v := undef) rfl (by kernel_rfl) (by kernel_rfl) (by kernel_rfl) (fun _ _ _ h => h) (Or.inr ⟨by rfl, rfl⟩) (by assumption) ?_
        try simp only [List.getElem_toArray, List.getElem_cons_succ, List.getElem_cons_zero, Act.put, List.setIfInBounds_toArray, List.set_cons_zero, List.set_cons_succ]
        refine wpAnyH_take (i := 16) (v := undef) rfl (by kernel_rfl) (by kernel_rfl) (by kernel_rfl) (fun _ _ _ h => h) (Or.inr ⟨by rfl, rfl⟩) (by assumption) ?_
        try simp only [List.getElem_toArray, List.getElem_cons_succ, List.getElem_cons_zero, Act.put, List.setIfInBounds_toArray, List.set_cons_zero, List.set_cons_succ]
        refine wpAnyH_take (i := 14) (v := undef) rfl (by kernel_rfl) (by kernel_rfl) (by kernel_rfl) (fun _ _ _ h => h) (Or.inr ⟨by rfl, rfl⟩) (by assumption) ?_
        try simp only [List.getElem_toArray, List.getElem_cons_succ, List.getElem_cons_zero, Act.put, List.setIfInBounds_toArray, List.set_cons_zero, List.set_cons_succ]
        refine wpAnyH_take (i := 17) (v := undef) rfl (by kernel_rfl) (by kernel_rfl) (by kernel_rfl) (fun _ _ _ h => h) (Or.inr ⟨by rfl, rfl⟩) (by assumption) ?_
        try simp only [List.getElem_toArray, List.getElem_cons_succ, List.getElem_cons_zero, Act.put, List.setIfInBounds_toArray, List.set_cons_zero, List.set_cons_succ]
        refine wpAnyH_take (i := 18) (v := undef) rfl (by kernel_rfl) (by kernel_rfl) (by kernel_rfl) (fun _ _ _ h => h) (Or.inr ⟨by rfl, rfl⟩) (by assumption) ?_
        try simp only [List.getElem_toArray, List.getElem_cons_succ, List.getElem_cons_zero, Act.put, List.setIfInBounds_toArray, List.set_cons_zero, List.set_cons_succ]
        refine wpAnyH_take (i := 19) (v := ?_) rfl (by kernel_rfl) (by kernel_rfl) (by kernel_rfl) (fun _ _ _ h => h) (Or.inl ⟨by rfl, ?_⟩) (by assumption) ?_
        rotate_left
        · (intro w hSw; (try dsimp only at hSw); go_simp; try with_reducible rfl)
        try simp only [List.getElem_toArray, List.getElem_cons_succ, List.getElem_cons_zero, Act.put, List.setIfInBounds_toArray, List.set_cons_zero, List.set_cons_succ]
        refine wpAnyH_done (by kernel_rfl) ?_ _
        go_wp2_with (first
          | (refine wpList_storeRow rfl _ _ 46 rfl w.heap.size 46 _ _ rfl rfl (HZU.out.below HB4.out) infoInf6 rfl rfl ?_))
        exact bodyPost_ret (res_fdec _ w.heap.size _ 6 #[.int .i64 0, .int .i64 0, .int .i64 0, .int .i64 0, .int .i64 0, .int .i64 0] _ ((HZU.out.below HB4.out).row _) rfl rfl rfl rfl) rfl (HBAD.out _ (below_row (HBU.out.trans (HB4.out.mono HBU.out.size)) (Nat.le_refl _) _))
    · have HBAD : Hid (∀ w', Below w.heap.size w w' → DecAns (.returned (.tuple #[info0, .slice none 0 0, .int .i64 6])) w w' T) := fun w' hb => dec_bad 6 (by omega) (by
        unfold decE
        rw [if_pos hs, if_pos ⟨HY.out, HWW.out⟩, if_neg]
        rintro ⟨m', h3, h4, -, -⟩
        have e := h3.uniq HM.out
        subst e
        exact h1 h4) hb
      have q1 : ((m : Int) == (nBlk (dSa T) (dBl T) : Int)) = false := beq_eq_false_iff_ne.2 (by omega)
      have q2 : ¬ (m : Int) = (nBlk (dSa T) (dBl T) : Int) := by omega
      have q3 : decide (m = nBlk (dSa T) (dBl T)) = false := decide_eq_false h1
      have q4 : (m == nBlk (dSa T) (dBl T)) = false := beq_eq_false_iff_ne.2 h1
      have q5 : (m != nBlk (dSa T) (dBl T)) = true := by rw [bne, q4]; rfl
      have q6 : ((m : Int) != (nBlk (dSa T) (dBl T) : Int)) = true := by rw [bne, q1]; rfl
      refine wp_region_held_drew (S := fun w' => w'.cell? ⟨H, 1, none⟩ = some (.int .i64 (dCh T)) ∧ w'.cell? ⟨H, 2, none⟩ = some (.int .i64 (dDe T)) ∧ w'.cell? ⟨H, 3, none⟩ = some (.int .i64 (dBl T)) ∧ w'.cell? ⟨H, 4, none⟩ = some (.int .i64 (dRa T)) ∧ w'.cell? ⟨H, 5, none⟩ = some (.int .i64 (dSe T)) ∧ w'.cell? ⟨H, 6, none⟩ = some (.int .i64 (dSa T)) ∧ w'.cell? ⟨M, 0, none⟩ = some (.int .i64 1) ∧ w'.cell? ⟨M, 1, none⟩ = some (.int .i64 (dCh T)) ∧ w'.cell? ⟨M, 2, none⟩ = some (.int .i64 (dDe T)) ∧ w'.cell? ⟨M, 3, none⟩ = some (.int .i64 (dBl T)) ∧ w'.cell? ⟨M, 4, none⟩ = some (.int .i64 (dRa T)) ∧ w'.cell? ⟨M, 5, none⟩ = some (.int .i64 (dSe T)) ∧ w'.cell? ⟨M, 6, none⟩ = some (.int .i64 (dSa T)) ∧ w'.cell? ⟨M, 7, none⟩ = some (.int .i64 (le : Nat)) ∧ w'.cell? ⟨M, 8, none⟩ = some (.int .i64 (mo : Nat)) ∧ w'.cell? ⟨M, 9, none⟩ = some (.int .i64 (dSu T)) ∧ w'.cell? ⟨M, 10, none⟩ = some (.slice qa pl qc)) (by kernel_rfl) hS0 (fun hHeld => ?_)
      refine wpAnyH_take (i := 0) (v := ?_) rfl (by kernel_rfl) (by kernel_rfl) (by kernel_rfl) (fun _ _ _ h => h) (Or.inl ⟨by rfl, ?_⟩) (by assumption) ?_
      rotate_left
      · (intro w hSw; (try dsimp only at hSw); go_simp; try with_reducible rfl)
      try simp only [List.getElem_toArray, List.getElem_cons_succ, List.getElem_cons_zero, Act.put, List.setIfInBounds_toArray, List.set_cons_zero, List.set_cons_succ]
      refine wpAnyH_take (i := 1) (v := ?_) rfl (by kernel_rfl) (by kernel_rfl) (by kernel_rfl) (fun _ _ _ h => h) (Or.inl ⟨by rfl, ?_⟩) (by assumption) ?_
      rotate_left
      · (intro w hSw; (try dsimp only at hSw); go_simp; try with_reducible rfl)
      try simp only [List.getElem_toArray, List.getElem_cons_succ, List.getElem_cons_zero, Act.put, List.setIfInBounds_toArray, List.set_cons_zero, List.set_cons_succ]
      refine wpAnyH_take (i := 2) (v := ?_) rfl (by kernel_rfl) (by kernel_rfl) (by kernel_rfl) (fun _ _ _ h => h) (Or.inl ⟨by rfl, ?_⟩) (by assumption) ?_
      rotate_left
      · (intro w hSw; (try dsimp only at hSw); go_simp; try with_reducible rfl)
      try simp only [List.getElem_toArray, List.getElem_cons_succ, List.getElem_cons_zero, Act.put, List.setIfInBounds_toArray, List.set_cons_zero, List.set_cons_succ]
      refine wpAnyH_take (i := 3) (v := ?_) rfl (by kernel_rfl) (by kernel_rfl) (by kernel_rfl) (fun _ _ _ h => h) (Or.inl ⟨by rfl, ?_⟩) (by assumption) ?_
      rotate_left
      · (intro w hSw; (try dsimp only at hSw); go_simp; try with_reducible rfl)
      try simp only [List.getElem_toArray, List.getElem_cons_succ, List.getElem_cons_zero, Act.put, List.setIfInBounds_toArray, List.set_cons_zero, List.set_cons_succ]
      refine wpAnyH_ready (rs := [4]) (by kernel_rfl) (by simp) ?_
      refine AllReadyH.cons rfl (fun K hK => ?_) AllReadyH.nil
      go_simp
      go_at_call 96; refine (HBL.out _).mono ?_; rintro e u4 ⟨rfl, hb⟩; have hb4 : Below U.heap.size U u4 := ⟨hb.os, hb.tape, hb.output, hb.size, hb.block⟩; have hS1 := HSS.out _ hb4; have HB4 := Hid.mk' hb4; clear hb hb4 HBL hS0
      go_wp2_with fail
      refine hK.out _ _ hS1 (fun hHeld => ?_)
      clear hK K
      try simp only [List.getElem_toArray, List.getElem_cons_succ, List.getElem_cons_zero, Act.put, List.setIfInBounds_toArray, List.set_cons_zero, List.set_cons_succ]
      refine wpAnyH_take (i := 5) (v := ?_) rfl (by kernel_rfl) (by kernel_rfl) (by kernel_rfl) (fun _ _ _ h => h) (Or.inl ⟨by rfl, ?_⟩) (by assumption) ?_
      rotate_left
      · (intro w hSw; (try dsimp only at hSw); go_simp; try with_reducible rfl)
      try simp only [List.getElem_toArray, List.getElem_cons_succ, List.getElem_cons_zero, Act.put, List.setIfInBounds_toArray, List.set_cons_zero, List.set_cons_succ]
      refine wpAnyH_take (i := 6) (v := ?_) rfl (by kernel_rfl) (by kernel_rfl) (by kernel_rfl) (fun _ _ _ h => h) (Or.inl ⟨by rfl, ?_⟩) (by assumption) ?_
      rotate_left
      · (intro w hSw; (try dsimp only at hSw); go_simp; try with_reducible rfl)
      try simp only [List.getElem_toArray, List.getElem_cons_succ, List.getElem_cons_zero, Act.put, List.setIfInBounds_toArray, List.set_cons_zero, List.set_cons_succ]
      refine wpAnyH_take (i := 7) (v := undef) rfl (by kernel_rfl) (by kernel_rfl) (by kernel_rfl) (fun _ _ _ h => h) (Or.inr ⟨by rfl, rfl⟩) (by assumption) ?_
      try simp only [List.getElem_toArray, List.getElem_cons_succ, List.getElem_cons_zero, Act.put, List.setIfInBounds_toArray, List.set_cons_zero, List.set_cons_succ]
      refine wpAnyH_take (i := 8) (v := undef) rfl (by kernel_rfl) (by kernel_rfl) (by kernel_rfl) (fun _ _ _ h => h) (Or.inr ⟨by rfl, rfl⟩) (by assumption) ?_
      try simp only [List.getElem_toArray, List.getElem_cons_succ, List.getElem_cons_zero, Act.put, List.setIfInBounds_toArray, List.set_cons_zero, List.set_cons_succ]
      refine wpAnyH_take (i := 9) (v := undef) rfl (by kernel_rfl) (by kernel_rfl) (by kernel_rfl) (fun _ _ _ h => h) (Or.inr ⟨by rfl, rfl⟩) (by assumption) ?_
      try simp only [List.getElem_toArray, List.getElem_cons_succ, List.getElem_cons_zero, Act.put, List.setIfInBounds_toArray, List.set_cons_zero, List.set_cons_succ]
      refine wpAnyH_take (i := 10) (v := undef) rfl (by kernel_rfl) (by kernel_rfl) (by kernel_rfl) (fun _ _ _ h => h) (Or.inr ⟨by rfl, rfl⟩) (by assumption) ?_
      try simp only [List.getElem_toArray, List.getElem_cons_succ, List.getElem_cons_zero, Act.put, List.setIfInBounds_toArray, List.set_cons_zero, List.set_cons_succ]
      refine wpAnyH_take (i := 11) (v := ?_) rfl (by kernel_rfl) (by kernel_rfl) (by kernel_rfl) (fun _ _ _ h => h) (Or.inl ⟨by rfl, ?_⟩) (by assumption) ?_
      rotate_left
      · (intro w hSw; (try dsimp only at hSw); go_simp; try with_reducible rfl)
      try simp only [List.getElem_toArray, List.getElem_cons_succ, List.getElem_cons_zero, Act.put, List.setIfInBounds_toArray, List.set_cons_zero, List.set_cons_succ]
      refine wpAnyH_take (i := 12) (v := ?_) rfl (by kernel_rfl) (by kernel_rfl) (by kernel_rfl) (fun _ _ _ h => h) (Or.inl ⟨by rfl, ?_⟩) (by assumption) ?_
      rotate_left
      · (intro w hSw; (try dsimp only at hSw); go_simp; try with_reducible rfl)
      try simp only [List.getElem_toArray, List.getElem_cons_succ, List.getElem_cons_zero, Act.put, List.setIfInBounds_toArray, List.set_cons_zero, List.set_cons_succ]
      refine wpAnyH_take (i := 13) (v := undef) rfl (by kernel_rfl) (by kernel_rfl) (by kernel_rfl) (fun _ _ _ h => h) (Or.inr ⟨by rfl, rfl⟩) (by assumption) ?_
      try simp only [List.getElem_toArray, List.getElem_cons_succ, List.getElem_cons_zero, Act.put, List.setIfInBounds_toArray, List.set_cons_zero, List.set_cons_succ]
      refine wpAnyH_take (i := 15) (v := undef) rfl (by kernel_rfl) (by kernel_rfl) (by kernel_rfl) (fun _ _ _ h => h) (Or.inr ⟨by rfl, rfl⟩) (by assumption) ?_
      try simp only [List.getElem_toArray, List.getElem_cons_succ, List.getElem_cons_zero, Act.put, List.setIfInBounds_toArray, List.set_cons_zero, List.set_cons_succ]
      refine wpAnyH_take (i := 16) (v := undef) rfl (by kernel_rfl) (by kernel_rfl) (by kernel_rfl) (fun _ _ _ h => h) (Or.inr ⟨by rfl, rfl⟩) (by assumption) ?_
      try simp only [List.getElem_toArray, List.getElem_cons_succ, List.getElem_cons_zero, Act.put, List.setIfInBounds_toArray, List.set_cons_zero, List.set_cons_succ]
      refine wpAnyH_take (i := 14) (v := undef) rfl (by kernel_rfl) (by kernel_rfl) (by kernel_rfl) (fun _ _ _ h => h) (Or.inr ⟨by rfl, rfl⟩) (by assumption) ?_
      try simp only [List.getElem_toArray, List.getElem_cons_succ, List.getElem_cons_zero, Act.put, List.setIfInBounds_toArray, List.set_cons_zero, List.set_cons_succ]
      refine wpAnyH_take (i := 17) (v := undef) rfl (by kernel_rfl) (by kernel_rfl) (by kernel_rfl) (fun _ _ _ h => h) (Or.inr ⟨by rfl, rfl⟩) (by assumption) ?_
      try simp only [List.getElem_toArray, List.getElem_cons_succ, List.getElem_cons_zero, Act.put, List.setIfInBounds_toArray, List.set_cons_zero, List.set_cons_succ]
      refine wpAnyH_take (i := 18) (v := undef) rfl (by kernel_rfl) (by kernel_rfl) (by kernel_rfl) (fun _ _ _ h => h) (Or.inr ⟨by rfl, rfl⟩) (by assumption) ?_
      try simp only [List.getElem_toArray, List.getElem_cons_succ, List.getElem_cons_zero, Act.put, List.setIfInBounds_toArray, List.set_cons_zero, List.set_cons_succ]
      refine wpAnyH_take (i := 19) (v := ?_) rfl (by kernel_rfl) (by kernel_rfl) (by kernel_rfl) (fun _ _ _ h => h) (Or.inl ⟨by rfl, ?_⟩) (by assumption) ?_
      rotate_left
      · (intro w hSw; (try dsimp only at hSw); go_simp; try with_reducible rfl)
      try simp only [List.getElem_toArray, List.getElem_cons_succ, List.getElem_cons_zero, Act.put, List.setIfInBounds_toArray, List.set_cons_zero, List.set_cons_succ]
      refine wpAnyH_done (by kernel_rfl) ?_ _
      go_wp2_with (first
        | (refine wpList_storeRow rfl _ _ 46 rfl w.heap.size 46 _ _ rfl rfl (HZU.out.below HB4.out) infoInf6 rfl rfl ?_))
      exact bodyPost_ret (res_fdec _ w.heap.size _ 6 #[.int .i64 0, .int .i64 0, .int .i64 0, .int .i64 0, .int .i64 0, .int .i64 0] _ ((HZU.out.below HB4.out).row _) rfl rfl rfl rfl) rfl (HBAD.out _ (below_row (HBU.out.trans (HB4.out.mono HBU.out.size)) (Nat.le_refl _) _))
  · have HNM := Hid.mk' hm
    clear hp hw hT hT3 hm
    generalize bs T = SB at *
    go_enter Tryz.func52, Tryz.ntmps52
    go_wp2_with (first
      | (go_at_call 93; refine (HHR.out _).mono ?_; intro e u1 ho; obtain ⟨pa, pc, rfl, hown, hb⟩ := ho.yes HY.out; have HZ1 := Hid.mk' (HZ0.out.below hb); have HB1 := Hid.mk' (HB0.out.trans (hb.mono HB0.out.size)); clear HHR ho hb HZ0 HB0 hown)
      | (go_at_call 94; refine (HRN.out _ (HB1.out.alloc HB1.out.size _)).mono ?_; intro e u2 ho; obtain ⟨m', gl, la, lc, rfl, hri, hrow, hl, hb⟩ := ho; exact absurd ⟨m', hri⟩ HNM.out))
/-- what the document answers, whatever the text -/
theorem refDecode_any (T : List UInt8) (w : World) (hs2 : T.length ≤ 9223372036854775807) (hT : TabAt w 3) (hT3 : 3 < w.heap.size) :
    Calls Tryz.prog 52 #[.string (bs T)] w fun e w' => DecAns e w w' T := by
  by_cases hs : T.length ≤ 9000
  · by_cases hp : HdP T ∧ dWh T = 1
    · exact refDecode_rest T w hs hp.1 hp.2 hT hT3
    · exact refDecode_head T w hs hp
  · exact refDecode_long T w hs hs2
end Go.Proofs.YtlncjgnomhpjnaaGreatDoor

