import Derived.Test.YtlncjgnomhpjnabGreatDoorQU49
import Derived.Test.YtlncjgnomhpjnabGreatDoorQU48
/-
  The program reads from a place on: stream.From, the frames.
-/
namespace Go.Proofs.YtlncjgnomhpjnabGreatDoor
open Go.RowKit Go.Deep
set_option linter.unusedVariables false
/-- what lies in memory when the frames are read -/
structure FrmI (T X : List UInt8) (kk : Nat) (w wx : World) (H g gl m : Nat) (la : Option Addr) (lc : Nat) (pa : Option Addr) (pc : Nat) (bf : Bool) : Prop where
  flag : bf = true ↔ (kk + m = nBlk (dSa T) (dBl T) ∧ offX X m = X.length)
  hd : Bx wx H 110 #[.int .i64 (dCh T), .int .i64 (dDe T), .int .i64 (dBl T), .int .i64 (dRa T), .int .i64 (dSe T), .int .i64 (dSa T), .bool true, .int .i64 (dLe T), .int .i64 (dMo T), .int .i64 (dSu T), .slice pa (dNp T) pc]
  r : Bx wx g 117 #[(.slice (some ⟨gl, 0, none⟩) (dCh T) (dCh T)), .slice la m lc, .bool bf]
  run : RunIs (dCh T) (dDe T) (dBl T) (dSa T) kk X m
  rows : RowsL w.heap.size wx (.slice (some ⟨gl, 0, none⟩) (dCh T) (dCh T)) (dCh T) (chN (dBl T) (dSa T) kk m) (smpL (dCh T) (dDe T) (dBl T) (dSa T) kk X m)
  below : Below w.heap.size w wx
/-- r lies behind what was read -/
theorem frmI_one {T X : List UInt8} {kk : Nat} {w U u2 : World} {H gl m : Nat} {la : Option Addr} {lc : Nat} {pa : Option Addr} {pc : Nat} {bf : Bool} (hfl : bf = true ↔ (kk + m = nBlk (dSa T) (dBl T) ∧ offX X m = X.length)) (hh : Bx U H 110 #[.int .i64 (dCh T), .int .i64 (dDe T), .int .i64 (dBl T), .int .i64 (dRa T), .int .i64 (dSe T), .int .i64 (dSa T), .bool true, .int .i64 (dLe T), .int .i64 (dMo T), .int .i64 (dSu T), .slice pa (dNp T) pc]) (hb0 : Below w.heap.size w U)
    (hr : RunIs (dCh T) (dDe T) (dBl T) (dSa T) kk X m) (hrow : RowsL U.drew.heap.size u2 (.slice (some ⟨gl, 0, none⟩) (dCh T) (dCh T)) (dCh T) (chN (dBl T) (dSa T) kk m) (smpL (dCh T) (dDe T) (dBl T) (dSa T) kk X m)) (hb : Below U.drew.heap.size U.drew u2) :
    FrmI T X kk w (u2.alloc (.cells #[(.slice (some ⟨gl, 0, none⟩) (dCh T) (dCh T)), .slice la m lc, .bool bf] 117)) H u2.heap.size gl m la lc pa pc bf := by
  have hb' : Below U.heap.size U u2 := ⟨hb.os, hb.tape, hb.output, hb.size, hb.block⟩
  have hs : w.heap.size ≤ U.drew.heap.size := hb0.size
  exact ⟨hfl, (hh.below hb').alloc _, Bx.new _ _ _, hr, (hrow.mono hs).below ((Below.refl _ _).alloc (Nat.le_refl _) _), (hb0.trans (hb'.mono hb0.size)).alloc (Nat.le_trans hb0.size hb'.size) _⟩
/-- r lies ahead of what was read -/
theorem frmI_two {T X : List UInt8} {kk : Nat} {w U u2 : World} {H gl m : Nat} {la : Option Addr} {lc : Nat} {pa : Option Addr} {pc : Nat} {bf : Bool} (hfl : bf = true ↔ (kk + m = nBlk (dSa T) (dBl T) ∧ offX X m = X.length)) (hh : Bx U H 110 #[.int .i64 (dCh T), .int .i64 (dDe T), .int .i64 (dBl T), .int .i64 (dRa T), .int .i64 (dSe T), .int .i64 (dSa T), .bool true, .int .i64 (dLe T), .int .i64 (dMo T), .int .i64 (dSu T), .slice pa (dNp T) pc]) (hb0 : Below w.heap.size w U)
    (hr : RunIs (dCh T) (dDe T) (dBl T) (dSa T) kk X m) (hrow : RowsL (U.alloc (.cells #[.slice none 0 0, .slice none 0 0, .bool false] 117)).drew.heap.size u2 (.slice (some ⟨gl, 0, none⟩) (dCh T) (dCh T)) (dCh T) (chN (dBl T) (dSa T) kk m) (smpL (dCh T) (dDe T) (dBl T) (dSa T) kk X m)) (hb : Below (U.alloc (.cells #[.slice none 0 0, .slice none 0 0, .bool false] 117)).drew.heap.size (U.alloc (.cells #[.slice none 0 0, .slice none 0 0, .bool false] 117)).drew u2) :
    FrmI T X kk w (((u2.setCell ⟨U.heap.size, 0, none⟩ (.slice (some ⟨gl, 0, none⟩) (dCh T) (dCh T))).setCell ⟨U.heap.size, 1, none⟩ (.slice la m lc)).setCell ⟨U.heap.size, 2, none⟩ (.bool bf)) H U.heap.size gl m la lc pa pc bf := by
  have hA : (U.alloc (.cells #[.slice none 0 0, .slice none 0 0, .bool false] 117)).drew.heap.size = U.heap.size + 1 := by simp
  have hb' : Below U.heap.size U u2 := ((Below.refl _ _).alloc (Nat.le_refl _) _ : Below U.heap.size U (U.alloc (.cells #[.slice none 0 0, .slice none 0 0, .bool false] 117))).trans ((⟨hb.os, hb.tape, hb.output, hb.size, hb.block⟩ : Below (U.alloc (.cells #[.slice none 0 0, .slice none 0 0, .bool false] 117)).heap.size (U.alloc (.cells #[.slice none 0 0, .slice none 0 0, .bool false] 117)) u2).mono (by simp))
  have hs := hb0.size
  have hu := hb.size
  rw [hA] at hu
  have hg := set3_grown u2 U.heap.size (.slice (some ⟨gl, 0, none⟩) (dCh T) (dCh T)) (.slice la m lc) (.bool bf)
  have hhl := hh.lt
  have hne : ∀ k, k ≠ U.heap.size → some k ≠ some U.heap.size := fun k h e => h (by injection e)
  refine ⟨hfl, (hh.below hb').of (hg.block _ (by omega) (hne _ (by omega))), ?_, hr, ?_, ?_⟩
  · exact ((Bx.new U _ _).below (⟨hb.os, hb.tape, hb.output, hb.size, hb.block⟩ : Below (U.alloc (.cells #[.slice none 0 0, .slice none 0 0, .bool false] 117)).heap.size (U.alloc (.cells #[.slice none 0 0, .slice none 0 0, .bool false] 117)) u2)).set3 _ _ _
  · exact (hrow.grown hg (by omega)).mono (by omega)
  · exact (hb0.trans (hb'.mono hb0.size)).grown hg (Nat.le_trans hb0.size hb'.size) (fun k hk => by injection hk with hk; omega)
set_option maxRecDepth 4000 in
set_option maxHeartbeats 2000000 in
/-- the frame would stand beyond the text -/
theorem streamFrom_short (T : List UInt8) (a : Nat) (w : World) (hs : T.length ≤ 9000) (hp : HdP T) (hw : dWh T = 1) (ha : a < dSa T) (hB : T.length - dSz T < stB T a) (hB2 : stB T a ≤ 1000000) :
    Calls Tryz.prog 37 #[.string (bs T), .int .i64 a] w fun e w' => FrmAns e w w' T a := by
  obtain ⟨b1, b2, b3, b4, b5, b6, b7, b8, b9, b10, b11⟩ := hd_bd hp
  have hz : (bs T).size = T.length := bs_size T
  have HHR := Hid.mk' (fun u => headRead_any T u hs)
  have HWI := Hid.mk' (fun u => within_any a 0 (dSa T) u)
  have hwf : within a 0 (dSa T) = true := by
    rw [within_iff]
    omega
  rw [hwf] at HWI
  have HSA := Hid.mk' (fun (u : World) (pv : Value) (base : Nat) ho => start_any T a pv base u hp ha ho)
  unfold hdC at HSA
  have n1 : ¬ (a : Int) = (dSa T : Int) := by omega
  have n2 : ((a : Int) == (dSa T : Int)) = false := beq_eq_false_iff_ne.2 n1
  have n3 : ¬ a = dSa T := by omega
  have HBAD : Hid (∀ w', Below w.heap.size w w' → FrmAns (.returned (.tuple #[.slice none 0 0, .int .i64 6])) w w' T a) := fun w' hb => frm_bad 6 (by omega) (by
    unfold frmE
    rw [if_pos hs, if_pos ⟨hp, hw⟩, if_pos ⟨by omega, by omega⟩, if_neg]
    rintro (h | ⟨h, -⟩)
    · omega
    · rw [Int.toNat_natCast] at h; omega) hb
  have HY := Hid.mk' hp
  have HW : Hid (decide (dWh T = 1) = true) := decide_eq_true hw
  clear hp hw hwf
  generalize stB T a = bb at *
  generalize stN T a = kk at *
  have w1 : IntKind.i64.wrap ((T.length : Int) - (dSz T : Int)) = ((T.length - dSz T : Nat) : Int) := by rw [IntKind.wrap_i64]; omega
  have q1 : ((T.length - dSz T : Nat) : Int) < (bb : Int) := by omega
  generalize T.length - dSz T = rest at *
  generalize bs T = SB at *
  go_enter Tryz.func37, Tryz.ntmps37
  go_wp2_with (first
    | (go_at_call 69; refine (HHR.out _).mono ?_; intro e u1 ho; obtain ⟨pa, pc, rfl, hown, hb⟩ := ho.yes HY.out HW.out; have HB1 := Hid.mk' hb; have HO1 := Hid.mk' hown; clear HHR ho hb hown)
    | (go_at_call 70; refine (HWI.out _).mono ?_; rintro e u2 ⟨rfl, hw⟩; subst u2; clear HWI)
    | (go_at_call 71; refine (HSA.out _ _ _ (HO1.out.alloc _)).mono ?_; rintro e u3 ⟨rfl, hb⟩; have HB3 := Hid.mk' hb; clear HSA hb))
  go_ret2
  exact HBAD.out _ ((HB1.out.alloc HB1.out.size _).trans (HB3.out.mono (HB1.out.alloc HB1.out.size _).size))
set_option maxRecDepth 4000 in
set_option maxHeartbeats 2000000 in
theorem streamFrom_rest (T : List UInt8) (a : Nat) (w : World) (hs : T.length ≤ 9000) (hp : HdP T) (hw : dWh T = 1) (ha : a < dSa T) (hB : stB T a ≤ T.length - dSz T) (hT : TabsU w) :
    Calls Tryz.prog 37 #[.string (bs T), .int .i64 a] w fun e w' => FrmAns e w w' T a := by
  obtain ⟨b1, b2, b3, b4, b5, b6, b7, b8, b9, b10, b11⟩ := hd_bd hp
  have hz : (bs T).size = T.length := bs_size T
  have HHR := Hid.mk' (fun u => headRead_any T u hs)
  have HWI := Hid.mk' (fun u => within_any a 0 (dSa T) u)
  have hwf : within a 0 (dSa T) = true := by
    rw [within_iff]
    omega
  rw [hwf] at HWI
  have HSA := Hid.mk' (fun (u : World) (pv : Value) (base : Nat) ho => start_any T a pv base u hp ha ho)
  unfold hdC at HSA
  have n1 : ¬ (a : Int) = (dSa T : Int) := by omega
  have n2 : ((a : Int) == (dSa T : Int)) = false := beq_eq_false_iff_ne.2 n1
  have n3 : ¬ a = dSa T := by omega
  have hkl := stN_lt b5 ha
  have hka := stN_le T a
  have HFR := Hid.mk' (fun (u : World) (hu : Below w.heap.size w u) => readFrames_any (dCh T) (dDe T) (dBl T) (dRa T) (dSe T) (dSa T) (stN T a) (T.drop (dSz T + stB T a)) u b3 b4 b1 b2 b5 b6 b7 (Nat.le_of_lt hkl) (by rw [List.length_drop]; omega) (hT.below hu))
  have HOK : Hid (∀ (m g nn : Nat) (bk ofs cs : Nat → Nat) (w' : World), RunIs (dCh T) (dDe T) (dBl T) (dSa T) (stN T a) (T.drop (dSz T + stB T a)) m → stN T a + m = nBlk (dSa T) (dBl T) → offX (T.drop (dSz T + stB T a)) m = (T.drop (dSz T + stB T a)).length → nn = chN (dBl T) (dSa T) (stN T a) m → CutI w.heap.size w' g (dCh T) nn (a - stN T a * dBl T) (dCh T) bk ofs cs (smpL (dCh T) (dDe T) (dBl T) (dSa T) (stN T a) (T.drop (dSz T + stB T a)) m) → Below w.heap.size w w' → FrmAns (.returned (.tuple #[.slice (some ⟨g, 0, none⟩) (dCh T) (dCh T), .int .i64 0])) w w' T a) := fun m g nn bk ofs cs w' h1 h2 h3 h4 h5 h6 => by
    refine ⟨.inl ⟨?_, _, rfl, ?_⟩, h6⟩
    · unfold frmE
      rw [if_pos hs, if_pos ⟨hp, hw⟩, if_pos ⟨by omega, by omega⟩, if_pos]
      right
      rw [Int.toNat_natCast]
      exact ⟨by omega, m, h1, h2, h3⟩
    · rw [Int.toNat_natCast]
      exact cut_frm b5 ha h2 h4 h5
  have HBAD : Hid (∀ (m : Nat) (w' : World), RunIs (dCh T) (dDe T) (dBl T) (dSa T) (stN T a) (T.drop (dSz T + stB T a)) m → ¬ (stN T a + m = nBlk (dSa T) (dBl T) ∧ offX (T.drop (dSz T + stB T a)) m = (T.drop (dSz T + stB T a)).length) → Below w.heap.size w w' → FrmAns (.returned (.tuple #[.slice none 0 0, .int .i64 6])) w w' T a) := fun m w' h1 h2 hb => frm_bad 6 (by omega) (by
    unfold frmE
    rw [if_pos hs, if_pos ⟨hp, hw⟩, if_pos ⟨by omega, by omega⟩, if_neg]
    rintro (h | ⟨-, m', h3, h4⟩)
    · omega
    · rw [Int.toNat_natCast] at h3 h4
      rw [h3.uniq h1] at h4
      exact h2 h4) hb
  have HCW : Hid (∀ m, stN T a + m = nBlk (dSa T) (dBl T) → chN (dBl T) (dSa T) (stN T a) m = dSa T - stN T a * dBl T) := fun m hm => chN_whole b5 hm (by omega)
  have hkb : stN T a ≤ 300 := by have := nBlk_le (S := dSa T) (B := dBl T) b5; omega
  have HY := Hid.mk' hp
  have HW : Hid (decide (dWh T = 1) = true) := decide_eq_true hw
  have eS : (bs T).extract (dSz T + stB T a) T.length = bs (T.drop (dSz T + stB T a)) := by
    rw [bs_cut', List.take_of_length_le (by rw [List.length_drop]; exact Nat.le_refl _)]
  clear hp hw hwf hT hkl
  have hdb := stB T a
  generalize stB T a = bb at *
  generalize stN T a = kk at *
  have w1 : IntKind.i64.wrap ((T.length : Int) - (dSz T : Int)) = ((T.length - dSz T : Nat) : Int) := by rw [IntKind.wrap_i64]; omega
  have w2 : IntKind.i64.wrap ((dSz T : Int) + (bb : Int)) = ((dSz T + bb : Nat) : Int) := by rw [IntKind.wrap_i64]; omega
  have q1 : ¬ ((T.length - dSz T : Nat) : Int) < (bb : Int) := by omega
  have q2 : ((dSz T + bb : Nat) : Int) ≤ (T.length : Int) := by omega
  generalize T.drop (dSz T + bb) = X at *
  have HE : Hid (dSz T + bb ≤ T.length) := by show _ ≤ _; omega
  generalize hpl : dSz T + bb = pl at *
  clear hpl
  generalize T.length - dSz T = rest at *
  generalize bs X = SX at *
  generalize bs T = SB at *
  go_enter Tryz.func37, Tryz.ntmps37
  go_wp2_with (first
    | (go_at_call 69; refine (HHR.out _).mono ?_; intro e u1 ho; obtain ⟨pa, pc, rfl, hown, hb⟩ := ho.yes HY.out HW.out; have HB1 := Hid.mk' hb; have HO1 := Hid.mk' hown; clear HHR ho hb hown)
    | (go_at_call 70; refine (HWI.out _).mono ?_; rintro e u2 ⟨rfl, hw⟩; subst u2; clear HWI)
    | (go_at_call 71; refine (HSA.out _ _ _ (HO1.out.alloc _)).mono ?_; rintro e u3 ⟨rfl, hb⟩; have HB3 := Hid.mk' hb; clear HSA hb))
  have HHU := Hid.mk' ((Bx.new u1 #[.int .i64 (dCh T), .int .i64 (dDe T), .int .i64 (dBl T), .int .i64 (dRa T), .int .i64 (dSe T), .int .i64 (dSa T), .bool true, .int .i64 (dLe T), .int .i64 (dMo T), .int .i64 (dSu T), .slice pa (dNp T) pc] 110).below HB3.out)
  have HBU := Hid.mk' ((HB1.out.alloc HB1.out.size (.cells #[.int .i64 (dCh T), .int .i64 (dDe T), .int .i64 (dBl T), .int .i64 (dRa T), .int .i64 (dSe T), .int .i64 (dSa T), .bool true, .int .i64 (dLe T), .int .i64 (dMo T), .int .i64 (dSu T), .slice pa (dNp T) pc] 110)).trans (HB3.out.mono (HB1.out.alloc HB1.out.size _).size))
  clear HB1 HO1 HB3
  generalize u1.heap.size = H at *
  generalize u3 = U at *
  clear u1
  go_cut [11] (fun s8 wx => ∃ g gl m la lc bf, s8 = .pointer (some ⟨g, 0, none⟩) ∧ Hid (FrmI T X kk w wx H g gl m la lc pa pc bf))
  case first =>
    have hS0 : H < U.drew.heap.size ∧ U.drew.cell? ⟨H, 0, none⟩ = some (.int .i64 (dCh T)) ∧ U.drew.cell? ⟨H, 1, none⟩ = some (.int .i64 (dDe T)) ∧ U.drew.cell? ⟨H, 2, none⟩ = some (.int .i64 (dBl T)) ∧ U.drew.cell? ⟨H, 3, none⟩ = some (.int .i64 (dRa T)) ∧ U.drew.cell? ⟨H, 4, none⟩ = some (.int .i64 (dSe T)) ∧ U.drew.cell? ⟨H, 5, none⟩ = some (.int .i64 (dSa T)) := ⟨HHU.out.lt, HHU.out.cell 0, HHU.out.cell 1, HHU.out.cell 2, HHU.out.cell 3, HHU.out.cell 4, HHU.out.cell 5⟩
    have hSA : H < (U.alloc (.cells #[.slice none 0 0, .slice none 0 0, .bool false] 117)).drew.heap.size ∧ (U.alloc (.cells #[.slice none 0 0, .slice none 0 0, .bool false] 117)).drew.cell? ⟨H, 0, none⟩ = some (.int .i64 (dCh T)) ∧ (U.alloc (.cells #[.slice none 0 0, .slice none 0 0, .bool false] 117)).drew.cell? ⟨H, 1, none⟩ = some (.int .i64 (dDe T)) ∧ (U.alloc (.cells #[.slice none 0 0, .slice none 0 0, .bool false] 117)).drew.cell? ⟨H, 2, none⟩ = some (.int .i64 (dBl T)) ∧ (U.alloc (.cells #[.slice none 0 0, .slice none 0 0, .bool false] 117)).drew.cell? ⟨H, 3, none⟩ = some (.int .i64 (dRa T)) ∧ (U.alloc (.cells #[.slice none 0 0, .slice none 0 0, .bool false] 117)).drew.cell? ⟨H, 4, none⟩ = some (.int .i64 (dSe T)) ∧ (U.alloc (.cells #[.slice none 0 0, .slice none 0 0, .bool false] 117)).drew.cell? ⟨H, 5, none⟩ = some (.int .i64 (dSa T)) := ki_al6 hS0
    have hHl : H ≠ U.heap.size := Nat.ne_of_lt HHU.out.lt
    have HZA := Hid.mk' (show Bx (U.alloc (.cells #[.slice none 0 0, .slice none 0 0, .bool false] 117)).drew U.heap.size 117 #[.slice none 0 0, .slice none 0 0, .bool false] from Bx.new U _ _)
    go_region_held3 (fun w' => H < w'.heap.size ∧ w'.cell? ⟨H, 0, none⟩ = some (.int .i64 (dCh T)) ∧ w'.cell? ⟨H, 1, none⟩ = some (.int .i64 (dDe T)) ∧ w'.cell? ⟨H, 2, none⟩ = some (.int .i64 (dBl T)) ∧ w'.cell? ⟨H, 3, none⟩ = some (.int .i64 (dRa T)) ∧ w'.cell? ⟨H, 4, none⟩ = some (.int .i64 (dSe T)) ∧ w'.cell? ⟨H, 5, none⟩ = some (.int .i64 (dSa T)))
      (first | with_reducible exact hS0 | with_reducible exact hSA | with_reducible exact hS1 | with_reducible exact ki_al6 hS1 | with_reducible exact ki_st3 hHl hS1)
      (first
      | (go_at_call 72; refine (HFR.out _ ?_).mono ?_; (first | exact HBU.out.drew | exact (HBU.out.alloc HBU.out.size _).drew); intro e u2 ho; obtain ⟨m, gl, la, lc, bf, rfl, hfl, hri, hrow, hl, hb⟩ := ho.all; have HFL := Hid.mk' hfl; clear hfl; have hS1 : H < u2.heap.size ∧ u2.cell? ⟨H, 0, none⟩ = some (.int .i64 (dCh T)) ∧ u2.cell? ⟨H, 1, none⟩ = some (.int .i64 (dDe T)) ∧ u2.cell? ⟨H, 2, none⟩ = some (.int .i64 (dBl T)) ∧ u2.cell? ⟨H, 3, none⟩ = some (.int .i64 (dRa T)) ∧ u2.cell? ⟨H, 4, none⟩ = some (.int .i64 (dSe T)) ∧ u2.cell? ⟨H, 5, none⟩ = some (.int .i64 (dSa T)) := (by first | exact ki_below hb hS0 | exact ki_below hb hSA); have HQ := Hid.mk' (And.intro hri (And.intro hrow hb)); (first | (have hza := HZA.out.below hb; have x0 := hza.cell 0; have x1 := hza.cell 1; have x2 := hza.cell 2; have z0 := hza.fz 0; have z1 := hza.fz 1; have z2 := hza.fz 2; clear hza) | skip); clear hri hrow hl hb ho))
    · go_wp2
      go_meet
      case rel => exact ⟨_, gl, m, la, lc, bf, rfl, frmI_one HFL.out HHU.out HBU.out HQ.out.1 HQ.out.2.1 HQ.out.2.2⟩
    · go_wp2
      go_meet
      case rel => exact ⟨_, gl, m, la, lc, bf, rfl, frmI_two HFL.out HHU.out HBU.out HQ.out.1 HQ.out.2.1 HQ.out.2.2⟩
  case rest =>
    obtain ⟨g, gl, m, la, lc, bf, rfl, HC⟩ := hcut
    clear HFR HHU HBU eS hz HW w1 w2 q1 q2
    have r0 := HC.out.r.cell 0
    have r1 := HC.out.r.cell 1
    have r2 := HC.out.r.cell 2
    have h2 := HC.out.hd.cell 2
    by_cases hbf : bf = true
    · have HM := Hid.mk' (HC.out.flag.1 hbf)
      subst hbf
      have hnn := HCW.out m HM.out.1
      have HNN := Hid.mk' hnn
      have HR := Hid.mk' (HC.out.rows)
      rw [hnn] at HR
      obtain ⟨bk, ofs, cs, hct⟩ := HR.out.toCut (by omega) (a - kk * dBl T)
      have HCT := Hid.mk' hct
      have HGR : Hid (g ≠ gl) := HC.out.r.ne_row hct.row (by decide)
      have HHR2 : Hid (H ≠ gl) := HC.out.hd.ne_row hct.row (by decide)
      have e1 : (kk : Int) * (dBl T : Int) = ((kk * dBl T : Nat) : Int) := by simp
      clear hct hnn HR HCW
      generalize kk * dBl T = kb at *
      have w1 : IntKind.i64.wrap ((kk : Int) * (dBl T : Int)) = (kb : Int) := by rw [IntKind.wrap_i64, e1]; omega
      have w2 : IntKind.i64.wrap ((a : Int) - (kb : Int)) = ((a - kb : Nat) : Int) := by rw [IntKind.wrap_i64]; omega
      have hq : a - kb < dSa T - kb := by omega
      clear e1
      generalize dSa T - kb = nn at *
      generalize a - kb = q at *
      go_wp2
      clear r0 r1 r2 h2
      go_loopw [12, 13, 69] (fun _ _ iv wr => ∃ i : Nat, i ≤ dCh T ∧ iv = .int .i64 i ∧ Hid (CutI w.heap.size wr gl (dCh T) nn q i bk ofs cs (smpL (dCh T) (dDe T) (dBl T) (dSa T) kk X m) ∧ Bx wr H 110 #[.int .i64 (dCh T), .int .i64 (dDe T), .int .i64 (dBl T), .int .i64 (dRa T), .int .i64 (dSe T), .int .i64 (dSa T), .bool true, .int .i64 (dLe T), .int .i64 (dMo T), .int .i64 (dSu T), .slice pa (dNp T) pc] ∧ Bx wr g 117 #[(.slice (some ⟨gl, 0, none⟩) (dCh T) (dCh T)), .slice la m lc, .bool true] ∧ Below w.heap.size w wr)) (fun _ _ iv _ => dCh T - (intOf iv).toNat)
      case atStart => exact ⟨0, Nat.zero_le _, rfl, HCT.out, HC.out.hd, HC.out.r, HC.out.below⟩
      case round =>
        obtain ⟨i, hi, rfl, HR⟩ := hrel
        have x0 := HR.out.2.2.1.cell 0
        have h2 := HR.out.2.1.cell 2
        by_cases hlt : i < dCh T
        · have hc1 := HR.out.1.cell hlt
          have hf1 := HR.out.1.row.frozen i
          have hcap := HR.out.1.cap i hlt
          have HZ := Hid.mk' HR.out.1.step
          have HZH := Hid.mk' (HR.out.2.1.put (a := ⟨gl, i, none⟩) HHR2.out (.slice (some ⟨bk i, ofs i + q, none⟩) (nn - q : Nat) (cs i - q : Nat)))
          have HZR := Hid.mk' (HR.out.2.2.1.put (a := ⟨gl, i, none⟩) HGR.out (.slice (some ⟨bk i, ofs i + q, none⟩) (nn - q : Nat) (cs i - q : Nat)))
          have HZB := Hid.mk' (HR.out.2.2.2.setCell (p := ⟨gl, i, none⟩) HR.out.1.le (.slice (some ⟨bk i, ofs i + q, none⟩) (nn - q : Nat) (cs i - q : Nat)))
          generalize bk i = bi at *
          generalize ofs i = oi at *
          generalize cs i = ci at *
          have q0 : (q : Int) ≤ (nn : Int) := by omega
          have q1 : (nn : Int) ≤ (ci : Int) := by omega
          have q2 : (q : Int) ≤ (ci : Int) := by omega
          have q3 : ((nn : Int) - (q : Int)).toNat = nn - q := by omega
          have q4 : ((ci : Int) - (q : Int)).toNat = ci - q := by omega
          have q5 : ¬ ci = q := by omega
          have q6 : (0 : Int) ≤ (q : Int) := by omega
          have hS0 : wr.drew.cell? ⟨H, 2, none⟩ = some (.int .i64 (dBl T)) ∧ wr.drew.cell? ⟨g, 0, none⟩ = some (.slice (some ⟨gl, 0, none⟩) (dCh T) (dCh T)) := ⟨h2, x0⟩
          have hS1 : (wr.setCell ⟨gl, i, none⟩ (.slice (some ⟨bi, oi + q, none⟩) (nn - q : Nat) (ci - q : Nat))).drew.cell? ⟨H, 2, none⟩ = some (.int .i64 (dBl T)) ∧ (wr.setCell ⟨gl, i, none⟩ (.slice (some ⟨bi, oi + q, none⟩) (nn - q : Nat) (ci - q : Nat))).drew.cell? ⟨g, 0, none⟩ = some (.slice (some ⟨gl, 0, none⟩) (dCh T) (dCh T)) := ⟨HZH.out.cell 2, HZR.out.cell 0⟩
          have HZ2 := Hid.mk' (HZ.out.below (Below.refl _ _).drew)
          go_wp2
          go_region_held3 (fun w' => w'.cell? ⟨H, 2, none⟩ = some (.int .i64 (dBl T)) ∧ w'.cell? ⟨g, 0, none⟩ = some (.slice (some ⟨gl, 0, none⟩) (dCh T) (dCh T))) (first | with_reducible exact hS0 | with_reducible exact hS1) (fail)
          go_wp2
          go_roundw
          case rel => exact ⟨i + 1, by omega, by go_num, HZ2.out, HZH.out.drew1, HZR.out.drew1, HZB.out.drew⟩
          case measure => simp [intOf]; omega
        · have e : i = dCh T := by omega
          subst e
          go_wp2
          go_ret2
          exact HOK.out m gl nn bk ofs cs _ HC.out.run HM.out.1 HM.out.2 HNN.out.symm HR.out.1 HR.out.2.2.2
    · have HX : Hid (¬ (kk + m = nBlk (dSa T) (dBl T) ∧ offX X m = X.length)) := fun h => hbf (HC.out.flag.2 h)
      have hbf := Bool.eq_false_iff.2 hbf
      subst hbf
      go_wp2
      go_ret2
      exact HBAD.out m _ HC.out.run HX.out HC.out.below
end Go.Proofs.YtlncjgnomhpjnabGreatDoor

/-
  From, whatever the text and the place: reel.From.
-/
namespace Go.Proofs.YtlncjgnomhpjnabGreatDoor
open Go.RowKit Go.Deep
set_option linter.unusedVariables false
theorem FrmAns.yes {e : Ending} {w w' : World} {T : List UInt8} {a : Int} (h : FrmAns e w w' T a) (h0 : frmE T a = 0) : ∃ gl, e = .returned (.tuple #[.slice (some ⟨gl, 0, none⟩) (dCh T) (dCh T), .int .i64 0]) ∧ RowsL w.heap.size w' (.slice (some ⟨gl, 0, none⟩) (dCh T) (dCh T)) (dCh T) (dSa T - a.toNat) (frmS T a.toNat) ∧ Below w.heap.size w w' := by
  rcases h with ⟨⟨-, v, rfl, hr⟩ | ⟨hno, -⟩, hb⟩
  · obtain ⟨g, A, C, rfl, -⟩ := hr.open
    exact ⟨g, rfl, hr, hb⟩
  · exact absurd h0 hno
theorem FrmAns.nothing {e : Ending} {w w' : World} {T : List UInt8} {a : Int} (h : FrmAns e w w' T a) (h0 : frmE T a ≠ 0) : e = .returned (.tuple #[.slice none 0 0, .int .i64 (frmE T a)]) ∧ Below w.heap.size w w' := by
  rcases h with ⟨⟨hy, -⟩ | ⟨-, he⟩, hb⟩
  · exact absurd hy h0
  · exact ⟨he, hb⟩
theorem streamFrom_any (T : List UInt8) (a : Int) (w : World) (hs : T.length ≤ 9000) (hT : TabsU w) :
    Calls Tryz.prog 37 #[.string (bs T), .int .i64 a] w fun e w' => FrmAns e w w' T a := by
  by_cases hp : HdP T ∧ dWh T = 1
  · by_cases ha : 0 ≤ a ∧ a ≤ dSa T
    · obtain ⟨q, rfl⟩ : ∃ q : Nat, a = q := ⟨a.toNat, by omega⟩
      by_cases he : q = dSa T
      · subst he
        exact streamFrom_end T w hs hp.1 hp.2
      · have hb := hd_bd hp.1
        by_cases hB : stB T q ≤ T.length - dSz T
        · exact streamFrom_rest T q w hs hp.1 hp.2 (by omega) hB hT
        · exact streamFrom_short T q w hs hp.1 hp.2 (by omega) (by omega) (by have := stB_bd hp.1 q; omega)
    · exact streamFrom_arg T a w hs hp.1 hp.2 ha
  · exact streamFrom_head T a w hs hp
set_option maxRecDepth 4000 in
set_option maxHeartbeats 2000000 in
theorem reelFrom_any (T : List UInt8) (a : Int) (w : World) (hs : T.length ≤ 9223372036854775807) (hT : TabsU w) :
    Calls Tryz.prog 14 #[.string (bs T), .int .i64 a] w fun e w' => FrmAns e w w' T a := by
  have hz : (bs T).size = T.length := bs_size T
  by_cases hl : T.length ≤ 9000
  · have HSD := Hid.mk' (streamFrom_any T a w hl hT)
    have hd9 : decide ((9000 : Int) < (T.length : Int)) = false := decide_eq_false (by omega)
    clear hT
    by_cases h0 : frmE T a = 0
    · have HI := Hid.mk' (fun (e : Ending) (w w' : World) (h : FrmAns e w w' T a) => h.yes h0)
      have HBK : Hid (∀ v w', RowsL w.heap.size w' v (dCh T) (dSa T - a.toNat) (frmS T a.toNat) → Below w.heap.size w w' → FrmAns (.returned (.tuple #[v, .int .i64 0])) w w' T a) := fun v w' h1 h2 => ⟨.inl ⟨h0, v, rfl, h1⟩, h2⟩
      clear h0
      generalize bs T = SB at *
      go_enter Tryz.func14, Tryz.ntmps14
      go_wp2_with (first
        | (go_at_call 37; refine HSD.out.mono ?_; intro e u1 ho; obtain ⟨gl, rfl, hro, hb⟩ := HI.out _ _ _ ho; have HRO := Hid.mk' (And.intro hro hb); clear hro hb HSD ho))
      go_ret2
      exact HBK.out _ _ HRO.out.1 HRO.out.2
    · have HI := Hid.mk' (fun (e : Ending) (w w' : World) (h : FrmAns e w w' T a) => h.nothing h0)
      have HBK : Hid (∀ w', Below w.heap.size w w' → FrmAns (.returned (.tuple #[.slice none 0 0, .int .i64 (frmE T a)])) w w' T a) := fun w' h2 => ⟨.inr ⟨h0, rfl⟩, h2⟩
      have hEb : 0 ≤ frmE T a ∧ frmE T a ≤ 100 := by
        unfold frmE
        repeat (first | split | omega)
      clear h0
      generalize bs T = SB at *
      generalize frmE T a = E at *
      go_enter Tryz.func14, Tryz.ntmps14
      go_wp2_with (first
        | (go_at_call 37; refine HSD.out.mono ?_; intro e u1 ho; obtain ⟨rfl, hb⟩ := HI.out _ _ _ ho; have HRO := Hid.mk' hb; clear hb HSD ho))
      go_ret2
      exact HBK.out _ HRO.out
  · have HBAD : Hid (∀ w', Below w.heap.size w w' → FrmAns (.returned (.tuple #[.slice none 0 0, .int .i64 4])) w w' T a) := fun w' hb => frm_bad 4 (by omega) (by unfold frmE; rw [if_neg hl]) hb
    have hl2 : 9000 < T.length := by omega
    clear hT
    generalize bs T = SB at *
    go_enter Tryz.func14, Tryz.ntmps14
    go_wp2
    go_ret2
    exact HBAD.out _ (Below.refl _ _)
end Go.Proofs.YtlncjgnomhpjnabGreatDoor

