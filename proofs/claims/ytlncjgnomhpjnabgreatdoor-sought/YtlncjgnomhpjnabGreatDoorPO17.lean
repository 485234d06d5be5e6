import Derived.Test.YtlncjgnomhpjnabGreatDoorPO16
import Derived.Deep.RegionHeld3
/-
  The seals: sums.SealByEight, sums.SealBySixteen.
-/
namespace Go.Proofs.YtlncjgnomhpjnabGreatDoor
open Go.RowKit Go.Deep
set_option linter.unusedVariables false
theorem crc_lt (k D : Nat) (l : List UInt8) : crc k D l < 2 ^ k := bitsNum_lt _ _
theorem bs_list (T : List UInt8) : (bs T).data.toList = T := by simp [bs]
theorem eight_bs (T : List UInt8) (w : World) (hs : T.length ≤ 2097152) :
    Calls Tryz.prog 216 #[.string (bs T)] w fun e w' => e = .returned (.int .i64 (crc 8 263 T)) ∧ w' = w := by
  have := eight_any (bs T) w (by rw [bs_size]; exact hs)
  rwa [bs_list] at this
theorem sixteen_bs (T : List UInt8) (w : World) (hs : T.length ≤ 2097152) :
    Calls Tryz.prog 196 #[.string (bs T)] w fun e w' => e = .returned (.int .i64 (crc 16 98309 T)) ∧ w' = w := by
  have := sixteen_any (bs T) w (by rw [bs_size]; exact hs)
  rwa [bs_list] at this
set_option maxHeartbeats 400000 in
theorem seal8_any (T : List UInt8) (w : World) (hs : T.length ≤ 1048576) :
    Calls Tryz.prog 197 #[.string (bs T)] w fun e w' => e = .returned (.string (bs (seal8 T))) ∧ Below w.heap.size w w' := by
  have hc : crc 8 263 T < 256 := crc_lt 8 263 T
  have HE := Hid.mk' (fun u => eight_bs T u (by omega))
  have HIN := Hid.mk' (fun u => in_any (crc 8 263 T) 1 u (by omega) (by omega))
  have HS : Hid (bs T ++ bs (inT (crc 8 263 T) 1) = bs (seal8 T)) := bs_append _ _
  have hz1 : (bs T).size ≤ 1048576 := by rw [bs_size]; exact hs
  have hz2 : (bs (inT (crc 8 263 T) 1)).size ≤ 1 := by rw [bs_size, inT_length]; omega
  generalize crc 8 263 T = C at *
  rw [← HS.out]
  generalize bs (inT C 1) = X at *
  generalize bs T = S at *
  clear HS
  go_enter Tryz.func197, Tryz.ntmps197
  go_wp2_with (first
    | (go_at_call 216; refine (HE.out _).mono ?_; rintro e w1 ⟨rfl, hw⟩; subst w1; clear HE)
    | (go_at_call 195; refine (HIN.out _).mono ?_; rintro e w2 ⟨rfl, hb2⟩; have HB2 := Hid.mk' hb2; clear hb2 HIN))
  go_ret
  exact ⟨rfl, HB2.out⟩
set_option maxHeartbeats 400000 in
theorem seal16_any (T : List UInt8) (w : World) (hs : T.length ≤ 1048576) :
    Calls Tryz.prog 125 #[.string (bs T)] w fun e w' => e = .returned (.string (bs (seal16 T))) ∧ Below w.heap.size w w' := by
  have hc : crc 16 98309 T < 65536 := crc_lt 16 98309 T
  have HE := Hid.mk' (fun u => sixteen_bs T u (by omega))
  have HIN := Hid.mk' (fun u => in_any (crc 16 98309 T) 2 u (by omega) (by omega))
  have HS : Hid (bs T ++ bs (inT (crc 16 98309 T) 2) = bs (seal16 T)) := bs_append _ _
  have hz1 : (bs T).size ≤ 1048576 := by rw [bs_size]; exact hs
  have hz2 : (bs (inT (crc 16 98309 T) 2)).size ≤ 2 := by rw [bs_size, inT_length]; omega
  generalize crc 16 98309 T = C at *
  rw [← HS.out]
  generalize bs (inT C 2) = X at *
  generalize bs T = S at *
  clear HS
  go_enter Tryz.func125, Tryz.ntmps125
  go_wp2_with (first
    | (go_at_call 196; refine (HE.out _).mono ?_; rintro e w1 ⟨rfl, hw⟩; subst w1; clear HE)
    | (go_at_call 195; refine (HIN.out _).mono ?_; rintro e w2 ⟨rfl, hb2⟩; have HB2 := Hid.mk' hb2; clear hb2 HIN))
  go_ret
  exact ⟨rfl, HB2.out⟩
end Go.Proofs.YtlncjgnomhpjnabGreatDoor

/-
  A frame's head, laid down.
-/
namespace Go.Proofs.YtlncjgnomhpjnabGreatDoor
open Go.RowKit Go.Deep
set_option linter.unusedVariables false
/-- a cell of a variable's block, in a later world -/
theorem keep_cell {u u' : World} {b o : Nat} {v : Value} (h : Below u.heap.size u u') (hb : b < u.heap.size) (hc : u.cell? ⟨b, o, none⟩ = some v) : u'.cell? ⟨b, o, none⟩ = some v :=
  (h.cell (p := ⟨b, o, none⟩) hb).trans hc
theorem keep4 {u u' : World} {b : Nat} {v0 v1 v2 v3 : Value} (hb : Below u.heap.size u u') (h : b < u.heap.size ∧ u.cell? ⟨b, 0, none⟩ = some v0 ∧ u.cell? ⟨b, 1, none⟩ = some v1 ∧ u.cell? ⟨b, 2, none⟩ = some v2 ∧ u.cell? ⟨b, 3, none⟩ = some v3) :
    b < u'.heap.size ∧ u'.cell? ⟨b, 0, none⟩ = some v0 ∧ u'.cell? ⟨b, 1, none⟩ = some v1 ∧ u'.cell? ⟨b, 2, none⟩ = some v2 ∧ u'.cell? ⟨b, 3, none⟩ = some v3 :=
  ⟨Nat.lt_of_lt_of_le h.1 hb.size, keep_cell hb h.1 h.2.1, keep_cell hb h.1 h.2.2.1, keep_cell hb h.1 h.2.2.2.1, keep_cell hb h.1 h.2.2.2.2⟩
set_option maxHeartbeats 1000000 in
theorem headLay_any (number len n mode : Nat) (w : World) (h1 : number < 65536) (h2 : len < 65536) (h3 : 1 ≤ n) (h4 : n ≤ 256) (h5 : mode < 256) :
    Calls Tryz.prog 126 #[.agg #[.int .i64 number, .int .i64 len, .int .i64 n, .int .i64 mode]] w fun e w' => e = .returned (.string (bs (seal8 (headT number len n mode)))) ∧ Below w.heap.size w w' := by
  have HI1 : Hid (∀ u, Calls Tryz.prog 195 #[.int .i64 165, .int .i64 1] u fun e w' => e = .returned (.string (bs (inT 165 1))) ∧ Below u.heap.size u w') := fun u => in_any 165 1 u (by omega) (by omega)
  have HI2 : Hid (∀ u, Calls Tryz.prog 195 #[.int .i64 number, .int .i64 2] u fun e w' => e = .returned (.string (bs (inT number 2))) ∧ Below u.heap.size u w') := fun u => in_any number 2 u (by omega) (by omega)
  have HI3 : Hid (∀ u, Calls Tryz.prog 195 #[.int .i64 len, .int .i64 2] u fun e w' => e = .returned (.string (bs (inT len 2))) ∧ Below u.heap.size u w') := fun u => in_any len 2 u (by omega) (by omega)
  have HI4 : Hid (∀ u, Calls Tryz.prog 195 #[.int .i64 ((n - 1 : Nat) : Int), .int .i64 1] u fun e w' => e = .returned (.string (bs (inT (n - 1) 1))) ∧ Below u.heap.size u w') := fun u => in_any (n - 1) 1 u (by omega) (by omega)
  have HI5 : Hid (∀ u, Calls Tryz.prog 195 #[.int .i64 mode, .int .i64 1] u fun e w' => e = .returned (.string (bs (inT mode 1))) ∧ Below u.heap.size u w') := fun u => in_any mode 1 u (by omega) (by omega)
  have HS := Hid.mk' (fun u => seal8_any (headT number len n mode) u (by rw [headT_length]; omega))
  have HTX : Hid (bs (inT 165 1) ++ bs (inT number 2) ++ bs (inT len 2) ++ bs (inT (n - 1) 1) ++ bs (inT mode 1) = bs (headT number len n mode)) := by
    show _ = _; rw [bs_append, bs_append, bs_append, bs_append]; rfl
  have wn : IntKind.i64.wrap ((n : Int) - 1) = ((n - 1 : Nat) : Int) := by rw [IntKind.wrap_i64]; omega
  have z1 : (bs (inT 165 1)).size = 1 := by rw [bs_size, inT_length]
  have z2 : (bs (inT number 2)).size = 2 := by rw [bs_size, inT_length]
  have z3 : (bs (inT len 2)).size = 2 := by rw [bs_size, inT_length]
  have z4 : (bs (inT (n - 1) 1)).size = 1 := by rw [bs_size, inT_length]
  have z5 : (bs (inT mode 1)).size = 1 := by rw [bs_size, inT_length]
  rw [← HTX.out] at HS
  generalize seal8 (headT number len n mode) = R at *
  generalize bs (inT 165 1) = X1 at *
  generalize bs (inT number 2) = X2 at *
  generalize bs (inT len 2) = X3 at *
  generalize bs (inT (n - 1) 1) = X4 at *
  generalize bs (inT mode 1) = X5 at *
  generalize n - 1 = n1 at *
  clear HTX
  have hb0 : Below w.heap.size w (w.alloc (.cells #[.int .i64 number, .int .i64 len, .int .i64 n, .int .i64 mode] 203)) := (Below.refl _ _).alloc (Nat.le_refl _) _
  have HB0 := Hid.mk' hb0
  clear hb0
  have hS0 : w.heap.size < (w.alloc (.cells #[.int .i64 number, .int .i64 len, .int .i64 n, .int .i64 mode] 203)).drew.heap.size ∧ (w.alloc (.cells #[.int .i64 number, .int .i64 len, .int .i64 n, .int .i64 mode] 203)).drew.cell? ⟨w.heap.size, 0, none⟩ = some (.int .i64 number) ∧ (w.alloc (.cells #[.int .i64 number, .int .i64 len, .int .i64 n, .int .i64 mode] 203)).drew.cell? ⟨w.heap.size, 1, none⟩ = some (.int .i64 len) ∧ (w.alloc (.cells #[.int .i64 number, .int .i64 len, .int .i64 n, .int .i64 mode] 203)).drew.cell? ⟨w.heap.size, 2, none⟩ = some (.int .i64 n) ∧ (w.alloc (.cells #[.int .i64 number, .int .i64 len, .int .i64 n, .int .i64 mode] 203)).drew.cell? ⟨w.heap.size, 3, none⟩ = some (.int .i64 mode) := by simp
  go_enter Tryz.func126, Tryz.ntmps126
  go_wp2
  go_region_held3 (fun w' => w.heap.size < w'.heap.size ∧ w'.cell? ⟨w.heap.size, 0, none⟩ = some (.int .i64 number) ∧ w'.cell? ⟨w.heap.size, 1, none⟩ = some (.int .i64 len) ∧ w'.cell? ⟨w.heap.size, 2, none⟩ = some (.int .i64 n) ∧ w'.cell? ⟨w.heap.size, 3, none⟩ = some (.int .i64 mode))
    (assumption)
    (first
    | (go_at_call 195; refine (HI1.out _).mono ?_; rintro e u1 ⟨rfl, hb1⟩; have hS1 := keep4 hb1 hS0; have HB1 := Hid.mk' (HB0.out.drew.trans (hb1.mono (by simp))); clear HI1 HB0)
    | (go_at_call 195; refine (HI2.out _).mono ?_; rintro e u2 ⟨rfl, hb2⟩; have hS2 := keep4 hb2 hS1; have HB2 := Hid.mk' (HB1.out.trans (hb2.mono HB1.out.size)); clear HI2 HB1)
    | (go_at_call 195; refine (HI3.out _).mono ?_; rintro e u3 ⟨rfl, hb3⟩; have hS3 := keep4 hb3 hS2; have HB3 := Hid.mk' (HB2.out.trans (hb3.mono HB2.out.size)); clear HI3 HB2)
    | (go_at_call 195; refine (HI4.out _).mono ?_; rintro e u4 ⟨rfl, hb4⟩; have hS4 := keep4 hb4 hS3; have HB4 := Hid.mk' (HB3.out.trans (hb4.mono HB3.out.size)); clear HI4 HB3)
    | (go_at_call 195; refine (HI5.out _).mono ?_; rintro e u5 ⟨rfl, hb5⟩; have hS5 := keep4 hb5 hS4; have HB5 := Hid.mk' (HB4.out.trans (hb5.mono HB4.out.size)); clear HI5 HB4)
    | (go_at_call 197; refine (HS.out _).mono ?_; rintro e u6 ⟨rfl, hb6⟩; have hS6 := keep4 hb6 hS5; have HB6 := Hid.mk' (HB5.out.trans (hb6.mono HB5.out.size)); clear HS HB5))
  go_wp2
  go_ret
  exact ⟨rfl, HB6.out⟩
end Go.Proofs.YtlncjgnomhpjnabGreatDoor

/-
  Texts that are built up: (*strings.Builder).WriteString, frame.codeAll.
-/
namespace Go.Proofs.YtlncjgnomhpjnabGreatDoor
open Go.RowKit Go.Deep
set_option linter.unusedVariables false
theorem builder_at_below {T e : TypeId} {B b : Nat} {p : Value} {xs : List Value} {w w' : World} (h : Lib.BuilderAtF T e B b p xs w) (hb : Below w.heap.size w w') : Lib.BuilderAtF T e B b p xs w' := by
  have hlt := h.lt
  obtain ⟨hB, v, hbk, hown, hne⟩ := h
  refine ⟨hB, v, (hb.block b hlt).trans hbk, ?_, hne⟩
  obtain ⟨hl, hr⟩ := hown
  refine ⟨hl, ?_⟩
  rcases hr with h0 | ⟨g, cap, cur, fz, h1, h2, h3, h4⟩
  · exact .inl h0
  · exact .inr ⟨g, cap, cur, fz, h1, h2, (hb.block g (Array.getElem?_eq_some_iff.1 h3).1).trans h3, h4⟩
theorem builder_below {T e : TypeId} {B b : Nat} {xs : List Value} {w w' : World} (h : Lib.IsBuilderF T e B b xs w) (hb : Below w.heap.size w w') : Lib.IsBuilderF T e B b xs w' :=
  h.elim (fun h => .inl (builder_at_below h hb)) (fun h => .inr (builder_at_below h hb))
set_option maxHeartbeats 2000000 in
set_option maxRecDepth 100000 in
theorem writeString_any (T : TypeId) (hT : Lies T) (B b : Nat) (xs : List Value) (s : ByteArray) (w : World) (h : Lib.IsBuilderF T 5 B b xs w) (hs : 0 < s.size) (hlen : xs.length + s.size ≤ 140737488355328) (hBw : B ≤ w.heap.size) :
    Calls Tryz.prog 200 #[.pointer (some ⟨b, 0, none⟩), .string s] w fun e w' => e = .returned (.tuple #[.int .i64 s.size, .nilIface]) ∧ (Lib.BuilderAtF T 5 B b (.pointer (some ⟨b, 0, none⟩)) (xs ++ Lib.strCells s) w' ∧ Below B w w') := by
  obtain ⟨i0, hi, hz0, hz1, hz2⟩ := info_parts infoByte
  have HH := Hid.mk' h
  clear h
  go_enter Tryz.func200, Tryz.ntmps200
  go_wp2_with (go_at_call 251; refine (copyCheck_any T hT B b xs _ HH.out).mono ?_)
  rintro e w1 ⟨rfl, h1, hb1, hk1⟩
  obtain ⟨hB, v, hbk, hown, hne⟩ := h1
  have c0 : w1.cell? ⟨b, 0, none⟩ = some (.pointer (some ⟨b, 0, none⟩)) := by rw [Lib.cell_of_heap hbk]; rfl
  have c1 : w1.cell? ⟨b, 1, none⟩ = some v := by rw [Lib.cell_of_heap hbk]; rfl
  go_wp2_with (at_builtin; refine Lib.wpList_append_own_stringF _ rfl _ _ 33 9 rfl B 5 i0 Tryz.underlying33 Tryz.underlying9 hi hz0 hz1 hz2 _ _ _ rfl hown s rfl ?c3 ?c4 ?c5 ?_)
  case c3 => unfold maxLen; omega
  case c4 => omega
  case c5 => have := hb1.size; omega
  intro v' w2 hown' hgrow _
  have hlt : b < w1.heap.size := (Array.getElem?_eq_some_iff.1 hbk).1
  have hb2 : w2.heap[b]? = some (.cells #[.pointer (some ⟨b, 0, none⟩), v] T (0, 0)) := by
    rw [hgrow.block b hlt (fun e => hne e.symm)]
    exact hbk
  have d0 : w2.cell? ⟨b, 0, none⟩ = some (.pointer (some ⟨b, 0, none⟩)) := by rw [Lib.cell_of_heap hb2]; rfl
  have d1 : w2.cell? ⟨b, 1, none⟩ = some v := by rw [Lib.cell_of_heap hb2]; rfl
  have f1 : w2.frozen? ⟨b, 1, none⟩ = false := Lib.frozen_of_heap hb2 1
  obtain ⟨g, cap, rfl⟩ : ∃ g cap, v' = .slice (some ⟨g, 0, none⟩) (xs.length + s.size) cap := by
    rcases hown'.2 with ⟨_, h0⟩ | ⟨g, cap, cur, fz, hv, _⟩
    · omega
    · exact ⟨g, cap, hv⟩
  go_wp2
  go_ret2
  refine ⟨rfl, ?_, ?_⟩
  · exact Lib.BuilderAtF.put (T := T) (e := 5) hB hb2 (bs' := xs ++ Lib.strCells s) (by rw [List.length_append, Lib.strCells_length]; exact hown') hT.2
  · exact ((hb1.grown hgrow (by have := hb1.size; omega) (fun k hk => (hown.lt k hk).1))).setCell (p := ⟨b, 1, none⟩) hB _
theorem cells_bs (T : List UInt8) : Lib.strCells (bs T) = Lib.byteCells T := by
  unfold Lib.strCells Lib.byteCells
  rw [bs_list]
theorem cells_app (T U : List UInt8) : Lib.byteCells T ++ Lib.byteCells U = Lib.byteCells (T ++ U) := by simp [Lib.byteCells]
theorem builder_new (w : World) : Lib.IsBuilderF 278 5 w.heap.size w.heap.size (Lib.byteCells []) (w.alloc (.cells #[.pointer none, .slice none 0 0] 278)) :=
  .inl ⟨Nat.le_refl _, .slice none 0 0, blk_alloc_new _ _, ⟨rfl, .inl ⟨rfl, rfl⟩⟩, by simp [Value.ownBlock]⟩
set_option maxHeartbeats 2000000 in
theorem codeAll_any (d : Nat) (a : Option Addr) (n cap : Nat) (A : Nat → Option Addr) (N : Nat) (C : Nat → Nat) (F : Nat → Nat → Int) (w : World) (hd1 : 1 ≤ d) (hd : d ≤ 12) (hn1 : 1 ≤ n) (hn4 : n ≤ 4) (hN1 : 1 ≤ N) (hN : N ≤ 32)
    (hf : ∀ i, i < n → ∀ j, j < N → fitsB d (F i j) = true) (hA : ListsAt w a n A (fun _ => N) C) (hI : ∀ i, i < n → IntsAt w (A i) N (F i)) (hlow : Low w.heap.size a n A (fun _ => N)) (hT : Tabs w) :
    Calls Tryz.prog 193 #[.int .i64 d, .slice a n cap] w fun e w' => e = .returned (.string (bs (allT d F N n))) ∧ Below w.heap.size w w' := by
  have HC := Hid.mk' (fun (u : World) (hu : Below w.heap.size w u) i (hi : i < n) => subCode_any (A i) N (C i) d (F i) u hN1 hN hd1 (by omega) (hf i hi) ((hI i hi).below hu (hlow.2 i hi)) (fun y hy h0 => Nat.lt_of_lt_of_le (hlow.2 i hi y hy h0) hu.size) (hT.below hu))
  have HA := Hid.mk' (fun (u : World) (hu : Below w.heap.size w u) => hA.below hu hlow.1)
  have HBD := Hid.mk' (allT_bd d F N hN1 hN hd)
  have HSB := Hid.mk' (fun i => subT_le' d (F i) N hN1 hN (by omega))
  have HNE : Hid (allT d F N n ≠ []) := fun h => by
    have := (allT_bd d F N hN1 hN hd n).1
    rw [h] at this; simp at this; omega
  obtain ⟨b, off, rfl, hcell⟩ := hA.open (by omega)
  have HCL := Hid.mk' hcell
  have HBL : Hid (b < w.heap.size) := by
    have := hlow.1 _ rfl (by omega : 0 < n)
    exact this
  clear hf hA hI hlow hT hcell
  go_enter Tryz.func193, Tryz.ntmps193
  go_wp2
  go_loopw [7, 10] (fun _ iv wr => ∃ i : Nat, i ≤ n ∧ iv = .int .i64 i ∧ Hid (Lib.IsBuilderF 278 5 w.heap.size w.heap.size (Lib.byteCells (allT d F N i)) wr ∧ Below w.heap.size w wr ∧ w.heap.size < wr.heap.size)) (fun _ iv _ => n - (intOf iv).toNat)
  case atStart => exact ⟨0, Nat.zero_le _, rfl, builder_new w, (Below.refl _ _).alloc (Nat.le_refl _) _, by simp⟩
  case round =>
    obtain ⟨i, hi, rfl, HR⟩ := hrel
    by_cases hlt : i < n
    · have hc1 : wr.cell? ⟨b, off + i, none⟩ = some (.slice (A i) N (C i)) := (HR.out.2.1.cell (p := ⟨b, off + i, none⟩) HBL.out).trans (HCL.out i hlt)
      have HC1 := Hid.mk' (fun (u : World) (hu : Below wr.heap.size wr u) => HC.out u (HR.out.2.1.trans (hu.mono HR.out.2.1.size)) i hlt)
      have HW := Hid.mk' (fun (u : World) (hu : Below wr.heap.size wr u) => writeString_any 278 lies_builder w.heap.size w.heap.size _ (bs (subT d (F i) N)) u (builder_below HR.out.1 hu) (by rw [bs_size]; have := subT_pos d (F i) N; omega) (by rw [Lib.byteCells_length, bs_size]; have := HSB.out i; have := (HBD.out i).2; omega) (Nat.le_trans HR.out.2.1.size hu.size))
      have HE : Hid (Lib.byteCells (allT d F N i) ++ Lib.strCells (bs (subT d (F i) N)) = Lib.byteCells (allT d F N (i + 1))) := by show _ = _; rw [cells_bs, cells_app]; rfl
      have hz : (bs (subT d (F i) N)).size ≤ 424 := by rw [bs_size]; exact HSB.out i
      generalize bs (subT d (F i) N) = S at *
      go_wp2_with (first
        | (go_at_call 221; refine (HC1.out _ ?_).mono ?_; (first | exact Below.refl _ _ | exact (Below.refl _ _).drew); rintro e w1 ⟨rfl, hb1⟩; have HB1 : Hid (Below wr.heap.size wr w1) := (⟨hb1.os, hb1.tape, hb1.output, hb1.size, hb1.block⟩ : Below wr.heap.size wr w1); clear hb1 HC1)
        | (go_at_call 200; refine (HW.out _ ?_).mono ?_; exact HB1.out; rintro e w2 ⟨rfl, hbl2, hb2⟩; have HB2 : Hid (Lib.IsBuilderF 278 5 w.heap.size w.heap.size (Lib.byteCells (allT d F N (i + 1))) w2 ∧ Below w.heap.size w w2 ∧ w.heap.size < w2.heap.size) := ⟨.inr (by rw [← HE.out]; exact hbl2), HR.out.2.1.trans ((HB1.out.mono HR.out.2.1.size).trans hb2), Nat.lt_of_lt_of_le HR.out.2.2 (Nat.le_trans HB1.out.size hb2.size)⟩; clear hbl2 hb2 HW))
      go_roundw
      case rel => exact ⟨i + 1, by omega, by go_num, HB2.out⟩
      case measure => simp [intOf]; omega
    · have e : i = n := by omega
      subst e
      have HST := Hid.mk' (fun (u : World) (hu : Below wr.heap.size wr u) => string_any 278 w.heap.size w.heap.size (allT d F N i) u (builder_below HR.out.1 hu) HNE.out)
      go_wp2_with (go_at_call 201; refine (HST.out _ ?_).mono ?_; (first | exact Below.refl _ _ | exact (Below.refl _ _).drew); rintro e w1 ⟨rfl, hb1⟩; have HB1 : Hid (Below w.heap.size w w1) := HR.out.2.1.trans ⟨hb1.os, hb1.tape, hb1.output, hb1.size, hb1.block⟩; clear hb1 HST)
      go_ret
      exact ⟨rfl, HB1.out⟩
end Go.Proofs.YtlncjgnomhpjnabGreatDoor

/-
  Two channels: frame.sideOf, frame.middleOf, reelref.pair.
-/
namespace Go.Proofs.YtlncjgnomhpjnabGreatDoor
open Go.RowKit Go.Deep
set_option linter.unusedVariables false
set_option maxHeartbeats 1000000 in
theorem sideOf_any (a b : Option Addr) (n c c' : Nat) (l r : Nat → Int) (w : World) (hn : n ≤ 32) (hbl : ∀ j, j < n → -4096 ≤ l j ∧ l j ≤ 4096) (hbr : ∀ j, j < n → -4096 ≤ r j ∧ r j ≤ 4096) (hI : IntsAt w a n l) (hJ : IntsAt w b n r)
    (hlow : ∀ y, a = some y → 0 < n → y.block < w.heap.size) (hlow2 : ∀ y, b = some y → 0 < n → y.block < w.heap.size) :
    Calls Tryz.prog 248 #[.slice a n c, .slice b n c'] w fun e w' => e = .returned (.slice (some ⟨w.heap.size, 0, none⟩) n n) ∧ w'.rowIs w.heap.size 3 n (cutV n (sideL l r)) ∧ Below w.heap.size w w' := by
  have hmk := run_make_row' (P := Tryz.prog) 30 3 (.int .i64 0) 8 Tryz.underlying30 infoInt rfl .i64 .i64 n (by omega) (by omega)
  have HI := Hid.mk' (fun u (h : Below w.heap.size w u) => hI.belowB h hlow)
  have HJ := Hid.mk' (fun u (h : Below w.heap.size w u) => hJ.belowB h hlow2)
  have HBL := Hid.mk' hbl
  have HBR := Hid.mk' hbr
  clear hI hlow hJ hlow2 hbl hbr
  go_enter Tryz.func248, Tryz.ntmps248
  go_wp2
  clear hmk
  go_loopw [6, 12] (fun _ i wr => ∃ j : Nat, j ≤ n ∧ i = .int .i64 j ∧ Hid (wr.rowIs w.heap.size 3 n (cutV j (sideL l r)) ∧ Below w.heap.size w wr)) (fun _ i _ => n - (intOf i).toNat)
  case atStart => exact ⟨0, Nat.zero_le _, rfl, (World.rowIs_made w (.int .i64 0) n 3).congr fun i _ => by simp [cutV, cutI], (Below.refl _ _).alloc (Nat.le_refl _) _⟩
  case round =>
    obtain ⟨j, hj, rfl, HR⟩ := hrel
    by_cases hlt : j < n
    · obtain ⟨bb, off, hx, hc⟩ := (HI.out wr HR.out.2).open (by omega)
      obtain ⟨bb2, off2, hx2, hc2⟩ := (HJ.out wr HR.out.2).open (by omega)
      have hcj := hc j hlt
      have hcj2 := hc2 j hlt
      have hc1 := HR.out.1.cell hlt
      have hf1 := HR.out.1.frozen j
      unfold cutV at hc1
      have b1 := HBL.out j hlt
      have b2 := HBR.out j hlt
      have HSD : Hid (sideL l r j = l j - r j) := rfl
      have wf : IntKind.i64.wrap (l j - r j) = l j - r j := by rw [IntKind.wrap_i64]; omega
      clear hc hc2
      subst hx hx2
      go_wp2
      go_region
      all_goals go_wp2
      go_roundw
      case rel => exact ⟨j + 1, by omega, by go_num, cutV_step rfl (HR.out.1.set j _), (HR.out.2.setCell (p := ⟨w.heap.size, j, none⟩) (Nat.le_refl _) _).drew⟩
      case measure => simp [intOf]; omega
    · have e : j = n := by omega
      subst e
      go_wp2
      go_ret
      exact ⟨rfl, HR.out.1, HR.out.2⟩
set_option maxHeartbeats 1000000 in
theorem middleOf_any (a b : Option Addr) (n c c' : Nat) (l r : Nat → Int) (w : World) (hn : n ≤ 32) (hbl : ∀ j, j < n → -4096 ≤ l j ∧ l j ≤ 4096) (hbr : ∀ j, j < n → -4096 ≤ r j ∧ r j ≤ 4096) (hI : IntsAt w a n l) (hJ : IntsAt w b n r)
    (hlow : ∀ y, a = some y → 0 < n → y.block < w.heap.size) (hlow2 : ∀ y, b = some y → 0 < n → y.block < w.heap.size) :
    Calls Tryz.prog 249 #[.slice a n c, .slice b n c'] w fun e w' => e = .returned (.slice (some ⟨w.heap.size, 0, none⟩) n n) ∧ w'.rowIs w.heap.size 3 n (cutV n (midL l r)) ∧ Below w.heap.size w w' := by
  have hmk := run_make_row' (P := Tryz.prog) 30 3 (.int .i64 0) 8 Tryz.underlying30 infoInt rfl .i64 .i64 n (by omega) (by omega)
  have HI := Hid.mk' (fun u (h : Below w.heap.size w u) => hI.belowB h hlow)
  have HJ := Hid.mk' (fun u (h : Below w.heap.size w u) => hJ.belowB h hlow2)
  have HBL := Hid.mk' hbl
  have HBR := Hid.mk' hbr
  clear hI hlow hJ hlow2 hbl hbr
  go_enter Tryz.func249, Tryz.ntmps249
  go_wp2
  clear hmk
  go_loopw [6, 12] (fun _ i wr => ∃ j : Nat, j ≤ n ∧ i = .int .i64 j ∧ Hid (wr.rowIs w.heap.size 3 n (cutV j (midL l r)) ∧ Below w.heap.size w wr)) (fun _ i _ => n - (intOf i).toNat)
  case atStart => exact ⟨0, Nat.zero_le _, rfl, (World.rowIs_made w (.int .i64 0) n 3).congr fun i _ => by simp [cutV, cutI], (Below.refl _ _).alloc (Nat.le_refl _) _⟩
  case round =>
    obtain ⟨j, hj, rfl, HR⟩ := hrel
    by_cases hlt : j < n
    · obtain ⟨bb, off, hx, hc⟩ := (HI.out wr HR.out.2).open (by omega)
      obtain ⟨bb2, off2, hx2, hc2⟩ := (HJ.out wr HR.out.2).open (by omega)
      have hcj := hc j hlt
      have hcj2 := hc2 j hlt
      have hc1 := HR.out.1.cell hlt
      have hf1 := HR.out.1.frozen j
      unfold cutV at hc1
      have b1 := HBL.out j hlt
      have b2 := HBR.out j hlt
      have wf : IntKind.i64.wrap (l j + r j) = l j + r j := by rw [IntKind.wrap_i64]; omega
      clear hc hc2
      subst hx hx2
      go_wp2
      go_region
      all_goals go_wp2
      go_roundw
      case rel => exact ⟨j + 1, by omega, by go_num, cutV_step rfl (HR.out.1.set j _), (HR.out.2.setCell (p := ⟨w.heap.size, j, none⟩) (Nat.le_refl _) _).drew⟩
      case measure => simp [intOf]; omega
    · have e : j = n := by omega
      subst e
      go_wp2
      go_ret
      exact ⟨rfl, HR.out.1, HR.out.2⟩
end Go.Proofs.YtlncjgnomhpjnabGreatDoor

