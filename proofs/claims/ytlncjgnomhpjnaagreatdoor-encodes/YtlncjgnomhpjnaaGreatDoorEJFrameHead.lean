import Derived.Test.YtlncjgnomhpjnaaGreatDoorEJFrameSeal
import Derived.Deep.RegionHeld3
/-
  A frame's head, laid down.
-/
namespace Go.Proofs.YtlncjgnomhpjnaaGreatDoor
open Go.RowKit Go.Deep
set_option linter.unusedVariables false

/-- a cell of a variable's block, in a later world -/
theorem keep_cell {u u' : World} {b o : Nat} {v : Value} (h : Below u.heap.size u u') (hb : b < u.heap.size) (hc : u.cell? ⟨b, o, none⟩ = some v) : u'.cell? ⟨b, o, none⟩ = some v :=
  (h.cell (p := ⟨b, o, none⟩) hb).trans hc

theorem keep4 {u u' : World} {b : Nat} {v0 v1 v2 v3 : Value} (hb : Below u.heap.size u u') (h : b < u.heap.size ∧ u.cell? ⟨b, 0, none⟩ = some v0 ∧ u.cell? ⟨b, 1, none⟩ = some v1 ∧ u.cell? ⟨b, 2, none⟩ = some v2 ∧ u.cell? ⟨b, 3, none⟩ = some v3) :
    b < u'.heap.size ∧ u'.cell? ⟨b, 0, none⟩ = some v0 ∧ u'.cell? ⟨b, 1, none⟩ = some v1 ∧ u'.cell? ⟨b, 2, none⟩ = some v2 ∧ u'.cell? ⟨b, 3, none⟩ = some v3 :=
  ⟨Nat.lt_of_lt_of_le h.1 hb.size, keep_cell hb h.1 h.2.1, keep_cell hb h.1 h.2.2.1, keep_cell hb h.1 h.2.2.2.1, keep_cell hb h.1 h.2.2.2.2⟩

set_option maxHeartbeats 1000000 in
theorem headLay_any (number len n mode : Nat) (w : World) (h1 : number < 65536) (h2 : len < 65536) (h3 : 1 ≤ n) (h4 : n ≤ 256) (h5 : mode < 256) :
    Calls Tryz.prog 67 #[.agg #[.int .i64 number, .int .i64 len, .int .i64 n, .int .i64 mode]] w fun e w' => e = .returned (.string (bs (seal8 (headT number len n mode)))) ∧ Below w.heap.size w w' := by
  have HI1 : Hid (∀ u, Calls Tryz.prog 105 #[.int .i64 165, .int .i64 1] u fun e w' => e = .returned (.string (bs (inT 165 1))) ∧ Below u.heap.size u w') := fun u => in_any 165 1 u (by omega) (by omega)
  have HI2 : Hid (∀ u, Calls Tryz.prog 105 #[.int .i64 number, .int .i64 2] u fun e w' => e = .returned (.string (bs (inT number 2))) ∧ Below u.heap.size u w') := fun u => in_any number 2 u (by omega) (by omega)
  have HI3 : Hid (∀ u, Calls Tryz.prog 105 #[.int .i64 len, .int .i64 2] u fun e w' => e = .returned (.string (bs (inT len 2))) ∧ Below u.heap.size u w') := fun u => in_any len 2 u (by omega) (by omega)
  have HI4 : Hid (∀ u, Calls Tryz.prog 105 #[.int .i64 ((n - 1 : Nat) : Int), .int .i64 1] u fun e w' => e = .returned (.string (bs (inT (n - 1) 1))) ∧ Below u.heap.size u w') := fun u => in_any (n - 1) 1 u (by omega) (by omega)
  have HI5 : Hid (∀ u, Calls Tryz.prog 105 #[.int .i64 mode, .int .i64 1] u fun e w' => e = .returned (.string (bs (inT mode 1))) ∧ Below u.heap.size u w') := fun u => in_any mode 1 u (by omega) (by omega)
  have HS := Hid.mk' (fun u => seal8_any (headT number len n mode) u (by rw [headT_length]; omega))
  have HTX : Hid (bs (inT 165 1) ++ bs (inT number 2) ++ bs (inT len 2) ++ bs (inT (n - 1) 1) ++ bs (inT mode 1) = bs (headT number len n mode)) := by
    show _ = _; rw [bs_append, bs_append, bs_append, bs_append]; rfl
  have wn : IntKind.i64.wrap ((n : Int) - 1) = ((n - 1 : Nat) : Int) := by rw [IntKind.wrap_i64]; omega
  have z1 : (bs (inT 165 1)).size = 1 := by rw [bs_size, inT_length]
  have z2 : (bs (inT number 2)).size = 2 := by rw [bs_size, inT_length]
  have z3 : (bs (inT len 2)).size = 2 := by rw [bs_size, inT_length]
  have z4 : (bs (inT (n - 1) 1)).size = 1 := by rw [bs_size, inT_length]
  have z5 : (bs (inT mode 1)).size = 1 := by rw [bs_size, inT_length]
  rw [← HTX.out] at HS
  generalize seal8 (headT number len n mode) = R at *
  generalize bs (inT 165 1) = X1 at *
  generalize bs (inT number 2) = X2 at *
  generalize bs (inT len 2) = X3 at *
  generalize bs (inT (n - 1) 1) = X4 at *
  generalize bs (inT mode 1) = X5 at *
  generalize n - 1 = n1 at *
  clear HTX
  have hb0 : Below w.heap.size w (w.alloc (.cells #[.int .i64 number, .int .i64 len, .int .i64 n, .int .i64 mode] 99)) := (Below.refl _ _).alloc (Nat.le_refl _) _
  have HB0 := Hid.mk' hb0
  clear hb0
  have hS0 : w.heap.size < (w.alloc (.cells #[.int .i64 number, .int .i64 len, .int .i64 n, .int .i64 mode] 99)).drew.heap.size ∧ (w.alloc (.cells #[.int .i64 number, .int .i64 len, .int .i64 n, .int .i64 mode] 99)).drew.cell? ⟨w.heap.size, 0, none⟩ = some (.int .i64 number) ∧ (w.alloc (.cells #[.int .i64 number, .int .i64 len, .int .i64 n, .int .i64 mode] 99)).drew.cell? ⟨w.heap.size, 1, none⟩ = some (.int .i64 len) ∧ (w.alloc (.cells #[.int .i64 number, .int .i64 len, .int .i64 n, .int .i64 mode] 99)).drew.cell? ⟨w.heap.size, 2, none⟩ = some (.int .i64 n) ∧ (w.alloc (.cells #[.int .i64 number, .int .i64 len, .int .i64 n, .int .i64 mode] 99)).drew.cell? ⟨w.heap.size, 3, none⟩ = some (.int .i64 mode) := by simp
  go_enter Tryz.func67, Tryz.ntmps67
  go_wp2
  go_region_held3 (fun w' => w.heap.size < w'.heap.size ∧ w'.cell? ⟨w.heap.size, 0, none⟩ = some (.int .i64 number) ∧ w'.cell? ⟨w.heap.size, 1, none⟩ = some (.int .i64 len) ∧ w'.cell? ⟨w.heap.size, 2, none⟩ = some (.int .i64 n) ∧ w'.cell? ⟨w.heap.size, 3, none⟩ = some (.int .i64 mode))
    (assumption)
    (first
    | (go_at_call 105; refine (HI1.out _).mono ?_; rintro e u1 ⟨rfl, hb1⟩; have hS1 := keep4 hb1 hS0; have HB1 := Hid.mk' (HB0.out.drew.trans (hb1.mono (by simp))); clear HI1 HB0)
    | (go_at_call 105; refine (HI2.out _).mono ?_; rintro e u2 ⟨rfl, hb2⟩; have hS2 := keep4 hb2 hS1; have HB2 := Hid.mk' (HB1.out.trans (hb2.mono HB1.out.size)); clear HI2 HB1)
    | (go_at_call 105; refine (HI3.out _).mono ?_; rintro e u3 ⟨rfl, hb3⟩; have hS3 := keep4 hb3 hS2; have HB3 := Hid.mk' (HB2.out.trans (hb3.mono HB2.out.size)); clear HI3 HB2)
    | (go_at_call 105; refine (HI4.out _).mono ?_; rintro e u4 ⟨rfl, hb4⟩; have hS4 := keep4 hb4 hS3; have HB4 := Hid.mk' (HB3.out.trans (hb4.mono HB3.out.size)); clear HI4 HB3)
    | (go_at_call 105; refine (HI5.out _).mono ?_; rintro e u5 ⟨rfl, hb5⟩; have hS5 := keep4 hb5 hS4; have HB5 := Hid.mk' (HB4.out.trans (hb5.mono HB4.out.size)); clear HI5 HB4)
    | (go_at_call 107; refine (HS.out _).mono ?_; rintro e u6 ⟨rfl, hb6⟩; have hS6 := keep4 hb6 hS5; have HB6 := Hid.mk' (HB5.out.trans (hb6.mono HB5.out.size)); clear HS HB5))
  go_wp2
  go_ret
  exact ⟨rfl, HB6.out⟩
end Go.Proofs.YtlncjgnomhpjnaaGreatDoor

/-
  Texts that are built up: (*strings.Builder).WriteString, frame.codeAll.
-/
namespace Go.Proofs.YtlncjgnomhpjnaaGreatDoor
open Go.RowKit Go.Deep
set_option linter.unusedVariables false

theorem builder_at_below {T e : TypeId} {B b : Nat} {p : Value} {xs : List Value} {w w' : World} (h : Lib.BuilderAtF T e B b p xs w) (hb : Below w.heap.size w w') : Lib.BuilderAtF T e B b p xs w' := by
  have hlt := h.lt
  obtain ⟨hB, v, hbk, hown, hne⟩ := h
  refine ⟨hB, v, (hb.block b hlt).trans hbk, ?_, hne⟩
  obtain ⟨hl, hr⟩ := hown
  refine ⟨hl, ?_⟩
  rcases hr with h0 | ⟨g, cap, cur, fz, h1, h2, h3, h4⟩
  · exact .inl h0
  · exact .inr ⟨g, cap, cur, fz, h1, h2, (hb.block g (Array.getElem?_eq_some_iff.1 h3).1).trans h3, h4⟩
theorem builder_below {T e : TypeId} {B b : Nat} {xs : List Value} {w w' : World} (h : Lib.IsBuilderF T e B b xs w) (hb : Below w.heap.size w w') : Lib.IsBuilderF T e B b xs w' :=
  h.elim (fun h => .inl (builder_at_below h hb)) (fun h => .inr (builder_at_below h hb))

set_option maxHeartbeats 2000000 in
set_option maxRecDepth 100000 in
theorem writeString_any (T : TypeId) (hT : Lies T) (B b : Nat) (xs : List Value) (s : ByteArray) (w : World) (h : Lib.IsBuilderF T 5 B b xs w) (hs : 0 < s.size) (hlen : xs.length + s.size ≤ 140737488355328) (hBw : B ≤ w.heap.size) :
    Calls Tryz.prog 140 #[.pointer (some ⟨b, 0, none⟩), .string s] w fun e w' => e = .returned (.tuple #[.int .i64 s.size, .nilIface]) ∧ (Lib.BuilderAtF T 5 B b (.pointer (some ⟨b, 0, none⟩)) (xs ++ Lib.strCells s) w' ∧ Below B w w') := by
  obtain ⟨i0, hi, hz0, hz1, hz2⟩ := info_parts infoByte
  have HH := Hid.mk' h
  clear h
  go_enter Tryz.func140, Tryz.ntmps140
  go_wp2_with (go_at_call 165; refine (copyCheck_any T hT B b xs _ HH.out).mono ?_)
  rintro e w1 ⟨rfl, h1, hb1, hk1⟩
  obtain ⟨hB, v, hbk, hown, hne⟩ := h1
  have c0 : w1.cell? ⟨b, 0, none⟩ = some (.pointer (some ⟨b, 0, none⟩)) := by rw [Lib.cell_of_heap hbk]; rfl
  have c1 : w1.cell? ⟨b, 1, none⟩ = some v := by rw [Lib.cell_of_heap hbk]; rfl
  go_wp2_with (at_builtin; refine Lib.wpList_append_own_stringF _ rfl _ _ 61 9 rfl B 5 i0 Tryz.underlying61 Tryz.underlying9 hi hz0 hz1 hz2 _ _ _ rfl hown s rfl ?c3 ?c4 ?c5 ?_)
  case c3 => unfold maxLen; omega
  case c4 => omega
  case c5 => have := hb1.size; omega
  intro v' w2 hown' hgrow _
  have hlt : b < w1.heap.size := (Array.getElem?_eq_some_iff.1 hbk).1
  have hb2 : w2.heap[b]? = some (.cells #[.pointer (some ⟨b, 0, none⟩), v] T (0, 0)) := by
    rw [hgrow.block b hlt (fun e => hne e.symm)]
    exact hbk
  have d0 : w2.cell? ⟨b, 0, none⟩ = some (.pointer (some ⟨b, 0, none⟩)) := by rw [Lib.cell_of_heap hb2]; rfl
  have d1 : w2.cell? ⟨b, 1, none⟩ = some v := by rw [Lib.cell_of_heap hb2]; rfl
  have f1 : w2.frozen? ⟨b, 1, none⟩ = false := Lib.frozen_of_heap hb2 1
  obtain ⟨g, cap, rfl⟩ : ∃ g cap, v' = .slice (some ⟨g, 0, none⟩) (xs.length + s.size) cap := by
    rcases hown'.2 with ⟨_, h0⟩ | ⟨g, cap, cur, fz, hv, _⟩
    · omega
    · exact ⟨g, cap, hv⟩
  go_wp2
  go_ret2
  refine ⟨rfl, ?_, ?_⟩
  · exact Lib.BuilderAtF.put (T := T) (e := 5) hB hb2 (bs' := xs ++ Lib.strCells s) (by rw [List.length_append, Lib.strCells_length]; exact hown') hT.2
  · exact ((hb1.grown hgrow (by have := hb1.size; omega) (fun k hk => (hown.lt k hk).1))).setCell (p := ⟨b, 1, none⟩) hB _

theorem cells_bs (T : List UInt8) : Lib.strCells (bs T) = Lib.byteCells T := by
  unfold Lib.strCells Lib.byteCells
  rw [bs_list]
theorem cells_app (T U : List UInt8) : Lib.byteCells T ++ Lib.byteCells U = Lib.byteCells (T ++ U) := by simp [Lib.byteCells]
theorem builder_new (w : World) : Lib.IsBuilderF 150 5 w.heap.size w.heap.size (Lib.byteCells []) (w.alloc (.cells #[.pointer none, .slice none 0 0] 150)) :=
  .inl ⟨Nat.le_refl _, .slice none 0 0, blk_alloc_new _ _, ⟨rfl, .inl ⟨rfl, rfl⟩⟩, by simp [Value.ownBlock]⟩

set_option maxHeartbeats 2000000 in
theorem codeAll_any (d : Nat) (a : Option Addr) (n cap : Nat) (A : Nat → Option Addr) (N : Nat) (C : Nat → Nat) (F : Nat → Nat → Int) (w : World) (hd1 : 1 ≤ d) (hd : d ≤ 12) (hn1 : 1 ≤ n) (hn4 : n ≤ 4) (hN1 : 1 ≤ N) (hN : N ≤ 32)
    (hf : ∀ i, i < n → ∀ j, j < N → fitsB d (F i j) = true) (hA : ListsAt w a n A (fun _ => N) C) (hI : ∀ i, i < n → IntsAt w (A i) N (F i)) (hlow : Low w.heap.size a n A (fun _ => N)) (hT : Tabs w) :
    Calls Tryz.prog 103 #[.int .i64 d, .slice a n cap] w fun e w' => e = .returned (.string (bs (allT d F N n))) ∧ Below w.heap.size w w' := by
  have HC := Hid.mk' (fun (u : World) (hu : Below w.heap.size w u) i (hi : i < n) => subCode_any (A i) N (C i) d (F i) u hN1 hN hd1 (by omega) (hf i hi) ((hI i hi).below hu (hlow.2 i hi)) (fun y hy h0 => Nat.lt_of_lt_of_le (hlow.2 i hi y hy h0) hu.size) (hT.below hu))
  have HA := Hid.mk' (fun (u : World) (hu : Below w.heap.size w u) => hA.below hu hlow.1)
  have HBD := Hid.mk' (allT_bd d F N hN1 hN hd)
  have HSB := Hid.mk' (fun i => subT_le' d (F i) N hN1 hN (by omega))
  have HNE : Hid (allT d F N n ≠ []) := fun h => by
    have := (allT_bd d F N hN1 hN hd n).1
    rw [h] at this; simp at this; omega
  obtain ⟨b, off, rfl, hcell⟩ := hA.open (by omega)
  have HCL := Hid.mk' hcell
  have HBL : Hid (b < w.heap.size) := by
    have := hlow.1 _ rfl (by omega : 0 < n)
    exact this
  clear hf hA hI hlow hT hcell
  go_enter Tryz.func103, Tryz.ntmps103
  go_wp2
  go_loopw [7, 10] (fun _ iv wr => ∃ i : Nat, i ≤ n ∧ iv = .int .i64 i ∧ Hid (Lib.IsBuilderF 150 5 w.heap.size w.heap.size (Lib.byteCells (allT d F N i)) wr ∧ Below w.heap.size w wr ∧ w.heap.size < wr.heap.size)) (fun _ iv _ => n - (intOf iv).toNat)
  case atStart => exact ⟨0, Nat.zero_le _, rfl, builder_new w, (Below.refl _ _).alloc (Nat.le_refl _) _, by simp⟩
  case round =>
    obtain ⟨i, hi, rfl, HR⟩ := hrel
    by_cases hlt : i < n
    · have hc1 : wr.cell? ⟨b, off + i, none⟩ = some (.slice (A i) N (C i)) := (HR.out.2.1.cell (p := ⟨b, off + i, none⟩) HBL.out).trans (HCL.out i hlt)
      have HC1 := Hid.mk' (fun (u : World) (hu : Below wr.heap.size wr u) => HC.out u (HR.out.2.1.trans (hu.mono HR.out.2.1.size)) i hlt)
      have HW := Hid.mk' (fun (u : World) (hu : Below wr.heap.size wr u) => writeString_any 150 lies_builder w.heap.size w.heap.size _ (bs (subT d (F i) N)) u (builder_below HR.out.1 hu) (by rw [bs_size]; have := subT_pos d (F i) N; omega) (by rw [Lib.byteCells_length, bs_size]; have := HSB.out i; have := (HBD.out i).2; omega) (Nat.le_trans HR.out.2.1.size hu.size))
      have HE : Hid (Lib.byteCells (allT d F N i) ++ Lib.strCells (bs (subT d (F i) N)) = Lib.byteCells (allT d F N (i + 1))) := by show _ = _; rw [cells_bs, cells_app]; rfl
      have hz : (bs (subT d (F i) N)).size ≤ 424 := by rw [bs_size]; exact HSB.out i
      generalize bs (subT d (F i) N) = S at *
      go_wp2_with (first
        | (go_at_call 141; refine (HC1.out _ ?_).mono ?_; (first | exact Below.refl _ _ | exact (Below.refl _ _).drew); rintro e w1 ⟨rfl, hb1⟩; have HB1 : Hid (Below wr.heap.size wr w1) := (⟨hb1.os, hb1.tape, hb1.output, hb1.size, hb1.block⟩ : Below wr.heap.size wr w1); clear hb1 HC1)
        | (go_at_call 140; refine (HW.out _ ?_).mono ?_; exact HB1.out; rintro e w2 ⟨rfl, hbl2, hb2⟩; have HB2 : Hid (Lib.IsBuilderF 150 5 w.heap.size w.heap.size (Lib.byteCells (allT d F N (i + 1))) w2 ∧ Below w.heap.size w w2 ∧ w.heap.size < w2.heap.size) := ⟨.inr (by rw [← HE.out]; exact hbl2), HR.out.2.1.trans ((HB1.out.mono HR.out.2.1.size).trans hb2), Nat.lt_of_lt_of_le HR.out.2.2 (Nat.le_trans HB1.out.size hb2.size)⟩; clear hbl2 hb2 HW))
      go_roundw
      case rel => exact ⟨i + 1, by omega, by go_num, HB2.out⟩
      case measure => simp [intOf]; omega
    · have e : i = n := by omega
      subst e
      have HST := Hid.mk' (fun (u : World) (hu : Below wr.heap.size wr u) => string_any 150 w.heap.size w.heap.size (allT d F N i) u (builder_below HR.out.1 hu) HNE.out)
      go_wp2_with (go_at_call 142; refine (HST.out _ ?_).mono ?_; (first | exact Below.refl _ _ | exact (Below.refl _ _).drew); rintro e w1 ⟨rfl, hb1⟩; have HB1 : Hid (Below w.heap.size w w1) := HR.out.2.1.trans ⟨hb1.os, hb1.tape, hb1.output, hb1.size, hb1.block⟩; clear hb1 HST)
      go_ret
      exact ⟨rfl, HB1.out⟩
end Go.Proofs.YtlncjgnomhpjnaaGreatDoor

