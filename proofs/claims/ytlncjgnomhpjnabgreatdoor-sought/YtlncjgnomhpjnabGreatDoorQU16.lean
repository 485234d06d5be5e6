import Derived.Test.YtlncjgnomhpjnabGreatDoorQU15
/-
  What is sealed: sums.IsSealedByEight, sums.IsSealedBySixteen.
-/
namespace Go.Proofs.YtlncjgnomhpjnabGreatDoor
open Go.RowKit Go.Deep
set_option linter.unusedVariables false
theorem bs_takeN (T : List UInt8) (k : Nat) : (bs T).extract 0 k = bs (T.take k) := by
  apply ByteArray.ext
  have hd : ((bs T).extract 0 k).data = (bs T).data.extract 0 k := by simp
  rw [hd]
  show T.toArray.extract 0 k = (T.take k).toArray
  simp
theorem bs_inj {T U : List UInt8} (h : bs T = bs U) : T = U := by
  have := congrArg (fun s => s.data.toList) h
  simpa [bs] using this
theorem str_beq (R S : ByteArray) : (R.toList == S.toList) = true ↔ R = S := by
  rw [beq_iff_eq, ByteArray.toList_eq, ByteArray.toList_eq]
  constructor
  · intro h
    cases R; cases S
    simpa using h
  · intro h; rw [h]
set_option maxHeartbeats 400000 in
theorem isSealed8_any (T : List UInt8) (w : World) (hs : T.length ≤ 1048576) :
    Calls Tryz.prog 132 #[.string (bs T)] w fun e w' => Says e (1 ≤ T.length ∧ seal8 (T.take (T.length - 1)) = T) ∧ Below w.heap.size w w' := by
  have hz : (bs T).size = T.length := bs_size T
  by_cases h1 : 1 ≤ T.length
  · have HSE := Hid.mk' (fun u => seal8_any (T.take (T.length - 1)) u (by rw [List.length_take]; omega))
    rw [← bs_takeN] at HSE
    have HQ : Hid (bs (seal8 (T.take (T.length - 1))) = bs T ↔ (1 ≤ T.length ∧ seal8 (T.take (T.length - 1)) = T)) := ⟨fun h => ⟨h1, bs_inj h⟩, fun h => congrArg bs h.2⟩
    generalize bs (seal8 (T.take (T.length - 1))) = R at *
    generalize bs T = S at *
    generalize T.length = n at *
    have w1 : IntKind.i64.wrap ((n : Int) - 1) = ((n - 1 : Nat) : Int) := by rw [IntKind.wrap_i64]; omega
    have hle : n - 1 ≤ n := by omega
    generalize n - 1 = n1 at *
    go_enter Tryz.func132, Tryz.ntmps132
    go_wp2_with (go_at_call 197; refine (HSE.out _).mono ?_; rintro e u1 ⟨rfl, hb⟩; have HB := Hid.mk' hb; clear hb HSE)
    go_ret
    exact ⟨⟨_, rfl, (str_beq R S).trans HQ.out⟩, HB.out⟩
  · have HQ : Hid (¬ (1 ≤ T.length ∧ seal8 (T.take (T.length - 1)) = T)) := fun h => h1 h.1
    generalize bs T = S at *
    generalize T.length = n at *
    have t1 : decide ((1 : Int) ≤ (n : Int)) = false := decide_eq_false (by omega)
    have hn : ¬ (1 : Int) ≤ (n : Int) := by omega
    go_enter Tryz.func132, Tryz.ntmps132
    go_wp2
    go_ret
    exact ⟨⟨false, rfl, by simp⟩, Below.refl _ _⟩
set_option maxHeartbeats 400000 in
theorem isSealed16_any (T : List UInt8) (w : World) (hs : T.length ≤ 1048576) :
    Calls Tryz.prog 135 #[.string (bs T)] w fun e w' => Says e (2 ≤ T.length ∧ seal16 (T.take (T.length - 2)) = T) ∧ Below w.heap.size w w' := by
  have hz : (bs T).size = T.length := bs_size T
  by_cases h1 : 2 ≤ T.length
  · have HSE := Hid.mk' (fun u => seal16_any (T.take (T.length - 2)) u (by rw [List.length_take]; omega))
    rw [← bs_takeN] at HSE
    have HQ : Hid (bs (seal16 (T.take (T.length - 2))) = bs T ↔ (2 ≤ T.length ∧ seal16 (T.take (T.length - 2)) = T)) := ⟨fun h => ⟨h1, bs_inj h⟩, fun h => congrArg bs h.2⟩
    generalize bs (seal16 (T.take (T.length - 2))) = R at *
    generalize bs T = S at *
    generalize T.length = n at *
    have w1 : IntKind.i64.wrap ((n : Int) - 2) = ((n - 2 : Nat) : Int) := by rw [IntKind.wrap_i64]; omega
    have hle : n - 2 ≤ n := by omega
    generalize n - 2 = n1 at *
    go_enter Tryz.func135, Tryz.ntmps135
    go_wp2_with (go_at_call 125; refine (HSE.out _).mono ?_; rintro e u1 ⟨rfl, hb⟩; have HB := Hid.mk' hb; clear hb HSE)
    go_ret
    exact ⟨⟨_, rfl, (str_beq R S).trans HQ.out⟩, HB.out⟩
  · have HQ : Hid (¬ (2 ≤ T.length ∧ seal16 (T.take (T.length - 2)) = T)) := fun h => h1 h.1
    generalize bs T = S at *
    generalize T.length = n at *
    have t1 : decide ((2 : Int) ≤ (n : Int)) = false := decide_eq_false (by omega)
    have hn : ¬ (2 : Int) ≤ (n : Int) := by omega
    go_enter Tryz.func135, Tryz.ntmps135
    go_wp2
    go_ret
    exact ⟨⟨false, rfl, by simp⟩, Below.refl _ _⟩
end Go.Proofs.YtlncjgnomhpjnabGreatDoor

/-
  The bits of bytes: mathematics for bittext.OfBytes and reelref.spelt.
-/
namespace Go.Proofs.YtlncjgnomhpjnabGreatDoor
set_option linter.unusedVariables false
/-- the bits of the first k bytes -/
def spellTo (T : List UInt8) (k : Nat) : List UInt8 := (List.range (8 * k)).map fun j => ltr (msgBit T j)
theorem spellTo_length (T : List UInt8) (k : Nat) : (spellTo T k).length = 8 * k := by simp [spellTo]
theorem bit_dec (v p : Nat) : v.testBit p = decide ((v : Int) / 2 ^ p % 2 = 1) := by
  rw [Nat.testBit_eq_decide_div_mod_eq]
  have e : ((v / 2 ^ p % 2 : Nat) : Int) = (v : Int) / 2 ^ p % 2 := by simp
  rw [← e, decide_eq_decide]
  omega
theorem spellTo_step (T : List UInt8) (k : Nat) (hk : k < T.length) : spellTo T (k + 1) = spellTo T k ++ binT (T[k].toNat : Nat) 8 := by
  unfold spellTo binT
  rw [show 8 * (k + 1) = 8 * k + 8 by omega, List.range_add, List.map_append, List.map_map]
  congr 1
  apply List.map_congr_left
  intro x hx
  have hx8 : x < 8 := List.mem_range.1 hx
  show ltr (msgBit T (8 * k + x)) = _
  rw [msgBit_byte _ _ _ hx8, List.getD_eq_getElem?_getD, List.getElem?_eq_getElem hk, Option.getD_some, bit_dec]
end Go.Proofs.YtlncjgnomhpjnabGreatDoor

/-
  What two subframes tell, turned back: frame.unpaired.
-/
namespace Go.Proofs.YtlncjgnomhpjnabGreatDoor
open Go.RowKit Go.Deep
set_option linter.unusedVariables false
/-- left and right of what a mode tells -/
def unL (m : Nat) (a b : Int) : Int := if m = 2 then a + b else if m = 3 then a + (b + 1) / 2 else a
def unR (m : Nat) (a b : Int) : Int := if m = 1 then a - b else if m = 3 then a + (b + 1) / 2 - b else b
set_option maxHeartbeats 400000 in
theorem unpaired_any (m : Nat) (a b : Int) (w : World) (hm : m < 4) (ha : -8192 ≤ a ∧ a ≤ 8192) (hb : -8192 ≤ b ∧ b ≤ 8192) :
    Calls Tryz.prog 255 #[.int .i64 m, .int .i64 a, .int .i64 b] w fun e w' => e = .returned (.tuple #[.int .i64 (unL m a b), .int .i64 (unR m a b)]) ∧ w' = w := by
  have w1 : IntKind.i64.wrap (a - b) = a - b := by rw [IntKind.wrap_i64]; omega
  have w2 : IntKind.i64.wrap (a + b) = a + b := by rw [IntKind.wrap_i64]; omega
  have w3 : IntKind.i64.wrap (2 * a) = 2 * a := by rw [IntKind.wrap_i64]; omega
  have hand := and_one b
  have w4 : IntKind.i64.wrap (2 * a + b % 2) = 2 * a + b % 2 := by rw [IntKind.wrap_i64]; omega
  have w5 : IntKind.i64.wrap (2 * a + b % 2 + b) = 2 * a + b % 2 + b := by rw [IntKind.wrap_i64]; omega
  have w6 : IntKind.i64.wrap (2 * a + b % 2 - b) = 2 * a + b % 2 - b := by rw [IntKind.wrap_i64]; omega
  have d1 : (2 * a + b % 2 + b).tdiv 2 = a + (b + 1) / 2 := by rw [Int.tdiv_eq_ediv_of_dvd (by omega)]; omega
  have d2 : (2 * a + b % 2 - b).tdiv 2 = a + (b + 1) / 2 - b := by rw [Int.tdiv_eq_ediv_of_dvd (by omega)]; omega
  match m, hm with
  | 0, _ =>
    go_enter Tryz.func255, Tryz.ntmps255
    go_wp2
    go_ret2
    exact ⟨rfl, rfl⟩
  | 1, _ =>
    go_enter Tryz.func255, Tryz.ntmps255
    go_wp2
    go_ret2
    exact ⟨rfl, rfl⟩
  | 2, _ =>
    go_enter Tryz.func255, Tryz.ntmps255
    go_wp2
    go_ret2
    exact ⟨rfl, rfl⟩
  | 3, _ =>
    go_enter Tryz.func255, Tryz.ntmps255
    go_wp2
    go_ret2
    exact ⟨rfl, rfl⟩
end Go.Proofs.YtlncjgnomhpjnabGreatDoor

/-
  A frame's head, read: frame.readHead.
-/
namespace Go.Proofs.YtlncjgnomhpjnabGreatDoor
open Go.RowKit Go.Deep
set_option linter.unusedVariables false
/-- a piece of a text -/
def pieceT (T : List UInt8) (a b : Nat) : List UInt8 := (T.drop a).take (b - a)
theorem bs_cut (T : List UInt8) (a b : Nat) : (bs T).extract a b = bs (pieceT T a b) := by
  apply ByteArray.ext
  have hd : ((bs T).extract a b).data = (bs T).data.extract a b := by simp
  rw [hd]
  show T.toArray.extract a b = (pieceT T a b).toArray
  simp [pieceT, List.extract_toArray, List.extract_eq_take_drop]
/-- a text begins with a frame's head -/
def HeadP (T : List UInt8) : Prop := 8 ≤ T.length ∧ T.getD 0 0 = 165 ∧ seal8 (T.take 7) = T.take 8
end Go.Proofs.YtlncjgnomhpjnabGreatDoor

/-
  Texts that are built up: (*strings.Builder).WriteString, frame.codeAll.
-/
namespace Go.Proofs.YtlncjgnomhpjnabGreatDoor
open Go.RowKit Go.Deep
set_option linter.unusedVariables false
theorem builder_at_below {T e : TypeId} {B b : Nat} {p : Value} {xs : List Value} {w w' : World} (h : Lib.BuilderAtF T e B b p xs w) (hb : Below w.heap.size w w') : Lib.BuilderAtF T e B b p xs w' := by
  have hlt := h.lt
  obtain ⟨hB, v, hbk, hown, hne⟩ := h
  refine ⟨hB, v, (hb.block b hlt).trans hbk, ?_, hne⟩
  obtain ⟨hl, hr⟩ := hown
  refine ⟨hl, ?_⟩
  rcases hr with h0 | ⟨g, cap, cur, fz, h1, h2, h3, h4⟩
  · exact .inl h0
  · exact .inr ⟨g, cap, cur, fz, h1, h2, (hb.block g (Array.getElem?_eq_some_iff.1 h3).1).trans h3, h4⟩
theorem builder_below {T e : TypeId} {B b : Nat} {xs : List Value} {w w' : World} (h : Lib.IsBuilderF T e B b xs w) (hb : Below w.heap.size w w') : Lib.IsBuilderF T e B b xs w' :=
  h.elim (fun h => .inl (builder_at_below h hb)) (fun h => .inr (builder_at_below h hb))
set_option maxHeartbeats 2000000 in
set_option maxRecDepth 100000 in
theorem writeString_any (T : TypeId) (hT : Lies T) (B b : Nat) (xs : List Value) (s : ByteArray) (w : World) (h : Lib.IsBuilderF T 5 B b xs w) (hs : 0 < s.size) (hlen : xs.length + s.size ≤ 140737488355328) (hBw : B ≤ w.heap.size) :
    Calls Tryz.prog 200 #[.pointer (some ⟨b, 0, none⟩), .string s] w fun e w' => e = .returned (.tuple #[.int .i64 s.size, .nilIface]) ∧ (Lib.BuilderAtF T 5 B b (.pointer (some ⟨b, 0, none⟩)) (xs ++ Lib.strCells s) w' ∧ Below B w w') := by
  obtain ⟨i0, hi, hz0, hz1, hz2⟩ := info_parts infoByte
  have HH := Hid.mk' h
  clear h
  go_enter Tryz.func200, Tryz.ntmps200
  go_wp2_with (go_at_call 251; refine (copyCheck_any T hT B b xs _ HH.out).mono ?_)
  rintro e w1 ⟨rfl, h1, hb1, hk1⟩
  obtain ⟨hB, v, hbk, hown, hne⟩ := h1
  have c0 : w1.cell? ⟨b, 0, none⟩ = some (.pointer (some ⟨b, 0, none⟩)) := by rw [Lib.cell_of_heap hbk]; rfl
  have c1 : w1.cell? ⟨b, 1, none⟩ = some v := by rw [Lib.cell_of_heap hbk]; rfl
  go_wp2_with (at_builtin; refine Lib.wpList_append_own_stringF _ rfl _ _ 33 9 rfl B 5 i0 Tryz.underlying33 Tryz.underlying9 hi hz0 hz1 hz2 _ _ _ rfl hown s rfl ?c3 ?c4 ?c5 ?_)
  case c3 => unfold maxLen; omega
  case c4 => omega
  case c5 => have := hb1.size; omega
  intro v' w2 hown' hgrow _
  have hlt : b < w1.heap.size := (Array.getElem?_eq_some_iff.1 hbk).1
  have hb2 : w2.heap[b]? = some (.cells #[.pointer (some ⟨b, 0, none⟩), v] T (0, 0)) := by
    rw [hgrow.block b hlt (fun e => hne e.symm)]
    exact hbk
  have d0 : w2.cell? ⟨b, 0, none⟩ = some (.pointer (some ⟨b, 0, none⟩)) := by rw [Lib.cell_of_heap hb2]; rfl
  have d1 : w2.cell? ⟨b, 1, none⟩ = some v := by rw [Lib.cell_of_heap hb2]; rfl
  have f1 : w2.frozen? ⟨b, 1, none⟩ = false := Lib.frozen_of_heap hb2 1
  obtain ⟨g, cap, rfl⟩ : ∃ g cap, v' = .slice (some ⟨g, 0, none⟩) (xs.length + s.size) cap := by
    rcases hown'.2 with ⟨_, h0⟩ | ⟨g, cap, cur, fz, hv, _⟩
    · omega
    · exact ⟨g, cap, hv⟩
  go_wp2
  go_ret2
  refine ⟨rfl, ?_, ?_⟩
  · exact Lib.BuilderAtF.put (T := T) (e := 5) hB hb2 (bs' := xs ++ Lib.strCells s) (by rw [List.length_append, Lib.strCells_length]; exact hown') hT.2
  · exact ((hb1.grown hgrow (by have := hb1.size; omega) (fun k hk => (hown.lt k hk).1))).setCell (p := ⟨b, 1, none⟩) hB _
theorem cells_bs (T : List UInt8) : Lib.strCells (bs T) = Lib.byteCells T := by
  unfold Lib.strCells Lib.byteCells
  rw [bs_list]
theorem cells_app (T U : List UInt8) : Lib.byteCells T ++ Lib.byteCells U = Lib.byteCells (T ++ U) := by simp [Lib.byteCells]
theorem builder_new (w : World) : Lib.IsBuilderF 278 5 w.heap.size w.heap.size (Lib.byteCells []) (w.alloc (.cells #[.pointer none, .slice none 0 0] 278)) :=
  .inl ⟨Nat.le_refl _, .slice none 0 0, blk_alloc_new _ _, ⟨rfl, .inl ⟨rfl, rfl⟩⟩, by simp [Value.ownBlock]⟩
set_option maxHeartbeats 2000000 in
theorem codeAll_any (d : Nat) (a : Option Addr) (n cap : Nat) (A : Nat → Option Addr) (N : Nat) (C : Nat → Nat) (F : Nat → Nat → Int) (w : World) (hd1 : 1 ≤ d) (hd : d ≤ 12) (hn1 : 1 ≤ n) (hn4 : n ≤ 4) (hN1 : 1 ≤ N) (hN : N ≤ 32)
    (hf : ∀ i, i < n → ∀ j, j < N → fitsB d (F i j) = true) (hA : ListsAt w a n A (fun _ => N) C) (hI : ∀ i, i < n → IntsAt w (A i) N (F i)) (hlow : Low w.heap.size a n A (fun _ => N)) (hT : Tabs w) :
    Calls Tryz.prog 193 #[.int .i64 d, .slice a n cap] w fun e w' => e = .returned (.string (bs (allT d F N n))) ∧ Below w.heap.size w w' := by
  have HC := Hid.mk' (fun (u : World) (hu : Below w.heap.size w u) i (hi : i < n) => subCode_any (A i) N (C i) d (F i) u hN1 hN hd1 (by omega) (hf i hi) ((hI i hi).below hu (hlow.2 i hi)) (fun y hy h0 => Nat.lt_of_lt_of_le (hlow.2 i hi y hy h0) hu.size) (hT.below hu))
  have HA := Hid.mk' (fun (u : World) (hu : Below w.heap.size w u) => hA.below hu hlow.1)
  have HBD := Hid.mk' (allT_bd d F N hN1 hN hd)
  have HSB := Hid.mk' (fun i => subT_le' d (F i) N hN1 hN (by omega))
  have HNE : Hid (allT d F N n ≠ []) := fun h => by
    have := (allT_bd d F N hN1 hN hd n).1
    rw [h] at this; simp at this; omega
  obtain ⟨b, off, rfl, hcell⟩ := hA.open (by omega)
  have HCL := Hid.mk' hcell
  have HBL : Hid (b < w.heap.size) := by
    have := hlow.1 _ rfl (by omega : 0 < n)
    exact this
  clear hf hA hI hlow hT hcell
  go_enter Tryz.func193, Tryz.ntmps193
  go_wp2
  go_loopw [7, 10] (fun _ iv wr => ∃ i : Nat, i ≤ n ∧ iv = .int .i64 i ∧ Hid (Lib.IsBuilderF 278 5 w.heap.size w.heap.size (Lib.byteCells (allT d F N i)) wr ∧ Below w.heap.size w wr ∧ w.heap.size < wr.heap.size)) (fun _ iv _ => n - (intOf iv).toNat)
  case atStart => exact ⟨0, Nat.zero_le _, rfl, builder_new w, (Below.refl _ _).alloc (Nat.le_refl _) _, by simp⟩
  case round =>
    obtain ⟨i, hi, rfl, HR⟩ := hrel
    by_cases hlt : i < n
    · have hc1 : wr.cell? ⟨b, off + i, none⟩ = some (.slice (A i) N (C i)) := (HR.out.2.1.cell (p := ⟨b, off + i, none⟩) HBL.out).trans (HCL.out i hlt)
      have HC1 := Hid.mk' (fun (u : World) (hu : Below wr.heap.size wr u) => HC.out u (HR.out.2.1.trans (hu.mono HR.out.2.1.size)) i hlt)
      have HW := Hid.mk' (fun (u : World) (hu : Below wr.heap.size wr u) => writeString_any 278 lies_builder w.heap.size w.heap.size _ (bs (subT d (F i) N)) u (builder_below HR.out.1 hu) (by rw [bs_size]; have := subT_pos d (F i) N; omega) (by rw [Lib.byteCells_length, bs_size]; have := HSB.out i; have := (HBD.out i).2; omega) (Nat.le_trans HR.out.2.1.size hu.size))
      have HE : Hid (Lib.byteCells (allT d F N i) ++ Lib.strCells (bs (subT d (F i) N)) = Lib.byteCells (allT d F N (i + 1))) := by show _ = _; rw [cells_bs, cells_app]; rfl
      have hz : (bs (subT d (F i) N)).size ≤ 424 := by rw [bs_size]; exact HSB.out i
      generalize bs (subT d (F i) N) = S at *
      go_wp2_with (first
        | (go_at_call 221; refine (HC1.out _ ?_).mono ?_; (first | exact Below.refl _ _ | exact (Below.refl _ _).drew); rintro e w1 ⟨rfl, hb1⟩; have HB1 : Hid (Below wr.heap.size wr w1) := (⟨hb1.os, hb1.tape, hb1.output, hb1.size, hb1.block⟩ : Below wr.heap.size wr w1); clear hb1 HC1)
        | (go_at_call 200; refine (HW.out _ ?_).mono ?_; exact HB1.out; rintro e w2 ⟨rfl, hbl2, hb2⟩; have HB2 : Hid (Lib.IsBuilderF 278 5 w.heap.size w.heap.size (Lib.byteCells (allT d F N (i + 1))) w2 ∧ Below w.heap.size w w2 ∧ w.heap.size < w2.heap.size) := ⟨.inr (by rw [← HE.out]; exact hbl2), HR.out.2.1.trans ((HB1.out.mono HR.out.2.1.size).trans hb2), Nat.lt_of_lt_of_le HR.out.2.2 (Nat.le_trans HB1.out.size hb2.size)⟩; clear hbl2 hb2 HW))
      go_roundw
      case rel => exact ⟨i + 1, by omega, by go_num, HB2.out⟩
      case measure => simp [intOf]; omega
    · have e : i = n := by omega
      subst e
      have HST := Hid.mk' (fun (u : World) (hu : Below wr.heap.size wr u) => string_any 278 w.heap.size w.heap.size (allT d F N i) u (builder_below HR.out.1 hu) HNE.out)
      go_wp2_with (go_at_call 201; refine (HST.out _ ?_).mono ?_; (first | exact Below.refl _ _ | exact (Below.refl _ _).drew); rintro e w1 ⟨rfl, hb1⟩; have HB1 : Hid (Below w.heap.size w w1) := HR.out.2.1.trans ⟨hb1.os, hb1.tape, hb1.output, hb1.size, hb1.block⟩; clear hb1 HST)
      go_ret
      exact ⟨rfl, HB1.out⟩
end Go.Proofs.YtlncjgnomhpjnabGreatDoor

/-
  Two channels: frame.sideOf, frame.middleOf, reelref.pair.
-/
namespace Go.Proofs.YtlncjgnomhpjnabGreatDoor
open Go.RowKit Go.Deep
set_option linter.unusedVariables false
set_option maxHeartbeats 1000000 in
theorem sideOf_any (a b : Option Addr) (n c c' : Nat) (l r : Nat → Int) (w : World) (hn : n ≤ 32) (hbl : ∀ j, j < n → -4096 ≤ l j ∧ l j ≤ 4096) (hbr : ∀ j, j < n → -4096 ≤ r j ∧ r j ≤ 4096) (hI : IntsAt w a n l) (hJ : IntsAt w b n r)
    (hlow : ∀ y, a = some y → 0 < n → y.block < w.heap.size) (hlow2 : ∀ y, b = some y → 0 < n → y.block < w.heap.size) :
    Calls Tryz.prog 248 #[.slice a n c, .slice b n c'] w fun e w' => e = .returned (.slice (some ⟨w.heap.size, 0, none⟩) n n) ∧ w'.rowIs w.heap.size 3 n (cutV n (sideL l r)) ∧ Below w.heap.size w w' := by
  have hmk := run_make_row' (P := Tryz.prog) 30 3 (.int .i64 0) 8 Tryz.underlying30 infoInt rfl .i64 .i64 n (by omega) (by omega)
  have HI := Hid.mk' (fun u (h : Below w.heap.size w u) => hI.belowB h hlow)
  have HJ := Hid.mk' (fun u (h : Below w.heap.size w u) => hJ.belowB h hlow2)
  have HBL := Hid.mk' hbl
  have HBR := Hid.mk' hbr
  clear hI hlow hJ hlow2 hbl hbr
  go_enter Tryz.func248, Tryz.ntmps248
  go_wp2
  clear hmk
  go_loopw [6, 12] (fun _ i wr => ∃ j : Nat, j ≤ n ∧ i = .int .i64 j ∧ Hid (wr.rowIs w.heap.size 3 n (cutV j (sideL l r)) ∧ Below w.heap.size w wr)) (fun _ i _ => n - (intOf i).toNat)
  case atStart => exact ⟨0, Nat.zero_le _, rfl, (World.rowIs_made w (.int .i64 0) n 3).congr fun i _ => by simp [cutV, cutI], (Below.refl _ _).alloc (Nat.le_refl _) _⟩
  case round =>
    obtain ⟨j, hj, rfl, HR⟩ := hrel
    by_cases hlt : j < n
    · obtain ⟨bb, off, hx, hc⟩ := (HI.out wr HR.out.2).open (by omega)
      obtain ⟨bb2, off2, hx2, hc2⟩ := (HJ.out wr HR.out.2).open (by omega)
      have hcj := hc j hlt
      have hcj2 := hc2 j hlt
      have hc1 := HR.out.1.cell hlt
      have hf1 := HR.out.1.frozen j
      unfold cutV at hc1
      have b1 := HBL.out j hlt
      have b2 := HBR.out j hlt
      have HSD : Hid (sideL l r j = l j - r j) := rfl
      have wf : IntKind.i64.wrap (l j - r j) = l j - r j := by rw [IntKind.wrap_i64]; omega
      clear hc hc2
      subst hx hx2
      go_wp2
      go_region
      all_goals go_wp2
      go_roundw
      case rel => exact ⟨j + 1, by omega, by go_num, cutV_step rfl (HR.out.1.set j _), (HR.out.2.setCell (p := ⟨w.heap.size, j, none⟩) (Nat.le_refl _) _).drew⟩
      case measure => simp [intOf]; omega
    · have e : j = n := by omega
      subst e
      go_wp2
      go_ret
      exact ⟨rfl, HR.out.1, HR.out.2⟩
set_option maxHeartbeats 1000000 in
theorem middleOf_any (a b : Option Addr) (n c c' : Nat) (l r : Nat → Int) (w : World) (hn : n ≤ 32) (hbl : ∀ j, j < n → -4096 ≤ l j ∧ l j ≤ 4096) (hbr : ∀ j, j < n → -4096 ≤ r j ∧ r j ≤ 4096) (hI : IntsAt w a n l) (hJ : IntsAt w b n r)
    (hlow : ∀ y, a = some y → 0 < n → y.block < w.heap.size) (hlow2 : ∀ y, b = some y → 0 < n → y.block < w.heap.size) :
    Calls Tryz.prog 249 #[.slice a n c, .slice b n c'] w fun e w' => e = .returned (.slice (some ⟨w.heap.size, 0, none⟩) n n) ∧ w'.rowIs w.heap.size 3 n (cutV n (midL l r)) ∧ Below w.heap.size w w' := by
  have hmk := run_make_row' (P := Tryz.prog) 30 3 (.int .i64 0) 8 Tryz.underlying30 infoInt rfl .i64 .i64 n (by omega) (by omega)
  have HI := Hid.mk' (fun u (h : Below w.heap.size w u) => hI.belowB h hlow)
  have HJ := Hid.mk' (fun u (h : Below w.heap.size w u) => hJ.belowB h hlow2)
  have HBL := Hid.mk' hbl
  have HBR := Hid.mk' hbr
  clear hI hlow hJ hlow2 hbl hbr
  go_enter Tryz.func249, Tryz.ntmps249
  go_wp2
  clear hmk
  go_loopw [6, 12] (fun _ i wr => ∃ j : Nat, j ≤ n ∧ i = .int .i64 j ∧ Hid (wr.rowIs w.heap.size 3 n (cutV j (midL l r)) ∧ Below w.heap.size w wr)) (fun _ i _ => n - (intOf i).toNat)
  case atStart => exact ⟨0, Nat.zero_le _, rfl, (World.rowIs_made w (.int .i64 0) n 3).congr fun i _ => by simp [cutV, cutI], (Below.refl _ _).alloc (Nat.le_refl _) _⟩
  case round =>
    obtain ⟨j, hj, rfl, HR⟩ := hrel
    by_cases hlt : j < n
    · obtain ⟨bb, off, hx, hc⟩ := (HI.out wr HR.out.2).open (by omega)
      obtain ⟨bb2, off2, hx2, hc2⟩ := (HJ.out wr HR.out.2).open (by omega)
      have hcj := hc j hlt
      have hcj2 := hc2 j hlt
      have hc1 := HR.out.1.cell hlt
      have hf1 := HR.out.1.frozen j
      unfold cutV at hc1
      have b1 := HBL.out j hlt
      have b2 := HBR.out j hlt
      have wf : IntKind.i64.wrap (l j + r j) = l j + r j := by rw [IntKind.wrap_i64]; omega
      clear hc hc2
      subst hx hx2
      go_wp2
      go_region
      all_goals go_wp2
      go_roundw
      case rel => exact ⟨j + 1, by omega, by go_num, cutV_step rfl (HR.out.1.set j _), (HR.out.2.setCell (p := ⟨w.heap.size, j, none⟩) (Nat.le_refl _) _).drew⟩
      case measure => simp [intOf]; omega
    · have e : j = n := by omega
      subst e
      go_wp2
      go_ret
      exact ⟨rfl, HR.out.1, HR.out.2⟩
end Go.Proofs.YtlncjgnomhpjnabGreatDoor

