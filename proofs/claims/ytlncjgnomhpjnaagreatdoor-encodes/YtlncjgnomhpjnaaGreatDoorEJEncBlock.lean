import Derived.Test.YtlncjgnomhpjnaaGreatDoorEJEncMath
import Derived.Test.YtlncjgnomhpjnaaGreatDoorEKLentAll
import Derived.Test.YtlncjgnomhpjnaaGreatDoorEJFrameHead
/-
  Blocks of a sound: sound.Blocks, sound.BlockSamples, sound.Block.
-/
namespace Go.Proofs.YtlncjgnomhpjnaaGreatDoor
open Go.RowKit Go.Deep
set_option linter.unusedVariables false

theorem blocks_any (S B : Nat) (w : World) (hB : 1 ≤ B) (hB2 : B ≤ 100000) (hS : S ≤ 100000) :
    Calls Tryz.prog 83 #[.int .i64 S, .int .i64 B] w fun e w' => e = .returned (.int .i64 (nBlk S B : Nat)) ∧ w' = w := by
  have hle := nBlk_le (S := S) hB
  have w1 : IntKind.i64.wrap ((S : Int) + (B : Int)) = (S : Int) + (B : Int) := by rw [IntKind.wrap_i64]; omega
  have w2 : IntKind.i64.wrap ((S : Int) + (B : Int) - 1) = (S : Int) + (B : Int) - 1 := by rw [IntKind.wrap_i64]; omega
  have d0 : ((S : Int) + (B : Int) - 1) / (B : Int) = ((nBlk S B : Nat) : Int) := by
    rw [show (S : Int) + (B : Int) - 1 = ((S + B - 1 : Nat) : Int) by omega]; rfl
  have d1 : ((S : Int) + (B : Int) - 1).tdiv (B : Int) = ((nBlk S B : Nat) : Int) := by
    rw [Int.tdiv_eq_ediv_of_nonneg (by omega)]; exact d0
  have w3 : IntKind.i64.wrap ((nBlk S B : Nat) : Int) = ((nBlk S B : Nat) : Int) := by rw [IntKind.wrap_i64]; omega
  have hz : ((B : Int) == 0) = false := by simp; omega
  have hz2 : ¬ (B : Int) = 0 := by omega
  generalize nBlk S B = N at *
  go_enter Tryz.func83, Tryz.ntmps83
  go_wp2
  go_ret
  exact ⟨rfl, rfl⟩

theorem blockSamples_any (S B k : Nat) (w : World) (hk : k * B ≤ S) (hB2 : B ≤ 100000) (hS : S ≤ 100000) :
    Calls Tryz.prog 127 #[.int .i64 S, .int .i64 B, .int .i64 k] w fun e w' => e = .returned (.int .i64 (blkN S B k : Nat)) ∧ w' = w := by
  have e1 : (k : Int) * (B : Int) = ((k * B : Nat) : Int) := by simp
  have w1 : IntKind.i64.wrap ((k : Int) * (B : Int)) = ((k * B : Nat) : Int) := by rw [IntKind.wrap_i64, e1]; omega
  have w2 : IntKind.i64.wrap ((S : Int) - ((k * B : Nat) : Int)) = ((S - k * B : Nat) : Int) := by rw [IntKind.wrap_i64]; omega
  have HM : Hid (((blkN S B k : Nat) : Int) = min (B : Int) ((S - k * B : Nat) : Int)) := by show _ = _; unfold blkN; omega
  rw [HM.out]
  clear e1
  generalize k * B = q at *
  generalize S - q = r at *
  go_enter Tryz.func127, Tryz.ntmps127
  go_wp2
  go_ret
  exact ⟨rfl, rfl⟩

/-- where a list lies -/
def bkOf : Option Addr → Nat
  | some x => x.block
  | none => 0
def ofOf : Option Addr → Nat
  | some x => x.off
  | none => 0
/-- a block's lists -/
def blkA (A : Nat → Option Addr) (q i : Nat) : Option Addr := some ⟨bkOf (A i), ofOf (A i) + q, none⟩
theorem ints_addr {w : World} {a : Option Addr} {n : Nat} {f : Nat → Int} (h : IntsAt w a n f) (hn : 0 < n) : a = some ⟨bkOf a, ofOf a, none⟩ := by
  obtain ⟨b, off, rfl, -⟩ := h.open hn
  rfl
theorem ints_cut {w : World} {A : Nat → Option Addr} {i n q m : Nat} {f : Nat → Int} (h : IntsAt w (A i) n f) (hm : q + m ≤ n) : IntsAt w (blkA A q i) m (fun j => f (q + j)) := fun j hj => by
  obtain ⟨b, off, ha, hc⟩ := h.open (by omega)
  refine ⟨_, rfl, ?_⟩
  have := hc (q + j) (by omega)
  rw [ha]
  show w.cell? (Addr.add ⟨b, off + q, none⟩ j) = _
  rw [show Addr.add ⟨b, off + q, none⟩ j = ⟨b, off + (q + j), none⟩ by cases j <;> simp [Addr.add] <;> omega]
  exact this
def blkV (A : Nat → Option Addr) (C : Nat → Nat) (q m j i : Nat) : Value := if i < j then .slice (blkA A q i) m (C i - q) else .slice none 0 0
theorem blkV_step {wr : World} {g n q m j : Nat} {A : Nat → Option Addr} {C : Nat → Nat} (h : wr.rowIs g 29 n (blkV A C q m j)) :
    (wr.setCell ⟨g, j, none⟩ (.slice (blkA A q j) m (C j - q))).rowIs g 29 n (blkV A C q m (j + 1)) :=
  (h.set j _).congr fun i _ => by
    unfold blkV
    by_cases e : i = j
    · rw [if_pos e, if_pos (by omega), e]
    · rw [if_neg e]
      by_cases e2 : i < j
      · rw [if_pos e2, if_pos (by omega)]
      · rw [if_neg e2, if_neg (by omega)]
set_option maxHeartbeats 1000000 in
theorem block_any (a : Option Addr) (n cap : Nat) (A : Nat → Option Addr) (S : Nat) (C : Nat → Nat) (F : Nat → Nat → Int) (B k : Nat) (w : World) (hn1 : 1 ≤ n) (hn4 : n ≤ 4) (hB : 1 ≤ B) (hB2 : B ≤ 32) (hS : S ≤ 300) (hk : k < nBlk S B)
    (hA : ListsAt w a n A (fun _ => S) C) (hC : ∀ i, i < n → S ≤ C i) (hI : ∀ i, i < n → IntsAt w (A i) S (F i)) (hlow : Low w.heap.size a n A (fun _ => S)) :
    Calls Tryz.prog 84 #[.slice a n cap, .int .i64 B, .int .i64 k] w fun e w' =>
      e = .returned (.slice (some ⟨w.heap.size, 0, none⟩) n n) ∧ w'.rowIs w.heap.size 29 n (blkV A C (k * B) (blkN S B k) n) ∧ Below w.heap.size w w' := by
  have hbd := blkN_bd hB hk
  have HAD := Hid.mk' (fun i (hi : i < n) => ints_addr (hI i hi) (by omega))
  have HBS := Hid.mk' (fun u => blockSamples_any S B k u (by omega) (by omega) (by omega))
  have HC := Hid.mk' hC
  have hmk := run_make_row' (P := Tryz.prog) 24 29 (.slice none 0 0) 24 Tryz.underlying24 infoInts rfl .i64 .i64 n (by omega) (by omega)
  obtain ⟨b, off, rfl, hcell⟩ := hA.open (by omega)
  have HCL := Hid.mk' hcell
  have HBL : Hid (b < w.heap.size) := by
    have := hlow.1 _ rfl (by omega : 0 < n)
    exact this
  have e1 : (k : Int) * (B : Int) = ((k * B : Nat) : Int) := by simp
  have w1 : IntKind.i64.wrap ((k : Int) * (B : Int)) = ((k * B : Nat) : Int) := by rw [IntKind.wrap_i64, e1]; omega
  have hbl := HBL.out
  clear hA hI hlow hcell hC e1
  generalize blkN S B k = m at *
  generalize k * B = q at *
  have w2 : IntKind.i64.wrap ((q : Int) + (m : Int)) = ((q + m : Nat) : Int) := by rw [IntKind.wrap_i64]; omega
  have hb0 : Below w.heap.size w (w.alloc (.cells (madeCells #[.slice none 0 0] n) 29)) := (Below.refl _ _).alloc (Nat.le_refl _) _
  have HB0 := Hid.mk' hb0
  clear hb0
  go_enter Tryz.func84, Tryz.ntmps84
  go_wp2
  clear hmk
  go_loopw [8, 9, 10, 16] (fun _ _ _ iv wr => ∃ i : Nat, i ≤ n ∧ iv = .int .i64 i ∧ Hid (wr.rowIs w.heap.size 29 n (blkV A C q m i) ∧ Below w.heap.size w wr)) (fun _ _ _ iv _ => n - (intOf iv).toNat)
  case atStart => exact ⟨0, Nat.zero_le _, rfl, (World.rowIs_made w (.slice none 0 0) n 29).congr fun i _ => by unfold blkV; rw [if_neg (by omega)], HB0.out⟩
  case round =>
    obtain ⟨i, hi, rfl, HR⟩ := hrel
    by_cases hlt : i < n
    · have hcb : wr.cell? ⟨b, off + i, none⟩ = some (.slice (some ⟨bkOf (A i), ofOf (A i), none⟩) S (C i)) := by
        have := (HR.out.2.cell (p := ⟨b, off + i, none⟩) hbl).trans (HCL.out i hlt)
        rw [HAD.out i hlt] at this; exact this
      have hCi := HC.out i hlt
      have hc1 := HR.out.1.cell hlt
      have hf1 := HR.out.1.frozen i
      have HZ := Hid.mk' (blkV_step HR.out.1)
      unfold blkA at HZ
      generalize bkOf (A i) = gi at *
      generalize ofOf (A i) = oi at *
      generalize C i = ci at *
      generalize blkV A C q m i i = old at *
      have t1 : (((q + m : Nat) : Int) - (q : Int)).toNat = m := by omega
      go_wp2_with (go_at_call 127; refine (HBS.out _).mono ?_; rintro e u1 ⟨rfl, hw⟩; subst u1)
      go_roundw
      case rel => exact ⟨i + 1, by omega, by go_num, HZ.out, HR.out.2.setCell (Nat.le_refl _) _⟩
      case measure => simp [intOf]; omega
    · have e : i = n := by omega
      subst e
      go_wp2
      go_ret
      exact ⟨rfl, HR.out⟩
end Go.Proofs.YtlncjgnomhpjnaaGreatDoor

/-
  The document's blocks: reelref.slice.
-/
namespace Go.Proofs.YtlncjgnomhpjnaaGreatDoor
open Go.RowKit Go.Deep
set_option linter.unusedVariables false

/-- a block's lists, as cells -/
def blkL (A : Nat → Option Addr) (C : Nat → Nat) (q m j : Nat) : List Value := (List.range j).map fun i => Value.slice (blkA A q i) m (C i - q)
theorem blkL_snoc (A : Nat → Option Addr) (C : Nat → Nat) (q m j : Nat) : blkL A C q m (j + 1) = blkL A C q m j ++ [Value.slice (blkA A q j) m (C j - q)] := by
  unfold blkL
  rw [List.range_succ, List.map_append]; rfl

set_option maxRecDepth 4000 in
set_option maxHeartbeats 1000000 in
theorem rslice_any (a : Option Addr) (n cap : Nat) (A : Nat → Option Addr) (S : Nat) (C : Nat → Nat) (F : Nat → Nat → Int) (B k : Nat) (w : World) (hn1 : 1 ≤ n) (hn4 : n ≤ 4) (hB : 1 ≤ B) (hB2 : B ≤ 32) (hS : S ≤ 300) (hk : k < nBlk S B)
    (hA : ListsAt w a n A (fun _ => S) C) (hC : ∀ i, i < n → S ≤ C i) (hI : ∀ i, i < n → IntsAt w (A i) S (F i)) (hlow : Low w.heap.size a n A (fun _ => S)) :
    Calls Tryz.prog 132 #[.int .i64 B, .slice a n cap, .int .i64 k] w fun e w' =>
      ∃ kv, e = .returned kv ∧ w'.ownsRow w.heap.size 29 1 kv n (blkL A C (k * B) (blkN S B k) n) ∧ Below w.heap.size w w' := by
  have hbd := blkN_bd hB hk
  have hbn : blkN S B k = if B < S - k * B then B else S - k * B := by unfold blkN; split <;> omega
  have HAD := Hid.mk' (fun i (hi : i < n) => ints_addr (hI i hi) (by omega))
  have HC := Hid.mk' hC
  obtain ⟨b, off, rfl, hcell⟩ := hA.open (by omega)
  have HCL := Hid.mk' hcell
  have hbl : b < w.heap.size := by
    have := hlow.1 _ rfl (by omega : 0 < n)
    exact this
  have e1 : (k : Int) * (B : Int) = ((k * B : Nat) : Int) := by simp
  have w1 : IntKind.i64.wrap ((k : Int) * (B : Int)) = ((k * B : Nat) : Int) := by rw [IntKind.wrap_i64, e1]; omega
  clear hA hI hlow hcell hC e1
  generalize blkN S B k = m at *
  generalize k * B = q at *
  go_enter Tryz.func132, Tryz.ntmps132
  go_wp2
  go_loopw [7, 8, 9] (fun kv iv _ wr => ∃ i : Nat, ∃ ov : Value, i ≤ n ∧ iv = .int .i64 i ∧ ov = kv ∧ Hid (wr.ownsRow w.heap.size 29 1 ov i (blkL A C q m i) ∧ Below w.heap.size w wr)) (fun _ iv _ _ => n - (intOf iv).toNat)
  case atStart => exact ⟨0, _, Nat.zero_le _, rfl, rfl, World.ownsRow_nil _ _ _ _, Below.refl _ _⟩
  case round =>
    obtain ⟨i, kv, hi, rfl, e, HR⟩ := hrel
    subst e
    by_cases hlt : i < n
    · have hcb : wr.cell? ⟨b, off + i, none⟩ = some (.slice (some ⟨bkOf (A i), ofOf (A i), none⟩) S (C i)) := by
        have := (HR.out.2.cell (p := ⟨b, off + i, none⟩) hbl).trans (HCL.out i hlt)
        rw [HAD.out i hlt] at this; exact this
      have hCi := HC.out i hlt
      have HBA : Hid (blkL A C q m (i + 1) = blkL A C q m i ++ [Value.slice (some ⟨bkOf (A i), ofOf (A i) + q, none⟩) m (C i - q)]) := blkL_snoc A C q m i
      generalize bkOf (A i) = gi at *
      generalize ofOf (A i) = oi at *
      generalize C i = ci at *
      have t1 : ((S : Int) - (q : Int)).toNat = S - q := by omega
      have hqS : (q : Int) ≤ (S : Int) := by omega
      have hSc : (S : Int) ≤ (ci : Int) := by omega
      by_cases hb : B < S - q
      · rw [if_pos hb] at hbn
        have tb : decide ((B : Int) < ((S - q : Nat) : Int)) = true := decide_eq_true (by omega)
        have hbc : (B : Int) ≤ ((ci - q : Nat) : Int) := by omega
        subst hbn
        obtain ⟨g', c', u', hr, ho, hg⟩ := app_row 24 29 (.slice none 0 0) 24 Tryz.underlying24 infoInts rfl wr w.heap.size kv i _ #[.slice (some ⟨gi, oi + q, none⟩) m (ci - q)] HR.out.1 (by simp) (by intro u hu; simp at hu; rw [hu]; rfl) (by simp only [maxLen]; simp; omega) (by simp; omega) HR.out.2.size 24
        have HN : Hid (u'.ownsRow w.heap.size 29 1 (.slice (some ⟨g', 0, none⟩) (i + 1) c') (i + 1) (blkL A C q m (i + 1)) ∧ Below w.heap.size w u') := by
          refine ⟨?_, HR.out.2.grown hg HR.out.2.size (fun k hk => (HR.out.1.lt k hk).1)⟩
          rw [HBA.out]
          exact ho
        have HAP : Hid (_ = _) := hr
        clear hr ho hg
        go_wp2_with (at_builtin; refine wpList_append_rn rfl _ _ _ rfl _ _ _ rfl rfl HAP.out ?_; clear HAP)
        go_roundw
        case rel => exact ⟨i + 1, _, by omega, by go_num, rfl, HN.out⟩
        case measure => simp [intOf]; omega
      · rw [if_neg hb] at hbn
        have tb : decide ((B : Int) < ((S - q : Nat) : Int)) = false := decide_eq_false (by omega)
        subst hbn
        obtain ⟨g', c', u', hr, ho, hg⟩ := app_row 24 29 (.slice none 0 0) 24 Tryz.underlying24 infoInts rfl wr w.heap.size kv i _ #[.slice (some ⟨gi, oi + q, none⟩) (S - q) (ci - q)] HR.out.1 (by simp) (by intro u hu; simp at hu; rw [hu]; rfl) (by simp only [maxLen]; simp; omega) (by simp; omega) HR.out.2.size 24
        have HN : Hid (u'.ownsRow w.heap.size 29 1 (.slice (some ⟨g', 0, none⟩) (i + 1) c') (i + 1) (blkL A C q (S - q) (i + 1)) ∧ Below w.heap.size w u') := by
          refine ⟨?_, HR.out.2.grown hg HR.out.2.size (fun k hk => (HR.out.1.lt k hk).1)⟩
          rw [HBA.out]
          exact ho
        have HAP : Hid (_ = _) := hr
        clear hr ho hg
        go_wp2_with (at_builtin; refine wpList_append_rn rfl _ _ _ rfl _ _ _ rfl rfl HAP.out ?_; clear HAP)
        go_roundw
        case rel => exact ⟨i + 1, _, by omega, by go_num, rfl, HN.out⟩
        case measure => simp [intOf]; omega
    · have e : i = n := by omega
      subst e
      go_wp2
      go_ret
      exact ⟨kv, rfl, HR.out⟩
end Go.Proofs.YtlncjgnomhpjnaaGreatDoor

/-
  A text that is built up, from nothing on.
-/
namespace Go.Proofs.YtlncjgnomhpjnaaGreatDoor
open Go.RowKit Go.Deep
set_option linter.unusedVariables false

theorem string_new (B b : Nat) (p : Value) (w : World) (hbk : w.heap[b]? = some (.cells #[p, .slice none 0 0] 150 (0, 0))) :
    Calls Tryz.prog 142 #[.pointer (some ⟨b, 0, none⟩)] w fun e w' => e = .returned (.string ⟨#[]⟩) ∧ Below B w w' := by
  have c1 : w.drew.cell? ⟨b, 1, none⟩ = some (.slice none 0 0) := by
    have : w.drew.heap[b]? = some (.cells #[p, .slice none 0 0] 150 (0, 0)) := hbk
    rw [Lib.cell_of_heap this]; rfl
  have hSD : (Builtin.unsafeSliceData_ #[61] 208 #[.slice none 0 0]).run Tryz.prog w.drew = .ok (.pointer none) w.drew := Lib.run_unsafeSliceData_nil _ _ _ _ _
  have hUS : (Builtin.unsafeString_ #[208, 3] 9 #[.pointer none, .int .i64 0]).run Tryz.prog w.drew = .ok (.string ⟨#[]⟩) w.drew := Lib.run_unsafeString_none _ _ _ _ _
  clear hbk
  go_enter Tryz.func142, Tryz.ntmps142
  go_wp2
  go_region
  all_goals (go_wp2; go_ret; exact ⟨rfl, Below.drew (Below.refl B w)⟩)

/-- a builder that holds this text -/
def Bld (w : World) (B b : Nat) (T : List UInt8) : Prop :=
  Lib.IsBuilderF 150 5 B b (Lib.byteCells T) w ∧ (T = [] → w.heap[b]? = some (.cells #[.pointer none, .slice none 0 0] 150 (0, 0)))
theorem Bld.lt {w : World} {B b : Nat} {T : List UInt8} (h : Bld w B b T) : b < w.heap.size := h.1.elim (fun h => h.lt) (fun h => h.lt)
theorem Bld.new (w : World) : Bld (w.alloc (.cells #[.pointer none, .slice none 0 0] 150)) w.heap.size w.heap.size [] := ⟨builder_new w, fun _ => blk_alloc_new _ _⟩
theorem Bld.below {w w' : World} {B b : Nat} {T : List UInt8} (h : Bld w B b T) (hb : Below w.heap.size w w') : Bld w' B b T :=
  ⟨builder_below h.1 hb, fun e => (hb.block b h.lt).trans (h.2 e)⟩
theorem bld_string (B b : Nat) (T : List UInt8) (w : World) (h : Bld w B b T) :
    Calls Tryz.prog 142 #[.pointer (some ⟨b, 0, none⟩)] w fun e w' => e = .returned (.string (bs T)) ∧ Below B w w' := by
  by_cases h0 : T = []
  · have hn := h.2 h0
    subst h0
    exact string_new B b _ w hn
  · exact string_any _ B b T w h.1 h0
set_option maxHeartbeats 2000000 in
set_option maxRecDepth 100000 in
theorem writeString2_any (T : TypeId) (hT : Lies T) (B b : Nat) (xs : List Value) (s : ByteArray) (w : World) (h : Lib.IsBuilderF T 5 B b xs w) (hs : 0 < s.size) (hlen : xs.length + s.size ≤ 140737488355328) (hBw : B ≤ w.heap.size) :
    Calls Tryz.prog 140 #[.pointer (some ⟨b, 0, none⟩), .string s] w fun e w' => e = .returned (.tuple #[.int .i64 s.size, .nilIface]) ∧ (Lib.BuilderAtF T 5 B b (.pointer (some ⟨b, 0, none⟩)) (xs ++ Lib.strCells s) w' ∧ Below B w w' ∧ Lib.OthersKept 5 (some b) w w') := by
  obtain ⟨i0, hi, hz0, hz1, hz2⟩ := info_parts infoByte
  have HH := Hid.mk' h
  clear h
  go_enter Tryz.func140, Tryz.ntmps140
  go_wp2_with (go_at_call 165; refine (copyCheck_any T hT B b xs _ HH.out).mono ?_)
  rintro e w1 ⟨rfl, h1, hb1, hk1⟩
  obtain ⟨hB, v, hbk, hown, hne⟩ := h1
  have c0 : w1.cell? ⟨b, 0, none⟩ = some (.pointer (some ⟨b, 0, none⟩)) := by rw [Lib.cell_of_heap hbk]; rfl
  have c1 : w1.cell? ⟨b, 1, none⟩ = some v := by rw [Lib.cell_of_heap hbk]; rfl
  go_wp2_with (at_builtin; refine Lib.wpList_append_own_stringF _ rfl _ _ 61 9 rfl B 5 i0 Tryz.underlying61 Tryz.underlying9 hi hz0 hz1 hz2 _ _ _ rfl hown s rfl ?c3 ?c4 ?c5 ?_)
  case c3 => unfold maxLen; omega
  case c4 => omega
  case c5 => have := hb1.size; omega
  intro v' w2 hown' hgrow _
  have hlt : b < w1.heap.size := (Array.getElem?_eq_some_iff.1 hbk).1
  have hb2 : w2.heap[b]? = some (.cells #[.pointer (some ⟨b, 0, none⟩), v] T (0, 0)) := by
    rw [hgrow.block b hlt (fun e => hne e.symm)]
    exact hbk
  have d0 : w2.cell? ⟨b, 0, none⟩ = some (.pointer (some ⟨b, 0, none⟩)) := by rw [Lib.cell_of_heap hb2]; rfl
  have d1 : w2.cell? ⟨b, 1, none⟩ = some v := by rw [Lib.cell_of_heap hb2]; rfl
  have f1 : w2.frozen? ⟨b, 1, none⟩ = false := Lib.frozen_of_heap hb2 1
  obtain ⟨g, cap, rfl⟩ : ∃ g cap, v' = .slice (some ⟨g, 0, none⟩) (xs.length + s.size) cap := by
    rcases hown'.2 with ⟨_, h0⟩ | ⟨g, cap, cur, fz, hv, _⟩
    · omega
    · exact ⟨g, cap, hv⟩
  go_wp2
  go_ret2
  refine ⟨rfl, ?_, ?_, (hk1.grown hgrow (Lib.ownsRowF_kind hown)).setCell ⟨b, 1, none⟩ rfl _⟩
  · exact Lib.BuilderAtF.put (T := T) (e := 5) hB hb2 (bs' := xs ++ Lib.strCells s) (by rw [List.length_append, Lib.strCells_length]; exact hown') hT.2
  · exact ((hb1.grown hgrow (by have := hb1.size; omega) (fun k hk => (hown.lt k hk).1))).setCell (p := ⟨b, 1, none⟩) hB _

theorem bld_write (B b : Nat) (T U : List UInt8) (w : World) (h : Bld w B b T) (hU : U ≠ []) (hlen : T.length + U.length ≤ 1000000) (hB : B ≤ w.heap.size) :
    Calls Tryz.prog 140 #[.pointer (some ⟨b, 0, none⟩), .string (bs U)] w fun e w' => e = .returned (.tuple #[.int .i64 (bs U).size, .nilIface]) ∧ Bld w' B b (T ++ U) ∧ Below B w w' ∧ Lib.OthersKept 5 (some b) w w' := by
  have hU0 : 0 < U.length := List.length_pos_iff.2 hU
  refine (writeString2_any _ lies_builder B b _ (bs U) w h.1 (by rw [bs_size]; exact hU0) (by rw [Lib.byteCells_length, bs_size]; omega) hB).mono ?_
  rintro e w' ⟨he, hbl, hb, hok⟩
  refine ⟨he, ⟨.inr (by rw [← cells_app, ← cells_bs U]; exact hbl), fun e => ?_⟩, hb, hok⟩
  exact absurd (List.append_eq_nil_iff.1 e).2 hU
theorem owns_others {w w' : World} {base : Nat} {v : Value} {n b : Nat} {xs : List Value} (h : w.ownsRow base 3 1 v n xs) (hk : Lib.OthersKept 5 (some b) w w') (hb : v.ownBlock ≠ some b) : w'.ownsRow base 3 1 v n xs := by
  refine ⟨h.1, ?_⟩
  rcases h.2 with h0 | ⟨g, cap, cur, rfl, h1, h2, h3⟩
  · exact .inl h0
  · exact .inr ⟨g, cap, cur, rfl, h1, hk g _ h2 (fun e => hb e) (fun c fz e => by injection e with e1 e2; exact absurd e2 (by decide)), h3⟩
end Go.Proofs.YtlncjgnomhpjnaaGreatDoor

