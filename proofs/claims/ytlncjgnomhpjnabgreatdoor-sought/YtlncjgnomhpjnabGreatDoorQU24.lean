import Derived.Test.YtlncjgnomhpjnabGreatDoorQU15
import Derived.Test.YtlncjgnomhpjnabGreatDoorQU1
import Derived.Deep.QuietTactic
import Derived.BigQuiet
import Derived.Test.YtlncjgnomhpjnabGreatDoorQU22
import Derived.Test.YtlncjgnomhpjnabGreatDoorQU19
import Derived.Test.YtlncjgnomhpjnabGreatDoorQU21
import Derived.Test.YtlncjgnomhpjnabGreatDoorQU23
import Derived.Deep.RegionHeld3
import Derived.Deep.DeepCutAuto
/-
  The lists of lists that are lent: 'lendAll', 'wholeAll'.
-/
namespace Go.Proofs.YtlncjgnomhpjnabGreatDoor
open Go.RowKit Go.Deep
theorem infoInts : (Tryz.prog.info? 30).map (fun i => (i.zero, i.size, i.bytes)) = some (some (.slice none 0 0), 1, 24) := by kernel_rfl
/-- all blocks but two, and what is new, are as they were -/
structure Kept2 (b m : Nat) (w w' : World) : Prop where
  os : w'.os = w.os
  tape : w'.tape = w.tape
  output : w'.output = w.output
  size : w.heap.size ≤ w'.heap.size
  block : ∀ k, k < w.heap.size → k ≠ b → k ≠ m → w'.heap[k]? = w.heap[k]?
theorem Kept2.refl (b m : Nat) (w : World) : Kept2 b m w w := ⟨rfl, rfl, rfl, Nat.le_refl _, fun _ _ _ _ => rfl⟩
theorem Kept2.set1 {b m : Nat} {w w' : World} (h : Kept2 b m w w') (i : Nat) (v : Value) : Kept2 b m w (w'.setCell ⟨b, i, none⟩ v) :=
  ⟨h.os, h.tape, h.output, by rw [World.size_setCell]; exact h.size, fun k hk h1 h2 => (blk_setCell_other _ _ _ _ (by simpa using h1)).trans (h.block k hk h1 h2)⟩
theorem Kept2.set2 {b m : Nat} {w w' : World} (h : Kept2 b m w w') (i : Nat) (v : Value) : Kept2 b m w (w'.setCell ⟨m, i, none⟩ v) :=
  ⟨h.os, h.tape, h.output, by rw [World.size_setCell]; exact h.size, fun k hk h1 h2 => (blk_setCell_other _ _ _ _ (by simpa using h2)).trans (h.block k hk h1 h2)⟩
end Go.Proofs.YtlncjgnomhpjnabGreatDoor

/-
  Blocks of a sound: sound.Blocks, sound.BlockSamples, sound.Block.
-/
namespace Go.Proofs.YtlncjgnomhpjnabGreatDoor
open Go.RowKit Go.Deep
set_option linter.unusedVariables false
theorem blocks_any (S B : Nat) (w : World) (hB : 1 ≤ B) (hB2 : B ≤ 100000) (hS : S ≤ 100000) :
    Calls Tryz.prog 62 #[.int .i64 S, .int .i64 B] w fun e w' => e = .returned (.int .i64 (nBlk S B : Nat)) ∧ w' = w := by
  have hle := nBlk_le (S := S) hB
  have w1 : IntKind.i64.wrap ((S : Int) + (B : Int)) = (S : Int) + (B : Int) := by rw [IntKind.wrap_i64]; omega
  have w2 : IntKind.i64.wrap ((S : Int) + (B : Int) - 1) = (S : Int) + (B : Int) - 1 := by rw [IntKind.wrap_i64]; omega
  have d0 : ((S : Int) + (B : Int) - 1) / (B : Int) = ((nBlk S B : Nat) : Int) := by
    rw [show (S : Int) + (B : Int) - 1 = ((S + B - 1 : Nat) : Int) by omega]; rfl
  have d1 : ((S : Int) + (B : Int) - 1).tdiv (B : Int) = ((nBlk S B : Nat) : Int) := by
    rw [Int.tdiv_eq_ediv_of_nonneg (by omega)]; exact d0
  have w3 : IntKind.i64.wrap ((nBlk S B : Nat) : Int) = ((nBlk S B : Nat) : Int) := by rw [IntKind.wrap_i64]; omega
  have hz : ((B : Int) == 0) = false := by simp; omega
  have hz2 : ¬ (B : Int) = 0 := by omega
  generalize nBlk S B = N at *
  go_enter Tryz.func62, Tryz.ntmps62
  go_wp2
  go_ret
  exact ⟨rfl, rfl⟩
theorem blockSamples_any (S B k : Nat) (w : World) (hk : k * B ≤ S) (hB2 : B ≤ 100000) (hS : S ≤ 100000) :
    Calls Tryz.prog 127 #[.int .i64 S, .int .i64 B, .int .i64 k] w fun e w' => e = .returned (.int .i64 (blkN S B k : Nat)) ∧ w' = w := by
  have e1 : (k : Int) * (B : Int) = ((k * B : Nat) : Int) := by simp
  have w1 : IntKind.i64.wrap ((k : Int) * (B : Int)) = ((k * B : Nat) : Int) := by rw [IntKind.wrap_i64, e1]; omega
  have w2 : IntKind.i64.wrap ((S : Int) - ((k * B : Nat) : Int)) = ((S - k * B : Nat) : Int) := by rw [IntKind.wrap_i64]; omega
  have HM : Hid (((blkN S B k : Nat) : Int) = min (B : Int) ((S - k * B : Nat) : Int)) := by show _ = _; unfold blkN; omega
  rw [HM.out]
  clear e1
  generalize k * B = q at *
  generalize S - q = r at *
  go_enter Tryz.func127, Tryz.ntmps127
  go_wp2
  go_ret
  exact ⟨rfl, rfl⟩
/-- where a list lies -/
def bkOf : Option Addr → Nat
  | some x => x.block
  | none => 0
def ofOf : Option Addr → Nat
  | some x => x.off
  | none => 0
/-- a block's lists -/
def blkA (A : Nat → Option Addr) (q i : Nat) : Option Addr := some ⟨bkOf (A i), ofOf (A i) + q, none⟩
theorem ints_addr {w : World} {a : Option Addr} {n : Nat} {f : Nat → Int} (h : IntsAt w a n f) (hn : 0 < n) : a = some ⟨bkOf a, ofOf a, none⟩ := by
  obtain ⟨b, off, rfl, -⟩ := h.open hn
  rfl
theorem ints_cut {w : World} {A : Nat → Option Addr} {i n q m : Nat} {f : Nat → Int} (h : IntsAt w (A i) n f) (hm : q + m ≤ n) : IntsAt w (blkA A q i) m (fun j => f (q + j)) := fun j hj => by
  obtain ⟨b, off, ha, hc⟩ := h.open (by omega)
  refine ⟨_, rfl, ?_⟩
  have := hc (q + j) (by omega)
  rw [ha]
  show w.cell? (Addr.add ⟨b, off + q, none⟩ j) = _
  rw [show Addr.add ⟨b, off + q, none⟩ j = ⟨b, off + (q + j), none⟩ by cases j <;> simp [Addr.add] <;> omega]
  exact this
def blkV (A : Nat → Option Addr) (C : Nat → Nat) (q m j i : Nat) : Value := if i < j then .slice (blkA A q i) m (C i - q) else .slice none 0 0
theorem blkV_step {wr : World} {g n q m j : Nat} {A : Nat → Option Addr} {C : Nat → Nat} (h : wr.rowIs g 30 n (blkV A C q m j)) :
    (wr.setCell ⟨g, j, none⟩ (.slice (blkA A q j) m (C j - q))).rowIs g 30 n (blkV A C q m (j + 1)) :=
  (h.set j _).congr fun i _ => by
    unfold blkV
    by_cases e : i = j
    · rw [if_pos e, if_pos (by omega), e]
    · rw [if_neg e]
      by_cases e2 : i < j
      · rw [if_pos e2, if_pos (by omega)]
      · rw [if_neg e2, if_neg (by omega)]
set_option maxHeartbeats 1000000 in
theorem block_any (a : Option Addr) (n cap : Nat) (A : Nat → Option Addr) (S : Nat) (C : Nat → Nat) (F : Nat → Nat → Int) (B k : Nat) (w : World) (hn1 : 1 ≤ n) (hn4 : n ≤ 4) (hB : 1 ≤ B) (hB2 : B ≤ 32) (hS : S ≤ 300) (hk : k < nBlk S B)
    (hA : ListsAt w a n A (fun _ => S) C) (hC : ∀ i, i < n → S ≤ C i) (hI : ∀ i, i < n → IntsAt w (A i) S (F i)) (hlow : Low w.heap.size a n A (fun _ => S)) :
    Calls Tryz.prog 64 #[.slice a n cap, .int .i64 B, .int .i64 k] w fun e w' =>
      e = .returned (.slice (some ⟨w.heap.size, 0, none⟩) n n) ∧ w'.rowIs w.heap.size 30 n (blkV A C (k * B) (blkN S B k) n) ∧ Below w.heap.size w w' := by
  have hbd := blkN_bd hB hk
  have HAD := Hid.mk' (fun i (hi : i < n) => ints_addr (hI i hi) (by omega))
  have HBS := Hid.mk' (fun u => blockSamples_any S B k u (by omega) (by omega) (by omega))
  have HC := Hid.mk' hC
  have hmk := run_make_row' (P := Tryz.prog) 24 30 (.slice none 0 0) 24 Tryz.underlying24 infoInts rfl .i64 .i64 n (by omega) (by omega)
  obtain ⟨b, off, rfl, hcell⟩ := hA.open (by omega)
  have HCL := Hid.mk' hcell
  have HBL : Hid (b < w.heap.size) := by
    have := hlow.1 _ rfl (by omega : 0 < n)
    exact this
  have e1 : (k : Int) * (B : Int) = ((k * B : Nat) : Int) := by simp
  have w1 : IntKind.i64.wrap ((k : Int) * (B : Int)) = ((k * B : Nat) : Int) := by rw [IntKind.wrap_i64, e1]; omega
  have hbl := HBL.out
  clear hA hI hlow hcell hC e1
  generalize blkN S B k = m at *
  generalize k * B = q at *
  have w2 : IntKind.i64.wrap ((q : Int) + (m : Int)) = ((q + m : Nat) : Int) := by rw [IntKind.wrap_i64]; omega
  have hb0 : Below w.heap.size w (w.alloc (.cells (madeCells #[.slice none 0 0] n) 30)) := (Below.refl _ _).alloc (Nat.le_refl _) _
  have HB0 := Hid.mk' hb0
  clear hb0
  go_enter Tryz.func64, Tryz.ntmps64
  go_wp2
  clear hmk
  go_loopw [8, 9, 10, 16] (fun _ _ _ iv wr => ∃ i : Nat, i ≤ n ∧ iv = .int .i64 i ∧ Hid (wr.rowIs w.heap.size 30 n (blkV A C q m i) ∧ Below w.heap.size w wr)) (fun _ _ _ iv _ => n - (intOf iv).toNat)
  case atStart => exact ⟨0, Nat.zero_le _, rfl, (World.rowIs_made w (.slice none 0 0) n 30).congr fun i _ => by unfold blkV; rw [if_neg (by omega)], HB0.out⟩
  case round =>
    obtain ⟨i, hi, rfl, HR⟩ := hrel
    by_cases hlt : i < n
    · have hcb : wr.cell? ⟨b, off + i, none⟩ = some (.slice (some ⟨bkOf (A i), ofOf (A i), none⟩) S (C i)) := by
        have := (HR.out.2.cell (p := ⟨b, off + i, none⟩) hbl).trans (HCL.out i hlt)
        rw [HAD.out i hlt] at this; exact this
      have hCi := HC.out i hlt
      have hc1 := HR.out.1.cell hlt
      have hf1 := HR.out.1.frozen i
      have HZ := Hid.mk' (blkV_step HR.out.1)
      unfold blkA at HZ
      generalize bkOf (A i) = gi at *
      generalize ofOf (A i) = oi at *
      generalize C i = ci at *
      generalize blkV A C q m i i = old at *
      have t1 : (((q + m : Nat) : Int) - (q : Int)).toNat = m := by omega
      go_wp2_with (go_at_call 127; refine (HBS.out _).mono ?_; rintro e u1 ⟨rfl, hw⟩; subst u1)
      go_roundw
      case rel => exact ⟨i + 1, by omega, by go_num, HZ.out, HR.out.2.setCell (Nat.le_refl _) _⟩
      case measure => simp [intOf]; omega
    · have e : i = n := by omega
      subst e
      go_wp2
      go_ret
      exact ⟨rfl, HR.out⟩
end Go.Proofs.YtlncjgnomhpjnabGreatDoor

/-
  The document's frames of a sound: reelref.allFrames.
-/
namespace Go.Proofs.YtlncjgnomhpjnabGreatDoor
open Go.RowKit Go.Deep
set_option linter.unusedVariables false
theorem own_some {w : World} {base : Nat} {t : TypeId} {v : Value} {n : Nat} {xs : List Value} (h : w.ownsRow base t 1 v n xs) (hn : 1 ≤ n) : ∃ g c, v = .slice (some ⟨g, 0, none⟩) n c := by
  rcases h.2 with ⟨-, h0⟩ | ⟨g, c, cur, e, -⟩
  · omega
  · exact ⟨g, c, e⟩
end Go.Proofs.YtlncjgnomhpjnabGreatDoor

