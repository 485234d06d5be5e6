import Derived.Test.YtlncjgnomhpjnabGreatDoorQS28
import Derived.Test.YtlncjgnomhpjnabGreatDoorQS20
import Derived.Test.YtlncjgnomhpjnabGreatDoorQS26
import Derived.Test.YtlncjgnomhpjnabGreatDoorQS18
import Derived.Test.YtlncjgnomhpjnabGreatDoorQS23
import Derived.Test.YtlncjgnomhpjnabGreatDoorQS22
import Derived.Test.YtlncjgnomhpjnabGreatDoorQS2
import Derived.Deep.AppendLies
import Derived.Deep.RegionLaw
import Derived.Test.YtlncjgnomhpjnabGreatDoorQS11
import Derived.Deep.DeepCutAuto
import Derived.Deep.RegionHeld3
import Derived.BigQuiet
import Derived.Deep.QuietTactic
/-
  The program reads a head: it is not finished.
-/
namespace Go.Proofs.YtlncjgnomhpjnabGreatDoor
open Go.RowKit Go.Deep
set_option linter.unusedVariables false
theorem unf_lay (c0 c1 B c3 c4 S : Nat) (h0 : c0 < 256) (h1 : c1 < 256) (h2 : B < 256) (h3 : c3 < 65536) (h4 : c4 < 256) (h5 : S < 65536) (np g : Nat) (u : World) (hn : np ≤ 300) (hr : u.rowIs g 3 np (fun _ => .int .i64 0)) :
    Calls Tryz.prog 129 #[.agg #[.int .i64 c0, .int .i64 c1, .int .i64 B, .int .i64 c3, .int .i64 c4, .int .i64 S, .bool false, .int .i64 0, .int .i64 0, .int .i64 0, .slice (some ⟨g, 0, none⟩) np np]] u fun e w' => e = .returned (.string (bs (headTx 0 c0 c1 B c3 S c4 0 0 0 (List.replicate np 0)))) ∧ Below u.heap.size u w' := by
  have hl : (List.replicate np 0).length = np := List.length_replicate
  have h := headText_any false c0 c1 B c3 S c4 0 0 0 (List.replicate np 0) (some ⟨g, 0, none⟩) np u h0 h1 h2 h3 h4 h5 (by omega) (by omega) (by omega) (by omega) (fun p hp => by have := List.eq_of_mem_replicate hp; omega)
    (by
      rw [hl]
      refine fun i hi => ⟨_, rfl, ?_⟩
      have := hr.cell hi
      rw [addr_add, Nat.zero_add, this]
      show _ = some (Value.int .i64 (((List.replicate np 0).getD i 0 : Nat) : Int))
      rw [List.getD_eq_getElem?_getD, List.getElem?_replicate, if_pos hi]
      rfl)
    (fun x hx hp => by injection hx with hx; subst hx; exact hr.lt)
  rw [hl] at h
  exact h
end Go.Proofs.YtlncjgnomhpjnabGreatDoor

/-
  The program decodes: stream.Decode, where it gives no sound.
-/
namespace Go.Proofs.YtlncjgnomhpjnabGreatDoor
open Go.RowKit Go.Deep
set_option linter.unusedVariables false
theorem below_row {w u : World} {g : Nat} (h : Below w.heap.size w u) (hg : w.heap.size ≤ g) (cs : Array Value) : Below w.heap.size w (u.setRow g cs) := below_setRow h hg cs
end Go.Proofs.YtlncjgnomhpjnabGreatDoor

/-
  A stream that was made is read as its sound.
-/
namespace Go.Proofs.YtlncjgnomhpjnabGreatDoor
open Go.RowKit Go.Deep
set_option linter.unusedVariables false
/-- a configuration and a sound of it -/
structure KP (d n B c3 c4 S : Nat) (F : Nat → Nat → Int) : Prop where
  d4 : 4 ≤ d
  d12 : d ≤ 12
  n1 : 1 ≤ n
  n4 : n ≤ 4
  B1 : 1 ≤ B
  B32 : B ≤ 32
  c3b : c3 < 65536
  c4b : c4 < 256
  S3 : S ≤ 300
  fit : ∀ i, i < n → ∀ j, j < S → fitsB d (F i j) = true
theorem KP.blk {d n B c3 c4 S : Nat} {F : Nat → Nat → Int} (h : KP d n B c3 c4 S F) {k : Nat} (hk : k < nBlk S B) : ∀ i, i < n → ∀ j, j < blkN S B k → fitsB d (blkF F B k i j) = true := fun i hi j hj => by
  have := blkN_bd h.B1 hk
  exact h.fit i hi (k * B + j) (by omega)
theorem KP.nb {d n B c3 c4 S : Nat} {F : Nat → Nat → Int} (h : KP d n B c3 c4 S F) : nBlk S B ≤ 300 := Nat.le_trans (nBlk_le h.B1) h.S3
theorem frs_pre (d n : Nat) (F : Nat → Nat → Int) (S B k : Nat) : ∀ j, ∃ Z, frsT d n F S B (k + j) = frsT d n F S B k ++ Z
  | 0 => ⟨[], by rw [List.append_nil]; rfl⟩
  | j + 1 => by
    obtain ⟨Z, hZ⟩ := frs_pre d n F S B k j
    exact ⟨Z ++ frT d n F S B (k + j), by show frsT d n F S B (k + j) ++ frT d n F S B (k + j) = _; rw [hZ, List.append_assoc]⟩
/-- the points -/
theorem nat_ext {a b : Nat} (h : ∀ j, j < a ↔ j < b) : a = b := by
  have h1 := h a
  have h2 := h b
  omega
theorem pntN_all (ln : Nat → Nat) {s : Nat} (hs : 1 ≤ s) : ∀ k, pntN ln s k = (List.range (nBlk k s)).map fun i => atN ln (i * s)
  | 0 => by
    have e : nBlk 0 s = 0 := nat_ext fun j => by rw [nBlk_lt hs]; omega
    rw [e]; rfl
  | k + 1 => by
    unfold pntN
    by_cases h : k % s = 0
    · have hq : k / s * s = k := Nat.div_mul_cancel (Nat.dvd_of_mod_eq_zero h)
      generalize k / s = q at hq
      have e1 : nBlk k s = q := nat_ext fun j => by rw [nBlk_lt hs, ← hq]; exact Nat.mul_lt_mul_right hs
      have e2 : nBlk (k + 1) s = q + 1 := nat_ext fun j => by
        rw [nBlk_lt hs, ← hq, Nat.lt_succ_iff, Nat.lt_succ_iff]
        exact Nat.mul_le_mul_right_iff hs
      rw [if_pos ⟨hs, h⟩, pntN_all ln hs k, e1, e2, List.range_succ, List.map_append, List.map_cons, List.map_nil, hq]
    · have e1 : nBlk (k + 1) s = nBlk k s := nat_ext fun j => by
        rw [nBlk_lt hs, nBlk_lt hs]
        have : j * s ≠ k := fun e => h (by rw [← e]; exact Nat.mul_mod_left _ _)
        omega
      rw [if_neg (fun hh => h hh.2), pntN_all ln hs k, e1]
theorem pntN_zero (ln : Nat → Nat) : ∀ k, pntN ln 0 k = []
  | 0 => rfl
  | k + 1 => by
    unfold pntN
    rw [if_neg (fun h => by omega)]
    exact pntN_zero ln k
theorem pntN_size (ln : Nat → Nat) (S B s : Nat) : (pntN ln s (nBlk S B)).length = nPts S B s := by
  unfold nPts
  by_cases h : s = 0
  · rw [if_pos h, h, pntN_zero]; rfl
  · rw [if_neg h, pntN_all ln (by omega), List.length_map, List.length_range]
end Go.Proofs.YtlncjgnomhpjnabGreatDoor

