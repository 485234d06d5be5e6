import Derived.Test.YtlncjgnomhpjnabGreatDoorQT23
import Derived.Test.YtlncjgnomhpjnabGreatDoorQT21
import Derived.Test.YtlncjgnomhpjnabGreatDoorQT18
import Derived.Test.YtlncjgnomhpjnabGreatDoorQT16
import Derived.Deep.RegionHeld3
import Derived.Deep.DeepCutAuto
/-
  The program reads a frame's subframes: frame.readSubframes.
-/
namespace Go.Proofs.YtlncjgnomhpjnabGreatDoor
open Go.RowKit Go.Deep
set_option linter.unusedVariables false
/-- the tables that reading wants -/
structure TabsU (w : World) : Prop where
  fix : TabAt w 5
  fixLt : 5 < w.heap.size
  pairs : PairsAt w
  pairsLt : 0 < w.heap.size
def rowL (nn : Nat) (gs : Nat → Nat) (i : Nat) : List Value := (List.range i).map fun k => Value.slice (some ⟨gs k, 0, none⟩) nn nn
def updN (gs : Nat → Nat) (i g k : Nat) : Nat := if k = i then g else gs k
theorem rowL_snoc (nn : Nat) (gs : Nat → Nat) (i g : Nat) : rowL nn (updN gs i g) (i + 1) = rowL nn gs i ++ [Value.slice (some ⟨g, 0, none⟩) nn nn] := by
  unfold rowL
  rw [List.range_succ, List.map_append]
  congr 1
  · apply List.map_congr_left
    intro k hk
    have : k < i := List.mem_range.1 hk
    unfold updN
    rw [if_neg (by omega)]
  · simp [updN]
theorem row_below {w w' : World} {g n : Nat} {t : TypeId} {f : Nat → Value} (h : w.rowIs g t n f) (hb : Below w.heap.size w w') : w'.rowIs g t n f := by
  obtain ⟨cs, h1, h2⟩ := h
  exact ⟨cs, (hb.block g (Array.getElem?_eq_some_iff.1 h1).1).trans h1, h2⟩
theorem own_form {w : World} {base : Nat} {t : TypeId} {v : Value} {n : Nat} {xs : List Value} (h : w.ownsRow base t 1 v n xs) : ∃ a c, v = .slice a n c := by
  rcases h.2 with ⟨rfl, rfl⟩ | ⟨g, c, cur, rfl, -⟩
  · exact ⟨none, 0, rfl⟩
  · exact ⟨_, c, rfl⟩
end Go.Proofs.YtlncjgnomhpjnabGreatDoor

