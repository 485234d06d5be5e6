import Derived.Test.YtlncjgnomhpjnabGreatDoorQT14
import Derived.Test.YtlncjgnomhpjnabGreatDoorQT3
import Derived.Test.YtlncjgnomhpjnabGreatDoorQT13
import Derived.Test.YtlncjgnomhpjnabGreatDoorQT4
import Derived.WalkMore
import Derived.Deep.RegionHeld3
/-
  Two channels in the document: reelref.pair, reelref.width, reelref.bitsOf.
-/
namespace Go.Proofs.YtlncjgnomhpjnabGreatDoor
open Go.RowKit Go.Deep
set_option linter.unusedVariables false
def l1 (l r : Nat → Int) (m : Nat) : Nat → Int := if m ≤ 1 then l else if m = 2 then sideL l r else midL l r
def l2 (l r : Nat → Int) (m : Nat) : Nat → Int := if m = 0 ∨ m = 2 then r else sideL l r
def w1 (d m : Nat) : Nat := if m = 2 then d + 1 else d
def w2 (d m : Nat) : Nat := if m = 0 ∨ m = 2 then d else d + 1
end Go.Proofs.YtlncjgnomhpjnabGreatDoor

/-
  The subframes of a frame, one behind the other: mathematics.
-/
namespace Go.Proofs.YtlncjgnomhpjnabGreatDoor
set_option linter.unusedVariables false
def upd2 (G : Nat → Nat → Int) (i : Nat) (x : Nat → Int) (j : Nat) : Nat → Int := if j = i then x else G j
end Go.Proofs.YtlncjgnomhpjnabGreatDoor

