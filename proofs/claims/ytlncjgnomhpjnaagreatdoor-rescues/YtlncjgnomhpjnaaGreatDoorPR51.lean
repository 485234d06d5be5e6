import Derived.Test.YtlncjgnomhpjnaaGreatDoorPR48
import Derived.Test.YtlncjgnomhpjnaaGreatDoorPR50
import Derived.Test.YtlncjgnomhpjnaaGreatDoorPR46
import Derived.Test.YtlncjgnomhpjnaaGreatDoorPR43
import Derived.Deep.RegionHeld3
import Derived.Deep.DeepCutAuto
/-
  The document decodes: reelref.Decode.
-/
namespace Go.Proofs.YtlncjgnomhpjnaaGreatDoor
open Go.RowKit Go.Deep
set_option linter.unusedVariables false
theorem HdR.yes {e : Ending} {w w' : World} {T : List UInt8} (h : HdR e w w' T) (hp : HdP T) : ∃ a c, e = .returned (.tuple #[.agg #[.int .i64 (dWh T), .int .i64 (dCh T), .int .i64 (dDe T), .int .i64 (dBl T), .int .i64 (dRa T), .int .i64 (dSe T), .int .i64 (dSa T), .int .i64 (dLe T), .int .i64 (dMo T), .int .i64 (dSu T), .slice a (dNp T) c], .int .i64 (dSz T)]) ∧ w'.ownsRow w.heap.size 3 1 (.slice a (dNp T) c) (dNp T) (pntV (dPts T)) ∧ Below w.heap.size w w' := by
  rcases h with ⟨⟨-, a, c, rfl, ho⟩ | ⟨hno, -⟩, hb⟩
  · exact ⟨a, c, rfl, ho, hb⟩
  · exact absurd hp hno
theorem HdR.nothing {e : Ending} {w w' : World} {T : List UInt8} (h : HdR e w w' T) (hp : ¬ HdP T) : ∃ (f c0 c1 c2 c3 c4 s le mo su : Int) (a : Option Addr) (n c : Nat), e = .returned (.tuple #[.agg #[.int .i64 f, .int .i64 c0, .int .i64 c1, .int .i64 c2, .int .i64 c3, .int .i64 c4, .int .i64 s, .int .i64 le, .int .i64 mo, .int .i64 su, .slice a n c], .int .i64 0]) ∧ Below w.heap.size w w' := by
  rcases h with ⟨⟨hy, -⟩ | ⟨-, f, c0, c1, c2, c3, c4, s, le, mo, su, a, n, c, he⟩, hb⟩
  · exact absurd hy hp
  · exact ⟨f, c0, c1, c2, c3, c4, s, le, mo, su, a, n, c, he, hb⟩
theorem headOf_any (T : List UInt8) (w : World) (h2 : T.length ≤ 9000) : Calls Tryz.prog 93 #[.string (bs T)] w fun e w' => HdR e w w' T := by
  by_cases h : T.length < 22
  · exact headOf_short T w h
  · exact headOf_long T w (by omega) h2
end Go.Proofs.YtlncjgnomhpjnaaGreatDoor

