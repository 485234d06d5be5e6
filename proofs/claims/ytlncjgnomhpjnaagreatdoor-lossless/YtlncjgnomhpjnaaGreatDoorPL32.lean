import Derived.Test.YtlncjgnomhpjnaaGreatDoorPL24
import Derived.Test.YtlncjgnomhpjnaaGreatDoorPL20
import Derived.Test.YtlncjgnomhpjnaaGreatDoorPL13
import Derived.Test.YtlncjgnomhpjnaaGreatDoorPL6
import Derived.Test.YtlncjgnomhpjnaaGreatDoorPL31
import Derived.BigQuiet
import Derived.Deep.QuietTactic
import Derived.Deep.RegionHeld3
import Derived.WalkMore
/-
  A frame read, in the document: reelref.unframe.
-/
namespace Go.Proofs.YtlncjgnomhpjnaaGreatDoor
open Go.RowKit Go.Deep
set_option linter.unusedVariables false
theorem valN_inj : ∀ (k : Nat) (l l' : List UInt8), l.length = k → l'.length = k → valN l = valN l' → l = l'
  | 0, l, l', h, h', _ => by rw [List.length_eq_zero_iff.1 h, List.length_eq_zero_iff.1 h']
  | k + 1, l, l', h, h', e => by
    rcases List.eq_nil_or_concat l with hl | ⟨a, x, hl⟩
    · rw [hl] at h; simp at h
    · rcases List.eq_nil_or_concat l' with hl' | ⟨a', x', hl'⟩
      · rw [hl'] at h'; simp at h'
      · subst hl hl'
        simp only [List.concat_eq_append, List.length_append, List.length_cons, List.length_nil] at h h' e ⊢
        rw [valN_snoc, valN_snoc] at e
        have h1 := x.toNat_lt
        have h2 := x'.toNat_lt
        have e1 : valN a = valN a' := by omega
        have e2 : x.toNat = x'.toNat := by omega
        rw [valN_inj k a a' (by omega) (by omega) e1, UInt8.toNat.inj e2]
theorem take_piece (T : List UInt8) (a b : Nat) (h : a ≤ b) (hb : b ≤ T.length) : T.take b = T.take a ++ pieceT T a b := by
  unfold pieceT
  rw [← List.take_add, show a + (b - a) = b by omega]
theorem bl_drewN {B : Nat} {a b : World} (h : Below B a b) (n : Nat) : Below B a (b.drewN n) := ⟨h.os, h.tape, h.output, h.size, h.block⟩
end Go.Proofs.YtlncjgnomhpjnaaGreatDoor

