import Derived.Test.YtlncjgnomhpjnabGreatDoorQT24
import Derived.Test.YtlncjgnomhpjnabGreatDoorQT13
import Derived.Test.YtlncjgnomhpjnabGreatDoorQT14
import Derived.Test.YtlncjgnomhpjnabGreatDoorQT23
import Derived.Test.YtlncjgnomhpjnabGreatDoorQT4
import Derived.Deep.RegionHeld3
import Derived.Test.YtlncjgnomhpjnabGreatDoorQT10
import Derived.Test.YtlncjgnomhpjnabGreatDoorQT3
import Derived.Test.YtlncjgnomhpjnabGreatDoorQT18
import Derived.BigQuiet
import Derived.Deep.QuietTactic
import Derived.WalkMore
import Derived.Test.YtlncjgnomhpjnabGreatDoorQT21
import Derived.Test.YtlncjgnomhpjnabGreatDoorQT22
/-
  The program reads a frame: frame.Read, whole.
-/
namespace Go.Proofs.YtlncjgnomhpjnabGreatDoor
open Go.RowKit Go.Deep
set_option linter.unusedVariables false
theorem own_mono {w : World} {base base' : Nat} {e : TypeId} {size : Nat} {v : Value} {n : Nat} {xs : List Value} (h : w.ownsRow base e size v n xs) (hb : base' ≤ base) : w.ownsRow base' e size v n xs :=
  ⟨h.1, h.2.imp id fun ⟨g, cap, cur, e1, e2, e3⟩ => ⟨g, cap, cur, e1, Nat.le_trans hb e2, e3⟩⟩
end Go.Proofs.YtlncjgnomhpjnabGreatDoor

/-
  Heads read back: the numbers in a text's bytes.
-/
namespace Go.Proofs.YtlncjgnomhpjnabGreatDoor
open Go.RowKit Go.Deep
set_option linter.unusedVariables false
/-- how many points it has -/
def nPts (S B seek : Nat) : Nat := if seek = 0 then 0 else nBlk (nBlk S B) seek
end Go.Proofs.YtlncjgnomhpjnabGreatDoor

/-
  The program's points: head.points, head.readPoints.
-/
namespace Go.Proofs.YtlncjgnomhpjnabGreatDoor
open Go.RowKit Go.Deep
set_option linter.unusedVariables false
set_option maxHeartbeats 1000000 in
theorem hpoints_any (c0 c1 : Int) (B c3 seek S : Nat) (w : World) (hB : 1 ≤ B) (hB2 : B ≤ 100000) (hS : S ≤ 100000) (hk : seek ≤ 100000) :
    Calls Tryz.prog 134 #[.agg #[.int .i64 c0, .int .i64 c1, .int .i64 B, .int .i64 c3, .int .i64 seek, .int .i64 S]] w fun e w' => e = .returned (.int .i64 (nPts S B seek)) ∧ Below w.heap.size w w' := by
  have HB0 : Hid (Below w.heap.size w (w.alloc (.cells #[.int .i64 c0, .int .i64 c1, .int .i64 B, .int .i64 c3, .int .i64 seek, .int .i64 S] 39))) := (Below.refl _ _).alloc (Nat.le_refl _) _
  by_cases h0 : seek = 0
  · subst h0
    rw [show nPts S B 0 = 0 from rfl]
    go_enter Tryz.func134, Tryz.ntmps134
    go_wp2_with fail
    go_ret
    exact ⟨rfl, HB0.out⟩
  · rw [show nPts S B seek = nBlk (nBlk S B) seek by unfold nPts; rw [if_neg h0]]
    have t0 : ((seek : Int) == 0) = false := by simp; omega
    have hle := nBlk_le (S := S) hB
    have H1 := Hid.mk' (fun u => blocks_any S B u hB hB2 hS)
    have H2 := Hid.mk' (fun u => blocks_any (nBlk S B) seek u (by omega) (by omega) (by omega))
    generalize nBlk (nBlk S B) seek = N2 at *
    generalize nBlk S B = N1 at *
    have hS0 : (w.alloc (.cells #[.int .i64 c0, .int .i64 c1, .int .i64 B, .int .i64 c3, .int .i64 seek, .int .i64 S] 39)).drew.cell? ⟨w.heap.size, 5, none⟩ = some (.int .i64 S) ∧ (w.alloc (.cells #[.int .i64 c0, .int .i64 c1, .int .i64 B, .int .i64 c3, .int .i64 seek, .int .i64 S] 39)).drew.cell? ⟨w.heap.size, 2, none⟩ = some (.int .i64 B) ∧ (w.alloc (.cells #[.int .i64 c0, .int .i64 c1, .int .i64 B, .int .i64 c3, .int .i64 seek, .int .i64 S] 39)).drew.cell? ⟨w.heap.size, 4, none⟩ = some (.int .i64 seek) := ⟨(Bx.new w _ _).cell 5, (Bx.new w _ _).cell 2, (Bx.new w _ _).cell 4⟩
    go_enter Tryz.func134, Tryz.ntmps134
    go_wp2_with fail
    go_region_held3 (fun w' => w'.cell? ⟨w.heap.size, 5, none⟩ = some (.int .i64 S) ∧ w'.cell? ⟨w.heap.size, 2, none⟩ = some (.int .i64 B) ∧ w'.cell? ⟨w.heap.size, 4, none⟩ = some (.int .i64 seek))
      (with_reducible assumption)
      (first
      | (go_at_call 62; refine (H1.out _).mono ?_; rintro e u2 ⟨rfl, hw⟩; subst u2; clear H1)
      | (go_at_call 62; refine (H2.out _).mono ?_; rintro e u2 ⟨rfl, hw⟩; subst u2; clear H2))
    go_wp2
    go_ret
    exact ⟨rfl, HB0.out.drew⟩
end Go.Proofs.YtlncjgnomhpjnabGreatDoor

