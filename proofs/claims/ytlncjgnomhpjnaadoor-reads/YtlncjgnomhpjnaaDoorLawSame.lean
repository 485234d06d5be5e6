/-
  The law: same, num.
-/
import Derived.Test.YtlncjgnomhpjnaaDoorCursor7
namespace Go.Proofs.YtlncjgnomhpjnaaDoor
open Go.RowKit Go.Deep
set_option linter.unusedVariables false

set_option maxHeartbeats 1000000 in
theorem same_any (a a' : Option Addr) (n c c' : Nat) (x : Nat → Int) (w : World) (hn : n ≤ 32) (h1 : IntsAt w a n x) (h2 : IntsAt w a' n x) :
    Calls Tryd.prog 24 #[.slice a n c, .slice a' n c'] w fun e w' => e = .returned (.bool true) ∧ ∃ m, w' = w.drewN m := by
  have H1 := Hid.mk' h1
  have H2 := Hid.mk' h2
  clear h1 h2
  go_enter Tryd.func24, Tryd.ntmps24
  go_wp2
  go_loopw [5] (fun i wr => ∃ k : Nat, k ≤ n ∧ i = .int .i64 k ∧ ∃ m, wr = w.drewN m) (fun i _ => n - (intOf i).toNat)
  case atStart => exact ⟨0, Nat.zero_le _, rfl, 0, rfl⟩
  case round =>
    obtain ⟨k, hk, rfl, m, rfl⟩ := hrel
    by_cases hkn : k < n
    · obtain ⟨b1, o1, hx1, hc1⟩ := H1.out.open (by omega)
      obtain ⟨b2, o2, hx2, hc2⟩ := H2.out.open (by omega)
      cases hx1
      cases hx2
      have hd1 := hc1 k hkn
      have hd2 := hc2 k hkn
      clear hc1 hc2
      go_wp2
      go_region
      all_goals go_wp2
      go_roundw
      case rel => exact ⟨k + 1, by omega, by go_num, _, rfl⟩
      case measure => simp [intOf]; omega
    · have e : k = n := by omega
      subst e
      go_wp2
      go_ret
      exact ⟨rfl, _, rfl⟩
end Go.Proofs.YtlncjgnomhpjnaaDoor
