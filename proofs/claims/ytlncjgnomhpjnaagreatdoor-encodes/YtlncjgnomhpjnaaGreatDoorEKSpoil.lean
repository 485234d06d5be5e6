import Derived.Test.YtlncjgnomhpjnaaGreatDoorEJBase
/-
  'spoil'.
-/
namespace Go.Proofs.YtlncjgnomhpjnaaGreatDoor
open Go.RowKit Go.Deep

set_option maxHeartbeats 400000 in
theorem spoil_some (n B : Nat) (g : Nat → Value) (v : Int) (w : World) (hn : n ≤ 17592186044416) (hrow : w.rowIs B 3 (n + 8) g) :
    Calls Tryz.prog 73 #[.slice (some ⟨B, 0, none⟩) n (n + 8), .int .i64 v] w fun e w' => e = .returned (.tuple #[]) ∧ w'.rowIs B 3 (n + 8) (fun _ => .int .i64 v) ∧ Only B w w' := by
  have hnil := fun u : World => Lib.run_eql_slice_nil (P := Tryz.prog) u 29 3 (some ⟨B, 0, none⟩) n (n + 8) 0 0 Tryz.underlying29
  go_enter Tryz.func73, Tryz.ntmps73
  go_wp2
  clear hnil
  go_loopw [5] (fun i wr => ∃ k : Nat, k ≤ n + 8 ∧ i = .int .i64 k ∧ wr.rowIs B 3 (n + 8) (overRow g v k) ∧ Only B w wr) (fun i _ => n + 8 - (intOf i).toNat)
  case atStart => exact ⟨0, Nat.zero_le _, rfl, hrow.congr fun i _ => by simp [overRow], Only.refl _ _⟩
  case round =>
    clear hrow
    obtain ⟨k, hk, rfl, hrow, hon⟩ := hrel
    by_cases hlt : k < n + 8
    · have hc1 := hrow.cell hlt
      have hf1 := hrow.frozen k
      go_wp2
      go_roundw
      case rel => exact ⟨k + 1, by omega, by go_num, overRow_step hrow, hon.set _ _⟩
      case measure => simp [intOf]; omega
    · have e : k = n + 8 := by omega
      subst e
      go_wp2
      go_end0
      exact ⟨rfl, hrow.congr fun i hi => by simp [overRow, hi], hon⟩

set_option maxHeartbeats 400000 in
theorem spoil_none (v : Int) (w : World) :
    Calls Tryz.prog 73 #[.slice none 0 0, .int .i64 v] w fun e w' => e = .returned (.tuple #[]) ∧ w' = w := by
  have hnil := fun u : World => Lib.run_eql_slice_nil (P := Tryz.prog) u 29 3 none 0 0 0 0 Tryz.underlying29
  go_enter Tryz.func73, Tryz.ntmps73
  go_wp2
  exact bodyPost_ret (v := .tuple #[]) (by simp [results, Tryz.results73, go_sem]) rfl ⟨rfl, rfl⟩

end Go.Proofs.YtlncjgnomhpjnaaGreatDoor

