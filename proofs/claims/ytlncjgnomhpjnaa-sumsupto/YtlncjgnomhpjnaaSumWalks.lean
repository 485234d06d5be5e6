import Derived.Test.YtlncjgnomhpjnaaChecked
import GoSem.Claim
import GoSem.ClaimJoined
import GoSem.ClaimMapViews
import Derived.JoinedTies
import Derived.KernelRfl
import Derived.RowKit
import Derived.Test.YtlncjgnomhpjnaaSumMath
import Derived.WalkKit
import Derived.WalkSpells
import Derived.WalkLawsBesides
namespace Go.Proofs.Ytlncjgnomhpjnaa
open Go.RowKit

theorem ret_int {k : IntKind} {a b : Int} (h : a = b) : Ending.returned (.int k a) = .returned (.int k b) := by rw [h]

set_option maxHeartbeats 400000 in
/-- the program's sum, from nothing on -/
theorem sumOn_any (s : ByteArray) (w : World) (hs : s.size ≤ 2097152) :
    Calls Try.prog 35 #[.int .i64 1, .string s] w fun e w' => e = .returned (.int .i64 (65536 * ((sB s.data.toList % 65521 : Nat) : Int) + ((sA s.data.toList % 65521 : Nat) : Int))) ∧ w' = w := by
  go_enter Try.func35, Try.ntmps35
  go_wp2
  go_loop [5, 6, 7, 14] (fun a b _ i => ∃ k : Nat, k ≤ s.size ∧ i = .int .i64 k ∧ a = .int .i64 ((sA (s.data.toList.take k) % 65521 : Nat) : Int) ∧ b = .int .i64 ((sB (s.data.toList.take k) % 65521 : Nat) : Int)) (fun _ _ _ i => s.size - (intOf i).toNat)
  case atStart => exact ⟨0, Nat.zero_le _, rfl, rfl, rfl⟩
  case round =>
    obtain ⟨k, hk, rfl, rfl, rfl⟩ := hrel
    by_cases hlt : k < s.size
    · have hc : s[k].toNat < 256 := UInt8.toNat_lt _
      have HA : Hid (sA (s.data.toList.take (k + 1)) = sA (s.data.toList.take k) + s[k].toNat) := by
        show _ = _; rw [take_snoc s k hlt, sA_snoc]
      have HB : Hid (sB (s.data.toList.take (k + 1)) = sB (s.data.toList.take k) + (sA (s.data.toList.take k) + s[k].toNat)) := by
        show _ = _; rw [take_snoc s k hlt, sB_snoc, sA_snoc]
      generalize sA (s.data.toList.take k) = A at *
      generalize sB (s.data.toList.take k) = B at *
      have h1 : A % 65521 < 65521 := Nat.mod_lt _ (by decide)
      have h2 : B % 65521 < 65521 := Nat.mod_lt _ (by decide)
      go_wp2
      go_outline
      go_round
      case rel => exact ⟨k + 1, by omega, by go_num, by rw [HA.out]; go_num, by rw [HB.out]; go_num⟩
      case measure => simp [intOf]; omega
    · go_wp2
      go_outline
      go_ret
      exact ⟨ret_int (by rw [List.take_of_length_le (by simp; omega)]), rfl⟩
/-- the program's sum -/
theorem sum_any (s : ByteArray) (w : World) (hs : s.size ≤ 2097152) :
    Calls Try.prog 20 #[.string s] w fun e w' => e = .returned (.int .i64 (65536 * ((sB s.data.toList % 65521 : Nat) : Int) + ((sA s.data.toList % 65521 : Nat) : Int))) ∧ w' = w := by
  go_enter Try.func20, Try.ntmps20
  go_wp2_with (go_at_call 35; refine (sumOn_any _ _ hs).mono ?_; rintro e w' ⟨rfl, rfl⟩)
  go_ret
  exact ⟨rfl, rfl⟩
end Go.Proofs.Ytlncjgnomhpjnaa
