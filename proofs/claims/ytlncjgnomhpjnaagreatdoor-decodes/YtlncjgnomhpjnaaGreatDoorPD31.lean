import Derived.Test.YtlncjgnomhpjnaaGreatDoorPD30
import Derived.Test.YtlncjgnomhpjnaaGreatDoorPD8
import Derived.Test.YtlncjgnomhpjnaaGreatDoorPD26
import Derived.Test.YtlncjgnomhpjnaaGreatDoorPD6
import Derived.Deep.RegionHeld3
import Derived.Deep.DeepCutAuto
/-
  A frame read, in the document: reelref.Unframe.
-/
namespace Go.Proofs.YtlncjgnomhpjnaaGreatDoor
open Go.RowKit Go.Deep
set_option linter.unusedVariables false
theorem refUnframe_any (c2 c3 c4 c5 c6 c7 : Int) (n d : Nat) (number : Int) (T : List UInt8) (w : World) (hs2 : T.length ≤ 9000) (hd1 : 4 ≤ d) (hd : d ≤ 12) (hn1 : 1 ≤ n) (hn4 : n ≤ 4) (h2 : c2 ≤ 32) (hT : TabAt w 3) (hT3 : 3 < w.heap.size) :
    Calls Tryz.prog 79 #[.agg #[.int .i64 n, .int .i64 d, .int .i64 c2, .int .i64 c3, .int .i64 c4, .int .i64 c5, .int .i64 c6, .int .i64 c7], .int .i64 number, .string (bs T)] w fun e w' => RefOut e w w' T n d c2 number := by
  by_cases hs : 10 ≤ T.length
  · by_cases hM : valN (pieceT T 0 1) = 165
    · by_cases hN : (hNum T : Int) = number
      · subst hN
        by_cases hE : valN (pieceT T 7 8) = crc 8 263 (T.take 7)
        · exact refUn_rest c2 c3 c4 c5 c6 c7 n d T w hs hs2 hd1 hd hn1 hn4 h2 hT hT3 hM hE
        · exact refUn_eight c2 c3 c4 c5 c6 c7 n d T w hs hs2 hM hE
      · exact refUn_num c2 c3 c4 c5 c6 c7 n d number T w hs hs2 hM hN
    · exact refUn_mark c2 c3 c4 c5 c6 c7 n d number T w hs hs2 hM
  · exact refUn_short c2 c3 c4 c5 c6 c7 n d number T w (by omega)
end Go.Proofs.YtlncjgnomhpjnaaGreatDoor

/-
  The law 'Unframes': two answers held against each other.
-/
namespace Go.Proofs.YtlncjgnomhpjnaaGreatDoor
open Go.RowKit Go.Deep
set_option linter.unusedVariables false
set_option maxHeartbeats 1000000 in
theorem sameL_any (a a' : Option Addr) (n c c' : Nat) (x : Nat → Int) (w : World) (hn : n ≤ 1000000) (h1 : IntsAt w a n x) (h2 : IntsAt w a' n x) :
    Calls Tryz.prog 80 #[.slice a n c, .slice a' n c'] w fun e w' => e = .returned (.bool true) ∧ ∃ m, w' = w.drewN m := by
  have H1 := Hid.mk' h1
  have H2 := Hid.mk' h2
  clear h1 h2
  go_enter Tryz.func80, Tryz.ntmps80
  go_wp2
  go_loopw [5] (fun i wr => ∃ k : Nat, k ≤ n ∧ i = .int .i64 k ∧ ∃ m, wr = w.drewN m) (fun i _ => n - (intOf i).toNat)
  case atStart => exact ⟨0, Nat.zero_le _, rfl, 0, rfl⟩
  case round =>
    obtain ⟨k, hk, rfl, m, rfl⟩ := hrel
    by_cases hkn : k < n
    · obtain ⟨b1, o1, hx1, hc1⟩ := H1.out.open (by omega)
      obtain ⟨b2, o2, hx2, hc2⟩ := H2.out.open (by omega)
      cases hx1
      cases hx2
      have hd1 := hc1 k hkn
      have hd2 := hc2 k hkn
      clear hc1 hc2
      go_wp2
      go_region
      all_goals go_wp2
      go_roundw
      case rel => exact ⟨k + 1, by omega, by go_num, _, rfl⟩
      case measure => simp [intOf]; omega
    · have e : k = n := by omega
      subst e
      go_wp2
      go_ret
      exact ⟨rfl, _, rfl⟩
theorem sameAll_nil (w : World) : Calls Tryz.prog 45 #[.slice none 0 0, .slice none 0 0] w fun e w' => e = .returned (.bool true) ∧ Below w.heap.size w w' := by
  go_enter Tryz.func45, Tryz.ntmps45
  go_wp2
  go_loopw [4, 5, 6] (fun _ iv _ wr => iv = .int .i64 0 ∧ wr = w) (fun _ _ _ _ => 0)
  case atStart => exact ⟨rfl, rfl⟩
  case round =>
    obtain ⟨rfl, hwr⟩ := hrel
    subst hwr
    go_wp2
    go_ret
    exact ⟨rfl, Below.refl _ _⟩
end Go.Proofs.YtlncjgnomhpjnaaGreatDoor

