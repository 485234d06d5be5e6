/-
  Guesses of the program: subframe.guesser.
-/
import Derived.Test.YtlncjgnomhpjnaaDoorReader2
import Derived.Test.YtlncjgnomhpjnaaDoorLent
namespace Go.Proofs.YtlncjgnomhpjnaaDoor
open Go.RowKit Go.Deep
set_option linter.unusedVariables false

def sel4 (w0 w1 w2 w3 : Int) (j : Nat) : Int := if j = 0 then w0 else if j = 1 then w1 else if j = 2 then w2 else if j = 3 then w3 else 0
theorem sel4_cell (o sc w0 w1 w2 w3 : Int) (w : World) (t : TypeId) (i : Nat) (hi : i < 4) :
    (w.alloc (.cells #[.int .i64 o, .int .i64 w0, .int .i64 w1, .int .i64 w2, .int .i64 w3, .int .i64 sc] t)).cell? ⟨w.heap.size, 1 + i, none⟩ = some (.int .i64 (sel4 w0 w1 w2 w3 i)) := by
  rw [World.cell?_alloc_new]
  match i, hi with
  | 0, _ => rfl
  | 1, _ => rfl
  | 2, _ => rfl
  | 3, _ => rfl
theorem sel4_bd {w0 w1 w2 w3 : Int} (h0 : -32 ≤ w0 ∧ w0 ≤ 32) (h1 : -32 ≤ w1 ∧ w1 ≤ 32) (h2 : -32 ≤ w2 ∧ w2 ≤ 32) (h3 : -32 ≤ w3 ∧ w3 ≤ 32) (j : Nat) : -32 ≤ sel4 w0 w1 w2 w3 j ∧ sel4 w0 w1 w2 w3 j ≤ 32 := by
  unfold sel4
  split
  · exact h0
  · split
    · exact h1
    · split
      · exact h2
      · split
        · exact h3
        · omega
theorem mul_bd {u v : Int} (hu : -32 ≤ u ∧ u ≤ 32) (hv : -4096 ≤ v ∧ v ≤ 4096) : -131072 ≤ u * v ∧ u * v ≤ 131072 := by
  have h := Int.natAbs_mul u v
  have h1 : u.natAbs ≤ 32 := by omega
  have h2 : v.natAbs ≤ 4096 := by omega
  have h3 : u.natAbs * v.natAbs ≤ 32 * 4096 := Nat.mul_le_mul h1 h2
  omega
theorem sumG_bd {w x : Nat → Int} {i : Nat} (hw : ∀ j, -32 ≤ w j ∧ w j ≤ 32) (hx : ∀ j, j < i → -4096 ≤ x j ∧ x j ≤ 4096) (hi : 0 < i) : ∀ m : Nat, -131072 * (m : Int) ≤ sumG w x i m ∧ sumG w x i m ≤ 131072 * (m : Int)
  | 0 => by simp [sumG]
  | m + 1 => by
    have := sumG_bd hw hx hi m
    have h := mul_bd (hw m) (hx (i - 1 - m) (by omega))
    simp only [sumG]
    omega

set_option maxHeartbeats 1000000 in
theorem guess_any (o sc : Nat) (w0 w1 w2 w3 : Int) (a : Option Addr) (n c : Nat) (x : Nat → Int) (w : World) (ho : o ≤ 4) (hon : o ≤ n) (hsc : sc ≤ 3) (hn : n ≤ 32)
    (k0 : -32 ≤ w0 ∧ w0 ≤ 32) (k1 : -32 ≤ w1 ∧ w1 ≤ 32) (k2 : -32 ≤ w2 ∧ w2 ≤ 32) (k3 : -32 ≤ w3 ∧ w3 ≤ 32) (hX : ∀ j, j < n → -4096 ≤ x j ∧ x j ≤ 4096)
    (hI : IntsAt w a n x) (hlow : ∀ y, a = some y → 0 < n → y.block < w.heap.size) :
    Calls Tryd.prog 60 #[.agg #[.int .i64 o, .int .i64 w0, .int .i64 w1, .int .i64 w2, .int .i64 w3, .int .i64 sc], .slice a n c] w fun e w' =>
      e = .returned (.int .i64 (sumG (sel4 w0 w1 w2 w3) x n o / 2 ^ sc)) ∧ Below w.heap.size w w' := by
  obtain ⟨W, hWe⟩ : ∃ W, W = w.alloc (.cells #[.int .i64 o, .int .i64 w0, .int .i64 w1, .int .i64 w2, .int .i64 w3, .int .i64 sc] 64) := ⟨_, rfl⟩
  have hb : Below w.heap.size w W := by rw [hWe]; exact (Below.refl _ _).alloc (Nat.le_refl _) _
  have HB : Hid (∀ m, Below w.heap.size w (World.drewN (w.alloc (.cells #[.int .i64 o, .int .i64 w0, .int .i64 w1, .int .i64 w2, .int .i64 w3, .int .i64 sc] 64)) m)) := fun m => by
    rw [← hWe]; exact ⟨hb.os, hb.tape, hb.output, hb.size, hb.block⟩
  have HI : Hid (IntsAt (w.alloc (.cells #[.int .i64 o, .int .i64 w0, .int .i64 w1, .int .i64 w2, .int .i64 w3, .int .i64 sc] 64)) a n x) := by
    intro i hi
    obtain ⟨y, hy, hc⟩ := hI i hi
    refine ⟨y, hy, ?_⟩
    rw [← hWe, hb.cell (by have := hlow y hy (by omega); cases i <;> simpa [Addr.add] using this), hc]
  clear hWe hb hI hlow
  have HS := sumG_bd (w := sel4 w0 w1 w2 w3) (x := x) (i := n) (sel4_bd k0 k1 k2 k3)
  have HX : Hid (∀ j, j < n → -4096 ≤ x j ∧ x j ≤ 4096) := hX
  have HM : Hid (∀ j, -32 ≤ sel4 w0 w1 w2 w3 j ∧ sel4 w0 w1 w2 w3 j ≤ 32) := sel4_bd k0 k1 k2 k3
  clear hX k0 k1 k2 k3
  have hHS : Hid _ := HS
  clear HS
  go_enter Tryd.func60, Tryd.ntmps60
  go_wp2
  go_loopw [5, 6, 9] (fun v _ i wr => ∃ j : Nat, j ≤ o ∧ i = .int .i64 j ∧ v = .int .i64 (sumG (sel4 w0 w1 w2 w3) x n j) ∧ ∃ m, wr = World.drewN (w.alloc (.cells #[.int .i64 o, .int .i64 w0, .int .i64 w1, .int .i64 w2, .int .i64 w3, .int .i64 sc] 64)) m) (fun _ _ i _ => o - (intOf i).toNat)
  case atStart => exact ⟨0, Nat.zero_le _, rfl, rfl, 0, rfl⟩
  case round =>
    obtain ⟨j, hj, rfl, rfl, m, rfl⟩ := hrel
    by_cases hlt : j < o
    · obtain ⟨b, off, hx, hc⟩ := HI.out.open (by omega)
      cases hx
      have hc1 := hc (n - 1 - j) (by omega)
      have hc2 := sel4_cell (o : Int) (sc : Int) w0 w1 w2 w3 w 64 j (by omega)
      have hmb := mul_bd (HM.out j) (HX.out (n - 1 - j) (by omega))
      have hsb := hHS.out HX.out (by omega) j
      have HE : Hid (sumG (sel4 w0 w1 w2 w3) x n (j + 1) = sumG (sel4 w0 w1 w2 w3) x n j + sel4 w0 w1 w2 w3 j * x (n - 1 - j)) := rfl
      clear hc
      go_wp2
      go_region
      all_goals go_wp2
      go_roundw
      case rel => exact ⟨j + 1, by omega, by go_num, by rw [HE.out], _, rfl⟩
      case measure => simp [intOf]; omega
    · have e : j = o := by omega
      subst e
      go_wp2
      go_ret
      exact ⟨ret_int rfl, HB.out _⟩
end Go.Proofs.YtlncjgnomhpjnaaDoor
