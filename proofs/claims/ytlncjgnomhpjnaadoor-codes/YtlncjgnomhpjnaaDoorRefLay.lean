/-
  The document's packer: a body.
-/
import Derived.Test.YtlncjgnomhpjnaaDoorRefCuts
import Derived.Test.YtlncjgnomhpjnaaDoorRefLean
import Derived.Test.YtlncjgnomhpjnaaDoorCursor4
namespace Go.Proofs.YtlncjgnomhpjnaaDoor
open Go.RowKit Go.Deep
set_option linter.unusedVariables false

/-- what is asked of the short samples, here -/
structure RS (w : World) (g n W : Nat) (x : Nat → Int) : Prop where
  row : w.rowIs g 3 n (cutV n x)
  bd : ∀ j, j < n → -4096 ≤ x j ∧ x j ≤ 4096
  lo : ∀ j, j < n → -(2 ^ W) ≤ x j
theorem RS.below {w u : World} {g n W : Nat} {x : Nat → Int} (h : RS w g n W x) (hb : Below w.heap.size w u) : RS u g n W x := ⟨h.row.of_block (hb.block _ h.row.lt), h.bd, h.lo⟩
theorem RS.ints {w : World} {g n W : Nat} {x : Nat → Int} (h : RS w g n W x) : IntsAt w (some ⟨g, 0, none⟩) n x := fun i hi => ⟨_, rfl, by
  have := h.row.cell (i := i) hi
  unfold cutV cutI at this
  rw [if_pos hi] at this
  rw [addr_add, Nat.zero_add]; exact this⟩
theorem RS.cell {w : World} {g n W : Nat} {x : Nat → Int} (h : RS w g n W x) {i : Nat} (hi : i < n) : w.cell? ⟨g, i, none⟩ = some (.int .i64 (x i)) := by
  have := h.row.cell (i := i) hi
  unfold cutV cutI at this
  rw [if_pos hi] at this
  exact this

set_option maxHeartbeats 1000000 in
theorem rlay_zero (g n W : Nat) (x : Nat → Int) (w : World) (hn1 : 1 ≤ n) (hn : n ≤ 32) (hW : W ≤ 13) (hS : RS w g n W x) :
    Calls Tryd.prog 47 #[.int .i64 0, .int .i64 W, .slice (some ⟨g, 0, none⟩) n n] w fun e w' => e = .returned (.string (if allSame x n then bs (binT (x 0) W) else ⟨#[]⟩)) ∧ Below w.heap.size w w' := by
  have HSM := Hid.mk' (rsame_any (some ⟨g, 0, none⟩) n n x w hn1 hn hS.ints)
  have hc0 := hS.cell (i := 0) (by omega)
  have HB := Hid.mk' (fun u => binary_any (x 0) W u (by omega) (by have := hS.bd 0 (by omega); omega) (hS.lo 0 (by omega)))
  clear hS
  cases hv : allSame x n with
  | true =>
    rw [hv] at HSM
    rw [if_pos rfl]
    clear hv
    go_enter Tryd.func47, Tryd.ntmps47
    go_wp2_with (first
      | (go_at_call 68; refine HSM.out.mono ?_; rintro e w1 ⟨rfl, q, hw⟩; subst w1; clear HSM)
      | (go_at_call 48; refine (HB.out _).mono ?_; rintro e w2 ⟨rfl, hb2⟩; have HB2 : Hid (Below w.heap.size w w2) := (⟨hb2.os, hb2.tape, hb2.output, hb2.size, hb2.block⟩ : Below w.heap.size w w2); clear hb2 HB))
    go_ret
    exact ⟨rfl, HB2.out⟩
  | false =>
    rw [hv] at HSM
    rw [if_neg (by simp)]
    clear hv
    go_enter Tryd.func47, Tryd.ntmps47
    go_wp2_with (go_at_call 68; refine HSM.out.mono ?_; rintro e w1 ⟨rfl, q, hw⟩; subst w1; clear HSM)
    go_ret
    exact ⟨rfl, below_drewN (Below.refl _ _) _⟩

set_option maxHeartbeats 1000000 in
theorem rlay_short (kind g n W : Nat) (x : Nat → Int) (w : World) (h2 : 2 ≤ kind) (h7 : kind ≤ 7) (hon : ¬ ord kind < n) :
    Calls Tryd.prog 47 #[.int .i64 kind, .int .i64 W, .slice (some ⟨g, 0, none⟩) n n] w fun e w' => e = .returned (.string ⟨#[]⟩) ∧ Below w.heap.size w w' := by
  have HO := Hid.mk' (fun u => cOrderOf_any kind u h2 h7)
  have k0 : ((kind : Int) == 0) = false := by simp; omega
  have k1 : decide (1 < (kind : Int)) = true := decide_eq_true (by omega)
  have t1 : decide ((n : Int) ≤ (ord kind : Int)) = true := decide_eq_true (by omega)
  have t2 : decide (n ≤ ord kind) = true := decide_eq_true (by omega)
  generalize ord kind = o at *
  go_enter Tryd.func47, Tryd.ntmps47
  go_wp2_with (go_at_call 53; refine (HO.out _).mono ?_; rintro e w1 ⟨rfl, hw⟩; subst w1; clear HO)
  go_ret
  exact ⟨rfl, Below.refl _ _⟩

set_option maxHeartbeats 1000000 in
theorem rlay_plain (g n W : Nat) (x : Nat → Int) (w : World) (hn : n ≤ 32) (hW : W ≤ 13) (hS : RS w g n W x) :
    Calls Tryd.prog 47 #[.int .i64 1, .int .i64 W, .slice (some ⟨g, 0, none⟩) n n] w fun e w' => e = .returned (.string (bs (numsT x W n))) ∧ Below w.heap.size w w' := by
  have HS := Hid.mk' hS
  have HB0 := Hid.mk' (Below.refl w.heap.size w)
  clear hS
  go_enter Tryd.func47, Tryd.ntmps47
  go_wp2
  go_loopw [10, 11] (fun sv iv wr => ∃ i : Nat, i ≤ n ∧ iv = .int .i64 i ∧ sv = .string (bs (numsT x W i)) ∧ Hid (Below w.heap.size w wr)) (fun _ iv _ => n - (intOf iv).toNat)
  case atStart => exact ⟨0, Nat.zero_le _, rfl, rfl, HB0.out⟩
  case round =>
    clear HB0
    obtain ⟨i, hi, rfl, rfl, HBi⟩ := hrel
    by_cases hlt : i < n
    · have hci := (HS.out.below HBi.out).cell (i := i) (by omega)
      have HBN := Hid.mk' (fun u => binary_any (x i) W u (by omega) (by have := HS.out.bd i (by omega); omega) (HS.out.lo i (by omega)))
      have hs1 : (bs (numsT x W i)).size ≤ 1000 := by
        rw [bs_size, numsT_length]
        have : i * W ≤ 32 * 13 := Nat.mul_le_mul (by omega) hW
        omega
      have hs2 : (bs (binT (x i) W)).size ≤ 13 := by rw [bs_size, binT_length]; exact hW
      have HSTR : Hid (bs (numsT x W i) ++ bs (binT (x i) W) = bs (numsT x W (i + 1))) := by show _ = _; rw [bs_append]; rfl
      have hszi := HBi.out.size
      generalize bs (numsT x W i) = S1 at *
      generalize bs (binT (x i) W) = S2 at *
      go_wp2_with (go_at_call 48; refine (HBN.out _).mono ?_; rintro e w2 ⟨rfl, hb2⟩; have HB2 := Hid.mk' (HBi.out.trans (hb2.mono hszi)); clear hb2 HBN)
      go_roundw
      case rel => exact ⟨i + 1, by omega, by go_num, by rw [HSTR.out], HB2.out⟩
      case measure => simp [intOf]; omega
    · have e : i = n := by omega
      subst e
      go_wp2
      go_ret
      exact ⟨rfl, HBi.out⟩
end Go.Proofs.YtlncjgnomhpjnaaDoor
