import Derived.Test.YtlncjgnomhpjnabGreatDoorQU18
import Derived.Test.YtlncjgnomhpjnabGreatDoorQU19
/-
  What a frame's head may say: (frame.head).mayBe, frame.modes, frame.widthOf.
-/
namespace Go.Proofs.YtlncjgnomhpjnabGreatDoor
open Go.RowKit Go.Deep
set_option linter.unusedVariables false
def modesN (c0 : Int) : Int := if c0 = 2 then 4 else 1
theorem modes_any (c0 : Int) (w : World) : Calls Tryz.prog 253 #[.int .i64 c0] w fun e w' => e = .returned (.int .i64 (modesN c0)) ∧ w' = w := by
  unfold modesN
  by_cases h : c0 = 2
  · rw [if_pos h]
    have t1 : (c0 == 2) = true := by simp [h]
    go_enter Tryz.func253, Tryz.ntmps253
    go_wp2
    go_ret
    exact ⟨rfl, rfl⟩
  · rw [if_neg h]
    have t1 : (c0 == 2) = false := by simp [h]
    go_enter Tryz.func253, Tryz.ntmps253
    go_wp2
    go_ret
    exact ⟨rfl, rfl⟩
def widN (d n m i : Nat) : Nat := if n = 2 then (if i = 0 then w1 d m else w2 d m) else d
set_option maxHeartbeats 400000 in
theorem widthOf_any (d n m i : Nat) (w : World) (hd : d ≤ 12) (hm : m < 4) (hi : i < n) (hn : n ≤ 4) (hP : PairsAt w) :
    Calls Tryz.prog 254 #[.int .i64 d, .int .i64 n, .int .i64 m, .int .i64 i] w fun e w' => e = .returned (.int .i64 (widN d n m i)) ∧ w' = w := by
  by_cases h2 : n = 2
  · subst h2
    have HP := Hid.mk' hP
    clear hP
    match m, hm, i, hi with
    | 0, _, 0, _ =>
      have hc := HP.out 0 0 (by omega) (by omega)
      rw [show pairV 0 0 = 0 by decide] at hc
      go_enter Tryz.func254, Tryz.ntmps254
      go_wp2
      go_ret
      exact ⟨rfl, rfl⟩
    | 0, _, 1, _ =>
      have hc := HP.out 0 1 (by omega) (by omega)
      rw [show pairV 0 1 = 1 by decide] at hc
      go_enter Tryz.func254, Tryz.ntmps254
      go_wp2
      go_ret
      exact ⟨rfl, rfl⟩
    | 1, _, 0, _ =>
      have hc := HP.out 1 0 (by omega) (by omega)
      rw [show pairV 1 0 = 0 by decide] at hc
      go_enter Tryz.func254, Tryz.ntmps254
      go_wp2
      go_ret
      exact ⟨rfl, rfl⟩
    | 1, _, 1, _ =>
      have hc := HP.out 1 1 (by omega) (by omega)
      rw [show pairV 1 1 = 2 by decide] at hc
      go_enter Tryz.func254, Tryz.ntmps254
      go_wp2
      go_ret
      exact ⟨rfl, rfl⟩
    | 2, _, 0, _ =>
      have hc := HP.out 2 0 (by omega) (by omega)
      rw [show pairV 2 0 = 2 by decide] at hc
      go_enter Tryz.func254, Tryz.ntmps254
      go_wp2
      go_ret
      exact ⟨rfl, rfl⟩
    | 2, _, 1, _ =>
      have hc := HP.out 2 1 (by omega) (by omega)
      rw [show pairV 2 1 = 1 by decide] at hc
      go_enter Tryz.func254, Tryz.ntmps254
      go_wp2
      go_ret
      exact ⟨rfl, rfl⟩
    | 3, _, 0, _ =>
      have hc := HP.out 3 0 (by omega) (by omega)
      rw [show pairV 3 0 = 3 by decide] at hc
      go_enter Tryz.func254, Tryz.ntmps254
      go_wp2
      go_ret
      exact ⟨rfl, rfl⟩
    | 3, _, 1, _ =>
      have hc := HP.out 3 1 (by omega) (by omega)
      rw [show pairV 3 1 = 2 by decide] at hc
      go_enter Tryz.func254, Tryz.ntmps254
      go_wp2
      go_ret
      exact ⟨rfl, rfl⟩
  · have t1 : ((n : Int) == 2) = false := by simp; omega
    have e : widN d n m i = d := by unfold widN; rw [if_neg h2]
    rw [e]
    clear hP e
    go_enter Tryz.func254, Tryz.ntmps254
    go_wp2
    go_ret
    exact ⟨rfl, rfl⟩
/-- a frame of this configuration can have this head, and lie in so many bytes -/
def MayP (c0 c2 : Int) (len n mode : Nat) (bytes : Nat) : Prop := (10 ≤ len ∧ len ≤ bytes) ∧ (n : Int) ≤ c2 ∧ (mode : Int) < modesN c0
set_option maxHeartbeats 4000000 in
theorem mayBe_any (num len n mode bytes : Nat) (c0 c1 c2 c3 c4 c5 c6 c7 : Int) (w : World) (hby : bytes ≤ 1048576) :
    Calls Tryz.prog 205 #[.agg #[.int .i64 num, .int .i64 len, .int .i64 n, .int .i64 mode], .agg #[.int .i64 c0, .int .i64 c1, .int .i64 c2, .int .i64 c3, .int .i64 c4, .int .i64 c5, .int .i64 c6, .int .i64 c7], .int .i64 bytes] w fun e w' => Says e (MayP c0 c2 len n mode bytes) ∧ Below w.heap.size w w' := by
  have HB : Hid (Below w.heap.size w ((w.alloc (.cells #[.int .i64 num, .int .i64 len, .int .i64 n, .int .i64 mode] 203)).alloc (.cells #[.int .i64 c0, .int .i64 c1, .int .i64 c2, .int .i64 c3, .int .i64 c4, .int .i64 c5, .int .i64 c6, .int .i64 c7] 23))) := ((Below.refl _ _).alloc (Nat.le_refl _) _).alloc (by simp) _
  have HWI := Hid.mk' (fun u => within_any (len : Int) 10 bytes u)
  have HMO := Hid.mk' (fun u => modes_any c0 u)
  by_cases h1 : 10 ≤ len ∧ len ≤ bytes
  · have e1 : within (len : Int) 10 bytes = true := (within_iff _ _ _).2 (by omega)
    rw [e1] at HWI
    by_cases h2 : (n : Int) ≤ c2
    · have t2 : decide ((n : Int) ≤ c2) = true := decide_eq_true h2
      have hS0 : ((w.alloc (.cells #[.int .i64 num, .int .i64 len, .int .i64 n, .int .i64 mode] 203)).alloc (.cells #[.int .i64 c0, .int .i64 c1, .int .i64 c2, .int .i64 c3, .int .i64 c4, .int .i64 c5, .int .i64 c6, .int .i64 c7] 23)).drew.cell? ⟨w.heap.size, 1, none⟩ = some (.int .i64 len) ∧ ((w.alloc (.cells #[.int .i64 num, .int .i64 len, .int .i64 n, .int .i64 mode] 203)).alloc (.cells #[.int .i64 c0, .int .i64 c1, .int .i64 c2, .int .i64 c3, .int .i64 c4, .int .i64 c5, .int .i64 c6, .int .i64 c7] 23)).drew.cell? ⟨w.heap.size, 2, none⟩ = some (.int .i64 n) ∧ ((w.alloc (.cells #[.int .i64 num, .int .i64 len, .int .i64 n, .int .i64 mode] 203)).alloc (.cells #[.int .i64 c0, .int .i64 c1, .int .i64 c2, .int .i64 c3, .int .i64 c4, .int .i64 c5, .int .i64 c6, .int .i64 c7] 23)).drew.cell? ⟨w.heap.size, 3, none⟩ = some (.int .i64 mode) ∧ ((w.alloc (.cells #[.int .i64 num, .int .i64 len, .int .i64 n, .int .i64 mode] 203)).alloc (.cells #[.int .i64 c0, .int .i64 c1, .int .i64 c2, .int .i64 c3, .int .i64 c4, .int .i64 c5, .int .i64 c6, .int .i64 c7] 23)).drew.cell? ⟨w.heap.size + 1, 0, none⟩ = some (.int .i64 c0) ∧ ((w.alloc (.cells #[.int .i64 num, .int .i64 len, .int .i64 n, .int .i64 mode] 203)).alloc (.cells #[.int .i64 c0, .int .i64 c1, .int .i64 c2, .int .i64 c3, .int .i64 c4, .int .i64 c5, .int .i64 c6, .int .i64 c7] 23)).drew.cell? ⟨w.heap.size + 1, 2, none⟩ = some (.int .i64 c2) := by simp
      by_cases h3 : (mode : Int) < modesN c0
      · have HS : Hid (MayP c0 c2 len n mode bytes) := ⟨h1, h2, h3⟩
        have t3 : decide ((mode : Int) < modesN c0) = true := decide_eq_true h3
        clear h1 e1
        generalize modesN c0 = M at *
        go_enter Tryz.func205, Tryz.ntmps205
        go_wp2
        go_region_held3 (fun w' => w'.cell? ⟨w.heap.size, 1, none⟩ = some (.int .i64 len) ∧ w'.cell? ⟨w.heap.size, 2, none⟩ = some (.int .i64 n) ∧ w'.cell? ⟨w.heap.size, 3, none⟩ = some (.int .i64 mode) ∧ w'.cell? ⟨w.heap.size + 1, 0, none⟩ = some (.int .i64 c0) ∧ w'.cell? ⟨w.heap.size + 1, 2, none⟩ = some (.int .i64 c2))
          (with_reducible assumption)
          (first
          | (go_at_call 70; refine (HWI.out _).mono ?_; rintro e u2 ⟨rfl, hw⟩; subst u2; clear HWI)
          | (go_at_call 253; refine (HMO.out _).mono ?_; rintro e u2 ⟨rfl, hw⟩; subst u2; clear HMO))
        go_wp2
        go_ret
        exact ⟨Says.yes HS.out, HB.out.drew⟩
      · have HS : Hid (¬ MayP c0 c2 len n mode bytes) := fun h => h3 h.2.2
        have t3 : decide ((mode : Int) < modesN c0) = false := decide_eq_false h3
        clear h1 e1
        generalize modesN c0 = M at *
        go_enter Tryz.func205, Tryz.ntmps205
        go_wp2
        go_region_held3 (fun w' => w'.cell? ⟨w.heap.size, 1, none⟩ = some (.int .i64 len) ∧ w'.cell? ⟨w.heap.size, 2, none⟩ = some (.int .i64 n) ∧ w'.cell? ⟨w.heap.size, 3, none⟩ = some (.int .i64 mode) ∧ w'.cell? ⟨w.heap.size + 1, 0, none⟩ = some (.int .i64 c0) ∧ w'.cell? ⟨w.heap.size + 1, 2, none⟩ = some (.int .i64 c2))
          (with_reducible assumption)
          (first
          | (go_at_call 70; refine (HWI.out _).mono ?_; rintro e u2 ⟨rfl, hw⟩; subst u2; clear HWI)
          | (go_at_call 253; refine (HMO.out _).mono ?_; rintro e u2 ⟨rfl, hw⟩; subst u2; clear HMO))
        go_wp2
        go_ret
        exact ⟨Says.no HS.out, HB.out.drew⟩
    · have HS : Hid (¬ MayP c0 c2 len n mode bytes) := fun h => h2 h.2.1
      have t2 : decide ((n : Int) ≤ c2) = false := decide_eq_false h2
      clear h1 e1 HMO
      go_enter Tryz.func205, Tryz.ntmps205
      go_wp2
      first
      | (go_region_with (first | (go_at_call 70; refine (HWI.out _).mono ?_; rintro e u2 ⟨rfl, hw⟩; subst u2)))
      | fail
      all_goals (go_wp2; go_ret; exact ⟨Says.no HS.out, HB.out.drew⟩)
  · have HS : Hid (¬ MayP c0 c2 len n mode bytes) := fun h => h1 h.1
    have e1 : within (len : Int) 10 bytes = false := by
      cases h : within (len : Int) 10 bytes with
      | false => rfl
      | true => have := (within_iff _ _ _).1 h; omega
    rw [e1] at HWI
    clear h1 e1 HMO
    go_enter Tryz.func205, Tryz.ntmps205
    go_wp2
    first
    | (go_region_with (first | (go_at_call 70; refine (HWI.out _).mono ?_; rintro e u2 ⟨rfl, hw⟩; subst u2)))
    | fail
    all_goals (go_wp2; go_ret; exact ⟨Says.no HS.out, HB.out.drew⟩)
end Go.Proofs.YtlncjgnomhpjnabGreatDoor

