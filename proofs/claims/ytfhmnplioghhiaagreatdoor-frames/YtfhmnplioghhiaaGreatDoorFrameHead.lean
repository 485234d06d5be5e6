/-
  A frame's head, laid down.
-/
import Derived.Test.YtfhmnplioghhiaaGreatDoorFrameSeal
import Derived.Deep.RegionHeld3
namespace Go.Proofs.YtfhmnplioghhiaaGreatDoor
open Go.RowKit Go.Deep
set_option linter.unusedVariables false

/-- a cell of a variable's block, in a later world -/
theorem keep_cell {u u' : World} {b o : Nat} {v : Value} (h : Below u.heap.size u u') (hb : b < u.heap.size) (hc : u.cell? ⟨b, o, none⟩ = some v) : u'.cell? ⟨b, o, none⟩ = some v :=
  (h.cell (p := ⟨b, o, none⟩) hb).trans hc

theorem keep4 {u u' : World} {b : Nat} {v0 v1 v2 v3 : Value} (hb : Below u.heap.size u u') (h : b < u.heap.size ∧ u.cell? ⟨b, 0, none⟩ = some v0 ∧ u.cell? ⟨b, 1, none⟩ = some v1 ∧ u.cell? ⟨b, 2, none⟩ = some v2 ∧ u.cell? ⟨b, 3, none⟩ = some v3) :
    b < u'.heap.size ∧ u'.cell? ⟨b, 0, none⟩ = some v0 ∧ u'.cell? ⟨b, 1, none⟩ = some v1 ∧ u'.cell? ⟨b, 2, none⟩ = some v2 ∧ u'.cell? ⟨b, 3, none⟩ = some v3 :=
  ⟨Nat.lt_of_lt_of_le h.1 hb.size, keep_cell hb h.1 h.2.1, keep_cell hb h.1 h.2.2.1, keep_cell hb h.1 h.2.2.2.1, keep_cell hb h.1 h.2.2.2.2⟩

set_option maxHeartbeats 1000000 in
theorem headLay_any (number len n mode : Nat) (w : World) (h1 : number < 65536) (h2 : len < 65536) (h3 : 1 ≤ n) (h4 : n ≤ 256) (h5 : mode < 256) :
    Calls Tryz.prog 67 #[.agg #[.int .i64 number, .int .i64 len, .int .i64 n, .int .i64 mode]] w fun e w' => e = .returned (.string (bs (seal8 (headT number len n mode)))) ∧ Below w.heap.size w w' := by
  have HI1 : Hid (∀ u, Calls Tryz.prog 108 #[.int .i64 165, .int .i64 1] u fun e w' => e = .returned (.string (bs (inT 165 1))) ∧ Below u.heap.size u w') := fun u => in_any 165 1 u (by omega) (by omega)
  have HI2 : Hid (∀ u, Calls Tryz.prog 108 #[.int .i64 number, .int .i64 2] u fun e w' => e = .returned (.string (bs (inT number 2))) ∧ Below u.heap.size u w') := fun u => in_any number 2 u (by omega) (by omega)
  have HI3 : Hid (∀ u, Calls Tryz.prog 108 #[.int .i64 len, .int .i64 2] u fun e w' => e = .returned (.string (bs (inT len 2))) ∧ Below u.heap.size u w') := fun u => in_any len 2 u (by omega) (by omega)
  have HI4 : Hid (∀ u, Calls Tryz.prog 108 #[.int .i64 ((n - 1 : Nat) : Int), .int .i64 1] u fun e w' => e = .returned (.string (bs (inT (n - 1) 1))) ∧ Below u.heap.size u w') := fun u => in_any (n - 1) 1 u (by omega) (by omega)
  have HI5 : Hid (∀ u, Calls Tryz.prog 108 #[.int .i64 mode, .int .i64 1] u fun e w' => e = .returned (.string (bs (inT mode 1))) ∧ Below u.heap.size u w') := fun u => in_any mode 1 u (by omega) (by omega)
  have HS := Hid.mk' (fun u => seal8_any (headT number len n mode) u (by rw [headT_length]; omega))
  have HTX : Hid (bs (inT 165 1) ++ bs (inT number 2) ++ bs (inT len 2) ++ bs (inT (n - 1) 1) ++ bs (inT mode 1) = bs (headT number len n mode)) := by
    show _ = _; rw [bs_append, bs_append, bs_append, bs_append]; rfl
  have wn : IntKind.i64.wrap ((n : Int) - 1) = ((n - 1 : Nat) : Int) := by rw [IntKind.wrap_i64]; omega
  have z1 : (bs (inT 165 1)).size = 1 := by rw [bs_size, inT_length]
  have z2 : (bs (inT number 2)).size = 2 := by rw [bs_size, inT_length]
  have z3 : (bs (inT len 2)).size = 2 := by rw [bs_size, inT_length]
  have z4 : (bs (inT (n - 1) 1)).size = 1 := by rw [bs_size, inT_length]
  have z5 : (bs (inT mode 1)).size = 1 := by rw [bs_size, inT_length]
  rw [← HTX.out] at HS
  generalize seal8 (headT number len n mode) = R at *
  generalize bs (inT 165 1) = X1 at *
  generalize bs (inT number 2) = X2 at *
  generalize bs (inT len 2) = X3 at *
  generalize bs (inT (n - 1) 1) = X4 at *
  generalize bs (inT mode 1) = X5 at *
  generalize n - 1 = n1 at *
  clear HTX
  have hb0 : Below w.heap.size w (w.alloc (.cells #[.int .i64 number, .int .i64 len, .int .i64 n, .int .i64 mode] 99)) := (Below.refl _ _).alloc (Nat.le_refl _) _
  have HB0 := Hid.mk' hb0
  clear hb0
  have hS0 : w.heap.size < (w.alloc (.cells #[.int .i64 number, .int .i64 len, .int .i64 n, .int .i64 mode] 99)).drew.heap.size ∧ (w.alloc (.cells #[.int .i64 number, .int .i64 len, .int .i64 n, .int .i64 mode] 99)).drew.cell? ⟨w.heap.size, 0, none⟩ = some (.int .i64 number) ∧ (w.alloc (.cells #[.int .i64 number, .int .i64 len, .int .i64 n, .int .i64 mode] 99)).drew.cell? ⟨w.heap.size, 1, none⟩ = some (.int .i64 len) ∧ (w.alloc (.cells #[.int .i64 number, .int .i64 len, .int .i64 n, .int .i64 mode] 99)).drew.cell? ⟨w.heap.size, 2, none⟩ = some (.int .i64 n) ∧ (w.alloc (.cells #[.int .i64 number, .int .i64 len, .int .i64 n, .int .i64 mode] 99)).drew.cell? ⟨w.heap.size, 3, none⟩ = some (.int .i64 mode) := by simp
  go_enter Tryz.func67, Tryz.ntmps67
  go_wp2
  go_region_held3 (fun w' => w.heap.size < w'.heap.size ∧ w'.cell? ⟨w.heap.size, 0, none⟩ = some (.int .i64 number) ∧ w'.cell? ⟨w.heap.size, 1, none⟩ = some (.int .i64 len) ∧ w'.cell? ⟨w.heap.size, 2, none⟩ = some (.int .i64 n) ∧ w'.cell? ⟨w.heap.size, 3, none⟩ = some (.int .i64 mode))
    (assumption)
    (first
    | (go_at_call 108; refine (HI1.out _).mono ?_; rintro e u1 ⟨rfl, hb1⟩; have hS1 := keep4 hb1 hS0; have HB1 := Hid.mk' (HB0.out.drew.trans (hb1.mono (by simp))); clear HI1 HB0)
    | (go_at_call 108; refine (HI2.out _).mono ?_; rintro e u2 ⟨rfl, hb2⟩; have hS2 := keep4 hb2 hS1; have HB2 := Hid.mk' (HB1.out.trans (hb2.mono HB1.out.size)); clear HI2 HB1)
    | (go_at_call 108; refine (HI3.out _).mono ?_; rintro e u3 ⟨rfl, hb3⟩; have hS3 := keep4 hb3 hS2; have HB3 := Hid.mk' (HB2.out.trans (hb3.mono HB2.out.size)); clear HI3 HB2)
    | (go_at_call 108; refine (HI4.out _).mono ?_; rintro e u4 ⟨rfl, hb4⟩; have hS4 := keep4 hb4 hS3; have HB4 := Hid.mk' (HB3.out.trans (hb4.mono HB3.out.size)); clear HI4 HB3)
    | (go_at_call 108; refine (HI5.out _).mono ?_; rintro e u5 ⟨rfl, hb5⟩; have hS5 := keep4 hb5 hS4; have HB5 := Hid.mk' (HB4.out.trans (hb5.mono HB4.out.size)); clear HI5 HB4)
    | (go_at_call 110; refine (HS.out _).mono ?_; rintro e u6 ⟨rfl, hb6⟩; have hS6 := keep4 hb6 hS5; have HB6 := Hid.mk' (HB5.out.trans (hb6.mono HB5.out.size)); clear HS HB5))
  go_wp2
  go_ret
  exact ⟨rfl, HB6.out⟩
end Go.Proofs.YtfhmnplioghhiaaGreatDoor
