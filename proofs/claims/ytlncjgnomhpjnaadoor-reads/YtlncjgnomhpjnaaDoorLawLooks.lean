/-
  The law: Book.looks, of a book of two lists.
-/
import Derived.Test.YtlncjgnomhpjnaaDoorLawReads
namespace Go.Proofs.YtlncjgnomhpjnaaDoor
open Go.RowKit Go.Deep
set_option linter.unusedVariables false

/-- a list in the book, as it stands there -/
structure Kp (w : World) (b o : Nat) (m : Int) : Prop where
  ex : ∃ (a0 a1 a2 a3 : Option Addr) (n c0 c1 c2 c3 : Nat), n ≤ 32 ∧ w.cell? ⟨b, o, none⟩ = some (.slice a0 n c0) ∧ w.cell? ⟨b, o + 1, none⟩ = some (.slice a1 (n + 1) c1) ∧ w.cell? ⟨b, o + 2, none⟩ = some (.slice a2 (n + 2) c2) ∧
    w.cell? ⟨b, o + 3, none⟩ = some (.slice a3 (n + 3) c3) ∧ w.cell? ⟨b, o + 4, none⟩ = some (.int .i64 n) ∧ w.cell? ⟨b, o + 5, none⟩ = some (.int .i64 m) ∧
    IntsAt w a0 n (fun _ => m) ∧ IntsAt w a1 (n + 1) (fun _ => m) ∧ IntsAt w a2 (n + 2) (fun _ => m) ∧ IntsAt w a3 (n + 3) (fun _ => m)

theorem Kp.grown {w w' : World} {b o : Nat} {m : Int} (h : Kp w b o m) (hg : w.grownBy w' none) : Kp w' b o m := by
  obtain ⟨a0, a1, a2, a3, n, c0, c1, c2, c3, hn, k0, k1, k2, k3, k4, k5, i0, i1, i2, i3⟩ := h.ex
  exact ⟨a0, a1, a2, a3, n, c0, c1, c2, c3, hn, hg.cell k0 (by simp), hg.cell k1 (by simp), hg.cell k2 (by simp), hg.cell k3 (by simp), hg.cell k4 (by simp), hg.cell k5 (by simp),
    ints_grown i0 hg (by simp), ints_grown i1 hg (by simp), ints_grown i2 hg (by simp), ints_grown i3 hg (by simp)⟩
theorem shows_plus (a : Option Addr) (n k c : Nat) (v : Int) (w : World) (hn : n ≤ 32) (hk : k ≤ 3) (hI : IntsAt w a (n + k) (fun _ => v)) :
    Calls Tryd.prog 25 #[.slice a (n + k) c, .int .i64 ((n : Int) + (k : Int)), .int .i64 v] w fun e w' => e = .returned (.bool true) ∧ w' = w := by
  have := shows_yes a (n + k) c v w (by omega) hI
  rwa [show (((n + k : Nat)) : Int) = (n : Int) + (k : Int) by omega] at this

set_option maxRecDepth 100000 in
set_option maxHeartbeats 2000000 in
theorem looks_any (B b c : Nat) (K m0 m1 : Int) (w : World) (hB : Bo w B (.slice (some ⟨b, 0, none⟩) 2 c) K) (h0 : Kp w b 0 m0) (h1 : Kp w b 6 m1) :
    Calls Tryd.prog 12 #[.pointer (some ⟨B, 0, none⟩)] w fun e w' => e = .returned (.bool true) ∧ Below w.heap.size w w' := by
  obtain ⟨x0, x1, x2, y0, y2⟩ := hB.cells
  clear hB
  have H0 := Hid.mk' h0
  have H1 := Hid.mk' h1
  clear h0 h1
  go_enter Tryd.func12, Tryd.ntmps12
  go_wp2
  go_loopw [3] (fun iv wr => (iv = .int .i64 0 ∨ iv = .int .i64 1 ∨ iv = .int .i64 2) ∧ Hid (w.grownBy wr none)) (fun iv _ => 2 - (intOf iv).toNat)
  case atStart => exact ⟨.inl rfl, ⟨rfl, rfl, rfl, Nat.le_refl _, fun _ _ _ => rfl⟩⟩
  case round =>
    obtain ⟨hiv, HG⟩ := hrel
    rcases hiv with rfl | rfl | rfl
    · obtain ⟨a0, a1, a2, a3, n, c0, c1, c2, c3, hn, k0, k1, k2, k3, k4, k5, i0, i1, i2, i3⟩ := (H0.out.grown HG.out).ex
      simp only [Nat.zero_add] at k1 k2 k3 k4 k5
      have z0 : wr.cell? ⟨B, 0, none⟩ = some (.slice (some ⟨b, 0, none⟩) 2 c) := HG.out.cell x0 (by simp)
      have HS0 : Hid (∀ O, Calls Tryd.prog 25 #[.slice a0 n c0, .int .i64 (n : Int), .int .i64 m0] (wr.alloc O) fun e w' => e = .returned (.bool true) ∧ w' = wr.alloc O) := fun O => shows_yes a0 n c0 m0 _ (by omega) (ints_grown i0 (World.grownBy_alloc wr O none) (by simp))
      have HS1 : Hid (∀ O, Calls Tryd.prog 25 #[.slice a1 (n + 1) c1, .int .i64 ((n : Int) + 1), .int .i64 m0] (wr.alloc O) fun e w' => e = .returned (.bool true) ∧ w' = wr.alloc O) := fun O => shows_plus a1 n 1 c1 m0 _ hn (by omega) (ints_grown i1 (World.grownBy_alloc wr O none) (by simp))
      have HS2 : Hid (∀ O, Calls Tryd.prog 25 #[.slice a2 (n + 2) c2, .int .i64 ((n : Int) + 2), .int .i64 m0] (wr.alloc O) fun e w' => e = .returned (.bool true) ∧ w' = wr.alloc O) := fun O => shows_plus a2 n 2 c2 m0 _ hn (by omega) (ints_grown i2 (World.grownBy_alloc wr O none) (by simp))
      have HS3 : Hid (∀ O, Calls Tryd.prog 25 #[.slice a3 (n + 3) c3, .int .i64 ((n : Int) + 3), .int .i64 m0] (wr.alloc O) fun e w' => e = .returned (.bool true) ∧ w' = wr.alloc O) := fun O => shows_plus a3 n 3 c3 m0 _ hn (by omega) (ints_grown i3 (World.grownBy_alloc wr O none) (by simp))
      clear i0 i1 i2 i3
      go_wp2_with (first
        | (go_at_call 25; refine (HS0.out _).mono ?_; rintro e u ⟨rfl, hu⟩; subst u; clear HS0)
        | (go_at_call 25; refine (HS1.out _).mono ?_; rintro e u ⟨rfl, hu⟩; subst u; clear HS1)
        | (go_at_call 25; refine (HS2.out _).mono ?_; rintro e u ⟨rfl, hu⟩; subst u; clear HS2)
        | (go_at_call 25; refine (HS3.out _).mono ?_; rintro e u ⟨rfl, hu⟩; subst u; clear HS3))
      go_roundw
      case rel => exact ⟨(.inr (.inl rfl)), grown_trans HG.out (World.grownBy_alloc wr _ none)⟩
      case measure => simp [intOf]
    · obtain ⟨a0, a1, a2, a3, n, c0, c1, c2, c3, hn, k0, k1, k2, k3, k4, k5, i0, i1, i2, i3⟩ := (H1.out.grown HG.out).ex
      simp only [Nat.reduceAdd] at k1 k2 k3 k4 k5
      have z0 : wr.cell? ⟨B, 0, none⟩ = some (.slice (some ⟨b, 0, none⟩) 2 c) := HG.out.cell x0 (by simp)
      have HS0 : Hid (∀ O, Calls Tryd.prog 25 #[.slice a0 n c0, .int .i64 (n : Int), .int .i64 m1] (wr.alloc O) fun e w' => e = .returned (.bool true) ∧ w' = wr.alloc O) := fun O => shows_yes a0 n c0 m1 _ (by omega) (ints_grown i0 (World.grownBy_alloc wr O none) (by simp))
      have HS1 : Hid (∀ O, Calls Tryd.prog 25 #[.slice a1 (n + 1) c1, .int .i64 ((n : Int) + 1), .int .i64 m1] (wr.alloc O) fun e w' => e = .returned (.bool true) ∧ w' = wr.alloc O) := fun O => shows_plus a1 n 1 c1 m1 _ hn (by omega) (ints_grown i1 (World.grownBy_alloc wr O none) (by simp))
      have HS2 : Hid (∀ O, Calls Tryd.prog 25 #[.slice a2 (n + 2) c2, .int .i64 ((n : Int) + 2), .int .i64 m1] (wr.alloc O) fun e w' => e = .returned (.bool true) ∧ w' = wr.alloc O) := fun O => shows_plus a2 n 2 c2 m1 _ hn (by omega) (ints_grown i2 (World.grownBy_alloc wr O none) (by simp))
      have HS3 : Hid (∀ O, Calls Tryd.prog 25 #[.slice a3 (n + 3) c3, .int .i64 ((n : Int) + 3), .int .i64 m1] (wr.alloc O) fun e w' => e = .returned (.bool true) ∧ w' = wr.alloc O) := fun O => shows_plus a3 n 3 c3 m1 _ hn (by omega) (ints_grown i3 (World.grownBy_alloc wr O none) (by simp))
      clear i0 i1 i2 i3
      go_wp2_with (first
        | (go_at_call 25; refine (HS0.out _).mono ?_; rintro e u ⟨rfl, hu⟩; subst u; clear HS0)
        | (go_at_call 25; refine (HS1.out _).mono ?_; rintro e u ⟨rfl, hu⟩; subst u; clear HS1)
        | (go_at_call 25; refine (HS2.out _).mono ?_; rintro e u ⟨rfl, hu⟩; subst u; clear HS2)
        | (go_at_call 25; refine (HS3.out _).mono ?_; rintro e u ⟨rfl, hu⟩; subst u; clear HS3))
      go_roundw
      case rel => exact ⟨(.inr (.inr rfl)), grown_trans HG.out (World.grownBy_alloc wr _ none)⟩
      case measure => simp [intOf]
    · have z0 : wr.cell? ⟨B, 0, none⟩ = some (.slice (some ⟨b, 0, none⟩) 2 c) := HG.out.cell x0 (by simp)
      have z1 : wr.cell? ⟨B, 1, none⟩ = some (.slice none 0 0) := HG.out.cell x1 (by simp)
      go_wp2
      go_loopw [9] (fun iv wr' => iv = .int .i64 0 ∧ wr' = wr) (fun _ _ => 0)
      case atStart => exact ⟨rfl, rfl⟩
      case round =>
        obtain ⟨rfl, hwr⟩ := hrel
        rw [hwr]
        go_wp2
        go_ret
        exact ⟨rfl, HG.out.os, HG.out.tape, HG.out.output, HG.out.size, fun k hk => HG.out.block k hk (by simp)⟩
end Go.Proofs.YtlncjgnomhpjnaaDoor
