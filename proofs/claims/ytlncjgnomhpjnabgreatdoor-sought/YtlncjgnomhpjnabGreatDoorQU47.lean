import Derived.Test.YtlncjgnomhpjnabGreatDoorQU31
import Derived.Test.YtlncjgnomhpjnabGreatDoorQU46
/-
  'reelkeep' holds lists against each other: same, sameAll, tells.
-/
namespace Go.Proofs.YtlncjgnomhpjnabGreatDoor
open Go.RowKit Go.Deep
set_option linter.unusedVariables false
theorem bl_drewK {B : Nat} {a b : World} (h : Below B a b) (n : Nat) : Below B a (b.drewN n) := ⟨h.os, h.tape, h.output, h.size, h.block⟩
/-- lists, as they are read -/
def ViewL (u : World) (v : Value) (n nn : Nat) (H : Nat → Nat → Int) : Prop :=
  ∃ (g c : Nat) (A : Nat → Option Addr) (C : Nat → Nat), v = .slice (some ⟨g, 0, none⟩) n c ∧ g < u.heap.size ∧ (∀ i, i < n → u.cell? ⟨g, i, none⟩ = some (.slice (A i) nn (C i))) ∧ (∀ i, i < n → IntsAt u (A i) nn (H i)) ∧ ∀ i, i < n → ∀ x, A i = some x → 0 < nn → x.block < u.heap.size
theorem ViewL.below {u u' : World} {v : Value} {n nn : Nat} {H : Nat → Nat → Int} (h : ViewL u v n nn H) (hb : Below u.heap.size u u') : ViewL u' v n nn H := by
  obtain ⟨g, c, A, C, h1, h2, h3, h4, h5⟩ := h
  exact ⟨g, c, A, C, h1, Nat.lt_of_lt_of_le h2 hb.size, fun i hi => (hb.cell (p := ⟨g, i, none⟩) h2).trans (h3 i hi), fun i hi => (h4 i hi).below hb (h5 i hi), fun i hi x hx h0 => Nat.lt_of_lt_of_le (h5 i hi x hx h0) hb.size⟩
theorem ViewL.ext {u : World} {v : Value} {n nn : Nat} {H H' : Nat → Nat → Int} (h : ViewL u v n nn H) (he : ∀ i, i < n → ∀ j, j < nn → H i j = H' i j) : ViewL u v n nn H' := by
  obtain ⟨g, c, A, C, h1, h2, h3, h4, h5⟩ := h
  refine ⟨g, c, A, C, h1, h2, h3, fun i hi j hj => ?_, h5⟩
  obtain ⟨x, hx, hc⟩ := h4 i hi j hj
  exact ⟨x, hx, by rw [hc, he i hi j hj]⟩
theorem RowsL.view {base : Nat} {u : World} {v : Value} {n nn : Nat} {H : Nat → Nat → Int} (h : RowsL base u v n nn H) : ViewL u v n nn H := by
  obtain ⟨g, A, C, h1, h2, h3, h4, h5⟩ := h.open
  refine ⟨g, n, A, C, h1, h2, fun i hi => ?_, h4, h5.2⟩
  obtain ⟨x, hx, hc⟩ := h3 i hi
  cases hx
  rw [Addr.add_lit, Nat.zero_add] at hc
  exact hc
theorem AccI.view {base : Nat} {u : World} {lv : Value} {nn n : Nat} {gs : Nat → Nat} {G : Nat → Nat → Int} (h : AccI base u lv nn n gs G) (hn : 1 ≤ n) : ViewL u lv n nn G := by
  obtain ⟨g, c, rfl, h1, h2, h3⟩ := h.open hn
  exact ⟨g, c, fun i => some ⟨gs i, 0, none⟩, fun _ => nn, rfl, h2, h3, fun i hi => row_cut (h.rows i hi), fun i hi x hx _ => by cases hx; exact (h.rows i hi).lt⟩
set_option maxHeartbeats 1000000 in
theorem ksameL_any (a a' : Option Addr) (n c c' : Nat) (x : Nat → Int) (w : World) (hn : n ≤ 1000000) (h1 : IntsAt w a n x) (h2 : IntsAt w a' n x) :
    Calls Tryz.prog 38 #[.slice a n c, .slice a' n c'] w fun e w' => e = .returned (.bool true) ∧ ∃ m, w' = w.drewN m := by
  have H1 := Hid.mk' h1
  have H2 := Hid.mk' h2
  clear h1 h2
  go_enter Tryz.func38, Tryz.ntmps38
  go_wp2
  go_loopw [5] (fun i wr => ∃ k : Nat, k ≤ n ∧ i = .int .i64 k ∧ ∃ m, wr = w.drewN m) (fun i _ => n - (intOf i).toNat)
  case atStart => exact ⟨0, Nat.zero_le _, rfl, 0, rfl⟩
  case round =>
    obtain ⟨k, hk, rfl, m, rfl⟩ := hrel
    by_cases hkn : k < n
    · obtain ⟨b1, o1, hx1, hc1⟩ := H1.out.open (by omega)
      obtain ⟨b2, o2, hx2, hc2⟩ := H2.out.open (by omega)
      cases hx1
      cases hx2
      have hd1 := hc1 k hkn
      have hd2 := hc2 k hkn
      clear hc1 hc2
      go_wp2
      go_region
      all_goals go_wp2
      go_roundw
      case rel => exact ⟨k + 1, by omega, by go_num, _, rfl⟩
      case measure => simp [intOf]; omega
    · have e : k = n := by omega
      subst e
      go_wp2
      go_ret
      exact ⟨rfl, _, rfl⟩
set_option maxHeartbeats 1000000 in
theorem ksameAll_any (v v' : Value) (n nn : Nat) (H : Nat → Nat → Int) (w : World) (hn : n ≤ 1000000) (hnn : nn ≤ 1000000) (h : ViewL w v n nn H) (h' : ViewL w v' n nn H) :
    Calls Tryz.prog 15 #[v, v'] w fun e w' => e = .returned (.bool true) ∧ Below w.heap.size w w' := by
  obtain ⟨g, c, A, C, rfl, hl, hA, hI, hlow⟩ := h
  obtain ⟨g', c', A', C', rfl, hl', hA', hI', hlow'⟩ := h'
  have HC := Hid.mk' hA
  have HC' := Hid.mk' hA'
  have HR := Hid.mk' (And.intro hI hlow)
  have HR' := Hid.mk' (And.intro hI' hlow')
  clear hA hA' hI hI' hlow hlow'
  go_enter Tryz.func15, Tryz.ntmps15
  go_wp2
  go_loopw [4, 5, 6] (fun _ iv _ wr => ∃ i : Nat, i ≤ n ∧ iv = .int .i64 i ∧ Hid (Below w.heap.size w wr)) (fun _ iv _ _ => n - (intOf iv).toNat)
  case atStart => exact ⟨0, Nat.zero_le _, rfl, Below.refl _ _⟩
  case round =>
    obtain ⟨i, hi, rfl, HB⟩ := hrel
    by_cases hlt : i < n
    · have k0 : wr.cell? ⟨g, i, none⟩ = some (.slice (A i) nn (C i)) := (HB.out.cell (p := ⟨g, i, none⟩) hl).trans (HC.out i hlt)
      have k1 : wr.cell? ⟨g', i, none⟩ = some (.slice (A' i) nn (C' i)) := (HB.out.cell (p := ⟨g', i, none⟩) hl').trans (HC'.out i hlt)
      have hS0 : wr.drew.cell? ⟨g, i, none⟩ = some (.slice (A i) nn (C i)) ∧ wr.drew.cell? ⟨g', i, none⟩ = some (.slice (A' i) nn (C' i)) := ⟨k0, k1⟩
      have HSM := Hid.mk' (ksameL_any (A i) (A' i) nn (C i) (C' i) (H i) wr.drew hnn ((HR.out.1 i hlt).below HB.out.drew (HR.out.2 i hlt)) ((HR'.out.1 i hlt).below HB.out.drew (HR'.out.2 i hlt)))
      go_wp2_with fail
      go_region_held3 (fun w' => w'.cell? ⟨g, i, none⟩ = some (.slice (A i) nn (C i)) ∧ w'.cell? ⟨g', i, none⟩ = some (.slice (A' i) nn (C' i)))
        (with_reducible assumption)
        (first
        | (go_at_call 38; refine HSM.out.mono ?_; rintro e u1 ⟨rfl, m, hu⟩; have hS1 : u1.cell? ⟨g, i, none⟩ = some (.slice (A i) nn (C i)) ∧ u1.cell? ⟨g', i, none⟩ = some (.slice (A' i) nn (C' i)) := (by rw [hu]; exact ⟨k0, k1⟩); have HB1 : Hid (Below w.heap.size w u1) := (by rw [hu]; exact bl_drewK HB.out.drew m); clear HSM hu hS0))
      clear hS1
      go_wp2
      go_roundw
      case rel => exact ⟨i + 1, by omega, by go_num, HB1.out⟩
      case measure => simp [intOf]; omega
    · have e : i = n := by omega
      subst e
      go_wp2
      go_ret
      exact ⟨rfl, HB.out⟩
end Go.Proofs.YtlncjgnomhpjnabGreatDoor

