import Derived.Test.YtlncjgnomhpjnaaGreatDoorPS32
import Derived.Test.YtlncjgnomhpjnaaGreatDoorPS4
import Derived.Test.YtlncjgnomhpjnaaGreatDoorPS34
import Derived.Test.YtlncjgnomhpjnaaGreatDoorPS15
import Derived.Test.YtlncjgnomhpjnaaGreatDoorPS16
import Derived.Test.YtlncjgnomhpjnaaGreatDoorPS21
import Derived.Test.YtlncjgnomhpjnaaGreatDoorPS49
import Derived.Deep.RegionHeld3
import Derived.Deep.DeepCutAuto
import Derived.Test.YtlncjgnomhpjnaaGreatDoorPS17
/-
  'reelkeep' holds lists against each other: same, sameAll, tells.
-/
namespace Go.Proofs.YtlncjgnomhpjnaaGreatDoor
open Go.RowKit Go.Deep
set_option linter.unusedVariables false
/-- lists, as they are read -/
def ViewL (u : World) (v : Value) (n nn : Nat) (H : Nat → Nat → Int) : Prop :=
  ∃ (g c : Nat) (A : Nat → Option Addr) (C : Nat → Nat), v = .slice (some ⟨g, 0, none⟩) n c ∧ g < u.heap.size ∧ (∀ i, i < n → u.cell? ⟨g, i, none⟩ = some (.slice (A i) nn (C i))) ∧ (∀ i, i < n → IntsAt u (A i) nn (H i)) ∧ ∀ i, i < n → ∀ x, A i = some x → 0 < nn → x.block < u.heap.size
theorem ViewL.below {u u' : World} {v : Value} {n nn : Nat} {H : Nat → Nat → Int} (h : ViewL u v n nn H) (hb : Below u.heap.size u u') : ViewL u' v n nn H := by
  obtain ⟨g, c, A, C, h1, h2, h3, h4, h5⟩ := h
  exact ⟨g, c, A, C, h1, Nat.lt_of_lt_of_le h2 hb.size, fun i hi => (hb.cell (p := ⟨g, i, none⟩) h2).trans (h3 i hi), fun i hi => (h4 i hi).below hb (h5 i hi), fun i hi x hx h0 => Nat.lt_of_lt_of_le (h5 i hi x hx h0) hb.size⟩
theorem ViewL.ext {u : World} {v : Value} {n nn : Nat} {H H' : Nat → Nat → Int} (h : ViewL u v n nn H) (he : ∀ i, i < n → ∀ j, j < nn → H i j = H' i j) : ViewL u v n nn H' := by
  obtain ⟨g, c, A, C, h1, h2, h3, h4, h5⟩ := h
  refine ⟨g, c, A, C, h1, h2, h3, fun i hi j hj => ?_, h5⟩
  obtain ⟨x, hx, hc⟩ := h4 i hi j hj
  exact ⟨x, hx, by rw [hc, he i hi j hj]⟩
theorem RowsL.view {base : Nat} {u : World} {v : Value} {n nn : Nat} {H : Nat → Nat → Int} (h : RowsL base u v n nn H) : ViewL u v n nn H := by
  obtain ⟨g, A, C, h1, h2, h3, h4, h5⟩ := h.open
  refine ⟨g, n, A, C, h1, h2, fun i hi => ?_, h4, h5.2⟩
  obtain ⟨x, hx, hc⟩ := h3 i hi
  cases hx
  rw [Addr.add_lit, Nat.zero_add] at hc
  exact hc
theorem AccI.view {base : Nat} {u : World} {lv : Value} {nn n : Nat} {gs : Nat → Nat} {G : Nat → Nat → Int} (h : AccI base u lv nn n gs G) (hn : 1 ≤ n) : ViewL u lv n nn G := by
  obtain ⟨g, c, rfl, h1, h2, h3⟩ := h.open hn
  exact ⟨g, c, fun i => some ⟨gs i, 0, none⟩, fun _ => nn, rfl, h2, h3, fun i hi => row_cut (h.rows i hi), fun i hi x hx _ => by cases hx; exact (h.rows i hi).lt⟩
set_option maxHeartbeats 1000000 in
theorem ksameL_any (a a' : Option Addr) (n c c' : Nat) (x : Nat → Int) (w : World) (hn : n ≤ 1000000) (h1 : IntsAt w a n x) (h2 : IntsAt w a' n x) :
    Calls Tryz.prog 58 #[.slice a n c, .slice a' n c'] w fun e w' => e = .returned (.bool true) ∧ ∃ m, w' = w.drewN m := by
  have H1 := Hid.mk' h1
  have H2 := Hid.mk' h2
  clear h1 h2
  go_enter Tryz.func58, Tryz.ntmps58
  go_wp2
  go_loopw [5] (fun i wr => ∃ k : Nat, k ≤ n ∧ i = .int .i64 k ∧ ∃ m, wr = w.drewN m) (fun i _ => n - (intOf i).toNat)
  case atStart => exact ⟨0, Nat.zero_le _, rfl, 0, rfl⟩
  case round =>
    obtain ⟨k, hk, rfl, m, rfl⟩ := hrel
    by_cases hkn : k < n
    · obtain ⟨b1, o1, hx1, hc1⟩ := H1.out.open (by omega)
      obtain ⟨b2, o2, hx2, hc2⟩ := H2.out.open (by omega)
      cases hx1
      cases hx2
      have hd1 := hc1 k hkn
      have hd2 := hc2 k hkn
      clear hc1 hc2
      go_wp2
      go_region
      all_goals go_wp2
      go_roundw
      case rel => exact ⟨k + 1, by omega, by go_num, _, rfl⟩
      case measure => simp [intOf]; omega
    · have e : k = n := by omega
      subst e
      go_wp2
      go_ret
      exact ⟨rfl, _, rfl⟩
set_option maxHeartbeats 1000000 in
theorem ksameAll_any (v v' : Value) (n nn : Nat) (H : Nat → Nat → Int) (w : World) (hn : n ≤ 1000000) (hnn : nn ≤ 1000000) (h : ViewL w v n nn H) (h' : ViewL w v' n nn H) :
    Calls Tryz.prog 31 #[v, v'] w fun e w' => e = .returned (.bool true) ∧ Below w.heap.size w w' := by
  obtain ⟨g, c, A, C, rfl, hl, hA, hI, hlow⟩ := h
  obtain ⟨g', c', A', C', rfl, hl', hA', hI', hlow'⟩ := h'
  have HC := Hid.mk' hA
  have HC' := Hid.mk' hA'
  have HR := Hid.mk' (And.intro hI hlow)
  have HR' := Hid.mk' (And.intro hI' hlow')
  clear hA hA' hI hI' hlow hlow'
  go_enter Tryz.func31, Tryz.ntmps31
  go_wp2
  go_loopw [4, 5, 6] (fun _ iv _ wr => ∃ i : Nat, i ≤ n ∧ iv = .int .i64 i ∧ Hid (Below w.heap.size w wr)) (fun _ iv _ _ => n - (intOf iv).toNat)
  case atStart => exact ⟨0, Nat.zero_le _, rfl, Below.refl _ _⟩
  case round =>
    obtain ⟨i, hi, rfl, HB⟩ := hrel
    by_cases hlt : i < n
    · have k0 : wr.cell? ⟨g, i, none⟩ = some (.slice (A i) nn (C i)) := (HB.out.cell (p := ⟨g, i, none⟩) hl).trans (HC.out i hlt)
      have k1 : wr.cell? ⟨g', i, none⟩ = some (.slice (A' i) nn (C' i)) := (HB.out.cell (p := ⟨g', i, none⟩) hl').trans (HC'.out i hlt)
      have hS0 : wr.drew.cell? ⟨g, i, none⟩ = some (.slice (A i) nn (C i)) ∧ wr.drew.cell? ⟨g', i, none⟩ = some (.slice (A' i) nn (C' i)) := ⟨k0, k1⟩
      have HSM := Hid.mk' (ksameL_any (A i) (A' i) nn (C i) (C' i) (H i) wr.drew hnn ((HR.out.1 i hlt).below HB.out.drew (HR.out.2 i hlt)) ((HR'.out.1 i hlt).below HB.out.drew (HR'.out.2 i hlt)))
      go_wp2_with fail
      go_region_held3 (fun w' => w'.cell? ⟨g, i, none⟩ = some (.slice (A i) nn (C i)) ∧ w'.cell? ⟨g', i, none⟩ = some (.slice (A' i) nn (C' i)))
        (with_reducible assumption)
        (first
        | (go_at_call 58; refine HSM.out.mono ?_; rintro e u1 ⟨rfl, m, hu⟩; have hS1 : u1.cell? ⟨g, i, none⟩ = some (.slice (A i) nn (C i)) ∧ u1.cell? ⟨g', i, none⟩ = some (.slice (A' i) nn (C' i)) := (by rw [hu]; exact ⟨k0, k1⟩); have HB1 : Hid (Below w.heap.size w u1) := (by rw [hu]; exact bl_drewN HB.out.drew m); clear HSM hu hS0))
      clear hS1
      go_wp2
      go_roundw
      case rel => exact ⟨i + 1, by omega, by go_num, HB1.out⟩
      case measure => simp [intOf]; omega
    · have e : i = n := by omega
      subst e
      go_wp2
      go_ret
      exact ⟨rfl, HB.out⟩
set_option maxRecDepth 4000 in
set_option maxHeartbeats 2000000 in
theorem tells_any (n d B c3 c4 S c5 c6 c7 : Int) (lv : Value) (nl nn : Nat) (H : Nat → Nat → Int) (w : World) (hn : 1 ≤ nl) (hS : S = nn) (h : ViewL w lv nl nn H) :
    Calls Tryz.prog 32 #[.agg #[.int .i64 n, .int .i64 d, .int .i64 B, .int .i64 c3, .int .i64 c4, .int .i64 S], .agg #[.int .i64 n, .int .i64 d, .int .i64 B, .int .i64 c3, .int .i64 c4, .int .i64 c5, .int .i64 c6, .int .i64 c7], lv] w fun e w' => e = .returned (.bool true) ∧ Below w.heap.size w w' := by
  subst hS
  have hb : Below w.heap.size w ((w.alloc (.cells #[.int .i64 n, .int .i64 d, .int .i64 B, .int .i64 c3, .int .i64 c4, .int .i64 (nn : Int)] 46)).alloc (.cells #[.int .i64 n, .int .i64 d, .int .i64 B, .int .i64 c3, .int .i64 c4, .int .i64 c5, .int .i64 c6, .int .i64 c7] 23)) := ((Below.refl _ _).alloc (Nat.le_refl _) _).alloc (by simp) _
  have hv := h.below (hb.mono (Nat.le_refl _))
  obtain ⟨g, c, A, C, rfl, hl, hA, -, -⟩ := hv
  have h0 := hA 0 (by omega)
  have HB := Hid.mk' hb
  have hx1 : Bx ((w.alloc (.cells #[.int .i64 n, .int .i64 d, .int .i64 B, .int .i64 c3, .int .i64 c4, .int .i64 (nn : Int)] 46)).alloc (.cells #[.int .i64 n, .int .i64 d, .int .i64 B, .int .i64 c3, .int .i64 c4, .int .i64 c5, .int .i64 c6, .int .i64 c7] 23)) w.heap.size 46 #[.int .i64 n, .int .i64 d, .int .i64 B, .int .i64 c3, .int .i64 c4, .int .i64 (nn : Int)] := (Bx.new w _ _).alloc _
  have hx2 : Bx ((w.alloc (.cells #[.int .i64 n, .int .i64 d, .int .i64 B, .int .i64 c3, .int .i64 c4, .int .i64 (nn : Int)] 46)).alloc (.cells #[.int .i64 n, .int .i64 d, .int .i64 B, .int .i64 c3, .int .i64 c4, .int .i64 c5, .int .i64 c6, .int .i64 c7] 23)) (w.heap.size + 1) 23 #[.int .i64 n, .int .i64 d, .int .i64 B, .int .i64 c3, .int .i64 c4, .int .i64 c5, .int .i64 c6, .int .i64 c7] := Bx.new2 (by simp) _ _
  have hS0 : ((w.alloc (.cells #[.int .i64 n, .int .i64 d, .int .i64 B, .int .i64 c3, .int .i64 c4, .int .i64 (nn : Int)] 46)).alloc (.cells #[.int .i64 n, .int .i64 d, .int .i64 B, .int .i64 c3, .int .i64 c4, .int .i64 c5, .int .i64 c6, .int .i64 c7] 23)).drew.cell? ⟨w.heap.size, 0, none⟩ = some (.int .i64 n) ∧ ((w.alloc (.cells #[.int .i64 n, .int .i64 d, .int .i64 B, .int .i64 c3, .int .i64 c4, .int .i64 (nn : Int)] 46)).alloc (.cells #[.int .i64 n, .int .i64 d, .int .i64 B, .int .i64 c3, .int .i64 c4, .int .i64 c5, .int .i64 c6, .int .i64 c7] 23)).drew.cell? ⟨w.heap.size, 1, none⟩ = some (.int .i64 d) ∧ ((w.alloc (.cells #[.int .i64 n, .int .i64 d, .int .i64 B, .int .i64 c3, .int .i64 c4, .int .i64 (nn : Int)] 46)).alloc (.cells #[.int .i64 n, .int .i64 d, .int .i64 B, .int .i64 c3, .int .i64 c4, .int .i64 c5, .int .i64 c6, .int .i64 c7] 23)).drew.cell? ⟨w.heap.size, 2, none⟩ = some (.int .i64 B) ∧ ((w.alloc (.cells #[.int .i64 n, .int .i64 d, .int .i64 B, .int .i64 c3, .int .i64 c4, .int .i64 (nn : Int)] 46)).alloc (.cells #[.int .i64 n, .int .i64 d, .int .i64 B, .int .i64 c3, .int .i64 c4, .int .i64 c5, .int .i64 c6, .int .i64 c7] 23)).drew.cell? ⟨w.heap.size, 3, none⟩ = some (.int .i64 c3) ∧ ((w.alloc (.cells #[.int .i64 n, .int .i64 d, .int .i64 B, .int .i64 c3, .int .i64 c4, .int .i64 (nn : Int)] 46)).alloc (.cells #[.int .i64 n, .int .i64 d, .int .i64 B, .int .i64 c3, .int .i64 c4, .int .i64 c5, .int .i64 c6, .int .i64 c7] 23)).drew.cell? ⟨w.heap.size, 4, none⟩ = some (.int .i64 c4) ∧ ((w.alloc (.cells #[.int .i64 n, .int .i64 d, .int .i64 B, .int .i64 c3, .int .i64 c4, .int .i64 (nn : Int)] 46)).alloc (.cells #[.int .i64 n, .int .i64 d, .int .i64 B, .int .i64 c3, .int .i64 c4, .int .i64 c5, .int .i64 c6, .int .i64 c7] 23)).drew.cell? ⟨w.heap.size, 5, none⟩ = some (.int .i64 (nn : Int)) ∧ ((w.alloc (.cells #[.int .i64 n, .int .i64 d, .int .i64 B, .int .i64 c3, .int .i64 c4, .int .i64 (nn : Int)] 46)).alloc (.cells #[.int .i64 n, .int .i64 d, .int .i64 B, .int .i64 c3, .int .i64 c4, .int .i64 c5, .int .i64 c6, .int .i64 c7] 23)).drew.cell? ⟨w.heap.size + 1, 0, none⟩ = some (.int .i64 n) ∧ ((w.alloc (.cells #[.int .i64 n, .int .i64 d, .int .i64 B, .int .i64 c3, .int .i64 c4, .int .i64 (nn : Int)] 46)).alloc (.cells #[.int .i64 n, .int .i64 d, .int .i64 B, .int .i64 c3, .int .i64 c4, .int .i64 c5, .int .i64 c6, .int .i64 c7] 23)).drew.cell? ⟨w.heap.size + 1, 1, none⟩ = some (.int .i64 d) ∧ ((w.alloc (.cells #[.int .i64 n, .int .i64 d, .int .i64 B, .int .i64 c3, .int .i64 c4, .int .i64 (nn : Int)] 46)).alloc (.cells #[.int .i64 n, .int .i64 d, .int .i64 B, .int .i64 c3, .int .i64 c4, .int .i64 c5, .int .i64 c6, .int .i64 c7] 23)).drew.cell? ⟨w.heap.size + 1, 2, none⟩ = some (.int .i64 B) ∧ ((w.alloc (.cells #[.int .i64 n, .int .i64 d, .int .i64 B, .int .i64 c3, .int .i64 c4, .int .i64 (nn : Int)] 46)).alloc (.cells #[.int .i64 n, .int .i64 d, .int .i64 B, .int .i64 c3, .int .i64 c4, .int .i64 c5, .int .i64 c6, .int .i64 c7] 23)).drew.cell? ⟨w.heap.size + 1, 3, none⟩ = some (.int .i64 c3) ∧ ((w.alloc (.cells #[.int .i64 n, .int .i64 d, .int .i64 B, .int .i64 c3, .int .i64 c4, .int .i64 (nn : Int)] 46)).alloc (.cells #[.int .i64 n, .int .i64 d, .int .i64 B, .int .i64 c3, .int .i64 c4, .int .i64 c5, .int .i64 c6, .int .i64 c7] 23)).drew.cell? ⟨w.heap.size + 1, 4, none⟩ = some (.int .i64 c4) ∧ ((w.alloc (.cells #[.int .i64 n, .int .i64 d, .int .i64 B, .int .i64 c3, .int .i64 c4, .int .i64 (nn : Int)] 46)).alloc (.cells #[.int .i64 n, .int .i64 d, .int .i64 B, .int .i64 c3, .int .i64 c4, .int .i64 c5, .int .i64 c6, .int .i64 c7] 23)).drew.cell? ⟨g, 0, none⟩ = some (.slice (A 0) nn (C 0)) := ⟨hx1.cell 0, hx1.cell 1, hx1.cell 2, hx1.cell 3, hx1.cell 4, hx1.cell 5, hx2.cell 0, hx2.cell 1, hx2.cell 2, hx2.cell 3, hx2.cell 4, h0⟩
  clear hA hb h hx1 hx2
  generalize A 0 = A0 at *
  generalize C 0 = C0 at *
  have hn0 : 0 < nl := hn
  have hn2 : (0 : Int) < (nl : Int) := by omega
  go_enter Tryz.func32, Tryz.ntmps32
  go_wp2_with fail
  go_region_held3 (fun w' => w'.cell? ⟨w.heap.size, 0, none⟩ = some (.int .i64 n) ∧ w'.cell? ⟨w.heap.size, 1, none⟩ = some (.int .i64 d) ∧ w'.cell? ⟨w.heap.size, 2, none⟩ = some (.int .i64 B) ∧ w'.cell? ⟨w.heap.size, 3, none⟩ = some (.int .i64 c3) ∧ w'.cell? ⟨w.heap.size, 4, none⟩ = some (.int .i64 c4) ∧ w'.cell? ⟨w.heap.size, 5, none⟩ = some (.int .i64 (nn : Int)) ∧ w'.cell? ⟨w.heap.size + 1, 0, none⟩ = some (.int .i64 n) ∧ w'.cell? ⟨w.heap.size + 1, 1, none⟩ = some (.int .i64 d) ∧ w'.cell? ⟨w.heap.size + 1, 2, none⟩ = some (.int .i64 B) ∧ w'.cell? ⟨w.heap.size + 1, 3, none⟩ = some (.int .i64 c3) ∧ w'.cell? ⟨w.heap.size + 1, 4, none⟩ = some (.int .i64 c4) ∧ w'.cell? ⟨g, 0, none⟩ = some (.slice A0 nn C0)) (with_reducible exact hS0) (fail)
  go_wp2_with fail
  go_ret
  exact ⟨rfl, HB.out.drew⟩
end Go.Proofs.YtlncjgnomhpjnaaGreatDoor

/-
  A head that is made of what was read, as a text.
-/
namespace Go.Proofs.YtlncjgnomhpjnaaGreatDoor
open Go.RowKit Go.Deep
set_option linter.unusedVariables false
theorem pnt_mem {ln : Nat → Nat} {seek : Nat} : ∀ (k p : Nat), p ∈ pntN ln seek k → ∃ i, i < k ∧ p = atN ln i
  | 0, p, h => by simp [pntN] at h
  | k + 1, p, h => by
    unfold pntN at h
    split at h
    · rcases List.mem_append.1 h with h1 | h1
      · obtain ⟨i, hi, e⟩ := pnt_mem k p h1
        exact ⟨i, by omega, e⟩
      · simp at h1
        exact ⟨k, by omega, h1⟩
    · obtain ⟨i, hi, e⟩ := pnt_mem k p h
      exact ⟨i, by omega, e⟩
end Go.Proofs.YtlncjgnomhpjnaaGreatDoor

/-
  A frame that was made is read as its samples.
-/
namespace Go.Proofs.YtlncjgnomhpjnaaGreatDoor
open Go.RowKit Go.Deep
set_option linter.unusedVariables false
/-- a subframe anywhere is read as its samples -/
theorem sub_at {b : Nat → Bool} {N o width n : Nat} {l : Nat → Int} (hn1 : 1 ≤ n) (hw1 : 1 ≤ width) (hw : width ≤ 13) (hfit : ∀ j, j < n → fitsB width (l j) = true) (hT : SaysT b o (subT width l n)) (hL : o + (subT width l n).length ≤ N) :
    ∃ x, readAt b N o width n = some (x, o + (subT width l n).length) ∧ ∀ j, j < n → x j = l j := by
  obtain ⟨r, h1, h2, h3⟩ := sub_back (b := shB b o) (N := N - o) hn1 hw1 hw hfit (fun i hi => by
    have := hT i hi
    rw [this]
    unfold shB
    rw [Nat.zero_add]) (by omega)
  refine ⟨r.1, ?_, h3⟩
  rw [readAt_sh (by omega), h1, ← h2]
  rfl
/-- subframes one behind the other -/
def catS (d n m N : Nat) (l : Nat → Nat → Int) : Nat → List UInt8
  | 0 => []
  | i + 1 => catS d n m N l i ++ subT (widN d n m i) (l i) N
theorem subs_back {b : Nat → Bool} {M d n m N : Nat} {l : Nat → Nat → Int} (hN : 1 ≤ N) (hd1 : 1 ≤ d) (hd : d ≤ 12) : ∀ i, (∀ k, k < i → ∀ j, j < N → fitsB (widN d n m k) (l k j) = true) → SaysT b 0 (catS d n m N l i) → (catS d n m N l i).length ≤ M →
    ∃ G, subsAt b M d n m N i = some (G, (catS d n m N l i).length) ∧ ∀ k, k < i → ∀ j, j < N → G k j = l k j
  | 0, _, _, _ => ⟨_, rfl, fun k hk => absurd hk (Nat.not_lt_zero k)⟩
  | i + 1, hf, hT, hM => by
    have hM' : (catS d n m N l i).length + (subT (widN d n m i) (l i) N).length ≤ M := by
      have : (catS d n m N l (i + 1)).length = (catS d n m N l i).length + (subT (widN d n m i) (l i) N).length := List.length_append
      omega
    obtain ⟨G, h1, h2⟩ := subs_back (b := b) (M := M) (n := n) (m := m) (l := l) hN hd1 hd i (fun k hk => hf k (by omega)) hT.left (by omega)
    have hw := widN_bd (n := n) (m := m) (i := i) hd1 hd
    have hR : SaysT b (catS d n m N l i).length (subT (widN d n m i) (l i) N) := by
      have := SaysT.right (T := catS d n m N l i) hT
      rwa [Nat.zero_add] at this
    obtain ⟨x, h3, h4⟩ := sub_at hN hw.1 hw.2 (hf i (by omega)) hR hM'
    refine ⟨upd2 G i x, ?_, fun k hk j hj => ?_⟩
    · unfold subsAt
      rw [h1]
      show Option.map _ (readAt b M (catS d n m N l i).length (widN d n m i) N) = _
      rw [h3]
      have e : (catS d n m N l (i + 1)).length = (catS d n m N l i).length + (subT (widN d n m i) (l i) N).length := List.length_append
      rw [e]
      rfl
    · unfold upd2
      by_cases e : k = i
      · rw [if_pos e, e]; exact h4 j hj
      · rw [if_neg e]; exact h2 k (by omega) j hj
/-- what the subframes of a block tell -/
def toldL (n m : Nat) (F : Nat → Nat → Int) (i : Nat) : Nat → Int := if n = 2 then (if i = 0 then l1 (F 0) (F 1) m else l2 (F 0) (F 1) m) else F i
theorem allT_cat {d n m N : Nat} {F : Nat → Nat → Int} (hn : n ≠ 2) : ∀ i, catS d n m N (toldL n m F) i = allT d F N i
  | 0 => rfl
  | i + 1 => by
    show catS d n m N (toldL n m F) i ++ _ = allT d F N i ++ _
    rw [allT_cat hn i]
    unfold widN toldL
    rw [if_neg hn, if_neg hn]
theorem blockT_cat (d n : Nat) (F : Nat → Nat → Int) (N : Nat) : blockT d n F N = catS d n (modeN d n F N) N (toldL n (modeN d n F N) F) n := by
  unfold blockT
  by_cases h : n = 2
  · rw [if_pos h, pairT_eq _ _ _ _ _ (modeN_lt d n F N)]
    generalize modeN d n F N = m
    subst h
    rfl
  · rw [if_neg h, allT_cat h]
theorem told_fits {d n m N : Nat} {F : Nat → Nat → Int} (hd1 : 1 ≤ d) (hm : m < 4) (hn : n ≤ 4) (hF : ∀ i, i < n → ∀ j, j < N → fitsB d (F i j) = true) : ∀ i, i < n → ∀ j, j < N → fitsB (widN d n m i) (toldL n m F i j) = true := fun i hi j hj => by
  unfold widN toldL
  by_cases h : n = 2
  · subst h
    have f0 := hF 0 (by omega) j hj
    have f1 := hF 1 (by omega) j hj
    have fs := side_fits hd1 f0 f1
    have fm := mid_fits f0 f1
    rw [if_pos rfl, if_pos rfl]
    by_cases e : i = 0
    · rw [if_pos e, if_pos e]
      match m, hm with
      | 0, _ => exact f0
      | 1, _ => exact f0
      | 2, _ => exact fs
      | 3, _ => exact fm
    · rw [if_neg e, if_neg e]
      match m, hm with
      | 0, _ => exact f1
      | 1, _ => exact fs
      | 2, _ => exact f1
      | 3, _ => exact fs
  · rw [if_neg h, if_neg h]
    exact hF i hi j hj
/-- and they tell the samples -/
theorem un_told {n m : Nat} {F G : Nat → Nat → Int} {i j : Nat} (hm : m < 4) (hi : i < n) (hG : ∀ k, k < n → G k j = toldL n m F k j) : unG n m G i j = F i j := by
  unfold unG
  by_cases h : n = 2
  · subst h
    have e0 := hG 0 (by omega)
    have e1 := hG 1 (by omega)
    unfold toldL at e0 e1
    rw [if_pos rfl, if_pos rfl] at e0
    rw [if_pos rfl, if_neg (by omega)] at e1
    have hii : i = 0 ∨ i = 1 := by omega
    rw [if_pos rfl, e0, e1]
    match m, hm with
    | 0, _ => rcases hii with rfl | rfl <;> rfl
    | 1, _ =>
      rcases hii with rfl | rfl
      · rfl
      · show F 0 j - (F 0 j - F 1 j) = _; omega
    | 2, _ =>
      rcases hii with rfl | rfl
      · show F 0 j - F 1 j + F 1 j = _; omega
      · rfl
    | 3, _ =>
      rcases hii with rfl | rfl
      · show (F 0 j + F 1 j) / 2 + (F 0 j - F 1 j + 1) / 2 = _; omega
      · show (F 0 j + F 1 j) / 2 + (F 0 j - F 1 j + 1) / 2 - (F 0 j - F 1 j) = _; omega
  · rw [if_neg h]
    have := hG i hi
    unfold toldL at this
    rwa [if_neg h] at this
/-- the bits of a packed text -/
theorem msgBit_pack (t : List UInt8) (j : Nat) : msgBit (packT t) j = (decide (j < t.length) && tbit t j) := by
  unfold msgBit
  have hdm : 8 * (j / 8) + j % 8 = j := by omega
  by_cases h : j / 8 < (t.length + 7) / 8
  · have e : (packT t).getD (j / 8) 0 = pkB t (j / 8) := by
      unfold packT
      rw [List.getD_eq_getElem?_getD, List.getElem?_map, List.getElem?_range h]
      rfl
    rw [e, pkB_nat, pkN_bit]
    have e2 : 8 * (j / 8) + (7 - (7 - j % 8)) = j := by omega
    rw [e2, decide_eq_true (show 7 - j % 8 < 8 by omega), Bool.true_and]
  · have e : (packT t).getD (j / 8) 0 = 0 := by
      rw [List.getD_eq_getElem?_getD, List.getElem?_eq_none (by rw [packT_length]; omega)]
      rfl
    rw [e, decide_eq_false (show ¬ j < t.length by omega)]
    simp
theorem says_pack {t : List UInt8} (h : AllB t) : SaysT (msgBit (packT t)) 0 t := fun i hi => by
  rw [Nat.zero_add, msgBit_pack, decide_eq_true hi, Bool.true_and]
  exact tbit_get h i hi
/-- the inside of a frame that was made -/
theorem ins_back {d n N : Nat} {F : Nat → Nat → Int} (hN : 1 ≤ N) (hd1 : 1 ≤ d) (hd : d ≤ 12) (hn : n ≤ 4) (hF : ∀ i, i < n → ∀ j, j < N → fitsB d (F i j) = true) :
    ∃ H, InsP (spellTo (packT (blockT d n F N)) (packT (blockT d n F N)).length) (msgBit (packT (blockT d n F N))) d n (modeN d n F N) N H ∧ ∀ i, i < n → ∀ j, j < N → H i j = F i j := by
  have hm := modeN_lt d n F N
  have hbt := blockT_cat d n F N
  have hsl : (spellTo (packT (blockT d n F N)) (packT (blockT d n F N)).length).length = 8 * (((blockT d n F N).length + 7) / 8) := by
    unfold spellTo
    rw [List.length_map, List.length_range, packT_length]
  have hsays : SaysT (msgBit (packT (blockT d n F N))) 0 (blockT d n F N) := says_pack (blockT_bits d n F N)
  obtain ⟨G, h1, h2⟩ := subs_back (b := msgBit (packT (blockT d n F N))) (M := 8 * (((blockT d n F N).length + 7) / 8)) (m := modeN d n F N) (l := toldL n (modeN d n F N) F) hN hd1 hd n (told_fits hd1 hm hn hF) (by rw [← hbt]; exact hsays) (by rw [← hbt]; omega)
  rw [← hbt] at h1
  refine ⟨unG n (modeN d n F N) G, ⟨G, (blockT d n F N).length, by rw [hsl]; exact h1, ⟨?_, fun j hj => ?_⟩, fun h => ?_, rfl⟩, fun i hi j hj => un_told hm hi (fun k hk => h2 k hk j hj)⟩
  · rw [List.length_drop, hsl]; omega
  · have hj2 : (blockT d n F N).length + j < 8 * (packT (blockT d n F N)).length := by
      rw [List.length_drop, hsl] at hj
      rw [packT_length]; omega
    rw [List.getD_eq_getElem?_getD, List.getElem?_drop]
    unfold spellTo
    rw [List.getElem?_map, List.getElem?_range hj2]
    show ltr (msgBit _ _) = 48
    rw [msgBit_pack, decide_eq_false (by omega)]
    rfl
  · subst h
    intro j hj
    have e0 := un_told (F := F) (i := 0) (j := j) hm (by omega) (fun k hk => h2 k hk j hj)
    have e1 := un_told (F := F) (i := 1) (j := j) hm (by omega) (fun k hk => h2 k hk j hj)
    unfold unG at e0 e1
    rw [if_pos rfl, if_pos rfl] at e0
    rw [if_pos rfl, if_neg (by omega)] at e1
    rw [e0, e1]
    exact ⟨hF 0 (by omega) j hj, hF 1 (by omega) j hj⟩
/-- the pieces of a frame's head -/
theorem headT_pieces (number len n mode : Nat) (R : List UInt8) (h1 : number < 65536) (h2 : len < 65536) (h3 : n - 1 < 256) (h4 : mode < 256) :
    hNum (headT number len n mode ++ R) = number ∧ hLen (headT number len n mode ++ R) = len ∧ hCnt (headT number len n mode ++ R) = n - 1 ∧ hMode (headT number len n mode ++ R) = mode := by
  have hl := headT_length number len n mode
  unfold hNum hLen hCnt hMode
  rw [piece_left _ _ 1 3 (by omega) (by omega), piece_left _ _ 3 5 (by omega) (by omega), piece_left _ _ 5 6 (by omega) (by omega), piece_left _ _ 6 7 (by omega) (by omega)]
  unfold headT
  refine ⟨?_, ?_, ?_, ?_⟩
  · rw [piece_left _ _ 1 3 (by omega) (by simp [inT_length]), piece_left _ _ 1 3 (by omega) (by simp [inT_length]), piece_left _ _ 1 3 (by omega) (by simp [inT_length]), piece_right _ _ 1 3 (by simp [inT_length]), inT_length, piece_whole _ _ (by rw [inT_length]), valN_inT 2 _ (by omega)]
  · rw [piece_left _ _ 3 5 (by omega) (by simp [inT_length]), piece_left _ _ 3 5 (by omega) (by simp [inT_length]), piece_right _ _ 3 5 (by simp [inT_length]), List.length_append, inT_length, inT_length, piece_whole _ _ (by rw [inT_length]), valN_inT 2 _ (by omega)]
  · rw [piece_left _ _ 5 6 (by omega) (by simp [inT_length]), piece_right _ _ 5 6 (by simp [inT_length]), List.length_append, List.length_append, inT_length, inT_length, inT_length, piece_whole _ _ (by rw [inT_length]), valN_inT 1 _ (by omega)]
  · rw [piece_right _ _ 6 7 (by simp [inT_length]), List.length_append, List.length_append, List.length_append, inT_length, inT_length, inT_length, inT_length, piece_whole _ _ (by rw [inT_length]), valN_inT 1 _ (by omega)]
/-- a frame that was made, whatever stands behind it -/
theorem frame_back {d n N B number : Nat} {F : Nat → Nat → Int} (R : List UInt8) (hN : 1 ≤ N) (hNB : N ≤ B) (hB : B ≤ 32) (hd1 : 1 ≤ d) (hd : d ≤ 12) (hn1 : 1 ≤ n) (hn : n ≤ 4) (hnum : number < 65536) (hF : ∀ i, i < n → ∀ j, j < N → fitsB d (F i j) = true) :
    ∃ H, FrmP (frameT number N (modeN d n F N) (blockT d n F N) ++ R) n d B number H ∧ hCnt (frameT number N (modeN d n F N) (blockT d n F N) ++ R) + 1 = N ∧ hLen (frameT number N (modeN d n F N) (blockT d n F N) ++ R) = (frameT number N (modeN d n F N) (blockT d n F N)).length ∧ ∀ i, i < n → ∀ j, j < N → H i j = F i j := by
  have hm := modeN_lt d n F N
  have hbd := blockT_bd d n F N hN (by omega) hd hn1 hn
  obtain ⟨H, hI, hH⟩ := ins_back hN hd1 hd hn hF
  have hm2 : (modeN d n F N : Int) < modesN n := by
    unfold modesN
    by_cases h : n = 2
    · rw [if_pos (by omega)]; omega
    · rw [if_neg (by omega)]
      unfold modeN
      rw [if_neg h]
      decide
  have hpl := packT_length (blockT d n F N)
  have hfl := frameT_length number N (modeN d n F N) (blockT d n F N)
  generalize modeN d n F N = m at *
  generalize blockT d n F N = bits at *
  generalize hP : packT bits = P at *
  have hhl := headT_length number (P.length + 10) N m
  have hT : frameT number N m bits ++ R = headT number (P.length + 10) N m ++ (inT (crc 8 263 (headT number (P.length + 10) N m)) 1 ++ (P ++ (inT (crc 16 98309 (seal8 (headT number (P.length + 10) N m) ++ P)) 2 ++ R))) := by
    unfold frameT
    rw [hP]
    unfold seal16
    rw [List.append_assoc, List.append_assoc]
    unfold seal8
    rw [List.append_assoc]
  obtain ⟨p1, p2, p3, p4⟩ := headT_pieces number (P.length + 10) N m (inT (crc 8 263 (headT number (P.length + 10) N m)) 1 ++ (P ++ (inT (crc 16 98309 (seal8 (headT number (P.length + 10) N m) ++ P)) 2 ++ R))) hnum (by omega) (by omega) (by omega)
  rw [← hT] at p1 p2 p3 p4
  have t7 : (frameT number N m bits ++ R).take 7 = headT number (P.length + 10) N m := by
    rw [hT, List.take_append_of_le_length (by omega)]
    exact List.take_of_length_le (by omega)
  have t8 : (frameT number N m bits ++ R).take 8 = seal8 (headT number (P.length + 10) N m) := by
    rw [hT, ← List.append_assoc]
    rw [List.take_append_of_le_length (by rw [List.length_append, hhl, inT_length]; omega)]
    exact List.take_of_length_le (by rw [List.length_append, hhl, inT_length]; omega)
  have tp : (frameT number N m bits ++ R).take (P.length + 8) = seal8 (headT number (P.length + 10) N m) ++ P := by
    rw [hT, ← List.append_assoc, ← List.append_assoc]
    rw [List.take_append_of_le_length (by simp only [List.length_append, hhl, inT_length]; omega)]
    exact List.take_of_length_le (by simp only [List.length_append, hhl, inT_length]; omega)
  have tl : (frameT number N m bits ++ R).take (P.length + 10) = frameT number N m bits := by
    rw [List.take_append_of_le_length (by omega)]
    exact List.take_of_length_le (by omega)
  have hins : insT (frameT number N m bits ++ R) = P := by
    unfold insT
    rw [p2, hT, ← List.append_assoc, piece_right _ _ _ _ (by rw [List.length_append, hhl, inT_length]; omega)]
    rw [List.length_append, hhl, inT_length, piece_left _ _ _ _ (by omega) (by omega)]
    exact piece_whole _ _ (by omega)
  refine ⟨H, ⟨⟨?_, ?_, by rw [t7, t8]⟩, by rw [p1], ⟨⟨?_, ?_⟩, ?_, ?_⟩, ?_, ?_⟩, ?_, ?_, hH⟩
  · rw [List.length_append]; omega
  · have e : (frameT number N m bits ++ R).getD 0 0 = (headT number (P.length + 10) N m).getD 0 0 := by
      rw [← t7, List.getD_eq_getElem?_getD, List.getD_eq_getElem?_getD, List.getElem?_take_of_lt (by omega)]
    rw [e]
    rfl
  · rw [p2]; omega
  · rw [p2, List.length_append]; omega
  · rw [p3]; omega
  · rw [p4]; exact hm2
  · rw [p2, show P.length + 10 - 2 = P.length + 8 by omega, tp, tl]
    unfold frameT
    rw [hP]
  · rw [hins, p4, p3, Nat.sub_add_cancel hN]
    exact hI
  · rw [p3]; omega
  · rw [p2]; omega
end Go.Proofs.YtlncjgnomhpjnaaGreatDoor

/-
  reel.Decode.
-/
namespace Go.Proofs.YtlncjgnomhpjnaaGreatDoor
open Go.RowKit Go.Deep
set_option linter.unusedVariables false
theorem streamDecode_any (T : List UInt8) (w : World) (hs : T.length ≤ 9000) (hT : TabsU w) :
    Calls Tryz.prog 51 #[.string (bs T)] w fun e w' => DecAns e w w' T := by
  by_cases hp : HdP T ∧ dWh T = 1
  · exact streamDecode_rest T w hs hp.1 hp.2 hT
  · exact streamDecode_head T w hs hp
theorem res_rdec (tmps : Array Value) (R : Nat) (v : Value) (k : Int) (cs : Array Value) (W : World) (h : Bx W R 46 cs) (hs : cs.size = 6) (h2 : tmps.getD 2 undef = .pointer (some ⟨R, 0, none⟩)) (h3 : tmps.getD 3 undef = v) (h4 : tmps.getD 4 undef = .int .i64 k) :
    (results Tryz.f23 tmps).run Tryz.prog W = .ok (.tuple #[.agg cs, v, .int .i64 k]) W := by
  have hl := run_loadVar_row (P := Tryz.prog) W R 46 46 cs (0, 0) _ h Tryz.underlying46 rfl (by rw [hs]; exact infoInf6)
  rw [Array.getD_eq_getD_getElem?] at h2 h3 h4
  simp [results, Tryz.results23, asAddr, h2, h3, h4, hl]
set_option maxRecDepth 4000 in
set_option maxHeartbeats 2000000 in
theorem reelDecode_any (T : List UInt8) (w : World) (hs : T.length ≤ 9223372036854775807) (hT : TabsU w) :
    Calls Tryz.prog 23 #[.string (bs T)] w fun e w' => DecAns e w w' T := by
  have hz : (bs T).size = T.length := bs_size T
  have HZ0 : Hid (Bx (w.alloc (.cells #[.int .i64 0, .int .i64 0, .int .i64 0, .int .i64 0, .int .i64 0, .int .i64 0] 46)) w.heap.size 46 #[.int .i64 0, .int .i64 0, .int .i64 0, .int .i64 0, .int .i64 0, .int .i64 0]) := Bx.new _ _ _
  have HB0 : Hid (Below w.heap.size w (w.alloc (.cells #[.int .i64 0, .int .i64 0, .int .i64 0, .int .i64 0, .int .i64 0, .int .i64 0] 46))) := (Below.refl _ _).alloc (Nat.le_refl _) _
  by_cases hl : T.length ≤ 9000
  · have HSD := Hid.mk' (streamDecode_any T _ hl (hT.below HB0.out))
    clear hT
    by_cases h0 : decE T = 0
    · have HE := Hid.mk' h0
      clear h0
      unfold dInfo at *
      generalize bs T = SB at *
      go_enter Tryz.func23, Tryz.ntmps23
      go_wp2_with (first
        | (go_at_call 51; refine HSD.out.mono ?_; intro e u1 ho; obtain ⟨⟨-, v, rfl, hrow⟩ | ⟨hno, -⟩, hb⟩ := ho; rotate_left; exact absurd HE.out hno; obtain ⟨gl, A, C, rfl, -⟩ := hrow.open; have HROW := Hid.mk' hrow; have HZ1 := Hid.mk' (HZ0.out.below hb); have HB1 := Hid.mk' (HB0.out.trans (hb.mono HB0.out.size)); clear hrow hb HSD HZ0 HB0)
        | (refine wpList_storeRow rfl _ _ 46 rfl w.heap.size 46 _ _ rfl rfl HZ1.out infoInf6 rfl rfl ?_))
      refine bodyPost_ret (res_rdec _ w.heap.size (.slice (some ⟨gl, 0, none⟩) (dCh T) (dCh T)) 0 _ _ (HZ1.out.row _) rfl rfl rfl rfl) rfl ⟨.inl ⟨HE.out, _, rfl, ?_⟩, below_row HB1.out (Nat.le_refl _) _⟩
      exact (HROW.out.grown (grown_row u1 w.heap.size _) (by simp)).mono (by simp)
    · have HE := Hid.mk' h0
      have HBAD : Hid (∀ w', Below w.heap.size w w' → DecAns (.returned (.tuple #[info0, .slice none 0 0, .int .i64 (decE T)])) w w' T) := fun w' hb => dec_bad _ h0 rfl hb
      clear h0
      generalize bs T = SB at *
      go_enter Tryz.func23, Tryz.ntmps23
      go_wp2_with (first
        | (go_at_call 51; refine HSD.out.mono ?_; intro e u1 ho; obtain ⟨⟨hyes, -⟩ | ⟨-, rfl⟩, hb⟩ := ho; exact absurd hyes HE.out; have HZ1 := Hid.mk' (HZ0.out.below hb); have HB1 := Hid.mk' (HB0.out.trans (hb.mono HB0.out.size)); clear hb HSD HZ0 HB0)
        | (refine wpList_storeRow rfl _ _ 46 rfl w.heap.size 46 _ _ rfl rfl HZ1.out infoInf6 rfl rfl ?_))
      exact bodyPost_ret (res_rdec _ w.heap.size _ (decE T) _ _ (HZ1.out.row _) rfl rfl rfl rfl) rfl (HBAD.out _ (below_row HB1.out (Nat.le_refl _) _))
  · have HBAD : Hid (∀ w', Below w.heap.size w w' → DecAns (.returned (.tuple #[info0, .slice none 0 0, .int .i64 4])) w w' T) := fun w' hb => dec_bad 4 (by omega) (by unfold decE; rw [if_neg hl]) hb
    have hl2 : 9000 < T.length := by omega
    clear hT
    generalize bs T = SB at *
    go_enter Tryz.func23, Tryz.ntmps23
    go_wp2_with (first
      | (refine wpList_storeRow rfl _ _ 46 rfl w.heap.size 46 _ _ rfl rfl HZ0.out infoInf6 rfl rfl ?_))
    exact bodyPost_ret (res_rdec _ w.heap.size _ 4 _ _ (HZ0.out.row _) rfl rfl rfl rfl) rfl (HBAD.out _ (below_row HB0.out (Nat.le_refl _) _))
end Go.Proofs.YtlncjgnomhpjnaaGreatDoor

