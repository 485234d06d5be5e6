import Derived.Test.YtlncjgnomhpjnabGreatDoorQT34
import Derived.Lib.AppendZeros
import Derived.Lib.Overlaps
import Derived.Laws.Externs
import Derived.Deep.AppendLies
import Derived.Deep.RegionLaw
/-
  The shelf: where a frame belongs, found by halving.
-/
namespace Go.Proofs.YtlncjgnomhpjnabGreatDoor
open Go.RowKit Go.Deep
set_option linter.unusedVariables false
theorem own_open {w : World} {base : Nat} {e : TypeId} {size : Nat} {v : Value} {n : Nat} {xs : List Value} (h : w.ownsRow base e size v n xs) :
    ∃ A cap, v = .slice A n cap ∧ (0 < n → ∃ g, A = some ⟨g, 0, none⟩ ∧ g < w.heap.size ∧ ∀ j u, xs[j]? = some u → w.cell? ⟨g, j, none⟩ = some u) := by
  rcases h.2 with ⟨rfl, rfl⟩ | ⟨g, cap, cur, rfl, h1, h2, h3, h4, h5, h6⟩
  · exact ⟨none, 0, rfl, fun h => absurd h (Nat.lt_irrefl _)⟩
  · refine ⟨_, cap, rfl, fun _ => ⟨g, rfl, (Array.getElem?_eq_some_iff.1 h2).1, fun j u hj => ?_⟩⟩
    rw [← h6] at hj
    have hlt : j < n * size := by
      have := (List.getElem?_eq_some_iff.1 hj).1
      simp at this
      omega
    rw [List.getElem?_take_of_lt hlt] at hj
    simp [World.cell?, h2, ← hj]
theorem cellOf {w w' : World} {b i : Nat} (h : w'.heap[b]? = w.heap[b]?) : w'.cell? ⟨b, i, none⟩ = w.cell? ⟨b, i, none⟩ := by simp [World.cell?, h]
theorem countP_mid {k : Nat} : ∀ {l : List Nat} {i : Nat}, i ≤ l.length → (∀ t (h : t < l.length), t < i → l[t] < k) → (∀ t (h : t < l.length), i ≤ t → ¬ l[t] < k) → l.countP (fun x => decide (x < k)) = i
  | [], i, hi, _, _ => by simp at hi; simp [hi]
  | a :: r, 0, _, _, h2 => by
    rw [List.countP_eq_zero]
    intro x hx
    obtain ⟨t, ht, rfl⟩ := List.getElem_of_mem hx
    simpa using h2 t ht (Nat.zero_le _)
  | a :: r, i + 1, hi, h1, h2 => by
    have ha : a < k := h1 0 (by simp) (Nat.succ_pos _)
    rw [List.countP_cons_of_pos (by simpa using ha), countP_mid (by simpa using hi) (fun t ht h => h1 (t + 1) (by simpa using ht) (by omega)) (fun t ht h => h2 (t + 1) (by simpa using ht) (by omega))]
set_option linter.unusedSimpArgs false in
set_option maxHeartbeats 2000000 in
theorem search_any (T : Nat → ByteArray) (l : List Nat) (k : Nat) (t : ByteArray) (base : Nat) (sv : Value) (w : World) (hsv : w.ownsRow base 149 2 sv l.length (shC T l)) (hsort : l.Pairwise (· < ·)) (hl : l.length ≤ 1000) :
    Calls Tryz.prog 400 #[sv, .agg #[.int .i64 k, .string t], .func (.func 401) #[] #[]] w fun e w' => (∃ b, e = .returned (.tuple #[.int .i64 (l.countP (fun x => decide (x < k)) : Nat), .bool b])) ∧ Below w.heap.size w w' := by
  obtain ⟨A, cap, rfl, hA⟩ := own_open hsv
  have HA := Hid.mk' hA
  have HLC := Hid.mk' (fun (x : Int) (s : ByteArray) (u : World) => layCmp_any x k s t u)
  have HB0 : Hid (Below w.heap.size w (w.alloc (.cells #[.int .i64 k, .string t] 149))) := (Below.refl _ _).alloc (Nat.le_refl _) _
  have HX0 := Hid.mk' (Bx.new w #[.int .i64 k, .string t] 149)
  have HGET := Hid.mk' (shC_get T l)
  have HS := Hid.mk' hsort
  have HCM := Hid.mk' (fun i => countP_mid (k := k) (l := l) (i := i))
  generalize l.countP (fun x => decide (x < k)) = cnt at *
  clear hsv hA hsort
  go_enter Tryz.func400, Tryz.ntmps400
  go_wp2
  go_loopw [9, 10] (fun s9 s10 wr => ∃ lo hi : Nat, s9 = .int .i64 lo ∧ s10 = .int .i64 hi ∧ lo ≤ hi ∧ hi ≤ l.length ∧ Hid (Below (w.alloc (.cells #[.int .i64 k, .string t] 149)).heap.size (w.alloc (.cells #[.int .i64 k, .string t] 149)) wr) ∧ Hid ((∀ q (h : q < l.length), q < lo → l[q] < k) ∧ (∀ q (h : q < l.length), hi ≤ q → ¬ l[q] < k))) (fun s9 s10 _ => (intOf s10).toNat - (intOf s9).toNat)
  case atStart => exact ⟨0, l.length, rfl, rfl, Nat.zero_le _, Nat.le_refl _, Below.refl _ _, fun q h h1 => absurd h1 (Nat.not_lt_zero q), fun q h h1 => by omega⟩
  case round =>
    obtain ⟨lo, hi, rfl, rfl, hlh, hhl, HB, HI⟩ := hrel
    by_cases hlt : lo < hi
    · obtain ⟨g, rfl, hg, hcell⟩ := HA.out (by omega)
      obtain ⟨m, hm⟩ : ∃ m, m = (lo + hi) / 2 := ⟨_, rfl⟩
      have hml : m < l.length := by omega
      have HCL : Hid (∀ u, Below (w.alloc (.cells #[.int .i64 k, .string t] 149)).heap.size (w.alloc (.cells #[.int .i64 k, .string t] 149)) u → u.cell? ⟨g, m * 2, none⟩ = some (.int .i64 (l[m] : Nat)) ∧ u.cell? ⟨g, m * 2 + 1, none⟩ = some (.string (T l[m])) ∧ u.cell? ⟨w.heap.size, 0, none⟩ = some (.int .i64 k) ∧ u.cell? ⟨w.heap.size, 1, none⟩ = some (.string t)) := fun u hu => by
        have hb2 : Below w.heap.size w u := HB0.out.trans (hu.mono (by simp))
        have hgl : g < w.heap.size := hg
        refine ⟨?_, ?_, (HX0.out.below hu).cell 0, (HX0.out.below hu).cell 1⟩
        · exact (cellOf (hb2.block g hgl)).trans (hcell _ _ (HGET.out m hml).1)
        · exact (cellOf (hb2.block g hgl)).trans (hcell _ _ (HGET.out m hml).2)
      have hS0 : wr.drew.cell? ⟨g, m * 2, none⟩ = some (.int .i64 (l[m] : Nat)) ∧ wr.drew.cell? ⟨g, m * 2 + 1, none⟩ = some (.string (T l[m])) ∧ wr.drew.cell? ⟨w.heap.size, 0, none⟩ = some (.int .i64 k) ∧ wr.drew.cell? ⟨w.heap.size, 1, none⟩ = some (.string t) := HCL.out wr HB.out
      have em : ((lo : Int) + (hi : Int)) / 2 = (m : Int) := by omega
      have HM := Hid.mk' hm
      clear hm hcell
      go_wp2_with fail
      clear em
      generalize hy : l[m] = y at *
      have HLY := Hid.mk' (fun u => HLC.out y (T y) u)
      have HY := Hid.mk' hy
      clear hy HLC
      by_cases hyk : y < k
      · rw [if_pos (by omega)] at HLY
        have HYK := Hid.mk' hyk
        clear hyk
        go_region_held3 (fun w' => w'.cell? ⟨g, m * 2, none⟩ = some (.int .i64 (y : Nat)) ∧ w'.cell? ⟨g, m * 2 + 1, none⟩ = some (.string (T y)) ∧ w'.cell? ⟨w.heap.size, 0, none⟩ = some (.int .i64 k) ∧ w'.cell? ⟨w.heap.size, 1, none⟩ = some (.string t)) (first | with_reducible exact hS0 | with_reducible exact hS1)
          (first
          | (go_at_call 401; refine (HLY.out _).mono ?_; rintro e u ⟨rfl, hb⟩; have hb1 : Below (w.alloc (.cells #[.int .i64 k, .string t] 149)).heap.size (w.alloc (.cells #[.int .i64 k, .string t] 149)) u := HB.out.trans (Below.mono (⟨hb.os, hb.tape, hb.output, hb.size, hb.block⟩ : Below wr.heap.size wr u) HB.out.size); have hS1 := HCL.out u hb1; have HB1 := Hid.mk' hb1; clear hb hb1))
        go_wp2
        go_roundw
        case rel =>
          have hm := HM.out
          refine ⟨m + 1, hi, by go_num, rfl, by omega, hhl, HB1, fun q h h1 => ?_, HI.out.2⟩
          have h2 := HYK.out
          rw [← HY.out] at h2
          by_cases e : q = m
          · subst e; exact h2
          · exact Nat.lt_trans (List.pairwise_iff_getElem.1 HS.out q m h hml (by omega)) h2
        case measure => have hm := HM.out; simp [intOf]; omega
      · have hc0 : ∃ c : Int, ¬ c < 0 ∧ (if ((y : Nat) : Int) < ((k : Nat) : Int) then (-1 : Int) else if ((k : Nat) : Int) < ((y : Nat) : Int) then 1 else 0) = c := ⟨_, by rw [if_neg (by omega)]; split <;> omega, rfl⟩
        obtain ⟨c, hc, hce⟩ := hc0
        rw [hce] at HLY
        have HYK := Hid.mk' hyk
        clear hyk hce
        go_region_held3 (fun w' => w'.cell? ⟨g, m * 2, none⟩ = some (.int .i64 (y : Nat)) ∧ w'.cell? ⟨g, m * 2 + 1, none⟩ = some (.string (T y)) ∧ w'.cell? ⟨w.heap.size, 0, none⟩ = some (.int .i64 k) ∧ w'.cell? ⟨w.heap.size, 1, none⟩ = some (.string t)) (first | with_reducible exact hS0 | with_reducible exact hS1)
          (first
          | (go_at_call 401; refine (HLY.out _).mono ?_; rintro e u ⟨rfl, hb⟩; have hb1 : Below (w.alloc (.cells #[.int .i64 k, .string t] 149)).heap.size (w.alloc (.cells #[.int .i64 k, .string t] 149)) u := HB.out.trans (Below.mono (⟨hb.os, hb.tape, hb.output, hb.size, hb.block⟩ : Below wr.heap.size wr u) HB.out.size); have hS1 := HCL.out u hb1; have HB1 := Hid.mk' hb1; clear hb hb1))
        go_wp2
        go_roundw
        case rel =>
          have hm := HM.out
          refine ⟨lo, m, rfl, by go_num, by omega, by omega, HB1, HI.out.1, fun q h h1 => ?_⟩
          have h2 := HYK.out
          rw [← HY.out] at h2
          by_cases e : q = m
          · subst e; exact h2
          · have := List.pairwise_iff_getElem.1 HS.out m q hml h (by omega)
            omega
        case measure => have hm := HM.out; simp [intOf]; omega
    · have e : hi = lo := by omega
      subst e
      have HCNT : Hid (cnt = hi) := HCM.out hi hhl HI.out.1 HI.out.2
      have HBZ : Hid (Below w.heap.size w wr) := HB0.out.trans (HB.out.mono (by simp))
      by_cases hn : hi < l.length
      · obtain ⟨g, rfl, hg, hcell⟩ := HA.out (by omega)
        have HCL : Hid (∀ u, Below (w.alloc (.cells #[.int .i64 k, .string t] 149)).heap.size (w.alloc (.cells #[.int .i64 k, .string t] 149)) u → u.cell? ⟨g, hi * 2, none⟩ = some (.int .i64 (l[hi] : Nat)) ∧ u.cell? ⟨g, hi * 2 + 1, none⟩ = some (.string (T l[hi])) ∧ u.cell? ⟨w.heap.size, 0, none⟩ = some (.int .i64 k) ∧ u.cell? ⟨w.heap.size, 1, none⟩ = some (.string t)) := fun u hu => by
          have hb2 : Below w.heap.size w u := HB0.out.trans (hu.mono (by simp))
          have hgl : g < w.heap.size := hg
          refine ⟨?_, ?_, (HX0.out.below hu).cell 0, (HX0.out.below hu).cell 1⟩
          · exact (cellOf (hb2.block g hgl)).trans (hcell _ _ (HGET.out hi hn).1)
          · exact (cellOf (hb2.block g hgl)).trans (hcell _ _ (HGET.out hi hn).2)
        have hS0 : wr.drew.cell? ⟨g, hi * 2, none⟩ = some (.int .i64 (l[hi] : Nat)) ∧ wr.drew.cell? ⟨g, hi * 2 + 1, none⟩ = some (.string (T l[hi])) ∧ wr.drew.cell? ⟨w.heap.size, 0, none⟩ = some (.int .i64 k) ∧ wr.drew.cell? ⟨w.heap.size, 1, none⟩ = some (.string t) := HCL.out wr HB.out
        generalize hy : l[hi] = y at *
        have HLY := Hid.mk' (fun u => HLC.out y (T y) u)
        clear hy HLC hcell
        generalize (if ((y : Nat) : Int) < ((k : Nat) : Int) then (-1 : Int) else if ((k : Nat) : Int) < ((y : Nat) : Int) then 1 else 0) = c at *
        go_wp2_with fail
        refine wp_region_held_drew (S := fun w' => w'.cell? ⟨g, hi * 2, none⟩ = some (.int .i64 (y : Nat)) ∧ w'.cell? ⟨g, hi * 2 + 1, none⟩ = some (.string (T y)) ∧ w'.cell? ⟨w.heap.size, 0, none⟩ = some (.int .i64 k) ∧ w'.cell? ⟨w.heap.size, 1, none⟩ = some (.string t)) (by kernel_rfl) hS0 (fun hHeld => ?_)
        refine wpAnyH_take (i := 0) (v := ?_) rfl (by kernel_rfl) (by kernel_rfl) (by kernel_rfl) (fun _ _ _ h => h) (Or.inl ⟨by rfl, ?_⟩) (by assumption) ?_
        rotate_left
        · (intro w hSw; (try dsimp only at hSw); go_simp; try with_reducible rfl)
        try simp only [List.getElem_toArray, List.getElem_cons_succ, List.getElem_cons_zero, Act.put, List.setIfInBounds_toArray, List.set_cons_zero, List.set_cons_succ]
        refine wpAnyH_take (i := 1) (v := ?_) rfl (by kernel_rfl) (by kernel_rfl) (by kernel_rfl) (fun _ _ _ h => h) (Or.inl ⟨by rfl, ?_⟩) (by assumption) ?_
        rotate_left
        · (intro w hSw; (try dsimp only at hSw); go_simp; try with_reducible rfl)
        try simp only [List.getElem_toArray, List.getElem_cons_succ, List.getElem_cons_zero, Act.put, List.setIfInBounds_toArray, List.set_cons_zero, List.set_cons_succ]
        refine wpAnyH_take (i := 2) (v := ?_) rfl (by kernel_rfl) (by kernel_rfl) (by kernel_rfl) (fun _ _ _ h => h) (Or.inl ⟨by rfl, ?_⟩) (by assumption) ?_
        rotate_left
        · (intro w hSw; (try dsimp only at hSw); go_simp; try with_reducible rfl)
        try simp only [List.getElem_toArray, List.getElem_cons_succ, List.getElem_cons_zero, Act.put, List.setIfInBounds_toArray, List.set_cons_zero, List.set_cons_succ]
        refine wpAnyH_take (i := 3) (v := ?_) rfl (by kernel_rfl) (by kernel_rfl) (by kernel_rfl) (fun _ _ _ h => h) (Or.inl ⟨by rfl, ?_⟩) (by assumption) ?_
        rotate_left
        · (intro w hSw; (try dsimp only at hSw); go_simp; try with_reducible rfl)
        try simp only [List.getElem_toArray, List.getElem_cons_succ, List.getElem_cons_zero, Act.put, List.setIfInBounds_toArray, List.set_cons_zero, List.set_cons_succ]
        refine wpAnyH_take (i := 4) (v := ?_) rfl (by kernel_rfl) (by kernel_rfl) (by kernel_rfl) (fun _ _ _ h => h) (Or.inl ⟨by rfl, ?_⟩) (by assumption) ?_
        rotate_left
        · (intro w hSw; (try dsimp only at hSw); go_simp; try with_reducible rfl)
        try simp only [List.getElem_toArray, List.getElem_cons_succ, List.getElem_cons_zero, Act.put, List.setIfInBounds_toArray, List.set_cons_zero, List.set_cons_succ]
        refine wpAnyH_take (i := 5) (v := ?_) rfl (by kernel_rfl) (by kernel_rfl) (by kernel_rfl) (fun _ _ _ h => h) (Or.inl ⟨by rfl, ?_⟩) (by assumption) ?_
        rotate_left
        · (intro w hSw; (try dsimp only at hSw); go_simp; try with_reducible rfl)
        try simp only [List.getElem_toArray, List.getElem_cons_succ, List.getElem_cons_zero, Act.put, List.setIfInBounds_toArray, List.set_cons_zero, List.set_cons_succ]
        refine wpAnyH_take (i := 6) (v := ?_) rfl (by kernel_rfl) (by kernel_rfl) (by kernel_rfl) (fun _ _ _ h => h) (Or.inl ⟨by rfl, ?_⟩) (by assumption) ?_
        rotate_left
        · (intro w hSw; (try dsimp only at hSw); go_simp; try with_reducible rfl)
        try simp only [List.getElem_toArray, List.getElem_cons_succ, List.getElem_cons_zero, Act.put, List.setIfInBounds_toArray, List.set_cons_zero, List.set_cons_succ]
        refine wpAnyH_take (i := 7) (v := ?_) rfl (by kernel_rfl) (by kernel_rfl) (by kernel_rfl) (fun _ _ _ h => h) (Or.inl ⟨by rfl, ?_⟩) (by assumption) ?_
        rotate_left
        · (intro w hSw; (try dsimp only at hSw); go_simp; try with_reducible rfl)
        try simp only [List.getElem_toArray, List.getElem_cons_succ, List.getElem_cons_zero, Act.put, List.setIfInBounds_toArray, List.set_cons_zero, List.set_cons_succ]
        refine wpAnyH_take (i := 8) (v := ?_) rfl (by kernel_rfl) (by kernel_rfl) (by kernel_rfl) (fun _ _ _ h => h) (Or.inl ⟨by rfl, ?_⟩) (by assumption) ?_
        rotate_left
        · (intro w hSw; (try dsimp only at hSw); go_simp; try with_reducible rfl)
        try simp only [List.getElem_toArray, List.getElem_cons_succ, List.getElem_cons_zero, Act.put, List.setIfInBounds_toArray, List.set_cons_zero, List.set_cons_succ]
        refine wpAnyH_take (i := 9) (v := ?_) rfl (by kernel_rfl) (by kernel_rfl) (by kernel_rfl) (fun _ _ _ h => h) (Or.inl ⟨by rfl, ?_⟩) (by assumption) ?_
        rotate_left
        · (intro w hSw; (try dsimp only at hSw); go_simp; try with_reducible rfl)
        try simp only [List.getElem_toArray, List.getElem_cons_succ, List.getElem_cons_zero, Act.put, List.setIfInBounds_toArray, List.set_cons_zero, List.set_cons_succ]
        refine wpAnyH_take (i := 10) (v := ?_) rfl (by kernel_rfl) (by kernel_rfl) (by kernel_rfl) (fun _ _ _ h => h) (Or.inl ⟨by rfl, ?_⟩) (by assumption) ?_
        rotate_left
        · (intro w hSw; (try dsimp only at hSw); go_simp; try with_reducible rfl)
        try simp only [List.getElem_toArray, List.getElem_cons_succ, List.getElem_cons_zero, Act.put, List.setIfInBounds_toArray, List.set_cons_zero, List.set_cons_succ]
        refine wpAnyH_ready (rs := [11]) (by kernel_rfl) (by simp) ?_
        refine AllReadyH.cons rfl (fun K hK => ?_) (AllReadyH.nil)
        go_simp
        go_at_call 401
        refine (HLY.out _).mono ?_
        rintro e u ⟨rfl, hb⟩
        have hb1 : Below (w.alloc (.cells #[.int .i64 k, .string t] 149)).heap.size (w.alloc (.cells #[.int .i64 k, .string t] 149)) u := HB.out.trans (Below.mono (⟨hb.os, hb.tape, hb.output, hb.size, hb.block⟩ : Below wr.heap.size wr u) HB.out.size)
        have hS1 := HCL.out u hb1
        have HBY : Hid (Below w.heap.size w u) := HB0.out.trans (hb1.mono (by simp))
        clear hb hb1
        go_wp2_with fail
        refine hK.out _ _ hS1 (fun hHeld => ?_)
        clear hK K
        try simp only [List.getElem_toArray, List.getElem_cons_succ, List.getElem_cons_zero, Act.put, List.setIfInBounds_toArray, List.set_cons_zero, List.set_cons_succ]
        refine wpAnyH_take (i := 12) (v := ?_) rfl (by kernel_rfl) (by kernel_rfl) (by kernel_rfl) (fun _ _ _ h => h) (Or.inl ⟨by rfl, ?_⟩) (by assumption) ?_
        rotate_left
        · (intro w hSw; (try dsimp only at hSw); go_simp; try with_reducible rfl)
        try simp only [List.getElem_toArray, List.getElem_cons_succ, List.getElem_cons_zero, Act.put, List.setIfInBounds_toArray, List.set_cons_zero, List.set_cons_succ]
        refine wpAnyH_take (i := 13) (v := ?_) rfl (by kernel_rfl) (by kernel_rfl) (by kernel_rfl) (fun _ _ _ h => h) (Or.inl ⟨by rfl, ?_⟩) (by assumption) ?_
        rotate_left
        · (intro w hSw; (try dsimp only at hSw); go_simp; try with_reducible rfl)
        try simp only [List.getElem_toArray, List.getElem_cons_succ, List.getElem_cons_zero, Act.put, List.setIfInBounds_toArray, List.set_cons_zero, List.set_cons_succ]
        refine wpAnyH_take (i := 14) (v := ?_) rfl (by kernel_rfl) (by kernel_rfl) (by kernel_rfl) (fun _ _ _ h => h) (Or.inl ⟨by rfl, ?_⟩) (by assumption) ?_
        rotate_left
        · (intro w hSw; (try dsimp only at hSw); go_simp; try with_reducible rfl)
        try simp only [List.getElem_toArray, List.getElem_cons_succ, List.getElem_cons_zero, Act.put, List.setIfInBounds_toArray, List.set_cons_zero, List.set_cons_succ]
        refine wpAnyH_take (i := 15) (v := ?_) rfl (by kernel_rfl) (by kernel_rfl) (by kernel_rfl) (fun _ _ _ h => h) (Or.inl ⟨by rfl, ?_⟩) (by assumption) ?_
        rotate_left
        · (intro w hSw; (try dsimp only at hSw); go_simp; try with_reducible rfl)
        try simp only [List.getElem_toArray, List.getElem_cons_succ, List.getElem_cons_zero, Act.put, List.setIfInBounds_toArray, List.set_cons_zero, List.set_cons_succ]
        refine wpAnyH_done (by kernel_rfl) ?_ _
        go_wp2
        go_ret2
        have hcn := HCNT.out
        subst hcn
        exact ⟨⟨_, rfl⟩, HBY.out⟩
      · have e : hi = l.length := by omega
        subst e
        have hS0 : True := trivial
        go_wp2_with fail
        refine wp_region_held_drew (S := fun w' => True) (by kernel_rfl) hS0 (fun hHeld => ?_)
        refine wpAnyH_take (i := 0) (v := ?_) rfl (by kernel_rfl) (by kernel_rfl) (by kernel_rfl) (fun _ _ _ h => h) (Or.inl ⟨by rfl, ?_⟩) (by assumption) ?_
        rotate_left
        · (intro w hSw; (try dsimp only at hSw); go_simp; try with_reducible rfl)
        try simp only [List.getElem_toArray, List.getElem_cons_succ, List.getElem_cons_zero, Act.put, List.setIfInBounds_toArray, List.set_cons_zero, List.set_cons_succ]
        refine wpAnyH_take (i := 1) (v := ?_) rfl (by kernel_rfl) (by kernel_rfl) (by kernel_rfl) (fun _ _ _ h => h) (Or.inl ⟨by rfl, ?_⟩) (by assumption) ?_
        rotate_left
        · (intro w hSw; (try dsimp only at hSw); go_simp; try with_reducible rfl)
        try simp only [List.getElem_toArray, List.getElem_cons_succ, List.getElem_cons_zero, Act.put, List.setIfInBounds_toArray, List.set_cons_zero, List.set_cons_succ]
        refine wpAnyH_take (i := 2) (v := ?_) rfl (by kernel_rfl) (by kernel_rfl) (by kernel_rfl) (fun _ _ _ h => h) (Or.inl ⟨by rfl, ?_⟩) (by assumption) ?_
        rotate_left
        · (intro w hSw; (try dsimp only at hSw); go_simp; try with_reducible rfl)
        try simp only [List.getElem_toArray, List.getElem_cons_succ, List.getElem_cons_zero, Act.put, List.setIfInBounds_toArray, List.set_cons_zero, List.set_cons_succ]
        refine wpAnyH_take (i := 3) (v := ?_) rfl (by kernel_rfl) (by kernel_rfl) (by kernel_rfl) (fun _ _ _ h => h) (Or.inl ⟨by rfl, ?_⟩) (by assumption) ?_
        rotate_left
        · (intro w hSw; (try dsimp only at hSw); go_simp; try with_reducible rfl)
        try simp only [List.getElem_toArray, List.getElem_cons_succ, List.getElem_cons_zero, Act.put, List.setIfInBounds_toArray, List.set_cons_zero, List.set_cons_succ]
        refine wpAnyH_take (i := 4) (v := ?_) rfl (by kernel_rfl) (by kernel_rfl) (by kernel_rfl) (fun _ _ _ h => h) (Or.inl ⟨by rfl, ?_⟩) (by assumption) ?_
        rotate_left
        · (intro w hSw; (try dsimp only at hSw); go_simp; try with_reducible rfl)
        try simp only [List.getElem_toArray, List.getElem_cons_succ, List.getElem_cons_zero, Act.put, List.setIfInBounds_toArray, List.set_cons_zero, List.set_cons_succ]
        refine wpAnyH_take (i := 5) (v := undef) rfl (by kernel_rfl) (by kernel_rfl) (by kernel_rfl) (fun _ _ _ h => h) (Or.inr ⟨by rfl, rfl⟩) (by assumption) ?_
        try simp only [List.getElem_toArray, List.getElem_cons_succ, List.getElem_cons_zero, Act.put, List.setIfInBounds_toArray, List.set_cons_zero, List.set_cons_succ]
        refine wpAnyH_take (i := 6) (v := undef) rfl (by kernel_rfl) (by kernel_rfl) (by kernel_rfl) (fun _ _ _ h => h) (Or.inr ⟨by rfl, rfl⟩) (by assumption) ?_
        try simp only [List.getElem_toArray, List.getElem_cons_succ, List.getElem_cons_zero, Act.put, List.setIfInBounds_toArray, List.set_cons_zero, List.set_cons_succ]
        refine wpAnyH_take (i := 7) (v := undef) rfl (by kernel_rfl) (by kernel_rfl) (by kernel_rfl) (fun _ _ _ h => h) (Or.inr ⟨by rfl, rfl⟩) (by assumption) ?_
        try simp only [List.getElem_toArray, List.getElem_cons_succ, List.getElem_cons_zero, Act.put, List.setIfInBounds_toArray, List.set_cons_zero, List.set_cons_succ]
        refine wpAnyH_take (i := 8) (v := undef) rfl (by kernel_rfl) (by kernel_rfl) (by kernel_rfl) (fun _ _ _ h => h) (Or.inr ⟨by rfl, rfl⟩) (by assumption) ?_
        try simp only [List.getElem_toArray, List.getElem_cons_succ, List.getElem_cons_zero, Act.put, List.setIfInBounds_toArray, List.set_cons_zero, List.set_cons_succ]
        refine wpAnyH_take (i := 9) (v := undef) rfl (by kernel_rfl) (by kernel_rfl) (by kernel_rfl) (fun _ _ _ h => h) (Or.inr ⟨by rfl, rfl⟩) (by assumption) ?_
        try simp only [List.getElem_toArray, List.getElem_cons_succ, List.getElem_cons_zero, Act.put, List.setIfInBounds_toArray, List.set_cons_zero, List.set_cons_succ]
        refine wpAnyH_take (i := 10) (v := undef) rfl (by kernel_rfl) (by kernel_rfl) (by kernel_rfl) (fun _ _ _ h => h) (Or.inr ⟨by rfl, rfl⟩) (by assumption) ?_
        try simp only [List.getElem_toArray, List.getElem_cons_succ, List.getElem_cons_zero, Act.put, List.setIfInBounds_toArray, List.set_cons_zero, List.set_cons_succ]
        refine wpAnyH_take (i := 11) (v := undef) rfl (by kernel_rfl) (by kernel_rfl) (by kernel_rfl) (fun _ _ _ h => h) (Or.inr ⟨by rfl, rfl⟩) (by assumption) ?_
        try simp only [List.getElem_toArray, List.getElem_cons_succ, List.getElem_cons_zero, Act.put, List.setIfInBounds_toArray, List.set_cons_zero, List.set_cons_succ]
        refine wpAnyH_take (i := 12) (v := undef) rfl (by kernel_rfl) (by kernel_rfl) (by kernel_rfl) (fun _ _ _ h => h) (Or.inr ⟨by rfl, rfl⟩) (by assumption) ?_
        try simp only [List.getElem_toArray, List.getElem_cons_succ, List.getElem_cons_zero, Act.put, List.setIfInBounds_toArray, List.set_cons_zero, List.set_cons_succ]
        refine wpAnyH_take (i := 13) (v := ?_) rfl (by kernel_rfl) (by kernel_rfl) (by kernel_rfl) (fun _ _ _ h => h) (Or.inl ⟨by rfl, ?_⟩) (by assumption) ?_
        rotate_left
        · (intro w hSw; (try dsimp only at hSw); go_simp; try with_reducible rfl)
        try simp only [List.getElem_toArray, List.getElem_cons_succ, List.getElem_cons_zero, Act.put, List.setIfInBounds_toArray, List.set_cons_zero, List.set_cons_succ]
        refine wpAnyH_take (i := 14) (v := ?_) rfl (by kernel_rfl) (by kernel_rfl) (by kernel_rfl) (fun _ _ _ h => h) (Or.inl ⟨by rfl, ?_⟩) (by assumption) ?_
        rotate_left
        · (intro w hSw; (try dsimp only at hSw); go_simp; try with_reducible rfl)
        try simp only [List.getElem_toArray, List.getElem_cons_succ, List.getElem_cons_zero, Act.put, List.setIfInBounds_toArray, List.set_cons_zero, List.set_cons_succ]
        refine wpAnyH_take (i := 15) (v := ?_) rfl (by kernel_rfl) (by kernel_rfl) (by kernel_rfl) (fun _ _ _ h => h) (Or.inl ⟨by rfl, ?_⟩) (by assumption) ?_
        rotate_left
        · (intro w hSw; (try dsimp only at hSw); go_simp; try with_reducible rfl)
        try simp only [List.getElem_toArray, List.getElem_cons_succ, List.getElem_cons_zero, Act.put, List.setIfInBounds_toArray, List.set_cons_zero, List.set_cons_succ]
        refine wpAnyH_done (by kernel_rfl) ?_ _
        go_wp2
        go_ret2
        have hcn := HCNT.out
        subst hcn
        exact ⟨⟨_, rfl⟩, HBZ.out.drew⟩
end Go.Proofs.YtlncjgnomhpjnabGreatDoor

/-
  The shelf: a frame is laid between others.
-/
namespace Go.Proofs.YtlncjgnomhpjnabGreatDoor
open Go.RowKit Go.Deep
set_option linter.unusedVariables false
theorem infoPk : (Tryz.prog.info? 149).map (fun i => (i.zero, i.size, i.bytes)) = some (some (.agg #[.int .i64 0, .string ⟨#[]⟩]), 2, 24) := by kernel_rfl
theorem infoPk2 : ∃ i, Tryz.prog.info? 149 = some i ∧ i.zero = some (.agg #[.int .i64 0, .string ⟨#[]⟩]) ∧ i.size = 2 ∧ i.bytes = 24 := by
  have h := infoPk
  cases hq : Tryz.prog.info? 149 with
  | none => rw [hq] at h; cases h
  | some i =>
    rw [hq] at h
    simp only [Option.map_some, Option.some.injEq, Prod.mk.injEq] at h
    exact ⟨i, rfl, h.1, h.2.1, h.2.2⟩
theorem sizePk : (Tryz.prog.info? 149).map (·.size) = some 2 := by
  obtain ⟨i, h, -, h2, -⟩ := infoPk2
  rw [h, Option.map_some, h2]
theorem append_types {P : Program} (w : World) (t t' ty e e' : TypeId) (i : TypeInfo) (hi : P.info? e = some i) (ht : P.underlying t = some (.slice e)) (ht' : P.underlying t' = some (.slice e')) (A B : Option Addr) (n c m c' : Nat) : (Builtin.append_ #[t, t'] ty #[.slice A n c, .slice B m c']).run P w = (Builtin.append_ #[t, t] ty #[.slice A n c, .slice B m c']).run P w := by
  simp [Builtin.append_, run_underlying ht, run_underlying ht', sizeOf, typeInfo, hi]
/-- What is laid between others. -/
structure Laid (T : Nat → ByteArray) (base : Nat) (sv sv' : Value) (l : List Nat) (w w' : World) : Prop where
  own : w'.ownsRow base 149 2 sv' l.length (shC T l)
  edit : Edit (fun b => sv.ownBlock = some b) w w'
  new : ∀ g, sv'.ownBlock = some g → sv.ownBlock = some g ∨ w.heap.size ≤ g
set_option maxRecDepth 100000 in
theorem insert_end (T : Nat → ByteArray) (l : List Nat) (k base : Nat) (sv : Value) (w : World) (vb : Nat) (hsv : w.ownsRow base 149 2 sv l.length (shC T l)) (hbase : base ≤ w.heap.size) (hl : l.length ≤ 500) (hv : Bx w vb 149 #[.int .i64 k, .string (T k)]) :
    Calls Tryz.prog 403 #[sv, .int .i64 l.length, .slice (some ⟨vb, 0, none⟩) 1 1] w fun e w' => ∃ sv', e = .returned sv' ∧ Laid T base sv sv' (l ++ [k]) w w' := by
  obtain ⟨A, cap0, rfl, -⟩ := own_open hsv
  have hr : ∀ ty, ∃ g cap w', (Builtin.append_ #[153, 152] ty #[.slice A l.length cap0, .slice (some ⟨vb, 0, none⟩) 1 1]).run Tryz.prog w = .ok (.slice (some ⟨g, 0, none⟩) (l.length + 1) cap) w' ∧ Laid T base (.slice A l.length cap0) (.slice (some ⟨g, 0, none⟩) (l.length + 1) cap) (l ++ [k]) w w' := by
    intro ty
    obtain ⟨i0, hi0, hz0, hz1, hz2⟩ := infoPk2
    obtain ⟨g, cap, w', hr, h2, h3, h4, h5⟩ := run_append_lies (P := Tryz.prog) w 153 ty base 149 i0 (.agg #[.int .i64 0, .string ⟨#[]⟩]) 2 24 Tryz.underlying153 hi0 hz0 hz1 hz2 rfl (by omega) (.slice A l.length cap0) l.length (shC T l) hsv ⟨vb, 0, none⟩ 1 1 [.int .i64 k, .string (T k)] rfl
      (fun j u hj => by
        match j, hj with
        | 0, hj => cases hj; exact hv.cell 0
        | 1, hj => cases hj; exact hv.cell 1
        | j + 2, hj => cases hj) (fun u hu => by simp at hu; rcases hu with rfl | rfl <;> rfl) (by omega) (by simp only [maxLen]; omega) (by omega) hbase _ rfl
    refine ⟨g, cap, w', by rw [append_types w _ _ _ _ _ i0 hi0 Tryz.underlying153 Tryz.underlying152]; exact hr, ⟨?_, ⟨h3.os, h3.tape, h3.output, h3.size, fun b hb hS => h3.block b hb fun hh => hS hh.symm⟩, fun q hq => ?_⟩⟩
    · rw [shC_app, List.length_append]
      exact h2
    · cases hq
      rcases h4 with h4 | h4
      · exact Or.inl h4
      · exact Or.inr (Nat.le_of_eq h4.symm)
  obtain ⟨g, cap1, w1, hr1, hla⟩ := hr 153
  have HR := Hid.mk' hr1
  have HL := Hid.mk' hla
  clear hr hr1 hla hsv hv
  by_cases hc : cap0 = l.length
  · subst hc
    go_enter Tryz.func403, Tryz.ntmps403
    go_wp2_with (at_builtin; refine Lib.wpList_append_run w rfl (.tmp 23) (.tmp 24) 153 152 rfl _ _ rfl rfl (.slice (some ⟨g, 0, none⟩) (l.length + 1) cap1) w1 HR.out ?_)
    go_ret
    exact ⟨_, rfl, HL.out⟩
  · go_enter Tryz.func403, Tryz.ntmps403
    go_wp2_with (at_builtin; refine Lib.wpList_append_run w rfl (.tmp 23) (.tmp 24) 153 152 rfl _ _ rfl rfl (.slice (some ⟨g, 0, none⟩) (l.length + 1) cap1) w1 HR.out ?_)
    go_ret
    exact ⟨_, rfl, HL.out⟩
end Go.Proofs.YtlncjgnomhpjnabGreatDoor

