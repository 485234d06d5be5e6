/-
  The document's bits of a mode: reelref.bitsOf.
-/
import Derived.Test.YtfhmnplioghhiaaGreatDoorRefPair
import Derived.Deep.RegionHeld3
import Derived.Deep.DeepCutAuto
namespace Go.Proofs.YtfhmnplioghhiaaGreatDoor
open Go.RowKit Go.Deep
set_option linter.unusedVariables false

set_option maxRecDepth 4000 in
set_option maxHeartbeats 1000000 in
theorem bitsPair_any (c2 c3 c4 c5 c6 c7 : Int) (d m : Nat) (b off cap : Nat) (A : Nat → Option Addr) (N : Nat) (C : Nat → Nat) (F : Nat → Nat → Int) (w : World) (hm : m < 4) (hd1 : 1 ≤ d) (hd : d ≤ 12) (hN1 : 1 ≤ N) (hN : N ≤ 32)
    (hf : ∀ i, i < 2 → ∀ j, j < N → fitsB d (F i j) = true) (hc0 : w.cell? ⟨b, off, none⟩ = some (.slice (A 0) N (C 0))) (hc1 : w.cell? ⟨b, off + 1, none⟩ = some (.slice (A 1) N (C 1))) (hbl : b < w.heap.size) (hI : ∀ i, i < 2 → IntsAt w (A i) N (F i)) (hlow : ∀ i, i < 2 → ∀ x, A i = some x → 0 < N → x.block < w.heap.size) (hT : TabAt w 3) (hTl : 3 < w.heap.size) :
    Calls Tryz.prog 112 #[.agg #[.int .i64 2, .int .i64 d, .int .i64 c2, .int .i64 c3, .int .i64 c4, .int .i64 c5, .int .i64 c6, .int .i64 c7], .int .i64 m, .slice (some ⟨b, off, none⟩) 2 cap] w fun e w' =>
      e = .returned (.string (bs (pairT d (F 0) (F 1) N m))) ∧ Below w.heap.size w w' := by
  have bl : ∀ i, i < 2 → ∀ j, j < N → -4096 ≤ F i j ∧ F i j ≤ 4096 := fun i hi j hj => fits_bd (hf i hi j hj) (by omega)
  have tb : ∀ u, Below w.heap.size w u → TabAt u 3 := fun u hu r c hr hc => (hu.cell (p := ⟨3, 4 * r + c, none⟩) hTl).trans (hT r c hr hc)
  have HPR := Hid.mk' (fun (u : World) (hu : Below w.heap.size w u) => pair_any m (A 0) (A 1) N (C 0) (C 1) (F 0) (F 1) u hm hN (bl 0 (by omega)) (bl 1 (by omega)) ((hI 0 (by omega)).below hu (hlow 0 (by omega))) ((hI 1 (by omega)).below hu (hlow 1 (by omega))) (fun y hy h0 => Nat.lt_of_lt_of_le (hlow 0 (by omega) y hy h0) hu.size) (fun y hy h0 => Nat.lt_of_lt_of_le (hlow 1 (by omega) y hy h0) hu.size))
  have hw1 := w1_bd d m hd1 hd
  have hw2 := w2_bd d m hd1 hd
  have HS1 := Hid.mk' (fun (u : World) (hu : Below w.heap.size w u) (x : Option Addr) (c : Nat) (hx : IntsAt u x N (l1 (F 0) (F 1) m)) (hl : ∀ z, x = some z → 0 < N → z.block < u.heap.size) => rsub_any x N c (w1 d m) (l1 (F 0) (F 1) m) u hN1 hN hw1.1 hw1.2 (l1_fits hd1 m (hf 0 (by omega)) (hf 1 (by omega))) hx hl (tb u hu) (Nat.lt_of_lt_of_le hTl hu.size))
  have HS2 := Hid.mk' (fun (u : World) (hu : Below w.heap.size w u) (x : Option Addr) (c : Nat) (hx : IntsAt u x N (l2 (F 0) (F 1) m)) (hl : ∀ z, x = some z → 0 < N → z.block < u.heap.size) => rsub_any x N c (w2 d m) (l2 (F 0) (F 1) m) u hN1 hN hw2.1 hw2.2 (l2_fits hd1 m (hf 0 (by omega)) (hf 1 (by omega))) hx hl (tb u hu) (Nat.lt_of_lt_of_le hTl hu.size))
  have HW0 := Hid.mk' (fun u => width0_any d m u hd hm)
  have HW1 := Hid.mk' (fun u => width1_any d m u hd hm)
  have HTX : Hid (bs (subT (w1 d m) (l1 (F 0) (F 1) m) N) ++ bs (subT (w2 d m) (l2 (F 0) (F 1) m) N) = bs (pairT d (F 0) (F 1) N m)) := by show _ = _; rw [bs_append, pairT_eq _ _ _ _ _ hm]
  have z1 : (bs (subT (w1 d m) (l1 (F 0) (F 1) m) N)).size ≤ 424 := by rw [bs_size]; exact subT_le' _ _ N hN1 hN hw1.2
  have z2 : (bs (subT (w2 d m) (l2 (F 0) (F 1) m) N)).size ≤ 424 := by rw [bs_size]; exact subT_le' _ _ N hN1 hN hw2.2
  rw [← HTX.out]
  clear hf hI hlow hT bl tb HTX hw1 hw2
  generalize bs (subT (w1 d m) (l1 (F 0) (F 1) m) N) = X1 at *
  generalize bs (subT (w2 d m) (l2 (F 0) (F 1) m) N) = X2 at *
  generalize w1 d m = W1 at *
  generalize w2 d m = W2 at *
  have hb0 : Below w.heap.size w (w.alloc (.cells #[.int .i64 2, .int .i64 d, .int .i64 c2, .int .i64 c3, .int .i64 c4, .int .i64 c5, .int .i64 c6, .int .i64 c7] 23)) := (Below.refl _ _).alloc (Nat.le_refl _) _
  have HB0 := Hid.mk' hb0
  clear hb0
  have hS0 : (w.alloc (.cells #[.int .i64 2, .int .i64 d, .int .i64 c2, .int .i64 c3, .int .i64 c4, .int .i64 c5, .int .i64 c6, .int .i64 c7] 23)).drew.cell? ⟨b, off, none⟩ = some (.slice (A 0) N (C 0)) ∧ (w.alloc (.cells #[.int .i64 2, .int .i64 d, .int .i64 c2, .int .i64 c3, .int .i64 c4, .int .i64 c5, .int .i64 c6, .int .i64 c7] 23)).drew.cell? ⟨b, off + 1, none⟩ = some (.slice (A 1) N (C 1)) := keep_al (u := w) hbl ⟨hc0, hc1⟩
  have HD0 : Hid ((w.alloc (.cells #[.int .i64 2, .int .i64 d, .int .i64 c2, .int .i64 c3, .int .i64 c4, .int .i64 c5, .int .i64 c6, .int .i64 c7] 23)).drew.cell? ⟨w.heap.size, 1, none⟩ = some (.int .i64 d) ∧ w.heap.size < (w.alloc (.cells #[.int .i64 2, .int .i64 d, .int .i64 c2, .int .i64 c3, .int .i64 c4, .int .i64 c5, .int .i64 c6, .int .i64 c7] 23)).drew.heap.size) := by
    refine ⟨?_, ?_⟩
    · show (w.alloc (.cells #[.int .i64 2, .int .i64 d, .int .i64 c2, .int .i64 c3, .int .i64 c4, .int .i64 c5, .int .i64 c6, .int .i64 c7] 23)).cell? _ = _
      simp
    · show w.heap.size < (w.alloc (.cells #[.int .i64 2, .int .i64 d, .int .i64 c2, .int .i64 c3, .int .i64 c4, .int .i64 c5, .int .i64 c6, .int .i64 c7] 23)).heap.size
      simp
  have HKS := Hid.mk' (fun (u : World) (hu : Below w.heap.size w u) => And.intro ((hu.cell (p := ⟨b, off, none⟩) hbl).trans hc0) ((hu.cell (p := ⟨b, off + 1, none⟩) hbl).trans hc1))
  go_enter Tryz.func112, Tryz.ntmps112
  go_wp2_with fail
  go_region_held3 (fun w' => w'.cell? ⟨b, off, none⟩ = some (.slice (A 0) N (C 0)) ∧ w'.cell? ⟨b, off + 1, none⟩ = some (.slice (A 1) N (C 1)))
    (first | with_reducible exact hS0 | with_reducible exact hS1)
    (first
    | (go_at_call 148; refine (HPR.out _ ?_).mono ?_; exact HB0.out.drew; rintro e u1 ⟨⟨x, y, cx, cy, rfl, hx, hy, lx, ly⟩, hb1⟩; have HB1 := Hid.mk' (HB0.out.drew.trans (hb1.mono HB0.out.size)); have hS1 := HKS.out _ HB1.out; have hd1 : u1.cell? ⟨w.heap.size, 1, none⟩ = some (.int .i64 d) := (hb1.cell (p := ⟨w.heap.size, 1, none⟩) HD0.out.2).trans HD0.out.1; have hs1 : w.heap.size < u1.heap.size := Nat.lt_of_lt_of_le HD0.out.2 hb1.size; have HX := Hid.mk' (And.intro hx lx); have HY := Hid.mk' (And.intro hy ly); clear hx hy lx ly hb1 HPR HB0))
  go_wp2_with (first
    | (go_at_call 150; refine (HW0.out _).mono ?_; rintro e w9 ⟨rfl, hw⟩; subst w9; clear HW0)
    | (go_at_call 150; refine (HW1.out _).mono ?_; rintro e w9 ⟨rfl, hw⟩; subst w9; clear HW1)
    | (go_at_call 149; refine (HS1.out _ ?_ _ _ ?_ ?_).mono ?_; exact HB1.out; exact HX.out.1; exact HX.out.2; rintro e u2 ⟨rfl, hb2⟩; have hd2 : u2.cell? ⟨w.heap.size, 1, none⟩ = some (.int .i64 d) := (hb2.cell (p := ⟨w.heap.size, 1, none⟩) hs1).trans hd1; have hs2 : w.heap.size < u2.heap.size := Nat.lt_of_lt_of_le hs1 hb2.size; have HB2 := Hid.mk' (HB1.out.trans (hb2.mono HB1.out.size)); have HY2 := Hid.mk' (And.intro (HY.out.1.belowB hb2 HY.out.2) (fun z hz h0 => Nat.lt_of_lt_of_le (HY.out.2 z hz h0) hb2.size)); clear hb2 HS1 HB1 HX HY)
    | (go_at_call 149; refine (HS2.out _ ?_ _ _ ?_ ?_).mono ?_; exact HB2.out; exact HY2.out.1; exact HY2.out.2; rintro e u3 ⟨rfl, hb3⟩; have HB3 := Hid.mk' (HB2.out.trans (hb3.mono HB2.out.size)); clear hb3 HS2 HB2 HY2))
  go_ret
  exact ⟨rfl, HB3.out⟩

set_option maxRecDepth 4000 in
set_option maxHeartbeats 1000000 in
theorem bitsAll_any (c2 c3 c4 c5 c6 c7 : Int) (d : Nat) (b off n cap : Nat) (A : Nat → Option Addr) (N : Nat) (C : Nat → Nat) (F : Nat → Nat → Int) (w : World) (hn2 : n ≠ 2) (hn4 : n ≤ 4) (hd1 : 1 ≤ d) (hd : d ≤ 12) (hN1 : 1 ≤ N) (hN : N ≤ 32)
    (hf : ∀ i, i < n → ∀ j, j < N → fitsB d (F i j) = true) (hc : ∀ i, i < n → w.cell? ⟨b, off + i, none⟩ = some (.slice (A i) N (C i))) (hbl : b < w.heap.size) (hI : ∀ i, i < n → IntsAt w (A i) N (F i)) (hlow : ∀ i, i < n → ∀ x, A i = some x → 0 < N → x.block < w.heap.size) (hT : TabAt w 3) (hTl : 3 < w.heap.size) :
    Calls Tryz.prog 112 #[.agg #[.int .i64 n, .int .i64 d, .int .i64 c2, .int .i64 c3, .int .i64 c4, .int .i64 c5, .int .i64 c6, .int .i64 c7], .int .i64 0, .slice (some ⟨b, off, none⟩) n cap] w fun e w' =>
      e = .returned (.string (bs (allT d F N n))) ∧ Below w.heap.size w w' := by
  have HSB := Hid.mk' (fun (u : World) (hu : Below w.heap.size w u) i (hi : i < n) => rsub_any (A i) N (C i) d (F i) u hN1 hN hd1 (by omega) (hf i hi) ((hI i hi).below hu (hlow i hi)) (fun y hy h0 => Nat.lt_of_lt_of_le (hlow i hi y hy h0) hu.size) (fun r c hr hc => (hu.cell (p := ⟨3, 4 * r + c, none⟩) hTl).trans (hT r c hr hc)) (Nat.lt_of_lt_of_le hTl hu.size))
  have HCL := Hid.mk' (fun (u : World) (hu : Below w.heap.size w u) i (hi : i < n) => (hu.cell (p := ⟨b, off + i, none⟩) hbl).trans (hc i hi))
  have HBD := Hid.mk' (allT_bd d F N hN1 hN hd)
  have HSL := Hid.mk' (fun i => subT_le' d (F i) N hN1 hN (by omega))
  have hb0 : Below w.heap.size w (w.alloc (.cells #[.int .i64 n, .int .i64 d, .int .i64 c2, .int .i64 c3, .int .i64 c4, .int .i64 c5, .int .i64 c6, .int .i64 c7] 23)) := (Below.refl _ _).alloc (Nat.le_refl _) _
  have HD0 : Hid (Below w.heap.size w (w.alloc (.cells #[.int .i64 n, .int .i64 d, .int .i64 c2, .int .i64 c3, .int .i64 c4, .int .i64 c5, .int .i64 c6, .int .i64 c7] 23)) ∧ (w.alloc (.cells #[.int .i64 n, .int .i64 d, .int .i64 c2, .int .i64 c3, .int .i64 c4, .int .i64 c5, .int .i64 c6, .int .i64 c7] 23)).cell? ⟨w.heap.size, 1, none⟩ = some (.int .i64 d) ∧ w.heap.size < (w.alloc (.cells #[.int .i64 n, .int .i64 d, .int .i64 c2, .int .i64 c3, .int .i64 c4, .int .i64 c5, .int .i64 c6, .int .i64 c7] 23)).heap.size) := ⟨hb0, by simp, by simp⟩
  have hne : ((n : Int) == 2) = false := by simp; omega
  clear hf hI hlow hT hc hb0
  go_enter Tryz.func112, Tryz.ntmps112
  go_wp2
  go_loopw [11, 12] (fun sv iv wr => ∃ i : Nat, i ≤ n ∧ iv = .int .i64 i ∧ sv = .string (bs (allT d F N i)) ∧ Hid (Below w.heap.size w wr ∧ wr.cell? ⟨w.heap.size, 1, none⟩ = some (.int .i64 d) ∧ w.heap.size < wr.heap.size)) (fun _ iv _ => n - (intOf iv).toNat)
  case atStart => exact ⟨0, Nat.zero_le _, rfl, rfl, HD0.out⟩
  case round =>
    obtain ⟨i, hi, rfl, rfl, HR⟩ := hrel
    by_cases hlt : i < n
    · have hk1 := HCL.out wr HR.out.1 i hlt
      have hk2 := HR.out.2.1
      have hS0 : wr.drew.cell? ⟨w.heap.size, 1, none⟩ = some (.int .i64 d) ∧ wr.drew.cell? ⟨b, off + i, none⟩ = some (.slice (A i) N (C i)) := ⟨hk2, hk1⟩
      have HS1 := Hid.mk' (fun (u : World) (hu : Below wr.heap.size wr u) => (HSB.out u (HR.out.1.trans (hu.mono HR.out.1.size)) i hlt).mono fun e w' h => (⟨h.1, HR.out.1.trans ((hu.trans (h.2.mono hu.size)).mono HR.out.1.size), ((hu.trans (h.2.mono hu.size)).cell (p := ⟨w.heap.size, 1, none⟩) HR.out.2.2).trans hk2, HCL.out w' (HR.out.1.trans ((hu.trans (h.2.mono hu.size)).mono HR.out.1.size)) i hlt, Nat.lt_of_lt_of_le HR.out.2.2 (hu.trans (h.2.mono hu.size)).size⟩ :
        e = .returned (.string (bs (subT d (F i) N))) ∧ Below w.heap.size w w' ∧ w'.cell? ⟨w.heap.size, 1, none⟩ = some (.int .i64 d) ∧ w'.cell? ⟨b, off + i, none⟩ = some (.slice (A i) N (C i)) ∧ w.heap.size < w'.heap.size))
      have HTX : Hid (bs (allT d F N i) ++ bs (subT d (F i) N) = bs (allT d F N (i + 1))) := by show _ = _; rw [bs_append]; rfl
      have z1 : (bs (allT d F N i)).size ≤ 1696 := by rw [bs_size]; have := (HBD.out i).2; omega
      have z2 : (bs (subT d (F i) N)).size ≤ 424 := by rw [bs_size]; exact HSL.out i
      generalize bs (allT d F N i) = X1 at *
      generalize bs (subT d (F i) N) = X2 at *
      go_wp2_with fail
      go_region_with (first
        | (go_at_call 149; refine (HS1.out _ ?_).mono ?_; exact (Below.refl _ _).drew; rintro e u1 ⟨rfl, hb1, hn1, hn2, hn3⟩; have hSn := And.intro hn1 hn2; have HN := Hid.mk' (And.intro hb1 (And.intro hn1 hn3)); clear hb1 hn1 hn2 hn3 HS1))
      all_goals go_wp2
      all_goals
        (go_roundw
         case rel => exact ⟨i + 1, by omega, by go_num, by rw [HTX.out], HN.out⟩
         case measure => simp [intOf]; omega)
    · have e : i = n := by omega
      subst e
      go_wp2
      go_ret
      exact ⟨rfl, HR.out.1⟩
end Go.Proofs.YtfhmnplioghhiaaGreatDoor
