import Derived.Test.YtlncjgnomhpjnaaGreatDoorEKFrameMode
import Derived.Deep.RegionHeld3
import Derived.Deep.DeepCutAuto
/-
  Two channels in the document: reelref.pair, reelref.width, reelref.bitsOf.
-/
namespace Go.Proofs.YtlncjgnomhpjnaaGreatDoor
open Go.RowKit Go.Deep
set_option linter.unusedVariables false

def l1 (l r : Nat → Int) (m : Nat) : Nat → Int := if m ≤ 1 then l else if m = 2 then sideL l r else midL l r
def l2 (l r : Nat → Int) (m : Nat) : Nat → Int := if m = 0 ∨ m = 2 then r else sideL l r
def w1 (d m : Nat) : Nat := if m = 2 then d + 1 else d
def w2 (d m : Nat) : Nat := if m = 0 ∨ m = 2 then d else d + 1
theorem pairT_eq (d : Nat) (l r : Nat → Int) (n m : Nat) (hm : m < 4) : pairT d l r n m = subT (w1 d m) (l1 l r m) n ++ subT (w2 d m) (l2 l r m) n := by
  match m, hm with
  | 0, _ => rfl
  | 1, _ => rfl
  | 2, _ => rfl
  | 3, _ => rfl
theorem l1_fits {d : Nat} {l r : Nat → Int} {n : Nat} (hd : 1 ≤ d) (m : Nat) (hl : ∀ j, j < n → fitsB d (l j) = true) (hr : ∀ j, j < n → fitsB d (r j) = true) : ∀ j, j < n → fitsB (w1 d m) (l1 l r m j) = true := fun j hj => by
  unfold w1 l1
  by_cases h1 : m ≤ 1
  · rw [if_pos h1, if_neg (by omega)]; exact hl j hj
  · rw [if_neg h1]
    by_cases h2 : m = 2
    · rw [if_pos h2, if_pos h2]; exact side_fits hd (hl j hj) (hr j hj)
    · rw [if_neg h2, if_neg h2]; exact mid_fits (hl j hj) (hr j hj)
theorem l2_fits {d : Nat} {l r : Nat → Int} {n : Nat} (hd : 1 ≤ d) (m : Nat) (hl : ∀ j, j < n → fitsB d (l j) = true) (hr : ∀ j, j < n → fitsB d (r j) = true) : ∀ j, j < n → fitsB (w2 d m) (l2 l r m j) = true := fun j hj => by
  unfold w2 l2
  by_cases h1 : m = 0 ∨ m = 2
  · rw [if_pos h1, if_pos h1]; exact hr j hj
  · rw [if_neg h1, if_neg h1]; exact side_fits hd (hl j hj) (hr j hj)
theorem w1_bd (d m : Nat) (hd1 : 1 ≤ d) (hd : d ≤ 12) : 1 ≤ w1 d m ∧ w1 d m ≤ 13 := by unfold w1; split <;> omega
theorem w2_bd (d m : Nat) (hd1 : 1 ≤ d) (hd : d ≤ 12) : 1 ≤ w2 d m ∧ w2 d m ≤ 13 := by unfold w2; split <;> omega

/-- the document's pair -/
structure PairIs (e : Ending) (w w' : World) (n m : Nat) (l r : Nat → Int) : Prop where
  out : ∃ x y : Option Addr, ∃ c c' : Nat, e = .returned (.tuple #[.slice x n c, .slice y n c']) ∧ IntsAt w' x n (l1 l r m) ∧ IntsAt w' y n (l2 l r m) ∧
    (∀ z, x = some z → 0 < n → z.block < w'.heap.size) ∧ (∀ z, y = some z → 0 < n → z.block < w'.heap.size)
  below : Below w.heap.size w w'

theorem width0_any (d m : Nat) (w : World) (hd : d ≤ 12) (hm : m < 4) : Calls Tryz.prog 150 #[.int .i64 d, .int .i64 m, .int .i64 0] w fun e w' => e = .returned (.int .i64 (w1 d m)) ∧ w' = w := by
  match m, hm with
  | 0, _ => go_enter Tryz.func150, Tryz.ntmps150; go_wp2; go_ret; exact ⟨rfl, rfl⟩
  | 1, _ => go_enter Tryz.func150, Tryz.ntmps150; go_wp2; go_ret; exact ⟨rfl, rfl⟩
  | 2, _ => go_enter Tryz.func150, Tryz.ntmps150; go_wp2; go_ret; exact ⟨rfl, rfl⟩
  | 3, _ => go_enter Tryz.func150, Tryz.ntmps150; go_wp2; go_ret; exact ⟨rfl, rfl⟩
theorem width1_any (d m : Nat) (w : World) (hd : d ≤ 12) (hm : m < 4) : Calls Tryz.prog 150 #[.int .i64 d, .int .i64 m, .int .i64 1] w fun e w' => e = .returned (.int .i64 (w2 d m)) ∧ w' = w := by
  match m, hm with
  | 0, _ => go_enter Tryz.func150, Tryz.ntmps150; go_wp2; go_ret; exact ⟨rfl, rfl⟩
  | 1, _ => go_enter Tryz.func150, Tryz.ntmps150; go_wp2; go_ret; exact ⟨rfl, rfl⟩
  | 2, _ => go_enter Tryz.func150, Tryz.ntmps150; go_wp2; go_ret; exact ⟨rfl, rfl⟩
  | 3, _ => go_enter Tryz.func150, Tryz.ntmps150; go_wp2; go_ret; exact ⟨rfl, rfl⟩

theorem tdiv2 (a : Int) : (a.tmod 2 < 0 → a.tdiv 2 = a / 2 + 1) ∧ (¬ a.tmod 2 < 0 → a.tdiv 2 = a / 2) := by
  have h0 := Int.mul_tdiv_add_tmod a 2
  have h1 := Int.tmod_lt_of_pos a (show (0 : Int) < 2 by decide)
  have h2 : -2 < a.tmod 2 := by have := Int.lt_tmod_of_pos a (show (0 : Int) < 2 by decide); omega
  omega
theorem down2_any (a : Int) (w : World) (h : -2000000 ≤ a ∧ a ≤ 2000000) :
    Calls Tryz.prog 170 #[.int .i64 a, .int .i64 2] w fun e w' => e = .returned (.int .i64 (a / 2)) ∧ w' = w := by
  have ht := tdiv2 a
  by_cases hm : a.tmod 2 < 0
  · have hd : decide (a.tmod 2 < 0) = true := decide_eq_true hm
    have he : a.tdiv 2 = a / 2 + 1 := ht.1 hm
    clear ht
    go_enter Tryz.func170, Tryz.ntmps170
    go_wp2
    go_ret
    exact ⟨ret_int rfl, rfl⟩
  · have hd : decide (a.tmod 2 < 0) = false := decide_eq_false hm
    have he : a.tdiv 2 = a / 2 := ht.2 hm
    clear ht
    go_enter Tryz.func170, Tryz.ntmps170
    go_wp2
    go_ret
    exact ⟨ret_int rfl, rfl⟩


theorem pair_start (w : World) (n : Nat) (l r : Nat → Int) :
    ((w.alloc (.cells (madeCells #[.int .i64 0] n) 3)).alloc (.cells (madeCells #[.int .i64 0] n) 3)).rowIs w.heap.size 3 n (cutV 0 (sideL l r)) ∧ ((w.alloc (.cells (madeCells #[.int .i64 0] n) 3)).alloc (.cells (madeCells #[.int .i64 0] n) 3)).rowIs (w.heap.size + 1) 3 n (cutV 0 (midL l r)) ∧ Below w.heap.size w ((w.alloc (.cells (madeCells #[.int .i64 0] n) 3)).alloc (.cells (madeCells #[.int .i64 0] n) 3)) := by
  refine ⟨(((World.rowIs_made w (.int .i64 0) n 3).alloc _).congr fun i _ => by simp [cutV, cutI]), ?_, ((Below.refl _ _).alloc (Nat.le_refl _) _).alloc (by simp) _⟩
  have := World.rowIs_made (w.alloc (.cells (madeCells #[.int .i64 0] n) 3)) (.int .i64 0) n 3
  rw [World.size_alloc] at this
  exact this.congr fun i _ => by simp [cutV, cutI]

theorem pair_step {w wr : World} {n j : Nat} {l r : Nat → Int} (h : wr.rowIs w.heap.size 3 n (cutV j (sideL l r)) ∧ wr.rowIs (w.heap.size + 1) 3 n (cutV j (midL l r)) ∧ Below w.heap.size w wr) :
    ((wr.setCell ⟨w.heap.size, j, none⟩ (.int .i64 (l j - r j))).setCell ⟨w.heap.size + 1, j, none⟩ (.int .i64 ((l j + r j) / 2))).rowIs w.heap.size 3 n (cutV (j + 1) (sideL l r)) ∧
    ((wr.setCell ⟨w.heap.size, j, none⟩ (.int .i64 (l j - r j))).setCell ⟨w.heap.size + 1, j, none⟩ (.int .i64 ((l j + r j) / 2))).rowIs (w.heap.size + 1) 3 n (cutV (j + 1) (midL l r)) ∧
    Below w.heap.size w ((wr.setCell ⟨w.heap.size, j, none⟩ (.int .i64 (l j - r j))).setCell ⟨w.heap.size + 1, j, none⟩ (.int .i64 ((l j + r j) / 2))) := by
  refine ⟨?_, ?_, (h.2.2.setCell (p := ⟨w.heap.size, j, none⟩) (Nat.le_refl _) _).setCell (p := ⟨w.heap.size + 1, j, none⟩) (Nat.le_succ _) _⟩
  · exact (cutV_step rfl (h.1.set j _)).of_block (blk_setCell_other _ _ _ _ (by show w.heap.size ≠ w.heap.size + 1; omega))
  · exact cutV_step rfl ((h.2.1.of_block (blk_setCell_other _ _ _ _ (by show w.heap.size + 1 ≠ w.heap.size; omega))).set j _)

set_option maxHeartbeats 1000000 in
theorem pair_any (m : Nat) (a b : Option Addr) (n c c' : Nat) (l r : Nat → Int) (w : World) (hm : m < 4) (hn : n ≤ 32) (hbl : ∀ j, j < n → -4096 ≤ l j ∧ l j ≤ 4096) (hbr : ∀ j, j < n → -4096 ≤ r j ∧ r j ≤ 4096) (hI : IntsAt w a n l) (hJ : IntsAt w b n r)
    (hlow : ∀ y, a = some y → 0 < n → y.block < w.heap.size) (hlow2 : ∀ y, b = some y → 0 < n → y.block < w.heap.size) :
    Calls Tryz.prog 148 #[.int .i64 m, .slice a n c, .slice b n c'] w fun e w' => PairIs e w w' n m l r := by
  have hmk := run_make_row' (P := Tryz.prog) 29 3 (.int .i64 0) 8 Tryz.underlying29 infoInt rfl .i64 .i64 n (by omega) (by omega)
  have HI := Hid.mk' (fun u (h : Below w.heap.size w u) => hI.belowB h hlow)
  have HJ := Hid.mk' (fun u (h : Below w.heap.size w u) => hJ.belowB h hlow2)
  have HBL := Hid.mk' hbl
  have HBR := Hid.mk' hbr
  have HST := Hid.mk' (pair_start w n l r)
  have HLO := Hid.mk' (And.intro hlow hlow2)
  clear hI hlow hJ hlow2 hbl hbr
  go_enter Tryz.func148, Tryz.ntmps148
  go_wp2
  clear hmk
  go_loopw [10] (fun i wr => ∃ j : Nat, j ≤ n ∧ i = .int .i64 j ∧ Hid (wr.rowIs w.heap.size 3 n (cutV j (sideL l r)) ∧ wr.rowIs (w.heap.size + 1) 3 n (cutV j (midL l r)) ∧ Below w.heap.size w wr)) (fun i _ => n - (intOf i).toNat)
  case atStart => exact ⟨0, Nat.zero_le _, rfl, HST.out⟩
  case round =>
    obtain ⟨j, hj, rfl, HR⟩ := hrel
    by_cases hlt : j < n
    · obtain ⟨bb, off, hx, hc⟩ := (HI.out wr HR.out.2.2).open (by omega)
      obtain ⟨bb2, off2, hx2, hc2⟩ := (HJ.out wr HR.out.2.2).open (by omega)
      have hcj := hc j hlt
      have hcj2 := hc2 j hlt
      have hn1 : bb < w.heap.size := HLO.out.1 _ hx (by omega)
      have hn2 : bb2 < w.heap.size := HLO.out.2 _ hx2 (by omega)
      have hcs := HR.out.1.cell hlt
      have hfs := HR.out.1.frozen j
      have hcm := HR.out.2.1.cell hlt
      have hfm := HR.out.2.1.frozen j
      unfold cutV at hcs hcm
      have b1 := HBL.out j hlt
      have b2 := HBR.out j hlt
      have wf : IntKind.i64.wrap (l j - r j) = l j - r j := by rw [IntKind.wrap_i64]; omega
      have wf2 : IntKind.i64.wrap (l j + r j) = l j + r j := by rw [IntKind.wrap_i64]; omega
      have HD := Hid.mk' (fun u => down2_any (l j + r j) u (by omega))
      clear hc hc2
      subst hx hx2
      go_wp2
      go_region
      all_goals go_wp2
      go_region_with (go_at_call 170; refine (HD.out _).mono ?_; rintro e w5 ⟨rfl, hw⟩; subst w5)
      all_goals go_wp2
      all_goals
        (go_roundw
         case rel => exact ⟨j + 1, by omega, by go_num, (pair_step HR.out).1, (pair_step HR.out).2.1, (pair_step HR.out).2.2.drew.drew⟩
         case measure => simp [intOf]; omega)
    · have e : j = n := by omega
      subst e
      have HL1 := Hid.mk' (HI.out wr HR.out.2.2)
      have HL2 := Hid.mk' (HJ.out wr HR.out.2.2)
      have HZ1 : Hid (∀ z, a = some z → 0 < j → z.block < wr.heap.size) := fun z hz h0 => Nat.lt_of_lt_of_le (HLO.out.1 z hz h0) HR.out.2.2.size
      have HZ2 : Hid (∀ z, b = some z → 0 < j → z.block < wr.heap.size) := fun z hz h0 => Nat.lt_of_lt_of_le (HLO.out.2 z hz h0) HR.out.2.2.size
      have HZ3 : Hid (∀ z, some (⟨w.heap.size, 0, none⟩ : Addr) = some z → 0 < j → z.block < wr.heap.size) := fun z hz _ => by cases hz; exact HR.out.1.lt
      have HZ4 : Hid (∀ z, some (⟨w.heap.size + 1, 0, none⟩ : Addr) = some z → 0 < j → z.block < wr.heap.size) := fun z hz _ => by cases hz; exact HR.out.2.1.lt
      rcases (show m = 0 ∨ m = 1 ∨ m = 2 ∨ m = 3 by omega) with e | e | e | e <;> subst e
      · go_wp2
        go_ret2
        exact ⟨⟨a, b, c, c', rfl, HL1.out, HL2.out, HZ1.out, HZ2.out⟩, HR.out.2.2⟩
      · go_wp2
        go_ret2
        exact ⟨⟨a, _, c, _, rfl, HL1.out, cutV_ints HR.out.1, HZ1.out, HZ3.out⟩, HR.out.2.2⟩
      · go_wp2
        go_ret2
        exact ⟨⟨_, b, _, c', rfl, cutV_ints HR.out.1, HL2.out, HZ3.out, HZ2.out⟩, HR.out.2.2⟩
      · go_wp2
        go_ret2
        exact ⟨⟨_, _, _, _, rfl, cutV_ints HR.out.2.1, cutV_ints HR.out.1, HZ4.out, HZ3.out⟩, HR.out.2.2⟩
end Go.Proofs.YtlncjgnomhpjnaaGreatDoor

/-
  The document's bits of a mode: reelref.bitsOf.
-/
namespace Go.Proofs.YtlncjgnomhpjnaaGreatDoor
open Go.RowKit Go.Deep
set_option linter.unusedVariables false

set_option maxRecDepth 4000 in
set_option maxHeartbeats 1000000 in
theorem bitsPair_any (c2 c3 c4 c5 c6 c7 : Int) (d m : Nat) (b off cap : Nat) (A : Nat → Option Addr) (N : Nat) (C : Nat → Nat) (F : Nat → Nat → Int) (w : World) (hm : m < 4) (hd1 : 1 ≤ d) (hd : d ≤ 12) (hN1 : 1 ≤ N) (hN : N ≤ 32)
    (hf : ∀ i, i < 2 → ∀ j, j < N → fitsB d (F i j) = true) (hc0 : w.cell? ⟨b, off, none⟩ = some (.slice (A 0) N (C 0))) (hc1 : w.cell? ⟨b, off + 1, none⟩ = some (.slice (A 1) N (C 1))) (hbl : b < w.heap.size) (hI : ∀ i, i < 2 → IntsAt w (A i) N (F i)) (hlow : ∀ i, i < 2 → ∀ x, A i = some x → 0 < N → x.block < w.heap.size) (hT : TabAt w 3) (hTl : 3 < w.heap.size) :
    Calls Tryz.prog 109 #[.agg #[.int .i64 2, .int .i64 d, .int .i64 c2, .int .i64 c3, .int .i64 c4, .int .i64 c5, .int .i64 c6, .int .i64 c7], .int .i64 m, .slice (some ⟨b, off, none⟩) 2 cap] w fun e w' =>
      e = .returned (.string (bs (pairT d (F 0) (F 1) N m))) ∧ Below w.heap.size w w' := by
  have bl : ∀ i, i < 2 → ∀ j, j < N → -4096 ≤ F i j ∧ F i j ≤ 4096 := fun i hi j hj => fits_bd (hf i hi j hj) (by omega)
  have tb : ∀ u, Below w.heap.size w u → TabAt u 3 := fun u hu r c hr hc => (hu.cell (p := ⟨3, 4 * r + c, none⟩) hTl).trans (hT r c hr hc)
  have HPR := Hid.mk' (fun (u : World) (hu : Below w.heap.size w u) => pair_any m (A 0) (A 1) N (C 0) (C 1) (F 0) (F 1) u hm hN (bl 0 (by omega)) (bl 1 (by omega)) ((hI 0 (by omega)).below hu (hlow 0 (by omega))) ((hI 1 (by omega)).below hu (hlow 1 (by omega))) (fun y hy h0 => Nat.lt_of_lt_of_le (hlow 0 (by omega) y hy h0) hu.size) (fun y hy h0 => Nat.lt_of_lt_of_le (hlow 1 (by omega) y hy h0) hu.size))
  have hw1 := w1_bd d m hd1 hd
  have hw2 := w2_bd d m hd1 hd
  have HS1 := Hid.mk' (fun (u : World) (hu : Below w.heap.size w u) (x : Option Addr) (c : Nat) (hx : IntsAt u x N (l1 (F 0) (F 1) m)) (hl : ∀ z, x = some z → 0 < N → z.block < u.heap.size) => rsub_any x N c (w1 d m) (l1 (F 0) (F 1) m) u hN1 hN hw1.1 hw1.2 (l1_fits hd1 m (hf 0 (by omega)) (hf 1 (by omega))) hx hl (tb u hu) (Nat.lt_of_lt_of_le hTl hu.size))
  have HS2 := Hid.mk' (fun (u : World) (hu : Below w.heap.size w u) (x : Option Addr) (c : Nat) (hx : IntsAt u x N (l2 (F 0) (F 1) m)) (hl : ∀ z, x = some z → 0 < N → z.block < u.heap.size) => rsub_any x N c (w2 d m) (l2 (F 0) (F 1) m) u hN1 hN hw2.1 hw2.2 (l2_fits hd1 m (hf 0 (by omega)) (hf 1 (by omega))) hx hl (tb u hu) (Nat.lt_of_lt_of_le hTl hu.size))
  have HW0 := Hid.mk' (fun u => width0_any d m u hd hm)
  have HW1 := Hid.mk' (fun u => width1_any d m u hd hm)
  have HTX : Hid (bs (subT (w1 d m) (l1 (F 0) (F 1) m) N) ++ bs (subT (w2 d m) (l2 (F 0) (F 1) m) N) = bs (pairT d (F 0) (F 1) N m)) := by show _ = _; rw [bs_append, pairT_eq _ _ _ _ _ hm]
  have z1 : (bs (subT (w1 d m) (l1 (F 0) (F 1) m) N)).size ≤ 424 := by rw [bs_size]; exact subT_le' _ _ N hN1 hN hw1.2
  have z2 : (bs (subT (w2 d m) (l2 (F 0) (F 1) m) N)).size ≤ 424 := by rw [bs_size]; exact subT_le' _ _ N hN1 hN hw2.2
  rw [← HTX.out]
  clear hf hI hlow hT bl tb HTX hw1 hw2
  generalize bs (subT (w1 d m) (l1 (F 0) (F 1) m) N) = X1 at *
  generalize bs (subT (w2 d m) (l2 (F 0) (F 1) m) N) = X2 at *
  generalize w1 d m = W1 at *
  generalize w2 d m = W2 at *
  have hb0 : Below w.heap.size w (w.alloc (.cells #[.int .i64 2, .int .i64 d, .int .i64 c2, .int .i64 c3, .int .i64 c4, .int .i64 c5, .int .i64 c6, .int .i64 c7] 23)) := (Below.refl _ _).alloc (Nat.le_refl _) _
  have HB0 := Hid.mk' hb0
  clear hb0
  have hS0 : (w.alloc (.cells #[.int .i64 2, .int .i64 d, .int .i64 c2, .int .i64 c3, .int .i64 c4, .int .i64 c5, .int .i64 c6, .int .i64 c7] 23)).drew.cell? ⟨b, off, none⟩ = some (.slice (A 0) N (C 0)) ∧ (w.alloc (.cells #[.int .i64 2, .int .i64 d, .int .i64 c2, .int .i64 c3, .int .i64 c4, .int .i64 c5, .int .i64 c6, .int .i64 c7] 23)).drew.cell? ⟨b, off + 1, none⟩ = some (.slice (A 1) N (C 1)) := keep_al (u := w) hbl ⟨hc0, hc1⟩
  have HD0 : Hid ((w.alloc (.cells #[.int .i64 2, .int .i64 d, .int .i64 c2, .int .i64 c3, .int .i64 c4, .int .i64 c5, .int .i64 c6, .int .i64 c7] 23)).drew.cell? ⟨w.heap.size, 1, none⟩ = some (.int .i64 d) ∧ w.heap.size < (w.alloc (.cells #[.int .i64 2, .int .i64 d, .int .i64 c2, .int .i64 c3, .int .i64 c4, .int .i64 c5, .int .i64 c6, .int .i64 c7] 23)).drew.heap.size) := by
    refine ⟨?_, ?_⟩
    · show (w.alloc (.cells #[.int .i64 2, .int .i64 d, .int .i64 c2, .int .i64 c3, .int .i64 c4, .int .i64 c5, .int .i64 c6, .int .i64 c7] 23)).cell? _ = _
      simp
    · show w.heap.size < (w.alloc (.cells #[.int .i64 2, .int .i64 d, .int .i64 c2, .int .i64 c3, .int .i64 c4, .int .i64 c5, .int .i64 c6, .int .i64 c7] 23)).heap.size
      simp
  have HKS := Hid.mk' (fun (u : World) (hu : Below w.heap.size w u) => And.intro ((hu.cell (p := ⟨b, off, none⟩) hbl).trans hc0) ((hu.cell (p := ⟨b, off + 1, none⟩) hbl).trans hc1))
  go_enter Tryz.func109, Tryz.ntmps109
  go_wp2_with fail
  go_region_held3 (fun w' => w'.cell? ⟨b, off, none⟩ = some (.slice (A 0) N (C 0)) ∧ w'.cell? ⟨b, off + 1, none⟩ = some (.slice (A 1) N (C 1)))
    (first | with_reducible exact hS0 | with_reducible exact hS1)
    (first
    | (go_at_call 148; refine (HPR.out _ ?_).mono ?_; exact HB0.out.drew; rintro e u1 ⟨⟨x, y, cx, cy, rfl, hx, hy, lx, ly⟩, hb1⟩; have HB1 := Hid.mk' (HB0.out.drew.trans (hb1.mono HB0.out.size)); have hS1 := HKS.out _ HB1.out; have hd1 : u1.cell? ⟨w.heap.size, 1, none⟩ = some (.int .i64 d) := (hb1.cell (p := ⟨w.heap.size, 1, none⟩) HD0.out.2).trans HD0.out.1; have hs1 : w.heap.size < u1.heap.size := Nat.lt_of_lt_of_le HD0.out.2 hb1.size; have HX := Hid.mk' (And.intro hx lx); have HY := Hid.mk' (And.intro hy ly); clear hx hy lx ly hb1 HPR HB0))
  go_wp2_with (first
    | (go_at_call 150; refine (HW0.out _).mono ?_; rintro e w9 ⟨rfl, hw⟩; subst w9; clear HW0)
    | (go_at_call 150; refine (HW1.out _).mono ?_; rintro e w9 ⟨rfl, hw⟩; subst w9; clear HW1)
    | (go_at_call 149; refine (HS1.out _ ?_ _ _ ?_ ?_).mono ?_; exact HB1.out; exact HX.out.1; exact HX.out.2; rintro e u2 ⟨rfl, hb2⟩; have hd2 : u2.cell? ⟨w.heap.size, 1, none⟩ = some (.int .i64 d) := (hb2.cell (p := ⟨w.heap.size, 1, none⟩) hs1).trans hd1; have hs2 : w.heap.size < u2.heap.size := Nat.lt_of_lt_of_le hs1 hb2.size; have HB2 := Hid.mk' (HB1.out.trans (hb2.mono HB1.out.size)); have HY2 := Hid.mk' (And.intro (HY.out.1.belowB hb2 HY.out.2) (fun z hz h0 => Nat.lt_of_lt_of_le (HY.out.2 z hz h0) hb2.size)); clear hb2 HS1 HB1 HX HY)
    | (go_at_call 149; refine (HS2.out _ ?_ _ _ ?_ ?_).mono ?_; exact HB2.out; exact HY2.out.1; exact HY2.out.2; rintro e u3 ⟨rfl, hb3⟩; have HB3 := Hid.mk' (HB2.out.trans (hb3.mono HB2.out.size)); clear hb3 HS2 HB2 HY2))
  go_ret
  exact ⟨rfl, HB3.out⟩

set_option maxRecDepth 4000 in
set_option maxHeartbeats 1000000 in
theorem bitsAll_any (c2 c3 c4 c5 c6 c7 : Int) (d : Nat) (b off n cap : Nat) (A : Nat → Option Addr) (N : Nat) (C : Nat → Nat) (F : Nat → Nat → Int) (w : World) (hn2 : n ≠ 2) (hn4 : n ≤ 4) (hd1 : 1 ≤ d) (hd : d ≤ 12) (hN1 : 1 ≤ N) (hN : N ≤ 32)
    (hf : ∀ i, i < n → ∀ j, j < N → fitsB d (F i j) = true) (hc : ∀ i, i < n → w.cell? ⟨b, off + i, none⟩ = some (.slice (A i) N (C i))) (hbl : b < w.heap.size) (hI : ∀ i, i < n → IntsAt w (A i) N (F i)) (hlow : ∀ i, i < n → ∀ x, A i = some x → 0 < N → x.block < w.heap.size) (hT : TabAt w 3) (hTl : 3 < w.heap.size) :
    Calls Tryz.prog 109 #[.agg #[.int .i64 n, .int .i64 d, .int .i64 c2, .int .i64 c3, .int .i64 c4, .int .i64 c5, .int .i64 c6, .int .i64 c7], .int .i64 0, .slice (some ⟨b, off, none⟩) n cap] w fun e w' =>
      e = .returned (.string (bs (allT d F N n))) ∧ Below w.heap.size w w' := by
  have HSB := Hid.mk' (fun (u : World) (hu : Below w.heap.size w u) i (hi : i < n) => rsub_any (A i) N (C i) d (F i) u hN1 hN hd1 (by omega) (hf i hi) ((hI i hi).below hu (hlow i hi)) (fun y hy h0 => Nat.lt_of_lt_of_le (hlow i hi y hy h0) hu.size) (fun r c hr hc => (hu.cell (p := ⟨3, 4 * r + c, none⟩) hTl).trans (hT r c hr hc)) (Nat.lt_of_lt_of_le hTl hu.size))
  have HCL := Hid.mk' (fun (u : World) (hu : Below w.heap.size w u) i (hi : i < n) => (hu.cell (p := ⟨b, off + i, none⟩) hbl).trans (hc i hi))
  have HBD := Hid.mk' (allT_bd d F N hN1 hN hd)
  have HSL := Hid.mk' (fun i => subT_le' d (F i) N hN1 hN (by omega))
  have hb0 : Below w.heap.size w (w.alloc (.cells #[.int .i64 n, .int .i64 d, .int .i64 c2, .int .i64 c3, .int .i64 c4, .int .i64 c5, .int .i64 c6, .int .i64 c7] 23)) := (Below.refl _ _).alloc (Nat.le_refl _) _
  have HD0 : Hid (Below w.heap.size w (w.alloc (.cells #[.int .i64 n, .int .i64 d, .int .i64 c2, .int .i64 c3, .int .i64 c4, .int .i64 c5, .int .i64 c6, .int .i64 c7] 23)) ∧ (w.alloc (.cells #[.int .i64 n, .int .i64 d, .int .i64 c2, .int .i64 c3, .int .i64 c4, .int .i64 c5, .int .i64 c6, .int .i64 c7] 23)).cell? ⟨w.heap.size, 1, none⟩ = some (.int .i64 d) ∧ w.heap.size < (w.alloc (.cells #[.int .i64 n, .int .i64 d, .int .i64 c2, .int .i64 c3, .int .i64 c4, .int .i64 c5, .int .i64 c6, .int .i64 c7] 23)).heap.size) := ⟨hb0, by simp, by simp⟩
  have hne : ((n : Int) == 2) = false := by simp; omega
  clear hf hI hlow hT hc hb0
  go_enter Tryz.func109, Tryz.ntmps109
  go_wp2
  go_loopw [11, 12] (fun sv iv wr => ∃ i : Nat, i ≤ n ∧ iv = .int .i64 i ∧ sv = .string (bs (allT d F N i)) ∧ Hid (Below w.heap.size w wr ∧ wr.cell? ⟨w.heap.size, 1, none⟩ = some (.int .i64 d) ∧ w.heap.size < wr.heap.size)) (fun _ iv _ => n - (intOf iv).toNat)
  case atStart => exact ⟨0, Nat.zero_le _, rfl, rfl, HD0.out⟩
  case round =>
    obtain ⟨i, hi, rfl, rfl, HR⟩ := hrel
    by_cases hlt : i < n
    · have hk1 := HCL.out wr HR.out.1 i hlt
      have hk2 := HR.out.2.1
      have hS0 : wr.drew.cell? ⟨w.heap.size, 1, none⟩ = some (.int .i64 d) ∧ wr.drew.cell? ⟨b, off + i, none⟩ = some (.slice (A i) N (C i)) := ⟨hk2, hk1⟩
      have HS1 := Hid.mk' (fun (u : World) (hu : Below wr.heap.size wr u) => (HSB.out u (HR.out.1.trans (hu.mono HR.out.1.size)) i hlt).mono fun e w' h => (⟨h.1, HR.out.1.trans ((hu.trans (h.2.mono hu.size)).mono HR.out.1.size), ((hu.trans (h.2.mono hu.size)).cell (p := ⟨w.heap.size, 1, none⟩) HR.out.2.2).trans hk2, HCL.out w' (HR.out.1.trans ((hu.trans (h.2.mono hu.size)).mono HR.out.1.size)) i hlt, Nat.lt_of_lt_of_le HR.out.2.2 (hu.trans (h.2.mono hu.size)).size⟩ :
        e = .returned (.string (bs (subT d (F i) N))) ∧ Below w.heap.size w w' ∧ w'.cell? ⟨w.heap.size, 1, none⟩ = some (.int .i64 d) ∧ w'.cell? ⟨b, off + i, none⟩ = some (.slice (A i) N (C i)) ∧ w.heap.size < w'.heap.size))
      have HTX : Hid (bs (allT d F N i) ++ bs (subT d (F i) N) = bs (allT d F N (i + 1))) := by show _ = _; rw [bs_append]; rfl
      have z1 : (bs (allT d F N i)).size ≤ 1696 := by rw [bs_size]; have := (HBD.out i).2; omega
      have z2 : (bs (subT d (F i) N)).size ≤ 424 := by rw [bs_size]; exact HSL.out i
      generalize bs (allT d F N i) = X1 at *
      generalize bs (subT d (F i) N) = X2 at *
      go_wp2_with fail
      go_region_with (first
        | (go_at_call 149; refine (HS1.out _ ?_).mono ?_; exact (Below.refl _ _).drew; rintro e u1 ⟨rfl, hb1, hn1, hn2, hn3⟩; have hSn := And.intro hn1 hn2; have HN := Hid.mk' (And.intro hb1 (And.intro hn1 hn3)); clear hb1 hn1 hn2 hn3 HS1))
      all_goals go_wp2
      all_goals
        (go_roundw
         case rel => exact ⟨i + 1, by omega, by go_num, by rw [HTX.out], HN.out⟩
         case measure => simp [intOf]; omega)
    · have e : i = n := by omega
      subst e
      go_wp2
      go_ret
      exact ⟨rfl, HR.out.1⟩
end Go.Proofs.YtlncjgnomhpjnaaGreatDoor

