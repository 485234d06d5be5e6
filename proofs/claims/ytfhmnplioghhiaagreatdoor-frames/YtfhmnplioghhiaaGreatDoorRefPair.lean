/-
  Two channels in the document: reelref.pair, reelref.width, reelref.bitsOf.
-/
import Derived.Test.YtfhmnplioghhiaaGreatDoorFrameMode
namespace Go.Proofs.YtfhmnplioghhiaaGreatDoor
open Go.RowKit Go.Deep
set_option linter.unusedVariables false

def l1 (l r : Nat → Int) (m : Nat) : Nat → Int := if m ≤ 1 then l else if m = 2 then sideL l r else midL l r
def l2 (l r : Nat → Int) (m : Nat) : Nat → Int := if m = 0 ∨ m = 2 then r else sideL l r
def w1 (d m : Nat) : Nat := if m = 2 then d + 1 else d
def w2 (d m : Nat) : Nat := if m = 0 ∨ m = 2 then d else d + 1
theorem pairT_eq (d : Nat) (l r : Nat → Int) (n m : Nat) (hm : m < 4) : pairT d l r n m = subT (w1 d m) (l1 l r m) n ++ subT (w2 d m) (l2 l r m) n := by
  match m, hm with
  | 0, _ => rfl
  | 1, _ => rfl
  | 2, _ => rfl
  | 3, _ => rfl
theorem l1_fits {d : Nat} {l r : Nat → Int} {n : Nat} (hd : 1 ≤ d) (m : Nat) (hl : ∀ j, j < n → fitsB d (l j) = true) (hr : ∀ j, j < n → fitsB d (r j) = true) : ∀ j, j < n → fitsB (w1 d m) (l1 l r m j) = true := fun j hj => by
  unfold w1 l1
  by_cases h1 : m ≤ 1
  · rw [if_pos h1, if_neg (by omega)]; exact hl j hj
  · rw [if_neg h1]
    by_cases h2 : m = 2
    · rw [if_pos h2, if_pos h2]; exact side_fits hd (hl j hj) (hr j hj)
    · rw [if_neg h2, if_neg h2]; exact mid_fits (hl j hj) (hr j hj)
theorem l2_fits {d : Nat} {l r : Nat → Int} {n : Nat} (hd : 1 ≤ d) (m : Nat) (hl : ∀ j, j < n → fitsB d (l j) = true) (hr : ∀ j, j < n → fitsB d (r j) = true) : ∀ j, j < n → fitsB (w2 d m) (l2 l r m j) = true := fun j hj => by
  unfold w2 l2
  by_cases h1 : m = 0 ∨ m = 2
  · rw [if_pos h1, if_pos h1]; exact hr j hj
  · rw [if_neg h1, if_neg h1]; exact side_fits hd (hl j hj) (hr j hj)
theorem w1_bd (d m : Nat) (hd1 : 1 ≤ d) (hd : d ≤ 12) : 1 ≤ w1 d m ∧ w1 d m ≤ 13 := by unfold w1; split <;> omega
theorem w2_bd (d m : Nat) (hd1 : 1 ≤ d) (hd : d ≤ 12) : 1 ≤ w2 d m ∧ w2 d m ≤ 13 := by unfold w2; split <;> omega

/-- the document's pair -/
structure PairIs (e : Ending) (w w' : World) (n m : Nat) (l r : Nat → Int) : Prop where
  out : ∃ x y : Option Addr, ∃ c c' : Nat, e = .returned (.tuple #[.slice x n c, .slice y n c']) ∧ IntsAt w' x n (l1 l r m) ∧ IntsAt w' y n (l2 l r m) ∧
    (∀ z, x = some z → 0 < n → z.block < w'.heap.size) ∧ (∀ z, y = some z → 0 < n → z.block < w'.heap.size)
  below : Below w.heap.size w w'

theorem width0_any (d m : Nat) (w : World) (hd : d ≤ 12) (hm : m < 4) : Calls Tryz.prog 150 #[.int .i64 d, .int .i64 m, .int .i64 0] w fun e w' => e = .returned (.int .i64 (w1 d m)) ∧ w' = w := by
  match m, hm with
  | 0, _ => go_enter Tryz.func150, Tryz.ntmps150; go_wp2; go_ret; exact ⟨rfl, rfl⟩
  | 1, _ => go_enter Tryz.func150, Tryz.ntmps150; go_wp2; go_ret; exact ⟨rfl, rfl⟩
  | 2, _ => go_enter Tryz.func150, Tryz.ntmps150; go_wp2; go_ret; exact ⟨rfl, rfl⟩
  | 3, _ => go_enter Tryz.func150, Tryz.ntmps150; go_wp2; go_ret; exact ⟨rfl, rfl⟩
theorem width1_any (d m : Nat) (w : World) (hd : d ≤ 12) (hm : m < 4) : Calls Tryz.prog 150 #[.int .i64 d, .int .i64 m, .int .i64 1] w fun e w' => e = .returned (.int .i64 (w2 d m)) ∧ w' = w := by
  match m, hm with
  | 0, _ => go_enter Tryz.func150, Tryz.ntmps150; go_wp2; go_ret; exact ⟨rfl, rfl⟩
  | 1, _ => go_enter Tryz.func150, Tryz.ntmps150; go_wp2; go_ret; exact ⟨rfl, rfl⟩
  | 2, _ => go_enter Tryz.func150, Tryz.ntmps150; go_wp2; go_ret; exact ⟨rfl, rfl⟩
  | 3, _ => go_enter Tryz.func150, Tryz.ntmps150; go_wp2; go_ret; exact ⟨rfl, rfl⟩

theorem tdiv2 (a : Int) : (a.tmod 2 < 0 → a.tdiv 2 = a / 2 + 1) ∧ (¬ a.tmod 2 < 0 → a.tdiv 2 = a / 2) := by
  have h0 := Int.mul_tdiv_add_tmod a 2
  have h1 := Int.tmod_lt_of_pos a (show (0 : Int) < 2 by decide)
  have h2 : -2 < a.tmod 2 := by have := Int.lt_tmod_of_pos a (show (0 : Int) < 2 by decide); omega
  omega
theorem down2_any (a : Int) (w : World) (h : -2000000 ≤ a ∧ a ≤ 2000000) :
    Calls Tryz.prog 167 #[.int .i64 a, .int .i64 2] w fun e w' => e = .returned (.int .i64 (a / 2)) ∧ w' = w := by
  have ht := tdiv2 a
  by_cases hm : a.tmod 2 < 0
  · have hd : decide (a.tmod 2 < 0) = true := decide_eq_true hm
    have he : a.tdiv 2 = a / 2 + 1 := ht.1 hm
    clear ht
    go_enter Tryz.func167, Tryz.ntmps167
    go_wp2
    go_ret
    exact ⟨ret_int rfl, rfl⟩
  · have hd : decide (a.tmod 2 < 0) = false := decide_eq_false hm
    have he : a.tdiv 2 = a / 2 := ht.2 hm
    clear ht
    go_enter Tryz.func167, Tryz.ntmps167
    go_wp2
    go_ret
    exact ⟨ret_int rfl, rfl⟩


theorem pair_start (w : World) (n : Nat) (l r : Nat → Int) :
    ((w.alloc (.cells (madeCells #[.int .i64 0] n) 3)).alloc (.cells (madeCells #[.int .i64 0] n) 3)).rowIs w.heap.size 3 n (cutV 0 (sideL l r)) ∧ ((w.alloc (.cells (madeCells #[.int .i64 0] n) 3)).alloc (.cells (madeCells #[.int .i64 0] n) 3)).rowIs (w.heap.size + 1) 3 n (cutV 0 (midL l r)) ∧ Below w.heap.size w ((w.alloc (.cells (madeCells #[.int .i64 0] n) 3)).alloc (.cells (madeCells #[.int .i64 0] n) 3)) := by
  refine ⟨(((World.rowIs_made w (.int .i64 0) n 3).alloc _).congr fun i _ => by simp [cutV, cutI]), ?_, ((Below.refl _ _).alloc (Nat.le_refl _) _).alloc (by simp) _⟩
  have := World.rowIs_made (w.alloc (.cells (madeCells #[.int .i64 0] n) 3)) (.int .i64 0) n 3
  rw [World.size_alloc] at this
  exact this.congr fun i _ => by simp [cutV, cutI]

theorem pair_step {w wr : World} {n j : Nat} {l r : Nat → Int} (h : wr.rowIs w.heap.size 3 n (cutV j (sideL l r)) ∧ wr.rowIs (w.heap.size + 1) 3 n (cutV j (midL l r)) ∧ Below w.heap.size w wr) :
    ((wr.setCell ⟨w.heap.size, j, none⟩ (.int .i64 (l j - r j))).setCell ⟨w.heap.size + 1, j, none⟩ (.int .i64 ((l j + r j) / 2))).rowIs w.heap.size 3 n (cutV (j + 1) (sideL l r)) ∧
    ((wr.setCell ⟨w.heap.size, j, none⟩ (.int .i64 (l j - r j))).setCell ⟨w.heap.size + 1, j, none⟩ (.int .i64 ((l j + r j) / 2))).rowIs (w.heap.size + 1) 3 n (cutV (j + 1) (midL l r)) ∧
    Below w.heap.size w ((wr.setCell ⟨w.heap.size, j, none⟩ (.int .i64 (l j - r j))).setCell ⟨w.heap.size + 1, j, none⟩ (.int .i64 ((l j + r j) / 2))) := by
  refine ⟨?_, ?_, (h.2.2.setCell (p := ⟨w.heap.size, j, none⟩) (Nat.le_refl _) _).setCell (p := ⟨w.heap.size + 1, j, none⟩) (Nat.le_succ _) _⟩
  · exact (cutV_step rfl (h.1.set j _)).of_block (blk_setCell_other _ _ _ _ (by show w.heap.size ≠ w.heap.size + 1; omega))
  · exact cutV_step rfl ((h.2.1.of_block (blk_setCell_other _ _ _ _ (by show w.heap.size + 1 ≠ w.heap.size; omega))).set j _)

set_option maxHeartbeats 1000000 in
theorem pair_any (m : Nat) (a b : Option Addr) (n c c' : Nat) (l r : Nat → Int) (w : World) (hm : m < 4) (hn : n ≤ 32) (hbl : ∀ j, j < n → -4096 ≤ l j ∧ l j ≤ 4096) (hbr : ∀ j, j < n → -4096 ≤ r j ∧ r j ≤ 4096) (hI : IntsAt w a n l) (hJ : IntsAt w b n r)
    (hlow : ∀ y, a = some y → 0 < n → y.block < w.heap.size) (hlow2 : ∀ y, b = some y → 0 < n → y.block < w.heap.size) :
    Calls Tryz.prog 148 #[.int .i64 m, .slice a n c, .slice b n c'] w fun e w' => PairIs e w w' n m l r := by
  have hmk := run_make_row' (P := Tryz.prog) 29 3 (.int .i64 0) 8 Tryz.underlying29 infoInt rfl .i64 .i64 n (by omega) (by omega)
  have HI := Hid.mk' (fun u (h : Below w.heap.size w u) => hI.belowB h hlow)
  have HJ := Hid.mk' (fun u (h : Below w.heap.size w u) => hJ.belowB h hlow2)
  have HBL := Hid.mk' hbl
  have HBR := Hid.mk' hbr
  have HST := Hid.mk' (pair_start w n l r)
  have HLO := Hid.mk' (And.intro hlow hlow2)
  clear hI hlow hJ hlow2 hbl hbr
  go_enter Tryz.func148, Tryz.ntmps148
  go_wp2
  clear hmk
  go_loopw [10] (fun i wr => ∃ j : Nat, j ≤ n ∧ i = .int .i64 j ∧ Hid (wr.rowIs w.heap.size 3 n (cutV j (sideL l r)) ∧ wr.rowIs (w.heap.size + 1) 3 n (cutV j (midL l r)) ∧ Below w.heap.size w wr)) (fun i _ => n - (intOf i).toNat)
  case atStart => exact ⟨0, Nat.zero_le _, rfl, HST.out⟩
  case round =>
    obtain ⟨j, hj, rfl, HR⟩ := hrel
    by_cases hlt : j < n
    · obtain ⟨bb, off, hx, hc⟩ := (HI.out wr HR.out.2.2).open (by omega)
      obtain ⟨bb2, off2, hx2, hc2⟩ := (HJ.out wr HR.out.2.2).open (by omega)
      have hcj := hc j hlt
      have hcj2 := hc2 j hlt
      have hn1 : bb < w.heap.size := HLO.out.1 _ hx (by omega)
      have hn2 : bb2 < w.heap.size := HLO.out.2 _ hx2 (by omega)
      have hcs := HR.out.1.cell hlt
      have hfs := HR.out.1.frozen j
      have hcm := HR.out.2.1.cell hlt
      have hfm := HR.out.2.1.frozen j
      unfold cutV at hcs hcm
      have b1 := HBL.out j hlt
      have b2 := HBR.out j hlt
      have wf : IntKind.i64.wrap (l j - r j) = l j - r j := by rw [IntKind.wrap_i64]; omega
      have wf2 : IntKind.i64.wrap (l j + r j) = l j + r j := by rw [IntKind.wrap_i64]; omega
      have HD := Hid.mk' (fun u => down2_any (l j + r j) u (by omega))
      clear hc hc2
      subst hx hx2
      go_wp2
      go_region
      all_goals go_wp2
      go_region_with (go_at_call 167; refine (HD.out _).mono ?_; rintro e w5 ⟨rfl, hw⟩; subst w5)
      all_goals go_wp2
      all_goals
        (go_roundw
         case rel => exact ⟨j + 1, by omega, by go_num, (pair_step HR.out).1, (pair_step HR.out).2.1, (pair_step HR.out).2.2.drew.drew⟩
         case measure => simp [intOf]; omega)
    · have e : j = n := by omega
      subst e
      have HL1 := Hid.mk' (HI.out wr HR.out.2.2)
      have HL2 := Hid.mk' (HJ.out wr HR.out.2.2)
      have HZ1 : Hid (∀ z, a = some z → 0 < j → z.block < wr.heap.size) := fun z hz h0 => Nat.lt_of_lt_of_le (HLO.out.1 z hz h0) HR.out.2.2.size
      have HZ2 : Hid (∀ z, b = some z → 0 < j → z.block < wr.heap.size) := fun z hz h0 => Nat.lt_of_lt_of_le (HLO.out.2 z hz h0) HR.out.2.2.size
      have HZ3 : Hid (∀ z, some (⟨w.heap.size, 0, none⟩ : Addr) = some z → 0 < j → z.block < wr.heap.size) := fun z hz _ => by cases hz; exact HR.out.1.lt
      have HZ4 : Hid (∀ z, some (⟨w.heap.size + 1, 0, none⟩ : Addr) = some z → 0 < j → z.block < wr.heap.size) := fun z hz _ => by cases hz; exact HR.out.2.1.lt
      rcases (show m = 0 ∨ m = 1 ∨ m = 2 ∨ m = 3 by omega) with e | e | e | e <;> subst e
      · go_wp2
        go_ret2
        exact ⟨⟨a, b, c, c', rfl, HL1.out, HL2.out, HZ1.out, HZ2.out⟩, HR.out.2.2⟩
      · go_wp2
        go_ret2
        exact ⟨⟨a, _, c, _, rfl, HL1.out, cutV_ints HR.out.1, HZ1.out, HZ3.out⟩, HR.out.2.2⟩
      · go_wp2
        go_ret2
        exact ⟨⟨_, b, _, c', rfl, cutV_ints HR.out.1, HL2.out, HZ3.out, HZ2.out⟩, HR.out.2.2⟩
      · go_wp2
        go_ret2
        exact ⟨⟨_, _, _, _, rfl, cutV_ints HR.out.2.1, cutV_ints HR.out.1, HZ4.out, HZ3.out⟩, HR.out.2.2⟩
end Go.Proofs.YtfhmnplioghhiaaGreatDoor
