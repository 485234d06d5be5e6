import Derived.Test.YtlncjgnomhpjnaaGreatDoorJUnC
import Derived.Test.YtlncjgnomhpjnaaGreatDoorJRefPair
import Derived.Test.YtlncjgnomhpjnaaGreatDoorKRefLean
import Derived.Test.YtlncjgnomhpjnaaGreatDoorJCur
import Derived.Test.YtlncjgnomhpjnaaGreatDoorJUnR
import Derived.Test.YtlncjgnomhpjnaaGreatDoorKRefText
import Derived.Test.YtlncjgnomhpjnaaGreatDoorJEncMath
import Derived.Deep.RegionHeld3
import Derived.BigQuiet
import Derived.Deep.QuietTactic
/-
  Two channels out of a frame, in the document: reelref.apart.
-/
namespace Go.Proofs.YtlncjgnomhpjnaaGreatDoor
open Go.RowKit Go.Deep
set_option linter.unusedVariables false

theorem apart_start (w : World) (n : Nat) (l r : Nat → Int) :
    ((w.alloc (.cells (madeCells #[.int .i64 0] n) 3)).alloc (.cells (madeCells #[.int .i64 0] n) 3)).rowIs w.heap.size 3 n (cutV 0 l) ∧ ((w.alloc (.cells (madeCells #[.int .i64 0] n) 3)).alloc (.cells (madeCells #[.int .i64 0] n) 3)).rowIs (w.heap.size + 1) 3 n (cutV 0 r) ∧ Below w.heap.size w ((w.alloc (.cells (madeCells #[.int .i64 0] n) 3)).alloc (.cells (madeCells #[.int .i64 0] n) 3)) := by
  refine ⟨(((World.rowIs_made w (.int .i64 0) n 3).alloc _).congr fun i _ => by simp [cutV, cutI]), ?_, ((Below.refl _ _).alloc (Nat.le_refl _) _).alloc (by simp) _⟩
  have := World.rowIs_made (w.alloc (.cells (madeCells #[.int .i64 0] n) 3)) (.int .i64 0) n 3
  rw [World.size_alloc] at this
  exact this.congr fun i _ => by simp [cutV, cutI]
theorem apart_step {w wr : World} {n j : Nat} {l r : Nat → Int} (h : wr.rowIs w.heap.size 3 n (cutV j l) ∧ wr.rowIs (w.heap.size + 1) 3 n (cutV j r) ∧ Below w.heap.size w wr) :
    ((wr.setCell ⟨w.heap.size, j, none⟩ (.int .i64 (l j))).setCell ⟨w.heap.size + 1, j, none⟩ (.int .i64 (r j))).rowIs w.heap.size 3 n (cutV (j + 1) l) ∧
    ((wr.setCell ⟨w.heap.size, j, none⟩ (.int .i64 (l j))).setCell ⟨w.heap.size + 1, j, none⟩ (.int .i64 (r j))).rowIs (w.heap.size + 1) 3 n (cutV (j + 1) r) ∧
    Below w.heap.size w ((wr.setCell ⟨w.heap.size, j, none⟩ (.int .i64 (l j))).setCell ⟨w.heap.size + 1, j, none⟩ (.int .i64 (r j))) := by
  refine ⟨?_, ?_, (h.2.2.setCell (p := ⟨w.heap.size, j, none⟩) (Nat.le_refl _) _).setCell (p := ⟨w.heap.size + 1, j, none⟩) (Nat.le_succ _) _⟩
  · exact (cutV_step rfl (h.1.set j _)).of_block (blk_setCell_other _ _ _ _ (by show w.heap.size ≠ w.heap.size + 1; omega))
  · exact cutV_step rfl ((h.2.1.of_block (blk_setCell_other _ _ _ _ (by show w.heap.size + 1 ≠ w.heap.size; omega))).set j _)
/-- what 'apart' gives -/
def ApOut (e : Ending) (w w' : World) (d m nn : Nat) (x y : Nat → Int) : Prop :=
  (((∀ j, j < nn → fitsB d (unL m (x j) (y j)) = true ∧ fitsB d (unR m (x j) (y j)) = true) ∧ e = .returned (.tuple #[.slice (some ⟨w.heap.size, 0, none⟩) nn nn, .slice (some ⟨w.heap.size + 1, 0, none⟩) nn nn, .bool true]) ∧
      w'.rowIs w.heap.size 3 nn (cutV nn (fun j => unL m (x j) (y j))) ∧ w'.rowIs (w.heap.size + 1) 3 nn (cutV nn (fun j => unR m (x j) (y j))))
   ∨ ((∃ j, j < nn ∧ ¬ (fitsB d (unL m (x j) (y j)) = true ∧ fitsB d (unR m (x j) (y j)) = true)) ∧ e = .returned (.tuple #[.slice none 0 0, .slice none 0 0, .bool false]))) ∧ Below w.heap.size w w'

set_option maxRecDepth 4000 in
set_option maxHeartbeats 2000000 in
theorem apart_any (d m ga gb nn : Nat) (x y : Nat → Int) (w : World) (hd1 : 1 ≤ d) (hd : d ≤ 12) (hm : m < 4) (hnn : nn ≤ 32) (hbx : ∀ j, j < nn → -8192 ≤ x j ∧ x j ≤ 8192) (hby : ∀ j, j < nn → -8192 ≤ y j ∧ y j ≤ 8192) (ha : w.rowIs ga 3 nn (cutV nn x)) (hb : w.rowIs gb 3 nn (cutV nn y)) :
    Calls Tryz.prog 161 #[.int .i64 d, .int .i64 m, .slice (some ⟨ga, 0, none⟩) nn nn, .slice (some ⟨gb, 0, none⟩) nn nn] w fun e w' => ApOut e w w' d m nn x y := by
  have hmk := run_make_row' (P := Tryz.prog) 29 3 (.int .i64 0) 8 Tryz.underlying29 infoInt rfl .i64 .i64 nn (by omega) (by omega)
  have HA := Hid.mk' ha
  have HB := Hid.mk' hb
  have HBX := Hid.mk' hbx
  have HBY := Hid.mk' hby
  have hga := ha.lt
  have hgb := hb.lt
  have HST0 := Hid.mk' (apart_start w nn (fun j => unL m (x j) (y j)) (fun j => unR m (x j) (y j)))
  clear ha hb hbx hby
  go_enter Tryz.func161, Tryz.ntmps161
  go_wp2
  clear hmk
  go_loopw [8, 9, 10, 13, 14, 15, 16, 17] (fun _ _ _ i _ _ _ _ wr => ∃ j : Nat, j ≤ nn ∧ i = .int .i64 j ∧ Hid ((∀ i, i < j → fitsB d (unL m (x i) (y i)) = true ∧ fitsB d (unR m (x i) (y i)) = true) ∧ wr.rowIs w.heap.size 3 nn (cutV j (fun j => unL m (x j) (y j))) ∧ wr.rowIs (w.heap.size + 1) 3 nn (cutV j (fun j => unR m (x j) (y j))) ∧ Below w.heap.size w wr)) (fun _ _ _ i _ _ _ _ _ => nn - (intOf i).toNat)
  case atStart => exact ⟨0, Nat.zero_le _, rfl, fun i hi => absurd hi (Nat.not_lt_zero i), HST0.out⟩
  case round =>
    obtain ⟨j, hj, rfl, HR⟩ := hrel
    by_cases hlt : j < nn
    · have hax : wr.cell? ⟨ga, j, none⟩ = some (.int .i64 (x j)) := (HR.out.2.2.2.cell (p := ⟨ga, j, none⟩) hga).trans (by have := HA.out.cell hlt; simpa [cutV, cutI, hlt] using this)
      have hby : wr.cell? ⟨gb, j, none⟩ = some (.int .i64 (y j)) := (HR.out.2.2.2.cell (p := ⟨gb, j, none⟩) hgb).trans (by have := HB.out.cell hlt; simpa [cutV, cutI, hlt] using this)
      have hcs := HR.out.2.1.cell hlt
      have hfs := HR.out.2.1.frozen j
      have hcm := HR.out.2.2.1.cell hlt
      have hfm := HR.out.2.2.1.frozen j
      unfold cutV at hcs hcm
      have b1 := HBX.out j hlt
      have b2 := HBY.out j hlt
      obtain ⟨VL, hVL⟩ : ∃ VL, unL m (x j) (y j) = VL := ⟨_, rfl⟩
      obtain ⟨VR, hVR⟩ : ∃ VR, unR m (x j) (y j) = VR := ⟨_, rfl⟩
      have EL := Hid.mk' hVL
      have ER := Hid.mk' hVR
      have HF1 := Hid.mk' (fun u => cFits_any d VL u hd1 (by omega))
      have HF2 := Hid.mk' (fun u => cFits_any d VR u hd1 (by omega))
      have HST : Hid (((wr.setCell ⟨w.heap.size, j, none⟩ (.int .i64 VL)).setCell ⟨w.heap.size + 1, j, none⟩ (.int .i64 VR)).rowIs w.heap.size 3 nn (cutV (j + 1) (fun j => unL m (x j) (y j))) ∧
          ((wr.setCell ⟨w.heap.size, j, none⟩ (.int .i64 VL)).setCell ⟨w.heap.size + 1, j, none⟩ (.int .i64 VR)).rowIs (w.heap.size + 1) 3 nn (cutV (j + 1) (fun j => unR m (x j) (y j))) ∧
          Below w.heap.size w ((wr.setCell ⟨w.heap.size, j, none⟩ (.int .i64 VL)).setCell ⟨w.heap.size + 1, j, none⟩ (.int .i64 VR))) := by
        have h0 := apart_step HR.out.2
        have h1 : (fun j => unL m (x j) (y j)) j = VL := hVL
        have h2 : (fun j => unR m (x j) (y j)) j = VR := hVR
        rw [← h1, ← h2]
        exact h0
      have hS0 : wr.drew.cell? ⟨ga, j, none⟩ = some (.int .i64 (x j)) ∧ wr.drew.cell? ⟨gb, j, none⟩ = some (.int .i64 (y j)) := ⟨hax, hby⟩
      rcases (show m = 0 ∨ m = 1 ∨ m = 2 ∨ m = 3 by omega) with e | e | e | e
      · have e1 : VL = x j := by rw [← hVL]; unfold unL; rw [if_neg (by omega), if_neg (by omega)]
        have e2 : VR = y j := by rw [← hVR]; unfold unR; rw [if_neg (by omega), if_neg (by omega)]
        clear hVL hVR hS0
        subst e1 e2
        subst e
        cases hL : fitsB d (x j) with
        | true =>
          cases hR : fitsB d (y j) with
          | true =>
            have HLR : Hid (fitsB d (unL 0 (x j) (y j)) = true ∧ fitsB d (unR 0 (x j) (y j)) = true) := ⟨by rw [EL.out]; exact hL, by rw [ER.out]; exact hR⟩
            rw [hL] at HF1
            rw [hR] at HF2
            clear hL hR
            go_wp2_with (first
              | (go_at_call 108; refine (HF1.out _).mono ?_; rintro e w5 ⟨rfl, hw⟩; subst w5; clear HF1)
              | (go_at_call 108; refine (HF2.out _).mono ?_; rintro e w5 ⟨rfl, hw⟩; subst w5; clear HF2))
            refine ⟨?_, ?measure⟩
            (repeat apply Exists.intro)
            refine ⟨?rel, rfl⟩
            case rel =>
              refine ⟨j + 1, by omega, by go_num, fun i hi => ?_, HST.out.1, HST.out.2.1, (by first | exact HST.out.2.2 | exact HST.out.2.2.drew | exact HST.out.2.2.drew.drew)⟩
              by_cases e : i = j
              · subst e; exact HLR.out
              · exact HR.out.1 i (by omega)
            case measure => simp [intOf]; omega
          | false =>
            have HNO : Hid (¬ (fitsB d (unL 0 (x j) (y j)) = true ∧ fitsB d (unR 0 (x j) (y j)) = true)) := fun h => by have := h.2; rw [ER.out, hR] at this; cases this
            rw [hL] at HF1
            rw [hR] at HF2
            clear hL hR
            go_wp2_with (first
              | (go_at_call 108; refine (HF1.out _).mono ?_; rintro e w5 ⟨rfl, hw⟩; subst w5; clear HF1)
              | (go_at_call 108; refine (HF2.out _).mono ?_; rintro e w5 ⟨rfl, hw⟩; subst w5; clear HF2))
            go_ret3
            exact ⟨.inr ⟨⟨j, hlt, HNO.out⟩, rfl⟩, (by first | exact HR.out.2.2.2 | exact HR.out.2.2.2.drew | exact HR.out.2.2.2.drew.drew)⟩
        | false =>
          have HNO : Hid (¬ (fitsB d (unL 0 (x j) (y j)) = true ∧ fitsB d (unR 0 (x j) (y j)) = true)) := fun h => by have := h.1; rw [EL.out, hL] at this; cases this
          rw [hL] at HF1
          clear hL
          cases hR : fitsB d (y j) with
          | true =>
            rw [hR] at HF2
            clear hR
            go_wp2_with (first
              | (go_at_call 108; refine (HF1.out _).mono ?_; rintro e w5 ⟨rfl, hw⟩; subst w5; clear HF1)
              | (go_at_call 108; refine (HF2.out _).mono ?_; rintro e w5 ⟨rfl, hw⟩; subst w5; clear HF2))
            go_ret3
            exact ⟨.inr ⟨⟨j, hlt, HNO.out⟩, rfl⟩, (by first | exact HR.out.2.2.2 | exact HR.out.2.2.2.drew | exact HR.out.2.2.2.drew.drew)⟩
          | false =>
            rw [hR] at HF2
            clear hR
            go_wp2_with (first
              | (go_at_call 108; refine (HF1.out _).mono ?_; rintro e w5 ⟨rfl, hw⟩; subst w5; clear HF1)
              | (go_at_call 108; refine (HF2.out _).mono ?_; rintro e w5 ⟨rfl, hw⟩; subst w5; clear HF2))
            go_ret3
            exact ⟨.inr ⟨⟨j, hlt, HNO.out⟩, rfl⟩, (by first | exact HR.out.2.2.2 | exact HR.out.2.2.2.drew | exact HR.out.2.2.2.drew.drew)⟩
      · have e1 : VL = x j := by rw [← hVL]; unfold unL; rw [if_neg (by omega), if_neg (by omega)]
        have e2 : IntKind.i64.wrap (x j - y j) = VR := by rw [← hVR]; unfold unR; rw [if_pos (by omega), IntKind.wrap_i64]; omega
        clear hVL hVR
        subst e1
        subst e
        go_wp2_with fail
        go_region_held3 (fun w' => w'.cell? ⟨ga, j, none⟩ = some (.int .i64 (x j)) ∧ w'.cell? ⟨gb, j, none⟩ = some (.int .i64 (y j))) (with_reducible assumption) (fail)
        cases hL : fitsB d (x j) with
        | true =>
          cases hR : fitsB d VR with
          | true =>
            have HLR : Hid (fitsB d (unL 1 (x j) (y j)) = true ∧ fitsB d (unR 1 (x j) (y j)) = true) := ⟨by rw [EL.out]; exact hL, by rw [ER.out]; exact hR⟩
            rw [hL] at HF1
            rw [hR] at HF2
            clear hL hR
            go_wp2_with (first
              | (go_at_call 108; refine (HF1.out _).mono ?_; rintro e w5 ⟨rfl, hw⟩; subst w5; clear HF1)
              | (go_at_call 108; refine (HF2.out _).mono ?_; rintro e w5 ⟨rfl, hw⟩; subst w5; clear HF2))
            refine ⟨?_, ?measure⟩
            (repeat apply Exists.intro)
            refine ⟨?rel, rfl⟩
            case rel =>
              refine ⟨j + 1, by omega, by go_num, fun i hi => ?_, HST.out.1, HST.out.2.1, (by first | exact HST.out.2.2 | exact HST.out.2.2.drew | exact HST.out.2.2.drew.drew)⟩
              by_cases e : i = j
              · subst e; exact HLR.out
              · exact HR.out.1 i (by omega)
            case measure => simp [intOf]; omega
          | false =>
            have HNO : Hid (¬ (fitsB d (unL 1 (x j) (y j)) = true ∧ fitsB d (unR 1 (x j) (y j)) = true)) := fun h => by have := h.2; rw [ER.out, hR] at this; cases this
            rw [hL] at HF1
            rw [hR] at HF2
            clear hL hR
            go_wp2_with (first
              | (go_at_call 108; refine (HF1.out _).mono ?_; rintro e w5 ⟨rfl, hw⟩; subst w5; clear HF1)
              | (go_at_call 108; refine (HF2.out _).mono ?_; rintro e w5 ⟨rfl, hw⟩; subst w5; clear HF2))
            go_ret3
            exact ⟨.inr ⟨⟨j, hlt, HNO.out⟩, rfl⟩, (by first | exact HR.out.2.2.2 | exact HR.out.2.2.2.drew | exact HR.out.2.2.2.drew.drew)⟩
        | false =>
          have HNO : Hid (¬ (fitsB d (unL 1 (x j) (y j)) = true ∧ fitsB d (unR 1 (x j) (y j)) = true)) := fun h => by have := h.1; rw [EL.out, hL] at this; cases this
          rw [hL] at HF1
          clear hL
          cases hR : fitsB d VR with
          | true =>
            rw [hR] at HF2
            clear hR
            go_wp2_with (first
              | (go_at_call 108; refine (HF1.out _).mono ?_; rintro e w5 ⟨rfl, hw⟩; subst w5; clear HF1)
              | (go_at_call 108; refine (HF2.out _).mono ?_; rintro e w5 ⟨rfl, hw⟩; subst w5; clear HF2))
            go_ret3
            exact ⟨.inr ⟨⟨j, hlt, HNO.out⟩, rfl⟩, (by first | exact HR.out.2.2.2 | exact HR.out.2.2.2.drew | exact HR.out.2.2.2.drew.drew)⟩
          | false =>
            rw [hR] at HF2
            clear hR
            go_wp2_with (first
              | (go_at_call 108; refine (HF1.out _).mono ?_; rintro e w5 ⟨rfl, hw⟩; subst w5; clear HF1)
              | (go_at_call 108; refine (HF2.out _).mono ?_; rintro e w5 ⟨rfl, hw⟩; subst w5; clear HF2))
            go_ret3
            exact ⟨.inr ⟨⟨j, hlt, HNO.out⟩, rfl⟩, (by first | exact HR.out.2.2.2 | exact HR.out.2.2.2.drew | exact HR.out.2.2.2.drew.drew)⟩
      · have e1 : VR = y j := by rw [← hVR]; unfold unR; rw [if_neg (by omega), if_neg (by omega)]
        have e2 : IntKind.i64.wrap (x j + y j) = VL := by rw [← hVL]; unfold unL; rw [if_pos (by omega), IntKind.wrap_i64]; omega
        clear hVL hVR
        subst e1
        subst e
        go_wp2_with fail
        go_region_held3 (fun w' => w'.cell? ⟨ga, j, none⟩ = some (.int .i64 (x j)) ∧ w'.cell? ⟨gb, j, none⟩ = some (.int .i64 (y j))) (with_reducible assumption) (fail)
        cases hL : fitsB d VL with
        | true =>
          cases hR : fitsB d (y j) with
          | true =>
            have HLR : Hid (fitsB d (unL 2 (x j) (y j)) = true ∧ fitsB d (unR 2 (x j) (y j)) = true) := ⟨by rw [EL.out]; exact hL, by rw [ER.out]; exact hR⟩
            rw [hL] at HF1
            rw [hR] at HF2
            clear hL hR
            go_wp2_with (first
              | (go_at_call 108; refine (HF1.out _).mono ?_; rintro e w5 ⟨rfl, hw⟩; subst w5; clear HF1)
              | (go_at_call 108; refine (HF2.out _).mono ?_; rintro e w5 ⟨rfl, hw⟩; subst w5; clear HF2))
            refine ⟨?_, ?measure⟩
            (repeat apply Exists.intro)
            refine ⟨?rel, rfl⟩
            case rel =>
              refine ⟨j + 1, by omega, by go_num, fun i hi => ?_, HST.out.1, HST.out.2.1, (by first | exact HST.out.2.2 | exact HST.out.2.2.drew | exact HST.out.2.2.drew.drew)⟩
              by_cases e : i = j
              · subst e; exact HLR.out
              · exact HR.out.1 i (by omega)
            case measure => simp [intOf]; omega
          | false =>
            have HNO : Hid (¬ (fitsB d (unL 2 (x j) (y j)) = true ∧ fitsB d (unR 2 (x j) (y j)) = true)) := fun h => by have := h.2; rw [ER.out, hR] at this; cases this
            rw [hL] at HF1
            rw [hR] at HF2
            clear hL hR
            go_wp2_with (first
              | (go_at_call 108; refine (HF1.out _).mono ?_; rintro e w5 ⟨rfl, hw⟩; subst w5; clear HF1)
              | (go_at_call 108; refine (HF2.out _).mono ?_; rintro e w5 ⟨rfl, hw⟩; subst w5; clear HF2))
            go_ret3
            exact ⟨.inr ⟨⟨j, hlt, HNO.out⟩, rfl⟩, (by first | exact HR.out.2.2.2 | exact HR.out.2.2.2.drew | exact HR.out.2.2.2.drew.drew)⟩
        | false =>
          have HNO : Hid (¬ (fitsB d (unL 2 (x j) (y j)) = true ∧ fitsB d (unR 2 (x j) (y j)) = true)) := fun h => by have := h.1; rw [EL.out, hL] at this; cases this
          rw [hL] at HF1
          clear hL
          cases hR : fitsB d (y j) with
          | true =>
            rw [hR] at HF2
            clear hR
            go_wp2_with (first
              | (go_at_call 108; refine (HF1.out _).mono ?_; rintro e w5 ⟨rfl, hw⟩; subst w5; clear HF1)
              | (go_at_call 108; refine (HF2.out _).mono ?_; rintro e w5 ⟨rfl, hw⟩; subst w5; clear HF2))
            go_ret3
            exact ⟨.inr ⟨⟨j, hlt, HNO.out⟩, rfl⟩, (by first | exact HR.out.2.2.2 | exact HR.out.2.2.2.drew | exact HR.out.2.2.2.drew.drew)⟩
          | false =>
            rw [hR] at HF2
            clear hR
            go_wp2_with (first
              | (go_at_call 108; refine (HF1.out _).mono ?_; rintro e w5 ⟨rfl, hw⟩; subst w5; clear HF1)
              | (go_at_call 108; refine (HF2.out _).mono ?_; rintro e w5 ⟨rfl, hw⟩; subst w5; clear HF2))
            go_ret3
            exact ⟨.inr ⟨⟨j, hlt, HNO.out⟩, rfl⟩, (by first | exact HR.out.2.2.2 | exact HR.out.2.2.2.drew | exact HR.out.2.2.2.drew.drew)⟩
      · have e1 : IntKind.i64.wrap (x j + (y j + 1) / 2) = VL := by rw [← hVL]; unfold unL; rw [if_neg (by omega), if_pos (by omega), IntKind.wrap_i64]; omega
        have e2 : IntKind.i64.wrap (VL - y j) = VR := by rw [← hVR, ← hVL]; unfold unR unL; rw [if_neg (by omega), if_pos (by omega), if_neg (by omega), if_pos (by omega), IntKind.wrap_i64]; omega
        have e3 : IntKind.i64.wrap (y j + 1) = y j + 1 := by rw [IntKind.wrap_i64]; omega
        have HD := Hid.mk' (fun u => down2_any (y j + 1) u (by omega))
        clear hVL hVR
        subst e
        go_wp2_with fail
        go_region_held3 (fun w' => w'.cell? ⟨ga, j, none⟩ = some (.int .i64 (x j)) ∧ w'.cell? ⟨gb, j, none⟩ = some (.int .i64 (y j))) (with_reducible assumption) (first | (go_at_call 170; refine (HD.out _).mono ?_; rintro e w5 ⟨rfl, hw⟩; subst w5; clear HD))
        cases hL : fitsB d VL with
        | true =>
          cases hR : fitsB d VR with
          | true =>
            have HLR : Hid (fitsB d (unL 3 (x j) (y j)) = true ∧ fitsB d (unR 3 (x j) (y j)) = true) := ⟨by rw [EL.out]; exact hL, by rw [ER.out]; exact hR⟩
            rw [hL] at HF1
            rw [hR] at HF2
            clear hL hR
            go_wp2_with (first
              | (go_at_call 108; refine (HF1.out _).mono ?_; rintro e w5 ⟨rfl, hw⟩; subst w5; clear HF1)
              | (go_at_call 108; refine (HF2.out _).mono ?_; rintro e w5 ⟨rfl, hw⟩; subst w5; clear HF2))
            refine ⟨?_, ?measure⟩
            (repeat apply Exists.intro)
            refine ⟨?rel, rfl⟩
            case rel =>
              refine ⟨j + 1, by omega, by go_num, fun i hi => ?_, HST.out.1, HST.out.2.1, (by first | exact HST.out.2.2 | exact HST.out.2.2.drew | exact HST.out.2.2.drew.drew)⟩
              by_cases e : i = j
              · subst e; exact HLR.out
              · exact HR.out.1 i (by omega)
            case measure => simp [intOf]; omega
          | false =>
            have HNO : Hid (¬ (fitsB d (unL 3 (x j) (y j)) = true ∧ fitsB d (unR 3 (x j) (y j)) = true)) := fun h => by have := h.2; rw [ER.out, hR] at this; cases this
            rw [hL] at HF1
            rw [hR] at HF2
            clear hL hR
            go_wp2_with (first
              | (go_at_call 108; refine (HF1.out _).mono ?_; rintro e w5 ⟨rfl, hw⟩; subst w5; clear HF1)
              | (go_at_call 108; refine (HF2.out _).mono ?_; rintro e w5 ⟨rfl, hw⟩; subst w5; clear HF2))
            go_ret3
            exact ⟨.inr ⟨⟨j, hlt, HNO.out⟩, rfl⟩, (by first | exact HR.out.2.2.2 | exact HR.out.2.2.2.drew | exact HR.out.2.2.2.drew.drew)⟩
        | false =>
          have HNO : Hid (¬ (fitsB d (unL 3 (x j) (y j)) = true ∧ fitsB d (unR 3 (x j) (y j)) = true)) := fun h => by have := h.1; rw [EL.out, hL] at this; cases this
          rw [hL] at HF1
          clear hL
          cases hR : fitsB d VR with
          | true =>
            rw [hR] at HF2
            clear hR
            go_wp2_with (first
              | (go_at_call 108; refine (HF1.out _).mono ?_; rintro e w5 ⟨rfl, hw⟩; subst w5; clear HF1)
              | (go_at_call 108; refine (HF2.out _).mono ?_; rintro e w5 ⟨rfl, hw⟩; subst w5; clear HF2))
            go_ret3
            exact ⟨.inr ⟨⟨j, hlt, HNO.out⟩, rfl⟩, (by first | exact HR.out.2.2.2 | exact HR.out.2.2.2.drew | exact HR.out.2.2.2.drew.drew)⟩
          | false =>
            rw [hR] at HF2
            clear hR
            go_wp2_with (first
              | (go_at_call 108; refine (HF1.out _).mono ?_; rintro e w5 ⟨rfl, hw⟩; subst w5; clear HF1)
              | (go_at_call 108; refine (HF2.out _).mono ?_; rintro e w5 ⟨rfl, hw⟩; subst w5; clear HF2))
            go_ret3
            exact ⟨.inr ⟨⟨j, hlt, HNO.out⟩, rfl⟩, (by first | exact HR.out.2.2.2 | exact HR.out.2.2.2.drew | exact HR.out.2.2.2.drew.drew)⟩
    · have e : j = nn := by omega
      subst e
      go_wp2
      go_ret3
      exact ⟨.inl ⟨HR.out.1, rfl, HR.out.2.1, HR.out.2.2.1⟩, HR.out.2.2.2⟩
end Go.Proofs.YtlncjgnomhpjnaaGreatDoor

/-
  The subframes of a frame, in the document: reelref.inside.
-/
namespace Go.Proofs.YtlncjgnomhpjnaaGreatDoor
open Go.RowKit Go.Deep
set_option linter.unusedVariables false

theorem tab_belowB {w w' : World} (h : Below w.heap.size w w') {g : Nat} (hT : TabAt w g) (hg : g < w.heap.size) : TabAt w' g :=
  fun r c hr hc => (h.cell (p := ⟨g, 4 * r + c, none⟩) hg).trans (hT r c hr hc)

theorem rwidth_any (d n m i : Nat) (w : World) (hd : d ≤ 12) (hm : m < 4) (h0 : n ≠ 2 → m = 0) (hi : i < n) : Calls Tryz.prog 150 #[.int .i64 d, .int .i64 m, .int .i64 i] w fun e w' => e = .returned (.int .i64 (widN d n m i)) ∧ w' = w := by
  by_cases h2 : n = 2
  · rcases (show i = 0 ∨ i = 1 by omega) with e | e <;> subst e
    · have := width0_any d m w hd hm
      rw [show widN d n m 0 = w1 d m by unfold widN; rw [if_pos h2, if_pos rfl]]
      exact this
    · have := width1_any d m w hd hm
      rw [show widN d n m 1 = w2 d m by unfold widN; rw [if_pos h2, if_neg (by omega)]]
      exact this
  · have e := h0 h2
    subst e
    rw [show widN d n 0 i = d by unfold widN; rw [if_neg h2]]
    clear hm h0
    go_enter Tryz.func150, Tryz.ntmps150
    go_wp2
    go_ret
    exact ⟨rfl, rfl⟩
/-- what holds while subframes are read -/
structure InI (w wr : World) (cs : Array Value) (s : ByteArray) (o : Nat) (lv : Value) (nn i : Nat) (gs : Nat → Nat) (G : Nat → Nat → Int) : Prop where
  cfg : Bx wr w.heap.size 23 cs
  cu : Cu wr (w.heap.size + 1) s o false
  own : wr.ownsRow (w.heap.size + 2) 29 1 lv i (rowL nn gs i)
  rows : ∀ k, k < i → wr.rowIs (gs k) 3 nn (cutV nn (G k))
  far : ∀ k, k < i → w.heap.size + 2 ≤ gs k
  apart : ∀ k l, k < i → l < i → k ≠ l → gs k ≠ gs l
  below : Below w.heap.size w wr
  size : w.heap.size + 2 ≤ wr.heap.size
theorem InI.sub {w wr u : World} {cs : Array Value} {s : ByteArray} {o o' : Nat} {lv : Value} {nn i : Nat} {gs : Nat → Nat} {G : Nat → Nat → Int} (h : InI w wr cs s o lv nn i gs G) (hc : Chg (w.heap.size + 1) wr u) (hcu : Cu u (w.heap.size + 1) s o' false) : InI w u cs s o' lv nn i gs G :=
  ⟨h.cfg.of (hc.block _ (by have := h.size; omega) (by simp)), hcu, h.own.kept hc (.inr (fun e => by have := (h.own.lt _ e).1; omega)), fun k hk => hc.row (h.rows k hk) (by have := h.far k hk; omega), h.far, h.apart,
   h.below.trans (hc.toBelow (A := w.heap.size) (by omega) (by have := h.size; omega)), Nat.le_trans h.size hc.size⟩
theorem InI.more {w wr u : World} {cs : Array Value} {s : ByteArray} {o : Nat} {lv lv' : Value} {nn i g : Nat} {gs : Nat → Nat} {G : Nat → Nat → Int} {x : Nat → Int} (h : InI w wr cs s o lv nn i gs G) (hrow : wr.rowIs g 3 nn (cutV nn x)) (hg : w.heap.size + 2 ≤ g) (hnew : ∀ k, k < i → gs k ≠ g)
    (ho : u.ownsRow (w.heap.size + 2) 29 1 lv' (i + 1) (rowL nn (updN gs i g) (i + 1))) (hgr : wr.grownBy u lv.ownBlock) : InI w u cs s o lv' nn (i + 1) (updN gs i g) (upd2 G i x) := by
  have ne : ∀ j, j < w.heap.size + 2 → some j ≠ lv.ownBlock := fun j hj e => by have := (h.own.lt j e.symm).1; omega
  have ner : ∀ {q N : Nat} {f : Nat → Value}, wr.rowIs q 3 N f → some q ≠ lv.ownBlock := fun {q N f} hr e => own_ne h.own hr e.symm
  refine ⟨h.cfg.of (hgr.block _ (by have := h.size; omega) (ne _ (by omega))), h.cu.of (hgr.block _ (by have := h.size; omega) (ne _ (by omega))), ho, fun k hk => ?_, fun k hk => ?_, fun k l hk hl hkl => ?_, h.below.grown hgr h.below.size (fun j hj => by have := (h.own.lt j hj).1; omega), Nat.le_trans h.size hgr.size⟩
  · unfold updN upd2
    by_cases e : k = i
    · rw [if_pos e, if_pos e]; exact hrow.of_block (hgr.block _ hrow.lt (ner hrow))
    · rw [if_neg e, if_neg e]; exact (h.rows k (by omega)).of_block (hgr.block _ (h.rows k (by omega)).lt (ner (h.rows k (by omega))))
  · unfold updN
    split
    · exact hg
    · exact h.far k (by omega)
  · unfold updN
    by_cases e : k = i
    · rw [if_pos e, if_neg (by omega)]; exact Ne.symm (hnew l (by omega))
    · rw [if_neg e]
      by_cases e2 : l = i
      · rw [if_pos e2]; exact hnew k (by omega)
      · rw [if_neg e2]; exact h.apart k l (by omega) (by omega) hkl
theorem InI.next {w wr u : World} {cs : Array Value} {s : ByteArray} {o : Nat} {lv : Value} {nn i : Nat} {gs : Nat → Nat} {G : Nat → Nat → Int} (h : InI w wr cs s o lv nn i gs G) (hb : Below wr.heap.size wr u) : InI w u cs s o lv nn i gs G :=
  ⟨h.cfg.below hb, h.cu.of (hb.block _ h.cu.lt), h.own.kept ⟨hb.os, hb.tape, hb.output, hb.size, fun j hj _ => hb.block j hj⟩ (Classical.em _), fun k hk => row_below (h.rows k hk) hb, h.far, h.apart, h.below.trans (hb.mono h.below.size), Nat.le_trans h.size hb.size⟩
theorem ApOut.yes {e : Ending} {w w' : World} {d m nn : Nat} {G : Nat → Nat → Int} (h : ApOut e w w' d m nn (G 0) (G 1)) (hs : sampP d m nn G) : e = .returned (.tuple #[.slice (some ⟨w.heap.size, 0, none⟩) nn nn, .slice (some ⟨w.heap.size + 1, 0, none⟩) nn nn, .bool true]) ∧
    w'.rowIs w.heap.size 3 nn (cutV nn (fun j => unL m (G 0 j) (G 1 j))) ∧ w'.rowIs (w.heap.size + 1) 3 nn (cutV nn (fun j => unR m (G 0 j) (G 1 j))) ∧ Below w.heap.size w w' := by
  rcases h with ⟨⟨-, h1, h2, h3⟩ | ⟨⟨j, hj, hn⟩, -⟩, hb⟩
  · exact ⟨h1, h2, h3, hb⟩
  · exact absurd (hs j hj) hn
theorem ApOut.no {e : Ending} {w w' : World} {d m nn : Nat} {G : Nat → Nat → Int} (h : ApOut e w w' d m nn (G 0) (G 1)) (hs : ¬ sampP d m nn G) : e = .returned (.tuple #[.slice none 0 0, .slice none 0 0, .bool false]) ∧ Below w.heap.size w w' := by
  rcases h with ⟨⟨h0, -⟩ | ⟨-, h1⟩, hb⟩
  · exact absurd h0 hs
  · exact ⟨h1, hb⟩
theorem rows_two {w u1 u2 : World} {m nn : Nat} {G : Nat → Nat → Int} (hs : w.heap.size ≤ u1.heap.size) (h0 : u2.rowIs u1.heap.size 3 nn (cutV nn (fun j => unL m (G 0 j) (G 1 j)))) (h1 : u2.rowIs (u1.heap.size + 1) 3 nn (cutV nn (fun j => unR m (G 0 j) (G 1 j)))) :
    RowsAre w (u2.alloc (.cells #[.slice (some ⟨u1.heap.size, 0, none⟩) nn nn, .slice (some ⟨u1.heap.size + 1, 0, none⟩) nn nn] 29)) (.slice (some ⟨u2.heap.size, 0, none⟩) 2 2) 2 nn (unG 2 m G) := by
  have hlt := h1.lt
  refine ⟨u2.heap.size, 2, fun k => if k = 0 then u1.heap.size else u1.heap.size + 1, rfl, ⟨rfl, .inr ⟨u2.heap.size, 2, #[.slice (some ⟨u1.heap.size, 0, none⟩) nn nn, .slice (some ⟨u1.heap.size + 1, 0, none⟩) nn nn], rfl, by omega, blk_alloc_new _ _, Nat.le_refl _, by simp only [maxLen]; omega, rfl, rfl⟩⟩, fun k hk => ?_, fun k l hk hl hkl => ?_⟩
  · rcases (show k = 0 ∨ k = 1 by omega) with e | e <;> subst e
    · exact ⟨(h0.alloc _).congr fun j _ => by unfold unG; rfl, hs⟩
    · exact ⟨(h1.alloc _).congr fun j _ => by unfold unG; rfl, by show w.heap.size ≤ u1.heap.size + 1; omega⟩
  · rcases (show k = 0 ∨ k = 1 by omega) with e | e <;> subst e <;> rcases (show l = 0 ∨ l = 1 by omega) with e | e <;> subst e
    · exact absurd rfl hkl
    · show u1.heap.size ≠ u1.heap.size + 1; omega
    · show u1.heap.size + 1 ≠ u1.heap.size; omega
    · exact absurd rfl hkl
/-- what reading a frame's inside gives -/
def InOut (e : Ending) (w w' : World) (BT : List UInt8) (b : Nat → Bool) (d n m nn : Nat) : Prop :=
  ((∃ H v, InsP BT b d n m nn H ∧ e = .returned (.tuple #[v, .bool true]) ∧ RowsAre w w' v n nn H) ∨ (∃ v, (∀ H, ¬ InsP BT b d n m nn H) ∧ e = .returned (.tuple #[v, .bool false]))) ∧ Below w.heap.size w w'
theorem fill_iff (T : List UInt8) : FillP T ↔ T.length ≤ 7 ∧ T = List.replicate T.length 48 := by
  unfold FillP
  constructor
  · rintro ⟨h1, h2⟩
    refine ⟨by omega, List.ext_getElem (by simp) fun i hi hi2 => ?_⟩
    have := h2 i hi
    rw [List.getD_eq_getElem?_getD, List.getElem?_eq_getElem hi] at this
    simpa using this
  · rintro ⟨h1, h2⟩
    refine ⟨by omega, fun j hj => ?_⟩
    rw [h2, List.getD_eq_getElem?_getD, List.getElem?_replicate, if_pos (by simpa using hj)]; rfl
set_option maxRecDepth 4000 in
set_option maxHeartbeats 2000000 in
theorem inside_any (c2 c3 c4 c5 c6 c7 : Int) (d n m nn : Nat) (BT : List UInt8) (b : Nat → Bool) (w : World) (hd1 : 1 ≤ d) (hd : d ≤ 12) (hn1 : 1 ≤ n) (hn4 : n ≤ 4) (hm : m < 4) (h0 : n ≠ 2 → m = 0) (hnn1 : 1 ≤ nn) (hnn : nn ≤ 32) (hBT : BT.length ≤ 80000) (hb : Bits (bs BT) b) (hT : TabAt w 3) (hT3 : 3 < w.heap.size) :
    Calls Tryz.prog 125 #[.agg #[.int .i64 n, .int .i64 d, .int .i64 c2, .int .i64 c3, .int .i64 c4, .int .i64 c5, .int .i64 c6, .int .i64 c7], .int .i64 m, .int .i64 nn, .string (bs BT)] w fun e w' => InOut e w w' BT b d n m nn := by
  have hz : (bs BT).size = BT.length := bs_size BT
  have HWI := Hid.mk' (fun (u : World) i (hi : i < n) => rwidth_any d n m i u hd hm h0 hi)
  have HRD := Hid.mk' (fun (u : World) (hu : Below w.heap.size w u) o i (ho : o ≤ BT.length) (hc : Cu u (w.heap.size + 1) (bs BT) o false) => cSubAt_any (w.heap.size + 1) (bs BT) b (widN d n m i) nn o (o + 8) u rfl (by omega) (by omega) (widN_bd hd1 hd).1 (widN_bd hd1 hd).2 hnn1 hnn hc hb (tab_belowB hu hT hT3) (Nat.lt_of_lt_of_le hT3 hu.size) (by omega))
  have HSL : Hid (∀ (i : Nat) (r : (Nat → Nat → Int) × Nat), subsAt b BT.length d n m nn i = some r → r.2 ≤ BT.length ∧ ∀ k, k < i → ∀ j, j < nn → -4096 ≤ r.1 k j ∧ r.1 k j ≤ 4096) := fun i r h => subsAt_le hd1 hd h
  clear hb hT
  go_enter Tryz.func125, Tryz.ntmps125
  go_wp2_with fail
  go_loopw [8, 9, 11, 12, 13, 14, 15] (fun _ _ lv iv _ _ _ wr => ∃ i o : Nat, ∃ ov : Value, ∃ gs : Nat → Nat, ∃ G : Nat → Nat → Int, i ≤ n ∧ iv = .int .i64 i ∧ ov = lv ∧ Hid (subsAt b BT.length d n m nn i = some (G, o) ∧ InI w wr #[.int .i64 n, .int .i64 d, .int .i64 c2, .int .i64 c3, .int .i64 c4, .int .i64 c5, .int .i64 c6, .int .i64 c7] (bs BT) o ov nn i gs G)) (fun _ _ _ iv _ _ _ _ => n - (intOf iv).toNat)
  case atStart =>
    refine ⟨0, 0, .slice none 0 0, fun _ => 0, fun _ _ => 0, Nat.zero_le _, rfl, rfl, rfl, ?_⟩
    refine ⟨(Bx.new w _ _).alloc _, Bx.new2 (by simp) _ _, World.ownsRow_nil _ _ _ _, fun k hk => absurd hk (Nat.not_lt_zero k), fun k hk => absurd hk (Nat.not_lt_zero k), fun k l hk => absurd hk (Nat.not_lt_zero k), ((Below.refl _ _).alloc (Nat.le_refl _) _).alloc (by simp) _, by simp⟩
  case round =>
    obtain ⟨i, o, lv, gs, G, hi, rfl, e, HR⟩ := hrel
    subst e
    have hoN := (HSL.out _ _ HR.out.1).1
    have HBW := Hid.mk' HR.out.2.below
    have x0 := HR.out.2.cfg.cell 0
    have x1 := HR.out.2.cfg.cell 1
    by_cases hlt : i < n
    · have HWI1 := Hid.mk' (fun (u : World) => HWI.out u i hlt)
      have HRD1 := Hid.mk' (HRD.out wr HBW.out o i hoN HR.out.2.cu)
      cases hrd : readAt b (bs BT).size o (widN d n m i) nn with
      | none =>
        rw [hrd] at HRD1
        have HNO : Hid (∀ H, ¬ InsP BT b d n m nn H) := fun H ⟨G', o', h1, _⟩ => by
          have : subsAt b BT.length d n m nn (i + 1) = none := by
            unfold subsAt
            rw [HR.out.1, Option.bind_some]
            show Option.map _ (readAt b BT.length o (widN d n m i) nn) = none
            rw [← hz, hrd]; rfl
          rw [subsAt_none this (by omega)] at h1
          cases h1
        clear hrd
        go_wp2_with (first
          | (go_at_call 150; refine (HWI1.out _).mono ?_; rintro e u1 ⟨rfl, hw1⟩; subst u1; clear HWI1)
          | (go_at_call 159; refine HRD1.out.mono ?_; rintro e u2 ⟨v, rfl, hch⟩; have HB2 : Hid (Below w.heap.size w u2) := HBW.out.trans (hch.toBelow (A := w.heap.size) (by omega) HBW.out.size); clear HRD1 hch x0 x1))
        go_ret2
        exact ⟨.inr ⟨_, HNO.out, rfl⟩, HB2.out⟩
      | some xp =>
        rw [hrd] at HRD1
        have HSU : Hid (subsAt b BT.length d n m nn (i + 1) = some (upd2 G i xp.1, xp.2)) := by
          show _ = _
          unfold subsAt
          rw [HR.out.1, Option.bind_some]
          show Option.map _ (readAt b BT.length o (widN d n m i) nn) = _
          rw [← hz, hrd]; rfl
        clear hrd
        go_wp2_with (first
          | (go_at_call 150; refine (HWI1.out _).mono ?_; rintro e u1 ⟨rfl, hw1⟩; subst u1; clear HWI1)
          | (go_at_call 159; refine HRD1.out.mono ?_; rintro e u2 ⟨gx, rfl, hgx, hrow, hcu, hch⟩; have hI2 := HR.out.2.sub hch hcu; have hnew : ∀ k, k < i → gs k ≠ gx := (fun k hk e => by have h1 := (HR.out.2.rows k hk).lt; omega); obtain ⟨g', c', u4, hr, ho, hgr⟩ := app_row 24 29 (.slice none 0 0) 24 Tryz.underlying24 infoInts rfl u2 _ lv _ _ #[.slice (some ⟨gx, 0, none⟩) nn nn] hI2.own (by simp) (by intro u hu; simp at hu; rw [hu]; rfl) (by simp only [maxLen]; simp; omega) (by simp; omega) hI2.size 24; have HI4 := Hid.mk' (hI2.more hrow (by have := HR.out.2.size; omega) hnew (by rw [rowL_snoc]; exact ho) hgr); have HAP : Hid (_ = _) := hr; clear hr ho hgr hI2 hnew HRD1 hch hcu hrow x0 x1)
          | (at_builtin; refine wpList_append_rn rfl _ _ _ rfl _ _ _ rfl rfl HAP.out ?_; clear HAP))
        go_roundw
        case rel => exact ⟨i + 1, xp.2, _, updN gs i gx, upd2 G i xp.1, by omega, by go_num, rfl, HSU.out, HI4.out⟩
        case measure => simp [intOf]; omega
    · have e : i = n := by omega
      subst e
      obtain ⟨k0, k1, k2, -, -⟩ := HR.out.2.cu.cells
      have hsl : (bs BT).extract o BT.length = bs (BT.drop o) := by rw [bs_cut', List.take_of_length_le (by rw [List.length_drop]; omega)]
      have hlo : ((BT.length : Int) - (o : Int)) = ((BT.length - o : Nat) : Int) := by omega
      have w1 : IntKind.i64.wrap ((BT.length : Int) - (o : Int)) = ((BT.length - o : Nat) : Int) := by rw [IntKind.wrap_i64]; omega
      have HFI : Hid (∀ H, InsP BT b d i m nn H → FillP (BT.drop o)) := fun H ⟨G', o', h1, h2, _⟩ => by
        rw [HR.out.1] at h1
        injection h1 with h1
        injection h1 with h3 h4
        rw [h4]; exact h2
      obtain ⟨gl, cl, hlv⟩ := own_some HR.out.2.own (by omega)
      subst hlv
      by_cases hf7 : BT.length - o ≤ 7
      · have HZ := Hid.mk' (fun (u : World) => zeros_any (BT.length - o) u (by omega))
        have c1 : ¬ (7 : Int) < ((BT.length - o : Nat) : Int) := by omega
        have c2' : decide ((7 : Int) < ((BT.length - o : Nat) : Int)) = false := decide_eq_false c1
        by_cases hfe : BT.drop o = List.replicate (BT.length - o) 48
        · have hFP : FillP (BT.drop o) := (fill_iff _).2 ⟨by rw [List.length_drop]; exact hf7, by rw [List.length_drop]; exact hfe⟩
          have heq : ((bs (BT.drop o)).toList == (bs (List.replicate (BT.length - o) 48)).toList) = true := (str_beq _ _).2 (by rw [hfe])
          have HFP := Hid.mk' hFP
          clear hFP hfe hlo
          have hS0 : wr.drew.cell? ⟨w.heap.size + 1, 1, none⟩ = some (.int .i64 (o : Int)) := k1
          have hBlt := HR.out.2.cu.lt
          generalize bs (List.replicate (BT.length - o) 48) = ZS at *
          generalize bs (BT.drop o) = DS at *
          have HWW := Hid.mk' HR.out.2
          go_wp2_with fail
          go_region_held3 (fun w' => w'.cell? ⟨w.heap.size + 1, 1, none⟩ = some (.int .i64 (o : Int)))
            (with_reducible assumption)
            (first
            | (go_at_call 160; refine (HZ.out _).mono ?_; rintro e u1 ⟨rfl, hb1⟩; have hS1 : u1.cell? ⟨w.heap.size + 1, 1, none⟩ = some (.int .i64 (o : Int)) := (hb1.cell (p := ⟨w.heap.size + 1, 1, none⟩) hBlt).trans hS0; have HI1 := Hid.mk' (HWW.out.next (⟨hb1.os, hb1.tape, hb1.output, hb1.size, hb1.block⟩ : Below wr.heap.size wr u1)); clear HZ hb1 hS0))
          clear x0 x1
          have x0 := HI1.out.cfg.cell 0
          have x1 := HI1.out.cfg.cell 1
          by_cases h2 : i = 2
          · subst h2
            have l0 : u1.cell? ⟨gl, 0, none⟩ = some (.slice (some ⟨gs 0, 0, none⟩) nn nn) := by
              have := HI1.out.own.cells (g := gl) rfl 0 (.slice (some ⟨gs 0, 0, none⟩) nn nn) (by unfold rowL; rfl)
              rw [Addr.add_lit] at this; exact this
            have l1 : u1.cell? ⟨gl, 1, none⟩ = some (.slice (some ⟨gs 1, 0, none⟩) nn nn) := by
              have := HI1.out.own.cells (g := gl) rfl 1 (.slice (some ⟨gs 1, 0, none⟩) nn nn) (by unfold rowL; rfl)
              rw [Addr.add_lit] at this; exact this
            have HBD := Hid.mk' (HSL.out _ _ HR.out.1).2
            have HAPT := Hid.mk' (fun (u : World) (hu : Below u1.heap.size u1 u) => apart_any d m (gs 0) (gs 1) nn (G 0) (G 1) u hd1 hd hm hnn (fun j hj => by have h := HBD.out 0 (by omega) j hj; have h' : -4096 ≤ G 0 j ∧ G 0 j ≤ 4096 := h; omega) (fun j hj => by have h := HBD.out 1 (by omega) j hj; have h' : -4096 ≤ G 1 j ∧ G 1 j ≤ 4096 := h; omega) (row_below (HI1.out.rows 0 (by omega)) hu) (row_below (HI1.out.rows 1 (by omega)) hu))
            have hT0 : u1.drew.cell? ⟨w.heap.size, 1, none⟩ = some (.int .i64 d) ∧ u1.drew.cell? ⟨gl, 0, none⟩ = some (.slice (some ⟨gs 0, 0, none⟩) nn nn) ∧ u1.drew.cell? ⟨gl, 1, none⟩ = some (.slice (some ⟨gs 1, 0, none⟩) nn nn) := ⟨x1, l0, l1⟩
            have hgl1 : gl < u1.heap.size := (HI1.out.own.lt gl rfl).2
            have hwl1 : w.heap.size < u1.heap.size := HI1.out.cfg.lt
            clear hS1 k0 k1 k2
            by_cases hsm : sampP d m nn G
            · have HSM := Hid.mk' hsm
              have HIN : Hid (InsP BT b d 2 m nn (unG 2 m G)) := ⟨G, o, HR.out.1, HFP.out, fun _ => hsm, rfl⟩
              clear hsm
              go_wp2_with fail
              go_region_held3 (fun w' => w'.cell? ⟨w.heap.size, 1, none⟩ = some (.int .i64 d) ∧ w'.cell? ⟨gl, 0, none⟩ = some (.slice (some ⟨gs 0, 0, none⟩) nn nn) ∧ w'.cell? ⟨gl, 1, none⟩ = some (.slice (some ⟨gs 1, 0, none⟩) nn nn))
                (with_reducible assumption)
                (first
                | (go_at_call 161; refine (HAPT.out _ (Below.refl _ _).drew).mono ?_; intro e u2 hap; obtain ⟨rfl, hr0, hr1, hb2⟩ := hap.yes HSM.out; have hT1 : u2.cell? ⟨w.heap.size, 1, none⟩ = some (.int .i64 d) ∧ u2.cell? ⟨gl, 0, none⟩ = some (.slice (some ⟨gs 0, 0, none⟩) nn nn) ∧ u2.cell? ⟨gl, 1, none⟩ = some (.slice (some ⟨gs 1, 0, none⟩) nn nn) := ⟨(hb2.cell (p := ⟨w.heap.size, 1, none⟩) hwl1).trans hT0.1, (hb2.cell (p := ⟨gl, 0, none⟩) hgl1).trans hT0.2.1, (hb2.cell (p := ⟨gl, 1, none⟩) hgl1).trans hT0.2.2⟩; have HB2 : Hid (Below w.heap.size w u2) := HI1.out.below.drew.trans (hb2.mono HI1.out.below.size); have HRA := Hid.mk' (rows_two (w := w) (u1 := u1) (m := m) (G := G) HI1.out.below.size hr0 hr1); clear HAPT hap hr0 hr1 hb2 hT0))
              clear hT1 x0 x1 l0 l1
              go_wp2
              go_ret2
              exact ⟨.inl ⟨_, _, HIN.out, rfl, HRA.out⟩, HB2.out.alloc HB2.out.size _⟩
            · have HSM : Hid (¬ sampP d m nn G) := hsm
              have HNO : Hid (∀ H, ¬ InsP BT b d 2 m nn H) := fun H ⟨G', o', h1, _, h3, _⟩ => by
                rw [HR.out.1] at h1
                injection h1 with h1
                injection h1 with h4 h5
                rw [← h4] at h3
                exact HSM.out (h3 rfl)
              clear hsm
              go_wp2_with fail
              go_region_held3 (fun w' => w'.cell? ⟨w.heap.size, 1, none⟩ = some (.int .i64 d) ∧ w'.cell? ⟨gl, 0, none⟩ = some (.slice (some ⟨gs 0, 0, none⟩) nn nn) ∧ w'.cell? ⟨gl, 1, none⟩ = some (.slice (some ⟨gs 1, 0, none⟩) nn nn))
                (with_reducible assumption)
                (first
                | (go_at_call 161; refine (HAPT.out _ (Below.refl _ _).drew).mono ?_; intro e u2 hap; obtain ⟨rfl, hb2⟩ := hap.no HSM.out; have hT1 : u2.cell? ⟨w.heap.size, 1, none⟩ = some (.int .i64 d) ∧ u2.cell? ⟨gl, 0, none⟩ = some (.slice (some ⟨gs 0, 0, none⟩) nn nn) ∧ u2.cell? ⟨gl, 1, none⟩ = some (.slice (some ⟨gs 1, 0, none⟩) nn nn) := ⟨(hb2.cell (p := ⟨w.heap.size, 1, none⟩) hwl1).trans hT0.1, (hb2.cell (p := ⟨gl, 0, none⟩) hgl1).trans hT0.2.1, (hb2.cell (p := ⟨gl, 1, none⟩) hgl1).trans hT0.2.2⟩; have HB2 : Hid (Below w.heap.size w u2) := HI1.out.below.drew.trans (hb2.mono HI1.out.below.size); clear HAPT hap hb2 hT0))
              clear hT1 x0 x1 l0 l1
              go_wp2
              go_ret2
              exact ⟨.inr ⟨_, HNO.out, rfl⟩, HB2.out.alloc HB2.out.size _⟩
          · have t2 : ((i : Int) == 2) = false := by simp; omega
            have HIN : Hid (InsP BT b d i m nn (unG i m G)) := ⟨G, o, HR.out.1, HFP.out, fun h => absurd h h2, rfl⟩
            have HRA : Hid (RowsAre w u1 (.slice (some ⟨gl, 0, none⟩) i cl) i nn (unG i m G)) := ⟨gl, cl, gs, rfl, own_mono HI1.out.own (by omega), fun k hk => ⟨(HI1.out.rows k hk).congr fun j _ => by show cutV nn (G k) j = cutV nn (unG i m G k) j; rw [show unG i m G k = G k from funext fun j => by unfold unG; rw [if_neg h2]], by have := HI1.out.far k hk; omega⟩, HI1.out.apart⟩
            clear hS1 k0 k1 k2
            go_wp2
            go_ret2
            exact ⟨.inl ⟨_, _, HIN.out, rfl, HRA.out⟩, HI1.out.below⟩
        · have hne : ¬ (bs (BT.drop o)).toList = (bs (List.replicate (BT.length - o) 48)).toList := fun h => hfe (bs_inj ((str_beq _ _).1 (by rw [h]; simp)))
          have heq : ((bs (BT.drop o)).toList == (bs (List.replicate (BT.length - o) 48)).toList) = false := by simpa using hne
          have HNO : Hid (∀ H, ¬ InsP BT b d i m nn H) := fun H h => hfe (by
            have := ((fill_iff _).1 (HFI.out H h)).2
            rw [List.length_drop] at this
            exact this)
          clear hfe hlo
          generalize bs (List.replicate (BT.length - o) 48) = ZS at *
          generalize bs (BT.drop o) = DS at *
          have hS0 : wr.drew.cell? ⟨w.heap.size + 1, 1, none⟩ = some (.int .i64 (o : Int)) := k1
          have hBlt := HR.out.2.cu.lt
          go_wp2_with fail
          go_region_held3 (fun w' => w'.cell? ⟨w.heap.size + 1, 1, none⟩ = some (.int .i64 (o : Int)))
            (with_reducible assumption)
            (first
            | (go_at_call 160; refine (HZ.out _).mono ?_; rintro e u1 ⟨rfl, hb1⟩; have hS1 : u1.cell? ⟨w.heap.size + 1, 1, none⟩ = some (.int .i64 (o : Int)) := (hb1.cell (p := ⟨w.heap.size + 1, 1, none⟩) hBlt).trans hS0; have HB1 : Hid (Below w.heap.size w u1) := HBW.out.drew.trans (hb1.mono HBW.out.size); clear HZ hb1 hS0))
          go_wp2
          go_ret2
          exact ⟨.inr ⟨_, HNO.out, rfl⟩, HB1.out⟩
      · have c1 : (7 : Int) < ((BT.length - o : Nat) : Int) := by omega
        have HNO : Hid (∀ H, ¬ InsP BT b d i m nn H) := fun H h => hf7 (by
          have := ((fill_iff _).1 (HFI.out H h)).1
          rw [List.length_drop] at this
          exact this)
        have c2' : decide ((7 : Int) < ((BT.length - o : Nat) : Int)) = true := decide_eq_true c1
        have c3' : ¬ ((BT.length - o : Nat) : Int) ≤ 7 := by omega
        clear hlo HWI HRD HSL HFI x1 k0 k2 hsl
        generalize ((BT.length - o : Nat) : Int) = LO at *
        go_wp2_with fail
        go_region
        go_wp2
        go_ret2
        exact ⟨.inr ⟨_, HNO.out, rfl⟩, HBW.out.drew⟩
end Go.Proofs.YtlncjgnomhpjnaaGreatDoor

/-
  A frame read, in the document: reelref.unframe.
-/
namespace Go.Proofs.YtlncjgnomhpjnaaGreatDoor
open Go.RowKit Go.Deep
set_option linter.unusedVariables false

theorem valN_inj : ∀ (k : Nat) (l l' : List UInt8), l.length = k → l'.length = k → valN l = valN l' → l = l'
  | 0, l, l', h, h', _ => by rw [List.length_eq_zero_iff.1 h, List.length_eq_zero_iff.1 h']
  | k + 1, l, l', h, h', e => by
    rcases List.eq_nil_or_concat l with hl | ⟨a, x, hl⟩
    · rw [hl] at h; simp at h
    · rcases List.eq_nil_or_concat l' with hl' | ⟨a', x', hl'⟩
      · rw [hl'] at h'; simp at h'
      · subst hl hl'
        simp only [List.concat_eq_append, List.length_append, List.length_cons, List.length_nil] at h h' e ⊢
        rw [valN_snoc, valN_snoc] at e
        have h1 := x.toNat_lt
        have h2 := x'.toNat_lt
        have e1 : valN a = valN a' := by omega
        have e2 : x.toNat = x'.toNat := by omega
        rw [valN_inj k a a' (by omega) (by omega) e1, UInt8.toNat.inj e2]
theorem valN_one (v : Nat) (h : v < 256) : valN (inT v 1) = v := by
  have : inT v 1 = [inB v 1 0] := rfl
  rw [this]
  show 256 * 0 + (inB v 1 0).toNat = v
  rw [inB_nat]
  simp; omega
theorem valN_two (v : Nat) (h : v < 65536) : valN (inT v 2) = v := by
  have : inT v 2 = [inB v 2 0, inB v 2 1] := rfl
  rw [this]
  show 256 * (256 * 0 + (inB v 2 0).toNat) + (inB v 2 1).toNat = v
  rw [inB_nat, inB_nat]
  simp; omega
theorem take_piece (T : List UInt8) (a b : Nat) (h : a ≤ b) (hb : b ≤ T.length) : T.take b = T.take a ++ pieceT T a b := by
  unfold pieceT
  rw [← List.take_add, show a + (b - a) = b by omega]
theorem seal8_iff (T : List UInt8) (h : 8 ≤ T.length) (hc : crc 8 263 (T.take 7) < 256) : seal8 (T.take 7) = T.take 8 ↔ valN (pieceT T 7 8) = crc 8 263 (T.take 7) := by
  rw [take_piece T 7 8 (by omega) h]
  unfold seal8
  constructor
  · intro e
    rw [← List.append_cancel_left e, valN_one _ hc]
  · intro e
    rw [valN_inj 1 (pieceT T 7 8) (inT (crc 8 263 (T.take 7)) 1) (by rw [pieceT_length _ _ _ h (by omega)]) (inT_length _ _) (by rw [e, valN_one _ hc])]
theorem seal16_iff (T : List UInt8) (k : Nat) (h2 : 2 ≤ k) (h : k ≤ T.length) (hc : crc 16 98309 (T.take (k - 2)) < 65536) : seal16 (T.take (k - 2)) = T.take k ↔ valN (pieceT T (k - 2) k) = crc 16 98309 (T.take (k - 2)) := by
  rw [take_piece T (k - 2) k (by omega) h]
  unfold seal16
  constructor
  · intro e
    rw [← List.append_cancel_left e, valN_two _ hc]
  · intro e
    rw [valN_inj 2 (pieceT T (k - 2) k) (inT (crc 16 98309 (T.take (k - 2))) 2) (by rw [pieceT_length _ _ _ h (by omega)]; omega) (inT_length _ _) (by rw [e, valN_two _ hc])]
theorem mark_iff (T : List UInt8) (h : 1 ≤ T.length) : valN (pieceT T 0 1) = 165 ↔ T.getD 0 0 = 165 := by
  cases T with
  | nil => simp at h
  | cons x r =>
    show 256 * 0 + x.toNat = 165 ↔ x = 165
    constructor
    · intro e
      exact UInt8.toNat.inj (by rw [show (165 : UInt8).toNat = 165 from rfl]; omega)
    · intro e; rw [e]; rfl
/-- what reading a frame gives, in the document -/
def RefOut (e : Ending) (w w' : World) (T : List UInt8) (n d : Nat) (c2 number : Int) : Prop :=
  ((∃ H v, FrmP T n d c2 number H ∧ e = .returned (.tuple #[v, .int .i64 (hLen T)]) ∧ RowsAre w w' v n (hCnt T + 1) H)
   ∨ ((∀ H, ¬ FrmP T n d c2 number H) ∧ e = .returned (.tuple #[.slice none 0 0, .int .i64 0]))) ∧ Below w.heap.size w w'
theorem RefOut.no {w w' : World} {T : List UInt8} {n d : Nat} {c2 number : Int} (h : ∀ H, ¬ FrmP T n d c2 number H) (hb : Below w.heap.size w w') : RefOut (.returned (.tuple #[.slice none 0 0, .int .i64 0])) w w' T n d c2 number := ⟨.inr ⟨h, rfl⟩, hb⟩
theorem FrmP.ten {T : List UInt8} {n d : Nat} {c2 number : Int} {H : Nat → Nat → Int} (h : FrmP T n d c2 number H) : 10 ≤ T.length := by
  have := h.2.2.1.1
  omega
theorem FrmP.mark {T : List UInt8} {n d : Nat} {c2 number : Int} {H : Nat → Nat → Int} (h : FrmP T n d c2 number H) : valN (pieceT T 0 1) = 165 := (mark_iff T (by have := h.ten; omega)).2 h.1.2.1
theorem FrmP.eight {T : List UInt8} {n d : Nat} {c2 number : Int} {H : Nat → Nat → Int} (h : FrmP T n d c2 number H) : valN (pieceT T 7 8) = crc 8 263 (T.take 7) := (seal8_iff T (by have := h.ten; omega) (crc_lt 8 _ _)).1 h.1.2.2
theorem bl_drewN {B : Nat} {a b : World} (h : Below B a b) (n : Nat) : Below B a (b.drewN n) := ⟨h.os, h.tape, h.output, h.size, h.block⟩
set_option maxRecDepth 4000 in
set_option maxHeartbeats 2000000 in
theorem refUn_short (c2 c3 c4 c5 c6 c7 : Int) (n d : Nat) (number : Int) (T : List UInt8) (w : World) (hs : T.length < 10) :
    Calls Tryz.prog 79 #[.agg #[.int .i64 n, .int .i64 d, .int .i64 c2, .int .i64 c3, .int .i64 c4, .int .i64 c5, .int .i64 c6, .int .i64 c7], .int .i64 number, .string (bs T)] w fun e w' => RefOut e w w' T n d c2 number := by
  have hz : (bs T).size = T.length := bs_size T
  have HB0 : Hid (Below w.heap.size w (w.alloc (.cells #[.int .i64 n, .int .i64 d, .int .i64 c2, .int .i64 c3, .int .i64 c4, .int .i64 c5, .int .i64 c6, .int .i64 c7] 23))) := (Below.refl _ _).alloc (Nat.le_refl _) _
  have HNO : Hid (∀ H, ¬ FrmP T n d c2 number H) := fun H h => by have := h.ten; omega
  have c1 : (T.length : Int) < 10 := by omega
  have c1d : decide ((T.length : Int) < 10) = true := decide_eq_true c1
  generalize bs T = SB at *
  generalize T.length = nT at *
  go_enter Tryz.func79, Tryz.ntmps79
  go_wp2_with fail
  go_region
  go_wp2
  go_ret2
  exact RefOut.no HNO.out HB0.out.drew
set_option maxRecDepth 4000 in
set_option maxHeartbeats 2000000 in
theorem refUn_mark (c2 c3 c4 c5 c6 c7 : Int) (n d : Nat) (number : Int) (T : List UInt8) (w : World) (hs : 10 ≤ T.length) (hs2 : T.length ≤ 9000) (hM : ¬ valN (pieceT T 0 1) = 165) :
    Calls Tryz.prog 79 #[.agg #[.int .i64 n, .int .i64 d, .int .i64 c2, .int .i64 c3, .int .i64 c4, .int .i64 c5, .int .i64 c6, .int .i64 c7], .int .i64 number, .string (bs T)] w fun e w' => RefOut e w w' T n d c2 number := by
  have hz : (bs T).size = T.length := bs_size T
  have HB0 : Hid (Below w.heap.size w (w.alloc (.cells #[.int .i64 n, .int .i64 d, .int .i64 c2, .int .i64 c3, .int .i64 c4, .int .i64 c5, .int .i64 c6, .int .i64 c7] 23))) := (Below.refl _ _).alloc (Nat.le_refl _) _
  have HNO : Hid (∀ H, ¬ FrmP T n d c2 number H) := fun H h => hM h.mark
  have c1 : ¬ (T.length : Int) < 10 := by omega
  have c1d : decide ((T.length : Int) < 10) = false := decide_eq_false c1
  have n1 : 1 ≤ T.length := by omega
  have n3 : 3 ≤ T.length := by omega
  have n8 : 8 ≤ T.length := by omega
  have n7 : 7 ≤ T.length := by omega
  have n5 : 5 ≤ T.length := by omega
  have n6 : 6 ≤ T.length := by omega
  have i1 : (1 : Int) ≤ (T.length : Int) := by omega
  have i3 : (3 : Int) ≤ (T.length : Int) := by omega
  have i8 : (8 : Int) ≤ (T.length : Int) := by omega
  have i7 : (7 : Int) ≤ (T.length : Int) := by omega
  have i5 : (5 : Int) ≤ (T.length : Int) := by omega
  have i6 : (6 : Int) ≤ (T.length : Int) := by omega
  have e01 : (bs T).extract 0 1 = bs (pieceT T 0 1) := bs_cut T 0 1
  have e13 : (bs T).extract 1 3 = bs (pieceT T 1 3) := bs_cut T 1 3
  have e78 : (bs T).extract 7 8 = bs (pieceT T 7 8) := bs_cut T 7 8
  have e07 : (bs T).extract 0 7 = bs (T.take 7) := bs_takeN T 7
  have e35 : (bs T).extract 3 5 = bs (pieceT T 3 5) := bs_cut T 3 5
  have e56 : (bs T).extract 5 6 = bs (pieceT T 5 6) := bs_cut T 5 6
  have e67 : (bs T).extract 6 7 = bs (pieceT T 6 7) := bs_cut T 6 7
  have H01 := Hid.mk' (fun u => high_any (pieceT T 0 1) u (by rw [pieceT_length _ _ _ (by omega) (by omega)]; omega))
  have H13 : Hid (∀ u, Calls Tryz.prog 124 #[.string (bs (pieceT T 1 3))] u fun e w' => e = .returned (.int .i64 (hNum T)) ∧ w' = u) := fun u => high_any (pieceT T 1 3) u (by rw [pieceT_length _ _ _ (by omega) (by omega)]; omega)
  have H78 := Hid.mk' (fun u => high_any (pieceT T 7 8) u (by rw [pieceT_length _ _ _ (by omega) (by omega)]; omega))
  have H35 : Hid (∀ u, Calls Tryz.prog 124 #[.string (bs (pieceT T 3 5))] u fun e w' => e = .returned (.int .i64 (hLen T)) ∧ w' = u) := fun u => high_any (pieceT T 3 5) u (by rw [pieceT_length _ _ _ (by omega) (by omega)]; omega)
  have H56 : Hid (∀ u, Calls Tryz.prog 124 #[.string (bs (pieceT T 5 6))] u fun e w' => e = .returned (.int .i64 (hCnt T)) ∧ w' = u) := fun u => high_any (pieceT T 5 6) u (by rw [pieceT_length _ _ _ (by omega) (by omega)]; omega)
  have H67 : Hid (∀ u, Calls Tryz.prog 124 #[.string (bs (pieceT T 6 7))] u fun e w' => e = .returned (.int .i64 (hMode T)) ∧ w' = u) := fun u => high_any (pieceT T 6 7) u (by rw [pieceT_length _ _ _ (by omega) (by omega)]; omega)
  have HH : Hid (∀ u a b, b - a ≤ 4 → a ≤ b → b ≤ T.length → Calls Tryz.prog 124 #[.string (bs (pieceT T a b))] u fun e w' => e = .returned (.int .i64 (valN (pieceT T a b))) ∧ w' = u) := fun u a b h1 h2 h3 => high_any (pieceT T a b) u (by rw [pieceT_length _ _ _ h3 h2]; exact h1)
  have H8 := Hid.mk' (fun u => ref8_bs (T.take 7) u (by rw [List.length_take]; omega))
  have t1 : ((valN (pieceT T 0 1) : Int) == 165) = false := by simp; omega
  have t1' : ((valN (pieceT T 0 1) : Int) != 165) = true := by simp; omega
  generalize bs T = SB at *
  clear H01 H13 H78 H35 H56 H67 H8 e13 e78 e07 e35 e56 e67
  go_enter Tryz.func79, Tryz.ntmps79
  go_wp2_with fail
  go_quiet (((go_at_call 124; exact (HH.out _ _ _ (by omega) (by omega) (by omega)).mono fun _ _ h => ⟨h.1, _, h.2⟩)))
  go_wp2
  go_ret2
  exact RefOut.no HNO.out (bl_drewN HB0.out _)
set_option maxRecDepth 4000 in
set_option maxHeartbeats 2000000 in
theorem refUn_num (c2 c3 c4 c5 c6 c7 : Int) (n d : Nat) (number : Int) (T : List UInt8) (w : World) (hs : 10 ≤ T.length) (hs2 : T.length ≤ 9000) (hM : valN (pieceT T 0 1) = 165) (hN : ¬ (hNum T : Int) = number) :
    Calls Tryz.prog 79 #[.agg #[.int .i64 n, .int .i64 d, .int .i64 c2, .int .i64 c3, .int .i64 c4, .int .i64 c5, .int .i64 c6, .int .i64 c7], .int .i64 number, .string (bs T)] w fun e w' => RefOut e w w' T n d c2 number := by
  have hz : (bs T).size = T.length := bs_size T
  have HB0 : Hid (Below w.heap.size w (w.alloc (.cells #[.int .i64 n, .int .i64 d, .int .i64 c2, .int .i64 c3, .int .i64 c4, .int .i64 c5, .int .i64 c6, .int .i64 c7] 23))) := (Below.refl _ _).alloc (Nat.le_refl _) _
  have HNO : Hid (∀ H, ¬ FrmP T n d c2 number H) := fun H h => hN h.2.1
  have c1 : ¬ (T.length : Int) < 10 := by omega
  have c1d : decide ((T.length : Int) < 10) = false := decide_eq_false c1
  have n1 : 1 ≤ T.length := by omega
  have n3 : 3 ≤ T.length := by omega
  have n8 : 8 ≤ T.length := by omega
  have n7 : 7 ≤ T.length := by omega
  have n5 : 5 ≤ T.length := by omega
  have n6 : 6 ≤ T.length := by omega
  have i1 : (1 : Int) ≤ (T.length : Int) := by omega
  have i3 : (3 : Int) ≤ (T.length : Int) := by omega
  have i8 : (8 : Int) ≤ (T.length : Int) := by omega
  have i7 : (7 : Int) ≤ (T.length : Int) := by omega
  have i5 : (5 : Int) ≤ (T.length : Int) := by omega
  have i6 : (6 : Int) ≤ (T.length : Int) := by omega
  have e01 : (bs T).extract 0 1 = bs (pieceT T 0 1) := bs_cut T 0 1
  have e13 : (bs T).extract 1 3 = bs (pieceT T 1 3) := bs_cut T 1 3
  have e78 : (bs T).extract 7 8 = bs (pieceT T 7 8) := bs_cut T 7 8
  have e07 : (bs T).extract 0 7 = bs (T.take 7) := bs_takeN T 7
  have e35 : (bs T).extract 3 5 = bs (pieceT T 3 5) := bs_cut T 3 5
  have e56 : (bs T).extract 5 6 = bs (pieceT T 5 6) := bs_cut T 5 6
  have e67 : (bs T).extract 6 7 = bs (pieceT T 6 7) := bs_cut T 6 7
  have H01 := Hid.mk' (fun u => high_any (pieceT T 0 1) u (by rw [pieceT_length _ _ _ (by omega) (by omega)]; omega))
  have H13 : Hid (∀ u, Calls Tryz.prog 124 #[.string (bs (pieceT T 1 3))] u fun e w' => e = .returned (.int .i64 (hNum T)) ∧ w' = u) := fun u => high_any (pieceT T 1 3) u (by rw [pieceT_length _ _ _ (by omega) (by omega)]; omega)
  have H78 := Hid.mk' (fun u => high_any (pieceT T 7 8) u (by rw [pieceT_length _ _ _ (by omega) (by omega)]; omega))
  have H35 : Hid (∀ u, Calls Tryz.prog 124 #[.string (bs (pieceT T 3 5))] u fun e w' => e = .returned (.int .i64 (hLen T)) ∧ w' = u) := fun u => high_any (pieceT T 3 5) u (by rw [pieceT_length _ _ _ (by omega) (by omega)]; omega)
  have H56 : Hid (∀ u, Calls Tryz.prog 124 #[.string (bs (pieceT T 5 6))] u fun e w' => e = .returned (.int .i64 (hCnt T)) ∧ w' = u) := fun u => high_any (pieceT T 5 6) u (by rw [pieceT_length _ _ _ (by omega) (by omega)]; omega)
  have H67 : Hid (∀ u, Calls Tryz.prog 124 #[.string (bs (pieceT T 6 7))] u fun e w' => e = .returned (.int .i64 (hMode T)) ∧ w' = u) := fun u => high_any (pieceT T 6 7) u (by rw [pieceT_length _ _ _ (by omega) (by omega)]; omega)
  have HH : Hid (∀ u a b, b - a ≤ 4 → a ≤ b → b ≤ T.length → Calls Tryz.prog 124 #[.string (bs (pieceT T a b))] u fun e w' => e = .returned (.int .i64 (valN (pieceT T a b))) ∧ w' = u) := fun u a b h1 h2 h3 => high_any (pieceT T a b) u (by rw [pieceT_length _ _ _ h3 h2]; exact h1)
  have H8 := Hid.mk' (fun u => ref8_bs (T.take 7) u (by rw [List.length_take]; omega))
  have t1 : ((valN (pieceT T 0 1) : Int) == 165) = true := by simp; omega
  have t1' : ((valN (pieceT T 0 1) : Int) != 165) = false := by simp; omega
  have t2 : ((valN (pieceT T 1 3) : Int) == number) = false := by simpa [hNum] using hN
  have t2' : ((valN (pieceT T 1 3) : Int) != number) = true := by simpa [hNum] using hN
  generalize bs T = SB at *
  clear H01 H13 H78 H35 H56 H67 H8 e78 e07 e35 e56 e67
  go_enter Tryz.func79, Tryz.ntmps79
  go_wp2_with fail
  go_quiet (((go_at_call 124; exact (HH.out _ _ _ (by omega) (by omega) (by omega)).mono fun _ _ h => ⟨h.1, _, h.2⟩)))
  go_wp2
  go_ret2
  exact RefOut.no HNO.out (bl_drewN HB0.out _)
set_option maxRecDepth 4000 in
set_option maxHeartbeats 2000000 in
theorem refUn_eight (c2 c3 c4 c5 c6 c7 : Int) (n d : Nat) (T : List UInt8) (w : World) (hs : 10 ≤ T.length) (hs2 : T.length ≤ 9000) (hM : valN (pieceT T 0 1) = 165) (hE : ¬ valN (pieceT T 7 8) = crc 8 263 (T.take 7)) :
    Calls Tryz.prog 79 #[.agg #[.int .i64 n, .int .i64 d, .int .i64 c2, .int .i64 c3, .int .i64 c4, .int .i64 c5, .int .i64 c6, .int .i64 c7], .int .i64 (hNum T), .string (bs T)] w fun e w' => RefOut e w w' T n d c2 (hNum T) := by
  have hz : (bs T).size = T.length := bs_size T
  have HB0 : Hid (Below w.heap.size w (w.alloc (.cells #[.int .i64 n, .int .i64 d, .int .i64 c2, .int .i64 c3, .int .i64 c4, .int .i64 c5, .int .i64 c6, .int .i64 c7] 23))) := (Below.refl _ _).alloc (Nat.le_refl _) _
  have HNO : Hid (∀ H, ¬ FrmP T n d c2 (hNum T) H) := fun H h => hE h.eight
  have c1 : ¬ (T.length : Int) < 10 := by omega
  have c1d : decide ((T.length : Int) < 10) = false := decide_eq_false c1
  have n1 : 1 ≤ T.length := by omega
  have n3 : 3 ≤ T.length := by omega
  have n8 : 8 ≤ T.length := by omega
  have n7 : 7 ≤ T.length := by omega
  have n5 : 5 ≤ T.length := by omega
  have n6 : 6 ≤ T.length := by omega
  have i1 : (1 : Int) ≤ (T.length : Int) := by omega
  have i3 : (3 : Int) ≤ (T.length : Int) := by omega
  have i8 : (8 : Int) ≤ (T.length : Int) := by omega
  have i7 : (7 : Int) ≤ (T.length : Int) := by omega
  have i5 : (5 : Int) ≤ (T.length : Int) := by omega
  have i6 : (6 : Int) ≤ (T.length : Int) := by omega
  have e01 : (bs T).extract 0 1 = bs (pieceT T 0 1) := bs_cut T 0 1
  have e13 : (bs T).extract 1 3 = bs (pieceT T 1 3) := bs_cut T 1 3
  have e78 : (bs T).extract 7 8 = bs (pieceT T 7 8) := bs_cut T 7 8
  have e07 : (bs T).extract 0 7 = bs (T.take 7) := bs_takeN T 7
  have e35 : (bs T).extract 3 5 = bs (pieceT T 3 5) := bs_cut T 3 5
  have e56 : (bs T).extract 5 6 = bs (pieceT T 5 6) := bs_cut T 5 6
  have e67 : (bs T).extract 6 7 = bs (pieceT T 6 7) := bs_cut T 6 7
  have H01 := Hid.mk' (fun u => high_any (pieceT T 0 1) u (by rw [pieceT_length _ _ _ (by omega) (by omega)]; omega))
  have H13 : Hid (∀ u, Calls Tryz.prog 124 #[.string (bs (pieceT T 1 3))] u fun e w' => e = .returned (.int .i64 (hNum T)) ∧ w' = u) := fun u => high_any (pieceT T 1 3) u (by rw [pieceT_length _ _ _ (by omega) (by omega)]; omega)
  have H78 := Hid.mk' (fun u => high_any (pieceT T 7 8) u (by rw [pieceT_length _ _ _ (by omega) (by omega)]; omega))
  have H35 : Hid (∀ u, Calls Tryz.prog 124 #[.string (bs (pieceT T 3 5))] u fun e w' => e = .returned (.int .i64 (hLen T)) ∧ w' = u) := fun u => high_any (pieceT T 3 5) u (by rw [pieceT_length _ _ _ (by omega) (by omega)]; omega)
  have H56 : Hid (∀ u, Calls Tryz.prog 124 #[.string (bs (pieceT T 5 6))] u fun e w' => e = .returned (.int .i64 (hCnt T)) ∧ w' = u) := fun u => high_any (pieceT T 5 6) u (by rw [pieceT_length _ _ _ (by omega) (by omega)]; omega)
  have H67 : Hid (∀ u, Calls Tryz.prog 124 #[.string (bs (pieceT T 6 7))] u fun e w' => e = .returned (.int .i64 (hMode T)) ∧ w' = u) := fun u => high_any (pieceT T 6 7) u (by rw [pieceT_length _ _ _ (by omega) (by omega)]; omega)
  have HH : Hid (∀ u a b, b - a ≤ 4 → a ≤ b → b ≤ T.length → Calls Tryz.prog 124 #[.string (bs (pieceT T a b))] u fun e w' => e = .returned (.int .i64 (valN (pieceT T a b))) ∧ w' = u) := fun u a b h1 h2 h3 => high_any (pieceT T a b) u (by rw [pieceT_length _ _ _ h3 h2]; exact h1)
  have H8 := Hid.mk' (fun u => ref8_bs (T.take 7) u (by rw [List.length_take]; omega))
  have t1 : ((valN (pieceT T 0 1) : Int) == 165) = true := by simp; omega
  have t1' : ((valN (pieceT T 0 1) : Int) != 165) = false := by simp; omega
  have t2' : ((hNum T : Int) != (hNum T : Int)) = false := by simp
  have t3' : ((valN (pieceT T 7 8) : Int) != (crc 8 263 (T.take 7) : Int)) = true := by simp; omega
  generalize bs (pieceT T 0 1) = P01 at *
  generalize bs (pieceT T 1 3) = P13 at *
  generalize bs (pieceT T 7 8) = P78 at *
  generalize bs (pieceT T 3 5) = P35 at *
  generalize bs (pieceT T 5 6) = P56 at *
  generalize bs (pieceT T 6 7) = P67 at *
  generalize bs (T.take 7) = P07 at *
  generalize valN (pieceT T 0 1) = v01 at *
  generalize valN (pieceT T 7 8) = v78 at *
  generalize crc 8 263 (T.take 7) = v8 at *
  generalize bs T = SB at *
  generalize T.length = nT at *
  generalize hNum T = hn at *
  clear HH H35 H56 H67 e35 e56 e67 hM hE
  go_enter Tryz.func79, Tryz.ntmps79
  go_wp2_with fail
  go_region_with (first | (go_at_call 124; refine (H01.out _).mono ?_; rintro e w5 ⟨rfl, hw⟩; subst w5; clear H01) | (go_at_call 124; refine (H13.out _).mono ?_; rintro e w5 ⟨rfl, hw⟩; subst w5; clear H13) | (go_at_call 124; refine (H78.out _).mono ?_; rintro e w5 ⟨rfl, hw⟩; subst w5; clear H78) | (go_at_call 112; refine (H8.out _).mono ?_; rintro e u1 ⟨rfl, hb⟩; have HB1 : Hid (Below w.heap.size w u1) := HB0.out.drew.trans (hb.mono (by simp)); clear hb H8 HB0))
  go_wp2
  go_ret2
  exact RefOut.no HNO.out HB1.out
end Go.Proofs.YtlncjgnomhpjnaaGreatDoor

/-
  A frame read, in the document: reelref.unframe, behind its head.
-/
namespace Go.Proofs.YtlncjgnomhpjnaaGreatDoor
open Go.RowKit Go.Deep
set_option linter.unusedVariables false

theorem InOut.yes {e : Ending} {w w' : World} {BT : List UInt8} {b : Nat → Bool} {d n m nn : Nat} {H : Nat → Nat → Int} (h : InOut e w w' BT b d n m nn) (hI : InsP BT b d n m nn H) : ∃ H v, e = .returned (.tuple #[v, .bool true]) ∧ InsP BT b d n m nn H ∧ RowsAre w w' v n nn H ∧ Below w.heap.size w w' := by
  rcases h with ⟨⟨H', v, h1, h2, h3⟩ | ⟨v, hno, -⟩, hb⟩
  · exact ⟨H', v, h2, h1, h3, hb⟩
  · exact absurd hI (hno H)
theorem InOut.no {e : Ending} {w w' : World} {BT : List UInt8} {b : Nat → Bool} {d n m nn : Nat} (h : InOut e w w' BT b d n m nn) (hI : ∀ H, ¬ InsP BT b d n m nn H) : ∃ v, e = .returned (.tuple #[v, .bool false]) ∧ Below w.heap.size w w' := by
  rcases h with ⟨⟨H', v, h1, -⟩ | ⟨v, -, h2⟩, hb⟩
  · exact absurd h1 (hI H')
  · exact ⟨v, h2, hb⟩
theorem cfg_cells {u : World} {p : Nat} {a0 a1 a2 a3 a4 a5 a6 a7 : Value} (hC : Bx u p 23 #[a0, a1, a2, a3, a4, a5, a6, a7]) :
    u.cell? ⟨p, 0, none⟩ = some a0 ∧ u.cell? ⟨p, 1, none⟩ = some a1 ∧ u.cell? ⟨p, 2, none⟩ = some a2 ∧ u.cell? ⟨p, 3, none⟩ = some a3 ∧ u.cell? ⟨p, 4, none⟩ = some a4 ∧ u.cell? ⟨p, 5, none⟩ = some a5 ∧ u.cell? ⟨p, 6, none⟩ = some a6 ∧ u.cell? ⟨p, 7, none⟩ = some a7 :=
  ⟨hC.cell 0, hC.cell 1, hC.cell 2, hC.cell 3, hC.cell 4, hC.cell 5, hC.cell 6, hC.cell 7⟩
theorem spelt_bs (T : List UInt8) (w : World) (hs : T.length ≤ 2097152) : Calls Tryz.prog 126 #[.string (bs T)] w fun e w' => e = .returned (.string (bs (spellTo T T.length))) ∧ Below w.heap.size w w' := by
  have := spelt_any (bs T) w (by rw [bs_size]; exact hs)
  rw [bs_list, bs_size, spelt_text] at this
  exact this.mono fun e w' h => ⟨h.1, h.2.1⟩
set_option maxRecDepth 4000 in
set_option maxHeartbeats 2000000 in
theorem refUn_rest (c2 c3 c4 c5 c6 c7 : Int) (n d : Nat) (T : List UInt8) (w : World) (hs : 10 ≤ T.length) (hs2 : T.length ≤ 9000) (hd1 : 4 ≤ d) (hd : d ≤ 12) (hn1 : 1 ≤ n) (hn4 : n ≤ 4) (h2 : c2 ≤ 32) (hT : TabAt w 3) (hT3 : 3 < w.heap.size) (hM : valN (pieceT T 0 1) = 165) (hE : valN (pieceT T 7 8) = crc 8 263 (T.take 7)) :
    Calls Tryz.prog 79 #[.agg #[.int .i64 n, .int .i64 d, .int .i64 c2, .int .i64 c3, .int .i64 c4, .int .i64 c5, .int .i64 c6, .int .i64 c7], .int .i64 (hNum T), .string (bs T)] w fun e w' => RefOut e w w' T n d c2 (hNum T) := by
  have hz : (bs T).size = T.length := bs_size T
  have HB0 : Hid (Below w.heap.size w (w.alloc (.cells #[.int .i64 n, .int .i64 d, .int .i64 c2, .int .i64 c3, .int .i64 c4, .int .i64 c5, .int .i64 c6, .int .i64 c7] 23))) := (Below.refl _ _).alloc (Nat.le_refl _) _
  have hHP : HeadP T := ⟨by omega, (mark_iff T (by omega)).1 hM, (seal8_iff T (by omega) (crc_lt 8 _ _)).2 hE⟩
  have c1 : ¬ (T.length : Int) < 10 := by omega
  have c1d : decide ((T.length : Int) < 10) = false := decide_eq_false c1
  have n1 : 1 ≤ T.length := by omega
  have n3 : 3 ≤ T.length := by omega
  have n8 : 8 ≤ T.length := by omega
  have n7 : 7 ≤ T.length := by omega
  have n5 : 5 ≤ T.length := by omega
  have n6 : 6 ≤ T.length := by omega
  have i1 : (1 : Int) ≤ (T.length : Int) := by omega
  have i3 : (3 : Int) ≤ (T.length : Int) := by omega
  have i8 : (8 : Int) ≤ (T.length : Int) := by omega
  have i7 : (7 : Int) ≤ (T.length : Int) := by omega
  have i5 : (5 : Int) ≤ (T.length : Int) := by omega
  have i6 : (6 : Int) ≤ (T.length : Int) := by omega
  have e01 : (bs T).extract 0 1 = bs (pieceT T 0 1) := bs_cut T 0 1
  have e13 : (bs T).extract 1 3 = bs (pieceT T 1 3) := bs_cut T 1 3
  have e78 : (bs T).extract 7 8 = bs (pieceT T 7 8) := bs_cut T 7 8
  have e07 : (bs T).extract 0 7 = bs (T.take 7) := bs_takeN T 7
  have e35 : (bs T).extract 3 5 = bs (pieceT T 3 5) := bs_cut T 3 5
  have e56 : (bs T).extract 5 6 = bs (pieceT T 5 6) := bs_cut T 5 6
  have e67 : (bs T).extract 6 7 = bs (pieceT T 6 7) := bs_cut T 6 7
  have H01 := Hid.mk' (fun u => high_any (pieceT T 0 1) u (by rw [pieceT_length _ _ _ (by omega) (by omega)]; omega))
  have H13 : Hid (∀ u, Calls Tryz.prog 124 #[.string (bs (pieceT T 1 3))] u fun e w' => e = .returned (.int .i64 (hNum T)) ∧ w' = u) := fun u => high_any (pieceT T 1 3) u (by rw [pieceT_length _ _ _ (by omega) (by omega)]; omega)
  have H78 := Hid.mk' (fun u => high_any (pieceT T 7 8) u (by rw [pieceT_length _ _ _ (by omega) (by omega)]; omega))
  have H35 : Hid (∀ u, Calls Tryz.prog 124 #[.string (bs (pieceT T 3 5))] u fun e w' => e = .returned (.int .i64 (hLen T)) ∧ w' = u) := fun u => high_any (pieceT T 3 5) u (by rw [pieceT_length _ _ _ (by omega) (by omega)]; omega)
  have H56 : Hid (∀ u, Calls Tryz.prog 124 #[.string (bs (pieceT T 5 6))] u fun e w' => e = .returned (.int .i64 (hCnt T)) ∧ w' = u) := fun u => high_any (pieceT T 5 6) u (by rw [pieceT_length _ _ _ (by omega) (by omega)]; omega)
  have H67 : Hid (∀ u, Calls Tryz.prog 124 #[.string (bs (pieceT T 6 7))] u fun e w' => e = .returned (.int .i64 (hMode T)) ∧ w' = u) := fun u => high_any (pieceT T 6 7) u (by rw [pieceT_length _ _ _ (by omega) (by omega)]; omega)
  have HH : Hid (∀ u a b, b - a ≤ 4 → a ≤ b → b ≤ T.length → Calls Tryz.prog 124 #[.string (bs (pieceT T a b))] u fun e w' => e = .returned (.int .i64 (valN (pieceT T a b))) ∧ w' = u) := fun u a b h1 h2 h3 => high_any (pieceT T a b) u (by rw [pieceT_length _ _ _ h3 h2]; exact h1)
  have H8 := Hid.mk' (fun u => ref8_bs (T.take 7) u (by rw [List.length_take]; omega))
  have HC1 : Hid (∀ u, Below (w.alloc (.cells #[.int .i64 n, .int .i64 d, .int .i64 c2, .int .i64 c3, .int .i64 c4, .int .i64 c5, .int .i64 c6, .int .i64 c7] 23)).heap.size (w.alloc (.cells #[.int .i64 n, .int .i64 d, .int .i64 c2, .int .i64 c3, .int .i64 c4, .int .i64 c5, .int .i64 c6, .int .i64 c7] 23)) u → Bx u w.heap.size 23 #[.int .i64 n, .int .i64 d, .int .i64 c2, .int .i64 c3, .int .i64 c4, .int .i64 c5, .int .i64 c6, .int .i64 c7]) := fun u hu => (Bx.new _ _ _).below hu
  have t1 : ((valN (pieceT T 0 1) : Int) == 165) = true := by simp; omega
  have t1' : ((valN (pieceT T 0 1) : Int) != 165) = false := by simp; omega
  have t2' : ((hNum T : Int) != (hNum T : Int)) = false := by simp
  have t3' : ((valN (pieceT T 7 8) : Int) != (crc 8 263 (T.take 7) : Int)) = false := by simp; omega
  have HCB : Hid (hLen T < 65536 ∧ hCnt T < 256 ∧ hMode T < 256) := by
    have h1 := valN_lt (pieceT T 3 5) 2 (by rw [pieceT_length _ _ _ (by omega) (by omega)]; omega)
    have h2 := valN_lt (pieceT T 5 6) 1 (by rw [pieceT_length _ _ _ (by omega) (by omega)]; omega)
    have h3 := valN_lt (pieceT T 6 7) 1 (by rw [pieceT_length _ _ _ (by omega) (by omega)]; omega)
    rw [List.take_of_length_le (by rw [pieceT_length _ _ _ (by omega) (by omega)]; omega)] at h1 h2 h3
    exact ⟨h1, h2, h3⟩
  have hcb := HCB.out
  have wN : IntKind.i64.wrap ((hCnt T : Int) + 1) = ((hCnt T + 1 : Nat) : Int) := by rw [IntKind.wrap_i64]; omega
  have HHP := Hid.mk' hHP
  have HTA := Hid.mk' hT
  clear HH hM hE hT hHP hcb
  generalize bs (pieceT T 0 1) = P01 at *
  generalize bs (pieceT T 1 3) = P13 at *
  generalize bs (pieceT T 7 8) = P78 at *
  generalize bs (pieceT T 3 5) = P35 at *
  generalize bs (pieceT T 5 6) = P56 at *
  generalize bs (pieceT T 6 7) = P67 at *
  generalize bs (T.take 7) = P07 at *
  generalize valN (pieceT T 0 1) = v01 at *
  generalize valN (pieceT T 7 8) = v78 at *
  generalize crc 8 263 (T.take 7) = v8 at *
  go_enter Tryz.func79, Tryz.ntmps79
  go_wp2_with fail
  go_region_with (first | (go_at_call 124; refine (H01.out _).mono ?_; rintro e w5 ⟨rfl, hw⟩; subst w5; clear H01) | (go_at_call 124; refine (H13.out _).mono ?_; rintro e w5 ⟨rfl, hw⟩; subst w5; clear H13) | (go_at_call 124; refine (H78.out _).mono ?_; rintro e w5 ⟨rfl, hw⟩; subst w5; clear H78) | (go_at_call 112; refine (H8.out _).mono ?_; rintro e u1 ⟨rfl, hb⟩; have HB1 : Hid (Below w.heap.size w u1) := HB0.out.drew.trans (hb.mono (by simp)); have HX := Hid.mk' (HC1.out _ (⟨hb.os, hb.tape, hb.output, hb.size, hb.block⟩)); clear HC1; clear hb H8 HB0))
  clear t1 t1' t2' t3' e01 e13 e78 e07
  have x0 := HX.out.cell 0
  have x2 := HX.out.cell 2
  by_cases p1 : (hLen T : Int) < 10
  · have HNO : Hid (∀ H, ¬ FrmP T n d c2 (hNum T) H) := fun H h => by have h1 := h.2.2.1.1; omega
    go_wp2_with (first | (go_at_call 124; refine (H35.out _).mono ?_; rintro e w5 ⟨rfl, hw⟩; subst w5; clear H35) | (go_at_call 124; refine (H56.out _).mono ?_; rintro e w5 ⟨rfl, hw⟩; subst w5; clear H56) | (go_at_call 124; refine (H67.out _).mono ?_; rintro e w5 ⟨rfl, hw⟩; subst w5; clear H67))
    go_ret2
    exact RefOut.no HNO.out HB1.out
  by_cases p2 : (T.length : Int) < (hLen T : Int)
  · have HNO : Hid (∀ H, ¬ FrmP T n d c2 (hNum T) H) := fun H h => by have h1 := h.2.2.1.1; omega
    go_wp2_with (first | (go_at_call 124; refine (H35.out _).mono ?_; rintro e w5 ⟨rfl, hw⟩; subst w5; clear H35) | (go_at_call 124; refine (H56.out _).mono ?_; rintro e w5 ⟨rfl, hw⟩; subst w5; clear H56) | (go_at_call 124; refine (H67.out _).mono ?_; rintro e w5 ⟨rfl, hw⟩; subst w5; clear H67))
    go_ret2
    exact RefOut.no HNO.out HB1.out
  by_cases p3 : c2 < (hCnt T : Int) + 1
  · have HNO : Hid (∀ H, ¬ FrmP T n d c2 (hNum T) H) := fun H h => by have h1 := h.2.2.1.2.1; omega
    go_wp2_with (first | (go_at_call 124; refine (H35.out _).mono ?_; rintro e w5 ⟨rfl, hw⟩; subst w5; clear H35) | (go_at_call 124; refine (H56.out _).mono ?_; rintro e w5 ⟨rfl, hw⟩; subst w5; clear H56) | (go_at_call 124; refine (H67.out _).mono ?_; rintro e w5 ⟨rfl, hw⟩; subst w5; clear H67))
    go_ret2
    exact RefOut.no HNO.out HB1.out
  by_cases p4 : (3 : Int) < (hMode T : Int)
  · have HNO : Hid (∀ H, ¬ FrmP T n d c2 (hNum T) H) := fun H h => by have h1 := h.2.2.1.2.2; unfold modesN at h1; split at h1 <;> omega
    go_wp2_with (first | (go_at_call 124; refine (H35.out _).mono ?_; rintro e w5 ⟨rfl, hw⟩; subst w5; clear H35) | (go_at_call 124; refine (H56.out _).mono ?_; rintro e w5 ⟨rfl, hw⟩; subst w5; clear H56) | (go_at_call 124; refine (H67.out _).mono ?_; rintro e w5 ⟨rfl, hw⟩; subst w5; clear H67))
    go_ret2
    exact RefOut.no HNO.out HB1.out
  by_cases p5 : (0 : Int) < (hMode T : Int)
  · by_cases p6 : n = 2
    · have t6 : ((n : Int) == 2) = true := by simp; omega
      have t6' : ((n : Int) != 2) = false := by simp; omega
      have HMP : Hid (MayP n c2 (hLen T) (hCnt T + 1) (hMode T) T.length) := ⟨⟨by omega, by omega⟩, by omega, by unfold modesN; rw [if_pos (by omega)]; omega⟩
      have HM0 : Hid (n ≠ 2 → hMode T = 0) := fun h => absurd p6 h
      clear p6
      go_wp2_with (first | (go_at_call 124; refine (H35.out _).mono ?_; rintro e w5 ⟨rfl, hw⟩; subst w5; clear H35) | (go_at_call 124; refine (H56.out _).mono ?_; rintro e w5 ⟨rfl, hw⟩; subst w5; clear H56) | (go_at_call 124; refine (H67.out _).mono ?_; rintro e w5 ⟨rfl, hw⟩; subst w5; clear H67))
      obtain ⟨q, hq⟩ : ∃ q, hLen T = q + 2 := ⟨hLen T - 2, by omega⟩
      have HQ := Hid.mk' hq
      have q8 : 8 ≤ q := by omega
      have qT : q + 2 ≤ T.length := by omega
      have wq : IntKind.i64.wrap ((hLen T : Int) - 2) = (q : Int) := by rw [IntKind.wrap_i64]; omega
      have j1 : (q : Int) ≤ (hLen T : Int) := by omega
      have j2 : (hLen T : Int) ≤ (T.length : Int) := by omega
      have j3 : (8 : Int) ≤ (q : Int) := by omega
      have j4 : (q : Int) ≤ (T.length : Int) := by omega
      have eqk : (bs T).extract q (hLen T) = bs (pieceT T q (hLen T)) := bs_cut T q (hLen T)
      have e0q : (bs T).extract 0 q = bs (T.take q) := bs_takeN T q
      have e8q : (bs T).extract 8 q = bs (insT T) := by rw [bs_cut]; unfold insT; rw [hq]; rfl
      have HLI : Hid ((insT T).length = q - 8) := by show _ = _; unfold insT; rw [hq, pieceT_length _ _ _ (by omega) (by omega)]; omega
      have HK := Hid.mk' (fun u => high_any (pieceT T q (hLen T)) u (by rw [pieceT_length _ _ _ (by omega) (by omega)]; omega))
      have H16 := Hid.mk' (fun u => ref16_bs (T.take q) u (by rw [List.length_take]; omega))
      have HSI : Hid (seal16 (T.take (hLen T - 2)) = T.take (hLen T) ↔ valN (pieceT T q (hLen T)) = crc 16 98309 (T.take q)) := by
        have := seal16_iff T (hLen T) (by omega) (by omega) (crc_lt 16 _ _)
        rw [hq, Nat.add_sub_cancel] at this
        rw [hq, Nat.add_sub_cancel]
        exact this
      have hXc := cfg_cells (u := u1.drew) HX.out
      clear hq
      generalize bs (T.take q) = P0q at *
      generalize bs (pieceT T q (hLen T)) = Pqk at *
      by_cases hS : valN (pieceT T q (hLen T)) = crc 16 98309 (T.take q)
      · have t7 : ((valN (pieceT T q (hLen T)) : Int) != (crc 16 98309 (T.take q) : Int)) = false := by simp; omega
        have HSY := Hid.mk' (HSI.out.2 hS)
        clear hS
        generalize valN (pieceT T q (hLen T)) = vqk at *
        generalize crc 16 98309 (T.take q) = v16 at *
        have HSP := Hid.mk' (fun u => spelt_bs (insT T) u (by rw [HLI.out]; omega))
        have HIN := Hid.mk' (fun (u : World) (hu : Below w.heap.size w u) => inside_any c2 c3 c4 c5 c6 c7 d n (hMode T) (hCnt T + 1) (spellTo (insT T) (insT T).length) (msgBit (insT T)) u (by omega) hd hn1 hn4 (by omega) HM0.out (by omega) (by omega) (by rw [spellTo_length, HLI.out]; omega) (spell_bits _) (tab_belowB hu HTA.out hT3) (Nat.lt_of_lt_of_le hT3 hu.size))
        rw [show ((hCnt T + 1 : Nat) : Int) = (hCnt T : Int) + 1 by omega] at HIN
        go_region_with (first
          | (go_at_call 124; refine (HK.out _).mono ?_; rintro e w5 ⟨rfl, hw⟩; subst w5; clear HK)
          | (go_at_call 113; refine (H16.out _).mono ?_; rintro e u2 ⟨rfl, hb⟩; have HB2 : Hid (Below w.heap.size w u2) := HB1.out.drew.trans (hb.mono HB1.out.size); have HX2 : Hid (Bx u2 w.heap.size 23 #[.int .i64 n, .int .i64 d, .int .i64 c2, .int .i64 c3, .int .i64 c4, .int .i64 c5, .int .i64 c6, .int .i64 c7]) := Bx.below (w := u1.drew) HX.out hb; clear hb H16 HB1 HX))
        clear x0 x2 hXc
        by_cases hI : ∃ H, InsP (spellTo (insT T) (insT T).length) (msgBit (insT T)) d n (hMode T) (hCnt T + 1) H
        · obtain ⟨H, hI⟩ := hI
          have HI := Hid.mk' hI
          clear hI
          have HY : Hid (∀ H, InsP (spellTo (insT T) (insT T).length) (msgBit (insT T)) d n (hMode T) (hCnt T + 1) H → FrmP T n d c2 (hNum T) H) := fun H h => ⟨HHP.out, rfl, HMP.out, HSY.out, h⟩
          generalize bs (spellTo (insT T) (insT T).length) = SS at *
          generalize bs (insT T) = SI at *
          go_wp2
          have hS3 := cfg_cells (u := u2.drew) HX2.out
          go_region_held3 (fun w' => w'.cell? ⟨w.heap.size, 0, none⟩ = some (.int .i64 n) ∧ w'.cell? ⟨w.heap.size, 1, none⟩ = some (.int .i64 d) ∧ w'.cell? ⟨w.heap.size, 2, none⟩ = some (.int .i64 c2) ∧ w'.cell? ⟨w.heap.size, 3, none⟩ = some (.int .i64 c3) ∧ w'.cell? ⟨w.heap.size, 4, none⟩ = some (.int .i64 c4) ∧ w'.cell? ⟨w.heap.size, 5, none⟩ = some (.int .i64 c5) ∧ w'.cell? ⟨w.heap.size, 6, none⟩ = some (.int .i64 c6) ∧ w'.cell? ⟨w.heap.size, 7, none⟩ = some (.int .i64 c7))
            (with_reducible assumption)
            (first
            | (go_at_call 126; refine (HSP.out _).mono ?_; rintro e u3 ⟨rfl, hb⟩; have hX3 : Bx u3 w.heap.size 23 #[.int .i64 n, .int .i64 d, .int .i64 c2, .int .i64 c3, .int .i64 c4, .int .i64 c5, .int .i64 c6, .int .i64 c7] := Bx.below (w := u2.drew) HX2.out hb; have hS4 := cfg_cells hX3; have HX3 := Hid.mk' hX3; have HB3 : Hid (Below w.heap.size w u3) := HB2.out.drew.trans (hb.mono HB2.out.size); clear hb HSP hS3 HB2 HX2 hX3)
            | (go_at_call 125; refine (HIN.out _ HB3.out).mono ?_; intro e u4 hio; obtain ⟨H', v, rfl, hI', hro, hb⟩ := hio.yes HI.out; have hS5 := cfg_cells (HX3.out.below hb); have HB4 := Hid.mk' (HB3.out.trans (hb.mono HB3.out.size)); have HRO := Hid.mk' (hro.mono HB3.out.size); have HI' := Hid.mk' hI'; clear hb hio hro hI' HIN HB3 HX3 hS4))
          obtain ⟨gv, cv, gsv, hv, hv2⟩ := HRO.out
          clear hv2
          subst hv
          clear hS5
          go_wp2
          go_ret2
          exact ⟨.inl ⟨H', _, HY.out H' HI'.out, rfl, HRO.out⟩, HB4.out⟩
        · have HI : Hid (∀ H, ¬ InsP (spellTo (insT T) (insT T).length) (msgBit (insT T)) d n (hMode T) (hCnt T + 1) H) := fun H h => hI ⟨H, h⟩
          clear hI
          have HNO : Hid (∀ H, ¬ FrmP T n d c2 (hNum T) H) := fun H h => HI.out H h.2.2.2.2
          generalize bs (spellTo (insT T) (insT T).length) = SS at *
          generalize bs (insT T) = SI at *
          go_wp2
          have hS3 := cfg_cells (u := u2.drew) HX2.out
          go_region_held3 (fun w' => w'.cell? ⟨w.heap.size, 0, none⟩ = some (.int .i64 n) ∧ w'.cell? ⟨w.heap.size, 1, none⟩ = some (.int .i64 d) ∧ w'.cell? ⟨w.heap.size, 2, none⟩ = some (.int .i64 c2) ∧ w'.cell? ⟨w.heap.size, 3, none⟩ = some (.int .i64 c3) ∧ w'.cell? ⟨w.heap.size, 4, none⟩ = some (.int .i64 c4) ∧ w'.cell? ⟨w.heap.size, 5, none⟩ = some (.int .i64 c5) ∧ w'.cell? ⟨w.heap.size, 6, none⟩ = some (.int .i64 c6) ∧ w'.cell? ⟨w.heap.size, 7, none⟩ = some (.int .i64 c7))
            (with_reducible assumption)
            (first
            | (go_at_call 126; refine (HSP.out _).mono ?_; rintro e u3 ⟨rfl, hb⟩; have hX3 : Bx u3 w.heap.size 23 #[.int .i64 n, .int .i64 d, .int .i64 c2, .int .i64 c3, .int .i64 c4, .int .i64 c5, .int .i64 c6, .int .i64 c7] := Bx.below (w := u2.drew) HX2.out hb; have hS4 := cfg_cells hX3; have HX3 := Hid.mk' hX3; have HB3 : Hid (Below w.heap.size w u3) := HB2.out.drew.trans (hb.mono HB2.out.size); clear hb HSP hS3 HB2 HX2 hX3)
            | (go_at_call 125; refine (HIN.out _ HB3.out).mono ?_; intro e u4 hio; obtain ⟨v, rfl, hb⟩ := hio.no HI.out; have hS5 := cfg_cells (HX3.out.below hb); have HB4 := Hid.mk' (HB3.out.trans (hb.mono HB3.out.size)); clear hb hio HIN HB3 HX3 hS4))
          clear hS5
          go_wp2
          go_ret2
          exact RefOut.no HNO.out HB4.out
      · have t7 : ((valN (pieceT T q (hLen T)) : Int) != (crc 16 98309 (T.take q) : Int)) = true := by simp; omega
        have HNO : Hid (∀ H, ¬ FrmP T n d c2 (hNum T) H) := fun H h => hS (HSI.out.1 h.2.2.2.1)
        clear hS
        generalize valN (pieceT T q (hLen T)) = vqk at *
        generalize crc 16 98309 (T.take q) = v16 at *
        go_region_with (first
          | (go_at_call 124; refine (HK.out _).mono ?_; rintro e w5 ⟨rfl, hw⟩; subst w5; clear HK)
          | (go_at_call 113; refine (H16.out _).mono ?_; rintro e u2 ⟨rfl, hb⟩; have HB2 : Hid (Below w.heap.size w u2) := HB1.out.drew.trans (hb.mono HB1.out.size); clear hb H16 HB1))
        go_wp2
        go_ret2
        exact RefOut.no HNO.out HB2.out
    · have t6 : ((n : Int) == 2) = false := by simp; omega
      have t6' : ((n : Int) != 2) = true := by simp; omega
      have HNO : Hid (∀ H, ¬ FrmP T n d c2 (hNum T) H) := fun H h => by have h1 := h.2.2.1.2.2; unfold modesN at h1; rw [if_neg (by omega)] at h1; omega
      go_wp2_with (first | (go_at_call 124; refine (H35.out _).mono ?_; rintro e w5 ⟨rfl, hw⟩; subst w5; clear H35) | (go_at_call 124; refine (H56.out _).mono ?_; rintro e w5 ⟨rfl, hw⟩; subst w5; clear H56) | (go_at_call 124; refine (H67.out _).mono ?_; rintro e w5 ⟨rfl, hw⟩; subst w5; clear H67))
      go_ret2
      exact RefOut.no HNO.out HB1.out
  · have HMP : Hid (MayP n c2 (hLen T) (hCnt T + 1) (hMode T) T.length) := ⟨⟨by omega, by omega⟩, by omega, by unfold modesN; split <;> omega⟩
    have HM0 : Hid (n ≠ 2 → hMode T = 0) := fun h => by omega
    go_wp2_with (first | (go_at_call 124; refine (H35.out _).mono ?_; rintro e w5 ⟨rfl, hw⟩; subst w5; clear H35) | (go_at_call 124; refine (H56.out _).mono ?_; rintro e w5 ⟨rfl, hw⟩; subst w5; clear H56) | (go_at_call 124; refine (H67.out _).mono ?_; rintro e w5 ⟨rfl, hw⟩; subst w5; clear H67))
    obtain ⟨q, hq⟩ : ∃ q, hLen T = q + 2 := ⟨hLen T - 2, by omega⟩
    have HQ := Hid.mk' hq
    have q8 : 8 ≤ q := by omega
    have qT : q + 2 ≤ T.length := by omega
    have wq : IntKind.i64.wrap ((hLen T : Int) - 2) = (q : Int) := by rw [IntKind.wrap_i64]; omega
    have j1 : (q : Int) ≤ (hLen T : Int) := by omega
    have j2 : (hLen T : Int) ≤ (T.length : Int) := by omega
    have j3 : (8 : Int) ≤ (q : Int) := by omega
    have j4 : (q : Int) ≤ (T.length : Int) := by omega
    have eqk : (bs T).extract q (hLen T) = bs (pieceT T q (hLen T)) := bs_cut T q (hLen T)
    have e0q : (bs T).extract 0 q = bs (T.take q) := bs_takeN T q
    have e8q : (bs T).extract 8 q = bs (insT T) := by rw [bs_cut]; unfold insT; rw [hq]; rfl
    have HLI : Hid ((insT T).length = q - 8) := by show _ = _; unfold insT; rw [hq, pieceT_length _ _ _ (by omega) (by omega)]; omega
    have HK := Hid.mk' (fun u => high_any (pieceT T q (hLen T)) u (by rw [pieceT_length _ _ _ (by omega) (by omega)]; omega))
    have H16 := Hid.mk' (fun u => ref16_bs (T.take q) u (by rw [List.length_take]; omega))
    have HSI : Hid (seal16 (T.take (hLen T - 2)) = T.take (hLen T) ↔ valN (pieceT T q (hLen T)) = crc 16 98309 (T.take q)) := by
      have := seal16_iff T (hLen T) (by omega) (by omega) (crc_lt 16 _ _)
      rw [hq, Nat.add_sub_cancel] at this
      rw [hq, Nat.add_sub_cancel]
      exact this
    have hXc := cfg_cells (u := u1.drew) HX.out
    clear hq
    generalize bs (T.take q) = P0q at *
    generalize bs (pieceT T q (hLen T)) = Pqk at *
    by_cases hS : valN (pieceT T q (hLen T)) = crc 16 98309 (T.take q)
    · have t7 : ((valN (pieceT T q (hLen T)) : Int) != (crc 16 98309 (T.take q) : Int)) = false := by simp; omega
      have HSY := Hid.mk' (HSI.out.2 hS)
      clear hS
      generalize valN (pieceT T q (hLen T)) = vqk at *
      generalize crc 16 98309 (T.take q) = v16 at *
      have HSP := Hid.mk' (fun u => spelt_bs (insT T) u (by rw [HLI.out]; omega))
      have HIN := Hid.mk' (fun (u : World) (hu : Below w.heap.size w u) => inside_any c2 c3 c4 c5 c6 c7 d n (hMode T) (hCnt T + 1) (spellTo (insT T) (insT T).length) (msgBit (insT T)) u (by omega) hd hn1 hn4 (by omega) HM0.out (by omega) (by omega) (by rw [spellTo_length, HLI.out]; omega) (spell_bits _) (tab_belowB hu HTA.out hT3) (Nat.lt_of_lt_of_le hT3 hu.size))
      rw [show ((hCnt T + 1 : Nat) : Int) = (hCnt T : Int) + 1 by omega] at HIN
      go_region_with (first
        | (go_at_call 124; refine (HK.out _).mono ?_; rintro e w5 ⟨rfl, hw⟩; subst w5; clear HK)
        | (go_at_call 113; refine (H16.out _).mono ?_; rintro e u2 ⟨rfl, hb⟩; have HB2 : Hid (Below w.heap.size w u2) := HB1.out.drew.trans (hb.mono HB1.out.size); have HX2 : Hid (Bx u2 w.heap.size 23 #[.int .i64 n, .int .i64 d, .int .i64 c2, .int .i64 c3, .int .i64 c4, .int .i64 c5, .int .i64 c6, .int .i64 c7]) := Bx.below (w := u1.drew) HX.out hb; clear hb H16 HB1 HX))
      clear x0 x2 hXc
      by_cases hI : ∃ H, InsP (spellTo (insT T) (insT T).length) (msgBit (insT T)) d n (hMode T) (hCnt T + 1) H
      · obtain ⟨H, hI⟩ := hI
        have HI := Hid.mk' hI
        clear hI
        have HY : Hid (∀ H, InsP (spellTo (insT T) (insT T).length) (msgBit (insT T)) d n (hMode T) (hCnt T + 1) H → FrmP T n d c2 (hNum T) H) := fun H h => ⟨HHP.out, rfl, HMP.out, HSY.out, h⟩
        generalize bs (spellTo (insT T) (insT T).length) = SS at *
        generalize bs (insT T) = SI at *
        go_wp2
        have hS3 := cfg_cells (u := u2.drew) HX2.out
        go_region_held3 (fun w' => w'.cell? ⟨w.heap.size, 0, none⟩ = some (.int .i64 n) ∧ w'.cell? ⟨w.heap.size, 1, none⟩ = some (.int .i64 d) ∧ w'.cell? ⟨w.heap.size, 2, none⟩ = some (.int .i64 c2) ∧ w'.cell? ⟨w.heap.size, 3, none⟩ = some (.int .i64 c3) ∧ w'.cell? ⟨w.heap.size, 4, none⟩ = some (.int .i64 c4) ∧ w'.cell? ⟨w.heap.size, 5, none⟩ = some (.int .i64 c5) ∧ w'.cell? ⟨w.heap.size, 6, none⟩ = some (.int .i64 c6) ∧ w'.cell? ⟨w.heap.size, 7, none⟩ = some (.int .i64 c7))
          (with_reducible assumption)
          (first
          | (go_at_call 126; refine (HSP.out _).mono ?_; rintro e u3 ⟨rfl, hb⟩; have hX3 : Bx u3 w.heap.size 23 #[.int .i64 n, .int .i64 d, .int .i64 c2, .int .i64 c3, .int .i64 c4, .int .i64 c5, .int .i64 c6, .int .i64 c7] := Bx.below (w := u2.drew) HX2.out hb; have hS4 := cfg_cells hX3; have HX3 := Hid.mk' hX3; have HB3 : Hid (Below w.heap.size w u3) := HB2.out.drew.trans (hb.mono HB2.out.size); clear hb HSP hS3 HB2 HX2 hX3)
          | (go_at_call 125; refine (HIN.out _ HB3.out).mono ?_; intro e u4 hio; obtain ⟨H', v, rfl, hI', hro, hb⟩ := hio.yes HI.out; have hS5 := cfg_cells (HX3.out.below hb); have HB4 := Hid.mk' (HB3.out.trans (hb.mono HB3.out.size)); have HRO := Hid.mk' (hro.mono HB3.out.size); have HI' := Hid.mk' hI'; clear hb hio hro hI' HIN HB3 HX3 hS4))
        obtain ⟨gv, cv, gsv, hv, hv2⟩ := HRO.out
        clear hv2
        subst hv
        clear hS5
        go_wp2
        go_ret2
        exact ⟨.inl ⟨H', _, HY.out H' HI'.out, rfl, HRO.out⟩, HB4.out⟩
      · have HI : Hid (∀ H, ¬ InsP (spellTo (insT T) (insT T).length) (msgBit (insT T)) d n (hMode T) (hCnt T + 1) H) := fun H h => hI ⟨H, h⟩
        clear hI
        have HNO : Hid (∀ H, ¬ FrmP T n d c2 (hNum T) H) := fun H h => HI.out H h.2.2.2.2
        generalize bs (spellTo (insT T) (insT T).length) = SS at *
        generalize bs (insT T) = SI at *
        go_wp2
        have hS3 := cfg_cells (u := u2.drew) HX2.out
        go_region_held3 (fun w' => w'.cell? ⟨w.heap.size, 0, none⟩ = some (.int .i64 n) ∧ w'.cell? ⟨w.heap.size, 1, none⟩ = some (.int .i64 d) ∧ w'.cell? ⟨w.heap.size, 2, none⟩ = some (.int .i64 c2) ∧ w'.cell? ⟨w.heap.size, 3, none⟩ = some (.int .i64 c3) ∧ w'.cell? ⟨w.heap.size, 4, none⟩ = some (.int .i64 c4) ∧ w'.cell? ⟨w.heap.size, 5, none⟩ = some (.int .i64 c5) ∧ w'.cell? ⟨w.heap.size, 6, none⟩ = some (.int .i64 c6) ∧ w'.cell? ⟨w.heap.size, 7, none⟩ = some (.int .i64 c7))
          (with_reducible assumption)
          (first
          | (go_at_call 126; refine (HSP.out _).mono ?_; rintro e u3 ⟨rfl, hb⟩; have hX3 : Bx u3 w.heap.size 23 #[.int .i64 n, .int .i64 d, .int .i64 c2, .int .i64 c3, .int .i64 c4, .int .i64 c5, .int .i64 c6, .int .i64 c7] := Bx.below (w := u2.drew) HX2.out hb; have hS4 := cfg_cells hX3; have HX3 := Hid.mk' hX3; have HB3 : Hid (Below w.heap.size w u3) := HB2.out.drew.trans (hb.mono HB2.out.size); clear hb HSP hS3 HB2 HX2 hX3)
          | (go_at_call 125; refine (HIN.out _ HB3.out).mono ?_; intro e u4 hio; obtain ⟨v, rfl, hb⟩ := hio.no HI.out; have hS5 := cfg_cells (HX3.out.below hb); have HB4 := Hid.mk' (HB3.out.trans (hb.mono HB3.out.size)); clear hb hio HIN HB3 HX3 hS4))
        clear hS5
        go_wp2
        go_ret2
        exact RefOut.no HNO.out HB4.out
    · have t7 : ((valN (pieceT T q (hLen T)) : Int) != (crc 16 98309 (T.take q) : Int)) = true := by simp; omega
      have HNO : Hid (∀ H, ¬ FrmP T n d c2 (hNum T) H) := fun H h => hS (HSI.out.1 h.2.2.2.1)
      clear hS
      generalize valN (pieceT T q (hLen T)) = vqk at *
      generalize crc 16 98309 (T.take q) = v16 at *
      go_region_with (first
        | (go_at_call 124; refine (HK.out _).mono ?_; rintro e w5 ⟨rfl, hw⟩; subst w5; clear HK)
        | (go_at_call 113; refine (H16.out _).mono ?_; rintro e u2 ⟨rfl, hb⟩; have HB2 : Hid (Below w.heap.size w u2) := HB1.out.drew.trans (hb.mono HB1.out.size); clear hb H16 HB1))
      go_wp2
      go_ret2
      exact RefOut.no HNO.out HB2.out
end Go.Proofs.YtlncjgnomhpjnaaGreatDoor

