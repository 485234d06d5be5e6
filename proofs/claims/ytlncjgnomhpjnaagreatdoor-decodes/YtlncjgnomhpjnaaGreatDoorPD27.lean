import Derived.Test.YtlncjgnomhpjnaaGreatDoorPD22
import Derived.Test.YtlncjgnomhpjnaaGreatDoorPD8
import Derived.Test.YtlncjgnomhpjnaaGreatDoorPD4
/-
  Two channels out of a frame, in the document: reelref.apart.
-/
namespace Go.Proofs.YtlncjgnomhpjnaaGreatDoor
open Go.RowKit Go.Deep
set_option linter.unusedVariables false
theorem apart_start (w : World) (n : Nat) (l r : Nat → Int) :
    ((w.alloc (.cells (madeCells #[.int .i64 0] n) 3)).alloc (.cells (madeCells #[.int .i64 0] n) 3)).rowIs w.heap.size 3 n (cutV 0 l) ∧ ((w.alloc (.cells (madeCells #[.int .i64 0] n) 3)).alloc (.cells (madeCells #[.int .i64 0] n) 3)).rowIs (w.heap.size + 1) 3 n (cutV 0 r) ∧ Below w.heap.size w ((w.alloc (.cells (madeCells #[.int .i64 0] n) 3)).alloc (.cells (madeCells #[.int .i64 0] n) 3)) := by
  refine ⟨(((World.rowIs_made w (.int .i64 0) n 3).alloc _).congr fun i _ => by simp [cutV, cutI]), ?_, ((Below.refl _ _).alloc (Nat.le_refl _) _).alloc (by simp) _⟩
  have := World.rowIs_made (w.alloc (.cells (madeCells #[.int .i64 0] n) 3)) (.int .i64 0) n 3
  rw [World.size_alloc] at this
  exact this.congr fun i _ => by simp [cutV, cutI]
theorem apart_step {w wr : World} {n j : Nat} {l r : Nat → Int} (h : wr.rowIs w.heap.size 3 n (cutV j l) ∧ wr.rowIs (w.heap.size + 1) 3 n (cutV j r) ∧ Below w.heap.size w wr) :
    ((wr.setCell ⟨w.heap.size, j, none⟩ (.int .i64 (l j))).setCell ⟨w.heap.size + 1, j, none⟩ (.int .i64 (r j))).rowIs w.heap.size 3 n (cutV (j + 1) l) ∧
    ((wr.setCell ⟨w.heap.size, j, none⟩ (.int .i64 (l j))).setCell ⟨w.heap.size + 1, j, none⟩ (.int .i64 (r j))).rowIs (w.heap.size + 1) 3 n (cutV (j + 1) r) ∧
    Below w.heap.size w ((wr.setCell ⟨w.heap.size, j, none⟩ (.int .i64 (l j))).setCell ⟨w.heap.size + 1, j, none⟩ (.int .i64 (r j))) := by
  refine ⟨?_, ?_, (h.2.2.setCell (p := ⟨w.heap.size, j, none⟩) (Nat.le_refl _) _).setCell (p := ⟨w.heap.size + 1, j, none⟩) (Nat.le_succ _) _⟩
  · exact (cutV_step rfl (h.1.set j _)).of_block (blk_setCell_other _ _ _ _ (by show w.heap.size ≠ w.heap.size + 1; omega))
  · exact cutV_step rfl ((h.2.1.of_block (blk_setCell_other _ _ _ _ (by show w.heap.size + 1 ≠ w.heap.size; omega))).set j _)
/-- what 'apart' gives -/
def ApOut (e : Ending) (w w' : World) (d m nn : Nat) (x y : Nat → Int) : Prop :=
  (((∀ j, j < nn → fitsB d (unL m (x j) (y j)) = true ∧ fitsB d (unR m (x j) (y j)) = true) ∧ e = .returned (.tuple #[.slice (some ⟨w.heap.size, 0, none⟩) nn nn, .slice (some ⟨w.heap.size + 1, 0, none⟩) nn nn, .bool true]) ∧
      w'.rowIs w.heap.size 3 nn (cutV nn (fun j => unL m (x j) (y j))) ∧ w'.rowIs (w.heap.size + 1) 3 nn (cutV nn (fun j => unR m (x j) (y j))))
   ∨ ((∃ j, j < nn ∧ ¬ (fitsB d (unL m (x j) (y j)) = true ∧ fitsB d (unR m (x j) (y j)) = true)) ∧ e = .returned (.tuple #[.slice none 0 0, .slice none 0 0, .bool false]))) ∧ Below w.heap.size w w'
set_option maxRecDepth 4000 in
set_option maxHeartbeats 2000000 in
theorem apart_any (d m ga gb nn : Nat) (x y : Nat → Int) (w : World) (hd1 : 1 ≤ d) (hd : d ≤ 12) (hm : m < 4) (hnn : nn ≤ 32) (hbx : ∀ j, j < nn → -8192 ≤ x j ∧ x j ≤ 8192) (hby : ∀ j, j < nn → -8192 ≤ y j ∧ y j ≤ 8192) (ha : w.rowIs ga 3 nn (cutV nn x)) (hb : w.rowIs gb 3 nn (cutV nn y)) :
    Calls Tryz.prog 161 #[.int .i64 d, .int .i64 m, .slice (some ⟨ga, 0, none⟩) nn nn, .slice (some ⟨gb, 0, none⟩) nn nn] w fun e w' => ApOut e w w' d m nn x y := by
  have hmk := run_make_row' (P := Tryz.prog) 29 3 (.int .i64 0) 8 Tryz.underlying29 infoInt rfl .i64 .i64 nn (by omega) (by omega)
  have HA := Hid.mk' ha
  have HB := Hid.mk' hb
  have HBX := Hid.mk' hbx
  have HBY := Hid.mk' hby
  have hga := ha.lt
  have hgb := hb.lt
  have HST0 := Hid.mk' (apart_start w nn (fun j => unL m (x j) (y j)) (fun j => unR m (x j) (y j)))
  clear ha hb hbx hby
  go_enter Tryz.func161, Tryz.ntmps161
  go_wp2
  clear hmk
  go_loopw [8, 9, 10, 13, 14, 15, 16, 17] (fun _ _ _ i _ _ _ _ wr => ∃ j : Nat, j ≤ nn ∧ i = .int .i64 j ∧ Hid ((∀ i, i < j → fitsB d (unL m (x i) (y i)) = true ∧ fitsB d (unR m (x i) (y i)) = true) ∧ wr.rowIs w.heap.size 3 nn (cutV j (fun j => unL m (x j) (y j))) ∧ wr.rowIs (w.heap.size + 1) 3 nn (cutV j (fun j => unR m (x j) (y j))) ∧ Below w.heap.size w wr)) (fun _ _ _ i _ _ _ _ _ => nn - (intOf i).toNat)
  case atStart => exact ⟨0, Nat.zero_le _, rfl, fun i hi => absurd hi (Nat.not_lt_zero i), HST0.out⟩
  case round =>
    obtain ⟨j, hj, rfl, HR⟩ := hrel
    by_cases hlt : j < nn
    · have hax : wr.cell? ⟨ga, j, none⟩ = some (.int .i64 (x j)) := (HR.out.2.2.2.cell (p := ⟨ga, j, none⟩) hga).trans (by have := HA.out.cell hlt; simpa [cutV, cutI, hlt] using this)
      have hby : wr.cell? ⟨gb, j, none⟩ = some (.int .i64 (y j)) := (HR.out.2.2.2.cell (p := ⟨gb, j, none⟩) hgb).trans (by have := HB.out.cell hlt; simpa [cutV, cutI, hlt] using this)
      have hcs := HR.out.2.1.cell hlt
      have hfs := HR.out.2.1.frozen j
      have hcm := HR.out.2.2.1.cell hlt
      have hfm := HR.out.2.2.1.frozen j
      unfold cutV at hcs hcm
      have b1 := HBX.out j hlt
      have b2 := HBY.out j hlt
      obtain ⟨VL, hVL⟩ : ∃ VL, unL m (x j) (y j) = VL := ⟨_, rfl⟩
      obtain ⟨VR, hVR⟩ : ∃ VR, unR m (x j) (y j) = VR := ⟨_, rfl⟩
      have EL := Hid.mk' hVL
      have ER := Hid.mk' hVR
      have HF1 := Hid.mk' (fun u => cFits_any d VL u hd1 (by omega))
      have HF2 := Hid.mk' (fun u => cFits_any d VR u hd1 (by omega))
      have HST : Hid (((wr.setCell ⟨w.heap.size, j, none⟩ (.int .i64 VL)).setCell ⟨w.heap.size + 1, j, none⟩ (.int .i64 VR)).rowIs w.heap.size 3 nn (cutV (j + 1) (fun j => unL m (x j) (y j))) ∧
          ((wr.setCell ⟨w.heap.size, j, none⟩ (.int .i64 VL)).setCell ⟨w.heap.size + 1, j, none⟩ (.int .i64 VR)).rowIs (w.heap.size + 1) 3 nn (cutV (j + 1) (fun j => unR m (x j) (y j))) ∧
          Below w.heap.size w ((wr.setCell ⟨w.heap.size, j, none⟩ (.int .i64 VL)).setCell ⟨w.heap.size + 1, j, none⟩ (.int .i64 VR))) := by
        have h0 := apart_step HR.out.2
        have h1 : (fun j => unL m (x j) (y j)) j = VL := hVL
        have h2 : (fun j => unR m (x j) (y j)) j = VR := hVR
        rw [← h1, ← h2]
        exact h0
      have hS0 : wr.drew.cell? ⟨ga, j, none⟩ = some (.int .i64 (x j)) ∧ wr.drew.cell? ⟨gb, j, none⟩ = some (.int .i64 (y j)) := ⟨hax, hby⟩
      rcases (show m = 0 ∨ m = 1 ∨ m = 2 ∨ m = 3 by omega) with e | e | e | e
      · have e1 : VL = x j := by rw [← hVL]; unfold unL; rw [if_neg (by omega), if_neg (by omega)]
        have e2 : VR = y j := by rw [← hVR]; unfold unR; rw [if_neg (by omega), if_neg (by omega)]
        clear hVL hVR hS0
        subst e1 e2
        subst e
        cases hL : fitsB d (x j) with
        | true =>
          cases hR : fitsB d (y j) with
          | true =>
            have HLR : Hid (fitsB d (unL 0 (x j) (y j)) = true ∧ fitsB d (unR 0 (x j) (y j)) = true) := ⟨by rw [EL.out]; exact hL, by rw [ER.out]; exact hR⟩
            rw [hL] at HF1
            rw [hR] at HF2
            clear hL hR
            go_wp2_with (first
              | (go_at_call 108; refine (HF1.out _).mono ?_; rintro e w5 ⟨rfl, hw⟩; subst w5; clear HF1)
              | (go_at_call 108; refine (HF2.out _).mono ?_; rintro e w5 ⟨rfl, hw⟩; subst w5; clear HF2))
            refine ⟨?_, ?measure⟩
            (repeat apply Exists.intro)
            refine ⟨?rel, rfl⟩
            case rel =>
              refine ⟨j + 1, by omega, by go_num, fun i hi => ?_, HST.out.1, HST.out.2.1, (by first | exact HST.out.2.2 | exact HST.out.2.2.drew | exact HST.out.2.2.drew.drew)⟩
              by_cases e : i = j
              · subst e; exact HLR.out
              · exact HR.out.1 i (by omega)
            case measure => simp [intOf]; omega
          | false =>
            have HNO : Hid (¬ (fitsB d (unL 0 (x j) (y j)) = true ∧ fitsB d (unR 0 (x j) (y j)) = true)) := fun h => by have := h.2; rw [ER.out, hR] at this; cases this
            rw [hL] at HF1
            rw [hR] at HF2
            clear hL hR
            go_wp2_with (first
              | (go_at_call 108; refine (HF1.out _).mono ?_; rintro e w5 ⟨rfl, hw⟩; subst w5; clear HF1)
              | (go_at_call 108; refine (HF2.out _).mono ?_; rintro e w5 ⟨rfl, hw⟩; subst w5; clear HF2))
            go_ret3
            exact ⟨.inr ⟨⟨j, hlt, HNO.out⟩, rfl⟩, (by first | exact HR.out.2.2.2 | exact HR.out.2.2.2.drew | exact HR.out.2.2.2.drew.drew)⟩
        | false =>
          have HNO : Hid (¬ (fitsB d (unL 0 (x j) (y j)) = true ∧ fitsB d (unR 0 (x j) (y j)) = true)) := fun h => by have := h.1; rw [EL.out, hL] at this; cases this
          rw [hL] at HF1
          clear hL
          cases hR : fitsB d (y j) with
          | true =>
            rw [hR] at HF2
            clear hR
            go_wp2_with (first
              | (go_at_call 108; refine (HF1.out _).mono ?_; rintro e w5 ⟨rfl, hw⟩; subst w5; clear HF1)
              | (go_at_call 108; refine (HF2.out _).mono ?_; rintro e w5 ⟨rfl, hw⟩; subst w5; clear HF2))
            go_ret3
            exact ⟨.inr ⟨⟨j, hlt, HNO.out⟩, rfl⟩, (by first | exact HR.out.2.2.2 | exact HR.out.2.2.2.drew | exact HR.out.2.2.2.drew.drew)⟩
          | false =>
            rw [hR] at HF2
            clear hR
            go_wp2_with (first
              | (go_at_call 108; refine (HF1.out _).mono ?_; rintro e w5 ⟨rfl, hw⟩; subst w5; clear HF1)
              | (go_at_call 108; refine (HF2.out _).mono ?_; rintro e w5 ⟨rfl, hw⟩; subst w5; clear HF2))
            go_ret3
            exact ⟨.inr ⟨⟨j, hlt, HNO.out⟩, rfl⟩, (by first | exact HR.out.2.2.2 | exact HR.out.2.2.2.drew | exact HR.out.2.2.2.drew.drew)⟩
      · have e1 : VL = x j := by rw [← hVL]; unfold unL; rw [if_neg (by omega), if_neg (by omega)]
        have e2 : IntKind.i64.wrap (x j - y j) = VR := by rw [← hVR]; unfold unR; rw [if_pos (by omega), IntKind.wrap_i64]; omega
        clear hVL hVR
        subst e1
        subst e
        go_wp2_with fail
        go_region_held3 (fun w' => w'.cell? ⟨ga, j, none⟩ = some (.int .i64 (x j)) ∧ w'.cell? ⟨gb, j, none⟩ = some (.int .i64 (y j))) (with_reducible assumption) (fail)
        cases hL : fitsB d (x j) with
        | true =>
          cases hR : fitsB d VR with
          | true =>
            have HLR : Hid (fitsB d (unL 1 (x j) (y j)) = true ∧ fitsB d (unR 1 (x j) (y j)) = true) := ⟨by rw [EL.out]; exact hL, by rw [ER.out]; exact hR⟩
            rw [hL] at HF1
            rw [hR] at HF2
            clear hL hR
            go_wp2_with (first
              | (go_at_call 108; refine (HF1.out _).mono ?_; rintro e w5 ⟨rfl, hw⟩; subst w5; clear HF1)
              | (go_at_call 108; refine (HF2.out _).mono ?_; rintro e w5 ⟨rfl, hw⟩; subst w5; clear HF2))
            refine ⟨?_, ?measure⟩
            (repeat apply Exists.intro)
            refine ⟨?rel, rfl⟩
            case rel =>
              refine ⟨j + 1, by omega, by go_num, fun i hi => ?_, HST.out.1, HST.out.2.1, (by first | exact HST.out.2.2 | exact HST.out.2.2.drew | exact HST.out.2.2.drew.drew)⟩
              by_cases e : i = j
              · subst e; exact HLR.out
              · exact HR.out.1 i (by omega)
            case measure => simp [intOf]; omega
          | false =>
            have HNO : Hid (¬ (fitsB d (unL 1 (x j) (y j)) = true ∧ fitsB d (unR 1 (x j) (y j)) = true)) := fun h => by have := h.2; rw [ER.out, hR] at this; cases this
            rw [hL] at HF1
            rw [hR] at HF2
            clear hL hR
            go_wp2_with (first
              | (go_at_call 108; refine (HF1.out _).mono ?_; rintro e w5 ⟨rfl, hw⟩; subst w5; clear HF1)
              | (go_at_call 108; refine (HF2.out _).mono ?_; rintro e w5 ⟨rfl, hw⟩; subst w5; clear HF2))
            go_ret3
            exact ⟨.inr ⟨⟨j, hlt, HNO.out⟩, rfl⟩, (by first | exact HR.out.2.2.2 | exact HR.out.2.2.2.drew | exact HR.out.2.2.2.drew.drew)⟩
        | false =>
          have HNO : Hid (¬ (fitsB d (unL 1 (x j) (y j)) = true ∧ fitsB d (unR 1 (x j) (y j)) = true)) := fun h => by have := h.1; rw [EL.out, hL] at this; cases this
          rw [hL] at HF1
          clear hL
          cases hR : fitsB d VR with
          | true =>
            rw [hR] at HF2
            clear hR
            go_wp2_with (first
              | (go_at_call 108; refine (HF1.out _).mono ?_; rintro e w5 ⟨rfl, hw⟩; subst w5; clear HF1)
              | (go_at_call 108; refine (HF2.out _).mono ?_; rintro e w5 ⟨rfl, hw⟩; subst w5; clear HF2))
            go_ret3
            exact ⟨.inr ⟨⟨j, hlt, HNO.out⟩, rfl⟩, (by first | exact HR.out.2.2.2 | exact HR.out.2.2.2.drew | exact HR.out.2.2.2.drew.drew)⟩
          | false =>
            rw [hR] at HF2
            clear hR
            go_wp2_with (first
              | (go_at_call 108; refine (HF1.out _).mono ?_; rintro e w5 ⟨rfl, hw⟩; subst w5; clear HF1)
              | (go_at_call 108; refine (HF2.out _).mono ?_; rintro e w5 ⟨rfl, hw⟩; subst w5; clear HF2))
            go_ret3
            exact ⟨.inr ⟨⟨j, hlt, HNO.out⟩, rfl⟩, (by first | exact HR.out.2.2.2 | exact HR.out.2.2.2.drew | exact HR.out.2.2.2.drew.drew)⟩
      · have e1 : VR = y j := by rw [← hVR]; unfold unR; rw [if_neg (by omega), if_neg (by omega)]
        have e2 : IntKind.i64.wrap (x j + y j) = VL := by rw [← hVL]; unfold unL; rw [if_pos (by omega), IntKind.wrap_i64]; omega
        clear hVL hVR
        subst e1
        subst e
        go_wp2_with fail
        go_region_held3 (fun w' => w'.cell? ⟨ga, j, none⟩ = some (.int .i64 (x j)) ∧ w'.cell? ⟨gb, j, none⟩ = some (.int .i64 (y j))) (with_reducible assumption) (fail)
        cases hL : fitsB d VL with
        | true =>
          cases hR : fitsB d (y j) with
          | true =>
            have HLR : Hid (fitsB d (unL 2 (x j) (y j)) = true ∧ fitsB d (unR 2 (x j) (y j)) = true) := ⟨by rw [EL.out]; exact hL, by rw [ER.out]; exact hR⟩
            rw [hL] at HF1
            rw [hR] at HF2
            clear hL hR
            go_wp2_with (first
              | (go_at_call 108; refine (HF1.out _).mono ?_; rintro e w5 ⟨rfl, hw⟩; subst w5; clear HF1)
              | (go_at_call 108; refine (HF2.out _).mono ?_; rintro e w5 ⟨rfl, hw⟩; subst w5; clear HF2))
            refine ⟨?_, ?measure⟩
            (repeat apply Exists.intro)
            refine ⟨?rel, rfl⟩
            case rel =>
              refine ⟨j + 1, by omega, by go_num, fun i hi => ?_, HST.out.1, HST.out.2.1, (by first | exact HST.out.2.2 | exact HST.out.2.2.drew | exact HST.out.2.2.drew.drew)⟩
              by_cases e : i = j
              · subst e; exact HLR.out
              · exact HR.out.1 i (by omega)
            case measure => simp [intOf]; omega
          | false =>
            have HNO : Hid (¬ (fitsB d (unL 2 (x j) (y j)) = true ∧ fitsB d (unR 2 (x j) (y j)) = true)) := fun h => by have := h.2; rw [ER.out, hR] at this; cases this
            rw [hL] at HF1
            rw [hR] at HF2
            clear hL hR
            go_wp2_with (first
              | (go_at_call 108; refine (HF1.out _).mono ?_; rintro e w5 ⟨rfl, hw⟩; subst w5; clear HF1)
              | (go_at_call 108; refine (HF2.out _).mono ?_; rintro e w5 ⟨rfl, hw⟩; subst w5; clear HF2))
            go_ret3
            exact ⟨.inr ⟨⟨j, hlt, HNO.out⟩, rfl⟩, (by first | exact HR.out.2.2.2 | exact HR.out.2.2.2.drew | exact HR.out.2.2.2.drew.drew)⟩
        | false =>
          have HNO : Hid (¬ (fitsB d (unL 2 (x j) (y j)) = true ∧ fitsB d (unR 2 (x j) (y j)) = true)) := fun h => by have := h.1; rw [EL.out, hL] at this; cases this
          rw [hL] at HF1
          clear hL
          cases hR : fitsB d (y j) with
          | true =>
            rw [hR] at HF2
            clear hR
            go_wp2_with (first
              | (go_at_call 108; refine (HF1.out _).mono ?_; rintro e w5 ⟨rfl, hw⟩; subst w5; clear HF1)
              | (go_at_call 108; refine (HF2.out _).mono ?_; rintro e w5 ⟨rfl, hw⟩; subst w5; clear HF2))
            go_ret3
            exact ⟨.inr ⟨⟨j, hlt, HNO.out⟩, rfl⟩, (by first | exact HR.out.2.2.2 | exact HR.out.2.2.2.drew | exact HR.out.2.2.2.drew.drew)⟩
          | false =>
            rw [hR] at HF2
            clear hR
            go_wp2_with (first
              | (go_at_call 108; refine (HF1.out _).mono ?_; rintro e w5 ⟨rfl, hw⟩; subst w5; clear HF1)
              | (go_at_call 108; refine (HF2.out _).mono ?_; rintro e w5 ⟨rfl, hw⟩; subst w5; clear HF2))
            go_ret3
            exact ⟨.inr ⟨⟨j, hlt, HNO.out⟩, rfl⟩, (by first | exact HR.out.2.2.2 | exact HR.out.2.2.2.drew | exact HR.out.2.2.2.drew.drew)⟩
      · have e1 : IntKind.i64.wrap (x j + (y j + 1) / 2) = VL := by rw [← hVL]; unfold unL; rw [if_neg (by omega), if_pos (by omega), IntKind.wrap_i64]; omega
        have e2 : IntKind.i64.wrap (VL - y j) = VR := by rw [← hVR, ← hVL]; unfold unR unL; rw [if_neg (by omega), if_pos (by omega), if_neg (by omega), if_pos (by omega), IntKind.wrap_i64]; omega
        have e3 : IntKind.i64.wrap (y j + 1) = y j + 1 := by rw [IntKind.wrap_i64]; omega
        have HD := Hid.mk' (fun u => down2_any (y j + 1) u (by omega))
        clear hVL hVR
        subst e
        go_wp2_with fail
        go_region_held3 (fun w' => w'.cell? ⟨ga, j, none⟩ = some (.int .i64 (x j)) ∧ w'.cell? ⟨gb, j, none⟩ = some (.int .i64 (y j))) (with_reducible assumption) (first | (go_at_call 170; refine (HD.out _).mono ?_; rintro e w5 ⟨rfl, hw⟩; subst w5; clear HD))
        cases hL : fitsB d VL with
        | true =>
          cases hR : fitsB d VR with
          | true =>
            have HLR : Hid (fitsB d (unL 3 (x j) (y j)) = true ∧ fitsB d (unR 3 (x j) (y j)) = true) := ⟨by rw [EL.out]; exact hL, by rw [ER.out]; exact hR⟩
            rw [hL] at HF1
            rw [hR] at HF2
            clear hL hR
            go_wp2_with (first
              | (go_at_call 108; refine (HF1.out _).mono ?_; rintro e w5 ⟨rfl, hw⟩; subst w5; clear HF1)
              | (go_at_call 108; refine (HF2.out _).mono ?_; rintro e w5 ⟨rfl, hw⟩; subst w5; clear HF2))
            refine ⟨?_, ?measure⟩
            (repeat apply Exists.intro)
            refine ⟨?rel, rfl⟩
            case rel =>
              refine ⟨j + 1, by omega, by go_num, fun i hi => ?_, HST.out.1, HST.out.2.1, (by first | exact HST.out.2.2 | exact HST.out.2.2.drew | exact HST.out.2.2.drew.drew)⟩
              by_cases e : i = j
              · subst e; exact HLR.out
              · exact HR.out.1 i (by omega)
            case measure => simp [intOf]; omega
          | false =>
            have HNO : Hid (¬ (fitsB d (unL 3 (x j) (y j)) = true ∧ fitsB d (unR 3 (x j) (y j)) = true)) := fun h => by have := h.2; rw [ER.out, hR] at this; cases this
            rw [hL] at HF1
            rw [hR] at HF2
            clear hL hR
            go_wp2_with (first
              | (go_at_call 108; refine (HF1.out _).mono ?_; rintro e w5 ⟨rfl, hw⟩; subst w5; clear HF1)
              | (go_at_call 108; refine (HF2.out _).mono ?_; rintro e w5 ⟨rfl, hw⟩; subst w5; clear HF2))
            go_ret3
            exact ⟨.inr ⟨⟨j, hlt, HNO.out⟩, rfl⟩, (by first | exact HR.out.2.2.2 | exact HR.out.2.2.2.drew | exact HR.out.2.2.2.drew.drew)⟩
        | false =>
          have HNO : Hid (¬ (fitsB d (unL 3 (x j) (y j)) = true ∧ fitsB d (unR 3 (x j) (y j)) = true)) := fun h => by have := h.1; rw [EL.out, hL] at this; cases this
          rw [hL] at HF1
          clear hL
          cases hR : fitsB d VR with
          | true =>
            rw [hR] at HF2
            clear hR
            go_wp2_with (first
              | (go_at_call 108; refine (HF1.out _).mono ?_; rintro e w5 ⟨rfl, hw⟩; subst w5; clear HF1)
              | (go_at_call 108; refine (HF2.out _).mono ?_; rintro e w5 ⟨rfl, hw⟩; subst w5; clear HF2))
            go_ret3
            exact ⟨.inr ⟨⟨j, hlt, HNO.out⟩, rfl⟩, (by first | exact HR.out.2.2.2 | exact HR.out.2.2.2.drew | exact HR.out.2.2.2.drew.drew)⟩
          | false =>
            rw [hR] at HF2
            clear hR
            go_wp2_with (first
              | (go_at_call 108; refine (HF1.out _).mono ?_; rintro e w5 ⟨rfl, hw⟩; subst w5; clear HF1)
              | (go_at_call 108; refine (HF2.out _).mono ?_; rintro e w5 ⟨rfl, hw⟩; subst w5; clear HF2))
            go_ret3
            exact ⟨.inr ⟨⟨j, hlt, HNO.out⟩, rfl⟩, (by first | exact HR.out.2.2.2 | exact HR.out.2.2.2.drew | exact HR.out.2.2.2.drew.drew)⟩
    · have e : j = nn := by omega
      subst e
      go_wp2
      go_ret3
      exact ⟨.inl ⟨HR.out.1, rfl, HR.out.2.1, HR.out.2.2.1⟩, HR.out.2.2.2⟩
end Go.Proofs.YtlncjgnomhpjnaaGreatDoor

