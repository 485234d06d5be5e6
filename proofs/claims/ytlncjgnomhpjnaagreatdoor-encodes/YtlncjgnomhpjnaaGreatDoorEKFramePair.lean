import Derived.Test.YtlncjgnomhpjnaaGreatDoorEJFrameHead
/-
  Two channels: frame.sideOf, frame.middleOf, reelref.pair.
-/
namespace Go.Proofs.YtlncjgnomhpjnaaGreatDoor
open Go.RowKit Go.Deep
set_option linter.unusedVariables false

set_option maxHeartbeats 1000000 in
theorem sideOf_any (a b : Option Addr) (n c c' : Nat) (l r : Nat → Int) (w : World) (hn : n ≤ 32) (hbl : ∀ j, j < n → -4096 ≤ l j ∧ l j ≤ 4096) (hbr : ∀ j, j < n → -4096 ≤ r j ∧ r j ≤ 4096) (hI : IntsAt w a n l) (hJ : IntsAt w b n r)
    (hlow : ∀ y, a = some y → 0 < n → y.block < w.heap.size) (hlow2 : ∀ y, b = some y → 0 < n → y.block < w.heap.size) :
    Calls Tryz.prog 144 #[.slice a n c, .slice b n c'] w fun e w' => e = .returned (.slice (some ⟨w.heap.size, 0, none⟩) n n) ∧ w'.rowIs w.heap.size 3 n (cutV n (sideL l r)) ∧ Below w.heap.size w w' := by
  have hmk := run_make_row' (P := Tryz.prog) 29 3 (.int .i64 0) 8 Tryz.underlying29 infoInt rfl .i64 .i64 n (by omega) (by omega)
  have HI := Hid.mk' (fun u (h : Below w.heap.size w u) => hI.belowB h hlow)
  have HJ := Hid.mk' (fun u (h : Below w.heap.size w u) => hJ.belowB h hlow2)
  have HBL := Hid.mk' hbl
  have HBR := Hid.mk' hbr
  clear hI hlow hJ hlow2 hbl hbr
  go_enter Tryz.func144, Tryz.ntmps144
  go_wp2
  clear hmk
  go_loopw [6, 12] (fun _ i wr => ∃ j : Nat, j ≤ n ∧ i = .int .i64 j ∧ Hid (wr.rowIs w.heap.size 3 n (cutV j (sideL l r)) ∧ Below w.heap.size w wr)) (fun _ i _ => n - (intOf i).toNat)
  case atStart => exact ⟨0, Nat.zero_le _, rfl, (World.rowIs_made w (.int .i64 0) n 3).congr fun i _ => by simp [cutV, cutI], (Below.refl _ _).alloc (Nat.le_refl _) _⟩
  case round =>
    obtain ⟨j, hj, rfl, HR⟩ := hrel
    by_cases hlt : j < n
    · obtain ⟨bb, off, hx, hc⟩ := (HI.out wr HR.out.2).open (by omega)
      obtain ⟨bb2, off2, hx2, hc2⟩ := (HJ.out wr HR.out.2).open (by omega)
      have hcj := hc j hlt
      have hcj2 := hc2 j hlt
      have hc1 := HR.out.1.cell hlt
      have hf1 := HR.out.1.frozen j
      unfold cutV at hc1
      have b1 := HBL.out j hlt
      have b2 := HBR.out j hlt
      have HSD : Hid (sideL l r j = l j - r j) := rfl
      have wf : IntKind.i64.wrap (l j - r j) = l j - r j := by rw [IntKind.wrap_i64]; omega
      clear hc hc2
      subst hx hx2
      go_wp2
      go_region
      all_goals go_wp2
      go_roundw
      case rel => exact ⟨j + 1, by omega, by go_num, cutV_step rfl (HR.out.1.set j _), (HR.out.2.setCell (p := ⟨w.heap.size, j, none⟩) (Nat.le_refl _) _).drew⟩
      case measure => simp [intOf]; omega
    · have e : j = n := by omega
      subst e
      go_wp2
      go_ret
      exact ⟨rfl, HR.out.1, HR.out.2⟩

set_option maxHeartbeats 1000000 in
theorem middleOf_any (a b : Option Addr) (n c c' : Nat) (l r : Nat → Int) (w : World) (hn : n ≤ 32) (hbl : ∀ j, j < n → -4096 ≤ l j ∧ l j ≤ 4096) (hbr : ∀ j, j < n → -4096 ≤ r j ∧ r j ≤ 4096) (hI : IntsAt w a n l) (hJ : IntsAt w b n r)
    (hlow : ∀ y, a = some y → 0 < n → y.block < w.heap.size) (hlow2 : ∀ y, b = some y → 0 < n → y.block < w.heap.size) :
    Calls Tryz.prog 145 #[.slice a n c, .slice b n c'] w fun e w' => e = .returned (.slice (some ⟨w.heap.size, 0, none⟩) n n) ∧ w'.rowIs w.heap.size 3 n (cutV n (midL l r)) ∧ Below w.heap.size w w' := by
  have hmk := run_make_row' (P := Tryz.prog) 29 3 (.int .i64 0) 8 Tryz.underlying29 infoInt rfl .i64 .i64 n (by omega) (by omega)
  have HI := Hid.mk' (fun u (h : Below w.heap.size w u) => hI.belowB h hlow)
  have HJ := Hid.mk' (fun u (h : Below w.heap.size w u) => hJ.belowB h hlow2)
  have HBL := Hid.mk' hbl
  have HBR := Hid.mk' hbr
  clear hI hlow hJ hlow2 hbl hbr
  go_enter Tryz.func145, Tryz.ntmps145
  go_wp2
  clear hmk
  go_loopw [6, 12] (fun _ i wr => ∃ j : Nat, j ≤ n ∧ i = .int .i64 j ∧ Hid (wr.rowIs w.heap.size 3 n (cutV j (midL l r)) ∧ Below w.heap.size w wr)) (fun _ i _ => n - (intOf i).toNat)
  case atStart => exact ⟨0, Nat.zero_le _, rfl, (World.rowIs_made w (.int .i64 0) n 3).congr fun i _ => by simp [cutV, cutI], (Below.refl _ _).alloc (Nat.le_refl _) _⟩
  case round =>
    obtain ⟨j, hj, rfl, HR⟩ := hrel
    by_cases hlt : j < n
    · obtain ⟨bb, off, hx, hc⟩ := (HI.out wr HR.out.2).open (by omega)
      obtain ⟨bb2, off2, hx2, hc2⟩ := (HJ.out wr HR.out.2).open (by omega)
      have hcj := hc j hlt
      have hcj2 := hc2 j hlt
      have hc1 := HR.out.1.cell hlt
      have hf1 := HR.out.1.frozen j
      unfold cutV at hc1
      have b1 := HBL.out j hlt
      have b2 := HBR.out j hlt
      have wf : IntKind.i64.wrap (l j + r j) = l j + r j := by rw [IntKind.wrap_i64]; omega
      clear hc hc2
      subst hx hx2
      go_wp2
      go_region
      all_goals go_wp2
      go_roundw
      case rel => exact ⟨j + 1, by omega, by go_num, cutV_step rfl (HR.out.1.set j _), (HR.out.2.setCell (p := ⟨w.heap.size, j, none⟩) (Nat.le_refl _) _).drew⟩
      case measure => simp [intOf]; omega
    · have e : j = n := by omega
      subst e
      go_wp2
      go_ret
      exact ⟨rfl, HR.out.1, HR.out.2⟩
end Go.Proofs.YtlncjgnomhpjnaaGreatDoor

