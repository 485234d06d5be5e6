import Derived.Test.YtlncjgnomhpjnabGreatDoorQT49
/-
  A new line (the walk).
-/
namespace Go.Proofs.YtlncjgnomhpjnabGreatDoor
open Go.RowKit Go.Deep
set_option linter.unusedVariables false
set_option linter.unusedSimpArgs false in
set_option maxRecDepth 100000 in
set_option maxHeartbeats 8000000 in
theorem new_any (p : Lpar) (x : Lsn) (b cap : Nat) (A : Nat → Option Addr) (C : Nat → Nat) (w : World) (kp : KP x.d x.ch x.B x.c3 x.c4 x.S x.G) (hW1 : 1 ≤ p.W) (hW8 : p.W ≤ 8) (hD : p.Wd ≤ 16) (hR : p.Rm ≤ 8) (hN : p.N = nBlk x.S x.B)
    (hA : ∀ i, i < x.ch → w.cell? ⟨b, i, none⟩ = some (.slice (A i) x.S (C i))) (hI : ∀ i, i < x.ch → IntsAt w (A i) x.S (x.G i)) (hlow : ∀ i, i < x.ch → ∀ y, A i = some y → 0 < x.S → y.block < w.heap.size) (hz : ∀ i, i < x.ch → A i = none → x.S = 0 ∧ C i = 0) :
    Calls Tryz.prog 48 #[.agg #[.int .i64 x.ch, .int .i64 x.d, .int .i64 x.B, .int .i64 x.c3, .int .i64 x.c4, .int .i64 p.W, .int .i64 p.Wd, .int .i64 p.Rm], .slice (some ⟨b, 0, none⟩) x.ch cap, .int .i64 p.fail] w fun e w' => ∃ a : Lad, e = .returned (ptrV a.lb) ∧ LineIs p a x (fun k => w.heap.size ≤ k ∧ k < w'.heap.size) Lst.init w' ∧ Below w.heap.size w w' := by
  have hn1 := kp.n1
  have hbl : b < w.heap.size := World.block_lt_of_cell? w _ (hA 0 (by omega))
  obtain ⟨n0, hn0⟩ : ∃ n, n = w.heap.size := ⟨_, rfl⟩
  obtain ⟨W0, hW0⟩ : ∃ W, W = w.alloc (.cells #[.int .i64 x.ch, .int .i64 x.d, .int .i64 x.B, .int .i64 x.c3, .int .i64 x.c4, .int .i64 p.W, .int .i64 p.Wd, .int .i64 p.Rm] 23) := ⟨_, rfl⟩
  have HX0 : Hid (Bx W0 n0 23 #[.int .i64 x.ch, .int .i64 x.d, .int .i64 x.B, .int .i64 x.c3, .int .i64 x.c4, .int .i64 p.W, .int .i64 p.Wd, .int .i64 p.Rm]) := by show Bx _ _ _ _; rw [hW0, hn0]; exact Bx.new w _ _
  have HB0 : Hid (Below w.heap.size w W0) := by show Below _ _ _; rw [hW0]; exact (Below.refl _ _).alloc (Nat.le_refl _) _
  have hz0 : W0.heap.size = n0 + 1 := by rw [hW0, hn0]; simp
  have HZ0 := Hid.mk' hz0
  have HN0 := Hid.mk' hn0
  have HK : Hid (∀ u, Below W0.heap.size W0 u → Below w.heap.size w u) := fun u hu => HB0.out.trans (hu.mono (by rw [HZ0.out, HN0.out]; exact Nat.le_succ _))
  have HS : Hid (∀ u, Below W0.heap.size W0 u → u.cell? ⟨n0, 0, none⟩ = some (.int .i64 x.ch) ∧ u.cell? ⟨n0, 1, none⟩ = some (.int .i64 x.d) ∧ u.cell? ⟨n0, 2, none⟩ = some (.int .i64 x.B) ∧ u.cell? ⟨n0, 3, none⟩ = some (.int .i64 x.c3) ∧ u.cell? ⟨n0, 4, none⟩ = some (.int .i64 x.c4) ∧ u.cell? ⟨n0, 5, none⟩ = some (.int .i64 p.W) ∧ u.cell? ⟨n0, 6, none⟩ = some (.int .i64 p.Wd) ∧ u.cell? ⟨n0, 7, none⟩ = some (.int .i64 p.Rm) ∧ u.cell? ⟨b, 0, none⟩ = some (.slice (A 0) x.S (C 0))) := fun u hu => by
    have bx := HX0.out.below hu
    exact ⟨bx.cell 0, bx.cell 1, bx.cell 2, bx.cell 3, bx.cell 4, bx.cell 5, bx.cell 6, bx.cell 7, (cellOf ((HK.out u hu).block b hbl)).trans (hA 0 (by omega))⟩
  have hS0 := HS.out W0.drew (bel_drewN (Below.refl _ _) 1)
  have HIO := Hid.mk' (infoOf_any x.ch x.d x.B x.c3 x.c4 p.W p.Wd p.Rm x.S W0.drew)
  have HQB := Hid.mk' (fun u => newQueue_block p.Rm (by omega) u)
  have HQP := Hid.mk' (fun u => newQueue_packed p.Rm (by omega) u)
  have HCO : Hid (∀ u, Below w.heap.size w u → Calls Tryz.prog 102 #[.slice (some ⟨b, 0, none⟩) x.ch cap] u fun e w' => e = .returned (.slice (some ⟨u.heap.size, 0, none⟩) x.ch x.ch) ∧ ∃ A' C', Cops (u.heap.size + 1) u.heap.size x.ch x.S x.ch A' C' x.G w' ∧ Below u.heap.size u w') := fun u hu =>
    copied_any b x.ch cap x.S A C x.G u kp.n4 kp.S3 (fun i hi => (cellOf (hu.block b hbl)).trans (hA i hi)) (fun i hi => (hI i hi).below hu (hlow i hi)) (fun i hi y hy h0 => Nat.lt_of_lt_of_le (hlow i hi y hy h0) hu.size) hz
  clear hI hlow hA hz
  have hc0 : 0 < x.ch := hn1
  have hc2 : (0 : Int) < (x.ch : Int) := by omega
  have HKP := Hid.mk' kp
  have HNN := Hid.mk' (And.intro hN (And.intro hD hR))
  have HWW := Hid.mk' (And.intro hW1 hW8)
  have HBL := Hid.mk' hbl
  clear kp hN hD hR hW1 hW8 hbl
  generalize A 0 = A0 at *
  generalize C 0 = C0 at *
  unfold ptrV at *
  go_enter Tryz.func48, Tryz.ntmps48
  go_wp2_with fail
  rw [← hW0, ← hn0]
  clear hW0 hn0 hz0
  go_cut [7] (fun s7 wx => ∃ L qj ql qr cj cl cr : Nat, s7 = .pointer (some ⟨L, 0, none⟩) ∧ Hid (Below W0.heap.size W0 wx ∧ Raw p x W0.heap.size L qj ql qr cj cl cr wx))
  case first =>
    refine wp_region_held_drew (S := fun w' => w'.cell? ⟨n0, 0, none⟩ = some (.int .i64 x.ch) ∧ w'.cell? ⟨n0, 1, none⟩ = some (.int .i64 x.d) ∧ w'.cell? ⟨n0, 2, none⟩ = some (.int .i64 x.B) ∧ w'.cell? ⟨n0, 3, none⟩ = some (.int .i64 x.c3) ∧ w'.cell? ⟨n0, 4, none⟩ = some (.int .i64 x.c4) ∧ w'.cell? ⟨n0, 5, none⟩ = some (.int .i64 p.W) ∧ w'.cell? ⟨n0, 6, none⟩ = some (.int .i64 p.Wd) ∧ w'.cell? ⟨n0, 7, none⟩ = some (.int .i64 p.Rm) ∧ w'.cell? ⟨b, 0, none⟩ = some (.slice A0 x.S C0)) (by kernel_rfl) hS0 (fun hHeld => ?_)
    refine wpAnyH_take (i := 0) (v := ?_) rfl (by kernel_rfl) (by kernel_rfl) (by kernel_rfl) (fun _ _ _ h => h) (Or.inl ⟨by rfl, ?_⟩) (by assumption) ?_
    rotate_left
    · (intro w hSw; (try dsimp only at hSw); go_simp; try with_reducible rfl)
    try simp only [List.getElem_toArray, List.getElem_cons_succ, List.getElem_cons_zero, Act.put, List.setIfInBounds_toArray, List.set_cons_zero, List.set_cons_succ]
    refine wpAnyH_take (i := 1) (v := ?_) rfl (by kernel_rfl) (by kernel_rfl) (by kernel_rfl) (fun _ _ _ h => h) (Or.inl ⟨by rfl, ?_⟩) (by assumption) ?_
    rotate_left
    · (intro w hSw; (try dsimp only at hSw); go_simp; try with_reducible rfl)
    try simp only [List.getElem_toArray, List.getElem_cons_succ, List.getElem_cons_zero, Act.put, List.setIfInBounds_toArray, List.set_cons_zero, List.set_cons_succ]
    refine wpAnyH_take (i := 2) (v := ?_) rfl (by kernel_rfl) (by kernel_rfl) (by kernel_rfl) (fun _ _ _ h => h) (Or.inl ⟨by rfl, ?_⟩) (by assumption) ?_
    rotate_left
    · (intro w hSw; (try dsimp only at hSw); go_simp; try with_reducible rfl)
    try simp only [List.getElem_toArray, List.getElem_cons_succ, List.getElem_cons_zero, Act.put, List.setIfInBounds_toArray, List.set_cons_zero, List.set_cons_succ]
    refine wpAnyH_take (i := 3) (v := ?_) rfl (by kernel_rfl) (by kernel_rfl) (by kernel_rfl) (fun _ _ _ h => h) (Or.inl ⟨by rfl, ?_⟩) (by assumption) ?_
    rotate_left
    · (intro w hSw; (try dsimp only at hSw); go_simp; try with_reducible rfl)
    try simp only [List.getElem_toArray, List.getElem_cons_succ, List.getElem_cons_zero, Act.put, List.setIfInBounds_toArray, List.set_cons_zero, List.set_cons_succ]
    refine wpAnyH_take (i := 4) (v := ?_) rfl (by kernel_rfl) (by kernel_rfl) (by kernel_rfl) (fun _ _ _ h => h) (Or.inl ⟨by rfl, ?_⟩) (by assumption) ?_
    rotate_left
    · (intro w hSw; (try dsimp only at hSw); go_simp; try with_reducible rfl)
    try simp only [List.getElem_toArray, List.getElem_cons_succ, List.getElem_cons_zero, Act.put, List.setIfInBounds_toArray, List.set_cons_zero, List.set_cons_succ]
    refine wpAnyH_take (i := 5) (v := ?_) rfl (by kernel_rfl) (by kernel_rfl) (by kernel_rfl) (fun _ _ _ h => h) (Or.inl ⟨by rfl, ?_⟩) (by assumption) ?_
    rotate_left
    · (intro w hSw; (try dsimp only at hSw); go_simp; try with_reducible rfl)
    try simp only [List.getElem_toArray, List.getElem_cons_succ, List.getElem_cons_zero, Act.put, List.setIfInBounds_toArray, List.set_cons_zero, List.set_cons_succ]
    refine wpAnyH_take (i := 7) (v := ?_) rfl (by kernel_rfl) (by kernel_rfl) (by kernel_rfl) (fun _ _ _ h => h) (Or.inl ⟨by rfl, ?_⟩) (by assumption) ?_
    rotate_left
    · (intro w hSw; (try dsimp only at hSw); go_simp; try with_reducible rfl)
    try simp only [List.getElem_toArray, List.getElem_cons_succ, List.getElem_cons_zero, Act.put, List.setIfInBounds_toArray, List.set_cons_zero, List.set_cons_succ]
    refine wpAnyH_take (i := 8) (v := ?_) rfl (by kernel_rfl) (by kernel_rfl) (by kernel_rfl) (fun _ _ _ h => h) (Or.inl ⟨by rfl, ?_⟩) (by assumption) ?_
    rotate_left
    · (intro w hSw; (try dsimp only at hSw); go_simp; try with_reducible rfl)
    try simp only [List.getElem_toArray, List.getElem_cons_succ, List.getElem_cons_zero, Act.put, List.setIfInBounds_toArray, List.set_cons_zero, List.set_cons_succ]
    refine wpAnyH_take (i := 10) (v := ?_) rfl (by kernel_rfl) (by kernel_rfl) (by kernel_rfl) (fun _ _ _ h => h) (Or.inl ⟨by rfl, ?_⟩) (by assumption) ?_
    rotate_left
    · (intro w hSw; (try dsimp only at hSw); go_simp; try with_reducible rfl)
    try simp only [List.getElem_toArray, List.getElem_cons_succ, List.getElem_cons_zero, Act.put, List.setIfInBounds_toArray, List.set_cons_zero, List.set_cons_succ]
    refine wpAnyH_take (i := 11) (v := ?_) rfl (by kernel_rfl) (by kernel_rfl) (by kernel_rfl) (fun _ _ _ h => h) (Or.inl ⟨by rfl, ?_⟩) (by assumption) ?_
    rotate_left
    · (intro w hSw; (try dsimp only at hSw); go_simp; try with_reducible rfl)
    try simp only [List.getElem_toArray, List.getElem_cons_succ, List.getElem_cons_zero, Act.put, List.setIfInBounds_toArray, List.set_cons_zero, List.set_cons_succ]
    refine wpAnyH_take (i := 13) (v := ?_) rfl (by kernel_rfl) (by kernel_rfl) (by kernel_rfl) (fun _ _ _ h => h) (Or.inl ⟨by rfl, ?_⟩) (by assumption) ?_
    rotate_left
    · (intro w hSw; (try dsimp only at hSw); go_simp; try with_reducible rfl)
    try simp only [List.getElem_toArray, List.getElem_cons_succ, List.getElem_cons_zero, Act.put, List.setIfInBounds_toArray, List.set_cons_zero, List.set_cons_succ]
    refine wpAnyH_take (i := 14) (v := ?_) rfl (by kernel_rfl) (by kernel_rfl) (by kernel_rfl) (fun _ _ _ h => h) (Or.inl ⟨by rfl, ?_⟩) (by assumption) ?_
    rotate_left
    · (intro w hSw; (try dsimp only at hSw); go_simp; try with_reducible rfl)
    try simp only [List.getElem_toArray, List.getElem_cons_succ, List.getElem_cons_zero, Act.put, List.setIfInBounds_toArray, List.set_cons_zero, List.set_cons_succ]
    refine wpAnyH_take (i := 16) (v := ?_) rfl (by kernel_rfl) (by kernel_rfl) (by kernel_rfl) (fun _ _ _ h => h) (Or.inl ⟨by rfl, ?_⟩) (by assumption) ?_
    rotate_left
    · (intro w hSw; (try dsimp only at hSw); go_simp; try with_reducible rfl)
    try simp only [List.getElem_toArray, List.getElem_cons_succ, List.getElem_cons_zero, Act.put, List.setIfInBounds_toArray, List.set_cons_zero, List.set_cons_succ]
    refine wpAnyH_take (i := 17) (v := ?_) rfl (by kernel_rfl) (by kernel_rfl) (by kernel_rfl) (fun _ _ _ h => h) (Or.inl ⟨by rfl, ?_⟩) (by assumption) ?_
    rotate_left
    · (intro w hSw; (try dsimp only at hSw); go_simp; try with_reducible rfl)
    try simp only [List.getElem_toArray, List.getElem_cons_succ, List.getElem_cons_zero, Act.put, List.setIfInBounds_toArray, List.set_cons_zero, List.set_cons_succ]
    refine wpAnyH_ready (rs := [6]) (by kernel_rfl) (by simp) ?_
    refine AllReadyH.cons rfl (fun K hK => ?_) (AllReadyH.nil)
    go_simp
    go_at_call 61
    refine HIO.out.mono ?_
    rintro e u1 ⟨rfl, hb⟩
    have hb1 : Below W0.heap.size W0 u1 := ⟨hb.os, hb.tape, hb.output, hb.size, hb.block⟩
    have hS1 := HS.out u1 hb1
    have HB1 := Hid.mk' hb1
    clear hb hb1 HIO hS0
    go_wp2_with fail
    refine hK.out _ _ hS1 (fun hHeld => ?_)
    clear hK K
    try simp only [List.getElem_toArray, List.getElem_cons_succ, List.getElem_cons_zero, Act.put, List.setIfInBounds_toArray, List.set_cons_zero, List.set_cons_succ]
    refine wpAnyH_ready (rs := [9]) (by kernel_rfl) (by simp) ?_
    refine AllReadyH.cons rfl (fun K hK => ?_) (AllReadyH.nil)
    go_simp
    go_at_call 100
    refine (HQB.out u1).mono ?_
    rintro e u2 ⟨rfl, hq1, hb, hz2⟩
    have hb2 : Below W0.heap.size W0 u2 := HB1.out.trans (hb.mono HB1.out.size)
    have hS2 := HS.out u2 hb2
    have HB2 := Hid.mk' hb2
    have HQ1 := Hid.mk' (And.intro hq1 hz2)
    clear hb hb2 hS1 hq1 hz2
    go_wp2_with fail
    refine hK.out _ _ hS2 (fun hHeld => ?_)
    clear hK K
    try simp only [List.getElem_toArray, List.getElem_cons_succ, List.getElem_cons_zero, Act.put, List.setIfInBounds_toArray, List.set_cons_zero, List.set_cons_succ]
    refine wpAnyH_ready (rs := [12]) (by kernel_rfl) (by simp) ?_
    refine AllReadyH.cons rfl (fun K hK => ?_) (AllReadyH.nil)
    go_simp
    go_at_call 100
    refine (HQB.out u2).mono ?_
    rintro e u3 ⟨rfl, hq2, hb, hz3⟩
    have hb3 : Below W0.heap.size W0 u3 := HB2.out.trans (hb.mono HB2.out.size)
    have hS3 := HS.out u3 hb3
    have HB3 := Hid.mk' hb3
    have HQ2 := Hid.mk' (And.intro (And.intro hq2 hz3) hb)
    clear hb hb3 hS2 hq2 hz3
    go_wp2_with fail
    refine hK.out _ _ hS3 (fun hHeld => ?_)
    clear hK K
    try simp only [List.getElem_toArray, List.getElem_cons_succ, List.getElem_cons_zero, Act.put, List.setIfInBounds_toArray, List.set_cons_zero, List.set_cons_succ]
    refine wpAnyH_ready (rs := [15]) (by kernel_rfl) (by simp) ?_
    refine AllReadyH.cons rfl (fun K hK => ?_) (AllReadyH.nil)
    go_simp
    go_at_call 101
    refine (HQP.out u3).mono ?_
    rintro e u4 ⟨rfl, hq3, hb, hz4⟩
    have hb4 : Below W0.heap.size W0 u4 := HB3.out.trans (hb.mono HB3.out.size)
    have hS4 := HS.out u4 hb4
    have HB4 := Hid.mk' hb4
    have HQ3 := Hid.mk' (And.intro (And.intro hq3 hz4) hb)
    clear hb hb4 hS3 hq3 hz4
    go_wp2_with fail
    refine hK.out _ _ hS4 (fun hHeld => ?_)
    clear hK K
    try simp only [List.getElem_toArray, List.getElem_cons_succ, List.getElem_cons_zero, Act.put, List.setIfInBounds_toArray, List.set_cons_zero, List.set_cons_succ]
    refine wpAnyH_take (i := 18) (v := ?_) rfl (by kernel_rfl) (by kernel_rfl) (by kernel_rfl) (fun _ _ _ h => h) (Or.inl ⟨by rfl, ?_⟩) (by assumption) ?_
    rotate_left
    · (intro w hSw; (try dsimp only at hSw); go_simp; try with_reducible rfl)
    try simp only [List.getElem_toArray, List.getElem_cons_succ, List.getElem_cons_zero, Act.put, List.setIfInBounds_toArray, List.set_cons_zero, List.set_cons_succ]
    have HB5 : Hid (Below W0.heap.size W0 (u4.alloc (.cells (lnD p x (u1.heap.size + 1) (u2.heap.size + 1) (u3.heap.size + 1) (.pointer none) (.pointer none) (.pointer none) (.slice none 0 0) (.slice none 0 0)) 160))) := HB4.out.alloc HB4.out.size _
    have HX5 := Hid.mk' (Bx.new u4 (lnD p x (u1.heap.size + 1) (u2.heap.size + 1) (u3.heap.size + 1) (.pointer none) (.pointer none) (.pointer none) (.slice none 0 0) (.slice none 0 0)) 160)
    have hS5 := HS.out _ HB5.out
    refine wpAnyH_ready (rs := [19]) (by kernel_rfl) (by simp) ?_
    refine AllReadyH.cons rfl (fun K hK => ?_) (AllReadyH.nil)
    go_simp
    unfold lnD ptrV at hS5 HB5 HX5
    go_wp2_with fail
    refine hK.out _ _ hS5 (fun hHeld => ?_)
    clear hK K
    try simp only [List.getElem_toArray, List.getElem_cons_succ, List.getElem_cons_zero, Act.put, List.setIfInBounds_toArray, List.set_cons_zero, List.set_cons_succ]
    refine wpAnyH_take (i := 20) (v := ?_) rfl (by kernel_rfl) (by kernel_rfl) (by kernel_rfl) (fun _ _ _ h => h) (Or.inl ⟨by rfl, ?_⟩) (by assumption) ?_
    rotate_left
    · (intro w hSw; (try dsimp only at hSw); go_simp; try with_reducible rfl)
    try simp only [List.getElem_toArray, List.getElem_cons_succ, List.getElem_cons_zero, Act.put, List.setIfInBounds_toArray, List.set_cons_zero, List.set_cons_succ]
    refine wpAnyH_done (by kernel_rfl) ?_ _
    go_wp2
    go_meet
    case rel =>
      have z1 := HQ1.out.2
      have z2 := HQ2.out.1.2
      have z3 := HQ3.out.1.2
      have y1 := HB1.out.size
      have e45 : Edit (fun _ => False) u4 (u4.alloc (.cells (lnD p x (u1.heap.size + 1) (u2.heap.size + 1) (u3.heap.size + 1) (.pointer none) (.pointer none) (.pointer none) (.slice none 0 0) (.slice none 0 0)) 160)) := (Edit.refl _ u4).alloc _
      have e34 : Edit (fun _ => False) u3 u4 := Edit.of HQ3.out.2
      have e23 : Edit (fun _ => False) u2 u3 := Edit.of HQ2.out.2
      refine ⟨u4.heap.size, u1.heap.size + 1, u2.heap.size + 1, u3.heap.size + 1, u1.heap.size, u2.heap.size, u3.heap.size, rfl, HB5.out, HX5.out, (((HQ1.out.1.edit e23 id id).edit e34 id id).edit e45 id id), ((HQ2.out.1.1.edit e34 id id).edit e45 id id), HQ3.out.1.1.edit e45 id id, by omega, ?_, by omega⟩
      simp
      omega
  case rest =>
    obtain ⟨L, qj, ql, qr, cj, cl, cr, rfl, HR⟩ := hcut
    clear hS0
    have HCP := Hid.mk' (HCO.out wc (HK.out wc HR.out.1))
    clear HCO HQB HQP HIO
    go_wp2_with (first
      | (go_at_call 102; refine HCP.out.mono ?_; rintro e u6 ⟨rfl, A', C', hC, hb⟩; have b0 := HR.out.2.bx.below hb; have b1 := b0.alloc (.cells #[.pointer (some ⟨L, 0, none⟩), .bool false, .slice (some ⟨wc.heap.size, 0, none⟩) x.ch x.ch, .int .i64 0] 165); have b2 := b1.set 24 (.pointer (some ⟨u6.heap.size, 0, none⟩)); have b3 := b2.alloc (.cells #[.pointer (some ⟨L, 0, none⟩), .bool false, .int .i64 0, .int .i64 1] 167); have b4 := b3.set 25 (.pointer (some ⟨u6.heap.size + 1, 0, none⟩)); have b5 := b4.alloc (.cells #[.pointer (some ⟨L, 0, none⟩), .bool false, .bool false, .slice none 0 0] 169); have g1 := b1.cell 24; have g2 := b1.free 24; have g3 := b3.cell 25; have g4 := b3.free 25; have g5 := b5.cell 26; have g6 := b5.free 26; simp [lnD] at g1 g3 g5; have HC6 := Hid.mk' hC; have HB6 := Hid.mk' hb; have HX6 := Hid.mk' b0; clear hC hb b0 b1 b2 b3 b4 b5 HCP))
    have HV : Hid (Raw3 p x W0.heap.size L qj ql qr cj cl cr u6.heap.size (u6.heap.size + 1) (u6.heap.size + 1 + 1) wc.heap.size A' C' ((((((u6.alloc (.cells #[.pointer (some ⟨L, 0, none⟩), .bool false, .slice (some ⟨wc.heap.size, 0, none⟩) x.ch x.ch, .int .i64 0] 165)).setCell ⟨L, 24, none⟩ (.pointer (some ⟨u6.heap.size, 0, none⟩))).alloc (.cells #[.pointer (some ⟨L, 0, none⟩), .bool false, .int .i64 0, .int .i64 1] 167)).setCell ⟨L, 25, none⟩ (.pointer (some ⟨u6.heap.size + 1, 0, none⟩))).alloc (.cells #[.pointer (some ⟨L, 0, none⟩), .bool false, .bool false, .slice none 0 0] 169)).setCell ⟨L, 26, none⟩ (.pointer (some ⟨u6.heap.size + 1 + 1, 0, none⟩))) ∧ ((((((u6.alloc (.cells #[.pointer (some ⟨L, 0, none⟩), .bool false, .slice (some ⟨wc.heap.size, 0, none⟩) x.ch x.ch, .int .i64 0] 165)).setCell ⟨L, 24, none⟩ (.pointer (some ⟨u6.heap.size, 0, none⟩))).alloc (.cells #[.pointer (some ⟨L, 0, none⟩), .bool false, .int .i64 0, .int .i64 1] 167)).setCell ⟨L, 25, none⟩ (.pointer (some ⟨u6.heap.size + 1, 0, none⟩))).alloc (.cells #[.pointer (some ⟨L, 0, none⟩), .bool false, .bool false, .slice none 0 0] 169)).setCell ⟨L, 26, none⟩ (.pointer (some ⟨u6.heap.size + 1 + 1, 0, none⟩))).heap.size = u6.heap.size + 1 + 1 + 1 ∧ Below W0.heap.size W0 ((((((u6.alloc (.cells #[.pointer (some ⟨L, 0, none⟩), .bool false, .slice (some ⟨wc.heap.size, 0, none⟩) x.ch x.ch, .int .i64 0] 165)).setCell ⟨L, 24, none⟩ (.pointer (some ⟨u6.heap.size, 0, none⟩))).alloc (.cells #[.pointer (some ⟨L, 0, none⟩), .bool false, .int .i64 0, .int .i64 1] 167)).setCell ⟨L, 25, none⟩ (.pointer (some ⟨u6.heap.size + 1, 0, none⟩))).alloc (.cells #[.pointer (some ⟨L, 0, none⟩), .bool false, .bool false, .slice none 0 0] 169)).setCell ⟨L, 26, none⟩ (.pointer (some ⟨u6.heap.size + 1 + 1, 0, none⟩)))) := by
      have hLu : L < wc.heap.size := HR.out.2.hi.1
      have hsz := HB6.out.size
      have hlo := HR.out.2.lo
      have hwc := HR.out.1.size
      have b0 := HX6.out
      have b1 := b0.alloc (.cells #[.pointer (some ⟨L, 0, none⟩), .bool false, .slice (some ⟨wc.heap.size, 0, none⟩) x.ch x.ch, .int .i64 0] 165)
      have b2 := b1.set 24 (.pointer (some ⟨u6.heap.size, 0, none⟩))
      have b3 := b2.alloc (.cells #[.pointer (some ⟨L, 0, none⟩), .bool false, .int .i64 0, .int .i64 1] 167)
      have b4 := b3.set 25 (.pointer (some ⟨u6.heap.size + 1, 0, none⟩))
      have b5 := b4.alloc (.cells #[.pointer (some ⟨L, 0, none⟩), .bool false, .bool false, .slice none 0 0] 169)
      have b6 := b5.set 26 (.pointer (some ⟨u6.heap.size + 1 + 1, 0, none⟩))
      have z2 : ((u6.alloc (.cells #[.pointer (some ⟨L, 0, none⟩), .bool false, .slice (some ⟨wc.heap.size, 0, none⟩) x.ch x.ch, .int .i64 0] 165)).setCell ⟨L, 24, none⟩ (.pointer (some ⟨u6.heap.size, 0, none⟩))).heap.size = u6.heap.size + 1 := by simp [World.setCell]
      have z4 : ((((u6.alloc (.cells #[.pointer (some ⟨L, 0, none⟩), .bool false, .slice (some ⟨wc.heap.size, 0, none⟩) x.ch x.ch, .int .i64 0] 165)).setCell ⟨L, 24, none⟩ (.pointer (some ⟨u6.heap.size, 0, none⟩))).alloc (.cells #[.pointer (some ⟨L, 0, none⟩), .bool false, .int .i64 0, .int .i64 1] 167)).setCell ⟨L, 25, none⟩ (.pointer (some ⟨u6.heap.size + 1, 0, none⟩))).heap.size = u6.heap.size + 1 + 1 := by simp [World.setCell]
      have s1 : Bx (u6.alloc (.cells #[.pointer (some ⟨L, 0, none⟩), .bool false, .slice (some ⟨wc.heap.size, 0, none⟩) x.ch x.ch, .int .i64 0] 165)) u6.heap.size 165 #[.pointer (some ⟨L, 0, none⟩), .bool false, .slice (some ⟨wc.heap.size, 0, none⟩) x.ch x.ch, .int .i64 0] := Bx.new u6 _ _
      have s2 := (((s1.past (g := L) (by omega) 24 (.pointer (some ⟨u6.heap.size, 0, none⟩))).alloc (.cells #[.pointer (some ⟨L, 0, none⟩), .bool false, .int .i64 0, .int .i64 1] 167)).past (g := L) (by omega) 25 (.pointer (some ⟨u6.heap.size + 1, 0, none⟩))).alloc (.cells #[.pointer (some ⟨L, 0, none⟩), .bool false, .bool false, .slice none 0 0] 169)
      have t1 : Bx (((u6.alloc (.cells #[.pointer (some ⟨L, 0, none⟩), .bool false, .slice (some ⟨wc.heap.size, 0, none⟩) x.ch x.ch, .int .i64 0] 165)).setCell ⟨L, 24, none⟩ (.pointer (some ⟨u6.heap.size, 0, none⟩))).alloc (.cells #[.pointer (some ⟨L, 0, none⟩), .bool false, .int .i64 0, .int .i64 1] 167)) (u6.heap.size + 1) 167 #[.pointer (some ⟨L, 0, none⟩), .bool false, .int .i64 0, .int .i64 1] := by rw [← z2]; exact Bx.new _ _ _
      have t2 := (t1.past (g := L) (by omega) 25 (.pointer (some ⟨u6.heap.size + 1, 0, none⟩))).alloc (.cells #[.pointer (some ⟨L, 0, none⟩), .bool false, .bool false, .slice none 0 0] 169)
      have v1 : Bx (((((u6.alloc (.cells #[.pointer (some ⟨L, 0, none⟩), .bool false, .slice (some ⟨wc.heap.size, 0, none⟩) x.ch x.ch, .int .i64 0] 165)).setCell ⟨L, 24, none⟩ (.pointer (some ⟨u6.heap.size, 0, none⟩))).alloc (.cells #[.pointer (some ⟨L, 0, none⟩), .bool false, .int .i64 0, .int .i64 1] 167)).setCell ⟨L, 25, none⟩ (.pointer (some ⟨u6.heap.size + 1, 0, none⟩))).alloc (.cells #[.pointer (some ⟨L, 0, none⟩), .bool false, .bool false, .slice none 0 0] 169)) (u6.heap.size + 1 + 1) 169 #[.pointer (some ⟨L, 0, none⟩), .bool false, .bool false, .slice none 0 0] := by rw [← z4]; exact Bx.new _ _ _
      have e6 : Edit (· = L) u6 ((((((u6.alloc (.cells #[.pointer (some ⟨L, 0, none⟩), .bool false, .slice (some ⟨wc.heap.size, 0, none⟩) x.ch x.ch, .int .i64 0] 165)).setCell ⟨L, 24, none⟩ (.pointer (some ⟨u6.heap.size, 0, none⟩))).alloc (.cells #[.pointer (some ⟨L, 0, none⟩), .bool false, .int .i64 0, .int .i64 1] 167)).setCell ⟨L, 25, none⟩ (.pointer (some ⟨u6.heap.size + 1, 0, none⟩))).alloc (.cells #[.pointer (some ⟨L, 0, none⟩), .bool false, .bool false, .slice none 0 0] 169)).setCell ⟨L, 26, none⟩ (.pointer (some ⟨u6.heap.size + 1 + 1, 0, none⟩))) := ((((((Edit.refl (· = L) u6).alloc _).cell (Or.inl rfl) 24 _).alloc _).cell (Or.inl rfl) 25 _).alloc _).cell (Or.inl rfl) 26 _
      have e06 : Edit (fun _ => False) wc u6 := Edit.of HB6.out
      refine ⟨⟨b6, s2.past (g := L) (by omega) 26 _, t2.past (g := L) (by omega) 26 _, v1.past (g := L) (by omega) 26 _, HC6.out.edit e6 (by show ¬ _ = _; omega) (fun k hk hkn hh => by show False; omega), (HR.out.2.Qj.edit e06 id id).edit e6 ?_ ?_, (HR.out.2.Ql.edit e06 id id).edit e6 ?_ ?_, (HR.out.2.Qr.edit e06 id id).edit e6 ?_ ?_, by omega, HR.out.2.ne⟩, by simp [World.setCell], ?_⟩
      · show ¬ _ = _; have k1 := HR.out.2.bx.kn; have k2 := HR.out.2.Qj.cells.kn; grind
      · show ¬ _ = _; have k1 := HR.out.2.bx.kn; have k2 := HR.out.2.Qj.kc; grind
      · show ¬ _ = _; have k1 := HR.out.2.bx.kn; have k2 := HR.out.2.Ql.cells.kn; grind
      · show ¬ _ = _; have k1 := HR.out.2.bx.kn; have k2 := HR.out.2.Ql.kc; grind
      · show ¬ _ = _; have k1 := HR.out.2.bx.kn; have k2 := HR.out.2.Qr.cells.kn; grind
      · show ¬ _ = _; have k1 := HR.out.2.bx.kn; have k2 := HR.out.2.Qr.kc; grind
      · exact (HR.out.1.trans (HB6.out.mono HR.out.1.size)).trans (e6.below (B := W0.heap.size) (Nat.le_trans hwc hsz) fun k hk => hk ▸ hlo.1)
    clear HC6 HB6 HX6 g1 g2 g3 g4 g5 g6
    generalize ((((((u6.alloc (.cells #[.pointer (some ⟨L, 0, none⟩), .bool false, .slice (some ⟨wc.heap.size, 0, none⟩) x.ch x.ch, .int .i64 0] 165)).setCell ⟨L, 24, none⟩ (.pointer (some ⟨u6.heap.size, 0, none⟩))).alloc (.cells #[.pointer (some ⟨L, 0, none⟩), .bool false, .int .i64 0, .int .i64 1] 167)).setCell ⟨L, 25, none⟩ (.pointer (some ⟨u6.heap.size + 1, 0, none⟩))).alloc (.cells #[.pointer (some ⟨L, 0, none⟩), .bool false, .bool false, .slice none 0 0] 169)).setCell ⟨L, 26, none⟩ (.pointer (some ⟨u6.heap.size + 1 + 1, 0, none⟩))) = V at *
    generalize u6.heap.size = z at *
    generalize wc.heap.size = lg at *
    have HS5 : Hid (∀ u, Edit (fun _ => False) V u → u.cell? ⟨L, 24, none⟩ = some (.pointer (some ⟨z, 0, none⟩)) ∧ u.cell? ⟨L, 25, none⟩ = some (.pointer (some ⟨z + 1, 0, none⟩)) ∧ u.cell? ⟨L, 26, none⟩ = some (.pointer (some ⟨z + 1 + 1, 0, none⟩))) := fun u he => by
      have bx := HV.out.1.bx.edit he id
      exact ⟨bx.cell 24, bx.cell 25, bx.cell 26⟩
    have hS5 := HS5.out V.drew ((Edit.refl _ V).drewN 1)
    have hS6 := HS5.out (V.alloc (.cells #[.iface 154 (.pointer (some ⟨z, 0, none⟩)), .iface 155 (.pointer (some ⟨z + 1, 0, none⟩)), .iface 156 (.pointer (some ⟨z + 1 + 1, 0, none⟩))] 178)).drew (((Edit.refl _ V).alloc _).drewN 1)
    have bx6 : Bx (V.alloc (.cells #[.iface 154 (.pointer (some ⟨z, 0, none⟩)), .iface 155 (.pointer (some ⟨z + 1, 0, none⟩)), .iface 156 (.pointer (some ⟨z + 1 + 1, 0, none⟩))] 178)).drew L 160 _ := HV.out.1.bx.alloc (.cells #[.iface 154 (.pointer (some ⟨z, 0, none⟩)), .iface 155 (.pointer (some ⟨z + 1, 0, none⟩)), .iface 156 (.pointer (some ⟨z + 1 + 1, 0, none⟩))] 178)
    have g1 := bx6.cell 28
    have g2 := bx6.free 28
    have bx7 := bx6.set 28 (.slice (some ⟨V.heap.size, 0, none⟩) 3 3)
    have hS7 : ((V.alloc (.cells #[.iface 154 (.pointer (some ⟨z, 0, none⟩)), .iface 155 (.pointer (some ⟨z + 1, 0, none⟩)), .iface 156 (.pointer (some ⟨z + 1 + 1, 0, none⟩))] 178)).drew.setCell ⟨L, 28, none⟩ (.slice (some ⟨V.heap.size, 0, none⟩) 3 3)).cell? ⟨L, 24, none⟩ = some (.pointer (some ⟨z, 0, none⟩)) ∧ ((V.alloc (.cells #[.iface 154 (.pointer (some ⟨z, 0, none⟩)), .iface 155 (.pointer (some ⟨z + 1, 0, none⟩)), .iface 156 (.pointer (some ⟨z + 1 + 1, 0, none⟩))] 178)).drew.setCell ⟨L, 28, none⟩ (.slice (some ⟨V.heap.size, 0, none⟩) 3 3)).cell? ⟨L, 25, none⟩ = some (.pointer (some ⟨z + 1, 0, none⟩)) ∧ ((V.alloc (.cells #[.iface 154 (.pointer (some ⟨z, 0, none⟩)), .iface 155 (.pointer (some ⟨z + 1, 0, none⟩)), .iface 156 (.pointer (some ⟨z + 1 + 1, 0, none⟩))] 178)).drew.setCell ⟨L, 28, none⟩ (.slice (some ⟨V.heap.size, 0, none⟩) 3 3)).cell? ⟨L, 26, none⟩ = some (.pointer (some ⟨z + 1 + 1, 0, none⟩)) := ⟨bx7.cell 24, bx7.cell 25, bx7.cell 26⟩
    simp [lnD] at g1
    have HX7 := Hid.mk' bx7
    clear bx6 bx7 HS5
    refine wp_region_held_drew (S := fun w' => w'.cell? ⟨L, 24, none⟩ = some (.pointer (some ⟨z, 0, none⟩)) ∧ w'.cell? ⟨L, 25, none⟩ = some (.pointer (some ⟨z + 1, 0, none⟩)) ∧ w'.cell? ⟨L, 26, none⟩ = some (.pointer (some ⟨z + 1 + 1, 0, none⟩))) (by kernel_rfl) hS5 (fun hHeld => ?_)
    refine wpAnyH_take (i := 0) (v := ?_) rfl (by kernel_rfl) (by kernel_rfl) (by kernel_rfl) (fun _ _ _ h => h) (Or.inl ⟨by rfl, ?_⟩) (by assumption) ?_
    rotate_left
    · (intro w hSw; (try dsimp only at hSw); go_simp; try with_reducible rfl)
    try simp only [List.getElem_toArray, List.getElem_cons_succ, List.getElem_cons_zero, Act.put, List.setIfInBounds_toArray, List.set_cons_zero, List.set_cons_succ]
    refine wpAnyH_take (i := 1) (v := ?_) rfl (by kernel_rfl) (by kernel_rfl) (by kernel_rfl) (fun _ _ _ h => h) (Or.inl ⟨by rfl, ?_⟩) (by assumption) ?_
    rotate_left
    · (intro w hSw; (try dsimp only at hSw); go_simp; try with_reducible rfl)
    try simp only [List.getElem_toArray, List.getElem_cons_succ, List.getElem_cons_zero, Act.put, List.setIfInBounds_toArray, List.set_cons_zero, List.set_cons_succ]
    refine wpAnyH_take (i := 2) (v := ?_) rfl (by kernel_rfl) (by kernel_rfl) (by kernel_rfl) (fun _ _ _ h => h) (Or.inl ⟨by rfl, ?_⟩) (by assumption) ?_
    rotate_left
    · (intro w hSw; (try dsimp only at hSw); go_simp; try with_reducible rfl)
    try simp only [List.getElem_toArray, List.getElem_cons_succ, List.getElem_cons_zero, Act.put, List.setIfInBounds_toArray, List.set_cons_zero, List.set_cons_succ]
    refine wpAnyH_take (i := 3) (v := ?_) rfl (by kernel_rfl) (by kernel_rfl) (by kernel_rfl) (fun _ _ _ h => h) (Or.inl ⟨by rfl, ?_⟩) (by assumption) ?_
    rotate_left
    · (intro w hSw; (try dsimp only at hSw); go_simp; try with_reducible rfl)
    try simp only [List.getElem_toArray, List.getElem_cons_succ, List.getElem_cons_zero, Act.put, List.setIfInBounds_toArray, List.set_cons_zero, List.set_cons_succ]
    refine wpAnyH_take (i := 4) (v := ?_) rfl (by kernel_rfl) (by kernel_rfl) (by kernel_rfl) (fun _ _ _ h => h) (Or.inl ⟨by rfl, ?_⟩) (by assumption) ?_
    rotate_left
    · (intro w hSw; (try dsimp only at hSw); go_simp; try with_reducible rfl)
    try simp only [List.getElem_toArray, List.getElem_cons_succ, List.getElem_cons_zero, Act.put, List.setIfInBounds_toArray, List.set_cons_zero, List.set_cons_succ]
    refine wpAnyH_take (i := 5) (v := ?_) rfl (by kernel_rfl) (by kernel_rfl) (by kernel_rfl) (fun _ _ _ h => h) (Or.inl ⟨by rfl, ?_⟩) (by assumption) ?_
    rotate_left
    · (intro w hSw; (try dsimp only at hSw); go_simp; try with_reducible rfl)
    try simp only [List.getElem_toArray, List.getElem_cons_succ, List.getElem_cons_zero, Act.put, List.setIfInBounds_toArray, List.set_cons_zero, List.set_cons_succ]
    refine wpAnyH_take (i := 6) (v := ?_) rfl (by kernel_rfl) (by kernel_rfl) (by kernel_rfl) (fun _ _ _ h => h) (Or.inl ⟨by rfl, ?_⟩) (by assumption) ?_
    rotate_left
    · (intro w hSw; (try dsimp only at hSw); go_simp; try with_reducible rfl)
    try simp only [List.getElem_toArray, List.getElem_cons_succ, List.getElem_cons_zero, Act.put, List.setIfInBounds_toArray, List.set_cons_zero, List.set_cons_succ]
    refine wpAnyH_take (i := 7) (v := ?_) rfl (by kernel_rfl) (by kernel_rfl) (by kernel_rfl) (fun _ _ _ h => h) (Or.inl ⟨by rfl, ?_⟩) (by assumption) ?_
    rotate_left
    · (intro w hSw; (try dsimp only at hSw); go_simp; try with_reducible rfl)
    try simp only [List.getElem_toArray, List.getElem_cons_succ, List.getElem_cons_zero, Act.put, List.setIfInBounds_toArray, List.set_cons_zero, List.set_cons_succ]
    refine wpAnyH_take (i := 8) (v := ?_) rfl (by kernel_rfl) (by kernel_rfl) (by kernel_rfl) (fun _ _ _ h => h) (Or.inl ⟨by rfl, ?_⟩) (by assumption) ?_
    rotate_left
    · (intro w hSw; (try dsimp only at hSw); go_simp; try with_reducible rfl)
    try simp only [List.getElem_toArray, List.getElem_cons_succ, List.getElem_cons_zero, Act.put, List.setIfInBounds_toArray, List.set_cons_zero, List.set_cons_succ]
    refine wpAnyH_take (i := 9) (v := ?_) rfl (by kernel_rfl) (by kernel_rfl) (by kernel_rfl) (fun _ _ _ h => h) (Or.inl ⟨by rfl, ?_⟩) (by assumption) ?_
    rotate_left
    · (intro w hSw; (try dsimp only at hSw); go_simp; try with_reducible rfl)
    try simp only [List.getElem_toArray, List.getElem_cons_succ, List.getElem_cons_zero, Act.put, List.setIfInBounds_toArray, List.set_cons_zero, List.set_cons_succ]
    refine wpAnyH_take (i := 10) (v := ?_) rfl (by kernel_rfl) (by kernel_rfl) (by kernel_rfl) (fun _ _ _ h => h) (Or.inl ⟨by rfl, ?_⟩) (by assumption) ?_
    rotate_left
    · (intro w hSw; (try dsimp only at hSw); go_simp; try with_reducible rfl)
    try simp only [List.getElem_toArray, List.getElem_cons_succ, List.getElem_cons_zero, Act.put, List.setIfInBounds_toArray, List.set_cons_zero, List.set_cons_succ]
    refine wpAnyH_take (i := 11) (v := ?_) rfl (by kernel_rfl) (by kernel_rfl) (by kernel_rfl) (fun _ _ _ h => h) (Or.inl ⟨by rfl, ?_⟩) (by assumption) ?_
    rotate_left
    · (intro w hSw; (try dsimp only at hSw); go_simp; try with_reducible rfl)
    try simp only [List.getElem_toArray, List.getElem_cons_succ, List.getElem_cons_zero, Act.put, List.setIfInBounds_toArray, List.set_cons_zero, List.set_cons_succ]
    refine wpAnyH_take (i := 12) (v := ?_) rfl (by kernel_rfl) (by kernel_rfl) (by kernel_rfl) (fun _ _ _ h => h) (Or.inl ⟨by rfl, ?_⟩) (by assumption) ?_
    rotate_left
    · (intro w hSw; (try dsimp only at hSw); go_simp; try with_reducible rfl)
    try simp only [List.getElem_toArray, List.getElem_cons_succ, List.getElem_cons_zero, Act.put, List.setIfInBounds_toArray, List.set_cons_zero, List.set_cons_succ]
    refine wpAnyH_take (i := 13) (v := ?_) rfl (by kernel_rfl) (by kernel_rfl) (by kernel_rfl) (fun _ _ _ h => h) (Or.inl ⟨by rfl, ?_⟩) (by assumption) ?_
    rotate_left
    · (intro w hSw; (try dsimp only at hSw); go_simp; try with_reducible rfl)
    try simp only [List.getElem_toArray, List.getElem_cons_succ, List.getElem_cons_zero, Act.put, List.setIfInBounds_toArray, List.set_cons_zero, List.set_cons_succ]
    refine wpAnyH_take (i := 14) (v := ?_) rfl (by kernel_rfl) (by kernel_rfl) (by kernel_rfl) (fun _ _ _ h => h) (Or.inl ⟨by rfl, ?_⟩) (by assumption) ?_
    rotate_left
    · (intro w hSw; (try dsimp only at hSw); go_simp; try with_reducible rfl)
    try simp only [List.getElem_toArray, List.getElem_cons_succ, List.getElem_cons_zero, Act.put, List.setIfInBounds_toArray, List.set_cons_zero, List.set_cons_succ]
    refine wpAnyH_take (i := 15) (v := ?_) rfl (by kernel_rfl) (by kernel_rfl) (by kernel_rfl) (fun _ _ _ h => h) (Or.inl ⟨by rfl, ?_⟩) (by assumption) ?_
    rotate_left
    · (intro w hSw; (try dsimp only at hSw); go_simp; try with_reducible rfl)
    try simp only [List.getElem_toArray, List.getElem_cons_succ, List.getElem_cons_zero, Act.put, List.setIfInBounds_toArray, List.set_cons_zero, List.set_cons_succ]
    refine wpAnyH_ready (rs := [16]) (by kernel_rfl) (by simp) ?_
    refine AllReadyH.cons rfl (fun K hK => ?_) (AllReadyH.nil)
    go_simp
    go_wp2_with fail
    refine hK.out _ _ hS6 (fun hHeld => ?_)
    clear hK K
    try simp only [List.getElem_toArray, List.getElem_cons_succ, List.getElem_cons_zero, Act.put, List.setIfInBounds_toArray, List.set_cons_zero, List.set_cons_succ]
    refine wpAnyH_take (i := 17) (v := ?_) rfl (by kernel_rfl) (by kernel_rfl) (by kernel_rfl) (fun _ _ _ h => h) (Or.inl ⟨by rfl, ?_⟩) (by assumption) ?_
    rotate_left
    · (intro w hSw; (try dsimp only at hSw); go_simp; try with_reducible rfl)
    try simp only [List.getElem_toArray, List.getElem_cons_succ, List.getElem_cons_zero, Act.put, List.setIfInBounds_toArray, List.set_cons_zero, List.set_cons_succ]
    refine wpAnyH_take (i := 18) (v := ?_) rfl (by kernel_rfl) (by kernel_rfl) (by kernel_rfl) (fun _ _ _ h => h) (Or.inl ⟨by rfl, ?_⟩) (by assumption) ?_
    rotate_left
    · (intro w hSw; (try dsimp only at hSw); go_simp; try with_reducible rfl)
    try simp only [List.getElem_toArray, List.getElem_cons_succ, List.getElem_cons_zero, Act.put, List.setIfInBounds_toArray, List.set_cons_zero, List.set_cons_succ]
    refine wpAnyH_ready (rs := [19]) (by kernel_rfl) (by simp) ?_
    refine AllReadyH.cons rfl (fun K hK => ?_) (AllReadyH.nil)
    go_simp
    go_wp2_with fail
    refine hK.out _ _ hS7 (fun hHeld => ?_)
    clear hK K
    try simp only [List.getElem_toArray, List.getElem_cons_succ, List.getElem_cons_zero, Act.put, List.setIfInBounds_toArray, List.set_cons_zero, List.set_cons_succ]
    refine wpAnyH_done (by kernel_rfl) ?_ _
    clear hS5 hS6 hS7 g1 g2
    have HEU : Hid (Edit (fun k => k = L ∨ k = V.heap.size) V ((V.alloc (.cells #[.iface 154 (.pointer (some ⟨z, 0, none⟩)), .iface 155 (.pointer (some ⟨z + 1, 0, none⟩)), .iface 156 (.pointer (some ⟨z + 1 + 1, 0, none⟩))] 178)).setCell ⟨L, 28, none⟩ (.slice (some ⟨V.heap.size, 0, none⟩) 3 3)).drew) := (((Edit.refl _ V).alloc _).cell (Or.inl (Or.inl rfl)) 28 _).drewN 1
    have hLV : L < V.heap.size := HV.out.1.bx.lt
    have HW0 : Hid (WkI p x L qj ql qr z V.heap.size ((V.alloc (.cells #[.iface 154 (.pointer (some ⟨z, 0, none⟩)), .iface 155 (.pointer (some ⟨z + 1, 0, none⟩)), .iface 156 (.pointer (some ⟨z + 1 + 1, 0, none⟩))] 178)).setCell ⟨L, 28, none⟩ (.slice (some ⟨V.heap.size, 0, none⟩) 3 3)).drew 0 (.slice none 0 0) (.slice (some ⟨V.heap.size, 0, none⟩) 3 3) (fun _ => 0) ((V.alloc (.cells #[.iface 154 (.pointer (some ⟨z, 0, none⟩)), .iface 155 (.pointer (some ⟨z + 1, 0, none⟩)), .iface 156 (.pointer (some ⟨z + 1 + 1, 0, none⟩))] 178)).setCell ⟨L, 28, none⟩ (.slice (some ⟨V.heap.size, 0, none⟩) 3 3)).drew) := by
      refine ⟨HX7.out, ⟨rfl, Or.inl ⟨rfl, rfl⟩⟩, ?_, fun j hj => absurd hj (Nat.not_lt_zero j), fun i j hi => absurd hi (Nat.not_lt_zero i), Edit.refl _ _, ?_⟩
      · have b8 : Bx ((V.alloc (.cells #[.iface 154 (.pointer (some ⟨z, 0, none⟩)), .iface 155 (.pointer (some ⟨z + 1, 0, none⟩)), .iface 156 (.pointer (some ⟨z + 1 + 1, 0, none⟩))] 178)).setCell ⟨L, 28, none⟩ (.slice (some ⟨V.heap.size, 0, none⟩) 3 3)).drew V.heap.size 178 #[.iface 154 (.pointer (some ⟨z, 0, none⟩)), .iface 155 (.pointer (some ⟨z + 1, 0, none⟩)), .iface 156 (.pointer (some ⟨z + 1 + 1, 0, none⟩))] := (Bx.new V #[.iface 154 (.pointer (some ⟨z, 0, none⟩)), .iface 155 (.pointer (some ⟨z + 1, 0, none⟩)), .iface 156 (.pointer (some ⟨z + 1 + 1, 0, none⟩))] 178).past (g := L) (by omega) 28 _
        exact ⟨rfl, Or.inr ⟨V.heap.size, 3, #[.iface 154 (.pointer (some ⟨z, 0, none⟩)), .iface 155 (.pointer (some ⟨z + 1, 0, none⟩)), .iface 156 (.pointer (some ⟨z + 1 + 1, 0, none⟩))], rfl, Nat.le_refl _, b8, by omega, by simp only [maxLen]; omega, rfl, rfl⟩⟩
      · refine ⟨by simp, hLV, by simp [World.setCell]⟩
    have c5 : ((V.alloc (.cells #[.iface 154 (.pointer (some ⟨z, 0, none⟩)), .iface 155 (.pointer (some ⟨z + 1, 0, none⟩)), .iface 156 (.pointer (some ⟨z + 1 + 1, 0, none⟩))] 178)).setCell ⟨L, 28, none⟩ (.slice (some ⟨V.heap.size, 0, none⟩) 3 3)).drew.cell? ⟨n0, 5, none⟩ = some (.int .i64 p.W) := by
      have b9 := (HX0.out.below HV.out.2.2).edit HEU.out (by have h1 := HV.out.1.lo.1; have h2 := HZ0.out; have h3 := HV.out.2.2.size; omega)
      exact b9.cell 5
    generalize ((V.alloc (.cells #[.iface 154 (.pointer (some ⟨z, 0, none⟩)), .iface 155 (.pointer (some ⟨z + 1, 0, none⟩)), .iface 156 (.pointer (some ⟨z + 1 + 1, 0, none⟩))] 178)).setCell ⟨L, 28, none⟩ (.slice (some ⟨V.heap.size, 0, none⟩) 3 3)).drew = U at *
    have hw8 := HWW.out.2
    clear HX7
    go_wp2
    go_loopw [73] (fun s73 wr => ∃ q : Nat, ∃ wv tv : Value, ∃ wk : Nat → Nat, q ≤ p.W ∧ s73 = .int .i64 q ∧ Hid (WkI p x L qj ql qr z V.heap.size U q wv tv wk wr)) (fun s73 _ => p.W - (intOf s73).toNat)
    case atStart => exact ⟨0, _, _, _, Nat.zero_le _, rfl, HW0.out⟩
    case round =>
      obtain ⟨q, wv, tv, wk, hq, rfl, HI⟩ := hrel
      by_cases hlt : q < p.W
      · obtain ⟨g1, c1, w3, g2, c2, w6, r1, k1, k2, k3, r2, k4, k5, k6, hn⟩ := HI.out.next (by omega)
        have HR1 := Hid.mk' r1
        have HR2 := Hid.mk' r2
        have HNX := Hid.mk' hn
        clear r1 r2 hn
        go_wp2_with (first
          | (at_builtin; refine Lib.wpList_append_run _ rfl _ _ _ _ rfl _ _ rfl rfl _ _ HR1.out ?_)
          | (at_builtin; refine Lib.wpList_append_run _ rfl _ _ _ _ rfl _ _ rfl rfl _ _ HR2.out ?_))
        go_roundw
        case rel => exact ⟨q + 1, _, _, _, by omega, by go_num, HNX.out⟩
        case measure => simp [intOf]; omega
      · have e : q = p.W := by omega
        subst e
        go_wp2
        go_ret
        have hB : w.heap.size ≤ W0.heap.size := HB0.out.size
        obtain ⟨a, ha, hL⟩ := made HKP.out HWW.out.1 HWW.out.2 HNN.out.2.1 HNN.out.2.2 HNN.out.1 hB HV.out.1 rfl HEU.out HI.out
        subst ha
        refine ⟨a, rfl, hL, ?_⟩
        have e9 := HEU.out.trans HI.out.ed
        exact (HK.out V HV.out.2.2).trans (e9.below (B := w.heap.size) (HK.out V HV.out.2.2).size fun k hk => by
          rcases hk with hk | hk
          · rw [hk]
            exact Nat.le_trans hB HV.out.1.lo.1
          · rw [hk]
            exact (HK.out V HV.out.2.2).size)
end Go.Proofs.YtlncjgnomhpjnabGreatDoor

