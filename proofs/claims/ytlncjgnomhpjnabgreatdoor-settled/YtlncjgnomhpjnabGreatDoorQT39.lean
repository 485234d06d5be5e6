import Derived.Test.YtlncjgnomhpjnabGreatDoorQT38
import Derived.Test.YtlncjgnomhpjnabGreatDoorQT28
/-
  What the writer does: it begins, it ends.
-/
namespace Go.Proofs.YtlncjgnomhpjnabGreatDoor
open Go.RowKit Go.Deep
set_option linter.unusedVariables false
theorem nPts_300 {S B seek : Nat} (hB : 1 ≤ B) (hS : S ≤ 300) : nPts S B seek ≤ 300 := by
  unfold nPts
  split
  · omega
  · have h1 := nBlk_le (S := S) hB
    have h2 := nBlk_le (S := nBlk S B) (B := seek) (by omega)
    omega
/-- Where only the writer's own cells are changed. -/
theorem LineIs.wrCells {p : Lpar} {a : Lad} {x : Lsn} {F : Nat → Prop} {s : Lst} {w w' : World} (h : LineIs p a x F s w) (he : Edit (· = a.wr) w w') (e2 begun : Bool) (hb : ∀ lv, Bx w a.wr 169 #[ptrV a.lb, .bool s.e2, .bool s.begun, lv] → Bx w' a.wr 169 #[ptrV a.lb, .bool e2, .bool begun, lv]) :
    LineIs p a x F { s with e2 := e2, begun := begun } w' ∧ Edit F w w' := by
  have hkd := h.kinds
  have kd1 := hkd.lb; have kd4 := hkd.wr
  obtain ⟨sv, fv, lv, c1, c2, c3, c4, c5, c6, c7, c8⟩ := h.cells
  have hn : ∀ g, kn w g ≠ 169 + 1 → ¬ g = a.wr := fun g hg hh => hg (hh ▸ kd4)
  refine ⟨h.upd he (fun k hk => Or.inr (Or.inl hk)) (fun _ hh => hh) (fun k hk => Nat.lt_of_lt_of_le (h.lt k hk) he.size) ⟨sv, fv, lv, c1.edit he (hn _ (by rw [kd1]; decide)), hb lv c2, ?_, c4, ?_, c6, ?_, c8⟩ ⟨rfl, rfl, rfl, rfl, rfl, rfl, rfl, rfl, rfl⟩, he.mono fun k hk => hk ▸ h.own.2.2.2.1⟩
  · exact shOwn c3 he fun g hg => hn g (by rw [(own_kn c3 g hg).1]; decide)
  · exact shOwn c5 he fun g hg => hn g (by rw [(own_kn c5 g hg).1]; decide)
  · exact shOwn c7 he fun g hg => hn g (by rw [(own_kn c7 g hg).1]; decide)
set_option maxRecDepth 100000 in
set_option maxHeartbeats 2000000 in
theorem wrBegin_any {p : Lpar} {a : Lad} {x : Lsn} {F : Nat → Prop} {s : Lst} {w : World} (h : LineIs p a x F s w) (hwr : s.writes ≤ 1000) :
    Calls Tryz.prog 386 #[ptrV a.wr] w fun e w' => e = .returned (.tuple #[]) ∧ LineIs p a x F (s.act p .begin) w' ∧ Edit F w w' := by
  obtain ⟨sv, fv, lv, hl, hw, -⟩ := h.cells
  have hm := h.wrCells (Edit.one w a.wr 2 (.bool true)) s.e2 true (fun lv hb => hb.set 2 (.bool true))
  have c2 := hw.cell 2
  have f2 := hw.free 2
  simp at c2
  obtain ⟨sv1, fv1, lv1, hl1, hw1, -⟩ := hm.1.cells
  have y0 := hw1.cell 0
  have x8 := hl1.cell 8
  have x9 := hl1.cell 9
  have x10 := hl1.cell 10
  have x11 := hl1.cell 11
  have x12 := hl1.cell 12
  have x13 := hl1.cell 13
  simp [lnC, ptrV] at y0 x8 x9 x10 x11 x12 x13
  have hB32 := h.kp.B32
  have hc4 := h.kp.c4b
  have HUN := Hid.mk' (unfinished_any x.ch x.d x.B x.c3 x.c4 x.S (w.setCell ⟨a.wr, 2, none⟩ (.bool true)) h.kp.B1 (by omega) h.kp.S3 (by omega))
  have HWH : Hid (∀ u g, Below (w.setCell ⟨a.wr, 2, none⟩ (.bool true)).heap.size (w.setCell ⟨a.wr, 2, none⟩ (.bool true)) u → u.rowIs g 3 (nPts x.S x.B x.c4) (fun _ => .int .i64 0) →
      Calls Tryz.prog 391 #[ptrV a.wr, .agg (hdC x.ch x.d x.B x.c3 x.c4 x.S false 0 0 0 (.slice (some ⟨g, 0, none⟩) (nPts x.S x.B x.c4) (nPts x.S x.B x.c4)))] u fun e w' => e = .returned (.tuple #[]) ∧ LineIs p a x F (s.act p .begin) w' ∧ Edit F w w') := fun u g hb hr => by
    have eu : Edit (fun _ => False) (w.setCell ⟨a.wr, 2, none⟩ (.bool true)) u := Edit.of hb
    have hk := hm.1.keep (fun k hk => eu.block k (hm.1.lt k hk) id) eu.size
    have hgl : g < u.heap.size := by obtain ⟨c, h1, -⟩ := hr; exact (Array.getElem?_eq_some_iff.1 h1).1
    refine (writeHead_any hk hwr 1 x.ch x.d x.B x.c3 x.c4 x.S false 0 0 0 _ fun _ v ev => ?_).mono ?_
    · have hv : v.rowIs g 3 (nPts x.S x.B x.c4) (fun _ => .int .i64 0) := rowIs_at hr (ev.block g hgl id)
      have hn4 := h.kp.n4
      have hd12 := h.kp.d12
      have hS3 := h.kp.S3
      exact unf_lay x.ch x.d x.B x.c3 x.c4 x.S (by omega) (by omega) (by omega) h.kp.c3b hc4 (by omega) (nPts x.S x.B x.c4) g v (nPts_300 h.kp.B1 hS3) hv
    · rintro e w' ⟨rfl, h1, h2⟩
      exact ⟨rfl, h1, hm.2.trans ((eu.mono fun _ h => h.elim).trans h2)⟩
  clear h hl hw hm hl1 hw1
  unfold ptrV at *
  go_enter Tryz.func386, Tryz.ntmps386
  go_wp2_with (first
    | (go_at_call 136; refine HUN.out.mono ?_; rintro e u ⟨g, rfl, hr, hb⟩; have HW := Hid.mk' (HWH.out u g hb hr); clear hr hb HUN HWH)
    | (go_at_call 391; refine HW.out.mono ?_; rintro e u2 ⟨rfl, hz⟩; have HZ := Hid.mk' hz; clear hz HW))
  go_end0
  exact ⟨rfl, HZ.out⟩
theorem smN_all {x : Lsn} (hB : 1 ≤ x.B) : smN x (nBlk x.S x.B) = sumN (intT x.ch x.G (2 * (x.S * x.ch))) := by
  have h1 : ¬ nBlk x.S x.B * x.B < x.S := fun hh => Nat.lt_irrefl _ ((nBlk_lt (S := x.S) (k := nBlk x.S x.B) hB).2 hh)
  unfold smN
  rw [Nat.min_eq_right (by omega)]
/-- The lengths of the frames that were written. -/
theorem frLens_open {a : Lad} {x : Lsn} {w : World} {lv : Value} {k : Nat} (h : w.ownsRow a.b1 3 1 lv k ((List.range k).map fun k => .int .i64 (frLn x k))) :
    ∃ A cap, lv = .slice A k cap ∧ IntsAt w A k (fun i => (frLn x i : Int)) ∧ ∀ y, A = some y → 0 < k → y.block < w.heap.size := by
  obtain ⟨A, cap, rfl, hA⟩ := own_open h
  refine ⟨A, cap, rfl, fun i hi => ?_, fun y hy h0 => ?_⟩
  · obtain ⟨g, rfl, h1, h2⟩ := hA (by omega)
    refine ⟨_, rfl, ?_⟩
    rw [addr_add, Nat.zero_add]
    exact h2 i _ (by simp [hi])
  · obtain ⟨g, rfl, h1, h2⟩ := hA h0
    cases hy
    exact h1
theorem head_summed {p : Lpar} {s : Lst} {q : Nat} : (s.head p q).summed = s.summed := by
  unfold Lst.head
  split
  · rfl
  · split <;> rfl
set_option linter.unusedSimpArgs false in
set_option maxRecDepth 100000 in
set_option maxHeartbeats 4000000 in
theorem wrEnd_any {p : Lpar} {a : Lad} {x : Lsn} {F : Nat → Prop} {s : Lst} {w : World} (h : LineIs p a x F s w) (hwr : s.writes ≤ 1000) (hk : s.wrote ≤ nBlk x.S x.B) (hN : s.stopped = false → s.wrote = nBlk x.S x.B ∧ s.summed = nBlk x.S x.B) :
    Calls Tryz.prog 395 #[ptrV a.wr] w fun e w' => e = .returned (.tuple #[]) ∧ LineIs p a x F ({ s with e2 := true }.head p 2) w' ∧ Edit F w w' := by
  obtain ⟨sv, fv, lv, hl, hw, -⟩ := h.cells
  have hm := h.wrCells (Edit.one w a.wr 1 (.bool true)) true s.begun (fun lv hb => hb.set 1 (.bool true))
  have c1 := hw.cell 1
  have f1 := hw.free 1
  simp at c1
  have hnb := h.kp.nb
  have hB32 := h.kp.B32
  have hc4 := h.kp.c4b
  have hn4 := h.kp.n4
  have hd12 := h.kp.d12
  have hS3 := h.kp.S3
  have hln : ∀ i, i < s.wrote → frLn x i ≤ 222 := fun i hi => (lnF_bd x.d x.ch x.G x.S x.B i h.kp.d12 h.kp.n1 h.kp.n4 h.kp.B1 h.kp.B32 (by omega)).2
  generalize hW : w.setCell ⟨a.wr, 1, none⟩ (.bool true) = W at *
  obtain ⟨hL, hE⟩ := hm
  obtain ⟨sv1, fv1, lv1, k1, k2, k3, k4, k5, k6, k7, k8⟩ := hL.cells
  obtain ⟨A, cap, rfl, hI, hlow⟩ := frLens_open k7
  have HS : Hid (∀ u s', LineIs p a x F s' u → s'.summed = s.summed → u.cell? ⟨a.wr, 0, none⟩ = some (.pointer (some ⟨a.lb, 0, none⟩)) ∧ u.cell? ⟨a.lb, 8, none⟩ = some (.int .i64 x.ch) ∧ u.cell? ⟨a.lb, 9, none⟩ = some (.int .i64 x.d) ∧ u.cell? ⟨a.lb, 10, none⟩ = some (.int .i64 x.B) ∧ u.cell? ⟨a.lb, 11, none⟩ = some (.int .i64 x.c3) ∧ u.cell? ⟨a.lb, 12, none⟩ = some (.int .i64 x.c4) ∧ u.cell? ⟨a.lb, 13, none⟩ = some (.int .i64 x.S) ∧ u.cell? ⟨a.lb, 25, none⟩ = some (.pointer (some ⟨a.su, 0, none⟩)) ∧ u.cell? ⟨a.su, 3, none⟩ = some (.int .i64 (smN x s.summed))) := fun u s' hu hsm => by
    obtain ⟨sv, fv, lv, hl, hw, -⟩ := hu.cells
    have h3 := hu.sum.cell 3
    rw [hsm] at h3
    exact ⟨hw.cell 0, hl.cell 8, hl.cell 9, hl.cell 10, hl.cell 11, hl.cell 12, hl.cell 13, hl.cell 25, h3⟩
  have HKP : Hid (∀ u, Edit (fun _ => False) W u → LineIs p a x F { s with e2 := true } u) := fun u he => hL.keep (fun k hk => he.block k (hL.lt k hk) id) he.size
  have e0 : Edit (fun _ => False) W W.drew := (Edit.refl _ W).drewN 1
  have y3 : W.drew.cell? ⟨a.wr, 3, none⟩ = some (.slice A s.wrote cap) := k2.cell 3
  have HFI := Hid.mk' (finished_any x.ch x.d x.B x.c3 x.S x.c4 (smN x s.summed) A s.wrote cap (frLn x) W.drew (by omega) (by omega) hln hI hlow)
  have HWH : Hid (∀ u pv, Below W.heap.size W u → u.ownsRow W.heap.size 3 1 pv (pntN (frLn x) x.c4 s.wrote).length (pntV (pntN (frLn x) x.c4 s.wrote)) →
      Calls Tryz.prog 391 #[ptrV a.wr, .agg (hdC x.ch x.d x.B x.c3 x.c4 x.S true (leastN (frLn x) s.wrote : Nat) (mostN (frLn x) s.wrote : Nat) (smN x s.summed) pv)] u fun e w' => e = .returned (.tuple #[]) ∧ LineIs p a x F ({ s with e2 := true }.head p 2) w' ∧ Edit F w w') := fun u pv hb hr => by
    have eu : Edit (fun _ => False) W u := Edit.of hb
    refine (writeHead_any (HKP.out u eu) hwr 2 x.ch x.d x.B x.c3 x.c4 x.S true _ _ _ _ fun hst v ev => ?_).mono ?_
    · obtain ⟨n1, n2⟩ := hN hst
      obtain ⟨A', cap', rfl, hI', hl'⟩ := pnts_open (shOwn hr ev fun _ _ => id)
      have hle := leastN_bd (ln := frLn x) (m := 222) s.wrote hln
      have hmo := mostN_bd (ln := frLn x) (m := 222) s.wrote hln
      have hpl := pntN_len (frLn x) x.c4 s.wrote
      have h9 := headText_any true x.ch x.d x.B x.c3 x.S x.c4 (leastN (frLn x) s.wrote) (mostN (frLn x) s.wrote) (smN x s.summed) (pntN (frLn x) x.c4 s.wrote) A' cap' v (by omega) (by omega) (by omega) h.kp.c3b hc4 (by omega) (by omega) (by omega) (sumN_lt _) (by omega)
        (fun q hq => by have := pntN_bd (ln := frLn x) (m := 222) s.wrote hln q hq; have : 222 * s.wrote ≤ 222 * 300 := Nat.mul_le_mul_left _ (by omega); omega) hI' hl'
      have e9 : hdT x 2 = headTx true.toNat x.ch x.d x.B x.c3 x.S x.c4 (leastN (frLn x) s.wrote) (mostN (frLn x) s.wrote) (smN x s.summed) (pntN (frLn x) x.c4 s.wrote) := by
        rw [n1, n2, smN_all h.kp.B1]
        rfl
      rw [e9]
      exact h9
    · rintro e w' ⟨rfl, h1, h2⟩
      exact ⟨rfl, h1, hE.trans ((eu.mono fun _ h => h.elim).trans h2)⟩
  have hS0 := HS.out W.drew { s with e2 := true } (HKP.out _ e0) rfl
  have HKS : Hid (∀ u, Edit (fun _ => False) W u → u.cell? ⟨a.wr, 0, none⟩ = some (.pointer (some ⟨a.lb, 0, none⟩)) ∧ u.cell? ⟨a.lb, 8, none⟩ = some (.int .i64 x.ch) ∧ u.cell? ⟨a.lb, 9, none⟩ = some (.int .i64 x.d) ∧ u.cell? ⟨a.lb, 10, none⟩ = some (.int .i64 x.B) ∧ u.cell? ⟨a.lb, 11, none⟩ = some (.int .i64 x.c3) ∧ u.cell? ⟨a.lb, 12, none⟩ = some (.int .i64 x.c4) ∧ u.cell? ⟨a.lb, 13, none⟩ = some (.int .i64 x.S) ∧ u.cell? ⟨a.lb, 25, none⟩ = some (.pointer (some ⟨a.su, 0, none⟩)) ∧ u.cell? ⟨a.su, 3, none⟩ = some (.int .i64 (smN x s.summed))) := fun u he => HS.out u { s with e2 := true } (HKP.out u he) rfl
  have HKZ : Hid (∀ u, LineIs p a x F ({ s with e2 := true }.head p 2) u → u.cell? ⟨a.wr, 0, none⟩ = some (.pointer (some ⟨a.lb, 0, none⟩)) ∧ u.cell? ⟨a.lb, 8, none⟩ = some (.int .i64 x.ch) ∧ u.cell? ⟨a.lb, 9, none⟩ = some (.int .i64 x.d) ∧ u.cell? ⟨a.lb, 10, none⟩ = some (.int .i64 x.B) ∧ u.cell? ⟨a.lb, 11, none⟩ = some (.int .i64 x.c3) ∧ u.cell? ⟨a.lb, 12, none⟩ = some (.int .i64 x.c4) ∧ u.cell? ⟨a.lb, 13, none⟩ = some (.int .i64 x.S) ∧ u.cell? ⟨a.lb, 25, none⟩ = some (.pointer (some ⟨a.su, 0, none⟩)) ∧ u.cell? ⟨a.su, 3, none⟩ = some (.int .i64 (smN x s.summed))) := fun u hu => HS.out u _ hu head_summed
  clear h hl hw hI hlow k1 k2 k3 k4 k5 k6 k7 k8 hN hln hL hE HKP HS e0
  generalize ({ s with e2 := true } : Lst).head p 2 = s2 at *
  generalize (smN x s.summed) = sm at *
  generalize (leastN (frLn x) s.wrote) = le at *
  generalize (mostN (frLn x) s.wrote) = mo at *
  unfold ptrV at *
  go_enter Tryz.func395, Tryz.ntmps395
  go_wp2_with fail
  refine wp_region_held_drew (S := fun w' => w'.cell? ⟨a.wr, 0, none⟩ = some (.pointer (some ⟨a.lb, 0, none⟩)) ∧ w'.cell? ⟨a.lb, 8, none⟩ = some (.int .i64 x.ch) ∧ w'.cell? ⟨a.lb, 9, none⟩ = some (.int .i64 x.d) ∧ w'.cell? ⟨a.lb, 10, none⟩ = some (.int .i64 x.B) ∧ w'.cell? ⟨a.lb, 11, none⟩ = some (.int .i64 x.c3) ∧ w'.cell? ⟨a.lb, 12, none⟩ = some (.int .i64 x.c4) ∧ w'.cell? ⟨a.lb, 13, none⟩ = some (.int .i64 x.S) ∧ w'.cell? ⟨a.lb, 25, none⟩ = some (.pointer (some ⟨a.su, 0, none⟩)) ∧ w'.cell? ⟨a.su, 3, none⟩ = some (.int .i64 sm)) (by kernel_rfl) hS0 (fun hHeld => ?_)
  refine wpAnyH_take (i := 0) (v := ?_) rfl (by kernel_rfl) (by kernel_rfl) (by kernel_rfl) (fun _ _ _ h => h) (Or.inl ⟨by rfl, ?_⟩) (by assumption) ?_
  rotate_left
  · (intro w hSw; (try dsimp only at hSw); go_simp; try with_reducible rfl)
  try simp only [List.getElem_toArray, List.getElem_cons_succ, List.getElem_cons_zero, Act.put, List.setIfInBounds_toArray, List.set_cons_zero, List.set_cons_succ]
  refine wpAnyH_take (i := 1) (v := ?_) rfl (by kernel_rfl) (by kernel_rfl) (by kernel_rfl) (fun _ _ _ h => h) (Or.inl ⟨by rfl, ?_⟩) (by assumption) ?_
  rotate_left
  · (intro w hSw; (try dsimp only at hSw); go_simp; try with_reducible rfl)
  try simp only [List.getElem_toArray, List.getElem_cons_succ, List.getElem_cons_zero, Act.put, List.setIfInBounds_toArray, List.set_cons_zero, List.set_cons_succ]
  refine wpAnyH_take (i := 2) (v := ?_) rfl (by kernel_rfl) (by kernel_rfl) (by kernel_rfl) (fun _ _ _ h => h) (Or.inl ⟨by rfl, ?_⟩) (by assumption) ?_
  rotate_left
  · (intro w hSw; (try dsimp only at hSw); go_simp; try with_reducible rfl)
  try simp only [List.getElem_toArray, List.getElem_cons_succ, List.getElem_cons_zero, Act.put, List.setIfInBounds_toArray, List.set_cons_zero, List.set_cons_succ]
  refine wpAnyH_take (i := 3) (v := ?_) rfl (by kernel_rfl) (by kernel_rfl) (by kernel_rfl) (fun _ _ _ h => h) (Or.inl ⟨by rfl, ?_⟩) (by assumption) ?_
  rotate_left
  · (intro w hSw; (try dsimp only at hSw); go_simp; try with_reducible rfl)
  try simp only [List.getElem_toArray, List.getElem_cons_succ, List.getElem_cons_zero, Act.put, List.setIfInBounds_toArray, List.set_cons_zero, List.set_cons_succ]
  refine wpAnyH_take (i := 4) (v := ?_) rfl (by kernel_rfl) (by kernel_rfl) (by kernel_rfl) (fun _ _ _ h => h) (Or.inl ⟨by rfl, ?_⟩) (by assumption) ?_
  rotate_left
  · (intro w hSw; (try dsimp only at hSw); go_simp; try with_reducible rfl)
  try simp only [List.getElem_toArray, List.getElem_cons_succ, List.getElem_cons_zero, Act.put, List.setIfInBounds_toArray, List.set_cons_zero, List.set_cons_succ]
  refine wpAnyH_take (i := 5) (v := ?_) rfl (by kernel_rfl) (by kernel_rfl) (by kernel_rfl) (fun _ _ _ h => h) (Or.inl ⟨by rfl, ?_⟩) (by assumption) ?_
  rotate_left
  · (intro w hSw; (try dsimp only at hSw); go_simp; try with_reducible rfl)
  try simp only [List.getElem_toArray, List.getElem_cons_succ, List.getElem_cons_zero, Act.put, List.setIfInBounds_toArray, List.set_cons_zero, List.set_cons_succ]
  refine wpAnyH_take (i := 6) (v := ?_) rfl (by kernel_rfl) (by kernel_rfl) (by kernel_rfl) (fun _ _ _ h => h) (Or.inl ⟨by rfl, ?_⟩) (by assumption) ?_
  rotate_left
  · (intro w hSw; (try dsimp only at hSw); go_simp; try with_reducible rfl)
  try simp only [List.getElem_toArray, List.getElem_cons_succ, List.getElem_cons_zero, Act.put, List.setIfInBounds_toArray, List.set_cons_zero, List.set_cons_succ]
  refine wpAnyH_take (i := 7) (v := ?_) rfl (by kernel_rfl) (by kernel_rfl) (by kernel_rfl) (fun _ _ _ h => h) (Or.inl ⟨by rfl, ?_⟩) (by assumption) ?_
  rotate_left
  · (intro w hSw; (try dsimp only at hSw); go_simp; try with_reducible rfl)
  try simp only [List.getElem_toArray, List.getElem_cons_succ, List.getElem_cons_zero, Act.put, List.setIfInBounds_toArray, List.set_cons_zero, List.set_cons_succ]
  refine wpAnyH_take (i := 8) (v := ?_) rfl (by kernel_rfl) (by kernel_rfl) (by kernel_rfl) (fun _ _ _ h => h) (Or.inl ⟨by rfl, ?_⟩) (by assumption) ?_
  rotate_left
  · (intro w hSw; (try dsimp only at hSw); go_simp; try with_reducible rfl)
  try simp only [List.getElem_toArray, List.getElem_cons_succ, List.getElem_cons_zero, Act.put, List.setIfInBounds_toArray, List.set_cons_zero, List.set_cons_succ]
  refine wpAnyH_take (i := 9) (v := ?_) rfl (by kernel_rfl) (by kernel_rfl) (by kernel_rfl) (fun _ _ _ h => h) (Or.inl ⟨by rfl, ?_⟩) (by assumption) ?_
  rotate_left
  · (intro w hSw; (try dsimp only at hSw); go_simp; try with_reducible rfl)
  try simp only [List.getElem_toArray, List.getElem_cons_succ, List.getElem_cons_zero, Act.put, List.setIfInBounds_toArray, List.set_cons_zero, List.set_cons_succ]
  refine wpAnyH_take (i := 10) (v := ?_) rfl (by kernel_rfl) (by kernel_rfl) (by kernel_rfl) (fun _ _ _ h => h) (Or.inl ⟨by rfl, ?_⟩) (by assumption) ?_
  rotate_left
  · (intro w hSw; (try dsimp only at hSw); go_simp; try with_reducible rfl)
  try simp only [List.getElem_toArray, List.getElem_cons_succ, List.getElem_cons_zero, Act.put, List.setIfInBounds_toArray, List.set_cons_zero, List.set_cons_succ]
  refine wpAnyH_take (i := 11) (v := ?_) rfl (by kernel_rfl) (by kernel_rfl) (by kernel_rfl) (fun _ _ _ h => h) (Or.inl ⟨by rfl, ?_⟩) (by assumption) ?_
  rotate_left
  · (intro w hSw; (try dsimp only at hSw); go_simp; try with_reducible rfl)
  try simp only [List.getElem_toArray, List.getElem_cons_succ, List.getElem_cons_zero, Act.put, List.setIfInBounds_toArray, List.set_cons_zero, List.set_cons_succ]
  refine wpAnyH_take (i := 13) (v := ?_) rfl (by kernel_rfl) (by kernel_rfl) (by kernel_rfl) (fun _ _ _ h => h) (Or.inl ⟨by rfl, ?_⟩) (by assumption) ?_
  rotate_left
  · (intro w hSw; (try dsimp only at hSw); go_simp; try with_reducible rfl)
  try simp only [List.getElem_toArray, List.getElem_cons_succ, List.getElem_cons_zero, Act.put, List.setIfInBounds_toArray, List.set_cons_zero, List.set_cons_succ]
  refine wpAnyH_take (i := 14) (v := ?_) rfl (by kernel_rfl) (by kernel_rfl) (by kernel_rfl) (fun _ _ _ h => h) (Or.inl ⟨by rfl, ?_⟩) (by assumption) ?_
  rotate_left
  · (intro w hSw; (try dsimp only at hSw); go_simp; try with_reducible rfl)
  try simp only [List.getElem_toArray, List.getElem_cons_succ, List.getElem_cons_zero, Act.put, List.setIfInBounds_toArray, List.set_cons_zero, List.set_cons_succ]
  refine wpAnyH_take (i := 15) (v := ?_) rfl (by kernel_rfl) (by kernel_rfl) (by kernel_rfl) (fun _ _ _ h => h) (Or.inl ⟨by rfl, ?_⟩) (by assumption) ?_
  rotate_left
  · (intro w hSw; (try dsimp only at hSw); go_simp; try with_reducible rfl)
  try simp only [List.getElem_toArray, List.getElem_cons_succ, List.getElem_cons_zero, Act.put, List.setIfInBounds_toArray, List.set_cons_zero, List.set_cons_succ]
  refine wpAnyH_take (i := 16) (v := ?_) rfl (by kernel_rfl) (by kernel_rfl) (by kernel_rfl) (fun _ _ _ h => h) (Or.inl ⟨by rfl, ?_⟩) (by assumption) ?_
  rotate_left
  · (intro w hSw; (try dsimp only at hSw); go_simp; try with_reducible rfl)
  try simp only [List.getElem_toArray, List.getElem_cons_succ, List.getElem_cons_zero, Act.put, List.setIfInBounds_toArray, List.set_cons_zero, List.set_cons_succ]
  refine wpAnyH_take (i := 17) (v := ?_) rfl (by kernel_rfl) (by kernel_rfl) (by kernel_rfl) (fun _ _ _ h => h) (Or.inl ⟨by rfl, ?_⟩) (by assumption) ?_
  rotate_left
  · (intro w hSw; (try dsimp only at hSw); go_simp; try with_reducible rfl)
  try simp only [List.getElem_toArray, List.getElem_cons_succ, List.getElem_cons_zero, Act.put, List.setIfInBounds_toArray, List.set_cons_zero, List.set_cons_succ]
  refine wpAnyH_take (i := 18) (v := ?_) rfl (by kernel_rfl) (by kernel_rfl) (by kernel_rfl) (fun _ _ _ h => h) (Or.inl ⟨by rfl, ?_⟩) (by assumption) ?_
  rotate_left
  · (intro w hSw; (try dsimp only at hSw); go_simp; try with_reducible rfl)
  try simp only [List.getElem_toArray, List.getElem_cons_succ, List.getElem_cons_zero, Act.put, List.setIfInBounds_toArray, List.set_cons_zero, List.set_cons_succ]
  refine wpAnyH_take (i := 19) (v := ?_) rfl (by kernel_rfl) (by kernel_rfl) (by kernel_rfl) (fun _ _ _ h => h) (Or.inl ⟨by rfl, ?_⟩) (by assumption) ?_
  rotate_left
  · (intro w hSw; (try dsimp only at hSw); go_simp; try with_reducible rfl)
  try simp only [List.getElem_toArray, List.getElem_cons_succ, List.getElem_cons_zero, Act.put, List.setIfInBounds_toArray, List.set_cons_zero, List.set_cons_succ]
  refine wpAnyH_take (i := 20) (v := ?_) rfl (by kernel_rfl) (by kernel_rfl) (by kernel_rfl) (fun _ _ _ h => h) (Or.inl ⟨by rfl, ?_⟩) (by assumption) ?_
  rotate_left
  · (intro w hSw; (try dsimp only at hSw); go_simp; try with_reducible rfl)
  try simp only [List.getElem_toArray, List.getElem_cons_succ, List.getElem_cons_zero, Act.put, List.setIfInBounds_toArray, List.set_cons_zero, List.set_cons_succ]
  refine wpAnyH_take (i := 21) (v := ?_) rfl (by kernel_rfl) (by kernel_rfl) (by kernel_rfl) (fun _ _ _ h => h) (Or.inl ⟨by rfl, ?_⟩) (by assumption) ?_
  rotate_left
  · (intro w hSw; (try dsimp only at hSw); go_simp; try with_reducible rfl)
  try simp only [List.getElem_toArray, List.getElem_cons_succ, List.getElem_cons_zero, Act.put, List.setIfInBounds_toArray, List.set_cons_zero, List.set_cons_succ]
  refine wpAnyH_take (i := 22) (v := ?_) rfl (by kernel_rfl) (by kernel_rfl) (by kernel_rfl) (fun _ _ _ h => h) (Or.inl ⟨by rfl, ?_⟩) (by assumption) ?_
  rotate_left
  · (intro w hSw; (try dsimp only at hSw); go_simp; try with_reducible rfl)
  try simp only [List.getElem_toArray, List.getElem_cons_succ, List.getElem_cons_zero, Act.put, List.setIfInBounds_toArray, List.set_cons_zero, List.set_cons_succ]
  refine wpAnyH_take (i := 23) (v := ?_) rfl (by kernel_rfl) (by kernel_rfl) (by kernel_rfl) (fun _ _ _ h => h) (Or.inl ⟨by rfl, ?_⟩) (by assumption) ?_
  rotate_left
  · (intro w hSw; (try dsimp only at hSw); go_simp; try with_reducible rfl)
  try simp only [List.getElem_toArray, List.getElem_cons_succ, List.getElem_cons_zero, Act.put, List.setIfInBounds_toArray, List.set_cons_zero, List.set_cons_succ]
  refine wpAnyH_ready (rs := [12]) (by kernel_rfl) (by simp) ?_
  refine AllReadyH.cons rfl (fun K hK => ?_) (AllReadyH.nil)
  go_simp
  go_wp2_with fail
  refine hK.out _ _ hS0 (fun hHeld => ?_)
  clear hK K
  try simp only [List.getElem_toArray, List.getElem_cons_succ, List.getElem_cons_zero, Act.put, List.setIfInBounds_toArray, List.set_cons_zero, List.set_cons_succ]
  refine wpAnyH_ready (rs := [24]) (by kernel_rfl) (by simp) ?_
  refine AllReadyH.cons rfl (fun K hK => ?_) (AllReadyH.nil)
  go_simp
  go_at_call 128
  refine HFI.out.mono ?_
  rintro e u1 ⟨pv, rfl, hr, hb⟩
  have hb1 : Below W.heap.size W u1 := ⟨hb.os, hb.tape, hb.output, hb.size, hb.block⟩
  have hS1 := HKS.out u1 (Edit.of hb1)
  have HW1 := Hid.mk' (HWH.out u1 pv hb1 hr)
  clear hb hb1 hr HFI HWH
  go_wp2_with fail
  refine hK.out _ _ hS1 (fun hHeld => ?_)
  clear hK K
  try simp only [List.getElem_toArray, List.getElem_cons_succ, List.getElem_cons_zero, Act.put, List.setIfInBounds_toArray, List.set_cons_zero, List.set_cons_succ]
  refine wpAnyH_ready (rs := [25]) (by kernel_rfl) (by simp) ?_
  refine AllReadyH.cons rfl (fun K hK => ?_) (AllReadyH.nil)
  go_simp
  go_at_call 391
  refine HW1.out.mono ?_
  rintro e u2 ⟨rfl, hz1, hz2⟩
  have hS2 := HKZ.out u2 hz1
  have HZ := Hid.mk' (And.intro hz1 hz2)
  clear hz1 hz2 HW1 hS1 hS0
  go_wp2_with fail
  refine hK.out _ _ hS2 (fun hHeld => ?_)
  clear hK K
  try simp only [List.getElem_toArray, List.getElem_cons_succ, List.getElem_cons_zero, Act.put, List.setIfInBounds_toArray, List.set_cons_zero, List.set_cons_succ]
  refine wpAnyH_done (by kernel_rfl) ?_ _
  go_wp2
  go_end0
  exact ⟨rfl, HZ.out⟩
end Go.Proofs.YtlncjgnomhpjnabGreatDoor

/-
  What the writer does: a frame is written.
-/
namespace Go.Proofs.YtlncjgnomhpjnabGreatDoor
open Go.RowKit Go.Deep
set_option linter.unusedVariables false
def frB (x : Lsn) (k : Nat) : ByteArray := bs (frT x.d x.ch x.G x.S x.B k)
theorem shlV_eq (x : Lsn) : ∀ l : List Nat, shlV x l = shC (frB x) l
  | [] => rfl
  | k :: r => by simp only [shlV, shC, shlV_eq x r]; rfl
/-- The first frame was taken off the shelf. -/
theorem LineIs.took {p : Lpar} {a : Lad} {x : Lsn} {F : Nat → Prop} {s : Lst} {w u : World} {sv fv sv' : Value} {r : List Nat} (h : LineIs p a x F s w) (hl : Bx w a.lb 160 (lnC p a x s sv fv))
    (hb : Bx u a.lb 160 (lnC p a x s sv' fv)) (ho : u.ownsRow a.b1 149 2 sv' r.length (shC (frB x) r)) (hob : sv'.ownBlock = sv.ownBlock) (he : Edit (fun b => sv.ownBlock = some b ∨ b = a.lb) w u) : LineIs p a x F { s with shelf := r } u ∧ Edit F w u := by
  have hkd := h.kinds
  have kd1 := hkd.lb; have kd4 := hkd.wr
  obtain ⟨sv1, fv1, lv1, c1, c2, c3, c4, c5, c6, c7, c8⟩ := h.cells
  have e1 : lnC p a x s sv1 fv1 = lnC p a x s sv fv := by
    have h1 : w.heap[a.lb]? = _ := c1
    have h2 : w.heap[a.lb]? = _ := hl
    rw [h2] at h1
    injection h1 with h1
    injection h1 with h1
    exact h1.symm
  have e2 : sv1 = sv := by
    have := congrArg (fun c => c[17]?) e1
    simpa [lnC] using this
  have e3 : fv1 = fv := by
    have := congrArg (fun c => c[22]?) e1
    simpa [lnC] using this
  subst e2 e3
  have hn : ∀ g, kn w g ≠ 160 + 1 → kn w g ≠ 149 + 1 → ¬ (sv1.ownBlock = some g ∨ g = a.lb) := fun g h1 h2 hh => by
    rcases hh with hh | hh
    · exact h2 (own_kn c3 g hh).1
    · exact h1 (hh ▸ kd1)
  refine ⟨h.upd he (fun k hk => ?_) (fun _ hh => hh) (fun k hk => Nat.lt_of_lt_of_le (h.lt k hk) he.size) ⟨sv', fv1, lv1, hb, c2.edit he (hn _ (by rw [kd4]; decide) (by rw [kd4]; decide)), by rw [shlV_eq]; exact ho, fun g hg => c4 g (by rw [← hob]; exact hg), ?_, c6, ?_, c8⟩ ⟨rfl, rfl, rfl, rfl, rfl, rfl, rfl, rfl, rfl⟩, he.mono fun k hk => ?_⟩
  · rcases hk with hk | hk
    · exact Or.inr (Or.inr ⟨(own_kn c3 k hk).2.1, Or.inl (own_kn c3 k hk).1⟩)
    · exact Or.inl hk
  · exact shOwn c5 he fun g hg => hn g (by rw [(own_kn c5 g hg).1]; decide) (by rw [(own_kn c5 g hg).1]; decide)
  · exact shOwn c7 he fun g hg => hn g (by rw [(own_kn c7 g hg).1]; decide) (by rw [(own_kn c7 g hg).1]; decide)
  · rcases hk with hk | hk
    · exact c4 k hk
    · exact hk ▸ h.own.1
/-- A frame was written, and its length was laid down. -/
theorem LineIs.wrote {p : Lpar} {a : Lad} {x : Lsn} {F : Nat → Prop} {s : Lst} {w u z : World} {sv fv lv fv' lv' : Value} (h : LineIs p a x F s w) (hf : (s.tries p).failed = false)
    (c1 : Bx w a.lb 160 (lnC p a x s sv fv)) (c2 : Bx w a.wr 169 #[ptrV a.lb, .bool s.e2, .bool s.begun, lv]) (c3 : w.ownsRow a.b1 149 2 sv s.shelf.length (shlV x s.shelf)) (c4 : ∀ g, sv.ownBlock = some g → F g)
    (c5 : w.ownsRow a.b1 5 1 fv (frsT x.d x.ch x.G x.S x.B s.wrote).length ((frsT x.d x.ch x.G x.S x.B s.wrote).map fun b => .int .u8 (b.toNat : Int))) (c6 : ∀ g, fv.ownBlock = some g → F g)
    (c7 : w.ownsRow a.b1 3 1 lv s.wrote ((List.range s.wrote).map fun k => .int .i64 (frLn x k))) (c8 : ∀ g, lv.ownBlock = some g → F g)
    (hA : Added p a x s sv fv fv' (frsT x.d x.ch x.G x.S x.B s.wrote).length ((frsT x.d x.ch x.G x.S x.B s.wrote).map fun b => .int .u8 (b.toNat : Int)) (frT x.d x.ch x.G x.S x.B s.wrote) w u)
    (hz : z.ownsRow a.b1 3 1 lv' (s.wrote + 1) (((List.range s.wrote).map fun k => .int .i64 (frLn x k)) ++ [.int .i64 (frLn x s.wrote)])) (ez : Edit (fun b => lv.ownBlock = some b) u z) (hzn : ∀ g, lv'.ownBlock = some g → lv.ownBlock = some g ∨ u.heap.size ≤ g) :
    Bx z a.wr 169 #[ptrV a.lb, .bool s.e2, .bool s.begun, lv] ∧ ∃ F', Own F F' w ∧ LineIs p a x F' { s.tries p with wrote := s.wrote + 1 } (z.setCell ⟨a.wr, 3, none⟩ lv') ∧ Edit F w (z.setCell ⟨a.wr, 3, none⟩ lv') := by
  have hkd := h.kinds
  have kd1 := hkd.lb; have kd4 := hkd.wr
  obtain ⟨g1, g2⟩ := hA.good hf
  have hsz := hA.edit.size
  have ez5 := Edit.one z a.wr 3 lv'
  -- kinds in w
  have ks := own_kn c3
  have kf := own_kn c5
  have kl := own_kn c7
  have hwrl : a.wr < w.heap.size := h.lt _ h.own.2.2.2.1
  have hlbl : a.lb < w.heap.size := h.lt _ h.own.1
  have nf : ∀ g, kn w g ≠ 160 + 1 → kn w g ≠ 5 + 1 → ¬ (g = a.lb ∨ fv.ownBlock = some g) := fun g h1 h2 hh => by
    rcases hh with hh | hh
    · exact h1 (hh ▸ kd1)
    · exact h2 (kf g hh).1
  have nl : ∀ g, kn w g ≠ 3 + 1 → ¬ lv.ownBlock = some g := fun g h1 hh => h1 (kl g hh).1
  have wu : Bx u a.wr 169 #[ptrV a.lb, .bool s.e2, .bool s.begun, lv] := c2.edit hA.edit (nf _ (by rw [kd4]; decide) (by rw [kd4]; decide))
  have wz := wu.edit ez (nl _ (by rw [kd4]; decide))
  have e4 : Edit (fun b => b = a.lb ∨ fv.ownBlock = some b ∨ lv.ownBlock = some b ∨ b = a.wr) w (z.setCell ⟨a.wr, 3, none⟩ lv') := ((hA.edit.mono (by grind)).trans (ez.mono (by grind))).trans (ez5.mono (by grind))
  have hu8 := own_kn g1
  have hni : ∀ g, fv'.ownBlock = some g → ¬ lv.ownBlock = some g := fun g hg hl => by
    have h1 := (kl g hl)
    rcases g2 g hg with h2 | h2
    · have := (kf g h2).1
      rw [h1.1] at this
      exact absurd this (by decide)
    · omega
  have hnw : ∀ g, fv'.ownBlock = some g → ¬ g = a.wr := fun g hg hl => by
    rcases g2 g hg with h2 | h2
    · have := (kf g h2).1
      rw [hl, kd4] at this
      exact absurd this (by decide)
    · omega
  have hzl : ∀ g, lv'.ownBlock = some g → ¬ g = a.wr := fun g hg hl => by
    rcases hzn g hg with h2 | h2
    · have := (kl g h2).1
      rw [hl, kd4] at this
      exact absurd this (by decide)
    · omega
  refine ⟨wz, fun k => F k ∨ (w.heap.size ≤ k ∧ k < (z.setCell ⟨a.wr, 3, none⟩ lv').heap.size), ⟨fun _ hh => Or.inl hh, fun k hh => hh.imp id fun hh => hh.1⟩, h.upd (s' := { s.tries p with wrote := s.wrote + 1 }) e4 (fun k hk => ?_) (fun _ hh => Or.inl hh) (fun k hk => ?_) ⟨sv, fv', lv', ?_, wz.set 3 lv', ?_, fun g hg => Or.inl (c4 g hg), ?_, fun g hg => ?_, ?_, fun g hg => ?_⟩ ⟨rfl, rfl, rfl, rfl, rfl, rfl, rfl, rfl, rfl⟩, e4.mono fun k hk => ?_⟩
  · rcases hk with hk | hk | hk | hk
    · exact Or.inl hk
    · exact Or.inr (Or.inr ⟨(kf k hk).2.1, Or.inr (Or.inl (kf k hk).1)⟩)
    · exact Or.inr (Or.inr ⟨(kl k hk).2.1, Or.inr (Or.inr (kl k hk).1)⟩)
    · exact Or.inr (Or.inl hk)
  · rcases hk with hk | hk
    · exact Nat.lt_of_lt_of_le (h.lt k hk) e4.size
    · exact hk.2
  · exact (hA.bx.edit ez (nl _ (by rw [kd1]; decide))).past (fun hh => by rw [hh, kd4] at kd1; exact absurd kd1 (by decide)) 3 lv'
  · exact shOwn c3 e4 fun g hg hh => by
      have k3 := (ks g hg).1
      rcases hh with hh | hh | hh | hh
      · rw [hh, kd1] at k3; exact absurd k3 (by decide)
      · rw [(kf g hh).1] at k3; exact absurd k3 (by decide)
      · rw [(kl g hh).1] at k3; exact absurd k3 (by decide)
      · rw [hh, kd4] at k3; exact absurd k3 (by decide)
  · have e6 : Edit (fun b => lv.ownBlock = some b ∨ b = a.wr) u (z.setCell ⟨a.wr, 3, none⟩ lv') := (ez.mono (by grind)).trans (ez5.mono (by grind))
    have h8 := shOwn g1 e6 fun g hg hh => by
      rcases hh with hh | hh
      · exact hni g hg hh
      · exact hnw g hg hh
    rw [← List.length_append, ← List.map_append] at h8
    exact h8
  · have hlt := (own_kn g1 g hg).2.2
    rcases g2 g hg with h2 | h2
    · exact Or.inl (c6 g h2)
    · exact Or.inr ⟨h2, Nat.lt_of_lt_of_le hlt (Nat.le_trans ez.size ez5.size)⟩
  · have h8 := shOwn hz ez5 fun g hg => hzl g hg
    rw [show ((List.range s.wrote).map fun k => Value.int .i64 (frLn x k)) ++ [.int .i64 (frLn x s.wrote)] = (List.range (s.wrote + 1)).map fun k => .int .i64 (frLn x k) by rw [List.range_succ, List.map_append]; rfl] at h8
    exact h8
  · have hlt := (own_kn hz g hg).2.2
    rcases hzn g hg with h2 | h2
    · exact Or.inl (c8 g h2)
    · exact Or.inr ⟨Nat.le_trans hsz h2, Nat.lt_of_lt_of_le hlt ez5.size⟩
  · rcases hk with hk | hk | hk | hk
    · exact hk ▸ h.own.1
    · exact c6 k hk
    · exact c8 k hk
    · exact hk ▸ h.own.2.2.2.1
end Go.Proofs.YtlncjgnomhpjnabGreatDoor

