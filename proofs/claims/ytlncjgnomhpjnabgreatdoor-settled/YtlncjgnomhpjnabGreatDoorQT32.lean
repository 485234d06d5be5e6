import Derived.Test.YtlncjgnomhpjnabGreatDoorQT31
import Derived.Deep.RegionHeld3
import Derived.Test.YtlncjgnomhpjnabGreatDoorQT18
import Derived.Test.YtlncjgnomhpjnabGreatDoorQT21
import Derived.Deep.DeepCutAuto
/-
  What the steps do: the summer takes a block.
-/
namespace Go.Proofs.YtlncjgnomhpjnabGreatDoor
open Go.RowKit Go.Deep
set_option linter.unusedVariables false
/-- A block was taken out of lane. -/
theorem suMid {p : Lpar} {a : Lad} {x : Lsn} {F : Nat → Prop} {s : Lst} {w v : World} (h : LineIs p a x F s w) {r : List Nat} (he : Edit (· = a.cl) w v) (hq : QIs v a.ql a.cl 247 p.Rm (r.map (blV a x)).toArray s.e0) :
    LineIs p a x F { s with lane := r } v := by
  have hkd := h.kinds
  have kd1 := hkd.lb; have kd2 := hkd.sp; have kd3 := hkd.su; have kd4 := hkd.wr; have kd5 := hkd.qj; have kd6 := hkd.ql; have kd7 := hkd.qr; have kd8 := hkd.cj; have kd9 := hkd.cl; have kd10 := hkd.cr
  obtain ⟨n1, n2, n3, n4, n5⟩ := h.ne
  exact h.edit he (fun _ hh => hh) (fun k hk => Nat.lt_of_lt_of_le (h.lt k hk) he.size) (by unfold Firm; grind) (h.cellsOk he (fun _ hh => hh) (by grind) (by grind) (by grind)) (h.spl.edit he (by grind)) (h.sum.edit he (by grind)) (h.workOk he (fun _ hh => hh) (by grind))
    (h.jobs.edit he (by grind) (by grind)) hq (h.ready.edit he (by grind) (by grind)) rfl
/-- The summer's two cells are set. -/
theorem suDone {p : Lpar} {a : Lad} {x : Lsn} {F : Nat → Prop} {s : Lst} {v : World} (h : LineIs p a x F s v) :
    LineIs p a x F { s with summed := s.summed + 1 } ((v.setCell ⟨a.su, 3, none⟩ (.int .i64 (smN x (s.summed + 1)))).setCell ⟨a.su, 2, none⟩ (.int .i64 ((s.summed + 1 : Nat) : Int))) ∧
      Edit F v ((v.setCell ⟨a.su, 3, none⟩ (.int .i64 (smN x (s.summed + 1)))).setCell ⟨a.su, 2, none⟩ (.int .i64 ((s.summed + 1 : Nat) : Int))) := by
  have hkd := h.kinds
  have kd1 := hkd.lb; have kd2 := hkd.sp; have kd3 := hkd.su; have kd4 := hkd.wr; have kd5 := hkd.qj; have kd6 := hkd.ql; have kd7 := hkd.qr; have kd8 := hkd.cj; have kd9 := hkd.cl; have kd10 := hkd.cr
  obtain ⟨n1, n2, n3, n4, n5⟩ := h.ne
  have e4 := Edit.one v a.su 3 (.int .i64 (smN x (s.summed + 1)))
  have e5 := Edit.one (v.setCell ⟨a.su, 3, none⟩ (.int .i64 (smN x (s.summed + 1)))) a.su 2 (.int .i64 ((s.summed + 1 : Nat) : Int))
  have e3 := e4.trans e5
  have hsu := (h.sum.set 3 (.int .i64 (smN x (s.summed + 1)))).set 2 (.int .i64 ((s.summed + 1 : Nat) : Int))
  exact ⟨h.edit e3 (fun _ hh => hh) (fun k hk => Nat.lt_of_lt_of_le (h.lt k hk) e3.size) (by unfold Firm; grind) (h.cellsOk e3 (fun _ hh => hh) (by grind) (by grind) (by grind)) (h.spl.edit e3 (by grind)) hsu (h.workOk e3 (fun _ hh => hh) (by grind))
    (h.jobs.edit e3 (by grind) (by grind)) (h.lane.edit e3 (by grind) (by grind)) (h.ready.edit e3 (by grind) (by grind)) rfl, e3.mono fun q hq => hq ▸ h.own.2.2.1⟩
/-- The sum goes on. -/
theorem suSum {p : Lpar} {a : Lad} {x : Lsn} {F : Nat → Prop} {s : Lst} {v : World} (h : LineIs p a x F s v) {k : Nat} (hkg : k < s.given) (hN : k < nBlk x.S x.B) :
    Calls Tryz.prog 131 #[.int .i64 (smN x k), .slice (some ⟨a.gb k, 0, none⟩) x.ch x.ch] v fun e w' => e = .returned (.int .i64 (smN x (k + 1))) ∧ Below v.heap.size v w' := by
  obtain ⟨h1, h2, h3⟩ := h.blk hkg hN
  have hbd := blkN_bd h.kp.B1 hN
  have hB32 := h.kp.B32
  have h5 := soundSumOn_any (intT x.ch x.G (2 * (min (k * x.B) x.S * x.ch))) (some ⟨a.gb k, 0, none⟩) x.ch x.ch _ _ _ _ v h.kp.n1 h.kp.n4 (by omega) h1 h2 h3
  rw [smN_next h.kp.n1 h.kp.B1 hN] at h5
  exact h5
set_option linter.unusedSimpArgs false in
set_option maxHeartbeats 2000000 in
theorem suTake_any {p : Lpar} {a : Lad} {x : Lsn} {F : Nat → Prop} {s : Lst} {w : World} (h : LineIs p a x F s w) (r : List Nat) (hk : s.lane = s.summed :: r) (hkg : s.summed < s.given) (hN : s.summed < nBlk x.S x.B) :
    Calls Tryz.prog 383 #[ptrV a.su] w fun e w' => e = .returned (.tuple #[]) ∧ LineIs p a x F { s with lane := r, summed := s.summed + 1 } w' ∧ Edit F w w' := by
  obtain ⟨sv, fv, lv, hl, hw, -⟩ := h.cells
  have x15 := hl.cell 15
  have y0 := h.sum.cell 0
  simp [lnC, ptrV] at x15 y0
  have hnb := h.kp.nb
  have hsl := h.sum.lt
  have hq := h.lane
  rw [hk] at hq
  have HT := Hid.mk' (take_block _ _ _ _ _ (.int .i64 s.summed) (.slice (some ⟨a.gb s.summed, 0, none⟩) x.ch x.ch) w hq rfl ⟨rfl, rfl⟩)
  rw [ext_one] at HT
  have HD : Hid (∀ u v : World, QIs u a.ql a.cl 247 p.Rm (r.map (blV a x)).toArray s.e0 → Edit (· = a.cl) w u → Edit (fun _ => False) u v →
      Bx v a.su 167 #[ptrV a.lb, .bool s.e1, .int .i64 s.summed, .int .i64 (smN x s.summed)] ∧
      LineIs p a x F { s with lane := r, summed := s.summed + 1 } ((v.setCell ⟨a.su, 3, none⟩ (.int .i64 (smN x (s.summed + 1)))).setCell ⟨a.su, 2, none⟩ (.int .i64 ((s.summed + 1 : Nat) : Int))) ∧
      Edit F w ((v.setCell ⟨a.su, 3, none⟩ (.int .i64 (smN x (s.summed + 1)))).setCell ⟨a.su, 2, none⟩ (.int .i64 ((s.summed + 1 : Nat) : Int)))) := by
    intro u v q1 e1 e2
    have e3 : Edit (· = a.cl) w v := e1.trans (e2.mono fun _ hh => hh.elim)
    have hm := suMid h e3 (q1.edit e2 id id)
    exact ⟨hm.sum, (suDone hm).1, (e3.mono fun q hq => hq ▸ h.own.2.2.2.2.2.2.2.2.1).trans (suDone hm).2⟩
  have HSO : Hid (∀ u v : World, QIs u a.ql a.cl 247 p.Rm (r.map (blV a x)).toArray s.e0 → Edit (· = a.cl) w u → Edit (fun _ => False) u v → Calls Tryz.prog 131 #[.int .i64 (smN x s.summed), .slice (some ⟨a.gb s.summed, 0, none⟩) x.ch x.ch] v fun e w' => e = .returned (.int .i64 (smN x (s.summed + 1))) ∧ Below v.heap.size v w') := by
    intro u v q1 e1 e2
    exact suSum (suMid h (e1.trans (e2.mono fun _ hh => hh.elim)) (q1.edit e2 id id)) hkg hN
  have wr1 : IntKind.i64.wrap ((s.summed : Int) + 1) = ((s.summed + 1 : Nat) : Int) := by rw [IntKind.wrap_i64]; omega
  clear h hl hw hq hk hkg hN hnb
  unfold ptrV at *
  generalize smN x (s.summed + 1) = sm1 at *
  generalize smN x s.summed = sm0 at *
  go_enter Tryz.func383, Tryz.ntmps383
  go_wp2_with (first
    | (go_at_call 385; refine HT.out.mono ?_; rintro e w1 ⟨rfl, q1, e1⟩; have HQ1 := Hid.mk' q1; have HE1 := Hid.mk' e1; clear HT q1 e1)
    | (refine wpList_storeRow rfl _ _ 145 rfl w1.heap.size 145 _ _ rfl rfl (Bx.new w1 #[.int .i64 0, .slice none 0 0] 145) infoBlk rfl rfl ?_))
  have EV : Hid (Edit (fun _ => False) w1 ((w1.alloc (.cells #[.int .i64 0, .slice none 0 0] 145)).setRow w1.heap.size #[.int .i64 s.summed, .slice (some ⟨a.gb s.summed, 0, none⟩) x.ch x.ch])) := ((Edit.refl _ w1).alloc _).row (Nat.le_refl _) _
  have BX : Hid (Bx ((w1.alloc (.cells #[.int .i64 0, .slice none 0 0] 145)).setRow w1.heap.size #[.int .i64 s.summed, .slice (some ⟨a.gb s.summed, 0, none⟩) x.ch x.ch]) w1.heap.size 145 #[.int .i64 s.summed, .slice (some ⟨a.gb s.summed, 0, none⟩) x.ch x.ch]) := (Bx.new w1 _ _).row _
  generalize (w1.alloc (.cells #[.int .i64 0, .slice none 0 0] 145)).setRow w1.heap.size #[.int .i64 s.summed, .slice (some ⟨a.gb s.summed, 0, none⟩) x.ch x.ch] = v at *
  have HZ0 := Hid.mk' (HD.out w1 v HQ1.out HE1.out EV.out).1
  have m3 : v.drew.cell? ⟨a.su, 3, none⟩ = some (.int .i64 sm0) := HZ0.out.cell 3
  have hS0 : v.drew.cell? ⟨w1.heap.size, 1, none⟩ = some (.slice (some ⟨a.gb s.summed, 0, none⟩) x.ch x.ch) := BX.out.cell 1
  refine wp_region_held_drew (S := fun w' => w'.cell? ⟨w1.heap.size, 1, none⟩ = some (.slice (some ⟨a.gb s.summed, 0, none⟩) x.ch x.ch)) (by kernel_rfl) hS0 (fun hHeld => ?_)
  refine wpAnyH_take (i := 0) (v := ?_) rfl (by kernel_rfl) (by kernel_rfl) (by kernel_rfl) (fun _ _ _ h => h) (Or.inl ⟨by rfl, ?_⟩) (by assumption) ?_
  rotate_left
  · (intro w hSw; (try dsimp only at hSw); go_simp; try with_reducible rfl)
  try simp only [List.getElem_toArray, List.getElem_cons_succ, List.getElem_cons_zero, Act.put, List.setIfInBounds_toArray, List.set_cons_zero, List.set_cons_succ]
  refine wpAnyH_take (i := 1) (v := ?_) rfl (by kernel_rfl) (by kernel_rfl) (by kernel_rfl) (fun _ _ _ h => h) (Or.inl ⟨by rfl, ?_⟩) (by assumption) ?_
  rotate_left
  · (intro w hSw; (try dsimp only at hSw); go_simp; try with_reducible rfl)
  try simp only [List.getElem_toArray, List.getElem_cons_succ, List.getElem_cons_zero, Act.put, List.setIfInBounds_toArray, List.set_cons_zero, List.set_cons_succ]
  refine wpAnyH_take (i := 2) (v := ?_) rfl (by kernel_rfl) (by kernel_rfl) (by kernel_rfl) (fun _ _ _ h => h) (Or.inl ⟨by rfl, ?_⟩) (by assumption) ?_
  rotate_left
  · (intro w hSw; (try dsimp only at hSw); go_simp; try with_reducible rfl)
  try simp only [List.getElem_toArray, List.getElem_cons_succ, List.getElem_cons_zero, Act.put, List.setIfInBounds_toArray, List.set_cons_zero, List.set_cons_succ]
  refine wpAnyH_take (i := 3) (v := ?_) rfl (by kernel_rfl) (by kernel_rfl) (by kernel_rfl) (fun _ _ _ h => h) (Or.inl ⟨by rfl, ?_⟩) (by assumption) ?_
  rotate_left
  · (intro w hSw; (try dsimp only at hSw); go_simp; try with_reducible rfl)
  try simp only [List.getElem_toArray, List.getElem_cons_succ, List.getElem_cons_zero, Act.put, List.setIfInBounds_toArray, List.set_cons_zero, List.set_cons_succ]
  refine wpAnyH_take (i := 5) (v := ?_) rfl (by kernel_rfl) (by kernel_rfl) (by kernel_rfl) (fun _ _ _ h => h) (Or.inl ⟨by rfl, ?_⟩) (by assumption) ?_
  rotate_left
  · (intro w hSw; (try dsimp only at hSw); go_simp; try with_reducible rfl)
  try simp only [List.getElem_toArray, List.getElem_cons_succ, List.getElem_cons_zero, Act.put, List.setIfInBounds_toArray, List.set_cons_zero, List.set_cons_succ]
  refine wpAnyH_take (i := 6) (v := ?_) rfl (by kernel_rfl) (by kernel_rfl) (by kernel_rfl) (fun _ _ _ h => h) (Or.inl ⟨by rfl, ?_⟩) (by assumption) ?_
  rotate_left
  · (intro w hSw; (try dsimp only at hSw); go_simp; try with_reducible rfl)
  try simp only [List.getElem_toArray, List.getElem_cons_succ, List.getElem_cons_zero, Act.put, List.setIfInBounds_toArray, List.set_cons_zero, List.set_cons_succ]
  refine wpAnyH_ready (rs := [4]) (by kernel_rfl) (by simp) ?_
  refine AllReadyH.cons rfl (fun K hK => ?_) (AllReadyH.nil)
  go_simp
  go_wp2_with fail
  refine hK.out _ _ hS0 (fun hHeld => ?_)
  clear hK K
  try simp only [List.getElem_toArray, List.getElem_cons_succ, List.getElem_cons_zero, Act.put, List.setIfInBounds_toArray, List.set_cons_zero, List.set_cons_succ]
  refine wpAnyH_ready (rs := [7]) (by kernel_rfl) (by simp) ?_
  refine AllReadyH.cons rfl (fun K hK => ?_) (AllReadyH.nil)
  go_simp
  go_at_call 131
  refine (HSO.out w1 v.drew HQ1.out HE1.out (EV.out.drewN 1)).mono ?_
  rintro e u2 ⟨rfl, hb⟩
  have HE2 := Hid.mk' (EV.out.trans (Edit.of (S := fun _ => False) (⟨hb.os, hb.tape, hb.output, hb.size, hb.block⟩ : Below v.heap.size v u2)))
  have hS1 : u2.cell? ⟨w1.heap.size, 1, none⟩ = some (.slice (some ⟨a.gb s.summed, 0, none⟩) x.ch x.ch) := (BX.out.below (⟨hb.os, hb.tape, hb.output, hb.size, hb.block⟩ : Below v.heap.size v u2)).cell 1
  have HZ1 := Hid.mk' (HD.out w1 u2 HQ1.out HE1.out HE2.out)
  have g3 := HZ1.out.1.cell 3
  have f3 := HZ1.out.1.free 3
  simp at g3
  have hne : w1.heap.size ≠ a.su := by have := HE1.out.size; omega
  have hS2 : (u2.setCell ⟨a.su, 3, none⟩ (.int .i64 sm1)).cell? ⟨w1.heap.size, 1, none⟩ = some (.slice (some ⟨a.gb s.summed, 0, none⟩) x.ch x.ch) := (World.cell?_setCell_far _ _ _ _ (Ne.symm hne)).trans hS1
  have b2 := ((HZ1.out.1.set 3 (.int .i64 sm1)).cell 2)
  have b2f := ((HZ1.out.1.set 3 (.int .i64 sm1)).free 2)
  simp at b2
  clear hb HSO m3 hS0
  go_wp2_with fail
  refine hK.out _ _ hS1 (fun hHeld => ?_)
  clear hK K
  try simp only [List.getElem_toArray, List.getElem_cons_succ, List.getElem_cons_zero, Act.put, List.setIfInBounds_toArray, List.set_cons_zero, List.set_cons_succ]
  refine wpAnyH_take (i := 8) (v := ?_) rfl (by kernel_rfl) (by kernel_rfl) (by kernel_rfl) (fun _ _ _ h => h) (Or.inl ⟨by rfl, ?_⟩) (by assumption) ?_
  rotate_left
  · (intro w hSw; (try dsimp only at hSw); go_simp; try with_reducible rfl)
  try simp only [List.getElem_toArray, List.getElem_cons_succ, List.getElem_cons_zero, Act.put, List.setIfInBounds_toArray, List.set_cons_zero, List.set_cons_succ]
  refine wpAnyH_take (i := 9) (v := ?_) rfl (by kernel_rfl) (by kernel_rfl) (by kernel_rfl) (fun _ _ _ h => h) (Or.inl ⟨by rfl, ?_⟩) (by assumption) ?_
  rotate_left
  · (intro w hSw; (try dsimp only at hSw); go_simp; try with_reducible rfl)
  try simp only [List.getElem_toArray, List.getElem_cons_succ, List.getElem_cons_zero, Act.put, List.setIfInBounds_toArray, List.set_cons_zero, List.set_cons_succ]
  refine wpAnyH_ready (rs := [10]) (by kernel_rfl) (by simp) ?_
  refine AllReadyH.cons rfl (fun K hK => ?_) (AllReadyH.nil)
  go_simp
  go_wp2_with fail
  refine hK.out _ _ hS2 (fun hHeld => ?_)
  clear hK K
  try simp only [List.getElem_toArray, List.getElem_cons_succ, List.getElem_cons_zero, Act.put, List.setIfInBounds_toArray, List.set_cons_zero, List.set_cons_succ]
  refine wpAnyH_done (by kernel_rfl) ?_ _
  go_wp2
  go_end0
  exact ⟨rfl, HZ1.out.2⟩
end Go.Proofs.YtlncjgnomhpjnabGreatDoor

/-
  What holds of a line at all times; how many steps are left.
-/
namespace Go.Proofs.YtlncjgnomhpjnabGreatDoor
set_option linter.unusedVariables false
theorem fmC {f g : Nat → Option Nat} : ∀ {l : List Nat}, (∀ i, i ∈ l → f i = g i) → l.filterMap f = l.filterMap g
  | [], _ => rfl
  | i :: l, h => by
    rw [List.filterMap_cons, List.filterMap_cons, h i (List.mem_cons_self ..), fmC (fun q hq => h q (List.mem_cons_of_mem _ hq))]
theorem filterMap_upd (held : Nat → Option Nat) (j k : Nat) (hn : held j = none) : ∀ W, j < W → ((List.range W).filterMap (updL held j (some k))).Perm (k :: (List.range W).filterMap held)
  | 0, h => absurd h (Nat.not_lt_zero _)
  | W + 1, h => by
    rw [List.range_succ, List.filterMap_append, List.filterMap_append]
    by_cases e : j = W
    · subst e
      have h1 : (List.range j).filterMap (updL held j (some k)) = (List.range j).filterMap held := by
        apply fmC
        intro i hi
        have := List.mem_range.1 hi
        simp only [updL]
        rw [if_neg (by omega)]
      rw [h1]
      simp [updL, hn]
    · have h2 : [W].filterMap (updL held j (some k)) = [W].filterMap held := by
        simp [List.filterMap, updL, show ¬ W = j by omega]
      rw [h2]
      exact ((filterMap_upd held j k hn W (by omega)).append_right _)
theorem filterMap_out (held : Nat → Option Nat) (j k : Nat) (hn : held j = some k) (W : Nat) (hj : j < W) : (k :: (List.range W).filterMap (updL held j none)).Perm ((List.range W).filterMap held) := by
  have h := filterMap_upd (updL held j none) j k (by simp [updL]) W hj
  have e : updL (updL held j none) j (some k) = held := by
    funext i
    simp only [updL]
    split
    · next h => rw [h, hn]
    · rfl
  rw [e] at h
  exact h.symm
theorem insL_perm (k : Nat) : ∀ l : List Nat, (insL k l).Perm (k :: l)
  | [] => List.Perm.refl _
  | x :: r => by
    simp only [insL]
    split
    · exact ((insL_perm k r).cons x).trans (List.Perm.swap k x r)
    · exact List.Perm.refl _
theorem insL_sorted (k : Nat) : ∀ l : List Nat, l.Pairwise (· < ·) → k ∉ l → (insL k l).Pairwise (· < ·)
  | [], _, _ => List.pairwise_singleton _ _
  | x :: r, h, hk => by
    have h1 := List.pairwise_cons.1 h
    simp only [List.mem_cons, not_or] at hk
    simp only [insL]
    split
    · next hlt =>
      refine List.pairwise_cons.2 ⟨fun y hy => ?_, insL_sorted k r h1.2 hk.2⟩
      rcases List.mem_cons.1 ((insL_perm k r).mem_iff.1 hy) with rfl | hy
      · exact hlt
      · exact h1.1 y hy
    · next hge =>
      refine List.pairwise_cons.2 ⟨fun y hy => ?_, h⟩
      rcases List.mem_cons.1 hy with rfl | hy
      · omega
      · have := h1.1 y hy
        omega
theorem next0 {p : Lpar} {s : Lst} {c : LAct} (h : s.next p 0 = some c) : s.e0 = false ∧ ((c = .end0 ∧ (s.stopped = true ∨ s.given = p.N)) ∨ (c = .give ∧ s.stopped = false ∧ s.given ≠ p.N ∧ s.jobs.length ≠ p.Rm ∧ s.lane.length ≠ p.Rm ∧ s.given - s.wrote < p.Wd)) := by
  simp only [Lst.next] at h
  cases h0 : s.e0 <;> simp [h0] at h
  refine ⟨rfl, ?_⟩
  split at h
  · next h1 => cases h; exact Or.inl ⟨rfl, h1⟩
  · next h1 =>
    simp at h
    simp at h1
    exact Or.inr ⟨h.2.symm, h1.1, h1.2, h.1.1, h.1.2.1, h.1.2.2⟩
theorem next1 {p : Lpar} {s : Lst} {c : LAct} (h : s.next p 1 = some c) : s.e1 = false ∧ c = .sum ∧ (s.lane = [] → s.e0 = true) := by
  simp only [Lst.next] at h
  split at h
  · cases h
  · next h1 =>
    cases h
    simp at h1
    exact ⟨h1.1, rfl, fun e => by have := h1.2; simp [e] at this; exact this⟩
theorem next2 {p : Lpar} {s : Lst} {c : LAct} (h : s.next p 2 = some c) : s.e2 = false ∧ ((c = .begin ∧ s.begun = false) ∨ (s.begun = true ∧ ((c = .write ∧ s.shelf.head? = some s.wrote) ∨ (c = .shelve ∧ s.shelf.head? ≠ some s.wrote ∧ (s.ready = [] → s.shut p = true ∧ s.e1 = true))))) := by
  simp only [Lst.next] at h
  cases h0 : s.e2 <;> simp [h0] at h
  refine ⟨rfl, ?_⟩
  cases h1 : s.begun <;> simp [h1] at h
  · exact Or.inl ⟨h.symm, rfl⟩
  · refine Or.inr ⟨rfl, ?_⟩
    split at h
    · next h2 => cases h; exact Or.inl ⟨rfl, h2⟩
    · next h2 =>
      simp at h
      exact Or.inr ⟨h.2.symm, h2, fun e => by have := h.1; simp [e] at this; exact this⟩
theorem next3 {p : Lpar} {s : Lst} {c : LAct} {j : Nat} (h : s.next p (j + 3) = some c) : s.ew j = false ∧ ((c = .takeW j ∧ s.held j = none ∧ (s.jobs = [] → s.e0 = true)) ∨ ∃ k, s.held j = some k ∧ ((c = .letGo j ∧ s.stopped = true) ∨ (c = .hand j ∧ s.stopped = false ∧ s.ready.length ≠ p.Rm))) := by
  simp only [Lst.next] at h
  cases h0 : s.ew j <;> simp [h0] at h
  refine ⟨rfl, ?_⟩
  cases h1 : s.held j with
  | none =>
    simp [h1] at h
    exact Or.inl ⟨h.2.symm, rfl, fun e => by have := h.1; simp [e] at this; exact this⟩
  | some k =>
    simp [h1] at h
    refine Or.inr ⟨k, rfl, ?_⟩
    cases h2 : s.stopped <;> simp [h2] at h
    · exact Or.inr ⟨h.2.symm, rfl, h.1⟩
    · exact Or.inl ⟨h.symm, rfl⟩
theorem LInv.end0 {p : Lpar} {s : Lst} (h : LInv p s) (hn : s.stopped = true ∨ s.given = p.N) : LInv p (s.act p .end0) :=
  ⟨h.w1, h.r1, h.d1, h.given, h.jobs, h.lane, h.jr, h.lr, h.rr, fun _ => hn, fun h1 => ⟨rfl, (h.e1 h1).2⟩, fun j hj h1 => ⟨rfl, (h.ew j hj h1).2⟩, h.e2, h.sorted, h.wrote, h.far, h.stop, h.fail, h.win, h.place, h.ahead, h.all, h.hd0, h.hd1, h.hd2, h.hds, h.wf, h.ff, h.fc, h.h0⟩
theorem perm_give {p : Lpar} {s : Lst} : ((s.act p .give).put p).Perm (s.given :: s.put p) := by
  show (s.jobs ++ [s.given] ++ s.heldL p ++ s.ready ++ s.shelf).Perm (s.given :: (s.jobs ++ s.heldL p ++ s.ready ++ s.shelf))
  simp only [List.append_assoc]
  exact List.perm_middle
theorem LInv.give {p : Lpar} {s : Lst} (h : LInv p s) (h0 : s.e0 = false) (hs : s.stopped = false) (hn : s.given ≠ p.N) (hj : s.jobs.length ≠ p.Rm) (hl : s.lane.length ≠ p.Rm) (hw : s.given - s.wrote < p.Wd) : LInv p (s.act p .give) := by
  have hg := h.given
  have hwr := h.wrote
  have no : ∀ {q : Prop}, s.e0 = true → q := fun hh => by rw [h0] at hh; cases hh
  obtain ⟨a, ha, hja⟩ := h.jobs
  obtain ⟨hb, hla⟩ := h.lane
  have hnot : s.given ∉ s.put p := fun hh => Nat.lt_irrefl _ (h.ahead _ hh).2
  refine ⟨h.w1, h.r1, h.d1, ?_, ⟨a, ?_, ?_⟩, ⟨?_, ?_⟩, ?_, ?_, h.rr, no, fun h1 => no (h.e1 h1).1, fun j hj h1 => no (h.ew j hj h1).1, fun h1 => no (h.e1 (h.e2 h1).2.2.1).1, h.sorted, ?_, h.far, h.stop, h.fail, ?_, ?_, ?_, ?_, h.hd0, h.hd1, fun h1 => no (h.e1 (h.e2 h1).2.2.1).1, h.hds, h.wf, h.ff, h.fc, h.h0⟩
  · show s.given + 1 ≤ p.N; omega
  · show a ≤ s.given + 1; omega
  · show s.jobs ++ [s.given] = List.range' a (s.given + 1 - a)
    rw [show s.given + 1 - a = (s.given - a) + 1 by omega, List.range'_concat, hja, show a + 1 * (s.given - a) = s.given by omega]
  · show s.summed ≤ s.given + 1; omega
  · show s.lane ++ [s.given] = List.range' s.summed (s.given + 1 - s.summed)
    rw [show s.given + 1 - s.summed = (s.given - s.summed) + 1 by omega, List.range'_concat, hla, show s.summed + 1 * (s.given - s.summed) = s.given by omega]
  · show (s.jobs ++ [s.given]).length ≤ p.Rm; have := h.jr; rw [List.length_append, List.length_singleton]; omega
  · show (s.lane ++ [s.given]).length ≤ p.Rm; have := h.lr; rw [List.length_append, List.length_singleton]; omega
  · show s.wrote ≤ s.given + 1; omega
  · show s.given + 1 - s.wrote ≤ p.Wd; omega
  · exact perm_give.nodup_iff.2 (List.nodup_cons.2 ⟨hnot, h.place⟩)
  · intro k hk
    show s.wrote ≤ k ∧ k < s.given + 1
    rcases List.mem_cons.1 (perm_give.mem_iff.1 hk) with rfl | hk
    · omega
    · have := h.ahead k hk; omega
  · intro _ k h1 h2
    refine perm_give.mem_iff.2 (List.mem_cons.2 ?_)
    have h2' : k < s.given + 1 := h2
    by_cases e : k = s.given
    · exact Or.inl e
    · exact Or.inr (h.all hs k h1 (by omega))
theorem LInv.sum {p : Lpar} {s : Lst} (h : LInv p s) (h0 : s.e1 = false) (hl : s.lane = [] → s.e0 = true) : LInv p (s.act p .sum) := by
  have no : ∀ {q : Prop}, s.e1 = true → q := fun hh => by rw [h0] at hh; cases hh
  cases e : s.lane with
  | nil =>
    rw [show s.act p .sum = { s with e1 := true } by simp only [Lst.act, e]]
    exact ⟨h.w1, h.r1, h.d1, h.given, h.jobs, h.lane, h.jr, h.lr, h.rr, h.e0, fun _ => ⟨hl e, e⟩, h.ew, fun h1 => no (h.e2 h1).2.2.1, h.sorted, h.wrote, h.far, h.stop, h.fail, h.win, h.place, h.ahead, h.all, h.hd0, h.hd1, h.hd2, h.hds, h.wf, h.ff, h.fc, h.h0⟩
  | cons k r =>
    rw [show s.act p .sum = { s with lane := r, summed := s.summed + 1 } by simp only [Lst.act, e]]
    have h1 := h.lane
    rw [e] at h1
    have h2 : 0 < s.given - s.summed := by
      apply Nat.pos_of_ne_zero
      intro hz
      rw [hz] at h1
      cases h1.2
    have h3 := h.lr
    rw [e, List.length_cons] at h3
    have h4 : r = List.range' (s.summed + 1) (s.given - (s.summed + 1)) := by
      have := h1.2
      rw [show s.given - s.summed = (s.given - (s.summed + 1)) + 1 by omega, List.range'_succ] at this
      exact (List.cons.inj this).2
    exact ⟨h.w1, h.r1, h.d1, h.given, h.jobs, ⟨by show s.summed + 1 ≤ s.given; omega, h4⟩, h.jr, by show r.length ≤ p.Rm; omega, h.rr, h.e0, fun h1 => no h1, h.ew, fun h1 => no (h.e2 h1).2.2.1, h.sorted, h.wrote, h.far, h.stop, h.fail, h.win, h.place, h.ahead, h.all, h.hd0, h.hd1, h.hd2, h.hds, h.wf, h.ff, h.fc, h.h0⟩
theorem put_sub {p : Lpar} {s : Lst} : ∀ k, k ∈ s.halt.put p → k ∈ s.put p := fun k hk => by
  have e : s.halt.put p = s.jobs ++ s.heldL p ++ s.ready ++ [] := rfl
  rw [e, List.append_nil] at hk
  exact List.mem_append_left _ hk
theorem put_subl {p : Lpar} {s : Lst} : (s.halt.put p).Sublist (s.put p) := by
  have e : s.halt.put p = s.jobs ++ s.heldL p ++ s.ready ++ [] := rfl
  rw [e]
  exact List.Sublist.append (List.Sublist.refl _) (List.nil_sublist _)
theorem LInv.begin {p : Lpar} {s : Lst} (h : LInv p s) (h2 : s.e2 = false) (hb : s.begun = false) : LInv p (s.act p .begin) := by
  have no : ∀ {q : Prop}, s.e2 = true → q := fun hh => by rw [h2] at hh; cases hh
  have hd0 := h.hd0 hb
  cases hs : s.stopped with
  | true =>
    rw [show s.act p .begin = { s with begun := true } by simp [Lst.act, Lst.head, hs]]
    exact ⟨h.w1, h.r1, h.d1, h.given, h.jobs, h.lane, h.jr, h.lr, h.rr, h.e0, h.e1, h.ew, fun h1 => no h1, h.sorted, h.wrote, h.far, h.stop, h.fail, h.win, h.place, h.ahead, h.all, fun h1 => (by cases h1), fun _ h1 => (by rw [show ({ s with begun := true } : Lst).stopped = s.stopped from rfl, hs] at h1; cases h1), h.hd2, h.hds, h.wf, h.ff, h.fc, h.h0⟩
  | false =>
    have hf : s.failed = false := by
      cases hf : s.failed with
      | false => rfl
      | true => have := h.fail hf; rw [hs] at this; cases this
    have hwf := h.wf hs
    by_cases hx : ((s.writes + 1 : Nat) : Int) = p.fail
    · rw [show s.act p .begin = ({ s with begun := true, stopped := true, shelf := [], writes := s.writes + 1, failed := true } : Lst) by simp only [Lst.act, Lst.head, Lst.tries, Lst.halt, hs, hf, decide_eq_true hx]; rfl]
      exact ⟨h.w1, h.r1, h.d1, h.given, h.jobs, h.lane, h.jr, h.lr, h.rr, fun _ => Or.inl rfl, h.e1, h.ew, fun h1 => no h1, List.Pairwise.nil, h.wrote, h.far, fun _ => rfl, fun _ => rfl, h.win, h.place.sublist put_subl, fun k hk => h.ahead k (put_sub k hk), fun h1 => (by cases h1), fun h1 => (by cases h1), fun _ h1 => (by cases h1), fun h1 => no h1, fun _ => by show s.hd ≤ 1; omega, fun h1 => (by cases h1), fun _ => ⟨hx, Or.inl ⟨by show s.writes + 1 = 1; omega, hd0.2.2⟩⟩, fun _ h1 => (by cases h1), fun _ => hd0.2.2⟩
    · rw [show s.act p .begin = ({ s with begun := true, writes := s.writes + 1, failed := false, hd := 1 } : Lst) by simp only [Lst.act, Lst.head, Lst.tries, hs, hf, decide_eq_false hx]; rfl]
      exact ⟨h.w1, h.r1, h.d1, h.given, h.jobs, h.lane, h.jr, h.lr, h.rr, h.e0, h.e1, h.ew, fun h1 => no h1, h.sorted, h.wrote, h.far, h.stop, fun h1 => (by cases h1), h.win, h.place, h.ahead, h.all, fun h1 => (by cases h1), fun _ _ _ => ⟨rfl, by show s.writes + 1 = s.wrote + 1; omega⟩, fun h1 => no h1, fun _ => Nat.le_refl _, fun _ => by show p.fail < 1 ∨ ((s.writes + 1 : Nat) : Int) < p.fail; omega, fun h1 => (by cases h1), fun h1 => (by rw [show ({ s with begun := true, writes := s.writes + 1, failed := false, hd := 1 } : Lst).stopped = s.stopped from rfl, hs] at h1; cases h1), fun h1 => (by cases h1)⟩
theorem LInv.write {p : Lpar} {s : Lst} (h : LInv p s) (h2 : s.e2 = false) (hb : s.begun = true) (hh : s.shelf.head? = some s.wrote) : LInv p (s.act p .write) := by
  have no : ∀ {q : Prop}, s.e2 = true → q := fun hh => by rw [h2] at hh; cases hh
  cases e : s.shelf with
  | nil => rw [e] at hh; cases hh
  | cons k r =>
    rw [e] at hh
    cases hh
    have hs : s.stopped = false := by
      cases hs : s.stopped with
      | false => rfl
      | true => have := h.stop hs; rw [e] at this; cases this
    have hf : s.failed = false := by
      cases hf : s.failed with
      | false => rfl
      | true => have := h.fail hf; rw [hs] at this; cases this
    have hwf := h.wf hs
    have hd1 := h.hd1 hb hs h2
    have hmem : s.wrote ∈ s.put p := by unfold Lst.put; rw [e]; exact List.mem_append_right _ (List.mem_cons_self ..)
    have hlt := (h.ahead _ hmem).2
    by_cases hx : ((s.writes + 1 : Nat) : Int) = p.fail
    · rw [show s.act p .write = ({ s with stopped := true, shelf := [], writes := s.writes + 1, failed := true } : Lst) by simp only [Lst.act, Lst.frame, Lst.tries, Lst.halt, hf, decide_eq_true hx]; rfl]
      exact ⟨h.w1, h.r1, h.d1, h.given, h.jobs, h.lane, h.jr, h.lr, h.rr, fun _ => Or.inl rfl, h.e1, h.ew, fun h1 => no h1, List.Pairwise.nil, h.wrote, h.far, fun _ => rfl, fun _ => rfl, h.win, h.place.sublist put_subl, fun k hk => h.ahead k (put_sub k hk), fun h1 => (by cases h1), fun h1 => (by rw [show ({ s with stopped := true, shelf := [], writes := s.writes + 1, failed := true } : Lst).begun = s.begun from rfl, hb] at h1; cases h1), fun _ h1 => (by cases h1), fun h1 => no h1, fun _ => by show s.hd ≤ 1; omega, fun h1 => (by cases h1), fun _ => ⟨hx, Or.inr (by show s.writes + 1 = s.wrote + 2; omega)⟩, fun _ h1 => (by cases h1), fun h1 => (by have : s.hd = 0 := h1; omega)⟩
    · rw [show s.act p .write = ({ s with shelf := r, writes := s.writes + 1, failed := false, wrote := s.wrote + 1 } : Lst) by simp only [Lst.act, Lst.frame, Lst.tries, hf, decide_eq_false hx, e]; rfl]
      have hp : (s.wrote :: ({ s with shelf := r, writes := s.writes + 1, failed := false, wrote := s.wrote + 1 } : Lst).put p).Perm (s.put p) := by
        show (s.wrote :: (s.jobs ++ s.heldL p ++ s.ready ++ r)).Perm (s.jobs ++ s.heldL p ++ s.ready ++ s.shelf)
        rw [e]
        exact List.perm_middle.symm
      have hnd := List.nodup_cons.1 (hp.nodup_iff.2 h.place)
      have hst := List.pairwise_cons.1 (e ▸ h.sorted)
      refine ⟨h.w1, h.r1, h.d1, h.given, h.jobs, h.lane, h.jr, h.lr, h.rr, h.e0, h.e1, h.ew, fun h1 => no h1, hst.2, hlt, h.far, fun h1 => (by rw [show ({ s with shelf := r, writes := s.writes + 1, failed := false, wrote := s.wrote + 1 } : Lst).stopped = s.stopped from rfl, hs] at h1; cases h1), fun h1 => (by cases h1), ?_, hnd.2, fun k hk => ?_, fun _ k h1 h3 => ?_, fun h1 => (by rw [show ({ s with shelf := r, writes := s.writes + 1, failed := false, wrote := s.wrote + 1 } : Lst).begun = s.begun from rfl, hb] at h1; cases h1), fun _ _ _ => ⟨hd1.1, by show s.writes + 1 = s.wrote + 1 + 1; omega⟩, fun h1 => no h1, fun _ => by show s.hd ≤ 1; omega, fun _ => by show p.fail < 1 ∨ ((s.writes + 1 : Nat) : Int) < p.fail; omega, fun h1 => (by cases h1), fun h1 => (by rw [show ({ s with shelf := r, writes := s.writes + 1, failed := false, wrote := s.wrote + 1 } : Lst).stopped = s.stopped from rfl, hs] at h1; cases h1), fun h1 => (by have : s.hd = 0 := h1; omega)⟩
      · show s.given - (s.wrote + 1) ≤ p.Wd
        have := h.win
        omega
      · have h3 := h.ahead k (hp.mem_iff.1 (List.mem_cons_of_mem _ hk))
        have h4 : k ≠ s.wrote := fun hh => hnd.1 (hh ▸ hk)
        show s.wrote + 1 ≤ k ∧ k < s.given
        omega
      · have h1' : s.wrote + 1 ≤ k := h1
        rcases List.mem_cons.1 (hp.mem_iff.2 (h.all hs k (by omega) h3)) with h4 | h4
        · omega
        · exact h4
theorem shut_all {p : Lpar} {s : Lst} (h : s.shut p = true) : ∀ j, j < p.W → s.ew j = true := fun j hj => by
  unfold Lst.shut at h
  rw [List.all_eq_true] at h
  exact h j (List.mem_range.2 hj)
theorem fm_none {f : Nat → Option Nat} {W : Nat} (h : ∀ j, j < W → f j = none) : (List.range W).filterMap f = [] := by
  rw [List.filterMap_eq_nil_iff]
  exact fun j hj => h j (List.mem_range.1 hj)
/-- Where the workers have ended, and ready is empty: nothing is under way but on the shelf. -/
theorem LInv.last {p : Lpar} {s : Lst} (h : LInv p s) (hsh : s.shut p = true) (hr : s.ready = []) (hh : s.shelf.head? ≠ some s.wrote) : s.shelf = [] ∧ (s.stopped = false → s.wrote = p.N) := by
  have hw := shut_all hsh
  have h1 := h.w1
  have hj : s.jobs = [] := (h.ew 0 (by omega) (hw 0 (by omega))).2.1
  have he0 := (h.ew 0 (by omega) (hw 0 (by omega))).1
  have hp : s.put p = s.shelf := by
    unfold Lst.put Lst.heldL
    rw [hj, hr, fm_none fun j hj => (h.ew j hj (hw j hj)).2.2]
    simp
  cases hs : s.stopped with
  | true => exact ⟨h.stop hs, fun hh => (by cases hh)⟩
  | false =>
    have hg : s.given = p.N := by rcases h.e0 he0 with h3 | h3; rw [hs] at h3; cases h3; exact h3
    have hsf : s.shelf = [] := by
      cases e : s.shelf with
      | nil => rfl
      | cons k r =>
        have hk := h.ahead k (by rw [hp, e]; exact List.mem_cons_self ..)
        have hm := h.all hs s.wrote (Nat.le_refl _) (by omega)
        rw [hp, e] at hm
        rcases List.mem_cons.1 hm with h4 | h4
        · rw [e, ← h4] at hh
          exact absurd rfl hh
        · have := (List.pairwise_cons.1 (e ▸ h.sorted)).1 _ h4
          omega
    refine ⟨hsf, fun _ => ?_⟩
    by_cases e : s.wrote = p.N
    · exact e
    · have := h.wrote
      have hm := h.all hs s.wrote (Nat.le_refl _) (by omega)
      rw [hp, hsf] at hm
      cases hm
theorem LInv.shelve {p : Lpar} {s : Lst} (h : LInv p s) (h2 : s.e2 = false) (hb : s.begun = true) (hh : s.shelf.head? ≠ some s.wrote) (hr : s.ready = [] → s.shut p = true ∧ s.e1 = true) : LInv p (s.act p .shelve) := by
  have no : ∀ {q : Prop}, s.e2 = true → q := fun hh => by rw [h2] at hh; cases hh
  cases e : s.ready with
  | nil =>
    obtain ⟨hsh, he1⟩ := hr e
    obtain ⟨hsf, hN⟩ := h.last hsh e hh
    cases hs : s.stopped with
    | true =>
      rw [show s.act p .shelve = { s with e2 := true } by simp [Lst.act, Lst.head, hs, e]]
      exact ⟨h.w1, h.r1, h.d1, h.given, h.jobs, h.lane, h.jr, h.lr, h.rr, h.e0, h.e1, h.ew, fun _ => ⟨hsh, e, he1, hb, hsf⟩, h.sorted, h.wrote, h.far, h.stop, h.fail, h.win, h.place, h.ahead, h.all, h.hd0, fun _ _ h1 => (by cases h1), fun _ h1 => (by rw [show ({ s with e2 := true } : Lst).stopped = s.stopped from rfl, hs] at h1; cases h1), h.hds, h.wf, h.ff, h.fc, h.h0⟩
    | false =>
      have hf : s.failed = false := by
        cases hf : s.failed with
        | false => rfl
        | true => have := h.fail hf; rw [hs] at this; cases this
      have hwf := h.wf hs
      have hd1 := h.hd1 hb hs h2
      have hN' := hN hs
      by_cases hx : ((s.writes + 1 : Nat) : Int) = p.fail
      · rw [show s.act p .shelve = ({ s with e2 := true, stopped := true, shelf := [], writes := s.writes + 1, failed := true } : Lst) by simp only [Lst.act, Lst.head, Lst.tries, Lst.halt, hs, hf, e, decide_eq_true hx]; rfl]
        exact ⟨h.w1, h.r1, h.d1, h.given, h.jobs, h.lane, h.jr, h.lr, h.rr, fun _ => Or.inl rfl, h.e1, h.ew, fun h1 => ⟨hsh, e, he1, hb, rfl⟩, List.Pairwise.nil, h.wrote, h.far, fun _ => rfl, fun _ => rfl, h.win, h.place.sublist put_subl, fun k hk => h.ahead k (put_sub k hk), fun h1 => (by cases h1), fun h1 => (by rw [show ({ s with e2 := true, stopped := true, shelf := [], writes := s.writes + 1, failed := true } : Lst).begun = s.begun from rfl, hb] at h1; cases h1), fun _ h1 => (by cases h1), fun _ h1 => (by cases h1), fun _ => by show s.hd ≤ 1; omega, fun h1 => (by cases h1), fun _ => ⟨hx, Or.inr (by show s.writes + 1 = s.wrote + 2; omega)⟩, fun _ h1 => (by cases h1), fun h1 => (by have : s.hd = 0 := h1; omega)⟩
      · rw [show s.act p .shelve = ({ s with e2 := true, writes := s.writes + 1, failed := false, hd := 2 } : Lst) by simp only [Lst.act, Lst.head, Lst.tries, hs, hf, e, decide_eq_false hx]; rfl]
        exact ⟨h.w1, h.r1, h.d1, h.given, h.jobs, h.lane, h.jr, h.lr, h.rr, h.e0, h.e1, h.ew, fun h1 => ⟨hsh, e, he1, hb, hsf⟩, h.sorted, h.wrote, h.far, h.stop, fun h1 => (by cases h1), h.win, h.place, h.ahead, h.all, fun h1 => (by rw [show ({ s with e2 := true, writes := s.writes + 1, failed := false, hd := 2 } : Lst).begun = s.begun from rfl, hb] at h1; cases h1), fun _ _ h1 => (by cases h1), fun _ _ => ⟨rfl, hN', by show s.writes + 1 = p.N + 2; omega⟩, fun h1 => (by rw [show ({ s with e2 := true, writes := s.writes + 1, failed := false, hd := 2 } : Lst).stopped = s.stopped from rfl, hs] at h1; cases h1), fun _ => by show p.fail < 1 ∨ ((s.writes + 1 : Nat) : Int) < p.fail; omega, fun h1 => (by cases h1), fun h1 => (by rw [show ({ s with e2 := true, writes := s.writes + 1, failed := false, hd := 2 } : Lst).stopped = s.stopped from rfl, hs] at h1; cases h1), fun h1 => (by cases h1)⟩
  | cons k r =>
    have hrr := h.rr
    rw [e, List.length_cons] at hrr
    cases hs : s.stopped with
    | true =>
      rw [show s.act p .shelve = { s with ready := r } by simp [Lst.act, hs, e]]
      have hsub : (({ s with ready := r } : Lst).put p).Sublist (s.put p) := by
        show (s.jobs ++ s.heldL p ++ r ++ s.shelf).Sublist (s.jobs ++ s.heldL p ++ s.ready ++ s.shelf)
        rw [e]
        exact ((List.Sublist.refl _).append (List.sublist_cons_self k r)).append (List.Sublist.refl _)
      exact ⟨h.w1, h.r1, h.d1, h.given, h.jobs, h.lane, h.jr, h.lr, by show r.length ≤ p.Rm; omega, h.e0, h.e1, h.ew, fun h1 => no h1, h.sorted, h.wrote, h.far, h.stop, h.fail, h.win, h.place.sublist hsub, fun k hk => h.ahead k (hsub.subset hk), fun h1 => (by rw [show ({ s with ready := r } : Lst).stopped = s.stopped from rfl, hs] at h1; cases h1), h.hd0, h.hd1, h.hd2, h.hds, h.wf, h.ff, h.fc, h.h0⟩
    | false =>
      rw [show s.act p .shelve = { s with ready := r, shelf := insL k s.shelf } by simp [Lst.act, hs, e]]
      have hp : (({ s with ready := r, shelf := insL k s.shelf } : Lst).put p).Perm (s.put p) := by
        show (s.jobs ++ s.heldL p ++ r ++ insL k s.shelf).Perm (s.jobs ++ s.heldL p ++ s.ready ++ s.shelf)
        rw [e]
        simp only [List.append_assoc]
        refine List.Perm.append_left _ (List.Perm.append_left _ ?_)
        exact ((insL_perm k s.shelf).append_left r).trans List.perm_middle
      have hk : k ∉ s.shelf := by
        have h3 := h.place
        unfold Lst.put at h3
        rw [e] at h3
        intro h4
        exact (List.nodup_append.1 h3).2.2 k (List.mem_append_right _ (List.mem_cons_self ..)) k h4 rfl
      exact ⟨h.w1, h.r1, h.d1, h.given, h.jobs, h.lane, h.jr, h.lr, by show r.length ≤ p.Rm; omega, h.e0, h.e1, h.ew, fun h1 => no h1, insL_sorted k _ h.sorted hk, h.wrote, h.far, fun h1 => (by rw [show ({ s with ready := r, shelf := insL k s.shelf } : Lst).stopped = s.stopped from rfl, hs] at h1; cases h1), h.fail, h.win, hp.nodup_iff.2 h.place, fun k hk => h.ahead k (hp.mem_iff.1 hk), fun h1 k h3 h4 => hp.mem_iff.2 (h.all h1 k h3 h4), h.hd0, h.hd1, h.hd2, h.hds, h.wf, h.ff, h.fc, h.h0⟩
theorem shut_not {p : Lpar} {s : Lst} (h : LInv p s) {j : Nat} (hj : j < p.W) (hew : s.ew j = false) : s.e2 = true → False := fun h1 => by
  have := shut_all (h.e2 h1).1 j hj
  rw [hew] at this
  cases this
theorem LInv.takeW {p : Lpar} {s : Lst} (h : LInv p s) {j : Nat} (hj : j < p.W) (hew : s.ew j = false) (hh : s.held j = none) (he : s.jobs = [] → s.e0 = true) : LInv p (s.act p (.takeW j)) := by
  have no : ∀ {q : Prop}, s.e2 = true → q := fun h1 => (shut_not h hj hew h1).elim
  cases e : s.jobs with
  | nil =>
    rw [show s.act p (.takeW j) = { s with ew := updL s.ew j true } by simp [Lst.act, e]]
    refine ⟨h.w1, h.r1, h.d1, h.given, h.jobs, h.lane, h.jr, h.lr, h.rr, h.e0, h.e1, fun i hi h1 => ?_, fun h1 => no h1, h.sorted, h.wrote, fun i hi => ⟨(h.far i hi).1, ?_⟩, h.stop, h.fail, h.win, h.place, h.ahead, h.all, h.hd0, h.hd1, h.hd2, h.hds, h.wf, h.ff, h.fc, h.h0⟩
    · by_cases e1 : i = j
      · exact ⟨he e, e, e1 ▸ hh⟩
      · exact h.ew i hi (by simpa [updL, e1] using h1)
    · show updL s.ew j true i = false
      simp only [updL]
      rw [if_neg (by omega)]
      exact (h.far i hi).2
  | cons k r =>
    rw [show s.act p (.takeW j) = { s with jobs := r, held := updL s.held j (some k) } by simp [Lst.act, e]]
    obtain ⟨a, ha, hja⟩ := h.jobs
    rw [e] at hja
    have h2 : 0 < s.given - a := by
      apply Nat.pos_of_ne_zero
      intro hz
      rw [hz] at hja
      cases hja
    rw [show s.given - a = (s.given - (a + 1)) + 1 by omega, List.range'_succ] at hja
    have hjr := h.jr
    rw [e, List.length_cons] at hjr
    have hp : (({ s with jobs := r, held := updL s.held j (some k) } : Lst).put p).Perm (s.put p) := by
      show (r ++ (List.range p.W).filterMap (updL s.held j (some k)) ++ s.ready ++ s.shelf).Perm (s.jobs ++ (List.range p.W).filterMap s.held ++ s.ready ++ s.shelf)
      rw [e]
      refine List.Perm.append_right _ (List.Perm.append_right _ ?_)
      exact ((filterMap_upd s.held j k hh p.W hj).append_left r).trans List.perm_middle
    refine ⟨h.w1, h.r1, h.d1, h.given, ⟨a + 1, by show a + 1 ≤ s.given; omega, (List.cons.inj hja).2⟩, h.lane, by show r.length ≤ p.Rm; omega, h.lr, h.rr, h.e0, h.e1, fun i hi h1 => ?_, fun h1 => no h1, h.sorted, h.wrote, fun i hi => ⟨?_, (h.far i hi).2⟩, h.stop, h.fail, h.win, hp.nodup_iff.2 h.place, fun k hk => h.ahead k (hp.mem_iff.1 hk), fun h1 k h3 h4 => hp.mem_iff.2 (h.all h1 k h3 h4), h.hd0, h.hd1, h.hd2, h.hds, h.wf, h.ff, h.fc, h.h0⟩
    · have := (h.ew i hi h1).2.1
      rw [e] at this
      cases this
    · show updL s.held j (some k) i = none
      simp only [updL]
      rw [if_neg (by omega)]
      exact (h.far i hi).1
theorem LInv.letGo {p : Lpar} {s : Lst} (h : LInv p s) {j k : Nat} (hj : j < p.W) (hew : s.ew j = false) (hh : s.held j = some k) (hs : s.stopped = true) : LInv p (s.act p (.letGo j)) := by
  have no : ∀ {q : Prop}, s.e2 = true → q := fun h1 => (shut_not h hj hew h1).elim
  have hp : (k :: ((s.act p (.letGo j)).put p)).Perm (s.put p) := by
    show (k :: (s.jobs ++ (List.range p.W).filterMap (updL s.held j none) ++ s.ready ++ s.shelf)).Perm (s.jobs ++ (List.range p.W).filterMap s.held ++ s.ready ++ s.shelf)
    simp only [List.append_assoc]
    refine List.perm_middle.symm.trans (List.Perm.append_left _ ?_)
    rw [← List.cons_append]
    exact (filterMap_out s.held j k hh p.W hj).append_right _
  refine ⟨h.w1, h.r1, h.d1, h.given, h.jobs, h.lane, h.jr, h.lr, h.rr, h.e0, h.e1, fun i hi h1 => ⟨(h.ew i hi h1).1, (h.ew i hi h1).2.1, ?_⟩, fun h1 => no h1, h.sorted, h.wrote, fun i hi => ⟨?_, (h.far i hi).2⟩, h.stop, h.fail, h.win, (List.nodup_cons.1 (hp.nodup_iff.2 h.place)).2, fun k hk => h.ahead k (hp.mem_iff.1 (List.mem_cons_of_mem _ hk)), fun h1 => (by rw [show (s.act p (.letGo j)).stopped = s.stopped from rfl, hs] at h1; cases h1), h.hd0, h.hd1, h.hd2, h.hds, h.wf, h.ff, h.fc, h.h0⟩
  · show updL s.held j none i = none
    simp only [updL]
    split
    · rfl
    · exact (h.ew i hi h1).2.2
  · show updL s.held j none i = none
    simp only [updL]
    rw [if_neg (by omega)]
    exact (h.far i hi).1
theorem LInv.hand {p : Lpar} {s : Lst} (h : LInv p s) {j k : Nat} (hj : j < p.W) (hew : s.ew j = false) (hh : s.held j = some k) (hr : s.ready.length ≠ p.Rm) : LInv p (s.act p (.hand j)) := by
  have no : ∀ {q : Prop}, s.e2 = true → q := fun h1 => (shut_not h hj hew h1).elim
  rw [show s.act p (.hand j) = { s with held := updL s.held j none, ready := s.ready ++ [k] } by simp [Lst.act, hh]]
  have hp : (({ s with held := updL s.held j none, ready := s.ready ++ [k] } : Lst).put p).Perm (s.put p) := by
    show (s.jobs ++ (List.range p.W).filterMap (updL s.held j none) ++ (s.ready ++ [k]) ++ s.shelf).Perm (s.jobs ++ (List.range p.W).filterMap s.held ++ s.ready ++ s.shelf)
    refine List.Perm.append_right _ ?_
    simp only [List.append_assoc]
    refine List.Perm.append_left _ ?_
    have h1 : ((List.range p.W).filterMap (updL s.held j none) ++ (s.ready ++ [k])).Perm (k :: ((List.range p.W).filterMap (updL s.held j none) ++ s.ready)) := by
      rw [← List.append_assoc]
      exact List.perm_append_comm (l₂ := [k])
    refine h1.trans ?_
    rw [← List.cons_append]
    exact (filterMap_out s.held j k hh p.W hj).append_right _
  have hrr := h.rr
  refine ⟨h.w1, h.r1, h.d1, h.given, h.jobs, h.lane, h.jr, h.lr, by show (s.ready ++ [k]).length ≤ p.Rm; rw [List.length_append, List.length_singleton]; omega, h.e0, h.e1, fun i hi h1 => ⟨(h.ew i hi h1).1, (h.ew i hi h1).2.1, ?_⟩, fun h1 => no h1, h.sorted, h.wrote, fun i hi => ⟨?_, (h.far i hi).2⟩, h.stop, h.fail, h.win, hp.nodup_iff.2 h.place, fun k hk => h.ahead k (hp.mem_iff.1 hk), fun h1 k h3 h4 => hp.mem_iff.2 (h.all h1 k h3 h4), h.hd0, h.hd1, h.hd2, h.hds, h.wf, h.ff, h.fc, h.h0⟩
  · show updL s.held j none i = none
    simp only [updL]
    split
    · rfl
    · exact (h.ew i hi h1).2.2
  · show updL s.held j none i = none
    simp only [updL]
    rw [if_neg (by omega)]
    exact (h.far i hi).1
/-- A step keeps what holds at all times. -/
theorem LInv.step {p : Lpar} {s : Lst} (h : LInv p s) {t : Nat} {c : LAct} (ht : t < 3 + p.W) (hn : s.next p t = some c) : LInv p (s.act p c) := by
  match t, hn with
  | 0, hn =>
    obtain ⟨h0, ⟨rfl, h1⟩ | ⟨rfl, h1, h2, h3, h4, h5⟩⟩ := next0 hn
    · exact h.end0 h1
    · exact h.give h0 h1 h2 h3 h4 h5
  | 1, hn =>
    obtain ⟨h0, rfl, h1⟩ := next1 hn
    exact h.sum h0 h1
  | 2, hn =>
    obtain ⟨h0, ⟨rfl, h1⟩ | ⟨h1, ⟨rfl, h2⟩ | ⟨rfl, h2, h3⟩⟩⟩ := next2 hn
    · exact h.begin h0 h1
    · exact h.write h0 h1 h2
    · exact h.shelve h0 h1 h2 h3
  | j + 3, hn =>
    have hj : j < p.W := by omega
    obtain ⟨h0, ⟨rfl, h1, h2⟩ | ⟨k, h1, ⟨rfl, h2⟩ | ⟨rfl, h2, h3⟩⟩⟩ := next3 hn
    · exact h.takeW hj h0 h1 h2
    · exact h.letGo hj h0 h1 h2
    · exact h.hand hj h0 h1 h3
theorem LInv.init {p : Lpar} (h1 : 1 ≤ p.W) (h2 : 1 ≤ p.Rm) (h3 : 1 ≤ p.Wd) : LInv p Lst.init := by
  have hz : Lst.init.put p = [] := by
    show [] ++ (List.range p.W).filterMap (fun _ => none) ++ [] ++ [] = ([] : List Nat)
    rw [fm_none fun _ _ => rfl]
    rfl
  have no : ∀ {q : Prop}, (false = true) → q := fun h => by cases h
  exact ⟨h1, h2, h3, Nat.zero_le _, ⟨0, Nat.le_refl _, rfl⟩, ⟨Nat.le_refl _, rfl⟩, Nat.zero_le _, Nat.zero_le _, Nat.zero_le _, no, no, fun _ _ => no, no, List.Pairwise.nil, Nat.le_refl _, fun _ _ => ⟨rfl, rfl⟩, no, no, Nat.zero_le _, by rw [hz]; exact List.nodup_nil, fun k hk => (by rw [hz] at hk; cases hk), fun _ k _ hk => absurd hk (Nat.not_lt_zero k), fun _ => ⟨rfl, rfl, rfl⟩, no, no, no, fun _ => by show p.fail < 1 ∨ ((0 : Nat) : Int) < p.fail; omega, no, no, fun _ => rfl⟩
/-- Where the line is not over, a task is able. -/
theorem LInv.alive {p : Lpar} {s : Lst} (h : LInv p s) (h2 : s.e2 = false) : ∃ t c, t < 3 + p.W ∧ s.next p t = some c := by
  have hw := h.w1; have hr1 := h.r1; have hd1 := h.d1
  apply Classical.byContradiction
  intro hno
  have hn : ∀ t, t < 3 + p.W → s.next p t = none := fun t ht => by
    cases e : s.next p t with
    | none => rfl
    | some c => exact absurd ⟨t, c, ht, e⟩ hno
  have n0 := hn 0 (by omega)
  have n1 := hn 1 (by omega)
  have n2 := hn 2 (by omega)
  have n3 := fun j (hj : j < p.W) => hn (j + 3) (by omega)
  simp only [Lst.next, h2] at n2
  cases hb : s.begun with
  | false => simp [hb] at n2
  | true =>
    by_cases hs : s.shelf.head? = some s.wrote
    · simp [hb, hs] at n2
    simp [hb, hs] at n2
    have hr : s.ready = [] := n2.1
    have n3' : ∀ j, j < p.W → s.ew j = true ∨ (s.held j = none ∧ s.jobs = [] ∧ s.e0 = false) := fun j hj => by
      have := n3 j hj
      simp only [Lst.next] at this
      cases hew : s.ew j with
      | true => exact Or.inl rfl
      | false =>
        cases hh : s.held j with
        | none =>
          simp [hew, hh] at this
          exact Or.inr ⟨rfl, this⟩
        | some k =>
          simp [hew, hh, hr] at this
          cases hst : s.stopped <;> simp [hst] at this
          omega
    cases he0 : s.e0 with
    | true =>
      have h1 : s.e1 = true := by
        simp only [Lst.next] at n1
        cases h1 : s.e1 with
        | true => rfl
        | false => simp [h1, he0] at n1
      have hsh : s.shut p = true := by
        unfold Lst.shut
        rw [List.all_eq_true]
        intro j hj
        rcases n3' j (List.mem_range.1 hj) with h3 | h3
        · exact h3
        · rw [he0] at h3; cases h3.2.2
      have := n2.2
      rw [hsh, h1] at this
      simp at this
    | false =>
      have no : ∀ {q : Prop}, s.e0 = true → q := fun hh => by rw [he0] at hh; cases hh
      have hh : ∀ j, j < p.W → s.held j = none ∧ s.jobs = [] := fun j hj => by
        rcases n3' j hj with h3 | h3
        · exact no (h.ew j hj h3).1
        · exact ⟨h3.1, h3.2.1⟩
      have hj := (hh 0 (by omega)).2
      have hl : s.lane = [] := by
        simp only [Lst.next] at n1
        cases h1 : s.e1 with
        | true => exact no (h.e1 h1).1
        | false =>
          simp [h1, he0] at n1
          exact n1
      simp only [Lst.next, he0] at n0
      cases hst : s.stopped with
      | true => simp [hst] at n0
      | false =>
        by_cases hg : s.given = p.N
        · simp [hg] at n0
        simp [hst, hg, hj, hl] at n0
        have hlt : s.wrote < s.given := by
          omega
        have hp : s.put p = s.shelf := by
          unfold Lst.put Lst.heldL
          rw [hj, hr, fm_none fun j hj => (hh j hj).1]
          simp
        have hm := h.all hst s.wrote (Nat.le_refl _) hlt
        rw [hp] at hm
        cases e : s.shelf with
        | nil => rw [e] at hm; cases hm
        | cons k r =>
          have hk := h.ahead k (by rw [hp, e]; exact List.mem_cons_self ..)
          rw [e] at hm
          rcases List.mem_cons.1 hm with h4 | h4
          · rw [e, ← h4] at hs
            exact absurd rfl hs
          · have := (List.pairwise_cons.1 (e ▸ h.sorted)).1 _ h4
            omega
def b2n (b : Bool) : Nat := if b then 0 else 1
def Lst.opened (p : Lpar) (s : Lst) : Nat := (List.range p.W).countP fun j => !s.ew j
/-- How many steps are left, at most. -/
def Lst.rem (p : Lpar) (s : Lst) : Nat := 6 * (p.N - s.given) + s.lane.length + 4 * s.jobs.length + 3 * (s.heldL p).length + 2 * s.ready.length + s.shelf.length + b2n s.e0 + b2n s.e1 + b2n s.e2 + b2n s.begun + s.opened p
theorem countP_upd (ew : Nat → Bool) (j : Nat) (hn : ew j = false) : ∀ W, j < W → (List.range W).countP (fun i => !(updL ew j true i)) + 1 = (List.range W).countP fun i => !ew i
  | 0, h => absurd h (Nat.not_lt_zero _)
  | W + 1, h => by
    rw [List.range_succ, List.countP_append, List.countP_append]
    by_cases e : j = W
    · subst e
      have h1 : (List.range j).countP (fun i => !(updL ew j true i)) = (List.range j).countP fun i => !ew i := by
        apply List.countP_congr
        intro i hi
        have := List.mem_range.1 hi
        simp only [updL]
        rw [if_neg (by omega)]
      rw [h1]
      simp [updL, hn]
    · have := countP_upd ew j hn W (by omega)
      have h2 : [W].countP (fun i => !(updL ew j true i)) = [W].countP fun i => !ew i := by
        simp [List.countP_cons, updL, show ¬ W = j by omega]
      rw [h2]
      omega
theorem heldL_in {p : Lpar} {s : Lst} {j k : Nat} (hj : j < p.W) (hh : s.held j = none) : ((List.range p.W).filterMap (updL s.held j (some k))).length = (s.heldL p).length + 1 := (filterMap_upd s.held j k hh p.W hj).length_eq
theorem heldL_out {p : Lpar} {s : Lst} {j k : Nat} (hj : j < p.W) (hh : s.held j = some k) : ((List.range p.W).filterMap (updL s.held j none)).length + 1 = (s.heldL p).length := (filterMap_out s.held j k hh p.W hj).length_eq
theorem b2n_t : b2n true = 0 := rfl
theorem b2n_f : b2n false = 1 := rfl
theorem rem_step {p : Lpar} {s : Lst} (h : LInv p s) {t : Nat} {c : LAct} (ht : t < 3 + p.W) (hn : s.next p t = some c) :
    (s.act p c).rem p + 1 ≤ s.rem p ∧ ((s.act p c).stopped = false → (s.act p c).rem p + 1 = s.rem p) := by
  have hg := h.given
  match t, hn with
  | 0, hn =>
    obtain ⟨h0, ⟨rfl, h1⟩ | ⟨rfl, h1, h2, h3, h4, h5⟩⟩ := next0 hn
    · have e : (s.act p .end0).rem p + 1 = s.rem p := by
        simp only [Lst.act, Lst.rem, Lst.heldL, Lst.opened, h0, b2n_t, b2n_f]
        try simp only [List.length_nil]
        omega
      exact ⟨by omega, fun _ => e⟩
    · have e : (s.act p .give).rem p + 1 = s.rem p := by
        simp only [Lst.act, Lst.rem, Lst.heldL, Lst.opened, List.length_append, List.length_singleton]
        omega
      exact ⟨by omega, fun _ => e⟩
  | 1, hn =>
    obtain ⟨h0, rfl, h1⟩ := next1 hn
    have e : (s.act p .sum).rem p + 1 = s.rem p := by
      cases e : s.lane with
      | nil =>
        simp only [Lst.act, Lst.rem, Lst.heldL, Lst.opened, e, h0, b2n_t, b2n_f]
        try simp only [List.length_nil]
        omega
      | cons k r =>
        simp only [Lst.act, Lst.rem, Lst.heldL, Lst.opened, e, List.length_cons]
        omega
    exact ⟨by omega, fun _ => e⟩
  | 2, hn =>
    obtain ⟨h0, ⟨rfl, h1⟩ | ⟨h1, ⟨rfl, h2⟩ | ⟨rfl, h2, h3⟩⟩⟩ := next2 hn
    · cases hs : s.stopped with
      | true =>
        have e : (s.act p .begin).rem p + 1 = s.rem p := by
          rw [show s.act p .begin = { s with begun := true } by simp [Lst.act, Lst.head, hs]]
          simp only [Lst.rem, Lst.heldL, Lst.opened, h1, b2n_t, b2n_f]
          try simp only [List.length_nil]
          omega
        exact ⟨by omega, fun _ => e⟩
      | false =>
        by_cases hx : (s.failed || decide (((s.writes + 1 : Nat) : Int) = p.fail)) = true
        · have e : s.act p .begin = ({ s with begun := true, stopped := true, shelf := [], writes := s.writes + 1, failed := true } : Lst) := by simp only [Lst.act, Lst.head, Lst.tries, Lst.halt, hs, hx]; rfl
          rw [e]
          refine ⟨?_, fun hh => (by cases hh)⟩
          simp only [Lst.rem, Lst.heldL, Lst.opened, h1, b2n_t, b2n_f]
          try simp only [List.length_nil]
          omega
        · have hx' : (s.failed || decide (((s.writes + 1 : Nat) : Int) = p.fail)) = false := by simpa using hx
          have e : (s.act p .begin).rem p + 1 = s.rem p := by
            rw [show s.act p .begin = ({ s with begun := true, writes := s.writes + 1, failed := false, hd := 1 } : Lst) by simp only [Lst.act, Lst.head, Lst.tries, hs, hx']; rfl]
            simp only [Lst.rem, Lst.heldL, Lst.opened, h1, b2n_t, b2n_f]
            try simp only [List.length_nil]
            omega
          exact ⟨by omega, fun _ => e⟩
    · cases e : s.shelf with
      | nil => rw [e] at h2; cases h2
      | cons k r =>
        by_cases hx : (s.failed || decide (((s.writes + 1 : Nat) : Int) = p.fail)) = true
        · have e1 : s.act p .write = ({ s with stopped := true, shelf := [], writes := s.writes + 1, failed := true } : Lst) := by simp only [Lst.act, Lst.frame, Lst.tries, Lst.halt, hx]; rfl
          rw [e1]
          refine ⟨?_, fun hh => (by cases hh)⟩
          simp only [Lst.rem, Lst.heldL, Lst.opened, e, List.length_cons, List.length_nil]
          omega
        · have hx' : (s.failed || decide (((s.writes + 1 : Nat) : Int) = p.fail)) = false := by simpa using hx
          have e1 : (s.act p .write).rem p + 1 = s.rem p := by
            rw [show s.act p .write = ({ s with shelf := r, writes := s.writes + 1, failed := false, wrote := s.wrote + 1 } : Lst) by simp only [Lst.act, Lst.frame, Lst.tries, hx', e]; rfl]
            simp only [Lst.rem, Lst.heldL, Lst.opened, e, List.length_cons]
            omega
          exact ⟨by omega, fun _ => e1⟩
    · cases e : s.ready with
      | nil =>
        cases hs : s.stopped with
        | true =>
          have e : (s.act p .shelve).rem p + 1 = s.rem p := by
            rw [show s.act p .shelve = { s with e2 := true } by simp [Lst.act, Lst.head, hs, e]]
            simp only [Lst.rem, Lst.heldL, Lst.opened, h0, b2n_t, b2n_f]
            try simp only [List.length_nil]
            omega
          exact ⟨by omega, fun _ => e⟩
        | false =>
          by_cases hx : (s.failed || decide (((s.writes + 1 : Nat) : Int) = p.fail)) = true
          · have e : s.act p .shelve = ({ s with e2 := true, stopped := true, shelf := [], writes := s.writes + 1, failed := true } : Lst) := by simp only [Lst.act, Lst.head, Lst.tries, Lst.halt, hs, hx, e]; rfl
            rw [e]
            refine ⟨?_, fun hh => (by cases hh)⟩
            simp only [Lst.rem, Lst.heldL, Lst.opened, h0, b2n_t, b2n_f]
            try simp only [List.length_nil]
            omega
          · have hx' : (s.failed || decide (((s.writes + 1 : Nat) : Int) = p.fail)) = false := by simpa using hx
            have e : (s.act p .shelve).rem p + 1 = s.rem p := by
              rw [show s.act p .shelve = ({ s with e2 := true, writes := s.writes + 1, failed := false, hd := 2 } : Lst) by simp only [Lst.act, Lst.head, Lst.tries, hs, hx', e]; rfl]
              simp only [Lst.rem, Lst.heldL, Lst.opened, h0, b2n_t, b2n_f]
              try simp only [List.length_nil]
              omega
            exact ⟨by omega, fun _ => e⟩
      | cons k r =>
        cases hs : s.stopped with
        | true =>
          rw [show s.act p .shelve = { s with ready := r } by simp [Lst.act, hs, e]]
          refine ⟨?_, fun hh => (by rw [show ({ s with ready := r } : Lst).stopped = s.stopped from rfl, hs] at hh; cases hh)⟩
          simp only [Lst.rem, Lst.heldL, Lst.opened, e, List.length_cons]
          omega
        | false =>
          have e1 : (s.act p .shelve).rem p + 1 = s.rem p := by
            rw [show s.act p .shelve = { s with ready := r, shelf := insL k s.shelf } by simp [Lst.act, hs, e]]
            simp only [Lst.rem, Lst.heldL, Lst.opened, e, List.length_cons, (insL_perm k s.shelf).length_eq]
            omega
          exact ⟨by omega, fun _ => e1⟩
  | j + 3, hn =>
    have hj : j < p.W := by omega
    obtain ⟨h0, ⟨rfl, h1, h2⟩ | ⟨k, h1, ⟨rfl, h2⟩ | ⟨rfl, h2, h3⟩⟩⟩ := next3 hn
    · have e1 : (s.act p (.takeW j)).rem p + 1 = s.rem p := by
        cases e : s.jobs with
        | nil =>
          rw [show s.act p (.takeW j) = { s with ew := updL s.ew j true } by simp [Lst.act, e]]
          have := countP_upd s.ew j h0 p.W hj
          simp only [Lst.rem, Lst.heldL, Lst.opened]
          omega
        | cons k r =>
          rw [show s.act p (.takeW j) = { s with jobs := r, held := updL s.held j (some k) } by simp [Lst.act, e]]
          have := heldL_in (k := k) hj h1
          simp only [Lst.rem, Lst.opened, e, List.length_cons]
          rw [show ({ s with jobs := r, held := updL s.held j (some k) } : Lst).heldL p = (List.range p.W).filterMap (updL s.held j (some k)) from rfl, this]
          omega
      exact ⟨by omega, fun _ => e1⟩
    · have := heldL_out hj h1
      refine ⟨?_, fun hh => (by rw [show (s.act p (.letGo j)).stopped = s.stopped from rfl, h2] at hh; cases hh)⟩
      simp only [Lst.act, Lst.rem, Lst.opened]
      rw [show ({ s with held := updL s.held j none } : Lst).heldL p = (List.range p.W).filterMap (updL s.held j none) from rfl]
      omega
    · have := heldL_out hj h1
      have e1 : (s.act p (.hand j)).rem p + 1 = s.rem p := by
        rw [show s.act p (.hand j) = { s with held := updL s.held j none, ready := s.ready ++ [k] } by simp [Lst.act, h1]]
        simp only [Lst.rem, Lst.opened, List.length_append, List.length_singleton]
        rw [show ({ s with held := updL s.held j none, ready := s.ready ++ [k] } : Lst).heldL p = (List.range p.W).filterMap (updL s.held j none) from rfl]
        omega
      exact ⟨by omega, fun _ => e1⟩
theorem rem_init (p : Lpar) : Lst.init.rem p = 6 * p.N + p.W + 4 := by
  have h1 : Lst.init.heldL p = [] := fm_none fun _ _ => rfl
  have h2 : Lst.init.opened p = p.W := by
    show (List.range p.W).countP (fun _ => true) = p.W
    simp [List.countP_true]
  simp only [Lst.rem, h1, h2]
  simp [Lst.init, b2n]
  omega
/-- Where it is over, and was not stopped, nothing is left. -/
theorem LInv.rem0 {p : Lpar} {s : Lst} (h : LInv p s) (hs : s.stopped = false) : s.rem p = 0 ↔ s.e2 = true := by
  constructor
  · intro hr
    unfold Lst.rem at hr
    cases h2 : s.e2 with
    | true => rfl
    | false => rw [h2] at hr; simp [b2n] at hr
  · intro h2
    obtain ⟨a1, a2, a3, a4, a5⟩ := h.e2 h2
    obtain ⟨b1, b2⟩ := h.e1 a3
    have hw := shut_all a1
    have h1 := h.w1
    have hj : s.jobs = [] := (h.ew 0 (by omega) (hw 0 (by omega))).2.1
    have hg : s.given = p.N := by rcases h.e0 b1 with h3 | h3; rw [hs] at h3; cases h3; exact h3
    have hh : s.heldL p = [] := fm_none fun j hj => (h.ew j hj (hw j hj)).2.2
    have ho : s.opened p = 0 := by
      unfold Lst.opened
      rw [List.countP_eq_zero]
      intro j hj
      rw [hw j (List.mem_range.1 hj)]
      simp
    unfold Lst.rem
    rw [hg, b2, hj, hh, a2, a5, b1, a3, h2, a4, ho]
    simp [b2n]
/-- Who has ended, where the writer has. -/
theorem LInv.over {p : Lpar} {s : Lst} (h : LInv p s) : s.ended p = List.range (3 + p.W) ↔ s.e2 = true := by
  unfold Lst.ended
  rw [List.filter_eq_self]
  constructor
  · intro h1
    exact h1 2 (List.mem_range.2 (by omega))
  · intro h2 t ht
    obtain ⟨a1, a2, a3, a4, a5⟩ := h.e2 h2
    obtain ⟨b1, b2⟩ := h.e1 a3
    match t, ht with
    | 0, _ => exact b1
    | 1, _ => exact a3
    | 2, _ => exact h2
    | j + 3, ht => exact shut_all a1 j (by have := List.mem_range.1 ht; omega)
theorem LInv.put_len {p : Lpar} {s : Lst} (h : LInv p s) (hs : s.stopped = false) : s.jobs.length + (s.heldL p).length + s.ready.length + s.shelf.length = s.given - s.wrote := by
  have h1 : (s.put p).Perm (List.range' s.wrote (s.given - s.wrote)) := by
    rw [List.perm_ext_iff_of_nodup h.place (List.nodup_range' 1)]
    intro k
    rw [List.mem_range'_1]
    constructor
    · intro hk
      have := h.ahead k hk
      omega
    · intro hk
      exact h.all hs k hk.1 (by omega)
  have h2 := h1.length_eq
  rw [List.length_range'] at h2
  unfold Lst.put at h2
  simp only [List.length_append] at h2
  exact h2
theorem LInv.lane_len {p : Lpar} {s : Lst} (h : LInv p s) : s.lane.length = s.given - s.summed := by rw [h.lane.2, List.length_range']
/-- A line whose writes do not fail is never stopped by a step. -/
theorem act_runs {p : Lpar} {s : Lst} (h : LInv p s) (hf : p.fail < 1) (hs : s.stopped = false) (c : LAct) : (s.act p c).stopped = false := by
  have hx : s.failed = false := by
    cases hf : s.failed with
    | false => rfl
    | true => have := h.fail hf; rw [hs] at this; cases this
  have hd : decide (((s.writes + 1 : Nat) : Int) = p.fail) = false := decide_eq_false (by omega)
  cases c using LAct.on with
  | end0 _ => exact hs
  | give _ => exact hs
  | sum _ => simp only [Lst.act]; split <;> exact hs
  | begin _ => simp only [Lst.act, Lst.head, Lst.tries, hs, hx, hd]; rfl
  | write _ => simp only [Lst.act, Lst.frame, Lst.tries, hx, hd]; exact hs
  | shelve _ =>
    simp only [Lst.act]
    split
    · simp only [Lst.head, Lst.tries, hs, hx, hd]; rfl
    · simp only [hs]; rfl
  | takeW j => simp only [Lst.act]; split <;> exact hs
  | letGo j => exact hs
  | hand _ j => simp only [Lst.act]; split <;> exact hs
/-- Nothing is taken back. -/
theorem act_grows {p : Lpar} {s : Lst} (c : LAct) : s.given ≤ (s.act p c).given ∧ s.summed ≤ (s.act p c).summed ∧ s.wrote ≤ (s.act p c).wrote ∧ s.writes ≤ (s.act p c).writes ∧ (∀ t, s.endedT t = true → (s.act p c).endedT t = true) := by
  have hid : s.given ≤ s.given ∧ s.summed ≤ s.summed ∧ s.wrote ≤ s.wrote ∧ s.writes ≤ s.writes := ⟨Nat.le_refl _, Nat.le_refl _, Nat.le_refl _, Nat.le_refl _⟩
  have hh : ∀ (u : Lst) (q : Nat), u.given ≤ (u.head p q).given ∧ u.summed ≤ (u.head p q).summed ∧ u.wrote ≤ (u.head p q).wrote ∧ u.writes ≤ (u.head p q).writes ∧ (∀ t, u.endedT t = true → (u.head p q).endedT t = true) := by
    intro u q
    unfold Lst.head
    split
    · exact ⟨Nat.le_refl _, Nat.le_refl _, Nat.le_refl _, Nat.le_refl _, fun _ h => h⟩
    · split
      · exact ⟨Nat.le_refl _, Nat.le_refl _, Nat.le_refl _, Nat.le_succ _, fun t h => by match t, h with | 0, h => exact h | 1, h => exact h | 2, h => exact h | j + 3, h => exact h⟩
      · exact ⟨Nat.le_refl _, Nat.le_refl _, Nat.le_refl _, Nat.le_succ _, fun t h => by match t, h with | 0, h => exact h | 1, h => exact h | 2, h => exact h | j + 3, h => exact h⟩
  cases c using LAct.on with
  | end0 _ => exact ⟨hid.1, hid.2.1, hid.2.2.1, hid.2.2.2, fun t h => by match t, h with | 0, h => exact rfl | 1, h => exact h | 2, h => exact h | j + 3, h => exact h⟩
  | give _ => exact ⟨Nat.le_succ _, hid.2.1, hid.2.2.1, hid.2.2.2, fun t h => by match t, h with | 0, h => exact h | 1, h => exact h | 2, h => exact h | j + 3, h => exact h⟩
  | sum _ =>
    simp only [Lst.act]
    split
    · exact ⟨hid.1, hid.2.1, hid.2.2.1, hid.2.2.2, fun t h => by match t, h with | 0, h => exact h | 1, h => exact rfl | 2, h => exact h | j + 3, h => exact h⟩
    · exact ⟨hid.1, Nat.le_succ _, hid.2.2.1, hid.2.2.2, fun t h => by match t, h with | 0, h => exact h | 1, h => exact h | 2, h => exact h | j + 3, h => exact h⟩
  | begin _ =>
    have h := hh { s with begun := true } 1
    exact ⟨h.1, h.2.1, h.2.2.1, h.2.2.2.1, fun t ht => h.2.2.2.2 t (by match t, ht with | 0, h => exact h | 1, h => exact h | 2, h => exact h | j + 3, h => exact h)⟩
  | write _ =>
    simp only [Lst.act, Lst.frame]
    split
    · exact ⟨Nat.le_refl _, Nat.le_refl _, Nat.le_refl _, Nat.le_succ _, fun t h => by match t, h with | 0, h => exact h | 1, h => exact h | 2, h => exact h | j + 3, h => exact h⟩
    · exact ⟨Nat.le_refl _, Nat.le_refl _, Nat.le_succ _, Nat.le_succ _, fun t h => by match t, h with | 0, h => exact h | 1, h => exact h | 2, h => exact h | j + 3, h => exact h⟩
  | shelve _ =>
    simp only [Lst.act]
    split
    · have h := hh { s with e2 := true } 2
      exact ⟨h.1, h.2.1, h.2.2.1, h.2.2.2.1, fun t ht => h.2.2.2.2 t (by match t, ht with | 0, h => exact h | 1, h => exact h | 2, h => exact rfl | j + 3, h => exact h)⟩
    · split
      · exact ⟨hid.1, hid.2.1, hid.2.2.1, hid.2.2.2, fun t h => by match t, h with | 0, h => exact h | 1, h => exact h | 2, h => exact h | j + 3, h => exact h⟩
      · exact ⟨hid.1, hid.2.1, hid.2.2.1, hid.2.2.2, fun t h => by match t, h with | 0, h => exact h | 1, h => exact h | 2, h => exact h | j + 3, h => exact h⟩
  | takeW j =>
    simp only [Lst.act]
    split
    · refine ⟨hid.1, hid.2.1, hid.2.2.1, hid.2.2.2, fun t h => ?_⟩
      match t, h with
      | 0, h => exact h
      | 1, h => exact h
      | 2, h => exact h
      | i + 3, h =>
        show updL s.ew j true i = true
        simp only [updL]
        split
        · rfl
        · exact h
    · exact ⟨hid.1, hid.2.1, hid.2.2.1, hid.2.2.2, fun t h => by match t, h with | 0, h => exact h | 1, h => exact h | 2, h => exact h | j + 3, h => exact h⟩
  | letGo j => exact ⟨hid.1, hid.2.1, hid.2.2.1, hid.2.2.2, fun t h => by match t, h with | 0, h => exact h | 1, h => exact h | 2, h => exact h | j + 3, h => exact h⟩
  | hand _ j =>
    simp only [Lst.act]
    split
    · exact ⟨hid.1, hid.2.1, hid.2.2.1, hid.2.2.2, fun t h => h⟩
    · exact ⟨hid.1, hid.2.1, hid.2.2.1, hid.2.2.2, fun t h => by match t, h with | 0, h => exact h | 1, h => exact h | 2, h => exact h | j + 3, h => exact h⟩
theorem ended_grows {p : Lpar} {s : Lst} (c : LAct) : (s.ended p).length ≤ ((s.act p c).ended p).length := by
  unfold Lst.ended
  rw [← List.countP_eq_length_filter, ← List.countP_eq_length_filter]
  exact List.countP_mono_left fun t _ h => (act_grows c).2.2.2.2 t h
end Go.Proofs.YtlncjgnomhpjnabGreatDoor

/-
  What the steps do: a block is given out.
-/
namespace Go.Proofs.YtlncjgnomhpjnabGreatDoor
open Go.RowKit Go.Deep
set_option linter.unusedVariables false
/-- A line whose next block's lists lie in a certain row. -/
def Lad.reg (a : Lad) (k g : Nat) : Lad := { a with gb := updL a.gb k g }
theorem blV_reg {a : Lad} {x : Lsn} {k g : Nat} {l : List Nat} (h : ∀ i, i ∈ l → i < k) : l.map (blV (a.reg k g) x) = l.map (blV a x) := by
  apply List.map_congr_left
  intro i hi
  have := h i hi
  simp only [blV, Lad.reg, updL, if_neg (show ¬ i = k by omega)]
theorem LInv.lt_jobs {p : Lpar} {s : Lst} (hi : LInv p s) : ∀ i, i ∈ s.jobs → i < s.given := fun i h => (hi.ahead i (by unfold Lst.put; simp only [List.mem_append]; exact Or.inl (Or.inl (Or.inl h)))).2
theorem LInv.lt_lane {p : Lpar} {s : Lst} (hi : LInv p s) : ∀ i, i ∈ s.lane → i < s.given := fun i h => by
  rw [hi.lane.2, List.mem_range'_1] at h
  have := hi.lane.1
  omega
theorem LInv.lt_held {p : Lpar} {s : Lst} (hi : LInv p s) : ∀ j k, j < p.W → s.held j = some k → k < s.given := fun j k hj hk => (hi.ahead k (by
  unfold Lst.put Lst.heldL
  simp only [List.mem_append]
  exact Or.inl (Or.inl (Or.inr (List.mem_filterMap.2 ⟨j, List.mem_range.2 hj, hk⟩))))).2
theorem LineIs.reg {p : Lpar} {a : Lad} {x : Lsn} {F : Nat → Prop} {s : Lst} {w : World} (h : LineIs p a x F s w) (hi : LInv p s) (g : Nat) : LineIs p (a.reg s.given g) x F s w := by
  obtain ⟨hv, k1, k2⟩ := h.wrk
  refine ⟨h.kp, h.NB, h.W8, h.d16, h.R8, h.cells, h.spl, h.sum, ⟨hv, k1, fun j k hj hk => ?_⟩, ?_, ?_, h.ready, h.tasks, h.works, fun k hk => ?_, h.lists, h.ints, h.caps, h.low, h.lowF, h.own, h.lt, h.ne, h.b1, h.kl, h.ka⟩
  · have h1 := hi.lt_held j k hj hk
    have e : (a.reg s.given g).gb k = a.gb k := by simp only [Lad.reg, updL, if_neg (show ¬ k = s.given by omega)]
    rw [e]
    exact k2 j k hj hk
  · rw [blV_reg hi.lt_jobs]
    exact h.jobs
  · rw [blV_reg hi.lt_lane]
    exact h.lane
  · have e : (a.reg s.given g).gb k = a.gb k := by simp only [Lad.reg, updL, if_neg (show ¬ k = s.given by omega)]
    rw [e]
    exact h.blocks k hk
theorem LineIs.editG {p : Lpar} {a : Lad} {x : Lsn} {F F' : Nat → Prop} {s s' : Lst} {w w' : World} {S : Nat → Prop} (h : LineIs p a x F s w) (he : Edit S w w') (hF : ∀ k, F k → F' k) (hlt : ∀ k, F' k → k < w'.heap.size) (hS : ∀ k, S k → ¬ Firm a w k)
    (hc : CellsOk p a x F' s' w') (hspl : Bx w' a.sp 165 #[ptrV a.lb, .bool s'.e0, .slice (some ⟨a.lg, 0, none⟩) x.ch a.lc, .int .i64 s'.given])
    (hsum : Bx w' a.su 167 #[ptrV a.lb, .bool s'.e1, .int .i64 s'.summed, .int .i64 (smN x s'.summed)]) (hwk : WorkOk p a x F' s' w')
    (hj : QIs w' a.qj a.cj 247 p.Rm (s'.jobs.map (blV a x)).toArray s'.e0) (hl : QIs w' a.ql a.cl 247 p.Rm (s'.lane.map (blV a x)).toArray s'.e0)
    (hr : QIs w' a.qr a.cr 250 p.Rm (s'.ready.map (pkV x)).toArray (s'.shut p))
    (hg : ∀ k, k < s'.given → k < s.given ∨ (F' (a.gb k) ∧ w'.rowIs (a.gb k) 30 x.ch (blkV a.A a.C (k * x.B) (blkN x.S x.B k) x.ch))) : LineIs p a x F' s' w' := by
  have hkd := h.kinds
  have nS : ∀ k, Firm a w k → ¬ S k := fun k hf hs => hS k hs hf
  obtain ⟨o1, o2, o3, o4, o5, o6, o7, o8, o9, o10, o11, o12, o13⟩ := h.own
  refine ⟨h.kp, h.NB, h.W8, h.d16, h.R8, hc, hspl, hsum, hwk, hj, hl, hr, own_at h.tasks fun g hg => ?_, own_at h.works fun g hg => ?_, fun k hk => ?_, fun i hi => ?_, fun i hi j hj => ?_, h.caps, h.low, ⟨hF _ h.lowF.1, fun i hi y hy h0 => hF _ (h.lowF.2 i hi y hy h0)⟩,
    ⟨hF _ o1, hF _ o2, hF _ o3, hF _ o4, hF _ o5, hF _ o6, hF _ o7, hF _ o8, hF _ o9, hF _ o10, hF _ o11, hF _ o12, fun j hj => hF _ (o13 j hj)⟩, hlt, h.ne, Nat.le_trans h.b1 he.size, ?_, fun i hi y hy h0 => ?_⟩
  · cases hg
    exact he.block _ (h.lt _ o11) (nS _ (Or.inl hkd.tb))
  · cases hg
    exact he.block _ (h.lt _ o12) (nS _ (Or.inr (Or.inl hkd.wb)))
  · rcases hg k hk with hk | hk
    · exact ⟨hF _ (h.blocks k hk).1, rowIs_at (h.blocks k hk).2 (he.block _ (h.lt _ (h.blocks k hk).1) (nS _ (Or.inr (Or.inr (Or.inl (hkd.gb k hk))))))⟩
    · exact hk
  · obtain ⟨y, hy, hcc⟩ := h.lists i hi
    cases hy
    exact ⟨_, rfl, (cell_at (by cases i <;> exact he.block _ (h.lt _ h.lowF.1) (nS _ (Or.inr (Or.inr (Or.inl h.kl)))))).trans hcc⟩
  · obtain ⟨y, hy, hcc⟩ := h.ints i hi j hj
    have h0 : 0 < x.S := by omega
    have hf : Firm a w y.block := Or.inr (Or.inr (Or.inr ⟨h.ka i hi y hy h0, h.low.2 i hi y hy h0⟩))
    exact ⟨y, hy, (cell_at (by cases j <;> exact he.block _ (h.lt _ (h.lowF.2 i hi y hy h0)) (nS _ hf))).trans hcc⟩
  · exact (kn_of (he.block _ (h.lt _ h.lowF.1) (nS _ (Or.inr (Or.inr (Or.inl h.kl)))))).trans h.kl
  · have hf : Firm a w y.block := Or.inr (Or.inr (Or.inr ⟨h.ka i hi y hy h0, h.low.2 i hi y hy h0⟩))
    exact (kn_of (he.block _ (h.lt _ (h.lowF.2 i hi y hy h0)) (nS _ hf))).trans (h.ka i hi y hy h0)
/-- A block was put into jobs and lane; the splitter counts it. -/
theorem spGave {p : Lpar} {a : Lad} {x : Lsn} {F : Nat → Prop} {s : Lst} {w u u1 u2 : World} (h : LineIs p a x F s w) (hi : LInv p s) {g : Nat} (e0 : Edit (fun _ => False) w u) (hrow : u.rowIs g 30 x.ch (blkV a.A a.C (s.given * x.B) (blkN x.S x.B s.given) x.ch)) (hgw : w.heap.size ≤ g)
    (q1 : QIs u1 a.qj a.cj 247 p.Rm ((s.jobs.map (blV a x)).toArray.push (.agg #[.int .i64 s.given, .slice (some ⟨g, 0, none⟩) x.ch x.ch])) s.e0) (e1 : Edit (· = a.cj) u u1)
    (q2 : QIs u2 a.ql a.cl 247 p.Rm ((s.lane.map (blV a x)).toArray.push (.agg #[.int .i64 s.given, .slice (some ⟨g, 0, none⟩) x.ch x.ch])) s.e0) (e2 : Edit (· = a.cl) u1 u2) :
    Bx u2 a.sp 165 #[ptrV a.lb, .bool s.e0, .slice (some ⟨a.lg, 0, none⟩) x.ch a.lc, .int .i64 s.given] ∧
    ∃ F', Own F F' w ∧ LineIs p (a.reg s.given g) x F' (s.act p .give) (u2.setCell ⟨a.sp, 3, none⟩ (.int .i64 ((s.given + 1 : Nat) : Int))) ∧ Edit F w (u2.setCell ⟨a.sp, 3, none⟩ (.int .i64 ((s.given + 1 : Nat) : Int))) := by
  have hkd := h.kinds
  have kd1 := hkd.lb; have kd2 := hkd.sp; have kd3 := hkd.su; have kd4 := hkd.wr; have kd5 := hkd.qj; have kd6 := hkd.ql; have kd7 := hkd.qr; have kd8 := hkd.cj; have kd9 := hkd.cl; have kd10 := hkd.cr
  obtain ⟨n1, n2, n3, n4, n5⟩ := h.ne
  have e3 : Edit (fun k => k = a.cj ∨ k = a.cl) w u2 := ((e0.mono fun _ h => h.elim).trans (e1.mono (by grind))).trans (e2.mono (by grind))
  have hsp := h.spl.edit e3 (by grind)
  have e5 := Edit.one u2 a.sp 3 (.int .i64 ((s.given + 1 : Nat) : Int))
  have e4 : Edit (fun k => k = a.cj ∨ k = a.cl ∨ k = a.sp) w (u2.setCell ⟨a.sp, 3, none⟩ (.int .i64 ((s.given + 1 : Nat) : Int))) := (e3.mono (by grind)).trans (e5.mono (by grind))
  have hgl : g < u.heap.size := by obtain ⟨c, h1, -⟩ := hrow; exact (Array.getElem?_eq_some_iff.1 h1).1
  have hne : g ≠ a.cj ∧ g ≠ a.cl ∧ g ≠ a.sp := by
    have o1 := h.lt _ h.own.2.1
    have o2 := h.lt _ h.own.2.2.2.2.2.2.2.1
    have o3 := h.lt _ h.own.2.2.2.2.2.2.2.2.1
    omega
  have hgb : (a.reg s.given g).gb s.given = g := by simp [Lad.reg, updL]
  have hnew : blV (a.reg s.given g) x s.given = .agg #[.int .i64 s.given, .slice (some ⟨g, 0, none⟩) x.ch x.ch] := by simp only [blV, hgb]
  have hj' : (s.jobs.map (blV a x)).toArray.push (.agg #[.int .i64 s.given, .slice (some ⟨g, 0, none⟩) x.ch x.ch]) = ((s.jobs ++ [s.given]).map (blV (a.reg s.given g) x)).toArray := by
    rw [List.map_append, blV_reg hi.lt_jobs, List.map_singleton, hnew]
    simp
  have hl' : (s.lane.map (blV a x)).toArray.push (.agg #[.int .i64 s.given, .slice (some ⟨g, 0, none⟩) x.ch x.ch]) = ((s.lane ++ [s.given]).map (blV (a.reg s.given g) x)).toArray := by
    rw [List.map_append, blV_reg hi.lt_lane, List.map_singleton, hnew]
    simp
  rw [hj'] at q1
  rw [hl'] at q2
  have hR := h.reg hi g
  refine ⟨hsp, fun q => F q ∨ q = g, ⟨fun _ hh => Or.inl hh, fun q hh => by rcases hh with hh | rfl; exact Or.inl hh; exact Or.inr hgw⟩, ?_, e4.mono fun q hq => ?_⟩
  · refine hR.editG (s' := s.act p .give) e4 (fun _ hh => Or.inl hh) ?_ (by unfold Firm; grind) (hR.cellsOk (F' := fun q => F q ∨ q = g) e4 (fun _ hh => Or.inl hh) (by show ¬ _; grind [Lad.reg]) (by show ¬ _; grind [Lad.reg]) (by grind [Lad.reg])) (hsp.set 3 _) (hR.sum.edit e4 (by show ¬ _; grind [Lad.reg])) (hR.workOk (F' := fun q => F q ∨ q = g) e4 (fun _ hh => Or.inl hh) (by grind [Lad.reg]))
      ((q1.edit e2 (by show ¬ _; grind) (by show ¬ _; grind)).edit e5 (by show ¬ _; grind) (by show ¬ _; grind)) (q2.edit e5 (by show ¬ _; grind) (by show ¬ _; grind)) (hR.ready.edit e4 (by show ¬ _; grind [Lad.reg]) (by show ¬ _; grind [Lad.reg])) fun k hk => ?_
    · rintro q (hq | rfl)
      · exact Nat.lt_of_lt_of_le (h.lt q hq) e4.size
      · exact Nat.lt_of_lt_of_le hgl (Nat.le_trans (Nat.le_trans e1.size e2.size) e5.size)
    · by_cases e : k = s.given
      · subst e
        refine Or.inr ⟨Or.inr hgb, ?_⟩
        rw [hgb]
        have e6 : Edit (fun k => k = a.cj ∨ k = a.cl ∨ k = a.sp) u (u2.setCell ⟨a.sp, 3, none⟩ (.int .i64 ((s.given + 1 : Nat) : Int))) := ((e1.mono (by grind)).trans (e2.mono (by grind))).trans (e5.mono (by grind))
        exact rowIs_at hrow (e6.block g hgl (by grind))
      · have hk' : k < s.given + 1 := hk
        exact Or.inl (by omega)
  · rcases hq with rfl | rfl | rfl
    · exact h.own.2.2.2.2.2.2.2.1
    · exact h.own.2.2.2.2.2.2.2.2.1
    · exact h.own.2.1
end Go.Proofs.YtlncjgnomhpjnabGreatDoor

