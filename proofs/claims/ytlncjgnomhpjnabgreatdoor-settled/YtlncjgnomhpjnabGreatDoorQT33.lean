import Derived.Test.YtlncjgnomhpjnabGreatDoorQT32
/-
  What the steps do: a block is given out (the walk).
-/
namespace Go.Proofs.YtlncjgnomhpjnabGreatDoor
open Go.RowKit Go.Deep
set_option linter.unusedVariables false
theorem stepStore {P : Program} {w : World} {ops : Array Oper} {o : Oper} {a : Act} {K : Act → World → Prop} {Q : Exit → Act → World → Prop} {E : Prop} (hgd : o.guard = none) (p v : Operand) (t : TypeId) (ho : o.op = .store t p v)
    (g : Nat) (tt : TypeId) (old cells : Array Value) (hp : a.eval p = .pointer (some ⟨g, 0, none⟩)) (hv : a.eval v = .agg cells) (hg : w.heap[g]? = some (.cells old tt (0, 0))) (hi : (P.info? t).map (·.size) = some cells.size)
    (hs : old.size = cells.size) (h1 : cells.toList.all (·.oneCell') = true) (h : K (a.put o.dst undef) (w.setRow g cells)) : if Region.wanted o (yielded ops a.tmps) = true then Oper.wp P o a w K Q else E := by
  have hw : Region.wanted o (yielded ops a.tmps) = true := by simp [Region.wanted, hgd]
  rw [if_pos hw]
  have hr := run_storeVar_row (P := P) w g tt t old cells hg hi hs (by rw [← Array.all_toList]; exact h1)
  unfold Oper.wp execOp
  have e : (Instr.storeAt t (.pointer (some ⟨g, 0, none⟩)) (.agg cells)).run P w = .ok () (w.setRow g cells) := by simpa [Instr.storeAt, Instr.sureAddr, asAddr] using hr
  simp only [ho, hp, hv, Sem.run_bind, e, Result.andThen, Sem.run_pure]
  rw [Oper.upon_skip]
  exact h
set_option linter.unusedSimpArgs false in
set_option maxHeartbeats 4000000 in
set_option maxRecDepth 100000 in
theorem spGive_any {p : Lpar} {a : Lad} {x : Lsn} {F : Nat → Prop} {s : Lst} {w : World} (h : LineIs p a x F s w) (hi : LInv p s) (he0 : s.e0 = false) (hN : s.given < nBlk x.S x.B) (hjr : s.jobs.length < p.Rm) (hlr : s.lane.length < p.Rm) :
    Calls Tryz.prog 380 #[ptrV a.sp] w fun e w' => e = .returned (.tuple #[]) ∧ ∃ g F', Own F F' w ∧ LineIs p (a.reg s.given g) x F' (s.act p .give) w' ∧ Edit F w w' := by
  obtain ⟨sv, fv, lv, hl, hw, -⟩ := h.cells
  have hnb := h.kp.nb
  have hkd := h.kinds
  have kd1 := hkd.lb; have kd2 := hkd.sp; have kd5 := hkd.qj; have kd6 := hkd.ql; have kd8 := hkd.cj; have kd9 := hkd.cl
  obtain ⟨n1, n2, n3, n4, n5⟩ := h.ne
  have HS : Hid (∀ u, Edit (fun _ => False) w u → u.cell? ⟨a.sp, 0, none⟩ = some (.pointer (some ⟨a.lb, 0, none⟩)) ∧ u.cell? ⟨a.sp, 2, none⟩ = some (.slice (some ⟨a.lg, 0, none⟩) x.ch a.lc) ∧ u.cell? ⟨a.sp, 3, none⟩ = some (.int .i64 s.given) ∧ u.cell? ⟨a.lb, 2, none⟩ = some (.int .i64 x.B)) := fun u he =>
    ⟨(h.spl.edit he id).cell 0, (h.spl.edit he id).cell 2, (h.spl.edit he id).cell 3, (hl.edit he id).cell 2⟩
  have HBL : Hid (∀ u, Edit (fun _ => False) w u → ∀ G, u.heap.size = G → Calls Tryz.prog 64 #[.slice (some ⟨a.lg, 0, none⟩) x.ch a.lc, .int .i64 x.B, .int .i64 s.given] u fun e w' =>
      e = .returned (.slice (some ⟨G, 0, none⟩) x.ch x.ch) ∧ w'.rowIs G 30 x.ch (blkV a.A a.C (s.given * x.B) (blkN x.S x.B s.given) x.ch) ∧ Below G u w') := fun u he G hG => by
    subst hG
    have hk := h.keep (fun k hk => he.block k (h.lt k hk) id) he.size
    have hb1 := hk.b1
    exact block_any (some ⟨a.lg, 0, none⟩) x.ch a.lc a.A x.S a.C x.G x.B s.given u hk.kp.n1 hk.kp.n4 hk.kp.B1 hk.kp.B32 hk.kp.S3 hN hk.lists hk.caps hk.ints ⟨fun y hy h0 => Nat.lt_of_lt_of_le (hk.low.1 y hy h0) hb1, fun i hi y hy h0 => Nat.lt_of_lt_of_le (hk.low.2 i hi y hy h0) hb1⟩
  have hqj := h.jobs
  have hql := h.lane
  rw [he0] at hqj hql
  have HP1 : Hid (∀ u g, Edit (fun _ => False) w u → Calls Tryz.prog 381 #[.pointer (some ⟨a.qj, 0, none⟩), .agg #[.int .i64 s.given, .slice (some ⟨g, 0, none⟩) x.ch x.ch]] u fun e w' => e = .returned (.tuple #[]) ∧ QIs w' a.qj a.cj 247 p.Rm ((s.jobs.map (blV a x)).toArray.push (.agg #[.int .i64 s.given, .slice (some ⟨g, 0, none⟩) x.ch x.ch])) false ∧ Edit (· = a.cj) u w') :=
    fun u g he => put_block a.qj a.cj p.Rm (s.jobs.map (blV a x)).toArray (.int .i64 s.given) (.slice (some ⟨g, 0, none⟩) x.ch x.ch) u (hqj.edit he id id) (by simpa using hjr) ⟨rfl, rfl⟩
  have HP2 : Hid (∀ u g, Edit (· = a.cj) w u → Calls Tryz.prog 381 #[.pointer (some ⟨a.ql, 0, none⟩), .agg #[.int .i64 s.given, .slice (some ⟨g, 0, none⟩) x.ch x.ch]] u fun e w' => e = .returned (.tuple #[]) ∧ QIs w' a.ql a.cl 247 p.Rm ((s.lane.map (blV a x)).toArray.push (.agg #[.int .i64 s.given, .slice (some ⟨g, 0, none⟩) x.ch x.ch])) false ∧ Edit (· = a.cl) u w') :=
    fun u g he => put_block a.ql a.cl p.Rm (s.lane.map (blV a x)).toArray (.int .i64 s.given) (.slice (some ⟨g, 0, none⟩) x.ch x.ch) u (hql.edit he (by grind) (by grind)) (by simpa using hlr) ⟨rfl, rfl⟩
  have HL2 : Hid (∀ u, Edit (fun k => k = a.cj ∨ k = a.cl) w u → Bx u a.lb 160 (lnC p a x s sv fv) ∧ Bx u a.sp 165 #[ptrV a.lb, .bool s.e0, .slice (some ⟨a.lg, 0, none⟩) x.ch a.lc, .int .i64 s.given]) := fun u he => ⟨hl.edit he (by grind), h.spl.edit he (by grind)⟩
  have HG : Hid (∀ u u1 u2 g, Edit (fun _ => False) w u → u.rowIs g 30 x.ch (blkV a.A a.C (s.given * x.B) (blkN x.S x.B s.given) x.ch) → w.heap.size ≤ g → QIs u1 a.qj a.cj 247 p.Rm ((s.jobs.map (blV a x)).toArray.push (.agg #[.int .i64 s.given, .slice (some ⟨g, 0, none⟩) x.ch x.ch])) false → Edit (· = a.cj) u u1 →
      QIs u2 a.ql a.cl 247 p.Rm ((s.lane.map (blV a x)).toArray.push (.agg #[.int .i64 s.given, .slice (some ⟨g, 0, none⟩) x.ch x.ch])) false → Edit (· = a.cl) u1 u2 →
      Bx u2 a.sp 165 #[ptrV a.lb, .bool s.e0, .slice (some ⟨a.lg, 0, none⟩) x.ch a.lc, .int .i64 s.given] ∧
      ∃ F', Own F F' w ∧ LineIs p (a.reg s.given g) x F' (s.act p .give) (u2.setCell ⟨a.sp, 3, none⟩ (.int .i64 ((s.given + 1 : Nat) : Int))) ∧ Edit F w (u2.setCell ⟨a.sp, 3, none⟩ (.int .i64 ((s.given + 1 : Nat) : Int)))) := fun u u1 u2 g e0 hr hg q1 e1 q2 e2 =>
    spGave h hi e0 hr hg (by rw [he0]; exact q1) e1 (by rw [he0]; exact q2) e2
  have HLT : Hid (a.sp < w.heap.size ∧ a.lb < w.heap.size ∧ a.cj < w.heap.size ∧ a.cl < w.heap.size) := ⟨h.lt _ h.own.2.1, h.lt _ h.own.1, h.lt _ h.own.2.2.2.2.2.2.2.1, h.lt _ h.own.2.2.2.2.2.2.2.2.1⟩
  have wr1 : IntKind.i64.wrap ((s.given : Int) + 1) = ((s.given + 1 : Nat) : Int) := by rw [IntKind.wrap_i64]; omega
  have hS0 := HS.out w.drew ((Edit.refl _ w).drewN 1)
  clear h hi hl hw hqj hql hkd kd1 kd2 kd5 kd6 kd8 kd9 n1 n2 n3 n4 n5 hN hjr hlr hnb he0
  unfold ptrV at *
  go_enter Tryz.func380, Tryz.ntmps380
  go_wp2_with fail
  go_cut [2] (fun s2 wx => ∃ b g : Nat, s2 = .pointer (some ⟨b, 0, none⟩) ∧ Hid (Edit (fun _ => False) w wx ∧ Bx wx b 145 #[.int .i64 s.given, .slice (some ⟨g, 0, none⟩) x.ch x.ch] ∧ wx.rowIs g 30 x.ch (blkV a.A a.C (s.given * x.B) (blkN x.S x.B s.given) x.ch) ∧ w.heap.size ≤ g ∧ w.heap.size ≤ b))
  case first =>
    refine wp_region_held_drew (S := fun w' => w'.cell? ⟨a.sp, 0, none⟩ = some (.pointer (some ⟨a.lb, 0, none⟩)) ∧ w'.cell? ⟨a.sp, 2, none⟩ = some (.slice (some ⟨a.lg, 0, none⟩) x.ch a.lc) ∧ w'.cell? ⟨a.sp, 3, none⟩ = some (.int .i64 s.given) ∧ w'.cell? ⟨a.lb, 2, none⟩ = some (.int .i64 x.B)) (by kernel_rfl) hS0 (fun hHeld => ?_)
    refine wpAnyH_take (i := 0) (v := ?_) rfl (by kernel_rfl) (by kernel_rfl) (by kernel_rfl) (fun _ _ _ h => h) (Or.inl ⟨by rfl, ?_⟩) (by assumption) ?_
    rotate_left
    · (intro w hSw; (try dsimp only at hSw); go_simp; try with_reducible rfl)
    try simp only [List.getElem_toArray, List.getElem_cons_succ, List.getElem_cons_zero, Act.put, List.setIfInBounds_toArray, List.set_cons_zero, List.set_cons_succ]
    refine wpAnyH_take (i := 1) (v := ?_) rfl (by kernel_rfl) (by kernel_rfl) (by kernel_rfl) (fun _ _ _ h => h) (Or.inl ⟨by rfl, ?_⟩) (by assumption) ?_
    rotate_left
    · (intro w hSw; (try dsimp only at hSw); go_simp; try with_reducible rfl)
    try simp only [List.getElem_toArray, List.getElem_cons_succ, List.getElem_cons_zero, Act.put, List.setIfInBounds_toArray, List.set_cons_zero, List.set_cons_succ]
    refine wpAnyH_take (i := 2) (v := ?_) rfl (by kernel_rfl) (by kernel_rfl) (by kernel_rfl) (fun _ _ _ h => h) (Or.inl ⟨by rfl, ?_⟩) (by assumption) ?_
    rotate_left
    · (intro w hSw; (try dsimp only at hSw); go_simp; try with_reducible rfl)
    try simp only [List.getElem_toArray, List.getElem_cons_succ, List.getElem_cons_zero, Act.put, List.setIfInBounds_toArray, List.set_cons_zero, List.set_cons_succ]
    refine wpAnyH_take (i := 3) (v := ?_) rfl (by kernel_rfl) (by kernel_rfl) (by kernel_rfl) (fun _ _ _ h => h) (Or.inl ⟨by rfl, ?_⟩) (by assumption) ?_
    rotate_left
    · (intro w hSw; (try dsimp only at hSw); go_simp; try with_reducible rfl)
    try simp only [List.getElem_toArray, List.getElem_cons_succ, List.getElem_cons_zero, Act.put, List.setIfInBounds_toArray, List.set_cons_zero, List.set_cons_succ]
    refine wpAnyH_take (i := 4) (v := ?_) rfl (by kernel_rfl) (by kernel_rfl) (by kernel_rfl) (fun _ _ _ h => h) (Or.inl ⟨by rfl, ?_⟩) (by assumption) ?_
    rotate_left
    · (intro w hSw; (try dsimp only at hSw); go_simp; try with_reducible rfl)
    try simp only [List.getElem_toArray, List.getElem_cons_succ, List.getElem_cons_zero, Act.put, List.setIfInBounds_toArray, List.set_cons_zero, List.set_cons_succ]
    refine wpAnyH_take (i := 5) (v := ?_) rfl (by kernel_rfl) (by kernel_rfl) (by kernel_rfl) (fun _ _ _ h => h) (Or.inl ⟨by rfl, ?_⟩) (by assumption) ?_
    rotate_left
    · (intro w hSw; (try dsimp only at hSw); go_simp; try with_reducible rfl)
    try simp only [List.getElem_toArray, List.getElem_cons_succ, List.getElem_cons_zero, Act.put, List.setIfInBounds_toArray, List.set_cons_zero, List.set_cons_succ]
    refine wpAnyH_take (i := 6) (v := ?_) rfl (by kernel_rfl) (by kernel_rfl) (by kernel_rfl) (fun _ _ _ h => h) (Or.inl ⟨by rfl, ?_⟩) (by assumption) ?_
    rotate_left
    · (intro w hSw; (try dsimp only at hSw); go_simp; try with_reducible rfl)
    try simp only [List.getElem_toArray, List.getElem_cons_succ, List.getElem_cons_zero, Act.put, List.setIfInBounds_toArray, List.set_cons_zero, List.set_cons_succ]
    refine wpAnyH_take (i := 7) (v := ?_) rfl (by kernel_rfl) (by kernel_rfl) (by kernel_rfl) (fun _ _ _ h => h) (Or.inl ⟨by rfl, ?_⟩) (by assumption) ?_
    rotate_left
    · (intro w hSw; (try dsimp only at hSw); go_simp; try with_reducible rfl)
    try simp only [List.getElem_toArray, List.getElem_cons_succ, List.getElem_cons_zero, Act.put, List.setIfInBounds_toArray, List.set_cons_zero, List.set_cons_succ]
    refine wpAnyH_take (i := 8) (v := ?_) rfl (by kernel_rfl) (by kernel_rfl) (by kernel_rfl) (fun _ _ _ h => h) (Or.inl ⟨by rfl, ?_⟩) (by assumption) ?_
    rotate_left
    · (intro w hSw; (try dsimp only at hSw); go_simp; try with_reducible rfl)
    try simp only [List.getElem_toArray, List.getElem_cons_succ, List.getElem_cons_zero, Act.put, List.setIfInBounds_toArray, List.set_cons_zero, List.set_cons_succ]
    refine wpAnyH_take (i := 9) (v := ?_) rfl (by kernel_rfl) (by kernel_rfl) (by kernel_rfl) (fun _ _ _ h => h) (Or.inl ⟨by rfl, ?_⟩) (by assumption) ?_
    rotate_left
    · (intro w hSw; (try dsimp only at hSw); go_simp; try with_reducible rfl)
    try simp only [List.getElem_toArray, List.getElem_cons_succ, List.getElem_cons_zero, Act.put, List.setIfInBounds_toArray, List.set_cons_zero, List.set_cons_succ]
    refine wpAnyH_take (i := 10) (v := ?_) rfl (by kernel_rfl) (by kernel_rfl) (by kernel_rfl) (fun _ _ _ h => h) (Or.inl ⟨by rfl, ?_⟩) (by assumption) ?_
    rotate_left
    · (intro w hSw; (try dsimp only at hSw); go_simp; try with_reducible rfl)
    try simp only [List.getElem_toArray, List.getElem_cons_succ, List.getElem_cons_zero, Act.put, List.setIfInBounds_toArray, List.set_cons_zero, List.set_cons_succ]
    refine wpAnyH_take (i := 11) (v := ?_) rfl (by kernel_rfl) (by kernel_rfl) (by kernel_rfl) (fun _ _ _ h => h) (Or.inl ⟨by rfl, ?_⟩) (by assumption) ?_
    rotate_left
    · (intro w hSw; (try dsimp only at hSw); go_simp; try with_reducible rfl)
    try simp only [List.getElem_toArray, List.getElem_cons_succ, List.getElem_cons_zero, Act.put, List.setIfInBounds_toArray, List.set_cons_zero, List.set_cons_succ]
    refine wpAnyH_take (i := 12) (v := ?_) rfl (by kernel_rfl) (by kernel_rfl) (by kernel_rfl) (fun _ _ _ h => h) (Or.inl ⟨by rfl, ?_⟩) (by assumption) ?_
    rotate_left
    · (intro w hSw; (try dsimp only at hSw); go_simp; try with_reducible rfl)
    try simp only [List.getElem_toArray, List.getElem_cons_succ, List.getElem_cons_zero, Act.put, List.setIfInBounds_toArray, List.set_cons_zero, List.set_cons_succ]
    refine wpAnyH_take (i := 13) (v := ?_) rfl (by kernel_rfl) (by kernel_rfl) (by kernel_rfl) (fun _ _ _ h => h) (Or.inl ⟨by rfl, ?_⟩) (by assumption) ?_
    rotate_left
    · (intro w hSw; (try dsimp only at hSw); go_simp; try with_reducible rfl)
    try simp only [List.getElem_toArray, List.getElem_cons_succ, List.getElem_cons_zero, Act.put, List.setIfInBounds_toArray, List.set_cons_zero, List.set_cons_succ]
    refine wpAnyH_take (i := 14) (v := ?_) rfl (by kernel_rfl) (by kernel_rfl) (by kernel_rfl) (fun _ _ _ h => h) (Or.inl ⟨by rfl, ?_⟩) (by assumption) ?_
    rotate_left
    · (intro w hSw; (try dsimp only at hSw); go_simp; try with_reducible rfl)
    try simp only [List.getElem_toArray, List.getElem_cons_succ, List.getElem_cons_zero, Act.put, List.setIfInBounds_toArray, List.set_cons_zero, List.set_cons_succ]
    refine wpAnyH_take (i := 15) (v := ?_) rfl (by kernel_rfl) (by kernel_rfl) (by kernel_rfl) (fun _ _ _ h => h) (Or.inl ⟨by rfl, ?_⟩) (by assumption) ?_
    rotate_left
    · (intro w hSw; (try dsimp only at hSw); go_simp; try with_reducible rfl)
    try simp only [List.getElem_toArray, List.getElem_cons_succ, List.getElem_cons_zero, Act.put, List.setIfInBounds_toArray, List.set_cons_zero, List.set_cons_succ]
    refine wpAnyH_take (i := 16) (v := ?_) rfl (by kernel_rfl) (by kernel_rfl) (by kernel_rfl) (fun _ _ _ h => h) (Or.inl ⟨by rfl, ?_⟩) (by assumption) ?_
    rotate_left
    · (intro w hSw; (try dsimp only at hSw); go_simp; try with_reducible rfl)
    try simp only [List.getElem_toArray, List.getElem_cons_succ, List.getElem_cons_zero, Act.put, List.setIfInBounds_toArray, List.set_cons_zero, List.set_cons_succ]
    refine wpAnyH_take (i := 17) (v := ?_) rfl (by kernel_rfl) (by kernel_rfl) (by kernel_rfl) (fun _ _ _ h => h) (Or.inl ⟨by rfl, ?_⟩) (by assumption) ?_
    rotate_left
    · (intro w hSw; (try dsimp only at hSw); go_simp; try with_reducible rfl)
    try simp only [List.getElem_toArray, List.getElem_cons_succ, List.getElem_cons_zero, Act.put, List.setIfInBounds_toArray, List.set_cons_zero, List.set_cons_succ]
    refine wpAnyH_take (i := 18) (v := ?_) rfl (by kernel_rfl) (by kernel_rfl) (by kernel_rfl) (fun _ _ _ h => h) (Or.inl ⟨by rfl, ?_⟩) (by assumption) ?_
    rotate_left
    · (intro w hSw; (try dsimp only at hSw); go_simp; try with_reducible rfl)
    try simp only [List.getElem_toArray, List.getElem_cons_succ, List.getElem_cons_zero, Act.put, List.setIfInBounds_toArray, List.set_cons_zero, List.set_cons_succ]
    refine wpAnyH_take (i := 19) (v := ?_) rfl (by kernel_rfl) (by kernel_rfl) (by kernel_rfl) (fun _ _ _ h => h) (Or.inl ⟨by rfl, ?_⟩) (by assumption) ?_
    rotate_left
    · (intro w hSw; (try dsimp only at hSw); go_simp; try with_reducible rfl)
    try simp only [List.getElem_toArray, List.getElem_cons_succ, List.getElem_cons_zero, Act.put, List.setIfInBounds_toArray, List.set_cons_zero, List.set_cons_succ]
    refine wpAnyH_take (i := 20) (v := ?_) rfl (by kernel_rfl) (by kernel_rfl) (by kernel_rfl) (fun _ _ _ h => h) (Or.inl ⟨by rfl, ?_⟩) (by assumption) ?_
    rotate_left
    · (intro w hSw; (try dsimp only at hSw); go_simp; try with_reducible rfl)
    try simp only [List.getElem_toArray, List.getElem_cons_succ, List.getElem_cons_zero, Act.put, List.setIfInBounds_toArray, List.set_cons_zero, List.set_cons_succ]
    refine wpAnyH_ready (rs := [21, 23]) (by kernel_rfl) (by simp) ?_
    refine AllReadyH.cons rfl (fun K hK => ?_) (AllReadyH.cons rfl (fun K hK => ?_) (AllReadyH.nil))
    · go_simp
      go_at_call 64
      refine (HBL.out w.drew ((Edit.refl _ w).drewN 1) w.heap.size rfl).mono ?_
      rintro e u1 ⟨rfl, hrow, hb⟩
      have e1 : Edit (fun _ => False) w u1 := Edit.of (⟨hb.os, hb.tape, hb.output, hb.size, hb.block⟩ : Below w.heap.size w u1)
      have hS1 := HS.out u1 e1
      have hS2 := HS.out (u1.alloc (.cells #[.int .i64 0, .slice none 0 0] 145)) (e1.alloc _)
      have HE3 : Hid (Edit (fun _ => False) w ((u1.alloc (.cells #[.int .i64 0, .slice none 0 0] 145)).setRow u1.heap.size #[.int .i64 s.given, .slice (some ⟨w.heap.size, 0, none⟩) x.ch x.ch])) := (e1.alloc _).row e1.size _
      have hS3 := HS.out _ HE3.out
      have hg1 : w.heap.size < u1.heap.size := by obtain ⟨c, h1, -⟩ := hrow; exact (Array.getElem?_eq_some_iff.1 h1).1
      have HR : Hid (((u1.alloc (.cells #[.int .i64 0, .slice none 0 0] 145)).setRow u1.heap.size #[.int .i64 s.given, .slice (some ⟨w.heap.size, 0, none⟩) x.ch x.ch]).rowIs w.heap.size 30 x.ch (blkV a.A a.C (s.given * x.B) (blkN x.S x.B s.given) x.ch)) := by
        have e6 : Edit (fun _ => False) u1 ((u1.alloc (.cells #[.int .i64 0, .slice none 0 0] 145)).setRow u1.heap.size #[.int .i64 s.given, .slice (some ⟨w.heap.size, 0, none⟩) x.ch x.ch]) := ((Edit.refl _ u1).alloc _).row (Nat.le_refl _) _
        exact rowIs_at hrow (e6.block _ hg1 id)
      have HE1 := Hid.mk' e1
      clear hb e1 hrow
      go_wp2_with fail
      refine hK.out _ _ hS1 (fun hHeld => ?_)
      clear hK K
      try simp only [List.getElem_toArray, List.getElem_cons_succ, List.getElem_cons_zero, Act.put, List.setIfInBounds_toArray, List.set_cons_zero, List.set_cons_succ]
      refine wpAnyH_take (i := 22) (v := ?_) rfl (by kernel_rfl) (by kernel_rfl) (by kernel_rfl) (fun _ _ _ h => h) (Or.inl ⟨by rfl, ?_⟩) (by assumption) ?_
      rotate_left
      · (intro w hSw; (try dsimp only at hSw); go_simp; try with_reducible rfl)
      try simp only [List.getElem_toArray, List.getElem_cons_succ, List.getElem_cons_zero, Act.put, List.setIfInBounds_toArray, List.set_cons_zero, List.set_cons_succ]
      refine wpAnyH_ready (rs := [23]) (by kernel_rfl) (by simp) ?_
      refine AllReadyH.cons rfl (fun K hK => ?_) (AllReadyH.nil)
      go_simp
      go_wp2_with fail
      refine hK.out _ _ hS2 (fun hHeld => ?_)
      clear hK K
      try simp only [List.getElem_toArray, List.getElem_cons_succ, List.getElem_cons_zero, Act.put, List.setIfInBounds_toArray, List.set_cons_zero, List.set_cons_succ]
      refine wpAnyH_ready (rs := [24]) (by kernel_rfl) (by simp) ?_
      refine AllReadyH.cons rfl (fun K hK => ?_) AllReadyH.nil
      refine stepStore rfl _ _ 145 rfl u1.heap.size 145 #[.int .i64 0, .slice none 0 0] #[.int .i64 s.given, .slice (some ⟨w.heap.size, 0, none⟩) x.ch x.ch] rfl rfl (Bx.new u1 _ _) infoBlk rfl rfl ?_
      go_wp2_with fail
      refine hK.out _ _ hS3 (fun hHeld => ?_)
      clear hK K
      try simp only [List.getElem_toArray, List.getElem_cons_succ, List.getElem_cons_zero, Act.put, List.setIfInBounds_toArray, List.set_cons_zero, List.set_cons_succ]
      refine wpAnyH_done (by kernel_rfl) ?_ _
      go_wp2
      go_meet
      case rel => exact ⟨u1.heap.size, w.heap.size, rfl, HE3.out, (Bx.new u1 _ _).row _, HR.out, Nat.le_refl _, HE1.out.size⟩
    · go_simp
      have e1 : Edit (fun _ => False) w (w.alloc (.cells #[.int .i64 0, .slice none 0 0] 145)).drew := ((Edit.refl _ w).alloc _).drewN 1
      have hS1 := HS.out _ e1
      have hz : (w.alloc (.cells #[.int .i64 0, .slice none 0 0] 145)).drew.heap.size = w.heap.size + 1 := by simp
      have HBL1 := Hid.mk' (HBL.out _ e1 (w.heap.size + 1) hz)
      have HE1 := Hid.mk' e1
      have HZ := Hid.mk' hz
      clear e1 hz
      go_wp2_with fail
      refine hK.out _ _ hS1 (fun hHeld => ?_)
      clear hK K
      try simp only [List.getElem_toArray, List.getElem_cons_succ, List.getElem_cons_zero, Act.put, List.setIfInBounds_toArray, List.set_cons_zero, List.set_cons_succ]
      refine wpAnyH_ready (rs := [21]) (by kernel_rfl) (by simp) ?_
      refine AllReadyH.cons rfl (fun K hK => ?_) (AllReadyH.nil)
      go_simp
      go_at_call 64
      refine HBL1.out.mono ?_
      rintro e u1 ⟨rfl, hrow, hb⟩
      have e2 : Edit (fun _ => False) (w.alloc (.cells #[.int .i64 0, .slice none 0 0] 145)) u1 := Edit.of (⟨hb.os, hb.tape, hb.output, hb.size, fun k hk => hb.block k (by rw [← HZ.out]; exact hk)⟩ : Below (w.alloc (.cells #[.int .i64 0, .slice none 0 0] 145)).heap.size (w.alloc (.cells #[.int .i64 0, .slice none 0 0] 145)) u1)
      have e3 : Edit (fun _ => False) w u1 := ((Edit.refl _ w).alloc _).trans e2
      have hbx : Bx u1 w.heap.size 145 #[.int .i64 0, .slice none 0 0] := (Bx.new w #[.int .i64 0, .slice none 0 0] 145).edit e2 id
      have hS2 := HS.out u1 e3
      have HE3 : Hid (Edit (fun _ => False) w (u1.setRow w.heap.size #[.int .i64 s.given, .slice (some ⟨w.heap.size + 1, 0, none⟩) x.ch x.ch])) := e3.row (Nat.le_refl _) _
      have hS3 := HS.out _ HE3.out
      have HR : Hid ((u1.setRow w.heap.size #[.int .i64 s.given, .slice (some ⟨w.heap.size + 1, 0, none⟩) x.ch x.ch]).rowIs (w.heap.size + 1) 30 x.ch (blkV a.A a.C (s.given * x.B) (blkN x.S x.B s.given) x.ch)) := rowIs_at hrow (setRow_other _ _ _ _ (by omega))
      have HBX := Hid.mk' hbx
      clear hb e2 e3 hrow hbx HBL1
      go_wp2_with fail
      refine hK.out _ _ hS2 (fun hHeld => ?_)
      clear hK K
      try simp only [List.getElem_toArray, List.getElem_cons_succ, List.getElem_cons_zero, Act.put, List.setIfInBounds_toArray, List.set_cons_zero, List.set_cons_succ]
      refine wpAnyH_take (i := 22) (v := ?_) rfl (by kernel_rfl) (by kernel_rfl) (by kernel_rfl) (fun _ _ _ h => h) (Or.inl ⟨by rfl, ?_⟩) (by assumption) ?_
      rotate_left
      · (intro w hSw; (try dsimp only at hSw); go_simp; try with_reducible rfl)
      try simp only [List.getElem_toArray, List.getElem_cons_succ, List.getElem_cons_zero, Act.put, List.setIfInBounds_toArray, List.set_cons_zero, List.set_cons_succ]
      refine wpAnyH_ready (rs := [24]) (by kernel_rfl) (by simp) ?_
      refine AllReadyH.cons rfl (fun K hK => ?_) AllReadyH.nil
      refine stepStore rfl _ _ 145 rfl w.heap.size 145 #[.int .i64 0, .slice none 0 0] #[.int .i64 s.given, .slice (some ⟨w.heap.size + 1, 0, none⟩) x.ch x.ch] rfl rfl HBX.out infoBlk rfl rfl ?_
      go_wp2_with fail
      refine hK.out _ _ hS3 (fun hHeld => ?_)
      clear hK K
      try simp only [List.getElem_toArray, List.getElem_cons_succ, List.getElem_cons_zero, Act.put, List.setIfInBounds_toArray, List.set_cons_zero, List.set_cons_succ]
      refine wpAnyH_done (by kernel_rfl) ?_ _
      go_wp2
      go_meet
      case rel => exact ⟨w.heap.size, w.heap.size + 1, rfl, HE3.out, HBX.out.row _, HR.out, Nat.le_succ _, Nat.le_refl _⟩
  case rest =>
    obtain ⟨b, g, rfl, HC⟩ := hcut
    have HSX : Hid (∀ u, Edit (fun k => k = a.cj ∨ k = a.cl) wc u → u.cell? ⟨a.sp, 0, none⟩ = some (.pointer (some ⟨a.lb, 0, none⟩)) ∧ u.cell? ⟨a.lb, 14, none⟩ = some (.pointer (some ⟨a.qj, 0, none⟩)) ∧ u.cell? ⟨a.lb, 15, none⟩ = some (.pointer (some ⟨a.ql, 0, none⟩)) ∧ u.cell? ⟨b, 0, none⟩ = some (.int .i64 s.given) ∧ u.cell? ⟨b, 1, none⟩ = some (.slice (some ⟨g, 0, none⟩) x.ch x.ch)) := fun u he => by
      have e1 : Edit (fun k => k = a.cj ∨ k = a.cl) w u := (HC.out.1.mono fun _ h => h.elim).trans he
      have h1 := HL2.out u e1
      have h2 := HC.out.2.1.edit he (by have := HLT.out; have := HC.out.2.2.2.2; omega)
      exact ⟨h1.2.cell 0, h1.1.cell 14, h1.1.cell 15, h2.cell 0, h2.cell 1⟩
    have hS0 := HSX.out wc.drew ((Edit.refl _ wc).drewN 1)
    clear hS0
    have hT0 := HSX.out wc.drew ((Edit.refl _ wc).drewN 1)
    go_wp2_with fail
    go_region_held3 (fun w' => w'.cell? ⟨a.sp, 0, none⟩ = some (.pointer (some ⟨a.lb, 0, none⟩)) ∧ w'.cell? ⟨a.lb, 14, none⟩ = some (.pointer (some ⟨a.qj, 0, none⟩)) ∧ w'.cell? ⟨a.lb, 15, none⟩ = some (.pointer (some ⟨a.ql, 0, none⟩)) ∧ w'.cell? ⟨b, 0, none⟩ = some (.int .i64 s.given) ∧ w'.cell? ⟨b, 1, none⟩ = some (.slice (some ⟨g, 0, none⟩) x.ch x.ch)) (first | with_reducible exact hT0 | with_reducible exact hT1)
      (first
      | (go_at_call 381; refine (HP1.out wc.drew g (HC.out.1.drewN 1)).mono ?_; rintro e u1 ⟨rfl, q1, e1⟩; have HE1 : Hid (Edit (· = a.cj) wc u1) := ⟨e1.os, e1.tape, e1.output, e1.size, e1.block⟩; have hT1 := HSX.out u1 (HE1.out.mono fun _ h => Or.inl h); have HQ1 := Hid.mk' q1; clear q1 e1))
    have hT2 := HSX.out u1.drew ((HE1.out.mono fun _ h => Or.inl h).drewN 1)
    have HP3 := Hid.mk' (HP2.out u1.drew g (((HC.out.1.mono fun _ h => h.elim).trans HE1.out).drewN 1))
    clear hT0 hT1 HP1 HP2
    go_wp2_with fail
    go_region_held3 (fun w' => w'.cell? ⟨a.sp, 0, none⟩ = some (.pointer (some ⟨a.lb, 0, none⟩)) ∧ w'.cell? ⟨a.lb, 14, none⟩ = some (.pointer (some ⟨a.qj, 0, none⟩)) ∧ w'.cell? ⟨a.lb, 15, none⟩ = some (.pointer (some ⟨a.ql, 0, none⟩)) ∧ w'.cell? ⟨b, 0, none⟩ = some (.int .i64 s.given) ∧ w'.cell? ⟨b, 1, none⟩ = some (.slice (some ⟨g, 0, none⟩) x.ch x.ch)) (first | with_reducible exact hT2 | with_reducible exact hT3)
      (first
      | (go_at_call 381; refine HP3.out.mono ?_; rintro e u2 ⟨rfl, q2, e2⟩; have HE2 : Hid (Edit (· = a.cl) u1 u2) := ⟨e2.os, e2.tape, e2.output, e2.size, e2.block⟩; have hT3 := HSX.out u2 ((HE1.out.mono fun _ h => Or.inl h).trans (HE2.out.mono fun _ h => Or.inr h)); have HQ2 := Hid.mk' q2; clear q2 e2))
    have HZ := Hid.mk' (HG.out wc u1 u2 g HC.out.1 HC.out.2.2.1 HC.out.2.2.2.1 HQ1.out HE1.out HQ2.out HE2.out)
    have t3 := HZ.out.1.cell 3
    have f3 := HZ.out.1.free 3
    simp at t3
    clear hT2 hT3 HG
    go_wp2
    go_end0
    exact ⟨rfl, g, HZ.out.2⟩
end Go.Proofs.YtlncjgnomhpjnabGreatDoor

