import Derived.Test.YtlncjgnomhpjnabGreatDoorQT37
/-
  What the writer does: heads.
-/
namespace Go.Proofs.YtlncjgnomhpjnabGreatDoor
open Go.RowKit Go.Deep
set_option linter.unusedVariables false
/-- Nothing but the writer's and the sink's own is changed. -/
def SameRest (s s' : Lst) : Prop := s'.given = s.given ∧ s'.summed = s.summed ∧ s'.jobs = s.jobs ∧ s'.lane = s.lane ∧ s'.ready = s.ready ∧ s'.held = s.held ∧ s'.e0 = s.e0 ∧ s'.e1 = s.e1 ∧ s'.ew = s.ew
/-- Blocks that the writer and the sink change. -/
def WrBlk (a : Lad) (w : World) (k : Nat) : Prop := k = a.lb ∨ k = a.wr ∨ (a.b1 ≤ k ∧ (kn w k = 149 + 1 ∨ kn w k = 5 + 1 ∨ kn w k = 3 + 1))
theorem LineIs.upd {p : Lpar} {a : Lad} {x : Lsn} {F F' : Nat → Prop} {s s' : Lst} {w w' : World} {S : Nat → Prop} (h : LineIs p a x F s w) (he : Edit S w w') (hS : ∀ k, S k → WrBlk a w k) (hF : ∀ k, F k → F' k) (hlt : ∀ k, F' k → k < w'.heap.size)
    (hc : CellsOk p a x F' s' w') (hs : SameRest s s') : LineIs p a x F' s' w' := by
  have hkd := h.kinds
  have kd1 := hkd.lb; have kd2 := hkd.sp; have kd3 := hkd.su; have kd4 := hkd.wr; have kd5 := hkd.qj; have kd6 := hkd.ql; have kd7 := hkd.qr; have kd8 := hkd.cj; have kd9 := hkd.cl; have kd10 := hkd.cr
  obtain ⟨s1, s2, s3, s4, s5, s6, s7, s8, s9⟩ := hs
  have hsh : s'.shut p = s.shut p := by unfold Lst.shut; rw [s9]
  have nS : ∀ k, ¬ WrBlk a w k → ¬ S k := fun k hk hs => hk (hS k hs)
  have hw : WorkOk p a x F' s' w' := by
    obtain ⟨hv, k1, k2⟩ := h.workOk he hF (fun k hk => nS k (by unfold WrBlk; grind))
    refine ⟨hv, fun j hj => ?_, fun j k hj hk => k2 j k hj (s6 ▸ hk)⟩
    have e : heV hv s' j = heV hv s j := by simp only [heV, s6]
    rw [e, s9]
    exact k1 j hj
  refine h.edit he hF hlt (fun k hk => ?_) hc ?_ ?_ hw ?_ ?_ ?_ s1
  · have := hS k hk
    unfold WrBlk at this
    unfold Firm
    grind
  · rw [s7, s1]
    exact h.spl.edit he (nS _ (by unfold WrBlk; grind))
  · rw [s8, s2]
    exact h.sum.edit he (nS _ (by unfold WrBlk; grind))
  · rw [s3, s7]
    exact h.jobs.edit he (nS _ (by unfold WrBlk; grind)) (nS _ (by unfold WrBlk; grind))
  · rw [s4, s7]
    exact h.lane.edit he (nS _ (by unfold WrBlk; grind)) (nS _ (by unfold WrBlk; grind))
  · rw [s5, hsh]
    exact h.ready.edit he (nS _ (by unfold WrBlk; grind)) (nS _ (by unfold WrBlk; grind))
/-- Where only the line's own cells are changed. -/
theorem LineIs.ownCells {p : Lpar} {a : Lad} {x : Lsn} {F : Nat → Prop} {s s' : Lst} {w w' : World} (h : LineIs p a x F s w) (he : Edit (· = a.lb) w w') (hb : ∀ sv fv, Bx w a.lb 160 (lnC p a x s sv fv) → ∃ sv', Bx w' a.lb 160 (lnC p a x s' sv' fv) ∧ ((sv' = sv ∧ s'.shelf = s.shelf) ∨ (sv' = .slice none 0 0 ∧ s'.shelf = [])))
    (hs : SameRest s s') (h2 : s'.e2 = s.e2 ∧ s'.begun = s.begun ∧ s'.wrote = s.wrote) : LineIs p a x F s' w' ∧ Edit F w w' := by
  have hkd := h.kinds
  have kd1 := hkd.lb; have kd4 := hkd.wr
  obtain ⟨sv, fv, lv, c1, c2, c3, c4, c5, c6, c7, c8⟩ := h.cells
  obtain ⟨sv1, b1, b2⟩ := hb sv fv c1
  have hn : ∀ g, kn w g ≠ 160 + 1 → ¬ g = a.lb := fun g hg hh => hg (hh ▸ kd1)
  refine ⟨h.upd he (fun k hk => Or.inl hk) (fun _ hh => hh) (fun k hk => Nat.lt_of_lt_of_le (h.lt k hk) he.size) ⟨sv1, fv, lv, b1, ?_, ?_, ?_, ?_, c6, ?_, c8⟩ hs, he.mono fun k hk => hk ▸ h.own.1⟩
  · rw [h2.1, h2.2.1]
    exact c2.edit he (by grind)
  · rcases b2 with ⟨rfl, e⟩ | ⟨rfl, e⟩
    · rw [e]
      exact shOwn c3 he fun g hg => hn g (by rw [(own_kn c3 g hg).1]; decide)
    · rw [e]
      exact ⟨rfl, Or.inl ⟨rfl, rfl⟩⟩
  · rcases b2 with ⟨rfl, e⟩ | ⟨rfl, e⟩
    · exact c4
    · intro g hg
      cases hg
  · rw [h2.2.2]
    exact shOwn c5 he fun g hg => hn g (by rw [(own_kn c5 g hg).1]; decide)
  · rw [h2.2.2]
    exact shOwn c7 he fun g hg => hn g (by rw [(own_kn c7 g hg).1]; decide)
theorem stop_any {p : Lpar} {a : Lad} {x : Lsn} {F : Nat → Prop} {s : Lst} {w : World} (h : LineIs p a x F s w) :
    Calls Tryz.prog 115 #[ptrV a.lb] w fun e w' => e = .returned (.tuple #[]) ∧ LineIs p a x F s.halt w' ∧ Edit F w w' := by
  obtain ⟨sv, fv, lv, hl, -⟩ := h.cells
  have c23 := hl.cell 23
  have f23 := hl.free 23
  have h1 := hl.set 23 (.bool true)
  have c17 := h1.cell 17
  have f17 := h1.free 17
  simp [lnC] at c23 c17
  have HCL := Hid.mk' (clear_any a.lb 17 sv (w.setCell ⟨a.lb, 23, none⟩ (.bool true)) c17 f17)
  have HD : Hid (LineIs p a x F s.halt ((w.setCell ⟨a.lb, 23, none⟩ (.bool true)).setCell ⟨a.lb, 17, none⟩ (.slice none 0 0)) ∧ Edit F w ((w.setCell ⟨a.lb, 23, none⟩ (.bool true)).setCell ⟨a.lb, 17, none⟩ (.slice none 0 0))) :=
    h.ownCells ((Edit.one w a.lb 23 (.bool true)).trans (Edit.one _ a.lb 17 _)) (fun sv fv hb => ⟨.slice none 0 0, (hb.set 23 (.bool true)).set 17 (.slice none 0 0), Or.inr ⟨rfl, rfl⟩⟩) ⟨rfl, rfl, rfl, rfl, rfl, rfl, rfl, rfl, rfl⟩ ⟨rfl, rfl, rfl⟩
  clear h hl h1 c17 f17
  unfold ptrV at *
  go_enter Tryz.func115, Tryz.ntmps115
  go_wp2_with (go_at_call 176; refine HCL.out.mono ?_; rintro e u ⟨rfl, hu⟩; subst u)
  go_end0
  exact ⟨rfl, HD.out⟩
end Go.Proofs.YtlncjgnomhpjnabGreatDoor

/-
  What the writer does: a head is written.
-/
namespace Go.Proofs.YtlncjgnomhpjnabGreatDoor
open Go.RowKit Go.Deep
set_option linter.unusedVariables false
/-- A head is set in the sink. -/
theorem LineIs.setHd {p : Lpar} {a : Lad} {x : Lsn} {F : Nat → Prop} {s : Lst} {w : World} (h : LineIs p a x F s w) (hwr : s.writes ≤ 1000) (q : Nat) :
    Calls Tryz.prog 397 #[.pointer (some ⟨a.lb, 18, none⟩), .string (bs (hdT x q))] w fun e w' => e = .returned (.bool (!(s.tries p).failed)) ∧ LineIs p a x F (s.setHd p q) w' ∧ Edit F w w' := by
  obtain ⟨sv, fv, lv, hl, -⟩ := h.cells
  refine (setHead_any hl hwr q).mono ?_
  rintro e w' ⟨rfl, hb, he⟩
  have hs : SameRest s (s.setHd p q) ∧ (s.setHd p q).shelf = s.shelf ∧ (s.setHd p q).e2 = s.e2 ∧ (s.setHd p q).begun = s.begun ∧ (s.setHd p q).wrote = s.wrote := by
    unfold Lst.setHd
    split
    · exact ⟨⟨rfl, rfl, rfl, rfl, rfl, rfl, rfl, rfl, rfl⟩, rfl, rfl, rfl, rfl⟩
    · exact ⟨⟨rfl, rfl, rfl, rfl, rfl, rfl, rfl, rfl, rfl⟩, rfl, rfl, rfl, rfl⟩
  refine ⟨rfl, h.ownCells he (fun sv1 fv1 hb1 => ?_) hs.1 hs.2.2⟩
  have e1 : lnC p a x s sv1 fv1 = lnC p a x s sv fv := by
    have h1 : w.heap[a.lb]? = _ := hb1
    have h2 : w.heap[a.lb]? = _ := hl
    rw [h2] at h1
    injection h1 with h1
    injection h1 with h1
    exact h1.symm
  have e2 : sv1 = sv := by
    have := congrArg (fun c => c[17]?) e1
    simpa [lnC] using this
  have e3 : fv1 = fv := by
    have := congrArg (fun c => c[22]?) e1
    simpa [lnC] using this
  subst e2 e3
  exact ⟨sv1, hb, Or.inl ⟨rfl, hs.2.1⟩⟩
theorem head_fail {p : Lpar} {s : Lst} {q : Nat} (hs : s.stopped = false) (hf : (s.tries p).failed = true) : s.head p q = (s.setHd p q).halt := by
  unfold Lst.head Lst.setHd
  rw [hs, if_pos hf, if_pos hf]
  rfl
theorem head_ok {p : Lpar} {s : Lst} {q : Nat} (hs : s.stopped = false) (hf : (s.tries p).failed = false) : s.head p q = s.setHd p q := by
  unfold Lst.head Lst.setHd
  rw [hs, hf]
  rfl
set_option linter.unusedSimpArgs false in
set_option maxRecDepth 100000 in
set_option maxHeartbeats 4000000 in
theorem writeHead_any {p : Lpar} {a : Lad} {x : Lsn} {F : Nat → Prop} {s : Lst} {w : World} (h : LineIs p a x F s w) (hwr : s.writes ≤ 1000) (q : Nat) (c0 c1 c2 c3 c4 c5 : Int) (f : Bool) (least most sum : Int) (pv : Value)
    (HLay : s.stopped = false → ∀ u, Edit (fun _ => False) w u → Calls Tryz.prog 129 #[.agg (hdC c0 c1 c2 c3 c4 c5 f least most sum pv)] u fun e w' => e = .returned (.string (bs (hdT x q))) ∧ Below u.heap.size u w') :
    Calls Tryz.prog 391 #[ptrV a.wr, .agg (hdC c0 c1 c2 c3 c4 c5 f least most sum pv)] w fun e w' => e = .returned (.tuple #[]) ∧ LineIs p a x F (s.head p q) w' ∧ Edit F w w' := by
  obtain ⟨sv, fv, lv, hl, hw, -⟩ := h.cells
  have HE0 : Hid (Edit (fun _ => False) w (w.alloc (.cells (hdC c0 c1 c2 c3 c4 c5 f least most sum pv) 110))) := (Edit.refl _ w).alloc _
  have HX0 := Hid.mk' (Bx.new w (hdC c0 c1 c2 c3 c4 c5 f least most sum pv) 110)
  have HL : Hid (∀ u, Edit (fun _ => False) w u → LineIs p a x F s u) := fun u he => h.keep (fun k hk => he.block k (h.lt k hk) id) he.size
  have HC : Hid (∀ u, Edit (fun _ => False) w u → u.cell? ⟨a.wr, 0, none⟩ = some (.pointer (some ⟨a.lb, 0, none⟩)) ∧ u.cell? ⟨a.lb, 23, none⟩ = some (.bool s.stopped)) := fun u he => ⟨(hw.edit he id).cell 0, (hl.edit he id).cell 23⟩
  have HLA := Hid.mk' HLay
  have hwl := h.lt _ h.own.2.2.2.1
  have hll := h.lt _ h.own.1
  cases hs : s.stopped with
  | true =>
    have e1 : s.head p q = s := by unfold Lst.head; rw [hs]; rfl
    rw [e1]
    have HFIN : Hid (∀ u, Edit (fun _ => False) w u → LineIs p a x F s u ∧ Edit F w u) := fun u he => ⟨HL.out u he, he.mono fun _ h => h.elim⟩
    have hS0 := HC.out (w.alloc (.cells (hdC c0 c1 c2 c3 c4 c5 f least most sum pv) 110)).drew (HE0.out.drewN 1)
    rw [hs] at hS0
    have HE1 : Hid (Edit (fun _ => False) w (w.alloc (.cells (hdC c0 c1 c2 c3 c4 c5 f least most sum pv) 110)).drew) := HE0.out.drewN 1
    clear h hl hw HLA HLay HC HL e1
    unfold ptrV at *
    go_enter Tryz.func391, Tryz.ntmps391
    go_wp2_with fail
    refine wp_region_held_drew (S := fun w' => w'.cell? ⟨a.wr, 0, none⟩ = some (.pointer (some ⟨a.lb, 0, none⟩)) ∧ w'.cell? ⟨a.lb, 23, none⟩ = some (.bool true)) (by kernel_rfl) hS0 (fun hHeld => ?_)
    refine wpAnyH_take (i := 0) (v := ?_) rfl (by kernel_rfl) (by kernel_rfl) (by kernel_rfl) (fun _ _ _ h => h) (Or.inl ⟨by rfl, ?_⟩) (by assumption) ?_
    rotate_left
    · (intro w hSw; (try dsimp only at hSw); go_simp; try with_reducible rfl)
    try simp only [List.getElem_toArray, List.getElem_cons_succ, List.getElem_cons_zero, Act.put, List.setIfInBounds_toArray, List.set_cons_zero, List.set_cons_succ]
    refine wpAnyH_take (i := 1) (v := ?_) rfl (by kernel_rfl) (by kernel_rfl) (by kernel_rfl) (fun _ _ _ h => h) (Or.inl ⟨by rfl, ?_⟩) (by assumption) ?_
    rotate_left
    · (intro w hSw; (try dsimp only at hSw); go_simp; try with_reducible rfl)
    try simp only [List.getElem_toArray, List.getElem_cons_succ, List.getElem_cons_zero, Act.put, List.setIfInBounds_toArray, List.set_cons_zero, List.set_cons_succ]
    refine wpAnyH_take (i := 2) (v := ?_) rfl (by kernel_rfl) (by kernel_rfl) (by kernel_rfl) (fun _ _ _ h => h) (Or.inl ⟨by rfl, ?_⟩) (by assumption) ?_
    rotate_left
    · (intro w hSw; (try dsimp only at hSw); go_simp; try with_reducible rfl)
    try simp only [List.getElem_toArray, List.getElem_cons_succ, List.getElem_cons_zero, Act.put, List.setIfInBounds_toArray, List.set_cons_zero, List.set_cons_succ]
    refine wpAnyH_take (i := 3) (v := ?_) rfl (by kernel_rfl) (by kernel_rfl) (by kernel_rfl) (fun _ _ _ h => h) (Or.inl ⟨by rfl, ?_⟩) (by assumption) ?_
    rotate_left
    · (intro w hSw; (try dsimp only at hSw); go_simp; try with_reducible rfl)
    try simp only [List.getElem_toArray, List.getElem_cons_succ, List.getElem_cons_zero, Act.put, List.setIfInBounds_toArray, List.set_cons_zero, List.set_cons_succ]
    refine wpAnyH_take (i := 4) (v := ?_) rfl (by kernel_rfl) (by kernel_rfl) (by kernel_rfl) (fun _ _ _ h => h) (Or.inl ⟨by rfl, ?_⟩) (by assumption) ?_
    rotate_left
    · (intro w hSw; (try dsimp only at hSw); go_simp; try with_reducible rfl)
    try simp only [List.getElem_toArray, List.getElem_cons_succ, List.getElem_cons_zero, Act.put, List.setIfInBounds_toArray, List.set_cons_zero, List.set_cons_succ]
    refine wpAnyH_take (i := 5) (v := ?_) rfl (by kernel_rfl) (by kernel_rfl) (by kernel_rfl) (fun _ _ _ h => h) (Or.inl ⟨by rfl, ?_⟩) (by assumption) ?_
    rotate_left
    · (intro w hSw; (try dsimp only at hSw); go_simp; try with_reducible rfl)
    try simp only [List.getElem_toArray, List.getElem_cons_succ, List.getElem_cons_zero, Act.put, List.setIfInBounds_toArray, List.set_cons_zero, List.set_cons_succ]
    refine wpAnyH_take (i := 6) (v := ?_) rfl (by kernel_rfl) (by kernel_rfl) (by kernel_rfl) (fun _ _ _ h => h) (Or.inl ⟨by rfl, ?_⟩) (by assumption) ?_
    rotate_left
    · (intro w hSw; (try dsimp only at hSw); go_simp; try with_reducible rfl)
    try simp only [List.getElem_toArray, List.getElem_cons_succ, List.getElem_cons_zero, Act.put, List.setIfInBounds_toArray, List.set_cons_zero, List.set_cons_succ]
    refine wpAnyH_take (i := 7) (v := ?_) rfl (by kernel_rfl) (by kernel_rfl) (by kernel_rfl) (fun _ _ _ h => h) (Or.inl ⟨by rfl, ?_⟩) (by assumption) ?_
    rotate_left
    · (intro w hSw; (try dsimp only at hSw); go_simp; try with_reducible rfl)
    try simp only [List.getElem_toArray, List.getElem_cons_succ, List.getElem_cons_zero, Act.put, List.setIfInBounds_toArray, List.set_cons_zero, List.set_cons_succ]
    refine wpAnyH_take (i := 8) (v := ?_) rfl (by kernel_rfl) (by kernel_rfl) (by kernel_rfl) (fun _ _ _ h => h) (Or.inl ⟨by rfl, ?_⟩) (by assumption) ?_
    rotate_left
    · (intro w hSw; (try dsimp only at hSw); go_simp; try with_reducible rfl)
    try simp only [List.getElem_toArray, List.getElem_cons_succ, List.getElem_cons_zero, Act.put, List.setIfInBounds_toArray, List.set_cons_zero, List.set_cons_succ]
    refine wpAnyH_take (i := 9) (v := ?_) rfl (by kernel_rfl) (by kernel_rfl) (by kernel_rfl) (fun _ _ _ h => h) (Or.inl ⟨by rfl, ?_⟩) (by assumption) ?_
    rotate_left
    · (intro w hSw; (try dsimp only at hSw); go_simp; try with_reducible rfl)
    try simp only [List.getElem_toArray, List.getElem_cons_succ, List.getElem_cons_zero, Act.put, List.setIfInBounds_toArray, List.set_cons_zero, List.set_cons_succ]
    refine wpAnyH_take (i := 10) (v := undef) rfl (by kernel_rfl) (by kernel_rfl) (by kernel_rfl) (fun _ _ _ h => h) (Or.inr ⟨by rfl, rfl⟩) (by assumption) ?_
    try simp only [List.getElem_toArray, List.getElem_cons_succ, List.getElem_cons_zero, Act.put, List.setIfInBounds_toArray, List.set_cons_zero, List.set_cons_succ]
    refine wpAnyH_take (i := 11) (v := undef) rfl (by kernel_rfl) (by kernel_rfl) (by kernel_rfl) (fun _ _ _ h => h) (Or.inr ⟨by rfl, rfl⟩) (by assumption) ?_
    try simp only [List.getElem_toArray, List.getElem_cons_succ, List.getElem_cons_zero, Act.put, List.setIfInBounds_toArray, List.set_cons_zero, List.set_cons_succ]
    refine wpAnyH_take (i := 12) (v := undef) rfl (by kernel_rfl) (by kernel_rfl) (by kernel_rfl) (fun _ _ _ h => h) (Or.inr ⟨by rfl, rfl⟩) (by assumption) ?_
    try simp only [List.getElem_toArray, List.getElem_cons_succ, List.getElem_cons_zero, Act.put, List.setIfInBounds_toArray, List.set_cons_zero, List.set_cons_succ]
    refine wpAnyH_take (i := 13) (v := undef) rfl (by kernel_rfl) (by kernel_rfl) (by kernel_rfl) (fun _ _ _ h => h) (Or.inr ⟨by rfl, rfl⟩) (by assumption) ?_
    try simp only [List.getElem_toArray, List.getElem_cons_succ, List.getElem_cons_zero, Act.put, List.setIfInBounds_toArray, List.set_cons_zero, List.set_cons_succ]
    refine wpAnyH_take (i := 14) (v := undef) rfl (by kernel_rfl) (by kernel_rfl) (by kernel_rfl) (fun _ _ _ h => h) (Or.inr ⟨by rfl, rfl⟩) (by assumption) ?_
    try simp only [List.getElem_toArray, List.getElem_cons_succ, List.getElem_cons_zero, Act.put, List.setIfInBounds_toArray, List.set_cons_zero, List.set_cons_succ]
    refine wpAnyH_take (i := 15) (v := undef) rfl (by kernel_rfl) (by kernel_rfl) (by kernel_rfl) (fun _ _ _ h => h) (Or.inr ⟨by rfl, rfl⟩) (by assumption) ?_
    try simp only [List.getElem_toArray, List.getElem_cons_succ, List.getElem_cons_zero, Act.put, List.setIfInBounds_toArray, List.set_cons_zero, List.set_cons_succ]
    refine wpAnyH_take (i := 16) (v := undef) rfl (by kernel_rfl) (by kernel_rfl) (by kernel_rfl) (fun _ _ _ h => h) (Or.inr ⟨by rfl, rfl⟩) (by assumption) ?_
    try simp only [List.getElem_toArray, List.getElem_cons_succ, List.getElem_cons_zero, Act.put, List.setIfInBounds_toArray, List.set_cons_zero, List.set_cons_succ]
    refine wpAnyH_take (i := 17) (v := undef) rfl (by kernel_rfl) (by kernel_rfl) (by kernel_rfl) (fun _ _ _ h => h) (Or.inr ⟨by rfl, rfl⟩) (by assumption) ?_
    try simp only [List.getElem_toArray, List.getElem_cons_succ, List.getElem_cons_zero, Act.put, List.setIfInBounds_toArray, List.set_cons_zero, List.set_cons_succ]
    refine wpAnyH_take (i := 18) (v := undef) rfl (by kernel_rfl) (by kernel_rfl) (by kernel_rfl) (fun _ _ _ h => h) (Or.inr ⟨by rfl, rfl⟩) (by assumption) ?_
    try simp only [List.getElem_toArray, List.getElem_cons_succ, List.getElem_cons_zero, Act.put, List.setIfInBounds_toArray, List.set_cons_zero, List.set_cons_succ]
    refine wpAnyH_take (i := 19) (v := undef) rfl (by kernel_rfl) (by kernel_rfl) (by kernel_rfl) (fun _ _ _ h => h) (Or.inr ⟨by rfl, rfl⟩) (by assumption) ?_
    try simp only [List.getElem_toArray, List.getElem_cons_succ, List.getElem_cons_zero, Act.put, List.setIfInBounds_toArray, List.set_cons_zero, List.set_cons_succ]
    refine wpAnyH_take (i := 20) (v := undef) rfl (by kernel_rfl) (by kernel_rfl) (by kernel_rfl) (fun _ _ _ h => h) (Or.inr ⟨by rfl, rfl⟩) (by assumption) ?_
    try simp only [List.getElem_toArray, List.getElem_cons_succ, List.getElem_cons_zero, Act.put, List.setIfInBounds_toArray, List.set_cons_zero, List.set_cons_succ]
    refine wpAnyH_take (i := 21) (v := ?_) rfl (by kernel_rfl) (by kernel_rfl) (by kernel_rfl) (fun _ _ _ h => h) (Or.inl ⟨by rfl, ?_⟩) (by assumption) ?_
    rotate_left
    · (intro w hSw; (try dsimp only at hSw); go_simp; try with_reducible rfl)
    try simp only [List.getElem_toArray, List.getElem_cons_succ, List.getElem_cons_zero, Act.put, List.setIfInBounds_toArray, List.set_cons_zero, List.set_cons_succ]
    refine wpAnyH_done (by kernel_rfl) ?_ _
    go_wp2
    go_end0
    exact ⟨rfl, HFIN.out _ HE1.out⟩
  | false =>
    have hfb : ¬ F w.heap.size := fun hh => Nat.lt_irrefl _ (h.lt _ hh)
    have hst : (s.setHd p q).stopped = false := by unfold Lst.setHd; split <;> exact hs
    obtain ⟨n, hn⟩ : ∃ n, n = w.heap.size := ⟨_, rfl⟩
    rw [← hn] at HX0 hfb
    obtain ⟨W0, hW0⟩ : ∃ W, W = w.alloc (.cells (hdC c0 c1 c2 c3 c4 c5 f least most sum pv) 110) := ⟨_, rfl⟩
    rw [← hW0] at HE0 HX0
    have HK : Hid (∀ u, Edit (fun _ => False) W0 u → u.cell? ⟨a.wr, 0, none⟩ = some (.pointer (some ⟨a.lb, 0, none⟩)) ∧ u.cell? ⟨a.lb, 23, none⟩ = some (.bool false) ∧ u.cell? ⟨n, 0, none⟩ = some (.int .i64 c0) ∧ u.cell? ⟨n, 1, none⟩ = some (.int .i64 c1) ∧ u.cell? ⟨n, 2, none⟩ = some (.int .i64 c2) ∧ u.cell? ⟨n, 3, none⟩ = some (.int .i64 c3) ∧ u.cell? ⟨n, 4, none⟩ = some (.int .i64 c4) ∧ u.cell? ⟨n, 5, none⟩ = some (.int .i64 c5) ∧ u.cell? ⟨n, 6, none⟩ = some (.bool f) ∧ u.cell? ⟨n, 7, none⟩ = some (.int .i64 least) ∧ u.cell? ⟨n, 8, none⟩ = some (.int .i64 most) ∧ u.cell? ⟨n, 9, none⟩ = some (.int .i64 sum) ∧ u.cell? ⟨n, 10, none⟩ = some pv) := fun u he => by
      have b := HX0.out.edit he id
      have c := HC.out u (HE0.out.trans he)
      rw [hs] at c
      exact ⟨c.1, c.2, b.cell 0, b.cell 1, b.cell 2, b.cell 3, b.cell 4, b.cell 5, b.cell 6, b.cell 7, b.cell 8, b.cell 9, b.cell 10⟩
    have HK2 : Hid (∀ u1 u, Edit (fun _ => False) W0 u1 → LineIs p a x F (s.setHd p q) u → Edit F u1 u → u.cell? ⟨a.wr, 0, none⟩ = some (.pointer (some ⟨a.lb, 0, none⟩)) ∧ u.cell? ⟨a.lb, 23, none⟩ = some (.bool false) ∧ u.cell? ⟨n, 0, none⟩ = some (.int .i64 c0) ∧ u.cell? ⟨n, 1, none⟩ = some (.int .i64 c1) ∧ u.cell? ⟨n, 2, none⟩ = some (.int .i64 c2) ∧ u.cell? ⟨n, 3, none⟩ = some (.int .i64 c3) ∧ u.cell? ⟨n, 4, none⟩ = some (.int .i64 c4) ∧ u.cell? ⟨n, 5, none⟩ = some (.int .i64 c5) ∧ u.cell? ⟨n, 6, none⟩ = some (.bool f) ∧ u.cell? ⟨n, 7, none⟩ = some (.int .i64 least) ∧ u.cell? ⟨n, 8, none⟩ = some (.int .i64 most) ∧ u.cell? ⟨n, 9, none⟩ = some (.int .i64 sum) ∧ u.cell? ⟨n, 10, none⟩ = some pv) := fun u1 u he hL h2 => by
      have b := (HX0.out.edit he id).edit h2 hfb
      obtain ⟨sv, fv, lv, hl, hw, -⟩ := hL.cells
      have c23 := hl.cell 23
      simp [lnC, hst] at c23
      exact ⟨hw.cell 0, c23, b.cell 0, b.cell 1, b.cell 2, b.cell 3, b.cell 4, b.cell 5, b.cell 6, b.cell 7, b.cell 8, b.cell 9, b.cell 10⟩
    have hS0 := HK.out W0.drew ((Edit.refl _ W0).drewN 1)
    have HLY := Hid.mk' (HLA.out hs W0.drew (HE0.out.drewN 1))
    have HSE : Hid (∀ u, Edit (fun _ => False) w u → Calls Tryz.prog 397 #[.pointer (some ⟨a.lb, 18, none⟩), .string (bs (hdT x q))] u fun e w' => e = .returned (.bool (!(s.tries p).failed)) ∧ LineIs p a x F (s.setHd p q) w' ∧ Edit F u w') := fun u he => (HL.out u he).setHd hwr q
    have HW0 := Hid.mk' hW0
    have hh1 : (s.tries p).failed = true → s.head p q = (s.setHd p q).halt := fun hf => head_fail hs hf
    have hh2 : (s.tries p).failed = false → s.head p q = s.setHd p q := fun hf => head_ok hs hf
    clear h hl hw HLA HLay HC HL hs hst hfb
    generalize bs (hdT x q) = tx at *
    generalize s.head p q = s2 at *
    generalize s.setHd p q = s1 at *
    generalize (s.tries p).failed = fl at *
    unfold ptrV at *
    go_enter Tryz.func391, Tryz.ntmps391
    go_wp2_with fail
    rw [← hW0, ← hn]
    clear hn hW0 HW0 hwl hll HX0
    refine wp_region_held_drew (S := fun w' => w'.cell? ⟨a.wr, 0, none⟩ = some (.pointer (some ⟨a.lb, 0, none⟩)) ∧ w'.cell? ⟨a.lb, 23, none⟩ = some (.bool false) ∧ w'.cell? ⟨n, 0, none⟩ = some (.int .i64 c0) ∧ w'.cell? ⟨n, 1, none⟩ = some (.int .i64 c1) ∧ w'.cell? ⟨n, 2, none⟩ = some (.int .i64 c2) ∧ w'.cell? ⟨n, 3, none⟩ = some (.int .i64 c3) ∧ w'.cell? ⟨n, 4, none⟩ = some (.int .i64 c4) ∧ w'.cell? ⟨n, 5, none⟩ = some (.int .i64 c5) ∧ w'.cell? ⟨n, 6, none⟩ = some (.bool f) ∧ w'.cell? ⟨n, 7, none⟩ = some (.int .i64 least) ∧ w'.cell? ⟨n, 8, none⟩ = some (.int .i64 most) ∧ w'.cell? ⟨n, 9, none⟩ = some (.int .i64 sum) ∧ w'.cell? ⟨n, 10, none⟩ = some pv) (by kernel_rfl) hS0 (fun hHeld => ?_)
    refine wpAnyH_take (i := 0) (v := ?_) rfl (by kernel_rfl) (by kernel_rfl) (by kernel_rfl) (fun _ _ _ h => h) (Or.inl ⟨by rfl, ?_⟩) (by assumption) ?_
    rotate_left
    · (intro w hSw; (try dsimp only at hSw); go_simp; try with_reducible rfl)
    try simp only [List.getElem_toArray, List.getElem_cons_succ, List.getElem_cons_zero, Act.put, List.setIfInBounds_toArray, List.set_cons_zero, List.set_cons_succ]
    refine wpAnyH_take (i := 1) (v := ?_) rfl (by kernel_rfl) (by kernel_rfl) (by kernel_rfl) (fun _ _ _ h => h) (Or.inl ⟨by rfl, ?_⟩) (by assumption) ?_
    rotate_left
    · (intro w hSw; (try dsimp only at hSw); go_simp; try with_reducible rfl)
    try simp only [List.getElem_toArray, List.getElem_cons_succ, List.getElem_cons_zero, Act.put, List.setIfInBounds_toArray, List.set_cons_zero, List.set_cons_succ]
    refine wpAnyH_take (i := 2) (v := ?_) rfl (by kernel_rfl) (by kernel_rfl) (by kernel_rfl) (fun _ _ _ h => h) (Or.inl ⟨by rfl, ?_⟩) (by assumption) ?_
    rotate_left
    · (intro w hSw; (try dsimp only at hSw); go_simp; try with_reducible rfl)
    try simp only [List.getElem_toArray, List.getElem_cons_succ, List.getElem_cons_zero, Act.put, List.setIfInBounds_toArray, List.set_cons_zero, List.set_cons_succ]
    refine wpAnyH_take (i := 3) (v := ?_) rfl (by kernel_rfl) (by kernel_rfl) (by kernel_rfl) (fun _ _ _ h => h) (Or.inl ⟨by rfl, ?_⟩) (by assumption) ?_
    rotate_left
    · (intro w hSw; (try dsimp only at hSw); go_simp; try with_reducible rfl)
    try simp only [List.getElem_toArray, List.getElem_cons_succ, List.getElem_cons_zero, Act.put, List.setIfInBounds_toArray, List.set_cons_zero, List.set_cons_succ]
    refine wpAnyH_take (i := 4) (v := ?_) rfl (by kernel_rfl) (by kernel_rfl) (by kernel_rfl) (fun _ _ _ h => h) (Or.inl ⟨by rfl, ?_⟩) (by assumption) ?_
    rotate_left
    · (intro w hSw; (try dsimp only at hSw); go_simp; try with_reducible rfl)
    try simp only [List.getElem_toArray, List.getElem_cons_succ, List.getElem_cons_zero, Act.put, List.setIfInBounds_toArray, List.set_cons_zero, List.set_cons_succ]
    refine wpAnyH_take (i := 5) (v := ?_) rfl (by kernel_rfl) (by kernel_rfl) (by kernel_rfl) (fun _ _ _ h => h) (Or.inl ⟨by rfl, ?_⟩) (by assumption) ?_
    rotate_left
    · (intro w hSw; (try dsimp only at hSw); go_simp; try with_reducible rfl)
    try simp only [List.getElem_toArray, List.getElem_cons_succ, List.getElem_cons_zero, Act.put, List.setIfInBounds_toArray, List.set_cons_zero, List.set_cons_succ]
    refine wpAnyH_take (i := 6) (v := ?_) rfl (by kernel_rfl) (by kernel_rfl) (by kernel_rfl) (fun _ _ _ h => h) (Or.inl ⟨by rfl, ?_⟩) (by assumption) ?_
    rotate_left
    · (intro w hSw; (try dsimp only at hSw); go_simp; try with_reducible rfl)
    try simp only [List.getElem_toArray, List.getElem_cons_succ, List.getElem_cons_zero, Act.put, List.setIfInBounds_toArray, List.set_cons_zero, List.set_cons_succ]
    refine wpAnyH_take (i := 7) (v := ?_) rfl (by kernel_rfl) (by kernel_rfl) (by kernel_rfl) (fun _ _ _ h => h) (Or.inl ⟨by rfl, ?_⟩) (by assumption) ?_
    rotate_left
    · (intro w hSw; (try dsimp only at hSw); go_simp; try with_reducible rfl)
    try simp only [List.getElem_toArray, List.getElem_cons_succ, List.getElem_cons_zero, Act.put, List.setIfInBounds_toArray, List.set_cons_zero, List.set_cons_succ]
    refine wpAnyH_take (i := 8) (v := ?_) rfl (by kernel_rfl) (by kernel_rfl) (by kernel_rfl) (fun _ _ _ h => h) (Or.inl ⟨by rfl, ?_⟩) (by assumption) ?_
    rotate_left
    · (intro w hSw; (try dsimp only at hSw); go_simp; try with_reducible rfl)
    try simp only [List.getElem_toArray, List.getElem_cons_succ, List.getElem_cons_zero, Act.put, List.setIfInBounds_toArray, List.set_cons_zero, List.set_cons_succ]
    refine wpAnyH_take (i := 9) (v := ?_) rfl (by kernel_rfl) (by kernel_rfl) (by kernel_rfl) (fun _ _ _ h => h) (Or.inl ⟨by rfl, ?_⟩) (by assumption) ?_
    rotate_left
    · (intro w hSw; (try dsimp only at hSw); go_simp; try with_reducible rfl)
    try simp only [List.getElem_toArray, List.getElem_cons_succ, List.getElem_cons_zero, Act.put, List.setIfInBounds_toArray, List.set_cons_zero, List.set_cons_succ]
    refine wpAnyH_take (i := 10) (v := ?_) rfl (by kernel_rfl) (by kernel_rfl) (by kernel_rfl) (fun _ _ _ h => h) (Or.inl ⟨by rfl, ?_⟩) (by assumption) ?_
    rotate_left
    · (intro w hSw; (try dsimp only at hSw); go_simp; try with_reducible rfl)
    try simp only [List.getElem_toArray, List.getElem_cons_succ, List.getElem_cons_zero, Act.put, List.setIfInBounds_toArray, List.set_cons_zero, List.set_cons_succ]
    refine wpAnyH_take (i := 11) (v := ?_) rfl (by kernel_rfl) (by kernel_rfl) (by kernel_rfl) (fun _ _ _ h => h) (Or.inl ⟨by rfl, ?_⟩) (by assumption) ?_
    rotate_left
    · (intro w hSw; (try dsimp only at hSw); go_simp; try with_reducible rfl)
    try simp only [List.getElem_toArray, List.getElem_cons_succ, List.getElem_cons_zero, Act.put, List.setIfInBounds_toArray, List.set_cons_zero, List.set_cons_succ]
    refine wpAnyH_take (i := 12) (v := ?_) rfl (by kernel_rfl) (by kernel_rfl) (by kernel_rfl) (fun _ _ _ h => h) (Or.inl ⟨by rfl, ?_⟩) (by assumption) ?_
    rotate_left
    · (intro w hSw; (try dsimp only at hSw); go_simp; try with_reducible rfl)
    try simp only [List.getElem_toArray, List.getElem_cons_succ, List.getElem_cons_zero, Act.put, List.setIfInBounds_toArray, List.set_cons_zero, List.set_cons_succ]
    refine wpAnyH_take (i := 13) (v := ?_) rfl (by kernel_rfl) (by kernel_rfl) (by kernel_rfl) (fun _ _ _ h => h) (Or.inl ⟨by rfl, ?_⟩) (by assumption) ?_
    rotate_left
    · (intro w hSw; (try dsimp only at hSw); go_simp; try with_reducible rfl)
    try simp only [List.getElem_toArray, List.getElem_cons_succ, List.getElem_cons_zero, Act.put, List.setIfInBounds_toArray, List.set_cons_zero, List.set_cons_succ]
    refine wpAnyH_take (i := 14) (v := ?_) rfl (by kernel_rfl) (by kernel_rfl) (by kernel_rfl) (fun _ _ _ h => h) (Or.inl ⟨by rfl, ?_⟩) (by assumption) ?_
    rotate_left
    · (intro w hSw; (try dsimp only at hSw); go_simp; try with_reducible rfl)
    try simp only [List.getElem_toArray, List.getElem_cons_succ, List.getElem_cons_zero, Act.put, List.setIfInBounds_toArray, List.set_cons_zero, List.set_cons_succ]
    refine wpAnyH_take (i := 15) (v := ?_) rfl (by kernel_rfl) (by kernel_rfl) (by kernel_rfl) (fun _ _ _ h => h) (Or.inl ⟨by rfl, ?_⟩) (by assumption) ?_
    rotate_left
    · (intro w hSw; (try dsimp only at hSw); go_simp; try with_reducible rfl)
    try simp only [List.getElem_toArray, List.getElem_cons_succ, List.getElem_cons_zero, Act.put, List.setIfInBounds_toArray, List.set_cons_zero, List.set_cons_succ]
    refine wpAnyH_take (i := 16) (v := ?_) rfl (by kernel_rfl) (by kernel_rfl) (by kernel_rfl) (fun _ _ _ h => h) (Or.inl ⟨by rfl, ?_⟩) (by assumption) ?_
    rotate_left
    · (intro w hSw; (try dsimp only at hSw); go_simp; try with_reducible rfl)
    try simp only [List.getElem_toArray, List.getElem_cons_succ, List.getElem_cons_zero, Act.put, List.setIfInBounds_toArray, List.set_cons_zero, List.set_cons_succ]
    refine wpAnyH_take (i := 17) (v := ?_) rfl (by kernel_rfl) (by kernel_rfl) (by kernel_rfl) (fun _ _ _ h => h) (Or.inl ⟨by rfl, ?_⟩) (by assumption) ?_
    rotate_left
    · (intro w hSw; (try dsimp only at hSw); go_simp; try with_reducible rfl)
    try simp only [List.getElem_toArray, List.getElem_cons_succ, List.getElem_cons_zero, Act.put, List.setIfInBounds_toArray, List.set_cons_zero, List.set_cons_succ]
    refine wpAnyH_ready (rs := [18]) (by kernel_rfl) (by simp) ?_
    refine AllReadyH.cons rfl (fun K hK => ?_) (AllReadyH.nil)
    go_simp
    go_at_call 129
    refine HLY.out.mono ?_
    rintro e u1 ⟨rfl, hb⟩
    have HE1 : Hid (Edit (fun _ => False) W0 u1) := Edit.of (⟨hb.os, hb.tape, hb.output, hb.size, hb.block⟩ : Below W0.heap.size W0 u1)
    have hS1 := HK.out u1 HE1.out
    have HS1 := Hid.mk' (HSE.out u1 (HE0.out.trans HE1.out))
    clear hb HLY HSE
    go_wp2_with fail
    refine hK.out _ _ hS1 (fun hHeld => ?_)
    clear hK K
    try simp only [List.getElem_toArray, List.getElem_cons_succ, List.getElem_cons_zero, Act.put, List.setIfInBounds_toArray, List.set_cons_zero, List.set_cons_succ]
    refine wpAnyH_ready (rs := [19]) (by kernel_rfl) (by simp) ?_
    refine AllReadyH.cons rfl (fun K hK => ?_) (AllReadyH.nil)
    go_simp
    go_at_call 397
    refine HS1.out.mono ?_
    rintro e u2 ⟨rfl, hL, he⟩
    have hS2 := HK2.out u1 u2 HE1.out hL he
    have HLI := Hid.mk' hL
    have HED : Hid (Edit F w u2) := ((HE0.out.trans HE1.out).mono fun _ h => h.elim).trans he
    clear hL he HS1 hS1 hS0
    go_wp2_with fail
    refine hK.out _ _ hS2 (fun hHeld => ?_)
    clear hK K
    try simp only [List.getElem_toArray, List.getElem_cons_succ, List.getElem_cons_zero, Act.put, List.setIfInBounds_toArray, List.set_cons_zero, List.set_cons_succ]
    refine wpAnyH_take (i := 20) (v := ?_) rfl (by kernel_rfl) (by kernel_rfl) (by kernel_rfl) (fun _ _ _ h => h) (Or.inl ⟨by rfl, ?_⟩) (by assumption) ?_
    rotate_left
    · (intro w hSw; (try dsimp only at hSw); go_simp; try with_reducible rfl)
    try simp only [List.getElem_toArray, List.getElem_cons_succ, List.getElem_cons_zero, Act.put, List.setIfInBounds_toArray, List.set_cons_zero, List.set_cons_succ]
    refine wpAnyH_take (i := 21) (v := ?_) rfl (by kernel_rfl) (by kernel_rfl) (by kernel_rfl) (fun _ _ _ h => h) (Or.inl ⟨by rfl, ?_⟩) (by assumption) ?_
    rotate_left
    · (intro w hSw; (try dsimp only at hSw); go_simp; try with_reducible rfl)
    try simp only [List.getElem_toArray, List.getElem_cons_succ, List.getElem_cons_zero, Act.put, List.setIfInBounds_toArray, List.set_cons_zero, List.set_cons_succ]
    refine wpAnyH_done (by kernel_rfl) ?_ _
    cases fl with
    | true =>
      have hh := hh1 rfl
      subst hh
      have HST := Hid.mk' (stop_any HLI.out)
      have y0 := hS2.1
      unfold ptrV at HST
      clear hS2
      go_wp2_with (go_at_call 115; refine HST.out.mono ?_; rintro e u3 ⟨rfl, hL, he⟩; have HZ := Hid.mk' (And.intro hL (HED.out.trans he)); clear hL he HST)
      go_end0
      exact ⟨rfl, HZ.out⟩
    | false =>
      have hh := hh2 rfl
      subst hh
      clear hS2
      go_wp2
      go_end0
      exact ⟨rfl, HLI.out, HED.out⟩
end Go.Proofs.YtlncjgnomhpjnabGreatDoor

