import Derived.Test.YtlncjgnomhpjnabGreatDoorQT30
import Derived.Test.YtlncjgnomhpjnabGreatDoorQT21
/-
  What the steps do: the splitter's end.
-/
namespace Go.Proofs.YtlncjgnomhpjnabGreatDoor
open Go.RowKit Go.Deep
set_option linter.unusedVariables false
/-- What is a line's own grows by new blocks alone. -/
def Own (F F' : Nat → Prop) (w : World) : Prop := (∀ k, F k → F' k) ∧ ∀ k, F' k → F k ∨ w.heap.size ≤ k
theorem Own.refl (F : Nat → Prop) (w : World) : Own F F w := ⟨fun _ h => h, fun _ h => Or.inl h⟩
theorem Edit.one (v : World) (g j : Nat) (z : Value) : Edit (fun k => k = g) v (v.setCell ⟨g, j, none⟩ z) := Edit.cell (Edit.refl (fun k => k = g) v) (Or.inl rfl) j z
set_option maxHeartbeats 1000000 in
theorem spEnd_any {p : Lpar} {a : Lad} {x : Lsn} {F : Nat → Prop} {s : Lst} {w : World} (h : LineIs p a x F s w) (he0 : s.e0 = false) :
    Calls Tryz.prog 374 #[ptrV a.sp] w fun e w' => e = .returned (.tuple #[]) ∧ LineIs p a x F { s with e0 := true } w' ∧ Edit F w w' := by
  obtain ⟨sv, fv, lv, hl, hw, -⟩ := h.cells
  obtain ⟨o1, o2, o3, o4, o5, o6, o7, o8, o9, o10, o11, o12, o13⟩ := h.own
  obtain ⟨n1, n2, n3, n4, n5⟩ := h.ne
  have hkd := h.kinds
  have kd1 := hkd.lb; have kd2 := hkd.sp; have kd3 := hkd.su; have kd4 := hkd.wr; have kd5 := hkd.qj; have kd6 := hkd.ql; have kd7 := hkd.qr; have kd8 := hkd.cj; have kd9 := hkd.cl; have kd10 := hkd.cr
  have x14 := hl.cell 14
  have y0 := h.spl.cell 0
  simp [lnC, ptrV] at x14 y0
  have hj := h.jobs
  have hla := h.lane
  rw [he0] at hj hla
  have HC1 := Hid.mk' (close_block _ _ _ _ _ hj)
  have HC2 := Hid.mk' (fun (u : World) (hu : Edit (fun k => k = a.qj ∨ k = a.cj) w u) => close_block _ _ _ _ _ (hla.edit hu (by grind) (by grind)))
  have HX1 : Hid (∀ (u : World) (hu : Edit (fun k => k = a.qj ∨ k = a.cj) w u), Bx u a.lb 160 (lnC p a x s sv fv) ∧ Bx u a.sp 165 #[ptrV a.lb, .bool s.e0, .slice (some ⟨a.lg, 0, none⟩) x.ch a.lc, .int .i64 s.given]) :=
    fun u hu => ⟨hl.edit hu (by grind), h.spl.edit hu (by grind)⟩
  have HD : Hid (∀ (u v : World), QIs u a.qj a.cj 247 p.Rm (s.jobs.map (blV a x)).toArray true → Edit (fun k => k = a.qj ∨ k = a.cj) w u → QIs v a.ql a.cl 247 p.Rm (s.lane.map (blV a x)).toArray true → Edit (fun k => k = a.ql ∨ k = a.cl) u v →
      (Bx v a.sp 165 #[ptrV a.lb, .bool s.e0, .slice (some ⟨a.lg, 0, none⟩) x.ch a.lc, .int .i64 s.given]) ∧ LineIs p a x F { s with e0 := true } (v.setCell ⟨a.sp, 1, none⟩ (.bool true)) ∧ Edit F w (v.setCell ⟨a.sp, 1, none⟩ (.bool true))) := by
    intro u v q1 e1 q2 e2
    have e3 : Edit (fun k => k = a.qj ∨ k = a.cj ∨ k = a.ql ∨ k = a.cl ∨ k = a.sp) w (v.setCell ⟨a.sp, 1, none⟩ (.bool true)) := ((e1.mono (by grind)).trans (e2.mono (by grind))).cell (by grind) 1 _
    have hsp : Bx v a.sp 165 #[ptrV a.lb, .bool s.e0, .slice (some ⟨a.lg, 0, none⟩) x.ch a.lc, .int .i64 s.given] := (h.spl.edit e1 (by grind)).edit e2 (by grind)
    have e4 : Edit (fun k => k = a.sp) v (v.setCell ⟨a.sp, 1, none⟩ (.bool true)) := Edit.one v a.sp 1 _
    refine ⟨hsp, h.edit e3 (fun _ hk => hk) (fun k hk => Nat.lt_of_lt_of_le (h.lt k hk) e3.size) (by unfold Firm; grind) (h.cellsOk e3 (fun _ hk => hk) (by grind) (by grind) (by grind)) (hsp.set 1 (.bool true)) (h.sum.edit e3 (by grind)) (h.workOk e3 (fun _ hk => hk) (by grind))
      ((q1.edit e2 (by grind) (by grind)).edit e4 (by grind) (by grind)) (q2.edit e4 (by grind) (by grind)) (h.ready.edit e3 (by grind) (by grind)) rfl, e3.mono (by grind)⟩
  clear hj hla h hl hw hkd kd1 kd2 kd3 kd4 kd5 kd6 kd7 kd8 kd9 kd10 n1 n2 n3 n4 n5 o1 o2 o3 o4 o5 o6 o7 o8 o9 o10 o11 o12 o13
  unfold ptrV at *
  go_enter Tryz.func374, Tryz.ntmps374
  go_wp2_with (first
    | (go_at_call_of 371 a.qj; refine HC1.out.mono ?_; rintro e w1 ⟨rfl, q1, e1⟩; have z0 := (HX1.out w1 e1).2.cell 0; have z15 := (HX1.out w1 e1).1.cell 15; simp [lnC, ptrV] at z0 z15; have HQ1 := Hid.mk' q1; have HE1 := Hid.mk' e1; clear HC1 q1 e1)
    | (go_at_call_of 371 a.ql; refine (HC2.out w1 HE1.out).mono ?_; rintro e w2 ⟨rfl, q2, e2⟩; have HZ := Hid.mk' (HD.out w1 w2 HQ1.out HE1.out q2 e2); have t0 := HZ.out.1.cell 0; have t1 := HZ.out.1.cell 1; have f1 := HZ.out.1.free 1; simp at t0 t1; clear HC2 q2 e2))
  go_end0
  exact ⟨rfl, HZ.out.2⟩
end Go.Proofs.YtlncjgnomhpjnabGreatDoor

/-
  What the steps do: a worker lets its block go, or takes one, or ends.
-/
namespace Go.Proofs.YtlncjgnomhpjnabGreatDoor
open Go.RowKit Go.Deep
set_option linter.unusedVariables false
/-- The workers, where one of them is changed. -/
theorem LineIs.workOk1 {p : Lpar} {a : Lad} {x : Lsn} {F F' : Nat → Prop} {s s' : Lst} {w w' : World} {S : Nat → Prop} (h : LineIs p a x F s w) (he : Edit S w w') (hF : ∀ k, F k → F' k) (j : Nat) (hj : j < p.W)
    (h1 : ∀ k, kn w k = 173 + 1 → k ≠ a.wk j → ¬ S k) (h2 : ∀ k, kn w k = 145 + 1 → ¬ S k)
    (hs : ∀ i, i ≠ j → s'.ew i = s.ew i ∧ s'.held i = s.held i) (v : Value) (hb : Bx w' (a.wk j) 173 #[ptrV a.lb, .bool (s'.ew j), v])
    (hv : (s'.held j = none ∧ v = .pointer none) ∨ ∃ k g, s'.held j = some k ∧ v = ptrV g ∧ F' g ∧ Bx w' g 145 #[.int .i64 k, .slice (some ⟨a.gb k, 0, none⟩) x.ch x.ch]) : WorkOk p a x F' s' w' := by
  obtain ⟨hv0, k1, k2⟩ := h.wrk
  have hn := h.ne.2.2.2.2
  rcases hv with ⟨hz, rfl⟩ | ⟨k, g, hz, rfl, hg, hbg⟩
  · refine ⟨hv0, fun i hi => ?_, fun i k hi hk => ?_⟩
    · by_cases e : i = j
      · subst e
        have : heV hv0 s' i = .pointer none := by simp only [heV, hz]
        rw [this]
        exact hb
      · have : heV hv0 s' i = heV hv0 s i := by simp only [heV, (hs i e).2]
        rw [this, (hs i e).1]
        exact (k1 i hi).edit he (h1 _ (k1 i hi).kn fun hh => e (hn i j hi hj hh))
    · by_cases e : i = j
      · subst e
        rw [hz] at hk
        cases hk
      · rw [(hs i e).2] at hk
        exact ⟨hF _ (k2 i k hi hk).1, (k2 i k hi hk).2.edit he (h2 _ (k2 i k hi hk).2.kn)⟩
  · refine ⟨fun i => if i = j then g else hv0 i, fun i hi => ?_, fun i k' hi hk => ?_⟩
    · by_cases e : i = j
      · subst e
        have : heV (fun q => if q = i then g else hv0 q) s' i = ptrV g := by simp only [heV, hz, if_true]
        rw [this]
        exact hb
      · have : heV (fun q => if q = j then g else hv0 q) s' i = heV hv0 s i := by simp only [heV, (hs i e).2, if_neg e]
        rw [this, (hs i e).1]
        exact (k1 i hi).edit he (h1 _ (k1 i hi).kn fun hh => e (hn i j hi hj hh))
    · by_cases e : i = j
      · subst e
        rw [hz] at hk
        cases hk
        simp only [if_true]
        exact ⟨hg, hbg⟩
      · rw [(hs i e).2] at hk
        simp only [if_neg e]
        exact ⟨hF _ (k2 i k' hi hk).1, (k2 i k' hi hk).2.edit he (h2 _ (k2 i k' hi hk).2.kn)⟩
theorem wkLet_any {p : Lpar} {a : Lad} {x : Lsn} {F : Nat → Prop} {s : Lst} {w : World} (h : LineIs p a x F s w) (j : Nat) (hj : j < p.W) :
    Calls Tryz.prog 412 #[ptrV (a.wk j)] w fun e w' => e = .returned (.tuple #[]) ∧ LineIs p a x F { s with held := updL s.held j none } w' ∧ Edit F w w' := by
  obtain ⟨hv, k1, k2⟩ := h.wrk
  have hb := k1 j hj
  have y2 := hb.cell 2
  have f2 := hb.free 2
  simp at y2
  have hkd := h.kinds
  have kd1 := hkd.lb; have kd2 := hkd.sp; have kd3 := hkd.su; have kd4 := hkd.wr; have kd5 := hkd.qj; have kd6 := hkd.ql; have kd7 := hkd.qr; have kd8 := hkd.cj; have kd9 := hkd.cl; have kd10 := hkd.cr
  have kw := hb.kn
  have HD : Hid (LineIs p a x F { s with held := updL s.held j none } (w.setCell ⟨a.wk j, 2, none⟩ (.pointer none)) ∧ Edit F w (w.setCell ⟨a.wk j, 2, none⟩ (.pointer none))) := by
    have e3 := Edit.one w (a.wk j) 2 (.pointer none)
    refine ⟨h.edit e3 (fun _ hk => hk) (fun k hk => Nat.lt_of_lt_of_le (h.lt k hk) e3.size) (by unfold Firm; grind) (h.cellsOk e3 (fun _ hk => hk) (by grind) (by grind) (by grind)) (h.spl.edit e3 (by grind)) (h.sum.edit e3 (by grind))
      (h.workOk1 e3 (fun _ hk => hk) j hj (by grind) (by grind) (fun i hi => ⟨rfl, by simp [updL, hi]⟩) (.pointer none) (hb.set 2 (.pointer none)) (Or.inl ⟨by simp [updL], rfl⟩))
      (h.jobs.edit e3 (by grind) (by grind)) (h.lane.edit e3 (by grind) (by grind)) (h.ready.edit e3 (by grind) (by grind)) rfl, e3.mono fun k hk => hk ▸ h.own.2.2.2.2.2.2.2.2.2.2.2.2 j hj⟩
  clear h k1 k2 hb hkd kd1 kd2 kd3 kd4 kd5 kd6 kd7 kd8 kd9 kd10 kw
  unfold ptrV at *
  go_enter Tryz.func412, Tryz.ntmps412
  go_wp2
  go_end0
  exact ⟨rfl, HD.out⟩
theorem infoBlk : (Tryz.prog.info? 145).map (·.size) = some 2 := by kernel_rfl
theorem ext_one (f : Nat → Value) (k : Nat) (r : List Nat) : (((k :: r).map f).toArray).extract 1 (((k :: r).map f).toArray).size = (r.map f).toArray := by
  simp
  rw [List.take_of_length_le (by simp)]
set_option maxHeartbeats 1000000 in
theorem wkTake_any {p : Lpar} {a : Lad} {x : Lsn} {F : Nat → Prop} {s : Lst} {w : World} (h : LineIs p a x F s w) (j : Nat) (hj : j < p.W) (k : Nat) (r : List Nat) (hk : s.jobs = k :: r) :
    Calls Tryz.prog 411 #[ptrV (a.wk j)] w fun e w' => e = .returned (.tuple #[]) ∧ ∃ F', Own F F' w ∧ LineIs p a x F' { s with jobs := r, held := updL s.held j (some k) } w' ∧ Edit F w w' := by
  obtain ⟨sv, fv, lv, hl, hw, -⟩ := h.cells
  obtain ⟨hv, k1, k2⟩ := h.wrk
  have hb := k1 j hj
  have x14 := hl.cell 14
  have y0 := hb.cell 0
  simp [lnC, ptrV] at x14 y0
  have hkd := h.kinds
  have kd1 := hkd.lb; have kd2 := hkd.sp; have kd3 := hkd.su; have kd4 := hkd.wr; have kd5 := hkd.qj; have kd6 := hkd.ql; have kd7 := hkd.qr; have kd8 := hkd.cj; have kd9 := hkd.cl; have kd10 := hkd.cr
  obtain ⟨n1, n2, n3, n4, n5⟩ := h.ne
  have kw := hb.kn
  have hq := h.jobs
  rw [hk] at hq
  have HT := Hid.mk' (take_block _ _ _ _ _ (.int .i64 k) (.slice (some ⟨a.gb k, 0, none⟩) x.ch x.ch) w hq rfl ⟨rfl, rfl⟩)
  rw [ext_one] at HT
  have HD : Hid (∀ u : World, QIs u a.qj a.cj 247 p.Rm (r.map (blV a x)).toArray s.e0 → Edit (· = a.cj) w u →
      Bx ((u.alloc (.cells #[.int .i64 0, .slice none 0 0] 145)).setRow u.heap.size #[.int .i64 k, .slice (some ⟨a.gb k, 0, none⟩) x.ch x.ch]) (a.wk j) 173 #[ptrV a.lb, .bool (s.ew j), heV hv s j] ∧
      ∃ F', Own F F' w ∧ LineIs p a x F' { s with jobs := r, held := updL s.held j (some k) } (((u.alloc (.cells #[.int .i64 0, .slice none 0 0] 145)).setRow u.heap.size #[.int .i64 k, .slice (some ⟨a.gb k, 0, none⟩) x.ch x.ch]).setCell ⟨a.wk j, 2, none⟩ (ptrV u.heap.size)) ∧
        Edit F w (((u.alloc (.cells #[.int .i64 0, .slice none 0 0] 145)).setRow u.heap.size #[.int .i64 k, .slice (some ⟨a.gb k, 0, none⟩) x.ch x.ch]).setCell ⟨a.wk j, 2, none⟩ (ptrV u.heap.size))) := by
    intro u q1 e1
    obtain ⟨v, hvv⟩ : ∃ v, v = (u.alloc (.cells #[.int .i64 0, .slice none 0 0] 145)).setRow u.heap.size #[.int .i64 k, .slice (some ⟨a.gb k, 0, none⟩) x.ch x.ch] := ⟨_, rfl⟩
    have ev : Edit (fun _ => False) u v := by rw [hvv]; exact ((Edit.refl _ u).alloc _).row (Nat.le_refl _) _
    have hbx : Bx v u.heap.size 145 #[.int .i64 k, .slice (some ⟨a.gb k, 0, none⟩) x.ch x.ch] := by rw [hvv]; exact (Bx.new u _ _).row _
    have hvs : u.heap.size < v.heap.size := hbx.lt
    rw [← hvv]
    clear hvv
    have e2 : Edit (· = a.cj) w v := e1.trans (ev.mono fun _ hh => hh.elim)
    have hwv := hb.edit e2 (by grind)
    have hwl : a.wk j < w.heap.size := hb.lt
    have hsz := e1.size
    have e4 := Edit.one v (a.wk j) 2 (ptrV u.heap.size)
    have e3 : Edit (fun q => q = a.cj ∨ q = a.wk j) w (v.setCell ⟨a.wk j, 2, none⟩ (ptrV u.heap.size)) := (e2.mono (by grind)).trans (e4.mono (by grind))
    refine ⟨hwv, fun q => F q ∨ q = u.heap.size, ⟨fun _ hh => Or.inl hh, fun q hh => by rcases hh with hh | rfl; exact Or.inl hh; exact Or.inr hsz⟩, h.edit e3 (fun _ hh => Or.inl hh) ?_ (by unfold Firm; grind) (h.cellsOk e3 (fun _ hh => Or.inl hh) (by grind) (by grind) (by grind)) (h.spl.edit e3 (by grind)) (h.sum.edit e3 (by grind))
      (h.workOk1 e3 (fun _ hh => Or.inl hh) j hj (by grind) (by grind) (fun i hi => ⟨rfl, by simp [updL, hi]⟩) (ptrV u.heap.size) (hwv.set 2 (ptrV u.heap.size)) (Or.inr ⟨k, u.heap.size, by simp [updL], rfl, Or.inr rfl, hbx.edit e4 (by grind)⟩))
      ((q1.edit ev id id).edit e4 (by grind) (by grind)) (h.lane.edit e3 (by grind) (by grind)) (h.ready.edit e3 (by grind) (by grind)) rfl, e3.mono fun q hq => ?_⟩
    · rintro q (hq | rfl)
      · exact Nat.lt_of_lt_of_le (h.lt q hq) e3.size
      · exact Nat.lt_of_lt_of_le hvs e4.size
    · rcases hq with rfl | rfl
      · exact h.own.2.2.2.2.2.2.2.1
      · exact h.own.2.2.2.2.2.2.2.2.2.2.2.2 j hj
  clear h k1 k2 hl hw hb hkd kd1 kd2 kd3 kd4 kd5 kd6 kd7 kd8 kd9 kd10 kw n1 n2 n3 n4 n5 hq
  unfold ptrV at *
  go_enter Tryz.func411, Tryz.ntmps411
  go_wp2_with (first
    | (go_at_call 385; refine HT.out.mono ?_; rintro e w1 ⟨rfl, q1, e1⟩; have HZ := Hid.mk' (HD.out w1 q1 e1); have t2 := HZ.out.1.cell 2; have f2 := HZ.out.1.free 2; simp at t2; clear HT q1 e1)
    | (refine wpList_storeRow rfl _ _ 145 rfl w1.heap.size 145 _ _ rfl rfl (Bx.new w1 #[.int .i64 0, .slice none 0 0] 145) infoBlk rfl rfl ?_))
  go_end0
  exact ⟨rfl, HZ.out.2⟩
end Go.Proofs.YtlncjgnomhpjnabGreatDoor

/-
  What the steps do: a worker ends.
-/
namespace Go.Proofs.YtlncjgnomhpjnabGreatDoor
open Go.RowKit Go.Deep
set_option linter.unusedVariables false
theorem shut_false {p : Lpar} {s : Lst} {j : Nat} (hj : j < p.W) (h : s.ew j = false) : s.shut p = false := by
  unfold Lst.shut
  rw [List.all_eq_false]
  exact ⟨j, List.mem_range.2 hj, by simp [h]⟩
theorem shut_true {p : Lpar} {s : Lst} (h : ∀ j, j < p.W → s.ew j = true) : s.shut p = true := by
  unfold Lst.shut
  rw [List.all_eq_true]
  exact fun j hj => h j (List.mem_range.1 hj)
/-- A worker that has ended: its cell. -/
theorem wkEnded {p : Lpar} {a : Lad} {x : Lsn} {F : Nat → Prop} {s : Lst} {w : World} (h : LineIs p a x F s w) (j : Nat) (hj : j < p.W) (hh : s.held j = none) (hs : ({ s with ew := updL s.ew j true } : Lst).shut p = s.shut p) :
    LineIs p a x F { s with ew := updL s.ew j true } (w.setCell ⟨a.wk j, 1, none⟩ (.bool true)) ∧ Edit F w (w.setCell ⟨a.wk j, 1, none⟩ (.bool true)) := by
  obtain ⟨hv, k1, k2⟩ := h.wrk
  have hb := k1 j hj
  have hkd := h.kinds
  have kd1 := hkd.lb; have kd2 := hkd.sp; have kd3 := hkd.su; have kd4 := hkd.wr; have kd5 := hkd.qj; have kd6 := hkd.ql; have kd7 := hkd.qr; have kd8 := hkd.cj; have kd9 := hkd.cl; have kd10 := hkd.cr
  have kw := hb.kn
  have e3 := Edit.one w (a.wk j) 1 (.bool true)
  have hb1 : Bx (w.setCell ⟨a.wk j, 1, none⟩ (.bool true)) (a.wk j) 173 #[ptrV a.lb, .bool true, .pointer none] := by
    have := hb.set 1 (.bool true)
    simpa [heV, hh] using this
  refine ⟨h.edit e3 (fun _ hk => hk) (fun k hk => Nat.lt_of_lt_of_le (h.lt k hk) e3.size) (by unfold Firm; grind) (h.cellsOk e3 (fun _ hk => hk) (by grind) (by grind) (by grind)) (h.spl.edit e3 (by grind)) (h.sum.edit e3 (by grind))
    (h.workOk1 e3 (fun _ hk => hk) j hj (by grind) (by grind) (fun i hi => ⟨by simp [updL, hi], rfl⟩) (.pointer none) (by simpa [updL] using hb1) (Or.inl ⟨hh, rfl⟩))
    (h.jobs.edit e3 (by grind) (by grind)) (h.lane.edit e3 (by grind) (by grind)) (by rw [hs]; exact h.ready.edit e3 (by grind) (by grind)) rfl, e3.mono fun k hk => hk ▸ h.own.2.2.2.2.2.2.2.2.2.2.2.2 j hj⟩
/-- .. and ready is shut. -/
theorem wkShut {p : Lpar} {a : Lad} {x : Lsn} {F : Nat → Prop} {s : Lst} {w u : World} (h : LineIs p a x F s w) (j : Nat) (hj : j < p.W) (hh : s.held j = none) (hs : ({ s with ew := updL s.ew j true } : Lst).shut p = true)
    (hq : QIs u a.qr a.cr 250 p.Rm (s.ready.map (pkV x)).toArray true) (he : Edit (fun k => k = a.qr ∨ k = a.cr) (w.setCell ⟨a.wk j, 1, none⟩ (.bool true)) u) :
    LineIs p a x F { s with ew := updL s.ew j true } u ∧ Edit F w u := by
  obtain ⟨hv, k1, k2⟩ := h.wrk
  have hb := k1 j hj
  have hkd := h.kinds
  have kd1 := hkd.lb; have kd2 := hkd.sp; have kd3 := hkd.su; have kd4 := hkd.wr; have kd5 := hkd.qj; have kd6 := hkd.ql; have kd7 := hkd.qr; have kd8 := hkd.cj; have kd9 := hkd.cl; have kd10 := hkd.cr
  obtain ⟨n1, n2, n3, n4, n5⟩ := h.ne
  have kw := hb.kn
  have e0 := Edit.one w (a.wk j) 1 (.bool true)
  have e3 : Edit (fun k => k = a.wk j ∨ k = a.qr ∨ k = a.cr) w u := (e0.mono (by grind)).trans (he.mono (by grind))
  have hb1 : Bx u (a.wk j) 173 #[ptrV a.lb, .bool true, .pointer none] := by
    have := (hb.set 1 (.bool true)).edit he (by grind)
    simpa [heV, hh] using this
  refine ⟨h.edit e3 (fun _ hk => hk) (fun k hk => Nat.lt_of_lt_of_le (h.lt k hk) e3.size) (by unfold Firm; grind) (h.cellsOk e3 (fun _ hk => hk) (by grind) (by grind) (by grind)) (h.spl.edit e3 (by grind)) (h.sum.edit e3 (by grind))
    (h.workOk1 e3 (fun _ hk => hk) j hj (by grind) (by grind) (fun i hi => ⟨by simp [updL, hi], rfl⟩) (.pointer none) (by simpa [updL] using hb1) (Or.inl ⟨hh, rfl⟩))
    (h.jobs.edit e3 (by grind) (by grind)) (h.lane.edit e3 (by grind) (by grind)) (by rw [hs]; exact hq) rfl, e3.mono fun k hk => ?_⟩
  rcases hk with rfl | rfl | rfl
  · exact h.own.2.2.2.2.2.2.2.2.2.2.2.2 j hj
  · exact h.own.2.2.2.2.2.2.1
  · exact h.own.2.2.2.2.2.2.2.2.2.1
set_option maxHeartbeats 1000000 in
theorem wkEnd_any {p : Lpar} {a : Lad} {x : Lsn} {F : Nat → Prop} {s : Lst} {w : World} (h : LineIs p a x F s w) (j : Nat) (hj : j < p.W) (hh : s.held j = none) (hej : s.ew j = false) :
    Calls Tryz.prog 409 #[ptrV (a.wk j)] w fun e w' => e = .returned (.tuple #[]) ∧ LineIs p a x F { s with ew := updL s.ew j true } w' ∧ Edit F w w' := by
  obtain ⟨sv, fv, lv, hl, hw, -⟩ := h.cells
  obtain ⟨hv, k1, k2⟩ := h.wrk
  have hb := k1 j hj
  have hkd := h.kinds
  have kd1 := hkd.lb; have kd7 := hkd.qr; have kd10 := hkd.cr; have kd12 := hkd.wb
  have kw := hb.kn
  have e0 := Edit.one w (a.wk j) 1 (.bool true)
  have t1 := hb.cell 1
  have f1 := hb.free 1
  have y0 := (hb.set 1 (.bool true)).cell 0
  have hl1 := hl.edit e0 (by grind)
  have x27 := hl1.cell 27
  have x16 := hl1.cell 16
  simp [lnC, ptrV] at t1 y0 x27 x16
  have HW : Hid (∀ q, q < p.W → (w.setCell ⟨a.wk j, 1, none⟩ (.bool true)).cell? ⟨a.wb, q, none⟩ = some (.pointer (some ⟨a.wk q, 0, none⟩)) ∧ (w.setCell ⟨a.wk j, 1, none⟩ (.bool true)).cell? ⟨a.wk q, 1, none⟩ = some (.bool (updL s.ew j true q))) := by
    intro q hq
    constructor
    · obtain ⟨g, cap, hg, -, -, hc⟩ := own_cells (own_at h.works (w' := w.setCell ⟨a.wk j, 1, none⟩ (.bool true)) fun g hg => e0.block _ (own_kn h.works g hg).2.2 (by cases hg; show ¬ (a.wb = a.wk j); grind)) (by omega)
      cases hg
      exact hc q _ (by simp [hq, ptrV])
    · by_cases e : q = j
      · subst e
        have := (hb.set 1 (.bool true)).cell 1
        simpa [updL] using this
      · have := ((k1 q hq).edit e0 (by show ¬ (a.wk q = a.wk j); exact fun hh => e (h.ne.2.2.2.2 q j hq hj hh))).cell 1
        simpa [updL, e] using this
  have hsh := shut_false hj hej
  have HR0 : Hid (∀ q, q < p.W → updL s.ew j true q = false → LineIs p a x F { s with ew := updL s.ew j true } (w.setCell ⟨a.wk j, 1, none⟩ (.bool true)) ∧ Edit F w (w.setCell ⟨a.wk j, 1, none⟩ (.bool true))) :=
    fun q hq hqe => wkEnded h j hj hh (by rw [hsh]; exact shut_false (s := { s with ew := updL s.ew j true }) hq hqe)
  have HR1 : Hid (∀ u, (∀ q, q < p.W → updL s.ew j true q = true) → QIs u a.qr a.cr 250 p.Rm (s.ready.map (pkV x)).toArray true → Edit (fun k => k = a.qr ∨ k = a.cr) (w.setCell ⟨a.wk j, 1, none⟩ (.bool true)) u → LineIs p a x F { s with ew := updL s.ew j true } u ∧ Edit F w u) :=
    fun u hq h1 h2 => wkShut h j hj hh (shut_true (s := { s with ew := updL s.ew j true }) hq) h1 h2
  have hrd := h.ready
  rw [hsh] at hrd
  have HCL := Hid.mk' (close_packed _ _ _ _ _ (hrd.edit e0 (by show ¬ (a.qr = a.wk j); grind) (by show ¬ (a.cr = a.wk j); grind)))
  have hW8 := h.W8
  clear h k1 k2 hl hl1 hw hb hkd kd1 kd7 kd10 kd12 kw e0 hsh hrd hh hej
  generalize updL s.ew j true = ew' at *
  generalize hw1 : w.setCell ⟨a.wk j, 1, none⟩ (.bool true) = w1 at *
  unfold ptrV at *
  go_enter Tryz.func409, Tryz.ntmps409
  go_wp2
  go_loopw [3, 17] (fun _ iv wr => ∃ q : Nat, q ≤ p.W ∧ iv = .int .i64 q ∧ Hid (∀ i, i < q → ew' i = true) ∧ wr = w1) (fun _ iv _ => p.W - (intOf iv).toNat)
  case atStart => exact ⟨0, Nat.zero_le _, rfl, fun i hi => absurd hi (Nat.not_lt_zero i), rfl⟩
  case round =>
    obtain ⟨q, hq, rfl, HE, rfl⟩ := hrel
    by_cases hlt : q < p.W
    · have u0 := (HW.out q hlt).1
      have u1 := (HW.out q hlt).2
      cases hqe : ew' q with
      | false =>
        rw [hqe] at u1
        go_wp2
        try simp only [Exit.inBlock, Exit.then]
        refine bodyPost_ret (results_none rfl _ _ _) rfl ?_
        exact ⟨rfl, HR0.out q hlt hqe⟩
      | true =>
        rw [hqe] at u1
        go_wp2
        go_roundw
        case rel => exact ⟨q + 1, by omega, by go_num, fun i hi => by by_cases e : i = q; exact e ▸ hqe; exact HE.out i (by omega), trivial⟩
        case measure => simp [intOf]; omega
    · have e : q = p.W := by omega
      subst e
      go_wp2_with (go_at_call 372; refine HCL.out.mono ?_; rintro e u ⟨rfl, q1, e1⟩; have HZ := Hid.mk' (HR1.out u HE.out q1 e1); clear q1 e1 HCL)
      go_end0
      exact ⟨rfl, HZ.out⟩
end Go.Proofs.YtlncjgnomhpjnabGreatDoor

/-
  What the steps do: a worker at an empty and closed queue; the summer.
-/
namespace Go.Proofs.YtlncjgnomhpjnabGreatDoor
open Go.RowKit Go.Deep
set_option linter.unusedVariables false
theorem intT_cut (n : Nat) (F : Nat → Nat → Int) (q m : Nat) (hn : 0 < n) : intT n F (2 * (q * n)) ++ intT n (fun i j => F i (q + j)) (2 * (m * n)) = intT n F (2 * ((q + m) * n)) := by
  unfold intT
  rw [show 2 * ((q + m) * n) = 2 * (q * n) + 2 * (m * n) by rw [Nat.add_mul, Nat.mul_add], List.range_add, List.map_append, List.map_map]
  congr 1
  apply List.map_congr_left
  intro j _
  show intB n (fun i j => F i (q + j)) j = intB n F (2 * (q * n) + j)
  have e1 : (2 * (q * n) + j) / 2 = j / 2 + q * n := by omega
  have e2 : (2 * (q * n) + j) % 2 = j % 2 := by omega
  unfold intB
  rw [e1, e2, Nat.add_mul_mod_self_right, Nat.add_mul_div_right _ _ hn, Nat.add_comm (j / 2 / n) q]
theorem smN_next {x : Lsn} (hn : 0 < x.ch) (hB : 1 ≤ x.B) {k : Nat} (hk : k < nBlk x.S x.B) : sumN (intT x.ch x.G (2 * (min (k * x.B) x.S * x.ch)) ++ intT x.ch (blkF x.G x.B k) (2 * (blkN x.S x.B k * x.ch))) = smN x (k + 1) := by
  have h1 := (nBlk_lt (S := x.S) (k := k) hB).1 hk
  have e1 : min (k * x.B) x.S = k * x.B := Nat.min_eq_left (by omega)
  have e2 : min ((k + 1) * x.B) x.S = k * x.B + blkN x.S x.B k := by unfold blkN; rw [Nat.add_mul, Nat.one_mul]; omega
  unfold smN
  rw [e1, e2, ← intT_cut x.ch x.G (k * x.B) (blkN x.S x.B k) hn]
  rfl
/-- The lists of a block that was given out. -/
theorem LineIs.blk {p : Lpar} {a : Lad} {x : Lsn} {F : Nat → Prop} {s : Lst} {w : World} (h : LineIs p a x F s w) {k : Nat} (hk : k < s.given) (hN : k < nBlk x.S x.B) :
    ListsAt w (some ⟨a.gb k, 0, none⟩) x.ch (blkA a.A (k * x.B)) (fun _ => blkN x.S x.B k) (fun i => a.C i - k * x.B) ∧ (∀ i, i < x.ch → IntsAt w (blkA a.A (k * x.B) i) (blkN x.S x.B k) (blkF x.G x.B k i)) ∧
      Low w.heap.size (some ⟨a.gb k, 0, none⟩) x.ch (blkA a.A (k * x.B)) (fun _ => blkN x.S x.B k) := by
  have hbd := blkN_bd h.kp.B1 hN
  refine ⟨blkV_at (h.blocks k hk).2, fun i hi => ints_cut (h.ints i hi) hbd.2.2, fun y hy _ => ?_, fun i hi y hy _ => ?_⟩
  · cases hy
    exact h.lt _ (h.blocks k hk).1
  · cases hy
    have h0 : 0 < x.S := by omega
    have := ints_addr (h.ints i hi) h0
    exact h.lt (bkOf (a.A i)) (h.lowF.2 i hi _ this h0)
set_option maxHeartbeats 1000000 in
theorem wkTake0_any {p : Lpar} {a : Lad} {x : Lsn} {F : Nat → Prop} {s : Lst} {w : World} (h : LineIs p a x F s w) (j : Nat) (hj : j < p.W) (hk : s.jobs = []) (he0 : s.e0 = true) (hh : s.held j = none) (hej : s.ew j = false) :
    Calls Tryz.prog 411 #[ptrV (a.wk j)] w fun e w' => e = .returned (.tuple #[]) ∧ LineIs p a x F { s with ew := updL s.ew j true } w' ∧ Edit F w w' := by
  obtain ⟨sv, fv, lv, hl, hw, -⟩ := h.cells
  obtain ⟨hv, k1, k2⟩ := h.wrk
  have hb := k1 j hj
  have x14 := hl.cell 14
  have y0 := hb.cell 0
  simp [lnC, ptrV] at x14 y0
  have hkd := h.kinds
  have kd1 := hkd.lb; have kd2 := hkd.sp; have kd3 := hkd.su; have kd4 := hkd.wr; have kd5 := hkd.qj; have kd6 := hkd.ql; have kd7 := hkd.qr; have kd8 := hkd.cj; have kd9 := hkd.cl; have kd10 := hkd.cr
  obtain ⟨n1, n2, n3, n4, n5⟩ := h.ne
  have hq := h.jobs
  rw [hk, he0] at hq
  have HT := Hid.mk' (shut_block _ _ _ w hq)
  have HD : Hid (∀ u : World, QIs u a.qj a.cj 247 p.Rm #[] true → Edit (· = a.cj) w u →
      LineIs p a x F s ((u.alloc (.cells #[.int .i64 0, .slice none 0 0] 145)).setRow u.heap.size #[.int .i64 0, .slice none 0 0]) ∧ Edit F w ((u.alloc (.cells #[.int .i64 0, .slice none 0 0] 145)).setRow u.heap.size #[.int .i64 0, .slice none 0 0])) := by
    intro u q1 e1
    have h1 : LineIs p a x F s u := h.edit e1 (fun _ hk => hk) (fun k hk => Nat.lt_of_lt_of_le (h.lt k hk) e1.size) (by unfold Firm; grind) (h.cellsOk e1 (fun _ hk => hk) (by grind) (by grind) (by grind)) (h.spl.edit e1 (by grind)) (h.sum.edit e1 (by grind))
      (h.workOk e1 (fun _ hk => hk) (by grind)) (by rw [hk, he0]; exact q1) (h.lane.edit e1 (by grind) (by grind)) (h.ready.edit e1 (by grind) (by grind)) rfl
    have ev : Edit (fun _ => False) u ((u.alloc (.cells #[.int .i64 0, .slice none 0 0] 145)).setRow u.heap.size #[.int .i64 0, .slice none 0 0]) := ((Edit.refl _ u).alloc _).row (Nat.le_refl _) _
    exact ⟨h1.keep (fun k hk => ev.block k (h1.lt k hk) id) ev.size, (e1.mono fun k hk => hk ▸ h.own.2.2.2.2.2.2.2.1).trans (ev.mono fun _ hh => hh.elim)⟩
  clear h k1 k2 hl hw hb hkd kd1 kd2 kd3 kd4 kd5 kd6 kd7 kd8 kd9 kd10 n1 n2 n3 n4 n5 hq
  have HEN := Hid.mk' (fun (u : World) (h : LineIs p a x F s u) => wkEnd_any h j hj hh hej)
  clear hh hej hk he0
  unfold ptrV at *
  go_enter Tryz.func411, Tryz.ntmps411
  go_wp2_with (first
    | (go_at_call 385; refine HT.out.mono ?_; rintro e w1 ⟨rfl, q1, e1⟩; have HZ := Hid.mk' (HD.out w1 q1 e1); clear HT q1 e1 HD)
    | (refine wpList_storeRow rfl _ _ 145 rfl w1.heap.size 145 _ _ rfl rfl (Bx.new w1 #[.int .i64 0, .slice none 0 0] 145) infoBlk rfl rfl ?_)
    | (go_at_call 409; refine (HEN.out _ HZ.out.1).mono ?_; rintro e w2 ⟨rfl, hl2, he2⟩; have HY := Hid.mk' (And.intro hl2 (HZ.out.2.trans he2)); clear hl2 he2 HZ HEN))
  try simp only [Exit.inBlock, Exit.then]
  refine bodyPost_ret (results_none rfl _ _ _) rfl ?_
  exact ⟨rfl, HY.out⟩
set_option maxHeartbeats 1000000 in
theorem suTake0_any {p : Lpar} {a : Lad} {x : Lsn} {F : Nat → Prop} {s : Lst} {w : World} (h : LineIs p a x F s w) (hk : s.lane = []) (he0 : s.e0 = true) :
    Calls Tryz.prog 383 #[ptrV a.su] w fun e w' => e = .returned (.tuple #[]) ∧ LineIs p a x F { s with e1 := true } w' ∧ Edit F w w' := by
  obtain ⟨sv, fv, lv, hl, hw, -⟩ := h.cells
  have x15 := hl.cell 15
  have y0 := h.sum.cell 0
  simp [lnC, ptrV] at x15 y0
  have hkd := h.kinds
  have kd1 := hkd.lb; have kd2 := hkd.sp; have kd3 := hkd.su; have kd4 := hkd.wr; have kd5 := hkd.qj; have kd6 := hkd.ql; have kd7 := hkd.qr; have kd8 := hkd.cj; have kd9 := hkd.cl; have kd10 := hkd.cr
  obtain ⟨n1, n2, n3, n4, n5⟩ := h.ne
  have hq := h.lane
  rw [hk, he0] at hq
  have HT := Hid.mk' (shut_block _ _ _ w hq)
  have HD : Hid (∀ u : World, QIs u a.ql a.cl 247 p.Rm #[] true → Edit (· = a.cl) w u →
      Bx ((u.alloc (.cells #[.int .i64 0, .slice none 0 0] 145)).setRow u.heap.size #[.int .i64 0, .slice none 0 0]) a.su 167 #[ptrV a.lb, .bool s.e1, .int .i64 s.summed, .int .i64 (smN x s.summed)] ∧
      LineIs p a x F { s with e1 := true } (((u.alloc (.cells #[.int .i64 0, .slice none 0 0] 145)).setRow u.heap.size #[.int .i64 0, .slice none 0 0]).setCell ⟨a.su, 1, none⟩ (.bool true)) ∧ Edit F w (((u.alloc (.cells #[.int .i64 0, .slice none 0 0] 145)).setRow u.heap.size #[.int .i64 0, .slice none 0 0]).setCell ⟨a.su, 1, none⟩ (.bool true))) := by
    intro u q1 e1
    obtain ⟨v, hvv⟩ : ∃ v, v = ((u.alloc (.cells #[.int .i64 0, .slice none 0 0] 145)).setRow u.heap.size #[.int .i64 0, .slice none 0 0]) := ⟨_, rfl⟩
    have ev : Edit (fun _ => False) u v := by rw [hvv]; exact ((Edit.refl _ u).alloc _).row (Nat.le_refl _) _
    rw [← hvv]
    clear hvv
    have e2 : Edit (· = a.cl) w v := e1.trans (ev.mono fun _ hh => hh.elim)
    have hsv := h.sum.edit e2 (by grind)
    have e4 := Edit.one v a.su 1 (.bool true)
    have e3 : Edit (fun q => q = a.cl ∨ q = a.su) w (v.setCell ⟨a.su, 1, none⟩ (.bool true)) := (e2.mono (by grind)).trans (e4.mono (by grind))
    refine ⟨hsv, h.edit e3 (fun _ hh => hh) (fun k hk => Nat.lt_of_lt_of_le (h.lt k hk) e3.size) (by unfold Firm; grind) (h.cellsOk e3 (fun _ hh => hh) (by grind) (by grind) (by grind)) (h.spl.edit e3 (by grind)) (hsv.set 1 (.bool true)) (h.workOk e3 (fun _ hh => hh) (by grind))
      (h.jobs.edit e3 (by grind) (by grind)) (by rw [show ({ s with e1 := true } : Lst).lane = [] from hk, show ({ s with e1 := true } : Lst).e0 = true from he0]; exact (q1.edit ev id id).edit e4 (by grind) (by grind)) (h.ready.edit e3 (by grind) (by grind)) rfl, e3.mono fun q hq => ?_⟩
    rcases hq with rfl | rfl
    · exact h.own.2.2.2.2.2.2.2.2.1
    · exact h.own.2.2.1
  clear h hl hw hkd kd1 kd2 kd3 kd4 kd5 kd6 kd7 kd8 kd9 kd10 n1 n2 n3 n4 n5 hq
  unfold ptrV at *
  go_enter Tryz.func383, Tryz.ntmps383
  go_wp2_with (first
    | (go_at_call 385; refine HT.out.mono ?_; rintro e w1 ⟨rfl, q1, e1⟩; have HZ := Hid.mk' (HD.out w1 q1 e1); have t1 := HZ.out.1.cell 1; have f1 := HZ.out.1.free 1; simp at t1; clear HT q1 e1 HD)
    | (refine wpList_storeRow rfl _ _ 145 rfl w1.heap.size 145 _ _ rfl rfl (Bx.new w1 #[.int .i64 0, .slice none 0 0] 145) infoBlk rfl rfl ?_))
  try simp only [Exit.inBlock, Exit.then]
  refine bodyPost_ret (results_none rfl _ _ _) rfl ?_
  exact ⟨rfl, HZ.out.2⟩
end Go.Proofs.YtlncjgnomhpjnabGreatDoor

