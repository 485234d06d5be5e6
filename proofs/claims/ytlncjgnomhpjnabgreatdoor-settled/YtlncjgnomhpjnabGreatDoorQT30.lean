import Derived.Test.YtlncjgnomhpjnabGreatDoorQT29
/-
  What a task is able to do: the summer, the workers, the writer.
-/
namespace Go.Proofs.YtlncjgnomhpjnabGreatDoor
open Go.RowKit Go.Deep
set_option linter.unusedVariables false
theorem own_cells {w : World} {base : Nat} {e : TypeId} {size : Nat} {v : Value} {n : Nat} {xs : List Value} (h : w.ownsRow base e size v n xs) (hn : 0 < n) :
    ∃ g cap, v = .slice (some ⟨g, 0, none⟩) n cap ∧ n ≤ cap ∧ base ≤ g ∧ ∀ j u, xs[j]? = some u → w.cell? ⟨g, j, none⟩ = some u := by
  rcases h.2 with ⟨rfl, rfl⟩ | ⟨g, cap, cur, rfl, h1, h2, h3, h4, h5, h6⟩
  · exact absurd hn (Nat.lt_irrefl _)
  · refine ⟨g, cap, rfl, h3, h1, fun j u hu => ?_⟩
    rw [← h6, List.getElem?_take] at hu
    split at hu
    · simpa [World.cell?, h2] using hu
    · cases hu
theorem begins_any {x : Lsn} (base : Nat) (sv : Value) (l : List Nat) (k : Nat) (w : World) (ho : w.ownsRow base 149 2 sv l.length (shlV x l)) :
    Calls Tryz.prog 373 #[sv, .int .i64 k] w fun e w' => e = .returned (.bool (decide (l.head? = some k))) ∧ w' = w := by
  cases l with
  | nil =>
    obtain ⟨b, c, rfl⟩ := own_len ho
    clear ho
    go_enter Tryz.func373, Tryz.ntmps373
    go_wp2
    go_ret
    exact ⟨rfl, rfl⟩
  | cons q r =>
    obtain ⟨g, cap, rfl, hc, -, hcl⟩ := own_cells ho (by simp)
    have x0 := hcl 0 (.int .i64 q) rfl
    clear ho hcl
    have hlen : (q :: r).length = r.length + 1 := rfl
    rw [hlen] at hc ⊢
    have d0 : decide ((0 : Int) < ((r.length + 1 : Nat) : Int)) = true := decide_eq_true (by omega)
    have hp : 0 < r.length + 1 := by omega
    generalize r.length + 1 = n at *
    by_cases h : q = k
    · subst h
      go_enter Tryz.func373, Tryz.ntmps373
      go_wp2
      go_ret
      exact ⟨by simp, rfl⟩
    · have h2 : ¬ (q : Int) = (k : Int) := by omega
      have h3 : ((q : Int) == (k : Int)) = false := by simp; omega
      go_enter Tryz.func373, Tryz.ntmps373
      go_wp2
      go_ret
      exact ⟨by simp [h], rfl⟩
theorem suNext_any {p : Lpar} {a : Lad} {x : Lsn} {F : Nat → Prop} {s : Lst} {w : World} (h : LineIs p a x F s w) :
    Calls Tryz.prog 382 #[ptrV a.su] w fun e w' => e = .returned (actV a (s.next p 1)) ∧ ∃ m, w' = w.drewN m := by
  obtain ⟨sv, fv, lv, hl, hw, -⟩ := h.cells
  have y0 := h.sum.cell 0
  have y1 := h.sum.cell 1
  have x15 := hl.cell 15
  simp [lnC, ptrV] at y0 y1 x15
  unfold Lst.next
  have HA := Hid.mk' (lAns h)
  clear h hl hw
  unfold ptrV at *
  cases he : s.e1 with
  | true =>
    rw [he] at y1
    unfold actV
    go_enter Tryz.func382, Tryz.ntmps382
    go_wp2
    go_ret
    exact ⟨rfl, 0, rfl⟩
  | false =>
    rw [he] at y1
    cases hb : (decide (0 < s.lane.length) || s.e0) with
    | true =>
      rw [hb] at HA
      unfold actV ptrV
      go_enter Tryz.func382, Tryz.ntmps382
      go_wp2_with (go_at_call 384; refine HA.out.mono ?_; rintro e u ⟨rfl, hw⟩; subst u; clear HA)
      go_ret
      exact ⟨rfl, 0, rfl⟩
    | false =>
      rw [hb] at HA
      unfold actV
      go_enter Tryz.func382, Tryz.ntmps382
      go_wp2_with (go_at_call 384; refine HA.out.mono ?_; rintro e u ⟨rfl, hw⟩; subst u; clear HA)
      go_ret
      exact ⟨rfl, 0, rfl⟩
set_option maxHeartbeats 1000000 in
theorem wkNext_any {p : Lpar} {a : Lad} {x : Lsn} {F : Nat → Prop} {s : Lst} {w : World} (h : LineIs p a x F s w) (j : Nat) (hj : j < p.W) :
    Calls Tryz.prog 410 #[ptrV (a.wk j)] w fun e w' => e = .returned (actV a (s.next p (j + 3))) ∧ ∃ m, w' = w.drewN m := by
  obtain ⟨sv, fv, lv, hl, hw, -⟩ := h.cells
  obtain ⟨hv, k1, k2⟩ := h.wrk
  have y0 := (k1 j hj).cell 0
  have y1 := (k1 j hj).cell 1
  have y2 := (k1 j hj).cell 2
  have x14 := hl.cell 14
  have x16 := hl.cell 16
  have x23 := hl.cell 23
  simp [lnC, ptrV] at y0 y1 y2 x14 x16 x23
  unfold Lst.next
  have HA := Hid.mk' (jAns h)
  have HR := Hid.mk' (rFull h)
  clear h hl hw k1 k2
  unfold ptrV at *
  cases he : s.ew j with
  | true =>
    rw [he] at y1
    unfold actV
    go_enter Tryz.func410, Tryz.ntmps410
    go_wp2
    go_ret
    exact ⟨by simp, 0, rfl⟩
  | false =>
    rw [he] at y1
    simp only [he, Bool.false_eq_true, if_false]
    cases hh : s.held j with
    | none =>
      simp only [heV, hh] at y2
      cases hb : (decide (0 < s.jobs.length) || s.e0) with
      | true =>
        rw [hb] at HA
        unfold actV ptrV
        go_enter Tryz.func410, Tryz.ntmps410
        go_wp2_with (go_at_call 384; refine HA.out.mono ?_; rintro e u ⟨rfl, hw⟩; subst u; clear HA)
        go_ret
        exact ⟨rfl, 0, rfl⟩
      | false =>
        rw [hb] at HA
        unfold actV
        go_enter Tryz.func410, Tryz.ntmps410
        go_wp2_with (go_at_call 384; refine HA.out.mono ?_; rintro e u ⟨rfl, hw⟩; subst u; clear HA)
        go_ret
        exact ⟨rfl, 0, rfl⟩
    | some k =>
      simp only [heV, hh, ptrV] at y2
      cases hst : s.stopped with
      | true =>
        rw [hst] at x23
        unfold actV ptrV
        go_enter Tryz.func410, Tryz.ntmps410
        go_wp2
        go_ret
        exact ⟨rfl, 0, rfl⟩
      | false =>
        rw [hst] at x23
        cases hf : decide (s.ready.length = p.Rm) with
        | true =>
          rw [hf] at HR
          unfold actV
          go_enter Tryz.func410, Tryz.ntmps410
          go_wp2_with (go_at_call 413; refine HR.out.mono ?_; rintro e u ⟨rfl, m, rfl⟩; clear HR)
          go_ret
          exact ⟨rfl, m, rfl⟩
        | false =>
          rw [hf] at HR
          unfold actV ptrV
          go_enter Tryz.func410, Tryz.ntmps410
          go_wp2_with (go_at_call 413; refine HR.out.mono ?_; rintro e u ⟨rfl, m, rfl⟩; clear HR)
          go_ret
          exact ⟨rfl, m, rfl⟩
set_option maxHeartbeats 1000000 in
theorem wrNext_any {p : Lpar} {a : Lad} {x : Lsn} {F : Nat → Prop} {s : Lst} {w : World} (h : LineIs p a x F s w) :
    Calls Tryz.prog 387 #[ptrV a.wr] w fun e w' => e = .returned (actV a (s.next p 2)) ∧ ∃ m, w' = w.drewN m := by
  have HWR := Hid.mk' (fun (u : World) (e : u.heap = w.heap) => written_any (h.heap e))
  have HCT := Hid.mk' (fun (u : World) (e : u.heap = w.heap) => rCount (h.heap e))
  have HAN := Hid.mk' (fun (u : World) (e : u.heap = w.heap) => rAns (h.heap e))
  obtain ⟨sv, fv, lv, hl, hw, ho, -⟩ := h.cells
  have HBG : Hid (∀ (u : World) (e : u.heap = w.heap), Calls Tryz.prog 373 #[sv, .int .i64 s.wrote] u fun e w' => e = .returned (.bool (decide (s.shelf.head? = some s.wrote))) ∧ w' = u) :=
    fun u e => begins_any a.b1 sv s.shelf s.wrote u (own_at ho fun g _ => by rw [e])
  have z1 := h.sum.cell 1
  have y0 := hw.cell 0
  have y1 := hw.cell 1
  have y2 := hw.cell 2
  have x16 := hl.cell 16
  have x17 := hl.cell 17
  have x25 := hl.cell 25
  simp [lnC, ptrV] at z1 y0 y1 y2 x16 x17 x25
  obtain ⟨sb, sc, rfl⟩ := own_len ho
  clear h hl hw ho
  unfold ptrV at *
  cases he : s.e2 with
  | true =>
    rw [he] at y1
    rw [show s.next p 2 = none by simp [Lst.next, he]]
    unfold actV
    go_enter Tryz.func387, Tryz.ntmps387
    go_wp2
    go_ret
    exact ⟨rfl, 0, rfl⟩
  | false =>
    rw [he] at y1
    cases hbg : s.begun with
    | false =>
      rw [hbg] at y2
      rw [show s.next p 2 = some .begin by simp [Lst.next, he, hbg]]
      unfold actV ptrV
      go_enter Tryz.func387, Tryz.ntmps387
      go_wp2
      go_ret
      exact ⟨rfl, 0, rfl⟩
    | true =>
      rw [hbg] at y2
      by_cases hh : s.shelf.head? = some s.wrote
      · rw [decide_eq_true hh] at HBG
        rw [show s.next p 2 = some .write by simp [Lst.next, he, hbg, hh]]
        unfold actV ptrV
        go_enter Tryz.func387, Tryz.ntmps387
        go_wp2_with fail
        go_quiet (first | (go_at_call 107; exact Calls.quiet_of_same (HWR.out _ rfl)) | (go_at_call 373; exact Calls.quiet_of_same (HBG.out _ rfl)))
        go_wp2
        go_ret
        exact ⟨rfl, nq, rfl⟩
      · rw [decide_eq_false hh] at HBG
        by_cases hr : 0 < s.ready.length
        · have d1 : decide ((0 : Int) < (s.ready.length : Int)) = true := decide_eq_true (by omega)
          rw [show s.next p 2 = some .shelve by simp [Lst.next, he, hbg, hh, hr]]
          unfold actV ptrV
          go_enter Tryz.func387, Tryz.ntmps387
          go_wp2_with fail
          go_quiet (first | (go_at_call 107; exact Calls.quiet_of_same (HWR.out _ rfl)) | (go_at_call 373; exact Calls.quiet_of_same (HBG.out _ rfl)))
          go_wp2_with (first | (go_at_call 109; refine (HCT.out (w.drewN nq) rfl).mono ?_; rintro e u ⟨rfl, hw⟩; subst u; clear HCT) | (go_at_call 389; refine (HAN.out (w.drewN nq) rfl).mono ?_; rintro e u ⟨rfl, hw⟩; subst u; clear HAN))
          go_ret
          exact ⟨rfl, nq, rfl⟩
        · have d1 : decide ((0 : Int) < (s.ready.length : Int)) = false := decide_eq_false (by omega)
          rw [decide_eq_false hr, Bool.false_or] at HAN
          cases hs : s.shut p with
          | true =>
            rw [hs] at HAN
            cases h1 : s.e1 with
            | true =>
              rw [h1] at z1
              rw [show s.next p 2 = some .shelve by simp [Lst.next, he, hbg, hh, hr, hs, h1]]
              unfold actV ptrV
              go_enter Tryz.func387, Tryz.ntmps387
              go_wp2_with fail
              go_quiet (first | (go_at_call 107; exact Calls.quiet_of_same (HWR.out _ rfl)) | (go_at_call 373; exact Calls.quiet_of_same (HBG.out _ rfl)))
              go_wp2_with (first | (go_at_call 109; refine (HCT.out (w.drewN nq) rfl).mono ?_; rintro e u ⟨rfl, hw⟩; subst u; clear HCT) | (go_at_call 389; refine (HAN.out (w.drewN nq) rfl).mono ?_; rintro e u ⟨rfl, hw⟩; subst u; clear HAN))
              go_ret
              exact ⟨rfl, nq, rfl⟩
            | false =>
              rw [h1] at z1
              rw [show s.next p 2 = none by simp [Lst.next, he, hbg, hh, hr, hs, h1]]
              unfold actV
              go_enter Tryz.func387, Tryz.ntmps387
              go_wp2_with fail
              go_quiet (first | (go_at_call 107; exact Calls.quiet_of_same (HWR.out _ rfl)) | (go_at_call 373; exact Calls.quiet_of_same (HBG.out _ rfl)))
              go_wp2_with (first | (go_at_call 109; refine (HCT.out (w.drewN nq) rfl).mono ?_; rintro e u ⟨rfl, hw⟩; subst u; clear HCT) | (go_at_call 389; refine (HAN.out (w.drewN nq) rfl).mono ?_; rintro e u ⟨rfl, hw⟩; subst u; clear HAN))
              go_ret
              exact ⟨rfl, nq, rfl⟩
          | false =>
            rw [hs] at HAN
            rw [show s.next p 2 = none by simp [Lst.next, he, hbg, hh, hr, hs]]
            unfold actV
            go_enter Tryz.func387, Tryz.ntmps387
            go_wp2_with fail
            go_quiet (first | (go_at_call 107; exact Calls.quiet_of_same (HWR.out _ rfl)) | (go_at_call 373; exact Calls.quiet_of_same (HBG.out _ rfl)))
            go_wp2_with (first | (go_at_call 109; refine (HCT.out (w.drewN nq) rfl).mono ?_; rintro e u ⟨rfl, hw⟩; subst u; clear HCT) | (go_at_call 389; refine (HAN.out (w.drewN nq) rfl).mono ?_; rintro e u ⟨rfl, hw⟩; subst u; clear HAN))
            go_ret
            exact ⟨rfl, nq, rfl⟩
end Go.Proofs.YtlncjgnomhpjnabGreatDoor

/-
  A line whose parts are changed.
-/
namespace Go.Proofs.YtlncjgnomhpjnabGreatDoor
open Go.RowKit Go.Deep
set_option linter.unusedVariables false
theorem own_kn {w : World} {base : Nat} {e : TypeId} {size : Nat} {v : Value} {n : Nat} {xs : List Value} (h : w.ownsRow base e size v n xs) : ∀ g, v.ownBlock = some g → kn w g = e + 1 ∧ base ≤ g ∧ g < w.heap.size := by
  intro g hg
  rcases h.2 with ⟨rfl, rfl⟩ | ⟨g', cap, cur, rfl, h1, h2, h3⟩
  · cases hg
  · cases hg
    exact ⟨by unfold kn; rw [h2], h1, (Array.getElem?_eq_some_iff.1 h2).1⟩
theorem rowIs_kn {w : World} {g : Nat} {e : TypeId} {n : Nat} {f : Nat → Value} (h : w.rowIs g e n f) : kn w g = e + 1 := by
  obtain ⟨c, h1, h2⟩ := h
  unfold kn
  rw [h1]
theorem QIs.kc {w : World} {q c : Nat} {t : TypeId} {cap : Nat} {buf : Array Value} {cl : Bool} (h : QIs w q c t cap buf cl) : kn w c = 0 := by
  obtain ⟨s, r, hc⟩ := h.chan
  unfold kn
  rw [hc]
/-- The kinds of the blocks that are changed now and then. -/
structure Kinds (p : Lpar) (a : Lad) (x : Lsn) (s : Lst) (w : World) : Prop where
  lb : kn w a.lb = 160 + 1
  sp : kn w a.sp = 165 + 1
  su : kn w a.su = 167 + 1
  wr : kn w a.wr = 169 + 1
  qj : kn w a.qj = 247 + 1
  ql : kn w a.ql = 247 + 1
  qr : kn w a.qr = 250 + 1
  cj : kn w a.cj = 0
  cl : kn w a.cl = 0
  cr : kn w a.cr = 0
  tb : kn w a.tb = 178 + 1
  wb : kn w a.wb = 170 + 1
  wk : ∀ j, j < p.W → kn w (a.wk j) = 173 + 1
  gb : ∀ k, k < s.given → kn w (a.gb k) = 30 + 1
theorem LineIs.kinds {p : Lpar} {a : Lad} {x : Lsn} {F : Nat → Prop} {s : Lst} {w : World} (h : LineIs p a x F s w) : Kinds p a x s w := by
  obtain ⟨sv, fv, lv, c1, c2, -⟩ := h.cells
  obtain ⟨hv, k1, -⟩ := h.wrk
  exact ⟨c1.kn, h.spl.kn, h.sum.kn, c2.kn, h.jobs.cells.kn, h.lane.cells.kn, h.ready.cells.kn, h.jobs.kc, h.lane.kc, h.ready.kc, (own_kn h.tasks _ rfl).1, (own_kn h.works _ rfl).1, fun j hj => (k1 j hj).kn, fun k hk => rowIs_kn (h.blocks k hk).2⟩
/-- What is written in the line's and the writer's own cells, and what hangs on them. -/
def CellsOk (p : Lpar) (a : Lad) (x : Lsn) (F : Nat → Prop) (s : Lst) (w : World) : Prop :=
  ∃ sv fv lv, Bx w a.lb 160 (lnC p a x s sv fv) ∧
    Bx w a.wr 169 #[ptrV a.lb, .bool s.e2, .bool s.begun, lv] ∧
    w.ownsRow a.b1 149 2 sv s.shelf.length (shlV x s.shelf) ∧ (∀ g, sv.ownBlock = some g → F g) ∧
    w.ownsRow a.b1 5 1 fv (frsT x.d x.ch x.G x.S x.B s.wrote).length ((frsT x.d x.ch x.G x.S x.B s.wrote).map fun b => .int .u8 (b.toNat : Int)) ∧ (∀ g, fv.ownBlock = some g → F g) ∧
    w.ownsRow a.b1 3 1 lv s.wrote ((List.range s.wrote).map fun k => .int .i64 (frLn x k)) ∧ (∀ g, lv.ownBlock = some g → F g)
def WorkOk (p : Lpar) (a : Lad) (x : Lsn) (F : Nat → Prop) (s : Lst) (w : World) : Prop :=
  ∃ hv : Nat → Nat, (∀ j, j < p.W → Bx w (a.wk j) 173 #[ptrV a.lb, .bool (s.ew j), heV hv s j]) ∧
    ∀ j k, j < p.W → s.held j = some k → F (hv j) ∧ Bx w (hv j) 145 #[.int .i64 k, .slice (some ⟨a.gb k, 0, none⟩) x.ch x.ch]
/-- Kinds of blocks that hold what never changes. -/
def Firm (a : Lad) (w : World) (k : Nat) : Prop := kn w k = 178 + 1 ∨ kn w k = 170 + 1 ∨ kn w k = 30 + 1 ∨ (kn w k = 3 + 1 ∧ k < a.b1)
theorem LineIs.edit {p : Lpar} {a : Lad} {x : Lsn} {F F' : Nat → Prop} {s s' : Lst} {w w' : World} {S : Nat → Prop} (h : LineIs p a x F s w) (he : Edit S w w') (hF : ∀ k, F k → F' k) (hlt : ∀ k, F' k → k < w'.heap.size) (hS : ∀ k, S k → ¬ Firm a w k)
    (hc : CellsOk p a x F' s' w') (hspl : Bx w' a.sp 165 #[ptrV a.lb, .bool s'.e0, .slice (some ⟨a.lg, 0, none⟩) x.ch a.lc, .int .i64 s'.given])
    (hsum : Bx w' a.su 167 #[ptrV a.lb, .bool s'.e1, .int .i64 s'.summed, .int .i64 (smN x s'.summed)]) (hwk : WorkOk p a x F' s' w')
    (hj : QIs w' a.qj a.cj 247 p.Rm (s'.jobs.map (blV a x)).toArray s'.e0) (hl : QIs w' a.ql a.cl 247 p.Rm (s'.lane.map (blV a x)).toArray s'.e0)
    (hr : QIs w' a.qr a.cr 250 p.Rm (s'.ready.map (pkV x)).toArray (s'.shut p))
    (hg : s'.given = s.given) : LineIs p a x F' s' w' := by
  have hkd := h.kinds
  have nS : ∀ k, Firm a w k → ¬ S k := fun k hf hs => hS k hs hf
  obtain ⟨o1, o2, o3, o4, o5, o6, o7, o8, o9, o10, o11, o12, o13⟩ := h.own
  refine ⟨h.kp, h.NB, h.W8, h.d16, h.R8, hc, hspl, hsum, hwk, hj, hl, hr, own_at h.tasks fun g hg => ?_, own_at h.works fun g hg => ?_, fun k hk => ?_, fun i hi => ?_, fun i hi j hj => ?_, h.caps, h.low, ⟨hF _ h.lowF.1, fun i hi y hy h0 => hF _ (h.lowF.2 i hi y hy h0)⟩,
    ⟨hF _ o1, hF _ o2, hF _ o3, hF _ o4, hF _ o5, hF _ o6, hF _ o7, hF _ o8, hF _ o9, hF _ o10, hF _ o11, hF _ o12, fun j hj => hF _ (o13 j hj)⟩, hlt, h.ne, Nat.le_trans h.b1 he.size, ?_, fun i hi y hy h0 => ?_⟩
  · cases hg
    exact he.block _ (h.lt _ o11) (nS _ (Or.inl hkd.tb))
  · cases hg
    exact he.block _ (h.lt _ o12) (nS _ (Or.inr (Or.inl hkd.wb)))
  · rw [hg] at hk
    exact ⟨hF _ (h.blocks k hk).1, rowIs_at (h.blocks k hk).2 (he.block _ (h.lt _ (h.blocks k hk).1) (nS _ (Or.inr (Or.inr (Or.inl (hkd.gb k hk))))))⟩
  · obtain ⟨y, hy, hcc⟩ := h.lists i hi
    cases hy
    exact ⟨_, rfl, (cell_at (by cases i <;> exact he.block _ (h.lt _ h.lowF.1) (nS _ (Or.inr (Or.inr (Or.inl h.kl)))))).trans hcc⟩
  · obtain ⟨y, hy, hcc⟩ := h.ints i hi j hj
    have h0 : 0 < x.S := by omega
    have hf : Firm a w y.block := Or.inr (Or.inr (Or.inr ⟨h.ka i hi y hy h0, h.low.2 i hi y hy h0⟩))
    exact ⟨y, hy, (cell_at (by cases j <;> exact he.block _ (h.lt _ (h.lowF.2 i hi y hy h0)) (nS _ hf))).trans hcc⟩
  · exact (kn_of (he.block _ (h.lt _ h.lowF.1) (nS _ (Or.inr (Or.inr (Or.inl h.kl)))))).trans h.kl
  · have hf : Firm a w y.block := Or.inr (Or.inr (Or.inr ⟨h.ka i hi y hy h0, h.low.2 i hi y hy h0⟩))
    exact (kn_of (he.block _ (h.lt _ (h.lowF.2 i hi y hy h0)) (nS _ hf))).trans (h.ka i hi y hy h0)
/-- The line's and the writer's cells, where nothing of theirs is changed. -/
theorem LineIs.cellsOk {p : Lpar} {a : Lad} {x : Lsn} {F F' : Nat → Prop} {s : Lst} {w w' : World} {S : Nat → Prop} (h : LineIs p a x F s w) (he : Edit S w w') (hF : ∀ k, F k → F' k) (h1 : ¬ S a.lb) (h2 : ¬ S a.wr)
    (h3 : ∀ k, a.b1 ≤ k → kn w k = 149 + 1 ∨ kn w k = 5 + 1 ∨ kn w k = 3 + 1 → ¬ S k) : CellsOk p a x F' s w' := by
  obtain ⟨sv, fv, lv, c1, c2, c3, c4, c5, c6, c7, c8⟩ := h.cells
  refine ⟨sv, fv, lv, c1.edit he h1, c2.edit he h2, own_at c3 fun g hg => ?_, fun g hg => hF _ (c4 g hg), own_at c5 fun g hg => ?_, fun g hg => hF _ (c6 g hg), own_at c7 fun g hg => ?_, fun g hg => hF _ (c8 g hg)⟩
  · exact he.block _ (own_kn c3 g hg).2.2 (h3 g (own_kn c3 g hg).2.1 (Or.inl (own_kn c3 g hg).1))
  · exact he.block _ (own_kn c5 g hg).2.2 (h3 g (own_kn c5 g hg).2.1 (Or.inr (Or.inl (own_kn c5 g hg).1)))
  · exact he.block _ (own_kn c7 g hg).2.2 (h3 g (own_kn c7 g hg).2.1 (Or.inr (Or.inr (own_kn c7 g hg).1)))
theorem LineIs.workOk {p : Lpar} {a : Lad} {x : Lsn} {F F' : Nat → Prop} {s : Lst} {w w' : World} {S : Nat → Prop} (h : LineIs p a x F s w) (he : Edit S w w') (hF : ∀ k, F k → F' k) (h1 : ∀ k, kn w k = 173 + 1 ∨ kn w k = 145 + 1 → ¬ S k) : WorkOk p a x F' s w' := by
  obtain ⟨hv, k1, k2⟩ := h.wrk
  exact ⟨hv, fun j hj => (k1 j hj).edit he (h1 _ (Or.inl (k1 j hj).kn)), fun j k hj hk => ⟨hF _ (k2 j k hj hk).1, (k2 j k hj hk).2.edit he (h1 _ (Or.inr (k2 j k hj hk).2.kn))⟩⟩
end Go.Proofs.YtlncjgnomhpjnabGreatDoor

