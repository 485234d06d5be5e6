import Derived.Test.YtlncjgnomhpjnabGreatDoorQT28
import Derived.Test.YtlncjgnomhpjnabGreatDoorQT21
import Derived.Deep.QuietTactic
import Derived.Deep.RegionHeld3
/-
  What a task is able to do: the splitter.
-/
namespace Go.Proofs.YtlncjgnomhpjnabGreatDoor
open Go.RowKit Go.Deep
set_option linter.unusedVariables false
/-- A step as a value. -/
def actV (a : Lad) : Option LAct → Value
  | none => .nilFunc
  | some (0, _) => .func (.func 374) #[ptrV a.sp] #[]
  | some (1, _) => .func (.func 380) #[ptrV a.sp] #[]
  | some (2, _) => .func (.func 383) #[ptrV a.su] #[]
  | some (3, _) => .func (.func 386) #[ptrV a.wr] #[]
  | some (4, _) => .func (.func 388) #[ptrV a.wr] #[]
  | some (5, _) => .func (.func 390) #[ptrV a.wr] #[]
  | some (6, j) => .func (.func 411) #[ptrV (a.wk j)] #[]
  | some (7, j) => .func (.func 412) #[ptrV (a.wk j)] #[]
  | some (_ + 8, j) => .func (.func 414) #[ptrV (a.wk j)] #[]
theorem own_len {w : World} {base : Nat} {e : TypeId} {size : Nat} {v : Value} {n : Nat} {xs : List Value} (h : w.ownsRow base e size v n xs) : ∃ b c, v = .slice b n c := by
  rcases h.2 with ⟨rfl, rfl⟩ | ⟨g, cap, cur, rfl, -⟩
  · exact ⟨_, _, rfl⟩
  · exact ⟨_, _, rfl⟩
theorem own_at {w w' : World} {base : Nat} {e : TypeId} {size : Nat} {v : Value} {n : Nat} {xs : List Value} (h : w.ownsRow base e size v n xs) (hb : ∀ g, v.ownBlock = some g → w'.heap[g]? = w.heap[g]?) : w'.ownsRow base e size v n xs := by
  refine ⟨h.1, ?_⟩
  rcases h.2 with ⟨rfl, rfl⟩ | ⟨g, cap, cur, rfl, h1, h2, h3⟩
  · exact Or.inl ⟨rfl, rfl⟩
  · exact Or.inr ⟨g, cap, cur, rfl, h1, (hb g rfl).trans h2, h3⟩
theorem rowIs_at {w w' : World} {g : Nat} {e : TypeId} {n : Nat} {f : Nat → Value} (h : w.rowIs g e n f) (hb : w'.heap[g]? = w.heap[g]?) : w'.rowIs g e n f := by
  obtain ⟨c, h1, h2⟩ := h
  exact ⟨c, hb.trans h1, h2⟩
theorem cell_at {w w' : World} {y : Addr} (hb : w'.heap[y.block]? = w.heap[y.block]?) : w'.cell? y = w.cell? y := by simp [World.cell?, hb]
theorem QIs.at {w w' : World} {q c : Nat} {t : TypeId} {cap : Nat} {buf : Array Value} {cl : Bool} (h : QIs w q c t cap buf cl) (hq : w'.heap[q]? = w.heap[q]?) (hc : w'.heap[c]? = w.heap[c]?) : QIs w' q c t cap buf cl := by
  obtain ⟨s, r, hch⟩ := h.chan
  exact ⟨h.cells.of hq, s, r, hc.trans hch⟩
/-- What is a line's own is as it was: so is the line. -/
theorem LineIs.keep {p : Lpar} {a : Lad} {x : Lsn} {F : Nat → Prop} {s : Lst} {w w' : World} (h : LineIs p a x F s w) (hF : ∀ k, F k → w'.heap[k]? = w.heap[k]?) (hs : w.heap.size ≤ w'.heap.size) : LineIs p a x F s w' := by
  obtain ⟨o1, o2, o3, o4, o5, o6, o7, o8, o9, o10, o11, o12, o13⟩ := h.own
  obtain ⟨sv, fv, lv, c1, c2, c3, c4, c5, c6, c7, c8⟩ := h.cells
  obtain ⟨hv, k1, k2⟩ := h.wrk
  refine ⟨h.kp, h.NB, h.W8, h.d16, h.R8, ⟨sv, fv, lv, c1.of (hF _ o1), c2.of (hF _ o4), own_at c3 fun g hg => hF _ (c4 g hg), c4, own_at c5 fun g hg => hF _ (c6 g hg), c6, own_at c7 fun g hg => hF _ (c8 g hg), c8⟩, h.spl.of (hF _ o2), h.sum.of (hF _ o3),
    ⟨hv, fun j hj => (k1 j hj).of (hF _ (o13 j hj)), fun j k hj hk => ⟨(k2 j k hj hk).1, (k2 j k hj hk).2.of (hF _ (k2 j k hj hk).1)⟩⟩, h.jobs.at (hF _ o5) (hF _ o8), h.lane.at (hF _ o6) (hF _ o9), h.ready.at (hF _ o7) (hF _ o10),
    own_at h.tasks fun g hg => hF _ (by cases hg; exact o11), own_at h.works fun g hg => hF _ (by cases hg; exact o12), fun k hk => ⟨(h.blocks k hk).1, rowIs_at (h.blocks k hk).2 (hF _ (h.blocks k hk).1)⟩,
    fun i hi => ?_, fun i hi j hj => ?_, h.caps, h.low, h.lowF, h.own, fun k hk => Nat.lt_of_lt_of_le (h.lt k hk) hs, h.ne, Nat.le_trans h.b1 hs, (kn_of (hF _ h.lowF.1)).trans h.kl, fun i hi y hy h0 => (kn_of (hF _ (h.lowF.2 i hi y hy h0))).trans (h.ka i hi y hy h0)⟩
  · obtain ⟨y, hy, hc⟩ := h.lists i hi
    cases hy
    exact ⟨_, rfl, (cell_at (hF _ (by cases i <;> exact h.lowF.1))).trans hc⟩
  · obtain ⟨y, hy, hc⟩ := h.ints i hi j hj
    exact ⟨y, hy, (cell_at (hF _ (by cases j <;> exact h.lowF.2 i hi y hy (by omega)))).trans hc⟩
theorem LineIs.drew {p : Lpar} {a : Lad} {x : Lsn} {F : Nat → Prop} {s : Lst} {w : World} (h : LineIs p a x F s w) : LineIs p a x F s w.drew := h.keep (fun _ _ => rfl) (Nat.le_refl _)
theorem LineIs.heap {p : Lpar} {a : Lad} {x : Lsn} {F : Nat → Prop} {s : Lst} {w u : World} (h : LineIs p a x F s w) (e : u.heap = w.heap) : LineIs p a x F s u := h.keep (fun _ _ => by rw [e]) (by rw [e]; exact Nat.le_refl _)
theorem written_any {p : Lpar} {a : Lad} {x : Lsn} {F : Nat → Prop} {s : Lst} {w : World} (h : LineIs p a x F s w) :
    Calls Tryz.prog 107 #[ptrV a.wr] w fun e w' => e = .returned (.int .i64 s.wrote) ∧ w' = w := by
  obtain ⟨sv, fv, lv, hl, hw, -, -, -, -, ho, -⟩ := h.cells
  obtain ⟨b, c, rfl⟩ := own_len ho
  have x3 := hw.cell 3
  simp at x3
  clear h hl hw ho
  unfold ptrV
  go_enter Tryz.func107, Tryz.ntmps107
  go_wp2
  go_ret
  exact ⟨rfl, rfl⟩
theorem lnBlocks_any {p : Lpar} {a : Lad} {x : Lsn} {F : Nat → Prop} {s : Lst} {w : World} (h : LineIs p a x F s w) :
    Calls Tryz.prog 377 #[ptrV a.lb] w fun e w' => e = .returned (.int .i64 p.N) ∧ ∃ m, w' = w.drewN m := by
  obtain ⟨sv, fv, lv, hl, hw, -⟩ := h.cells
  have hS0 : w.drew.cell? ⟨a.lb, 10, none⟩ = some (.int .i64 x.B) ∧ w.drew.cell? ⟨a.lb, 13, none⟩ = some (.int .i64 x.S) := ⟨hl.cell 10, hl.cell 13⟩
  have HB := Hid.mk' (fun u => blocks_any x.S x.B u h.kp.B1 (by have := h.kp.B32; omega) (by have := h.kp.S3; omega))
  rw [h.NB]
  clear h hl hw
  generalize x.B = B at *
  generalize x.S = S at *
  unfold ptrV
  go_enter Tryz.func377, Tryz.ntmps377
  go_wp2_with fail
  go_region_held3 (fun w' => w'.cell? ⟨a.lb, 10, none⟩ = some (.int .i64 B) ∧ w'.cell? ⟨a.lb, 13, none⟩ = some (.int .i64 S)) (with_reducible assumption)
    (first | (go_at_call 62; refine (HB.out _).mono ?_; rintro e u2 ⟨rfl, hw⟩; subst u2; clear HB))
  go_wp2
  go_ret
  exact ⟨rfl, 1, rfl⟩
theorem underWay_any {p : Lpar} {a : Lad} {x : Lsn} {F : Nat → Prop} {s : Lst} {w : World} (h : LineIs p a x F s w) (hi : LInv p s) :
    Calls Tryz.prog 379 #[ptrV a.lb] w fun e w' => e = .returned (.int .i64 ((s.given - s.wrote : Nat) : Int)) ∧ ∃ m, w' = w.drewN m := by
  obtain ⟨sv, fv, lv, hl, hw, -⟩ := h.cells
  have HW := Hid.mk' (written_any h.drew)
  have hS0 : w.drew.cell? ⟨a.lb, 24, none⟩ = some (ptrV a.sp) ∧ w.drew.cell? ⟨a.lb, 26, none⟩ = some (ptrV a.wr) ∧ w.drew.cell? ⟨a.sp, 3, none⟩ = some (.int .i64 s.given) := ⟨hl.cell 24, hl.cell 26, h.spl.cell 3⟩
  have h1 := hi.wrote
  have h2 := hi.given
  have h3 : p.N ≤ 300 := by rw [h.NB]; exact h.kp.nb
  have e1 : IntKind.i64.wrap ((s.given : Int) - (s.wrote : Int)) = ((s.given - s.wrote : Nat) : Int) := by rw [IntKind.wrap_i64]; omega
  clear h hl hw hi
  generalize s.given = gv at *
  generalize s.wrote = wv at *
  unfold ptrV at *
  go_enter Tryz.func379, Tryz.ntmps379
  go_wp2_with fail
  go_region_held3 (fun w' => w'.cell? ⟨a.lb, 24, none⟩ = some (.pointer (some ⟨a.sp, 0, none⟩)) ∧ w'.cell? ⟨a.lb, 26, none⟩ = some (.pointer (some ⟨a.wr, 0, none⟩)) ∧ w'.cell? ⟨a.sp, 3, none⟩ = some (.int .i64 gv)) (with_reducible assumption)
    (first | (go_at_call 107; refine HW.out.mono ?_; rintro e u2 ⟨rfl, hw⟩; subst u2; clear HW))
  go_wp2
  go_ret
  exact ⟨rfl, 1, rfl⟩
theorem quiet_of2 {P : Program} {f : FuncId} {args : Array Value} {w : World} {k n : Nat} {v : Value}
    (h : Calls P f args (w.drewN (k + n)) fun e w' => e = .returned v ∧ ∃ m, w' = (w.drewN (k + n)).drewN m) : Calls P f args (w.drewN (k + n)) fun e w'' => e = .returned v ∧ ∃ m, w'' = w.drewN (k + m) :=
  h.mono fun _ _ ⟨he, m, hm⟩ => ⟨he, n + m, by rw [hm, World.drewN_drewN, Nat.add_assoc]⟩
theorem jFull {p : Lpar} {a : Lad} {x : Lsn} {F : Nat → Prop} {s : Lst} {w : World} (h : LineIs p a x F s w) :
    Calls Tryz.prog 378 #[.pointer (some ⟨a.qj, 0, none⟩)] w fun e w' => e = .returned (.bool (decide (s.jobs.length = p.Rm))) ∧ ∃ m, w' = w.drewN m := by
  have := full_block _ _ _ _ _ _ h.jobs
  simpa using this
theorem lFull {p : Lpar} {a : Lad} {x : Lsn} {F : Nat → Prop} {s : Lst} {w : World} (h : LineIs p a x F s w) :
    Calls Tryz.prog 378 #[.pointer (some ⟨a.ql, 0, none⟩)] w fun e w' => e = .returned (.bool (decide (s.lane.length = p.Rm))) ∧ ∃ m, w' = w.drewN m := by
  have := full_block _ _ _ _ _ _ h.lane
  simpa using this
theorem rFull {p : Lpar} {a : Lad} {x : Lsn} {F : Nat → Prop} {s : Lst} {w : World} (h : LineIs p a x F s w) :
    Calls Tryz.prog 413 #[.pointer (some ⟨a.qr, 0, none⟩)] w fun e w' => e = .returned (.bool (decide (s.ready.length = p.Rm))) ∧ ∃ m, w' = w.drewN m := by
  have := full_packed _ _ _ _ _ _ h.ready
  simpa using this
theorem jAns {p : Lpar} {a : Lad} {x : Lsn} {F : Nat → Prop} {s : Lst} {w : World} (h : LineIs p a x F s w) :
    Calls Tryz.prog 384 #[.pointer (some ⟨a.qj, 0, none⟩)] w fun e w' => e = .returned (.bool (decide (0 < s.jobs.length) || s.e0)) ∧ w' = w := by
  have := answers_block _ _ _ _ _ _ h.jobs
  simpa using this
theorem lAns {p : Lpar} {a : Lad} {x : Lsn} {F : Nat → Prop} {s : Lst} {w : World} (h : LineIs p a x F s w) :
    Calls Tryz.prog 384 #[.pointer (some ⟨a.ql, 0, none⟩)] w fun e w' => e = .returned (.bool (decide (0 < s.lane.length) || s.e0)) ∧ w' = w := by
  have := answers_block _ _ _ _ _ _ h.lane
  simpa using this
theorem rAns {p : Lpar} {a : Lad} {x : Lsn} {F : Nat → Prop} {s : Lst} {w : World} (h : LineIs p a x F s w) :
    Calls Tryz.prog 389 #[.pointer (some ⟨a.qr, 0, none⟩)] w fun e w' => e = .returned (.bool (decide (0 < s.ready.length) || s.shut p)) ∧ w' = w := by
  have := answers_packed _ _ _ _ _ _ h.ready
  simpa using this
theorem jCount {p : Lpar} {a : Lad} {x : Lsn} {F : Nat → Prop} {s : Lst} {w : World} (h : LineIs p a x F s w) :
    Calls Tryz.prog 108 #[.pointer (some ⟨a.qj, 0, none⟩)] w fun e w' => e = .returned (.int .i64 s.jobs.length) ∧ w' = w := by
  have := count_block _ _ _ _ _ _ h.jobs
  simpa using this
theorem lCount {p : Lpar} {a : Lad} {x : Lsn} {F : Nat → Prop} {s : Lst} {w : World} (h : LineIs p a x F s w) :
    Calls Tryz.prog 108 #[.pointer (some ⟨a.ql, 0, none⟩)] w fun e w' => e = .returned (.int .i64 s.lane.length) ∧ w' = w := by
  have := count_block _ _ _ _ _ _ h.lane
  simpa using this
theorem rCount {p : Lpar} {a : Lad} {x : Lsn} {F : Nat → Prop} {s : Lst} {w : World} (h : LineIs p a x F s w) :
    Calls Tryz.prog 109 #[.pointer (some ⟨a.qr, 0, none⟩)] w fun e w' => e = .returned (.int .i64 s.ready.length) ∧ w' = w := by
  have := count_packed _ _ _ _ _ _ h.ready
  simpa using this
set_option maxHeartbeats 1000000 in
theorem spNext_any {p : Lpar} {a : Lad} {x : Lsn} {F : Nat → Prop} {s : Lst} {w : World} (h : LineIs p a x F s w) (hi : LInv p s) :
    Calls Tryz.prog 376 #[ptrV a.sp] w fun e w' => e = .returned (actV a (s.next p 0)) ∧ ∃ m, w' = w.drewN m := by
  obtain ⟨sv, fv, lv, hl, hw, -⟩ := h.cells
  have y0 := h.spl.cell 0
  have y1 := h.spl.cell 1
  have y3 := h.spl.cell 3
  have x23 := hl.cell 23
  have x14 := hl.cell 14
  have x15 := hl.cell 15
  have x6 := hl.cell 6
  simp [lnC, ptrV] at y0 y1 y3 x23 x14 x15 x6
  unfold Lst.next
  have HBL := Hid.mk' (fun (u : World) (e : u.heap = w.heap) => lnBlocks_any (h.heap e))
  have HFJ := Hid.mk' (fun (u : World) (e : u.heap = w.heap) => jFull (h.heap e))
  have HFL := Hid.mk' (fun (u : World) (e : u.heap = w.heap) => lFull (h.heap e))
  have HUW := Hid.mk' (fun (u : World) (e : u.heap = w.heap) => underWay_any (h.heap e) hi)
  clear h hi hl hw
  unfold ptrV at *
  cases he0 : s.e0 with
  | true =>
    rw [he0] at y1
    unfold actV
    go_enter Tryz.func376, Tryz.ntmps376
    go_wp2
    go_ret
    exact ⟨rfl, 0, rfl⟩
  | false =>
    rw [he0] at y1
    cases hst : s.stopped with
    | true =>
      rw [hst] at x23
      unfold actV ptrV
      go_enter Tryz.func376, Tryz.ntmps376
      go_wp2_with fail
      go_quiet (fail)
      go_wp2
      go_ret
      exact ⟨rfl, nq, rfl⟩
    | false =>
      rw [hst] at x23
      by_cases hN : s.given = p.N
      · have d1 : decide (s.given = p.N) = true := decide_eq_true hN
        rw [hN] at y3
        rw [d1]
        clear hN d1
        unfold actV ptrV
        go_enter Tryz.func376, Tryz.ntmps376
        go_wp2_with fail
        go_quiet (first | (go_at_call 377; exact Calls.quiet_of (HBL.out _ rfl)))
        go_wp2
        go_ret
        exact ⟨rfl, nq, rfl⟩
      · have d1 : decide (s.given = p.N) = false := decide_eq_false hN
        have d2 : ((s.given : Int) == (p.N : Int)) = false := by simp; omega
        have d3 : ¬ (s.given : Int) = (p.N : Int) := by omega
        rw [d1]
        clear d1
        cases f1 : decide (s.jobs.length = p.Rm) with
        | true =>
          rw [f1] at HFJ
          unfold actV ptrV
          go_enter Tryz.func376, Tryz.ntmps376
          go_wp2_with fail
          go_quiet (first | (go_at_call 377; exact Calls.quiet_of (HBL.out _ rfl)))
          go_wp2_with fail
          go_quiet (first | (go_at_call 378; exact quiet_of2 (HFJ.out _ rfl)))
          go_wp2
          go_ret
          exact ⟨rfl, _, rfl⟩
        | false =>
          rw [f1] at HFJ
          cases f2 : decide (s.lane.length = p.Rm) with
          | true =>
            rw [f2] at HFL
            unfold actV ptrV
            go_enter Tryz.func376, Tryz.ntmps376
            go_wp2_with fail
            go_quiet (first | (go_at_call 377; exact Calls.quiet_of (HBL.out _ rfl)))
            go_wp2_with fail
            go_quiet (first | (go_at_call_of 378 a.qj; exact quiet_of2 (HFJ.out _ rfl)) | (go_at_call_of 378 a.ql; exact quiet_of2 (HFL.out _ rfl)))
            go_wp2
            go_ret
            exact ⟨rfl, _, rfl⟩
          | false =>
            rw [f2] at HFL
            cases f3 : decide (s.given - s.wrote < p.Wd) with
            | true =>
              have d4 : decide (((s.given - s.wrote : Nat) : Int) < (p.Wd : Int)) = true := decide_eq_true (by have := of_decide_eq_true f3; omega)
              generalize s.given - s.wrote = un at *
              unfold actV ptrV
              go_enter Tryz.func376, Tryz.ntmps376
              go_wp2_with fail
              go_quiet (first | (go_at_call 377; exact Calls.quiet_of (HBL.out _ rfl)))
              go_wp2_with fail
              go_quiet (first | (go_at_call_of 378 a.qj; exact quiet_of2 (HFJ.out _ rfl)) | (go_at_call_of 378 a.ql; exact quiet_of2 (HFL.out _ rfl)) | (go_at_call 379; exact quiet_of2 (HUW.out _ rfl)))
              go_wp2
              go_ret
              exact ⟨rfl, _, rfl⟩
            | false =>
              have d4 : decide (((s.given - s.wrote : Nat) : Int) < (p.Wd : Int)) = false := decide_eq_false (by have := of_decide_eq_false f3; omega)
              generalize s.given - s.wrote = un at *
              unfold actV ptrV
              go_enter Tryz.func376, Tryz.ntmps376
              go_wp2_with fail
              go_quiet (first | (go_at_call 377; exact Calls.quiet_of (HBL.out _ rfl)))
              go_wp2_with fail
              go_quiet (first | (go_at_call_of 378 a.qj; exact quiet_of2 (HFJ.out _ rfl)) | (go_at_call_of 378 a.ql; exact quiet_of2 (HFL.out _ rfl)) | (go_at_call 379; exact quiet_of2 (HUW.out _ rfl)))
              go_wp2
              go_ret
              exact ⟨rfl, _, rfl⟩
end Go.Proofs.YtlncjgnomhpjnabGreatDoor

