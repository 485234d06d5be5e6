import Derived.Test.YtlncjgnomhpjnabGreatDoorQT41
/-
  The line: is it over? What do the workers hold?
-/
namespace Go.Proofs.YtlncjgnomhpjnabGreatDoor
open Go.RowKit Go.Deep
set_option linter.unusedVariables false
theorem able_any {p : Lpar} {a : Lad} {x : Lsn} {F : Nat → Prop} {s : Lst} {w : World} (h : LineIs p a x F s w) (hi : LInv p s) :
    Calls Tryz.prog 78 #[ptrV a.lb] w fun e w' => ∃ v, e = .returned v ∧ w'.ownsRow w.heap.size 3 1 v (s.able p).length ((s.able p).map fun (k : Nat) => .int .i64 (k : Int)) ∧ Below w.heap.size w w' := by
  have HT := Hid.mk' (tasksAble h hi)
  clear h hi
  unfold ptrV at *
  go_enter Tryz.func78, Tryz.ntmps78
  go_wp2_with (go_at_call 112; refine HT.out.mono ?_; rintro e u ⟨v, rfl, hv⟩; have HV := Hid.mk' hv; clear hv HT)
  go_ret
  exact ⟨v, rfl, HV.out⟩
theorem LInv.overB {p : Lpar} {s : Lst} (h : LInv p s) : decide ((s.ended p).length = 3 + p.W) = s.e2 := by
  have h1 : (s.ended p).length = 3 + p.W ↔ s.e2 = true := by
    rw [← h.over]
    constructor
    · intro h1
      have h2 : (s.ended p).length = (List.range (3 + p.W)).length := by rw [h1, List.length_range]
      unfold Lst.ended at h2 ⊢
      rw [List.length_filter_eq_length_iff] at h2
      exact List.filter_eq_self.2 h2
    · intro h1
      rw [h1, List.length_range]
  cases h2 : s.e2 with
  | true => exact decide_eq_true (h1.2 h2)
  | false => exact decide_eq_false fun h3 => by rw [h1.1 h3] at h2; cases h2
set_option maxRecDepth 100000 in
theorem over_any {p : Lpar} {a : Lad} {x : Lsn} {F : Nat → Prop} {s : Lst} {w : World} (h : LineIs p a x F s w) (hi : LInv p s) :
    Calls Tryz.prog 104 #[ptrV a.lb] w fun e w' => e = .returned (.bool s.e2) ∧ Below w.heap.size w w' := by
  have HT : Hid (Calls Tryz.prog 112 #[ptrV a.lb, .func (.methodOf 178 "reel/line.hasEnded") #[] #[]] w.drew fun e w' => ∃ v, e = .returned v ∧ w'.ownsRow w.heap.size 3 1 v (s.ended p).length ((s.ended p).map fun (k : Nat) => .int .i64 (k : Int)) ∧ Below w.heap.size w.drew w') := tasksEnded h.drew
  obtain ⟨sv, fv, lv, hl, -⟩ := h.cells
  have HC : Hid (∀ u, Below w.heap.size w u → u.cell? ⟨a.lb, 28, none⟩ = some (.slice (some ⟨a.tb, 0, none⟩) (3 + p.W) a.tc)) := fun u hu => (hl.below hu).cell 28
  have hS0 := HC.out w.drew (bel_drewN (Below.refl _ _) 1)
  have he2 := hi.overB
  have hbe : ((((s.ended p).length : Int)) == 3 + (p.W : Int)) = s.e2 := by
    rw [← he2]
    by_cases e : (s.ended p).length = 3 + p.W
    · rw [decide_eq_true e, e]; simp
    · rw [decide_eq_false e]; simp; omega
  generalize (s.ended p).map (fun (k : Nat) => Value.int .i64 (k : Int)) = xs at *
  generalize (s.ended p).length = n at *
  generalize s.e2 = b2 at *
  clear h hi hl he2
  unfold ptrV at *
  go_enter Tryz.func104, Tryz.ntmps104
  go_wp2_with fail
  go_region_held3 (fun w' => w'.cell? ⟨a.lb, 28, none⟩ = some (.slice (some ⟨a.tb, 0, none⟩) (3 + p.W) a.tc)) (first | with_reducible exact hS0 | with_reducible exact hS1)
    (first
    | (go_at_call 112; refine HT.out.mono ?_; rintro e u ⟨v, rfl, ho, hb⟩; obtain ⟨A, cap, rfl, -⟩ := own_open ho; have hb' : Below w.heap.size w u := ⟨hb.os, hb.tape, hb.output, hb.size, hb.block⟩; have hS1 := HC.out u hb'; have HB := Hid.mk' hb'; clear ho hb hb' HT))
  go_wp2
  go_ret
  exact ⟨by simp, HB.out⟩
/-- What a worker holds, as a number. -/
def heldI (s : Lst) (j : Nat) : Int := match s.held j with
  | none => -1
  | some k => k
theorem holds_any {p : Lpar} {a : Lad} {x : Lsn} {F : Nat → Prop} {s : Lst} {w : World} (h : LineIs p a x F s w) (j : Nat) (hj : j < p.W) :
    Calls Tryz.prog 175 #[ptrV (a.wk j)] w fun e w' => e = .returned (.int .i64 (heldI s j)) ∧ w' = w := by
  obtain ⟨hv, k1, k2⟩ := h.wrk
  have y2 := (k1 j hj).cell 2
  unfold heldI
  cases hh : s.held j with
  | none =>
    simp [heV, hh] at y2
    clear h k1 k2
    unfold ptrV at *
    go_enter Tryz.func175, Tryz.ntmps175
    go_wp2
    go_ret
    exact ⟨rfl, rfl⟩
  | some k =>
    have z0 := (k2 j k hj hh).2.cell 0
    simp [heV, hh, ptrV] at y2 z0
    clear h k1 k2
    unfold ptrV at *
    go_enter Tryz.func175, Tryz.ntmps175
    go_wp2
    go_ret
    exact ⟨rfl, rfl⟩
set_option maxRecDepth 100000 in
set_option maxHeartbeats 2000000 in
theorem held_any {p : Lpar} {a : Lad} {x : Lsn} {F : Nat → Prop} {s : Lst} {w : World} (h : LineIs p a x F s w) :
    Calls Tryz.prog 110 #[ptrV a.lb] w fun e w' => ∃ v, e = .returned v ∧ w'.ownsRow w.heap.size 3 1 v p.W ((List.range p.W).map fun j => .int .i64 (heldI s j)) ∧ Below w.heap.size w w' := by
  obtain ⟨sv, fv, lv, hl, -⟩ := h.cells
  have x27 := hl.cell 27
  simp [lnC] at x27
  have hW := h.W8
  have HTV : Hid (∀ u, Below w.heap.size w u → ∀ q, q < p.W → u.cell? ⟨a.wb, q, none⟩ = some (.pointer (some ⟨a.wk q, 0, none⟩))) := fun u hu q hq => by
    obtain ⟨g, cap, hg, -, -, hc⟩ := own_cells h.works (by omega)
    cases hg
    have h1 := hc q (ptrV (a.wk q)) (by simp [hq])
    exact (cellOf (hu.block a.wb (h.lt _ h.own.2.2.2.2.2.2.2.2.2.2.2.1))).trans h1
  have HAB : Hid (∀ u, Below w.heap.size w u → ∀ q, q < p.W → Calls Tryz.prog 175 #[.pointer (some ⟨a.wk q, 0, none⟩)] u fun e w' => e = .returned (.int .i64 (heldI s q)) ∧ w' = u) := fun u hu q hq => holds_any (h.keep (fun k hk => hu.block k (h.lt k hk)) hu.size) q hq
  clear h hl
  generalize heldI s = ff at *
  unfold ptrV at *
  go_enter Tryz.func110, Tryz.ntmps110
  go_wp2
  go_loopw [3, 11] (fun s5 s13 wr => ∃ q : Nat, ∃ v5 : Value, v5 = s5 ∧ q ≤ p.W ∧ s13 = .int .i64 q ∧ Hid (wr.ownsRow w.heap.size 3 1 v5 q ((List.range q).map fun j => .int .i64 (ff j)) ∧ Below w.heap.size w wr)) (fun _ s13 _ => p.W - (intOf s13).toNat)
  case atStart => exact ⟨0, _, rfl, Nat.zero_le _, rfl, ⟨rfl, Or.inl ⟨rfl, rfl⟩⟩, Below.refl _ _⟩
  case round =>
    obtain ⟨q, v5, hv5, hq, rfl, HI⟩ := hrel
    subst hv5
    by_cases hlt : q < p.W
    · have t0 := HTV.out wr HI.out.2 q hlt
      have HA := Hid.mk' (HAB.out wr HI.out.2 q hlt)
      have hsz := HI.out.2.size
      obtain ⟨g', cap', w', hr, ho, he, -⟩ := appInt wr w.heap.size _ q _ (ff q) 30 HI.out.1 hsz (by omega)
      have HR := Hid.mk' hr
      have HO : Hid (w'.ownsRow w.heap.size 3 1 (.slice (some ⟨g', 0, none⟩) (q + 1) cap') (q + 1) ((List.range (q + 1)).map fun j => .int .i64 (ff j)) ∧ Below w.heap.size w w') := by
        refine ⟨by rw [List.range_succ, List.map_append]; exact ho, HI.out.2.trans ?_⟩
        exact he.below (B := w.heap.size) hsz fun b hb => own_low HI.out.1 b hb
      clear hr ho he
      go_wp2_with (first
        | (go_at_call 175; refine HA.out.mono ?_; rintro e u ⟨rfl, hu⟩; subst u; clear HA)
        | (at_builtin; refine Lib.wpList_append_run _ rfl _ _ _ _ rfl _ _ rfl rfl _ _ HR.out ?_))
      go_roundw
      case rel => exact ⟨q + 1, _, rfl, by omega, by go_num, HO⟩
      case measure => simp [intOf]; omega
    · have e : q = p.W := by omega
      subst e
      go_wp2
      go_ret
      exact ⟨_, rfl, HI.out⟩
/-- The state, as a number. -/
def lstN (s : Lst) : Int := if s.e2 then (if s.stopped then (if s.failed then 3 else 2) else 1) else 0
set_option maxRecDepth 100000 in
theorem state_any {p : Lpar} {a : Lad} {x : Lsn} {F : Nat → Prop} {s : Lst} {w : World} (h : LineIs p a x F s w) (hi : LInv p s) :
    Calls Tryz.prog 106 #[ptrV a.lb] w fun e w' => e = .returned (.int .i64 (lstN s)) ∧ Below w.heap.size w w' := by
  have HO := Hid.mk' (over_any h hi)
  obtain ⟨sv, fv, lv, hl, -⟩ := h.cells
  have HC : Hid (∀ u, Below w.heap.size w u → u.cell? ⟨a.lb, 23, none⟩ = some (.bool s.stopped) ∧ u.cell? ⟨a.lb, 20, none⟩ = some (.bool s.failed)) := fun u hu => ⟨(hl.below hu).cell 23, (hl.below hu).cell 20⟩
  clear h hi hl
  unfold lstN
  generalize s.e2 = b at *
  generalize s.stopped = st at *
  generalize s.failed = fl at *
  unfold ptrV at *
  cases b <;> cases st <;> cases fl
  all_goals
    go_enter Tryz.func106, Tryz.ntmps106
    go_wp2_with (go_at_call 104; refine HO.out.mono ?_; rintro e u ⟨rfl, hb⟩; have k1 := (HC.out u hb).1; have k2 := (HC.out u hb).2; have HB := Hid.mk' hb; clear hb HO)
    go_ret
    exact ⟨rfl, HB.out⟩
end Go.Proofs.YtlncjgnomhpjnabGreatDoor

/-
  The line: a step, whichever it is.
-/
namespace Go.Proofs.YtlncjgnomhpjnabGreatDoor
open Go.RowKit Go.Deep
set_option linter.unusedVariables false
theorem LInv.writes_le {p : Lpar} {s : Lst} (h : LInv p s) : s.writes ≤ p.N + 2 := by
  have h1 := h.wrote
  have h2 := h.given
  cases hb : s.begun with
  | false => have := h.hd0 hb; omega
  | true =>
    cases hs : s.stopped with
    | false =>
      cases h3 : s.e2 with
      | false => have := h.hd1 hb hs h3; omega
      | true => have := h.hd2 h3 hs; omega
    | true =>
      cases hf : s.failed with
      | false => have := (h.fc hs hf).1; omega
      | true => have := (h.ff hf).2; omega
theorem LInv.shelf_le {p : Lpar} {s : Lst} (h : LInv p s) : s.shelf.length ≤ p.N := by
  cases hs : s.stopped with
  | true => rw [h.stop hs]; exact Nat.zero_le _
  | false =>
    have := h.put_len hs
    have := h.given
    omega
theorem LInv.lane_cons {p : Lpar} {s : Lst} (h : LInv p s) {k : Nat} {r : List Nat} (e : s.lane = k :: r) : k = s.summed ∧ s.summed < s.given := by
  have h1 := h.lane
  rw [e] at h1
  have h2 : 0 < s.given - s.summed := by
    apply Nat.pos_of_ne_zero
    intro hz
    rw [hz] at h1
    cases h1.2
  have h3 := h1.2
  rw [show s.given - s.summed = (s.given - (s.summed + 1)) + 1 by omega, List.range'_succ] at h3
  exact ⟨(List.cons.inj h3).1, by omega⟩
/-- What a step leaves. -/
def Stepped (p : Lpar) (a : Lad) (x : Lsn) (F : Nat → Prop) (s' : Lst) (w w' : World) : Prop := ∃ a' F', a'.lb = a.lb ∧ a'.b1 = a.b1 ∧ Own F F' w ∧ LineIs p a' x F' s' w' ∧ Edit F w w'
theorem Stepped.of {p : Lpar} {a : Lad} {x : Lsn} {F F' : Nat → Prop} {s' : Lst} {w w' : World} (h : Own F F' w ∧ LineIs p a x F' s' w' ∧ Edit F w w') : Stepped p a x F s' w w' := ⟨a, F', rfl, rfl, h⟩
theorem Stepped.same {p : Lpar} {a : Lad} {x : Lsn} {F : Nat → Prop} {s' : Lst} {w w' : World} (h : LineIs p a x F s' w' ∧ Edit F w w') : Stepped p a x F s' w w' := ⟨a, F, rfl, rfl, Own.refl F w, h⟩
/-- The function of a step, and what it is called on. -/
def actF : LAct → Nat
  | (0, _) => 374
  | (1, _) => 380
  | (2, _) => 383
  | (3, _) => 386
  | (4, _) => 388
  | (5, _) => 390
  | (6, j) => 411
  | (7, j) => 412
  | (_ + 8, j) => 414
def actR (a : Lad) : LAct → Nat
  | (0, _) => a.sp
  | (1, _) => a.sp
  | (2, _) => a.su
  | (3, _) => a.wr
  | (4, _) => a.wr
  | (5, _) => a.wr
  | (6, j) => a.wk j
  | (7, j) => a.wk j
  | (_ + 8, j) => a.wk j
theorem actV_eq (a : Lad) (c : LAct) : actV a (some c) = .func (.func (actF c)) #[.pointer (some ⟨actR a c, 0, none⟩)] #[] := by cases c using LAct.on <;> rfl
theorem actF_enters (c : LAct) : ∀ args w, (callFunc (actF c) args).run Tryz.prog w = .ok (.enter (actF c) args) w := by
  cases c using LAct.on
  · exact enters_of Tryz.func374 (by kernel_rfl) rfl
  · exact enters_of Tryz.func380 (by kernel_rfl) rfl
  · exact enters_of Tryz.func383 (by kernel_rfl) rfl
  · exact enters_of Tryz.func386 (by kernel_rfl) rfl
  · exact enters_of Tryz.func388 (by kernel_rfl) rfl
  · exact enters_of Tryz.func390 (by kernel_rfl) rfl
  · exact enters_of Tryz.func411 (by kernel_rfl) rfl
  · exact enters_of Tryz.func412 (by kernel_rfl) rfl
  · exact enters_of Tryz.func414 (by kernel_rfl) rfl
theorem act_any {p : Lpar} {a : Lad} {x : Lsn} {F : Nat → Prop} {s : Lst} {w : World} (h : LineIs p a x F s w) (hi : LInv p s) (hT : TabsF w) {t : Nat} {c : LAct} (ht : t < 3 + p.W) (hn : s.next p t = some c) :
    Calls Tryz.prog (actF c) #[.pointer (some ⟨actR a c, 0, none⟩)] w fun e w' => e = .returned (.tuple #[]) ∧ Stepped p a x F (s.act p c) w w' := by
  have hNB := h.NB
  have hnb := h.kp.nb
  have hwr := hi.writes_le
  have hgN := hi.given
  have hwg := hi.wrote
  have hsl := hi.shelf_le
  match t, hn with
  | 0, hn =>
    obtain ⟨h0, ⟨rfl, h1⟩ | ⟨rfl, h1, h2, h3, h4, h5⟩⟩ := next0 hn
    · refine (spEnd_any h h0).mono ?_
      rintro e w' ⟨rfl, h6⟩
      exact ⟨rfl, Stepped.same h6⟩
    · have hj := hi.jr
      have hl := hi.lr
      refine (spGive_any h hi h0 (by omega) (by omega) (by omega)).mono ?_
      rintro e w' ⟨rfl, g, F', h6⟩
      exact ⟨rfl, a.reg s.given g, F', rfl, rfl, h6⟩
  | 1, hn =>
    obtain ⟨h0, rfl, h1⟩ := next1 hn
    cases e : s.lane with
    | nil =>
      rw [show s.act p .sum = { s with e1 := true } by simp only [Lst.act, e]]
      refine (suTake0_any h e (h1 e)).mono ?_
      rintro e w' ⟨rfl, h6⟩
      exact ⟨rfl, Stepped.same h6⟩
    | cons k r =>
      obtain ⟨rfl, h2⟩ := hi.lane_cons e
      rw [show s.act p .sum = { s with lane := r, summed := s.summed + 1 } by simp only [Lst.act, e]]
      refine (suTake_any h r e h2 (by omega)).mono ?_
      rintro e w' ⟨rfl, h6⟩
      exact ⟨rfl, Stepped.same h6⟩
  | 2, hn =>
    obtain ⟨h0, ⟨rfl, h1⟩ | ⟨h1, ⟨rfl, h2⟩ | ⟨rfl, h2, h3⟩⟩⟩ := next2 hn
    · refine (wrBegin_any h (by omega)).mono ?_
      rintro e w' ⟨rfl, h6⟩
      exact ⟨rfl, Stepped.same h6⟩
    · cases e : s.shelf with
      | nil => rw [e] at h2; cases h2
      | cons k r =>
        rw [e] at h2
        cases h2
        rw [e, List.length_cons] at hsl
        have hm : s.wrote ∈ s.put p := by unfold Lst.put; rw [e]; exact List.mem_append_right _ (List.mem_cons_self ..)
        have hlt := (hi.ahead _ hm).2
        refine (wrFrame_any h (by omega) r e (by omega) (by omega)).mono ?_
        rintro e w' ⟨rfl, F', h6⟩
        exact ⟨rfl, Stepped.of h6⟩
    · cases e : s.ready with
      | nil =>
        obtain ⟨hsh, he1⟩ := h3 e
        obtain ⟨-, hN⟩ := hi.last hsh e h2
        refine (wrTake0_any h e hsh (by omega) (by omega) fun hs => ⟨by rw [hN hs, hNB], ?_⟩).mono ?_
        · obtain ⟨h7, h8⟩ := hi.e1 he1
          have h9 : s.given = p.N := by rcases hi.e0 h7 with h3 | h3; rw [hs] at h3; cases h3; exact h3
          have h10 := hi.lane_len
          rw [h8, List.length_nil] at h10
          have := hi.lane.1
          omega
        · rintro e w' ⟨rfl, h6⟩
          exact ⟨rfl, Stepped.same h6⟩
      | cons k r =>
        refine (wrTake_any h k r e hi.sorted (by omega)).mono ?_
        rintro e w' ⟨rfl, F', h6⟩
        exact ⟨rfl, Stepped.of h6⟩
  | j + 3, hn =>
    have hj : j < p.W := by omega
    obtain ⟨h0, ⟨rfl, h1, h2⟩ | ⟨k, h1, ⟨rfl, h2⟩ | ⟨rfl, h2, h3⟩⟩⟩ := next3 hn
    · cases e : s.jobs with
      | nil =>
        rw [show s.act p (.takeW j) = { s with ew := updL s.ew j true } by simp [Lst.act, e]]
        refine (wkTake0_any h j hj e (h2 e) h1 h0).mono ?_
        rintro e w' ⟨rfl, h6⟩
        exact ⟨rfl, Stepped.same h6⟩
      | cons k r =>
        rw [show s.act p (.takeW j) = { s with jobs := r, held := updL s.held j (some k) } by simp [Lst.act, e]]
        refine (wkTake_any h j hj k r e).mono ?_
        rintro e w' ⟨rfl, F', h6⟩
        exact ⟨rfl, Stepped.of h6⟩
    · refine (wkLet_any h j hj).mono ?_
      rintro e w' ⟨rfl, h6⟩
      exact ⟨rfl, Stepped.same h6⟩
    · have hkg := hi.lt_held j k hj h1
      have hr := hi.rr
      rw [show s.act p (.hand j) = { s with held := updL s.held j none, ready := s.ready ++ [k] } by simp [Lst.act, h1]]
      refine (wkHand_any h j k hj h1 h0 hkg (by omega) (by omega) hT).mono ?_
      rintro e w' ⟨rfl, h6⟩
      exact ⟨rfl, Stepped.same h6⟩
theorem nextOf {p : Lpar} {a : Lad} {x : Lsn} {F : Nat → Prop} {s : Lst} (hi : LInv p s) (t : Nat) (ht : t < 3 + p.W) :
    ∃ ty b fn, taskV a t = .iface ty (.pointer (some ⟨b, 0, none⟩)) ∧ (∀ k u, (method (k + 1) ty (.pointer (some ⟨b, 0, none⟩)) "reel/line.next").run Tryz.prog u = .ok (fn, .pointer (some ⟨b, 0, none⟩)) u) ∧ (∀ args u, (callFunc fn args).run Tryz.prog u = .ok (.enter fn args) u) ∧
      ∀ u, LineIs p a x F s u → Calls Tryz.prog fn #[.pointer (some ⟨b, 0, none⟩)] u fun e w' => e = .returned (actV a (s.next p t)) ∧ ∃ m, w' = u.drewN m := by
  match t, ht with
  | 0, _ => exact ⟨154, a.sp, 376, rfl, fun k u => mNext0 k ⟨a.sp, 0, none⟩ u, enters_of Tryz.func376 (by kernel_rfl) rfl, fun u h => spNext_any h hi⟩
  | 1, _ => exact ⟨155, a.su, 382, rfl, fun k u => mNext1 k ⟨a.su, 0, none⟩ u, enters_of Tryz.func382 (by kernel_rfl) rfl, fun u h => suNext_any h⟩
  | 2, _ => exact ⟨156, a.wr, 387, rfl, fun k u => mNext2 k ⟨a.wr, 0, none⟩ u, enters_of Tryz.func387 (by kernel_rfl) rfl, fun u h => wrNext_any h⟩
  | j + 3, ht => exact ⟨170, a.wk j, 410, rfl, fun k u => mNext3 k ⟨a.wk j, 0, none⟩ u, enters_of Tryz.func410 (by kernel_rfl) rfl, fun u h => wkNext_any h j (by omega)⟩
end Go.Proofs.YtlncjgnomhpjnabGreatDoor

/-
  The line: Step, Bytes.
-/
namespace Go.Proofs.YtlncjgnomhpjnabGreatDoor
open Go.RowKit Go.Deep
set_option linter.unusedVariables false
/-- The task that is picked. -/
def pickT (p : Lpar) (s : Lst) (k : Nat) : Nat := (s.able p).getD (k % (s.able p).length) 0
theorem pickT_ok {p : Lpar} {s : Lst} {k : Nat} (h : s.able p ≠ []) : k % (s.able p).length < (s.able p).length ∧ (s.able p)[k % (s.able p).length]? = some (pickT p s k) ∧ pickT p s k < 3 + p.W ∧ ∃ c, s.next p (pickT p s k) = some c := by
  have h0 : 0 < (s.able p).length := List.length_pos_iff.2 h
  have h1 := Nat.mod_lt k h0
  have h2 : (s.able p)[k % (s.able p).length]? = some (pickT p s k) := by
    unfold pickT
    rw [List.getD_eq_getElem?_getD, List.getElem?_eq_getElem h1]
    rfl
  have h3 : pickT p s k ∈ s.able p := List.mem_of_getElem? h2
  unfold Lst.able at h3
  rw [List.mem_filter] at h3
  exact ⟨h1, h2, List.mem_range.1 h3.1, Option.isSome_iff_exists.1 h3.2⟩
theorem Stepped.after {p : Lpar} {a : Lad} {x : Lsn} {F : Nat → Prop} {s' : Lst} {w u w' : World} (h : Stepped p a x F s' u w') (hb : Below w.heap.size w u) : Stepped p a x F s' w w' := by
  obtain ⟨a', F', h1, h2, h3, h4, h5⟩ := h
  exact ⟨a', F', h1, h2, ⟨h3.1, fun k hk => (h3.2 k hk).imp id fun hk => Nat.le_trans hb.size hk⟩, h4, (Edit.of hb).trans h5⟩
set_option maxRecDepth 100000 in
set_option maxHeartbeats 2000000 in
theorem step_any {p : Lpar} {a : Lad} {x : Lsn} {F : Nat → Prop} {s : Lst} {w : World} (h : LineIs p a x F s w) (hi : LInv p s) (hT : TabsF w) (k : Nat) (hk : (k : Int) ≤ 9223372036854775807) (ha : s.able p ≠ []) :
    Calls Tryz.prog 105 #[ptrV a.lb, .int .i64 k] w fun e w' => e = .returned (.int .i64 (pickT p s k : Nat)) ∧ ∃ c, s.next p (pickT p s k) = some c ∧ Stepped p a x F (s.act p c) w w' := by
  obtain ⟨h1, h2, h3, c, h4⟩ := pickT_ok (k := k) ha
  have HAB := Hid.mk' (able_any h hi)
  obtain ⟨ty, b, fn, n1, n2, n3, n4⟩ := nextOf (a := a) (x := x) (F := F) hi (pickT p s k) h3
  have HL : Hid (∀ u, Below w.heap.size w u → LineIs p a x F s u) := fun u hu => h.keep (fun k hk => hu.block k (h.lt k hk)) hu.size
  have HN4 := Hid.mk' n4
  have HN2 := Hid.mk' n2
  have HAC : Hid (∀ u, Below w.heap.size w u → Calls Tryz.prog (actF c) #[.pointer (some ⟨actR a c, 0, none⟩)] u fun e w' => e = .returned (.tuple #[]) ∧ Stepped p a x F (s.act p c) w w') := fun u hu => by
    refine (act_any (HL.out u hu) hi (hT.below hu) h3 h4).mono ?_
    rintro e w' ⟨rfl, h6⟩
    exact ⟨rfl, h6.after hu⟩
  have HF : Hid (∃ c, s.next p (pickT p s k) = some c ∧ (s.act p c) = s.act p c) := ⟨c, h4, rfl⟩
  have HCC : Hid (s.next p (pickT p s k) = some c) := h4
  rw [h4, actV_eq] at HN4
  have egf := actF_enters c
  have HTV : Hid (∀ u, Below w.heap.size w u → u.cell? ⟨a.tb, pickT p s k, none⟩ = some (.iface ty (.pointer (some ⟨b, 0, none⟩))) ∧ u.cell? ⟨a.lb, 28, none⟩ = some (.slice (some ⟨a.tb, 0, none⟩) (3 + p.W) a.tc)) := fun u hu => by
    obtain ⟨sv, fv, lv, hl, -⟩ := h.cells
    obtain ⟨g, cap, hg, -, -, hc⟩ := own_cells h.tasks (by omega)
    cases hg
    have h5 := hc (pickT p s k) (taskV a (pickT p s k)) (by simp [h3])
    rw [n1] at h5
    exact ⟨(cellOf (hu.block a.tb (h.lt _ h.own.2.2.2.2.2.2.2.2.2.2.1))).trans h5, (hl.below hu).cell 28⟩
  have hW := h.W8
  have hal : (s.able p).length ≤ 3 + p.W := by have := List.length_filter_le (fun t => (s.next p t).isSome) (List.range (3 + p.W)); rw [List.length_range] at this; exact this
  have h0 : 0 < (s.able p).length := List.length_pos_iff.2 ha
  have hmod : ((k : Int)).tmod (((s.able p).length : Nat) : Int) = ((k % (s.able p).length : Nat) : Int) := by rw [Int.tmod_eq_emod_of_nonneg (by omega)]; exact (Int.natCast_emod k _).symm
  have HG : Hid (∀ (u : World) (v : Value), u.ownsRow w.heap.size 3 1 v (s.able p).length ((s.able p).map fun (k : Nat) => .int .i64 (k : Int)) → ∃ g cap, v = .slice (some ⟨g, 0, none⟩) (s.able p).length cap ∧ u.cell? ⟨g, k % (s.able p).length, none⟩ = some (.int .i64 (pickT p s k : Nat))) := fun u v ho => by
    obtain ⟨A, cap, rfl, hA⟩ := own_open ho
    obtain ⟨g, rfl, -, hc⟩ := hA h0
    exact ⟨g, cap, rfl, hc _ _ (by rw [List.getElem?_map, h2]; rfl)⟩
  generalize hpt : pickT p s k = t at *
  clear h hi hT n1 n2 n4 h2 h4 ha hpt
  generalize hpm : k % (s.able p).length = pm at *
  generalize (s.able p).map (fun (k : Nat) => Value.int .i64 (k : Int)) = xs at *
  generalize (s.able p).length = al at *
  generalize actF c = af at *
  generalize actR a c = ar at *
  clear hpm
  unfold ptrV at *
  have hti : (t : Int) < 3 + (p.W : Int) := by omega
  go_enter Tryz.func105, Tryz.ntmps105
  go_wp2_with (first
    | (go_at_call 78; refine HAB.out.mono ?_; rintro e u ⟨v, rfl, ho, hb⟩; obtain ⟨g, cap, rfl, hc⟩ := HG.out u v ho; have k1 := (HTV.out u hb).1; have k2 := (HTV.out u hb).2; have HB := Hid.mk' hb; have HNX := Hid.mk' (HN4.out u (HL.out u hb)); clear ho hb HAB)
    | (simp only [HN2.out])
    | (go_at_fn fn; refine HNX.out.mono ?_; rintro e u2 ⟨rfl, m, rfl⟩; have HA2 := Hid.mk' (HAC.out (u.drewN m) (bel_drewN HB.out m)); clear HNX)
    | (go_at_fn af; refine HA2.out.mono ?_; rintro e u3 ⟨rfl, hst⟩; have HST := Hid.mk' hst; clear hst HA2))
  go_ret
  exact ⟨rfl, c.1, c.2, HCC.out, HST.out⟩
end Go.Proofs.YtlncjgnomhpjnabGreatDoor

/-
  The line: what the sink holds.
-/
namespace Go.Proofs.YtlncjgnomhpjnabGreatDoor
open Go.RowKit Go.Deep
set_option linter.unusedVariables false
theorem conv_nil (w : World) : (convert 33 9 (.slice none 0 0)).run Tryz.prog w = .ok (.string ⟨#[]⟩) w := by kernel_rfl
theorem conv_own {w : World} {base n : Nat} {v : Value} {T : List UInt8} (h : w.ownsRow base 5 1 v n (T.map fun b => .int .u8 (b.toNat : Int))) : (convert 33 9 v).run Tryz.prog w = .ok (.string (bs T)) w := by
  have hl := h.1
  rw [List.length_map, Nat.mul_one] at hl
  obtain ⟨A, cap, rfl, hA⟩ := own_open h
  by_cases h0 : 0 < n
  · obtain ⟨g, rfl, -, hc⟩ := hA h0
    subst hl
    exact run_convert_bytes_back (P := Tryz.prog) w 33 9 5 ⟨g, 0, none⟩ cap T Tryz.underlying33 Tryz.underlying5 Tryz.underlying9 (fun j hj => by rw [Addr.add_lit, Nat.zero_add]; exact hc j _ (by simp [hj]))
  · have h1 : n = 0 := by omega
    subst h1
    have h2 : T = [] := List.eq_nil_of_length_eq_zero hl
    subst h2
    rcases h.2 with ⟨h3, -⟩ | ⟨g, cap', cur, h3, -⟩
    · rw [h3]
      exact conv_nil w
    · rw [h3]
      exact run_convert_bytes_back (P := Tryz.prog) w 33 9 5 ⟨g, 0, none⟩ cap' [] Tryz.underlying33 Tryz.underlying5 Tryz.underlying9 (fun j hj => absurd hj (Nat.not_lt_zero j))
theorem hdT_len (x : Lsn) (h : KP x.d x.ch x.B x.c3 x.c4 x.S x.G) (q : Nat) : (hdT x q).length ≤ 1000 := by
  have hnb := h.nb
  match q with
  | 0 => exact Nat.zero_le _
  | 1 =>
    have := nPts_300 (seek := x.c4) h.B1 h.S3
    simp only [hdT, headTx_length, List.length_replicate]
    omega
  | q + 2 =>
    have := pntN_len (frLn x) x.c4 (nBlk x.S x.B)
    simp only [hdT, headTx_length]
    omega
set_option linter.unusedSimpArgs false in
set_option maxRecDepth 100000 in
theorem sinkBytes_any {p : Lpar} {a : Lad} {x : Lsn} {F : Nat → Prop} {s : Lst} {w : World} (h : LineIs p a x F s w) (hb : s.wrote ≤ nBlk x.S x.B) :
    Calls Tryz.prog 113 #[.pointer (some ⟨a.lb, 18, none⟩)] w fun e w' => e = .returned (.string (bs (hdT x s.hd ++ frsT x.d x.ch x.G x.S x.B s.wrote))) ∧ ∃ m, w' = w.drewN m := by
  obtain ⟨sv, fv, lv, hl, -, -, -, c5, -⟩ := h.cells
  have x21 := hl.cell 21
  have x22 := hl.cell 22
  simp [lnC] at x21 x22
  have hcv : ∀ m, (convert 33 9 fv).run Tryz.prog (w.drewN m) = .ok (.string (bs (frsT x.d x.ch x.G x.S x.B s.wrote))) (w.drewN m) := fun m => conv_own (own_at c5 fun _ _ => rfl)
  have happ : bs (hdT x s.hd ++ frsT x.d x.ch x.G x.S x.B s.wrote) = bs (hdT x s.hd) ++ bs (frsT x.d x.ch x.G x.S x.B s.wrote) := by simp [bs, ByteArray.append_eq, ByteArray.ext_iff]
  rw [happ]
  have hTs := frsT_bd x.d x.ch x.G x.S x.B h.kp.d12 h.kp.n1 h.kp.n4 h.kp.B1 h.kp.B32 s.wrote hb
  have hnb := h.kp.nb
  have hsz : ¬ 9223372036854775807 < (bs (hdT x s.hd)).size + (bs (frsT x.d x.ch x.G x.S x.B s.wrote)).size := by
    have h1 := hdT_len x h.kp s.hd
    have h2 : 222 * s.wrote ≤ 222 * 300 := Nat.mul_le_mul_left _ (by omega)
    simp only [bs, ByteArray.size, List.size_toArray]
    omega
  generalize bs (hdT x s.hd) = ha at *
  generalize bs (frsT x.d x.ch x.G x.S x.B s.wrote) = hb at *
  obtain ⟨A, cap, rfl, -⟩ := own_open c5
  generalize (frsT x.d x.ch x.G x.S x.B s.wrote).length = fl at *
  clear h hl c5 hTs hnb happ
  have hS0 : w.drew.cell? ⟨a.lb, 21, none⟩ = some (.string ha) ∧ w.drew.cell? ⟨a.lb, 22, none⟩ = some (.slice A fl cap) ∧ (convert 33 9 (.slice A fl cap)).run Tryz.prog w.drew = .ok (.string hb) w.drew := ⟨x21, x22, hcv 1⟩
  go_enter Tryz.func113, Tryz.ntmps113
  go_wp2_with fail
  refine wp_region_held_drew (S := fun w' => w'.cell? ⟨a.lb, 21, none⟩ = some (.string ha) ∧ w'.cell? ⟨a.lb, 22, none⟩ = some (.slice A fl cap) ∧ (convert 33 9 (.slice A fl cap)).run Tryz.prog w' = .ok (.string hb) w') (by kernel_rfl) hS0 (fun hHeld => ?_)
  refine wpAnyH_take (i := 0) (v := ?_) rfl (by kernel_rfl) (by kernel_rfl) (by kernel_rfl) (fun _ _ _ h => h) (Or.inl ⟨by rfl, ?_⟩) (by assumption) ?_
  rotate_left
  · (intro w hSw; (try dsimp only at hSw); go_simp; try with_reducible rfl)
  try simp only [List.getElem_toArray, List.getElem_cons_succ, List.getElem_cons_zero, Act.put, List.setIfInBounds_toArray, List.set_cons_zero, List.set_cons_succ]
  refine wpAnyH_take (i := 1) (v := ?_) rfl (by kernel_rfl) (by kernel_rfl) (by kernel_rfl) (fun _ _ _ h => h) (Or.inl ⟨by rfl, ?_⟩) (by assumption) ?_
  rotate_left
  · (intro w hSw; (try dsimp only at hSw); go_simp; try with_reducible rfl)
  try simp only [List.getElem_toArray, List.getElem_cons_succ, List.getElem_cons_zero, Act.put, List.setIfInBounds_toArray, List.set_cons_zero, List.set_cons_succ]
  refine wpAnyH_take (i := 2) (v := ?_) rfl (by kernel_rfl) (by kernel_rfl) (by kernel_rfl) (fun _ _ _ h => h) (Or.inl ⟨by rfl, ?_⟩) (by assumption) ?_
  rotate_left
  · (intro w hSw; (try dsimp only at hSw); go_simp; try with_reducible rfl)
  try simp only [List.getElem_toArray, List.getElem_cons_succ, List.getElem_cons_zero, Act.put, List.setIfInBounds_toArray, List.set_cons_zero, List.set_cons_succ]
  refine wpAnyH_take (i := 3) (v := ?_) rfl (by kernel_rfl) (by kernel_rfl) (by kernel_rfl) (fun _ _ _ h => h) (Or.inl ⟨by rfl, ?_⟩) (by assumption) ?_
  rotate_left
  · (intro w hSw; (try dsimp only at hSw); go_simp; try with_reducible rfl)
  try simp only [List.getElem_toArray, List.getElem_cons_succ, List.getElem_cons_zero, Act.put, List.setIfInBounds_toArray, List.set_cons_zero, List.set_cons_succ]
  refine wpAnyH_take (i := 4) (v := ?_) rfl (by kernel_rfl) (by kernel_rfl) (by kernel_rfl) (fun _ _ _ h => h) (Or.inl ⟨by rfl, ?_⟩) (by assumption) ?_
  rotate_left
  · (intro w hSw; (try dsimp only at hSw); go_simp; try with_reducible rfl)
  try simp only [List.getElem_toArray, List.getElem_cons_succ, List.getElem_cons_zero, Act.put, List.setIfInBounds_toArray, List.set_cons_zero, List.set_cons_succ]
  refine wpAnyH_take (i := 5) (v := ?_) rfl (by kernel_rfl) (by kernel_rfl) (by kernel_rfl) (fun _ _ _ h => h) (Or.inl ⟨by rfl, ?_⟩) (by assumption) ?_
  rotate_left
  · (intro w hSw; (try dsimp only at hSw); go_simp; try with_reducible rfl)
  try simp only [List.getElem_toArray, List.getElem_cons_succ, List.getElem_cons_zero, Act.put, List.setIfInBounds_toArray, List.set_cons_zero, List.set_cons_succ]
  refine wpAnyH_take (i := 6) (v := ?_) rfl (by kernel_rfl) (by kernel_rfl) (by kernel_rfl) (fun _ _ _ h => h) (Or.inl ⟨by rfl, ?_⟩) (by assumption) ?_
  rotate_left
  · (intro w hSw; (try dsimp only at hSw); go_simp; try with_reducible rfl)
  try simp only [List.getElem_toArray, List.getElem_cons_succ, List.getElem_cons_zero, Act.put, List.setIfInBounds_toArray, List.set_cons_zero, List.set_cons_succ]
  refine wpAnyH_take (i := 7) (v := ?_) rfl (by kernel_rfl) (by kernel_rfl) (by kernel_rfl) (fun _ _ _ h => h) (Or.inl ⟨by rfl, ?_⟩) (by assumption) ?_
  rotate_left
  · (intro w hSw; (try dsimp only at hSw); go_simp; try with_reducible rfl)
  try simp only [List.getElem_toArray, List.getElem_cons_succ, List.getElem_cons_zero, Act.put, List.setIfInBounds_toArray, List.set_cons_zero, List.set_cons_succ]
  refine wpAnyH_take (i := 8) (v := ?_) rfl (by kernel_rfl) (by kernel_rfl) (by kernel_rfl) (fun _ _ _ h => h) (Or.inl ⟨by rfl, ?_⟩) (by assumption) ?_
  rotate_left
  · (intro w hSw; (try dsimp only at hSw); go_simp; try with_reducible rfl)
  try simp only [List.getElem_toArray, List.getElem_cons_succ, List.getElem_cons_zero, Act.put, List.setIfInBounds_toArray, List.set_cons_zero, List.set_cons_succ]
  refine wpAnyH_take (i := 9) (v := ?_) rfl (by kernel_rfl) (by kernel_rfl) (by kernel_rfl) (fun _ _ _ h => h) (Or.inl ⟨by rfl, ?_⟩) (by assumption) ?_
  rotate_left
  · (intro w hSw; (try dsimp only at hSw); go_simp; try with_reducible rfl)
  try simp only [List.getElem_toArray, List.getElem_cons_succ, List.getElem_cons_zero, Act.put, List.setIfInBounds_toArray, List.set_cons_zero, List.set_cons_succ]
  refine wpAnyH_take (i := 10) (v := ?_) rfl (by kernel_rfl) (by kernel_rfl) (by kernel_rfl) (fun _ _ _ h => h) (Or.inl ⟨by rfl, ?_⟩) (by assumption) ?_
  rotate_left
  · (intro w hSw; (try dsimp only at hSw); go_simp; try with_reducible rfl)
  try simp only [List.getElem_toArray, List.getElem_cons_succ, List.getElem_cons_zero, Act.put, List.setIfInBounds_toArray, List.set_cons_zero, List.set_cons_succ]
  refine wpAnyH_done (by kernel_rfl) ?_ _
  go_wp2
  go_ret
  exact ⟨rfl, 1, rfl⟩
theorem bytes_line {p : Lpar} {a : Lad} {x : Lsn} {F : Nat → Prop} {s : Lst} {w : World} (h : LineIs p a x F s w) (hb : s.wrote ≤ nBlk x.S x.B) :
    Calls Tryz.prog 53 #[ptrV a.lb] w fun e w' => e = .returned (.string (bs (hdT x s.hd ++ frsT x.d x.ch x.G x.S x.B s.wrote))) ∧ ∃ m, w' = w.drewN m := by
  have HB := Hid.mk' (sinkBytes_any h hb)
  clear h
  generalize bs (hdT x s.hd ++ frsT x.d x.ch x.G x.S x.B s.wrote) = tx at *
  unfold ptrV at *
  go_enter Tryz.func53, Tryz.ntmps53
  go_wp2_with (go_at_call 113; refine HB.out.mono ?_; rintro e u ⟨rfl, m, rfl⟩; clear HB)
  go_ret
  exact ⟨rfl, m, rfl⟩
end Go.Proofs.YtlncjgnomhpjnabGreatDoor

