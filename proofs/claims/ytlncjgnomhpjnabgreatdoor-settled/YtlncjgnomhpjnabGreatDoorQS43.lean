import Derived.Test.YtlncjgnomhpjnabGreatDoorQS42
/-
  The line: who has ended.
-/
namespace Go.Proofs.YtlncjgnomhpjnabGreatDoor
open Go.RowKit Go.Deep
set_option linter.unusedVariables false
theorem mEnd0 (k : Nat) (ad : Addr) (w : World) : (method (k + 1) 154 (.pointer (some ⟨ad.block, 0, none⟩)) "reel/line.hasEnded").run Tryz.prog w = .ok (375, .pointer (some ⟨ad.block, 0, none⟩)) w := by kernel_rfl
theorem mEnd1 (k : Nat) (ad : Addr) (w : World) : (method (k + 1) 155 (.pointer (some ⟨ad.block, 0, none⟩)) "reel/line.hasEnded").run Tryz.prog w = .ok (375, .pointer (some ⟨ad.block, 0, none⟩)) w := by kernel_rfl
theorem mEnd2 (k : Nat) (ad : Addr) (w : World) : (method (k + 1) 156 (.pointer (some ⟨ad.block, 0, none⟩)) "reel/line.hasEnded").run Tryz.prog w = .ok (375, .pointer (some ⟨ad.block, 0, none⟩)) w := by kernel_rfl
theorem mEnd3 (k : Nat) (ad : Addr) (w : World) : (method (k + 1) 170 (.pointer (some ⟨ad.block, 0, none⟩)) "reel/line.hasEnded").run Tryz.prog w = .ok (375, .pointer (some ⟨ad.block, 0, none⟩)) w := by kernel_rfl
theorem hasEnded_any (b : Nat) (e : Bool) (w : World) (hc : w.cell? ⟨b, 1, none⟩ = some (.bool e)) : Calls Tryz.prog 375 #[.pointer (some ⟨b, 0, none⟩)] w fun r w' => r = .returned (.bool e) ∧ w' = w := by
  go_enter Tryz.func375, Tryz.ntmps375
  go_wp2
  go_ret
  exact ⟨rfl, rfl⟩
theorem taskEnd {p : Lpar} {a : Lad} {x : Lsn} {F : Nat → Prop} {s : Lst} {w : World} (h : LineIs p a x F s w) (q : Nat) (hq : q < 3 + p.W) :
    ∃ ty b, taskV a q = .iface ty (.pointer (some ⟨b, 0, none⟩)) ∧ (∀ k u, (method (k + 1) ty (.pointer (some ⟨b, 0, none⟩)) "reel/line.hasEnded").run Tryz.prog u = .ok (375, .pointer (some ⟨b, 0, none⟩)) u) ∧ ∀ u, Below w.heap.size w u → u.cell? ⟨b, 1, none⟩ = some (.bool (s.endedT q)) := by
  match q, hq with
  | 0, _ => exact ⟨154, a.sp, rfl, fun k u => mEnd0 k ⟨a.sp, 0, none⟩ u, fun u hu => (h.spl.below hu).cell 1⟩
  | 1, _ => exact ⟨155, a.su, rfl, fun k u => mEnd1 k ⟨a.su, 0, none⟩ u, fun u hu => (h.sum.below hu).cell 1⟩
  | 2, _ =>
    obtain ⟨sv, fv, lv, -, hw, -⟩ := h.cells
    exact ⟨156, a.wr, rfl, fun k u => mEnd2 k ⟨a.wr, 0, none⟩ u, fun u hu => (hw.below hu).cell 1⟩
  | j + 3, hq =>
    obtain ⟨hv, k1, -⟩ := h.wrk
    exact ⟨170, a.wk j, rfl, fun k u => mEnd3 k ⟨a.wk j, 0, none⟩ u, fun u hu => ((k1 j (by omega)).below hu).cell 1⟩
set_option maxRecDepth 100000 in
set_option maxHeartbeats 2000000 in
theorem tasksEnded {p : Lpar} {a : Lad} {x : Lsn} {F : Nat → Prop} {s : Lst} {w : World} (h : LineIs p a x F s w) :
    Calls Tryz.prog 112 #[ptrV a.lb, .func (.methodOf 178 "reel/line.hasEnded") #[] #[]] w fun e w' => ∃ v, e = .returned v ∧ w'.ownsRow w.heap.size 3 1 v (s.ended p).length ((s.ended p).map fun (k : Nat) => .int .i64 (k : Int)) ∧ Below w.heap.size w w' := by
  obtain ⟨sv, fv, lv, hl, -⟩ := h.cells
  have x28 := hl.cell 28
  simp [lnC] at x28
  have hW := h.W8
  have HTV : Hid (∀ u, Below w.heap.size w u → ∀ q, q < 3 + p.W → u.cell? ⟨a.tb, q, none⟩ = some (taskV a q)) := fun u hu q hq => by
    obtain ⟨g, cap, hg, -, -, hc⟩ := own_cells h.tasks (by omega)
    cases hg
    have h1 := hc q (taskV a q) (by simp [hq])
    exact (cellOf (hu.block a.tb (h.lt _ h.own.2.2.2.2.2.2.2.2.2.2.1))).trans h1
  have HAB : Hid (∀ q, q < 3 + p.W → ∃ ty b, taskV a q = .iface ty (.pointer (some ⟨b, 0, none⟩)) ∧ (∀ k u, (method (k + 1) ty (.pointer (some ⟨b, 0, none⟩)) "reel/line.hasEnded").run Tryz.prog u = .ok (375, .pointer (some ⟨b, 0, none⟩)) u) ∧ ∀ u, Below w.heap.size w u → u.cell? ⟨b, 1, none⟩ = some (.bool (s.endedT q))) := fun q hq => taskEnd h q hq
  unfold Lst.ended
  have hlen : ∀ q, ((List.range q).filter s.endedT).length ≤ q := fun q => by have := List.length_filter_le (s.endedT) (List.range q); rw [List.length_range] at this; exact this
  have HLN := Hid.mk' hlen
  clear h hl hlen
  generalize s.endedT = ff at *
  have HFI := Hid.mk' (filter_next ff)
  unfold ptrV at *
  go_enter Tryz.func112, Tryz.ntmps112
  go_wp2
  go_loopw [5, 13] (fun s5 s13 wr => ∃ q : Nat, ∃ v5 : Value, v5 = s5 ∧ q ≤ 3 + p.W ∧ s13 = .int .i64 q ∧ Hid (wr.ownsRow w.heap.size 3 1 v5 ((List.range q).filter ff).length (((List.range q).filter ff).map fun (k : Nat) => .int .i64 (k : Int)) ∧ Below w.heap.size w wr)) (fun _ s13 _ => 3 + p.W - (intOf s13).toNat)
  case atStart => exact ⟨0, _, rfl, Nat.zero_le _, rfl, ⟨rfl, Or.inl ⟨rfl, rfl⟩⟩, Below.refl _ _⟩
  case round =>
    obtain ⟨q, v5, hv5, hq, rfl, HI⟩ := hrel
    subst hv5
    by_cases hlt : q < 3 + p.W
    · have t0 := HTV.out wr HI.out.2 q hlt
      obtain ⟨ty, b, htv, hm, hce⟩ := HAB.out q hlt
      have HM := Hid.mk' hm
      have HA := Hid.mk' (hasEnded_any b _ wr (hce wr HI.out.2))
      rw [htv] at t0
      clear hm hce htv
      have hfi := HFI.out q
      have hil : (q : Int) < 3 + (p.W : Int) := by omega
      cases hfq : ff q with
      | false =>
        rw [hfq] at HA hfi
        simp only [Bool.false_eq_true, if_false, List.append_nil] at hfi
        go_wp2_with (first | (simp only [HM.out]) | (go_at_call 375; refine HA.out.mono ?_; rintro e u ⟨rfl, hu⟩; subst u; clear HA))
        go_roundw
        case rel => exact ⟨q + 1, _, rfl, by omega, by go_num, by rw [hfi]; exact HI.out⟩
        case measure => simp [intOf]; omega
      | true =>
        rw [hfq] at HA hfi
        simp only [if_true] at hfi
        have hsz := HI.out.2.size
        have hlq := HLN.out q
        have HRM : Hid (∃ g cap w', (Builtin.append_ #[30, 30] 30 #[v5, .slice (some ⟨wr.heap.size, 0, none⟩) 1 1]).run Tryz.prog (wr.alloc (.cells #[.int .i64 (q : Int)] 3)) = .ok (.slice (some ⟨g, 0, none⟩) (((List.range q).filter ff).length + 1) cap) w' ∧ w'.ownsRow w.heap.size 3 1 (.slice (some ⟨g, 0, none⟩) (((List.range q).filter ff).length + 1) cap) ((List.range (q + 1)).filter ff).length (((List.range (q + 1)).filter ff).map fun (k : Nat) => .int .i64 (k : Int)) ∧ Below w.heap.size w w') := by
          show ∃ _, _
          obtain ⟨g', cap', w', hr, ho, he, -⟩ := appInt wr w.heap.size _ ((List.range q).filter ff).length _ (q : Int) 30 HI.out.1 hsz (by omega)
          refine ⟨g', cap', w', hr, ?_, ?_⟩
          · rw [hfi, List.map_append, List.length_append]
            exact ho
          · have h1 := he.below (B := w.heap.size) hsz fun b hb => own_low HI.out.1 b hb
            exact HI.out.2.trans h1
        go_wp2_with (first
          | (simp only [HM.out])
          | (go_at_call 375; refine HA.out.mono ?_; rintro e u ⟨rfl, hu⟩; subst u; obtain ⟨g', cap', w', hr, ho⟩ := HRM.out; have HR := Hid.mk' hr; have HO := Hid.mk' ho; clear HA HRM hr ho)
          | (at_builtin; refine Lib.wpList_append_run _ rfl _ _ _ _ rfl _ _ rfl rfl _ _ HR.out ?_))
        go_roundw
        case rel => exact ⟨q + 1, _, rfl, by omega, by go_num, HO⟩
        case measure => simp [intOf]; omega
    · have e : q = 3 + p.W := by omega
      have hil : ¬ ((q : Int) < 3 + (p.W : Int)) := by omega
      go_wp2
      go_ret
      have h1 := HI.out
      rw [e] at h1
      exact ⟨_, rfl, h1⟩
end Go.Proofs.YtlncjgnomhpjnabGreatDoor

/-
  The line: is it over? What do the workers hold?
-/
namespace Go.Proofs.YtlncjgnomhpjnabGreatDoor
open Go.RowKit Go.Deep
set_option linter.unusedVariables false
theorem able_any {p : Lpar} {a : Lad} {x : Lsn} {F : Nat → Prop} {s : Lst} {w : World} (h : LineIs p a x F s w) (hi : LInv p s) :
    Calls Tryz.prog 78 #[ptrV a.lb] w fun e w' => ∃ v, e = .returned v ∧ w'.ownsRow w.heap.size 3 1 v (s.able p).length ((s.able p).map fun (k : Nat) => .int .i64 (k : Int)) ∧ Below w.heap.size w w' := by
  have HT := Hid.mk' (tasksAble h hi)
  clear h hi
  unfold ptrV at *
  go_enter Tryz.func78, Tryz.ntmps78
  go_wp2_with (go_at_call 112; refine HT.out.mono ?_; rintro e u ⟨v, rfl, hv⟩; have HV := Hid.mk' hv; clear hv HT)
  go_ret
  exact ⟨v, rfl, HV.out⟩
theorem LInv.overB {p : Lpar} {s : Lst} (h : LInv p s) : decide ((s.ended p).length = 3 + p.W) = s.e2 := by
  have h1 : (s.ended p).length = 3 + p.W ↔ s.e2 = true := by
    rw [← h.over]
    constructor
    · intro h1
      have h2 : (s.ended p).length = (List.range (3 + p.W)).length := by rw [h1, List.length_range]
      unfold Lst.ended at h2 ⊢
      rw [List.length_filter_eq_length_iff] at h2
      exact List.filter_eq_self.2 h2
    · intro h1
      rw [h1, List.length_range]
  cases h2 : s.e2 with
  | true => exact decide_eq_true (h1.2 h2)
  | false => exact decide_eq_false fun h3 => by rw [h1.1 h3] at h2; cases h2
set_option maxRecDepth 100000 in
theorem over_any {p : Lpar} {a : Lad} {x : Lsn} {F : Nat → Prop} {s : Lst} {w : World} (h : LineIs p a x F s w) (hi : LInv p s) :
    Calls Tryz.prog 104 #[ptrV a.lb] w fun e w' => e = .returned (.bool s.e2) ∧ Below w.heap.size w w' := by
  have HT : Hid (Calls Tryz.prog 112 #[ptrV a.lb, .func (.methodOf 178 "reel/line.hasEnded") #[] #[]] w.drew fun e w' => ∃ v, e = .returned v ∧ w'.ownsRow w.heap.size 3 1 v (s.ended p).length ((s.ended p).map fun (k : Nat) => .int .i64 (k : Int)) ∧ Below w.heap.size w.drew w') := tasksEnded h.drew
  obtain ⟨sv, fv, lv, hl, -⟩ := h.cells
  have HC : Hid (∀ u, Below w.heap.size w u → u.cell? ⟨a.lb, 28, none⟩ = some (.slice (some ⟨a.tb, 0, none⟩) (3 + p.W) a.tc)) := fun u hu => (hl.below hu).cell 28
  have hS0 := HC.out w.drew (bel_drewN (Below.refl _ _) 1)
  have he2 := hi.overB
  have hbe : ((((s.ended p).length : Int)) == 3 + (p.W : Int)) = s.e2 := by
    rw [← he2]
    by_cases e : (s.ended p).length = 3 + p.W
    · rw [decide_eq_true e, e]; simp
    · rw [decide_eq_false e]; simp; omega
  generalize (s.ended p).map (fun (k : Nat) => Value.int .i64 (k : Int)) = xs at *
  generalize (s.ended p).length = n at *
  generalize s.e2 = b2 at *
  clear h hi hl he2
  unfold ptrV at *
  go_enter Tryz.func104, Tryz.ntmps104
  go_wp2_with fail
  go_region_held3 (fun w' => w'.cell? ⟨a.lb, 28, none⟩ = some (.slice (some ⟨a.tb, 0, none⟩) (3 + p.W) a.tc)) (first | with_reducible exact hS0 | with_reducible exact hS1)
    (first
    | (go_at_call 112; refine HT.out.mono ?_; rintro e u ⟨v, rfl, ho, hb⟩; obtain ⟨A, cap, rfl, -⟩ := own_open ho; have hb' : Below w.heap.size w u := ⟨hb.os, hb.tape, hb.output, hb.size, hb.block⟩; have hS1 := HC.out u hb'; have HB := Hid.mk' hb'; clear ho hb hb' HT))
  go_wp2
  go_ret
  exact ⟨by simp, HB.out⟩
/-- What a worker holds, as a number. -/
def heldI (s : Lst) (j : Nat) : Int := match s.held j with
  | none => -1
  | some k => k
theorem holds_any {p : Lpar} {a : Lad} {x : Lsn} {F : Nat → Prop} {s : Lst} {w : World} (h : LineIs p a x F s w) (j : Nat) (hj : j < p.W) :
    Calls Tryz.prog 175 #[ptrV (a.wk j)] w fun e w' => e = .returned (.int .i64 (heldI s j)) ∧ w' = w := by
  obtain ⟨hv, k1, k2⟩ := h.wrk
  have y2 := (k1 j hj).cell 2
  unfold heldI
  cases hh : s.held j with
  | none =>
    simp [heV, hh] at y2
    clear h k1 k2
    unfold ptrV at *
    go_enter Tryz.func175, Tryz.ntmps175
    go_wp2
    go_ret
    exact ⟨rfl, rfl⟩
  | some k =>
    have z0 := (k2 j k hj hh).2.cell 0
    simp [heV, hh, ptrV] at y2 z0
    clear h k1 k2
    unfold ptrV at *
    go_enter Tryz.func175, Tryz.ntmps175
    go_wp2
    go_ret
    exact ⟨rfl, rfl⟩
set_option maxRecDepth 100000 in
set_option maxHeartbeats 2000000 in
theorem held_any {p : Lpar} {a : Lad} {x : Lsn} {F : Nat → Prop} {s : Lst} {w : World} (h : LineIs p a x F s w) :
    Calls Tryz.prog 110 #[ptrV a.lb] w fun e w' => ∃ v, e = .returned v ∧ w'.ownsRow w.heap.size 3 1 v p.W ((List.range p.W).map fun j => .int .i64 (heldI s j)) ∧ Below w.heap.size w w' := by
  obtain ⟨sv, fv, lv, hl, -⟩ := h.cells
  have x27 := hl.cell 27
  simp [lnC] at x27
  have hW := h.W8
  have HTV : Hid (∀ u, Below w.heap.size w u → ∀ q, q < p.W → u.cell? ⟨a.wb, q, none⟩ = some (.pointer (some ⟨a.wk q, 0, none⟩))) := fun u hu q hq => by
    obtain ⟨g, cap, hg, -, -, hc⟩ := own_cells h.works (by omega)
    cases hg
    have h1 := hc q (ptrV (a.wk q)) (by simp [hq])
    exact (cellOf (hu.block a.wb (h.lt _ h.own.2.2.2.2.2.2.2.2.2.2.2.1))).trans h1
  have HAB : Hid (∀ u, Below w.heap.size w u → ∀ q, q < p.W → Calls Tryz.prog 175 #[.pointer (some ⟨a.wk q, 0, none⟩)] u fun e w' => e = .returned (.int .i64 (heldI s q)) ∧ w' = u) := fun u hu q hq => holds_any (h.keep (fun k hk => hu.block k (h.lt k hk)) hu.size) q hq
  clear h hl
  generalize heldI s = ff at *
  unfold ptrV at *
  go_enter Tryz.func110, Tryz.ntmps110
  go_wp2
  go_loopw [3, 11] (fun s5 s13 wr => ∃ q : Nat, ∃ v5 : Value, v5 = s5 ∧ q ≤ p.W ∧ s13 = .int .i64 q ∧ Hid (wr.ownsRow w.heap.size 3 1 v5 q ((List.range q).map fun j => .int .i64 (ff j)) ∧ Below w.heap.size w wr)) (fun _ s13 _ => p.W - (intOf s13).toNat)
  case atStart => exact ⟨0, _, rfl, Nat.zero_le _, rfl, ⟨rfl, Or.inl ⟨rfl, rfl⟩⟩, Below.refl _ _⟩
  case round =>
    obtain ⟨q, v5, hv5, hq, rfl, HI⟩ := hrel
    subst hv5
    by_cases hlt : q < p.W
    · have t0 := HTV.out wr HI.out.2 q hlt
      have HA := Hid.mk' (HAB.out wr HI.out.2 q hlt)
      have hsz := HI.out.2.size
      obtain ⟨g', cap', w', hr, ho, he, -⟩ := appInt wr w.heap.size _ q _ (ff q) 30 HI.out.1 hsz (by omega)
      have HR := Hid.mk' hr
      have HO : Hid (w'.ownsRow w.heap.size 3 1 (.slice (some ⟨g', 0, none⟩) (q + 1) cap') (q + 1) ((List.range (q + 1)).map fun j => .int .i64 (ff j)) ∧ Below w.heap.size w w') := by
        refine ⟨by rw [List.range_succ, List.map_append]; exact ho, HI.out.2.trans ?_⟩
        exact he.below (B := w.heap.size) hsz fun b hb => own_low HI.out.1 b hb
      clear hr ho he
      go_wp2_with (first
        | (go_at_call 175; refine HA.out.mono ?_; rintro e u ⟨rfl, hu⟩; subst u; clear HA)
        | (at_builtin; refine Lib.wpList_append_run _ rfl _ _ _ _ rfl _ _ rfl rfl _ _ HR.out ?_))
      go_roundw
      case rel => exact ⟨q + 1, _, rfl, by omega, by go_num, HO⟩
      case measure => simp [intOf]; omega
    · have e : q = p.W := by omega
      subst e
      go_wp2
      go_ret
      exact ⟨_, rfl, HI.out⟩
/-- The state, as a number. -/
def lstN (s : Lst) : Int := if s.e2 then (if s.stopped then (if s.failed then 3 else 2) else 1) else 0
set_option maxRecDepth 100000 in
theorem state_any {p : Lpar} {a : Lad} {x : Lsn} {F : Nat → Prop} {s : Lst} {w : World} (h : LineIs p a x F s w) (hi : LInv p s) :
    Calls Tryz.prog 106 #[ptrV a.lb] w fun e w' => e = .returned (.int .i64 (lstN s)) ∧ Below w.heap.size w w' := by
  have HO := Hid.mk' (over_any h hi)
  obtain ⟨sv, fv, lv, hl, -⟩ := h.cells
  have HC : Hid (∀ u, Below w.heap.size w u → u.cell? ⟨a.lb, 23, none⟩ = some (.bool s.stopped) ∧ u.cell? ⟨a.lb, 20, none⟩ = some (.bool s.failed)) := fun u hu => ⟨(hl.below hu).cell 23, (hl.below hu).cell 20⟩
  clear h hi hl
  unfold lstN
  generalize s.e2 = b at *
  generalize s.stopped = st at *
  generalize s.failed = fl at *
  unfold ptrV at *
  cases b <;> cases st <;> cases fl
  all_goals
    go_enter Tryz.func106, Tryz.ntmps106
    go_wp2_with (go_at_call 104; refine HO.out.mono ?_; rintro e u ⟨rfl, hb⟩; have k1 := (HC.out u hb).1; have k2 := (HC.out u hb).2; have HB := Hid.mk' hb; clear hb HO)
    go_ret
    exact ⟨rfl, HB.out⟩
end Go.Proofs.YtlncjgnomhpjnabGreatDoor

/-
  The line: a step, whichever it is.
-/
namespace Go.Proofs.YtlncjgnomhpjnabGreatDoor
open Go.RowKit Go.Deep
set_option linter.unusedVariables false
theorem LInv.writes_le {p : Lpar} {s : Lst} (h : LInv p s) : s.writes ≤ p.N + 2 := by
  have h1 := h.wrote
  have h2 := h.given
  cases hb : s.begun with
  | false => have := h.hd0 hb; omega
  | true =>
    cases hs : s.stopped with
    | false =>
      cases h3 : s.e2 with
      | false => have := h.hd1 hb hs h3; omega
      | true => have := h.hd2 h3 hs; omega
    | true =>
      cases hf : s.failed with
      | false => have := (h.fc hs hf).1; omega
      | true => have := (h.ff hf).2; omega
theorem LInv.shelf_le {p : Lpar} {s : Lst} (h : LInv p s) : s.shelf.length ≤ p.N := by
  cases hs : s.stopped with
  | true => rw [h.stop hs]; exact Nat.zero_le _
  | false =>
    have := h.put_len hs
    have := h.given
    omega
theorem LInv.lane_cons {p : Lpar} {s : Lst} (h : LInv p s) {k : Nat} {r : List Nat} (e : s.lane = k :: r) : k = s.summed ∧ s.summed < s.given := by
  have h1 := h.lane
  rw [e] at h1
  have h2 : 0 < s.given - s.summed := by
    apply Nat.pos_of_ne_zero
    intro hz
    rw [hz] at h1
    cases h1.2
  have h3 := h1.2
  rw [show s.given - s.summed = (s.given - (s.summed + 1)) + 1 by omega, List.range'_succ] at h3
  exact ⟨(List.cons.inj h3).1, by omega⟩
/-- What a step leaves. -/
def Stepped (p : Lpar) (a : Lad) (x : Lsn) (F : Nat → Prop) (s' : Lst) (w w' : World) : Prop := ∃ a' F', a'.lb = a.lb ∧ a'.b1 = a.b1 ∧ Own F F' w ∧ LineIs p a' x F' s' w' ∧ Edit F w w'
theorem Stepped.of {p : Lpar} {a : Lad} {x : Lsn} {F F' : Nat → Prop} {s' : Lst} {w w' : World} (h : Own F F' w ∧ LineIs p a x F' s' w' ∧ Edit F w w') : Stepped p a x F s' w w' := ⟨a, F', rfl, rfl, h⟩
theorem Stepped.same {p : Lpar} {a : Lad} {x : Lsn} {F : Nat → Prop} {s' : Lst} {w w' : World} (h : LineIs p a x F s' w' ∧ Edit F w w') : Stepped p a x F s' w w' := ⟨a, F, rfl, rfl, Own.refl F w, h⟩
/-- The function of a step, and what it is called on. -/
def actF : LAct → Nat
  | .end0 => 374
  | .give => 380
  | .sum => 383
  | .begin => 386
  | .write => 388
  | .shelve => 390
  | .takeW j => 411
  | .letGo j => 412
  | .hand j => 414
def actR (a : Lad) : LAct → Nat
  | .end0 => a.sp
  | .give => a.sp
  | .sum => a.su
  | .begin => a.wr
  | .write => a.wr
  | .shelve => a.wr
  | .takeW j => a.wk j
  | .letGo j => a.wk j
  | .hand j => a.wk j
theorem actV_eq (a : Lad) (c : LAct) : actV a (some c) = .func (.func (actF c)) #[.pointer (some ⟨actR a c, 0, none⟩)] #[] := by cases c <;> rfl
theorem actF_enters (c : LAct) : ∀ args w, (callFunc (actF c) args).run Tryz.prog w = .ok (.enter (actF c) args) w := by
  cases c
  · exact enters_of Tryz.func374 (by kernel_rfl) rfl
  · exact enters_of Tryz.func380 (by kernel_rfl) rfl
  · exact enters_of Tryz.func383 (by kernel_rfl) rfl
  · exact enters_of Tryz.func386 (by kernel_rfl) rfl
  · exact enters_of Tryz.func388 (by kernel_rfl) rfl
  · exact enters_of Tryz.func390 (by kernel_rfl) rfl
  · exact enters_of Tryz.func411 (by kernel_rfl) rfl
  · exact enters_of Tryz.func412 (by kernel_rfl) rfl
  · exact enters_of Tryz.func414 (by kernel_rfl) rfl
theorem act_any {p : Lpar} {a : Lad} {x : Lsn} {F : Nat → Prop} {s : Lst} {w : World} (h : LineIs p a x F s w) (hi : LInv p s) (hT : TabsF w) {t : Nat} {c : LAct} (ht : t < 3 + p.W) (hn : s.next p t = some c) :
    Calls Tryz.prog (actF c) #[.pointer (some ⟨actR a c, 0, none⟩)] w fun e w' => e = .returned (.tuple #[]) ∧ Stepped p a x F (s.act p c) w w' := by
  have hNB := h.NB
  have hnb := h.kp.nb
  have hwr := hi.writes_le
  have hgN := hi.given
  have hwg := hi.wrote
  have hsl := hi.shelf_le
  match t, hn with
  | 0, hn =>
    obtain ⟨h0, ⟨rfl, h1⟩ | ⟨rfl, h1, h2, h3, h4, h5⟩⟩ := next0 hn
    · refine (spEnd_any h h0).mono ?_
      rintro e w' ⟨rfl, h6⟩
      exact ⟨rfl, Stepped.same h6⟩
    · have hj := hi.jr
      have hl := hi.lr
      refine (spGive_any h hi h0 (by omega) (by omega) (by omega)).mono ?_
      rintro e w' ⟨rfl, g, F', h6⟩
      exact ⟨rfl, a.reg s.given g, F', rfl, rfl, h6⟩
  | 1, hn =>
    obtain ⟨h0, rfl, h1⟩ := next1 hn
    cases e : s.lane with
    | nil =>
      rw [show s.act p .sum = { s with e1 := true } by simp only [Lst.act, e]]
      refine (suTake0_any h e (h1 e)).mono ?_
      rintro e w' ⟨rfl, h6⟩
      exact ⟨rfl, Stepped.same h6⟩
    | cons k r =>
      obtain ⟨rfl, h2⟩ := hi.lane_cons e
      rw [show s.act p .sum = { s with lane := r, summed := s.summed + 1 } by simp only [Lst.act, e]]
      refine (suTake_any h r e h2 (by omega)).mono ?_
      rintro e w' ⟨rfl, h6⟩
      exact ⟨rfl, Stepped.same h6⟩
  | 2, hn =>
    obtain ⟨h0, ⟨rfl, h1⟩ | ⟨h1, ⟨rfl, h2⟩ | ⟨rfl, h2, h3⟩⟩⟩ := next2 hn
    · refine (wrBegin_any h (by omega)).mono ?_
      rintro e w' ⟨rfl, h6⟩
      exact ⟨rfl, Stepped.same h6⟩
    · cases e : s.shelf with
      | nil => rw [e] at h2; cases h2
      | cons k r =>
        rw [e] at h2
        cases h2
        rw [e, List.length_cons] at hsl
        have hm : s.wrote ∈ s.put p := by unfold Lst.put; rw [e]; exact List.mem_append_right _ (List.mem_cons_self ..)
        have hlt := (hi.ahead _ hm).2
        refine (wrFrame_any h (by omega) r e (by omega) (by omega)).mono ?_
        rintro e w' ⟨rfl, F', h6⟩
        exact ⟨rfl, Stepped.of h6⟩
    · cases e : s.ready with
      | nil =>
        obtain ⟨hsh, he1⟩ := h3 e
        obtain ⟨-, hN⟩ := hi.last hsh e h2
        refine (wrTake0_any h e hsh (by omega) (by omega) fun hs => ⟨by rw [hN hs, hNB], ?_⟩).mono ?_
        · obtain ⟨h7, h8⟩ := hi.e1 he1
          have h9 : s.given = p.N := by rcases hi.e0 h7 with h3 | h3; rw [hs] at h3; cases h3; exact h3
          have h10 := hi.lane_len
          rw [h8, List.length_nil] at h10
          have := hi.lane.1
          omega
        · rintro e w' ⟨rfl, h6⟩
          exact ⟨rfl, Stepped.same h6⟩
      | cons k r =>
        refine (wrTake_any h k r e hi.sorted (by omega)).mono ?_
        rintro e w' ⟨rfl, F', h6⟩
        exact ⟨rfl, Stepped.of h6⟩
  | j + 3, hn =>
    have hj : j < p.W := by omega
    obtain ⟨h0, ⟨rfl, h1, h2⟩ | ⟨k, h1, ⟨rfl, h2⟩ | ⟨rfl, h2, h3⟩⟩⟩ := next3 hn
    · cases e : s.jobs with
      | nil =>
        rw [show s.act p (.takeW j) = { s with ew := updL s.ew j true } by simp [Lst.act, e]]
        refine (wkTake0_any h j hj e (h2 e) h1 h0).mono ?_
        rintro e w' ⟨rfl, h6⟩
        exact ⟨rfl, Stepped.same h6⟩
      | cons k r =>
        rw [show s.act p (.takeW j) = { s with jobs := r, held := updL s.held j (some k) } by simp [Lst.act, e]]
        refine (wkTake_any h j hj k r e).mono ?_
        rintro e w' ⟨rfl, F', h6⟩
        exact ⟨rfl, Stepped.of h6⟩
    · refine (wkLet_any h j hj).mono ?_
      rintro e w' ⟨rfl, h6⟩
      exact ⟨rfl, Stepped.same h6⟩
    · have hkg := hi.lt_held j k hj h1
      have hr := hi.rr
      rw [show s.act p (.hand j) = { s with held := updL s.held j none, ready := s.ready ++ [k] } by simp [Lst.act, h1]]
      refine (wkHand_any h j k hj h1 h0 hkg (by omega) (by omega) hT).mono ?_
      rintro e w' ⟨rfl, h6⟩
      exact ⟨rfl, Stepped.same h6⟩
theorem nextOf {p : Lpar} {a : Lad} {x : Lsn} {F : Nat → Prop} {s : Lst} (hi : LInv p s) (t : Nat) (ht : t < 3 + p.W) :
    ∃ ty b fn, taskV a t = .iface ty (.pointer (some ⟨b, 0, none⟩)) ∧ (∀ k u, (method (k + 1) ty (.pointer (some ⟨b, 0, none⟩)) "reel/line.next").run Tryz.prog u = .ok (fn, .pointer (some ⟨b, 0, none⟩)) u) ∧ (∀ args u, (callFunc fn args).run Tryz.prog u = .ok (.enter fn args) u) ∧
      ∀ u, LineIs p a x F s u → Calls Tryz.prog fn #[.pointer (some ⟨b, 0, none⟩)] u fun e w' => e = .returned (actV a (s.next p t)) ∧ ∃ m, w' = u.drewN m := by
  match t, ht with
  | 0, _ => exact ⟨154, a.sp, 376, rfl, fun k u => mNext0 k ⟨a.sp, 0, none⟩ u, enters_of Tryz.func376 (by kernel_rfl) rfl, fun u h => spNext_any h hi⟩
  | 1, _ => exact ⟨155, a.su, 382, rfl, fun k u => mNext1 k ⟨a.su, 0, none⟩ u, enters_of Tryz.func382 (by kernel_rfl) rfl, fun u h => suNext_any h⟩
  | 2, _ => exact ⟨156, a.wr, 387, rfl, fun k u => mNext2 k ⟨a.wr, 0, none⟩ u, enters_of Tryz.func387 (by kernel_rfl) rfl, fun u h => wrNext_any h⟩
  | j + 3, ht => exact ⟨170, a.wk j, 410, rfl, fun k u => mNext3 k ⟨a.wk j, 0, none⟩ u, enters_of Tryz.func410 (by kernel_rfl) rfl, fun u h => wkNext_any h j (by omega)⟩
end Go.Proofs.YtlncjgnomhpjnabGreatDoor

