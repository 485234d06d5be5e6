import Derived.Test.YtlncjgnomhpjnabGreatDoorQT40
import Derived.Shelf.Abstract
/-
  The line: who is able.
-/
namespace Go.Proofs.YtlncjgnomhpjnabGreatDoor
open Go.RowKit Go.Deep
set_option linter.unusedVariables false
theorem mNext0 (k : Nat) (ad : Addr) (w : World) : (method (k + 1) 154 (.pointer (some ad)) "reel/line.next").run Tryz.prog w = .ok (376, .pointer (some ad)) w := by kernel_rfl
theorem mNext1 (k : Nat) (ad : Addr) (w : World) : (method (k + 1) 155 (.pointer (some ad)) "reel/line.next").run Tryz.prog w = .ok (382, .pointer (some ad)) w := by kernel_rfl
theorem mNext2 (k : Nat) (ad : Addr) (w : World) : (method (k + 1) 156 (.pointer (some ad)) "reel/line.next").run Tryz.prog w = .ok (387, .pointer (some ad)) w := by kernel_rfl
theorem mNext3 (k : Nat) (ad : Addr) (w : World) : (method (k + 1) 170 (.pointer (some ad)) "reel/line.next").run Tryz.prog w = .ok (410, .pointer (some ad)) w := by kernel_rfl
theorem actV_neq (a : Lad) (c : Option LAct) (w : World) : (binOp .neq 1 (actV a c) .nilFunc).run Tryz.prog w = .ok (.bool c.isSome) w := by
  cases c with
  | none => kernel_rfl
  | some c => cases c using LAct.on <;> kernel_rfl
theorem actV_guard (a : Lad) (c : Option LAct) (x y : Operand) (w : World) : (eqGuard .neq 1 x y (actV a c) .nilFunc).run Tryz.prog w = .ok () w := by
  cases c with
  | none => rfl
  | some c => cases c using LAct.on <;> rfl
set_option maxRecDepth 100000 in
theorem able0 {p : Lpar} {a : Lad} {x : Lsn} {F : Nat → Prop} {s : Lst} {w : World} (h : LineIs p a x F s w) (hi : LInv p s) :
    Calls Tryz.prog 148 #[taskV a 0] w fun e w' => e = .returned (.bool (s.next p 0).isSome) ∧ ∃ m, w' = w.drewN m := by
  have HN := Hid.mk' (spNext_any h hi)
  clear h hi
  generalize s.next p 0 = c at *
  unfold taskV ptrV at *
  have hne := actV_neq a c
  have hng := actV_guard a c
  generalize actV a c = v at *
  go_enter Tryz.func148, Tryz.ntmps148
  go_wp2_with (first | (simp only [mNext0]) | (go_at_call 376; refine HN.out.mono ?_; rintro e u ⟨rfl, m, rfl⟩; clear HN))
  go_ret
  exact ⟨rfl, m, rfl⟩
set_option maxRecDepth 100000 in
theorem able1 {p : Lpar} {a : Lad} {x : Lsn} {F : Nat → Prop} {s : Lst} {w : World} (h : LineIs p a x F s w)  :
    Calls Tryz.prog 148 #[taskV a 1] w fun e w' => e = .returned (.bool (s.next p 1).isSome) ∧ ∃ m, w' = w.drewN m := by
  have HN := Hid.mk' (suNext_any h)
  clear h
  generalize s.next p 1 = c at *
  unfold taskV ptrV at *
  have hne := actV_neq a c
  have hng := actV_guard a c
  generalize actV a c = v at *
  go_enter Tryz.func148, Tryz.ntmps148
  go_wp2_with (first | (simp only [mNext1]) | (go_at_call 382; refine HN.out.mono ?_; rintro e u ⟨rfl, m, rfl⟩; clear HN))
  go_ret
  exact ⟨rfl, m, rfl⟩
set_option maxRecDepth 100000 in
theorem able2 {p : Lpar} {a : Lad} {x : Lsn} {F : Nat → Prop} {s : Lst} {w : World} (h : LineIs p a x F s w)  :
    Calls Tryz.prog 148 #[taskV a 2] w fun e w' => e = .returned (.bool (s.next p 2).isSome) ∧ ∃ m, w' = w.drewN m := by
  have HN := Hid.mk' (wrNext_any h)
  clear h
  generalize s.next p 2 = c at *
  unfold taskV ptrV at *
  have hne := actV_neq a c
  have hng := actV_guard a c
  generalize actV a c = v at *
  go_enter Tryz.func148, Tryz.ntmps148
  go_wp2_with (first | (simp only [mNext2]) | (go_at_call 387; refine HN.out.mono ?_; rintro e u ⟨rfl, m, rfl⟩; clear HN))
  go_ret
  exact ⟨rfl, m, rfl⟩
set_option maxRecDepth 100000 in
theorem able3 {p : Lpar} {a : Lad} {x : Lsn} {F : Nat → Prop} {s : Lst} {w : World} (h : LineIs p a x F s w) (j : Nat) (hj : j < p.W) :
    Calls Tryz.prog 148 #[taskV a (j + 3)] w fun e w' => e = .returned (.bool (s.next p (j + 3)).isSome) ∧ ∃ m, w' = w.drewN m := by
  have HN := Hid.mk' (wkNext_any h j hj)
  clear h
  generalize s.next p (j + 3) = c at *
  unfold taskV ptrV at *
  have hne := actV_neq a c
  have hng := actV_guard a c
  generalize actV a c = v at *
  go_enter Tryz.func148, Tryz.ntmps148
  go_wp2_with (first | (simp only [mNext3]) | (go_at_call 410; refine HN.out.mono ?_; rintro e u ⟨rfl, m, rfl⟩; clear HN))
  go_ret
  exact ⟨rfl, m, rfl⟩
theorem ableT {p : Lpar} {a : Lad} {x : Lsn} {F : Nat → Prop} {s : Lst} {w : World} (h : LineIs p a x F s w) (hi : LInv p s) (t : Nat) (ht : t < 3 + p.W) :
    Calls Tryz.prog 148 #[taskV a t] w fun e w' => e = .returned (.bool (s.next p t).isSome) ∧ ∃ m, w' = w.drewN m := by
  match t, ht with
  | 0, _ => exact able0 h hi
  | 1, _ => exact able1 h
  | 2, _ => exact able2 h
  | j + 3, ht => exact able3 h j (by omega)
theorem bel_drewN {B : Nat} {w u : World} (h : Below B w u) (m : Nat) : Below B w (u.drewN m) := ⟨h.os, h.tape, h.output, h.size, h.block⟩
/-- The numbers of the tasks of which something holds. -/
theorem filter_next (f : Nat → Bool) (q : Nat) : (List.range (q + 1)).filter f = (List.range q).filter f ++ if f q then [q] else [] := by
  rw [List.range_succ, List.filter_append]
  congr 1
  cases h : f q <;> simp [h]
set_option maxRecDepth 100000 in
set_option maxHeartbeats 2000000 in
theorem tasksAble {p : Lpar} {a : Lad} {x : Lsn} {F : Nat → Prop} {s : Lst} {w : World} (h : LineIs p a x F s w) (hi : LInv p s) :
    Calls Tryz.prog 112 #[ptrV a.lb, .func (.func 148) #[] #[]] w fun e w' => ∃ v, e = .returned v ∧ w'.ownsRow w.heap.size 3 1 v (s.able p).length ((s.able p).map fun (k : Nat) => .int .i64 (k : Int)) ∧ Below w.heap.size w w' := by
  obtain ⟨sv, fv, lv, hl, -⟩ := h.cells
  have x28 := hl.cell 28
  simp [lnC] at x28
  have hW := h.W8
  have HTV : Hid (∀ u, Below w.heap.size w u → ∀ q, q < 3 + p.W → u.cell? ⟨a.tb, q, none⟩ = some (taskV a q)) := fun u hu q hq => by
    obtain ⟨g, cap, hg, -, -, hc⟩ := own_cells h.tasks (by omega)
    cases hg
    have h1 := hc q (taskV a q) (by simp [hq])
    exact (cellOf (hu.block a.tb (h.lt _ h.own.2.2.2.2.2.2.2.2.2.2.1))).trans h1
  have HAB : Hid (∀ u, Below w.heap.size w u → ∀ q, q < 3 + p.W → Calls Tryz.prog 148 #[taskV a q] u fun e w' => e = .returned (.bool (s.next p q).isSome) ∧ ∃ m, w' = u.drewN m) := fun u hu q hq => ableT (h.keep (fun k hk => hu.block k (h.lt k hk)) hu.size) hi q hq
  unfold Lst.able
  have hlen : ∀ q, ((List.range q).filter fun t => (s.next p t).isSome).length ≤ q := fun q => by have := List.length_filter_le (fun t => (s.next p t).isSome) (List.range q); rw [List.length_range] at this; exact this
  have HLN := Hid.mk' hlen
  clear h hl hi hlen
  generalize hff : (fun t => (s.next p t).isSome) = ff at *
  have HFF : Hid (∀ q, (s.next p q).isSome = ff q) := fun q => by rw [← hff]
  clear hff
  have HFI := Hid.mk' (filter_next ff)
  unfold ptrV at *
  go_enter Tryz.func112, Tryz.ntmps112
  go_wp2
  go_loopw [5, 13] (fun s5 s13 wr => ∃ q : Nat, ∃ v5 : Value, v5 = s5 ∧ q ≤ 3 + p.W ∧ s13 = .int .i64 q ∧ Hid (wr.ownsRow w.heap.size 3 1 v5 ((List.range q).filter ff).length (((List.range q).filter ff).map fun (k : Nat) => .int .i64 (k : Int)) ∧ Below w.heap.size w wr)) (fun _ s13 _ => 3 + p.W - (intOf s13).toNat)
  case atStart => exact ⟨0, _, rfl, Nat.zero_le _, rfl, ⟨rfl, Or.inl ⟨rfl, rfl⟩⟩, Below.refl _ _⟩
  case round =>
    obtain ⟨q, v5, hv5, hq, rfl, HI⟩ := hrel
    subst hv5
    by_cases hlt : q < 3 + p.W
    · have t0 := HTV.out wr HI.out.2 q hlt
      have HA := Hid.mk' (HAB.out wr HI.out.2 q hlt)
      rw [HFF.out q] at HA
      have hfi := HFI.out q
      have hil : (q : Int) < 3 + (p.W : Int) := by omega
      generalize taskV a q = tv at *
      cases hfq : ff q with
      | false =>
        rw [hfq] at HA hfi
        simp only [Bool.false_eq_true, if_false, List.append_nil] at hfi
        go_wp2_with (go_at_call 148; refine HA.out.mono ?_; rintro e u ⟨rfl, m, rfl⟩; clear HA)
        go_roundw
        case rel => exact ⟨q + 1, _, rfl, by omega, by go_num, by rw [hfi]; exact ⟨own_at HI.out.1 fun _ _ => rfl, bel_drewN HI.out.2 m⟩⟩
        case measure => simp [intOf]; omega
      | true =>
        rw [hfq] at HA hfi
        simp only [if_true] at hfi
        have hsz := HI.out.2.size
        have hlq := HLN.out q
        have HRM : Hid (∀ m, ∃ g cap w', (Builtin.append_ #[30, 30] 30 #[v5, .slice (some ⟨wr.heap.size, 0, none⟩) 1 1]).run Tryz.prog ((wr.drewN m).alloc (.cells #[.int .i64 (q : Int)] 3)) = .ok (.slice (some ⟨g, 0, none⟩) (((List.range q).filter ff).length + 1) cap) w' ∧ w'.ownsRow w.heap.size 3 1 (.slice (some ⟨g, 0, none⟩) (((List.range q).filter ff).length + 1) cap) ((List.range (q + 1)).filter ff).length (((List.range (q + 1)).filter ff).map fun (k : Nat) => .int .i64 (k : Int)) ∧ Below w.heap.size w w') := fun m => by
          obtain ⟨g', cap', w', hr, ho, he, -⟩ := appInt (wr.drewN m) w.heap.size _ ((List.range q).filter ff).length _ (q : Int) 30 (own_at HI.out.1 fun _ _ => rfl) hsz (by omega)
          refine ⟨g', cap', w', hr, ?_, ?_⟩
          · rw [hfi, List.map_append, List.length_append]
            exact ho
          · have h1 := he.below (B := w.heap.size) hsz fun b hb => own_low HI.out.1 b hb
            exact (bel_drewN HI.out.2 m).trans h1
        go_wp2_with (first
          | (go_at_call 148; refine HA.out.mono ?_; rintro e u ⟨rfl, m, rfl⟩; obtain ⟨g', cap', w', hr, ho⟩ := HRM.out m; have HR := Hid.mk' hr; have HO := Hid.mk' ho; clear HA HRM hr ho)
          | (at_builtin; refine Lib.wpList_append_run _ rfl _ _ _ _ rfl _ _ rfl rfl _ _ HR.out ?_))
        go_roundw
        case rel => exact ⟨q + 1, _, rfl, by omega, by go_num, HO⟩
        case measure => simp [intOf]; omega
    · have e : q = 3 + p.W := by omega
      have hil : ¬ ((q : Int) < 3 + (p.W : Int)) := by omega
      go_wp2
      go_ret
      have h1 := HI.out
      rw [e] at h1
      exact ⟨_, rfl, h1⟩
end Go.Proofs.YtlncjgnomhpjnabGreatDoor

/-
  The line: who has ended.
-/
namespace Go.Proofs.YtlncjgnomhpjnabGreatDoor
open Go.RowKit Go.Deep
set_option linter.unusedVariables false
theorem mEnd0 (k : Nat) (ad : Addr) (w : World) : (method (k + 1) 154 (.pointer (some ⟨ad.block, 0, none⟩)) "reel/line.hasEnded").run Tryz.prog w = .ok (375, .pointer (some ⟨ad.block, 0, none⟩)) w := by kernel_rfl
theorem mEnd1 (k : Nat) (ad : Addr) (w : World) : (method (k + 1) 155 (.pointer (some ⟨ad.block, 0, none⟩)) "reel/line.hasEnded").run Tryz.prog w = .ok (375, .pointer (some ⟨ad.block, 0, none⟩)) w := by kernel_rfl
theorem mEnd2 (k : Nat) (ad : Addr) (w : World) : (method (k + 1) 156 (.pointer (some ⟨ad.block, 0, none⟩)) "reel/line.hasEnded").run Tryz.prog w = .ok (375, .pointer (some ⟨ad.block, 0, none⟩)) w := by kernel_rfl
theorem mEnd3 (k : Nat) (ad : Addr) (w : World) : (method (k + 1) 170 (.pointer (some ⟨ad.block, 0, none⟩)) "reel/line.hasEnded").run Tryz.prog w = .ok (375, .pointer (some ⟨ad.block, 0, none⟩)) w := by kernel_rfl
theorem hasEnded_any (b : Nat) (e : Bool) (w : World) (hc : w.cell? ⟨b, 1, none⟩ = some (.bool e)) : Calls Tryz.prog 375 #[.pointer (some ⟨b, 0, none⟩)] w fun r w' => r = .returned (.bool e) ∧ w' = w := by
  go_enter Tryz.func375, Tryz.ntmps375
  go_wp2
  go_ret
  exact ⟨rfl, rfl⟩
theorem taskEnd {p : Lpar} {a : Lad} {x : Lsn} {F : Nat → Prop} {s : Lst} {w : World} (h : LineIs p a x F s w) (q : Nat) (hq : q < 3 + p.W) :
    ∃ ty b, taskV a q = .iface ty (.pointer (some ⟨b, 0, none⟩)) ∧ (∀ k u, (method (k + 1) ty (.pointer (some ⟨b, 0, none⟩)) "reel/line.hasEnded").run Tryz.prog u = .ok (375, .pointer (some ⟨b, 0, none⟩)) u) ∧ ∀ u, Below w.heap.size w u → u.cell? ⟨b, 1, none⟩ = some (.bool (s.endedT q)) := by
  match q, hq with
  | 0, _ => exact ⟨154, a.sp, rfl, fun k u => mEnd0 k ⟨a.sp, 0, none⟩ u, fun u hu => (h.spl.below hu).cell 1⟩
  | 1, _ => exact ⟨155, a.su, rfl, fun k u => mEnd1 k ⟨a.su, 0, none⟩ u, fun u hu => (h.sum.below hu).cell 1⟩
  | 2, _ =>
    obtain ⟨sv, fv, lv, -, hw, -⟩ := h.cells
    exact ⟨156, a.wr, rfl, fun k u => mEnd2 k ⟨a.wr, 0, none⟩ u, fun u hu => (hw.below hu).cell 1⟩
  | j + 3, hq =>
    obtain ⟨hv, k1, -⟩ := h.wrk
    exact ⟨170, a.wk j, rfl, fun k u => mEnd3 k ⟨a.wk j, 0, none⟩ u, fun u hu => ((k1 j (by omega)).below hu).cell 1⟩
set_option maxRecDepth 100000 in
set_option maxHeartbeats 2000000 in
theorem tasksEnded {p : Lpar} {a : Lad} {x : Lsn} {F : Nat → Prop} {s : Lst} {w : World} (h : LineIs p a x F s w) :
    Calls Tryz.prog 112 #[ptrV a.lb, .func (.methodOf 178 "reel/line.hasEnded") #[] #[]] w fun e w' => ∃ v, e = .returned v ∧ w'.ownsRow w.heap.size 3 1 v (s.ended p).length ((s.ended p).map fun (k : Nat) => .int .i64 (k : Int)) ∧ Below w.heap.size w w' := by
  obtain ⟨sv, fv, lv, hl, -⟩ := h.cells
  have x28 := hl.cell 28
  simp [lnC] at x28
  have hW := h.W8
  have HTV : Hid (∀ u, Below w.heap.size w u → ∀ q, q < 3 + p.W → u.cell? ⟨a.tb, q, none⟩ = some (taskV a q)) := fun u hu q hq => by
    obtain ⟨g, cap, hg, -, -, hc⟩ := own_cells h.tasks (by omega)
    cases hg
    have h1 := hc q (taskV a q) (by simp [hq])
    exact (cellOf (hu.block a.tb (h.lt _ h.own.2.2.2.2.2.2.2.2.2.2.1))).trans h1
  have HAB : Hid (∀ q, q < 3 + p.W → ∃ ty b, taskV a q = .iface ty (.pointer (some ⟨b, 0, none⟩)) ∧ (∀ k u, (method (k + 1) ty (.pointer (some ⟨b, 0, none⟩)) "reel/line.hasEnded").run Tryz.prog u = .ok (375, .pointer (some ⟨b, 0, none⟩)) u) ∧ ∀ u, Below w.heap.size w u → u.cell? ⟨b, 1, none⟩ = some (.bool (s.endedT q))) := fun q hq => taskEnd h q hq
  unfold Lst.ended
  have hlen : ∀ q, ((List.range q).filter s.endedT).length ≤ q := fun q => by have := List.length_filter_le (s.endedT) (List.range q); rw [List.length_range] at this; exact this
  have HLN := Hid.mk' hlen
  clear h hl hlen
  generalize s.endedT = ff at *
  have HFI := Hid.mk' (filter_next ff)
  unfold ptrV at *
  go_enter Tryz.func112, Tryz.ntmps112
  go_wp2
  go_loopw [5, 13] (fun s5 s13 wr => ∃ q : Nat, ∃ v5 : Value, v5 = s5 ∧ q ≤ 3 + p.W ∧ s13 = .int .i64 q ∧ Hid (wr.ownsRow w.heap.size 3 1 v5 ((List.range q).filter ff).length (((List.range q).filter ff).map fun (k : Nat) => .int .i64 (k : Int)) ∧ Below w.heap.size w wr)) (fun _ s13 _ => 3 + p.W - (intOf s13).toNat)
  case atStart => exact ⟨0, _, rfl, Nat.zero_le _, rfl, ⟨rfl, Or.inl ⟨rfl, rfl⟩⟩, Below.refl _ _⟩
  case round =>
    obtain ⟨q, v5, hv5, hq, rfl, HI⟩ := hrel
    subst hv5
    by_cases hlt : q < 3 + p.W
    · have t0 := HTV.out wr HI.out.2 q hlt
      obtain ⟨ty, b, htv, hm, hce⟩ := HAB.out q hlt
      have HM := Hid.mk' hm
      have HA := Hid.mk' (hasEnded_any b _ wr (hce wr HI.out.2))
      rw [htv] at t0
      clear hm hce htv
      have hfi := HFI.out q
      have hil : (q : Int) < 3 + (p.W : Int) := by omega
      cases hfq : ff q with
      | false =>
        rw [hfq] at HA hfi
        simp only [Bool.false_eq_true, if_false, List.append_nil] at hfi
        go_wp2_with (first | (simp only [HM.out]) | (go_at_call 375; refine HA.out.mono ?_; rintro e u ⟨rfl, hu⟩; subst u; clear HA))
        go_roundw
        case rel => exact ⟨q + 1, _, rfl, by omega, by go_num, by rw [hfi]; exact HI.out⟩
        case measure => simp [intOf]; omega
      | true =>
        rw [hfq] at HA hfi
        simp only [if_true] at hfi
        have hsz := HI.out.2.size
        have hlq := HLN.out q
        have HRM : Hid (∃ g cap w', (Builtin.append_ #[30, 30] 30 #[v5, .slice (some ⟨wr.heap.size, 0, none⟩) 1 1]).run Tryz.prog (wr.alloc (.cells #[.int .i64 (q : Int)] 3)) = .ok (.slice (some ⟨g, 0, none⟩) (((List.range q).filter ff).length + 1) cap) w' ∧ w'.ownsRow w.heap.size 3 1 (.slice (some ⟨g, 0, none⟩) (((List.range q).filter ff).length + 1) cap) ((List.range (q + 1)).filter ff).length (((List.range (q + 1)).filter ff).map fun (k : Nat) => .int .i64 (k : Int)) ∧ Below w.heap.size w w') := by
          show ∃ _, _
          obtain ⟨g', cap', w', hr, ho, he, -⟩ := appInt wr w.heap.size _ ((List.range q).filter ff).length _ (q : Int) 30 HI.out.1 hsz (by omega)
          refine ⟨g', cap', w', hr, ?_, ?_⟩
          · rw [hfi, List.map_append, List.length_append]
            exact ho
          · have h1 := he.below (B := w.heap.size) hsz fun b hb => own_low HI.out.1 b hb
            exact HI.out.2.trans h1
        go_wp2_with (first
          | (simp only [HM.out])
          | (go_at_call 375; refine HA.out.mono ?_; rintro e u ⟨rfl, hu⟩; subst u; obtain ⟨g', cap', w', hr, ho⟩ := HRM.out; have HR := Hid.mk' hr; have HO := Hid.mk' ho; clear HA HRM hr ho)
          | (at_builtin; refine Lib.wpList_append_run _ rfl _ _ _ _ rfl _ _ rfl rfl _ _ HR.out ?_))
        go_roundw
        case rel => exact ⟨q + 1, _, rfl, by omega, by go_num, HO⟩
        case measure => simp [intOf]; omega
    · have e : q = 3 + p.W := by omega
      have hil : ¬ ((q : Int) < 3 + (p.W : Int)) := by omega
      go_wp2
      go_ret
      have h1 := HI.out
      rw [e] at h1
      exact ⟨_, rfl, h1⟩
end Go.Proofs.YtlncjgnomhpjnabGreatDoor

