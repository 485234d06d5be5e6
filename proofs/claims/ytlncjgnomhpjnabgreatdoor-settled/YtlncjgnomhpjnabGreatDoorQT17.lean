import Derived.Test.YtlncjgnomhpjnabGreatDoorQT6
import Derived.Conc.LoneCalls
import Derived.Orders
import Derived.Deep.QuietTactic
import Derived.Conc.SmallLaws
import Derived.Conc.EventLaws
/-
  The queues of a line: a channel in one goroutine.
-/
namespace Go.Proofs.YtlncjgnomhpjnabGreatDoor
open Go.RowKit Go.Deep Go.Conc
set_option linter.unusedVariables false
/-- Every order in which a region's operations may be carried out. -/
def ords (md : Region.Mode) (ops : Array Oper) : Nat → Array Bool → List (List Nat)
  | 0, _ => [[]]
  | f + 1, listed => match Region.ready md ops listed with
    | [] => [[]]
    | i :: r => (i :: r).flatMap fun i => (ords md ops f (listed.setIfInBounds i true)).map (i :: ·)
theorem ords_mem (md : Region.Mode) (ops : Array Oper) : ∀ (fuel t : Nat) (listed : Array Bool), Region.linearise.go md ops fuel t listed [] ∈ ords md ops fuel listed := by
  intro fuel
  induction fuel with
  | zero => intro t listed; simp [Region.linearise.go, ords]
  | succ fuel ih =>
    intro t listed
    simp only [Region.linearise.go]
    change (match (Region.ready md ops listed)[t % (Region.ready md ops listed).length]? with
      | some i => Region.linearise.go md ops fuel (t / (Region.ready md ops listed).length) (listed.setIfInBounds i true) [i]
      | none => [].reverse) ∈ _
    unfold ords
    cases hr : Region.ready md ops listed with
    | nil => simp
    | cons x xs =>
      simp only []
      have hlt : t % (x :: xs).length < (x :: xs).length := Nat.mod_lt _ (by simp)
      rw [List.getElem?_eq_getElem hlt]
      simp only []
      rw [linearise_go_acc, List.reverse_singleton, List.singleton_append]
      exact List.mem_flatMap.2 ⟨_, List.getElem_mem hlt, List.mem_map.2 ⟨_, ih _ _, rfl⟩⟩
theorem stepG_draw {P : Program} {main : Bool} {ops : Array Oper} {b : Frame} {a : Act} {k : List Item} {cs : List Frame} {w : World} {id : Nat} :
    stepG P main (G (b.at a (.code (.region id ops true) :: k)) cs) w =
      .go (G (b.at a (.inRegion ops (Region.schedule (P.follows .mixedOrders) ops (w.tape w.drawn (.order b.fn id))) :: k)) cs) { w with drawn := w.drawn + 1 } := by
  simp [G, stepG, stepG.exec, Frame.at, choose, Sem.run, Question.forced, Question.cut]
theorem sched_mem {P : Program} (hm : P.follows .mixedOrders = true) (ops : Array Oper) (t : Nat) : Region.schedule (P.follows .mixedOrders) ops t ∈ ords .any ops ops.size (Array.replicate ops.size false) := by
  simp only [Region.schedule, hm, Bool.true_or, if_true]
  exact ords_mem .any ops ops.size t _
theorem loneTo_draw {P : Program} {Q : Goroutine → World → Prop} {ops : Array Oper} {b : Frame} {a : Act} {k : List Item} {cs : List Frame} {w : World} {id : Nat} (hm : P.follows .mixedOrders = true) (L : List (List Nat)) (hL : ords .any ops ops.size (Array.replicate ops.size false) = L)
    (h : ∀ l ∈ L, LoneTo P Q (G (b.at a (.inRegion ops l :: k)) cs) { w with drawn := w.drawn + 1 }) : LoneTo P Q (G (b.at a (.code (.region id ops true) :: k)) cs) w :=
  LoneTo.step (step_solo_go rfl stepG_draw) (h _ (hL ▸ sched_mem hm ops _))
theorem mixed : Tryz.prog.follows .mixedOrders = true := by kernel_rfl
/-- Of the blocks that there were just those of S may have been changed. -/
structure Edit (S : Nat → Prop) (w w' : World) : Prop where
  os : w'.os = w.os
  tape : w'.tape = w.tape
  output : w'.output = w.output
  size : w.heap.size ≤ w'.heap.size
  block : ∀ k, k < w.heap.size → ¬ S k → w'.heap[k]? = w.heap[k]?
theorem Edit.refl (S : Nat → Prop) (w : World) : Edit S w w := ⟨rfl, rfl, rfl, Nat.le_refl _, fun _ _ _ => rfl⟩
theorem Edit.trans {S : Nat → Prop} {a b c : World} (h : Edit S a b) (k : Edit S b c) : Edit S a c :=
  ⟨k.os.trans h.os, k.tape.trans h.tape, k.output.trans h.output, Nat.le_trans h.size k.size, fun i hi hs => (k.block i (Nat.lt_of_lt_of_le hi h.size) hs).trans (h.block i hi hs)⟩
theorem Edit.mono {S T : Nat → Prop} {a b : World} (h : Edit S a b) (hT : ∀ k, S k → T k) : Edit T a b := ⟨h.os, h.tape, h.output, h.size, fun k hk hs => h.block k hk fun hh => hs (hT k hh)⟩
theorem Edit.of {S : Nat → Prop} {a b : World} (h : Below a.heap.size a b) : Edit S a b := ⟨h.os, h.tape, h.output, h.size, fun k hk _ => h.block k hk⟩
theorem Edit.below {S : Nat → Prop} {a b : World} (h : Edit S a b) {B : Nat} (hB : B ≤ a.heap.size) (hS : ∀ k, S k → B ≤ k) : Below B a b := ⟨h.os, h.tape, h.output, h.size, fun k hk => h.block k (Nat.lt_of_lt_of_le hk hB) fun hh => absurd (hS k hh) (by omega)⟩
theorem Bx.edit {w w' : World} {b : Nat} {t : TypeId} {cs : Array Value} {S : Nat → Prop} (h : Bx w b t cs) (he : Edit S w w') (hS : ¬ S b) : Bx w' b t cs := h.of (he.block _ h.lt hS)
theorem Edit.chan (w : World) (c cap : Nat) (buf : Array Value) (cl : Bool) (s r : Nat) (tm : Bool) : Edit (· = c) w (w.setChan c cap buf cl s r tm) :=
  ⟨rfl, rfl, rfl, by simp [World.setChan], fun k hk hs => by simp only [World.setChan]; rw [Array.getElem?_setIfInBounds_ne (fun e => hs e.symm)]⟩
theorem Edit.row {S : Nat → Prop} {a b : World} (h : Edit S a b) {g : Nat} (hg : a.heap.size ≤ g) (ds : Array Value) : Edit S a (b.setRow g ds) := by
  have hb := below_setRow (B := a.heap.size) (g := g) (Below.refl _ b) hg ds
  exact ⟨hb.os.trans h.os, hb.tape.trans h.tape, hb.output.trans h.output, Nat.le_trans h.size hb.size, fun k hk hs => (hb.block k hk).trans (h.block k hk hs)⟩
theorem Bx.free {w : World} {b : Nat} {t : TypeId} {cs : Array Value} (h : Bx w b t cs) (j : Nat) : w.frozen? ⟨b, j, none⟩ = false := by simp [World.frozen?, show w.heap[b]? = _ from h]
theorem Bx.set {w : World} {b : Nat} {t : TypeId} {cs : Array Value} (h : Bx w b t cs) (j : Nat) (v : Value) : Bx (w.setCell ⟨b, j, none⟩ v) b t (cs.setIfInBounds j v) := by
  simp [Bx, World.setCell, Array.getElem?_modify, show w.heap[b]? = _ from h]
theorem Bx.past {w : World} {b g : Nat} {t : TypeId} {cs : Array Value} (h : Bx w b t cs) (hb : b ≠ g) (j : Nat) (v : Value) : Bx (w.setCell ⟨g, j, none⟩ v) b t cs := h.of (blk_setCell_other _ _ _ _ hb)
theorem Edit.cell {S : Nat → Prop} {a b : World} (h : Edit S a b) {g : Nat} (hg : S g ∨ a.heap.size ≤ g) (j : Nat) (v : Value) : Edit S a (b.setCell ⟨g, j, none⟩ v) :=
  ⟨h.os, h.tape, h.output, by simpa using h.size, fun k hk hs => (blk_setCell_other _ _ _ _ (by rintro rfl; rcases hg with hg | hg; exact hs hg; exact absurd hk (by simpa using hg))).trans (h.block k hk hs)⟩
theorem Edit.drewN {S : Nat → Prop} {a b : World} (h : Edit S a b) (n : Nat) : Edit S a (b.drewN n) := ⟨h.os, h.tape, h.output, h.size, h.block⟩
theorem Edit.alloc {S : Nat → Prop} {a b : World} (h : Edit S a b) (o : Obj) : Edit S a (b.alloc o) := h.trans (Edit.of ((Below.refl _ b).alloc (Nat.le_refl _) o))
/-- A queue: its two cells, and its channel. -/
structure QIs (w : World) (q c : Nat) (t : TypeId) (cap : Nat) (buf : Array Value) (cl : Bool) : Prop where
  cells : Bx w q t #[.chan (some c), .bool cl]
  chan : ∃ s r, w.heap[c]? = some (.chan cap buf cl s r false)
theorem QIs.edit {w w' : World} {q c : Nat} {t : TypeId} {cap : Nat} {buf : Array Value} {cl : Bool} {S : Nat → Prop} (h : QIs w q c t cap buf cl) (he : Edit S w w') (hq : ¬ S q) (hc : ¬ S c) : QIs w' q c t cap buf cl := by
  obtain ⟨s, r, hch⟩ := h.chan
  exact ⟨h.cells.edit he hq, s, r, (he.block _ (Array.getElem?_eq_some_iff.1 hch).1 hc).trans hch⟩
theorem QIs.row {w : World} {q c : Nat} {t : TypeId} {cap : Nat} {buf : Array Value} {cl : Bool} (h : QIs w q c t cap buf cl) {g B : Nat} (hq : q < B) (hc : c < B ∧ B ≤ g) (ds : Array Value) : QIs (w.setRow g ds) q c t cap buf cl := by
  obtain ⟨s, r, hch⟩ := h.chan
  exact ⟨h.cells.other (by omega) ds, s, r, (setRow_other w g c ds (by omega)).trans hch⟩
theorem QIs.ne {w : World} {q c : Nat} {t : TypeId} {cap : Nat} {buf : Array Value} {cl : Bool} (h : QIs w q c t cap buf cl) : q ≠ c := by
  rintro rfl
  obtain ⟨s, r, hch⟩ := h.chan
  have := h.cells
  unfold Bx at this
  rw [this] at hch
  cases hch
theorem uponK_storeRow {P : Program} {w : World} {o : Oper} {a : Act} {K : Act → World → Prop} (p v : Operand) (t : TypeId) (ho : o.op = .store t p v)
    (g : Nat) (tt : TypeId) (old cells : Array Value) (hp : a.eval p = .pointer (some ⟨g, 0, none⟩)) (hv : a.eval v = .agg cells) (hg : w.heap[g]? = some (.cells old tt (0, 0))) (hi : (P.info? t).map (·.size) = some cells.size)
    (hs : old.size = cells.size) (h1 : cells.toList.all (·.oneCell') = true) (h : K (a.put o.dst undef) (w.setRow g cells)) : uponK o a K ((execOp a.eval o).run P w) := by
  have hr := run_storeVar_row (P := P) w g tt t old cells hg hi hs (by rw [← Array.all_toList]; exact h1)
  have e : (Instr.storeAt t (.pointer (some ⟨g, 0, none⟩)) (.agg cells)).run P w = .ok () (w.setRow g cells) := by simpa [Instr.storeAt, Instr.sureAddr, asAddr] using hr
  unfold execOp
  simp only [ho, hp, hv, Sem.run_bind, e, Result.andThen, Sem.run_pure]
  exact h
theorem uponK_loadRow {P : Program} {w : World} {o : Oper} {a : Act} {K : Act → World → Prop} (p : Operand) (t : TypeId) (ho : o.op = .load t p)
    (g : Nat) (tt : TypeId) (cs : Array Value) (fr : Nat × Nat) (d : TypeDesc) (hp : a.eval p = .pointer (some ⟨g, 0, none⟩)) (hg : w.heap[g]? = some (.cells cs tt fr)) (hu : P.underlying t = some d)
    (hd : (match d with | .struct _ | .array _ _ => true | _ => false) = true) (hi : (P.info? t).map (·.size) = some cs.size) (h : K (a.put o.dst (.agg cs)) w) : uponK o a K ((execOp a.eval o).run P w) := by
  have hr := run_loadVar_row (P := P) w g tt t cs fr d hg hu hd hi
  have e : (Instr.loadAt t (.pointer (some ⟨g, 0, none⟩))).run P w = .ok (.agg cs) w := by simpa [Instr.loadAt, Instr.sureAddr, asAddr] using hr
  unfold execOp
  simp only [ho, hp, Sem.run_bind, e, Result.andThen, Sem.run_pure]
  exact h
set_option maxRecDepth 100000 in
theorem put_block (q c cap : Nat) (buf : Array Value) (b0 b1 : Value) (w : World) (hq : QIs w q c 247 cap buf false) (hroom : buf.size < cap) (ho : b0.oneCell' = true ∧ b1.oneCell' = true) :
    Calls Tryz.prog 381 #[.pointer (some ⟨q, 0, none⟩), .agg #[b0, b1]] w fun e w' => e = .returned (.tuple #[]) ∧ QIs w' q c 247 cap (buf.push (.agg #[b0, b1])) false ∧ Edit (· = c) w w' := by
  refine calls_of_loneTo fun cs => ?_
  have e : Frame.enter Tryz.prog 381 #[.pointer (some ⟨q, 0, none⟩), .agg #[b0, b1]] .normal = (base 381).at ⟨#[.pointer (some ⟨q, 0, none⟩), .agg #[b0, b1], undef, undef, undef, undef, undef, undef, undef], []⟩ [.code (Tryz.f381.body.getD .skip)] := by
    simp [Frame.enter, Frame.at, Tryz.func381, base, Tryz.f381]
  rw [e]
  clear e
  refine LoneTo.goes (n := 4) ?_
  simp only [Tryz.f381, Option.getD_some]
  s_c stepG_seq
  s_reg
  s_op
  s_c stepG_region_end
  s_stop
  refine loneTo_draw mixed [[0, 1, 2, 3, 4, 5], [0, 1, 2, 4, 3, 5], [0, 1, 4, 2, 3, 5], [0, 4, 1, 2, 3, 5], [4, 0, 1, 2, 3, 5]] (by kernel_rfl) ?_
  obtain ⟨s, r, hc⟩ := hq.chan
  have hlt := (Array.getElem?_eq_some_iff.1 hc).1
  obtain ⟨w1, hw1⟩ : ∃ w1 : World, w1 = { w.alloc (.cells #[b0, b1] 145) with drawn := w.drawn + 1 } := ⟨_, rfl⟩
  have he1 : Edit (· = c) w w1 := by
    subst hw1
    have hb := (Below.refl w.heap.size w).alloc (Nat.le_refl _) (.cells #[b0, b1] 145)
    exact Edit.of ⟨hb.os, hb.tape, hb.output, hb.size, hb.block⟩
  have hq1 : Bx w1 q 247 #[.chan (some c), .bool false] := hq.cells.edit he1 hq.ne
  have hq10 := hq1.cell 0
  have hc1 : w1.heap[c]? = some (.chan cap buf false s r false) := by subst hw1; simpa [blk_alloc_lt _ _ _ hlt] using hc
  have hb1 : Bx w1 w.heap.size 145 #[b0, b1] := by subst hw1; exact Bx.new w _ _
  have hb10 := hb1.cell 0
  have hb11 := hb1.cell 1
  simp at hb10 hb11 hq10
  rw [show ({ heap := (w.alloc (.cells #[b0, b1] 145)).heap, tape := (w.alloc (.cells #[b0, b1] 145)).tape, drawn := (w.alloc (.cells #[b0, b1] 145)).drawn + 1, os := (w.alloc (.cells #[b0, b1] 145)).os, output := (w.alloc (.cells #[b0, b1] 145)).output } : World) = w1 from hw1.symm]
  have HQ := Hid.mk' hq
  have HQ1 := Hid.mk' hq1
  have HE1 := Hid.mk' he1
  clear hw1 hq hq1 hb1 he1 hc
  intro l hl
  simp only [List.mem_cons, List.not_mem_nil, or_false] at hl
  rcases hl with rfl | rfl | rfl | rfl | rfl
  all_goals
    refine LoneTo.goes (n := 5) ?_
    s_op
    s_op
    s_op
    s_op
    s_op
    s_stop
    refine LoneTo.step (step_lone_send_room (c := c) (cap := cap) (buf := buf) (s := s) (r := r) (tm := false) (stepG_comm (cases := #[scase c (.agg #[b0, b1]) (.tuple #[])]) (blocking := true) (shape := .send) (w' := w1) rfl rfl (by decide) (by simp [execOp, scase, Act.eval])) hc1 hroom) ?_
    rw [Frame.finish_at]
    walk_nrm
    refine LoneTo.goes (n := 2) ?_
    s_c stepG_region_end
    s_c stepG_end
    s_stop
    refine LoneTo.done ⟨.returned (.tuple #[]), _, rfl, ⟨rfl, ⟨HQ1.out.edit (Edit.chan _ _ _ _ _ _ _ _) HQ.out.ne, s + 1, r, heap_setChan _ _ _ _ _ _ _ _ (Array.getElem?_eq_some_iff.1 hc1).1⟩, HE1.out.trans (Edit.chan _ _ _ _ _ _ _ _)⟩, rfl, rfl, rfl, rfl, _, Tryz.func381, by simp [results, Tryz.f381, Frame.at]⟩
set_option maxRecDepth 100000 in
theorem put_packed (q c cap : Nat) (buf : Array Value) (b0 b1 : Value) (w : World) (hq : QIs w q c 250 cap buf false) (hroom : buf.size < cap) (ho : b0.oneCell' = true ∧ b1.oneCell' = true) :
    Calls Tryz.prog 415 #[.pointer (some ⟨q, 0, none⟩), .agg #[b0, b1]] w fun e w' => e = .returned (.tuple #[]) ∧ QIs w' q c 250 cap (buf.push (.agg #[b0, b1])) false ∧ Edit (· = c) w w' := by
  refine calls_of_loneTo fun cs => ?_
  have e : Frame.enter Tryz.prog 415 #[.pointer (some ⟨q, 0, none⟩), .agg #[b0, b1]] .normal = (base 415).at ⟨#[.pointer (some ⟨q, 0, none⟩), .agg #[b0, b1], undef, undef, undef, undef, undef, undef, undef], []⟩ [.code (Tryz.f415.body.getD .skip)] := by
    simp [Frame.enter, Frame.at, Tryz.func415, base, Tryz.f415]
  rw [e]
  clear e
  refine LoneTo.goes (n := 4) ?_
  simp only [Tryz.f415, Option.getD_some]
  s_c stepG_seq
  s_reg
  s_op
  s_c stepG_region_end
  s_stop
  refine loneTo_draw mixed [[0, 1, 2, 3, 4, 5], [0, 1, 2, 4, 3, 5], [0, 1, 4, 2, 3, 5], [0, 4, 1, 2, 3, 5], [4, 0, 1, 2, 3, 5]] (by kernel_rfl) ?_
  obtain ⟨s, r, hc⟩ := hq.chan
  have hlt := (Array.getElem?_eq_some_iff.1 hc).1
  obtain ⟨w1, hw1⟩ : ∃ w1 : World, w1 = { w.alloc (.cells #[b0, b1] 149) with drawn := w.drawn + 1 } := ⟨_, rfl⟩
  have he1 : Edit (· = c) w w1 := by
    subst hw1
    have hb := (Below.refl w.heap.size w).alloc (Nat.le_refl _) (.cells #[b0, b1] 149)
    exact Edit.of ⟨hb.os, hb.tape, hb.output, hb.size, hb.block⟩
  have hq1 : Bx w1 q 250 #[.chan (some c), .bool false] := hq.cells.edit he1 hq.ne
  have hq10 := hq1.cell 0
  have hc1 : w1.heap[c]? = some (.chan cap buf false s r false) := by subst hw1; simpa [blk_alloc_lt _ _ _ hlt] using hc
  have hb1 : Bx w1 w.heap.size 149 #[b0, b1] := by subst hw1; exact Bx.new w _ _
  have hb10 := hb1.cell 0
  have hb11 := hb1.cell 1
  simp at hb10 hb11 hq10
  rw [show ({ heap := (w.alloc (.cells #[b0, b1] 149)).heap, tape := (w.alloc (.cells #[b0, b1] 149)).tape, drawn := (w.alloc (.cells #[b0, b1] 149)).drawn + 1, os := (w.alloc (.cells #[b0, b1] 149)).os, output := (w.alloc (.cells #[b0, b1] 149)).output } : World) = w1 from hw1.symm]
  have HQ := Hid.mk' hq
  have HQ1 := Hid.mk' hq1
  have HE1 := Hid.mk' he1
  clear hw1 hq hq1 hb1 he1 hc
  intro l hl
  simp only [List.mem_cons, List.not_mem_nil, or_false] at hl
  rcases hl with rfl | rfl | rfl | rfl | rfl
  all_goals
    refine LoneTo.goes (n := 5) ?_
    s_op
    s_op
    s_op
    s_op
    s_op
    s_stop
    refine LoneTo.step (step_lone_send_room (c := c) (cap := cap) (buf := buf) (s := s) (r := r) (tm := false) (stepG_comm (cases := #[scase c (.agg #[b0, b1]) (.tuple #[])]) (blocking := true) (shape := .send) (w' := w1) rfl rfl (by decide) (by simp [execOp, scase, Act.eval])) hc1 hroom) ?_
    rw [Frame.finish_at]
    walk_nrm
    refine LoneTo.goes (n := 2) ?_
    s_c stepG_region_end
    s_c stepG_end
    s_stop
    refine LoneTo.done ⟨.returned (.tuple #[]), _, rfl, ⟨rfl, ⟨HQ1.out.edit (Edit.chan _ _ _ _ _ _ _ _) HQ.out.ne, s + 1, r, heap_setChan _ _ _ _ _ _ _ _ (Array.getElem?_eq_some_iff.1 hc1).1⟩, HE1.out.trans (Edit.chan _ _ _ _ _ _ _ _)⟩, rfl, rfl, rfl, rfl, _, Tryz.func415, by simp [results, Tryz.f415, Frame.at]⟩
set_option maxRecDepth 100000 in
theorem take_block (q c cap : Nat) (buf : Array Value) (cl : Bool) (b0 b1 : Value) (w : World) (hq : QIs w q c 247 cap buf cl) (h0 : buf[0]? = some (.agg #[b0, b1])) (ho : b0.oneCell' = true ∧ b1.oneCell' = true) :
    Calls Tryz.prog 385 #[.pointer (some ⟨q, 0, none⟩)] w fun e w' => e = .returned (.tuple #[.agg #[b0, b1], .bool true]) ∧ QIs w' q c 247 cap (buf.extract 1 buf.size) cl ∧ Edit (· = c) w w' := by
  refine calls_of_loneTo fun cs => ?_
  have e : Frame.enter Tryz.prog 385 #[.pointer (some ⟨q, 0, none⟩)] .normal = (base 385).at ⟨#[.pointer (some ⟨q, 0, none⟩), undef, undef, undef, undef, undef, undef, undef, undef, undef, undef, undef, undef, undef, undef, undef], []⟩ [.code (Tryz.f385.body.getD .skip)] := by
    simp [Frame.enter, Frame.at, Tryz.func385, base, Tryz.f385]
  rw [e]
  clear e
  obtain ⟨s, r, hc⟩ := hq.chan
  have hlt := (Array.getElem?_eq_some_iff.1 hc).1
  have hltq := hq.cells.lt
  have hpos : 0 < buf.size := (Array.getElem?_eq_some_iff.1 h0).1
  have hgd : buf.getD 0 undef = .agg #[b0, b1] := by simp [Array.getD_eq_getD_getElem?, h0]
  obtain ⟨w1, hw1⟩ : ∃ w1 : World, w1 = w.alloc (.cells #[.int .i64 0, .slice none 0 0] 145) := ⟨_, rfl⟩
  have he1 : Edit (· = c) w w1 := by
    subst hw1
    exact Edit.of ((Below.refl _ w).alloc (Nat.le_refl _) _)
  have hq1 : Bx w1 q 247 #[.chan (some c), .bool cl] := hq.cells.edit he1 hq.ne
  have hq10 := hq1.cell 0
  have hc1 : w1.heap[c]? = some (.chan cap buf cl s r false) := by subst hw1; simpa [blk_alloc_lt _ _ _ hlt] using hc
  simp at hq10
  refine LoneTo.goes (n := 11) ?_
  simp only [Tryz.f385, Option.getD_some]
  s_c stepG_seq
  s_reg
  s_op
  s_op
  s_c stepG_region_end
  s_c stepG_seq
  s_reg
  rw [← hw1]
  have HE1 := Hid.mk' he1
  have HQ1 := Hid.mk' hq1
  have HQ := Hid.mk' hq
  have HB1 : Hid (Bx w1 w.heap.size 145 #[.int .i64 0, .slice none 0 0]) := by rw [hw1]; exact Bx.new _ _ _
  have HS1 : Hid (w1.heap.size = w.heap.size + 1) := Hid.mk' (by rw [hw1]; simp)
  clear hq hq1 he1 hw1 hc
  s_op
  s_op
  s_op
  s_op
  s_stop
  refine LoneTo.step (step_lone_recv_buf true (c := c) (z := .agg #[.int .i64 0, .slice none 0 0]) (stepG_comm (cases := #[rcase c (.agg #[.int .i64 0, .slice none 0 0])]) (blocking := true) (shape := .recv true) (w' := w1) rfl rfl (by decide) (by simp [go_sem, rcase])) hc1 hpos) ?_
  rw [Frame.finish_at]
  simp only [got, hgd, if_true]
  walk_nrm
  obtain ⟨w2, hw2⟩ : ∃ w2 : World, w2 = w1.setChan c cap (buf.extract 1 buf.size) cl s (r + 1) false := ⟨_, rfl⟩
  rw [← hw2]
  have HE2 : Hid (Edit (· = c) w w2) := Hid.mk' (HE1.out.trans (by rw [hw2]; exact Edit.chan _ _ _ _ _ _ _ _))
  have hsz2 : w2.heap.size = w.heap.size + 1 := by rw [hw2, size_setChan, HS1.out]
  have HB2 : Hid (Bx w2 w.heap.size 145 #[.int .i64 0, .slice none 0 0]) := Hid.mk' (HB1.out.edit (S := (· = c)) (by rw [hw2]; exact Edit.chan _ _ _ _ _ _ _ _) (show ¬ (w.heap.size = c) by omega))
  have HC2 : Hid (QIs w2 q c 247 cap (buf.extract 1 buf.size) cl) := Hid.mk' ⟨HQ.out.cells.edit HE2.out HQ.out.ne, s, r + 1, by rw [hw2]; exact heap_setChan _ _ _ _ _ _ _ _ (Array.getElem?_eq_some_iff.1 hc1).1⟩
  clear hw2 hq10 hc1 HE1 HQ1 HQ HB1 HS1
  refine LoneTo.goes (n := 4) ?_
  s_op
  s_op
  s_op
  s_op
  s_stop
  obtain ⟨w3, hw3⟩ : ∃ w3 : World, w3 = w2.alloc (.cells #[.int .i64 0, .slice none 0 0] 145) := ⟨_, rfl⟩
  rw [← hw3]
  have HE3 : Hid (Edit (· = c) w w3) := Hid.mk' (HE2.out.trans (by rw [hw3]; exact Edit.of ((Below.refl _ w2).alloc (Nat.le_refl _) _)))
  have hsz3 : w3.heap.size = w.heap.size + 2 := by rw [hw3, World.size_alloc, hsz2]
  have HB3 : Hid (Bx w3 w.heap.size 145 #[.int .i64 0, .slice none 0 0]) := Hid.mk' (by rw [hw3]; exact HB2.out.alloc _)
  have HN3 : Hid (Bx w3 (w.heap.size + 1) 145 #[.int .i64 0, .slice none 0 0]) := Hid.mk' (by rw [hw3]; rw [← hsz2]; exact Bx.new _ _ _)
  have HC3 : Hid (QIs w3 q c 247 cap (buf.extract 1 buf.size) cl) := Hid.mk' (by rw [hw3]; exact HC2.out.edit (S := fun _ => False) (Edit.of ((Below.refl _ w2).alloc (Nat.le_refl _) _)) id id)
  clear hw3 HE2 HB2 HC2 hsz2
  refine LoneTo.goes (n := 8) ?_
  s_in
  refine goes_oper_k rfl rfl (by decide) (fun K hK => ?_)
  refine uponK_storeRow _ _ 145 rfl (w.heap.size + 1) 145 _ #[b0, b1] rfl rfl HN3.out (by kernel_rfl) rfl (by simp [ho.1, ho.2]) (hK _ _ ⟨trivial, ?_⟩)
  clear hK K
  obtain ⟨w4, hw4⟩ : ∃ w4 : World, w4 = w3.setRow (w.heap.size + 1) #[b0, b1] := ⟨_, rfl⟩
  have HN4 : Hid (Bx w4 (w.heap.size + 1) 145 #[b0, b1]) := Hid.mk' (by rw [hw4]; exact HN3.out.row _)
  have HB4 : Hid (Bx w4 w.heap.size 145 #[.int .i64 0, .slice none 0 0]) := Hid.mk' (by rw [hw4]; exact HB3.out.other (by omega) _)
  have HE4 : Hid (Edit (· = c) w w4) := Hid.mk' (by rw [hw4]; exact HE3.out.row (by omega) _)
  have HC4 : Hid (QIs w4 q c 247 cap (buf.extract 1 buf.size) cl) := Hid.mk' (by rw [hw4]; exact HC3.out.row hltq ⟨hlt, by omega⟩ _)
  rw [← hw4]
  clear hw4 HN3 HB3 HE3 HC3
  walk_nrm
  s_op
  s_c stepG_region_end
  s_c stepG_seq
  s_reg
  s_in
  refine goes_oper_k rfl rfl (by decide) (fun K hK => ?_)
  refine uponK_loadRow _ 145 rfl (w.heap.size + 1) 145 _ (0, 0) _ rfl HN4.out Tryz.underlying145 rfl (by kernel_rfl) (hK _ _ ⟨trivial, ?_⟩)
  clear hK K
  walk_nrm
  s_op
  s_in
  refine goes_oper_k rfl rfl (by decide) (fun K hK => ?_)
  refine uponK_storeRow _ _ 145 rfl w.heap.size 145 _ #[b0, b1] rfl rfl HB4.out (by kernel_rfl) rfl (by simp [ho.1, ho.2]) (hK _ _ ⟨trivial, ?_⟩)
  clear hK K
  walk_nrm
  s_stop
  obtain ⟨w5, hw5⟩ : ∃ w5 : World, w5 = w4.setRow w.heap.size #[b0, b1] := ⟨_, rfl⟩
  have HB5 : Hid (Bx w5 w.heap.size 145 #[b0, b1]) := Hid.mk' (by rw [hw5]; exact HB4.out.row _)
  have HE5 : Hid (Edit (· = c) w w5) := Hid.mk' (by rw [hw5]; exact HE4.out.row (by omega) _)
  have HC5 : Hid (QIs w5 q c 247 cap (buf.extract 1 buf.size) cl) := Hid.mk' (by rw [hw5]; exact HC4.out.row hltq ⟨hlt, by omega⟩ _)
  rw [← hw5]
  clear hw5 HB4 HN4 HE4 HC4
  refine LoneTo.goes (n := 3) ?_
  s_op
  s_c stepG_region_end
  s_c stepG_ret'
  s_stop
  refine LoneTo.done ⟨.returned (.tuple #[.agg #[b0, b1], .bool true]), _, rfl, ⟨rfl, HC5.out, HE5.out⟩, rfl, rfl, rfl, rfl, _, Tryz.func385, ?_⟩
  have hl := run_loadVar_row (P := Tryz.prog) w5 w.heap.size 145 145 #[b0, b1] (0, 0) _ HB5.out Tryz.underlying145 rfl (by kernel_rfl)
  simp [results, Tryz.f385, Frame.at, asAddr, hl, Result.andThen]
set_option maxRecDepth 100000 in
theorem take_packed (q c cap : Nat) (buf : Array Value) (cl : Bool) (b0 b1 : Value) (w : World) (hq : QIs w q c 250 cap buf cl) (h0 : buf[0]? = some (.agg #[b0, b1])) (ho : b0.oneCell' = true ∧ b1.oneCell' = true) :
    Calls Tryz.prog 394 #[.pointer (some ⟨q, 0, none⟩)] w fun e w' => e = .returned (.tuple #[.agg #[b0, b1], .bool true]) ∧ QIs w' q c 250 cap (buf.extract 1 buf.size) cl ∧ Edit (· = c) w w' := by
  refine calls_of_loneTo fun cs => ?_
  have e : Frame.enter Tryz.prog 394 #[.pointer (some ⟨q, 0, none⟩)] .normal = (base 394).at ⟨#[.pointer (some ⟨q, 0, none⟩), undef, undef, undef, undef, undef, undef, undef, undef, undef, undef, undef, undef, undef, undef, undef], []⟩ [.code (Tryz.f394.body.getD .skip)] := by
    simp [Frame.enter, Frame.at, Tryz.func394, base, Tryz.f394]
  rw [e]
  clear e
  obtain ⟨s, r, hc⟩ := hq.chan
  have hlt := (Array.getElem?_eq_some_iff.1 hc).1
  have hltq := hq.cells.lt
  have hpos : 0 < buf.size := (Array.getElem?_eq_some_iff.1 h0).1
  have hgd : buf.getD 0 undef = .agg #[b0, b1] := by simp [Array.getD_eq_getD_getElem?, h0]
  obtain ⟨w1, hw1⟩ : ∃ w1 : World, w1 = w.alloc (.cells #[.int .i64 0, .string ⟨#[]⟩] 149) := ⟨_, rfl⟩
  have he1 : Edit (· = c) w w1 := by
    subst hw1
    exact Edit.of ((Below.refl _ w).alloc (Nat.le_refl _) _)
  have hq1 : Bx w1 q 250 #[.chan (some c), .bool cl] := hq.cells.edit he1 hq.ne
  have hq10 := hq1.cell 0
  have hc1 : w1.heap[c]? = some (.chan cap buf cl s r false) := by subst hw1; simpa [blk_alloc_lt _ _ _ hlt] using hc
  simp at hq10
  refine LoneTo.goes (n := 11) ?_
  simp only [Tryz.f394, Option.getD_some]
  s_c stepG_seq
  s_reg
  s_op
  s_op
  s_c stepG_region_end
  s_c stepG_seq
  s_reg
  rw [← hw1]
  have HE1 := Hid.mk' he1
  have HQ1 := Hid.mk' hq1
  have HQ := Hid.mk' hq
  have HB1 : Hid (Bx w1 w.heap.size 149 #[.int .i64 0, .string ⟨#[]⟩]) := by rw [hw1]; exact Bx.new _ _ _
  have HS1 : Hid (w1.heap.size = w.heap.size + 1) := Hid.mk' (by rw [hw1]; simp)
  clear hq hq1 he1 hw1 hc
  s_op
  s_op
  s_op
  s_op
  s_stop
  refine LoneTo.step (step_lone_recv_buf true (c := c) (z := .agg #[.int .i64 0, .string ⟨#[]⟩]) (stepG_comm (cases := #[rcase c (.agg #[.int .i64 0, .string ⟨#[]⟩])]) (blocking := true) (shape := .recv true) (w' := w1) rfl rfl (by decide) (by simp [go_sem, rcase])) hc1 hpos) ?_
  rw [Frame.finish_at]
  simp only [got, hgd, if_true]
  walk_nrm
  obtain ⟨w2, hw2⟩ : ∃ w2 : World, w2 = w1.setChan c cap (buf.extract 1 buf.size) cl s (r + 1) false := ⟨_, rfl⟩
  rw [← hw2]
  have HE2 : Hid (Edit (· = c) w w2) := Hid.mk' (HE1.out.trans (by rw [hw2]; exact Edit.chan _ _ _ _ _ _ _ _))
  have hsz2 : w2.heap.size = w.heap.size + 1 := by rw [hw2, size_setChan, HS1.out]
  have HB2 : Hid (Bx w2 w.heap.size 149 #[.int .i64 0, .string ⟨#[]⟩]) := Hid.mk' (HB1.out.edit (S := (· = c)) (by rw [hw2]; exact Edit.chan _ _ _ _ _ _ _ _) (show ¬ (w.heap.size = c) by omega))
  have HC2 : Hid (QIs w2 q c 250 cap (buf.extract 1 buf.size) cl) := Hid.mk' ⟨HQ.out.cells.edit HE2.out HQ.out.ne, s, r + 1, by rw [hw2]; exact heap_setChan _ _ _ _ _ _ _ _ (Array.getElem?_eq_some_iff.1 hc1).1⟩
  clear hw2 hq10 hc1 HE1 HQ1 HQ HB1 HS1
  refine LoneTo.goes (n := 4) ?_
  s_op
  s_op
  s_op
  s_op
  s_stop
  obtain ⟨w3, hw3⟩ : ∃ w3 : World, w3 = w2.alloc (.cells #[.int .i64 0, .string ⟨#[]⟩] 149) := ⟨_, rfl⟩
  rw [← hw3]
  have HE3 : Hid (Edit (· = c) w w3) := Hid.mk' (HE2.out.trans (by rw [hw3]; exact Edit.of ((Below.refl _ w2).alloc (Nat.le_refl _) _)))
  have hsz3 : w3.heap.size = w.heap.size + 2 := by rw [hw3, World.size_alloc, hsz2]
  have HB3 : Hid (Bx w3 w.heap.size 149 #[.int .i64 0, .string ⟨#[]⟩]) := Hid.mk' (by rw [hw3]; exact HB2.out.alloc _)
  have HN3 : Hid (Bx w3 (w.heap.size + 1) 149 #[.int .i64 0, .string ⟨#[]⟩]) := Hid.mk' (by rw [hw3]; rw [← hsz2]; exact Bx.new _ _ _)
  have HC3 : Hid (QIs w3 q c 250 cap (buf.extract 1 buf.size) cl) := Hid.mk' (by rw [hw3]; exact HC2.out.edit (S := fun _ => False) (Edit.of ((Below.refl _ w2).alloc (Nat.le_refl _) _)) id id)
  clear hw3 HE2 HB2 HC2 hsz2
  refine LoneTo.goes (n := 8) ?_
  s_in
  refine goes_oper_k rfl rfl (by decide) (fun K hK => ?_)
  refine uponK_storeRow _ _ 149 rfl (w.heap.size + 1) 149 _ #[b0, b1] rfl rfl HN3.out (by kernel_rfl) rfl (by simp [ho.1, ho.2]) (hK _ _ ⟨trivial, ?_⟩)
  clear hK K
  obtain ⟨w4, hw4⟩ : ∃ w4 : World, w4 = w3.setRow (w.heap.size + 1) #[b0, b1] := ⟨_, rfl⟩
  have HN4 : Hid (Bx w4 (w.heap.size + 1) 149 #[b0, b1]) := Hid.mk' (by rw [hw4]; exact HN3.out.row _)
  have HB4 : Hid (Bx w4 w.heap.size 149 #[.int .i64 0, .string ⟨#[]⟩]) := Hid.mk' (by rw [hw4]; exact HB3.out.other (by omega) _)
  have HE4 : Hid (Edit (· = c) w w4) := Hid.mk' (by rw [hw4]; exact HE3.out.row (by omega) _)
  have HC4 : Hid (QIs w4 q c 250 cap (buf.extract 1 buf.size) cl) := Hid.mk' (by rw [hw4]; exact HC3.out.row hltq ⟨hlt, by omega⟩ _)
  rw [← hw4]
  clear hw4 HN3 HB3 HE3 HC3
  walk_nrm
  s_op
  s_c stepG_region_end
  s_c stepG_seq
  s_reg
  s_in
  refine goes_oper_k rfl rfl (by decide) (fun K hK => ?_)
  refine uponK_loadRow _ 149 rfl (w.heap.size + 1) 149 _ (0, 0) _ rfl HN4.out Tryz.underlying149 rfl (by kernel_rfl) (hK _ _ ⟨trivial, ?_⟩)
  clear hK K
  walk_nrm
  s_op
  s_in
  refine goes_oper_k rfl rfl (by decide) (fun K hK => ?_)
  refine uponK_storeRow _ _ 149 rfl w.heap.size 149 _ #[b0, b1] rfl rfl HB4.out (by kernel_rfl) rfl (by simp [ho.1, ho.2]) (hK _ _ ⟨trivial, ?_⟩)
  clear hK K
  walk_nrm
  s_stop
  obtain ⟨w5, hw5⟩ : ∃ w5 : World, w5 = w4.setRow w.heap.size #[b0, b1] := ⟨_, rfl⟩
  have HB5 : Hid (Bx w5 w.heap.size 149 #[b0, b1]) := Hid.mk' (by rw [hw5]; exact HB4.out.row _)
  have HE5 : Hid (Edit (· = c) w w5) := Hid.mk' (by rw [hw5]; exact HE4.out.row (by omega) _)
  have HC5 : Hid (QIs w5 q c 250 cap (buf.extract 1 buf.size) cl) := Hid.mk' (by rw [hw5]; exact HC4.out.row hltq ⟨hlt, by omega⟩ _)
  rw [← hw5]
  clear hw5 HB4 HN4 HE4 HC4
  refine LoneTo.goes (n := 3) ?_
  s_op
  s_c stepG_region_end
  s_c stepG_ret'
  s_stop
  refine LoneTo.done ⟨.returned (.tuple #[.agg #[b0, b1], .bool true]), _, rfl, ⟨rfl, HC5.out, HE5.out⟩, rfl, rfl, rfl, rfl, _, Tryz.func394, ?_⟩
  have hl := run_loadVar_row (P := Tryz.prog) w5 w.heap.size 149 149 #[b0, b1] (0, 0) _ HB5.out Tryz.underlying149 rfl (by kernel_rfl)
  simp [results, Tryz.f394, Frame.at, asAddr, hl, Result.andThen]
set_option maxRecDepth 100000 in
theorem shut_block (q c cap : Nat) (w : World) (hq : QIs w q c 247 cap #[] true) :
    Calls Tryz.prog 385 #[.pointer (some ⟨q, 0, none⟩)] w fun e w' => e = .returned (.tuple #[.agg #[.int .i64 0, .slice none 0 0], .bool false]) ∧ QIs w' q c 247 cap #[] true ∧ Edit (· = c) w w' := by
  refine calls_of_loneTo fun cs => ?_
  have e : Frame.enter Tryz.prog 385 #[.pointer (some ⟨q, 0, none⟩)] .normal = (base 385).at ⟨#[.pointer (some ⟨q, 0, none⟩), undef, undef, undef, undef, undef, undef, undef, undef, undef, undef, undef, undef, undef, undef, undef], []⟩ [.code (Tryz.f385.body.getD .skip)] := by
    simp [Frame.enter, Frame.at, Tryz.func385, base, Tryz.f385]
  rw [e]
  clear e
  obtain ⟨s, r, hc⟩ := hq.chan
  have hlt := (Array.getElem?_eq_some_iff.1 hc).1
  have hltq := hq.cells.lt
  obtain ⟨w1, hw1⟩ : ∃ w1 : World, w1 = w.alloc (.cells #[.int .i64 0, .slice none 0 0] 145) := ⟨_, rfl⟩
  have he1 : Edit (· = c) w w1 := by
    subst hw1
    exact Edit.of ((Below.refl _ w).alloc (Nat.le_refl _) _)
  have hq1 : Bx w1 q 247 #[.chan (some c), .bool true] := hq.cells.edit he1 hq.ne
  have hq10 := hq1.cell 0
  have hc1 : w1.heap[c]? = some (.chan cap #[] true s r false) := by subst hw1; simpa [blk_alloc_lt _ _ _ hlt] using hc
  simp at hq10
  refine LoneTo.goes (n := 11) ?_
  simp only [Tryz.f385, Option.getD_some]
  s_c stepG_seq
  s_reg
  s_op
  s_op
  s_c stepG_region_end
  s_c stepG_seq
  s_reg
  rw [← hw1]
  have HE1 := Hid.mk' he1
  have HQ1 := Hid.mk' hq1
  have HQ := Hid.mk' hq
  have HB1 : Hid (Bx w1 w.heap.size 145 #[.int .i64 0, .slice none 0 0]) := by rw [hw1]; exact Bx.new _ _ _
  have HS1 : Hid (w1.heap.size = w.heap.size + 1) := Hid.mk' (by rw [hw1]; simp)
  clear hq hq1 he1 hw1 hc
  s_op
  s_op
  s_op
  s_op
  s_stop
  refine LoneTo.step (step_lone_recv_shut true (c := c) (z := .agg #[.int .i64 0, .slice none 0 0]) (stepG_comm (cases := #[rcase c (.agg #[.int .i64 0, .slice none 0 0])]) (blocking := true) (shape := .recv true) (w' := w1) rfl rfl (by decide) (by simp [go_sem, rcase])) hc1) ?_
  rw [Frame.finish_at]
  simp only [got, if_true]
  walk_nrm
  obtain ⟨w2, hw2⟩ : ∃ w2 : World, w2 = w1 := ⟨_, rfl⟩
  rw [← hw2]
  have HE2 : Hid (Edit (· = c) w w2) := Hid.mk' (HE1.out.trans (by rw [hw2]; exact Edit.refl _ _))
  have hsz2 : w2.heap.size = w.heap.size + 1 := by rw [hw2, HS1.out]
  have HB2 : Hid (Bx w2 w.heap.size 145 #[.int .i64 0, .slice none 0 0]) := Hid.mk' (HB1.out.edit (S := (· = c)) (by rw [hw2]; exact Edit.refl _ _) (show ¬ (w.heap.size = c) by omega))
  have HC2 : Hid (QIs w2 q c 247 cap #[] true) := Hid.mk' ⟨HQ.out.cells.edit HE2.out HQ.out.ne, s, r, by rw [hw2]; exact hc1⟩
  clear hw2 hq10 hc1 HE1 HQ1 HQ HB1 HS1
  refine LoneTo.goes (n := 4) ?_
  s_op
  s_op
  s_op
  s_op
  s_stop
  obtain ⟨w3, hw3⟩ : ∃ w3 : World, w3 = w2.alloc (.cells #[.int .i64 0, .slice none 0 0] 145) := ⟨_, rfl⟩
  rw [← hw3]
  have HE3 : Hid (Edit (· = c) w w3) := Hid.mk' (HE2.out.trans (by rw [hw3]; exact Edit.of ((Below.refl _ w2).alloc (Nat.le_refl _) _)))
  have hsz3 : w3.heap.size = w.heap.size + 2 := by rw [hw3, World.size_alloc, hsz2]
  have HB3 : Hid (Bx w3 w.heap.size 145 #[.int .i64 0, .slice none 0 0]) := Hid.mk' (by rw [hw3]; exact HB2.out.alloc _)
  have HN3 : Hid (Bx w3 (w.heap.size + 1) 145 #[.int .i64 0, .slice none 0 0]) := Hid.mk' (by rw [hw3]; rw [← hsz2]; exact Bx.new _ _ _)
  have HC3 : Hid (QIs w3 q c 247 cap #[] true) := Hid.mk' (by rw [hw3]; exact HC2.out.edit (S := fun _ => False) (Edit.of ((Below.refl _ w2).alloc (Nat.le_refl _) _)) id id)
  clear hw3 HE2 HB2 HC2 hsz2
  refine LoneTo.goes (n := 8) ?_
  s_in
  refine goes_oper_k rfl rfl (by decide) (fun K hK => ?_)
  refine uponK_storeRow _ _ 145 rfl (w.heap.size + 1) 145 _ #[.int .i64 0, .slice none 0 0] rfl rfl HN3.out (by kernel_rfl) rfl (by rfl) (hK _ _ ⟨trivial, ?_⟩)
  clear hK K
  obtain ⟨w4, hw4⟩ : ∃ w4 : World, w4 = w3.setRow (w.heap.size + 1) #[.int .i64 0, .slice none 0 0] := ⟨_, rfl⟩
  have HN4 : Hid (Bx w4 (w.heap.size + 1) 145 #[.int .i64 0, .slice none 0 0]) := Hid.mk' (by rw [hw4]; exact HN3.out.row _)
  have HB4 : Hid (Bx w4 w.heap.size 145 #[.int .i64 0, .slice none 0 0]) := Hid.mk' (by rw [hw4]; exact HB3.out.other (by omega) _)
  have HE4 : Hid (Edit (· = c) w w4) := Hid.mk' (by rw [hw4]; exact HE3.out.row (by omega) _)
  have HC4 : Hid (QIs w4 q c 247 cap #[] true) := Hid.mk' (by rw [hw4]; exact HC3.out.row hltq ⟨hlt, by omega⟩ _)
  rw [← hw4]
  clear hw4 HN3 HB3 HE3 HC3
  walk_nrm
  s_op
  s_c stepG_region_end
  s_c stepG_seq
  s_reg
  s_in
  refine goes_oper_k rfl rfl (by decide) (fun K hK => ?_)
  refine uponK_loadRow _ 145 rfl (w.heap.size + 1) 145 _ (0, 0) _ rfl HN4.out Tryz.underlying145 rfl (by kernel_rfl) (hK _ _ ⟨trivial, ?_⟩)
  clear hK K
  walk_nrm
  s_op
  s_in
  refine goes_oper_k rfl rfl (by decide) (fun K hK => ?_)
  refine uponK_storeRow _ _ 145 rfl w.heap.size 145 _ #[.int .i64 0, .slice none 0 0] rfl rfl HB4.out (by kernel_rfl) rfl (by rfl) (hK _ _ ⟨trivial, ?_⟩)
  clear hK K
  walk_nrm
  s_stop
  obtain ⟨w5, hw5⟩ : ∃ w5 : World, w5 = w4.setRow w.heap.size #[.int .i64 0, .slice none 0 0] := ⟨_, rfl⟩
  have HB5 : Hid (Bx w5 w.heap.size 145 #[.int .i64 0, .slice none 0 0]) := Hid.mk' (by rw [hw5]; exact HB4.out.row _)
  have HE5 : Hid (Edit (· = c) w w5) := Hid.mk' (by rw [hw5]; exact HE4.out.row (by omega) _)
  have HC5 : Hid (QIs w5 q c 247 cap #[] true) := Hid.mk' (by rw [hw5]; exact HC4.out.row hltq ⟨hlt, by omega⟩ _)
  rw [← hw5]
  clear hw5 HB4 HN4 HE4 HC4
  refine LoneTo.goes (n := 3) ?_
  s_op
  s_c stepG_region_end
  s_c stepG_ret'
  s_stop
  refine LoneTo.done ⟨.returned (.tuple #[.agg #[.int .i64 0, .slice none 0 0], .bool false]), _, rfl, ⟨rfl, HC5.out, HE5.out⟩, rfl, rfl, rfl, rfl, _, Tryz.func385, ?_⟩
  have hl := run_loadVar_row (P := Tryz.prog) w5 w.heap.size 145 145 #[.int .i64 0, .slice none 0 0] (0, 0) _ HB5.out Tryz.underlying145 rfl (by kernel_rfl)
  simp [results, Tryz.f385, Frame.at, asAddr, hl, Result.andThen]
set_option maxRecDepth 100000 in
theorem shut_packed (q c cap : Nat) (w : World) (hq : QIs w q c 250 cap #[] true) :
    Calls Tryz.prog 394 #[.pointer (some ⟨q, 0, none⟩)] w fun e w' => e = .returned (.tuple #[.agg #[.int .i64 0, .string ⟨#[]⟩], .bool false]) ∧ QIs w' q c 250 cap #[] true ∧ Edit (· = c) w w' := by
  refine calls_of_loneTo fun cs => ?_
  have e : Frame.enter Tryz.prog 394 #[.pointer (some ⟨q, 0, none⟩)] .normal = (base 394).at ⟨#[.pointer (some ⟨q, 0, none⟩), undef, undef, undef, undef, undef, undef, undef, undef, undef, undef, undef, undef, undef, undef, undef], []⟩ [.code (Tryz.f394.body.getD .skip)] := by
    simp [Frame.enter, Frame.at, Tryz.func394, base, Tryz.f394]
  rw [e]
  clear e
  obtain ⟨s, r, hc⟩ := hq.chan
  have hlt := (Array.getElem?_eq_some_iff.1 hc).1
  have hltq := hq.cells.lt
  obtain ⟨w1, hw1⟩ : ∃ w1 : World, w1 = w.alloc (.cells #[.int .i64 0, .string ⟨#[]⟩] 149) := ⟨_, rfl⟩
  have he1 : Edit (· = c) w w1 := by
    subst hw1
    exact Edit.of ((Below.refl _ w).alloc (Nat.le_refl _) _)
  have hq1 : Bx w1 q 250 #[.chan (some c), .bool true] := hq.cells.edit he1 hq.ne
  have hq10 := hq1.cell 0
  have hc1 : w1.heap[c]? = some (.chan cap #[] true s r false) := by subst hw1; simpa [blk_alloc_lt _ _ _ hlt] using hc
  simp at hq10
  refine LoneTo.goes (n := 11) ?_
  simp only [Tryz.f394, Option.getD_some]
  s_c stepG_seq
  s_reg
  s_op
  s_op
  s_c stepG_region_end
  s_c stepG_seq
  s_reg
  rw [← hw1]
  have HE1 := Hid.mk' he1
  have HQ1 := Hid.mk' hq1
  have HQ := Hid.mk' hq
  have HB1 : Hid (Bx w1 w.heap.size 149 #[.int .i64 0, .string ⟨#[]⟩]) := by rw [hw1]; exact Bx.new _ _ _
  have HS1 : Hid (w1.heap.size = w.heap.size + 1) := Hid.mk' (by rw [hw1]; simp)
  clear hq hq1 he1 hw1 hc
  s_op
  s_op
  s_op
  s_op
  s_stop
  refine LoneTo.step (step_lone_recv_shut true (c := c) (z := .agg #[.int .i64 0, .string ⟨#[]⟩]) (stepG_comm (cases := #[rcase c (.agg #[.int .i64 0, .string ⟨#[]⟩])]) (blocking := true) (shape := .recv true) (w' := w1) rfl rfl (by decide) (by simp [go_sem, rcase])) hc1) ?_
  rw [Frame.finish_at]
  simp only [got, if_true]
  walk_nrm
  obtain ⟨w2, hw2⟩ : ∃ w2 : World, w2 = w1 := ⟨_, rfl⟩
  rw [← hw2]
  have HE2 : Hid (Edit (· = c) w w2) := Hid.mk' (HE1.out.trans (by rw [hw2]; exact Edit.refl _ _))
  have hsz2 : w2.heap.size = w.heap.size + 1 := by rw [hw2, HS1.out]
  have HB2 : Hid (Bx w2 w.heap.size 149 #[.int .i64 0, .string ⟨#[]⟩]) := Hid.mk' (HB1.out.edit (S := (· = c)) (by rw [hw2]; exact Edit.refl _ _) (show ¬ (w.heap.size = c) by omega))
  have HC2 : Hid (QIs w2 q c 250 cap #[] true) := Hid.mk' ⟨HQ.out.cells.edit HE2.out HQ.out.ne, s, r, by rw [hw2]; exact hc1⟩
  clear hw2 hq10 hc1 HE1 HQ1 HQ HB1 HS1
  refine LoneTo.goes (n := 4) ?_
  s_op
  s_op
  s_op
  s_op
  s_stop
  obtain ⟨w3, hw3⟩ : ∃ w3 : World, w3 = w2.alloc (.cells #[.int .i64 0, .string ⟨#[]⟩] 149) := ⟨_, rfl⟩
  rw [← hw3]
  have HE3 : Hid (Edit (· = c) w w3) := Hid.mk' (HE2.out.trans (by rw [hw3]; exact Edit.of ((Below.refl _ w2).alloc (Nat.le_refl _) _)))
  have hsz3 : w3.heap.size = w.heap.size + 2 := by rw [hw3, World.size_alloc, hsz2]
  have HB3 : Hid (Bx w3 w.heap.size 149 #[.int .i64 0, .string ⟨#[]⟩]) := Hid.mk' (by rw [hw3]; exact HB2.out.alloc _)
  have HN3 : Hid (Bx w3 (w.heap.size + 1) 149 #[.int .i64 0, .string ⟨#[]⟩]) := Hid.mk' (by rw [hw3]; rw [← hsz2]; exact Bx.new _ _ _)
  have HC3 : Hid (QIs w3 q c 250 cap #[] true) := Hid.mk' (by rw [hw3]; exact HC2.out.edit (S := fun _ => False) (Edit.of ((Below.refl _ w2).alloc (Nat.le_refl _) _)) id id)
  clear hw3 HE2 HB2 HC2 hsz2
  refine LoneTo.goes (n := 8) ?_
  s_in
  refine goes_oper_k rfl rfl (by decide) (fun K hK => ?_)
  refine uponK_storeRow _ _ 149 rfl (w.heap.size + 1) 149 _ #[.int .i64 0, .string ⟨#[]⟩] rfl rfl HN3.out (by kernel_rfl) rfl (by rfl) (hK _ _ ⟨trivial, ?_⟩)
  clear hK K
  obtain ⟨w4, hw4⟩ : ∃ w4 : World, w4 = w3.setRow (w.heap.size + 1) #[.int .i64 0, .string ⟨#[]⟩] := ⟨_, rfl⟩
  have HN4 : Hid (Bx w4 (w.heap.size + 1) 149 #[.int .i64 0, .string ⟨#[]⟩]) := Hid.mk' (by rw [hw4]; exact HN3.out.row _)
  have HB4 : Hid (Bx w4 w.heap.size 149 #[.int .i64 0, .string ⟨#[]⟩]) := Hid.mk' (by rw [hw4]; exact HB3.out.other (by omega) _)
  have HE4 : Hid (Edit (· = c) w w4) := Hid.mk' (by rw [hw4]; exact HE3.out.row (by omega) _)
  have HC4 : Hid (QIs w4 q c 250 cap #[] true) := Hid.mk' (by rw [hw4]; exact HC3.out.row hltq ⟨hlt, by omega⟩ _)
  rw [← hw4]
  clear hw4 HN3 HB3 HE3 HC3
  walk_nrm
  s_op
  s_c stepG_region_end
  s_c stepG_seq
  s_reg
  s_in
  refine goes_oper_k rfl rfl (by decide) (fun K hK => ?_)
  refine uponK_loadRow _ 149 rfl (w.heap.size + 1) 149 _ (0, 0) _ rfl HN4.out Tryz.underlying149 rfl (by kernel_rfl) (hK _ _ ⟨trivial, ?_⟩)
  clear hK K
  walk_nrm
  s_op
  s_in
  refine goes_oper_k rfl rfl (by decide) (fun K hK => ?_)
  refine uponK_storeRow _ _ 149 rfl w.heap.size 149 _ #[.int .i64 0, .string ⟨#[]⟩] rfl rfl HB4.out (by kernel_rfl) rfl (by rfl) (hK _ _ ⟨trivial, ?_⟩)
  clear hK K
  walk_nrm
  s_stop
  obtain ⟨w5, hw5⟩ : ∃ w5 : World, w5 = w4.setRow w.heap.size #[.int .i64 0, .string ⟨#[]⟩] := ⟨_, rfl⟩
  have HB5 : Hid (Bx w5 w.heap.size 149 #[.int .i64 0, .string ⟨#[]⟩]) := Hid.mk' (by rw [hw5]; exact HB4.out.row _)
  have HE5 : Hid (Edit (· = c) w w5) := Hid.mk' (by rw [hw5]; exact HE4.out.row (by omega) _)
  have HC5 : Hid (QIs w5 q c 250 cap #[] true) := Hid.mk' (by rw [hw5]; exact HC4.out.row hltq ⟨hlt, by omega⟩ _)
  rw [← hw5]
  clear hw5 HB4 HN4 HE4 HC4
  refine LoneTo.goes (n := 3) ?_
  s_op
  s_c stepG_region_end
  s_c stepG_ret'
  s_stop
  refine LoneTo.done ⟨.returned (.tuple #[.agg #[.int .i64 0, .string ⟨#[]⟩], .bool false]), _, rfl, ⟨rfl, HC5.out, HE5.out⟩, rfl, rfl, rfl, rfl, _, Tryz.func394, ?_⟩
  have hl := run_loadVar_row (P := Tryz.prog) w5 w.heap.size 149 149 #[.int .i64 0, .string ⟨#[]⟩] (0, 0) _ HB5.out Tryz.underlying149 rfl (by kernel_rfl)
  simp [results, Tryz.f394, Frame.at, asAddr, hl, Result.andThen]
theorem len_chan (w : World) (c cap : Nat) (buf : Array Value) (cl : Bool) (s r : Nat) (h : w.heap[c]? = some (.chan cap buf cl s r false)) (t : TypeId) (d : TypeDesc) (ty : TypeId) (hu : Tryz.prog.underlying t = some d) (hd : (match d with | .chan _ _ => true | _ => false) = true) :
    (Builtin.len_ #[t] ty #[.chan (some c)]).run Tryz.prog w = .ok (.int .i64 buf.size) w := by
  cases d <;> simp at hd
  simp [Builtin.len_, underlying, hu, goInt, getObj, Sem.run, h, Result.andThen]
theorem cap_chan (w : World) (c cap : Nat) (buf : Array Value) (cl : Bool) (s r : Nat) (h : w.heap[c]? = some (.chan cap buf cl s r false)) (t : TypeId) (d : TypeDesc) (ty : TypeId) (hu : Tryz.prog.underlying t = some d) (hd : (match d with | .chan _ _ => true | _ => false) = true) :
    (Builtin.cap_ #[t] ty #[.chan (some c)]).run Tryz.prog w = .ok (.int .i64 cap) w := by
  cases d <;> simp at hd
  simp [Builtin.cap_, underlying, hu, goInt, getObj, Sem.run, h, Result.andThen]
theorem count_block (q c cap : Nat) (buf : Array Value) (cl : Bool) (w : World) (hq : QIs w q c 247 cap buf cl) :
    Calls Tryz.prog 108 #[.pointer (some ⟨q, 0, none⟩)] w fun e w' => e = .returned (.int .i64 buf.size) ∧ w' = w := by
  obtain ⟨s, r, hc⟩ := hq.chan
  have x0 := hq.cells.cell 0
  simp at x0
  have hln : ∀ ty, (Builtin.len_ #[245] ty #[.chan (some c)]).run Tryz.prog w = .ok (.int .i64 buf.size) w := fun ty => len_chan w c cap buf cl s r hc 245 _ ty Tryz.underlying245 rfl
  clear hq hc
  go_enter Tryz.func108, Tryz.ntmps108
  go_wp2
  go_ret
  exact ⟨rfl, rfl⟩
theorem full_block (q c cap : Nat) (buf : Array Value) (cl : Bool) (w : World) (hq : QIs w q c 247 cap buf cl) :
    Calls Tryz.prog 378 #[.pointer (some ⟨q, 0, none⟩)] w fun e w' => e = .returned (.bool (decide (buf.size = cap))) ∧ ∃ m, w' = w.drewN m := by
  obtain ⟨s, r, hc⟩ := hq.chan
  have x0 := hq.cells.cell 0
  simp at x0
  have hln : ∀ (u : World) ty, u.heap[c]? = some (.chan cap buf cl s r false) → (Builtin.len_ #[245] ty #[.chan (some c)]).run Tryz.prog u = .ok (.int .i64 buf.size) u := fun u ty h => len_chan u c cap buf cl s r h 245 _ ty Tryz.underlying245 rfl
  have hcp : ∀ (u : World) ty, u.heap[c]? = some (.chan cap buf cl s r false) → (Builtin.cap_ #[245] ty #[.chan (some c)]).run Tryz.prog u = .ok (.int .i64 cap) u := fun u ty h => cap_chan u c cap buf cl s r h 245 _ ty Tryz.underlying245 rfl
  clear hq
  go_enter Tryz.func378, Tryz.ntmps378
  go_wp2
  go_quiet (fail)
  go_wp2
  go_ret
  refine ⟨?_, nq, rfl⟩
  by_cases h : buf.size = cap
  · simp [h]
  · have h2 : ¬ ((buf.size : Int) = (cap : Int)) := by omega
    simp [h, h2]
theorem answers_block (q c cap : Nat) (buf : Array Value) (cl : Bool) (w : World) (hq : QIs w q c 247 cap buf cl) :
    Calls Tryz.prog 384 #[.pointer (some ⟨q, 0, none⟩)] w fun e w' => e = .returned (.bool (decide (0 < buf.size) || cl)) ∧ w' = w := by
  obtain ⟨s, r, hc⟩ := hq.chan
  have x0 := hq.cells.cell 0
  have x1 := hq.cells.cell 1
  simp at x0 x1
  have hln : ∀ ty, (Builtin.len_ #[245] ty #[.chan (some c)]).run Tryz.prog w = .ok (.int .i64 buf.size) w := fun ty => len_chan w c cap buf cl s r hc 245 _ ty Tryz.underlying245 rfl
  clear hq hc
  by_cases h : 0 < buf.size
  · have h1 : decide ((0 : Int) < (buf.size : Int)) = true := decide_eq_true (by omega)
    go_enter Tryz.func384, Tryz.ntmps384
    go_wp2
    go_ret
    exact ⟨by simp [h], rfl⟩
  · have h1 : decide ((0 : Int) < (buf.size : Int)) = false := decide_eq_false (by omega)
    go_enter Tryz.func384, Tryz.ntmps384
    go_wp2
    go_ret
    exact ⟨by simp [h], rfl⟩
theorem close_block (q c cap : Nat) (buf : Array Value) (w : World) (hq : QIs w q c 247 cap buf false) :
    Calls Tryz.prog 371 #[.pointer (some ⟨q, 0, none⟩)] w fun e w' => e = .returned (.tuple #[]) ∧ QIs w' q c 247 cap buf true ∧ Edit (fun k => k = q ∨ k = c) w w' := by
  obtain ⟨s, r, hc⟩ := hq.chan
  have x0 := hq.cells.cell 0
  have x1 := hq.cells.cell 1
  simp at x0 x1
  have hf := hq.cells.free 1
  have y0 := (hq.cells.set 1 (.bool true)).cell 0
  simp at y0
  have hne := hq.ne
  have hc1 : (w.setCell ⟨q, 1, none⟩ (.bool true)).heap[c]? = some (.chan cap buf false s r false) := (blk_setCell_other _ _ _ _ (Ne.symm hne)).trans hc
  have hcl : ∀ ty, (Builtin.close_ #[245] ty #[.chan (some c)]).run Tryz.prog (w.setCell ⟨q, 1, none⟩ (.bool true)) = .ok (.tuple #[]) ((w.setCell ⟨q, 1, none⟩ (.bool true)).setChan c cap buf true s r false) := fun ty => by rw [run_close_open _ ty hc1]; rfl
  have HR : Hid (QIs ((w.setCell ⟨q, 1, none⟩ (.bool true)).setChan c cap buf true s r false) q c 247 cap buf true ∧ Edit (fun k => k = q ∨ k = c) w ((w.setCell ⟨q, 1, none⟩ (.bool true)).setChan c cap buf true s r false)) :=
    Hid.mk' ⟨⟨(hq.cells.set 1 (.bool true)).edit (Edit.chan _ _ _ _ _ _ _ _) hne, s, r, heap_setChan _ _ _ _ _ _ _ _ (Array.getElem?_eq_some_iff.1 hc1).1⟩, ((Edit.refl _ w).cell (Or.inl (Or.inl rfl)) 1 _).trans ((Edit.chan _ _ _ _ _ _ _ _).mono fun k hk => Or.inr hk)⟩
  clear hq hc hc1 hne
  go_enter Tryz.func371, Tryz.ntmps371
  go_wp2
  go_end0
  exact ⟨rfl, HR.out⟩
theorem newQueue_block (room : Nat) (hr : room ≤ 300) (w : World) :
    Calls Tryz.prog 100 #[.int .i64 room] w fun e w' => e = .returned (.pointer (some ⟨w.heap.size + 1, 0, none⟩)) ∧ QIs w' (w.heap.size + 1) w.heap.size 247 room #[] false ∧ Below w.heap.size w w' ∧ w'.heap.size = w.heap.size + 2 := by
  have hmk : (Instr.makeChan 245 (.int .i64 room)).run Tryz.prog w = .ok (.chan (some w.heap.size)) (w.alloc (.chan room #[] false 0 0 false)) := by
    have h : (Tryz.prog.info? 145).map (fun i => decide (i.bytes ≤ 32)) = some true := by kernel_rfl
    obtain ⟨i, hi, hb⟩ := Option.map_eq_some_iff.1 h
    have hb' : i.bytes ≤ 32 := of_decide_eq_true hb
    refine run_makeChan (P := Tryz.prog) (w := w) Tryz.underlying245 hi .i64 room (by omega) ?_
    have h1 : (i.bytes : Int) * room ≤ 32 * 300 := Int.mul_le_mul (by omega) (by omega) (by omega) (by omega)
    omega
  go_enter Tryz.func100, Tryz.ntmps100
  go_wp2
  go_ret
  refine ⟨by simp, ⟨?_, 0, 0, ?_⟩, ((Below.refl _ w).alloc (Nat.le_refl _) _).alloc (by simp) _, by simp⟩
  · have := Bx.new (w.alloc (.chan room #[] false 0 0 false)) #[.chan (some w.heap.size), .bool false] 247
    simpa using this
  · rw [blk_alloc_lt _ _ _ (by simp)]
    exact blk_alloc_new _ _
theorem count_packed (q c cap : Nat) (buf : Array Value) (cl : Bool) (w : World) (hq : QIs w q c 250 cap buf cl) :
    Calls Tryz.prog 109 #[.pointer (some ⟨q, 0, none⟩)] w fun e w' => e = .returned (.int .i64 buf.size) ∧ w' = w := by
  obtain ⟨s, r, hc⟩ := hq.chan
  have x0 := hq.cells.cell 0
  simp at x0
  have hln : ∀ ty, (Builtin.len_ #[248] ty #[.chan (some c)]).run Tryz.prog w = .ok (.int .i64 buf.size) w := fun ty => len_chan w c cap buf cl s r hc 248 _ ty Tryz.underlying248 rfl
  clear hq hc
  go_enter Tryz.func109, Tryz.ntmps109
  go_wp2
  go_ret
  exact ⟨rfl, rfl⟩
theorem full_packed (q c cap : Nat) (buf : Array Value) (cl : Bool) (w : World) (hq : QIs w q c 250 cap buf cl) :
    Calls Tryz.prog 413 #[.pointer (some ⟨q, 0, none⟩)] w fun e w' => e = .returned (.bool (decide (buf.size = cap))) ∧ ∃ m, w' = w.drewN m := by
  obtain ⟨s, r, hc⟩ := hq.chan
  have x0 := hq.cells.cell 0
  simp at x0
  have hln : ∀ (u : World) ty, u.heap[c]? = some (.chan cap buf cl s r false) → (Builtin.len_ #[248] ty #[.chan (some c)]).run Tryz.prog u = .ok (.int .i64 buf.size) u := fun u ty h => len_chan u c cap buf cl s r h 248 _ ty Tryz.underlying248 rfl
  have hcp : ∀ (u : World) ty, u.heap[c]? = some (.chan cap buf cl s r false) → (Builtin.cap_ #[248] ty #[.chan (some c)]).run Tryz.prog u = .ok (.int .i64 cap) u := fun u ty h => cap_chan u c cap buf cl s r h 248 _ ty Tryz.underlying248 rfl
  clear hq
  go_enter Tryz.func413, Tryz.ntmps413
  go_wp2
  go_quiet (fail)
  go_wp2
  go_ret
  refine ⟨?_, nq, rfl⟩
  by_cases h : buf.size = cap
  · simp [h]
  · have h2 : ¬ ((buf.size : Int) = (cap : Int)) := by omega
    simp [h, h2]
theorem answers_packed (q c cap : Nat) (buf : Array Value) (cl : Bool) (w : World) (hq : QIs w q c 250 cap buf cl) :
    Calls Tryz.prog 389 #[.pointer (some ⟨q, 0, none⟩)] w fun e w' => e = .returned (.bool (decide (0 < buf.size) || cl)) ∧ w' = w := by
  obtain ⟨s, r, hc⟩ := hq.chan
  have x0 := hq.cells.cell 0
  have x1 := hq.cells.cell 1
  simp at x0 x1
  have hln : ∀ ty, (Builtin.len_ #[248] ty #[.chan (some c)]).run Tryz.prog w = .ok (.int .i64 buf.size) w := fun ty => len_chan w c cap buf cl s r hc 248 _ ty Tryz.underlying248 rfl
  clear hq hc
  by_cases h : 0 < buf.size
  · have h1 : decide ((0 : Int) < (buf.size : Int)) = true := decide_eq_true (by omega)
    go_enter Tryz.func389, Tryz.ntmps389
    go_wp2
    go_ret
    exact ⟨by simp [h], rfl⟩
  · have h1 : decide ((0 : Int) < (buf.size : Int)) = false := decide_eq_false (by omega)
    go_enter Tryz.func389, Tryz.ntmps389
    go_wp2
    go_ret
    exact ⟨by simp [h], rfl⟩
theorem close_packed (q c cap : Nat) (buf : Array Value) (w : World) (hq : QIs w q c 250 cap buf false) :
    Calls Tryz.prog 372 #[.pointer (some ⟨q, 0, none⟩)] w fun e w' => e = .returned (.tuple #[]) ∧ QIs w' q c 250 cap buf true ∧ Edit (fun k => k = q ∨ k = c) w w' := by
  obtain ⟨s, r, hc⟩ := hq.chan
  have x0 := hq.cells.cell 0
  have x1 := hq.cells.cell 1
  simp at x0 x1
  have hf := hq.cells.free 1
  have y0 := (hq.cells.set 1 (.bool true)).cell 0
  simp at y0
  have hne := hq.ne
  have hc1 : (w.setCell ⟨q, 1, none⟩ (.bool true)).heap[c]? = some (.chan cap buf false s r false) := (blk_setCell_other _ _ _ _ (Ne.symm hne)).trans hc
  have hcl : ∀ ty, (Builtin.close_ #[248] ty #[.chan (some c)]).run Tryz.prog (w.setCell ⟨q, 1, none⟩ (.bool true)) = .ok (.tuple #[]) ((w.setCell ⟨q, 1, none⟩ (.bool true)).setChan c cap buf true s r false) := fun ty => by rw [run_close_open _ ty hc1]; rfl
  have HR : Hid (QIs ((w.setCell ⟨q, 1, none⟩ (.bool true)).setChan c cap buf true s r false) q c 250 cap buf true ∧ Edit (fun k => k = q ∨ k = c) w ((w.setCell ⟨q, 1, none⟩ (.bool true)).setChan c cap buf true s r false)) :=
    Hid.mk' ⟨⟨(hq.cells.set 1 (.bool true)).edit (Edit.chan _ _ _ _ _ _ _ _) hne, s, r, heap_setChan _ _ _ _ _ _ _ _ (Array.getElem?_eq_some_iff.1 hc1).1⟩, ((Edit.refl _ w).cell (Or.inl (Or.inl rfl)) 1 _).trans ((Edit.chan _ _ _ _ _ _ _ _).mono fun k hk => Or.inr hk)⟩
  clear hq hc hc1 hne
  go_enter Tryz.func372, Tryz.ntmps372
  go_wp2
  go_end0
  exact ⟨rfl, HR.out⟩
theorem newQueue_packed (room : Nat) (hr : room ≤ 300) (w : World) :
    Calls Tryz.prog 101 #[.int .i64 room] w fun e w' => e = .returned (.pointer (some ⟨w.heap.size + 1, 0, none⟩)) ∧ QIs w' (w.heap.size + 1) w.heap.size 250 room #[] false ∧ Below w.heap.size w w' ∧ w'.heap.size = w.heap.size + 2 := by
  have hmk : (Instr.makeChan 248 (.int .i64 room)).run Tryz.prog w = .ok (.chan (some w.heap.size)) (w.alloc (.chan room #[] false 0 0 false)) := by
    have h : (Tryz.prog.info? 149).map (fun i => decide (i.bytes ≤ 32)) = some true := by kernel_rfl
    obtain ⟨i, hi, hb⟩ := Option.map_eq_some_iff.1 h
    have hb' : i.bytes ≤ 32 := of_decide_eq_true hb
    refine run_makeChan (P := Tryz.prog) (w := w) Tryz.underlying248 hi .i64 room (by omega) ?_
    have h1 : (i.bytes : Int) * room ≤ 32 * 300 := Int.mul_le_mul (by omega) (by omega) (by omega) (by omega)
    omega
  go_enter Tryz.func101, Tryz.ntmps101
  go_wp2
  go_ret
  refine ⟨by simp, ⟨?_, 0, 0, ?_⟩, ((Below.refl _ w).alloc (Nat.le_refl _) _).alloc (by simp) _, by simp⟩
  · have := Bx.new (w.alloc (.chan room #[] false 0 0 false)) #[.chan (some w.heap.size), .bool false] 250
    simpa using this
  · rw [blk_alloc_lt _ _ _ (by simp)]
    exact blk_alloc_new _ _
end Go.Proofs.YtlncjgnomhpjnabGreatDoor

