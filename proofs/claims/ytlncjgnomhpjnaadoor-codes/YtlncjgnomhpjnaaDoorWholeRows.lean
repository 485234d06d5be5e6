/-
  A whole variable out of its block, and into it, in one step of a walk.
-/
import Derived.Test.YtlncjgnomhpjnaaDoorBase
import Derived.Laws.Rows
import Derived.Laws.Tables
import Derived.Laws.AppendOwn
namespace Go.Proofs.YtlncjgnomhpjnaaDoor
open Go.RowKit

theorem wpList_loadRow {P : Program} {w : World} {ops : Array Oper} {rest : List Oper} {o : Oper} {a : Act} {Q : Exit → Act → World → Prop} (hgd : o.guard = none) (p : Operand) (t : TypeId) (ho : o.op = .load t p)
    (g : Nat) (tt : TypeId) (cs : Array Value) (fr : Nat × Nat) (d : TypeDesc) (hp : a.eval p = .pointer (some ⟨g, 0, none⟩)) (hg : w.heap[g]? = some (.cells cs tt fr)) (hu : P.underlying t = some d)
    (hd : (match d with | .struct _ | .array _ _ => true | _ => false) = true) (hi : (P.info? t).map (·.size) = some cs.size) (h : wpList P ops Q rest (a.put o.dst (.agg cs)) w) : wpList P ops Q (o :: rest) a w := by
  have hr := run_loadVar_row (P := P) w g tt t cs fr d hg hu hd hi
  refine wpList_plain hgd fun _ hK => ?_
  unfold Oper.wp execOp
  have e : (Instr.loadAt t (.pointer (some ⟨g, 0, none⟩))).run P w = .ok (.agg cs) w := by simpa [Instr.loadAt, Instr.sureAddr, asAddr] using hr
  simp only [ho, hp, Sem.run_bind, e, Result.andThen, Sem.run_pure]
  rw [Oper.upon_value]
  exact hK _ _ h
theorem wpList_storeRow {P : Program} {w : World} {ops : Array Oper} {rest : List Oper} {o : Oper} {a : Act} {Q : Exit → Act → World → Prop} (hgd : o.guard = none) (p v : Operand) (t : TypeId) (ho : o.op = .store t p v)
    (g : Nat) (tt : TypeId) (old cells : Array Value) (hp : a.eval p = .pointer (some ⟨g, 0, none⟩)) (hv : a.eval v = .agg cells) (hg : w.heap[g]? = some (.cells old tt (0, 0))) (hi : (P.info? t).map (·.size) = some cells.size)
    (hs : old.size = cells.size) (h1 : cells.toList.all (·.oneCell') = true) (h : wpList P ops Q rest (a.put o.dst undef) (w.setRow g cells)) : wpList P ops Q (o :: rest) a w := by
  have hr := run_storeVar_row (P := P) w g tt t old cells hg hi hs (by rw [← Array.all_toList]; exact h1)
  refine wpList_plain hgd fun _ hK => ?_
  unfold Oper.wp execOp
  have e : (Instr.storeAt t (.pointer (some ⟨g, 0, none⟩)) (.agg cells)).run P w = .ok () (w.setRow g cells) := by simpa [Instr.storeAt, Instr.sureAddr, asAddr] using hr
  simp only [ho, hp, hv, Sem.run_bind, e, Result.andThen, Sem.run_pure]
  rw [Oper.upon_skip]
  exact hK _ _ h
end Go.Proofs.YtlncjgnomhpjnaaDoor
