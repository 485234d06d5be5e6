import Derived.Test.YtlncjgnomhpjnabGreatDoorQL16
import Derived.Test.YtlncjgnomhpjnabGreatDoorQL36
import Derived.Test.YtlncjgnomhpjnabGreatDoorQL41
namespace Go.Proofs.YtlncjgnomhpjnabGreatDoor
open Go.RowKit Go.Deep
set_option linter.unusedVariables false
theorem z1q {P:Program} {w:World} {o:Oper} {a:Act} (p:Operand) (t:TypeId) (ho:o.op=.load t p) (g:Nat) (tt:TypeId) (cs:Array Value) (fr:Nat × Nat) (d:TypeDesc) (hp:a.eval p=.pointer (some ⟨g,0,none⟩)) (hg:w.heap[g]?=some (.cells cs tt fr)) (hu:P.underlying t=some d)
 (hd:(match d with | .struct _ | .array _ _=>true | _=>false)=true) (hi:(P.info? t).map (·.size)=some cs.size):(execOp a.eval o).run P w=.ok (.value (.agg cs)) w:=by
 have hr:=run_loadVar_row (P:=P) w g tt t cs fr d hg hu hd hi;have e:(Instr.loadAt t (.pointer (some ⟨g,0,none⟩))).run P w=.ok (.agg cs) w:=by simpa [Instr.loadAt,Instr.sureAddr,asAddr] using hr
 unfold execOp;simp only [ho,hp,Sem.run_bind,e,Result.andThen,Sem.run_pure]
end Go.Proofs.YtlncjgnomhpjnabGreatDoor
