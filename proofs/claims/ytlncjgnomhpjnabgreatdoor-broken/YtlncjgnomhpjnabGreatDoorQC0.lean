import Derived.Deep.RegionHeld3
import Derived.KernelRfl
import Derived.WalkKit
import Derived.Below
namespace Go.Proofs.YtlncjgnomhpjnabGreatDoor
open Go Go.RowKit
theorem zZ {p : Prop} (h : p) : Hid p := h
theorem zY {n : Nat} : n ≤ n := Nat.le_refl n
theorem zX {B : Nat} {w : World} : Below B w w := Below.refl B w
theorem q1 : type_of% @List.getElem_toArray := @List.getElem_toArray
theorem q2 : type_of% @List.getElem_cons_succ := @List.getElem_cons_succ
theorem q3 : type_of% @List.getElem_cons_zero := @List.getElem_cons_zero
theorem q4 : type_of% @List.setIfInBounds_toArray := @List.setIfInBounds_toArray
theorem q5 : type_of% @List.set_cons_zero := @List.set_cons_zero
theorem q6 : type_of% @List.set_cons_succ := @List.set_cons_succ
theorem tk {P : Program} {ops : Array Oper} {Q : Exit → Act → World → Prop} {md : Region.Mode} {S : World → Prop} {i : Nat} {oi : Oper} {v : Value} {fuel : Nat} {listed : Array Bool} {a : Act} {w : World} (hi : ops[i]? = some oi) (hQ : ∀ c a w, Q (.panic c) (a.put oi.dst v) w → Q (.panic c) a w) (hy : YieldsIf P ops S oi v a) (hS : S w) (h : wpAnyH P md ops Q S fuel (listed.setIfInBounds i true) (a.put oi.dst v) w) (hs : Region.noSelect ops = true := by kernel_rfl) (hf : Region.free md ops listed i = true := by kernel_rfl) (hr : (Region.ready md ops listed).contains i = true := by kernel_rfl) : wpAnyH P md ops Q S (fuel + 1) listed a w := wpAnyH_take hi hs hf hr hQ hy hS h
theorem tq {P : Program} {ops : Array Oper} {Q : Exit → Act → World → Prop} {md : Region.Mode} {S : World → Prop} {i : Nat} {oi : Oper} {v : Value} {fuel : Nat} {listed : Array Bool} {a : Act} {w : World} (hi : ops[i]? = some oi) (hw : Region.wanted oi (yielded ops a.tmps) = true) (hS : S w) (h : wpAnyH P md ops Q S fuel (listed.setIfInBounds i true) (a.put oi.dst v) w) (hrun : ∀ w, S w → (execOp a.eval oi).run P w = .ok (.value v) w := by (intro w hSw; (try dsimp only at hSw); go_simp; try with_reducible rfl)) (hQ : ∀ c a w, Q (.panic c) (a.put oi.dst v) w → Q (.panic c) a w := by (exact fun _ _ _ h => h)) (hs : Region.noSelect ops = true := by kernel_rfl) (hf : Region.free md ops listed i = true := by kernel_rfl) (hr : (Region.ready md ops listed).contains i = true := by kernel_rfl) : wpAnyH P md ops Q S (fuel + 1) listed a w := wpAnyH_take hi hs hf hr hQ (Or.inl ⟨hw, hrun⟩) hS h
end Go.Proofs.YtlncjgnomhpjnabGreatDoor
