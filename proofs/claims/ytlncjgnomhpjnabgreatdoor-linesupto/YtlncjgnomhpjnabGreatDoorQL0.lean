import Derived.Deep.RegionHeld3
import Derived.KernelRfl
import Derived.WalkKit
import Derived.Below
namespace Go.Proofs.YtlncjgnomhpjnabGreatDoor
open Go Go.RowKit
theorem zZ {p : Prop} (h : p) : Hid p := h
theorem zY {n : Nat} : n ≤ n := Nat.le_refl n
theorem zX {B : Nat} {w : World} : Below B w w := Below.refl B w
theorem zU {p : Prop} (h : p := by omega) : p := h
theorem zT {p : Prop} (h : p := by kernel_rfl) : p := h
theorem zS {p : Prop} (h : p := by go_num) : p := h
theorem zR {p : Prop} (h : p := by decide) : p := h
theorem zP : type_of% @Nat.lt_of_lt_of_le := @Nat.lt_of_lt_of_le
theorem zO : type_of% @Nat.le_trans := @Nat.le_trans
theorem zN : type_of% @List.length_append := @List.length_append
theorem zM : type_of% @decide_eq_false := @decide_eq_false
theorem zL : type_of% @decide_eq_true := @decide_eq_true
theorem zK : type_of% @IntKind.wrap_i64 := @IntKind.wrap_i64
theorem zJ : type_of% @Nat.zero_le := @Nat.zero_le
theorem zI : type_of% @List.append_assoc := @List.append_assoc
theorem zH : type_of% @Bool.eq_false_or_eq_true := @Bool.eq_false_or_eq_true
theorem zG : type_of% @Int.tmod_eq_emod_of_nonneg := @Int.tmod_eq_emod_of_nonneg
theorem zF : type_of% @Int.tdiv_eq_ediv_of_nonneg := @Int.tdiv_eq_ediv_of_nonneg
theorem zE : type_of% @Nat.pow_le_pow_right := @Nat.pow_le_pow_right
theorem zD : type_of% @Nat.mul_le_mul_right := @Nat.mul_le_mul_right
theorem q1 : type_of% @List.getElem_toArray := @List.getElem_toArray
theorem q2 : type_of% @List.getElem_cons_succ := @List.getElem_cons_succ
theorem q3 : type_of% @List.getElem_cons_zero := @List.getElem_cons_zero
theorem q4 : type_of% @List.setIfInBounds_toArray := @List.setIfInBounds_toArray
theorem q5 : type_of% @List.set_cons_zero := @List.set_cons_zero
theorem q6 : type_of% @List.set_cons_succ := @List.set_cons_succ
theorem tk {P : Program} {ops : Array Oper} {Q : Exit → Act → World → Prop} {md : Region.Mode} {S : World → Prop} {i : Nat} {oi : Oper} {v : Value} {fuel : Nat} {listed : Array Bool} {a : Act} {w : World} (hi : ops[i]? = some oi) (hQ : ∀ c a w, Q (.panic c) (a.put oi.dst v) w → Q (.panic c) a w) (hy : YieldsIf P ops S oi v a) (hS : S w) (h : wpAnyH P md ops Q S fuel (listed.setIfInBounds i true) (a.put oi.dst v) w) (hs : Region.noSelect ops = true := by kernel_rfl) (hf : Region.free md ops listed i = true := by kernel_rfl) (hr : (Region.ready md ops listed).contains i = true := by kernel_rfl) : wpAnyH P md ops Q S (fuel + 1) listed a w := wpAnyH_take hi hs hf hr hQ hy hS h
theorem tq {P : Program} {ops : Array Oper} {Q : Exit → Act → World → Prop} {md : Region.Mode} {S : World → Prop} {oi : Oper} {v : Value} {fuel : Nat} {listed L : Array Bool} {a b : Act} {w : World} (i : Nat) (h : wpAnyH P md ops Q S fuel L b w) (hi : ops[i]? = some oi := by exact rfl) (hw : Region.wanted oi (yielded ops a.tmps) = true := by rfl) (hS : S w := by assumption) (hrun : ∀ w, S w → (execOp a.eval oi).run P w = .ok (.value v) w := by (intro w hSw; (try dsimp only at hSw); go_simp; try with_reducible rfl)) (hL : listed.setIfInBounds i true = L := by ((try simp only [q4, q5, q6]) <;> exact rfl)) (ha : a.put oi.dst v = b := by ((try simp only [q1, q2, q3, Act.put, q4, q5, q6]) <;> exact rfl)) (hQ : ∀ c a w, Q (.panic c) (a.put oi.dst v) w → Q (.panic c) a w := by (exact fun _ _ _ h => h)) (hs : Region.noSelect ops = true := by kernel_rfl) (hf : Region.free md ops listed i = true := by kernel_rfl) (hr : (Region.ready md ops listed).contains i = true := by kernel_rfl) : wpAnyH P md ops Q S (fuel + 1) listed a w := wpAnyH_take hi hs hf hr hQ (Or.inl ⟨hw, hrun⟩) hS (by rw [hL, ha]; exact h)
theorem ts {P : Program} {ops : Array Oper} {Q : Exit → Act → World → Prop} {md : Region.Mode} {S : World → Prop} {oi : Oper} {fuel : Nat} {listed L : Array Bool} {a b : Act} {w : World} (i : Nat) (h : wpAnyH P md ops Q S fuel L b w) (hi : ops[i]? = some oi := by exact rfl) (hw : Region.wanted oi (yielded ops a.tmps) = false := by rfl) (hS : S w := by assumption) (hL : listed.setIfInBounds i true = L := by ((try simp only [q4, q5, q6]) <;> exact rfl)) (ha : a.put oi.dst undef = b := by ((try simp only [q1, q2, q3, Act.put, q4, q5, q6]) <;> exact rfl)) (hQ : ∀ c a w, Q (.panic c) (a.put oi.dst undef) w → Q (.panic c) a w := by (exact fun _ _ _ h => h)) (hs : Region.noSelect ops = true := by kernel_rfl) (hf : Region.free md ops listed i = true := by kernel_rfl) (hr : (Region.ready md ops listed).contains i = true := by kernel_rfl) : wpAnyH P md ops Q S (fuel + 1) listed a w := wpAnyH_take hi hs hf hr hQ (Or.inr ⟨hw, rfl⟩) hS (by rw [hL, ha]; exact h)
theorem zQ {P : Program} {ops : Array Oper} {Q : Exit → Act → World → Prop} {md : Region.Mode} {S : World → Prop} {o : Oper} {fuel : Nat} {listed : Array Bool} {a : Act} {w : World} (i : Nat) (h : ∀ K' : Act → World → Prop, Shut (∀ a w, S w → (S w → wpAnyH P md ops Q S fuel (listed.setIfInBounds i true) a w) → K' a w) → if Region.wanted o (yielded ops a.tmps) = true then Oper.wp P o a w K' Q else K' (a.put o.dst undef) w) (ho : ops[i]? = some o := by exact rfl) (hr : Region.ready md ops listed = [i] := by kernel_rfl) : wpAnyH P md ops Q S (fuel + 1) listed a w := wpAnyH_ready hr (by simp) (AllReadyH.cons ho h AllReadyH.nil)
theorem zV {P : Program} {ops : Array Oper} {Q : Exit → Act → World → Prop} {md : Region.Mode} {S : World → Prop} {fuel : Nat} {K : Act → World → Prop} {M L : Array Bool} {a b : Act} {w : World} (hK : Shut (∀ a w, S w → (S w → wpAnyH P md ops Q S fuel M a w) → K a w)) (hS : S w) (h : S w → wpAnyH P md ops Q S fuel L b w) (hL : M = L := by ((try simp only [q4, q5, q6]) <;> exact rfl)) (ha : a = b := by ((try simp only [q1, q2, q3, Act.put, q4, q5, q6]) <;> exact rfl)) : K a w := hK.out a w hS (fun h1 => by rw [hL, ha]; exact h h1)
end Go.Proofs.YtlncjgnomhpjnabGreatDoor
