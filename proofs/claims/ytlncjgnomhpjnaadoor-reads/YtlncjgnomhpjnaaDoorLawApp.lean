/-
  The law: appending.
-/
import Derived.Test.YtlncjgnomhpjnaaDoorLawSame
import Derived.ArgAppend
namespace Go.Proofs.YtlncjgnomhpjnaaDoor
open Go.RowKit Go.Deep
set_option linter.unusedVariables false

/-- the book -/
def Bo (w : World) (B : Nat) (kv : Value) (K : Int) : Prop := w.heap[B]? = some (.cells #[kv, .slice none 0 0, .int .i64 K] 34 (0, 0))
theorem Bo.cells {w : World} {B : Nat} {kv : Value} {K : Int} (h : Bo w B kv K) : w.cell? ⟨B, 0, none⟩ = some kv ∧ w.cell? ⟨B, 1, none⟩ = some (.slice none 0 0) ∧ w.cell? ⟨B, 2, none⟩ = some (.int .i64 K) ∧ w.frozen? ⟨B, 0, none⟩ = false ∧ w.frozen? ⟨B, 2, none⟩ = false := by
  simp [World.cell?, World.frozen?, show w.heap[B]? = _ from h]
theorem Bo.lt {w : World} {B : Nat} {kv : Value} {K : Int} (h : Bo w B kv K) : B < w.heap.size := (Array.getElem?_eq_some_iff.1 h).1

/-- a list without spare room -/
def Full (w : World) (l : Value) (n : Nat) (xs : List Value) : Prop :=
  xs.length = n ∧ ((l = .slice none 0 0 ∧ n = 0) ∨ ∃ g, l = .slice (some ⟨g, 0, none⟩) n n ∧ g < w.heap.size ∧ ∀ j u, xs[j]? = some u → w.cell? ⟨g, j, none⟩ = some u)
theorem grown_trans {a b c : World} {r : Option Nat} (h : a.grownBy b r) (k : b.grownBy c r) : a.grownBy c r :=
  ⟨k.os.trans h.os, k.tape.trans h.tape, k.output.trans h.output, Nat.le_trans h.size k.size, fun j hj hne => (k.block j (Nat.lt_of_lt_of_le hj h.size) hne).trans (h.block j hj hne)⟩

/-- appending to it makes a new row -/
theorem app_fresh (w : World) (l : Value) (n : Nat) (xs : List Value) (arr : Array Value) (h : Full w l n xs) (hn : n ≤ 40) (hk : arr.size ≤ 3) (hk1 : 1 ≤ arr.size) (h1 : ∀ u ∈ arr.toList, u.oneCell' = true) (ty : TypeId) :
    ∃ v' w', (Builtin.append_ #[22, 22] ty #[l, .slice (some ⟨w.heap.size, 0, none⟩) arr.size arr.size]).run Tryd.prog (w.alloc (.cells arr 3)) = .ok v' w' ∧
      w'.ownsRow w.heap.size 3 1 v' (n + arr.size) (xs ++ arr.toList) ∧ w.grownBy w' none := by
  obtain ⟨i0, hi, hz0, hz1, hz2⟩ := info_parts infoInt
  have hnews : ∀ j u, arr.toList[j]? = some u → (w.alloc (.cells arr 3)).cell? ((⟨w.heap.size, 0, none⟩ : Addr).add j) = some u := by
    intro j u hj
    have : (w.alloc (.cells arr 3)).cell? ⟨w.heap.size, j, none⟩ = arr[j]? := World.cell?_alloc_new _ _ _ _
    rw [show ((⟨w.heap.size, 0, none⟩ : Addr).add j) = ⟨w.heap.size, j, none⟩ by cases j <;> simp [Addr.add], this]
    simpa using hj
  have hal : (w.alloc (.cells arr 3)).heap.size = w.heap.size + 1 := by simp
  obtain ⟨hlen, ⟨rfl, rfl⟩ | ⟨g, rfl, hg, hc⟩⟩ := h
  · have hx : xs = [] := List.length_eq_zero_iff.1 hlen
    subst hx
    obtain ⟨v', w', hr, ho, hgr, -⟩ := run_append_own (P := Tryd.prog) (w.alloc (.cells arr 3)) w.heap.size 22 ty 3 i0 (.int .i64 0) 1 8 Tryd.underlying22 hi hz0 hz1 hz2 rfl (by omega) (.slice none 0 0) 0 [] (World.ownsRow_nil _ _ _ _)
      ⟨w.heap.size, 0, none⟩ arr.size arr.size arr.toList (by simp) hnews h1 (by simp only [maxLen]; omega) (by omega) (by omega)
    exact ⟨v', w', hr, ho, grown_trans (World.grownBy_alloc w _ none) hgr⟩
  · obtain ⟨v', w', hr, ho, hgr⟩ := run_append_arg_grows (P := Tryd.prog) (w.alloc (.cells arr 3)) 22 ty 3 i0 (.int .i64 0) 1 8 Tryd.underlying22 hi hz0 hz1 hz2 rfl (by omega) ⟨g, 0, none⟩ n n xs (by omega)
      (fun j u hj => by
        rw [show ((⟨g, 0, none⟩ : Addr).add j) = ⟨g, j, none⟩ by cases j <;> simp [Addr.add], World.cell?_alloc_lt w _ ⟨g, j, none⟩ hg]
        exact hc j u hj)
      ⟨w.heap.size, 0, none⟩ arr.size arr.size arr.toList (by simp) hnews (by omega) (by simp only [maxLen]; omega) (by omega)
    refine ⟨v', w', hr, ⟨ho.1, ?_⟩, grown_trans (World.grownBy_alloc w _ none) hgr⟩
    rcases ho.2 with h0 | ⟨g', cap, cur, e1, e2, e3⟩
    · exact .inl h0
    · exact .inr ⟨g', cap, cur, e1, by omega, e3⟩

theorem infoKept : (Tryd.prog.info? 50).map (fun i => (i.zero, i.size, i.bytes)) = some (some (.agg #[.slice none 0 0, .slice none 0 0, .slice none 0 0, .slice none 0 0, .int .i64 0, .int .i64 0]), 6, 112) := by kernel_rfl

/-- a list goes into the book -/
theorem app_kept (w : World) (base : Nat) (kv : Value) (j : Nat) (ks : List Value) (six : Array Value) (hown : w.ownsRow base 50 6 kv j ks) (h6 : six.size = 6) (h1 : ∀ u ∈ six.toList, u.oneCell' = true) (hj : j ≤ 10) (hbase : base ≤ w.heap.size) (ty : TypeId) :
    ∃ v' w', (Builtin.append_ #[31, 31] ty #[kv, .slice (some ⟨w.heap.size, 0, none⟩) 1 1]).run Tryd.prog (w.alloc (.cells six 50)) = .ok v' w' ∧
      w'.ownsRow base 50 6 v' (j + 1) (ks ++ six.toList) ∧ w.grownBy w' kv.ownBlock := by
  obtain ⟨i0, hi, hz0, hz1, hz2⟩ := info_parts infoKept
  have hnews : ∀ j u, six.toList[j]? = some u → (w.alloc (.cells six 50)).cell? ((⟨w.heap.size, 0, none⟩ : Addr).add j) = some u := by
    intro j u hj
    have : (w.alloc (.cells six 50)).cell? ⟨w.heap.size, j, none⟩ = six[j]? := World.cell?_alloc_new _ _ _ _
    rw [show ((⟨w.heap.size, 0, none⟩ : Addr).add j) = ⟨w.heap.size, j, none⟩ by cases j <;> simp [Addr.add], this]
    simpa using hj
  have hal : (w.alloc (.cells six 50)).heap.size = w.heap.size + 1 := by simp
  obtain ⟨v', w', hr, ho, hgr, -⟩ := run_append_own (P := Tryd.prog) (w.alloc (.cells six 50)) base 31 ty 50 i0 _ 6 112 Tryd.underlying31 hi hz0 hz1 hz2 rfl (by omega) kv j ks (hown.alloc _)
    ⟨w.heap.size, 0, none⟩ 1 1 six.toList (by simp [h6]) hnews h1 (by simp only [maxLen]; omega) (by omega) (by omega)
  exact ⟨v', w', hr, ho, grown_trans (World.grownBy_alloc w _ _) hgr⟩
end Go.Proofs.YtlncjgnomhpjnaaDoor
