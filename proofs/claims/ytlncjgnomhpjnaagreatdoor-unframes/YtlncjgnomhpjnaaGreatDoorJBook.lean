import Derived.Test.YtlncjgnomhpjnaaGreatDoorJBase
import Derived.Test.YtlncjgnomhpjnaaGreatDoorJReader
import Derived.ArgAppend
import Derived.Deep.OwnRows
import Derived.Test.YtlncjgnomhpjnaaGreatDoorJReadProg
/-
  Lists that came out, and what is appended to them.
-/
namespace Go.Proofs.YtlncjgnomhpjnaaGreatDoor
open Go.RowKit Go.Deep
set_option linter.unusedVariables false

theorem gr_trans {a b c : World} {r : Option Nat} (h : a.grownBy b r) (k : b.grownBy c r) : a.grownBy c r :=
  ⟨k.os.trans h.os, k.tape.trans h.tape, k.output.trans h.output, Nat.le_trans h.size k.size, fun j hj hne => (k.block j (Nat.lt_of_lt_of_le hj h.size) hne).trans (h.block j hj hne)⟩
theorem gr_refl (w : World) (r : Option Nat) : w.grownBy w r := ⟨rfl, rfl, rfl, Nat.le_refl _, fun _ _ _ => rfl⟩
theorem gr_set (w : World) (a : Addr) (v : Value) : w.grownBy (w.setCell a v) (some a.block) :=
  ⟨rfl, rfl, rfl, by simp, fun j hj hne => blk_setCell_other _ _ _ _ (fun e => hne (by rw [e]))⟩
theorem gr_none {w w' : World} {r : Option Nat} (h : w.grownBy w' none) : w.grownBy w' r := ⟨h.os, h.tape, h.output, h.size, fun j hj _ => h.block j hj (by simp)⟩
theorem gr_setCells (g : Nat) : ∀ (vs : List Value) (q : Nat) (w : World), w.grownBy (w.setCells g q vs) (some g)
  | [], q, w => gr_refl _ _
  | v :: r, q, w => gr_trans (gr_set w ⟨g, q, none⟩ v) (gr_setCells g r (q + 1) _)
theorem row_setCells (g : Nat) (e : TypeId) (N : Nat) : ∀ (vs : List Value) (q : Nat) (w : World) (f : Nat → Value), w.rowIs g e N f →
    ∃ f', (w.setCells g q vs).rowIs g e N f' ∧ (∀ i, f' i = f i ∨ f' i ∈ vs) ∧ (∀ j (hj : j < vs.length), f' (q + j) = vs[j]) ∧ ∀ i, i < q ∨ q + vs.length ≤ i → f' i = f i
  | [], q, w, f, h => ⟨f, h, fun _ => .inl rfl, fun j hj => absurd hj (Nat.not_lt_zero j), fun _ _ => rfl⟩
  | v :: r, q, w, f, h => by
    obtain ⟨f', h1, h2, h3, h4⟩ := row_setCells g e N r (q + 1) _ _ (h.set q v)
    refine ⟨f', h1, fun i => ?_, fun j hj => ?_, fun i hi => ?_⟩
    · rcases h2 i with e | e
      · by_cases hq : i = q
        · rw [if_pos hq] at e; exact .inr (by rw [e]; simp)
        · rw [if_neg hq] at e; exact .inl e
      · exact .inr (by simp [e])
    · cases j with
      | zero =>
        have := h4 q (.inl (by omega))
        rw [if_pos rfl] at this
        simpa using this
      | succ j =>
        have := h3 j (by simpa using hj)
        rw [show q + (j + 1) = q + 1 + j by omega, this]
        simp
    · have h5 : (v :: r).length = r.length + 1 := by simp
      have := h4 i (by omega)
      rw [if_neg (by omega)] at this
      exact this

/-- a list that may be written into: nil, or a piece of a row -/
def LstE (e : TypeId) (w : World) (v : Value) (n : Nat) (og : Option Nat) (x : Nat → Value) : Prop :=
  (v = .slice none 0 0 ∧ n = 0 ∧ og = none) ∨ ∃ g o c N f, og = some g ∧ v = .slice (some ⟨g, o, none⟩) n c ∧ w.rowIs g e N f ∧ o + c ≤ N ∧ n ≤ c ∧ ∀ i, i < n → f (o + i) = x i
/-- one of its blocks may have got some of these values -/
structure StepE (e : TypeId) (og : Option Nat) (news : List Value) (w w' : World) : Prop where
  gr : w.grownBy w' og
  row : ∀ g, og = some g → ∀ N f, w.rowIs g e N f → ∃ f', w'.rowIs g e N f' ∧ ∀ i, f' i = f i ∨ f' i ∈ news
theorem StepE.refl (e : TypeId) (og : Option Nat) (news : List Value) (w : World) : StepE e og news w w := ⟨gr_refl _ _, fun g _ N f h => ⟨f, h, fun _ => .inl rfl⟩⟩
theorem StepE.trans {e : TypeId} {og : Option Nat} {news : List Value} {a b c : World} (h : StepE e og news a b) (k : StepE e og news b c) : StepE e og news a c :=
  ⟨gr_trans h.gr k.gr, fun g hg N f hr => by
    obtain ⟨f1, h1, h2⟩ := h.row g hg N f hr
    obtain ⟨f2, h3, h4⟩ := k.row g hg N f1 h1
    refine ⟨f2, h3, fun i => ?_⟩
    rcases h4 i with e | e
    · rw [e]; exact h2 i
    · exact .inr e⟩
theorem StepE.mono {e : TypeId} {og : Option Nat} {news news' : List Value} {a b : World} (h : StepE e og news a b) (hn : ∀ v ∈ news, v ∈ news') : StepE e og news' a b :=
  ⟨h.gr, fun g hg N f hr => by
    obtain ⟨f1, h1, h2⟩ := h.row g hg N f hr
    exact ⟨f1, h1, fun i => (h2 i).imp id (hn _)⟩⟩
theorem StepE.of_gr {e : TypeId} {og : Option Nat} {news : List Value} {a b : World} (h : a.grownBy b none) : StepE e og news a b :=
  ⟨gr_none h, fun g hg N f hr => ⟨f, hr.of_block (h.block g hr.lt (by simp)), fun _ => .inl rfl⟩⟩
/-- a cell that has one of these values keeps one of them -/
theorem StepE.cell {e : TypeId} {og : Option Nat} {news : List Value} {a b : World} (h : StepE e og news a b) {g i : Nat} {v : Value} (hc : a.cell? ⟨g, i, none⟩ = some v) (hr : og = some g → ∃ N f, a.rowIs g e N f) : ∃ v', b.cell? ⟨g, i, none⟩ = some v' ∧ (v' = v ∨ v' ∈ news) := by
  by_cases hg : og = some g
  · obtain ⟨N, f, hr⟩ := hr hg
    obtain ⟨f', h1, h2⟩ := h.row g hg N f hr
    have hi : i < N := by
      obtain ⟨c, hb, hn, -⟩ := hr
      have hc' := hc
      simp [World.cell?, hb] at hc'
      obtain ⟨hlt, -⟩ := Array.getElem?_eq_some_iff.1 hc'
      omega
    have hv : v = f i := by
      have := hr.cell hi
      rw [this] at hc
      injection hc with hc
      exact hc.symm
    refine ⟨f' i, h1.cell hi, ?_⟩
    rw [hv]; exact h2 i
  · exact ⟨v, h.gr.cell hc (fun e => hg e.symm), .inl rfl⟩
theorem LstE.row {e : TypeId} {w : World} {v : Value} {n : Nat} {og : Option Nat} {x : Nat → Value} (h : LstE e w v n og x) {g : Nat} (hg : og = some g) : ∃ N f, w.rowIs g e N f := by
  rcases h with ⟨-, -, e⟩ | ⟨g', o, c, N, f, e, -, hr, -⟩
  · rw [e] at hg; cases hg
  · rw [hg] at e; injection e with e; subst e; exact ⟨N, f, hr⟩
theorem LstE.step {e : TypeId} {w w' : World} {v : Value} {n : Nat} {og : Option Nat} {x : Nat → Value} {news : List Value} (h : LstE e w v n og x) (hs : StepE e og news w w') : ∃ x', LstE e w' v n og x' ∧ ∀ i, i < n → x' i = x i ∨ x' i ∈ news := by
  rcases h with h | ⟨g, o, c, N, f, e1, e2, hr, h1, h2, h3⟩
  · exact ⟨x, .inl h, fun i hi => absurd hi (by omega)⟩
  · obtain ⟨f', h4, h5⟩ := hs.row g e1 N f hr
    refine ⟨fun i => f' (o + i), .inr ⟨g, o, c, N, f', e1, e2, h4, h1, h2, fun i _ => rfl⟩, fun i hi => ?_⟩
    rw [← h3 i hi]
    exact h5 _

/-- something is appended -/
theorem app_gen (t e : TypeId) (z : Value) (bytes : Nat) (ht : Tryz.prog.underlying t = some (.slice e)) (hinfo : (Tryz.prog.info? e).map (fun i => (i.zero, i.size, i.bytes)) = some (some z, 1, bytes)) (hzs : z.cells.size = 1)
    (w : World) (v : Value) (n : Nat) (og : Option Nat) (x : Nat → Value) (arr : Array Value) (h : LstE e w v n og x) (hk1 : 1 ≤ arr.size) (h1 : ∀ u ∈ arr.toList, u.oneCell' = true) (hm : n + arr.size ≤ 1000000000) (hby : bytes ≤ 1000) (ty : TypeId) :
    ∃ b o c w' x', (Builtin.append_ #[t, t] ty #[v, .slice (some ⟨w.heap.size, 0, none⟩) arr.size arr.size]).run Tryz.prog (w.alloc (.cells arr e)) = .ok (.slice (some ⟨b, o, none⟩) (n + arr.size) c) w' ∧
      (og = some b ∨ w.heap.size ≤ b) ∧ LstE e w' (.slice (some ⟨b, o, none⟩) (n + arr.size) c) (n + arr.size) (some b) x' ∧ (∀ i, i < n → x' i = x i) ∧ (∀ i (hi : i < arr.size), x' (n + i) = arr[i]) ∧ StepE e og arr.toList w w' := by
  obtain ⟨i0, hi, hz0, hz1, hz2⟩ := info_parts hinfo
  have hmx : n + arr.size ≤ maxLen := by simp only [maxLen]; omega
  have hbt : (n + arr.size) * bytes ≤ 140737488355328 := by
    have : (n + arr.size) * bytes ≤ 1000000000 * 1000 := Nat.mul_le_mul hm hby
    omega
  have hnews : ∀ j u, arr.toList[j]? = some u → (w.alloc (.cells arr e)).cell? ((⟨w.heap.size, 0, none⟩ : Addr).add j) = some u := by
    intro j u hj
    have : (w.alloc (.cells arr e)).cell? ⟨w.heap.size, j, none⟩ = arr[j]? := World.cell?_alloc_new _ _ _ _
    rw [show ((⟨w.heap.size, 0, none⟩ : Addr).add j) = ⟨w.heap.size, j, none⟩ by cases j <;> simp [Addr.add], this]
    simpa using hj
  have hal : (w.alloc (.cells arr e)).heap.size = w.heap.size + 1 := by simp
  have fin : ∀ (xs : List Value) (v' : Value) (w' : World), xs.length = n → (∀ i, i < n → xs[i]? = some (x i)) → w'.ownsRow w.heap.size e 1 v' (n + arr.size) (xs ++ arr.toList) → w.grownBy w' none →
      ∃ b o c x', v' = .slice (some ⟨b, o, none⟩) (n + arr.size) c ∧ (og = some b ∨ w.heap.size ≤ b) ∧ LstE e w' (.slice (some ⟨b, o, none⟩) (n + arr.size) c) (n + arr.size) (some b) x' ∧ (∀ i, i < n → x' i = x i) ∧ (∀ i (hi : i < arr.size), x' (n + i) = arr[i]) ∧ StepE e og arr.toList w w' := by
    intro xs v' w' hl hx ho hg
    rcases ho.2 with ⟨-, h0⟩ | ⟨b, cap, cur, rfl, hb, hcur, hcap, -, hcs, htk⟩
    · omega
    · have cells : ∀ j u, (xs ++ arr.toList)[j]? = some u → cur.getD j undef = u := fun j u hj => by
        rw [← htk, List.getElem?_take] at hj
        split at hj
        · rw [Array.getElem?_toList] at hj
          rw [Array.getD_eq_getD_getElem?, hj]; rfl
        · cases hj
      refine ⟨b, 0, cap, fun j => cur.getD j undef, rfl, .inr hb, .inr ⟨b, 0, cap, cap, fun j => cur.getD j undef, rfl, rfl, ⟨cur, hcur, by omega, fun j hj => ?_⟩, by omega, hcap, fun i _ => by rw [Nat.zero_add]⟩, fun i hi => cells i _ ?_, fun i hi => cells (n + i) _ ?_, StepE.of_gr hg⟩
      · have hjc : j < cur.size := by omega
        show cur[j]? = some (cur.getD j undef)
        rw [Array.getD_eq_getD_getElem?, Array.getElem?_eq_getElem hjc]; rfl
      · rw [List.getElem?_append_left (by omega)]; exact hx i hi
      · rw [List.getElem?_append_right (by omega), hl, Nat.add_sub_cancel_left]
        simp [hi]
  rcases h with ⟨rfl, rfl, rfl⟩ | ⟨g, o, c, N, f, rfl, rfl, hr, hoc, hnc, hfx⟩
  · obtain ⟨v', w', hrun, ho, hgr, -⟩ := run_append_own (P := Tryz.prog) (w.alloc (.cells arr e)) w.heap.size t ty e i0 z 1 bytes ht hi hz0 hz1 hz2 hzs (by omega) (.slice none 0 0) 0 [] (World.ownsRow_nil _ _ _ _)
      ⟨w.heap.size, 0, none⟩ arr.size arr.size arr.toList (by simp) hnews h1 hmx hbt (by omega)
    obtain ⟨b, o, c, x', rfl, h2⟩ := fin [] v' w' rfl (fun i hi => absurd hi (Nat.not_lt_zero i)) ho (gr_trans (World.grownBy_alloc w _ none) hgr)
    exact ⟨b, o, c, w', x', hrun, h2⟩
  · have hra := hr.alloc (.cells arr e)
    have hlx : ((List.range n).map x).length = n := by simp
    by_cases hroom : n + arr.size ≤ c
    · have hcN : ∀ j, j < arr.toList.length → ((w.alloc (.cells arr e)).cell? ⟨g, o + n * i0.size + j, none⟩).isSome = true := fun j hj => by
        rw [hz1, Nat.mul_one, hra.cell (by simp at hj; omega)]; rfl
      have hrun := run_append_room_cells (P := Tryz.prog) (w.alloc (.cells arr e)) t ty e i0 ht hi g o n c ⟨w.heap.size, 0, none⟩ arr.size arr.size arr.toList (by simp [hz1]) hnews h1 hroom hcN (fun j _ => hra.frozen _)
      rw [hz1, Nat.mul_one] at hrun
      obtain ⟨f', r1, r2, r3, r4⟩ := row_setCells g e N arr.toList (o + n) _ _ hra
      refine ⟨g, o, c, _, fun i => f' (o + i), hrun, .inl rfl, .inr ⟨g, o, c, N, f', rfl, rfl, r1, hoc, hroom, fun i _ => rfl⟩, fun i hi => ?_, fun i hi => ?_, ⟨gr_trans (World.grownBy_alloc w _ _) (gr_setCells g _ _ _), fun g2 e2 N2 f2 hr2 => ?_⟩⟩
      · show f' (o + i) = x i
        rw [r4 _ (.inl (by omega)), hfx i hi]
      · show f' (o + (n + i)) = arr[i]
        rw [show o + (n + i) = o + n + i by omega, r3 i (by simpa using hi)]
        simp
      · injection e2 with e2
        subst e2
        obtain ⟨f3, q1, q2, -⟩ := row_setCells g e N2 arr.toList (o + n) _ _ (hr2.alloc (.cells arr e))
        exact ⟨f3, q1, q2⟩
    · obtain ⟨v', w', hrun, ho, hgr⟩ := run_append_arg_grows (P := Tryz.prog) (w.alloc (.cells arr e)) t ty e i0 z 1 bytes ht hi hz0 hz1 hz2 hzs (by omega) ⟨g, o, none⟩ n c ((List.range n).map x) (by simp)
        (fun j u hj => by
          rw [List.getElem?_map] at hj
          rcases Nat.lt_or_ge j n with hjn | hjn
          · rw [List.getElem?_range hjn] at hj
            simp only [Option.map_some, Option.some.injEq] at hj
            rw [Addr.add_lit, hra.cell (by omega), hfx j hjn, ← hj]
          · rw [List.getElem?_eq_none (by simpa using hjn)] at hj
            simp at hj)
        ⟨w.heap.size, 0, none⟩ arr.size arr.size arr.toList (by simp) hnews (by omega) hmx hbt
      have ho' : w'.ownsRow w.heap.size e 1 v' (n + arr.size) ((List.range n).map x ++ arr.toList) := by
        refine ⟨ho.1, ?_⟩
        rcases ho.2 with h0 | ⟨g', cap, cur, e1, e2, e3⟩
        · exact .inl h0
        · exact .inr ⟨g', cap, cur, e1, by omega, e3⟩
      obtain ⟨b, o', c', x', rfl, h2⟩ := fin _ v' w' hlx (fun i hi => by rw [List.getElem?_map, List.getElem?_range hi]; rfl) ho' (gr_trans (World.grownBy_alloc w _ none) hgr)
      exact ⟨b, o', c', w', x', hrun, h2⟩

theorem wpList_append_rv {P : Program} {w w' : World} {ops : Array Oper} {rest : List Oper} {o : Oper} {a : Act} {Q : Exit → Act → World → Prop}
    (hg : o.guard = none) (s x : Operand) (t : TypeId) (hop : o.op = Op.call { callee := Callee.builtin Builtin.append, args := #[s, x], argTypes := #[t, t] })
    (v b v' : Value) (hs : a.eval s = v) (hx : a.eval x = b) (hrun : (Builtin.append_ #[t, t] o.type #[v, b]).run P w = .ok v' w') (h : wpList P ops Q rest (a.put o.dst v') w') : wpList P ops Q (o :: rest) a w := by
  refine wpList_plain hg fun K hK' => ?_
  unfold Oper.wp
  simp [execOp, hop, resolve, invoke, builtin, hs, hx, hrun, Result.andThen]
  exact hK' _ _ h
/-- a row of wide things grows -/
theorem app_wide (t e : TypeId) (z : Value) (size bytes : Nat) (ht : Tryz.prog.underlying t = some (.slice e)) (hinfo : (Tryz.prog.info? e).map (fun i => (i.zero, i.size, i.bytes)) = some (some z, size, bytes)) (hzs : z.cells.size = size) (hs1 : 1 ≤ size)
    (w : World) (base : Nat) (kv : Value) (j : Nat) (ks : List Value) (arr : Array Value) (hown : w.ownsRow base e size kv j ks) (hsz : arr.size = size) (h1 : ∀ u ∈ arr.toList, u.oneCell' = true) (hj : j + 1 ≤ maxLen) (hby : (j + 1) * bytes ≤ 140737488355328) (hbase : base ≤ w.heap.size) (ty : TypeId) :
    ∃ g c w', (Builtin.append_ #[t, t] ty #[kv, .slice (some ⟨w.heap.size, 0, none⟩) 1 1]).run Tryz.prog (w.alloc (.cells arr e)) = .ok (.slice (some ⟨g, 0, none⟩) (j + 1) c) w' ∧
      w'.ownsRow base e size (.slice (some ⟨g, 0, none⟩) (j + 1) c) (j + 1) (ks ++ arr.toList) ∧ w.grownBy w' kv.ownBlock ∧ (kv.ownBlock = some g ∨ w.heap.size ≤ g) := by
  obtain ⟨i0, hi, hz0, hz1, hz2⟩ := info_parts hinfo
  have hnews : ∀ j u, arr.toList[j]? = some u → (w.alloc (.cells arr e)).cell? ((⟨w.heap.size, 0, none⟩ : Addr).add j) = some u := by
    intro j u hj
    have : (w.alloc (.cells arr e)).cell? ⟨w.heap.size, j, none⟩ = arr[j]? := World.cell?_alloc_new _ _ _ _
    rw [show ((⟨w.heap.size, 0, none⟩ : Addr).add j) = ⟨w.heap.size, j, none⟩ by cases j <;> simp [Addr.add], this]
    simpa using hj
  have hal : (w.alloc (.cells arr e)).heap.size = w.heap.size + 1 := by simp
  obtain ⟨v', w', hr, ho, hgr, -⟩ := run_append_own (P := Tryz.prog) (w.alloc (.cells arr e)) base t ty e i0 z size bytes ht hi hz0 hz1 hz2 hzs (by omega) kv j ks (hown.alloc _)
    ⟨w.heap.size, 0, none⟩ 1 1 arr.toList (by simp [hsz]) hnews h1 hj hby (by omega)
  rcases ho.2 with ⟨-, h0⟩ | ⟨g, c, cur, rfl, -, hcur, -⟩
  · omega
  · refine ⟨g, c, w', hr, ho, gr_trans (World.grownBy_alloc w _ _) hgr, ?_⟩
    rcases hown.2 with ⟨rfl, rfl⟩ | ⟨g0, cap, cur0, rfl, -, hcur0, hcap, -, hcs, htk⟩
    · obtain ⟨v2, w2, hr2, ho2, -⟩ := run_append_own (P := Tryz.prog) (w.alloc (.cells arr e)) w.heap.size t ty e i0 z size bytes ht hi hz0 hz1 hz2 hzs (by omega) (.slice none 0 0) 0 [] (World.ownsRow_nil _ _ _ _)
        ⟨w.heap.size, 0, none⟩ 1 1 arr.toList (by simp [hsz]) hnews h1 hj hby (by omega)
      rw [hr] at hr2
      injection hr2 with e1 e2
      subst e1
      exact .inr (ho2.lt g rfl).1
    · have hc0 : ∀ q, q < cap * size → (w.alloc (.cells arr e)).cell? ⟨g0, q, none⟩ = cur0[q]? := fun q hq => by
        have : (w.alloc (.cells arr e)).heap[g0]? = some (.cells cur0 e (0, 0)) := (blk_alloc_lt _ _ _ (Array.getElem?_eq_some_iff.1 hcur0).1).trans hcur0
        simp [World.cell?, this]
      by_cases hroom : j + 1 ≤ cap
      · have hb : j * size + size ≤ cap * size := by
          have := Nat.mul_le_mul_right size hroom
          rw [Nat.add_mul, Nat.one_mul] at this
          exact this
        have hr2 := run_append_room_cells (P := Tryz.prog) (w.alloc (.cells arr e)) t ty e i0 ht hi g0 0 j cap ⟨w.heap.size, 0, none⟩ 1 1 arr.toList (by simp [hsz, hz1]) hnews h1 hroom
          (fun q hq => by
            have hq2 : q < size := by simpa [hsz] using hq
            rw [hz1, Nat.zero_add, hc0 _ (by omega), Array.getElem?_eq_getElem (by omega)]; rfl)
          (fun q _ => by
            have : (w.alloc (.cells arr e)).heap[g0]? = some (.cells cur0 e (0, 0)) := (blk_alloc_lt _ _ _ (Array.getElem?_eq_some_iff.1 hcur0).1).trans hcur0
            simp [World.frozen?, this])
        rw [hr] at hr2
        injection hr2 with e1 e2
        injection e1 with e1
        injection e1 with e1
        injection e1 with e1
        subst e1
        exact .inl rfl
      · obtain ⟨v2, w2, hr2, ho2, -⟩ := run_append_arg_grows (P := Tryz.prog) (w.alloc (.cells arr e)) t ty e i0 z size bytes ht hi hz0 hz1 hz2 hzs (by omega) ⟨g0, 0, none⟩ j cap ks hown.1
          (fun q u hq => by
            have := (hown.alloc (.cells arr e)).cells (g := g0) rfl q u hq
            exact this)
          ⟨w.heap.size, 0, none⟩ 1 1 arr.toList (by simp [hsz]) hnews (by omega) hj hby
        rw [hr] at hr2
        injection hr2 with e1 e2
        subst e1
        have := (ho2.lt g rfl).1
        exact .inr (by omega)
end Go.Proofs.YtlncjgnomhpjnaaGreatDoor

/-
  The book of lists that came out.
-/
namespace Go.Proofs.YtlncjgnomhpjnaaGreatDoor
open Go.RowKit Go.Deep
set_option linter.unusedVariables false

/-- the book's block -/
def Bk (w : World) (B : Nat) (kv lv : Value) (K : Int) : Prop := w.heap[B]? = some (.cells #[kv, lv, .int .i64 K] 39 (0, 0))
theorem Bk.cells {w : World} {B : Nat} {kv lv : Value} {K : Int} (h : Bk w B kv lv K) : w.cell? ⟨B, 0, none⟩ = some kv ∧ w.cell? ⟨B, 1, none⟩ = some lv ∧ w.cell? ⟨B, 2, none⟩ = some (.int .i64 K) ∧ w.frozen? ⟨B, 0, none⟩ = false ∧ w.frozen? ⟨B, 1, none⟩ = false ∧ w.frozen? ⟨B, 2, none⟩ = false := by
  simp [World.cell?, World.frozen?, show w.heap[B]? = _ from h]
theorem Bk.lt {w : World} {B : Nat} {kv lv : Value} {K : Int} (h : Bk w B kv lv K) : B < w.heap.size := (Array.getElem?_eq_some_iff.1 h).1
theorem Bk.of {w w' : World} {B : Nat} {kv lv : Value} {K : Int} (h : Bk w B kv lv K) (e : w'.heap[B]? = w.heap[B]?) : Bk w' B kv lv K := e.trans h
theorem Bk.set2 {w : World} {B : Nat} {kv lv : Value} {K : Int} (h : Bk w B kv lv K) (q : Int) : Bk (w.setCell ⟨B, 2, none⟩ (.int .i64 q)) B kv lv q := by
  simp [Bk, World.setCell, Array.getElem?_modify, show w.heap[B]? = _ from h]
theorem Bk.set0 {w : World} {B : Nat} {kv lv : Value} {K : Int} (h : Bk w B kv lv K) (v : Value) : Bk (w.setCell ⟨B, 0, none⟩ v) B v lv K := by
  simp [Bk, World.setCell, Array.getElem?_modify, show w.heap[B]? = _ from h]
theorem Bk.set1 {w : World} {B : Nat} {kv lv : Value} {K : Int} (h : Bk w B kv lv K) (v : Value) : Bk (w.setCell ⟨B, 1, none⟩ v) B kv v K := by
  simp [Bk, World.setCell, Array.getElem?_modify, show w.heap[B]? = _ from h]
/-- rows of other things are other blocks -/
theorem row_ne_book {w : World} {B g N : Nat} {kv lv : Value} {K : Int} {e : TypeId} {f : Nat → Value} (h : Bk w B kv lv K) (hr : w.rowIs g e N f) (he : e ≠ 39) : g ≠ B := by
  rintro rfl
  obtain ⟨c, hb, -⟩ := hr
  rw [show w.heap[g]? = _ from h] at hb
  injection hb with hb
  injection hb with h1 h2
  exact he h2.symm
theorem own_ne_book {w : World} {B base size j : Nat} {kv lv v : Value} {K : Int} {e : TypeId} {ks : List Value} (h : Bk w B kv lv K) (ho : w.ownsRow base e size v j ks) (he : e ≠ 39) : v.ownBlock ≠ some B := by
  intro e1
  rcases ho.2 with h0 | ⟨g', cap, cur, h0, -, hcur, -⟩
  · rw [h0.1] at e1; cases e1
  · rw [h0] at e1
    have e' : g' = B := by simpa [Value.ownBlock] using e1
    rw [e', show w.heap[B]? = _ from h] at hcur
    injection hcur with hb
    injection hb with h1 h2
    exact he h2.symm
theorem own_ne_row {w : World} {g N base size j : Nat} {v : Value} {e e' : TypeId} {ks : List Value} {f : Nat → Value} (ho : w.ownsRow base e size v j ks) (hr : w.rowIs g e' N f) (he : e ≠ e') : v.ownBlock ≠ some g := by
  intro e1
  obtain ⟨c, hb, -⟩ := hr
  rcases ho.2 with h0 | ⟨g', cap, cur, h0, -, hcur, -⟩
  · rw [h0.1] at e1; cases e1
  · rw [h0] at e1
    have e2 : g' = g := by simpa [Value.ownBlock] using e1
    rw [e2, hb] at hcur
    injection hcur with hb
    injection hb with h1 h2
    exact he h2.symm
theorem own_ne_own {w : World} {base size j base' size' j' : Nat} {v v' : Value} {e e' : TypeId} {ks ks' : List Value} (ho : w.ownsRow base e size v j ks) (ho' : w.ownsRow base' e' size' v' j' ks') (he : e ≠ e') : v.ownBlock = none ∨ v.ownBlock ≠ v'.ownBlock := by
  rcases ho.2 with h0 | ⟨g, cap, cur, rfl, -, hcur, -⟩
  · rw [h0.1]; exact .inl rfl
  · refine .inr fun e1 => ?_
    rcases ho'.2 with h0 | ⟨g', cap', cur', rfl, -, hcur', -⟩
    · rw [h0.1] at e1; cases e1
    · have e2 : g = g' := by simpa [Value.ownBlock] using e1
      rw [e2, hcur'] at hcur
      injection hcur with hb
      injection hb with h1 h2
      exact he h2.symm

/-- a list of marks, and where it lies -/
def ShM (S : Nat → Prop) (w : World) (v : Value) (n : Nat) (m : Int) : Prop := ∃ og, LstE 3 w v n og (fun _ => .int .i64 m) ∧ ∀ g, og = some g → S g
/-- a list of one mark -/
def MkL (S : Nat → Prop) (w : World) (m : Int) (u : Value) : Prop := ∃ h, u = .slice (some ⟨h, 0, none⟩) 1 1 ∧ S h ∧ w.rowIs h 3 1 (fun _ => .int .i64 m)
/-- a list of such lists -/
def ShL (S : Nat → Prop) (w : World) (v : Value) (n : Nat) (m : Int) : Prop := ∃ og x, LstE 29 w v n og x ∧ (∀ g, og = some g → S g) ∧ ∀ i, i < n → MkL S w m (x i)
theorem LstE.keep {e : TypeId} {w w' : World} {v : Value} {n : Nat} {og : Option Nat} {x : Nat → Value} (h : LstE e w v n og x) (hb : ∀ g, og = some g → w'.heap[g]? = w.heap[g]?) : LstE e w' v n og x := by
  rcases h with h | ⟨g, o, c, N, f, e1, e2, hr, h1⟩
  · exact .inl h
  · exact .inr ⟨g, o, c, N, f, e1, e2, hr.of_block (hb g e1), h1⟩
theorem LstE.lt {e : TypeId} {w : World} {v : Value} {n : Nat} {og : Option Nat} {x : Nat → Value} (h : LstE e w v n og x) {g : Nat} (hg : og = some g) : g < w.heap.size := by
  obtain ⟨N, f, hr⟩ := h.row hg
  exact hr.lt
/-- a block of numbers, or of lists of numbers -/
def IsRow (w : World) (k : Nat) : Prop := ∃ e N f, (e = 3 ∨ e = 29) ∧ w.rowIs k e N f
theorem LstE.isRow {e : TypeId} {w : World} {v : Value} {n : Nat} {og : Option Nat} {x : Nat → Value} (h : LstE e w v n og x) (he : e = 3 ∨ e = 29) {g : Nat} (hg : og = some g) : IsRow w g := by
  obtain ⟨N, f, hr⟩ := h.row hg
  exact ⟨e, N, f, he, hr⟩
theorem ShM.keep {S S' : Nat → Prop} {w w' : World} {v : Value} {n : Nat} {m : Int} (h : ShM S w v n m) (hb : ∀ k, S k → IsRow w k → w'.heap[k]? = w.heap[k]?) (hS : ∀ k, S k → S' k) : ShM S' w' v n m := by
  obtain ⟨og, h1, h2⟩ := h
  exact ⟨og, h1.keep (fun g hg => hb g (h2 g hg) (h1.isRow (.inl rfl) hg)), fun g hg => hS _ (h2 g hg)⟩
theorem MkL.keep {S S' : Nat → Prop} {w w' : World} {u : Value} {m : Int} (h : MkL S w m u) (hb : ∀ k, S k → IsRow w k → w'.heap[k]? = w.heap[k]?) (hS : ∀ k, S k → S' k) : MkL S' w' m u := by
  obtain ⟨g, h1, h2, h3⟩ := h
  exact ⟨g, h1, hS g h2, h3.of_block (hb g h2 ⟨_, _, _, .inl rfl, h3⟩)⟩
theorem ShL.keep {S S' : Nat → Prop} {w w' : World} {v : Value} {n : Nat} {m : Int} (h : ShL S w v n m) (hb : ∀ k, S k → IsRow w k → w'.heap[k]? = w.heap[k]?) (hS : ∀ k, S k → S' k) : ShL S' w' v n m := by
  obtain ⟨og, x, h1, h2, h3⟩ := h
  exact ⟨og, x, h1.keep (fun g hg => hb g (h2 g hg) (h1.isRow (.inr rfl) hg)), fun g hg => hS _ (h2 g hg), fun i hi => (h3 i hi).keep hb hS⟩
/-- an entry of the book -/
def Ent (Sh : Value → Nat → Int → Prop) (es : List Value) (i : Nat) : Prop :=
  ∃ l g1 g2 g3 n m, n ≤ 1000000 ∧ es[6 * i]? = some l ∧ es[6 * i + 1]? = some g1 ∧ es[6 * i + 2]? = some g2 ∧ es[6 * i + 3]? = some g3 ∧ es[6 * i + 4]? = some (.int .i64 ((n : Nat) : Int)) ∧ es[6 * i + 5]? = some (.int .i64 m) ∧
    Sh l n m ∧ Sh g1 (n + 1) m ∧ Sh g2 (n + 2) m ∧ Sh g3 (n + 3) m
theorem Ent.mono {Sh Sh' : Value → Nat → Int → Prop} {es : List Value} {i : Nat} (h : Ent Sh es i) (hs : ∀ v n m, Sh v n m → Sh' v n m) : Ent Sh' es i := by
  obtain ⟨l, g1, g2, g3, n, m, h0, e0, e1, e2, e3, e4, e5, s0, s1, s2, s3⟩ := h
  exact ⟨l, g1, g2, g3, n, m, h0, e0, e1, e2, e3, e4, e5, hs _ _ _ s0, hs _ _ _ s1, hs _ _ _ s2, hs _ _ _ s3⟩
theorem Ent.app {Sh : Value → Nat → Int → Prop} {es six : List Value} {i : Nat} (h : Ent Sh es i) : Ent Sh (es ++ six) i := by
  obtain ⟨l, g1, g2, g3, n, m, h0, e0, e1, e2, e3, e4, e5, s⟩ := h
  have key : ∀ {j : Nat} {v : Value}, es[j]? = some v → (es ++ six)[j]? = some v := fun {j v} hj => by
    rw [List.getElem?_append_left (List.getElem?_eq_some_iff.1 hj).1]; exact hj
  exact ⟨l, g1, g2, g3, n, m, h0, key e0, key e1, key e2, key e3, key e4, key e5, s⟩
theorem Ent.last {Sh : Value → Nat → Int → Prop} {es : List Value} {j : Nat} {l g1 g2 g3 : Value} {n : Nat} {m : Int} (hl : es.length = j * 6) (hn : n ≤ 1000000) (s0 : Sh l n m) (s1 : Sh g1 (n + 1) m) (s2 : Sh g2 (n + 2) m) (s3 : Sh g3 (n + 3) m) : Ent Sh (es ++ [l, g1, g2, g3, .int .i64 ((n : Nat) : Int), .int .i64 m]) j := by
  have key : ∀ q, (es ++ [l, g1, g2, g3, .int .i64 ((n : Nat) : Int), .int .i64 m])[6 * j + q]? = [l, g1, g2, g3, .int .i64 ((n : Nat) : Int), .int .i64 m][q]? := fun q => by
    rw [List.getElem?_append_right (by omega), show 6 * j + q - es.length = q by omega]
  exact ⟨l, g1, g2, g3, n, m, hn, key 0, key 1, key 2, key 3, key 4, key 5, s0, s1, s2, s3⟩

/-- a book whose lists lie in S -/
structure BookIs (S : Nat → Prop) (w : World) (B : Nat) (kv lv : Value) (j j2 : Nat) (ks ls : List Value) (K : Nat) : Prop where
  blk : Bk w B kv lv K
  inB : S B
  own : w.ownsRow 0 79 6 kv j ks
  own2 : w.ownsRow 0 75 6 lv j2 ls
  inK : ∀ g, kv.ownBlock = some g → S g
  inL : ∀ g, lv.ownBlock = some g → S g
  ents : ∀ i, i < j → Ent (ShM S w) ks i
  ents2 : ∀ i, i < j2 → Ent (ShL S w) ls i
  cnt : j + j2 ≤ K
  low : ∀ k, S k → k < w.heap.size
def BookP (S : Nat → Prop) (w : World) (B K : Nat) : Prop := ∃ kv lv j j2 ks ls, BookIs S w B kv lv j j2 ks ls K
theorem BookP.keep {S : Nat → Prop} {w w' : World} {B K : Nat} (h : BookP S w B K) (hb : ∀ k, S k → w'.heap[k]? = w.heap[k]?) (hs : w.heap.size ≤ w'.heap.size) : BookP S w' B K := by
  obtain ⟨kv, lv, j, j2, ks, ls, h⟩ := h
  have keepO : ∀ {e : TypeId} {v : Value} {q : Nat} {xs : List Value}, w.ownsRow 0 e 6 v q xs → (∀ g, v.ownBlock = some g → S g) → w'.ownsRow 0 e 6 v q xs := fun {e v q xs} ho hS => by
    refine ⟨ho.1, ?_⟩
    rcases ho.2 with h0 | ⟨g, cap, cur, rfl, h1, h2, h3⟩
    · exact .inl h0
    · exact .inr ⟨g, cap, cur, rfl, h1, (hb g (hS g rfl)).trans h2, h3⟩
  exact ⟨kv, lv, j, j2, ks, ls, h.blk.of (hb _ h.inB), h.inB, keepO h.own h.inK, keepO h.own2 h.inL, h.inK, h.inL,
    fun i hi => (h.ents i hi).mono fun v n m s => s.keep (fun k hk _ => hb k hk) (fun _ h => h), fun i hi => (h.ents2 i hi).mono fun v n m s => s.keep (fun k hk _ => hb k hk) (fun _ h => h), h.cnt, fun k hk => Nat.lt_of_lt_of_le (h.low k hk) hs⟩
theorem infoKept6 : (Tryz.prog.info? 79).map (fun i => (i.zero, i.size, i.bytes)) = some (some (.agg #[.slice none 0 0, .slice none 0 0, .slice none 0 0, .slice none 0 0, .int .i64 0, .int .i64 0]), 6, 112) := by kernel_rfl
theorem infoLists6 : (Tryz.prog.info? 75).map (fun i => (i.zero, i.size, i.bytes)) = some (some (.agg #[.slice none 0 0, .slice none 0 0, .slice none 0 0, .slice none 0 0, .int .i64 0, .int .i64 0]), 6, 112) := by kernel_rfl
theorem infoSlice : (Tryz.prog.info? 29).map (fun i => (i.zero, i.size, i.bytes)) = some (some (.slice none 0 0), 1, 24) := by kernel_rfl
/-- the lists that were written full of marks stay so -/
theorem LstE.mk {w w' : World} {v : Value} {n : Nat} {m : Int} {og og2 : Option Nat} {k : Nat} (h1 : LstE 3 w v n og2 (fun _ => .int .i64 m)) (hs : StepE 3 og (List.replicate k (.int .i64 m)) w w') : LstE 3 w' v n og2 (fun _ => .int .i64 m) := by
  by_cases e : og2 = og
  · subst e
    obtain ⟨x', h3, h4⟩ := h1.step hs
    rcases h3 with h3 | ⟨g, o, c, N, f, e1, e2, hr, q1, q2, q3⟩
    · exact .inl h3
    · refine .inr ⟨g, o, c, N, f, e1, e2, hr, q1, q2, fun i hi => ?_⟩
      rw [q3 i hi]
      rcases h4 i hi with e | e
      · exact e
      · exact (List.mem_replicate.1 e).2
  · exact h1.keep fun g hg => hs.gr.block g (h1.lt hg) (fun e' => e (hg.trans e'))
/-- marks appended to a list of marks -/
theorem app_mk (w : World) (v : Value) (n : Nat) (m : Int) (arr : Array Value) (k : Nat) (og : Option Nat) (h : LstE 3 w v n og (fun _ => .int .i64 m)) (hn : n ≤ 1000000) (harr : arr.toList = List.replicate k (.int .i64 m)) (hk : k ≤ 3) (hk1 : 1 ≤ k) (ty : TypeId) :
    ∃ b o c w', (Builtin.append_ #[29, 29] ty #[v, .slice (some ⟨w.heap.size, 0, none⟩) k k]).run Tryz.prog (w.alloc (.cells arr 3)) = .ok (.slice (some ⟨b, o, none⟩) (n + k) c) w' ∧
      (og = some b ∨ w.heap.size ≤ b) ∧ LstE 3 w' (.slice (some ⟨b, o, none⟩) (n + k) c) (n + k) (some b) (fun _ => .int .i64 m) ∧ StepE 3 og (List.replicate 3 (.int .i64 m)) w w' := by
  have hsz : arr.size = k := by rw [← Array.length_toList, harr]; simp
  obtain ⟨b, o, c, w', x', hr, hb, hl, h1, h2, hs⟩ := app_gen 29 3 (.int .i64 0) 8 Tryz.underlying29 infoInt rfl w v n og _ arr h (by omega) (by rw [harr]; intro u hu; rw [List.mem_replicate] at hu; rw [hu.2]; rfl) (by omega) (by omega) ty
  rw [hsz] at hr hl
  refine ⟨b, o, c, w', hr, hb, ?_, hs.mono fun v hv => ?_⟩
  · rcases hl with ⟨h0, -⟩ | ⟨g, o', c', N, f, e1, e2, hrow, q1, q2, q3⟩
    · cases h0
    · refine .inr ⟨g, o', c', N, f, e1, e2, hrow, q1, q2, fun i hi => ?_⟩
      rw [q3 i hi]
      rcases Nat.lt_or_ge i n with hin | hin
      · exact h1 i hin
      · have := h2 (i - n) (by omega)
        rw [show n + (i - n) = i by omega] at this
        rw [this]
        have hm : arr[i - n] ∈ arr.toList := by simp
        rw [harr] at hm
        exact (List.mem_replicate.1 hm).2
  · rw [harr] at hv
    rw [List.mem_replicate] at hv ⊢
    exact ⟨by omega, hv.2⟩

/-- what taking a list leaves -/
structure TookP (S : Nat → Prop) (w w' : World) (B K : Nat) (og : Option Nat) : Prop where
  book : BookP (fun k => (S k ∨ og = some k ∨ w.heap.size ≤ k) ∧ k < w'.heap.size) w' B (K + 1)
  os : w'.os = w.os
  tape : w'.tape = w.tape
  output : w'.output = w.output
  size : w.heap.size ≤ w'.heap.size
  block : ∀ k, k < w.heap.size → ¬ S k → og ≠ some k → w'.heap[k]? = w.heap[k]?
theorem took_of {S : Nat → Prop} {w w' : World} {B K j j2 n b1 b2 b3 : Nat} {kv lv kv' l v1 v2 v3 : Value} {ks ls : List Value} {og : Option Nat} {m : Int} (hB : BookIs S w B kv lv j j2 ks ls K) (hS : ∀ g, og = some g → ¬ S g) (hrow : ∀ g, og = some g → IsRow w g) (hn : n ≤ 1000000)
    (F : ∀ k, k < w.heap.size → k ≠ B → og ≠ some k → kv.ownBlock ≠ some k → w'.heap[k]? = w.heap[k]?) (h1 : w'.os = w.os) (h2 : w'.tape = w.tape) (h3 : w'.output = w.output) (hs : w.heap.size ≤ w'.heap.size)
    (hBk : Bk w' B kv' lv ((K : Int) + 1)) (hown : w'.ownsRow 0 79 6 kv' (j + 1) (ks ++ [l, v1, v2, v3, .int .i64 ((n : Nat) : Int), .int .i64 m])) (hkv' : ∀ g, kv'.ownBlock = some g → kv.ownBlock = some g ∨ w.heap.size ≤ g)
    (L0 : LstE 3 w' l n og (fun _ => .int .i64 m)) (L1 : LstE 3 w' v1 (n + 1) (some b1) (fun _ => .int .i64 m)) (L2 : LstE 3 w' v2 (n + 2) (some b2) (fun _ => .int .i64 m)) (L3 : LstE 3 w' v3 (n + 3) (some b3) (fun _ => .int .i64 m))
    (hb1 : og = some b1 ∨ w.heap.size ≤ b1) (hb2 : og = some b2 ∨ w.heap.size ≤ b2) (hb3 : og = some b3 ∨ w.heap.size ≤ b3) : TookP S w w' B K og := by
  have kvB := own_ne_book hB.blk hB.own (by decide)
  have keepR : ∀ k, S k → IsRow w k → w'.heap[k]? = w.heap[k]? := fun k hk ⟨e, N, f, he, hr⟩ => by
    refine F k hr.lt (row_ne_book hB.blk hr (by rcases he with rfl | rfl <;> decide)) (fun e => hS k e hk) (own_ne_row hB.own hr (by rcases he with rfl | rfl <;> decide))
  have inS : ∀ k, S k → (S k ∨ og = some k ∨ w.heap.size ≤ k) ∧ k < w'.heap.size := fun k hk => ⟨.inl hk, Nat.lt_of_lt_of_le (hB.low k hk) hs⟩
  have inN : ∀ {v : Value} {q b : Nat}, LstE 3 w' v q (some b) (fun _ => .int .i64 m) → (og = some b ∨ w.heap.size ≤ b) → ShM (fun k => (S k ∨ og = some k ∨ w.heap.size ≤ k) ∧ k < w'.heap.size) w' v q m := fun {v q b} hl hb =>
    ⟨some b, hl, fun g hg => by injection hg with hg; subst hg; exact ⟨.inr hb, hl.lt rfl⟩⟩
  refine ⟨⟨kv', lv, j + 1, j2, ks ++ [l, v1, v2, v3, .int .i64 ((n : Nat) : Int), .int .i64 m], ls, ?_⟩, h1, h2, h3, hs, fun k hk hnS hno => ?_⟩
  · have o2 : w'.ownsRow 0 75 6 lv j2 ls := by
      refine ⟨hB.own2.1, ?_⟩
      rcases hB.own2.2 with h0 | ⟨g, cap, cur, e, q1, q2, q3⟩
      · exact .inl h0
      · refine .inr ⟨g, cap, cur, e, q1, ?_, q3⟩
        subst e
        have hlt := (Array.getElem?_eq_some_iff.1 q2).1
        rw [F g hlt (fun e => own_ne_book hB.blk hB.own2 (by decide) (by rw [e]; rfl)) (fun e => hS g e (hB.inL g rfl)) (fun e => ?_)]
        · exact q2
        · rcases own_ne_own hB.own hB.own2 (by decide) with h | h
          · rw [h] at e; cases e
          · exact h e
    refine ⟨by rw [show ((K + 1 : Nat) : Int) = (K : Int) + 1 by omega]; exact hBk, inS _ hB.inB, hown, o2, fun g hg => ?_, fun g hg => inS _ (hB.inL g hg), fun i hi => ?_, fun i hi => (hB.ents2 i hi).mono fun v q mm s => s.keep keepR inS, by have := hB.cnt; omega, fun k hk => hk.2⟩
    · rcases hkv' g hg with h | h
      · exact inS _ (hB.inK g h)
      · exact ⟨.inr (.inr h), (hown.lt g hg).2⟩
    · rcases Nat.lt_or_ge i j with hij | hij
      · exact ((hB.ents i hij).mono fun v q mm s => s.keep keepR inS).app
      · have e : i = j := by omega
        subst e
        refine Ent.last hB.own.1 hn ⟨og, L0, fun g hg => ⟨.inr (.inl hg), L0.lt hg⟩⟩ (inN L1 hb1) (inN L2 hb2) (inN L3 hb3)
  · exact F k hk (fun e => hnS (e ▸ hB.inB)) hno (fun e => hnS (hB.inK k e))
end Go.Proofs.YtlncjgnomhpjnaaGreatDoor

/-
  The book: a list goes into it.
-/
namespace Go.Proofs.YtlncjgnomhpjnaaGreatDoor
open Go.RowKit Go.Deep
set_option linter.unusedVariables false

set_option maxRecDepth 100000 in
set_option maxHeartbeats 2000000 in
theorem bookTake_any (S : Nat → Prop) (B K n : Nat) (og : Option Nat) (x : Nat → Value) (l : Value) (w : World) (hn : n ≤ 1000000) (hK : K ≤ 1000000000000) (hB : BookP S w B K) (hL : LstE 3 w l n og x) (hS : ∀ g, og = some g → ¬ S g) :
    Calls Tryz.prog 43 #[.pointer (some ⟨B, 0, none⟩), l] w fun e w' => e = .returned (.tuple #[]) ∧ TookP S w w' B K og := by
  obtain ⟨kv, lv, j, j2, ks, ls, hB⟩ := hB
  have hj : j ≤ 1000000000000 := by have := hB.cnt; omega
  obtain ⟨c0, c1, c2, f0, f1, f2⟩ := hB.blk.cells
  obtain ⟨m, hm⟩ : ∃ m : Int, m = -1000 - ((K : Int) + 1) := ⟨_, rfl⟩
  have hmw : -1000 - ((K : Int) + 1) = m := hm.symm
  have hBlt := hB.blk.lt
  have HB := Hid.mk' hB
  have HS := Hid.mk' hS
  have HRO : Hid (∀ g, og = some g → IsRow w g) := fun g hg => hL.isRow (.inl rfl) hg
  have HKO : Hid (kv.ownBlock = none ∨ kv.ownBlock ≠ og) := by
    rcases hL with ⟨-, -, e⟩ | ⟨g, o, c, N, f, e, -, hr, -⟩
    · rw [e]; exact Classical.em _
    · rw [e]; exact .inr (own_ne_row hB.own hr (by decide))
  have HBO : Hid (some B ≠ og) := fun e => hS B e.symm hB.inB
  have HW : Hid (w.grownBy (w.setCell ⟨B, 2, none⟩ (.int .i64 ((K : Int) + 1))) (some B)) := gr_set w ⟨B, 2, none⟩ _
  have hkvB0 := own_ne_book hB.blk hB.own (by decide)
  clear hB hm hS
  rcases hL with ⟨rfl, rfl, rfl⟩ | ⟨g, o, c, N, f, rfl, rfl, hrow, hoc, hnc, -⟩
  · go_enter Tryz.func43, Tryz.ntmps43
    go_wp2
    obtain ⟨W, hW⟩ : ∃ W, W = w.setCell ⟨B, 2, none⟩ (.int .i64 ((K : Int) + 1)) := ⟨_, rfl⟩
    rw [← hW] at HW
    rw [← hW]
    have HWE := Hid.mk' hW
    clear hW
    go_loopw [5] (fun i wr => i = .int .i64 0 ∧ wr = W) (fun i _ => 0)
    case atStart => exact ⟨rfl, rfl⟩
    case round =>
      obtain ⟨rfl, hwr⟩ := hrel
      subst hwr
      have HF : Hid (LstE 3 wr (.slice none 0 0) 0 none (fun _ => .int .i64 m)) := .inl ⟨rfl, rfl, rfl⟩
      have hownR := HB.out.own.kept HW.out (.inr hkvB0)
      have hBoR : Bk wr B kv lv ((K : Int) + 1) := by rw [HWE.out]; exact HB.out.blk.set2 _
      have hBR := hBoR.lt
      have OSR : Hid (wr.os = w.os ∧ wr.tape = w.tape ∧ wr.output = w.output) := ⟨HW.out.os, HW.out.tape, HW.out.output⟩
      have FR : Hid (∀ k, k < w.heap.size → k ≠ B → some k ≠ (none : Option Nat) → wr.heap[k]? = w.heap[k]?) := fun k hk hkB _ => HW.out.block k hk (by simpa using hkB)
      have hszR : w.heap.size ≤ wr.heap.size := HW.out.size
      obtain ⟨b1, o1, c1, u1, hr1, hb1, hl1, hs1⟩ := app_mk wr (.slice none 0 0) 0 m #[.int .i64 m] 1 none HF.out hn rfl (by omega) (by omega) 29
      obtain ⟨b2, o2, c2, u2, hr2, hb2, hl2, hs2⟩ := app_mk u1 (.slice none 0 0) 0 m #[.int .i64 m, .int .i64 m] 2 none (HF.out.mk hs1) hn rfl (by omega) (by omega) 29
      obtain ⟨b3, o3, c3, u3, hr3, hb3, hl3, hs3⟩ := app_mk u2 (.slice none 0 0) 0 m #[.int .i64 m, .int .i64 m, .int .i64 m] 3 none ((HF.out.mk hs1).mk hs2) hn rfl (by omega) (by omega) 29
      have s1 := hs1.gr.size
      have s2 := hs2.gr.size
      have s3 := hs3.gr.size
      have hkvo : kv.ownBlock = none ∨ kv.ownBlock ≠ none := HKO.out
      have hown3 := ((hownR.kept hs1.gr hkvo).kept hs2.gr hkvo).kept hs3.gr hkvo
      have hBog : some B ≠ none := HBO.out
      have hBo3 := ((hBoR.of (hs1.gr.block B hBR hBog)).of (hs2.gr.block B (Nat.lt_of_lt_of_le hBR s1) hBog)).of (hs3.gr.block B (Nat.lt_of_lt_of_le hBR (Nat.le_trans s1 s2)) hBog)
      have hB3 := hBo3.lt
      obtain ⟨b4, c4, u4, hr4, ho4, hg4, hb4⟩ := app_wide 36 79 _ 6 112 Tryz.underlying36 infoKept6 rfl (by omega) u3 0 kv j ks #[(.slice none 0 0), .slice (some ⟨b1, o1, none⟩) (0 + 1) c1, .slice (some ⟨b2, o2, none⟩) (0 + 2) c2, .slice (some ⟨b3, o3, none⟩) (0 + 3) c3, .int .i64 0, .int .i64 m] hown3 rfl (by intro u hu; simp at hu; rcases hu with rfl | rfl | rfl | rfl | rfl | rfl <;> rfl) (by simp only [maxLen]; omega) (by omega) (Nat.zero_le _) 36
      have s4 := hg4.size
      have hkvB := own_ne_book hBo3 hown3 (by decide)
      have hBo4 := hBo3.of (hg4.block B hB3 (Ne.symm hkvB))
      obtain ⟨d0, d1, d2, e0, e1, e2⟩ := hBo3.cells
      obtain ⟨x0, x1, x2, y0, y1, y2⟩ := hBo4.cells
      have HR1 := Hid.mk' hr1
      have HR2 := Hid.mk' hr2
      have HR3 := Hid.mk' hr3
      have HR4 := Hid.mk' hr4
      have hset := gr_set u4 ⟨B, 0, none⟩ (.slice (some ⟨b4, 0, none⟩) (j + 1) c4)
      have hb4B : b4 ≠ B := fun e => own_ne_book hBo4 ho4 (by decide) (by rw [e]; rfl)
      have hsz5 : (u4.setCell ⟨B, 0, none⟩ (.slice (some ⟨b4, 0, none⟩) (j + 1) c4)).heap.size = u4.heap.size := by simp
      have ne4 : ∀ {q : Nat} {N : Nat} {f : Nat → Value}, u3.rowIs q 3 N f → some q ≠ kv.ownBlock := fun {q N f} hr e => own_ne_row hown3 hr (by decide) e.symm
      have toEnd : ∀ {v : Value} {q : Nat} {og2 : Option Nat}, LstE 3 u3 v q og2 (fun _ => .int .i64 m) → LstE 3 (u4.setCell ⟨B, 0, none⟩ (.slice (some ⟨b4, 0, none⟩) (j + 1) c4)) v q og2 (fun _ => .int .i64 m) := fun {v q og2} hl => hl.keep fun g hg => by
        obtain ⟨N, f, hr⟩ := hl.row hg
        exact (hset.block g (Nat.lt_of_lt_of_le hr.lt s4) (fun e => row_ne_book hBo3 hr (by decide) (by injection e))).trans (hg4.block g hr.lt (ne4 hr))
      have HT : Hid (TookP S w (u4.setCell ⟨B, 0, none⟩ (.slice (some ⟨b4, 0, none⟩) (j + 1) c4)) B K none) := by
        refine took_of (n := 0) (l := (.slice none 0 0)) (m := m) HB.out HS.out HRO.out hn (fun k hk hkB hko hkk => ?_) ?_ ?_ ?_ (by rw [hsz5]; omega) (hBo4.set0 _) (ho4.kept hset (.inr (by simpa [Value.ownBlock] using hb4B))) (fun g hg => ?_) (toEnd (((HF.out.mk hs1).mk hs2).mk hs3)) (toEnd ((hl1.mk hs2).mk hs3)) (toEnd (hl2.mk hs3)) (toEnd hl3) (hb1.imp id (fun h => by omega)) (hb2.imp id (fun h => by omega)) (hb3.imp id (fun h => by omega))
        · exact (hset.block k (by omega) (by simpa using hkB)).trans ((hg4.block k (by omega) (Ne.symm hkk)).trans ((hs3.gr.block k (by omega) (Ne.symm hko)).trans ((hs2.gr.block k (by omega) (Ne.symm hko)).trans ((hs1.gr.block k (by omega) (Ne.symm hko)).trans (FR.out k hk hkB (Ne.symm hko))))))
        · exact hset.os.trans (hg4.os.trans (hs3.gr.os.trans (hs2.gr.os.trans (hs1.gr.os.trans OSR.out.1))))
        · exact hset.tape.trans (hg4.tape.trans (hs3.gr.tape.trans (hs2.gr.tape.trans (hs1.gr.tape.trans OSR.out.2.1))))
        · exact hset.output.trans (hg4.output.trans (hs3.gr.output.trans (hs2.gr.output.trans (hs1.gr.output.trans OSR.out.2.2))))
        · have : b4 = g := by simpa [Value.ownBlock] using hg
          rw [← this]
          exact hb4.imp id (fun h => by omega)
      clear hl1 hl2 hl3 hs1 hs2 hs3 hr1 hr2 hr3 hr4 ho4 hg4 hBo3 hBo4 hown3 hownR hBoR toEnd hset hkvo ne4 hkvB hBog hb1 hb2 hb3 hb4
      go_wp2_with (first
        | (at_builtin; refine wpList_append_rv rfl _ _ _ rfl _ _ _ rfl rfl HR1.out ?_; clear HR1)
        | (at_builtin; refine wpList_append_rv rfl _ _ _ rfl _ _ _ rfl rfl HR2.out ?_; clear HR2)
        | (at_builtin; refine wpList_append_rv rfl _ _ _ rfl _ _ _ rfl rfl HR3.out ?_; clear HR3)
        | (at_builtin; refine wpList_append_rv rfl _ _ _ rfl _ _ _ rfl rfl HR4.out ?_; clear HR4))
      go_end0
      exact ⟨rfl, HT.out⟩
  · have HROW := Hid.mk' hrow
    have hgB : g ≠ B := fun e => HBO.out (by rw [e])
    have hglt := hrow.lt
    clear hrow
    go_enter Tryz.func43, Tryz.ntmps43
    go_wp2
    obtain ⟨W, hW⟩ : ∃ W, W = w.setCell ⟨B, 2, none⟩ (.int .i64 ((K : Int) + 1)) := ⟨_, rfl⟩
    rw [← hW] at HW
    rw [← hW]
    have HWE := Hid.mk' hW
    clear hW
    go_loopw [5] (fun i wr => ∃ k : Nat, k ≤ n ∧ i = .int .i64 k ∧ Hid (∃ y : Nat → Value, (∀ j, j < k → y (o + j) = .int .i64 m) ∧ wr.rowIs g 3 N y ∧ Chg g W wr)) (fun i _ => n - (intOf i).toNat)
    case atStart => exact ⟨0, Nat.zero_le _, rfl, f, fun j hj => absurd hj (by omega), HROW.out.of_block (HW.out.block g hglt (by simpa using hgB)), Chg.refl _ _⟩
    case round =>
      obtain ⟨k, hk, rfl, HX⟩ := hrel
      obtain ⟨y, hy, hrow, hch⟩ := HX.out
      by_cases hkn : k < n
      · have hc0 : wr.cell? ⟨g, o + k, none⟩ = some (y (o + k)) := hrow.cell (by omega)
        have hf0 := hrow.frozen (o + k)
        have HY := Hid.mk' hy
        have HR := Hid.mk' hrow
        have HCH := Hid.mk' hch
        clear hy hrow hch HX
        generalize y (o + k) = yv at *
        go_wp2
        go_roundw
        case rel =>
          refine ⟨k + 1, by omega, by go_num, _, fun j hj => ?_, HR.out.set (o + k) (.int .i64 m), HCH.out.set (o + k) _⟩
          by_cases e : j = k
          · rw [e, if_pos rfl]
          · rw [if_neg (by omega)]; exact HY.out j (by omega)
        case measure => simp [intOf]; omega
      · have e : k = n := by omega
        subst k
        have HF : Hid (LstE 3 wr (.slice (some ⟨g, o, none⟩) n c) n (some g) (fun _ => .int .i64 m)) := .inr ⟨g, o, c, N, y, rfl, rfl, hrow, hoc, hnc, hy⟩
        have hownR := (HB.out.own.kept HW.out (.inr hkvB0)).kept hch HKO.out
        have hBoR : Bk wr B kv lv ((K : Int) + 1) := (by rw [HWE.out]; exact HB.out.blk.set2 _ : Bk W B kv lv ((K : Int) + 1)).of (hch.block B (Nat.lt_of_lt_of_le hBlt HW.out.size) (by simpa using Ne.symm hgB))
        have hBR := hBoR.lt
        have OSR : Hid (wr.os = w.os ∧ wr.tape = w.tape ∧ wr.output = w.output) := ⟨hch.os.trans HW.out.os, hch.tape.trans HW.out.tape, hch.output.trans HW.out.output⟩
        have FR : Hid (∀ k, k < w.heap.size → k ≠ B → some k ≠ some g → wr.heap[k]? = w.heap[k]?) := fun k hk hkB hkg => (hch.block k (Nat.lt_of_lt_of_le hk HW.out.size) hkg).trans (HW.out.block k hk (by simpa using hkB))
        have hszR : w.heap.size ≤ wr.heap.size := Nat.le_trans HW.out.size hch.size
        clear hy hrow hch HX
        obtain ⟨b1, o1, c1, u1, hr1, hb1, hl1, hs1⟩ := app_mk wr (.slice (some ⟨g, o, none⟩) n c) n m #[.int .i64 m] 1 (some g) HF.out hn rfl (by omega) (by omega) 29
        obtain ⟨b2, o2, c2, u2, hr2, hb2, hl2, hs2⟩ := app_mk u1 (.slice (some ⟨g, o, none⟩) n c) n m #[.int .i64 m, .int .i64 m] 2 (some g) (HF.out.mk hs1) hn rfl (by omega) (by omega) 29
        obtain ⟨b3, o3, c3, u3, hr3, hb3, hl3, hs3⟩ := app_mk u2 (.slice (some ⟨g, o, none⟩) n c) n m #[.int .i64 m, .int .i64 m, .int .i64 m] 3 (some g) ((HF.out.mk hs1).mk hs2) hn rfl (by omega) (by omega) 29
        have s1 := hs1.gr.size
        have s2 := hs2.gr.size
        have s3 := hs3.gr.size
        have hkvo : kv.ownBlock = none ∨ kv.ownBlock ≠ (some g) := HKO.out
        have hown3 := ((hownR.kept hs1.gr hkvo).kept hs2.gr hkvo).kept hs3.gr hkvo
        have hBog : some B ≠ (some g) := HBO.out
        have hBo3 := ((hBoR.of (hs1.gr.block B hBR hBog)).of (hs2.gr.block B (Nat.lt_of_lt_of_le hBR s1) hBog)).of (hs3.gr.block B (Nat.lt_of_lt_of_le hBR (Nat.le_trans s1 s2)) hBog)
        have hB3 := hBo3.lt
        obtain ⟨b4, c4, u4, hr4, ho4, hg4, hb4⟩ := app_wide 36 79 _ 6 112 Tryz.underlying36 infoKept6 rfl (by omega) u3 0 kv j ks #[(.slice (some ⟨g, o, none⟩) n c), .slice (some ⟨b1, o1, none⟩) (n + 1) c1, .slice (some ⟨b2, o2, none⟩) (n + 2) c2, .slice (some ⟨b3, o3, none⟩) (n + 3) c3, .int .i64 n, .int .i64 m] hown3 rfl (by intro u hu; simp at hu; rcases hu with rfl | rfl | rfl | rfl | rfl | rfl <;> rfl) (by simp only [maxLen]; omega) (by omega) (Nat.zero_le _) 36
        have s4 := hg4.size
        have hkvB := own_ne_book hBo3 hown3 (by decide)
        have hBo4 := hBo3.of (hg4.block B hB3 (Ne.symm hkvB))
        obtain ⟨d0, d1, d2, e0, e1, e2⟩ := hBo3.cells
        obtain ⟨x0, x1, x2, y0, y1, y2⟩ := hBo4.cells
        have HR1 := Hid.mk' hr1
        have HR2 := Hid.mk' hr2
        have HR3 := Hid.mk' hr3
        have HR4 := Hid.mk' hr4
        have hset := gr_set u4 ⟨B, 0, none⟩ (.slice (some ⟨b4, 0, none⟩) (j + 1) c4)
        have hb4B : b4 ≠ B := fun e => own_ne_book hBo4 ho4 (by decide) (by rw [e]; rfl)
        have hsz5 : (u4.setCell ⟨B, 0, none⟩ (.slice (some ⟨b4, 0, none⟩) (j + 1) c4)).heap.size = u4.heap.size := by simp
        have ne4 : ∀ {q : Nat} {N : Nat} {f : Nat → Value}, u3.rowIs q 3 N f → some q ≠ kv.ownBlock := fun {q N f} hr e => own_ne_row hown3 hr (by decide) e.symm
        have toEnd : ∀ {v : Value} {q : Nat} {og2 : Option Nat}, LstE 3 u3 v q og2 (fun _ => .int .i64 m) → LstE 3 (u4.setCell ⟨B, 0, none⟩ (.slice (some ⟨b4, 0, none⟩) (j + 1) c4)) v q og2 (fun _ => .int .i64 m) := fun {v q og2} hl => hl.keep fun g hg => by
          obtain ⟨N, f, hr⟩ := hl.row hg
          exact (hset.block g (Nat.lt_of_lt_of_le hr.lt s4) (fun e => row_ne_book hBo3 hr (by decide) (by injection e))).trans (hg4.block g hr.lt (ne4 hr))
        have HT : Hid (TookP S w (u4.setCell ⟨B, 0, none⟩ (.slice (some ⟨b4, 0, none⟩) (j + 1) c4)) B K (some g)) := by
          refine took_of (n := n) (l := (.slice (some ⟨g, o, none⟩) n c)) (m := m) HB.out HS.out HRO.out hn (fun k hk hkB hko hkk => ?_) ?_ ?_ ?_ (by rw [hsz5]; omega) (hBo4.set0 _) (ho4.kept hset (.inr (by simpa [Value.ownBlock] using hb4B))) (fun g hg => ?_) (toEnd (((HF.out.mk hs1).mk hs2).mk hs3)) (toEnd ((hl1.mk hs2).mk hs3)) (toEnd (hl2.mk hs3)) (toEnd hl3) (hb1.imp id (fun h => by omega)) (hb2.imp id (fun h => by omega)) (hb3.imp id (fun h => by omega))
          · exact (hset.block k (by omega) (by simpa using hkB)).trans ((hg4.block k (by omega) (Ne.symm hkk)).trans ((hs3.gr.block k (by omega) (Ne.symm hko)).trans ((hs2.gr.block k (by omega) (Ne.symm hko)).trans ((hs1.gr.block k (by omega) (Ne.symm hko)).trans (FR.out k hk hkB (Ne.symm hko))))))
          · exact hset.os.trans (hg4.os.trans (hs3.gr.os.trans (hs2.gr.os.trans (hs1.gr.os.trans OSR.out.1))))
          · exact hset.tape.trans (hg4.tape.trans (hs3.gr.tape.trans (hs2.gr.tape.trans (hs1.gr.tape.trans OSR.out.2.1))))
          · exact hset.output.trans (hg4.output.trans (hs3.gr.output.trans (hs2.gr.output.trans (hs1.gr.output.trans OSR.out.2.2))))
          · have : b4 = g := by simpa [Value.ownBlock] using hg
            rw [← this]
            exact hb4.imp id (fun h => by omega)
        clear hl1 hl2 hl3 hs1 hs2 hs3 hr1 hr2 hr3 hr4 ho4 hg4 hBo3 hBo4 hown3 hownR hBoR toEnd hset hkvo ne4 hkvB hBog hb1 hb2 hb3 hb4
        go_wp2_with (first
          | (at_builtin; refine wpList_append_rv rfl _ _ _ rfl _ _ _ rfl rfl HR1.out ?_; clear HR1)
          | (at_builtin; refine wpList_append_rv rfl _ _ _ rfl _ _ _ rfl rfl HR2.out ?_; clear HR2)
          | (at_builtin; refine wpList_append_rv rfl _ _ _ rfl _ _ _ rfl rfl HR3.out ?_; clear HR3)
          | (at_builtin; refine wpList_append_rv rfl _ _ _ rfl _ _ _ rfl rfl HR4.out ?_; clear HR4))
        go_end0
        exact ⟨rfl, HT.out⟩
end Go.Proofs.YtlncjgnomhpjnaaGreatDoor

/-
  The book: lists of lists go into it; their laws.
-/
namespace Go.Proofs.YtlncjgnomhpjnaaGreatDoor
open Go.RowKit Go.Deep
set_option linter.unusedVariables false

theorem BookP.mono {S S' : Nat → Prop} {w : World} {B K : Nat} (h : BookP S w B K) (hS : ∀ k, S k → S' k) (hl : ∀ k, S' k → k < w.heap.size) : BookP S' w B K := by
  obtain ⟨kv, lv, j, j2, ks, ls, h⟩ := h
  exact ⟨kv, lv, j, j2, ks, ls, h.blk, hS _ h.inB, h.own, h.own2, fun g hg => hS _ (h.inK g hg), fun g hg => hS _ (h.inL g hg), fun i hi => (h.ents i hi).mono fun v n m s => s.keep (fun _ _ _ => rfl) hS, fun i hi => (h.ents2 i hi).mono fun v n m s => s.keep (fun _ _ _ => rfl) hS, h.cnt, hl⟩
/-- a list of lists of one mark -/
def LM (P : Nat → Prop) (w : World) (v : Value) (n : Nat) (og : Option Nat) (m : Int) : Prop := ∃ x, LstE 29 w v n og x ∧ ∀ i, i < n → MkL P w m (x i)
theorem MkL.gr {P : Nat → Prop} {w w' : World} {u : Value} {m : Int} {og : Option Nat} (h : MkL P w m u) (hg : w.grownBy w' og) (ho : ∀ g, og = some g → ∀ N f, ¬ w.rowIs g 3 N f) : MkL P w' m u := by
  obtain ⟨q, h1, h2, h3⟩ := h
  exact ⟨q, h1, h2, h3.of_block (hg.block q h3.lt (fun e => ho q e.symm _ _ h3))⟩
theorem row_type {w : World} {g N N' : Nat} {e e' : TypeId} {f f' : Nat → Value} (h : w.rowIs g e N f) (h' : w.rowIs g e' N' f') : e = e' := by
  obtain ⟨c, h1, -⟩ := h
  obtain ⟨c', h2, -⟩ := h'
  rw [h1] at h2
  injection h2 with h2
  injection h2
theorem LstE.notInt {w : World} {v : Value} {n : Nat} {og : Option Nat} {x : Nat → Value} (h : LstE 29 w v n og x) : ∀ g, og = some g → ∀ N f, ¬ w.rowIs g 3 N f := fun g hg N f hr => by
  obtain ⟨N', f', hr'⟩ := h.row hg
  exact absurd (row_type hr hr') (by decide)
theorem LM.step {P : Nat → Prop} {w w' : World} {v : Value} {n : Nat} {og og2 : Option Nat} {m : Int} {news : List Value} (h : LM P w v n og2 m) (hs : StepE 29 og news w w') (ho : ∀ g, og = some g → ∀ N f, ¬ w.rowIs g 3 N f) (hn : ∀ u ∈ news, MkL P w' m u) : LM P w' v n og2 m := by
  obtain ⟨x, h1, h2⟩ := h
  by_cases e : og2 = og
  · subst e
    obtain ⟨x', h3, h4⟩ := h1.step hs
    refine ⟨x', h3, fun i hi => ?_⟩
    rcases h4 i hi with e | e
    · rw [e]; exact (h2 i hi).gr hs.gr ho
    · exact hn _ e
  · exact ⟨x, h1.keep fun g hg => hs.gr.block g (h1.lt hg) (fun e' => e (hg.trans e')), fun i hi => (h2 i hi).gr hs.gr ho⟩
theorem LM.alloc {P : Nat → Prop} {w : World} {v : Value} {n : Nat} {og : Option Nat} {m : Int} (h : LM P w v n og m) (o : Obj) : LM P (w.alloc o) v n og m := by
  obtain ⟨x, h1, h2⟩ := h
  exact ⟨x, h1.keep fun g hg => blk_alloc_lt _ _ _ (h1.lt hg), fun i hi => (h2 i hi).gr (World.grownBy_alloc w o none) (fun g hg => by cases hg)⟩
theorem LM.notInt {P : Nat → Prop} {w : World} {v : Value} {n : Nat} {og : Option Nat} {m : Int} (h : LM P w v n og m) : ∀ g, og = some g → ∀ N f, ¬ w.rowIs g 3 N f := by
  obtain ⟨x, h1, -⟩ := h
  exact h1.notInt
/-- lists of one mark are appended -/
theorem app_LM (P : Nat → Prop) (w : World) (v : Value) (n : Nat) (og : Option Nat) (m : Int) (arr : Array Value) (h : LM P w v n og m) (hn : n ≤ 1000000) (hk1 : 1 ≤ arr.size) (hk : arr.size ≤ 3) (ha : ∀ u ∈ arr.toList, MkL P w m u) (ty : TypeId) :
    ∃ b o c w', (Builtin.append_ #[24, 24] ty #[v, .slice (some ⟨w.heap.size, 0, none⟩) arr.size arr.size]).run Tryz.prog (w.alloc (.cells arr 29)) = .ok (.slice (some ⟨b, o, none⟩) (n + arr.size) c) w' ∧
      (og = some b ∨ w.heap.size ≤ b) ∧ LM P w' (.slice (some ⟨b, o, none⟩) (n + arr.size) c) (n + arr.size) (some b) m ∧ LM P w' v n og m ∧ StepE 29 og arr.toList w w' ∧ ∀ u ∈ arr.toList, MkL P w' m u := by
  have hno := h.notInt
  obtain ⟨x, h1, h2⟩ := h
  obtain ⟨b, o, c, w', x', hr, hb, hl, q1, q2, hs⟩ := app_gen 24 29 (.slice none 0 0) 24 Tryz.underlying24 infoSlice rfl w v n og x arr h1 hk1 (fun u hu => by obtain ⟨q, e, -⟩ := ha u hu; rw [e]; rfl) (by omega) (by omega) ty
  have hn' : ∀ u ∈ arr.toList, MkL P w' m u := fun u hu => (ha u hu).gr hs.gr hno
  refine ⟨b, o, c, w', hr, hb, ⟨x', hl, fun i hi => ?_⟩, LM.step ⟨x, h1, h2⟩ hs hno hn', hs, hn'⟩
  rcases Nat.lt_or_ge i n with hin | hin
  · rw [q1 i hin]; exact (h2 i hin).gr hs.gr hno
  · have := q2 (i - n) (by omega)
    rw [show n + (i - n) = i by omega] at this
    rw [this]
    exact hn' _ (by simp)
theorem mkl_new (P : Nat → Prop) (w : World) (m : Int) (hP : P w.heap.size) : MkL P (w.alloc (.cells #[.int .i64 m] 3)) m (.slice (some ⟨w.heap.size, 0, none⟩) 1 1) := by
  refine ⟨w.heap.size, rfl, hP, #[.int .i64 m], blk_alloc_new _ _, rfl, fun i hi => ?_⟩
  have e : i = 0 := by omega
  subst e
  rfl
theorem MkL.alloc {P : Nat → Prop} {w : World} {m : Int} {u : Value} (h : MkL P w m u) (o : Obj) : MkL P (w.alloc o) m u := h.gr (World.grownBy_alloc w o none) (fun g hg => by cases hg)

/-- what taking lists leaves -/
structure TookA (S : Nat → Prop) (w w' : World) (B K n : Nat) (og : Option Nat) (ogs : Nat → Option Nat) : Prop where
  book : BookP (fun k => (S k ∨ og = some k ∨ (∃ i, i < n ∧ ogs i = some k) ∨ w.heap.size ≤ k) ∧ k < w'.heap.size) w' B (K + n + 1)
  os : w'.os = w.os
  tape : w'.tape = w.tape
  output : w'.output = w.output
  size : w.heap.size ≤ w'.heap.size
  block : ∀ k, k < w.heap.size → ¬ S k → og ≠ some k → (∀ i, i < n → ogs i ≠ some k) → w'.heap[k]? = w.heap[k]?
/-- while lists are taken -/
structure TakeI (S : Nat → Prop) (w wr : World) (B K i : Nat) (ogs : Nat → Option Nat) : Prop where
  book : BookP (fun k => (S k ∨ (∃ q, q < i ∧ ogs q = some k) ∨ w.heap.size ≤ k) ∧ k < wr.heap.size) wr B (K + i)
  os : wr.os = w.os
  tape : wr.tape = w.tape
  output : wr.output = w.output
  size : w.heap.size ≤ wr.heap.size
  block : ∀ k, k < w.heap.size → ¬ S k → (∀ q, q < i → ogs q ≠ some k) → wr.heap[k]? = w.heap[k]?
theorem TakeI.start {S : Nat → Prop} {w : World} {B K : Nat} {ogs : Nat → Option Nat} (h : BookP S w B K) : TakeI S w w B K 0 ogs :=
  ⟨h.mono (fun k hk => ⟨.inl hk, by obtain ⟨kv, lv, j, j2, ks, ls, h⟩ := h; exact h.low k hk⟩) (fun k hk => hk.2), rfl, rfl, rfl, Nat.le_refl _, fun _ _ _ _ => rfl⟩
theorem TakeI.next {S : Nat → Prop} {w wr u : World} {B K i : Nat} {ogs : Nat → Option Nat} (h : TakeI S w wr B K i ogs) (ht : TookP (fun k => (S k ∨ (∃ q, q < i ∧ ogs q = some k) ∨ w.heap.size ≤ k) ∧ k < wr.heap.size) wr u B (K + i) (ogs i)) : TakeI S w u B K (i + 1) ogs := by
  have hs := h.size
  refine ⟨?_, ht.os.trans h.os, ht.tape.trans h.tape, ht.output.trans h.output, Nat.le_trans h.size ht.size, fun k hk hn hq => ?_⟩
  · refine ht.book.mono (fun k hk => ⟨?_, hk.2⟩) (fun k hk => hk.2)
    rcases hk.1 with ⟨h1 | ⟨q, h1, h2⟩ | h1, -⟩ | h1 | h1
    · exact .inl h1
    · exact .inr (.inl ⟨q, by omega, h2⟩)
    · exact .inr (.inr h1)
    · exact .inr (.inl ⟨i, by omega, h1⟩)
    · exact .inr (.inr (by omega))
  · refine (ht.block k (by omega) (fun hh => ?_) (hq i (by omega))).trans (h.block k hk hn (fun q hqi => hq q (by omega)))
    rcases hh.1 with h1 | ⟨q, h1, h2⟩ | h1
    · exact hn h1
    · exact hq q (by omega) h2
    · omega
theorem tookA_of {S : Nat → Prop} {w W w' : World} {B K j j2 n b1 b2 b3 : Nat} {kv lv lv' l v1 v2 v3 : Value} {ks ls : List Value} {og : Option Nat} {ogs : Nat → Option Nat} {m : Int} (hT : TakeI S w W B K n ogs) (hB : BookIs (fun k => (S k ∨ (∃ q, q < n ∧ ogs q = some k) ∨ w.heap.size ≤ k) ∧ k < W.heap.size) W B kv lv j j2 ks ls (K + n))
    (hS : ∀ g, og = some g → ¬ S g) (hq : ∀ g, og = some g → ∀ q, q < n → ogs q ≠ some g) (hlt : ∀ g, og = some g → g < w.heap.size) (hn : n ≤ 1000000)
    (F : ∀ k, k < W.heap.size → k ≠ B → og ≠ some k → lv.ownBlock ≠ some k → w'.heap[k]? = W.heap[k]?) (h1 : w'.os = W.os) (h2 : w'.tape = W.tape) (h3 : w'.output = W.output) (hs : W.heap.size ≤ w'.heap.size)
    (hBk : Bk w' B kv lv' (((K + n : Nat) : Int) + 1)) (hown : w'.ownsRow 0 75 6 lv' (j2 + 1) (ls ++ [l, v1, v2, v3, .int .i64 ((n : Nat) : Int), .int .i64 m])) (hlv' : ∀ g, lv'.ownBlock = some g → lv.ownBlock = some g ∨ W.heap.size ≤ g)
    (L0 : LM (fun k => W.heap.size ≤ k) w' l n og m) (L1 : LM (fun k => W.heap.size ≤ k) w' v1 (n + 1) (some b1) m) (L2 : LM (fun k => W.heap.size ≤ k) w' v2 (n + 2) (some b2) m) (L3 : LM (fun k => W.heap.size ≤ k) w' v3 (n + 3) (some b3) m)
    (hb1 : og = some b1 ∨ W.heap.size ≤ b1) (hb2 : og = some b2 ∨ W.heap.size ≤ b2) (hb3 : og = some b3 ∨ W.heap.size ≤ b3) : TookA S w w' B K n og ogs := by
  have hwW := hT.size
  have noS : ∀ g, og = some g → ¬ ((S g ∨ (∃ q, q < n ∧ ogs q = some g) ∨ w.heap.size ≤ g) ∧ g < W.heap.size) := fun g hg h => by
    rcases h.1 with h1 | ⟨q, h1, h2⟩ | h1
    · exact hS g hg h1
    · exact hq g hg q h1 h2
    · have := hlt g hg; omega
  have keepR : ∀ k, ((S k ∨ (∃ q, q < n ∧ ogs q = some k) ∨ w.heap.size ≤ k) ∧ k < W.heap.size) → IsRow W k → w'.heap[k]? = W.heap[k]? := fun k hk ⟨e, N, f, he, hr⟩ => by
    refine F k hr.lt (row_ne_book hB.blk hr (by rcases he with rfl | rfl <;> decide)) (fun e => noS k e hk) (own_ne_row hB.own2 hr (by rcases he with rfl | rfl <;> decide))
  have inS : ∀ k, ((S k ∨ (∃ q, q < n ∧ ogs q = some k) ∨ w.heap.size ≤ k) ∧ k < W.heap.size) → (S k ∨ og = some k ∨ (∃ i, i < n ∧ ogs i = some k) ∨ w.heap.size ≤ k) ∧ k < w'.heap.size := fun k hk => ⟨by
    rcases hk.1 with h1 | h1 | h1
    · exact .inl h1
    · exact .inr (.inr (.inl h1))
    · exact .inr (.inr (.inr h1)), by have := hk.2; omega⟩
  have inN : ∀ {v : Value} {q : Nat} {og2 : Option Nat}, LM (fun k => W.heap.size ≤ k) w' v q og2 m → (∀ b, og2 = some b → og = some b ∨ W.heap.size ≤ b) → ShL (fun k => (S k ∨ og = some k ∨ (∃ i, i < n ∧ ogs i = some k) ∨ w.heap.size ≤ k) ∧ k < w'.heap.size) w' v q m := fun {v q og2} hl hb => by
    obtain ⟨x, hl, hx⟩ := hl
    refine ⟨og2, x, hl, fun g hg => ⟨?_, hl.lt hg⟩, fun i hi => ?_⟩
    · rcases hb g hg with h | h
      · exact .inr (.inl h)
      · exact .inr (.inr (.inr (by omega)))
    · obtain ⟨h, e1, e2, e3⟩ := hx i hi
      exact ⟨h, e1, ⟨.inr (.inr (.inr (Nat.le_trans hwW e2))), e3.lt⟩, e3⟩
  refine ⟨⟨kv, lv', j, j2 + 1, ks, ls ++ [l, v1, v2, v3, .int .i64 ((n : Nat) : Int), .int .i64 m], ?_⟩, h1.trans hT.os, h2.trans hT.tape, h3.trans hT.output, Nat.le_trans hwW hs, fun k hk hnS hno hnq => ?_⟩
  · have o1 : w'.ownsRow 0 79 6 kv j ks := by
      refine ⟨hB.own.1, ?_⟩
      rcases hB.own.2 with h0 | ⟨g, cap, cur, e, q1, q2, q3⟩
      · exact .inl h0
      · refine .inr ⟨g, cap, cur, e, q1, ?_, q3⟩
        subst e
        have hlt := (Array.getElem?_eq_some_iff.1 q2).1
        rw [F g hlt (fun e => own_ne_book hB.blk hB.own (by decide) (by rw [e]; rfl)) (fun e => noS g e (hB.inK g rfl)) (fun e => ?_)]
        · exact q2
        · rcases own_ne_own hB.own2 hB.own (by decide) with h | h
          · rw [h] at e; cases e
          · exact h e
    refine ⟨by rw [show ((K + n + 1 : Nat) : Int) = ((K + n : Nat) : Int) + 1 by omega]; exact hBk, inS _ hB.inB, o1, hown, fun g hg => inS _ (hB.inK g hg), fun g hg => ?_, fun i hi => (hB.ents i hi).mono fun v q mm s => s.keep keepR inS, fun i hi => ?_, by have := hB.cnt; omega, fun k hk => hk.2⟩
    · rcases hlv' g hg with h | h
      · exact inS _ (hB.inL g h)
      · exact ⟨.inr (.inr (.inr (by omega))), (hown.lt g hg).2⟩
    · rcases Nat.lt_or_ge i j2 with hij | hij
      · exact ((hB.ents2 i hij).mono fun v q mm s => s.keep keepR inS).app
      · have e : i = j2 := by omega
        subst e
        refine Ent.last hB.own2.1 hn (inN L0 (fun b hb => .inl hb)) (inN L1 (fun b hb => by injection hb with hb; subst hb; exact hb1)) (inN L2 (fun b hb => by injection hb with hb; subst hb; exact hb2)) (inN L3 (fun b hb => by injection hb with hb; subst hb; exact hb3))
  · have hkn : ¬ ((S k ∨ (∃ q, q < n ∧ ogs q = some k) ∨ w.heap.size ≤ k) ∧ k < W.heap.size) := fun h => by
      rcases h.1 with h1 | ⟨q, h1, h2⟩ | h1
      · exact hnS h1
      · exact hnq q h1 h2
      · omega
    exact (F k (by omega) (fun e => hkn (e ▸ hB.inB)) hno (fun e => hkn (hB.inL k e))).trans (hT.block k hk hnS hnq)
end Go.Proofs.YtlncjgnomhpjnaaGreatDoor

/-
  The book: lists of lists go into it.
-/
namespace Go.Proofs.YtlncjgnomhpjnaaGreatDoor
open Go.RowKit Go.Deep
set_option linter.unusedVariables false

theorem mkl_two (P : Nat → Prop) (w : World) (m : Int) (hP : ∀ k, w.heap.size ≤ k → P k) : MkL P ((w.alloc (.cells #[.int .i64 m] 3)).alloc (.cells #[.int .i64 m] 3)) m (.slice (some ⟨w.heap.size, 0, none⟩) 1 1) ∧ MkL P ((w.alloc (.cells #[.int .i64 m] 3)).alloc (.cells #[.int .i64 m] 3)) m (.slice (some ⟨w.heap.size + 1, 0, none⟩) 1 1) := by
  refine ⟨(mkl_new P w m (hP _ (Nat.le_refl _))).alloc _, ?_⟩
  have := mkl_new P (w.alloc (.cells #[.int .i64 m] 3)) m (hP _ (by simp))
  rw [World.size_alloc] at this
  exact this
theorem mkl_three (P : Nat → Prop) (w : World) (m : Int) (hP : ∀ k, w.heap.size ≤ k → P k) : MkL P (((w.alloc (.cells #[.int .i64 m] 3)).alloc (.cells #[.int .i64 m] 3)).alloc (.cells #[.int .i64 m] 3)) m (.slice (some ⟨w.heap.size, 0, none⟩) 1 1) ∧ MkL P (((w.alloc (.cells #[.int .i64 m] 3)).alloc (.cells #[.int .i64 m] 3)).alloc (.cells #[.int .i64 m] 3)) m (.slice (some ⟨w.heap.size + 1, 0, none⟩) 1 1) ∧ MkL P (((w.alloc (.cells #[.int .i64 m] 3)).alloc (.cells #[.int .i64 m] 3)).alloc (.cells #[.int .i64 m] 3)) m (.slice (some ⟨w.heap.size + 1 + 1, 0, none⟩) 1 1) := by
  refine ⟨(mkl_two P w m hP).1.alloc _, (mkl_two P w m hP).2.alloc _, ?_⟩
  have := mkl_new P ((w.alloc (.cells #[.int .i64 m] 3)).alloc (.cells #[.int .i64 m] 3)) m (hP _ (by simp; omega))
  rw [World.size_alloc, World.size_alloc] at this
  exact this
/-- three times lists of one mark are appended, each time to the same list -/
theorem app_three (W : World) (wr : World) (v : Value) (n : Nat) (og : Option Nat) (m : Int) (hWr : W.heap.size ≤ wr.heap.size) (h : LM (fun k => W.heap.size ≤ k) wr v n og m) (hn : n ≤ 1000000) (ty : TypeId) :
    ∃ b1 o1 c1 u1 b2 o2 c2 u2 b3 o3 c3 u3,
      (Builtin.append_ #[24, 24] ty #[v, .slice (some ⟨wr.heap.size + 1, 0, none⟩) 1 1]).run Tryz.prog ((wr.alloc (.cells #[.int .i64 m] 3)).alloc (.cells #[.slice (some ⟨wr.heap.size, 0, none⟩) 1 1] 29)) = .ok (.slice (some ⟨b1, o1, none⟩) (n + 1) c1) u1 ∧
      (Builtin.append_ #[24, 24] ty #[v, .slice (some ⟨u1.heap.size + 1 + 1, 0, none⟩) 2 2]).run Tryz.prog (((u1.alloc (.cells #[.int .i64 m] 3)).alloc (.cells #[.int .i64 m] 3)).alloc (.cells #[.slice (some ⟨u1.heap.size, 0, none⟩) 1 1, .slice (some ⟨u1.heap.size + 1, 0, none⟩) 1 1] 29)) = .ok (.slice (some ⟨b2, o2, none⟩) (n + 2) c2) u2 ∧
      (Builtin.append_ #[24, 24] ty #[v, .slice (some ⟨u2.heap.size + 1 + 1 + 1, 0, none⟩) 3 3]).run Tryz.prog ((((u2.alloc (.cells #[.int .i64 m] 3)).alloc (.cells #[.int .i64 m] 3)).alloc (.cells #[.int .i64 m] 3)).alloc (.cells #[.slice (some ⟨u2.heap.size, 0, none⟩) 1 1, .slice (some ⟨u2.heap.size + 1, 0, none⟩) 1 1, .slice (some ⟨u2.heap.size + 1 + 1, 0, none⟩) 1 1] 29)) = .ok (.slice (some ⟨b3, o3, none⟩) (n + 3) c3) u3 ∧
      (og = some b1 ∨ wr.heap.size ≤ b1) ∧ (og = some b2 ∨ wr.heap.size ≤ b2) ∧ (og = some b3 ∨ wr.heap.size ≤ b3) ∧
      LM (fun k => W.heap.size ≤ k) u3 v n og m ∧ LM (fun k => W.heap.size ≤ k) u3 (.slice (some ⟨b1, o1, none⟩) (n + 1) c1) (n + 1) (some b1) m ∧ LM (fun k => W.heap.size ≤ k) u3 (.slice (some ⟨b2, o2, none⟩) (n + 2) c2) (n + 2) (some b2) m ∧ LM (fun k => W.heap.size ≤ k) u3 (.slice (some ⟨b3, o3, none⟩) (n + 3) c3) (n + 3) (some b3) m ∧
      wr.grownBy u3 og ∧ wr.heap.size ≤ u1.heap.size ∧ u1.heap.size ≤ u2.heap.size ∧ u2.heap.size ≤ u3.heap.size := by
  have hP : ∀ u : World, wr.heap.size ≤ u.heap.size → ∀ k, u.heap.size ≤ k → (fun k => W.heap.size ≤ k) k := fun u hu k hk => by show W.heap.size ≤ k; omega
  have A1 := World.grownBy_alloc wr (.cells #[.int .i64 m] 3) og
  obtain ⟨b1, o1, c1, u1, r1, hb1, l1, k1, s1, -⟩ := app_LM (fun k => W.heap.size ≤ k) (wr.alloc (.cells #[.int .i64 m] 3)) v n og m #[.slice (some ⟨wr.heap.size, 0, none⟩) 1 1] (h.alloc _) hn (by simp) (by simp) (by
    intro u hu; simp at hu; rw [hu]; exact mkl_new _ wr m hWr) ty
  have z1 := s1.gr.size
  rw [World.size_alloc] at r1 hb1 z1
  have G1 : wr.grownBy u1 og := gr_trans A1 s1.gr
  have hw1 : wr.heap.size ≤ u1.heap.size := by omega
  have A2 := gr_trans (World.grownBy_alloc u1 (.cells #[.int .i64 m] 3) og) (World.grownBy_alloc (u1.alloc (.cells #[.int .i64 m] 3)) (.cells #[.int .i64 m] 3) og)
  have M2 := mkl_two (fun k => W.heap.size ≤ k) u1 m (hP u1 hw1)
  obtain ⟨b2, o2, c2, u2, r2, hb2, l2, k2, s2, n2⟩ := app_LM (fun k => W.heap.size ≤ k) ((u1.alloc (.cells #[.int .i64 m] 3)).alloc (.cells #[.int .i64 m] 3)) v n og m #[.slice (some ⟨u1.heap.size, 0, none⟩) 1 1, .slice (some ⟨u1.heap.size + 1, 0, none⟩) 1 1] ((k1.alloc _).alloc _) hn (by simp) (by simp) (by
    intro u hu; simp at hu; rcases hu with hu | hu <;> rw [hu]
    · exact M2.1
    · exact M2.2) ty
  have z2 := s2.gr.size
  rw [World.size_alloc, World.size_alloc] at r2 hb2 z2
  have G2 : wr.grownBy u2 og := gr_trans G1 (gr_trans A2 s2.gr)
  have hw2 : u1.heap.size ≤ u2.heap.size := by omega
  have A3 := gr_trans (gr_trans (World.grownBy_alloc u2 (.cells #[.int .i64 m] 3) og) (World.grownBy_alloc (u2.alloc (.cells #[.int .i64 m] 3)) (.cells #[.int .i64 m] 3) og)) (World.grownBy_alloc ((u2.alloc (.cells #[.int .i64 m] 3)).alloc (.cells #[.int .i64 m] 3)) (.cells #[.int .i64 m] 3) og)
  have M3 := mkl_three (fun k => W.heap.size ≤ k) u2 m (hP u2 (by omega))
  obtain ⟨b3, o3, c3, u3, r3, hb3, l3, k3, s3, n3⟩ := app_LM (fun k => W.heap.size ≤ k) (((u2.alloc (.cells #[.int .i64 m] 3)).alloc (.cells #[.int .i64 m] 3)).alloc (.cells #[.int .i64 m] 3)) v n og m #[.slice (some ⟨u2.heap.size, 0, none⟩) 1 1, .slice (some ⟨u2.heap.size + 1, 0, none⟩) 1 1, .slice (some ⟨u2.heap.size + 1 + 1, 0, none⟩) 1 1] (((k2.alloc _).alloc _).alloc _) hn (by simp) (by simp) (by
    intro u hu; simp at hu; rcases hu with hu | hu | hu <;> rw [hu]
    · exact M3.1
    · exact M3.2.1
    · exact M3.2.2) ty
  have z3 := s3.gr.size
  rw [World.size_alloc, World.size_alloc, World.size_alloc] at r3 hb3 z3
  have nI : ∀ u : World, wr.grownBy u og → ∀ g, og = some g → ∀ N f, LM (fun k => W.heap.size ≤ k) u v n og m → ¬ u.rowIs g 3 N f := fun u _ g hg N f hl => hl.notInt g hg N f
  refine ⟨b1, o1, c1, u1, b2, o2, c2, u2, b3, o3, c3, u3, r1, r2, r3, hb1.imp id (fun h => by omega), hb2.imp id (fun h => by omega), hb3.imp id (fun h => by omega), k3, ?_, ?_, l3, gr_trans G2 (gr_trans A3 s3.gr), by omega, by omega, by omega⟩
  · have e2 : LM (fun k => W.heap.size ≤ k) u2 (.slice (some ⟨b1, o1, none⟩) (n + 1) c1) (n + 1) (some b1) m := ((l1.alloc _).alloc _).step s2 ((k1.alloc _).alloc _).notInt n2
    exact (((e2.alloc _).alloc _).alloc _).step s3 (((k2.alloc _).alloc _).alloc _).notInt n3
  · exact (((l2.alloc _).alloc _).alloc _).step s3 (((k2.alloc _).alloc _).alloc _).notInt n3
theorem LM.keep {P : Nat → Prop} {w w' : World} {v : Value} {n : Nat} {og : Option Nat} {m : Int} (h : LM P w v n og m) (hb : ∀ k, IsRow w k → w'.heap[k]? = w.heap[k]?) : LM P w' v n og m := by
  obtain ⟨x, h1, h2⟩ := h
  exact ⟨x, h1.keep fun g hg => hb g (h1.isRow (.inr rfl) hg), fun i hi => (h2 i hi).keep (fun k _ hr => hb k hr) (fun _ h => h)⟩
end Go.Proofs.YtlncjgnomhpjnaaGreatDoor

/-
  The book: takeAll.
-/
namespace Go.Proofs.YtlncjgnomhpjnaaGreatDoor
open Go.RowKit Go.Deep
set_option linter.unusedVariables false

set_option maxRecDepth 100000 in
set_option maxHeartbeats 2000000 in
theorem bookTakeAll_none (S : Nat → Prop) (B K : Nat) (ogs : Nat → Option Nat) (w : World) (hK : K ≤ 500000000000) (hBP : BookP S w B K) :
    Calls Tryz.prog 16 #[.pointer (some ⟨B, 0, none⟩), .slice none 0 0] w fun e w' => e = .returned (.tuple #[]) ∧ TookA S w w' B K 0 none ogs := by
  obtain ⟨W, hWW⟩ : ∃ W, W = w := ⟨_, rfl⟩
  have hTI : TakeI S w W B K 0 ogs := by rw [hWW]; exact TakeI.start hBP
  obtain ⟨kv, lv, j, j2, ks, ls, hB⟩ := hTI.book
  have HTI := Hid.mk' hTI
  have hj2 : j2 ≤ 1000000000000 := by have := hB.cnt; omega
  obtain ⟨c0, c1, c2, f0, f1, f2⟩ := hB.blk.cells
  have hk0 : ((K + 0 : Nat) : Int) = (K : Int) := by omega
  rw [hk0] at c2
  obtain ⟨m, hm⟩ : ∃ m : Int, m = -1000 - ((K : Int) + 1) := ⟨_, rfl⟩
  have hmw : -1000 - ((K : Int) + 1) = m := hm.symm
  have hBlt := hB.blk.lt
  have HB := Hid.mk' hB
  have HS : Hid (∀ g, (none : Option Nat) = some g → ¬ S g) := fun g hg => by cases hg
  have HSQ : Hid (∀ g, (none : Option Nat) = some g → ∀ q, q < 0 → ogs q ≠ some g) := fun g hg => by cases hg
  have HLT : Hid (∀ g, (none : Option Nat) = some g → g < w.heap.size) := fun g hg => by cases hg
  have HLO : Hid (lv.ownBlock = none ∨ lv.ownBlock ≠ none) := Classical.em _
  have HBO : Hid (some B ≠ (none : Option Nat)) := fun e => by cases e
  have HW : Hid (W.grownBy (W.setCell ⟨B, 2, none⟩ (.int .i64 ((K : Int) + 1))) (some B)) := gr_set W ⟨B, 2, none⟩ _
  have hlvB0 := own_ne_book hB.blk hB.own2 (by decide)
  have hn : 0 ≤ 1000000 := by omega
  clear hB hm hTI hBP
  go_enter Tryz.func16, Tryz.ntmps16
  go_wp2
  go_loopw [4] (fun i wr => i = .int .i64 0 ∧ wr = W) (fun i _ => 0)
  case atStart => exact ⟨rfl, hWW.symm⟩
  case round =>
    obtain ⟨rfl, hwr⟩ := hrel
    clear hWW
    subst hwr
    go_wp2
    obtain ⟨W1, hW1⟩ : ∃ W1, W1 = wr.setCell ⟨B, 2, none⟩ (.int .i64 ((K : Int) + 1)) := ⟨_, rfl⟩
    rw [← hW1] at HW
    rw [← hW1]
    have HWE := Hid.mk' hW1
    obtain ⟨W, hWr⟩ : ∃ W, W = wr := ⟨_, rfl⟩
    rw [← hWr] at HTI HB HW HWE
    clear hW1
    go_loopw [6] (fun i wr => i = .int .i64 0 ∧ wr = W1) (fun i _ => 0)
    case atStart => exact ⟨rfl, rfl⟩
    case round =>
      obtain ⟨rfl, hwr⟩ := hrel
      subst hwr
      have HF : Hid (LM (fun k => W.heap.size ≤ k) wr (.slice none 0 0) 0 none m) := ⟨fun _ => undef, .inl ⟨rfl, rfl, rfl⟩, fun i hi => absurd hi (Nat.not_lt_zero i)⟩
      have HZW : Hid (W.heap.size ≤ wr.heap.size) := HW.out.size
      have hownR := HB.out.own2.kept HW.out (.inr hlvB0)
      have hBoR : Bk wr B kv lv (((K + 0 : Nat) : Int) + 1) := by rw [HWE.out, hk0]; exact HB.out.blk.set2 _
      have hBR := hBoR.lt
      have OSR : Hid (wr.os = W.os ∧ wr.tape = W.tape ∧ wr.output = W.output) := ⟨HW.out.os, HW.out.tape, HW.out.output⟩
      have FR : Hid (∀ k, k < W.heap.size → k ≠ B → some k ≠ (none : Option Nat) → wr.heap[k]? = W.heap[k]?) := fun k hk hkB _ => HW.out.block k hk (by simpa using hkB)
      clear c0 c1 c2 f0 f1 f2 hWr
      obtain ⟨b1, o1, c1, u1, b2, o2, c2, u2, b3, o3, c3, u3, hr1, hr2, hr3, hb1, hb2, hb3, hl0, hl1, hl2, hl3, hg3, s1, s2, s3⟩ := app_three W wr (.slice none 0 0) 0 none m HZW.out HF.out hn 24
      have hlvo : lv.ownBlock = none ∨ lv.ownBlock ≠ none := HLO.out
      have hown3 := hownR.kept hg3 hlvo
      have hBog : some B ≠ none := HBO.out
      have hBo3 := hBoR.of (hg3.block B hBR hBog)
      have hB3 := hBo3.lt
      obtain ⟨b4, c4, u4, hr4, ho4, hg4, hb4⟩ := app_wide 37 75 _ 6 112 Tryz.underlying37 infoLists6 rfl (by omega) u3 0 lv j2 ls #[(.slice none 0 0), .slice (some ⟨b1, o1, none⟩) (0 + 1) c1, .slice (some ⟨b2, o2, none⟩) (0 + 2) c2, .slice (some ⟨b3, o3, none⟩) (0 + 3) c3, .int .i64 0, .int .i64 m] hown3 rfl (by intro u hu; simp at hu; rcases hu with rfl | rfl | rfl | rfl | rfl | rfl <;> rfl) (by simp only [maxLen]; omega) (by omega) (Nat.zero_le _) 37
      have s4 := hg4.size
      have hlvB := own_ne_book hBo3 hown3 (by decide)
      have hBo4 := hBo3.of (hg4.block B hB3 (Ne.symm hlvB))
      obtain ⟨d0, d1, d2, e0, e1, e2⟩ := hBo3.cells
      obtain ⟨x0, x1, x2, y0, y1, y2⟩ := hBo4.cells
      have HR1 := Hid.mk' hr1
      have HR2 := Hid.mk' hr2
      have HR3 := Hid.mk' hr3
      have HR4 := Hid.mk' hr4
      have hset := gr_set u4 ⟨B, 1, none⟩ (.slice (some ⟨b4, 0, none⟩) (j2 + 1) c4)
      have hb4B : b4 ≠ B := fun e => own_ne_book hBo4 ho4 (by decide) (by rw [e]; rfl)
      have hsz5 : (u4.setCell ⟨B, 1, none⟩ (.slice (some ⟨b4, 0, none⟩) (j2 + 1) c4)).heap.size = u4.heap.size := by simp
      have toEnd : ∀ {v : Value} {q : Nat} {og2 : Option Nat}, LM (fun k => W.heap.size ≤ k) u3 v q og2 m → LM (fun k => W.heap.size ≤ k) (u4.setCell ⟨B, 1, none⟩ (.slice (some ⟨b4, 0, none⟩) (j2 + 1) c4)) v q og2 m := fun {v q og2} hl => hl.keep fun g ⟨e, N, f, he, hr⟩ =>
        (hset.block g (Nat.lt_of_lt_of_le hr.lt s4) (fun e' => row_ne_book hBo3 hr (by rcases he with rfl | rfl <;> decide) (by injection e'))).trans (hg4.block g hr.lt (fun e' => own_ne_row hown3 hr (by rcases he with rfl | rfl <;> decide) e'.symm))
      have hZW := HZW.out
      have HT : Hid (TookA S w (u4.setCell ⟨B, 1, none⟩ (.slice (some ⟨b4, 0, none⟩) (j2 + 1) c4)) B K 0 none ogs) := by
        refine tookA_of (n := 0) (l := (.slice none 0 0)) (m := m) HTI.out HB.out HS.out HSQ.out HLT.out hn (fun k hk hkB hko hkk => ?_) ?_ ?_ ?_ (by rw [hsz5]; omega) (hBo4.set1 _) (ho4.kept hset (.inr (by simpa [Value.ownBlock] using hb4B))) (fun g hg => ?_) (toEnd hl0) (toEnd hl1) (toEnd hl2) (toEnd hl3) (hb1.imp id (fun h => by omega)) (hb2.imp id (fun h => by omega)) (hb3.imp id (fun h => by omega))
        · exact (hset.block k (by omega) (by simpa using hkB)).trans ((hg4.block k (by omega) (Ne.symm hkk)).trans ((hg3.block k (by omega) (Ne.symm hko)).trans (FR.out k hk hkB (Ne.symm hko))))
        · exact hset.os.trans (hg4.os.trans (hg3.os.trans OSR.out.1))
        · exact hset.tape.trans (hg4.tape.trans (hg3.tape.trans OSR.out.2.1))
        · exact hset.output.trans (hg4.output.trans (hg3.output.trans OSR.out.2.2))
        · have : b4 = g := by simpa [Value.ownBlock] using hg
          rw [← this]
          exact hb4.imp id (fun h => by omega)
      clear hl0 hl1 hl2 hl3 hg3 hr1 hr2 hr3 hr4 ho4 hg4 hBo3 hBo4 hown3 hownR hBoR toEnd hset hlvo hlvB hBog hb1 hb2 hb3 hb4
      go_wp2_with (first
        | (at_builtin; refine wpList_append_rv rfl _ _ _ rfl _ _ _ rfl rfl HR1.out ?_; clear HR1)
        | (at_builtin; refine wpList_append_rv rfl _ _ _ rfl _ _ _ rfl rfl HR2.out ?_; clear HR2)
        | (at_builtin; refine wpList_append_rv rfl _ _ _ rfl _ _ _ rfl rfl HR3.out ?_; clear HR3)
        | (at_builtin; refine wpList_append_rv rfl _ _ _ rfl _ _ _ rfl rfl HR4.out ?_; clear HR4))
      go_end0
      exact ⟨rfl, HT.out⟩
set_option maxRecDepth 100000 in
set_option maxHeartbeats 2000000 in
theorem bookTakeAll_some (S : Nat → Prop) (B K n g o c N : Nat) (f : Nat → Value) (ogs : Nat → Option Nat) (w : World) (hn : n ≤ 1000000) (hK : K ≤ 500000000000) (hBP : BookP S w B K) (hrow : w.rowIs g 29 N f) (hoc : o + c ≤ N) (hnc : n ≤ c) (hS : ¬ S g)
    (hX : ∀ i, i < n → ∃ q x, q ≤ 1000000 ∧ LstE 3 w (f (o + i)) q (ogs i) x) (hXS : ∀ i, i < n → ∀ g, ogs i = some g → ¬ S g) (hXX : ∀ i k, i < n → k < n → i ≠ k → ∀ g, ogs i = some g → ogs k ≠ some g) :
    Calls Tryz.prog 16 #[.pointer (some ⟨B, 0, none⟩), .slice (some ⟨g, o, none⟩) n c] w fun e w' => e = .returned (.tuple #[]) ∧ TookA S w w' B K n (some g) ogs := by
  have HT0 := Hid.mk' (TakeI.start (ogs := ogs) hBP)
  have HX := Hid.mk' hX
  have HXS := Hid.mk' hXS
  have HXX := Hid.mk' hXX
  have HROW := Hid.mk' hrow
  have HSG := Hid.mk' hS
  have hglt := hrow.lt
  have HOG : Hid (∀ q, q < n → ogs q ≠ some g) := fun q hq e => by
    obtain ⟨k, x, -, hl⟩ := hX q hq
    obtain ⟨N', f', hr⟩ := hl.row e
    exact absurd (row_type hr hrow) (by decide)
  clear hX hXS hXX hrow hS hBP
  go_enter Tryz.func16, Tryz.ntmps16
  go_wp2
  go_loopw [4] (fun iv wr => ∃ i : Nat, i ≤ n ∧ iv = .int .i64 i ∧ Hid (TakeI S w wr B K i ogs)) (fun iv _ => n - (intOf iv).toNat)
  case atStart => exact ⟨0, Nat.zero_le _, rfl, HT0.out⟩
  case round =>
    obtain ⟨i, hi, rfl, HR⟩ := hrel
    have hrowr : wr.rowIs g 29 N f := HROW.out.of_block (HR.out.block g hglt HSG.out (fun q hq => HOG.out q (by omega)))
    by_cases hlt : i < n
    · have hcv : wr.cell? ⟨g, o + i, none⟩ = some (f (o + i)) := hrowr.cell (by omega)
      obtain ⟨q, x, hq, hl⟩ := HX.out i hlt
      have hl2 : LstE 3 wr (f (o + i)) q (ogs i) x := hl.keep fun g' hg' => HR.out.block g' (hl.lt hg') (HXS.out i hlt g' hg') (fun q hq e => HXX.out q i (by omega) hlt (by omega) g' e hg')
      have HTK := Hid.mk' (bookTake_any (fun k => (S k ∨ (∃ q, q < i ∧ ogs q = some k) ∨ w.heap.size ≤ k) ∧ k < wr.heap.size) B (K + i) q (ogs i) x (f (o + i)) wr hq (by omega) HR.out.book hl2 (fun g' hg' hh => by
        rcases hh.1 with h1 | ⟨q, h1, h2⟩ | h1
        · exact HXS.out i hlt g' hg' h1
        · exact HXX.out q i (by omega) hlt (by omega) g' h2 hg'
        · have := hl.lt hg'; omega))
      clear hl hl2
      generalize f (o + i) = fv at *
      go_wp2_with (go_at_call 43; refine HTK.out.mono ?_; rintro e u1 ⟨rfl, ht⟩; have HT1 := Hid.mk' (HR.out.next ht); clear HTK ht)
      go_roundw
      case rel => exact ⟨i + 1, by omega, by go_num, HT1.out⟩
      case measure => simp [intOf]; omega
    · have e : i = n := by omega
      subst e
      obtain ⟨W, hWr⟩ : ∃ W, W = wr := ⟨_, rfl⟩
      have HTI : Hid (TakeI S w W B K i ogs) := by rw [hWr]; exact HR.out
      obtain ⟨kv, lv, j, j2, ks, ls, hB⟩ := HTI.out.book
      have hj2 : j2 ≤ 1000000000000 := by have := hB.cnt; omega
      obtain ⟨c0, c1, c2, f0, f1, f2⟩ := hB.blk.cells
      obtain ⟨m, hm⟩ : ∃ m : Int, m = -1000 - (((K + i : Nat) : Int) + 1) := ⟨_, rfl⟩
      have hmw : -1000 - (((K + i : Nat) : Int) + 1) = m := hm.symm
      have hBlt := hB.blk.lt
      have HB := Hid.mk' hB
      have hgB : g ≠ B := row_ne_book hB.blk (by rw [hWr]; exact hrowr) (by decide)
      have HS : Hid (∀ g', some g = some g' → ¬ S g') := fun g' hg' => by injection hg' with hg'; rw [← hg']; exact HSG.out
      have HSQ : Hid (∀ g', some g = some g' → ∀ q, q < i → ogs q ≠ some g') := fun g' hg' => by injection hg' with hg'; rw [← hg']; exact HOG.out
      have HLT : Hid (∀ g', some g = some g' → g' < w.heap.size) := fun g' hg' => by injection hg' with hg'; rw [← hg']; exact hglt
      have HLO : Hid (lv.ownBlock = none ∨ lv.ownBlock ≠ some g) := .inr (own_ne_row hB.own2 (by rw [hWr]; exact hrowr) (by decide))
      have HBO : Hid (some B ≠ some g) := fun e => by injection e with e; exact hgB e.symm
      have HW : Hid (W.grownBy (W.setCell ⟨B, 2, none⟩ (.int .i64 (((K + i : Nat) : Int) + 1))) (some B)) := gr_set W ⟨B, 2, none⟩ _
      have HRW := Hid.mk' hrowr
      have hlvB0 := own_ne_book hB.blk hB.own2 (by decide)
      clear hB hm hrowr
      rw [hWr] at c0 c1 c2 f0 f1 f2
      have hKi : K + i ≤ 600000000000 := by omega
      generalize hKK : ((K + i : Nat) : Int) = KI at *
      have hKb : 0 ≤ KI ∧ KI ≤ 600000000000 := by omega
      have HKK := Hid.mk' hKK
      clear hKK
      go_wp2
      obtain ⟨W1, hW1⟩ : ∃ W1, W1 = W.setCell ⟨B, 2, none⟩ (.int .i64 (KI + 1)) := ⟨_, rfl⟩
      rw [← hW1] at HW
      rw [← hWr, ← hW1]
      have HWE := Hid.mk' hW1
      clear hW1
      have hW1s := HW.out.size
      go_loopw [6] (fun iv wr => ∃ k : Nat, k ≤ i ∧ iv = .int .i64 k ∧ Hid (∃ y : Nat → Value, (∀ q, q < k → MkL (fun k => W.heap.size ≤ k) wr m (y (o + q))) ∧ wr.rowIs g 29 N y ∧ W1.grownBy wr (some g))) (fun iv _ => i - (intOf iv).toNat)
      case atStart => exact ⟨0, Nat.zero_le _, rfl, f, fun q hq => absurd hq (Nat.not_lt_zero q), (by rw [hWr] at HW; exact HRW.out.of_block (HW.out.block g HRW.out.lt (by simpa using hgB))), gr_refl _ _⟩
      case round =>
        obtain ⟨k, hk, rfl, HX2⟩ := hrel
        obtain ⟨y, hy, hrow, hch⟩ := HX2.out
        by_cases hkn : k < i
        · have hc0 : wr.cell? ⟨g, o + k, none⟩ = some (y (o + k)) := hrow.cell (by omega)
          have hf0 := hrow.frozen (o + k)
          have hgl := hrow.lt
          have HY := Hid.mk' hy
          have HR2 := Hid.mk' hrow
          have HCH := Hid.mk' hch
          clear hy hrow hch HX2
          generalize y (o + k) = yv at *
          go_wp2
          go_roundw
          case rel =>
            have hz0 : W.heap.size ≤ wr.heap.size := Nat.le_trans hW1s HCH.out.size
            have hm0 : ∀ g', (some g : Option Nat) = some g' → ∀ N f, ¬ wr.rowIs g' 3 N f := fun g' hg' N' f' hr => by
              injection hg' with hg'
              subst hg'
              exact absurd (row_type hr HR2.out) (by decide)
            refine ⟨k + 1, by omega, by go_num, _, fun q hq => ?_, (HR2.out.set (o + k) _).alloc _, gr_trans (gr_trans HCH.out (gr_set wr ⟨g, o + k, none⟩ _)) (World.grownBy_alloc _ _ _)⟩
            by_cases e : q = k
            · rw [e, if_pos rfl]
              have h := mkl_new (fun k => W.heap.size ≤ k) (wr.setCell ⟨g, o + k, none⟩ (.slice (some ⟨wr.heap.size, 0, none⟩) 1 1)) m (by show W.heap.size ≤ _; simp; exact hz0)
              have hsz : (wr.setCell ⟨g, o + k, none⟩ (.slice (some ⟨wr.heap.size, 0, none⟩) 1 1)).heap.size = wr.heap.size := by simp
              rw [hsz] at h
              exact h
            · rw [if_neg (by omega)]
              exact ((HY.out q (by omega)).gr (gr_set wr ⟨g, o + k, none⟩ _) hm0).alloc _
          case measure => simp [intOf]; omega
        · have e : k = i := by omega
          subst e
          have HF : Hid (LM (fun k => W.heap.size ≤ k) wr (.slice (some ⟨g, o, none⟩) k c) k (some g) m) := ⟨fun q => y (o + q), .inr ⟨g, o, c, N, y, rfl, rfl, hrow, hoc, hnc, fun q _ => rfl⟩, hy⟩
          have HZW : Hid (W.heap.size ≤ wr.heap.size) := Nat.le_trans hW1s hch.size
          have hownR := (HB.out.own2.kept HW.out (.inr hlvB0)).kept hch HLO.out
          have hBoR : Bk wr B kv lv (((K + k : Nat) : Int) + 1) := by
            rw [HKK.out]
            exact (by rw [HWE.out]; exact HB.out.blk.set2 _ : Bk W1 B kv lv (KI + 1)).of (hch.block B (Nat.lt_of_lt_of_le hBlt HW.out.size) HBO.out)
          have hBR := hBoR.lt
          have OSR : Hid (wr.os = W.os ∧ wr.tape = W.tape ∧ wr.output = W.output) := ⟨hch.os.trans HW.out.os, hch.tape.trans HW.out.tape, hch.output.trans HW.out.output⟩
          have FR : Hid (∀ k, k < W.heap.size → k ≠ B → some k ≠ some g → wr.heap[k]? = W.heap[k]?) := fun k hk hkB hkg => (hch.block k (Nat.lt_of_lt_of_le hk HW.out.size) hkg).trans (HW.out.block k hk (by simpa using hkB))
          clear hy hrow hch HX2 c0 c1 c2 f0 f1 f2 hWr
          obtain ⟨b1, o1, c1, u1, b2, o2, c2, u2, b3, o3, c3, u3, hr1, hr2, hr3, hb1, hb2, hb3, hl0, hl1, hl2, hl3, hg3, s1, s2, s3⟩ := app_three W wr (.slice (some ⟨g, o, none⟩) k c) k (some g) m HZW.out HF.out hn 24
          have hlvo : lv.ownBlock = none ∨ lv.ownBlock ≠ (some g) := HLO.out
          have hown3 := hownR.kept hg3 hlvo
          have hBog : some B ≠ (some g) := HBO.out
          have hBo3 := hBoR.of (hg3.block B hBR hBog)
          have hB3 := hBo3.lt
          obtain ⟨b4, c4, u4, hr4, ho4, hg4, hb4⟩ := app_wide 37 75 _ 6 112 Tryz.underlying37 infoLists6 rfl (by omega) u3 0 lv j2 ls #[(.slice (some ⟨g, o, none⟩) k c), .slice (some ⟨b1, o1, none⟩) (k + 1) c1, .slice (some ⟨b2, o2, none⟩) (k + 2) c2, .slice (some ⟨b3, o3, none⟩) (k + 3) c3, .int .i64 k, .int .i64 m] hown3 rfl (by intro u hu; simp at hu; rcases hu with rfl | rfl | rfl | rfl | rfl | rfl <;> rfl) (by simp only [maxLen]; omega) (by omega) (Nat.zero_le _) 37
          have s4 := hg4.size
          have hlvB := own_ne_book hBo3 hown3 (by decide)
          have hBo4 := hBo3.of (hg4.block B hB3 (Ne.symm hlvB))
          obtain ⟨d0, d1, d2, e0, e1, e2⟩ := hBo3.cells
          obtain ⟨x0, x1, x2, y0, y1, y2⟩ := hBo4.cells
          have HR1 := Hid.mk' hr1
          have HR2 := Hid.mk' hr2
          have HR3 := Hid.mk' hr3
          have HR4 := Hid.mk' hr4
          have hset := gr_set u4 ⟨B, 1, none⟩ (.slice (some ⟨b4, 0, none⟩) (j2 + 1) c4)
          have hb4B : b4 ≠ B := fun e => own_ne_book hBo4 ho4 (by decide) (by rw [e]; rfl)
          have hsz5 : (u4.setCell ⟨B, 1, none⟩ (.slice (some ⟨b4, 0, none⟩) (j2 + 1) c4)).heap.size = u4.heap.size := by simp
          have toEnd : ∀ {v : Value} {q : Nat} {og2 : Option Nat}, LM (fun k => W.heap.size ≤ k) u3 v q og2 m → LM (fun k => W.heap.size ≤ k) (u4.setCell ⟨B, 1, none⟩ (.slice (some ⟨b4, 0, none⟩) (j2 + 1) c4)) v q og2 m := fun {v q og2} hl => hl.keep fun g ⟨e, N, f, he, hr⟩ =>
            (hset.block g (Nat.lt_of_lt_of_le hr.lt s4) (fun e' => row_ne_book hBo3 hr (by rcases he with rfl | rfl <;> decide) (by injection e'))).trans (hg4.block g hr.lt (fun e' => own_ne_row hown3 hr (by rcases he with rfl | rfl <;> decide) e'.symm))
          have hZW := HZW.out
          have HT : Hid (TookA S w (u4.setCell ⟨B, 1, none⟩ (.slice (some ⟨b4, 0, none⟩) (j2 + 1) c4)) B K k (some g) ogs) := by
            refine tookA_of (n := k) (l := (.slice (some ⟨g, o, none⟩) k c)) (m := m) HTI.out HB.out HS.out HSQ.out HLT.out hn (fun k hk hkB hko hkk => ?_) ?_ ?_ ?_ (by rw [hsz5]; omega) (hBo4.set1 _) (ho4.kept hset (.inr (by simpa [Value.ownBlock] using hb4B))) (fun g hg => ?_) (toEnd hl0) (toEnd hl1) (toEnd hl2) (toEnd hl3) (hb1.imp id (fun h => by omega)) (hb2.imp id (fun h => by omega)) (hb3.imp id (fun h => by omega))
            · exact (hset.block k (by omega) (by simpa using hkB)).trans ((hg4.block k (by omega) (Ne.symm hkk)).trans ((hg3.block k (by omega) (Ne.symm hko)).trans (FR.out k hk hkB (Ne.symm hko))))
            · exact hset.os.trans (hg4.os.trans (hg3.os.trans OSR.out.1))
            · exact hset.tape.trans (hg4.tape.trans (hg3.tape.trans OSR.out.2.1))
            · exact hset.output.trans (hg4.output.trans (hg3.output.trans OSR.out.2.2))
            · have : b4 = g := by simpa [Value.ownBlock] using hg
              rw [← this]
              exact hb4.imp id (fun h => by omega)
          clear hl0 hl1 hl2 hl3 hg3 hr1 hr2 hr3 hr4 ho4 hg4 hBo3 hBo4 hown3 hownR hBoR toEnd hset hlvo hlvB hBog hb1 hb2 hb3 hb4
          go_wp2_with (first
            | (at_builtin; refine wpList_append_rv rfl _ _ _ rfl _ _ _ rfl rfl HR1.out ?_; clear HR1)
            | (at_builtin; refine wpList_append_rv rfl _ _ _ rfl _ _ _ rfl rfl HR2.out ?_; clear HR2)
            | (at_builtin; refine wpList_append_rv rfl _ _ _ rfl _ _ _ rfl rfl HR3.out ?_; clear HR3)
            | (at_builtin; refine wpList_append_rv rfl _ _ _ rfl _ _ _ rfl rfl HR4.out ?_; clear HR4))
          go_end0
          exact ⟨rfl, HT.out⟩
end Go.Proofs.YtlncjgnomhpjnaaGreatDoor

/-
  The book: it is looked at.
-/
namespace Go.Proofs.YtlncjgnomhpjnaaGreatDoor
open Go.RowKit Go.Deep
set_option linter.unusedVariables false

theorem bookTakeAll_any (S : Nat → Prop) (B K n : Nat) (og : Option Nat) (X : Nat → Value) (L : Value) (ogs : Nat → Option Nat) (w : World) (hn : n ≤ 1000000) (hK : K ≤ 500000000000) (hBP : BookP S w B K) (hL : LstE 29 w L n og X) (hS : ∀ g, og = some g → ¬ S g)
    (hX : ∀ i, i < n → ∃ q x, q ≤ 1000000 ∧ LstE 3 w (X i) q (ogs i) x) (hXS : ∀ i, i < n → ∀ g, ogs i = some g → ¬ S g) (hXX : ∀ i k, i < n → k < n → i ≠ k → ∀ g, ogs i = some g → ogs k ≠ some g) :
    Calls Tryz.prog 16 #[.pointer (some ⟨B, 0, none⟩), L] w fun e w' => e = .returned (.tuple #[]) ∧ TookA S w w' B K n og ogs := by
  rcases hL with ⟨rfl, rfl, rfl⟩ | ⟨g, o, c, N, f, rfl, rfl, hrow, hoc, hnc, hf⟩
  · exact bookTakeAll_none S B K ogs w hK hBP
  · exact bookTakeAll_some S B K n g o c N f ogs w hn hK hBP hrow hoc hnc (hS g rfl) (fun i hi => by rw [hf i hi]; exact hX i hi) hXS hXX
theorem ShM.ints {S : Nat → Prop} {w : World} {v : Value} {n : Nat} {m : Int} (h : ShM S w v n m) : ∃ a c, v = .slice a n c ∧ IntsAt w a n (fun _ => m) := by
  obtain ⟨og, h, -⟩ := h
  rcases h with ⟨rfl, rfl, -⟩ | ⟨g, o, c, N, f, -, rfl, hr, h1, h2, h3⟩
  · exact ⟨none, 0, rfl, fun i hi => absurd hi (Nat.not_lt_zero i)⟩
  · exact ⟨_, c, rfl, fun i hi => ⟨_, rfl, by rw [Addr.add_lit, hr.cell (by omega), h3 i hi]⟩⟩
theorem ShL.lists {S : Nat → Prop} {w : World} {v : Value} {n : Nat} {m : Int} (h : ShL S w v n m) : ∃ a c, v = .slice a n c ∧ ∀ i, i < n → ∃ g o q, a = some ⟨g, o, none⟩ ∧ w.cell? ⟨g, o + i, none⟩ = some (.slice (some ⟨q, 0, none⟩) 1 1) ∧ IntsAt w (some ⟨q, 0, none⟩) 1 (fun _ => m) := by
  obtain ⟨og, x, h, -, hx⟩ := h
  rcases h with ⟨rfl, rfl, -⟩ | ⟨g, o, c, N, f, -, rfl, hr, h1, h2, h3⟩
  · exact ⟨none, 0, rfl, fun i hi => absurd hi (Nat.not_lt_zero i)⟩
  · refine ⟨_, c, rfl, fun i hi => ?_⟩
    obtain ⟨q, e1, -, e3⟩ := hx i hi
    refine ⟨g, o, q, rfl, by rw [hr.cell (by omega), h3 i hi, e1], fun k hk => ⟨_, rfl, ?_⟩⟩
    rw [Addr.add_lit, Nat.zero_add, e3.cell hk]
theorem ints_gr {w w' : World} {a : Option Addr} {n : Nat} {f : Nat → Int} (h : IntsAt w a n f) (hg : w.grownBy w' none) : IntsAt w' a n f := by
  intro i hi
  obtain ⟨y, e, hc⟩ := h i hi
  exact ⟨y, e, hg.cell hc (by simp)⟩
theorem shows_pl (a : Option Addr) (n k c : Nat) (v : Int) (w : World) (hn : n ≤ 2000000) (hk : k ≤ 3) (hI : IntsAt w a (n + k) (fun _ => v)) :
    Calls Tryz.prog 46 #[.slice a (n + k) c, .int .i64 ((n : Int) + (k : Int)), .int .i64 v] w fun e w' => e = .returned (.bool true) ∧ w' = w := by
  have := shows_yes a (n + k) c v w (by omega) hI
  rwa [show (((n + k : Nat)) : Int) = (n : Int) + (k : Int) by omega] at this
/-- lists of one mark each -/
def ListsM (w : World) (a : Option Addr) (n : Nat) (m : Int) : Prop := ∀ i, i < n → ∃ g o q, a = some ⟨g, o, none⟩ ∧ w.cell? ⟨g, o + i, none⟩ = some (.slice (some ⟨q, 0, none⟩) 1 1) ∧ IntsAt w (some ⟨q, 0, none⟩) 1 (fun _ => m)
set_option maxHeartbeats 1000000 in
theorem shown_yes (a : Option Addr) (n c : Nat) (m : Int) (w : World) (hn : n ≤ 2000000) (hI : ListsM w a n m) :
    Calls Tryz.prog 47 #[.slice a n c, .int .i64 n, .int .i64 m] w fun e w' => e = .returned (.bool true) ∧ w' = w := by
  have HI := Hid.mk' hI
  clear hI
  go_enter Tryz.func47, Tryz.ntmps47
  go_wp2
  go_loopw [6, 7, 8] (fun _ iv _ wr => ∃ i : Nat, i ≤ n ∧ iv = .int .i64 i ∧ wr = w) (fun _ iv _ _ => n - (intOf iv).toNat)
  case atStart => exact ⟨0, Nat.zero_le _, rfl, rfl⟩
  case round =>
    obtain ⟨i, hi, rfl, hwr⟩ := hrel
    subst hwr
    by_cases hlt : i < n
    · obtain ⟨g, o, q, hae, hc, hq⟩ := HI.out i hlt
      have HS := Hid.mk' (fun (u : World) (e : u = wr) => show Calls Tryz.prog 46 #[.slice (some ⟨q, 0, none⟩) 1 1, .int .i64 1, .int .i64 m] u fun e w' => e = .returned (.bool true) ∧ w' = u from by rw [e]; exact shows_yes (some ⟨q, 0, none⟩) 1 1 m wr (by omega) hq)
      clear hq
      subst hae
      go_wp2_with (go_at_call 46; refine (HS.out _ rfl).mono ?_; rintro e w5 ⟨rfl, hw⟩; subst w5; clear HS)
      go_roundw
      case rel => exact ⟨i + 1, by omega, by go_num, by first | rfl | trivial⟩
      case measure => simp [intOf]; omega
    · have e : i = n := by omega
      subst e
      go_wp2
      go_ret
      exact ⟨rfl, rfl⟩
theorem lists_gr {w w' : World} {a : Option Addr} {n : Nat} {m : Int} (h : ListsM w a n m) (hg : w.grownBy w' none) : ListsM w' a n m := by
  intro i hi
  obtain ⟨g, o, q, e, hc, hq⟩ := h i hi
  exact ⟨g, o, q, e, hg.cell hc (by simp), ints_gr hq hg⟩
theorem shown_pl (a : Option Addr) (n k c : Nat) (m : Int) (w : World) (hn : n ≤ 1000000) (hk : k ≤ 3) (hI : ListsM w a (n + k) m) :
    Calls Tryz.prog 47 #[.slice a (n + k) c, .int .i64 ((n : Int) + (k : Int)), .int .i64 m] w fun e w' => e = .returned (.bool true) ∧ w' = w := by
  have := shown_yes a (n + k) c m w (by omega) hI
  rwa [show (((n + k : Nat)) : Int) = (n : Int) + (k : Int) by omega] at this
set_option maxRecDepth 100000 in
set_option maxHeartbeats 2000000 in
theorem bookLooks_any (S : Nat → Prop) (B K : Nat) (w : World) (hK : K ≤ 1000000000000) (hBP : BookP S w B K) :
    Calls Tryz.prog 18 #[.pointer (some ⟨B, 0, none⟩)] w fun e w' => e = .returned (.bool true) ∧ Below w.heap.size w w' := by
  obtain ⟨kv, lv, j, j2, ks, ls, hB⟩ := hBP
  obtain ⟨x0, x1, x2, -, -, -⟩ := hB.blk.cells
  have hBlt := hB.blk.lt
  have HB := Hid.mk' hB
  have hj : j ≤ 1000000000000 := by have := hB.cnt; omega
  have hj2 : j2 ≤ 1000000000000 := by have := hB.cnt; omega
  obtain ⟨ka, kc, hkv⟩ : ∃ a c, kv = .slice a j c := by
    rcases hB.own.2 with ⟨h, h0⟩ | ⟨g, c, cur, h, -⟩
    · exact ⟨none, 0, by rw [h, h0]⟩
    · exact ⟨_, c, h⟩
  obtain ⟨la, lc, hlv⟩ : ∃ a c, lv = .slice a j2 c := by
    rcases hB.own2.2 with ⟨h, h0⟩ | ⟨g, c, cur, h, -⟩
    · exact ⟨none, 0, by rw [h, h0]⟩
    · exact ⟨_, c, h⟩
  rw [hkv] at x0
  rw [hlv] at x1
  clear hB
  go_enter Tryz.func18, Tryz.ntmps18
  go_wp2
  go_loopw [2, 3, 5, 6, 7, 8] (fun _ iv _ _ _ _ wr => ∃ i : Nat, i ≤ j ∧ iv = .int .i64 i ∧ Hid (w.grownBy wr none)) (fun _ iv _ _ _ _ _ => j - (intOf iv).toNat)
  case atStart => exact ⟨0, Nat.zero_le _, rfl, gr_refl _ _⟩
  case round =>
    obtain ⟨i, hi, rfl, HG⟩ := hrel
    have z0 : wr.cell? ⟨B, 0, none⟩ = some (.slice ka j kc) := HG.out.cell x0 (by simp)
    have z1 : wr.cell? ⟨B, 1, none⟩ = some (.slice la j2 lc) := HG.out.cell x1 (by simp)
    by_cases hlt : i < j
    · obtain ⟨l, g1, g2, g3, n, m, hn, q0, q1, q2, q3, q4, q5, s0, s1, s2, s3⟩ := HB.out.ents i hlt
      obtain ⟨a0, c0, rfl, i0⟩ := s0.ints
      obtain ⟨a1, c1, rfl, i1⟩ := s1.ints
      obtain ⟨a2, c2, rfl, i2⟩ := s2.ints
      obtain ⟨a3, c3, rfl, i3⟩ := s3.ints
      obtain ⟨gk, hgk⟩ : ∃ gk, ka = some ⟨gk, 0, none⟩ := by
        rcases HB.out.own.2 with ⟨h, h0⟩ | ⟨g, c, cur, h, -⟩
        · omega
        · rw [hkv] at h; injection h with h1; exact ⟨g, h1⟩
      have hc : ∀ q u, ks[q]? = some u → wr.cell? ⟨gk, q, none⟩ = some u := fun q u hq => by
        have := HB.out.own.cells (g := gk) (by rw [hkv, hgk]; rfl) q u hq
        rw [Addr.add_lit, Nat.zero_add] at this
        exact HG.out.cell this (by simp)
      have h6 : 6 * i = i * 6 := by omega
      rw [h6] at q0 q1 q2 q3 q4 q5
      have k0 := hc _ _ q0
      have k1 := hc _ _ q1
      have k2 := hc _ _ q2
      have k3 := hc _ _ q3
      have k4 := hc _ _ q4
      have k5 := hc _ _ q5
      clear h6
      have HS0 : Hid (∀ O, Calls Tryz.prog 46 #[.slice a0 n c0, .int .i64 (n : Int), .int .i64 m] (wr.alloc O) fun e w' => e = .returned (.bool true) ∧ w' = wr.alloc O) := fun O => shows_yes a0 n c0 m _ (by omega) (ints_gr (ints_gr i0 HG.out) (World.grownBy_alloc wr O none))
      have HS1 : Hid (∀ O, Calls Tryz.prog 46 #[.slice a1 (n + 1) c1, .int .i64 ((n : Int) + 1), .int .i64 m] (wr.alloc O) fun e w' => e = .returned (.bool true) ∧ w' = wr.alloc O) := fun O => shows_pl a1 n 1 c1 m _ (by omega) (by omega) (ints_gr (ints_gr i1 HG.out) (World.grownBy_alloc wr O none))
      have HS2 : Hid (∀ O, Calls Tryz.prog 46 #[.slice a2 (n + 2) c2, .int .i64 ((n : Int) + 2), .int .i64 m] (wr.alloc O) fun e w' => e = .returned (.bool true) ∧ w' = wr.alloc O) := fun O => shows_pl a2 n 2 c2 m _ (by omega) (by omega) (ints_gr (ints_gr i2 HG.out) (World.grownBy_alloc wr O none))
      have HS3 : Hid (∀ O, Calls Tryz.prog 46 #[.slice a3 (n + 3) c3, .int .i64 ((n : Int) + 3), .int .i64 m] (wr.alloc O) fun e w' => e = .returned (.bool true) ∧ w' = wr.alloc O) := fun O => shows_pl a3 n 3 c3 m _ (by omega) (by omega) (ints_gr (ints_gr i3 HG.out) (World.grownBy_alloc wr O none))
      clear i0 i1 i2 i3 q0 q1 q2 q3 q4 q5 s0 s1 s2 s3 hc
      subst hgk
      go_wp2_with (first
        | (go_at_call 46; refine (HS0.out _).mono ?_; rintro e u ⟨rfl, hu⟩; subst u; clear HS0)
        | (go_at_call 46; refine (HS1.out _).mono ?_; rintro e u ⟨rfl, hu⟩; subst u; clear HS1)
        | (go_at_call 46; refine (HS2.out _).mono ?_; rintro e u ⟨rfl, hu⟩; subst u; clear HS2)
        | (go_at_call 46; refine (HS3.out _).mono ?_; rintro e u ⟨rfl, hu⟩; subst u; clear HS3))
      go_roundw
      case rel => exact ⟨i + 1, by omega, by go_num, gr_trans HG.out (World.grownBy_alloc wr _ none)⟩
      case measure => simp [intOf]; omega
    · have e : i = j := by omega
      subst e
      go_wp2
      go_loopw [2, 9, 11, 12, 13, 14] (fun _ iv _ _ _ _ wr' => ∃ q : Nat, q ≤ j2 ∧ iv = .int .i64 q ∧ Hid (w.grownBy wr' none)) (fun _ iv _ _ _ _ _ => j2 - (intOf iv).toNat)
      case atStart => exact ⟨0, Nat.zero_le _, rfl, HG.out⟩
      case round =>
        obtain ⟨q, hq, rfl, HG2⟩ := hrel
        have z2 : wr.cell? ⟨B, 1, none⟩ = some (.slice la j2 lc) := HG2.out.cell x1 (by simp)
        by_cases hlt2 : q < j2
        · obtain ⟨l, g1, g2, g3, n, m, hn, q0, q1, q2, q3, q4, q5, s0, s1, s2, s3⟩ := HB.out.ents2 q hlt2
          obtain ⟨a0, c0, rfl, i0⟩ := s0.lists
          obtain ⟨a1, c1, rfl, i1⟩ := s1.lists
          obtain ⟨a2, c2, rfl, i2⟩ := s2.lists
          obtain ⟨a3, c3, rfl, i3⟩ := s3.lists
          obtain ⟨gk, hgk⟩ : ∃ gk, la = some ⟨gk, 0, none⟩ := by
            rcases HB.out.own2.2 with ⟨h, h0⟩ | ⟨g, c, cur, h, -⟩
            · omega
            · rw [hlv] at h; injection h with h1; exact ⟨g, h1⟩
          have hc : ∀ p u, ls[p]? = some u → wr.cell? ⟨gk, p, none⟩ = some u := fun p u hp => by
            have := HB.out.own2.cells (g := gk) (by rw [hlv, hgk]; rfl) p u hp
            rw [Addr.add_lit, Nat.zero_add] at this
            exact HG2.out.cell this (by simp)
          have h6 : 6 * q = q * 6 := by omega
          rw [h6] at q0 q1 q2 q3 q4 q5
          have k0 := hc _ _ q0
          have k1 := hc _ _ q1
          have k2 := hc _ _ q2
          have k3 := hc _ _ q3
          have k4 := hc _ _ q4
          have k5 := hc _ _ q5
          clear h6
          have HS0 : Hid (∀ O, Calls Tryz.prog 47 #[.slice a0 n c0, .int .i64 (n : Int), .int .i64 m] (wr.alloc O) fun e w' => e = .returned (.bool true) ∧ w' = wr.alloc O) := fun O => shown_yes a0 n c0 m _ (by omega) (lists_gr (lists_gr i0 HG2.out) (World.grownBy_alloc wr O none))
          have HS1 : Hid (∀ O, Calls Tryz.prog 47 #[.slice a1 (n + 1) c1, .int .i64 ((n : Int) + 1), .int .i64 m] (wr.alloc O) fun e w' => e = .returned (.bool true) ∧ w' = wr.alloc O) := fun O => shown_pl a1 n 1 c1 m _ (by omega) (by omega) (lists_gr (lists_gr i1 HG2.out) (World.grownBy_alloc wr O none))
          have HS2 : Hid (∀ O, Calls Tryz.prog 47 #[.slice a2 (n + 2) c2, .int .i64 ((n : Int) + 2), .int .i64 m] (wr.alloc O) fun e w' => e = .returned (.bool true) ∧ w' = wr.alloc O) := fun O => shown_pl a2 n 2 c2 m _ (by omega) (by omega) (lists_gr (lists_gr i2 HG2.out) (World.grownBy_alloc wr O none))
          have HS3 : Hid (∀ O, Calls Tryz.prog 47 #[.slice a3 (n + 3) c3, .int .i64 ((n : Int) + 3), .int .i64 m] (wr.alloc O) fun e w' => e = .returned (.bool true) ∧ w' = wr.alloc O) := fun O => shown_pl a3 n 3 c3 m _ (by omega) (by omega) (lists_gr (lists_gr i3 HG2.out) (World.grownBy_alloc wr O none))
          clear i0 i1 i2 i3 q0 q1 q2 q3 q4 q5 s0 s1 s2 s3 hc
          subst hgk
          go_wp2_with (first
            | (go_at_call 47; refine (HS0.out _).mono ?_; rintro e u ⟨rfl, hu⟩; subst u; clear HS0)
            | (go_at_call 47; refine (HS1.out _).mono ?_; rintro e u ⟨rfl, hu⟩; subst u; clear HS1)
            | (go_at_call 47; refine (HS2.out _).mono ?_; rintro e u ⟨rfl, hu⟩; subst u; clear HS2)
            | (go_at_call 47; refine (HS3.out _).mono ?_; rintro e u ⟨rfl, hu⟩; subst u; clear HS3))
          go_roundw
          case rel => exact ⟨q + 1, by omega, by go_num, gr_trans HG2.out (World.grownBy_alloc wr _ none)⟩
          case measure => simp [intOf]; omega
        · have e : q = j2 := by omega
          subst e
          go_wp2
          go_ret
          exact ⟨rfl, HG2.out.os, HG2.out.tape, HG2.out.output, HG2.out.size, fun k hk => HG2.out.block k hk (by simp)⟩
end Go.Proofs.YtlncjgnomhpjnaaGreatDoor

