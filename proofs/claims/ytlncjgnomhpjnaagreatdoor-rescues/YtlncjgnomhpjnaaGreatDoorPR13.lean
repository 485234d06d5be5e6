import Derived.Test.YtlncjgnomhpjnaaGreatDoorPR12
/-
  The book: lists of lists go into it; their laws.
-/
namespace Go.Proofs.YtlncjgnomhpjnaaGreatDoor
open Go.RowKit Go.Deep
set_option linter.unusedVariables false
theorem BookP.mono {S S' : Nat → Prop} {w : World} {B K : Nat} (h : BookP S w B K) (hS : ∀ k, S k → S' k) (hl : ∀ k, S' k → k < w.heap.size) : BookP S' w B K := by
  obtain ⟨kv, lv, j, j2, ks, ls, h⟩ := h
  exact ⟨kv, lv, j, j2, ks, ls, h.blk, hS _ h.inB, h.own, h.own2, fun g hg => hS _ (h.inK g hg), fun g hg => hS _ (h.inL g hg), fun i hi => (h.ents i hi).mono fun v n m s => s.keep (fun _ _ _ => rfl) hS, fun i hi => (h.ents2 i hi).mono fun v n m s => s.keep (fun _ _ _ => rfl) hS, h.cnt, hl⟩
/-- a list of lists of one mark -/
def LM (P : Nat → Prop) (w : World) (v : Value) (n : Nat) (og : Option Nat) (m : Int) : Prop := ∃ x, LstE 29 w v n og x ∧ ∀ i, i < n → MkL P w m (x i)
theorem MkL.gr {P : Nat → Prop} {w w' : World} {u : Value} {m : Int} {og : Option Nat} (h : MkL P w m u) (hg : w.grownBy w' og) (ho : ∀ g, og = some g → ∀ N f, ¬ w.rowIs g 3 N f) : MkL P w' m u := by
  obtain ⟨q, h1, h2, h3⟩ := h
  exact ⟨q, h1, h2, h3.of_block (hg.block q h3.lt (fun e => ho q e.symm _ _ h3))⟩
theorem row_type {w : World} {g N N' : Nat} {e e' : TypeId} {f f' : Nat → Value} (h : w.rowIs g e N f) (h' : w.rowIs g e' N' f') : e = e' := by
  obtain ⟨c, h1, -⟩ := h
  obtain ⟨c', h2, -⟩ := h'
  rw [h1] at h2
  injection h2 with h2
  injection h2
theorem LstE.notInt {w : World} {v : Value} {n : Nat} {og : Option Nat} {x : Nat → Value} (h : LstE 29 w v n og x) : ∀ g, og = some g → ∀ N f, ¬ w.rowIs g 3 N f := fun g hg N f hr => by
  obtain ⟨N', f', hr'⟩ := h.row hg
  exact absurd (row_type hr hr') (by decide)
theorem LM.step {P : Nat → Prop} {w w' : World} {v : Value} {n : Nat} {og og2 : Option Nat} {m : Int} {news : List Value} (h : LM P w v n og2 m) (hs : StepE 29 og news w w') (ho : ∀ g, og = some g → ∀ N f, ¬ w.rowIs g 3 N f) (hn : ∀ u ∈ news, MkL P w' m u) : LM P w' v n og2 m := by
  obtain ⟨x, h1, h2⟩ := h
  by_cases e : og2 = og
  · subst e
    obtain ⟨x', h3, h4⟩ := h1.step hs
    refine ⟨x', h3, fun i hi => ?_⟩
    rcases h4 i hi with e | e
    · rw [e]; exact (h2 i hi).gr hs.gr ho
    · exact hn _ e
  · exact ⟨x, h1.keep fun g hg => hs.gr.block g (h1.lt hg) (fun e' => e (hg.trans e')), fun i hi => (h2 i hi).gr hs.gr ho⟩
theorem LM.alloc {P : Nat → Prop} {w : World} {v : Value} {n : Nat} {og : Option Nat} {m : Int} (h : LM P w v n og m) (o : Obj) : LM P (w.alloc o) v n og m := by
  obtain ⟨x, h1, h2⟩ := h
  exact ⟨x, h1.keep fun g hg => blk_alloc_lt _ _ _ (h1.lt hg), fun i hi => (h2 i hi).gr (World.grownBy_alloc w o none) (fun g hg => by cases hg)⟩
theorem LM.notInt {P : Nat → Prop} {w : World} {v : Value} {n : Nat} {og : Option Nat} {m : Int} (h : LM P w v n og m) : ∀ g, og = some g → ∀ N f, ¬ w.rowIs g 3 N f := by
  obtain ⟨x, h1, -⟩ := h
  exact h1.notInt
/-- lists of one mark are appended -/
theorem app_LM (P : Nat → Prop) (w : World) (v : Value) (n : Nat) (og : Option Nat) (m : Int) (arr : Array Value) (h : LM P w v n og m) (hn : n ≤ 1000000) (hk1 : 1 ≤ arr.size) (hk : arr.size ≤ 3) (ha : ∀ u ∈ arr.toList, MkL P w m u) (ty : TypeId) :
    ∃ b o c w', (Builtin.append_ #[24, 24] ty #[v, .slice (some ⟨w.heap.size, 0, none⟩) arr.size arr.size]).run Tryz.prog (w.alloc (.cells arr 29)) = .ok (.slice (some ⟨b, o, none⟩) (n + arr.size) c) w' ∧
      (og = some b ∨ w.heap.size ≤ b) ∧ LM P w' (.slice (some ⟨b, o, none⟩) (n + arr.size) c) (n + arr.size) (some b) m ∧ LM P w' v n og m ∧ StepE 29 og arr.toList w w' ∧ ∀ u ∈ arr.toList, MkL P w' m u := by
  have hno := h.notInt
  obtain ⟨x, h1, h2⟩ := h
  obtain ⟨b, o, c, w', x', hr, hb, hl, q1, q2, hs⟩ := app_gen 24 29 (.slice none 0 0) 24 Tryz.underlying24 infoSlice rfl w v n og x arr h1 hk1 (fun u hu => by obtain ⟨q, e, -⟩ := ha u hu; rw [e]; rfl) (by omega) (by omega) ty
  have hn' : ∀ u ∈ arr.toList, MkL P w' m u := fun u hu => (ha u hu).gr hs.gr hno
  refine ⟨b, o, c, w', hr, hb, ⟨x', hl, fun i hi => ?_⟩, LM.step ⟨x, h1, h2⟩ hs hno hn', hs, hn'⟩
  rcases Nat.lt_or_ge i n with hin | hin
  · rw [q1 i hin]; exact (h2 i hin).gr hs.gr hno
  · have := q2 (i - n) (by omega)
    rw [show n + (i - n) = i by omega] at this
    rw [this]
    exact hn' _ (by simp)
theorem mkl_new (P : Nat → Prop) (w : World) (m : Int) (hP : P w.heap.size) : MkL P (w.alloc (.cells #[.int .i64 m] 3)) m (.slice (some ⟨w.heap.size, 0, none⟩) 1 1) := by
  refine ⟨w.heap.size, rfl, hP, #[.int .i64 m], blk_alloc_new _ _, rfl, fun i hi => ?_⟩
  have e : i = 0 := by omega
  subst e
  rfl
theorem MkL.alloc {P : Nat → Prop} {w : World} {m : Int} {u : Value} (h : MkL P w m u) (o : Obj) : MkL P (w.alloc o) m u := h.gr (World.grownBy_alloc w o none) (fun g hg => by cases hg)
/-- what taking lists leaves -/
structure TookA (S : Nat → Prop) (w w' : World) (B K n : Nat) (og : Option Nat) (ogs : Nat → Option Nat) : Prop where
  book : BookP (fun k => (S k ∨ og = some k ∨ (∃ i, i < n ∧ ogs i = some k) ∨ w.heap.size ≤ k) ∧ k < w'.heap.size) w' B (K + n + 1)
  os : w'.os = w.os
  tape : w'.tape = w.tape
  output : w'.output = w.output
  size : w.heap.size ≤ w'.heap.size
  block : ∀ k, k < w.heap.size → ¬ S k → og ≠ some k → (∀ i, i < n → ogs i ≠ some k) → w'.heap[k]? = w.heap[k]?
/-- while lists are taken -/
structure TakeI (S : Nat → Prop) (w wr : World) (B K i : Nat) (ogs : Nat → Option Nat) : Prop where
  book : BookP (fun k => (S k ∨ (∃ q, q < i ∧ ogs q = some k) ∨ w.heap.size ≤ k) ∧ k < wr.heap.size) wr B (K + i)
  os : wr.os = w.os
  tape : wr.tape = w.tape
  output : wr.output = w.output
  size : w.heap.size ≤ wr.heap.size
  block : ∀ k, k < w.heap.size → ¬ S k → (∀ q, q < i → ogs q ≠ some k) → wr.heap[k]? = w.heap[k]?
theorem TakeI.start {S : Nat → Prop} {w : World} {B K : Nat} {ogs : Nat → Option Nat} (h : BookP S w B K) : TakeI S w w B K 0 ogs :=
  ⟨h.mono (fun k hk => ⟨.inl hk, by obtain ⟨kv, lv, j, j2, ks, ls, h⟩ := h; exact h.low k hk⟩) (fun k hk => hk.2), rfl, rfl, rfl, Nat.le_refl _, fun _ _ _ _ => rfl⟩
theorem TakeI.next {S : Nat → Prop} {w wr u : World} {B K i : Nat} {ogs : Nat → Option Nat} (h : TakeI S w wr B K i ogs) (ht : TookP (fun k => (S k ∨ (∃ q, q < i ∧ ogs q = some k) ∨ w.heap.size ≤ k) ∧ k < wr.heap.size) wr u B (K + i) (ogs i)) : TakeI S w u B K (i + 1) ogs := by
  have hs := h.size
  refine ⟨?_, ht.os.trans h.os, ht.tape.trans h.tape, ht.output.trans h.output, Nat.le_trans h.size ht.size, fun k hk hn hq => ?_⟩
  · refine ht.book.mono (fun k hk => ⟨?_, hk.2⟩) (fun k hk => hk.2)
    rcases hk.1 with ⟨h1 | ⟨q, h1, h2⟩ | h1, -⟩ | h1 | h1
    · exact .inl h1
    · exact .inr (.inl ⟨q, by omega, h2⟩)
    · exact .inr (.inr h1)
    · exact .inr (.inl ⟨i, by omega, h1⟩)
    · exact .inr (.inr (by omega))
  · refine (ht.block k (by omega) (fun hh => ?_) (hq i (by omega))).trans (h.block k hk hn (fun q hqi => hq q (by omega)))
    rcases hh.1 with h1 | ⟨q, h1, h2⟩ | h1
    · exact hn h1
    · exact hq q (by omega) h2
    · omega
theorem tookA_of {S : Nat → Prop} {w W w' : World} {B K j j2 n b1 b2 b3 : Nat} {kv lv lv' l v1 v2 v3 : Value} {ks ls : List Value} {og : Option Nat} {ogs : Nat → Option Nat} {m : Int} (hT : TakeI S w W B K n ogs) (hB : BookIs (fun k => (S k ∨ (∃ q, q < n ∧ ogs q = some k) ∨ w.heap.size ≤ k) ∧ k < W.heap.size) W B kv lv j j2 ks ls (K + n))
    (hS : ∀ g, og = some g → ¬ S g) (hq : ∀ g, og = some g → ∀ q, q < n → ogs q ≠ some g) (hlt : ∀ g, og = some g → g < w.heap.size) (hn : n ≤ 1000000)
    (F : ∀ k, k < W.heap.size → k ≠ B → og ≠ some k → lv.ownBlock ≠ some k → w'.heap[k]? = W.heap[k]?) (h1 : w'.os = W.os) (h2 : w'.tape = W.tape) (h3 : w'.output = W.output) (hs : W.heap.size ≤ w'.heap.size)
    (hBk : Bk w' B kv lv' (((K + n : Nat) : Int) + 1)) (hown : w'.ownsRow 0 75 6 lv' (j2 + 1) (ls ++ [l, v1, v2, v3, .int .i64 ((n : Nat) : Int), .int .i64 m])) (hlv' : ∀ g, lv'.ownBlock = some g → lv.ownBlock = some g ∨ W.heap.size ≤ g)
    (L0 : LM (fun k => W.heap.size ≤ k) w' l n og m) (L1 : LM (fun k => W.heap.size ≤ k) w' v1 (n + 1) (some b1) m) (L2 : LM (fun k => W.heap.size ≤ k) w' v2 (n + 2) (some b2) m) (L3 : LM (fun k => W.heap.size ≤ k) w' v3 (n + 3) (some b3) m)
    (hb1 : og = some b1 ∨ W.heap.size ≤ b1) (hb2 : og = some b2 ∨ W.heap.size ≤ b2) (hb3 : og = some b3 ∨ W.heap.size ≤ b3) : TookA S w w' B K n og ogs := by
  have hwW := hT.size
  have noS : ∀ g, og = some g → ¬ ((S g ∨ (∃ q, q < n ∧ ogs q = some g) ∨ w.heap.size ≤ g) ∧ g < W.heap.size) := fun g hg h => by
    rcases h.1 with h1 | ⟨q, h1, h2⟩ | h1
    · exact hS g hg h1
    · exact hq g hg q h1 h2
    · have := hlt g hg; omega
  have keepR : ∀ k, ((S k ∨ (∃ q, q < n ∧ ogs q = some k) ∨ w.heap.size ≤ k) ∧ k < W.heap.size) → IsRow W k → w'.heap[k]? = W.heap[k]? := fun k hk ⟨e, N, f, he, hr⟩ => by
    refine F k hr.lt (row_ne_book hB.blk hr (by rcases he with rfl | rfl <;> decide)) (fun e => noS k e hk) (own_ne_row hB.own2 hr (by rcases he with rfl | rfl <;> decide))
  have inS : ∀ k, ((S k ∨ (∃ q, q < n ∧ ogs q = some k) ∨ w.heap.size ≤ k) ∧ k < W.heap.size) → (S k ∨ og = some k ∨ (∃ i, i < n ∧ ogs i = some k) ∨ w.heap.size ≤ k) ∧ k < w'.heap.size := fun k hk => ⟨by
    rcases hk.1 with h1 | h1 | h1
    · exact .inl h1
    · exact .inr (.inr (.inl h1))
    · exact .inr (.inr (.inr h1)), by have := hk.2; omega⟩
  have inN : ∀ {v : Value} {q : Nat} {og2 : Option Nat}, LM (fun k => W.heap.size ≤ k) w' v q og2 m → (∀ b, og2 = some b → og = some b ∨ W.heap.size ≤ b) → ShL (fun k => (S k ∨ og = some k ∨ (∃ i, i < n ∧ ogs i = some k) ∨ w.heap.size ≤ k) ∧ k < w'.heap.size) w' v q m := fun {v q og2} hl hb => by
    obtain ⟨x, hl, hx⟩ := hl
    refine ⟨og2, x, hl, fun g hg => ⟨?_, hl.lt hg⟩, fun i hi => ?_⟩
    · rcases hb g hg with h | h
      · exact .inr (.inl h)
      · exact .inr (.inr (.inr (by omega)))
    · obtain ⟨h, e1, e2, e3⟩ := hx i hi
      exact ⟨h, e1, ⟨.inr (.inr (.inr (Nat.le_trans hwW e2))), e3.lt⟩, e3⟩
  refine ⟨⟨kv, lv', j, j2 + 1, ks, ls ++ [l, v1, v2, v3, .int .i64 ((n : Nat) : Int), .int .i64 m], ?_⟩, h1.trans hT.os, h2.trans hT.tape, h3.trans hT.output, Nat.le_trans hwW hs, fun k hk hnS hno hnq => ?_⟩
  · have o1 : w'.ownsRow 0 79 6 kv j ks := by
      refine ⟨hB.own.1, ?_⟩
      rcases hB.own.2 with h0 | ⟨g, cap, cur, e, q1, q2, q3⟩
      · exact .inl h0
      · refine .inr ⟨g, cap, cur, e, q1, ?_, q3⟩
        subst e
        have hlt := (Array.getElem?_eq_some_iff.1 q2).1
        rw [F g hlt (fun e => own_ne_book hB.blk hB.own (by decide) (by rw [e]; rfl)) (fun e => noS g e (hB.inK g rfl)) (fun e => ?_)]
        · exact q2
        · rcases own_ne_own hB.own2 hB.own (by decide) with h | h
          · rw [h] at e; cases e
          · exact h e
    refine ⟨by rw [show ((K + n + 1 : Nat) : Int) = ((K + n : Nat) : Int) + 1 by omega]; exact hBk, inS _ hB.inB, o1, hown, fun g hg => inS _ (hB.inK g hg), fun g hg => ?_, fun i hi => (hB.ents i hi).mono fun v q mm s => s.keep keepR inS, fun i hi => ?_, by have := hB.cnt; omega, fun k hk => hk.2⟩
    · rcases hlv' g hg with h | h
      · exact inS _ (hB.inL g h)
      · exact ⟨.inr (.inr (.inr (by omega))), (hown.lt g hg).2⟩
    · rcases Nat.lt_or_ge i j2 with hij | hij
      · exact ((hB.ents2 i hij).mono fun v q mm s => s.keep keepR inS).app
      · have e : i = j2 := by omega
        subst e
        refine Ent.last hB.own2.1 hn (inN L0 (fun b hb => .inl hb)) (inN L1 (fun b hb => by injection hb with hb; subst hb; exact hb1)) (inN L2 (fun b hb => by injection hb with hb; subst hb; exact hb2)) (inN L3 (fun b hb => by injection hb with hb; subst hb; exact hb3))
  · have hkn : ¬ ((S k ∨ (∃ q, q < n ∧ ogs q = some k) ∨ w.heap.size ≤ k) ∧ k < W.heap.size) := fun h => by
      rcases h.1 with h1 | ⟨q, h1, h2⟩ | h1
      · exact hnS h1
      · exact hnq q h1 h2
      · omega
    exact (F k (by omega) (fun e => hkn (e ▸ hB.inB)) hno (fun e => hkn (hB.inL k e))).trans (hT.block k hk hnS hnq)
end Go.Proofs.YtlncjgnomhpjnaaGreatDoor

