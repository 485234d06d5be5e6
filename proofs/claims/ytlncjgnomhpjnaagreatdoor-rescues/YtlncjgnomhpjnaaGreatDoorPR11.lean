import Derived.Test.YtlncjgnomhpjnaaGreatDoorPR10
/-
  The book of lists that came out.
-/
namespace Go.Proofs.YtlncjgnomhpjnaaGreatDoor
open Go.RowKit Go.Deep
set_option linter.unusedVariables false
/-- the book's block -/
def Bk (w : World) (B : Nat) (kv lv : Value) (K : Int) : Prop := w.heap[B]? = some (.cells #[kv, lv, .int .i64 K] 39 (0, 0))
theorem Bk.cells {w : World} {B : Nat} {kv lv : Value} {K : Int} (h : Bk w B kv lv K) : w.cell? ⟨B, 0, none⟩ = some kv ∧ w.cell? ⟨B, 1, none⟩ = some lv ∧ w.cell? ⟨B, 2, none⟩ = some (.int .i64 K) ∧ w.frozen? ⟨B, 0, none⟩ = false ∧ w.frozen? ⟨B, 1, none⟩ = false ∧ w.frozen? ⟨B, 2, none⟩ = false := by
  simp [World.cell?, World.frozen?, show w.heap[B]? = _ from h]
theorem Bk.lt {w : World} {B : Nat} {kv lv : Value} {K : Int} (h : Bk w B kv lv K) : B < w.heap.size := (Array.getElem?_eq_some_iff.1 h).1
theorem Bk.of {w w' : World} {B : Nat} {kv lv : Value} {K : Int} (h : Bk w B kv lv K) (e : w'.heap[B]? = w.heap[B]?) : Bk w' B kv lv K := e.trans h
theorem Bk.set2 {w : World} {B : Nat} {kv lv : Value} {K : Int} (h : Bk w B kv lv K) (q : Int) : Bk (w.setCell ⟨B, 2, none⟩ (.int .i64 q)) B kv lv q := by
  simp [Bk, World.setCell, Array.getElem?_modify, show w.heap[B]? = _ from h]
theorem Bk.set0 {w : World} {B : Nat} {kv lv : Value} {K : Int} (h : Bk w B kv lv K) (v : Value) : Bk (w.setCell ⟨B, 0, none⟩ v) B v lv K := by
  simp [Bk, World.setCell, Array.getElem?_modify, show w.heap[B]? = _ from h]
theorem Bk.set1 {w : World} {B : Nat} {kv lv : Value} {K : Int} (h : Bk w B kv lv K) (v : Value) : Bk (w.setCell ⟨B, 1, none⟩ v) B kv v K := by
  simp [Bk, World.setCell, Array.getElem?_modify, show w.heap[B]? = _ from h]
/-- rows of other things are other blocks -/
theorem row_ne_book {w : World} {B g N : Nat} {kv lv : Value} {K : Int} {e : TypeId} {f : Nat → Value} (h : Bk w B kv lv K) (hr : w.rowIs g e N f) (he : e ≠ 39) : g ≠ B := by
  rintro rfl
  obtain ⟨c, hb, -⟩ := hr
  rw [show w.heap[g]? = _ from h] at hb
  injection hb with hb
  injection hb with h1 h2
  exact he h2.symm
theorem own_ne_book {w : World} {B base size j : Nat} {kv lv v : Value} {K : Int} {e : TypeId} {ks : List Value} (h : Bk w B kv lv K) (ho : w.ownsRow base e size v j ks) (he : e ≠ 39) : v.ownBlock ≠ some B := by
  intro e1
  rcases ho.2 with h0 | ⟨g', cap, cur, h0, -, hcur, -⟩
  · rw [h0.1] at e1; cases e1
  · rw [h0] at e1
    have e' : g' = B := by simpa [Value.ownBlock] using e1
    rw [e', show w.heap[B]? = _ from h] at hcur
    injection hcur with hb
    injection hb with h1 h2
    exact he h2.symm
theorem own_ne_row {w : World} {g N base size j : Nat} {v : Value} {e e' : TypeId} {ks : List Value} {f : Nat → Value} (ho : w.ownsRow base e size v j ks) (hr : w.rowIs g e' N f) (he : e ≠ e') : v.ownBlock ≠ some g := by
  intro e1
  obtain ⟨c, hb, -⟩ := hr
  rcases ho.2 with h0 | ⟨g', cap, cur, h0, -, hcur, -⟩
  · rw [h0.1] at e1; cases e1
  · rw [h0] at e1
    have e2 : g' = g := by simpa [Value.ownBlock] using e1
    rw [e2, hb] at hcur
    injection hcur with hb
    injection hb with h1 h2
    exact he h2.symm
theorem own_ne_own {w : World} {base size j base' size' j' : Nat} {v v' : Value} {e e' : TypeId} {ks ks' : List Value} (ho : w.ownsRow base e size v j ks) (ho' : w.ownsRow base' e' size' v' j' ks') (he : e ≠ e') : v.ownBlock = none ∨ v.ownBlock ≠ v'.ownBlock := by
  rcases ho.2 with h0 | ⟨g, cap, cur, rfl, -, hcur, -⟩
  · rw [h0.1]; exact .inl rfl
  · refine .inr fun e1 => ?_
    rcases ho'.2 with h0 | ⟨g', cap', cur', rfl, -, hcur', -⟩
    · rw [h0.1] at e1; cases e1
    · have e2 : g = g' := by simpa [Value.ownBlock] using e1
      rw [e2, hcur'] at hcur
      injection hcur with hb
      injection hb with h1 h2
      exact he h2.symm
/-- a list of marks, and where it lies -/
def ShM (S : Nat → Prop) (w : World) (v : Value) (n : Nat) (m : Int) : Prop := ∃ og, LstE 3 w v n og (fun _ => .int .i64 m) ∧ ∀ g, og = some g → S g
/-- a list of one mark -/
def MkL (S : Nat → Prop) (w : World) (m : Int) (u : Value) : Prop := ∃ h, u = .slice (some ⟨h, 0, none⟩) 1 1 ∧ S h ∧ w.rowIs h 3 1 (fun _ => .int .i64 m)
/-- a list of such lists -/
def ShL (S : Nat → Prop) (w : World) (v : Value) (n : Nat) (m : Int) : Prop := ∃ og x, LstE 29 w v n og x ∧ (∀ g, og = some g → S g) ∧ ∀ i, i < n → MkL S w m (x i)
theorem LstE.keep {e : TypeId} {w w' : World} {v : Value} {n : Nat} {og : Option Nat} {x : Nat → Value} (h : LstE e w v n og x) (hb : ∀ g, og = some g → w'.heap[g]? = w.heap[g]?) : LstE e w' v n og x := by
  rcases h with h | ⟨g, o, c, N, f, e1, e2, hr, h1⟩
  · exact .inl h
  · exact .inr ⟨g, o, c, N, f, e1, e2, hr.of_block (hb g e1), h1⟩
theorem LstE.lt {e : TypeId} {w : World} {v : Value} {n : Nat} {og : Option Nat} {x : Nat → Value} (h : LstE e w v n og x) {g : Nat} (hg : og = some g) : g < w.heap.size := by
  obtain ⟨N, f, hr⟩ := h.row hg
  exact hr.lt
/-- a block of numbers, or of lists of numbers -/
def IsRow (w : World) (k : Nat) : Prop := ∃ e N f, (e = 3 ∨ e = 29) ∧ w.rowIs k e N f
theorem LstE.isRow {e : TypeId} {w : World} {v : Value} {n : Nat} {og : Option Nat} {x : Nat → Value} (h : LstE e w v n og x) (he : e = 3 ∨ e = 29) {g : Nat} (hg : og = some g) : IsRow w g := by
  obtain ⟨N, f, hr⟩ := h.row hg
  exact ⟨e, N, f, he, hr⟩
theorem ShM.keep {S S' : Nat → Prop} {w w' : World} {v : Value} {n : Nat} {m : Int} (h : ShM S w v n m) (hb : ∀ k, S k → IsRow w k → w'.heap[k]? = w.heap[k]?) (hS : ∀ k, S k → S' k) : ShM S' w' v n m := by
  obtain ⟨og, h1, h2⟩ := h
  exact ⟨og, h1.keep (fun g hg => hb g (h2 g hg) (h1.isRow (.inl rfl) hg)), fun g hg => hS _ (h2 g hg)⟩
theorem MkL.keep {S S' : Nat → Prop} {w w' : World} {u : Value} {m : Int} (h : MkL S w m u) (hb : ∀ k, S k → IsRow w k → w'.heap[k]? = w.heap[k]?) (hS : ∀ k, S k → S' k) : MkL S' w' m u := by
  obtain ⟨g, h1, h2, h3⟩ := h
  exact ⟨g, h1, hS g h2, h3.of_block (hb g h2 ⟨_, _, _, .inl rfl, h3⟩)⟩
theorem ShL.keep {S S' : Nat → Prop} {w w' : World} {v : Value} {n : Nat} {m : Int} (h : ShL S w v n m) (hb : ∀ k, S k → IsRow w k → w'.heap[k]? = w.heap[k]?) (hS : ∀ k, S k → S' k) : ShL S' w' v n m := by
  obtain ⟨og, x, h1, h2, h3⟩ := h
  exact ⟨og, x, h1.keep (fun g hg => hb g (h2 g hg) (h1.isRow (.inr rfl) hg)), fun g hg => hS _ (h2 g hg), fun i hi => (h3 i hi).keep hb hS⟩
/-- an entry of the book -/
def Ent (Sh : Value → Nat → Int → Prop) (es : List Value) (i : Nat) : Prop :=
  ∃ l g1 g2 g3 n m, n ≤ 1000000 ∧ es[6 * i]? = some l ∧ es[6 * i + 1]? = some g1 ∧ es[6 * i + 2]? = some g2 ∧ es[6 * i + 3]? = some g3 ∧ es[6 * i + 4]? = some (.int .i64 ((n : Nat) : Int)) ∧ es[6 * i + 5]? = some (.int .i64 m) ∧
    Sh l n m ∧ Sh g1 (n + 1) m ∧ Sh g2 (n + 2) m ∧ Sh g3 (n + 3) m
theorem Ent.mono {Sh Sh' : Value → Nat → Int → Prop} {es : List Value} {i : Nat} (h : Ent Sh es i) (hs : ∀ v n m, Sh v n m → Sh' v n m) : Ent Sh' es i := by
  obtain ⟨l, g1, g2, g3, n, m, h0, e0, e1, e2, e3, e4, e5, s0, s1, s2, s3⟩ := h
  exact ⟨l, g1, g2, g3, n, m, h0, e0, e1, e2, e3, e4, e5, hs _ _ _ s0, hs _ _ _ s1, hs _ _ _ s2, hs _ _ _ s3⟩
theorem Ent.app {Sh : Value → Nat → Int → Prop} {es six : List Value} {i : Nat} (h : Ent Sh es i) : Ent Sh (es ++ six) i := by
  obtain ⟨l, g1, g2, g3, n, m, h0, e0, e1, e2, e3, e4, e5, s⟩ := h
  have key : ∀ {j : Nat} {v : Value}, es[j]? = some v → (es ++ six)[j]? = some v := fun {j v} hj => by
    rw [List.getElem?_append_left (List.getElem?_eq_some_iff.1 hj).1]; exact hj
  exact ⟨l, g1, g2, g3, n, m, h0, key e0, key e1, key e2, key e3, key e4, key e5, s⟩
theorem Ent.last {Sh : Value → Nat → Int → Prop} {es : List Value} {j : Nat} {l g1 g2 g3 : Value} {n : Nat} {m : Int} (hl : es.length = j * 6) (hn : n ≤ 1000000) (s0 : Sh l n m) (s1 : Sh g1 (n + 1) m) (s2 : Sh g2 (n + 2) m) (s3 : Sh g3 (n + 3) m) : Ent Sh (es ++ [l, g1, g2, g3, .int .i64 ((n : Nat) : Int), .int .i64 m]) j := by
  have key : ∀ q, (es ++ [l, g1, g2, g3, .int .i64 ((n : Nat) : Int), .int .i64 m])[6 * j + q]? = [l, g1, g2, g3, .int .i64 ((n : Nat) : Int), .int .i64 m][q]? := fun q => by
    rw [List.getElem?_append_right (by omega), show 6 * j + q - es.length = q by omega]
  exact ⟨l, g1, g2, g3, n, m, hn, key 0, key 1, key 2, key 3, key 4, key 5, s0, s1, s2, s3⟩
/-- a book whose lists lie in S -/
structure BookIs (S : Nat → Prop) (w : World) (B : Nat) (kv lv : Value) (j j2 : Nat) (ks ls : List Value) (K : Nat) : Prop where
  blk : Bk w B kv lv K
  inB : S B
  own : w.ownsRow 0 79 6 kv j ks
  own2 : w.ownsRow 0 75 6 lv j2 ls
  inK : ∀ g, kv.ownBlock = some g → S g
  inL : ∀ g, lv.ownBlock = some g → S g
  ents : ∀ i, i < j → Ent (ShM S w) ks i
  ents2 : ∀ i, i < j2 → Ent (ShL S w) ls i
  cnt : j + j2 ≤ K
  low : ∀ k, S k → k < w.heap.size
def BookP (S : Nat → Prop) (w : World) (B K : Nat) : Prop := ∃ kv lv j j2 ks ls, BookIs S w B kv lv j j2 ks ls K
theorem BookP.keep {S : Nat → Prop} {w w' : World} {B K : Nat} (h : BookP S w B K) (hb : ∀ k, S k → w'.heap[k]? = w.heap[k]?) (hs : w.heap.size ≤ w'.heap.size) : BookP S w' B K := by
  obtain ⟨kv, lv, j, j2, ks, ls, h⟩ := h
  have keepO : ∀ {e : TypeId} {v : Value} {q : Nat} {xs : List Value}, w.ownsRow 0 e 6 v q xs → (∀ g, v.ownBlock = some g → S g) → w'.ownsRow 0 e 6 v q xs := fun {e v q xs} ho hS => by
    refine ⟨ho.1, ?_⟩
    rcases ho.2 with h0 | ⟨g, cap, cur, rfl, h1, h2, h3⟩
    · exact .inl h0
    · exact .inr ⟨g, cap, cur, rfl, h1, (hb g (hS g rfl)).trans h2, h3⟩
  exact ⟨kv, lv, j, j2, ks, ls, h.blk.of (hb _ h.inB), h.inB, keepO h.own h.inK, keepO h.own2 h.inL, h.inK, h.inL,
    fun i hi => (h.ents i hi).mono fun v n m s => s.keep (fun k hk _ => hb k hk) (fun _ h => h), fun i hi => (h.ents2 i hi).mono fun v n m s => s.keep (fun k hk _ => hb k hk) (fun _ h => h), h.cnt, fun k hk => Nat.lt_of_lt_of_le (h.low k hk) hs⟩
theorem infoKept6 : (Tryz.prog.info? 79).map (fun i => (i.zero, i.size, i.bytes)) = some (some (.agg #[.slice none 0 0, .slice none 0 0, .slice none 0 0, .slice none 0 0, .int .i64 0, .int .i64 0]), 6, 112) := by kernel_rfl
theorem infoLists6 : (Tryz.prog.info? 75).map (fun i => (i.zero, i.size, i.bytes)) = some (some (.agg #[.slice none 0 0, .slice none 0 0, .slice none 0 0, .slice none 0 0, .int .i64 0, .int .i64 0]), 6, 112) := by kernel_rfl
theorem infoSlice : (Tryz.prog.info? 29).map (fun i => (i.zero, i.size, i.bytes)) = some (some (.slice none 0 0), 1, 24) := by kernel_rfl
/-- the lists that were written full of marks stay so -/
theorem LstE.mk {w w' : World} {v : Value} {n : Nat} {m : Int} {og og2 : Option Nat} {k : Nat} (h1 : LstE 3 w v n og2 (fun _ => .int .i64 m)) (hs : StepE 3 og (List.replicate k (.int .i64 m)) w w') : LstE 3 w' v n og2 (fun _ => .int .i64 m) := by
  by_cases e : og2 = og
  · subst e
    obtain ⟨x', h3, h4⟩ := h1.step hs
    rcases h3 with h3 | ⟨g, o, c, N, f, e1, e2, hr, q1, q2, q3⟩
    · exact .inl h3
    · refine .inr ⟨g, o, c, N, f, e1, e2, hr, q1, q2, fun i hi => ?_⟩
      rw [q3 i hi]
      rcases h4 i hi with e | e
      · exact e
      · exact (List.mem_replicate.1 e).2
  · exact h1.keep fun g hg => hs.gr.block g (h1.lt hg) (fun e' => e (hg.trans e'))
/-- marks appended to a list of marks -/
theorem app_mk (w : World) (v : Value) (n : Nat) (m : Int) (arr : Array Value) (k : Nat) (og : Option Nat) (h : LstE 3 w v n og (fun _ => .int .i64 m)) (hn : n ≤ 1000000) (harr : arr.toList = List.replicate k (.int .i64 m)) (hk : k ≤ 3) (hk1 : 1 ≤ k) (ty : TypeId) :
    ∃ b o c w', (Builtin.append_ #[29, 29] ty #[v, .slice (some ⟨w.heap.size, 0, none⟩) k k]).run Tryz.prog (w.alloc (.cells arr 3)) = .ok (.slice (some ⟨b, o, none⟩) (n + k) c) w' ∧
      (og = some b ∨ w.heap.size ≤ b) ∧ LstE 3 w' (.slice (some ⟨b, o, none⟩) (n + k) c) (n + k) (some b) (fun _ => .int .i64 m) ∧ StepE 3 og (List.replicate 3 (.int .i64 m)) w w' := by
  have hsz : arr.size = k := by rw [← Array.length_toList, harr]; simp
  obtain ⟨b, o, c, w', x', hr, hb, hl, h1, h2, hs⟩ := app_gen 29 3 (.int .i64 0) 8 Tryz.underlying29 infoInt rfl w v n og _ arr h (by omega) (by rw [harr]; intro u hu; rw [List.mem_replicate] at hu; rw [hu.2]; rfl) (by omega) (by omega) ty
  rw [hsz] at hr hl
  refine ⟨b, o, c, w', hr, hb, ?_, hs.mono fun v hv => ?_⟩
  · rcases hl with ⟨h0, -⟩ | ⟨g, o', c', N, f, e1, e2, hrow, q1, q2, q3⟩
    · cases h0
    · refine .inr ⟨g, o', c', N, f, e1, e2, hrow, q1, q2, fun i hi => ?_⟩
      rw [q3 i hi]
      rcases Nat.lt_or_ge i n with hin | hin
      · exact h1 i hin
      · have := h2 (i - n) (by omega)
        rw [show n + (i - n) = i by omega] at this
        rw [this]
        have hm : arr[i - n] ∈ arr.toList := by simp
        rw [harr] at hm
        exact (List.mem_replicate.1 hm).2
  · rw [harr] at hv
    rw [List.mem_replicate] at hv ⊢
    exact ⟨by omega, hv.2⟩
/-- what taking a list leaves -/
structure TookP (S : Nat → Prop) (w w' : World) (B K : Nat) (og : Option Nat) : Prop where
  book : BookP (fun k => (S k ∨ og = some k ∨ w.heap.size ≤ k) ∧ k < w'.heap.size) w' B (K + 1)
  os : w'.os = w.os
  tape : w'.tape = w.tape
  output : w'.output = w.output
  size : w.heap.size ≤ w'.heap.size
  block : ∀ k, k < w.heap.size → ¬ S k → og ≠ some k → w'.heap[k]? = w.heap[k]?
theorem took_of {S : Nat → Prop} {w w' : World} {B K j j2 n b1 b2 b3 : Nat} {kv lv kv' l v1 v2 v3 : Value} {ks ls : List Value} {og : Option Nat} {m : Int} (hB : BookIs S w B kv lv j j2 ks ls K) (hS : ∀ g, og = some g → ¬ S g) (hrow : ∀ g, og = some g → IsRow w g) (hn : n ≤ 1000000)
    (F : ∀ k, k < w.heap.size → k ≠ B → og ≠ some k → kv.ownBlock ≠ some k → w'.heap[k]? = w.heap[k]?) (h1 : w'.os = w.os) (h2 : w'.tape = w.tape) (h3 : w'.output = w.output) (hs : w.heap.size ≤ w'.heap.size)
    (hBk : Bk w' B kv' lv ((K : Int) + 1)) (hown : w'.ownsRow 0 79 6 kv' (j + 1) (ks ++ [l, v1, v2, v3, .int .i64 ((n : Nat) : Int), .int .i64 m])) (hkv' : ∀ g, kv'.ownBlock = some g → kv.ownBlock = some g ∨ w.heap.size ≤ g)
    (L0 : LstE 3 w' l n og (fun _ => .int .i64 m)) (L1 : LstE 3 w' v1 (n + 1) (some b1) (fun _ => .int .i64 m)) (L2 : LstE 3 w' v2 (n + 2) (some b2) (fun _ => .int .i64 m)) (L3 : LstE 3 w' v3 (n + 3) (some b3) (fun _ => .int .i64 m))
    (hb1 : og = some b1 ∨ w.heap.size ≤ b1) (hb2 : og = some b2 ∨ w.heap.size ≤ b2) (hb3 : og = some b3 ∨ w.heap.size ≤ b3) : TookP S w w' B K og := by
  have kvB := own_ne_book hB.blk hB.own (by decide)
  have keepR : ∀ k, S k → IsRow w k → w'.heap[k]? = w.heap[k]? := fun k hk ⟨e, N, f, he, hr⟩ => by
    refine F k hr.lt (row_ne_book hB.blk hr (by rcases he with rfl | rfl <;> decide)) (fun e => hS k e hk) (own_ne_row hB.own hr (by rcases he with rfl | rfl <;> decide))
  have inS : ∀ k, S k → (S k ∨ og = some k ∨ w.heap.size ≤ k) ∧ k < w'.heap.size := fun k hk => ⟨.inl hk, Nat.lt_of_lt_of_le (hB.low k hk) hs⟩
  have inN : ∀ {v : Value} {q b : Nat}, LstE 3 w' v q (some b) (fun _ => .int .i64 m) → (og = some b ∨ w.heap.size ≤ b) → ShM (fun k => (S k ∨ og = some k ∨ w.heap.size ≤ k) ∧ k < w'.heap.size) w' v q m := fun {v q b} hl hb =>
    ⟨some b, hl, fun g hg => by injection hg with hg; subst hg; exact ⟨.inr hb, hl.lt rfl⟩⟩
  refine ⟨⟨kv', lv, j + 1, j2, ks ++ [l, v1, v2, v3, .int .i64 ((n : Nat) : Int), .int .i64 m], ls, ?_⟩, h1, h2, h3, hs, fun k hk hnS hno => ?_⟩
  · have o2 : w'.ownsRow 0 75 6 lv j2 ls := by
      refine ⟨hB.own2.1, ?_⟩
      rcases hB.own2.2 with h0 | ⟨g, cap, cur, e, q1, q2, q3⟩
      · exact .inl h0
      · refine .inr ⟨g, cap, cur, e, q1, ?_, q3⟩
        subst e
        have hlt := (Array.getElem?_eq_some_iff.1 q2).1
        rw [F g hlt (fun e => own_ne_book hB.blk hB.own2 (by decide) (by rw [e]; rfl)) (fun e => hS g e (hB.inL g rfl)) (fun e => ?_)]
        · exact q2
        · rcases own_ne_own hB.own hB.own2 (by decide) with h | h
          · rw [h] at e; cases e
          · exact h e
    refine ⟨by rw [show ((K + 1 : Nat) : Int) = (K : Int) + 1 by omega]; exact hBk, inS _ hB.inB, hown, o2, fun g hg => ?_, fun g hg => inS _ (hB.inL g hg), fun i hi => ?_, fun i hi => (hB.ents2 i hi).mono fun v q mm s => s.keep keepR inS, by have := hB.cnt; omega, fun k hk => hk.2⟩
    · rcases hkv' g hg with h | h
      · exact inS _ (hB.inK g h)
      · exact ⟨.inr (.inr h), (hown.lt g hg).2⟩
    · rcases Nat.lt_or_ge i j with hij | hij
      · exact ((hB.ents i hij).mono fun v q mm s => s.keep keepR inS).app
      · have e : i = j := by omega
        subst e
        refine Ent.last hB.own.1 hn ⟨og, L0, fun g hg => ⟨.inr (.inl hg), L0.lt hg⟩⟩ (inN L1 hb1) (inN L2 hb2) (inN L3 hb3)
  · exact F k hk (fun e => hnS (e ▸ hB.inB)) hno (fun e => hnS (hB.inK k e))
end Go.Proofs.YtlncjgnomhpjnaaGreatDoor

