import Derived.Test.YtlncjgnomhpjnabGreatDoorQT48
/-
  A new line.
-/
namespace Go.Proofs.YtlncjgnomhpjnabGreatDoor
open Go.RowKit Go.Deep
set_option linter.unusedVariables false
/-- The cells of a line that is being made. -/
def lnD (p : Lpar) (x : Lsn) (qj ql qr : Nat) (sp su wr wv tv : Value) : Array Value := #[.int .i64 x.ch, .int .i64 x.d, .int .i64 x.B, .int .i64 x.c3, .int .i64 x.c4, .int .i64 p.W, .int .i64 p.Wd, .int .i64 p.Rm, .int .i64 x.ch, .int .i64 x.d, .int .i64 x.B, .int .i64 x.c3, .int .i64 x.c4, .int .i64 x.S, ptrV qj, ptrV ql, ptrV qr, .slice none 0 0, .int .i64 p.fail, .int .i64 0, .bool false, .string ⟨#[]⟩, .slice none 0 0, .bool false, sp, su, wr, wv, tv]
/-- A line that is being made: its queues. -/
structure Raw (p : Lpar) (x : Lsn) (B0 L qj ql qr cj cl cr : Nat) (w : World) : Prop where
  bx : Bx w L 160 (lnD p x qj ql qr (.pointer none) (.pointer none) (.pointer none) (.slice none 0 0) (.slice none 0 0))
  Qj : QIs w qj cj 247 p.Rm #[] false
  Ql : QIs w ql cl 247 p.Rm #[] false
  Qr : QIs w qr cr 250 p.Rm #[] false
  lo : B0 ≤ L ∧ B0 ≤ qj ∧ B0 ≤ ql ∧ B0 ≤ qr ∧ B0 ≤ cj ∧ B0 ≤ cl ∧ B0 ≤ cr
  hi : L < w.heap.size ∧ qj < w.heap.size ∧ ql < w.heap.size ∧ qr < w.heap.size ∧ cj < w.heap.size ∧ cl < w.heap.size ∧ cr < w.heap.size
  ne : qj ≠ ql ∧ cj ≠ cl ∧ cj ≠ cr ∧ cl ≠ cr
/-- One thing is appended. -/
theorem appOne {e st : TypeId} {z : Value} {bt : Nat} (hu : Tryz.prog.underlying st = some (.slice e)) (hi : (Tryz.prog.info? e).map (fun i => (i.zero, i.size, i.bytes)) = some (some z, 1, bt)) (hz : z.cells.size = 1) (hbt : bt ≤ 64)
    (wr : World) (base : Nat) (v : Value) (q : Nat) (xs : List Value) (y : Value) (hy : y.oneCell' = true) (ty : TypeId) (h : wr.ownsRow base e 1 v q xs) (hb : base ≤ wr.heap.size) (hq : q ≤ 1000) :
    ∃ g cap w', (Builtin.append_ #[st, st] ty #[v, .slice (some ⟨wr.heap.size, 0, none⟩) 1 1]).run Tryz.prog (wr.alloc (.cells #[y] e)) = .ok (.slice (some ⟨g, 0, none⟩) (q + 1) cap) w' ∧
      w'.ownsRow base e 1 (.slice (some ⟨g, 0, none⟩) (q + 1) cap) (q + 1) (xs ++ [y]) ∧ Edit (fun b => v.ownBlock = some b) wr w' ∧ (v.ownBlock = some g ∨ wr.heap.size ≤ g) ∧ wr.heap.size + 1 ≤ w'.heap.size := by
  have hex : ∃ i, Tryz.prog.info? e = some i ∧ i.zero = some z ∧ i.size = 1 ∧ i.bytes = bt := by
    cases hq : Tryz.prog.info? e with
    | none => rw [hq] at hi; cases hi
    | some i =>
      rw [hq] at hi
      simp only [Option.map_some, Option.some.injEq, Prod.mk.injEq] at hi
      exact ⟨i, rfl, hi.1, hi.2.1, hi.2.2⟩
  obtain ⟨i0, hi0, hz0, hz1, hz2⟩ := hex
  have ha : (wr.alloc (.cells #[y] e)).heap.size = wr.heap.size + 1 := by simp
  have e0 : Edit (fun b => v.ownBlock = some b) wr (wr.alloc (.cells #[y] e)) := (Edit.refl _ wr).alloc _
  have hbm : (q + 1) * bt ≤ 1001 * 64 := Nat.mul_le_mul (by omega) hbt
  obtain ⟨g, cap, u, hr, ho, hg, hat, hlt⟩ := run_append_lies (P := Tryz.prog) (wr.alloc (.cells #[y] e)) st ty base e i0 z 1 bt hu hi0 hz0 hz1 hz2 hz (by omega) v q xs (shOwn h ((Edit.refl (fun _ => False) wr).alloc _) fun _ _ => id)
    ⟨wr.heap.size, 0, none⟩ 1 1 [y] rfl (fun j x hj => by
      have : (wr.alloc (.cells #[y] e)).cell? ⟨wr.heap.size, j, none⟩ = (#[y] : Array Value)[j]? := World.cell?_alloc_new _ _ _ _
      rw [Addr.add_lit, Nat.zero_add, this]
      simpa using hj) (fun x hx => by simp at hx; rw [hx]; exact hy) (by omega) (by simp only [maxLen]; omega) (by omega) (by omega) (wr.heap.size + 1) ha
  refine ⟨g, cap, u, hr, ho, e0.trans ⟨hg.os, hg.tape, hg.output, hg.size, fun b hb hS => hg.block b hb fun hh => hS hh.symm⟩, ?_, by have := hg.size; omega⟩
  rcases hat with h1 | h1
  · exact Or.inl h1
  · exact Or.inr (by omega)
theorem infoWk : (Tryz.prog.info? 170).map (fun i => (i.zero, i.size, i.bytes)) = some (some (.pointer none), 1, 8) := by kernel_rfl
theorem infoTk : (Tryz.prog.info? 178).map (fun i => (i.zero, i.size, i.bytes)) = some (some .nilIface, 1, 16) := by kernel_rfl
/-- The tasks, where so many workers were made. -/
def tkV (z : Nat) (wk : Nat → Nat) : Nat → Value
  | 0 => .iface 154 (ptrV z)
  | 1 => .iface 155 (ptrV (z + 1))
  | 2 => .iface 156 (ptrV (z + 1 + 1))
  | j + 3 => .iface 170 (ptrV (wk j))
/-- The workers that were made. -/
structure WkI (p : Lpar) (x : Lsn) (L qj ql qr z tb : Nat) (U : World) (q : Nat) (wv tv : Value) (wk : Nat → Nat) (w : World) : Prop where
  bx : Bx w L 160 (lnD p x qj ql qr (ptrV z) (ptrV (z + 1)) (ptrV (z + 1 + 1)) wv tv)
  wrow : w.ownsRow (tb + 1) 170 1 wv q ((List.range q).map fun j => ptrV (wk j))
  trow : w.ownsRow tb 178 1 tv (3 + q) ((List.range (3 + q)).map (tkV z wk))
  wks : ∀ j, j < q → Bx w (wk j) 173 #[ptrV L, .bool false, .pointer none] ∧ tb + 1 ≤ wk j
  inj : ∀ i j, i < q → j < q → wk i = wk j → i = j
  ed : Edit (fun k => k = L ∨ k = tb) U w
  big : tb + 1 ≤ w.heap.size ∧ L < tb ∧ U.heap.size = tb + 1
set_option maxRecDepth 100000 in
/-- One worker more. -/
theorem WkI.next {p : Lpar} {x : Lsn} {L qj ql qr z tb : Nat} {U : World} {q : Nat} {wv tv : Value} {wk : Nat → Nat} {w : World} (h : WkI p x L qj ql qr z tb U q wv tv wk w) (hq : q ≤ 8) :
    ∃ g1 c1 w3 g2 c2 w6, (Builtin.append_ #[157, 157] 157 #[wv, .slice (some ⟨w.heap.size + 1, 0, none⟩) 1 1]).run Tryz.prog ((w.alloc (.cells #[.pointer (some ⟨L, 0, none⟩), .bool false, .pointer none] 173)).alloc (.cells #[.pointer (some ⟨w.heap.size, 0, none⟩)] 170)) = .ok (.slice (some ⟨g1, 0, none⟩) (q + 1) c1) w3 ∧
      (w.alloc (.cells #[.pointer (some ⟨L, 0, none⟩), .bool false, .pointer none] 173)).cell? ⟨L, 27, none⟩ = some wv ∧ w3.cell? ⟨L, 27, none⟩ = some wv ∧ w3.frozen? ⟨L, 27, none⟩ = false ∧
      (Builtin.append_ #[158, 158] 158 #[tv, .slice (some ⟨w3.heap.size, 0, none⟩) 1 1]).run Tryz.prog ((w3.setCell ⟨L, 27, none⟩ (.slice (some ⟨g1, 0, none⟩) (q + 1) c1)).alloc (.cells #[.iface 170 (.pointer (some ⟨w.heap.size, 0, none⟩))] 178)) = .ok (.slice (some ⟨g2, 0, none⟩) (3 + q + 1) c2) w6 ∧
      (w3.setCell ⟨L, 27, none⟩ (.slice (some ⟨g1, 0, none⟩) (q + 1) c1)).cell? ⟨L, 28, none⟩ = some tv ∧ w6.cell? ⟨L, 28, none⟩ = some tv ∧ w6.frozen? ⟨L, 28, none⟩ = false ∧
      WkI p x L qj ql qr z tb U (q + 1) (.slice (some ⟨g1, 0, none⟩) (q + 1) c1) (.slice (some ⟨g2, 0, none⟩) (3 + q + 1) c2) (updL wk q w.heap.size) (w6.setCell ⟨L, 28, none⟩ (.slice (some ⟨g2, 0, none⟩) (3 + q + 1) c2)) := by
  have hbig := h.big
  have kL := h.bx.kn
  obtain ⟨W1, hW1⟩ : ∃ W, W = w.alloc (.cells #[.pointer (some ⟨L, 0, none⟩), .bool false, .pointer none] 173) := ⟨_, rfl⟩
  have z1 : W1.heap.size = w.heap.size + 1 := by rw [hW1]; simp
  have e1 : Edit (fun _ => False) w W1 := by rw [hW1]; exact (Edit.refl _ w).alloc _
  have k1 : Bx W1 w.heap.size 173 #[ptrV L, .bool false, .pointer none] := by rw [hW1]; exact Bx.new w _ _
  rw [← hW1]
  have o1 := shOwn h.wrow e1 fun _ _ => id
  obtain ⟨g1, c1, w3, r1, p1, d1, l1, m1⟩ := appOne Tryz.underlying157 infoWk rfl (by omega) W1 (tb + 1) wv q _ (ptrV w.heap.size) rfl 157 o1 (by omega) (by omega)
  rw [z1] at r1 l1 m1
  have hLw : ¬ wv.ownBlock = some L := fun hh => by have := own_low h.wrow L hh; omega
  have b3 : Bx w3 L 160 _ := (h.bx.edit e1 id).edit d1 hLw
  have t3 : w3.ownsRow tb 178 1 tv (3 + q) _ := shOwn (shOwn h.trow e1 fun _ _ => id) d1 fun g hg hh => by
    have h1 := (own_kn h.trow g hg).1
    have h2 := (own_kn h.wrow g hh).1
    rw [h1] at h2
    exact absurd h2 (by decide)
  obtain ⟨W4, hW4⟩ : ∃ W, W = w3.setCell ⟨L, 27, none⟩ (.slice (some ⟨g1, 0, none⟩) (q + 1) c1) := ⟨_, rfl⟩
  have e4 : Edit (· = L) w3 W4 := by rw [hW4]; exact Edit.one _ _ _ _
  have z4 : W4.heap.size = w3.heap.size := by rw [hW4]; simp [World.setCell]
  have b4 : Bx W4 L 160 (lnD p x qj ql qr (ptrV z) (ptrV (z + 1)) (ptrV (z + 1 + 1)) (.slice (some ⟨g1, 0, none⟩) (q + 1) c1) tv) := by rw [hW4]; exact b3.set 27 (.slice (some ⟨g1, 0, none⟩) (q + 1) c1)
  have hLt : ¬ tv.ownBlock = some L := fun hh => by have := own_low h.trow L hh; omega
  have t4 := shOwn t3 e4 fun g hg hh => hLt (by rw [hg, hh])
  obtain ⟨g2, c2, w6, r2, p2, d2, l2, m2⟩ := appOne Tryz.underlying158 infoTk rfl (by omega) W4 tb tv (3 + q) _ (.iface 170 (ptrV w.heap.size)) rfl 158 t4 (by omega) (by omega)
  rw [z4] at r2 l2 m2
  have b6 : Bx w6 L 160 _ := b4.edit d2 hLt
  have e7 := Edit.one w6 L 28 (.slice (some ⟨g2, 0, none⟩) (3 + q + 1) c2)
  have hL3 : L < w.heap.size := h.bx.lt
  refine ⟨g1, c1, w3, g2, c2, w6, r1, (h.bx.edit e1 id).cell 27, b3.cell 27, b3.free 27, by rw [← hW4]; exact r2, by rw [← hW4]; exact b4.cell 28, b6.cell 28, b6.free 28, ?_⟩
  have kw : ∀ j, j < q → kn w (wk j) = 173 + 1 := fun j hj => (h.wks j hj).1.kn
  have hg1 : tb + 1 ≤ g1 := own_low p1 g1 rfl
  have hg2 : tb ≤ g2 := own_low p2 g2 rfl
  refine ⟨b6.set 28 _, ?_, ?_, fun j hj => ?_, fun i j hi hj hij => ?_, ?_, ?_⟩
  · have h1 : w3.ownsRow (tb + 1) 170 1 (.slice (some ⟨g1, 0, none⟩) (q + 1) c1) (q + 1) ((List.range (q + 1)).map fun j => ptrV (updL wk q w.heap.size j)) := by
      have e : ((List.range (q + 1)).map fun j => ptrV (updL wk q w.heap.size j)) = ((List.range q).map fun j => ptrV (wk j)) ++ [ptrV w.heap.size] := by
        rw [List.range_succ, List.map_append]
        have e5 : ((List.range q).map fun j => ptrV (updL wk q w.heap.size j)) = (List.range q).map fun j => ptrV (wk j) := by
          apply List.map_congr_left
          intro j hj
          have := List.mem_range.1 hj
          simp only [updL, if_neg (show ¬ j = q by omega)]
        rw [e5]
        simp [updL]
      rw [e]
      exact p1
    refine shOwn (shOwn (shOwn h1 e4 fun g hg hh => ?_) d2 fun g hg hh => ?_) e7 fun g hg hh => ?_
    · cases hg; rw [show g1 = L from hh] at hg1; omega
    · cases hg
      have h2 := (own_kn p1 g1 rfl).1
      have h3 := (own_kn t3 g1 hh).1
      rw [h2] at h3
      exact absurd h3 (by decide)
    · cases hg; rw [show g1 = L from hh] at hg1; omega
  · have e : ((List.range (3 + (q + 1))).map (tkV z (updL wk q w.heap.size))) = ((List.range (3 + q)).map (tkV z wk)) ++ [.iface 170 (ptrV w.heap.size)] := by
      rw [show 3 + (q + 1) = (3 + q) + 1 by omega, List.range_succ, List.map_append]
      have e5 : (List.range (3 + q)).map (tkV z (updL wk q w.heap.size)) = (List.range (3 + q)).map (tkV z wk) := by
        apply List.map_congr_left
        intro j hj
        have := List.mem_range.1 hj
        match j, this with
        | 0, _ => rfl
        | 1, _ => rfl
        | 2, _ => rfl
        | j + 3, h5 => simp only [tkV, updL, if_neg (show ¬ j = q by omega)]
      rw [e5, Nat.add_comm 3 q]
      simp [tkV, updL]
    rw [e, show 3 + (q + 1) = 3 + q + 1 by omega]
    exact shOwn p2 e7 fun g hg hh => by cases hg; rw [show g2 = L from hh] at hg2; omega
  · have base : ∀ k, Bx W1 k 173 #[ptrV L, .bool false, .pointer none] → k ≠ L → Bx (w6.setCell ⟨L, 28, none⟩ (.slice (some ⟨g2, 0, none⟩) (3 + q + 1) c2)) k 173 #[ptrV L, .bool false, .pointer none] := fun k hk hne => by
      have n1 : ¬ wv.ownBlock = some k := fun hh => by have h3 := (own_kn o1 k hh).1; rw [hk.kn] at h3; exact absurd h3 (by decide)
      have k3 := hk.edit d1 n1
      have n2 : ¬ tv.ownBlock = some k := fun hh => by have h3 := (own_kn t3 k hh).1; rw [k3.kn] at h3; exact absurd h3 (by decide)
      exact ((k3.edit e4 hne).edit d2 n2).edit e7 hne
    by_cases e : j = q
    · subst e
      simp only [updL, if_true]
      exact ⟨base _ k1 (by omega), by omega⟩
    · simp only [updL, if_neg e]
      have h5 := h.wks j (by omega)
      exact ⟨base _ (h5.1.edit e1 id) (by omega), h5.2⟩
  · simp only [updL] at hij
    by_cases e1 : i = q
    · by_cases e2 : j = q
      · omega
      · rw [if_pos e1, if_neg e2] at hij
        have := (h.wks j (by omega)).1.lt
        omega
    · by_cases e2 : j = q
      · rw [if_neg e1, if_pos e2] at hij
        have := (h.wks i (by omega)).1.lt
        omega
      · rw [if_neg e1, if_neg e2] at hij
        exact h.inj i j (by omega) (by omega) hij
  · have hU := h.ed.size
    have e16 : Edit (fun k => wv.ownBlock = some k ∨ k = L ∨ tv.ownBlock = some k) w (w6.setCell ⟨L, 28, none⟩ (.slice (some ⟨g2, 0, none⟩) (3 + q + 1) c2)) := ((((e1.mono fun _ h => h.elim).trans (d1.mono fun _ h => Or.inl h)).trans (e4.mono fun _ h => Or.inr (Or.inl h))).trans (d2.mono fun _ h => Or.inr (Or.inr h))).trans (e7.mono fun _ h => Or.inr (Or.inl h))
    refine ⟨e16.os.trans h.ed.os, e16.tape.trans h.ed.tape, e16.output.trans h.ed.output, Nat.le_trans hU e16.size, fun k hk hS => ?_⟩
    have hu3 := h.big.2.2
    refine (e16.block k (by omega) fun hh => ?_).trans (h.ed.block k hk hS)
    rcases hh with hh | hh | hh
    · have := own_low h.wrow k hh
      omega
    · exact hS (Or.inl hh)
    · have := own_low h.trow k hh
      exact hS (Or.inr (by omega))
  · exact ⟨by have := e7.size; omega, h.big.2⟩
/-- .. and its three first tasks, and the lists. -/
structure Raw3 (p : Lpar) (x : Lsn) (B0 L qj ql qr cj cl cr sp su wr lg : Nat) (A : Nat → Option Addr) (C : Nat → Nat) (w : World) : Prop where
  bx : Bx w L 160 (lnD p x qj ql qr (ptrV sp) (ptrV su) (ptrV wr) (.slice none 0 0) (.slice none 0 0))
  spx : Bx w sp 165 #[ptrV L, .bool false, .slice (some ⟨lg, 0, none⟩) x.ch x.ch, .int .i64 0]
  sux : Bx w su 167 #[ptrV L, .bool false, .int .i64 0, .int .i64 1]
  wrx : Bx w wr 169 #[ptrV L, .bool false, .bool false, .slice none 0 0]
  cops : Cops (lg + 1) lg x.ch x.S x.ch A C x.G w
  Qj : QIs w qj cj 247 p.Rm #[] false
  Ql : QIs w ql cl 247 p.Rm #[] false
  Qr : QIs w qr cr 250 p.Rm #[] false
  lo : B0 ≤ L ∧ B0 ≤ qj ∧ B0 ≤ ql ∧ B0 ≤ qr ∧ B0 ≤ cj ∧ B0 ≤ cl ∧ B0 ≤ cr ∧ B0 ≤ sp ∧ B0 ≤ su ∧ B0 ≤ wr ∧ B0 ≤ lg
  ne : qj ≠ ql ∧ cj ≠ cl ∧ cj ≠ cr ∧ cl ≠ cr
theorem Cops.edit {base lg n S q : Nat} {A : Nat → Option Addr} {C : Nat → Nat} {G : Nat → Nat → Int} {w u : World} {T : Nat → Prop} (h : Cops base lg n S q A C G w) (he : Edit T w u) (h1 : ¬ T lg) (h2 : ∀ k, base ≤ k → kn w k = 3 + 1 → ¬ T k) : Cops base lg n S q A C G u :=
  ⟨rowIs_at h.row (he.block lg (by obtain ⟨c, h3, -⟩ := h.row; exact (Array.getElem?_eq_some_iff.1 h3).1) h1), fun i hi => shOwn (h.own i hi) he fun g hg => h2 g (own_low (h.own i hi) g hg) (own_kn (h.own i hi) g hg).1⟩
theorem smN_0 (x : Lsn) : smN x 0 = 1 := by
  unfold smN
  rw [Nat.zero_mul, Nat.zero_min, Nat.zero_mul, Nat.mul_zero]
  rfl
/-- A line that was made. -/
theorem made {p : Lpar} {x : Lsn} {B B0 L qj ql qr cj cl cr z lg tb : Nat} {A : Nat → Option Addr} {C : Nat → Nat} {V U w : World} {wv tv : Value} {wk : Nat → Nat} (kp : KP x.d x.ch x.B x.c3 x.c4 x.S x.G) (hW1 : 1 ≤ p.W) (hW8 : p.W ≤ 8) (hD : p.Wd ≤ 16) (hR : p.Rm ≤ 8) (hN : p.N = nBlk x.S x.B) (hB : B ≤ B0)
    (HV : Raw3 p x B0 L qj ql qr cj cl cr z (z + 1) (z + 1 + 1) lg A C V) (hVz : V.heap.size = tb) (eU : Edit (fun k => k = L ∨ k = tb) V U) (h : WkI p x L qj ql qr z tb U p.W wv tv wk w) :
    ∃ a : Lad, a.lb = L ∧ LineIs p a x (fun k => B ≤ k ∧ k < w.heap.size) Lst.init w := by
  have e : Edit (fun k => k = L ∨ k = tb) V w := eU.trans h.ed
  have hsz := e.size
  obtain ⟨l1, l2, l3, l4, l5, l6, l7, l8, l9, l10, l11⟩ := HV.lo
  have kL := HV.bx.kn
  have ksp := HV.spx.kn; have ksu := HV.sux.kn; have kwr := HV.wrx.kn
  have kqj := HV.Qj.cells.kn; have kql := HV.Ql.cells.kn; have kqr := HV.Qr.cells.kn
  have kcj := HV.Qj.kc; have kcl := HV.Ql.kc; have kcr := HV.Qr.kc
  have klg := rowIs_kn HV.cops.row
  have lL := HV.bx.lt; have lsp := HV.spx.lt; have lsu := HV.sux.lt; have lwr := HV.wrx.lt
  have lqj := HV.Qj.cells.lt; have lql := HV.Ql.cells.lt; have lqr := HV.Qr.cells.lt
  have lch : ∀ {q c : Nat} {t : TypeId} {cap : Nat} {buf : Array Value} {b : Bool}, QIs V q c t cap buf b → c < V.heap.size := fun hq => by obtain ⟨s, r, hc⟩ := hq.chan; exact (Array.getElem?_eq_some_iff.1 hc).1
  have lcj := lch HV.Qj; have lcl := lch HV.Ql; have lcr := lch HV.Qr
  have llg : lg < V.heap.size := by obtain ⟨c, h3, -⟩ := HV.cops.row; exact (Array.getElem?_eq_some_iff.1 h3).1
  obtain ⟨Aw, cw, rfl, hAw⟩ := own_open h.wrow
  obtain ⟨wb, rfl, lwb, -⟩ := hAw (by omega)
  obtain ⟨At, ct, rfl, hAt⟩ := own_open h.trow
  obtain ⟨tbl, rfl, ltb, -⟩ := hAt (by omega)
  have hwb := own_low h.wrow wb rfl
  have htb := own_low h.trow tbl rfl
  have htb0 : kn V tb = 0 := by
    unfold kn
    rw [Array.getElem?_eq_none (by omega)]
  have hC := HV.cops.edit e (by grind) (fun k hk hkn hh => by
    rcases hh with hh | hh
    · rw [hh, kL] at hkn
      exact absurd hkn (by decide)
    · rw [hh, htb0] at hkn
      cases hkn)
  let a : Lad := ⟨L, z, z + 1, z + 1 + 1, qj, ql, qr, cj, cl, cr, tbl, ct, wb, cw, wk, lg, x.ch, A, C, fun _ => 0, w.heap.size⟩
  have nil1 : ∀ (e : TypeId) (n : Nat), w.ownsRow w.heap.size e n (.slice none 0 0) 0 [] := fun e n => ⟨(Nat.zero_mul n).symm, Or.inl ⟨rfl, rfl⟩⟩
  have hrow : ∀ i, i < x.ch → w.cell? ⟨lg, i, none⟩ = some (.slice (A i) x.S (C i)) := fun i hi => by
    have := hC.row.cell hi
    rw [if_pos hi] at this
    exact this
  have hbl : ∀ i, i < x.ch → ∀ y, A i = some y → 0 < x.S → lg + 1 ≤ y.block ∧ y.block < w.heap.size ∧ kn w y.block = 3 + 1 := fun i hi y hy h0 => by
    have h5 := own_kn (hC.own i hi) y.block (by rw [hy]; rfl)
    exact ⟨h5.2.1, h5.2.2, h5.1⟩
  refine ⟨a, rfl, ⟨kp, hN, hW8, hD, hR, ⟨.slice none 0 0, .slice none 0 0, .slice none 0 0, h.bx, HV.wrx.edit e (by grind), nil1 _ _, fun g hg => (by cases hg), nil1 _ _, fun g hg => (by cases hg), nil1 _ _, fun g hg => (by cases hg)⟩, HV.spx.edit e (by grind), ?_, ⟨fun _ => 0, fun j hj => (h.wks j hj).1, fun j k hj hk => (by cases hk)⟩, HV.Qj.edit e (by grind) (by grind), HV.Ql.edit e (by grind) (by grind), ?_, ?_, own_base h.wrow (Nat.zero_le _), fun k hk => absurd hk (Nat.not_lt_zero k), ?_, ?_, ?_, ?_, ?_, ?_, fun k hk => hk.2, ⟨HV.ne.1, HV.ne.2.1, HV.ne.2.2.1, HV.ne.2.2.2, fun i j hi hj hij => h.inj i j hi hj hij⟩, Nat.le_refl _, rowIs_kn hC.row, fun i hi y hy h0 => (hbl i hi y hy h0).2.2⟩⟩
  · have h5 := HV.sux.edit e (by grind)
    show Bx w (z + 1) _ #[ptrV L, .bool false, .int .i64 0, .int .i64 (smN x 0)]
    rw [smN_0]
    exact h5
  · have h5 := HV.Qr.edit e (by grind) (by grind)
    rw [show Lst.init.shut p = false from shut_false (s := Lst.init) (j := 0) (by omega) rfl]
    exact h5
  · have h5 := own_base h.trow (Nat.zero_le _)
    have e5 : (List.range (3 + p.W)).map (taskV a) = (List.range (3 + p.W)).map (tkV z wk) := by
      apply List.map_congr_left
      intro j _
      match j with
      | 0 => rfl
      | 1 => rfl
      | 2 => rfl
      | j + 3 => rfl
    rw [e5]
    exact h5
  · intro i hi
    refine ⟨_, rfl, ?_⟩
    rw [addr_add, Nat.zero_add]
    exact hrow i hi
  · intro i hi j hj
    obtain ⟨Ai, ci, e5, hA5⟩ := own_open (hC.own i hi)
    injection e5 with e6 e7 e8
    obtain ⟨g, e9, -, hc⟩ := hA5 (by omega)
    refine ⟨⟨g, 0, none⟩, by rw [show a.A i = A i from rfl, e6, e9], ?_⟩
    rw [addr_add, Nat.zero_add]
    exact hc j _ (by simp [intsL, hj])
  · intro i hi
    rcases (hC.own i hi).2 with ⟨h5, h6⟩ | ⟨g, cap, cur, h5, h6, h7, h8, -⟩
    · rw [h6]; exact Nat.zero_le _
    · injection h5 with h9 h10 h11
      show x.S ≤ C i
      omega
  · exact ⟨fun y hy _ => by cases hy; exact Nat.lt_of_lt_of_le llg hsz, fun i hi y hy h0 => (hbl i hi y hy h0).2.1⟩
  · exact ⟨⟨Nat.le_trans hB l11, Nat.lt_of_lt_of_le llg hsz⟩, fun i hi y hy h0 => ⟨by have := (hbl i hi y hy h0).1; omega, (hbl i hi y hy h0).2.1⟩⟩
  · have hb1 := h.big
    show (B ≤ L ∧ L < _) ∧ (B ≤ z ∧ z < _) ∧ (B ≤ z + 1 ∧ z + 1 < _) ∧ (B ≤ z + 1 + 1 ∧ z + 1 + 1 < _) ∧ (B ≤ qj ∧ qj < _) ∧ (B ≤ ql ∧ ql < _) ∧ (B ≤ qr ∧ qr < _) ∧ (B ≤ cj ∧ cj < _) ∧ (B ≤ cl ∧ cl < _) ∧ (B ≤ cr ∧ cr < _) ∧ (B ≤ tbl ∧ tbl < _) ∧ (B ≤ wb ∧ wb < _) ∧ _
    refine ⟨⟨by omega, by omega⟩, ⟨by omega, by omega⟩, ⟨by omega, by omega⟩, ⟨by omega, by omega⟩, ⟨by omega, by omega⟩, ⟨by omega, by omega⟩, ⟨by omega, by omega⟩, ⟨by omega, by omega⟩, ⟨by omega, by omega⟩, ⟨by omega, by omega⟩, ⟨by omega, ltb⟩, ⟨by omega, lwb⟩, fun j hj => ⟨?_, (h.wks j hj).1.lt⟩⟩
    have := (h.wks j hj).2
    show B ≤ wk j
    omega
end Go.Proofs.YtlncjgnomhpjnabGreatDoor

