/-
  What was lent, looked at; the sound that came in (door seats).
-/
import Derived.Test.YtfhmnplioghhiaaGreatDoorLentAllD
import Derived.Deep.RegionWith
namespace Go.Proofs.YtfhmnplioghhiaaGreatDoor
open Go.RowKit Go.Deep
set_option linter.unusedVariables false

set_option maxHeartbeats 400000 in
theorem wholeAll_none (v u : Value) (w : World) :
    Calls Tryz.prog 41 #[v, u, .slice none 0 0] w fun e w' => e = .returned (.bool true) ∧ w' = w := by
  have hnl := fun u : World => Lib.run_eql_slice_nil (P := Tryz.prog) u 24 29 none 0 0 0 0 Tryz.underlying24
  go_enter Tryz.func41, Tryz.ntmps41
  go_wp2
  go_ret
  exact ⟨rfl, rfl⟩

theorem lnum_any (c : Int) (w : World) : Calls Tryz.prog 13 #[.int .i64 c] w fun e w' => e = .returned (.int .i64 c) ∧ w' = w := by
  go_enter Tryz.func13, Tryz.ntmps13
  go_wp2
  go_ret
  exact ⟨rfl, rfl⟩

theorem Rest.below' {w wr wr' : World} {n : Nat} {A : Nat → Option Addr} {L : Nat → Nat} {F : Nat → Nat → Int} {NB : Nat → Nat} {k : Nat} (h : Rest w wr n A L F NB k) (hb : Below wr.heap.size wr wr') : Rest w wr' n A L F NB k := by
  have hs := h.below.size
  refine ⟨h.below.trans (hb.mono hs), h.out.of_block (hb.block _ h.out.lt), h.mine.of_block (hb.block _ h.mine.lt), h.lo, fun i hi => Nat.lt_of_lt_of_le (h.hi i hi) hb.size,
    fun i h1 h2 x hx => (h.row i h1 h2 x hx).of_block (hb.block _ (h.hi i (by omega))), fun i h1 h2 => (h.far i h1 h2).of_block (hb.block _ (h.hi i h2)), h.ne⟩

theorem Rest.lists {w wr : World} {n : Nat} {A : Nat → Option Addr} {L : Nat → Nat} {F : Nat → Nat → Int} {NB : Nat → Nat} {k : Nat} (h : Rest w wr n A L F NB k) :
    ListsAt wr (some ⟨w.heap.size, 0, none⟩) n (fun i => lentA (A i) (NB i)) L (fun i => lentC (A i) (L i)) := fun i hi => by
  refine ⟨_, rfl, ?_⟩
  have := h.out.cell (i := i) (by omega)
  rw [outV, if_pos hi] at this
  rw [← lentV, ← this]
  cases i <;> simp [Addr.add]
theorem Rest.ints {w wr : World} {n : Nat} {A : Nat → Option Addr} {L : Nat → Nat} {F : Nat → Nat → Int} {NB : Nat → Nat} (h : Rest w wr n A L F NB 0) (hnil : ∀ i, i < n → A i = none → L i = 0) :
    ∀ i, i < n → IntsAt wr (lentA (A i) (NB i)) (L i) (F i) := fun i hi j hj => by
  cases hA : A i with
  | none => rw [hnil i hi hA] at hj; exact absurd hj (by omega)
  | some x =>
    refine ⟨⟨NB i, 0, none⟩, rfl, ?_⟩
    have := (h.row i (by omega) hi x hA).cell (i := j) (by omega)
    rw [lentRow, if_pos hj] at this
    rw [← this]
    cases j <;> simp [Addr.add]
theorem Rest.low {w wr : World} {n : Nat} {A : Nat → Option Addr} {L : Nat → Nat} {F : Nat → Nat → Int} {NB : Nat → Nat} {k : Nat} (h : Rest w wr n A L F NB k) :
    Low wr.heap.size (some ⟨w.heap.size, 0, none⟩) n (fun i => lentA (A i) (NB i)) L := by
  refine ⟨fun x hx _ => ?_, fun i hi x hx _ => ?_⟩
  · cases hx; exact h.out.lt
  · cases hA : A i with
    | none => simp [lentA, hA] at hx
    | some y => simp [lentA, hA] at hx; subst hx; exact h.hi i (by omega)

theorem bcellB {B : Nat} {W w1 : World} (hb : Below B W w1) : (∀ b o, b < B → w1.cell? ⟨b, o, none⟩ = W.cell? ⟨b, o, none⟩) ∧ (∀ b o, b < B → w1.frozen? ⟨b, o, none⟩ = W.frozen? ⟨b, o, none⟩) :=
  ⟨fun b o h => hb.cell (p := ⟨b, o, none⟩) h, fun b o h => hb.frozen (p := ⟨b, o, none⟩) h⟩

theorem lists_none (w : World) : ListsAt w none 0 (fun _ => none) (fun _ => 0) (fun _ => 0) := fun i hi => absurd hi (by omega)
/-- the document's own example -/
theorem example_any (w : World) : Calls Tryz.prog 11 #[] w fun e w' => e = .returned (.agg #[.int .i64 1, .int .i64 4, .int .i64 2, .int .i64 8, .int .i64 1, .int .i64 2, .int .i64 2, .int .i64 1]) ∧ Below w.heap.size w w' := by
  go_enter Tryz.func11, Tryz.ntmps11
  go_wp2
  exact bodyPost_ret (v := .agg #[.int .i64 1, .int .i64 4, .int .i64 2, .int .i64 8, .int .i64 1, .int .i64 2, .int .i64 2, .int .i64 1]) (by simp [results, Tryz.results11, go_sem]) rfl ⟨rfl, (Below.refl _ _).alloc (Nat.le_refl _) _⟩

/-- a sound that came in -/
structure SoundIn (w : World) (a : Option Addr) (n cap : Nat) (A : Nat → Option Addr) (L C : Nat → Nat) (F : Nat → Nat → Int) : Prop where
  nil : a = none → n = 0 ∧ cap = 0
  hn : n ≤ 5864062014805
  hL : ∀ i, i < n → L i ≤ 17592186044416
  hA : ListsAt w a n A L C
  hI : ∀ i, i < n → IntsAt w (A i) (L i) (F i)
  low : Low w.heap.size a n A L
  no : ∀ i, i < n → A i = none → L i = 0 ∧ C i = 0
theorem SoundIn.below {w w' : World} {a : Option Addr} {n cap : Nat} {A : Nat → Option Addr} {L C : Nat → Nat} {F : Nat → Nat → Int} (h : SoundIn w a n cap A L C F) (hb : Below w.heap.size w w') : SoundIn w' a n cap A L C F :=
  ⟨h.nil, h.hn, h.hL, h.hA.below hb h.low.1, fun i hi => (h.hI i hi).below hb (h.low.2 i hi), ⟨fun x hx h0 => Nat.lt_of_lt_of_le (h.low.1 x hx h0) hb.size, fun i hi x hx h0 => Nat.lt_of_lt_of_le (h.low.2 i hi x hx h0) hb.size⟩, h.no⟩
end Go.Proofs.YtfhmnplioghhiaaGreatDoor
