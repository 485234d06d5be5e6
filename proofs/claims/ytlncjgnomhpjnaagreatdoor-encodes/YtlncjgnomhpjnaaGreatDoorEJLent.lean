import Derived.Test.YtlncjgnomhpjnaaGreatDoorEKLentAll
import Derived.Deep.RegionWith
import Derived.ProofKit
import Derived.OpenShut
import Derived.SizedLaws
import Derived.Deep.Matrix
/-
  What was lent, looked at; the sound that came in (door seats).
-/
namespace Go.Proofs.YtlncjgnomhpjnaaGreatDoor
open Go.RowKit Go.Deep
set_option linter.unusedVariables false

set_option maxHeartbeats 400000 in
theorem wholeAll_none (v u : Value) (w : World) :
    Calls Tryz.prog 41 #[v, u, .slice none 0 0] w fun e w' => e = .returned (.bool true) ∧ w' = w := by
  have hnl := fun u : World => Lib.run_eql_slice_nil (P := Tryz.prog) u 24 29 none 0 0 0 0 Tryz.underlying24
  go_enter Tryz.func41, Tryz.ntmps41
  go_wp2
  go_ret
  exact ⟨rfl, rfl⟩

theorem lnum_any (c : Int) (w : World) : Calls Tryz.prog 13 #[.int .i64 c] w fun e w' => e = .returned (.int .i64 c) ∧ w' = w := by
  go_enter Tryz.func13, Tryz.ntmps13
  go_wp2
  go_ret
  exact ⟨rfl, rfl⟩

theorem Rest.below' {w wr wr' : World} {n : Nat} {A : Nat → Option Addr} {L : Nat → Nat} {F : Nat → Nat → Int} {NB : Nat → Nat} {k : Nat} (h : Rest w wr n A L F NB k) (hb : Below wr.heap.size wr wr') : Rest w wr' n A L F NB k := by
  have hs := h.below.size
  refine ⟨h.below.trans (hb.mono hs), h.out.of_block (hb.block _ h.out.lt), h.mine.of_block (hb.block _ h.mine.lt), h.lo, fun i hi => Nat.lt_of_lt_of_le (h.hi i hi) hb.size,
    fun i h1 h2 x hx => (h.row i h1 h2 x hx).of_block (hb.block _ (h.hi i (by omega))), fun i h1 h2 => (h.far i h1 h2).of_block (hb.block _ (h.hi i h2)), h.ne⟩

theorem Rest.lists {w wr : World} {n : Nat} {A : Nat → Option Addr} {L : Nat → Nat} {F : Nat → Nat → Int} {NB : Nat → Nat} {k : Nat} (h : Rest w wr n A L F NB k) :
    ListsAt wr (some ⟨w.heap.size, 0, none⟩) n (fun i => lentA (A i) (NB i)) L (fun i => lentC (A i) (L i)) := fun i hi => by
  refine ⟨_, rfl, ?_⟩
  have := h.out.cell (i := i) (by omega)
  rw [outV, if_pos hi] at this
  rw [← lentV, ← this]
  cases i <;> simp [Addr.add]
theorem Rest.ints {w wr : World} {n : Nat} {A : Nat → Option Addr} {L : Nat → Nat} {F : Nat → Nat → Int} {NB : Nat → Nat} (h : Rest w wr n A L F NB 0) (hnil : ∀ i, i < n → A i = none → L i = 0) :
    ∀ i, i < n → IntsAt wr (lentA (A i) (NB i)) (L i) (F i) := fun i hi j hj => by
  cases hA : A i with
  | none => rw [hnil i hi hA] at hj; exact absurd hj (by omega)
  | some x =>
    refine ⟨⟨NB i, 0, none⟩, rfl, ?_⟩
    have := (h.row i (by omega) hi x hA).cell (i := j) (by omega)
    rw [lentRow, if_pos hj] at this
    rw [← this]
    cases j <;> simp [Addr.add]
theorem Rest.low {w wr : World} {n : Nat} {A : Nat → Option Addr} {L : Nat → Nat} {F : Nat → Nat → Int} {NB : Nat → Nat} {k : Nat} (h : Rest w wr n A L F NB k) :
    Low wr.heap.size (some ⟨w.heap.size, 0, none⟩) n (fun i => lentA (A i) (NB i)) L := by
  refine ⟨fun x hx _ => ?_, fun i hi x hx _ => ?_⟩
  · cases hx; exact h.out.lt
  · cases hA : A i with
    | none => simp [lentA, hA] at hx
    | some y => simp [lentA, hA] at hx; subst hx; exact h.hi i (by omega)

theorem bcellB {B : Nat} {W w1 : World} (hb : Below B W w1) : (∀ b o, b < B → w1.cell? ⟨b, o, none⟩ = W.cell? ⟨b, o, none⟩) ∧ (∀ b o, b < B → w1.frozen? ⟨b, o, none⟩ = W.frozen? ⟨b, o, none⟩) :=
  ⟨fun b o h => hb.cell (p := ⟨b, o, none⟩) h, fun b o h => hb.frozen (p := ⟨b, o, none⟩) h⟩

theorem lists_none (w : World) : ListsAt w none 0 (fun _ => none) (fun _ => 0) (fun _ => 0) := fun i hi => absurd hi (by omega)
/-- the document's own example -/
theorem example_any (w : World) : Calls Tryz.prog 11 #[] w fun e w' => e = .returned (.agg #[.int .i64 1, .int .i64 4, .int .i64 2, .int .i64 8, .int .i64 1, .int .i64 2, .int .i64 2, .int .i64 1]) ∧ Below w.heap.size w w' := by
  go_enter Tryz.func11, Tryz.ntmps11
  go_wp2
  exact bodyPost_ret (v := .agg #[.int .i64 1, .int .i64 4, .int .i64 2, .int .i64 8, .int .i64 1, .int .i64 2, .int .i64 2, .int .i64 1]) (by simp [results, Tryz.results11, go_sem]) rfl ⟨rfl, (Below.refl _ _).alloc (Nat.le_refl _) _⟩

/-- a sound that came in -/
structure SoundIn (w : World) (a : Option Addr) (n cap : Nat) (A : Nat → Option Addr) (L C : Nat → Nat) (F : Nat → Nat → Int) : Prop where
  nil : a = none → n = 0 ∧ cap = 0
  hn : n ≤ 5864062014805
  hL : ∀ i, i < n → L i ≤ 17592186044416
  hA : ListsAt w a n A L C
  hI : ∀ i, i < n → IntsAt w (A i) (L i) (F i)
  low : Low w.heap.size a n A L
  no : ∀ i, i < n → A i = none → L i = 0 ∧ C i = 0
  room : ∀ i, i < n → L i ≤ C i
theorem SoundIn.below {w w' : World} {a : Option Addr} {n cap : Nat} {A : Nat → Option Addr} {L C : Nat → Nat} {F : Nat → Nat → Int} (h : SoundIn w a n cap A L C F) (hb : Below w.heap.size w w') : SoundIn w' a n cap A L C F :=
  ⟨h.nil, h.hn, h.hL, h.hA.below hb h.low.1, fun i hi => (h.hI i hi).below hb (h.low.2 i hi), ⟨fun x hx h0 => Nat.lt_of_lt_of_le (h.low.1 x hx h0) hb.size, fun i hi x hx h0 => Nat.lt_of_lt_of_le (h.low.2 i hi x hx h0) hb.size⟩, h.no, h.room⟩
end Go.Proofs.YtlncjgnomhpjnaaGreatDoor

/-
  What comes in, opened: a configuration, a sound (door seats).
-/
namespace Go.Proofs.YtlncjgnomhpjnaaGreatDoor
open Go.ChangeShapes Go.WideShapes Go.ChangeAt Go.RowKit Go.Deep

theorem cellsCfg : Tryz.prog.cellsOf 23 = 8 := by kernel_rfl
theorem cellsInt : Tryz.prog.cellsOf 3 = 1 := by kernel_rfl
theorem cellsInts : Tryz.prog.cellsOf 29 = 1 := by kernel_rfl
theorem bytesInt : Tryz.prog.bytesOf 3 = 8 := by kernel_rfl
theorem bytesInts : Tryz.prog.bytesOf 29 = 24 := by kernel_rfl

theorem array8 {α : Type} {cs : Array α} (h : cs.size = 8) : ∃ c0 c1 c2 c3 c4 c5 c6 c7, cs = #[c0, c1, c2, c3, c4, c5, c6, c7] := by
  obtain ⟨l⟩ := cs
  match l, h with
  | [c0, c1, c2, c3, c4, c5, c6, c7], _ => exact ⟨c0, c1, c2, c3, c4, c5, c6, c7, rfl⟩

set_option maxRecDepth 100000 in
theorem open_cfg {H : Type} {enc : TypeId × Value → H} {W : World} {base : Nat} {v : Value} {d : DataW H} {p : List MemPlace}
    (hv : Value.okWide Tryz.prog W .any base 23 v) (h : DataW.Trod enc Tryz.prog W 0 (fun _ => true) true 23 v d p) :
    ∃ c0 c1 c2 c3 c4 c5 c6 c7 : Int, v = .agg #[.int .i64 c0, .int .i64 c1, .int .i64 c2, .int .i64 c3, .int .i64 c4, .int .i64 c5, .int .i64 c6, .int .i64 c7] := by
  obtain ⟨cs, rfl, hsz⟩ := okWide_struct Tryz.underlying23 hv
  obtain ⟨v0, v1, v2, v3, v4, v5, v6, v7, rfl⟩ := array8 (hsz.trans cellsCfg)
  obtain ⟨fuel, hf⟩ := h
  obtain ⟨xs, n, _, _, _, hlen, hfs⟩ := DataW.trod_struct Tryz.underlying23 hf
  have hg : ∀ i, i < 8 → ∃ y, xs[i]? = some y := fun i hi => ⟨_, List.getElem?_eq_getElem (by rw [hlen]; exact hi)⟩
  have h0 := hfs 0 _ rfl
  have h1 := hfs 1 _ rfl
  have h2 := hfs 2 _ rfl
  have h3 := hfs 3 _ rfl
  have h4 := hfs 4 _ rfl
  have h5 := hfs 5 _ rfl
  have h6 := hfs 6 _ rfl
  have h7 := hfs 7 _ rfl
  obtain ⟨y0, e0⟩ := hg 0 (by omega)
  obtain ⟨y1, e1⟩ := hg 1 (by omega)
  obtain ⟨y2, e2⟩ := hg 2 (by omega)
  obtain ⟨y3, e3⟩ := hg 3 (by omega)
  obtain ⟨y4, e4⟩ := hg 4 (by omega)
  obtain ⟨y5, e5⟩ := hg 5 (by omega)
  obtain ⟨y6, e6⟩ := hg 6 (by omega)
  obtain ⟨y7, e7⟩ := hg 7 (by omega)
  obtain ⟨c0, k0, _⟩ := DataW.trod_int Tryz.underlying3 (h0.trans e0)
  obtain ⟨c1, k1, _⟩ := DataW.trod_int Tryz.underlying3 (h1.trans e1)
  obtain ⟨c2, k2, _⟩ := DataW.trod_int Tryz.underlying3 (h2.trans e2)
  obtain ⟨c3, k3, _⟩ := DataW.trod_int Tryz.underlying3 (h3.trans e3)
  obtain ⟨c4, k4, _⟩ := DataW.trod_int Tryz.underlying3 (h4.trans e4)
  obtain ⟨c5, k5, _⟩ := DataW.trod_int Tryz.underlying3 (h5.trans e5)
  obtain ⟨c6, k6, _⟩ := DataW.trod_int Tryz.underlying3 (h6.trans e6)
  obtain ⟨c7, k7, _⟩ := DataW.trod_int Tryz.underlying3 (h7.trans e7)
  simp [Value.cells, cellsInt] at k0 k1 k2 k3 k4 k5 k6 k7
  exact ⟨c0, c1, c2, c3, c4, c5, c6, c7, by rw [k0, k1, k2, k3, k4, k5, k6, k7]⟩

theorem weights_all {H : Type} {P : Program} {e : TypeId} {d : DataW H} : ∀ {l : List (DataW H)}, d ∈ l → ∀ n ∈ d.weights P e, n ∈ DataW.weightsAll P e l
  | x :: l, hd, n, hn => by
    simp only [DataW.weightsAll, List.mem_append]
    cases List.mem_cons.1 hd with
    | inl h => subst h; exact Or.inl hn
    | inr h => exact Or.inr (weights_all h n hn)

set_option maxRecDepth 100000 in
/-- a sound that came in, as the walk is told of it; 'hw': what weighs among the data -/
theorem open_sound {H : Type} {enc : TypeId × Value → H} {W : World} {a : Option Addr} {n cap : Nat} {d : DataW H} {p : List MemPlace}
    (h : DataW.Trod enc Tryz.prog W 0 (fun _ => true) true 24 (.slice a n cap) d p) (hw : ∀ x ∈ d.weights Tryz.prog 24, x ≤ reachBytes) (hlt : ∀ x ∈ p, x.block < W.heap.size) :
    ∃ (A : Nat → Option Addr) (L C : Nat → Nat) (F : Nat → Nat → Int), SoundIn W a n cap A L C F := by
  obtain ⟨fuel, hf⟩ := h
  rcases open_int_rows Tryz.underlying24 Tryz.underlying29 Tryz.underlying3 cellsInts cellsInt hf with ⟨hcs, _⟩ | ⟨x, len, cp, A, L, C, Z, hcs, _, hl, _, hx, hrows⟩
  · simp [Value.cells] at hcs
    obtain ⟨rfl, rfl, rfl⟩ := hcs
    exact ⟨fun _ => none, fun _ => 0, fun _ => 0, fun _ _ => 0, ⟨fun _ => ⟨rfl, rfl⟩, by omega, fun i hi => absurd hi (by omega), fun i hi => absurd hi (by omega), fun i hi => absurd hi (by omega), ⟨fun x hx => (by cases hx), fun i hi => absurd hi (by omega)⟩, fun i hi => absurd hi (by omega), fun i hi => absurd hi (by omega)⟩⟩
  · simp [Value.cells] at hcs
    obtain ⟨rfl, rfl, rfl⟩ := hcs
    simp only [Prod.mk.injEq] at hx
    obtain ⟨rfl, rfl⟩ := hx
    have hn : n ≤ 5864062014805 := by
      have := hw _ (by simp only [DataW.weights, Tryz.underlying24]; exact List.mem_cons_self)
      simp only [List.length_map, List.length_range, bytesInts, reachBytes] at this
      omega
    have hwi : ∀ i, i < n → A i ≠ none → L i ≤ 17592186044416 := fun i hi hA => by
      obtain ⟨_, hLC, _, hZ, _⟩ := hrows i (by omega)
      cases hAi : A i with
      | none => exact absurd hAi hA
      | some y =>
        have hm : (DataW.slice (lits .i64 ((Z i).take (L i))) (lits .i64 ((Z i).drop (L i))) : DataW H) ∈ (List.range n).map fun r => intRow .i64 (A r) (L r) (Z r) :=
          List.mem_map.2 ⟨i, List.mem_range.2 hi, by simp [intRow, hAi]⟩
        have := hw (((lits (H := H) .i64 ((Z i).take (L i))).length + (lits (H := H) .i64 ((Z i).drop (L i))).length) * Tryz.prog.bytesOf 3) (by
          simp only [DataW.weights, Tryz.underlying24]
          refine List.mem_cons_of_mem _ (List.mem_append_left _ (weights_all hm _ ?_))
          simp only [DataW.weights, Tryz.underlying29]
          exact List.mem_cons_self)
        simp only [lits, List.length_map, List.length_take, List.length_drop, bytesInt, reachBytes] at this
        omega
    refine ⟨A, L, C, fun i j => (Z i).getD j 0, ⟨fun hx => (by cases hx), hn, fun i hi => ?_, fun i hi => ?_, fun i hi j hj => ?_, ⟨fun y hy h0 => ?_, fun i hi y hy h0 => ?_⟩, fun i hi hA => ?_, fun i hi => (hrows i (by omega)).2.1⟩⟩
    · by_cases hA : A i = none
      · obtain ⟨_, hLC, _, _, _, hN, _⟩ := hrows i (by omega)
        have := hN hA; omega
      · exact hwi i hi hA
    · exact ⟨x, rfl, (hrows i (by omega)).1⟩
    · obtain ⟨_, hLC, _, _, _, hN, hc⟩ := hrows i (by omega)
      cases hAi : A i with
      | none => have := hN hAi; omega
      | some y => exact ⟨y, rfl, (hc y hAi).2 j (by omega)⟩
    · cases hy
      exact World.block_lt_of_cell? W _ (hrows 0 (by omega)).1 |> fun h => by simpa [Addr.add] using h
    · obtain ⟨_, hLC, _, _, _, _, hc⟩ := hrows i (by omega)
      exact World.block_lt_of_cell? W _ ((hc y hy).2 0 (by omega)) |> fun h => by simpa [Addr.add] using h
    · obtain ⟨_, hLC, _, _, _, hN, _⟩ := hrows i (by omega)
      have := hN hA; omega
end Go.Proofs.YtlncjgnomhpjnaaGreatDoor

