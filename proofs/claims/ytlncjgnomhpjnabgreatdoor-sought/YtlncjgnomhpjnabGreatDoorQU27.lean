import Derived.Test.YtlncjgnomhpjnabGreatDoorQU24
import Derived.Deep.RegionWith
import Derived.ProofKit
import Derived.OpenShut
import Derived.SizedLaws
import Derived.Deep.Matrix
/-
  What was lent, looked at; the sound that came in (door seats).
-/
namespace Go.Proofs.YtlncjgnomhpjnabGreatDoor
open Go.RowKit Go.Deep
set_option linter.unusedVariables false
/-- a sound that came in -/
structure SoundIn (w : World) (a : Option Addr) (n cap : Nat) (A : Nat → Option Addr) (L C : Nat → Nat) (F : Nat → Nat → Int) : Prop where
  nil : a = none → n = 0 ∧ cap = 0
  hn : n ≤ 5864062014805
  hL : ∀ i, i < n → L i ≤ 17592186044416
  hA : ListsAt w a n A L C
  hI : ∀ i, i < n → IntsAt w (A i) (L i) (F i)
  low : Low w.heap.size a n A L
  no : ∀ i, i < n → A i = none → L i = 0 ∧ C i = 0
  room : ∀ i, i < n → L i ≤ C i
theorem SoundIn.below {w w' : World} {a : Option Addr} {n cap : Nat} {A : Nat → Option Addr} {L C : Nat → Nat} {F : Nat → Nat → Int} (h : SoundIn w a n cap A L C F) (hb : Below w.heap.size w w') : SoundIn w' a n cap A L C F :=
  ⟨h.nil, h.hn, h.hL, h.hA.below hb h.low.1, fun i hi => (h.hI i hi).below hb (h.low.2 i hi), ⟨fun x hx h0 => Nat.lt_of_lt_of_le (h.low.1 x hx h0) hb.size, fun i hi x hx h0 => Nat.lt_of_lt_of_le (h.low.2 i hi x hx h0) hb.size⟩, h.no, h.room⟩
end Go.Proofs.YtlncjgnomhpjnabGreatDoor

/-
  What comes in, opened: a configuration, a sound (door seats).
-/
namespace Go.Proofs.YtlncjgnomhpjnabGreatDoor
open Go.ChangeShapes Go.WideShapes Go.ChangeAt Go.RowKit Go.Deep
theorem cellsCfg : Tryz.prog.cellsOf 23 = 8 := by kernel_rfl
theorem cellsInt : Tryz.prog.cellsOf 3 = 1 := by kernel_rfl
theorem cellsInts : Tryz.prog.cellsOf 30 = 1 := by kernel_rfl
theorem bytesInt : Tryz.prog.bytesOf 3 = 8 := by kernel_rfl
theorem bytesInts : Tryz.prog.bytesOf 30 = 24 := by kernel_rfl
theorem array8 {α : Type} {cs : Array α} (h : cs.size = 8) : ∃ c0 c1 c2 c3 c4 c5 c6 c7, cs = #[c0, c1, c2, c3, c4, c5, c6, c7] := by
  obtain ⟨l⟩ := cs
  match l, h with
  | [c0, c1, c2, c3, c4, c5, c6, c7], _ => exact ⟨c0, c1, c2, c3, c4, c5, c6, c7, rfl⟩
theorem weights_all {H : Type} {P : Program} {e : TypeId} {d : DataW H} : ∀ {l : List (DataW H)}, d ∈ l → ∀ n ∈ d.weights P e, n ∈ DataW.weightsAll P e l
  | x :: l, hd, n, hn => by
    simp only [DataW.weightsAll, List.mem_append]
    cases List.mem_cons.1 hd with
    | inl h => subst h; exact Or.inl hn
    | inr h => exact Or.inr (weights_all h n hn)
end Go.Proofs.YtlncjgnomhpjnabGreatDoor

/-
  A sound and a configuration that came in, with the ranges of their numbers.
-/
namespace Go.Proofs.YtlncjgnomhpjnabGreatDoor
open Go.ChangeShapes Go.WideShapes Go.ChangeAt Go.RowKit Go.Deep
set_option linter.unusedVariables false
set_option maxRecDepth 100000 in
theorem open_cfgR {H : Type} {enc : TypeId × Value → H} {W : World} {base : Nat} {v : Value} {d : DataW H} {p : List MemPlace}
    (hv : Value.okWide Tryz.prog W .any base 23 v) (h : DataW.Trod enc Tryz.prog W 0 (fun _ => true) true 23 v d p) :
    ∃ c0 c1 c2 c3 c4 c5 c6 c7 : Int, v = .agg #[.int .i64 c0, .int .i64 c1, .int .i64 c2, .int .i64 c3, .int .i64 c4, .int .i64 c5, .int .i64 c6, .int .i64 c7] ∧ (-9223372036854775808 ≤ c3 ∧ c3 ≤ 9223372036854775807) ∧ (-9223372036854775808 ≤ c4 ∧ c4 ≤ 9223372036854775807) := by
  obtain ⟨cs, rfl, hsz⟩ := okWide_struct Tryz.underlying23 hv
  obtain ⟨v0, v1, v2, v3, v4, v5, v6, v7, rfl⟩ := array8 (hsz.trans cellsCfg)
  obtain ⟨fuel, hf⟩ := h
  obtain ⟨xs, n, _, _, _, hlen, hfs⟩ := DataW.trod_struct Tryz.underlying23 hf
  have hg : ∀ i, i < 8 → ∃ y, xs[i]? = some y := fun i hi => ⟨_, List.getElem?_eq_getElem (by rw [hlen]; exact hi)⟩
  have h0 := hfs 0 _ rfl
  have h1 := hfs 1 _ rfl
  have h2 := hfs 2 _ rfl
  have h3 := hfs 3 _ rfl
  have h4 := hfs 4 _ rfl
  have h5 := hfs 5 _ rfl
  have h6 := hfs 6 _ rfl
  have h7 := hfs 7 _ rfl
  obtain ⟨y0, e0⟩ := hg 0 (by omega)
  obtain ⟨y1, e1⟩ := hg 1 (by omega)
  obtain ⟨y2, e2⟩ := hg 2 (by omega)
  obtain ⟨y3, e3⟩ := hg 3 (by omega)
  obtain ⟨y4, e4⟩ := hg 4 (by omega)
  obtain ⟨y5, e5⟩ := hg 5 (by omega)
  obtain ⟨y6, e6⟩ := hg 6 (by omega)
  obtain ⟨y7, e7⟩ := hg 7 (by omega)
  obtain ⟨c0, k0, _⟩ := DataW.trod_int Tryz.underlying3 (h0.trans e0)
  obtain ⟨c1, k1, _⟩ := DataW.trod_int Tryz.underlying3 (h1.trans e1)
  obtain ⟨c2, k2, _⟩ := DataW.trod_int Tryz.underlying3 (h2.trans e2)
  obtain ⟨c3, k3, _, r3⟩ := DataW.trod_int Tryz.underlying3 (h3.trans e3)
  obtain ⟨c4, k4, _, r4⟩ := DataW.trod_int Tryz.underlying3 (h4.trans e4)
  obtain ⟨c5, k5, _⟩ := DataW.trod_int Tryz.underlying3 (h5.trans e5)
  obtain ⟨c6, k6, _⟩ := DataW.trod_int Tryz.underlying3 (h6.trans e6)
  obtain ⟨c7, k7, _⟩ := DataW.trod_int Tryz.underlying3 (h7.trans e7)
  simp [Value.cells, cellsInt] at k0 k1 k2 k3 k4 k5 k6 k7
  exact ⟨c0, c1, c2, c3, c4, c5, c6, c7, by rw [k0, k1, k2, k3, k4, k5, k6, k7], bounds_i64 r3, bounds_i64 r4⟩
set_option maxRecDepth 100000 in
/-- a sound that came in, as the walk is told of it; 'hw': what weighs among the data -/
theorem open_soundR {H : Type} {enc : TypeId × Value → H} {W : World} {a : Option Addr} {n cap : Nat} {d : DataW H} {p : List MemPlace}
    (h : DataW.Trod enc Tryz.prog W 0 (fun _ => true) true 24 (.slice a n cap) d p) (hw : ∀ x ∈ d.weights Tryz.prog 24, x ≤ reachBytes) (hlt : ∀ x ∈ p, x.block < W.heap.size) :
    ∃ (A : Nat → Option Addr) (L C : Nat → Nat) (F : Nat → Nat → Int), SoundIn W a n cap A L C F ∧ ∀ i, i < n → ∀ j, j < L i → -9223372036854775808 ≤ F i j ∧ F i j ≤ 9223372036854775807 := by
  obtain ⟨fuel, hf⟩ := h
  rcases open_int_rows Tryz.underlying24 Tryz.underlying30 Tryz.underlying3 cellsInts cellsInt hf with ⟨hcs, _⟩ | ⟨x, len, cp, A, L, C, Z, hcs, _, hl, _, hx, hrows⟩
  · simp [Value.cells] at hcs
    obtain ⟨rfl, rfl, rfl⟩ := hcs
    exact ⟨fun _ => none, fun _ => 0, fun _ => 0, fun _ _ => 0, ⟨fun _ => ⟨rfl, rfl⟩, by omega, fun i hi => absurd hi (by omega), fun i hi => absurd hi (by omega), fun i hi => absurd hi (by omega), ⟨fun x hx => (by cases hx), fun i hi => absurd hi (by omega)⟩, fun i hi => absurd hi (by omega), fun i hi => absurd hi (by omega)⟩, fun i hi => absurd hi (by omega)⟩
  · simp [Value.cells] at hcs
    obtain ⟨rfl, rfl, rfl⟩ := hcs
    simp only [Prod.mk.injEq] at hx
    obtain ⟨rfl, rfl⟩ := hx
    have hn : n ≤ 5864062014805 := by
      have := hw _ (by simp only [DataW.weights, Tryz.underlying24]; exact List.mem_cons_self)
      simp only [List.length_map, List.length_range, bytesInts, reachBytes] at this
      omega
    have hwi : ∀ i, i < n → A i ≠ none → L i ≤ 17592186044416 := fun i hi hA => by
      obtain ⟨_, hLC, _, hZ, _⟩ := hrows i (by omega)
      cases hAi : A i with
      | none => exact absurd hAi hA
      | some y =>
        have hm : (DataW.slice (lits .i64 ((Z i).take (L i))) (lits .i64 ((Z i).drop (L i))) : DataW H) ∈ (List.range n).map fun r => intRow .i64 (A r) (L r) (Z r) :=
          List.mem_map.2 ⟨i, List.mem_range.2 hi, by simp [intRow, hAi]⟩
        have := hw (((lits (H := H) .i64 ((Z i).take (L i))).length + (lits (H := H) .i64 ((Z i).drop (L i))).length) * Tryz.prog.bytesOf 3) (by
          simp only [DataW.weights, Tryz.underlying24]
          refine List.mem_cons_of_mem _ (List.mem_append_left _ (weights_all hm _ ?_))
          simp only [DataW.weights, Tryz.underlying30]
          exact List.mem_cons_self)
        simp only [lits, List.length_map, List.length_take, List.length_drop, bytesInt, reachBytes] at this
        omega
    refine ⟨A, L, C, fun i j => (Z i).getD j 0, ⟨fun hx => (by cases hx), hn, fun i hi => ?_, fun i hi => ?_, fun i hi j hj => ?_, ⟨fun y hy h0 => ?_, fun i hi y hy h0 => ?_⟩, fun i hi hA => ?_, fun i hi => (hrows i (by omega)).2.1⟩, fun i hi j hj => ?_⟩
    · by_cases hA : A i = none
      · obtain ⟨_, hLC, _, _, _, hN, _⟩ := hrows i (by omega)
        have := hN hA; omega
      · exact hwi i hi hA
    · exact ⟨x, rfl, (hrows i (by omega)).1⟩
    · obtain ⟨_, hLC, _, _, _, hN, hc⟩ := hrows i (by omega)
      cases hAi : A i with
      | none => have := hN hAi; omega
      | some y => exact ⟨y, rfl, (hc y hAi).2 j (by omega)⟩
    · cases hy
      exact World.block_lt_of_cell? W _ (hrows 0 (by omega)).1 |> fun h => by simpa [Addr.add] using h
    · obtain ⟨_, hLC, _, _, _, _, hc⟩ := hrows i (by omega)
      exact World.block_lt_of_cell? W _ ((hc y hy).2 0 (by omega)) |> fun h => by simpa [Addr.add] using h
    · obtain ⟨_, hLC, _, _, _, hN, _⟩ := hrows i (by omega)
      have := hN hA; omega
    · obtain ⟨_, hLC, _, hZ, hwf, _⟩ := hrows i (by omega)
      have hlt : j < (Z i).length := by omega
      refine bounds_i64 (hwf _ ?_)
      show (Z i).getD j 0 ∈ Z i
      rw [List.getD_eq_getElem?_getD, List.getElem?_eq_getElem hlt]
      exact List.getElem_mem hlt
end Go.Proofs.YtlncjgnomhpjnabGreatDoor

