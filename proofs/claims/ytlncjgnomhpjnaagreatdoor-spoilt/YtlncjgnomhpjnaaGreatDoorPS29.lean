import Derived.Test.YtlncjgnomhpjnaaGreatDoorRows
import Derived.Test.YtlncjgnomhpjnaaGreatDoorPS21
import Derived.Test.YtlncjgnomhpjnaaGreatDoorPS28
import Derived.Test.YtlncjgnomhpjnaaGreatDoorPS16
import Derived.ProofKit
import Derived.OpenShut
import Derived.SizedLaws
import Derived.Deep.Matrix
import Derived.Test.YtlncjgnomhpjnaaGreatDoorPS17
import Derived.Test.YtlncjgnomhpjnaaGreatDoorPS15
import Derived.Test.YtlncjgnomhpjnaaGreatDoorPS26
import Derived.Deep.RegionHeld3
/-
  The tables among the laid variables of 'Lossless' and 'Spoilt'.
-/
namespace Go.Proofs.YtlncjgnomhpjnaaGreatDoor
open Go Go.Lib
set_option linter.unusedVariables false
/-- what the row's list gives -/
theorem tablesK {W : World} (h : laidMetH Tryz.prog Rows.losslessRow.laid W) : TabsF W ∧ TabsU W := by
  have h' : laidMet Tryz.prog [("math/bits.deBruijn32tab", tabData .u8 z32), ("math/bits.deBruijn64tab", tabData .u8 z64), ("unicode/utf8.acceptRanges", Rows.laid_unicode_utf8_acceptRanges), ("reel/subframe.fixedWeights", .agg (tabRows.map (tabData .i64))), ("reel/frame.pairs", .agg (pairRows.map (tabData .i64))), ("unicode/utf8.first", Rows.laid_unicode_utf8_first)] W := h
  obtain ⟨ps, ⟨g0, t0, cs0, fuel0, p0, q0, hg0, ht0, hvar0, hd0, ⟨gb, tb, csb, fuelb, pb, qb, hgb, htb, hvarb, hdb, ⟨g1, t1, cs1, fuel1, p1, q1, hg1, ht1, hvar1, hd1, ⟨g2, t2, cs2, fuel2, p2, q2, hg2, ht2, hvar2, hd2, ⟨g3, t3, cs3, fuel3, p3, q3, hg3, ht3, hvar3, hd3, _, _⟩, _⟩, _⟩, _⟩, _⟩, _⟩ := h'
  obtain rfl := Option.some.inj (gPairs.symm.trans hg3)
  obtain rfl := Option.some.inj (gPairsType.symm.trans ht3)
  obtain rfl := Option.some.inj (gFixed.symm.trans hg2)
  obtain rfl := Option.some.inj (gFixedType.symm.trans ht2)
  obtain rfl := Option.some.inj (g64.symm.trans hgb)
  obtain rfl := Option.some.inj (g64Type.symm.trans htb)
  have hF : TabAt W 7 := by
    intro r c hr hc
    obtain ⟨zs, hz1, hz2⟩ := tabRows_at r c hr hc
    have := cells_of_tab2 Tryz.underlying249 Tryz.underlying199 Tryz.underlying3 cells1 cells4 cells54 hd2 r zs hz1 c _ hc hz2
    have h2 := World.var?_cell gFixed hvar2 (r * 4 + c)
    rw [Nat.mul_comm 4 r, h2]
    simpa using this
  have hZ : TzAt W 6 := by
    intro t ht
    have e := cells_of_tab Tryz.underlying253 Tryz.underlying5 cellsByte cells64 hdb
    have h2 := World.var?_cell g64 hvarb (285870213051353865 * 2 ^ t % 18446744073709551616 / 288230376151711744)
    rw [h2]
    have h3 := z64_at ⟨t, by omega⟩
    have h4 : csb.toList[285870213051353865 * 2 ^ t % 18446744073709551616 / 288230376151711744]? = some (.int .u8 (t : Int)) := by
      rw [e, List.getElem?_map, h3]; rfl
    simpa using h4
  have hP : PairsAt W := by
    intro r c hr hc
    obtain ⟨zs, hz1, hz2⟩ := pairRows_at r c hr hc
    have := cells_of_tab2 Tryz.underlying140 Tryz.underlying139 Tryz.underlying3 cells1 cells2 cells42 hd3 r zs hz1 c _ hc hz2
    have h2 := World.var?_cell gPairs hvar3 (r * 2 + c)
    rw [Nat.mul_comm 2 r, h2]
    simpa using this
  exact ⟨⟨⟨hF, tab_lt4 (hF 0 0 (by omega) (by omega)), hZ, tab_lt4 (hZ 0 (by omega))⟩, hP, tab_lt4 (hP 0 0 (by omega) (by omega))⟩, ⟨hF, tab_lt4 (hF 0 0 (by omega) (by omega)), hP, tab_lt4 (hP 0 0 (by omega) (by omega))⟩⟩
end Go.Proofs.YtlncjgnomhpjnaaGreatDoor

/-
  What comes in, opened: a configuration, a sound (door seats).
-/
namespace Go.Proofs.YtlncjgnomhpjnaaGreatDoor
open Go.ChangeShapes Go.WideShapes Go.ChangeAt Go.RowKit Go.Deep
theorem cellsCfg : Tryz.prog.cellsOf 23 = 8 := by kernel_rfl
theorem cellsInt : Tryz.prog.cellsOf 3 = 1 := by kernel_rfl
theorem cellsInts : Tryz.prog.cellsOf 29 = 1 := by kernel_rfl
theorem bytesInt : Tryz.prog.bytesOf 3 = 8 := by kernel_rfl
theorem bytesInts : Tryz.prog.bytesOf 29 = 24 := by kernel_rfl
theorem array8 {α : Type} {cs : Array α} (h : cs.size = 8) : ∃ c0 c1 c2 c3 c4 c5 c6 c7, cs = #[c0, c1, c2, c3, c4, c5, c6, c7] := by
  obtain ⟨l⟩ := cs
  match l, h with
  | [c0, c1, c2, c3, c4, c5, c6, c7], _ => exact ⟨c0, c1, c2, c3, c4, c5, c6, c7, rfl⟩
theorem weights_all {H : Type} {P : Program} {e : TypeId} {d : DataW H} : ∀ {l : List (DataW H)}, d ∈ l → ∀ n ∈ d.weights P e, n ∈ DataW.weightsAll P e l
  | x :: l, hd, n, hn => by
    simp only [DataW.weightsAll, List.mem_append]
    cases List.mem_cons.1 hd with
    | inl h => subst h; exact Or.inl hn
    | inr h => exact Or.inr (weights_all h n hn)
end Go.Proofs.YtlncjgnomhpjnaaGreatDoor

/-
  A sound and a configuration that came in, with the ranges of their numbers.
-/
namespace Go.Proofs.YtlncjgnomhpjnaaGreatDoor
open Go.ChangeShapes Go.WideShapes Go.ChangeAt Go.RowKit Go.Deep
set_option linter.unusedVariables false
set_option maxRecDepth 100000 in
theorem open_cfgR {H : Type} {enc : TypeId × Value → H} {W : World} {base : Nat} {v : Value} {d : DataW H} {p : List MemPlace}
    (hv : Value.okWide Tryz.prog W .any base 23 v) (h : DataW.Trod enc Tryz.prog W 0 (fun _ => true) true 23 v d p) :
    ∃ c0 c1 c2 c3 c4 c5 c6 c7 : Int, v = .agg #[.int .i64 c0, .int .i64 c1, .int .i64 c2, .int .i64 c3, .int .i64 c4, .int .i64 c5, .int .i64 c6, .int .i64 c7] ∧ (-9223372036854775808 ≤ c3 ∧ c3 ≤ 9223372036854775807) ∧ (-9223372036854775808 ≤ c4 ∧ c4 ≤ 9223372036854775807) := by
  obtain ⟨cs, rfl, hsz⟩ := okWide_struct Tryz.underlying23 hv
  obtain ⟨v0, v1, v2, v3, v4, v5, v6, v7, rfl⟩ := array8 (hsz.trans cellsCfg)
  obtain ⟨fuel, hf⟩ := h
  obtain ⟨xs, n, _, _, _, hlen, hfs⟩ := DataW.trod_struct Tryz.underlying23 hf
  have hg : ∀ i, i < 8 → ∃ y, xs[i]? = some y := fun i hi => ⟨_, List.getElem?_eq_getElem (by rw [hlen]; exact hi)⟩
  have h0 := hfs 0 _ rfl
  have h1 := hfs 1 _ rfl
  have h2 := hfs 2 _ rfl
  have h3 := hfs 3 _ rfl
  have h4 := hfs 4 _ rfl
  have h5 := hfs 5 _ rfl
  have h6 := hfs 6 _ rfl
  have h7 := hfs 7 _ rfl
  obtain ⟨y0, e0⟩ := hg 0 (by omega)
  obtain ⟨y1, e1⟩ := hg 1 (by omega)
  obtain ⟨y2, e2⟩ := hg 2 (by omega)
  obtain ⟨y3, e3⟩ := hg 3 (by omega)
  obtain ⟨y4, e4⟩ := hg 4 (by omega)
  obtain ⟨y5, e5⟩ := hg 5 (by omega)
  obtain ⟨y6, e6⟩ := hg 6 (by omega)
  obtain ⟨y7, e7⟩ := hg 7 (by omega)
  obtain ⟨c0, k0, _⟩ := DataW.trod_int Tryz.underlying3 (h0.trans e0)
  obtain ⟨c1, k1, _⟩ := DataW.trod_int Tryz.underlying3 (h1.trans e1)
  obtain ⟨c2, k2, _⟩ := DataW.trod_int Tryz.underlying3 (h2.trans e2)
  obtain ⟨c3, k3, _, r3⟩ := DataW.trod_int Tryz.underlying3 (h3.trans e3)
  obtain ⟨c4, k4, _, r4⟩ := DataW.trod_int Tryz.underlying3 (h4.trans e4)
  obtain ⟨c5, k5, _⟩ := DataW.trod_int Tryz.underlying3 (h5.trans e5)
  obtain ⟨c6, k6, _⟩ := DataW.trod_int Tryz.underlying3 (h6.trans e6)
  obtain ⟨c7, k7, _⟩ := DataW.trod_int Tryz.underlying3 (h7.trans e7)
  simp [Value.cells, cellsInt] at k0 k1 k2 k3 k4 k5 k6 k7
  exact ⟨c0, c1, c2, c3, c4, c5, c6, c7, by rw [k0, k1, k2, k3, k4, k5, k6, k7], bounds_i64 r3, bounds_i64 r4⟩
set_option maxRecDepth 100000 in
/-- a sound that came in, as the walk is told of it; 'hw': what weighs among the data -/
theorem open_soundR {H : Type} {enc : TypeId × Value → H} {W : World} {a : Option Addr} {n cap : Nat} {d : DataW H} {p : List MemPlace}
    (h : DataW.Trod enc Tryz.prog W 0 (fun _ => true) true 24 (.slice a n cap) d p) (hw : ∀ x ∈ d.weights Tryz.prog 24, x ≤ reachBytes) (hlt : ∀ x ∈ p, x.block < W.heap.size) :
    ∃ (A : Nat → Option Addr) (L C : Nat → Nat) (F : Nat → Nat → Int), SoundIn W a n cap A L C F ∧ ∀ i, i < n → ∀ j, j < L i → -9223372036854775808 ≤ F i j ∧ F i j ≤ 9223372036854775807 := by
  obtain ⟨fuel, hf⟩ := h
  rcases open_int_rows Tryz.underlying24 Tryz.underlying29 Tryz.underlying3 cellsInts cellsInt hf with ⟨hcs, _⟩ | ⟨x, len, cp, A, L, C, Z, hcs, _, hl, _, hx, hrows⟩
  · simp [Value.cells] at hcs
    obtain ⟨rfl, rfl, rfl⟩ := hcs
    exact ⟨fun _ => none, fun _ => 0, fun _ => 0, fun _ _ => 0, ⟨fun _ => ⟨rfl, rfl⟩, by omega, fun i hi => absurd hi (by omega), fun i hi => absurd hi (by omega), fun i hi => absurd hi (by omega), ⟨fun x hx => (by cases hx), fun i hi => absurd hi (by omega)⟩, fun i hi => absurd hi (by omega), fun i hi => absurd hi (by omega)⟩, fun i hi => absurd hi (by omega)⟩
  · simp [Value.cells] at hcs
    obtain ⟨rfl, rfl, rfl⟩ := hcs
    simp only [Prod.mk.injEq] at hx
    obtain ⟨rfl, rfl⟩ := hx
    have hn : n ≤ 5864062014805 := by
      have := hw _ (by simp only [DataW.weights, Tryz.underlying24]; exact List.mem_cons_self)
      simp only [List.length_map, List.length_range, bytesInts, reachBytes] at this
      omega
    have hwi : ∀ i, i < n → A i ≠ none → L i ≤ 17592186044416 := fun i hi hA => by
      obtain ⟨_, hLC, _, hZ, _⟩ := hrows i (by omega)
      cases hAi : A i with
      | none => exact absurd hAi hA
      | some y =>
        have hm : (DataW.slice (lits .i64 ((Z i).take (L i))) (lits .i64 ((Z i).drop (L i))) : DataW H) ∈ (List.range n).map fun r => intRow .i64 (A r) (L r) (Z r) :=
          List.mem_map.2 ⟨i, List.mem_range.2 hi, by simp [intRow, hAi]⟩
        have := hw (((lits (H := H) .i64 ((Z i).take (L i))).length + (lits (H := H) .i64 ((Z i).drop (L i))).length) * Tryz.prog.bytesOf 3) (by
          simp only [DataW.weights, Tryz.underlying24]
          refine List.mem_cons_of_mem _ (List.mem_append_left _ (weights_all hm _ ?_))
          simp only [DataW.weights, Tryz.underlying29]
          exact List.mem_cons_self)
        simp only [lits, List.length_map, List.length_take, List.length_drop, bytesInt, reachBytes] at this
        omega
    refine ⟨A, L, C, fun i j => (Z i).getD j 0, ⟨fun hx => (by cases hx), hn, fun i hi => ?_, fun i hi => ?_, fun i hi j hj => ?_, ⟨fun y hy h0 => ?_, fun i hi y hy h0 => ?_⟩, fun i hi hA => ?_, fun i hi => (hrows i (by omega)).2.1⟩, fun i hi j hj => ?_⟩
    · by_cases hA : A i = none
      · obtain ⟨_, hLC, _, _, _, hN, _⟩ := hrows i (by omega)
        have := hN hA; omega
      · exact hwi i hi hA
    · exact ⟨x, rfl, (hrows i (by omega)).1⟩
    · obtain ⟨_, hLC, _, _, _, hN, hc⟩ := hrows i (by omega)
      cases hAi : A i with
      | none => have := hN hAi; omega
      | some y => exact ⟨y, rfl, (hc y hAi).2 j (by omega)⟩
    · cases hy
      exact World.block_lt_of_cell? W _ (hrows 0 (by omega)).1 |> fun h => by simpa [Addr.add] using h
    · obtain ⟨_, hLC, _, _, _, _, hc⟩ := hrows i (by omega)
      exact World.block_lt_of_cell? W _ ((hc y hy).2 0 (by omega)) |> fun h => by simpa [Addr.add] using h
    · obtain ⟨_, hLC, _, _, _, hN, _⟩ := hrows i (by omega)
      have := hN hA; omega
    · obtain ⟨_, hLC, _, hZ, hwf, _⟩ := hrows i (by omega)
      have hlt : j < (Z i).length := by omega
      refine bounds_i64 (hwf _ ?_)
      show (Z i).getD j 0 ∈ Z i
      rw [List.getD_eq_getElem?_getD, List.getElem?_eq_getElem hlt]
      exact List.getElem_mem hlt
end Go.Proofs.YtlncjgnomhpjnaaGreatDoor

/-
  What 'reelkeep' makes of its arguments: right, sample.
-/
namespace Go.Proofs.YtlncjgnomhpjnaaGreatDoor
open Go.RowKit Go.Deep
set_option linter.unusedVariables false
def wr64 (a : Int) : Int := IntKind.i64.wrap a
theorem wr64_bd (a : Int) : -9223372036854775808 ≤ wr64 a ∧ wr64 a ≤ 9223372036854775807 := by
  unfold wr64
  rw [IntKind.wrap_i64]
  omega
theorem infoCfgK : (Tryz.prog.info? 23).map (·.size) = some 8 := by kernel_rfl
theorem res_right (tmps : Array Value) (R : Nat) (cs : Array Value) (W : World) (h : Bx W R 23 cs) (hs : cs.size = 8) (h2 : tmps.getD 2 undef = .pointer (some ⟨R, 0, none⟩)) :
    (results Tryz.f29 tmps).run Tryz.prog W = .ok (.agg cs) W := by
  have hl := run_loadVar_row (P := Tryz.prog) W R 23 23 cs (0, 0) _ h Tryz.underlying23 rfl (by rw [hs]; exact infoCfgK)
  rw [Array.getD_eq_getD_getElem?] at h2
  simp [results, Tryz.results29, asAddr, h2, hl]
set_option maxRecDepth 4000 in
set_option maxHeartbeats 2000000 in
theorem right_keep (c0 c1 c2 c3 c4 c5 c6 c7 : Int) (w : World) (h3 : -9223372036854775808 ≤ c3 ∧ c3 ≤ 9223372036854775807) (h4 : -9223372036854775808 ≤ c4 ∧ c4 ≤ 9223372036854775807) :
    Calls Tryz.prog 29 #[.agg #[.int .i64 c0, .int .i64 c1, .int .i64 c2, .int .i64 c3, .int .i64 c4, .int .i64 c5, .int .i64 c6, .int .i64 c7]] w fun e w' =>
      e = .returned (.agg #[.int .i64 (1 + (pickV (wr64 (c0 - 1)) 4 : Nat)), .int .i64 (4 + (pickV (wr64 (c1 - 4)) 9 : Nat)), .int .i64 (1 + (pickV (wr64 (c2 - 1)) 32 : Nat)), .int .i64 (pickV c3 65536 : Nat), .int .i64 (pickV c4 256 : Nat), .int .i64 (1 + (pickV (wr64 (c5 - 1)) 8 : Nat)), .int .i64 (1 + (pickV (wr64 (c6 - 1)) 16 : Nat)), .int .i64 (1 + (pickV (wr64 (c7 - 1)) 8 : Nat))]) ∧ Below w.heap.size w w' := by
  have HP0 := Hid.mk' (fun u => pick_any (wr64 (c0 - 1)) 4 u (by omega) (by omega) (wr64_bd _))
  have HP1 := Hid.mk' (fun u => pick_any (wr64 (c1 - 4)) 9 u (by omega) (by omega) (wr64_bd _))
  have HP2 := Hid.mk' (fun u => pick_any (wr64 (c2 - 1)) 32 u (by omega) (by omega) (wr64_bd _))
  have HP3 := Hid.mk' (fun u => pick_any c3 65536 u (by omega) (by omega) h3)
  have HP4 := Hid.mk' (fun u => pick_any c4 256 u (by omega) (by omega) h4)
  have HP5 := Hid.mk' (fun u => pick_any (wr64 (c5 - 1)) 8 u (by omega) (by omega) (wr64_bd _))
  have HP6 := Hid.mk' (fun u => pick_any (wr64 (c6 - 1)) 16 u (by omega) (by omega) (wr64_bd _))
  have HP7 := Hid.mk' (fun u => pick_any (wr64 (c7 - 1)) 8 u (by omega) (by omega) (wr64_bd _))
  have e0 : IntKind.i64.wrap (c0 - 1) = wr64 (c0 - 1) := rfl
  have e1 : IntKind.i64.wrap (c1 - 4) = wr64 (c1 - 4) := rfl
  have e2 : IntKind.i64.wrap (c2 - 1) = wr64 (c2 - 1) := rfl
  have e5 : IntKind.i64.wrap (c5 - 1) = wr64 (c5 - 1) := rfl
  have e6 : IntKind.i64.wrap (c6 - 1) = wr64 (c6 - 1) := rfl
  have e7 : IntKind.i64.wrap (c7 - 1) = wr64 (c7 - 1) := rfl
  generalize wr64 (c0 - 1) = r0 at *
  generalize wr64 (c1 - 4) = r1 at *
  generalize wr64 (c2 - 1) = r2 at *
  generalize wr64 (c5 - 1) = r5 at *
  generalize wr64 (c6 - 1) = r6 at *
  generalize wr64 (c7 - 1) = r7 at *
  have l0 := pickV_lt r0 4 (by omega)
  have l1 := pickV_lt r1 9 (by omega)
  have l2 := pickV_lt r2 32 (by omega)
  have l3 := pickV_lt c3 65536 (by omega)
  have l4 := pickV_lt c4 256 (by omega)
  have l5 := pickV_lt r5 8 (by omega)
  have l6 := pickV_lt r6 16 (by omega)
  have l7 := pickV_lt r7 8 (by omega)
  clear h3 h4
  generalize pickV r0 4 = p0 at *
  generalize pickV r1 9 = p1 at *
  generalize pickV r2 32 = p2 at *
  generalize pickV c3 65536 = p3 at *
  generalize pickV c4 256 = p4 at *
  generalize pickV r5 8 = p5 at *
  generalize pickV r6 16 = p6 at *
  generalize pickV r7 8 = p7 at *
  have v0 : IntKind.i64.wrap (1 + (p0 : Int)) = 1 + (p0 : Int) := by rw [IntKind.wrap_i64]; omega
  have v1 : IntKind.i64.wrap (4 + (p1 : Int)) = 4 + (p1 : Int) := by rw [IntKind.wrap_i64]; omega
  have v2 : IntKind.i64.wrap (1 + (p2 : Int)) = 1 + (p2 : Int) := by rw [IntKind.wrap_i64]; omega
  have v5 : IntKind.i64.wrap (1 + (p5 : Int)) = 1 + (p5 : Int) := by rw [IntKind.wrap_i64]; omega
  have v6 : IntKind.i64.wrap (1 + (p6 : Int)) = 1 + (p6 : Int) := by rw [IntKind.wrap_i64]; omega
  have v7 : IntKind.i64.wrap (1 + (p7 : Int)) = 1 + (p7 : Int) := by rw [IntKind.wrap_i64]; omega
  have hS0 : ∀ o, ((w.alloc (.cells #[.int .i64 c0, .int .i64 c1, .int .i64 c2, .int .i64 c3, .int .i64 c4, .int .i64 c5, .int .i64 c6, .int .i64 c7] 23)).alloc o).drew.cell? ⟨w.heap.size, 0, none⟩ = some (.int .i64 c0) ∧ ((w.alloc (.cells #[.int .i64 c0, .int .i64 c1, .int .i64 c2, .int .i64 c3, .int .i64 c4, .int .i64 c5, .int .i64 c6, .int .i64 c7] 23)).alloc o).drew.cell? ⟨w.heap.size, 1, none⟩ = some (.int .i64 c1) ∧ ((w.alloc (.cells #[.int .i64 c0, .int .i64 c1, .int .i64 c2, .int .i64 c3, .int .i64 c4, .int .i64 c5, .int .i64 c6, .int .i64 c7] 23)).alloc o).drew.cell? ⟨w.heap.size, 2, none⟩ = some (.int .i64 c2) ∧ ((w.alloc (.cells #[.int .i64 c0, .int .i64 c1, .int .i64 c2, .int .i64 c3, .int .i64 c4, .int .i64 c5, .int .i64 c6, .int .i64 c7] 23)).alloc o).drew.cell? ⟨w.heap.size, 3, none⟩ = some (.int .i64 c3) ∧ ((w.alloc (.cells #[.int .i64 c0, .int .i64 c1, .int .i64 c2, .int .i64 c3, .int .i64 c4, .int .i64 c5, .int .i64 c6, .int .i64 c7] 23)).alloc o).drew.cell? ⟨w.heap.size, 4, none⟩ = some (.int .i64 c4) ∧ ((w.alloc (.cells #[.int .i64 c0, .int .i64 c1, .int .i64 c2, .int .i64 c3, .int .i64 c4, .int .i64 c5, .int .i64 c6, .int .i64 c7] 23)).alloc o).drew.cell? ⟨w.heap.size, 5, none⟩ = some (.int .i64 c5) ∧ ((w.alloc (.cells #[.int .i64 c0, .int .i64 c1, .int .i64 c2, .int .i64 c3, .int .i64 c4, .int .i64 c5, .int .i64 c6, .int .i64 c7] 23)).alloc o).drew.cell? ⟨w.heap.size, 6, none⟩ = some (.int .i64 c6) ∧ ((w.alloc (.cells #[.int .i64 c0, .int .i64 c1, .int .i64 c2, .int .i64 c3, .int .i64 c4, .int .i64 c5, .int .i64 c6, .int .i64 c7] 23)).alloc o).drew.cell? ⟨w.heap.size, 7, none⟩ = some (.int .i64 c7) := fun o => by
    have hc : Bx ((w.alloc (.cells #[.int .i64 c0, .int .i64 c1, .int .i64 c2, .int .i64 c3, .int .i64 c4, .int .i64 c5, .int .i64 c6, .int .i64 c7] 23)).alloc o) w.heap.size 23 #[.int .i64 c0, .int .i64 c1, .int .i64 c2, .int .i64 c3, .int .i64 c4, .int .i64 c5, .int .i64 c6, .int .i64 c7] := (Bx.new w _ _).alloc _
    exact ⟨hc.cell 0, hc.cell 1, hc.cell 2, hc.cell 3, hc.cell 4, hc.cell 5, hc.cell 6, hc.cell 7⟩
  have HBE : Hid (∀ o, Below w.heap.size w ((w.alloc (.cells #[.int .i64 c0, .int .i64 c1, .int .i64 c2, .int .i64 c3, .int .i64 c4, .int .i64 c5, .int .i64 c6, .int .i64 c7] 23)).alloc o).drew) := fun o => (((Below.refl _ _).alloc (Nat.le_refl _) _).alloc (by simp) _).drew
  go_enter Tryz.func29, Tryz.ntmps29
  go_wp2_with fail
  go_region_held3 (fun w' => w'.cell? ⟨w.heap.size, 0, none⟩ = some (.int .i64 c0) ∧ w'.cell? ⟨w.heap.size, 1, none⟩ = some (.int .i64 c1) ∧ w'.cell? ⟨w.heap.size, 2, none⟩ = some (.int .i64 c2) ∧ w'.cell? ⟨w.heap.size, 3, none⟩ = some (.int .i64 c3) ∧ w'.cell? ⟨w.heap.size, 4, none⟩ = some (.int .i64 c4) ∧ w'.cell? ⟨w.heap.size, 5, none⟩ = some (.int .i64 c5) ∧ w'.cell? ⟨w.heap.size, 6, none⟩ = some (.int .i64 c6) ∧ w'.cell? ⟨w.heap.size, 7, none⟩ = some (.int .i64 c7))
    (with_reducible exact hS0 _)
    (first
      | (go_at_call 33; refine (HP0.out _).mono ?_; rintro e w' ⟨rfl, hw⟩; subst hw; clear HP0)
      | (go_at_call 33; refine (HP1.out _).mono ?_; rintro e w' ⟨rfl, hw⟩; subst hw; clear HP1)
      | (go_at_call 33; refine (HP2.out _).mono ?_; rintro e w' ⟨rfl, hw⟩; subst hw; clear HP2)
      | (go_at_call 33; refine (HP3.out _).mono ?_; rintro e w' ⟨rfl, hw⟩; subst hw; clear HP3)
      | (go_at_call 33; refine (HP4.out _).mono ?_; rintro e w' ⟨rfl, hw⟩; subst hw; clear HP4)
      | (go_at_call 33; refine (HP5.out _).mono ?_; rintro e w' ⟨rfl, hw⟩; subst hw; clear HP5)
      | (go_at_call 33; refine (HP6.out _).mono ?_; rintro e w' ⟨rfl, hw⟩; subst hw; clear HP6)
      | (go_at_call 33; refine (HP7.out _).mono ?_; rintro e w' ⟨rfl, hw⟩; subst hw; clear HP7))
  go_wp2_with fail
  refine bodyPost_ret (res_right _ (w.heap.size + 1) #[.int .i64 (1 + (p0 : Int)), .int .i64 (4 + (p1 : Int)), .int .i64 (1 + (p2 : Int)), .int .i64 (p3 : Int), .int .i64 (p4 : Int), .int .i64 (1 + (p5 : Int)), .int .i64 (1 + (p6 : Int)), .int .i64 (1 + (p7 : Int))] _ ?_ rfl rfl) rfl ⟨rfl, HBE.out _⟩
  exact Bx.new2 (by simp) _ _
/-- a sample that fits -/
def smpK (d : Nat) (v : Int) : Int := if -(2 ^ (d - 1)) ≤ v ∧ v < 2 ^ (d - 1) then v else (pickV v (2 * 2 ^ (d - 1)) : Int) - 2 ^ (d - 1)
theorem smpK_fits (d : Nat) (v : Int) : fitsB d (smpK d v) = true := by
  unfold smpK fitsB
  rw [within_iff]
  have hp := Nat.two_pow_pos (d - 1)
  have e : (2 : Int) ^ (d - 1) = ((2 ^ (d - 1) : Nat) : Int) := by rw [Int.natCast_pow]; rfl
  rw [e]
  generalize 2 ^ (d - 1) = h at *
  by_cases h0 : -(h : Int) ≤ v ∧ v < (h : Int)
  · rw [if_pos h0]; omega
  · rw [if_neg h0]
    have h1 := pickV_lt v (2 * h) (by omega)
    omega
set_option maxRecDepth 4000 in
set_option maxHeartbeats 2000000 in
theorem sample_keep (v : Int) (d : Nat) (w : World) (hd1 : 4 ≤ d) (hd : d ≤ 12) (hv : -9223372036854775808 ≤ v ∧ v ≤ 9223372036854775807) :
    Calls Tryz.prog 57 #[.int .i64 v, .int .i64 d] w fun e w' => e = .returned (.int .i64 (smpK d v)) ∧ w' = w := by
  obtain ⟨h, hh⟩ : ∃ h : Nat, h = 2 ^ (d - 1) := ⟨_, rfl⟩
  have hh2 : h ≤ 2048 := by rw [hh]; exact Nat.pow_le_pow_right (n := 2) (by omega) (show d - 1 ≤ 11 by omega)
  have hh1 : 1 ≤ h := by rw [hh]; exact Nat.two_pow_pos _
  have e0 : (2 : Int) ^ (d - 1) = (h : Int) := by rw [hh, Int.natCast_pow]; rfl
  have HSM : Hid (smpK d v = if -(h : Int) ≤ v ∧ v < (h : Int) then v else (pickV v (2 * h) : Int) - (h : Int)) := by
    show _ = _
    unfold smpK
    rw [e0, hh]
  have e2 : ((2 * h : Nat) : Int) = 2 * (h : Int) := by omega
  have HPK : Hid (∀ u, Calls Tryz.prog 33 #[.int .i64 v, .int .i64 (2 * (h : Int))] u fun e w' => e = .returned (.int .i64 (pickV v (2 * h))) ∧ w' = u) := fun u => by
    have := pick_any v (2 * h) u (by omega) (by omega) hv
    rwa [e2] at this
  have hpl := pickV_lt v (2 * h) (by omega)
  have w1 : IntKind.i64.wrap ((d : Int) - 1) = ((d - 1 : Nat) : Int) := by rw [IntKind.wrap_i64]; omega
  have s1 : (1 : Int) * 2 ^ (d - 1) = (h : Int) := by rw [e0, Int.one_mul]
  clear hh e0 e2
  by_cases h1 : -(h : Int) ≤ v
  · by_cases h2 : v < (h : Int)
    · have HV : Hid (smpK d v = v) := by show _ = _; rw [HSM.out, if_pos ⟨h1, h2⟩]
      have d1 : decide (v < (h : Int)) = true := decide_eq_true h2
      rw [HV.out]
      clear HV HSM hpl HPK
      go_enter Tryz.func57, Tryz.ntmps57
      go_wp2_with fail
      go_ret
      exact ⟨rfl, rfl⟩
    · have HV : Hid (smpK d v = (pickV v (2 * h) : Int) - (h : Int)) := by show _ = _; rw [HSM.out, if_neg (fun hh => h2 hh.2)]
      have d1 : decide (v < (h : Int)) = false := decide_eq_false h2
      rw [HV.out]
      clear HV HSM
      generalize pickV v (2 * h) = p at *
      have w2 : IntKind.i64.wrap ((p : Int) - (h : Int)) = (p : Int) - (h : Int) := by rw [IntKind.wrap_i64]; omega
      go_enter Tryz.func57, Tryz.ntmps57
      go_wp2_with (first
        | (go_at_call 33; refine (HPK.out _).mono ?_; rintro e w' ⟨rfl, hw⟩; subst hw; clear HPK))
      go_ret
      exact ⟨rfl, rfl⟩
  · have HV : Hid (smpK d v = (pickV v (2 * h) : Int) - (h : Int)) := by show _ = _; rw [HSM.out, if_neg (fun hh => h1 hh.1)]
    have d1 : decide (-(h : Int) ≤ v) = false := decide_eq_false h1
    rw [HV.out]
    clear HV HSM
    generalize pickV v (2 * h) = p at *
    have w2 : IntKind.i64.wrap ((p : Int) - (h : Int)) = (p : Int) - (h : Int) := by rw [IntKind.wrap_i64]; omega
    go_enter Tryz.func57, Tryz.ntmps57
    go_wp2_with (first
      | (go_at_call 33; refine (HPK.out _).mono ?_; rintro e w' ⟨rfl, hw⟩; subst hw; clear HPK))
    go_ret
    exact ⟨rfl, rfl⟩
end Go.Proofs.YtlncjgnomhpjnaaGreatDoor

