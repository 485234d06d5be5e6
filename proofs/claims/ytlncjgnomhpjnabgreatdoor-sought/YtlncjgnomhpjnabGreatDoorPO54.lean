import Derived.Test.YtlncjgnomhpjnabGreatDoorRows
import Derived.Test.YtlncjgnomhpjnabGreatDoorPO53
import Derived.Test.YtlncjgnomhpjnabGreatDoorPO26
import Derived.Test.YtlncjgnomhpjnabGreatDoorPO18
/-
  The tables among the laid variables of 'Sought'.
-/
namespace Go.Proofs.YtlncjgnomhpjnabGreatDoor
open Go Go.Lib
set_option linter.unusedVariables false
def z32 : List Int := [0, 1, 28, 2, 29, 14, 24, 3, 30, 22, 20, 15, 25, 17, 4, 8, 31, 27, 13, 23, 21, 19, 16, 7, 26, 12, 18, 6, 11, 5, 10, 9]
def z64 : List Int := [0, 1, 56, 2, 57, 49, 28, 3, 61, 58, 42, 50, 38, 29, 17, 4, 62, 47, 59, 36, 45, 43, 51, 22, 53, 39, 33, 30, 24, 18, 12, 5, 63, 55, 48, 27, 60, 41, 37, 16, 46, 35, 44, 21, 52, 32, 23, 11, 54, 26, 40, 15, 34, 20, 31, 10, 25, 14, 19, 9, 13, 8, 7, 6]
theorem z64_at : ∀ t : Fin 13, z64[285870213051353865 * 2 ^ t.val % 18446744073709551616 / 288230376151711744]? = some (t.val : Int) := by decide +kernel
theorem g64 : Tryz.prog.globalNamed "math/bits.deBruijn64tab" = some 4 := by kernel_rfl
theorem g64Type : (Tryz.prog.globals[4]?).map (·.type) = some 396 := by kernel_rfl
theorem cells64 : Tryz.prog.cellsOf 396 = 64 := by kernel_rfl
theorem tab_lt4 {w : World} {g i : Nat} {v : Value} (h : w.cell? ⟨g, i, none⟩ = some v) : g < w.heap.size := by
  by_cases hg : g < w.heap.size
  · exact hg
  · have hn : w.heap[g]? = none := Array.getElem?_eq_none (by omega)
    simp [World.cell?, hn] at h
def pairRows : List (List Int) := [[0, 1], [0, 2], [2, 1], [3, 2]]
theorem gPairs : Tryz.prog.globalNamed "reel/frame.pairs" = some 0 := by kernel_rfl
theorem gPairsType : (Tryz.prog.globals[0]?).map (·.type) = some 273 := by kernel_rfl
theorem cells42 : Tryz.prog.cellsOf 273 = 4 * 2 := by kernel_rfl
theorem cells2 : Tryz.prog.cellsOf 272 = 2 := by kernel_rfl
theorem pairRows_at (r c : Nat) (hr : r < 4) (hc : c < 2) : ∃ zs, pairRows[r]? = some zs ∧ zs[c]? = some (pairV r c) := by
  have h : ∀ r : Fin 4, ∀ c : Fin 2, (pairRows[r.val]?.bind fun zs => zs[c.val]?) = some (pairV r.val c.val) := by decide
  have := h ⟨r, hr⟩ ⟨c, hc⟩
  exact Option.bind_eq_some_iff.1 this
/-- what the row's list gives -/
theorem tablesK {W : World} (h : laidMetH Tryz.prog Rows.soughtRow.laid W) : TabsF W ∧ TabsU W := by
  have h' : laidMet Tryz.prog [("math/bits.deBruijn32tab", tabData .u8 z32), ("math/bits.deBruijn64tab", tabData .u8 z64), ("unicode/utf8.acceptRanges", Rows.laid_unicode_utf8_acceptRanges), ("reel/subframe.fixedWeights", .agg (tabRows.map (tabData .i64))), ("reel/frame.pairs", .agg (pairRows.map (tabData .i64))), ("unicode/utf8.first", Rows.laid_unicode_utf8_first)] W := h
  obtain ⟨ps, ⟨g0, t0, cs0, fuel0, p0, q0, hg0, ht0, hvar0, hd0, ⟨gb, tb, csb, fuelb, pb, qb, hgb, htb, hvarb, hdb, ⟨g1, t1, cs1, fuel1, p1, q1, hg1, ht1, hvar1, hd1, ⟨g2, t2, cs2, fuel2, p2, q2, hg2, ht2, hvar2, hd2, ⟨g3, t3, cs3, fuel3, p3, q3, hg3, ht3, hvar3, hd3, _, _⟩, _⟩, _⟩, _⟩, _⟩, _⟩ := h'
  obtain rfl := Option.some.inj (gPairs.symm.trans hg3)
  obtain rfl := Option.some.inj (gPairsType.symm.trans ht3)
  obtain rfl := Option.some.inj (gFixed.symm.trans hg2)
  obtain rfl := Option.some.inj (gFixedType.symm.trans ht2)
  obtain rfl := Option.some.inj (g64.symm.trans hgb)
  obtain rfl := Option.some.inj (g64Type.symm.trans htb)
  have hF : TabAt W 5 := by
    intro r c hr hc
    obtain ⟨zs, hz1, hz2⟩ := tabRows_at r c hr hc
    have := cells_of_tab2 Tryz.underlying387 Tryz.underlying331 Tryz.underlying3 cells1 cells4 cells54 hd2 r zs hz1 c _ hc hz2
    have h2 := World.var?_cell gFixed hvar2 (r * 4 + c)
    rw [Nat.mul_comm 4 r, h2]
    simpa using this
  have hZ : TzAt W 4 := by
    intro t ht
    have e := cells_of_tab Tryz.underlying396 Tryz.underlying5 cellsByte cells64 hdb
    have h2 := World.var?_cell g64 hvarb (285870213051353865 * 2 ^ t % 18446744073709551616 / 288230376151711744)
    rw [h2]
    have h3 := z64_at ⟨t, by omega⟩
    have h4 : csb.toList[285870213051353865 * 2 ^ t % 18446744073709551616 / 288230376151711744]? = some (.int .u8 (t : Int)) := by
      rw [e, List.getElem?_map, h3]; rfl
    simpa using h4
  have hP : PairsAt W := by
    intro r c hr hc
    obtain ⟨zs, hz1, hz2⟩ := pairRows_at r c hr hc
    have := cells_of_tab2 Tryz.underlying273 Tryz.underlying272 Tryz.underlying3 cells1 cells2 cells42 hd3 r zs hz1 c _ hc hz2
    have h2 := World.var?_cell gPairs hvar3 (r * 2 + c)
    rw [Nat.mul_comm 2 r, h2]
    simpa using this
  exact ⟨⟨⟨hF, tab_lt4 (hF 0 0 (by omega) (by omega)), hZ, tab_lt4 (hZ 0 (by omega))⟩, hP, tab_lt4 (hP 0 0 (by omega) (by omega))⟩, ⟨hF, tab_lt4 (hF 0 0 (by omega) (by omega)), hP, tab_lt4 (hP 0 0 (by omega) (by omega))⟩⟩
end Go.Proofs.YtlncjgnomhpjnabGreatDoor

