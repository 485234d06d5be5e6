/-
  The four tables among the laid variables of 'Codes'.
-/
import Derived.Test.YtlncjgnomhpjnaaDoorRows
import Derived.Test.YtlncjgnomhpjnaaDoorLaidTwo
import Derived.Test.YtlncjgnomhpjnaaDoorLawCodes
namespace Go.Proofs.YtlncjgnomhpjnaaDoor
open Go Go.Lib
set_option linter.unusedVariables false

def z32 : List Int := [0, 1, 28, 2, 29, 14, 24, 3, 30, 22, 20, 15, 25, 17, 4, 8, 31, 27, 13, 23, 21, 19, 16, 7, 26, 12, 18, 6, 11, 5, 10, 9]
def z64 : List Int := [0, 1, 56, 2, 57, 49, 28, 3, 61, 58, 42, 50, 38, 29, 17, 4, 62, 47, 59, 36, 45, 43, 51, 22, 53, 39, 33, 30, 24, 18, 12, 5, 63, 55, 48, 27, 60, 41, 37, 16, 46, 35, 44, 21, 52, 32, 23, 11, 54, 26, 40, 15, 34, 20, 31, 10, 25, 14, 19, 9, 13, 8, 7, 6]
theorem z64_at : ∀ t : Fin 13, z64[285870213051353865 * 2 ^ t.val % 18446744073709551616 / 288230376151711744]? = some (t.val : Int) := by decide +kernel
theorem g32 : Tryd.prog.globalNamed "math/bits.deBruijn32tab" = some 0 := by kernel_rfl
theorem g32Type : (Tryd.prog.globals[0]?).map (·.type) = some 125 := by kernel_rfl
theorem g64 : Tryd.prog.globalNamed "math/bits.deBruijn64tab" = some 1 := by kernel_rfl
theorem g64Type : (Tryd.prog.globals[1]?).map (·.type) = some 126 := by kernel_rfl
theorem cells64 : Tryd.prog.cellsOf 126 = 64 := by kernel_rfl
theorem tab_lt4 {w : World} {g i : Nat} {v : Value} (h : w.cell? ⟨g, i, none⟩ = some v) : g < w.heap.size := by
  by_cases hg : g < w.heap.size
  · exact hg
  · have hn : w.heap[g]? = none := Array.getElem?_eq_none (by omega)
    simp [World.cell?, hn] at h

/-- what the row's list gives -/
theorem tables4 {W : World} (h : laidMetH Tryd.prog Rows.codesRow.laid W) : Tabs4 W := by
  have h' : laidMet Tryd.prog [("math/bits.deBruijn32tab", tabData .u8 z32), ("math/bits.deBruijn64tab", tabData .u8 z64), ("reel/reelref.taken", .agg (tabRows.map (tabData .i64))), ("reel/subframe.fixedWeights", .agg (tabRows.map (tabData .i64)))] W := h
  obtain ⟨ps, ⟨g0, t0, cs0, fuel0, p0, q0, hg0, ht0, hvar0, hd0, ⟨gb, tb, csb, fuelb, pb, qb, hgb, htb, hvarb, hdb, ⟨g1, t1, cs1, fuel1, p1, q1, hg1, ht1, hvar1, hd1, ⟨g2, t2, cs2, fuel2, p2, q2, hg2, ht2, hvar2, hd2, _, _⟩, _⟩, _⟩, _⟩, _⟩ := h'
  obtain rfl := Option.some.inj (gTaken.symm.trans hg1)
  obtain rfl := Option.some.inj (gTakenType.symm.trans ht1)
  obtain rfl := Option.some.inj (gFixed.symm.trans hg2)
  obtain rfl := Option.some.inj (gFixedType.symm.trans ht2)
  obtain rfl := Option.some.inj (g64.symm.trans hgb)
  obtain rfl := Option.some.inj (g64Type.symm.trans htb)
  have hT : TabAt W 3 := by
    intro r c hr hc
    obtain ⟨zs, hz1, hz2⟩ := tabRows_at r c hr hc
    have := cells_of_tab2 Tryd.underlying129 Tryd.underlying62 Tryd.underlying3 cells1 cells4 cells54 hd1 r zs hz1 c _ hc hz2
    have h2 := World.var?_cell gTaken hvar1 (r * 4 + c)
    rw [Nat.mul_comm 4 r, h2]
    simpa using this
  have hF : TabAt W 2 := by
    intro r c hr hc
    obtain ⟨zs, hz1, hz2⟩ := tabRows_at r c hr hc
    have := cells_of_tab2 Tryd.underlying129 Tryd.underlying62 Tryd.underlying3 cells1 cells4 cells54 hd2 r zs hz1 c _ hc hz2
    have h2 := World.var?_cell gFixed hvar2 (r * 4 + c)
    rw [Nat.mul_comm 4 r, h2]
    simpa using this
  have hZ : TzAt W 1 := by
    intro t ht
    have e := cells_of_tab Tryd.underlying126 Tryd.underlying5 cellsByte cells64 hdb
    have h2 := World.var?_cell g64 hvarb (285870213051353865 * 2 ^ t % 18446744073709551616 / 288230376151711744)
    rw [h2]
    have h3 := z64_at ⟨t, by omega⟩
    have h4 : csb.toList[285870213051353865 * 2 ^ t % 18446744073709551616 / 288230376151711744]? = some (.int .u8 (t : Int)) := by
      rw [e, List.getElem?_map, h3]; rfl
    simpa using h4
  exact ⟨⟨hF, tab_lt4 (hF 0 0 (by omega) (by omega)), hZ, tab_lt4 (hZ 0 (by omega))⟩, hT, tab_lt4 (hT 0 0 (by omega) (by omega))⟩
end Go.Proofs.YtlncjgnomhpjnaaDoor
