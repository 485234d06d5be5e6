/-
  Tables of tables among the laid variables.
-/
import Derived.Test.YtlncjgnomhpjnaaDoorReadProg
import Derived.Lib.LaidTab
import GoSem.ClaimJoined
import Derived.Test.YtlncjgnomhpjnaaDoorRows
namespace Go.Proofs.YtlncjgnomhpjnaaDoor
open Go Go.Lib
set_option linter.unusedVariables false

theorem cells_of_tab2 {H : Type} {enc : TypeId × Value → H} {P : Program} {w : World} {base : Nat} {sp : Nat → Bool} {held : Bool} {fuel : Nat} {t e1 e : TypeId} {n m : Nat} {k : IntKind} {cs : List Value} {zss : List (List Int)} {p : List MemPlace}
    (ht : P.underlying t = some (.array n e1)) (h1 : P.underlying e1 = some (.array m e)) (he : P.underlying e = some (.int k)) (hce : P.cellsOf e = 1) (hc1 : P.cellsOf e1 = m) (hct : P.cellsOf t = n * m)
    (h : DataW.trod enc P w base sp held fuel t cs = some (.agg (zss.map (tabData k)), p)) :
    ∀ r zs, zss[r]? = some zs → ∀ c z, c < m → zs[c]? = some z → cs[r * m + c]? = some (Value.int k z) := by
  cases fuel with
  | zero => simp [DataW.trod] at h
  | succ fuel =>
    simp only [DataW.trod, ht, hc1, hct] at h
    split at h
    · rename_i hl
      obtain ⟨xs, hm, hx⟩ := Option.map_eq_some_iff.1 h
      have hxs : xs.map (·.1) = zss.map (tabData (H := H) k) := by
        have := congrArg Prod.fst hx
        simpa using this
      have hxl : xs.length = n := by simpa using mapM_length hm
      have hzl : zss.length = n := by
        have := congrArg List.length hxs
        simp at this
        omega
      intro r zs hr c z hc hz
      have hrn : r < n := by rw [← hzl]; exact (List.getElem?_eq_some_iff.1 hr).1
      obtain ⟨b, hb, hf⟩ := mapM_at hm r r (by simp [hrn])
      have h2 : (xs.map (·.1))[r]? = some b.1 := by simp [hb]
      rw [hxs, List.getElem?_map, hr] at h2
      have h3 : b.1 = tabData k zs := by simpa using h2.symm
      obtain ⟨b1, b2⟩ := b
      simp only at h3
      subst h3
      have h4 := cells_of_tab h1 he hce hc1 hf
      have h5 := congrArg (·[c]?) h4
      simp [List.getElem?_drop, hc, hz] at h5
      exact h5
    · cases h

def tabRows : List (List Int) := [[0, 0, 0, 0], [1, 0, 0, 0], [2, -1, 0, 0], [3, -3, 1, 0], [4, -6, 4, -1]]
theorem tabRows_at (r c : Nat) (hr : r < 5) (hc : c < 4) : ∃ zs, tabRows[r]? = some zs ∧ zs[c]? = some (tab r c) := by
  have h : ∀ r : Fin 5, ∀ c : Fin 4, (tabRows[r.val]?.bind fun zs => zs[c.val]?) = some (tab r.val c.val) := by decide
  have := h ⟨r, hr⟩ ⟨c, hc⟩
  exact Option.bind_eq_some_iff.1 this
theorem gTaken : Tryd.prog.globalNamed "reel/reelref.taken" = some 3 := by kernel_rfl
theorem gTakenType : (Tryd.prog.globals[3]?).map (·.type) = some 129 := by kernel_rfl
theorem gFixed : Tryd.prog.globalNamed "reel/subframe.fixedWeights" = some 2 := by kernel_rfl
theorem gFixedType : (Tryd.prog.globals[2]?).map (·.type) = some 129 := by kernel_rfl
theorem cells54 : Tryd.prog.cellsOf 129 = 5 * 4 := by kernel_rfl
theorem cells4 : Tryd.prog.cellsOf 62 = 4 := by kernel_rfl
theorem cells1 : Tryd.prog.cellsOf 3 = 1 := by kernel_rfl

/-- what the row's list gives: both tables -/
theorem tables {W : World} (h : laidMetH Tryd.prog Rows.readsRow.laid W) : TabAt W 3 ∧ TabAt W 2 := by
  have h' : laidMet Tryd.prog [("reel/reelref.taken", .agg (tabRows.map (tabData .i64))), ("reel/subframe.fixedWeights", .agg (tabRows.map (tabData .i64)))] W := h
  obtain ⟨ps, ⟨g1, t1, cs1, fuel1, p1, q1, hg1, ht1, hvar1, hd1, ⟨g2, t2, cs2, fuel2, p2, q2, hg2, ht2, hvar2, hd2, _, _⟩, _⟩, _⟩ := h'
  obtain rfl := Option.some.inj (gTaken.symm.trans hg1)
  obtain rfl := Option.some.inj (gTakenType.symm.trans ht1)
  obtain rfl := Option.some.inj (gFixed.symm.trans hg2)
  obtain rfl := Option.some.inj (gFixedType.symm.trans ht2)
  constructor
  · intro r c hr hc
    obtain ⟨zs, hz1, hz2⟩ := tabRows_at r c hr hc
    have := cells_of_tab2 Tryd.underlying129 Tryd.underlying62 Tryd.underlying3 cells1 cells4 cells54 hd1 r zs hz1 c _ hc hz2
    have h2 := World.var?_cell gTaken hvar1 (r * 4 + c)
    rw [Nat.mul_comm 4 r, h2]
    simpa using this
  · intro r c hr hc
    obtain ⟨zs, hz1, hz2⟩ := tabRows_at r c hr hc
    have := cells_of_tab2 Tryd.underlying129 Tryd.underlying62 Tryd.underlying3 cells1 cells4 cells54 hd2 r zs hz1 c _ hc hz2
    have h2 := World.var?_cell gFixed hvar2 (r * 4 + c)
    rw [Nat.mul_comm 4 r, h2]
    simpa using this
end Go.Proofs.YtlncjgnomhpjnaaDoor
