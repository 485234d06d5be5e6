import Derived.Test.YtlncjgnomhpjnaaGreatDoorEJReadProg
import Derived.Lib.LaidTab
import GoSem.ClaimJoined
import Derived.Test.YtlncjgnomhpjnaaGreatDoorRows
/-
  Tables of tables among the laid variables.
-/
namespace Go.Proofs.YtlncjgnomhpjnaaGreatDoor
open Go Go.Lib
set_option linter.unusedVariables false

theorem cells_of_tab2 {H : Type} {enc : TypeId × Value → H} {P : Program} {w : World} {base : Nat} {sp : Nat → Bool} {held : Bool} {fuel : Nat} {t e1 e : TypeId} {n m : Nat} {k : IntKind} {cs : List Value} {zss : List (List Int)} {p : List MemPlace}
    (ht : P.underlying t = some (.array n e1)) (h1 : P.underlying e1 = some (.array m e)) (he : P.underlying e = some (.int k)) (hce : P.cellsOf e = 1) (hc1 : P.cellsOf e1 = m) (hct : P.cellsOf t = n * m)
    (h : DataW.trod enc P w base sp held fuel t cs = some (.agg (zss.map (tabData k)), p)) :
    ∀ r zs, zss[r]? = some zs → ∀ c z, c < m → zs[c]? = some z → cs[r * m + c]? = some (Value.int k z) := by
  cases fuel with
  | zero => simp [DataW.trod] at h
  | succ fuel =>
    simp only [DataW.trod, ht, hc1, hct] at h
    split at h
    · rename_i hl
      obtain ⟨xs, hm, hx⟩ := Option.map_eq_some_iff.1 h
      have hxs : xs.map (·.1) = zss.map (tabData (H := H) k) := by
        have := congrArg Prod.fst hx
        simpa using this
      have hxl : xs.length = n := by simpa using mapM_length hm
      have hzl : zss.length = n := by
        have := congrArg List.length hxs
        simp at this
        omega
      intro r zs hr c z hc hz
      have hrn : r < n := by rw [← hzl]; exact (List.getElem?_eq_some_iff.1 hr).1
      obtain ⟨b, hb, hf⟩ := mapM_at hm r r (by simp [hrn])
      have h2 : (xs.map (·.1))[r]? = some b.1 := by simp [hb]
      rw [hxs, List.getElem?_map, hr] at h2
      have h3 : b.1 = tabData k zs := by simpa using h2.symm
      obtain ⟨b1, b2⟩ := b
      simp only at h3
      subst h3
      have h4 := cells_of_tab h1 he hce hc1 hf
      have h5 := congrArg (·[c]?) h4
      simp [List.getElem?_drop, hc, hz] at h5
      exact h5
    · cases h

def tabRows : List (List Int) := [[0, 0, 0, 0], [1, 0, 0, 0], [2, -1, 0, 0], [3, -3, 1, 0], [4, -6, 4, -1]]
theorem tabRows_at (r c : Nat) (hr : r < 5) (hc : c < 4) : ∃ zs, tabRows[r]? = some zs ∧ zs[c]? = some (tab r c) := by
  have h : ∀ r : Fin 5, ∀ c : Fin 4, (tabRows[r.val]?.bind fun zs => zs[c.val]?) = some (tab r.val c.val) := by decide
  have := h ⟨r, hr⟩ ⟨c, hc⟩
  exact Option.bind_eq_some_iff.1 this
theorem gTaken : Tryz.prog.globalNamed "reel/reelref.taken" = some 3 := by kernel_rfl
theorem gTakenType : (Tryz.prog.globals[3]?).map (·.type) = some 249 := by kernel_rfl
theorem gFixed : Tryz.prog.globalNamed "reel/subframe.fixedWeights" = some 7 := by kernel_rfl
theorem gFixedType : (Tryz.prog.globals[7]?).map (·.type) = some 249 := by kernel_rfl
theorem cells54 : Tryz.prog.cellsOf 249 = 5 * 4 := by kernel_rfl
theorem cells4 : Tryz.prog.cellsOf 199 = 4 := by kernel_rfl
theorem cells1 : Tryz.prog.cellsOf 3 = 1 := by kernel_rfl

end Go.Proofs.YtlncjgnomhpjnaaGreatDoor

