import Derived.Test.YtlncjgnomhpjnaaGreatDoorEJEncMath
import Derived.Ground.NamesProg
import Derived.Shelf.Lay
import Derived.Shelf.Strings.OnBuilder
/-
  strings.Join, off the shelf, at this dump.
-/
namespace Go.Proofs.YtlncjgnomhpjnaaGreatDoor
open Go.Shelf Go.RowKit Go.Deep
set_option linter.unusedVariables false

shelf_lay Lays.n156 Nm 156 at Tryz as layJoin
set_option maxRecDepth 100000 in
theorem joinExtra : Builder.Extra Tryz.prog layJoin_ren where
  sizeBuilder := by kernel_rfl
  liesBuilder := by kernel_rfl
  t5 := by kernel_rfl
  a5 := fun w => by exact Tryz.isAgg5 w
  z5 := Tryz.sizeOf5
  v5 := Tryz.zeroValue5
  infoByte := by kernel_rfl
  cellsByte := by kernel_rfl
  sizeByte := by kernel_rfl
  neB5 := by decide
theorem joinNum : layJoin_ren.f 156 = 130 := by kernel_rfl

/-- the first texts, one behind the other -/
def catT (X : Nat → List UInt8) : Nat → List UInt8
  | 0 => []
  | k + 1 => catT X k ++ X k
theorem catT_flat (X : Nat → List UInt8) : ∀ k, catT X k = ((List.range k).map X).flatten
  | 0 => rfl
  | k + 1 => by rw [catT, catT_flat X k, List.range_succ]; simp
theorem join_flat : ∀ (l : List (List UInt8)), Lib.join l [] = l.flatten
  | [] => rfl
  | x :: r => by
    rw [Lib.join_cons]
    simp [Lib.joinTail]
/-- the first texts, as cells -/
def strL (X : Nat → List UInt8) (k : Nat) : List Value := (List.range k).map fun j => Value.string (bs (X j))
theorem strL_snoc (X : Nat → List UInt8) (k : Nat) : strL X (k + 1) = strL X k ++ [Value.string (bs (X k))] := by
  unfold strL
  rw [List.range_succ, List.map_append]; rfl
theorem strL_get (X : Nat → List UInt8) (k i : Nat) (h : i < k) : (strL X k)[i]? = some (Value.string (bs (X i))) := by
  unfold strL
  rw [List.getElem?_map, List.getElem?_range h]; rfl
theorem join_any (X : Nat → List UInt8) (N base : Nat) (kv : Value) (w : World) (h : w.ownsRow base 9 1 kv N (strL X N)) (hN : N ≤ 100000) (hl : (catT X N).length ≤ 10000000) :
    Calls Tryz.prog 130 #[kv, .string ⟨#[]⟩] w fun e w' => e = .returned (.string (bs (catT X N))) ∧ Below w.heap.size w w' := by
  rcases h.2 with ⟨rfl, rfl⟩ | ⟨g, cap, cur, rfl, hg, hbk, hcap, -⟩
  · have := Any.strings_Join_none layJoin joinExtra none 0 ⟨#[]⟩ w
    rw [joinNum] at this
    exact this.mono fun e w' ⟨he, hw⟩ => ⟨he, hw ▸ Below.refl _ _⟩
  · have hc : ∀ (j : Nat) x, ((List.range N).map fun i => bs (X i))[j]? = some x → w.cell? ⟨g, 0 + j, none⟩ = some (.string x) := fun j x hx => by
      rw [List.getElem?_map] at hx
      rcases Nat.lt_or_ge j N with hj | hj
      · rw [List.getElem?_range hj] at hx
        injection hx with hx
        have := h.cells (g := g) rfl j _ (strL_get X N j hj)
        rw [Addr.add_lit] at this
        rw [← hx]
        exact this
      · rw [List.getElem?_eq_none (by simpa using hj)] at hx
        simp at hx
    have hd : ((List.range N).map fun i => bs (X i)).map (·.data.toList) = (List.range N).map X := by
      rw [List.map_map]
      refine List.map_congr_left fun i _ => ?_
      simp [bs]
    have hL : ((List.range N).map fun i => bs (X i)).length = N := by simp
    have := Any.strings_Join layJoin joinExtra g 0 cap ((List.range N).map fun i => bs (X i)) ⟨#[]⟩ w hc (Array.getElem?_eq_some_iff.1 hbk).1 (by omega) (by omega) (by
      rw [hd]
      show (Lib.join _ []).length ≤ _
      rw [join_flat, ← catT_flat]; omega)
    rw [joinNum, hd, hL] at this
    have e1 : Lib.join ((List.range N).map X) (⟨#[]⟩ : ByteArray).data.toList = catT X N := by
      show Lib.join _ [] = _
      rw [join_flat, ← catT_flat]
    rw [e1] at this
    exact this
end Go.Proofs.YtlncjgnomhpjnaaGreatDoor

