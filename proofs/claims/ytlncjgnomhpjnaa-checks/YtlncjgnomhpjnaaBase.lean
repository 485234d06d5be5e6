/-
  Small laws for worlds that only grow, and for rows of bytes that a call has made.
-/
import Derived.Test.YtlncjgnomhpjnaaChecked
import GoSem.Claim
import GoSem.ClaimJoined
import GoSem.ClaimMapViews
import Derived.JoinedTies
import Derived.KernelRfl
import Derived.RowKit
import Derived.WalkKit
import Derived.WalkSpells
import Derived.WalkLawsBesides
namespace Go.Proofs.Ytlncjgnomhpjnaa
open Go.RowKit

/-- the world has at most new memory, and nothing is frozen that was not -/
def Up (w w' : World) : Prop := Below w.heap.size w w' ∧ ∀ a, w'.frozen? a = w.frozen? a

theorem Up.refl (w : World) : Up w w := ⟨Below.refl _ _, fun _ => rfl⟩
theorem Up.trans {a b c : World} (h : Up a b) (k : Up b c) : Up a c :=
  ⟨h.1.trans (k.1.mono h.1.size), fun x => (k.2 x).trans (h.2 x)⟩
theorem Up.drew {a b : World} (h : Up a b) : Up a b.drew := ⟨h.1.drew, h.2⟩
theorem Up.alloc {a b : World} (h : Up a b) (c : Array Value) (t : TypeId) : Up a (b.alloc (.cells c t)) :=
  ⟨h.1.alloc h.1.size _, fun x => (frozen?_alloc_cells b c t x).trans (h.2 x)⟩
theorem Up.setCell {a b : World} (h : Up a b) {p : Addr} (hp : a.heap.size ≤ p.block) (v : Value) : Up a (b.setCell p v) :=
  ⟨h.1.setCell hp v, fun x => by rw [World.frozen?_setCell]; exact h.2 x⟩
theorem Up.size {a b : World} (h : Up a b) : a.heap.size ≤ b.heap.size := h.1.size
theorem Up.cell {a b : World} (h : Up a b) {p : Addr} (hp : p.block < a.heap.size) : b.cell? p = a.cell? p := h.1.cell hp
theorem Up.grown {a b : World} (h : Up a b) : Grown a b := ⟨h.1.frame _, h.2, h.1.size⟩

/-- nothing in new memory is frozen -/
theorem frozen_past (w : World) {a : Addr} (h : w.heap.size ≤ a.block) : w.frozen? a = false := by
  simp [World.frozen?, Array.getElem?_eq_none h]
theorem Up.free {a b : World} (h : Up a b) {p : Addr} (hp : a.heap.size ≤ p.block) : b.frozen? p = false := (h.2 p).trans (frozen_past a hp)

/-- a row of n bytes at the head of a block -/
def RowB (w : World) (b n : Nat) (f : Nat → Int) : Prop := ∀ j, j < n → w.cell? ⟨b, j, none⟩ = some (.int .u8 (f j))

theorem RowB.drew {w : World} {b n : Nat} {f : Nat → Int} (h : RowB w b n f) : RowB w.drew b n f := h
theorem RowB.up {w w' : World} {b n : Nat} {f : Nat → Int} (h : RowB w b n f) (u : Up w w') (hb : b < w.heap.size) : RowB w' b n f :=
  fun j hj => (u.cell hb).trans (h j hj)
theorem RowB.set {w : World} {b n : Nat} {f g : Nat → Int} (h : RowB w b n f) (i : Nat) (v : Int) (hi : i < n) (hv : g i = v) (hg : ∀ j, j < n → j ≠ i → g j = f j) :
    RowB (w.setCell ⟨b, i, none⟩ (.int .u8 v)) b n g := by
  intro j hj
  by_cases e : j = i
  · subst e; rw [World.cell?_setCell_same _ _ _ (h j hj), hv]
  · rw [World.cell?_setCell_other _ _ _ _ (by intro x; injection x; omega), h j hj, hg j hj e]
theorem RowB.made (w : World) (n : Nat) (t : TypeId) : RowB (w.alloc (.cells (madeCells #[.int .u8 0] n) t)) w.heap.size n (fun _ => 0) := by
  intro j hj
  rw [World.cell?_alloc_new]
  simp [madeCells, hj, Nat.mod_one]

/-- the string that bytes make -/
def strOf (f : Nat → UInt8) (n : Nat) : ByteArray := ⟨((List.range n).map f).toArray⟩
theorem strOf_size (f : Nat → UInt8) (n : Nat) : (strOf f n).size = n := by
  show ((List.range n).map f).toArray.size = n; simp
theorem strOf_get (f : Nat → UInt8) (n j : Nat) (h : j < (strOf f n).size) : (strOf f n)[j] = f j := by
  have h' : j < n := by rw [strOf_size] at h; exact h
  show ((List.range n).map f)[j]'(by simpa using h') = f j
  simp
theorem strOf_list (f : Nat → UInt8) (n : Nat) : (strOf f n).data.toList = (List.range n).map f := by simp [strOf]

theorem fold_push : ∀ (l : List UInt8) (s : ByteArray), l.foldl (fun r n => r.push n) s = ⟨s.data ++ l.toArray⟩
  | [], s => by simp
  | c :: l, s => by
    rw [List.foldl_cons, fold_push l]
    congr 1
    simp [ByteArray.push]

/-- 'string(b)' of such a row, or of its end -/
theorem run_rowString {P : Program} (w : World) (src dst e : TypeId) (b o n c : Nat) (f : Nat → UInt8)
    (hs : P.underlying src = some (.slice e)) (he : P.underlying e = some (.int .u8)) (hd : P.underlying dst = some .string)
    (h : ∀ j, j < n → w.cell? ⟨b, o + j, none⟩ = some (.int .u8 ((f j).toNat : Int))) :
    (convert src dst (.slice (some ⟨b, o, none⟩) n c)).run P w = .ok (.string (strOf f n)) w := by
  rw [run_convert_bytes_string w src dst e _ _ _ hs he hd]
  have hl := run_loadCells (P := P) w ⟨b, o, none⟩ n (fun j => .int .u8 ((f j).toNat : Int)) (fun j hj => by rw [← h j hj]; cases j <;> simp [Addr.add])
  have e1 : ((List.range n).map fun j => Value.int .u8 ((f j).toNat : Int)) = ((List.range n).map fun j => ((f j).toNat : Int)).map (Value.int .u8) := by simp
  rw [e1] at hl
  rw [run_bytesToString w ⟨b, o, none⟩ n c _ hl]
  congr 2
  have e2 : ∀ (l : List Nat) (s : ByteArray), (l.map fun j => ((f j).toNat : Int)).foldl (fun r n => r.push (UInt8.ofNat n.toNat)) s = (l.map f).foldl (fun r n => r.push n) s := by
    intro l
    induction l with
    | nil => intro s; rfl
    | cons x l ih => intro s; simp only [List.map_cons, List.foldl_cons]; rw [ih]; simp
  rw [e2, fold_push]
  simp [strOf]

end Go.Proofs.Ytlncjgnomhpjnaa
