/-
  The reader of bits: bittext.Reader.
-/
import Derived.Test.YtlncjgnomhpjnaaDoorBase
import Derived.Test.YtlncjgnomhpjnaaDoorReadMath
import Derived.Laws.IdiomStrings
import Derived.Deep.OwnRows
import Derived.Deep.QuietTactic
import Derived.BigQuiet
namespace Go.Proofs.YtlncjgnomhpjnaaDoor
open Go.RowKit Go.Deep
set_option linter.unusedVariables false

theorem ret_int {k : IntKind} {a b : Int} (h : a = b) : Ending.returned (.int k a) = .returned (.int k b) := by rw [h]

theorem Hid.mk' {p : Prop} (h : p) : Hid p := h

/-- a reader -/
def Rd (w : World) (B : Nat) (s : ByteArray) (p : Nat) : Prop := w.heap[B]? = some (.cells #[.string s, .int .i64 p] 101 (0, 0))
theorem Rd.c0 {w : World} {B : Nat} {s : ByteArray} {p : Nat} (h : Rd w B s p) : w.cell? ⟨B, 0, none⟩ = some (.string s) := by simp [World.cell?, show w.heap[B]? = _ from h]
theorem Rd.c1 {w : World} {B : Nat} {s : ByteArray} {p : Nat} (h : Rd w B s p) : w.cell? ⟨B, 1, none⟩ = some (.int .i64 p) := by simp [World.cell?, show w.heap[B]? = _ from h]
theorem Rd.f1 {w : World} {B : Nat} {s : ByteArray} {p : Nat} (h : Rd w B s p) : w.frozen? ⟨B, 1, none⟩ = false := by simp [World.frozen?, show w.heap[B]? = _ from h]
theorem Rd.lt {w : World} {B : Nat} {s : ByteArray} {p : Nat} (h : Rd w B s p) : B < w.heap.size := (Array.getElem?_eq_some_iff.1 h).1
theorem Rd.set {w : World} {B : Nat} {s : ByteArray} {p q : Nat} (h : Rd w B s p) {v : Value} (hv : v = .int .i64 q) : Rd (w.setCell ⟨B, 1, none⟩ v) B s q := by
  subst hv
  simp [Rd, World.setCell, Array.getElem?_modify, show w.heap[B]? = _ from h]
theorem Rd.of {w w' : World} {B : Nat} {s : ByteArray} {p : Nat} (h : Rd w B s p) (e : w'.heap[B]? = w.heap[B]?) : Rd w' B s p := e.trans h

/-- at most one block has turned; the rest is new -/
def Chg (B : Nat) (w w' : World) : Prop := w.grownBy w' (some B)
theorem Chg.refl (B : Nat) (w : World) : Chg B w w := ⟨rfl, rfl, rfl, Nat.le_refl _, fun _ _ _ => rfl⟩
theorem Chg.trans {B : Nat} {a b c : World} (h : Chg B a b) (k : Chg B b c) : Chg B a c :=
  ⟨k.os.trans h.os, k.tape.trans h.tape, k.output.trans h.output, Nat.le_trans h.size k.size, fun j hj hne => (k.block j (Nat.lt_of_lt_of_le hj h.size) hne).trans (h.block j hj hne)⟩
theorem Chg.drewN {B : Nat} {w w' : World} (h : Chg B w w') (m : Nat) : Chg B w (w'.drewN m) := ⟨h.os, h.tape, h.output, h.size, h.block⟩
theorem Chg.below {B : Nat} {w w' w'' : World} (h : Chg B w w') (k : Below w'.heap.size w' w'') : Chg B w w'' :=
  h.trans ⟨k.os, k.tape, k.output, k.size, fun j hj _ => k.block j hj⟩
theorem Chg.set {B : Nat} {w w' : World} (h : Chg B w w') (i : Nat) (v : Value) : Chg B w (w'.setCell ⟨B, i, none⟩ v) :=
  h.trans ⟨rfl, rfl, rfl, by rw [World.size_setCell]; exact Nat.le_refl _, fun j _ hne => blk_setCell_other _ _ _ _ (fun e => hne (by rw [e]))⟩
theorem Chg.toBelow {B A : Nat} {w w' : World} (h : Chg B w w') (hA : A ≤ B) (hs : A ≤ w.heap.size) : Below A w w' :=
  ⟨h.os, h.tape, h.output, h.size, fun k hk => h.block k (by omega) (fun e => by cases e; omega)⟩

theorem cell_bytes (s : ByteArray) (b : Nat → Bool) (p k c x y i : Nat) (w : World) (t : TypeId) (hb : Bits s b) (hle : p + k ≤ s.size) (hi : i < k) :
    (w.alloc (.cells (bytesRow (s.extract p (p + k)) c) t (x, y))).cell? ⟨w.heap.size, i, none⟩ = some (.int .u8 ((48 + (b (p + i)).toNat : Nat) : Int)) := by
  have h1 : (w.alloc (.cells (bytesRow (s.extract p (p + k)) c) t (x, y))).heap[w.heap.size]? = some (.cells (bytesRow (s.extract p (p + k)) c) t (x, y)) := blk_alloc_new _ _
  have hd : (s.extract p (p + k)).data = s.data.extract p (p + k) := by simp
  have hsz : i < (s.extract p (p + k)).data.size := by
    rw [hd, Array.size_extract]
    have : s.data.size = s.size := rfl
    omega
  simp only [World.cell?, h1]
  rw [bytesRow_at _ _ _ hsz]
  have e : (s.extract p (p + k)).data[i] = s[p + i]'(by omega) := by
    simp only [hd]
    rw [Array.getElem_extract]; rfl
  rw [e, hb, ltr_nat]
  simp

set_option maxHeartbeats 400000 in
theorem number_no (B : Nat) (s : ByteArray) (p k : Nat) (w : World) (hs : s.size ≤ 80000) (hp : p ≤ s.size) (hk : k ≤ 16) (hR : Rd w B s p) (hlt : s.size < p + k) :
    Calls Tryd.prog 36 #[.pointer (some ⟨B, 0, none⟩), .int .i64 k] w fun e w' => e = .returned (.tuple #[.int .i64 0, .bool false]) ∧ ∃ m, w' = w.drewN m := by
  have h0 := hR.c0
  have h1 := hR.c1
  go_enter Tryd.func36, Tryd.ntmps36
  go_wp2
  go_region
  all_goals go_wp2
  go_ret2
  exact ⟨rfl, 1, rfl⟩

set_option maxHeartbeats 1000000 in
theorem number_yes (B : Nat) (s : ByteArray) (b : Nat → Bool) (p k : Nat) (w : World) (hs : s.size ≤ 80000) (hk : k ≤ 16) (hR : Rd w B s p) (hle : p + k ≤ s.size) (hb : Bits s b) :
    Calls Tryd.prog 36 #[.pointer (some ⟨B, 0, none⟩), .int .i64 k] w fun e w' => e = .returned (.tuple #[.int .i64 (num b p k), .bool true]) ∧ Rd w' B s (p + k) ∧ Chg B w w' := by
  have h0 := hR.c0
  have h1 := hR.c1
  have HB : Hid (Bits s b) := hb
  clear hb
  have hcv := fun u : World => run_bytes_of_string (P := Tryd.prog) u 9 85 5 (s.extract p (p + k)) Tryd.underlying9 Tryd.underlying85 Tryd.underlying5
  have hcell : ∀ c x y i, i < k → (w.alloc (.cells (bytesRow (s.extract p (p + k)) c) 5 (x, y))).cell? ⟨w.heap.size, i, none⟩ = some (.int .u8 ((48 + (b (p + i)).toNat : Nat) : Int)) := fun c x y i hi =>
    cell_bytes s b p k c x y i w 5 HB.out hle hi
  have ha1 : ∀ o, (w.alloc o).cell? ⟨B, 1, none⟩ = some (.int .i64 p) := fun o => (World.cell?_alloc_lt w o ⟨B, 1, none⟩ hR.lt).trans h1
  have hf1 : ∀ o, (w.alloc o).frozen? ⟨B, 1, none⟩ = false := fun o => (World.frozen?_alloc_old w o ⟨B, 1, none⟩ (Nat.ne_of_lt hR.lt)).trans hR.f1
  go_enter Tryd.func36, Tryd.ntmps36
  go_wp2
  go_region
  all_goals go_wp2
  go_region
  all_goals go_wp2
  clear hcv
  go_loop [6, 8, 38] (fun v _ i => ∃ j : Nat, j ≤ k ∧ i = .int .i64 j ∧ v = .int .i64 (bitsNum (fun i => b (p + i)) j)) (fun _ _ i => k - (intOf i).toNat)
  case atStart => exact ⟨0, Nat.zero_le _, rfl, rfl⟩
  case round =>
    obtain ⟨j, hj, rfl, rfl⟩ := hrel
    by_cases hlt : j < k
    · have hcj := fun c x y => hcell c x y j hlt
      have HF : Hid (bitsNum (fun i => b (p + i)) (j + 1) = 2 * bitsNum (fun i => b (p + i)) j + (b (p + j)).toNat) := rfl
      have h3 := bitsNum_lt (fun i => b (p + i)) j
      have h4 : 2 ^ j ≤ 65536 := Nat.le_trans (Nat.pow_le_pow_right (by omega) (by omega : j ≤ 16)) (by decide)
      have h5 : bitsNum (fun i => b (p + i)) j < 65536 := by omega
      have h6 : (b (p + j)).toNat ≤ 1 := Bool.toNat_le _
      clear h3 h4
      go_wp2
      go_round
      case rel => exact ⟨j + 1, by omega, by go_num, by rw [HF.out]; go_num⟩
      case measure => simp [intOf]; omega
    · have e : j = k := by omega
      subst e
      go_wp2
      go_ret2
      refine ⟨rfl, Rd.set (Rd.of hR (blk_alloc_lt _ _ _ hR.lt)) (by go_num), ?_⟩
      exact ((((Chg.refl B w).below ((Below.refl _ _).alloc (Nat.le_refl _) _)).set 1 _).drewN 3)
end Go.Proofs.YtlncjgnomhpjnaaDoor
