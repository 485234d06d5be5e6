/-
  The lists that are lent: 'lend', 'whole', 'spoil', 'shows'.
-/
import Derived.Test.YtlncjgnomhpjnaaBase
import Derived.Deep.OwnRows
import Derived.Laws.CopyOwn
namespace Go.Proofs.Ytlncjgnomhpjnaa
open Go.RowKit Go.Deep

theorem infoInt : (Try.prog.info? 3).map (fun i => (i.zero, i.size, i.bytes)) = some (some (.int .i64 0), 1, 8) := by kernel_rfl
theorem sizeInt : (Try.prog.info? 3).map (·.size) = some 1 := by kernel_rfl

/-- what a slice of numbers holds -/
def IntsAt (w : World) (a : Option Addr) (n : Nat) (f : Nat → Int) : Prop := ∀ i, i < n → ∃ x, a = some x ∧ w.cell? (x.add i) = some (.int .i64 (f i))

theorem IntsAt.open {w : World} {a : Option Addr} {n : Nat} {f : Nat → Int} (h : IntsAt w a n f) (hn : 0 < n) :
    ∃ b off, a = some ⟨b, off, none⟩ ∧ ∀ i, i < n → w.cell? ⟨b, off + i, none⟩ = some (.int .i64 (f i)) := by
  obtain ⟨⟨b, off, sp⟩, rfl, hc⟩ := h 0 hn
  have hs : sp = none := by simpa [Addr.add] using World.cell?_spot hc
  subst hs
  refine ⟨b, off, rfl, fun i hi => ?_⟩
  obtain ⟨x, hx, hc⟩ := h i hi
  cases hx
  rw [← hc]
  cases i <;> simp [Addr.add]

/-- the row that is lent -/
def lentRow (n : Nat) (f : Nat → Int) (i : Nat) : Value := .int .i64 (if i < n then f i else 77)

/-- the row while it is filled -/
def fillRow (n : Nat) (f : Nat → Int) (k i : Nat) : Value := .int .i64 (if i < n then f i else if i < k then 77 else 0)
theorem fillRow_full (n : Nat) (f : Nat → Int) (i : Nat) (h : i < n + 8) : fillRow n f (n + 8) i = lentRow n f i := by
  unfold fillRow lentRow
  by_cases e : i < n
  · simp [e]
  · simp [e, h]
theorem fillRow_step {w : World} {b : Nat} {t : TypeId} {n k : Nat} {f : Nat → Int} (hk : n ≤ k) (h : w.rowIs b t (n + 8) (fillRow n f k)) :
    (w.setCell ⟨b, k, none⟩ (.int .i64 77)).rowIs b t (n + 8) (fillRow n f (k + 1)) := by
  refine (h.set k (.int .i64 77)).congr fun i _ => ?_
  unfold fillRow
  by_cases e : i = k
  · subst e; simp; omega
  · simp only [if_neg e]
    by_cases e1 : i < n
    · simp [e1]
    · by_cases e2 : i < k
      · simp [e2]; omega
      · simp [e1, e2]; omega
theorem fillRow_start {w : World} {b : Nat} {t : TypeId} {n : Nat} {f : Nat → Int}
    (h : w.heap[b]? = some (.cells (splice (List.replicate (n + 8) (Value.int .i64 0)) 0 ((List.range n).map fun i => .int .i64 (f i))).toArray t (0, 0))) :
    w.rowIs b t (n + 8) (fillRow n f n) := by
  refine ⟨_, h, ?_, fun i hi => ?_⟩
  · simp [splice]
  · simp only [splice, List.take_zero, List.nil_append, List.getElem?_toArray, Nat.zero_add, List.length_map, List.length_range]
    unfold fillRow
    by_cases e : i < n
    · rw [List.getElem?_append_left (by simpa using e)]; simp [e]
    · rw [List.getElem?_append_right (by simp; omega)]
      rw [List.drop_replicate, List.getElem?_replicate]
      simp [e]; omega

def lentA (a : Option Addr) (b : Nat) : Option Addr := a.map fun _ => ⟨b, 0, none⟩
def lentC (a : Option Addr) (n : Nat) : Nat := if a.isNone then 0 else n + 8

/-- 'copy' into the new row -/
theorem lend_copy (x : Addr) (n c : Nat) (f : Nat → Int) (w0 w : World) (g : Nat) (hI : IntsAt w (some x) n f)
    (hblk : w.heap[g]? = some (.cells (List.replicate (n + 8) (Value.int .i64 0)).toArray 3 (0, 0))) (hb : Below w0.heap.size w0 w) (hg : w0.heap.size ≤ g) :
    ∃ w2, (∀ ty, (Builtin.copy_ #[28, 28] ty #[.slice (some ⟨g, 0, none⟩) (n + 8) (n + 8), .slice (some x) n c]).run Try.prog w = .ok (goInt n) w2) ∧
      w2.rowIs g 3 (n + 8) (fillRow n f n) ∧ Below w0.heap.size w0 w2 := by
  by_cases h0 : n = 0
  · subst h0
    refine ⟨w, fun ty => ?_, fillRow_start (by simpa [splice] using hblk), hb⟩
    exact run_copy_none (P := Try.prog) w 28 28 ty 3 _ _ _ _ _ _ Try.underlying28 sizeInt (by simp [Nat.min])
  · have hlen : ((List.range n).map fun i => Value.int .i64 (f i)).length = n := by simp
    refine ⟨_, fun ty => ?_, fillRow_start (w := w.setRow g _) (n := n) (f := f) (setRow_heap w g _ _ 3 _ hblk), below_setRow hb hg _⟩
    have h := run_copy_row (P := Try.prog) w 28 28 ty 3 g 0 (n + 8) (n + 8) x n c _ 3 ((List.range n).map fun i => .int .i64 (f i)) Try.underlying28 sizeInt hblk
      (by rw [hlen]; simp [Nat.min])
      (fun j v hj => by
        have hj2 : j < n := by have := (List.getElem?_eq_some_iff.1 hj).1; simpa using this
        obtain ⟨y, hy, hc⟩ := hI j hj2
        cases hy
        rw [hc, ← hj]; simp [hj2])
      (by rw [hlen]; simp) (by intro v hv; obtain ⟨i, _, rfl⟩ := List.mem_map.1 hv; rfl)
    rw [hlen] at h
    rw [h]
    simp [splice]

set_option maxHeartbeats 400000 in
theorem lend_some (x : Addr) (n c : Nat) (f : Nat → Int) (w : World) (hn : n ≤ 17592186044416) (hI : IntsAt w (some x) n f) (hx : 0 < n → x.block < w.heap.size) :
    Calls Try.prog 28 #[.slice (some x) n c] w fun e w' => e = .returned (.slice (some ⟨w.heap.size, 0, none⟩) n (n + 8)) ∧ w'.rowIs w.heap.size 3 (n + 8) (lentRow n f) ∧ Below w.heap.size w w' := by
  have hmk := run_make_row' (P := Try.prog) 28 3 (.int .i64 0) 8 Try.underlying28 infoInt rfl .i64 .i64 (n + 8) (by omega) (by omega)
  have ec : ((n + 8 : Nat) : Int) = (n : Int) + 8 := by omega
  rw [ec] at hmk
  have hb0 : Below w.heap.size w (w.alloc (.cells (madeCells #[.int .i64 0] (n + 8)) 3)) := (Below.refl _ _).alloc (Nat.le_refl _) _
  have hblk : (w.alloc (.cells (madeCells #[.int .i64 0] (n + 8)) 3)).heap[w.heap.size]? = some (.cells (List.replicate (n + 8) (Value.int .i64 0)).toArray 3 (0, 0)) := by
    rw [← toList_madeCells_one]; exact blk_alloc_new _ _
  have hI2 : IntsAt (w.alloc (.cells (madeCells #[.int .i64 0] (n + 8)) 3)) (some x) n f := fun i hi => by
    obtain ⟨y, hy, hc⟩ := hI i hi
    cases hy
    refine ⟨x, rfl, ?_⟩
    rw [hb0.cell (by have := hx (by omega); cases i <;> simpa [Addr.add] using this), hc]
  obtain ⟨w2, hcp, hrow, hbel⟩ := lend_copy x n c f w _ w.heap.size hI2 hblk hb0 (Nat.le_refl _)
  have hnil := fun u : World => Lib.run_eql_slice_nil (P := Try.prog) u 28 3 (some x) n c 0 0 Try.underlying28
  clear hblk hI2 hb0 hI hx ec
  go_enter Try.func28, Try.ntmps28
  go_wp2
  clear hmk hcp hnil
  go_loopw [5] (fun i wr => ∃ k : Nat, n ≤ k ∧ k ≤ n + 8 ∧ i = .int .i64 k ∧ wr.rowIs w.heap.size 3 (n + 8) (fillRow n f k) ∧ Below w.heap.size w wr) (fun i _ => n + 8 - (intOf i).toNat)
  case atStart => exact ⟨n, Nat.le_refl _, by omega, rfl, hrow, hbel⟩
  case round =>
    clear hrow hbel
    obtain ⟨k, hk1, hk2, rfl, hrow, hbel⟩ := hrel
    by_cases hlt : k < n + 8
    · have hc1 := hrow.cell hlt
      have hf1 := hrow.frozen k
      go_wp2
      go_roundw
      case rel => exact ⟨k + 1, by omega, by omega, by go_num, fillRow_step hk1 hrow, hbel.setCell (Nat.le_refl _) _⟩
      case measure => simp [intOf]; omega
    · have e : k = n + 8 := by omega
      subst e
      go_wp2
      go_ret
      exact ⟨rfl, hrow.congr fun i hi => fillRow_full n f i hi, hbel⟩

set_option maxHeartbeats 400000 in
theorem lend_none (w : World) :
    Calls Try.prog 28 #[.slice none 0 0] w fun e w' => e = .returned (.slice none 0 0) ∧ w' = w := by
  have hnil := fun u : World => Lib.run_eql_slice_nil (P := Try.prog) u 28 3 none 0 0 0 0 Try.underlying28
  go_enter Try.func28, Try.ntmps28
  go_wp2
  go_ret
  exact ⟨rfl, rfl⟩

set_option maxHeartbeats 400000 in
theorem whole_some (x : Addr) (n c B : Nat) (f : Nat → Int) (w : World) (hn : n ≤ 17592186044416) (hI : IntsAt w (some x) n f) (hrow : w.rowIs B 3 (n + 8) (lentRow n f)) :
    Calls Try.prog 32 #[.slice (some ⟨B, 0, none⟩) n (n + 8), .slice (some x) n c] w fun e w' => e = .returned (.bool true) ∧ w' = w := by
  have hnil := fun u : World => Lib.run_eql_slice_nil (P := Try.prog) u 28 3 (some x) n c 0 0 Try.underlying28
  have HI : Hid (IntsAt w (some x) n f) := hI
  clear hI
  go_enter Try.func32, Try.ntmps32
  go_wp2
  clear hnil
  go_loop [7, 8] (fun i _ => ∃ k : Nat, k ≤ n + 8 ∧ i = .int .i64 k) (fun i _ => n + 8 - (intOf i).toNat)
  case atStart => exact ⟨0, Nat.zero_le _, rfl⟩
  case round =>
    obtain ⟨k, hk, rfl⟩ := hrel
    by_cases hlt : k < n + 8
    · by_cases hkn : k < n
      · obtain ⟨b, off, hx, hc⟩ := HI.out.open (by omega)
        cases hx
        have hc1 := hc k hkn
        have hc2 := hrow.cell hlt
        unfold lentRow at hc2
        rw [if_pos hkn] at hc2
        clear hc
        go_wp2
        go_round
        case rel => exact ⟨k + 1, by omega, by go_num⟩
        case measure => simp [intOf]; omega
      · have hc2 := hrow.cell hlt
        unfold lentRow at hc2
        rw [if_neg hkn] at hc2
        go_wp2
        go_round
        case rel => exact ⟨k + 1, by omega, by go_num⟩
        case measure => simp [intOf]; omega
    · go_wp2
      go_ret
      exact ⟨rfl, rfl⟩

set_option maxHeartbeats 400000 in
theorem whole_none (v : Value) (w : World) :
    Calls Try.prog 32 #[v, .slice none 0 0] w fun e w' => e = .returned (.bool true) ∧ w' = w := by
  have hnil := fun u : World => Lib.run_eql_slice_nil (P := Try.prog) u 28 3 none 0 0 0 0 Try.underlying28
  go_enter Try.func32, Try.ntmps32
  go_wp2
  go_ret
  exact ⟨rfl, rfl⟩

/-- the row while it is written over -/
def overRow (g : Nat → Value) (v : Int) (k i : Nat) : Value := if i < k then .int .i64 v else g i
theorem overRow_step {w : World} {b : Nat} {t : TypeId} {n k : Nat} {g : Nat → Value} {v : Int} (h : w.rowIs b t n (overRow g v k)) :
    (w.setCell ⟨b, k, none⟩ (.int .i64 v)).rowIs b t n (overRow g v (k + 1)) := by
  refine (h.set k (.int .i64 v)).congr fun i _ => ?_
  unfold overRow
  by_cases e : i = k
  · subst e; simp
  · simp only [if_neg e]
    by_cases e2 : i < k
    · rw [if_pos e2, if_pos (by omega)]
    · rw [if_neg e2, if_neg (by omega)]

/-- only one block has turned -/
structure Only (b : Nat) (w w' : World) : Prop where
  os : w'.os = w.os
  tape : w'.tape = w.tape
  output : w'.output = w.output
  size : w'.heap.size = w.heap.size
  block : ∀ k, k ≠ b → w'.heap[k]? = w.heap[k]?
theorem Only.refl (b : Nat) (w : World) : Only b w w := ⟨rfl, rfl, rfl, rfl, fun _ _ => rfl⟩
theorem Only.set {b : Nat} {w w' : World} (h : Only b w w') (i : Nat) (v : Value) : Only b w (w'.setCell ⟨b, i, none⟩ v) :=
  ⟨h.os, h.tape, h.output, by rw [World.size_setCell]; exact h.size, fun k hk => (blk_setCell_other _ _ _ _ (by simpa using hk)).trans (h.block k hk)⟩
theorem Only.below {b B : Nat} {w w' : World} (h : Only b w w') (hb : B ≤ b) : Below B w w' :=
  ⟨h.os, h.tape, h.output, Nat.le_of_eq h.size.symm, fun k hk => h.block k (by omega)⟩
theorem Only.row {b : Nat} {w w' : World} (h : Only b w w') {c : Nat} {t : TypeId} {n : Nat} {f : Nat → Value} (hr : w.rowIs c t n f) (hc : c ≠ b) : w'.rowIs c t n f :=
  hr.of_block (h.block c hc)

set_option maxHeartbeats 400000 in
theorem shows_yes (a : Option Addr) (n c : Nat) (v : Int) (w : World) (hn : n ≤ 17592186044416) (hI : IntsAt w a n (fun _ => v)) :
    Calls Try.prog 31 #[.slice a n c, .int .i64 n, .int .i64 v] w fun e w' => e = .returned (.bool true) ∧ w' = w := by
  have HI : Hid (IntsAt w a n (fun _ => v)) := hI
  clear hI
  go_enter Try.func31, Try.ntmps31
  go_wp2
  go_loop [7] (fun i => ∃ k : Nat, k ≤ n ∧ i = .int .i64 k) (fun i => n - (intOf i).toNat)
  case atStart => exact ⟨0, Nat.zero_le _, rfl⟩
  case round =>
    obtain ⟨k, hk, rfl⟩ := hrel
    by_cases hlt : k < n
    · obtain ⟨b, off, hx, hc⟩ := HI.out.open (by omega)
      cases hx
      have hc1 := hc k hlt
      clear hc
      go_wp2
      go_round
      case rel => exact ⟨k + 1, by omega, by go_num⟩
      case measure => simp [intOf]; omega
    · go_wp2
      go_ret
      exact ⟨rfl, rfl⟩

end Go.Proofs.Ytlncjgnomhpjnaa
