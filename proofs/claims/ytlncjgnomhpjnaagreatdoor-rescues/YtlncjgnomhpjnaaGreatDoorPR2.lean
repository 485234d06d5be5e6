import Derived.Test.YtlncjgnomhpjnaaGreatDoorPR1
import Derived.Deep.OwnRows
import Derived.Laws.CopyOwn
import Derived.Test.YtlncjgnomhpjnaaGreatDoorRows
import Derived.Lib.LaidTab
import GoSem.ClaimJoined
import Derived.Lib.Builder
import Derived.Lib.FrozenHead2
import Derived.Lib.OthersKept
/-
  The lists that are lent: 'lend', 'whole', 'spoil', 'shows'.
-/
namespace Go.Proofs.YtlncjgnomhpjnaaGreatDoor
open Go.RowKit Go.Deep
theorem infoInt : (Tryz.prog.info? 3).map (fun i => (i.zero, i.size, i.bytes)) = some (some (.int .i64 0), 1, 8) := by kernel_rfl
theorem sizeInt : (Tryz.prog.info? 3).map (·.size) = some 1 := by kernel_rfl
/-- what a slice of numbers holds -/
def IntsAt (w : World) (a : Option Addr) (n : Nat) (f : Nat → Int) : Prop := ∀ i, i < n → ∃ x, a = some x ∧ w.cell? (x.add i) = some (.int .i64 (f i))
theorem IntsAt.open {w : World} {a : Option Addr} {n : Nat} {f : Nat → Int} (h : IntsAt w a n f) (hn : 0 < n) :
    ∃ b off, a = some ⟨b, off, none⟩ ∧ ∀ i, i < n → w.cell? ⟨b, off + i, none⟩ = some (.int .i64 (f i)) := by
  obtain ⟨⟨b, off, sp⟩, rfl, hc⟩ := h 0 hn
  have hs : sp = none := by simpa [Addr.add] using World.cell?_spot hc
  subst hs
  refine ⟨b, off, rfl, fun i hi => ?_⟩
  obtain ⟨x, hx, hc⟩ := h i hi
  cases hx
  rw [← hc]
  cases i <;> simp [Addr.add]
/-- the row that is lent -/
def lentRow (n : Nat) (f : Nat → Int) (i : Nat) : Value := .int .i64 (if i < n then f i else 77)
/-- the row while it is filled -/
def fillRow (n : Nat) (f : Nat → Int) (k i : Nat) : Value := .int .i64 (if i < n then f i else if i < k then 77 else 0)
theorem fillRow_full (n : Nat) (f : Nat → Int) (i : Nat) (h : i < n + 8) : fillRow n f (n + 8) i = lentRow n f i := by
  unfold fillRow lentRow
  by_cases e : i < n
  · simp [e]
  · simp [e, h]
theorem fillRow_step {w : World} {b : Nat} {t : TypeId} {n k : Nat} {f : Nat → Int} (hk : n ≤ k) (h : w.rowIs b t (n + 8) (fillRow n f k)) :
    (w.setCell ⟨b, k, none⟩ (.int .i64 77)).rowIs b t (n + 8) (fillRow n f (k + 1)) := by
  refine (h.set k (.int .i64 77)).congr fun i _ => ?_
  unfold fillRow
  by_cases e : i = k
  · subst e; simp; omega
  · simp only [if_neg e]
    by_cases e1 : i < n
    · simp [e1]
    · by_cases e2 : i < k
      · simp [e2]; omega
      · simp [e1, e2]; omega
theorem fillRow_start {w : World} {b : Nat} {t : TypeId} {n : Nat} {f : Nat → Int}
    (h : w.heap[b]? = some (.cells (splice (List.replicate (n + 8) (Value.int .i64 0)) 0 ((List.range n).map fun i => .int .i64 (f i))).toArray t (0, 0))) :
    w.rowIs b t (n + 8) (fillRow n f n) := by
  refine ⟨_, h, ?_, fun i hi => ?_⟩
  · simp [splice]
  · simp only [splice, List.take_zero, List.nil_append, List.getElem?_toArray, Nat.zero_add, List.length_map, List.length_range]
    unfold fillRow
    by_cases e : i < n
    · rw [List.getElem?_append_left (by simpa using e)]; simp [e]
    · rw [List.getElem?_append_right (by simp; omega)]
      rw [List.drop_replicate, List.getElem?_replicate]
      simp [e]; omega
/-- 'copy' into the new row -/
theorem lend_copy (x : Addr) (n c : Nat) (f : Nat → Int) (w0 w : World) (g : Nat) (hI : IntsAt w (some x) n f)
    (hblk : w.heap[g]? = some (.cells (List.replicate (n + 8) (Value.int .i64 0)).toArray 3 (0, 0))) (hb : Below w0.heap.size w0 w) (hg : w0.heap.size ≤ g) :
    ∃ w2, (∀ ty, (Builtin.copy_ #[29, 29] ty #[.slice (some ⟨g, 0, none⟩) (n + 8) (n + 8), .slice (some x) n c]).run Tryz.prog w = .ok (goInt n) w2) ∧
      w2.rowIs g 3 (n + 8) (fillRow n f n) ∧ Below w0.heap.size w0 w2 := by
  by_cases h0 : n = 0
  · subst h0
    refine ⟨w, fun ty => ?_, fillRow_start (by simpa [splice] using hblk), hb⟩
    exact run_copy_none (P := Tryz.prog) w 29 29 ty 3 _ _ _ _ _ _ Tryz.underlying29 sizeInt (by simp [Nat.min])
  · have hlen : ((List.range n).map fun i => Value.int .i64 (f i)).length = n := by simp
    refine ⟨_, fun ty => ?_, fillRow_start (w := w.setRow g _) (n := n) (f := f) (setRow_heap w g _ _ 3 _ hblk), below_setRow hb hg _⟩
    have h := run_copy_row (P := Tryz.prog) w 29 29 ty 3 g 0 (n + 8) (n + 8) x n c _ 3 ((List.range n).map fun i => .int .i64 (f i)) Tryz.underlying29 sizeInt hblk
      (by rw [hlen]; simp [Nat.min])
      (fun j v hj => by
        have hj2 : j < n := by have := (List.getElem?_eq_some_iff.1 hj).1; simpa using this
        obtain ⟨y, hy, hc⟩ := hI j hj2
        cases hy
        rw [hc, ← hj]; simp [hj2])
      (by rw [hlen]; simp) (by intro v hv; obtain ⟨i, _, rfl⟩ := List.mem_map.1 hv; rfl)
    rw [hlen] at h
    rw [h]
    simp [splice]
set_option maxHeartbeats 400000 in
theorem lend_some (x : Addr) (n c : Nat) (f : Nat → Int) (w : World) (hn : n ≤ 17592186044416) (hI : IntsAt w (some x) n f) (hx : 0 < n → x.block < w.heap.size) :
    Calls Tryz.prog 68 #[.slice (some x) n c] w fun e w' => e = .returned (.slice (some ⟨w.heap.size, 0, none⟩) n (n + 8)) ∧ w'.rowIs w.heap.size 3 (n + 8) (lentRow n f) ∧ Below w.heap.size w w' := by
  have hmk := run_make_row' (P := Tryz.prog) 29 3 (.int .i64 0) 8 Tryz.underlying29 infoInt rfl .i64 .i64 (n + 8) (by omega) (by omega)
  have ec : ((n + 8 : Nat) : Int) = (n : Int) + 8 := by omega
  rw [ec] at hmk
  have hb0 : Below w.heap.size w (w.alloc (.cells (madeCells #[.int .i64 0] (n + 8)) 3)) := (Below.refl _ _).alloc (Nat.le_refl _) _
  have hblk : (w.alloc (.cells (madeCells #[.int .i64 0] (n + 8)) 3)).heap[w.heap.size]? = some (.cells (List.replicate (n + 8) (Value.int .i64 0)).toArray 3 (0, 0)) := by
    rw [← toList_madeCells_one]; exact blk_alloc_new _ _
  have hI2 : IntsAt (w.alloc (.cells (madeCells #[.int .i64 0] (n + 8)) 3)) (some x) n f := fun i hi => by
    obtain ⟨y, hy, hc⟩ := hI i hi
    cases hy
    refine ⟨x, rfl, ?_⟩
    rw [hb0.cell (by have := hx (by omega); cases i <;> simpa [Addr.add] using this), hc]
  obtain ⟨w2, hcp, hrow, hbel⟩ := lend_copy x n c f w _ w.heap.size hI2 hblk hb0 (Nat.le_refl _)
  have hnil := fun u : World => Lib.run_eql_slice_nil (P := Tryz.prog) u 29 3 (some x) n c 0 0 Tryz.underlying29
  clear hblk hI2 hb0 hI hx ec
  go_enter Tryz.func68, Tryz.ntmps68
  go_wp2
  clear hmk hcp hnil
  go_loopw [5] (fun i wr => ∃ k : Nat, n ≤ k ∧ k ≤ n + 8 ∧ i = .int .i64 k ∧ wr.rowIs w.heap.size 3 (n + 8) (fillRow n f k) ∧ Below w.heap.size w wr) (fun i _ => n + 8 - (intOf i).toNat)
  case atStart => exact ⟨n, Nat.le_refl _, by omega, rfl, hrow, hbel⟩
  case round =>
    clear hrow hbel
    obtain ⟨k, hk1, hk2, rfl, hrow, hbel⟩ := hrel
    by_cases hlt : k < n + 8
    · have hc1 := hrow.cell hlt
      have hf1 := hrow.frozen k
      go_wp2
      go_roundw
      case rel => exact ⟨k + 1, by omega, by omega, by go_num, fillRow_step hk1 hrow, hbel.setCell (Nat.le_refl _) _⟩
      case measure => simp [intOf]; omega
    · have e : k = n + 8 := by omega
      subst e
      go_wp2
      go_ret
      exact ⟨rfl, hrow.congr fun i hi => fillRow_full n f i hi, hbel⟩
set_option maxHeartbeats 400000 in
theorem whole_some (x : Addr) (n c B : Nat) (f : Nat → Int) (w : World) (hn : n ≤ 17592186044416) (hI : IntsAt w (some x) n f) (hrow : w.rowIs B 3 (n + 8) (lentRow n f)) :
    Calls Tryz.prog 72 #[.slice (some ⟨B, 0, none⟩) n (n + 8), .slice (some x) n c] w fun e w' => e = .returned (.bool true) ∧ w' = w := by
  have hnil := fun u : World => Lib.run_eql_slice_nil (P := Tryz.prog) u 29 3 (some x) n c 0 0 Tryz.underlying29
  have HI : Hid (IntsAt w (some x) n f) := hI
  clear hI
  go_enter Tryz.func72, Tryz.ntmps72
  go_wp2
  clear hnil
  go_loop [7, 8] (fun i _ => ∃ k : Nat, k ≤ n + 8 ∧ i = .int .i64 k) (fun i _ => n + 8 - (intOf i).toNat)
  case atStart => exact ⟨0, Nat.zero_le _, rfl⟩
  case round =>
    obtain ⟨k, hk, rfl⟩ := hrel
    by_cases hlt : k < n + 8
    · by_cases hkn : k < n
      · obtain ⟨b, off, hx, hc⟩ := HI.out.open (by omega)
        cases hx
        have hc1 := hc k hkn
        have hc2 := hrow.cell hlt
        unfold lentRow at hc2
        rw [if_pos hkn] at hc2
        clear hc
        go_wp2
        go_round
        case rel => exact ⟨k + 1, by omega, by go_num⟩
        case measure => simp [intOf]; omega
      · have hc2 := hrow.cell hlt
        unfold lentRow at hc2
        rw [if_neg hkn] at hc2
        go_wp2
        go_round
        case rel => exact ⟨k + 1, by omega, by go_num⟩
        case measure => simp [intOf]; omega
    · go_wp2
      go_ret
      exact ⟨rfl, rfl⟩
set_option maxHeartbeats 400000 in
theorem shows_yes (a : Option Addr) (n c : Nat) (v : Int) (w : World) (hn : n ≤ 17592186044416) (hI : IntsAt w a n (fun _ => v)) :
    Calls Tryz.prog 46 #[.slice a n c, .int .i64 n, .int .i64 v] w fun e w' => e = .returned (.bool true) ∧ w' = w := by
  have HI : Hid (IntsAt w a n (fun _ => v)) := hI
  clear hI
  go_enter Tryz.func46, Tryz.ntmps46
  go_wp2
  go_loop [7] (fun i => ∃ k : Nat, k ≤ n ∧ i = .int .i64 k) (fun i => n - (intOf i).toNat)
  case atStart => exact ⟨0, Nat.zero_le _, rfl⟩
  case round =>
    obtain ⟨k, hk, rfl⟩ := hrel
    by_cases hlt : k < n
    · obtain ⟨b, off, hx, hc⟩ := HI.out.open (by omega)
      cases hx
      have hc1 := hc k hlt
      clear hc
      go_wp2
      go_round
      case rel => exact ⟨k + 1, by omega, by go_num⟩
      case measure => simp [intOf]; omega
    · go_wp2
      go_ret
      exact ⟨rfl, rfl⟩
end Go.Proofs.YtlncjgnomhpjnaaGreatDoor

/-
  Guesses of the program: subframe.guesser.
-/
namespace Go.Proofs.YtlncjgnomhpjnaaGreatDoor
open Go.RowKit Go.Deep
set_option linter.unusedVariables false
def sel4 (w0 w1 w2 w3 : Int) (j : Nat) : Int := if j = 0 then w0 else if j = 1 then w1 else if j = 2 then w2 else if j = 3 then w3 else 0
theorem sel4_cell (o sc w0 w1 w2 w3 : Int) (w : World) (t : TypeId) (i : Nat) (hi : i < 4) :
    (w.alloc (.cells #[.int .i64 o, .int .i64 w0, .int .i64 w1, .int .i64 w2, .int .i64 w3, .int .i64 sc] t)).cell? ⟨w.heap.size, 1 + i, none⟩ = some (.int .i64 (sel4 w0 w1 w2 w3 i)) := by
  rw [World.cell?_alloc_new]
  match i, hi with
  | 0, _ => rfl
  | 1, _ => rfl
  | 2, _ => rfl
  | 3, _ => rfl
theorem sel4_bd {w0 w1 w2 w3 : Int} (h0 : -32 ≤ w0 ∧ w0 ≤ 32) (h1 : -32 ≤ w1 ∧ w1 ≤ 32) (h2 : -32 ≤ w2 ∧ w2 ≤ 32) (h3 : -32 ≤ w3 ∧ w3 ≤ 32) (j : Nat) : -32 ≤ sel4 w0 w1 w2 w3 j ∧ sel4 w0 w1 w2 w3 j ≤ 32 := by
  unfold sel4
  split
  · exact h0
  · split
    · exact h1
    · split
      · exact h2
      · split
        · exact h3
        · omega
theorem mul_bd {u v : Int} (hu : -32 ≤ u ∧ u ≤ 32) (hv : -4096 ≤ v ∧ v ≤ 4096) : -131072 ≤ u * v ∧ u * v ≤ 131072 := by
  have h := Int.natAbs_mul u v
  have h1 : u.natAbs ≤ 32 := by omega
  have h2 : v.natAbs ≤ 4096 := by omega
  have h3 : u.natAbs * v.natAbs ≤ 32 * 4096 := Nat.mul_le_mul h1 h2
  omega
theorem sumG_bd {w x : Nat → Int} {i : Nat} (hw : ∀ j, -32 ≤ w j ∧ w j ≤ 32) (hx : ∀ j, j < i → -4096 ≤ x j ∧ x j ≤ 4096) (hi : 0 < i) : ∀ m : Nat, -131072 * (m : Int) ≤ sumG w x i m ∧ sumG w x i m ≤ 131072 * (m : Int)
  | 0 => by simp [sumG]
  | m + 1 => by
    have := sumG_bd hw hx hi m
    have h := mul_bd (hw m) (hx (i - 1 - m) (by omega))
    simp only [sumG]
    omega
set_option maxHeartbeats 1000000 in
theorem guess_any (o sc : Nat) (w0 w1 w2 w3 : Int) (a : Option Addr) (n c : Nat) (x : Nat → Int) (w : World) (ho : o ≤ 4) (hon : o ≤ n) (hsc : sc ≤ 3) (hn : n ≤ 32)
    (k0 : -32 ≤ w0 ∧ w0 ≤ 32) (k1 : -32 ≤ w1 ∧ w1 ≤ 32) (k2 : -32 ≤ w2 ∧ w2 ≤ 32) (k3 : -32 ≤ w3 ∧ w3 ≤ 32) (hX : ∀ j, j < n → -4096 ≤ x j ∧ x j ≤ 4096)
    (hI : IntsAt w a n x) (hlow : ∀ y, a = some y → 0 < n → y.block < w.heap.size) :
    Calls Tryz.prog 213 #[.agg #[.int .i64 o, .int .i64 w0, .int .i64 w1, .int .i64 w2, .int .i64 w3, .int .i64 sc], .slice a n c] w fun e w' =>
      e = .returned (.int .i64 (sumG (sel4 w0 w1 w2 w3) x n o / 2 ^ sc)) ∧ Below w.heap.size w w' := by
  obtain ⟨W, hWe⟩ : ∃ W, W = w.alloc (.cells #[.int .i64 o, .int .i64 w0, .int .i64 w1, .int .i64 w2, .int .i64 w3, .int .i64 sc] 201) := ⟨_, rfl⟩
  have hb : Below w.heap.size w W := by rw [hWe]; exact (Below.refl _ _).alloc (Nat.le_refl _) _
  have HB : Hid (∀ m, Below w.heap.size w (World.drewN (w.alloc (.cells #[.int .i64 o, .int .i64 w0, .int .i64 w1, .int .i64 w2, .int .i64 w3, .int .i64 sc] 201)) m)) := fun m => by
    rw [← hWe]; exact ⟨hb.os, hb.tape, hb.output, hb.size, hb.block⟩
  have HI : Hid (IntsAt (w.alloc (.cells #[.int .i64 o, .int .i64 w0, .int .i64 w1, .int .i64 w2, .int .i64 w3, .int .i64 sc] 201)) a n x) := by
    intro i hi
    obtain ⟨y, hy, hc⟩ := hI i hi
    refine ⟨y, hy, ?_⟩
    rw [← hWe, hb.cell (by have := hlow y hy (by omega); cases i <;> simpa [Addr.add] using this), hc]
  clear hWe hb hI hlow
  have HS := sumG_bd (w := sel4 w0 w1 w2 w3) (x := x) (i := n) (sel4_bd k0 k1 k2 k3)
  have HX : Hid (∀ j, j < n → -4096 ≤ x j ∧ x j ≤ 4096) := hX
  have HM : Hid (∀ j, -32 ≤ sel4 w0 w1 w2 w3 j ∧ sel4 w0 w1 w2 w3 j ≤ 32) := sel4_bd k0 k1 k2 k3
  clear hX k0 k1 k2 k3
  have hHS : Hid _ := HS
  clear HS
  go_enter Tryz.func213, Tryz.ntmps213
  go_wp2
  go_loopw [5, 6, 9] (fun v _ i wr => ∃ j : Nat, j ≤ o ∧ i = .int .i64 j ∧ v = .int .i64 (sumG (sel4 w0 w1 w2 w3) x n j) ∧ ∃ m, wr = World.drewN (w.alloc (.cells #[.int .i64 o, .int .i64 w0, .int .i64 w1, .int .i64 w2, .int .i64 w3, .int .i64 sc] 201)) m) (fun _ _ i _ => o - (intOf i).toNat)
  case atStart => exact ⟨0, Nat.zero_le _, rfl, rfl, 0, rfl⟩
  case round =>
    obtain ⟨j, hj, rfl, rfl, m, rfl⟩ := hrel
    by_cases hlt : j < o
    · obtain ⟨b, off, hx, hc⟩ := HI.out.open (by omega)
      cases hx
      have hc1 := hc (n - 1 - j) (by omega)
      have hc2 := sel4_cell (o : Int) (sc : Int) w0 w1 w2 w3 w 201 j (by omega)
      have hmb := mul_bd (HM.out j) (HX.out (n - 1 - j) (by omega))
      have hsb := hHS.out HX.out (by omega) j
      have HE : Hid (sumG (sel4 w0 w1 w2 w3) x n (j + 1) = sumG (sel4 w0 w1 w2 w3) x n j + sel4 w0 w1 w2 w3 j * x (n - 1 - j)) := rfl
      clear hc
      go_wp2
      go_region
      all_goals go_wp2
      go_roundw
      case rel => exact ⟨j + 1, by omega, by go_num, by rw [HE.out], _, rfl⟩
      case measure => simp [intOf]; omega
    · have e : j = o := by omega
      subst e
      go_wp2
      go_ret
      exact ⟨ret_int rfl, HB.out _⟩
end Go.Proofs.YtlncjgnomhpjnaaGreatDoor

/-
  Small parts of subframe.Read.
-/
namespace Go.Proofs.YtlncjgnomhpjnaaGreatDoor
open Go.RowKit Go.Deep
set_option linter.unusedVariables false
theorem ret_bool {a b : Bool} (h : a = b) : Ending.returned (.bool a) = .returned (.bool b) := by rw [h]
/-- the call answers whether p is so -/
def Says (e : Ending) (p : Prop) : Prop := ∃ b : Bool, e = .returned (.bool b) ∧ (b = true ↔ p)
theorem Says.yes {p : Prop} (h : p) : Says (.returned (.bool true)) p := ⟨true, rfl, by simp [h]⟩
theorem Says.no {p : Prop} (h : ¬ p) : Says (.returned (.bool false)) p := ⟨false, rfl, by simp [h]⟩
theorem Says.true_of {e : Ending} {p : Prop} (h : Says e p) (hp : p) : e = .returned (.bool true) := by
  obtain ⟨b, rfl, hb⟩ := h
  rw [hb.2 hp]
theorem Says.false_of {e : Ending} {p : Prop} (h : Says e p) (hp : ¬ p) : e = .returned (.bool false) := by
  obtain ⟨b, rfl, hb⟩ := h
  cases b
  · rfl
  · exact absurd (hb.1 rfl) hp
theorem within_any (v lo hi : Int) (w : World) :
    Calls Tryz.prog 62 #[.int .i64 v, .int .i64 lo, .int .i64 hi] w fun e w' => e = .returned (.bool (within v lo hi)) ∧ w' = w := by
  by_cases h : lo ≤ v
  · go_enter Tryz.func62, Tryz.ntmps62
    go_wp2
    go_ret
    exact ⟨ret_bool (by simp [within, h]), rfl⟩
  · have hd : decide (lo ≤ v) = false := decide_eq_false h
    go_enter Tryz.func62, Tryz.ntmps62
    go_wp2
    go_ret
    exact ⟨ret_bool (by simp [within]; omega), rfl⟩
set_option maxHeartbeats 400000 in
theorem isSample_any (d : Nat) (v : Int) (w : World) (h1 : 1 ≤ d) (h2 : d ≤ 13) :
    Calls Tryz.prog 120 #[.int .i64 d, .int .i64 v] w fun e w' => e = .returned (.bool (fitsB d v)) ∧ w' = w := by
  have hp1 := ipow_pos (d - 1)
  have hp2 := ipow_le (d - 1) 4096 (Nat.le_trans (Nat.pow_le_pow_right (by omega) (by omega : d - 1 ≤ 12)) (by decide))
  go_enter Tryz.func120, Tryz.ntmps120
  go_wp2_with (go_at_call 62; refine (within_any _ _ _ _).mono ?_; rintro e w' ⟨rfl, rfl⟩)
  go_ret
  exact ⟨rfl, rfl⟩
theorem orderOf_any (kind : Nat) (w : World) (h : 2 ≤ kind) (h7 : kind ≤ 7) :
    Calls Tryz.prog 199 #[.int .i64 kind] w fun e w' => e = .returned (.int .i64 (ord kind)) ∧ w' = w := by
  have HO : Hid (ord kind = if kind = 7 then 2 else kind - 2) := rfl
  by_cases e : kind = 7
  · have h1 : ((kind : Int) == 7) = true := by simp; omega
    go_enter Tryz.func199, Tryz.ntmps199
    go_wp2
    go_ret
    exact ⟨ret_int (by rw [HO.out, if_pos e]; rfl), rfl⟩
  · have h1 : ((kind : Int) == 7) = false := by simp; omega
    go_enter Tryz.func199, Tryz.ntmps199
    go_wp2
    go_ret
    exact ⟨ret_int (by rw [HO.out, if_neg e]; omega), rfl⟩
/-- whether n places may be cut so -/
def cutB (n o c : Nat) : Bool := decide (n / 2 ^ c * 2 ^ c = n) && decide (o < n / 2 ^ c)
set_option maxHeartbeats 400000 in
theorem partSize_any (n o c : Nat) (w : World) (hn : n ≤ 32) (ho : o ≤ 4) (hc : c ≤ 3) :
    Calls Tryz.prog 223 #[.int .i64 n, .int .i64 o, .int .i64 c] w fun e w' => e = .returned (.tuple #[.int .i64 ((n / 2 ^ c : Nat) : Int), .bool (cutB n o c)]) ∧ w' = w := by
  have HC : Hid (∀ c, cutB n o c = (decide (n / 2 ^ c * 2 ^ c = n) && decide (o < n / 2 ^ c))) := fun _ => rfl
  have e2 : ((n / 2 ^ c : Nat) : Int) = (n : Int) / 2 ^ c := by simp
  have hd1 : 0 ≤ (n : Int) / 2 ^ c := by rw [← e2]; exact Int.natCast_nonneg _
  have hd2 : (n : Int) / 2 ^ c ≤ 32 := by rw [← e2]; have := Nat.div_le_self n (2 ^ c); omega
  have hp1 := ipow_pos c
  have hp2 := ipow_le c 8 (Nat.le_trans (Nat.pow_le_pow_right (by omega) (by omega : c ≤ 3)) (by decide))
  have hm1 : 0 ≤ (n : Int) / 2 ^ c * 2 ^ c := Int.mul_nonneg hd1 (by omega)
  have hm2 : (n : Int) / 2 ^ c * 2 ^ c ≤ 256 := by
    have : (n : Int) / 2 ^ c * 2 ^ c ≤ 32 * 8 := Int.mul_le_mul hd2 hp2 (by omega) (by omega)
    omega
  have e3 : ((n / 2 ^ c * 2 ^ c : Nat) : Int) = (n : Int) / 2 ^ c * 2 ^ c := by simp
  have HE2 : Hid (((n / 2 ^ c : Nat) : Int) = (n : Int) / 2 ^ c) := e2
  by_cases h : n / 2 ^ c * 2 ^ c = n
  · have ht : ((n : Int) / 2 ^ c * 2 ^ c == (n : Int)) = true := by rw [← e3]; simp; omega
    have HH : Hid (n / 2 ^ c * 2 ^ c = n) := h
    clear h e2 e3
    go_enter Tryz.func223, Tryz.ntmps223
    go_wp2
    go_ret2
    refine ⟨?_, rfl⟩
    rw [HC.out, HE2.out]
    have h1 : decide (n / 2 ^ c * 2 ^ c = n) = true := decide_eq_true HH.out
    have h2 : decide (o < n / 2 ^ c) = decide ((o : Int) < (n : Int) / 2 ^ c) := by rw [decide_eq_decide, ← HE2.out]; omega
    rw [h1, h2]; rfl
  · have ht : ((n : Int) / 2 ^ c * 2 ^ c == (n : Int)) = false := by rw [← e3]; simp; omega
    have HH : Hid (¬ n / 2 ^ c * 2 ^ c = n) := h
    clear h e2 e3
    go_enter Tryz.func223, Tryz.ntmps223
    go_wp2
    go_ret2
    refine ⟨?_, rfl⟩
    rw [HC.out, HE2.out]
    have h1 : decide (n / 2 ^ c * 2 ^ c = n) = false := decide_eq_false HH.out
    rw [h1]; rfl
/-- the table of weights, as it is laid -/
def TabAt (w : World) (g : Nat) : Prop := ∀ r c, r < 5 → c < 4 → w.cell? ⟨g, 4 * r + c, none⟩ = some (.int .i64 (tab r c))
/-- the guesser of a kind -/
def gV (kind : Nat) (a c : Int) : Value := .agg #[.int .i64 (ord kind), .int .i64 (wt kind a c 0), .int .i64 (wt kind a c 1), .int .i64 (wt kind a c 2), .int .i64 (wt kind a c 3), .int .i64 (scl kind : Int)]
set_option maxHeartbeats 1000000 in
theorem fixed_any (kind : Nat) (a c : Int) (w : World) (h2 : 2 ≤ kind) (h6 : kind ≤ 6) (hT : TabAt w 7) (hg : 7 < w.heap.size) :
    Calls Tryz.prog 216 #[.int .i64 kind] w fun e w' => e = .returned (gV kind a c) ∧ Below w.heap.size w w' := by
  have fin : ∀ o v, Below w.heap.size w ((w.alloc o).setCell ⟨w.heap.size, 0, none⟩ v) := fun o v => ((Below.refl _ _).alloc (Nat.le_refl _) _).setCell (Nat.le_refl _) _
  have hal : ∀ o j, (w.alloc o).cell? ⟨7, j, none⟩ = w.cell? ⟨7, j, none⟩ := fun o j => World.cell?_alloc_lt w o ⟨7, j, none⟩ hg
  obtain rfl | rfl | rfl | rfl | rfl : kind = 2 ∨ kind = 3 ∨ kind = 4 ∨ kind = 5 ∨ kind = 6 := by omega
  · have t0 : w.cell? ⟨7, 0, none⟩ = some (.int .i64 0) := hT 0 0 (by omega) (by omega)
    have t1 : w.cell? ⟨7, 1, none⟩ = some (.int .i64 0) := hT 0 1 (by omega) (by omega)
    have t2 : w.cell? ⟨7, 2, none⟩ = some (.int .i64 0) := hT 0 2 (by omega) (by omega)
    have t3 : w.cell? ⟨7, 3, none⟩ = some (.int .i64 0) := hT 0 3 (by omega) (by omega)
    clear hT
    go_enter Tryz.func216, Tryz.ntmps216
    go_wp2
    refine bodyPost_ret (v := gV 2 a c) (by simp [results, Tryz.results216, go_sem, gV, ord, wt, tab, scl]) rfl ⟨rfl, ?_⟩
    exact ((Below.refl _ _).alloc (Nat.le_refl _) _)
  · have t0 : w.cell? ⟨7, 4, none⟩ = some (.int .i64 1) := hT 1 0 (by omega) (by omega)
    have t1 : w.cell? ⟨7, 5, none⟩ = some (.int .i64 0) := hT 1 1 (by omega) (by omega)
    have t2 : w.cell? ⟨7, 6, none⟩ = some (.int .i64 0) := hT 1 2 (by omega) (by omega)
    have t3 : w.cell? ⟨7, 7, none⟩ = some (.int .i64 0) := hT 1 3 (by omega) (by omega)
    clear hT
    go_enter Tryz.func216, Tryz.ntmps216
    go_wp2
    refine bodyPost_ret (v := gV 3 a c) (by simp [results, Tryz.results216, go_sem, gV, ord, wt, tab, scl]) rfl ⟨rfl, ?_⟩
    exact ((Below.refl _ _).alloc (Nat.le_refl _) _)
  · have t0 : w.cell? ⟨7, 8, none⟩ = some (.int .i64 2) := hT 2 0 (by omega) (by omega)
    have t1 : w.cell? ⟨7, 9, none⟩ = some (.int .i64 (-1)) := hT 2 1 (by omega) (by omega)
    have t2 : w.cell? ⟨7, 10, none⟩ = some (.int .i64 0) := hT 2 2 (by omega) (by omega)
    have t3 : w.cell? ⟨7, 11, none⟩ = some (.int .i64 0) := hT 2 3 (by omega) (by omega)
    clear hT
    go_enter Tryz.func216, Tryz.ntmps216
    go_wp2
    refine bodyPost_ret (v := gV 4 a c) (by simp [results, Tryz.results216, go_sem, gV, ord, wt, tab, scl]) rfl ⟨rfl, ?_⟩
    exact ((Below.refl _ _).alloc (Nat.le_refl _) _)
  · have t0 : w.cell? ⟨7, 12, none⟩ = some (.int .i64 3) := hT 3 0 (by omega) (by omega)
    have t1 : w.cell? ⟨7, 13, none⟩ = some (.int .i64 (-3)) := hT 3 1 (by omega) (by omega)
    have t2 : w.cell? ⟨7, 14, none⟩ = some (.int .i64 1) := hT 3 2 (by omega) (by omega)
    have t3 : w.cell? ⟨7, 15, none⟩ = some (.int .i64 0) := hT 3 3 (by omega) (by omega)
    clear hT
    go_enter Tryz.func216, Tryz.ntmps216
    go_wp2
    refine bodyPost_ret (v := gV 5 a c) (by simp [results, Tryz.results216, go_sem, gV, ord, wt, tab, scl]) rfl ⟨rfl, ?_⟩
    exact ((Below.refl _ _).alloc (Nat.le_refl _) _)
  · have t0 : w.cell? ⟨7, 16, none⟩ = some (.int .i64 4) := hT 4 0 (by omega) (by omega)
    have t1 : w.cell? ⟨7, 17, none⟩ = some (.int .i64 (-6)) := hT 4 1 (by omega) (by omega)
    have t2 : w.cell? ⟨7, 18, none⟩ = some (.int .i64 4) := hT 4 2 (by omega) (by omega)
    have t3 : w.cell? ⟨7, 19, none⟩ = some (.int .i64 (-1)) := hT 4 3 (by omega) (by omega)
    clear hT
    go_enter Tryz.func216, Tryz.ntmps216
    go_wp2
    refine bodyPost_ret (v := gV 6 a c) (by simp [results, Tryz.results216, go_sem, gV, ord, wt, tab, scl]) rfl ⟨rfl, ?_⟩
    exact ((Below.refl _ _).alloc (Nat.le_refl _) _)
end Go.Proofs.YtlncjgnomhpjnaaGreatDoor

/-
  Tables of tables among the laid variables.
-/
namespace Go.Proofs.YtlncjgnomhpjnaaGreatDoor
open Go Go.Lib
set_option linter.unusedVariables false
theorem cells_of_tab2 {H : Type} {enc : TypeId × Value → H} {P : Program} {w : World} {base : Nat} {sp : Nat → Bool} {held : Bool} {fuel : Nat} {t e1 e : TypeId} {n m : Nat} {k : IntKind} {cs : List Value} {zss : List (List Int)} {p : List MemPlace}
    (ht : P.underlying t = some (.array n e1)) (h1 : P.underlying e1 = some (.array m e)) (he : P.underlying e = some (.int k)) (hce : P.cellsOf e = 1) (hc1 : P.cellsOf e1 = m) (hct : P.cellsOf t = n * m)
    (h : DataW.trod enc P w base sp held fuel t cs = some (.agg (zss.map (tabData k)), p)) :
    ∀ r zs, zss[r]? = some zs → ∀ c z, c < m → zs[c]? = some z → cs[r * m + c]? = some (Value.int k z) := by
  cases fuel with
  | zero => simp [DataW.trod] at h
  | succ fuel =>
    simp only [DataW.trod, ht, hc1, hct] at h
    split at h
    · rename_i hl
      obtain ⟨xs, hm, hx⟩ := Option.map_eq_some_iff.1 h
      have hxs : xs.map (·.1) = zss.map (tabData (H := H) k) := by
        have := congrArg Prod.fst hx
        simpa using this
      have hxl : xs.length = n := by simpa using mapM_length hm
      have hzl : zss.length = n := by
        have := congrArg List.length hxs
        simp at this
        omega
      intro r zs hr c z hc hz
      have hrn : r < n := by rw [← hzl]; exact (List.getElem?_eq_some_iff.1 hr).1
      obtain ⟨b, hb, hf⟩ := mapM_at hm r r (by simp [hrn])
      have h2 : (xs.map (·.1))[r]? = some b.1 := by simp [hb]
      rw [hxs, List.getElem?_map, hr] at h2
      have h3 : b.1 = tabData k zs := by simpa using h2.symm
      obtain ⟨b1, b2⟩ := b
      simp only at h3
      subst h3
      have h4 := cells_of_tab h1 he hce hc1 hf
      have h5 := congrArg (·[c]?) h4
      simp [List.getElem?_drop, hc, hz] at h5
      exact h5
    · cases h
def tabRows : List (List Int) := [[0, 0, 0, 0], [1, 0, 0, 0], [2, -1, 0, 0], [3, -3, 1, 0], [4, -6, 4, -1]]
theorem tabRows_at (r c : Nat) (hr : r < 5) (hc : c < 4) : ∃ zs, tabRows[r]? = some zs ∧ zs[c]? = some (tab r c) := by
  have h : ∀ r : Fin 5, ∀ c : Fin 4, (tabRows[r.val]?.bind fun zs => zs[c.val]?) = some (tab r.val c.val) := by decide
  have := h ⟨r, hr⟩ ⟨c, hc⟩
  exact Option.bind_eq_some_iff.1 this
theorem gTaken : Tryz.prog.globalNamed "reel/reelref.taken" = some 3 := by kernel_rfl
theorem gTakenType : (Tryz.prog.globals[3]?).map (·.type) = some 249 := by kernel_rfl
theorem gFixed : Tryz.prog.globalNamed "reel/subframe.fixedWeights" = some 7 := by kernel_rfl
theorem gFixedType : (Tryz.prog.globals[7]?).map (·.type) = some 249 := by kernel_rfl
theorem cells54 : Tryz.prog.cellsOf 249 = 5 * 4 := by kernel_rfl
theorem cells4 : Tryz.prog.cellsOf 199 = 4 := by kernel_rfl
theorem cells1 : Tryz.prog.cellsOf 3 = 1 := by kernel_rfl
end Go.Proofs.YtlncjgnomhpjnaaGreatDoor

/-
  Plain mathematics for 'Codes': the shortest subframe, as a text. No dump is imported.
-/
namespace Go.Proofs.YtlncjgnomhpjnaaGreatDoor
/-- v in k bits -/
def binT (v : Int) (k : Nat) : List UInt8 := (List.range k).map fun i => ltr (decide (v / 2 ^ (k - 1 - i) % 2 = 1))
/-- the fold of a whole number -/
def foldN (v : Int) : Nat := if 0 ≤ v then (2 * v).toNat else (-2 * v - 1).toNat
def riceT (f k : Nat) : List UInt8 := List.replicate (f / 2 ^ k) 48 ++ [49] ++ binT f k
def riceL (f k : Nat) : Nat := f / 2 ^ k + 1 + k
/-- the Rice codes by k of m folds from place lo on -/
def codedT (f : Nat → Nat) (k lo : Nat) : Nat → List UInt8
  | 0 => []
  | m + 1 => codedT f k lo m ++ riceT (f (lo + m)) k
def plen (f : Nat → Nat) (k lo : Nat) : Nat → Nat
  | 0 => 0
  | m + 1 => plen f k lo m + riceL (f (lo + m)) k
/-- the least argument up to K at which g is least -/
def argmin (g : Nat → Nat) : Nat → Nat
  | 0 => 0
  | k + 1 => if g (k + 1) < g (argmin g k) then k + 1 else argmin g k
/-- the parameter of m places from lo on -/
def parK (f : Nat → Nat) (lo m : Nat) : Nat := argmin (fun k => plen f k lo m) 14
def ploN (o sz i : Nat) : Nat := max (i * sz) o
def pcnt (o sz i : Nat) : Nat := (i + 1) * sz - ploN o sz i
def parN (f : Nat → Nat) (o sz i : Nat) : Nat := parK f (ploN o sz i) (pcnt o sz i)
/-- the first i parts of a cut into parts of sz places -/
def partsT (f : Nat → Nat) (o sz : Nat) : Nat → List UInt8
  | 0 => []
  | i + 1 => partsT f o sz i ++ (binT (parN f o sz i) 4 ++ codedT f (parN f o sz i) (ploN o sz i) (pcnt o sz i))
def partsL (f : Nat → Nat) (o sz : Nat) : Nat → Nat
  | 0 => 0
  | i + 1 => partsL f o sz i + (4 + plen f (parN f o sz i) (ploN o sz i) (pcnt o sz i))
/-- may n places be cut so? -/
def okC (n o c : Nat) : Bool := decide (n / 2 ^ c * 2 ^ c = n) && decide (o < n / 2 ^ c)
/-- the bits of a cut -/
def cutL (f : Nat → Nat) (o n c : Nat) : Nat := 2 + partsL f o (n / 2 ^ c) (2 ^ c)
def cutT (f : Nat → Nat) (o n c : Nat) : List UInt8 := binT c 2 ++ partsT f o (n / 2 ^ c) (2 ^ c)
/-- the best cut up to c; cut 0 may be -/
def bestC (f : Nat → Nat) (o n : Nat) : Nat → Nat
  | 0 => 0
  | c + 1 => if okC n o (c + 1) = true ∧ cutL f o n (c + 1) < cutL f o n (bestC f o n c) then c + 1 else bestC f o n c
/-- the sum of each number times the one k before it, up to place m -/
def lag (x : Nat → Int) (k : Nat) : Nat → Int
  | 0 => 0
  | m + 1 => lag x k m + (if k ≤ m then x m * x (m - k) else 0)
def leanD (x : Nat → Int) (n : Nat) : Int := lag x 0 n * lag x 0 n - lag x 1 n * lag x 1 n
def clamp (v : Int) : Int := if v < -32 then -32 else if 31 < v then 31 else v
def leanA (x : Nat → Int) (n : Nat) : Int := clamp (8 * lag x 1 n * (lag x 0 n - lag x 2 n) / leanD x n)
def leanB (x : Nat → Int) (n : Nat) : Int := clamp (8 * (lag x 0 n * lag x 2 n - lag x 1 n * lag x 1 n) / leanD x n)
/-- the numbers of a list, each in w bits -/
def numsT (x : Nat → Int) (w : Nat) : Nat → List UInt8
  | 0 => []
  | m + 1 => numsT x w m ++ binT (x m) w
/-- the weights of a kind; those of kind 7 alone hang on the samples -/
def wA (kind : Nat) (x : Nat → Int) (n : Nat) : Int := if kind = 7 then leanA x n else 0
def wB (kind : Nat) (x : Nat → Int) (n : Nat) : Int := if kind = 7 then leanB x n else 0
/-- the fold at a place -/
def fR (kind : Nat) (x : Nat → Int) (n i : Nat) : Nat := foldN (x i - guessG kind (wA kind x n) (wB kind x n) x i)
def bC (kind : Nat) (x : Nat → Int) (n : Nat) : Nat := bestC (fR kind x n) (ord kind) n 3
/-- the body of a kind of 2 to 7 -/
def gT (kind w : Nat) (x : Nat → Int) (n : Nat) : List UInt8 :=
  numsT x w (ord kind) ++ ((if kind = 7 then binT (leanA x n) 6 ++ binT (leanB x n) 6 else []) ++ cutT (fR kind x n) (ord kind) n (bC kind x n))
def gL (kind w : Nat) (x : Nat → Int) (n : Nat) : Nat := ord kind * w + (if kind = 7 then 12 else 0) + cutL (fR kind x n) (ord kind) n (bC kind x n)
def allSame (x : Nat → Int) (n : Nat) : Bool := (List.range n).all fun i => decide (x i = x 0)
/-- can a kind tell it? -/
def okG (kind : Nat) (x : Nat → Int) (n : Nat) : Bool := decide (ord kind < n) && (decide (kind ≠ 7) || decide (0 < leanD x n))
def bodyT (kind w : Nat) (x : Nat → Int) (n : Nat) : List UInt8 := if kind = 0 then binT (x 0) w else if kind = 1 then numsT x w n else gT kind w x n
def bodyL (kind w : Nat) (x : Nat → Int) (n : Nat) : Nat := if kind = 0 then w else if kind = 1 then n * w else gL kind w x n
/-- the best kind of the first two, and of the first j + 2 -/
def bestK (w : Nat) (x : Nat → Int) (n : Nat) : Nat → Nat
  | 0 => if allSame x n then 0 else 1
  | j + 1 => if okG (j + 2) x n = true ∧ bodyL (j + 2) w x n < bodyL (bestK w x n j) w x n then j + 2 else bestK w x n j
/-- by how many bits all can be shortened: up to k -/
def allDiv (l : Nat → Int) (n k : Nat) : Bool := (List.range n).all fun i => decide (l i % 2 ^ k = 0)
def anyNz (l : Nat → Int) (n : Nat) : Bool := (List.range n).any fun i => decide (l i ≠ 0)
def shiftT (l : Nat → Int) (n : Nat) : Nat → Nat
  | 0 => 0
  | k + 1 => if (allDiv l n (k + 1) && anyNz l n) = true then k + 1 else shiftT l n k
def shiftN (l : Nat → Int) (n width : Nat) : Nat := shiftT l n (width - 1)
def shortX (l : Nat → Int) (n width : Nat) (i : Nat) : Int := l i / 2 ^ (shiftN l n width)
/-- the whole subframe -/
def subKind (width : Nat) (l : Nat → Int) (n : Nat) : Nat := bestK (width - shiftN l n width) (shortX l n width) n 6
def subT (width : Nat) (l : Nat → Int) (n : Nat) : List UInt8 :=
  binT (subKind width l n) 4 ++ (binT (shiftN l n width) 4 ++ bodyT (subKind width l n) (width - shiftN l n width) (shortX l n width) n)
end Go.Proofs.YtlncjgnomhpjnaaGreatDoor

/-
  The writer of bits: strings.Builder in a block of its own, or in a writer's.
-/
namespace Go.Proofs.YtlncjgnomhpjnaaGreatDoor
open Go.RowKit Go.Deep
set_option linter.unusedVariables false
theorem sizeBuilder : (Tryz.prog.info? 150).map (·.size) = some 2 := by kernel_rfl
theorem infoByte : (Tryz.prog.info? 5).map (fun i => (i.zero, i.size, i.bytes)) = some (some (.int .u8 0), 1, 1) := by kernel_rfl
theorem cellsByte : Tryz.prog.cellsOf 5 = 1 := by kernel_rfl
/-- a builder may lie in such a block -/
def Lies (T : TypeId) : Prop := liesAt Tryz.prog Tryz.prog.depth T (2 / Tryz.prog.cellsOf T) 0 150 1 = true ∧ T ≠ 5
theorem lies_writer : Lies 152 := ⟨by kernel_rfl, by decide⟩
theorem lies_builder : Lies 150 := ⟨by kernel_rfl, by decide⟩
set_option maxHeartbeats 1000000 in
set_option maxRecDepth 100000 in
theorem copyCheck_any (T : TypeId) (hT : Lies T) (B b : Nat) (bs : List Value) (w : World) (h : Lib.IsBuilderF T 5 B b bs w) :
    Calls Tryz.prog 165 #[.pointer (some ⟨b, 0, none⟩)] w fun e w' => e = .returned (.tuple #[]) ∧ (Lib.BuilderAtF T 5 B b (.pointer (some ⟨b, 0, none⟩)) bs w' ∧ Below B w w' ∧ Lib.OthersKept 5 (some b) w w') := by
  obtain ⟨j, hj, hjs⟩ := Option.map_eq_some_iff.1 sizeBuilder
  rcases h with h | h
  · have h0 := h.cell0
    have hsh := h.shape
    have hfz := h.frozen0
    have HH := Hid.mk' h
    clear h
    go_enter Tryz.func165, Tryz.ntmps165
    go_wp2
    rw [Lib.run_to_unsafe w ⟨b, 0, none⟩ Tryz.underlying148 Tryz.underlying221 hj (by rw [hjs]; decide) hsh (Nat.zero_lt_succ 1)]
    simp only [Result.andThen]
    rw [Oper.upon_value]
    go_wp2
    rw [run_callFunc_extern Tryz.func188 (by kernel_rfl) (by kernel_rfl) (by kernel_rfl) (e := Extern.AbiNoEscape.same) (by kernel_rfl)]
    rw [Lib.run_noEscape]
    simp only [Result.andThen]
    rw [Oper.upon_value]
    go_wp2
    rw [Lib.run_from_unsafe w ⟨b, 0, none⟩ Tryz.underlying221 Tryz.underlying148 hj hsh hT.1]
    simp only [Result.andThen]
    rw [Oper.upon_value]
    go_wp2
    go_end0
    exact ⟨rfl, HH.out.used _, (Below.refl B w).setCell (p := ⟨b, 0, none⟩) HH.out.1 _, (Lib.OthersKept.refl _ _ w).setCell ⟨b, 0, none⟩ rfl _⟩
  · have h0 := h.cell0
    have HH := Hid.mk' h
    clear h
    have hne := fun u : World => Lib.run_neq_ptr_same (P := Tryz.prog) (w := u) (j := j) (⟨b, 0, none⟩ : Addr) Tryz.underlying148 hj
    go_enter Tryz.func165, Tryz.ntmps165
    go_wp2
    go_end0
    exact ⟨rfl, HH.out, Below.refl B _, Lib.OthersKept.refl _ _ _⟩
set_option maxHeartbeats 2000000 in
set_option maxRecDepth 100000 in
theorem writeByte_any (T : TypeId) (hT : Lies T) (B b : Nat) (bs : List Value) (c : Int) (w : World) (h : Lib.IsBuilderF T 5 B b bs w) (hlen : bs.length + 1 ≤ 140737488355328) (hBw : B ≤ w.heap.size) :
    Calls Tryz.prog 158 #[.pointer (some ⟨b, 0, none⟩), .int .u8 c] w fun e w' => e = .returned .nilIface ∧ (Lib.BuilderAtF T 5 B b (.pointer (some ⟨b, 0, none⟩)) (bs ++ [.int .u8 c]) w' ∧ Below B w w' ∧ Lib.OthersKept 5 (some b) w w') := by
  obtain ⟨i0, hi, hz0, hz1, hz2⟩ := info_parts infoByte
  have HH := Hid.mk' h
  clear h
  go_enter Tryz.func158, Tryz.ntmps158
  go_wp2_with (go_at_call 165; refine (copyCheck_any T hT B b bs _ HH.out).mono ?_)
  rintro e w1 ⟨rfl, h1, hb1, hk1⟩
  obtain ⟨hB, v, hbk, hown, hne⟩ := h1
  have c0 : w1.cell? ⟨b, 0, none⟩ = some (.pointer (some ⟨b, 0, none⟩)) := by rw [Lib.cell_of_heap hbk]; rfl
  have c1 : w1.cell? ⟨b, 1, none⟩ = some v := by rw [Lib.cell_of_heap hbk]; rfl
  go_wp2_with (at_builtin; refine wpList_append_ownF _ rfl _ _ 61 rfl B 5 i0 (.int .u8 0) 1 1 Tryz.underlying61 hi hz0 hz1 hz2 rfl (by decide) _ _ _ rfl (hown.alloc _) ⟨w1.heap.size, 0, none⟩ 1 1 [.int .u8 c] rfl rfl ?c1 ?c2 ?c3 ?c4 ?c5 ?_)
  case c1 =>
    intro j u hj
    match j, hj with
    | 0, hj => simp at hj; subst hj; simp [Addr.add]
  case c2 => intro u hu; simp at hu; subst hu; rfl
  case c3 => unfold maxLen; omega
  case c4 => omega
  case c5 => have := hb1.size; simp; omega
  intro v' w2 hown' hgrow _
  have hlt : b < w1.heap.size := (Array.getElem?_eq_some_iff.1 hbk).1
  have hb2 : w2.heap[b]? = some (.cells #[.pointer (some ⟨b, 0, none⟩), v] T (0, 0)) := by
    rw [hgrow.block b (by simp; omega) (fun e => hne e.symm), Lib.alloc_old w1 _ b hlt]
    exact hbk
  have d0 : w2.cell? ⟨b, 0, none⟩ = some (.pointer (some ⟨b, 0, none⟩)) := by rw [Lib.cell_of_heap hb2]; rfl
  have d1 : w2.cell? ⟨b, 1, none⟩ = some v := by rw [Lib.cell_of_heap hb2]; rfl
  have f1 : w2.frozen? ⟨b, 1, none⟩ = false := Lib.frozen_of_heap hb2 1
  obtain ⟨g, cap, rfl⟩ : ∃ g cap, v' = .slice (some ⟨g, 0, none⟩) (bs.length + 1) cap := by
    rcases hown'.2 with ⟨_, h0⟩ | ⟨g, cap, cur, fz, hv, _⟩
    · omega
    · exact ⟨g, cap, hv⟩
  go_wp2
  go_ret
  refine ⟨rfl, ?_, ?_, ((hk1.alloc _).grown hgrow (Lib.ownsRowF_kind (hown.alloc _))).setCell ⟨b, 1, none⟩ rfl _⟩
  · exact Lib.BuilderAtF.put (T := T) (e := 5) hB hb2 (bs' := bs ++ [.int .u8 c]) (by simpa using hown') hT.2
  · exact ((hb1.alloc (by have := hb1.size; omega) _).grown hgrow (by have := hb1.size; simp; omega) (fun k hk => (hown.lt k hk).1)).setCell (p := ⟨b, 1, none⟩) hB _
set_option maxHeartbeats 2000000 in
set_option maxRecDepth 100000 in
theorem string_any (T : TypeId) (B b : Nat) (l : List UInt8) (w : World) (h : Lib.IsBuilderF T 5 B b (Lib.byteCells l) w) (h0 : l ≠ []) :
    Calls Tryz.prog 142 #[.pointer (some ⟨b, 0, none⟩)] w fun e w' => e = .returned (.string ⟨l.toArray⟩) ∧ Below B w w' := by
  obtain ⟨p, hAt⟩ : ∃ p, Lib.BuilderAtF T 5 B b p (Lib.byteCells l) w := by
    rcases h with h | h
    · exact ⟨_, h⟩
    · exact ⟨_, h⟩
  obtain ⟨hB, v, hbk, hown, hne⟩ := hAt
  have hl0 : l.length ≠ 0 := by simpa using h0
  rw [Lib.byteCells_length] at hown
  obtain ⟨g, cap, cur, fz, rfl, hbg, hg, hfz, hnc, hcm, hcs, htake⟩ : ∃ g cap cur fz, v = .slice (some ⟨g, 0, none⟩) l.length cap ∧ B ≤ g ∧ w.heap[g]? = some (.cells cur 5 fz) ∧ fz.2 ≤ l.length * 1 ∧ l.length ≤ cap ∧ cap ≤ maxLen ∧ cur.size = cap * 1 ∧ cur.toList.take (l.length * 1) = Lib.byteCells l := by
    rcases hown.2 with ⟨_, hz⟩ | ⟨g, cap, cur, fz, hv, r⟩
    · exact absurd hz hl0
    · exact ⟨g, cap, cur, fz, hv, r⟩
  have c1 : w.drew.cell? ⟨b, 1, none⟩ = some (.slice (some ⟨g, 0, none⟩) l.length cap) := by
    have : w.drew.heap[b]? = some (.cells #[p, .slice (some ⟨g, 0, none⟩) l.length cap] T (0, 0)) := hbk
    rw [Lib.cell_of_heap this]; rfl
  have hSD : (Builtin.unsafeSliceData_ #[61] 208 #[.slice (some ⟨g, 0, none⟩) l.length cap]).run Tryz.prog w.drew = .ok (.pointer (some ⟨g, 0, none⟩)) w.drew :=
    Lib.run_unsafeSliceData_row _ _ _ _ _ _ (by omega)
  have hUS : (Builtin.unsafeString_ #[208, 3] 9 #[.pointer (some ⟨g, 0, none⟩), .int .i64 l.length]).run Tryz.prog w.drew = .ok (.string ⟨l.toArray⟩) (w.drew.freeze ⟨g, 0, none⟩ l.length) := by
    refine Lib.run_unsafeString_row w.drew 208 3 9 5 Tryz.underlying208 cellsByte g cur.size (by have hg' : w.drew.heap[g]? = some (.cells cur 5 fz) := hg; simp [World.shape?, hg']) l h0 (by omega) (by unfold maxLen at hcm; omega) ?_
    intro j x hx
    have := hown.cells (g := g) rfl j (.int .u8 x.toNat) (by simp [Lib.byteCells, hx])
    exact this
  clear hown hg htake hbk
  go_enter Tryz.func142, Tryz.ntmps142
  go_wp2
  go_region
  all_goals (go_wp2; go_ret; exact ⟨rfl, Lib.below_freeze (Below.drew (Below.refl B w)) (p := ⟨g, 0, none⟩) hbg _⟩)
end Go.Proofs.YtlncjgnomhpjnaaGreatDoor

