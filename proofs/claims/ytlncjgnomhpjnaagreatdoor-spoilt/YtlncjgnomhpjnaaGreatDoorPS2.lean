import Derived.Test.YtlncjgnomhpjnaaGreatDoorPS1
import Derived.Deep.OwnRows
import Derived.Laws.CopyOwn
import Derived.Test.YtlncjgnomhpjnaaGreatDoorRows
import Derived.Lib.LaidTab
import GoSem.ClaimJoined
/-
  The lists that are lent: 'lend', 'whole', 'spoil', 'shows'.
-/
namespace Go.Proofs.YtlncjgnomhpjnaaGreatDoor
open Go.RowKit Go.Deep
theorem infoInt : (Tryz.prog.info? 3).map (fun i => (i.zero, i.size, i.bytes)) = some (some (.int .i64 0), 1, 8) := by kernel_rfl
theorem sizeInt : (Tryz.prog.info? 3).map (·.size) = some 1 := by kernel_rfl
/-- what a slice of numbers holds -/
def IntsAt (w : World) (a : Option Addr) (n : Nat) (f : Nat → Int) : Prop := ∀ i, i < n → ∃ x, a = some x ∧ w.cell? (x.add i) = some (.int .i64 (f i))
theorem IntsAt.open {w : World} {a : Option Addr} {n : Nat} {f : Nat → Int} (h : IntsAt w a n f) (hn : 0 < n) :
    ∃ b off, a = some ⟨b, off, none⟩ ∧ ∀ i, i < n → w.cell? ⟨b, off + i, none⟩ = some (.int .i64 (f i)) := by
  obtain ⟨⟨b, off, sp⟩, rfl, hc⟩ := h 0 hn
  have hs : sp = none := by simpa [Addr.add] using World.cell?_spot hc
  subst hs
  refine ⟨b, off, rfl, fun i hi => ?_⟩
  obtain ⟨x, hx, hc⟩ := h i hi
  cases hx
  rw [← hc]
  cases i <;> simp [Addr.add]
end Go.Proofs.YtlncjgnomhpjnaaGreatDoor

/-
  Guesses of the program: subframe.guesser.
-/
namespace Go.Proofs.YtlncjgnomhpjnaaGreatDoor
open Go.RowKit Go.Deep
set_option linter.unusedVariables false
def sel4 (w0 w1 w2 w3 : Int) (j : Nat) : Int := if j = 0 then w0 else if j = 1 then w1 else if j = 2 then w2 else if j = 3 then w3 else 0
theorem sel4_cell (o sc w0 w1 w2 w3 : Int) (w : World) (t : TypeId) (i : Nat) (hi : i < 4) :
    (w.alloc (.cells #[.int .i64 o, .int .i64 w0, .int .i64 w1, .int .i64 w2, .int .i64 w3, .int .i64 sc] t)).cell? ⟨w.heap.size, 1 + i, none⟩ = some (.int .i64 (sel4 w0 w1 w2 w3 i)) := by
  rw [World.cell?_alloc_new]
  match i, hi with
  | 0, _ => rfl
  | 1, _ => rfl
  | 2, _ => rfl
  | 3, _ => rfl
theorem sel4_bd {w0 w1 w2 w3 : Int} (h0 : -32 ≤ w0 ∧ w0 ≤ 32) (h1 : -32 ≤ w1 ∧ w1 ≤ 32) (h2 : -32 ≤ w2 ∧ w2 ≤ 32) (h3 : -32 ≤ w3 ∧ w3 ≤ 32) (j : Nat) : -32 ≤ sel4 w0 w1 w2 w3 j ∧ sel4 w0 w1 w2 w3 j ≤ 32 := by
  unfold sel4
  split
  · exact h0
  · split
    · exact h1
    · split
      · exact h2
      · split
        · exact h3
        · omega
theorem mul_bd {u v : Int} (hu : -32 ≤ u ∧ u ≤ 32) (hv : -4096 ≤ v ∧ v ≤ 4096) : -131072 ≤ u * v ∧ u * v ≤ 131072 := by
  have h := Int.natAbs_mul u v
  have h1 : u.natAbs ≤ 32 := by omega
  have h2 : v.natAbs ≤ 4096 := by omega
  have h3 : u.natAbs * v.natAbs ≤ 32 * 4096 := Nat.mul_le_mul h1 h2
  omega
theorem sumG_bd {w x : Nat → Int} {i : Nat} (hw : ∀ j, -32 ≤ w j ∧ w j ≤ 32) (hx : ∀ j, j < i → -4096 ≤ x j ∧ x j ≤ 4096) (hi : 0 < i) : ∀ m : Nat, -131072 * (m : Int) ≤ sumG w x i m ∧ sumG w x i m ≤ 131072 * (m : Int)
  | 0 => by simp [sumG]
  | m + 1 => by
    have := sumG_bd hw hx hi m
    have h := mul_bd (hw m) (hx (i - 1 - m) (by omega))
    simp only [sumG]
    omega
set_option maxHeartbeats 1000000 in
theorem guess_any (o sc : Nat) (w0 w1 w2 w3 : Int) (a : Option Addr) (n c : Nat) (x : Nat → Int) (w : World) (ho : o ≤ 4) (hon : o ≤ n) (hsc : sc ≤ 3) (hn : n ≤ 32)
    (k0 : -32 ≤ w0 ∧ w0 ≤ 32) (k1 : -32 ≤ w1 ∧ w1 ≤ 32) (k2 : -32 ≤ w2 ∧ w2 ≤ 32) (k3 : -32 ≤ w3 ∧ w3 ≤ 32) (hX : ∀ j, j < n → -4096 ≤ x j ∧ x j ≤ 4096)
    (hI : IntsAt w a n x) (hlow : ∀ y, a = some y → 0 < n → y.block < w.heap.size) :
    Calls Tryz.prog 213 #[.agg #[.int .i64 o, .int .i64 w0, .int .i64 w1, .int .i64 w2, .int .i64 w3, .int .i64 sc], .slice a n c] w fun e w' =>
      e = .returned (.int .i64 (sumG (sel4 w0 w1 w2 w3) x n o / 2 ^ sc)) ∧ Below w.heap.size w w' := by
  obtain ⟨W, hWe⟩ : ∃ W, W = w.alloc (.cells #[.int .i64 o, .int .i64 w0, .int .i64 w1, .int .i64 w2, .int .i64 w3, .int .i64 sc] 201) := ⟨_, rfl⟩
  have hb : Below w.heap.size w W := by rw [hWe]; exact (Below.refl _ _).alloc (Nat.le_refl _) _
  have HB : Hid (∀ m, Below w.heap.size w (World.drewN (w.alloc (.cells #[.int .i64 o, .int .i64 w0, .int .i64 w1, .int .i64 w2, .int .i64 w3, .int .i64 sc] 201)) m)) := fun m => by
    rw [← hWe]; exact ⟨hb.os, hb.tape, hb.output, hb.size, hb.block⟩
  have HI : Hid (IntsAt (w.alloc (.cells #[.int .i64 o, .int .i64 w0, .int .i64 w1, .int .i64 w2, .int .i64 w3, .int .i64 sc] 201)) a n x) := by
    intro i hi
    obtain ⟨y, hy, hc⟩ := hI i hi
    refine ⟨y, hy, ?_⟩
    rw [← hWe, hb.cell (by have := hlow y hy (by omega); cases i <;> simpa [Addr.add] using this), hc]
  clear hWe hb hI hlow
  have HS := sumG_bd (w := sel4 w0 w1 w2 w3) (x := x) (i := n) (sel4_bd k0 k1 k2 k3)
  have HX : Hid (∀ j, j < n → -4096 ≤ x j ∧ x j ≤ 4096) := hX
  have HM : Hid (∀ j, -32 ≤ sel4 w0 w1 w2 w3 j ∧ sel4 w0 w1 w2 w3 j ≤ 32) := sel4_bd k0 k1 k2 k3
  clear hX k0 k1 k2 k3
  have hHS : Hid _ := HS
  clear HS
  go_enter Tryz.func213, Tryz.ntmps213
  go_wp2
  go_loopw [5, 6, 9] (fun v _ i wr => ∃ j : Nat, j ≤ o ∧ i = .int .i64 j ∧ v = .int .i64 (sumG (sel4 w0 w1 w2 w3) x n j) ∧ ∃ m, wr = World.drewN (w.alloc (.cells #[.int .i64 o, .int .i64 w0, .int .i64 w1, .int .i64 w2, .int .i64 w3, .int .i64 sc] 201)) m) (fun _ _ i _ => o - (intOf i).toNat)
  case atStart => exact ⟨0, Nat.zero_le _, rfl, rfl, 0, rfl⟩
  case round =>
    obtain ⟨j, hj, rfl, rfl, m, rfl⟩ := hrel
    by_cases hlt : j < o
    · obtain ⟨b, off, hx, hc⟩ := HI.out.open (by omega)
      cases hx
      have hc1 := hc (n - 1 - j) (by omega)
      have hc2 := sel4_cell (o : Int) (sc : Int) w0 w1 w2 w3 w 201 j (by omega)
      have hmb := mul_bd (HM.out j) (HX.out (n - 1 - j) (by omega))
      have hsb := hHS.out HX.out (by omega) j
      have HE : Hid (sumG (sel4 w0 w1 w2 w3) x n (j + 1) = sumG (sel4 w0 w1 w2 w3) x n j + sel4 w0 w1 w2 w3 j * x (n - 1 - j)) := rfl
      clear hc
      go_wp2
      go_region
      all_goals go_wp2
      go_roundw
      case rel => exact ⟨j + 1, by omega, by go_num, by rw [HE.out], _, rfl⟩
      case measure => simp [intOf]; omega
    · have e : j = o := by omega
      subst e
      go_wp2
      go_ret
      exact ⟨ret_int rfl, HB.out _⟩
end Go.Proofs.YtlncjgnomhpjnaaGreatDoor

/-
  Small parts of subframe.Read.
-/
namespace Go.Proofs.YtlncjgnomhpjnaaGreatDoor
open Go.RowKit Go.Deep
set_option linter.unusedVariables false
theorem ret_bool {a b : Bool} (h : a = b) : Ending.returned (.bool a) = .returned (.bool b) := by rw [h]
/-- the call answers whether p is so -/
def Says (e : Ending) (p : Prop) : Prop := ∃ b : Bool, e = .returned (.bool b) ∧ (b = true ↔ p)
theorem Says.yes {p : Prop} (h : p) : Says (.returned (.bool true)) p := ⟨true, rfl, by simp [h]⟩
theorem Says.no {p : Prop} (h : ¬ p) : Says (.returned (.bool false)) p := ⟨false, rfl, by simp [h]⟩
theorem Says.true_of {e : Ending} {p : Prop} (h : Says e p) (hp : p) : e = .returned (.bool true) := by
  obtain ⟨b, rfl, hb⟩ := h
  rw [hb.2 hp]
theorem Says.false_of {e : Ending} {p : Prop} (h : Says e p) (hp : ¬ p) : e = .returned (.bool false) := by
  obtain ⟨b, rfl, hb⟩ := h
  cases b
  · rfl
  · exact absurd (hb.1 rfl) hp
theorem within_any (v lo hi : Int) (w : World) :
    Calls Tryz.prog 62 #[.int .i64 v, .int .i64 lo, .int .i64 hi] w fun e w' => e = .returned (.bool (within v lo hi)) ∧ w' = w := by
  by_cases h : lo ≤ v
  · go_enter Tryz.func62, Tryz.ntmps62
    go_wp2
    go_ret
    exact ⟨ret_bool (by simp [within, h]), rfl⟩
  · have hd : decide (lo ≤ v) = false := decide_eq_false h
    go_enter Tryz.func62, Tryz.ntmps62
    go_wp2
    go_ret
    exact ⟨ret_bool (by simp [within]; omega), rfl⟩
set_option maxHeartbeats 400000 in
theorem isSample_any (d : Nat) (v : Int) (w : World) (h1 : 1 ≤ d) (h2 : d ≤ 13) :
    Calls Tryz.prog 120 #[.int .i64 d, .int .i64 v] w fun e w' => e = .returned (.bool (fitsB d v)) ∧ w' = w := by
  have hp1 := ipow_pos (d - 1)
  have hp2 := ipow_le (d - 1) 4096 (Nat.le_trans (Nat.pow_le_pow_right (by omega) (by omega : d - 1 ≤ 12)) (by decide))
  go_enter Tryz.func120, Tryz.ntmps120
  go_wp2_with (go_at_call 62; refine (within_any _ _ _ _).mono ?_; rintro e w' ⟨rfl, rfl⟩)
  go_ret
  exact ⟨rfl, rfl⟩
theorem orderOf_any (kind : Nat) (w : World) (h : 2 ≤ kind) (h7 : kind ≤ 7) :
    Calls Tryz.prog 199 #[.int .i64 kind] w fun e w' => e = .returned (.int .i64 (ord kind)) ∧ w' = w := by
  have HO : Hid (ord kind = if kind = 7 then 2 else kind - 2) := rfl
  by_cases e : kind = 7
  · have h1 : ((kind : Int) == 7) = true := by simp; omega
    go_enter Tryz.func199, Tryz.ntmps199
    go_wp2
    go_ret
    exact ⟨ret_int (by rw [HO.out, if_pos e]; rfl), rfl⟩
  · have h1 : ((kind : Int) == 7) = false := by simp; omega
    go_enter Tryz.func199, Tryz.ntmps199
    go_wp2
    go_ret
    exact ⟨ret_int (by rw [HO.out, if_neg e]; omega), rfl⟩
/-- whether n places may be cut so -/
def cutB (n o c : Nat) : Bool := decide (n / 2 ^ c * 2 ^ c = n) && decide (o < n / 2 ^ c)
set_option maxHeartbeats 400000 in
theorem partSize_any (n o c : Nat) (w : World) (hn : n ≤ 32) (ho : o ≤ 4) (hc : c ≤ 3) :
    Calls Tryz.prog 223 #[.int .i64 n, .int .i64 o, .int .i64 c] w fun e w' => e = .returned (.tuple #[.int .i64 ((n / 2 ^ c : Nat) : Int), .bool (cutB n o c)]) ∧ w' = w := by
  have HC : Hid (∀ c, cutB n o c = (decide (n / 2 ^ c * 2 ^ c = n) && decide (o < n / 2 ^ c))) := fun _ => rfl
  have e2 : ((n / 2 ^ c : Nat) : Int) = (n : Int) / 2 ^ c := by simp
  have hd1 : 0 ≤ (n : Int) / 2 ^ c := by rw [← e2]; exact Int.natCast_nonneg _
  have hd2 : (n : Int) / 2 ^ c ≤ 32 := by rw [← e2]; have := Nat.div_le_self n (2 ^ c); omega
  have hp1 := ipow_pos c
  have hp2 := ipow_le c 8 (Nat.le_trans (Nat.pow_le_pow_right (by omega) (by omega : c ≤ 3)) (by decide))
  have hm1 : 0 ≤ (n : Int) / 2 ^ c * 2 ^ c := Int.mul_nonneg hd1 (by omega)
  have hm2 : (n : Int) / 2 ^ c * 2 ^ c ≤ 256 := by
    have : (n : Int) / 2 ^ c * 2 ^ c ≤ 32 * 8 := Int.mul_le_mul hd2 hp2 (by omega) (by omega)
    omega
  have e3 : ((n / 2 ^ c * 2 ^ c : Nat) : Int) = (n : Int) / 2 ^ c * 2 ^ c := by simp
  have HE2 : Hid (((n / 2 ^ c : Nat) : Int) = (n : Int) / 2 ^ c) := e2
  by_cases h : n / 2 ^ c * 2 ^ c = n
  · have ht : ((n : Int) / 2 ^ c * 2 ^ c == (n : Int)) = true := by rw [← e3]; simp; omega
    have HH : Hid (n / 2 ^ c * 2 ^ c = n) := h
    clear h e2 e3
    go_enter Tryz.func223, Tryz.ntmps223
    go_wp2
    go_ret2
    refine ⟨?_, rfl⟩
    rw [HC.out, HE2.out]
    have h1 : decide (n / 2 ^ c * 2 ^ c = n) = true := decide_eq_true HH.out
    have h2 : decide (o < n / 2 ^ c) = decide ((o : Int) < (n : Int) / 2 ^ c) := by rw [decide_eq_decide, ← HE2.out]; omega
    rw [h1, h2]; rfl
  · have ht : ((n : Int) / 2 ^ c * 2 ^ c == (n : Int)) = false := by rw [← e3]; simp; omega
    have HH : Hid (¬ n / 2 ^ c * 2 ^ c = n) := h
    clear h e2 e3
    go_enter Tryz.func223, Tryz.ntmps223
    go_wp2
    go_ret2
    refine ⟨?_, rfl⟩
    rw [HC.out, HE2.out]
    have h1 : decide (n / 2 ^ c * 2 ^ c = n) = false := decide_eq_false HH.out
    rw [h1]; rfl
/-- the table of weights, as it is laid -/
def TabAt (w : World) (g : Nat) : Prop := ∀ r c, r < 5 → c < 4 → w.cell? ⟨g, 4 * r + c, none⟩ = some (.int .i64 (tab r c))
/-- the guesser of a kind -/
def gV (kind : Nat) (a c : Int) : Value := .agg #[.int .i64 (ord kind), .int .i64 (wt kind a c 0), .int .i64 (wt kind a c 1), .int .i64 (wt kind a c 2), .int .i64 (wt kind a c 3), .int .i64 (scl kind : Int)]
set_option maxHeartbeats 1000000 in
theorem fixed_any (kind : Nat) (a c : Int) (w : World) (h2 : 2 ≤ kind) (h6 : kind ≤ 6) (hT : TabAt w 7) (hg : 7 < w.heap.size) :
    Calls Tryz.prog 216 #[.int .i64 kind] w fun e w' => e = .returned (gV kind a c) ∧ Below w.heap.size w w' := by
  have fin : ∀ o v, Below w.heap.size w ((w.alloc o).setCell ⟨w.heap.size, 0, none⟩ v) := fun o v => ((Below.refl _ _).alloc (Nat.le_refl _) _).setCell (Nat.le_refl _) _
  have hal : ∀ o j, (w.alloc o).cell? ⟨7, j, none⟩ = w.cell? ⟨7, j, none⟩ := fun o j => World.cell?_alloc_lt w o ⟨7, j, none⟩ hg
  obtain rfl | rfl | rfl | rfl | rfl : kind = 2 ∨ kind = 3 ∨ kind = 4 ∨ kind = 5 ∨ kind = 6 := by omega
  · have t0 : w.cell? ⟨7, 0, none⟩ = some (.int .i64 0) := hT 0 0 (by omega) (by omega)
    have t1 : w.cell? ⟨7, 1, none⟩ = some (.int .i64 0) := hT 0 1 (by omega) (by omega)
    have t2 : w.cell? ⟨7, 2, none⟩ = some (.int .i64 0) := hT 0 2 (by omega) (by omega)
    have t3 : w.cell? ⟨7, 3, none⟩ = some (.int .i64 0) := hT 0 3 (by omega) (by omega)
    clear hT
    go_enter Tryz.func216, Tryz.ntmps216
    go_wp2
    refine bodyPost_ret (v := gV 2 a c) (by simp [results, Tryz.results216, go_sem, gV, ord, wt, tab, scl]) rfl ⟨rfl, ?_⟩
    exact ((Below.refl _ _).alloc (Nat.le_refl _) _)
  · have t0 : w.cell? ⟨7, 4, none⟩ = some (.int .i64 1) := hT 1 0 (by omega) (by omega)
    have t1 : w.cell? ⟨7, 5, none⟩ = some (.int .i64 0) := hT 1 1 (by omega) (by omega)
    have t2 : w.cell? ⟨7, 6, none⟩ = some (.int .i64 0) := hT 1 2 (by omega) (by omega)
    have t3 : w.cell? ⟨7, 7, none⟩ = some (.int .i64 0) := hT 1 3 (by omega) (by omega)
    clear hT
    go_enter Tryz.func216, Tryz.ntmps216
    go_wp2
    refine bodyPost_ret (v := gV 3 a c) (by simp [results, Tryz.results216, go_sem, gV, ord, wt, tab, scl]) rfl ⟨rfl, ?_⟩
    exact ((Below.refl _ _).alloc (Nat.le_refl _) _)
  · have t0 : w.cell? ⟨7, 8, none⟩ = some (.int .i64 2) := hT 2 0 (by omega) (by omega)
    have t1 : w.cell? ⟨7, 9, none⟩ = some (.int .i64 (-1)) := hT 2 1 (by omega) (by omega)
    have t2 : w.cell? ⟨7, 10, none⟩ = some (.int .i64 0) := hT 2 2 (by omega) (by omega)
    have t3 : w.cell? ⟨7, 11, none⟩ = some (.int .i64 0) := hT 2 3 (by omega) (by omega)
    clear hT
    go_enter Tryz.func216, Tryz.ntmps216
    go_wp2
    refine bodyPost_ret (v := gV 4 a c) (by simp [results, Tryz.results216, go_sem, gV, ord, wt, tab, scl]) rfl ⟨rfl, ?_⟩
    exact ((Below.refl _ _).alloc (Nat.le_refl _) _)
  · have t0 : w.cell? ⟨7, 12, none⟩ = some (.int .i64 3) := hT 3 0 (by omega) (by omega)
    have t1 : w.cell? ⟨7, 13, none⟩ = some (.int .i64 (-3)) := hT 3 1 (by omega) (by omega)
    have t2 : w.cell? ⟨7, 14, none⟩ = some (.int .i64 1) := hT 3 2 (by omega) (by omega)
    have t3 : w.cell? ⟨7, 15, none⟩ = some (.int .i64 0) := hT 3 3 (by omega) (by omega)
    clear hT
    go_enter Tryz.func216, Tryz.ntmps216
    go_wp2
    refine bodyPost_ret (v := gV 5 a c) (by simp [results, Tryz.results216, go_sem, gV, ord, wt, tab, scl]) rfl ⟨rfl, ?_⟩
    exact ((Below.refl _ _).alloc (Nat.le_refl _) _)
  · have t0 : w.cell? ⟨7, 16, none⟩ = some (.int .i64 4) := hT 4 0 (by omega) (by omega)
    have t1 : w.cell? ⟨7, 17, none⟩ = some (.int .i64 (-6)) := hT 4 1 (by omega) (by omega)
    have t2 : w.cell? ⟨7, 18, none⟩ = some (.int .i64 4) := hT 4 2 (by omega) (by omega)
    have t3 : w.cell? ⟨7, 19, none⟩ = some (.int .i64 (-1)) := hT 4 3 (by omega) (by omega)
    clear hT
    go_enter Tryz.func216, Tryz.ntmps216
    go_wp2
    refine bodyPost_ret (v := gV 6 a c) (by simp [results, Tryz.results216, go_sem, gV, ord, wt, tab, scl]) rfl ⟨rfl, ?_⟩
    exact ((Below.refl _ _).alloc (Nat.le_refl _) _)
end Go.Proofs.YtlncjgnomhpjnaaGreatDoor

/-
  Tables of tables among the laid variables.
-/
namespace Go.Proofs.YtlncjgnomhpjnaaGreatDoor
open Go Go.Lib
set_option linter.unusedVariables false
theorem cells_of_tab2 {H : Type} {enc : TypeId × Value → H} {P : Program} {w : World} {base : Nat} {sp : Nat → Bool} {held : Bool} {fuel : Nat} {t e1 e : TypeId} {n m : Nat} {k : IntKind} {cs : List Value} {zss : List (List Int)} {p : List MemPlace}
    (ht : P.underlying t = some (.array n e1)) (h1 : P.underlying e1 = some (.array m e)) (he : P.underlying e = some (.int k)) (hce : P.cellsOf e = 1) (hc1 : P.cellsOf e1 = m) (hct : P.cellsOf t = n * m)
    (h : DataW.trod enc P w base sp held fuel t cs = some (.agg (zss.map (tabData k)), p)) :
    ∀ r zs, zss[r]? = some zs → ∀ c z, c < m → zs[c]? = some z → cs[r * m + c]? = some (Value.int k z) := by
  cases fuel with
  | zero => simp [DataW.trod] at h
  | succ fuel =>
    simp only [DataW.trod, ht, hc1, hct] at h
    split at h
    · rename_i hl
      obtain ⟨xs, hm, hx⟩ := Option.map_eq_some_iff.1 h
      have hxs : xs.map (·.1) = zss.map (tabData (H := H) k) := by
        have := congrArg Prod.fst hx
        simpa using this
      have hxl : xs.length = n := by simpa using mapM_length hm
      have hzl : zss.length = n := by
        have := congrArg List.length hxs
        simp at this
        omega
      intro r zs hr c z hc hz
      have hrn : r < n := by rw [← hzl]; exact (List.getElem?_eq_some_iff.1 hr).1
      obtain ⟨b, hb, hf⟩ := mapM_at hm r r (by simp [hrn])
      have h2 : (xs.map (·.1))[r]? = some b.1 := by simp [hb]
      rw [hxs, List.getElem?_map, hr] at h2
      have h3 : b.1 = tabData k zs := by simpa using h2.symm
      obtain ⟨b1, b2⟩ := b
      simp only at h3
      subst h3
      have h4 := cells_of_tab h1 he hce hc1 hf
      have h5 := congrArg (·[c]?) h4
      simp [List.getElem?_drop, hc, hz] at h5
      exact h5
    · cases h
def tabRows : List (List Int) := [[0, 0, 0, 0], [1, 0, 0, 0], [2, -1, 0, 0], [3, -3, 1, 0], [4, -6, 4, -1]]
theorem tabRows_at (r c : Nat) (hr : r < 5) (hc : c < 4) : ∃ zs, tabRows[r]? = some zs ∧ zs[c]? = some (tab r c) := by
  have h : ∀ r : Fin 5, ∀ c : Fin 4, (tabRows[r.val]?.bind fun zs => zs[c.val]?) = some (tab r.val c.val) := by decide
  have := h ⟨r, hr⟩ ⟨c, hc⟩
  exact Option.bind_eq_some_iff.1 this
theorem gFixed : Tryz.prog.globalNamed "reel/subframe.fixedWeights" = some 7 := by kernel_rfl
theorem gFixedType : (Tryz.prog.globals[7]?).map (·.type) = some 249 := by kernel_rfl
theorem cells54 : Tryz.prog.cellsOf 249 = 5 * 4 := by kernel_rfl
theorem cells4 : Tryz.prog.cellsOf 199 = 4 := by kernel_rfl
theorem cells1 : Tryz.prog.cellsOf 3 = 1 := by kernel_rfl
end Go.Proofs.YtlncjgnomhpjnaaGreatDoor

/-
  Plain mathematics for 'Codes': the shortest subframe, as a text. No dump is imported.
-/
namespace Go.Proofs.YtlncjgnomhpjnaaGreatDoor
/-- v in k bits -/
def binT (v : Int) (k : Nat) : List UInt8 := (List.range k).map fun i => ltr (decide (v / 2 ^ (k - 1 - i) % 2 = 1))
theorem binT_length (v : Int) (k : Nat) : (binT v k).length = k := by simp [binT]
/-- the fold of a whole number -/
def foldN (v : Int) : Nat := if 0 ≤ v then (2 * v).toNat else (-2 * v - 1).toNat
theorem foldN_int (v : Int) : (foldN v : Int) = if 0 ≤ v then 2 * v else -2 * v - 1 := by
  unfold foldN; split <;> omega
theorem foldN_le (v : Int) (m : Nat) (h : -(m : Int) ≤ v ∧ v ≤ m) : foldN v ≤ 2 * m := by
  have := foldN_int v
  split at this <;> omega
def riceT (f k : Nat) : List UInt8 := List.replicate (f / 2 ^ k) 48 ++ [49] ++ binT f k
def riceL (f k : Nat) : Nat := f / 2 ^ k + 1 + k
theorem riceT_length (f k : Nat) : (riceT f k).length = riceL f k := by simp [riceT, riceL, binT_length]; omega
/-- the Rice codes by k of m folds from place lo on -/
def codedT (f : Nat → Nat) (k lo : Nat) : Nat → List UInt8
  | 0 => []
  | m + 1 => codedT f k lo m ++ riceT (f (lo + m)) k
def plen (f : Nat → Nat) (k lo : Nat) : Nat → Nat
  | 0 => 0
  | m + 1 => plen f k lo m + riceL (f (lo + m)) k
theorem codedT_length (f : Nat → Nat) (k lo : Nat) : ∀ m, (codedT f k lo m).length = plen f k lo m
  | 0 => rfl
  | m + 1 => by simp [codedT, plen, codedT_length f k lo m, riceT_length]
theorem riceL_le (f k M : Nat) (h : f ≤ M) (hk : k ≤ 14) : riceL f k ≤ M + 15 := by
  have : f / 2 ^ k ≤ f := Nat.div_le_self _ _
  unfold riceL; omega
theorem plen_le (f : Nat → Nat) (k lo M : Nat) (hk : k ≤ 14) : ∀ m, (∀ i, i < m → f (lo + i) ≤ M) → plen f k lo m ≤ m * (M + 15)
  | 0, _ => by simp [plen]
  | m + 1, h => by
    have h1 := plen_le f k lo M hk m (fun i hi => h i (by omega))
    have h2 := riceL_le (f (lo + m)) k M (h m (by omega)) hk
    simp only [plen]
    rw [Nat.succ_mul]; omega
/-- the least argument up to K at which g is least -/
def argmin (g : Nat → Nat) : Nat → Nat
  | 0 => 0
  | k + 1 => if g (k + 1) < g (argmin g k) then k + 1 else argmin g k
theorem argmin_le (g : Nat → Nat) : ∀ k, argmin g k ≤ k
  | 0 => Nat.le_refl _
  | k + 1 => by
    have := argmin_le g k
    unfold argmin; split <;> omega
/-- the parameter of m places from lo on -/
def parK (f : Nat → Nat) (lo m : Nat) : Nat := argmin (fun k => plen f k lo m) 14
theorem parK_le (f : Nat → Nat) (lo m : Nat) : parK f lo m ≤ 14 := argmin_le _ _
def ploN (o sz i : Nat) : Nat := max (i * sz) o
def pcnt (o sz i : Nat) : Nat := (i + 1) * sz - ploN o sz i
def parN (f : Nat → Nat) (o sz i : Nat) : Nat := parK f (ploN o sz i) (pcnt o sz i)
/-- the first i parts of a cut into parts of sz places -/
def partsT (f : Nat → Nat) (o sz : Nat) : Nat → List UInt8
  | 0 => []
  | i + 1 => partsT f o sz i ++ (binT (parN f o sz i) 4 ++ codedT f (parN f o sz i) (ploN o sz i) (pcnt o sz i))
def partsL (f : Nat → Nat) (o sz : Nat) : Nat → Nat
  | 0 => 0
  | i + 1 => partsL f o sz i + (4 + plen f (parN f o sz i) (ploN o sz i) (pcnt o sz i))
theorem partsT_length (f : Nat → Nat) (o sz : Nat) : ∀ i, (partsT f o sz i).length = partsL f o sz i
  | 0 => rfl
  | i + 1 => by simp [partsT, partsL, partsT_length f o sz i, codedT_length, binT_length]
theorem partsL_mono (f : Nat → Nat) (o sz : Nat) {i : Nat} : ∀ {j : Nat}, i ≤ j → partsL f o sz i ≤ partsL f o sz j
  | 0, h => by have : i = 0 := by omega
               subst this; exact Nat.le_refl _
  | j + 1, h => by
    by_cases e : i = j + 1
    · subst e; exact Nat.le_refl _
    · have := partsL_mono f o sz (i := i) (j := j) (by omega)
      simp only [partsL]; omega
/-- may n places be cut so? -/
def okC (n o c : Nat) : Bool := decide (n / 2 ^ c * 2 ^ c = n) && decide (o < n / 2 ^ c)
theorem okC_zero {n o : Nat} (h : o < n) : okC n o 0 = true := by simp [okC, h]
theorem okC_succ {n o c : Nat} (h : okC n o (c + 1) = true) : okC n o c = true := by
  simp only [okC, Bool.and_eq_true, decide_eq_true_eq] at h ⊢
  obtain ⟨h1, h2⟩ := h
  have e : n / 2 ^ (c + 1) = n / 2 ^ c / 2 := by rw [Nat.pow_succ, Nat.div_div_eq_div_mul]
  have e2 : 2 ^ (c + 1) = 2 * 2 ^ c := by rw [Nat.pow_succ, Nat.mul_comm]
  refine ⟨?_, ?_⟩
  · have hd : 2 ^ c ∣ n := by
      refine ⟨n / 2 ^ (c + 1) * 2, ?_⟩
      rw [← Nat.mul_assoc, Nat.mul_comm (2 ^ c), Nat.mul_assoc, Nat.mul_comm (2 ^ c) 2, ← e2]; exact h1.symm
    exact Nat.div_mul_cancel hd
  · rw [e] at h2
    have := Nat.div_le_self (n / 2 ^ c) 2
    omega
theorem okC_later {n o c : Nat} (h : okC n o c = false) : ∀ {d : Nat}, c ≤ d → okC n o d = false
  | 0, hd => by have : c = 0 := by omega
                subst this; exact h
  | d + 1, hd => by
    by_cases e : c = d + 1
    · subst e; exact h
    · have := okC_later h (d := d) (by omega)
      cases hx : okC n o (d + 1) with
      | false => rfl
      | true => rw [okC_succ hx] at this; cases this
/-- the bits of a cut -/
def cutL (f : Nat → Nat) (o n c : Nat) : Nat := 2 + partsL f o (n / 2 ^ c) (2 ^ c)
def cutT (f : Nat → Nat) (o n c : Nat) : List UInt8 := binT c 2 ++ partsT f o (n / 2 ^ c) (2 ^ c)
theorem cutT_length (f : Nat → Nat) (o n c : Nat) : (cutT f o n c).length = cutL f o n c := by simp [cutT, cutL, binT_length, partsT_length]
/-- the best cut up to c; cut 0 may be -/
def bestC (f : Nat → Nat) (o n : Nat) : Nat → Nat
  | 0 => 0
  | c + 1 => if okC n o (c + 1) = true ∧ cutL f o n (c + 1) < cutL f o n (bestC f o n c) then c + 1 else bestC f o n c
theorem bestC_le (f : Nat → Nat) (o n : Nat) : ∀ c, bestC f o n c ≤ c
  | 0 => Nat.le_refl _
  | c + 1 => by
    have := bestC_le f o n c
    unfold bestC; split <;> omega
theorem bestC_stop (f : Nat → Nat) (o n : Nat) {c : Nat} (h : okC n o (c + 1) = false) : ∀ {d : Nat}, c ≤ d → bestC f o n d = bestC f o n c
  | 0, hd => by have : c = 0 := by omega
                subst this; rfl
  | d + 1, hd => by
    by_cases e : c = d + 1
    · subst e; rfl
    · have h2 := okC_later h (d := d + 1) (by omega)
      rw [bestC, if_neg (by rw [h2]; simp)]
      exact bestC_stop f o n h (by omega)
theorem bestC_ok (f : Nat → Nat) (o n : Nat) (h : o < n) : ∀ c, okC n o (bestC f o n c) = true
  | 0 => okC_zero h
  | c + 1 => by
    unfold bestC; split
    · rename_i hh; exact hh.1
    · exact bestC_ok f o n h c
/-- the sum of each number times the one k before it, up to place m -/
def lag (x : Nat → Int) (k : Nat) : Nat → Int
  | 0 => 0
  | m + 1 => lag x k m + (if k ≤ m then x m * x (m - k) else 0)
theorem mulBd {u v : Int} {a b : Nat} (hu : -(a : Int) ≤ u ∧ u ≤ a) (hv : -(b : Int) ≤ v ∧ v ≤ b) : -((a * b : Nat) : Int) ≤ u * v ∧ u * v ≤ ((a * b : Nat) : Int) := by
  have h := Int.natAbs_mul u v
  have h1 : u.natAbs ≤ a := by omega
  have h2 : v.natAbs ≤ b := by omega
  have h3 : u.natAbs * v.natAbs ≤ a * b := Nat.mul_le_mul h1 h2
  omega
theorem lag_bd (x : Nat → Int) (k : Nat) : ∀ m : Nat, (∀ i, i < m → -4096 ≤ x i ∧ x i ≤ 4096) → -16777216 * (m : Int) ≤ lag x k m ∧ lag x k m ≤ 16777216 * (m : Int)
  | 0, _ => by simp [lag]
  | m + 1, h => by
    have h1 := lag_bd x k m (fun i hi => h i (by omega))
    simp only [lag]
    split
    · have h2 := mulBd (a := 4096) (b := 4096) (h m (by omega)) (h (m - k) (by omega))
      have e : ((4096 * 4096 : Nat) : Int) = 16777216 := rfl
      rw [e] at h2
      omega
    · omega
def leanD (x : Nat → Int) (n : Nat) : Int := lag x 0 n * lag x 0 n - lag x 1 n * lag x 1 n
def clamp (v : Int) : Int := if v < -32 then -32 else if 31 < v then 31 else v
theorem clamp_bd (v : Int) : -32 ≤ clamp v ∧ clamp v ≤ 31 := by unfold clamp; split <;> (try split) <;> omega
def leanA (x : Nat → Int) (n : Nat) : Int := clamp (8 * lag x 1 n * (lag x 0 n - lag x 2 n) / leanD x n)
def leanB (x : Nat → Int) (n : Nat) : Int := clamp (8 * (lag x 0 n * lag x 2 n - lag x 1 n * lag x 1 n) / leanD x n)
/-- the numbers of a list, each in w bits -/
def numsT (x : Nat → Int) (w : Nat) : Nat → List UInt8
  | 0 => []
  | m + 1 => numsT x w m ++ binT (x m) w
theorem numsT_length (x : Nat → Int) (w : Nat) : ∀ m, (numsT x w m).length = m * w
  | 0 => by simp [numsT]
  | m + 1 => by simp [numsT, numsT_length x w m, binT_length, Nat.succ_mul]
/-- the weights of a kind; those of kind 7 alone hang on the samples -/
def wA (kind : Nat) (x : Nat → Int) (n : Nat) : Int := if kind = 7 then leanA x n else 0
def wB (kind : Nat) (x : Nat → Int) (n : Nat) : Int := if kind = 7 then leanB x n else 0
theorem wA_bd (kind : Nat) (x : Nat → Int) (n : Nat) : -32 ≤ wA kind x n ∧ wA kind x n ≤ 31 := by
  unfold wA; split
  · exact clamp_bd _
  · omega
theorem wB_bd (kind : Nat) (x : Nat → Int) (n : Nat) : -32 ≤ wB kind x n ∧ wB kind x n ≤ 31 := by
  unfold wB; split
  · exact clamp_bd _
  · omega
/-- the fold at a place -/
def fR (kind : Nat) (x : Nat → Int) (n i : Nat) : Nat := foldN (x i - guessG kind (wA kind x n) (wB kind x n) x i)
def bC (kind : Nat) (x : Nat → Int) (n : Nat) : Nat := bestC (fR kind x n) (ord kind) n 3
/-- the body of a kind of 2 to 7 -/
def gT (kind w : Nat) (x : Nat → Int) (n : Nat) : List UInt8 :=
  numsT x w (ord kind) ++ ((if kind = 7 then binT (leanA x n) 6 ++ binT (leanB x n) 6 else []) ++ cutT (fR kind x n) (ord kind) n (bC kind x n))
def gL (kind w : Nat) (x : Nat → Int) (n : Nat) : Nat := ord kind * w + (if kind = 7 then 12 else 0) + cutL (fR kind x n) (ord kind) n (bC kind x n)
theorem gT_length (kind w : Nat) (x : Nat → Int) (n : Nat) : (gT kind w x n).length = gL kind w x n := by
  unfold gT gL
  simp only [List.length_append, numsT_length, cutT_length]
  split <;> simp [binT_length] <;> omega
def allSame (x : Nat → Int) (n : Nat) : Bool := (List.range n).all fun i => decide (x i = x 0)
theorem allSame_iff (x : Nat → Int) (n : Nat) : allSame x n = true ↔ ∀ i, i < n → x i = x 0 := by simp [allSame]
/-- can a kind tell it? -/
def okG (kind : Nat) (x : Nat → Int) (n : Nat) : Bool := decide (ord kind < n) && (decide (kind ≠ 7) || decide (0 < leanD x n))
def bodyT (kind w : Nat) (x : Nat → Int) (n : Nat) : List UInt8 := if kind = 0 then binT (x 0) w else if kind = 1 then numsT x w n else gT kind w x n
def bodyL (kind w : Nat) (x : Nat → Int) (n : Nat) : Nat := if kind = 0 then w else if kind = 1 then n * w else gL kind w x n
theorem bodyT_length (kind w : Nat) (x : Nat → Int) (n : Nat) : (bodyT kind w x n).length = bodyL kind w x n := by
  unfold bodyT bodyL
  split
  · exact binT_length _ _
  · split
    · exact numsT_length _ _ _
    · exact gT_length _ _ _ _
/-- the best kind of the first two, and of the first j + 2 -/
def bestK (w : Nat) (x : Nat → Int) (n : Nat) : Nat → Nat
  | 0 => if allSame x n then 0 else 1
  | j + 1 => if okG (j + 2) x n = true ∧ bodyL (j + 2) w x n < bodyL (bestK w x n j) w x n then j + 2 else bestK w x n j
theorem bestK_le (w : Nat) (x : Nat → Int) (n : Nat) : ∀ j, bestK w x n j ≤ j + 1
  | 0 => by unfold bestK; split <;> omega
  | j + 1 => by
    have := bestK_le w x n j
    unfold bestK; split <;> omega
theorem bestK_ok (w : Nat) (x : Nat → Int) (n : Nat) : ∀ j, 2 ≤ bestK w x n j → okG (bestK w x n j) x n = true
  | 0, h => by unfold bestK at h; split at h <;> omega
  | j + 1, h => by
    unfold bestK at h ⊢
    split
    · rename_i hh; exact hh.1
    · rename_i hh; rw [if_neg hh] at h; exact bestK_ok w x n j h
/-- by how many bits all can be shortened: up to k -/
def allDiv (l : Nat → Int) (n k : Nat) : Bool := (List.range n).all fun i => decide (l i % 2 ^ k = 0)
def anyNz (l : Nat → Int) (n : Nat) : Bool := (List.range n).any fun i => decide (l i ≠ 0)
def shiftT (l : Nat → Int) (n : Nat) : Nat → Nat
  | 0 => 0
  | k + 1 => if (allDiv l n (k + 1) && anyNz l n) = true then k + 1 else shiftT l n k
theorem shiftT_le (l : Nat → Int) (n : Nat) : ∀ k, shiftT l n k ≤ k
  | 0 => Nat.le_refl _
  | k + 1 => by
    have := shiftT_le l n k
    unfold shiftT; split <;> omega
theorem allDiv_iff (l : Nat → Int) (n k : Nat) : allDiv l n k = true ↔ ∀ i, i < n → l i % 2 ^ k = 0 := by simp [allDiv]
theorem shiftT_div (l : Nat → Int) (n : Nat) : ∀ k i, i < n → l i % 2 ^ (shiftT l n k) = 0
  | 0, i, hi => by simp [shiftT, Int.emod_one]
  | k + 1, i, hi => by
    unfold shiftT; split
    · rename_i h
      rw [Bool.and_eq_true] at h
      exact (allDiv_iff l n (k + 1)).1 h.1 i hi
    · exact shiftT_div l n k i hi
def shiftN (l : Nat → Int) (n width : Nat) : Nat := shiftT l n (width - 1)
def shortX (l : Nat → Int) (n width : Nat) (i : Nat) : Int := l i / 2 ^ (shiftN l n width)
/-- the whole subframe -/
def subKind (width : Nat) (l : Nat → Int) (n : Nat) : Nat := bestK (width - shiftN l n width) (shortX l n width) n 6
def subT (width : Nat) (l : Nat → Int) (n : Nat) : List UInt8 :=
  binT (subKind width l n) 4 ++ (binT (shiftN l n width) 4 ++ bodyT (subKind width l n) (width - shiftN l n width) (shortX l n width) n)
end Go.Proofs.YtlncjgnomhpjnaaGreatDoor

