/-
  Small parts of subframe.Read.
-/
import Derived.Test.YtlncjgnomhpjnaaDoorGuess
namespace Go.Proofs.YtlncjgnomhpjnaaDoor
open Go.RowKit Go.Deep
set_option linter.unusedVariables false

theorem ret_bool {a b : Bool} (h : a = b) : Ending.returned (.bool a) = .returned (.bool b) := by rw [h]

/-- the call answers whether p is so -/
def Says (e : Ending) (p : Prop) : Prop := ∃ b : Bool, e = .returned (.bool b) ∧ (b = true ↔ p)
theorem Says.yes {p : Prop} (h : p) : Says (.returned (.bool true)) p := ⟨true, rfl, by simp [h]⟩
theorem Says.no {p : Prop} (h : ¬ p) : Says (.returned (.bool false)) p := ⟨false, rfl, by simp [h]⟩
theorem Says.true_of {e : Ending} {p : Prop} (h : Says e p) (hp : p) : e = .returned (.bool true) := by
  obtain ⟨b, rfl, hb⟩ := h
  rw [hb.2 hp]
theorem Says.false_of {e : Ending} {p : Prop} (h : Says e p) (hp : ¬ p) : e = .returned (.bool false) := by
  obtain ⟨b, rfl, hb⟩ := h
  cases b
  · rfl
  · exact absurd (hb.1 rfl) hp

theorem within_any (v lo hi : Int) (w : World) :
    Calls Tryd.prog 27 #[.int .i64 v, .int .i64 lo, .int .i64 hi] w fun e w' => e = .returned (.bool (within v lo hi)) ∧ w' = w := by
  by_cases h : lo ≤ v
  · go_enter Tryd.func27, Tryd.ntmps27
    go_wp2
    go_ret
    exact ⟨ret_bool (by simp [within, h]), rfl⟩
  · have hd : decide (lo ≤ v) = false := decide_eq_false h
    go_enter Tryd.func27, Tryd.ntmps27
    go_wp2
    go_ret
    exact ⟨ret_bool (by simp [within]; omega), rfl⟩

set_option maxHeartbeats 400000 in
theorem isSample_any (d : Nat) (v : Int) (w : World) (h1 : 1 ≤ d) (h2 : d ≤ 13) :
    Calls Tryd.prog 28 #[.int .i64 d, .int .i64 v] w fun e w' => e = .returned (.bool (fitsB d v)) ∧ w' = w := by
  have hp1 := ipow_pos (d - 1)
  have hp2 := ipow_le (d - 1) 4096 (Nat.le_trans (Nat.pow_le_pow_right (by omega) (by omega : d - 1 ≤ 12)) (by decide))
  go_enter Tryd.func28, Tryd.ntmps28
  go_wp2_with (go_at_call 27; refine (within_any _ _ _ _).mono ?_; rintro e w' ⟨rfl, rfl⟩)
  go_ret
  exact ⟨rfl, rfl⟩

theorem isSize_any (a n : Int) (w : World) :
    Calls Tryd.prog 15 #[.int .i64 a, .int .i64 n] w fun e w' => e = .returned (.bool (within a 1 13 && within n 1 32)) ∧ w' = w := by
  cases h : within a 1 13
  · go_enter Tryd.func15, Tryd.ntmps15
    go_wp2_with (go_at_call 27; refine (within_any _ _ _ _).mono ?_; rintro e w' ⟨rfl, rfl⟩)
    go_ret
    exact ⟨rfl, rfl⟩
  · go_enter Tryd.func15, Tryd.ntmps15
    go_wp2_with (go_at_call 27; refine (within_any _ _ _ _).mono ?_; rintro e w' ⟨rfl, rfl⟩)
    go_ret
    exact ⟨by simp, rfl⟩

theorem orderOf_any (kind : Nat) (w : World) (h : 2 ≤ kind) (h7 : kind ≤ 7) :
    Calls Tryd.prog 62 #[.int .i64 kind] w fun e w' => e = .returned (.int .i64 (ord kind)) ∧ w' = w := by
  have HO : Hid (ord kind = if kind = 7 then 2 else kind - 2) := rfl
  by_cases e : kind = 7
  · have h1 : ((kind : Int) == 7) = true := by simp; omega
    go_enter Tryd.func62, Tryd.ntmps62
    go_wp2
    go_ret
    exact ⟨ret_int (by rw [HO.out, if_pos e]; rfl), rfl⟩
  · have h1 : ((kind : Int) == 7) = false := by simp; omega
    go_enter Tryd.func62, Tryd.ntmps62
    go_wp2
    go_ret
    exact ⟨ret_int (by rw [HO.out, if_neg e]; omega), rfl⟩

/-- whether n places may be cut so -/
def cutB (n o c : Nat) : Bool := decide (n / 2 ^ c * 2 ^ c = n) && decide (o < n / 2 ^ c)
set_option maxHeartbeats 400000 in
theorem partSize_any (n o c : Nat) (w : World) (hn : n ≤ 32) (ho : o ≤ 4) (hc : c ≤ 3) :
    Calls Tryd.prog 83 #[.int .i64 n, .int .i64 o, .int .i64 c] w fun e w' => e = .returned (.tuple #[.int .i64 ((n / 2 ^ c : Nat) : Int), .bool (cutB n o c)]) ∧ w' = w := by
  have HC : Hid (∀ c, cutB n o c = (decide (n / 2 ^ c * 2 ^ c = n) && decide (o < n / 2 ^ c))) := fun _ => rfl
  have e2 : ((n / 2 ^ c : Nat) : Int) = (n : Int) / 2 ^ c := by simp
  have hd1 : 0 ≤ (n : Int) / 2 ^ c := by rw [← e2]; exact Int.natCast_nonneg _
  have hd2 : (n : Int) / 2 ^ c ≤ 32 := by rw [← e2]; have := Nat.div_le_self n (2 ^ c); omega
  have hp1 := ipow_pos c
  have hp2 := ipow_le c 8 (Nat.le_trans (Nat.pow_le_pow_right (by omega) (by omega : c ≤ 3)) (by decide))
  have hm1 : 0 ≤ (n : Int) / 2 ^ c * 2 ^ c := Int.mul_nonneg hd1 (by omega)
  have hm2 : (n : Int) / 2 ^ c * 2 ^ c ≤ 256 := by
    have : (n : Int) / 2 ^ c * 2 ^ c ≤ 32 * 8 := Int.mul_le_mul hd2 hp2 (by omega) (by omega)
    omega
  have e3 : ((n / 2 ^ c * 2 ^ c : Nat) : Int) = (n : Int) / 2 ^ c * 2 ^ c := by simp
  have HE2 : Hid (((n / 2 ^ c : Nat) : Int) = (n : Int) / 2 ^ c) := e2
  by_cases h : n / 2 ^ c * 2 ^ c = n
  · have ht : ((n : Int) / 2 ^ c * 2 ^ c == (n : Int)) = true := by rw [← e3]; simp; omega
    have HH : Hid (n / 2 ^ c * 2 ^ c = n) := h
    clear h e2 e3
    go_enter Tryd.func83, Tryd.ntmps83
    go_wp2
    go_ret2
    refine ⟨?_, rfl⟩
    rw [HC.out, HE2.out]
    have h1 : decide (n / 2 ^ c * 2 ^ c = n) = true := decide_eq_true HH.out
    have h2 : decide (o < n / 2 ^ c) = decide ((o : Int) < (n : Int) / 2 ^ c) := by rw [decide_eq_decide, ← HE2.out]; omega
    rw [h1, h2]; rfl
  · have ht : ((n : Int) / 2 ^ c * 2 ^ c == (n : Int)) = false := by rw [← e3]; simp; omega
    have HH : Hid (¬ n / 2 ^ c * 2 ^ c = n) := h
    clear h e2 e3
    go_enter Tryd.func83, Tryd.ntmps83
    go_wp2
    go_ret2
    refine ⟨?_, rfl⟩
    rw [HC.out, HE2.out]
    have h1 : decide (n / 2 ^ c * 2 ^ c = n) = false := decide_eq_false HH.out
    rw [h1]; rfl

/-- the table of weights, as it is laid -/
def TabAt (w : World) (g : Nat) : Prop := ∀ r c, r < 5 → c < 4 → w.cell? ⟨g, 4 * r + c, none⟩ = some (.int .i64 (tab r c))

/-- the guesser of a kind -/
def gV (kind : Nat) (a c : Int) : Value := .agg #[.int .i64 (ord kind), .int .i64 (wt kind a c 0), .int .i64 (wt kind a c 1), .int .i64 (wt kind a c 2), .int .i64 (wt kind a c 3), .int .i64 (scl kind : Int)]

set_option maxHeartbeats 1000000 in
theorem fixed_any (kind : Nat) (a c : Int) (w : World) (h2 : 2 ≤ kind) (h6 : kind ≤ 6) (hT : TabAt w 2) (hg : 2 < w.heap.size) :
    Calls Tryd.prog 65 #[.int .i64 kind] w fun e w' => e = .returned (gV kind a c) ∧ Below w.heap.size w w' := by
  have fin : ∀ o v, Below w.heap.size w ((w.alloc o).setCell ⟨w.heap.size, 0, none⟩ v) := fun o v => ((Below.refl _ _).alloc (Nat.le_refl _) _).setCell (Nat.le_refl _) _
  have hal : ∀ o j, (w.alloc o).cell? ⟨2, j, none⟩ = w.cell? ⟨2, j, none⟩ := fun o j => World.cell?_alloc_lt w o ⟨2, j, none⟩ hg
  obtain rfl | rfl | rfl | rfl | rfl : kind = 2 ∨ kind = 3 ∨ kind = 4 ∨ kind = 5 ∨ kind = 6 := by omega
  · have t0 : w.cell? ⟨2, 0, none⟩ = some (.int .i64 0) := hT 0 0 (by omega) (by omega)
    have t1 : w.cell? ⟨2, 1, none⟩ = some (.int .i64 0) := hT 0 1 (by omega) (by omega)
    have t2 : w.cell? ⟨2, 2, none⟩ = some (.int .i64 0) := hT 0 2 (by omega) (by omega)
    have t3 : w.cell? ⟨2, 3, none⟩ = some (.int .i64 0) := hT 0 3 (by omega) (by omega)
    clear hT
    go_enter Tryd.func65, Tryd.ntmps65
    go_wp2
    refine bodyPost_ret (v := gV 2 a c) (by simp [results, Tryd.results65, go_sem, gV, ord, wt, tab, scl]) rfl ⟨rfl, ?_⟩
    exact ((Below.refl _ _).alloc (Nat.le_refl _) _)
  · have t0 : w.cell? ⟨2, 4, none⟩ = some (.int .i64 1) := hT 1 0 (by omega) (by omega)
    have t1 : w.cell? ⟨2, 5, none⟩ = some (.int .i64 0) := hT 1 1 (by omega) (by omega)
    have t2 : w.cell? ⟨2, 6, none⟩ = some (.int .i64 0) := hT 1 2 (by omega) (by omega)
    have t3 : w.cell? ⟨2, 7, none⟩ = some (.int .i64 0) := hT 1 3 (by omega) (by omega)
    clear hT
    go_enter Tryd.func65, Tryd.ntmps65
    go_wp2
    refine bodyPost_ret (v := gV 3 a c) (by simp [results, Tryd.results65, go_sem, gV, ord, wt, tab, scl]) rfl ⟨rfl, ?_⟩
    exact ((Below.refl _ _).alloc (Nat.le_refl _) _)
  · have t0 : w.cell? ⟨2, 8, none⟩ = some (.int .i64 2) := hT 2 0 (by omega) (by omega)
    have t1 : w.cell? ⟨2, 9, none⟩ = some (.int .i64 (-1)) := hT 2 1 (by omega) (by omega)
    have t2 : w.cell? ⟨2, 10, none⟩ = some (.int .i64 0) := hT 2 2 (by omega) (by omega)
    have t3 : w.cell? ⟨2, 11, none⟩ = some (.int .i64 0) := hT 2 3 (by omega) (by omega)
    clear hT
    go_enter Tryd.func65, Tryd.ntmps65
    go_wp2
    refine bodyPost_ret (v := gV 4 a c) (by simp [results, Tryd.results65, go_sem, gV, ord, wt, tab, scl]) rfl ⟨rfl, ?_⟩
    exact ((Below.refl _ _).alloc (Nat.le_refl _) _)
  · have t0 : w.cell? ⟨2, 12, none⟩ = some (.int .i64 3) := hT 3 0 (by omega) (by omega)
    have t1 : w.cell? ⟨2, 13, none⟩ = some (.int .i64 (-3)) := hT 3 1 (by omega) (by omega)
    have t2 : w.cell? ⟨2, 14, none⟩ = some (.int .i64 1) := hT 3 2 (by omega) (by omega)
    have t3 : w.cell? ⟨2, 15, none⟩ = some (.int .i64 0) := hT 3 3 (by omega) (by omega)
    clear hT
    go_enter Tryd.func65, Tryd.ntmps65
    go_wp2
    refine bodyPost_ret (v := gV 5 a c) (by simp [results, Tryd.results65, go_sem, gV, ord, wt, tab, scl]) rfl ⟨rfl, ?_⟩
    exact ((Below.refl _ _).alloc (Nat.le_refl _) _)
  · have t0 : w.cell? ⟨2, 16, none⟩ = some (.int .i64 4) := hT 4 0 (by omega) (by omega)
    have t1 : w.cell? ⟨2, 17, none⟩ = some (.int .i64 (-6)) := hT 4 1 (by omega) (by omega)
    have t2 : w.cell? ⟨2, 18, none⟩ = some (.int .i64 4) := hT 4 2 (by omega) (by omega)
    have t3 : w.cell? ⟨2, 19, none⟩ = some (.int .i64 (-1)) := hT 4 3 (by omega) (by omega)
    clear hT
    go_enter Tryd.func65, Tryd.ntmps65
    go_wp2
    refine bodyPost_ret (v := gV 6 a c) (by simp [results, Tryd.results65, go_sem, gV, ord, wt, tab, scl]) rfl ⟨rfl, ?_⟩
    exact ((Below.refl _ _).alloc (Nat.le_refl _) _)
end Go.Proofs.YtlncjgnomhpjnaaDoor
