/-
  The document's reader: orders, guesses, fits.
-/
import Derived.Test.YtlncjgnomhpjnaaDoorCursor2
import Derived.Test.YtlncjgnomhpjnaaDoorReadTop2
namespace Go.Proofs.YtlncjgnomhpjnaaDoor
open Go.RowKit Go.Deep
set_option linter.unusedVariables false

theorem cOrderOf_any (kind : Nat) (w : World) (h : 2 ≤ kind) (h7 : kind ≤ 7) :
    Calls Tryd.prog 53 #[.int .i64 kind] w fun e w' => e = .returned (.int .i64 (ord kind)) ∧ w' = w := by
  have HO : Hid (ord kind = if kind = 7 then 2 else kind - 2) := rfl
  by_cases e : kind = 7
  · have h1 : ((kind : Int) == 7) = true := by simp; omega
    go_enter Tryd.func53, Tryd.ntmps53
    go_wp2
    go_ret
    exact ⟨ret_int (by rw [HO.out, if_pos e]; rfl), rfl⟩
  · have h1 : ((kind : Int) == 7) = false := by simp; omega
    go_enter Tryd.func53, Tryd.ntmps53
    go_wp2
    go_ret
    exact ⟨ret_int (by rw [HO.out, if_neg e]; omega), rfl⟩

set_option maxHeartbeats 400000 in
theorem cFits_any (d : Nat) (v : Int) (w : World) (h1 : 1 ≤ d) (h2 : d ≤ 13) :
    Calls Tryd.prog 33 #[.int .i64 v, .int .i64 d] w fun e w' => e = .returned (.bool (fitsB d v)) ∧ w' = w := by
  have hp1 : (1 : Int) ≤ 2 ^ (d - 1) := by have : 0 < 2 ^ (d - 1) := Nat.two_pow_pos _; exact_mod_cast this
  have hp2 : (2 : Int) ^ (d - 1) ≤ 4096 := ipow_le (d - 1) 4096 (Nat.le_trans (Nat.pow_le_pow_right (by omega) (by omega : d - 1 ≤ 12)) (by decide))
  by_cases h : -(2 ^ (d - 1)) ≤ v
  · have hd : decide (-(2 ^ (d - 1)) ≤ v) = true := decide_eq_true h
    go_enter Tryd.func33, Tryd.ntmps33
    go_wp2
    go_ret
    refine ⟨ret_bool ?_, rfl⟩
    unfold fitsB within
    rw [hd]; simp; omega
  · have hd : decide (-(2 ^ (d - 1)) ≤ v) = false := decide_eq_false h
    go_enter Tryd.func33, Tryd.ntmps33
    go_wp2
    go_ret
    refine ⟨ret_bool ?_, rfl⟩
    unfold fitsB within
    rw [hd]; simp

theorem tdiv8 (a : Int) : (a.tdiv 8 = a / 8 ∧ 0 ≤ a.tmod 8) ∨ (a.tdiv 8 = a / 8 + 1 ∧ a.tmod 8 < 0) := by
  have e := Int.tmod_add_mul_tdiv a 8
  by_cases h : 0 ≤ a
  · left
    have h1 := Int.tdiv_eq_ediv_of_nonneg (b := 8) h
    omega
  · have h1 : a.tdiv 8 = -((-a) / 8) := by
      rw [← Int.tdiv_eq_ediv_of_nonneg (a := -a) (b := 8) (by omega), Int.neg_tdiv, Int.neg_neg]
    omega
theorem cDown_any (a : Int) (w : World) (h : -2000000 ≤ a ∧ a ≤ 2000000) :
    Calls Tryd.prog 86 #[.int .i64 a, .int .i64 8] w fun e w' => e = .returned (.int .i64 (a / 8)) ∧ w' = w := by
  have ht := tdiv8 a
  by_cases hm : a.tmod 8 < 0
  · have hd : decide (a.tmod 8 < 0) = true := decide_eq_true hm
    have he : a.tdiv 8 = a / 8 + 1 := by omega
    clear ht
    go_enter Tryd.func86, Tryd.ntmps86
    go_wp2
    go_ret
    exact ⟨ret_int rfl, rfl⟩
  · have hd : decide (a.tmod 8 < 0) = false := decide_eq_false hm
    have he : a.tdiv 8 = a / 8 := by omega
    clear ht
    go_enter Tryd.func86, Tryd.ntmps86
    go_wp2
    go_ret
    exact ⟨ret_int rfl, rfl⟩

set_option maxHeartbeats 1000000 in
theorem cGuess7_any (a c : Int) (g n i len : Nat) (x : Nat → Int) (w : World) (ha : -32 ≤ a ∧ a ≤ 32) (hc : -32 ≤ c ∧ c ≤ 32) (hn : n ≤ 32) (hi : i < n) (h2i : 2 ≤ i) (hX : ∀ j, j < i → -4096 ≤ x j ∧ x j ≤ 4096)
    (hrow : w.rowIs g 3 n (cutV len x)) (hil : i ≤ len) :
    Calls Tryd.prog 70 #[.int .i64 7, .int .i64 a, .int .i64 c, .slice (some ⟨g, 0, none⟩) n n, .int .i64 i] w fun e w' => e = .returned (.int .i64 (guessG 7 a c x i)) ∧ ∃ m, w' = w.drewN m := by
  have HG : Hid (guessG 7 a c x i = (a * x (i - 1) + c * x (i - 2)) / 8) := by
    show _ = _; simp [guessG, ord, sumG, wt]; congr 3
  have c1 : w.cell? ⟨g, i - 1, none⟩ = some (.int .i64 (x (i - 1))) := by
    have := hrow.cell (i := i - 1) (by omega); simpa [cutV, cutI, show i - 1 < len by omega] using this
  have c2 : w.cell? ⟨g, i - 2, none⟩ = some (.int .i64 (x (i - 2))) := by
    have := hrow.cell (i := i - 2) (by omega); simpa [cutV, cutI, show i - 2 < len by omega] using this
  have b1 := mul_bd ha (hX (i - 1) (by omega))
  have b2 := mul_bd hc (hX (i - 2) (by omega))
  generalize x (i - 1) = x1 at *
  generalize x (i - 2) = x2 at *
  clear hX hrow
  have v1 : IntKind.i64.wrap ((i : Int) - 1) = (i : Int) - 1 := by rw [IntKind.wrap_i64]; omega
  have v2 : IntKind.i64.wrap ((i : Int) - 2) = (i : Int) - 2 := by rw [IntKind.wrap_i64]; omega
  have t1 : ((i : Int) - 1).toNat = i - 1 := by omega
  have t2 : ((i : Int) - 2).toNat = i - 2 := by omega
  have l1 : 0 ≤ (i : Int) - 1 := by omega
  have l2 : 0 ≤ (i : Int) - 2 := by omega
  have l3 : (i : Int) - 1 < (n : Int) := by omega
  have l4 : (i : Int) - 2 < (n : Int) := by omega
  have v3 : IntKind.i64.wrap (a * x1) = a * x1 := by rw [IntKind.wrap_i64]; omega
  have v4 : IntKind.i64.wrap (c * x2) = c * x2 := by rw [IntKind.wrap_i64]; omega
  have v5 : IntKind.i64.wrap (a * x1 + c * x2) = a * x1 + c * x2 := by rw [IntKind.wrap_i64]; omega
  have HD := Hid.mk' (fun u => cDown_any (a * x1 + c * x2) u (by omega))
  go_enter Tryd.func70, Tryd.ntmps70
  go_wp2
  go_quiet ((go_at_call 86; exact (HD.out _).mono fun _ _ h => ⟨h.1, _, h.2⟩))
  go_wp2
  go_ret
  exact ⟨ret_int HG.out.symm, _, rfl⟩

set_option maxHeartbeats 1000000 in
theorem cGuessF_any (kind : Nat) (a c : Int) (g n i len : Nat) (x : Nat → Int) (w : World) (h2 : 2 ≤ kind) (h6 : kind ≤ 6) (hn : n ≤ 32) (hi : i < n) (hoi : kind - 2 ≤ i) (hX : ∀ j, j < i → -4096 ≤ x j ∧ x j ≤ 4096)
    (hrow : w.rowIs g 3 n (cutV len x)) (hil : i ≤ len) (hT : TabAt w 3) :
    Calls Tryd.prog 70 #[.int .i64 kind, .int .i64 a, .int .i64 c, .slice (some ⟨g, 0, none⟩) n n, .int .i64 i] w fun e w' => e = .returned (.int .i64 (guessG kind a c x i)) ∧ ∃ m, w' = w.drewN m := by
  obtain ⟨r, rfl⟩ : ∃ r, kind = r + 2 := ⟨kind - 2, by omega⟩
  have HG : Hid (guessG (r + 2) a c x i = sumG (tab r) x i r) := by
    show _ = _
    have e7 : ¬ r + 2 = 7 := by omega
    unfold guessG
    rw [if_neg e7, Int.ediv_one, show ord (r + 2) = r by unfold ord; rw [if_neg e7]; omega]
    exact sumG_congr r (fun j _ => by unfold wt; rw [if_neg e7]; rfl) (fun _ _ => rfl)
  have HX := Hid.mk' hX
  have HROW := Hid.mk' hrow
  have HT := Hid.mk' hT
  clear hX hrow hT
  go_enter Tryd.func70, Tryd.ntmps70
  have r1 : IntKind.i64.wrap ((r : Int) + 2 - 2) = (r : Int) := by rw [IntKind.wrap_i64]; omega
  go_wp2
  go_loopw [11, 12] (fun v jj wr => ∃ j : Nat, j ≤ r ∧ jj = .int .i64 j ∧ v = .int .i64 (sumG (tab r) x i j) ∧ ∃ m, wr = w.drewN m) (fun _ jj _ => r - (intOf jj).toNat)
  case atStart => exact ⟨0, Nat.zero_le _, rfl, rfl, 0, rfl⟩
  case round =>
    obtain ⟨j, hj, rfl, rfl, m, rfl⟩ := hrel
    by_cases hlt : j < r
    · have c1 : w.cell? ⟨g, i - 1 - j, none⟩ = some (.int .i64 (x (i - 1 - j))) := by
        have := HROW.out.cell (i := i - 1 - j) (by omega); simpa [cutV, cutI, show i - 1 - j < len by omega] using this
      have c2 : w.cell? ⟨3, 4 * r + j, none⟩ = some (.int .i64 (tab r j)) := HT.out r j (by omega) (by omega)
      have c3 : w.cell? ⟨3, r * 4 + j, none⟩ = some (.int .i64 (tab r j)) := by rw [Nat.mul_comm]; exact c2
      have htb : -32 ≤ tab r j ∧ tab r j ≤ 32 := by unfold tab; split <;> omega
      have hmb := mul_bd htb (HX.out (i - 1 - j) (by omega))
      have hsb := sumG_bd (w := tab r) (x := x) (i := i) (fun j => by unfold tab; split <;> omega) HX.out (by omega) j
      have HE : Hid (sumG (tab r) x i (j + 1) = sumG (tab r) x i j + tab r j * x (i - 1 - j)) := rfl
      have v1 : IntKind.i64.wrap ((i : Int) - 1) = (i : Int) - 1 := by rw [IntKind.wrap_i64]; omega
      have v2 : IntKind.i64.wrap ((i : Int) - 1 - (j : Int)) = (i : Int) - 1 - (j : Int) := by rw [IntKind.wrap_i64]; omega
      have t2 : ((i : Int) - 1 - (j : Int)).toNat = i - 1 - j := by omega
      have l1 : 0 ≤ (i : Int) - 1 - (j : Int) := by omega
      have l2 : (i : Int) - 1 - (j : Int) < (n : Int) := by omega
      have v3 : IntKind.i64.wrap (tab r j * x (i - 1 - j)) = tab r j * x (i - 1 - j) := by rw [IntKind.wrap_i64]; omega
      have v4 : IntKind.i64.wrap (sumG (tab r) x i j + tab r j * x (i - 1 - j)) = sumG (tab r) x i j + tab r j * x (i - 1 - j) := by rw [IntKind.wrap_i64]; omega
      go_wp2
      go_quiet ((fail))
      go_wp2
      go_roundw
      case rel => exact ⟨j + 1, by omega, by go_num, by rw [HE.out], _, rfl⟩
      case measure => simp [intOf]; omega
    · have e : j = r := by omega
      subst e
      go_wp2
      go_ret
      exact ⟨ret_int HG.out.symm, _, rfl⟩
end Go.Proofs.YtlncjgnomhpjnaaDoor
