import Derived.Test.YtlncjgnomhpjnaaSumWalksB
import Derived.Test.YtlncjgnomhpjnaaBase
namespace Go.Proofs.Ytlncjgnomhpjnaa
open Go.RowKit

theorem info5 : (Try.prog.info? 5).map (fun i => (i.zero, i.size, i.bytes)) = some (some (.int .u8 0), 1, 1) := by kernel_rfl

def lv (b : Bool) : Int := if b then 49 else 48
theorem lv_lo (b : Bool) : 48 ≤ lv b := by cases b <;> decide
theorem lv_hi (b : Bool) : lv b ≤ 49 := by cases b <;> decide
theorem lv_ltr (b : Bool) : lv b = ((ltr b).toNat : Int) := by cases b <;> rfl
theorem lv_not (b : Bool) : 97 - lv b = lv (!b) := by cases b <;> rfl

/-- the letters that are laid already -/
def laidTo (m : Nat → Bool) (i j : Nat) : Int := if j < i then lv (m j) else 0
theorem laidTo_at (m : Nat → Bool) (k : Nat) : laidTo m (k + 1) k = lv (m k) := by unfold laidTo; rw [if_pos (by omega)]
theorem laidTo_other (m : Nat → Bool) (k j : Nat) (h : j ≠ k) : laidTo m (k + 1) j = laidTo m k j := by
  unfold laidTo
  by_cases e : j < k
  · rw [if_pos e, if_pos (by omega)]
  · rw [if_neg e, if_neg (by omega)]
/-- one letter more, the letter 0 laid first -/
theorem RowB.one {w : World} {b n k : Nat} {m : Nat → Bool} (h : RowB w b n (laidTo m k)) (hk : k < n) (hm : m k = true) :
    RowB ((w.setCell ⟨b, k, none⟩ (.int .u8 48)).setCell ⟨b, k, none⟩ (.int .u8 49)) b n (laidTo m (k + 1)) := by
  have h1 : RowB (w.setCell ⟨b, k, none⟩ (.int .u8 48)) b n (fun j => if j = k then 48 else laidTo m k j) :=
    h.set k 48 hk (by simp) (fun j _ hj => by simp [hj])
  refine h1.set k 49 hk (by rw [laidTo_at, hm]; rfl) (fun j _ hj => ?_)
  rw [laidTo_other _ _ _ hj]; simp [hj]
theorem RowB.nought {w : World} {b n k : Nat} {m : Nat → Bool} (h : RowB w b n (laidTo m k)) (hk : k < n) (hm : m k = false) :
    RowB (w.setCell ⟨b, k, none⟩ (.int .u8 48)) b n (laidTo m (k + 1)) :=
  h.set k 48 hk (by rw [laidTo_at, hm]; rfl) (fun j _ hj => laidTo_other _ _ _ hj)

set_option maxHeartbeats 400000 in
theorem spelt_any (s : ByteArray) (w : World) (hs : s.size ≤ 2097152) :
    Calls Try.prog 36 #[.string s] w fun e w' => e = .returned (.string (strOf (fun j => ltr (msgBit s.data.toList j)) (8 * s.size))) ∧ Up w w' := by
  obtain ⟨i0, hi, hz0, hz1, hz2⟩ := info_parts info5
  have hmk : ∀ u : World, (Instr.makeSlice 55 (.int .i64 (8 * (s.size : Int))) (.int .i64 (8 * (s.size : Int)))).run Try.prog u =
      .ok (.slice (some ⟨u.heap.size, 0, none⟩) (8 * s.size) (8 * s.size)) (u.alloc (.cells (madeCells #[.int .u8 0] (8 * s.size)) 5)) := fun u => by
    have h := run_make (P := Try.prog) u 55 5 i0 (.int .u8 0) Try.underlying55 hi hz0 .i64 .i64 (8 * (s.size : Int)) (8 * (s.size : Int)) (by omega) (Int.le_refl _) (by rw [hz2]; omega) (by omega)
    have e : (8 * (s.size : Int)).toNat = 8 * s.size := by omega
    rw [e] at h
    simpa [hz1, Value.cells] using h
  go_enter Try.func36, Try.ntmps36
  go_wp2
  clear hmk
  go_loopw [4] (fun i wr => ∃ k : Nat, k ≤ 8 * s.size ∧ i = .int .i64 k ∧ Up w wr ∧ w.heap.size < wr.heap.size ∧ RowB wr w.heap.size (8 * s.size) (laidTo (msgBit s.data.toList) k)) (fun i _ => 8 * s.size - (intOf i).toNat)
  case atStart =>
    refine ⟨0, Nat.zero_le _, rfl, (Up.refl _).alloc _ _, by simp, ?_⟩
    exact RowB.made w _ _
  case round =>
    obtain ⟨k, hk, rfl, hup, hsz, hrow⟩ := hrel
    by_cases hlt : k < 8 * s.size
    · have hc1 : wr.cell? ⟨w.heap.size, k, none⟩ = some (.int .u8 (laidTo (msgBit s.data.toList) k k)) := hrow k hlt
      have hf1 : wr.frozen? ⟨w.heap.size, k, none⟩ = false := hup.free (Nat.le_refl _)
      have hq0 : 0 ≤ (k : Int) / 8 := by omega
      have hq1 : (k : Int) / 8 < (s.size : Int) := by omega
      have hq2 : IntKind.i64.wrap ((k : Int) / 8) = (k : Int) / 8 := by rw [IntKind.wrap_i64]; omega
      have hq3 : k / 8 < s.size := by omega
      have hq4 : s[k / 8].toNat < 256 := UInt8.toNat_lt _
      have hq5 : (1 : Int) ≤ 2 ^ (7 - k % 8) := by have : 0 < 2 ^ (7 - k % 8) := Nat.two_pow_pos _; exact_mod_cast this
      have hq6 : (2 : Int) ^ (7 - k % 8) ≤ 128 := by have : 2 ^ (7 - k % 8) ≤ 2 ^ 7 := Nat.pow_le_pow_right (by omega) (by omega); exact_mod_cast this
      have hq7 : 0 ≤ (s[k / 8].toNat : Int) / 2 ^ (7 - k % 8) := Int.ediv_nonneg (by omega) (by omega)
      have hq8 : (s[k / 8].toNat : Int) / 2 ^ (7 - k % 8) ≤ 255 := Int.le_trans (Int.ediv_le_self _ (by omega)) (by omega)
      have hbit : ((s[k / 8].toNat : Int) / 2 ^ (7 - k % 8) % 2 == 1) = msgBit s.data.toList k := by
        unfold msgBit
        rw [getD_byte s _ hq3, Nat.testBit_eq_decide_div_mod_eq, Bool.eq_iff_iff]
        simp only [beq_iff_eq, decide_eq_true_eq]
        constructor
        · intro h; exact_mod_cast h
        · intro h; exact_mod_cast h
      by_cases hb : msgBit s.data.toList k = true
      · rw [hb] at hbit
        go_wp2
        go_region
        all_goals go_wp2
        all_goals go_roundw
        case rel => exact ⟨k + 1, by omega, by go_num, ((hup.setCell (Nat.le_refl _) _).setCell (Nat.le_refl _) _).drew, by simpa using hsz, (hrow.one hlt hb).drew⟩
        case measure => simp [intOf]; omega
      · have hb' : msgBit s.data.toList k = false := by simpa using hb
        rw [hb'] at hbit
        go_wp2
        go_region
        all_goals go_wp2
        all_goals go_roundw
        case rel => exact ⟨k + 1, by omega, by go_num, (hup.setCell (Nat.le_refl _) _).drew, by simpa using hsz, (hrow.nought hlt hb').drew⟩
        case measure => simp [intOf]; omega
    · have hcv := run_rowString (P := Try.prog) wr 55 9 5 w.heap.size 0 (8 * s.size) (8 * s.size) (fun j => ltr (msgBit s.data.toList j)) Try.underlying55 Try.underlying5 Try.underlying9 (fun j hj => by
        rw [Nat.zero_add, hrow j hj]; unfold laidTo; rw [if_pos (by omega), lv_ltr])
      go_wp2
      go_ret
      exact ⟨rfl, hup⟩
end Go.Proofs.Ytlncjgnomhpjnaa
