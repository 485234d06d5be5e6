/-
  The program's packer: the common shift, the short samples, all the same, the lagged sums.
-/
import Derived.Test.YtlncjgnomhpjnaaDoorWriter3
import Derived.Test.YtlncjgnomhpjnaaDoorCodeShift
import Derived.Test.YtlncjgnomhpjnaaDoorReadTop2
namespace Go.Proofs.YtlncjgnomhpjnaaDoor
open Go.RowKit Go.Deep
set_option linter.unusedVariables false

theorem IntsAt.belowB {w w' : World} {B : Nat} {a : Option Addr} {n : Nat} {f : Nat → Int} (h : IntsAt w a n f) (hb : Below B w w') (hl : ∀ x, a = some x → 0 < n → x.block < B) : IntsAt w' a n f := fun i hi => by
  obtain ⟨x, hx, hc⟩ := h i hi
  refine ⟨x, hx, ?_⟩
  rw [hb.cell (by have := hl x hx (by omega); cases i <;> simpa [Addr.add] using this), hc]

/-- the table of trailing zeros, as far as it is asked -/
def TzAt (w : World) (g : Nat) : Prop := ∀ t : Nat, t ≤ 12 → w.cell? ⟨g, 285870213051353865 * 2 ^ t % 18446744073709551616 / 288230376151711744, none⟩ = some (.int .u8 (t : Int))

set_option maxHeartbeats 1000000 in
theorem tz64_any (U : Nat) (w : World) (p M : Int) (I t : Nat) (hU : ((U : Int) == 0) = false) (hA : bits .and .u64 (U : Int) (IntKind.u64.wrap (-(U : Int))) = p) (hM : IntKind.u64.wrap (p * 285870213051353865) = M)
    (hI : M / 288230376151711744 = I) (hI64 : I < 64) (ht : t ≤ 12) (hc : w.cell? ⟨1, I, none⟩ = some (.int .u8 (t : Int))) :
    Calls Tryd.prog 57 #[.int .u64 U] w fun e w' => e = .returned (.int .i64 t) ∧ ∃ m, w' = w.drewN m := by
  go_enter Tryd.func57, Tryd.ntmps57
  go_wp2
  go_ret
  exact ⟨rfl, 0, rfl⟩
theorem tz64_is (m t : Nat) (w : World) (ht : t ≤ 12) (hU : 2 ^ t * (2 * m + 1) < 2 ^ 64) (hT : TzAt w 1) :
    Calls Tryd.prog 57 #[.int .u64 ((2 ^ t * (2 * m + 1) : Nat) : Int)] w fun e w' => e = .returned (.int .i64 t) ∧ ∃ m, w' = w.drewN m := by
  have hA := and_neg t m (by omega) hU
  have h0 : 0 < 2 ^ t * (2 * m + 1) := Nat.mul_pos (Nat.two_pow_pos t) (by omega)
  have hz : ∀ U : Nat, 0 < U → ((U : Int) == 0) = false := fun U h => by simp; omega
  refine tz64_any _ w _ _ _ t (hz _ h0) hA rfl ?_ ?_ ht (hT t ht)
  · rw [IntKind.wrap_u64]
    have e : ((2 ^ t : Nat) : Int) * 285870213051353865 = ((285870213051353865 * 2 ^ t : Nat) : Int) := by rw [Nat.mul_comm]; rfl
    rw [e]; omega
  · omega
set_option maxHeartbeats 1000000 in
theorem tz_is (m t : Nat) (w : World) (ht : t ≤ 12) (hU : 2 ^ t * (2 * m + 1) < 2 ^ 64) (hT : TzAt w 1) :
    Calls Tryd.prog 40 #[.int .u64 ((2 ^ t * (2 * m + 1) : Nat) : Int)] w fun e w' => e = .returned (.int .i64 t) ∧ ∃ m, w' = w.drewN m := by
  have HT := Hid.mk' (fun u (h : TzAt u 1) => tz64_is m t u ht hU h)
  have HTT := Hid.mk' hT
  clear hT hU
  generalize 2 ^ t * (2 * m + 1) = U at *
  go_enter Tryd.func40, Tryd.ntmps40
  go_wp2_with (go_at_call 57; refine (HT.out _ ?_).mono ?_; exact HTT.out; rintro e w1 ⟨rfl, q, hw⟩; subst w1; clear HT)
  go_ret
  exact ⟨rfl, _, rfl⟩

theorem TzAt.drewN {w : World} {g : Nat} (h : TzAt w g) (m : Nat) : TzAt (w.drewN m) g := h
set_option maxHeartbeats 1000000 in
theorem commonShift_any (a : Option Addr) (n c width : Nat) (l : Nat → Int) (w : World) (hn : n ≤ 32) (hw1 : 1 ≤ width) (hw : width ≤ 13) (hl : ∀ j, j < n → fitsB width (l j) = true) (hI : IntsAt w a n l) (hT : TzAt w 1) :
    Calls Tryd.prog 29 #[.slice a n c] w fun e w' => e = .returned (.int .i64 (shiftN l n width)) ∧ ∃ m, w' = w.drewN m := by
  have HI := Hid.mk' hI
  have HT := Hid.mk' hT
  have HL := Hid.mk' hl
  clear hI hT hl
  go_enter Tryd.func29, Tryd.ntmps29
  go_wp2
  go_loopw [3, 8] (fun v i wr => ∃ j : Nat, ∃ z : Int, j ≤ n ∧ i = .int .i64 j ∧ v = .int .i64 z ∧ Hid (OrOf l j z) ∧ ∃ m, wr = w.drewN m) (fun _ i _ => n - (intOf i).toNat)
  case atStart => exact ⟨0, 0, by omega, rfl, rfl, OrOf.zero l, 0, rfl⟩
  case round =>
    obtain ⟨j, z, hj, rfl, rfl, HO, m, rfl⟩ := hrel
    by_cases hlt : j < n
    · obtain ⟨bb, off, hx, hc⟩ := HI.out.open (by omega)
      cases hx
      have hcj := hc j hlt
      clear hc
      go_wp2
      go_roundw
      case rel => exact ⟨j + 1, _, by omega, by go_num, rfl, HO.out.step, _, rfl⟩
      case measure => simp [intOf]; omega
    · have e : j = n := by omega
      subst e
      by_cases hz : z = 0
      · have tz : (z == 0) = true := by simp [hz]
        have HS := Hid.mk' (HO.out.shift0 hw HL.out hz)
        go_wp2
        go_ret
        exact ⟨ret_int (by rw [HS.out]; rfl), _, rfl⟩
      · have tz : (z == 0) = false := by simp [hz]
        obtain ⟨q, h1, h2, h3⟩ := HO.out.tz hw1 hw HL.out hz
        have HTZ := Hid.mk' (fun u (h : TzAt u 1) => tz_is q (shiftN l j width) u h3 h2 h)
        clear h2 h3
        generalize 2 ^ (shiftN l j width) * (2 * q + 1) = U at *
        go_wp2_with (go_at_call 40; refine (HTZ.out _ ?_).mono ?_; exact HT.out; rintro e w1 ⟨rfl, r, hw⟩; subst w1; clear HTZ)
        go_ret
        exact ⟨rfl, _, rfl⟩

set_option maxHeartbeats 1000000 in
theorem shorten_any (a : Option Addr) (n c k : Nat) (l : Nat → Int) (w : World) (hn : n ≤ 32) (hk : k ≤ 12) (hI : IntsAt w a n l) (hlow : ∀ y, a = some y → 0 < n → y.block < w.heap.size) :
    Calls Tryd.prog 30 #[.slice a n c, .int .i64 k] w fun e w' => e = .returned (.slice (some ⟨w.heap.size, 0, none⟩) n n) ∧ w'.rowIs w.heap.size 3 n (cutV n (fun i => l i / 2 ^ k)) ∧ Below w.heap.size w w' := by
  have hmk := run_make_row' (P := Tryd.prog) 22 3 (.int .i64 0) 8 Tryd.underlying22 infoInt rfl .i64 .i64 n (by omega) (by omega)
  have hm : min k 64 = k := by omega
  have HI := Hid.mk' (fun u (h : Below w.heap.size w u) => hI.belowB h hlow)
  clear hI hlow
  go_enter Tryd.func30, Tryd.ntmps30
  go_wp2
  clear hmk
  go_loopw [13] (fun i wr => ∃ j : Nat, j ≤ n ∧ i = .int .i64 j ∧ Hid (wr.rowIs w.heap.size 3 n (cutV j (fun i => l i / 2 ^ k)) ∧ Below w.heap.size w wr)) (fun i _ => n - (intOf i).toNat)
  case atStart => exact ⟨0, Nat.zero_le _, rfl, (World.rowIs_made w (.int .i64 0) n 3).congr fun i _ => by simp [cutV, cutI], (Below.refl _ _).alloc (Nat.le_refl _) _⟩
  case round =>
    obtain ⟨j, hj, rfl, HR⟩ := hrel
    by_cases hlt : j < n
    · obtain ⟨bb, off, hx, hc⟩ := (HI.out wr HR.out.2).open (by omega)
      cases hx
      have hcj := hc j hlt
      have hc1 := HR.out.1.cell hlt
      have hf1 := HR.out.1.frozen j
      unfold cutV at hc1
      clear hc
      go_wp2
      go_roundw
      case rel => exact ⟨j + 1, by omega, by go_num, cutV_step rfl (HR.out.1.set j _), HR.out.2.setCell (Nat.le_refl _) _⟩
      case measure => simp [intOf]; omega
    · have e : j = n := by omega
      subst e
      go_wp2
      go_ret
      exact ⟨rfl, HR.out.1, HR.out.2⟩
end Go.Proofs.YtlncjgnomhpjnaaDoor
