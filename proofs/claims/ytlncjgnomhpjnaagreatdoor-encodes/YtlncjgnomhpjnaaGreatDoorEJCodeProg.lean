import Derived.Test.YtlncjgnomhpjnaaGreatDoorEJWriter
import Derived.Test.YtlncjgnomhpjnaaGreatDoorEJCodeMath
import Derived.Test.YtlncjgnomhpjnaaGreatDoorEJReadTop
/-
  The program's packer: the common shift, the short samples, all the same, the lagged sums.
-/
namespace Go.Proofs.YtlncjgnomhpjnaaGreatDoor
open Go.RowKit Go.Deep
set_option linter.unusedVariables false

theorem IntsAt.belowB {w w' : World} {B : Nat} {a : Option Addr} {n : Nat} {f : Nat → Int} (h : IntsAt w a n f) (hb : Below B w w') (hl : ∀ x, a = some x → 0 < n → x.block < B) : IntsAt w' a n f := fun i hi => by
  obtain ⟨x, hx, hc⟩ := h i hi
  refine ⟨x, hx, ?_⟩
  rw [hb.cell (by have := hl x hx (by omega); cases i <;> simpa [Addr.add] using this), hc]

/-- the table of trailing zeros, as far as it is asked -/
def TzAt (w : World) (g : Nat) : Prop := ∀ t : Nat, t ≤ 12 → w.cell? ⟨g, 285870213051353865 * 2 ^ t % 18446744073709551616 / 288230376151711744, none⟩ = some (.int .u8 (t : Int))

set_option maxHeartbeats 1000000 in
theorem tz64_any (U : Nat) (w : World) (p M : Int) (I t : Nat) (hU : ((U : Int) == 0) = false) (hA : bits .and .u64 (U : Int) (IntKind.u64.wrap (-(U : Int))) = p) (hM : IntKind.u64.wrap (p * 285870213051353865) = M)
    (hI : M / 288230376151711744 = I) (hI64 : I < 64) (ht : t ≤ 12) (hc : w.cell? ⟨6, I, none⟩ = some (.int .u8 (t : Int))) :
    Calls Tryz.prog 211 #[.int .u64 U] w fun e w' => e = .returned (.int .i64 t) ∧ ∃ m, w' = w.drewN m := by
  go_enter Tryz.func211, Tryz.ntmps211
  go_wp2
  go_ret
  exact ⟨rfl, 0, rfl⟩
theorem tz64_is (m t : Nat) (w : World) (ht : t ≤ 12) (hU : 2 ^ t * (2 * m + 1) < 2 ^ 64) (hT : TzAt w 6) :
    Calls Tryz.prog 211 #[.int .u64 ((2 ^ t * (2 * m + 1) : Nat) : Int)] w fun e w' => e = .returned (.int .i64 t) ∧ ∃ m, w' = w.drewN m := by
  have hA := and_neg t m (by omega) hU
  have h0 : 0 < 2 ^ t * (2 * m + 1) := Nat.mul_pos (Nat.two_pow_pos t) (by omega)
  have hz : ∀ U : Nat, 0 < U → ((U : Int) == 0) = false := fun U h => by simp; omega
  refine tz64_any _ w _ _ _ t (hz _ h0) hA rfl ?_ ?_ ht (hT t ht)
  · rw [IntKind.wrap_u64]
    have e : ((2 ^ t : Nat) : Int) * 285870213051353865 = ((285870213051353865 * 2 ^ t : Nat) : Int) := by rw [Nat.mul_comm]; rfl
    rw [e]; omega
  · omega
set_option maxHeartbeats 1000000 in
theorem tz_is (m t : Nat) (w : World) (ht : t ≤ 12) (hU : 2 ^ t * (2 * m + 1) < 2 ^ 64) (hT : TzAt w 6) :
    Calls Tryz.prog 189 #[.int .u64 ((2 ^ t * (2 * m + 1) : Nat) : Int)] w fun e w' => e = .returned (.int .i64 t) ∧ ∃ m, w' = w.drewN m := by
  have HT := Hid.mk' (fun u (h : TzAt u 6) => tz64_is m t u ht hU h)
  have HTT := Hid.mk' hT
  clear hT hU
  generalize 2 ^ t * (2 * m + 1) = U at *
  go_enter Tryz.func189, Tryz.ntmps189
  go_wp2_with (go_at_call 211; refine (HT.out _ ?_).mono ?_; exact HTT.out; rintro e w1 ⟨rfl, q, hw⟩; subst w1; clear HT)
  go_ret
  exact ⟨rfl, _, rfl⟩

theorem TzAt.drewN {w : World} {g : Nat} (h : TzAt w g) (m : Nat) : TzAt (w.drewN m) g := h
set_option maxHeartbeats 1000000 in
theorem commonShift_any (a : Option Addr) (n c width : Nat) (l : Nat → Int) (w : World) (hn : n ≤ 32) (hw1 : 1 ≤ width) (hw : width ≤ 13) (hl : ∀ j, j < n → fitsB width (l j) = true) (hI : IntsAt w a n l) (hT : TzAt w 6) :
    Calls Tryz.prog 166 #[.slice a n c] w fun e w' => e = .returned (.int .i64 (shiftN l n width)) ∧ ∃ m, w' = w.drewN m := by
  have HI := Hid.mk' hI
  have HT := Hid.mk' hT
  have HL := Hid.mk' hl
  clear hI hT hl
  go_enter Tryz.func166, Tryz.ntmps166
  go_wp2
  go_loopw [3, 8] (fun v i wr => ∃ j : Nat, ∃ z : Int, j ≤ n ∧ i = .int .i64 j ∧ v = .int .i64 z ∧ Hid (OrOf l j z) ∧ ∃ m, wr = w.drewN m) (fun _ i _ => n - (intOf i).toNat)
  case atStart => exact ⟨0, 0, by omega, rfl, rfl, OrOf.zero l, 0, rfl⟩
  case round =>
    obtain ⟨j, z, hj, rfl, rfl, HO, m, rfl⟩ := hrel
    by_cases hlt : j < n
    · obtain ⟨bb, off, hx, hc⟩ := HI.out.open (by omega)
      cases hx
      have hcj := hc j hlt
      clear hc
      go_wp2
      go_roundw
      case rel => exact ⟨j + 1, _, by omega, by go_num, rfl, HO.out.step, _, rfl⟩
      case measure => simp [intOf]; omega
    · have e : j = n := by omega
      subst e
      by_cases hz : z = 0
      · have tz : (z == 0) = true := by simp [hz]
        have HS := Hid.mk' (HO.out.shift0 hw HL.out hz)
        go_wp2
        go_ret
        exact ⟨ret_int (by rw [HS.out]; rfl), _, rfl⟩
      · have tz : (z == 0) = false := by simp [hz]
        obtain ⟨q, h1, h2, h3⟩ := HO.out.tz hw1 hw HL.out hz
        have HTZ := Hid.mk' (fun u (h : TzAt u 6) => tz_is q (shiftN l j width) u h3 h2 h)
        clear h2 h3
        generalize 2 ^ (shiftN l j width) * (2 * q + 1) = U at *
        go_wp2_with (go_at_call 189; refine (HTZ.out _ ?_).mono ?_; exact HT.out; rintro e w1 ⟨rfl, r, hw⟩; subst w1; clear HTZ)
        go_ret
        exact ⟨rfl, _, rfl⟩

set_option maxHeartbeats 1000000 in
theorem shorten_any (a : Option Addr) (n c k : Nat) (l : Nat → Int) (w : World) (hn : n ≤ 32) (hk : k ≤ 12) (hI : IntsAt w a n l) (hlow : ∀ y, a = some y → 0 < n → y.block < w.heap.size) :
    Calls Tryz.prog 167 #[.slice a n c, .int .i64 k] w fun e w' => e = .returned (.slice (some ⟨w.heap.size, 0, none⟩) n n) ∧ w'.rowIs w.heap.size 3 n (cutV n (fun i => l i / 2 ^ k)) ∧ Below w.heap.size w w' := by
  have hmk := run_make_row' (P := Tryz.prog) 29 3 (.int .i64 0) 8 Tryz.underlying29 infoInt rfl .i64 .i64 n (by omega) (by omega)
  have hm : min k 64 = k := by omega
  have HI := Hid.mk' (fun u (h : Below w.heap.size w u) => hI.belowB h hlow)
  clear hI hlow
  go_enter Tryz.func167, Tryz.ntmps167
  go_wp2
  clear hmk
  go_loopw [13] (fun i wr => ∃ j : Nat, j ≤ n ∧ i = .int .i64 j ∧ Hid (wr.rowIs w.heap.size 3 n (cutV j (fun i => l i / 2 ^ k)) ∧ Below w.heap.size w wr)) (fun i _ => n - (intOf i).toNat)
  case atStart => exact ⟨0, Nat.zero_le _, rfl, (World.rowIs_made w (.int .i64 0) n 3).congr fun i _ => by simp [cutV, cutI], (Below.refl _ _).alloc (Nat.le_refl _) _⟩
  case round =>
    obtain ⟨j, hj, rfl, HR⟩ := hrel
    by_cases hlt : j < n
    · obtain ⟨bb, off, hx, hc⟩ := (HI.out wr HR.out.2).open (by omega)
      cases hx
      have hcj := hc j hlt
      have hc1 := HR.out.1.cell hlt
      have hf1 := HR.out.1.frozen j
      unfold cutV at hc1
      clear hc
      go_wp2
      go_roundw
      case rel => exact ⟨j + 1, by omega, by go_num, cutV_step rfl (HR.out.1.set j _), HR.out.2.setCell (Nat.le_refl _) _⟩
      case measure => simp [intOf]; omega
    · have e : j = n := by omega
      subst e
      go_wp2
      go_ret
      exact ⟨rfl, HR.out.1, HR.out.2⟩
end Go.Proofs.YtlncjgnomhpjnaaGreatDoor

/-
  The program's packer: all the same, the lagged sums, the weights.
-/
namespace Go.Proofs.YtlncjgnomhpjnaaGreatDoor
open Go.RowKit Go.Deep
set_option linter.unusedVariables false

set_option maxHeartbeats 1000000 in
theorem allSame_any (a : Option Addr) (n c : Nat) (x : Nat → Int) (w : World) (hn : n ≤ 32) (hI : IntsAt w a n x) :
    Calls Tryz.prog 192 #[.slice a n c] w fun e w' => e = .returned (.bool (allSame x n)) ∧ ∃ m, w' = w.drewN m := by
  have HI := Hid.mk' hI
  clear hI
  go_enter Tryz.func192, Tryz.ntmps192
  go_wp2
  go_loopw [7] (fun i wr => ∃ j : Nat, j ≤ n ∧ i = .int .i64 j ∧ Hid (∀ i, i < j → x i = x 0) ∧ ∃ m, wr = w.drewN m) (fun i _ => n - (intOf i).toNat)
  case atStart => exact ⟨0, by omega, rfl, fun i hi => absurd hi (Nat.not_lt_zero i), 0, rfl⟩
  case round =>
    obtain ⟨j, hj, rfl, HS, m, rfl⟩ := hrel
    by_cases hlt : j < n
    · obtain ⟨bb, off, hx, hc⟩ := HI.out.open (by omega)
      cases hx
      have hcj := hc j hlt
      have hc0 := hc 0 (by omega)
      rw [Nat.add_zero] at hc0
      clear hc
      by_cases hne : x j = x 0
      · have t1 : (x j != x 0) = false := by simp [hne]
        have HE := Hid.mk' hne
        clear hne
        go_wp2
        go_roundw
        case rel => exact ⟨j + 1, by omega, by go_num, fun i hi => by
          by_cases e : i = j
          · subst e; exact HE.out
          · exact HS.out i (by omega), _, rfl⟩
        case measure => simp [intOf]; omega
      · have t1 : (x j != x 0) = true := by simp [hne]
        have HE := Hid.mk' hne
        clear hne
        go_wp2
        go_ret
        refine ⟨ret_bool ?_, _, rfl⟩
        cases e : allSame x n with
        | false => rfl
        | true => exact absurd ((allSame_iff x n).1 e j hlt) HE.out
    · have e : j = n := by omega
      subst e
      go_wp2
      go_ret
      exact ⟨ret_bool ((allSame_iff x j).2 HS.out).symm, _, rfl⟩

theorem lag_zero (x : Nat → Int) (k : Nat) : ∀ m, m ≤ k → lag x k m = 0
  | 0, _ => rfl
  | m + 1, h => by simp only [lag]; rw [lag_zero x k m (by omega), if_neg (by omega)]; rfl
set_option maxHeartbeats 1000000 in
theorem laggedSum_any (a : Option Addr) (n c k : Nat) (x : Nat → Int) (w : World) (hn : n ≤ 32) (hk : k ≤ 2) (hX : ∀ j, j < n → -4096 ≤ x j ∧ x j ≤ 4096) (hI : IntsAt w a n x) :
    Calls Tryz.prog 229 #[.slice a n c, .int .i64 k] w fun e w' => e = .returned (.int .i64 (lag x k n)) ∧ ∃ m, w' = w.drewN m := by
  have HI := Hid.mk' hI
  have HX := Hid.mk' hX
  clear hI hX
  go_enter Tryz.func229, Tryz.ntmps229
  go_wp2
  go_loopw [5, 6] (fun v i wr => ∃ j : Nat, k ≤ j ∧ j ≤ max n k ∧ i = .int .i64 j ∧ v = .int .i64 (lag x k j) ∧ ∃ m, wr = w.drewN m) (fun _ i _ => n - (intOf i).toNat)
  case atStart => exact ⟨k, by omega, by omega, rfl, by rw [lag_zero x k k (Nat.le_refl _)], 0, rfl⟩
  case round =>
    obtain ⟨j, hkj, hj, rfl, rfl, m, rfl⟩ := hrel
    by_cases hlt : j < n
    · obtain ⟨bb, off, hx, hc⟩ := HI.out.open (by omega)
      cases hx
      have hcj := hc j hlt
      have hck := hc (j - k) (by omega)
      clear hc
      have hb := lag_bd x k j (fun i hi => HX.out i (by omega))
      have hm := mulBd (a := 4096) (b := 4096) (HX.out j hlt) (HX.out (j - k) (by omega))
      have e1 : ((4096 * 4096 : Nat) : Int) = 16777216 := rfl
      rw [e1] at hm
      have HE : Hid (lag x k (j + 1) = lag x k j + x j * x (j - k)) := by show _ = _; simp only [lag]; rw [if_pos hkj]
      have v1 : IntKind.i64.wrap ((j : Int) - (k : Int)) = (j : Int) - (k : Int) := by rw [IntKind.wrap_i64]; omega
      have t1 : ((j : Int) - (k : Int)).toNat = j - k := by omega
      have l1 : 0 ≤ (j : Int) - (k : Int) := by omega
      have l2 : (j : Int) - (k : Int) < (n : Int) := by omega
      have v2 : IntKind.i64.wrap (x j * x (j - k)) = x j * x (j - k) := by rw [IntKind.wrap_i64]; omega
      have v3 : IntKind.i64.wrap (lag x k j + x j * x (j - k)) = lag x k j + x j * x (j - k) := by rw [IntKind.wrap_i64]; omega
      go_wp2
      go_quiet ((fail))
      go_wp2
      go_roundw
      case rel => exact ⟨j + 1, by omega, by omega, by go_num, by rw [HE.out], _, rfl⟩
      case measure => simp [intOf]; omega
    · have HE : Hid (lag x k n = lag x k j) := by
        show _ = _
        by_cases e : j = n
        · rw [e]
        · rw [lag_zero x k j (by omega), lag_zero x k n (by omega)]
      go_wp2
      go_ret
      exact ⟨ret_int HE.out.symm, _, rfl⟩

theorem tdivPos (a d : Int) (hd : 0 < d) : (a.tdiv d = a / d ∧ 0 ≤ a.tmod d) ∨ (a.tdiv d = a / d + 1 ∧ a.tmod d < 0) := by
  by_cases h : 0 ≤ a
  · left
    exact ⟨Int.tdiv_eq_ediv_of_nonneg h, Int.tmod_nonneg _ h⟩
  · have e := Int.tmod_add_mul_tdiv a d
    have e2 := Int.emod_add_mul_ediv a d
    have m1 := Int.emod_nonneg a (Int.ne_of_gt hd)
    have m2 := Int.emod_lt_of_pos a hd
    have h1 : a.tdiv d = -((-a) / d) := by
      rw [← Int.tdiv_eq_ediv_of_nonneg (a := -a) (b := d) (by omega), Int.neg_tdiv, Int.neg_neg]
    by_cases hz : a % d = 0
    · left
      have hdv : d ∣ a := Int.dvd_of_emod_eq_zero hz
      have : (-a) / d = -(a / d) := Int.neg_ediv_of_dvd hdv
      have h2 : a.tdiv d = a / d := by rw [h1, this, Int.neg_neg]
      refine ⟨h2, ?_⟩
      rw [h2] at e; omega
    · right
      have h3 : (-a) / d = -(a / d) - 1 := by
        have e3 := Int.emod_add_mul_ediv (-a) d
        have m3 := Int.emod_nonneg (-a) (Int.ne_of_gt hd)
        have m4 := Int.emod_lt_of_pos (-a) hd
        have hx : d * ((-a) / d + a / d) = -((-a) % d) - a % d := by rw [Int.mul_add]; omega
        have h5 : d * ((-a) / d + a / d + 1) = d - ((-a) % d) - a % d := by rw [Int.mul_add, hx]; omega
        have hq : ∀ q : Int, d * q = d - ((-a) % d) - a % d → q = 0 := fun q hq => by
          rcases Int.lt_trichotomy q 0 with h | h | h
          · have := Int.mul_le_mul_of_nonneg_left (show q ≤ -1 by omega) (Int.le_of_lt hd)
            omega
          · exact h
          · have := Int.mul_le_mul_of_nonneg_left (show 1 ≤ q by omega) (Int.le_of_lt hd)
            omega
        have := hq _ h5
        omega
      have h4 : a.tdiv d = a / d + 1 := by rw [h1, h3]; omega
      refine ⟨h4, ?_⟩
      rw [h4, Int.mul_add] at e; omega

set_option maxHeartbeats 400000 in
theorem divideDown_any (v d : Int) (w : World) (hd : 0 < d) (hv : -9000000000000000000 ≤ v ∧ v ≤ 9000000000000000000) :
    Calls Tryz.prog 238 #[.int .i64 v, .int .i64 d] w fun e w' => e = .returned (.int .i64 (v / d)) ∧ w' = w := by
  have hz : (d == 0) = false := by simp; omega
  have hz2 : ¬ d = 0 := by omega
  have hb : -9000000000000000000 ≤ v / d ∧ v / d ≤ 9000000000000000000 := by
    constructor
    · have h1 := Int.ediv_le_ediv hd hv.1
      have h2 : (-9000000000000000000 : Int) ≤ -9000000000000000000 / d := by
        rw [Int.le_ediv_iff_mul_le hd]
        have := Int.mul_le_mul_of_nonneg_left (show 1 ≤ d by omega) (show (0 : Int) ≤ 9000000000000000000 by omega)
        omega
      omega
    · by_cases h : 0 ≤ v
      · have := Int.ediv_le_self d h; omega
      · have := Int.ediv_neg_of_neg_of_pos (show v < 0 by omega) hd; omega
  have hcase := tdivPos v d hd
  have HB := Hid.mk' hb
  by_cases hm : v.tmod d < 0
  · have t1 : decide (v.tmod d < 0) = true := decide_eq_true hm
    have he : v.tdiv d = v / d + 1 := by omega
    have w1 : IntKind.i64.wrap (v / d + 1) = v / d + 1 := by rw [IntKind.wrap_i64]; omega
    have w2 : wrap64 (v / d) = v / d := by unfold wrap64; omega
    clear hcase hb
    generalize v / d = Q at *
    go_enter Tryz.func238, Tryz.ntmps238
    go_wp2
    go_ret
    exact ⟨ret_int (by first | rfl | omega), rfl⟩
  · have t1 : decide (v.tmod d < 0) = false := decide_eq_false hm
    have he : v.tdiv d = v / d := by omega
    have w1 : IntKind.i64.wrap (v / d) = v / d := by rw [IntKind.wrap_i64]; omega
    clear hcase hb
    generalize v / d = Q at *
    go_enter Tryz.func238, Tryz.ntmps238
    go_wp2
    go_ret
    exact ⟨ret_int (by first | rfl | omega), rfl⟩

theorem clamp_min (q : Int) : min (max q (-32)) 31 = clamp q := by
  unfold clamp; split
  · omega
  · split <;> omega
set_option maxHeartbeats 400000 in
theorem weight_any (v d : Int) (w : World) (hd : 0 < d) (hv : -9000000000000000000 ≤ v ∧ v ≤ 9000000000000000000) :
    Calls Tryz.prog 230 #[.int .i64 v, .int .i64 d] w fun e w' => e = .returned (.int .i64 (clamp (v / d))) ∧ ∃ m, w' = w.drewN m := by
  have HD := Hid.mk' (fun u => divideDown_any v d u hd hv)
  have HC := Hid.mk' (clamp_min (v / d))
  clear hv
  generalize v / d = Q at *
  go_enter Tryz.func230, Tryz.ntmps230
  go_wp2_with (go_at_call 238; refine (HD.out _).mono ?_; rintro e w1 ⟨rfl, hw⟩; subst w1; clear HD)
  go_ret
  exact ⟨ret_int HC.out, 0, rfl⟩
end Go.Proofs.YtlncjgnomhpjnaaGreatDoor

/-
  The program's packer: lengths of Rice codes, the best parameter, the weights, the folded rests.
-/
namespace Go.Proofs.YtlncjgnomhpjnaaGreatDoor
open Go.RowKit Go.Deep
set_option linter.unusedVariables false

set_option maxHeartbeats 400000 in
theorem riceLength_any (f k : Nat) (w : World) (hk : k ≤ 14) (hf : f ≤ 2000000) :
    Calls Tryz.prog 241 #[.int .i64 f, .int .i64 k] w fun e w' => e = .returned (.int .i64 (riceL f k)) ∧ w' = w := by
  have hm : min k 64 = k := by omega
  have HR : Hid (riceL f k = f / 2 ^ k + 1 + k) := rfl
  have hq : f / 2 ^ k ≤ f := Nat.div_le_self _ _
  have hqi : (f : Int) / 2 ^ k = ((f / 2 ^ k : Nat) : Int) := by simp
  generalize f / 2 ^ k = q at *
  go_enter Tryz.func241, Tryz.ntmps241
  go_wp2
  go_ret
  exact ⟨ret_int (by rw [HR.out]; go_num), rfl⟩

set_option maxHeartbeats 1000000 in
theorem partLength_any (a : Option Addr) (n c k lo : Nat) (F : Nat → Nat) (w : World) (hn : n ≤ 32) (hk : k ≤ 14) (hF : ∀ i, i < n → F (lo + i) ≤ 2000000) (hI : IntsAt w a n (fun i => (F (lo + i) : Int))) :
    Calls Tryz.prog 239 #[.slice a n c, .int .i64 k] w fun e w' => e = .returned (.int .i64 (plen F k lo n)) ∧ ∃ m, w' = w.drewN m := by
  have HI := Hid.mk' hI
  have HF := Hid.mk' hF
  clear hI hF
  go_enter Tryz.func239, Tryz.ntmps239
  go_wp2
  go_loopw [5, 10] (fun v i wr => ∃ j : Nat, j ≤ n ∧ i = .int .i64 j ∧ v = .int .i64 (plen F k lo j) ∧ ∃ m, wr = w.drewN m) (fun _ i _ => n - (intOf i).toNat)
  case atStart => exact ⟨0, by omega, rfl, rfl, 0, rfl⟩
  case round =>
    obtain ⟨j, hj, rfl, rfl, m, rfl⟩ := hrel
    by_cases hlt : j < n
    · obtain ⟨bb, off, hx, hc⟩ := HI.out.open (by omega)
      cases hx
      have hcj := hc j hlt
      clear hc
      have hfj := HF.out j hlt
      have HL := Hid.mk' (fun u => riceLength_any (F (lo + j)) k u hk hfj)
      have hr := riceL_le (F (lo + j)) k 2000000 hfj hk
      have hp := plen_le F k lo 2000000 hk j (fun i hi => HF.out i (by omega))
      have hp2 : j * (2000000 + 15) ≤ 32 * (2000000 + 15) := Nat.mul_le_mul_right _ (by omega)
      have hp3 : plen F k lo j ≤ 64000480 := by omega
      have HE : Hid (plen F k lo (j + 1) = plen F k lo j + riceL (F (lo + j)) k) := rfl
      clear hp hp2
      generalize riceL (F (lo + j)) k = R at *
      go_wp2_with (go_at_call 241; refine (HL.out _).mono ?_; rintro e w1 ⟨rfl, hw⟩; subst w1; clear HL)
      go_roundw
      case rel => exact ⟨j + 1, by omega, by go_num, by rw [HE.out]; go_num, _, rfl⟩
      case measure => simp [intOf]; omega
    · have e : j = n := by omega
      subst e
      go_wp2
      go_ret
      exact ⟨rfl, _, rfl⟩

set_option maxHeartbeats 1000000 in
theorem shortestParameter_any (a : Option Addr) (n c lo : Nat) (F : Nat → Nat) (w : World) (hn : n ≤ 32) (hF : ∀ i, i < n → F (lo + i) ≤ 2000000) (hI : IntsAt w a n (fun i => (F (lo + i) : Int))) :
    Calls Tryz.prog 231 #[.slice a n c] w fun e w' => e = .returned (.tuple #[.int .i64 (parK F lo n), .int .i64 (plen F (parK F lo n) lo n)]) ∧ ∃ m, w' = w.drewN m := by
  have HI := Hid.mk' hI
  have HF := Hid.mk' hF
  clear hI hF
  have HP := Hid.mk' (fun (k : Nat) (hk : k ≤ 14) (u : World) (hu : IntsAt u a n (fun i => (F (lo + i) : Int))) => partLength_any a n c k lo F u hn hk HF.out hu)
  have HP0 := Hid.mk' (fun (u : World) (hu : IntsAt u a n (fun i => (F (lo + i) : Int))) => HP.out 0 (by omega) u hu)
  have HPK : Hid (parK F lo n = argmin (fun k => plen F k lo n) 14) := rfl
  have HB := Hid.mk' (fun (k : Nat) (hk : k ≤ 14) => Nat.le_trans (plen_le F k lo 2000000 hk n HF.out) (Nat.mul_le_mul_right _ hn))
  go_enter Tryz.func231, Tryz.ntmps231
  go_wp2_with (go_at_call 239; refine (HP0.out _ ?_).mono ?_; exact HI.out; rintro e w1 ⟨rfl, q, hw⟩; subst w1; clear HP0)
  go_loopw [4, 5, 6] (fun b l i wr => ∃ k : Nat, k ≤ 14 ∧ i = .int .i64 ((k : Int) + 1) ∧ b = .int .i64 (argmin (fun k => plen F k lo n) k) ∧ l = .int .i64 (plen F (argmin (fun k => plen F k lo n) k) lo n) ∧ ∃ m, wr = w.drewN m) (fun _ _ i _ => 15 - (intOf i).toNat)
  case atStart => exact ⟨0, by omega, rfl, rfl, rfl, _, rfl⟩
  case round =>
    obtain ⟨k, hk, rfl, rfl, rfl, m, rfl⟩ := hrel
    by_cases hlt : k < 14
    · have HC : Hid (∀ u : World, IntsAt u a n (fun i => (F (lo + i) : Int)) → Calls Tryz.prog 239 #[.slice a n c, .int .i64 ((k : Int) + 1)] u fun e w' => e = .returned (.int .i64 (plen F (k + 1) lo n)) ∧ ∃ m, w' = u.drewN m) := HP.out (k + 1) (by omega)
      have ha := argmin_le (fun k => plen F k lo n) k
      have hb1 := HB.out (argmin (fun k => plen F k lo n) k) (by omega)
      have hb2 := HB.out (k + 1) (by omega)
      have HE : Hid (argmin (fun k => plen F k lo n) (k + 1) = if plen F (k + 1) lo n < plen F (argmin (fun k => plen F k lo n) k) lo n then k + 1 else argmin (fun k => plen F k lo n) k) := rfl
      generalize argmin (fun k => plen F k lo n) k = A at *
      obtain ⟨L1, hL1⟩ : ∃ L, L = plen F (k + 1) lo n := ⟨_, rfl⟩
      obtain ⟨L2, hL2⟩ : ∃ L, L = plen F A lo n := ⟨_, rfl⟩
      rw [← hL1] at hb2 HE HC
      rw [← hL2] at hb1 HE
      have HL1 := Hid.mk' hL1
      rw [← hL2]
      have HL2 := Hid.mk' hL2
      clear hL1 hL2
      by_cases hd : L1 < L2
      · have t1 : decide ((L1 : Int) < (L2 : Int)) = true := decide_eq_true (by omega)
        have t2 : decide (L1 < L2) = true := decide_eq_true hd
        rw [if_pos hd] at HE
        clear hd
        go_wp2_with (go_at_call 239; refine (HC.out _ ?_).mono ?_; exact HI.out; rintro e w1 ⟨rfl, q, hw⟩; subst w1; clear HC)
        go_roundw
        case rel => exact ⟨k + 1, by omega, by go_num, by rw [HE.out]; rfl, by rw [HE.out, HL1.out], _, rfl⟩
        case measure => simp [intOf]; omega
      · have t1 : decide ((L1 : Int) < (L2 : Int)) = false := decide_eq_false (by omega)
        have t2 : decide (L1 < L2) = false := decide_eq_false hd
        rw [if_neg hd] at HE
        clear hd
        go_wp2_with (go_at_call 239; refine (HC.out _ ?_).mono ?_; exact HI.out; rintro e w1 ⟨rfl, q, hw⟩; subst w1; clear HC)
        go_roundw
        case rel => exact ⟨k + 1, by omega, by go_num, by rw [HE.out], by rw [HE.out, HL2.out], _, rfl⟩
        case measure => simp [intOf]; omega
    · have e : k = 14 := by omega
      subst e
      rw [← HPK.out]
      go_wp2
      go_ret2
      exact ⟨rfl, _, rfl⟩
end Go.Proofs.YtlncjgnomhpjnaaGreatDoor

