import Derived.Test.YtlncjgnomhpjnaaGreatDoorEKRefCuts
import Derived.Test.YtlncjgnomhpjnaaGreatDoorEKRefLean
import Derived.Test.YtlncjgnomhpjnaaGreatDoorEJCursor
/-
  The document's packer: a body.
-/
namespace Go.Proofs.YtlncjgnomhpjnaaGreatDoor
open Go.RowKit Go.Deep
set_option linter.unusedVariables false

/-- what is asked of the short samples, here -/
structure RS (w : World) (g n W : Nat) (x : Nat → Int) : Prop where
  row : w.rowIs g 3 n (cutV n x)
  bd : ∀ j, j < n → -4096 ≤ x j ∧ x j ≤ 4096
  lo : ∀ j, j < n → -(2 ^ W) ≤ x j
theorem RS.below {w u : World} {g n W : Nat} {x : Nat → Int} (h : RS w g n W x) (hb : Below w.heap.size w u) : RS u g n W x := ⟨h.row.of_block (hb.block _ h.row.lt), h.bd, h.lo⟩
theorem RS.ints {w : World} {g n W : Nat} {x : Nat → Int} (h : RS w g n W x) : IntsAt w (some ⟨g, 0, none⟩) n x := fun i hi => ⟨_, rfl, by
  have := h.row.cell (i := i) hi
  unfold cutV cutI at this
  rw [if_pos hi] at this
  rw [addr_add, Nat.zero_add]; exact this⟩
theorem RS.cell {w : World} {g n W : Nat} {x : Nat → Int} (h : RS w g n W x) {i : Nat} (hi : i < n) : w.cell? ⟨g, i, none⟩ = some (.int .i64 (x i)) := by
  have := h.row.cell (i := i) hi
  unfold cutV cutI at this
  rw [if_pos hi] at this
  exact this

set_option maxHeartbeats 1000000 in
theorem rlay_zero (g n W : Nat) (x : Nat → Int) (w : World) (hn1 : 1 ≤ n) (hn : n ≤ 32) (hW : W ≤ 13) (hS : RS w g n W x) :
    Calls Tryz.prog 171 #[.int .i64 0, .int .i64 W, .slice (some ⟨g, 0, none⟩) n n] w fun e w' => e = .returned (.string (if allSame x n then bs (binT (x 0) W) else ⟨#[]⟩)) ∧ Below w.heap.size w w' := by
  have HSM := Hid.mk' (rsame_any (some ⟨g, 0, none⟩) n n x w hn1 hn hS.ints)
  have hc0 := hS.cell (i := 0) (by omega)
  have HB := Hid.mk' (fun u => binary_any (x 0) W u (by omega) (by have := hS.bd 0 (by omega); omega) (hS.lo 0 (by omega)))
  clear hS
  cases hv : allSame x n with
  | true =>
    rw [hv] at HSM
    rw [if_pos rfl]
    clear hv
    go_enter Tryz.func171, Tryz.ntmps171
    go_wp2_with (first
      | (go_at_call 194; refine HSM.out.mono ?_; rintro e w1 ⟨rfl, q, hw⟩; subst w1; clear HSM)
      | (go_at_call 172; refine (HB.out _).mono ?_; rintro e w2 ⟨rfl, hb2⟩; have HB2 : Hid (Below w.heap.size w w2) := (⟨hb2.os, hb2.tape, hb2.output, hb2.size, hb2.block⟩ : Below w.heap.size w w2); clear hb2 HB))
    go_ret
    exact ⟨rfl, HB2.out⟩
  | false =>
    rw [hv] at HSM
    rw [if_neg (by simp)]
    clear hv
    go_enter Tryz.func171, Tryz.ntmps171
    go_wp2_with (go_at_call 194; refine HSM.out.mono ?_; rintro e w1 ⟨rfl, q, hw⟩; subst w1; clear HSM)
    go_ret
    exact ⟨rfl, below_drewN (Below.refl _ _) _⟩

set_option maxHeartbeats 1000000 in
theorem rlay_short (kind g n W : Nat) (x : Nat → Int) (w : World) (h2 : 2 ≤ kind) (h7 : kind ≤ 7) (hon : ¬ ord kind < n) :
    Calls Tryz.prog 171 #[.int .i64 kind, .int .i64 W, .slice (some ⟨g, 0, none⟩) n n] w fun e w' => e = .returned (.string ⟨#[]⟩) ∧ Below w.heap.size w w' := by
  have HO := Hid.mk' (fun u => cOrderOf_any kind u h2 h7)
  have k0 : ((kind : Int) == 0) = false := by simp; omega
  have k1 : decide (1 < (kind : Int)) = true := decide_eq_true (by omega)
  have t1 : decide ((n : Int) ≤ (ord kind : Int)) = true := decide_eq_true (by omega)
  have t2 : decide (n ≤ ord kind) = true := decide_eq_true (by omega)
  generalize ord kind = o at *
  go_enter Tryz.func171, Tryz.ntmps171
  go_wp2_with (go_at_call 184; refine (HO.out _).mono ?_; rintro e w1 ⟨rfl, hw⟩; subst w1; clear HO)
  go_ret
  exact ⟨rfl, Below.refl _ _⟩

set_option maxHeartbeats 1000000 in
theorem rlay_plain (g n W : Nat) (x : Nat → Int) (w : World) (hn : n ≤ 32) (hW : W ≤ 13) (hS : RS w g n W x) :
    Calls Tryz.prog 171 #[.int .i64 1, .int .i64 W, .slice (some ⟨g, 0, none⟩) n n] w fun e w' => e = .returned (.string (bs (numsT x W n))) ∧ Below w.heap.size w w' := by
  have HS := Hid.mk' hS
  have HB0 := Hid.mk' (Below.refl w.heap.size w)
  clear hS
  go_enter Tryz.func171, Tryz.ntmps171
  go_wp2
  go_loopw [10, 11] (fun sv iv wr => ∃ i : Nat, i ≤ n ∧ iv = .int .i64 i ∧ sv = .string (bs (numsT x W i)) ∧ Hid (Below w.heap.size w wr)) (fun _ iv _ => n - (intOf iv).toNat)
  case atStart => exact ⟨0, Nat.zero_le _, rfl, rfl, HB0.out⟩
  case round =>
    clear HB0
    obtain ⟨i, hi, rfl, rfl, HBi⟩ := hrel
    by_cases hlt : i < n
    · have hci := (HS.out.below HBi.out).cell (i := i) (by omega)
      have HBN := Hid.mk' (fun u => binary_any (x i) W u (by omega) (by have := HS.out.bd i (by omega); omega) (HS.out.lo i (by omega)))
      have hs1 : (bs (numsT x W i)).size ≤ 1000 := by
        rw [bs_size, numsT_length]
        have : i * W ≤ 32 * 13 := Nat.mul_le_mul (by omega) hW
        omega
      have hs2 : (bs (binT (x i) W)).size ≤ 13 := by rw [bs_size, binT_length]; exact hW
      have HSTR : Hid (bs (numsT x W i) ++ bs (binT (x i) W) = bs (numsT x W (i + 1))) := by show _ = _; rw [bs_append]; rfl
      have hszi := HBi.out.size
      generalize bs (numsT x W i) = S1 at *
      generalize bs (binT (x i) W) = S2 at *
      go_wp2_with (go_at_call 172; refine (HBN.out _).mono ?_; rintro e w2 ⟨rfl, hb2⟩; have HB2 := Hid.mk' (HBi.out.trans (hb2.mono hszi)); clear hb2 HBN)
      go_roundw
      case rel => exact ⟨i + 1, by omega, by go_num, by rw [HSTR.out], HB2.out⟩
      case measure => simp [intOf]; omega
    · have e : i = n := by omega
      subst e
      go_wp2
      go_ret
      exact ⟨rfl, HBi.out⟩
end Go.Proofs.YtlncjgnomhpjnaaGreatDoor

/-
  The document's packer: a body by a kind that has rests.
-/
namespace Go.Proofs.YtlncjgnomhpjnaaGreatDoor
open Go.RowKit Go.Deep
set_option linter.unusedVariables false

theorem row_drewN' {w : World} {b n : Nat} {t : TypeId} {f : Nat → Value} (h : w.rowIs b t n f) (m : Nat) : (w.drewN m).rowIs b t n f := h
def restV (o : Nat) (R : Nat → Int) (j i : Nat) : Value := .int .i64 (if o ≤ i ∧ i < j then R i else 0)
theorem restV_step {w : World} {g : Nat} {t : TypeId} {cap k o : Nat} {R : Nat → Int} {z : Int} (ho : o ≤ k) (hz : z = R k) (h : w.rowIs g t cap (fun i => if i = k then .int .i64 z else restV o R k i)) : w.rowIs g t cap (restV o R (k + 1)) := by
  refine h.congr fun i _ => ?_
  unfold restV
  by_cases e : i = k
  · subst e; simp [hz, ho]
  · by_cases e2 : i < k
    · simp [e, e2, Nat.lt_succ_of_lt e2]
    · have : ¬ i < k + 1 := by omega
      simp [e, e2, this]

set_option maxRecDepth 100000 in
set_option maxHeartbeats 4000000 in
theorem rlay_fixed (kind g n W : Nat) (x : Nat → Int) (w : World) (h2 : 2 ≤ kind) (h6 : kind ≤ 6) (hn : n ≤ 32) (hW : W ≤ 13) (hon : ord kind < n) (hS : RS w g n W x) (hT : TabAt w 3) (hTl : 3 < w.heap.size) :
    Calls Tryz.prog 171 #[.int .i64 kind, .int .i64 W, .slice (some ⟨g, 0, none⟩) n n] w fun e w' => e = .returned (.string (bs (gT kind W x n))) ∧ Below w.heap.size w w' := by
  have h7 : kind ≤ 7 := by omega
  have ho := ord_le kind h2 h7
  have HO := Hid.mk' (fun u => cOrderOf_any kind u h2 h7)
  have k0 : ((kind : Int) == 0) = false := by simp; omega
  have k1 : decide (1 < (kind : Int)) = true := decide_eq_true (by omega)
  have k2 : ((kind : Int) == 1) = false := by simp; omega
  have k7 : ((kind : Int) == 7) = false := by simp; omega
  have t1 : decide ((n : Int) ≤ (ord kind : Int)) = false := decide_eq_false (by omega)
  have t2 : decide (n ≤ ord kind) = false := decide_eq_false (by omega)
  have HS := Hid.mk' hS
  have HB0 := Hid.mk' (Below.refl w.heap.size w)
  have HTB := Hid.mk' (fun (u : World) (hu : Below w.heap.size w u) => (fun r c hr hc => (hu.cell (p := ⟨3, 4 * r + c, none⟩) hTl).trans (hT r c hr hc) : TabAt u 3))
  have HBD := Hid.mk' (fun i (h1 : ord kind ≤ i) (h3 : i < n) => fR_bd kind x n i h2 h7 (fun j hj => hS.bd j (by omega)) h1)
  obtain ⟨R, hR⟩ : ∃ R : Nat → Int, R = fun i => x i - guessG kind (wA kind x n) (wB kind x n) x i := ⟨_, rfl⟩
  have HRE : Hid (∀ i, R i = x i - guessG kind (wA kind x n) (wB kind x n) x i) := fun i => by rw [hR]
  have HRF : Hid ((fun i => foldN (R i)) = fR kind x n) := by rw [hR]; rfl
  have hva : wA kind x n = 0 := if_neg (by omega)
  have hvb : wB kind x n = 0 := if_neg (by omega)
  have HTX : Hid (bs (numsT x W (ord kind)) ++ bs (cutT (fR kind x n) (ord kind) n (bC kind x n)) = bs (gT kind W x n)) := by
    show _ = _
    rw [bs_append]; unfold gT; rw [if_neg (by omega), List.nil_append]
  have hns : (bs (numsT x W (ord kind))).size ≤ 1000 := by
    rw [bs_size, numsT_length]
    have : ord kind * W ≤ 4 * 13 := Nat.mul_le_mul ho hW
    omega
  have hmk := run_make_row' (P := Tryz.prog) 29 3 (.int .i64 0) 8 Tryz.underlying29 infoInt rfl .i64 .i64 n (by omega) (by omega)
  have HVA := Hid.mk' hva
  have HVB := Hid.mk' hvb
  clear hS hT hR hva hvb
  go_enter Tryz.func171, Tryz.ntmps171
  go_wp2_with (go_at_call 184; refine (HO.out _).mono ?_; rintro e w1 ⟨rfl, hw⟩; subst w1; clear HO)
  go_loopw [10, 11] (fun sv iv wr => ∃ i : Nat, i ≤ (ord kind) ∧ iv = .int .i64 i ∧ sv = .string (bs (numsT x W i)) ∧ Hid (Below w.heap.size w wr)) (fun _ iv _ => (ord kind) - (intOf iv).toNat)
  case atStart => exact ⟨0, Nat.zero_le _, rfl, rfl, HB0.out⟩
  case round =>
    clear HB0
    obtain ⟨i, hi, rfl, rfl, HBi⟩ := hrel
    by_cases hlt : i < (ord kind)
    · have hci := (HS.out.below HBi.out).cell (i := i) (by omega)
      have HBN := Hid.mk' (fun u => binary_any (x i) W u (by omega) (by have := HS.out.bd i (by omega); omega) (HS.out.lo i (by omega)))
      have hs1 : (bs (numsT x W i)).size ≤ 1000 := by
        rw [bs_size, numsT_length]
        have : i * W ≤ 32 * 13 := Nat.mul_le_mul (by omega) hW
        omega
      have hs2 : (bs (binT (x i) W)).size ≤ 13 := by rw [bs_size, binT_length]; exact hW
      have HSTR : Hid (bs (numsT x W i) ++ bs (binT (x i) W) = bs (numsT x W (i + 1))) := by show _ = _; rw [bs_append]; rfl
      have hszi := HBi.out.size
      generalize bs (numsT x W i) = S1 at *
      generalize bs (binT (x i) W) = S2 at *
      go_wp2_with (go_at_call 172; refine (HBN.out _).mono ?_; rintro e w2 ⟨rfl, hb2⟩; have HB2 := Hid.mk' (HBi.out.trans (hb2.mono hszi)); clear hb2 HBN)
      go_roundw
      case rel => exact ⟨i + 1, by omega, by go_num, by rw [HSTR.out], HB2.out⟩
      case measure => simp [intOf]; omega
    · have e : i = (ord kind) := by omega
      rw [e]
      have HB0 := Hid.mk' HBi.out
      clear HBi hlt hi e
      go_wp2
      obtain ⟨G, hG⟩ : ∃ G, G = wr.heap.size := ⟨_, rfl⟩
      have hGw : w.heap.size ≤ G := by rw [hG]; exact HB0.out.size
      have HG0 : Hid ((wr.alloc (.cells (madeCells #[.int .i64 0] n) 3)).rowIs G 3 n (restV (ord kind) R (ord kind)) ∧ Below w.heap.size w (wr.alloc (.cells (madeCells #[.int .i64 0] n) 3))) := by
        rw [hG]
        exact ⟨(World.rowIs_made wr (.int .i64 0) n 3).congr fun i _ => by unfold restV; rw [if_neg (by omega)], HB0.out.alloc HB0.out.size _⟩
      rw [← hG]
      clear hG HB0 hmk
      go_loopw [16] (fun iv wi => ∃ j : Nat, ord kind ≤ j ∧ j ≤ n ∧ iv = .int .i64 j ∧ Hid (wi.rowIs G 3 n (restV (ord kind) R j) ∧ Below w.heap.size w wi)) (fun iv _ => n - (intOf iv).toNat)
      case atStart => exact ⟨ord kind, by omega, by omega, rfl, HG0.out.1, HG0.out.2⟩
      case round =>
        clear HG0
        obtain ⟨j, hoj, hj, rfl, HJ⟩ := hrel
        by_cases hlt : j < n
        · have hcj := (HS.out.below HJ.out.2).cell (i := j) hlt
          have hc1 := HJ.out.1.cell hlt
          have hf1 := HJ.out.1.frozen j
          unfold restV at hc1
          have HGU := Hid.mk' (cGuess_any kind (wA kind x n) (wB kind x n) g n j n x wr.drew h2 h7 (by have := wA_bd kind x n; omega) (by have := wB_bd kind x n; omega) hn hlt hoj (fun i hi => HS.out.bd i (by omega)) (HS.out.below HJ.out.2).row (by omega) (HTB.out _ HJ.out.2.drew))
          have hbd := (HBD.out j hoj hlt).1
          have HRJ := Hid.mk' (HRE.out j)
          obtain ⟨gv, hgv⟩ : ∃ v, v = guessG kind (wA kind x n) (wB kind x n) x j := ⟨_, rfl⟩
          rw [← hgv] at HGU hbd HRJ
          rw [HVA.out, HVB.out] at HGU
          have v5 : IntKind.i64.wrap (x j - gv) = x j - gv := by rw [IntKind.wrap_i64]; omega
          generalize hov : (if ord kind ≤ j ∧ j < j then R j else 0) = ov at hc1
          clear hgv hbd hov
          go_wp2
          go_region_with (go_at_call 196; refine HGU.out.mono ?_; rintro e w1 ⟨rfl, q, hw⟩; subst w1; clear HGU)
          all_goals go_wp2
          all_goals go_roundw
          all_goals first
            | exact ⟨j + 1, by omega, by omega, by go_num, restV_step hoj HRJ.out.symm (HJ.out.1.set j _), HJ.out.2.setCell hGw _⟩
            | exact ⟨j + 1, by omega, by omega, by go_num, restV_step hoj HRJ.out.symm ((row_drewN' HJ.out.1 (1 + q)).set j _), (below_drewN HJ.out.2 (1 + q)).setCell hGw _⟩
            | (simp [intOf]; omega)
        · have e : j = n := by omega
          subst e
          have HCU := Hid.mk' (fun (u : World) (hu : u.rowIs G 3 j (restV (ord kind) R j)) => cuts_any (ord kind) G j j R u hn ho hon (Nat.le_refl _) (fun i h1 h2 => by rw [HRE.out]; exact (HBD.out i h1 h2).1) (fun i h1 h2 => by
            have := hu.cell (i := i) h2
            unfold restV at this
            rw [if_pos ⟨h1, h2⟩] at this
            exact this) hu.lt)
          have hszj := HJ.out.2.size
          rw [HRF.out] at HCU
          have hcs : (bs (cutT (fR kind x j) (ord kind) j (bC kind x j))).size ≤ 1000000000 := by
            rw [bs_size, cutT_length]
            exact cutL_le (fR kind x j) (ord kind) j (bC kind x j) hn (bestC_le _ _ _ _) (bestC_ok _ _ _ hon _) (fun i h1 h2 => (HBD.out i h1 h2).2)
          have hbb : bestC (fR kind x j) (ord kind) j 3 = bC kind x j := rfl
          rw [hbb] at HCU
          have HSTR := Hid.mk' HTX.out
          generalize bs (cutT (fR kind x j) (ord kind) j (bC kind x j)) = S9 at *
          clear hbb
          go_wp2_with (go_at_call 197; refine (HCU.out _ ?_).mono ?_; exact HJ.out.1; rintro e w3 ⟨rfl, hb3⟩; have HB3 := Hid.mk' (HJ.out.2.trans (hb3.mono hszj)); clear hb3 HCU)
          go_ret
          exact ⟨by rw [← HSTR.out]; rfl, HB3.out⟩
set_option maxRecDepth 100000 in
set_option maxHeartbeats 4000000 in
theorem rlay_seven (kind g n W : Nat) (x : Nat → Int) (w : World) (hk7 : kind = 7) (hn : n ≤ 32) (hW : W ≤ 13) (hon : ord kind < n) (hD : 0 < leanD x n) (hS : RS w g n W x) (hT : TabAt w 3) (hTl : 3 < w.heap.size) :
    Calls Tryz.prog 171 #[.int .i64 kind, .int .i64 W, .slice (some ⟨g, 0, none⟩) n n] w fun e w' => e = .returned (.string (bs (gT kind W x n))) ∧ Below w.heap.size w w' := by
  have h2 : 2 ≤ kind := by omega
  have h7 : kind ≤ 7 := by omega
  have ho := ord_le kind h2 h7
  have HO := Hid.mk' (fun u => cOrderOf_any kind u h2 h7)
  have k0 : ((kind : Int) == 0) = false := by simp; omega
  have k1 : decide (1 < (kind : Int)) = true := decide_eq_true (by omega)
  have k2 : ((kind : Int) == 1) = false := by simp; omega
  have k7 : ((kind : Int) == 7) = true := by simp; omega
  have t1 : decide ((n : Int) ≤ (ord kind : Int)) = false := decide_eq_false (by omega)
  have t2 : decide (n ≤ ord kind) = false := decide_eq_false (by omega)
  have HS := Hid.mk' hS
  have HB0 := Hid.mk' (Below.refl w.heap.size w)
  have HTB := Hid.mk' (fun (u : World) (hu : Below w.heap.size w u) => (fun r c hr hc => (hu.cell (p := ⟨3, 4 * r + c, none⟩) hTl).trans (hT r c hr hc) : TabAt u 3))
  have HBD := Hid.mk' (fun i (h1 : ord kind ≤ i) (h3 : i < n) => fR_bd kind x n i h2 h7 (fun j hj => hS.bd j (by omega)) h1)
  obtain ⟨R, hR⟩ : ∃ R : Nat → Int, R = fun i => x i - guessG kind (wA kind x n) (wB kind x n) x i := ⟨_, rfl⟩
  have HRE : Hid (∀ i, R i = x i - guessG kind (wA kind x n) (wB kind x n) x i) := fun i => by rw [hR]
  have HRF : Hid ((fun i => foldN (R i)) = fR kind x n) := by rw [hR]; rfl
  have hva : wA kind x n = leanA x n := if_pos hk7
  have hvb : wB kind x n = leanB x n := if_pos hk7
  have HLN := Hid.mk' (fun (u : World) (hu : Below w.heap.size w u) => rlean_any (some ⟨g, 0, none⟩) n n x u hn hS.bd (hS.below hu).ints)
  rw [decide_eq_true hD] at HLN
  have HDD := Hid.mk' hD
  have HBA := Hid.mk' (fun u => binary_any (leanA x n) 6 u (by omega) (by have := clamp_bd (8 * lag x 1 n * (lag x 0 n - lag x 2 n) / leanD x n); unfold leanA; omega) (by have := clamp_bd (8 * lag x 1 n * (lag x 0 n - lag x 2 n) / leanD x n); unfold leanA; omega))
  have HBB := Hid.mk' (fun u => binary_any (leanB x n) 6 u (by omega) (by have := clamp_bd (8 * (lag x 0 n * lag x 2 n - lag x 1 n * lag x 1 n) / leanD x n); unfold leanB; omega) (by have := clamp_bd (8 * (lag x 0 n * lag x 2 n - lag x 1 n * lag x 1 n) / leanD x n); unfold leanB; omega))
  have hsA : (bs (binT (leanA x n) 6)).size ≤ 6 := by rw [bs_size, binT_length]; omega
  have hsB : (bs (binT (leanB x n) 6)).size ≤ 6 := by rw [bs_size, binT_length]; omega
  have HTX : Hid (bs (numsT x W (ord kind)) ++ bs (binT (leanA x n) 6) ++ bs (binT (leanB x n) 6) ++ bs (cutT (fR kind x n) (ord kind) n (bC kind x n)) = bs (gT kind W x n)) := by
    show _ = _
    rw [bs_append, bs_append, bs_append]; unfold gT; rw [if_pos hk7]; simp [List.append_assoc]
  have hns : (bs (numsT x W (ord kind))).size ≤ 1000 := by
    rw [bs_size, numsT_length]
    have : ord kind * W ≤ 4 * 13 := Nat.mul_le_mul ho hW
    omega
  have hmk := run_make_row' (P := Tryz.prog) 29 3 (.int .i64 0) 8 Tryz.underlying29 infoInt rfl .i64 .i64 n (by omega) (by omega)
  have HVA := Hid.mk' hva
  have HVB := Hid.mk' hvb
  clear hS hT hR hva hvb hk7 hD
  go_enter Tryz.func171, Tryz.ntmps171
  go_wp2_with (go_at_call 184; refine (HO.out _).mono ?_; rintro e w1 ⟨rfl, hw⟩; subst w1; clear HO)
  go_loopw [10, 11] (fun sv iv wr => ∃ i : Nat, i ≤ (ord kind) ∧ iv = .int .i64 i ∧ sv = .string (bs (numsT x W i)) ∧ Hid (Below w.heap.size w wr)) (fun _ iv _ => (ord kind) - (intOf iv).toNat)
  case atStart => exact ⟨0, Nat.zero_le _, rfl, rfl, HB0.out⟩
  case round =>
    clear HB0
    obtain ⟨i, hi, rfl, rfl, HBi⟩ := hrel
    by_cases hlt : i < (ord kind)
    · have hci := (HS.out.below HBi.out).cell (i := i) (by omega)
      have HBN := Hid.mk' (fun u => binary_any (x i) W u (by omega) (by have := HS.out.bd i (by omega); omega) (HS.out.lo i (by omega)))
      have hs1 : (bs (numsT x W i)).size ≤ 1000 := by
        rw [bs_size, numsT_length]
        have : i * W ≤ 32 * 13 := Nat.mul_le_mul (by omega) hW
        omega
      have hs2 : (bs (binT (x i) W)).size ≤ 13 := by rw [bs_size, binT_length]; exact hW
      have HSTR : Hid (bs (numsT x W i) ++ bs (binT (x i) W) = bs (numsT x W (i + 1))) := by show _ = _; rw [bs_append]; rfl
      have hszi := HBi.out.size
      generalize bs (numsT x W i) = S1 at *
      generalize bs (binT (x i) W) = S2 at *
      go_wp2_with (go_at_call 172; refine (HBN.out _).mono ?_; rintro e w2 ⟨rfl, hb2⟩; have HB2 := Hid.mk' (HBi.out.trans (hb2.mono hszi)); clear hb2 HBN)
      go_roundw
      case rel => exact ⟨i + 1, by omega, by go_num, by rw [HSTR.out], HB2.out⟩
      case measure => simp [intOf]; omega
    · have e : i = (ord kind) := by omega
      rw [e]
      have HB0 := Hid.mk' HBi.out
      clear HBi hlt hi e
      have hszb := HB0.out.size
      generalize bs (numsT x W (ord kind)) = S0 at *
      generalize bs (binT (leanA x n) 6) = SA at *
      generalize bs (binT (leanB x n) 6) = SB at *
      go_wp2_with (first
        | (go_at_call 195; refine (HLN.out _ ?_).mono ?_; exact HB0.out; rintro e w1 ⟨⟨va, vb, rfl, hab⟩, q, hq⟩; obtain ⟨rfl, rfl⟩ := hab HDD.out; have HBa : Hid (Below w.heap.size w w1) := (by rw [hq]; exact below_drewN HB0.out q); have hsza := HBa.out.size; clear hq hab HLN HB0)
        | (go_at_call 172; refine (HBA.out _).mono ?_; rintro e w2 ⟨rfl, hb2⟩; have HBb := Hid.mk' (HBa.out.trans (hb2.mono hsza)); have hszbb := HBb.out.size; clear hb2 HBA)
        | (go_at_call 172; refine (HBB.out _).mono ?_; rintro e w3 ⟨rfl, hb3⟩; have HB0 := Hid.mk' (HBb.out.trans (hb3.mono hszbb)); clear hb3 HBB))
      obtain ⟨G, hG⟩ : ∃ G, G = w3.heap.size := ⟨_, rfl⟩
      have hGw : w.heap.size ≤ G := by rw [hG]; exact HB0.out.size
      have HG0 : Hid ((w3.alloc (.cells (madeCells #[.int .i64 0] n) 3)).rowIs G 3 n (restV (ord kind) R (ord kind)) ∧ Below w.heap.size w (w3.alloc (.cells (madeCells #[.int .i64 0] n) 3))) := by
        rw [hG]
        exact ⟨(World.rowIs_made w3 (.int .i64 0) n 3).congr fun i _ => by unfold restV; rw [if_neg (by omega)], HB0.out.alloc HB0.out.size _⟩
      rw [← hG]
      clear hG HB0 hmk
      go_loopw [16] (fun iv wi => ∃ j : Nat, ord kind ≤ j ∧ j ≤ n ∧ iv = .int .i64 j ∧ Hid (wi.rowIs G 3 n (restV (ord kind) R j) ∧ Below w.heap.size w wi)) (fun iv _ => n - (intOf iv).toNat)
      case atStart => exact ⟨ord kind, by omega, by omega, rfl, HG0.out.1, HG0.out.2⟩
      case round =>
        clear HG0
        obtain ⟨j, hoj, hj, rfl, HJ⟩ := hrel
        by_cases hlt : j < n
        · have hcj := (HS.out.below HJ.out.2).cell (i := j) hlt
          have hc1 := HJ.out.1.cell hlt
          have hf1 := HJ.out.1.frozen j
          unfold restV at hc1
          have HGU := Hid.mk' (cGuess_any kind (wA kind x n) (wB kind x n) g n j n x wr.drew h2 h7 (by have := wA_bd kind x n; omega) (by have := wB_bd kind x n; omega) hn hlt hoj (fun i hi => HS.out.bd i (by omega)) (HS.out.below HJ.out.2).row (by omega) (HTB.out _ HJ.out.2.drew))
          have hbd := (HBD.out j hoj hlt).1
          have HRJ := Hid.mk' (HRE.out j)
          obtain ⟨gv, hgv⟩ : ∃ v, v = guessG kind (wA kind x n) (wB kind x n) x j := ⟨_, rfl⟩
          rw [← hgv] at HGU hbd HRJ
          rw [HVA.out, HVB.out] at HGU
          have v5 : IntKind.i64.wrap (x j - gv) = x j - gv := by rw [IntKind.wrap_i64]; omega
          generalize hov : (if ord kind ≤ j ∧ j < j then R j else 0) = ov at hc1
          clear hgv hbd hov
          go_wp2
          go_region_with (go_at_call 196; refine HGU.out.mono ?_; rintro e w1 ⟨rfl, q, hw⟩; subst w1; clear HGU)
          all_goals go_wp2
          all_goals go_roundw
          all_goals first
            | exact ⟨j + 1, by omega, by omega, by go_num, restV_step hoj HRJ.out.symm (HJ.out.1.set j _), HJ.out.2.setCell hGw _⟩
            | exact ⟨j + 1, by omega, by omega, by go_num, restV_step hoj HRJ.out.symm ((row_drewN' HJ.out.1 (1 + q)).set j _), (below_drewN HJ.out.2 (1 + q)).setCell hGw _⟩
            | (simp [intOf]; omega)
        · have e : j = n := by omega
          subst e
          have HCU := Hid.mk' (fun (u : World) (hu : u.rowIs G 3 j (restV (ord kind) R j)) => cuts_any (ord kind) G j j R u hn ho hon (Nat.le_refl _) (fun i h1 h2 => by rw [HRE.out]; exact (HBD.out i h1 h2).1) (fun i h1 h2 => by
            have := hu.cell (i := i) h2
            unfold restV at this
            rw [if_pos ⟨h1, h2⟩] at this
            exact this) hu.lt)
          have hszj := HJ.out.2.size
          rw [HRF.out] at HCU
          have hcs : (bs (cutT (fR kind x j) (ord kind) j (bC kind x j))).size ≤ 1000000000 := by
            rw [bs_size, cutT_length]
            exact cutL_le (fR kind x j) (ord kind) j (bC kind x j) hn (bestC_le _ _ _ _) (bestC_ok _ _ _ hon _) (fun i h1 h2 => (HBD.out i h1 h2).2)
          have hbb : bestC (fR kind x j) (ord kind) j 3 = bC kind x j := rfl
          rw [hbb] at HCU
          have HSTR := Hid.mk' HTX.out
          generalize bs (cutT (fR kind x j) (ord kind) j (bC kind x j)) = S9 at *
          clear hbb
          go_wp2_with (go_at_call 197; refine (HCU.out _ ?_).mono ?_; exact HJ.out.1; rintro e w3 ⟨rfl, hb3⟩; have HB3 := Hid.mk' (HJ.out.2.trans (hb3.mono hszj)); clear hb3 HCU)
          go_ret
          exact ⟨by rw [← HSTR.out]; rfl, HB3.out⟩

set_option maxHeartbeats 1000000 in
theorem rlay_no7 (kind g n W : Nat) (x : Nat → Int) (w : World) (hk7 : kind = 7) (hn : n ≤ 32) (hW : W ≤ 13) (hon : ord kind < n) (hD : ¬ 0 < leanD x n) (hS : RS w g n W x) :
    Calls Tryz.prog 171 #[.int .i64 kind, .int .i64 W, .slice (some ⟨g, 0, none⟩) n n] w fun e w' => e = .returned (.string ⟨#[]⟩) ∧ Below w.heap.size w w' := by
  have h2 : 2 ≤ kind := by omega
  have h7 : kind ≤ 7 := by omega
  have ho := ord_le kind h2 h7
  have HO := Hid.mk' (fun u => cOrderOf_any kind u h2 h7)
  have k0 : ((kind : Int) == 0) = false := by simp; omega
  have k1 : decide (1 < (kind : Int)) = true := decide_eq_true (by omega)
  have k2 : ((kind : Int) == 1) = false := by simp; omega
  have k7 : ((kind : Int) == 7) = true := by simp; omega
  have t1 : decide ((n : Int) ≤ (ord kind : Int)) = false := decide_eq_false (by omega)
  have t2 : decide (n ≤ ord kind) = false := decide_eq_false (by omega)
  have HS := Hid.mk' hS
  have HB0 := Hid.mk' (Below.refl w.heap.size w)
  have HLN := Hid.mk' (fun (u : World) (hu : Below w.heap.size w u) => rlean_any (some ⟨g, 0, none⟩) n n x u hn hS.bd (hS.below hu).ints)
  rw [decide_eq_false hD] at HLN
  clear hS hk7 hD
  go_enter Tryz.func171, Tryz.ntmps171
  go_wp2_with (go_at_call 184; refine (HO.out _).mono ?_; rintro e w1 ⟨rfl, hw⟩; subst w1; clear HO)
  go_loopw [10, 11] (fun sv iv wr => ∃ i : Nat, i ≤ (ord kind) ∧ iv = .int .i64 i ∧ sv = .string (bs (numsT x W i)) ∧ Hid (Below w.heap.size w wr)) (fun _ iv _ => (ord kind) - (intOf iv).toNat)
  case atStart => exact ⟨0, Nat.zero_le _, rfl, rfl, HB0.out⟩
  case round =>
    clear HB0
    obtain ⟨i, hi, rfl, rfl, HBi⟩ := hrel
    by_cases hlt : i < (ord kind)
    · have hci := (HS.out.below HBi.out).cell (i := i) (by omega)
      have HBN := Hid.mk' (fun u => binary_any (x i) W u (by omega) (by have := HS.out.bd i (by omega); omega) (HS.out.lo i (by omega)))
      have hs1 : (bs (numsT x W i)).size ≤ 1000 := by
        rw [bs_size, numsT_length]
        have : i * W ≤ 32 * 13 := Nat.mul_le_mul (by omega) hW
        omega
      have hs2 : (bs (binT (x i) W)).size ≤ 13 := by rw [bs_size, binT_length]; exact hW
      have HSTR : Hid (bs (numsT x W i) ++ bs (binT (x i) W) = bs (numsT x W (i + 1))) := by show _ = _; rw [bs_append]; rfl
      have hszi := HBi.out.size
      generalize bs (numsT x W i) = S1 at *
      generalize bs (binT (x i) W) = S2 at *
      go_wp2_with (go_at_call 172; refine (HBN.out _).mono ?_; rintro e w2 ⟨rfl, hb2⟩; have HB2 := Hid.mk' (HBi.out.trans (hb2.mono hszi)); clear hb2 HBN)
      go_roundw
      case rel => exact ⟨i + 1, by omega, by go_num, by rw [HSTR.out], HB2.out⟩
      case measure => simp [intOf]; omega
    · have e : i = (ord kind) := by omega
      rw [e]
      have HB0 := Hid.mk' HBi.out
      clear HBi hlt hi e
      go_wp2_with (go_at_call 195; refine (HLN.out _ ?_).mono ?_; exact HB0.out; rintro e w1 ⟨⟨va, vb, rfl, hab⟩, q, hq⟩; subst w1; clear hab HLN)
      go_ret
      exact ⟨rfl, below_drewN HB0.out _⟩
end Go.Proofs.YtlncjgnomhpjnaaGreatDoor

