/-
  The writer's methods: lists, Rice codes, the text.
-/
import Derived.Test.YtlncjgnomhpjnaaDoorWriter2
import Derived.Test.YtlncjgnomhpjnaaDoorLent
namespace Go.Proofs.YtlncjgnomhpjnaaDoor
open Go.RowKit Go.Deep
set_option linter.unusedVariables false

theorem KeptW.size {B b : Nat} {w w' : World} (h : KeptW B b w w') : w.heap.size ≤ w'.heap.size := h.1.size
theorem KeptW.drewN {B b : Nat} {w w' : World} (h : KeptW B b w w') (m : Nat) : KeptW B b w (w'.drewN m) := ⟨⟨h.1.os, h.1.tape, h.1.output, h.1.size, h.1.block⟩, h.2.trans (by
  induction m with
  | zero => exact Lib.OthersKept.refl _ _ _
  | succ m ih => exact ih.drew)⟩

set_option maxHeartbeats 1000000 in
theorem wNumbers_any (B b : Nat) (T : List UInt8) (x : Nat → Int) (a : Option Addr) (n c k : Nat) (w : World) (h : Wr w B b T) (hn : n ≤ 32) (hk : k ≤ 16) (hlen : T.length ≤ 10000000000) (hBw : B ≤ w.heap.size)
    (hI : ∀ u, KeptW B b w u → IntsAt u a n x) :
    Calls Tryd.prog 42 #[.pointer (some ⟨b, 0, none⟩), .slice a n c, .int .i64 k] w fun e w' => e = .returned (.tuple #[]) ∧ Wr w' B b (T ++ numsT x k n) ∧ KeptW B b w w' := by
  have HH := Hid.mk' h
  have HI := Hid.mk' hI
  clear h hI
  go_enter Tryd.func42, Tryd.ntmps42
  go_wp2
  go_loopw [10] (fun iv wr => ∃ j : Nat, j ≤ n ∧ iv = .int .i64 j ∧ Hid (Wr wr B b (T ++ numsT x k j) ∧ KeptW B b w wr)) (fun iv _ => n - (intOf iv).toNat)
  case atStart => exact ⟨0, by omega, rfl, by simpa [numsT] using HH.out, KeptW.refl _ _ _⟩
  case round =>
    obtain ⟨j, hj, rfl, HR⟩ := hrel
    by_cases hlt : j < n
    · obtain ⟨bb, off, hx, hc⟩ := (HI.out wr HR.out.2).open (by omega)
      cases hx
      have hcj := hc j hlt
      have hl : (T ++ numsT x k j).length ≤ 100000000000 := by
        rw [List.length_append, numsT_length]
        have : j * k ≤ 32 * 16 := Nat.mul_le_mul (by omega) hk
        omega
      have HW := Hid.mk' (fun u (hu : Wr u B b (T ++ numsT x k j)) (hs : B ≤ u.heap.size) => wNumber_any B b (T ++ numsT x k j) (x j) k u hu hk hl hs)
      have HJ := Hid.mk' (show numsT x k (j + 1) = numsT x k j ++ binT (x j) k from rfl)
      have hBr := Nat.le_trans hBw HR.out.2.1.size
      clear hc
      go_wp2_with (go_at_call 41; refine (HW.out _ ?_ ?_).mono ?_; exact HR.out.1; exact hBr; rintro e w1 ⟨rfl, h1, h2⟩; have H1 := Hid.mk' h1; have H2 := Hid.mk' h2; clear h1 h2 HW)
      go_roundw
      case rel => exact ⟨j + 1, by omega, by go_num, by rw [HJ.out, ← List.append_assoc]; exact H1.out, HR.out.2.trans H2.out⟩
      case measure => simp [intOf]; omega
    · have e : j = n := by omega
      subst e
      go_wp2
      go_end0
      exact ⟨rfl, HR.out.1, HR.out.2⟩

theorem fold_any (v : Int) (w : World) (h : -1000000 ≤ v ∧ v ≤ 1000000) :
    Calls Tryd.prog 80 #[.int .i64 v] w fun e w' => e = .returned (.int .i64 (foldN v)) ∧ w' = w := by
  have hf := foldN_int v
  by_cases h0 : 0 ≤ v
  · rw [if_pos h0] at hf
    have HF := Hid.mk' hf
    clear hf
    go_enter Tryd.func80, Tryd.ntmps80
    go_wp2
    go_ret
    exact ⟨ret_int (by rw [HF.out]), rfl⟩
  · rw [if_neg h0] at hf
    have HF := Hid.mk' hf
    clear hf
    go_enter Tryd.func80, Tryd.ntmps80
    go_wp2
    go_ret
    exact ⟨ret_int (by rw [HF.out]), rfl⟩

set_option maxHeartbeats 1000000 in
theorem wRice_any (B b : Nat) (T : List UInt8) (v : Int) (k : Nat) (w : World) (h : Wr w B b T) (hv : -1000000 ≤ v ∧ v ≤ 1000000) (hk : k ≤ 14) (hlen : T.length ≤ 10000000000) (hBw : B ≤ w.heap.size) :
    Calls Tryd.prog 59 #[.pointer (some ⟨b, 0, none⟩), .int .i64 v, .int .i64 k] w fun e w' => e = .returned (.tuple #[]) ∧ Wr w' B b (T ++ riceT (foldN v) k) ∧ KeptW B b w w' := by
  have HH := Hid.mk' h
  have HF := Hid.mk' (fun u => fold_any v u hv)
  have hfl := foldN_le v 1000000 hv
  clear h hv
  have HRT : Hid (riceT (foldN v) k = List.replicate (foldN v / 2 ^ k) 48 ++ [49] ++ binT (foldN v) k) := rfl
  generalize hf : foldN v = f at *
  have hm : min k 64 = k := by omega
  obtain ⟨q, hq⟩ : ∃ q : Nat, q = f / 2 ^ k := ⟨_, rfl⟩
  have hqi : (f : Int) / 2 ^ k = (q : Int) := by rw [hq]; simp
  have hqf : q ≤ f := by rw [hq]; exact Nat.div_le_self _ _
  rw [← hq] at HRT
  have HWN := Hid.mk' (fun u (hu : Wr u B b (T ++ List.replicate q 48 ++ [49])) (hs : B ≤ u.heap.size) => wNumber_any B b (T ++ List.replicate q 48 ++ [49]) (f : Int) k u hu (by omega) (by simp; omega) hs)
  have HW1 := Hid.mk' (fun u (hu : Wr u B b (T ++ List.replicate q 48)) (hs : B ≤ u.heap.size) => wWrite_any B b (T ++ List.replicate q 48) 49 u hu (by simp; omega) hs)
  have HQ := Hid.mk' hq
  clear hq hf
  go_enter Tryd.func59, Tryd.ntmps59
  go_wp2_with (go_at_call 80; refine (HF.out _).mono ?_; rintro e w1 ⟨rfl, hw⟩; subst w1; clear HF)
  go_loopw [12] (fun iv wr => ∃ j : Nat, j ≤ q ∧ iv = .int .i64 j ∧ Hid (Wr wr B b (T ++ List.replicate j 48) ∧ KeptW B b w wr)) (fun iv _ => q - (intOf iv).toNat)
  case atStart => exact ⟨0, by omega, rfl, by simpa using HH.out, KeptW.refl _ _ _⟩
  case round =>
    obtain ⟨j, hj, rfl, HR⟩ := hrel
    have hBr := Nat.le_trans hBw HR.out.2.1.size
    by_cases hlt : j < q
    · have HW := Hid.mk' (fun u (hu : Wr u B b (T ++ List.replicate j 48)) (hs : B ≤ u.heap.size) => wWrite_any B b (T ++ List.replicate j 48) 48 u hu (by simp; omega) hs)
      clear HWN HW1
      go_wp2_with (go_at_call 58; refine (HW.out _ ?_ ?_).mono ?_; exact HR.out.1; exact hBr; rintro e w1 ⟨rfl, h1, h2⟩; have H1 := Hid.mk' h1; have H2 := Hid.mk' h2; clear h1 h2 HW)
      go_roundw
      case rel => exact ⟨j + 1, by omega, by go_num, by rw [List.replicate_succ', ← List.append_assoc]; exact H1.out, HR.out.2.trans H2.out⟩
      case measure => simp [intOf]; omega
    · have e : j = q := by omega
      subst e
      go_wp2_with (first
        | (go_at_call 58; refine (HW1.out _ ?_ ?_).mono ?_; exact HR.out.1; exact hBr; rintro e w1 ⟨rfl, h1, h2⟩; have H1 := Hid.mk' h1; have H2 := Hid.mk' h2; clear h1 h2 HW1)
        | (go_at_call 41; refine (HWN.out _ ?_ ?_).mono ?_; exact H1.out; exact Nat.le_trans hBr H2.out.1.size; rintro e w2 ⟨rfl, h1, h2⟩; have H3 := Hid.mk' h1; have H4 := Hid.mk' h2; clear h1 h2 HWN))
      go_end0
      refine ⟨rfl, ?_, HR.out.2.trans (H2.out.trans H4.out)⟩
      rw [HRT.out, ← List.append_assoc, ← List.append_assoc]
      exact H3.out

set_option maxHeartbeats 400000 in
theorem wText_any (B b : Nat) (T : List UInt8) (w : World) (h : Wr w B b T) (h0 : T ≠ []) :
    Calls Tryd.prog 44 #[.pointer (some ⟨b, 0, none⟩)] w fun e w' => e = .returned (.string ⟨T.toArray⟩) ∧ Below B w w' := by
  have HS := Hid.mk' (fun u (hu : Wr u B b T) => string_any 89 B b T u hu h0)
  have HH := Hid.mk' h
  clear h
  go_enter Tryd.func44, Tryd.ntmps44
  go_wp2_with (go_at_call 61; refine (HS.out _ ?_).mono ?_; exact HH.out; rintro e w1 ⟨rfl, h1⟩; have H1 := Hid.mk' h1; clear h1 HS)
  go_ret
  exact ⟨rfl, H1.out⟩
end Go.Proofs.YtlncjgnomhpjnaaDoor
