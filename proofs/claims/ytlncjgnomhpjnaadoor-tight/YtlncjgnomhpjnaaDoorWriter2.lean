/-
  The writer's methods.
-/
import Derived.Test.YtlncjgnomhpjnaaDoorWriter
import Derived.Deep.RegionWith
namespace Go.Proofs.YtlncjgnomhpjnaaDoor
open Go.RowKit Go.Deep
set_option linter.unusedVariables false

/-- a writer that holds this text -/
def Wr (w : World) (B b : Nat) (T : List UInt8) : Prop := Lib.IsBuilderF 89 5 B b (Lib.byteCells T) w
/-- what a writer's call leaves -/
def KeptW (B b : Nat) (w w' : World) : Prop := Below B w w' ∧ Lib.OthersKept 5 (some b) w w'
theorem KeptW.refl (B b : Nat) (w : World) : KeptW B b w w := ⟨Below.refl _ _, Lib.OthersKept.refl _ _ _⟩
theorem KeptW.trans {B b : Nat} {w w' w'' : World} (h : KeptW B b w w') (k : KeptW B b w' w'') : KeptW B b w w'' := ⟨h.1.trans k.1, h.2.trans k.2⟩
theorem Wr.len {B b : Nat} {w : World} {T : List UInt8} (h : Wr w B b T) : B ≤ b := by
  rcases h with h | h
  · exact h.1
  · exact h.1

theorem Wr.drewN {w : World} {B b : Nat} {T : List UInt8} (h : Wr w B b T) (m : Nat) : Wr (w.drewN m) B b T := h
theorem Wr.drew {w : World} {B b : Nat} {T : List UInt8} (h : Wr w B b T) : Wr w.drew B b T := h
theorem KeptW.drew {B b : Nat} {w w' : World} (h : KeptW B b w w') : KeptW B b w w'.drew := ⟨h.1.drew, h.2.drew⟩

theorem wWrite_any (B b : Nat) (T : List UInt8) (c : UInt8) (w : World) (h : Wr w B b T) (hlen : T.length + 1 ≤ 140737488355328) (hBw : B ≤ w.heap.size) :
    Calls Tryd.prog 58 #[.pointer (some ⟨b, 0, none⟩), .int .u8 (c.toNat : Int)] w fun e w' => e = .returned .nilIface ∧ Wr w' B b (T ++ [c]) ∧ KeptW B b w w' := by
  refine (writeByte_any 89 lies_writer B b _ (c.toNat : Int) w h (by rw [Lib.byteCells_length]; exact hlen) hBw).mono ?_
  rintro e w' ⟨rfl, h1, h2, h3⟩
  refine ⟨rfl, .inr ?_, h2, h3⟩
  have : Lib.byteCells (T ++ [c]) = Lib.byteCells T ++ [.int .u8 (c.toNat : Int)] := by simp [Lib.byteCells]
  rw [this]; exact h1

theorem and_one (x : Int) : bits .and .i64 x 1 = x % 2 := by
  have e : bits .and .i64 x 1 = IntKind.i64.wrap (((BitVec.ofInt 64 x &&& BitVec.ofInt 64 1).toNat : Nat) : Int) := rfl
  have e1 : (BitVec.ofInt 64 1).toNat = 1 := by decide
  have e2 : ((BitVec.ofInt 64 x).toNat : Int) = x % 18446744073709551616 := by
    rw [BitVec.toNat_ofInt]
    have e64 : ((2 ^ 64 : Nat) : Int) = 18446744073709551616 := rfl
    rw [e64]; omega
  rw [e, BitVec.toNat_and, e1, Nat.and_one_is_mod, IntKind.wrap_i64]
  omega
theorem bit_byte (v : Int) (i : Nat) : IntKind.u8.wrap (48 + IntKind.u8.wrap (bits .and .i64 (v / 2 ^ i) 1)) = ((ltr (decide (v / 2 ^ i % 2 = 1))).toNat : Int) := by
  rw [and_one, ltr_nat]
  generalize v / 2 ^ i = y
  rw [IntKind.wrap_u8, IntKind.wrap_u8]
  by_cases h : y % 2 = 1
  · simp [h]
  · have h0 : y % 2 = 0 := by omega
    simp [h0]

/-- the first j of k bits of v -/
def binP (v : Int) (k j : Nat) : List UInt8 := (List.range j).map fun i => ltr (decide (v / 2 ^ (k - 1 - i) % 2 = 1))
theorem binP_succ (v : Int) (k j : Nat) : binP v k (j + 1) = binP v k j ++ [ltr (decide (v / 2 ^ (k - 1 - j) % 2 = 1))] := by
  simp [binP, List.range_succ]
theorem binP_len (v : Int) (k j : Nat) : (binP v k j).length = j := by simp [binP]

set_option maxHeartbeats 1000000 in
theorem wNumber_any (B b : Nat) (T : List UInt8) (v : Int) (k : Nat) (w : World) (h : Wr w B b T) (hk : k ≤ 16) (hlen : T.length ≤ 100000000000) (hBw : B ≤ w.heap.size) :
    Calls Tryd.prog 41 #[.pointer (some ⟨b, 0, none⟩), .int .i64 v, .int .i64 k] w fun e w' => e = .returned (.tuple #[]) ∧ Wr w' B b (T ++ binT v k) ∧ KeptW B b w w' := by
  have HH := Hid.mk' h
  clear h
  have v1 : IntKind.i64.wrap ((k : Int) - 1) = (k : Int) - 1 := by rw [IntKind.wrap_i64]; omega
  go_enter Tryd.func41, Tryd.ntmps41
  go_wp2
  go_loopw [6] (fun iv wr => ∃ j : Nat, j ≤ k ∧ iv = .int .i64 ((k : Int) - 1 - j) ∧ Hid (Wr wr B b (T ++ binP v k j) ∧ KeptW B b w wr)) (fun iv _ => (intOf iv + 1).toNat)
  case atStart => exact ⟨0, by omega, by simp, by simpa [binP] using HH.out, KeptW.refl _ _ _⟩
  case round =>
    obtain ⟨j, hj, rfl, HI⟩ := hrel
    by_cases hlt : j < k
    · have HW := Hid.mk' (wWrite_any B b (T ++ binP v k j) (ltr (decide (v / 2 ^ (k - 1 - j) % 2 = 1))) wr.drew HI.out.1.drew (by rw [List.length_append, binP_len]; omega) (Nat.le_trans hBw HI.out.2.1.size))
      have hb := bit_byte v (k - 1 - j)
      have t1 : ((k : Int) - 1 - (j : Int)).toNat = k - 1 - j := by omega
      have t2 : decide (0 ≤ (k : Int) - 1 - (j : Int)) = true := decide_eq_true (by omega)
      have v2 : IntKind.i64.wrap ((k : Int) - 1 - (j : Int) - 1) = (k : Int) - 1 - (j : Int) - 1 := by rw [IntKind.wrap_i64]; omega
      have HJ := Hid.mk' (binP_succ v k j)
      go_wp2
      go_region_with (go_at_call 58; refine (HW.out).mono ?_; rintro e w1 ⟨rfl, h1, h2⟩; have H1 := Hid.mk' h1; have H2 := Hid.mk' h2; clear h1 h2 HW)
      go_wp2
      go_roundw
      case rel => exact ⟨j + 1, by omega, by congr 1; omega, by rw [HJ.out, ← List.append_assoc]; exact H1.out, HI.out.2.drew.trans H2.out⟩
      case measure => simp [intOf]; omega
    · have e : j = k := by omega
      subst e
      have t2 : decide (0 ≤ (j : Int) - 1 - (j : Int)) = false := decide_eq_false (by omega)
      go_wp2
      go_end0
      exact ⟨rfl, HI.out.1, HI.out.2⟩
end Go.Proofs.YtlncjgnomhpjnaaDoor
