import Derived.Test.YtlncjgnomhpjnabGreatDoorQU16
import Derived.Test.YtlncjgnomhpjnabGreatDoorQU17
import Derived.Deep.RegionHeld3
/-
  frame.readHead.
-/
namespace Go.Proofs.YtlncjgnomhpjnabGreatDoor
open Go.RowKit Go.Deep
set_option linter.unusedVariables false
theorem pieceT_length (T : List UInt8) (a b : Nat) (h : b ≤ T.length) (hab : a ≤ b) : (pieceT T a b).length = b - a := by
  unfold pieceT
  rw [List.length_take, List.length_drop]
  omega
/-- what a head says -/
def hNum (T : List UInt8) : Nat := valN (pieceT T 1 3)
def hLen (T : List UInt8) : Nat := valN (pieceT T 3 5)
def hCnt (T : List UInt8) : Nat := valN (pieceT T 5 6)
def hMode (T : List UInt8) : Nat := valN (pieceT T 6 7)
theorem infoFHead : (Tryz.prog.info? 203).map (·.size) = some 4 := by kernel_rfl
theorem Bx.set4 {u : World} {g : Nat} {t : TypeId} {o0 o1 o2 o3 : Value} (h : Bx u g t #[o0, o1, o2, o3]) (s0 s1 s2 s3 : Value) : Bx ((((u.drew.setCell ⟨g, 0, none⟩ s0).setCell ⟨g, 1, none⟩ s1).setCell ⟨g, 2, none⟩ s2).setCell ⟨g, 3, none⟩ s3) g t #[s0, s1, s2, s3] := by
  have h' : u.drew.heap[g]? = some (.cells #[o0, o1, o2, o3] t (0, 0)) := h
  simp [Bx, World.setCell, Array.getElem?_modify, h']
theorem res_rh (tmps : Array Value) (R : Nat) (b : Bool) (cs : Array Value) (W : World) (h : Bx W R 203 cs) (hs : cs.size = 4) (h2 : tmps.getD 2 undef = .pointer (some ⟨R, 0, none⟩)) (h3 : tmps.getD 3 undef = .bool b) :
    (results Tryz.f204 tmps).run Tryz.prog W = .ok (.tuple #[.agg cs, .bool b]) W := by
  have hl := run_loadVar_row (P := Tryz.prog) W R 203 203 cs (0, 0) _ h Tryz.underlying203 rfl (by rw [hs]; exact infoFHead)
  rw [Array.getD_eq_getD_getElem?] at h2 h3
  simp [results, Tryz.results204, asAddr, h2, h3, hl]
set_option maxHeartbeats 400000 in
theorem readHead_yes (T : List UInt8) (w : World) (hs : T.length ≤ 1048576) (h : HeadP T) :
    Calls Tryz.prog 204 #[.string (bs T)] w fun e w' => e = .returned (.tuple #[.agg #[.int .i64 (hNum T), .int .i64 (hLen T), .int .i64 ((hCnt T : Int) + 1), .int .i64 (hMode T)], .bool true]) ∧ Below w.heap.size w w' := by
  have hz : (bs T).size = T.length := bs_size T
  have h8 := h.1
  have HSE := Hid.mk' (fun u => isSealed8_any (T.take 8) u (by rw [List.length_take]; omega))
  have HP : Hid (1 ≤ (T.take 8).length ∧ seal8 ((T.take 8).take ((T.take 8).length - 1)) = T.take 8) := by
    have e : (T.take 8).length = 8 := by rw [List.length_take]; omega
    refine ⟨by omega, ?_⟩
    rw [e, List.take_take]
    exact h.2.2
  rw [← bs_takeN] at HSE
  have HV1 := Hid.mk' (fun u => value_any (pieceT T 1 3) u (by rw [pieceT_length _ _ _ (by omega) (by omega)]; omega))
  have HV2 := Hid.mk' (fun u => value_any (pieceT T 3 5) u (by rw [pieceT_length _ _ _ (by omega) (by omega)]; omega))
  have HV3 := Hid.mk' (fun u => value_any (pieceT T 5 6) u (by rw [pieceT_length _ _ _ (by omega) (by omega)]; omega))
  have HV4 := Hid.mk' (fun u => value_any (pieceT T 6 7) u (by rw [pieceT_length _ _ _ (by omega) (by omega)]; omega))
  rw [← bs_cut] at HV1 HV2 HV3 HV4
  have hb0 : ∀ h0 : 0 < (bs T).size, ((bs T)[0]'h0).toNat = 165 := fun h0 => by
    have h2 := h.2.1
    rw [List.getD_eq_getElem?_getD, List.getElem?_eq_getElem (by omega), Option.getD_some] at h2
    rw [bs_get T 0 h0, h2]; rfl
  have hcb : hCnt T < 256 := by
    have h1 := valN_lt (pieceT T 5 6) 1 (by rw [pieceT_length _ _ _ (by omega) (by omega)]; omega)
    have e : (pieceT T 5 6).take 1 = pieceT T 5 6 := List.take_of_length_le (by rw [pieceT_length _ _ _ (by omega) (by omega)]; omega)
    rw [e] at h1
    exact h1
  have wc : IntKind.i64.wrap ((hCnt T : Int) + 1) = (hCnt T : Int) + 1 := by rw [IntKind.wrap_i64]; omega
  have HN1 : Hid (valN (pieceT T 1 3) = hNum T ∧ valN (pieceT T 3 5) = hLen T ∧ valN (pieceT T 5 6) = hCnt T ∧ valN (pieceT T 6 7) = hMode T) := ⟨rfl, rfl, rfl, rfl⟩
  rw [HN1.out.1] at HV1
  rw [HN1.out.2.1] at HV2
  rw [HN1.out.2.2.1] at HV3
  rw [HN1.out.2.2.2] at HV4
  clear h
  generalize bs T = S at *
  generalize T.length = n at *
  have hb1 := hb0 (by omega)
  clear hb0
  have HB0 : Hid (Below w.heap.size w (w.alloc (.cells #[.int .i64 0, .int .i64 0, .int .i64 0, .int .i64 0] 203))) := (Below.refl _ _).alloc (Nat.le_refl _) _
  have HK0 : Hid (w.heap.size < (w.alloc (.cells #[.int .i64 0, .int .i64 0, .int .i64 0, .int .i64 0] 203)).heap.size ∧ (w.alloc (.cells #[.int .i64 0, .int .i64 0, .int .i64 0, .int .i64 0] 203)).heap[w.heap.size]? = some (.cells #[.int .i64 0, .int .i64 0, .int .i64 0, .int .i64 0] 203 (0, 0))) := ⟨by simp, blk_alloc_new w _⟩
  have b3 : (3 : Int) ≤ (n : Int) := by omega
  have b5 : (5 : Int) ≤ (n : Int) := by omega
  have b6 : (6 : Int) ≤ (n : Int) := by omega
  have b7 : (7 : Int) ≤ (n : Int) := by omega
  have n3 : 3 ≤ n := by omega
  have n5 : 5 ≤ n := by omega
  have n6 : 6 ≤ n := by omega
  have n7 : 7 ≤ n := by omega
  go_enter Tryz.func204, Tryz.ntmps204
  go_wp2_with (go_at_call 132; refine (HSE.out _).mono ?_; rintro e u1 ⟨he, hb⟩; have he := he.true_of HP.out; subst he; have hk1 := keep_blk hb HK0.out; obtain ⟨q0, q1, q2, q3, z0, z1, z2, z3⟩ := four_of_blk hk1.2; have HK1 : Hid (Bx u1 w.heap.size 203 #[.int .i64 0, .int .i64 0, .int .i64 0, .int .i64 0]) := hk1.2; have HB := Hid.mk' (HB0.out.trans (hb.mono HB0.out.size)).drew; clear hb HSE hk1)
  go_region_held3 (fun w' => True)
    (trivial)
    (first
    | (go_at_call 203; refine (HV1.out _).mono ?_; rintro e u2 ⟨rfl, hw⟩; subst u2; clear HV1)
    | (go_at_call 203; refine (HV2.out _).mono ?_; rintro e u2 ⟨rfl, hw⟩; subst u2; clear HV2)
    | (go_at_call 203; refine (HV3.out _).mono ?_; rintro e u2 ⟨rfl, hw⟩; subst u2; clear HV3)
    | (go_at_call 203; refine (HV4.out _).mono ?_; rintro e u2 ⟨rfl, hw⟩; subst u2; clear HV4))
  go_wp2
  exact bodyPost_ret (res_rh _ w.heap.size true _ _ (HK1.out.set4 _ _ _ _) rfl rfl rfl) rfl ⟨rfl, (((HB.out.setCell (p := ⟨w.heap.size, 0, none⟩) (Nat.le_refl _) _).setCell (p := ⟨w.heap.size, 1, none⟩) (Nat.le_refl _) _).setCell (p := ⟨w.heap.size, 2, none⟩) (Nat.le_refl _) _).setCell (p := ⟨w.heap.size, 3, none⟩) (Nat.le_refl _) _⟩
end Go.Proofs.YtlncjgnomhpjnabGreatDoor

/-
  frame.readHead where the text begins with no head; mayBe, modes, widthOf.
-/
namespace Go.Proofs.YtlncjgnomhpjnabGreatDoor
open Go.RowKit Go.Deep
set_option linter.unusedVariables false
theorem Bx.set4b {u : World} {g : Nat} {t : TypeId} {o0 o1 o2 o3 : Value} (h : Bx u g t #[o0, o1, o2, o3]) (s0 s1 s2 s3 : Value) : Bx ((((u.setCell ⟨g, 0, none⟩ s0).setCell ⟨g, 1, none⟩ s1).setCell ⟨g, 2, none⟩ s2).setCell ⟨g, 3, none⟩ s3) g t #[s0, s1, s2, s3] := by
  simp [Bx, World.setCell, Array.getElem?_modify, show u.heap[g]? = _ from h]
def noHead : Value := .agg #[.int .i64 0, .int .i64 0, .int .i64 0, .int .i64 0]
set_option maxHeartbeats 400000 in
theorem readHead_no (T : List UInt8) (w : World) (hs : T.length ≤ 1048576) (h : ¬ HeadP T) :
    Calls Tryz.prog 204 #[.string (bs T)] w fun e w' => e = .returned (.tuple #[noHead, .bool false]) ∧ Below w.heap.size w w' := by
  have hz : (bs T).size = T.length := bs_size T
  have HB0 : Hid (Below w.heap.size w (w.alloc (.cells #[.int .i64 0, .int .i64 0, .int .i64 0, .int .i64 0] 203))) := (Below.refl _ _).alloc (Nat.le_refl _) _
  have HK0 : Hid (w.heap.size < (w.alloc (.cells #[.int .i64 0, .int .i64 0, .int .i64 0, .int .i64 0] 203)).heap.size ∧ (w.alloc (.cells #[.int .i64 0, .int .i64 0, .int .i64 0, .int .i64 0] 203)).heap[w.heap.size]? = some (.cells #[.int .i64 0, .int .i64 0, .int .i64 0, .int .i64 0] 203 (0, 0))) := ⟨by simp, blk_alloc_new w _⟩
  have HX0 : Hid (Bx (w.alloc (.cells #[.int .i64 0, .int .i64 0, .int .i64 0, .int .i64 0] 203)) w.heap.size 203 #[.int .i64 0, .int .i64 0, .int .i64 0, .int .i64 0]) := Bx.new _ _ _
  by_cases h8 : 8 ≤ T.length
  · have hget : ∀ h0 : 0 < (bs T).size, (bs T)[0]'h0 = T.getD 0 0 := fun h0 => by
      rw [bs_get T 0 h0, List.getD_eq_getElem?_getD, List.getElem?_eq_getElem (by omega)]; rfl
    by_cases h1 : T.getD 0 0 = 165
    · have h2 : ¬ seal8 (T.take 7) = T.take 8 := fun e => h ⟨h8, h1, e⟩
      have HSE := Hid.mk' (fun u => isSealed8_any (T.take 8) u (by rw [List.length_take]; omega))
      have HP : Hid (¬ (1 ≤ (T.take 8).length ∧ seal8 ((T.take 8).take ((T.take 8).length - 1)) = T.take 8)) := by
        have e : (T.take 8).length = 8 := by rw [List.length_take]; omega
        intro hh
        have := hh.2
        rw [e, List.take_take] at this
        exact h2 this
      rw [← bs_takeN] at HSE
      have hb2 : ∀ h0 : 0 < (bs T).size, ((bs T)[0]'h0).toNat = 165 := fun h0 => by rw [hget h0, h1]; rfl
      clear h h1 h2 hget
      generalize bs T = S at *
      generalize T.length = n at *
      have hb3 := hb2 (by omega)
      clear hb2
      go_enter Tryz.func204, Tryz.ntmps204
      go_wp2_with (go_at_call 132; refine (HSE.out _).mono ?_; rintro e u1 ⟨he, hb⟩; have he := he.false_of HP.out; subst he; have hk1 := keep_blk hb HK0.out; obtain ⟨q0, q1, q2, q3, z0, z1, z2, z3⟩ := four_of_blk hk1.2; have HK1 : Hid (Bx u1 w.heap.size 203 #[.int .i64 0, .int .i64 0, .int .i64 0, .int .i64 0]) := hk1.2; have HB := Hid.mk' (HB0.out.trans (hb.mono HB0.out.size)); clear hb HSE hk1)
      exact bodyPost_ret (res_rh _ w.heap.size false _ _ (HK1.out.set4b _ _ _ _) rfl rfl rfl) rfl ⟨rfl, (((HB.out.setCell (p := ⟨w.heap.size, 0, none⟩) (Nat.le_refl _) _).setCell (p := ⟨w.heap.size, 1, none⟩) (Nat.le_refl _) _).setCell (p := ⟨w.heap.size, 2, none⟩) (Nat.le_refl _) _).setCell (p := ⟨w.heap.size, 3, none⟩) (Nat.le_refl _) _⟩
    · have hb2 : ∀ h0 : 0 < (bs T).size, ¬ ((bs T)[0]'h0).toNat = 165 := fun h0 e => h1 (by rw [← hget h0]; exact UInt8.toNat_inj.1 e)
      clear h h1 hget
      generalize bs T = S at *
      generalize T.length = n at *
      have hb3 := hb2 (by omega)
      have hb4 : (((S[0]'(by omega)).toNat : Int) != 165) = true := by simp; omega
      have hb5 : ¬ ((S[0]'(by omega)).toNat : Int) = 165 := by omega
      clear hb2
      go_enter Tryz.func204, Tryz.ntmps204
      go_wp2
      exact bodyPost_ret (res_rh _ w.heap.size false _ _ HX0.out rfl rfl rfl) rfl ⟨rfl, HB0.out⟩
  · clear h
    generalize bs T = S at *
    generalize T.length = n at *
    have t1 : decide ((n : Int) < 8) = true := decide_eq_true (by omega)
    have hn : (n : Int) < 8 := by omega
    go_enter Tryz.func204, Tryz.ntmps204
    go_wp2
    exact bodyPost_ret (res_rh _ w.heap.size false _ _ HX0.out rfl rfl rfl) rfl ⟨rfl, HB0.out⟩
end Go.Proofs.YtlncjgnomhpjnabGreatDoor

