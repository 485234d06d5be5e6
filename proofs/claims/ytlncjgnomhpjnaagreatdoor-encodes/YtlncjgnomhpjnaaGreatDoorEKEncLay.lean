import Derived.Test.YtlncjgnomhpjnaaGreatDoorEJEncBlock
import Derived.Test.YtlncjgnomhpjnaaGreatDoorEKEncHead
import Derived.Test.YtlncjgnomhpjnaaGreatDoorEJFrameHead
/-
  A stream's head, laid down: head.layPoints, (head.Head).Lay.
-/
namespace Go.Proofs.YtlncjgnomhpjnaaGreatDoor
open Go.RowKit Go.Deep
set_option linter.unusedVariables false

set_option maxHeartbeats 1000000 in
theorem layPoints_any (ps : List Nat) (a : Option Addr) (cap : Nat) (w : World) (hl : ps.length ≤ 300) (hp : ∀ p ∈ ps, p < 4294967296)
    (hI : IntsAt w a ps.length (fun i => ((ps.getD i 0 : Nat) : Int))) (hlow : ∀ x, a = some x → 0 < ps.length → x.block < w.heap.size) :
    Calls Tryz.prog 162 #[.slice a ps.length cap] w fun e w' => e = .returned (.string (bs (ptsT ps))) ∧ Below w.heap.size w w' := by
  have HI := Hid.mk' hI
  have HLOW := Hid.mk' hlow
  have HP : Hid (∀ i, i < ps.length → ps.getD i 0 < 4294967296) := fun i hi => by
    rw [List.getD_eq_getElem?_getD, List.getElem?_eq_getElem hi]
    exact hp _ (List.getElem_mem hi)
  have HPT : Hid (∀ i, i < ps.length → ptsT (ps.take (i + 1)) = ptsT (ps.take i) ++ inT (ps.getD i 0) 2) := fun i hi => by
    rw [ptsT_take ps i hi, List.getD_eq_getElem?_getD, List.getElem?_eq_getElem hi]; rfl
  have HPL := Hid.mk' (ptsT_length ps)
  clear hI hlow hp
  have HB0 : Hid (Bld (w.alloc (.cells #[.pointer none, .slice none 0 0] 150)) w.heap.size w.heap.size [] ∧ Below w.heap.size w (w.alloc (.cells #[.pointer none, .slice none 0 0] 150)) ∧ w.heap.size < (w.alloc (.cells #[.pointer none, .slice none 0 0] 150)).heap.size) := ⟨Bld.new w, (Below.refl _ _).alloc (Nat.le_refl _) _, by simp⟩
  generalize hn : ps.length = n at *
  have HN := Hid.mk' hn
  clear hn
  go_enter Tryz.func162, Tryz.ntmps162
  go_wp2
  go_loopw [5, 8] (fun _ iv wr => ∃ i : Nat, i ≤ n ∧ iv = .int .i64 i ∧ Hid (Bld wr w.heap.size w.heap.size (ptsT (ps.take i)) ∧ Below w.heap.size w wr ∧ w.heap.size < wr.heap.size)) (fun _ iv _ => n - (intOf iv).toNat)
  case atStart => exact ⟨0, Nat.zero_le _, rfl, HB0.out⟩
  case round =>
    obtain ⟨i, hi, rfl, HR⟩ := hrel
    by_cases hlt : i < n
    · obtain ⟨gi, oi, hAi, hci⟩ := HI.out.open (by omega)
      subst hAi
      have hgl : gi < w.heap.size := HLOW.out _ rfl (by omega)
      have hcv : wr.cell? ⟨gi, oi + i, none⟩ = some (.int .i64 ((ps.getD i 0 : Nat) : Int)) := (HR.out.2.1.cell (p := ⟨gi, oi + i, none⟩) hgl).trans (hci i hlt)
      have hpb := HP.out i hlt
      have HT := Hid.mk' (HPT.out i hlt)
      have HTL := Hid.mk' (HPL.out i (by have := HN.out; omega))
      generalize ps.getD i 0 = q at *
      clear hci
      have HIN := Hid.mk' (fun u => in_any q 2 u (by omega) (by omega))
      have HW := Hid.mk' (fun (u : World) (hu : Below wr.heap.size wr u) => bld_write w.heap.size w.heap.size (ptsT (ps.take i)) (inT q 2) u (HR.out.1.below hu) (by intro e; have := inT_length q 2; rw [e] at this; simp at this) (by rw [HTL.out, inT_length]; omega) (Nat.le_trans HR.out.2.1.size hu.size))
      have hzq : (bs (inT q 2)).size = 2 := by rw [bs_size, inT_length]
      rw [hzq] at HW
      generalize bs (inT q 2) = X at *
      go_wp2_with (first
        | (go_at_call 105; refine (HIN.out _).mono ?_; rintro e u1 ⟨rfl, hb1⟩; have HB1 : Hid (Below wr.heap.size wr u1) := (⟨hb1.os, hb1.tape, hb1.output, hb1.size, hb1.block⟩ : Below wr.heap.size wr u1); clear hb1 HIN)
        | (go_at_call 140; refine (HW.out _ HB1.out).mono ?_; rintro e u2 ⟨rfl, hbl2, hb2, -⟩; have HB2 : Hid (Bld u2 w.heap.size w.heap.size (ptsT (ps.take (i + 1))) ∧ Below w.heap.size w u2 ∧ w.heap.size < u2.heap.size) := ⟨by rw [HT.out]; exact hbl2, HR.out.2.1.trans ((HB1.out.mono HR.out.2.1.size).trans hb2), Nat.lt_of_lt_of_le HR.out.2.2 (Nat.le_trans HB1.out.size hb2.size)⟩; clear hbl2 hb2 HW))
      go_roundw
      case rel => exact ⟨i + 1, by omega, by go_num, HB2.out⟩
      case measure => simp [intOf]; omega
    · have e : i = n := by omega
      subst e
      have HST := Hid.mk' (fun (u : World) (hu : Below wr.heap.size wr u) => bld_string w.heap.size w.heap.size (ptsT (ps.take i)) u (HR.out.1.below hu))
      rw [List.take_of_length_le (by have := HN.out; omega)] at HST
      go_wp2_with (go_at_call 142; refine (HST.out _ ?_).mono ?_; (first | exact Below.refl _ _ | exact (Below.refl _ _).drew); rintro e u1 ⟨rfl, hb1⟩; have HB1 : Hid (Below w.heap.size w u1) := HR.out.2.1.trans ⟨hb1.os, hb1.tape, hb1.output, hb1.size, hb1.block⟩; clear hb1 HST)
      go_ret
      exact ⟨rfl, HB1.out⟩

/-- the cells of a head's block that are looked at, in a later world -/
def HdS (b : Nat) (c0 c1 c2 c3 c4 s least most sum : Int) (pv : Value) (u : World) : Prop :=
  b < u.heap.size ∧ u.cell? ⟨b, 0, none⟩ = some (.int .i64 c0) ∧ u.cell? ⟨b, 1, none⟩ = some (.int .i64 c1) ∧ u.cell? ⟨b, 2, none⟩ = some (.int .i64 c2) ∧ u.cell? ⟨b, 3, none⟩ = some (.int .i64 c3) ∧ u.cell? ⟨b, 4, none⟩ = some (.int .i64 c4) ∧ u.cell? ⟨b, 5, none⟩ = some (.int .i64 s) ∧ u.cell? ⟨b, 7, none⟩ = some (.int .i64 least) ∧ u.cell? ⟨b, 8, none⟩ = some (.int .i64 most) ∧ u.cell? ⟨b, 9, none⟩ = some (.int .i64 sum) ∧ u.cell? ⟨b, 10, none⟩ = some pv
theorem keepH {b : Nat} {c0 c1 c2 c3 c4 s least most sum : Int} {pv : Value} {u u' : World} (hb : Below u.heap.size u u') (h : HdS b c0 c1 c2 c3 c4 s least most sum pv u) : HdS b c0 c1 c2 c3 c4 s least most sum pv u' :=
  ⟨Nat.lt_of_lt_of_le h.1 hb.size, keep_cell hb h.1 h.2.1, keep_cell hb h.1 h.2.2.1, keep_cell hb h.1 h.2.2.2.1, keep_cell hb h.1 h.2.2.2.2.1, keep_cell hb h.1 h.2.2.2.2.2.1, keep_cell hb h.1 h.2.2.2.2.2.2.1, keep_cell hb h.1 h.2.2.2.2.2.2.2.1, keep_cell hb h.1 h.2.2.2.2.2.2.2.2.1, keep_cell hb h.1 h.2.2.2.2.2.2.2.2.2.1, keep_cell hb h.1 h.2.2.2.2.2.2.2.2.2.2⟩

set_option maxRecDepth 20000 in
set_option maxHeartbeats 4000000 in
theorem headText_any (f : Bool) (c0 c1 c2 c3 s c4 least most sum : Nat) (ps : List Nat) (a : Option Addr) (cap : Nat) (w : World) (h0 : c0 < 256) (h1 : c1 < 256) (h2 : c2 < 256) (h3 : c3 < 65536) (h4 : c4 < 256) (h5 : s < 65536) (h6 : least < 65536) (h7 : most < 65536) (h8 : sum < 4294967296)
    (hl : ps.length ≤ 300) (hp : ∀ p ∈ ps, p < 4294967296) (hI : IntsAt w a ps.length (fun i => ((ps.getD i 0 : Nat) : Int))) (hlow : ∀ x, a = some x → 0 < ps.length → x.block < w.heap.size) :
    Calls Tryz.prog 129 #[.agg (hdC c0 c1 c2 c3 c4 s f least most sum (.slice a ps.length cap))] w fun e w' => e = .returned (.string (bs (headTx f.toNat c0 c1 c2 c3 s c4 least most sum ps))) ∧ Below w.heap.size w w' := by
  have HI1 := Hid.mk' (fun u => in_any f.toNat 1 u (by omega) (by cases f <;> decide))
  have HI2 := Hid.mk' (fun u => in_any c0 1 u (by omega) (by omega))
  have HI3 := Hid.mk' (fun u => in_any c1 1 u (by omega) (by omega))
  have HI4 := Hid.mk' (fun u => in_any c2 1 u (by omega) (by omega))
  have HI5 := Hid.mk' (fun u => in_any c3 2 u (by omega) (by omega))
  have HI6 := Hid.mk' (fun u => in_any s 2 u (by omega) (by omega))
  have HI7 := Hid.mk' (fun u => in_any c4 1 u (by omega) (by omega))
  have HI8 := Hid.mk' (fun u => in_any least 2 u (by omega) (by omega))
  have HI9 := Hid.mk' (fun u => in_any most 2 u (by omega) (by omega))
  have HI10 := Hid.mk' (fun u => in_any sum 4 u (by omega) (by omega))
  have HS8 := Hid.mk' (fun u => seal8_any (fieldsT f.toNat c0 c1 c2 c3 s c4 least most sum) u (by rw [fieldsT_length]; omega))
  have hpl := ptsT_length ps ps.length (Nat.le_refl _)
  rw [List.take_length] at hpl
  have HS16 := Hid.mk' (fun u => seal16_any (seal8 (fieldsT f.toNat c0 c1 c2 c3 s c4 least most sum) ++ ptsT ps) u (by rw [List.length_append, seal8_length, fieldsT_length, hpl]; omega))
  have HLP := Hid.mk' (fun (u : World) (hu : Below w.heap.size w u) => layPoints_any ps a cap u hl hp (hI.below hu hlow) (fun x hx hn => Nat.lt_of_lt_of_le (hlow x hx hn) hu.size))
  have HTX : Hid (ByteArray.mk #[82, 76] ++ bs (inT f.toNat 1) ++ bs (inT c0 1) ++ bs (inT c1 1) ++ bs (inT c2 1) ++ bs (inT c3 2) ++ bs (inT s 2) ++ bs (inT c4 1) ++ bs (inT least 2) ++ bs (inT most 2) ++ bs (inT sum 4) = bs (fieldsT f.toNat c0 c1 c2 c3 s c4 least most sum)) := by
    show _ = _
    rw [show ByteArray.mk #[82, 76] = bs [82, 76] from rfl]
    simp only [bs_append]; rfl
  have HAP : Hid (bs (seal8 (fieldsT f.toNat c0 c1 c2 c3 s c4 least most sum) ++ ptsT ps) = bs (seal8 (fieldsT f.toNat c0 c1 c2 c3 s c4 least most sum)) ++ bs (ptsT ps)) := (bs_append _ _).symm
  have HFR : Hid (seal16 (seal8 (fieldsT f.toNat c0 c1 c2 c3 s c4 least most sum) ++ ptsT ps) = headTx f.toNat c0 c1 c2 c3 s c4 least most sum ps) := rfl
  rw [HFR.out, HAP.out] at HS16
  rw [← HTX.out] at HS8
  have z1 : (bs (inT f.toNat 1)).size = 1 := by rw [bs_size, inT_length]
  have z2 : (bs (inT c0 1)).size = 1 := by rw [bs_size, inT_length]
  have z3 : (bs (inT c1 1)).size = 1 := by rw [bs_size, inT_length]
  have z4 : (bs (inT c2 1)).size = 1 := by rw [bs_size, inT_length]
  have z5 : (bs (inT c3 2)).size = 2 := by rw [bs_size, inT_length]
  have z6 : (bs (inT s 2)).size = 2 := by rw [bs_size, inT_length]
  have z7 : (bs (inT c4 1)).size = 1 := by rw [bs_size, inT_length]
  have z8 : (bs (inT least 2)).size = 2 := by rw [bs_size, inT_length]
  have z9 : (bs (inT most 2)).size = 2 := by rw [bs_size, inT_length]
  have z10 : (bs (inT sum 4)).size = 4 := by rw [bs_size, inT_length]
  have z11 : (bs (seal8 (fieldsT f.toNat c0 c1 c2 c3 s c4 least most sum))).size = 20 := by rw [bs_size, seal8_length, fieldsT_length]
  have z12 : (bs (ptsT ps)).size = 2 * ps.length := by rw [bs_size, hpl]
  clear HTX HAP HFR hpl hp hI hlow
  generalize headTx f.toNat c0 c1 c2 c3 s c4 least most sum ps = R at *
  generalize bs (seal8 (fieldsT f.toNat c0 c1 c2 c3 s c4 least most sum)) = H8 at *
  generalize bs (ptsT ps) = PT at *
  generalize bs (inT f.toNat 1) = X1 at *
  generalize bs (inT c0 1) = X2 at *
  generalize bs (inT c1 1) = X3 at *
  generalize bs (inT c2 1) = X4 at *
  generalize bs (inT c3 2) = X5 at *
  generalize bs (inT s 2) = X6 at *
  generalize bs (inT c4 1) = X7 at *
  generalize bs (inT least 2) = X8 at *
  generalize bs (inT most 2) = X9 at *
  generalize bs (inT sum 4) = X10 at *
  generalize ps.length = n at *
  have hn2 : 2 * n ≤ 600 := by omega
  generalize 2 * n = n2 at *
  have q8 : ¬ 9223372036854775807 < 20 + n2 := by omega
  have q9 : ¬ 9223372036854775807 < H8.size + PT.size := by omega
  have hb0 : Below w.heap.size w (w.alloc (.cells (hdC c0 c1 c2 c3 c4 s f least most sum (.slice a n cap)) 115)) := (Below.refl _ _).alloc (Nat.le_refl _) _
  have HB0 := Hid.mk' hb0
  clear hb0
  have HT0 : Hid (HdS w.heap.size c0 c1 c2 c3 c4 s least most sum (.slice a n cap) (w.alloc (.cells (hdC c0 c1 c2 c3 c4 s f least most sum (.slice a n cap)) 115)).drew) := by show HdS _ _ _ _ _ _ _ _ _ _ _ _; simp [HdS, hdC]
  cases f with
  | true =>
    replace HI1 : Hid (∀ u : World, Calls Tryz.prog 105 #[.int .i64 1, .int .i64 1] u fun e w' => e = .returned (.string X1) ∧ Below u.heap.size u w') := HI1
    unfold hdC at HT0
    have hS0 := HT0.out
    unfold HdS at hS0
    unfold hdC at HB0 ⊢
    go_enter Tryz.func129, Tryz.ntmps129
    go_wp2
    go_region_held3 (fun w' => w.heap.size < w'.heap.size ∧ w'.cell? ⟨w.heap.size, 0, none⟩ = some (.int .i64 c0) ∧ w'.cell? ⟨w.heap.size, 1, none⟩ = some (.int .i64 c1) ∧ w'.cell? ⟨w.heap.size, 2, none⟩ = some (.int .i64 c2) ∧ w'.cell? ⟨w.heap.size, 3, none⟩ = some (.int .i64 c3) ∧ w'.cell? ⟨w.heap.size, 4, none⟩ = some (.int .i64 c4) ∧ w'.cell? ⟨w.heap.size, 5, none⟩ = some (.int .i64 s) ∧ w'.cell? ⟨w.heap.size, 7, none⟩ = some (.int .i64 least) ∧ w'.cell? ⟨w.heap.size, 8, none⟩ = some (.int .i64 most) ∧ w'.cell? ⟨w.heap.size, 9, none⟩ = some (.int .i64 sum) ∧ w'.cell? ⟨w.heap.size, 10, none⟩ = some (.slice a n cap))
      (with_reducible assumption)
      (first
      | (go_at_call 105; refine (HI1.out _).mono ?_; rintro e u1 ⟨rfl, hb1⟩; have HT1 := Hid.mk' (keepH hb1 HT0.out); have hS1 := HT1.out; unfold HdS at hS1; have HB1 := Hid.mk' (HB0.out.drew.trans (hb1.mono (by simp))); clear HI1 HB0 HT0 hS0 hb1)
      | (go_at_call 105; refine (HI2.out _).mono ?_; rintro e u2 ⟨rfl, hb2⟩; have HT2 := Hid.mk' (keepH hb2 HT1.out); have hS2 := HT2.out; unfold HdS at hS2; have HB2 := Hid.mk' (HB1.out.trans (hb2.mono HB1.out.size)); clear HI2 HB1 HT1 hS1 hb2)
      | (go_at_call 105; refine (HI3.out _).mono ?_; rintro e u3 ⟨rfl, hb3⟩; have HT3 := Hid.mk' (keepH hb3 HT2.out); have hS3 := HT3.out; unfold HdS at hS3; have HB3 := Hid.mk' (HB2.out.trans (hb3.mono HB2.out.size)); clear HI3 HB2 HT2 hS2 hb3)
      | (go_at_call 105; refine (HI4.out _).mono ?_; rintro e u4 ⟨rfl, hb4⟩; have HT4 := Hid.mk' (keepH hb4 HT3.out); have hS4 := HT4.out; unfold HdS at hS4; have HB4 := Hid.mk' (HB3.out.trans (hb4.mono HB3.out.size)); clear HI4 HB3 HT3 hS3 hb4)
      | (go_at_call 105; refine (HI5.out _).mono ?_; rintro e u5 ⟨rfl, hb5⟩; have HT5 := Hid.mk' (keepH hb5 HT4.out); have hS5 := HT5.out; unfold HdS at hS5; have HB5 := Hid.mk' (HB4.out.trans (hb5.mono HB4.out.size)); clear HI5 HB4 HT4 hS4 hb5)
      | (go_at_call 105; refine (HI6.out _).mono ?_; rintro e u6 ⟨rfl, hb6⟩; have HT6 := Hid.mk' (keepH hb6 HT5.out); have hS6 := HT6.out; unfold HdS at hS6; have HB6 := Hid.mk' (HB5.out.trans (hb6.mono HB5.out.size)); clear HI6 HB5 HT5 hS5 hb6)
      | (go_at_call 105; refine (HI7.out _).mono ?_; rintro e u7 ⟨rfl, hb7⟩; have HT7 := Hid.mk' (keepH hb7 HT6.out); have hS7 := HT7.out; unfold HdS at hS7; have HB7 := Hid.mk' (HB6.out.trans (hb7.mono HB6.out.size)); clear HI7 HB6 HT6 hS6 hb7)
      | (go_at_call 105; refine (HI8.out _).mono ?_; rintro e u8 ⟨rfl, hb8⟩; have HT8 := Hid.mk' (keepH hb8 HT7.out); have hS8 := HT8.out; unfold HdS at hS8; have HB8 := Hid.mk' (HB7.out.trans (hb8.mono HB7.out.size)); clear HI8 HB7 HT7 hS7 hb8)
      | (go_at_call 105; refine (HI9.out _).mono ?_; rintro e u9 ⟨rfl, hb9⟩; have HT9 := Hid.mk' (keepH hb9 HT8.out); have hS9 := HT9.out; unfold HdS at hS9; have HB9 := Hid.mk' (HB8.out.trans (hb9.mono HB8.out.size)); clear HI9 HB8 HT8 hS8 hb9)
      | (go_at_call 105; refine (HI10.out _).mono ?_; rintro e u10 ⟨rfl, hb10⟩; have HT10 := Hid.mk' (keepH hb10 HT9.out); have hS10 := HT10.out; unfold HdS at hS10; have HB10 := Hid.mk' (HB9.out.trans (hb10.mono HB9.out.size)); clear HI10 HB9 HT9 hS9 hb10))
    go_wp2
    have hS20 : w.heap.size < u10.drew.heap.size ∧ u10.drew.cell? ⟨w.heap.size, 10, none⟩ = some (.slice a n cap) := ⟨HT10.out.1, HT10.out.2.2.2.2.2.2.2.2.2.2⟩
    clear hS10 HT10
    go_region_held3 (fun w' => w.heap.size < w'.heap.size ∧ w'.cell? ⟨w.heap.size, 10, none⟩ = some (.slice a n cap))
      (with_reducible assumption)
      (first
      | (go_at_call 107; refine (HS8.out _).mono ?_; rintro e u11 ⟨rfl, hb11⟩; have hS21 : w.heap.size < u11.heap.size ∧ u11.cell? ⟨w.heap.size, 10, none⟩ = some (.slice a n cap) := ⟨Nat.lt_of_lt_of_le hS20.1 hb11.size, keep_cell hb11 hS20.1 hS20.2⟩; have HB11 := Hid.mk' (HB10.out.drew.trans (hb11.mono HB10.out.size)); clear HS8 HB10 hb11 hS20)
      | (go_at_call 162; refine (HLP.out _ HB11.out).mono ?_; rintro e u12 ⟨rfl, hb12⟩; have hS22 : w.heap.size < u12.heap.size ∧ u12.cell? ⟨w.heap.size, 10, none⟩ = some (.slice a n cap) := ⟨Nat.lt_of_lt_of_le hS21.1 hb12.size, keep_cell hb12 hS21.1 hS21.2⟩; have HB12 := Hid.mk' (HB11.out.trans (hb12.mono HB11.out.size)); clear HLP HB11 hb12 hS21)
      | (go_at_call 66; refine (HS16.out _).mono ?_; rintro e u13 ⟨rfl, hb13⟩; have hS23 : w.heap.size < u13.heap.size ∧ u13.cell? ⟨w.heap.size, 10, none⟩ = some (.slice a n cap) := ⟨Nat.lt_of_lt_of_le hS22.1 hb13.size, keep_cell hb13 hS22.1 hS22.2⟩; have HB13 := Hid.mk' (HB12.out.trans (hb13.mono HB12.out.size)); clear HS16 HB12 hb13))
    go_wp2
    go_ret
    exact ⟨rfl, HB13.out⟩
  | false =>
    replace HI1 : Hid (∀ u : World, Calls Tryz.prog 105 #[.int .i64 0, .int .i64 1] u fun e w' => e = .returned (.string X1) ∧ Below u.heap.size u w') := HI1
    unfold hdC at HT0
    have hS0 := HT0.out
    unfold HdS at hS0
    unfold hdC at HB0 ⊢
    go_enter Tryz.func129, Tryz.ntmps129
    go_wp2
    go_region_held3 (fun w' => w.heap.size < w'.heap.size ∧ w'.cell? ⟨w.heap.size, 0, none⟩ = some (.int .i64 c0) ∧ w'.cell? ⟨w.heap.size, 1, none⟩ = some (.int .i64 c1) ∧ w'.cell? ⟨w.heap.size, 2, none⟩ = some (.int .i64 c2) ∧ w'.cell? ⟨w.heap.size, 3, none⟩ = some (.int .i64 c3) ∧ w'.cell? ⟨w.heap.size, 4, none⟩ = some (.int .i64 c4) ∧ w'.cell? ⟨w.heap.size, 5, none⟩ = some (.int .i64 s) ∧ w'.cell? ⟨w.heap.size, 7, none⟩ = some (.int .i64 least) ∧ w'.cell? ⟨w.heap.size, 8, none⟩ = some (.int .i64 most) ∧ w'.cell? ⟨w.heap.size, 9, none⟩ = some (.int .i64 sum) ∧ w'.cell? ⟨w.heap.size, 10, none⟩ = some (.slice a n cap))
      (with_reducible assumption)
      (first
      | (go_at_call 105; refine (HI1.out _).mono ?_; rintro e u1 ⟨rfl, hb1⟩; have HT1 := Hid.mk' (keepH hb1 HT0.out); have hS1 := HT1.out; unfold HdS at hS1; have HB1 := Hid.mk' (HB0.out.drew.trans (hb1.mono (by simp))); clear HI1 HB0 HT0 hS0 hb1)
      | (go_at_call 105; refine (HI2.out _).mono ?_; rintro e u2 ⟨rfl, hb2⟩; have HT2 := Hid.mk' (keepH hb2 HT1.out); have hS2 := HT2.out; unfold HdS at hS2; have HB2 := Hid.mk' (HB1.out.trans (hb2.mono HB1.out.size)); clear HI2 HB1 HT1 hS1 hb2)
      | (go_at_call 105; refine (HI3.out _).mono ?_; rintro e u3 ⟨rfl, hb3⟩; have HT3 := Hid.mk' (keepH hb3 HT2.out); have hS3 := HT3.out; unfold HdS at hS3; have HB3 := Hid.mk' (HB2.out.trans (hb3.mono HB2.out.size)); clear HI3 HB2 HT2 hS2 hb3)
      | (go_at_call 105; refine (HI4.out _).mono ?_; rintro e u4 ⟨rfl, hb4⟩; have HT4 := Hid.mk' (keepH hb4 HT3.out); have hS4 := HT4.out; unfold HdS at hS4; have HB4 := Hid.mk' (HB3.out.trans (hb4.mono HB3.out.size)); clear HI4 HB3 HT3 hS3 hb4)
      | (go_at_call 105; refine (HI5.out _).mono ?_; rintro e u5 ⟨rfl, hb5⟩; have HT5 := Hid.mk' (keepH hb5 HT4.out); have hS5 := HT5.out; unfold HdS at hS5; have HB5 := Hid.mk' (HB4.out.trans (hb5.mono HB4.out.size)); clear HI5 HB4 HT4 hS4 hb5)
      | (go_at_call 105; refine (HI6.out _).mono ?_; rintro e u6 ⟨rfl, hb6⟩; have HT6 := Hid.mk' (keepH hb6 HT5.out); have hS6 := HT6.out; unfold HdS at hS6; have HB6 := Hid.mk' (HB5.out.trans (hb6.mono HB5.out.size)); clear HI6 HB5 HT5 hS5 hb6)
      | (go_at_call 105; refine (HI7.out _).mono ?_; rintro e u7 ⟨rfl, hb7⟩; have HT7 := Hid.mk' (keepH hb7 HT6.out); have hS7 := HT7.out; unfold HdS at hS7; have HB7 := Hid.mk' (HB6.out.trans (hb7.mono HB6.out.size)); clear HI7 HB6 HT6 hS6 hb7)
      | (go_at_call 105; refine (HI8.out _).mono ?_; rintro e u8 ⟨rfl, hb8⟩; have HT8 := Hid.mk' (keepH hb8 HT7.out); have hS8 := HT8.out; unfold HdS at hS8; have HB8 := Hid.mk' (HB7.out.trans (hb8.mono HB7.out.size)); clear HI8 HB7 HT7 hS7 hb8)
      | (go_at_call 105; refine (HI9.out _).mono ?_; rintro e u9 ⟨rfl, hb9⟩; have HT9 := Hid.mk' (keepH hb9 HT8.out); have hS9 := HT9.out; unfold HdS at hS9; have HB9 := Hid.mk' (HB8.out.trans (hb9.mono HB8.out.size)); clear HI9 HB8 HT8 hS8 hb9)
      | (go_at_call 105; refine (HI10.out _).mono ?_; rintro e u10 ⟨rfl, hb10⟩; have HT10 := Hid.mk' (keepH hb10 HT9.out); have hS10 := HT10.out; unfold HdS at hS10; have HB10 := Hid.mk' (HB9.out.trans (hb10.mono HB9.out.size)); clear HI10 HB9 HT9 hS9 hb10))
    go_wp2
    have hS20 : w.heap.size < u10.drew.heap.size ∧ u10.drew.cell? ⟨w.heap.size, 10, none⟩ = some (.slice a n cap) := ⟨HT10.out.1, HT10.out.2.2.2.2.2.2.2.2.2.2⟩
    clear hS10 HT10
    go_region_held3 (fun w' => w.heap.size < w'.heap.size ∧ w'.cell? ⟨w.heap.size, 10, none⟩ = some (.slice a n cap))
      (with_reducible assumption)
      (first
      | (go_at_call 107; refine (HS8.out _).mono ?_; rintro e u11 ⟨rfl, hb11⟩; have hS21 : w.heap.size < u11.heap.size ∧ u11.cell? ⟨w.heap.size, 10, none⟩ = some (.slice a n cap) := ⟨Nat.lt_of_lt_of_le hS20.1 hb11.size, keep_cell hb11 hS20.1 hS20.2⟩; have HB11 := Hid.mk' (HB10.out.drew.trans (hb11.mono HB10.out.size)); clear HS8 HB10 hb11 hS20)
      | (go_at_call 162; refine (HLP.out _ HB11.out).mono ?_; rintro e u12 ⟨rfl, hb12⟩; have hS22 : w.heap.size < u12.heap.size ∧ u12.cell? ⟨w.heap.size, 10, none⟩ = some (.slice a n cap) := ⟨Nat.lt_of_lt_of_le hS21.1 hb12.size, keep_cell hb12 hS21.1 hS21.2⟩; have HB12 := Hid.mk' (HB11.out.trans (hb12.mono HB11.out.size)); clear HLP HB11 hb12 hS21)
      | (go_at_call 66; refine (HS16.out _).mono ?_; rintro e u13 ⟨rfl, hb13⟩; have hS23 : w.heap.size < u13.heap.size ∧ u13.cell? ⟨w.heap.size, 10, none⟩ = some (.slice a n cap) := ⟨Nat.lt_of_lt_of_le hS22.1 hb13.size, keep_cell hb13 hS22.1 hS22.2⟩; have HB13 := Hid.mk' (HB12.out.trans (hb13.mono HB12.out.size)); clear HS16 HB12 hb13))
    go_wp2
    go_ret
    exact ⟨rfl, HB13.out⟩
end Go.Proofs.YtlncjgnomhpjnaaGreatDoor

