/-
  'Codes', walked.
-/
import Derived.Test.YtlncjgnomhpjnaaDoorRefCode
namespace Go.Proofs.YtlncjgnomhpjnaaDoor
open Go.RowKit Go.Deep
set_option linter.unusedVariables false

theorem lnum_any (c : Int) (w : World) : Calls Tryd.prog 7 #[.int .i64 c] w fun e w' => e = .returned (.int .i64 c) ∧ w' = w := by
  go_enter Tryd.func7, Tryd.ntmps7
  go_wp2
  go_ret
  exact ⟨rfl, rfl⟩

/-- all tables -/
structure Tabs4 (w : World) : Prop where
  prog : Tabs w
  ref : TabAt w 3
  refLt : 3 < w.heap.size
theorem Tabs4.below {w u : World} (h : Tabs4 w) (hb : Below w.heap.size w u) : Tabs4 u :=
  ⟨h.prog.below hb, fun r c hr hc => (hb.cell (p := ⟨3, 4 * r + c, none⟩) h.refLt).trans (h.ref r c hr hc), Nat.lt_of_lt_of_le h.refLt hb.size⟩
theorem codeE_bd (width : Int) (l : Nat → Int) (n : Nat) : codeE width l n = 0 ∨ codeE width l n = 3 := by unfold codeE; split <;> simp
theorem lent_ints {w : World} {B n : Nat} {f : Nat → Int} (h : w.rowIs B 3 (n + 8) (lentRow n f)) : IntsAt w (some ⟨B, 0, none⟩) n f := fun i hi => ⟨_, rfl, by
  have := h.cell (i := i) (by omega)
  unfold lentRow at this
  rw [if_pos hi] at this
  rw [addr_add, Nat.zero_add]; exact this⟩

set_option maxHeartbeats 1000000 in
theorem codes_some (width : Int) (x : Addr) (n c : Nat) (l : Nat → Int) (w : World) (hn : n ≤ 17592186044416) (hI : IntsAt w (some x) n l) (hx : 0 < n → x.block < w.heap.size) (hT : Tabs4 w) :
    Calls Tryd.prog 8 #[.int .i64 width, .slice (some x) n c] w fun e w' => e = .returned (.bool true) ∧ Below w.heap.size w w' := by
  have HL := Hid.mk' (lend_some x n c l w hn hI hx)
  have HIU := Hid.mk' (fun (u : World) (hu : Below w.heap.size w u) => hI.belowB hu (fun y hy h0 => by cases hy; exact hx h0))
  have HRC := Hid.mk' (fun (u : World) (hu : Below w.heap.size w u) (hr : u.rowIs w.heap.size 3 (n + 8) (lentRow n l)) => reelCode_any width (some ⟨w.heap.size, 0, none⟩) n (n + 8) l u hn (lent_ints hr) (fun y hy _ => by cases hy; exact hr.lt) (hT.below hu).prog)
  have HFC := Hid.mk' (fun (u : World) (hu : Below w.heap.size w u) => rCode_any width (some x) n c l u hn (HIU.out u hu) (fun y hy h0 => by cases hy; exact Nat.lt_of_lt_of_le (hx h0) hu.size) (hT.below hu).ref (hT.below hu).refLt)
  have HWH := Hid.mk' (fun (u : World) (hu : Below w.heap.size w u) (hr : u.rowIs w.heap.size 3 (n + 8) (lentRow n l)) => whole_some x n c w.heap.size l u hn (HIU.out u hu) hr)
  have HNM := Hid.mk' (fun u => lnum_any (codeE width l n) u)
  clear hI hx hT
  generalize codeS width l n = S at *
  generalize codeE width l n = E at *
  go_enter Tryd.func8, Tryd.ntmps8
  go_wp2_with (first
    | (go_at_call 18; refine HL.out.mono ?_; rintro e w1 ⟨rfl, hr1, hb1⟩; have HB1 := Hid.mk' hb1; have HR1 := Hid.mk' hr1; clear hr1 hb1 HL)
    | (go_at_call 6; refine (HRC.out _ ?_ ?_).mono ?_; exact HB1.out; exact HR1.out; rintro e w2 ⟨rfl, hb2⟩; have HR2 := Hid.mk' (HR1.out.of_block (hb2.block _ HR1.out.lt)); have HB2 := Hid.mk' (HB1.out.trans (hb2.mono HB1.out.size)); clear hb2 HRC)
    | (go_at_call 19; refine (HFC.out _ ?_).mono ?_; exact HB2.out; rintro e w3 ⟨rfl, hb3⟩; have HR3 := Hid.mk' (HR2.out.of_block (hb3.block _ HR2.out.lt)); have HB3 := Hid.mk' (HB2.out.trans (hb3.mono HB2.out.size)); clear hb3 HFC)
    | (go_at_call 20; refine (HWH.out _ ?_ ?_).mono ?_; exact HB3.out; exact HR3.out; rintro e w4 ⟨rfl, hw⟩; subst w4; clear HWH)
    | (go_at_call 7; refine (HNM.out _).mono ?_; rintro e w5 ⟨rfl, hw⟩; subst w5; clear HNM))
  go_ret
  exact ⟨ret_bool (by simp), HB3.out⟩

set_option maxHeartbeats 1000000 in
theorem codes_none (width : Int) (w : World) (hT : Tabs4 w) :
    Calls Tryd.prog 8 #[.int .i64 width, .slice none 0 0] w fun e w' => e = .returned (.bool true) ∧ Below w.heap.size w w' := by
  have HL := Hid.mk' (lend_none w)
  have HRC := Hid.mk' (reelCode_any width none 0 0 (fun _ => 0) w (by omega) (fun i hi => absurd hi (Nat.not_lt_zero i)) (fun y hy _ => by cases hy) hT.prog)
  have HFC := Hid.mk' (fun (u : World) (hu : Below w.heap.size w u) => rCode_any width none 0 0 (fun _ => 0) u (by omega) (fun i hi => absurd hi (Nat.not_lt_zero i)) (fun y hy _ => by cases hy) (hT.below hu).ref (hT.below hu).refLt)
  have HWH := Hid.mk' (fun (u : World) => whole_none (.slice none 0 0) u)
  have HNM := Hid.mk' (fun u => lnum_any (codeE width (fun _ => 0) 0) u)
  clear hT
  generalize codeS width (fun _ => 0) 0 = S at *
  generalize codeE width (fun _ => 0) 0 = E at *
  go_enter Tryd.func8, Tryd.ntmps8
  go_wp2_with (first
    | (go_at_call 18; refine HL.out.mono ?_; rintro e w1 ⟨rfl, hw⟩; subst w1; clear HL)
    | (go_at_call 6; refine HRC.out.mono ?_; rintro e w2 ⟨rfl, hb2⟩; have HB2 := Hid.mk' hb2; clear hb2 HRC)
    | (go_at_call 19; refine (HFC.out _ ?_).mono ?_; exact HB2.out; rintro e w3 ⟨rfl, hb3⟩; have HB3 := Hid.mk' (HB2.out.trans (hb3.mono HB2.out.size)); clear hb3 HFC)
    | (go_at_call 20; refine (HWH.out _).mono ?_; rintro e w4 ⟨rfl, hw⟩; subst w4; clear HWH)
    | (go_at_call 7; refine (HNM.out _).mono ?_; rintro e w5 ⟨rfl, hw⟩; subst w5; clear HNM))
  go_ret
  exact ⟨ret_bool (by simp), HB3.out⟩

def exL (i : Nat) : Int := if i = 0 then 6 else 4
theorem ex_S : codeS 4 exL 2 = ⟨#[48, 48, 48, 49, 48, 48, 48, 49, 48, 49, 49, 48, 49, 48]⟩ := by kernel_rfl
theorem ex_E : codeE 4 exL 2 = 0 := by kernel_rfl

set_option maxHeartbeats 1000000 in
theorem codesLaw (width : Int) (A : Option Addr) (n c : Nat) (l : Nat → Int) (w : World) (hn : n ≤ 17592186044416) (hI : IntsAt w A n l) (hx : ∀ y, A = some y → 0 < n → y.block < w.heap.size) (hnil : A = none → n = 0 ∧ c = 0) (hT : Tabs4 w) :
    Calls Tryd.prog 3 #[.int .i64 width, .slice A n c] w fun e w' => e = .returned (.bool true) ∧ Below w.heap.size w w' := by
  have hb0 : Below w.heap.size w (w.alloc (.cells #[.int .i64 6, .int .i64 4] 3)) := (Below.refl _ _).alloc (Nat.le_refl _) _
  have HEX := Hid.mk' (reelCode_any 4 (some ⟨w.heap.size, 0, none⟩) 2 2 exL (w.alloc (.cells #[.int .i64 6, .int .i64 4] 3)) (by omega) (fun i hi => ⟨_, rfl, by
    rw [addr_add, Nat.zero_add, World.cell?_alloc_new]
    match i, hi with
    | 0, _ => rfl
    | 1, _ => rfl⟩) (fun y hy _ => by cases hy; simp) (hT.below hb0).prog)
  rw [ex_S, ex_E] at HEX
  have HB0 := Hid.mk' hb0
  have HNM := Hid.mk' (fun u => lnum_any 0 u)
  have HCO : Hid (∀ u : World, Below w.heap.size w u → Calls Tryd.prog 8 #[.int .i64 width, .slice A n c] u fun e w' => e = .returned (.bool true) ∧ Below u.heap.size u w') := fun u hu => by
    cases hA : A with
    | none =>
      obtain ⟨rfl, rfl⟩ := hnil hA
      exact codes_none width u (hT.below hu)
    | some x =>
      rw [hA] at hI hx
      exact codes_some width x n c l u hn (hI.belowB hu hx) (fun h0 => Nat.lt_of_lt_of_le (hx x rfl h0) hu.size) (hT.below hu)
  clear hI hx hnil hT hb0
  go_enter Tryd.func3, Tryd.ntmps3
  go_wp2_with (first
    | (go_at_call 6; refine HEX.out.mono ?_; rintro e w1 ⟨rfl, hb1⟩; have HB1 := Hid.mk' (HB0.out.trans (hb1.mono HB0.out.size)); clear hb1 HEX)
    | (go_at_call 7; refine (HNM.out _).mono ?_; rintro e w2 ⟨rfl, hw⟩; subst w2; clear HNM)
    | (go_at_call 8; refine (HCO.out _ ?_).mono ?_; exact HB1.out; rintro e w3 ⟨rfl, hb3⟩; have HB3 := Hid.mk' (HB1.out.trans (hb3.mono HB1.out.size)); clear hb3 HCO))
  go_ret
  exact ⟨rfl, HB3.out⟩
end Go.Proofs.YtlncjgnomhpjnaaDoor
