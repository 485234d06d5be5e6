import Derived.Test.YtlncjgnomhpjnaaGreatDoorEKFrameMake
/-
  reel.Frame.
-/
namespace Go.Proofs.YtlncjgnomhpjnaaGreatDoor
open Go.RowKit Go.Deep
set_option linter.unusedVariables false

/-- what Frame answers -/
def frameOk (c0 c1 c2 c3 c4 c5 c6 c7 number : Int) (n : Nat) (L : Nat → Nat) (F : Nat → Nat → Int) : Prop :=
  rightB c0 c1 c2 c3 c4 c5 c6 c7 = true ∧ within number 0 65535 = true ∧ ChanP c0 c1.toNat n 1 c2 L F
open Classical in
noncomputable def frameE (c0 c1 c2 c3 c4 c5 c6 c7 number : Int) (n : Nat) (L : Nat → Nat) (F : Nat → Nat → Int) : Int :=
  if rightB c0 c1 c2 c3 c4 c5 c6 c7 = true then (if within number 0 65535 = true then (if ChanP c0 c1.toNat n 1 c2 L F then 0 else 2) else 3) else 1
open Classical in
noncomputable def frameS (c0 c1 c2 c3 c4 c5 c6 c7 number : Int) (n : Nat) (L : Nat → Nat) (F : Nat → Nat → Int) : ByteArray :=
  if frameOk c0 c1 c2 c3 c4 c5 c6 c7 number n L F then bs (frameT number.toNat (L 0) (modeN c1.toNat n F (L 0)) (blockT c1.toNat n F (L 0))) else ⟨#[]⟩

set_option maxHeartbeats 1000000 in
theorem checkNumbered_any (c0 c1 c2 c3 c4 c5 c6 c7 number : Int) (w : World) :
    Calls Tryz.prog 36 #[.agg #[.int .i64 c0, .int .i64 c1, .int .i64 c2, .int .i64 c3, .int .i64 c4, .int .i64 c5, .int .i64 c6, .int .i64 c7], .int .i64 number] w fun e w' =>
      e = .returned (.int .i64 (if rightB c0 c1 c2 c3 c4 c5 c6 c7 = true then (if within number 0 65535 = true then 0 else 3) else 1)) ∧ Below w.heap.size w w' := by
  have hb0 : Below w.heap.size w (w.alloc (.cells #[.int .i64 c0, .int .i64 c1, .int .i64 c2, .int .i64 c3, .int .i64 c4, .int .i64 c5, .int .i64 c6, .int .i64 c7] 23)) := (Below.refl _ _).alloc (Nat.le_refl _) _
  have HB0 := Hid.mk' hb0
  have HRC := Hid.mk' (fun u => rightConfig_any c0 c1 c2 c3 c4 c5 c6 c7 u)
  have HW := Hid.mk' (fun u => within_any number 0 65535 u)
  clear hb0
  cases hr : rightB c0 c1 c2 c3 c4 c5 c6 c7 with
  | false =>
    rw [hr] at HRC
    rw [if_neg (by simp)]
    clear hr HW
    go_enter Tryz.func36, Tryz.ntmps36
    go_wp2_with (go_at_call 61; refine (HRC.out _).mono ?_; rintro e u1 ⟨rfl, hb⟩; have HB1 := Hid.mk' (HB0.out.trans (hb.mono (by simp))); clear hb HRC HB0)
    go_ret
    exact ⟨rfl, HB1.out⟩
  | true =>
    rw [hr] at HRC
    rw [if_pos rfl]
    cases hw : within number 0 65535 with
    | false =>
      rw [hw] at HW
      rw [if_neg (by simp)]
      clear hr hw
      go_enter Tryz.func36, Tryz.ntmps36
      go_wp2_with (first
        | (go_at_call 61; refine (HRC.out _).mono ?_; rintro e u1 ⟨rfl, hb⟩; have HB1 := Hid.mk' (HB0.out.trans (hb.mono (by simp))); clear hb HRC HB0)
        | (go_at_call 62; refine (HW.out _).mono ?_; rintro e u2 ⟨rfl, hw⟩; subst u2; clear HW))
      go_ret
      exact ⟨rfl, HB1.out⟩
    | true =>
      rw [hw] at HW
      rw [if_pos rfl]
      clear hr hw
      go_enter Tryz.func36, Tryz.ntmps36
      go_wp2_with (first
        | (go_at_call 61; refine (HRC.out _).mono ?_; rintro e u1 ⟨rfl, hb⟩; have HB1 := Hid.mk' (HB0.out.trans (hb.mono (by simp))); clear hb HRC HB0)
        | (go_at_call 62; refine (HW.out _).mono ?_; rintro e u2 ⟨rfl, hw⟩; subst u2; clear HW))
      go_ret
      exact ⟨rfl, HB1.out⟩

theorem frame_no {c0 c1 c2 c3 c4 c5 c6 c7 number : Int} {n : Nat} {L : Nat → Nat} {F : Nat → Nat → Int} (h : ¬ frameOk c0 c1 c2 c3 c4 c5 c6 c7 number n L F) : frameS c0 c1 c2 c3 c4 c5 c6 c7 number n L F = ⟨#[]⟩ := by
  unfold frameS; rw [if_neg h]
theorem frame_yes {c0 c1 c2 c3 c4 c5 c6 c7 number : Int} {n : Nat} {L : Nat → Nat} {F : Nat → Nat → Int} (h : frameOk c0 c1 c2 c3 c4 c5 c6 c7 number n L F) :
    frameS c0 c1 c2 c3 c4 c5 c6 c7 number n L F = bs (frameT number.toNat (L 0) (modeN c1.toNat n F (L 0)) (blockT c1.toNat n F (L 0))) ∧ frameE c0 c1 c2 c3 c4 c5 c6 c7 number n L F = 0 := by
  unfold frameS frameE; rw [if_pos h, if_pos h.1, if_pos h.2.1, if_pos h.2.2]; exact ⟨rfl, rfl⟩

set_option maxHeartbeats 2000000 in
theorem reelFrame_any (c0 c1 c2 c3 c4 c5 c6 c7 number : Int) (a : Option Addr) (n cap : Nat) (A : Nat → Option Addr) (L C : Nat → Nat) (F : Nat → Nat → Int) (w : World) (hn : n ≤ 17592186044416) (hL : ∀ i, i < n → L i ≤ 17592186044416)
    (hA : ListsAt w a n A L C) (hI : ∀ i, i < n → IntsAt w (A i) (L i) (F i)) (hlow : Low w.heap.size a n A L) (hT : TabsF w) :
    Calls Tryz.prog 10 #[.agg #[.int .i64 c0, .int .i64 c1, .int .i64 c2, .int .i64 c3, .int .i64 c4, .int .i64 c5, .int .i64 c6, .int .i64 c7], .int .i64 number, .slice a n cap] w fun e w' =>
      e = .returned (.tuple #[.string (frameS c0 c1 c2 c3 c4 c5 c6 c7 number n L F), .int .i64 (frameE c0 c1 c2 c3 c4 c5 c6 c7 number n L F)]) ∧ Below w.heap.size w w' := by
  have hb0 : Below w.heap.size w (w.alloc (.cells #[.int .i64 c0, .int .i64 c1, .int .i64 c2, .int .i64 c3, .int .i64 c4, .int .i64 c5, .int .i64 c6, .int .i64 c7] 23)) := (Below.refl _ _).alloc (Nat.le_refl _) _
  have HB0 := Hid.mk' hb0
  have HCN := Hid.mk' (fun u => checkNumbered_any c0 c1 c2 c3 c4 c5 c6 c7 number u)
  have lowU : ∀ u, Below w.heap.size w u → Low u.heap.size a n A L := fun u hu => ⟨fun x hx h0 => Nat.lt_of_lt_of_le (hlow.1 x hx h0) hu.size, fun i hi x hx h0 => Nat.lt_of_lt_of_le (hlow.2 i hi x hx h0) hu.size⟩
  by_cases hr : rightB c0 c1 c2 c3 c4 c5 c6 c7 = true
  · obtain ⟨hc0, hc4, hc2, d, rfl, h1, h2⟩ := rightB_d hr
    by_cases hw : within number 0 65535 = true
    · rw [if_pos hr, if_pos hw] at HCN
      have HIB := Hid.mk' (fun (u : World) (hu : Below w.heap.size w u) => isBlock_any c0 c2 c3 c4 c5 c6 c7 d a n cap A L C F u hc0 (by omega) (by omega) hn hL (hA.below hu hlow.1) (fun i hi => (hI i hi).below hu (hlow.2 i hi)) (lowU u hu))
      by_cases hs : ChanP c0 d n 1 c2 L F
      · have HOK := frame_yes (L := L) (F := F) (n := n) (number := number) ⟨hr, hw, (by simpa using hs)⟩
        rw [HOK.1, HOK.2, Int.toNat_natCast]
        have HS := Hid.mk' hs
        obtain ⟨hnc, hL0, hall⟩ := hs
        subst hnc
        rw [within_iff] at hL0 hw
        obtain ⟨nb, hnb⟩ : ∃ nb : Nat, number = (nb : Int) := ⟨number.toNat, by omega⟩
        subst hnb
        have hA2 : ListsAt w a n A (fun _ => L 0) C := fun i hi => by
          obtain ⟨x, hx, hc⟩ := hA i hi
          rw [(hall i hi).1] at hc
          exact ⟨x, hx, hc⟩
        have hI2 : ∀ i, i < n → IntsAt w (A i) (L 0) (F i) := fun i hi => by have := hI i hi; rw [(hall i hi).1] at this; exact this
        have hlow2 : Low w.heap.size a n A (fun _ => L 0) := ⟨hlow.1, fun i hi x hx h0 => hlow.2 i hi x hx (by rw [(hall i hi).1]; exact h0)⟩
        have HMK := Hid.mk' (fun (u : World) (hu : Below w.heap.size w u) => make_any c2 c3 c4 c5 c6 c7 d nb a n cap A (L 0) C F u (by omega) h2 (by omega) (by omega) (by omega) (by omega) (by omega) (fun i hi j hj => (hall i hi).2 j (by rw [(hall i hi).1]; exact hj)) (hA2.below hu hlow2.1) (fun i hi => (hI2 i hi).below hu (hlow2.2 i hi))
          ⟨fun x hx h0 => Nat.lt_of_lt_of_le (hlow2.1 x hx h0) hu.size, fun i hi x hx h0 => Nat.lt_of_lt_of_le (hlow2.2 i hi x hx h0) hu.size⟩ (hT.below hu))
        rw [Int.toNat_natCast]
        clear hA hI hlow hT lowU hall hA2 hI2 hlow2 HOK hr hb0 hL
        generalize bs (frameT nb (L 0) (modeN d n F (L 0)) (blockT d n F (L 0))) = R at *
        go_enter Tryz.func10, Tryz.ntmps10
        go_wp2_with (first
          | (go_at_call 36; refine (HCN.out _).mono ?_; rintro e u1 ⟨rfl, hb⟩; obtain ⟨hc1, hf1⟩ := bcell hb; have hs1 : w.heap.size < u1.heap.size := by {have := hb.size; simp at this; omega}; have HB1 := Hid.mk' (HB0.out.trans (hb.mono (by simp))); clear hb hf1 HCN HB0)
          | (go_at_call 37; refine (HIB.out _ ?_).mono ?_; exact HB1.out; rintro e u2 ⟨he, hb⟩; have he := he.true_of HS.out; subst he; obtain ⟨hc2', hf2⟩ := bcell hb; have hs2 : w.heap.size < u2.heap.size := Nat.lt_of_lt_of_le hs1 hb.size; have HB2 := Hid.mk' (HB1.out.trans (hb.mono (Nat.le_of_lt hs1))); clear hb hf2 HIB HB1)
          | (go_at_call 38; refine (HMK.out _ ?_).mono ?_; exact HB2.out; rintro e u3 ⟨rfl, hb⟩; have HB3 := Hid.mk' (HB2.out.trans (hb.mono (Nat.le_of_lt hs2))); clear hb HMK HB2))
        go_ret2
        exact ⟨rfl, HB3.out⟩
      · have HNO := frame_no (c0 := c0) (c1 := (d : Int)) (c2 := c2) (c3 := c3) (c4 := c4) (c5 := c5) (c6 := c6) (c7 := c7) (number := number) (n := n) (L := L) (F := F) (fun h => hs (by simpa using h.2.2))
        have HE : frameE c0 d c2 c3 c4 c5 c6 c7 number n L F = 2 := by unfold frameE; rw [if_pos hr, if_pos hw, if_neg (by simpa using hs)]
        rw [HNO, HE]
        have HS := Hid.mk' hs
        clear hA hI hlow hT lowU HNO hr hb0 hL hs hw HE
        go_enter Tryz.func10, Tryz.ntmps10
        go_wp2_with (first
          | (go_at_call 36; refine (HCN.out _).mono ?_; rintro e u1 ⟨rfl, hb⟩; obtain ⟨hc1, hf1⟩ := bcell hb; have hs1 : w.heap.size < u1.heap.size := by {have := hb.size; simp at this; omega}; have HB1 := Hid.mk' (HB0.out.trans (hb.mono (by simp))); clear hb hf1 HCN HB0)
          | (go_at_call 37; refine (HIB.out _ ?_).mono ?_; exact HB1.out; rintro e u2 ⟨he, hb⟩; have he := he.false_of HS.out; subst he; have HB2 := Hid.mk' (HB1.out.trans (hb.mono (Nat.le_of_lt hs1))); clear hb HIB HB1))
        go_ret2
        exact ⟨rfl, HB2.out⟩
    · have HNO := frame_no (c0 := c0) (c1 := (d : Int)) (c2 := c2) (c3 := c3) (c4 := c4) (c5 := c5) (c6 := c6) (c7 := c7) (number := number) (n := n) (L := L) (F := F) (fun h => hw h.2.1)
      have HE : frameE c0 d c2 c3 c4 c5 c6 c7 number n L F = 3 := by unfold frameE; rw [if_pos hr, if_neg hw]
      rw [if_pos hr, if_neg hw] at HCN
      rw [HNO, HE]
      clear hA hI hlow hT lowU HNO hr hb0 hL hw HE
      go_enter Tryz.func10, Tryz.ntmps10
      go_wp2_with (go_at_call 36; refine (HCN.out _).mono ?_; rintro e u1 ⟨rfl, hb⟩; have HB1 := Hid.mk' (HB0.out.trans (hb.mono (by simp))); clear hb HCN HB0)
      go_ret2
      exact ⟨rfl, HB1.out⟩
  · have HNO := frame_no (c0 := c0) (c1 := c1) (c2 := c2) (c3 := c3) (c4 := c4) (c5 := c5) (c6 := c6) (c7 := c7) (number := number) (n := n) (L := L) (F := F) (fun h => hr h.1)
    have HE : frameE c0 c1 c2 c3 c4 c5 c6 c7 number n L F = 1 := by unfold frameE; rw [if_neg hr]
    rw [if_neg hr] at HCN
    rw [HNO, HE]
    clear hA hI hlow hT lowU HNO hr hb0 hL HE
    go_enter Tryz.func10, Tryz.ntmps10
    go_wp2_with (go_at_call 36; refine (HCN.out _).mono ?_; rintro e u1 ⟨rfl, hb⟩; have HB1 := Hid.mk' (HB0.out.trans (hb.mono (by simp))); clear hb HCN HB0)
    go_ret2
    exact ⟨rfl, HB1.out⟩
end Go.Proofs.YtlncjgnomhpjnaaGreatDoor

