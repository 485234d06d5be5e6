import Derived.Test.YtlncjgnomhpjnabGreatDoorQT22
import Derived.Test.YtlncjgnomhpjnabGreatDoorQT51
import Derived.Test.YtlncjgnomhpjnabGreatDoorQT28
import Derived.Deep.DeepCutAuto
import Derived.Deep.RegionHeld3
import Derived.BigQuiet
import Derived.Deep.QuietTactic
import Derived.Test.YtlncjgnomhpjnabGreatDoorQT50
import Derived.Test.YtlncjgnomhpjnabGreatDoorQT48
/-
  What Encode answers; reel.Check, reel.Encode.
-/
namespace Go.Proofs.YtlncjgnomhpjnabGreatDoor
open Go.RowKit Go.Deep
set_option linter.unusedVariables false
def encOk (c0 c1 c2 c3 c4 c5 c6 c7 : Int) (n : Nat) (L : Nat → Nat) (F : Nat → Nat → Int) : Prop :=
  rightB c0 c1 c2 c3 c4 c5 c6 c7 = true ∧ ChanP c0 c1.toNat n 0 300 L F
open Classical in
noncomputable def encE (c0 c1 c2 c3 c4 c5 c6 c7 : Int) (n : Nat) (L : Nat → Nat) (F : Nat → Nat → Int) : Int :=
  if rightB c0 c1 c2 c3 c4 c5 c6 c7 = true then (if ChanP c0 c1.toNat n 0 300 L F then 0 else 2) else 1
open Classical in
noncomputable def encS (c0 c1 c2 c3 c4 c5 c6 c7 : Int) (n : Nat) (L : Nat → Nat) (F : Nat → Nat → Int) : ByteArray :=
  if encOk c0 c1 c2 c3 c4 c5 c6 c7 n L F then bs (streamT c1.toNat n c2.toNat c3.toNat c4.toNat F (L 0)) else ⟨#[]⟩
theorem enc_no {c0 c1 c2 c3 c4 c5 c6 c7 : Int} {n : Nat} {L : Nat → Nat} {F : Nat → Nat → Int} (h : ¬ encOk c0 c1 c2 c3 c4 c5 c6 c7 n L F) : encS c0 c1 c2 c3 c4 c5 c6 c7 n L F = ⟨#[]⟩ := by
  unfold encS; rw [if_neg h]
theorem enc_yes {c0 c1 c2 c3 c4 c5 c6 c7 : Int} {n : Nat} {L : Nat → Nat} {F : Nat → Nat → Int} (h : encOk c0 c1 c2 c3 c4 c5 c6 c7 n L F) :
    encS c0 c1 c2 c3 c4 c5 c6 c7 n L F = bs (streamT c1.toNat n c2.toNat c3.toNat c4.toNat F (L 0)) ∧ encE c0 c1 c2 c3 c4 c5 c6 c7 n L F = 0 := by
  unfold encS encE; rw [if_pos h, if_pos h.1, if_pos h.2]; exact ⟨rfl, rfl⟩
theorem enc_e {c0 c1 c2 c3 c4 c5 c6 c7 : Int} {n : Nat} {L : Nat → Nat} {F : Nat → Nat → Int} (h : ¬ encOk c0 c1 c2 c3 c4 c5 c6 c7 n L F) : encE c0 c1 c2 c3 c4 c5 c6 c7 n L F = 1 ∨ encE c0 c1 c2 c3 c4 c5 c6 c7 n L F = 2 := by
  unfold encE
  by_cases h1 : rightB c0 c1 c2 c3 c4 c5 c6 c7 = true
  · rw [if_pos h1, if_neg (fun h2 => h ⟨h1, h2⟩)]; exact .inr rfl
  · rw [if_neg h1]; exact .inl rfl
set_option maxHeartbeats 1000000 in
theorem reelCheck_any (c0 c1 c2 c3 c4 c5 c6 c7 : Int) (a : Option Addr) (n cap : Nat) (A : Nat → Option Addr) (L C : Nat → Nat) (F : Nat → Nat → Int) (w : World) (hn : n ≤ 17592186044416) (hL : ∀ i, i < n → L i ≤ 17592186044416)
    (hA : ListsAt w a n A L C) (hI : ∀ i, i < n → IntsAt w (A i) (L i) (F i)) (hlow : Low w.heap.size a n A L) :
    Calls Tryz.prog 33 #[.agg #[.int .i64 c0, .int .i64 c1, .int .i64 c2, .int .i64 c3, .int .i64 c4, .int .i64 c5, .int .i64 c6, .int .i64 c7], .slice a n cap] w fun e w' =>
      e = .returned (.int .i64 (encE c0 c1 c2 c3 c4 c5 c6 c7 n L F)) ∧ Below w.heap.size w w' := by
  have hb0 : Below w.heap.size w (w.alloc (.cells #[.int .i64 c0, .int .i64 c1, .int .i64 c2, .int .i64 c3, .int .i64 c4, .int .i64 c5, .int .i64 c6, .int .i64 c7] 23)) := (Below.refl _ _).alloc (Nat.le_refl _) _
  have HB0 := Hid.mk' hb0
  have HRC := Hid.mk' (fun u => rightConfig_any c0 c1 c2 c3 c4 c5 c6 c7 u)
  clear hb0
  unfold encE
  cases hr : rightB c0 c1 c2 c3 c4 c5 c6 c7 with
  | false =>
    rw [hr] at HRC
    rw [if_neg (by simp)]
    clear hr hA hI hlow hL
    go_enter Tryz.func33, Tryz.ntmps33
    go_wp2_with (go_at_call 59; refine (HRC.out _).mono ?_; rintro e u1 ⟨rfl, hb⟩; have HB1 := Hid.mk' (HB0.out.trans (hb.mono (by simp))); clear hb HRC HB0)
    go_ret
    exact ⟨rfl, HB1.out⟩
  | true =>
    rw [hr] at HRC
    rw [if_pos rfl]
    obtain ⟨hc0, hc4, hc2, d, rfl, h1, h2⟩ := rightB_d hr
    have lowU : ∀ u, Below w.heap.size w u → Low u.heap.size a n A L := fun u hu => ⟨fun x hx h0 => Nat.lt_of_lt_of_le (hlow.1 x hx h0) hu.size, fun i hi x hx h0 => Nat.lt_of_lt_of_le (hlow.2 i hi x hx h0) hu.size⟩
    have HIB := Hid.mk' (fun (u : World) (hu : Below w.heap.size w u) => isSound_any c0 c2 c3 c4 c5 c6 c7 d a n cap A L C F u hc0 (by omega) (by omega) hn hL (hA.below hu hlow.1) (fun i hi => (hI i hi).below hu (hlow.2 i hi)) (lowU u hu))
    rw [Int.toNat_natCast]
    clear hA hI hlow hL lowU hr
    by_cases hs : ChanP c0 d n 0 300 L F
    · rw [if_pos hs]
      have HS := Hid.mk' hs
      clear hs
      go_enter Tryz.func33, Tryz.ntmps33
      go_wp2_with (first
        | (go_at_call 59; refine (HRC.out _).mono ?_; rintro e u1 ⟨rfl, hb⟩; obtain ⟨hc1, hf1⟩ := bcell hb; have hs1 : w.heap.size < u1.heap.size := by {have := hb.size; simp at this; omega}; have HB1 := Hid.mk' (HB0.out.trans (hb.mono (by simp))); clear hb hf1 HRC HB0)
        | (go_at_call 60; refine (HIB.out _ ?_).mono ?_; exact HB1.out; rintro e u2 ⟨he, hb⟩; have he := he.true_of HS.out; subst he; have HB2 := Hid.mk' (HB1.out.trans (hb.mono HB1.out.size)); clear hb HIB HB1))
      go_ret
      exact ⟨rfl, HB2.out⟩
    · rw [if_neg hs]
      have HS := Hid.mk' hs
      clear hs
      go_enter Tryz.func33, Tryz.ntmps33
      go_wp2_with (first
        | (go_at_call 59; refine (HRC.out _).mono ?_; rintro e u1 ⟨rfl, hb⟩; obtain ⟨hc1, hf1⟩ := bcell hb; have hs1 : w.heap.size < u1.heap.size := by {have := hb.size; simp at this; omega}; have HB1 := Hid.mk' (HB0.out.trans (hb.mono (by simp))); clear hb hf1 HRC HB0)
        | (go_at_call 60; refine (HIB.out _ ?_).mono ?_; exact HB1.out; rintro e u2 ⟨he, hb⟩; have he := he.false_of HS.out; subst he; have HB2 := Hid.mk' (HB1.out.trans (hb.mono HB1.out.size)); clear hb HIB HB1))
      go_ret
      exact ⟨rfl, HB2.out⟩
set_option maxHeartbeats 2000000 in
theorem reelEncode_any (c0 c1 c2 c3 c4 c5 c6 c7 : Int) (a : Option Addr) (n cap : Nat) (A : Nat → Option Addr) (L C : Nat → Nat) (F : Nat → Nat → Int) (w : World) (hn : n ≤ 17592186044416) (hL : ∀ i, i < n → L i ≤ 17592186044416) (hC : ∀ i, i < n → L i ≤ C i)
    (hA : ListsAt w a n A L C) (hI : ∀ i, i < n → IntsAt w (A i) (L i) (F i)) (hlow : Low w.heap.size a n A L) (hT : TabsF w) :
    Calls Tryz.prog 11 #[.agg #[.int .i64 c0, .int .i64 c1, .int .i64 c2, .int .i64 c3, .int .i64 c4, .int .i64 c5, .int .i64 c6, .int .i64 c7], .slice a n cap] w fun e w' =>
      e = .returned (.tuple #[.string (encS c0 c1 c2 c3 c4 c5 c6 c7 n L F), .int .i64 (encE c0 c1 c2 c3 c4 c5 c6 c7 n L F)]) ∧ Below w.heap.size w w' := by
  have hb0 : Below w.heap.size w (w.alloc (.cells #[.int .i64 c0, .int .i64 c1, .int .i64 c2, .int .i64 c3, .int .i64 c4, .int .i64 c5, .int .i64 c6, .int .i64 c7] 23)) := (Below.refl _ _).alloc (Nat.le_refl _) _
  have HB0 := Hid.mk' hb0
  have lowU : ∀ u, Below w.heap.size w u → Low u.heap.size a n A L := fun u hu => ⟨fun x hx h0 => Nat.lt_of_lt_of_le (hlow.1 x hx h0) hu.size, fun i hi x hx h0 => Nat.lt_of_lt_of_le (hlow.2 i hi x hx h0) hu.size⟩
  have HCK := Hid.mk' (fun (u : World) (hu : Below w.heap.size w u) => reelCheck_any c0 c1 c2 c3 c4 c5 c6 c7 a n cap A L C F u hn hL (hA.below hu hlow.1) (fun i hi => (hI i hi).below hu (hlow.2 i hi)) (lowU u hu))
  by_cases hok : encOk c0 c1 c2 c3 c4 c5 c6 c7 n L F
  · obtain ⟨eS, eE⟩ := enc_yes hok
    rw [eE] at HCK
    rw [eS, eE]
    obtain ⟨hr, hs⟩ := hok
    obtain ⟨hc0, hc4, hc2, d, rfl, h1, h2⟩ := rightB_d hr
    have hri : 0 ≤ c3 ∧ c3 ≤ 65535 ∧ 0 ≤ c4 ∧ c4 ≤ 255 := by
      rw [rightB_info] at hr
      simp [infoB, within_iff] at hr
      omega
    obtain ⟨hnc, hL0, hall⟩ := hs
    subst hnc
    rw [within_iff] at hL0
    obtain ⟨B, rfl⟩ : ∃ B : Nat, c2 = (B : Int) := ⟨c2.toNat, by omega⟩
    obtain ⟨r, rfl⟩ : ∃ r : Nat, c3 = (r : Int) := ⟨c3.toNat, by omega⟩
    obtain ⟨k, rfl⟩ : ∃ k : Nat, c4 = (k : Int) := ⟨c4.toNat, by omega⟩
    simp only [Int.toNat_natCast] at *
    have hA2 : ListsAt w a n A (fun _ => L 0) C := fun i hi => by
      obtain ⟨x, hx, hc⟩ := hA i hi
      rw [(hall i hi).1] at hc
      exact ⟨x, hx, hc⟩
    have hI2 : ∀ i, i < n → IntsAt w (A i) (L 0) (F i) := fun i hi => by have := hI i hi; rw [(hall i hi).1] at this; exact this
    have hlow2 : Low w.heap.size a n A (fun _ => L 0) := ⟨hlow.1, fun i hi x hx h0 => hlow.2 i hi x hx (by rw [(hall i hi).1]; exact h0)⟩
    have HMK := Hid.mk' (fun (u : World) (hu : Below w.heap.size w u) => streamEncode_any c5 c6 c7 d B r k a n cap A (L 0) C F u (by omega) h2 (by omega) (by omega) (by omega) (by omega) (by omega) (by omega) (by omega) (fun i hi j hj => (hall i hi).2 j (by rw [(hall i hi).1]; exact hj)) (hA2.below hu hlow2.1) (fun i hi => by have := hC i hi; rw [(hall i hi).1] at this; exact this) (fun i hi => (hI2 i hi).below hu (hlow2.2 i hi))
      ⟨fun x hx h0 => Nat.lt_of_lt_of_le (hlow2.1 x hx h0) hu.size, fun i hi x hx h0 => Nat.lt_of_lt_of_le (hlow2.2 i hi x hx h0) hu.size⟩ (hT.below hu))
    clear hA hI hlow hT lowU hall hA2 hI2 hlow2 hr hb0 hL hC eS eE
    generalize bs (streamT d n B r k F (L 0)) = R at *
    go_enter Tryz.func11, Tryz.ntmps11
    go_wp2_with (first
      | (go_at_call 33; refine (HCK.out _ ?_).mono ?_; exact HB0.out; rintro e u1 ⟨rfl, hb⟩; obtain ⟨hc1, hf1⟩ := bcell hb; have hs1 : w.heap.size < u1.heap.size := by {have := hb.size; simp at this; omega}; have HB1 := Hid.mk' (HB0.out.trans (hb.mono (by simp))); clear hb hf1 HCK HB0)
      | (go_at_call 34; refine (HMK.out _ ?_).mono ?_; exact HB1.out; rintro e u3 ⟨rfl, hb⟩; have HB3 := Hid.mk' (HB1.out.trans (hb.mono (Nat.le_of_lt hs1))); clear hb HMK HB1))
    go_ret2
    exact ⟨rfl, HB3.out⟩
  · have hS := enc_no hok
    rw [hS]
    have hE := enc_e hok
    clear hA hI hlow hT lowU hb0 hL hC hS hok
    generalize encE c0 c1 c2 c3 c4 c5 c6 c7 n L F = E at *
    have tE : (E != 0) = true := by rcases hE with h | h <;> rw [h] <;> rfl
    have tE2 : ¬ E = 0 := by omega
    clear hE
    go_enter Tryz.func11, Tryz.ntmps11
    go_wp2_with (go_at_call 33; refine (HCK.out _ ?_).mono ?_; exact HB0.out; rintro e u1 ⟨rfl, hb⟩; have HB1 := Hid.mk' (HB0.out.trans (hb.mono (by simp))); clear hb HCK HB0)
    go_ret2
    exact ⟨rfl, HB1.out⟩
end Go.Proofs.YtlncjgnomhpjnabGreatDoor

/-
  What 'reelkeep' makes, and what the program answers to it.
-/
namespace Go.Proofs.YtlncjgnomhpjnabGreatDoor
open Go.RowKit Go.Deep
set_option linter.unusedVariables false
/-- the numbers of a right configuration -/
structure CfgK (ch d B c3 c4 c5 c6 c7 : Nat) : Prop where
  ch1 : 1 ≤ ch
  ch4 : ch ≤ 4
  d4 : 4 ≤ d
  d12 : d ≤ 12
  B1 : 1 ≤ B
  B32 : B ≤ 32
  c3b : c3 < 65536
  c4b : c4 < 256
  c51 : 1 ≤ c5
  c58 : c5 ≤ 8
  c61 : 1 ≤ c6
  c616 : c6 ≤ 16
  c71 : 1 ≤ c7
  c78 : c7 ≤ 8
theorem right_ok (c0 c1 c2 c3 c4 c5 c6 c7 : Int) (w : World) (h3 : -9223372036854775808 ≤ c3 ∧ c3 ≤ 9223372036854775807) (h4 : -9223372036854775808 ≤ c4 ∧ c4 ≤ 9223372036854775807) :
    Calls Tryz.prog 9 #[.agg #[.int .i64 c0, .int .i64 c1, .int .i64 c2, .int .i64 c3, .int .i64 c4, .int .i64 c5, .int .i64 c6, .int .i64 c7]] w fun e w' => ∃ ch d B c3 c4 c5 c6 c7 : Nat, e = .returned (.agg #[.int .i64 ch, .int .i64 d, .int .i64 B, .int .i64 c3, .int .i64 c4, .int .i64 c5, .int .i64 c6, .int .i64 c7]) ∧ CfgK ch d B c3 c4 c5 c6 c7 ∧ Below w.heap.size w w' := by
  refine (right_keep c0 c1 c2 c3 c4 c5 c6 c7 w h3 h4).mono ?_
  rintro e w' ⟨rfl, hb⟩
  have l0 := pickV_lt (wr64 (c0 - 1)) 4 (by omega)
  have l1 := pickV_lt (wr64 (c1 - 4)) 9 (by omega)
  have l2 := pickV_lt (wr64 (c2 - 1)) 32 (by omega)
  have l3 := pickV_lt c3 65536 (by omega)
  have l4 := pickV_lt c4 256 (by omega)
  have l5 := pickV_lt (wr64 (c5 - 1)) 8 (by omega)
  have l6 := pickV_lt (wr64 (c6 - 1)) 16 (by omega)
  have l7 := pickV_lt (wr64 (c7 - 1)) 8 (by omega)
  refine ⟨1 + pickV (wr64 (c0 - 1)) 4, 4 + pickV (wr64 (c1 - 4)) 9, 1 + pickV (wr64 (c2 - 1)) 32, pickV c3 65536, pickV c4 256, 1 + pickV (wr64 (c5 - 1)) 8, 1 + pickV (wr64 (c6 - 1)) 16, 1 + pickV (wr64 (c7 - 1)) 8, ?_, ⟨by omega, by omega, by omega, by omega, by omega, by omega, l3, l4, by omega, by omega, by omega, by omega, by omega, by omega⟩, hb⟩
  simp
/-- a sound that was made, and its configuration -/
theorem kp_of {ch d B c3 c4 c5 c6 c7 S n : Nat} {L : Nat → Nat} {F G : Nat → Nat → Int} (h : CfgK ch d B c3 c4 c5 c6 c7) (hS : S ≤ 300) (hG : ∀ i, i < ch → ∀ j, j < S → G i j = sndF d n L F i j) : KP d ch B c3 c4 S G :=
  ⟨h.d4, h.d12, h.ch1, h.ch4, h.B1, h.B32, h.c3b, h.c4b, hS, fun i hi j hj => by rw [hG i hi j hj]; exact sndF_fits _ _ _ _ _ _⟩
theorem enc_keep {base ch d B c3 c4 c5 c6 c7 S : Nat} {xv : Value} {gs : Nat → Nat} {G : Nat → Nat → Int} (u : World) (h : CfgK ch d B c3 c4 c5 c6 c7) (hk : KP d ch B c3 c4 S G) (hx : AccI base u xv S ch gs G) (hT : TabsF u) :
    Calls Tryz.prog 11 #[.agg #[.int .i64 ch, .int .i64 d, .int .i64 B, .int .i64 c3, .int .i64 c4, .int .i64 c5, .int .i64 c6, .int .i64 c7], xv] u fun e u' => e = .returned (.tuple #[.string (bs (streamT d ch B c3 c4 G S)), .int .i64 0]) ∧ Below u.heap.size u u' := by
  obtain ⟨g, c, rfl, h1, h2, h3⟩ := hx.open h.ch1
  obtain ⟨q1, q2, q3⟩ := hx.lists h3 h2
  have ha := h.ch1
  have hb := h.ch4
  have hc := hk.S3
  have b1 := h.d4
  have b2 := h.d12
  have b3 := h.B1
  have b4 := h.B32
  have b5 := h.c3b
  have b6 := h.c4b
  have b7 := h.c51
  have b8 := h.c58
  have b9 := h.c61
  have b10 := h.c616
  have b11 := h.c71
  have b12 := h.c78
  have hok : encOk ch d B c3 c4 c5 c6 c7 ch (fun _ => S) G := by
    refine ⟨?_, rfl, ?_, fun i hi => ⟨rfl, fun j hj => ?_⟩⟩
    · simp only [rightB, Bool.and_eq_true, within_iff]
      omega
    · show within (S : Int) 0 300 = true
      rw [within_iff]; omega
    · rw [Int.toNat_natCast]; exact hk.fit i hi j hj
  have hE := reelEncode_any ch d B c3 c4 c5 c6 c7 _ ch c _ (fun _ => S) (fun _ => S) G u (by omega) (fun i hi => by omega) (fun i hi => Nat.le_refl _) q1 q2 q3 hT
  rw [(enc_yes hok).1, (enc_yes hok).2] at hE
  simp only [Int.toNat_natCast] at hE
  exact hE
end Go.Proofs.YtlncjgnomhpjnabGreatDoor

/-
  reel.New.
-/
namespace Go.Proofs.YtlncjgnomhpjnabGreatDoor
open Go.RowKit Go.Deep
set_option linter.unusedVariables false
theorem chk_keep {ch d B c3 c4 c5 c6 c7 S : Nat} {G : Nat → Nat → Int} (h : CfgK ch d B c3 c4 c5 c6 c7) (hk : KP d ch B c3 c4 S G) : encOk ch d B c3 c4 c5 c6 c7 ch (fun _ => S) G := by
  have ha := h.ch1
  have hb := h.ch4
  have hc := hk.S3
  have b1 := h.d4
  have b2 := h.d12
  have b3 := h.B1
  have b4 := h.B32
  have b5 := h.c3b
  have b6 := h.c4b
  have b7 := h.c51
  have b8 := h.c58
  have b9 := h.c61
  have b10 := h.c616
  have b11 := h.c71
  have b12 := h.c78
  refine ⟨?_, rfl, ?_, fun i hi => ⟨rfl, fun j hj => ?_⟩⟩
  · simp only [rightB, Bool.and_eq_true, within_iff]
    omega
  · show within (S : Int) 0 300 = true
    rw [within_iff]; omega
  · rw [Int.toNat_natCast]; exact hk.fit i hi j hj
/-- What a new line is. -/
structure Made (p : Lpar) (x : Lsn) (base l : Nat) (w : World) (a : Lad) (F : Nat → Prop) : Prop where
  line : RLine p a x F l Lst.init w
  far : ∀ k, F k → base ≤ k
  base : base ≤ l
set_option maxRecDepth 100000 in
set_option maxHeartbeats 2000000 in
theorem rNew_any {base ch d B c3 c4 c5 c6 c7 S : Nat} {xv : Value} {gs : Nat → Nat} {G : Nat → Nat → Int} (u : World) (h : CfgK ch d B c3 c4 c5 c6 c7) (hk : KP d ch B c3 c4 S G) (hx : AccI base u xv S ch gs G) (fail : Int) :
    Calls Tryz.prog 21 #[.agg #[.int .i64 ch, .int .i64 d, .int .i64 B, .int .i64 c3, .int .i64 c4, .int .i64 c5, .int .i64 c6, .int .i64 c7], xv, .int .i64 fail] u fun e u' => ∃ l a F, e = .returned (.tuple #[ptrV l, .int .i64 0]) ∧ Made ⟨nBlk S B, c5, c6, c7, fail⟩ ⟨ch, d, B, c3, c4, S, G⟩ u.heap.size l u' a F ∧ Below u.heap.size u u' := by
  obtain ⟨g, c, rfl, h1, h2, h3⟩ := hx.open h.ch1
  have hB0 : Below u.heap.size u (u.alloc (.cells #[.int .i64 ch, .int .i64 d, .int .i64 B, .int .i64 c3, .int .i64 c4, .int .i64 c5, .int .i64 c6, .int .i64 c7] 23)) := (Below.refl _ _).alloc (Nat.le_refl _) _
  have HX := Hid.mk' (Bx.new u #[.int .i64 ch, .int .i64 d, .int .i64 B, .int .i64 c3, .int .i64 c4, .int .i64 c5, .int .i64 c6, .int .i64 c7] 23)
  have hacc : ∀ v, Below u.heap.size u v → AccI base v (.slice (some ⟨g, 0, none⟩) ch c) S ch gs G := fun v hv => hx.next hv
  have hb4 := h.ch4
  have hS3 := hk.S3
  have hchk := (enc_yes (chk_keep h hk)).2
  have HCK : Hid (Calls Tryz.prog 33 #[.agg #[.int .i64 ch, .int .i64 d, .int .i64 B, .int .i64 c3, .int .i64 c4, .int .i64 c5, .int .i64 c6, .int .i64 c7], .slice (some ⟨g, 0, none⟩) ch c] (u.alloc (.cells #[.int .i64 ch, .int .i64 d, .int .i64 B, .int .i64 c3, .int .i64 c4, .int .i64 c5, .int .i64 c6, .int .i64 c7] 23)) fun e w' => e = .returned (.int .i64 0) ∧ Below (u.alloc (.cells #[.int .i64 ch, .int .i64 d, .int .i64 B, .int .i64 c3, .int .i64 c4, .int .i64 c5, .int .i64 c6, .int .i64 c7] 23)).heap.size (u.alloc (.cells #[.int .i64 ch, .int .i64 d, .int .i64 B, .int .i64 c3, .int .i64 c4, .int .i64 c5, .int .i64 c6, .int .i64 c7] 23)) w') := by
    have hx0 := hacc _ hB0
    obtain ⟨q1, q2, q3⟩ := hx0.lists (fun i hi => (cellOf (hB0.block g h2)).trans (h3 i hi)) (Nat.lt_of_lt_of_le h2 hB0.size)
    have := reelCheck_any ch d B c3 c4 c5 c6 c7 _ ch c _ (fun _ => S) (fun _ => S) G _ (by omega) (fun i hi => by omega) q1 q2 q3
    rw [hchk] at this
    exact this
  have HNW : Hid (∀ v, Below u.heap.size u v → Calls Tryz.prog 48 #[.agg #[.int .i64 ch, .int .i64 d, .int .i64 B, .int .i64 c3, .int .i64 c4, .int .i64 c5, .int .i64 c6, .int .i64 c7], .slice (some ⟨g, 0, none⟩) ch c, .int .i64 fail] v fun e w' => ∃ a : Lad, e = .returned (ptrV a.lb) ∧ LineIs ⟨nBlk S B, c5, c6, c7, fail⟩ a ⟨ch, d, B, c3, c4, S, G⟩ (fun k => v.heap.size ≤ k ∧ k < w'.heap.size) Lst.init w' ∧ Below v.heap.size v w') := fun v hv =>
    new_any ⟨nBlk S B, c5, c6, c7, fail⟩ ⟨ch, d, B, c3, c4, S, G⟩ g c (fun i => some ⟨gs i, 0, none⟩) (fun _ => S) v hk h.c51 h.c58 h.c616 h.c78 rfl (fun i hi => (cellOf (hv.block g h2)).trans (h3 i hi)) (fun i hi => ((hacc v hv).lists (fun i hi => (cellOf (hv.block g h2)).trans (h3 i hi)) (Nat.lt_of_lt_of_le h2 hv.size)).2.1 i hi) (fun i hi y hy h0 => by cases hy; exact ((hacc v hv).rows i hi).lt) (fun i hi e => by cases e)
  have HMD : Hid (∀ (v : World) (a : Lad) (w' : World), Below u.heap.size u v → LineIs ⟨nBlk S B, c5, c6, c7, fail⟩ a ⟨ch, d, B, c3, c4, S, G⟩ (fun k => v.heap.size ≤ k ∧ k < w'.heap.size) Lst.init w' → Below v.heap.size v w' → ∃ F, Made ⟨nBlk S B, c5, c6, c7, fail⟩ ⟨ch, d, B, c3, c4, S, G⟩ u.heap.size w'.heap.size (w'.alloc (.cells #[.pointer (some ⟨a.lb, 0, none⟩)] 94)) a F ∧ Below u.heap.size u (w'.alloc (.cells #[.pointer (some ⟨a.lb, 0, none⟩)] 94))) := fun v a w' hv hL hb => by
    have ba : Below w'.heap.size w' (w'.alloc (.cells #[.pointer (some ⟨a.lb, 0, none⟩)] 94)) := (Below.refl _ _).alloc (Nat.le_refl _) _
    have huv := hv.size
    have hvw := hb.size
    exact ⟨_, ⟨⟨hL.keep (fun k hk => ba.block k (hL.lt k hk)) ba.size, LInv.init h.c51 h.c71 h.c61, Bx.new w' _ _, fun hh => Nat.lt_irrefl _ hh.2⟩, fun k hk => Nat.le_trans huv hk.1, Nat.le_trans huv hvw⟩, hv.trans ((hb.mono huv).trans (ba.mono (Nat.le_trans huv hvw)))⟩
  have HK : Hid (∀ v, Below (u.alloc (.cells #[.int .i64 ch, .int .i64 d, .int .i64 B, .int .i64 c3, .int .i64 c4, .int .i64 c5, .int .i64 c6, .int .i64 c7] 23)).heap.size (u.alloc (.cells #[.int .i64 ch, .int .i64 d, .int .i64 B, .int .i64 c3, .int .i64 c4, .int .i64 c5, .int .i64 c6, .int .i64 c7] 23)) v → Below u.heap.size u v ∧ Bx v u.heap.size 23 #[.int .i64 ch, .int .i64 d, .int .i64 B, .int .i64 c3, .int .i64 c4, .int .i64 c5, .int .i64 c6, .int .i64 c7]) := fun v hv => ⟨hB0.trans (hv.mono (by simp)), HX.out.below hv⟩
  have x0 := HX.out.cell 0; have x1 := HX.out.cell 1; have x2 := HX.out.cell 2; have x3 := HX.out.cell 3; have x4 := HX.out.cell 4; have x5 := HX.out.cell 5; have x6 := HX.out.cell 6; have x7 := HX.out.cell 7
  simp at x0 x1 x2 x3 x4 x5 x6 x7
  clear h hk hx h1 h2 h3 hB0 hacc hb4 hS3 hchk HX
  unfold ptrV at *
  go_enter Tryz.func21, Tryz.ntmps21
  go_wp2_with (first
    | (go_at_call 33; refine HCK.out.mono ?_; rintro e v ⟨rfl, hb⟩; obtain ⟨hbv, hbx⟩ := HK.out v hb; have y0 := hbx.cell 0; have y1 := hbx.cell 1; have y2 := hbx.cell 2; have y3 := hbx.cell 3; have y4 := hbx.cell 4; have y5 := hbx.cell 5; have y6 := hbx.cell 6; have y7 := hbx.cell 7; simp at y0 y1 y2 y3 y4 y5 y6 y7; have HBV := Hid.mk' hbv; have HN1 := Hid.mk' (HNW.out v hbv); clear hb hbv hbx HCK)
    | (go_at_call 48; refine HN1.out.mono ?_; rintro e w' ⟨a, rfl, hL, hb⟩; obtain ⟨F, hM⟩ := HMD.out v a w' HBV.out hL hb; have HM := Hid.mk' hM; clear hL hb hM HN1))
  go_ret2
  exact ⟨_, a, F, rfl, HM.out⟩
end Go.Proofs.YtlncjgnomhpjnabGreatDoor

/-
  What the laws ask of a line: blocks; a law's line.
-/
namespace Go.Proofs.YtlncjgnomhpjnabGreatDoor
open Go.RowKit Go.Deep
set_option linter.unusedVariables false
set_option maxRecDepth 100000 in
theorem kblocks_any {base S n : Nat} {lv : Value} {gs : Nat → Nat} {G : Nat → Nat → Int} (c0 c1 c3 c4 c5 c6 c7 : Int) (B : Nat) (w : World) (hB : 1 ≤ B) (hB2 : B ≤ 32) (hS : S ≤ 300) (hn : 1 ≤ n) (h : AccI base w lv S n gs G) :
    Calls Tryz.prog 20 #[.agg #[.int .i64 c0, .int .i64 c1, .int .i64 B, .int .i64 c3, .int .i64 c4, .int .i64 c5, .int .i64 c6, .int .i64 c7], lv] w fun e w' => e = .returned (.int .i64 (nBlk S B : Nat)) ∧ Below w.heap.size w w' := by
  obtain ⟨g, c, rfl, -, h2, h3⟩ := h.open hn
  have hb0 : Below w.heap.size w (w.alloc (.cells #[.int .i64 c0, .int .i64 c1, .int .i64 B, .int .i64 c3, .int .i64 c4, .int .i64 c5, .int .i64 c6, .int .i64 c7] 23)) := (Below.refl _ _).alloc (Nat.le_refl _) _
  have y0 := (cellOf (hb0.block g h2)).trans (h3 0 hn)
  have x2 := (Bx.new w #[.int .i64 c0, .int .i64 c1, .int .i64 B, .int .i64 c3, .int .i64 c4, .int .i64 c5, .int .i64 c6, .int .i64 c7] 23).cell 2
  simp at x2
  have HB0 := Hid.mk' hb0
  clear h h2 h3 hb0
  obtain ⟨t, ht⟩ : ∃ t, t = S + B - 1 := ⟨_, rfl⟩
  have w1 : IntKind.i64.wrap ((S : Int) + (B : Int)) = ((t + 1 : Nat) : Int) := by rw [IntKind.wrap_i64]; omega
  have w2 : IntKind.i64.wrap (((t + 1 : Nat) : Int) - 1) = (t : Int) := by rw [IntKind.wrap_i64]; omega
  have w2' : IntKind.i64.wrap ((t : Int) + 1 - 1) = (t : Int) := by rw [IntKind.wrap_i64]; omega
  have t1 : (t : Int).tdiv (B : Int) = ((t / B : Nat) : Int) := by rw [Int.tdiv_eq_ediv_of_nonneg (by omega)]; rfl
  have ht3 : t ≤ 400 := by omega
  have hq : t / B ≤ 400 := Nat.le_trans (Nat.div_le_self _ _) ht3
  have e0 : nBlk S B = t / B := by unfold nBlk; rw [ht]
  rw [e0]
  generalize t / B = q at *
  have w3 : IntKind.i64.wrap (q : Int) = (q : Int) := by rw [IntKind.wrap_i64]; omega
  have z1 : ((B : Int) == 0) = false := by simp; omega
  have z2 : ¬ (B : Int) = 0 := by omega
  have n0 : 0 < n := hn
  have n1 : (0 : Int) < (n : Int) := by omega
  clear e0 ht hn
  go_enter Tryz.func20, Tryz.ntmps20
  go_wp2
  go_quiet (fail)
  go_wp2
  go_ret
  exact ⟨rfl, bel_drewN HB0.out _⟩
/-- A law's line: it runs, and its configuration lies in the first block behind the input. -/
structure RunI (p : Lpar) (x : Lsn) (l : Nat) (w : World) (K : Array Value) (a : Lad) (F : Nat → Prop) (s : Lst) (u : World) : Prop where
  line : RLine p a x F l s u
  run : s.stopped = false
  far : ∀ k, F k → w.heap.size + 1 ≤ k
  cb : Bx u w.heap.size 23 K
  bel : Below w.heap.size w u
theorem RunI.keep {p : Lpar} {x : Lsn} {l : Nat} {w : World} {K : Array Value} {a : Lad} {F : Nat → Prop} {s : Lst} {u v : World} (h : RunI p x l w K a F s u) (hb : Below u.heap.size u v) : RunI p x l w K a F s v :=
  ⟨h.line.keep hb, h.run, h.far, h.cb.below hb, h.bel.trans (hb.mono h.bel.size)⟩
theorem RunI.row {p : Lpar} {x : Lsn} {l : Nat} {w : World} {K : Array Value} {a : Lad} {F : Nat → Prop} {s : Lst} {u : World} (h : RunI p x l w K a F s u) {b : Nat} (hF : ¬ F b) (hl : l ≠ b) (hb : w.heap.size + 1 ≤ b) (ds : Array Value) : RunI p x l w K a F s (u.setRow b ds) :=
  ⟨⟨h.line.line.keep (fun k hk => setRow_other _ _ _ _ (fun e => hF (e ▸ hk))) (by simp), h.line.inv, h.line.ptr.other hl _, h.line.far⟩, h.run, h.far, h.cb.other (by omega) _, below_setRow h.bel (by omega) _⟩
theorem run_settle {p : Lpar} {x : Lsn} {l : Nat} {w : World} {a : Lad} {F : Nat → Prop} {s : Lst} {u : World} {c0 c1 c2 c3 c4 : Int} (h : RunI p x l w #[.int .i64 c0, .int .i64 c1, .int .i64 c2, .int .i64 c3, .int .i64 c4, .int .i64 p.W, .int .i64 p.Wd, .int .i64 p.Rm] a F s u) (hT : TabsF w) (hf : p.fail < 1) (A : Option Addr) (m cap : Nat) (pk : Nat → Int) (hA : IntsAt w A m pk) (hlow : ∀ y, A = some y → 0 < m → y.block < w.heap.size) (hpk : ∀ i, i < m → -9223372036854775808 ≤ pk i ∧ pk i ≤ 9223372036854775807) (R : Nat) (hR : R ≤ s.rem p) (hRb : R ≤ 10000) :
    Calls Tryz.prog 22 #[ptrV l, .agg #[.int .i64 c0, .int .i64 c1, .int .i64 c2, .int .i64 c3, .int .i64 c4, .int .i64 p.W, .int .i64 p.Wd, .int .i64 p.Rm], .int .i64 p.N, .slice A m cap, .int .i64 R] u fun e w' => e = .returned (.bool true) ∧ ∃ a' F' s', RunI p x l w #[.int .i64 c0, .int .i64 c1, .int .i64 c2, .int .i64 c3, .int .i64 c4, .int .i64 p.W, .int .i64 p.Wd, .int .i64 p.Rm] a' F' s' w' ∧ s'.rem p = s.rem p - R ∧ (∀ k, F' k → F k ∨ u.heap.size ≤ k) ∧ Edit F u w' := by
  refine (settle_any w hT h.bel h.line (fun k hk => by have := h.far k hk; omega) h.run hf c0 c1 c2 c3 c4 A m cap pk hA hlow hpk R hR hRb).mono ?_
  rintro e w' ⟨rfl, a', F', s', hL, hs, hr, hO, hE⟩
  have hc := h.cb.lt
  refine ⟨rfl, a', F', s', ⟨hL, hs, fun k hk => ?_, h.cb.edit hE fun hf => by have := h.far _ hf; omega, h.bel.trans (hE.below h.bel.size fun k hk => by have := h.far k hk; omega)⟩, hr, hO, hE⟩
  rcases hO k hk with h1 | h1
  · exact h.far k h1
  · omega
/-- Look while it runs. -/
theorem run_look {p : Lpar} {x : Lsn} {l : Nat} {w : World} {K : Array Value} {a : Lad} {F : Nat → Prop} {s : Lst} {u : World} (h : RunI p x l w K a F s u) (hr : 0 < s.rem p) :
    Calls Tryz.prog 24 #[ptrV l] u fun e w' => ∃ A1 q1 A2 q2 A3 q3, e = .returned (.agg #[.int .i64 0, .int .i64 s.given, .int .i64 s.summed, .int .i64 s.wrote, .int .i64 s.writes, .int .i64 s.jobs.length, .int .i64 s.lane.length, .int .i64 s.ready.length, .slice A1 p.W q1, .slice A2 s.shelf.length q2, .slice A3 (s.ended p).length q3]) ∧ Below u.heap.size u w' := by
  have h2 : s.e2 = false := by
    cases h2 : s.e2 with
    | false => rfl
    | true =>
      have := (h.line.inv.rem0 h.run).2 h2
      omega
  refine (rLook_any h.line).mono ?_
  rintro e w' ⟨v1, v2, v3, rfl, hs, hb⟩
  obtain ⟨A1, k1, e1, -⟩ := own_open hs.held
  obtain ⟨A2, k2, e2, -⟩ := own_open hs.shelf
  obtain ⟨A3, k3, e3, -⟩ := own_open hs.ended
  subst e1 e2 e3
  refine ⟨A1, k1, A2, k2, A3, k3, ?_, hb⟩
  unfold viewC lstN
  rw [h2]
  rfl
/-- Look in the end. -/
theorem over_look {p : Lpar} {x : Lsn} {l : Nat} {w : World} {K : Array Value} {a : Lad} {F : Nat → Prop} {s : Lst} {u : World} (h : RunI p x l w K a F s u) (hr : s.rem p = 0) :
    Calls Tryz.prog 24 #[ptrV l] u fun e w' => ∃ A1 q1 A2 q2 A3 q3, e = .returned (.agg #[.int .i64 1, .int .i64 (p.N : Nat), .int .i64 (p.N : Nat), .int .i64 (p.N : Nat), .int .i64 ((p.N + 2 : Nat) : Int), .int .i64 s.jobs.length, .int .i64 s.lane.length, .int .i64 s.ready.length, .slice A1 p.W q1, .slice A2 s.shelf.length q2, .slice A3 (s.ended p).length q3]) ∧ Below u.heap.size u w' := by
  have h2 : s.e2 = true := (h.line.inv.rem0 h.run).1 hr
  obtain ⟨h3, h4, h5⟩ := h.line.inv.hd2 h2 h.run
  have h6 : s.given = p.N := by have := h.line.inv.wrote; have := h.line.inv.given; omega
  have h7 : s.summed = p.N := by
    have h8 := h.line.inv.lane_len
    rw [(h.line.inv.done h2).2.1] at h8
    have := h.line.inv.lane.1
    simp at h8
    omega
  refine (rLook_any h.line).mono ?_
  rintro e w' ⟨v1, v2, v3, rfl, hs, hb⟩
  obtain ⟨A1, k1, e1, -⟩ := own_open hs.held
  obtain ⟨A2, k2, e2, -⟩ := own_open hs.shelf
  obtain ⟨A3, k3, e3, -⟩ := own_open hs.ended
  subst e1 e2 e3
  refine ⟨A1, k1, A2, k2, A3, k3, ?_, hb⟩
  unfold viewC lstN
  rw [h2, h.run, h4, h5, h6, h7]
  rfl
theorem over_bytes {ch d B k3 k4 k5 k6 k7 S : Nat} {G : Nat → Nat → Int} {l : Nat} {w : World} {K : Array Value} {a : Lad} {F : Nat → Prop} {s : Lst} {u : World} (h : RunI (⟨nBlk S B, k5, k6, k7, 0⟩ : Lpar) (⟨ch, d, B, k3, k4, S, G⟩ : Lsn) l w K a F s u) (hr : s.rem (⟨nBlk S B, k5, k6, k7, 0⟩ : Lpar) = 0) :
    Calls Tryz.prog 25 #[ptrV l] u fun e w' => e = .returned (.string (bs (streamT d ch B k3 k4 G S))) ∧ Below u.heap.size u w' := by
  have h2 : s.e2 = true := (h.line.inv.rem0 h.run).1 hr
  obtain ⟨h3, h4, h5⟩ := h.line.inv.hd2 h2 h.run
  refine (rBytes_any h.line).mono ?_
  rintro e w' ⟨rfl, hb⟩
  rw [h3, h4]
  exact ⟨rfl, hb⟩
end Go.Proofs.YtlncjgnomhpjnabGreatDoor

