import Derived.Test.YtlncjgnomhpjnaaGreatDoorPL37
import Derived.Test.YtlncjgnomhpjnaaGreatDoorPL49
import Derived.Test.YtlncjgnomhpjnaaGreatDoorPL52
import Derived.Test.YtlncjgnomhpjnaaGreatDoorPL53
import Derived.BigQuiet
import Derived.Deep.QuietTactic
/-
  What Encode answers; reel.Check, reel.Encode.
-/
namespace Go.Proofs.YtlncjgnomhpjnaaGreatDoor
open Go.RowKit Go.Deep
set_option linter.unusedVariables false
def encOk (c0 c1 c2 c3 c4 c5 c6 c7 : Int) (n : Nat) (L : Nat → Nat) (F : Nat → Nat → Int) : Prop :=
  rightB c0 c1 c2 c3 c4 c5 c6 c7 = true ∧ ChanP c0 c1.toNat n 0 300 L F
open Classical in
noncomputable def encE (c0 c1 c2 c3 c4 c5 c6 c7 : Int) (n : Nat) (L : Nat → Nat) (F : Nat → Nat → Int) : Int :=
  if rightB c0 c1 c2 c3 c4 c5 c6 c7 = true then (if ChanP c0 c1.toNat n 0 300 L F then 0 else 2) else 1
open Classical in
noncomputable def encS (c0 c1 c2 c3 c4 c5 c6 c7 : Int) (n : Nat) (L : Nat → Nat) (F : Nat → Nat → Int) : ByteArray :=
  if encOk c0 c1 c2 c3 c4 c5 c6 c7 n L F then bs (streamT c1.toNat n c2.toNat c3.toNat c4.toNat F (L 0)) else ⟨#[]⟩
theorem enc_no {c0 c1 c2 c3 c4 c5 c6 c7 : Int} {n : Nat} {L : Nat → Nat} {F : Nat → Nat → Int} (h : ¬ encOk c0 c1 c2 c3 c4 c5 c6 c7 n L F) : encS c0 c1 c2 c3 c4 c5 c6 c7 n L F = ⟨#[]⟩ := by
  unfold encS; rw [if_neg h]
theorem enc_yes {c0 c1 c2 c3 c4 c5 c6 c7 : Int} {n : Nat} {L : Nat → Nat} {F : Nat → Nat → Int} (h : encOk c0 c1 c2 c3 c4 c5 c6 c7 n L F) :
    encS c0 c1 c2 c3 c4 c5 c6 c7 n L F = bs (streamT c1.toNat n c2.toNat c3.toNat c4.toNat F (L 0)) ∧ encE c0 c1 c2 c3 c4 c5 c6 c7 n L F = 0 := by
  unfold encS encE; rw [if_pos h, if_pos h.1, if_pos h.2]; exact ⟨rfl, rfl⟩
theorem enc_e {c0 c1 c2 c3 c4 c5 c6 c7 : Int} {n : Nat} {L : Nat → Nat} {F : Nat → Nat → Int} (h : ¬ encOk c0 c1 c2 c3 c4 c5 c6 c7 n L F) : encE c0 c1 c2 c3 c4 c5 c6 c7 n L F = 1 ∨ encE c0 c1 c2 c3 c4 c5 c6 c7 n L F = 2 := by
  unfold encE
  by_cases h1 : rightB c0 c1 c2 c3 c4 c5 c6 c7 = true
  · rw [if_pos h1, if_neg (fun h2 => h ⟨h1, h2⟩)]; exact .inr rfl
  · rw [if_neg h1]; exact .inl rfl
set_option maxHeartbeats 1000000 in
theorem reelCheck_any (c0 c1 c2 c3 c4 c5 c6 c7 : Int) (a : Option Addr) (n cap : Nat) (A : Nat → Option Addr) (L C : Nat → Nat) (F : Nat → Nat → Int) (w : World) (hn : n ≤ 17592186044416) (hL : ∀ i, i < n → L i ≤ 17592186044416)
    (hA : ListsAt w a n A L C) (hI : ∀ i, i < n → IntsAt w (A i) (L i) (F i)) (hlow : Low w.heap.size a n A L) :
    Calls Tryz.prog 48 #[.agg #[.int .i64 c0, .int .i64 c1, .int .i64 c2, .int .i64 c3, .int .i64 c4, .int .i64 c5, .int .i64 c6, .int .i64 c7], .slice a n cap] w fun e w' =>
      e = .returned (.int .i64 (encE c0 c1 c2 c3 c4 c5 c6 c7 n L F)) ∧ Below w.heap.size w w' := by
  have hb0 : Below w.heap.size w (w.alloc (.cells #[.int .i64 c0, .int .i64 c1, .int .i64 c2, .int .i64 c3, .int .i64 c4, .int .i64 c5, .int .i64 c6, .int .i64 c7] 23)) := (Below.refl _ _).alloc (Nat.le_refl _) _
  have HB0 := Hid.mk' hb0
  have HRC := Hid.mk' (fun u => rightConfig_any c0 c1 c2 c3 c4 c5 c6 c7 u)
  clear hb0
  unfold encE
  cases hr : rightB c0 c1 c2 c3 c4 c5 c6 c7 with
  | false =>
    rw [hr] at HRC
    rw [if_neg (by simp)]
    clear hr hA hI hlow hL
    go_enter Tryz.func48, Tryz.ntmps48
    go_wp2_with (go_at_call 61; refine (HRC.out _).mono ?_; rintro e u1 ⟨rfl, hb⟩; have HB1 := Hid.mk' (HB0.out.trans (hb.mono (by simp))); clear hb HRC HB0)
    go_ret
    exact ⟨rfl, HB1.out⟩
  | true =>
    rw [hr] at HRC
    rw [if_pos rfl]
    obtain ⟨hc0, hc4, hc2, d, rfl, h1, h2⟩ := rightB_d hr
    have lowU : ∀ u, Below w.heap.size w u → Low u.heap.size a n A L := fun u hu => ⟨fun x hx h0 => Nat.lt_of_lt_of_le (hlow.1 x hx h0) hu.size, fun i hi x hx h0 => Nat.lt_of_lt_of_le (hlow.2 i hi x hx h0) hu.size⟩
    have HIB := Hid.mk' (fun (u : World) (hu : Below w.heap.size w u) => isSound_any c0 c2 c3 c4 c5 c6 c7 d a n cap A L C F u hc0 (by omega) (by omega) hn hL (hA.below hu hlow.1) (fun i hi => (hI i hi).below hu (hlow.2 i hi)) (lowU u hu))
    rw [Int.toNat_natCast]
    clear hA hI hlow hL lowU hr
    by_cases hs : ChanP c0 d n 0 300 L F
    · rw [if_pos hs]
      have HS := Hid.mk' hs
      clear hs
      go_enter Tryz.func48, Tryz.ntmps48
      go_wp2_with (first
        | (go_at_call 61; refine (HRC.out _).mono ?_; rintro e u1 ⟨rfl, hb⟩; obtain ⟨hc1, hf1⟩ := bcell hb; have hs1 : w.heap.size < u1.heap.size := by {have := hb.size; simp at this; omega}; have HB1 := Hid.mk' (HB0.out.trans (hb.mono (by simp))); clear hb hf1 HRC HB0)
        | (go_at_call 81; refine (HIB.out _ ?_).mono ?_; exact HB1.out; rintro e u2 ⟨he, hb⟩; have he := he.true_of HS.out; subst he; have HB2 := Hid.mk' (HB1.out.trans (hb.mono HB1.out.size)); clear hb HIB HB1))
      go_ret
      exact ⟨rfl, HB2.out⟩
    · rw [if_neg hs]
      have HS := Hid.mk' hs
      clear hs
      go_enter Tryz.func48, Tryz.ntmps48
      go_wp2_with (first
        | (go_at_call 61; refine (HRC.out _).mono ?_; rintro e u1 ⟨rfl, hb⟩; obtain ⟨hc1, hf1⟩ := bcell hb; have hs1 : w.heap.size < u1.heap.size := by {have := hb.size; simp at this; omega}; have HB1 := Hid.mk' (HB0.out.trans (hb.mono (by simp))); clear hb hf1 HRC HB0)
        | (go_at_call 81; refine (HIB.out _ ?_).mono ?_; exact HB1.out; rintro e u2 ⟨he, hb⟩; have he := he.false_of HS.out; subst he; have HB2 := Hid.mk' (HB1.out.trans (hb.mono HB1.out.size)); clear hb HIB HB1))
      go_ret
      exact ⟨rfl, HB2.out⟩
set_option maxHeartbeats 2000000 in
theorem reelEncode_any (c0 c1 c2 c3 c4 c5 c6 c7 : Int) (a : Option Addr) (n cap : Nat) (A : Nat → Option Addr) (L C : Nat → Nat) (F : Nat → Nat → Int) (w : World) (hn : n ≤ 17592186044416) (hL : ∀ i, i < n → L i ≤ 17592186044416) (hC : ∀ i, i < n → L i ≤ C i)
    (hA : ListsAt w a n A L C) (hI : ∀ i, i < n → IntsAt w (A i) (L i) (F i)) (hlow : Low w.heap.size a n A L) (hT : TabsF w) :
    Calls Tryz.prog 19 #[.agg #[.int .i64 c0, .int .i64 c1, .int .i64 c2, .int .i64 c3, .int .i64 c4, .int .i64 c5, .int .i64 c6, .int .i64 c7], .slice a n cap] w fun e w' =>
      e = .returned (.tuple #[.string (encS c0 c1 c2 c3 c4 c5 c6 c7 n L F), .int .i64 (encE c0 c1 c2 c3 c4 c5 c6 c7 n L F)]) ∧ Below w.heap.size w w' := by
  have hb0 : Below w.heap.size w (w.alloc (.cells #[.int .i64 c0, .int .i64 c1, .int .i64 c2, .int .i64 c3, .int .i64 c4, .int .i64 c5, .int .i64 c6, .int .i64 c7] 23)) := (Below.refl _ _).alloc (Nat.le_refl _) _
  have HB0 := Hid.mk' hb0
  have lowU : ∀ u, Below w.heap.size w u → Low u.heap.size a n A L := fun u hu => ⟨fun x hx h0 => Nat.lt_of_lt_of_le (hlow.1 x hx h0) hu.size, fun i hi x hx h0 => Nat.lt_of_lt_of_le (hlow.2 i hi x hx h0) hu.size⟩
  have HCK := Hid.mk' (fun (u : World) (hu : Below w.heap.size w u) => reelCheck_any c0 c1 c2 c3 c4 c5 c6 c7 a n cap A L C F u hn hL (hA.below hu hlow.1) (fun i hi => (hI i hi).below hu (hlow.2 i hi)) (lowU u hu))
  by_cases hok : encOk c0 c1 c2 c3 c4 c5 c6 c7 n L F
  · obtain ⟨eS, eE⟩ := enc_yes hok
    rw [eE] at HCK
    rw [eS, eE]
    obtain ⟨hr, hs⟩ := hok
    obtain ⟨hc0, hc4, hc2, d, rfl, h1, h2⟩ := rightB_d hr
    have hri : 0 ≤ c3 ∧ c3 ≤ 65535 ∧ 0 ≤ c4 ∧ c4 ≤ 255 := by
      rw [rightB_info] at hr
      simp [infoB, within_iff] at hr
      omega
    obtain ⟨hnc, hL0, hall⟩ := hs
    subst hnc
    rw [within_iff] at hL0
    obtain ⟨B, rfl⟩ : ∃ B : Nat, c2 = (B : Int) := ⟨c2.toNat, by omega⟩
    obtain ⟨r, rfl⟩ : ∃ r : Nat, c3 = (r : Int) := ⟨c3.toNat, by omega⟩
    obtain ⟨k, rfl⟩ : ∃ k : Nat, c4 = (k : Int) := ⟨c4.toNat, by omega⟩
    simp only [Int.toNat_natCast] at *
    have hA2 : ListsAt w a n A (fun _ => L 0) C := fun i hi => by
      obtain ⟨x, hx, hc⟩ := hA i hi
      rw [(hall i hi).1] at hc
      exact ⟨x, hx, hc⟩
    have hI2 : ∀ i, i < n → IntsAt w (A i) (L 0) (F i) := fun i hi => by have := hI i hi; rw [(hall i hi).1] at this; exact this
    have hlow2 : Low w.heap.size a n A (fun _ => L 0) := ⟨hlow.1, fun i hi x hx h0 => hlow.2 i hi x hx (by rw [(hall i hi).1]; exact h0)⟩
    have HMK := Hid.mk' (fun (u : World) (hu : Below w.heap.size w u) => streamEncode_any c5 c6 c7 d B r k a n cap A (L 0) C F u (by omega) h2 (by omega) (by omega) (by omega) (by omega) (by omega) (by omega) (by omega) (fun i hi j hj => (hall i hi).2 j (by rw [(hall i hi).1]; exact hj)) (hA2.below hu hlow2.1) (fun i hi => by have := hC i hi; rw [(hall i hi).1] at this; exact this) (fun i hi => (hI2 i hi).below hu (hlow2.2 i hi))
      ⟨fun x hx h0 => Nat.lt_of_lt_of_le (hlow2.1 x hx h0) hu.size, fun i hi x hx h0 => Nat.lt_of_lt_of_le (hlow2.2 i hi x hx h0) hu.size⟩ (hT.below hu))
    clear hA hI hlow hT lowU hall hA2 hI2 hlow2 hr hb0 hL hC eS eE
    generalize bs (streamT d n B r k F (L 0)) = R at *
    go_enter Tryz.func19, Tryz.ntmps19
    go_wp2_with (first
      | (go_at_call 48; refine (HCK.out _ ?_).mono ?_; exact HB0.out; rintro e u1 ⟨rfl, hb⟩; obtain ⟨hc1, hf1⟩ := bcell hb; have hs1 : w.heap.size < u1.heap.size := by {have := hb.size; simp at this; omega}; have HB1 := Hid.mk' (HB0.out.trans (hb.mono (by simp))); clear hb hf1 HCK HB0)
      | (go_at_call 49; refine (HMK.out _ ?_).mono ?_; exact HB1.out; rintro e u3 ⟨rfl, hb⟩; have HB3 := Hid.mk' (HB1.out.trans (hb.mono (Nat.le_of_lt hs1))); clear hb HMK HB1))
    go_ret2
    exact ⟨rfl, HB3.out⟩
  · have hS := enc_no hok
    rw [hS]
    have hE := enc_e hok
    clear hA hI hlow hT lowU hb0 hL hC hS hok
    generalize encE c0 c1 c2 c3 c4 c5 c6 c7 n L F = E at *
    have tE : (E != 0) = true := by rcases hE with h | h <;> rw [h] <;> rfl
    have tE2 : ¬ E = 0 := by omega
    clear hE
    go_enter Tryz.func19, Tryz.ntmps19
    go_wp2_with (go_at_call 48; refine (HCK.out _ ?_).mono ?_; exact HB0.out; rintro e u1 ⟨rfl, hb⟩; have HB1 := Hid.mk' (HB0.out.trans (hb.mono (by simp))); clear hb HCK HB0)
    go_ret2
    exact ⟨rfl, HB1.out⟩
end Go.Proofs.YtlncjgnomhpjnaaGreatDoor

/-
  What 'reelkeep' makes, and what the program answers to it.
-/
namespace Go.Proofs.YtlncjgnomhpjnaaGreatDoor
open Go.RowKit Go.Deep
set_option linter.unusedVariables false
/-- the numbers of a right configuration -/
structure CfgK (ch d B c3 c4 c5 c6 c7 : Nat) : Prop where
  ch1 : 1 ≤ ch
  ch4 : ch ≤ 4
  d4 : 4 ≤ d
  d12 : d ≤ 12
  B1 : 1 ≤ B
  B32 : B ≤ 32
  c3b : c3 < 65536
  c4b : c4 < 256
  c51 : 1 ≤ c5
  c58 : c5 ≤ 8
  c61 : 1 ≤ c6
  c616 : c6 ≤ 16
  c71 : 1 ≤ c7
  c78 : c7 ≤ 8
theorem right_ok (c0 c1 c2 c3 c4 c5 c6 c7 : Int) (w : World) (h3 : -9223372036854775808 ≤ c3 ∧ c3 ≤ 9223372036854775807) (h4 : -9223372036854775808 ≤ c4 ∧ c4 ≤ 9223372036854775807) :
    Calls Tryz.prog 29 #[.agg #[.int .i64 c0, .int .i64 c1, .int .i64 c2, .int .i64 c3, .int .i64 c4, .int .i64 c5, .int .i64 c6, .int .i64 c7]] w fun e w' => ∃ ch d B c3 c4 c5 c6 c7 : Nat, e = .returned (.agg #[.int .i64 ch, .int .i64 d, .int .i64 B, .int .i64 c3, .int .i64 c4, .int .i64 c5, .int .i64 c6, .int .i64 c7]) ∧ CfgK ch d B c3 c4 c5 c6 c7 ∧ Below w.heap.size w w' := by
  refine (right_keep c0 c1 c2 c3 c4 c5 c6 c7 w h3 h4).mono ?_
  rintro e w' ⟨rfl, hb⟩
  have l0 := pickV_lt (wr64 (c0 - 1)) 4 (by omega)
  have l1 := pickV_lt (wr64 (c1 - 4)) 9 (by omega)
  have l2 := pickV_lt (wr64 (c2 - 1)) 32 (by omega)
  have l3 := pickV_lt c3 65536 (by omega)
  have l4 := pickV_lt c4 256 (by omega)
  have l5 := pickV_lt (wr64 (c5 - 1)) 8 (by omega)
  have l6 := pickV_lt (wr64 (c6 - 1)) 16 (by omega)
  have l7 := pickV_lt (wr64 (c7 - 1)) 8 (by omega)
  refine ⟨1 + pickV (wr64 (c0 - 1)) 4, 4 + pickV (wr64 (c1 - 4)) 9, 1 + pickV (wr64 (c2 - 1)) 32, pickV c3 65536, pickV c4 256, 1 + pickV (wr64 (c5 - 1)) 8, 1 + pickV (wr64 (c6 - 1)) 16, 1 + pickV (wr64 (c7 - 1)) 8, ?_, ⟨by omega, by omega, by omega, by omega, by omega, by omega, l3, l4, by omega, by omega, by omega, by omega, by omega, by omega⟩, hb⟩
  simp
/-- a sound that was made, and its configuration -/
theorem kp_of {ch d B c3 c4 c5 c6 c7 S n : Nat} {L : Nat → Nat} {F G : Nat → Nat → Int} (h : CfgK ch d B c3 c4 c5 c6 c7) (hS : S ≤ 300) (hG : ∀ i, i < ch → ∀ j, j < S → G i j = sndF d n L F i j) : KP d ch B c3 c4 S G :=
  ⟨h.d4, h.d12, h.ch1, h.ch4, h.B1, h.B32, h.c3b, h.c4b, hS, fun i hi j hj => by rw [hG i hi j hj]; exact sndF_fits _ _ _ _ _ _⟩
theorem enc_keep {base ch d B c3 c4 c5 c6 c7 S : Nat} {xv : Value} {gs : Nat → Nat} {G : Nat → Nat → Int} (u : World) (h : CfgK ch d B c3 c4 c5 c6 c7) (hk : KP d ch B c3 c4 S G) (hx : AccI base u xv S ch gs G) (hT : TabsF u) :
    Calls Tryz.prog 19 #[.agg #[.int .i64 ch, .int .i64 d, .int .i64 B, .int .i64 c3, .int .i64 c4, .int .i64 c5, .int .i64 c6, .int .i64 c7], xv] u fun e u' => e = .returned (.tuple #[.string (bs (streamT d ch B c3 c4 G S)), .int .i64 0]) ∧ Below u.heap.size u u' := by
  obtain ⟨g, c, rfl, h1, h2, h3⟩ := hx.open h.ch1
  obtain ⟨q1, q2, q3⟩ := hx.lists h3 h2
  have ha := h.ch1
  have hb := h.ch4
  have hc := hk.S3
  have b1 := h.d4
  have b2 := h.d12
  have b3 := h.B1
  have b4 := h.B32
  have b5 := h.c3b
  have b6 := h.c4b
  have b7 := h.c51
  have b8 := h.c58
  have b9 := h.c61
  have b10 := h.c616
  have b11 := h.c71
  have b12 := h.c78
  have hok : encOk ch d B c3 c4 c5 c6 c7 ch (fun _ => S) G := by
    refine ⟨?_, rfl, ?_, fun i hi => ⟨rfl, fun j hj => ?_⟩⟩
    · simp only [rightB, Bool.and_eq_true, within_iff]
      omega
    · show within (S : Int) 0 300 = true
      rw [within_iff]; omega
    · rw [Int.toNat_natCast]; exact hk.fit i hi j hj
  have hE := reelEncode_any ch d B c3 c4 c5 c6 c7 _ ch c _ (fun _ => S) (fun _ => S) G u (by omega) (fun i hi => by omega) (fun i hi => Nat.le_refl _) q1 q2 q3 hT
  rw [(enc_yes hok).1, (enc_yes hok).2] at hE
  simp only [Int.toNat_natCast] at hE
  exact hE
theorem dec_keep {ch d B c3 c4 S : Nat} {G : Nat → Nat → Int} (u : World) (hk : KP d ch B c3 c4 S G) (hT : TabsU u) :
    Calls Tryz.prog 23 #[.string (bs (streamT d ch B c3 c4 G S))] u fun e u' => ∃ v, e = .returned (.tuple #[.agg #[.int .i64 ch, .int .i64 d, .int .i64 B, .int .i64 c3, .int .i64 c4, .int .i64 S], v, .int .i64 0]) ∧ ViewL u' v ch S G ∧ Below u.heap.size u u' := by
  have hh := stream_head hk
  refine (reelDecode_any (streamT d ch B c3 c4 G S) u (by have := stream_short hk; omega) hT).mono ?_
  intro e u' ha
  obtain ⟨gl, rfl, hro, hb⟩ := ha.yes (stream_dec hk)
  rw [hh.ch, hh.sa] at hro
  refine ⟨_, by rw [hh.ch, hh.de, hh.bl, hh.ra, hh.se, hh.sa], ?_, hb⟩
  exact hro.view.ext fun i hi j hj => stream_smp hk hi hj
theorem sal_keep {ch d B c3 c4 S : Nat} {G : Nat → Nat → Int} (u : World) (hk : KP d ch B c3 c4 S G) (hT : TabsU u) :
    Calls Tryz.prog 25 #[.string (bs (streamT d ch B c3 c4 G S))] u fun e u' => ∃ v, e = .returned (.tuple #[.agg #[.int .i64 ch, .int .i64 d, .int .i64 B, .int .i64 c3, .int .i64 c4, .int .i64 S], v, .int .i64 0]) ∧ ViewL u' v ch S G ∧ Below u.heap.size u u' := by
  have hh := stream_head hk
  refine (reelSalvage_any (streamT d ch B c3 c4 G S) u (by have := stream_short hk; omega) hT).mono ?_
  intro e u' ha
  obtain ⟨gl, rfl, hro, hb⟩ := ha.yesM ⟨stream_short hk, stream_hd hk⟩ (stream_run hk)
  rw [hh.ch, hh.sa, hh.bl, chN_whole hk.B1 (by omega) (by omega), Nat.zero_mul, Nat.sub_zero, hh.de] at hro
  refine ⟨_, by rw [hh.ch, hh.de, hh.bl, hh.ra, hh.se, hh.sa], ?_, hb⟩
  refine hro.view.ext fun i hi j hj => ?_
  rw [← stream_smp hk hi hj]
  unfold dSmp
  rw [hh.ch, hh.de, hh.bl, hh.sa]
theorem frm_keep {ch d B c3 c4 S k : Nat} {G : Nat → Nat → Int} (u : World) (hk : KP d ch B c3 c4 S G) (hkS : k ≤ S) (hT : TabsU u) :
    Calls Tryz.prog 26 #[.string (bs (streamT d ch B c3 c4 G S)), .int .i64 k] u fun e u' => ∃ v, e = .returned (.tuple #[v, .int .i64 0]) ∧ ViewL u' v ch (S - k) (fun i j => G i (k + j)) ∧ Below u.heap.size u u' := by
  have hh := stream_head hk
  refine (reelFrom_any (streamT d ch B c3 c4 G S) k u (by have := stream_short hk; omega) hT).mono ?_
  intro e u' ha
  obtain ⟨gl, rfl, hro, hb⟩ := ha.yes (stream_frm hk hkS)
  rw [hh.ch, hh.sa, Int.toNat_natCast] at hro
  refine ⟨_, rfl, ?_, hb⟩
  rw [hh.ch]
  exact hro.view.ext fun i hi j hj => stream_frmS hk (by omega) hi hj
end Go.Proofs.YtlncjgnomhpjnaaGreatDoor

/-
  The law 'Lossless'.
-/
namespace Go.Proofs.YtlncjgnomhpjnaaGreatDoor
open Go.RowKit Go.Deep
set_option linter.unusedVariables false
theorem AccI.cells {base : Nat} {u : World} {g c nn n : Nat} {gs : Nat → Nat} {G : Nat → Nat → Int} (h : AccI base u (.slice (some ⟨g, 0, none⟩) n c) nn n gs G) (hn : 1 ≤ n) : g < u.heap.size ∧ ∀ i, i < n → u.cell? ⟨g, i, none⟩ = some (.slice (some ⟨gs i, 0, none⟩) nn nn) := by
  obtain ⟨g', c', e, h1, h2, h3⟩ := h.open hn
  injection e with e1 e2 e3
  injection e1 with e1
  injection e1 with e1
  subst e1
  exact ⟨h2, h3⟩
theorem pick_succ (pl : Int) (S : Nat) (u : World) (hS : S ≤ 300) (hpl : -9223372036854775808 ≤ pl ∧ pl ≤ 9223372036854775807) :
    Calls Tryz.prog 33 #[.int .i64 pl, .int .i64 ((S : Int) + 1)] u fun e w' => ∃ k : Nat, k ≤ S ∧ e = .returned (.int .i64 k) ∧ w' = u := by
  have h1 := pick_any pl (S + 1) u (by omega) (by omega) hpl
  rw [show ((S + 1 : Nat) : Int) = (S : Int) + 1 by omega] at h1
  refine h1.mono ?_
  rintro e w' ⟨rfl, hw⟩
  have := pickV_lt pl (S + 1) (by omega)
  exact ⟨_, by omega, rfl, hw⟩
theorem part_keep {base : Nat} {lv : Value} {S n k : Nat} {gs : Nat → Nat} {G : Nat → Nat → Int} (w : World) (hn1 : 1 ≤ n) (hn4 : n ≤ 4) (hS : S ≤ 300) (hk : k ≤ S) (h : AccI base w lv S n gs G) :
    Calls Tryz.prog 34 #[lv, .int .i64 k, .int .i64 S] w fun e w' => ∃ lv2, e = .returned lv2 ∧ ViewL w' lv2 n (S - k) (fun i j => G i (k + j)) ∧ Below w.heap.size w w' := by
  have h1 := part_any base lv S n k S gs G w hn1 hn4 hS (by omega) (by omega) h
  rw [Nat.min_self, Nat.min_eq_left hk] at h1
  refine h1.mono ?_
  rintro e w' ⟨lv2, gs2, G2, rfl, ha, hg, hb⟩
  exact ⟨lv2, rfl, (ha.view hn1).ext hg, hb⟩
set_option maxRecDepth 4000 in
set_option maxHeartbeats 4000000 in
theorem losslessLaw (c0 c1 c2 c3 c4 c5 c6 c7 : Int) (a : Option Addr) (n cap : Nat) (A : Nat → Option Addr) (L C : Nat → Nat) (F : Nat → Nat → Int) (pl : Int) (w : World) (h3 : -9223372036854775808 ≤ c3 ∧ c3 ≤ 9223372036854775807) (h4 : -9223372036854775808 ≤ c4 ∧ c4 ≤ 9223372036854775807) (hpl : -9223372036854775808 ≤ pl ∧ pl ≤ 9223372036854775807) (h : SoundIn w a n cap A L C F)
    (hF : ∀ i, i < n → ∀ j, j < L i → -9223372036854775808 ≤ F i j ∧ F i j ≤ 9223372036854775807) (hT : TabsF w) (hU : TabsU w) :
    Calls Tryz.prog 8 #[.agg #[.int .i64 c0, .int .i64 c1, .int .i64 c2, .int .i64 c3, .int .i64 c4, .int .i64 c5, .int .i64 c6, .int .i64 c7], .slice a n cap, .int .i64 pl] w fun e w' => e = .returned (.bool true) ∧ Below w.heap.size w w' := by
  have HQ0 := Hid.mk' (Bx.new w #[.int .i64 c0, .int .i64 c1, .int .i64 c2, .int .i64 c3, .int .i64 c4, .int .i64 c5, .int .i64 c6, .int .i64 c7] 23)
  have HB0 : Hid (Below w.heap.size w (w.alloc (.cells #[.int .i64 c0, .int .i64 c1, .int .i64 c2, .int .i64 c3, .int .i64 c4, .int .i64 c5, .int .i64 c6, .int .i64 c7] 23))) := (Below.refl _ _).alloc (Nat.le_refl _) _
  have HRT := Hid.mk' (fun u => right_ok c0 c1 c2 c3 c4 c5 c6 c7 u h3 h4)
  have HSD := Hid.mk' (fun (u : World) (hu : Below w.heap.size w u) (ch d : Nat) (k2 k3 k4 k5 k6 k7 : Int) h1 h2 h3 => sounded_any k2 k3 k4 k5 k6 k7 ch d a n cap A L C F u h1 h2 h3 (by have := h.hn; omega) h.hL (h.below hu).hA (h.below hu).hI hF (h.below hu).low)
  have HS3 : Hid (sndN n L ≤ 300) := by show _ ≤ _; unfold sndN; split <;> omega
  have HTT := Hid.mk' (fun (u : World) (hu : Below w.heap.size w u) => And.intro (hT.below hu) (hU.below hu))
  have HPK := Hid.mk' (fun (S : Nat) u (hS : S ≤ 300) => pick_succ pl S u hS hpl)
  clear h hF hT hU h3 h4 hpl
  generalize sndN n L = S at *
  go_enter Tryz.func8, Tryz.ntmps8
  go_wp2_with (first
    | (refine wpList_loadRow rfl _ 23 rfl w.heap.size 23 #[.int .i64 c0, .int .i64 c1, .int .i64 c2, .int .i64 c3, .int .i64 c4, .int .i64 c5, .int .i64 c6, .int .i64 c7] (0, 0) _ rfl HQ0.out Tryz.underlying23 rfl infoCfgK ?_)
    | (go_at_call 29; refine (HRT.out _).mono ?_; rintro e w1 ⟨ch, d, B, k3, k4, k5, k6, k7, rfl, hcf, hb⟩; have HCF := Hid.mk' hcf; have HQ1 := Hid.mk' (HQ0.out.below hb); have HB1 := Hid.mk' (HB0.out.trans (hb.mono HB0.out.size)); clear HRT hcf hb HQ0 HB0)
    | (refine wpList_storeRow rfl _ _ 23 rfl w.heap.size 23 _ _ rfl rfl HQ1.out infoCfgK rfl rfl ?_)
    | (refine wpList_loadRow rfl _ 23 rfl w.heap.size 23 #[.int .i64 ch, .int .i64 d, .int .i64 B, .int .i64 k3, .int .i64 k4, .int .i64 k5, .int .i64 k6, .int .i64 k7] (0, 0) _ rfl (HQ1.out.row _) Tryz.underlying23 rfl infoCfgK ?_)
    | (go_at_call 30; refine (HSD.out _ (below_row HB1.out (Nat.le_refl _) _) ch d B k3 k4 k5 k6 k7 HCF.out.ch4 HCF.out.d4 HCF.out.d12).mono ?_; rintro e w2 ⟨xv, gs, G, rfl, hx, hG, hb⟩; obtain ⟨gx, cx, hxv, -, -, -⟩ := hx.open HCF.out.ch1; subst hxv; have HKP := Hid.mk' (kp_of HCF.out HS3.out hG); have HX2 := Hid.mk' (hx.mono (Nat.zero_le _)); have HQ2 := Hid.mk' ((HQ1.out.row #[.int .i64 ch, .int .i64 d, .int .i64 B, .int .i64 k3, .int .i64 k4, .int .i64 k5, .int .i64 k6, .int .i64 k7]).below hb); have HB2 := Hid.mk' ((below_row HB1.out (Nat.le_refl _) _).trans (hb.mono (below_row HB1.out (Nat.le_refl _) _).size)); clear hx hG hb HQ1 HB1 HSD)
    | (refine wpList_loadRow rfl _ 23 rfl w.heap.size 23 #[.int .i64 ch, .int .i64 d, .int .i64 B, .int .i64 k3, .int .i64 k4, .int .i64 k5, .int .i64 k6, .int .i64 k7] (0, 0) _ rfl HQ2.out Tryz.underlying23 rfl infoCfgK ?_)
    | (go_at_call 19; refine (enc_keep _ HCF.out HKP.out HX2.out (HTT.out _ HB2.out).1).mono ?_; rintro e w3 ⟨rfl, hb⟩; have HQ3 := Hid.mk' (HQ2.out.below hb); have HB3 := Hid.mk' (HB2.out.trans (hb.mono HB2.out.size)); have HX3 := Hid.mk' (HX2.out.next hb); have HDK := Hid.mk' (fun u hT => dec_keep u HKP.out hT); have HSK := Hid.mk' (fun u hT => sal_keep u HKP.out hT); have HFK := Hid.mk' (fun k u hk hT => frm_keep (k := k) u HKP.out hk hT); have h9 : ¬ 9000 < (bs (streamT d ch B k3 k4 G S)).size := (by rw [bs_size]; have := stream_short HKP.out; omega); clear hb HQ2 HB2 HX2; generalize bs (streamT d ch B k3 k4 G S) = SB at *)
    | (go_at_call 23; refine (HDK.out _ (HTT.out _ HB3.out).2).mono ?_; rintro e w4 ⟨yv, rfl, hy, hb⟩; have HQ4 := Hid.mk' (HQ3.out.below hb); have HB4 := Hid.mk' (HB3.out.trans (hb.mono HB3.out.size)); have HX4 := Hid.mk' (HX3.out.next hb); have HY4 := Hid.mk' hy; have HI4 := Hid.mk' (Bx.new w4 #[.int .i64 ch, .int .i64 d, .int .i64 B, .int .i64 k3, .int .i64 k4, .int .i64 S] 46); clear hb hy HQ3 HB3 HX3 HDK)
    | (go_at_call 31; refine (ksameAll_any _ _ ch S G _ (by have := HCF.out.ch4; omega) (by have := HS3.out; omega) ((HX4.out.next ((Below.refl _ _).alloc (Nat.le_refl _) _)).view HCF.out.ch1) (HY4.out.below ((Below.refl _ _).alloc (Nat.le_refl _) _))).mono ?_; rintro e w5 ⟨rfl, hb⟩; have HQ5 := Hid.mk' ((HQ4.out.alloc _).below hb); have HB5 := Hid.mk' ((HB4.out.alloc HB4.out.size _).trans (hb.mono (HB4.out.alloc HB4.out.size _).size)); have HX5 := Hid.mk' ((HX4.out.next ((Below.refl _ _).alloc (Nat.le_refl _) _)).next hb); have HI5 := Hid.mk' (HI4.out.below hb); clear hb HY4 HQ4 HB4 HX4 HI4)
    | (refine wpList_loadRow rfl _ 46 rfl w4.heap.size 46 #[.int .i64 ch, .int .i64 d, .int .i64 B, .int .i64 k3, .int .i64 k4, .int .i64 S] (0, 0) _ rfl HI5.out Tryz.underlying46 rfl infoInf6 ?_)
    | (refine wpList_loadRow rfl _ 23 rfl w.heap.size 23 #[.int .i64 ch, .int .i64 d, .int .i64 B, .int .i64 k3, .int .i64 k4, .int .i64 k5, .int .i64 k6, .int .i64 k7] (0, 0) _ rfl HQ5.out Tryz.underlying23 rfl infoCfgK ?_)
    | (go_at_call 32; refine (tells_any ch d B k3 k4 S k5 k6 k7 _ ch S G _ HCF.out.ch1 rfl (HX5.out.view HCF.out.ch1)).mono ?_; rintro e w6 ⟨rfl, hb⟩; have HQ6 := Hid.mk' (HQ5.out.below hb); have HB6 := Hid.mk' (HB5.out.trans (hb.mono HB5.out.size)); have HX6 := Hid.mk' (HX5.out.next hb); have HI6 := Hid.mk' (HI5.out.below hb); clear hb HQ5 HB5 HX5 HI5)
    | (go_at_call 25; refine (HSK.out _ (HTT.out _ HB6.out).2).mono ?_; rintro e w7 ⟨zv, rfl, hz, hb⟩; have HQ7 := Hid.mk' (HQ6.out.below hb); have HB7 := Hid.mk' (HB6.out.trans (hb.mono HB6.out.size)); have HX7 := Hid.mk' (HX6.out.next hb); have HI7 := Hid.mk' (HI6.out.below hb); have HZ7 := Hid.mk' hz; have HJ7 := Hid.mk' (Bx.new w7 #[.int .i64 ch, .int .i64 d, .int .i64 B, .int .i64 k3, .int .i64 k4, .int .i64 S] 46); clear hb hz HQ6 HB6 HX6 HI6 HSK)
    | (go_at_call 31; refine (ksameAll_any _ _ ch S G _ (by have := HCF.out.ch4; omega) (by have := HS3.out; omega) ((HX7.out.next ((Below.refl _ _).alloc (Nat.le_refl _) _)).view HCF.out.ch1) (HZ7.out.below ((Below.refl _ _).alloc (Nat.le_refl _) _))).mono ?_; rintro e w8 ⟨rfl, hb⟩; have HB8 := Hid.mk' ((HB7.out.alloc HB7.out.size _).trans (hb.mono (HB7.out.alloc HB7.out.size _).size)); have HX8 := Hid.mk' ((HX7.out.next ((Below.refl _ _).alloc (Nat.le_refl _) _)).next hb); have hI := (HI7.out.alloc _).below hb; have hJ := HJ7.out.below hb; have x0 := hI.cell 0; have x1 := hI.cell 1; have x2 := hI.cell 2; have x3 := hI.cell 3; have x4 := hI.cell 4; have x5 := hI.cell 5; have y0 := hJ.cell 0; have y1 := hJ.cell 1; have y2 := hJ.cell 2; have y3 := hJ.cell 3; have y4 := hJ.cell 4; have y5 := hJ.cell 5; have xc := (HX8.out.cells HCF.out.ch1).2 0 HCF.out.ch1; have hch : 0 < ch := HCF.out.ch1; have hS3 := HS3.out; clear hb hI hJ HZ7 HQ7 HB7 HX7 HI7 HJ7)
    | (go_at_call 33; refine (HPK.out S _ hS3).mono ?_; rintro e w9 ⟨k, hk, rfl, hw⟩; subst w9; clear HPK)
    | (go_at_call 26; refine (HFK.out k _ hk (HTT.out _ HB8.out).2).mono ?_; rintro e wa ⟨tv, rfl, ht, hb⟩; have HBA := Hid.mk' (HB8.out.trans (hb.mono HB8.out.size)); have HXA := Hid.mk' (HX8.out.next hb); have HTA := Hid.mk' ht; have xa := (HXA.out.cells HCF.out.ch1).2 0 HCF.out.ch1; clear hb ht HB8 HX8 HFK xc x0 x1 x2 x3 x4 x5 y0 y1 y2 y3 y4 y5)
    | (go_at_call 34; refine (part_keep _ HCF.out.ch1 HCF.out.ch4 hS3 hk HXA.out).mono ?_; rintro e wb ⟨pv, rfl, hp, hb⟩; have HBB := Hid.mk' (HBA.out.trans (hb.mono HBA.out.size)); have HTB := Hid.mk' (HTA.out.below hb); have HPB := Hid.mk' hp; clear hb hp HBA HXA HTA)
    | (go_at_call 31; refine (ksameAll_any _ _ ch (S - k) (fun i j => G i (k + j)) _ (by have := HCF.out.ch4; omega) (by omega) HPB.out HTB.out).mono ?_; rintro e wd ⟨rfl, hb⟩; have HBD := Hid.mk' (HBB.out.trans (hb.mono HBB.out.size)); clear hb))
  go_ret
  exact ⟨rfl, HBD.out⟩
end Go.Proofs.YtlncjgnomhpjnaaGreatDoor

