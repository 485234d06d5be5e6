import Derived.Test.YtlncjgnomhpjnabGreatDoorQU48
import Derived.Test.YtlncjgnomhpjnabGreatDoorQU37
import Derived.Test.YtlncjgnomhpjnabGreatDoorQU47
import Derived.Test.YtlncjgnomhpjnabGreatDoorQU49
import Derived.Test.YtlncjgnomhpjnabGreatDoorQU50
import Derived.Test.YtlncjgnomhpjnabGreatDoorQU33
import Derived.Test.YtlncjgnomhpjnabGreatDoorQU35
/-
  What Decode answers, yes or no.
-/
namespace Go.Proofs.YtlncjgnomhpjnabGreatDoor
open Go.RowKit Go.Deep
set_option linter.unusedVariables false
theorem DecAns.nothing {e : Ending} {w w' : World} {T : List UInt8} (h : DecAns e w w' T) (h0 : decE T ≠ 0) : e = .returned (.tuple #[.agg #[.int .i64 0, .int .i64 0, .int .i64 0, .int .i64 0, .int .i64 0, .int .i64 0], .slice none 0 0, .int .i64 (decE T)]) ∧ Below w.heap.size w w' := by
  rcases h with ⟨⟨hy, -⟩ | ⟨-, he⟩, hb⟩
  · exact absurd hy h0
  · exact ⟨he, hb⟩
end Go.Proofs.YtlncjgnomhpjnabGreatDoor

/-
  What Encode answers; reel.Check, reel.Encode.
-/
namespace Go.Proofs.YtlncjgnomhpjnabGreatDoor
open Go.RowKit Go.Deep
set_option linter.unusedVariables false
def encOk (c0 c1 c2 c3 c4 c5 c6 c7 : Int) (n : Nat) (L : Nat → Nat) (F : Nat → Nat → Int) : Prop :=
  rightB c0 c1 c2 c3 c4 c5 c6 c7 = true ∧ ChanP c0 c1.toNat n 0 300 L F
open Classical in
noncomputable def encE (c0 c1 c2 c3 c4 c5 c6 c7 : Int) (n : Nat) (L : Nat → Nat) (F : Nat → Nat → Int) : Int :=
  if rightB c0 c1 c2 c3 c4 c5 c6 c7 = true then (if ChanP c0 c1.toNat n 0 300 L F then 0 else 2) else 1
open Classical in
noncomputable def encS (c0 c1 c2 c3 c4 c5 c6 c7 : Int) (n : Nat) (L : Nat → Nat) (F : Nat → Nat → Int) : ByteArray :=
  if encOk c0 c1 c2 c3 c4 c5 c6 c7 n L F then bs (streamT c1.toNat n c2.toNat c3.toNat c4.toNat F (L 0)) else ⟨#[]⟩
theorem enc_no {c0 c1 c2 c3 c4 c5 c6 c7 : Int} {n : Nat} {L : Nat → Nat} {F : Nat → Nat → Int} (h : ¬ encOk c0 c1 c2 c3 c4 c5 c6 c7 n L F) : encS c0 c1 c2 c3 c4 c5 c6 c7 n L F = ⟨#[]⟩ := by
  unfold encS; rw [if_neg h]
theorem enc_yes {c0 c1 c2 c3 c4 c5 c6 c7 : Int} {n : Nat} {L : Nat → Nat} {F : Nat → Nat → Int} (h : encOk c0 c1 c2 c3 c4 c5 c6 c7 n L F) :
    encS c0 c1 c2 c3 c4 c5 c6 c7 n L F = bs (streamT c1.toNat n c2.toNat c3.toNat c4.toNat F (L 0)) ∧ encE c0 c1 c2 c3 c4 c5 c6 c7 n L F = 0 := by
  unfold encS encE; rw [if_pos h, if_pos h.1, if_pos h.2]; exact ⟨rfl, rfl⟩
theorem enc_e {c0 c1 c2 c3 c4 c5 c6 c7 : Int} {n : Nat} {L : Nat → Nat} {F : Nat → Nat → Int} (h : ¬ encOk c0 c1 c2 c3 c4 c5 c6 c7 n L F) : encE c0 c1 c2 c3 c4 c5 c6 c7 n L F = 1 ∨ encE c0 c1 c2 c3 c4 c5 c6 c7 n L F = 2 := by
  unfold encE
  by_cases h1 : rightB c0 c1 c2 c3 c4 c5 c6 c7 = true
  · rw [if_pos h1, if_neg (fun h2 => h ⟨h1, h2⟩)]; exact .inr rfl
  · rw [if_neg h1]; exact .inl rfl
set_option maxHeartbeats 1000000 in
theorem reelCheck_any (c0 c1 c2 c3 c4 c5 c6 c7 : Int) (a : Option Addr) (n cap : Nat) (A : Nat → Option Addr) (L C : Nat → Nat) (F : Nat → Nat → Int) (w : World) (hn : n ≤ 17592186044416) (hL : ∀ i, i < n → L i ≤ 17592186044416)
    (hA : ListsAt w a n A L C) (hI : ∀ i, i < n → IntsAt w (A i) (L i) (F i)) (hlow : Low w.heap.size a n A L) :
    Calls Tryz.prog 33 #[.agg #[.int .i64 c0, .int .i64 c1, .int .i64 c2, .int .i64 c3, .int .i64 c4, .int .i64 c5, .int .i64 c6, .int .i64 c7], .slice a n cap] w fun e w' =>
      e = .returned (.int .i64 (encE c0 c1 c2 c3 c4 c5 c6 c7 n L F)) ∧ Below w.heap.size w w' := by
  have hb0 : Below w.heap.size w (w.alloc (.cells #[.int .i64 c0, .int .i64 c1, .int .i64 c2, .int .i64 c3, .int .i64 c4, .int .i64 c5, .int .i64 c6, .int .i64 c7] 23)) := (Below.refl _ _).alloc (Nat.le_refl _) _
  have HB0 := Hid.mk' hb0
  have HRC := Hid.mk' (fun u => rightConfig_any c0 c1 c2 c3 c4 c5 c6 c7 u)
  clear hb0
  unfold encE
  cases hr : rightB c0 c1 c2 c3 c4 c5 c6 c7 with
  | false =>
    rw [hr] at HRC
    rw [if_neg (by simp)]
    clear hr hA hI hlow hL
    go_enter Tryz.func33, Tryz.ntmps33
    go_wp2_with (go_at_call 59; refine (HRC.out _).mono ?_; rintro e u1 ⟨rfl, hb⟩; have HB1 := Hid.mk' (HB0.out.trans (hb.mono (by simp))); clear hb HRC HB0)
    go_ret
    exact ⟨rfl, HB1.out⟩
  | true =>
    rw [hr] at HRC
    rw [if_pos rfl]
    obtain ⟨hc0, hc4, hc2, d, rfl, h1, h2⟩ := rightB_d hr
    have lowU : ∀ u, Below w.heap.size w u → Low u.heap.size a n A L := fun u hu => ⟨fun x hx h0 => Nat.lt_of_lt_of_le (hlow.1 x hx h0) hu.size, fun i hi x hx h0 => Nat.lt_of_lt_of_le (hlow.2 i hi x hx h0) hu.size⟩
    have HIB := Hid.mk' (fun (u : World) (hu : Below w.heap.size w u) => isSound_any c0 c2 c3 c4 c5 c6 c7 d a n cap A L C F u hc0 (by omega) (by omega) hn hL (hA.below hu hlow.1) (fun i hi => (hI i hi).below hu (hlow.2 i hi)) (lowU u hu))
    rw [Int.toNat_natCast]
    clear hA hI hlow hL lowU hr
    by_cases hs : ChanP c0 d n 0 300 L F
    · rw [if_pos hs]
      have HS := Hid.mk' hs
      clear hs
      go_enter Tryz.func33, Tryz.ntmps33
      go_wp2_with (first
        | (go_at_call 59; refine (HRC.out _).mono ?_; rintro e u1 ⟨rfl, hb⟩; obtain ⟨hc1, hf1⟩ := bcell hb; have hs1 : w.heap.size < u1.heap.size := by {have := hb.size; simp at this; omega}; have HB1 := Hid.mk' (HB0.out.trans (hb.mono (by simp))); clear hb hf1 HRC HB0)
        | (go_at_call 60; refine (HIB.out _ ?_).mono ?_; exact HB1.out; rintro e u2 ⟨he, hb⟩; have he := he.true_of HS.out; subst he; have HB2 := Hid.mk' (HB1.out.trans (hb.mono HB1.out.size)); clear hb HIB HB1))
      go_ret
      exact ⟨rfl, HB2.out⟩
    · rw [if_neg hs]
      have HS := Hid.mk' hs
      clear hs
      go_enter Tryz.func33, Tryz.ntmps33
      go_wp2_with (first
        | (go_at_call 59; refine (HRC.out _).mono ?_; rintro e u1 ⟨rfl, hb⟩; obtain ⟨hc1, hf1⟩ := bcell hb; have hs1 : w.heap.size < u1.heap.size := by {have := hb.size; simp at this; omega}; have HB1 := Hid.mk' (HB0.out.trans (hb.mono (by simp))); clear hb hf1 HRC HB0)
        | (go_at_call 60; refine (HIB.out _ ?_).mono ?_; exact HB1.out; rintro e u2 ⟨he, hb⟩; have he := he.false_of HS.out; subst he; have HB2 := Hid.mk' (HB1.out.trans (hb.mono HB1.out.size)); clear hb HIB HB1))
      go_ret
      exact ⟨rfl, HB2.out⟩
set_option maxHeartbeats 2000000 in
theorem reelEncode_any (c0 c1 c2 c3 c4 c5 c6 c7 : Int) (a : Option Addr) (n cap : Nat) (A : Nat → Option Addr) (L C : Nat → Nat) (F : Nat → Nat → Int) (w : World) (hn : n ≤ 17592186044416) (hL : ∀ i, i < n → L i ≤ 17592186044416) (hC : ∀ i, i < n → L i ≤ C i)
    (hA : ListsAt w a n A L C) (hI : ∀ i, i < n → IntsAt w (A i) (L i) (F i)) (hlow : Low w.heap.size a n A L) (hT : TabsF w) :
    Calls Tryz.prog 11 #[.agg #[.int .i64 c0, .int .i64 c1, .int .i64 c2, .int .i64 c3, .int .i64 c4, .int .i64 c5, .int .i64 c6, .int .i64 c7], .slice a n cap] w fun e w' =>
      e = .returned (.tuple #[.string (encS c0 c1 c2 c3 c4 c5 c6 c7 n L F), .int .i64 (encE c0 c1 c2 c3 c4 c5 c6 c7 n L F)]) ∧ Below w.heap.size w w' := by
  have hb0 : Below w.heap.size w (w.alloc (.cells #[.int .i64 c0, .int .i64 c1, .int .i64 c2, .int .i64 c3, .int .i64 c4, .int .i64 c5, .int .i64 c6, .int .i64 c7] 23)) := (Below.refl _ _).alloc (Nat.le_refl _) _
  have HB0 := Hid.mk' hb0
  have lowU : ∀ u, Below w.heap.size w u → Low u.heap.size a n A L := fun u hu => ⟨fun x hx h0 => Nat.lt_of_lt_of_le (hlow.1 x hx h0) hu.size, fun i hi x hx h0 => Nat.lt_of_lt_of_le (hlow.2 i hi x hx h0) hu.size⟩
  have HCK := Hid.mk' (fun (u : World) (hu : Below w.heap.size w u) => reelCheck_any c0 c1 c2 c3 c4 c5 c6 c7 a n cap A L C F u hn hL (hA.below hu hlow.1) (fun i hi => (hI i hi).below hu (hlow.2 i hi)) (lowU u hu))
  by_cases hok : encOk c0 c1 c2 c3 c4 c5 c6 c7 n L F
  · obtain ⟨eS, eE⟩ := enc_yes hok
    rw [eE] at HCK
    rw [eS, eE]
    obtain ⟨hr, hs⟩ := hok
    obtain ⟨hc0, hc4, hc2, d, rfl, h1, h2⟩ := rightB_d hr
    have hri : 0 ≤ c3 ∧ c3 ≤ 65535 ∧ 0 ≤ c4 ∧ c4 ≤ 255 := by
      rw [rightB_info] at hr
      simp [infoB, within_iff] at hr
      omega
    obtain ⟨hnc, hL0, hall⟩ := hs
    subst hnc
    rw [within_iff] at hL0
    obtain ⟨B, rfl⟩ : ∃ B : Nat, c2 = (B : Int) := ⟨c2.toNat, by omega⟩
    obtain ⟨r, rfl⟩ : ∃ r : Nat, c3 = (r : Int) := ⟨c3.toNat, by omega⟩
    obtain ⟨k, rfl⟩ : ∃ k : Nat, c4 = (k : Int) := ⟨c4.toNat, by omega⟩
    simp only [Int.toNat_natCast] at *
    have hA2 : ListsAt w a n A (fun _ => L 0) C := fun i hi => by
      obtain ⟨x, hx, hc⟩ := hA i hi
      rw [(hall i hi).1] at hc
      exact ⟨x, hx, hc⟩
    have hI2 : ∀ i, i < n → IntsAt w (A i) (L 0) (F i) := fun i hi => by have := hI i hi; rw [(hall i hi).1] at this; exact this
    have hlow2 : Low w.heap.size a n A (fun _ => L 0) := ⟨hlow.1, fun i hi x hx h0 => hlow.2 i hi x hx (by rw [(hall i hi).1]; exact h0)⟩
    have HMK := Hid.mk' (fun (u : World) (hu : Below w.heap.size w u) => streamEncode_any c5 c6 c7 d B r k a n cap A (L 0) C F u (by omega) h2 (by omega) (by omega) (by omega) (by omega) (by omega) (by omega) (by omega) (fun i hi j hj => (hall i hi).2 j (by rw [(hall i hi).1]; exact hj)) (hA2.below hu hlow2.1) (fun i hi => by have := hC i hi; rw [(hall i hi).1] at this; exact this) (fun i hi => (hI2 i hi).below hu (hlow2.2 i hi))
      ⟨fun x hx h0 => Nat.lt_of_lt_of_le (hlow2.1 x hx h0) hu.size, fun i hi x hx h0 => Nat.lt_of_lt_of_le (hlow2.2 i hi x hx h0) hu.size⟩ (hT.below hu))
    clear hA hI hlow hT lowU hall hA2 hI2 hlow2 hr hb0 hL hC eS eE
    generalize bs (streamT d n B r k F (L 0)) = R at *
    go_enter Tryz.func11, Tryz.ntmps11
    go_wp2_with (first
      | (go_at_call 33; refine (HCK.out _ ?_).mono ?_; exact HB0.out; rintro e u1 ⟨rfl, hb⟩; obtain ⟨hc1, hf1⟩ := bcell hb; have hs1 : w.heap.size < u1.heap.size := by {have := hb.size; simp at this; omega}; have HB1 := Hid.mk' (HB0.out.trans (hb.mono (by simp))); clear hb hf1 HCK HB0)
      | (go_at_call 34; refine (HMK.out _ ?_).mono ?_; exact HB1.out; rintro e u3 ⟨rfl, hb⟩; have HB3 := Hid.mk' (HB1.out.trans (hb.mono (Nat.le_of_lt hs1))); clear hb HMK HB1))
    go_ret2
    exact ⟨rfl, HB3.out⟩
  · have hS := enc_no hok
    rw [hS]
    have hE := enc_e hok
    clear hA hI hlow hT lowU hb0 hL hC hS hok
    generalize encE c0 c1 c2 c3 c4 c5 c6 c7 n L F = E at *
    have tE : (E != 0) = true := by rcases hE with h | h <;> rw [h] <;> rfl
    have tE2 : ¬ E = 0 := by omega
    clear hE
    go_enter Tryz.func11, Tryz.ntmps11
    go_wp2_with (go_at_call 33; refine (HCK.out _ ?_).mono ?_; exact HB0.out; rintro e u1 ⟨rfl, hb⟩; have HB1 := Hid.mk' (HB0.out.trans (hb.mono (by simp))); clear hb HCK HB0)
    go_ret2
    exact ⟨rfl, HB1.out⟩
end Go.Proofs.YtlncjgnomhpjnabGreatDoor

/-
  What 'reelkeep' makes, and what the program answers to it.
-/
namespace Go.Proofs.YtlncjgnomhpjnabGreatDoor
open Go.RowKit Go.Deep
set_option linter.unusedVariables false
/-- the numbers of a right configuration -/
structure CfgK (ch d B c3 c4 c5 c6 c7 : Nat) : Prop where
  ch1 : 1 ≤ ch
  ch4 : ch ≤ 4
  d4 : 4 ≤ d
  d12 : d ≤ 12
  B1 : 1 ≤ B
  B32 : B ≤ 32
  c3b : c3 < 65536
  c4b : c4 < 256
  c51 : 1 ≤ c5
  c58 : c5 ≤ 8
  c61 : 1 ≤ c6
  c616 : c6 ≤ 16
  c71 : 1 ≤ c7
  c78 : c7 ≤ 8
theorem right_ok (c0 c1 c2 c3 c4 c5 c6 c7 : Int) (w : World) (h3 : -9223372036854775808 ≤ c3 ∧ c3 ≤ 9223372036854775807) (h4 : -9223372036854775808 ≤ c4 ∧ c4 ≤ 9223372036854775807) :
    Calls Tryz.prog 9 #[.agg #[.int .i64 c0, .int .i64 c1, .int .i64 c2, .int .i64 c3, .int .i64 c4, .int .i64 c5, .int .i64 c6, .int .i64 c7]] w fun e w' => ∃ ch d B c3 c4 c5 c6 c7 : Nat, e = .returned (.agg #[.int .i64 ch, .int .i64 d, .int .i64 B, .int .i64 c3, .int .i64 c4, .int .i64 c5, .int .i64 c6, .int .i64 c7]) ∧ CfgK ch d B c3 c4 c5 c6 c7 ∧ Below w.heap.size w w' := by
  refine (right_keep c0 c1 c2 c3 c4 c5 c6 c7 w h3 h4).mono ?_
  rintro e w' ⟨rfl, hb⟩
  have l0 := pickV_lt (wr64 (c0 - 1)) 4 (by omega)
  have l1 := pickV_lt (wr64 (c1 - 4)) 9 (by omega)
  have l2 := pickV_lt (wr64 (c2 - 1)) 32 (by omega)
  have l3 := pickV_lt c3 65536 (by omega)
  have l4 := pickV_lt c4 256 (by omega)
  have l5 := pickV_lt (wr64 (c5 - 1)) 8 (by omega)
  have l6 := pickV_lt (wr64 (c6 - 1)) 16 (by omega)
  have l7 := pickV_lt (wr64 (c7 - 1)) 8 (by omega)
  refine ⟨1 + pickV (wr64 (c0 - 1)) 4, 4 + pickV (wr64 (c1 - 4)) 9, 1 + pickV (wr64 (c2 - 1)) 32, pickV c3 65536, pickV c4 256, 1 + pickV (wr64 (c5 - 1)) 8, 1 + pickV (wr64 (c6 - 1)) 16, 1 + pickV (wr64 (c7 - 1)) 8, ?_, ⟨by omega, by omega, by omega, by omega, by omega, by omega, l3, l4, by omega, by omega, by omega, by omega, by omega, by omega⟩, hb⟩
  simp
/-- a sound that was made, and its configuration -/
theorem kp_of {ch d B c3 c4 c5 c6 c7 S n : Nat} {L : Nat → Nat} {F G : Nat → Nat → Int} (h : CfgK ch d B c3 c4 c5 c6 c7) (hS : S ≤ 300) (hG : ∀ i, i < ch → ∀ j, j < S → G i j = sndF d n L F i j) : KP d ch B c3 c4 S G :=
  ⟨h.d4, h.d12, h.ch1, h.ch4, h.B1, h.B32, h.c3b, h.c4b, hS, fun i hi j hj => by rw [hG i hi j hj]; exact sndF_fits _ _ _ _ _ _⟩
theorem enc_keep {base ch d B c3 c4 c5 c6 c7 S : Nat} {xv : Value} {gs : Nat → Nat} {G : Nat → Nat → Int} (u : World) (h : CfgK ch d B c3 c4 c5 c6 c7) (hk : KP d ch B c3 c4 S G) (hx : AccI base u xv S ch gs G) (hT : TabsF u) :
    Calls Tryz.prog 11 #[.agg #[.int .i64 ch, .int .i64 d, .int .i64 B, .int .i64 c3, .int .i64 c4, .int .i64 c5, .int .i64 c6, .int .i64 c7], xv] u fun e u' => e = .returned (.tuple #[.string (bs (streamT d ch B c3 c4 G S)), .int .i64 0]) ∧ Below u.heap.size u u' := by
  obtain ⟨g, c, rfl, h1, h2, h3⟩ := hx.open h.ch1
  obtain ⟨q1, q2, q3⟩ := hx.lists h3 h2
  have ha := h.ch1
  have hb := h.ch4
  have hc := hk.S3
  have b1 := h.d4
  have b2 := h.d12
  have b3 := h.B1
  have b4 := h.B32
  have b5 := h.c3b
  have b6 := h.c4b
  have b7 := h.c51
  have b8 := h.c58
  have b9 := h.c61
  have b10 := h.c616
  have b11 := h.c71
  have b12 := h.c78
  have hok : encOk ch d B c3 c4 c5 c6 c7 ch (fun _ => S) G := by
    refine ⟨?_, rfl, ?_, fun i hi => ⟨rfl, fun j hj => ?_⟩⟩
    · simp only [rightB, Bool.and_eq_true, within_iff]
      omega
    · show within (S : Int) 0 300 = true
      rw [within_iff]; omega
    · rw [Int.toNat_natCast]; exact hk.fit i hi j hj
  have hE := reelEncode_any ch d B c3 c4 c5 c6 c7 _ ch c _ (fun _ => S) (fun _ => S) G u (by omega) (fun i hi => by omega) (fun i hi => Nat.le_refl _) q1 q2 q3 hT
  rw [(enc_yes hok).1, (enc_yes hok).2] at hE
  simp only [Int.toNat_natCast] at hE
  exact hE
end Go.Proofs.YtlncjgnomhpjnabGreatDoor

/-
  A stream in which one byte is another.
-/
namespace Go.Proofs.YtlncjgnomhpjnabGreatDoor
open Go.RowKit Go.Deep
set_option linter.unusedVariables false
theorem piece_set {T : List UInt8} {i a b : Nat} {v : UInt8} (h : b ≤ i) : pieceT (T.set i v) a b = pieceT T a b := by
  unfold pieceT
  refine List.ext_getElem? fun j => ?_
  by_cases hj : j < b - a
  · rw [List.getElem?_take_of_lt hj, List.getElem?_take_of_lt hj, List.getElem?_drop, List.getElem?_drop, List.getElem?_set_ne (by omega)]
  · rw [List.getElem?_eq_none (by rw [List.length_take]; omega), List.getElem?_eq_none (by rw [List.length_take]; omega)]
theorem fld_set {T : List UInt8} {i a b : Nat} {v : UInt8} (h : b ≤ i) : fld (T.set i v) a b = fld T a b := by
  unfold fld
  rw [piece_set h]
/-- what stands ahead of a byte is not touched -/
theorem set_np {T : List UInt8} {i : Nat} {v : UInt8} (h : 20 ≤ i) : dSz (T.set i v) = dSz T := by
  unfold dSz dNp dSa dBl dSe
  rw [fld_set (by omega), fld_set (by omega), fld_set (by omega)]
theorem set_hd {T : List UInt8} {i : Nat} {v : UInt8} (h : HdP T) (hi : dSz T ≤ i) : HdP (T.set i v) ∧ dWh (T.set i v) = dWh T ∧ dCh (T.set i v) = dCh T ∧ dDe (T.set i v) = dDe T ∧ dBl (T.set i v) = dBl T ∧ dRa (T.set i v) = dRa T ∧ dSa (T.set i v) = dSa T ∧ dSe (T.set i v) = dSe T ∧ dSz (T.set i v) = dSz T := by
  have hsz : dSz T = 22 + 2 * dNp T := rfl
  have e0 : dSz (T.set i v) = dSz T := set_np (by omega)
  have e0' : dNp (T.set i v) = dNp T := by
    have : dSz (T.set i v) = 22 + 2 * dNp (T.set i v) := rfl
    omega
  have e1 : dWh (T.set i v) = dWh T := fld_set (by omega)
  have e2 : dCh (T.set i v) = dCh T := fld_set (by omega)
  have e3 : dDe (T.set i v) = dDe T := fld_set (by omega)
  have e4 : dBl (T.set i v) = dBl T := fld_set (by omega)
  have e5 : dRa (T.set i v) = dRa T := fld_set (by omega)
  have e6 : dSa (T.set i v) = dSa T := fld_set (by omega)
  have e7 : dSe (T.set i v) = dSe T := fld_set (by omega)
  have e8 : dLe (T.set i v) = dLe T := fld_set (by omega)
  have e9 : dMo (T.set i v) = dMo T := fld_set (by omega)
  have e10 : dSu (T.set i v) = dSu T := fld_set (by omega)
  have e11 : dPts (T.set i v) = dPts T := by
    unfold dPts
    rw [e0']
    refine List.map_congr_left fun k hk => ?_
    rw [List.mem_range] at hk
    exact fld_set (by omega)
  have e12 : dTx (T.set i v) = dTx T := by
    unfold dTx
    rw [e1, e2, e3, e4, e5, e6, e7, e8, e9, e10, e11]
  have e13 : (T.set i v).take (dSz T) = T.take (dSz T) := by
    rw [List.take_set, List.set_eq_of_length_le (by rw [List.length_take]; omega)]
  obtain ⟨h1, h2, h3, h4, h5, h6⟩ := h
  refine ⟨⟨by rw [List.length_set]; exact h1, by rw [e1]; exact h2, by rw [e2, e3, e4, e5, e6, e7]; exact h3, by rw [e0, List.length_set]; exact h4, by rw [e12, e0, e13]; exact h5, by rw [e1, e8, e9, e10, e11]; exact h6⟩, e1, e2, e3, e4, e5, e6, e7, e0⟩
end Go.Proofs.YtlncjgnomhpjnabGreatDoor

