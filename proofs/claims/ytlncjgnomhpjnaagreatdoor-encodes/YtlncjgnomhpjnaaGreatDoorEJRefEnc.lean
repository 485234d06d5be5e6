import Derived.Test.YtlncjgnomhpjnaaGreatDoorEKRefStream
import Derived.Test.YtlncjgnomhpjnaaGreatDoorEKCrcFast
import Derived.Test.YtlncjgnomhpjnaaGreatDoorEJLent
import Derived.Test.YtlncjgnomhpjnaaGreatDoorRows
import Derived.Test.YtlncjgnomhpjnaaGreatDoorEKLaidTwo
/-
  reelref.Check, reelref.Encode.
-/
namespace Go.Proofs.YtlncjgnomhpjnaaGreatDoor
open Go.RowKit Go.Deep
set_option linter.unusedVariables false

set_option maxHeartbeats 1000000 in
theorem rCheck_any (c0 c1 c2 c3 c4 c5 c6 c7 : Int) (a : Option Addr) (n cap : Nat) (A : Nat → Option Addr) (L C : Nat → Nat) (F : Nat → Nat → Int) (w : World) (hn : n ≤ 17592186044416) (hL : ∀ i, i < n → L i ≤ 17592186044416)
    (hA : ListsAt w a n A L C) (hI : ∀ i, i < n → IntsAt w (A i) (L i) (F i)) (hlow : Low w.heap.size a n A L) :
    Calls Tryz.prog 87 #[.agg #[.int .i64 c0, .int .i64 c1, .int .i64 c2, .int .i64 c3, .int .i64 c4, .int .i64 c5, .int .i64 c6, .int .i64 c7], .slice a n cap] w fun e w' =>
      e = .returned (.int .i64 (encE c0 c1 c2 c3 c4 c5 c6 c7 n L F)) ∧ Below w.heap.size w w' := by
  have hb0 : Below w.heap.size w (w.alloc (.cells #[.int .i64 c0, .int .i64 c1, .int .i64 c2, .int .i64 c3, .int .i64 c4, .int .i64 c5, .int .i64 c6, .int .i64 c7] 23)) := (Below.refl _ _).alloc (Nat.le_refl _) _
  have HB0 := Hid.mk' hb0
  have HRI := Hid.mk' (fun u => right_any c0 c1 c2 c3 c4 c5 c6 c7 u)
  clear hb0
  unfold encE
  by_cases hr : rightB c0 c1 c2 c3 c4 c5 c6 c7 = true
  · rw [if_pos hr]
    have HR := Hid.mk' hr
    obtain ⟨hc0, hc4, hc2, d, rfl, h1, h2⟩ := rightB_d hr
    have lowU : ∀ u, Below w.heap.size w u → Low u.heap.size a n A L := fun u hu => ⟨fun x hx h0 => Nat.lt_of_lt_of_le (hlow.1 x hx h0) hu.size, fun i hi x hx h0 => Nat.lt_of_lt_of_le (hlow.2 i hi x hx h0) hu.size⟩
    have HEV := Hid.mk' (fun (u : World) (hu : Below w.heap.size w u) => even_any 0 300 c0 c2 c3 c4 c5 c6 c7 d a n cap A L C F u hc0 (by omega) (by omega) hn hL (hA.below hu hlow.1) (fun i hi => (hI i hi).below hu (hlow.2 i hi)) (lowU u hu))
    rw [Int.toNat_natCast]
    clear hA hI hlow hL lowU hr
    by_cases hs : ChanP c0 d n 0 300 L F
    · rw [if_pos hs]
      have HS := Hid.mk' hs
      clear hs
      go_enter Tryz.func87, Tryz.ntmps87
      go_wp2_with (first
        | (go_at_call 69; refine (HRI.out _).mono ?_; rintro e u1 ⟨he, hb⟩; have he := he.true_of HR.out; subst he; obtain ⟨hc1, hf1⟩ := bcell hb; have hs1 : w.heap.size < u1.heap.size := by {have := hb.size; simp at this; omega}; have HB1 := Hid.mk' (HB0.out.trans (hb.mono (by simp))); clear hb hf1 HRI HB0)
        | (go_at_call 70; refine (HEV.out _ ?_).mono ?_; exact HB1.out; rintro e u2 ⟨he, hb⟩; have he := he.true_of HS.out; subst he; have HB2 := Hid.mk' (HB1.out.trans (hb.mono HB1.out.size)); clear hb HEV HB1))
      go_ret
      exact ⟨rfl, HB2.out⟩
    · rw [if_neg hs]
      have HS := Hid.mk' hs
      clear hs
      go_enter Tryz.func87, Tryz.ntmps87
      go_wp2_with (first
        | (go_at_call 69; refine (HRI.out _).mono ?_; rintro e u1 ⟨he, hb⟩; have he := he.true_of HR.out; subst he; obtain ⟨hc1, hf1⟩ := bcell hb; have hs1 : w.heap.size < u1.heap.size := by {have := hb.size; simp at this; omega}; have HB1 := Hid.mk' (HB0.out.trans (hb.mono (by simp))); clear hb hf1 HRI HB0)
        | (go_at_call 70; refine (HEV.out _ ?_).mono ?_; exact HB1.out; rintro e u2 ⟨he, hb⟩; have he := he.false_of HS.out; subst he; have HB2 := Hid.mk' (HB1.out.trans (hb.mono HB1.out.size)); clear hb HEV HB1))
      go_ret
      exact ⟨rfl, HB2.out⟩
  · rw [if_neg hr]
    have HR := Hid.mk' hr
    clear hr hA hI hlow hL
    go_enter Tryz.func87, Tryz.ntmps87
    go_wp2_with (go_at_call 69; refine (HRI.out _).mono ?_; rintro e u1 ⟨he, hb⟩; have he := he.false_of HR.out; subst he; have HB1 := Hid.mk' (HB0.out.trans (hb.mono (by simp))); clear hb HRI HB0)
    go_ret
    exact ⟨rfl, HB1.out⟩

set_option maxHeartbeats 2000000 in
theorem rEncode_any (c0 c1 c2 c3 c4 c5 c6 c7 : Int) (a : Option Addr) (n cap : Nat) (A : Nat → Option Addr) (L C : Nat → Nat) (F : Nat → Nat → Int) (w : World) (hn : n ≤ 17592186044416) (hL : ∀ i, i < n → L i ≤ 17592186044416) (hC : ∀ i, i < n → L i ≤ C i)
    (hA : ListsAt w a n A L C) (hI : ∀ i, i < n → IntsAt w (A i) (L i) (F i)) (hlow : Low w.heap.size a n A L) (hT : TabAt w 3) (hTl : 3 < w.heap.size) :
    Calls Tryz.prog 50 #[.agg #[.int .i64 c0, .int .i64 c1, .int .i64 c2, .int .i64 c3, .int .i64 c4, .int .i64 c5, .int .i64 c6, .int .i64 c7], .slice a n cap] w fun e w' =>
      e = .returned (.tuple #[.string (encS c0 c1 c2 c3 c4 c5 c6 c7 n L F), .int .i64 (encE c0 c1 c2 c3 c4 c5 c6 c7 n L F)]) ∧ Below w.heap.size w w' := by
  have hb0 : Below w.heap.size w (w.alloc (.cells #[.int .i64 c0, .int .i64 c1, .int .i64 c2, .int .i64 c3, .int .i64 c4, .int .i64 c5, .int .i64 c6, .int .i64 c7] 23)) := (Below.refl _ _).alloc (Nat.le_refl _) _
  have HB0 := Hid.mk' hb0
  have lowU : ∀ u, Below w.heap.size w u → Low u.heap.size a n A L := fun u hu => ⟨fun x hx h0 => Nat.lt_of_lt_of_le (hlow.1 x hx h0) hu.size, fun i hi x hx h0 => Nat.lt_of_lt_of_le (hlow.2 i hi x hx h0) hu.size⟩
  have HCK := Hid.mk' (fun (u : World) (hu : Below w.heap.size w u) => rCheck_any c0 c1 c2 c3 c4 c5 c6 c7 a n cap A L C F u hn hL (hA.below hu hlow.1) (fun i hi => (hI i hi).below hu (hlow.2 i hi)) (lowU u hu))
  by_cases hok : encOk c0 c1 c2 c3 c4 c5 c6 c7 n L F
  · obtain ⟨eS, eE⟩ := enc_yes hok
    rw [eE] at HCK
    rw [eS, eE]
    obtain ⟨hr, hs⟩ := hok
    obtain ⟨hc0, hc4, hc2, d, rfl, h1, h2⟩ := rightB_d hr
    have hri : 0 ≤ c3 ∧ c3 ≤ 65535 ∧ 0 ≤ c4 ∧ c4 ≤ 255 := by
      rw [rightB_info] at hr
      simp [infoB, within_iff] at hr
      omega
    obtain ⟨hnc, hL0, hall⟩ := hs
    subst hnc
    rw [within_iff] at hL0
    obtain ⟨B, rfl⟩ : ∃ B : Nat, c2 = (B : Int) := ⟨c2.toNat, by omega⟩
    obtain ⟨r, rfl⟩ : ∃ r : Nat, c3 = (r : Int) := ⟨c3.toNat, by omega⟩
    obtain ⟨k, rfl⟩ : ∃ k : Nat, c4 = (k : Int) := ⟨c4.toNat, by omega⟩
    simp only [Int.toNat_natCast] at *
    have hA2 : ListsAt w a n A (fun _ => L 0) C := fun i hi => by
      obtain ⟨x, hx, hc⟩ := hA i hi
      rw [(hall i hi).1] at hc
      exact ⟨x, hx, hc⟩
    have hI2 : ∀ i, i < n → IntsAt w (A i) (L 0) (F i) := fun i hi => by have := hI i hi; rw [(hall i hi).1] at this; exact this
    have hlow2 : Low w.heap.size a n A (fun _ => L 0) := ⟨hlow.1, fun i hi x hx h0 => hlow.2 i hi x hx (by rw [(hall i hi).1]; exact h0)⟩
    have hC2 : ∀ i, i < n → L 0 ≤ C i := fun i hi => by have := hC i hi; rw [(hall i hi).1] at this; exact this
    have hf2 : ∀ i, i < n → ∀ j, j < L 0 → fitsB d (F i j) = true := fun i hi j hj => (hall i hi).2 j (by rw [(hall i hi).1]; exact hj)
    have lowV : ∀ u, Below w.heap.size w u → Low u.heap.size a n A (fun _ => L 0) := fun u hu => ⟨fun x hx h0 => Nat.lt_of_lt_of_le (hlow2.1 x hx h0) hu.size, fun i hi x hx h0 => Nat.lt_of_lt_of_le (hlow2.2 i hi x hx h0) hu.size⟩
    have HAF := Hid.mk' (fun (u : World) (hu : Below w.heap.size w u) => allFrames_any r k c5 c6 c7 d B a n cap A (L 0) C F u (by omega) h2 (by omega) (by omega) (by omega) (by omega) (by omega) hf2 (hA2.below hu hlow2.1) hC2 (fun i hi => (hI2 i hi).below hu (hlow2.2 i hi)) (lowV u hu) (fun r c hr hc => (hu.cell (p := ⟨3, 4 * r + c, none⟩) hTl).trans (hT r c hr hc)) (Nat.lt_of_lt_of_le hTl hu.size))
    have HST := Hid.mk' (fun (u : World) (hu : Below w.heap.size w u) (fv : Value) (base : Nat) hfv => rstream_any c5 c6 c7 d B r k a n cap A (L 0) C F fv u (by omega) h2 (by omega) (by omega) (by omega) (by omega) (by omega) (by omega) (by omega) hf2 (hA2.below hu hlow2.1) (fun i hi => (hI2 i hi).below hu (hlow2.2 i hi)) (lowV u hu) base hfv)
    clear hA hI hlow hT lowU hall hA2 hI2 hlow2 hr hb0 hL hC eS eE hC2 hf2 lowV
    generalize bs (streamT d n B r k F (L 0)) = R at *
    go_enter Tryz.func50, Tryz.ntmps50
    go_wp2_with (first
      | (go_at_call 87; refine (HCK.out _ ?_).mono ?_; exact HB0.out; rintro e u1 ⟨rfl, hb⟩; obtain ⟨hc1, hf1⟩ := bcell hb; have hs1 : w.heap.size < u1.heap.size := by {have := hb.size; simp at this; omega}; have HB1 := Hid.mk' (HB0.out.trans (hb.mono (by simp))); clear hb hf1 HCK HB0)
      | (go_at_call 88; refine (HAF.out _ ?_).mono ?_; exact HB1.out; rintro e u2 ⟨fv, rfl, hown, hb⟩; obtain ⟨hc2', hf2⟩ := bcell hb; have hs2 : w.heap.size < u2.heap.size := Nat.lt_of_lt_of_le hs1 hb.size; have HOW := Hid.mk' hown; have HB2 := Hid.mk' (HB1.out.trans (hb.mono (Nat.le_of_lt hs1))); clear hb HAF HB1 hown hf2)
      | (go_at_call 89; refine (HST.out _ HB2.out _ _ HOW.out).mono ?_; rintro e u3 ⟨rfl, hb⟩; have HB3 := Hid.mk' (HB2.out.trans (hb.mono (Nat.le_of_lt hs2))); clear hb HST HB2))
    go_ret2
    exact ⟨rfl, HB3.out⟩
  · have hS := enc_no hok
    rw [hS]
    have hE := enc_e hok
    clear hA hI hlow hT lowU hb0 hL hC hS hok
    generalize encE c0 c1 c2 c3 c4 c5 c6 c7 n L F = E at *
    have tE : (E != 0) = true := by rcases hE with h | h <;> rw [h] <;> rfl
    have tE2 : ¬ E = 0 := by omega
    clear hE
    go_enter Tryz.func50, Tryz.ntmps50
    go_wp2_with (go_at_call 87; refine (HCK.out _ ?_).mono ?_; exact HB0.out; rintro e u1 ⟨rfl, hb⟩; have HB1 := Hid.mk' (HB0.out.trans (hb.mono (by simp))); clear hb HCK HB0)
    go_ret2
    exact ⟨rfl, HB1.out⟩
end Go.Proofs.YtlncjgnomhpjnaaGreatDoor

/-
  The law Encodes.
-/
namespace Go.Proofs.YtlncjgnomhpjnaaGreatDoor
open Go.RowKit Go.Deep
set_option linter.unusedVariables false

def none22 : List Int := [82, 76, 1, 1, 4, 1, 0, 0, 0, 0, 0, 0, 0, 0, 0, 0, 0, 0, 1, 158, 139, 66]
/-- what the law finds laid -/
structure Tabs7 (w : World) : Prop where
  prog : TabsF w
  ref : TabAt w 3
  refLt : 3 < w.heap.size
  non : ∀ i, i < 22 → w.cell? ⟨1, i, none⟩ = some (.int .u8 (none22.getD i 0))
  nonLt : 1 < w.heap.size
theorem Tabs7.below {w u : World} (h : Tabs7 w) (hb : Below w.heap.size w u) : Tabs7 u :=
  ⟨h.prog.below hb, fun r c hr hc => (hb.cell (p := ⟨3, 4 * r + c, none⟩) h.refLt).trans (h.ref r c hr hc), Nat.lt_of_lt_of_le h.refLt hb.size,
   fun i hi => (hb.cell (p := ⟨1, i, none⟩) h.nonLt).trans (h.non i hi), Nat.lt_of_lt_of_le h.nonLt hb.size⟩
theorem lentC_le {a : Option Addr} {n : Nat} (h : a = none → n = 0) : n ≤ lentC a n := by
  cases a with
  | none => have := h rfl; omega
  | some x => show n ≤ n + 8; omega
def exZ (_ _ : Nat) : Int := 0
def exSt : ByteArray := ⟨#[82, 76, 1, 1, 4, 1, 0, 0, 0, 0, 0, 0, 0, 0, 0, 0, 0, 0, 1, 158, 139, 66]⟩
theorem exE_ok : encOk 1 4 1 0 0 1 1 1 1 (fun _ => 0) exZ := ⟨by decide, rfl, by decide, fun i hi => ⟨rfl, fun j hj => absurd hj (Nat.not_lt_zero j)⟩⟩
theorem ex_stream : bs (streamT 4 1 1 0 0 exZ 0) = exSt := by
  unfold streamT headTx seal16 seal8
  rw [crc8_fast, crc16_fast]
  kernel_rfl
theorem ex_ES : encS 1 4 1 0 0 1 1 1 1 (fun _ => 0) exZ = exSt := (enc_yes exE_ok).1.trans ex_stream
theorem ex_EE : encE 1 4 1 0 0 1 1 1 1 (fun _ => 0) exZ = 0 := (enc_yes exE_ok).2

set_option maxHeartbeats 2000000 in
theorem encodes_some (c0 c1 c2 c3 c4 c5 c6 c7 : Int) (x : Addr) (n cap : Nat) (A : Nat → Option Addr) (L C : Nat → Nat) (F : Nat → Nat → Int) (w : World) (hn : n ≤ 5864062014805) (hL : ∀ i, i < n → L i ≤ 17592186044416)
    (hA : ListsAt w (some x) n A L C) (hI : ∀ i, i < n → IntsAt w (A i) (L i) (F i)) (hlow : Low w.heap.size (some x) n A L) (hnil : ∀ i, i < n → A i = none → L i = 0 ∧ C i = 0) (hroom : ∀ i, i < n → L i ≤ C i) (hT : Tabs7 w) :
    Calls Tryz.prog 22 #[.agg #[.int .i64 c0, .int .i64 c1, .int .i64 c2, .int .i64 c3, .int .i64 c4, .int .i64 c5, .int .i64 c6, .int .i64 c7], .slice (some x) n cap] w fun e w' =>
      e = .returned (.bool true) ∧ Below w.heap.size w w' := by
  obtain ⟨W0, hW0⟩ : ∃ W0, W0 = w.alloc (.cells #[.int .i64 c0, .int .i64 c1, .int .i64 c2, .int .i64 c3, .int .i64 c4, .int .i64 c5, .int .i64 c6, .int .i64 c7] 23) := ⟨_, rfl⟩
  have hb : Below w.heap.size w W0 := by rw [hW0]; exact (Below.refl _ _).alloc (Nat.le_refl _) _
  have hsz : W0.heap.size = w.heap.size + 1 := by rw [hW0]; simp
  have hA1 := hA.below hb hlow.1
  have hI1 : ∀ i, i < n → IntsAt W0 (A i) (L i) (F i) := fun i hi => (hI i hi).below hb (hlow.2 i hi)
  have hlow1 : Low W0.heap.size (some x) n A L := ⟨fun x hx h0 => Nat.lt_of_lt_of_le (hlow.1 x hx h0) hb.size, fun i hi x hx h0 => Nat.lt_of_lt_of_le (hlow.2 i hi x hx h0) hb.size⟩
  have hT0 := hT.below hb
  have HLEND := Hid.mk' (lendAll_some x n cap A L C F W0 hn hL hA1 hI1 hlow1 hnil)
  have HFR := Hid.mk' (fun (w2 : World) (NB : Nat → Nat) (hR : Rest W0 w2 n A L F NB 0) =>
    reelEncode_any c0 c1 c2 c3 c4 c5 c6 c7 (some ⟨W0.heap.size, 0, none⟩) n (n + 8) (fun i => lentA (A i) (NB i)) L (fun i => lentC (A i) (L i)) F w2 (by omega) hL (fun i hi => lentC_le (fun h => (hnil i hi h).1)) hR.lists (hR.ints fun i hi h => (hnil i hi h).1) hR.low (hT0.below hR.below).prog)
  have HRF := Hid.mk' (fun (w3 : World) (hb3 : Below W0.heap.size W0 w3) =>
    rEncode_any c0 c1 c2 c3 c4 c5 c6 c7 (some x) n cap A L C F w3 (by omega) hL hroom (hA1.below hb3 hlow1.1) (fun i hi => (hI1 i hi).below hb3 (hlow1.2 i hi)) ⟨fun x hx h0 => Nat.lt_of_lt_of_le (hlow1.1 x hx h0) hb3.size, fun i hi x hx h0 => Nat.lt_of_lt_of_le (hlow1.2 i hi x hx h0) hb3.size⟩ (hT0.below hb3).ref (hT0.below hb3).refLt)
  have HWHOLE := Hid.mk' (fun (w4 : World) (NB : Nat → Nat) (hR : Rest W0 w4 n A L F NB 0) => wholeAll_some x n cap A L C NB F W0 w4 hn hL hA1 hI1 hlow1 hnil hR)
  have HNM := Hid.mk' (fun u => lnum_any (encE c0 c1 c2 c3 c4 c5 c6 c7 n L F) u)
  have HB := Hid.mk' hb
  have HSZ := Hid.mk' hsz
  rw [hsz] at HFR HWHOLE
  rw [hW0] at HLEND HFR HRF HWHOLE HB HSZ
  clear hA1 hI1 hlow1 hA hI hL hlow hnil hT0 hT hb hsz hW0 W0
  generalize encS c0 c1 c2 c3 c4 c5 c6 c7 n L F = S at *
  generalize encE c0 c1 c2 c3 c4 c5 c6 c7 n L F = E at *
  go_enter Tryz.func22, Tryz.ntmps22
  go_wp2_with (first
    | (go_at_call 39; refine HLEND.out.mono ?_; rintro e w2 ⟨NB, rfl, hF⟩; have HR := Hid.mk' hF.rest; clear hF; have hbe := HR.out.below; have hs2 : w.heap.size < w2.heap.size := by {have := hbe.size; simp at this; omega}; obtain ⟨hcl, hfr⟩ := bcell hbe; clear hfr HLEND hbe)
    | (go_at_call 19; refine (HFR.out _ NB HR.out).mono ?_; rintro e w3 ⟨rfl, hb3⟩; have hs3 : w.heap.size < w3.heap.size := Nat.lt_of_lt_of_le hs2 hb3.size; obtain ⟨hcl3, hfr3⟩ := bcell hb3; have HR3 := Hid.mk' (HR.out.below' hb3); clear hfr3 hb3 HFR HR)
    | (go_at_call 50; refine (HRF.out _ ?_).mono ?_; exact HR3.out.below; rintro e w4 ⟨rfl, hb4⟩; have hs4 : w.heap.size < w4.heap.size := Nat.lt_of_lt_of_le hs3 hb4.size; have HR4 := Hid.mk' (HR3.out.below' hb4); clear hb4 HRF HR3)
    | (go_at_call 41; refine (HWHOLE.out _ NB HR4.out).mono ?_; rintro e w5 ⟨rfl, hb5⟩; have HB5 := Hid.mk' hb5; clear hb5 HWHOLE)
    | (go_at_call 13; refine (HNM.out _).mono ?_; rintro e w6 ⟨rfl, hw⟩; subst w6; clear HNM))
  go_ret
  exact ⟨ret_bool (by simp), HB.out.trans (HB5.out.mono (by simp))⟩

theorem reelEncode_none (c0 c1 c2 c3 c4 c5 c6 c7 : Int) (w : World) (hT : TabsF w) :
    Calls Tryz.prog 19 #[.agg #[.int .i64 c0, .int .i64 c1, .int .i64 c2, .int .i64 c3, .int .i64 c4, .int .i64 c5, .int .i64 c6, .int .i64 c7], .slice none 0 0] w fun e w' =>
      e = .returned (.tuple #[.string (encS c0 c1 c2 c3 c4 c5 c6 c7 0 (fun _ => 0) (fun _ _ => 0)), .int .i64 (encE c0 c1 c2 c3 c4 c5 c6 c7 0 (fun _ => 0) (fun _ _ => 0))]) ∧ Below w.heap.size w w' :=
  reelEncode_any c0 c1 c2 c3 c4 c5 c6 c7 none 0 0 (fun _ => none) (fun _ => 0) (fun _ => 0) (fun _ _ => 0) w (by omega) (fun i hi => absurd hi (by omega)) (fun i hi => absurd hi (by omega)) (lists_none w) (fun i hi => absurd hi (by omega)) ⟨fun x hx => (by cases hx), fun i hi => absurd hi (by omega)⟩ hT
theorem rEncode_none (c0 c1 c2 c3 c4 c5 c6 c7 : Int) (w : World) (hT : TabAt w 3) (hTl : 3 < w.heap.size) :
    Calls Tryz.prog 50 #[.agg #[.int .i64 c0, .int .i64 c1, .int .i64 c2, .int .i64 c3, .int .i64 c4, .int .i64 c5, .int .i64 c6, .int .i64 c7], .slice none 0 0] w fun e w' =>
      e = .returned (.tuple #[.string (encS c0 c1 c2 c3 c4 c5 c6 c7 0 (fun _ => 0) (fun _ _ => 0)), .int .i64 (encE c0 c1 c2 c3 c4 c5 c6 c7 0 (fun _ => 0) (fun _ _ => 0))]) ∧ Below w.heap.size w w' :=
  rEncode_any c0 c1 c2 c3 c4 c5 c6 c7 none 0 0 (fun _ => none) (fun _ => 0) (fun _ => 0) (fun _ _ => 0) w (by omega) (fun i hi => absurd hi (by omega)) (fun i hi => absurd hi (by omega)) (lists_none w) (fun i hi => absurd hi (by omega)) ⟨fun x hx => (by cases hx), fun i hi => absurd hi (by omega)⟩ hT hTl

set_option maxHeartbeats 2000000 in
theorem encodes_none (c0 c1 c2 c3 c4 c5 c6 c7 : Int) (w : World) (hT : Tabs7 w) :
    Calls Tryz.prog 22 #[.agg #[.int .i64 c0, .int .i64 c1, .int .i64 c2, .int .i64 c3, .int .i64 c4, .int .i64 c5, .int .i64 c6, .int .i64 c7], .slice none 0 0] w fun e w' =>
      e = .returned (.bool true) ∧ Below w.heap.size w w' := by
  have hb : Below w.heap.size w (w.alloc (.cells #[.int .i64 c0, .int .i64 c1, .int .i64 c2, .int .i64 c3, .int .i64 c4, .int .i64 c5, .int .i64 c6, .int .i64 c7] 23)) := (Below.refl _ _).alloc (Nat.le_refl _) _
  have HB := Hid.mk' hb
  have HFR := Hid.mk' (fun (u : World) (hu : Below w.heap.size w u) => reelEncode_none c0 c1 c2 c3 c4 c5 c6 c7 u (hT.below hu).prog)
  have HRF := Hid.mk' (fun (u : World) (hu : Below w.heap.size w u) => rEncode_none c0 c1 c2 c3 c4 c5 c6 c7 u (hT.below hu).ref (hT.below hu).refLt)
  have HNM := Hid.mk' (fun u => lnum_any (encE c0 c1 c2 c3 c4 c5 c6 c7 0 (fun _ => 0) (fun _ _ => 0)) u)
  clear hT hb
  generalize encS c0 c1 c2 c3 c4 c5 c6 c7 0 (fun _ => 0) (fun _ _ => 0) = S at *
  generalize encE c0 c1 c2 c3 c4 c5 c6 c7 0 (fun _ => 0) (fun _ _ => 0) = E at *
  go_enter Tryz.func22, Tryz.ntmps22
  go_wp2_with (first
    | (go_at_call 39; refine (lendAll_none _).mono ?_; rintro e w' ⟨rfl, rfl⟩)
    | (go_at_call 19; refine (HFR.out _ ?_).mono ?_; exact HB.out; rintro e w3 ⟨rfl, hb3⟩; have hs3 : w.heap.size < w3.heap.size := by {have := hb3.size; simp at this; omega}; obtain ⟨hcl3, hfr3⟩ := bcell hb3; have HB3 := Hid.mk' (HB.out.trans (hb3.mono (by simp))); clear hfr3 hb3 HFR)
    | (go_at_call 50; refine (HRF.out _ ?_).mono ?_; exact HB3.out; rintro e w4 ⟨rfl, hb4⟩; have HB4 := Hid.mk' (HB3.out.trans (hb4.mono HB3.out.size)); clear hb4 HRF)
    | (go_at_call 41; refine (wholeAll_none _ _ _).mono ?_; rintro e w' ⟨rfl, rfl⟩)
    | (go_at_call 13; refine (HNM.out _).mono ?_; rintro e w6 ⟨rfl, hw⟩; subst w6; clear HNM))
  go_ret
  exact ⟨ret_bool (by simp), HB4.out⟩

theorem encodes_any (c0 c1 c2 c3 c4 c5 c6 c7 : Int) (a : Option Addr) (n cap : Nat) (A : Nat → Option Addr) (L C : Nat → Nat) (F : Nat → Nat → Int) (w : World) (h : SoundIn w a n cap A L C F) (hT : Tabs7 w) :
    Calls Tryz.prog 22 #[.agg #[.int .i64 c0, .int .i64 c1, .int .i64 c2, .int .i64 c3, .int .i64 c4, .int .i64 c5, .int .i64 c6, .int .i64 c7], .slice a n cap] w fun e w' => e = .returned (.bool true) ∧ Below w.heap.size w w' := by
  cases a with
  | none => obtain ⟨rfl, rfl⟩ := h.nil rfl; exact encodes_none c0 c1 c2 c3 c4 c5 c6 c7 w hT
  | some x => exact encodes_some c0 c1 c2 c3 c4 c5 c6 c7 x n cap A L C F w h.hn h.hL h.hA h.hI h.low h.no h.room hT

/-- the twelve bytes while they are laid -/
def noneTo (k j : Nat) : Int := if j < k then none22.getD j 0 else 0
theorem none_bytes : ∀ j : Fin 22, (((fun i => UInt8.ofNat (none22.getD i 0).toNat) j.val : UInt8).toNat : Int) = none22.getD j.val 0 := by decide
theorem none_str : strOf (fun i => UInt8.ofNat (none22.getD i 0).toNat) 22 = exSt := by kernel_rfl

set_option maxHeartbeats 1000000 in
theorem empty_any (w : World) (hO : ∀ i, i < 22 → w.cell? ⟨1, i, none⟩ = some (.int .u8 (none22.getD i 0))) (hlt : 1 < w.heap.size) :
    Calls Tryz.prog 21 #[] w fun e w' => e = .returned (.string exSt) ∧ Below w.heap.size w w' := by
  have hmk := run_make_row' (P := Tryz.prog) 61 5 (.int .u8 0) 1 Tryz.underlying61 infoByte rfl .i64 .i64 22 (by omega) (by omega)
  have e22 : ((22 : Nat) : Int) = 22 := rfl
  rw [e22] at hmk
  have HO := Hid.mk' (fun (u : World) (hu : Below w.heap.size w u) i (hi : i < 22) => (hu.cell (p := ⟨1, i, none⟩) hlt).trans (hO i hi))
  have HCV := Hid.mk' (fun (u : World) h => run_rowString (P := Tryz.prog) u 61 9 5 w.heap.size 0 22 22 (fun i => UInt8.ofNat (none22.getD i 0).toNat) Tryz.underlying61 Tryz.underlying5 Tryz.underlying9 h)
  clear hO e22
  go_enter Tryz.func21, Tryz.ntmps21
  go_wp2
  clear hmk
  go_loopw [2] (fun i wr => ∃ k : Nat, k ≤ 22 ∧ i = .int .i64 k ∧ Hid (wr.rowIs w.heap.size 5 22 (fun j => .int .u8 (noneTo k j)) ∧ Below w.heap.size w wr)) (fun i _ => 22 - (intOf i).toNat)
  case atStart => exact ⟨0, Nat.zero_le _, rfl, (World.rowIs_made w (.int .u8 0) 22 5).congr fun i _ => by simp [noneTo], (Below.refl _ _).alloc (Nat.le_refl _) _⟩
  case round =>
    obtain ⟨k, hk, rfl, HR⟩ := hrel
    by_cases hl : k < 22
    · have hc1 := HR.out.1.cell hl
      have hf1 := HR.out.1.frozen k
      have hc2 := HO.out wr HR.out.2 k hl
      have HSET : Hid ((wr.setCell ⟨w.heap.size, k, none⟩ (.int .u8 (none22.getD k 0))).rowIs w.heap.size 5 22 (fun j => .int .u8 (noneTo (k + 1) j))) := (HR.out.1.set k _).congr fun j _ => by
        unfold noneTo
        by_cases e : j = k
        · rw [if_pos e, if_pos (by omega), e]
        · rw [if_neg e]
          by_cases e2 : j < k
          · rw [if_pos e2, if_pos (by omega)]
          · rw [if_neg e2, if_neg (by omega)]
      generalize none22.getD k 0 = V at *
      generalize noneTo k k = V0 at *
      go_wp2
      go_roundw
      case rel => exact ⟨k + 1, by omega, by go_num, HSET.out, HR.out.2.setCell (Nat.le_refl _) _⟩
      case measure => simp [intOf]; omega
    · have e : k = 22 := by omega
      subst e
      have hcv := HCV.out wr (fun i hi => by
        have := HR.out.1.cell (i := i) hi
        rw [Nat.zero_add, this]
        have h2 := none_bytes ⟨i, hi⟩
        simp only at h2
        rw [h2]
        unfold noneTo
        rw [if_pos hi])
      rw [none_str] at hcv
      clear HCV
      go_wp2
      go_ret
      exact ⟨rfl, HR.out.2⟩

theorem exE_lists (w2 : World) : ListsAt (w2.alloc (.cells #[.slice none 0 0] 29)) (some ⟨w2.heap.size, 0, none⟩) 1 (fun _ => none) (fun _ => 0) (fun _ => 0) := fun i hi => ⟨_, rfl, by
  have e : i = 0 := by omega
  subst e
  simp [Addr.add]⟩
theorem enc_ex (w2 : World) (hT : TabsF w2) :
    Calls Tryz.prog 19 #[.agg #[.int .i64 1, .int .i64 4, .int .i64 1, .int .i64 0, .int .i64 0, .int .i64 1, .int .i64 1, .int .i64 1], .slice (some ⟨w2.heap.size, 0, none⟩) 1 1] (w2.alloc (.cells #[.slice none 0 0] 29)) fun e w' => e = .returned (.tuple #[.string exSt, .int .i64 0]) ∧ Below w2.heap.size w2 w' := by
  have hB : Below w2.heap.size w2 (w2.alloc (.cells #[.slice none 0 0] 29)) := (Below.refl _ _).alloc (Nat.le_refl _) _
  have h := reelEncode_any 1 4 1 0 0 1 1 1 (some ⟨w2.heap.size, 0, none⟩) 1 1 (fun _ => none) (fun _ => 0) (fun _ => 0) exZ _ (by omega) (fun i hi => by omega) (fun i hi => Nat.le_refl _) (exE_lists w2) (fun i hi j hj => absurd hj (by omega)) ⟨fun x hx _ => by cases hx; simp, fun i hi x hx _ => by cases hx⟩ (hT.below hB)
  rw [ex_ES, ex_EE] at h
  exact h.mono fun e w' ⟨he, hb⟩ => ⟨he, hB.trans (hb.mono hB.size)⟩
theorem leastCfg_any (w : World) : Calls Tryz.prog 20 #[] w fun e w' => e = .returned (.agg #[.int .i64 1, .int .i64 4, .int .i64 1, .int .i64 0, .int .i64 0, .int .i64 1, .int .i64 1, .int .i64 1]) ∧ Below w.heap.size w w' := by
  go_enter Tryz.func20, Tryz.ntmps20
  go_wp2
  exact bodyPost_ret (v := .agg #[.int .i64 1, .int .i64 4, .int .i64 1, .int .i64 0, .int .i64 0, .int .i64 1, .int .i64 1, .int .i64 1]) (by simp [results, Tryz.results20, go_sem]) rfl ⟨rfl, (Below.refl _ _).alloc (Nat.le_refl _) _⟩

set_option maxHeartbeats 2000000 in
theorem encodesLaw (c0 c1 c2 c3 c4 c5 c6 c7 : Int) (a : Option Addr) (n cap : Nat) (A : Nat → Option Addr) (L C : Nat → Nat) (F : Nat → Nat → Int) (w : World) (h : SoundIn w a n cap A L C F) (hT : Tabs7 w) :
    Calls Tryz.prog 5 #[.agg #[.int .i64 c0, .int .i64 c1, .int .i64 c2, .int .i64 c3, .int .i64 c4, .int .i64 c5, .int .i64 c6, .int .i64 c7], .slice a n cap] w fun e w' => e = .returned (.bool true) ∧ Below w.heap.size w w' := by
  have hb : Below w.heap.size w (w.alloc (.cells #[.int .i64 c0, .int .i64 c1, .int .i64 c2, .int .i64 c3, .int .i64 c4, .int .i64 c5, .int .i64 c6, .int .i64 c7] 23)) := (Below.refl _ _).alloc (Nat.le_refl _) _
  have HB := Hid.mk' hb
  have HFX := Hid.mk' (fun (u : World) (hu : Below w.heap.size w u) => enc_ex u (hT.below hu).prog)
  have HTW := Hid.mk' (fun (u : World) (hu : Below w.heap.size w u) => empty_any u (hT.below hu).non (hT.below hu).nonLt)
  have HFS := Hid.mk' (fun (u : World) (hu : Below w.heap.size w u) => encodes_any c0 c1 c2 c3 c4 c5 c6 c7 a n cap A L C F u (h.below hu) (hT.below hu))
  have HNM := Hid.mk' (fun u => lnum_any 0 u)
  clear h hT hb
  generalize exSt = ES at *
  go_enter Tryz.func5, Tryz.ntmps5
  go_wp2_with (first
    | (go_at_call 20; refine (leastCfg_any _).mono ?_; rintro e w1 ⟨rfl, hb1⟩; obtain ⟨hcl1, hfr1⟩ := bcell hb1; have hs1 : w.heap.size < w1.heap.size := by {have := hb1.size; simp at this; omega}; have HB1 := Hid.mk' (HB.out.trans (hb1.mono (by simp))); clear hb1 hfr1)
    | (go_at_call 19; refine (HFX.out _ ?_).mono ?_; exact HB1.out; rintro e w2 ⟨rfl, hb2⟩; obtain ⟨hcl2, hfr2⟩ := bcell hb2; have hs2 : w.heap.size < w2.heap.size := Nat.lt_of_lt_of_le hs1 hb2.size; have HB2 := Hid.mk' (HB1.out.trans (hb2.mono HB1.out.size)); clear hb2 hfr2 HFX)
    | (go_at_call 21; refine (HTW.out _ ?_).mono ?_; exact HB2.out; rintro e w3 ⟨rfl, hb3⟩; obtain ⟨hcl3, hfr3⟩ := bcell hb3; have hs3 : w.heap.size < w3.heap.size := Nat.lt_of_lt_of_le hs2 hb3.size; have HB3 := Hid.mk' (HB2.out.trans (hb3.mono HB2.out.size)); clear hb3 hfr3 HTW)
    | (go_at_call 13; refine (HNM.out _).mono ?_; rintro e w6 ⟨rfl, hw⟩; subst w6; clear HNM)
    | (go_at_call 22; refine (HFS.out _ ?_).mono ?_; exact HB3.out; rintro e w4 ⟨rfl, hb4⟩; have HB4 := Hid.mk' (HB3.out.trans (hb4.mono HB3.out.size)); clear hb4 HFS))
  go_ret
  exact ⟨rfl, HB4.out⟩
end Go.Proofs.YtlncjgnomhpjnaaGreatDoor

/-
  The six tables among the laid variables of 'Encodes'.
-/
namespace Go.Proofs.YtlncjgnomhpjnaaGreatDoor
open Go Go.Lib
set_option linter.unusedVariables false

def z32 : List Int := [0, 1, 28, 2, 29, 14, 24, 3, 30, 22, 20, 15, 25, 17, 4, 8, 31, 27, 13, 23, 21, 19, 16, 7, 26, 12, 18, 6, 11, 5, 10, 9]
def z64 : List Int := [0, 1, 56, 2, 57, 49, 28, 3, 61, 58, 42, 50, 38, 29, 17, 4, 62, 47, 59, 36, 45, 43, 51, 22, 53, 39, 33, 30, 24, 18, 12, 5, 63, 55, 48, 27, 60, 41, 37, 16, 46, 35, 44, 21, 52, 32, 23, 11, 54, 26, 40, 15, 34, 20, 31, 10, 25, 14, 19, 9, 13, 8, 7, 6]
theorem z64_at : ∀ t : Fin 13, z64[285870213051353865 * 2 ^ t.val % 18446744073709551616 / 288230376151711744]? = some (t.val : Int) := by decide +kernel
theorem g32 : Tryz.prog.globalNamed "math/bits.deBruijn32tab" = some 5 := by kernel_rfl
theorem g32Type : (Tryz.prog.globals[5]?).map (·.type) = some 252 := by kernel_rfl
theorem g64 : Tryz.prog.globalNamed "math/bits.deBruijn64tab" = some 6 := by kernel_rfl
theorem g64Type : (Tryz.prog.globals[6]?).map (·.type) = some 253 := by kernel_rfl
theorem cells64 : Tryz.prog.cellsOf 253 = 64 := by kernel_rfl
theorem tab_lt4 {w : World} {g i : Nat} {v : Value} (h : w.cell? ⟨g, i, none⟩ = some v) : g < w.heap.size := by
  by_cases hg : g < w.heap.size
  · exact hg
  · have hn : w.heap[g]? = none := Array.getElem?_eq_none (by omega)
    simp [World.cell?, hn] at h

def pairRows : List (List Int) := [[0, 1], [0, 2], [2, 1], [3, 2]]
theorem gPairs : Tryz.prog.globalNamed "reel/frame.pairs" = some 2 := by kernel_rfl
theorem gPairsType : (Tryz.prog.globals[2]?).map (·.type) = some 140 := by kernel_rfl
theorem gNone : Tryz.prog.globalNamed "reel/reellaw.none22" = some 1 := by kernel_rfl
theorem gNoneType : (Tryz.prog.globals[1]?).map (·.type) = some 84 := by kernel_rfl
theorem cells42 : Tryz.prog.cellsOf 140 = 4 * 2 := by kernel_rfl
theorem cells2 : Tryz.prog.cellsOf 139 = 2 := by kernel_rfl
theorem cells22 : Tryz.prog.cellsOf 84 = 22 := by kernel_rfl
theorem pairRows_at (r c : Nat) (hr : r < 4) (hc : c < 2) : ∃ zs, pairRows[r]? = some zs ∧ zs[c]? = some (pairV r c) := by
  have h : ∀ r : Fin 4, ∀ c : Fin 2, (pairRows[r.val]?.bind fun zs => zs[c.val]?) = some (pairV r.val c.val) := by decide
  have := h ⟨r, hr⟩ ⟨c, hc⟩
  exact Option.bind_eq_some_iff.1 this

/-- what the row's list gives -/
theorem tables7 {W : World} (h : laidMetH Tryz.prog Rows.encodesRow.laid W) : Tabs7 W := by
  have h' : laidMet Tryz.prog [("math/bits.deBruijn32tab", tabData .u8 z32), ("math/bits.deBruijn64tab", tabData .u8 z64), ("reel/reelref.taken", .agg (tabRows.map (tabData .i64))), ("reel/subframe.fixedWeights", .agg (tabRows.map (tabData .i64))), ("reel/frame.pairs", .agg (pairRows.map (tabData .i64))), ("reel/reellaw.none22", tabData .u8 none22)] W := h
  obtain ⟨ps, ⟨g0, t0, cs0, fuel0, p0, q0, hg0, ht0, hvar0, hd0, ⟨gb, tb, csb, fuelb, pb, qb, hgb, htb, hvarb, hdb, ⟨g1, t1, cs1, fuel1, p1, q1, hg1, ht1, hvar1, hd1, ⟨g2, t2, cs2, fuel2, p2, q2, hg2, ht2, hvar2, hd2, ⟨g3, t3, cs3, fuel3, p3, q3, hg3, ht3, hvar3, hd3, ⟨g4, t4, cs4, fuel4, p4, q4, hg4, ht4, hvar4, hd4, _, _⟩, _⟩, _⟩, _⟩, _⟩, _⟩, _⟩ := h'
  obtain rfl := Option.some.inj (gPairs.symm.trans hg3)
  obtain rfl := Option.some.inj (gPairsType.symm.trans ht3)
  obtain rfl := Option.some.inj (gNone.symm.trans hg4)
  obtain rfl := Option.some.inj (gNoneType.symm.trans ht4)
  obtain rfl := Option.some.inj (gTaken.symm.trans hg1)
  obtain rfl := Option.some.inj (gTakenType.symm.trans ht1)
  obtain rfl := Option.some.inj (gFixed.symm.trans hg2)
  obtain rfl := Option.some.inj (gFixedType.symm.trans ht2)
  obtain rfl := Option.some.inj (g64.symm.trans hgb)
  obtain rfl := Option.some.inj (g64Type.symm.trans htb)
  have hT : TabAt W 3 := by
    intro r c hr hc
    obtain ⟨zs, hz1, hz2⟩ := tabRows_at r c hr hc
    have := cells_of_tab2 Tryz.underlying249 Tryz.underlying199 Tryz.underlying3 cells1 cells4 cells54 hd1 r zs hz1 c _ hc hz2
    have h2 := World.var?_cell gTaken hvar1 (r * 4 + c)
    rw [Nat.mul_comm 4 r, h2]
    simpa using this
  have hF : TabAt W 7 := by
    intro r c hr hc
    obtain ⟨zs, hz1, hz2⟩ := tabRows_at r c hr hc
    have := cells_of_tab2 Tryz.underlying249 Tryz.underlying199 Tryz.underlying3 cells1 cells4 cells54 hd2 r zs hz1 c _ hc hz2
    have h2 := World.var?_cell gFixed hvar2 (r * 4 + c)
    rw [Nat.mul_comm 4 r, h2]
    simpa using this
  have hZ : TzAt W 6 := by
    intro t ht
    have e := cells_of_tab Tryz.underlying253 Tryz.underlying5 cellsByte cells64 hdb
    have h2 := World.var?_cell g64 hvarb (285870213051353865 * 2 ^ t % 18446744073709551616 / 288230376151711744)
    rw [h2]
    have h3 := z64_at ⟨t, by omega⟩
    have h4 : csb.toList[285870213051353865 * 2 ^ t % 18446744073709551616 / 288230376151711744]? = some (.int .u8 (t : Int)) := by
      rw [e, List.getElem?_map, h3]; rfl
    simpa using h4
  have hP : PairsAt W := by
    intro r c hr hc
    obtain ⟨zs, hz1, hz2⟩ := pairRows_at r c hr hc
    have := cells_of_tab2 Tryz.underlying140 Tryz.underlying139 Tryz.underlying3 cells1 cells2 cells42 hd3 r zs hz1 c _ hc hz2
    have h2 := World.var?_cell gPairs hvar3 (r * 2 + c)
    rw [Nat.mul_comm 2 r, h2]
    simpa using this
  have hO : ∀ i, i < 22 → W.cell? ⟨1, i, none⟩ = some (.int .u8 (none22.getD i 0)) := by
    intro i hi
    have e := cells_of_tab Tryz.underlying84 Tryz.underlying5 cellsByte cells22 hd4
    have h2 := World.var?_cell gNone hvar4 i
    rw [h2]
    have h3 : ∀ i : Fin 22, none22[i.val]? = some (none22.getD i.val 0) := by decide
    have h4 : cs4.toList[i]? = some (.int .u8 (none22.getD i 0)) := by
      rw [e, List.getElem?_map, h3 ⟨i, hi⟩]; rfl
    simpa using h4
  exact ⟨⟨⟨hF, tab_lt4 (hF 0 0 (by omega) (by omega)), hZ, tab_lt4 (hZ 0 (by omega))⟩, hP, tab_lt4 (hP 0 0 (by omega) (by omega))⟩, hT, tab_lt4 (hT 0 0 (by omega) (by omega)), hO, tab_lt4 (hO 0 (by omega))⟩
end Go.Proofs.YtlncjgnomhpjnaaGreatDoor

