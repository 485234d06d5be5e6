import Derived.Test.YtlncjgnomhpjnaaGreatDoorJLent
import Derived.Test.YtlncjgnomhpjnaaGreatDoorKRefFrameB
import Derived.Test.YtlncjgnomhpjnaaGreatDoorKCrcFast
import Derived.Test.YtlncjgnomhpjnaaGreatDoorRows
/-
  'Frames', walked.
-/
namespace Go.Proofs.YtlncjgnomhpjnaaGreatDoor
open Go.RowKit Go.Deep
set_option linter.unusedVariables false

def one12 : List Int := [165, 0, 1, 0, 12, 0, 0, 25, 0, 16, 217, 212]
/-- all tables -/
structure Tabs6 (w : World) : Prop where
  prog : TabsF w
  ref : TabAt w 3
  refLt : 3 < w.heap.size
  one : ∀ i, i < 12 → w.cell? ⟨0, i, none⟩ = some (.int .u8 (one12.getD i 0))
  oneLt : 0 < w.heap.size
theorem Tabs6.below {w u : World} (h : Tabs6 w) (hb : Below w.heap.size w u) : Tabs6 u :=
  ⟨h.prog.below hb, fun r c hr hc => (hb.cell (p := ⟨3, 4 * r + c, none⟩) h.refLt).trans (h.ref r c hr hc), Nat.lt_of_lt_of_le h.refLt hb.size,
   fun i hi => (hb.cell (p := ⟨0, i, none⟩) h.oneLt).trans (h.one i hi), Nat.lt_of_lt_of_le h.oneLt hb.size⟩

set_option maxHeartbeats 2000000 in
theorem frames_some (c0 c1 c2 c3 c4 c5 c6 c7 number : Int) (x : Addr) (n cap : Nat) (A : Nat → Option Addr) (L C : Nat → Nat) (F : Nat → Nat → Int) (w : World) (hn : n ≤ 5864062014805) (hL : ∀ i, i < n → L i ≤ 17592186044416)
    (hA : ListsAt w (some x) n A L C) (hI : ∀ i, i < n → IntsAt w (A i) (L i) (F i)) (hlow : Low w.heap.size (some x) n A L) (hnil : ∀ i, i < n → A i = none → L i = 0 ∧ C i = 0) (hT : Tabs6 w) :
    Calls Tryz.prog 14 #[.agg #[.int .i64 c0, .int .i64 c1, .int .i64 c2, .int .i64 c3, .int .i64 c4, .int .i64 c5, .int .i64 c6, .int .i64 c7], .int .i64 number, .slice (some x) n cap] w fun e w' =>
      e = .returned (.bool true) ∧ Below w.heap.size w w' := by
  obtain ⟨W0, hW0⟩ : ∃ W0, W0 = w.alloc (.cells #[.int .i64 c0, .int .i64 c1, .int .i64 c2, .int .i64 c3, .int .i64 c4, .int .i64 c5, .int .i64 c6, .int .i64 c7] 23) := ⟨_, rfl⟩
  have hb : Below w.heap.size w W0 := by rw [hW0]; exact (Below.refl _ _).alloc (Nat.le_refl _) _
  have hsz : W0.heap.size = w.heap.size + 1 := by rw [hW0]; simp
  have hA1 := hA.below hb hlow.1
  have hI1 : ∀ i, i < n → IntsAt W0 (A i) (L i) (F i) := fun i hi => (hI i hi).below hb (hlow.2 i hi)
  have hlow1 : Low W0.heap.size (some x) n A L := ⟨fun x hx h0 => Nat.lt_of_lt_of_le (hlow.1 x hx h0) hb.size, fun i hi x hx h0 => Nat.lt_of_lt_of_le (hlow.2 i hi x hx h0) hb.size⟩
  have hT0 := hT.below hb
  have HLEND := Hid.mk' (lendAll_some x n cap A L C F W0 hn hL hA1 hI1 hlow1 hnil)
  have HFR := Hid.mk' (fun (w2 : World) (NB : Nat → Nat) (hR : Rest W0 w2 n A L F NB 0) =>
    reelFrame_any c0 c1 c2 c3 c4 c5 c6 c7 number (some ⟨W0.heap.size, 0, none⟩) n (n + 8) (fun i => lentA (A i) (NB i)) L (fun i => lentC (A i) (L i)) F w2 (by omega) hL hR.lists (hR.ints fun i hi h => (hnil i hi h).1) hR.low (hT0.below hR.below).prog)
  have HRF := Hid.mk' (fun (w3 : World) (hb3 : Below W0.heap.size W0 w3) =>
    rFrame_any c0 c1 c2 c3 c4 c5 c6 c7 number (some x) n cap A L C F w3 (by omega) hL (hA1.below hb3 hlow1.1) (fun i hi => (hI1 i hi).below hb3 (hlow1.2 i hi)) ⟨fun x hx h0 => Nat.lt_of_lt_of_le (hlow1.1 x hx h0) hb3.size, fun i hi x hx h0 => Nat.lt_of_lt_of_le (hlow1.2 i hi x hx h0) hb3.size⟩ (hT0.below hb3).ref (hT0.below hb3).refLt)
  have HWHOLE := Hid.mk' (fun (w4 : World) (NB : Nat → Nat) (hR : Rest W0 w4 n A L F NB 0) => wholeAll_some x n cap A L C NB F W0 w4 hn hL hA1 hI1 hlow1 hnil hR)
  have HNM := Hid.mk' (fun u => lnum_any (frameE c0 c1 c2 c3 c4 c5 c6 c7 number n L F) u)
  have HB := Hid.mk' hb
  have HSZ := Hid.mk' hsz
  rw [hsz] at HFR HWHOLE
  rw [hW0] at HLEND HFR HRF HWHOLE HB HSZ
  clear hA1 hI1 hlow1 hA hI hL hlow hnil hT0 hT hb hsz hW0 W0
  generalize frameS c0 c1 c2 c3 c4 c5 c6 c7 number n L F = S at *
  generalize frameE c0 c1 c2 c3 c4 c5 c6 c7 number n L F = E at *
  go_enter Tryz.func14, Tryz.ntmps14
  go_wp2_with (first
    | (go_at_call 39; refine HLEND.out.mono ?_; rintro e w2 ⟨NB, rfl, hF⟩; have HR := Hid.mk' hF.rest; clear hF; have hbe := HR.out.below; have hs2 : w.heap.size < w2.heap.size := by {have := hbe.size; simp at this; omega}; obtain ⟨hcl, hfr⟩ := bcell hbe; clear hfr HLEND hbe)
    | (go_at_call 10; refine (HFR.out _ NB HR.out).mono ?_; rintro e w3 ⟨rfl, hb3⟩; have hs3 : w.heap.size < w3.heap.size := Nat.lt_of_lt_of_le hs2 hb3.size; obtain ⟨hcl3, hfr3⟩ := bcell hb3; have HR3 := Hid.mk' (HR.out.below' hb3); clear hfr3 hb3 HFR HR)
    | (go_at_call 40; refine (HRF.out _ ?_).mono ?_; exact HR3.out.below; rintro e w4 ⟨rfl, hb4⟩; have hs4 : w.heap.size < w4.heap.size := Nat.lt_of_lt_of_le hs3 hb4.size; have HR4 := Hid.mk' (HR3.out.below' hb4); clear hb4 HRF HR3)
    | (go_at_call 41; refine (HWHOLE.out _ NB HR4.out).mono ?_; rintro e w5 ⟨rfl, hb5⟩; have HB5 := Hid.mk' hb5; clear hb5 HWHOLE)
    | (go_at_call 13; refine (HNM.out _).mono ?_; rintro e w6 ⟨rfl, hw⟩; subst w6; clear HNM))
  go_ret
  exact ⟨ret_bool (by simp), HB.out.trans (HB5.out.mono (by simp))⟩

theorem reelFrame_none (c0 c1 c2 c3 c4 c5 c6 c7 number : Int) (w : World) (hT : TabsF w) :
    Calls Tryz.prog 10 #[.agg #[.int .i64 c0, .int .i64 c1, .int .i64 c2, .int .i64 c3, .int .i64 c4, .int .i64 c5, .int .i64 c6, .int .i64 c7], .int .i64 number, .slice none 0 0] w fun e w' =>
      e = .returned (.tuple #[.string (frameS c0 c1 c2 c3 c4 c5 c6 c7 number 0 (fun _ => 0) (fun _ _ => 0)), .int .i64 (frameE c0 c1 c2 c3 c4 c5 c6 c7 number 0 (fun _ => 0) (fun _ _ => 0))]) ∧ Below w.heap.size w w' :=
  reelFrame_any c0 c1 c2 c3 c4 c5 c6 c7 number none 0 0 (fun _ => none) (fun _ => 0) (fun _ => 0) (fun _ _ => 0) w (by omega) (fun i hi => absurd hi (by omega)) (lists_none w) (fun i hi => absurd hi (by omega)) ⟨fun x hx => (by cases hx), fun i hi => absurd hi (by omega)⟩ hT
theorem rFrame_none (c0 c1 c2 c3 c4 c5 c6 c7 number : Int) (w : World) (hT : TabAt w 3) (hTl : 3 < w.heap.size) :
    Calls Tryz.prog 40 #[.agg #[.int .i64 c0, .int .i64 c1, .int .i64 c2, .int .i64 c3, .int .i64 c4, .int .i64 c5, .int .i64 c6, .int .i64 c7], .int .i64 number, .slice none 0 0] w fun e w' =>
      e = .returned (.tuple #[.string (frameS c0 c1 c2 c3 c4 c5 c6 c7 number 0 (fun _ => 0) (fun _ _ => 0)), .int .i64 (frameE c0 c1 c2 c3 c4 c5 c6 c7 number 0 (fun _ => 0) (fun _ _ => 0))]) ∧ Below w.heap.size w w' :=
  rFrame_any c0 c1 c2 c3 c4 c5 c6 c7 number none 0 0 (fun _ => none) (fun _ => 0) (fun _ => 0) (fun _ _ => 0) w (by omega) (fun i hi => absurd hi (by omega)) (lists_none w) (fun i hi => absurd hi (by omega)) ⟨fun x hx => (by cases hx), fun i hi => absurd hi (by omega)⟩ hT hTl

set_option maxHeartbeats 2000000 in
theorem frames_none (c0 c1 c2 c3 c4 c5 c6 c7 number : Int) (w : World) (hT : Tabs6 w) :
    Calls Tryz.prog 14 #[.agg #[.int .i64 c0, .int .i64 c1, .int .i64 c2, .int .i64 c3, .int .i64 c4, .int .i64 c5, .int .i64 c6, .int .i64 c7], .int .i64 number, .slice none 0 0] w fun e w' =>
      e = .returned (.bool true) ∧ Below w.heap.size w w' := by
  have hb : Below w.heap.size w (w.alloc (.cells #[.int .i64 c0, .int .i64 c1, .int .i64 c2, .int .i64 c3, .int .i64 c4, .int .i64 c5, .int .i64 c6, .int .i64 c7] 23)) := (Below.refl _ _).alloc (Nat.le_refl _) _
  have HB := Hid.mk' hb
  have HFR := Hid.mk' (fun (u : World) (hu : Below w.heap.size w u) => reelFrame_none c0 c1 c2 c3 c4 c5 c6 c7 number u (hT.below hu).prog)
  have HRF := Hid.mk' (fun (u : World) (hu : Below w.heap.size w u) => rFrame_none c0 c1 c2 c3 c4 c5 c6 c7 number u (hT.below hu).ref (hT.below hu).refLt)
  have HNM := Hid.mk' (fun u => lnum_any (frameE c0 c1 c2 c3 c4 c5 c6 c7 number 0 (fun _ => 0) (fun _ _ => 0)) u)
  clear hT hb
  generalize frameS c0 c1 c2 c3 c4 c5 c6 c7 number 0 (fun _ => 0) (fun _ _ => 0) = S at *
  generalize frameE c0 c1 c2 c3 c4 c5 c6 c7 number 0 (fun _ => 0) (fun _ _ => 0) = E at *
  go_enter Tryz.func14, Tryz.ntmps14
  go_wp2_with (first
    | (go_at_call 39; refine (lendAll_none _).mono ?_; rintro e w' ⟨rfl, rfl⟩)
    | (go_at_call 10; refine (HFR.out _ ?_).mono ?_; exact HB.out; rintro e w3 ⟨rfl, hb3⟩; have hs3 : w.heap.size < w3.heap.size := by {have := hb3.size; simp at this; omega}; obtain ⟨hcl3, hfr3⟩ := bcell hb3; have HB3 := Hid.mk' (HB.out.trans (hb3.mono (by simp))); clear hfr3 hb3 HFR)
    | (go_at_call 40; refine (HRF.out _ ?_).mono ?_; exact HB3.out; rintro e w4 ⟨rfl, hb4⟩; have HB4 := Hid.mk' (HB3.out.trans (hb4.mono HB3.out.size)); clear hb4 HRF)
    | (go_at_call 41; refine (wholeAll_none _ _ _).mono ?_; rintro e w' ⟨rfl, rfl⟩)
    | (go_at_call 13; refine (HNM.out _).mono ?_; rintro e w6 ⟨rfl, hw⟩; subst w6; clear HNM))
  go_ret
  exact ⟨ret_bool (by simp), HB4.out⟩

theorem frames_any (c0 c1 c2 c3 c4 c5 c6 c7 number : Int) (a : Option Addr) (n cap : Nat) (A : Nat → Option Addr) (L C : Nat → Nat) (F : Nat → Nat → Int) (w : World) (h : SoundIn w a n cap A L C F) (hT : Tabs6 w) :
    Calls Tryz.prog 14 #[.agg #[.int .i64 c0, .int .i64 c1, .int .i64 c2, .int .i64 c3, .int .i64 c4, .int .i64 c5, .int .i64 c6, .int .i64 c7], .int .i64 number, .slice a n cap] w fun e w' => e = .returned (.bool true) ∧ Below w.heap.size w w' := by
  cases a with
  | none => obtain ⟨rfl, rfl⟩ := h.nil rfl; exact frames_none c0 c1 c2 c3 c4 c5 c6 c7 number w hT
  | some x => exact frames_some c0 c1 c2 c3 c4 c5 c6 c7 number x n cap A L C F w h.hn h.hL h.hA h.hI h.low h.no hT

/-- the twelve bytes while they are laid -/
def oneTo (k j : Nat) : Int := if j < k then one12.getD j 0 else 0
theorem one_bytes : ∀ j : Fin 12, (((fun i => UInt8.ofNat (one12.getD i 0).toNat) j.val : UInt8).toNat : Int) = one12.getD j.val 0 := by decide
theorem one_str : strOf (fun i => UInt8.ofNat (one12.getD i 0).toNat) 12 = exFr := by kernel_rfl

set_option maxHeartbeats 1000000 in
theorem twelve_any (w : World) (hO : ∀ i, i < 12 → w.cell? ⟨0, i, none⟩ = some (.int .u8 (one12.getD i 0))) (hlt : 0 < w.heap.size) :
    Calls Tryz.prog 12 #[] w fun e w' => e = .returned (.string exFr) ∧ Below w.heap.size w w' := by
  have hmk := run_make_row' (P := Tryz.prog) 61 5 (.int .u8 0) 1 Tryz.underlying61 infoByte rfl .i64 .i64 12 (by omega) (by omega)
  have e12 : ((12 : Nat) : Int) = 12 := rfl
  rw [e12] at hmk
  have HO := Hid.mk' (fun (u : World) (hu : Below w.heap.size w u) i (hi : i < 12) => (hu.cell (p := ⟨0, i, none⟩) hlt).trans (hO i hi))
  have HCV := Hid.mk' (fun (u : World) h => run_rowString (P := Tryz.prog) u 61 9 5 w.heap.size 0 12 12 (fun i => UInt8.ofNat (one12.getD i 0).toNat) Tryz.underlying61 Tryz.underlying5 Tryz.underlying9 h)
  clear hO e12
  go_enter Tryz.func12, Tryz.ntmps12
  go_wp2
  clear hmk
  go_loopw [2] (fun i wr => ∃ k : Nat, k ≤ 12 ∧ i = .int .i64 k ∧ Hid (wr.rowIs w.heap.size 5 12 (fun j => .int .u8 (oneTo k j)) ∧ Below w.heap.size w wr)) (fun i _ => 12 - (intOf i).toNat)
  case atStart => exact ⟨0, Nat.zero_le _, rfl, (World.rowIs_made w (.int .u8 0) 12 5).congr fun i _ => by simp [oneTo], (Below.refl _ _).alloc (Nat.le_refl _) _⟩
  case round =>
    obtain ⟨k, hk, rfl, HR⟩ := hrel
    by_cases hl : k < 12
    · have hc1 := HR.out.1.cell hl
      have hf1 := HR.out.1.frozen k
      have hc2 := HO.out wr HR.out.2 k hl
      have HSET : Hid ((wr.setCell ⟨w.heap.size, k, none⟩ (.int .u8 (one12.getD k 0))).rowIs w.heap.size 5 12 (fun j => .int .u8 (oneTo (k + 1) j))) := (HR.out.1.set k _).congr fun j _ => by
        unfold oneTo
        by_cases e : j = k
        · rw [if_pos e, if_pos (by omega), e]
        · rw [if_neg e]
          by_cases e2 : j < k
          · rw [if_pos e2, if_pos (by omega)]
          · rw [if_neg e2, if_neg (by omega)]
      generalize one12.getD k 0 = V at *
      generalize oneTo k k = V0 at *
      go_wp2
      go_roundw
      case rel => exact ⟨k + 1, by omega, by go_num, HSET.out, HR.out.2.setCell (Nat.le_refl _) _⟩
      case measure => simp [intOf]; omega
    · have e : k = 12 := by omega
      subst e
      have hcv := HCV.out wr (fun i hi => by
        have := HR.out.1.cell (i := i) hi
        rw [Nat.zero_add, this]
        have h2 := one_bytes ⟨i, hi⟩
        simp only at h2
        rw [h2]
        unfold oneTo
        rw [if_pos hi])
      rw [one_str] at hcv
      clear HCV
      go_wp2
      go_ret
      exact ⟨rfl, HR.out.2⟩

theorem ex_lists (w2 : World) : ListsAt ((w2.alloc (.cells #[.int .i64 1] 3)).alloc (.cells #[.slice (some ⟨w2.heap.size, 0, none⟩) 1 1] 29)) (some ⟨w2.heap.size + 1, 0, none⟩) 1 (fun _ => some ⟨w2.heap.size, 0, none⟩) (fun _ => 1) (fun _ => 1) := fun i hi => ⟨_, rfl, by
  have e : i = 0 := by omega
  subst e
  simp [Addr.add]⟩
theorem ex_ints (w2 : World) : ∀ i, i < 1 → IntsAt ((w2.alloc (.cells #[.int .i64 1] 3)).alloc (.cells #[.slice (some ⟨w2.heap.size, 0, none⟩) 1 1] 29)) (some ⟨w2.heap.size, 0, none⟩) 1 (exF i) := fun _ _ i hi => ⟨_, rfl, by
  have e : i = 0 := by omega
  subst e
  simp [Addr.add, exF]⟩

theorem frame_ex (w2 : World) (hT : TabsF w2) :
    Calls Tryz.prog 10 #[.agg #[.int .i64 1, .int .i64 4, .int .i64 2, .int .i64 8, .int .i64 1, .int .i64 2, .int .i64 2, .int .i64 1], .int .i64 1, .slice (some ⟨w2.heap.size + 1, 0, none⟩) 1 1] ((w2.alloc (.cells #[.int .i64 1] 3)).alloc (.cells #[.slice (some ⟨w2.heap.size, 0, none⟩) 1 1] 29)) fun e w' => e = .returned (.tuple #[.string exFr, .int .i64 0]) ∧ Below w2.heap.size w2 w' := by
  have hB : Below w2.heap.size w2 ((w2.alloc (.cells #[.int .i64 1] 3)).alloc (.cells #[.slice (some ⟨w2.heap.size, 0, none⟩) 1 1] 29)) := ((Below.refl _ _).alloc (Nat.le_refl _) _).alloc (by simp) _
  have h := reelFrame_any 1 4 2 8 1 2 2 1 1 (some ⟨w2.heap.size + 1, 0, none⟩) 1 1 (fun _ => some ⟨w2.heap.size, 0, none⟩) (fun _ => 1) (fun _ => 1) exF _ (by omega) (fun i hi => by omega) (ex_lists w2) (ex_ints w2) ⟨fun x hx _ => by cases hx; simp, fun i hi x hx _ => by cases hx; simp; omega⟩ (hT.below hB)
  rw [ex_FS, ex_FE] at h
  exact h.mono fun e w' ⟨he, hb⟩ => ⟨he, hB.trans (hb.mono hB.size)⟩

set_option maxHeartbeats 2000000 in
theorem framesLaw (c0 c1 c2 c3 c4 c5 c6 c7 number : Int) (a : Option Addr) (n cap : Nat) (A : Nat → Option Addr) (L C : Nat → Nat) (F : Nat → Nat → Int) (w : World) (h : SoundIn w a n cap A L C F) (hT : Tabs6 w) :
    Calls Tryz.prog 3 #[.agg #[.int .i64 c0, .int .i64 c1, .int .i64 c2, .int .i64 c3, .int .i64 c4, .int .i64 c5, .int .i64 c6, .int .i64 c7], .int .i64 number, .slice a n cap] w fun e w' => e = .returned (.bool true) ∧ Below w.heap.size w w' := by
  have hb : Below w.heap.size w (w.alloc (.cells #[.int .i64 c0, .int .i64 c1, .int .i64 c2, .int .i64 c3, .int .i64 c4, .int .i64 c5, .int .i64 c6, .int .i64 c7] 23)) := (Below.refl _ _).alloc (Nat.le_refl _) _
  have HB := Hid.mk' hb
  have HFX := Hid.mk' (fun (u : World) (hu : Below w.heap.size w u) => frame_ex u (hT.below hu).prog)
  have HTW := Hid.mk' (fun (u : World) (hu : Below w.heap.size w u) => twelve_any u (hT.below hu).one (hT.below hu).oneLt)
  have HFS := Hid.mk' (fun (u : World) (hu : Below w.heap.size w u) => frames_any c0 c1 c2 c3 c4 c5 c6 c7 number a n cap A L C F u (h.below hu) (hT.below hu))
  have HNM := Hid.mk' (fun u => lnum_any 0 u)
  clear h hT hb
  generalize exFr = ES at *
  go_enter Tryz.func3, Tryz.ntmps3
  go_wp2_with (first
    | (go_at_call 11; refine (example_any _).mono ?_; rintro e w1 ⟨rfl, hb1⟩; obtain ⟨hcl1, hfr1⟩ := bcell hb1; have hs1 : w.heap.size < w1.heap.size := by {have := hb1.size; simp at this; omega}; have HB1 := Hid.mk' (HB.out.trans (hb1.mono (by simp))); clear hb1 hfr1)
    | (go_at_call 10; refine (HFX.out _ ?_).mono ?_; exact HB1.out; rintro e w2 ⟨rfl, hb2⟩; obtain ⟨hcl2, hfr2⟩ := bcell hb2; have hs2 : w.heap.size < w2.heap.size := Nat.lt_of_lt_of_le hs1 hb2.size; have HB2 := Hid.mk' (HB1.out.trans (hb2.mono HB1.out.size)); clear hb2 hfr2 HFX)
    | (go_at_call 12; refine (HTW.out _ ?_).mono ?_; exact HB2.out; rintro e w3 ⟨rfl, hb3⟩; obtain ⟨hcl3, hfr3⟩ := bcell hb3; have hs3 : w.heap.size < w3.heap.size := Nat.lt_of_lt_of_le hs2 hb3.size; have HB3 := Hid.mk' (HB2.out.trans (hb3.mono HB2.out.size)); clear hb3 hfr3 HTW)
    | (go_at_call 13; refine (HNM.out _).mono ?_; rintro e w6 ⟨rfl, hw⟩; subst w6; clear HNM)
    | (go_at_call 14; refine (HFS.out _ ?_).mono ?_; exact HB3.out; rintro e w4 ⟨rfl, hb4⟩; have HB4 := Hid.mk' (HB3.out.trans (hb4.mono HB3.out.size)); clear hb4 HFS))
  go_ret
  exact ⟨rfl, HB4.out⟩
end Go.Proofs.YtlncjgnomhpjnaaGreatDoor

/-
  The six tables among the laid variables of 'Frames'.
-/
namespace Go.Proofs.YtlncjgnomhpjnaaGreatDoor
open Go Go.Lib
set_option linter.unusedVariables false

def z32 : List Int := [0, 1, 28, 2, 29, 14, 24, 3, 30, 22, 20, 15, 25, 17, 4, 8, 31, 27, 13, 23, 21, 19, 16, 7, 26, 12, 18, 6, 11, 5, 10, 9]
def z64 : List Int := [0, 1, 56, 2, 57, 49, 28, 3, 61, 58, 42, 50, 38, 29, 17, 4, 62, 47, 59, 36, 45, 43, 51, 22, 53, 39, 33, 30, 24, 18, 12, 5, 63, 55, 48, 27, 60, 41, 37, 16, 46, 35, 44, 21, 52, 32, 23, 11, 54, 26, 40, 15, 34, 20, 31, 10, 25, 14, 19, 9, 13, 8, 7, 6]
theorem z64_at : ∀ t : Fin 13, z64[285870213051353865 * 2 ^ t.val % 18446744073709551616 / 288230376151711744]? = some (t.val : Int) := by decide +kernel
theorem g32 : Tryz.prog.globalNamed "math/bits.deBruijn32tab" = some 5 := by kernel_rfl
theorem g32Type : (Tryz.prog.globals[5]?).map (·.type) = some 252 := by kernel_rfl
theorem g64 : Tryz.prog.globalNamed "math/bits.deBruijn64tab" = some 6 := by kernel_rfl
theorem g64Type : (Tryz.prog.globals[6]?).map (·.type) = some 253 := by kernel_rfl
theorem cells64 : Tryz.prog.cellsOf 253 = 64 := by kernel_rfl
theorem tab_lt4 {w : World} {g i : Nat} {v : Value} (h : w.cell? ⟨g, i, none⟩ = some v) : g < w.heap.size := by
  by_cases hg : g < w.heap.size
  · exact hg
  · have hn : w.heap[g]? = none := Array.getElem?_eq_none (by omega)
    simp [World.cell?, hn] at h

def pairRows : List (List Int) := [[0, 1], [0, 2], [2, 1], [3, 2]]
theorem gPairs : Tryz.prog.globalNamed "reel/frame.pairs" = some 2 := by kernel_rfl
theorem gPairsType : (Tryz.prog.globals[2]?).map (·.type) = some 140 := by kernel_rfl
theorem gOne : Tryz.prog.globalNamed "reel/reellaw.one12" = some 0 := by kernel_rfl
theorem gOneType : (Tryz.prog.globals[0]?).map (·.type) = some 65 := by kernel_rfl
theorem cells42 : Tryz.prog.cellsOf 140 = 4 * 2 := by kernel_rfl
theorem cells2 : Tryz.prog.cellsOf 139 = 2 := by kernel_rfl
theorem cells12 : Tryz.prog.cellsOf 65 = 12 := by kernel_rfl
theorem pairRows_at (r c : Nat) (hr : r < 4) (hc : c < 2) : ∃ zs, pairRows[r]? = some zs ∧ zs[c]? = some (pairV r c) := by
  have h : ∀ r : Fin 4, ∀ c : Fin 2, (pairRows[r.val]?.bind fun zs => zs[c.val]?) = some (pairV r.val c.val) := by decide
  have := h ⟨r, hr⟩ ⟨c, hc⟩
  exact Option.bind_eq_some_iff.1 this

/-- what the row's list gives -/
theorem tables6 {W : World} (h : laidMetH Tryz.prog Rows.framesRow.laid W) : Tabs6 W := by
  have h' : laidMet Tryz.prog [("math/bits.deBruijn32tab", tabData .u8 z32), ("math/bits.deBruijn64tab", tabData .u8 z64), ("reel/reelref.taken", .agg (tabRows.map (tabData .i64))), ("reel/subframe.fixedWeights", .agg (tabRows.map (tabData .i64))), ("reel/frame.pairs", .agg (pairRows.map (tabData .i64))), ("reel/reellaw.one12", tabData .u8 one12)] W := h
  obtain ⟨ps, ⟨g0, t0, cs0, fuel0, p0, q0, hg0, ht0, hvar0, hd0, ⟨gb, tb, csb, fuelb, pb, qb, hgb, htb, hvarb, hdb, ⟨g1, t1, cs1, fuel1, p1, q1, hg1, ht1, hvar1, hd1, ⟨g2, t2, cs2, fuel2, p2, q2, hg2, ht2, hvar2, hd2, ⟨g3, t3, cs3, fuel3, p3, q3, hg3, ht3, hvar3, hd3, ⟨g4, t4, cs4, fuel4, p4, q4, hg4, ht4, hvar4, hd4, _, _⟩, _⟩, _⟩, _⟩, _⟩, _⟩, _⟩ := h'
  obtain rfl := Option.some.inj (gPairs.symm.trans hg3)
  obtain rfl := Option.some.inj (gPairsType.symm.trans ht3)
  obtain rfl := Option.some.inj (gOne.symm.trans hg4)
  obtain rfl := Option.some.inj (gOneType.symm.trans ht4)
  obtain rfl := Option.some.inj (gTaken.symm.trans hg1)
  obtain rfl := Option.some.inj (gTakenType.symm.trans ht1)
  obtain rfl := Option.some.inj (gFixed.symm.trans hg2)
  obtain rfl := Option.some.inj (gFixedType.symm.trans ht2)
  obtain rfl := Option.some.inj (g64.symm.trans hgb)
  obtain rfl := Option.some.inj (g64Type.symm.trans htb)
  have hT : TabAt W 3 := by
    intro r c hr hc
    obtain ⟨zs, hz1, hz2⟩ := tabRows_at r c hr hc
    have := cells_of_tab2 Tryz.underlying249 Tryz.underlying199 Tryz.underlying3 cells1 cells4 cells54 hd1 r zs hz1 c _ hc hz2
    have h2 := World.var?_cell gTaken hvar1 (r * 4 + c)
    rw [Nat.mul_comm 4 r, h2]
    simpa using this
  have hF : TabAt W 7 := by
    intro r c hr hc
    obtain ⟨zs, hz1, hz2⟩ := tabRows_at r c hr hc
    have := cells_of_tab2 Tryz.underlying249 Tryz.underlying199 Tryz.underlying3 cells1 cells4 cells54 hd2 r zs hz1 c _ hc hz2
    have h2 := World.var?_cell gFixed hvar2 (r * 4 + c)
    rw [Nat.mul_comm 4 r, h2]
    simpa using this
  have hZ : TzAt W 6 := by
    intro t ht
    have e := cells_of_tab Tryz.underlying253 Tryz.underlying5 cellsByte cells64 hdb
    have h2 := World.var?_cell g64 hvarb (285870213051353865 * 2 ^ t % 18446744073709551616 / 288230376151711744)
    rw [h2]
    have h3 := z64_at ⟨t, by omega⟩
    have h4 : csb.toList[285870213051353865 * 2 ^ t % 18446744073709551616 / 288230376151711744]? = some (.int .u8 (t : Int)) := by
      rw [e, List.getElem?_map, h3]; rfl
    simpa using h4
  have hP : PairsAt W := by
    intro r c hr hc
    obtain ⟨zs, hz1, hz2⟩ := pairRows_at r c hr hc
    have := cells_of_tab2 Tryz.underlying140 Tryz.underlying139 Tryz.underlying3 cells1 cells2 cells42 hd3 r zs hz1 c _ hc hz2
    have h2 := World.var?_cell gPairs hvar3 (r * 2 + c)
    rw [Nat.mul_comm 2 r, h2]
    simpa using this
  have hO : ∀ i, i < 12 → W.cell? ⟨0, i, none⟩ = some (.int .u8 (one12.getD i 0)) := by
    intro i hi
    have e := cells_of_tab Tryz.underlying65 Tryz.underlying5 cellsByte cells12 hd4
    have h2 := World.var?_cell gOne hvar4 i
    rw [h2]
    have h3 : ∀ i : Fin 12, one12[i.val]? = some (one12.getD i.val 0) := by decide
    have h4 : cs4.toList[i]? = some (.int .u8 (one12.getD i 0)) := by
      rw [e, List.getElem?_map, h3 ⟨i, hi⟩]; rfl
    simpa using h4
  exact ⟨⟨⟨hF, tab_lt4 (hF 0 0 (by omega) (by omega)), hZ, tab_lt4 (hZ 0 (by omega))⟩, hP, tab_lt4 (hP 0 0 (by omega) (by omega))⟩, hT, tab_lt4 (hT 0 0 (by omega) (by omega)), hO, tab_lt4 (hO 0 (by omega))⟩
end Go.Proofs.YtlncjgnomhpjnaaGreatDoor

