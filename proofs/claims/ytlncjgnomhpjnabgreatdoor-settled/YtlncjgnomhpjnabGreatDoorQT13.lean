import Derived.Test.YtlncjgnomhpjnabGreatDoorQT12
import Derived.Test.YtlncjgnomhpjnabGreatDoorQT10
import Derived.Test.YtlncjgnomhpjnabGreatDoorQT3
import Derived.Test.YtlncjgnomhpjnabGreatDoorQT11
/-
  What a right configuration, a sound and a block are, in the program.
-/
namespace Go.Proofs.YtlncjgnomhpjnabGreatDoor
open Go.RowKit Go.Deep
set_option linter.unusedVariables false
theorem bcell {W w1 : World} (hb : Below W.heap.size W w1) : (∀ b o, b < W.heap.size → w1.cell? ⟨b, o, none⟩ = W.cell? ⟨b, o, none⟩) ∧ (∀ b o, b < W.heap.size → w1.frozen? ⟨b, o, none⟩ = W.frozen? ⟨b, o, none⟩) :=
  ⟨fun b o h => hb.cell (p := ⟨b, o, none⟩) h, fun b o h => hb.frozen (p := ⟨b, o, none⟩) h⟩
/-- the eight numbers of a right configuration -/
def rightB (c0 c1 c2 c3 c4 c5 c6 c7 : Int) : Bool :=
  within c0 1 4 && (within c1 4 12 && (within c2 1 32 && (within c3 0 65535 && (within c4 0 255 && (within c5 1 8 && (within c6 1 16 && within c7 1 8))))))
/-- what a head may say -/
def infoB (c0 c1 c2 c3 c4 s : Int) : Bool :=
  within c0 1 4 && (within c1 4 12 && (within c2 1 32 && (within c3 0 65535 && (within c4 0 255 && within s 0 300))))
set_option maxHeartbeats 1000000 in
theorem infoOf_any (c0 c1 c2 c3 c4 c5 c6 c7 s : Int) (w : World) :
    Calls Tryz.prog 61 #[.agg #[.int .i64 c0, .int .i64 c1, .int .i64 c2, .int .i64 c3, .int .i64 c4, .int .i64 c5, .int .i64 c6, .int .i64 c7], .int .i64 s] w fun e w' =>
      e = .returned (.agg #[.int .i64 c0, .int .i64 c1, .int .i64 c2, .int .i64 c3, .int .i64 c4, .int .i64 s]) ∧ Below w.heap.size w w' := by
  go_enter Tryz.func61, Tryz.ntmps61
  go_wp2
  exact bodyPost_ret (v := .agg #[.int .i64 c0, .int .i64 c1, .int .i64 c2, .int .i64 c3, .int .i64 c4, .int .i64 s]) (by simp [results, Tryz.results61, go_sem]) rfl ⟨rfl, ((Below.refl _ _).alloc (Nat.le_refl _) _).alloc (by simp) _⟩
set_option maxHeartbeats 1000000 in
theorem rightInfo_any (c0 c1 c2 c3 c4 s : Int) (w : World) :
    Calls Tryz.prog 121 #[.agg #[.int .i64 c0, .int .i64 c1, .int .i64 c2, .int .i64 c3, .int .i64 c4, .int .i64 s]] w fun e w' =>
      e = .returned (.bool (infoB c0 c1 c2 c3 c4 s)) ∧ Below w.heap.size w w' := by
  have fin : ∀ o, Below w.heap.size w (w.alloc o) := fun o => (Below.refl _ _).alloc (Nat.le_refl _) _
  cases h0 : within c0 1 4
  · go_enter Tryz.func121, Tryz.ntmps121
    go_wp2_with (go_at_call 70; refine (within_any _ _ _ _).mono ?_; rintro e w' ⟨rfl, rfl⟩)
    go_ret
    exact ⟨ret_bool (by simp [infoB, h0]), fin _⟩
  cases h1 : within c1 4 12
  · go_enter Tryz.func121, Tryz.ntmps121
    go_wp2_with (go_at_call 70; refine (within_any _ _ _ _).mono ?_; rintro e w' ⟨rfl, rfl⟩)
    go_ret
    exact ⟨ret_bool (by simp [infoB, h0, h1]), fin _⟩
  cases h2 : within c2 1 32
  · go_enter Tryz.func121, Tryz.ntmps121
    go_wp2_with (go_at_call 70; refine (within_any _ _ _ _).mono ?_; rintro e w' ⟨rfl, rfl⟩)
    go_ret
    exact ⟨ret_bool (by simp [infoB, h0, h1, h2]), fin _⟩
  cases h3 : within c3 0 65535
  · go_enter Tryz.func121, Tryz.ntmps121
    go_wp2_with (go_at_call 70; refine (within_any _ _ _ _).mono ?_; rintro e w' ⟨rfl, rfl⟩)
    go_ret
    exact ⟨ret_bool (by simp [infoB, h0, h1, h2, h3]), fin _⟩
  cases h4 : within c4 0 255
  · go_enter Tryz.func121, Tryz.ntmps121
    go_wp2_with (go_at_call 70; refine (within_any _ _ _ _).mono ?_; rintro e w' ⟨rfl, rfl⟩)
    go_ret
    exact ⟨ret_bool (by simp [infoB, h0, h1, h2, h3, h4]), fin _⟩
  go_enter Tryz.func121, Tryz.ntmps121
  go_wp2_with (go_at_call 70; refine (within_any _ _ _ _).mono ?_; rintro e w' ⟨rfl, rfl⟩)
  go_ret
  exact ⟨ret_bool (by simp [infoB, h0, h1, h2, h3, h4]), fin _⟩
theorem rightB_info (c0 c1 c2 c3 c4 c5 c6 c7 : Int) : rightB c0 c1 c2 c3 c4 c5 c6 c7 = (infoB c0 c1 c2 c3 c4 0 && (within c5 1 8 && (within c6 1 16 && within c7 1 8))) := by
  simp only [rightB, infoB, Bool.and_assoc]
  have : within 0 0 300 = true := by decide
  rw [this]; simp
set_option maxHeartbeats 1000000 in
theorem rightConfig_any (c0 c1 c2 c3 c4 c5 c6 c7 : Int) (w : World) :
    Calls Tryz.prog 59 #[.agg #[.int .i64 c0, .int .i64 c1, .int .i64 c2, .int .i64 c3, .int .i64 c4, .int .i64 c5, .int .i64 c6, .int .i64 c7]] w fun e w' =>
      e = .returned (.bool (rightB c0 c1 c2 c3 c4 c5 c6 c7)) ∧ Below w.heap.size w w' := by
  rw [rightB_info]
  have hb : Below w.heap.size w (w.alloc (.cells #[.int .i64 c0, .int .i64 c1, .int .i64 c2, .int .i64 c3, .int .i64 c4, .int .i64 c5, .int .i64 c6, .int .i64 c7] 23)) := (Below.refl _ _).alloc (Nat.le_refl _) _
  have HB := Hid.mk' hb
  clear hb
  have HR := Hid.mk' (fun u => rightInfo_any c0 c1 c2 c3 c4 0 u)
  cases h0 : infoB c0 c1 c2 c3 c4 0
  · rw [h0] at HR
    go_enter Tryz.func59, Tryz.ntmps59
    go_wp2_with (first
      | (go_at_call 61; refine (infoOf_any _ _ _ _ _ _ _ _ _ _).mono ?_; rintro e w1 ⟨rfl, hb1⟩; obtain ⟨hcl1, hfr1⟩ := bcell hb1; have HB1 := Hid.mk' (HB.out.trans (hb1.mono (by simp))); have hs1 : w.heap.size < w1.heap.size := by {have := hb1.size; simp at this; omega}; clear hb1 HB hfr1)
      | (go_at_call 121; refine (HR.out _).mono ?_; rintro e w2 ⟨rfl, hb2⟩; obtain ⟨hcl2, hfr2⟩ := bcell hb2; have HB2 := Hid.mk' (HB1.out.trans (hb2.mono HB1.out.size)); have hs2 : w.heap.size < w2.heap.size := Nat.lt_of_lt_of_le hs1 hb2.size; clear hb2 hfr2)
      | (go_at_call 70; refine (within_any _ _ _ _).mono ?_; rintro e w' ⟨rfl, rfl⟩))
    go_ret
    exact ⟨ret_bool (by simp), HB2.out⟩
  rw [h0] at HR
  cases h1 : within c5 1 8
  · go_enter Tryz.func59, Tryz.ntmps59
    go_wp2_with (first
      | (go_at_call 61; refine (infoOf_any _ _ _ _ _ _ _ _ _ _).mono ?_; rintro e w1 ⟨rfl, hb1⟩; obtain ⟨hcl1, hfr1⟩ := bcell hb1; have HB1 := Hid.mk' (HB.out.trans (hb1.mono (by simp))); have hs1 : w.heap.size < w1.heap.size := by {have := hb1.size; simp at this; omega}; clear hb1 HB hfr1)
      | (go_at_call 121; refine (HR.out _).mono ?_; rintro e w2 ⟨rfl, hb2⟩; obtain ⟨hcl2, hfr2⟩ := bcell hb2; have HB2 := Hid.mk' (HB1.out.trans (hb2.mono HB1.out.size)); have hs2 : w.heap.size < w2.heap.size := Nat.lt_of_lt_of_le hs1 hb2.size; clear hb2 hfr2)
      | (go_at_call 70; refine (within_any _ _ _ _).mono ?_; rintro e w' ⟨rfl, rfl⟩))
    go_ret
    exact ⟨ret_bool (by simp), HB2.out⟩
  cases h2 : within c6 1 16
  · go_enter Tryz.func59, Tryz.ntmps59
    go_wp2_with (first
      | (go_at_call 61; refine (infoOf_any _ _ _ _ _ _ _ _ _ _).mono ?_; rintro e w1 ⟨rfl, hb1⟩; obtain ⟨hcl1, hfr1⟩ := bcell hb1; have HB1 := Hid.mk' (HB.out.trans (hb1.mono (by simp))); have hs1 : w.heap.size < w1.heap.size := by {have := hb1.size; simp at this; omega}; clear hb1 HB hfr1)
      | (go_at_call 121; refine (HR.out _).mono ?_; rintro e w2 ⟨rfl, hb2⟩; obtain ⟨hcl2, hfr2⟩ := bcell hb2; have HB2 := Hid.mk' (HB1.out.trans (hb2.mono HB1.out.size)); have hs2 : w.heap.size < w2.heap.size := Nat.lt_of_lt_of_le hs1 hb2.size; clear hb2 hfr2)
      | (go_at_call 70; refine (within_any _ _ _ _).mono ?_; rintro e w' ⟨rfl, rfl⟩))
    go_ret
    exact ⟨ret_bool (by simp), HB2.out⟩
  go_enter Tryz.func59, Tryz.ntmps59
  go_wp2_with (first
    | (go_at_call 61; refine (infoOf_any _ _ _ _ _ _ _ _ _ _).mono ?_; rintro e w1 ⟨rfl, hb1⟩; obtain ⟨hcl1, hfr1⟩ := bcell hb1; have HB1 := Hid.mk' (HB.out.trans (hb1.mono (by simp))); have hs1 : w.heap.size < w1.heap.size := by {have := hb1.size; simp at this; omega}; clear hb1 HB hfr1)
    | (go_at_call 121; refine (HR.out _).mono ?_; rintro e w2 ⟨rfl, hb2⟩; obtain ⟨hcl2, hfr2⟩ := bcell hb2; have HB2 := Hid.mk' (HB1.out.trans (hb2.mono HB1.out.size)); have hs2 : w.heap.size < w2.heap.size := Nat.lt_of_lt_of_le hs1 hb2.size; clear hb2 hfr2)
    | (go_at_call 70; refine (within_any _ _ _ _).mono ?_; rintro e w' ⟨rfl, rfl⟩))
  go_ret
  exact ⟨ret_bool (by simp), HB2.out⟩
/-- what a slice of slices of numbers holds -/
def ListsAt (w : World) (a : Option Addr) (n : Nat) (A : Nat → Option Addr) (L C : Nat → Nat) : Prop := ∀ i, i < n → ∃ x, a = some x ∧ w.cell? (x.add i) = some (.slice (A i) (L i) (C i))
theorem ListsAt.open {w : World} {a : Option Addr} {n : Nat} {A : Nat → Option Addr} {L C : Nat → Nat} (h : ListsAt w a n A L C) (hn : 0 < n) :
    ∃ b off, a = some ⟨b, off, none⟩ ∧ ∀ i, i < n → w.cell? ⟨b, off + i, none⟩ = some (.slice (A i) (L i) (C i)) := by
  obtain ⟨⟨b, off, sp⟩, rfl, hc⟩ := h 0 hn
  have hs : sp = none := by simpa [Addr.add] using World.cell?_spot hc
  subst hs
  refine ⟨b, off, rfl, fun i hi => ?_⟩
  obtain ⟨x, hx, hc⟩ := h i hi
  cases hx
  rw [← hc]
  cases i <;> simp [Addr.add]
/-- lists that lie below a block -/
def Low (B : Nat) (a : Option Addr) (n : Nat) (A : Nat → Option Addr) (L : Nat → Nat) : Prop := (∀ x, a = some x → 0 < n → x.block < B) ∧ ∀ i, i < n → ∀ x, A i = some x → 0 < L i → x.block < B
theorem IntsAt.below {w w' : World} {B : Nat} {a : Option Addr} {n : Nat} {f : Nat → Int} (h : IntsAt w a n f) (hb : Below B w w') (hl : ∀ x, a = some x → 0 < n → x.block < B) : IntsAt w' a n f := fun i hi => by
  obtain ⟨x, hx, hc⟩ := h i hi
  refine ⟨x, hx, ?_⟩
  rw [hb.cell (by have := hl x hx (by omega); cases i <;> simpa [Addr.add] using this), hc]
theorem ListsAt.below {w w' : World} {B : Nat} {a : Option Addr} {n : Nat} {A : Nat → Option Addr} {L C : Nat → Nat} (h : ListsAt w a n A L C) (hb : Below B w w') (hl : ∀ x, a = some x → 0 < n → x.block < B) : ListsAt w' a n A L C := fun i hi => by
  obtain ⟨x, hx, hc⟩ := h i hi
  refine ⟨x, hx, ?_⟩
  rw [hb.cell (by have := hl x hx (by omega); cases i <;> simpa [Addr.add] using this), hc]
theorem areSamples_any (d : Nat) (a : Option Addr) (n c : Nat) (f : Nat → Int) (w : World) (h1 : 1 ≤ d) (h2 : d ≤ 13) (hn : n ≤ 17592186044416) (hI : IntsAt w a n f) :
    Calls Tryz.prog 192 #[.int .i64 d, .slice a n c] w fun e w' => Says e (∀ i, i < n → fitsB d (f i) = true) ∧ w' = w :=
  (areS_any d a n c f w h1 h2 hn hI).mono fun e w' h => ⟨⟨_, h.1, allFit_iff d f n⟩, h.2⟩
/-- the lists are channels, all of one length from lo to hi -/
def ChanP (c0 : Int) (d n : Nat) (lo hi : Int) (L : Nat → Nat) (F : Nat → Nat → Int) : Prop :=
  (n : Int) = c0 ∧ within (L 0 : Int) lo hi = true ∧ ∀ i, i < n → L i = L 0 ∧ ∀ j, j < L i → fitsB d (F i j) = true
set_option maxHeartbeats 1000000 in
theorem areChannels_any (lo hi : Int) (c0 c2 c3 c4 c5 c6 c7 : Int) (d : Nat) (a : Option Addr) (n cap : Nat) (A : Nat → Option Addr) (L C : Nat → Nat) (F : Nat → Nat → Int) (w : World) (hc0 : 1 ≤ c0) (h1 : 1 ≤ d) (h2 : d ≤ 13) (hn : n ≤ 17592186044416) (hL : ∀ i, i < n → L i ≤ 17592186044416)
    (hA : ListsAt w a n A L C) (hI : ∀ i, i < n → IntsAt w (A i) (L i) (F i)) (hlow : Low w.heap.size a n A L) :
    Calls Tryz.prog 122 #[.agg #[.int .i64 c0, .int .i64 d, .int .i64 c2, .int .i64 c3, .int .i64 c4, .int .i64 c5, .int .i64 c6, .int .i64 c7], .slice a n cap, .int .i64 lo, .int .i64 hi] w fun e w' =>
      Says e (ChanP c0 d n lo hi L F) ∧ Below w.heap.size w w' := by
  obtain ⟨o, ho⟩ : ∃ o, o = Obj.cells #[.int .i64 c0, .int .i64 d, .int .i64 c2, .int .i64 c3, .int .i64 c4, .int .i64 c5, .int .i64 c6, .int .i64 c7] 23 := ⟨_, rfl⟩
  have hb : Below w.heap.size w (w.alloc o) := (Below.refl _ _).alloc (Nat.le_refl _) _
  rw [ho] at hb
  by_cases hnc : (n : Int) = c0
  · subst hnc
    have hA1 := hA.below hb hlow.1
    have hI1 : ∀ i, i < n → IntsAt _ (A i) (L i) (F i) := fun i hi => (hI i hi).below hb (hlow.2 i hi)
    obtain ⟨b, off, rfl, hc⟩ := hA1.open (by omega)
    clear hA hI hA1 ho hlow
    have HI : Hid (∀ i, i < n → IntsAt _ (A i) (L i) (F i)) := hI1
    have HL : Hid (∀ i, i < n → L i ≤ 17592186044416) := hL
    have hL0 := hL 0 (by omega)
    have HC := hc
    have hc00 : _ = some (Value.slice (A 0) (L 0) (C 0)) := hc 0 (by omega)
    simp only [Nat.add_zero] at hc00
    clear hI1 hL hc
    cases h300 : within (L 0 : Int) lo hi
    rotate_left
    · go_enter Tryz.func122, Tryz.ntmps122
      go_wp2_with (go_at_call 70; refine (within_any _ _ _ _).mono ?_; rintro e w' ⟨rfl, rfl⟩)
      go_loop [11, 28] (fun _ i => ∃ k : Nat, k ≤ n ∧ i = .int .i64 k ∧ Hid (∀ i, i < k → L i = L 0 ∧ ∀ j, j < L i → fitsB d (F i j) = true)) (fun _ i => n - (intOf i).toNat)
      case atStart => exact ⟨0, Nat.zero_le _, rfl, fun i hi => absurd hi (by omega)⟩
      case round =>
        obtain ⟨k, hk, rfl, HK⟩ := hrel
        by_cases hlt : k < n
        · have hck := HC k hlt
          have hLk := HL.out k hlt
          have hIk := HI.out k hlt
          clear HC
          by_cases hLe : L k = L 0
          · have HE : Hid (L k = L 0) := hLe
            have ht : ((L k : Int) != (L 0 : Int)) = false := by simp [hLe]
            clear hLe
            by_cases hall : ∀ j, j < L k → fitsB d (F k j) = true
            · have HALL : Hid (∀ j, j < L k → fitsB d (F k j) = true) := hall
              clear hall
              go_wp2_with (go_at_call 192; refine (areSamples_any _ _ _ _ _ _ h1 h2 hLk hIk).mono ?_; rintro e w' ⟨he, rfl⟩; have he := he.true_of HALL.out; subst he)
              go_round
              case rel =>
                refine ⟨k + 1, by omega, by go_num, fun i hi => ?_⟩
                by_cases e : i = k
                · subst e; exact ⟨HE.out, HALL.out⟩
                · exact HK.out i (by omega)
              case measure => simp [intOf]; omega
            · have HALL : Hid (¬ ∀ j, j < L k → fitsB d (F k j) = true) := hall
              clear hall
              go_wp2_with (go_at_call 192; refine (areSamples_any _ _ _ _ _ _ h1 h2 hLk hIk).mono ?_; rintro e w' ⟨he, rfl⟩; have he := he.false_of HALL.out; subst he)
              go_ret
              exact ⟨Says.no (fun h => HALL.out (h.2.2 k hlt).2), hb⟩
          · have HE : Hid (¬ L k = L 0) := hLe
            have ht : ((L k : Int) != (L 0 : Int)) = true := by simp; omega
            clear hLe
            go_wp2
            go_ret
            exact ⟨Says.no (fun h => HE.out (h.2.2 k hlt).1), hb⟩
        · have e : k = n := by omega
          subst e
          go_wp2
          go_ret
          exact ⟨Says.yes ⟨rfl, h300, HK.out⟩, hb⟩
    · go_enter Tryz.func122, Tryz.ntmps122
      go_wp2_with (go_at_call 70; refine (within_any _ _ _ _).mono ?_; rintro e w' ⟨rfl, rfl⟩)
      go_ret
      exact ⟨Says.no (fun h => by rw [h.2.1] at h300; cases h300), hb⟩
  · have hne : ((n : Int) != c0) = true := by simpa using hnc
    go_enter Tryz.func122, Tryz.ntmps122
    go_wp2
    go_ret
    exact ⟨Says.no (fun h => hnc h.1), hb⟩
set_option maxHeartbeats 1000000 in
theorem isSound_any (c0 c2 c3 c4 c5 c6 c7 : Int) (d : Nat) (a : Option Addr) (n cap : Nat) (A : Nat → Option Addr) (L C : Nat → Nat) (F : Nat → Nat → Int) (w : World) (hc0 : 1 ≤ c0) (h1 : 1 ≤ d) (h2 : d ≤ 13) (hn : n ≤ 17592186044416) (hL : ∀ i, i < n → L i ≤ 17592186044416)
    (hA : ListsAt w a n A L C) (hI : ∀ i, i < n → IntsAt w (A i) (L i) (F i)) (hlow : Low w.heap.size a n A L) :
    Calls Tryz.prog 60 #[.agg #[.int .i64 c0, .int .i64 d, .int .i64 c2, .int .i64 c3, .int .i64 c4, .int .i64 c5, .int .i64 c6, .int .i64 c7], .slice a n cap] w fun e w' =>
      Says e (ChanP c0 d n 0 300 L F) ∧ Below w.heap.size w w' := by
  have hb : Below w.heap.size w (w.alloc (.cells #[.int .i64 c0, .int .i64 d, .int .i64 c2, .int .i64 c3, .int .i64 c4, .int .i64 c5, .int .i64 c6, .int .i64 c7] 23)) := (Below.refl _ _).alloc (Nat.le_refl _) _
  have HCC := Hid.mk' (areChannels_any 0 300 c0 c2 c3 c4 c5 c6 c7 d a n cap A L C F (w.alloc (.cells #[.int .i64 c0, .int .i64 d, .int .i64 c2, .int .i64 c3, .int .i64 c4, .int .i64 c5, .int .i64 c6, .int .i64 c7] 23)) hc0 h1 h2 hn hL (hA.below hb hlow.1) (fun i hi => (hI i hi).below hb (hlow.2 i hi)) ⟨fun x hx h0 => Nat.lt_of_lt_of_le (hlow.1 x hx h0) (by simp), fun i hi x hx h0 => Nat.lt_of_lt_of_le (hlow.2 i hi x hx h0) (by simp)⟩)
  have HB := Hid.mk' hb
  clear hA hI hlow hb hL
  go_enter Tryz.func60, Tryz.ntmps60
  go_wp2_with (go_at_call 122; refine HCC.out.mono ?_; rintro e w1 ⟨⟨r, rfl, hr⟩, hb1⟩; have HB1 := Hid.mk' (HB.out.trans (hb1.mono (by simp))); have HR := Hid.mk' hr; clear hb1 hr HCC)
  go_ret
  exact ⟨⟨r, rfl, HR.out⟩, HB1.out⟩
theorem rightB_d {c0 c1 c2 c3 c4 c5 c6 c7 : Int} (h : rightB c0 c1 c2 c3 c4 c5 c6 c7 = true) : 1 ≤ c0 ∧ c0 ≤ 4 ∧ (1 ≤ c2 ∧ c2 ≤ 32) ∧ ∃ d : Nat, c1 = (d : Int) ∧ 4 ≤ d ∧ d ≤ 12 := by
  simp only [rightB, Bool.and_eq_true, within_iff] at h
  exact ⟨h.1.1, h.1.2, h.2.2.1, c1.toNat, by omega, by omega, by omega⟩
end Go.Proofs.YtlncjgnomhpjnabGreatDoor

/-
  Numbers in bytes: bytenum.In and reelref.low.
-/
namespace Go.Proofs.YtlncjgnomhpjnabGreatDoor
open Go.RowKit Go.Deep
set_option linter.unusedVariables false
theorem in_step {w wr : World} {B v k j : Nat} (h : wr.rowIs B 5 k (fun i => .int .u8 (if k - 1 - i < j then ((inB v k i).toNat : Int) else 0))) (hj : j < k) :
    (wr.setCell ⟨B, k - 1 - j, none⟩ (.int .u8 ((v / 256 ^ j % 256 : Nat) : Int))).rowIs B 5 k (fun i => .int .u8 (if k - 1 - i < j + 1 then ((inB v k i).toNat : Int) else 0)) := by
  refine (h.set (k - 1 - j) _).congr fun i hi => ?_
  by_cases e : i = k - 1 - j
  · subst e
    rw [if_pos rfl, if_pos (by omega), inB_nat, show k - 1 - (k - 1 - j) = j by omega]
  · rw [if_neg e]
    by_cases e2 : k - 1 - i < j
    · rw [if_pos e2, if_pos (by omega)]
    · rw [if_neg e2, if_neg (by omega)]
set_option maxHeartbeats 1000000 in
theorem low_any (v k : Nat) (w : World) (hk : k ≤ 8) (hv : v < 4294967296) :
    Calls Tryz.prog 215 #[.int .i64 v, .int .i64 k] w fun e w' => e = .returned (.string (bs (inT v k))) ∧ Below w.heap.size w w' := by
  have hmk := run_make_row' (P := Tryz.prog) 33 5 (.int .u8 0) 1 Tryz.underlying33 infoByte rfl .i64 .i64 k (by omega) (by omega)
  have w2 : IntKind.i64.wrap ((k : Int) - 1) = (k : Int) - 1 := by rw [IntKind.wrap_i64]; omega
  have HS := Hid.mk' (strOf_in v k)
  have HCV := Hid.mk' (fun (u : World) h => run_rowString (P := Tryz.prog) u 33 9 5 w.heap.size 0 k k (inB v k) Tryz.underlying33 Tryz.underlying5 Tryz.underlying9 h)
  go_enter Tryz.func215, Tryz.ntmps215
  go_wp2
  clear hmk w2
  go_loopw [0, 6] (fun vv iv wr => ∃ j : Nat, j ≤ k ∧ iv = .int .i64 ((k : Int) - 1 - j) ∧ vv = .int .i64 ((v / 256 ^ j : Nat) : Int) ∧ Hid (wr.rowIs w.heap.size 5 k (fun i => .int .u8 (if k - 1 - i < j then ((inB v k i).toNat : Int) else 0)) ∧ Below w.heap.size w wr)) (fun _ iv _ => (intOf iv + 1).toNat)
  case atStart => exact ⟨0, by omega, by simp, by simp, (World.rowIs_made w (.int .u8 0) k 5).congr fun i _ => by rw [if_neg (by omega)], (Below.refl _ _).alloc (Nat.le_refl _) _⟩
  case round =>
    obtain ⟨j, hj, rfl, rfl, HR⟩ := hrel
    by_cases hlt : j < k
    · have hc1 := HR.out.1.cell (i := k - 1 - j) (by omega)
      have hf1 := HR.out.1.frozen (k - 1 - j)
      have hq : v / 256 ^ j ≤ v := Nat.div_le_self _ _
      have HQ : Hid (v / 256 ^ (j + 1) = v / 256 ^ j / 256) := by show _ = _; rw [Nat.pow_succ, Nat.div_div_eq_div_mul]
      have HK := Hid.mk' (in_step (w := w) HR.out.1 hlt)
      generalize v / 256 ^ j = q at *
      have t1 : ((k : Int) - 1 - (j : Int)).toNat = k - 1 - j := by omega
      have t2 : decide (0 ≤ (k : Int) - 1 - (j : Int)) = true := decide_eq_true (by omega)
      have l1 : 0 ≤ (k : Int) - 1 - (j : Int) := by omega
      have l2 : (k : Int) - 1 - (j : Int) < (k : Int) := by omega
      have v2 : IntKind.i64.wrap ((k : Int) - 1 - (j : Int) - 1) = (k : Int) - 1 - (j : Int) - 1 := by rw [IntKind.wrap_i64]; omega
      have m1 : ((q : Int)).tmod 256 = ((q % 256 : Nat) : Int) := by rw [Int.tmod_eq_emod_of_nonneg (by omega)]; omega
      have m2 : ((q : Int)).tdiv 256 = ((q / 256 : Nat) : Int) := by rw [Int.tdiv_eq_ediv_of_nonneg (by omega)]; omega
      have m3 : ((q : Int)) / 256 = ((q / 256 : Nat) : Int) := by omega
      have hq3 : q / 256 ≤ q := Nat.div_le_self _ _
      have HV6 : Hid (wrap64 ((q / 256 : Nat) : Int) = ((q / 256 : Nat) : Int)) := by show _ = _; unfold wrap64; omega
      have hq2 : q % 256 < 256 := Nat.mod_lt _ (by omega)
      have v4 : IntKind.u8.wrap (q : Int) = ((q % 256 : Nat) : Int) := by rw [IntKind.wrap_u8]; omega
      generalize q % 256 = r at *
      generalize q / 256 = q' at *
      have v5 : IntKind.u8.wrap (r : Int) = (r : Int) := by rw [IntKind.wrap_u8]; omega
      generalize hcv : (if k - 1 - (k - 1 - j) < j then ((inB v k (k - 1 - j)).toNat : Int) else 0) = oldv at hc1
      clear hcv
      go_wp2
      go_roundw
      case rel => exact ⟨j + 1, by omega, by congr 1; omega, by rw [HQ.out], HK.out, HR.out.2.setCell (Nat.le_refl _) _⟩
      case measure => simp [intOf]; omega
    · have e : j = k := by omega
      subst e
      have e1 : (j : Int) - 1 - (j : Int) = -1 := by omega
      rw [e1]
      clear e1
      have hcv := HCV.out wr (fun i hi => by
        have := HR.out.1.cell (i := i) hi
        rw [if_pos (by omega)] at this
        simpa using this)
      rw [HS.out] at hcv
      generalize v / 256 ^ j = q0 at *
      clear HCV
      go_wp2
      go_ret
      exact ⟨rfl, HR.out.2⟩
set_option maxHeartbeats 1000000 in
theorem in_any (v k : Nat) (w : World) (hk : k ≤ 8) (hv : v < 4294967296) :
    Calls Tryz.prog 195 #[.int .i64 v, .int .i64 k] w fun e w' => e = .returned (.string (bs (inT v k))) ∧ Below w.heap.size w w' := by
  have hmk := run_make_row' (P := Tryz.prog) 33 5 (.int .u8 0) 1 Tryz.underlying33 infoByte rfl .i64 .i64 k (by omega) (by omega)
  have w2 : IntKind.i64.wrap ((k : Int) - 1) = (k : Int) - 1 := by rw [IntKind.wrap_i64]; omega
  have HS := Hid.mk' (strOf_in v k)
  have HCV := Hid.mk' (fun (u : World) h => run_rowString (P := Tryz.prog) u 33 9 5 w.heap.size 0 k k (inB v k) Tryz.underlying33 Tryz.underlying5 Tryz.underlying9 h)
  go_enter Tryz.func195, Tryz.ntmps195
  go_wp2
  clear hmk w2
  go_loopw [0, 6] (fun vv iv wr => ∃ j : Nat, j ≤ k ∧ iv = .int .i64 ((k : Int) - 1 - j) ∧ vv = .int .i64 ((v / 256 ^ j : Nat) : Int) ∧ Hid (wr.rowIs w.heap.size 5 k (fun i => .int .u8 (if k - 1 - i < j then ((inB v k i).toNat : Int) else 0)) ∧ Below w.heap.size w wr)) (fun _ iv _ => (intOf iv + 1).toNat)
  case atStart => exact ⟨0, by omega, by simp, by simp, (World.rowIs_made w (.int .u8 0) k 5).congr fun i _ => by rw [if_neg (by omega)], (Below.refl _ _).alloc (Nat.le_refl _) _⟩
  case round =>
    obtain ⟨j, hj, rfl, rfl, HR⟩ := hrel
    by_cases hlt : j < k
    · have hc1 := HR.out.1.cell (i := k - 1 - j) (by omega)
      have hf1 := HR.out.1.frozen (k - 1 - j)
      have hq : v / 256 ^ j ≤ v := Nat.div_le_self _ _
      have HQ : Hid (v / 256 ^ (j + 1) = v / 256 ^ j / 256) := by show _ = _; rw [Nat.pow_succ, Nat.div_div_eq_div_mul]
      have HK := Hid.mk' (in_step (w := w) HR.out.1 hlt)
      generalize v / 256 ^ j = q at *
      have t1 : ((k : Int) - 1 - (j : Int)).toNat = k - 1 - j := by omega
      have t2 : decide (0 ≤ (k : Int) - 1 - (j : Int)) = true := decide_eq_true (by omega)
      have l1 : 0 ≤ (k : Int) - 1 - (j : Int) := by omega
      have l2 : (k : Int) - 1 - (j : Int) < (k : Int) := by omega
      have v2 : IntKind.i64.wrap ((k : Int) - 1 - (j : Int) - 1) = (k : Int) - 1 - (j : Int) - 1 := by rw [IntKind.wrap_i64]; omega
      have m1 : ((q : Int)).tmod 256 = ((q % 256 : Nat) : Int) := by rw [Int.tmod_eq_emod_of_nonneg (by omega)]; omega
      have m2 : ((q : Int)).tdiv 256 = ((q / 256 : Nat) : Int) := by rw [Int.tdiv_eq_ediv_of_nonneg (by omega)]; omega
      have m3 : ((q : Int)) / 256 = ((q / 256 : Nat) : Int) := by omega
      have hq3 : q / 256 ≤ q := Nat.div_le_self _ _
      have HV6 : Hid (wrap64 ((q / 256 : Nat) : Int) = ((q / 256 : Nat) : Int)) := by show _ = _; unfold wrap64; omega
      have hq2 : q % 256 < 256 := Nat.mod_lt _ (by omega)
      have v4 : IntKind.u8.wrap (q : Int) = ((q % 256 : Nat) : Int) := by rw [IntKind.wrap_u8]; omega
      generalize q % 256 = r at *
      generalize q / 256 = q' at *
      have v5 : IntKind.u8.wrap (r : Int) = (r : Int) := by rw [IntKind.wrap_u8]; omega
      generalize hcv : (if k - 1 - (k - 1 - j) < j then ((inB v k (k - 1 - j)).toNat : Int) else 0) = oldv at hc1
      clear hcv
      go_wp2
      go_roundw
      case rel => exact ⟨j + 1, by omega, by congr 1; omega, by rw [HQ.out], HK.out, HR.out.2.setCell (Nat.le_refl _) _⟩
      case measure => simp [intOf]; omega
    · have e : j = k := by omega
      subst e
      have e1 : (j : Int) - 1 - (j : Int) = -1 := by omega
      rw [e1]
      clear e1
      have hcv := HCV.out wr (fun i hi => by
        have := HR.out.1.cell (i := i) hi
        rw [if_pos (by omega)] at this
        simpa using this)
      rw [HS.out] at hcv
      generalize v / 256 ^ j = q0 at *
      clear HCV
      go_wp2
      go_ret
      exact ⟨rfl, HR.out.2⟩
end Go.Proofs.YtlncjgnomhpjnabGreatDoor

/-
  The seals: sums.SealByEight, sums.SealBySixteen.
-/
namespace Go.Proofs.YtlncjgnomhpjnabGreatDoor
open Go.RowKit Go.Deep
set_option linter.unusedVariables false
theorem crc_lt (k D : Nat) (l : List UInt8) : crc k D l < 2 ^ k := bitsNum_lt _ _
theorem bs_list (T : List UInt8) : (bs T).data.toList = T := by simp [bs]
theorem eight_bs (T : List UInt8) (w : World) (hs : T.length ≤ 2097152) :
    Calls Tryz.prog 216 #[.string (bs T)] w fun e w' => e = .returned (.int .i64 (crc 8 263 T)) ∧ w' = w := by
  have := eight_any (bs T) w (by rw [bs_size]; exact hs)
  rwa [bs_list] at this
theorem sixteen_bs (T : List UInt8) (w : World) (hs : T.length ≤ 2097152) :
    Calls Tryz.prog 196 #[.string (bs T)] w fun e w' => e = .returned (.int .i64 (crc 16 98309 T)) ∧ w' = w := by
  have := sixteen_any (bs T) w (by rw [bs_size]; exact hs)
  rwa [bs_list] at this
set_option maxHeartbeats 400000 in
theorem seal8_any (T : List UInt8) (w : World) (hs : T.length ≤ 1048576) :
    Calls Tryz.prog 197 #[.string (bs T)] w fun e w' => e = .returned (.string (bs (seal8 T))) ∧ Below w.heap.size w w' := by
  have hc : crc 8 263 T < 256 := crc_lt 8 263 T
  have HE := Hid.mk' (fun u => eight_bs T u (by omega))
  have HIN := Hid.mk' (fun u => in_any (crc 8 263 T) 1 u (by omega) (by omega))
  have HS : Hid (bs T ++ bs (inT (crc 8 263 T) 1) = bs (seal8 T)) := bs_append _ _
  have hz1 : (bs T).size ≤ 1048576 := by rw [bs_size]; exact hs
  have hz2 : (bs (inT (crc 8 263 T) 1)).size ≤ 1 := by rw [bs_size, inT_length]; omega
  generalize crc 8 263 T = C at *
  rw [← HS.out]
  generalize bs (inT C 1) = X at *
  generalize bs T = S at *
  clear HS
  go_enter Tryz.func197, Tryz.ntmps197
  go_wp2_with (first
    | (go_at_call 216; refine (HE.out _).mono ?_; rintro e w1 ⟨rfl, hw⟩; subst w1; clear HE)
    | (go_at_call 195; refine (HIN.out _).mono ?_; rintro e w2 ⟨rfl, hb2⟩; have HB2 := Hid.mk' hb2; clear hb2 HIN))
  go_ret
  exact ⟨rfl, HB2.out⟩
set_option maxHeartbeats 400000 in
theorem seal16_any (T : List UInt8) (w : World) (hs : T.length ≤ 1048576) :
    Calls Tryz.prog 125 #[.string (bs T)] w fun e w' => e = .returned (.string (bs (seal16 T))) ∧ Below w.heap.size w w' := by
  have hc : crc 16 98309 T < 65536 := crc_lt 16 98309 T
  have HE := Hid.mk' (fun u => sixteen_bs T u (by omega))
  have HIN := Hid.mk' (fun u => in_any (crc 16 98309 T) 2 u (by omega) (by omega))
  have HS : Hid (bs T ++ bs (inT (crc 16 98309 T) 2) = bs (seal16 T)) := bs_append _ _
  have hz1 : (bs T).size ≤ 1048576 := by rw [bs_size]; exact hs
  have hz2 : (bs (inT (crc 16 98309 T) 2)).size ≤ 2 := by rw [bs_size, inT_length]; omega
  generalize crc 16 98309 T = C at *
  rw [← HS.out]
  generalize bs (inT C 2) = X at *
  generalize bs T = S at *
  clear HS
  go_enter Tryz.func125, Tryz.ntmps125
  go_wp2_with (first
    | (go_at_call 196; refine (HE.out _).mono ?_; rintro e w1 ⟨rfl, hw⟩; subst w1; clear HE)
    | (go_at_call 195; refine (HIN.out _).mono ?_; rintro e w2 ⟨rfl, hb2⟩; have HB2 := Hid.mk' hb2; clear hb2 HIN))
  go_ret
  exact ⟨rfl, HB2.out⟩
end Go.Proofs.YtlncjgnomhpjnabGreatDoor

/-
  Texts that are built up: (*strings.Builder).WriteString, frame.codeAll.
-/
namespace Go.Proofs.YtlncjgnomhpjnabGreatDoor
open Go.RowKit Go.Deep
set_option linter.unusedVariables false
theorem builder_at_below {T e : TypeId} {B b : Nat} {p : Value} {xs : List Value} {w w' : World} (h : Lib.BuilderAtF T e B b p xs w) (hb : Below w.heap.size w w') : Lib.BuilderAtF T e B b p xs w' := by
  have hlt := h.lt
  obtain ⟨hB, v, hbk, hown, hne⟩ := h
  refine ⟨hB, v, (hb.block b hlt).trans hbk, ?_, hne⟩
  obtain ⟨hl, hr⟩ := hown
  refine ⟨hl, ?_⟩
  rcases hr with h0 | ⟨g, cap, cur, fz, h1, h2, h3, h4⟩
  · exact .inl h0
  · exact .inr ⟨g, cap, cur, fz, h1, h2, (hb.block g (Array.getElem?_eq_some_iff.1 h3).1).trans h3, h4⟩
theorem builder_below {T e : TypeId} {B b : Nat} {xs : List Value} {w w' : World} (h : Lib.IsBuilderF T e B b xs w) (hb : Below w.heap.size w w') : Lib.IsBuilderF T e B b xs w' :=
  h.elim (fun h => .inl (builder_at_below h hb)) (fun h => .inr (builder_at_below h hb))
set_option maxHeartbeats 2000000 in
set_option maxRecDepth 100000 in
theorem writeString_any (T : TypeId) (hT : Lies T) (B b : Nat) (xs : List Value) (s : ByteArray) (w : World) (h : Lib.IsBuilderF T 5 B b xs w) (hs : 0 < s.size) (hlen : xs.length + s.size ≤ 140737488355328) (hBw : B ≤ w.heap.size) :
    Calls Tryz.prog 200 #[.pointer (some ⟨b, 0, none⟩), .string s] w fun e w' => e = .returned (.tuple #[.int .i64 s.size, .nilIface]) ∧ (Lib.BuilderAtF T 5 B b (.pointer (some ⟨b, 0, none⟩)) (xs ++ Lib.strCells s) w' ∧ Below B w w') := by
  obtain ⟨i0, hi, hz0, hz1, hz2⟩ := info_parts infoByte
  have HH := Hid.mk' h
  clear h
  go_enter Tryz.func200, Tryz.ntmps200
  go_wp2_with (go_at_call 251; refine (copyCheck_any T hT B b xs _ HH.out).mono ?_)
  rintro e w1 ⟨rfl, h1, hb1, hk1⟩
  obtain ⟨hB, v, hbk, hown, hne⟩ := h1
  have c0 : w1.cell? ⟨b, 0, none⟩ = some (.pointer (some ⟨b, 0, none⟩)) := by rw [Lib.cell_of_heap hbk]; rfl
  have c1 : w1.cell? ⟨b, 1, none⟩ = some v := by rw [Lib.cell_of_heap hbk]; rfl
  go_wp2_with (at_builtin; refine Lib.wpList_append_own_stringF _ rfl _ _ 33 9 rfl B 5 i0 Tryz.underlying33 Tryz.underlying9 hi hz0 hz1 hz2 _ _ _ rfl hown s rfl ?c3 ?c4 ?c5 ?_)
  case c3 => unfold maxLen; omega
  case c4 => omega
  case c5 => have := hb1.size; omega
  intro v' w2 hown' hgrow _
  have hlt : b < w1.heap.size := (Array.getElem?_eq_some_iff.1 hbk).1
  have hb2 : w2.heap[b]? = some (.cells #[.pointer (some ⟨b, 0, none⟩), v] T (0, 0)) := by
    rw [hgrow.block b hlt (fun e => hne e.symm)]
    exact hbk
  have d0 : w2.cell? ⟨b, 0, none⟩ = some (.pointer (some ⟨b, 0, none⟩)) := by rw [Lib.cell_of_heap hb2]; rfl
  have d1 : w2.cell? ⟨b, 1, none⟩ = some v := by rw [Lib.cell_of_heap hb2]; rfl
  have f1 : w2.frozen? ⟨b, 1, none⟩ = false := Lib.frozen_of_heap hb2 1
  obtain ⟨g, cap, rfl⟩ : ∃ g cap, v' = .slice (some ⟨g, 0, none⟩) (xs.length + s.size) cap := by
    rcases hown'.2 with ⟨_, h0⟩ | ⟨g, cap, cur, fz, hv, _⟩
    · omega
    · exact ⟨g, cap, hv⟩
  go_wp2
  go_ret2
  refine ⟨rfl, ?_, ?_⟩
  · exact Lib.BuilderAtF.put (T := T) (e := 5) hB hb2 (bs' := xs ++ Lib.strCells s) (by rw [List.length_append, Lib.strCells_length]; exact hown') hT.2
  · exact ((hb1.grown hgrow (by have := hb1.size; omega) (fun k hk => (hown.lt k hk).1))).setCell (p := ⟨b, 1, none⟩) hB _
theorem cells_bs (T : List UInt8) : Lib.strCells (bs T) = Lib.byteCells T := by
  unfold Lib.strCells Lib.byteCells
  rw [bs_list]
theorem cells_app (T U : List UInt8) : Lib.byteCells T ++ Lib.byteCells U = Lib.byteCells (T ++ U) := by simp [Lib.byteCells]
theorem builder_new (w : World) : Lib.IsBuilderF 278 5 w.heap.size w.heap.size (Lib.byteCells []) (w.alloc (.cells #[.pointer none, .slice none 0 0] 278)) :=
  .inl ⟨Nat.le_refl _, .slice none 0 0, blk_alloc_new _ _, ⟨rfl, .inl ⟨rfl, rfl⟩⟩, by simp [Value.ownBlock]⟩
set_option maxHeartbeats 2000000 in
theorem codeAll_any (d : Nat) (a : Option Addr) (n cap : Nat) (A : Nat → Option Addr) (N : Nat) (C : Nat → Nat) (F : Nat → Nat → Int) (w : World) (hd1 : 1 ≤ d) (hd : d ≤ 12) (hn1 : 1 ≤ n) (hn4 : n ≤ 4) (hN1 : 1 ≤ N) (hN : N ≤ 32)
    (hf : ∀ i, i < n → ∀ j, j < N → fitsB d (F i j) = true) (hA : ListsAt w a n A (fun _ => N) C) (hI : ∀ i, i < n → IntsAt w (A i) N (F i)) (hlow : Low w.heap.size a n A (fun _ => N)) (hT : Tabs w) :
    Calls Tryz.prog 193 #[.int .i64 d, .slice a n cap] w fun e w' => e = .returned (.string (bs (allT d F N n))) ∧ Below w.heap.size w w' := by
  have HC := Hid.mk' (fun (u : World) (hu : Below w.heap.size w u) i (hi : i < n) => subCode_any (A i) N (C i) d (F i) u hN1 hN hd1 (by omega) (hf i hi) ((hI i hi).below hu (hlow.2 i hi)) (fun y hy h0 => Nat.lt_of_lt_of_le (hlow.2 i hi y hy h0) hu.size) (hT.below hu))
  have HA := Hid.mk' (fun (u : World) (hu : Below w.heap.size w u) => hA.below hu hlow.1)
  have HBD := Hid.mk' (allT_bd d F N hN1 hN hd)
  have HSB := Hid.mk' (fun i => subT_le' d (F i) N hN1 hN (by omega))
  have HNE : Hid (allT d F N n ≠ []) := fun h => by
    have := (allT_bd d F N hN1 hN hd n).1
    rw [h] at this; simp at this; omega
  obtain ⟨b, off, rfl, hcell⟩ := hA.open (by omega)
  have HCL := Hid.mk' hcell
  have HBL : Hid (b < w.heap.size) := by
    have := hlow.1 _ rfl (by omega : 0 < n)
    exact this
  clear hf hA hI hlow hT hcell
  go_enter Tryz.func193, Tryz.ntmps193
  go_wp2
  go_loopw [7, 10] (fun _ iv wr => ∃ i : Nat, i ≤ n ∧ iv = .int .i64 i ∧ Hid (Lib.IsBuilderF 278 5 w.heap.size w.heap.size (Lib.byteCells (allT d F N i)) wr ∧ Below w.heap.size w wr ∧ w.heap.size < wr.heap.size)) (fun _ iv _ => n - (intOf iv).toNat)
  case atStart => exact ⟨0, Nat.zero_le _, rfl, builder_new w, (Below.refl _ _).alloc (Nat.le_refl _) _, by simp⟩
  case round =>
    obtain ⟨i, hi, rfl, HR⟩ := hrel
    by_cases hlt : i < n
    · have hc1 : wr.cell? ⟨b, off + i, none⟩ = some (.slice (A i) N (C i)) := (HR.out.2.1.cell (p := ⟨b, off + i, none⟩) HBL.out).trans (HCL.out i hlt)
      have HC1 := Hid.mk' (fun (u : World) (hu : Below wr.heap.size wr u) => HC.out u (HR.out.2.1.trans (hu.mono HR.out.2.1.size)) i hlt)
      have HW := Hid.mk' (fun (u : World) (hu : Below wr.heap.size wr u) => writeString_any 278 lies_builder w.heap.size w.heap.size _ (bs (subT d (F i) N)) u (builder_below HR.out.1 hu) (by rw [bs_size]; have := subT_pos d (F i) N; omega) (by rw [Lib.byteCells_length, bs_size]; have := HSB.out i; have := (HBD.out i).2; omega) (Nat.le_trans HR.out.2.1.size hu.size))
      have HE : Hid (Lib.byteCells (allT d F N i) ++ Lib.strCells (bs (subT d (F i) N)) = Lib.byteCells (allT d F N (i + 1))) := by show _ = _; rw [cells_bs, cells_app]; rfl
      have hz : (bs (subT d (F i) N)).size ≤ 424 := by rw [bs_size]; exact HSB.out i
      generalize bs (subT d (F i) N) = S at *
      go_wp2_with (first
        | (go_at_call 221; refine (HC1.out _ ?_).mono ?_; (first | exact Below.refl _ _ | exact (Below.refl _ _).drew); rintro e w1 ⟨rfl, hb1⟩; have HB1 : Hid (Below wr.heap.size wr w1) := (⟨hb1.os, hb1.tape, hb1.output, hb1.size, hb1.block⟩ : Below wr.heap.size wr w1); clear hb1 HC1)
        | (go_at_call 200; refine (HW.out _ ?_).mono ?_; exact HB1.out; rintro e w2 ⟨rfl, hbl2, hb2⟩; have HB2 : Hid (Lib.IsBuilderF 278 5 w.heap.size w.heap.size (Lib.byteCells (allT d F N (i + 1))) w2 ∧ Below w.heap.size w w2 ∧ w.heap.size < w2.heap.size) := ⟨.inr (by rw [← HE.out]; exact hbl2), HR.out.2.1.trans ((HB1.out.mono HR.out.2.1.size).trans hb2), Nat.lt_of_lt_of_le HR.out.2.2 (Nat.le_trans HB1.out.size hb2.size)⟩; clear hbl2 hb2 HW))
      go_roundw
      case rel => exact ⟨i + 1, by omega, by go_num, HB2.out⟩
      case measure => simp [intOf]; omega
    · have e : i = n := by omega
      subst e
      have HST := Hid.mk' (fun (u : World) (hu : Below wr.heap.size wr u) => string_any 278 w.heap.size w.heap.size (allT d F N i) u (builder_below HR.out.1 hu) HNE.out)
      go_wp2_with (go_at_call 201; refine (HST.out _ ?_).mono ?_; (first | exact Below.refl _ _ | exact (Below.refl _ _).drew); rintro e w1 ⟨rfl, hb1⟩; have HB1 : Hid (Below w.heap.size w w1) := HR.out.2.1.trans ⟨hb1.os, hb1.tape, hb1.output, hb1.size, hb1.block⟩; clear hb1 HST)
      go_ret
      exact ⟨rfl, HB1.out⟩
end Go.Proofs.YtlncjgnomhpjnabGreatDoor

