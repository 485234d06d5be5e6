import Derived.Test.YtlncjgnomhpjnaaGreatDoorEJSub
/-
  What a right configuration, a sound and a block are, in the program.
-/
namespace Go.Proofs.YtlncjgnomhpjnaaGreatDoor
open Go.RowKit Go.Deep
set_option linter.unusedVariables false

theorem bcell {W w1 : World} (hb : Below W.heap.size W w1) : (∀ b o, b < W.heap.size → w1.cell? ⟨b, o, none⟩ = W.cell? ⟨b, o, none⟩) ∧ (∀ b o, b < W.heap.size → w1.frozen? ⟨b, o, none⟩ = W.frozen? ⟨b, o, none⟩) :=
  ⟨fun b o h => hb.cell (p := ⟨b, o, none⟩) h, fun b o h => hb.frozen (p := ⟨b, o, none⟩) h⟩

/-- the eight numbers of a right configuration -/
def rightB (c0 c1 c2 c3 c4 c5 c6 c7 : Int) : Bool :=
  within c0 1 4 && (within c1 4 12 && (within c2 1 32 && (within c3 0 65535 && (within c4 0 255 && (within c5 1 8 && (within c6 1 16 && within c7 1 8))))))

/-- what a head may say -/
def infoB (c0 c1 c2 c3 c4 s : Int) : Bool :=
  within c0 1 4 && (within c1 4 12 && (within c2 1 32 && (within c3 0 65535 && (within c4 0 255 && within s 0 300))))

set_option maxHeartbeats 1000000 in
theorem infoOf_any (c0 c1 c2 c3 c4 c5 c6 c7 s : Int) (w : World) :
    Calls Tryz.prog 82 #[.agg #[.int .i64 c0, .int .i64 c1, .int .i64 c2, .int .i64 c3, .int .i64 c4, .int .i64 c5, .int .i64 c6, .int .i64 c7], .int .i64 s] w fun e w' =>
      e = .returned (.agg #[.int .i64 c0, .int .i64 c1, .int .i64 c2, .int .i64 c3, .int .i64 c4, .int .i64 s]) ∧ Below w.heap.size w w' := by
  go_enter Tryz.func82, Tryz.ntmps82
  go_wp2
  exact bodyPost_ret (v := .agg #[.int .i64 c0, .int .i64 c1, .int .i64 c2, .int .i64 c3, .int .i64 c4, .int .i64 s]) (by simp [results, Tryz.results82, go_sem]) rfl ⟨rfl, ((Below.refl _ _).alloc (Nat.le_refl _) _).alloc (by simp) _⟩

set_option maxHeartbeats 1000000 in
theorem rightInfo_any (c0 c1 c2 c3 c4 s : Int) (w : World) :
    Calls Tryz.prog 101 #[.agg #[.int .i64 c0, .int .i64 c1, .int .i64 c2, .int .i64 c3, .int .i64 c4, .int .i64 s]] w fun e w' =>
      e = .returned (.bool (infoB c0 c1 c2 c3 c4 s)) ∧ Below w.heap.size w w' := by
  have fin : ∀ o, Below w.heap.size w (w.alloc o) := fun o => (Below.refl _ _).alloc (Nat.le_refl _) _
  cases h0 : within c0 1 4
  · go_enter Tryz.func101, Tryz.ntmps101
    go_wp2_with (go_at_call 62; refine (within_any _ _ _ _).mono ?_; rintro e w' ⟨rfl, rfl⟩)
    go_ret
    exact ⟨ret_bool (by simp [infoB, h0]), fin _⟩
  cases h1 : within c1 4 12
  · go_enter Tryz.func101, Tryz.ntmps101
    go_wp2_with (go_at_call 62; refine (within_any _ _ _ _).mono ?_; rintro e w' ⟨rfl, rfl⟩)
    go_ret
    exact ⟨ret_bool (by simp [infoB, h0, h1]), fin _⟩
  cases h2 : within c2 1 32
  · go_enter Tryz.func101, Tryz.ntmps101
    go_wp2_with (go_at_call 62; refine (within_any _ _ _ _).mono ?_; rintro e w' ⟨rfl, rfl⟩)
    go_ret
    exact ⟨ret_bool (by simp [infoB, h0, h1, h2]), fin _⟩
  cases h3 : within c3 0 65535
  · go_enter Tryz.func101, Tryz.ntmps101
    go_wp2_with (go_at_call 62; refine (within_any _ _ _ _).mono ?_; rintro e w' ⟨rfl, rfl⟩)
    go_ret
    exact ⟨ret_bool (by simp [infoB, h0, h1, h2, h3]), fin _⟩
  cases h4 : within c4 0 255
  · go_enter Tryz.func101, Tryz.ntmps101
    go_wp2_with (go_at_call 62; refine (within_any _ _ _ _).mono ?_; rintro e w' ⟨rfl, rfl⟩)
    go_ret
    exact ⟨ret_bool (by simp [infoB, h0, h1, h2, h3, h4]), fin _⟩
  go_enter Tryz.func101, Tryz.ntmps101
  go_wp2_with (go_at_call 62; refine (within_any _ _ _ _).mono ?_; rintro e w' ⟨rfl, rfl⟩)
  go_ret
  exact ⟨ret_bool (by simp [infoB, h0, h1, h2, h3, h4]), fin _⟩

theorem rightB_info (c0 c1 c2 c3 c4 c5 c6 c7 : Int) : rightB c0 c1 c2 c3 c4 c5 c6 c7 = (infoB c0 c1 c2 c3 c4 0 && (within c5 1 8 && (within c6 1 16 && within c7 1 8))) := by
  simp only [rightB, infoB, Bool.and_assoc]
  have : within 0 0 300 = true := by decide
  rw [this]; simp

set_option maxHeartbeats 1000000 in
theorem rightConfig_any (c0 c1 c2 c3 c4 c5 c6 c7 : Int) (w : World) :
    Calls Tryz.prog 61 #[.agg #[.int .i64 c0, .int .i64 c1, .int .i64 c2, .int .i64 c3, .int .i64 c4, .int .i64 c5, .int .i64 c6, .int .i64 c7]] w fun e w' =>
      e = .returned (.bool (rightB c0 c1 c2 c3 c4 c5 c6 c7)) ∧ Below w.heap.size w w' := by
  rw [rightB_info]
  have hb : Below w.heap.size w (w.alloc (.cells #[.int .i64 c0, .int .i64 c1, .int .i64 c2, .int .i64 c3, .int .i64 c4, .int .i64 c5, .int .i64 c6, .int .i64 c7] 23)) := (Below.refl _ _).alloc (Nat.le_refl _) _
  have HB := Hid.mk' hb
  clear hb
  have HR := Hid.mk' (fun u => rightInfo_any c0 c1 c2 c3 c4 0 u)
  cases h0 : infoB c0 c1 c2 c3 c4 0
  · rw [h0] at HR
    go_enter Tryz.func61, Tryz.ntmps61
    go_wp2_with (first
      | (go_at_call 82; refine (infoOf_any _ _ _ _ _ _ _ _ _ _).mono ?_; rintro e w1 ⟨rfl, hb1⟩; obtain ⟨hcl1, hfr1⟩ := bcell hb1; have HB1 := Hid.mk' (HB.out.trans (hb1.mono (by simp))); have hs1 : w.heap.size < w1.heap.size := by {have := hb1.size; simp at this; omega}; clear hb1 HB hfr1)
      | (go_at_call 101; refine (HR.out _).mono ?_; rintro e w2 ⟨rfl, hb2⟩; obtain ⟨hcl2, hfr2⟩ := bcell hb2; have HB2 := Hid.mk' (HB1.out.trans (hb2.mono HB1.out.size)); have hs2 : w.heap.size < w2.heap.size := Nat.lt_of_lt_of_le hs1 hb2.size; clear hb2 hfr2)
      | (go_at_call 62; refine (within_any _ _ _ _).mono ?_; rintro e w' ⟨rfl, rfl⟩))
    go_ret
    exact ⟨ret_bool (by simp), HB2.out⟩
  rw [h0] at HR
  cases h1 : within c5 1 8
  · go_enter Tryz.func61, Tryz.ntmps61
    go_wp2_with (first
      | (go_at_call 82; refine (infoOf_any _ _ _ _ _ _ _ _ _ _).mono ?_; rintro e w1 ⟨rfl, hb1⟩; obtain ⟨hcl1, hfr1⟩ := bcell hb1; have HB1 := Hid.mk' (HB.out.trans (hb1.mono (by simp))); have hs1 : w.heap.size < w1.heap.size := by {have := hb1.size; simp at this; omega}; clear hb1 HB hfr1)
      | (go_at_call 101; refine (HR.out _).mono ?_; rintro e w2 ⟨rfl, hb2⟩; obtain ⟨hcl2, hfr2⟩ := bcell hb2; have HB2 := Hid.mk' (HB1.out.trans (hb2.mono HB1.out.size)); have hs2 : w.heap.size < w2.heap.size := Nat.lt_of_lt_of_le hs1 hb2.size; clear hb2 hfr2)
      | (go_at_call 62; refine (within_any _ _ _ _).mono ?_; rintro e w' ⟨rfl, rfl⟩))
    go_ret
    exact ⟨ret_bool (by simp), HB2.out⟩
  cases h2 : within c6 1 16
  · go_enter Tryz.func61, Tryz.ntmps61
    go_wp2_with (first
      | (go_at_call 82; refine (infoOf_any _ _ _ _ _ _ _ _ _ _).mono ?_; rintro e w1 ⟨rfl, hb1⟩; obtain ⟨hcl1, hfr1⟩ := bcell hb1; have HB1 := Hid.mk' (HB.out.trans (hb1.mono (by simp))); have hs1 : w.heap.size < w1.heap.size := by {have := hb1.size; simp at this; omega}; clear hb1 HB hfr1)
      | (go_at_call 101; refine (HR.out _).mono ?_; rintro e w2 ⟨rfl, hb2⟩; obtain ⟨hcl2, hfr2⟩ := bcell hb2; have HB2 := Hid.mk' (HB1.out.trans (hb2.mono HB1.out.size)); have hs2 : w.heap.size < w2.heap.size := Nat.lt_of_lt_of_le hs1 hb2.size; clear hb2 hfr2)
      | (go_at_call 62; refine (within_any _ _ _ _).mono ?_; rintro e w' ⟨rfl, rfl⟩))
    go_ret
    exact ⟨ret_bool (by simp), HB2.out⟩
  go_enter Tryz.func61, Tryz.ntmps61
  go_wp2_with (first
    | (go_at_call 82; refine (infoOf_any _ _ _ _ _ _ _ _ _ _).mono ?_; rintro e w1 ⟨rfl, hb1⟩; obtain ⟨hcl1, hfr1⟩ := bcell hb1; have HB1 := Hid.mk' (HB.out.trans (hb1.mono (by simp))); have hs1 : w.heap.size < w1.heap.size := by {have := hb1.size; simp at this; omega}; clear hb1 HB hfr1)
    | (go_at_call 101; refine (HR.out _).mono ?_; rintro e w2 ⟨rfl, hb2⟩; obtain ⟨hcl2, hfr2⟩ := bcell hb2; have HB2 := Hid.mk' (HB1.out.trans (hb2.mono HB1.out.size)); have hs2 : w.heap.size < w2.heap.size := Nat.lt_of_lt_of_le hs1 hb2.size; clear hb2 hfr2)
    | (go_at_call 62; refine (within_any _ _ _ _).mono ?_; rintro e w' ⟨rfl, rfl⟩))
  go_ret
  exact ⟨ret_bool (by simp), HB2.out⟩

/-- what a slice of slices of numbers holds -/
def ListsAt (w : World) (a : Option Addr) (n : Nat) (A : Nat → Option Addr) (L C : Nat → Nat) : Prop := ∀ i, i < n → ∃ x, a = some x ∧ w.cell? (x.add i) = some (.slice (A i) (L i) (C i))
theorem ListsAt.open {w : World} {a : Option Addr} {n : Nat} {A : Nat → Option Addr} {L C : Nat → Nat} (h : ListsAt w a n A L C) (hn : 0 < n) :
    ∃ b off, a = some ⟨b, off, none⟩ ∧ ∀ i, i < n → w.cell? ⟨b, off + i, none⟩ = some (.slice (A i) (L i) (C i)) := by
  obtain ⟨⟨b, off, sp⟩, rfl, hc⟩ := h 0 hn
  have hs : sp = none := by simpa [Addr.add] using World.cell?_spot hc
  subst hs
  refine ⟨b, off, rfl, fun i hi => ?_⟩
  obtain ⟨x, hx, hc⟩ := h i hi
  cases hx
  rw [← hc]
  cases i <;> simp [Addr.add]
/-- lists that lie below a block -/
def Low (B : Nat) (a : Option Addr) (n : Nat) (A : Nat → Option Addr) (L : Nat → Nat) : Prop := (∀ x, a = some x → 0 < n → x.block < B) ∧ ∀ i, i < n → ∀ x, A i = some x → 0 < L i → x.block < B
theorem IntsAt.below {w w' : World} {B : Nat} {a : Option Addr} {n : Nat} {f : Nat → Int} (h : IntsAt w a n f) (hb : Below B w w') (hl : ∀ x, a = some x → 0 < n → x.block < B) : IntsAt w' a n f := fun i hi => by
  obtain ⟨x, hx, hc⟩ := h i hi
  refine ⟨x, hx, ?_⟩
  rw [hb.cell (by have := hl x hx (by omega); cases i <;> simpa [Addr.add] using this), hc]
theorem ListsAt.below {w w' : World} {B : Nat} {a : Option Addr} {n : Nat} {A : Nat → Option Addr} {L C : Nat → Nat} (h : ListsAt w a n A L C) (hb : Below B w w') (hl : ∀ x, a = some x → 0 < n → x.block < B) : ListsAt w' a n A L C := fun i hi => by
  obtain ⟨x, hx, hc⟩ := h i hi
  refine ⟨x, hx, ?_⟩
  rw [hb.cell (by have := hl x hx (by omega); cases i <;> simpa [Addr.add] using this), hc]

theorem areSamples_any (d : Nat) (a : Option Addr) (n c : Nat) (f : Nat → Int) (w : World) (h1 : 1 ≤ d) (h2 : d ≤ 13) (hn : n ≤ 17592186044416) (hI : IntsAt w a n f) :
    Calls Tryz.prog 102 #[.int .i64 d, .slice a n c] w fun e w' => Says e (∀ i, i < n → fitsB d (f i) = true) ∧ w' = w :=
  (areS_any d a n c f w h1 h2 hn hI).mono fun e w' h => ⟨⟨_, h.1, allFit_iff d f n⟩, h.2⟩

/-- the lists are channels, all of one length from lo to hi -/
def ChanP (c0 : Int) (d n : Nat) (lo hi : Int) (L : Nat → Nat) (F : Nat → Nat → Int) : Prop :=
  (n : Int) = c0 ∧ within (L 0 : Int) lo hi = true ∧ ∀ i, i < n → L i = L 0 ∧ ∀ j, j < L i → fitsB d (F i j) = true

set_option maxHeartbeats 1000000 in
theorem areChannels_any (lo hi : Int) (c0 c2 c3 c4 c5 c6 c7 : Int) (d : Nat) (a : Option Addr) (n cap : Nat) (A : Nat → Option Addr) (L C : Nat → Nat) (F : Nat → Nat → Int) (w : World) (hc0 : 1 ≤ c0) (h1 : 1 ≤ d) (h2 : d ≤ 13) (hn : n ≤ 17592186044416) (hL : ∀ i, i < n → L i ≤ 17592186044416)
    (hA : ListsAt w a n A L C) (hI : ∀ i, i < n → IntsAt w (A i) (L i) (F i)) (hlow : Low w.heap.size a n A L) :
    Calls Tryz.prog 63 #[.agg #[.int .i64 c0, .int .i64 d, .int .i64 c2, .int .i64 c3, .int .i64 c4, .int .i64 c5, .int .i64 c6, .int .i64 c7], .slice a n cap, .int .i64 lo, .int .i64 hi] w fun e w' =>
      Says e (ChanP c0 d n lo hi L F) ∧ Below w.heap.size w w' := by
  obtain ⟨o, ho⟩ : ∃ o, o = Obj.cells #[.int .i64 c0, .int .i64 d, .int .i64 c2, .int .i64 c3, .int .i64 c4, .int .i64 c5, .int .i64 c6, .int .i64 c7] 23 := ⟨_, rfl⟩
  have hb : Below w.heap.size w (w.alloc o) := (Below.refl _ _).alloc (Nat.le_refl _) _
  rw [ho] at hb
  by_cases hnc : (n : Int) = c0
  · subst hnc
    have hA1 := hA.below hb hlow.1
    have hI1 : ∀ i, i < n → IntsAt _ (A i) (L i) (F i) := fun i hi => (hI i hi).below hb (hlow.2 i hi)
    obtain ⟨b, off, rfl, hc⟩ := hA1.open (by omega)
    clear hA hI hA1 ho hlow
    have HI : Hid (∀ i, i < n → IntsAt _ (A i) (L i) (F i)) := hI1
    have HL : Hid (∀ i, i < n → L i ≤ 17592186044416) := hL
    have hL0 := hL 0 (by omega)
    have HC := hc
    have hc00 : _ = some (Value.slice (A 0) (L 0) (C 0)) := hc 0 (by omega)
    simp only [Nat.add_zero] at hc00
    clear hI1 hL hc
    cases h300 : within (L 0 : Int) lo hi
    rotate_left
    · go_enter Tryz.func63, Tryz.ntmps63
      go_wp2_with (go_at_call 62; refine (within_any _ _ _ _).mono ?_; rintro e w' ⟨rfl, rfl⟩)
      go_loop [11, 28] (fun _ i => ∃ k : Nat, k ≤ n ∧ i = .int .i64 k ∧ Hid (∀ i, i < k → L i = L 0 ∧ ∀ j, j < L i → fitsB d (F i j) = true)) (fun _ i => n - (intOf i).toNat)
      case atStart => exact ⟨0, Nat.zero_le _, rfl, fun i hi => absurd hi (by omega)⟩
      case round =>
        obtain ⟨k, hk, rfl, HK⟩ := hrel
        by_cases hlt : k < n
        · have hck := HC k hlt
          have hLk := HL.out k hlt
          have hIk := HI.out k hlt
          clear HC
          by_cases hLe : L k = L 0
          · have HE : Hid (L k = L 0) := hLe
            have ht : ((L k : Int) != (L 0 : Int)) = false := by simp [hLe]
            clear hLe
            by_cases hall : ∀ j, j < L k → fitsB d (F k j) = true
            · have HALL : Hid (∀ j, j < L k → fitsB d (F k j) = true) := hall
              clear hall
              go_wp2_with (go_at_call 102; refine (areSamples_any _ _ _ _ _ _ h1 h2 hLk hIk).mono ?_; rintro e w' ⟨he, rfl⟩; have he := he.true_of HALL.out; subst he)
              go_round
              case rel =>
                refine ⟨k + 1, by omega, by go_num, fun i hi => ?_⟩
                by_cases e : i = k
                · subst e; exact ⟨HE.out, HALL.out⟩
                · exact HK.out i (by omega)
              case measure => simp [intOf]; omega
            · have HALL : Hid (¬ ∀ j, j < L k → fitsB d (F k j) = true) := hall
              clear hall
              go_wp2_with (go_at_call 102; refine (areSamples_any _ _ _ _ _ _ h1 h2 hLk hIk).mono ?_; rintro e w' ⟨he, rfl⟩; have he := he.false_of HALL.out; subst he)
              go_ret
              exact ⟨Says.no (fun h => HALL.out (h.2.2 k hlt).2), hb⟩
          · have HE : Hid (¬ L k = L 0) := hLe
            have ht : ((L k : Int) != (L 0 : Int)) = true := by simp; omega
            clear hLe
            go_wp2
            go_ret
            exact ⟨Says.no (fun h => HE.out (h.2.2 k hlt).1), hb⟩
        · have e : k = n := by omega
          subst e
          go_wp2
          go_ret
          exact ⟨Says.yes ⟨rfl, h300, HK.out⟩, hb⟩
    · go_enter Tryz.func63, Tryz.ntmps63
      go_wp2_with (go_at_call 62; refine (within_any _ _ _ _).mono ?_; rintro e w' ⟨rfl, rfl⟩)
      go_ret
      exact ⟨Says.no (fun h => by rw [h.2.1] at h300; cases h300), hb⟩
  · have hne : ((n : Int) != c0) = true := by simpa using hnc
    go_enter Tryz.func63, Tryz.ntmps63
    go_wp2
    go_ret
    exact ⟨Says.no (fun h => hnc h.1), hb⟩

set_option maxHeartbeats 1000000 in
theorem isBlock_any (c0 c2 c3 c4 c5 c6 c7 : Int) (d : Nat) (a : Option Addr) (n cap : Nat) (A : Nat → Option Addr) (L C : Nat → Nat) (F : Nat → Nat → Int) (w : World) (hc0 : 1 ≤ c0) (h1 : 1 ≤ d) (h2 : d ≤ 13) (hn : n ≤ 17592186044416) (hL : ∀ i, i < n → L i ≤ 17592186044416)
    (hA : ListsAt w a n A L C) (hI : ∀ i, i < n → IntsAt w (A i) (L i) (F i)) (hlow : Low w.heap.size a n A L) :
    Calls Tryz.prog 37 #[.agg #[.int .i64 c0, .int .i64 d, .int .i64 c2, .int .i64 c3, .int .i64 c4, .int .i64 c5, .int .i64 c6, .int .i64 c7], .slice a n cap] w fun e w' =>
      Says e (ChanP c0 d n 1 c2 L F) ∧ Below w.heap.size w w' := by
  have hb : Below w.heap.size w (w.alloc (.cells #[.int .i64 c0, .int .i64 d, .int .i64 c2, .int .i64 c3, .int .i64 c4, .int .i64 c5, .int .i64 c6, .int .i64 c7] 23)) := (Below.refl _ _).alloc (Nat.le_refl _) _
  have HCC := Hid.mk' (areChannels_any 1 c2 c0 c2 c3 c4 c5 c6 c7 d a n cap A L C F (w.alloc (.cells #[.int .i64 c0, .int .i64 d, .int .i64 c2, .int .i64 c3, .int .i64 c4, .int .i64 c5, .int .i64 c6, .int .i64 c7] 23)) hc0 h1 h2 hn hL (hA.below hb hlow.1) (fun i hi => (hI i hi).below hb (hlow.2 i hi)) ⟨fun x hx h0 => Nat.lt_of_lt_of_le (hlow.1 x hx h0) (by simp), fun i hi x hx h0 => Nat.lt_of_lt_of_le (hlow.2 i hi x hx h0) (by simp)⟩)
  have HB := Hid.mk' hb
  clear hA hI hlow hb hL
  go_enter Tryz.func37, Tryz.ntmps37
  go_wp2_with (go_at_call 63; refine HCC.out.mono ?_; rintro e w1 ⟨⟨r, rfl, hr⟩, hb1⟩; have HB1 := Hid.mk' (HB.out.trans (hb1.mono (by simp))); have HR := Hid.mk' hr; clear hb1 hr HCC)
  go_ret
  exact ⟨⟨r, rfl, HR.out⟩, HB1.out⟩

set_option maxHeartbeats 1000000 in
theorem isSound_any (c0 c2 c3 c4 c5 c6 c7 : Int) (d : Nat) (a : Option Addr) (n cap : Nat) (A : Nat → Option Addr) (L C : Nat → Nat) (F : Nat → Nat → Int) (w : World) (hc0 : 1 ≤ c0) (h1 : 1 ≤ d) (h2 : d ≤ 13) (hn : n ≤ 17592186044416) (hL : ∀ i, i < n → L i ≤ 17592186044416)
    (hA : ListsAt w a n A L C) (hI : ∀ i, i < n → IntsAt w (A i) (L i) (F i)) (hlow : Low w.heap.size a n A L) :
    Calls Tryz.prog 81 #[.agg #[.int .i64 c0, .int .i64 d, .int .i64 c2, .int .i64 c3, .int .i64 c4, .int .i64 c5, .int .i64 c6, .int .i64 c7], .slice a n cap] w fun e w' =>
      Says e (ChanP c0 d n 0 300 L F) ∧ Below w.heap.size w w' := by
  have hb : Below w.heap.size w (w.alloc (.cells #[.int .i64 c0, .int .i64 d, .int .i64 c2, .int .i64 c3, .int .i64 c4, .int .i64 c5, .int .i64 c6, .int .i64 c7] 23)) := (Below.refl _ _).alloc (Nat.le_refl _) _
  have HCC := Hid.mk' (areChannels_any 0 300 c0 c2 c3 c4 c5 c6 c7 d a n cap A L C F (w.alloc (.cells #[.int .i64 c0, .int .i64 d, .int .i64 c2, .int .i64 c3, .int .i64 c4, .int .i64 c5, .int .i64 c6, .int .i64 c7] 23)) hc0 h1 h2 hn hL (hA.below hb hlow.1) (fun i hi => (hI i hi).below hb (hlow.2 i hi)) ⟨fun x hx h0 => Nat.lt_of_lt_of_le (hlow.1 x hx h0) (by simp), fun i hi x hx h0 => Nat.lt_of_lt_of_le (hlow.2 i hi x hx h0) (by simp)⟩)
  have HB := Hid.mk' hb
  clear hA hI hlow hb hL
  go_enter Tryz.func81, Tryz.ntmps81
  go_wp2_with (go_at_call 63; refine HCC.out.mono ?_; rintro e w1 ⟨⟨r, rfl, hr⟩, hb1⟩; have HB1 := Hid.mk' (HB.out.trans (hb1.mono (by simp))); have HR := Hid.mk' hr; clear hb1 hr HCC)
  go_ret
  exact ⟨⟨r, rfl, HR.out⟩, HB1.out⟩

theorem rightB_d {c0 c1 c2 c3 c4 c5 c6 c7 : Int} (h : rightB c0 c1 c2 c3 c4 c5 c6 c7 = true) : 1 ≤ c0 ∧ c0 ≤ 4 ∧ (1 ≤ c2 ∧ c2 ≤ 32) ∧ ∃ d : Nat, c1 = (d : Int) ∧ 4 ≤ d ∧ d ≤ 12 := by
  simp only [rightB, Bool.and_eq_true, within_iff] at h
  exact ⟨h.1.1, h.1.2, h.2.2.1, c1.toNat, by omega, by omega, by omega⟩
end Go.Proofs.YtlncjgnomhpjnaaGreatDoor

