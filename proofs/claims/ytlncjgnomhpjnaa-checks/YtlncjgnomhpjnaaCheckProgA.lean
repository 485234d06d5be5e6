/-
  'Check' of the program: package limits and reel.Check.
-/
import Derived.Test.YtlncjgnomhpjnaaLent
namespace Go.Proofs.Ytlncjgnomhpjnaa
open Go.RowKit Go.Deep

theorem hidM {p : Prop} (h : p) : Hid p := h
theorem ret_bool {a b : Bool} (h : a = b) : Ending.returned (.bool a) = .returned (.bool b) := by rw [h]

theorem bcell {W w1 : World} (hb : Below W.heap.size W w1) : (∀ b o, b < W.heap.size → w1.cell? ⟨b, o, none⟩ = W.cell? ⟨b, o, none⟩) ∧ (∀ b o, b < W.heap.size → w1.frozen? ⟨b, o, none⟩ = W.frozen? ⟨b, o, none⟩) :=
  ⟨fun b o h => hb.cell (p := ⟨b, o, none⟩) h, fun b o h => hb.frozen (p := ⟨b, o, none⟩) h⟩

/-- the call answers whether p is so -/
def Says (e : Ending) (p : Prop) : Prop := ∃ b : Bool, e = .returned (.bool b) ∧ (b = true ↔ p)
theorem Says.yes {p : Prop} (h : p) : Says (.returned (.bool true)) p := ⟨true, rfl, by simp [h]⟩
theorem Says.no {p : Prop} (h : ¬ p) : Says (.returned (.bool false)) p := ⟨false, rfl, by simp [h]⟩

theorem Says.true_of {e : Ending} {p : Prop} (h : Says e p) (hp : p) : e = .returned (.bool true) := by
  obtain ⟨b, rfl, hb⟩ := h
  rw [hb.2 hp]
theorem Says.false_of {e : Ending} {p : Prop} (h : Says e p) (hp : ¬ p) : e = .returned (.bool false) := by
  obtain ⟨b, rfl, hb⟩ := h
  cases b
  · rfl
  · exact absurd (hb.1 rfl) hp
theorem ipow_le (d m : Nat) (h : 2 ^ d ≤ m) : (2 : Int) ^ d ≤ (m : Int) := by
  have e : ((2 ^ d : Nat) : Int) = (2 : Int) ^ d := by simp
  rw [← e]; exact Int.ofNat_le.2 h

def within (v lo hi : Int) : Bool := decide (lo ≤ v) && decide (v ≤ hi)
theorem within_iff (v lo hi : Int) : within v lo hi = true ↔ lo ≤ v ∧ v ≤ hi := by simp [within]

theorem within_any (v lo hi : Int) (w : World) :
    Calls Try.prog 26 #[.int .i64 v, .int .i64 lo, .int .i64 hi] w fun e w' => e = .returned (.bool (within v lo hi)) ∧ w' = w := by
  by_cases h : lo ≤ v
  · go_enter Try.func26, Try.ntmps26
    go_wp2
    go_ret
    exact ⟨ret_bool (by simp [within, h]), rfl⟩
  · have hd : decide (lo ≤ v) = false := decide_eq_false h
    go_enter Try.func26, Try.ntmps26
    go_wp2
    go_ret
    exact ⟨ret_bool (by simp [within]; omega), rfl⟩

/-- the eight numbers of a right configuration -/
def rightB (c0 c1 c2 c3 c4 c5 c6 c7 : Int) : Bool :=
  within c0 1 4 && (within c1 4 12 && (within c2 1 32 && (within c3 0 65535 && (within c4 0 255 && (within c5 1 8 && (within c6 1 16 && within c7 1 8))))))

/-- what a head may say -/
def infoB (c0 c1 c2 c3 c4 s : Int) : Bool :=
  within c0 1 4 && (within c1 4 12 && (within c2 1 32 && (within c3 0 65535 && (within c4 0 255 && within s 0 300))))

set_option maxHeartbeats 1000000 in
theorem infoOf_any (c0 c1 c2 c3 c4 c5 c6 c7 s : Int) (w : World) :
    Calls Try.prog 25 #[.agg #[.int .i64 c0, .int .i64 c1, .int .i64 c2, .int .i64 c3, .int .i64 c4, .int .i64 c5, .int .i64 c6, .int .i64 c7], .int .i64 s] w fun e w' =>
      e = .returned (.agg #[.int .i64 c0, .int .i64 c1, .int .i64 c2, .int .i64 c3, .int .i64 c4, .int .i64 s]) ∧ Below w.heap.size w w' := by
  go_enter Try.func25, Try.ntmps25
  go_wp2
  exact bodyPost_ret (v := .agg #[.int .i64 c0, .int .i64 c1, .int .i64 c2, .int .i64 c3, .int .i64 c4, .int .i64 s]) (by simp [results, Try.results25, go_sem]) rfl ⟨rfl, ((Below.refl _ _).alloc (Nat.le_refl _) _).alloc (by simp) _⟩

set_option maxHeartbeats 1000000 in
theorem rightInfo_any (c0 c1 c2 c3 c4 s : Int) (w : World) :
    Calls Try.prog 24 #[.agg #[.int .i64 c0, .int .i64 c1, .int .i64 c2, .int .i64 c3, .int .i64 c4, .int .i64 s]] w fun e w' =>
      e = .returned (.bool (infoB c0 c1 c2 c3 c4 s)) ∧ Below w.heap.size w w' := by
  have fin : ∀ o, Below w.heap.size w (w.alloc o) := fun o => (Below.refl _ _).alloc (Nat.le_refl _) _
  cases h0 : within c0 1 4
  · go_enter Try.func24, Try.ntmps24
    go_wp2_with (go_at_call 26; refine (within_any _ _ _ _).mono ?_; rintro e w' ⟨rfl, rfl⟩)
    go_ret
    exact ⟨ret_bool (by simp [infoB, h0]), fin _⟩
  cases h1 : within c1 4 12
  · go_enter Try.func24, Try.ntmps24
    go_wp2_with (go_at_call 26; refine (within_any _ _ _ _).mono ?_; rintro e w' ⟨rfl, rfl⟩)
    go_ret
    exact ⟨ret_bool (by simp [infoB, h0, h1]), fin _⟩
  cases h2 : within c2 1 32
  · go_enter Try.func24, Try.ntmps24
    go_wp2_with (go_at_call 26; refine (within_any _ _ _ _).mono ?_; rintro e w' ⟨rfl, rfl⟩)
    go_ret
    exact ⟨ret_bool (by simp [infoB, h0, h1, h2]), fin _⟩
  cases h3 : within c3 0 65535
  · go_enter Try.func24, Try.ntmps24
    go_wp2_with (go_at_call 26; refine (within_any _ _ _ _).mono ?_; rintro e w' ⟨rfl, rfl⟩)
    go_ret
    exact ⟨ret_bool (by simp [infoB, h0, h1, h2, h3]), fin _⟩
  cases h4 : within c4 0 255
  · go_enter Try.func24, Try.ntmps24
    go_wp2_with (go_at_call 26; refine (within_any _ _ _ _).mono ?_; rintro e w' ⟨rfl, rfl⟩)
    go_ret
    exact ⟨ret_bool (by simp [infoB, h0, h1, h2, h3, h4]), fin _⟩
  go_enter Try.func24, Try.ntmps24
  go_wp2_with (go_at_call 26; refine (within_any _ _ _ _).mono ?_; rintro e w' ⟨rfl, rfl⟩)
  go_ret
  exact ⟨ret_bool (by simp [infoB, h0, h1, h2, h3, h4]), fin _⟩

theorem rightB_info (c0 c1 c2 c3 c4 c5 c6 c7 : Int) : rightB c0 c1 c2 c3 c4 c5 c6 c7 = (infoB c0 c1 c2 c3 c4 0 && (within c5 1 8 && (within c6 1 16 && within c7 1 8))) := by
  simp only [rightB, infoB, Bool.and_assoc]
  have : within 0 0 300 = true := by decide
  rw [this]; simp

set_option maxHeartbeats 1000000 in
theorem rightConfig_any (c0 c1 c2 c3 c4 c5 c6 c7 : Int) (w : World) :
    Calls Try.prog 13 #[.agg #[.int .i64 c0, .int .i64 c1, .int .i64 c2, .int .i64 c3, .int .i64 c4, .int .i64 c5, .int .i64 c6, .int .i64 c7]] w fun e w' =>
      e = .returned (.bool (rightB c0 c1 c2 c3 c4 c5 c6 c7)) ∧ Below w.heap.size w w' := by
  rw [rightB_info]
  have hb : Below w.heap.size w (w.alloc (.cells #[.int .i64 c0, .int .i64 c1, .int .i64 c2, .int .i64 c3, .int .i64 c4, .int .i64 c5, .int .i64 c6, .int .i64 c7] 23)) := (Below.refl _ _).alloc (Nat.le_refl _) _
  have HB := hidM hb
  clear hb
  have HR := hidM (fun u => rightInfo_any c0 c1 c2 c3 c4 0 u)
  cases h0 : infoB c0 c1 c2 c3 c4 0
  · rw [h0] at HR
    go_enter Try.func13, Try.ntmps13
    go_wp2_with (first
      | (go_at_call 25; refine (infoOf_any _ _ _ _ _ _ _ _ _ _).mono ?_; rintro e w1 ⟨rfl, hb1⟩; obtain ⟨hcl1, hfr1⟩ := bcell hb1; have HB1 := hidM (HB.out.trans (hb1.mono (by simp))); have hs1 : w.heap.size < w1.heap.size := by {have := hb1.size; simp at this; omega}; clear hb1 HB hfr1)
      | (go_at_call 24; refine (HR.out _).mono ?_; rintro e w2 ⟨rfl, hb2⟩; obtain ⟨hcl2, hfr2⟩ := bcell hb2; have HB2 := hidM (HB1.out.trans (hb2.mono HB1.out.size)); have hs2 : w.heap.size < w2.heap.size := Nat.lt_of_lt_of_le hs1 hb2.size; clear hb2 hfr2)
      | (go_at_call 26; refine (within_any _ _ _ _).mono ?_; rintro e w' ⟨rfl, rfl⟩))
    go_ret
    exact ⟨ret_bool (by simp), HB2.out⟩
  rw [h0] at HR
  cases h1 : within c5 1 8
  · go_enter Try.func13, Try.ntmps13
    go_wp2_with (first
      | (go_at_call 25; refine (infoOf_any _ _ _ _ _ _ _ _ _ _).mono ?_; rintro e w1 ⟨rfl, hb1⟩; obtain ⟨hcl1, hfr1⟩ := bcell hb1; have HB1 := hidM (HB.out.trans (hb1.mono (by simp))); have hs1 : w.heap.size < w1.heap.size := by {have := hb1.size; simp at this; omega}; clear hb1 HB hfr1)
      | (go_at_call 24; refine (HR.out _).mono ?_; rintro e w2 ⟨rfl, hb2⟩; obtain ⟨hcl2, hfr2⟩ := bcell hb2; have HB2 := hidM (HB1.out.trans (hb2.mono HB1.out.size)); have hs2 : w.heap.size < w2.heap.size := Nat.lt_of_lt_of_le hs1 hb2.size; clear hb2 hfr2)
      | (go_at_call 26; refine (within_any _ _ _ _).mono ?_; rintro e w' ⟨rfl, rfl⟩))
    go_ret
    exact ⟨ret_bool (by simp), HB2.out⟩
  cases h2 : within c6 1 16
  · go_enter Try.func13, Try.ntmps13
    go_wp2_with (first
      | (go_at_call 25; refine (infoOf_any _ _ _ _ _ _ _ _ _ _).mono ?_; rintro e w1 ⟨rfl, hb1⟩; obtain ⟨hcl1, hfr1⟩ := bcell hb1; have HB1 := hidM (HB.out.trans (hb1.mono (by simp))); have hs1 : w.heap.size < w1.heap.size := by {have := hb1.size; simp at this; omega}; clear hb1 HB hfr1)
      | (go_at_call 24; refine (HR.out _).mono ?_; rintro e w2 ⟨rfl, hb2⟩; obtain ⟨hcl2, hfr2⟩ := bcell hb2; have HB2 := hidM (HB1.out.trans (hb2.mono HB1.out.size)); have hs2 : w.heap.size < w2.heap.size := Nat.lt_of_lt_of_le hs1 hb2.size; clear hb2 hfr2)
      | (go_at_call 26; refine (within_any _ _ _ _).mono ?_; rintro e w' ⟨rfl, rfl⟩))
    go_ret
    exact ⟨ret_bool (by simp), HB2.out⟩
  go_enter Try.func13, Try.ntmps13
  go_wp2_with (first
    | (go_at_call 25; refine (infoOf_any _ _ _ _ _ _ _ _ _ _).mono ?_; rintro e w1 ⟨rfl, hb1⟩; obtain ⟨hcl1, hfr1⟩ := bcell hb1; have HB1 := hidM (HB.out.trans (hb1.mono (by simp))); have hs1 : w.heap.size < w1.heap.size := by {have := hb1.size; simp at this; omega}; clear hb1 HB hfr1)
    | (go_at_call 24; refine (HR.out _).mono ?_; rintro e w2 ⟨rfl, hb2⟩; obtain ⟨hcl2, hfr2⟩ := bcell hb2; have HB2 := hidM (HB1.out.trans (hb2.mono HB1.out.size)); have hs2 : w.heap.size < w2.heap.size := Nat.lt_of_lt_of_le hs1 hb2.size; clear hb2 hfr2)
    | (go_at_call 26; refine (within_any _ _ _ _).mono ?_; rintro e w' ⟨rfl, rfl⟩))
  go_ret
  exact ⟨ret_bool (by simp), HB2.out⟩

def fitsB (d : Nat) (v : Int) : Bool := within v (-(2 ^ (d - 1))) (2 ^ (d - 1) - 1)

set_option maxHeartbeats 400000 in
theorem isSample_any (d : Nat) (v : Int) (w : World) (h1 : 1 ≤ d) (h2 : d ≤ 13) :
    Calls Try.prog 41 #[.int .i64 d, .int .i64 v] w fun e w' => e = .returned (.bool (fitsB d v)) ∧ w' = w := by
  have hp1 : (1 : Int) ≤ 2 ^ (d - 1) := by have : 0 < 2 ^ (d - 1) := Nat.two_pow_pos _; exact_mod_cast this
  have hp2 : (2 : Int) ^ (d - 1) ≤ 4096 := ipow_le (d - 1) 4096 (Nat.le_trans (Nat.pow_le_pow_right (by omega) (by omega : d - 1 ≤ 12)) (by decide))
  go_enter Try.func41, Try.ntmps41
  go_wp2_with (go_at_call 26; refine (within_any _ _ _ _).mono ?_; rintro e w' ⟨rfl, rfl⟩)
  go_ret
  exact ⟨rfl, rfl⟩

set_option maxHeartbeats 400000 in
theorem areSamples_any (d : Nat) (a : Option Addr) (n c : Nat) (f : Nat → Int) (w : World) (h1 : 1 ≤ d) (h2 : d ≤ 13) (hn : n ≤ 17592186044416) (hI : IntsAt w a n f) :
    Calls Try.prog 38 #[.int .i64 d, .slice a n c] w fun e w' => Says e (∀ i, i < n → fitsB d (f i) = true) ∧ w' = w := by
  have HI : Hid (IntsAt w a n f) := hI
  clear hI
  go_enter Try.func38, Try.ntmps38
  go_wp2
  go_loop [6, 9] (fun _ i => ∃ k : Nat, k ≤ n ∧ i = .int .i64 k ∧ Hid (∀ i, i < k → fitsB d (f i) = true)) (fun _ i => n - (intOf i).toNat)
  case atStart => exact ⟨0, Nat.zero_le _, rfl, fun i hi => absurd hi (by omega)⟩
  case round =>
    obtain ⟨k, hk, rfl, HA⟩ := hrel
    by_cases hlt : k < n
    · obtain ⟨b, off, hx, hc⟩ := HI.out.open (by omega)
      cases hx
      have hc1 := hc k hlt
      clear hc
      cases hf : fitsB d (f k)
      · go_wp2_with (go_at_call 41; refine (isSample_any _ _ _ h1 h2).mono ?_; rintro e w' ⟨rfl, rfl⟩)
        go_ret
        exact ⟨Says.no (fun h => by rw [h k hlt] at hf; cases hf), rfl⟩
      · go_wp2_with (go_at_call 41; refine (isSample_any _ _ _ h1 h2).mono ?_; rintro e w' ⟨rfl, rfl⟩)
        go_round
        case rel =>
          refine ⟨k + 1, by omega, by go_num, fun i hi => ?_⟩
          by_cases e : i = k
          · subst e; exact hf
          · exact HA.out i (by omega)
        case measure => simp [intOf]; omega
    · have e : k = n := by omega
      subst e
      go_wp2
      go_ret
      exact ⟨Says.yes HA.out, rfl⟩

/-- what a slice of slices of numbers holds -/
def ListsAt (w : World) (a : Option Addr) (n : Nat) (A : Nat → Option Addr) (L C : Nat → Nat) : Prop := ∀ i, i < n → ∃ x, a = some x ∧ w.cell? (x.add i) = some (.slice (A i) (L i) (C i))
theorem ListsAt.open {w : World} {a : Option Addr} {n : Nat} {A : Nat → Option Addr} {L C : Nat → Nat} (h : ListsAt w a n A L C) (hn : 0 < n) :
    ∃ b off, a = some ⟨b, off, none⟩ ∧ ∀ i, i < n → w.cell? ⟨b, off + i, none⟩ = some (.slice (A i) (L i) (C i)) := by
  obtain ⟨⟨b, off, sp⟩, rfl, hc⟩ := h 0 hn
  have hs : sp = none := by simpa [Addr.add] using World.cell?_spot hc
  subst hs
  refine ⟨b, off, rfl, fun i hi => ?_⟩
  obtain ⟨x, hx, hc⟩ := h i hi
  cases hx
  rw [← hc]
  cases i <;> simp [Addr.add]
/-- lists that lie below a block -/
def Low (B : Nat) (a : Option Addr) (n : Nat) (A : Nat → Option Addr) (L : Nat → Nat) : Prop := (∀ x, a = some x → 0 < n → x.block < B) ∧ ∀ i, i < n → ∀ x, A i = some x → 0 < L i → x.block < B
theorem IntsAt.below {w w' : World} {B : Nat} {a : Option Addr} {n : Nat} {f : Nat → Int} (h : IntsAt w a n f) (hb : Below B w w') (hl : ∀ x, a = some x → 0 < n → x.block < B) : IntsAt w' a n f := fun i hi => by
  obtain ⟨x, hx, hc⟩ := h i hi
  refine ⟨x, hx, ?_⟩
  rw [hb.cell (by have := hl x hx (by omega); cases i <;> simpa [Addr.add] using this), hc]
theorem ListsAt.below {w w' : World} {B : Nat} {a : Option Addr} {n : Nat} {A : Nat → Option Addr} {L C : Nat → Nat} (h : ListsAt w a n A L C) (hb : Below B w w') (hl : ∀ x, a = some x → 0 < n → x.block < B) : ListsAt w' a n A L C := fun i hi => by
  obtain ⟨x, hx, hc⟩ := h i hi
  refine ⟨x, hx, ?_⟩
  rw [hb.cell (by have := hl x hx (by omega); cases i <;> simpa [Addr.add] using this), hc]

/-- the lists are channels, all of one length from lo to hi -/
def ChanP (c0 : Int) (d n : Nat) (lo hi : Int) (L : Nat → Nat) (F : Nat → Nat → Int) : Prop :=
  (n : Int) = c0 ∧ within (L 0 : Int) lo hi = true ∧ ∀ i, i < n → L i = L 0 ∧ ∀ j, j < L i → fitsB d (F i j) = true

set_option maxHeartbeats 1000000 in
theorem areChannels_any (lo hi : Int) (c0 c2 c3 c4 c5 c6 c7 : Int) (d : Nat) (a : Option Addr) (n cap : Nat) (A : Nat → Option Addr) (L C : Nat → Nat) (F : Nat → Nat → Int) (w : World) (hc0 : 1 ≤ c0) (h1 : 1 ≤ d) (h2 : d ≤ 13) (hn : n ≤ 17592186044416) (hL : ∀ i, i < n → L i ≤ 17592186044416)
    (hA : ListsAt w a n A L C) (hI : ∀ i, i < n → IntsAt w (A i) (L i) (F i)) (hlow : Low w.heap.size a n A L) :
    Calls Try.prog 27 #[.agg #[.int .i64 c0, .int .i64 d, .int .i64 c2, .int .i64 c3, .int .i64 c4, .int .i64 c5, .int .i64 c6, .int .i64 c7], .slice a n cap, .int .i64 lo, .int .i64 hi] w fun e w' =>
      Says e (ChanP c0 d n lo hi L F) ∧ Below w.heap.size w w' := by
  obtain ⟨o, ho⟩ : ∃ o, o = Obj.cells #[.int .i64 c0, .int .i64 d, .int .i64 c2, .int .i64 c3, .int .i64 c4, .int .i64 c5, .int .i64 c6, .int .i64 c7] 23 := ⟨_, rfl⟩
  have hb : Below w.heap.size w (w.alloc o) := (Below.refl _ _).alloc (Nat.le_refl _) _
  rw [ho] at hb
  by_cases hnc : (n : Int) = c0
  · subst hnc
    have hA1 := hA.below hb hlow.1
    have hI1 : ∀ i, i < n → IntsAt _ (A i) (L i) (F i) := fun i hi => (hI i hi).below hb (hlow.2 i hi)
    obtain ⟨b, off, rfl, hc⟩ := hA1.open (by omega)
    clear hA hI hA1 ho hlow
    have HI : Hid (∀ i, i < n → IntsAt _ (A i) (L i) (F i)) := hI1
    have HL : Hid (∀ i, i < n → L i ≤ 17592186044416) := hL
    have hL0 := hL 0 (by omega)
    have HC := hc
    have hc00 : _ = some (Value.slice (A 0) (L 0) (C 0)) := hc 0 (by omega)
    simp only [Nat.add_zero] at hc00
    clear hI1 hL hc
    cases h300 : within (L 0 : Int) lo hi
    rotate_left
    · go_enter Try.func27, Try.ntmps27
      go_wp2_with (go_at_call 26; refine (within_any _ _ _ _).mono ?_; rintro e w' ⟨rfl, rfl⟩)
      go_loop [11, 28] (fun _ i => ∃ k : Nat, k ≤ n ∧ i = .int .i64 k ∧ Hid (∀ i, i < k → L i = L 0 ∧ ∀ j, j < L i → fitsB d (F i j) = true)) (fun _ i => n - (intOf i).toNat)
      case atStart => exact ⟨0, Nat.zero_le _, rfl, fun i hi => absurd hi (by omega)⟩
      case round =>
        obtain ⟨k, hk, rfl, HK⟩ := hrel
        by_cases hlt : k < n
        · have hck := HC k hlt
          have hLk := HL.out k hlt
          have hIk := HI.out k hlt
          clear HC
          by_cases hLe : L k = L 0
          · have HE : Hid (L k = L 0) := hLe
            have ht : ((L k : Int) != (L 0 : Int)) = false := by simp [hLe]
            clear hLe
            by_cases hall : ∀ j, j < L k → fitsB d (F k j) = true
            · have HALL : Hid (∀ j, j < L k → fitsB d (F k j) = true) := hall
              clear hall
              go_wp2_with (go_at_call 38; refine (areSamples_any _ _ _ _ _ _ h1 h2 hLk hIk).mono ?_; rintro e w' ⟨he, rfl⟩; have he := he.true_of HALL.out; subst he)
              go_round
              case rel =>
                refine ⟨k + 1, by omega, by go_num, fun i hi => ?_⟩
                by_cases e : i = k
                · subst e; exact ⟨HE.out, HALL.out⟩
                · exact HK.out i (by omega)
              case measure => simp [intOf]; omega
            · have HALL : Hid (¬ ∀ j, j < L k → fitsB d (F k j) = true) := hall
              clear hall
              go_wp2_with (go_at_call 38; refine (areSamples_any _ _ _ _ _ _ h1 h2 hLk hIk).mono ?_; rintro e w' ⟨he, rfl⟩; have he := he.false_of HALL.out; subst he)
              go_ret
              exact ⟨Says.no (fun h => HALL.out (h.2.2 k hlt).2), hb⟩
          · have HE : Hid (¬ L k = L 0) := hLe
            have ht : ((L k : Int) != (L 0 : Int)) = true := by simp; omega
            clear hLe
            go_wp2
            go_ret
            exact ⟨Says.no (fun h => HE.out (h.2.2 k hlt).1), hb⟩
        · have e : k = n := by omega
          subst e
          go_wp2
          go_ret
          exact ⟨Says.yes ⟨rfl, h300, HK.out⟩, hb⟩
    · go_enter Try.func27, Try.ntmps27
      go_wp2_with (go_at_call 26; refine (within_any _ _ _ _).mono ?_; rintro e w' ⟨rfl, rfl⟩)
      go_ret
      exact ⟨Says.no (fun h => by rw [h.2.1] at h300; cases h300), hb⟩
  · have hne : ((n : Int) != c0) = true := by simpa using hnc
    go_enter Try.func27, Try.ntmps27
    go_wp2
    go_ret
    exact ⟨Says.no (fun h => hnc h.1), hb⟩

set_option maxHeartbeats 1000000 in
theorem isSound_any (c0 c2 c3 c4 c5 c6 c7 : Int) (d : Nat) (a : Option Addr) (n cap : Nat) (A : Nat → Option Addr) (L C : Nat → Nat) (F : Nat → Nat → Int) (w : World) (hc0 : 1 ≤ c0) (h1 : 1 ≤ d) (h2 : d ≤ 13) (hn : n ≤ 17592186044416) (hL : ∀ i, i < n → L i ≤ 17592186044416)
    (hA : ListsAt w a n A L C) (hI : ∀ i, i < n → IntsAt w (A i) (L i) (F i)) (hlow : Low w.heap.size a n A L) :
    Calls Try.prog 14 #[.agg #[.int .i64 c0, .int .i64 d, .int .i64 c2, .int .i64 c3, .int .i64 c4, .int .i64 c5, .int .i64 c6, .int .i64 c7], .slice a n cap] w fun e w' =>
      Says e (ChanP c0 d n 0 300 L F) ∧ Below w.heap.size w w' := by
  have hb : Below w.heap.size w (w.alloc (.cells #[.int .i64 c0, .int .i64 d, .int .i64 c2, .int .i64 c3, .int .i64 c4, .int .i64 c5, .int .i64 c6, .int .i64 c7] 23)) := (Below.refl _ _).alloc (Nat.le_refl _) _
  have HCC := hidM (areChannels_any 0 300 c0 c2 c3 c4 c5 c6 c7 d a n cap A L C F (w.alloc (.cells #[.int .i64 c0, .int .i64 d, .int .i64 c2, .int .i64 c3, .int .i64 c4, .int .i64 c5, .int .i64 c6, .int .i64 c7] 23)) hc0 h1 h2 hn hL (hA.below hb hlow.1) (fun i hi => (hI i hi).below hb (hlow.2 i hi)) ⟨fun x hx h0 => Nat.lt_of_lt_of_le (hlow.1 x hx h0) (by simp), fun i hi x hx h0 => Nat.lt_of_lt_of_le (hlow.2 i hi x hx h0) (by simp)⟩)
  have HB := hidM hb
  clear hA hI hlow hb hL
  go_enter Try.func14, Try.ntmps14
  go_wp2_with (go_at_call 27; refine HCC.out.mono ?_; rintro e w1 ⟨⟨r, rfl, hr⟩, hb1⟩; have HB1 := hidM (HB.out.trans (hb1.mono (by simp))); have HR := hidM hr; clear hb1 hr HCC)
  go_ret
  exact ⟨⟨r, rfl, HR.out⟩, HB1.out⟩

/-- what Check answers -/
def CheckIs (R S : Prop) (r : Int) : Prop := (r = 1 ∧ ¬ R) ∨ (r = 2 ∧ R ∧ ¬ S) ∨ (r = 0 ∧ R ∧ S)
theorem CheckIs.inj {R S : Prop} {r q : Int} (h : CheckIs R S r) (k : CheckIs R S q) : r = q := by
  unfold CheckIs at h k
  rcases h with ⟨h, h1⟩ | ⟨h, h1, h2⟩ | ⟨h, h1, h2⟩ <;> rcases k with ⟨k, k1⟩ | ⟨k, k1, k2⟩ | ⟨k, k1, k2⟩ <;> first | omega | (exfalso; exact h1 k1) | (exfalso; exact k1 h1) | (exfalso; exact h2 k2) | (exfalso; exact k2 h2)
def Answers (e : Ending) (p : Int → Prop) : Prop := ∃ r : Int, e = .returned (.int .i64 r) ∧ p r

theorem rightB_d {c0 c1 c2 c3 c4 c5 c6 c7 : Int} (h : rightB c0 c1 c2 c3 c4 c5 c6 c7 = true) : 1 ≤ c0 ∧ ∃ d : Nat, c1 = (d : Int) ∧ 1 ≤ d ∧ d ≤ 13 := by
  simp only [rightB, Bool.and_eq_true, within_iff] at h
  exact ⟨h.1.1, c1.toNat, by omega, by omega, by omega⟩

set_option maxHeartbeats 1000000 in
theorem check_any (c0 c1 c2 c3 c4 c5 c6 c7 : Int) (a : Option Addr) (n cap : Nat) (A : Nat → Option Addr) (L C : Nat → Nat) (F : Nat → Nat → Int) (w : World) (hn : n ≤ 17592186044416) (hL : ∀ i, i < n → L i ≤ 17592186044416)
    (hA : ListsAt w a n A L C) (hI : ∀ i, i < n → IntsAt w (A i) (L i) (F i)) (hlow : Low w.heap.size a n A L) :
    Calls Try.prog 5 #[.agg #[.int .i64 c0, .int .i64 c1, .int .i64 c2, .int .i64 c3, .int .i64 c4, .int .i64 c5, .int .i64 c6, .int .i64 c7], .slice a n cap] w fun e w' =>
      Answers e (CheckIs (rightB c0 c1 c2 c3 c4 c5 c6 c7 = true) (ChanP c0 c1.toNat n 0 300 L F)) ∧ Below w.heap.size w w' := by
  have hb : Below w.heap.size w (w.alloc (.cells #[.int .i64 c0, .int .i64 c1, .int .i64 c2, .int .i64 c3, .int .i64 c4, .int .i64 c5, .int .i64 c6, .int .i64 c7] 23)) := (Below.refl _ _).alloc (Nat.le_refl _) _
  have hA1 := hA.below hb hlow.1
  have hI1 : ∀ i, i < n → IntsAt _ (A i) (L i) (F i) := fun i hi => (hI i hi).below hb (hlow.2 i hi)
  clear hA hI
  cases hr : rightB c0 c1 c2 c3 c4 c5 c6 c7
  · go_enter Try.func5, Try.ntmps5
    go_wp2_with (go_at_call 13; refine (rightConfig_any _ _ _ _ _ _ _ _ _).mono ?_; rintro e w1 ⟨rfl, hb1⟩)
    go_ret
    exact ⟨⟨1, rfl, .inl ⟨rfl, by simp⟩⟩, hb.trans (hb1.mono (by simp))⟩
  · obtain ⟨hc0, d, rfl, h1, h2⟩ := rightB_d hr
    have hcc := fun (w1 : World) (hb1 : Below w.heap.size (w.alloc (.cells #[.int .i64 c0, .int .i64 d, .int .i64 c2, .int .i64 c3, .int .i64 c4, .int .i64 c5, .int .i64 c6, .int .i64 c7] 23)) w1) =>
      isSound_any c0 c2 c3 c4 c5 c6 c7 d a n cap A L C F w1 hc0 h1 h2 hn hL (hA1.below hb1 hlow.1) (fun i hi => (hI1 i hi).below hb1 (hlow.2 i hi)) ⟨fun x hx h0 => Nat.lt_of_lt_of_le (hlow.1 x hx h0) (by have := hb1.size; simp at this; omega), fun i hi x hx h0 => Nat.lt_of_lt_of_le (hlow.2 i hi x hx h0) (by have := hb1.size; simp at this; omega)⟩
    have HCC : Hid _ := hcc
    clear hcc hA1 hI1
    by_cases hs : ChanP c0 d n 0 300 L F
    · have HS : Hid (ChanP c0 d n 0 300 L F) := hs
      clear hs
      go_enter Try.func5, Try.ntmps5
      go_wp2_with (first
        | (go_at_call 13; refine (rightConfig_any _ _ _ _ _ _ _ _ _).mono ?_; rintro e w1 ⟨rfl, hb1⟩; obtain ⟨hcl, hfr⟩ := bcell hb1)
        | (go_at_call 14; refine (HCC.out _ (hb1.mono (by simp))).mono ?_; rintro e w2 ⟨he, hb2⟩; have he := he.true_of HS.out; subst he))
      go_ret
      exact ⟨⟨0, rfl, .inr (.inr ⟨rfl, trivial, HS.out⟩)⟩, hb.trans ((hb1.mono (by simp)).trans (hb2.mono (by have := hb1.size; simp at this; omega)))⟩
    · have HS : Hid (¬ ChanP c0 d n 0 300 L F) := hs
      clear hs
      go_enter Try.func5, Try.ntmps5
      go_wp2_with (first
        | (go_at_call 13; refine (rightConfig_any _ _ _ _ _ _ _ _ _).mono ?_; rintro e w1 ⟨rfl, hb1⟩; obtain ⟨hcl, hfr⟩ := bcell hb1)
        | (go_at_call 14; refine (HCC.out _ (hb1.mono (by simp))).mono ?_; rintro e w2 ⟨he, hb2⟩; have he := he.false_of HS.out; subst he))
      go_ret
      exact ⟨⟨2, rfl, .inr (.inl ⟨rfl, trivial, HS.out⟩)⟩, hb.trans ((hb1.mono (by simp)).trans (hb2.mono (by have := hb1.size; simp at this; omega)))⟩

end Go.Proofs.Ytlncjgnomhpjnaa
