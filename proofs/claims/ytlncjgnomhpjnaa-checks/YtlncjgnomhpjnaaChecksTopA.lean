/-
  'Checks', walked.
-/
import Derived.Test.YtlncjgnomhpjnaaCheckRefA
import Derived.Test.YtlncjgnomhpjnaaLentAllA
import Derived.Deep.RegionWith
namespace Go.Proofs.Ytlncjgnomhpjnaa
open Go.RowKit Go.Deep

set_option maxHeartbeats 400000 in
theorem wholeAll_none (v u : Value) (w : World) :
    Calls Try.prog 17 #[v, u, .slice none 0 0] w fun e w' => e = .returned (.bool true) ∧ w' = w := by
  have hnl := fun u : World => Lib.run_eql_slice_nil (P := Try.prog) u 24 28 none 0 0 0 0 Try.underlying24
  go_enter Try.func17, Try.ntmps17
  go_wp2
  go_ret
  exact ⟨rfl, rfl⟩

theorem num_any (r : Int) (w : World) : Calls Try.prog 7 #[.int .i64 r] w fun e w' => e = .returned (.int .i64 r) ∧ w' = w := by
  go_enter Try.func7, Try.ntmps7
  go_wp2
  go_ret
  exact ⟨rfl, rfl⟩

theorem Rest.below' {w wr wr' : World} {n : Nat} {A : Nat → Option Addr} {L : Nat → Nat} {F : Nat → Nat → Int} {NB : Nat → Nat} {k : Nat} (h : Rest w wr n A L F NB k) (hb : Below wr.heap.size wr wr') : Rest w wr' n A L F NB k := by
  have hs := h.below.size
  refine ⟨h.below.trans (hb.mono hs), h.out.of_block (hb.block _ h.out.lt), h.mine.of_block (hb.block _ h.mine.lt), h.lo, fun i hi => Nat.lt_of_lt_of_le (h.hi i hi) hb.size,
    fun i h1 h2 x hx => (h.row i h1 h2 x hx).of_block (hb.block _ (h.hi i (by omega))), fun i h1 h2 => (h.far i h1 h2).of_block (hb.block _ (h.hi i h2)), h.ne⟩

theorem Rest.lists {w wr : World} {n : Nat} {A : Nat → Option Addr} {L : Nat → Nat} {F : Nat → Nat → Int} {NB : Nat → Nat} {k : Nat} (h : Rest w wr n A L F NB k) :
    ListsAt wr (some ⟨w.heap.size, 0, none⟩) n (fun i => lentA (A i) (NB i)) L (fun i => lentC (A i) (L i)) := fun i hi => by
  refine ⟨_, rfl, ?_⟩
  have := h.out.cell (i := i) (by omega)
  rw [outV, if_pos hi] at this
  rw [← lentV, ← this]
  cases i <;> simp [Addr.add]
theorem Rest.ints {w wr : World} {n : Nat} {A : Nat → Option Addr} {L : Nat → Nat} {F : Nat → Nat → Int} {NB : Nat → Nat} (h : Rest w wr n A L F NB 0) (hnil : ∀ i, i < n → A i = none → L i = 0) :
    ∀ i, i < n → IntsAt wr (lentA (A i) (NB i)) (L i) (F i) := fun i hi j hj => by
  cases hA : A i with
  | none => rw [hnil i hi hA] at hj; exact absurd hj (by omega)
  | some x =>
    refine ⟨⟨NB i, 0, none⟩, rfl, ?_⟩
    have := (h.row i (by omega) hi x hA).cell (i := j) (by omega)
    rw [lentRow, if_pos hj] at this
    rw [← this]
    cases j <;> simp [Addr.add]
theorem Rest.low {w wr : World} {n : Nat} {A : Nat → Option Addr} {L : Nat → Nat} {F : Nat → Nat → Int} {NB : Nat → Nat} {k : Nat} (h : Rest w wr n A L F NB k) :
    Low wr.heap.size (some ⟨w.heap.size, 0, none⟩) n (fun i => lentA (A i) (NB i)) L := by
  refine ⟨fun x hx _ => ?_, fun i hi x hx _ => ?_⟩
  · cases hx; exact h.out.lt
  · cases hA : A i with
    | none => simp [lentA, hA] at hx
    | some y => simp [lentA, hA] at hx; subst hx; exact h.hi i (by omega)

theorem bcellB {B : Nat} {W w1 : World} (hb : Below B W w1) : (∀ b o, b < B → w1.cell? ⟨b, o, none⟩ = W.cell? ⟨b, o, none⟩) ∧ (∀ b o, b < B → w1.frozen? ⟨b, o, none⟩ = W.frozen? ⟨b, o, none⟩) :=
  ⟨fun b o h => hb.cell (p := ⟨b, o, none⟩) h, fun b o h => hb.frozen (p := ⟨b, o, none⟩) h⟩

set_option maxHeartbeats 1000000 in
theorem checks_some (c0 c1 c2 c3 c4 c5 c6 c7 : Int) (x : Addr) (n cap : Nat) (A : Nat → Option Addr) (L C : Nat → Nat) (F : Nat → Nat → Int) (w : World) (hn : n ≤ 5864062014805) (hL : ∀ i, i < n → L i ≤ 17592186044416)
    (hA : ListsAt w (some x) n A L C) (hI : ∀ i, i < n → IntsAt w (A i) (L i) (F i)) (hlow : Low w.heap.size (some x) n A L) (hnil : ∀ i, i < n → A i = none → L i = 0 ∧ C i = 0) :
    Calls Try.prog 8 #[.agg #[.int .i64 c0, .int .i64 c1, .int .i64 c2, .int .i64 c3, .int .i64 c4, .int .i64 c5, .int .i64 c6, .int .i64 c7], .slice (some x) n cap] w fun e w' =>
      e = .returned (.bool true) ∧ Below w.heap.size w w' := by
  have hb : Below w.heap.size w (w.alloc (.cells #[.int .i64 c0, .int .i64 c1, .int .i64 c2, .int .i64 c3, .int .i64 c4, .int .i64 c5, .int .i64 c6, .int .i64 c7] 23)) := (Below.refl _ _).alloc (Nat.le_refl _) _
  have hA1 := hA.below hb hlow.1
  have hI1 : ∀ i, i < n → IntsAt _ (A i) (L i) (F i) := fun i hi => (hI i hi).below hb (hlow.2 i hi)
  have hlow1 : Low (w.heap.size + 1) (some x) n A L := ⟨fun x hx h0 => Nat.lt_succ_of_lt (hlow.1 x hx h0), fun i hi x hx h0 => Nat.lt_succ_of_lt (hlow.2 i hi x hx h0)⟩
  have HLEND : Hid (Calls Try.prog 15 #[.slice (some x) n cap] (w.alloc (.cells #[.int .i64 c0, .int .i64 c1, .int .i64 c2, .int .i64 c3, .int .i64 c4, .int .i64 c5, .int .i64 c6, .int .i64 c7] 23)) fun e w' => Lent e (w.alloc (.cells #[.int .i64 c0, .int .i64 c1, .int .i64 c2, .int .i64 c3, .int .i64 c4, .int .i64 c5, .int .i64 c6, .int .i64 c7] 23)) w' n A L F) := lendAll_some x n cap A L C F _ hn hL hA1 hI1 (by rw [World.size_alloc]; exact hlow1) hnil
  have hcheck := fun (w2 : World) (NB : Nat → Nat) (hR : Rest (w.alloc (.cells #[.int .i64 c0, .int .i64 c1, .int .i64 c2, .int .i64 c3, .int .i64 c4, .int .i64 c5, .int .i64 c6, .int .i64 c7] 23)) w2 n A L F NB 0) =>
    check_any c0 c1 c2 c3 c4 c5 c6 c7 (some ⟨(w.alloc (.cells #[.int .i64 c0, .int .i64 c1, .int .i64 c2, .int .i64 c3, .int .i64 c4, .int .i64 c5, .int .i64 c6, .int .i64 c7] 23)).heap.size, 0, none⟩) n (n + 8) (fun i => lentA (A i) (NB i)) L (fun i => lentC (A i) (L i)) F w2 (by omega) hL hR.lists (hR.ints fun i hi h => (hnil i hi h).1) hR.low
  rw [World.size_alloc] at hcheck
  have HCHECK : Hid _ := hcheck
  have href := fun (w3 : World) (hb3 : Below (w.heap.size + 1) (w.alloc (.cells #[.int .i64 c0, .int .i64 c1, .int .i64 c2, .int .i64 c3, .int .i64 c4, .int .i64 c5, .int .i64 c6, .int .i64 c7] 23)) w3) =>
    refCheck_any c0 c1 c2 c3 c4 c5 c6 c7 (some x) n cap A L C F w3 (by omega) hL (hA1.below hb3 hlow1.1) (fun i hi => (hI1 i hi).below hb3 (hlow1.2 i hi)) ⟨fun x hx h0 => Nat.lt_of_lt_of_le (hlow1.1 x hx h0) (by have := hb3.size; simpa using this), fun i hi x hx h0 => Nat.lt_of_lt_of_le (hlow1.2 i hi x hx h0) (by have := hb3.size; simpa using this)⟩
  have HREF : Hid _ := href
  have hwhole := fun (w4 : World) (NB : Nat → Nat) (hR : Rest (w.alloc (.cells #[.int .i64 c0, .int .i64 c1, .int .i64 c2, .int .i64 c3, .int .i64 c4, .int .i64 c5, .int .i64 c6, .int .i64 c7] 23)) w4 n A L F NB 0) =>
    wholeAll_some x n cap A L C NB F (w.alloc (.cells #[.int .i64 c0, .int .i64 c1, .int .i64 c2, .int .i64 c3, .int .i64 c4, .int .i64 c5, .int .i64 c6, .int .i64 c7] 23)) w4 hn hL hA1 hI1 (by rw [World.size_alloc]; exact hlow1) hnil hR
  rw [World.size_alloc] at hwhole
  have HWHOLE : Hid _ := hwhole
  clear hcheck href hwhole hA1 hI1 hlow1 hA hI hL hlow hnil
  go_enter Try.func8, Try.ntmps8
  go_wp2_with (first
    | (go_at_call 15; refine HLEND.out.mono ?_; rintro e w2 ⟨NB, rfl, hF⟩; have HR := Hid.mk' hF.rest; clear hF; have hbe : Below (w.heap.size + 1) (w.alloc (.cells #[.int .i64 c0, .int .i64 c1, .int .i64 c2, .int .i64 c3, .int .i64 c4, .int .i64 c5, .int .i64 c6, .int .i64 c7] 23)) w2 := by {have := HR.out.below; rwa [World.size_alloc] at this}; have hs2 : w.heap.size < w2.heap.size := by {have := hbe.size; simp at this; omega}; obtain ⟨hcl, hfr⟩ := bcellB hbe; clear hfr)
    | (go_at_call 5; refine (HCHECK.out _ NB HR.out).mono ?_; rintro e w3 ⟨⟨r1, rfl, hr1⟩, hb3⟩; have HR1 := Hid.mk' hr1; clear hr1; have hs3 : w.heap.size < w3.heap.size := Nat.lt_of_lt_of_le hs2 hb3.size; obtain ⟨hcl3, hfr3⟩ := bcell hb3; clear hfr3)
    | (go_at_call 16; refine (HREF.out _ (hbe.trans (hb3.mono hs2))).mono ?_; rintro e w4 ⟨⟨r2, rfl, hr2⟩, hb4⟩; have hrr := HR1.out.inj hr2; subst hrr; clear hr2)
    | (go_at_call 17; refine (HWHOLE.out _ NB (HR.out.below' (hb3.trans (hb4.mono hb3.size)))).mono ?_; rintro e w5 ⟨rfl, hb5⟩)
    | (go_at_call 7; refine (num_any _ _).mono ?_; rintro e w' ⟨rfl, rfl⟩))
  go_ret
  refine ⟨by simp, hb.trans ?_⟩
  exact hb5.mono (by omega)

theorem lists_none (w : World) : ListsAt w none 0 (fun _ => none) (fun _ => 0) (fun _ => 0) := fun i hi => absurd hi (by omega)
theorem check_none (c0 c1 c2 c3 c4 c5 c6 c7 : Int) (w : World) :
    Calls Try.prog 5 #[(.agg #[.int .i64 c0, .int .i64 c1, .int .i64 c2, .int .i64 c3, .int .i64 c4, .int .i64 c5, .int .i64 c6, .int .i64 c7]), .slice none 0 0] w fun e w' => Answers e (CheckIs (rightB c0 c1 c2 c3 c4 c5 c6 c7 = true) (ChanP c0 c1.toNat 0 0 300 (fun _ => 0) (fun _ _ => 0))) ∧ Below w.heap.size w w' :=
  check_any c0 c1 c2 c3 c4 c5 c6 c7 none 0 0 (fun _ => none) (fun _ => 0) (fun _ => 0) (fun _ _ => 0) w (by omega) (fun i hi => absurd hi (by omega)) (lists_none w) (fun i hi => absurd hi (by omega)) ⟨fun x hx => (by cases hx), fun i hi => absurd hi (by omega)⟩
theorem refCheck_none (c0 c1 c2 c3 c4 c5 c6 c7 : Int) (w : World) :
    Calls Try.prog 16 #[(.agg #[.int .i64 c0, .int .i64 c1, .int .i64 c2, .int .i64 c3, .int .i64 c4, .int .i64 c5, .int .i64 c6, .int .i64 c7]), .slice none 0 0] w fun e w' => Answers e (CheckIs (rightB c0 c1 c2 c3 c4 c5 c6 c7 = true) (ChanP c0 c1.toNat 0 0 300 (fun _ => 0) (fun _ _ => 0))) ∧ Below w.heap.size w w' :=
  refCheck_any c0 c1 c2 c3 c4 c5 c6 c7 none 0 0 (fun _ => none) (fun _ => 0) (fun _ => 0) (fun _ _ => 0) w (by omega) (fun i hi => absurd hi (by omega)) (lists_none w) (fun i hi => absurd hi (by omega)) ⟨fun x hx => (by cases hx), fun i hi => absurd hi (by omega)⟩

set_option maxHeartbeats 1000000 in
theorem checks_none (c0 c1 c2 c3 c4 c5 c6 c7 : Int) (w : World) :
    Calls Try.prog 8 #[(.agg #[.int .i64 c0, .int .i64 c1, .int .i64 c2, .int .i64 c3, .int .i64 c4, .int .i64 c5, .int .i64 c6, .int .i64 c7]), .slice none 0 0] w fun e w' => e = .returned (.bool true) ∧ Below w.heap.size w w' := by
  have hb : Below w.heap.size w (w.alloc (.cells #[.int .i64 c0, .int .i64 c1, .int .i64 c2, .int .i64 c3, .int .i64 c4, .int .i64 c5, .int .i64 c6, .int .i64 c7] 23)) := (Below.refl _ _).alloc (Nat.le_refl _) _
  go_enter Try.func8, Try.ntmps8
  go_wp2_with (first
    | (go_at_call 15; refine (lendAll_none _).mono ?_; rintro e w' ⟨rfl, rfl⟩)
    | (go_at_call 5; refine (check_none _ _ _ _ _ _ _ _ _).mono ?_; rintro e w3 ⟨⟨r1, rfl, hr1⟩, hb3⟩; have HR1 := Hid.mk' hr1; clear hr1; have hs3 : w.heap.size < w3.heap.size := by {have := hb3.size; simp at this; omega}; obtain ⟨hcl3, hfr3⟩ := bcell hb3; clear hfr3)
    | (go_at_call 16; refine (refCheck_none _ _ _ _ _ _ _ _ _).mono ?_; rintro e w4 ⟨⟨r2, rfl, hr2⟩, hb4⟩; have hrr := HR1.out.inj hr2; subst hrr; clear hr2)
    | (go_at_call 17; refine (wholeAll_none _ _ _).mono ?_; rintro e w' ⟨rfl, rfl⟩)
    | (go_at_call 7; refine (num_any _ _).mono ?_; rintro e w' ⟨rfl, rfl⟩))
  go_ret
  exact ⟨by simp, hb.trans ((hb3.mono (by simp)).trans (hb4.mono (by omega)))⟩

/-- the document's own example -/
theorem example_any (w : World) : Calls Try.prog 6 #[] w fun e w' => e = .returned (.agg #[.int .i64 1, .int .i64 4, .int .i64 2, .int .i64 8, .int .i64 1, .int .i64 2, .int .i64 2, .int .i64 1]) ∧ Below w.heap.size w w' := by
  go_enter Try.func6, Try.ntmps6
  go_wp2
  exact bodyPost_ret (v := .agg #[.int .i64 1, .int .i64 4, .int .i64 2, .int .i64 8, .int .i64 1, .int .i64 2, .int .i64 2, .int .i64 1]) (by simp [results, Try.results6, go_sem]) rfl ⟨rfl, (Below.refl _ _).alloc (Nat.le_refl _) _⟩

theorem check_example (w : World) (b1 b2 : Nat) (h1 : w.rowIs b1 3 3 (fun i => .int .i64 (if i = 0 then 6 else if i = 1 then 4 else 1))) (h2 : w.rowIs b2 28 1 (fun _ => .slice (some ⟨b1, 0, none⟩) 3 3)) :
    Calls Try.prog 5 #[.agg #[.int .i64 1, .int .i64 4, .int .i64 2, .int .i64 8, .int .i64 1, .int .i64 2, .int .i64 2, .int .i64 1], .slice (some ⟨b2, 0, none⟩) 1 1] w fun e w' => e = .returned (.int .i64 0) ∧ Below w.heap.size w w' := by
  refine (check_any 1 4 2 8 1 2 2 1 (some ⟨b2, 0, none⟩) 1 1 (fun _ => some ⟨b1, 0, none⟩) (fun _ => 3) (fun _ => 3) (fun _ i => if i = 0 then 6 else if i = 1 then 4 else 1) w (by omega) (fun i hi => by omega)
    (fun i hi => ⟨_, rfl, by rw [← h2.cell hi]; cases i <;> simp [Addr.add]⟩) (fun i hi j hj => ⟨_, rfl, by rw [← h1.cell hj]; cases j <;> simp [Addr.add]⟩) ⟨fun x hx _ => by cases hx; exact h2.lt, fun i hi x hx _ => by cases hx; exact h1.lt⟩).mono ?_
  rintro e w' ⟨⟨r, rfl, hr⟩, hb⟩
  refine ⟨?_, hb⟩
  have h0 : CheckIs (rightB 1 4 2 8 1 2 2 1 = true) (ChanP 1 (Int.toNat 4) 1 0 300 (fun _ => 3) (fun _ i => if i = 0 then 6 else if i = 1 then 4 else 1)) 0 := by
    refine .inr (.inr ⟨rfl, by decide, rfl, by decide, fun i hi => ⟨rfl, fun j hj => ?_⟩⟩)
    match j, hj with
    | 0, _ => rfl
    | 1, _ => rfl
    | 2, _ => rfl
  rw [hr.inj h0]
theorem check_zero (w : World) :
    Calls Try.prog 5 #[.agg #[.int .i64 0, .int .i64 0, .int .i64 0, .int .i64 0, .int .i64 0, .int .i64 0, .int .i64 0, .int .i64 0], .slice none 0 0] w fun e w' => e = .returned (.int .i64 1) ∧ Below w.heap.size w w' := by
  refine (check_none 0 0 0 0 0 0 0 0 w).mono ?_
  rintro e w' ⟨⟨r, rfl, hr⟩, hb⟩
  refine ⟨?_, hb⟩
  rw [hr.inj (.inl ⟨rfl, by decide⟩ : CheckIs _ _ 1)]

theorem check_ex (w2 : World) :
    Calls Try.prog 5 #[.agg #[.int .i64 1, .int .i64 4, .int .i64 2, .int .i64 8, .int .i64 1, .int .i64 2, .int .i64 2, .int .i64 1], .slice (some ⟨w2.heap.size + 1, 0, none⟩) 1 1] ((w2.alloc (.cells #[.int .i64 6, .int .i64 4, .int .i64 1] 3)).alloc (.cells #[.slice (some ⟨w2.heap.size, 0, none⟩) 3 3] 28)) fun e w' => e = .returned (.int .i64 0) ∧ Below w2.heap.size w2 w' := by
  have h1 : ((w2.alloc (.cells #[.int .i64 6, .int .i64 4, .int .i64 1] 3)).alloc (.cells #[.slice (some ⟨w2.heap.size, 0, none⟩) 3 3] 28)).rowIs w2.heap.size 3 3 (fun i => .int .i64 (if i = 0 then 6 else if i = 1 then 4 else 1)) :=
    (World.rowIs_alloc w2 #[.int .i64 6, .int .i64 4, .int .i64 1] 3 (fun i => .int .i64 (if i = 0 then 6 else if i = 1 then 4 else 1)) (fun i hi => by
      match i, hi with
      | 0, _ => rfl
      | 1, _ => rfl
      | 2, _ => rfl)).alloc _
  have h2 : ((w2.alloc (.cells #[.int .i64 6, .int .i64 4, .int .i64 1] 3)).alloc (.cells #[.slice (some ⟨w2.heap.size, 0, none⟩) 3 3] 28)).rowIs (w2.heap.size + 1) 28 1 (fun _ => .slice (some ⟨w2.heap.size, 0, none⟩) 3 3) := by
    have := World.rowIs_alloc (w2.alloc (.cells #[.int .i64 6, .int .i64 4, .int .i64 1] 3)) #[.slice (some ⟨w2.heap.size, 0, none⟩) 3 3] 28 (fun _ => .slice (some ⟨w2.heap.size, 0, none⟩) 3 3) (fun i hi => by simp at hi; subst hi; rfl)
    rw [World.size_alloc] at this
    exact this
  exact (check_example _ _ _ h1 h2).mono fun e w' ⟨he, hb⟩ => ⟨he, (((Below.refl _ _).alloc (Nat.le_refl _) _).alloc (by simp) _).trans (hb.mono (by simp; omega))⟩

/-- a sound that came in -/
structure SoundIn (w : World) (a : Option Addr) (n cap : Nat) (A : Nat → Option Addr) (L C : Nat → Nat) (F : Nat → Nat → Int) : Prop where
  nil : a = none → n = 0 ∧ cap = 0
  hn : n ≤ 5864062014805
  hL : ∀ i, i < n → L i ≤ 17592186044416
  hA : ListsAt w a n A L C
  hI : ∀ i, i < n → IntsAt w (A i) (L i) (F i)
  low : Low w.heap.size a n A L
  no : ∀ i, i < n → A i = none → L i = 0 ∧ C i = 0
theorem SoundIn.below {w w' : World} {a : Option Addr} {n cap : Nat} {A : Nat → Option Addr} {L C : Nat → Nat} {F : Nat → Nat → Int} (h : SoundIn w a n cap A L C F) (hb : Below w.heap.size w w') : SoundIn w' a n cap A L C F :=
  ⟨h.nil, h.hn, h.hL, h.hA.below hb h.low.1, fun i hi => (h.hI i hi).below hb (h.low.2 i hi), ⟨fun x hx h0 => Nat.lt_of_lt_of_le (h.low.1 x hx h0) hb.size, fun i hi x hx h0 => Nat.lt_of_lt_of_le (h.low.2 i hi x hx h0) hb.size⟩, h.no⟩
theorem checks_any (c0 c1 c2 c3 c4 c5 c6 c7 : Int) (a : Option Addr) (n cap : Nat) (A : Nat → Option Addr) (L C : Nat → Nat) (F : Nat → Nat → Int) (w : World) (h : SoundIn w a n cap A L C F) :
    Calls Try.prog 8 #[(.agg #[.int .i64 c0, .int .i64 c1, .int .i64 c2, .int .i64 c3, .int .i64 c4, .int .i64 c5, .int .i64 c6, .int .i64 c7]), .slice a n cap] w fun e w' => e = .returned (.bool true) ∧ Below w.heap.size w w' := by
  cases a with
  | none => obtain ⟨rfl, rfl⟩ := h.nil rfl; exact checks_none c0 c1 c2 c3 c4 c5 c6 c7 w
  | some x => exact checks_some c0 c1 c2 c3 c4 c5 c6 c7 x n cap A L C F w h.hn h.hL h.hA h.hI h.low h.no

set_option maxHeartbeats 1000000 in
theorem Checks_any (c0 c1 c2 c3 c4 c5 c6 c7 : Int) (a : Option Addr) (n cap : Nat) (A : Nat → Option Addr) (L C : Nat → Nat) (F : Nat → Nat → Int) (w : World) (h : SoundIn w a n cap A L C F) :
    Calls Try.prog 3 #[(.agg #[.int .i64 c0, .int .i64 c1, .int .i64 c2, .int .i64 c3, .int .i64 c4, .int .i64 c5, .int .i64 c6, .int .i64 c7]), .slice a n cap] w fun e w' => e = .returned (.bool true) ∧ Below w.heap.size w w' := by
  have hb : Below w.heap.size w (w.alloc (.cells #[.int .i64 c0, .int .i64 c1, .int .i64 c2, .int .i64 c3, .int .i64 c4, .int .i64 c5, .int .i64 c6, .int .i64 c7] 23)) := (Below.refl _ _).alloc (Nat.le_refl _) _
  have HS : Hid (SoundIn w a n cap A L C F) := h
  clear h
  go_enter Try.func3, Try.ntmps3
  go_wp2_with (first
    | (go_at_call_of 5 (Value.slice none 0 0); refine (check_zero _).mono ?_; rintro e w1 ⟨rfl, hb1⟩; have hs1 : w.heap.size < w1.heap.size := by {have := hb1.size; simp at this; omega}; obtain ⟨hcl1, hfr1⟩ := bcell hb1; clear hfr1)
    | (go_at_call 6; refine (example_any _).mono ?_; rintro e w2 ⟨rfl, hb2⟩; have hs2 : w.heap.size < w2.heap.size := Nat.lt_of_lt_of_le hs1 hb2.size; obtain ⟨hcl2, hfr2⟩ := bcell hb2; clear hfr2)
    | (go_at_call 7; refine (num_any _ _).mono ?_; rintro e w' ⟨rfl, rfl⟩)
    | (go_at_call 5; refine (check_ex w2).mono ?_; rintro e w3 ⟨rfl, hb3⟩; have hs3 : w.heap.size < w3.heap.size := Nat.lt_of_lt_of_le hs2 hb3.size; obtain ⟨hcl3, hfr3⟩ := bcell hb3; clear hfr3; have hbe : Below w.heap.size w w3 := hb.trans ((hb1.mono (by simp)).trans ((hb2.mono (Nat.le_of_lt hs1)).trans (hb3.mono (Nat.le_of_lt hs2)))); have HB := Hid.mk' hbe; clear hbe)
    | (go_at_call 8; refine (checks_any _ _ _ _ _ _ _ _ a n cap A L C F _ (HS.out.below HB.out)).mono ?_; rintro e w4 ⟨rfl, hb4⟩))
  go_ret
  exact ⟨rfl, HB.out.trans (hb4.mono (Nat.le_of_lt hs3))⟩

end Go.Proofs.Ytlncjgnomhpjnaa
