import Derived.Test.YtlncjgnomhpjnaaGreatDoorEJCodeProg
/-
  The program's packer: the weights of the kind Leaning, the folded rests.
-/
namespace Go.Proofs.YtlncjgnomhpjnaaGreatDoor
open Go.RowKit Go.Deep
set_option linter.unusedVariables false

/-- the bounds of all that the weights are made of -/
theorem lean_bds (x : Nat → Int) (n : Nat) (hn : n ≤ 32) (hX : ∀ j, j < n → -4096 ≤ x j ∧ x j ≤ 4096) (r0 r1 r2 : Int) (h0 : r0 = lag x 0 n) (h1 : r1 = lag x 1 n) (h2 : r2 = lag x 2 n) :
    IntKind.i64.wrap (r0 * r0) = r0 * r0 ∧ IntKind.i64.wrap (r1 * r1) = r1 * r1 ∧ IntKind.i64.wrap (r0 * r0 - r1 * r1) = r0 * r0 - r1 * r1 ∧ IntKind.i64.wrap (8 * r1) = 8 * r1 ∧ IntKind.i64.wrap (r0 - r2) = r0 - r2 ∧
    IntKind.i64.wrap (8 * r1 * (r0 - r2)) = 8 * r1 * (r0 - r2) ∧ IntKind.i64.wrap (r0 * r2) = r0 * r2 ∧ IntKind.i64.wrap (r0 * r2 - r1 * r1) = r0 * r2 - r1 * r1 ∧ IntKind.i64.wrap (8 * (r0 * r2 - r1 * r1)) = 8 * (r0 * r2 - r1 * r1) ∧
    (-9000000000000000000 ≤ 8 * r1 * (r0 - r2) ∧ 8 * r1 * (r0 - r2) ≤ 9000000000000000000) ∧ (-9000000000000000000 ≤ 8 * (r0 * r2 - r1 * r1) ∧ 8 * (r0 * r2 - r1 * r1) ≤ 9000000000000000000) := by
  have b0 := lag_bd x 0 n hX
  have b1 := lag_bd x 1 n hX
  have b2 := lag_bd x 2 n hX
  rw [← h0] at b0
  rw [← h1] at b1
  rw [← h2] at b2
  have c0 : -((536870912 : Nat) : Int) ≤ r0 ∧ r0 ≤ ((536870912 : Nat) : Int) := by omega
  have c1 : -((536870912 : Nat) : Int) ≤ r1 ∧ r1 ≤ ((536870912 : Nat) : Int) := by omega
  have c2 : -((536870912 : Nat) : Int) ≤ r2 ∧ r2 ≤ ((536870912 : Nat) : Int) := by omega
  have c3 : -((4294967296 : Nat) : Int) ≤ 8 * r1 ∧ 8 * r1 ≤ ((4294967296 : Nat) : Int) := by omega
  have c4 : -((1073741824 : Nat) : Int) ≤ r0 - r2 ∧ r0 - r2 ≤ ((1073741824 : Nat) : Int) := by omega
  have m0 := mulBd c0 c0
  have m1 := mulBd c1 c1
  have m2 := mulBd c0 c2
  have m3 := mulBd c3 c4
  have e1 : ((536870912 * 536870912 : Nat) : Int) = 288230376151711744 := rfl
  have e2 : ((4294967296 * 1073741824 : Nat) : Int) = 4611686018427387904 := rfl
  rw [e1] at m0 m1 m2
  rw [e2] at m3
  clear b0 b1 b2 h0 h1 h2 hX e1 e2 c3
  generalize r0 * r0 = A at *
  generalize r1 * r1 = B at *
  generalize r0 * r2 = C at *
  generalize 8 * r1 * (r0 - r2) = D at *
  refine ⟨?_, ?_, ?_, ?_, ?_, ?_, ?_, ?_, ?_, by omega, by omega⟩ <;> (rw [IntKind.wrap_i64]; omega)

set_option maxHeartbeats 1000000 in
theorem weightsFor_any (a : Option Addr) (n c : Nat) (x : Nat → Int) (w : World) (hn : n ≤ 32) (hX : ∀ j, j < n → -4096 ≤ x j ∧ x j ≤ 4096) (hI : IntsAt w a n x) :
    Calls Tryz.prog 214 #[.slice a n c] w fun e w' => (∃ A B : Int, e = .returned (.tuple #[.int .i64 A, .int .i64 B, .bool (decide (0 < leanD x n))]) ∧ (0 < leanD x n → A = leanA x n ∧ B = leanB x n)) ∧ ∃ m, w' = w.drewN m := by
  have HI := Hid.mk' hI
  have H0 := Hid.mk' (fun (u : World) (hu : IntsAt u a n x) => laggedSum_any a n c 0 x u hn (by omega) hX hu)
  have H1 := Hid.mk' (fun (u : World) (hu : IntsAt u a n x) => laggedSum_any a n c 1 x u hn (by omega) hX hu)
  have H2 := Hid.mk' (fun (u : World) (hu : IntsAt u a n x) => laggedSum_any a n c 2 x u hn (by omega) hX hu)
  obtain ⟨r0, h0⟩ : ∃ r, r = lag x 0 n := ⟨_, rfl⟩
  obtain ⟨r1, h1⟩ : ∃ r, r = lag x 1 n := ⟨_, rfl⟩
  obtain ⟨r2, h2⟩ : ∃ r, r = lag x 2 n := ⟨_, rfl⟩
  obtain ⟨v1, v2, v3, v4, v5, v6, v7, v8, v9, b1, b2⟩ := lean_bds x n hn hX r0 r1 r2 h0 h1 h2
  have hD : leanD x n = r0 * r0 - r1 * r1 := by rw [h0, h1]; rfl
  have HA : Hid (leanA x n = clamp (8 * r1 * (r0 - r2) / (r0 * r0 - r1 * r1))) := by show _ = _; rw [h0, h1, h2]; rfl
  have HB : Hid (leanB x n = clamp (8 * (r0 * r2 - r1 * r1) / (r0 * r0 - r1 * r1))) := by show _ = _; rw [h0, h1, h2]; rfl
  rw [← h0] at H0
  rw [← h1] at H1
  rw [← h2] at H2
  rw [hD]
  clear h0 h1 h2 hI hX hD
  by_cases hd : 0 < r0 * r0 - r1 * r1
  · have t1 : decide (r0 * r0 - r1 * r1 ≤ 0) = false := decide_eq_false (by omega)
    have t2 : decide (0 < r0 * r0 - r1 * r1) = true := decide_eq_true hd
    rw [t2]
    have HWA := Hid.mk' (fun u => weight_any (8 * r1 * (r0 - r2)) (r0 * r0 - r1 * r1) u hd b1)
    have HWB := Hid.mk' (fun u => weight_any (8 * (r0 * r2 - r1 * r1)) (r0 * r0 - r1 * r1) u hd b2)
    rw [← HA.out] at HWA
    rw [← HB.out] at HWB
    clear b1 b2 hd t2 HA HB
    go_enter Tryz.func214, Tryz.ntmps214
    go_wp2_with (first
      | (go_at_call 229; refine (H0.out _ ?_).mono ?_; exact HI.out; rintro e w1 ⟨rfl, q1, hw⟩; subst w1; clear H0)
      | (go_at_call 229; refine (H1.out _ ?_).mono ?_; exact HI.out; rintro e w1 ⟨rfl, q2, hw⟩; subst w1; clear H1)
      | (go_at_call 229; refine (H2.out _ ?_).mono ?_; exact HI.out; rintro e w1 ⟨rfl, q3, hw⟩; subst w1; clear H2)
      | (go_at_call 230; refine (HWA.out _).mono ?_; rintro e w1 ⟨rfl, q4, hw⟩; subst w1; clear HWA)
      | (go_at_call 230; refine (HWB.out _).mono ?_; rintro e w1 ⟨rfl, q5, hw⟩; subst w1; clear HWB))
    go_ret3
    exact ⟨⟨_, _, rfl, fun _ => ⟨rfl, rfl⟩⟩, _, rfl⟩
  · have t1 : decide (r0 * r0 - r1 * r1 ≤ 0) = true := decide_eq_true (by omega)
    have t2 : decide (0 < r0 * r0 - r1 * r1) = false := decide_eq_false hd
    have HND := Hid.mk' hd
    rw [t2]
    clear b1 b2 hd t2 HA HB
    go_enter Tryz.func214, Tryz.ntmps214
    go_wp2_with (first
      | (go_at_call 229; refine (H0.out _ ?_).mono ?_; exact HI.out; rintro e w1 ⟨rfl, q1, hw⟩; subst w1; clear H0)
      | (go_at_call 229; refine (H1.out _ ?_).mono ?_; exact HI.out; rintro e w1 ⟨rfl, q2, hw⟩; subst w1; clear H1)
      | (go_at_call 229; refine (H2.out _ ?_).mono ?_; exact HI.out; rintro e w1 ⟨rfl, q3, hw⟩; subst w1; clear H2))
    go_ret3
    exact ⟨⟨_, _, rfl, fun h => absurd h (Int.not_lt.2 HND.out)⟩, _, rfl⟩

/-- the guess of a list -/
theorem guessI_any (kind : Nat) (a c : Int) (A : Option Addr) (n cap : Nat) (x : Nat → Int) (w : World) (h2 : 2 ≤ kind) (h7 : kind ≤ 7) (ha : -32 ≤ a ∧ a ≤ 32) (hc : -32 ≤ c ∧ c ≤ 32) (hn : n ≤ 32) (hon : ord kind ≤ n) (hX : ∀ j, j < n → -4096 ≤ x j ∧ x j ≤ 4096)
    (hI : IntsAt w A n x) (hlow : ∀ y, A = some y → 0 < n → y.block < w.heap.size) :
    Calls Tryz.prog 213 #[gV kind a c, .slice A n cap] w fun e w' => e = .returned (.int .i64 (guessG kind a c x n)) ∧ Below w.heap.size w w' := by
  have hb := wt_bd kind a c ha hc
  refine (guess_any (ord kind) (scl kind) _ _ _ _ A n cap x w (ord_le kind h2 h7) hon (by unfold scl; split <;> omega) hn (hb 0) (hb 1) (hb 2) (hb 3) hX hI hlow).mono fun e w' h => ⟨?_, h.2⟩
  rw [h.1, guess_of kind a c x n h2 h7]

theorem fR_bd (kind : Nat) (x : Nat → Int) (n i : Nat) (h2 : 2 ≤ kind) (h7 : kind ≤ 7) (hX : ∀ j, j ≤ i → -4096 ≤ x j ∧ x j ≤ 4096) (hi : ord kind ≤ i) :
    (-1000000 ≤ x i - guessG kind (wA kind x n) (wB kind x n) x i ∧ x i - guessG kind (wA kind x n) (wB kind x n) x i ≤ 1000000) ∧ fR kind x n i ≤ 2000000 := by
  have hA := wA_bd kind x n
  have hB := wB_bd kind x n
  have hg := guessG_bd (kind := kind) (a := wA kind x n) (c := wB kind x n) (x := x) (n := i) h2 h7 (by omega) (by omega) (fun j hj => hX j (by omega)) (by omega)
  have hxi := hX i (by omega)
  refine ⟨by omega, ?_⟩
  exact foldN_le _ 1000000 (by omega)

def foldV (o : Nat) (F : Nat → Nat) (j i : Nat) : Value := .int .i64 (if o ≤ i ∧ i < j then (F i : Int) else 0)
theorem foldV_step {w : World} {g : Nat} {t : TypeId} {cap k o : Nat} {F : Nat → Nat} {z : Int} (ho : o ≤ k) (hz : z = F k) (h : w.rowIs g t cap (fun i => if i = k then .int .i64 z else foldV o F k i)) : w.rowIs g t cap (foldV o F (k + 1)) := by
  refine h.congr fun i _ => ?_
  unfold foldV
  by_cases e : i = k
  · subst e; simp [hz, ho]
  · by_cases e2 : i < k
    · simp [e, e2, Nat.lt_succ_of_lt e2]
    · have : ¬ i < k + 1 := by omega
      simp [e, e2, this]

set_option maxHeartbeats 2000000 in
theorem foldedRests_any (kind : Nat) (A : Option Addr) (n c : Nat) (x : Nat → Int) (w : World) (h2 : 2 ≤ kind) (h7 : kind ≤ 7) (hn : n ≤ 32) (hon : ord kind < n) (hX : ∀ j, j < n → -4096 ≤ x j ∧ x j ≤ 4096)
    (hI : IntsAt w A n x) (hlow : ∀ y, A = some y → 0 < n → y.block < w.heap.size) (hnc : n ≤ c) :
    Calls Tryz.prog 218 #[gV kind (wA kind x n) (wB kind x n), .slice A n c] w fun e w' => ∃ G, w.heap.size ≤ G ∧ e = .returned (.slice (some ⟨G, 0, none⟩) n n) ∧ w'.rowIs G 3 n (foldV (ord kind) (fR kind x n) n) ∧ Below w.heap.size w w' := by
  have hmk := run_make_row' (P := Tryz.prog) 29 3 (.int .i64 0) 8 Tryz.underlying29 infoInt rfl .i64 .i64 n (by omega) (by omega)
  have hA := wA_bd kind x n
  have hB := wB_bd kind x n
  have HX := Hid.mk' hX
  have HFR : Hid (∀ i, fR kind x n i = foldN (x i - guessG kind (wA kind x n) (wB kind x n) x i)) := fun i => rfl
  have HBD := Hid.mk' (fun i (hi : ord kind ≤ i) (hin : i < n) => fR_bd kind x n i h2 h7 (fun j hj => hX j (by omega)) hi)
  have HG := Hid.mk' (fun (i : Nat) (hi : ord kind ≤ i) (hin : i < n) (u : World) (hu : IntsAt u A n x) (hs : ∀ y, A = some y → 0 < n → y.block < u.heap.size) => guessI_any kind (wA kind x n) (wB kind x n) A i c x u h2 h7 (by omega) (by omega) (by omega) hi (fun j hj => hX j (by omega)) (fun j hj => hu j (by omega)) (fun y hy _ => hs y hy (by omega)))
  have HI := Hid.mk' (fun u (h : Below w.heap.size w u) => hI.belowB h hlow)
  have HLOW := Hid.mk' hlow
  generalize wA kind x n = wa at *
  generalize wB kind x n = wb at *
  generalize fR kind x n = F at *
  clear hI hlow hX hA hB
  unfold gV at HG ⊢
  have ho := ord_le kind h2 h7
  go_enter Tryz.func218, Tryz.ntmps218
  go_wp2
  clear hmk
  go_loopw [6] (fun iv wr => ∃ j : Nat, ord kind ≤ j ∧ j ≤ n ∧ iv = .int .i64 j ∧ Hid (Gd wr w.heap.size kind wa wb ∧ wr.rowIs (w.heap.size + 1) 3 n (foldV (ord kind) F j) ∧ Below w.heap.size w wr)) (fun iv _ => n - (intOf iv).toNat)
  case atStart =>
    refine ⟨ord kind, by omega, by omega, rfl, ?_, ?_, ?_⟩
    · unfold Gd
      rw [blk_alloc_lt _ _ _ (by simp)]
      exact blk_alloc_new _ _
    · have := World.rowIs_made (w.alloc (.cells #[.int .i64 (ord kind), .int .i64 (wt kind wa wb 0), .int .i64 (wt kind wa wb 1), .int .i64 (wt kind wa wb 2), .int .i64 (wt kind wa wb 3), .int .i64 (scl kind : Int)] 201)) (.int .i64 0) n 3
      rw [World.size_alloc] at this
      exact this.congr fun i _ => by unfold foldV; rw [if_neg (by omega)]
    · exact ((Below.refl _ _).alloc (Nat.le_refl _) _).alloc (by simp) _
  case round =>
    obtain ⟨j, hoj, hj, rfl, HR⟩ := hrel
    by_cases hlt : j < n
    · obtain ⟨bb, off, hx, hc⟩ := (HI.out wr HR.out.2.2).open (by omega)
      subst hx
      have hcj := hc j hlt
      clear hc
      obtain ⟨g0, g1, g2, g3, g4, g5⟩ := HR.out.1.cells
      have hlw := HLOW.out _ rfl (by omega)
      have hs := HR.out.2.2.size
      have hr1 := HR.out.2.1.lt
      have HGJ := Hid.mk' (HG.out j hoj hlt wr.drew (HI.out wr.drew HR.out.2.2.drew) (fun y hy h0 => Nat.lt_of_lt_of_le (HLOW.out y hy h0) hs))
      have hbd := (HBD.out j hoj hlt).1
      have HFJ := Hid.mk' (HFR.out j)
      have hgb : -2000000 ≤ guessG kind wa wb x j ∧ guessG kind wa wb x j ≤ 2000000 := by have := HX.out j hlt; omega
      obtain ⟨gv, hgv⟩ : ∃ v, v = guessG kind wa wb x j := ⟨_, rfl⟩
      rw [← hgv] at HGJ hbd HFJ hgb
      have HFO := Hid.mk' (fun u => fold_any (x j - gv) u hbd)
      rw [← HFJ.out] at HFO
      have v1 : IntKind.i64.wrap (x j - gv) = x j - gv := by rw [IntKind.wrap_i64]; omega
      have hcj1 := Hid.mk' (fun (u : World) (h : Below wr.drew.heap.size wr.drew u) => (h.cell (p := ⟨bb, off + j, none⟩) (show bb < wr.drew.heap.size from Nat.lt_of_lt_of_le hlw hs)).trans hcj)
      have hrw1 := Hid.mk' (fun (u : World) (h : Below wr.drew.heap.size wr.drew u) => (HR.out.2.1.of_block (h.block _ hr1) : u.rowIs (w.heap.size + 1) 3 n (foldV (ord kind) F j)))
      clear hgv hbd hgb
      go_wp2
      go_region_with (first
        | (go_at_call 213; refine HGJ.out.mono ?_; rintro e w1 ⟨rfl, hb1⟩; have hcj2 := hcj1.out w1 hb1; have HR1 := Hid.mk' (hrw1.out w1 hb1); have hcw := HR1.out.cell hlt; have hfw := HR1.out.frozen j; unfold foldV at hcw; have HB1 := Hid.mk' hb1; clear hb1 HGJ)
        | (go_at_call 228; refine (HFO.out _).mono ?_; rintro e w2 ⟨rfl, hw⟩; subst w2; clear HFO))
      all_goals go_wp2
      all_goals go_roundw
      all_goals first
        | exact ⟨j + 1, by omega, by omega, by go_num, HR.out.1.of (by rw [blk_setCell_other _ _ _ _ (by simp)]; exact HB1.out.block _ (by show w.heap.size < wr.heap.size; omega)), foldV_step hoj rfl (HR1.out.set j _), (HR.out.2.2.drew.trans (HB1.out.mono hs)).setCell (by simp) _⟩
        | (simp [intOf]; omega)
    · have e : j = n := by omega
      subst e
      go_wp2
      go_ret
      exact ⟨_, by omega, rfl, HR.out.2.1, HR.out.2.2⟩
end Go.Proofs.YtlncjgnomhpjnaaGreatDoor

