import Derived.Test.YtlncjgnomhpjnabGreatDoorQU7
/-
  The program's packer: a body by the kind Leaning; no body.
-/
namespace Go.Proofs.YtlncjgnomhpjnabGreatDoor
open Go.RowKit Go.Deep
set_option linter.unusedVariables false
set_option maxRecDepth 100000 in
set_option maxHeartbeats 4000000 in
theorem guessedBody_seven (kind : Nat) (A : Option Addr) (n c width : Nat) (x : Nat → Int) (w : World) (hk7 : kind = 7) (hn : n ≤ 32) (hnc : n ≤ c) (hw : width ≤ 13) (hon : ord kind < n) (hD : 0 < leanD x n) (hS : Shorts w A n x) :
    Calls Tryz.prog 294 #[.int .i64 kind, .int .i64 width, .slice A n c] w fun e w' => e = .returned (.tuple #[.agg (bodyA kind width x n), .bool true]) ∧ Below w.heap.size w w' := by
  have h2 : 2 ≤ kind := by omega
  have hk7' : kind ≤ 7 := by omega
  have ho := ord_le kind h2 hk7'
  have h7 : ((kind : Int) == 7) = true := by simp; omega
  have hm : IntKind.i64.wrap ((ord kind : Int) * (width : Int)) = ((ord kind * width : Nat) : Int) := by
    have h1 : ord kind * width ≤ 4 * 13 := Nat.mul_le_mul ho hw
    rw [show (ord kind : Int) * (width : Int) = ((ord kind * width : Nat) : Int) by simp, IntKind.wrap_i64]; omega
  have hmb : ord kind * width ≤ 52 := Nat.mul_le_mul ho hw
  have HO := Hid.mk' (fun u => orderOf_any kind u h2 hk7')
  have HF : Hid (∀ u : World, Calls Tryz.prog 321 #[.int .i64 (leanA x n), .int .i64 (leanB x n)] u fun e w' => e = .returned (gV kind (wA kind x n) (wB kind x n)) ∧ Below u.heap.size u w') := fun u => by
    have ea : wA kind x n = leanA x n := if_pos hk7
    have eb : wB kind x n = leanB x n := if_pos hk7
    rw [ea, eb, hk7]
    exact leaning_any (leanA x n) (leanB x n) u
  have HWF := Hid.mk' (fun (u : World) (hu : Below w.heap.size w u) => weightsFor_any A n c x u hn hS.bd (hS.below hu).ints)
  rw [decide_eq_true hD] at HWF
  have HFR := Hid.mk' (fun (u : World) (hu : Below w.heap.size w u) => foldedRests_any kind A n c x u h2 hk7' hn hon hS.bd (hS.below hu).ints (hS.below hu).low hnc)
  have HSP := Hid.mk' (fun (G : Nat) (u : World) (hu : u.rowIs G 3 n (foldV (ord kind) (fR kind x n) n)) => shortestParts_any (ord kind) G n (fR kind x n) u hn ho hon (fun i hi hin => (fR_bd kind x n i h2 hk7' (fun j hj => hS.bd j (by omega)) hi).2) hu)
  have hcl := cutL_le (fR kind x n) (ord kind) n (bC kind x n) hn (bestC_le _ _ _ _) (bestC_ok _ _ _ hon _) (fun i hi hin => (fR_bd kind x n i h2 hk7' (fun j hj => hS.bd j (by omega)) hi).2)
  have hp9 : pvI (fR kind x n) (ord kind) n (bC kind x n) 9 = (cutL (fR kind x n) (ord kind) n (bC kind x n) : Int) := rfl
  have HBL : Hid ((bodyL kind width x n : Int) = ((ord kind * width : Nat) : Int) + 12 + (cutL (fR kind x n) (ord kind) n (bC kind x n) : Int)) := by
    show _ = _
    unfold bodyL gL
    rw [if_neg (by omega), if_neg (by omega), if_pos hk7]; simp
  have HBV : Hid (bodyA kind width x n = #[.int .i64 kind, .int .i64 (ord kind), .int .i64 (wt kind (wA kind x n) (wB kind x n) 0), .int .i64 (wt kind (wA kind x n) (wB kind x n) 1), .int .i64 (wt kind (wA kind x n) (wB kind x n) 2), .int .i64 (wt kind (wA kind x n) (wB kind x n) 3), .int .i64 (scl kind : Int), .int .i64 (pvI (fR kind x n) (ord kind) n (bC kind x n) 0), .int .i64 (pvI (fR kind x n) (ord kind) n (bC kind x n) 1), .int .i64 (pvI (fR kind x n) (ord kind) n (bC kind x n) 2), .int .i64 (pvI (fR kind x n) (ord kind) n (bC kind x n) 3), .int .i64 (pvI (fR kind x n) (ord kind) n (bC kind x n) 4), .int .i64 (pvI (fR kind x n) (ord kind) n (bC kind x n) 5), .int .i64 (pvI (fR kind x n) (ord kind) n (bC kind x n) 6), .int .i64 (pvI (fR kind x n) (ord kind) n (bC kind x n) 7), .int .i64 (pvI (fR kind x n) (ord kind) n (bC kind x n) 8), .int .i64 (pvI (fR kind x n) (ord kind) n (bC kind x n) 9), .int .i64 (((ord kind * width : Nat) : Int) + 12 + (cutL (fR kind x n) (ord kind) n (bC kind x n) : Int))]) := by
    show _ = _
    rw [← HBL.out]
    unfold bodyA bG bP
    simp only [if_neg (show ¬ kind < 2 by omega)]
    rfl
  obtain ⟨cl, hcle⟩ : ∃ cl, cl = cutL (fR kind x n) (ord kind) n (bC kind x n) := ⟨_, rfl⟩
  obtain ⟨ow, howe⟩ : ∃ ow, ow = ord kind * width := ⟨_, rfl⟩
  obtain ⟨pv, hpve⟩ : ∃ pv, pv = pvI (fR kind x n) (ord kind) n (bC kind x n) := ⟨_, rfl⟩
  have hbCe : bestC (fR kind x n) (ord kind) n 3 = bC kind x n := rfl
  rw [hbCe] at HSP
  rw [← hcle] at hcl hp9 HBV
  rw [← hpve] at hp9 HBV HSP
  rw [← howe] at hm hmb HBV
  have v1 : IntKind.i64.wrap ((ow : Int) + 12 + pv 9) = (ow : Int) + 12 + (cl : Int) := by rw [hp9, IntKind.wrap_i64]; omega
  have v0 : IntKind.i64.wrap ((ow : Int) + 12) = (ow : Int) + 12 := by rw [IntKind.wrap_i64]; omega
  clear hp9
  have HR0 : Hid (Bx ((w.alloc (.cells #[.int .i64 0, .int .i64 0, .int .i64 0, .int .i64 0, .int .i64 0, .int .i64 0, .int .i64 0, .int .i64 0, .int .i64 0, .int .i64 0, .int .i64 0, .int .i64 0, .int .i64 0, .int .i64 0, .int .i64 0, .int .i64 0, .int .i64 0, .int .i64 0] 338)).alloc (.cells #[.int .i64 0, .int .i64 0, .int .i64 0, .int .i64 0, .int .i64 0, .int .i64 0] 333)) w.heap.size 338 #[.int .i64 0, .int .i64 0, .int .i64 0, .int .i64 0, .int .i64 0, .int .i64 0, .int .i64 0, .int .i64 0, .int .i64 0, .int .i64 0, .int .i64 0, .int .i64 0, .int .i64 0, .int .i64 0, .int .i64 0, .int .i64 0, .int .i64 0, .int .i64 0]) := (Bx.new w _ _).alloc _
  have HB0 : Hid (Bx ((w.alloc (.cells #[.int .i64 0, .int .i64 0, .int .i64 0, .int .i64 0, .int .i64 0, .int .i64 0, .int .i64 0, .int .i64 0, .int .i64 0, .int .i64 0, .int .i64 0, .int .i64 0, .int .i64 0, .int .i64 0, .int .i64 0, .int .i64 0, .int .i64 0, .int .i64 0] 338)).alloc (.cells #[.int .i64 0, .int .i64 0, .int .i64 0, .int .i64 0, .int .i64 0, .int .i64 0] 333)) (w.heap.size + 1) 333 #[.int .i64 0, .int .i64 0, .int .i64 0, .int .i64 0, .int .i64 0, .int .i64 0]) := by
    have := Bx.new (w.alloc (.cells #[.int .i64 0, .int .i64 0, .int .i64 0, .int .i64 0, .int .i64 0, .int .i64 0, .int .i64 0, .int .i64 0, .int .i64 0, .int .i64 0, .int .i64 0, .int .i64 0, .int .i64 0, .int .i64 0, .int .i64 0, .int .i64 0, .int .i64 0, .int .i64 0] 338)) #[.int .i64 0, .int .i64 0, .int .i64 0, .int .i64 0, .int .i64 0, .int .i64 0] 333
    rw [World.size_alloc] at this
    exact this
  have HW0 : Hid (Below w.heap.size w ((w.alloc (.cells #[.int .i64 0, .int .i64 0, .int .i64 0, .int .i64 0, .int .i64 0, .int .i64 0, .int .i64 0, .int .i64 0, .int .i64 0, .int .i64 0, .int .i64 0, .int .i64 0, .int .i64 0, .int .i64 0, .int .i64 0, .int .i64 0, .int .i64 0, .int .i64 0] 338)).alloc (.cells #[.int .i64 0, .int .i64 0, .int .i64 0, .int .i64 0, .int .i64 0, .int .i64 0] 333))) := ((Below.refl w.heap.size w).alloc (Nat.le_refl _) _).alloc (by simp) _
  have t1 : decide ((n : Int) ≤ (ord kind : Int)) = false := decide_eq_false (by omega)
  have t2 : decide (n ≤ ord kind) = false := decide_eq_false (by omega)
  rw [HBV.out]
  have HD := Hid.mk' hD
  clear hk7 hD hS hcle howe hpve hbCe HBL HBV hmb hcl
  unfold gV at HF HFR
  generalize hwt : wt kind (wA kind x n) (wB kind x n) = wv at *
  clear hwt
  generalize ord kind = o at *
  generalize scl kind = sc at *
  go_enter Tryz.func294, Tryz.ntmps294
  go_wp2_with (first
    | (go_at_call 319; refine (HO.out _).mono ?_; rintro e w1 ⟨rfl, hw⟩; subst w1; clear HO)
    | (go_at_call 320; refine (HWF.out _ ?_).mono ?_; exact HW0.out; rintro e w1 ⟨⟨va, vb, rfl, hab⟩, q, hq⟩; obtain ⟨rfl, rfl⟩ := hab HD.out; have HR1 : Hid (Bx w1 w.heap.size 338 #[.int .i64 0, .int .i64 0, .int .i64 0, .int .i64 0, .int .i64 0, .int .i64 0, .int .i64 0, .int .i64 0, .int .i64 0, .int .i64 0, .int .i64 0, .int .i64 0, .int .i64 0, .int .i64 0, .int .i64 0, .int .i64 0, .int .i64 0, .int .i64 0]) := (by rw [hq]; exact HR0.out); have HB1 : Hid (Bx w1 (w.heap.size + 1) 333 #[.int .i64 0, .int .i64 0, .int .i64 0, .int .i64 0, .int .i64 0, .int .i64 0]) := (by rw [hq]; exact HB0.out); have HW1 : Hid (Below w.heap.size w w1) := (by rw [hq]; exact ⟨HW0.out.os, HW0.out.tape, HW0.out.output, HW0.out.size, HW0.out.block⟩); clear hq hab HWF HR0 HB0 HW0)
    | (go_at_call 321; refine (HF.out _).mono ?_; rintro e w2 ⟨rfl, hb2⟩; have HR2 := Hid.mk' (HR1.out.below hb2); have HB2 := Hid.mk' (HB1.out.below hb2); have HW2 := Hid.mk' (HW1.out.trans (hb2.mono HW1.out.size)); clear hb2 HR1 HB1 HW1; clear HF)
    | (refine wpList_storeRow rfl _ _ 333 rfl (w.heap.size + 1) 333 _ _ rfl rfl HB2.out infoGuesser rfl rfl ?_; have HR3 := Hid.mk' (HR2.out.other (g := w.heap.size + 1) (by omega) #[.int .i64 (o : Int), .int .i64 (wv 0), .int .i64 (wv 1), .int .i64 (wv 2), .int .i64 (wv 3), .int .i64 (sc : Int)]); have HB3 := Hid.mk' (HB2.out.row #[.int .i64 (o : Int), .int .i64 (wv 0), .int .i64 (wv 1), .int .i64 (wv 2), .int .i64 (wv 3), .int .i64 (sc : Int)]); have HW3 := Hid.mk' (below_setRow (g := w.heap.size + 1) HW2.out (by omega) #[.int .i64 (o : Int), .int .i64 (wv 0), .int .i64 (wv 1), .int .i64 (wv 2), .int .i64 (wv 3), .int .i64 (sc : Int)]); clear HR2 HB2 HW2)
    | (refine wpList_loadRow rfl _ 333 rfl (w.heap.size + 1) 333 #[.int .i64 (o : Int), .int .i64 (wv 0), .int .i64 (wv 1), .int .i64 (wv 2), .int .i64 (wv 3), .int .i64 (sc : Int)] (0, 0) _ rfl HB3.out Tryz.underlying333 rfl infoGuesser ?_)
    | (go_at_call 324; refine (HFR.out _ ?_).mono ?_; exact HW3.out; rintro e w4 ⟨G, hG, rfl, hrow, hb4⟩; have HG := Hid.mk' hrow; have HR4 := Hid.mk' (HR3.out.below hb4); have HB4 := Hid.mk' (HB3.out.below hb4); have HW4 := Hid.mk' (HW3.out.trans (hb4.mono HW3.out.size)); clear hb4 HR3 HB3 HW3; clear hrow HFR)
    | (go_at_call 323; refine (HSP.out G _ ?_).mono ?_; exact HG.out; rintro e w5 ⟨rfl, hb5⟩; have HR5 := Hid.mk' (HR4.out.below hb5); have HB5 := Hid.mk' (HB4.out.below hb5); have HW5 := Hid.mk' (HW4.out.trans (hb5.mono HW4.out.size)); clear hb5 HR4 HB4 HW4; have hs5 := HB5.out.lt; clear HSP HG)
    | (refine wpList_storeRow rfl _ _ 336 rfl w5.heap.size 336 _ _ rfl rfl (Bx.new w5 #[.int .i64 0, .int .i64 0, .int .i64 0, .int .i64 0, .int .i64 0, .int .i64 0, .int .i64 0, .int .i64 0, .int .i64 0, .int .i64 0] 336) infoParts rfl rfl ?_; have HP6 := Hid.mk' ((Bx.new w5 #[.int .i64 0, .int .i64 0, .int .i64 0, .int .i64 0, .int .i64 0, .int .i64 0, .int .i64 0, .int .i64 0, .int .i64 0, .int .i64 0] 336).row #[.int .i64 (pv 0), .int .i64 (pv 1), .int .i64 (pv 2), .int .i64 (pv 3), .int .i64 (pv 4), .int .i64 (pv 5), .int .i64 (pv 6), .int .i64 (pv 7), .int .i64 (pv 8), .int .i64 (pv 9)]); have HR6 := Hid.mk' ((HR5.out.alloc (.cells #[.int .i64 0, .int .i64 0, .int .i64 0, .int .i64 0, .int .i64 0, .int .i64 0, .int .i64 0, .int .i64 0, .int .i64 0, .int .i64 0] 336)).other (g := w5.heap.size) (by omega) #[.int .i64 (pv 0), .int .i64 (pv 1), .int .i64 (pv 2), .int .i64 (pv 3), .int .i64 (pv 4), .int .i64 (pv 5), .int .i64 (pv 6), .int .i64 (pv 7), .int .i64 (pv 8), .int .i64 (pv 9)]); have HB6 := Hid.mk' ((HB5.out.alloc (.cells #[.int .i64 0, .int .i64 0, .int .i64 0, .int .i64 0, .int .i64 0, .int .i64 0, .int .i64 0, .int .i64 0, .int .i64 0, .int .i64 0] 336)).other (g := w5.heap.size) (by omega) #[.int .i64 (pv 0), .int .i64 (pv 1), .int .i64 (pv 2), .int .i64 (pv 3), .int .i64 (pv 4), .int .i64 (pv 5), .int .i64 (pv 6), .int .i64 (pv 7), .int .i64 (pv 8), .int .i64 (pv 9)]); have HW6 := Hid.mk' (below_setRow (g := w5.heap.size) (HW5.out.alloc HW5.out.size (.cells #[.int .i64 0, .int .i64 0, .int .i64 0, .int .i64 0, .int .i64 0, .int .i64 0, .int .i64 0, .int .i64 0, .int .i64 0, .int .i64 0] 336)) (by omega) #[.int .i64 (pv 0), .int .i64 (pv 1), .int .i64 (pv 2), .int .i64 (pv 3), .int .i64 (pv 4), .int .i64 (pv 5), .int .i64 (pv 6), .int .i64 (pv 7), .int .i64 (pv 8), .int .i64 (pv 9)]); have x9 := HP6.out.cell 9; simp at x9; clear HR5 HB5 HW5)
    | (refine wpList_loadRow rfl _ 333 rfl (w.heap.size + 1) 333 #[.int .i64 (o : Int), .int .i64 (wv 0), .int .i64 (wv 1), .int .i64 (wv 2), .int .i64 (wv 3), .int .i64 (sc : Int)] (0, 0) _ rfl HB6.out Tryz.underlying333 rfl infoGuesser ?_)
    | (refine wpList_loadRow rfl _ 336 rfl w5.heap.size 336 #[.int .i64 (pv 0), .int .i64 (pv 1), .int .i64 (pv 2), .int .i64 (pv 3), .int .i64 (pv 4), .int .i64 (pv 5), .int .i64 (pv 6), .int .i64 (pv 7), .int .i64 (pv 8), .int .i64 (pv 9)] (0, 0) _ rfl HP6.out Tryz.underlying336 rfl infoParts ?_)
    | (refine wpList_storeRow rfl _ _ 338 rfl w.heap.size 338 _ _ rfl rfl HR6.out infoBody rfl rfl ?_))
  exact bodyPost_ret (res_gb _ w.heap.size true _ _ (HR6.out.row _) rfl rfl rfl) rfl ⟨rfl, below_setRow HW6.out (Nat.le_refl _) _⟩
set_option maxRecDepth 100000 in
set_option maxHeartbeats 4000000 in
theorem guessedBody_short (kind : Nat) (A : Option Addr) (n c width : Nat) (w : World) (h2 : 2 ≤ kind) (h7 : kind ≤ 7) (hon : ¬ ord kind < n) :
    Calls Tryz.prog 294 #[.int .i64 kind, .int .i64 width, .slice A n c] w fun e w' => e = .returned (.tuple #[.agg zero18, .bool false]) ∧ Below w.heap.size w w' := by
  have HO := Hid.mk' (fun u => orderOf_any kind u h2 h7)
  have HR0 : Hid (Bx (w.alloc (.cells #[.int .i64 0, .int .i64 0, .int .i64 0, .int .i64 0, .int .i64 0, .int .i64 0, .int .i64 0, .int .i64 0, .int .i64 0, .int .i64 0, .int .i64 0, .int .i64 0, .int .i64 0, .int .i64 0, .int .i64 0, .int .i64 0, .int .i64 0, .int .i64 0] 338)) w.heap.size 338 #[.int .i64 0, .int .i64 0, .int .i64 0, .int .i64 0, .int .i64 0, .int .i64 0, .int .i64 0, .int .i64 0, .int .i64 0, .int .i64 0, .int .i64 0, .int .i64 0, .int .i64 0, .int .i64 0, .int .i64 0, .int .i64 0, .int .i64 0, .int .i64 0]) := Bx.new w _ _
  have HW0 : Hid (Below w.heap.size w (w.alloc (.cells #[.int .i64 0, .int .i64 0, .int .i64 0, .int .i64 0, .int .i64 0, .int .i64 0, .int .i64 0, .int .i64 0, .int .i64 0, .int .i64 0, .int .i64 0, .int .i64 0, .int .i64 0, .int .i64 0, .int .i64 0, .int .i64 0, .int .i64 0, .int .i64 0] 338))) := (Below.refl w.heap.size w).alloc (Nat.le_refl _) _
  have t1 : decide ((n : Int) ≤ (ord kind : Int)) = true := decide_eq_true (by omega)
  have t2 : decide (n ≤ ord kind) = true := decide_eq_true (by omega)
  generalize ord kind = o at *
  go_enter Tryz.func294, Tryz.ntmps294
  go_wp2_with (first
    | (go_at_call 319; refine (HO.out _).mono ?_; rintro e w1 ⟨rfl, hw⟩; subst w1; clear HO)
    | (refine wpList_storeRow rfl _ _ 338 rfl w.heap.size 338 _ _ rfl rfl HR0.out infoBody rfl rfl ?_))
  exact bodyPost_ret (res_gb _ w.heap.size false _ _ (HR0.out.row _) rfl rfl rfl) rfl ⟨rfl, below_setRow HW0.out (Nat.le_refl _) _⟩
set_option maxRecDepth 100000 in
set_option maxHeartbeats 4000000 in
theorem guessedBody_no7 (kind : Nat) (A : Option Addr) (n c width : Nat) (x : Nat → Int) (w : World) (hk7 : kind = 7) (hn : n ≤ 32) (hw : width ≤ 13) (hon : ord kind < n) (hD : ¬ 0 < leanD x n) (hS : Shorts w A n x) :
    Calls Tryz.prog 294 #[.int .i64 kind, .int .i64 width, .slice A n c] w fun e w' => e = .returned (.tuple #[.agg zero18, .bool false]) ∧ Below w.heap.size w w' := by
  have h2 : 2 ≤ kind := by omega
  have ho := ord_le kind h2 (by omega)
  have h7 : ((kind : Int) == 7) = true := by simp; omega
  have hm : IntKind.i64.wrap ((ord kind : Int) * (width : Int)) = ((ord kind * width : Nat) : Int) := by
    have h1 : ord kind * width ≤ 4 * 13 := Nat.mul_le_mul ho hw
    rw [show (ord kind : Int) * (width : Int) = ((ord kind * width : Nat) : Int) by simp, IntKind.wrap_i64]; omega
  have HO := Hid.mk' (fun u => orderOf_any kind u h2 (by omega))
  have HWF := Hid.mk' (fun (u : World) (hu : Below w.heap.size w u) => weightsFor_any A n c x u hn hS.bd (hS.below hu).ints)
  rw [decide_eq_false hD] at HWF
  have HR0 : Hid (Bx ((w.alloc (.cells #[.int .i64 0, .int .i64 0, .int .i64 0, .int .i64 0, .int .i64 0, .int .i64 0, .int .i64 0, .int .i64 0, .int .i64 0, .int .i64 0, .int .i64 0, .int .i64 0, .int .i64 0, .int .i64 0, .int .i64 0, .int .i64 0, .int .i64 0, .int .i64 0] 338)).alloc (.cells #[.int .i64 0, .int .i64 0, .int .i64 0, .int .i64 0, .int .i64 0, .int .i64 0] 333)) w.heap.size 338 #[.int .i64 0, .int .i64 0, .int .i64 0, .int .i64 0, .int .i64 0, .int .i64 0, .int .i64 0, .int .i64 0, .int .i64 0, .int .i64 0, .int .i64 0, .int .i64 0, .int .i64 0, .int .i64 0, .int .i64 0, .int .i64 0, .int .i64 0, .int .i64 0]) := (Bx.new w _ _).alloc _
  have HW0 : Hid (Below w.heap.size w ((w.alloc (.cells #[.int .i64 0, .int .i64 0, .int .i64 0, .int .i64 0, .int .i64 0, .int .i64 0, .int .i64 0, .int .i64 0, .int .i64 0, .int .i64 0, .int .i64 0, .int .i64 0, .int .i64 0, .int .i64 0, .int .i64 0, .int .i64 0, .int .i64 0, .int .i64 0] 338)).alloc (.cells #[.int .i64 0, .int .i64 0, .int .i64 0, .int .i64 0, .int .i64 0, .int .i64 0] 333))) := ((Below.refl w.heap.size w).alloc (Nat.le_refl _) _).alloc (by simp) _
  have t1 : decide ((n : Int) ≤ (ord kind : Int)) = false := decide_eq_false (by omega)
  have t2 : decide (n ≤ ord kind) = false := decide_eq_false (by omega)
  clear hk7 hS hD
  generalize ord kind * width = ow at *
  generalize ord kind = o at *
  go_enter Tryz.func294, Tryz.ntmps294
  go_wp2_with (first
    | (go_at_call 319; refine (HO.out _).mono ?_; rintro e w1 ⟨rfl, hw⟩; subst w1; clear HO)
    | (go_at_call 320; refine (HWF.out _ ?_).mono ?_; exact HW0.out; rintro e w1 ⟨⟨va, vb, rfl, hab⟩, q, hq⟩; have HR1 : Hid (Bx w1 w.heap.size 338 #[.int .i64 0, .int .i64 0, .int .i64 0, .int .i64 0, .int .i64 0, .int .i64 0, .int .i64 0, .int .i64 0, .int .i64 0, .int .i64 0, .int .i64 0, .int .i64 0, .int .i64 0, .int .i64 0, .int .i64 0, .int .i64 0, .int .i64 0, .int .i64 0]) := (by rw [hq]; exact HR0.out); have HW1 : Hid (Below w.heap.size w w1) := (by rw [hq]; exact ⟨HW0.out.os, HW0.out.tape, HW0.out.output, HW0.out.size, HW0.out.block⟩); clear hq hab HWF HR0 HW0)
    | (refine wpList_storeRow rfl _ _ 338 rfl w.heap.size 338 _ _ rfl rfl HR1.out infoBody rfl rfl ?_))
  exact bodyPost_ret (res_gb _ w.heap.size false _ _ (HR1.out.row _) rfl rfl rfl) rfl ⟨rfl, below_setRow HW1.out (Nat.le_refl _) _⟩
end Go.Proofs.YtlncjgnomhpjnabGreatDoor

/-
  The program's packer: the shortest body.
-/
namespace Go.Proofs.YtlncjgnomhpjnabGreatDoor
open Go.RowKit Go.Deep
set_option linter.unusedVariables false
/-- what a body by a kind that has rests comes to -/
def GB (e : Ending) (kind width : Nat) (x : Nat → Int) (n : Nat) : Prop :=
  (okG kind x n = true ∧ e = .returned (.tuple #[.agg (bodyA kind width x n), .bool true])) ∨ (okG kind x n = false ∧ e = .returned (.tuple #[.agg zero18, .bool false]))
theorem GB.yes {e : Ending} {kind width n : Nat} {x : Nat → Int} (h : GB e kind width x n) (hok : okG kind x n = true) : e = .returned (.tuple #[.agg (bodyA kind width x n), .bool true]) := by
  rcases h with h | h
  · exact h.2
  · rw [hok] at h; exact absurd h.1 (by simp)
theorem GB.no {e : Ending} {kind width n : Nat} {x : Nat → Int} (h : GB e kind width x n) (hok : okG kind x n = false) : e = .returned (.tuple #[.agg zero18, .bool false]) := by
  rcases h with h | h
  · rw [hok] at h; exact absurd h.1 (by simp)
  · exact h.2
theorem guessedBody_any (kind : Nat) (A : Option Addr) (n c width : Nat) (x : Nat → Int) (w : World) (h2 : 2 ≤ kind) (h7 : kind ≤ 7) (hn : n ≤ 32) (hnc : n ≤ c) (hw : width ≤ 13) (hS : Shorts w A n x)
    (hT : TabAt w 5) (hg : 5 < w.heap.size) :
    Calls Tryz.prog 294 #[.int .i64 kind, .int .i64 width, .slice A n c] w fun e w' => GB e kind width x n ∧ Below w.heap.size w w' := by
  by_cases hon : ord kind < n
  · by_cases hk : kind = 7
    · by_cases hD : 0 < leanD x n
      · exact (guessedBody_seven kind A n c width x w hk hn hnc hw hon hD hS).mono fun e w' h => ⟨.inl ⟨by simp [okG, hon, hD], h.1⟩, h.2⟩
      · exact (guessedBody_no7 kind A n c width x w hk hn hw hon hD hS).mono fun e w' h => ⟨.inr ⟨by simp [okG, hk, hD], h.1⟩, h.2⟩
    · exact (guessedBody_fixed kind A n c width x w h2 (by omega) hn hnc hw hon hS hT hg).mono fun e w' h => ⟨.inl ⟨by simp [okG, hon, hk], h.1⟩, h.2⟩
  · exact (guessedBody_short kind A n c width w h2 h7 hon).mono fun e w' h => ⟨.inr ⟨by simp [okG, hon], h.1⟩, h.2⟩
theorem bodyL_bd (kind w : Nat) (x : Nat → Int) (n : Nat) (h7 : kind ≤ 7) (hn : n ≤ 32) (hw : w ≤ 13) (hX : ∀ j, j < n → -4096 ≤ x j ∧ x j ≤ 4096) (hok : 2 ≤ kind → okG kind x n = true) : bodyL kind w x n ≤ 2000000000 := by
  unfold bodyL
  split
  · omega
  · split
    · have : n * w ≤ 32 * 13 := Nat.mul_le_mul hn hw
      omega
    · have h2 : 2 ≤ kind := by omega
      have hok := hok h2
      unfold okG at hok
      rw [Bool.and_eq_true, decide_eq_true_eq] at hok
      have ho := ord_le kind h2 h7
      have hcl := cutL_le (fR kind x n) (ord kind) n (bC kind x n) hn (bestC_le _ _ _ _) (bestC_ok _ _ _ hok.1 _) (fun i hi hin => (fR_bd kind x n i h2 h7 (fun j hj => hX j (by omega)) hi).2)
      have hm : ord kind * w ≤ 4 * 13 := Nat.mul_le_mul ho hw
      unfold gL
      split <;> omega
theorem res_best (tmps : Array Value) (R : Nat) (cs : Array Value) (W : World) (h : Bx W R 338 cs) (hs : cs.size = 18) (h4 : tmps.getD 4 undef = .pointer (some ⟨R, 0, none⟩)) :
    (results Tryz.f265 tmps).run Tryz.prog W = .ok (.agg cs) W := by
  have hl := run_loadVar_row (P := Tryz.prog) W R 338 338 cs (0, 0) _ h Tryz.underlying338 rfl (by rw [hs]; exact infoBody)
  rw [Array.getD_eq_getD_getElem?] at h4
  simp [results, Tryz.results265, asAddr, h4, hl]
set_option maxRecDepth 100000 in
set_option maxHeartbeats 8000000 in
theorem shortestBody_any (A : Option Addr) (n c width : Nat) (x : Nat → Int) (w : World) (hn1 : 1 ≤ n) (hn : n ≤ 32) (hnc : n ≤ c) (hw1 : 1 ≤ width) (hw : width ≤ 13) (hS : Shorts w A n x)
    (hT : TabAt w 5) (hg : 5 < w.heap.size) :
    Calls Tryz.prog 265 #[.int .i64 width, .slice A n c] w fun e w' => e = .returned (bodyV (bestK width x n 6) width x n) ∧ Below w.heap.size w w' := by
  have HH := Hid.mk' (fun (kind : Nat) (h2 : 2 ≤ kind) (h7 : kind ≤ 7) (u : World) (hu : Shorts u A n x) (hT : TabAt u 5) (hg : 5 < u.heap.size) => guessedBody_any kind A n c width x u h2 h7 hn hnc hw hu hT hg)
  have HS := Hid.mk' hS
  have HT := Hid.mk' hT
  have HSA := Hid.mk' (fun (u : World) (hu : Below w.heap.size w u) => allSame_any A n c x u hn (hS.below hu).ints)
  have hmb : width * n ≤ 13 * 32 := Nat.mul_le_mul hw hn
  have hmg : width ≤ width * n := Nat.le_mul_of_pos_right _ hn1
  have hm : IntKind.i64.wrap ((width : Int) * (n : Int)) = ((width * n : Nat) : Int) := by
    rw [show (width : Int) * (n : Int) = ((width * n : Nat) : Int) by simp, IntKind.wrap_i64]; omega
  obtain ⟨wn, hwn⟩ : ∃ wn, wn = width * n := ⟨_, rfl⟩
  have HL1 : Hid ((bodyL 1 width x n : Int) = (wn : Int)) := by show _ = _; rw [hwn]; unfold bodyL; rw [if_neg (by omega), if_pos rfl, Nat.mul_comm]
  rw [← hwn] at hmb hmg hm
  clear hwn hS hT
  have t1 : decide ((width : Int) ≤ (wn : Int)) = true := decide_eq_true (by omega)
  have t2 : decide (width ≤ wn) = true := decide_eq_true hmg
  have HZ : Hid (Bx ((w.alloc (.cells #[.int .i64 0, .int .i64 0, .int .i64 0, .int .i64 0, .int .i64 0, .int .i64 0, .int .i64 0, .int .i64 0, .int .i64 0, .int .i64 0, .int .i64 0, .int .i64 0, .int .i64 0, .int .i64 0, .int .i64 0, .int .i64 0, .int .i64 0, .int .i64 0] 338)).alloc (.cells #[.int .i64 0, .int .i64 0, .int .i64 0, .int .i64 0, .int .i64 0, .int .i64 0, .int .i64 0, .int .i64 0, .int .i64 0, .int .i64 0, .int .i64 0, .int .i64 0, .int .i64 0, .int .i64 0, .int .i64 0, .int .i64 0, .int .i64 0, .int .i64 0] 338)) (w.heap.size + 1) 338 #[.int .i64 0, .int .i64 0, .int .i64 0, .int .i64 0, .int .i64 0, .int .i64 0, .int .i64 0, .int .i64 0, .int .i64 0, .int .i64 0, .int .i64 0, .int .i64 0, .int .i64 0, .int .i64 0, .int .i64 0, .int .i64 0, .int .i64 0, .int .i64 0]) := by
    have := Bx.new (w.alloc (.cells #[.int .i64 0, .int .i64 0, .int .i64 0, .int .i64 0, .int .i64 0, .int .i64 0, .int .i64 0, .int .i64 0, .int .i64 0, .int .i64 0, .int .i64 0, .int .i64 0, .int .i64 0, .int .i64 0, .int .i64 0, .int .i64 0, .int .i64 0, .int .i64 0] 338)) #[.int .i64 0, .int .i64 0, .int .i64 0, .int .i64 0, .int .i64 0, .int .i64 0, .int .i64 0, .int .i64 0, .int .i64 0, .int .i64 0, .int .i64 0, .int .i64 0, .int .i64 0, .int .i64 0, .int .i64 0, .int .i64 0, .int .i64 0, .int .i64 0] 338
    rw [World.size_alloc] at this
    exact this
  have HW0 : Hid (Below w.heap.size w (((w.alloc (.cells #[.int .i64 0, .int .i64 0, .int .i64 0, .int .i64 0, .int .i64 0, .int .i64 0, .int .i64 0, .int .i64 0, .int .i64 0, .int .i64 0, .int .i64 0, .int .i64 0, .int .i64 0, .int .i64 0, .int .i64 0, .int .i64 0, .int .i64 0, .int .i64 0] 338)).alloc (.cells #[.int .i64 0, .int .i64 0, .int .i64 0, .int .i64 0, .int .i64 0, .int .i64 0, .int .i64 0, .int .i64 0, .int .i64 0, .int .i64 0, .int .i64 0, .int .i64 0, .int .i64 0, .int .i64 0, .int .i64 0, .int .i64 0, .int .i64 0, .int .i64 0] 338)).setRow (w.heap.size + 1) #[.int .i64 1, .int .i64 0, .int .i64 0, .int .i64 0, .int .i64 0, .int .i64 0, .int .i64 0, .int .i64 0, .int .i64 0, .int .i64 0, .int .i64 0, .int .i64 0, .int .i64 0, .int .i64 0, .int .i64 0, .int .i64 0, .int .i64 0, .int .i64 (wn : Int)])) := below_setRow (((Below.refl w.heap.size w).alloc (Nat.le_refl _) _).alloc (by simp) _) (by omega) _
  have HR0 : Hid (Bx (((w.alloc (.cells #[.int .i64 0, .int .i64 0, .int .i64 0, .int .i64 0, .int .i64 0, .int .i64 0, .int .i64 0, .int .i64 0, .int .i64 0, .int .i64 0, .int .i64 0, .int .i64 0, .int .i64 0, .int .i64 0, .int .i64 0, .int .i64 0, .int .i64 0, .int .i64 0] 338)).alloc (.cells #[.int .i64 0, .int .i64 0, .int .i64 0, .int .i64 0, .int .i64 0, .int .i64 0, .int .i64 0, .int .i64 0, .int .i64 0, .int .i64 0, .int .i64 0, .int .i64 0, .int .i64 0, .int .i64 0, .int .i64 0, .int .i64 0, .int .i64 0, .int .i64 0] 338)).setRow (w.heap.size + 1) #[.int .i64 1, .int .i64 0, .int .i64 0, .int .i64 0, .int .i64 0, .int .i64 0, .int .i64 0, .int .i64 0, .int .i64 0, .int .i64 0, .int .i64 0, .int .i64 0, .int .i64 0, .int .i64 0, .int .i64 0, .int .i64 0, .int .i64 0, .int .i64 (wn : Int)]) w.heap.size 338 #[.int .i64 0, .int .i64 0, .int .i64 0, .int .i64 0, .int .i64 0, .int .i64 0, .int .i64 0, .int .i64 0, .int .i64 0, .int .i64 0, .int .i64 0, .int .i64 0, .int .i64 0, .int .i64 0, .int .i64 0, .int .i64 0, .int .i64 0, .int .i64 0]) := Bx.other ((Bx.new w _ _).alloc _) (by omega) _
  have HB0 : Hid (Bx (((w.alloc (.cells #[.int .i64 0, .int .i64 0, .int .i64 0, .int .i64 0, .int .i64 0, .int .i64 0, .int .i64 0, .int .i64 0, .int .i64 0, .int .i64 0, .int .i64 0, .int .i64 0, .int .i64 0, .int .i64 0, .int .i64 0, .int .i64 0, .int .i64 0, .int .i64 0] 338)).alloc (.cells #[.int .i64 0, .int .i64 0, .int .i64 0, .int .i64 0, .int .i64 0, .int .i64 0, .int .i64 0, .int .i64 0, .int .i64 0, .int .i64 0, .int .i64 0, .int .i64 0, .int .i64 0, .int .i64 0, .int .i64 0, .int .i64 0, .int .i64 0, .int .i64 0] 338)).setRow (w.heap.size + 1) #[.int .i64 1, .int .i64 0, .int .i64 0, .int .i64 0, .int .i64 0, .int .i64 0, .int .i64 0, .int .i64 0, .int .i64 0, .int .i64 0, .int .i64 0, .int .i64 0, .int .i64 0, .int .i64 0, .int .i64 0, .int .i64 0, .int .i64 0, .int .i64 (wn : Int)]) (w.heap.size + 1) 338 #[.int .i64 1, .int .i64 0, .int .i64 0, .int .i64 0, .int .i64 0, .int .i64 0, .int .i64 0, .int .i64 0, .int .i64 0, .int .i64 0, .int .i64 0, .int .i64 0, .int .i64 0, .int .i64 0, .int .i64 0, .int .i64 0, .int .i64 0, .int .i64 (wn : Int)]) := HZ.out.row _
  have HE1 : Hid (#[.int .i64 1, .int .i64 0, .int .i64 0, .int .i64 0, .int .i64 0, .int .i64 0, .int .i64 0, .int .i64 0, .int .i64 0, .int .i64 0, .int .i64 0, .int .i64 0, .int .i64 0, .int .i64 0, .int .i64 0, .int .i64 0, .int .i64 0, .int .i64 (wn : Int)] = bodyA 1 width x n) := by show _ = _; unfold bodyA; rw [HL1.out]; rfl
  have HE0 : Hid (#[.int .i64 0, .int .i64 0, .int .i64 0, .int .i64 0, .int .i64 0, .int .i64 0, .int .i64 0, .int .i64 0, .int .i64 0, .int .i64 0, .int .i64 0, .int .i64 0, .int .i64 0, .int .i64 0, .int .i64 0, .int .i64 0, .int .i64 0, .int .i64 (width : Int)] = bodyA 0 width x n) := rfl
  have HK0 : Hid (bestK width x n 0 = if allSame x n then 0 else 1) := rfl
  go_enter Tryz.func265, Tryz.ntmps265
  generalize hvs : allSame x n = vs at *
  cases vs with
  | true =>
    go_wp2_with (first
      | (go_at_call 293; refine (HSA.out _ ?_).mono ?_; exact HW0.out; rintro e w1 ⟨rfl, q, hq⟩; have HW1 : Hid (Below w.heap.size w w1) := (by rw [hq]; exact ⟨HW0.out.os, HW0.out.tape, HW0.out.output, HW0.out.size, HW0.out.block⟩); have HR1 : Hid (Bx w1 w.heap.size 338 #[.int .i64 0, .int .i64 0, .int .i64 0, .int .i64 0, .int .i64 0, .int .i64 0, .int .i64 0, .int .i64 0, .int .i64 0, .int .i64 0, .int .i64 0, .int .i64 0, .int .i64 0, .int .i64 0, .int .i64 0, .int .i64 0, .int .i64 0, .int .i64 0]) := (by rw [hq]; exact HR0.out); have HB1 : Hid (Bx w1 (w.heap.size + 1) 338 #[.int .i64 1, .int .i64 0, .int .i64 0, .int .i64 0, .int .i64 0, .int .i64 0, .int .i64 0, .int .i64 0, .int .i64 0, .int .i64 0, .int .i64 0, .int .i64 0, .int .i64 0, .int .i64 0, .int .i64 0, .int .i64 0, .int .i64 0, .int .i64 (wn : Int)]) := (by rw [hq]; exact HB0.out); have y17 := HB1.out.cell 17; simp at y17; clear hq HW0 HR0 HB0 HSA HZ)
      | (refine wpList_storeRow rfl _ _ 338 rfl (w.heap.size + 1) 338 _ _ rfl rfl HZ.out infoBody rfl rfl ?_)
      | (refine wpList_storeRow rfl _ _ 338 rfl (w.heap.size + 1) 338 _ _ rfl rfl HB1.out infoBody rfl rfl ?_))
    have HINV : Hid (Bx (w1.setRow (w.heap.size + 1) #[.int .i64 0, .int .i64 0, .int .i64 0, .int .i64 0, .int .i64 0, .int .i64 0, .int .i64 0, .int .i64 0, .int .i64 0, .int .i64 0, .int .i64 0, .int .i64 0, .int .i64 0, .int .i64 0, .int .i64 0, .int .i64 0, .int .i64 0, .int .i64 (width : Int)]) (w.heap.size + 1) 338 (bodyA (bestK width x n 0) width x n) ∧ Bx (w1.setRow (w.heap.size + 1) #[.int .i64 0, .int .i64 0, .int .i64 0, .int .i64 0, .int .i64 0, .int .i64 0, .int .i64 0, .int .i64 0, .int .i64 0, .int .i64 0, .int .i64 0, .int .i64 0, .int .i64 0, .int .i64 0, .int .i64 0, .int .i64 0, .int .i64 0, .int .i64 (width : Int)]) w.heap.size 338 #[.int .i64 0, .int .i64 0, .int .i64 0, .int .i64 0, .int .i64 0, .int .i64 0, .int .i64 0, .int .i64 0, .int .i64 0, .int .i64 0, .int .i64 0, .int .i64 0, .int .i64 0, .int .i64 0, .int .i64 0, .int .i64 0, .int .i64 0, .int .i64 0] ∧ Below w.heap.size w (w1.setRow (w.heap.size + 1) #[.int .i64 0, .int .i64 0, .int .i64 0, .int .i64 0, .int .i64 0, .int .i64 0, .int .i64 0, .int .i64 0, .int .i64 0, .int .i64 0, .int .i64 0, .int .i64 0, .int .i64 0, .int .i64 0, .int .i64 0, .int .i64 0, .int .i64 0, .int .i64 (width : Int)])) := by
      rw [HK0.out, if_pos (by trivial), ← HE0.out]
      exact ⟨HB1.out.row _, HR1.out.other (by omega) _, below_setRow HW1.out (by omega) _⟩
    clear HB1 HR1 HW1 y17
    go_loopw [6] (fun kv wr => ∃ k : Nat, 2 ≤ k ∧ k ≤ 8 ∧ kv = .int .i64 k ∧ Hid (Bx wr (w.heap.size + 1) 338 (bodyA (bestK width x n (k - 2)) width x n) ∧ Bx wr w.heap.size 338 #[.int .i64 0, .int .i64 0, .int .i64 0, .int .i64 0, .int .i64 0, .int .i64 0, .int .i64 0, .int .i64 0, .int .i64 0, .int .i64 0, .int .i64 0, .int .i64 0, .int .i64 0, .int .i64 0, .int .i64 0, .int .i64 0, .int .i64 0, .int .i64 0] ∧ Below w.heap.size w wr)) (fun kv _ => 8 - (intOf kv).toNat)
    case atStart => exact ⟨2, by omega, by omega, rfl, HINV.out⟩
    case round =>
      clear HINV
      obtain ⟨k, hk2, hk8, rfl, HI⟩ := hrel
      by_cases hk7 : k ≤ 7
      · have HG := Hid.mk' (HH.out k hk2 hk7 wr (HS.out.below HI.out.2.2) (fun r c hr hc => (HI.out.2.2.cell (p := ⟨5, 4 * r + c, none⟩) hg).trans (HT.out r c hr hc)) (Nat.lt_of_lt_of_le hg HI.out.2.2.size))
        obtain ⟨K0, hK0⟩ : ∃ K, K = bestK width x n (k - 2) := ⟨_, rfl⟩
        have hK0l := bestK_le width x n (k - 2)
        rw [← hK0] at HI hK0l
        have hbL := bodyL_bd K0 width x n (by omega) hn hw HS.out.bd (fun h => by rw [hK0]; exact bestK_ok width x n (k - 2) (by rw [← hK0]; exact h))
        have HKN : Hid (bestK width x n (k + 1 - 2) = if okG k x n = true ∧ bodyL k width x n < bodyL K0 width x n then k else K0) := by
          show _ = _
          obtain ⟨d, rfl⟩ : ∃ d, k = d + 2 := ⟨k - 2, by omega⟩
          rw [hK0]; rfl
        have hsz := HI.out.2.2.size
        have hR1 := HI.out.1.lt
        clear hK0 hK0l
        by_cases hok : okG k x n = true
        · have hbk := bodyL_bd k width x n (by omega) hn hw HS.out.bd (fun _ => hok)
          have HGA : Hid (Calls Tryz.prog 294 #[.int .i64 k, .int .i64 width, .slice A n c] wr fun e w' => e = .returned (.tuple #[.agg (bodyA k width x n), .bool true]) ∧ Below wr.heap.size wr w') := HG.out.mono fun e w' h => ⟨h.1.yes hok, h.2⟩
          have eLk : (bodyA k width x n)[17]? = some (.int .i64 (bodyL k width x n : Int)) := rfl
          have eL0 : (bodyA K0 width x n)[17]? = some (.int .i64 (bodyL K0 width x n : Int)) := rfl
          generalize hLk : bodyL k width x n = Lk at *
          generalize hL0 : bodyL K0 width x n = L0 at *
          clear HG hLk hL0
          by_cases hlt : Lk < L0
          · rw [if_pos ⟨hok, hlt⟩] at HKN
            have u1 : decide ((Lk : Int) < (L0 : Int)) = true := decide_eq_true (by omega)
            have u2 : decide (Lk < L0) = true := decide_eq_true hlt
            clear hok hlt
            go_wp2_with (first
              | (go_at_call 294; refine HGA.out.mono ?_; rintro e w2 ⟨rfl, hb2⟩; have HI2 := Hid.mk' (And.intro (HI.out.1.below hb2) (And.intro (HI.out.2.1.below hb2) (HI.out.2.2.trans (hb2.mono hsz)))); have hsz2 := hb2.size; have tn1 : ¬ w.heap.size + 1 = w2.heap.size := (by omega); have tn2 : ¬ w2.heap.size = w.heap.size + 1 := (by omega); clear hb2 HGA)
              | (refine wpList_storeRow rfl _ _ 338 rfl w2.heap.size 338 _ _ rfl rfl (Bx.new w2 #[.int .i64 0, .int .i64 0, .int .i64 0, .int .i64 0, .int .i64 0, .int .i64 0, .int .i64 0, .int .i64 0, .int .i64 0, .int .i64 0, .int .i64 0, .int .i64 0, .int .i64 0, .int .i64 0, .int .i64 0, .int .i64 0, .int .i64 0, .int .i64 0] 338) infoBody rfl rfl ?_; have HT2 := Hid.mk' ((Bx.new w2 #[.int .i64 0, .int .i64 0, .int .i64 0, .int .i64 0, .int .i64 0, .int .i64 0, .int .i64 0, .int .i64 0, .int .i64 0, .int .i64 0, .int .i64 0, .int .i64 0, .int .i64 0, .int .i64 0, .int .i64 0, .int .i64 0, .int .i64 0, .int .i64 0] 338).row (bodyA k width x n)); have HI3 := Hid.mk' (And.intro ((HI2.out.1.alloc (.cells #[.int .i64 0, .int .i64 0, .int .i64 0, .int .i64 0, .int .i64 0, .int .i64 0, .int .i64 0, .int .i64 0, .int .i64 0, .int .i64 0, .int .i64 0, .int .i64 0, .int .i64 0, .int .i64 0, .int .i64 0, .int .i64 0, .int .i64 0, .int .i64 0] 338)).other tn1 (bodyA k width x n)) (And.intro ((HI2.out.2.1.alloc (.cells #[.int .i64 0, .int .i64 0, .int .i64 0, .int .i64 0, .int .i64 0, .int .i64 0, .int .i64 0, .int .i64 0, .int .i64 0, .int .i64 0, .int .i64 0, .int .i64 0, .int .i64 0, .int .i64 0, .int .i64 0, .int .i64 0, .int .i64 0, .int .i64 0] 338)).other (g := w2.heap.size) (by omega) (bodyA k width x n)) (below_setRow (g := w2.heap.size) (HI2.out.2.2.alloc HI2.out.2.2.size (.cells #[.int .i64 0, .int .i64 0, .int .i64 0, .int .i64 0, .int .i64 0, .int .i64 0, .int .i64 0, .int .i64 0, .int .i64 0, .int .i64 0, .int .i64 0, .int .i64 0, .int .i64 0, .int .i64 0, .int .i64 0, .int .i64 0, .int .i64 0, .int .i64 0] 338)) (by omega) (bodyA k width x n)))); have x17 := HT2.out.cell 17; have y17 := HI3.out.1.cell 17; rw [eLk] at x17; rw [eL0] at y17; clear HI2)
              | (refine wpList_loadRow rfl _ 338 rfl w2.heap.size 338 (bodyA k width x n) (0, 0) _ rfl HT2.out Tryz.underlying338 rfl infoBody ?_)
              | (refine wpList_storeRow rfl _ _ 338 rfl (w.heap.size + 1) 338 _ _ rfl rfl HI3.out.1 infoBody rfl rfl ?_))
            go_roundw
            case rel => exact ⟨k + 1, by omega, by omega, by go_num, by rw [HKN.out]; exact ⟨HI3.out.1.row _, HI3.out.2.1.other (by omega) _, below_setRow HI3.out.2.2 (by omega) _⟩⟩
            case measure => simp [intOf]; omega
          · rw [if_neg (fun h => hlt h.2)] at HKN
            have u1 : decide ((Lk : Int) < (L0 : Int)) = false := decide_eq_false (by omega)
            have u2 : decide (Lk < L0) = false := decide_eq_false hlt
            clear hok hlt
            go_wp2_with (first
              | (go_at_call 294; refine HGA.out.mono ?_; rintro e w2 ⟨rfl, hb2⟩; have HI2 := Hid.mk' (And.intro (HI.out.1.below hb2) (And.intro (HI.out.2.1.below hb2) (HI.out.2.2.trans (hb2.mono hsz)))); have hsz2 := hb2.size; have tn1 : ¬ w.heap.size + 1 = w2.heap.size := (by omega); have tn2 : ¬ w2.heap.size = w.heap.size + 1 := (by omega); clear hb2 HGA)
              | (refine wpList_storeRow rfl _ _ 338 rfl w2.heap.size 338 _ _ rfl rfl (Bx.new w2 #[.int .i64 0, .int .i64 0, .int .i64 0, .int .i64 0, .int .i64 0, .int .i64 0, .int .i64 0, .int .i64 0, .int .i64 0, .int .i64 0, .int .i64 0, .int .i64 0, .int .i64 0, .int .i64 0, .int .i64 0, .int .i64 0, .int .i64 0, .int .i64 0] 338) infoBody rfl rfl ?_; have HT2 := Hid.mk' ((Bx.new w2 #[.int .i64 0, .int .i64 0, .int .i64 0, .int .i64 0, .int .i64 0, .int .i64 0, .int .i64 0, .int .i64 0, .int .i64 0, .int .i64 0, .int .i64 0, .int .i64 0, .int .i64 0, .int .i64 0, .int .i64 0, .int .i64 0, .int .i64 0, .int .i64 0] 338).row (bodyA k width x n)); have HI3 := Hid.mk' (And.intro ((HI2.out.1.alloc (.cells #[.int .i64 0, .int .i64 0, .int .i64 0, .int .i64 0, .int .i64 0, .int .i64 0, .int .i64 0, .int .i64 0, .int .i64 0, .int .i64 0, .int .i64 0, .int .i64 0, .int .i64 0, .int .i64 0, .int .i64 0, .int .i64 0, .int .i64 0, .int .i64 0] 338)).other tn1 (bodyA k width x n)) (And.intro ((HI2.out.2.1.alloc (.cells #[.int .i64 0, .int .i64 0, .int .i64 0, .int .i64 0, .int .i64 0, .int .i64 0, .int .i64 0, .int .i64 0, .int .i64 0, .int .i64 0, .int .i64 0, .int .i64 0, .int .i64 0, .int .i64 0, .int .i64 0, .int .i64 0, .int .i64 0, .int .i64 0] 338)).other (g := w2.heap.size) (by omega) (bodyA k width x n)) (below_setRow (g := w2.heap.size) (HI2.out.2.2.alloc HI2.out.2.2.size (.cells #[.int .i64 0, .int .i64 0, .int .i64 0, .int .i64 0, .int .i64 0, .int .i64 0, .int .i64 0, .int .i64 0, .int .i64 0, .int .i64 0, .int .i64 0, .int .i64 0, .int .i64 0, .int .i64 0, .int .i64 0, .int .i64 0, .int .i64 0, .int .i64 0] 338)) (by omega) (bodyA k width x n)))); have x17 := HT2.out.cell 17; have y17 := HI3.out.1.cell 17; rw [eLk] at x17; rw [eL0] at y17; clear HI2))
            go_roundw
            case rel => exact ⟨k + 1, by omega, by omega, by go_num, by rw [HKN.out]; exact HI3.out⟩
            case measure => simp [intOf]; omega
        · have hokf : okG k x n = false := by simpa using hok
          rw [if_neg (fun h => hok h.1)] at HKN
          have HGA : Hid (Calls Tryz.prog 294 #[.int .i64 k, .int .i64 width, .slice A n c] wr fun e w' => e = .returned (.tuple #[.agg zero18, .bool false]) ∧ Below wr.heap.size wr w') := HG.out.mono fun e w' h => ⟨h.1.no hokf, h.2⟩
          clear HG hok hokf
          go_wp2_with (first
            | (go_at_call 294; refine HGA.out.mono ?_; rintro e w2 ⟨rfl, hb2⟩; have HI2 := Hid.mk' (And.intro (HI.out.1.below hb2) (And.intro (HI.out.2.1.below hb2) (HI.out.2.2.trans (hb2.mono hsz)))); have hsz2 := hb2.size; have tn1 : ¬ w.heap.size + 1 = w2.heap.size := (by omega); clear hb2 HGA)
            | (refine wpList_storeRow rfl _ _ 338 rfl w2.heap.size 338 _ _ rfl rfl (Bx.new w2 #[.int .i64 0, .int .i64 0, .int .i64 0, .int .i64 0, .int .i64 0, .int .i64 0, .int .i64 0, .int .i64 0, .int .i64 0, .int .i64 0, .int .i64 0, .int .i64 0, .int .i64 0, .int .i64 0, .int .i64 0, .int .i64 0, .int .i64 0, .int .i64 0] 338) infoBody rfl rfl ?_; have HI3 := Hid.mk' (And.intro ((HI2.out.1.alloc (.cells #[.int .i64 0, .int .i64 0, .int .i64 0, .int .i64 0, .int .i64 0, .int .i64 0, .int .i64 0, .int .i64 0, .int .i64 0, .int .i64 0, .int .i64 0, .int .i64 0, .int .i64 0, .int .i64 0, .int .i64 0, .int .i64 0, .int .i64 0, .int .i64 0] 338)).other tn1 zero18) (And.intro ((HI2.out.2.1.alloc (.cells #[.int .i64 0, .int .i64 0, .int .i64 0, .int .i64 0, .int .i64 0, .int .i64 0, .int .i64 0, .int .i64 0, .int .i64 0, .int .i64 0, .int .i64 0, .int .i64 0, .int .i64 0, .int .i64 0, .int .i64 0, .int .i64 0, .int .i64 0, .int .i64 0] 338)).other (g := w2.heap.size) (by omega) zero18) (below_setRow (g := w2.heap.size) (HI2.out.2.2.alloc HI2.out.2.2.size (.cells #[.int .i64 0, .int .i64 0, .int .i64 0, .int .i64 0, .int .i64 0, .int .i64 0, .int .i64 0, .int .i64 0, .int .i64 0, .int .i64 0, .int .i64 0, .int .i64 0, .int .i64 0, .int .i64 0, .int .i64 0, .int .i64 0, .int .i64 0, .int .i64 0] 338)) (by omega) zero18))); clear HI2))
          go_roundw
          case rel => exact ⟨k + 1, by omega, by omega, by go_num, by rw [HKN.out]; exact HI3.out⟩
          case measure => simp [intOf]; omega
      · have e : k = 8 := by omega
        subst e
        go_wp2_with (first
          | (refine wpList_loadRow rfl _ 338 rfl (w.heap.size + 1) 338 (bodyA (bestK width x n 6) width x n) (0, 0) _ rfl HI.out.1 Tryz.underlying338 rfl infoBody ?_)
          | (refine wpList_storeRow rfl _ _ 338 rfl w.heap.size 338 _ _ rfl rfl HI.out.2.1 infoBody rfl rfl ?_))
        exact bodyPost_ret (res_best _ w.heap.size (bodyA (bestK width x n 6) width x n) _ (HI.out.2.1.row _) rfl rfl) rfl ⟨rfl, below_setRow HI.out.2.2 (Nat.le_refl _) _⟩
  | false =>
    go_wp2_with (first
      | (go_at_call 293; refine (HSA.out _ ?_).mono ?_; exact HW0.out; rintro e w1 ⟨rfl, q, hq⟩; have HW1 : Hid (Below w.heap.size w w1) := (by rw [hq]; exact ⟨HW0.out.os, HW0.out.tape, HW0.out.output, HW0.out.size, HW0.out.block⟩); have HR1 : Hid (Bx w1 w.heap.size 338 #[.int .i64 0, .int .i64 0, .int .i64 0, .int .i64 0, .int .i64 0, .int .i64 0, .int .i64 0, .int .i64 0, .int .i64 0, .int .i64 0, .int .i64 0, .int .i64 0, .int .i64 0, .int .i64 0, .int .i64 0, .int .i64 0, .int .i64 0, .int .i64 0]) := (by rw [hq]; exact HR0.out); have HB1 : Hid (Bx w1 (w.heap.size + 1) 338 #[.int .i64 1, .int .i64 0, .int .i64 0, .int .i64 0, .int .i64 0, .int .i64 0, .int .i64 0, .int .i64 0, .int .i64 0, .int .i64 0, .int .i64 0, .int .i64 0, .int .i64 0, .int .i64 0, .int .i64 0, .int .i64 0, .int .i64 0, .int .i64 (wn : Int)]) := (by rw [hq]; exact HB0.out); clear hq HW0 HR0 HB0 HSA HZ)
      | (refine wpList_storeRow rfl _ _ 338 rfl (w.heap.size + 1) 338 _ _ rfl rfl HZ.out infoBody rfl rfl ?_))
    have HINV : Hid (Bx w1 (w.heap.size + 1) 338 (bodyA (bestK width x n 0) width x n) ∧ Bx w1 w.heap.size 338 #[.int .i64 0, .int .i64 0, .int .i64 0, .int .i64 0, .int .i64 0, .int .i64 0, .int .i64 0, .int .i64 0, .int .i64 0, .int .i64 0, .int .i64 0, .int .i64 0, .int .i64 0, .int .i64 0, .int .i64 0, .int .i64 0, .int .i64 0, .int .i64 0] ∧ Below w.heap.size w w1) := by
      rw [HK0.out, if_neg (by simp), ← HE1.out]
      exact ⟨HB1.out, HR1.out, HW1.out⟩
    clear HB1 HR1 HW1
    go_loopw [6] (fun kv wr => ∃ k : Nat, 2 ≤ k ∧ k ≤ 8 ∧ kv = .int .i64 k ∧ Hid (Bx wr (w.heap.size + 1) 338 (bodyA (bestK width x n (k - 2)) width x n) ∧ Bx wr w.heap.size 338 #[.int .i64 0, .int .i64 0, .int .i64 0, .int .i64 0, .int .i64 0, .int .i64 0, .int .i64 0, .int .i64 0, .int .i64 0, .int .i64 0, .int .i64 0, .int .i64 0, .int .i64 0, .int .i64 0, .int .i64 0, .int .i64 0, .int .i64 0, .int .i64 0] ∧ Below w.heap.size w wr)) (fun kv _ => 8 - (intOf kv).toNat)
    case atStart => exact ⟨2, by omega, by omega, rfl, HINV.out⟩
    case round =>
      clear HINV
      obtain ⟨k, hk2, hk8, rfl, HI⟩ := hrel
      by_cases hk7 : k ≤ 7
      · have HG := Hid.mk' (HH.out k hk2 hk7 wr (HS.out.below HI.out.2.2) (fun r c hr hc => (HI.out.2.2.cell (p := ⟨5, 4 * r + c, none⟩) hg).trans (HT.out r c hr hc)) (Nat.lt_of_lt_of_le hg HI.out.2.2.size))
        obtain ⟨K0, hK0⟩ : ∃ K, K = bestK width x n (k - 2) := ⟨_, rfl⟩
        have hK0l := bestK_le width x n (k - 2)
        rw [← hK0] at HI hK0l
        have hbL := bodyL_bd K0 width x n (by omega) hn hw HS.out.bd (fun h => by rw [hK0]; exact bestK_ok width x n (k - 2) (by rw [← hK0]; exact h))
        have HKN : Hid (bestK width x n (k + 1 - 2) = if okG k x n = true ∧ bodyL k width x n < bodyL K0 width x n then k else K0) := by
          show _ = _
          obtain ⟨d, rfl⟩ : ∃ d, k = d + 2 := ⟨k - 2, by omega⟩
          rw [hK0]; rfl
        have hsz := HI.out.2.2.size
        have hR1 := HI.out.1.lt
        clear hK0 hK0l
        by_cases hok : okG k x n = true
        · have hbk := bodyL_bd k width x n (by omega) hn hw HS.out.bd (fun _ => hok)
          have HGA : Hid (Calls Tryz.prog 294 #[.int .i64 k, .int .i64 width, .slice A n c] wr fun e w' => e = .returned (.tuple #[.agg (bodyA k width x n), .bool true]) ∧ Below wr.heap.size wr w') := HG.out.mono fun e w' h => ⟨h.1.yes hok, h.2⟩
          have eLk : (bodyA k width x n)[17]? = some (.int .i64 (bodyL k width x n : Int)) := rfl
          have eL0 : (bodyA K0 width x n)[17]? = some (.int .i64 (bodyL K0 width x n : Int)) := rfl
          generalize hLk : bodyL k width x n = Lk at *
          generalize hL0 : bodyL K0 width x n = L0 at *
          clear HG hLk hL0
          by_cases hlt : Lk < L0
          · rw [if_pos ⟨hok, hlt⟩] at HKN
            have u1 : decide ((Lk : Int) < (L0 : Int)) = true := decide_eq_true (by omega)
            have u2 : decide (Lk < L0) = true := decide_eq_true hlt
            clear hok hlt
            go_wp2_with (first
              | (go_at_call 294; refine HGA.out.mono ?_; rintro e w2 ⟨rfl, hb2⟩; have HI2 := Hid.mk' (And.intro (HI.out.1.below hb2) (And.intro (HI.out.2.1.below hb2) (HI.out.2.2.trans (hb2.mono hsz)))); have hsz2 := hb2.size; have tn1 : ¬ w.heap.size + 1 = w2.heap.size := (by omega); have tn2 : ¬ w2.heap.size = w.heap.size + 1 := (by omega); clear hb2 HGA)
              | (refine wpList_storeRow rfl _ _ 338 rfl w2.heap.size 338 _ _ rfl rfl (Bx.new w2 #[.int .i64 0, .int .i64 0, .int .i64 0, .int .i64 0, .int .i64 0, .int .i64 0, .int .i64 0, .int .i64 0, .int .i64 0, .int .i64 0, .int .i64 0, .int .i64 0, .int .i64 0, .int .i64 0, .int .i64 0, .int .i64 0, .int .i64 0, .int .i64 0] 338) infoBody rfl rfl ?_; have HT2 := Hid.mk' ((Bx.new w2 #[.int .i64 0, .int .i64 0, .int .i64 0, .int .i64 0, .int .i64 0, .int .i64 0, .int .i64 0, .int .i64 0, .int .i64 0, .int .i64 0, .int .i64 0, .int .i64 0, .int .i64 0, .int .i64 0, .int .i64 0, .int .i64 0, .int .i64 0, .int .i64 0] 338).row (bodyA k width x n)); have HI3 := Hid.mk' (And.intro ((HI2.out.1.alloc (.cells #[.int .i64 0, .int .i64 0, .int .i64 0, .int .i64 0, .int .i64 0, .int .i64 0, .int .i64 0, .int .i64 0, .int .i64 0, .int .i64 0, .int .i64 0, .int .i64 0, .int .i64 0, .int .i64 0, .int .i64 0, .int .i64 0, .int .i64 0, .int .i64 0] 338)).other tn1 (bodyA k width x n)) (And.intro ((HI2.out.2.1.alloc (.cells #[.int .i64 0, .int .i64 0, .int .i64 0, .int .i64 0, .int .i64 0, .int .i64 0, .int .i64 0, .int .i64 0, .int .i64 0, .int .i64 0, .int .i64 0, .int .i64 0, .int .i64 0, .int .i64 0, .int .i64 0, .int .i64 0, .int .i64 0, .int .i64 0] 338)).other (g := w2.heap.size) (by omega) (bodyA k width x n)) (below_setRow (g := w2.heap.size) (HI2.out.2.2.alloc HI2.out.2.2.size (.cells #[.int .i64 0, .int .i64 0, .int .i64 0, .int .i64 0, .int .i64 0, .int .i64 0, .int .i64 0, .int .i64 0, .int .i64 0, .int .i64 0, .int .i64 0, .int .i64 0, .int .i64 0, .int .i64 0, .int .i64 0, .int .i64 0, .int .i64 0, .int .i64 0] 338)) (by omega) (bodyA k width x n)))); have x17 := HT2.out.cell 17; have y17 := HI3.out.1.cell 17; rw [eLk] at x17; rw [eL0] at y17; clear HI2)
              | (refine wpList_loadRow rfl _ 338 rfl w2.heap.size 338 (bodyA k width x n) (0, 0) _ rfl HT2.out Tryz.underlying338 rfl infoBody ?_)
              | (refine wpList_storeRow rfl _ _ 338 rfl (w.heap.size + 1) 338 _ _ rfl rfl HI3.out.1 infoBody rfl rfl ?_))
            go_roundw
            case rel => exact ⟨k + 1, by omega, by omega, by go_num, by rw [HKN.out]; exact ⟨HI3.out.1.row _, HI3.out.2.1.other (by omega) _, below_setRow HI3.out.2.2 (by omega) _⟩⟩
            case measure => simp [intOf]; omega
          · rw [if_neg (fun h => hlt h.2)] at HKN
            have u1 : decide ((Lk : Int) < (L0 : Int)) = false := decide_eq_false (by omega)
            have u2 : decide (Lk < L0) = false := decide_eq_false hlt
            clear hok hlt
            go_wp2_with (first
              | (go_at_call 294; refine HGA.out.mono ?_; rintro e w2 ⟨rfl, hb2⟩; have HI2 := Hid.mk' (And.intro (HI.out.1.below hb2) (And.intro (HI.out.2.1.below hb2) (HI.out.2.2.trans (hb2.mono hsz)))); have hsz2 := hb2.size; have tn1 : ¬ w.heap.size + 1 = w2.heap.size := (by omega); have tn2 : ¬ w2.heap.size = w.heap.size + 1 := (by omega); clear hb2 HGA)
              | (refine wpList_storeRow rfl _ _ 338 rfl w2.heap.size 338 _ _ rfl rfl (Bx.new w2 #[.int .i64 0, .int .i64 0, .int .i64 0, .int .i64 0, .int .i64 0, .int .i64 0, .int .i64 0, .int .i64 0, .int .i64 0, .int .i64 0, .int .i64 0, .int .i64 0, .int .i64 0, .int .i64 0, .int .i64 0, .int .i64 0, .int .i64 0, .int .i64 0] 338) infoBody rfl rfl ?_; have HT2 := Hid.mk' ((Bx.new w2 #[.int .i64 0, .int .i64 0, .int .i64 0, .int .i64 0, .int .i64 0, .int .i64 0, .int .i64 0, .int .i64 0, .int .i64 0, .int .i64 0, .int .i64 0, .int .i64 0, .int .i64 0, .int .i64 0, .int .i64 0, .int .i64 0, .int .i64 0, .int .i64 0] 338).row (bodyA k width x n)); have HI3 := Hid.mk' (And.intro ((HI2.out.1.alloc (.cells #[.int .i64 0, .int .i64 0, .int .i64 0, .int .i64 0, .int .i64 0, .int .i64 0, .int .i64 0, .int .i64 0, .int .i64 0, .int .i64 0, .int .i64 0, .int .i64 0, .int .i64 0, .int .i64 0, .int .i64 0, .int .i64 0, .int .i64 0, .int .i64 0] 338)).other tn1 (bodyA k width x n)) (And.intro ((HI2.out.2.1.alloc (.cells #[.int .i64 0, .int .i64 0, .int .i64 0, .int .i64 0, .int .i64 0, .int .i64 0, .int .i64 0, .int .i64 0, .int .i64 0, .int .i64 0, .int .i64 0, .int .i64 0, .int .i64 0, .int .i64 0, .int .i64 0, .int .i64 0, .int .i64 0, .int .i64 0] 338)).other (g := w2.heap.size) (by omega) (bodyA k width x n)) (below_setRow (g := w2.heap.size) (HI2.out.2.2.alloc HI2.out.2.2.size (.cells #[.int .i64 0, .int .i64 0, .int .i64 0, .int .i64 0, .int .i64 0, .int .i64 0, .int .i64 0, .int .i64 0, .int .i64 0, .int .i64 0, .int .i64 0, .int .i64 0, .int .i64 0, .int .i64 0, .int .i64 0, .int .i64 0, .int .i64 0, .int .i64 0] 338)) (by omega) (bodyA k width x n)))); have x17 := HT2.out.cell 17; have y17 := HI3.out.1.cell 17; rw [eLk] at x17; rw [eL0] at y17; clear HI2))
            go_roundw
            case rel => exact ⟨k + 1, by omega, by omega, by go_num, by rw [HKN.out]; exact HI3.out⟩
            case measure => simp [intOf]; omega
        · have hokf : okG k x n = false := by simpa using hok
          rw [if_neg (fun h => hok h.1)] at HKN
          have HGA : Hid (Calls Tryz.prog 294 #[.int .i64 k, .int .i64 width, .slice A n c] wr fun e w' => e = .returned (.tuple #[.agg zero18, .bool false]) ∧ Below wr.heap.size wr w') := HG.out.mono fun e w' h => ⟨h.1.no hokf, h.2⟩
          clear HG hok hokf
          go_wp2_with (first
            | (go_at_call 294; refine HGA.out.mono ?_; rintro e w2 ⟨rfl, hb2⟩; have HI2 := Hid.mk' (And.intro (HI.out.1.below hb2) (And.intro (HI.out.2.1.below hb2) (HI.out.2.2.trans (hb2.mono hsz)))); have hsz2 := hb2.size; have tn1 : ¬ w.heap.size + 1 = w2.heap.size := (by omega); clear hb2 HGA)
            | (refine wpList_storeRow rfl _ _ 338 rfl w2.heap.size 338 _ _ rfl rfl (Bx.new w2 #[.int .i64 0, .int .i64 0, .int .i64 0, .int .i64 0, .int .i64 0, .int .i64 0, .int .i64 0, .int .i64 0, .int .i64 0, .int .i64 0, .int .i64 0, .int .i64 0, .int .i64 0, .int .i64 0, .int .i64 0, .int .i64 0, .int .i64 0, .int .i64 0] 338) infoBody rfl rfl ?_; have HI3 := Hid.mk' (And.intro ((HI2.out.1.alloc (.cells #[.int .i64 0, .int .i64 0, .int .i64 0, .int .i64 0, .int .i64 0, .int .i64 0, .int .i64 0, .int .i64 0, .int .i64 0, .int .i64 0, .int .i64 0, .int .i64 0, .int .i64 0, .int .i64 0, .int .i64 0, .int .i64 0, .int .i64 0, .int .i64 0] 338)).other tn1 zero18) (And.intro ((HI2.out.2.1.alloc (.cells #[.int .i64 0, .int .i64 0, .int .i64 0, .int .i64 0, .int .i64 0, .int .i64 0, .int .i64 0, .int .i64 0, .int .i64 0, .int .i64 0, .int .i64 0, .int .i64 0, .int .i64 0, .int .i64 0, .int .i64 0, .int .i64 0, .int .i64 0, .int .i64 0] 338)).other (g := w2.heap.size) (by omega) zero18) (below_setRow (g := w2.heap.size) (HI2.out.2.2.alloc HI2.out.2.2.size (.cells #[.int .i64 0, .int .i64 0, .int .i64 0, .int .i64 0, .int .i64 0, .int .i64 0, .int .i64 0, .int .i64 0, .int .i64 0, .int .i64 0, .int .i64 0, .int .i64 0, .int .i64 0, .int .i64 0, .int .i64 0, .int .i64 0, .int .i64 0, .int .i64 0] 338)) (by omega) zero18))); clear HI2))
          go_roundw
          case rel => exact ⟨k + 1, by omega, by omega, by go_num, by rw [HKN.out]; exact HI3.out⟩
          case measure => simp [intOf]; omega
      · have e : k = 8 := by omega
        subst e
        go_wp2_with (first
          | (refine wpList_loadRow rfl _ 338 rfl (w.heap.size + 1) 338 (bodyA (bestK width x n 6) width x n) (0, 0) _ rfl HI.out.1 Tryz.underlying338 rfl infoBody ?_)
          | (refine wpList_storeRow rfl _ _ 338 rfl w.heap.size 338 _ _ rfl rfl HI.out.2.1 infoBody rfl rfl ?_))
        exact bodyPost_ret (res_best _ w.heap.size (bodyA (bestK width x n 6) width x n) _ (HI.out.2.1.row _) rfl rfl) rfl ⟨rfl, below_setRow HI.out.2.2 (Nat.le_refl _) _⟩
end Go.Proofs.YtlncjgnomhpjnabGreatDoor

