import Derived.Test.YtlncjgnomhpjnaaGreatDoorEJParts
/-
  The program's packer: a body by a kind that has rests.
-/
namespace Go.Proofs.YtlncjgnomhpjnaaGreatDoor
open Go.RowKit Go.Deep
set_option linter.unusedVariables false

/-- a body's guesser and parts, as the program holds them -/
def bG (kind : Nat) (x : Nat → Int) (n j : Nat) : Int :=
  if kind < 2 then 0 else if j = 0 then ord kind else if j = 5 then scl kind else wt kind (wA kind x n) (wB kind x n) (j - 1)
def bP (kind : Nat) (x : Nat → Int) (n j : Nat) : Int := if kind < 2 then 0 else pvI (fR kind x n) (ord kind) n (bC kind x n) j
def bodyV (kind w : Nat) (x : Nat → Int) (n : Nat) : Value :=
  .agg #[.int .i64 (kind : Int), .int .i64 (bG kind x n 0), .int .i64 (bG kind x n 1), .int .i64 (bG kind x n 2), .int .i64 (bG kind x n 3), .int .i64 (bG kind x n 4), .int .i64 (bG kind x n 5), .int .i64 (bP kind x n 0), .int .i64 (bP kind x n 1), .int .i64 (bP kind x n 2), .int .i64 (bP kind x n 3), .int .i64 (bP kind x n 4), .int .i64 (bP kind x n 5), .int .i64 (bP kind x n 6), .int .i64 (bP kind x n 7), .int .i64 (bP kind x n 8), .int .i64 (bP kind x n 9), .int .i64 (bodyL kind w x n : Int)]
theorem cutL_le (F : Nat → Nat) (o n c : Nat) (hn : n ≤ 32) (hc : c ≤ 3) (hok : okC n o c = true) (hF : ∀ i, o ≤ i → i < n → F i ≤ 2000000) : cutL F o n c ≤ 1000000000 := by
  have h := cut_facts (show cutB n o c = true from hok)
  have h1 := partsL_le F o (n / 2 ^ c) (2 ^ c) n hn h.1 h.2 hF (2 ^ c) (Nat.le_refl _)
  have h2 : 2 ^ c ≤ 8 := Nat.le_trans (Nat.pow_le_pow_right (by omega) hc) (by decide)
  have h3 : 2 ^ c * 64000484 ≤ 8 * 64000484 := Nat.mul_le_mul_right _ h2
  unfold cutL; omega
/-- what is asked of the short samples -/
structure Shorts (w : World) (A : Option Addr) (n : Nat) (x : Nat → Int) : Prop where
  ints : IntsAt w A n x
  low : ∀ y, A = some y → 0 < n → y.block < w.heap.size
  bd : ∀ j, j < n → -4096 ≤ x j ∧ x j ≤ 4096
theorem Shorts.below {w u : World} {A : Option Addr} {n : Nat} {x : Nat → Int} (h : Shorts w A n x) (hb : Below w.heap.size w u) : Shorts u A n x :=
  ⟨h.ints.belowB hb h.low, fun y hy h0 => Nat.lt_of_lt_of_le (h.low y hy h0) hb.size, h.bd⟩

theorem infoBody : (Tryz.prog.info? 206).map (·.size) = some 18 := by kernel_rfl
/-- a variable's block -/
def Bx (w : World) (b : Nat) (t : TypeId) (cs : Array Value) : Prop := w.heap[b]? = some (.cells cs t (0, 0))
theorem Bx.lt {w : World} {b : Nat} {t : TypeId} {cs : Array Value} (h : Bx w b t cs) : b < w.heap.size := (Array.getElem?_eq_some_iff.1 h).1
theorem Bx.of {w w' : World} {b : Nat} {t : TypeId} {cs : Array Value} (h : Bx w b t cs) (e : w'.heap[b]? = w.heap[b]?) : Bx w' b t cs := e.trans h
theorem Bx.alloc {w : World} {b : Nat} {t : TypeId} {cs : Array Value} (h : Bx w b t cs) (o : Obj) : Bx (w.alloc o) b t cs := h.of (blk_alloc_lt _ _ _ h.lt)
theorem Bx.new (w : World) (cs : Array Value) (t : TypeId) : Bx (w.alloc (.cells cs t)) w.heap.size t cs := blk_alloc_new _ _
theorem Bx.below {w w' : World} {b : Nat} {t : TypeId} {cs : Array Value} (h : Bx w b t cs) (hb : Below w.heap.size w w') : Bx w' b t cs := h.of (hb.block _ h.lt)
theorem Bx.row {w : World} {b : Nat} {t : TypeId} {cs : Array Value} (h : Bx w b t cs) (ds : Array Value) : Bx (w.setRow b ds) b t ds := setRow_heap w b cs ds t (0, 0) h
theorem Bx.other {w : World} {b g : Nat} {t : TypeId} {cs : Array Value} (h : Bx w b t cs) (hb : b ≠ g) (ds : Array Value) : Bx (w.setRow g ds) b t cs := h.of (setRow_other w g b ds hb)
theorem Bx.cell {w : World} {b : Nat} {t : TypeId} {cs : Array Value} (h : Bx w b t cs) (j : Nat) : w.cell? ⟨b, j, none⟩ = cs[j]? := by simp [World.cell?, show w.heap[b]? = _ from h]

def bodyA (kind w : Nat) (x : Nat → Int) (n : Nat) : Array Value :=
  #[.int .i64 (kind : Int), .int .i64 (bG kind x n 0), .int .i64 (bG kind x n 1), .int .i64 (bG kind x n 2), .int .i64 (bG kind x n 3), .int .i64 (bG kind x n 4), .int .i64 (bG kind x n 5), .int .i64 (bP kind x n 0), .int .i64 (bP kind x n 1), .int .i64 (bP kind x n 2), .int .i64 (bP kind x n 3), .int .i64 (bP kind x n 4), .int .i64 (bP kind x n 5), .int .i64 (bP kind x n 6), .int .i64 (bP kind x n 7), .int .i64 (bP kind x n 8), .int .i64 (bP kind x n 9), .int .i64 (bodyL kind w x n : Int)]
theorem bodyV_eq (kind w : Nat) (x : Nat → Int) (n : Nat) : bodyV kind w x n = .agg (bodyA kind w x n) := rfl
def zero18 : Array Value := #[.int .i64 0, .int .i64 0, .int .i64 0, .int .i64 0, .int .i64 0, .int .i64 0, .int .i64 0, .int .i64 0, .int .i64 0, .int .i64 0, .int .i64 0, .int .i64 0, .int .i64 0, .int .i64 0, .int .i64 0, .int .i64 0, .int .i64 0, .int .i64 0]
theorem infoGuesser : (Tryz.prog.info? 201).map (·.size) = some 6 := by kernel_rfl
theorem infoParts : (Tryz.prog.info? 204).map (·.size) = some 10 := by kernel_rfl
theorem res_gb (tmps : Array Value) (R : Nat) (b : Bool) (cs : Array Value) (W : World) (h : Bx W R 206 cs) (hs : cs.size = 18) (h6 : tmps.getD 6 undef = .pointer (some ⟨R, 0, none⟩)) (h7 : tmps.getD 7 undef = .bool b) :
    (results Tryz.f193 tmps).run Tryz.prog W = .ok (.tuple #[.agg cs, .bool b]) W := by
  have hl := run_loadVar_row (P := Tryz.prog) W R 206 206 cs (0, 0) _ h Tryz.underlying206 rfl (by rw [hs]; exact infoBody)
  rw [Array.getD_eq_getD_getElem?] at h6 h7
  simp [results, Tryz.results193, asAddr, h6, h7, hl]

set_option maxRecDepth 100000 in
set_option maxHeartbeats 4000000 in
theorem guessedBody_fixed (kind : Nat) (A : Option Addr) (n c width : Nat) (x : Nat → Int) (w : World) (h2 : 2 ≤ kind) (h6 : kind ≤ 6) (hn : n ≤ 32) (hnc : n ≤ c) (hw : width ≤ 13) (hon : ord kind < n) (hS : Shorts w A n x)
    (hT : TabAt w 7) (hg : 7 < w.heap.size) :
    Calls Tryz.prog 193 #[.int .i64 kind, .int .i64 width, .slice A n c] w fun e w' => e = .returned (.tuple #[.agg (bodyA kind width x n), .bool true]) ∧ Below w.heap.size w w' := by
  have hk7' : kind ≤ 7 := by omega
  have ho := ord_le kind h2 hk7'
  have h7 : ((kind : Int) == 7) = false := by simp; omega
  have hm : IntKind.i64.wrap ((ord kind : Int) * (width : Int)) = ((ord kind * width : Nat) : Int) := by
    have h1 : ord kind * width ≤ 4 * 13 := Nat.mul_le_mul ho hw
    rw [show (ord kind : Int) * (width : Int) = ((ord kind * width : Nat) : Int) by simp, IntKind.wrap_i64]; omega
  have hmb : ord kind * width ≤ 52 := Nat.mul_le_mul ho hw
  have HO := Hid.mk' (fun u => orderOf_any kind u h2 hk7')
  have HF := Hid.mk' (fun u (hu : Below w.heap.size w u) => fixed_any kind (wA kind x n) (wB kind x n) u h2 h6 (fun r c hr hc => (hu.cell (p := ⟨7, 4 * r + c, none⟩) hg).trans (hT r c hr hc)) (Nat.lt_of_lt_of_le hg hu.size))
  have HFR := Hid.mk' (fun (u : World) (hu : Below w.heap.size w u) => foldedRests_any kind A n c x u h2 hk7' hn hon hS.bd (hS.below hu).ints (hS.below hu).low hnc)
  have HSP := Hid.mk' (fun (G : Nat) (u : World) (hu : u.rowIs G 3 n (foldV (ord kind) (fR kind x n) n)) => shortestParts_any (ord kind) G n (fR kind x n) u hn ho hon (fun i hi hin => (fR_bd kind x n i h2 hk7' (fun j hj => hS.bd j (by omega)) hi).2) hu)
  have hcl := cutL_le (fR kind x n) (ord kind) n (bC kind x n) hn (bestC_le _ _ _ _) (bestC_ok _ _ _ hon _) (fun i hi hin => (fR_bd kind x n i h2 hk7' (fun j hj => hS.bd j (by omega)) hi).2)
  have hp9 : pvI (fR kind x n) (ord kind) n (bC kind x n) 9 = (cutL (fR kind x n) (ord kind) n (bC kind x n) : Int) := rfl
  have HBL : Hid ((bodyL kind width x n : Int) = ((ord kind * width : Nat) : Int) + (cutL (fR kind x n) (ord kind) n (bC kind x n) : Int)) := by
    show _ = _
    unfold bodyL gL
    rw [if_neg (by omega), if_neg (by omega), if_neg (by omega)]; simp
  have HBV : Hid (bodyA kind width x n = #[.int .i64 kind, .int .i64 (ord kind), .int .i64 (wt kind (wA kind x n) (wB kind x n) 0), .int .i64 (wt kind (wA kind x n) (wB kind x n) 1), .int .i64 (wt kind (wA kind x n) (wB kind x n) 2), .int .i64 (wt kind (wA kind x n) (wB kind x n) 3), .int .i64 (scl kind : Int), .int .i64 (pvI (fR kind x n) (ord kind) n (bC kind x n) 0), .int .i64 (pvI (fR kind x n) (ord kind) n (bC kind x n) 1), .int .i64 (pvI (fR kind x n) (ord kind) n (bC kind x n) 2), .int .i64 (pvI (fR kind x n) (ord kind) n (bC kind x n) 3), .int .i64 (pvI (fR kind x n) (ord kind) n (bC kind x n) 4), .int .i64 (pvI (fR kind x n) (ord kind) n (bC kind x n) 5), .int .i64 (pvI (fR kind x n) (ord kind) n (bC kind x n) 6), .int .i64 (pvI (fR kind x n) (ord kind) n (bC kind x n) 7), .int .i64 (pvI (fR kind x n) (ord kind) n (bC kind x n) 8), .int .i64 (pvI (fR kind x n) (ord kind) n (bC kind x n) 9), .int .i64 (((ord kind * width : Nat) : Int) + (cutL (fR kind x n) (ord kind) n (bC kind x n) : Int))]) := by
    show _ = _
    rw [← HBL.out]
    unfold bodyA bG bP
    simp only [if_neg (show ¬ kind < 2 by omega)]
    rfl
  obtain ⟨cl, hcle⟩ : ∃ cl, cl = cutL (fR kind x n) (ord kind) n (bC kind x n) := ⟨_, rfl⟩
  obtain ⟨ow, howe⟩ : ∃ ow, ow = ord kind * width := ⟨_, rfl⟩
  obtain ⟨pv, hpve⟩ : ∃ pv, pv = pvI (fR kind x n) (ord kind) n (bC kind x n) := ⟨_, rfl⟩
  have hbCe : bestC (fR kind x n) (ord kind) n 3 = bC kind x n := rfl
  rw [hbCe] at HSP
  rw [← hcle] at hcl hp9 HBV
  rw [← hpve] at hp9 HBV HSP
  rw [← howe] at hm hmb HBV
  have v1 : IntKind.i64.wrap ((ow : Int) + pv 9) = (ow : Int) + (cl : Int) := by rw [hp9, IntKind.wrap_i64]; omega
  clear hp9
  have HR0 : Hid (Bx ((w.alloc (.cells #[.int .i64 0, .int .i64 0, .int .i64 0, .int .i64 0, .int .i64 0, .int .i64 0, .int .i64 0, .int .i64 0, .int .i64 0, .int .i64 0, .int .i64 0, .int .i64 0, .int .i64 0, .int .i64 0, .int .i64 0, .int .i64 0, .int .i64 0, .int .i64 0] 206)).alloc (.cells #[.int .i64 0, .int .i64 0, .int .i64 0, .int .i64 0, .int .i64 0, .int .i64 0] 201)) w.heap.size 206 #[.int .i64 0, .int .i64 0, .int .i64 0, .int .i64 0, .int .i64 0, .int .i64 0, .int .i64 0, .int .i64 0, .int .i64 0, .int .i64 0, .int .i64 0, .int .i64 0, .int .i64 0, .int .i64 0, .int .i64 0, .int .i64 0, .int .i64 0, .int .i64 0]) := (Bx.new w _ _).alloc _
  have HB0 : Hid (Bx ((w.alloc (.cells #[.int .i64 0, .int .i64 0, .int .i64 0, .int .i64 0, .int .i64 0, .int .i64 0, .int .i64 0, .int .i64 0, .int .i64 0, .int .i64 0, .int .i64 0, .int .i64 0, .int .i64 0, .int .i64 0, .int .i64 0, .int .i64 0, .int .i64 0, .int .i64 0] 206)).alloc (.cells #[.int .i64 0, .int .i64 0, .int .i64 0, .int .i64 0, .int .i64 0, .int .i64 0] 201)) (w.heap.size + 1) 201 #[.int .i64 0, .int .i64 0, .int .i64 0, .int .i64 0, .int .i64 0, .int .i64 0]) := by
    have := Bx.new (w.alloc (.cells #[.int .i64 0, .int .i64 0, .int .i64 0, .int .i64 0, .int .i64 0, .int .i64 0, .int .i64 0, .int .i64 0, .int .i64 0, .int .i64 0, .int .i64 0, .int .i64 0, .int .i64 0, .int .i64 0, .int .i64 0, .int .i64 0, .int .i64 0, .int .i64 0] 206)) #[.int .i64 0, .int .i64 0, .int .i64 0, .int .i64 0, .int .i64 0, .int .i64 0] 201
    rw [World.size_alloc] at this
    exact this
  have HW0 : Hid (Below w.heap.size w ((w.alloc (.cells #[.int .i64 0, .int .i64 0, .int .i64 0, .int .i64 0, .int .i64 0, .int .i64 0, .int .i64 0, .int .i64 0, .int .i64 0, .int .i64 0, .int .i64 0, .int .i64 0, .int .i64 0, .int .i64 0, .int .i64 0, .int .i64 0, .int .i64 0, .int .i64 0] 206)).alloc (.cells #[.int .i64 0, .int .i64 0, .int .i64 0, .int .i64 0, .int .i64 0, .int .i64 0] 201))) := ((Below.refl w.heap.size w).alloc (Nat.le_refl _) _).alloc (by simp) _
  have t1 : decide ((n : Int) ≤ (ord kind : Int)) = false := decide_eq_false (by omega)
  have t2 : decide (n ≤ ord kind) = false := decide_eq_false (by omega)
  rw [HBV.out]
  clear hT hS hcle howe hpve hbCe HBL HBV hmb hcl
  unfold gV at HF HFR
  generalize hwt : wt kind (wA kind x n) (wB kind x n) = wv at *
  clear hwt
  generalize ord kind = o at *
  generalize scl kind = sc at *
  go_enter Tryz.func193, Tryz.ntmps193
  go_wp2_with (first
    | (go_at_call 199; refine (HO.out _).mono ?_; rintro e w1 ⟨rfl, hw⟩; subst w1; clear HO)
    | (go_at_call 216; refine (HF.out _ ?_).mono ?_; exact HW0.out; rintro e w2 ⟨rfl, hb2⟩; have HR2 := Hid.mk' (HR0.out.below hb2); have HB2 := Hid.mk' (HB0.out.below hb2); have HW2 := Hid.mk' (HW0.out.trans (hb2.mono HW0.out.size)); clear hb2 HR0 HB0 HW0; clear HF)
    | (refine wpList_storeRow rfl _ _ 201 rfl (w.heap.size + 1) 201 _ _ rfl rfl HB2.out infoGuesser rfl rfl ?_; have HR3 := Hid.mk' (HR2.out.other (g := w.heap.size + 1) (by omega) #[.int .i64 (o : Int), .int .i64 (wv 0), .int .i64 (wv 1), .int .i64 (wv 2), .int .i64 (wv 3), .int .i64 (sc : Int)]); have HB3 := Hid.mk' (HB2.out.row #[.int .i64 (o : Int), .int .i64 (wv 0), .int .i64 (wv 1), .int .i64 (wv 2), .int .i64 (wv 3), .int .i64 (sc : Int)]); have HW3 := Hid.mk' (below_setRow (g := w.heap.size + 1) HW2.out (by omega) #[.int .i64 (o : Int), .int .i64 (wv 0), .int .i64 (wv 1), .int .i64 (wv 2), .int .i64 (wv 3), .int .i64 (sc : Int)]); clear HR2 HB2 HW2)
    | (refine wpList_loadRow rfl _ 201 rfl (w.heap.size + 1) 201 #[.int .i64 (o : Int), .int .i64 (wv 0), .int .i64 (wv 1), .int .i64 (wv 2), .int .i64 (wv 3), .int .i64 (sc : Int)] (0, 0) _ rfl HB3.out Tryz.underlying201 rfl infoGuesser ?_)
    | (go_at_call 218; refine (HFR.out _ ?_).mono ?_; exact HW3.out; rintro e w4 ⟨G, hG, rfl, hrow, hb4⟩; have HG := Hid.mk' hrow; have HR4 := Hid.mk' (HR3.out.below hb4); have HB4 := Hid.mk' (HB3.out.below hb4); have HW4 := Hid.mk' (HW3.out.trans (hb4.mono HW3.out.size)); clear hb4 HR3 HB3 HW3; clear hrow HFR)
    | (go_at_call 217; refine (HSP.out G _ ?_).mono ?_; exact HG.out; rintro e w5 ⟨rfl, hb5⟩; have HR5 := Hid.mk' (HR4.out.below hb5); have HB5 := Hid.mk' (HB4.out.below hb5); have HW5 := Hid.mk' (HW4.out.trans (hb5.mono HW4.out.size)); clear hb5 HR4 HB4 HW4; have hs5 := HB5.out.lt; clear HSP HG)
    | (refine wpList_storeRow rfl _ _ 204 rfl w5.heap.size 204 _ _ rfl rfl (Bx.new w5 #[.int .i64 0, .int .i64 0, .int .i64 0, .int .i64 0, .int .i64 0, .int .i64 0, .int .i64 0, .int .i64 0, .int .i64 0, .int .i64 0] 204) infoParts rfl rfl ?_; have HP6 := Hid.mk' ((Bx.new w5 #[.int .i64 0, .int .i64 0, .int .i64 0, .int .i64 0, .int .i64 0, .int .i64 0, .int .i64 0, .int .i64 0, .int .i64 0, .int .i64 0] 204).row #[.int .i64 (pv 0), .int .i64 (pv 1), .int .i64 (pv 2), .int .i64 (pv 3), .int .i64 (pv 4), .int .i64 (pv 5), .int .i64 (pv 6), .int .i64 (pv 7), .int .i64 (pv 8), .int .i64 (pv 9)]); have HR6 := Hid.mk' ((HR5.out.alloc (.cells #[.int .i64 0, .int .i64 0, .int .i64 0, .int .i64 0, .int .i64 0, .int .i64 0, .int .i64 0, .int .i64 0, .int .i64 0, .int .i64 0] 204)).other (g := w5.heap.size) (by omega) #[.int .i64 (pv 0), .int .i64 (pv 1), .int .i64 (pv 2), .int .i64 (pv 3), .int .i64 (pv 4), .int .i64 (pv 5), .int .i64 (pv 6), .int .i64 (pv 7), .int .i64 (pv 8), .int .i64 (pv 9)]); have HB6 := Hid.mk' ((HB5.out.alloc (.cells #[.int .i64 0, .int .i64 0, .int .i64 0, .int .i64 0, .int .i64 0, .int .i64 0, .int .i64 0, .int .i64 0, .int .i64 0, .int .i64 0] 204)).other (g := w5.heap.size) (by omega) #[.int .i64 (pv 0), .int .i64 (pv 1), .int .i64 (pv 2), .int .i64 (pv 3), .int .i64 (pv 4), .int .i64 (pv 5), .int .i64 (pv 6), .int .i64 (pv 7), .int .i64 (pv 8), .int .i64 (pv 9)]); have HW6 := Hid.mk' (below_setRow (g := w5.heap.size) (HW5.out.alloc HW5.out.size (.cells #[.int .i64 0, .int .i64 0, .int .i64 0, .int .i64 0, .int .i64 0, .int .i64 0, .int .i64 0, .int .i64 0, .int .i64 0, .int .i64 0] 204)) (by omega) #[.int .i64 (pv 0), .int .i64 (pv 1), .int .i64 (pv 2), .int .i64 (pv 3), .int .i64 (pv 4), .int .i64 (pv 5), .int .i64 (pv 6), .int .i64 (pv 7), .int .i64 (pv 8), .int .i64 (pv 9)]); have x9 := HP6.out.cell 9; simp at x9; clear HR5 HB5 HW5)
    | (refine wpList_loadRow rfl _ 201 rfl (w.heap.size + 1) 201 #[.int .i64 (o : Int), .int .i64 (wv 0), .int .i64 (wv 1), .int .i64 (wv 2), .int .i64 (wv 3), .int .i64 (sc : Int)] (0, 0) _ rfl HB6.out Tryz.underlying201 rfl infoGuesser ?_)
    | (refine wpList_loadRow rfl _ 204 rfl w5.heap.size 204 #[.int .i64 (pv 0), .int .i64 (pv 1), .int .i64 (pv 2), .int .i64 (pv 3), .int .i64 (pv 4), .int .i64 (pv 5), .int .i64 (pv 6), .int .i64 (pv 7), .int .i64 (pv 8), .int .i64 (pv 9)] (0, 0) _ rfl HP6.out Tryz.underlying204 rfl infoParts ?_)
    | (refine wpList_storeRow rfl _ _ 206 rfl w.heap.size 206 _ _ rfl rfl HR6.out infoBody rfl rfl ?_))
  exact bodyPost_ret (res_gb _ w.heap.size true _ _ (HR6.out.row _) rfl rfl rfl) rfl ⟨rfl, below_setRow HW6.out (Nat.le_refl _) _⟩
end Go.Proofs.YtlncjgnomhpjnaaGreatDoor

/-
  The program's packer: a body by the kind Leaning; no body.
-/
namespace Go.Proofs.YtlncjgnomhpjnaaGreatDoor
open Go.RowKit Go.Deep
set_option linter.unusedVariables false

set_option maxRecDepth 100000 in
set_option maxHeartbeats 4000000 in
theorem guessedBody_seven (kind : Nat) (A : Option Addr) (n c width : Nat) (x : Nat → Int) (w : World) (hk7 : kind = 7) (hn : n ≤ 32) (hnc : n ≤ c) (hw : width ≤ 13) (hon : ord kind < n) (hD : 0 < leanD x n) (hS : Shorts w A n x) :
    Calls Tryz.prog 193 #[.int .i64 kind, .int .i64 width, .slice A n c] w fun e w' => e = .returned (.tuple #[.agg (bodyA kind width x n), .bool true]) ∧ Below w.heap.size w w' := by
  have h2 : 2 ≤ kind := by omega
  have hk7' : kind ≤ 7 := by omega
  have ho := ord_le kind h2 hk7'
  have h7 : ((kind : Int) == 7) = true := by simp; omega
  have hm : IntKind.i64.wrap ((ord kind : Int) * (width : Int)) = ((ord kind * width : Nat) : Int) := by
    have h1 : ord kind * width ≤ 4 * 13 := Nat.mul_le_mul ho hw
    rw [show (ord kind : Int) * (width : Int) = ((ord kind * width : Nat) : Int) by simp, IntKind.wrap_i64]; omega
  have hmb : ord kind * width ≤ 52 := Nat.mul_le_mul ho hw
  have HO := Hid.mk' (fun u => orderOf_any kind u h2 hk7')
  have HF : Hid (∀ u : World, Calls Tryz.prog 215 #[.int .i64 (leanA x n), .int .i64 (leanB x n)] u fun e w' => e = .returned (gV kind (wA kind x n) (wB kind x n)) ∧ Below u.heap.size u w') := fun u => by
    have ea : wA kind x n = leanA x n := if_pos hk7
    have eb : wB kind x n = leanB x n := if_pos hk7
    rw [ea, eb, hk7]
    exact leaning_any (leanA x n) (leanB x n) u
  have HWF := Hid.mk' (fun (u : World) (hu : Below w.heap.size w u) => weightsFor_any A n c x u hn hS.bd (hS.below hu).ints)
  rw [decide_eq_true hD] at HWF
  have HFR := Hid.mk' (fun (u : World) (hu : Below w.heap.size w u) => foldedRests_any kind A n c x u h2 hk7' hn hon hS.bd (hS.below hu).ints (hS.below hu).low hnc)
  have HSP := Hid.mk' (fun (G : Nat) (u : World) (hu : u.rowIs G 3 n (foldV (ord kind) (fR kind x n) n)) => shortestParts_any (ord kind) G n (fR kind x n) u hn ho hon (fun i hi hin => (fR_bd kind x n i h2 hk7' (fun j hj => hS.bd j (by omega)) hi).2) hu)
  have hcl := cutL_le (fR kind x n) (ord kind) n (bC kind x n) hn (bestC_le _ _ _ _) (bestC_ok _ _ _ hon _) (fun i hi hin => (fR_bd kind x n i h2 hk7' (fun j hj => hS.bd j (by omega)) hi).2)
  have hp9 : pvI (fR kind x n) (ord kind) n (bC kind x n) 9 = (cutL (fR kind x n) (ord kind) n (bC kind x n) : Int) := rfl
  have HBL : Hid ((bodyL kind width x n : Int) = ((ord kind * width : Nat) : Int) + 12 + (cutL (fR kind x n) (ord kind) n (bC kind x n) : Int)) := by
    show _ = _
    unfold bodyL gL
    rw [if_neg (by omega), if_neg (by omega), if_pos hk7]; simp
  have HBV : Hid (bodyA kind width x n = #[.int .i64 kind, .int .i64 (ord kind), .int .i64 (wt kind (wA kind x n) (wB kind x n) 0), .int .i64 (wt kind (wA kind x n) (wB kind x n) 1), .int .i64 (wt kind (wA kind x n) (wB kind x n) 2), .int .i64 (wt kind (wA kind x n) (wB kind x n) 3), .int .i64 (scl kind : Int), .int .i64 (pvI (fR kind x n) (ord kind) n (bC kind x n) 0), .int .i64 (pvI (fR kind x n) (ord kind) n (bC kind x n) 1), .int .i64 (pvI (fR kind x n) (ord kind) n (bC kind x n) 2), .int .i64 (pvI (fR kind x n) (ord kind) n (bC kind x n) 3), .int .i64 (pvI (fR kind x n) (ord kind) n (bC kind x n) 4), .int .i64 (pvI (fR kind x n) (ord kind) n (bC kind x n) 5), .int .i64 (pvI (fR kind x n) (ord kind) n (bC kind x n) 6), .int .i64 (pvI (fR kind x n) (ord kind) n (bC kind x n) 7), .int .i64 (pvI (fR kind x n) (ord kind) n (bC kind x n) 8), .int .i64 (pvI (fR kind x n) (ord kind) n (bC kind x n) 9), .int .i64 (((ord kind * width : Nat) : Int) + 12 + (cutL (fR kind x n) (ord kind) n (bC kind x n) : Int))]) := by
    show _ = _
    rw [← HBL.out]
    unfold bodyA bG bP
    simp only [if_neg (show ¬ kind < 2 by omega)]
    rfl
  obtain ⟨cl, hcle⟩ : ∃ cl, cl = cutL (fR kind x n) (ord kind) n (bC kind x n) := ⟨_, rfl⟩
  obtain ⟨ow, howe⟩ : ∃ ow, ow = ord kind * width := ⟨_, rfl⟩
  obtain ⟨pv, hpve⟩ : ∃ pv, pv = pvI (fR kind x n) (ord kind) n (bC kind x n) := ⟨_, rfl⟩
  have hbCe : bestC (fR kind x n) (ord kind) n 3 = bC kind x n := rfl
  rw [hbCe] at HSP
  rw [← hcle] at hcl hp9 HBV
  rw [← hpve] at hp9 HBV HSP
  rw [← howe] at hm hmb HBV
  have v1 : IntKind.i64.wrap ((ow : Int) + 12 + pv 9) = (ow : Int) + 12 + (cl : Int) := by rw [hp9, IntKind.wrap_i64]; omega
  have v0 : IntKind.i64.wrap ((ow : Int) + 12) = (ow : Int) + 12 := by rw [IntKind.wrap_i64]; omega
  clear hp9
  have HR0 : Hid (Bx ((w.alloc (.cells #[.int .i64 0, .int .i64 0, .int .i64 0, .int .i64 0, .int .i64 0, .int .i64 0, .int .i64 0, .int .i64 0, .int .i64 0, .int .i64 0, .int .i64 0, .int .i64 0, .int .i64 0, .int .i64 0, .int .i64 0, .int .i64 0, .int .i64 0, .int .i64 0] 206)).alloc (.cells #[.int .i64 0, .int .i64 0, .int .i64 0, .int .i64 0, .int .i64 0, .int .i64 0] 201)) w.heap.size 206 #[.int .i64 0, .int .i64 0, .int .i64 0, .int .i64 0, .int .i64 0, .int .i64 0, .int .i64 0, .int .i64 0, .int .i64 0, .int .i64 0, .int .i64 0, .int .i64 0, .int .i64 0, .int .i64 0, .int .i64 0, .int .i64 0, .int .i64 0, .int .i64 0]) := (Bx.new w _ _).alloc _
  have HB0 : Hid (Bx ((w.alloc (.cells #[.int .i64 0, .int .i64 0, .int .i64 0, .int .i64 0, .int .i64 0, .int .i64 0, .int .i64 0, .int .i64 0, .int .i64 0, .int .i64 0, .int .i64 0, .int .i64 0, .int .i64 0, .int .i64 0, .int .i64 0, .int .i64 0, .int .i64 0, .int .i64 0] 206)).alloc (.cells #[.int .i64 0, .int .i64 0, .int .i64 0, .int .i64 0, .int .i64 0, .int .i64 0] 201)) (w.heap.size + 1) 201 #[.int .i64 0, .int .i64 0, .int .i64 0, .int .i64 0, .int .i64 0, .int .i64 0]) := by
    have := Bx.new (w.alloc (.cells #[.int .i64 0, .int .i64 0, .int .i64 0, .int .i64 0, .int .i64 0, .int .i64 0, .int .i64 0, .int .i64 0, .int .i64 0, .int .i64 0, .int .i64 0, .int .i64 0, .int .i64 0, .int .i64 0, .int .i64 0, .int .i64 0, .int .i64 0, .int .i64 0] 206)) #[.int .i64 0, .int .i64 0, .int .i64 0, .int .i64 0, .int .i64 0, .int .i64 0] 201
    rw [World.size_alloc] at this
    exact this
  have HW0 : Hid (Below w.heap.size w ((w.alloc (.cells #[.int .i64 0, .int .i64 0, .int .i64 0, .int .i64 0, .int .i64 0, .int .i64 0, .int .i64 0, .int .i64 0, .int .i64 0, .int .i64 0, .int .i64 0, .int .i64 0, .int .i64 0, .int .i64 0, .int .i64 0, .int .i64 0, .int .i64 0, .int .i64 0] 206)).alloc (.cells #[.int .i64 0, .int .i64 0, .int .i64 0, .int .i64 0, .int .i64 0, .int .i64 0] 201))) := ((Below.refl w.heap.size w).alloc (Nat.le_refl _) _).alloc (by simp) _
  have t1 : decide ((n : Int) ≤ (ord kind : Int)) = false := decide_eq_false (by omega)
  have t2 : decide (n ≤ ord kind) = false := decide_eq_false (by omega)
  rw [HBV.out]
  have HD := Hid.mk' hD
  clear hk7 hD hS hcle howe hpve hbCe HBL HBV hmb hcl
  unfold gV at HF HFR
  generalize hwt : wt kind (wA kind x n) (wB kind x n) = wv at *
  clear hwt
  generalize ord kind = o at *
  generalize scl kind = sc at *
  go_enter Tryz.func193, Tryz.ntmps193
  go_wp2_with (first
    | (go_at_call 199; refine (HO.out _).mono ?_; rintro e w1 ⟨rfl, hw⟩; subst w1; clear HO)
    | (go_at_call 214; refine (HWF.out _ ?_).mono ?_; exact HW0.out; rintro e w1 ⟨⟨va, vb, rfl, hab⟩, q, hq⟩; obtain ⟨rfl, rfl⟩ := hab HD.out; have HR1 : Hid (Bx w1 w.heap.size 206 #[.int .i64 0, .int .i64 0, .int .i64 0, .int .i64 0, .int .i64 0, .int .i64 0, .int .i64 0, .int .i64 0, .int .i64 0, .int .i64 0, .int .i64 0, .int .i64 0, .int .i64 0, .int .i64 0, .int .i64 0, .int .i64 0, .int .i64 0, .int .i64 0]) := (by rw [hq]; exact HR0.out); have HB1 : Hid (Bx w1 (w.heap.size + 1) 201 #[.int .i64 0, .int .i64 0, .int .i64 0, .int .i64 0, .int .i64 0, .int .i64 0]) := (by rw [hq]; exact HB0.out); have HW1 : Hid (Below w.heap.size w w1) := (by rw [hq]; exact ⟨HW0.out.os, HW0.out.tape, HW0.out.output, HW0.out.size, HW0.out.block⟩); clear hq hab HWF HR0 HB0 HW0)
    | (go_at_call 215; refine (HF.out _).mono ?_; rintro e w2 ⟨rfl, hb2⟩; have HR2 := Hid.mk' (HR1.out.below hb2); have HB2 := Hid.mk' (HB1.out.below hb2); have HW2 := Hid.mk' (HW1.out.trans (hb2.mono HW1.out.size)); clear hb2 HR1 HB1 HW1; clear HF)
    | (refine wpList_storeRow rfl _ _ 201 rfl (w.heap.size + 1) 201 _ _ rfl rfl HB2.out infoGuesser rfl rfl ?_; have HR3 := Hid.mk' (HR2.out.other (g := w.heap.size + 1) (by omega) #[.int .i64 (o : Int), .int .i64 (wv 0), .int .i64 (wv 1), .int .i64 (wv 2), .int .i64 (wv 3), .int .i64 (sc : Int)]); have HB3 := Hid.mk' (HB2.out.row #[.int .i64 (o : Int), .int .i64 (wv 0), .int .i64 (wv 1), .int .i64 (wv 2), .int .i64 (wv 3), .int .i64 (sc : Int)]); have HW3 := Hid.mk' (below_setRow (g := w.heap.size + 1) HW2.out (by omega) #[.int .i64 (o : Int), .int .i64 (wv 0), .int .i64 (wv 1), .int .i64 (wv 2), .int .i64 (wv 3), .int .i64 (sc : Int)]); clear HR2 HB2 HW2)
    | (refine wpList_loadRow rfl _ 201 rfl (w.heap.size + 1) 201 #[.int .i64 (o : Int), .int .i64 (wv 0), .int .i64 (wv 1), .int .i64 (wv 2), .int .i64 (wv 3), .int .i64 (sc : Int)] (0, 0) _ rfl HB3.out Tryz.underlying201 rfl infoGuesser ?_)
    | (go_at_call 218; refine (HFR.out _ ?_).mono ?_; exact HW3.out; rintro e w4 ⟨G, hG, rfl, hrow, hb4⟩; have HG := Hid.mk' hrow; have HR4 := Hid.mk' (HR3.out.below hb4); have HB4 := Hid.mk' (HB3.out.below hb4); have HW4 := Hid.mk' (HW3.out.trans (hb4.mono HW3.out.size)); clear hb4 HR3 HB3 HW3; clear hrow HFR)
    | (go_at_call 217; refine (HSP.out G _ ?_).mono ?_; exact HG.out; rintro e w5 ⟨rfl, hb5⟩; have HR5 := Hid.mk' (HR4.out.below hb5); have HB5 := Hid.mk' (HB4.out.below hb5); have HW5 := Hid.mk' (HW4.out.trans (hb5.mono HW4.out.size)); clear hb5 HR4 HB4 HW4; have hs5 := HB5.out.lt; clear HSP HG)
    | (refine wpList_storeRow rfl _ _ 204 rfl w5.heap.size 204 _ _ rfl rfl (Bx.new w5 #[.int .i64 0, .int .i64 0, .int .i64 0, .int .i64 0, .int .i64 0, .int .i64 0, .int .i64 0, .int .i64 0, .int .i64 0, .int .i64 0] 204) infoParts rfl rfl ?_; have HP6 := Hid.mk' ((Bx.new w5 #[.int .i64 0, .int .i64 0, .int .i64 0, .int .i64 0, .int .i64 0, .int .i64 0, .int .i64 0, .int .i64 0, .int .i64 0, .int .i64 0] 204).row #[.int .i64 (pv 0), .int .i64 (pv 1), .int .i64 (pv 2), .int .i64 (pv 3), .int .i64 (pv 4), .int .i64 (pv 5), .int .i64 (pv 6), .int .i64 (pv 7), .int .i64 (pv 8), .int .i64 (pv 9)]); have HR6 := Hid.mk' ((HR5.out.alloc (.cells #[.int .i64 0, .int .i64 0, .int .i64 0, .int .i64 0, .int .i64 0, .int .i64 0, .int .i64 0, .int .i64 0, .int .i64 0, .int .i64 0] 204)).other (g := w5.heap.size) (by omega) #[.int .i64 (pv 0), .int .i64 (pv 1), .int .i64 (pv 2), .int .i64 (pv 3), .int .i64 (pv 4), .int .i64 (pv 5), .int .i64 (pv 6), .int .i64 (pv 7), .int .i64 (pv 8), .int .i64 (pv 9)]); have HB6 := Hid.mk' ((HB5.out.alloc (.cells #[.int .i64 0, .int .i64 0, .int .i64 0, .int .i64 0, .int .i64 0, .int .i64 0, .int .i64 0, .int .i64 0, .int .i64 0, .int .i64 0] 204)).other (g := w5.heap.size) (by omega) #[.int .i64 (pv 0), .int .i64 (pv 1), .int .i64 (pv 2), .int .i64 (pv 3), .int .i64 (pv 4), .int .i64 (pv 5), .int .i64 (pv 6), .int .i64 (pv 7), .int .i64 (pv 8), .int .i64 (pv 9)]); have HW6 := Hid.mk' (below_setRow (g := w5.heap.size) (HW5.out.alloc HW5.out.size (.cells #[.int .i64 0, .int .i64 0, .int .i64 0, .int .i64 0, .int .i64 0, .int .i64 0, .int .i64 0, .int .i64 0, .int .i64 0, .int .i64 0] 204)) (by omega) #[.int .i64 (pv 0), .int .i64 (pv 1), .int .i64 (pv 2), .int .i64 (pv 3), .int .i64 (pv 4), .int .i64 (pv 5), .int .i64 (pv 6), .int .i64 (pv 7), .int .i64 (pv 8), .int .i64 (pv 9)]); have x9 := HP6.out.cell 9; simp at x9; clear HR5 HB5 HW5)
    | (refine wpList_loadRow rfl _ 201 rfl (w.heap.size + 1) 201 #[.int .i64 (o : Int), .int .i64 (wv 0), .int .i64 (wv 1), .int .i64 (wv 2), .int .i64 (wv 3), .int .i64 (sc : Int)] (0, 0) _ rfl HB6.out Tryz.underlying201 rfl infoGuesser ?_)
    | (refine wpList_loadRow rfl _ 204 rfl w5.heap.size 204 #[.int .i64 (pv 0), .int .i64 (pv 1), .int .i64 (pv 2), .int .i64 (pv 3), .int .i64 (pv 4), .int .i64 (pv 5), .int .i64 (pv 6), .int .i64 (pv 7), .int .i64 (pv 8), .int .i64 (pv 9)] (0, 0) _ rfl HP6.out Tryz.underlying204 rfl infoParts ?_)
    | (refine wpList_storeRow rfl _ _ 206 rfl w.heap.size 206 _ _ rfl rfl HR6.out infoBody rfl rfl ?_))
  exact bodyPost_ret (res_gb _ w.heap.size true _ _ (HR6.out.row _) rfl rfl rfl) rfl ⟨rfl, below_setRow HW6.out (Nat.le_refl _) _⟩

set_option maxRecDepth 100000 in
set_option maxHeartbeats 4000000 in
theorem guessedBody_short (kind : Nat) (A : Option Addr) (n c width : Nat) (w : World) (h2 : 2 ≤ kind) (h7 : kind ≤ 7) (hon : ¬ ord kind < n) :
    Calls Tryz.prog 193 #[.int .i64 kind, .int .i64 width, .slice A n c] w fun e w' => e = .returned (.tuple #[.agg zero18, .bool false]) ∧ Below w.heap.size w w' := by
  have HO := Hid.mk' (fun u => orderOf_any kind u h2 h7)
  have HR0 : Hid (Bx (w.alloc (.cells #[.int .i64 0, .int .i64 0, .int .i64 0, .int .i64 0, .int .i64 0, .int .i64 0, .int .i64 0, .int .i64 0, .int .i64 0, .int .i64 0, .int .i64 0, .int .i64 0, .int .i64 0, .int .i64 0, .int .i64 0, .int .i64 0, .int .i64 0, .int .i64 0] 206)) w.heap.size 206 #[.int .i64 0, .int .i64 0, .int .i64 0, .int .i64 0, .int .i64 0, .int .i64 0, .int .i64 0, .int .i64 0, .int .i64 0, .int .i64 0, .int .i64 0, .int .i64 0, .int .i64 0, .int .i64 0, .int .i64 0, .int .i64 0, .int .i64 0, .int .i64 0]) := Bx.new w _ _
  have HW0 : Hid (Below w.heap.size w (w.alloc (.cells #[.int .i64 0, .int .i64 0, .int .i64 0, .int .i64 0, .int .i64 0, .int .i64 0, .int .i64 0, .int .i64 0, .int .i64 0, .int .i64 0, .int .i64 0, .int .i64 0, .int .i64 0, .int .i64 0, .int .i64 0, .int .i64 0, .int .i64 0, .int .i64 0] 206))) := (Below.refl w.heap.size w).alloc (Nat.le_refl _) _
  have t1 : decide ((n : Int) ≤ (ord kind : Int)) = true := decide_eq_true (by omega)
  have t2 : decide (n ≤ ord kind) = true := decide_eq_true (by omega)
  generalize ord kind = o at *
  go_enter Tryz.func193, Tryz.ntmps193
  go_wp2_with (first
    | (go_at_call 199; refine (HO.out _).mono ?_; rintro e w1 ⟨rfl, hw⟩; subst w1; clear HO)
    | (refine wpList_storeRow rfl _ _ 206 rfl w.heap.size 206 _ _ rfl rfl HR0.out infoBody rfl rfl ?_))
  exact bodyPost_ret (res_gb _ w.heap.size false _ _ (HR0.out.row _) rfl rfl rfl) rfl ⟨rfl, below_setRow HW0.out (Nat.le_refl _) _⟩

set_option maxRecDepth 100000 in
set_option maxHeartbeats 4000000 in
theorem guessedBody_no7 (kind : Nat) (A : Option Addr) (n c width : Nat) (x : Nat → Int) (w : World) (hk7 : kind = 7) (hn : n ≤ 32) (hw : width ≤ 13) (hon : ord kind < n) (hD : ¬ 0 < leanD x n) (hS : Shorts w A n x) :
    Calls Tryz.prog 193 #[.int .i64 kind, .int .i64 width, .slice A n c] w fun e w' => e = .returned (.tuple #[.agg zero18, .bool false]) ∧ Below w.heap.size w w' := by
  have h2 : 2 ≤ kind := by omega
  have ho := ord_le kind h2 (by omega)
  have h7 : ((kind : Int) == 7) = true := by simp; omega
  have hm : IntKind.i64.wrap ((ord kind : Int) * (width : Int)) = ((ord kind * width : Nat) : Int) := by
    have h1 : ord kind * width ≤ 4 * 13 := Nat.mul_le_mul ho hw
    rw [show (ord kind : Int) * (width : Int) = ((ord kind * width : Nat) : Int) by simp, IntKind.wrap_i64]; omega
  have HO := Hid.mk' (fun u => orderOf_any kind u h2 (by omega))
  have HWF := Hid.mk' (fun (u : World) (hu : Below w.heap.size w u) => weightsFor_any A n c x u hn hS.bd (hS.below hu).ints)
  rw [decide_eq_false hD] at HWF
  have HR0 : Hid (Bx ((w.alloc (.cells #[.int .i64 0, .int .i64 0, .int .i64 0, .int .i64 0, .int .i64 0, .int .i64 0, .int .i64 0, .int .i64 0, .int .i64 0, .int .i64 0, .int .i64 0, .int .i64 0, .int .i64 0, .int .i64 0, .int .i64 0, .int .i64 0, .int .i64 0, .int .i64 0] 206)).alloc (.cells #[.int .i64 0, .int .i64 0, .int .i64 0, .int .i64 0, .int .i64 0, .int .i64 0] 201)) w.heap.size 206 #[.int .i64 0, .int .i64 0, .int .i64 0, .int .i64 0, .int .i64 0, .int .i64 0, .int .i64 0, .int .i64 0, .int .i64 0, .int .i64 0, .int .i64 0, .int .i64 0, .int .i64 0, .int .i64 0, .int .i64 0, .int .i64 0, .int .i64 0, .int .i64 0]) := (Bx.new w _ _).alloc _
  have HW0 : Hid (Below w.heap.size w ((w.alloc (.cells #[.int .i64 0, .int .i64 0, .int .i64 0, .int .i64 0, .int .i64 0, .int .i64 0, .int .i64 0, .int .i64 0, .int .i64 0, .int .i64 0, .int .i64 0, .int .i64 0, .int .i64 0, .int .i64 0, .int .i64 0, .int .i64 0, .int .i64 0, .int .i64 0] 206)).alloc (.cells #[.int .i64 0, .int .i64 0, .int .i64 0, .int .i64 0, .int .i64 0, .int .i64 0] 201))) := ((Below.refl w.heap.size w).alloc (Nat.le_refl _) _).alloc (by simp) _
  have t1 : decide ((n : Int) ≤ (ord kind : Int)) = false := decide_eq_false (by omega)
  have t2 : decide (n ≤ ord kind) = false := decide_eq_false (by omega)
  clear hk7 hS hD
  generalize ord kind * width = ow at *
  generalize ord kind = o at *
  go_enter Tryz.func193, Tryz.ntmps193
  go_wp2_with (first
    | (go_at_call 199; refine (HO.out _).mono ?_; rintro e w1 ⟨rfl, hw⟩; subst w1; clear HO)
    | (go_at_call 214; refine (HWF.out _ ?_).mono ?_; exact HW0.out; rintro e w1 ⟨⟨va, vb, rfl, hab⟩, q, hq⟩; have HR1 : Hid (Bx w1 w.heap.size 206 #[.int .i64 0, .int .i64 0, .int .i64 0, .int .i64 0, .int .i64 0, .int .i64 0, .int .i64 0, .int .i64 0, .int .i64 0, .int .i64 0, .int .i64 0, .int .i64 0, .int .i64 0, .int .i64 0, .int .i64 0, .int .i64 0, .int .i64 0, .int .i64 0]) := (by rw [hq]; exact HR0.out); have HW1 : Hid (Below w.heap.size w w1) := (by rw [hq]; exact ⟨HW0.out.os, HW0.out.tape, HW0.out.output, HW0.out.size, HW0.out.block⟩); clear hq hab HWF HR0 HW0)
    | (refine wpList_storeRow rfl _ _ 206 rfl w.heap.size 206 _ _ rfl rfl HR1.out infoBody rfl rfl ?_))
  exact bodyPost_ret (res_gb _ w.heap.size false _ _ (HR1.out.row _) rfl rfl rfl) rfl ⟨rfl, below_setRow HW1.out (Nat.le_refl _) _⟩
end Go.Proofs.YtlncjgnomhpjnaaGreatDoor

