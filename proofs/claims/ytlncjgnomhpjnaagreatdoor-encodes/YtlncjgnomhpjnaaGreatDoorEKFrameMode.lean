import Derived.Test.YtlncjgnomhpjnaaGreatDoorEJFrameHead
import Derived.Test.YtlncjgnomhpjnaaGreatDoorEKFramePair
import Derived.Deep.RegionHeld3
import Derived.Deep.DeepCutAuto
/-
  The mode with the fewest bits: frame.codePair, frame.shortestMode.
-/
namespace Go.Proofs.YtlncjgnomhpjnaaGreatDoor
open Go.RowKit Go.Deep
set_option linter.unusedVariables false

def pairV (r c : Nat) : Int := ([[0, 1], [0, 2], [2, 1], [3, 2]].getD r []).getD c 0
def PairsAt (w : World) : Prop := ∀ r c, r < 4 → c < 2 → w.cell? ⟨2, 2 * r + c, none⟩ = some (.int .i64 (pairV r c))
/-- the program's tables -/
structure TabsF (w : World) : Prop where
  tabs : Tabs w
  pairs : PairsAt w
  pairsLt : 2 < w.heap.size
theorem TabsF.below {w u : World} (h : TabsF w) (hb : Below w.heap.size w u) : TabsF u :=
  ⟨h.tabs.below hb, fun r c hr hc => (hb.cell (p := ⟨2, 2 * r + c, none⟩) h.pairsLt).trans (h.pairs r c hr hc), Nat.lt_of_lt_of_le h.pairsLt hb.size⟩

theorem cutV_ints {w : World} {B n : Nat} {f : Nat → Int} (h : w.rowIs B 3 n (cutV n f)) : IntsAt w (some ⟨B, 0, none⟩) n f := fun i hi => ⟨_, rfl, by
  have := h.cell (i := i) hi
  rw [addr_add, Nat.zero_add, this]
  simp [cutV, cutI, hi]⟩

theorem keep_blk {u u' : World} {b : Nat} {o : Obj} (h : Below u.heap.size u u') (hk : b < u.heap.size ∧ u.heap[b]? = some o) : b < u'.heap.size ∧ u'.heap[b]? = some o :=
  ⟨Nat.lt_of_lt_of_le hk.1 h.size, (h.block b hk.1).trans hk.2⟩

theorem sideWidth_any (d : Nat) (w : World) (hd : d ≤ 12) : Calls Tryz.prog 143 #[.int .i64 d] w fun e w' => e = .returned (.int .i64 ((d + 1 : Nat) : Int)) ∧ w' = w := by
  have wd : IntKind.i64.wrap ((d : Int) + 1) = ((d + 1 : Nat) : Int) := by rw [IntKind.wrap_i64]; omega
  go_enter Tryz.func143, Tryz.ntmps143
  go_wp2
  go_ret
  exact ⟨rfl, rfl⟩

theorem keep_al {u : World} {b o1 o2 : Nat} {v0 v1 : Value} {o : Obj} (hb : b < u.heap.size) (h : u.cell? ⟨b, o1, none⟩ = some v0 ∧ u.cell? ⟨b, o2, none⟩ = some v1) : (u.alloc o).cell? ⟨b, o1, none⟩ = some v0 ∧ (u.alloc o).cell? ⟨b, o2, none⟩ = some v1 := by
  have hB : Below u.heap.size u (u.alloc o) := (Below.refl _ _).alloc (Nat.le_refl _) _
  exact ⟨(hB.cell (p := ⟨b, o1, none⟩) hb).trans h.1, (hB.cell (p := ⟨b, o2, none⟩) hb).trans h.2⟩
theorem keep_st {u : World} {b g o1 o2 : Nat} {v0 v1 s0 s1 s2 s3 : Value} (hne : b ≠ g) (h : u.cell? ⟨b, o1, none⟩ = some v0 ∧ u.cell? ⟨b, o2, none⟩ = some v1) :
    ((((u.setCell ⟨g, 0, none⟩ s0).setCell ⟨g, 1, none⟩ s1).setCell ⟨g, 2, none⟩ s2).setCell ⟨g, 3, none⟩ s3).cell? ⟨b, o1, none⟩ = some v0 ∧ ((((u.setCell ⟨g, 0, none⟩ s0).setCell ⟨g, 1, none⟩ s1).setCell ⟨g, 2, none⟩ s2).setCell ⟨g, 3, none⟩ s3).cell? ⟨b, o2, none⟩ = some v1 := by
  have ne : ∀ {i j : Nat}, (⟨g, i, none⟩ : Addr) ≠ ⟨b, j, none⟩ := fun e => hne (by injection e with e1; exact e1.symm)
  have ne' : ∀ {i j : Nat}, (⟨b, j, none⟩ : Addr) ≠ ⟨g, i, none⟩ := fun e => hne (by injection e)
  constructor
  · first
      | rw [World.cell?_setCell_other _ _ _ _ ne, World.cell?_setCell_other _ _ _ _ ne, World.cell?_setCell_other _ _ _ _ ne, World.cell?_setCell_other _ _ _ _ ne]; exact h.1
      | rw [World.cell?_setCell_other _ _ _ _ ne', World.cell?_setCell_other _ _ _ _ ne', World.cell?_setCell_other _ _ _ _ ne', World.cell?_setCell_other _ _ _ _ ne']; exact h.1
  · first
      | rw [World.cell?_setCell_other _ _ _ _ ne, World.cell?_setCell_other _ _ _ _ ne, World.cell?_setCell_other _ _ _ _ ne, World.cell?_setCell_other _ _ _ _ ne]; exact h.2
      | rw [World.cell?_setCell_other _ _ _ _ ne', World.cell?_setCell_other _ _ _ _ ne', World.cell?_setCell_other _ _ _ _ ne', World.cell?_setCell_other _ _ _ _ ne']; exact h.2
theorem keep_alst {u : World} {b o1 o2 : Nat} {v0 v1 s0 s1 s2 s3 : Value} {o : Obj} (hb : b < u.heap.size) (h : u.cell? ⟨b, o1, none⟩ = some v0 ∧ u.cell? ⟨b, o2, none⟩ = some v1) :
    (((((u.alloc o).setCell ⟨u.heap.size, 0, none⟩ s0).setCell ⟨u.heap.size, 1, none⟩ s1).setCell ⟨u.heap.size, 2, none⟩ s2).setCell ⟨u.heap.size, 3, none⟩ s3).cell? ⟨b, o1, none⟩ = some v0 ∧ (((((u.alloc o).setCell ⟨u.heap.size, 0, none⟩ s0).setCell ⟨u.heap.size, 1, none⟩ s1).setCell ⟨u.heap.size, 2, none⟩ s2).setCell ⟨u.heap.size, 3, none⟩ s3).cell? ⟨b, o2, none⟩ = some v1 :=
  keep_st (Nat.ne_of_lt hb) (keep_al hb h)
theorem four_of_blk {u : World} {b : Nat} {s : Value} {T : TypeId} (h : u.heap[b]? = some (.cells #[s, s, s, s] T (0, 0))) :
    u.cell? ⟨b, 0, none⟩ = some s ∧ u.cell? ⟨b, 1, none⟩ = some s ∧ u.cell? ⟨b, 2, none⟩ = some s ∧ u.cell? ⟨b, 3, none⟩ = some s ∧ u.frozen? ⟨b, 0, none⟩ = false ∧ u.frozen? ⟨b, 1, none⟩ = false ∧ u.frozen? ⟨b, 2, none⟩ = false ∧ u.frozen? ⟨b, 3, none⟩ = false :=
  ⟨Lib.cell_of_heap h 0, Lib.cell_of_heap h 1, Lib.cell_of_heap h 2, Lib.cell_of_heap h 3, Lib.frozen_of_heap h 0, Lib.frozen_of_heap h 1, Lib.frozen_of_heap h 2, Lib.frozen_of_heap h 3⟩
theorem four_cells {u : World} {b : Nat} {o0 o1 o2 o3 : Value} (q0 : u.cell? ⟨b, 0, none⟩ = some o0) (q1 : u.cell? ⟨b, 1, none⟩ = some o1) (q2 : u.cell? ⟨b, 2, none⟩ = some o2) (q3 : u.cell? ⟨b, 3, none⟩ = some o3) (v0 v1 v2 v3 : Value) :
    ((((u.setCell ⟨b, 0, none⟩ v0).setCell ⟨b, 1, none⟩ v1).setCell ⟨b, 2, none⟩ v2).setCell ⟨b, 3, none⟩ v3).cell? ⟨b, 0, none⟩ = some v0 ∧
    ((((u.setCell ⟨b, 0, none⟩ v0).setCell ⟨b, 1, none⟩ v1).setCell ⟨b, 2, none⟩ v2).setCell ⟨b, 3, none⟩ v3).cell? ⟨b, 1, none⟩ = some v1 ∧
    ((((u.setCell ⟨b, 0, none⟩ v0).setCell ⟨b, 1, none⟩ v1).setCell ⟨b, 2, none⟩ v2).setCell ⟨b, 3, none⟩ v3).cell? ⟨b, 2, none⟩ = some v2 ∧
    ((((u.setCell ⟨b, 0, none⟩ v0).setCell ⟨b, 1, none⟩ v1).setCell ⟨b, 2, none⟩ v2).setCell ⟨b, 3, none⟩ v3).cell? ⟨b, 3, none⟩ = some v3 := by
  have ne : ∀ {i j : Nat}, i ≠ j → (⟨b, i, none⟩ : Addr) ≠ ⟨b, j, none⟩ := fun h e => h (by injection e)
  refine ⟨?_, ?_, ?_, ?_⟩
  · rw [World.cell?_setCell_other _ _ _ _ (ne (by decide)), World.cell?_setCell_other _ _ _ _ (ne (by decide)), World.cell?_setCell_other _ _ _ _ (ne (by decide)), World.cell?_setCell_same _ _ _ q0]
  · rw [World.cell?_setCell_other _ _ _ _ (ne (by decide)), World.cell?_setCell_other _ _ _ _ (ne (by decide)), World.cell?_setCell_same _ _ _ (by rw [World.cell?_setCell_other _ _ _ _ (ne (by decide))]; exact q1)]
  · rw [World.cell?_setCell_other _ _ _ _ (ne (by decide)), World.cell?_setCell_same _ _ _ (by rw [World.cell?_setCell_other _ _ _ _ (ne (by decide)), World.cell?_setCell_other _ _ _ _ (ne (by decide))]; exact q2)]
  · rw [World.cell?_setCell_same _ _ _ (by rw [World.cell?_setCell_other _ _ _ _ (ne (by decide)), World.cell?_setCell_other _ _ _ _ (ne (by decide)), World.cell?_setCell_other _ _ _ _ (ne (by decide))]; exact q3)]

set_option maxHeartbeats 1000000 in
theorem codePair_any (d : Nat) (a b : Option Addr) (n c c' : Nat) (l r : Nat → Int) (w : World) (hd1 : 1 ≤ d) (hd : d ≤ 12) (hn1 : 1 ≤ n) (hn : n ≤ 32) (hl : ∀ j, j < n → fitsB d (l j) = true) (hr : ∀ j, j < n → fitsB d (r j) = true) (hI : IntsAt w a n l) (hJ : IntsAt w b n r)
    (hlow : ∀ y, a = some y → 0 < n → y.block < w.heap.size) (hlow2 : ∀ y, b = some y → 0 < n → y.block < w.heap.size) (hT : Tabs w) :
    Calls Tryz.prog 104 #[.int .i64 d, .slice a n c, .slice b n c'] w fun e w' =>
      e = .returned (.agg #[.string (bs (subT d l n)), .string (bs (subT d r n)), .string (bs (subT (d + 1) (sideL l r) n)), .string (bs (subT d (midL l r) n))]) ∧ Below w.heap.size w w' := by
  have bl : ∀ j, j < n → -4096 ≤ l j ∧ l j ≤ 4096 := fun j hj => fits_bd (hl j hj) (by omega)
  have br : ∀ j, j < n → -4096 ≤ r j ∧ r j ≤ 4096 := fun j hj => fits_bd (hr j hj) (by omega)
  have lw : ∀ {x : Option Addr} {u : World}, (∀ y, x = some y → 0 < n → y.block < w.heap.size) → Below w.heap.size w u → (∀ y, x = some y → 0 < n → y.block < u.heap.size) := fun h hu y hy h0 => Nat.lt_of_lt_of_le (h y hy h0) hu.size
  have HL := Hid.mk' (fun (u : World) (hu : Below w.heap.size w u) => subCode_any a n c d l u hn1 hn hd1 (by omega) hl (hI.below hu hlow) (lw hlow hu) (hT.below hu))
  have HR := Hid.mk' (fun (u : World) (hu : Below w.heap.size w u) => subCode_any b n c' d r u hn1 hn hd1 (by omega) hr (hJ.below hu hlow2) (lw hlow2 hu) (hT.below hu))
  have HSO := Hid.mk' (fun (u : World) (hu : Below w.heap.size w u) => sideOf_any a b n c c' l r u hn bl br (hI.below hu hlow) (hJ.below hu hlow2) (lw hlow hu) (lw hlow2 hu))
  have HMO := Hid.mk' (fun (u : World) (hu : Below w.heap.size w u) => middleOf_any a b n c c' l r u hn bl br (hI.below hu hlow) (hJ.below hu hlow2) (lw hlow hu) (lw hlow2 hu))
  have HS := Hid.mk' (fun (u : World) (hu : Below w.heap.size w u) (g : Nat) (hg : u.rowIs g 3 n (cutV n (sideL l r))) => subCode_any (some ⟨g, 0, none⟩) n n (d + 1) (sideL l r) u hn1 hn (by omega) (by omega) (fun j hj => side_fits hd1 (hl j hj) (hr j hj)) (cutV_ints hg) (fun y hy _ => by cases hy; exact hg.lt) (hT.below hu))
  have HM := Hid.mk' (fun (u : World) (hu : Below w.heap.size w u) (g : Nat) (hg : u.rowIs g 3 n (cutV n (midL l r))) => subCode_any (some ⟨g, 0, none⟩) n n d (midL l r) u hn1 hn hd1 (by omega) (fun j hj => mid_fits (hl j hj) (hr j hj)) (cutV_ints hg) (fun y hy _ => by cases hy; exact hg.lt) (hT.below hu))
  clear hI hJ hlow hlow2 hT lw bl br hl hr
  generalize bs (subT d l n) = XL at *
  generalize bs (subT d r n) = XR at *
  generalize bs (subT (d + 1) (sideL l r) n) = XS at *
  generalize bs (subT d (midL l r) n) = XM at *
  have hb0 : Below w.heap.size w (w.alloc (.cells #[.string ⟨#[]⟩, .string ⟨#[]⟩, .string ⟨#[]⟩, .string ⟨#[]⟩] 137)) := (Below.refl _ _).alloc (Nat.le_refl _) _
  have HB0 := Hid.mk' hb0
  clear hb0
  have hk0 : w.heap.size < (w.alloc (.cells #[.string ⟨#[]⟩, .string ⟨#[]⟩, .string ⟨#[]⟩, .string ⟨#[]⟩] 137)).heap.size ∧ (w.alloc (.cells #[.string ⟨#[]⟩, .string ⟨#[]⟩, .string ⟨#[]⟩, .string ⟨#[]⟩] 137)).heap[w.heap.size]? = some (.cells #[.string ⟨#[]⟩, .string ⟨#[]⟩, .string ⟨#[]⟩, .string ⟨#[]⟩] 137 (0, 0)) := ⟨by simp, blk_alloc_new _ _⟩
  have HK0 := Hid.mk' hk0
  clear hk0
  have HW := Hid.mk' (fun u => sideWidth_any d u hd)
  go_enter Tryz.func104, Tryz.ntmps104
  go_wp2_with (first
    | (go_at_call 141; refine (HL.out _ ?_).mono ?_; exact HB0.out; rintro e u1 ⟨rfl, hb1⟩; have HK1 := Hid.mk' (keep_blk hb1 HK0.out); have HB1 := Hid.mk' (HB0.out.trans (hb1.mono HB0.out.size)); clear hb1 HL HB0 HK0)
    | (go_at_call 141; refine (HR.out _ ?_).mono ?_; exact HB1.out; rintro e u2 ⟨rfl, hb2⟩; have HK2 := Hid.mk' (keep_blk hb2 HK1.out); have HB2 := Hid.mk' (HB1.out.trans (hb2.mono HB1.out.size)); clear hb2 HR HB1 HK1)
    | (go_at_call 143; refine (HW.out _).mono ?_; rintro e w9 ⟨rfl, hw⟩; subst w9; clear HW)
    | (go_at_call 144; refine (HSO.out _ ?_).mono ?_; exact HB2.out; rintro e u3 ⟨rfl, hr3, hb3⟩; have HR3 := Hid.mk' hr3; have HK3 := Hid.mk' (keep_blk hb3 HK2.out); have HB3 := Hid.mk' (HB2.out.trans (hb3.mono HB2.out.size)); clear hb3 hr3 HSO HB2 HK2)
    | (go_at_call 141; refine (HS.out _ ?_ _ ?_).mono ?_; exact HB3.out; exact HR3.out; rintro e u4 ⟨rfl, hb4⟩; have HK4 := Hid.mk' (keep_blk hb4 HK3.out); have HB4 := Hid.mk' (HB3.out.trans (hb4.mono HB3.out.size)); clear hb4 HS HB3 HK3 HR3)
    | (go_at_call 145; refine (HMO.out _ ?_).mono ?_; exact HB4.out; rintro e u5 ⟨rfl, hr5, hb5⟩; have HR5 := Hid.mk' hr5; have HK5 := Hid.mk' (keep_blk hb5 HK4.out); have HB5 := Hid.mk' (HB4.out.trans (hb5.mono HB4.out.size)); clear hb5 hr5 HMO HB4 HK4)
    | (go_at_call 141; refine (HM.out _ ?_ _ ?_).mono ?_; exact HB5.out; exact HR5.out; rintro e u6 ⟨rfl, hb6⟩; have hk6 := keep_blk hb6 HK5.out; have q0 := Lib.cell_of_heap hk6.2 0; have q1 := Lib.cell_of_heap hk6.2 1; have q2 := Lib.cell_of_heap hk6.2 2; have q3 := Lib.cell_of_heap hk6.2 3; have z0 := Lib.frozen_of_heap hk6.2 0; have z1 := Lib.frozen_of_heap hk6.2 1; have z2 := Lib.frozen_of_heap hk6.2 2; have z3 := Lib.frozen_of_heap hk6.2 3; simp at q0 q1 q2 q3; have HB6 := Hid.mk' (HB5.out.trans (hb6.mono HB5.out.size)); clear hb6 HM HB5 HK5 HR5 hk6))
  have fc := four_cells q0 q1 q2 q3 (.string XL) (.string XR) (.string XS) (.string XM)
  refine bodyPost_ret (v := .agg #[.string XL, .string XR, .string XS, .string XM]) (by simp [results, Tryz.results104, go_sem, fc.1, fc.2.1, fc.2.2.1, fc.2.2.2]) rfl ?_
  exact ⟨rfl, (((HB6.out.setCell (Nat.le_refl _) _).setCell (Nat.le_refl _) _).setCell (Nat.le_refl _) _).setCell (Nat.le_refl _) _⟩

/-- the four pairs of texts -/
def pxF (XL XR XS XM : ByteArray) (k : Nat) : ByteArray := if k = 0 then XL ++ XR else if k = 1 then XL ++ XS else if k = 2 then XS ++ XR else XM ++ XS
theorem pairT_px (d : Nat) (l r : Nat → Int) (n k : Nat) : bs (pairT d l r n k) = pxF (bs (subT d l n)) (bs (subT d r n)) (bs (subT (d + 1) (sideL l r) n)) (bs (subT d (midL l r) n)) k := by
  unfold pairT pxF
  rw [bs_append, bs_append, bs_append, bs_append]
  split
  · rfl
  · split
    · rfl
    · split <;> rfl
theorem px0 (XL XR XS XM : ByteArray) : pxF XL XR XS XM 0 = XL ++ XR := by unfold pxF; rw [if_pos rfl]
theorem px1 (XL XR XS XM : ByteArray) : pxF XL XR XS XM 1 = XL ++ XS := by unfold pxF; rw [if_neg (by decide), if_pos rfl]
theorem px2 (XL XR XS XM : ByteArray) : pxF XL XR XS XM 2 = XS ++ XR := by unfold pxF; rw [if_neg (by decide), if_neg (by decide), if_pos rfl]
theorem px3 (XL XR XS XM : ByteArray) : pxF XL XR XS XM 3 = XM ++ XS := by unfold pxF; rw [if_neg (by decide), if_neg (by decide), if_neg (by decide)]
/-- the shortest one yet -/
def bestX (XL XR XS XM : ByteArray) (T : Nat → List UInt8) (m : Nat) : ByteArray := if m = 0 then ⟨#[]⟩ else pxF XL XR XS XM (bestM T m)
def CodesAt (w : World) (g : Nat) (XL XR XS XM : ByteArray) : Prop := g < w.heap.size ∧ w.cell? ⟨g, 0, none⟩ = some (.string XL) ∧ w.cell? ⟨g, 1, none⟩ = some (.string XR) ∧ w.cell? ⟨g, 2, none⟩ = some (.string XS) ∧ w.cell? ⟨g, 3, none⟩ = some (.string XM)
theorem CodesAt.alloc {w : World} {g : Nat} {XL XR XS XM : ByteArray} (h : CodesAt w g XL XR XS XM) (o : Obj) : CodesAt (w.alloc o) g XL XR XS XM := by
  have hB : Below w.heap.size w (w.alloc o) := (Below.refl _ _).alloc (Nat.le_refl _) _
  exact ⟨Nat.lt_of_lt_of_le h.1 hB.size, (hB.cell (p := ⟨g, 0, none⟩) h.1).trans h.2.1, (hB.cell (p := ⟨g, 1, none⟩) h.1).trans h.2.2.1, (hB.cell (p := ⟨g, 2, none⟩) h.1).trans h.2.2.2.1, (hB.cell (p := ⟨g, 3, none⟩) h.1).trans h.2.2.2.2⟩
theorem best_take {T : Nat → List UInt8} {m : Nat} (h : m = 0 ∨ (T m).length < (T (bestM T m)).length) : bestM T (m + 1) = m := by rw [bestM, if_pos h]
theorem best_keep {T : Nat → List UInt8} {m : Nat} (h : ¬ (m = 0 ∨ (T m).length < (T (bestM T m)).length)) : bestM T (m + 1) = bestM T m := by rw [bestM, if_neg h]

theorem bestX_pos {XL XR XS XM : ByteArray} {T : Nat → List UInt8} {m : Nat} (h : m ≠ 0) : bestX XL XR XS XM T m = pxF XL XR XS XM (bestM T m) := by unfold bestX; rw [if_neg h]
theorem px_size {XL XR XS XM : ByteArray} {T : Nat → List UInt8} (h : ∀ k, bs (T k) = pxF XL XR XS XM k) (k : Nat) : (pxF XL XR XS XM k).size = (T k).length := by rw [← h k, bs_size]
/-- one round: what it takes, what it keeps -/
theorem round_yes {XL XR XS XM P : ByteArray} {T : Nat → List UInt8} {m : Nat} (hm : m ≠ 0) (h : ∀ k, bs (T k) = pxF XL XR XS XM k) (hp : pxF XL XR XS XM m = P) (hl : P.size < (bestX XL XR XS XM T m).size) : bestX XL XR XS XM T (m + 1) = P ∧ bestM T (m + 1) = m := by
  rw [bestX_pos hm, px_size h, ← hp, px_size h] at hl
  have e := best_take (T := T) (m := m) (.inr hl)
  exact ⟨by rw [bestX_pos (by omega), e, hp], e⟩
theorem round_not {XL XR XS XM P : ByteArray} {T : Nat → List UInt8} {m : Nat} (hm : m ≠ 0) (h : ∀ k, bs (T k) = pxF XL XR XS XM k) (hp : pxF XL XR XS XM m = P) (hl : ¬ P.size < (bestX XL XR XS XM T m).size) : bestX XL XR XS XM T (m + 1) = bestX XL XR XS XM T m ∧ bestM T (m + 1) = bestM T m := by
  rw [bestX_pos hm, px_size h, ← hp, px_size h] at hl
  have e := best_keep (T := T) (m := m) (fun hh => hh.elim hm hl)
  exact ⟨by rw [bestX_pos (by omega), bestX_pos hm, e], e⟩
theorem bestX_le {XL XR XS XM : ByteArray} {T : Nat → List UInt8} {m : Nat} (hm : m ≠ 0) (h : ∀ k, bs (T k) = pxF XL XR XS XM k) (hb : ∀ k, 16 ≤ (T k).length ∧ (T k).length ≤ 848) : (bestX XL XR XS XM T m).size ≤ 848 := by
  rw [bestX_pos hm, px_size h]; exact (hb _).2
theorem index0 (u : World) : (Instr.index 140 (.agg #[.int .i64 0, .int .i64 1, .int .i64 0, .int .i64 2, .int .i64 2, .int .i64 1, .int .i64 3, .int .i64 2]) (.int .i64 0)).run Tryz.prog u = .ok (.agg #[.int .i64 0, .int .i64 1]) u := by kernel_rfl
theorem index1 (u : World) : (Instr.index 140 (.agg #[.int .i64 0, .int .i64 1, .int .i64 0, .int .i64 2, .int .i64 2, .int .i64 1, .int .i64 3, .int .i64 2]) (.int .i64 1)).run Tryz.prog u = .ok (.agg #[.int .i64 0, .int .i64 2]) u := by kernel_rfl
theorem index2 (u : World) : (Instr.index 140 (.agg #[.int .i64 0, .int .i64 1, .int .i64 0, .int .i64 2, .int .i64 2, .int .i64 1, .int .i64 3, .int .i64 2]) (.int .i64 2)).run Tryz.prog u = .ok (.agg #[.int .i64 2, .int .i64 1]) u := by kernel_rfl
theorem index3 (u : World) : (Instr.index 140 (.agg #[.int .i64 0, .int .i64 1, .int .i64 0, .int .i64 2, .int .i64 2, .int .i64 1, .int .i64 3, .int .i64 2]) (.int .i64 3)).run Tryz.prog u = .ok (.agg #[.int .i64 3, .int .i64 2]) u := by kernel_rfl

theorem keep2 {u u' : World} {b o1 o2 : Nat} {v0 v1 : Value} (hb : Below u.heap.size u u') (h : b < u.heap.size ∧ u.cell? ⟨b, o1, none⟩ = some v0 ∧ u.cell? ⟨b, o2, none⟩ = some v1) :
    b < u'.heap.size ∧ u'.cell? ⟨b, o1, none⟩ = some v0 ∧ u'.cell? ⟨b, o2, none⟩ = some v1 :=
  ⟨Nat.lt_of_lt_of_le h.1 hb.size, (hb.cell (p := ⟨b, o1, none⟩) h.1).trans h.2.1, (hb.cell (p := ⟨b, o2, none⟩) h.1).trans h.2.2⟩

set_option maxRecDepth 8000 in
set_option maxHeartbeats 1000000 in
theorem shortestMode_any (d : Nat) (a : Option Addr) (n cap : Nat) (A : Nat → Option Addr) (N : Nat) (C : Nat → Nat) (F : Nat → Nat → Int) (w : World) (hd1 : 1 ≤ d) (hd : d ≤ 12) (hn1 : 1 ≤ n) (hn4 : n ≤ 4) (hN1 : 1 ≤ N) (hN : N ≤ 32)
    (hf : ∀ i, i < n → ∀ j, j < N → fitsB d (F i j) = true) (hA : ListsAt w a n A (fun _ => N) C) (hI : ∀ i, i < n → IntsAt w (A i) N (F i)) (hlow : Low w.heap.size a n A (fun _ => N)) (hT : TabsF w) :
    Calls Tryz.prog 64 #[.int .i64 d, .slice a n cap] w fun e w' => e = .returned (.tuple #[.int .i64 (modeN d n F N), .string (bs (blockT d n F N))]) ∧ Below w.heap.size w w' := by
  by_cases h2 : n = 2
  · subst h2
    have HCP := Hid.mk' (fun (u : World) (hu : Below w.heap.size w u) => codePair_any d (A 0) (A 1) N (C 0) (C 1) (F 0) (F 1) u hd1 hd hN1 hN (hf 0 (by omega)) (hf 1 (by omega)) ((hI 0 (by omega)).below hu (hlow.2 0 (by omega))) ((hI 1 (by omega)).below hu (hlow.2 1 (by omega))) (fun y hy h0 => Nat.lt_of_lt_of_le (hlow.2 0 (by omega) y hy h0) hu.size) (fun y hy h0 => Nat.lt_of_lt_of_le (hlow.2 1 (by omega) y hy h0) hu.size) (hT.below hu).tabs)
    have HTF := Hid.mk' (fun (u : World) (hu : Below w.heap.size w u) => hT.below hu)
    obtain ⟨b, off, rfl, hcell⟩ := hA.open (by omega)
    have hc0 := hcell 0 (by omega)
    have hc1 := hcell 1 (by omega)
    have hbl : b < w.heap.size := hlow.1 _ rfl (by omega : 0 < 2)
    simp only [Nat.add_zero] at hc0
    have HCP2 := Hid.mk' (fun (u : World) (hu : Below w.heap.size w u) => (HCP.out u hu).mono fun e w' h => (⟨h.1, h.2, hu.trans (h.2.mono hu.size), ((hu.trans (h.2.mono hu.size)).cell (p := ⟨b, off, none⟩) hbl).trans hc0, ((hu.trans (h.2.mono hu.size)).cell (p := ⟨b, off + 1, none⟩) hbl).trans hc1⟩ :
      e = .returned (.agg #[.string (bs (subT d (F 0) N)), .string (bs (subT d (F 1) N)), .string (bs (subT (d + 1) (sideL (F 0) (F 1)) N)), .string (bs (subT d (midL (F 0) (F 1)) N))]) ∧ Below u.heap.size u w' ∧ Below w.heap.size w w' ∧ w'.cell? ⟨b, off, none⟩ = some (.slice (A 0) N (C 0)) ∧ w'.cell? ⟨b, off + 1, none⟩ = some (.slice (A 1) N (C 1))))
    clear HCP
    have p0 := hT.pairs 0 0 (by omega) (by omega)
    have p1 := hT.pairs 0 1 (by omega) (by omega)
    have p2 := hT.pairs 1 0 (by omega) (by omega)
    have p3 := hT.pairs 1 1 (by omega) (by omega)
    have p4 := hT.pairs 2 0 (by omega) (by omega)
    have p5 := hT.pairs 2 1 (by omega) (by omega)
    have p6 := hT.pairs 3 0 (by omega) (by omega)
    have p7 := hT.pairs 3 1 (by omega) (by omega)
    clear hf hA hI hlow hcell
    have HK0 : Hid (w.heap.size < (w.alloc (.cells #[.string ⟨#[]⟩, .string ⟨#[]⟩, .string ⟨#[]⟩, .string ⟨#[]⟩] 137)).drew.heap.size ∧ (w.alloc (.cells #[.string ⟨#[]⟩, .string ⟨#[]⟩, .string ⟨#[]⟩, .string ⟨#[]⟩] 137)).drew.heap[w.heap.size]? = some (.cells #[.string ⟨#[]⟩, .string ⟨#[]⟩, .string ⟨#[]⟩, .string ⟨#[]⟩] 137 (0, 0))) := ⟨by show w.heap.size < (w.alloc _).heap.size; simp, blk_alloc_new w _⟩
    have hS0 : w.drew.cell? ⟨b, off, none⟩ = some (.slice (A 0) N (C 0)) ∧ w.drew.cell? ⟨b, off + 1, none⟩ = some (.slice (A 1) N (C 1)) := ⟨hc0, hc1⟩
    have hSA : (w.alloc (.cells #[.string ⟨#[]⟩, .string ⟨#[]⟩, .string ⟨#[]⟩, .string ⟨#[]⟩] 137)).drew.cell? ⟨b, off, none⟩ = some (.slice (A 0) N (C 0)) ∧ (w.alloc (.cells #[.string ⟨#[]⟩, .string ⟨#[]⟩, .string ⟨#[]⟩, .string ⟨#[]⟩] 137)).drew.cell? ⟨b, off + 1, none⟩ = some (.slice (A 1) N (C 1)) := keep_al (u := w) hbl ⟨hc0, hc1⟩
    have HPX : Hid (∀ k, bs (pairT d (F 0) (F 1) N k) = pxF (bs (subT d (F 0) N)) (bs (subT d (F 1) N)) (bs (subT (d + 1) (sideL (F 0) (F 1)) N)) (bs (subT d (midL (F 0) (F 1)) N)) k) := fun k => pairT_px d (F 0) (F 1) N k
    have HPL : Hid (∀ k, 16 ≤ (pairT d (F 0) (F 1) N k).length ∧ (pairT d (F 0) (F 1) N k).length ≤ 848) := fun k => pairT_bd d (F 0) (F 1) N k hN1 hN hd
    have hmode : modeN d 2 F N = bestM (pairT d (F 0) (F 1) N) 4 := by unfold modeN; rw [if_pos rfl]
    have hblk : blockT d 2 F N = pairT d (F 0) (F 1) N (modeN d 2 F N) := by unfold blockT; rw [if_pos rfl]
    rw [hblk, hmode, HPX.out]
    clear hblk hmode
    generalize pairT d (F 0) (F 1) N = TT at *
    have zl : (bs (subT d (F 0) N)).size ≤ 424 := by rw [bs_size]; exact subT_le' d (F 0) N hN1 hN (by omega)
    have zr : (bs (subT d (F 1) N)).size ≤ 424 := by rw [bs_size]; exact subT_le' d (F 1) N hN1 hN (by omega)
    have zs : (bs (subT (d + 1) (sideL (F 0) (F 1)) N)).size ≤ 424 := by rw [bs_size]; exact subT_le' (d + 1) _ N hN1 hN (by omega)
    have zm : (bs (subT d (midL (F 0) (F 1)) N)).size ≤ 424 := by rw [bs_size]; exact subT_le' d _ N hN1 hN (by omega)
    generalize bs (subT d (F 0) N) = XL at *
    generalize bs (subT d (F 1) N) = XR at *
    generalize bs (subT (d + 1) (sideL (F 0) (F 1)) N) = XS at *
    generalize bs (subT d (midL (F 0) (F 1)) N) = XM at *
    go_enter Tryz.func64, Tryz.ntmps64
    go_wp2_with fail
    go_cut [6] (fun s6 wx => ∃ g : Nat, s6 = .pointer (some ⟨g, 0, none⟩) ∧ Hid (w.heap.size ≤ g ∧ g < wx.heap.size ∧ Below w.heap.size w wx ∧ wx.cell? ⟨g, 0, none⟩ = some (.string XL) ∧ wx.cell? ⟨g, 1, none⟩ = some (.string XR) ∧ wx.cell? ⟨g, 2, none⟩ = some (.string XS) ∧ wx.cell? ⟨g, 3, none⟩ = some (.string XM)))
    case first =>
      go_region_held3 (fun w' => w'.cell? ⟨b, off, none⟩ = some (.slice (A 0) N (C 0)) ∧ w'.cell? ⟨b, off + 1, none⟩ = some (.slice (A 1) N (C 1)))
        (first | with_reducible exact hS0 | with_reducible exact hSA | with_reducible exact hS1 | with_reducible exact keep_al (Nat.lt_of_lt_of_le hbl HB1.size) hS1 | with_reducible exact keep_st (Nat.ne_of_lt hbl) hS1 | with_reducible exact keep_alst (Nat.lt_of_lt_of_le hbl HB1.size) hS1)
        (first
        | (go_at_call 104; refine (HCP2.out _ ?_).mono ?_; (first | exact (Below.refl _ _).drew | exact ((Below.refl _ _).alloc (Nat.le_refl _) _).drew); rintro e u1 ⟨rfl, hb1, HB1, hS1⟩; (first | (guard_hyp hb1 : Below (w.alloc (.cells #[.string ⟨#[]⟩, .string ⟨#[]⟩, .string ⟨#[]⟩, .string ⟨#[]⟩] 137)).drew.heap.size (w.alloc (.cells #[.string ⟨#[]⟩, .string ⟨#[]⟩, .string ⟨#[]⟩, .string ⟨#[]⟩] 137)).drew u1; have hk6 := keep_blk hb1 HK0.out; obtain ⟨q0, q1, q2, q3, z0, z1, z2, z3⟩ := four_of_blk hk6.2; have HK6 := Hid.mk' hk6; clear hk6) | skip)))
      · go_wp2
        go_meet
        case rel => exact ⟨u1.heap.size, rfl, HB1.size, by simp, HB1.alloc HB1.size _, by simp, by simp, by simp, by simp⟩
      · go_wp2
        go_meet
        case rel => exact ⟨w.heap.size, rfl, Nat.le_refl _, by simp only [World.size_setCell]; exact HK6.out.1, (((HB1.setCell (p := ⟨w.heap.size, 0, none⟩) (Nat.le_refl _) _).setCell (p := ⟨w.heap.size, 1, none⟩) (Nat.le_refl _) _).setCell (p := ⟨w.heap.size, 2, none⟩) (Nat.le_refl _) _).setCell (p := ⟨w.heap.size, 3, none⟩) (Nat.le_refl _) _, four_cells q0 q1 q2 q3 _ _ _ _⟩
    case rest =>
      obtain ⟨g, rfl, HC⟩ := hcut
      have HTW := Hid.mk' (HTF.out wc HC.out.2.2.1)
      have e0 : wc.cell? ⟨2, 0, none⟩ = some (.int .i64 0) := HTW.out.pairs 0 0 (by omega) (by omega)
      have e1 : wc.cell? ⟨2, 1, none⟩ = some (.int .i64 1) := HTW.out.pairs 0 1 (by omega) (by omega)
      have e2 : wc.cell? ⟨2, 2, none⟩ = some (.int .i64 0) := HTW.out.pairs 1 0 (by omega) (by omega)
      have e3 : wc.cell? ⟨2, 3, none⟩ = some (.int .i64 2) := HTW.out.pairs 1 1 (by omega) (by omega)
      have e4 : wc.cell? ⟨2, 4, none⟩ = some (.int .i64 2) := HTW.out.pairs 2 0 (by omega) (by omega)
      have e5 : wc.cell? ⟨2, 5, none⟩ = some (.int .i64 1) := HTW.out.pairs 2 1 (by omega) (by omega)
      have e6 : wc.cell? ⟨2, 6, none⟩ = some (.int .i64 3) := HTW.out.pairs 3 0 (by omega) (by omega)
      have e7 : wc.cell? ⟨2, 7, none⟩ = some (.int .i64 2) := HTW.out.pairs 3 1 (by omega) (by omega)
      clear p0 p1 p2 p3 p4 p5 p6 p7 hS0 hSA HK0 HCP2
      go_wp2
      go_loopw [7, 8, 27] (fun bv tv iv wr => ∃ m : Nat, m ≤ 4 ∧ iv = .int .i64 m ∧ bv = .int .i64 (bestM TT m : Nat) ∧ tv = .string (bestX XL XR XS XM TT m) ∧ Hid (Below w.heap.size w wr ∧ CodesAt wr g XL XR XS XM)) (fun _ _ iv _ => 4 - (intOf iv).toNat)
      case atStart => exact ⟨0, by omega, rfl, rfl, rfl, HC.out.2.2.1, HC.out.2.1, HC.out.2.2.2⟩
      case round =>
        clear e0 e1 e2 e3 e4 e5 e6 e7 hc0 hc1
        obtain ⟨m, hm, rfl, rfl, rfl, HR⟩ := hrel
        match m, hm with
        | 0, _ =>
          obtain ⟨cg, k0, k1, k2, k3⟩ := HR.out.2
          have HB := Hid.mk' HR.out.1
          have HCA := Hid.mk' HR.out.2
          have HEX : Hid (bestX XL XR XS XM TT 1 = XL ++ XR ∧ bestM TT 1 = 0) := ⟨by rw [bestX_pos (by decide), best_take (.inl rfl), px0], best_take (.inl rfl)⟩
          generalize bestX XL XR XS XM TT 0 = BX at *
          generalize bestM TT 0 = bm at *
          have hix := index0
          go_wp2
          go_quiet ((fail))
          go_wp2
          go_roundw
          case rel => exact ⟨1, by omega, by go_num, by rw [HEX.out.2], by rw [HEX.out.1], below_drewN (HB.out.alloc HB.out.size _) _, HCA.out.alloc _⟩
          case measure => simp [intOf]
        | 1, _ =>
          obtain ⟨cg, k0, k1, k2, k3⟩ := HR.out.2
          have HB := Hid.mk' HR.out.1
          have HCA := Hid.mk' HR.out.2
          have hsz : (XL ++ XS).size = XL.size + XS.size := ByteArray.size_append
          have hbx := bestX_le (m := 1) (by decide) HPX.out HPL.out
          by_cases hlt : (XL ++ XS).size < (bestX XL XR XS XM TT 1).size
          · have HEX := Hid.mk' (round_yes (m := 1) (by decide) HPX.out (px1 XL XR XS XM) hlt)
            generalize bestX XL XR XS XM TT 1 = BX at *
            generalize bestM TT 1 = bm at *
            have tds : decide (((XL ++ XS).size : Int) < (BX.size : Int)) = true := decide_eq_true (Int.ofNat_lt.2 hlt)
            have tdt : decide ((XL.size : Int) + (XS.size : Int) < (BX.size : Int)) = true := decide_eq_true (by omega)
            clear hsz
            have hix := index1
            clear hlt
            go_wp2
            go_quiet ((fail))
            go_wp2
            go_roundw
            case rel => exact ⟨1 + 1, by omega, by go_num, by rw [HEX.out.2], by rw [HEX.out.1], below_drewN (HB.out.alloc HB.out.size _) _, HCA.out.alloc _⟩
            case measure => simp [intOf]
          · have HEX := Hid.mk' (round_not (m := 1) (by decide) HPX.out (px1 XL XR XS XM) hlt)
            generalize bestX XL XR XS XM TT 1 = BX at *
            generalize bestM TT 1 = bm at *
            have tds : decide (((XL ++ XS).size : Int) < (BX.size : Int)) = false := decide_eq_false (fun hh => hlt (Int.ofNat_lt.1 hh))
            have tdt : decide ((XL.size : Int) + (XS.size : Int) < (BX.size : Int)) = false := decide_eq_false (by omega)
            clear hsz
            have hix := index1
            clear hlt
            go_wp2
            go_quiet ((fail))
            go_wp2
            go_roundw
            case rel => exact ⟨1 + 1, by omega, by go_num, by rw [HEX.out.2], by rw [HEX.out.1], below_drewN (HB.out.alloc HB.out.size _) _, HCA.out.alloc _⟩
            case measure => simp [intOf]
        | 2, _ =>
          obtain ⟨cg, k0, k1, k2, k3⟩ := HR.out.2
          have HB := Hid.mk' HR.out.1
          have HCA := Hid.mk' HR.out.2
          have hsz : (XS ++ XR).size = XS.size + XR.size := ByteArray.size_append
          have hbx := bestX_le (m := 2) (by decide) HPX.out HPL.out
          by_cases hlt : (XS ++ XR).size < (bestX XL XR XS XM TT 2).size
          · have HEX := Hid.mk' (round_yes (m := 2) (by decide) HPX.out (px2 XL XR XS XM) hlt)
            generalize bestX XL XR XS XM TT 2 = BX at *
            generalize bestM TT 2 = bm at *
            have tds : decide (((XS ++ XR).size : Int) < (BX.size : Int)) = true := decide_eq_true (Int.ofNat_lt.2 hlt)
            have tdt : decide ((XS.size : Int) + (XR.size : Int) < (BX.size : Int)) = true := decide_eq_true (by omega)
            clear hsz
            have hix := index2
            clear hlt
            go_wp2
            go_quiet ((fail))
            go_wp2
            go_roundw
            case rel => exact ⟨2 + 1, by omega, by go_num, by rw [HEX.out.2], by rw [HEX.out.1], below_drewN (HB.out.alloc HB.out.size _) _, HCA.out.alloc _⟩
            case measure => simp [intOf]
          · have HEX := Hid.mk' (round_not (m := 2) (by decide) HPX.out (px2 XL XR XS XM) hlt)
            generalize bestX XL XR XS XM TT 2 = BX at *
            generalize bestM TT 2 = bm at *
            have tds : decide (((XS ++ XR).size : Int) < (BX.size : Int)) = false := decide_eq_false (fun hh => hlt (Int.ofNat_lt.1 hh))
            have tdt : decide ((XS.size : Int) + (XR.size : Int) < (BX.size : Int)) = false := decide_eq_false (by omega)
            clear hsz
            have hix := index2
            clear hlt
            go_wp2
            go_quiet ((fail))
            go_wp2
            go_roundw
            case rel => exact ⟨2 + 1, by omega, by go_num, by rw [HEX.out.2], by rw [HEX.out.1], below_drewN (HB.out.alloc HB.out.size _) _, HCA.out.alloc _⟩
            case measure => simp [intOf]
        | 3, _ =>
          obtain ⟨cg, k0, k1, k2, k3⟩ := HR.out.2
          have HB := Hid.mk' HR.out.1
          have HCA := Hid.mk' HR.out.2
          have hsz : (XM ++ XS).size = XM.size + XS.size := ByteArray.size_append
          have hbx := bestX_le (m := 3) (by decide) HPX.out HPL.out
          by_cases hlt : (XM ++ XS).size < (bestX XL XR XS XM TT 3).size
          · have HEX := Hid.mk' (round_yes (m := 3) (by decide) HPX.out (px3 XL XR XS XM) hlt)
            generalize bestX XL XR XS XM TT 3 = BX at *
            generalize bestM TT 3 = bm at *
            have tds : decide (((XM ++ XS).size : Int) < (BX.size : Int)) = true := decide_eq_true (Int.ofNat_lt.2 hlt)
            have tdt : decide ((XM.size : Int) + (XS.size : Int) < (BX.size : Int)) = true := decide_eq_true (by omega)
            clear hsz
            have hix := index3
            clear hlt
            go_wp2
            go_quiet ((fail))
            go_wp2
            go_roundw
            case rel => exact ⟨3 + 1, by omega, by go_num, by rw [HEX.out.2], by rw [HEX.out.1], below_drewN (HB.out.alloc HB.out.size _) _, HCA.out.alloc _⟩
            case measure => simp [intOf]
          · have HEX := Hid.mk' (round_not (m := 3) (by decide) HPX.out (px3 XL XR XS XM) hlt)
            generalize bestX XL XR XS XM TT 3 = BX at *
            generalize bestM TT 3 = bm at *
            have tds : decide (((XM ++ XS).size : Int) < (BX.size : Int)) = false := decide_eq_false (fun hh => hlt (Int.ofNat_lt.1 hh))
            have tdt : decide ((XM.size : Int) + (XS.size : Int) < (BX.size : Int)) = false := decide_eq_false (by omega)
            clear hsz
            have hix := index3
            clear hlt
            go_wp2
            go_quiet ((fail))
            go_wp2
            go_roundw
            case rel => exact ⟨3 + 1, by omega, by go_num, by rw [HEX.out.2], by rw [HEX.out.1], below_drewN (HB.out.alloc HB.out.size _) _, HCA.out.alloc _⟩
            case measure => simp [intOf]
        | 4, _ =>
          have HEX : Hid (bestX XL XR XS XM TT 4 = pxF XL XR XS XM (bestM TT 4)) := bestX_pos (by decide)
          go_wp2
          go_ret2
          refine ⟨?_, HR.out.1⟩
          show Ending.returned (.tuple #[.int .i64 (bestM TT 4 : Nat), .string (bestX XL XR XS XM TT 4)]) = _
          rw [HEX.out]
  · have e1 : modeN d n F N = 0 := by unfold modeN; rw [if_neg h2]
    have e2 : blockT d n F N = allT d F N n := by unfold blockT; rw [if_neg h2]
    have HCA := Hid.mk' (codeAll_any d a n cap A N C F w hd1 hd hn1 hn4 hN1 hN hf hA hI hlow hT.tabs)
    rw [e1, e2]
    have hne : ((n : Int) != 2) = true := by simp; omega
    clear hf hA hI hlow hT e1 e2 h2
    generalize bs (allT d F N n) = R at *
    go_enter Tryz.func64, Tryz.ntmps64
    go_wp2_with (go_at_call 103; refine HCA.out.mono ?_; rintro e u1 ⟨rfl, hb1⟩; have HB1 := Hid.mk' hb1; clear hb1 HCA)
    go_ret2
    exact ⟨rfl, HB1.out⟩
end Go.Proofs.YtlncjgnomhpjnaaGreatDoor

