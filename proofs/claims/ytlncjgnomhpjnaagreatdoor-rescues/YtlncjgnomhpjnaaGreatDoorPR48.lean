import Derived.Test.YtlncjgnomhpjnaaGreatDoorPR44
import Derived.Test.YtlncjgnomhpjnaaGreatDoorPR10
import Derived.Test.YtlncjgnomhpjnaaGreatDoorPR47
import Derived.Test.YtlncjgnomhpjnaaGreatDoorPR40
import Derived.Test.YtlncjgnomhpjnaaGreatDoorPR43
import Derived.Deep.RegionHeld3
/-
  The document's head of a text: reelref.headOf.
-/
namespace Go.Proofs.YtlncjgnomhpjnaaGreatDoor
open Go.RowKit Go.Deep
set_option linter.unusedVariables false
/-- what headOf gives -/
def HdR (e : Ending) (w w' : World) (T : List UInt8) : Prop :=
  ((HdP T ∧ ∃ a c, e = .returned (.tuple #[.agg (rhC (dCh T) (dDe T) (dBl T) (dRa T) (dSe T) (dSa T) (dWh T) (dLe T) (dMo T) (dSu T) (.slice a (dNp T) c)), .int .i64 (dSz T)]) ∧ w'.ownsRow w.heap.size 3 1 (.slice a (dNp T) c) (dNp T) (pntV (dPts T)))
   ∨ (¬ HdP T ∧ ∃ (f c0 c1 c2 c3 c4 s le mo su : Int) (a : Option Addr) (n c : Nat), e = .returned (.tuple #[.agg (rhC c0 c1 c2 c3 c4 s f le mo su (.slice a n c)), .int .i64 0]))) ∧ Below w.heap.size w w'
theorem Bx.drew2 {u : World} {q : Nat} {t : TypeId} {cs : Array Value} (h : Bx u q t cs) : Bx u.drew q t cs := h
theorem infoRHd11 : (Tryz.prog.info? 123).map (·.size) = some 11 := by kernel_rfl
theorem res_hof (tmps : Array Value) (R : Nat) (k : Int) (cs : Array Value) (W : World) (h : Bx W R 123 cs) (hs : cs.size = 11) (h2 : tmps.getD 2 undef = .pointer (some ⟨R, 0, none⟩)) (h3 : tmps.getD 3 undef = .int .i64 k) :
    (results Tryz.f93 tmps).run Tryz.prog W = .ok (.tuple #[.agg cs, .int .i64 k]) W := by
  have hl := run_loadVar_row (P := Tryz.prog) W R 123 123 cs (0, 0) _ h Tryz.underlying123 rfl (by rw [hs]; exact infoRHd11)
  rw [Array.getD_eq_getD_getElem?] at h2 h3
  simp [results, Tryz.results93, asAddr, h2, h3, hl]
set_option maxRecDepth 4000 in
set_option maxHeartbeats 2000000 in
theorem headOf_short (T : List UInt8) (w : World) (h : T.length < 22) : Calls Tryz.prog 93 #[.string (bs T)] w fun e w' => HdR e w w' T := by
  have hz : (bs T).size = T.length := bs_size T
  have HN : Hid (¬ HdP T) := fun hp => by have := hp.1; omega
  generalize bs T = SB at *
  go_enter Tryz.func93, Tryz.ntmps93
  go_wp2_with fail
  exact bodyPost_ret (res_hof _ w.heap.size 0 _ _ ((Bx.new _ _ _).alloc _) rfl rfl rfl) rfl ⟨.inr ⟨HN.out, 0, 0, 0, 0, 0, 0, 0, 0, 0, 0, none, 0, 0, rfl⟩, ((Below.refl _ _).alloc (Nat.le_refl _) _).alloc (by simp) _⟩
/-- the first points of a head, and what they are together -/
def ptK (T : List UInt8) (k : Nat) : List Nat := (List.range k).map fun k => fld T (20 + 2 * k) (22 + 2 * k)
theorem ptK_snoc (T : List UInt8) (k : Nat) : ptK T (k + 1) = ptK T k ++ [fld T (20 + 2 * k) (22 + 2 * k)] := by
  unfold ptK
  rw [List.range_succ, List.map_append]; rfl
theorem ptK_all (T : List UInt8) : ptK T (dNp T) = dPts T := rfl
def sumP (T : List UInt8) : Nat → Nat
  | 0 => 0
  | k + 1 => sumP T k + fld T (20 + 2 * k) (22 + 2 * k)
theorem sumP_le (T : List UInt8) : ∀ k, 20 + 2 * k ≤ T.length → sumP T k ≤ 65535 * k
  | 0, _ => Nat.zero_le _
  | k + 1, h => by
    have ih := sumP_le T k (by omega)
    have := fld_lt T (20 + 2 * k) (22 + 2 * k) (by omega) (by omega)
    rw [show 22 + 2 * k - (20 + 2 * k) = 2 by omega] at this
    show sumP T k + fld T (20 + 2 * k) (22 + 2 * k) ≤ _
    omega
theorem sumP_zero (T : List UInt8) : ∀ k, sumP T k = 0 ↔ ∀ p ∈ ptK T k, p = 0
  | 0 => by simp [sumP, ptK]
  | k + 1 => by
    rw [ptK_snoc]
    show sumP T k + fld T (20 + 2 * k) (22 + 2 * k) = 0 ↔ _
    rw [Nat.add_eq_zero_iff, sumP_zero T k]
    constructor
    · rintro ⟨h1, h2⟩ p hp
      rcases List.mem_append.1 hp with h | h
      · exact h1 p h
      · simp at h; rw [h]; exact h2
    · intro hp
      exact ⟨fun p h => hp p (List.mem_append.2 (.inl h)), hp _ (List.mem_append.2 (.inr (by simp)))⟩
/-- what lies in memory while points are read -/
structure HofI (T : List UInt8) (w wr : World) (pv : Value) (k : Nat) : Prop where
  z : Bx wr w.heap.size 123 #[.int .i64 0, .int .i64 0, .int .i64 0, .int .i64 0, .int .i64 0, .int .i64 0, .int .i64 0, .int .i64 0, .int .i64 0, .int .i64 0, .slice none 0 0]
  hd : Bx wr (w.heap.size + 1) 123 (rhC (dCh T) (dDe T) (dBl T) (dRa T) (dSe T) (dSa T) (dWh T) (dLe T) (dMo T) (dSu T) pv)
  own : wr.ownsRow (w.heap.size + 1 + 1) 3 1 pv k (pntV (ptK T k))
  below : Below w.heap.size w wr
  size : w.heap.size + 1 + 1 ≤ wr.heap.size
theorem HofI.ne {T : List UInt8} {w wr : World} {pv : Value} {k : Nat} (h : HofI T w wr pv k) : ∀ j, j < w.heap.size + 1 + 1 → pv.ownBlock ≠ some j := fun j hj e => by have := (h.own.lt j e).1; omega
theorem HofI.point {T : List UInt8} {w wr u : World} {pv : Value} {k g cap : Nat} {x : Value} (h : HofI T w wr pv k)
    (ho : u.ownsRow (w.heap.size + 1 + 1) 3 1 (.slice (some ⟨g, 0, none⟩) (k + 1) cap) (k + 1) (pntV (ptK T k) ++ [x])) (hg : wr.grownBy u pv.ownBlock) :
    Bx (u.setCell ⟨w.heap.size + 1, 10, none⟩ (.slice (some ⟨g, 0, none⟩) (k + 1) cap)) w.heap.size 123 #[.int .i64 0, .int .i64 0, .int .i64 0, .int .i64 0, .int .i64 0, .int .i64 0, .int .i64 0, .int .i64 0, .int .i64 0, .int .i64 0, .slice none 0 0] ∧ Bx (u.setCell ⟨w.heap.size + 1, 10, none⟩ (.slice (some ⟨g, 0, none⟩) (k + 1) cap)) (w.heap.size + 1) 123 (rhC (dCh T) (dDe T) (dBl T) (dRa T) (dSe T) (dSa T) (dWh T) (dLe T) (dMo T) (dSu T) (.slice (some ⟨g, 0, none⟩) (k + 1) cap)) ∧
      (u.setCell ⟨w.heap.size + 1, 10, none⟩ (.slice (some ⟨g, 0, none⟩) (k + 1) cap)).ownsRow (w.heap.size + 1 + 1) 3 1 (.slice (some ⟨g, 0, none⟩) (k + 1) cap) (k + 1) (pntV (ptK T k) ++ [x]) ∧ Below w.heap.size w (u.setCell ⟨w.heap.size + 1, 10, none⟩ (.slice (some ⟨g, 0, none⟩) (k + 1) cap)) ∧ w.heap.size + 1 + 1 ≤ (u.setCell ⟨w.heap.size + 1, 10, none⟩ (.slice (some ⟨g, 0, none⟩) (k + 1) cap)).heap.size :=
  have hs := h.size
  have hd : Bx u (w.heap.size + 1) 123 _ := h.hd.of (hg.block _ (by omega) (fun e => h.ne _ (by omega) e.symm))
  have hg2 := grown_set u ⟨w.heap.size + 1, 10, none⟩ (.slice (some ⟨g, 0, none⟩) (k + 1) cap)
  have hgl := (ho.lt g rfl).1
  ⟨(h.z.of (hg.block _ (by omega) (fun e => h.ne w.heap.size (by omega) e.symm))).of (hg2.block _ (by have := hg.size; omega) (by simp)), hd.rh10 _, ho.kept hg2 (.inr (by simp [Value.ownBlock]; omega)), (h.below.grown hg h.below.size (fun j hj => by have := (h.own.lt j hj).1; omega)).setCell (p := ⟨w.heap.size + 1, 10, none⟩) (by show w.heap.size ≤ w.heap.size + 1; omega) _, by have := hg.size; have := hg2.size; omega⟩
theorem HofI.yes {T : List UInt8} {w wr u : World} {pa : Option Addr} {pc : Nat} (h : HofI T w wr (.slice pa (dNp T) pc) (dNp T)) (hp : HdP T) (hb : Below wr.heap.size wr u) (cs : Array Value) (hcs : cs = rhC (dCh T) (dDe T) (dBl T) (dRa T) (dSe T) (dSa T) (dWh T) (dLe T) (dMo T) (dSu T) (.slice pa (dNp T) pc)) (k : Int) (hk : k = ((dSz T : Nat) : Int)) :
    HdR (.returned (.tuple #[.agg cs, .int .i64 k])) w (u.setRow w.heap.size cs) T := by
  subst hcs hk
  have ho := h.own
  rw [ptK_all] at ho
  exact ⟨.inl ⟨hp, pa, pc, rfl, owns_mono ((ho.kept (grownAll hb _) (Classical.em _)).kept (grown_row u w.heap.size _) (.inr (fun e => by have := (ho.lt _ e).1; omega))) (by omega)⟩, below_row (h.below.trans (hb.mono h.below.size)) (Nat.le_refl _) _⟩
theorem HofI.no {T : List UInt8} {w wr u : World} {pa : Option Addr} {n pc : Nat} {pv : Value} {k : Nat} (h : HofI T w wr pv k) (hp : ¬ HdP T) (hb : Below wr.heap.size wr u) (cs : Array Value) (hcs : cs = rhC (dCh T) (dDe T) (dBl T) (dRa T) (dSe T) (dSa T) (dWh T) (dLe T) (dMo T) (dSu T) (.slice pa n pc)) :
    HdR (.returned (.tuple #[.agg cs, .int .i64 0])) w (u.setRow w.heap.size cs) T := by
  subst hcs
  exact ⟨.inr ⟨hp, _, _, _, _, _, _, _, _, _, _, _, _, _, rfl⟩, below_row (h.below.trans (hb.mono h.below.size)) (Nat.le_refl _) _⟩
set_option maxRecDepth 4000 in
set_option maxHeartbeats 20000000 in
theorem headOf_long (T : List UInt8) (w : World) (h : 22 ≤ T.length) (h2 : T.length ≤ 9000) : Calls Tryz.prog 93 #[.string (bs T)] w fun e w' => HdR e w w' T := by
  have hz : (bs T).size = T.length := bs_size T
  have hd2 : decide ((T.length : Int) < 22) = false := decide_eq_false (by omega)
  have V2 : Hid (∀ u, Calls Tryz.prog 124 #[.string (bs (pieceT T 2 3))] u fun e w' => e = .returned (.int .i64 (dWh T)) ∧ w' = u) := fun u => high_any (pieceT T 2 3) u (by rw [pieceT_length _ _ _ (by omega) (by omega)]; omega)
  have V3 : Hid (∀ u, Calls Tryz.prog 124 #[.string (bs (pieceT T 3 4))] u fun e w' => e = .returned (.int .i64 (dCh T)) ∧ w' = u) := fun u => high_any (pieceT T 3 4) u (by rw [pieceT_length _ _ _ (by omega) (by omega)]; omega)
  have V4 : Hid (∀ u, Calls Tryz.prog 124 #[.string (bs (pieceT T 4 5))] u fun e w' => e = .returned (.int .i64 (dDe T)) ∧ w' = u) := fun u => high_any (pieceT T 4 5) u (by rw [pieceT_length _ _ _ (by omega) (by omega)]; omega)
  have V5 : Hid (∀ u, Calls Tryz.prog 124 #[.string (bs (pieceT T 5 6))] u fun e w' => e = .returned (.int .i64 (dBl T)) ∧ w' = u) := fun u => high_any (pieceT T 5 6) u (by rw [pieceT_length _ _ _ (by omega) (by omega)]; omega)
  have V6 : Hid (∀ u, Calls Tryz.prog 124 #[.string (bs (pieceT T 6 8))] u fun e w' => e = .returned (.int .i64 (dRa T)) ∧ w' = u) := fun u => high_any (pieceT T 6 8) u (by rw [pieceT_length _ _ _ (by omega) (by omega)]; omega)
  have V10 : Hid (∀ u, Calls Tryz.prog 124 #[.string (bs (pieceT T 10 11))] u fun e w' => e = .returned (.int .i64 (dSe T)) ∧ w' = u) := fun u => high_any (pieceT T 10 11) u (by rw [pieceT_length _ _ _ (by omega) (by omega)]; omega)
  have V8 : Hid (∀ u, Calls Tryz.prog 124 #[.string (bs (pieceT T 8 10))] u fun e w' => e = .returned (.int .i64 (dSa T)) ∧ w' = u) := fun u => high_any (pieceT T 8 10) u (by rw [pieceT_length _ _ _ (by omega) (by omega)]; omega)
  have V11 : Hid (∀ u, Calls Tryz.prog 124 #[.string (bs (pieceT T 11 13))] u fun e w' => e = .returned (.int .i64 (dLe T)) ∧ w' = u) := fun u => high_any (pieceT T 11 13) u (by rw [pieceT_length _ _ _ (by omega) (by omega)]; omega)
  have V13 : Hid (∀ u, Calls Tryz.prog 124 #[.string (bs (pieceT T 13 15))] u fun e w' => e = .returned (.int .i64 (dMo T)) ∧ w' = u) := fun u => high_any (pieceT T 13 15) u (by rw [pieceT_length _ _ _ (by omega) (by omega)]; omega)
  have V15 : Hid (∀ u, Calls Tryz.prog 124 #[.string (bs (pieceT T 15 19))] u fun e w' => e = .returned (.int .i64 (dSu T)) ∧ w' = u) := fun u => high_any (pieceT T 15 19) u (by rw [pieceT_length _ _ _ (by omega) (by omega)]; omega)
  have x2_3 : (bs T).extract 2 3 = bs (pieceT T 2 3) := bs_cut T 2 3
  have x3_4 : (bs T).extract 3 4 = bs (pieceT T 3 4) := bs_cut T 3 4
  have x4_5 : (bs T).extract 4 5 = bs (pieceT T 4 5) := bs_cut T 4 5
  have x5_6 : (bs T).extract 5 6 = bs (pieceT T 5 6) := bs_cut T 5 6
  have x6_8 : (bs T).extract 6 8 = bs (pieceT T 6 8) := bs_cut T 6 8
  have x10_11 : (bs T).extract 10 11 = bs (pieceT T 10 11) := bs_cut T 10 11
  have x8_10 : (bs T).extract 8 10 = bs (pieceT T 8 10) := bs_cut T 8 10
  have x11_13 : (bs T).extract 11 13 = bs (pieceT T 11 13) := bs_cut T 11 13
  have x13_15 : (bs T).extract 13 15 = bs (pieceT T 13 15) := bs_cut T 13 15
  have x15_19 : (bs T).extract 15 19 = bs (pieceT T 15 19) := bs_cut T 15 19
  have n3 : 3 ≤ T.length := by omega
  have i3 : (3 : Int) ≤ (T.length : Int) := by omega
  have n4 : 4 ≤ T.length := by omega
  have i4 : (4 : Int) ≤ (T.length : Int) := by omega
  have n5 : 5 ≤ T.length := by omega
  have i5 : (5 : Int) ≤ (T.length : Int) := by omega
  have n6 : 6 ≤ T.length := by omega
  have i6 : (6 : Int) ≤ (T.length : Int) := by omega
  have n8 : 8 ≤ T.length := by omega
  have i8 : (8 : Int) ≤ (T.length : Int) := by omega
  have n10 : 10 ≤ T.length := by omega
  have i10 : (10 : Int) ≤ (T.length : Int) := by omega
  have n11 : 11 ≤ T.length := by omega
  have i11 : (11 : Int) ≤ (T.length : Int) := by omega
  have n13 : 13 ≤ T.length := by omega
  have i13 : (13 : Int) ≤ (T.length : Int) := by omega
  have n15 : 15 ≤ T.length := by omega
  have i15 : (15 : Int) ≤ (T.length : Int) := by omega
  have n19 : 19 ≤ T.length := by omega
  have i19 : (19 : Int) ≤ (T.length : Int) := by omega
  generalize bs (pieceT T 2 3) = P2 at *
  generalize bs (pieceT T 3 4) = P3 at *
  generalize bs (pieceT T 4 5) = P4 at *
  generalize bs (pieceT T 5 6) = P5 at *
  generalize bs (pieceT T 6 8) = P6 at *
  generalize bs (pieceT T 10 11) = P10 at *
  generalize bs (pieceT T 8 10) = P8 at *
  generalize bs (pieceT T 11 13) = P11 at *
  generalize bs (pieceT T 13 15) = P13 at *
  generalize bs (pieceT T 15 19) = P15 at *
  have HXT : Hid (∀ a b, (bs T).extract a b = bs (pieceT T a b)) := fun a b => bs_cut T a b
  generalize bs T = SB at *
  have HCF := Hid.mk' (fun u => rconfig_any (dCh T) (dDe T) (dBl T) (dRa T) (dSe T) (dSa T) u)
  have HRT := Hid.mk' (fun u => right_any (dCh T) (dDe T) (dBl T) (dRa T) (dSe T) 1 1 1 u)
  have HPT0 := Hid.mk' (fun (h1 : 1 ≤ dBl T) (h2 : dBl T ≤ 100000) (h3 : dSa T ≤ 300) (h4 : dSe T ≤ 100000) u => rpoints_any (dCh T) (dDe T) (dRa T) (dBl T) (dSa T) (dSe T) u h1 h2 h3 h4)
  go_enter Tryz.func93, Tryz.ntmps93
  go_wp2_with (first
      | (go_at_call 124; refine (V2.out _).mono ?_; rintro e u2 ⟨rfl, hw⟩; subst u2; clear V2)
      | (go_at_call 124; refine (V3.out _).mono ?_; rintro e u2 ⟨rfl, hw⟩; subst u2; clear V3)
      | (go_at_call 124; refine (V4.out _).mono ?_; rintro e u2 ⟨rfl, hw⟩; subst u2; clear V4)
      | (go_at_call 124; refine (V5.out _).mono ?_; rintro e u2 ⟨rfl, hw⟩; subst u2; clear V5)
      | (go_at_call 124; refine (V6.out _).mono ?_; rintro e u2 ⟨rfl, hw⟩; subst u2; clear V6)
      | (go_at_call 124; refine (V10.out _).mono ?_; rintro e u2 ⟨rfl, hw⟩; subst u2; clear V10)
      | (go_at_call 124; refine (V8.out _).mono ?_; rintro e u2 ⟨rfl, hw⟩; subst u2; clear V8)
      | (go_at_call 124; refine (V11.out _).mono ?_; rintro e u2 ⟨rfl, hw⟩; subst u2; clear V11)
      | (go_at_call 124; refine (V13.out _).mono ?_; rintro e u2 ⟨rfl, hw⟩; subst u2; clear V13)
      | (go_at_call 124; refine (V15.out _).mono ?_; rintro e u2 ⟨rfl, hw⟩; subst u2; clear V15))
  go_region_held3 (fun w' => True) (trivial) (first
      | (go_at_call 124; refine (V2.out _).mono ?_; rintro e u2 ⟨rfl, hw⟩; subst u2; clear V2)
      | (go_at_call 124; refine (V3.out _).mono ?_; rintro e u2 ⟨rfl, hw⟩; subst u2; clear V3)
      | (go_at_call 124; refine (V4.out _).mono ?_; rintro e u2 ⟨rfl, hw⟩; subst u2; clear V4)
      | (go_at_call 124; refine (V5.out _).mono ?_; rintro e u2 ⟨rfl, hw⟩; subst u2; clear V5)
      | (go_at_call 124; refine (V6.out _).mono ?_; rintro e u2 ⟨rfl, hw⟩; subst u2; clear V6)
      | (go_at_call 124; refine (V10.out _).mono ?_; rintro e u2 ⟨rfl, hw⟩; subst u2; clear V10)
      | (go_at_call 124; refine (V8.out _).mono ?_; rintro e u2 ⟨rfl, hw⟩; subst u2; clear V8)
      | (go_at_call 124; refine (V11.out _).mono ?_; rintro e u2 ⟨rfl, hw⟩; subst u2; clear V11)
      | (go_at_call 124; refine (V13.out _).mono ?_; rintro e u2 ⟨rfl, hw⟩; subst u2; clear V13)
      | (go_at_call 124; refine (V15.out _).mono ?_; rintro e u2 ⟨rfl, hw⟩; subst u2; clear V15))
  go_wp2_with (first
      | (go_at_call 124; refine (V2.out _).mono ?_; rintro e u2 ⟨rfl, hw⟩; subst u2; clear V2)
      | (go_at_call 124; refine (V3.out _).mono ?_; rintro e u2 ⟨rfl, hw⟩; subst u2; clear V3)
      | (go_at_call 124; refine (V4.out _).mono ?_; rintro e u2 ⟨rfl, hw⟩; subst u2; clear V4)
      | (go_at_call 124; refine (V5.out _).mono ?_; rintro e u2 ⟨rfl, hw⟩; subst u2; clear V5)
      | (go_at_call 124; refine (V6.out _).mono ?_; rintro e u2 ⟨rfl, hw⟩; subst u2; clear V6)
      | (go_at_call 124; refine (V10.out _).mono ?_; rintro e u2 ⟨rfl, hw⟩; subst u2; clear V10)
      | (go_at_call 124; refine (V8.out _).mono ?_; rintro e u2 ⟨rfl, hw⟩; subst u2; clear V8)
      | (go_at_call 124; refine (V11.out _).mono ?_; rintro e u2 ⟨rfl, hw⟩; subst u2; clear V11)
      | (go_at_call 124; refine (V13.out _).mono ?_; rintro e u2 ⟨rfl, hw⟩; subst u2; clear V13)
      | (go_at_call 124; refine (V15.out _).mono ?_; rintro e u2 ⟨rfl, hw⟩; subst u2; clear V15))
  have HZ0 : Hid (Bx (((w.alloc (.cells #[.int .i64 0, .int .i64 0, .int .i64 0, .int .i64 0, .int .i64 0, .int .i64 0, .int .i64 0, .int .i64 0, .int .i64 0, .int .i64 0, .slice none 0 0] 123)).alloc (.cells #[.int .i64 (dWh T), .int .i64 (dCh T), .int .i64 (dDe T), .int .i64 (dBl T), .int .i64 (dRa T), .int .i64 (dSe T), .int .i64 (dSa T), .int .i64 (dLe T), .int .i64 (dMo T), .int .i64 (dSu T), .slice none 0 0] 123)).drew) w.heap.size 123 #[.int .i64 0, .int .i64 0, .int .i64 0, .int .i64 0, .int .i64 0, .int .i64 0, .int .i64 0, .int .i64 0, .int .i64 0, .int .i64 0, .slice none 0 0]) := ((Bx.new _ _ _).alloc _).drew2
  have HH0 : Hid (Bx (((w.alloc (.cells #[.int .i64 0, .int .i64 0, .int .i64 0, .int .i64 0, .int .i64 0, .int .i64 0, .int .i64 0, .int .i64 0, .int .i64 0, .int .i64 0, .slice none 0 0] 123)).alloc (.cells #[.int .i64 (dWh T), .int .i64 (dCh T), .int .i64 (dDe T), .int .i64 (dBl T), .int .i64 (dRa T), .int .i64 (dSe T), .int .i64 (dSa T), .int .i64 (dLe T), .int .i64 (dMo T), .int .i64 (dSu T), .slice none 0 0] 123)).drew) (w.heap.size + 1) 123 #[.int .i64 (dWh T), .int .i64 (dCh T), .int .i64 (dDe T), .int .i64 (dBl T), .int .i64 (dRa T), .int .i64 (dSe T), .int .i64 (dSa T), .int .i64 (dLe T), .int .i64 (dMo T), .int .i64 (dSu T), .slice none 0 0]) := (Bx.new2 (by simp) _ _).drew2
  have HB0 : Hid (Below w.heap.size w (((w.alloc (.cells #[.int .i64 0, .int .i64 0, .int .i64 0, .int .i64 0, .int .i64 0, .int .i64 0, .int .i64 0, .int .i64 0, .int .i64 0, .int .i64 0, .slice none 0 0] 123)).alloc (.cells #[.int .i64 (dWh T), .int .i64 (dCh T), .int .i64 (dDe T), .int .i64 (dBl T), .int .i64 (dRa T), .int .i64 (dSe T), .int .i64 (dSa T), .int .i64 (dLe T), .int .i64 (dMo T), .int .i64 (dSu T), .slice none 0 0] 123)).drew)) := (((Below.refl _ _).alloc (Nat.le_refl _) _).alloc (by simp) _).drew
  generalize ((w.alloc (.cells #[.int .i64 0, .int .i64 0, .int .i64 0, .int .i64 0, .int .i64 0, .int .i64 0, .int .i64 0, .int .i64 0, .int .i64 0, .int .i64 0, .slice none 0 0] 123)).alloc (.cells #[.int .i64 (dWh T), .int .i64 (dCh T), .int .i64 (dDe T), .int .i64 (dBl T), .int .i64 (dRa T), .int .i64 (dSe T), .int .i64 (dSa T), .int .i64 (dLe T), .int .i64 (dMo T), .int .i64 (dSu T), .slice none 0 0] 123)).drew = W0 at *
  by_cases hr : rightB (dCh T) (dDe T) (dBl T) (dRa T) (dSe T) 1 1 1 = true
  · have HRB := Hid.mk' hr
    have hrr := hr
    simp only [rightB, Bool.and_eq_true, within_iff] at hrr
    by_cases hsa : dSa T ≤ 300
    · have ds : decide ((300 : Int) < (dSa T : Int)) = false := decide_eq_false (by omega)
      by_cases hwh : dWh T ≤ 1
      · have dw : decide ((1 : Int) < (dWh T : Int)) = false := decide_eq_false (by omega)
        have HPT := Hid.mk' (fun u => HPT0.out (by omega) (by omega) hsa (by omega) u)
        rw [show nPts (dSa T) (dBl T) (dSe T) = dNp T from rfl] at HPT
        have hNP : dNp T ≤ 300 := by
          unfold dNp nPts
          split
          · omega
          · have h1 := nBlk_le (S := dSa T) (B := dBl T) (by omega)
            have h2 := nBlk_le (S := nBlk (dSa T) (dBl T)) (B := dSe T) (by omega)
            omega
        obtain ⟨d2, hd2e⟩ : ∃ d, d = 2 * dNp T := ⟨_, rfl⟩
        obtain ⟨sz, hsz⟩ : ∃ d, d = dSz T := ⟨_, rfl⟩
        have hsz1 : sz = 22 + 2 * dNp T := hsz
        have w1 : IntKind.i64.wrap (2 * (dNp T : Int)) = (d2 : Int) := by rw [IntKind.wrap_i64]; omega
        have w2 : IntKind.i64.wrap (22 + (d2 : Int)) = (sz : Int) := by rw [IntKind.wrap_i64]; omega
        have HSZ := Hid.mk' hsz
        have HSZ1 := Hid.mk' hsz1
        by_cases hlen : T.length < sz
        · have HNO : Hid (¬ HdP T) := fun hp => by have := hp.2.2.2.1; omega
          have dl : (T.length : Int) < (sz : Int) := by omega
          clear hrr hr hsz hsz1 hd2e
          go_wp2_with (first
            | (go_at_call 138; refine (HCF.out _).mono ?_; rintro e u1 ⟨rfl, hb⟩; have HZ1 := Hid.mk' (HZ0.out.below hb); have HH1 := Hid.mk' (HH0.out.below hb); have HB1 := Hid.mk' (HB0.out.trans (hb.mono HB0.out.size)); clear HCF hb HZ0 HH0 HB0)
            | (go_at_call 69; refine (HRT.out _).mono ?_; rintro e u2 ⟨he, hb⟩; have he := he.true_of HRB.out; subst he; have HZ2 := Hid.mk' ((HZ1.out.alloc _).below hb); have HH2 := Hid.mk' ((HH1.out.alloc _).below hb); have HB2 := Hid.mk' ((HB1.out.alloc HB1.out.size _).trans (hb.mono (HB1.out.alloc HB1.out.size _).size)); have f0 := HH2.out.cell 0; have f1 := HH2.out.cell 1; have f2 := HH2.out.cell 2; have f3 := HH2.out.cell 3; have f4 := HH2.out.cell 4; have f5 := HH2.out.cell 5; have f6 := HH2.out.cell 6; have f7 := HH2.out.cell 7; have f8 := HH2.out.cell 8; have f9 := HH2.out.cell 9; clear HRT hb HZ1 HH1 HB1)
            | (go_at_call 139; refine (HPT.out _).mono ?_; rintro e u3 ⟨rfl, hb⟩; have HZ3 := Hid.mk' (HZ2.out.below hb); have HH3 := Hid.mk' (HH2.out.below hb); have HB3 := Hid.mk' (HB2.out.trans (hb.mono HB2.out.size)); have g7 := HH3.out.cell 7; have g8 := HH3.out.cell 8; have g9 := HH3.out.cell 9; clear HPT hb HZ2 HH2 HB2 f0 f1 f2 f3 f4 f5 f6 f7 f8 f9)
            | (refine wpList_loadRow rfl _ 123 rfl (w.heap.size + 1) 123 _ (0, 0) _ rfl HH3.out Tryz.underlying123 rfl infoRHd11 ?_)
            | (refine wpList_storeRow rfl _ _ 123 rfl w.heap.size 123 _ _ rfl rfl HZ3.out infoRHd11 rfl rfl ?_))
          exact bodyPost_ret (res_hof _ w.heap.size 0 _ _ (HZ3.out.row _) rfl rfl rfl) rfl ⟨.inr ⟨HNO.out, dWh T, dCh T, dDe T, dBl T, dRa T, dSe T, dSa T, dLe T, dMo T, dSu T, none, 0, 0, rfl⟩, below_row HB3.out (Nat.le_refl _) _⟩
        · have dl : decide ((T.length : Int) < (sz : Int)) = false := decide_eq_false (by omega)
          have HRI : Hid (infoB (dCh T) (dDe T) (dBl T) (dRa T) (dSe T) (dSa T) = true) := by
            show _ = _
            simp only [infoB, Bool.and_eq_true, within_iff]
            omega
          obtain ⟨a1, ha1⟩ : ∃ d, d = dLe T + dMo T := ⟨_, rfl⟩
          obtain ⟨a2, ha2⟩ : ∃ d, d = dLe T + dMo T + dSu T := ⟨_, rfl⟩
          have hle : dLe T < 65536 := fld_lt T 11 13 (by omega) (by omega)
          have hmo : dMo T < 65536 := fld_lt T 13 15 (by omega) (by omega)
          have hsu : dSu T < 4294967296 := fld_lt T 15 19 (by omega) (by omega)
          have w3 : IntKind.i64.wrap ((dLe T : Int) + (dMo T : Int)) = (a1 : Int) := by rw [IntKind.wrap_i64]; omega
          have w4 : IntKind.i64.wrap ((a1 : Int) + (dSu T : Int)) = (a2 : Int) := by rw [IntKind.wrap_i64]; omega
          have HA2 := Hid.mk' ha2
          have HHL := Hid.mk' (And.intro hle (And.intro hmo hsu))
          clear hrr hr hsz hsz1 hd2e ha1 ha2
          go_wp2_with (first
            | (go_at_call 138; refine (HCF.out _).mono ?_; rintro e u1 ⟨rfl, hb⟩; have HZ1 := Hid.mk' (HZ0.out.below hb); have HH1 := Hid.mk' (HH0.out.below hb); have HB1 := Hid.mk' (HB0.out.trans (hb.mono HB0.out.size)); clear HCF hb HZ0 HH0 HB0)
            | (go_at_call 69; refine (HRT.out _).mono ?_; rintro e u2 ⟨he, hb⟩; have he := he.true_of HRB.out; subst he; have HZ2 := Hid.mk' ((HZ1.out.alloc _).below hb); have HH2 := Hid.mk' ((HH1.out.alloc _).below hb); have HB2 := Hid.mk' ((HB1.out.alloc HB1.out.size _).trans (hb.mono (HB1.out.alloc HB1.out.size _).size)); have f0 := HH2.out.cell 0; have f1 := HH2.out.cell 1; have f2 := HH2.out.cell 2; have f3 := HH2.out.cell 3; have f4 := HH2.out.cell 4; have f5 := HH2.out.cell 5; have f6 := HH2.out.cell 6; have f7 := HH2.out.cell 7; have f8 := HH2.out.cell 8; have f9 := HH2.out.cell 9; clear HRT hb HZ1 HH1 HB1)
            | (go_at_call 139; refine (HPT.out _).mono ?_; rintro e u3 ⟨rfl, hb⟩; have HZ3 := Hid.mk' (HZ2.out.below hb); have HH3 := Hid.mk' (HH2.out.below hb); have HB3 := Hid.mk' (HB2.out.trans (hb.mono HB2.out.size)); have g7 := HH3.out.cell 7; have g8 := HH3.out.cell 8; have g9 := HH3.out.cell 9; clear HPT hb HZ2 HH2 HB2 f0 f1 f2 f3 f4 f5 f6 f7 f8 f9))
          have HST : Hid (HofI T w u3 (.slice none 0 0) 0) := ⟨HZ3.out, HH3.out, World.ownsRow_nil _ _ _ _, HB3.out, by have := HH3.out.lt; omega⟩
          clear HZ3 HH3 HB3 g7 g8 g9 HPT0
          go_loopw [8, 9, 10] (fun av kv _ wr => ∃ (k tot : Nat) (pv : Value), k ≤ dNp T ∧ kv = .int .i64 k ∧ av = .int .i64 tot ∧ Hid (tot = a2 + sumP T k) ∧ Hid (HofI T w wr pv k)) (fun _ kv _ _ => dNp T - (intOf kv).toNat)
          case atStart => exact ⟨0, a2, .slice none 0 0, Nat.zero_le _, rfl, rfl, rfl, HST.out⟩
          case round =>
            clear HST
            obtain ⟨k, tot, pv, hk, rfl, rfl, HTOT, HR⟩ := hrel
            by_cases hlt : k < dNp T
            · have hs1 := HSZ1.out
              have hsp := sumP_le T k (by omega)
              obtain ⟨t2, ht2⟩ : ∃ d, d = 2 * k := ⟨_, rfl⟩
              obtain ⟨pa, hpa⟩ : ∃ d, d = 20 + 2 * k := ⟨_, rfl⟩
              obtain ⟨pb, hpb⟩ : ∃ d, d = 22 + 2 * k := ⟨_, rfl⟩
              have v1 : IntKind.i64.wrap (2 * (k : Int)) = (t2 : Int) := by rw [IntKind.wrap_i64]; omega
              have v2 : IntKind.i64.wrap (20 + (t2 : Int)) = (pa : Int) := by rw [IntKind.wrap_i64]; omega
              have v3 : IntKind.i64.wrap (22 + (t2 : Int)) = (pb : Int) := by rw [IntKind.wrap_i64]; omega
              have j0 : (pa : Int) ≤ (pb : Int) := by omega
              have j1 : (pb : Int) ≤ (T.length : Int) := by omega
              have j2 : pa ≤ pb := by omega
              have j3 : pb ≤ T.length := by omega
              have j4 : (0 : Int) ≤ (pa : Int) := by omega
              have hex := HXT.out pa pb
              have hfl : fld T pa pb < 65536 := by have := fld_lt T pa pb j2 j3; rw [show pb - pa = 2 by omega] at this; exact this
              have HHI : Hid (∀ u, Calls Tryz.prog 124 #[.string (bs (pieceT T pa pb))] u fun e w' => e = .returned (.int .i64 (fld T pa pb)) ∧ w' = u) := fun u => high_any (pieceT T pa pb) u (by rw [pieceT_length _ _ _ j3 j2]; omega)
              have HSN : Hid (sumP T (k + 1) = sumP T k + fld T pa pb) := by show _ = _; rw [hpa, hpb]; rfl
              have HPN : Hid (ptK T (k + 1) = ptK T k ++ [fld T pa pb]) := by show _ = _; rw [hpa, hpb]; exact ptK_snoc T k
              have htot := HTOT.out
              have HA2B : Hid (a2 < 4294967296 + 131072) := by have := HHL.out; have := HA2.out; show _ < _; omega
              have htb : tot < 5000000000 := by have := HA2B.out; omega
              clear htot hpa hpb ht2 hsp hs1
              generalize bs (pieceT T pa pb) = PK at *
              generalize fld T pa pb = q at *
              have v4 : IntKind.i64.wrap ((tot : Int) + (q : Int)) = (((tot + q : Nat)) : Int) := by rw [IntKind.wrap_i64]; omega
              obtain ⟨tq, htq⟩ : ∃ d, d = tot + q := ⟨_, rfl⟩
              rw [← htq] at v4
              have HTQ := Hid.mk' htq
              clear htq
              obtain ⟨g', c', u', hru, ho, hg⟩ := app_row 29 3 (.int .i64 0) 8 Tryz.underlying29 infoInt rfl _ _ pv _ _ #[.int .i64 (q : Int)] HR.out.own (by simp) (by intro u hu; simp at hu; rw [hu]; rfl) (by simp only [maxLen]; simp; omega) (by simp; omega) HR.out.size 29
              have HN : Hid (HofI T w (u'.setCell ⟨w.heap.size + 1, 10, none⟩ (.slice (some ⟨g', 0, none⟩) (k + 1) c')) (.slice (some ⟨g', 0, none⟩) (k + 1) c') (k + 1)) := by
                have h1 := HR.out.point ho hg
                rw [← pntV_snoc, ← HPN.out] at h1
                exact ⟨h1.1, h1.2.1, h1.2.2.1, h1.2.2.2.1, h1.2.2.2.2⟩
              obtain ⟨-, -, x10, -, -, -⟩ := HR.out.hd.rcells
              have hd' := HR.out.hd.of (hg.block _ (by have := HR.out.size; omega) (fun e => HR.out.ne _ (by omega) e.symm))
              obtain ⟨-, -, y10, -, -, z10⟩ := hd'.rcells
              have HAP : Hid (_ = _) := hru
              clear hru ho hg hd'
              go_wp2_with (first
                | (go_at_call 124; refine (HHI.out _).mono ?_; rintro e u2 ⟨rfl, hw⟩; subst u2; clear HHI)
                | (at_builtin; refine wpList_append_rn rfl _ _ _ rfl _ _ _ rfl rfl HAP.out ?_; clear HAP))
              go_roundw
              case rel => exact ⟨k + 1, tq, _, by omega, by go_num, rfl, by have h1 := HTQ.out; have h2 := HTOT.out; have h3 := HSN.out; show _ = _; omega, HN.out⟩
              case measure => simp [intOf]; omega
            · have e : k = dNp T := by omega
              subst e
              obtain ⟨pa, pc, rfl⟩ := own_form HR.out.own
              have HOW := Hid.mk' HR.out.own
              have hs1 := HSZ1.out
              have HPL : Hid ((dPts T).length = dNp T) := dPts_length T
              have HTX : Hid (Calls Tryz.prog 97 #[.agg (rhC (dCh T) (dDe T) (dBl T) (dRa T) (dSe T) (dSa T) (dWh T) (dLe T) (dMo T) (dSu T) (.slice pa (dNp T) pc))] wr fun e w' => e = .returned (.string (bs (dTx T))) ∧ Below wr.heap.size wr w') := by
                have hin := HRI.out
                simp only [infoB, Bool.and_eq_true, within_iff] at hin
                have h3 := HHL.out
                have ho : wr.ownsRow (w.heap.size + 1 + 1) 3 1 (.slice pa (dNp T) pc) (dPts T).length (pntV (dPts T)) := by rw [HPL.out]; exact HOW.out
                obtain ⟨a, cap, e, hI, hlow⟩ := pnts_open ho
                injection e with e1 e2 e3
                subst e1 e3
                have := textW_any (dWh T) (dCh T) (dDe T) (dBl T) (dRa T) (dSa T) (dSe T) (dLe T) (dMo T) (dSu T) (dPts T) pa pc wr (by omega) (by omega) (by omega) (by omega) (by omega) (by omega) (by omega) h3.1 h3.2.1 h3.2.2 (by rw [HPL.out]; exact hNP) (fun p hp => by
                  unfold dPts at hp
                  obtain ⟨k, hk, rfl⟩ := List.mem_map.1 hp
                  have hk := List.mem_range.1 hk
                  have := fld_lt T (20 + 2 * k) (22 + 2 * k) (by omega) (by omega)
                  rw [show 22 + 2 * k - (20 + 2 * k) = 2 by omega] at this
                  omega) hI hlow
                rw [HPL.out] at this
                exact this
              unfold rhC at HTX
              have hTz : (bs (dTx T)).size = sz := by
                rw [bs_size]
                unfold dTx
                rw [headTx_length, HPL.out, hs1]
              have c4 : (sz : Int) ≤ (T.length : Int) := by omega
              have c5 : sz ≤ T.length := by omega
              have eS : SB.extract 0 sz = bs (T.take sz) := by rw [HXT.out]; unfold pieceT; rw [List.drop_zero, Nat.sub_zero]
              have HYES : Hid (dTx T = T.take sz → (dWh T = 0 → dLe T = 0 ∧ dMo T = 0 ∧ dSu T = 0 ∧ ∀ p ∈ dPts T, p = 0) → HdP T) := fun h3 h4 => ⟨h, hwh, HRI.out, by rw [← HSZ.out]; omega, by rw [← HSZ.out]; exact h3, h4⟩
              have HALL : Hid (tot = 0 ↔ dLe T = 0 ∧ dMo T = 0 ∧ dSu T = 0 ∧ ∀ p ∈ dPts T, p = 0) := by
                have h1 := HTOT.out
                have h2 := HA2.out
                have h3 := sumP_zero T (dNp T)
                rw [ptK_all] at h3
                show _ ↔ _
                rw [← h3]
                omega
              have HZW := Hid.mk' HR.out.z
              have HHW := Hid.mk' HR.out.hd
              unfold rhC at HHW
              have HBW := Hid.mk' HR.out.below
              have HYF := Hid.mk' (fun (hp : HdP T) (u : World) (hb : Below wr.heap.size wr u) => HR.out.yes hp hb #[.int .i64 (dWh T), .int .i64 (dCh T), .int .i64 (dDe T), .int .i64 (dBl T), .int .i64 (dRa T), .int .i64 (dSe T), .int .i64 (dSa T), .int .i64 (dLe T), .int .i64 (dMo T), .int .i64 (dSu T), .slice pa (dNp T) pc] rfl (sz : Int) (by rw [HSZ.out]))
              have HNF := Hid.mk' (fun (hp : ¬ HdP T) (u : World) (hb : Below wr.heap.size wr u) => HR.out.no (pa := pa) (n := dNp T) (pc := pc) hp hb #[.int .i64 (dWh T), .int .i64 (dCh T), .int .i64 (dDe T), .int .i64 (dBl T), .int .i64 (dRa T), .int .i64 (dSe T), .int .i64 (dSa T), .int .i64 (dLe T), .int .i64 (dMo T), .int .i64 (dSu T), .slice pa (dNp T) pc] rfl)
              clear HR HTOT HRI hs1 hsa HXT
              by_cases hx : dTx T = T.take sz
              · rw [hx] at HTX hTz
                generalize bs (T.take sz) = SS at *
                by_cases hw0 : dWh T = 0
                · by_cases ht : tot = 0
                  · have HP := Hid.mk' (HYES.out hx (fun _ => HALL.out.1 ht))
                    have k0 : ((dWh T : Int) == 0) = true := by simp; omega
                    have k0' : decide ((dWh T : Int) = 0) = true := decide_eq_true (by omega)
                    have k0'' : decide (dWh T = 0) = true := decide_eq_true hw0
                    have k1 : decide ((0 : Int) < (tot : Int)) = false := decide_eq_false (by omega)
                    have k2 : ¬ 0 < tot := by omega
                    have k3 : decide (0 < tot) = false := decide_eq_false k2
                    clear hx hw0 ht
                    go_wp2_with (first
                      | (refine wpList_loadRow rfl _ 123 rfl (w.heap.size + 1) 123 _ (0, 0) _ rfl HHW.out Tryz.underlying123 rfl infoRHd11 ?_)
                      | (go_at_call 97; refine HTX.out.mono ?_; rintro e u4 ⟨rfl, hb⟩; have HBX := Hid.mk' hb; have HZ4 := Hid.mk' (HZW.out.below hb); have HH4 := Hid.mk' (HHW.out.below hb); have HB4 := Hid.mk' (HBW.out.trans (hb.mono HBW.out.size)); have m0 := HH4.out.cell 0; clear HTX hb HHW HZW HBW)
                      | (refine wpList_loadRow rfl _ 123 rfl (w.heap.size + 1) 123 _ (0, 0) _ rfl HH4.out Tryz.underlying123 rfl infoRHd11 ?_)
                      | (refine wpList_storeRow rfl _ _ 123 rfl w.heap.size 123 _ _ rfl rfl HZ4.out infoRHd11 rfl rfl ?_))
                    exact bodyPost_ret (res_hof _ w.heap.size sz #[.int .i64 (dWh T), .int .i64 (dCh T), .int .i64 (dDe T), .int .i64 (dBl T), .int .i64 (dRa T), .int .i64 (dSe T), .int .i64 (dSa T), .int .i64 (dLe T), .int .i64 (dMo T), .int .i64 (dSu T), .slice pa (dNp T) pc] _ (HZ4.out.row _) rfl rfl rfl) rfl (HYF.out HP.out _ HBX.out)
                  · have HNO : Hid (¬ HdP T) := fun hp => ht (HALL.out.2 (hp.2.2.2.2.2 hw0))
                    have k0 : ((dWh T : Int) == 0) = true := by simp; omega
                    have k0' : decide ((dWh T : Int) = 0) = true := decide_eq_true (by omega)
                    have k0'' : decide (dWh T = 0) = true := decide_eq_true hw0
                    have k1 : (0 : Int) < (tot : Int) := by omega
                    have k2 : 0 < tot := by omega
                    clear hx hw0 ht
                    go_wp2_with (first
                      | (refine wpList_loadRow rfl _ 123 rfl (w.heap.size + 1) 123 _ (0, 0) _ rfl HHW.out Tryz.underlying123 rfl infoRHd11 ?_)
                      | (go_at_call 97; refine HTX.out.mono ?_; rintro e u4 ⟨rfl, hb⟩; have HBX := Hid.mk' hb; have HZ4 := Hid.mk' (HZW.out.below hb); have HH4 := Hid.mk' (HHW.out.below hb); have HB4 := Hid.mk' (HBW.out.trans (hb.mono HBW.out.size)); have m0 := HH4.out.cell 0; clear HTX hb HHW HZW HBW)
                      | (refine wpList_loadRow rfl _ 123 rfl (w.heap.size + 1) 123 _ (0, 0) _ rfl HH4.out Tryz.underlying123 rfl infoRHd11 ?_)
                      | (refine wpList_storeRow rfl _ _ 123 rfl w.heap.size 123 _ _ rfl rfl HZ4.out infoRHd11 rfl rfl ?_))
                    exact bodyPost_ret (res_hof _ w.heap.size 0 #[.int .i64 (dWh T), .int .i64 (dCh T), .int .i64 (dDe T), .int .i64 (dBl T), .int .i64 (dRa T), .int .i64 (dSe T), .int .i64 (dSa T), .int .i64 (dLe T), .int .i64 (dMo T), .int .i64 (dSu T), .slice pa (dNp T) pc] _ (HZ4.out.row _) rfl rfl rfl) rfl (HNF.out HNO.out _ HBX.out)
                · have HP := Hid.mk' (HYES.out hx (fun h => absurd h hw0))
                  have k0 : ((dWh T : Int) == 0) = false := by simp; omega
                  have k1 : ¬ (dWh T : Int) = 0 := by omega
                  clear hx hw0
                  go_wp2_with (first
                    | (refine wpList_loadRow rfl _ 123 rfl (w.heap.size + 1) 123 _ (0, 0) _ rfl HHW.out Tryz.underlying123 rfl infoRHd11 ?_)
                    | (go_at_call 97; refine HTX.out.mono ?_; rintro e u4 ⟨rfl, hb⟩; have HBX := Hid.mk' hb; have HZ4 := Hid.mk' (HZW.out.below hb); have HH4 := Hid.mk' (HHW.out.below hb); have HB4 := Hid.mk' (HBW.out.trans (hb.mono HBW.out.size)); have m0 := HH4.out.cell 0; clear HTX hb HHW HZW HBW)
                    | (refine wpList_loadRow rfl _ 123 rfl (w.heap.size + 1) 123 _ (0, 0) _ rfl HH4.out Tryz.underlying123 rfl infoRHd11 ?_)
                    | (refine wpList_storeRow rfl _ _ 123 rfl w.heap.size 123 _ _ rfl rfl HZ4.out infoRHd11 rfl rfl ?_))
                  exact bodyPost_ret (res_hof _ w.heap.size sz #[.int .i64 (dWh T), .int .i64 (dCh T), .int .i64 (dDe T), .int .i64 (dBl T), .int .i64 (dRa T), .int .i64 (dSe T), .int .i64 (dSa T), .int .i64 (dLe T), .int .i64 (dMo T), .int .i64 (dSu T), .slice pa (dNp T) pc] _ (HZ4.out.row _) rfl rfl rfl) rfl (HYF.out HP.out _ HBX.out)
              · have HNO : Hid (¬ HdP T) := fun hp => hx (by rw [HSZ.out]; exact hp.2.2.2.2.1)
                have hb1 : ¬ bs (dTx T) = bs (T.take sz) := fun e => hx (bs_inj e)
                have hb2 : ((bs (dTx T)).toList == (bs (T.take sz)).toList) = false := Bool.eq_false_iff.2 fun h => hb1 ((str_beq _ _).1 h)
                generalize bs (T.take sz) = SS at *
                generalize bs (dTx T) = TX at *
                have HB2X : Hid (¬ TX.toList = SS.toList) := fun h => by rw [h] at hb2; simp at hb2
                clear hx hb1 hb2
                go_wp2_with (first
                  | (refine wpList_loadRow rfl _ 123 rfl (w.heap.size + 1) 123 _ (0, 0) _ rfl HHW.out Tryz.underlying123 rfl infoRHd11 ?_)
                  | (go_at_call 97; refine HTX.out.mono ?_; rintro e u4 ⟨rfl, hb⟩; have HBX := Hid.mk' hb; have HZ4 := Hid.mk' (HZW.out.below hb); have HH4 := Hid.mk' (HHW.out.below hb); have HB4 := Hid.mk' (HBW.out.trans (hb.mono HBW.out.size)); have m0 := HH4.out.cell 0; have hb2 := HB2X.out; clear HTX hb HHW HZW HBW)
                  | (refine wpList_loadRow rfl _ 123 rfl (w.heap.size + 1) 123 _ (0, 0) _ rfl HH4.out Tryz.underlying123 rfl infoRHd11 ?_)
                  | (refine wpList_storeRow rfl _ _ 123 rfl w.heap.size 123 _ _ rfl rfl HZ4.out infoRHd11 rfl rfl ?_))
                exact bodyPost_ret (res_hof _ w.heap.size 0 #[.int .i64 (dWh T), .int .i64 (dCh T), .int .i64 (dDe T), .int .i64 (dBl T), .int .i64 (dRa T), .int .i64 (dSe T), .int .i64 (dSa T), .int .i64 (dLe T), .int .i64 (dMo T), .int .i64 (dSu T), .slice pa (dNp T) pc] _ (HZ4.out.row _) rfl rfl rfl) rfl (HNF.out HNO.out _ HBX.out)
      · have dw : (1 : Int) < (dWh T : Int) := by omega
        have HNO : Hid (¬ HdP T) := fun hp => hwh hp.2.1
        clear hrr hr hwh
        go_wp2_with (first
          | (go_at_call 138; refine (HCF.out _).mono ?_; rintro e u1 ⟨rfl, hb⟩; have HZ1 := Hid.mk' (HZ0.out.below hb); have HH1 := Hid.mk' (HH0.out.below hb); have HB1 := Hid.mk' (HB0.out.trans (hb.mono HB0.out.size)); clear HCF hb HZ0 HH0 HB0)
          | (go_at_call 69; refine (HRT.out _).mono ?_; rintro e u2 ⟨he, hb⟩; have he := he.true_of HRB.out; subst he; have HZ2 := Hid.mk' ((HZ1.out.alloc _).below hb); have HH2 := Hid.mk' ((HH1.out.alloc _).below hb); have HB2 := Hid.mk' ((HB1.out.alloc HB1.out.size _).trans (hb.mono (HB1.out.alloc HB1.out.size _).size)); have f0 := HH2.out.cell 0; have f1 := HH2.out.cell 1; have f2 := HH2.out.cell 2; have f3 := HH2.out.cell 3; have f4 := HH2.out.cell 4; have f5 := HH2.out.cell 5; have f6 := HH2.out.cell 6; have f7 := HH2.out.cell 7; have f8 := HH2.out.cell 8; have f9 := HH2.out.cell 9; clear HRT hb HZ1 HH1 HB1)
          | (refine wpList_loadRow rfl _ 123 rfl (w.heap.size + 1) 123 _ (0, 0) _ rfl HH2.out Tryz.underlying123 rfl infoRHd11 ?_)
          | (refine wpList_storeRow rfl _ _ 123 rfl w.heap.size 123 _ _ rfl rfl HZ2.out infoRHd11 rfl rfl ?_))
        exact bodyPost_ret (res_hof _ w.heap.size 0 _ _ (HZ2.out.row _) rfl rfl rfl) rfl ⟨.inr ⟨HNO.out, dWh T, dCh T, dDe T, dBl T, dRa T, dSe T, dSa T, dLe T, dMo T, dSu T, none, 0, 0, rfl⟩, below_row HB2.out (Nat.le_refl _) _⟩
    · have ds : (300 : Int) < (dSa T : Int) := by omega
      have HNO : Hid (¬ HdP T) := fun hp => by
        have h3 := hp.2.2.1
        simp only [infoB, Bool.and_eq_true, within_iff] at h3
        omega
      clear hrr hr hsa
      go_wp2_with (first
        | (go_at_call 138; refine (HCF.out _).mono ?_; rintro e u1 ⟨rfl, hb⟩; have HZ1 := Hid.mk' (HZ0.out.below hb); have HH1 := Hid.mk' (HH0.out.below hb); have HB1 := Hid.mk' (HB0.out.trans (hb.mono HB0.out.size)); clear HCF hb HZ0 HH0 HB0)
        | (go_at_call 69; refine (HRT.out _).mono ?_; rintro e u2 ⟨he, hb⟩; have he := he.true_of HRB.out; subst he; have HZ2 := Hid.mk' ((HZ1.out.alloc _).below hb); have HH2 := Hid.mk' ((HH1.out.alloc _).below hb); have HB2 := Hid.mk' ((HB1.out.alloc HB1.out.size _).trans (hb.mono (HB1.out.alloc HB1.out.size _).size)); have f0 := HH2.out.cell 0; have f1 := HH2.out.cell 1; have f2 := HH2.out.cell 2; have f3 := HH2.out.cell 3; have f4 := HH2.out.cell 4; have f5 := HH2.out.cell 5; have f6 := HH2.out.cell 6; have f7 := HH2.out.cell 7; have f8 := HH2.out.cell 8; have f9 := HH2.out.cell 9; clear HRT hb HZ1 HH1 HB1)
        | (refine wpList_loadRow rfl _ 123 rfl (w.heap.size + 1) 123 _ (0, 0) _ rfl HH2.out Tryz.underlying123 rfl infoRHd11 ?_)
        | (refine wpList_storeRow rfl _ _ 123 rfl w.heap.size 123 _ _ rfl rfl HZ2.out infoRHd11 rfl rfl ?_))
      exact bodyPost_ret (res_hof _ w.heap.size 0 _ _ (HZ2.out.row _) rfl rfl rfl) rfl ⟨.inr ⟨HNO.out, dWh T, dCh T, dDe T, dBl T, dRa T, dSe T, dSa T, dLe T, dMo T, dSu T, none, 0, 0, rfl⟩, below_row HB2.out (Nat.le_refl _) _⟩
  · have HRB := Hid.mk' hr
    have HNO : Hid (¬ HdP T) := fun hp => by
      have h3 := hp.2.2.1
      apply hr
      simp only [infoB, Bool.and_eq_true, within_iff] at h3
      simp only [rightB, Bool.and_eq_true, within_iff]
      omega
    clear hr
    go_wp2_with (first
      | (go_at_call 138; refine (HCF.out _).mono ?_; rintro e u1 ⟨rfl, hb⟩; have HZ1 := Hid.mk' (HZ0.out.below hb); have HH1 := Hid.mk' (HH0.out.below hb); have HB1 := Hid.mk' (HB0.out.trans (hb.mono HB0.out.size)); clear HCF hb HZ0 HH0 HB0)
      | (go_at_call 69; refine (HRT.out _).mono ?_; rintro e u2 ⟨he, hb⟩; have he := he.false_of HRB.out; subst he; have HZ2 := Hid.mk' ((HZ1.out.alloc _).below hb); have HH2 := Hid.mk' ((HH1.out.alloc _).below hb); have HB2 := Hid.mk' ((HB1.out.alloc HB1.out.size _).trans (hb.mono (HB1.out.alloc HB1.out.size _).size)); have f0 := HH2.out.cell 0; have f1 := HH2.out.cell 1; have f2 := HH2.out.cell 2; have f3 := HH2.out.cell 3; have f4 := HH2.out.cell 4; have f5 := HH2.out.cell 5; have f6 := HH2.out.cell 6; have f7 := HH2.out.cell 7; have f8 := HH2.out.cell 8; have f9 := HH2.out.cell 9; clear HRT hb HZ1 HH1 HB1)
      | (refine wpList_loadRow rfl _ 123 rfl (w.heap.size + 1) 123 _ (0, 0) _ rfl HH2.out Tryz.underlying123 rfl infoRHd11 ?_)
      | (refine wpList_storeRow rfl _ _ 123 rfl w.heap.size 123 _ _ rfl rfl HZ2.out infoRHd11 rfl rfl ?_))
    exact bodyPost_ret (res_hof _ w.heap.size 0 _ _ (HZ2.out.row _) rfl rfl rfl) rfl ⟨.inr ⟨HNO.out, dWh T, dCh T, dDe T, dBl T, dRa T, dSe T, dSa T, dLe T, dMo T, dSu T, none, 0, 0, rfl⟩, below_row HB2.out (Nat.le_refl _) _⟩
end Go.Proofs.YtlncjgnomhpjnaaGreatDoor

