import Derived.Test.YtlncjgnomhpjnaaGreatDoorPR29
import Derived.BigQuiet
import Derived.Deep.QuietTactic
/-
  A frame read, in the document: reelref.unframe.
-/
namespace Go.Proofs.YtlncjgnomhpjnaaGreatDoor
open Go.RowKit Go.Deep
set_option linter.unusedVariables false
theorem valN_inj : ∀ (k : Nat) (l l' : List UInt8), l.length = k → l'.length = k → valN l = valN l' → l = l'
  | 0, l, l', h, h', _ => by rw [List.length_eq_zero_iff.1 h, List.length_eq_zero_iff.1 h']
  | k + 1, l, l', h, h', e => by
    rcases List.eq_nil_or_concat l with hl | ⟨a, x, hl⟩
    · rw [hl] at h; simp at h
    · rcases List.eq_nil_or_concat l' with hl' | ⟨a', x', hl'⟩
      · rw [hl'] at h'; simp at h'
      · subst hl hl'
        simp only [List.concat_eq_append, List.length_append, List.length_cons, List.length_nil] at h h' e ⊢
        rw [valN_snoc, valN_snoc] at e
        have h1 := x.toNat_lt
        have h2 := x'.toNat_lt
        have e1 : valN a = valN a' := by omega
        have e2 : x.toNat = x'.toNat := by omega
        rw [valN_inj k a a' (by omega) (by omega) e1, UInt8.toNat.inj e2]
theorem valN_one (v : Nat) (h : v < 256) : valN (inT v 1) = v := by
  have : inT v 1 = [inB v 1 0] := rfl
  rw [this]
  show 256 * 0 + (inB v 1 0).toNat = v
  rw [inB_nat]
  simp; omega
theorem valN_two (v : Nat) (h : v < 65536) : valN (inT v 2) = v := by
  have : inT v 2 = [inB v 2 0, inB v 2 1] := rfl
  rw [this]
  show 256 * (256 * 0 + (inB v 2 0).toNat) + (inB v 2 1).toNat = v
  rw [inB_nat, inB_nat]
  simp; omega
theorem take_piece (T : List UInt8) (a b : Nat) (h : a ≤ b) (hb : b ≤ T.length) : T.take b = T.take a ++ pieceT T a b := by
  unfold pieceT
  rw [← List.take_add, show a + (b - a) = b by omega]
theorem seal8_iff (T : List UInt8) (h : 8 ≤ T.length) (hc : crc 8 263 (T.take 7) < 256) : seal8 (T.take 7) = T.take 8 ↔ valN (pieceT T 7 8) = crc 8 263 (T.take 7) := by
  rw [take_piece T 7 8 (by omega) h]
  unfold seal8
  constructor
  · intro e
    rw [← List.append_cancel_left e, valN_one _ hc]
  · intro e
    rw [valN_inj 1 (pieceT T 7 8) (inT (crc 8 263 (T.take 7)) 1) (by rw [pieceT_length _ _ _ h (by omega)]) (inT_length _ _) (by rw [e, valN_one _ hc])]
theorem seal16_iff (T : List UInt8) (k : Nat) (h2 : 2 ≤ k) (h : k ≤ T.length) (hc : crc 16 98309 (T.take (k - 2)) < 65536) : seal16 (T.take (k - 2)) = T.take k ↔ valN (pieceT T (k - 2) k) = crc 16 98309 (T.take (k - 2)) := by
  rw [take_piece T (k - 2) k (by omega) h]
  unfold seal16
  constructor
  · intro e
    rw [← List.append_cancel_left e, valN_two _ hc]
  · intro e
    rw [valN_inj 2 (pieceT T (k - 2) k) (inT (crc 16 98309 (T.take (k - 2))) 2) (by rw [pieceT_length _ _ _ h (by omega)]; omega) (inT_length _ _) (by rw [e, valN_two _ hc])]
theorem mark_iff (T : List UInt8) (h : 1 ≤ T.length) : valN (pieceT T 0 1) = 165 ↔ T.getD 0 0 = 165 := by
  cases T with
  | nil => simp at h
  | cons x r =>
    show 256 * 0 + x.toNat = 165 ↔ x = 165
    constructor
    · intro e
      exact UInt8.toNat.inj (by rw [show (165 : UInt8).toNat = 165 from rfl]; omega)
    · intro e; rw [e]; rfl
/-- what reading a frame gives, in the document -/
def RefOut (e : Ending) (w w' : World) (T : List UInt8) (n d : Nat) (c2 number : Int) : Prop :=
  ((∃ H v, FrmP T n d c2 number H ∧ e = .returned (.tuple #[v, .int .i64 (hLen T)]) ∧ RowsAre w w' v n (hCnt T + 1) H)
   ∨ ((∀ H, ¬ FrmP T n d c2 number H) ∧ e = .returned (.tuple #[.slice none 0 0, .int .i64 0]))) ∧ Below w.heap.size w w'
theorem RefOut.no {w w' : World} {T : List UInt8} {n d : Nat} {c2 number : Int} (h : ∀ H, ¬ FrmP T n d c2 number H) (hb : Below w.heap.size w w') : RefOut (.returned (.tuple #[.slice none 0 0, .int .i64 0])) w w' T n d c2 number := ⟨.inr ⟨h, rfl⟩, hb⟩
theorem FrmP.ten {T : List UInt8} {n d : Nat} {c2 number : Int} {H : Nat → Nat → Int} (h : FrmP T n d c2 number H) : 10 ≤ T.length := by
  have := h.2.2.1.1
  omega
theorem FrmP.mark {T : List UInt8} {n d : Nat} {c2 number : Int} {H : Nat → Nat → Int} (h : FrmP T n d c2 number H) : valN (pieceT T 0 1) = 165 := (mark_iff T (by have := h.ten; omega)).2 h.1.2.1
theorem FrmP.eight {T : List UInt8} {n d : Nat} {c2 number : Int} {H : Nat → Nat → Int} (h : FrmP T n d c2 number H) : valN (pieceT T 7 8) = crc 8 263 (T.take 7) := (seal8_iff T (by have := h.ten; omega) (crc_lt 8 _ _)).1 h.1.2.2
theorem bl_drewN {B : Nat} {a b : World} (h : Below B a b) (n : Nat) : Below B a (b.drewN n) := ⟨h.os, h.tape, h.output, h.size, h.block⟩
set_option maxRecDepth 4000 in
set_option maxHeartbeats 2000000 in
theorem refUn_short (c2 c3 c4 c5 c6 c7 : Int) (n d : Nat) (number : Int) (T : List UInt8) (w : World) (hs : T.length < 10) :
    Calls Tryz.prog 79 #[.agg #[.int .i64 n, .int .i64 d, .int .i64 c2, .int .i64 c3, .int .i64 c4, .int .i64 c5, .int .i64 c6, .int .i64 c7], .int .i64 number, .string (bs T)] w fun e w' => RefOut e w w' T n d c2 number := by
  have hz : (bs T).size = T.length := bs_size T
  have HB0 : Hid (Below w.heap.size w (w.alloc (.cells #[.int .i64 n, .int .i64 d, .int .i64 c2, .int .i64 c3, .int .i64 c4, .int .i64 c5, .int .i64 c6, .int .i64 c7] 23))) := (Below.refl _ _).alloc (Nat.le_refl _) _
  have HNO : Hid (∀ H, ¬ FrmP T n d c2 number H) := fun H h => by have := h.ten; omega
  have c1 : (T.length : Int) < 10 := by omega
  have c1d : decide ((T.length : Int) < 10) = true := decide_eq_true c1
  generalize bs T = SB at *
  generalize T.length = nT at *
  go_enter Tryz.func79, Tryz.ntmps79
  go_wp2_with fail
  go_region
  go_wp2
  go_ret2
  exact RefOut.no HNO.out HB0.out.drew
set_option maxRecDepth 4000 in
set_option maxHeartbeats 2000000 in
theorem refUn_mark (c2 c3 c4 c5 c6 c7 : Int) (n d : Nat) (number : Int) (T : List UInt8) (w : World) (hs : 10 ≤ T.length) (hs2 : T.length ≤ 9000) (hM : ¬ valN (pieceT T 0 1) = 165) :
    Calls Tryz.prog 79 #[.agg #[.int .i64 n, .int .i64 d, .int .i64 c2, .int .i64 c3, .int .i64 c4, .int .i64 c5, .int .i64 c6, .int .i64 c7], .int .i64 number, .string (bs T)] w fun e w' => RefOut e w w' T n d c2 number := by
  have hz : (bs T).size = T.length := bs_size T
  have HB0 : Hid (Below w.heap.size w (w.alloc (.cells #[.int .i64 n, .int .i64 d, .int .i64 c2, .int .i64 c3, .int .i64 c4, .int .i64 c5, .int .i64 c6, .int .i64 c7] 23))) := (Below.refl _ _).alloc (Nat.le_refl _) _
  have HNO : Hid (∀ H, ¬ FrmP T n d c2 number H) := fun H h => hM h.mark
  have c1 : ¬ (T.length : Int) < 10 := by omega
  have c1d : decide ((T.length : Int) < 10) = false := decide_eq_false c1
  have n1 : 1 ≤ T.length := by omega
  have n3 : 3 ≤ T.length := by omega
  have n8 : 8 ≤ T.length := by omega
  have n7 : 7 ≤ T.length := by omega
  have n5 : 5 ≤ T.length := by omega
  have n6 : 6 ≤ T.length := by omega
  have i1 : (1 : Int) ≤ (T.length : Int) := by omega
  have i3 : (3 : Int) ≤ (T.length : Int) := by omega
  have i8 : (8 : Int) ≤ (T.length : Int) := by omega
  have i7 : (7 : Int) ≤ (T.length : Int) := by omega
  have i5 : (5 : Int) ≤ (T.length : Int) := by omega
  have i6 : (6 : Int) ≤ (T.length : Int) := by omega
  have e01 : (bs T).extract 0 1 = bs (pieceT T 0 1) := bs_cut T 0 1
  have e13 : (bs T).extract 1 3 = bs (pieceT T 1 3) := bs_cut T 1 3
  have e78 : (bs T).extract 7 8 = bs (pieceT T 7 8) := bs_cut T 7 8
  have e07 : (bs T).extract 0 7 = bs (T.take 7) := bs_takeN T 7
  have e35 : (bs T).extract 3 5 = bs (pieceT T 3 5) := bs_cut T 3 5
  have e56 : (bs T).extract 5 6 = bs (pieceT T 5 6) := bs_cut T 5 6
  have e67 : (bs T).extract 6 7 = bs (pieceT T 6 7) := bs_cut T 6 7
  have H01 := Hid.mk' (fun u => high_any (pieceT T 0 1) u (by rw [pieceT_length _ _ _ (by omega) (by omega)]; omega))
  have H13 : Hid (∀ u, Calls Tryz.prog 124 #[.string (bs (pieceT T 1 3))] u fun e w' => e = .returned (.int .i64 (hNum T)) ∧ w' = u) := fun u => high_any (pieceT T 1 3) u (by rw [pieceT_length _ _ _ (by omega) (by omega)]; omega)
  have H78 := Hid.mk' (fun u => high_any (pieceT T 7 8) u (by rw [pieceT_length _ _ _ (by omega) (by omega)]; omega))
  have H35 : Hid (∀ u, Calls Tryz.prog 124 #[.string (bs (pieceT T 3 5))] u fun e w' => e = .returned (.int .i64 (hLen T)) ∧ w' = u) := fun u => high_any (pieceT T 3 5) u (by rw [pieceT_length _ _ _ (by omega) (by omega)]; omega)
  have H56 : Hid (∀ u, Calls Tryz.prog 124 #[.string (bs (pieceT T 5 6))] u fun e w' => e = .returned (.int .i64 (hCnt T)) ∧ w' = u) := fun u => high_any (pieceT T 5 6) u (by rw [pieceT_length _ _ _ (by omega) (by omega)]; omega)
  have H67 : Hid (∀ u, Calls Tryz.prog 124 #[.string (bs (pieceT T 6 7))] u fun e w' => e = .returned (.int .i64 (hMode T)) ∧ w' = u) := fun u => high_any (pieceT T 6 7) u (by rw [pieceT_length _ _ _ (by omega) (by omega)]; omega)
  have HH : Hid (∀ u a b, b - a ≤ 4 → a ≤ b → b ≤ T.length → Calls Tryz.prog 124 #[.string (bs (pieceT T a b))] u fun e w' => e = .returned (.int .i64 (valN (pieceT T a b))) ∧ w' = u) := fun u a b h1 h2 h3 => high_any (pieceT T a b) u (by rw [pieceT_length _ _ _ h3 h2]; exact h1)
  have H8 := Hid.mk' (fun u => ref8_bs (T.take 7) u (by rw [List.length_take]; omega))
  have t1 : ((valN (pieceT T 0 1) : Int) == 165) = false := by simp; omega
  have t1' : ((valN (pieceT T 0 1) : Int) != 165) = true := by simp; omega
  generalize bs T = SB at *
  clear H01 H13 H78 H35 H56 H67 H8 e13 e78 e07 e35 e56 e67
  go_enter Tryz.func79, Tryz.ntmps79
  go_wp2_with fail
  go_quiet (((go_at_call 124; exact (HH.out _ _ _ (by omega) (by omega) (by omega)).mono fun _ _ h => ⟨h.1, _, h.2⟩)))
  go_wp2
  go_ret2
  exact RefOut.no HNO.out (bl_drewN HB0.out _)
set_option maxRecDepth 4000 in
set_option maxHeartbeats 2000000 in
theorem refUn_num (c2 c3 c4 c5 c6 c7 : Int) (n d : Nat) (number : Int) (T : List UInt8) (w : World) (hs : 10 ≤ T.length) (hs2 : T.length ≤ 9000) (hM : valN (pieceT T 0 1) = 165) (hN : ¬ (hNum T : Int) = number) :
    Calls Tryz.prog 79 #[.agg #[.int .i64 n, .int .i64 d, .int .i64 c2, .int .i64 c3, .int .i64 c4, .int .i64 c5, .int .i64 c6, .int .i64 c7], .int .i64 number, .string (bs T)] w fun e w' => RefOut e w w' T n d c2 number := by
  have hz : (bs T).size = T.length := bs_size T
  have HB0 : Hid (Below w.heap.size w (w.alloc (.cells #[.int .i64 n, .int .i64 d, .int .i64 c2, .int .i64 c3, .int .i64 c4, .int .i64 c5, .int .i64 c6, .int .i64 c7] 23))) := (Below.refl _ _).alloc (Nat.le_refl _) _
  have HNO : Hid (∀ H, ¬ FrmP T n d c2 number H) := fun H h => hN h.2.1
  have c1 : ¬ (T.length : Int) < 10 := by omega
  have c1d : decide ((T.length : Int) < 10) = false := decide_eq_false c1
  have n1 : 1 ≤ T.length := by omega
  have n3 : 3 ≤ T.length := by omega
  have n8 : 8 ≤ T.length := by omega
  have n7 : 7 ≤ T.length := by omega
  have n5 : 5 ≤ T.length := by omega
  have n6 : 6 ≤ T.length := by omega
  have i1 : (1 : Int) ≤ (T.length : Int) := by omega
  have i3 : (3 : Int) ≤ (T.length : Int) := by omega
  have i8 : (8 : Int) ≤ (T.length : Int) := by omega
  have i7 : (7 : Int) ≤ (T.length : Int) := by omega
  have i5 : (5 : Int) ≤ (T.length : Int) := by omega
  have i6 : (6 : Int) ≤ (T.length : Int) := by omega
  have e01 : (bs T).extract 0 1 = bs (pieceT T 0 1) := bs_cut T 0 1
  have e13 : (bs T).extract 1 3 = bs (pieceT T 1 3) := bs_cut T 1 3
  have e78 : (bs T).extract 7 8 = bs (pieceT T 7 8) := bs_cut T 7 8
  have e07 : (bs T).extract 0 7 = bs (T.take 7) := bs_takeN T 7
  have e35 : (bs T).extract 3 5 = bs (pieceT T 3 5) := bs_cut T 3 5
  have e56 : (bs T).extract 5 6 = bs (pieceT T 5 6) := bs_cut T 5 6
  have e67 : (bs T).extract 6 7 = bs (pieceT T 6 7) := bs_cut T 6 7
  have H01 := Hid.mk' (fun u => high_any (pieceT T 0 1) u (by rw [pieceT_length _ _ _ (by omega) (by omega)]; omega))
  have H13 : Hid (∀ u, Calls Tryz.prog 124 #[.string (bs (pieceT T 1 3))] u fun e w' => e = .returned (.int .i64 (hNum T)) ∧ w' = u) := fun u => high_any (pieceT T 1 3) u (by rw [pieceT_length _ _ _ (by omega) (by omega)]; omega)
  have H78 := Hid.mk' (fun u => high_any (pieceT T 7 8) u (by rw [pieceT_length _ _ _ (by omega) (by omega)]; omega))
  have H35 : Hid (∀ u, Calls Tryz.prog 124 #[.string (bs (pieceT T 3 5))] u fun e w' => e = .returned (.int .i64 (hLen T)) ∧ w' = u) := fun u => high_any (pieceT T 3 5) u (by rw [pieceT_length _ _ _ (by omega) (by omega)]; omega)
  have H56 : Hid (∀ u, Calls Tryz.prog 124 #[.string (bs (pieceT T 5 6))] u fun e w' => e = .returned (.int .i64 (hCnt T)) ∧ w' = u) := fun u => high_any (pieceT T 5 6) u (by rw [pieceT_length _ _ _ (by omega) (by omega)]; omega)
  have H67 : Hid (∀ u, Calls Tryz.prog 124 #[.string (bs (pieceT T 6 7))] u fun e w' => e = .returned (.int .i64 (hMode T)) ∧ w' = u) := fun u => high_any (pieceT T 6 7) u (by rw [pieceT_length _ _ _ (by omega) (by omega)]; omega)
  have HH : Hid (∀ u a b, b - a ≤ 4 → a ≤ b → b ≤ T.length → Calls Tryz.prog 124 #[.string (bs (pieceT T a b))] u fun e w' => e = .returned (.int .i64 (valN (pieceT T a b))) ∧ w' = u) := fun u a b h1 h2 h3 => high_any (pieceT T a b) u (by rw [pieceT_length _ _ _ h3 h2]; exact h1)
  have H8 := Hid.mk' (fun u => ref8_bs (T.take 7) u (by rw [List.length_take]; omega))
  have t1 : ((valN (pieceT T 0 1) : Int) == 165) = true := by simp; omega
  have t1' : ((valN (pieceT T 0 1) : Int) != 165) = false := by simp; omega
  have t2 : ((valN (pieceT T 1 3) : Int) == number) = false := by simpa [hNum] using hN
  have t2' : ((valN (pieceT T 1 3) : Int) != number) = true := by simpa [hNum] using hN
  generalize bs T = SB at *
  clear H01 H13 H78 H35 H56 H67 H8 e78 e07 e35 e56 e67
  go_enter Tryz.func79, Tryz.ntmps79
  go_wp2_with fail
  go_quiet (((go_at_call 124; exact (HH.out _ _ _ (by omega) (by omega) (by omega)).mono fun _ _ h => ⟨h.1, _, h.2⟩)))
  go_wp2
  go_ret2
  exact RefOut.no HNO.out (bl_drewN HB0.out _)
set_option maxRecDepth 4000 in
set_option maxHeartbeats 2000000 in
theorem refUn_eight (c2 c3 c4 c5 c6 c7 : Int) (n d : Nat) (T : List UInt8) (w : World) (hs : 10 ≤ T.length) (hs2 : T.length ≤ 9000) (hM : valN (pieceT T 0 1) = 165) (hE : ¬ valN (pieceT T 7 8) = crc 8 263 (T.take 7)) :
    Calls Tryz.prog 79 #[.agg #[.int .i64 n, .int .i64 d, .int .i64 c2, .int .i64 c3, .int .i64 c4, .int .i64 c5, .int .i64 c6, .int .i64 c7], .int .i64 (hNum T), .string (bs T)] w fun e w' => RefOut e w w' T n d c2 (hNum T) := by
  have hz : (bs T).size = T.length := bs_size T
  have HB0 : Hid (Below w.heap.size w (w.alloc (.cells #[.int .i64 n, .int .i64 d, .int .i64 c2, .int .i64 c3, .int .i64 c4, .int .i64 c5, .int .i64 c6, .int .i64 c7] 23))) := (Below.refl _ _).alloc (Nat.le_refl _) _
  have HNO : Hid (∀ H, ¬ FrmP T n d c2 (hNum T) H) := fun H h => hE h.eight
  have c1 : ¬ (T.length : Int) < 10 := by omega
  have c1d : decide ((T.length : Int) < 10) = false := decide_eq_false c1
  have n1 : 1 ≤ T.length := by omega
  have n3 : 3 ≤ T.length := by omega
  have n8 : 8 ≤ T.length := by omega
  have n7 : 7 ≤ T.length := by omega
  have n5 : 5 ≤ T.length := by omega
  have n6 : 6 ≤ T.length := by omega
  have i1 : (1 : Int) ≤ (T.length : Int) := by omega
  have i3 : (3 : Int) ≤ (T.length : Int) := by omega
  have i8 : (8 : Int) ≤ (T.length : Int) := by omega
  have i7 : (7 : Int) ≤ (T.length : Int) := by omega
  have i5 : (5 : Int) ≤ (T.length : Int) := by omega
  have i6 : (6 : Int) ≤ (T.length : Int) := by omega
  have e01 : (bs T).extract 0 1 = bs (pieceT T 0 1) := bs_cut T 0 1
  have e13 : (bs T).extract 1 3 = bs (pieceT T 1 3) := bs_cut T 1 3
  have e78 : (bs T).extract 7 8 = bs (pieceT T 7 8) := bs_cut T 7 8
  have e07 : (bs T).extract 0 7 = bs (T.take 7) := bs_takeN T 7
  have e35 : (bs T).extract 3 5 = bs (pieceT T 3 5) := bs_cut T 3 5
  have e56 : (bs T).extract 5 6 = bs (pieceT T 5 6) := bs_cut T 5 6
  have e67 : (bs T).extract 6 7 = bs (pieceT T 6 7) := bs_cut T 6 7
  have H01 := Hid.mk' (fun u => high_any (pieceT T 0 1) u (by rw [pieceT_length _ _ _ (by omega) (by omega)]; omega))
  have H13 : Hid (∀ u, Calls Tryz.prog 124 #[.string (bs (pieceT T 1 3))] u fun e w' => e = .returned (.int .i64 (hNum T)) ∧ w' = u) := fun u => high_any (pieceT T 1 3) u (by rw [pieceT_length _ _ _ (by omega) (by omega)]; omega)
  have H78 := Hid.mk' (fun u => high_any (pieceT T 7 8) u (by rw [pieceT_length _ _ _ (by omega) (by omega)]; omega))
  have H35 : Hid (∀ u, Calls Tryz.prog 124 #[.string (bs (pieceT T 3 5))] u fun e w' => e = .returned (.int .i64 (hLen T)) ∧ w' = u) := fun u => high_any (pieceT T 3 5) u (by rw [pieceT_length _ _ _ (by omega) (by omega)]; omega)
  have H56 : Hid (∀ u, Calls Tryz.prog 124 #[.string (bs (pieceT T 5 6))] u fun e w' => e = .returned (.int .i64 (hCnt T)) ∧ w' = u) := fun u => high_any (pieceT T 5 6) u (by rw [pieceT_length _ _ _ (by omega) (by omega)]; omega)
  have H67 : Hid (∀ u, Calls Tryz.prog 124 #[.string (bs (pieceT T 6 7))] u fun e w' => e = .returned (.int .i64 (hMode T)) ∧ w' = u) := fun u => high_any (pieceT T 6 7) u (by rw [pieceT_length _ _ _ (by omega) (by omega)]; omega)
  have HH : Hid (∀ u a b, b - a ≤ 4 → a ≤ b → b ≤ T.length → Calls Tryz.prog 124 #[.string (bs (pieceT T a b))] u fun e w' => e = .returned (.int .i64 (valN (pieceT T a b))) ∧ w' = u) := fun u a b h1 h2 h3 => high_any (pieceT T a b) u (by rw [pieceT_length _ _ _ h3 h2]; exact h1)
  have H8 := Hid.mk' (fun u => ref8_bs (T.take 7) u (by rw [List.length_take]; omega))
  have t1 : ((valN (pieceT T 0 1) : Int) == 165) = true := by simp; omega
  have t1' : ((valN (pieceT T 0 1) : Int) != 165) = false := by simp; omega
  have t2' : ((hNum T : Int) != (hNum T : Int)) = false := by simp
  have t3' : ((valN (pieceT T 7 8) : Int) != (crc 8 263 (T.take 7) : Int)) = true := by simp; omega
  generalize bs (pieceT T 0 1) = P01 at *
  generalize bs (pieceT T 1 3) = P13 at *
  generalize bs (pieceT T 7 8) = P78 at *
  generalize bs (pieceT T 3 5) = P35 at *
  generalize bs (pieceT T 5 6) = P56 at *
  generalize bs (pieceT T 6 7) = P67 at *
  generalize bs (T.take 7) = P07 at *
  generalize valN (pieceT T 0 1) = v01 at *
  generalize valN (pieceT T 7 8) = v78 at *
  generalize crc 8 263 (T.take 7) = v8 at *
  generalize bs T = SB at *
  generalize T.length = nT at *
  generalize hNum T = hn at *
  clear HH H35 H56 H67 e35 e56 e67 hM hE
  go_enter Tryz.func79, Tryz.ntmps79
  go_wp2_with fail
  go_region_with (first | (go_at_call 124; refine (H01.out _).mono ?_; rintro e w5 ⟨rfl, hw⟩; subst w5; clear H01) | (go_at_call 124; refine (H13.out _).mono ?_; rintro e w5 ⟨rfl, hw⟩; subst w5; clear H13) | (go_at_call 124; refine (H78.out _).mono ?_; rintro e w5 ⟨rfl, hw⟩; subst w5; clear H78) | (go_at_call 112; refine (H8.out _).mono ?_; rintro e u1 ⟨rfl, hb⟩; have HB1 : Hid (Below w.heap.size w u1) := HB0.out.drew.trans (hb.mono (by simp)); clear hb H8 HB0))
  go_wp2
  go_ret2
  exact RefOut.no HNO.out HB1.out
end Go.Proofs.YtlncjgnomhpjnaaGreatDoor

