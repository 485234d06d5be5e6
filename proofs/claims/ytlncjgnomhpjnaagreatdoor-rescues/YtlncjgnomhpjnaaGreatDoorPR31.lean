import Derived.Test.YtlncjgnomhpjnaaGreatDoorPR30
import Derived.Deep.RegionHeld3
/-
  A frame read, in the document: reelref.unframe, behind its head.
-/
namespace Go.Proofs.YtlncjgnomhpjnaaGreatDoor
open Go.RowKit Go.Deep
set_option linter.unusedVariables false
theorem InOut.yes {e : Ending} {w w' : World} {BT : List UInt8} {b : Nat → Bool} {d n m nn : Nat} {H : Nat → Nat → Int} (h : InOut e w w' BT b d n m nn) (hI : InsP BT b d n m nn H) : ∃ H v, e = .returned (.tuple #[v, .bool true]) ∧ InsP BT b d n m nn H ∧ RowsAre w w' v n nn H ∧ Below w.heap.size w w' := by
  rcases h with ⟨⟨H', v, h1, h2, h3⟩ | ⟨v, hno, -⟩, hb⟩
  · exact ⟨H', v, h2, h1, h3, hb⟩
  · exact absurd hI (hno H)
theorem InOut.no {e : Ending} {w w' : World} {BT : List UInt8} {b : Nat → Bool} {d n m nn : Nat} (h : InOut e w w' BT b d n m nn) (hI : ∀ H, ¬ InsP BT b d n m nn H) : ∃ v, e = .returned (.tuple #[v, .bool false]) ∧ Below w.heap.size w w' := by
  rcases h with ⟨⟨H', v, h1, -⟩ | ⟨v, -, h2⟩, hb⟩
  · exact absurd h1 (hI H')
  · exact ⟨v, h2, hb⟩
theorem cfg_cells {u : World} {p : Nat} {a0 a1 a2 a3 a4 a5 a6 a7 : Value} (hC : Bx u p 23 #[a0, a1, a2, a3, a4, a5, a6, a7]) :
    u.cell? ⟨p, 0, none⟩ = some a0 ∧ u.cell? ⟨p, 1, none⟩ = some a1 ∧ u.cell? ⟨p, 2, none⟩ = some a2 ∧ u.cell? ⟨p, 3, none⟩ = some a3 ∧ u.cell? ⟨p, 4, none⟩ = some a4 ∧ u.cell? ⟨p, 5, none⟩ = some a5 ∧ u.cell? ⟨p, 6, none⟩ = some a6 ∧ u.cell? ⟨p, 7, none⟩ = some a7 :=
  ⟨hC.cell 0, hC.cell 1, hC.cell 2, hC.cell 3, hC.cell 4, hC.cell 5, hC.cell 6, hC.cell 7⟩
theorem spelt_bs (T : List UInt8) (w : World) (hs : T.length ≤ 2097152) : Calls Tryz.prog 126 #[.string (bs T)] w fun e w' => e = .returned (.string (bs (spellTo T T.length))) ∧ Below w.heap.size w w' := by
  have := spelt_any (bs T) w (by rw [bs_size]; exact hs)
  rw [bs_list, bs_size, spelt_text] at this
  exact this.mono fun e w' h => ⟨h.1, h.2.1⟩
set_option maxRecDepth 4000 in
set_option maxHeartbeats 2000000 in
theorem refUn_rest (c2 c3 c4 c5 c6 c7 : Int) (n d : Nat) (T : List UInt8) (w : World) (hs : 10 ≤ T.length) (hs2 : T.length ≤ 9000) (hd1 : 4 ≤ d) (hd : d ≤ 12) (hn1 : 1 ≤ n) (hn4 : n ≤ 4) (h2 : c2 ≤ 32) (hT : TabAt w 3) (hT3 : 3 < w.heap.size) (hM : valN (pieceT T 0 1) = 165) (hE : valN (pieceT T 7 8) = crc 8 263 (T.take 7)) :
    Calls Tryz.prog 79 #[.agg #[.int .i64 n, .int .i64 d, .int .i64 c2, .int .i64 c3, .int .i64 c4, .int .i64 c5, .int .i64 c6, .int .i64 c7], .int .i64 (hNum T), .string (bs T)] w fun e w' => RefOut e w w' T n d c2 (hNum T) := by
  have hz : (bs T).size = T.length := bs_size T
  have HB0 : Hid (Below w.heap.size w (w.alloc (.cells #[.int .i64 n, .int .i64 d, .int .i64 c2, .int .i64 c3, .int .i64 c4, .int .i64 c5, .int .i64 c6, .int .i64 c7] 23))) := (Below.refl _ _).alloc (Nat.le_refl _) _
  have hHP : HeadP T := ⟨by omega, (mark_iff T (by omega)).1 hM, (seal8_iff T (by omega) (crc_lt 8 _ _)).2 hE⟩
  have c1 : ¬ (T.length : Int) < 10 := by omega
  have c1d : decide ((T.length : Int) < 10) = false := decide_eq_false c1
  have n1 : 1 ≤ T.length := by omega
  have n3 : 3 ≤ T.length := by omega
  have n8 : 8 ≤ T.length := by omega
  have n7 : 7 ≤ T.length := by omega
  have n5 : 5 ≤ T.length := by omega
  have n6 : 6 ≤ T.length := by omega
  have i1 : (1 : Int) ≤ (T.length : Int) := by omega
  have i3 : (3 : Int) ≤ (T.length : Int) := by omega
  have i8 : (8 : Int) ≤ (T.length : Int) := by omega
  have i7 : (7 : Int) ≤ (T.length : Int) := by omega
  have i5 : (5 : Int) ≤ (T.length : Int) := by omega
  have i6 : (6 : Int) ≤ (T.length : Int) := by omega
  have e01 : (bs T).extract 0 1 = bs (pieceT T 0 1) := bs_cut T 0 1
  have e13 : (bs T).extract 1 3 = bs (pieceT T 1 3) := bs_cut T 1 3
  have e78 : (bs T).extract 7 8 = bs (pieceT T 7 8) := bs_cut T 7 8
  have e07 : (bs T).extract 0 7 = bs (T.take 7) := bs_takeN T 7
  have e35 : (bs T).extract 3 5 = bs (pieceT T 3 5) := bs_cut T 3 5
  have e56 : (bs T).extract 5 6 = bs (pieceT T 5 6) := bs_cut T 5 6
  have e67 : (bs T).extract 6 7 = bs (pieceT T 6 7) := bs_cut T 6 7
  have H01 := Hid.mk' (fun u => high_any (pieceT T 0 1) u (by rw [pieceT_length _ _ _ (by omega) (by omega)]; omega))
  have H13 : Hid (∀ u, Calls Tryz.prog 124 #[.string (bs (pieceT T 1 3))] u fun e w' => e = .returned (.int .i64 (hNum T)) ∧ w' = u) := fun u => high_any (pieceT T 1 3) u (by rw [pieceT_length _ _ _ (by omega) (by omega)]; omega)
  have H78 := Hid.mk' (fun u => high_any (pieceT T 7 8) u (by rw [pieceT_length _ _ _ (by omega) (by omega)]; omega))
  have H35 : Hid (∀ u, Calls Tryz.prog 124 #[.string (bs (pieceT T 3 5))] u fun e w' => e = .returned (.int .i64 (hLen T)) ∧ w' = u) := fun u => high_any (pieceT T 3 5) u (by rw [pieceT_length _ _ _ (by omega) (by omega)]; omega)
  have H56 : Hid (∀ u, Calls Tryz.prog 124 #[.string (bs (pieceT T 5 6))] u fun e w' => e = .returned (.int .i64 (hCnt T)) ∧ w' = u) := fun u => high_any (pieceT T 5 6) u (by rw [pieceT_length _ _ _ (by omega) (by omega)]; omega)
  have H67 : Hid (∀ u, Calls Tryz.prog 124 #[.string (bs (pieceT T 6 7))] u fun e w' => e = .returned (.int .i64 (hMode T)) ∧ w' = u) := fun u => high_any (pieceT T 6 7) u (by rw [pieceT_length _ _ _ (by omega) (by omega)]; omega)
  have HH : Hid (∀ u a b, b - a ≤ 4 → a ≤ b → b ≤ T.length → Calls Tryz.prog 124 #[.string (bs (pieceT T a b))] u fun e w' => e = .returned (.int .i64 (valN (pieceT T a b))) ∧ w' = u) := fun u a b h1 h2 h3 => high_any (pieceT T a b) u (by rw [pieceT_length _ _ _ h3 h2]; exact h1)
  have H8 := Hid.mk' (fun u => ref8_bs (T.take 7) u (by rw [List.length_take]; omega))
  have HC1 : Hid (∀ u, Below (w.alloc (.cells #[.int .i64 n, .int .i64 d, .int .i64 c2, .int .i64 c3, .int .i64 c4, .int .i64 c5, .int .i64 c6, .int .i64 c7] 23)).heap.size (w.alloc (.cells #[.int .i64 n, .int .i64 d, .int .i64 c2, .int .i64 c3, .int .i64 c4, .int .i64 c5, .int .i64 c6, .int .i64 c7] 23)) u → Bx u w.heap.size 23 #[.int .i64 n, .int .i64 d, .int .i64 c2, .int .i64 c3, .int .i64 c4, .int .i64 c5, .int .i64 c6, .int .i64 c7]) := fun u hu => (Bx.new _ _ _).below hu
  have t1 : ((valN (pieceT T 0 1) : Int) == 165) = true := by simp; omega
  have t1' : ((valN (pieceT T 0 1) : Int) != 165) = false := by simp; omega
  have t2' : ((hNum T : Int) != (hNum T : Int)) = false := by simp
  have t3' : ((valN (pieceT T 7 8) : Int) != (crc 8 263 (T.take 7) : Int)) = false := by simp; omega
  have HCB : Hid (hLen T < 65536 ∧ hCnt T < 256 ∧ hMode T < 256) := by
    have h1 := valN_lt (pieceT T 3 5) 2 (by rw [pieceT_length _ _ _ (by omega) (by omega)]; omega)
    have h2 := valN_lt (pieceT T 5 6) 1 (by rw [pieceT_length _ _ _ (by omega) (by omega)]; omega)
    have h3 := valN_lt (pieceT T 6 7) 1 (by rw [pieceT_length _ _ _ (by omega) (by omega)]; omega)
    rw [List.take_of_length_le (by rw [pieceT_length _ _ _ (by omega) (by omega)]; omega)] at h1 h2 h3
    exact ⟨h1, h2, h3⟩
  have hcb := HCB.out
  have wN : IntKind.i64.wrap ((hCnt T : Int) + 1) = ((hCnt T + 1 : Nat) : Int) := by rw [IntKind.wrap_i64]; omega
  have HHP := Hid.mk' hHP
  have HTA := Hid.mk' hT
  clear HH hM hE hT hHP hcb
  generalize bs (pieceT T 0 1) = P01 at *
  generalize bs (pieceT T 1 3) = P13 at *
  generalize bs (pieceT T 7 8) = P78 at *
  generalize bs (pieceT T 3 5) = P35 at *
  generalize bs (pieceT T 5 6) = P56 at *
  generalize bs (pieceT T 6 7) = P67 at *
  generalize bs (T.take 7) = P07 at *
  generalize valN (pieceT T 0 1) = v01 at *
  generalize valN (pieceT T 7 8) = v78 at *
  generalize crc 8 263 (T.take 7) = v8 at *
  go_enter Tryz.func79, Tryz.ntmps79
  go_wp2_with fail
  go_region_with (first | (go_at_call 124; refine (H01.out _).mono ?_; rintro e w5 ⟨rfl, hw⟩; subst w5; clear H01) | (go_at_call 124; refine (H13.out _).mono ?_; rintro e w5 ⟨rfl, hw⟩; subst w5; clear H13) | (go_at_call 124; refine (H78.out _).mono ?_; rintro e w5 ⟨rfl, hw⟩; subst w5; clear H78) | (go_at_call 112; refine (H8.out _).mono ?_; rintro e u1 ⟨rfl, hb⟩; have HB1 : Hid (Below w.heap.size w u1) := HB0.out.drew.trans (hb.mono (by simp)); have HX := Hid.mk' (HC1.out _ (⟨hb.os, hb.tape, hb.output, hb.size, hb.block⟩)); clear HC1; clear hb H8 HB0))
  clear t1 t1' t2' t3' e01 e13 e78 e07
  have x0 := HX.out.cell 0
  have x2 := HX.out.cell 2
  by_cases p1 : (hLen T : Int) < 10
  · have HNO : Hid (∀ H, ¬ FrmP T n d c2 (hNum T) H) := fun H h => by have h1 := h.2.2.1.1; omega
    go_wp2_with (first | (go_at_call 124; refine (H35.out _).mono ?_; rintro e w5 ⟨rfl, hw⟩; subst w5; clear H35) | (go_at_call 124; refine (H56.out _).mono ?_; rintro e w5 ⟨rfl, hw⟩; subst w5; clear H56) | (go_at_call 124; refine (H67.out _).mono ?_; rintro e w5 ⟨rfl, hw⟩; subst w5; clear H67))
    go_ret2
    exact RefOut.no HNO.out HB1.out
  by_cases p2 : (T.length : Int) < (hLen T : Int)
  · have HNO : Hid (∀ H, ¬ FrmP T n d c2 (hNum T) H) := fun H h => by have h1 := h.2.2.1.1; omega
    go_wp2_with (first | (go_at_call 124; refine (H35.out _).mono ?_; rintro e w5 ⟨rfl, hw⟩; subst w5; clear H35) | (go_at_call 124; refine (H56.out _).mono ?_; rintro e w5 ⟨rfl, hw⟩; subst w5; clear H56) | (go_at_call 124; refine (H67.out _).mono ?_; rintro e w5 ⟨rfl, hw⟩; subst w5; clear H67))
    go_ret2
    exact RefOut.no HNO.out HB1.out
  by_cases p3 : c2 < (hCnt T : Int) + 1
  · have HNO : Hid (∀ H, ¬ FrmP T n d c2 (hNum T) H) := fun H h => by have h1 := h.2.2.1.2.1; omega
    go_wp2_with (first | (go_at_call 124; refine (H35.out _).mono ?_; rintro e w5 ⟨rfl, hw⟩; subst w5; clear H35) | (go_at_call 124; refine (H56.out _).mono ?_; rintro e w5 ⟨rfl, hw⟩; subst w5; clear H56) | (go_at_call 124; refine (H67.out _).mono ?_; rintro e w5 ⟨rfl, hw⟩; subst w5; clear H67))
    go_ret2
    exact RefOut.no HNO.out HB1.out
  by_cases p4 : (3 : Int) < (hMode T : Int)
  · have HNO : Hid (∀ H, ¬ FrmP T n d c2 (hNum T) H) := fun H h => by have h1 := h.2.2.1.2.2; unfold modesN at h1; split at h1 <;> omega
    go_wp2_with (first | (go_at_call 124; refine (H35.out _).mono ?_; rintro e w5 ⟨rfl, hw⟩; subst w5; clear H35) | (go_at_call 124; refine (H56.out _).mono ?_; rintro e w5 ⟨rfl, hw⟩; subst w5; clear H56) | (go_at_call 124; refine (H67.out _).mono ?_; rintro e w5 ⟨rfl, hw⟩; subst w5; clear H67))
    go_ret2
    exact RefOut.no HNO.out HB1.out
  by_cases p5 : (0 : Int) < (hMode T : Int)
  · by_cases p6 : n = 2
    · have t6 : ((n : Int) == 2) = true := by simp; omega
      have t6' : ((n : Int) != 2) = false := by simp; omega
      have HMP : Hid (MayP n c2 (hLen T) (hCnt T + 1) (hMode T) T.length) := ⟨⟨by omega, by omega⟩, by omega, by unfold modesN; rw [if_pos (by omega)]; omega⟩
      have HM0 : Hid (n ≠ 2 → hMode T = 0) := fun h => absurd p6 h
      clear p6
      go_wp2_with (first | (go_at_call 124; refine (H35.out _).mono ?_; rintro e w5 ⟨rfl, hw⟩; subst w5; clear H35) | (go_at_call 124; refine (H56.out _).mono ?_; rintro e w5 ⟨rfl, hw⟩; subst w5; clear H56) | (go_at_call 124; refine (H67.out _).mono ?_; rintro e w5 ⟨rfl, hw⟩; subst w5; clear H67))
      obtain ⟨q, hq⟩ : ∃ q, hLen T = q + 2 := ⟨hLen T - 2, by omega⟩
      have HQ := Hid.mk' hq
      have q8 : 8 ≤ q := by omega
      have qT : q + 2 ≤ T.length := by omega
      have wq : IntKind.i64.wrap ((hLen T : Int) - 2) = (q : Int) := by rw [IntKind.wrap_i64]; omega
      have j1 : (q : Int) ≤ (hLen T : Int) := by omega
      have j2 : (hLen T : Int) ≤ (T.length : Int) := by omega
      have j3 : (8 : Int) ≤ (q : Int) := by omega
      have j4 : (q : Int) ≤ (T.length : Int) := by omega
      have eqk : (bs T).extract q (hLen T) = bs (pieceT T q (hLen T)) := bs_cut T q (hLen T)
      have e0q : (bs T).extract 0 q = bs (T.take q) := bs_takeN T q
      have e8q : (bs T).extract 8 q = bs (insT T) := by rw [bs_cut]; unfold insT; rw [hq]; rfl
      have HLI : Hid ((insT T).length = q - 8) := by show _ = _; unfold insT; rw [hq, pieceT_length _ _ _ (by omega) (by omega)]; omega
      have HK := Hid.mk' (fun u => high_any (pieceT T q (hLen T)) u (by rw [pieceT_length _ _ _ (by omega) (by omega)]; omega))
      have H16 := Hid.mk' (fun u => ref16_bs (T.take q) u (by rw [List.length_take]; omega))
      have HSI : Hid (seal16 (T.take (hLen T - 2)) = T.take (hLen T) ↔ valN (pieceT T q (hLen T)) = crc 16 98309 (T.take q)) := by
        have := seal16_iff T (hLen T) (by omega) (by omega) (crc_lt 16 _ _)
        rw [hq, Nat.add_sub_cancel] at this
        rw [hq, Nat.add_sub_cancel]
        exact this
      have hXc := cfg_cells (u := u1.drew) HX.out
      clear hq
      generalize bs (T.take q) = P0q at *
      generalize bs (pieceT T q (hLen T)) = Pqk at *
      by_cases hS : valN (pieceT T q (hLen T)) = crc 16 98309 (T.take q)
      · have t7 : ((valN (pieceT T q (hLen T)) : Int) != (crc 16 98309 (T.take q) : Int)) = false := by simp; omega
        have HSY := Hid.mk' (HSI.out.2 hS)
        clear hS
        generalize valN (pieceT T q (hLen T)) = vqk at *
        generalize crc 16 98309 (T.take q) = v16 at *
        have HSP := Hid.mk' (fun u => spelt_bs (insT T) u (by rw [HLI.out]; omega))
        have HIN := Hid.mk' (fun (u : World) (hu : Below w.heap.size w u) => inside_any c2 c3 c4 c5 c6 c7 d n (hMode T) (hCnt T + 1) (spellTo (insT T) (insT T).length) (msgBit (insT T)) u (by omega) hd hn1 hn4 (by omega) HM0.out (by omega) (by omega) (by rw [spellTo_length, HLI.out]; omega) (spell_bits _) (tab_belowB hu HTA.out hT3) (Nat.lt_of_lt_of_le hT3 hu.size))
        rw [show ((hCnt T + 1 : Nat) : Int) = (hCnt T : Int) + 1 by omega] at HIN
        go_region_with (first
          | (go_at_call 124; refine (HK.out _).mono ?_; rintro e w5 ⟨rfl, hw⟩; subst w5; clear HK)
          | (go_at_call 113; refine (H16.out _).mono ?_; rintro e u2 ⟨rfl, hb⟩; have HB2 : Hid (Below w.heap.size w u2) := HB1.out.drew.trans (hb.mono HB1.out.size); have HX2 : Hid (Bx u2 w.heap.size 23 #[.int .i64 n, .int .i64 d, .int .i64 c2, .int .i64 c3, .int .i64 c4, .int .i64 c5, .int .i64 c6, .int .i64 c7]) := Bx.below (w := u1.drew) HX.out hb; clear hb H16 HB1 HX))
        clear x0 x2 hXc
        by_cases hI : ∃ H, InsP (spellTo (insT T) (insT T).length) (msgBit (insT T)) d n (hMode T) (hCnt T + 1) H
        · obtain ⟨H, hI⟩ := hI
          have HI := Hid.mk' hI
          clear hI
          have HY : Hid (∀ H, InsP (spellTo (insT T) (insT T).length) (msgBit (insT T)) d n (hMode T) (hCnt T + 1) H → FrmP T n d c2 (hNum T) H) := fun H h => ⟨HHP.out, rfl, HMP.out, HSY.out, h⟩
          generalize bs (spellTo (insT T) (insT T).length) = SS at *
          generalize bs (insT T) = SI at *
          go_wp2
          have hS3 := cfg_cells (u := u2.drew) HX2.out
          go_region_held3 (fun w' => w'.cell? ⟨w.heap.size, 0, none⟩ = some (.int .i64 n) ∧ w'.cell? ⟨w.heap.size, 1, none⟩ = some (.int .i64 d) ∧ w'.cell? ⟨w.heap.size, 2, none⟩ = some (.int .i64 c2) ∧ w'.cell? ⟨w.heap.size, 3, none⟩ = some (.int .i64 c3) ∧ w'.cell? ⟨w.heap.size, 4, none⟩ = some (.int .i64 c4) ∧ w'.cell? ⟨w.heap.size, 5, none⟩ = some (.int .i64 c5) ∧ w'.cell? ⟨w.heap.size, 6, none⟩ = some (.int .i64 c6) ∧ w'.cell? ⟨w.heap.size, 7, none⟩ = some (.int .i64 c7))
            (with_reducible assumption)
            (first
            | (go_at_call 126; refine (HSP.out _).mono ?_; rintro e u3 ⟨rfl, hb⟩; have hX3 : Bx u3 w.heap.size 23 #[.int .i64 n, .int .i64 d, .int .i64 c2, .int .i64 c3, .int .i64 c4, .int .i64 c5, .int .i64 c6, .int .i64 c7] := Bx.below (w := u2.drew) HX2.out hb; have hS4 := cfg_cells hX3; have HX3 := Hid.mk' hX3; have HB3 : Hid (Below w.heap.size w u3) := HB2.out.drew.trans (hb.mono HB2.out.size); clear hb HSP hS3 HB2 HX2 hX3)
            | (go_at_call 125; refine (HIN.out _ HB3.out).mono ?_; intro e u4 hio; obtain ⟨H', v, rfl, hI', hro, hb⟩ := hio.yes HI.out; have hS5 := cfg_cells (HX3.out.below hb); have HB4 := Hid.mk' (HB3.out.trans (hb.mono HB3.out.size)); have HRO := Hid.mk' (hro.mono HB3.out.size); have HI' := Hid.mk' hI'; clear hb hio hro hI' HIN HB3 HX3 hS4))
          obtain ⟨gv, cv, gsv, hv, hv2⟩ := HRO.out
          clear hv2
          subst hv
          clear hS5
          go_wp2
          go_ret2
          exact ⟨.inl ⟨H', _, HY.out H' HI'.out, rfl, HRO.out⟩, HB4.out⟩
        · have HI : Hid (∀ H, ¬ InsP (spellTo (insT T) (insT T).length) (msgBit (insT T)) d n (hMode T) (hCnt T + 1) H) := fun H h => hI ⟨H, h⟩
          clear hI
          have HNO : Hid (∀ H, ¬ FrmP T n d c2 (hNum T) H) := fun H h => HI.out H h.2.2.2.2
          generalize bs (spellTo (insT T) (insT T).length) = SS at *
          generalize bs (insT T) = SI at *
          go_wp2
          have hS3 := cfg_cells (u := u2.drew) HX2.out
          go_region_held3 (fun w' => w'.cell? ⟨w.heap.size, 0, none⟩ = some (.int .i64 n) ∧ w'.cell? ⟨w.heap.size, 1, none⟩ = some (.int .i64 d) ∧ w'.cell? ⟨w.heap.size, 2, none⟩ = some (.int .i64 c2) ∧ w'.cell? ⟨w.heap.size, 3, none⟩ = some (.int .i64 c3) ∧ w'.cell? ⟨w.heap.size, 4, none⟩ = some (.int .i64 c4) ∧ w'.cell? ⟨w.heap.size, 5, none⟩ = some (.int .i64 c5) ∧ w'.cell? ⟨w.heap.size, 6, none⟩ = some (.int .i64 c6) ∧ w'.cell? ⟨w.heap.size, 7, none⟩ = some (.int .i64 c7))
            (with_reducible assumption)
            (first
            | (go_at_call 126; refine (HSP.out _).mono ?_; rintro e u3 ⟨rfl, hb⟩; have hX3 : Bx u3 w.heap.size 23 #[.int .i64 n, .int .i64 d, .int .i64 c2, .int .i64 c3, .int .i64 c4, .int .i64 c5, .int .i64 c6, .int .i64 c7] := Bx.below (w := u2.drew) HX2.out hb; have hS4 := cfg_cells hX3; have HX3 := Hid.mk' hX3; have HB3 : Hid (Below w.heap.size w u3) := HB2.out.drew.trans (hb.mono HB2.out.size); clear hb HSP hS3 HB2 HX2 hX3)
            | (go_at_call 125; refine (HIN.out _ HB3.out).mono ?_; intro e u4 hio; obtain ⟨v, rfl, hb⟩ := hio.no HI.out; have hS5 := cfg_cells (HX3.out.below hb); have HB4 := Hid.mk' (HB3.out.trans (hb.mono HB3.out.size)); clear hb hio HIN HB3 HX3 hS4))
          clear hS5
          go_wp2
          go_ret2
          exact RefOut.no HNO.out HB4.out
      · have t7 : ((valN (pieceT T q (hLen T)) : Int) != (crc 16 98309 (T.take q) : Int)) = true := by simp; omega
        have HNO : Hid (∀ H, ¬ FrmP T n d c2 (hNum T) H) := fun H h => hS (HSI.out.1 h.2.2.2.1)
        clear hS
        generalize valN (pieceT T q (hLen T)) = vqk at *
        generalize crc 16 98309 (T.take q) = v16 at *
        go_region_with (first
          | (go_at_call 124; refine (HK.out _).mono ?_; rintro e w5 ⟨rfl, hw⟩; subst w5; clear HK)
          | (go_at_call 113; refine (H16.out _).mono ?_; rintro e u2 ⟨rfl, hb⟩; have HB2 : Hid (Below w.heap.size w u2) := HB1.out.drew.trans (hb.mono HB1.out.size); clear hb H16 HB1))
        go_wp2
        go_ret2
        exact RefOut.no HNO.out HB2.out
    · have t6 : ((n : Int) == 2) = false := by simp; omega
      have t6' : ((n : Int) != 2) = true := by simp; omega
      have HNO : Hid (∀ H, ¬ FrmP T n d c2 (hNum T) H) := fun H h => by have h1 := h.2.2.1.2.2; unfold modesN at h1; rw [if_neg (by omega)] at h1; omega
      go_wp2_with (first | (go_at_call 124; refine (H35.out _).mono ?_; rintro e w5 ⟨rfl, hw⟩; subst w5; clear H35) | (go_at_call 124; refine (H56.out _).mono ?_; rintro e w5 ⟨rfl, hw⟩; subst w5; clear H56) | (go_at_call 124; refine (H67.out _).mono ?_; rintro e w5 ⟨rfl, hw⟩; subst w5; clear H67))
      go_ret2
      exact RefOut.no HNO.out HB1.out
  · have HMP : Hid (MayP n c2 (hLen T) (hCnt T + 1) (hMode T) T.length) := ⟨⟨by omega, by omega⟩, by omega, by unfold modesN; split <;> omega⟩
    have HM0 : Hid (n ≠ 2 → hMode T = 0) := fun h => by omega
    go_wp2_with (first | (go_at_call 124; refine (H35.out _).mono ?_; rintro e w5 ⟨rfl, hw⟩; subst w5; clear H35) | (go_at_call 124; refine (H56.out _).mono ?_; rintro e w5 ⟨rfl, hw⟩; subst w5; clear H56) | (go_at_call 124; refine (H67.out _).mono ?_; rintro e w5 ⟨rfl, hw⟩; subst w5; clear H67))
    obtain ⟨q, hq⟩ : ∃ q, hLen T = q + 2 := ⟨hLen T - 2, by omega⟩
    have HQ := Hid.mk' hq
    have q8 : 8 ≤ q := by omega
    have qT : q + 2 ≤ T.length := by omega
    have wq : IntKind.i64.wrap ((hLen T : Int) - 2) = (q : Int) := by rw [IntKind.wrap_i64]; omega
    have j1 : (q : Int) ≤ (hLen T : Int) := by omega
    have j2 : (hLen T : Int) ≤ (T.length : Int) := by omega
    have j3 : (8 : Int) ≤ (q : Int) := by omega
    have j4 : (q : Int) ≤ (T.length : Int) := by omega
    have eqk : (bs T).extract q (hLen T) = bs (pieceT T q (hLen T)) := bs_cut T q (hLen T)
    have e0q : (bs T).extract 0 q = bs (T.take q) := bs_takeN T q
    have e8q : (bs T).extract 8 q = bs (insT T) := by rw [bs_cut]; unfold insT; rw [hq]; rfl
    have HLI : Hid ((insT T).length = q - 8) := by show _ = _; unfold insT; rw [hq, pieceT_length _ _ _ (by omega) (by omega)]; omega
    have HK := Hid.mk' (fun u => high_any (pieceT T q (hLen T)) u (by rw [pieceT_length _ _ _ (by omega) (by omega)]; omega))
    have H16 := Hid.mk' (fun u => ref16_bs (T.take q) u (by rw [List.length_take]; omega))
    have HSI : Hid (seal16 (T.take (hLen T - 2)) = T.take (hLen T) ↔ valN (pieceT T q (hLen T)) = crc 16 98309 (T.take q)) := by
      have := seal16_iff T (hLen T) (by omega) (by omega) (crc_lt 16 _ _)
      rw [hq, Nat.add_sub_cancel] at this
      rw [hq, Nat.add_sub_cancel]
      exact this
    have hXc := cfg_cells (u := u1.drew) HX.out
    clear hq
    generalize bs (T.take q) = P0q at *
    generalize bs (pieceT T q (hLen T)) = Pqk at *
    by_cases hS : valN (pieceT T q (hLen T)) = crc 16 98309 (T.take q)
    · have t7 : ((valN (pieceT T q (hLen T)) : Int) != (crc 16 98309 (T.take q) : Int)) = false := by simp; omega
      have HSY := Hid.mk' (HSI.out.2 hS)
      clear hS
      generalize valN (pieceT T q (hLen T)) = vqk at *
      generalize crc 16 98309 (T.take q) = v16 at *
      have HSP := Hid.mk' (fun u => spelt_bs (insT T) u (by rw [HLI.out]; omega))
      have HIN := Hid.mk' (fun (u : World) (hu : Below w.heap.size w u) => inside_any c2 c3 c4 c5 c6 c7 d n (hMode T) (hCnt T + 1) (spellTo (insT T) (insT T).length) (msgBit (insT T)) u (by omega) hd hn1 hn4 (by omega) HM0.out (by omega) (by omega) (by rw [spellTo_length, HLI.out]; omega) (spell_bits _) (tab_belowB hu HTA.out hT3) (Nat.lt_of_lt_of_le hT3 hu.size))
      rw [show ((hCnt T + 1 : Nat) : Int) = (hCnt T : Int) + 1 by omega] at HIN
      go_region_with (first
        | (go_at_call 124; refine (HK.out _).mono ?_; rintro e w5 ⟨rfl, hw⟩; subst w5; clear HK)
        | (go_at_call 113; refine (H16.out _).mono ?_; rintro e u2 ⟨rfl, hb⟩; have HB2 : Hid (Below w.heap.size w u2) := HB1.out.drew.trans (hb.mono HB1.out.size); have HX2 : Hid (Bx u2 w.heap.size 23 #[.int .i64 n, .int .i64 d, .int .i64 c2, .int .i64 c3, .int .i64 c4, .int .i64 c5, .int .i64 c6, .int .i64 c7]) := Bx.below (w := u1.drew) HX.out hb; clear hb H16 HB1 HX))
      clear x0 x2 hXc
      by_cases hI : ∃ H, InsP (spellTo (insT T) (insT T).length) (msgBit (insT T)) d n (hMode T) (hCnt T + 1) H
      · obtain ⟨H, hI⟩ := hI
        have HI := Hid.mk' hI
        clear hI
        have HY : Hid (∀ H, InsP (spellTo (insT T) (insT T).length) (msgBit (insT T)) d n (hMode T) (hCnt T + 1) H → FrmP T n d c2 (hNum T) H) := fun H h => ⟨HHP.out, rfl, HMP.out, HSY.out, h⟩
        generalize bs (spellTo (insT T) (insT T).length) = SS at *
        generalize bs (insT T) = SI at *
        go_wp2
        have hS3 := cfg_cells (u := u2.drew) HX2.out
        go_region_held3 (fun w' => w'.cell? ⟨w.heap.size, 0, none⟩ = some (.int .i64 n) ∧ w'.cell? ⟨w.heap.size, 1, none⟩ = some (.int .i64 d) ∧ w'.cell? ⟨w.heap.size, 2, none⟩ = some (.int .i64 c2) ∧ w'.cell? ⟨w.heap.size, 3, none⟩ = some (.int .i64 c3) ∧ w'.cell? ⟨w.heap.size, 4, none⟩ = some (.int .i64 c4) ∧ w'.cell? ⟨w.heap.size, 5, none⟩ = some (.int .i64 c5) ∧ w'.cell? ⟨w.heap.size, 6, none⟩ = some (.int .i64 c6) ∧ w'.cell? ⟨w.heap.size, 7, none⟩ = some (.int .i64 c7))
          (with_reducible assumption)
          (first
          | (go_at_call 126; refine (HSP.out _).mono ?_; rintro e u3 ⟨rfl, hb⟩; have hX3 : Bx u3 w.heap.size 23 #[.int .i64 n, .int .i64 d, .int .i64 c2, .int .i64 c3, .int .i64 c4, .int .i64 c5, .int .i64 c6, .int .i64 c7] := Bx.below (w := u2.drew) HX2.out hb; have hS4 := cfg_cells hX3; have HX3 := Hid.mk' hX3; have HB3 : Hid (Below w.heap.size w u3) := HB2.out.drew.trans (hb.mono HB2.out.size); clear hb HSP hS3 HB2 HX2 hX3)
          | (go_at_call 125; refine (HIN.out _ HB3.out).mono ?_; intro e u4 hio; obtain ⟨H', v, rfl, hI', hro, hb⟩ := hio.yes HI.out; have hS5 := cfg_cells (HX3.out.below hb); have HB4 := Hid.mk' (HB3.out.trans (hb.mono HB3.out.size)); have HRO := Hid.mk' (hro.mono HB3.out.size); have HI' := Hid.mk' hI'; clear hb hio hro hI' HIN HB3 HX3 hS4))
        obtain ⟨gv, cv, gsv, hv, hv2⟩ := HRO.out
        clear hv2
        subst hv
        clear hS5
        go_wp2
        go_ret2
        exact ⟨.inl ⟨H', _, HY.out H' HI'.out, rfl, HRO.out⟩, HB4.out⟩
      · have HI : Hid (∀ H, ¬ InsP (spellTo (insT T) (insT T).length) (msgBit (insT T)) d n (hMode T) (hCnt T + 1) H) := fun H h => hI ⟨H, h⟩
        clear hI
        have HNO : Hid (∀ H, ¬ FrmP T n d c2 (hNum T) H) := fun H h => HI.out H h.2.2.2.2
        generalize bs (spellTo (insT T) (insT T).length) = SS at *
        generalize bs (insT T) = SI at *
        go_wp2
        have hS3 := cfg_cells (u := u2.drew) HX2.out
        go_region_held3 (fun w' => w'.cell? ⟨w.heap.size, 0, none⟩ = some (.int .i64 n) ∧ w'.cell? ⟨w.heap.size, 1, none⟩ = some (.int .i64 d) ∧ w'.cell? ⟨w.heap.size, 2, none⟩ = some (.int .i64 c2) ∧ w'.cell? ⟨w.heap.size, 3, none⟩ = some (.int .i64 c3) ∧ w'.cell? ⟨w.heap.size, 4, none⟩ = some (.int .i64 c4) ∧ w'.cell? ⟨w.heap.size, 5, none⟩ = some (.int .i64 c5) ∧ w'.cell? ⟨w.heap.size, 6, none⟩ = some (.int .i64 c6) ∧ w'.cell? ⟨w.heap.size, 7, none⟩ = some (.int .i64 c7))
          (with_reducible assumption)
          (first
          | (go_at_call 126; refine (HSP.out _).mono ?_; rintro e u3 ⟨rfl, hb⟩; have hX3 : Bx u3 w.heap.size 23 #[.int .i64 n, .int .i64 d, .int .i64 c2, .int .i64 c3, .int .i64 c4, .int .i64 c5, .int .i64 c6, .int .i64 c7] := Bx.below (w := u2.drew) HX2.out hb; have hS4 := cfg_cells hX3; have HX3 := Hid.mk' hX3; have HB3 : Hid (Below w.heap.size w u3) := HB2.out.drew.trans (hb.mono HB2.out.size); clear hb HSP hS3 HB2 HX2 hX3)
          | (go_at_call 125; refine (HIN.out _ HB3.out).mono ?_; intro e u4 hio; obtain ⟨v, rfl, hb⟩ := hio.no HI.out; have hS5 := cfg_cells (HX3.out.below hb); have HB4 := Hid.mk' (HB3.out.trans (hb.mono HB3.out.size)); clear hb hio HIN HB3 HX3 hS4))
        clear hS5
        go_wp2
        go_ret2
        exact RefOut.no HNO.out HB4.out
    · have t7 : ((valN (pieceT T q (hLen T)) : Int) != (crc 16 98309 (T.take q) : Int)) = true := by simp; omega
      have HNO : Hid (∀ H, ¬ FrmP T n d c2 (hNum T) H) := fun H h => hS (HSI.out.1 h.2.2.2.1)
      clear hS
      generalize valN (pieceT T q (hLen T)) = vqk at *
      generalize crc 16 98309 (T.take q) = v16 at *
      go_region_with (first
        | (go_at_call 124; refine (HK.out _).mono ?_; rintro e w5 ⟨rfl, hw⟩; subst w5; clear HK)
        | (go_at_call 113; refine (H16.out _).mono ?_; rintro e u2 ⟨rfl, hb⟩; have HB2 : Hid (Below w.heap.size w u2) := HB1.out.drew.trans (hb.mono HB1.out.size); clear hb H16 HB1))
      go_wp2
      go_ret2
      exact RefOut.no HNO.out HB2.out
end Go.Proofs.YtlncjgnomhpjnaaGreatDoor

