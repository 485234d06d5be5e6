import Derived.Test.YtlncjgnomhpjnabGreatDoorQU29
import Derived.Test.YtlncjgnomhpjnabGreatDoorQU18
import Derived.Test.YtlncjgnomhpjnabGreatDoorQU20
import Derived.Test.YtlncjgnomhpjnabGreatDoorQU21
import Derived.Deep.RegionHeld3
/-
  The program reads a frame: frame.Read.
-/
namespace Go.Proofs.YtlncjgnomhpjnabGreatDoor
open Go.RowKit Go.Deep
set_option linter.unusedVariables false
/-- a frame's bytes between its head and its Sixteen -/
def insT (T : List UInt8) : List UInt8 := pieceT T 8 (hLen T - 2)
/-- a text begins with a frame of these samples -/
def FrmP (T : List UInt8) (n d : Nat) (c2 number : Int) (H : Nat → Nat → Int) : Prop :=
  HeadP T ∧ (hNum T : Int) = number ∧ MayP n c2 (hLen T) (hCnt T + 1) (hMode T) T.length ∧ seal16 (T.take (hLen T - 2)) = T.take (hLen T) ∧
  InsP (spellTo (insT T) (insT T).length) (msgBit (insT T)) d n (hMode T) (hCnt T + 1) H
def noRead : Value := .tuple #[.slice none 0 0, .int .i64 0, .bool false]
/-- what reading a frame gives -/
def FrOut (e : Ending) (w w' : World) (T : List UInt8) (n d : Nat) (c2 number : Int) : Prop :=
  ((∃ H g c gs, FrmP T n d c2 number H ∧ e = .returned (.tuple #[.slice (some ⟨g, 0, none⟩) n c, .int .i64 (hLen T), .bool true]) ∧ w'.ownsRow w.heap.size 30 1 (.slice (some ⟨g, 0, none⟩) n c) n (rowL (hCnt T + 1) gs n) ∧ (∀ k, k < n → w'.rowIs (gs k) 3 (hCnt T + 1) (cutV (hCnt T + 1) (H k)) ∧ w.heap.size ≤ gs k) ∧ ∀ k l, k < n → l < n → k ≠ l → gs k ≠ gs l)
   ∨ ((∀ H, ¬ FrmP T n d c2 number H) ∧ e = .returned noRead)) ∧ Below w.heap.size w w'
theorem FrOut.no {w w' : World} {T : List UInt8} {n d : Nat} {c2 number : Int} (h : ∀ H, ¬ FrmP T n d c2 number H) (hb : Below w.heap.size w w') : FrOut (.returned noRead) w w' T n d c2 number := ⟨.inr ⟨h, rfl⟩, hb⟩
theorem spell_bits (B : List UInt8) : Bits (bs (spellTo B B.length)) (msgBit B) := by
  intro j hj
  rw [bs_get]
  simp [spellTo]
theorem readSubs_any (c2 c3 c4 c5 c6 c7 : Int) (num len d n m nn : Nat) (BT : List UInt8) (b : Nat → Bool) (w : World) (hd1 : 1 ≤ d) (hd : d ≤ 12) (hn1 : 1 ≤ n) (hn4 : n ≤ 4) (hm : m < 4) (hnn : nn ≤ 32) (hBT : BT.length ≤ 80000) (hb : Bits (bs BT) b) (hT : TabsU w) :
    Calls Tryz.prog 206 #[.agg #[.int .i64 n, .int .i64 d, .int .i64 c2, .int .i64 c3, .int .i64 c4, .int .i64 c5, .int .i64 c6, .int .i64 c7], .agg #[.int .i64 num, .int .i64 len, .int .i64 nn, .int .i64 m], .string (bs BT)] w fun e w' => SubsOut e w w' BT b d n m nn := by
  by_cases h2 : n = 2
  · exact readSubs_two c2 c3 c4 c5 c6 c7 num len d n m nn BT b w hd1 hd hn1 hn4 hm hnn hBT hb hT h2
  · exact readSubs_ne c2 c3 c4 c5 c6 c7 num len d n m nn BT b w hd1 hd hn1 hn4 hm hnn hBT hb hT h2
set_option maxRecDepth 4000 in
set_option maxHeartbeats 2000000 in
theorem frameRead_nohead (c2 c3 c4 c5 c6 c7 : Int) (n d : Nat) (number : Int) (T : List UInt8) (w : World) (hs : T.length ≤ 9000) (hH : ¬ HeadP T) :
    Calls Tryz.prog 138 #[.agg #[.int .i64 n, .int .i64 d, .int .i64 c2, .int .i64 c3, .int .i64 c4, .int .i64 c5, .int .i64 c6, .int .i64 c7], .int .i64 number, .string (bs T)] w fun e w' => FrOut e w w' T n d c2 number := by
  have HB0 : Hid (Below w.heap.size w (w.alloc (.cells #[.int .i64 n, .int .i64 d, .int .i64 c2, .int .i64 c3, .int .i64 c4, .int .i64 c5, .int .i64 c6, .int .i64 c7] 23))) := (Below.refl _ _).alloc (Nat.le_refl _) _
  have HRH := Hid.mk' (fun u => readHead_no T u (by omega) hH)
  have HNO : Hid (∀ H, ¬ FrmP T n d c2 number H) := fun H h => hH h.1
  clear hH hs
  generalize bs T = S at *
  unfold noHead at HRH
  go_enter Tryz.func138, Tryz.ntmps138
  go_wp2_with (go_at_call 204; refine (HRH.out _).mono ?_; rintro e u1 ⟨rfl, hb⟩; have HB1 := Hid.mk' (HB0.out.trans (hb.mono (by simp))); clear hb HRH HB0)
  go_ret3
  exact FrOut.no HNO.out (HB1.out.alloc HB1.out.size _)
set_option maxRecDepth 4000 in
set_option maxHeartbeats 2000000 in
theorem frameRead_num (c2 c3 c4 c5 c6 c7 : Int) (n d : Nat) (number : Int) (T : List UInt8) (w : World) (hs : T.length ≤ 9000) (hH : HeadP T) (hN : ¬ (hNum T : Int) = number) :
    Calls Tryz.prog 138 #[.agg #[.int .i64 n, .int .i64 d, .int .i64 c2, .int .i64 c3, .int .i64 c4, .int .i64 c5, .int .i64 c6, .int .i64 c7], .int .i64 number, .string (bs T)] w fun e w' => FrOut e w w' T n d c2 number := by
  have HB0 : Hid (Below w.heap.size w (w.alloc (.cells #[.int .i64 n, .int .i64 d, .int .i64 c2, .int .i64 c3, .int .i64 c4, .int .i64 c5, .int .i64 c6, .int .i64 c7] 23))) := (Below.refl _ _).alloc (Nat.le_refl _) _
  have HRH := Hid.mk' (fun u => readHead_yes T u (by omega) hH)
  have hc : ((hCnt T : Int) + 1) = ((hCnt T + 1 : Nat) : Int) := by omega
  rw [hc] at HRH
  clear hc
  have HNO : Hid (∀ H, ¬ FrmP T n d c2 number H) := fun H h => hN h.2.1
  have tN : ((hNum T : Int) == number) = false := by simpa using hN
  clear hH hs
  generalize hCnt T + 1 = nn at *
  generalize hNum T = hn at *
  generalize hLen T = k at *
  generalize hMode T = m at *
  generalize bs T = S at *
  go_enter Tryz.func138, Tryz.ntmps138
  go_wp2_with (go_at_call 204; refine (HRH.out _).mono ?_; rintro e u1 ⟨rfl, hb⟩; have HB1 := Hid.mk' (HB0.out.trans (hb.mono (by simp))); clear hb HRH HB0)
  go_ret3
  exact FrOut.no HNO.out (HB1.out.alloc HB1.out.size _)
set_option maxRecDepth 4000 in
set_option maxHeartbeats 2000000 in
theorem frameRead_may (c2 c3 c4 c5 c6 c7 : Int) (n d : Nat) (T : List UInt8) (w : World) (hs : T.length ≤ 9000) (hH : HeadP T) (hM : ¬ MayP n c2 (hLen T) (hCnt T + 1) (hMode T) T.length) :
    Calls Tryz.prog 138 #[.agg #[.int .i64 n, .int .i64 d, .int .i64 c2, .int .i64 c3, .int .i64 c4, .int .i64 c5, .int .i64 c6, .int .i64 c7], .int .i64 (hNum T), .string (bs T)] w fun e w' => FrOut e w w' T n d c2 (hNum T) := by
  have HB0 : Hid (Below w.heap.size w (w.alloc (.cells #[.int .i64 n, .int .i64 d, .int .i64 c2, .int .i64 c3, .int .i64 c4, .int .i64 c5, .int .i64 c6, .int .i64 c7] 23))) := (Below.refl _ _).alloc (Nat.le_refl _) _
  have HRH := Hid.mk' (fun u => readHead_yes T u (by omega) hH)
  have hc : ((hCnt T : Int) + 1) = ((hCnt T + 1 : Nat) : Int) := by omega
  rw [hc] at HRH
  clear hc
  have HC1 : Hid (∀ u, Below (w.alloc (.cells #[.int .i64 n, .int .i64 d, .int .i64 c2, .int .i64 c3, .int .i64 c4, .int .i64 c5, .int .i64 c6, .int .i64 c7] 23)).heap.size (w.alloc (.cells #[.int .i64 n, .int .i64 d, .int .i64 c2, .int .i64 c3, .int .i64 c4, .int .i64 c5, .int .i64 c6, .int .i64 c7] 23)) u → Bx u w.heap.size 23 #[.int .i64 n, .int .i64 d, .int .i64 c2, .int .i64 c3, .int .i64 c4, .int .i64 c5, .int .i64 c6, .int .i64 c7]) := fun u hu => (Bx.new _ _ _).below hu
  have hz : (bs T).size = T.length := bs_size T
  have HNO : Hid (∀ H, ¬ FrmP T n d c2 (hNum T) H) := fun H h => hM h.2.2.1
  have HMB := Hid.mk' (fun u => mayBe_any (hNum T) (hLen T) (hCnt T + 1) (hMode T) T.length n d c2 c3 c4 c5 c6 c7 u (by omega))
  have HM := Hid.mk' hM
  have tN : ((hNum T : Int) == (hNum T : Int)) = true := by simp
  clear hH hM
  generalize hCnt T + 1 = nn at *
  generalize hNum T = hn at *
  generalize hLen T = k at *
  generalize hMode T = m at *
  generalize bs T = S at *
  generalize T.length = nT at *
  clear hs
  go_enter Tryz.func138, Tryz.ntmps138
  go_wp2_with (first
    | (go_at_call 204; refine (HRH.out _).mono ?_; rintro e u1 ⟨rfl, hb⟩; have HB1 := Hid.mk' (HB0.out.trans (hb.mono (by simp))); have hC := HC1.out _ hb; have HC2 := Hid.mk' hC; have hlt := hC.lt; have x0 := hC.cell 0; have x1 := hC.cell 1; have x2 := hC.cell 2; have x3 := hC.cell 3; have x4 := hC.cell 4; have x5 := hC.cell 5; have x6 := hC.cell 6; have x7 := hC.cell 7; clear hb HRH HB0 HC1 hC)
    | (go_at_call 205; refine (HMB.out _).mono ?_; rintro e u2 ⟨he, hb⟩; have he := he.false_of HM.out; subst he; have HB2 := Hid.mk' ((HB1.out.alloc HB1.out.size _).trans (hb.mono (Nat.le_trans HB1.out.size (by simp)))); clear hb HMB HB1 HC2 x0 x1 x2 x3 x4 x5 x6 x7))
  go_ret3
  exact FrOut.no HNO.out HB2.out
set_option maxRecDepth 4000 in
set_option maxHeartbeats 2000000 in
theorem frameRead_seal (c2 c3 c4 c5 c6 c7 : Int) (n d : Nat) (T : List UInt8) (w : World) (hs : T.length ≤ 9000) (hH : HeadP T) (hM : MayP n c2 (hLen T) (hCnt T + 1) (hMode T) T.length) (hS : ¬ seal16 (T.take (hLen T - 2)) = T.take (hLen T)) :
    Calls Tryz.prog 138 #[.agg #[.int .i64 n, .int .i64 d, .int .i64 c2, .int .i64 c3, .int .i64 c4, .int .i64 c5, .int .i64 c6, .int .i64 c7], .int .i64 (hNum T), .string (bs T)] w fun e w' => FrOut e w w' T n d c2 (hNum T) := by
  have HB0 : Hid (Below w.heap.size w (w.alloc (.cells #[.int .i64 n, .int .i64 d, .int .i64 c2, .int .i64 c3, .int .i64 c4, .int .i64 c5, .int .i64 c6, .int .i64 c7] 23))) := (Below.refl _ _).alloc (Nat.le_refl _) _
  have HRH := Hid.mk' (fun u => readHead_yes T u (by omega) hH)
  have hc : ((hCnt T : Int) + 1) = ((hCnt T + 1 : Nat) : Int) := by omega
  rw [hc] at HRH
  clear hc
  have HC1 : Hid (∀ u, Below (w.alloc (.cells #[.int .i64 n, .int .i64 d, .int .i64 c2, .int .i64 c3, .int .i64 c4, .int .i64 c5, .int .i64 c6, .int .i64 c7] 23)).heap.size (w.alloc (.cells #[.int .i64 n, .int .i64 d, .int .i64 c2, .int .i64 c3, .int .i64 c4, .int .i64 c5, .int .i64 c6, .int .i64 c7] 23)) u → Bx u w.heap.size 23 #[.int .i64 n, .int .i64 d, .int .i64 c2, .int .i64 c3, .int .i64 c4, .int .i64 c5, .int .i64 c6, .int .i64 c7]) := fun u hu => (Bx.new _ _ _).below hu
  have hz : (bs T).size = T.length := bs_size T
  have HMB := Hid.mk' (fun u => mayBe_any (hNum T) (hLen T) (hCnt T + 1) (hMode T) T.length n d c2 c3 c4 c5 c6 c7 u (by omega))
  have HM := Hid.mk' hM
  have tN : ((hNum T : Int) == (hNum T : Int)) = true := by simp
  have hk1 := hM.1.1
  have hk2 := hM.1.2
  have HLT : Hid ((T.take (hLen T)).length = hLen T) := by show _ = _; rw [List.length_take]; omega
  have hcut : (bs T).extract 0 (hLen T) = bs (T.take (hLen T)) := bs_takeN _ _
  have hz1 : (bs (T.take (hLen T))).size = hLen T := by rw [bs_size]; exact HLT.out
  have HSE := Hid.mk' (fun u => isSealed16_any (T.take (hLen T)) u (by rw [HLT.out]; omega))
  have HSQ : Hid ((2 ≤ (T.take (hLen T)).length ∧ seal16 ((T.take (hLen T)).take ((T.take (hLen T)).length - 2)) = T.take (hLen T)) ↔ seal16 (T.take (hLen T - 2)) = T.take (hLen T)) := by
    show _ ↔ _
    rw [HLT.out, List.take_take, Nat.min_eq_left (by omega)]
    exact ⟨fun h => h.2, fun h => ⟨by omega, h⟩⟩
  have HSN := Hid.mk' (fun h => hS (HSQ.out.1 h))
  have HNO : Hid (∀ H, ¬ FrmP T n d c2 (hNum T) H) := fun H h => hS h.2.2.2.1
  clear hH hM hS HSQ HLT
  generalize bs (T.take (hLen T)) = SK at *
  generalize hCnt T + 1 = nn at *
  generalize hNum T = hn at *
  generalize hLen T = k at *
  generalize hMode T = m at *
  generalize bs T = S at *
  generalize T.length = nT at *
  clear hs
  go_enter Tryz.func138, Tryz.ntmps138
  go_wp2_with (first
    | (go_at_call 204; refine (HRH.out _).mono ?_; rintro e u1 ⟨rfl, hb⟩; have HB1 := Hid.mk' (HB0.out.trans (hb.mono (by simp))); have hC := HC1.out _ hb; have HC2 := Hid.mk' hC; have hlt := hC.lt; have x0 := hC.cell 0; have x1 := hC.cell 1; have x2 := hC.cell 2; have x3 := hC.cell 3; have x4 := hC.cell 4; have x5 := hC.cell 5; have x6 := hC.cell 6; have x7 := hC.cell 7; clear hb HRH HB0 HC1 hC)
    | (go_at_call 205; refine (HMB.out _).mono ?_; rintro e u2 ⟨he, hb⟩; have he := he.true_of HM.out; subst he; have HB2 := Hid.mk' ((HB1.out.alloc HB1.out.size _).trans (hb.mono (Nat.le_trans HB1.out.size (by simp)))); have hC := (HC2.out.alloc _).below hb; have hD := (Bx.new u1 _ _).below hb; have hq := hD.lt; have y0 := hD.cell 0; have y1 := hD.cell 1; have y2 := hD.cell 2; have y3 := hD.cell 3; clear x0 x1 x2 x3 x4 x5 x6 x7; replace HC2 := Hid.mk' hC; have HH2 := Hid.mk' hD; clear hb HMB HB1 hC hD)
    | (go_at_call 135; refine (HSE.out _).mono ?_; rintro e u3 ⟨he, hb⟩; have he := he.false_of HSN.out; subst he; have HB3 := Hid.mk' (HB2.out.trans (hb.mono HB2.out.size)); clear hb HSE HB2 HC2 HH2 y0 y1 y2 y3))
  go_ret3
  exact FrOut.no HNO.out HB3.out
end Go.Proofs.YtlncjgnomhpjnabGreatDoor

/-
  The program reads a frame: frame.Read, whole.
-/
namespace Go.Proofs.YtlncjgnomhpjnabGreatDoor
open Go.RowKit Go.Deep
set_option linter.unusedVariables false
theorem own_mono {w : World} {base base' : Nat} {e : TypeId} {size : Nat} {v : Value} {n : Nat} {xs : List Value} (h : w.ownsRow base e size v n xs) (hb : base' ≤ base) : w.ownsRow base' e size v n xs :=
  ⟨h.1, h.2.imp id fun ⟨g, cap, cur, e1, e2, e3⟩ => ⟨g, cap, cur, e1, Nat.le_trans hb e2, e3⟩⟩
theorem SubsOut.yes {e : Ending} {w w' : World} {BT : List UInt8} {b : Nat → Bool} {d n m nn : Nat} {H : Nat → Nat → Int} (h : SubsOut e w w' BT b d n m nn) (hI : InsP BT b d n m nn H) :
    ∃ H g c gs, e = .returned (.tuple #[.slice (some ⟨g, 0, none⟩) n c, .bool true]) ∧ InsP BT b d n m nn H ∧ w'.ownsRow w.heap.size 30 1 (.slice (some ⟨g, 0, none⟩) n c) n (rowL nn gs n) ∧ (∀ k, k < n → w'.rowIs (gs k) 3 nn (cutV nn (H k)) ∧ w.heap.size ≤ gs k) ∧ (∀ k l, k < n → l < n → k ≠ l → gs k ≠ gs l) ∧ Below w.heap.size w w' := by
  rcases h with ⟨⟨H', g, c, gs, h1, h2, h3, h4, h5⟩ | ⟨v, hno, -⟩, hb⟩
  · exact ⟨H', g, c, gs, h2, h1, h3, h4, h5, hb⟩
  · exact absurd hI (hno H)
theorem SubsOut.no {e : Ending} {w w' : World} {BT : List UInt8} {b : Nat → Bool} {d n m nn : Nat} (h : SubsOut e w w' BT b d n m nn) (hI : ∀ H, ¬ InsP BT b d n m nn H) : ∃ v, e = .returned (.tuple #[v, .bool false]) ∧ Below w.heap.size w w' := by
  rcases h with ⟨⟨H', g, c, gs, h1, -⟩ | ⟨v, -, h2⟩, hb⟩
  · exact absurd h1 (hI H')
  · exact ⟨v, h2, hb⟩
theorem fr_cells {u : World} {p q : Nat} {a0 a1 a2 a3 a4 a5 a6 a7 b0 b1 b2 b3 : Value} (hC : Bx u p 23 #[a0, a1, a2, a3, a4, a5, a6, a7]) (hD : Bx u q 203 #[b0, b1, b2, b3]) :
    u.cell? ⟨p, 0, none⟩ = some a0 ∧ u.cell? ⟨p, 1, none⟩ = some a1 ∧ u.cell? ⟨p, 2, none⟩ = some a2 ∧ u.cell? ⟨p, 3, none⟩ = some a3 ∧ u.cell? ⟨p, 4, none⟩ = some a4 ∧ u.cell? ⟨p, 5, none⟩ = some a5 ∧ u.cell? ⟨p, 6, none⟩ = some a6 ∧ u.cell? ⟨p, 7, none⟩ = some a7 ∧
    u.cell? ⟨q, 0, none⟩ = some b0 ∧ u.cell? ⟨q, 1, none⟩ = some b1 ∧ u.cell? ⟨q, 2, none⟩ = some b2 ∧ u.cell? ⟨q, 3, none⟩ = some b3 :=
  ⟨hC.cell 0, hC.cell 1, hC.cell 2, hC.cell 3, hC.cell 4, hC.cell 5, hC.cell 6, hC.cell 7, hD.cell 0, hD.cell 1, hD.cell 2, hD.cell 3⟩
set_option maxRecDepth 4000 in
set_option maxHeartbeats 2000000 in
theorem frameRead_good (c2 c3 c4 c5 c6 c7 : Int) (n d : Nat) (T : List UInt8) (w : World) (hs : T.length ≤ 9000) (hd1 : 4 ≤ d) (hd : d ≤ 12) (hn1 : 1 ≤ n) (hn4 : n ≤ 4) (h2 : c2 ≤ 32) (hT : TabsU w) (hH : HeadP T) (hM : MayP n c2 (hLen T) (hCnt T + 1) (hMode T) T.length) (hS : seal16 (T.take (hLen T - 2)) = T.take (hLen T)) (H : Nat → Nat → Int) (hI : InsP (spellTo (insT T) (insT T).length) (msgBit (insT T)) d n (hMode T) (hCnt T + 1) H) :
    Calls Tryz.prog 138 #[.agg #[.int .i64 n, .int .i64 d, .int .i64 c2, .int .i64 c3, .int .i64 c4, .int .i64 c5, .int .i64 c6, .int .i64 c7], .int .i64 (hNum T), .string (bs T)] w fun e w' => FrOut e w w' T n d c2 (hNum T) := by
  have HB0 : Hid (Below w.heap.size w (w.alloc (.cells #[.int .i64 n, .int .i64 d, .int .i64 c2, .int .i64 c3, .int .i64 c4, .int .i64 c5, .int .i64 c6, .int .i64 c7] 23))) := (Below.refl _ _).alloc (Nat.le_refl _) _
  have HRH := Hid.mk' (fun u => readHead_yes T u (by omega) hH)
  have hc : ((hCnt T : Int) + 1) = ((hCnt T + 1 : Nat) : Int) := by omega
  rw [hc] at HRH
  clear hc
  have HC1 : Hid (∀ u, Below (w.alloc (.cells #[.int .i64 n, .int .i64 d, .int .i64 c2, .int .i64 c3, .int .i64 c4, .int .i64 c5, .int .i64 c6, .int .i64 c7] 23)).heap.size (w.alloc (.cells #[.int .i64 n, .int .i64 d, .int .i64 c2, .int .i64 c3, .int .i64 c4, .int .i64 c5, .int .i64 c6, .int .i64 c7] 23)) u → Bx u w.heap.size 23 #[.int .i64 n, .int .i64 d, .int .i64 c2, .int .i64 c3, .int .i64 c4, .int .i64 c5, .int .i64 c6, .int .i64 c7]) := fun u hu => (Bx.new _ _ _).below hu
  have hz : (bs T).size = T.length := bs_size T
  have HMB := Hid.mk' (fun u => mayBe_any (hNum T) (hLen T) (hCnt T + 1) (hMode T) T.length n d c2 c3 c4 c5 c6 c7 u (by omega))
  have HM := Hid.mk' hM
  have tN : ((hNum T : Int) == (hNum T : Int)) = true := by simp
  have hk1 := hM.1.1
  have hk2 := hM.1.2
  have HLT : Hid ((T.take (hLen T)).length = hLen T) := by show _ = _; rw [List.length_take]; omega
  have hcut : (bs T).extract 0 (hLen T) = bs (T.take (hLen T)) := bs_takeN _ _
  have hz1 : (bs (T.take (hLen T))).size = hLen T := by rw [bs_size]; exact HLT.out
  have HSE := Hid.mk' (fun u => isSealed16_any (T.take (hLen T)) u (by rw [HLT.out]; omega))
  have HSQ : Hid ((2 ≤ (T.take (hLen T)).length ∧ seal16 ((T.take (hLen T)).take ((T.take (hLen T)).length - 2)) = T.take (hLen T)) ↔ seal16 (T.take (hLen T - 2)) = T.take (hLen T)) := by
    show _ ↔ _
    rw [HLT.out, List.take_take, Nat.min_eq_left (by omega)]
    exact ⟨fun h => h.2, fun h => ⟨by omega, h⟩⟩
  have hnn : hCnt T + 1 ≤ 32 := by have := hM.2.1; omega
  have hm4 : hMode T < 4 := by
    have := hM.2.2
    unfold modesN at this
    split at this <;> omega
  have HLI : Hid ((insT T).length = hLen T - 2 - 8) := by show _ = _; unfold insT; rw [pieceT_length _ _ _ (by omega) (by omega)]
  have hcut2 : (bs (T.take (hLen T))).extract 8 (hLen T - 2) = bs (insT T) := by
    rw [bs_cut]
    unfold insT pieceT
    rw [List.drop_take, List.take_take]
    congr 2; omega
  have w1 : IntKind.i64.wrap ((hLen T : Int) - 2) = (hLen T : Int) - 2 := by rw [IntKind.wrap_i64]; omega
  have tn : ((hLen T : Int) - 2).toNat = hLen T - 2 := by omega
  have c1 : (8 : Int) ≤ (hLen T : Int) - 2 := by omega
  have c3' : (hLen T : Int) - 2 ≤ (hLen T : Int) := by omega
  have HSY := Hid.mk' (HSQ.out.2 hS)
  have HOB := Hid.mk' (fun u => ofBytes_any (insT T) u (by rw [HLI.out]; omega))
  have HRS := Hid.mk' (fun (u : World) (hu : Below w.heap.size w u) => readSubs_any c2 c3 c4 c5 c6 c7 (hNum T) (hLen T) d n (hMode T) (hCnt T + 1) (spellTo (insT T) (insT T).length) (msgBit (insT T)) u (by omega) hd hn1 hn4 hm4 hnn (by rw [spellTo_length, HLI.out]; omega) (spell_bits _) (hT.below hu))
  have HY : Hid (∀ H, InsP (spellTo (insT T) (insT T).length) (msgBit (insT T)) d n (hMode T) (hCnt T + 1) H → FrmP T n d c2 (hNum T) H) := fun H h => ⟨hH, rfl, HM.out, hS, h⟩
  have HI := Hid.mk' hI
  clear hI
  have HNN : Hid ((∀ H, ¬ InsP (spellTo (insT T) (insT T).length) (msgBit (insT T)) d n (hMode T) (hCnt T + 1) H) → ∀ H, ¬ FrmP T n d c2 (hNum T) H) := fun h H h' => h H h'.2.2.2.2
  clear hH hM hS HSQ HLT HLI hT
  generalize bs (spellTo (insT T) (insT T).length) = SB at *
  generalize bs (insT T) = SI at *
  generalize bs (T.take (hLen T)) = SK at *
  generalize hEN : hCnt T + 1 = nn at *
  have HEN := Hid.mk' hEN
  clear hEN
  generalize hNum T = hn at *
  generalize hEK : hLen T = k at *
  have HEK := Hid.mk' hEK
  clear hEK
  generalize hMode T = m at *
  generalize bs T = S at *
  generalize T.length = nT at *
  clear hs
  go_enter Tryz.func138, Tryz.ntmps138
  go_wp2_with (first
    | (go_at_call 204; refine (HRH.out _).mono ?_; rintro e u1 ⟨rfl, hb⟩; have HB1 := Hid.mk' (HB0.out.trans (hb.mono (by simp))); have hC := HC1.out _ hb; have HC2 := Hid.mk' hC; have hlt := hC.lt; have x0 := hC.cell 0; have x1 := hC.cell 1; have x2 := hC.cell 2; have x3 := hC.cell 3; have x4 := hC.cell 4; have x5 := hC.cell 5; have x6 := hC.cell 6; have x7 := hC.cell 7; clear hb HRH HB0 HC1 hC)
    | (go_at_call 205; refine (HMB.out _).mono ?_; rintro e u2 ⟨he, hb⟩; have he := he.true_of HM.out; subst he; have HB2 := Hid.mk' ((HB1.out.alloc HB1.out.size _).trans (hb.mono (Nat.le_trans HB1.out.size (by simp)))); have hC := (HC2.out.alloc _).below hb; have hD := (Bx.new u1 _ _).below hb; have hq := hD.lt; have y0 := hD.cell 0; have y1 := hD.cell 1; have y2 := hD.cell 2; have y3 := hD.cell 3; clear x0 x1 x2 x3 x4 x5 x6 x7; replace HC2 := Hid.mk' hC; have HH2 := Hid.mk' hD; clear hb HMB HB1 hC hD)
    | (go_at_call 135; refine (HSE.out _).mono ?_; rintro e u3 ⟨he, hb⟩; have he := he.true_of HSY.out; subst he; have HB3 := Hid.mk' (HB2.out.trans (hb.mono HB2.out.size)); have HC3 := Hid.mk' (HC2.out.below hb); have HH3 := Hid.mk' (HH2.out.below hb); clear hb HSE HB2 HC2 HH2 y0 y1 y2 y3))
  have hS3 := fr_cells (u := u3.drew) HC3.out HH3.out
  go_region_held3 (fun w' => w'.cell? ⟨w.heap.size, 0, none⟩ = some (.int .i64 n) ∧ w'.cell? ⟨w.heap.size, 1, none⟩ = some (.int .i64 d) ∧ w'.cell? ⟨w.heap.size, 2, none⟩ = some (.int .i64 c2) ∧ w'.cell? ⟨w.heap.size, 3, none⟩ = some (.int .i64 c3) ∧ w'.cell? ⟨w.heap.size, 4, none⟩ = some (.int .i64 c4) ∧ w'.cell? ⟨w.heap.size, 5, none⟩ = some (.int .i64 c5) ∧ w'.cell? ⟨w.heap.size, 6, none⟩ = some (.int .i64 c6) ∧ w'.cell? ⟨w.heap.size, 7, none⟩ = some (.int .i64 c7) ∧ w'.cell? ⟨u1.heap.size, 0, none⟩ = some (.int .i64 hn) ∧ w'.cell? ⟨u1.heap.size, 1, none⟩ = some (.int .i64 k) ∧ w'.cell? ⟨u1.heap.size, 2, none⟩ = some (.int .i64 nn) ∧ w'.cell? ⟨u1.heap.size, 3, none⟩ = some (.int .i64 m))
    (with_reducible assumption)
    (first
    | (go_at_call 207; refine (HOB.out _).mono ?_; rintro e u4 ⟨rfl, hb⟩; have hC4 : Bx u4 w.heap.size 23 #[.int .i64 n, .int .i64 d, .int .i64 c2, .int .i64 c3, .int .i64 c4, .int .i64 c5, .int .i64 c6, .int .i64 c7] := Bx.below (w := u3.drew) HC3.out hb; have hH4 : Bx u4 u1.heap.size 203 #[.int .i64 hn, .int .i64 k, .int .i64 nn, .int .i64 m] := Bx.below (w := u3.drew) HH3.out hb; have hS4 := fr_cells hC4 hH4; have HC4 := Hid.mk' hC4; have HH4 := Hid.mk' hH4; have HB4 : Hid (Below w.heap.size w u4) := HB3.out.drew.trans (hb.mono HB3.out.size); clear hb HOB hS3 HB3 HC3 HH3 hC4 hH4)
    | (go_at_call 206; refine (HRS.out _ HB4.out).mono ?_; intro e u5 hso; obtain ⟨H', g, c, gs, rfl, hI', hown, hrows, hap, hb⟩ := hso.yes HI.out; have hS5 := fr_cells (HC4.out.below hb) (HH4.out.below hb); have HB5 := Hid.mk' (HB4.out.trans (hb.mono HB4.out.size)); have HH5 := Hid.mk' (HH4.out.below hb); have HW : Hid (u5.ownsRow w.heap.size 30 1 (.slice (some ⟨g, 0, none⟩) n c) n (rowL nn gs n) ∧ (∀ k, k < n → u5.rowIs (gs k) 3 nn (cutV nn (H' k)) ∧ w.heap.size ≤ gs k) ∧ ∀ k l, k < n → l < n → k ≠ l → gs k ≠ gs l) := ⟨own_mono hown HB4.out.size, fun k hk => ⟨(hrows k hk).1, Nat.le_trans HB4.out.size (hrows k hk).2⟩, hap⟩; have HI' := Hid.mk' hI'; clear hb HRS hS4 hso hown hrows hap hI' HB4 HC4 HH4))
  have z1 : u5.drew.cell? ⟨u1.heap.size, 1, none⟩ = some (.int .i64 k) := HH5.out.cell 1
  clear hS5
  go_wp2
  go_region_held3 (fun w' => w'.cell? ⟨u1.heap.size, 1, none⟩ = some (.int .i64 k))
    (with_reducible assumption)
    (fail)
  go_wp2
  go_ret3
  have e1 := HEN.out
  have e2 := HEK.out
  subst e1 e2
  exact ⟨.inl ⟨H', g, c, gs, HY.out H' HI'.out, rfl, HW.out.1, HW.out.2.1, HW.out.2.2⟩, HB5.out.drew⟩
set_option maxRecDepth 4000 in
set_option maxHeartbeats 2000000 in
theorem frameRead_bad (c2 c3 c4 c5 c6 c7 : Int) (n d : Nat) (T : List UInt8) (w : World) (hs : T.length ≤ 9000) (hd1 : 4 ≤ d) (hd : d ≤ 12) (hn1 : 1 ≤ n) (hn4 : n ≤ 4) (h2 : c2 ≤ 32) (hT : TabsU w) (hH : HeadP T) (hM : MayP n c2 (hLen T) (hCnt T + 1) (hMode T) T.length) (hS : seal16 (T.take (hLen T - 2)) = T.take (hLen T)) (hI : ∀ H, ¬ InsP (spellTo (insT T) (insT T).length) (msgBit (insT T)) d n (hMode T) (hCnt T + 1) H) :
    Calls Tryz.prog 138 #[.agg #[.int .i64 n, .int .i64 d, .int .i64 c2, .int .i64 c3, .int .i64 c4, .int .i64 c5, .int .i64 c6, .int .i64 c7], .int .i64 (hNum T), .string (bs T)] w fun e w' => FrOut e w w' T n d c2 (hNum T) := by
  have HB0 : Hid (Below w.heap.size w (w.alloc (.cells #[.int .i64 n, .int .i64 d, .int .i64 c2, .int .i64 c3, .int .i64 c4, .int .i64 c5, .int .i64 c6, .int .i64 c7] 23))) := (Below.refl _ _).alloc (Nat.le_refl _) _
  have HRH := Hid.mk' (fun u => readHead_yes T u (by omega) hH)
  have hc : ((hCnt T : Int) + 1) = ((hCnt T + 1 : Nat) : Int) := by omega
  rw [hc] at HRH
  clear hc
  have HC1 : Hid (∀ u, Below (w.alloc (.cells #[.int .i64 n, .int .i64 d, .int .i64 c2, .int .i64 c3, .int .i64 c4, .int .i64 c5, .int .i64 c6, .int .i64 c7] 23)).heap.size (w.alloc (.cells #[.int .i64 n, .int .i64 d, .int .i64 c2, .int .i64 c3, .int .i64 c4, .int .i64 c5, .int .i64 c6, .int .i64 c7] 23)) u → Bx u w.heap.size 23 #[.int .i64 n, .int .i64 d, .int .i64 c2, .int .i64 c3, .int .i64 c4, .int .i64 c5, .int .i64 c6, .int .i64 c7]) := fun u hu => (Bx.new _ _ _).below hu
  have hz : (bs T).size = T.length := bs_size T
  have HMB := Hid.mk' (fun u => mayBe_any (hNum T) (hLen T) (hCnt T + 1) (hMode T) T.length n d c2 c3 c4 c5 c6 c7 u (by omega))
  have HM := Hid.mk' hM
  have tN : ((hNum T : Int) == (hNum T : Int)) = true := by simp
  have hk1 := hM.1.1
  have hk2 := hM.1.2
  have HLT : Hid ((T.take (hLen T)).length = hLen T) := by show _ = _; rw [List.length_take]; omega
  have hcut : (bs T).extract 0 (hLen T) = bs (T.take (hLen T)) := bs_takeN _ _
  have hz1 : (bs (T.take (hLen T))).size = hLen T := by rw [bs_size]; exact HLT.out
  have HSE := Hid.mk' (fun u => isSealed16_any (T.take (hLen T)) u (by rw [HLT.out]; omega))
  have HSQ : Hid ((2 ≤ (T.take (hLen T)).length ∧ seal16 ((T.take (hLen T)).take ((T.take (hLen T)).length - 2)) = T.take (hLen T)) ↔ seal16 (T.take (hLen T - 2)) = T.take (hLen T)) := by
    show _ ↔ _
    rw [HLT.out, List.take_take, Nat.min_eq_left (by omega)]
    exact ⟨fun h => h.2, fun h => ⟨by omega, h⟩⟩
  have hnn : hCnt T + 1 ≤ 32 := by have := hM.2.1; omega
  have hm4 : hMode T < 4 := by
    have := hM.2.2
    unfold modesN at this
    split at this <;> omega
  have HLI : Hid ((insT T).length = hLen T - 2 - 8) := by show _ = _; unfold insT; rw [pieceT_length _ _ _ (by omega) (by omega)]
  have hcut2 : (bs (T.take (hLen T))).extract 8 (hLen T - 2) = bs (insT T) := by
    rw [bs_cut]
    unfold insT pieceT
    rw [List.drop_take, List.take_take]
    congr 2; omega
  have w1 : IntKind.i64.wrap ((hLen T : Int) - 2) = (hLen T : Int) - 2 := by rw [IntKind.wrap_i64]; omega
  have tn : ((hLen T : Int) - 2).toNat = hLen T - 2 := by omega
  have c1 : (8 : Int) ≤ (hLen T : Int) - 2 := by omega
  have c3' : (hLen T : Int) - 2 ≤ (hLen T : Int) := by omega
  have HSY := Hid.mk' (HSQ.out.2 hS)
  have HOB := Hid.mk' (fun u => ofBytes_any (insT T) u (by rw [HLI.out]; omega))
  have HRS := Hid.mk' (fun (u : World) (hu : Below w.heap.size w u) => readSubs_any c2 c3 c4 c5 c6 c7 (hNum T) (hLen T) d n (hMode T) (hCnt T + 1) (spellTo (insT T) (insT T).length) (msgBit (insT T)) u (by omega) hd hn1 hn4 hm4 hnn (by rw [spellTo_length, HLI.out]; omega) (spell_bits _) (hT.below hu))
  have HY : Hid (∀ H, InsP (spellTo (insT T) (insT T).length) (msgBit (insT T)) d n (hMode T) (hCnt T + 1) H → FrmP T n d c2 (hNum T) H) := fun H h => ⟨hH, rfl, HM.out, hS, h⟩
  have HI := Hid.mk' hI
  clear hI
  have HNN : Hid ((∀ H, ¬ InsP (spellTo (insT T) (insT T).length) (msgBit (insT T)) d n (hMode T) (hCnt T + 1) H) → ∀ H, ¬ FrmP T n d c2 (hNum T) H) := fun h H h' => h H h'.2.2.2.2
  clear hH hM hS HSQ HLT HLI hT
  generalize bs (spellTo (insT T) (insT T).length) = SB at *
  generalize bs (insT T) = SI at *
  generalize bs (T.take (hLen T)) = SK at *
  generalize hCnt T + 1 = nn at *
  generalize hNum T = hn at *
  generalize hLen T = k at *
  generalize hMode T = m at *
  generalize bs T = S at *
  generalize T.length = nT at *
  clear hs
  go_enter Tryz.func138, Tryz.ntmps138
  go_wp2_with (first
    | (go_at_call 204; refine (HRH.out _).mono ?_; rintro e u1 ⟨rfl, hb⟩; have HB1 := Hid.mk' (HB0.out.trans (hb.mono (by simp))); have hC := HC1.out _ hb; have HC2 := Hid.mk' hC; have hlt := hC.lt; have x0 := hC.cell 0; have x1 := hC.cell 1; have x2 := hC.cell 2; have x3 := hC.cell 3; have x4 := hC.cell 4; have x5 := hC.cell 5; have x6 := hC.cell 6; have x7 := hC.cell 7; clear hb HRH HB0 HC1 hC)
    | (go_at_call 205; refine (HMB.out _).mono ?_; rintro e u2 ⟨he, hb⟩; have he := he.true_of HM.out; subst he; have HB2 := Hid.mk' ((HB1.out.alloc HB1.out.size _).trans (hb.mono (Nat.le_trans HB1.out.size (by simp)))); have hC := (HC2.out.alloc _).below hb; have hD := (Bx.new u1 _ _).below hb; have hq := hD.lt; have y0 := hD.cell 0; have y1 := hD.cell 1; have y2 := hD.cell 2; have y3 := hD.cell 3; clear x0 x1 x2 x3 x4 x5 x6 x7; replace HC2 := Hid.mk' hC; have HH2 := Hid.mk' hD; clear hb HMB HB1 hC hD)
    | (go_at_call 135; refine (HSE.out _).mono ?_; rintro e u3 ⟨he, hb⟩; have he := he.true_of HSY.out; subst he; have HB3 := Hid.mk' (HB2.out.trans (hb.mono HB2.out.size)); have HC3 := Hid.mk' (HC2.out.below hb); have HH3 := Hid.mk' (HH2.out.below hb); clear hb HSE HB2 HC2 HH2 y0 y1 y2 y3))
  have hS3 := fr_cells (u := u3.drew) HC3.out HH3.out
  go_region_held3 (fun w' => w'.cell? ⟨w.heap.size, 0, none⟩ = some (.int .i64 n) ∧ w'.cell? ⟨w.heap.size, 1, none⟩ = some (.int .i64 d) ∧ w'.cell? ⟨w.heap.size, 2, none⟩ = some (.int .i64 c2) ∧ w'.cell? ⟨w.heap.size, 3, none⟩ = some (.int .i64 c3) ∧ w'.cell? ⟨w.heap.size, 4, none⟩ = some (.int .i64 c4) ∧ w'.cell? ⟨w.heap.size, 5, none⟩ = some (.int .i64 c5) ∧ w'.cell? ⟨w.heap.size, 6, none⟩ = some (.int .i64 c6) ∧ w'.cell? ⟨w.heap.size, 7, none⟩ = some (.int .i64 c7) ∧ w'.cell? ⟨u1.heap.size, 0, none⟩ = some (.int .i64 hn) ∧ w'.cell? ⟨u1.heap.size, 1, none⟩ = some (.int .i64 k) ∧ w'.cell? ⟨u1.heap.size, 2, none⟩ = some (.int .i64 nn) ∧ w'.cell? ⟨u1.heap.size, 3, none⟩ = some (.int .i64 m))
    (with_reducible assumption)
    (first
    | (go_at_call 207; refine (HOB.out _).mono ?_; rintro e u4 ⟨rfl, hb⟩; have hC4 : Bx u4 w.heap.size 23 #[.int .i64 n, .int .i64 d, .int .i64 c2, .int .i64 c3, .int .i64 c4, .int .i64 c5, .int .i64 c6, .int .i64 c7] := Bx.below (w := u3.drew) HC3.out hb; have hH4 : Bx u4 u1.heap.size 203 #[.int .i64 hn, .int .i64 k, .int .i64 nn, .int .i64 m] := Bx.below (w := u3.drew) HH3.out hb; have hS4 := fr_cells hC4 hH4; have HC4 := Hid.mk' hC4; have HH4 := Hid.mk' hH4; have HB4 : Hid (Below w.heap.size w u4) := HB3.out.drew.trans (hb.mono HB3.out.size); clear hb HOB hS3 HB3 HC3 HH3 hC4 hH4)
    | (go_at_call 206; refine (HRS.out _ HB4.out).mono ?_; intro e u5 hso; obtain ⟨v, rfl, hb⟩ := hso.no HI.out; have hS5 := fr_cells (HC4.out.below hb) (HH4.out.below hb); have HB5 := Hid.mk' (HB4.out.trans (hb.mono HB4.out.size)); clear hb HRS hS4 hso HB4 HC4 HH4))
  clear hS5
  go_wp2
  go_ret3
  exact FrOut.no (HNN.out HI.out) HB5.out
theorem frameRead_any (c2 c3 c4 c5 c6 c7 : Int) (n d : Nat) (number : Int) (T : List UInt8) (w : World) (hd1 : 4 ≤ d) (hd : d ≤ 12) (hn1 : 1 ≤ n) (hn4 : n ≤ 4) (h2 : c2 ≤ 32) (hs : T.length ≤ 9000) (hT : TabsU w) :
    Calls Tryz.prog 138 #[.agg #[.int .i64 n, .int .i64 d, .int .i64 c2, .int .i64 c3, .int .i64 c4, .int .i64 c5, .int .i64 c6, .int .i64 c7], .int .i64 number, .string (bs T)] w fun e w' => FrOut e w w' T n d c2 number := by
  by_cases hH : HeadP T
  · by_cases hN : (hNum T : Int) = number
    · subst hN
      by_cases hM : MayP n c2 (hLen T) (hCnt T + 1) (hMode T) T.length
      · by_cases hS : seal16 (T.take (hLen T - 2)) = T.take (hLen T)
        · by_cases hI : ∃ H, InsP (spellTo (insT T) (insT T).length) (msgBit (insT T)) d n (hMode T) (hCnt T + 1) H
          · obtain ⟨H, hI⟩ := hI
            exact frameRead_good c2 c3 c4 c5 c6 c7 n d T w hs hd1 hd hn1 hn4 h2 hT hH hM hS H hI
          · exact frameRead_bad c2 c3 c4 c5 c6 c7 n d T w hs hd1 hd hn1 hn4 h2 hT hH hM hS (fun H h => hI ⟨H, h⟩)
        · exact frameRead_seal c2 c3 c4 c5 c6 c7 n d T w hs hH hM hS
      · exact frameRead_may c2 c3 c4 c5 c6 c7 n d T w hs hH hM
    · exact frameRead_num c2 c3 c4 c5 c6 c7 n d number T w hs hH hN
  · exact frameRead_nohead c2 c3 c4 c5 c6 c7 n d number T w hs hH
end Go.Proofs.YtlncjgnomhpjnabGreatDoor

