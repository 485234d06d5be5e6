import Derived.Test.YtlncjgnomhpjnaaGreatDoorPD9
import Derived.Test.YtlncjgnomhpjnaaGreatDoorPD31
import Derived.Test.YtlncjgnomhpjnaaGreatDoorPD8
import Derived.Test.YtlncjgnomhpjnaaGreatDoorPD45
import Derived.Test.YtlncjgnomhpjnaaGreatDoorPD54
import Derived.BigQuiet
import Derived.Deep.QuietTactic
import Derived.Test.YtlncjgnomhpjnaaGreatDoorRows
/-
  The law 'Decodes': two answers held against each other.
-/
namespace Go.Proofs.YtlncjgnomhpjnaaGreatDoor
open Go.RowKit Go.Deep
set_option linter.unusedVariables false
set_option maxHeartbeats 1000000 in
theorem sameAll_L (base base' : Nat) (v v' : Value) (n nn : Nat) (H : Nat → Nat → Int) (w : World) (hn : n ≤ 1000000) (hnn : nn ≤ 1000000) (h : RowsL base w v n nn H) (h' : RowsL base' w v' n nn H) :
    Calls Tryz.prog 45 #[v, v'] w fun e w' => e = .returned (.bool true) ∧ Below w.heap.size w w' := by
  obtain ⟨g, A, C, rfl, hl, hA, hI, hlow⟩ := h.open
  obtain ⟨g', A', C', rfl, hl', hA', hI', hlow'⟩ := h'.open
  have HC : Hid (∀ i, i < n → w.cell? ⟨g, i, none⟩ = some (.slice (A i) nn (C i))) := fun i hi => by
    obtain ⟨x, hx, hc⟩ := hA i hi
    cases hx
    rw [Addr.add_lit, Nat.zero_add] at hc
    exact hc
  have HC' : Hid (∀ i, i < n → w.cell? ⟨g', i, none⟩ = some (.slice (A' i) nn (C' i))) := fun i hi => by
    obtain ⟨x, hx, hc⟩ := hA' i hi
    cases hx
    rw [Addr.add_lit, Nat.zero_add] at hc
    exact hc
  have HR := Hid.mk' (And.intro hI hlow.2)
  have HR' := Hid.mk' (And.intro hI' hlow'.2)
  clear hA hA' hI hI' hlow hlow' h h'
  go_enter Tryz.func45, Tryz.ntmps45
  go_wp2
  go_loopw [4, 5, 6] (fun _ iv _ wr => ∃ i : Nat, i ≤ n ∧ iv = .int .i64 i ∧ Hid (Below w.heap.size w wr)) (fun _ iv _ _ => n - (intOf iv).toNat)
  case atStart => exact ⟨0, Nat.zero_le _, rfl, Below.refl _ _⟩
  case round =>
    obtain ⟨i, hi, rfl, HB⟩ := hrel
    by_cases hlt : i < n
    · have k0 : wr.cell? ⟨g, i, none⟩ = some (.slice (A i) nn (C i)) := (HB.out.cell (p := ⟨g, i, none⟩) hl).trans (HC.out i hlt)
      have k1 : wr.cell? ⟨g', i, none⟩ = some (.slice (A' i) nn (C' i)) := (HB.out.cell (p := ⟨g', i, none⟩) hl').trans (HC'.out i hlt)
      have hS0 : wr.drew.cell? ⟨g, i, none⟩ = some (.slice (A i) nn (C i)) ∧ wr.drew.cell? ⟨g', i, none⟩ = some (.slice (A' i) nn (C' i)) := ⟨k0, k1⟩
      have HSM := Hid.mk' (sameL_any (A i) (A' i) nn (C i) (C' i) (H i) wr.drew hnn ((HR.out.1 i hlt).below HB.out.drew (HR.out.2 i hlt)) ((HR'.out.1 i hlt).below HB.out.drew (HR'.out.2 i hlt)))
      go_wp2_with fail
      go_region_held3 (fun w' => w'.cell? ⟨g, i, none⟩ = some (.slice (A i) nn (C i)) ∧ w'.cell? ⟨g', i, none⟩ = some (.slice (A' i) nn (C' i)))
        (with_reducible assumption)
        (first
        | (go_at_call 80; refine HSM.out.mono ?_; rintro e u1 ⟨rfl, m, hu⟩; have hS1 : u1.cell? ⟨g, i, none⟩ = some (.slice (A i) nn (C i)) ∧ u1.cell? ⟨g', i, none⟩ = some (.slice (A' i) nn (C' i)) := (by rw [hu]; exact ⟨k0, k1⟩); have HB1 : Hid (Below w.heap.size w u1) := (by rw [hu]; exact bl_drewN HB.out.drew m); clear HSM hu hS0))
      clear hS1
      go_wp2
      go_roundw
      case rel => exact ⟨i + 1, by omega, by go_num, HB1.out⟩
      case measure => simp [intOf]; omega
    · have e : i = n := by omega
      subst e
      go_wp2
      go_ret
      exact ⟨rfl, HB.out⟩
theorem RowsL.lst {base : Nat} {u : World} {v : Value} {n nn : Nat} {H : Nat → Nat → Int} (h : RowsL base u v n nn H) : ∃ (g : Nat) (X : Nat → Value) (ogs : Nat → Option Nat), LstE 29 u v n (some g) X ∧ base ≤ g ∧ (∀ i, i < n → LstE 3 u (X i) nn (ogs i) (fun j => .int .i64 (H i j))) ∧ (∀ i, i < n → ∀ q, ogs i = some q → base ≤ q) ∧ ∀ i k, i < n → k < n → i ≠ k → ∀ q, ogs i = some q → ogs k ≠ some q := by
  obtain ⟨g, vs, ogs, rfl, h2, h3, h4, h5⟩ := h
  exact ⟨g, vs, ogs, .inr ⟨g, 0, n, n, vs, rfl, rfl, h3, by omega, Nat.le_refl _, fun i _ => by rw [Nat.zero_add]⟩, h2, fun i hi => (h4 i hi).1, fun i hi => (h4 i hi).2, h5⟩
theorem bookL_L (L B K n nn : Nat) (v : Value) (H : Nat → Nat → Int) (w u : World) (hL : L ≤ w.heap.size) (hn : n ≤ 1000000) (hnn : nn ≤ 1000000) (hK : K ≤ 500000000000) (hB : BookL L w B K) (hb : Below w.heap.size w u) (h : RowsL w.heap.size u v n nn H) :
    Calls Tryz.prog 16 #[.pointer (some ⟨B, 0, none⟩), v] u fun e w' => e = .returned (.tuple #[]) ∧ BookL L w' B (K + n + 1) ∧ Below L u w' := by
  obtain ⟨g, X, gs, h1, h2, h3, h4, h5⟩ := h.lst
  refine (bookTakeAll_any (fun k => L ≤ k ∧ k < w.heap.size) B K n (some g) X v gs u hn hK (hB.next hb) h1 (fun q hq hh => by injection hq with hq; omega) (fun i hi => ⟨nn, _, hnn, h3 i hi⟩) (fun i hi q hq hh => by have := h4 i hi q hq; omega) (fun i k hi hk hik q h6 h7 => h5 i k hi hk hik q h6 h7)).mono ?_
  rintro e w' ⟨he, ht⟩
  exact ⟨he, ht.toL hL hb.size (fun q hq => by injection hq with hq; omega) (fun i hi q hq => h4 i hi q hq)⟩
theorem DecAns.yes {e : Ending} {w w' : World} {T : List UInt8} (h : DecAns e w w' T) (h0 : decE T = 0) : ∃ gl, e = .returned (.tuple #[.agg #[.int .i64 (dCh T), .int .i64 (dDe T), .int .i64 (dBl T), .int .i64 (dRa T), .int .i64 (dSe T), .int .i64 (dSa T)], .slice (some ⟨gl, 0, none⟩) (dCh T) (dCh T), .int .i64 0]) ∧ RowsL w.heap.size w' (.slice (some ⟨gl, 0, none⟩) (dCh T) (dCh T)) (dCh T) (dSa T) (dSmp T) ∧ Below w.heap.size w w' := by
  rcases h with ⟨⟨-, v, rfl, hr⟩ | ⟨hno, -⟩, hb⟩
  · obtain ⟨g, A, C, rfl, -⟩ := hr.open
    exact ⟨g, rfl, hr, hb⟩
  · exact absurd h0 hno
theorem DecAns.nothing {e : Ending} {w w' : World} {T : List UInt8} (h : DecAns e w w' T) (h0 : decE T ≠ 0) : e = .returned (.tuple #[.agg #[.int .i64 0, .int .i64 0, .int .i64 0, .int .i64 0, .int .i64 0, .int .i64 0], .slice none 0 0, .int .i64 (decE T)]) ∧ Below w.heap.size w w' := by
  rcases h with ⟨⟨hy, -⟩ | ⟨-, he⟩, hb⟩
  · exact absurd hy h0
  · exact ⟨he, hb⟩
/-- the tables that the law wants -/
structure TabsD (w : World) : Prop where
  prog : TabsU w
  tak : TabAt w 3
  takLt : 3 < w.heap.size
  non : ∀ i, i < 22 → w.cell? ⟨1, i, none⟩ = some (.int .u8 (none22.getD i 0))
  nonLt : 1 < w.heap.size
theorem TabsD.below {w u : World} (h : TabsD w) (hb : Below w.heap.size w u) : TabsD u :=
  ⟨h.prog.below hb, tab_at h.tak hb h.takLt, Nat.lt_of_lt_of_le h.takLt hb.size, fun i hi => (hb.cell (p := ⟨1, i, none⟩) h.nonLt).trans (h.non i hi), Nat.lt_of_lt_of_le h.nonLt hb.size⟩
theorem decE_bd (T : List UInt8) : 0 ≤ decE T ∧ decE T ≤ 100 := by
  unfold decE
  repeat (first | split | omega)
/-- what a head says of the samples is little, where the answer is yes -/
theorem dec_small {T : List UInt8} (h : decE T = 0) : dCh T ≤ 4 ∧ dSa T ≤ 300 := by
  by_cases h1 : T.length ≤ 9000
  · by_cases h2 : HdP T ∧ dWh T = 1
    · have := hd_bd h2.1
      omega
    · unfold decE at h
      rw [if_pos h1, if_neg h2] at h
      cases h
  · unfold decE at h
    rw [if_neg h1] at h
    cases h
set_option maxRecDepth 4000 in
set_option maxHeartbeats 2000000 in
theorem decodes_any (L B K : Nat) (T : List UInt8) (w : World) (hs : T.length ≤ 9223372036854775807) (hL : L ≤ w.heap.size) (hK : K ≤ 1000) (hB : BookL L w B K) (hT : TabsD w) :
    Calls Tryz.prog 24 #[.pointer (some ⟨B, 0, none⟩), .string (bs T)] w fun e w' => e = .returned (.bool true) ∧ (∃ K', K' ≤ K + 100 ∧ BookL L w' B K') ∧ Below L w w' := by
  have HBK := Hid.mk' hB
  have HP := Hid.mk' (fun (u : World) (hu : Below w.heap.size w u) => reelDecode_any T u hs (hT.below hu).prog)
  have HD := Hid.mk' (fun (u : World) (hu : Below w.heap.size w u) => refDecode_any T u hs (hT.below hu).tak (hT.below hu).takLt)
  clear hT hB
  by_cases hI : decE T = 0
  · have HI := Hid.mk' hI
    obtain ⟨hc, hsa⟩ := dec_small hI
    have HNM := Hid.mk' (fun u => lnum_any 0 u)
    clear hI
    generalize bs T = SB at *
    go_enter Tryz.func24, Tryz.ntmps24
    go_wp2_with (first
      | (go_at_call 23; refine (HP.out _ (Below.refl _ _)).mono ?_; intro e u1 ha; obtain ⟨gl, rfl, hro, hb⟩ := ha.yes HI.out; have HB1 := Hid.mk' hb; have HRO := Hid.mk' hro; clear ha hb HP hro)
      | (go_at_call 52; refine (HD.out _ (HB1.out.alloc HB1.out.size _)).mono ?_; intro e u2 ha; obtain ⟨gl2, rfl, hro, hb⟩ := ha.yes HI.out; have HB2 := Hid.mk' ((HB1.out.alloc HB1.out.size _).trans (hb.mono (HB1.out.alloc HB1.out.size _).size)); have HX2 := Hid.mk' ((Bx.new u1 #[.int .i64 (dCh T), .int .i64 (dDe T), .int .i64 (dBl T), .int .i64 (dRa T), .int .i64 (dSe T), .int .i64 (dSa T)] 46).below hb); have HRX := Hid.mk' ((HRO.out.below ((Below.refl _ _).alloc (Nat.le_refl _) _)).below hb); have HRY := Hid.mk' hro; clear ha hb HD hro HB1 HRO)
      | (go_at_call 45; refine (sameAll_L _ _ _ _ (dCh T) (dSa T) (dSmp T) _ (by omega) (by omega) (HRX.out.below ((Below.refl _ _).alloc (Nat.le_refl _) _)) (HRY.out.below ((Below.refl _ _).alloc (Nat.le_refl _) _))).mono ?_; rintro e u3 ⟨rfl, hb⟩; have HB3 := Hid.mk' ((HB2.out.alloc HB2.out.size _).trans (hb.mono (HB2.out.alloc HB2.out.size _).size)); have HR3 := Hid.mk' ((HRX.out.below ((Below.refl _ _).alloc (Nat.le_refl _) _)).below hb); have hX := (HX2.out.alloc _).below hb; have hY := (Bx.new u2 #[.int .i64 (dCh T), .int .i64 (dDe T), .int .i64 (dBl T), .int .i64 (dRa T), .int .i64 (dSe T), .int .i64 (dSa T)] 46).below hb; have x0 := hX.cell 0; have y0 := hY.cell 0; have x1 := hX.cell 1; have y1 := hY.cell 1; have x2 := hX.cell 2; have y2 := hY.cell 2; have x3 := hX.cell 3; have y3 := hY.cell 3; have x4 := hX.cell 4; have y4 := hY.cell 4; have x5 := hX.cell 5; have y5 := hY.cell 5; clear hb hX hY HB2 HRX HRY HX2)
      | (go_at_call 13; refine (HNM.out _).mono ?_; rintro e w6 ⟨rfl, hw⟩; subst w6; clear HNM)
      | (go_at_call 16; refine (bookL_L L B K (dCh T) (dSa T) _ (dSmp T) w u3 hL (by omega) (by omega) (by omega) HBK.out HB3.out HR3.out).mono ?_; rintro e u4 ⟨rfl, hbk, hb⟩; have HE : Hid ((∃ K', K' ≤ K + 100 ∧ BookL L u4 B K') ∧ Below L w u4) := ⟨⟨_, by omega, hbk⟩, (HB3.out.mono hL).trans hb⟩; clear hbk hb))
    go_ret
    exact ⟨rfl, HE.out⟩
  · have hEb := decE_bd T
    have HNM := Hid.mk' (fun u => lnum_any (decE T) u)
    have HAN := Hid.mk' (fun (e : Ending) (w w' : World) (h : DecAns e w w' T) => h.nothing hI)
    clear hI
    generalize bs T = SB at *
    generalize decE T = E at *
    go_enter Tryz.func24, Tryz.ntmps24
    go_wp2_with (first
      | (go_at_call 23; refine (HP.out _ (Below.refl _ _)).mono ?_; intro e u1 ha; obtain ⟨rfl, hb⟩ := HAN.out _ _ _ ha; have HB1 := Hid.mk' hb; clear ha hb HP)
      | (go_at_call 52; refine (HD.out _ (HB1.out.alloc HB1.out.size _)).mono ?_; intro e u2 ha; obtain ⟨rfl, hb⟩ := HAN.out _ _ _ ha; have HB2 := Hid.mk' ((HB1.out.alloc HB1.out.size _).trans (hb.mono (HB1.out.alloc HB1.out.size _).size)); have HX2 := Hid.mk' ((Bx.new u1 #[.int .i64 0, .int .i64 0, .int .i64 0, .int .i64 0, .int .i64 0, .int .i64 0] 46).below hb); clear ha hb HD HB1)
      | (go_at_call 45; refine (sameAll_nil _).mono ?_; rintro e u3 ⟨rfl, hb⟩; have HB3 := Hid.mk' ((HB2.out.alloc HB2.out.size _).trans (hb.mono (HB2.out.alloc HB2.out.size _).size)); have hX := (HX2.out.alloc _).below hb; have hY := (Bx.new u2 #[.int .i64 0, .int .i64 0, .int .i64 0, .int .i64 0, .int .i64 0, .int .i64 0] 46).below hb; have x0 := hX.cell 0; have y0 := hY.cell 0; have x1 := hX.cell 1; have y1 := hY.cell 1; have x2 := hX.cell 2; have y2 := hY.cell 2; have x3 := hX.cell 3; have y3 := hY.cell 3; have x4 := hX.cell 4; have y4 := hY.cell 4; have x5 := hX.cell 5; have y5 := hY.cell 5; clear hb hX hY HB2 HX2)
      | (go_at_call 13; refine (HNM.out _).mono ?_; rintro e w6 ⟨rfl, hw⟩; subst w6; clear HNM)
      | (go_at_call 16; refine (bookL_nil L B K w u3 hL (by omega) HBK.out HB3.out).mono ?_; rintro e u4 ⟨rfl, hbk, hb⟩; have HE : Hid ((∃ K', K' ≤ K + 100 ∧ BookL L u4 B K') ∧ Below L w u4) := ⟨⟨_, by omega, hbk⟩, (HB3.out.mono hL).trans hb⟩; clear hbk hb))
    go_ret
    exact ⟨rfl, HE.out⟩
end Go.Proofs.YtlncjgnomhpjnaaGreatDoor

/-
  The law 'Decodes'.
-/
namespace Go.Proofs.YtlncjgnomhpjnaaGreatDoor
open Go.RowKit Go.Deep
set_option linter.unusedVariables false
/-- the stream of an empty sound -/
def exD : List UInt8 := [82, 76, 1, 1, 4, 1, 0, 0, 0, 0, 0, 0, 0, 0, 0, 0, 0, 0, 1, 158, 139, 66]
theorem exD_bs : bs exD = exSt := by kernel_rfl
theorem exD_h : dWh exD = 1 ∧ dCh exD = 1 ∧ dDe exD = 4 ∧ dBl exD = 1 ∧ dRa exD = 0 ∧ dSa exD = 0 ∧ dSe exD = 0 ∧ dLe exD = 0 ∧ dMo exD = 0 ∧ dSu exD = 1 := by decide
theorem exD_tx : dTx exD = exD.take (dSz exD) := by
  unfold dTx headTx seal16 seal8
  rw [crc8_fast, crc16_fast]
  decide +kernel
theorem exD_hd : HdP exD := ⟨by decide, by decide, by decide, by decide, exD_tx, fun h => absurd h (by decide)⟩
theorem exD_all : AllP exD := ⟨0, ⟨.inl (Nat.zero_le _), fun j hj => absurd hj (Nat.not_lt_zero j), fun h => absurd h (by decide)⟩, by decide, by decide, by decide, by decide, by decide⟩
theorem exD_sum : SumP exD := by
  unfold SumP
  have e : 2 * (dSa exD * dCh exD) = 0 := by decide
  rw [e]
  show dSu exD = sumN []
  decide
theorem exD_dec : decE exD = 0 := by
  unfold decE
  rw [if_pos (by decide), if_pos ⟨exD_hd, by decide⟩, if_pos exD_all, if_pos exD_sum]
theorem exDec_any (w : World) (hT : TabsU w) :
    Calls Tryz.prog 23 #[.string exSt] w fun e w' => ∃ gl a c H, e = .returned (.tuple #[.agg #[.int .i64 1, .int .i64 4, .int .i64 1, .int .i64 0, .int .i64 0, .int .i64 0], .slice (some ⟨gl, 0, none⟩) 1 1, .int .i64 0]) ∧ w'.cell? ⟨gl, 0, none⟩ = some (.slice a 0 c) ∧ RowsL w.heap.size w' (.slice (some ⟨gl, 0, none⟩) 1 1) 1 0 H ∧ Below w.heap.size w w' := by
  rw [← exD_bs]
  refine (reelDecode_any exD w (by decide) hT).mono ?_
  intro e w' ha
  obtain ⟨gl, rfl, hr, hb⟩ := ha.yes exD_dec
  obtain ⟨-, e1, e2, e3, e4, e5, e6, -⟩ := exD_h
  rw [e1, e5] at hr
  obtain ⟨g, A, C, hv, hl, hA, -⟩ := hr.open
  injection hv with hv
  injection hv with hv
  injection hv with hv
  subst hv
  obtain ⟨x, hx, hc⟩ := hA 0 (by omega)
  cases hx
  rw [Addr.add_lit, Nat.zero_add] at hc
  exact ⟨gl, A 0, C 0, _, by rw [e1, e2, e3, e4, e5, e6]; rfl, hc, hr, hb⟩
theorem bookL_firstL (L : Nat) (w u : World) (v : Value) (n nn : Nat) (H : Nat → Nat → Int) (hL : L ≤ w.heap.size) (hwu : w.heap.size ≤ u.heap.size) (hn : n ≤ 1000000) (hnn : nn ≤ 1000000) (h : RowsL w.heap.size u v n nn H) :
    Calls Tryz.prog 16 #[.pointer (some ⟨u.heap.size, 0, none⟩), v] (u.alloc (.cells #[.slice none 0 0, .slice none 0 0, .int .i64 0] 39)) fun e w' => e = .returned (.tuple #[]) ∧ BookL L w' u.heap.size (0 + n + 1) ∧ Below L u w' := by
  have hb : Below u.heap.size u (u.alloc (.cells #[.slice none 0 0, .slice none 0 0, .int .i64 0] 39)) := (Below.refl _ _).alloc (Nat.le_refl _) _
  have hB : BookP (fun k => k = u.heap.size) (u.alloc (.cells #[.slice none 0 0, .slice none 0 0, .int .i64 0] 39)) u.heap.size 0 := by
    refine ⟨.slice none 0 0, .slice none 0 0, 0, 0, [], [], blk_alloc_new _ _, rfl, World.ownsRow_nil _ _ _ _, World.ownsRow_nil _ _ _ _, fun g hg => ?_, fun g hg => ?_, fun i hi => absurd hi (Nat.not_lt_zero i), fun i hi => absurd hi (Nat.not_lt_zero i), Nat.le_refl _, fun k hk => by rw [hk]; simp⟩
    · simp [Value.ownBlock] at hg
    · simp [Value.ownBlock] at hg
  obtain ⟨g, X, gs, h1, h2, h3, h4, h5⟩ := (h.below hb).lst
  obtain ⟨g', X', gs', h1', h2', h3', h4', h5'⟩ := h.lst
  have hne : ∀ k, (∃ e N f, (e = 3 ∨ e = 29) ∧ (u.alloc (.cells #[.slice none 0 0, .slice none 0 0, .int .i64 0] 39)).rowIs k e N f) → k ≠ u.heap.size := by
    rintro k ⟨e, N, f, he, c, hb', -⟩ rfl
    rw [blk_alloc_new] at hb'
    injection hb' with hb'
    injection hb' with q1 q2
    rcases he with he | he
    · rw [he] at q2; exact absurd q2 (by decide)
    · rw [he] at q2; exact absurd q2 (by decide)
  have hgn : g ≠ u.heap.size := hne g (h1.isRow (.inr rfl) rfl)
  have hqn : ∀ i, i < n → ∀ q, gs i = some q → q ≠ u.heap.size := fun i hi q hq => hne q ((h3 i hi).isRow (.inl rfl) hq)
  refine (bookTakeAll_any (fun k => k = u.heap.size) u.heap.size 0 n (some g) X v gs _ hn (by omega) hB h1 (fun q hq hh => by injection hq with hq; omega) (fun i hi => ⟨nn, _, hnn, h3 i hi⟩) (fun i hi q hq hh => hqn i hi q hq hh) (fun i k hi hk hik q h6 h7 => h5 i k hi hk hik q h6 h7)).mono ?_
  rintro e w' ⟨he, ht⟩
  have hsz : (u.alloc (.cells #[.slice none 0 0, .slice none 0 0, .int .i64 0] 39)).heap.size = u.heap.size + 1 := by simp
  refine ⟨he, BookP.mono ht.book (fun k hk => ⟨?_, hk.2⟩) (fun k hk => hk.2), ht.os.trans hb.os, ht.tape.trans hb.tape, ht.output.trans hb.output, Nat.le_trans hb.size ht.size, fun k hk => (ht.block k (by omega) (by omega) (fun e => by injection e with e; omega) (fun i hi e => by have := h4 i hi k e; omega)).trans (hb.block k (by omega))⟩
  rcases hk.1 with h6 | h6 | ⟨i, hi, h6⟩ | h6
  · omega
  · injection h6 with h6; omega
  · have := h4 i hi k h6; omega
  · rw [hsz] at h6; omega
set_option maxRecDepth 4000 in
set_option maxHeartbeats 2000000 in
theorem decodesLaw (T : List UInt8) (w : World) (hs : T.length ≤ 9223372036854775807) (hT : TabsD w) :
    Calls Tryz.prog 6 #[.string (bs T)] w fun e w' => e = .returned (.bool true) ∧ Below w.heap.size w w' := by
  have HEX := Hid.mk' (fun (u : World) (hu : Below w.heap.size w u) => exDec_any u (hT.below hu).prog)
  have HTW := Hid.mk' (fun (u : World) (hu : Below w.heap.size w u) => empty_any u (hT.below hu).non (hT.below hu).nonLt)
  have HUN := Hid.mk' (fun (u : World) (B K : Nat) (hu : Below w.heap.size w u) (hK : K ≤ 1000) (hB : BookL w.heap.size u B K) => decodes_any w.heap.size B K T u hs hu.size hK hB (hT.below hu))
  have HNM := Hid.mk' (fun u => lnum_any 0 u)
  clear hT
  generalize exSt = ES at *
  generalize bs T = SB at *
  go_enter Tryz.func6, Tryz.ntmps6
  go_wp2_with (first
    | (go_at_call 21; refine (HTW.out _ (Below.refl _ _)).mono ?_; rintro e w1 ⟨rfl, hb⟩; have HB1 := Hid.mk' hb; clear hb HTW)
    | (go_at_call 23; refine (HEX.out _ HB1.out).mono ?_; rintro e u1 ⟨g, a, c, H, rfl, k0, hro, hb⟩; have HB2 := Hid.mk' (HB1.out.trans (hb.mono HB1.out.size)); have HRO := Hid.mk' (hro.mono (base' := w.heap.size) HB1.out.size); have k1 : (u1.alloc (.cells #[.int .i64 1, .int .i64 4, .int .i64 1, .int .i64 0, .int .i64 0, .int .i64 0] 46)).cell? ⟨g, 0, none⟩ = some (.slice a 0 c) := (World.grownBy_alloc u1 _ none).cell k0 (by simp); clear hb hro HEX HB1 k0)
    | (go_at_call 13; refine (HNM.out _).mono ?_; rintro e w6 ⟨rfl, hw⟩; subst w6; clear HNM)
    | (go_at_call 16; have hta := bookL_firstL w.heap.size w (u1.alloc (.cells #[.int .i64 1, .int .i64 4, .int .i64 1, .int .i64 0, .int .i64 0, .int .i64 0] 46)) (.slice (some ⟨g, 0, none⟩) 1 1) 1 0 H (Nat.le_refl _) (HB2.out.alloc HB2.out.size _).size (by omega) (by omega) (HRO.out.below ((Below.refl _ _).alloc (Nat.le_refl _) _)); rw [World.size_alloc] at hta; refine hta.mono ?_; clear hta; rintro e u2 ⟨rfl, hbk, hb⟩; have HB4 := Hid.mk' ((HB2.out.alloc HB2.out.size _).trans hb); have HBK := Hid.mk' hbk; clear hbk hb k1 HRO HB2)
    | (go_at_call 24; refine (HUN.out u2 (u1.heap.size + 1) (0 + 1 + 1) HB4.out (by omega) HBK.out).mono ?_; rintro e u3 ⟨rfl, ⟨K', hK', hbk⟩, hb⟩; have HB5 := Hid.mk' (HB4.out.trans hb); have HBK2 := Hid.mk' hbk; clear hbk hb HUN HB4 HBK)
    | (go_at_call 18; refine (bookLooks_any _ (u1.heap.size + 1) K' u3 (by omega) HBK2.out).mono ?_; rintro e u4 ⟨rfl, hb⟩; have HB6 := Hid.mk' (HB5.out.trans (hb.mono HB5.out.size)); clear hb))
  go_ret
  exact ⟨rfl, HB6.out⟩
end Go.Proofs.YtlncjgnomhpjnaaGreatDoor

/-
  The tables among the laid variables of 'Decodes'.
-/
namespace Go.Proofs.YtlncjgnomhpjnaaGreatDoor
open Go Go.Lib
set_option linter.unusedVariables false
theorem gNon : Tryz.prog.globalNamed "reel/reellaw.none22" = some 1 := by kernel_rfl
theorem gNonType : (Tryz.prog.globals[1]?).map (·.type) = some 84 := by kernel_rfl
theorem cellsNon : Tryz.prog.cellsOf 84 = 22 := by kernel_rfl
/-- what the row's list gives -/
theorem tablesD {W : World} (h : laidMetH Tryz.prog Rows.decodesRow.laid W) : TabsD W := by
  have h' : laidMet Tryz.prog [("reel/reelref.taken", .agg (tabRows.map (tabData .i64))), ("unicode/utf8.acceptRanges", Rows.laid_unicode_utf8_acceptRanges), ("reel/subframe.fixedWeights", .agg (tabRows.map (tabData .i64))), ("reel/frame.pairs", .agg (pairRows.map (tabData .i64))), ("reel/reellaw.none22", tabData .u8 none22), ("unicode/utf8.first", Rows.laid_unicode_utf8_first)] W := h
  obtain ⟨ps, ⟨g1, t1, cs1, fuel1, p1, q1, hg1, ht1, hvar1, hd1, ⟨g0, t0, cs0, fuel0, p0, q0, hg0, ht0, hvar0, hd0, ⟨g2, t2, cs2, fuel2, p2, q2, hg2, ht2, hvar2, hd2, ⟨g3, t3, cs3, fuel3, p3, q3, hg3, ht3, hvar3, hd3, ⟨g4, t4, cs4, fuel4, p4, q4, hg4, ht4, hvar4, hd4, _, _⟩, _⟩, _⟩, _⟩, _⟩, _⟩ := h'
  obtain rfl := Option.some.inj (gPairs.symm.trans hg3)
  obtain rfl := Option.some.inj (gPairsType.symm.trans ht3)
  obtain rfl := Option.some.inj (gNon.symm.trans hg4)
  obtain rfl := Option.some.inj (gNonType.symm.trans ht4)
  obtain rfl := Option.some.inj (gTaken.symm.trans hg1)
  obtain rfl := Option.some.inj (gTakenType.symm.trans ht1)
  obtain rfl := Option.some.inj (gFixed.symm.trans hg2)
  obtain rfl := Option.some.inj (gFixedType.symm.trans ht2)
  have hT : TabAt W 3 := by
    intro r c hr hc
    obtain ⟨zs, hz1, hz2⟩ := tabRows_at r c hr hc
    have := cells_of_tab2 Tryz.underlying249 Tryz.underlying199 Tryz.underlying3 cells1 cells4 cells54 hd1 r zs hz1 c _ hc hz2
    have h2 := World.var?_cell gTaken hvar1 (r * 4 + c)
    rw [Nat.mul_comm 4 r, h2]
    simpa using this
  have hF : TabAt W 7 := by
    intro r c hr hc
    obtain ⟨zs, hz1, hz2⟩ := tabRows_at r c hr hc
    have := cells_of_tab2 Tryz.underlying249 Tryz.underlying199 Tryz.underlying3 cells1 cells4 cells54 hd2 r zs hz1 c _ hc hz2
    have h2 := World.var?_cell gFixed hvar2 (r * 4 + c)
    rw [Nat.mul_comm 4 r, h2]
    simpa using this
  have hP : PairsAt W := by
    intro r c hr hc
    obtain ⟨zs, hz1, hz2⟩ := pairRows_at r c hr hc
    have := cells_of_tab2 Tryz.underlying140 Tryz.underlying139 Tryz.underlying3 cells1 cells2 cells42 hd3 r zs hz1 c _ hc hz2
    have h2 := World.var?_cell gPairs hvar3 (r * 2 + c)
    rw [Nat.mul_comm 2 r, h2]
    simpa using this
  have hO : ∀ i, i < 22 → W.cell? ⟨1, i, none⟩ = some (.int .u8 (none22.getD i 0)) := by
    intro i hi
    have e := cells_of_tab Tryz.underlying84 Tryz.underlying5 cellsByte cellsNon hd4
    have h2 := World.var?_cell gNon hvar4 i
    rw [h2]
    have h3 : ∀ i : Fin 22, none22[i.val]? = some (none22.getD i.val 0) := by decide
    have h4 : cs4.toList[i]? = some (.int .u8 (none22.getD i 0)) := by
      rw [e, List.getElem?_map, h3 ⟨i, hi⟩]; rfl
    simpa using h4
  exact ⟨⟨hF, tab_lt4 (hF 0 0 (by omega) (by omega)), hP, tab_lt4 (hP 0 0 (by omega) (by omega))⟩, hT, tab_lt4 (hT 0 0 (by omega) (by omega)), hO, tab_lt4 (hO 0 (by omega))⟩
end Go.Proofs.YtlncjgnomhpjnaaGreatDoor

