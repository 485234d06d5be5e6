import Derived.Test.YtlncjgnomhpjnaaGreatDoorPR52
import Derived.Test.YtlncjgnomhpjnaaGreatDoorPR54
import Derived.BigQuiet
import Derived.Deep.QuietTactic
/-
  The law 'Rescues': two answers held against each other.
-/
namespace Go.Proofs.YtlncjgnomhpjnaaGreatDoor
open Go.RowKit Go.Deep
set_option linter.unusedVariables false
theorem SalAns.yesM {e : Ending} {w w' : World} {T : List UInt8} {m : Nat} (h : SalAns e w w' T) (hy : T.length ≤ 9000 ∧ HdP T) (hm : RunIs (dCh T) (dDe T) (dBl T) (dSa T) 0 (T.drop (dSz T)) m) : ∃ gl, e = .returned (.tuple #[.agg #[.int .i64 (dCh T), .int .i64 (dDe T), .int .i64 (dBl T), .int .i64 (dRa T), .int .i64 (dSe T), .int .i64 (dSa T)], .slice (some ⟨gl, 0, none⟩) (dCh T) (dCh T), .int .i64 0]) ∧ RowsL w.heap.size w' (.slice (some ⟨gl, 0, none⟩) (dCh T) (dCh T)) (dCh T) (chN (dBl T) (dSa T) 0 m) (smpL (dCh T) (dDe T) (dBl T) (dSa T) 0 (T.drop (dSz T)) m) ∧ Below w.heap.size w w' := by
  obtain ⟨m', gl, h1, h2, h3, h4⟩ := h.yes hy
  have e := hm.uniq h1
  subst e
  exact ⟨gl, h2, h3, h4⟩
theorem frmE_bd (T : List UInt8) (a : Int) : 0 ≤ frmE T a ∧ frmE T a ≤ 100 := by
  unfold frmE
  repeat (first | split | omega)
theorem frm_small {T : List UInt8} {a : Int} (h : frmE T a = 0) : dCh T ≤ 4 ∧ dSa T ≤ 300 := by
  by_cases h1 : T.length ≤ 9000
  · by_cases h2 : HdP T ∧ dWh T = 1
    · have := hd_bd h2.1
      omega
    · unfold frmE at h
      rw [if_pos h1, if_neg h2] at h
      cases h
  · unfold frmE at h
    rw [if_neg h1] at h
    cases h
set_option maxRecDepth 4000 in
set_option maxHeartbeats 2000000 in
theorem salvages_any (L B K : Nat) (T : List UInt8) (w : World) (hs : T.length ≤ 9223372036854775807) (hL : L ≤ w.heap.size) (hK : K ≤ 1000) (hB : BookL L w B K) (hT : TabsD w) :
    Calls Tryz.prog 27 #[.pointer (some ⟨B, 0, none⟩), .string (bs T)] w fun e w' => e = .returned (.bool true) ∧ (∃ K', K' ≤ K + 100 ∧ BookL L w' B K') ∧ Below L w w' := by
  have HBK := Hid.mk' hB
  have HP := Hid.mk' (fun (u : World) (hu : Below w.heap.size w u) => reelSalvage_any T u hs (hT.below hu).prog)
  have HD := Hid.mk' (fun (u : World) (hu : Below w.heap.size w u) => refSalvage_any T u hs (hT.below hu).tak (hT.below hu).takLt)
  clear hT hB
  by_cases hI : T.length ≤ 9000 ∧ HdP T
  · have hbd := hd_bd hI.2
    obtain ⟨m, hm⟩ := run_exists (dCh T) (dDe T) (B := dBl T) (S := dSa T) (k0 := 0) (T.drop (dSz T)) (Nat.zero_le _)
    have hc : dCh T ≤ 4 := by omega
    have hsa : (chN (dBl T) (dSa T) 0 m) ≤ 300 := by
      rcases hm.le with h | h
      · have := chN_le (by omega) h; omega
      · rw [h]; exact Nat.zero_le _
    have HI := Hid.mk' (fun (e : Ending) (w w' : World) (h : SalAns e w w' T) => h.yesM hI hm)
    have HNM := Hid.mk' (fun u => lnum_any 0 u)
    clear hI hbd hm
    generalize (smpL (dCh T) (dDe T) (dBl T) (dSa T) 0 (T.drop (dSz T)) m) = SMP at *
    generalize (chN (dBl T) (dSa T) 0 m) = nn at *
    generalize bs T = SB at *
    go_enter Tryz.func27, Tryz.ntmps27
    go_wp2_with (first
      | (go_at_call 25; refine (HP.out _ (Below.refl _ _)).mono ?_; intro e u1 ha; obtain ⟨gl, rfl, hro, hb⟩ := HI.out _ _ _ ha; have HB1 := Hid.mk' hb; have HRO := Hid.mk' hro; clear ha hb HP hro)
      | (go_at_call 55; refine (HD.out _ (HB1.out.alloc HB1.out.size _)).mono ?_; intro e u2 ha; obtain ⟨gl2, rfl, hro, hb⟩ := HI.out _ _ _ ha; have HB2 := Hid.mk' ((HB1.out.alloc HB1.out.size _).trans (hb.mono (HB1.out.alloc HB1.out.size _).size)); have HX2 := Hid.mk' ((Bx.new u1 #[.int .i64 (dCh T), .int .i64 (dDe T), .int .i64 (dBl T), .int .i64 (dRa T), .int .i64 (dSe T), .int .i64 (dSa T)] 46).below hb); have HRX := Hid.mk' ((HRO.out.below ((Below.refl _ _).alloc (Nat.le_refl _) _)).below hb); have HRY := Hid.mk' hro; clear ha hb HD hro HB1 HRO)
      | (go_at_call 45; refine (sameAll_L _ _ _ _ (dCh T) nn SMP _ (by omega) (by omega) (HRX.out.below ((Below.refl _ _).alloc (Nat.le_refl _) _)) (HRY.out.below ((Below.refl _ _).alloc (Nat.le_refl _) _))).mono ?_; rintro e u3 ⟨rfl, hb⟩; have HB3 := Hid.mk' ((HB2.out.alloc HB2.out.size _).trans (hb.mono (HB2.out.alloc HB2.out.size _).size)); have HR3 := Hid.mk' ((HRX.out.below ((Below.refl _ _).alloc (Nat.le_refl _) _)).below hb); have hX := (HX2.out.alloc _).below hb; have hY := (Bx.new u2 #[.int .i64 (dCh T), .int .i64 (dDe T), .int .i64 (dBl T), .int .i64 (dRa T), .int .i64 (dSe T), .int .i64 (dSa T)] 46).below hb; have x0 := hX.cell 0; have y0 := hY.cell 0; have x1 := hX.cell 1; have y1 := hY.cell 1; have x2 := hX.cell 2; have y2 := hY.cell 2; have x3 := hX.cell 3; have y3 := hY.cell 3; have x4 := hX.cell 4; have y4 := hY.cell 4; have x5 := hX.cell 5; have y5 := hY.cell 5; clear hb hX hY HB2 HRX HRY HX2)
      | (go_at_call 13; refine (HNM.out _).mono ?_; rintro e w6 ⟨rfl, hw⟩; subst w6; clear HNM)
      | (go_at_call 16; refine (bookL_L L B K (dCh T) nn _ SMP w u3 hL (by omega) (by omega) (by omega) HBK.out HB3.out HR3.out).mono ?_; rintro e u4 ⟨rfl, hbk, hb⟩; have HE : Hid ((∃ K', K' ≤ K + 100 ∧ BookL L u4 B K') ∧ Below L w u4) := ⟨⟨_, by omega, hbk⟩, (HB3.out.mono hL).trans hb⟩; clear hbk hb))
    go_ret
    exact ⟨rfl, HE.out⟩
  · obtain ⟨E, hE⟩ : ∃ E : Int, E = if T.length ≤ 9000 then 7 else 4 := ⟨_, rfl⟩
    have hEb : 0 ≤ E ∧ E ≤ 100 := by rw [hE]; split <;> omega
    have HNM := Hid.mk' (fun u => lnum_any E u)
    have HAN := Hid.mk' (fun (e : Ending) (w w' : World) (h : SalAns e w w' T) => h.nothing hI)
    rw [← hE] at HAN
    clear hI hE
    generalize bs T = SB at *
    go_enter Tryz.func27, Tryz.ntmps27
    go_wp2_with (first
      | (go_at_call 25; refine (HP.out _ (Below.refl _ _)).mono ?_; intro e u1 ha; obtain ⟨rfl, hb⟩ := HAN.out _ _ _ ha; have HB1 := Hid.mk' hb; clear ha hb HP)
      | (go_at_call 55; refine (HD.out _ (HB1.out.alloc HB1.out.size _)).mono ?_; intro e u2 ha; obtain ⟨rfl, hb⟩ := HAN.out _ _ _ ha; have HB2 := Hid.mk' ((HB1.out.alloc HB1.out.size _).trans (hb.mono (HB1.out.alloc HB1.out.size _).size)); have HX2 := Hid.mk' ((Bx.new u1 #[.int .i64 0, .int .i64 0, .int .i64 0, .int .i64 0, .int .i64 0, .int .i64 0] 46).below hb); clear ha hb HD HB1)
      | (go_at_call 45; refine (sameAll_nil _).mono ?_; rintro e u3 ⟨rfl, hb⟩; have HB3 := Hid.mk' ((HB2.out.alloc HB2.out.size _).trans (hb.mono (HB2.out.alloc HB2.out.size _).size)); have hX := (HX2.out.alloc _).below hb; have hY := (Bx.new u2 #[.int .i64 0, .int .i64 0, .int .i64 0, .int .i64 0, .int .i64 0, .int .i64 0] 46).below hb; have x0 := hX.cell 0; have y0 := hY.cell 0; have x1 := hX.cell 1; have y1 := hY.cell 1; have x2 := hX.cell 2; have y2 := hY.cell 2; have x3 := hX.cell 3; have y3 := hY.cell 3; have x4 := hX.cell 4; have y4 := hY.cell 4; have x5 := hX.cell 5; have y5 := hY.cell 5; clear hb hX hY HB2 HX2)
      | (go_at_call 13; refine (HNM.out _).mono ?_; rintro e w6 ⟨rfl, hw⟩; subst w6; clear HNM)
      | (go_at_call 16; refine (bookL_nil L B K w u3 hL (by omega) HBK.out HB3.out).mono ?_; rintro e u4 ⟨rfl, hbk, hb⟩; have HE : Hid ((∃ K', K' ≤ K + 100 ∧ BookL L u4 B K') ∧ Below L w u4) := ⟨⟨_, by omega, hbk⟩, (HB3.out.mono hL).trans hb⟩; clear hbk hb))
    go_ret
    exact ⟨rfl, HE.out⟩
set_option maxRecDepth 4000 in
set_option maxHeartbeats 2000000 in
theorem froms_any (L B K : Nat) (T : List UInt8) (a : Int) (w : World) (hs : T.length ≤ 9223372036854775807) (hL : L ≤ w.heap.size) (hK : K ≤ 1000) (hB : BookL L w B K) (hT : TabsD w) :
    Calls Tryz.prog 28 #[.pointer (some ⟨B, 0, none⟩), .string (bs T), .int .i64 a] w fun e w' => e = .returned (.bool true) ∧ (∃ K', K' ≤ K + 100 ∧ BookL L w' B K') ∧ Below L w w' := by
  have HBK := Hid.mk' hB
  have HP := Hid.mk' (fun (u : World) (hu : Below w.heap.size w u) => reelFrom_any T a u hs (hT.below hu).prog)
  have HD := Hid.mk' (fun (u : World) (hu : Below w.heap.size w u) => refFrom_any T a u hs (hT.below hu).tak (hT.below hu).takLt)
  clear hT hB
  by_cases hI : frmE T a = 0
  · obtain ⟨hc, hsa⟩ := frm_small hI
    have HI := Hid.mk' (fun (e : Ending) (w w' : World) (h : FrmAns e w w' T a) => h.yes hI)
    have HNM := Hid.mk' (fun u => lnum_any 0 u)
    have hnn : dSa T - a.toNat ≤ 300 := by omega
    clear hI
    generalize frmS T a.toNat = SMP at *
    generalize dSa T - a.toNat = nn at *
    generalize bs T = SB at *
    go_enter Tryz.func28, Tryz.ntmps28
    go_wp2_with (first
      | (go_at_call 26; refine (HP.out _ (Below.refl _ _)).mono ?_; intro e u1 ha; obtain ⟨gl, rfl, hro, hb⟩ := HI.out _ _ _ ha; have HB1 := Hid.mk' hb; have HRO := Hid.mk' hro; clear ha hb HP hro)
      | (go_at_call 56; refine (HD.out _ HB1.out).mono ?_; intro e u2 ha; obtain ⟨gl2, rfl, hro, hb⟩ := HI.out _ _ _ ha; have HB2 := Hid.mk' (HB1.out.trans (hb.mono HB1.out.size)); have HRX := Hid.mk' (HRO.out.below hb); have HRY := Hid.mk' hro; clear ha hb HD hro HB1 HRO)
      | (go_at_call 45; refine (sameAll_L _ _ _ _ (dCh T) nn SMP _ (by omega) (by omega) HRX.out HRY.out).mono ?_; rintro e u3 ⟨rfl, hb⟩; have HB3 := Hid.mk' (HB2.out.trans (hb.mono HB2.out.size)); have HR3 := Hid.mk' (HRX.out.below hb); clear hb HB2 HRX HRY)
      | (go_at_call 13; refine (HNM.out _).mono ?_; rintro e w6 ⟨rfl, hw⟩; subst w6; clear HNM)
      | (go_at_call 16; refine (bookL_L L B K (dCh T) nn _ SMP w u3 hL (by omega) (by omega) (by omega) HBK.out HB3.out HR3.out).mono ?_; rintro e u4 ⟨rfl, hbk, hb⟩; have HE : Hid ((∃ K', K' ≤ K + 100 ∧ BookL L u4 B K') ∧ Below L w u4) := ⟨⟨_, by omega, hbk⟩, (HB3.out.mono hL).trans hb⟩; clear hbk hb))
    go_ret
    exact ⟨rfl, HE.out⟩
  · have hEb := frmE_bd T a
    have HNM := Hid.mk' (fun u => lnum_any (frmE T a) u)
    have HAN := Hid.mk' (fun (e : Ending) (w w' : World) (h : FrmAns e w w' T a) => h.nothing hI)
    clear hI
    generalize bs T = SB at *
    generalize frmE T a = E at *
    go_enter Tryz.func28, Tryz.ntmps28
    go_wp2_with (first
      | (go_at_call 26; refine (HP.out _ (Below.refl _ _)).mono ?_; intro e u1 ha; obtain ⟨rfl, hb⟩ := HAN.out _ _ _ ha; have HB1 := Hid.mk' hb; clear ha hb HP)
      | (go_at_call 56; refine (HD.out _ HB1.out).mono ?_; intro e u2 ha; obtain ⟨rfl, hb⟩ := HAN.out _ _ _ ha; have HB2 := Hid.mk' (HB1.out.trans (hb.mono HB1.out.size)); clear ha hb HD HB1)
      | (go_at_call 45; refine (sameAll_nil _).mono ?_; rintro e u3 ⟨rfl, hb⟩; have HB3 := Hid.mk' (HB2.out.trans (hb.mono HB2.out.size)); clear hb HB2)
      | (go_at_call 13; refine (HNM.out _).mono ?_; rintro e w6 ⟨rfl, hw⟩; subst w6; clear HNM)
      | (go_at_call 16; refine (bookL_nil L B K w u3 hL (by omega) HBK.out HB3.out).mono ?_; rintro e u4 ⟨rfl, hbk, hb⟩; have HE : Hid ((∃ K', K' ≤ K + 100 ∧ BookL L u4 B K') ∧ Below L w u4) := ⟨⟨_, by omega, hbk⟩, (HB3.out.mono hL).trans hb⟩; clear hbk hb))
    go_ret
    exact ⟨rfl, HE.out⟩
end Go.Proofs.YtlncjgnomhpjnaaGreatDoor

/-
  The law 'Rescues'.
-/
namespace Go.Proofs.YtlncjgnomhpjnaaGreatDoor
open Go.RowKit Go.Deep
set_option linter.unusedVariables false
/-- a book, and lists beside it that it does not hold yet -/
def BookY (L : Nat) (w : World) (B K : Nat) (v : Value) (n nn : Nat) : Prop :=
  ∃ S : Nat → Prop, BookP S w B K ∧ (∀ k, S k → L ≤ k) ∧ ∃ (g : Nat) (X : Nat → Value) (ogs : Nat → Option Nat), LstE 29 w v n (some g) X ∧ L ≤ g ∧ ¬ S g ∧ (∀ i, i < n → ∃ x, LstE 3 w (X i) nn (ogs i) x) ∧ (∀ i, i < n → ∀ q, ogs i = some q → L ≤ q ∧ ¬ S q) ∧ ∀ i k, i < n → k < n → i ≠ k → ∀ q, ogs i = some q → ogs k ≠ some q
theorem bookL_firstTwo (L : Nat) (w um u : World) (v v2 : Value) (n nn n2 nn2 : Nat) (H H2 : Nat → Nat → Int) (hL : L ≤ w.heap.size) (hwm : w.heap.size ≤ um.heap.size) (hbu : Below um.heap.size um u) (hn : n ≤ 1000000) (hnn : nn ≤ 1000000) (h : RowsL w.heap.size um v n nn H) (hy : RowsL um.heap.size u v2 n2 nn2 H2) :
    Calls Tryz.prog 16 #[.pointer (some ⟨u.heap.size, 0, none⟩), v] (u.alloc (.cells #[.slice none 0 0, .slice none 0 0, .int .i64 0] 39)) fun e w' => e = .returned (.tuple #[]) ∧ BookY L w' u.heap.size (0 + n + 1) v2 n2 nn2 ∧ Below L u w' := by
  have hb : Below u.heap.size u (u.alloc (.cells #[.slice none 0 0, .slice none 0 0, .int .i64 0] 39)) := (Below.refl _ _).alloc (Nat.le_refl _) _
  have hB : BookP (fun k => k = u.heap.size) (u.alloc (.cells #[.slice none 0 0, .slice none 0 0, .int .i64 0] 39)) u.heap.size 0 := by
    refine ⟨.slice none 0 0, .slice none 0 0, 0, 0, [], [], blk_alloc_new _ _, rfl, World.ownsRow_nil _ _ _ _, World.ownsRow_nil _ _ _ _, fun g hg => ?_, fun g hg => ?_, fun i hi => absurd hi (Nat.not_lt_zero i), fun i hi => absurd hi (Nat.not_lt_zero i), Nat.le_refl _, fun k hk => by rw [hk]; simp⟩
    · simp [Value.ownBlock] at hg
    · simp [Value.ownBlock] at hg
  obtain ⟨g, X, gs, h1, h2, h3, h4, h5⟩ := h.lst
  obtain ⟨g', X', gs', k1, k2, k3, k4, k5⟩ := hy.lst
  have hsu := hbu.size
  have hgm : g < um.heap.size := h1.lt rfl
  have hqm : ∀ i, i < n → ∀ q, gs i = some q → q < um.heap.size := fun i hi q hq => (h3 i hi).lt hq
  have hgu' : g' < u.heap.size := k1.lt rfl
  have hqu' : ∀ i, i < n2 → ∀ q, gs' i = some q → q < u.heap.size := fun i hi q hq => (k3 i hi).lt hq
  have hblk : ∀ q, q < um.heap.size → (u.alloc (.cells #[.slice none 0 0, .slice none 0 0, .int .i64 0] 39)).heap[q]? = um.heap[q]? := fun q hq => (hb.block q (by omega)).trans (hbu.block q hq)
  refine (bookTakeAll_any (fun k => k = u.heap.size) u.heap.size 0 n (some g) X v gs _ hn (by omega) hB (h1.keep fun q hq => hblk q (h1.lt hq)) (fun q hq hh => by injection hq with hq; omega) (fun i hi => ⟨nn, _, hnn, (h3 i hi).keep fun q hq => hblk q ((h3 i hi).lt hq)⟩) (fun i hi q hq hh => by have := hqm i hi q hq; omega) (fun i k hi hk hik q h6 h7 => h5 i k hi hk hik q h6 h7)).mono ?_
  rintro e w' ⟨he, ht⟩
  have hsz : (u.alloc (.cells #[.slice none 0 0, .slice none 0 0, .int .i64 0] 39)).heap.size = u.heap.size + 1 := by simp
  have hy' : ∀ k, um.heap.size ≤ k → k < u.heap.size → w'.heap[k]? = u.heap[k]? := fun k hk hk2 => (ht.block k (by omega) (by omega) (fun e => by injection e with e; omega) (fun i hi e => by have := hqm i hi k e; omega)).trans (hb.block k hk2)
  have hnS : ∀ k, um.heap.size ≤ k → k < u.heap.size → ¬ ((k = u.heap.size ∨ some g = some k ∨ (∃ i, i < n ∧ gs i = some k) ∨ (u.alloc (.cells #[.slice none 0 0, .slice none 0 0, .int .i64 0] 39)).heap.size ≤ k) ∧ k < w'.heap.size) := by
    rintro k hk hk2 ⟨h6 | h6 | ⟨i, hi, h6⟩ | h6, -⟩
    · omega
    · injection h6 with h6; omega
    · have := hqm i hi k h6; omega
    · omega
  refine ⟨he, ⟨_, ht.book, fun k hk => ?_, g', X', gs', k1.keep (fun q hq => by injection hq with hq; subst hq; exact hy' _ k2 hgu'), by omega, hnS _ k2 hgu', fun i hi => ⟨_, (k3 i hi).keep fun q hq => hy' q (k4 i hi q hq) (hqu' i hi q hq)⟩, fun i hi q hq => ⟨by have := k4 i hi q hq; omega, hnS q (k4 i hi q hq) (hqu' i hi q hq)⟩, k5⟩, ht.os.trans hb.os, ht.tape.trans hb.tape, ht.output.trans hb.output, Nat.le_trans hb.size ht.size, fun k hk => (ht.block k (by omega) (by omega) (fun e => by injection e with e; omega) (fun i hi e => by have := h4 i hi k e; omega)).trans (hb.block k (by omega))⟩
  rcases hk.1 with h6 | h6 | ⟨i, hi, h6⟩ | h6
  · omega
  · injection h6 with h6; omega
  · have := h4 i hi k h6; omega
  · rw [hsz] at h6; omega
theorem bookL_second (L B K n nn : Nat) (v : Value) (w : World) (hn : n ≤ 1000000) (hnn : nn ≤ 1000000) (hK : K ≤ 500000000000) (h : BookY L w B K v n nn) :
    Calls Tryz.prog 16 #[.pointer (some ⟨B, 0, none⟩), v] w fun e w' => e = .returned (.tuple #[]) ∧ BookL L w' B (K + n + 1) ∧ Below L w w' := by
  obtain ⟨S, hB, hS, g, X, gs, h1, h2, h2', h3, h4, h5⟩ := h
  have hgl : g < w.heap.size := h1.lt rfl
  refine (bookTakeAll_any S B K n (some g) X v gs w hn hK hB h1 (fun q hq => by injection hq with hq; subst hq; exact h2') (fun i hi => by obtain ⟨x, hx⟩ := h3 i hi; exact ⟨nn, x, hnn, hx⟩) (fun i hi q hq => (h4 i hi q hq).2) (fun i k hi hk hik q h6 h7 => h5 i k hi hk hik q h6 h7)).mono ?_
  rintro e w' ⟨he, ht⟩
  refine ⟨he, BookP.mono ht.book (fun k hk => ⟨?_, hk.2⟩) (fun k hk => hk.2), ht.os, ht.tape, ht.output, ht.size, fun k hk => ht.block k (by omega) (fun hh => by have := hS k hh; omega) (fun e => by injection e with e; omega) (fun i hi e => by have := (h4 i hi k e).1; omega)⟩
  rcases hk.1 with h6 | h6 | ⟨i, hi, h6⟩ | h6
  · exact hS k h6
  · injection h6 with h6; omega
  · exact (h4 i hi k h6).1
  · omega
theorem exSal_any (w : World) (hT : TabsU w) :
    Calls Tryz.prog 25 #[.string exSt] w fun e w' => ∃ gl H, e = .returned (.tuple #[.agg #[.int .i64 1, .int .i64 4, .int .i64 1, .int .i64 0, .int .i64 0, .int .i64 0], .slice (some ⟨gl, 0, none⟩) 1 1, .int .i64 0]) ∧ RowsL w.heap.size w' (.slice (some ⟨gl, 0, none⟩) 1 1) 1 0 H ∧ Below w.heap.size w w' := by
  rw [← exD_bs]
  refine (reelSalvage_any exD w (by decide) hT).mono ?_
  intro e w' ha
  obtain ⟨-, e1, e2, e3, e4, e5, e6, -⟩ := exD_h
  have hm : RunIs (dCh exD) (dDe exD) (dBl exD) (dSa exD) 0 (exD.drop (dSz exD)) 0 := ⟨.inl (Nat.zero_le _), fun j hj => absurd hj (Nat.not_lt_zero j), fun h => absurd h (by decide)⟩
  obtain ⟨gl, rfl, hr, hb⟩ := ha.yesM ⟨by decide, exD_hd⟩ hm
  rw [e1] at hr
  exact ⟨gl, _, by rw [e1, e2, e3, e4, e5, e6]; rfl, hr, hb⟩
theorem exFrm0 : frmE exD 0 = 0 := by
  unfold frmE
  rw [if_pos (by decide), if_pos ⟨exD_hd, by decide⟩, if_pos ⟨by decide, by decide⟩, if_pos (.inl (by decide))]
theorem exFrm1 : frmE exD 1 = 3 := by
  unfold frmE
  rw [if_pos (by decide), if_pos ⟨exD_hd, by decide⟩, if_neg (by decide)]
theorem exFrom0_any (w : World) (hT : TabsU w) :
    Calls Tryz.prog 26 #[.string exSt, .int .i64 0] w fun e w' => ∃ gl H, e = .returned (.tuple #[.slice (some ⟨gl, 0, none⟩) 1 1, .int .i64 0]) ∧ RowsL w.heap.size w' (.slice (some ⟨gl, 0, none⟩) 1 1) 1 0 H ∧ Below w.heap.size w w' := by
  rw [← exD_bs]
  refine (reelFrom_any exD 0 w (by decide) hT).mono ?_
  intro e w' ha
  obtain ⟨-, e1, e2, e3, e4, e5, e6, -⟩ := exD_h
  obtain ⟨gl, rfl, hr, hb⟩ := ha.yes exFrm0
  rw [e1, e5] at hr
  exact ⟨gl, _, by rw [e1], hr, hb⟩
theorem exFrom1_any (w : World) (hT : TabsU w) :
    Calls Tryz.prog 26 #[.string exSt, .int .i64 1] w fun e w' => e = .returned (.tuple #[.slice none 0 0, .int .i64 3]) ∧ Below w.heap.size w w' := by
  rw [← exD_bs]
  refine (reelFrom_any exD 1 w (by decide) hT).mono ?_
  intro e w' ha
  have h := ha.nothing (by rw [exFrm1]; decide)
  rw [exFrm1] at h
  exact h
set_option maxRecDepth 4000 in
set_option maxHeartbeats 2000000 in
theorem rescuesLaw (T : List UInt8) (a : Int) (w : World) (hs : T.length ≤ 9223372036854775807) (hT : TabsD w) :
    Calls Tryz.prog 7 #[.string (bs T), .int .i64 a] w fun e w' => e = .returned (.bool true) ∧ Below w.heap.size w w' := by
  have HES := Hid.mk' (fun (u : World) (hu : Below w.heap.size w u) => exSal_any u (hT.below hu).prog)
  have HE0 := Hid.mk' (fun (u : World) (hu : Below w.heap.size w u) => exFrom0_any u (hT.below hu).prog)
  have HE1 := Hid.mk' (fun (u : World) (hu : Below w.heap.size w u) => exFrom1_any u (hT.below hu).prog)
  have HT1 := Hid.mk' (fun (u : World) (hu : Below w.heap.size w u) => empty_any u (hT.below hu).non (hT.below hu).nonLt)
  have HT2 := Hid.mk' HT1.out
  have HT3 := Hid.mk' HT1.out
  have HSV := Hid.mk' (fun (u : World) (B K : Nat) (hu : Below w.heap.size w u) (hK : K ≤ 1000) (hB : BookL w.heap.size u B K) => salvages_any w.heap.size B K T u hs hu.size hK hB (hT.below hu))
  have HFM := Hid.mk' (fun (u : World) (B K : Nat) (hu : Below w.heap.size w u) (hK : K ≤ 1000) (hB : BookL w.heap.size u B K) => froms_any w.heap.size B K T a u hs hu.size hK hB (hT.below hu))
  have HNM := Hid.mk' (fun c u => lnum_any c u)
  clear hT
  generalize exSt = ES at *
  generalize bs T = SB at *
  go_enter Tryz.func7, Tryz.ntmps7
  go_wp2_with (first
    | (go_at_call 21; refine (HT1.out _ (Below.refl _ _)).mono ?_; rintro e w1 ⟨rfl, hb⟩; have HB1 := Hid.mk' hb; clear hb HT1)
    | (go_at_call 25; refine (HES.out _ HB1.out).mono ?_; rintro e u1 ⟨gx, HX, rfl, hro, hb⟩; have HU1 := Hid.mk' (HB1.out.trans (hb.mono HB1.out.size)); have HRX := Hid.mk' (hro.mono (base' := w.heap.size) HB1.out.size); have HIX := Hid.mk' (Bx.new u1 #[.int .i64 1, .int .i64 4, .int .i64 1, .int .i64 0, .int .i64 0, .int .i64 0] 46); clear hb hro HES HB1)
    | (go_at_call 21; refine (HT2.out _ (HU1.out.alloc HU1.out.size _)).mono ?_; rintro e w2 ⟨rfl, hb⟩; have HB2 := Hid.mk' ((HU1.out.alloc HU1.out.size _).trans (hb.mono (HU1.out.alloc HU1.out.size _).size)); have HM2 := Hid.mk' (((Below.refl u1.heap.size u1).alloc (Nat.le_refl _) (.cells #[.int .i64 1, .int .i64 4, .int .i64 1, .int .i64 0, .int .i64 0, .int .i64 0] 46)).trans (hb.mono (by simp))); have HI2 := Hid.mk' (HIX.out.below hb); clear hb HT2 HIX)
    | (go_at_call 26; refine (HE0.out _ HB2.out).mono ?_; rintro e u2 ⟨gy, HY, rfl, hro, hb⟩; have HB3 := Hid.mk' (HB2.out.trans (hb.mono HB2.out.size)); have HM3 := Hid.mk' (HM2.out.trans (hb.mono HM2.out.size)); have HRY := Hid.mk' (hro.mono (base' := u1.heap.size) HM2.out.size); have HI3 := Hid.mk' (HI2.out.below hb); clear hb hro HE0 HB2 HM2 HI2)
    | (go_at_call 21; refine (HT3.out _ HB3.out).mono ?_; rintro e w3 ⟨rfl, hb⟩; have HB4 := Hid.mk' (HB3.out.trans (hb.mono HB3.out.size)); have HM4 := Hid.mk' (HM3.out.trans (hb.mono HM3.out.size)); have HRY4 := Hid.mk' (HRY.out.below hb); have HI4 := Hid.mk' (HI3.out.below hb); clear hb HT3 HB3 HM3 HRY HI3)
    | (go_at_call 26; refine (HE1.out _ HB4.out).mono ?_; rintro e u3 ⟨rfl, hb⟩; have HB5 := Hid.mk' (HB4.out.trans (hb.mono HB4.out.size)); have HM5 := Hid.mk' (HM4.out.trans (hb.mono HM4.out.size)); have HRY5 := Hid.mk' (HRY4.out.below hb); have HI5 := Hid.mk' (HI4.out.below hb); have i0 := HI5.out.cell 0; clear hb HE1 HB4 HM4 HRY4 HI4)
    | (go_at_call 13; refine (HNM.out _ _).mono ?_; rintro e w6 ⟨rfl, hw⟩; subst w6)
    | (go_at_call 16; refine (bookL_firstTwo w.heap.size w u1 u3 (.slice (some ⟨gx, 0, none⟩) 1 1) (.slice (some ⟨gy, 0, none⟩) 1 1) 1 0 1 0 HX HY (Nat.le_refl _) HU1.out.size HM5.out (by omega) (by omega) HRX.out HRY5.out).mono ?_; rintro e u4 ⟨rfl, hbk, hb⟩; have HB6 := Hid.mk' ((HB5.out.mono (Nat.le_refl _)).trans hb); have HBY := Hid.mk' hbk; clear hbk hb HRX HRY5 HB5)
    | (go_at_call 16; refine (bookL_second w.heap.size u3.heap.size (0 + 1 + 1) 1 0 (.slice (some ⟨gy, 0, none⟩) 1 1) u4 (by omega) (by omega) (by omega) HBY.out).mono ?_; rintro e u5 ⟨rfl, hbk, hb⟩; have HB7 := Hid.mk' (HB6.out.trans hb); have HBK := Hid.mk' hbk; clear hbk hb HBY HB6)
    | (go_at_call 27; refine (HSV.out u5 u3.heap.size (0 + 1 + 1 + 1 + 1) HB7.out (by omega) HBK.out).mono ?_; rintro e u6 ⟨rfl, ⟨K1, hK1, hbk⟩, hb⟩; have HB8 := Hid.mk' (HB7.out.trans hb); have HBK1 := Hid.mk' hbk; clear hbk hb HSV HB7 HBK)
    | (go_at_call 28; refine (HFM.out u6 u3.heap.size K1 HB8.out (by omega) HBK1.out).mono ?_; rintro e u7 ⟨rfl, ⟨K2, hK2, hbk⟩, hb⟩; have HB9 := Hid.mk' (HB8.out.trans hb); have HBK2 := Hid.mk' hbk; clear hbk hb HFM HB8 HBK1)
    | (go_at_call 18; refine (bookLooks_any _ u3.heap.size K2 u7 (by omega) HBK2.out).mono ?_; rintro e u8 ⟨rfl, hb⟩; have HBA := Hid.mk' (HB9.out.trans (hb.mono HB9.out.size)); clear hb))
  go_ret
  exact ⟨rfl, HBA.out⟩
end Go.Proofs.YtlncjgnomhpjnaaGreatDoor

