import Derived.Test.YtlncjgnomhpjnaaGreatDoorPL14
import Derived.Test.YtlncjgnomhpjnaaGreatDoorPL13
import Derived.Test.YtlncjgnomhpjnaaGreatDoorPL6
import Derived.Test.YtlncjgnomhpjnaaGreatDoorPL2
import Derived.Deep.QuietTactic
import Derived.BigQuiet
/-
  The program's packer: a subframe.
-/
namespace Go.Proofs.YtlncjgnomhpjnaaGreatDoor
open Go.RowKit Go.Deep
set_option linter.unusedVariables false
theorem wr_new (w : World) : Wr (w.alloc (.cells #[.pointer none, .slice none 0 0] 152)) w.heap.size w.heap.size [] := by
  refine .inl (Lib.BuilderAtF.of ⟨Nat.le_refl _, .slice none 0 0, blk_alloc_new _ _, ⟨rfl, .inl ⟨rfl, rfl⟩⟩, by simp [Value.ownBlock]⟩)
theorem Wr.text_ne {T : List UInt8} (h : 4 ≤ T.length) : T ≠ [] := by
  intro e; rw [e] at h; simp at h
set_option maxRecDepth 100000 in
set_option maxHeartbeats 4000000 in
theorem lay_any (kind shift : Nat) (A : Option Addr) (n c width : Nat) (x : Nat → Int) (w : World) (h7 : kind ≤ 7) (hs : shift ≤ 12) (hn1 : 1 ≤ n) (hn : n ≤ 32) (hnc : n ≤ c) (hw : width ≤ 13) (hok : 2 ≤ kind → okG kind x n = true) (hS : Shorts w A n x) :
    Calls Tryz.prog 168 #[.int .i64 width, .int .i64 shift, .slice A n c, .agg (bodyA kind width x n)] w fun e w' => e = .returned (.string ⟨(binT kind 4 ++ binT shift 4 ++ bodyT kind width x n).toArray⟩) ∧ Below w.heap.size w w' := by
  obtain ⟨B, hB⟩ : ∃ B, B = w.heap.size + 1 := ⟨_, rfl⟩
  obtain ⟨w0, hw0⟩ : ∃ w0, w0 = (w.alloc (.cells (bodyA kind width x n) 206)).alloc (.cells #[.pointer none, .slice none 0 0] 152) := ⟨_, rfl⟩
  have hb0 : Below w.heap.size w w0 := by rw [hw0]; exact ((Below.refl _ _).alloc (Nat.le_refl _) _).alloc (by simp) _
  have HT0 : Hid (Bx w0 w.heap.size 206 (bodyA kind width x n)) := by rw [hw0]; exact (Bx.new _ _ _).alloc _
  have HA0 : Hid (Wr w0 B B []) := by
    have := wr_new (w.alloc (.cells (bodyA kind width x n) 206))
    rw [World.size_alloc] at this
    rw [hw0, hB]; exact this
  have hBw0 : B ≤ w0.heap.size := by rw [hw0, hB]; simp
  have hTBb : w.heap.size ≠ B := by omega
  have HW00 := Hid.mk' hb0
  have HII : Hid (∀ u, Below B w0 u → IntsAt u A n x) := fun u hu => (hS.ints.belowB hb0 hS.low).belowB hu (fun y hy h0 => by have := hS.low y hy h0; omega)
  have HLOW : Hid (∀ y, A = some y → 0 < n → y.block < B) := fun y hy h0 => by have := hS.low y hy h0; omega
  have HXX := Hid.mk' hS.bd
  have HFIN : Hid (∀ u, Below B w0 u → Below w.heap.size w u) := fun u hu => hb0.trans (hu.mono (by omega))
  have HN1 := Hid.mk' (wNumber_any B B [] (kind : Int) 4 w0 HA0.out (by omega) (by simp) hBw0)
  rw [List.nil_append] at HN1
  have HN2 := Hid.mk' (fun (u : World) (hu : Wr u B B (binT kind 4)) (hs' : B ≤ u.heap.size) => wNumber_any B B (binT kind 4) (shift : Int) 4 u hu (by omega) (by rw [binT_length]; omega) hs')
  have HTX := Hid.mk' (fun (T : List UInt8) (u : World) (hu : Wr u B B (binT kind 4 ++ binT shift 4 ++ T)) => wText_any B B (binT kind 4 ++ binT shift 4 ++ T) u hu (Wr.text_ne (by rw [List.length_append, List.length_append, binT_length]; omega)))
  obtain ⟨T2, hT2⟩ : ∃ T2, T2 = binT kind 4 ++ binT shift 4 := ⟨_, rfl⟩
  have hT2l : T2.length = 8 := by rw [hT2, List.length_append, binT_length, binT_length]
  rw [← hT2] at HN2 HTX ⊢
  have q0 := HT0.out.cell 0
  rw [bodyA_kind] at q0
  clear hT2 hb0 hS
  subst hw0
  by_cases hk0 : kind = 0
  · have HBT : Hid (bodyT kind width x n = binT (x 0) width) := by show _ = _; unfold bodyT; rw [if_pos hk0]
    have k0 : ((kind : Int) == 0) = true := by simp [hk0]
    have HNB := Hid.mk' (fun (u : World) (hu : Wr u B B T2) (hs' : B ≤ u.heap.size) => wNumber_any B B T2 (x 0) width u hu (by omega) (by omega) hs')
    rw [← HBT.out] at HNB
    clear hk0 hok
    subst hB
    go_enter Tryz.func168, Tryz.ntmps168
    go_wp2_with (first
      | (go_at_call 122; refine HN1.out.mono ?_; rintro e w1 ⟨rfl, h1, h2⟩; have HM1 := Hid.mk' (And.intro h1 h2); clear h1 h2 HN1 q0; have HTQ := Hid.mk' (HT0.out.keptW HM1.out.2 hTBb (by decide)); have q0 := HTQ.out.cell 0; rw [bodyA_kind] at q0; clear HTQ)
      | (go_at_call 122; refine (HN2.out _ ?_ ?_).mono ?_; exact HM1.out.1; exact Nat.le_trans hBw0 HM1.out.2.1.size; rintro e w2 ⟨rfl, h1, h2⟩; have HM2 := Hid.mk' (And.intro h1 (HM1.out.2.trans h2)); clear h1 h2 HN2 HM1 q0; have HTQ := Hid.mk' (HT0.out.keptW HM2.out.2 hTBb (by decide)); have q0 := HTQ.out.cell 0; rw [bodyA_kind] at q0; clear HTQ; obtain ⟨bb, off, hx, hc⟩ := (HII.out w2 HM2.out.2.1).open (by omega); have hcz := hc 0 (by omega); rw [Nat.add_zero] at hcz; clear hc; subst hx)
      | (go_at_call 122; refine (HNB.out _ ?_ ?_).mono ?_; exact HM2.out.1; exact Nat.le_trans hBw0 HM2.out.2.1.size; rintro e w3 ⟨rfl, h1, h2⟩; have HM3 := Hid.mk' (And.intro h1 (HM2.out.2.1.trans h2.1)); clear h1 h2 HNB)
      | (go_at_call 123; refine (HTX.out (bodyT kind width x n) _ ?_).mono ?_; exact HM3.out.1; rintro e w4 ⟨rfl, h1⟩; have HZ := Hid.mk' h1; clear h1 HTX))
    go_ret
    exact ⟨rfl, HFIN.out _ (HM3.out.2.trans HZ.out)⟩
  · have k0 : ((kind : Int) == 0) = false := by simp [hk0]
    by_cases hk1 : kind = 1
    · have HBT : Hid (bodyT kind width x n = numsT x width n) := by show _ = _; unfold bodyT; rw [if_neg hk0, if_pos hk1]
      have k1 : ((kind : Int) == 1) = true := by simp [hk1]
      have HNB := Hid.mk' (fun (u : World) (hu : Wr u B B T2) (hs' : B ≤ u.heap.size) (hI : ∀ u', KeptW B B u u' → IntsAt u' A n x) => wNumbers_any B B T2 x A n c width u hu hn (by omega) (by omega) hs' hI)
      rw [← HBT.out] at HNB
      clear hk0 hk1 hok
      subst hB
      go_enter Tryz.func168, Tryz.ntmps168
      go_wp2_with (first
        | (go_at_call 122; refine HN1.out.mono ?_; rintro e w1 ⟨rfl, h1, h2⟩; have HM1 := Hid.mk' (And.intro h1 h2); clear h1 h2 HN1 q0; have HTQ := Hid.mk' (HT0.out.keptW HM1.out.2 hTBb (by decide)); have q0 := HTQ.out.cell 0; rw [bodyA_kind] at q0; clear HTQ)
        | (go_at_call 122; refine (HN2.out _ ?_ ?_).mono ?_; exact HM1.out.1; exact Nat.le_trans hBw0 HM1.out.2.1.size; rintro e w2 ⟨rfl, h1, h2⟩; have HM2 := Hid.mk' (And.intro h1 (HM1.out.2.trans h2)); clear h1 h2 HN2 HM1 q0; have HTQ := Hid.mk' (HT0.out.keptW HM2.out.2 hTBb (by decide)); have q0 := HTQ.out.cell 0; rw [bodyA_kind] at q0; clear HTQ; skip)
        | (go_at_call 190; refine (HNB.out _ ?_ ?_ ?_).mono ?_; exact HM2.out.1; exact Nat.le_trans hBw0 HM2.out.2.1.size; exact (fun u' hu' => HII.out u' (HM2.out.2.1.trans hu'.1)); rintro e w3 ⟨rfl, h1, h2⟩; have HM3 := Hid.mk' (And.intro h1 (HM2.out.2.1.trans h2.1)); clear h1 h2 HNB)
        | (go_at_call 123; refine (HTX.out (bodyT kind width x n) _ ?_).mono ?_; exact HM3.out.1; rintro e w4 ⟨rfl, h1⟩; have HZ := Hid.mk' h1; clear h1 HTX))
      go_ret
      exact ⟨rfl, HFIN.out _ (HM3.out.2.trans HZ.out)⟩
    · have h2 : 2 ≤ kind := by omega
      have HBT : Hid (bodyT kind width x n = gT kind width x n) := by show _ = _; unfold bodyT; rw [if_neg hk0, if_neg hk1]
      have k1 : ((kind : Int) == 1) = false := by simp; omega
      have HNB := Hid.mk' (fun (u : World) (hu : Wr u B B T2) (hk' : Below B ((w.alloc (.cells (bodyA kind width x n) 206)).alloc (.cells #[.pointer none, .slice none 0 0] 152)) u) => layGuessed_any B B T2 kind A n c width x u hu (Nat.le_trans hBw0 hk'.size) h2 h7 hn hnc hw (hok h2) (by omega) (fun u' hu' => HII.out u' (hk'.trans hu')) HLOW.out HXX.out)
      rw [← HBT.out] at HNB
      clear hk0 hk1 hok
      subst hB
      go_enter Tryz.func168, Tryz.ntmps168
      go_wp2_with (first
        | (go_at_call 122; refine HN1.out.mono ?_; rintro e w1 ⟨rfl, h1, h2⟩; have HM1 := Hid.mk' (And.intro h1 h2); clear h1 h2 HN1 q0; have HTQ := Hid.mk' (HT0.out.keptW HM1.out.2 hTBb (by decide)); have q0 := HTQ.out.cell 0; rw [bodyA_kind] at q0; clear HTQ)
        | (go_at_call 122; refine (HN2.out _ ?_ ?_).mono ?_; exact HM1.out.1; exact Nat.le_trans hBw0 HM1.out.2.1.size; rintro e w2 ⟨rfl, h1, h2⟩; have HM2 := Hid.mk' (And.intro h1 (HM1.out.2.trans h2)); clear h1 h2 HN2 HM1 q0; have HTQ := Hid.mk' (HT0.out.keptW HM2.out.2 hTBb (by decide)); have q0 := HTQ.out.cell 0; rw [bodyA_kind] at q0; clear HTQ; skip)
        | (refine wpList_loadRow rfl _ 206 rfl w.heap.size 206 (bodyA kind width x n) (0, 0) _ rfl (HT0.out.keptW HM2.out.2 hTBb (by decide)) Tryz.underlying206 rfl infoBody ?_)
        | (go_at_call 191; refine (HNB.out _ ?_ ?_).mono ?_; exact HM2.out.1; exact HM2.out.2.1; rintro e w3 ⟨rfl, h1, h2⟩; have HM3 := Hid.mk' (And.intro h1 (HM2.out.2.1.trans h2)); clear h1 h2 HNB)
        | (go_at_call 123; refine (HTX.out (bodyT kind width x n) _ ?_).mono ?_; exact HM3.out.1; rintro e w4 ⟨rfl, h1⟩; have HZ := Hid.mk' h1; clear h1 HTX))
      go_ret
      exact ⟨rfl, HFIN.out _ (HM3.out.2.trans HZ.out)⟩
end Go.Proofs.YtlncjgnomhpjnaaGreatDoor

/-
  The program's packer: Code.
-/
namespace Go.Proofs.YtlncjgnomhpjnaaGreatDoor
open Go.RowKit Go.Deep
set_option linter.unusedVariables false
theorem short_bd (l : Nat → Int) (n width i : Nat) (h : -4096 ≤ l i ∧ l i ≤ 4096) : -4096 ≤ shortX l n width i ∧ shortX l n width i ≤ 4096 := by
  unfold shortX
  have hp := ip2_pos (shiftN l n width)
  constructor
  · rw [Int.le_ediv_iff_mul_le hp]
    have := Int.mul_le_mul_of_nonneg_left (show (1 : Int) ≤ 2 ^ shiftN l n width by omega) (show (0 : Int) ≤ 4096 by omega)
    omega
  · by_cases h0 : 0 ≤ l i
    · have := Int.ediv_le_self (2 ^ shiftN l n width) h0; omega
    · have := Int.ediv_neg_of_neg_of_pos (show l i < 0 by omega) hp; omega
/-- what the program's tables are -/
structure Tabs (w : World) : Prop where
  fixed : TabAt w 7
  fixedLt : 7 < w.heap.size
  tz : TzAt w 6
  tzLt : 6 < w.heap.size
theorem Tabs.below {w u : World} (h : Tabs w) (hb : Below w.heap.size w u) : Tabs u :=
  ⟨fun r c hr hc => (hb.cell (p := ⟨7, 4 * r + c, none⟩) h.fixedLt).trans (h.fixed r c hr hc), Nat.lt_of_lt_of_le h.fixedLt hb.size,
   fun t ht => (hb.cell (p := ⟨6, _, none⟩) h.tzLt).trans (h.tz t ht), Nat.lt_of_lt_of_le h.tzLt hb.size⟩
set_option maxRecDepth 100000 in
set_option maxHeartbeats 2000000 in
theorem subCode_any (A : Option Addr) (n c width : Nat) (l : Nat → Int) (w : World) (hn1 : 1 ≤ n) (hn : n ≤ 32) (hw1 : 1 ≤ width) (hw : width ≤ 13) (hl : ∀ j, j < n → fitsB width (l j) = true) (hI : IntsAt w A n l) (hlow : ∀ y, A = some y → 0 < n → y.block < w.heap.size) (hT : Tabs w) :
    Calls Tryz.prog 141 #[.int .i64 width, .slice A n c] w fun e w' => e = .returned (.string (bs (subT width l n))) ∧ Below w.heap.size w w' := by
  have hsl : shiftN l n width ≤ width - 1 := shiftT_le _ _ _
  have HCS := Hid.mk' (commonShift_any A n c width l w hn hw1 hw hl hI hT.tz)
  have HSH := Hid.mk' (fun m => shorten_any A n c (shiftN l n width) l (w.drewN m) hn (by omega) hI hlow)
  have HTX : Hid (bs (subT width l n) = ⟨(binT (bestK (width - shiftN l n width) (shortX l n width) n 6 : Nat) 4 ++ binT (shiftN l n width) 4 ++ bodyT (bestK (width - shiftN l n width) (shortX l n width) n 6) (width - shiftN l n width) (shortX l n width) n).toArray⟩) := by
    show _ = _
    unfold subT subKind bs
    rw [List.append_assoc]
  have hbd := fun j (hj : j < n) => short_bd l n width j (fits_bd (hl j hj) hw)
  have HXE : Hid ((fun i => l i / 2 ^ shiftN l n width) = shortX l n width) := rfl
  rw [HXE.out] at HSH
  generalize shortX l n width = x at *
  generalize shiftN l n width = s at *
  have HSHORT := Hid.mk' (fun (u : World) (G : Nat) (h : u.rowIs G 3 n (cutV n x)) => (⟨fun i hi => ⟨_, rfl, by
      have := h.cell (i := i) hi
      unfold cutV cutI at this
      rw [if_pos hi] at this
      rw [← this]; cases i <;> simp [Addr.add]⟩, fun y hy _ => by cases hy; exact h.lt, hbd⟩ : Shorts u (some ⟨G, 0, none⟩) n x))
  have HSB := Hid.mk' (fun (G : Nat) (u : World) (hu : Shorts u (some ⟨G, 0, none⟩) n x) (ht : Tabs u) => shortestBody_any (some ⟨G, 0, none⟩) n n (width - s) x u hn1 hn (Nat.le_refl _) (by omega) (by omega) hu ht.fixed ht.fixedLt)
  have HLY := Hid.mk' (fun (G : Nat) (u : World) (hu : Shorts u (some ⟨G, 0, none⟩) n x) => lay_any (bestK (width - s) x n 6) s (some ⟨G, 0, none⟩) n n (width - s) x u (bestK_le _ _ _ _) (by omega) hn1 hn (Nat.le_refl _) (by omega) (bestK_ok _ _ _ _) hu)
  have HTT := Hid.mk' hT
  have vW : IntKind.i64.wrap ((width : Int) - (s : Int)) = ((width - s : Nat) : Int) := by rw [IntKind.wrap_i64]; omega
  rw [HTX.out]
  generalize hws : width - s = ws at *
  clear hl hI hlow hT hbd HXE HTX hws
  simp only [bodyV_eq] at HSB
  go_enter Tryz.func141, Tryz.ntmps141
  go_wp2_with (first
    | (go_at_call 166; refine HCS.out.mono ?_; rintro e w1 ⟨rfl, m, hm⟩; subst w1; clear HCS)
    | (go_at_call 167; refine (HSH.out m).mono ?_; rintro e w2 ⟨rfl, hrow, hb2⟩; have HR2 := Hid.mk' hrow; have HW2 : Hid (Below w.heap.size w w2) := (⟨hb2.os, hb2.tape, hb2.output, hb2.size, hb2.block⟩ : Below w.heap.size w w2); clear hrow hb2 HSH)
    | (go_at_call 169; refine (HSB.out _ _ ?_ ?_).mono ?_; exact HSHORT.out _ _ HR2.out; exact HTT.out.below HW2.out; rintro e w3 ⟨rfl, hb3⟩; have HR3 := Hid.mk' (HR2.out.of_block (hb3.block _ HR2.out.lt)); have HW3 := Hid.mk' (HW2.out.trans (hb3.mono HW2.out.size)); clear hb3 HSB HR2 HW2)
    | (go_at_call 168; refine (HLY.out _ _ ?_).mono ?_; exact HSHORT.out _ _ HR3.out; rintro e w4 ⟨rfl, hb4⟩; have HW4 := Hid.mk' (HW3.out.trans (hb4.mono HW3.out.size)); clear hb4 HLY))
  go_ret
  exact ⟨rfl, HW4.out⟩
def allFit (d : Nat) (f : Nat → Int) (n : Nat) : Bool := (List.range n).all fun i => fitsB d (f i)
theorem allFit_iff (d : Nat) (f : Nat → Int) (n : Nat) : allFit d f n = true ↔ ∀ i, i < n → fitsB d (f i) = true := by simp [allFit]
set_option maxHeartbeats 1000000 in
theorem areS_any (d : Nat) (a : Option Addr) (n c : Nat) (f : Nat → Int) (w : World) (h1 : 1 ≤ d) (h2 : d ≤ 13) (hn : n ≤ 17592186044416) (hI : IntsAt w a n f) :
    Calls Tryz.prog 102 #[.int .i64 d, .slice a n c] w fun e w' => e = .returned (.bool (allFit d f n)) ∧ w' = w := by
  have HI : Hid (IntsAt w a n f) := hI
  clear hI
  go_enter Tryz.func102, Tryz.ntmps102
  go_wp2
  go_loop [6, 9] (fun _ i => ∃ k : Nat, k ≤ n ∧ i = .int .i64 k ∧ Hid (∀ i, i < k → fitsB d (f i) = true)) (fun _ i => n - (intOf i).toNat)
  case atStart => exact ⟨0, Nat.zero_le _, rfl, fun i hi => absurd hi (by omega)⟩
  case round =>
    obtain ⟨k, hk, rfl, HA⟩ := hrel
    by_cases hlt : k < n
    · obtain ⟨b, off, hx, hc⟩ := HI.out.open (by omega)
      cases hx
      have hc1 := hc k hlt
      clear hc
      cases hf : fitsB d (f k)
      · go_wp2_with (go_at_call 120; refine (isSample_any _ _ _ h1 h2).mono ?_; rintro e w' ⟨rfl, rfl⟩)
        go_ret
        refine ⟨ret_bool ?_, rfl⟩
        cases e : allFit d f n with
        | false => rfl
        | true => rw [(allFit_iff d f n).1 e k hlt] at hf; cases hf
      · go_wp2_with (go_at_call 120; refine (isSample_any _ _ _ h1 h2).mono ?_; rintro e w' ⟨rfl, rfl⟩)
        go_round
        case rel =>
          refine ⟨k + 1, by omega, by go_num, fun i hi => ?_⟩
          by_cases e : i = k
          · subst e; exact hf
          · exact HA.out i (by omega)
        case measure => simp [intOf]; omega
    · have e : k = n := by omega
      subst e
      go_wp2
      go_ret
      exact ⟨ret_bool ((allFit_iff d f k).2 HA.out).symm, rfl⟩
end Go.Proofs.YtlncjgnomhpjnaaGreatDoor

/-
  What a right configuration, a sound and a block are, in the program.
-/
namespace Go.Proofs.YtlncjgnomhpjnaaGreatDoor
open Go.RowKit Go.Deep
set_option linter.unusedVariables false
theorem bcell {W w1 : World} (hb : Below W.heap.size W w1) : (∀ b o, b < W.heap.size → w1.cell? ⟨b, o, none⟩ = W.cell? ⟨b, o, none⟩) ∧ (∀ b o, b < W.heap.size → w1.frozen? ⟨b, o, none⟩ = W.frozen? ⟨b, o, none⟩) :=
  ⟨fun b o h => hb.cell (p := ⟨b, o, none⟩) h, fun b o h => hb.frozen (p := ⟨b, o, none⟩) h⟩
/-- the eight numbers of a right configuration -/
def rightB (c0 c1 c2 c3 c4 c5 c6 c7 : Int) : Bool :=
  within c0 1 4 && (within c1 4 12 && (within c2 1 32 && (within c3 0 65535 && (within c4 0 255 && (within c5 1 8 && (within c6 1 16 && within c7 1 8))))))
/-- what a head may say -/
def infoB (c0 c1 c2 c3 c4 s : Int) : Bool :=
  within c0 1 4 && (within c1 4 12 && (within c2 1 32 && (within c3 0 65535 && (within c4 0 255 && within s 0 300))))
set_option maxHeartbeats 1000000 in
theorem infoOf_any (c0 c1 c2 c3 c4 c5 c6 c7 s : Int) (w : World) :
    Calls Tryz.prog 82 #[.agg #[.int .i64 c0, .int .i64 c1, .int .i64 c2, .int .i64 c3, .int .i64 c4, .int .i64 c5, .int .i64 c6, .int .i64 c7], .int .i64 s] w fun e w' =>
      e = .returned (.agg #[.int .i64 c0, .int .i64 c1, .int .i64 c2, .int .i64 c3, .int .i64 c4, .int .i64 s]) ∧ Below w.heap.size w w' := by
  go_enter Tryz.func82, Tryz.ntmps82
  go_wp2
  exact bodyPost_ret (v := .agg #[.int .i64 c0, .int .i64 c1, .int .i64 c2, .int .i64 c3, .int .i64 c4, .int .i64 s]) (by simp [results, Tryz.results82, go_sem]) rfl ⟨rfl, ((Below.refl _ _).alloc (Nat.le_refl _) _).alloc (by simp) _⟩
set_option maxHeartbeats 1000000 in
theorem rightInfo_any (c0 c1 c2 c3 c4 s : Int) (w : World) :
    Calls Tryz.prog 101 #[.agg #[.int .i64 c0, .int .i64 c1, .int .i64 c2, .int .i64 c3, .int .i64 c4, .int .i64 s]] w fun e w' =>
      e = .returned (.bool (infoB c0 c1 c2 c3 c4 s)) ∧ Below w.heap.size w w' := by
  have fin : ∀ o, Below w.heap.size w (w.alloc o) := fun o => (Below.refl _ _).alloc (Nat.le_refl _) _
  cases h0 : within c0 1 4
  · go_enter Tryz.func101, Tryz.ntmps101
    go_wp2_with (go_at_call 62; refine (within_any _ _ _ _).mono ?_; rintro e w' ⟨rfl, rfl⟩)
    go_ret
    exact ⟨ret_bool (by simp [infoB, h0]), fin _⟩
  cases h1 : within c1 4 12
  · go_enter Tryz.func101, Tryz.ntmps101
    go_wp2_with (go_at_call 62; refine (within_any _ _ _ _).mono ?_; rintro e w' ⟨rfl, rfl⟩)
    go_ret
    exact ⟨ret_bool (by simp [infoB, h0, h1]), fin _⟩
  cases h2 : within c2 1 32
  · go_enter Tryz.func101, Tryz.ntmps101
    go_wp2_with (go_at_call 62; refine (within_any _ _ _ _).mono ?_; rintro e w' ⟨rfl, rfl⟩)
    go_ret
    exact ⟨ret_bool (by simp [infoB, h0, h1, h2]), fin _⟩
  cases h3 : within c3 0 65535
  · go_enter Tryz.func101, Tryz.ntmps101
    go_wp2_with (go_at_call 62; refine (within_any _ _ _ _).mono ?_; rintro e w' ⟨rfl, rfl⟩)
    go_ret
    exact ⟨ret_bool (by simp [infoB, h0, h1, h2, h3]), fin _⟩
  cases h4 : within c4 0 255
  · go_enter Tryz.func101, Tryz.ntmps101
    go_wp2_with (go_at_call 62; refine (within_any _ _ _ _).mono ?_; rintro e w' ⟨rfl, rfl⟩)
    go_ret
    exact ⟨ret_bool (by simp [infoB, h0, h1, h2, h3, h4]), fin _⟩
  go_enter Tryz.func101, Tryz.ntmps101
  go_wp2_with (go_at_call 62; refine (within_any _ _ _ _).mono ?_; rintro e w' ⟨rfl, rfl⟩)
  go_ret
  exact ⟨ret_bool (by simp [infoB, h0, h1, h2, h3, h4]), fin _⟩
theorem rightB_info (c0 c1 c2 c3 c4 c5 c6 c7 : Int) : rightB c0 c1 c2 c3 c4 c5 c6 c7 = (infoB c0 c1 c2 c3 c4 0 && (within c5 1 8 && (within c6 1 16 && within c7 1 8))) := by
  simp only [rightB, infoB, Bool.and_assoc]
  have : within 0 0 300 = true := by decide
  rw [this]; simp
set_option maxHeartbeats 1000000 in
theorem rightConfig_any (c0 c1 c2 c3 c4 c5 c6 c7 : Int) (w : World) :
    Calls Tryz.prog 61 #[.agg #[.int .i64 c0, .int .i64 c1, .int .i64 c2, .int .i64 c3, .int .i64 c4, .int .i64 c5, .int .i64 c6, .int .i64 c7]] w fun e w' =>
      e = .returned (.bool (rightB c0 c1 c2 c3 c4 c5 c6 c7)) ∧ Below w.heap.size w w' := by
  rw [rightB_info]
  have hb : Below w.heap.size w (w.alloc (.cells #[.int .i64 c0, .int .i64 c1, .int .i64 c2, .int .i64 c3, .int .i64 c4, .int .i64 c5, .int .i64 c6, .int .i64 c7] 23)) := (Below.refl _ _).alloc (Nat.le_refl _) _
  have HB := Hid.mk' hb
  clear hb
  have HR := Hid.mk' (fun u => rightInfo_any c0 c1 c2 c3 c4 0 u)
  cases h0 : infoB c0 c1 c2 c3 c4 0
  · rw [h0] at HR
    go_enter Tryz.func61, Tryz.ntmps61
    go_wp2_with (first
      | (go_at_call 82; refine (infoOf_any _ _ _ _ _ _ _ _ _ _).mono ?_; rintro e w1 ⟨rfl, hb1⟩; obtain ⟨hcl1, hfr1⟩ := bcell hb1; have HB1 := Hid.mk' (HB.out.trans (hb1.mono (by simp))); have hs1 : w.heap.size < w1.heap.size := by {have := hb1.size; simp at this; omega}; clear hb1 HB hfr1)
      | (go_at_call 101; refine (HR.out _).mono ?_; rintro e w2 ⟨rfl, hb2⟩; obtain ⟨hcl2, hfr2⟩ := bcell hb2; have HB2 := Hid.mk' (HB1.out.trans (hb2.mono HB1.out.size)); have hs2 : w.heap.size < w2.heap.size := Nat.lt_of_lt_of_le hs1 hb2.size; clear hb2 hfr2)
      | (go_at_call 62; refine (within_any _ _ _ _).mono ?_; rintro e w' ⟨rfl, rfl⟩))
    go_ret
    exact ⟨ret_bool (by simp), HB2.out⟩
  rw [h0] at HR
  cases h1 : within c5 1 8
  · go_enter Tryz.func61, Tryz.ntmps61
    go_wp2_with (first
      | (go_at_call 82; refine (infoOf_any _ _ _ _ _ _ _ _ _ _).mono ?_; rintro e w1 ⟨rfl, hb1⟩; obtain ⟨hcl1, hfr1⟩ := bcell hb1; have HB1 := Hid.mk' (HB.out.trans (hb1.mono (by simp))); have hs1 : w.heap.size < w1.heap.size := by {have := hb1.size; simp at this; omega}; clear hb1 HB hfr1)
      | (go_at_call 101; refine (HR.out _).mono ?_; rintro e w2 ⟨rfl, hb2⟩; obtain ⟨hcl2, hfr2⟩ := bcell hb2; have HB2 := Hid.mk' (HB1.out.trans (hb2.mono HB1.out.size)); have hs2 : w.heap.size < w2.heap.size := Nat.lt_of_lt_of_le hs1 hb2.size; clear hb2 hfr2)
      | (go_at_call 62; refine (within_any _ _ _ _).mono ?_; rintro e w' ⟨rfl, rfl⟩))
    go_ret
    exact ⟨ret_bool (by simp), HB2.out⟩
  cases h2 : within c6 1 16
  · go_enter Tryz.func61, Tryz.ntmps61
    go_wp2_with (first
      | (go_at_call 82; refine (infoOf_any _ _ _ _ _ _ _ _ _ _).mono ?_; rintro e w1 ⟨rfl, hb1⟩; obtain ⟨hcl1, hfr1⟩ := bcell hb1; have HB1 := Hid.mk' (HB.out.trans (hb1.mono (by simp))); have hs1 : w.heap.size < w1.heap.size := by {have := hb1.size; simp at this; omega}; clear hb1 HB hfr1)
      | (go_at_call 101; refine (HR.out _).mono ?_; rintro e w2 ⟨rfl, hb2⟩; obtain ⟨hcl2, hfr2⟩ := bcell hb2; have HB2 := Hid.mk' (HB1.out.trans (hb2.mono HB1.out.size)); have hs2 : w.heap.size < w2.heap.size := Nat.lt_of_lt_of_le hs1 hb2.size; clear hb2 hfr2)
      | (go_at_call 62; refine (within_any _ _ _ _).mono ?_; rintro e w' ⟨rfl, rfl⟩))
    go_ret
    exact ⟨ret_bool (by simp), HB2.out⟩
  go_enter Tryz.func61, Tryz.ntmps61
  go_wp2_with (first
    | (go_at_call 82; refine (infoOf_any _ _ _ _ _ _ _ _ _ _).mono ?_; rintro e w1 ⟨rfl, hb1⟩; obtain ⟨hcl1, hfr1⟩ := bcell hb1; have HB1 := Hid.mk' (HB.out.trans (hb1.mono (by simp))); have hs1 : w.heap.size < w1.heap.size := by {have := hb1.size; simp at this; omega}; clear hb1 HB hfr1)
    | (go_at_call 101; refine (HR.out _).mono ?_; rintro e w2 ⟨rfl, hb2⟩; obtain ⟨hcl2, hfr2⟩ := bcell hb2; have HB2 := Hid.mk' (HB1.out.trans (hb2.mono HB1.out.size)); have hs2 : w.heap.size < w2.heap.size := Nat.lt_of_lt_of_le hs1 hb2.size; clear hb2 hfr2)
    | (go_at_call 62; refine (within_any _ _ _ _).mono ?_; rintro e w' ⟨rfl, rfl⟩))
  go_ret
  exact ⟨ret_bool (by simp), HB2.out⟩
/-- what a slice of slices of numbers holds -/
def ListsAt (w : World) (a : Option Addr) (n : Nat) (A : Nat → Option Addr) (L C : Nat → Nat) : Prop := ∀ i, i < n → ∃ x, a = some x ∧ w.cell? (x.add i) = some (.slice (A i) (L i) (C i))
theorem ListsAt.open {w : World} {a : Option Addr} {n : Nat} {A : Nat → Option Addr} {L C : Nat → Nat} (h : ListsAt w a n A L C) (hn : 0 < n) :
    ∃ b off, a = some ⟨b, off, none⟩ ∧ ∀ i, i < n → w.cell? ⟨b, off + i, none⟩ = some (.slice (A i) (L i) (C i)) := by
  obtain ⟨⟨b, off, sp⟩, rfl, hc⟩ := h 0 hn
  have hs : sp = none := by simpa [Addr.add] using World.cell?_spot hc
  subst hs
  refine ⟨b, off, rfl, fun i hi => ?_⟩
  obtain ⟨x, hx, hc⟩ := h i hi
  cases hx
  rw [← hc]
  cases i <;> simp [Addr.add]
/-- lists that lie below a block -/
def Low (B : Nat) (a : Option Addr) (n : Nat) (A : Nat → Option Addr) (L : Nat → Nat) : Prop := (∀ x, a = some x → 0 < n → x.block < B) ∧ ∀ i, i < n → ∀ x, A i = some x → 0 < L i → x.block < B
theorem IntsAt.below {w w' : World} {B : Nat} {a : Option Addr} {n : Nat} {f : Nat → Int} (h : IntsAt w a n f) (hb : Below B w w') (hl : ∀ x, a = some x → 0 < n → x.block < B) : IntsAt w' a n f := fun i hi => by
  obtain ⟨x, hx, hc⟩ := h i hi
  refine ⟨x, hx, ?_⟩
  rw [hb.cell (by have := hl x hx (by omega); cases i <;> simpa [Addr.add] using this), hc]
theorem ListsAt.below {w w' : World} {B : Nat} {a : Option Addr} {n : Nat} {A : Nat → Option Addr} {L C : Nat → Nat} (h : ListsAt w a n A L C) (hb : Below B w w') (hl : ∀ x, a = some x → 0 < n → x.block < B) : ListsAt w' a n A L C := fun i hi => by
  obtain ⟨x, hx, hc⟩ := h i hi
  refine ⟨x, hx, ?_⟩
  rw [hb.cell (by have := hl x hx (by omega); cases i <;> simpa [Addr.add] using this), hc]
theorem areSamples_any (d : Nat) (a : Option Addr) (n c : Nat) (f : Nat → Int) (w : World) (h1 : 1 ≤ d) (h2 : d ≤ 13) (hn : n ≤ 17592186044416) (hI : IntsAt w a n f) :
    Calls Tryz.prog 102 #[.int .i64 d, .slice a n c] w fun e w' => Says e (∀ i, i < n → fitsB d (f i) = true) ∧ w' = w :=
  (areS_any d a n c f w h1 h2 hn hI).mono fun e w' h => ⟨⟨_, h.1, allFit_iff d f n⟩, h.2⟩
/-- the lists are channels, all of one length from lo to hi -/
def ChanP (c0 : Int) (d n : Nat) (lo hi : Int) (L : Nat → Nat) (F : Nat → Nat → Int) : Prop :=
  (n : Int) = c0 ∧ within (L 0 : Int) lo hi = true ∧ ∀ i, i < n → L i = L 0 ∧ ∀ j, j < L i → fitsB d (F i j) = true
set_option maxHeartbeats 1000000 in
theorem areChannels_any (lo hi : Int) (c0 c2 c3 c4 c5 c6 c7 : Int) (d : Nat) (a : Option Addr) (n cap : Nat) (A : Nat → Option Addr) (L C : Nat → Nat) (F : Nat → Nat → Int) (w : World) (hc0 : 1 ≤ c0) (h1 : 1 ≤ d) (h2 : d ≤ 13) (hn : n ≤ 17592186044416) (hL : ∀ i, i < n → L i ≤ 17592186044416)
    (hA : ListsAt w a n A L C) (hI : ∀ i, i < n → IntsAt w (A i) (L i) (F i)) (hlow : Low w.heap.size a n A L) :
    Calls Tryz.prog 63 #[.agg #[.int .i64 c0, .int .i64 d, .int .i64 c2, .int .i64 c3, .int .i64 c4, .int .i64 c5, .int .i64 c6, .int .i64 c7], .slice a n cap, .int .i64 lo, .int .i64 hi] w fun e w' =>
      Says e (ChanP c0 d n lo hi L F) ∧ Below w.heap.size w w' := by
  obtain ⟨o, ho⟩ : ∃ o, o = Obj.cells #[.int .i64 c0, .int .i64 d, .int .i64 c2, .int .i64 c3, .int .i64 c4, .int .i64 c5, .int .i64 c6, .int .i64 c7] 23 := ⟨_, rfl⟩
  have hb : Below w.heap.size w (w.alloc o) := (Below.refl _ _).alloc (Nat.le_refl _) _
  rw [ho] at hb
  by_cases hnc : (n : Int) = c0
  · subst hnc
    have hA1 := hA.below hb hlow.1
    have hI1 : ∀ i, i < n → IntsAt _ (A i) (L i) (F i) := fun i hi => (hI i hi).below hb (hlow.2 i hi)
    obtain ⟨b, off, rfl, hc⟩ := hA1.open (by omega)
    clear hA hI hA1 ho hlow
    have HI : Hid (∀ i, i < n → IntsAt _ (A i) (L i) (F i)) := hI1
    have HL : Hid (∀ i, i < n → L i ≤ 17592186044416) := hL
    have hL0 := hL 0 (by omega)
    have HC := hc
    have hc00 : _ = some (Value.slice (A 0) (L 0) (C 0)) := hc 0 (by omega)
    simp only [Nat.add_zero] at hc00
    clear hI1 hL hc
    cases h300 : within (L 0 : Int) lo hi
    rotate_left
    · go_enter Tryz.func63, Tryz.ntmps63
      go_wp2_with (go_at_call 62; refine (within_any _ _ _ _).mono ?_; rintro e w' ⟨rfl, rfl⟩)
      go_loop [11, 28] (fun _ i => ∃ k : Nat, k ≤ n ∧ i = .int .i64 k ∧ Hid (∀ i, i < k → L i = L 0 ∧ ∀ j, j < L i → fitsB d (F i j) = true)) (fun _ i => n - (intOf i).toNat)
      case atStart => exact ⟨0, Nat.zero_le _, rfl, fun i hi => absurd hi (by omega)⟩
      case round =>
        obtain ⟨k, hk, rfl, HK⟩ := hrel
        by_cases hlt : k < n
        · have hck := HC k hlt
          have hLk := HL.out k hlt
          have hIk := HI.out k hlt
          clear HC
          by_cases hLe : L k = L 0
          · have HE : Hid (L k = L 0) := hLe
            have ht : ((L k : Int) != (L 0 : Int)) = false := by simp [hLe]
            clear hLe
            by_cases hall : ∀ j, j < L k → fitsB d (F k j) = true
            · have HALL : Hid (∀ j, j < L k → fitsB d (F k j) = true) := hall
              clear hall
              go_wp2_with (go_at_call 102; refine (areSamples_any _ _ _ _ _ _ h1 h2 hLk hIk).mono ?_; rintro e w' ⟨he, rfl⟩; have he := he.true_of HALL.out; subst he)
              go_round
              case rel =>
                refine ⟨k + 1, by omega, by go_num, fun i hi => ?_⟩
                by_cases e : i = k
                · subst e; exact ⟨HE.out, HALL.out⟩
                · exact HK.out i (by omega)
              case measure => simp [intOf]; omega
            · have HALL : Hid (¬ ∀ j, j < L k → fitsB d (F k j) = true) := hall
              clear hall
              go_wp2_with (go_at_call 102; refine (areSamples_any _ _ _ _ _ _ h1 h2 hLk hIk).mono ?_; rintro e w' ⟨he, rfl⟩; have he := he.false_of HALL.out; subst he)
              go_ret
              exact ⟨Says.no (fun h => HALL.out (h.2.2 k hlt).2), hb⟩
          · have HE : Hid (¬ L k = L 0) := hLe
            have ht : ((L k : Int) != (L 0 : Int)) = true := by simp; omega
            clear hLe
            go_wp2
            go_ret
            exact ⟨Says.no (fun h => HE.out (h.2.2 k hlt).1), hb⟩
        · have e : k = n := by omega
          subst e
          go_wp2
          go_ret
          exact ⟨Says.yes ⟨rfl, h300, HK.out⟩, hb⟩
    · go_enter Tryz.func63, Tryz.ntmps63
      go_wp2_with (go_at_call 62; refine (within_any _ _ _ _).mono ?_; rintro e w' ⟨rfl, rfl⟩)
      go_ret
      exact ⟨Says.no (fun h => by rw [h.2.1] at h300; cases h300), hb⟩
  · have hne : ((n : Int) != c0) = true := by simpa using hnc
    go_enter Tryz.func63, Tryz.ntmps63
    go_wp2
    go_ret
    exact ⟨Says.no (fun h => hnc h.1), hb⟩
set_option maxHeartbeats 1000000 in
theorem isSound_any (c0 c2 c3 c4 c5 c6 c7 : Int) (d : Nat) (a : Option Addr) (n cap : Nat) (A : Nat → Option Addr) (L C : Nat → Nat) (F : Nat → Nat → Int) (w : World) (hc0 : 1 ≤ c0) (h1 : 1 ≤ d) (h2 : d ≤ 13) (hn : n ≤ 17592186044416) (hL : ∀ i, i < n → L i ≤ 17592186044416)
    (hA : ListsAt w a n A L C) (hI : ∀ i, i < n → IntsAt w (A i) (L i) (F i)) (hlow : Low w.heap.size a n A L) :
    Calls Tryz.prog 81 #[.agg #[.int .i64 c0, .int .i64 d, .int .i64 c2, .int .i64 c3, .int .i64 c4, .int .i64 c5, .int .i64 c6, .int .i64 c7], .slice a n cap] w fun e w' =>
      Says e (ChanP c0 d n 0 300 L F) ∧ Below w.heap.size w w' := by
  have hb : Below w.heap.size w (w.alloc (.cells #[.int .i64 c0, .int .i64 d, .int .i64 c2, .int .i64 c3, .int .i64 c4, .int .i64 c5, .int .i64 c6, .int .i64 c7] 23)) := (Below.refl _ _).alloc (Nat.le_refl _) _
  have HCC := Hid.mk' (areChannels_any 0 300 c0 c2 c3 c4 c5 c6 c7 d a n cap A L C F (w.alloc (.cells #[.int .i64 c0, .int .i64 d, .int .i64 c2, .int .i64 c3, .int .i64 c4, .int .i64 c5, .int .i64 c6, .int .i64 c7] 23)) hc0 h1 h2 hn hL (hA.below hb hlow.1) (fun i hi => (hI i hi).below hb (hlow.2 i hi)) ⟨fun x hx h0 => Nat.lt_of_lt_of_le (hlow.1 x hx h0) (by simp), fun i hi x hx h0 => Nat.lt_of_lt_of_le (hlow.2 i hi x hx h0) (by simp)⟩)
  have HB := Hid.mk' hb
  clear hA hI hlow hb hL
  go_enter Tryz.func81, Tryz.ntmps81
  go_wp2_with (go_at_call 63; refine HCC.out.mono ?_; rintro e w1 ⟨⟨r, rfl, hr⟩, hb1⟩; have HB1 := Hid.mk' (HB.out.trans (hb1.mono (by simp))); have HR := Hid.mk' hr; clear hb1 hr HCC)
  go_ret
  exact ⟨⟨r, rfl, HR.out⟩, HB1.out⟩
theorem rightB_d {c0 c1 c2 c3 c4 c5 c6 c7 : Int} (h : rightB c0 c1 c2 c3 c4 c5 c6 c7 = true) : 1 ≤ c0 ∧ c0 ≤ 4 ∧ (1 ≤ c2 ∧ c2 ≤ 32) ∧ ∃ d : Nat, c1 = (d : Int) ∧ 4 ≤ d ∧ d ≤ 12 := by
  simp only [rightB, Bool.and_eq_true, within_iff] at h
  exact ⟨h.1.1, h.1.2, h.2.2.1, c1.toNat, by omega, by omega, by omega⟩
end Go.Proofs.YtlncjgnomhpjnaaGreatDoor

/-
  The lists of lists that are lent: 'lendAll', 'wholeAll'.
-/
namespace Go.Proofs.YtlncjgnomhpjnaaGreatDoor
open Go.RowKit Go.Deep
theorem infoInts : (Tryz.prog.info? 29).map (fun i => (i.zero, i.size, i.bytes)) = some (some (.slice none 0 0), 1, 24) := by kernel_rfl
/-- all blocks but two, and what is new, are as they were -/
structure Kept2 (b m : Nat) (w w' : World) : Prop where
  os : w'.os = w.os
  tape : w'.tape = w.tape
  output : w'.output = w.output
  size : w.heap.size ≤ w'.heap.size
  block : ∀ k, k < w.heap.size → k ≠ b → k ≠ m → w'.heap[k]? = w.heap[k]?
theorem Kept2.refl (b m : Nat) (w : World) : Kept2 b m w w := ⟨rfl, rfl, rfl, Nat.le_refl _, fun _ _ _ _ => rfl⟩
theorem Kept2.set1 {b m : Nat} {w w' : World} (h : Kept2 b m w w') (i : Nat) (v : Value) : Kept2 b m w (w'.setCell ⟨b, i, none⟩ v) :=
  ⟨h.os, h.tape, h.output, by rw [World.size_setCell]; exact h.size, fun k hk h1 h2 => (blk_setCell_other _ _ _ _ (by simpa using h1)).trans (h.block k hk h1 h2)⟩
theorem Kept2.set2 {b m : Nat} {w w' : World} (h : Kept2 b m w w') (i : Nat) (v : Value) : Kept2 b m w (w'.setCell ⟨m, i, none⟩ v) :=
  ⟨h.os, h.tape, h.output, by rw [World.size_setCell]; exact h.size, fun k hk h1 h2 => (blk_setCell_other _ _ _ _ (by simpa using h2)).trans (h.block k hk h1 h2)⟩
end Go.Proofs.YtlncjgnomhpjnaaGreatDoor

