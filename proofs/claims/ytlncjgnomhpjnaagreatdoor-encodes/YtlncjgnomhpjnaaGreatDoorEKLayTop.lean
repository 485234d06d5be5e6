import Derived.Test.YtlncjgnomhpjnaaGreatDoorEKLayProg
/-
  The program's packer: a subframe.
-/
namespace Go.Proofs.YtlncjgnomhpjnaaGreatDoor
open Go.RowKit Go.Deep
set_option linter.unusedVariables false

theorem wr_new (w : World) : Wr (w.alloc (.cells #[.pointer none, .slice none 0 0] 152)) w.heap.size w.heap.size [] := by
  refine .inl (Lib.BuilderAtF.of ⟨Nat.le_refl _, .slice none 0 0, blk_alloc_new _ _, ⟨rfl, .inl ⟨rfl, rfl⟩⟩, by simp [Value.ownBlock]⟩)
theorem Wr.text_ne {T : List UInt8} (h : 4 ≤ T.length) : T ≠ [] := by
  intro e; rw [e] at h; simp at h

set_option maxRecDepth 100000 in
set_option maxHeartbeats 4000000 in
theorem lay_any (kind shift : Nat) (A : Option Addr) (n c width : Nat) (x : Nat → Int) (w : World) (h7 : kind ≤ 7) (hs : shift ≤ 12) (hn1 : 1 ≤ n) (hn : n ≤ 32) (hnc : n ≤ c) (hw : width ≤ 13) (hok : 2 ≤ kind → okG kind x n = true) (hS : Shorts w A n x) :
    Calls Tryz.prog 168 #[.int .i64 width, .int .i64 shift, .slice A n c, .agg (bodyA kind width x n)] w fun e w' => e = .returned (.string ⟨(binT kind 4 ++ binT shift 4 ++ bodyT kind width x n).toArray⟩) ∧ Below w.heap.size w w' := by
  obtain ⟨B, hB⟩ : ∃ B, B = w.heap.size + 1 := ⟨_, rfl⟩
  obtain ⟨w0, hw0⟩ : ∃ w0, w0 = (w.alloc (.cells (bodyA kind width x n) 206)).alloc (.cells #[.pointer none, .slice none 0 0] 152) := ⟨_, rfl⟩
  have hb0 : Below w.heap.size w w0 := by rw [hw0]; exact ((Below.refl _ _).alloc (Nat.le_refl _) _).alloc (by simp) _
  have HT0 : Hid (Bx w0 w.heap.size 206 (bodyA kind width x n)) := by rw [hw0]; exact (Bx.new _ _ _).alloc _
  have HA0 : Hid (Wr w0 B B []) := by
    have := wr_new (w.alloc (.cells (bodyA kind width x n) 206))
    rw [World.size_alloc] at this
    rw [hw0, hB]; exact this
  have hBw0 : B ≤ w0.heap.size := by rw [hw0, hB]; simp
  have hTBb : w.heap.size ≠ B := by omega
  have HW00 := Hid.mk' hb0
  have HII : Hid (∀ u, Below B w0 u → IntsAt u A n x) := fun u hu => (hS.ints.belowB hb0 hS.low).belowB hu (fun y hy h0 => by have := hS.low y hy h0; omega)
  have HLOW : Hid (∀ y, A = some y → 0 < n → y.block < B) := fun y hy h0 => by have := hS.low y hy h0; omega
  have HXX := Hid.mk' hS.bd
  have HFIN : Hid (∀ u, Below B w0 u → Below w.heap.size w u) := fun u hu => hb0.trans (hu.mono (by omega))
  have HN1 := Hid.mk' (wNumber_any B B [] (kind : Int) 4 w0 HA0.out (by omega) (by simp) hBw0)
  rw [List.nil_append] at HN1
  have HN2 := Hid.mk' (fun (u : World) (hu : Wr u B B (binT kind 4)) (hs' : B ≤ u.heap.size) => wNumber_any B B (binT kind 4) (shift : Int) 4 u hu (by omega) (by rw [binT_length]; omega) hs')
  have HTX := Hid.mk' (fun (T : List UInt8) (u : World) (hu : Wr u B B (binT kind 4 ++ binT shift 4 ++ T)) => wText_any B B (binT kind 4 ++ binT shift 4 ++ T) u hu (Wr.text_ne (by rw [List.length_append, List.length_append, binT_length]; omega)))
  obtain ⟨T2, hT2⟩ : ∃ T2, T2 = binT kind 4 ++ binT shift 4 := ⟨_, rfl⟩
  have hT2l : T2.length = 8 := by rw [hT2, List.length_append, binT_length, binT_length]
  rw [← hT2] at HN2 HTX ⊢
  have q0 := HT0.out.cell 0
  rw [bodyA_kind] at q0
  clear hT2 hb0 hS
  subst hw0
  by_cases hk0 : kind = 0
  · have HBT : Hid (bodyT kind width x n = binT (x 0) width) := by show _ = _; unfold bodyT; rw [if_pos hk0]
    have k0 : ((kind : Int) == 0) = true := by simp [hk0]
    have HNB := Hid.mk' (fun (u : World) (hu : Wr u B B T2) (hs' : B ≤ u.heap.size) => wNumber_any B B T2 (x 0) width u hu (by omega) (by omega) hs')
    rw [← HBT.out] at HNB
    clear hk0 hok
    subst hB
    go_enter Tryz.func168, Tryz.ntmps168
    go_wp2_with (first
      | (go_at_call 122; refine HN1.out.mono ?_; rintro e w1 ⟨rfl, h1, h2⟩; have HM1 := Hid.mk' (And.intro h1 h2); clear h1 h2 HN1 q0; have HTQ := Hid.mk' (HT0.out.keptW HM1.out.2 hTBb (by decide)); have q0 := HTQ.out.cell 0; rw [bodyA_kind] at q0; clear HTQ)
      | (go_at_call 122; refine (HN2.out _ ?_ ?_).mono ?_; exact HM1.out.1; exact Nat.le_trans hBw0 HM1.out.2.1.size; rintro e w2 ⟨rfl, h1, h2⟩; have HM2 := Hid.mk' (And.intro h1 (HM1.out.2.trans h2)); clear h1 h2 HN2 HM1 q0; have HTQ := Hid.mk' (HT0.out.keptW HM2.out.2 hTBb (by decide)); have q0 := HTQ.out.cell 0; rw [bodyA_kind] at q0; clear HTQ; obtain ⟨bb, off, hx, hc⟩ := (HII.out w2 HM2.out.2.1).open (by omega); have hcz := hc 0 (by omega); rw [Nat.add_zero] at hcz; clear hc; subst hx)
      | (go_at_call 122; refine (HNB.out _ ?_ ?_).mono ?_; exact HM2.out.1; exact Nat.le_trans hBw0 HM2.out.2.1.size; rintro e w3 ⟨rfl, h1, h2⟩; have HM3 := Hid.mk' (And.intro h1 (HM2.out.2.1.trans h2.1)); clear h1 h2 HNB)
      | (go_at_call 123; refine (HTX.out (bodyT kind width x n) _ ?_).mono ?_; exact HM3.out.1; rintro e w4 ⟨rfl, h1⟩; have HZ := Hid.mk' h1; clear h1 HTX))
    go_ret
    exact ⟨rfl, HFIN.out _ (HM3.out.2.trans HZ.out)⟩
  · have k0 : ((kind : Int) == 0) = false := by simp [hk0]
    by_cases hk1 : kind = 1
    · have HBT : Hid (bodyT kind width x n = numsT x width n) := by show _ = _; unfold bodyT; rw [if_neg hk0, if_pos hk1]
      have k1 : ((kind : Int) == 1) = true := by simp [hk1]
      have HNB := Hid.mk' (fun (u : World) (hu : Wr u B B T2) (hs' : B ≤ u.heap.size) (hI : ∀ u', KeptW B B u u' → IntsAt u' A n x) => wNumbers_any B B T2 x A n c width u hu hn (by omega) (by omega) hs' hI)
      rw [← HBT.out] at HNB
      clear hk0 hk1 hok
      subst hB
      go_enter Tryz.func168, Tryz.ntmps168
      go_wp2_with (first
        | (go_at_call 122; refine HN1.out.mono ?_; rintro e w1 ⟨rfl, h1, h2⟩; have HM1 := Hid.mk' (And.intro h1 h2); clear h1 h2 HN1 q0; have HTQ := Hid.mk' (HT0.out.keptW HM1.out.2 hTBb (by decide)); have q0 := HTQ.out.cell 0; rw [bodyA_kind] at q0; clear HTQ)
        | (go_at_call 122; refine (HN2.out _ ?_ ?_).mono ?_; exact HM1.out.1; exact Nat.le_trans hBw0 HM1.out.2.1.size; rintro e w2 ⟨rfl, h1, h2⟩; have HM2 := Hid.mk' (And.intro h1 (HM1.out.2.trans h2)); clear h1 h2 HN2 HM1 q0; have HTQ := Hid.mk' (HT0.out.keptW HM2.out.2 hTBb (by decide)); have q0 := HTQ.out.cell 0; rw [bodyA_kind] at q0; clear HTQ; skip)
        | (go_at_call 190; refine (HNB.out _ ?_ ?_ ?_).mono ?_; exact HM2.out.1; exact Nat.le_trans hBw0 HM2.out.2.1.size; exact (fun u' hu' => HII.out u' (HM2.out.2.1.trans hu'.1)); rintro e w3 ⟨rfl, h1, h2⟩; have HM3 := Hid.mk' (And.intro h1 (HM2.out.2.1.trans h2.1)); clear h1 h2 HNB)
        | (go_at_call 123; refine (HTX.out (bodyT kind width x n) _ ?_).mono ?_; exact HM3.out.1; rintro e w4 ⟨rfl, h1⟩; have HZ := Hid.mk' h1; clear h1 HTX))
      go_ret
      exact ⟨rfl, HFIN.out _ (HM3.out.2.trans HZ.out)⟩
    · have h2 : 2 ≤ kind := by omega
      have HBT : Hid (bodyT kind width x n = gT kind width x n) := by show _ = _; unfold bodyT; rw [if_neg hk0, if_neg hk1]
      have k1 : ((kind : Int) == 1) = false := by simp; omega
      have HNB := Hid.mk' (fun (u : World) (hu : Wr u B B T2) (hk' : Below B ((w.alloc (.cells (bodyA kind width x n) 206)).alloc (.cells #[.pointer none, .slice none 0 0] 152)) u) => layGuessed_any B B T2 kind A n c width x u hu (Nat.le_trans hBw0 hk'.size) h2 h7 hn hnc hw (hok h2) (by omega) (fun u' hu' => HII.out u' (hk'.trans hu')) HLOW.out HXX.out)
      rw [← HBT.out] at HNB
      clear hk0 hk1 hok
      subst hB
      go_enter Tryz.func168, Tryz.ntmps168
      go_wp2_with (first
        | (go_at_call 122; refine HN1.out.mono ?_; rintro e w1 ⟨rfl, h1, h2⟩; have HM1 := Hid.mk' (And.intro h1 h2); clear h1 h2 HN1 q0; have HTQ := Hid.mk' (HT0.out.keptW HM1.out.2 hTBb (by decide)); have q0 := HTQ.out.cell 0; rw [bodyA_kind] at q0; clear HTQ)
        | (go_at_call 122; refine (HN2.out _ ?_ ?_).mono ?_; exact HM1.out.1; exact Nat.le_trans hBw0 HM1.out.2.1.size; rintro e w2 ⟨rfl, h1, h2⟩; have HM2 := Hid.mk' (And.intro h1 (HM1.out.2.trans h2)); clear h1 h2 HN2 HM1 q0; have HTQ := Hid.mk' (HT0.out.keptW HM2.out.2 hTBb (by decide)); have q0 := HTQ.out.cell 0; rw [bodyA_kind] at q0; clear HTQ; skip)
        | (refine wpList_loadRow rfl _ 206 rfl w.heap.size 206 (bodyA kind width x n) (0, 0) _ rfl (HT0.out.keptW HM2.out.2 hTBb (by decide)) Tryz.underlying206 rfl infoBody ?_)
        | (go_at_call 191; refine (HNB.out _ ?_ ?_).mono ?_; exact HM2.out.1; exact HM2.out.2.1; rintro e w3 ⟨rfl, h1, h2⟩; have HM3 := Hid.mk' (And.intro h1 (HM2.out.2.1.trans h2)); clear h1 h2 HNB)
        | (go_at_call 123; refine (HTX.out (bodyT kind width x n) _ ?_).mono ?_; exact HM3.out.1; rintro e w4 ⟨rfl, h1⟩; have HZ := Hid.mk' h1; clear h1 HTX))
      go_ret
      exact ⟨rfl, HFIN.out _ (HM3.out.2.trans HZ.out)⟩
end Go.Proofs.YtlncjgnomhpjnaaGreatDoor

