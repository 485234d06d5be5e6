import Derived.Test.YtlncjgnomhpjnabGreatDoorQU51
import Derived.Deep.RegionHeld3
import Derived.Deep.DeepCutAuto
import Derived.Laws.IdiomStrings
/-
  'reelkeep' looks where the frames of a stream stand: blocks, headSize, places.
-/
namespace Go.Proofs.YtlncjgnomhpjnabGreatDoor
open Go.RowKit Go.Deep
set_option linter.unusedVariables false
theorem AccI.ext {base : Nat} {u : World} {lv : Value} {nn n : Nat} {gs : Nat → Nat} {G G' : Nat → Nat → Int} (h : AccI base u lv nn n gs G) (he : ∀ i, i < n → ∀ j, j < nn → G i j = G' i j) : AccI base u lv nn n gs G' :=
  ⟨h.own, fun k hk => (h.rows k hk).congr fun j hj => by
    unfold cutV cutI
    rw [if_pos hj, if_pos hj, he k hk j hj], h.far, h.apart⟩
theorem bodyL_pos2 (kind w : Nat) (x : Nat → Int) (n : Nat) (hw : 1 ≤ w) (hn : 1 ≤ n) : 1 ≤ bodyL kind w x n := by
  unfold bodyL
  split
  · exact hw
  · split
    · exact Nat.mul_le_mul hn hw
    · unfold gL cutL
      omega
theorem subT_nine (width : Nat) (l : Nat → Int) (n : Nat) (hw : 1 ≤ width) (hn : 1 ≤ n) : 9 ≤ (subT width l n).length := by
  rw [subT_length]
  have h1 : shiftN l n width ≤ width - 1 := shiftT_le _ _ _
  have := bodyL_pos2 (subKind width l n) (width - shiftN l n width) (shortX l n width) n (by omega) hn
  omega
theorem catS_nine (d n m N : Nat) (l : Nat → Nat → Int) (hd1 : 1 ≤ d) (hd : d ≤ 12) (hN : 1 ≤ N) : ∀ i, 9 * i ≤ (catS d n m N l i).length
  | 0 => Nat.le_refl _
  | i + 1 => by
    have ih := catS_nine d n m N l hd1 hd hN i
    have hw := widN_bd (n := n) (m := m) (i := i) hd1 hd
    have h1 := subT_nine (widN d n m i) (l i) N hw.1 hN
    show _ ≤ (catS d n m N l i ++ subT (widN d n m i) (l i) N).length
    rw [List.length_append]
    omega
theorem frT_twelve {d n B c3 c4 S : Nat} {F : Nat → Nat → Int} (h : KP d n B c3 c4 S F) {k : Nat} (hk : k < nBlk S B) : 12 ≤ (frT d n F S B k).length := by
  have hb := blkN_bd h.B1 hk
  unfold frT
  rw [frameT_length, packT_length, blockT_cat]
  have h1 := h.n1
  have h2 := catS_nine d n (modeN d n (blkF F B k) (blkN S B k)) (blkN S B k) (toldL n (modeN d n (blkF F B k) (blkN S B k)) (blkF F B k)) (by have := h.d4; omega) h.d12 hb.1 n
  omega
set_option maxRecDepth 4000 in
set_option maxHeartbeats 2000000 in
theorem blocks_keep (ch d c3 c4 c5 c6 c7 : Int) (B : Nat) (lv : Value) (n S : Nat) (G : Nat → Nat → Int) (w : World) (hB : 1 ≤ B) (hB2 : B ≤ 32) (hS : S ≤ 300) (hn : 1 ≤ n) (h : ViewL w lv n S G) :
    Calls Tryz.prog 20 #[.agg #[.int .i64 ch, .int .i64 d, .int .i64 B, .int .i64 c3, .int .i64 c4, .int .i64 c5, .int .i64 c6, .int .i64 c7], lv] w fun e w' => e = .returned (.int .i64 (nBlk S B : Nat)) ∧ Below w.heap.size w w' := by
  have hb : Below w.heap.size w (w.alloc (.cells #[.int .i64 ch, .int .i64 d, .int .i64 B, .int .i64 c3, .int .i64 c4, .int .i64 c5, .int .i64 c6, .int .i64 c7] 23)) := (Below.refl _ _).alloc (Nat.le_refl _) _
  obtain ⟨g, c, A, C, rfl, hl, hA, -, -⟩ := h.below (hb.mono (Nat.le_refl _))
  have h0 := hA 0 (by omega)
  have hle := nBlk_le (S := S) hB
  have w1 : IntKind.i64.wrap ((S : Int) + (B : Int)) = (S : Int) + (B : Int) := by rw [IntKind.wrap_i64]; omega
  have w2 : IntKind.i64.wrap ((S : Int) + (B : Int) - 1) = (S : Int) + (B : Int) - 1 := by rw [IntKind.wrap_i64]; omega
  have d0 : ((S : Int) + (B : Int) - 1) / (B : Int) = ((nBlk S B : Nat) : Int) := by
    rw [show (S : Int) + (B : Int) - 1 = ((S + B - 1 : Nat) : Int) by omega]; rfl
  have d1 : ((S : Int) + (B : Int) - 1).tdiv (B : Int) = ((nBlk S B : Nat) : Int) := by
    rw [Int.tdiv_eq_ediv_of_nonneg (by omega)]; exact d0
  have w3 : IntKind.i64.wrap ((nBlk S B : Nat) : Int) = ((nBlk S B : Nat) : Int) := by rw [IntKind.wrap_i64]; omega
  have hz : ((B : Int) == 0) = false := by simp; omega
  have hz2 : ¬ (B : Int) = 0 := by omega
  have hn0 : 0 < n := hn
  have HB := Hid.mk' hb
  have hx : Bx (w.alloc (.cells #[.int .i64 ch, .int .i64 d, .int .i64 B, .int .i64 c3, .int .i64 c4, .int .i64 c5, .int .i64 c6, .int .i64 c7] 23)) w.heap.size 23 #[.int .i64 ch, .int .i64 d, .int .i64 B, .int .i64 c3, .int .i64 c4, .int .i64 c5, .int .i64 c6, .int .i64 c7] := Bx.new _ _ _
  have hS0 : (w.alloc (.cells #[.int .i64 ch, .int .i64 d, .int .i64 B, .int .i64 c3, .int .i64 c4, .int .i64 c5, .int .i64 c6, .int .i64 c7] 23)).drew.cell? ⟨w.heap.size, 2, none⟩ = some (.int .i64 B) ∧ (w.alloc (.cells #[.int .i64 ch, .int .i64 d, .int .i64 B, .int .i64 c3, .int .i64 c4, .int .i64 c5, .int .i64 c6, .int .i64 c7] 23)).drew.cell? ⟨g, 0, none⟩ = some (.slice (A 0) S (C 0)) := ⟨hx.cell 2, h0⟩
  clear hA hb h hx
  generalize A 0 = A0 at *
  generalize C 0 = C0 at *
  generalize nBlk S B = N at *
  go_enter Tryz.func20, Tryz.ntmps20
  go_wp2_with fail
  go_region
  all_goals go_wp2_with fail
  go_ret
  exact ⟨rfl, HB.out.drew⟩
set_option maxRecDepth 4000 in
set_option maxHeartbeats 2000000 in
theorem headSize_keep (ch d B c3 c5 c6 c7 : Int) (c4 N : Nat) (w : World) (hc : c4 < 256) (hN : N ≤ 300) :
    Calls Tryz.prog 35 #[.agg #[.int .i64 ch, .int .i64 d, .int .i64 B, .int .i64 c3, .int .i64 c4, .int .i64 c5, .int .i64 c6, .int .i64 c7], .int .i64 N] w fun e w' => e = .returned (.int .i64 ((22 + 2 * (if c4 = 0 then 0 else nBlk N c4) : Nat) : Int)) ∧ Below w.heap.size w w' := by
  have hb : Below w.heap.size w (w.alloc (.cells #[.int .i64 ch, .int .i64 d, .int .i64 B, .int .i64 c3, .int .i64 c4, .int .i64 c5, .int .i64 c6, .int .i64 c7] 23)) := (Below.refl _ _).alloc (Nat.le_refl _) _
  have HB := Hid.mk' hb
  clear hb
  by_cases h0 : c4 = 0
  · subst h0
    rw [if_pos rfl]
    go_enter Tryz.func35, Tryz.ntmps35
    go_wp2_with fail
    go_ret
    exact ⟨rfl, HB.out⟩
  · rw [if_neg h0]
    have hle := nBlk_le (S := N) (B := c4) (by omega)
    have hx : Bx (w.alloc (.cells #[.int .i64 ch, .int .i64 d, .int .i64 B, .int .i64 c3, .int .i64 c4, .int .i64 c5, .int .i64 c6, .int .i64 c7] 23)) w.heap.size 23 #[.int .i64 ch, .int .i64 d, .int .i64 B, .int .i64 c3, .int .i64 c4, .int .i64 c5, .int .i64 c6, .int .i64 c7] := Bx.new _ _ _
    have hS0 : (w.alloc (.cells #[.int .i64 ch, .int .i64 d, .int .i64 B, .int .i64 c3, .int .i64 c4, .int .i64 c5, .int .i64 c6, .int .i64 c7] 23)).drew.cell? ⟨w.heap.size, 4, none⟩ = some (.int .i64 c4) := hx.cell 4
    have w1 : IntKind.i64.wrap ((N : Int) + (c4 : Int)) = (N : Int) + (c4 : Int) := by rw [IntKind.wrap_i64]; omega
    have w2 : IntKind.i64.wrap ((N : Int) + (c4 : Int) - 1) = (N : Int) + (c4 : Int) - 1 := by rw [IntKind.wrap_i64]; omega
    have d1 : ((N : Int) + (c4 : Int) - 1).tdiv (c4 : Int) = ((nBlk N c4 : Nat) : Int) := by
      rw [Int.tdiv_eq_ediv_of_nonneg (by omega), show (N : Int) + (c4 : Int) - 1 = ((N + c4 - 1 : Nat) : Int) by omega]; rfl
    have w3 : IntKind.i64.wrap ((nBlk N c4 : Nat) : Int) = ((nBlk N c4 : Nat) : Int) := by rw [IntKind.wrap_i64]; omega
    have hz : ((c4 : Int) == 0) = false := by simp; omega
    have hz2 : ¬ (c4 : Int) = 0 := by omega
    generalize nBlk N c4 = M at *
    obtain ⟨m2, hm2⟩ : ∃ m2, m2 = 2 * M := ⟨_, rfl⟩
    obtain ⟨m3, hm3⟩ : ∃ m3, m3 = 22 + m2 := ⟨_, rfl⟩
    have w4 : IntKind.i64.wrap (2 * (M : Int)) = (m2 : Int) := by rw [IntKind.wrap_i64]; omega
    have w5 : IntKind.i64.wrap (22 + (m2 : Int)) = (m3 : Int) := by rw [IntKind.wrap_i64]; omega
    rw [← hm2, ← hm3]
    clear hm2 hm3 hx
    go_enter Tryz.func35, Tryz.ntmps35
    go_wp2_with fail
    go_ret
    exact ⟨rfl, HB.out⟩
end Go.Proofs.YtlncjgnomhpjnabGreatDoor

/-
  'reelkeep' looks where the frames of a stream stand: places.
-/
namespace Go.Proofs.YtlncjgnomhpjnabGreatDoor
open Go.RowKit Go.Deep
set_option linter.unusedVariables false
theorem frame_keep {base ch d B c3 c4 c5 c6 c7 S k : Nat} {xv : Value} {gs : Nat → Nat} {G : Nat → Nat → Int} (u : World) (h : CfgK ch d B c3 c4 c5 c6 c7) (hk : KP d ch B c3 c4 S G) (hkb : k < nBlk S B) (hx : AccI base u xv (blkN S B k) ch gs (blkF G B k)) (hT : TabsF u) :
    Calls Tryz.prog 36 #[.agg #[.int .i64 ch, .int .i64 d, .int .i64 B, .int .i64 c3, .int .i64 c4, .int .i64 c5, .int .i64 c6, .int .i64 c7], .int .i64 k, xv] u fun e u' => e = .returned (.tuple #[.string (bs (frT d ch G S B k)), .int .i64 0]) ∧ Below u.heap.size u u' := by
  obtain ⟨g, c, rfl, h1, h2, h3⟩ := hx.open h.ch1
  obtain ⟨q1, q2, q3⟩ := hx.lists h3 h2
  have hb := blkN_bd hk.B1 hkb
  have hnb := hk.nb
  have a1 := h.ch1
  have a2 := h.ch4
  have b1 := h.d4
  have b2 := h.d12
  have b3 := h.B1
  have b4 := h.B32
  have b5 := h.c3b
  have b6 := h.c4b
  have b7 := h.c51
  have b8 := h.c58
  have b9 := h.c61
  have b10 := h.c616
  have b11 := h.c71
  have b12 := h.c78
  have hok : frameOk ch d B c3 c4 c5 c6 c7 k ch (fun _ => blkN S B k) (blkF G B k) := by
    refine ⟨?_, ?_, rfl, ?_, fun i hi => ⟨rfl, fun j hj => ?_⟩⟩
    · simp only [rightB, Bool.and_eq_true, within_iff]
      omega
    · rw [within_iff]; omega
    · show within (blkN S B k : Int) 1 B = true
      rw [within_iff]; omega
    · rw [Int.toNat_natCast]; exact hk.blk hkb i hi j hj
  have hE := reelFrame_any ch d B c3 c4 c5 c6 c7 k _ ch c _ (fun _ => blkN S B k) (fun _ => blkN S B k) (blkF G B k) u (by omega) (fun i hi => by omega) q1 q2 q3 hT
  rw [(frame_yes hok).1, (frame_yes hok).2] at hE
  simp only [Int.toNat_natCast] at hE
  exact hE
theorem part_block {base : Nat} {lv : Value} {S n B k : Nat} {gs : Nat → Nat} {G : Nat → Nat → Int} (w : World) (hn1 : 1 ≤ n) (hn4 : n ≤ 4) (hS : S ≤ 300) (hB1 : 1 ≤ B) (hB : B ≤ 32) (hk : k < nBlk S B) (h : AccI base w lv S n gs G) :
    Calls Tryz.prog 16 #[lv, .int .i64 (k * B : Nat), .int .i64 ((k + 1) * B : Nat)] w fun e w' => ∃ lv2 gs2, e = .returned lv2 ∧ AccI w.heap.size w' lv2 (blkN S B k) n gs2 (blkF G B k) ∧ Below w.heap.size w w' := by
  have hb := blkN_bd hB1 hk
  have hkS : k * B < S := (nBlk_lt hB1).1 hk
  have e1 : (k + 1) * B = k * B + B := Nat.add_one_mul _ _
  have hh : min ((k + 1) * B) S = k * B + blkN S B k := by unfold blkN; omega
  have h1 := part_any base lv S n (k * B) ((k + 1) * B) gs G w hn1 hn4 hS (by omega) (by omega) h
  rw [hh, Nat.min_eq_left (by omega), Nat.add_sub_cancel_left] at h1
  refine h1.mono ?_
  rintro e w' ⟨lv2, gs2, G2, rfl, ha, hg, hb⟩
  exact ⟨lv2, gs2, rfl, ha.ext hg, hb⟩
/-- where the frames stand -/
def atsL (d n : Nat) (F : Nat → Nat → Int) (S B hs k : Nat) : List Value := (List.range k).map fun j => .int .i64 ((hs + (frsT d n F S B j).length : Nat) : Int)
theorem atsL_snoc (d n : Nat) (F : Nat → Nat → Int) (S B hs k : Nat) : atsL d n F S B hs (k + 1) = atsL d n F S B hs k ++ [.int .i64 ((hs + (frsT d n F S B k).length : Nat) : Int)] := by
  unfold atsL
  rw [List.range_succ, List.map_append]
  rfl
set_option maxRecDepth 4000 in
set_option maxHeartbeats 4000000 in
theorem places_any (ch d B c3 c4 c5 c6 c7 S : Nat) (base gx cx : Nat) (gs : Nat → Nat) (G : Nat → Nat → Int) (w : World) (hc : CfgK ch d B c3 c4 c5 c6 c7) (hk : KP d ch B c3 c4 S G) (hx : AccI base w (.slice (some ⟨gx, 0, none⟩) ch cx) S ch gs G) (hT : TabsF w) :
    Calls Tryz.prog 12 #[.agg #[.int .i64 ch, .int .i64 d, .int .i64 B, .int .i64 c3, .int .i64 c4, .int .i64 c5, .int .i64 c6, .int .i64 c7], .slice (some ⟨gx, 0, none⟩) ch cx, .string (bs (streamT d ch B c3 c4 G S))] w fun e w' => ∃ ov, e = .returned ov ∧ w'.ownsRow w.heap.size 3 1 ov (nBlk S B + 1) (atsL d ch G S B (22 + 2 * nPts S B c4) (nBlk S B + 1)) ∧ Below w.heap.size w w' := by
  have HB0 : Hid (Below w.heap.size w (w.alloc (.cells #[.int .i64 ch, .int .i64 d, .int .i64 B, .int .i64 c3, .int .i64 c4, .int .i64 c5, .int .i64 c6, .int .i64 c7] 23))) := (Below.refl _ _).alloc (Nat.le_refl _) _
  have HQ0 := Hid.mk' (show Bx (w.alloc (.cells #[.int .i64 ch, .int .i64 d, .int .i64 B, .int .i64 c3, .int .i64 c4, .int .i64 c5, .int .i64 c6, .int .i64 c7] 23)) w.heap.size 23 #[.int .i64 ch, .int .i64 d, .int .i64 B, .int .i64 c3, .int .i64 c4, .int .i64 c5, .int .i64 c6, .int .i64 c7] from Bx.new _ _ _)
  have a1 := hc.ch1
  have a2 := hc.ch4
  have a3 := hk.S3
  have hnb := hk.nb
  have HBK := Hid.mk' (fun (u : World) (hu : Below w.heap.size w u) => blocks_keep ch d c3 c4 c5 c6 c7 B _ ch S G u hc.B1 hc.B32 a3 a1 ((hx.next hu).view a1))
  have HHS := Hid.mk' (fun u => headSize_keep ch d B c3 c5 c6 c7 c4 (nBlk S B) u hc.c4b hnb)
  have HPT := Hid.mk' (fun (u : World) (hu : Below w.heap.size w u) (k : Nat) (hkb : k < nBlk S B) => part_block u a1 a2 a3 hc.B1 hc.B32 hkb (hx.next hu))
  have HFR := Hid.mk' (fun (u : World) (hu : Below w.heap.size w u) (b k : Nat) (lv : Value) (gs2 : Nat → Nat) (hkb : k < nBlk S B) (ha : AccI b u lv (blkN S B k) ch gs2 (blkF G B k)) => frame_keep u hc hk hkb ha (hT.below hu))
  have hz : (bs (streamT d ch B c3 c4 G S)).size = (streamT d ch B c3 c4 G S).length := bs_size _
  have e22 : (22 + 2 * (if c4 = 0 then 0 else nBlk (nBlk S B) c4) : Nat) = 22 + 2 * nPts S B c4 := rfl
  rw [e22] at HHS
  have HTW := Hid.mk' (fun k (hkb : k < nBlk S B) => frT_twelve hk hkb)
  have HCUT : Hid (∀ k p, k < nBlk S B → p = 22 + 2 * nPts S B c4 + (frsT d ch G S B k).length → p + (frT d ch G S B k).length ≤ (streamT d ch B c3 c4 G S).length ∧ (bs (streamT d ch B c3 c4 G S)).extract p (p + (frT d ch G S B k).length) = bs (frT d ch G S B k)) := fun k p hkb hp => by
    have h1 := stream_len hk
    have hX : frsT d ch G S B (nBlk S B) = frsT d ch G S B k ++ (frT d ch G S B k ++ tlX d ch G S B (k + 1)) := by
      rw [← tl_step hkb]
      obtain ⟨Z, hZ⟩ := frs_pre d ch G S B k (nBlk S B - k)
      rw [Nat.add_sub_cancel' (Nat.le_of_lt hkb)] at hZ
      unfold tlX
      rw [hZ, List.drop_left]
    have hl : (frsT d ch G S B (nBlk S B)).length = (frsT d ch G S B k).length + ((frT d ch G S B k).length + (tlX d ch G S B (k + 1)).length) := by rw [hX, List.length_append, List.length_append]
    refine ⟨by omega, ?_⟩
    rw [bs_cut', Nat.add_sub_cancel_left]
    congr 1
    have hd : (streamT d ch B c3 c4 G S).drop p = frT d ch G S B k ++ tlX d ch G S B (k + 1) := by
      have h2 := stream_drop hk
      rw [(stream_head hk).sz] at h2
      rw [hp, ← List.drop_drop, h2, tl_zero, hX, List.drop_left]
    rw [hd, List.take_left]
  have HEND : Hid (22 + 2 * nPts S B c4 + (frsT d ch G S B (nBlk S B)).length = (streamT d ch B c3 c4 G S).length) := (stream_len hk).symm
  have HSH := Hid.mk' (stream_short hk)
  have hhb : 22 + 2 * nPts S B c4 ≤ 700 := by have := np_bd S B c4 hc.B1; omega
  clear e22
  generalize 22 + 2 * nPts S B c4 = hs at *
  have HST : Hid (∀ k, (bs (frT d ch G S B k)).size = (frT d ch G S B k).length) := fun k => bs_size _
  generalize bs (streamT d ch B c3 c4 G S) = SB at *
  generalize (streamT d ch B c3 c4 G S).length = TL at *
  have hTL : TL ≤ 9000 := HSH.out
  have HKB := Hid.mk' hc
  have HBE : Hid (1 ≤ B ∧ B ≤ 32) := ⟨hc.B1, hc.B32⟩
  have hB1 := hc.B1
  have hB2 := hc.B32
  clear hc hk hx hT HSH
  generalize nBlk S B = nb at *
  go_enter Tryz.func12, Tryz.ntmps12
  go_wp2_with (first
    | (refine wpList_loadRow rfl _ 23 rfl w.heap.size 23 #[.int .i64 ch, .int .i64 d, .int .i64 B, .int .i64 c3, .int .i64 c4, .int .i64 c5, .int .i64 c6, .int .i64 c7] (0, 0) _ rfl HQ0.out Tryz.underlying23 rfl infoCfgK ?_)
    | (go_at_call 20; refine (HBK.out _ HB0.out).mono ?_; rintro e w1 ⟨rfl, hb⟩; have HQ1 := Hid.mk' (HQ0.out.below hb); have HB1 := Hid.mk' (HB0.out.trans (hb.mono HB0.out.size)); clear HBK hb HQ0 HB0)
    | (refine wpList_loadRow rfl _ 23 rfl w.heap.size 23 #[.int .i64 ch, .int .i64 d, .int .i64 B, .int .i64 c3, .int .i64 c4, .int .i64 c5, .int .i64 c6, .int .i64 c7] (0, 0) _ rfl HQ1.out Tryz.underlying23 rfl infoCfgK ?_)
    | (go_at_call 35; refine (HHS.out _).mono ?_; rintro e w2 ⟨rfl, hb⟩; have HQ2 := Hid.mk' (HQ1.out.below hb); have HB2 := Hid.mk' (HB1.out.trans (hb.mono HB1.out.size)); clear HHS hb HQ1 HB1))
  have HO0 : Hid ((w2.alloc (.cells #[.int .i64 hs] 3)).ownsRow (w.heap.size + 1) 3 1 (.slice (some ⟨w2.heap.size, 0, none⟩) 1 1) 1 (atsL d ch G S B hs 1)) := by
    refine ⟨rfl, .inr ⟨w2.heap.size, 1, #[.int .i64 hs], rfl, HQ2.out.lt, blk_alloc_new _ _, Nat.le_refl _, by simp [maxLen], rfl, ?_⟩⟩
    rfl
  go_loopw [6, 8, 9, 10, 11, 12] (fun _ av ov kv _ _ wr => ∃ (k p : Nat) (lv : Value), k ≤ nb ∧ kv = .int .i64 k ∧ av = .int .i64 p ∧ ov = lv ∧ Hid (p = hs + (frsT d ch G S B k).length ∧ wr.ownsRow (w.heap.size + 1) 3 1 lv (k + 1) (atsL d ch G S B hs (k + 1)) ∧ Bx wr w.heap.size 23 #[.int .i64 ch, .int .i64 d, .int .i64 B, .int .i64 c3, .int .i64 c4, .int .i64 c5, .int .i64 c6, .int .i64 c7] ∧ Below w.heap.size w wr)) (fun _ _ _ kv _ _ _ => nb - (intOf kv).toNat)
  case atStart => exact ⟨0, hs, _, Nat.zero_le _, rfl, rfl, rfl, rfl, HO0.out, HQ2.out.alloc _, HB2.out.alloc HB2.out.size _⟩
  case round =>
    obtain ⟨k, p, lv, hkn, rfl, rfl, e, HR⟩ := hrel
    subst e
    obtain ⟨al, cl, hlv⟩ := own_form HR.out.2.1
    subst hlv
    by_cases hlt : k < nb
    · have hp := HR.out.1
      have h12 := HTW.out k hlt
      obtain ⟨hcl, hcut⟩ := HCUT.out k p hlt hp
      have HCU := Hid.mk' hcut
      have e1 : (k : Int) * (B : Int) = ((k * B : Nat) : Int) := by simp
      have e2 : ((k : Int) + 1) * (B : Int) = (((k + 1) * B : Nat) : Int) := by rw [Int.natCast_mul]; rfl
      have hb1 : k * B ≤ 300 * 32 := Nat.mul_le_mul (by omega) hB2
      have hb2 : (k + 1) * B ≤ 301 * 32 := Nat.mul_le_mul (by omega) hB2
      have HPK := Hid.mk' (fun (u : World) (hu : Below w.heap.size w u) => HPT.out u hu k hlt)
      have HFK := Hid.mk' (fun (u : World) (hu : Below w.heap.size w u) (b : Nat) (lv : Value) (gs2 : Nat → Nat) ha => HFR.out u hu b k lv gs2 hlt ha)
      have hsz := HST.out k
      generalize k * B = kb at *
      generalize (k + 1) * B = kb1 at *
      have v1 : IntKind.i64.wrap ((k : Int) * (B : Int)) = (kb : Int) := by rw [IntKind.wrap_i64, e1]; omega
      have v2 : IntKind.i64.wrap (((k : Int) + 1) * (B : Int)) = (kb1 : Int) := by rw [IntKind.wrap_i64, e2]; omega
      have v3 : IntKind.i64.wrap ((k : Int) + 1) = (k : Int) + 1 := by rw [IntKind.wrap_i64]; omega
      have HP0 := Hid.mk' hp
      have hLN : (frsT d ch G S B (k + 1)).length = (frsT d ch G S B k).length + (frT d ch G S B k).length := List.length_append
      have HLN := Hid.mk' hLN
      generalize hFB : bs (frT d ch G S B k) = FB at *
      generalize (frT d ch G S B k).length = fl at *
      obtain ⟨pe, hpe⟩ : ∃ pe, pe = p + fl := ⟨_, rfl⟩
      have v4 : IntKind.i64.wrap ((TL : Int) - (p : Int)) = ((TL - p : Nat) : Int) := by rw [IntKind.wrap_i64]; omega
      have v5 : IntKind.i64.wrap ((p : Int) + (fl : Int)) = (pe : Int) := by rw [IntKind.wrap_i64]; omega
      have hcu := HCU.out
      rw [← hpe] at hcu
      have t1 : fl ≤ TL - p := by omega
      have t2 : ¬ ((TL - p : Nat) : Int) < (fl : Int) := by omega
      have t3 : (p : Int) ≤ (pe : Int) := by omega
      have t4 : (pe : Int) ≤ (TL : Int) := by omega
      have t5 : ¬ (fl : Int) < 12 := by omega
      have HPE : Hid (pe = hs + (frsT d ch G S B (k + 1)).length) := by show _ = _; omega
      generalize TL - p = rs at *
      have HBD := Hid.mk' HR.out.2.2.2.drew
      have HQD := Hid.mk' HR.out.2.2.1
      have hS0 : wr.drew.cell? ⟨w.heap.size, 0, none⟩ = some (.int .i64 ch) ∧ wr.drew.cell? ⟨w.heap.size, 1, none⟩ = some (.int .i64 d) ∧ wr.drew.cell? ⟨w.heap.size, 2, none⟩ = some (.int .i64 B) ∧ wr.drew.cell? ⟨w.heap.size, 3, none⟩ = some (.int .i64 c3) ∧ wr.drew.cell? ⟨w.heap.size, 4, none⟩ = some (.int .i64 c4) ∧ wr.drew.cell? ⟨w.heap.size, 5, none⟩ = some (.int .i64 c5) ∧ wr.drew.cell? ⟨w.heap.size, 6, none⟩ = some (.int .i64 c6) ∧ wr.drew.cell? ⟨w.heap.size, 7, none⟩ = some (.int .i64 c7) := ⟨HQD.out.cell 0, HQD.out.cell 1, HQD.out.cell 2, HQD.out.cell 3, HQD.out.cell 4, HQD.out.cell 5, HQD.out.cell 6, HQD.out.cell 7⟩
      have HOD := Hid.mk' HR.out.2.1
      clear e1 e2 hp hLN HCU hFB hpe
      go_wp2_with fail
      go_region_held3 (fun w' => w'.cell? ⟨w.heap.size, 0, none⟩ = some (.int .i64 ch) ∧ w'.cell? ⟨w.heap.size, 1, none⟩ = some (.int .i64 d) ∧ w'.cell? ⟨w.heap.size, 2, none⟩ = some (.int .i64 B) ∧ w'.cell? ⟨w.heap.size, 3, none⟩ = some (.int .i64 c3) ∧ w'.cell? ⟨w.heap.size, 4, none⟩ = some (.int .i64 c4) ∧ w'.cell? ⟨w.heap.size, 5, none⟩ = some (.int .i64 c5) ∧ w'.cell? ⟨w.heap.size, 6, none⟩ = some (.int .i64 c6) ∧ w'.cell? ⟨w.heap.size, 7, none⟩ = some (.int .i64 c7))
        (first | with_reducible exact hS0 | with_reducible exact hS1 | with_reducible exact hS2)
        (first
        | (go_at_call 16; refine (HPK.out _ HBD.out).mono ?_; rintro e u1 ⟨pv, gs2, rfl, ha, hb⟩; have hb' : Below wr.heap.size wr u1 := ⟨hb.os, hb.tape, hb.output, hb.size, hb.block⟩; have HA1 := Hid.mk' ha; have HQ1 := Hid.mk' (HQD.out.below hb'); have HO1 := Hid.mk' (HOD.out.kept (grownAll hb' _) (Classical.em _)); have HB1 := Hid.mk' (HBD.out.trans (hb.mono HBD.out.size)); have hS1 : u1.cell? ⟨w.heap.size, 0, none⟩ = some (.int .i64 ch) ∧ u1.cell? ⟨w.heap.size, 1, none⟩ = some (.int .i64 d) ∧ u1.cell? ⟨w.heap.size, 2, none⟩ = some (.int .i64 B) ∧ u1.cell? ⟨w.heap.size, 3, none⟩ = some (.int .i64 c3) ∧ u1.cell? ⟨w.heap.size, 4, none⟩ = some (.int .i64 c4) ∧ u1.cell? ⟨w.heap.size, 5, none⟩ = some (.int .i64 c5) ∧ u1.cell? ⟨w.heap.size, 6, none⟩ = some (.int .i64 c6) ∧ u1.cell? ⟨w.heap.size, 7, none⟩ = some (.int .i64 c7) := ⟨HQ1.out.cell 0, HQ1.out.cell 1, HQ1.out.cell 2, HQ1.out.cell 3, HQ1.out.cell 4, HQ1.out.cell 5, HQ1.out.cell 6, HQ1.out.cell 7⟩; clear ha hb hb' HPK)
        | (go_at_call 36; refine (HFK.out _ HB1.out _ _ _ HA1.out).mono ?_; rintro e u2 ⟨rfl, hb⟩; have HQ2b := Hid.mk' (HQ1.out.below hb); have HO2 := Hid.mk' (HO1.out.kept (grownAll hb _) (Classical.em _)); have HB2b := Hid.mk' (HB1.out.trans (hb.mono HB1.out.size)); have hS2 : u2.cell? ⟨w.heap.size, 0, none⟩ = some (.int .i64 ch) ∧ u2.cell? ⟨w.heap.size, 1, none⟩ = some (.int .i64 d) ∧ u2.cell? ⟨w.heap.size, 2, none⟩ = some (.int .i64 B) ∧ u2.cell? ⟨w.heap.size, 3, none⟩ = some (.int .i64 c3) ∧ u2.cell? ⟨w.heap.size, 4, none⟩ = some (.int .i64 c4) ∧ u2.cell? ⟨w.heap.size, 5, none⟩ = some (.int .i64 c5) ∧ u2.cell? ⟨w.heap.size, 6, none⟩ = some (.int .i64 c6) ∧ u2.cell? ⟨w.heap.size, 7, none⟩ = some (.int .i64 c7) := ⟨HQ2b.out.cell 0, HQ2b.out.cell 1, HQ2b.out.cell 2, HQ2b.out.cell 3, HQ2b.out.cell 4, HQ2b.out.cell 5, HQ2b.out.cell 6, HQ2b.out.cell 7⟩; clear hb HFK))
      obtain ⟨g', c', u3, hr, ho, hgr⟩ := app_row 30 3 (.int .i64 0) 8 Tryz.underlying30 infoInt rfl u2 _ (.slice al (k + 1) cl) (k + 1) _ #[.int .i64 pe] HO2.out (by simp) (by intro u hu; simp at hu; rw [hu]; rfl) (by simp only [maxLen]; simp; omega) (by simp; omega) (by have := HQ2b.out.lt; omega) 30
      have HOX : Hid (u3.ownsRow (w.heap.size + 1) 3 1 (.slice (some ⟨g', 0, none⟩) (k + 1 + 1) c') (k + 1 + 1) (atsL d ch G S B hs (k + 1 + 1))) := by
        show World.ownsRow _ _ _ _ _ _ _
        rw [atsL_snoc, ← HPE.out]
        exact ho
      have HQX : Hid (Bx u3 w.heap.size 23 #[.int .i64 ch, .int .i64 d, .int .i64 B, .int .i64 c3, .int .i64 c4, .int .i64 c5, .int .i64 c6, .int .i64 c7]) := HQ2b.out.of (hgr.block _ HQ2b.out.lt (fun e => by have := (HO2.out.lt _ e.symm).1; omega))
      have HBX : Hid (Below w.heap.size w u3) := HB2b.out.grown hgr HB2b.out.size (fun q hq => by have := (HO2.out.lt q hq).1; omega)
      have HAP : Hid (_ = _) := hr
      clear hr ho hgr hS0 hS1 hS2
      go_wp2_with (at_builtin; refine wpList_append_rn rfl _ _ _ rfl _ _ _ rfl rfl HAP.out ?_; clear HAP)
      go_roundw
      case rel => exact ⟨k + 1, pe, _, by omega, by go_num, rfl, rfl, HPE.out, HOX.out, HQX.out, HBX.out⟩
      case measure => simp [intOf]; omega
    · have e : k = nb := by omega
      subst e
      have hp : p = TL := HR.out.1.trans HEND.out
      subst hp
      have HOF := Hid.mk' (own_mono (base' := w.heap.size) HR.out.2.1 (Nat.le_succ w.heap.size))
      go_wp2_with fail
      go_ret
      exact ⟨.slice al (k + 1) cl, rfl, HOF.out, HR.out.2.2.2⟩
end Go.Proofs.YtlncjgnomhpjnabGreatDoor

/-
  Bytes of a stream in memory; what the program answers to a stream in which one byte is another.
-/
namespace Go.Proofs.YtlncjgnomhpjnabGreatDoor
open Go.RowKit Go.Deep
set_option linter.unusedVariables false
/-- a block that begins with these bytes -/
def Byt (u : World) (g : Nat) (T : List UInt8) : Prop := ∃ (row : Array Value) (m : Nat), u.heap[g]? = some (.cells row 5 (m, m + 1)) ∧ T.length ≤ m ∧ ∀ j (hj : j < T.length), row[j]? = some (.int .u8 (T[j].toNat : Int))
theorem Byt.cell {u : World} {g : Nat} {T : List UInt8} (h : Byt u g T) {j : Nat} (hj : j < T.length) : u.cell? ⟨g, j, none⟩ = some (.int .u8 (T[j].toNat : Int)) := by
  obtain ⟨row, m, h1, h2, h3⟩ := h
  simp [World.cell?, h1, h3 j hj]
theorem Byt.frozen {u : World} {g : Nat} {T : List UInt8} (h : Byt u g T) {j : Nat} (hj : j < T.length) : u.frozen? ⟨g, j, none⟩ = false := by
  obtain ⟨row, m, h1, h2, h3⟩ := h
  simp [World.frozen?, h1]
  omega
theorem Byt.set {u : World} {g : Nat} {T : List UInt8} (h : Byt u g T) {i : Nat} (v : UInt8) (hi : i < T.length) : Byt (u.setCell ⟨g, i, none⟩ (.int .u8 (v.toNat : Int))) g (T.set i v) := by
  obtain ⟨row, m, h1, h2, h3⟩ := h
  have hri : i < row.size := (Array.getElem?_eq_some_iff.1 (h3 i hi)).1
  refine ⟨row.setIfInBounds i (.int .u8 (v.toNat : Int)), m, ?_, by rw [List.length_set]; exact h2, fun j hj => ?_⟩
  · simp [World.setCell, Array.getElem?_modify, h1]
  · rw [List.length_set] at hj
    rw [List.getElem_set]
    by_cases e : i = j
    · subst e
      rw [if_pos rfl]
      simp [hri]
    · rw [if_neg e, Array.getElem?_setIfInBounds_ne e]
      exact h3 j hj
theorem byt_of_string (w : World) (T : List UInt8) : ∃ cap w', (convert 9 33 (.string (bs T))).run Tryz.prog w = .ok (.slice (some ⟨w.heap.size, 0, none⟩) T.length cap) w' ∧ Byt w' w.heap.size T ∧ Below w.heap.size w w' := by
  have h := run_bytes_of_string (P := Tryz.prog) w 9 33 5 (bs T) Tryz.underlying9 Tryz.underlying33 Tryz.underlying5
  rw [bs_size] at h
  refine ⟨_, _, h, ?_, (Below.refl _ _).drew.alloc (Nat.le_refl _) _⟩
  have hd : (bs T).data = T.toArray := rfl
  refine ⟨_, _, blk_alloc_new _ _, ?_, fun j hj => ?_⟩
  · simp [bytesRow, hd]
  · have hlt : j < ((bs T).data.map fun b => Value.int .u8 (b.toNat : Int)).size := by simp [hd]; exact hj
    unfold bytesRow
    rw [Array.getElem?_append_left hlt]
    simp [hd, hj]
theorem byt_back {u : World} {g cap : Nat} {T : List UInt8} (h : Byt u g T) : (convert 33 9 (.slice (some ⟨g, 0, none⟩) T.length cap)).run Tryz.prog u = .ok (.string (bs T)) u :=
  run_convert_bytes_back (P := Tryz.prog) u 33 9 5 ⟨g, 0, none⟩ cap T Tryz.underlying33 Tryz.underlying5 Tryz.underlying9 (fun j hj => by rw [Addr.add_lit, Nat.zero_add]; exact h.cell hj)
end Go.Proofs.YtlncjgnomhpjnabGreatDoor

