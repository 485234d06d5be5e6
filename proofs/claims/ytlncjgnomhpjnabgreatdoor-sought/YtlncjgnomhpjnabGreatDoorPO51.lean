import Derived.Test.YtlncjgnomhpjnabGreatDoorPO49
import Derived.Test.YtlncjgnomhpjnabGreatDoorPO50
import Derived.Deep.RegionHeld3
import Derived.Deep.DeepCutAuto
/-
  A stream in which one byte is another.
-/
namespace Go.Proofs.YtlncjgnomhpjnabGreatDoor
open Go.RowKit Go.Deep
set_option linter.unusedVariables false
theorem piece_set {T : List UInt8} {i a b : Nat} {v : UInt8} (h : b ≤ i) : pieceT (T.set i v) a b = pieceT T a b := by
  unfold pieceT
  refine List.ext_getElem? fun j => ?_
  by_cases hj : j < b - a
  · rw [List.getElem?_take_of_lt hj, List.getElem?_take_of_lt hj, List.getElem?_drop, List.getElem?_drop, List.getElem?_set_ne (by omega)]
  · rw [List.getElem?_eq_none (by rw [List.length_take]; omega), List.getElem?_eq_none (by rw [List.length_take]; omega)]
/-- a head's two seals -/
theorem head_seals {X : List UInt8} (h : HdP X) : seal8 (X.take 19) = X.take (19 + 1) ∧ seal16 (X.take (dSz X - 2)) = X.take (dSz X - 2 + 2) := by
  obtain ⟨h1, h2, h3, h4, h5, h6⟩ := h
  have hsz : dSz X = 22 + 2 * dNp X := rfl
  have hfl := fieldsT_length (dWh X) (dCh X) (dDe X) (dBl X) (dRa X) (dSa X) (dSe X) (dLe X) (dMo X) (dSu X)
  have hpl : (ptsT (dPts X)).length = 2 * dNp X := by
    have := ptsT_length (dPts X) (dPts X).length (Nat.le_refl _)
    rw [List.take_length, dPts_length] at this
    exact this
  unfold dTx headTx at h5
  generalize fieldsT (dWh X) (dCh X) (dDe X) (dBl X) (dRa X) (dSa X) (dSe X) (dLe X) (dMo X) (dSu X) = Fd at *
  have hs8 : (seal8 Fd).length = 20 := by rw [seal8_length, hfl]
  have e20 : X.take 20 = seal8 Fd := by
    have := congrArg (List.take 20) h5
    rw [List.take_take, Nat.min_eq_left (by omega)] at this
    rw [← this]
    unfold seal16
    rw [List.append_assoc, List.take_append_of_le_length (by omega)]
    exact List.take_of_length_le (by omega)
  have e19 : X.take 19 = Fd := by
    have := congrArg (List.take 19) e20
    rw [List.take_take, Nat.min_eq_left (by omega)] at this
    rw [this]
    unfold seal8
    rw [List.take_append_of_le_length (by omega)]
    exact List.take_of_length_le (by omega)
  refine ⟨by rw [e19]; exact e20.symm, ?_⟩
  have em : X.take (dSz X - 2) = seal8 Fd ++ ptsT (dPts X) := by
    have := congrArg (List.take (dSz X - 2)) h5
    rw [List.take_take, Nat.min_eq_left (by omega)] at this
    rw [← this]
    unfold seal16
    rw [List.take_append_of_le_length (by rw [List.length_append]; omega)]
    exact List.take_of_length_le (by rw [List.length_append]; omega)
  rw [em, h5, Nat.sub_add_cancel (by omega)]
theorem fld_set {T : List UInt8} {i a b : Nat} {v : UInt8} (h : b ≤ i) : fld (T.set i v) a b = fld T a b := by
  unfold fld
  rw [piece_set h]
/-- what stands ahead of a byte is not touched -/
theorem set_np {T : List UInt8} {i : Nat} {v : UInt8} (h : 20 ≤ i) : dSz (T.set i v) = dSz T := by
  unfold dSz dNp dSa dBl dSe
  rw [fld_set (by omega), fld_set (by omega), fld_set (by omega)]
theorem spoilt_head {T : List UInt8} {i : Nat} {v : UInt8} (h : HdP T) (hi : i < dSz T) (hv : T[i]'(Nat.lt_of_lt_of_le hi h.2.2.2.1) ≠ v) : ¬ HdP (T.set i v) := fun h' => by
  obtain ⟨s1, s2⟩ := head_seals h
  obtain ⟨s1', s2'⟩ := head_seals h'
  have hl := h.2.2.2.1
  have hsz : dSz T = 22 + 2 * dNp T := rfl
  by_cases h20 : i < 20
  · exact seal8_no (by omega) (by omega) hv s1 s1'
  · rw [set_np (by omega)] at s2'
    exact seal16_no (by omega) (by omega) hv s2 s2'
theorem set_hd {T : List UInt8} {i : Nat} {v : UInt8} (h : HdP T) (hi : dSz T ≤ i) : HdP (T.set i v) ∧ dWh (T.set i v) = dWh T ∧ dCh (T.set i v) = dCh T ∧ dDe (T.set i v) = dDe T ∧ dBl (T.set i v) = dBl T ∧ dRa (T.set i v) = dRa T ∧ dSa (T.set i v) = dSa T ∧ dSe (T.set i v) = dSe T ∧ dSz (T.set i v) = dSz T := by
  have hsz : dSz T = 22 + 2 * dNp T := rfl
  have e0 : dSz (T.set i v) = dSz T := set_np (by omega)
  have e0' : dNp (T.set i v) = dNp T := by
    have : dSz (T.set i v) = 22 + 2 * dNp (T.set i v) := rfl
    omega
  have e1 : dWh (T.set i v) = dWh T := fld_set (by omega)
  have e2 : dCh (T.set i v) = dCh T := fld_set (by omega)
  have e3 : dDe (T.set i v) = dDe T := fld_set (by omega)
  have e4 : dBl (T.set i v) = dBl T := fld_set (by omega)
  have e5 : dRa (T.set i v) = dRa T := fld_set (by omega)
  have e6 : dSa (T.set i v) = dSa T := fld_set (by omega)
  have e7 : dSe (T.set i v) = dSe T := fld_set (by omega)
  have e8 : dLe (T.set i v) = dLe T := fld_set (by omega)
  have e9 : dMo (T.set i v) = dMo T := fld_set (by omega)
  have e10 : dSu (T.set i v) = dSu T := fld_set (by omega)
  have e11 : dPts (T.set i v) = dPts T := by
    unfold dPts
    rw [e0']
    refine List.map_congr_left fun k hk => ?_
    rw [List.mem_range] at hk
    exact fld_set (by omega)
  have e12 : dTx (T.set i v) = dTx T := by
    unfold dTx
    rw [e1, e2, e3, e4, e5, e6, e7, e8, e9, e10, e11]
  have e13 : (T.set i v).take (dSz T) = T.take (dSz T) := by
    rw [List.take_set, List.set_eq_of_length_le (by rw [List.length_take]; omega)]
  obtain ⟨h1, h2, h3, h4, h5, h6⟩ := h
  refine ⟨⟨by rw [List.length_set]; exact h1, by rw [e1]; exact h2, by rw [e2, e3, e4, e5, e6, e7]; exact h3, by rw [e0, List.length_set]; exact h4, by rw [e12, e0, e13]; exact h5, by rw [e1, e8, e9, e10, e11]; exact h6⟩, e1, e2, e3, e4, e5, e6, e7, e0⟩
/-- frames, and then something -/
def gX (d n : Nat) (F : Nat → Nat → Int) (S B k j : Nat) (Z : List UInt8) : List UInt8 := (frsT d n F S B k).drop (frsT d n F S B j).length ++ Z
theorem g_end (d n : Nat) (F : Nat → Nat → Int) (S B k : Nat) (Z : List UInt8) : gX d n F S B k k Z = Z := by
  unfold gX
  rw [List.drop_length, List.nil_append]
theorem g_zero (d n : Nat) (F : Nat → Nat → Int) (S B k : Nat) (Z : List UInt8) : gX d n F S B k 0 Z = frsT d n F S B k ++ Z := rfl
theorem g_step {d n : Nat} {F : Nat → Nat → Int} {S B k j : Nat} {Z : List UInt8} (hj : j < k) : gX d n F S B k j Z = frT d n F S B j ++ gX d n F S B k (j + 1) Z := by
  obtain ⟨Y, hY⟩ := frs_pre d n F S B (j + 1) (k - (j + 1))
  rw [Nat.add_sub_cancel' hj] at hY
  have e : frsT d n F S B (j + 1) = frsT d n F S B j ++ frT d n F S B j := rfl
  unfold gX
  rw [hY, List.drop_left, e, List.append_assoc, List.drop_left, List.append_assoc]
theorem g_frame {d n B c3 c4 S : Nat} {F : Nat → Nat → Int} (h : KP d n B c3 c4 S F) {k j : Nat} {Z : List UInt8} (hk : k ≤ nBlk S B) (hj : j < k) :
    okF n d B S j (gX d n F S B k j Z) ∧ hLen (gX d n F S B k j Z) = lnF d n F S B j ∧ ∀ c, c < n → ∀ q, q < blkN S B j → smpF n d B j (gX d n F S B k j Z) c q = F c (j * B + q) := by
  have hb := blkN_bd h.B1 (show j < nBlk S B by omega)
  have hnb := h.nb
  have h1 := h.d4
  have h2 := h.B32
  obtain ⟨H, hF, hc, hl, hH⟩ := frame_back (B := B) (number := j) (gX d n F S B k (j + 1) Z) hb.1 hb.2.1 h2 (by omega) h.d12 h.n1 h.n4 (by omega) (h.blk (show j < nBlk S B by omega))
  rw [g_step hj]
  refine ⟨⟨⟨H, hF⟩, hc⟩, hl, fun c hc2 q hq => ?_⟩
  have e : smpF n d B j (frT d n F S B j ++ gX d n F S B k (j + 1) Z) = H := smpF_eq hF
  rw [e, hH c hc2 q hq]
  rfl
theorem g_at {d n B c3 c4 S : Nat} {F : Nat → Nat → Int} (h : KP d n B c3 c4 S F) {k : Nat} {Z : List UInt8} (hk : k ≤ nBlk S B) : ∀ j, j ≤ k → atX (gX d n F S B k 0 Z) j = gX d n F S B k j Z
  | 0, _ => by
    show List.drop 0 _ = _
    rw [List.drop_zero]
  | j + 1, hj => by
    have ih := g_at h hk (Z := Z) j (by omega)
    rw [← atX_step]
    unfold lnX
    rw [ih, (g_frame h (Z := Z) hk (show j < k by omega)).2.1, g_step (show j < k by omega)]
    show List.drop (frT d n F S B j).length _ = _
    rw [List.drop_left]
theorem g_run {d n B c3 c4 S : Nat} {F : Nat → Nat → Int} (h : KP d n B c3 c4 S F) {k : Nat} {Z : List UInt8} (hk : k ≤ nBlk S B) (hZ : ¬ okF n d B S k Z) : RunIs n d B S 0 (gX d n F S B k 0 Z) k :=
  ⟨.inl (by omega), fun j hj => by rw [g_at h hk j (by omega), Nat.zero_add]; exact (g_frame h hk hj).1, fun _ => by rw [g_at h hk k (Nat.le_refl _), g_end, Nat.zero_add]; exact hZ⟩
theorem g_chL {d n B c3 c4 S : Nat} {F : Nat → Nat → Int} (h : KP d n B c3 c4 S F) {k c : Nat} {Z : List UInt8} (hk : k ≤ nBlk S B) (hc : c < n) : ∀ m, m ≤ k → chL n d B S 0 (gX d n F S B k 0 Z) c m = (List.range (chN B S 0 m)).map fun j => F c j
  | 0, _ => rfl
  | m + 1, hm => by
    have hlt : m * B < S := (nBlk_lt h.B1).1 (by omega)
    have e1 := chN_full (B := B) (S := S) (k0 := 0) m (by rw [Nat.zero_add]; omega)
    unfold chL chN
    rw [g_chL h hk hc m (by omega), g_at h hk m (by omega), List.range_add, List.map_append, List.map_map]
    congr 1
    refine List.map_congr_left fun i hi => ?_
    rw [List.mem_range, Nat.zero_add] at hi
    show smpF n d B (0 + m) (gX d n F S B k m Z) c i = F c (chN B S 0 m + i)
    rw [Nat.zero_add, (g_frame h (Z := Z) hk (show m < k by omega)).2.2 c hc i hi, e1]
theorem g_smp {d n B c3 c4 S : Nat} {F : Nat → Nat → Int} (h : KP d n B c3 c4 S F) {k c j : Nat} {Z : List UInt8} (hk : k ≤ nBlk S B) (hc : c < n) (hj : j < chN B S 0 k) : smpL n d B S 0 (gX d n F S B k 0 Z) k c j = F c j := by
  unfold smpL
  rw [g_chL h hk hc k (Nat.le_refl _), List.getD_eq_getElem?_getD, List.getElem?_map, List.getElem?_range hj]
  rfl
/-- a frame with another byte is none -/
theorem spoilt_frame {Y : List UInt8} {n d B S k q : Nat} {v : UInt8} {H : Nat → Nat → Int} (h : FrmP Y n d B k H) (hq : q < hLen Y) (hql : q < Y.length) (hv : Y[q] ≠ v) : ¬ okF n d B S k (Y.set q v) := by
  rintro ⟨⟨H', h'⟩, -⟩
  obtain ⟨⟨a1, a2, a3⟩, -, a4, a5, -⟩ := h
  obtain ⟨⟨b1, b2, b3⟩, -, b4, b5, -⟩ := h'
  have ha := a4.1
  by_cases h8 : q < 8
  · exact seal8_no (a := 7) (by omega) (by omega) hv a3 b3
  · have e : hLen (Y.set q v) = hLen Y := by
      unfold hLen
      rw [piece_set (by omega)]
    rw [e] at b5
    exact seal16_no (a := hLen Y - 2) (by omega) (by omega) hv (by rw [Nat.sub_add_cancel (by omega)]; exact a5) (by rw [Nat.sub_add_cancel (by omega)]; exact b5)
/-- what Decode and Salvage find in the frames -/
theorem spoilt_tail {d n B c3 c4 S : Nat} {F : Nat → Nat → Int} (h : KP d n B c3 c4 S F) {k p : Nat} {v : UInt8} (hk : k < nBlk S B) (h1 : (frsT d n F S B k).length ≤ p) (h2 : p < (frsT d n F S B (k + 1)).length) (hpl : p < (tlX d n F S B 0).length) (hv : (tlX d n F S B 0)[p] ≠ v) :
    ∃ Z, (tlX d n F S B 0).set p v = gX d n F S B k 0 Z ∧ ¬ okF n d B S k Z := by
  have hb := blkN_bd h.B1 hk
  have hnb := h.nb
  have e1 := h.d4
  have e2 := h.B32
  obtain ⟨H, hF, hc, hl, hH⟩ := frame_back (B := B) (number := k) (tlX d n F S B (k + 1)) hb.1 hb.2.1 e2 (by omega) h.d12 h.n1 h.n4 (by omega) (h.blk hk)
  have hFT : FrmP (tlX d n F S B k) n d B k H := by rw [tl_step hk]; exact hF
  have hLL : hLen (tlX d n F S B k) = (frT d n F S B k).length := by rw [tl_step hk]; exact hl
  have hlen1 : (frsT d n F S B (k + 1)).length = (frsT d n F S B k).length + (frT d n F S B k).length := List.length_append
  have hX : tlX d n F S B 0 = frsT d n F S B k ++ tlX d n F S B k := by
    obtain ⟨Z, hZ⟩ := frs_pre d n F S B k (nBlk S B - k)
    rw [Nat.add_sub_cancel' (Nat.le_of_lt hk)] at hZ
    rw [tl_zero]
    unfold tlX
    rw [hZ, List.drop_left]
  refine ⟨(tlX d n F S B k).set (p - (frsT d n F S B k).length) v, ?_, ?_⟩
  · rw [g_zero, hX, List.set_append_right _ _ h1]
  · have hql : p - (frsT d n F S B k).length < (tlX d n F S B k).length := by
      have : (tlX d n F S B 0).length = (frsT d n F S B k).length + (tlX d n F S B k).length := by rw [hX, List.length_append]
      omega
    refine spoilt_frame hFT (by rw [hLL]; omega) hql ?_
    have : (tlX d n F S B 0)[p] = (tlX d n F S B k)[p - (frsT d n F S B k).length] := by
      simp only [hX]
      rw [List.getElem_append_right h1]
    rw [← this]
    exact hv
end Go.Proofs.YtlncjgnomhpjnabGreatDoor

/-
  'reelkeep' looks where the frames of a stream stand: blocks, headSize, places.
-/
namespace Go.Proofs.YtlncjgnomhpjnabGreatDoor
open Go.RowKit Go.Deep
set_option linter.unusedVariables false
theorem AccI.ext {base : Nat} {u : World} {lv : Value} {nn n : Nat} {gs : Nat → Nat} {G G' : Nat → Nat → Int} (h : AccI base u lv nn n gs G) (he : ∀ i, i < n → ∀ j, j < nn → G i j = G' i j) : AccI base u lv nn n gs G' :=
  ⟨h.own, fun k hk => (h.rows k hk).congr fun j hj => by
    unfold cutV cutI
    rw [if_pos hj, if_pos hj, he k hk j hj], h.far, h.apart⟩
theorem bodyL_pos2 (kind w : Nat) (x : Nat → Int) (n : Nat) (hw : 1 ≤ w) (hn : 1 ≤ n) : 1 ≤ bodyL kind w x n := by
  unfold bodyL
  split
  · exact hw
  · split
    · exact Nat.mul_le_mul hn hw
    · unfold gL cutL
      omega
theorem subT_nine (width : Nat) (l : Nat → Int) (n : Nat) (hw : 1 ≤ width) (hn : 1 ≤ n) : 9 ≤ (subT width l n).length := by
  rw [subT_length]
  have h1 : shiftN l n width ≤ width - 1 := shiftT_le _ _ _
  have := bodyL_pos2 (subKind width l n) (width - shiftN l n width) (shortX l n width) n (by omega) hn
  omega
theorem catS_nine (d n m N : Nat) (l : Nat → Nat → Int) (hd1 : 1 ≤ d) (hd : d ≤ 12) (hN : 1 ≤ N) : ∀ i, 9 * i ≤ (catS d n m N l i).length
  | 0 => Nat.le_refl _
  | i + 1 => by
    have ih := catS_nine d n m N l hd1 hd hN i
    have hw := widN_bd (n := n) (m := m) (i := i) hd1 hd
    have h1 := subT_nine (widN d n m i) (l i) N hw.1 hN
    show _ ≤ (catS d n m N l i ++ subT (widN d n m i) (l i) N).length
    rw [List.length_append]
    omega
theorem frT_twelve {d n B c3 c4 S : Nat} {F : Nat → Nat → Int} (h : KP d n B c3 c4 S F) {k : Nat} (hk : k < nBlk S B) : 12 ≤ (frT d n F S B k).length := by
  have hb := blkN_bd h.B1 hk
  unfold frT
  rw [frameT_length, packT_length, blockT_cat]
  have h1 := h.n1
  have h2 := catS_nine d n (modeN d n (blkF F B k) (blkN S B k)) (blkN S B k) (toldL n (modeN d n (blkF F B k) (blkN S B k)) (blkF F B k)) (by have := h.d4; omega) h.d12 hb.1 n
  omega
set_option maxRecDepth 4000 in
set_option maxHeartbeats 2000000 in
theorem blocks_keep (ch d c3 c4 c5 c6 c7 : Int) (B : Nat) (lv : Value) (n S : Nat) (G : Nat → Nat → Int) (w : World) (hB : 1 ≤ B) (hB2 : B ≤ 32) (hS : S ≤ 300) (hn : 1 ≤ n) (h : ViewL w lv n S G) :
    Calls Tryz.prog 20 #[.agg #[.int .i64 ch, .int .i64 d, .int .i64 B, .int .i64 c3, .int .i64 c4, .int .i64 c5, .int .i64 c6, .int .i64 c7], lv] w fun e w' => e = .returned (.int .i64 (nBlk S B : Nat)) ∧ Below w.heap.size w w' := by
  have hb : Below w.heap.size w (w.alloc (.cells #[.int .i64 ch, .int .i64 d, .int .i64 B, .int .i64 c3, .int .i64 c4, .int .i64 c5, .int .i64 c6, .int .i64 c7] 23)) := (Below.refl _ _).alloc (Nat.le_refl _) _
  obtain ⟨g, c, A, C, rfl, hl, hA, -, -⟩ := h.below (hb.mono (Nat.le_refl _))
  have h0 := hA 0 (by omega)
  have hle := nBlk_le (S := S) hB
  have w1 : IntKind.i64.wrap ((S : Int) + (B : Int)) = (S : Int) + (B : Int) := by rw [IntKind.wrap_i64]; omega
  have w2 : IntKind.i64.wrap ((S : Int) + (B : Int) - 1) = (S : Int) + (B : Int) - 1 := by rw [IntKind.wrap_i64]; omega
  have d0 : ((S : Int) + (B : Int) - 1) / (B : Int) = ((nBlk S B : Nat) : Int) := by
    rw [show (S : Int) + (B : Int) - 1 = ((S + B - 1 : Nat) : Int) by omega]; rfl
  have d1 : ((S : Int) + (B : Int) - 1).tdiv (B : Int) = ((nBlk S B : Nat) : Int) := by
    rw [Int.tdiv_eq_ediv_of_nonneg (by omega)]; exact d0
  have w3 : IntKind.i64.wrap ((nBlk S B : Nat) : Int) = ((nBlk S B : Nat) : Int) := by rw [IntKind.wrap_i64]; omega
  have hz : ((B : Int) == 0) = false := by simp; omega
  have hz2 : ¬ (B : Int) = 0 := by omega
  have hn0 : 0 < n := hn
  have HB := Hid.mk' hb
  have hx : Bx (w.alloc (.cells #[.int .i64 ch, .int .i64 d, .int .i64 B, .int .i64 c3, .int .i64 c4, .int .i64 c5, .int .i64 c6, .int .i64 c7] 23)) w.heap.size 23 #[.int .i64 ch, .int .i64 d, .int .i64 B, .int .i64 c3, .int .i64 c4, .int .i64 c5, .int .i64 c6, .int .i64 c7] := Bx.new _ _ _
  have hS0 : (w.alloc (.cells #[.int .i64 ch, .int .i64 d, .int .i64 B, .int .i64 c3, .int .i64 c4, .int .i64 c5, .int .i64 c6, .int .i64 c7] 23)).drew.cell? ⟨w.heap.size, 2, none⟩ = some (.int .i64 B) ∧ (w.alloc (.cells #[.int .i64 ch, .int .i64 d, .int .i64 B, .int .i64 c3, .int .i64 c4, .int .i64 c5, .int .i64 c6, .int .i64 c7] 23)).drew.cell? ⟨g, 0, none⟩ = some (.slice (A 0) S (C 0)) := ⟨hx.cell 2, h0⟩
  clear hA hb h hx
  generalize A 0 = A0 at *
  generalize C 0 = C0 at *
  generalize nBlk S B = N at *
  go_enter Tryz.func20, Tryz.ntmps20
  go_wp2_with fail
  go_region
  all_goals go_wp2_with fail
  go_ret
  exact ⟨rfl, HB.out.drew⟩
set_option maxRecDepth 4000 in
set_option maxHeartbeats 2000000 in
theorem headSize_keep (ch d B c3 c5 c6 c7 : Int) (c4 N : Nat) (w : World) (hc : c4 < 256) (hN : N ≤ 300) :
    Calls Tryz.prog 35 #[.agg #[.int .i64 ch, .int .i64 d, .int .i64 B, .int .i64 c3, .int .i64 c4, .int .i64 c5, .int .i64 c6, .int .i64 c7], .int .i64 N] w fun e w' => e = .returned (.int .i64 ((22 + 2 * (if c4 = 0 then 0 else nBlk N c4) : Nat) : Int)) ∧ Below w.heap.size w w' := by
  have hb : Below w.heap.size w (w.alloc (.cells #[.int .i64 ch, .int .i64 d, .int .i64 B, .int .i64 c3, .int .i64 c4, .int .i64 c5, .int .i64 c6, .int .i64 c7] 23)) := (Below.refl _ _).alloc (Nat.le_refl _) _
  have HB := Hid.mk' hb
  clear hb
  by_cases h0 : c4 = 0
  · subst h0
    rw [if_pos rfl]
    go_enter Tryz.func35, Tryz.ntmps35
    go_wp2_with fail
    go_ret
    exact ⟨rfl, HB.out⟩
  · rw [if_neg h0]
    have hle := nBlk_le (S := N) (B := c4) (by omega)
    have hx : Bx (w.alloc (.cells #[.int .i64 ch, .int .i64 d, .int .i64 B, .int .i64 c3, .int .i64 c4, .int .i64 c5, .int .i64 c6, .int .i64 c7] 23)) w.heap.size 23 #[.int .i64 ch, .int .i64 d, .int .i64 B, .int .i64 c3, .int .i64 c4, .int .i64 c5, .int .i64 c6, .int .i64 c7] := Bx.new _ _ _
    have hS0 : (w.alloc (.cells #[.int .i64 ch, .int .i64 d, .int .i64 B, .int .i64 c3, .int .i64 c4, .int .i64 c5, .int .i64 c6, .int .i64 c7] 23)).drew.cell? ⟨w.heap.size, 4, none⟩ = some (.int .i64 c4) := hx.cell 4
    have w1 : IntKind.i64.wrap ((N : Int) + (c4 : Int)) = (N : Int) + (c4 : Int) := by rw [IntKind.wrap_i64]; omega
    have w2 : IntKind.i64.wrap ((N : Int) + (c4 : Int) - 1) = (N : Int) + (c4 : Int) - 1 := by rw [IntKind.wrap_i64]; omega
    have d1 : ((N : Int) + (c4 : Int) - 1).tdiv (c4 : Int) = ((nBlk N c4 : Nat) : Int) := by
      rw [Int.tdiv_eq_ediv_of_nonneg (by omega), show (N : Int) + (c4 : Int) - 1 = ((N + c4 - 1 : Nat) : Int) by omega]; rfl
    have w3 : IntKind.i64.wrap ((nBlk N c4 : Nat) : Int) = ((nBlk N c4 : Nat) : Int) := by rw [IntKind.wrap_i64]; omega
    have hz : ((c4 : Int) == 0) = false := by simp; omega
    have hz2 : ¬ (c4 : Int) = 0 := by omega
    generalize nBlk N c4 = M at *
    obtain ⟨m2, hm2⟩ : ∃ m2, m2 = 2 * M := ⟨_, rfl⟩
    obtain ⟨m3, hm3⟩ : ∃ m3, m3 = 22 + m2 := ⟨_, rfl⟩
    have w4 : IntKind.i64.wrap (2 * (M : Int)) = (m2 : Int) := by rw [IntKind.wrap_i64]; omega
    have w5 : IntKind.i64.wrap (22 + (m2 : Int)) = (m3 : Int) := by rw [IntKind.wrap_i64]; omega
    rw [← hm2, ← hm3]
    clear hm2 hm3 hx
    go_enter Tryz.func35, Tryz.ntmps35
    go_wp2_with fail
    go_ret
    exact ⟨rfl, HB.out⟩
end Go.Proofs.YtlncjgnomhpjnabGreatDoor

