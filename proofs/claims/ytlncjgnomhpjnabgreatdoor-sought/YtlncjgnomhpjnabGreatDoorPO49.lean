import Derived.Test.YtlncjgnomhpjnabGreatDoorPO48
/-
  A stream that was made: its length, its head, its sum; what Decode, Salvage and From answer.
-/
namespace Go.Proofs.YtlncjgnomhpjnabGreatDoor
open Go.RowKit Go.Deep
set_option linter.unusedVariables false
/-- frames are short -/
theorem allT_fine (d : Nat) (F : Nat → Nat → Int) (N : Nat) (hN : 1 ≤ N) : ∀ i, (allT d F N i).length ≤ i * (8 + N * d)
  | 0 => by simp [allT]
  | i + 1 => by
    have ih := allT_fine d F N hN i
    have h1 := subT_le d (F i) N hN
    show (allT d F N i ++ subT d (F i) N).length ≤ _
    rw [List.length_append, Nat.add_one_mul]
    omega
theorem bestM_le (T : Nat → List UInt8) : ∀ m j, j < m → (T (bestM T m)).length ≤ (T j).length
  | 0, j, h => absurd h (Nat.not_lt_zero j)
  | m + 1, j, h => by
    unfold bestM
    by_cases e : m = 0 ∨ (T m).length < (T (bestM T m)).length
    · rw [if_pos e]
      by_cases ej : j = m
      · rw [ej]; exact Nat.le_refl _
      · have := bestM_le T m j (by omega)
        rcases e with e | e
        · omega
        · omega
    · rw [if_neg e]
      by_cases ej : j = m
      · rw [ej]; omega
      · exact bestM_le T m j (by omega)
theorem blockT_fine (d n : Nat) (F : Nat → Nat → Int) (N : Nat) (hN : 1 ≤ N) : (blockT d n F N).length ≤ n * (8 + N * d) := by
  unfold blockT
  by_cases h : n = 2
  · rw [if_pos h]
    have h1 := bestM_le (pairT d (F 0) (F 1) N) 4 0 (by omega)
    have h2 : (pairT d (F 0) (F 1) N 0).length ≤ 2 * (8 + N * d) := by
      show (subT d (F 0) N ++ subT d (F 1) N).length ≤ _
      have h3 := subT_le d (F 0) N hN
      have h4 := subT_le d (F 1) N hN
      rw [List.length_append]
      omega
    unfold modeN
    rw [if_pos h]
    rw [h]
    omega
  · rw [if_neg h]
    exact allT_fine d F N hN n
theorem lnF_fine {d n B c3 c4 S : Nat} {F : Nat → Nat → Int} (h : KP d n B c3 c4 S F) {k : Nat} (hk : k < nBlk S B) : lnF d n F S B k ≤ 14 + 6 * blkN S B k := by
  have hb := blkN_bd h.B1 hk
  have h1 := blockT_fine d n (blkF F B k) (blkN S B k) hb.1
  unfold lnF frT
  rw [frameT_length, packT_length]
  generalize (blockT d n (blkF F B k) (blkN S B k)).length = L at *
  generalize blkN S B k = N at *
  have h2 : N * d ≤ N * 12 := Nat.mul_le_mul_left _ h.d12
  have h3 : n * (8 + N * d) ≤ 4 * (8 + N * d) := Nat.mul_le_mul_right _ h.n4
  omega
theorem atN_fine {d n B c3 c4 S : Nat} {F : Nat → Nat → Int} (h : KP d n B c3 c4 S F) : ∀ k, k ≤ nBlk S B → atN (lnF d n F S B) k ≤ 14 * k + 6 * chN B S 0 k
  | 0, _ => by simp [atN]
  | k + 1, hk => by
    have ih := atN_fine h k (by omega)
    have h1 := lnF_fine h (k := k) (by omega)
    show atN (lnF d n F S B) k + lnF d n F S B k ≤ 14 * (k + 1) + 6 * (chN B S 0 k + blkN S B (0 + k))
    rw [Nat.zero_add]
    omega
theorem at_bd {d n B c3 c4 S : Nat} {F : Nat → Nat → Int} (h : KP d n B c3 c4 S F) {k : Nat} (hk : k ≤ nBlk S B) : atN (lnF d n F S B) k ≤ 6000 := by
  have h1 := atN_fine h k hk
  have h2 := chN_le (B := B) (S := S) (k0 := 0) (m := k) h.B1 (by omega)
  have h3 := h.nb
  have h4 := h.S3
  omega
theorem ln_bd {d n B c3 c4 S : Nat} {F : Nat → Nat → Int} (h : KP d n B c3 c4 S F) {k : Nat} (hk : k < nBlk S B) : lnF d n F S B k ≤ 222 := (lnF_bd d n F S B k h.d12 h.n1 h.n4 h.B1 h.B32 hk).2
theorem pts_bd {d n B c3 c4 S : Nat} {F : Nat → Nat → Int} (h : KP d n B c3 c4 S F) {p : Nat} (hp : p ∈ pntN (lnF d n F S B) c4 (nBlk S B)) : p ≤ 6000 := by
  obtain ⟨i, hi, rfl⟩ := pnt_mem _ _ hp
  exact at_bd h (Nat.le_of_lt hi)
theorem np_bd (S B s : Nat) (hB : 1 ≤ B) : nPts S B s ≤ nBlk S B := by
  unfold nPts
  by_cases h : s = 0
  · rw [if_pos h]; exact Nat.zero_le _
  · rw [if_neg h]; exact nBlk_le (by omega)
/-- the head of the stream -/
structure HdIs (T : List UInt8) (d n B c3 c4 S : Nat) (F : Nat → Nat → Int) : Prop where
  wh : dWh T = 1
  ch : dCh T = n
  de : dDe T = d
  bl : dBl T = B
  ra : dRa T = c3
  sa : dSa T = S
  se : dSe T = c4
  le : dLe T = leastN (lnF d n F S B) (nBlk S B)
  mo : dMo T = mostN (lnF d n F S B) (nBlk S B)
  su : dSu T = sumN (intT n F (2 * (S * n)))
theorem stream_head {d n B c3 c4 S : Nat} {F : Nat → Nat → Int} (h : KP d n B c3 c4 S F) : HdIs (streamT d n B c3 c4 F S) d n B c3 c4 S F := by
  have h1 := h.d12
  have h2 := h.n4
  have h3 := h.B32
  have h4 := h.S3
  have hle := leastN_bd (ln := lnF d n F S B) (m := 222) (nBlk S B) (fun i hi => ln_bd h hi)
  have hmo := mostN_bd (ln := lnF d n F S B) (m := 222) (nBlk S B) (fun i hi => ln_bd h hi)
  obtain ⟨a1, a2, a3, a4, a5, a6, a7, a8, a9, a10⟩ := headTx_all 1 n d B c3 S c4 (leastN (lnF d n F S B) (nBlk S B)) (mostN (lnF d n F S B) (nBlk S B)) (sumN (intT n F (2 * (S * n)))) (pntN (lnF d n F S B) c4 (nBlk S B)) (frsT d n F S B (nBlk S B)) (by omega) (by omega) (by omega) (by omega) h.c3b (by omega) h.c4b (by omega) (by omega) (sumN_lt _)
  exact ⟨a1, a2, a3, a4, a5, a6, a7, a8, a9, a10⟩
theorem HdIs.np {T : List UInt8} {d n B c3 c4 S : Nat} {F : Nat → Nat → Int} (h : HdIs T d n B c3 c4 S F) : dNp T = nPts S B c4 := by
  unfold dNp
  rw [h.sa, h.bl, h.se]
theorem HdIs.sz {T : List UInt8} {d n B c3 c4 S : Nat} {F : Nat → Nat → Int} (h : HdIs T d n B c3 c4 S F) : dSz T = 22 + 2 * nPts S B c4 := by
  unfold dSz
  rw [h.np]
theorem head_len (d n B c3 c4 S : Nat) (F : Nat → Nat → Int) : (headTx 1 n d B c3 S c4 (leastN (lnF d n F S B) (nBlk S B)) (mostN (lnF d n F S B) (nBlk S B)) (sumN (intT n F (2 * (S * n)))) (pntN (lnF d n F S B) c4 (nBlk S B))).length = 22 + 2 * nPts S B c4 := by
  rw [headTx_length, pntN_size]
theorem stream_take {d n B c3 c4 S : Nat} {F : Nat → Nat → Int} (h : KP d n B c3 c4 S F) : (streamT d n B c3 c4 F S).take (dSz (streamT d n B c3 c4 F S)) = headTx 1 n d B c3 S c4 (leastN (lnF d n F S B) (nBlk S B)) (mostN (lnF d n F S B) (nBlk S B)) (sumN (intT n F (2 * (S * n)))) (pntN (lnF d n F S B) c4 (nBlk S B)) := by
  rw [(stream_head h).sz, ← head_len d n B c3 c4 S F]
  exact List.take_left
theorem stream_drop {d n B c3 c4 S : Nat} {F : Nat → Nat → Int} (h : KP d n B c3 c4 S F) : (streamT d n B c3 c4 F S).drop (dSz (streamT d n B c3 c4 F S)) = tlX d n F S B 0 := by
  rw [(stream_head h).sz, ← head_len d n B c3 c4 S F]
  exact List.drop_left
theorem stream_len {d n B c3 c4 S : Nat} {F : Nat → Nat → Int} (h : KP d n B c3 c4 S F) : (streamT d n B c3 c4 F S).length = 22 + 2 * nPts S B c4 + (frsT d n F S B (nBlk S B)).length := by
  unfold streamT
  rw [List.length_append, head_len]
theorem stream_short {d n B c3 c4 S : Nat} {F : Nat → Nat → Int} (h : KP d n B c3 c4 S F) : (streamT d n B c3 c4 F S).length ≤ 9000 := by
  rw [stream_len h, ← atN_frs]
  have h1 := at_bd h (Nat.le_refl (nBlk S B))
  have h2 := np_bd S B c4 h.B1
  have h3 := h.nb
  omega
theorem stream_pts {d n B c3 c4 S : Nat} {F : Nat → Nat → Int} (h : KP d n B c3 c4 S F) : dPts (streamT d n B c3 c4 F S) = pntN (lnF d n F S B) c4 (nBlk S B) := by
  have hl := pntN_size (lnF d n F S B) S B c4
  unfold dPts
  rw [(stream_head h).np]
  refine List.ext_getElem (by rw [List.length_map, List.length_range, hl]) fun i h1 h2 => ?_
  rw [List.getElem_map, List.getElem_range]
  have hp : (pntN (lnF d n F S B) c4 (nBlk S B))[i] < 65536 := by
    have := pts_bd h (List.getElem_mem h2)
    omega
  have := headTx_pt 1 n d B c3 S c4 (leastN (lnF d n F S B) (nBlk S B)) (mostN (lnF d n F S B) (nBlk S B)) (sumN (intT n F (2 * (S * n)))) (pntN (lnF d n F S B) c4 (nBlk S B)) i h2 hp
  rw [← this]
  unfold fld streamT
  rw [piece_left _ _ _ _ (by omega) (by rw [head_len]; omega)]
theorem stream_hd {d n B c3 c4 S : Nat} {F : Nat → Nat → Int} (h : KP d n B c3 c4 S F) : HdP (streamT d n B c3 c4 F S) := by
  have hh := stream_head h
  have hl := stream_len h
  have b1 := h.d4
  have b2 := h.d12
  have b3 := h.n1
  have b4 := h.n4
  have b5 := h.B1
  have b6 := h.B32
  have b7 := h.c3b
  have b8 := h.c4b
  have b9 := h.S3
  refine ⟨by omega, by rw [hh.wh]; exact Nat.le_refl _, ?_, by rw [hh.sz]; omega, ?_, fun h0 => by rw [hh.wh] at h0; cases h0⟩
  · rw [hh.ch, hh.de, hh.bl, hh.ra, hh.se, hh.sa]
    simp only [infoB, Bool.and_eq_true, within_iff]
    omega
  · rw [stream_take h]
    unfold dTx
    rw [hh.wh, hh.ch, hh.de, hh.bl, hh.ra, hh.sa, hh.se, hh.le, hh.mo, hh.su, stream_pts h]
theorem leastN_ext {f g : Nat → Nat} : ∀ k, (∀ i, i < k → f i = g i) → leastN f k = leastN g k
  | 0, _ => rfl
  | k + 1, h => by
    unfold leastN
    rw [leastN_ext k (fun i hi => h i (by omega)), h k (by omega)]
theorem mostN_ext {f g : Nat → Nat} : ∀ k, (∀ i, i < k → f i = g i) → mostN f k = mostN g k
  | 0, _ => rfl
  | k + 1, h => by
    unfold mostN
    rw [mostN_ext k (fun i hi => h i (by omega)), h k (by omega)]
theorem atN_ext {f g : Nat → Nat} : ∀ k, (∀ i, i < k → f i = g i) → atN f k = atN g k
  | 0, _ => rfl
  | k + 1, h => by
    unfold atN
    rw [atN_ext k (fun i hi => h i (by omega)), h k (by omega)]
theorem pntN_ext {f g : Nat → Nat} {s : Nat} : ∀ k, (∀ i, i < k → f i = g i) → pntN f s k = pntN g s k
  | 0, _ => rfl
  | k + 1, h => by
    unfold pntN
    rw [pntN_ext k (fun i hi => h i (by omega)), atN_ext k (fun i hi => h i (by omega))]
theorem stream_run {d n B c3 c4 S : Nat} {F : Nat → Nat → Int} (h : KP d n B c3 c4 S F) : RunIs (dCh (streamT d n B c3 c4 F S)) (dDe (streamT d n B c3 c4 F S)) (dBl (streamT d n B c3 c4 F S)) (dSa (streamT d n B c3 c4 F S)) 0 ((streamT d n B c3 c4 F S).drop (dSz (streamT d n B c3 c4 F S))) (nBlk S B) := by
  have hh := stream_head h
  rw [hh.ch, hh.de, hh.bl, hh.sa, stream_drop h]
  have := tl_run h (Nat.zero_le (nBlk S B))
  rwa [Nat.sub_zero] at this
theorem stream_all {d n B c3 c4 S : Nat} {F : Nat → Nat → Int} (h : KP d n B c3 c4 S F) : AllP (streamT d n B c3 c4 F S) := by
  have hh := stream_head h
  have hx : ∀ i, i < nBlk S B → lnF d n F S B i = lnX (tlX d n F S B 0) i := fun i hi => by
    have := tl_ln h (k0 := 0) (j := i) (by omega)
    rw [Nat.zero_add] at this
    exact this.symm
  refine ⟨nBlk S B, stream_run h, by rw [hh.sa, hh.bl], ?_, ?_, ?_, ?_⟩
  · rw [stream_drop h]
    have := tl_off h (Nat.zero_le (nBlk S B))
    rwa [Nat.sub_zero] at this
  · rw [hh.le, stream_drop h]
    exact leastN_ext _ hx
  · rw [hh.mo, stream_drop h]
    exact mostN_ext _ hx
  · rw [stream_pts h, stream_drop h, hh.se]
    exact pntN_ext _ hx
theorem stream_smp {d n B c3 c4 S : Nat} {F : Nat → Nat → Int} (h : KP d n B c3 c4 S F) {c j : Nat} (hc : c < n) (hj : j < S) : dSmp (streamT d n B c3 c4 F S) c j = F c j := by
  have hh := stream_head h
  unfold dSmp
  rw [hh.ch, hh.de, hh.bl, hh.sa, stream_drop h, tl_smp h hc (by omega) (by rw [chN_whole h.B1 (by omega) (by omega)]; omega), Nat.zero_mul, Nat.zero_add]
theorem intT_ext {n S : Nat} {F G : Nat → Nat → Int} (hn : 1 ≤ n) (h : ∀ c, c < n → ∀ j, j < S → F c j = G c j) : intT n F (2 * (S * n)) = intT n G (2 * (S * n)) := by
  unfold intT
  refine List.map_congr_left fun i hi => ?_
  rw [List.mem_range] at hi
  unfold intB
  have h1 : i / 2 / n < S := by
    have : i / 2 < S * n := by omega
    exact Nat.div_lt_of_lt_mul (by rw [Nat.mul_comm]; exact this)
  rw [h _ (Nat.mod_lt _ hn) _ h1]
theorem stream_sum {d n B c3 c4 S : Nat} {F : Nat → Nat → Int} (h : KP d n B c3 c4 S F) : SumP (streamT d n B c3 c4 F S) := by
  have hh := stream_head h
  unfold SumP
  rw [hh.su, hh.sa, hh.ch, intT_ext h.n1 (fun c hc j hj => (stream_smp h hc hj).symm)]
/-- Decode answers with the sound -/
theorem stream_dec {d n B c3 c4 S : Nat} {F : Nat → Nat → Int} (h : KP d n B c3 c4 S F) : decE (streamT d n B c3 c4 F S) = 0 := by
  unfold decE
  rw [if_pos (stream_short h), if_pos ⟨stream_hd h, (stream_head h).wh⟩, if_pos (stream_all h), if_pos (stream_sum h)]
/-- From answers with the samples from a place on -/
theorem stream_stB {d n B c3 c4 S a : Nat} {F : Nat → Nat → Int} (h : KP d n B c3 c4 S F) (ha : a < S) : stB (streamT d n B c3 c4 F S) a = (frsT d n F S B (stN (streamT d n B c3 c4 F S) a)).length := by
  have hh := stream_head h
  unfold stB stN
  rw [hh.se, hh.bl]
  by_cases h0 : c4 = 0
  · rw [if_pos h0, if_pos h0]; rfl
  · rw [if_neg h0, if_neg h0, stream_pts h, pntN_all _ (by omega), List.getD_eq_getElem?_getD, List.getElem?_map]
    have h1 : a / B < nBlk S B := (nBlk_lt h.B1).2 (Nat.lt_of_le_of_lt (Nat.div_mul_le_self _ _) ha)
    have h2 : a / B / c4 < nBlk (nBlk S B) c4 := (nBlk_lt (by omega)).2 (Nat.lt_of_le_of_lt (Nat.div_mul_le_self _ _) h1)
    rw [List.getElem?_range h2]
    show atN (lnF d n F S B) (a / B / c4 * c4) = _
    exact atN_frs _ _ _ _ _ _
theorem stream_from {d n B c3 c4 S a : Nat} {F : Nat → Nat → Int} (h : KP d n B c3 c4 S F) (ha : a < S) : (streamT d n B c3 c4 F S).drop (dSz (streamT d n B c3 c4 F S) + stB (streamT d n B c3 c4 F S) a) = tlX d n F S B (stN (streamT d n B c3 c4 F S) a) := by
  rw [← List.drop_drop, stream_drop h, tl_zero, stream_stB h ha]
  rfl
theorem stream_frm {d n B c3 c4 S a : Nat} {F : Nat → Nat → Int} (h : KP d n B c3 c4 S F) (ha : a ≤ S) : frmE (streamT d n B c3 c4 F S) a = 0 := by
  have hh := stream_head h
  unfold frmE
  rw [if_pos (stream_short h), if_pos ⟨stream_hd h, hh.wh⟩, hh.sa, if_pos ⟨by omega, by omega⟩, if_pos]
  by_cases he : a = S
  · left; omega
  · right
    rw [Int.toNat_natCast]
    have hk : stN (streamT d n B c3 c4 F S) a < nBlk S B := by
      have := stN_lt (T := streamT d n B c3 c4 F S) (a := a) (by rw [hh.bl]; exact h.B1) (by rw [hh.sa]; omega)
      rwa [hh.sa, hh.bl] at this
    refine ⟨?_, nBlk S B - stN (streamT d n B c3 c4 F S) a, ?_, ?_, ?_⟩
    · rw [stream_stB h (by omega), hh.sz, stream_len h]
      obtain ⟨Z, hZ⟩ := frs_pre d n F S B (stN (streamT d n B c3 c4 F S) a) (nBlk S B - stN (streamT d n B c3 c4 F S) a)
      rw [Nat.add_sub_cancel' (Nat.le_of_lt hk)] at hZ
      rw [hZ, List.length_append]
      omega
    · rw [stream_from h (by omega), hh.ch, hh.de, hh.bl, hh.sa]
      exact tl_run h (Nat.le_of_lt hk)
    · rw [hh.sa, hh.bl]; omega
    · rw [stream_from h (by omega)]
      exact tl_off h (Nat.le_of_lt hk)
theorem stream_frmS {d n B c3 c4 S a : Nat} {F : Nat → Nat → Int} (h : KP d n B c3 c4 S F) (ha : a < S) {c j : Nat} (hc : c < n) (hj : j < S - a) : frmS (streamT d n B c3 c4 F S) a c j = F c (a + j) := by
  have hh := stream_head h
  have hka := stN_le (streamT d n B c3 c4 F S) a
  have hk : stN (streamT d n B c3 c4 F S) a < nBlk S B := by
    have := stN_lt (T := streamT d n B c3 c4 F S) (a := a) (by rw [hh.bl]; exact h.B1) (by rw [hh.sa]; omega)
    rwa [hh.sa, hh.bl] at this
  unfold frmS
  rw [stream_from h ha]
  rw [hh.bl] at hka
  rw [hh.ch, hh.de, hh.bl, hh.sa]
  generalize stN (streamT d n B c3 c4 F S) a = k at *
  rw [tl_smp h hc (by omega) (by rw [chN_whole h.B1 (by omega) (by omega)]; omega)]
  congr 1
  omega
end Go.Proofs.YtlncjgnomhpjnabGreatDoor

/-
  The program reads from a place on: stream.From, the frames.
-/
namespace Go.Proofs.YtlncjgnomhpjnabGreatDoor
open Go.RowKit Go.Deep
set_option linter.unusedVariables false
/-- what lies in memory when the frames are read -/
structure FrmI (T X : List UInt8) (kk : Nat) (w wx : World) (H g gl m : Nat) (la : Option Addr) (lc : Nat) (pa : Option Addr) (pc : Nat) (bf : Bool) : Prop where
  flag : bf = true ↔ (kk + m = nBlk (dSa T) (dBl T) ∧ offX X m = X.length)
  hd : Bx wx H 110 #[.int .i64 (dCh T), .int .i64 (dDe T), .int .i64 (dBl T), .int .i64 (dRa T), .int .i64 (dSe T), .int .i64 (dSa T), .bool true, .int .i64 (dLe T), .int .i64 (dMo T), .int .i64 (dSu T), .slice pa (dNp T) pc]
  r : Bx wx g 117 #[(.slice (some ⟨gl, 0, none⟩) (dCh T) (dCh T)), .slice la m lc, .bool bf]
  run : RunIs (dCh T) (dDe T) (dBl T) (dSa T) kk X m
  rows : RowsL w.heap.size wx (.slice (some ⟨gl, 0, none⟩) (dCh T) (dCh T)) (dCh T) (chN (dBl T) (dSa T) kk m) (smpL (dCh T) (dDe T) (dBl T) (dSa T) kk X m)
  below : Below w.heap.size w wx
/-- r lies behind what was read -/
theorem frmI_one {T X : List UInt8} {kk : Nat} {w U u2 : World} {H gl m : Nat} {la : Option Addr} {lc : Nat} {pa : Option Addr} {pc : Nat} {bf : Bool} (hfl : bf = true ↔ (kk + m = nBlk (dSa T) (dBl T) ∧ offX X m = X.length)) (hh : Bx U H 110 #[.int .i64 (dCh T), .int .i64 (dDe T), .int .i64 (dBl T), .int .i64 (dRa T), .int .i64 (dSe T), .int .i64 (dSa T), .bool true, .int .i64 (dLe T), .int .i64 (dMo T), .int .i64 (dSu T), .slice pa (dNp T) pc]) (hb0 : Below w.heap.size w U)
    (hr : RunIs (dCh T) (dDe T) (dBl T) (dSa T) kk X m) (hrow : RowsL U.drew.heap.size u2 (.slice (some ⟨gl, 0, none⟩) (dCh T) (dCh T)) (dCh T) (chN (dBl T) (dSa T) kk m) (smpL (dCh T) (dDe T) (dBl T) (dSa T) kk X m)) (hb : Below U.drew.heap.size U.drew u2) :
    FrmI T X kk w (u2.alloc (.cells #[(.slice (some ⟨gl, 0, none⟩) (dCh T) (dCh T)), .slice la m lc, .bool bf] 117)) H u2.heap.size gl m la lc pa pc bf := by
  have hb' : Below U.heap.size U u2 := ⟨hb.os, hb.tape, hb.output, hb.size, hb.block⟩
  have hs : w.heap.size ≤ U.drew.heap.size := hb0.size
  exact ⟨hfl, (hh.below hb').alloc _, Bx.new _ _ _, hr, (hrow.mono hs).below ((Below.refl _ _).alloc (Nat.le_refl _) _), (hb0.trans (hb'.mono hb0.size)).alloc (Nat.le_trans hb0.size hb'.size) _⟩
/-- r lies ahead of what was read -/
theorem frmI_two {T X : List UInt8} {kk : Nat} {w U u2 : World} {H gl m : Nat} {la : Option Addr} {lc : Nat} {pa : Option Addr} {pc : Nat} {bf : Bool} (hfl : bf = true ↔ (kk + m = nBlk (dSa T) (dBl T) ∧ offX X m = X.length)) (hh : Bx U H 110 #[.int .i64 (dCh T), .int .i64 (dDe T), .int .i64 (dBl T), .int .i64 (dRa T), .int .i64 (dSe T), .int .i64 (dSa T), .bool true, .int .i64 (dLe T), .int .i64 (dMo T), .int .i64 (dSu T), .slice pa (dNp T) pc]) (hb0 : Below w.heap.size w U)
    (hr : RunIs (dCh T) (dDe T) (dBl T) (dSa T) kk X m) (hrow : RowsL (U.alloc (.cells #[.slice none 0 0, .slice none 0 0, .bool false] 117)).drew.heap.size u2 (.slice (some ⟨gl, 0, none⟩) (dCh T) (dCh T)) (dCh T) (chN (dBl T) (dSa T) kk m) (smpL (dCh T) (dDe T) (dBl T) (dSa T) kk X m)) (hb : Below (U.alloc (.cells #[.slice none 0 0, .slice none 0 0, .bool false] 117)).drew.heap.size (U.alloc (.cells #[.slice none 0 0, .slice none 0 0, .bool false] 117)).drew u2) :
    FrmI T X kk w (((u2.setCell ⟨U.heap.size, 0, none⟩ (.slice (some ⟨gl, 0, none⟩) (dCh T) (dCh T))).setCell ⟨U.heap.size, 1, none⟩ (.slice la m lc)).setCell ⟨U.heap.size, 2, none⟩ (.bool bf)) H U.heap.size gl m la lc pa pc bf := by
  have hA : (U.alloc (.cells #[.slice none 0 0, .slice none 0 0, .bool false] 117)).drew.heap.size = U.heap.size + 1 := by simp
  have hb' : Below U.heap.size U u2 := ((Below.refl _ _).alloc (Nat.le_refl _) _ : Below U.heap.size U (U.alloc (.cells #[.slice none 0 0, .slice none 0 0, .bool false] 117))).trans ((⟨hb.os, hb.tape, hb.output, hb.size, hb.block⟩ : Below (U.alloc (.cells #[.slice none 0 0, .slice none 0 0, .bool false] 117)).heap.size (U.alloc (.cells #[.slice none 0 0, .slice none 0 0, .bool false] 117)) u2).mono (by simp))
  have hs := hb0.size
  have hu := hb.size
  rw [hA] at hu
  have hg := set3_grown u2 U.heap.size (.slice (some ⟨gl, 0, none⟩) (dCh T) (dCh T)) (.slice la m lc) (.bool bf)
  have hhl := hh.lt
  have hne : ∀ k, k ≠ U.heap.size → some k ≠ some U.heap.size := fun k h e => h (by injection e)
  refine ⟨hfl, (hh.below hb').of (hg.block _ (by omega) (hne _ (by omega))), ?_, hr, ?_, ?_⟩
  · exact ((Bx.new U _ _).below (⟨hb.os, hb.tape, hb.output, hb.size, hb.block⟩ : Below (U.alloc (.cells #[.slice none 0 0, .slice none 0 0, .bool false] 117)).heap.size (U.alloc (.cells #[.slice none 0 0, .slice none 0 0, .bool false] 117)) u2)).set3 _ _ _
  · exact (hrow.grown hg (by omega)).mono (by omega)
  · exact (hb0.trans (hb'.mono hb0.size)).grown hg (Nat.le_trans hb0.size hb'.size) (fun k hk => by injection hk with hk; omega)
set_option maxRecDepth 4000 in
set_option maxHeartbeats 2000000 in
/-- the frame would stand beyond the text -/
theorem streamFrom_short (T : List UInt8) (a : Nat) (w : World) (hs : T.length ≤ 9000) (hp : HdP T) (hw : dWh T = 1) (ha : a < dSa T) (hB : T.length - dSz T < stB T a) (hB2 : stB T a ≤ 1000000) :
    Calls Tryz.prog 37 #[.string (bs T), .int .i64 a] w fun e w' => FrmAns e w w' T a := by
  obtain ⟨b1, b2, b3, b4, b5, b6, b7, b8, b9, b10, b11⟩ := hd_bd hp
  have hz : (bs T).size = T.length := bs_size T
  have HHR := Hid.mk' (fun u => headRead_any T u hs)
  have HWI := Hid.mk' (fun u => within_any a 0 (dSa T) u)
  have hwf : within a 0 (dSa T) = true := by
    rw [within_iff]
    omega
  rw [hwf] at HWI
  have HSA := Hid.mk' (fun (u : World) (pv : Value) (base : Nat) ho => start_any T a pv base u hp ha ho)
  unfold hdC at HSA
  have n1 : ¬ (a : Int) = (dSa T : Int) := by omega
  have n2 : ((a : Int) == (dSa T : Int)) = false := beq_eq_false_iff_ne.2 n1
  have n3 : ¬ a = dSa T := by omega
  have HBAD : Hid (∀ w', Below w.heap.size w w' → FrmAns (.returned (.tuple #[.slice none 0 0, .int .i64 6])) w w' T a) := fun w' hb => frm_bad 6 (by omega) (by
    unfold frmE
    rw [if_pos hs, if_pos ⟨hp, hw⟩, if_pos ⟨by omega, by omega⟩, if_neg]
    rintro (h | ⟨h, -⟩)
    · omega
    · rw [Int.toNat_natCast] at h; omega) hb
  have HY := Hid.mk' hp
  have HW : Hid (decide (dWh T = 1) = true) := decide_eq_true hw
  clear hp hw hwf
  generalize stB T a = bb at *
  generalize stN T a = kk at *
  have w1 : IntKind.i64.wrap ((T.length : Int) - (dSz T : Int)) = ((T.length - dSz T : Nat) : Int) := by rw [IntKind.wrap_i64]; omega
  have q1 : ((T.length - dSz T : Nat) : Int) < (bb : Int) := by omega
  generalize T.length - dSz T = rest at *
  generalize bs T = SB at *
  go_enter Tryz.func37, Tryz.ntmps37
  go_wp2_with (first
    | (go_at_call 69; refine (HHR.out _).mono ?_; intro e u1 ho; obtain ⟨pa, pc, rfl, hown, hb⟩ := ho.yes HY.out HW.out; have HB1 := Hid.mk' hb; have HO1 := Hid.mk' hown; clear HHR ho hb hown)
    | (go_at_call 70; refine (HWI.out _).mono ?_; rintro e u2 ⟨rfl, hw⟩; subst u2; clear HWI)
    | (go_at_call 71; refine (HSA.out _ _ _ (HO1.out.alloc _)).mono ?_; rintro e u3 ⟨rfl, hb⟩; have HB3 := Hid.mk' hb; clear HSA hb))
  go_ret2
  exact HBAD.out _ ((HB1.out.alloc HB1.out.size _).trans (HB3.out.mono (HB1.out.alloc HB1.out.size _).size))
set_option maxRecDepth 4000 in
set_option maxHeartbeats 2000000 in
theorem streamFrom_rest (T : List UInt8) (a : Nat) (w : World) (hs : T.length ≤ 9000) (hp : HdP T) (hw : dWh T = 1) (ha : a < dSa T) (hB : stB T a ≤ T.length - dSz T) (hT : TabsU w) :
    Calls Tryz.prog 37 #[.string (bs T), .int .i64 a] w fun e w' => FrmAns e w w' T a := by
  obtain ⟨b1, b2, b3, b4, b5, b6, b7, b8, b9, b10, b11⟩ := hd_bd hp
  have hz : (bs T).size = T.length := bs_size T
  have HHR := Hid.mk' (fun u => headRead_any T u hs)
  have HWI := Hid.mk' (fun u => within_any a 0 (dSa T) u)
  have hwf : within a 0 (dSa T) = true := by
    rw [within_iff]
    omega
  rw [hwf] at HWI
  have HSA := Hid.mk' (fun (u : World) (pv : Value) (base : Nat) ho => start_any T a pv base u hp ha ho)
  unfold hdC at HSA
  have n1 : ¬ (a : Int) = (dSa T : Int) := by omega
  have n2 : ((a : Int) == (dSa T : Int)) = false := beq_eq_false_iff_ne.2 n1
  have n3 : ¬ a = dSa T := by omega
  have hkl := stN_lt b5 ha
  have hka := stN_le T a
  have HFR := Hid.mk' (fun (u : World) (hu : Below w.heap.size w u) => readFrames_any (dCh T) (dDe T) (dBl T) (dRa T) (dSe T) (dSa T) (stN T a) (T.drop (dSz T + stB T a)) u b3 b4 b1 b2 b5 b6 b7 (Nat.le_of_lt hkl) (by rw [List.length_drop]; omega) (hT.below hu))
  have HOK : Hid (∀ (m g nn : Nat) (bk ofs cs : Nat → Nat) (w' : World), RunIs (dCh T) (dDe T) (dBl T) (dSa T) (stN T a) (T.drop (dSz T + stB T a)) m → stN T a + m = nBlk (dSa T) (dBl T) → offX (T.drop (dSz T + stB T a)) m = (T.drop (dSz T + stB T a)).length → nn = chN (dBl T) (dSa T) (stN T a) m → CutI w.heap.size w' g (dCh T) nn (a - stN T a * dBl T) (dCh T) bk ofs cs (smpL (dCh T) (dDe T) (dBl T) (dSa T) (stN T a) (T.drop (dSz T + stB T a)) m) → Below w.heap.size w w' → FrmAns (.returned (.tuple #[.slice (some ⟨g, 0, none⟩) (dCh T) (dCh T), .int .i64 0])) w w' T a) := fun m g nn bk ofs cs w' h1 h2 h3 h4 h5 h6 => by
    refine ⟨.inl ⟨?_, _, rfl, ?_⟩, h6⟩
    · unfold frmE
      rw [if_pos hs, if_pos ⟨hp, hw⟩, if_pos ⟨by omega, by omega⟩, if_pos]
      right
      rw [Int.toNat_natCast]
      exact ⟨by omega, m, h1, h2, h3⟩
    · rw [Int.toNat_natCast]
      exact cut_frm b5 ha h2 h4 h5
  have HBAD : Hid (∀ (m : Nat) (w' : World), RunIs (dCh T) (dDe T) (dBl T) (dSa T) (stN T a) (T.drop (dSz T + stB T a)) m → ¬ (stN T a + m = nBlk (dSa T) (dBl T) ∧ offX (T.drop (dSz T + stB T a)) m = (T.drop (dSz T + stB T a)).length) → Below w.heap.size w w' → FrmAns (.returned (.tuple #[.slice none 0 0, .int .i64 6])) w w' T a) := fun m w' h1 h2 hb => frm_bad 6 (by omega) (by
    unfold frmE
    rw [if_pos hs, if_pos ⟨hp, hw⟩, if_pos ⟨by omega, by omega⟩, if_neg]
    rintro (h | ⟨-, m', h3, h4⟩)
    · omega
    · rw [Int.toNat_natCast] at h3 h4
      rw [h3.uniq h1] at h4
      exact h2 h4) hb
  have HCW : Hid (∀ m, stN T a + m = nBlk (dSa T) (dBl T) → chN (dBl T) (dSa T) (stN T a) m = dSa T - stN T a * dBl T) := fun m hm => chN_whole b5 hm (by omega)
  have hkb : stN T a ≤ 300 := by have := nBlk_le (S := dSa T) (B := dBl T) b5; omega
  have HY := Hid.mk' hp
  have HW : Hid (decide (dWh T = 1) = true) := decide_eq_true hw
  have eS : (bs T).extract (dSz T + stB T a) T.length = bs (T.drop (dSz T + stB T a)) := by
    rw [bs_cut', List.take_of_length_le (by rw [List.length_drop]; exact Nat.le_refl _)]
  clear hp hw hwf hT hkl
  have hdb := stB T a
  generalize stB T a = bb at *
  generalize stN T a = kk at *
  have w1 : IntKind.i64.wrap ((T.length : Int) - (dSz T : Int)) = ((T.length - dSz T : Nat) : Int) := by rw [IntKind.wrap_i64]; omega
  have w2 : IntKind.i64.wrap ((dSz T : Int) + (bb : Int)) = ((dSz T + bb : Nat) : Int) := by rw [IntKind.wrap_i64]; omega
  have q1 : ¬ ((T.length - dSz T : Nat) : Int) < (bb : Int) := by omega
  have q2 : ((dSz T + bb : Nat) : Int) ≤ (T.length : Int) := by omega
  generalize T.drop (dSz T + bb) = X at *
  have HE : Hid (dSz T + bb ≤ T.length) := by show _ ≤ _; omega
  generalize hpl : dSz T + bb = pl at *
  clear hpl
  generalize T.length - dSz T = rest at *
  generalize bs X = SX at *
  generalize bs T = SB at *
  go_enter Tryz.func37, Tryz.ntmps37
  go_wp2_with (first
    | (go_at_call 69; refine (HHR.out _).mono ?_; intro e u1 ho; obtain ⟨pa, pc, rfl, hown, hb⟩ := ho.yes HY.out HW.out; have HB1 := Hid.mk' hb; have HO1 := Hid.mk' hown; clear HHR ho hb hown)
    | (go_at_call 70; refine (HWI.out _).mono ?_; rintro e u2 ⟨rfl, hw⟩; subst u2; clear HWI)
    | (go_at_call 71; refine (HSA.out _ _ _ (HO1.out.alloc _)).mono ?_; rintro e u3 ⟨rfl, hb⟩; have HB3 := Hid.mk' hb; clear HSA hb))
  have HHU := Hid.mk' ((Bx.new u1 #[.int .i64 (dCh T), .int .i64 (dDe T), .int .i64 (dBl T), .int .i64 (dRa T), .int .i64 (dSe T), .int .i64 (dSa T), .bool true, .int .i64 (dLe T), .int .i64 (dMo T), .int .i64 (dSu T), .slice pa (dNp T) pc] 110).below HB3.out)
  have HBU := Hid.mk' ((HB1.out.alloc HB1.out.size (.cells #[.int .i64 (dCh T), .int .i64 (dDe T), .int .i64 (dBl T), .int .i64 (dRa T), .int .i64 (dSe T), .int .i64 (dSa T), .bool true, .int .i64 (dLe T), .int .i64 (dMo T), .int .i64 (dSu T), .slice pa (dNp T) pc] 110)).trans (HB3.out.mono (HB1.out.alloc HB1.out.size _).size))
  clear HB1 HO1 HB3
  generalize u1.heap.size = H at *
  generalize u3 = U at *
  clear u1
  go_cut [11] (fun s8 wx => ∃ g gl m la lc bf, s8 = .pointer (some ⟨g, 0, none⟩) ∧ Hid (FrmI T X kk w wx H g gl m la lc pa pc bf))
  case first =>
    have hS0 : H < U.drew.heap.size ∧ U.drew.cell? ⟨H, 0, none⟩ = some (.int .i64 (dCh T)) ∧ U.drew.cell? ⟨H, 1, none⟩ = some (.int .i64 (dDe T)) ∧ U.drew.cell? ⟨H, 2, none⟩ = some (.int .i64 (dBl T)) ∧ U.drew.cell? ⟨H, 3, none⟩ = some (.int .i64 (dRa T)) ∧ U.drew.cell? ⟨H, 4, none⟩ = some (.int .i64 (dSe T)) ∧ U.drew.cell? ⟨H, 5, none⟩ = some (.int .i64 (dSa T)) := ⟨HHU.out.lt, HHU.out.cell 0, HHU.out.cell 1, HHU.out.cell 2, HHU.out.cell 3, HHU.out.cell 4, HHU.out.cell 5⟩
    have hSA : H < (U.alloc (.cells #[.slice none 0 0, .slice none 0 0, .bool false] 117)).drew.heap.size ∧ (U.alloc (.cells #[.slice none 0 0, .slice none 0 0, .bool false] 117)).drew.cell? ⟨H, 0, none⟩ = some (.int .i64 (dCh T)) ∧ (U.alloc (.cells #[.slice none 0 0, .slice none 0 0, .bool false] 117)).drew.cell? ⟨H, 1, none⟩ = some (.int .i64 (dDe T)) ∧ (U.alloc (.cells #[.slice none 0 0, .slice none 0 0, .bool false] 117)).drew.cell? ⟨H, 2, none⟩ = some (.int .i64 (dBl T)) ∧ (U.alloc (.cells #[.slice none 0 0, .slice none 0 0, .bool false] 117)).drew.cell? ⟨H, 3, none⟩ = some (.int .i64 (dRa T)) ∧ (U.alloc (.cells #[.slice none 0 0, .slice none 0 0, .bool false] 117)).drew.cell? ⟨H, 4, none⟩ = some (.int .i64 (dSe T)) ∧ (U.alloc (.cells #[.slice none 0 0, .slice none 0 0, .bool false] 117)).drew.cell? ⟨H, 5, none⟩ = some (.int .i64 (dSa T)) := ki_al6 hS0
    have hHl : H ≠ U.heap.size := Nat.ne_of_lt HHU.out.lt
    have HZA := Hid.mk' (show Bx (U.alloc (.cells #[.slice none 0 0, .slice none 0 0, .bool false] 117)).drew U.heap.size 117 #[.slice none 0 0, .slice none 0 0, .bool false] from Bx.new U _ _)
    go_region_held3 (fun w' => H < w'.heap.size ∧ w'.cell? ⟨H, 0, none⟩ = some (.int .i64 (dCh T)) ∧ w'.cell? ⟨H, 1, none⟩ = some (.int .i64 (dDe T)) ∧ w'.cell? ⟨H, 2, none⟩ = some (.int .i64 (dBl T)) ∧ w'.cell? ⟨H, 3, none⟩ = some (.int .i64 (dRa T)) ∧ w'.cell? ⟨H, 4, none⟩ = some (.int .i64 (dSe T)) ∧ w'.cell? ⟨H, 5, none⟩ = some (.int .i64 (dSa T)))
      (first | with_reducible exact hS0 | with_reducible exact hSA | with_reducible exact hS1 | with_reducible exact ki_al6 hS1 | with_reducible exact ki_st3 hHl hS1)
      (first
      | (go_at_call 72; refine (HFR.out _ ?_).mono ?_; (first | exact HBU.out.drew | exact (HBU.out.alloc HBU.out.size _).drew); intro e u2 ho; obtain ⟨m, gl, la, lc, bf, rfl, hfl, hri, hrow, hl, hb⟩ := ho.all; have HFL := Hid.mk' hfl; clear hfl; have hS1 : H < u2.heap.size ∧ u2.cell? ⟨H, 0, none⟩ = some (.int .i64 (dCh T)) ∧ u2.cell? ⟨H, 1, none⟩ = some (.int .i64 (dDe T)) ∧ u2.cell? ⟨H, 2, none⟩ = some (.int .i64 (dBl T)) ∧ u2.cell? ⟨H, 3, none⟩ = some (.int .i64 (dRa T)) ∧ u2.cell? ⟨H, 4, none⟩ = some (.int .i64 (dSe T)) ∧ u2.cell? ⟨H, 5, none⟩ = some (.int .i64 (dSa T)) := (by first | exact ki_below hb hS0 | exact ki_below hb hSA); have HQ := Hid.mk' (And.intro hri (And.intro hrow hb)); (first | (have hza := HZA.out.below hb; have x0 := hza.cell 0; have x1 := hza.cell 1; have x2 := hza.cell 2; have z0 := hza.fz 0; have z1 := hza.fz 1; have z2 := hza.fz 2; clear hza) | skip); clear hri hrow hl hb ho))
    · go_wp2
      go_meet
      case rel => exact ⟨_, gl, m, la, lc, bf, rfl, frmI_one HFL.out HHU.out HBU.out HQ.out.1 HQ.out.2.1 HQ.out.2.2⟩
    · go_wp2
      go_meet
      case rel => exact ⟨_, gl, m, la, lc, bf, rfl, frmI_two HFL.out HHU.out HBU.out HQ.out.1 HQ.out.2.1 HQ.out.2.2⟩
  case rest =>
    obtain ⟨g, gl, m, la, lc, bf, rfl, HC⟩ := hcut
    clear HFR HHU HBU eS hz HW w1 w2 q1 q2
    have r0 := HC.out.r.cell 0
    have r1 := HC.out.r.cell 1
    have r2 := HC.out.r.cell 2
    have h2 := HC.out.hd.cell 2
    by_cases hbf : bf = true
    · have HM := Hid.mk' (HC.out.flag.1 hbf)
      subst hbf
      have hnn := HCW.out m HM.out.1
      have HNN := Hid.mk' hnn
      have HR := Hid.mk' (HC.out.rows)
      rw [hnn] at HR
      obtain ⟨bk, ofs, cs, hct⟩ := HR.out.toCut (by omega) (a - kk * dBl T)
      have HCT := Hid.mk' hct
      have HGR : Hid (g ≠ gl) := HC.out.r.ne_row hct.row (by decide)
      have HHR2 : Hid (H ≠ gl) := HC.out.hd.ne_row hct.row (by decide)
      have e1 : (kk : Int) * (dBl T : Int) = ((kk * dBl T : Nat) : Int) := by simp
      clear hct hnn HR HCW
      generalize kk * dBl T = kb at *
      have w1 : IntKind.i64.wrap ((kk : Int) * (dBl T : Int)) = (kb : Int) := by rw [IntKind.wrap_i64, e1]; omega
      have w2 : IntKind.i64.wrap ((a : Int) - (kb : Int)) = ((a - kb : Nat) : Int) := by rw [IntKind.wrap_i64]; omega
      have hq : a - kb < dSa T - kb := by omega
      clear e1
      generalize dSa T - kb = nn at *
      generalize a - kb = q at *
      go_wp2
      clear r0 r1 r2 h2
      go_loopw [12, 13, 69] (fun _ _ iv wr => ∃ i : Nat, i ≤ dCh T ∧ iv = .int .i64 i ∧ Hid (CutI w.heap.size wr gl (dCh T) nn q i bk ofs cs (smpL (dCh T) (dDe T) (dBl T) (dSa T) kk X m) ∧ Bx wr H 110 #[.int .i64 (dCh T), .int .i64 (dDe T), .int .i64 (dBl T), .int .i64 (dRa T), .int .i64 (dSe T), .int .i64 (dSa T), .bool true, .int .i64 (dLe T), .int .i64 (dMo T), .int .i64 (dSu T), .slice pa (dNp T) pc] ∧ Bx wr g 117 #[(.slice (some ⟨gl, 0, none⟩) (dCh T) (dCh T)), .slice la m lc, .bool true] ∧ Below w.heap.size w wr)) (fun _ _ iv _ => dCh T - (intOf iv).toNat)
      case atStart => exact ⟨0, Nat.zero_le _, rfl, HCT.out, HC.out.hd, HC.out.r, HC.out.below⟩
      case round =>
        obtain ⟨i, hi, rfl, HR⟩ := hrel
        have x0 := HR.out.2.2.1.cell 0
        have h2 := HR.out.2.1.cell 2
        by_cases hlt : i < dCh T
        · have hc1 := HR.out.1.cell hlt
          have hf1 := HR.out.1.row.frozen i
          have hcap := HR.out.1.cap i hlt
          have HZ := Hid.mk' HR.out.1.step
          have HZH := Hid.mk' (HR.out.2.1.put (a := ⟨gl, i, none⟩) HHR2.out (.slice (some ⟨bk i, ofs i + q, none⟩) (nn - q : Nat) (cs i - q : Nat)))
          have HZR := Hid.mk' (HR.out.2.2.1.put (a := ⟨gl, i, none⟩) HGR.out (.slice (some ⟨bk i, ofs i + q, none⟩) (nn - q : Nat) (cs i - q : Nat)))
          have HZB := Hid.mk' (HR.out.2.2.2.setCell (p := ⟨gl, i, none⟩) HR.out.1.le (.slice (some ⟨bk i, ofs i + q, none⟩) (nn - q : Nat) (cs i - q : Nat)))
          generalize bk i = bi at *
          generalize ofs i = oi at *
          generalize cs i = ci at *
          have q0 : (q : Int) ≤ (nn : Int) := by omega
          have q1 : (nn : Int) ≤ (ci : Int) := by omega
          have q2 : (q : Int) ≤ (ci : Int) := by omega
          have q3 : ((nn : Int) - (q : Int)).toNat = nn - q := by omega
          have q4 : ((ci : Int) - (q : Int)).toNat = ci - q := by omega
          have q5 : ¬ ci = q := by omega
          have q6 : (0 : Int) ≤ (q : Int) := by omega
          have hS0 : wr.drew.cell? ⟨H, 2, none⟩ = some (.int .i64 (dBl T)) ∧ wr.drew.cell? ⟨g, 0, none⟩ = some (.slice (some ⟨gl, 0, none⟩) (dCh T) (dCh T)) := ⟨h2, x0⟩
          have hS1 : (wr.setCell ⟨gl, i, none⟩ (.slice (some ⟨bi, oi + q, none⟩) (nn - q : Nat) (ci - q : Nat))).drew.cell? ⟨H, 2, none⟩ = some (.int .i64 (dBl T)) ∧ (wr.setCell ⟨gl, i, none⟩ (.slice (some ⟨bi, oi + q, none⟩) (nn - q : Nat) (ci - q : Nat))).drew.cell? ⟨g, 0, none⟩ = some (.slice (some ⟨gl, 0, none⟩) (dCh T) (dCh T)) := ⟨HZH.out.cell 2, HZR.out.cell 0⟩
          have HZ2 := Hid.mk' (HZ.out.below (Below.refl _ _).drew)
          go_wp2
          go_region_held3 (fun w' => w'.cell? ⟨H, 2, none⟩ = some (.int .i64 (dBl T)) ∧ w'.cell? ⟨g, 0, none⟩ = some (.slice (some ⟨gl, 0, none⟩) (dCh T) (dCh T))) (first | with_reducible exact hS0 | with_reducible exact hS1) (fail)
          go_wp2
          go_roundw
          case rel => exact ⟨i + 1, by omega, by go_num, HZ2.out, HZH.out.drew1, HZR.out.drew1, HZB.out.drew⟩
          case measure => simp [intOf]; omega
        · have e : i = dCh T := by omega
          subst e
          go_wp2
          go_ret2
          exact HOK.out m gl nn bk ofs cs _ HC.out.run HM.out.1 HM.out.2 HNN.out.symm HR.out.1 HR.out.2.2.2
    · have HX : Hid (¬ (kk + m = nBlk (dSa T) (dBl T) ∧ offX X m = X.length)) := fun h => hbf (HC.out.flag.2 h)
      have hbf := Bool.eq_false_iff.2 hbf
      subst hbf
      go_wp2
      go_ret2
      exact HBAD.out m _ HC.out.run HX.out HC.out.below
end Go.Proofs.YtlncjgnomhpjnabGreatDoor

