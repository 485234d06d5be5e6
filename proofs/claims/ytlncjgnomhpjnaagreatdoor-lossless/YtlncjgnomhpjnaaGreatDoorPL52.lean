import Derived.Test.YtlncjgnomhpjnaaGreatDoorPL51
import Derived.Test.YtlncjgnomhpjnaaGreatDoorPL16
import Derived.Test.YtlncjgnomhpjnaaGreatDoorPL36
import Derived.Test.YtlncjgnomhpjnaaGreatDoorPL31
import Derived.Test.YtlncjgnomhpjnaaGreatDoorPL32
import Derived.Test.YtlncjgnomhpjnaaGreatDoorPL15
import Derived.Test.YtlncjgnomhpjnaaGreatDoorPL20
import Derived.Test.YtlncjgnomhpjnaaGreatDoorPL49
import Derived.Test.YtlncjgnomhpjnaaGreatDoorPL34
import Derived.Test.YtlncjgnomhpjnaaGreatDoorPL26
import Derived.Test.YtlncjgnomhpjnaaGreatDoorPL25
import Derived.Test.YtlncjgnomhpjnaaGreatDoorPL45
import Derived.Test.YtlncjgnomhpjnaaGreatDoorPL47
import Derived.Deep.RegionHeld3
import Derived.Deep.DeepCutAuto
import Derived.Deep.RegionLaw
/-
  A stream that was made: its length, its head, its sum; what Decode, Salvage and From answer.
-/
namespace Go.Proofs.YtlncjgnomhpjnaaGreatDoor
open Go.RowKit Go.Deep
set_option linter.unusedVariables false
/-- frames are short -/
theorem allT_fine (d : Nat) (F : Nat → Nat → Int) (N : Nat) (hN : 1 ≤ N) : ∀ i, (allT d F N i).length ≤ i * (8 + N * d)
  | 0 => by simp [allT]
  | i + 1 => by
    have ih := allT_fine d F N hN i
    have h1 := subT_le d (F i) N hN
    show (allT d F N i ++ subT d (F i) N).length ≤ _
    rw [List.length_append, Nat.add_one_mul]
    omega
theorem bestM_le (T : Nat → List UInt8) : ∀ m j, j < m → (T (bestM T m)).length ≤ (T j).length
  | 0, j, h => absurd h (Nat.not_lt_zero j)
  | m + 1, j, h => by
    unfold bestM
    by_cases e : m = 0 ∨ (T m).length < (T (bestM T m)).length
    · rw [if_pos e]
      by_cases ej : j = m
      · rw [ej]; exact Nat.le_refl _
      · have := bestM_le T m j (by omega)
        rcases e with e | e
        · omega
        · omega
    · rw [if_neg e]
      by_cases ej : j = m
      · rw [ej]; omega
      · exact bestM_le T m j (by omega)
theorem blockT_fine (d n : Nat) (F : Nat → Nat → Int) (N : Nat) (hN : 1 ≤ N) : (blockT d n F N).length ≤ n * (8 + N * d) := by
  unfold blockT
  by_cases h : n = 2
  · rw [if_pos h]
    have h1 := bestM_le (pairT d (F 0) (F 1) N) 4 0 (by omega)
    have h2 : (pairT d (F 0) (F 1) N 0).length ≤ 2 * (8 + N * d) := by
      show (subT d (F 0) N ++ subT d (F 1) N).length ≤ _
      have h3 := subT_le d (F 0) N hN
      have h4 := subT_le d (F 1) N hN
      rw [List.length_append]
      omega
    unfold modeN
    rw [if_pos h]
    rw [h]
    omega
  · rw [if_neg h]
    exact allT_fine d F N hN n
theorem lnF_fine {d n B c3 c4 S : Nat} {F : Nat → Nat → Int} (h : KP d n B c3 c4 S F) {k : Nat} (hk : k < nBlk S B) : lnF d n F S B k ≤ 14 + 6 * blkN S B k := by
  have hb := blkN_bd h.B1 hk
  have h1 := blockT_fine d n (blkF F B k) (blkN S B k) hb.1
  unfold lnF frT
  rw [frameT_length, packT_length]
  generalize (blockT d n (blkF F B k) (blkN S B k)).length = L at *
  generalize blkN S B k = N at *
  have h2 : N * d ≤ N * 12 := Nat.mul_le_mul_left _ h.d12
  have h3 : n * (8 + N * d) ≤ 4 * (8 + N * d) := Nat.mul_le_mul_right _ h.n4
  omega
theorem atN_fine {d n B c3 c4 S : Nat} {F : Nat → Nat → Int} (h : KP d n B c3 c4 S F) : ∀ k, k ≤ nBlk S B → atN (lnF d n F S B) k ≤ 14 * k + 6 * chN B S 0 k
  | 0, _ => by simp [atN]
  | k + 1, hk => by
    have ih := atN_fine h k (by omega)
    have h1 := lnF_fine h (k := k) (by omega)
    show atN (lnF d n F S B) k + lnF d n F S B k ≤ 14 * (k + 1) + 6 * (chN B S 0 k + blkN S B (0 + k))
    rw [Nat.zero_add]
    omega
theorem at_bd {d n B c3 c4 S : Nat} {F : Nat → Nat → Int} (h : KP d n B c3 c4 S F) {k : Nat} (hk : k ≤ nBlk S B) : atN (lnF d n F S B) k ≤ 6000 := by
  have h1 := atN_fine h k hk
  have h2 := chN_le (B := B) (S := S) (k0 := 0) (m := k) h.B1 (by omega)
  have h3 := h.nb
  have h4 := h.S3
  omega
theorem ln_bd {d n B c3 c4 S : Nat} {F : Nat → Nat → Int} (h : KP d n B c3 c4 S F) {k : Nat} (hk : k < nBlk S B) : lnF d n F S B k ≤ 222 := (lnF_bd d n F S B k h.d12 h.n1 h.n4 h.B1 h.B32 hk).2
theorem pts_bd {d n B c3 c4 S : Nat} {F : Nat → Nat → Int} (h : KP d n B c3 c4 S F) {p : Nat} (hp : p ∈ pntN (lnF d n F S B) c4 (nBlk S B)) : p ≤ 6000 := by
  obtain ⟨i, hi, rfl⟩ := pnt_mem _ _ hp
  exact at_bd h (Nat.le_of_lt hi)
theorem np_bd (S B s : Nat) (hB : 1 ≤ B) : nPts S B s ≤ nBlk S B := by
  unfold nPts
  by_cases h : s = 0
  · rw [if_pos h]; exact Nat.zero_le _
  · rw [if_neg h]; exact nBlk_le (by omega)
/-- the head of the stream -/
structure HdIs (T : List UInt8) (d n B c3 c4 S : Nat) (F : Nat → Nat → Int) : Prop where
  wh : dWh T = 1
  ch : dCh T = n
  de : dDe T = d
  bl : dBl T = B
  ra : dRa T = c3
  sa : dSa T = S
  se : dSe T = c4
  le : dLe T = leastN (lnF d n F S B) (nBlk S B)
  mo : dMo T = mostN (lnF d n F S B) (nBlk S B)
  su : dSu T = sumN (intT n F (2 * (S * n)))
theorem stream_head {d n B c3 c4 S : Nat} {F : Nat → Nat → Int} (h : KP d n B c3 c4 S F) : HdIs (streamT d n B c3 c4 F S) d n B c3 c4 S F := by
  have h1 := h.d12
  have h2 := h.n4
  have h3 := h.B32
  have h4 := h.S3
  have hle := leastN_bd (ln := lnF d n F S B) (m := 222) (nBlk S B) (fun i hi => ln_bd h hi)
  have hmo := mostN_bd (ln := lnF d n F S B) (m := 222) (nBlk S B) (fun i hi => ln_bd h hi)
  obtain ⟨a1, a2, a3, a4, a5, a6, a7, a8, a9, a10⟩ := headTx_all 1 n d B c3 S c4 (leastN (lnF d n F S B) (nBlk S B)) (mostN (lnF d n F S B) (nBlk S B)) (sumN (intT n F (2 * (S * n)))) (pntN (lnF d n F S B) c4 (nBlk S B)) (frsT d n F S B (nBlk S B)) (by omega) (by omega) (by omega) (by omega) h.c3b (by omega) h.c4b (by omega) (by omega) (sumN_lt _)
  exact ⟨a1, a2, a3, a4, a5, a6, a7, a8, a9, a10⟩
theorem HdIs.np {T : List UInt8} {d n B c3 c4 S : Nat} {F : Nat → Nat → Int} (h : HdIs T d n B c3 c4 S F) : dNp T = nPts S B c4 := by
  unfold dNp
  rw [h.sa, h.bl, h.se]
theorem HdIs.sz {T : List UInt8} {d n B c3 c4 S : Nat} {F : Nat → Nat → Int} (h : HdIs T d n B c3 c4 S F) : dSz T = 22 + 2 * nPts S B c4 := by
  unfold dSz
  rw [h.np]
theorem head_len (d n B c3 c4 S : Nat) (F : Nat → Nat → Int) : (headTx 1 n d B c3 S c4 (leastN (lnF d n F S B) (nBlk S B)) (mostN (lnF d n F S B) (nBlk S B)) (sumN (intT n F (2 * (S * n)))) (pntN (lnF d n F S B) c4 (nBlk S B))).length = 22 + 2 * nPts S B c4 := by
  rw [headTx_length, pntN_size]
theorem stream_take {d n B c3 c4 S : Nat} {F : Nat → Nat → Int} (h : KP d n B c3 c4 S F) : (streamT d n B c3 c4 F S).take (dSz (streamT d n B c3 c4 F S)) = headTx 1 n d B c3 S c4 (leastN (lnF d n F S B) (nBlk S B)) (mostN (lnF d n F S B) (nBlk S B)) (sumN (intT n F (2 * (S * n)))) (pntN (lnF d n F S B) c4 (nBlk S B)) := by
  rw [(stream_head h).sz, ← head_len d n B c3 c4 S F]
  exact List.take_left
theorem stream_drop {d n B c3 c4 S : Nat} {F : Nat → Nat → Int} (h : KP d n B c3 c4 S F) : (streamT d n B c3 c4 F S).drop (dSz (streamT d n B c3 c4 F S)) = tlX d n F S B 0 := by
  rw [(stream_head h).sz, ← head_len d n B c3 c4 S F]
  exact List.drop_left
theorem stream_len {d n B c3 c4 S : Nat} {F : Nat → Nat → Int} (h : KP d n B c3 c4 S F) : (streamT d n B c3 c4 F S).length = 22 + 2 * nPts S B c4 + (frsT d n F S B (nBlk S B)).length := by
  unfold streamT
  rw [List.length_append, head_len]
theorem stream_short {d n B c3 c4 S : Nat} {F : Nat → Nat → Int} (h : KP d n B c3 c4 S F) : (streamT d n B c3 c4 F S).length ≤ 9000 := by
  rw [stream_len h, ← atN_frs]
  have h1 := at_bd h (Nat.le_refl (nBlk S B))
  have h2 := np_bd S B c4 h.B1
  have h3 := h.nb
  omega
theorem stream_pts {d n B c3 c4 S : Nat} {F : Nat → Nat → Int} (h : KP d n B c3 c4 S F) : dPts (streamT d n B c3 c4 F S) = pntN (lnF d n F S B) c4 (nBlk S B) := by
  have hl := pntN_size (lnF d n F S B) S B c4
  unfold dPts
  rw [(stream_head h).np]
  refine List.ext_getElem (by rw [List.length_map, List.length_range, hl]) fun i h1 h2 => ?_
  rw [List.getElem_map, List.getElem_range]
  have hp : (pntN (lnF d n F S B) c4 (nBlk S B))[i] < 65536 := by
    have := pts_bd h (List.getElem_mem h2)
    omega
  have := headTx_pt 1 n d B c3 S c4 (leastN (lnF d n F S B) (nBlk S B)) (mostN (lnF d n F S B) (nBlk S B)) (sumN (intT n F (2 * (S * n)))) (pntN (lnF d n F S B) c4 (nBlk S B)) i h2 hp
  rw [← this]
  unfold fld streamT
  rw [piece_left _ _ _ _ (by omega) (by rw [head_len]; omega)]
theorem stream_hd {d n B c3 c4 S : Nat} {F : Nat → Nat → Int} (h : KP d n B c3 c4 S F) : HdP (streamT d n B c3 c4 F S) := by
  have hh := stream_head h
  have hl := stream_len h
  have b1 := h.d4
  have b2 := h.d12
  have b3 := h.n1
  have b4 := h.n4
  have b5 := h.B1
  have b6 := h.B32
  have b7 := h.c3b
  have b8 := h.c4b
  have b9 := h.S3
  refine ⟨by omega, by rw [hh.wh]; exact Nat.le_refl _, ?_, by rw [hh.sz]; omega, ?_, fun h0 => by rw [hh.wh] at h0; cases h0⟩
  · rw [hh.ch, hh.de, hh.bl, hh.ra, hh.se, hh.sa]
    simp only [infoB, Bool.and_eq_true, within_iff]
    omega
  · rw [stream_take h]
    unfold dTx
    rw [hh.wh, hh.ch, hh.de, hh.bl, hh.ra, hh.sa, hh.se, hh.le, hh.mo, hh.su, stream_pts h]
theorem leastN_ext {f g : Nat → Nat} : ∀ k, (∀ i, i < k → f i = g i) → leastN f k = leastN g k
  | 0, _ => rfl
  | k + 1, h => by
    unfold leastN
    rw [leastN_ext k (fun i hi => h i (by omega)), h k (by omega)]
theorem mostN_ext {f g : Nat → Nat} : ∀ k, (∀ i, i < k → f i = g i) → mostN f k = mostN g k
  | 0, _ => rfl
  | k + 1, h => by
    unfold mostN
    rw [mostN_ext k (fun i hi => h i (by omega)), h k (by omega)]
theorem atN_ext {f g : Nat → Nat} : ∀ k, (∀ i, i < k → f i = g i) → atN f k = atN g k
  | 0, _ => rfl
  | k + 1, h => by
    unfold atN
    rw [atN_ext k (fun i hi => h i (by omega)), h k (by omega)]
theorem pntN_ext {f g : Nat → Nat} {s : Nat} : ∀ k, (∀ i, i < k → f i = g i) → pntN f s k = pntN g s k
  | 0, _ => rfl
  | k + 1, h => by
    unfold pntN
    rw [pntN_ext k (fun i hi => h i (by omega)), atN_ext k (fun i hi => h i (by omega))]
theorem stream_run {d n B c3 c4 S : Nat} {F : Nat → Nat → Int} (h : KP d n B c3 c4 S F) : RunIs (dCh (streamT d n B c3 c4 F S)) (dDe (streamT d n B c3 c4 F S)) (dBl (streamT d n B c3 c4 F S)) (dSa (streamT d n B c3 c4 F S)) 0 ((streamT d n B c3 c4 F S).drop (dSz (streamT d n B c3 c4 F S))) (nBlk S B) := by
  have hh := stream_head h
  rw [hh.ch, hh.de, hh.bl, hh.sa, stream_drop h]
  have := tl_run h (Nat.zero_le (nBlk S B))
  rwa [Nat.sub_zero] at this
theorem stream_all {d n B c3 c4 S : Nat} {F : Nat → Nat → Int} (h : KP d n B c3 c4 S F) : AllP (streamT d n B c3 c4 F S) := by
  have hh := stream_head h
  have hx : ∀ i, i < nBlk S B → lnF d n F S B i = lnX (tlX d n F S B 0) i := fun i hi => by
    have := tl_ln h (k0 := 0) (j := i) (by omega)
    rw [Nat.zero_add] at this
    exact this.symm
  refine ⟨nBlk S B, stream_run h, by rw [hh.sa, hh.bl], ?_, ?_, ?_, ?_⟩
  · rw [stream_drop h]
    have := tl_off h (Nat.zero_le (nBlk S B))
    rwa [Nat.sub_zero] at this
  · rw [hh.le, stream_drop h]
    exact leastN_ext _ hx
  · rw [hh.mo, stream_drop h]
    exact mostN_ext _ hx
  · rw [stream_pts h, stream_drop h, hh.se]
    exact pntN_ext _ hx
theorem stream_smp {d n B c3 c4 S : Nat} {F : Nat → Nat → Int} (h : KP d n B c3 c4 S F) {c j : Nat} (hc : c < n) (hj : j < S) : dSmp (streamT d n B c3 c4 F S) c j = F c j := by
  have hh := stream_head h
  unfold dSmp
  rw [hh.ch, hh.de, hh.bl, hh.sa, stream_drop h, tl_smp h hc (by omega) (by rw [chN_whole h.B1 (by omega) (by omega)]; omega), Nat.zero_mul, Nat.zero_add]
theorem intT_ext {n S : Nat} {F G : Nat → Nat → Int} (hn : 1 ≤ n) (h : ∀ c, c < n → ∀ j, j < S → F c j = G c j) : intT n F (2 * (S * n)) = intT n G (2 * (S * n)) := by
  unfold intT
  refine List.map_congr_left fun i hi => ?_
  rw [List.mem_range] at hi
  unfold intB
  have h1 : i / 2 / n < S := by
    have : i / 2 < S * n := by omega
    exact Nat.div_lt_of_lt_mul (by rw [Nat.mul_comm]; exact this)
  rw [h _ (Nat.mod_lt _ hn) _ h1]
theorem stream_sum {d n B c3 c4 S : Nat} {F : Nat → Nat → Int} (h : KP d n B c3 c4 S F) : SumP (streamT d n B c3 c4 F S) := by
  have hh := stream_head h
  unfold SumP
  rw [hh.su, hh.sa, hh.ch, intT_ext h.n1 (fun c hc j hj => (stream_smp h hc hj).symm)]
/-- Decode answers with the sound -/
theorem stream_dec {d n B c3 c4 S : Nat} {F : Nat → Nat → Int} (h : KP d n B c3 c4 S F) : decE (streamT d n B c3 c4 F S) = 0 := by
  unfold decE
  rw [if_pos (stream_short h), if_pos ⟨stream_hd h, (stream_head h).wh⟩, if_pos (stream_all h), if_pos (stream_sum h)]
/-- From answers with the samples from a place on -/
theorem stream_stB {d n B c3 c4 S a : Nat} {F : Nat → Nat → Int} (h : KP d n B c3 c4 S F) (ha : a < S) : stB (streamT d n B c3 c4 F S) a = (frsT d n F S B (stN (streamT d n B c3 c4 F S) a)).length := by
  have hh := stream_head h
  unfold stB stN
  rw [hh.se, hh.bl]
  by_cases h0 : c4 = 0
  · rw [if_pos h0, if_pos h0]; rfl
  · rw [if_neg h0, if_neg h0, stream_pts h, pntN_all _ (by omega), List.getD_eq_getElem?_getD, List.getElem?_map]
    have h1 : a / B < nBlk S B := (nBlk_lt h.B1).2 (Nat.lt_of_le_of_lt (Nat.div_mul_le_self _ _) ha)
    have h2 : a / B / c4 < nBlk (nBlk S B) c4 := (nBlk_lt (by omega)).2 (Nat.lt_of_le_of_lt (Nat.div_mul_le_self _ _) h1)
    rw [List.getElem?_range h2]
    show atN (lnF d n F S B) (a / B / c4 * c4) = _
    exact atN_frs _ _ _ _ _ _
theorem stream_from {d n B c3 c4 S a : Nat} {F : Nat → Nat → Int} (h : KP d n B c3 c4 S F) (ha : a < S) : (streamT d n B c3 c4 F S).drop (dSz (streamT d n B c3 c4 F S) + stB (streamT d n B c3 c4 F S) a) = tlX d n F S B (stN (streamT d n B c3 c4 F S) a) := by
  rw [← List.drop_drop, stream_drop h, tl_zero, stream_stB h ha]
  rfl
theorem stream_frm {d n B c3 c4 S a : Nat} {F : Nat → Nat → Int} (h : KP d n B c3 c4 S F) (ha : a ≤ S) : frmE (streamT d n B c3 c4 F S) a = 0 := by
  have hh := stream_head h
  unfold frmE
  rw [if_pos (stream_short h), if_pos ⟨stream_hd h, hh.wh⟩, hh.sa, if_pos ⟨by omega, by omega⟩, if_pos]
  by_cases he : a = S
  · left; omega
  · right
    rw [Int.toNat_natCast]
    have hk : stN (streamT d n B c3 c4 F S) a < nBlk S B := by
      have := stN_lt (T := streamT d n B c3 c4 F S) (a := a) (by rw [hh.bl]; exact h.B1) (by rw [hh.sa]; omega)
      rwa [hh.sa, hh.bl] at this
    refine ⟨?_, nBlk S B - stN (streamT d n B c3 c4 F S) a, ?_, ?_, ?_⟩
    · rw [stream_stB h (by omega), hh.sz, stream_len h]
      obtain ⟨Z, hZ⟩ := frs_pre d n F S B (stN (streamT d n B c3 c4 F S) a) (nBlk S B - stN (streamT d n B c3 c4 F S) a)
      rw [Nat.add_sub_cancel' (Nat.le_of_lt hk)] at hZ
      rw [hZ, List.length_append]
      omega
    · rw [stream_from h (by omega), hh.ch, hh.de, hh.bl, hh.sa]
      exact tl_run h (Nat.le_of_lt hk)
    · rw [hh.sa, hh.bl]; omega
    · rw [stream_from h (by omega)]
      exact tl_off h (Nat.le_of_lt hk)
theorem stream_frmS {d n B c3 c4 S a : Nat} {F : Nat → Nat → Int} (h : KP d n B c3 c4 S F) (ha : a < S) {c j : Nat} (hc : c < n) (hj : j < S - a) : frmS (streamT d n B c3 c4 F S) a c j = F c (a + j) := by
  have hh := stream_head h
  have hka := stN_le (streamT d n B c3 c4 F S) a
  have hk : stN (streamT d n B c3 c4 F S) a < nBlk S B := by
    have := stN_lt (T := streamT d n B c3 c4 F S) (a := a) (by rw [hh.bl]; exact h.B1) (by rw [hh.sa]; omega)
    rwa [hh.sa, hh.bl] at this
  unfold frmS
  rw [stream_from h ha]
  rw [hh.bl] at hka
  rw [hh.ch, hh.de, hh.bl, hh.sa]
  generalize stN (streamT d n B c3 c4 F S) a = k at *
  rw [tl_smp h hc (by omega) (by rw [chN_whole h.B1 (by omega) (by omega)]; omega)]
  congr 1
  omega
end Go.Proofs.YtlncjgnomhpjnaaGreatDoor

/-
  The law 'Decodes': two answers held against each other.
-/
namespace Go.Proofs.YtlncjgnomhpjnaaGreatDoor
open Go.RowKit Go.Deep
set_option linter.unusedVariables false
theorem DecAns.yes {e : Ending} {w w' : World} {T : List UInt8} (h : DecAns e w w' T) (h0 : decE T = 0) : ∃ gl, e = .returned (.tuple #[.agg #[.int .i64 (dCh T), .int .i64 (dDe T), .int .i64 (dBl T), .int .i64 (dRa T), .int .i64 (dSe T), .int .i64 (dSa T)], .slice (some ⟨gl, 0, none⟩) (dCh T) (dCh T), .int .i64 0]) ∧ RowsL w.heap.size w' (.slice (some ⟨gl, 0, none⟩) (dCh T) (dCh T)) (dCh T) (dSa T) (dSmp T) ∧ Below w.heap.size w w' := by
  rcases h with ⟨⟨-, v, rfl, hr⟩ | ⟨hno, -⟩, hb⟩
  · obtain ⟨g, A, C, rfl, -⟩ := hr.open
    exact ⟨g, rfl, hr, hb⟩
  · exact absurd h0 hno
end Go.Proofs.YtlncjgnomhpjnaaGreatDoor

