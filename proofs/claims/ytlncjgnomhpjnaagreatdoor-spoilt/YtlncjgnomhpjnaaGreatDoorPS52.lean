import Derived.Test.YtlncjgnomhpjnaaGreatDoorPS51
import Derived.Test.YtlncjgnomhpjnaaGreatDoorPS16
import Derived.Test.YtlncjgnomhpjnaaGreatDoorPS37
import Derived.Test.YtlncjgnomhpjnaaGreatDoorPS32
import Derived.Test.YtlncjgnomhpjnaaGreatDoorPS4
import Derived.Test.YtlncjgnomhpjnaaGreatDoorPS34
import Derived.Test.YtlncjgnomhpjnaaGreatDoorPS15
import Derived.Test.YtlncjgnomhpjnaaGreatDoorPS21
import Derived.Test.YtlncjgnomhpjnaaGreatDoorPS50
import Derived.Test.YtlncjgnomhpjnaaGreatDoorPS35
import Derived.Test.YtlncjgnomhpjnaaGreatDoorPS27
import Derived.Test.YtlncjgnomhpjnaaGreatDoorPS26
import Derived.Test.YtlncjgnomhpjnaaGreatDoorPS46
import Derived.Test.YtlncjgnomhpjnaaGreatDoorPS48
import Derived.Deep.RegionHeld3
import Derived.Deep.DeepCutAuto
import Derived.Deep.RegionLaw
import Derived.BigQuiet
import Derived.Deep.QuietTactic
import Derived.Test.YtlncjgnomhpjnaaGreatDoorPS38
/-
  A stream that was made: its length, its head, its sum; what Decode, Salvage and From answer.
-/
namespace Go.Proofs.YtlncjgnomhpjnaaGreatDoor
open Go.RowKit Go.Deep
set_option linter.unusedVariables false
/-- frames are short -/
theorem allT_fine (d : Nat) (F : Nat → Nat → Int) (N : Nat) (hN : 1 ≤ N) : ∀ i, (allT d F N i).length ≤ i * (8 + N * d)
  | 0 => by simp [allT]
  | i + 1 => by
    have ih := allT_fine d F N hN i
    have h1 := subT_le d (F i) N hN
    show (allT d F N i ++ subT d (F i) N).length ≤ _
    rw [List.length_append, Nat.add_one_mul]
    omega
theorem bestM_le (T : Nat → List UInt8) : ∀ m j, j < m → (T (bestM T m)).length ≤ (T j).length
  | 0, j, h => absurd h (Nat.not_lt_zero j)
  | m + 1, j, h => by
    unfold bestM
    by_cases e : m = 0 ∨ (T m).length < (T (bestM T m)).length
    · rw [if_pos e]
      by_cases ej : j = m
      · rw [ej]; exact Nat.le_refl _
      · have := bestM_le T m j (by omega)
        rcases e with e | e
        · omega
        · omega
    · rw [if_neg e]
      by_cases ej : j = m
      · rw [ej]; omega
      · exact bestM_le T m j (by omega)
theorem blockT_fine (d n : Nat) (F : Nat → Nat → Int) (N : Nat) (hN : 1 ≤ N) : (blockT d n F N).length ≤ n * (8 + N * d) := by
  unfold blockT
  by_cases h : n = 2
  · rw [if_pos h]
    have h1 := bestM_le (pairT d (F 0) (F 1) N) 4 0 (by omega)
    have h2 : (pairT d (F 0) (F 1) N 0).length ≤ 2 * (8 + N * d) := by
      show (subT d (F 0) N ++ subT d (F 1) N).length ≤ _
      have h3 := subT_le d (F 0) N hN
      have h4 := subT_le d (F 1) N hN
      rw [List.length_append]
      omega
    unfold modeN
    rw [if_pos h]
    rw [h]
    omega
  · rw [if_neg h]
    exact allT_fine d F N hN n
theorem lnF_fine {d n B c3 c4 S : Nat} {F : Nat → Nat → Int} (h : KP d n B c3 c4 S F) {k : Nat} (hk : k < nBlk S B) : lnF d n F S B k ≤ 14 + 6 * blkN S B k := by
  have hb := blkN_bd h.B1 hk
  have h1 := blockT_fine d n (blkF F B k) (blkN S B k) hb.1
  unfold lnF frT
  rw [frameT_length, packT_length]
  generalize (blockT d n (blkF F B k) (blkN S B k)).length = L at *
  generalize blkN S B k = N at *
  have h2 : N * d ≤ N * 12 := Nat.mul_le_mul_left _ h.d12
  have h3 : n * (8 + N * d) ≤ 4 * (8 + N * d) := Nat.mul_le_mul_right _ h.n4
  omega
theorem atN_fine {d n B c3 c4 S : Nat} {F : Nat → Nat → Int} (h : KP d n B c3 c4 S F) : ∀ k, k ≤ nBlk S B → atN (lnF d n F S B) k ≤ 14 * k + 6 * chN B S 0 k
  | 0, _ => by simp [atN]
  | k + 1, hk => by
    have ih := atN_fine h k (by omega)
    have h1 := lnF_fine h (k := k) (by omega)
    show atN (lnF d n F S B) k + lnF d n F S B k ≤ 14 * (k + 1) + 6 * (chN B S 0 k + blkN S B (0 + k))
    rw [Nat.zero_add]
    omega
theorem at_bd {d n B c3 c4 S : Nat} {F : Nat → Nat → Int} (h : KP d n B c3 c4 S F) {k : Nat} (hk : k ≤ nBlk S B) : atN (lnF d n F S B) k ≤ 6000 := by
  have h1 := atN_fine h k hk
  have h2 := chN_le (B := B) (S := S) (k0 := 0) (m := k) h.B1 (by omega)
  have h3 := h.nb
  have h4 := h.S3
  omega
theorem ln_bd {d n B c3 c4 S : Nat} {F : Nat → Nat → Int} (h : KP d n B c3 c4 S F) {k : Nat} (hk : k < nBlk S B) : lnF d n F S B k ≤ 222 := (lnF_bd d n F S B k h.d12 h.n1 h.n4 h.B1 h.B32 hk).2
theorem pts_bd {d n B c3 c4 S : Nat} {F : Nat → Nat → Int} (h : KP d n B c3 c4 S F) {p : Nat} (hp : p ∈ pntN (lnF d n F S B) c4 (nBlk S B)) : p ≤ 6000 := by
  obtain ⟨i, hi, rfl⟩ := pnt_mem _ _ hp
  exact at_bd h (Nat.le_of_lt hi)
theorem np_bd (S B s : Nat) (hB : 1 ≤ B) : nPts S B s ≤ nBlk S B := by
  unfold nPts
  by_cases h : s = 0
  · rw [if_pos h]; exact Nat.zero_le _
  · rw [if_neg h]; exact nBlk_le (by omega)
/-- the head of the stream -/
structure HdIs (T : List UInt8) (d n B c3 c4 S : Nat) (F : Nat → Nat → Int) : Prop where
  wh : dWh T = 1
  ch : dCh T = n
  de : dDe T = d
  bl : dBl T = B
  ra : dRa T = c3
  sa : dSa T = S
  se : dSe T = c4
  le : dLe T = leastN (lnF d n F S B) (nBlk S B)
  mo : dMo T = mostN (lnF d n F S B) (nBlk S B)
  su : dSu T = sumN (intT n F (2 * (S * n)))
theorem stream_head {d n B c3 c4 S : Nat} {F : Nat → Nat → Int} (h : KP d n B c3 c4 S F) : HdIs (streamT d n B c3 c4 F S) d n B c3 c4 S F := by
  have h1 := h.d12
  have h2 := h.n4
  have h3 := h.B32
  have h4 := h.S3
  have hle := leastN_bd (ln := lnF d n F S B) (m := 222) (nBlk S B) (fun i hi => ln_bd h hi)
  have hmo := mostN_bd (ln := lnF d n F S B) (m := 222) (nBlk S B) (fun i hi => ln_bd h hi)
  obtain ⟨a1, a2, a3, a4, a5, a6, a7, a8, a9, a10⟩ := headTx_all 1 n d B c3 S c4 (leastN (lnF d n F S B) (nBlk S B)) (mostN (lnF d n F S B) (nBlk S B)) (sumN (intT n F (2 * (S * n)))) (pntN (lnF d n F S B) c4 (nBlk S B)) (frsT d n F S B (nBlk S B)) (by omega) (by omega) (by omega) (by omega) h.c3b (by omega) h.c4b (by omega) (by omega) (sumN_lt _)
  exact ⟨a1, a2, a3, a4, a5, a6, a7, a8, a9, a10⟩
theorem HdIs.np {T : List UInt8} {d n B c3 c4 S : Nat} {F : Nat → Nat → Int} (h : HdIs T d n B c3 c4 S F) : dNp T = nPts S B c4 := by
  unfold dNp
  rw [h.sa, h.bl, h.se]
theorem HdIs.sz {T : List UInt8} {d n B c3 c4 S : Nat} {F : Nat → Nat → Int} (h : HdIs T d n B c3 c4 S F) : dSz T = 22 + 2 * nPts S B c4 := by
  unfold dSz
  rw [h.np]
theorem head_len (d n B c3 c4 S : Nat) (F : Nat → Nat → Int) : (headTx 1 n d B c3 S c4 (leastN (lnF d n F S B) (nBlk S B)) (mostN (lnF d n F S B) (nBlk S B)) (sumN (intT n F (2 * (S * n)))) (pntN (lnF d n F S B) c4 (nBlk S B))).length = 22 + 2 * nPts S B c4 := by
  rw [headTx_length, pntN_size]
theorem stream_take {d n B c3 c4 S : Nat} {F : Nat → Nat → Int} (h : KP d n B c3 c4 S F) : (streamT d n B c3 c4 F S).take (dSz (streamT d n B c3 c4 F S)) = headTx 1 n d B c3 S c4 (leastN (lnF d n F S B) (nBlk S B)) (mostN (lnF d n F S B) (nBlk S B)) (sumN (intT n F (2 * (S * n)))) (pntN (lnF d n F S B) c4 (nBlk S B)) := by
  rw [(stream_head h).sz, ← head_len d n B c3 c4 S F]
  exact List.take_left
theorem stream_drop {d n B c3 c4 S : Nat} {F : Nat → Nat → Int} (h : KP d n B c3 c4 S F) : (streamT d n B c3 c4 F S).drop (dSz (streamT d n B c3 c4 F S)) = tlX d n F S B 0 := by
  rw [(stream_head h).sz, ← head_len d n B c3 c4 S F]
  exact List.drop_left
theorem stream_len {d n B c3 c4 S : Nat} {F : Nat → Nat → Int} (h : KP d n B c3 c4 S F) : (streamT d n B c3 c4 F S).length = 22 + 2 * nPts S B c4 + (frsT d n F S B (nBlk S B)).length := by
  unfold streamT
  rw [List.length_append, head_len]
theorem stream_short {d n B c3 c4 S : Nat} {F : Nat → Nat → Int} (h : KP d n B c3 c4 S F) : (streamT d n B c3 c4 F S).length ≤ 9000 := by
  rw [stream_len h, ← atN_frs]
  have h1 := at_bd h (Nat.le_refl (nBlk S B))
  have h2 := np_bd S B c4 h.B1
  have h3 := h.nb
  omega
theorem stream_pts {d n B c3 c4 S : Nat} {F : Nat → Nat → Int} (h : KP d n B c3 c4 S F) : dPts (streamT d n B c3 c4 F S) = pntN (lnF d n F S B) c4 (nBlk S B) := by
  have hl := pntN_size (lnF d n F S B) S B c4
  unfold dPts
  rw [(stream_head h).np]
  refine List.ext_getElem (by rw [List.length_map, List.length_range, hl]) fun i h1 h2 => ?_
  rw [List.getElem_map, List.getElem_range]
  have hp : (pntN (lnF d n F S B) c4 (nBlk S B))[i] < 65536 := by
    have := pts_bd h (List.getElem_mem h2)
    omega
  have := headTx_pt 1 n d B c3 S c4 (leastN (lnF d n F S B) (nBlk S B)) (mostN (lnF d n F S B) (nBlk S B)) (sumN (intT n F (2 * (S * n)))) (pntN (lnF d n F S B) c4 (nBlk S B)) i h2 hp
  rw [← this]
  unfold fld streamT
  rw [piece_left _ _ _ _ (by omega) (by rw [head_len]; omega)]
theorem stream_hd {d n B c3 c4 S : Nat} {F : Nat → Nat → Int} (h : KP d n B c3 c4 S F) : HdP (streamT d n B c3 c4 F S) := by
  have hh := stream_head h
  have hl := stream_len h
  have b1 := h.d4
  have b2 := h.d12
  have b3 := h.n1
  have b4 := h.n4
  have b5 := h.B1
  have b6 := h.B32
  have b7 := h.c3b
  have b8 := h.c4b
  have b9 := h.S3
  refine ⟨by omega, by rw [hh.wh]; exact Nat.le_refl _, ?_, by rw [hh.sz]; omega, ?_, fun h0 => by rw [hh.wh] at h0; cases h0⟩
  · rw [hh.ch, hh.de, hh.bl, hh.ra, hh.se, hh.sa]
    simp only [infoB, Bool.and_eq_true, within_iff]
    omega
  · rw [stream_take h]
    unfold dTx
    rw [hh.wh, hh.ch, hh.de, hh.bl, hh.ra, hh.sa, hh.se, hh.le, hh.mo, hh.su, stream_pts h]
end Go.Proofs.YtlncjgnomhpjnaaGreatDoor

/-
  The law 'Decodes': two answers held against each other.
-/
namespace Go.Proofs.YtlncjgnomhpjnaaGreatDoor
open Go.RowKit Go.Deep
set_option linter.unusedVariables false
theorem DecAns.nothing {e : Ending} {w w' : World} {T : List UInt8} (h : DecAns e w w' T) (h0 : decE T ≠ 0) : e = .returned (.tuple #[.agg #[.int .i64 0, .int .i64 0, .int .i64 0, .int .i64 0, .int .i64 0, .int .i64 0], .slice none 0 0, .int .i64 (decE T)]) ∧ Below w.heap.size w w' := by
  rcases h with ⟨⟨hy, -⟩ | ⟨-, he⟩, hb⟩
  · exact absurd hy h0
  · exact ⟨he, hb⟩
end Go.Proofs.YtlncjgnomhpjnaaGreatDoor

/-
  The law 'Rescues': two answers held against each other.
-/
namespace Go.Proofs.YtlncjgnomhpjnaaGreatDoor
open Go.RowKit Go.Deep
set_option linter.unusedVariables false
theorem SalAns.yesM {e : Ending} {w w' : World} {T : List UInt8} {m : Nat} (h : SalAns e w w' T) (hy : T.length ≤ 9000 ∧ HdP T) (hm : RunIs (dCh T) (dDe T) (dBl T) (dSa T) 0 (T.drop (dSz T)) m) : ∃ gl, e = .returned (.tuple #[.agg #[.int .i64 (dCh T), .int .i64 (dDe T), .int .i64 (dBl T), .int .i64 (dRa T), .int .i64 (dSe T), .int .i64 (dSa T)], .slice (some ⟨gl, 0, none⟩) (dCh T) (dCh T), .int .i64 0]) ∧ RowsL w.heap.size w' (.slice (some ⟨gl, 0, none⟩) (dCh T) (dCh T)) (dCh T) (chN (dBl T) (dSa T) 0 m) (smpL (dCh T) (dDe T) (dBl T) (dSa T) 0 (T.drop (dSz T)) m) ∧ Below w.heap.size w w' := by
  obtain ⟨m', gl, h1, h2, h3, h4⟩ := h.yes hy
  have e := hm.uniq h1
  subst e
  exact ⟨gl, h2, h3, h4⟩
end Go.Proofs.YtlncjgnomhpjnaaGreatDoor

/-
  What Encode answers; reel.Check, reel.Encode.
-/
namespace Go.Proofs.YtlncjgnomhpjnaaGreatDoor
open Go.RowKit Go.Deep
set_option linter.unusedVariables false
def encOk (c0 c1 c2 c3 c4 c5 c6 c7 : Int) (n : Nat) (L : Nat → Nat) (F : Nat → Nat → Int) : Prop :=
  rightB c0 c1 c2 c3 c4 c5 c6 c7 = true ∧ ChanP c0 c1.toNat n 0 300 L F
open Classical in
noncomputable def encE (c0 c1 c2 c3 c4 c5 c6 c7 : Int) (n : Nat) (L : Nat → Nat) (F : Nat → Nat → Int) : Int :=
  if rightB c0 c1 c2 c3 c4 c5 c6 c7 = true then (if ChanP c0 c1.toNat n 0 300 L F then 0 else 2) else 1
open Classical in
noncomputable def encS (c0 c1 c2 c3 c4 c5 c6 c7 : Int) (n : Nat) (L : Nat → Nat) (F : Nat → Nat → Int) : ByteArray :=
  if encOk c0 c1 c2 c3 c4 c5 c6 c7 n L F then bs (streamT c1.toNat n c2.toNat c3.toNat c4.toNat F (L 0)) else ⟨#[]⟩
theorem enc_no {c0 c1 c2 c3 c4 c5 c6 c7 : Int} {n : Nat} {L : Nat → Nat} {F : Nat → Nat → Int} (h : ¬ encOk c0 c1 c2 c3 c4 c5 c6 c7 n L F) : encS c0 c1 c2 c3 c4 c5 c6 c7 n L F = ⟨#[]⟩ := by
  unfold encS; rw [if_neg h]
theorem enc_yes {c0 c1 c2 c3 c4 c5 c6 c7 : Int} {n : Nat} {L : Nat → Nat} {F : Nat → Nat → Int} (h : encOk c0 c1 c2 c3 c4 c5 c6 c7 n L F) :
    encS c0 c1 c2 c3 c4 c5 c6 c7 n L F = bs (streamT c1.toNat n c2.toNat c3.toNat c4.toNat F (L 0)) ∧ encE c0 c1 c2 c3 c4 c5 c6 c7 n L F = 0 := by
  unfold encS encE; rw [if_pos h, if_pos h.1, if_pos h.2]; exact ⟨rfl, rfl⟩
theorem enc_e {c0 c1 c2 c3 c4 c5 c6 c7 : Int} {n : Nat} {L : Nat → Nat} {F : Nat → Nat → Int} (h : ¬ encOk c0 c1 c2 c3 c4 c5 c6 c7 n L F) : encE c0 c1 c2 c3 c4 c5 c6 c7 n L F = 1 ∨ encE c0 c1 c2 c3 c4 c5 c6 c7 n L F = 2 := by
  unfold encE
  by_cases h1 : rightB c0 c1 c2 c3 c4 c5 c6 c7 = true
  · rw [if_pos h1, if_neg (fun h2 => h ⟨h1, h2⟩)]; exact .inr rfl
  · rw [if_neg h1]; exact .inl rfl
set_option maxHeartbeats 1000000 in
theorem reelCheck_any (c0 c1 c2 c3 c4 c5 c6 c7 : Int) (a : Option Addr) (n cap : Nat) (A : Nat → Option Addr) (L C : Nat → Nat) (F : Nat → Nat → Int) (w : World) (hn : n ≤ 17592186044416) (hL : ∀ i, i < n → L i ≤ 17592186044416)
    (hA : ListsAt w a n A L C) (hI : ∀ i, i < n → IntsAt w (A i) (L i) (F i)) (hlow : Low w.heap.size a n A L) :
    Calls Tryz.prog 48 #[.agg #[.int .i64 c0, .int .i64 c1, .int .i64 c2, .int .i64 c3, .int .i64 c4, .int .i64 c5, .int .i64 c6, .int .i64 c7], .slice a n cap] w fun e w' =>
      e = .returned (.int .i64 (encE c0 c1 c2 c3 c4 c5 c6 c7 n L F)) ∧ Below w.heap.size w w' := by
  have hb0 : Below w.heap.size w (w.alloc (.cells #[.int .i64 c0, .int .i64 c1, .int .i64 c2, .int .i64 c3, .int .i64 c4, .int .i64 c5, .int .i64 c6, .int .i64 c7] 23)) := (Below.refl _ _).alloc (Nat.le_refl _) _
  have HB0 := Hid.mk' hb0
  have HRC := Hid.mk' (fun u => rightConfig_any c0 c1 c2 c3 c4 c5 c6 c7 u)
  clear hb0
  unfold encE
  cases hr : rightB c0 c1 c2 c3 c4 c5 c6 c7 with
  | false =>
    rw [hr] at HRC
    rw [if_neg (by simp)]
    clear hr hA hI hlow hL
    go_enter Tryz.func48, Tryz.ntmps48
    go_wp2_with (go_at_call 61; refine (HRC.out _).mono ?_; rintro e u1 ⟨rfl, hb⟩; have HB1 := Hid.mk' (HB0.out.trans (hb.mono (by simp))); clear hb HRC HB0)
    go_ret
    exact ⟨rfl, HB1.out⟩
  | true =>
    rw [hr] at HRC
    rw [if_pos rfl]
    obtain ⟨hc0, hc4, hc2, d, rfl, h1, h2⟩ := rightB_d hr
    have lowU : ∀ u, Below w.heap.size w u → Low u.heap.size a n A L := fun u hu => ⟨fun x hx h0 => Nat.lt_of_lt_of_le (hlow.1 x hx h0) hu.size, fun i hi x hx h0 => Nat.lt_of_lt_of_le (hlow.2 i hi x hx h0) hu.size⟩
    have HIB := Hid.mk' (fun (u : World) (hu : Below w.heap.size w u) => isSound_any c0 c2 c3 c4 c5 c6 c7 d a n cap A L C F u hc0 (by omega) (by omega) hn hL (hA.below hu hlow.1) (fun i hi => (hI i hi).below hu (hlow.2 i hi)) (lowU u hu))
    rw [Int.toNat_natCast]
    clear hA hI hlow hL lowU hr
    by_cases hs : ChanP c0 d n 0 300 L F
    · rw [if_pos hs]
      have HS := Hid.mk' hs
      clear hs
      go_enter Tryz.func48, Tryz.ntmps48
      go_wp2_with (first
        | (go_at_call 61; refine (HRC.out _).mono ?_; rintro e u1 ⟨rfl, hb⟩; obtain ⟨hc1, hf1⟩ := bcell hb; have hs1 : w.heap.size < u1.heap.size := by {have := hb.size; simp at this; omega}; have HB1 := Hid.mk' (HB0.out.trans (hb.mono (by simp))); clear hb hf1 HRC HB0)
        | (go_at_call 81; refine (HIB.out _ ?_).mono ?_; exact HB1.out; rintro e u2 ⟨he, hb⟩; have he := he.true_of HS.out; subst he; have HB2 := Hid.mk' (HB1.out.trans (hb.mono HB1.out.size)); clear hb HIB HB1))
      go_ret
      exact ⟨rfl, HB2.out⟩
    · rw [if_neg hs]
      have HS := Hid.mk' hs
      clear hs
      go_enter Tryz.func48, Tryz.ntmps48
      go_wp2_with (first
        | (go_at_call 61; refine (HRC.out _).mono ?_; rintro e u1 ⟨rfl, hb⟩; obtain ⟨hc1, hf1⟩ := bcell hb; have hs1 : w.heap.size < u1.heap.size := by {have := hb.size; simp at this; omega}; have HB1 := Hid.mk' (HB0.out.trans (hb.mono (by simp))); clear hb hf1 HRC HB0)
        | (go_at_call 81; refine (HIB.out _ ?_).mono ?_; exact HB1.out; rintro e u2 ⟨he, hb⟩; have he := he.false_of HS.out; subst he; have HB2 := Hid.mk' (HB1.out.trans (hb.mono HB1.out.size)); clear hb HIB HB1))
      go_ret
      exact ⟨rfl, HB2.out⟩
set_option maxHeartbeats 2000000 in
theorem reelEncode_any (c0 c1 c2 c3 c4 c5 c6 c7 : Int) (a : Option Addr) (n cap : Nat) (A : Nat → Option Addr) (L C : Nat → Nat) (F : Nat → Nat → Int) (w : World) (hn : n ≤ 17592186044416) (hL : ∀ i, i < n → L i ≤ 17592186044416) (hC : ∀ i, i < n → L i ≤ C i)
    (hA : ListsAt w a n A L C) (hI : ∀ i, i < n → IntsAt w (A i) (L i) (F i)) (hlow : Low w.heap.size a n A L) (hT : TabsF w) :
    Calls Tryz.prog 19 #[.agg #[.int .i64 c0, .int .i64 c1, .int .i64 c2, .int .i64 c3, .int .i64 c4, .int .i64 c5, .int .i64 c6, .int .i64 c7], .slice a n cap] w fun e w' =>
      e = .returned (.tuple #[.string (encS c0 c1 c2 c3 c4 c5 c6 c7 n L F), .int .i64 (encE c0 c1 c2 c3 c4 c5 c6 c7 n L F)]) ∧ Below w.heap.size w w' := by
  have hb0 : Below w.heap.size w (w.alloc (.cells #[.int .i64 c0, .int .i64 c1, .int .i64 c2, .int .i64 c3, .int .i64 c4, .int .i64 c5, .int .i64 c6, .int .i64 c7] 23)) := (Below.refl _ _).alloc (Nat.le_refl _) _
  have HB0 := Hid.mk' hb0
  have lowU : ∀ u, Below w.heap.size w u → Low u.heap.size a n A L := fun u hu => ⟨fun x hx h0 => Nat.lt_of_lt_of_le (hlow.1 x hx h0) hu.size, fun i hi x hx h0 => Nat.lt_of_lt_of_le (hlow.2 i hi x hx h0) hu.size⟩
  have HCK := Hid.mk' (fun (u : World) (hu : Below w.heap.size w u) => reelCheck_any c0 c1 c2 c3 c4 c5 c6 c7 a n cap A L C F u hn hL (hA.below hu hlow.1) (fun i hi => (hI i hi).below hu (hlow.2 i hi)) (lowU u hu))
  by_cases hok : encOk c0 c1 c2 c3 c4 c5 c6 c7 n L F
  · obtain ⟨eS, eE⟩ := enc_yes hok
    rw [eE] at HCK
    rw [eS, eE]
    obtain ⟨hr, hs⟩ := hok
    obtain ⟨hc0, hc4, hc2, d, rfl, h1, h2⟩ := rightB_d hr
    have hri : 0 ≤ c3 ∧ c3 ≤ 65535 ∧ 0 ≤ c4 ∧ c4 ≤ 255 := by
      rw [rightB_info] at hr
      simp [infoB, within_iff] at hr
      omega
    obtain ⟨hnc, hL0, hall⟩ := hs
    subst hnc
    rw [within_iff] at hL0
    obtain ⟨B, rfl⟩ : ∃ B : Nat, c2 = (B : Int) := ⟨c2.toNat, by omega⟩
    obtain ⟨r, rfl⟩ : ∃ r : Nat, c3 = (r : Int) := ⟨c3.toNat, by omega⟩
    obtain ⟨k, rfl⟩ : ∃ k : Nat, c4 = (k : Int) := ⟨c4.toNat, by omega⟩
    simp only [Int.toNat_natCast] at *
    have hA2 : ListsAt w a n A (fun _ => L 0) C := fun i hi => by
      obtain ⟨x, hx, hc⟩ := hA i hi
      rw [(hall i hi).1] at hc
      exact ⟨x, hx, hc⟩
    have hI2 : ∀ i, i < n → IntsAt w (A i) (L 0) (F i) := fun i hi => by have := hI i hi; rw [(hall i hi).1] at this; exact this
    have hlow2 : Low w.heap.size a n A (fun _ => L 0) := ⟨hlow.1, fun i hi x hx h0 => hlow.2 i hi x hx (by rw [(hall i hi).1]; exact h0)⟩
    have HMK := Hid.mk' (fun (u : World) (hu : Below w.heap.size w u) => streamEncode_any c5 c6 c7 d B r k a n cap A (L 0) C F u (by omega) h2 (by omega) (by omega) (by omega) (by omega) (by omega) (by omega) (by omega) (fun i hi j hj => (hall i hi).2 j (by rw [(hall i hi).1]; exact hj)) (hA2.below hu hlow2.1) (fun i hi => by have := hC i hi; rw [(hall i hi).1] at this; exact this) (fun i hi => (hI2 i hi).below hu (hlow2.2 i hi))
      ⟨fun x hx h0 => Nat.lt_of_lt_of_le (hlow2.1 x hx h0) hu.size, fun i hi x hx h0 => Nat.lt_of_lt_of_le (hlow2.2 i hi x hx h0) hu.size⟩ (hT.below hu))
    clear hA hI hlow hT lowU hall hA2 hI2 hlow2 hr hb0 hL hC eS eE
    generalize bs (streamT d n B r k F (L 0)) = R at *
    go_enter Tryz.func19, Tryz.ntmps19
    go_wp2_with (first
      | (go_at_call 48; refine (HCK.out _ ?_).mono ?_; exact HB0.out; rintro e u1 ⟨rfl, hb⟩; obtain ⟨hc1, hf1⟩ := bcell hb; have hs1 : w.heap.size < u1.heap.size := by {have := hb.size; simp at this; omega}; have HB1 := Hid.mk' (HB0.out.trans (hb.mono (by simp))); clear hb hf1 HCK HB0)
      | (go_at_call 49; refine (HMK.out _ ?_).mono ?_; exact HB1.out; rintro e u3 ⟨rfl, hb⟩; have HB3 := Hid.mk' (HB1.out.trans (hb.mono (Nat.le_of_lt hs1))); clear hb HMK HB1))
    go_ret2
    exact ⟨rfl, HB3.out⟩
  · have hS := enc_no hok
    rw [hS]
    have hE := enc_e hok
    clear hA hI hlow hT lowU hb0 hL hC hS hok
    generalize encE c0 c1 c2 c3 c4 c5 c6 c7 n L F = E at *
    have tE : (E != 0) = true := by rcases hE with h | h <;> rw [h] <;> rfl
    have tE2 : ¬ E = 0 := by omega
    clear hE
    go_enter Tryz.func19, Tryz.ntmps19
    go_wp2_with (go_at_call 48; refine (HCK.out _ ?_).mono ?_; exact HB0.out; rintro e u1 ⟨rfl, hb⟩; have HB1 := Hid.mk' (HB0.out.trans (hb.mono (by simp))); clear hb HCK HB0)
    go_ret2
    exact ⟨rfl, HB1.out⟩
end Go.Proofs.YtlncjgnomhpjnaaGreatDoor

/-
  What 'reelkeep' makes, and what the program answers to it.
-/
namespace Go.Proofs.YtlncjgnomhpjnaaGreatDoor
open Go.RowKit Go.Deep
set_option linter.unusedVariables false
/-- the numbers of a right configuration -/
structure CfgK (ch d B c3 c4 c5 c6 c7 : Nat) : Prop where
  ch1 : 1 ≤ ch
  ch4 : ch ≤ 4
  d4 : 4 ≤ d
  d12 : d ≤ 12
  B1 : 1 ≤ B
  B32 : B ≤ 32
  c3b : c3 < 65536
  c4b : c4 < 256
  c51 : 1 ≤ c5
  c58 : c5 ≤ 8
  c61 : 1 ≤ c6
  c616 : c6 ≤ 16
  c71 : 1 ≤ c7
  c78 : c7 ≤ 8
theorem right_ok (c0 c1 c2 c3 c4 c5 c6 c7 : Int) (w : World) (h3 : -9223372036854775808 ≤ c3 ∧ c3 ≤ 9223372036854775807) (h4 : -9223372036854775808 ≤ c4 ∧ c4 ≤ 9223372036854775807) :
    Calls Tryz.prog 29 #[.agg #[.int .i64 c0, .int .i64 c1, .int .i64 c2, .int .i64 c3, .int .i64 c4, .int .i64 c5, .int .i64 c6, .int .i64 c7]] w fun e w' => ∃ ch d B c3 c4 c5 c6 c7 : Nat, e = .returned (.agg #[.int .i64 ch, .int .i64 d, .int .i64 B, .int .i64 c3, .int .i64 c4, .int .i64 c5, .int .i64 c6, .int .i64 c7]) ∧ CfgK ch d B c3 c4 c5 c6 c7 ∧ Below w.heap.size w w' := by
  refine (right_keep c0 c1 c2 c3 c4 c5 c6 c7 w h3 h4).mono ?_
  rintro e w' ⟨rfl, hb⟩
  have l0 := pickV_lt (wr64 (c0 - 1)) 4 (by omega)
  have l1 := pickV_lt (wr64 (c1 - 4)) 9 (by omega)
  have l2 := pickV_lt (wr64 (c2 - 1)) 32 (by omega)
  have l3 := pickV_lt c3 65536 (by omega)
  have l4 := pickV_lt c4 256 (by omega)
  have l5 := pickV_lt (wr64 (c5 - 1)) 8 (by omega)
  have l6 := pickV_lt (wr64 (c6 - 1)) 16 (by omega)
  have l7 := pickV_lt (wr64 (c7 - 1)) 8 (by omega)
  refine ⟨1 + pickV (wr64 (c0 - 1)) 4, 4 + pickV (wr64 (c1 - 4)) 9, 1 + pickV (wr64 (c2 - 1)) 32, pickV c3 65536, pickV c4 256, 1 + pickV (wr64 (c5 - 1)) 8, 1 + pickV (wr64 (c6 - 1)) 16, 1 + pickV (wr64 (c7 - 1)) 8, ?_, ⟨by omega, by omega, by omega, by omega, by omega, by omega, l3, l4, by omega, by omega, by omega, by omega, by omega, by omega⟩, hb⟩
  simp
/-- a sound that was made, and its configuration -/
theorem kp_of {ch d B c3 c4 c5 c6 c7 S n : Nat} {L : Nat → Nat} {F G : Nat → Nat → Int} (h : CfgK ch d B c3 c4 c5 c6 c7) (hS : S ≤ 300) (hG : ∀ i, i < ch → ∀ j, j < S → G i j = sndF d n L F i j) : KP d ch B c3 c4 S G :=
  ⟨h.d4, h.d12, h.ch1, h.ch4, h.B1, h.B32, h.c3b, h.c4b, hS, fun i hi j hj => by rw [hG i hi j hj]; exact sndF_fits _ _ _ _ _ _⟩
theorem enc_keep {base ch d B c3 c4 c5 c6 c7 S : Nat} {xv : Value} {gs : Nat → Nat} {G : Nat → Nat → Int} (u : World) (h : CfgK ch d B c3 c4 c5 c6 c7) (hk : KP d ch B c3 c4 S G) (hx : AccI base u xv S ch gs G) (hT : TabsF u) :
    Calls Tryz.prog 19 #[.agg #[.int .i64 ch, .int .i64 d, .int .i64 B, .int .i64 c3, .int .i64 c4, .int .i64 c5, .int .i64 c6, .int .i64 c7], xv] u fun e u' => e = .returned (.tuple #[.string (bs (streamT d ch B c3 c4 G S)), .int .i64 0]) ∧ Below u.heap.size u u' := by
  obtain ⟨g, c, rfl, h1, h2, h3⟩ := hx.open h.ch1
  obtain ⟨q1, q2, q3⟩ := hx.lists h3 h2
  have ha := h.ch1
  have hb := h.ch4
  have hc := hk.S3
  have b1 := h.d4
  have b2 := h.d12
  have b3 := h.B1
  have b4 := h.B32
  have b5 := h.c3b
  have b6 := h.c4b
  have b7 := h.c51
  have b8 := h.c58
  have b9 := h.c61
  have b10 := h.c616
  have b11 := h.c71
  have b12 := h.c78
  have hok : encOk ch d B c3 c4 c5 c6 c7 ch (fun _ => S) G := by
    refine ⟨?_, rfl, ?_, fun i hi => ⟨rfl, fun j hj => ?_⟩⟩
    · simp only [rightB, Bool.and_eq_true, within_iff]
      omega
    · show within (S : Int) 0 300 = true
      rw [within_iff]; omega
    · rw [Int.toNat_natCast]; exact hk.fit i hi j hj
  have hE := reelEncode_any ch d B c3 c4 c5 c6 c7 _ ch c _ (fun _ => S) (fun _ => S) G u (by omega) (fun i hi => by omega) (fun i hi => Nat.le_refl _) q1 q2 q3 hT
  rw [(enc_yes hok).1, (enc_yes hok).2] at hE
  simp only [Int.toNat_natCast] at hE
  exact hE
end Go.Proofs.YtlncjgnomhpjnaaGreatDoor

/-
  A sealed text in which one byte is another is not sealed.
-/
namespace Go.Proofs.YtlncjgnomhpjnaaGreatDoor
open Go.RowKit Go.Deep
set_option linter.unusedVariables false
theorem xor_cancel {a b c : Nat} (h : a ^^^ c = b ^^^ c) : a = b := by
  have := congrArg (fun x => x ^^^ c) h
  simpa [Nat.xor_assoc, Nat.xor_self, Nat.xor_zero] using this
theorem stepB_inj {k D R R' : Nat} (hD : D % 2 = 1) (h : stepB k D R = stepB k D R') : R = R' := by
  have key : ∀ x y, (x * 2) ^^^ D = y * 2 → False := fun x y e => by
    have h1 : ((x * 2) ^^^ D).testBit 0 = (y * 2).testBit 0 := by rw [e]
    rw [Nat.testBit_xor, Nat.testBit_zero, Nat.testBit_zero, Nat.testBit_zero, hD, Nat.mul_mod_left, Nat.mul_mod_left] at h1
    simp at h1
  unfold stepB at h
  split at h
  · split at h
    · have := xor_cancel h; omega
    · exact (key _ _ h).elim
  · split at h
    · exact (key _ _ h.symm).elim
    · omega
theorem stepsB_inj {k D R R' : Nat} (hD : D % 2 = 1) : ∀ t, stepsB k D t R = stepsB k D t R' → R = R'
  | 0, h => h
  | t + 1, h => stepsB_inj hD t (stepB_inj hD h)
theorem byteB_injR {k D R R' c : Nat} (hD : D % 2 = 1) (h : byteB k D R c = byteB k D R' c) : R = R' := xor_cancel (stepsB_inj hD 8 h)
theorem byteB_injC {k D R c c' : Nat} (hD : D % 2 = 1) (h : byteB k D R c = byteB k D R c') : c = c' := by
  have h1 := stepsB_inj hD 8 h
  rw [Nat.xor_comm R, Nat.xor_comm R] at h1
  have h2 := xor_cancel h1
  exact Nat.eq_of_mul_eq_mul_right (Nat.two_pow_pos _) h2
theorem fold_inj {k D : Nat} (hD : D % 2 = 1) : ∀ (l : List UInt8) (R R' : Nat), l.foldl (fun R c => byteB k D R c.toNat) R = l.foldl (fun R c => byteB k D R c.toNat) R' → R = R'
  | [], _, _, h => h
  | c :: l, R, R', h => byteB_injR hD (fold_inj hD l _ _ h)
theorem remB_one {k D : Nat} (hD : D % 2 = 1) (A Z : List UInt8) (b b' : UInt8) (h : remB k D (A ++ b :: Z) = remB k D (A ++ b' :: Z)) : b = b' := by
  unfold remB at h
  rw [List.foldl_append, List.foldl_append, List.foldl_cons, List.foldl_cons] at h
  exact UInt8.toNat.inj (byteB_injC hD (fold_inj hD Z _ _ h))
theorem remB_set {k D : Nat} (hD : D % 2 = 1) (M : List UInt8) (i : Nat) (v : UInt8) (hi : i < M.length) (h : remB k D M = remB k D (M.set i v)) : M[i] = v := by
  have e1 : M = M.take i ++ M[i] :: M.drop (i + 1) := by
    rw [← List.drop_eq_getElem_cons hi, List.take_append_drop]
  have e2 : M.set i v = M.take i ++ v :: M.drop (i + 1) := by
    rw [List.set_eq_take_append_cons_drop, if_pos hi]
  rw [e2] at h
  refine remB_one (k := k) hD (M.take i) (M.drop (i + 1)) _ _ ?_
  rw [← e1]
  exact h
/-- a seal does not bear a byte that is another -/
theorem seal_no {k D a n : Nat} (hk : 8 ≤ k) (hD : D < 2 ^ (k + 1)) (hD1 : D.testBit k = true) (hD2 : D % 2 = 1) (hn : 256 ^ n = 2 ^ k) {T : List UInt8} {i : Nat} {v : UInt8} (hl : a + n ≤ T.length) (hi : i < a + n) (hv : T[i]'(by omega) ≠ v)
    (h : T.take a ++ inT (crc k D (T.take a)) n = T.take (a + n)) (h' : (T.set i v).take a ++ inT (crc k D ((T.set i v).take a)) n = (T.set i v).take (a + n)) : False := by
  by_cases hia : i < a
  · have hM : (T.set i v).take a = (T.take a).set i v := List.take_set
    have hml : (T.take a).length = a := by rw [List.length_take]; omega
    have hd1 : (T.take (a + n)).drop a = inT (crc k D (T.take a)) n := by
      rw [← h, List.drop_append_of_le_length (by omega), List.drop_eq_nil_of_le (by omega), List.nil_append]
    have hd2 : ((T.set i v).take (a + n)).drop a = inT (crc k D ((T.set i v).take a)) n := by
      rw [← h', List.drop_append_of_le_length (by rw [hM, List.length_set]; omega), List.drop_eq_nil_of_le (by rw [hM, List.length_set]; omega), List.nil_append]
    have hd3 : ((T.set i v).take (a + n)).drop a = (T.take (a + n)).drop a := by
      rw [List.take_set, List.drop_set_of_lt hia]
    have he : inT (crc k D (T.take a)) n = inT (crc k D ((T.set i v).take a)) n := by rw [← hd1, ← hd2, hd3]
    have hc : crc k D (T.take a) = crc k D ((T.set i v).take a) := by
      rw [← valN_inT n (crc k D (T.take a)) (by rw [hn]; exact crc_lt _ _ _), ← valN_inT n (crc k D ((T.set i v).take a)) (by rw [hn]; exact crc_lt _ _ _), he]
    rw [crc_fast _ hk hD hD1, crc_fast _ hk hD hD1, hM] at hc
    have := remB_set hD2 (T.take a) i v (by omega) hc
    rw [List.getElem_take] at this
    exact hv this
  · have hM : (T.set i v).take a = T.take a := by
      rw [List.take_set, List.set_eq_of_length_le (by rw [List.length_take]; omega)]
    rw [hM, h] at h'
    have h2 : (T.take (a + n))[i]? = ((T.set i v).take (a + n))[i]? := by rw [h']
    rw [List.getElem?_take_of_lt hi, List.getElem?_take_of_lt hi, List.getElem?_set_self (by omega), List.getElem?_eq_getElem (by omega)] at h2
    exact hv (Option.some.inj h2)
theorem seal8_no {a : Nat} {T : List UInt8} {i : Nat} {v : UInt8} (hl : a + 1 ≤ T.length) (hi : i < a + 1) (hv : T[i]'(by omega) ≠ v) (h : seal8 (T.take a) = T.take (a + 1)) (h' : seal8 ((T.set i v).take a) = (T.set i v).take (a + 1)) : False :=
  seal_no (k := 8) (D := 263) (n := 1) (by decide) (by decide) (by decide) (by decide) (by decide) hl hi hv h h'
theorem seal16_no {a : Nat} {T : List UInt8} {i : Nat} {v : UInt8} (hl : a + 2 ≤ T.length) (hi : i < a + 2) (hv : T[i]'(by omega) ≠ v) (h : seal16 (T.take a) = T.take (a + 2)) (h' : seal16 ((T.set i v).take a) = (T.set i v).take (a + 2)) : False :=
  seal_no (k := 16) (D := 98309) (n := 2) (by decide) (by decide) (by decide) (by decide) (by decide) hl hi hv h h'
end Go.Proofs.YtlncjgnomhpjnaaGreatDoor

