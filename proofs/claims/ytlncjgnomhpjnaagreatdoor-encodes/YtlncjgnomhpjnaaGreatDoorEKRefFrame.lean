import Derived.Test.YtlncjgnomhpjnaaGreatDoorEJRefPair
import Derived.Test.YtlncjgnomhpjnaaGreatDoorEJFrameHead
import Derived.Test.YtlncjgnomhpjnaaGreatDoorEKFramePack
/-
  The document's frame: reelref.bitsOf, reelref.frame.
-/
namespace Go.Proofs.YtlncjgnomhpjnaaGreatDoor
open Go.RowKit Go.Deep
set_option linter.unusedVariables false

/-- the bits of a mode that is tried -/
def tryT (d n : Nat) (F : Nat → Nat → Int) (N m : Nat) : List UInt8 := if n = 2 then pairT d (F 0) (F 1) N m else allT d F N n
def roundM (d n : Nat) (F : Nat → Nat → Int) (N k : Nat) : Nat := if n = 2 then bestM (pairT d (F 0) (F 1) N) k else 0
def bestTx (d n : Nat) (F : Nat → Nat → Int) (N k : Nat) : List UInt8 := if k = 0 then [] else tryT d n F N (roundM d n F N k)
theorem tryT_bd (d n : Nat) (F : Nat → Nat → Int) (N m : Nat) (hn1 : 1 ≤ N) (hn : N ≤ 32) (hd : d ≤ 12) (h1 : 1 ≤ n) (h4 : n ≤ 4) : 8 ≤ (tryT d n F N m).length ∧ (tryT d n F N m).length ≤ 1696 := by
  unfold tryT; split
  · have := pairT_bd d (F 0) (F 1) N m hn1 hn hd; omega
  · have := allT_bd d F N hn1 hn hd n; omega
theorem bestTx_end (d n : Nat) (F : Nat → Nat → Int) (N : Nat) : bestTx d n F N 4 = blockT d n F N ∧ roundM d n F N 4 = modeN d n F N := by
  unfold bestTx tryT roundM blockT modeN
  by_cases h : n = 2
  · simp [h]
  · simp [h]
theorem round_first (d n : Nat) (F : Nat → Nat → Int) (N : Nat) : roundM d n F N 1 = 0 ∧ bestTx d n F N 1 = tryT d n F N 0 := by
  have e : roundM d n F N 1 = 0 := by unfold roundM bestM; simp
  refine ⟨e, ?_⟩
  unfold bestTx; rw [if_neg (by omega), e]
theorem round_skip (d n : Nat) (F : Nat → Nat → Int) (N k : Nat) (h : n ≠ 2) (hk : 1 ≤ k) : roundM d n F N (k + 1) = roundM d n F N k ∧ bestTx d n F N (k + 1) = bestTx d n F N k := by
  unfold bestTx roundM
  rw [if_neg h, if_neg h, if_neg (by omega), if_neg (by omega)]; exact ⟨rfl, rfl⟩
theorem round_take (d n : Nat) (F : Nat → Nat → Int) (N k : Nat) (h : n = 2) (hk : 1 ≤ k) (hl : (tryT d n F N k).length < (bestTx d n F N k).length) : roundM d n F N (k + 1) = k ∧ bestTx d n F N (k + 1) = tryT d n F N k := by
  have e : roundM d n F N (k + 1) = k := by
    unfold bestTx tryT roundM at hl
    rw [if_pos h, if_neg (by omega), if_pos h, if_pos h] at hl
    unfold roundM
    rw [if_pos h, bestM, if_pos (.inr hl)]
  refine ⟨e, ?_⟩
  unfold bestTx; rw [if_neg (by omega), e]
theorem round_keep (d n : Nat) (F : Nat → Nat → Int) (N k : Nat) (h : n = 2) (hk : 1 ≤ k) (hl : ¬ (tryT d n F N k).length < (bestTx d n F N k).length) : roundM d n F N (k + 1) = roundM d n F N k ∧ bestTx d n F N (k + 1) = bestTx d n F N k := by
  have e : roundM d n F N (k + 1) = roundM d n F N k := by
    unfold bestTx tryT roundM at hl
    rw [if_pos h, if_neg (by omega), if_pos h, if_pos h] at hl
    unfold roundM
    rw [if_pos h, if_pos h, bestM, if_neg (fun hh => hh.elim (fun h0 => by omega) hl)]
  refine ⟨e, ?_⟩
  unfold bestTx; rw [if_neg (by omega), if_neg (by omega), e]

theorem str_full {X : ByteArray} (h : 0 < X.size) : ¬ X.toList = [] := fun e => by
  rw [ByteArray.toList_eq] at e
  have h1 : X.data.toList.length = X.size := by simp
  rw [e] at h1
  simp at h1
  omega
/-- the configuration lies in its variable -/
structure CfgAt (w u : World) (cs : Array Value) : Prop where
  below : Below w.heap.size w u
  blk : u.heap[w.heap.size]? = some (.cells cs 23 (0, 0))
theorem CfgAt.next {w u u' : World} {cs : Array Value} (h : CfgAt w u cs) (hb : Below u.heap.size u u') : CfgAt w u' cs :=
  ⟨h.below.trans (hb.mono h.below.size), (hb.block _ (Array.getElem?_eq_some_iff.1 h.blk).1).trans h.blk⟩
theorem CfgAt.cells {w u : World} {v0 v1 v2 v3 v4 v5 v6 v7 : Value} (h : CfgAt w u #[v0, v1, v2, v3, v4, v5, v6, v7]) :
    u.cell? ⟨w.heap.size, 0, none⟩ = some v0 ∧ u.cell? ⟨w.heap.size, 1, none⟩ = some v1 ∧ u.cell? ⟨w.heap.size, 2, none⟩ = some v2 ∧ u.cell? ⟨w.heap.size, 3, none⟩ = some v3 ∧ u.cell? ⟨w.heap.size, 4, none⟩ = some v4 ∧ u.cell? ⟨w.heap.size, 5, none⟩ = some v5 ∧ u.cell? ⟨w.heap.size, 6, none⟩ = some v6 ∧ u.cell? ⟨w.heap.size, 7, none⟩ = some v7 :=
  ⟨Lib.cell_of_heap h.blk 0, Lib.cell_of_heap h.blk 1, Lib.cell_of_heap h.blk 2, Lib.cell_of_heap h.blk 3, Lib.cell_of_heap h.blk 4, Lib.cell_of_heap h.blk 5, Lib.cell_of_heap h.blk 6, Lib.cell_of_heap h.blk 7⟩

/-- what the tail of the document's frame is made of -/
structure Tail (TT : List UInt8) (mode N number : Nat) (X1 X2 X3 X4 X5 H X8 Bd S16 X16 R : ByteArray) (C8 C16 pl : Nat) : Prop where
  pk : ∀ u : World, Calls Tryz.prog 110 #[.string (bs TT)] u fun e w' => e = .returned (.string Bd) ∧ Below u.heap.size u w'
  l1 : ∀ u : World, Calls Tryz.prog 111 #[.int .i64 165, .int .i64 1] u fun e w' => e = .returned (.string X1) ∧ Below u.heap.size u w'
  l2 : ∀ u : World, Calls Tryz.prog 111 #[.int .i64 number, .int .i64 2] u fun e w' => e = .returned (.string X2) ∧ Below u.heap.size u w'
  l3 : ∀ u : World, Calls Tryz.prog 111 #[.int .i64 ((pl : Int) + 10), .int .i64 2] u fun e w' => e = .returned (.string X3) ∧ Below u.heap.size u w'
  l4 : ∀ u : World, Calls Tryz.prog 111 #[.int .i64 ((N : Int) - 1), .int .i64 1] u fun e w' => e = .returned (.string X4) ∧ Below u.heap.size u w'
  l5 : ∀ u : World, Calls Tryz.prog 111 #[.int .i64 mode, .int .i64 1] u fun e w' => e = .returned (.string X5) ∧ Below u.heap.size u w'
  e8 : ∀ u : World, Calls Tryz.prog 112 #[.string (X1 ++ X2 ++ X3 ++ X4 ++ X5)] u fun e w' => e = .returned (.int .i64 C8) ∧ Below u.heap.size u w'
  l8 : ∀ u : World, Calls Tryz.prog 111 #[.int .i64 C8, .int .i64 1] u fun e w' => e = .returned (.string X8) ∧ Below u.heap.size u w'
  e16 : ∀ u : World, Calls Tryz.prog 113 #[.string (X1 ++ X2 ++ X3 ++ X4 ++ X5 ++ X8 ++ Bd)] u fun e w' => e = .returned (.int .i64 C16) ∧ Below u.heap.size u w'
  l16 : ∀ u : World, Calls Tryz.prog 111 #[.int .i64 C16, .int .i64 2] u fun e w' => e = .returned (.string X16) ∧ Below u.heap.size u w'
  fin : X1 ++ X2 ++ X3 ++ X4 ++ X5 ++ X8 ++ Bd ++ X16 = R
  z1 : X1.size = 1
  z2 : X2.size = 2
  z3 : X3.size = 2
  z4 : X4.size = 1
  z5 : X5.size = 1
  z8 : X8.size = 1
  zb : Bd.size = pl
  z16 : X16.size = 2
  plb : pl ≤ 212
theorem frame_tail (d n : Nat) (F : Nat → Nat → Int) (N number : Nat) (hN1 : 1 ≤ N) (hN : N ≤ 32) (hd : d ≤ 12) (hn1 : 1 ≤ n) (hn4 : n ≤ 4) (hnum : number < 65536) :
    ∃ X1 X2 X3 X4 X5 H X8 Bd S16 X16 C8 C16 pl, Tail (blockT d n F N) (modeN d n F N) N number X1 X2 X3 X4 X5 H X8 Bd S16 X16 (bs (frameT number N (modeN d n F N) (blockT d n F N))) C8 C16 pl := by
  have hb := blockT_bd d n F N hN1 hN hd hn1 hn4
  have hbb := blockT_bits d n F N
  have hm := modeN_lt d n F N
  generalize blockT d n F N = TT at *
  generalize modeN d n F N = mode at *
  have hp : (packT TT).length ≤ 212 := by rw [packT_length]; omega
  have e1 : bs (inT 165 1) ++ bs (inT number 2) ++ bs (inT ((packT TT).length + 10) 2) ++ bs (inT (N - 1) 1) ++ bs (inT mode 1) = bs (headT number ((packT TT).length + 10) N mode) := by
    rw [bs_append, bs_append, bs_append, bs_append]; rfl
  have hc8 := crc_lt 8 263 (headT number ((packT TT).length + 10) N mode)
  have hc16 := crc_lt 16 98309 (seal8 (headT number ((packT TT).length + 10) N mode) ++ packT TT)
  have e2 : bs (headT number ((packT TT).length + 10) N mode) ++ bs (inT (crc 8 263 (headT number ((packT TT).length + 10) N mode)) 1) ++ bs (packT TT) = bs (seal8 (headT number ((packT TT).length + 10) N mode) ++ packT TT) := by
    rw [bs_append, bs_append]; rfl
  refine ⟨bs (inT 165 1), bs (inT number 2), bs (inT ((packT TT).length + 10) 2), bs (inT (N - 1) 1), bs (inT mode 1), ⟨#[]⟩, bs (inT (crc 8 263 (headT number ((packT TT).length + 10) N mode)) 1), bs (packT TT), ⟨#[]⟩, bs (inT (crc 16 98309 (seal8 (headT number ((packT TT).length + 10) N mode) ++ packT TT)) 2), crc 8 263 (headT number ((packT TT).length + 10) N mode), crc 16 98309 (seal8 (headT number ((packT TT).length + 10) N mode) ++ packT TT), (packT TT).length,
    ⟨fun u => packed_any TT u hbb (by omega), fun u => low_any 165 1 u (by omega) (by omega), fun u => low_any number 2 u (by omega) (by omega), fun u => ?_, fun u => ?_, fun u => low_any mode 1 u (by omega) (by omega), fun u => ?_, fun u => low_any _ 1 u (by omega) (by omega), fun u => ?_, fun u => low_any _ 2 u (by omega) (by omega), ?_, by rw [bs_size, inT_length], by rw [bs_size, inT_length], by rw [bs_size, inT_length], by rw [bs_size, inT_length], by rw [bs_size, inT_length], by rw [bs_size, inT_length], bs_size _, by rw [bs_size, inT_length], hp⟩⟩
  · have := low_any ((packT TT).length + 10) 2 u (by omega) (by omega)
    rwa [show (((packT TT).length + 10 : Nat) : Int) = ((packT TT).length : Int) + 10 by omega] at this
  · have := low_any (N - 1) 1 u (by omega) (by omega)
    rwa [show ((N - 1 : Nat) : Int) = (N : Int) - 1 by omega] at this
  · rw [e1]; exact ref8_bs _ u (by rw [headT_length]; omega)
  · rw [e1, e2]; exact ref16_bs _ u (by rw [List.length_append, seal8_length, headT_length]; omega)
  · rw [e1, e2, bs_append]; rfl

set_option maxRecDepth 4000 in
set_option maxHeartbeats 1000000 in
theorem rframe_any (c2 c3 c4 c5 c6 c7 : Int) (d number : Nat) (b off n cap : Nat) (A : Nat → Option Addr) (N : Nat) (C : Nat → Nat) (F : Nat → Nat → Int) (w : World) (hd1 : 1 ≤ d) (hd : d ≤ 12) (hn1 : 1 ≤ n) (hn4 : n ≤ 4) (hN1 : 1 ≤ N) (hN : N ≤ 32) (hnum : number < 65536)
    (hf : ∀ i, i < n → ∀ j, j < N → fitsB d (F i j) = true) (hc : ∀ i, i < n → w.cell? ⟨b, off + i, none⟩ = some (.slice (A i) N (C i))) (hbl : b < w.heap.size) (hI : ∀ i, i < n → IntsAt w (A i) N (F i)) (hlow : ∀ i, i < n → ∀ x, A i = some x → 0 < N → x.block < w.heap.size) (hT : TabAt w 3) (hTl : 3 < w.heap.size) :
    Calls Tryz.prog 71 #[.agg #[.int .i64 n, .int .i64 d, .int .i64 c2, .int .i64 c3, .int .i64 c4, .int .i64 c5, .int .i64 c6, .int .i64 c7], .int .i64 number, .slice (some ⟨b, off, none⟩) n cap] w fun e w' =>
      e = .returned (.string (bs (frameT number N (modeN d n F N) (blockT d n F N)))) ∧ Below w.heap.size w w' := by
  have HBO : Hid (∀ (u : World), Below w.heap.size w u → ∀ m : Nat, m < 4 → (m = 0 ∨ n = 2) → Calls Tryz.prog 109 #[.agg #[.int .i64 n, .int .i64 d, .int .i64 c2, .int .i64 c3, .int .i64 c4, .int .i64 c5, .int .i64 c6, .int .i64 c7], .int .i64 m, .slice (some ⟨b, off, none⟩) n cap] u fun e w' => e = .returned (.string (bs (tryT d n F N m))) ∧ Below u.heap.size u w') := by
    intro u hu m hm hmn
    have tb : TabAt u 3 := fun r c hr hc => (hu.cell (p := ⟨3, 4 * r + c, none⟩) hTl).trans (hT r c hr hc)
    by_cases h2 : n = 2
    · subst h2
      have e : tryT d 2 F N m = pairT d (F 0) (F 1) N m := by unfold tryT; rw [if_pos rfl]
      rw [e]
      exact bitsPair_any c2 c3 c4 c5 c6 c7 d m b off cap A N C F u hm hd1 hd hN1 hN hf ((hu.cell (p := ⟨b, off, none⟩) hbl).trans (hc 0 (by omega))) ((hu.cell (p := ⟨b, off + 1, none⟩) hbl).trans (hc 1 (by omega))) (Nat.lt_of_lt_of_le hbl hu.size) (fun i hi => (hI i hi).below hu (hlow i hi)) (fun i hi x hx h0 => Nat.lt_of_lt_of_le (hlow i hi x hx h0) hu.size) tb (Nat.lt_of_lt_of_le hTl hu.size)
    · have hm0 : m = 0 := hmn.elim id (fun h => absurd h h2)
      subst hm0
      have e : tryT d n F N 0 = allT d F N n := by unfold tryT; rw [if_neg h2]
      rw [e]
      exact bitsAll_any c2 c3 c4 c5 c6 c7 d b off n cap A N C F u h2 hn4 hd1 hd hN1 hN hf (fun i hi => (hu.cell (p := ⟨b, off + i, none⟩) hbl).trans (hc i hi)) (Nat.lt_of_lt_of_le hbl hu.size) (fun i hi => (hI i hi).below hu (hlow i hi)) (fun i hi x hx h0 => Nat.lt_of_lt_of_le (hlow i hi x hx h0) hu.size) tb (Nat.lt_of_lt_of_le hTl hu.size)
  have HTB := Hid.mk' (fun m => tryT_bd d n F N m hN1 hN hd hn1 hn4)
  have hb0 : Below w.heap.size w (w.alloc (.cells #[.int .i64 n, .int .i64 d, .int .i64 c2, .int .i64 c3, .int .i64 c4, .int .i64 c5, .int .i64 c6, .int .i64 c7] 23)) := (Below.refl _ _).alloc (Nat.le_refl _) _
  have HD0 : Hid (CfgAt w (w.alloc (.cells #[.int .i64 n, .int .i64 d, .int .i64 c2, .int .i64 c3, .int .i64 c4, .int .i64 c5, .int .i64 c6, .int .i64 c7] 23)) #[.int .i64 n, .int .i64 d, .int .i64 c2, .int .i64 c3, .int .i64 c4, .int .i64 c5, .int .i64 c6, .int .i64 c7]) := ⟨hb0, blk_alloc_new _ _⟩
  have HC0 := Hid.mk' (fun (u : World) (hu : Below w.heap.size w u) => (hu.cell (p := ⟨b, off, none⟩) hbl).trans (hc 0 (by omega)))
  clear hf hI hlow hT hc hb0
  go_enter Tryz.func71, Tryz.ntmps71
  go_wp2
  go_loopw [7, 8, 9] (fun sv mv iv wr => ∃ k : Nat, k ≤ 4 ∧ iv = .int .i64 k ∧ sv = .string (bs (bestTx d n F N k)) ∧ mv = .int .i64 (roundM d n F N k : Nat) ∧ Hid (CfgAt w wr (#[.int .i64 n, .int .i64 d, .int .i64 c2, .int .i64 c3, .int .i64 c4, .int .i64 c5, .int .i64 c6, .int .i64 c7]))) (fun _ _ iv _ => 4 - (intOf iv).toNat)
  case atStart => exact ⟨0, by omega, rfl, by unfold bestTx; rw [if_pos rfl]; rfl, by unfold roundM; split <;> rfl, HD0.out⟩
  case round =>
    obtain ⟨k, hk, rfl, rfl, rfl, HR⟩ := hrel
    by_cases hlt : k < 4
    · obtain ⟨q0, q1, q2, q3, q4, q5, q6, q7⟩ := HR.out.cells
      by_cases hk0 : k = 0
      · subst hk0
        have e1 : bs (bestTx d n F N 0) = ⟨#[]⟩ := by unfold bestTx; rw [if_pos rfl]; rfl
        rw [e1]
        have HE := Hid.mk' (round_first d n F N)
        have HCB := Hid.mk' (HBO.out wr HR.out.below 0 (by omega) (.inl rfl))
        generalize roundM d n F N 0 = rm at *
        clear e1
        go_wp2_with (go_at_call 109; refine HCB.out.mono ?_; rintro e u1 ⟨rfl, hb1⟩; have HN := Hid.mk' (HR.out.next hb1); clear hb1 HCB)
        go_roundw
        case rel => exact ⟨1, by omega, by go_num, by rw [HE.out.2], by rw [HE.out.1]; rfl, HN.out⟩
        case measure => simp [intOf]
      · have tk0 : ((k : Int) == 0) = false := by simp; omega
        by_cases h2 : n = 2
        · have HCB := Hid.mk' (HBO.out wr HR.out.below k hlt (.inr h2))
          have hX : (bs (bestTx d n F N k)).size = (bestTx d n F N k).length := bs_size _
          have hY : (bs (tryT d n F N k)).size = (tryT d n F N k).length := bs_size _
          have hbt : bestTx d n F N k = tryT d n F N (roundM d n F N k) := by unfold bestTx; rw [if_neg hk0]
          have hXl : 8 ≤ (bestTx d n F N k).length ∧ (bestTx d n F N k).length ≤ 1696 := by rw [hbt]; exact HTB.out _
          have hYl := HTB.out k
          have hle : ¬ (bs (bestTx d n F N k)).toList = [] := str_full (by rw [hX]; omega)
          have hle2 : (bs (bestTx d n F N k)).toList.isEmpty = false := by
            cases h : (bs (bestTx d n F N k)).toList.isEmpty with
            | false => rfl
            | true => exact absurd (List.isEmpty_iff.1 h) hle
          by_cases hl : (tryT d n F N k).length < (bestTx d n F N k).length
          · have HE0 := round_take d n F N k h2 (by omega) hl
            have HE := Hid.mk' (And.intro (congrArg bs HE0.2) HE0.1)
            clear HE0
            have td : decide (((bs (tryT d n F N k)).size : Int) < ((bs (bestTx d n F N k)).size : Int)) = true := decide_eq_true (by omega)
            rw [hX, hY] at td
            have HH := Hid.mk' (And.intro hbt h2)
            clear hbt h2
            generalize bs (bestTx d n F N k) = X at *
            generalize bs (tryT d n F N k) = Y at *
            generalize (bestTx d n F N k).length = xl at *
            generalize (tryT d n F N k).length = yl at *
            generalize roundM d n F N k = rm at *
            have q0' : ((n : Int) == 2) = true := by have := HH.out.2; simp; omega
            go_wp2_with (go_at_call 109; refine HCB.out.mono ?_; rintro e u1 ⟨rfl, hb1⟩; have HN := Hid.mk' (HR.out.next hb1); clear hb1 HCB)
            go_roundw
            case rel => exact ⟨k + 1, by omega, by go_num, by rw [HE.out.1], by rw [HE.out.2], HN.out⟩
            case measure => simp [intOf]; omega
          · have HE0 := round_keep d n F N k h2 (by omega) hl
            have HE := Hid.mk' (And.intro (congrArg bs HE0.2) HE0.1)
            clear HE0
            have td : decide (((bs (tryT d n F N k)).size : Int) < ((bs (bestTx d n F N k)).size : Int)) = false := decide_eq_false (by omega)
            rw [hX, hY] at td
            have HH := Hid.mk' (And.intro hbt h2)
            clear hbt h2
            generalize bs (bestTx d n F N k) = X at *
            generalize bs (tryT d n F N k) = Y at *
            generalize (bestTx d n F N k).length = xl at *
            generalize (tryT d n F N k).length = yl at *
            generalize roundM d n F N k = rm at *
            have q0' : ((n : Int) == 2) = true := by have := HH.out.2; simp; omega
            go_wp2_with (go_at_call 109; refine HCB.out.mono ?_; rintro e u1 ⟨rfl, hb1⟩; have HN := Hid.mk' (HR.out.next hb1); clear hb1 HCB)
            go_roundw
            case rel => exact ⟨k + 1, by omega, by go_num, by rw [HE.out.1], by rw [HE.out.2], HN.out⟩
            case measure => simp [intOf]; omega
        · have HE := Hid.mk' (round_skip d n F N k h2 (by omega))
          have q0' : ((n : Int) == 2) = false := by simp; omega
          clear h2
          go_wp2
          go_roundw
          case rel => exact ⟨k + 1, by omega, by go_num, by rw [HE.out.2], by rw [HE.out.1], HR.out⟩
          case measure => simp [intOf]; omega
    · have e : k = 4 := by omega
      subst e
      rw [(bestTx_end d n F N).1, (bestTx_end d n F N).2]
      have HK1 := Hid.mk' (HC0.out wr HR.out.below)
      have HRB := Hid.mk' HR.out.below
      have HKC := HC0
      clear HBO HTB HD0 HR
      obtain ⟨X1, X2, X3, X4, X5, H, X8, Bd, S16, X16, C8, C16, pl, HT⟩ := frame_tail d n F N number hN1 hN hd hn1 hn4 hnum
      have HTT := Hid.mk' HT
      have z1 := HT.z1
      have z2 := HT.z2
      have z3 := HT.z3
      have z4 := HT.z4
      have z5 := HT.z5
      have z8 := HT.z8
      have zb := HT.zb
      have z16 := HT.z16
      have plb := HT.plb
      have HL1 := Hid.mk' HT.l1
      have HL2 := Hid.mk' HT.l2
      have HL3 := Hid.mk' HT.l3
      have HL4 := Hid.mk' HT.l4
      have HL5 := Hid.mk' HT.l5
      clear HT
      have hk1 := HK1.out
      have wp10 : IntKind.i64.wrap ((pl : Int) + 10) = (pl : Int) + 10 := by rw [IntKind.wrap_i64]; omega
      have wn1 : IntKind.i64.wrap ((N : Int) - 1) = (N : Int) - 1 := by rw [IntKind.wrap_i64]; omega
      go_wp2_with (go_at_call 110; refine (HTT.out.pk _).mono ?_; rintro e u1 ⟨rfl, hb1⟩; have HB1 := Hid.mk' (HRB.out.trans (hb1.mono HRB.out.size)); have hk2 := HKC.out _ HB1.out; clear hb1)
      have hS0 : u1.drew.cell? ⟨b, off, none⟩ = some (.slice (A 0) N (C 0)) := hk2
      have hn0 : (0 : Int) < (n : Int) := by omega
      have hn0a : 0 < n := by omega
      have hn0b : ¬ n = 0 := by omega
      have hn0c : ¬ (n : Int) ≤ 0 := by omega
      have hn0d : ¬ n ≤ 0 := by omega
      go_region_held3 (fun w' => w'.cell? ⟨b, off, none⟩ = some (.slice (A 0) N (C 0)))
        (first | with_reducible exact hS0 | with_reducible exact hS1 | with_reducible exact hS2 | with_reducible exact hS3 | with_reducible exact hS4 | with_reducible exact hS5)
        (first
        | (go_at_call 111; refine (HL1.out _).mono ?_; rintro e v1 ⟨rfl, hb⟩; have HV1 := Hid.mk' (HB1.out.drew.trans (hb.mono HB1.out.size)); have hS1 := HKC.out _ HV1.out; clear hb HL1)
        | (go_at_call 111; refine (HL2.out _).mono ?_; rintro e v2 ⟨rfl, hb⟩; have HV2 := Hid.mk' (HV1.out.trans (hb.mono HV1.out.size)); have hS2 := HKC.out _ HV2.out; clear hb HL2)
        | (go_at_call 111; refine (HL3.out _).mono ?_; rintro e v3 ⟨rfl, hb⟩; have HV3 := Hid.mk' (HV2.out.trans (hb.mono HV2.out.size)); have hS3 := HKC.out _ HV3.out; clear hb HL3)
        | (go_at_call 111; refine (HL4.out _).mono ?_; rintro e v4 ⟨rfl, hb⟩; have HV4 := Hid.mk' (HV3.out.trans (hb.mono HV3.out.size)); have hS4 := HKC.out _ HV4.out; clear hb HL4)
        | (go_at_call 111; refine (HL5.out _).mono ?_; rintro e v5 ⟨rfl, hb⟩; have HV5 := Hid.mk' (HV4.out.trans (hb.mono HV4.out.size)); have hS5 := HKC.out _ HV5.out; clear hb HL5))
      have HE8 := Hid.mk' HTT.out.e8
      have HL8 := Hid.mk' HTT.out.l8
      have HE16 := Hid.mk' HTT.out.e16
      have HL16 := Hid.mk' HTT.out.l16
      go_wp2_with (first
        | (go_at_call 112; refine (HE8.out _).mono ?_; rintro e v6 ⟨rfl, hb⟩; have HV6 := Hid.mk' (HV5.out.trans (hb.mono HV5.out.size)); clear hb HE8)
        | (go_at_call 111; refine (HL8.out _).mono ?_; rintro e v7 ⟨rfl, hb⟩; have HV7 := Hid.mk' (HV6.out.trans (hb.mono HV6.out.size)); clear hb HL8)
        | (go_at_call 113; refine (HE16.out _).mono ?_; rintro e v8 ⟨rfl, hb⟩; have HV8 := Hid.mk' (HV7.out.trans (hb.mono HV7.out.size)); clear hb HE16)
        | (go_at_call 111; refine (HL16.out _).mono ?_; rintro e v9 ⟨rfl, hb⟩; have HV9 := Hid.mk' (HV8.out.trans (hb.mono HV8.out.size)); clear hb HL16))
      go_ret
      exact ⟨by rw [HTT.out.fin]; rfl, HV9.out⟩
end Go.Proofs.YtlncjgnomhpjnaaGreatDoor

