import Derived.Test.YtlncjgnomhpjnabGreatDoorQU13
import Derived.Test.YtlncjgnomhpjnabGreatDoorQU21
import Derived.Test.YtlncjgnomhpjnabGreatDoorQU17
import Derived.ArgAppend
/-
  Bits in bytes: bittext.Bytes and reelref.packed.
-/
namespace Go.Proofs.YtlncjgnomhpjnabGreatDoor
open Go.RowKit Go.Deep
set_option linter.unusedVariables false
theorem or_u8 (a b : Nat) (ha : a < 256) (hb : b < 256) : bits .or .u8 (a : Int) (b : Int) = ((a ||| b : Nat) : Int) := by
  have hx : a ||| b < 2 ^ 8 := Nat.or_lt_two_pow (by omega) (by omega)
  have h1 : (BitVec.ofInt 8 (a : Int)).toNat = a := by
    rw [BitVec.ofInt_natCast, BitVec.toNat_ofNat]; exact Nat.mod_eq_of_lt (by omega)
  have h2 : (BitVec.ofInt 8 (b : Int)).toNat = b := by
    rw [BitVec.ofInt_natCast, BitVec.toNat_ofNat]; exact Nat.mod_eq_of_lt (by omega)
  show IntKind.u8.wrap ((BitVec.ofInt 8 (a : Int) ||| BitVec.ofInt 8 (b : Int)).toNat : Int) = _
  rw [BitVec.toNat_or, h1, h2, IntKind.wrap_u8]
  omega
set_option maxHeartbeats 1000000 in
theorem bytes_any (T : List UInt8) (w : World) (hT : AllB T) (hs : T.length ≤ 100000) :
    Calls Tryz.prog 124 #[.string (bs T)] w fun e w' => e = .returned (.string (bs (packT T))) ∧ Below w.heap.size w w' := by
  obtain ⟨S, hS⟩ : ∃ S, S = bs T := ⟨_, rfl⟩
  have hz : S.size = T.length := by rw [hS, bs_size]
  have hmk := run_make_row' (P := Tryz.prog) 33 5 (.int .u8 0) 1 Tryz.underlying33 infoByte rfl .i64 .i64 ((T.length + 7) / 8) (by omega) (by omega)
  have hq : ((S.size : Int) + 8 - 1).tdiv 8 = (((T.length + 7) / 8 : Nat) : Int) := by rw [Int.tdiv_eq_ediv_of_nonneg (by omega), hz]; omega
  have w1 : IntKind.i64.wrap ((S.size : Int) + 8) = (S.size : Int) + 8 := by rw [IntKind.wrap_i64]; omega
  have w2 : IntKind.i64.wrap ((S.size : Int) + 8 - 1) = (S.size : Int) + 8 - 1 := by rw [IntKind.wrap_i64]; omega
  have HG : Hid (∀ j (h : j < S.size), S[j] = ltr (tbit T j)) := by
    show ∀ j (h : j < S.size), S[j] = ltr (tbit T j)
    subst hS
    intro j h
    rw [bs_get]; exact tbit_get hT j (by rw [bs_size] at h; exact h)
  have HZ := Hid.mk' hz
  have HST : Hid (strOf (pkB T) ((T.length + 7) / 8) = bs (packT T)) := strOf_pack T
  rw [← hS]
  clear hS hz hT
  generalize hR : bs (packT T) = R at *
  clear hR
  obtain ⟨M, hM⟩ : ∃ M, M = (T.length + 7) / 8 := ⟨_, rfl⟩
  have hMb : M ≤ 12501 := by omega
  rw [← hM] at hmk hq HST
  have HM := Hid.mk' hM
  clear hM
  go_enter Tryz.func124, Tryz.ntmps124
  go_wp2
  clear hmk hq w1 w2
  have HCV := Hid.mk' (fun (u : World) h => run_rowString (P := Tryz.prog) u 33 9 5 w.heap.size 0 M M (pkB T) Tryz.underlying33 Tryz.underlying5 Tryz.underlying9 h)
  go_loopw [4, 13] (fun _ i wr => ∃ k : Nat, k ≤ S.size ∧ i = .int .i64 k ∧ Hid (wr.rowIs w.heap.size 5 M (fun j => .int .u8 (pkN T k j : Nat)) ∧ Below w.heap.size w wr)) (fun _ i _ => S.size - (intOf i).toNat)
  case atStart => exact ⟨0, Nat.zero_le _, rfl, (World.rowIs_made w (.int .u8 0) M 5).congr fun i _ => by rw [pkN_zero]; rfl, (Below.refl _ _).alloc (Nat.le_refl _) _⟩
  case round =>
    obtain ⟨m, hm, rfl, HR⟩ := hrel
    by_cases hlt : m < S.size
    · have hdm : m / 8 < M := by have := HM.out; have := HZ.out; omega
      have hc1 := HR.out.1.cell hdm
      have hf1 := HR.out.1.frozen (m / 8)
      have hb := HG.out m hlt
      have hbn : (S[m].toNat : Int) = 48 + ((tbit T m).toNat : Int) := by rw [hb, ltr_nat]; omega
      have hb2 : (tbit T m).toNat ≤ 1 := Bool.toNat_le _
      have hp := pkN_lt T m (m / 8)
      have hp2 : (tbit T m).toNat * 2 ^ (7 - m % 8) < 256 := by
        have : 2 ^ (7 - m % 8) ≤ 2 ^ 7 := Nat.pow_le_pow_right (by omega) (by omega)
        have := Nat.mul_le_mul hb2 this
        omega
      have hor := or_u8 _ _ hp hp2
      rw [pkN_step] at hor
      have hset : (wr.setCell ⟨w.heap.size, m / 8, none⟩ (.int .u8 (pkN T (m + 1) (m / 8) : Nat))).rowIs w.heap.size 5 M (fun j => .int .u8 (pkN T (m + 1) j : Nat)) :=
        (HR.out.1.set (m / 8) _).congr fun j _ => by
          by_cases e : j = m / 8
          · rw [if_pos e, e]
          · rw [if_neg e, pkN_other T m j e]
      have HSET := Hid.mk' hset
      have HB := Hid.mk' hb
      generalize pkN T (m + 1) (m / 8) = P2 at *
      generalize pkN T m (m / 8) = P1 at *
      have td : (m : Int).tdiv 8 = ((m / 8 : Nat) : Int) := by rw [Int.tdiv_eq_ediv_of_nonneg (by omega)]; omega
      have tm : (m : Int).tmod 8 = ((m % 8 : Nat) : Int) := by rw [Int.tmod_eq_emod_of_nonneg (by omega)]; omega
      have hm8 : m % 8 < 8 := Nat.mod_lt _ (by omega)
      have hval : bits .or .u8 (P1 : Int) ((48 + ((tbit T m).toNat : Int) - 48) * 2 ^ (7 - m % 8) % 256) = (P2 : Int) := by
        rw [← hor]; congr 1
        have e2 : (((tbit T m).toNat * 2 ^ (7 - m % 8) : Nat) : Int) = ((tbit T m).toNat : Int) * 2 ^ (7 - m % 8) := by simp
        rw [show (48 + ((tbit T m).toNat : Int) - 48) = ((tbit T m).toNat : Int) by omega, ← e2]
        omega
      clear hset hb
      go_wp2
      go_region
      all_goals go_wp2
      go_roundw
      case rel => exact ⟨m + 1, by omega, by go_num, HSET.out, by exact (HR.out.2.setCell (Nat.le_refl _) _).drew⟩
      case measure => simp [intOf]; omega
    · have e : m = S.size := by omega
      have hcv := HCV.out wr (fun i hi => by
        have := HR.out.1.cell (i := i) hi
        rw [e, HZ.out] at this
        rw [Nat.zero_add, this, pkB_nat])
      rw [HST.out] at hcv
      subst e
      clear HCV
      go_wp2
      go_ret
      exact ⟨rfl, HR.out.2⟩
end Go.Proofs.YtlncjgnomhpjnabGreatDoor

/-
  frame.Make, reel.Frame.
-/
namespace Go.Proofs.YtlncjgnomhpjnabGreatDoor
open Go.RowKit Go.Deep
set_option linter.unusedVariables false
theorem packT_bd (d n : Nat) (F : Nat → Nat → Int) (N : Nat) (hn1 : 1 ≤ N) (hn : N ≤ 32) (hd : d ≤ 12) (h1 : 1 ≤ n) (h4 : n ≤ 4) : (packT (blockT d n F N)).length ≤ 212 := by
  rw [packT_length]
  have := blockT_bd d n F N hn1 hn hd h1 h4
  omega
set_option maxHeartbeats 2000000 in
theorem make_any (c2 c3 c4 c5 c6 c7 : Int) (d number : Nat) (a : Option Addr) (n cap : Nat) (A : Nat → Option Addr) (N : Nat) (C : Nat → Nat) (F : Nat → Nat → Int) (w : World) (hd1 : 1 ≤ d) (hd : d ≤ 12) (hn1 : 1 ≤ n) (hn4 : n ≤ 4) (hN1 : 1 ≤ N) (hN : N ≤ 32) (hnum : number < 65536)
    (hf : ∀ i, i < n → ∀ j, j < N → fitsB d (F i j) = true) (hA : ListsAt w a n A (fun _ => N) C) (hI : ∀ i, i < n → IntsAt w (A i) N (F i)) (hlow : Low w.heap.size a n A (fun _ => N)) (hT : TabsF w) :
    Calls Tryz.prog 63 #[.agg #[.int .i64 n, .int .i64 d, .int .i64 c2, .int .i64 c3, .int .i64 c4, .int .i64 c5, .int .i64 c6, .int .i64 c7], .int .i64 number, .slice a n cap] w fun e w' =>
      e = .returned (.string (bs (frameT number N (modeN d n F N) (blockT d n F N)))) ∧ Below w.heap.size w w' := by
  have hb0 : Below w.heap.size w (w.alloc (.cells #[.int .i64 n, .int .i64 d, .int .i64 c2, .int .i64 c3, .int .i64 c4, .int .i64 c5, .int .i64 c6, .int .i64 c7] 23)) := (Below.refl _ _).alloc (Nat.le_refl _) _
  have HSM := Hid.mk' (shortestMode_any d a n cap A N C F _ hd1 hd hn1 hn4 hN1 hN hf (hA.below hb0 hlow.1) (fun i hi => (hI i hi).below hb0 (hlow.2 i hi)) ⟨fun x hx h0 => Nat.lt_of_lt_of_le (hlow.1 x hx h0) hb0.size, fun i hi x hx h0 => Nat.lt_of_lt_of_le (hlow.2 i hi x hx h0) hb0.size⟩ (hT.below hb0))
  have HBY := Hid.mk' (fun u => bytes_any (blockT d n F N) u (blockT_bits d n F N) (by have := blockT_bd d n F N hN1 hN hd hn1 hn4; omega))
  have hpk := packT_bd d n F N hN1 hN hd hn1 hn4
  have hmd := modeN_lt d n F N
  have HHL := Hid.mk' (fun u => headLay_any number ((packT (blockT d n F N)).length + 10) N (modeN d n F N) u hnum (by omega) hN1 (by omega) (by omega))
  have HSE := Hid.mk' (fun u => seal16_any (seal8 (headT number ((packT (blockT d n F N)).length + 10) N (modeN d n F N)) ++ packT (blockT d n F N)) u (by rw [List.length_append, seal8_length, headT_length]; omega))
  have HAP : Hid (bs (seal8 (headT number ((packT (blockT d n F N)).length + 10) N (modeN d n F N)) ++ packT (blockT d n F N)) = bs (seal8 (headT number ((packT (blockT d n F N)).length + 10) N (modeN d n F N))) ++ bs (packT (blockT d n F N))) := (bs_append _ _).symm
  have HFR : Hid (seal16 (seal8 (headT number ((packT (blockT d n F N)).length + 10) N (modeN d n F N)) ++ packT (blockT d n F N)) = frameT number N (modeN d n F N) (blockT d n F N)) := rfl
  rw [HFR.out, HAP.out] at HSE
  have hz1 : (bs (packT (blockT d n F N))).size = (packT (blockT d n F N)).length := bs_size _
  have hz2 : (bs (seal8 (headT number ((packT (blockT d n F N)).length + 10) N (modeN d n F N)))).size = 8 := by rw [bs_size, seal8_length, headT_length]
  obtain ⟨b, off, rfl, hcell⟩ := hA.open (by omega)
  have hc0 := hcell 0 (by omega)
  have hbl : b < w.heap.size := hlow.1 _ rfl (by omega : 0 < n)
  simp only [Nat.add_zero] at hc0
  have HB0 := Hid.mk' hb0
  clear HFR HAP hf hA hI hlow hT hcell hb0
  generalize frameT number N (modeN d n F N) (blockT d n F N) = R at *
  generalize bs (seal8 (headT number ((packT (blockT d n F N)).length + 10) N (modeN d n F N))) = H at *
  generalize bs (packT (blockT d n F N)) = P at *
  generalize (packT (blockT d n F N)).length = pl at *
  generalize modeN d n F N = mode at *
  generalize bs (blockT d n F N) = T at *
  have e10 : ((pl + 10 : Nat) : Int) = 8 + (pl : Int) + 2 := by omega
  rw [e10] at HHL
  clear e10
  go_enter Tryz.func63, Tryz.ntmps63
  go_wp2_with (first
    | (go_at_call 123; refine HSM.out.mono ?_; rintro e u1 ⟨rfl, hb⟩; obtain ⟨hc1, hf1⟩ := bcell hb; have hs1 : w.heap.size < u1.heap.size := by {have := hb.size; simp at this; omega}; have HB1 := Hid.mk' (HB0.out.trans (hb.mono (by simp))); clear hb hf1 HSM HB0)
    | (go_at_call 124; refine (HBY.out _).mono ?_; rintro e u2 ⟨rfl, hb⟩; obtain ⟨hc2, hf2⟩ := bcell hb; have hs2 : w.heap.size < u2.heap.size := Nat.lt_of_lt_of_le hs1 hb.size; have HB2 := Hid.mk' (HB1.out.trans (hb.mono (Nat.le_of_lt hs1))); have hq2 : u2.cell? ⟨b, off, none⟩ = some (.slice (A 0) N (C 0)) := (HB2.out.cell (p := ⟨b, off, none⟩) hbl).trans hc0; clear hb hf2 HBY HB1)
    | (go_at_call 126; refine (HHL.out _).mono ?_; rintro e u3 ⟨rfl, hb⟩; have HB3 := Hid.mk' ((HB2.out.alloc HB2.out.size _).trans (hb.mono (by have := hs2; simp; omega))); have hs3 : w.heap.size < u3.heap.size := by {have := hb.size; simp at this; omega}; clear hb HHL HB2)
    | (go_at_call 125; refine (HSE.out _).mono ?_; rintro e u4 ⟨rfl, hb⟩; have HB4 := Hid.mk' (HB3.out.trans (hb.mono (Nat.le_of_lt hs3))); clear hb HSE HB3))
  go_ret
  exact ⟨rfl, HB4.out⟩
end Go.Proofs.YtlncjgnomhpjnabGreatDoor

/-
  Plain mathematics for 'Sums': running sums of bytes. No dump is imported.
-/
namespace Go.Proofs.YtlncjgnomhpjnabGreatDoor
/-- one and the bytes' sum -/
def sA (l : List UInt8) : Nat := l.foldl (fun a c => a + c.toNat) 1
/-- the sum of the sums -/
def sP (l : List UInt8) : Nat × Nat := l.foldl (fun p c => (p.1 + c.toNat, p.2 + (p.1 + c.toNat))) (1, 0)
def sB (l : List UInt8) : Nat := (sP l).2
theorem sA_snoc (l : List UInt8) (c : UInt8) : sA (l ++ [c]) = sA l + c.toNat := by simp [sA, List.foldl_append]
theorem sP_snoc (l : List UInt8) (c : UInt8) : sP (l ++ [c]) = ((sP l).1 + c.toNat, (sP l).2 + ((sP l).1 + c.toNat)) := by simp [sP, List.foldl_append]
theorem snoc_ind {P : List UInt8 → Prop} (h0 : P []) (h1 : ∀ l c, P l → P (l ++ [c])) (l : List UInt8) : P l := by
  have h : ∀ m : List UInt8, P m.reverse := by
    intro m
    induction m with
    | nil => exact h0
    | cons c m ih => rw [List.reverse_cons]; exact h1 _ _ ih
  have := h l.reverse
  rwa [List.reverse_reverse] at this
theorem sP_fst (l : List UInt8) : (sP l).1 = sA l := by
  refine snoc_ind (P := fun l => (sP l).1 = sA l) rfl ?_ l
  intro l c ih
  rw [sP_snoc, sA_snoc, ih]
theorem sB_snoc (l : List UInt8) (c : UInt8) : sB (l ++ [c]) = sB l + sA (l ++ [c]) := by
  unfold sB; rw [sP_snoc, sA_snoc, sP_fst]
end Go.Proofs.YtlncjgnomhpjnabGreatDoor

/-
  A stream as a text: mathematics for stream.Encode and reelref.Encode.
-/
namespace Go.Proofs.YtlncjgnomhpjnabGreatDoor
set_option linter.unusedVariables false
/-- the samples of block k -/
def blkF (F : Nat → Nat → Int) (B k i j : Nat) : Int := F i (k * B + j)
def blkN (S B k : Nat) : Nat := min B (S - k * B)
def nBlk (S B : Nat) : Nat := (S + B - 1) / B
theorem nBlk_le {S B : Nat} (hB : 1 ≤ B) : nBlk S B ≤ S := by
  unfold nBlk
  have h : (S + B - 1) / B < S + 1 := by
    rw [Nat.div_lt_iff_lt_mul (by omega), Nat.add_mul, Nat.one_mul]
    have : S ≤ S * B := Nat.le_mul_of_pos_right S hB
    omega
  omega
theorem nBlk_lt {S B k : Nat} (hB : 1 ≤ B) : k < nBlk S B ↔ k * B < S := by
  unfold nBlk
  constructor
  · intro h
    have h2 : (k + 1) * B ≤ S + B - 1 := Nat.le_trans (Nat.mul_le_mul_right B h) (Nat.div_mul_le_self _ _)
    rw [Nat.add_mul, Nat.one_mul] at h2
    omega
  · intro h
    rw [← Nat.succ_le_iff, Nat.le_div_iff_mul_le (by omega), Nat.succ_mul]
    omega
theorem blkN_bd {S B k : Nat} (hB : 1 ≤ B) (h : k < nBlk S B) : 1 ≤ blkN S B k ∧ blkN S B k ≤ B ∧ k * B + blkN S B k ≤ S := by
  have := (nBlk_lt hB).1 h
  unfold blkN
  omega
/-- the frame of block k -/
def frT (d n : Nat) (F : Nat → Nat → Int) (S B k : Nat) : List UInt8 := frameT k (blkN S B k) (modeN d n (blkF F B k) (blkN S B k)) (blockT d n (blkF F B k) (blkN S B k))
/-- the first k frames -/
def frsT (d n : Nat) (F : Nat → Nat → Int) (S B : Nat) : Nat → List UInt8
  | 0 => []
  | k + 1 => frsT d n F S B k ++ frT d n F S B k
def lnF (d n : Nat) (F : Nat → Nat → Int) (S B k : Nat) : Nat := (frT d n F S B k).length
theorem lnF_bd (d n : Nat) (F : Nat → Nat → Int) (S B k : Nat) (hd : d ≤ 12) (h1 : 1 ≤ n) (h4 : n ≤ 4) (hB : 1 ≤ B) (hB2 : B ≤ 32) (hk : k < nBlk S B) : 10 ≤ lnF d n F S B k ∧ lnF d n F S B k ≤ 222 := by
  have hb := blkN_bd hB hk
  unfold lnF frT
  rw [frameT_length]
  have := packT_bd d n (blkF F B k) (blkN S B k) hb.1 (by omega) hd h1 h4
  omega
theorem frsT_bd (d n : Nat) (F : Nat → Nat → Int) (S B : Nat) (hd : d ≤ 12) (h1 : 1 ≤ n) (h4 : n ≤ 4) (hB : 1 ≤ B) (hB2 : B ≤ 32) : ∀ k, k ≤ nBlk S B → (frsT d n F S B k).length ≤ 222 * k
  | 0, _ => by simp [frsT]
  | k + 1, h => by
    have ih := frsT_bd d n F S B hd h1 h4 hB hB2 k (by omega)
    have := (lnF_bd d n F S B k hd h1 h4 hB hB2 h).2
    unfold lnF at this
    rw [frsT, List.length_append]
    omega
/-- of frames with these lengths: the shortest, the longest, where each begins, the points -/
def leastN (ln : Nat → Nat) : Nat → Nat
  | 0 => 0
  | k + 1 => if k = 0 ∨ ln k < leastN ln k then ln k else leastN ln k
def mostN (ln : Nat → Nat) : Nat → Nat
  | 0 => 0
  | k + 1 => max (mostN ln k) (ln k)
def atN (ln : Nat → Nat) : Nat → Nat
  | 0 => 0
  | k + 1 => atN ln k + ln k
def pntN (ln : Nat → Nat) (seek : Nat) : Nat → List Nat
  | 0 => []
  | k + 1 => if 0 < seek ∧ k % seek = 0 then pntN ln seek k ++ [atN ln k] else pntN ln seek k
theorem leastN_bd {ln : Nat → Nat} {m : Nat} : ∀ k, (∀ i, i < k → ln i ≤ m) → leastN ln k ≤ m
  | 0, _ => by simp [leastN]
  | k + 1, h => by
    have ih := leastN_bd k (fun i hi => h i (by omega))
    have := h k (by omega)
    unfold leastN; split <;> omega
theorem mostN_bd {ln : Nat → Nat} {m : Nat} : ∀ k, (∀ i, i < k → ln i ≤ m) → mostN ln k ≤ m
  | 0, _ => by simp [mostN]
  | k + 1, h => by
    have ih := mostN_bd k (fun i hi => h i (by omega))
    have := h k (by omega)
    unfold mostN; omega
theorem atN_bd {ln : Nat → Nat} {m : Nat} : ∀ k, (∀ i, i < k → ln i ≤ m) → atN ln k ≤ m * k
  | 0, _ => by simp [atN]
  | k + 1, h => by
    have ih := atN_bd k (fun i hi => h i (by omega))
    have := h k (by omega)
    unfold atN; rw [Nat.mul_succ]; omega
theorem pntN_len (ln : Nat → Nat) (seek : Nat) : ∀ k, (pntN ln seek k).length ≤ k
  | 0 => by simp [pntN]
  | k + 1 => by
    have ih := pntN_len ln seek k
    unfold pntN; split
    · rw [List.length_append]; simp; omega
    · omega
theorem pntN_bd {ln : Nat → Nat} {m seek : Nat} : ∀ k, (∀ i, i < k → ln i ≤ m) → ∀ p ∈ pntN ln seek k, p ≤ m * k
  | 0, _, p, hp => by simp [pntN] at hp
  | k + 1, h, p, hp => by
    have ih := pntN_bd (seek := seek) k (fun i hi => h i (by omega))
    have ha := atN_bd k (fun i hi => h i (by omega))
    rw [Nat.mul_succ]
    unfold pntN at hp
    split at hp
    · rcases List.mem_append.1 hp with h1 | h1
      · have := ih p h1; omega
      · simp at h1; omega
    · have := ih p hp; omega
/-- the bytes of points -/
def ptsT (l : List Nat) : List UInt8 := l.foldl (fun t p => t ++ inT p 2) []
theorem ptsT_snoc (l : List Nat) (p : Nat) : ptsT (l ++ [p]) = ptsT l ++ inT p 2 := by simp [ptsT, List.foldl_append]
theorem ptsT_take (l : List Nat) (k : Nat) (h : k < l.length) : ptsT (l.take (k + 1)) = ptsT (l.take k) ++ inT l[k] 2 := by
  rw [List.take_succ_eq_append_getElem h, ptsT_snoc]
theorem ptsT_length : ∀ (l : List Nat) (k : Nat), k ≤ l.length → (ptsT (l.take k)).length = 2 * k
  | l, 0, _ => by simp [ptsT]
  | l, k + 1, h => by
    rw [ptsT_take l k (by omega), List.length_append, inT_length, ptsT_length l k (by omega)]
    omega
/-- a head's fields, and the head -/
def fieldsT (whole c0 c1 c2 c3 s c4 least most sum : Nat) : List UInt8 :=
  [82, 76] ++ inT whole 1 ++ inT c0 1 ++ inT c1 1 ++ inT c2 1 ++ inT c3 2 ++ inT s 2 ++ inT c4 1 ++ inT least 2 ++ inT most 2 ++ inT sum 4
theorem fieldsT_length (whole c0 c1 c2 c3 s c4 least most sum : Nat) : (fieldsT whole c0 c1 c2 c3 s c4 least most sum).length = 19 := by simp [fieldsT, inT_length]
def headTx (whole c0 c1 c2 c3 s c4 least most sum : Nat) (pts : List Nat) : List UInt8 := seal16 (seal8 (fieldsT whole c0 c1 c2 c3 s c4 least most sum) ++ ptsT pts)
theorem headTx_length (whole c0 c1 c2 c3 s c4 least most sum : Nat) (pts : List Nat) : (headTx whole c0 c1 c2 c3 s c4 least most sum pts).length = 22 + 2 * pts.length := by
  unfold headTx
  have := ptsT_length pts pts.length (Nat.le_refl _)
  rw [List.take_length] at this
  rw [seal16_length, List.length_append, seal8_length, fieldsT_length, this]
  omega
/-- the bytes of a sound, sample by sample -/
def smpB (v : Int) (h : Bool) : UInt8 := if h then UInt8.ofNat ((v % 65536).toNat / 256) else UInt8.ofNat ((v % 65536).toNat % 256)
def intB (n : Nat) (F : Nat → Nat → Int) (j : Nat) : UInt8 := smpB (F (j / 2 % n) (j / 2 / n)) (j % 2 == 1)
def intT (n : Nat) (F : Nat → Nat → Int) (m : Nat) : List UInt8 := (List.range m).map (intB n F)
theorem intT_length (n : Nat) (F : Nat → Nat → Int) (m : Nat) : (intT n F m).length = m := by simp [intT]
theorem intT_two (n : Nat) (F : Nat → Nat → Int) (i p : Nat) (hi : i < n) : intT n F (2 * (p * n + i) + 2) = intT n F (2 * (p * n + i)) ++ [smpB (F i p) false, smpB (F i p) true] := by
  unfold intT
  rw [show 2 * (p * n + i) + 2 = 2 * (p * n + i) + 1 + 1 from rfl, List.range_succ, List.range_succ]
  simp only [List.map_append, List.map_cons, List.map_nil, List.append_assoc, List.cons_append, List.nil_append]
  have hn : 0 < n := by omega
  have e1 : 2 * (p * n + i) / 2 = p * n + i := by omega
  have e2 : (2 * (p * n + i) + 1) / 2 = p * n + i := by omega
  have e3 : (p * n + i) % n = i := by rw [Nat.add_comm, Nat.add_mul_mod_self_right, Nat.mod_eq_of_lt hi]
  have e4 : (p * n + i) / n = p := by rw [Nat.add_comm, Nat.add_mul_div_right _ _ hn, Nat.div_eq_of_lt hi, Nat.zero_add]
  have e5 : (2 * (p * n + i) % 2 == 1) = false := by simp
  have e6 : ((2 * (p * n + i) + 1) % 2 == 1) = true := by simp
  unfold intB
  rw [e1, e2, e3, e4, e5, e6]
/-- what Sum says of bytes -/
def sumN (l : List UInt8) : Nat := 65536 * (sB l % 65521) + sA l % 65521
theorem sumN_lt (l : List UInt8) : sumN l < 4294967296 := by
  unfold sumN
  have h1 : sB l % 65521 < 65521 := Nat.mod_lt _ (by decide)
  have h2 : sA l % 65521 < 65521 := Nat.mod_lt _ (by decide)
  omega
/-- the stream of a sound -/
def streamT (d n B c3 c4 : Nat) (F : Nat → Nat → Int) (S : Nat) : List UInt8 :=
  headTx 1 n d B c3 S c4 (leastN (lnF d n F S B) (nBlk S B)) (mostN (lnF d n F S B) (nBlk S B)) (sumN (intT n F (2 * (S * n)))) (pntN (lnF d n F S B) c4 (nBlk S B)) ++ frsT d n F S B (nBlk S B)
end Go.Proofs.YtlncjgnomhpjnabGreatDoor

/-
  Rows that grow: append.
-/
namespace Go.Proofs.YtlncjgnomhpjnabGreatDoor
open Go.RowKit Go.Deep
set_option linter.unusedVariables false
theorem grown_tr {a b c : World} {r : Option Nat} (h : a.grownBy b r) (k : b.grownBy c r) : a.grownBy c r :=
  ⟨k.os.trans h.os, k.tape.trans h.tape, k.output.trans h.output, Nat.le_trans h.size k.size, fun j hj hne => (k.block j (Nat.lt_of_lt_of_le hj h.size) hne).trans (h.block j hj hne)⟩
theorem wpList_append_rn {P : Program} {w w' : World} {ops : Array Oper} {rest : List Oper} {o : Oper} {a : Act} {Q : Exit → Act → World → Prop}
    (hg : o.guard = none) (s x : Operand) (t : TypeId) (hop : o.op = Op.call { callee := Callee.builtin Builtin.append, args := #[s, x], argTypes := #[t, t] })
    (v b v' : Value) (hs : a.eval s = v) (hx : a.eval x = b) (hrun : (Builtin.append_ #[t, t] o.type #[v, b]).run P w = .ok v' w') (h : wpList P ops Q rest (a.put o.dst v') w') : wpList P ops Q (o :: rest) a w := by
  refine wpList_plain hg fun K hK' => ?_
  unfold Oper.wp
  simp [execOp, hop, resolve, invoke, builtin, hs, hx, hrun, Result.andThen]
  exact hK' _ _ h
/-- new cells behind a row of one's own -/
theorem app_row (t e : TypeId) (z : Value) (bytes : Nat) (ht : Tryz.prog.underlying t = some (.slice e)) (hinfo : (Tryz.prog.info? e).map (fun i => (i.zero, i.size, i.bytes)) = some (some z, 1, bytes)) (hzs : z.cells.size = 1)
    (w : World) (base : Nat) (kv : Value) (j : Nat) (ks : List Value) (arr : Array Value) (hown : w.ownsRow base e 1 kv j ks) (hk1 : 1 ≤ arr.size) (h1 : ∀ u ∈ arr.toList, u.oneCell' = true) (hm : j + arr.size ≤ maxLen) (hby : (j + arr.size) * bytes ≤ 140737488355328) (hbase : base ≤ w.heap.size) (ty : TypeId) :
    ∃ g cap w', (Builtin.append_ #[t, t] ty #[kv, .slice (some ⟨w.heap.size, 0, none⟩) arr.size arr.size]).run Tryz.prog (w.alloc (.cells arr e)) = .ok (.slice (some ⟨g, 0, none⟩) (j + arr.size) cap) w' ∧
      w'.ownsRow base e 1 (.slice (some ⟨g, 0, none⟩) (j + arr.size) cap) (j + arr.size) (ks ++ arr.toList) ∧ w.grownBy w' kv.ownBlock := by
  obtain ⟨i0, hi, hz0, hz1, hz2⟩ := info_parts hinfo
  have hnews : ∀ j u, arr.toList[j]? = some u → (w.alloc (.cells arr e)).cell? ((⟨w.heap.size, 0, none⟩ : Addr).add j) = some u := by
    intro j u hj
    have : (w.alloc (.cells arr e)).cell? ⟨w.heap.size, j, none⟩ = arr[j]? := World.cell?_alloc_new _ _ _ _
    rw [show ((⟨w.heap.size, 0, none⟩ : Addr).add j) = ⟨w.heap.size, j, none⟩ by cases j <;> simp [Addr.add], this]
    simpa using hj
  obtain ⟨v', w', hr, ho, hgr, hnil⟩ := run_append_own (P := Tryz.prog) (w.alloc (.cells arr e)) base t ty e i0 z 1 bytes ht hi hz0 hz1 hz2 hzs (by omega) kv j ks (hown.alloc _)
    ⟨w.heap.size, 0, none⟩ arr.size arr.size arr.toList (by simp) hnews h1 hm hby (by simp; omega)
  rcases ho.2 with ⟨-, h0⟩ | ⟨g, cap, cur, rfl, -⟩
  · omega
  · exact ⟨g, cap, w', hr, ho, grown_tr (World.grownBy_alloc w _ _) hgr⟩
end Go.Proofs.YtlncjgnomhpjnabGreatDoor

