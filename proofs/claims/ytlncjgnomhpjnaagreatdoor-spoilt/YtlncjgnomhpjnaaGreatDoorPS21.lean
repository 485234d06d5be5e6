import Derived.Test.YtlncjgnomhpjnaaGreatDoorPS20
import Derived.Test.YtlncjgnomhpjnaaGreatDoorPS18
import Derived.Deep.RegionHeld3
import Derived.Test.YtlncjgnomhpjnaaGreatDoorRows
import Derived.Test.YtlncjgnomhpjnaaGreatDoorPS2
import Derived.Test.YtlncjgnomhpjnaaGreatDoorPS16
import Derived.Test.YtlncjgnomhpjnaaGreatDoorPS15
import Derived.Deep.DeepCutAuto
/-
  Two channels in the document: reelref.pair, reelref.width, reelref.bitsOf.
-/
namespace Go.Proofs.YtlncjgnomhpjnaaGreatDoor
open Go.RowKit Go.Deep
set_option linter.unusedVariables false
def l1 (l r : Nat → Int) (m : Nat) : Nat → Int := if m ≤ 1 then l else if m = 2 then sideL l r else midL l r
def l2 (l r : Nat → Int) (m : Nat) : Nat → Int := if m = 0 ∨ m = 2 then r else sideL l r
def w1 (d m : Nat) : Nat := if m = 2 then d + 1 else d
def w2 (d m : Nat) : Nat := if m = 0 ∨ m = 2 then d else d + 1
theorem pairT_eq (d : Nat) (l r : Nat → Int) (n m : Nat) (hm : m < 4) : pairT d l r n m = subT (w1 d m) (l1 l r m) n ++ subT (w2 d m) (l2 l r m) n := by
  match m, hm with
  | 0, _ => rfl
  | 1, _ => rfl
  | 2, _ => rfl
  | 3, _ => rfl
end Go.Proofs.YtlncjgnomhpjnaaGreatDoor

/-
  A frame's head, laid down.
-/
namespace Go.Proofs.YtlncjgnomhpjnaaGreatDoor
open Go.RowKit Go.Deep
set_option linter.unusedVariables false
/-- a cell of a variable's block, in a later world -/
theorem keep_cell {u u' : World} {b o : Nat} {v : Value} (h : Below u.heap.size u u') (hb : b < u.heap.size) (hc : u.cell? ⟨b, o, none⟩ = some v) : u'.cell? ⟨b, o, none⟩ = some v :=
  (h.cell (p := ⟨b, o, none⟩) hb).trans hc
theorem keep4 {u u' : World} {b : Nat} {v0 v1 v2 v3 : Value} (hb : Below u.heap.size u u') (h : b < u.heap.size ∧ u.cell? ⟨b, 0, none⟩ = some v0 ∧ u.cell? ⟨b, 1, none⟩ = some v1 ∧ u.cell? ⟨b, 2, none⟩ = some v2 ∧ u.cell? ⟨b, 3, none⟩ = some v3) :
    b < u'.heap.size ∧ u'.cell? ⟨b, 0, none⟩ = some v0 ∧ u'.cell? ⟨b, 1, none⟩ = some v1 ∧ u'.cell? ⟨b, 2, none⟩ = some v2 ∧ u'.cell? ⟨b, 3, none⟩ = some v3 :=
  ⟨Nat.lt_of_lt_of_le h.1 hb.size, keep_cell hb h.1 h.2.1, keep_cell hb h.1 h.2.2.1, keep_cell hb h.1 h.2.2.2.1, keep_cell hb h.1 h.2.2.2.2⟩
set_option maxHeartbeats 1000000 in
theorem headLay_any (number len n mode : Nat) (w : World) (h1 : number < 65536) (h2 : len < 65536) (h3 : 1 ≤ n) (h4 : n ≤ 256) (h5 : mode < 256) :
    Calls Tryz.prog 67 #[.agg #[.int .i64 number, .int .i64 len, .int .i64 n, .int .i64 mode]] w fun e w' => e = .returned (.string (bs (seal8 (headT number len n mode)))) ∧ Below w.heap.size w w' := by
  have HI1 : Hid (∀ u, Calls Tryz.prog 105 #[.int .i64 165, .int .i64 1] u fun e w' => e = .returned (.string (bs (inT 165 1))) ∧ Below u.heap.size u w') := fun u => in_any 165 1 u (by omega) (by omega)
  have HI2 : Hid (∀ u, Calls Tryz.prog 105 #[.int .i64 number, .int .i64 2] u fun e w' => e = .returned (.string (bs (inT number 2))) ∧ Below u.heap.size u w') := fun u => in_any number 2 u (by omega) (by omega)
  have HI3 : Hid (∀ u, Calls Tryz.prog 105 #[.int .i64 len, .int .i64 2] u fun e w' => e = .returned (.string (bs (inT len 2))) ∧ Below u.heap.size u w') := fun u => in_any len 2 u (by omega) (by omega)
  have HI4 : Hid (∀ u, Calls Tryz.prog 105 #[.int .i64 ((n - 1 : Nat) : Int), .int .i64 1] u fun e w' => e = .returned (.string (bs (inT (n - 1) 1))) ∧ Below u.heap.size u w') := fun u => in_any (n - 1) 1 u (by omega) (by omega)
  have HI5 : Hid (∀ u, Calls Tryz.prog 105 #[.int .i64 mode, .int .i64 1] u fun e w' => e = .returned (.string (bs (inT mode 1))) ∧ Below u.heap.size u w') := fun u => in_any mode 1 u (by omega) (by omega)
  have HS := Hid.mk' (fun u => seal8_any (headT number len n mode) u (by rw [headT_length]; omega))
  have HTX : Hid (bs (inT 165 1) ++ bs (inT number 2) ++ bs (inT len 2) ++ bs (inT (n - 1) 1) ++ bs (inT mode 1) = bs (headT number len n mode)) := by
    show _ = _; rw [bs_append, bs_append, bs_append, bs_append]; rfl
  have wn : IntKind.i64.wrap ((n : Int) - 1) = ((n - 1 : Nat) : Int) := by rw [IntKind.wrap_i64]; omega
  have z1 : (bs (inT 165 1)).size = 1 := by rw [bs_size, inT_length]
  have z2 : (bs (inT number 2)).size = 2 := by rw [bs_size, inT_length]
  have z3 : (bs (inT len 2)).size = 2 := by rw [bs_size, inT_length]
  have z4 : (bs (inT (n - 1) 1)).size = 1 := by rw [bs_size, inT_length]
  have z5 : (bs (inT mode 1)).size = 1 := by rw [bs_size, inT_length]
  rw [← HTX.out] at HS
  generalize seal8 (headT number len n mode) = R at *
  generalize bs (inT 165 1) = X1 at *
  generalize bs (inT number 2) = X2 at *
  generalize bs (inT len 2) = X3 at *
  generalize bs (inT (n - 1) 1) = X4 at *
  generalize bs (inT mode 1) = X5 at *
  generalize n - 1 = n1 at *
  clear HTX
  have hb0 : Below w.heap.size w (w.alloc (.cells #[.int .i64 number, .int .i64 len, .int .i64 n, .int .i64 mode] 99)) := (Below.refl _ _).alloc (Nat.le_refl _) _
  have HB0 := Hid.mk' hb0
  clear hb0
  have hS0 : w.heap.size < (w.alloc (.cells #[.int .i64 number, .int .i64 len, .int .i64 n, .int .i64 mode] 99)).drew.heap.size ∧ (w.alloc (.cells #[.int .i64 number, .int .i64 len, .int .i64 n, .int .i64 mode] 99)).drew.cell? ⟨w.heap.size, 0, none⟩ = some (.int .i64 number) ∧ (w.alloc (.cells #[.int .i64 number, .int .i64 len, .int .i64 n, .int .i64 mode] 99)).drew.cell? ⟨w.heap.size, 1, none⟩ = some (.int .i64 len) ∧ (w.alloc (.cells #[.int .i64 number, .int .i64 len, .int .i64 n, .int .i64 mode] 99)).drew.cell? ⟨w.heap.size, 2, none⟩ = some (.int .i64 n) ∧ (w.alloc (.cells #[.int .i64 number, .int .i64 len, .int .i64 n, .int .i64 mode] 99)).drew.cell? ⟨w.heap.size, 3, none⟩ = some (.int .i64 mode) := by simp
  go_enter Tryz.func67, Tryz.ntmps67
  go_wp2
  go_region_held3 (fun w' => w.heap.size < w'.heap.size ∧ w'.cell? ⟨w.heap.size, 0, none⟩ = some (.int .i64 number) ∧ w'.cell? ⟨w.heap.size, 1, none⟩ = some (.int .i64 len) ∧ w'.cell? ⟨w.heap.size, 2, none⟩ = some (.int .i64 n) ∧ w'.cell? ⟨w.heap.size, 3, none⟩ = some (.int .i64 mode))
    (assumption)
    (first
    | (go_at_call 105; refine (HI1.out _).mono ?_; rintro e u1 ⟨rfl, hb1⟩; have hS1 := keep4 hb1 hS0; have HB1 := Hid.mk' (HB0.out.drew.trans (hb1.mono (by simp))); clear HI1 HB0)
    | (go_at_call 105; refine (HI2.out _).mono ?_; rintro e u2 ⟨rfl, hb2⟩; have hS2 := keep4 hb2 hS1; have HB2 := Hid.mk' (HB1.out.trans (hb2.mono HB1.out.size)); clear HI2 HB1)
    | (go_at_call 105; refine (HI3.out _).mono ?_; rintro e u3 ⟨rfl, hb3⟩; have hS3 := keep4 hb3 hS2; have HB3 := Hid.mk' (HB2.out.trans (hb3.mono HB2.out.size)); clear HI3 HB2)
    | (go_at_call 105; refine (HI4.out _).mono ?_; rintro e u4 ⟨rfl, hb4⟩; have hS4 := keep4 hb4 hS3; have HB4 := Hid.mk' (HB3.out.trans (hb4.mono HB3.out.size)); clear HI4 HB3)
    | (go_at_call 105; refine (HI5.out _).mono ?_; rintro e u5 ⟨rfl, hb5⟩; have hS5 := keep4 hb5 hS4; have HB5 := Hid.mk' (HB4.out.trans (hb5.mono HB4.out.size)); clear HI5 HB4)
    | (go_at_call 107; refine (HS.out _).mono ?_; rintro e u6 ⟨rfl, hb6⟩; have hS6 := keep4 hb6 hS5; have HB6 := Hid.mk' (HB5.out.trans (hb6.mono HB5.out.size)); clear HS HB5))
  go_wp2
  go_ret
  exact ⟨rfl, HB6.out⟩
end Go.Proofs.YtlncjgnomhpjnaaGreatDoor

/-
  Bits in bytes: bittext.Bytes and reelref.packed.
-/
namespace Go.Proofs.YtlncjgnomhpjnaaGreatDoor
open Go.RowKit Go.Deep
set_option linter.unusedVariables false
theorem or_u8 (a b : Nat) (ha : a < 256) (hb : b < 256) : bits .or .u8 (a : Int) (b : Int) = ((a ||| b : Nat) : Int) := by
  have hx : a ||| b < 2 ^ 8 := Nat.or_lt_two_pow (by omega) (by omega)
  have h1 : (BitVec.ofInt 8 (a : Int)).toNat = a := by
    rw [BitVec.ofInt_natCast, BitVec.toNat_ofNat]; exact Nat.mod_eq_of_lt (by omega)
  have h2 : (BitVec.ofInt 8 (b : Int)).toNat = b := by
    rw [BitVec.ofInt_natCast, BitVec.toNat_ofNat]; exact Nat.mod_eq_of_lt (by omega)
  show IntKind.u8.wrap ((BitVec.ofInt 8 (a : Int) ||| BitVec.ofInt 8 (b : Int)).toNat : Int) = _
  rw [BitVec.toNat_or, h1, h2, IntKind.wrap_u8]
  omega
set_option maxHeartbeats 1000000 in
theorem bytes_any (T : List UInt8) (w : World) (hT : AllB T) (hs : T.length ≤ 100000) :
    Calls Tryz.prog 65 #[.string (bs T)] w fun e w' => e = .returned (.string (bs (packT T))) ∧ Below w.heap.size w w' := by
  obtain ⟨S, hS⟩ : ∃ S, S = bs T := ⟨_, rfl⟩
  have hz : S.size = T.length := by rw [hS, bs_size]
  have hmk := run_make_row' (P := Tryz.prog) 61 5 (.int .u8 0) 1 Tryz.underlying61 infoByte rfl .i64 .i64 ((T.length + 7) / 8) (by omega) (by omega)
  have hq : ((S.size : Int) + 8 - 1).tdiv 8 = (((T.length + 7) / 8 : Nat) : Int) := by rw [Int.tdiv_eq_ediv_of_nonneg (by omega), hz]; omega
  have w1 : IntKind.i64.wrap ((S.size : Int) + 8) = (S.size : Int) + 8 := by rw [IntKind.wrap_i64]; omega
  have w2 : IntKind.i64.wrap ((S.size : Int) + 8 - 1) = (S.size : Int) + 8 - 1 := by rw [IntKind.wrap_i64]; omega
  have HG : Hid (∀ j (h : j < S.size), S[j] = ltr (tbit T j)) := by
    show ∀ j (h : j < S.size), S[j] = ltr (tbit T j)
    subst hS
    intro j h
    rw [bs_get]; exact tbit_get hT j (by rw [bs_size] at h; exact h)
  have HZ := Hid.mk' hz
  have HST : Hid (strOf (pkB T) ((T.length + 7) / 8) = bs (packT T)) := strOf_pack T
  rw [← hS]
  clear hS hz hT
  generalize hR : bs (packT T) = R at *
  clear hR
  obtain ⟨M, hM⟩ : ∃ M, M = (T.length + 7) / 8 := ⟨_, rfl⟩
  have hMb : M ≤ 12501 := by omega
  rw [← hM] at hmk hq HST
  have HM := Hid.mk' hM
  clear hM
  go_enter Tryz.func65, Tryz.ntmps65
  go_wp2
  clear hmk hq w1 w2
  have HCV := Hid.mk' (fun (u : World) h => run_rowString (P := Tryz.prog) u 61 9 5 w.heap.size 0 M M (pkB T) Tryz.underlying61 Tryz.underlying5 Tryz.underlying9 h)
  go_loopw [4, 13] (fun _ i wr => ∃ k : Nat, k ≤ S.size ∧ i = .int .i64 k ∧ Hid (wr.rowIs w.heap.size 5 M (fun j => .int .u8 (pkN T k j : Nat)) ∧ Below w.heap.size w wr)) (fun _ i _ => S.size - (intOf i).toNat)
  case atStart => exact ⟨0, Nat.zero_le _, rfl, (World.rowIs_made w (.int .u8 0) M 5).congr fun i _ => by rw [pkN_zero]; rfl, (Below.refl _ _).alloc (Nat.le_refl _) _⟩
  case round =>
    obtain ⟨m, hm, rfl, HR⟩ := hrel
    by_cases hlt : m < S.size
    · have hdm : m / 8 < M := by have := HM.out; have := HZ.out; omega
      have hc1 := HR.out.1.cell hdm
      have hf1 := HR.out.1.frozen (m / 8)
      have hb := HG.out m hlt
      have hbn : (S[m].toNat : Int) = 48 + ((tbit T m).toNat : Int) := by rw [hb, ltr_nat]; omega
      have hb2 : (tbit T m).toNat ≤ 1 := Bool.toNat_le _
      have hp := pkN_lt T m (m / 8)
      have hp2 : (tbit T m).toNat * 2 ^ (7 - m % 8) < 256 := by
        have : 2 ^ (7 - m % 8) ≤ 2 ^ 7 := Nat.pow_le_pow_right (by omega) (by omega)
        have := Nat.mul_le_mul hb2 this
        omega
      have hor := or_u8 _ _ hp hp2
      rw [pkN_step] at hor
      have hset : (wr.setCell ⟨w.heap.size, m / 8, none⟩ (.int .u8 (pkN T (m + 1) (m / 8) : Nat))).rowIs w.heap.size 5 M (fun j => .int .u8 (pkN T (m + 1) j : Nat)) :=
        (HR.out.1.set (m / 8) _).congr fun j _ => by
          by_cases e : j = m / 8
          · rw [if_pos e, e]
          · rw [if_neg e, pkN_other T m j e]
      have HSET := Hid.mk' hset
      have HB := Hid.mk' hb
      generalize pkN T (m + 1) (m / 8) = P2 at *
      generalize pkN T m (m / 8) = P1 at *
      have td : (m : Int).tdiv 8 = ((m / 8 : Nat) : Int) := by rw [Int.tdiv_eq_ediv_of_nonneg (by omega)]; omega
      have tm : (m : Int).tmod 8 = ((m % 8 : Nat) : Int) := by rw [Int.tmod_eq_emod_of_nonneg (by omega)]; omega
      have hm8 : m % 8 < 8 := Nat.mod_lt _ (by omega)
      have hval : bits .or .u8 (P1 : Int) ((48 + ((tbit T m).toNat : Int) - 48) * 2 ^ (7 - m % 8) % 256) = (P2 : Int) := by
        rw [← hor]; congr 1
        have e2 : (((tbit T m).toNat * 2 ^ (7 - m % 8) : Nat) : Int) = ((tbit T m).toNat : Int) * 2 ^ (7 - m % 8) := by simp
        rw [show (48 + ((tbit T m).toNat : Int) - 48) = ((tbit T m).toNat : Int) by omega, ← e2]
        omega
      clear hset hb
      go_wp2
      go_region
      all_goals go_wp2
      go_roundw
      case rel => exact ⟨m + 1, by omega, by go_num, HSET.out, by exact (HR.out.2.setCell (Nat.le_refl _) _).drew⟩
      case measure => simp [intOf]; omega
    · have e : m = S.size := by omega
      have hcv := HCV.out wr (fun i hi => by
        have := HR.out.1.cell (i := i) hi
        rw [e, HZ.out] at this
        rw [Nat.zero_add, this, pkB_nat])
      rw [HST.out] at hcv
      subst e
      clear HCV
      go_wp2
      go_ret
      exact ⟨rfl, HR.out.2⟩
end Go.Proofs.YtlncjgnomhpjnaaGreatDoor

/-
  frame.Make, reel.Frame.
-/
namespace Go.Proofs.YtlncjgnomhpjnaaGreatDoor
open Go.RowKit Go.Deep
set_option linter.unusedVariables false
theorem packT_bd (d n : Nat) (F : Nat → Nat → Int) (N : Nat) (hn1 : 1 ≤ N) (hn : N ≤ 32) (hd : d ≤ 12) (h1 : 1 ≤ n) (h4 : n ≤ 4) : (packT (blockT d n F N)).length ≤ 212 := by
  rw [packT_length]
  have := blockT_bd d n F N hn1 hn hd h1 h4
  omega
set_option maxHeartbeats 2000000 in
theorem make_any (c2 c3 c4 c5 c6 c7 : Int) (d number : Nat) (a : Option Addr) (n cap : Nat) (A : Nat → Option Addr) (N : Nat) (C : Nat → Nat) (F : Nat → Nat → Int) (w : World) (hd1 : 1 ≤ d) (hd : d ≤ 12) (hn1 : 1 ≤ n) (hn4 : n ≤ 4) (hN1 : 1 ≤ N) (hN : N ≤ 32) (hnum : number < 65536)
    (hf : ∀ i, i < n → ∀ j, j < N → fitsB d (F i j) = true) (hA : ListsAt w a n A (fun _ => N) C) (hI : ∀ i, i < n → IntsAt w (A i) N (F i)) (hlow : Low w.heap.size a n A (fun _ => N)) (hT : TabsF w) :
    Calls Tryz.prog 38 #[.agg #[.int .i64 n, .int .i64 d, .int .i64 c2, .int .i64 c3, .int .i64 c4, .int .i64 c5, .int .i64 c6, .int .i64 c7], .int .i64 number, .slice a n cap] w fun e w' =>
      e = .returned (.string (bs (frameT number N (modeN d n F N) (blockT d n F N)))) ∧ Below w.heap.size w w' := by
  have hb0 : Below w.heap.size w (w.alloc (.cells #[.int .i64 n, .int .i64 d, .int .i64 c2, .int .i64 c3, .int .i64 c4, .int .i64 c5, .int .i64 c6, .int .i64 c7] 23)) := (Below.refl _ _).alloc (Nat.le_refl _) _
  have HSM := Hid.mk' (shortestMode_any d a n cap A N C F _ hd1 hd hn1 hn4 hN1 hN hf (hA.below hb0 hlow.1) (fun i hi => (hI i hi).below hb0 (hlow.2 i hi)) ⟨fun x hx h0 => Nat.lt_of_lt_of_le (hlow.1 x hx h0) hb0.size, fun i hi x hx h0 => Nat.lt_of_lt_of_le (hlow.2 i hi x hx h0) hb0.size⟩ (hT.below hb0))
  have HBY := Hid.mk' (fun u => bytes_any (blockT d n F N) u (blockT_bits d n F N) (by have := blockT_bd d n F N hN1 hN hd hn1 hn4; omega))
  have hpk := packT_bd d n F N hN1 hN hd hn1 hn4
  have hmd := modeN_lt d n F N
  have HHL := Hid.mk' (fun u => headLay_any number ((packT (blockT d n F N)).length + 10) N (modeN d n F N) u hnum (by omega) hN1 (by omega) (by omega))
  have HSE := Hid.mk' (fun u => seal16_any (seal8 (headT number ((packT (blockT d n F N)).length + 10) N (modeN d n F N)) ++ packT (blockT d n F N)) u (by rw [List.length_append, seal8_length, headT_length]; omega))
  have HAP : Hid (bs (seal8 (headT number ((packT (blockT d n F N)).length + 10) N (modeN d n F N)) ++ packT (blockT d n F N)) = bs (seal8 (headT number ((packT (blockT d n F N)).length + 10) N (modeN d n F N))) ++ bs (packT (blockT d n F N))) := (bs_append _ _).symm
  have HFR : Hid (seal16 (seal8 (headT number ((packT (blockT d n F N)).length + 10) N (modeN d n F N)) ++ packT (blockT d n F N)) = frameT number N (modeN d n F N) (blockT d n F N)) := rfl
  rw [HFR.out, HAP.out] at HSE
  have hz1 : (bs (packT (blockT d n F N))).size = (packT (blockT d n F N)).length := bs_size _
  have hz2 : (bs (seal8 (headT number ((packT (blockT d n F N)).length + 10) N (modeN d n F N)))).size = 8 := by rw [bs_size, seal8_length, headT_length]
  obtain ⟨b, off, rfl, hcell⟩ := hA.open (by omega)
  have hc0 := hcell 0 (by omega)
  have hbl : b < w.heap.size := hlow.1 _ rfl (by omega : 0 < n)
  simp only [Nat.add_zero] at hc0
  have HB0 := Hid.mk' hb0
  clear HFR HAP hf hA hI hlow hT hcell hb0
  generalize frameT number N (modeN d n F N) (blockT d n F N) = R at *
  generalize bs (seal8 (headT number ((packT (blockT d n F N)).length + 10) N (modeN d n F N))) = H at *
  generalize bs (packT (blockT d n F N)) = P at *
  generalize (packT (blockT d n F N)).length = pl at *
  generalize modeN d n F N = mode at *
  generalize bs (blockT d n F N) = T at *
  have e10 : ((pl + 10 : Nat) : Int) = 8 + (pl : Int) + 2 := by omega
  rw [e10] at HHL
  clear e10
  go_enter Tryz.func38, Tryz.ntmps38
  go_wp2_with (first
    | (go_at_call 64; refine HSM.out.mono ?_; rintro e u1 ⟨rfl, hb⟩; obtain ⟨hc1, hf1⟩ := bcell hb; have hs1 : w.heap.size < u1.heap.size := by {have := hb.size; simp at this; omega}; have HB1 := Hid.mk' (HB0.out.trans (hb.mono (by simp))); clear hb hf1 HSM HB0)
    | (go_at_call 65; refine (HBY.out _).mono ?_; rintro e u2 ⟨rfl, hb⟩; obtain ⟨hc2, hf2⟩ := bcell hb; have hs2 : w.heap.size < u2.heap.size := Nat.lt_of_lt_of_le hs1 hb.size; have HB2 := Hid.mk' (HB1.out.trans (hb.mono (Nat.le_of_lt hs1))); have hq2 : u2.cell? ⟨b, off, none⟩ = some (.slice (A 0) N (C 0)) := (HB2.out.cell (p := ⟨b, off, none⟩) hbl).trans hc0; clear hb hf2 HBY HB1)
    | (go_at_call 67; refine (HHL.out _).mono ?_; rintro e u3 ⟨rfl, hb⟩; have HB3 := Hid.mk' ((HB2.out.alloc HB2.out.size _).trans (hb.mono (by have := hs2; simp; omega))); have hs3 : w.heap.size < u3.heap.size := by {have := hb.size; simp at this; omega}; clear hb HHL HB2)
    | (go_at_call 66; refine (HSE.out _).mono ?_; rintro e u4 ⟨rfl, hb⟩; have HB4 := Hid.mk' (HB3.out.trans (hb.mono (Nat.le_of_lt hs3))); clear hb HSE HB3))
  go_ret
  exact ⟨rfl, HB4.out⟩
end Go.Proofs.YtlncjgnomhpjnaaGreatDoor

/-
  reel.Frame.
-/
namespace Go.Proofs.YtlncjgnomhpjnaaGreatDoor
open Go.RowKit Go.Deep
set_option linter.unusedVariables false
/-- what Frame answers -/
def frameOk (c0 c1 c2 c3 c4 c5 c6 c7 number : Int) (n : Nat) (L : Nat → Nat) (F : Nat → Nat → Int) : Prop :=
  rightB c0 c1 c2 c3 c4 c5 c6 c7 = true ∧ within number 0 65535 = true ∧ ChanP c0 c1.toNat n 1 c2 L F
open Classical in
noncomputable def frameE (c0 c1 c2 c3 c4 c5 c6 c7 number : Int) (n : Nat) (L : Nat → Nat) (F : Nat → Nat → Int) : Int :=
  if rightB c0 c1 c2 c3 c4 c5 c6 c7 = true then (if within number 0 65535 = true then (if ChanP c0 c1.toNat n 1 c2 L F then 0 else 2) else 3) else 1
open Classical in
noncomputable def frameS (c0 c1 c2 c3 c4 c5 c6 c7 number : Int) (n : Nat) (L : Nat → Nat) (F : Nat → Nat → Int) : ByteArray :=
  if frameOk c0 c1 c2 c3 c4 c5 c6 c7 number n L F then bs (frameT number.toNat (L 0) (modeN c1.toNat n F (L 0)) (blockT c1.toNat n F (L 0))) else ⟨#[]⟩
set_option maxHeartbeats 1000000 in
theorem checkNumbered_any (c0 c1 c2 c3 c4 c5 c6 c7 number : Int) (w : World) :
    Calls Tryz.prog 36 #[.agg #[.int .i64 c0, .int .i64 c1, .int .i64 c2, .int .i64 c3, .int .i64 c4, .int .i64 c5, .int .i64 c6, .int .i64 c7], .int .i64 number] w fun e w' =>
      e = .returned (.int .i64 (if rightB c0 c1 c2 c3 c4 c5 c6 c7 = true then (if within number 0 65535 = true then 0 else 3) else 1)) ∧ Below w.heap.size w w' := by
  have hb0 : Below w.heap.size w (w.alloc (.cells #[.int .i64 c0, .int .i64 c1, .int .i64 c2, .int .i64 c3, .int .i64 c4, .int .i64 c5, .int .i64 c6, .int .i64 c7] 23)) := (Below.refl _ _).alloc (Nat.le_refl _) _
  have HB0 := Hid.mk' hb0
  have HRC := Hid.mk' (fun u => rightConfig_any c0 c1 c2 c3 c4 c5 c6 c7 u)
  have HW := Hid.mk' (fun u => within_any number 0 65535 u)
  clear hb0
  cases hr : rightB c0 c1 c2 c3 c4 c5 c6 c7 with
  | false =>
    rw [hr] at HRC
    rw [if_neg (by simp)]
    clear hr HW
    go_enter Tryz.func36, Tryz.ntmps36
    go_wp2_with (go_at_call 61; refine (HRC.out _).mono ?_; rintro e u1 ⟨rfl, hb⟩; have HB1 := Hid.mk' (HB0.out.trans (hb.mono (by simp))); clear hb HRC HB0)
    go_ret
    exact ⟨rfl, HB1.out⟩
  | true =>
    rw [hr] at HRC
    rw [if_pos rfl]
    cases hw : within number 0 65535 with
    | false =>
      rw [hw] at HW
      rw [if_neg (by simp)]
      clear hr hw
      go_enter Tryz.func36, Tryz.ntmps36
      go_wp2_with (first
        | (go_at_call 61; refine (HRC.out _).mono ?_; rintro e u1 ⟨rfl, hb⟩; have HB1 := Hid.mk' (HB0.out.trans (hb.mono (by simp))); clear hb HRC HB0)
        | (go_at_call 62; refine (HW.out _).mono ?_; rintro e u2 ⟨rfl, hw⟩; subst u2; clear HW))
      go_ret
      exact ⟨rfl, HB1.out⟩
    | true =>
      rw [hw] at HW
      rw [if_pos rfl]
      clear hr hw
      go_enter Tryz.func36, Tryz.ntmps36
      go_wp2_with (first
        | (go_at_call 61; refine (HRC.out _).mono ?_; rintro e u1 ⟨rfl, hb⟩; have HB1 := Hid.mk' (HB0.out.trans (hb.mono (by simp))); clear hb HRC HB0)
        | (go_at_call 62; refine (HW.out _).mono ?_; rintro e u2 ⟨rfl, hw⟩; subst u2; clear HW))
      go_ret
      exact ⟨rfl, HB1.out⟩
theorem frame_no {c0 c1 c2 c3 c4 c5 c6 c7 number : Int} {n : Nat} {L : Nat → Nat} {F : Nat → Nat → Int} (h : ¬ frameOk c0 c1 c2 c3 c4 c5 c6 c7 number n L F) : frameS c0 c1 c2 c3 c4 c5 c6 c7 number n L F = ⟨#[]⟩ := by
  unfold frameS; rw [if_neg h]
theorem frame_yes {c0 c1 c2 c3 c4 c5 c6 c7 number : Int} {n : Nat} {L : Nat → Nat} {F : Nat → Nat → Int} (h : frameOk c0 c1 c2 c3 c4 c5 c6 c7 number n L F) :
    frameS c0 c1 c2 c3 c4 c5 c6 c7 number n L F = bs (frameT number.toNat (L 0) (modeN c1.toNat n F (L 0)) (blockT c1.toNat n F (L 0))) ∧ frameE c0 c1 c2 c3 c4 c5 c6 c7 number n L F = 0 := by
  unfold frameS frameE; rw [if_pos h, if_pos h.1, if_pos h.2.1, if_pos h.2.2]; exact ⟨rfl, rfl⟩
set_option maxHeartbeats 2000000 in
theorem reelFrame_any (c0 c1 c2 c3 c4 c5 c6 c7 number : Int) (a : Option Addr) (n cap : Nat) (A : Nat → Option Addr) (L C : Nat → Nat) (F : Nat → Nat → Int) (w : World) (hn : n ≤ 17592186044416) (hL : ∀ i, i < n → L i ≤ 17592186044416)
    (hA : ListsAt w a n A L C) (hI : ∀ i, i < n → IntsAt w (A i) (L i) (F i)) (hlow : Low w.heap.size a n A L) (hT : TabsF w) :
    Calls Tryz.prog 10 #[.agg #[.int .i64 c0, .int .i64 c1, .int .i64 c2, .int .i64 c3, .int .i64 c4, .int .i64 c5, .int .i64 c6, .int .i64 c7], .int .i64 number, .slice a n cap] w fun e w' =>
      e = .returned (.tuple #[.string (frameS c0 c1 c2 c3 c4 c5 c6 c7 number n L F), .int .i64 (frameE c0 c1 c2 c3 c4 c5 c6 c7 number n L F)]) ∧ Below w.heap.size w w' := by
  have hb0 : Below w.heap.size w (w.alloc (.cells #[.int .i64 c0, .int .i64 c1, .int .i64 c2, .int .i64 c3, .int .i64 c4, .int .i64 c5, .int .i64 c6, .int .i64 c7] 23)) := (Below.refl _ _).alloc (Nat.le_refl _) _
  have HB0 := Hid.mk' hb0
  have HCN := Hid.mk' (fun u => checkNumbered_any c0 c1 c2 c3 c4 c5 c6 c7 number u)
  have lowU : ∀ u, Below w.heap.size w u → Low u.heap.size a n A L := fun u hu => ⟨fun x hx h0 => Nat.lt_of_lt_of_le (hlow.1 x hx h0) hu.size, fun i hi x hx h0 => Nat.lt_of_lt_of_le (hlow.2 i hi x hx h0) hu.size⟩
  by_cases hr : rightB c0 c1 c2 c3 c4 c5 c6 c7 = true
  · obtain ⟨hc0, hc4, hc2, d, rfl, h1, h2⟩ := rightB_d hr
    by_cases hw : within number 0 65535 = true
    · rw [if_pos hr, if_pos hw] at HCN
      have HIB := Hid.mk' (fun (u : World) (hu : Below w.heap.size w u) => isBlock_any c0 c2 c3 c4 c5 c6 c7 d a n cap A L C F u hc0 (by omega) (by omega) hn hL (hA.below hu hlow.1) (fun i hi => (hI i hi).below hu (hlow.2 i hi)) (lowU u hu))
      by_cases hs : ChanP c0 d n 1 c2 L F
      · have HOK := frame_yes (L := L) (F := F) (n := n) (number := number) ⟨hr, hw, (by simpa using hs)⟩
        rw [HOK.1, HOK.2, Int.toNat_natCast]
        have HS := Hid.mk' hs
        obtain ⟨hnc, hL0, hall⟩ := hs
        subst hnc
        rw [within_iff] at hL0 hw
        obtain ⟨nb, hnb⟩ : ∃ nb : Nat, number = (nb : Int) := ⟨number.toNat, by omega⟩
        subst hnb
        have hA2 : ListsAt w a n A (fun _ => L 0) C := fun i hi => by
          obtain ⟨x, hx, hc⟩ := hA i hi
          rw [(hall i hi).1] at hc
          exact ⟨x, hx, hc⟩
        have hI2 : ∀ i, i < n → IntsAt w (A i) (L 0) (F i) := fun i hi => by have := hI i hi; rw [(hall i hi).1] at this; exact this
        have hlow2 : Low w.heap.size a n A (fun _ => L 0) := ⟨hlow.1, fun i hi x hx h0 => hlow.2 i hi x hx (by rw [(hall i hi).1]; exact h0)⟩
        have HMK := Hid.mk' (fun (u : World) (hu : Below w.heap.size w u) => make_any c2 c3 c4 c5 c6 c7 d nb a n cap A (L 0) C F u (by omega) h2 (by omega) (by omega) (by omega) (by omega) (by omega) (fun i hi j hj => (hall i hi).2 j (by rw [(hall i hi).1]; exact hj)) (hA2.below hu hlow2.1) (fun i hi => (hI2 i hi).below hu (hlow2.2 i hi))
          ⟨fun x hx h0 => Nat.lt_of_lt_of_le (hlow2.1 x hx h0) hu.size, fun i hi x hx h0 => Nat.lt_of_lt_of_le (hlow2.2 i hi x hx h0) hu.size⟩ (hT.below hu))
        rw [Int.toNat_natCast]
        clear hA hI hlow hT lowU hall hA2 hI2 hlow2 HOK hr hb0 hL
        generalize bs (frameT nb (L 0) (modeN d n F (L 0)) (blockT d n F (L 0))) = R at *
        go_enter Tryz.func10, Tryz.ntmps10
        go_wp2_with (first
          | (go_at_call 36; refine (HCN.out _).mono ?_; rintro e u1 ⟨rfl, hb⟩; obtain ⟨hc1, hf1⟩ := bcell hb; have hs1 : w.heap.size < u1.heap.size := by {have := hb.size; simp at this; omega}; have HB1 := Hid.mk' (HB0.out.trans (hb.mono (by simp))); clear hb hf1 HCN HB0)
          | (go_at_call 37; refine (HIB.out _ ?_).mono ?_; exact HB1.out; rintro e u2 ⟨he, hb⟩; have he := he.true_of HS.out; subst he; obtain ⟨hc2', hf2⟩ := bcell hb; have hs2 : w.heap.size < u2.heap.size := Nat.lt_of_lt_of_le hs1 hb.size; have HB2 := Hid.mk' (HB1.out.trans (hb.mono (Nat.le_of_lt hs1))); clear hb hf2 HIB HB1)
          | (go_at_call 38; refine (HMK.out _ ?_).mono ?_; exact HB2.out; rintro e u3 ⟨rfl, hb⟩; have HB3 := Hid.mk' (HB2.out.trans (hb.mono (Nat.le_of_lt hs2))); clear hb HMK HB2))
        go_ret2
        exact ⟨rfl, HB3.out⟩
      · have HNO := frame_no (c0 := c0) (c1 := (d : Int)) (c2 := c2) (c3 := c3) (c4 := c4) (c5 := c5) (c6 := c6) (c7 := c7) (number := number) (n := n) (L := L) (F := F) (fun h => hs (by simpa using h.2.2))
        have HE : frameE c0 d c2 c3 c4 c5 c6 c7 number n L F = 2 := by unfold frameE; rw [if_pos hr, if_pos hw, if_neg (by simpa using hs)]
        rw [HNO, HE]
        have HS := Hid.mk' hs
        clear hA hI hlow hT lowU HNO hr hb0 hL hs hw HE
        go_enter Tryz.func10, Tryz.ntmps10
        go_wp2_with (first
          | (go_at_call 36; refine (HCN.out _).mono ?_; rintro e u1 ⟨rfl, hb⟩; obtain ⟨hc1, hf1⟩ := bcell hb; have hs1 : w.heap.size < u1.heap.size := by {have := hb.size; simp at this; omega}; have HB1 := Hid.mk' (HB0.out.trans (hb.mono (by simp))); clear hb hf1 HCN HB0)
          | (go_at_call 37; refine (HIB.out _ ?_).mono ?_; exact HB1.out; rintro e u2 ⟨he, hb⟩; have he := he.false_of HS.out; subst he; have HB2 := Hid.mk' (HB1.out.trans (hb.mono (Nat.le_of_lt hs1))); clear hb HIB HB1))
        go_ret2
        exact ⟨rfl, HB2.out⟩
    · have HNO := frame_no (c0 := c0) (c1 := (d : Int)) (c2 := c2) (c3 := c3) (c4 := c4) (c5 := c5) (c6 := c6) (c7 := c7) (number := number) (n := n) (L := L) (F := F) (fun h => hw h.2.1)
      have HE : frameE c0 d c2 c3 c4 c5 c6 c7 number n L F = 3 := by unfold frameE; rw [if_pos hr, if_neg hw]
      rw [if_pos hr, if_neg hw] at HCN
      rw [HNO, HE]
      clear hA hI hlow hT lowU HNO hr hb0 hL hw HE
      go_enter Tryz.func10, Tryz.ntmps10
      go_wp2_with (go_at_call 36; refine (HCN.out _).mono ?_; rintro e u1 ⟨rfl, hb⟩; have HB1 := Hid.mk' (HB0.out.trans (hb.mono (by simp))); clear hb HCN HB0)
      go_ret2
      exact ⟨rfl, HB1.out⟩
  · have HNO := frame_no (c0 := c0) (c1 := c1) (c2 := c2) (c3 := c3) (c4 := c4) (c5 := c5) (c6 := c6) (c7 := c7) (number := number) (n := n) (L := L) (F := F) (fun h => hr h.1)
    have HE : frameE c0 c1 c2 c3 c4 c5 c6 c7 number n L F = 1 := by unfold frameE; rw [if_neg hr]
    rw [if_neg hr] at HCN
    rw [HNO, HE]
    clear hA hI hlow hT lowU HNO hr hb0 hL HE
    go_enter Tryz.func10, Tryz.ntmps10
    go_wp2_with (go_at_call 36; refine (HCN.out _).mono ?_; rintro e u1 ⟨rfl, hb⟩; have HB1 := Hid.mk' (HB0.out.trans (hb.mono (by simp))); clear hb HCN HB0)
    go_ret2
    exact ⟨rfl, HB1.out⟩
end Go.Proofs.YtlncjgnomhpjnaaGreatDoor

/-
  The remainder, reckoned byte by byte: for examples.
-/
namespace Go.Proofs.YtlncjgnomhpjnaaGreatDoor
set_option linter.unusedVariables false
def stepB (k D R : Nat) : Nat := if R * 2 / 2 ^ k = 1 then (R * 2) ^^^ D else R * 2
def stepsB (k D : Nat) : Nat → Nat → Nat
  | 0, R => R
  | t + 1, R => stepB k D (stepsB k D t R)
def byteB (k D R c : Nat) : Nat := stepsB k D 8 (R ^^^ c * 2 ^ (k - 8))
def remB (k D : Nat) (l : List UInt8) : Nat := l.foldl (fun R c => byteB k D R c.toNat) 0
theorem step_good {k D : Nat} {m : Nat → Bool} {i e R : Nat} (hk : 8 ≤ k) (hD : D < 2 ^ (k + 1)) (hD1 : D.testBit k = true) (hi : i < e) (he : e ≤ i + 8) (h : Good k D m i e R) : Good k D m (i + 1) e (stepB k D R) := by
  unfold stepB
  split
  · exact good_yes hk hD hD1 hi he h (by assumption)
  · exact good_no hk hi he h (by assumption)
theorem steps_good {k D : Nat} {m : Nat → Bool} {i R : Nat} (hk : 8 ≤ k) (hD : D < 2 ^ (k + 1)) (hD1 : D.testBit k = true) (h : Good k D m i (i + 8) R) : ∀ t, t ≤ 8 → Good k D m (i + t) (i + 8) (stepsB k D t R)
  | 0, _ => h
  | t + 1, ht => step_good (i := i + t) (e := i + 8) hk hD hD1 (by omega) (by omega) (steps_good hk hD hD1 h t (by omega))
theorem remB_good {k D : Nat} (l : List UInt8) (hk : 8 ≤ k) (hD : D < 2 ^ (k + 1)) (hD1 : D.testBit k = true) : ∀ i, i ≤ l.length → Good k D (msgBit l) (8 * i) (8 * i) (remB k D (l.take i))
  | 0, _ => by simpa [remB] using good_zero k D (msgBit l)
  | i + 1, hi => by
    have ih := remB_good l hk hD hD1 i (by omega)
    have hlt : i < l.length := by omega
    have e : remB k D (l.take (i + 1)) = byteB k D (remB k D (l.take i)) l[i].toNat := by
      unfold remB
      rw [List.take_succ_eq_append_getElem hlt, List.foldl_append]
      rfl
    rw [e]
    have hs := good_start (c := l[i].toNat) hk (UInt8.toNat_lt _) (fun x hx => by
      rw [msgBit_byte _ _ _ hx, List.getD_eq_getElem?_getD, List.getElem?_eq_getElem hlt]; rfl) ih
    have := steps_good hk hD hD1 hs 8 (by omega)
    rw [show 8 * (i + 1) = 8 * i + 8 by omega]
    exact this
theorem crc_fast {k D : Nat} (l : List UInt8) (hk : 8 ≤ k) (hD : D < 2 ^ (k + 1)) (hD1 : D.testBit k = true) : crc k D l = remB k D l := by
  have h := remB_good l hk hD hD1 l.length (Nat.le_refl _)
  rw [List.take_length] at h
  exact good_inj (crc_good k D l) h
end Go.Proofs.YtlncjgnomhpjnaaGreatDoor

/-
  The six tables among the laid variables of 'Frames'.
-/
namespace Go.Proofs.YtlncjgnomhpjnaaGreatDoor
open Go Go.Lib
set_option linter.unusedVariables false
def z32 : List Int := [0, 1, 28, 2, 29, 14, 24, 3, 30, 22, 20, 15, 25, 17, 4, 8, 31, 27, 13, 23, 21, 19, 16, 7, 26, 12, 18, 6, 11, 5, 10, 9]
def z64 : List Int := [0, 1, 56, 2, 57, 49, 28, 3, 61, 58, 42, 50, 38, 29, 17, 4, 62, 47, 59, 36, 45, 43, 51, 22, 53, 39, 33, 30, 24, 18, 12, 5, 63, 55, 48, 27, 60, 41, 37, 16, 46, 35, 44, 21, 52, 32, 23, 11, 54, 26, 40, 15, 34, 20, 31, 10, 25, 14, 19, 9, 13, 8, 7, 6]
theorem z64_at : ∀ t : Fin 13, z64[285870213051353865 * 2 ^ t.val % 18446744073709551616 / 288230376151711744]? = some (t.val : Int) := by decide +kernel
theorem g64 : Tryz.prog.globalNamed "math/bits.deBruijn64tab" = some 6 := by kernel_rfl
theorem g64Type : (Tryz.prog.globals[6]?).map (·.type) = some 253 := by kernel_rfl
theorem cells64 : Tryz.prog.cellsOf 253 = 64 := by kernel_rfl
theorem tab_lt4 {w : World} {g i : Nat} {v : Value} (h : w.cell? ⟨g, i, none⟩ = some v) : g < w.heap.size := by
  by_cases hg : g < w.heap.size
  · exact hg
  · have hn : w.heap[g]? = none := Array.getElem?_eq_none (by omega)
    simp [World.cell?, hn] at h
def pairRows : List (List Int) := [[0, 1], [0, 2], [2, 1], [3, 2]]
theorem gPairs : Tryz.prog.globalNamed "reel/frame.pairs" = some 2 := by kernel_rfl
theorem gPairsType : (Tryz.prog.globals[2]?).map (·.type) = some 140 := by kernel_rfl
theorem cells42 : Tryz.prog.cellsOf 140 = 4 * 2 := by kernel_rfl
theorem cells2 : Tryz.prog.cellsOf 139 = 2 := by kernel_rfl
theorem pairRows_at (r c : Nat) (hr : r < 4) (hc : c < 2) : ∃ zs, pairRows[r]? = some zs ∧ zs[c]? = some (pairV r c) := by
  have h : ∀ r : Fin 4, ∀ c : Fin 2, (pairRows[r.val]?.bind fun zs => zs[c.val]?) = some (pairV r.val c.val) := by decide
  have := h ⟨r, hr⟩ ⟨c, hc⟩
  exact Option.bind_eq_some_iff.1 this
end Go.Proofs.YtlncjgnomhpjnaaGreatDoor

