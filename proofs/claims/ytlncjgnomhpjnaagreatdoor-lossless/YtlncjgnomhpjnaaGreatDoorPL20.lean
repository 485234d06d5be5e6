import Derived.Test.YtlncjgnomhpjnaaGreatDoorPL19
import Derived.Test.YtlncjgnomhpjnaaGreatDoorPL18
import Derived.Deep.RegionHeld3
import Derived.Test.YtlncjgnomhpjnaaGreatDoorPL17
import Derived.Test.YtlncjgnomhpjnaaGreatDoorRows
import Derived.Test.YtlncjgnomhpjnaaGreatDoorPL2
import Derived.Test.YtlncjgnomhpjnaaGreatDoorPL16
import Derived.Test.YtlncjgnomhpjnaaGreatDoorPL15
import Derived.Deep.DeepCutAuto
import Derived.Test.YtlncjgnomhpjnaaGreatDoorPL6
/-
  Two channels in the document: reelref.pair, reelref.width, reelref.bitsOf.
-/
namespace Go.Proofs.YtlncjgnomhpjnaaGreatDoor
open Go.RowKit Go.Deep
set_option linter.unusedVariables false
def l1 (l r : Nat → Int) (m : Nat) : Nat → Int := if m ≤ 1 then l else if m = 2 then sideL l r else midL l r
def l2 (l r : Nat → Int) (m : Nat) : Nat → Int := if m = 0 ∨ m = 2 then r else sideL l r
def w1 (d m : Nat) : Nat := if m = 2 then d + 1 else d
def w2 (d m : Nat) : Nat := if m = 0 ∨ m = 2 then d else d + 1
theorem pairT_eq (d : Nat) (l r : Nat → Int) (n m : Nat) (hm : m < 4) : pairT d l r n m = subT (w1 d m) (l1 l r m) n ++ subT (w2 d m) (l2 l r m) n := by
  match m, hm with
  | 0, _ => rfl
  | 1, _ => rfl
  | 2, _ => rfl
  | 3, _ => rfl
end Go.Proofs.YtlncjgnomhpjnaaGreatDoor

/-
  A frame's head, laid down.
-/
namespace Go.Proofs.YtlncjgnomhpjnaaGreatDoor
open Go.RowKit Go.Deep
set_option linter.unusedVariables false
/-- a cell of a variable's block, in a later world -/
theorem keep_cell {u u' : World} {b o : Nat} {v : Value} (h : Below u.heap.size u u') (hb : b < u.heap.size) (hc : u.cell? ⟨b, o, none⟩ = some v) : u'.cell? ⟨b, o, none⟩ = some v :=
  (h.cell (p := ⟨b, o, none⟩) hb).trans hc
theorem keep4 {u u' : World} {b : Nat} {v0 v1 v2 v3 : Value} (hb : Below u.heap.size u u') (h : b < u.heap.size ∧ u.cell? ⟨b, 0, none⟩ = some v0 ∧ u.cell? ⟨b, 1, none⟩ = some v1 ∧ u.cell? ⟨b, 2, none⟩ = some v2 ∧ u.cell? ⟨b, 3, none⟩ = some v3) :
    b < u'.heap.size ∧ u'.cell? ⟨b, 0, none⟩ = some v0 ∧ u'.cell? ⟨b, 1, none⟩ = some v1 ∧ u'.cell? ⟨b, 2, none⟩ = some v2 ∧ u'.cell? ⟨b, 3, none⟩ = some v3 :=
  ⟨Nat.lt_of_lt_of_le h.1 hb.size, keep_cell hb h.1 h.2.1, keep_cell hb h.1 h.2.2.1, keep_cell hb h.1 h.2.2.2.1, keep_cell hb h.1 h.2.2.2.2⟩
set_option maxHeartbeats 1000000 in
theorem headLay_any (number len n mode : Nat) (w : World) (h1 : number < 65536) (h2 : len < 65536) (h3 : 1 ≤ n) (h4 : n ≤ 256) (h5 : mode < 256) :
    Calls Tryz.prog 67 #[.agg #[.int .i64 number, .int .i64 len, .int .i64 n, .int .i64 mode]] w fun e w' => e = .returned (.string (bs (seal8 (headT number len n mode)))) ∧ Below w.heap.size w w' := by
  have HI1 : Hid (∀ u, Calls Tryz.prog 105 #[.int .i64 165, .int .i64 1] u fun e w' => e = .returned (.string (bs (inT 165 1))) ∧ Below u.heap.size u w') := fun u => in_any 165 1 u (by omega) (by omega)
  have HI2 : Hid (∀ u, Calls Tryz.prog 105 #[.int .i64 number, .int .i64 2] u fun e w' => e = .returned (.string (bs (inT number 2))) ∧ Below u.heap.size u w') := fun u => in_any number 2 u (by omega) (by omega)
  have HI3 : Hid (∀ u, Calls Tryz.prog 105 #[.int .i64 len, .int .i64 2] u fun e w' => e = .returned (.string (bs (inT len 2))) ∧ Below u.heap.size u w') := fun u => in_any len 2 u (by omega) (by omega)
  have HI4 : Hid (∀ u, Calls Tryz.prog 105 #[.int .i64 ((n - 1 : Nat) : Int), .int .i64 1] u fun e w' => e = .returned (.string (bs (inT (n - 1) 1))) ∧ Below u.heap.size u w') := fun u => in_any (n - 1) 1 u (by omega) (by omega)
  have HI5 : Hid (∀ u, Calls Tryz.prog 105 #[.int .i64 mode, .int .i64 1] u fun e w' => e = .returned (.string (bs (inT mode 1))) ∧ Below u.heap.size u w') := fun u => in_any mode 1 u (by omega) (by omega)
  have HS := Hid.mk' (fun u => seal8_any (headT number len n mode) u (by rw [headT_length]; omega))
  have HTX : Hid (bs (inT 165 1) ++ bs (inT number 2) ++ bs (inT len 2) ++ bs (inT (n - 1) 1) ++ bs (inT mode 1) = bs (headT number len n mode)) := by
    show _ = _; rw [bs_append, bs_append, bs_append, bs_append]; rfl
  have wn : IntKind.i64.wrap ((n : Int) - 1) = ((n - 1 : Nat) : Int) := by rw [IntKind.wrap_i64]; omega
  have z1 : (bs (inT 165 1)).size = 1 := by rw [bs_size, inT_length]
  have z2 : (bs (inT number 2)).size = 2 := by rw [bs_size, inT_length]
  have z3 : (bs (inT len 2)).size = 2 := by rw [bs_size, inT_length]
  have z4 : (bs (inT (n - 1) 1)).size = 1 := by rw [bs_size, inT_length]
  have z5 : (bs (inT mode 1)).size = 1 := by rw [bs_size, inT_length]
  rw [← HTX.out] at HS
  generalize seal8 (headT number len n mode) = R at *
  generalize bs (inT 165 1) = X1 at *
  generalize bs (inT number 2) = X2 at *
  generalize bs (inT len 2) = X3 at *
  generalize bs (inT (n - 1) 1) = X4 at *
  generalize bs (inT mode 1) = X5 at *
  generalize n - 1 = n1 at *
  clear HTX
  have hb0 : Below w.heap.size w (w.alloc (.cells #[.int .i64 number, .int .i64 len, .int .i64 n, .int .i64 mode] 99)) := (Below.refl _ _).alloc (Nat.le_refl _) _
  have HB0 := Hid.mk' hb0
  clear hb0
  have hS0 : w.heap.size < (w.alloc (.cells #[.int .i64 number, .int .i64 len, .int .i64 n, .int .i64 mode] 99)).drew.heap.size ∧ (w.alloc (.cells #[.int .i64 number, .int .i64 len, .int .i64 n, .int .i64 mode] 99)).drew.cell? ⟨w.heap.size, 0, none⟩ = some (.int .i64 number) ∧ (w.alloc (.cells #[.int .i64 number, .int .i64 len, .int .i64 n, .int .i64 mode] 99)).drew.cell? ⟨w.heap.size, 1, none⟩ = some (.int .i64 len) ∧ (w.alloc (.cells #[.int .i64 number, .int .i64 len, .int .i64 n, .int .i64 mode] 99)).drew.cell? ⟨w.heap.size, 2, none⟩ = some (.int .i64 n) ∧ (w.alloc (.cells #[.int .i64 number, .int .i64 len, .int .i64 n, .int .i64 mode] 99)).drew.cell? ⟨w.heap.size, 3, none⟩ = some (.int .i64 mode) := by simp
  go_enter Tryz.func67, Tryz.ntmps67
  go_wp2
  go_region_held3 (fun w' => w.heap.size < w'.heap.size ∧ w'.cell? ⟨w.heap.size, 0, none⟩ = some (.int .i64 number) ∧ w'.cell? ⟨w.heap.size, 1, none⟩ = some (.int .i64 len) ∧ w'.cell? ⟨w.heap.size, 2, none⟩ = some (.int .i64 n) ∧ w'.cell? ⟨w.heap.size, 3, none⟩ = some (.int .i64 mode))
    (assumption)
    (first
    | (go_at_call 105; refine (HI1.out _).mono ?_; rintro e u1 ⟨rfl, hb1⟩; have hS1 := keep4 hb1 hS0; have HB1 := Hid.mk' (HB0.out.drew.trans (hb1.mono (by simp))); clear HI1 HB0)
    | (go_at_call 105; refine (HI2.out _).mono ?_; rintro e u2 ⟨rfl, hb2⟩; have hS2 := keep4 hb2 hS1; have HB2 := Hid.mk' (HB1.out.trans (hb2.mono HB1.out.size)); clear HI2 HB1)
    | (go_at_call 105; refine (HI3.out _).mono ?_; rintro e u3 ⟨rfl, hb3⟩; have hS3 := keep4 hb3 hS2; have HB3 := Hid.mk' (HB2.out.trans (hb3.mono HB2.out.size)); clear HI3 HB2)
    | (go_at_call 105; refine (HI4.out _).mono ?_; rintro e u4 ⟨rfl, hb4⟩; have hS4 := keep4 hb4 hS3; have HB4 := Hid.mk' (HB3.out.trans (hb4.mono HB3.out.size)); clear HI4 HB3)
    | (go_at_call 105; refine (HI5.out _).mono ?_; rintro e u5 ⟨rfl, hb5⟩; have hS5 := keep4 hb5 hS4; have HB5 := Hid.mk' (HB4.out.trans (hb5.mono HB4.out.size)); clear HI5 HB4)
    | (go_at_call 107; refine (HS.out _).mono ?_; rintro e u6 ⟨rfl, hb6⟩; have hS6 := keep4 hb6 hS5; have HB6 := Hid.mk' (HB5.out.trans (hb6.mono HB5.out.size)); clear HS HB5))
  go_wp2
  go_ret
  exact ⟨rfl, HB6.out⟩
end Go.Proofs.YtlncjgnomhpjnaaGreatDoor

/-
  Bits in bytes: bittext.Bytes and reelref.packed.
-/
namespace Go.Proofs.YtlncjgnomhpjnaaGreatDoor
open Go.RowKit Go.Deep
set_option linter.unusedVariables false
theorem or_u8 (a b : Nat) (ha : a < 256) (hb : b < 256) : bits .or .u8 (a : Int) (b : Int) = ((a ||| b : Nat) : Int) := by
  have hx : a ||| b < 2 ^ 8 := Nat.or_lt_two_pow (by omega) (by omega)
  have h1 : (BitVec.ofInt 8 (a : Int)).toNat = a := by
    rw [BitVec.ofInt_natCast, BitVec.toNat_ofNat]; exact Nat.mod_eq_of_lt (by omega)
  have h2 : (BitVec.ofInt 8 (b : Int)).toNat = b := by
    rw [BitVec.ofInt_natCast, BitVec.toNat_ofNat]; exact Nat.mod_eq_of_lt (by omega)
  show IntKind.u8.wrap ((BitVec.ofInt 8 (a : Int) ||| BitVec.ofInt 8 (b : Int)).toNat : Int) = _
  rw [BitVec.toNat_or, h1, h2, IntKind.wrap_u8]
  omega
set_option maxHeartbeats 1000000 in
theorem bytes_any (T : List UInt8) (w : World) (hT : AllB T) (hs : T.length ≤ 100000) :
    Calls Tryz.prog 65 #[.string (bs T)] w fun e w' => e = .returned (.string (bs (packT T))) ∧ Below w.heap.size w w' := by
  obtain ⟨S, hS⟩ : ∃ S, S = bs T := ⟨_, rfl⟩
  have hz : S.size = T.length := by rw [hS, bs_size]
  have hmk := run_make_row' (P := Tryz.prog) 61 5 (.int .u8 0) 1 Tryz.underlying61 infoByte rfl .i64 .i64 ((T.length + 7) / 8) (by omega) (by omega)
  have hq : ((S.size : Int) + 8 - 1).tdiv 8 = (((T.length + 7) / 8 : Nat) : Int) := by rw [Int.tdiv_eq_ediv_of_nonneg (by omega), hz]; omega
  have w1 : IntKind.i64.wrap ((S.size : Int) + 8) = (S.size : Int) + 8 := by rw [IntKind.wrap_i64]; omega
  have w2 : IntKind.i64.wrap ((S.size : Int) + 8 - 1) = (S.size : Int) + 8 - 1 := by rw [IntKind.wrap_i64]; omega
  have HG : Hid (∀ j (h : j < S.size), S[j] = ltr (tbit T j)) := by
    show ∀ j (h : j < S.size), S[j] = ltr (tbit T j)
    subst hS
    intro j h
    rw [bs_get]; exact tbit_get hT j (by rw [bs_size] at h; exact h)
  have HZ := Hid.mk' hz
  have HST : Hid (strOf (pkB T) ((T.length + 7) / 8) = bs (packT T)) := strOf_pack T
  rw [← hS]
  clear hS hz hT
  generalize hR : bs (packT T) = R at *
  clear hR
  obtain ⟨M, hM⟩ : ∃ M, M = (T.length + 7) / 8 := ⟨_, rfl⟩
  have hMb : M ≤ 12501 := by omega
  rw [← hM] at hmk hq HST
  have HM := Hid.mk' hM
  clear hM
  go_enter Tryz.func65, Tryz.ntmps65
  go_wp2
  clear hmk hq w1 w2
  have HCV := Hid.mk' (fun (u : World) h => run_rowString (P := Tryz.prog) u 61 9 5 w.heap.size 0 M M (pkB T) Tryz.underlying61 Tryz.underlying5 Tryz.underlying9 h)
  go_loopw [4, 13] (fun _ i wr => ∃ k : Nat, k ≤ S.size ∧ i = .int .i64 k ∧ Hid (wr.rowIs w.heap.size 5 M (fun j => .int .u8 (pkN T k j : Nat)) ∧ Below w.heap.size w wr)) (fun _ i _ => S.size - (intOf i).toNat)
  case atStart => exact ⟨0, Nat.zero_le _, rfl, (World.rowIs_made w (.int .u8 0) M 5).congr fun i _ => by rw [pkN_zero]; rfl, (Below.refl _ _).alloc (Nat.le_refl _) _⟩
  case round =>
    obtain ⟨m, hm, rfl, HR⟩ := hrel
    by_cases hlt : m < S.size
    · have hdm : m / 8 < M := by have := HM.out; have := HZ.out; omega
      have hc1 := HR.out.1.cell hdm
      have hf1 := HR.out.1.frozen (m / 8)
      have hb := HG.out m hlt
      have hbn : (S[m].toNat : Int) = 48 + ((tbit T m).toNat : Int) := by rw [hb, ltr_nat]; omega
      have hb2 : (tbit T m).toNat ≤ 1 := Bool.toNat_le _
      have hp := pkN_lt T m (m / 8)
      have hp2 : (tbit T m).toNat * 2 ^ (7 - m % 8) < 256 := by
        have : 2 ^ (7 - m % 8) ≤ 2 ^ 7 := Nat.pow_le_pow_right (by omega) (by omega)
        have := Nat.mul_le_mul hb2 this
        omega
      have hor := or_u8 _ _ hp hp2
      rw [pkN_step] at hor
      have hset : (wr.setCell ⟨w.heap.size, m / 8, none⟩ (.int .u8 (pkN T (m + 1) (m / 8) : Nat))).rowIs w.heap.size 5 M (fun j => .int .u8 (pkN T (m + 1) j : Nat)) :=
        (HR.out.1.set (m / 8) _).congr fun j _ => by
          by_cases e : j = m / 8
          · rw [if_pos e, e]
          · rw [if_neg e, pkN_other T m j e]
      have HSET := Hid.mk' hset
      have HB := Hid.mk' hb
      generalize pkN T (m + 1) (m / 8) = P2 at *
      generalize pkN T m (m / 8) = P1 at *
      have td : (m : Int).tdiv 8 = ((m / 8 : Nat) : Int) := by rw [Int.tdiv_eq_ediv_of_nonneg (by omega)]; omega
      have tm : (m : Int).tmod 8 = ((m % 8 : Nat) : Int) := by rw [Int.tmod_eq_emod_of_nonneg (by omega)]; omega
      have hm8 : m % 8 < 8 := Nat.mod_lt _ (by omega)
      have hval : bits .or .u8 (P1 : Int) ((48 + ((tbit T m).toNat : Int) - 48) * 2 ^ (7 - m % 8) % 256) = (P2 : Int) := by
        rw [← hor]; congr 1
        have e2 : (((tbit T m).toNat * 2 ^ (7 - m % 8) : Nat) : Int) = ((tbit T m).toNat : Int) * 2 ^ (7 - m % 8) := by simp
        rw [show (48 + ((tbit T m).toNat : Int) - 48) = ((tbit T m).toNat : Int) by omega, ← e2]
        omega
      clear hset hb
      go_wp2
      go_region
      all_goals go_wp2
      go_roundw
      case rel => exact ⟨m + 1, by omega, by go_num, HSET.out, by exact (HR.out.2.setCell (Nat.le_refl _) _).drew⟩
      case measure => simp [intOf]; omega
    · have e : m = S.size := by omega
      have hcv := HCV.out wr (fun i hi => by
        have := HR.out.1.cell (i := i) hi
        rw [e, HZ.out] at this
        rw [Nat.zero_add, this, pkB_nat])
      rw [HST.out] at hcv
      subst e
      clear HCV
      go_wp2
      go_ret
      exact ⟨rfl, HR.out.2⟩
end Go.Proofs.YtlncjgnomhpjnaaGreatDoor

/-
  frame.Make, reel.Frame.
-/
namespace Go.Proofs.YtlncjgnomhpjnaaGreatDoor
open Go.RowKit Go.Deep
set_option linter.unusedVariables false
theorem packT_bd (d n : Nat) (F : Nat → Nat → Int) (N : Nat) (hn1 : 1 ≤ N) (hn : N ≤ 32) (hd : d ≤ 12) (h1 : 1 ≤ n) (h4 : n ≤ 4) : (packT (blockT d n F N)).length ≤ 212 := by
  rw [packT_length]
  have := blockT_bd d n F N hn1 hn hd h1 h4
  omega
set_option maxHeartbeats 2000000 in
theorem make_any (c2 c3 c4 c5 c6 c7 : Int) (d number : Nat) (a : Option Addr) (n cap : Nat) (A : Nat → Option Addr) (N : Nat) (C : Nat → Nat) (F : Nat → Nat → Int) (w : World) (hd1 : 1 ≤ d) (hd : d ≤ 12) (hn1 : 1 ≤ n) (hn4 : n ≤ 4) (hN1 : 1 ≤ N) (hN : N ≤ 32) (hnum : number < 65536)
    (hf : ∀ i, i < n → ∀ j, j < N → fitsB d (F i j) = true) (hA : ListsAt w a n A (fun _ => N) C) (hI : ∀ i, i < n → IntsAt w (A i) N (F i)) (hlow : Low w.heap.size a n A (fun _ => N)) (hT : TabsF w) :
    Calls Tryz.prog 38 #[.agg #[.int .i64 n, .int .i64 d, .int .i64 c2, .int .i64 c3, .int .i64 c4, .int .i64 c5, .int .i64 c6, .int .i64 c7], .int .i64 number, .slice a n cap] w fun e w' =>
      e = .returned (.string (bs (frameT number N (modeN d n F N) (blockT d n F N)))) ∧ Below w.heap.size w w' := by
  have hb0 : Below w.heap.size w (w.alloc (.cells #[.int .i64 n, .int .i64 d, .int .i64 c2, .int .i64 c3, .int .i64 c4, .int .i64 c5, .int .i64 c6, .int .i64 c7] 23)) := (Below.refl _ _).alloc (Nat.le_refl _) _
  have HSM := Hid.mk' (shortestMode_any d a n cap A N C F _ hd1 hd hn1 hn4 hN1 hN hf (hA.below hb0 hlow.1) (fun i hi => (hI i hi).below hb0 (hlow.2 i hi)) ⟨fun x hx h0 => Nat.lt_of_lt_of_le (hlow.1 x hx h0) hb0.size, fun i hi x hx h0 => Nat.lt_of_lt_of_le (hlow.2 i hi x hx h0) hb0.size⟩ (hT.below hb0))
  have HBY := Hid.mk' (fun u => bytes_any (blockT d n F N) u (blockT_bits d n F N) (by have := blockT_bd d n F N hN1 hN hd hn1 hn4; omega))
  have hpk := packT_bd d n F N hN1 hN hd hn1 hn4
  have hmd := modeN_lt d n F N
  have HHL := Hid.mk' (fun u => headLay_any number ((packT (blockT d n F N)).length + 10) N (modeN d n F N) u hnum (by omega) hN1 (by omega) (by omega))
  have HSE := Hid.mk' (fun u => seal16_any (seal8 (headT number ((packT (blockT d n F N)).length + 10) N (modeN d n F N)) ++ packT (blockT d n F N)) u (by rw [List.length_append, seal8_length, headT_length]; omega))
  have HAP : Hid (bs (seal8 (headT number ((packT (blockT d n F N)).length + 10) N (modeN d n F N)) ++ packT (blockT d n F N)) = bs (seal8 (headT number ((packT (blockT d n F N)).length + 10) N (modeN d n F N))) ++ bs (packT (blockT d n F N))) := (bs_append _ _).symm
  have HFR : Hid (seal16 (seal8 (headT number ((packT (blockT d n F N)).length + 10) N (modeN d n F N)) ++ packT (blockT d n F N)) = frameT number N (modeN d n F N) (blockT d n F N)) := rfl
  rw [HFR.out, HAP.out] at HSE
  have hz1 : (bs (packT (blockT d n F N))).size = (packT (blockT d n F N)).length := bs_size _
  have hz2 : (bs (seal8 (headT number ((packT (blockT d n F N)).length + 10) N (modeN d n F N)))).size = 8 := by rw [bs_size, seal8_length, headT_length]
  obtain ⟨b, off, rfl, hcell⟩ := hA.open (by omega)
  have hc0 := hcell 0 (by omega)
  have hbl : b < w.heap.size := hlow.1 _ rfl (by omega : 0 < n)
  simp only [Nat.add_zero] at hc0
  have HB0 := Hid.mk' hb0
  clear HFR HAP hf hA hI hlow hT hcell hb0
  generalize frameT number N (modeN d n F N) (blockT d n F N) = R at *
  generalize bs (seal8 (headT number ((packT (blockT d n F N)).length + 10) N (modeN d n F N))) = H at *
  generalize bs (packT (blockT d n F N)) = P at *
  generalize (packT (blockT d n F N)).length = pl at *
  generalize modeN d n F N = mode at *
  generalize bs (blockT d n F N) = T at *
  have e10 : ((pl + 10 : Nat) : Int) = 8 + (pl : Int) + 2 := by omega
  rw [e10] at HHL
  clear e10
  go_enter Tryz.func38, Tryz.ntmps38
  go_wp2_with (first
    | (go_at_call 64; refine HSM.out.mono ?_; rintro e u1 ⟨rfl, hb⟩; obtain ⟨hc1, hf1⟩ := bcell hb; have hs1 : w.heap.size < u1.heap.size := by {have := hb.size; simp at this; omega}; have HB1 := Hid.mk' (HB0.out.trans (hb.mono (by simp))); clear hb hf1 HSM HB0)
    | (go_at_call 65; refine (HBY.out _).mono ?_; rintro e u2 ⟨rfl, hb⟩; obtain ⟨hc2, hf2⟩ := bcell hb; have hs2 : w.heap.size < u2.heap.size := Nat.lt_of_lt_of_le hs1 hb.size; have HB2 := Hid.mk' (HB1.out.trans (hb.mono (Nat.le_of_lt hs1))); have hq2 : u2.cell? ⟨b, off, none⟩ = some (.slice (A 0) N (C 0)) := (HB2.out.cell (p := ⟨b, off, none⟩) hbl).trans hc0; clear hb hf2 HBY HB1)
    | (go_at_call 67; refine (HHL.out _).mono ?_; rintro e u3 ⟨rfl, hb⟩; have HB3 := Hid.mk' ((HB2.out.alloc HB2.out.size _).trans (hb.mono (by have := hs2; simp; omega))); have hs3 : w.heap.size < u3.heap.size := by {have := hb.size; simp at this; omega}; clear hb HHL HB2)
    | (go_at_call 66; refine (HSE.out _).mono ?_; rintro e u4 ⟨rfl, hb⟩; have HB4 := Hid.mk' (HB3.out.trans (hb.mono (Nat.le_of_lt hs3))); clear hb HSE HB3))
  go_ret
  exact ⟨rfl, HB4.out⟩
end Go.Proofs.YtlncjgnomhpjnaaGreatDoor

/-
  The six tables among the laid variables of 'Frames'.
-/
namespace Go.Proofs.YtlncjgnomhpjnaaGreatDoor
open Go Go.Lib
set_option linter.unusedVariables false
def z32 : List Int := [0, 1, 28, 2, 29, 14, 24, 3, 30, 22, 20, 15, 25, 17, 4, 8, 31, 27, 13, 23, 21, 19, 16, 7, 26, 12, 18, 6, 11, 5, 10, 9]
def z64 : List Int := [0, 1, 56, 2, 57, 49, 28, 3, 61, 58, 42, 50, 38, 29, 17, 4, 62, 47, 59, 36, 45, 43, 51, 22, 53, 39, 33, 30, 24, 18, 12, 5, 63, 55, 48, 27, 60, 41, 37, 16, 46, 35, 44, 21, 52, 32, 23, 11, 54, 26, 40, 15, 34, 20, 31, 10, 25, 14, 19, 9, 13, 8, 7, 6]
theorem z64_at : ∀ t : Fin 13, z64[285870213051353865 * 2 ^ t.val % 18446744073709551616 / 288230376151711744]? = some (t.val : Int) := by decide +kernel
theorem g64 : Tryz.prog.globalNamed "math/bits.deBruijn64tab" = some 6 := by kernel_rfl
theorem g64Type : (Tryz.prog.globals[6]?).map (·.type) = some 253 := by kernel_rfl
theorem cells64 : Tryz.prog.cellsOf 253 = 64 := by kernel_rfl
theorem tab_lt4 {w : World} {g i : Nat} {v : Value} (h : w.cell? ⟨g, i, none⟩ = some v) : g < w.heap.size := by
  by_cases hg : g < w.heap.size
  · exact hg
  · have hn : w.heap[g]? = none := Array.getElem?_eq_none (by omega)
    simp [World.cell?, hn] at h
def pairRows : List (List Int) := [[0, 1], [0, 2], [2, 1], [3, 2]]
theorem gPairs : Tryz.prog.globalNamed "reel/frame.pairs" = some 2 := by kernel_rfl
theorem gPairsType : (Tryz.prog.globals[2]?).map (·.type) = some 140 := by kernel_rfl
theorem cells42 : Tryz.prog.cellsOf 140 = 4 * 2 := by kernel_rfl
theorem cells2 : Tryz.prog.cellsOf 139 = 2 := by kernel_rfl
theorem pairRows_at (r c : Nat) (hr : r < 4) (hc : c < 2) : ∃ zs, pairRows[r]? = some zs ∧ zs[c]? = some (pairV r c) := by
  have h : ∀ r : Fin 4, ∀ c : Fin 2, (pairRows[r.val]?.bind fun zs => zs[c.val]?) = some (pairV r.val c.val) := by decide
  have := h ⟨r, hr⟩ ⟨c, hc⟩
  exact Option.bind_eq_some_iff.1 this
end Go.Proofs.YtlncjgnomhpjnaaGreatDoor

/-
  What is read of a text from a place on is what is read of its rest.
-/
namespace Go.Proofs.YtlncjgnomhpjnaaGreatDoor
set_option linter.unusedVariables false
/-- the text from place o on -/
def shB (b : Nat → Bool) (o i : Nat) : Bool := b (o + i)
def shS (o : Nat) (s : St) : St := ⟨o + s.p, s.k, s.x⟩
theorem num_sh (b : Nat → Bool) (o p k : Nat) : num (shB b o) p k = num b (o + p) k := by
  unfold num shB
  simp only [Nat.add_assoc]
theorem sgn_sh (b : Nat → Bool) (o p k : Nat) : sgn (shB b o) p k = sgn b (o + p) k := by
  unfold sgn
  rw [num_sh]
theorem zrun_sh (b : Nat → Bool) (o : Nat) : ∀ m p, zrun (shB b o) m p = zrun b m (o + p)
  | 0, _ => rfl
  | m + 1, p => by
    have e : shB b o p = b (o + p) := rfl
    unfold zrun
    rw [e, zrun_sh b o m (p + 1), Nat.add_assoc]
theorem rice_sh {b : Nat → Bool} {o N : Nat} (ho : o ≤ N) (k p : Nat) : rice b N k (o + p) = (rice (shB b o) (N - o) k p).map fun r => (r.1, o + r.2) := by
  unfold rice
  rw [zrun_sh, num_sh, show N - o - p = N - (o + p) by omega]
  by_cases h : o + p + zrun b (N - (o + p)) (o + p) + 1 + k ≤ N
  · rw [if_pos h, if_pos (by omega)]
    simp only [Option.map_some]
    congr 2
    · congr 3; omega
    · omega
  · rw [if_neg h, if_neg (by omega)]; rfl
/-- the same job over the rest -/
def Job.sh (J : Job) (o : Nat) : Job := ⟨shB J.b o, J.N - o, J.w, J.kind, J.a, J.c, J.size⟩
theorem Job.rdK_sh {J : Job} {o : Nat} (ho : o ≤ J.N) (s : St) : J.rdK (shS o s) = ((J.sh o).rdK s).map (shS o) := by
  unfold Job.rdK Job.sh shS
  simp only [num_sh]
  by_cases h : o + s.p + 4 ≤ J.N ∧ num J.b (o + s.p) 4 ≤ 14
  · rw [if_pos h, if_pos ⟨by omega, h.2⟩]
    simp only [Option.map_some]
    rw [Nat.add_assoc]
  · rw [if_neg h, if_neg (fun hh => h ⟨by omega, hh.2⟩)]; rfl
theorem Job.plc_sh {J : Job} {o : Nat} (ho : o ≤ J.N) (i : Nat) (s : St) : J.plc i (shS o s) = ((J.sh o).plc i s).map (shS o) := by
  unfold Job.plc
  have e1 : (J.sh o).kind = J.kind := rfl
  by_cases hi : i < ord J.kind
  · rw [if_pos hi, if_pos (by rw [e1]; exact hi)]; rfl
  · rw [if_neg hi, if_neg (by rw [e1]; exact hi)]
    have e2 : rice J.b J.N (shS o s).k (shS o s).p = (rice (J.sh o).b (J.sh o).N s.k s.p).map fun r => (r.1, o + r.2) := rice_sh ho s.k s.p
    rw [e2]
    cases hr : rice (J.sh o).b (J.sh o).N s.k s.p with
    | none => rfl
    | some r =>
      obtain ⟨v, p'⟩ := r
      simp only [Option.map_some]
      show (if fitsB J.w (guessG J.kind J.a J.c s.x i + v) = true then _ else _) = Option.map _ (if fitsB J.w (guessG J.kind J.a J.c s.x i + v) = true then _ else _)
      by_cases hf : fitsB J.w (guessG J.kind J.a J.c s.x i + v) = true
      · rw [if_pos hf, if_pos hf]; rfl
      · rw [if_neg hf, if_neg hf]; rfl
theorem Job.R_sh {J : Job} {o : Nat} (ho : o ≤ J.N) (s0 : St) : ∀ i, J.R (shS o s0) i = ((J.sh o).R s0 i).map (shS o)
  | 0 => rfl
  | i + 1 => by
    unfold Job.R
    rw [Job.R_sh ho s0 i]
    cases h : (J.sh o).R s0 i with
    | none => rfl
    | some s =>
      simp only [Option.map_some, Option.bind_some]
      have e : (J.sh o).size = J.size := rfl
      rw [e]
      by_cases hm : i % J.size = 0
      · rw [if_pos hm, if_pos hm, Job.rdK_sh ho]
        cases h2 : (J.sh o).rdK s with
        | none => rfl
        | some s2 => simp only [Option.map_some, Option.bind_some]; exact Job.plc_sh ho i s2
      · rw [if_neg hm, if_neg hm]
        simp only [Option.bind_some]
        exact Job.plc_sh ho i s
theorem restsSt_sh {b : Nat → Bool} {o N : Nat} (ho : o ≤ N) (d kind : Nat) (a c : Int) (n p : Nat) (x0 : Nat → Int) : restsSt b N d kind a c n (o + p) x0 = (restsSt (shB b o) (N - o) d kind a c n p x0).map (shS o) := by
  unfold restsSt
  rw [num_sh]
  by_cases h : o + p + 2 ≤ N ∧ cutB n (ord kind) (num b (o + p) 2) = true
  · rw [if_pos h, if_pos ⟨by omega, h.2⟩]
    have e1 : (theJob b N d kind a c n (o + p)).sh o = theJob (shB b o) (N - o) d kind a c n p := by
      unfold theJob Job.sh
      simp only [num_sh]
    have e2 : (⟨o + p + 2, 0, x0⟩ : St) = shS o ⟨p + 2, 0, x0⟩ := by unfold shS; simp only [Nat.add_assoc]
    rw [e2, Job.R_sh (J := theJob b N d kind a c n (o + p)) ho, e1]
  · rw [if_neg h, if_neg (fun hh => h ⟨by omega, hh.2⟩)]; rfl
theorem posn_sh (o p d i : Nat) : posn (o + p) d i = o + posn p d i := by unfold posn; omega
theorem bodySt_sh {b : Nat → Bool} {o N : Nat} (ho : o ≤ N) (kind d n p : Nat) : bodySt b N kind d n (o + p) = (bodySt (shB b o) (N - o) kind d n p).map fun r => (r.1, o + r.2) := by
  unfold bodySt
  simp only [sgn_sh, posn_sh]
  by_cases h0 : kind = 0
  · rw [if_pos h0, if_pos h0]
    by_cases h : o + p + d ≤ N
    · rw [if_pos h, if_pos (by omega)]; simp only [Option.map_some, Nat.add_assoc]
    · rw [if_neg h, if_neg (by omega)]; rfl
  · rw [if_neg h0, if_neg h0]
    by_cases h1 : kind = 1
    · rw [if_pos h1, if_pos h1]
      by_cases h : o + posn p d n ≤ N
      · rw [if_pos h, if_pos (by omega)]; rfl
      · rw [if_neg h, if_neg (by omega)]; rfl
    · rw [if_neg h1, if_neg h1]
      by_cases h2 : 7 < kind ∨ n ≤ ord kind
      · rw [if_pos h2, if_pos h2]; rfl
      · rw [if_neg h2, if_neg h2]
        by_cases h : o + posn p d (ord kind) ≤ N
        · rw [if_pos h, if_pos (show posn p d (ord kind) ≤ N - o by omega)]
          by_cases h7 : kind = 7
          · rw [if_pos h7, if_pos h7]
            by_cases hh : o + posn p d (ord kind) + 12 ≤ N
            · rw [if_pos hh, if_pos (show posn p d (ord kind) + 12 ≤ N - o by omega), Nat.add_assoc o, Nat.add_assoc o, restsSt_sh ho]
              cases restsSt (shB b o) (N - o) d kind (sgn b (o + posn p d (ord kind)) 6) (sgn b (o + (posn p d (ord kind) + 6)) 6) n (posn p d (ord kind) + 12) (fun i => sgn b (o + posn p d i) d) <;> rfl
            · rw [if_neg hh, if_neg (show ¬ posn p d (ord kind) + 12 ≤ N - o by omega)]; rfl
          · rw [if_neg h7, if_neg h7, restsSt_sh ho]
            cases restsSt (shB b o) (N - o) d kind 0 0 n (posn p d (ord kind)) (fun i => sgn b (o + posn p d i) d) <;> rfl
        · rw [if_neg h, if_neg (show ¬ posn p d (ord kind) ≤ N - o by omega)]; rfl
/-- reading at a place of a longer text -/
def readAt (b : Nat → Bool) (N o width n : Nat) : Option ((Nat → Int) × Nat) :=
  if o + 8 ≤ N ∧ num b (o + 4) 4 < width then (bodySt b N (num b o 4) (width - num b (o + 4) 4) n (o + 8)).map fun xp => (fun i => xp.1 i * 2 ^ num b (o + 4) 4, xp.2) else none
theorem readAt_sh {b : Nat → Bool} {o N : Nat} (ho : o ≤ N) (width n : Nat) : readAt b N o width n = (readSt (shB b o) (N - o) width n).map fun r => (r.1, o + r.2) := by
  unfold readAt readSt
  rw [num_sh, num_sh, Nat.add_zero, bodySt_sh ho]
  by_cases h : o + 8 ≤ N ∧ num b (o + 4) 4 < width
  · rw [if_pos h, if_pos ⟨by omega, h.2⟩]
    cases bodySt (shB b o) (N - o) (num b o 4) (width - num b (o + 4) 4) n 8 <;> rfl
  · rw [if_neg h, if_neg (fun hh => h ⟨by omega, hh.2⟩)]; rfl
end Go.Proofs.YtlncjgnomhpjnaaGreatDoor

/-
  Bytes as a number: bytenum.Value and reelref.high.
-/
namespace Go.Proofs.YtlncjgnomhpjnaaGreatDoor
open Go.RowKit Go.Deep
set_option linter.unusedVariables false
/-- the number that bytes are, the highest first -/
def valN (l : List UInt8) : Nat := l.foldl (fun v c => 256 * v + c.toNat) 0
theorem valN_snoc (l : List UInt8) (c : UInt8) : valN (l ++ [c]) = 256 * valN l + c.toNat := by simp [valN, List.foldl_append]
theorem valN_lt (l : List UInt8) : ∀ k, k ≤ l.length → valN (l.take k) < 256 ^ k
  | 0, _ => by simp [valN]
  | k + 1, h => by
    have ih := valN_lt l k (by omega)
    rw [List.take_succ_eq_append_getElem (by omega), valN_snoc, Nat.pow_succ]
    have : l[k].toNat < 256 := UInt8.toNat_lt _
    omega
theorem or_i64 (v c : Nat) (hv : v < 16777216) (hc : c < 256) : bits .or .i64 ((v : Int) * 256) (c : Int) = ((256 * v + c : Nat) : Int) := by
  have h0 : ((v : Int) * 256) = ((v * 256 : Nat) : Int) := by omega
  have h1 : (BitVec.ofInt 64 ((v * 256 : Nat) : Int)).toNat = v * 256 := by
    rw [BitVec.ofInt_natCast, BitVec.toNat_ofNat]; exact Nat.mod_eq_of_lt (by omega)
  have h2 : (BitVec.ofInt 64 (c : Int)).toNat = c := by
    rw [BitVec.ofInt_natCast, BitVec.toNat_ofNat]; exact Nat.mod_eq_of_lt (by omega)
  have h3 : v * 256 ||| c = 256 * v + c := by
    have := Nat.two_pow_add_eq_or_of_lt (i := 8) (b := c) hc v
    rw [show (2 : Nat) ^ 8 = 256 from rfl] at this
    rw [Nat.mul_comm v 256]; exact this.symm
  rw [h0]
  show IntKind.i64.wrap ((BitVec.ofInt 64 ((v * 256 : Nat) : Int) ||| BitVec.ofInt 64 (c : Int)).toNat : Int) = _
  rw [BitVec.toNat_or, h1, h2, h3, IntKind.wrap_i64]
  omega
theorem byte_at (T : List UInt8) (k : Nat) (h : k < T.length) : T.take (k + 1) = T.take k ++ [T[k]] := List.take_succ_eq_append_getElem h
set_option maxHeartbeats 400000 in
theorem value_any (T : List UInt8) (w : World) (hT : T.length ≤ 4) :
    Calls Tryz.prog 115 #[.string (bs T)] w fun e w' => e = .returned (.int .i64 (valN T)) ∧ w' = w := by
  have hz : (bs T).size = T.length := bs_size T
  have HG : Hid (∀ k (h : k < (bs T).size), (bs T)[k] = T[k]'(by rw [hz] at h; exact h)) := fun k h => bs_get T k h
  generalize bs T = S at *
  go_enter Tryz.func115, Tryz.ntmps115
  go_wp2
  go_loop [3, 4, 7] (fun v _ i => ∃ k : Nat, k ≤ T.length ∧ i = .int .i64 k ∧ v = .int .i64 (valN (T.take k) : Nat)) (fun _ _ i => T.length - (intOf i).toNat)
  case atStart => exact ⟨0, Nat.zero_le _, rfl, rfl⟩
  case round =>
    obtain ⟨k, hk, rfl, rfl⟩ := hrel
    by_cases hlt : k < T.length
    · have hkS : k < S.size := by omega
      have hc : S[k].toNat < 256 := UInt8.toNat_lt _
      have HE : Hid (valN (T.take (k + 1)) = 256 * valN (T.take k) + S[k].toNat) := by show _ = _; rw [byte_at T k hlt, valN_snoc, HG.out k hkS]
      have hv : valN (T.take k) < 16777216 := by
        have h1 := valN_lt T k (by omega)
        have h2 : 256 ^ k ≤ 256 ^ 3 := Nat.pow_le_pow_right (by omega) (by omega)
        omega
      have hor := or_i64 (valN (T.take k)) S[k].toNat hv hc
      generalize valN (T.take k) = V at *
      go_wp2
      go_round
      case rel => exact ⟨k + 1, by omega, by go_num, by rw [HE.out]; go_num⟩
      case measure => simp [intOf]; omega
    · have e : k = T.length := by omega
      subst e
      rw [List.take_length]
      go_wp2
      go_ret
      exact ⟨rfl, rfl⟩
end Go.Proofs.YtlncjgnomhpjnaaGreatDoor

