import Derived.Test.YtlncjgnomhpjnaaGreatDoorEJFrameHead
import Derived.Test.YtlncjgnomhpjnaaGreatDoorEKFrameMode
import Derived.Test.YtlncjgnomhpjnaaGreatDoorEKFramePack
/-
  frame.Make, reel.Frame.
-/
namespace Go.Proofs.YtlncjgnomhpjnaaGreatDoor
open Go.RowKit Go.Deep
set_option linter.unusedVariables false

theorem packT_bd (d n : Nat) (F : Nat → Nat → Int) (N : Nat) (hn1 : 1 ≤ N) (hn : N ≤ 32) (hd : d ≤ 12) (h1 : 1 ≤ n) (h4 : n ≤ 4) : (packT (blockT d n F N)).length ≤ 212 := by
  rw [packT_length]
  have := blockT_bd d n F N hn1 hn hd h1 h4
  omega

set_option maxHeartbeats 2000000 in
theorem make_any (c2 c3 c4 c5 c6 c7 : Int) (d number : Nat) (a : Option Addr) (n cap : Nat) (A : Nat → Option Addr) (N : Nat) (C : Nat → Nat) (F : Nat → Nat → Int) (w : World) (hd1 : 1 ≤ d) (hd : d ≤ 12) (hn1 : 1 ≤ n) (hn4 : n ≤ 4) (hN1 : 1 ≤ N) (hN : N ≤ 32) (hnum : number < 65536)
    (hf : ∀ i, i < n → ∀ j, j < N → fitsB d (F i j) = true) (hA : ListsAt w a n A (fun _ => N) C) (hI : ∀ i, i < n → IntsAt w (A i) N (F i)) (hlow : Low w.heap.size a n A (fun _ => N)) (hT : TabsF w) :
    Calls Tryz.prog 38 #[.agg #[.int .i64 n, .int .i64 d, .int .i64 c2, .int .i64 c3, .int .i64 c4, .int .i64 c5, .int .i64 c6, .int .i64 c7], .int .i64 number, .slice a n cap] w fun e w' =>
      e = .returned (.string (bs (frameT number N (modeN d n F N) (blockT d n F N)))) ∧ Below w.heap.size w w' := by
  have hb0 : Below w.heap.size w (w.alloc (.cells #[.int .i64 n, .int .i64 d, .int .i64 c2, .int .i64 c3, .int .i64 c4, .int .i64 c5, .int .i64 c6, .int .i64 c7] 23)) := (Below.refl _ _).alloc (Nat.le_refl _) _
  have HSM := Hid.mk' (shortestMode_any d a n cap A N C F _ hd1 hd hn1 hn4 hN1 hN hf (hA.below hb0 hlow.1) (fun i hi => (hI i hi).below hb0 (hlow.2 i hi)) ⟨fun x hx h0 => Nat.lt_of_lt_of_le (hlow.1 x hx h0) hb0.size, fun i hi x hx h0 => Nat.lt_of_lt_of_le (hlow.2 i hi x hx h0) hb0.size⟩ (hT.below hb0))
  have HBY := Hid.mk' (fun u => bytes_any (blockT d n F N) u (blockT_bits d n F N) (by have := blockT_bd d n F N hN1 hN hd hn1 hn4; omega))
  have hpk := packT_bd d n F N hN1 hN hd hn1 hn4
  have hmd := modeN_lt d n F N
  have HHL := Hid.mk' (fun u => headLay_any number ((packT (blockT d n F N)).length + 10) N (modeN d n F N) u hnum (by omega) hN1 (by omega) (by omega))
  have HSE := Hid.mk' (fun u => seal16_any (seal8 (headT number ((packT (blockT d n F N)).length + 10) N (modeN d n F N)) ++ packT (blockT d n F N)) u (by rw [List.length_append, seal8_length, headT_length]; omega))
  have HAP : Hid (bs (seal8 (headT number ((packT (blockT d n F N)).length + 10) N (modeN d n F N)) ++ packT (blockT d n F N)) = bs (seal8 (headT number ((packT (blockT d n F N)).length + 10) N (modeN d n F N))) ++ bs (packT (blockT d n F N))) := (bs_append _ _).symm
  have HFR : Hid (seal16 (seal8 (headT number ((packT (blockT d n F N)).length + 10) N (modeN d n F N)) ++ packT (blockT d n F N)) = frameT number N (modeN d n F N) (blockT d n F N)) := rfl
  rw [HFR.out, HAP.out] at HSE
  have hz1 : (bs (packT (blockT d n F N))).size = (packT (blockT d n F N)).length := bs_size _
  have hz2 : (bs (seal8 (headT number ((packT (blockT d n F N)).length + 10) N (modeN d n F N)))).size = 8 := by rw [bs_size, seal8_length, headT_length]
  obtain ⟨b, off, rfl, hcell⟩ := hA.open (by omega)
  have hc0 := hcell 0 (by omega)
  have hbl : b < w.heap.size := hlow.1 _ rfl (by omega : 0 < n)
  simp only [Nat.add_zero] at hc0
  have HB0 := Hid.mk' hb0
  clear HFR HAP hf hA hI hlow hT hcell hb0
  generalize frameT number N (modeN d n F N) (blockT d n F N) = R at *
  generalize bs (seal8 (headT number ((packT (blockT d n F N)).length + 10) N (modeN d n F N))) = H at *
  generalize bs (packT (blockT d n F N)) = P at *
  generalize (packT (blockT d n F N)).length = pl at *
  generalize modeN d n F N = mode at *
  generalize bs (blockT d n F N) = T at *
  have e10 : ((pl + 10 : Nat) : Int) = 8 + (pl : Int) + 2 := by omega
  rw [e10] at HHL
  clear e10
  go_enter Tryz.func38, Tryz.ntmps38
  go_wp2_with (first
    | (go_at_call 64; refine HSM.out.mono ?_; rintro e u1 ⟨rfl, hb⟩; obtain ⟨hc1, hf1⟩ := bcell hb; have hs1 : w.heap.size < u1.heap.size := by {have := hb.size; simp at this; omega}; have HB1 := Hid.mk' (HB0.out.trans (hb.mono (by simp))); clear hb hf1 HSM HB0)
    | (go_at_call 65; refine (HBY.out _).mono ?_; rintro e u2 ⟨rfl, hb⟩; obtain ⟨hc2, hf2⟩ := bcell hb; have hs2 : w.heap.size < u2.heap.size := Nat.lt_of_lt_of_le hs1 hb.size; have HB2 := Hid.mk' (HB1.out.trans (hb.mono (Nat.le_of_lt hs1))); have hq2 : u2.cell? ⟨b, off, none⟩ = some (.slice (A 0) N (C 0)) := (HB2.out.cell (p := ⟨b, off, none⟩) hbl).trans hc0; clear hb hf2 HBY HB1)
    | (go_at_call 67; refine (HHL.out _).mono ?_; rintro e u3 ⟨rfl, hb⟩; have HB3 := Hid.mk' ((HB2.out.alloc HB2.out.size _).trans (hb.mono (by have := hs2; simp; omega))); have hs3 : w.heap.size < u3.heap.size := by {have := hb.size; simp at this; omega}; clear hb HHL HB2)
    | (go_at_call 66; refine (HSE.out _).mono ?_; rintro e u4 ⟨rfl, hb⟩; have HB4 := Hid.mk' (HB3.out.trans (hb.mono (Nat.le_of_lt hs3))); clear hb HSE HB3))
  go_ret
  exact ⟨rfl, HB4.out⟩
end Go.Proofs.YtlncjgnomhpjnaaGreatDoor

