import Derived.Test.YtlncjgnomhpjnaaGreatDoorKLayTop
import Derived.Test.YtlncjgnomhpjnaaGreatDoorKRefText
/-
  The program's packer: Code.
-/
namespace Go.Proofs.YtlncjgnomhpjnaaGreatDoor
open Go.RowKit Go.Deep
set_option linter.unusedVariables false

theorem short_bd (l : Nat → Int) (n width i : Nat) (h : -4096 ≤ l i ∧ l i ≤ 4096) : -4096 ≤ shortX l n width i ∧ shortX l n width i ≤ 4096 := by
  unfold shortX
  have hp := ip2_pos (shiftN l n width)
  constructor
  · rw [Int.le_ediv_iff_mul_le hp]
    have := Int.mul_le_mul_of_nonneg_left (show (1 : Int) ≤ 2 ^ shiftN l n width by omega) (show (0 : Int) ≤ 4096 by omega)
    omega
  · by_cases h0 : 0 ≤ l i
    · have := Int.ediv_le_self (2 ^ shiftN l n width) h0; omega
    · have := Int.ediv_neg_of_neg_of_pos (show l i < 0 by omega) hp; omega

/-- what the program's tables are -/
structure Tabs (w : World) : Prop where
  fixed : TabAt w 7
  fixedLt : 7 < w.heap.size
  tz : TzAt w 6
  tzLt : 6 < w.heap.size
theorem Tabs.below {w u : World} (h : Tabs w) (hb : Below w.heap.size w u) : Tabs u :=
  ⟨fun r c hr hc => (hb.cell (p := ⟨7, 4 * r + c, none⟩) h.fixedLt).trans (h.fixed r c hr hc), Nat.lt_of_lt_of_le h.fixedLt hb.size,
   fun t ht => (hb.cell (p := ⟨6, _, none⟩) h.tzLt).trans (h.tz t ht), Nat.lt_of_lt_of_le h.tzLt hb.size⟩

set_option maxRecDepth 100000 in
set_option maxHeartbeats 2000000 in
theorem subCode_any (A : Option Addr) (n c width : Nat) (l : Nat → Int) (w : World) (hn1 : 1 ≤ n) (hn : n ≤ 32) (hw1 : 1 ≤ width) (hw : width ≤ 13) (hl : ∀ j, j < n → fitsB width (l j) = true) (hI : IntsAt w A n l) (hlow : ∀ y, A = some y → 0 < n → y.block < w.heap.size) (hT : Tabs w) :
    Calls Tryz.prog 141 #[.int .i64 width, .slice A n c] w fun e w' => e = .returned (.string (bs (subT width l n))) ∧ Below w.heap.size w w' := by
  have hsl : shiftN l n width ≤ width - 1 := shiftT_le _ _ _
  have HCS := Hid.mk' (commonShift_any A n c width l w hn hw1 hw hl hI hT.tz)
  have HSH := Hid.mk' (fun m => shorten_any A n c (shiftN l n width) l (w.drewN m) hn (by omega) hI hlow)
  have HTX : Hid (bs (subT width l n) = ⟨(binT (bestK (width - shiftN l n width) (shortX l n width) n 6 : Nat) 4 ++ binT (shiftN l n width) 4 ++ bodyT (bestK (width - shiftN l n width) (shortX l n width) n 6) (width - shiftN l n width) (shortX l n width) n).toArray⟩) := by
    show _ = _
    unfold subT subKind bs
    rw [List.append_assoc]
  have hbd := fun j (hj : j < n) => short_bd l n width j (fits_bd (hl j hj) hw)
  have HXE : Hid ((fun i => l i / 2 ^ shiftN l n width) = shortX l n width) := rfl
  rw [HXE.out] at HSH
  generalize shortX l n width = x at *
  generalize shiftN l n width = s at *
  have HSHORT := Hid.mk' (fun (u : World) (G : Nat) (h : u.rowIs G 3 n (cutV n x)) => (⟨fun i hi => ⟨_, rfl, by
      have := h.cell (i := i) hi
      unfold cutV cutI at this
      rw [if_pos hi] at this
      rw [← this]; cases i <;> simp [Addr.add]⟩, fun y hy _ => by cases hy; exact h.lt, hbd⟩ : Shorts u (some ⟨G, 0, none⟩) n x))
  have HSB := Hid.mk' (fun (G : Nat) (u : World) (hu : Shorts u (some ⟨G, 0, none⟩) n x) (ht : Tabs u) => shortestBody_any (some ⟨G, 0, none⟩) n n (width - s) x u hn1 hn (Nat.le_refl _) (by omega) (by omega) hu ht.fixed ht.fixedLt)
  have HLY := Hid.mk' (fun (G : Nat) (u : World) (hu : Shorts u (some ⟨G, 0, none⟩) n x) => lay_any (bestK (width - s) x n 6) s (some ⟨G, 0, none⟩) n n (width - s) x u (bestK_le _ _ _ _) (by omega) hn1 hn (Nat.le_refl _) (by omega) (bestK_ok _ _ _ _) hu)
  have HTT := Hid.mk' hT
  have vW : IntKind.i64.wrap ((width : Int) - (s : Int)) = ((width - s : Nat) : Int) := by rw [IntKind.wrap_i64]; omega
  rw [HTX.out]
  generalize hws : width - s = ws at *
  clear hl hI hlow hT hbd HXE HTX hws
  simp only [bodyV_eq] at HSB
  go_enter Tryz.func141, Tryz.ntmps141
  go_wp2_with (first
    | (go_at_call 166; refine HCS.out.mono ?_; rintro e w1 ⟨rfl, m, hm⟩; subst w1; clear HCS)
    | (go_at_call 167; refine (HSH.out m).mono ?_; rintro e w2 ⟨rfl, hrow, hb2⟩; have HR2 := Hid.mk' hrow; have HW2 : Hid (Below w.heap.size w w2) := (⟨hb2.os, hb2.tape, hb2.output, hb2.size, hb2.block⟩ : Below w.heap.size w w2); clear hrow hb2 HSH)
    | (go_at_call 169; refine (HSB.out _ _ ?_ ?_).mono ?_; exact HSHORT.out _ _ HR2.out; exact HTT.out.below HW2.out; rintro e w3 ⟨rfl, hb3⟩; have HR3 := Hid.mk' (HR2.out.of_block (hb3.block _ HR2.out.lt)); have HW3 := Hid.mk' (HW2.out.trans (hb3.mono HW2.out.size)); clear hb3 HSB HR2 HW2)
    | (go_at_call 168; refine (HLY.out _ _ ?_).mono ?_; exact HSHORT.out _ _ HR3.out; rintro e w4 ⟨rfl, hb4⟩; have HW4 := Hid.mk' (HW3.out.trans (hb4.mono HW3.out.size)); clear hb4 HLY))
  go_ret
  exact ⟨rfl, HW4.out⟩

def allFit (d : Nat) (f : Nat → Int) (n : Nat) : Bool := (List.range n).all fun i => fitsB d (f i)
theorem allFit_iff (d : Nat) (f : Nat → Int) (n : Nat) : allFit d f n = true ↔ ∀ i, i < n → fitsB d (f i) = true := by simp [allFit]
set_option maxHeartbeats 1000000 in
theorem areS_any (d : Nat) (a : Option Addr) (n c : Nat) (f : Nat → Int) (w : World) (h1 : 1 ≤ d) (h2 : d ≤ 13) (hn : n ≤ 17592186044416) (hI : IntsAt w a n f) :
    Calls Tryz.prog 102 #[.int .i64 d, .slice a n c] w fun e w' => e = .returned (.bool (allFit d f n)) ∧ w' = w := by
  have HI : Hid (IntsAt w a n f) := hI
  clear hI
  go_enter Tryz.func102, Tryz.ntmps102
  go_wp2
  go_loop [6, 9] (fun _ i => ∃ k : Nat, k ≤ n ∧ i = .int .i64 k ∧ Hid (∀ i, i < k → fitsB d (f i) = true)) (fun _ i => n - (intOf i).toNat)
  case atStart => exact ⟨0, Nat.zero_le _, rfl, fun i hi => absurd hi (by omega)⟩
  case round =>
    obtain ⟨k, hk, rfl, HA⟩ := hrel
    by_cases hlt : k < n
    · obtain ⟨b, off, hx, hc⟩ := HI.out.open (by omega)
      cases hx
      have hc1 := hc k hlt
      clear hc
      cases hf : fitsB d (f k)
      · go_wp2_with (go_at_call 120; refine (isSample_any _ _ _ h1 h2).mono ?_; rintro e w' ⟨rfl, rfl⟩)
        go_ret
        refine ⟨ret_bool ?_, rfl⟩
        cases e : allFit d f n with
        | false => rfl
        | true => rw [(allFit_iff d f n).1 e k hlt] at hf; cases hf
      · go_wp2_with (go_at_call 120; refine (isSample_any _ _ _ h1 h2).mono ?_; rintro e w' ⟨rfl, rfl⟩)
        go_round
        case rel =>
          refine ⟨k + 1, by omega, by go_num, fun i hi => ?_⟩
          by_cases e : i = k
          · subst e; exact hf
          · exact HA.out i (by omega)
        case measure => simp [intOf]; omega
    · have e : k = n := by omega
      subst e
      go_wp2
      go_ret
      exact ⟨ret_bool ((allFit_iff d f k).2 HA.out).symm, rfl⟩

/-- Code's answer -/
def codeOk (width : Int) (l : Nat → Int) (n : Nat) : Bool := (within width 1 13 && within n 1 32) && allFit width.toNat l n
def codeS (width : Int) (l : Nat → Int) (n : Nat) : ByteArray := if codeOk width l n then bs (subT width.toNat l n) else ⟨#[]⟩
def codeE (width : Int) (l : Nat → Int) (n : Nat) : Int := if codeOk width l n then 0 else 3

end Go.Proofs.YtlncjgnomhpjnaaGreatDoor

/-
  The document's packer: the least parameter, the cuts.
-/
namespace Go.Proofs.YtlncjgnomhpjnaaGreatDoor
open Go.RowKit Go.Deep
set_option linter.unusedVariables false

set_option maxHeartbeats 2000000 in
theorem least_any (A : Option Addr) (n c lo : Nat) (R : Nat → Int) (w : World) (hn : n ≤ 32) (hR : ∀ i, i < n → -1000000 ≤ R (lo + i) ∧ R (lo + i) ≤ 1000000) (hI : IntsAt w A n (fun i => R (lo + i))) :
    Calls Tryz.prog 221 #[.slice A n c] w fun e w' => e = .returned (.int .i64 (parK (fun i => foldN (R i)) lo n)) ∧ ∃ m, w' = w.drewN m := by
  have HI := Hid.mk' hI
  have HR := Hid.mk' hR
  clear hI hR
  have HPK : Hid (parK (fun i => foldN (R i)) lo n = argmin (fun k => plen (fun i => foldN (R i)) k lo n) 14) := rfl
  obtain ⟨F, hF⟩ : ∃ F : Nat → Nat, F = fun i => foldN (R i) := ⟨_, rfl⟩
  have HFE : Hid (∀ i, foldN (R i) = F i) := fun i => by rw [hF]
  rw [← hF] at HPK ⊢
  have HFB : Hid (∀ i, i < n → F (lo + i) ≤ 2000000) := fun i hi => by rw [← HFE.out]; exact foldN_le _ 1000000 (HR.out i hi)
  clear hF
  have HB := Hid.mk' (fun (k : Nat) (hk : k ≤ 14) (j : Nat) (hj : j ≤ n) => Nat.le_trans (plen_le F k lo 2000000 hk j (fun i hi => HFB.out i (by omega))) (Nat.mul_le_mul_right _ (show j ≤ 32 by omega)))
  go_enter Tryz.func221, Tryz.ntmps221
  go_wp2
  go_loopw [3, 4, 5] (fun b s i wr => ∃ k : Nat, ∃ bv sv : Int, k ≤ 15 ∧ i = .int .i64 k ∧ b = .int .i64 bv ∧ s = .int .i64 sv ∧ Hid ((k = 0 → sv = -1 ∧ bv = 0) ∧ ∀ d, k = d + 1 → bv = (argmin (fun k => plen F k lo n) d : Nat) ∧ sv = (plen F (argmin (fun k => plen F k lo n) d) lo n : Nat)) ∧ ∃ m, wr = w.drewN m) (fun _ _ i _ => 15 - (intOf i).toNat)
  case atStart => exact ⟨0, 0, -1, by omega, rfl, rfl, rfl, ⟨fun _ => ⟨rfl, rfl⟩, fun d h => absurd h (by omega)⟩, 0, rfl⟩
  case round =>
    obtain ⟨k, bv, sv, hk, rfl, rfl, rfl, HS, m, rfl⟩ := hrel
    by_cases hk14 : k ≤ 14
    · have t0 : decide ((k : Int) ≤ 14) = true := decide_eq_true (by omega)
      go_wp2
      go_loopw [6, 7] (fun v i wr => ∃ j : Nat, j ≤ n ∧ i = .int .i64 j ∧ v = .int .i64 (plen F k lo j) ∧ ∃ m, wr = w.drewN m) (fun _ i _ => n - (intOf i).toNat)
      case atStart => exact ⟨0, by omega, rfl, rfl, _, rfl⟩
      case round =>
        obtain ⟨j, hj, rfl, rfl, m', rfl⟩ := hrel
        by_cases hlt : j < n
        · obtain ⟨bb, off, hx, hc⟩ := HI.out.open (by omega)
          cases hx
          have hcj := hc j hlt
          clear hc
          have HF := Hid.mk' (fun u => rfold_any (R (lo + j)) u (HR.out j hlt))
          rw [HFE.out] at HF
          have hfl := HFB.out j hlt
          have hpb := HB.out k hk14 j (by omega)
          have HE : Hid (plen F k lo (j + 1) = plen F k lo j + (F (lo + j) / 2 ^ k + 1 + k)) := rfl
          have hmn : min k 64 = k := by omega
          generalize F (lo + j) = f at *
          have hq : f / 2 ^ k ≤ f := Nat.div_le_self _ _
          have hqi : (f : Int) / 2 ^ k = ((f / 2 ^ k : Nat) : Int) := by simp
          generalize f / 2 ^ k = q at *
          go_wp2_with (go_at_call 232; refine (HF.out _).mono ?_; rintro e w1 ⟨rfl, hw⟩; subst w1; clear HF)
          go_roundw
          case rel => exact ⟨j + 1, by omega, by go_num, by rw [HE.out]; go_num, _, rfl⟩
          case measure => simp [intOf]; omega
        · have e : j = n := by omega
          subst e
          have hpb := HB.out k hk14 j (by omega)
          rcases Nat.eq_zero_or_pos k with hk0 | hk0
          · obtain ⟨rfl, rfl⟩ := HS.out.1 hk0
            have HN : Hid (∀ L : Nat, L = plen F k lo j → ((0 : Nat) = 0 ∧ L = plen F (argmin (fun k => plen F k lo j) 0) lo j)) := fun L h => ⟨rfl, by rw [h, hk0]; rfl⟩
            generalize hL : plen F k lo j = L at *
            have HL := Hid.mk' hL
            have HK0 := Hid.mk' hk0
            clear hL hk0 HS
            go_wp2
            exact ⟨⟨k + 1, (k : Int), (L : Int), by omega, by go_num, rfl, rfl, ⟨fun h => absurd h (by omega), fun d h => by
              have hd : d = 0 := by have := HK0.out; omega
              subst hd
              exact ⟨by rw [HK0.out]; rfl, by rw [← HL.out, HK0.out]; rfl⟩⟩, _, rfl⟩, by simp [intOf]; omega⟩
          · obtain ⟨d, rfl⟩ : ∃ d, k = d + 1 := ⟨k - 1, by omega⟩
            obtain ⟨rfl, rfl⟩ := HS.out.2 d rfl
            have hda := argmin_le (fun k => plen F k lo j) d
            have hpb2 := HB.out (argmin (fun k => plen F k lo j) d) (by omega) j (by omega)
            have HAE : Hid (argmin (fun k => plen F k lo j) (d + 1) = if plen F (d + 1) lo j < plen F (argmin (fun k => plen F k lo j) d) lo j then d + 1 else argmin (fun k => plen F k lo j) d) := rfl
            generalize argmin (fun k => plen F k lo j) d = a at *
            obtain ⟨L1, hL1⟩ : ∃ L, L = plen F (d + 1) lo j := ⟨_, rfl⟩
            obtain ⟨L2, hL2⟩ : ∃ L, L = plen F a lo j := ⟨_, rfl⟩
            have HL1 := Hid.mk' hL1
            have HL2 := Hid.mk' hL2
            rw [← hL1] at hpb HAE ⊢
            rw [← hL2] at hpb2 HAE ⊢
            clear hL1 hL2 HS hk0
            by_cases hd : L1 < L2
            · rw [if_pos hd] at HAE
              have t1 : decide ((L1 : Int) < (L2 : Int)) = true := decide_eq_true (by omega)
              have t2 : decide (L1 < L2) = true := decide_eq_true hd
              clear hd
              go_wp2
              exact ⟨⟨d + 1 + 1, ((d + 1 : Nat) : Int), (L1 : Int), by omega, by go_num, rfl, rfl, ⟨fun h => absurd h (by omega), fun d' h => by
                have hd : d' = d + 1 := by omega
                subst hd
                rw [HAE.out]
                exact ⟨rfl, by rw [HL1.out]⟩⟩, _, rfl⟩, by simp [intOf]; omega⟩
            · rw [if_neg hd] at HAE
              have t1 : decide ((L1 : Int) < (L2 : Int)) = false := decide_eq_false (by omega)
              have t2 : decide (L1 < L2) = false := decide_eq_false hd
              clear hd
              go_wp2
              exact ⟨⟨d + 1 + 1, (a : Int), (L2 : Int), by omega, by go_num, rfl, rfl, ⟨fun h => absurd h (by omega), fun d' h => by
                have hd : d' = d + 1 := by omega
                subst hd
                rw [HAE.out]
                exact ⟨rfl, by rw [HL2.out]⟩⟩, _, rfl⟩, by simp [intOf]; omega⟩
    · have e : k = 15 := by omega
      subst e
      obtain ⟨rfl, rfl⟩ := HS.out.2 14 rfl
      rw [← HPK.out]
      go_wp2
      go_ret
      exact ⟨rfl, _, rfl⟩
end Go.Proofs.YtlncjgnomhpjnaaGreatDoor
