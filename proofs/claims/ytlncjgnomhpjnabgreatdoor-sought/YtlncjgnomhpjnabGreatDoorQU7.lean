import Derived.Test.YtlncjgnomhpjnabGreatDoorQU6
import Derived.Test.YtlncjgnomhpjnabGreatDoorQU1
import Derived.Laws.Rows
import Derived.Laws.Tables
import Derived.Laws.AppendOwn
/-
  The program's packer: the search for the best cut.
-/
namespace Go.Proofs.YtlncjgnomhpjnabGreatDoor
open Go.RowKit Go.Deep
set_option linter.unusedVariables false
/-- a cut's parts, of which i are made, as the program holds them -/
def tvI (F : Nat → Nat) (o n c i j : Nat) : Int := if j = 0 then (c : Int) else if j = 9 then ((2 + partsL F o (n / 2 ^ c) i : Nat) : Int) else if j - 1 < i then (parN F o (n / 2 ^ c) (j - 1) : Int) else 0
def tv (F : Nat → Nat) (o n c i j : Nat) : Value := .int .i64 (tvI F o n c i j)
/-- the best cut's parts -/
def pvI (F : Nat → Nat) (o n c j : Nat) : Int := tvI F o n c (2 ^ c) j
def bestV (F : Nat → Nat) (o n c j : Nat) : Value := .int .i64 (if c = 0 then 0 else pvI F o n (bestC F o n (c - 1)) j)
theorem tv_zero (F : Nat → Nat) (o n c j : Nat) (hj : j < 10) : tv F o n c 0 j = .int .i64 (if j = 0 then (c : Int) else if j = 9 then 2 else 0) := by
  unfold tv tvI partsL
  split
  · rfl
  · split <;> simp
theorem tv_step {w : World} {g : Nat} {t : TypeId} {F : Nat → Nat} {o n c i : Nat} {z y : Int} (hi : i < 8) (hz : z = parN F o (n / 2 ^ c) i) (hy : y = ((2 + partsL F o (n / 2 ^ c) (i + 1) : Nat) : Int))
    (h : w.rowIs g t 10 (fun j => if j = 9 then .int .i64 y else if j = 1 + i then .int .i64 z else tv F o n c i j)) : w.rowIs g t 10 (tv F o n c (i + 1)) := by
  refine h.congr fun j hj => ?_
  unfold tv tvI
  by_cases e9 : j = 9
  · subst e9; simp [hy]
  · by_cases e0 : j = 0
    · subst e0; rw [if_neg e9, if_neg (by omega)]; rfl
    · by_cases e : j = 1 + i
      · subst e
        rw [if_neg e9, if_pos rfl, if_neg e0, if_neg e9, if_pos (by omega), hz, show 1 + i - 1 = i by omega]
      · simp only [e9, e0, e, if_false]
        by_cases h1 : j - 1 < i
        · rw [if_pos h1, if_pos (by omega)]
        · rw [if_neg h1, if_neg (by omega)]
/-- what the search holds -/
structure PInv (w wr : World) (G n c o : Nat) (F : Nat → Nat) : Prop where
  best : wr.rowIs (w.heap.size + 1) 336 10 (bestV F o n c)
  out : wr.rowIs w.heap.size 336 10 (fun _ => .int .i64 0)
  folds : wr.rowIs G 3 n (foldV o F n)
  below : Below w.heap.size w wr
theorem zero10 (F : Nat → Nat) (o n i : Nat) (hi : i < 10) : (#[.int .i64 0, .int .i64 0, .int .i64 0, .int .i64 0, .int .i64 0, .int .i64 0, .int .i64 0, .int .i64 0, .int .i64 0, .int .i64 0] : Array Value)[i]? = some (bestV F o n 0 i) := by
  match i, hi with
  | 0, _ => rfl
  | 1, _ => rfl
  | 2, _ => rfl
  | 3, _ => rfl
  | 4, _ => rfl
  | 5, _ => rfl
  | 6, _ => rfl
  | 7, _ => rfl
  | 8, _ => rfl
  | 9, _ => rfl
theorem PInv.drewN {w wr : World} {G n c o : Nat} {F : Nat → Nat} (h : PInv w wr G n c o F) (m : Nat) : PInv w (wr.drewN m) G n c o F :=
  ⟨h.best, h.out, h.folds, ⟨h.below.os, h.below.tape, h.below.output, h.below.size, h.below.block⟩⟩
theorem PInv.setT {w wr : World} {G n c o TR : Nat} {F : Nat → Nat} (h : PInv w wr G n c o F) (h1 : w.heap.size + 1 < TR) (hG : G < w.heap.size) (i : Nat) (v : Value) : PInv w (wr.setCell ⟨TR, i, none⟩ v) G n c o F :=
  ⟨h.best.setOther (by simp; omega) _, h.out.setOther (by simp; omega) _, h.folds.setOther (by simp; omega) _, h.below.setCell (by simp; omega) _⟩
theorem PInv.turn {w wr : World} {G n c d o : Nat} {F : Nat → Nat} (h : PInv w wr G n c o F) (e : ∀ j, bestV F o n d j = bestV F o n c j) : PInv w wr G n d o F :=
  ⟨h.best.congr fun j _ => (e j).symm, h.out, h.folds, h.below⟩
def set10 (w : World) (g : Nat) (v : Nat → Value) : World :=
  (((((((((w.setCell ⟨g, 0, none⟩ (v 0)).setCell ⟨g, 1, none⟩ (v 1)).setCell ⟨g, 2, none⟩ (v 2)).setCell ⟨g, 3, none⟩ (v 3)).setCell ⟨g, 4, none⟩ (v 4)).setCell ⟨g, 5, none⟩ (v 5)).setCell ⟨g, 6, none⟩ (v 6)).setCell ⟨g, 7, none⟩ (v 7)).setCell ⟨g, 8, none⟩ (v 8)).setCell ⟨g, 9, none⟩ (v 9)
theorem set10_row {w : World} {g : Nat} {t : TypeId} {f : Nat → Value} (h : w.rowIs g t 10 f) (v : Nat → Value) : (set10 w g v).rowIs g t 10 v := by
  refine ((((((((((h.set 0 _).set 1 _).set 2 _).set 3 _).set 4 _).set 5 _).set 6 _).set 7 _).set 8 _).set 9 _).congr fun i hi => ?_
  match i, hi with
  | 0, _ => rfl
  | 1, _ => rfl
  | 2, _ => rfl
  | 3, _ => rfl
  | 4, _ => rfl
  | 5, _ => rfl
  | 6, _ => rfl
  | 7, _ => rfl
  | 8, _ => rfl
  | 9, _ => rfl
theorem set10_other {w : World} {g b n : Nat} {t : TypeId} {f : Nat → Value} (h : w.rowIs b t n f) (hb : b ≠ g) (v : Nat → Value) : (set10 w g v).rowIs b t n f :=
  (((((((((h.setOther hb _).setOther hb _).setOther hb _).setOther hb _).setOther hb _).setOther hb _).setOther hb _).setOther hb _).setOther hb _).setOther hb _
theorem set10_below {w w' : World} {g B : Nat} (h : Below B w w') (hb : B ≤ g) (v : Nat → Value) : Below B w (set10 w' g v) :=
  (((((((((h.setCell hb _).setCell hb _).setCell hb _).setCell hb _).setCell hb _).setCell hb _).setCell hb _).setCell hb _).setCell hb _).setCell hb _
theorem bestV_keep {F : Nat → Nat} {o n c : Nat} (hc : 0 < c) (h : cutL F o n (bestC F o n (c - 1)) ≤ cutL F o n c) (j : Nat) : bestV F o n (c + 1) j = bestV F o n c j := by
  obtain ⟨d, rfl⟩ : ∃ d, c = d + 1 := ⟨c - 1, by omega⟩
  unfold bestV
  rw [if_neg (by omega), if_neg (by omega), show d + 1 + 1 - 1 = d + 1 by omega, show d + 1 - 1 = d by omega]
  rw [show bestC F o n (d + 1) = bestC F o n d from if_neg (fun hh => by have := hh.2; simp only [Nat.add_sub_cancel] at h; omega)]
theorem bestV_new {F : Nat → Nat} {o n c : Nat} (hok : okC n o c = true) (h : 0 < c → cutL F o n c < cutL F o n (bestC F o n (c - 1))) (j : Nat) : bestV F o n (c + 1) j = tv F o n c (2 ^ c) j := by
  have e : bestC F o n c = c := by
    cases c with
    | zero => rfl
    | succ d => exact if_pos ⟨hok, h (by omega)⟩
  unfold bestV tv
  rw [if_neg (by omega), Nat.add_sub_cancel, e]; rfl
theorem bestV_nine {F : Nat → Nat} {o n c : Nat} (hc : 0 < c) : bestV F o n c 9 = .int .i64 ((cutL F o n (bestC F o n (c - 1)) : Nat) : Int) := by
  unfold bestV
  rw [if_neg (by omega)]; rfl
theorem partsL_le (F : Nat → Nat) (o sz P n : Nat) (hn : n ≤ 32) (hP : sz * P = n) (ho : o < sz) (hF : ∀ i, o ≤ i → i < n → F i ≤ 2000000) : ∀ i, i ≤ P → partsL F o sz i ≤ i * 64000484
  | 0, _ => by simp [partsL]
  | i + 1, h => by
    have ih := partsL_le F o sz P n hn hP ho hF i (by omega)
    have h1 : (i + 1) * sz ≤ P * sz := Nat.mul_le_mul_right _ h
    rw [Nat.mul_comm P, hP] at h1
    have hlo : o ≤ ploN o sz i := by unfold ploN; omega
    have h2 := plen_le F (parN F o sz i) (ploN o sz i) 2000000 (parK_le _ _ _) (pcnt o sz i) (fun j hj => hF _ (by omega) (by unfold pcnt at hj; omega))
    have h3 : pcnt o sz i * (2000000 + 15) ≤ 32 * (2000000 + 15) := Nat.mul_le_mul_right _ (by unfold pcnt; omega)
    simp only [partsL]
    rw [Nat.succ_mul]; omega
set_option maxRecDepth 100000 in
set_option maxHeartbeats 4000000 in
theorem shortestParts_any (o G n : Nat) (F : Nat → Nat) (w : World) (hn : n ≤ 32) (ho : o ≤ 4) (hon : o < n) (hF : ∀ i, o ≤ i → i < n → F i ≤ 2000000) (hrow : w.rowIs G 3 n (foldV o F n)) :
    Calls Tryz.prog 323 #[.int .i64 o, .slice (some ⟨G, 0, none⟩) n n] w fun e w' =>
      e = .returned (.agg #[.int .i64 (pvI F o n (bestC F o n 3) 0), .int .i64 (pvI F o n (bestC F o n 3) 1), .int .i64 (pvI F o n (bestC F o n 3) 2), .int .i64 (pvI F o n (bestC F o n 3) 3), .int .i64 (pvI F o n (bestC F o n 3) 4),
        .int .i64 (pvI F o n (bestC F o n 3) 5), .int .i64 (pvI F o n (bestC F o n 3) 6), .int .i64 (pvI F o n (bestC F o n 3) 7), .int .i64 (pvI F o n (bestC F o n 3) 8), .int .i64 (pvI F o n (bestC F o n 3) 9)]) ∧ Below w.heap.size w w' := by
  have hG := hrow.lt
  have HF := Hid.mk' hF
  have HROW := Hid.mk' hrow
  have HPS := Hid.mk' (fun c (hc : c ≤ 3) u => partSize_any n o c u hn ho hc)
  clear hF hrow
  go_enter Tryz.func323, Tryz.ntmps323
  go_wp2_with fail
  refine wp_scope_straight ?_
  go_wp2
  refine wp_label ?_
  go_wp2
  go_loopw [6, 7] (fun fv cv wr => ∃ c : Nat, ∃ fb : Bool, c ≤ 4 ∧ cv = .int .i64 c ∧ fv = .bool fb ∧ Hid (fb = decide (0 < c) ∧ (c = 4 → True) ∧ PInv w wr G n c o F)) (fun _ cv _ => 4 - (intOf cv).toNat)
  case atStart =>
    refine ⟨0, false, by omega, rfl, rfl, rfl, fun _ => trivial, ?_, ?_, ?_, ?_⟩
    · have := World.rowIs_alloc (w.alloc (Obj.cells #[.int .i64 0, .int .i64 0, .int .i64 0, .int .i64 0, .int .i64 0, .int .i64 0, .int .i64 0, .int .i64 0, .int .i64 0, .int .i64 0] 336)) #[.int .i64 0, .int .i64 0, .int .i64 0, .int .i64 0, .int .i64 0, .int .i64 0, .int .i64 0, .int .i64 0, .int .i64 0, .int .i64 0] 336 (bestV F o n 0) (zero10 F o n)
      rw [World.size_alloc] at this
      exact this
    · exact (World.rowIs_alloc w #[.int .i64 0, .int .i64 0, .int .i64 0, .int .i64 0, .int .i64 0, .int .i64 0, .int .i64 0, .int .i64 0, .int .i64 0, .int .i64 0] 336 (fun _ => .int .i64 0) (zero10 F o n)).alloc _
    · exact (HROW.out.alloc _).alloc _
    · exact ((Below.refl _ _).alloc (Nat.le_refl _) _).alloc (by simp) _
  case round =>
    obtain ⟨c, fb, hc4, rfl, rfl, HI⟩ := hrel
    have hR1 := HI.out.2.2.best.lt
    by_cases hc : c ≤ 3
    · have HPC := Hid.mk' (HPS.out c hc)
      by_cases hok : okC n o c = true
      · have hok' : cutB n o c = true := hok
        rw [hok'] at HPC
        have hP1 : 1 ≤ 2 ^ c := Nat.two_pow_pos c
        have hP8 : 2 ^ c ≤ 8 := Nat.le_trans (Nat.pow_le_pow_right (by omega) hc) (by decide)
        have hcf := cut_facts hok'
        have HTV : Hid (∀ i, tv F o n c i = fun j => .int .i64 (tvI F o n c i j)) := fun i => rfl
        have HCL : Hid (cutL F o n c = 2 + partsL F o (n / 2 ^ c) (2 ^ c)) := rfl
        have hsh : (1 : Int) * 2 ^ c = ((2 ^ c : Nat) : Int) := by simp
        have hm : min c 64 = c := by omega
        obtain ⟨P, hP⟩ : ∃ P, P = 2 ^ c := ⟨_, rfl⟩
        obtain ⟨sz, hsz⟩ : ∃ sz, sz = n / 2 ^ c := ⟨_, rfl⟩
        rw [← hsz] at HPC hcf HCL
        rw [← hP] at hP1 hP8 hcf HCL
        have hpw : IntKind.i64.wrap ((2 : Int) ^ c) = (P : Int) := by rw [show ((2 : Int) ^ c) = (P : Int) by rw [hP]; simp, IntKind.wrap_i64]; omega
        have HSZ := Hid.mk' hsz
        have HP := Hid.mk' hP
        have hszP := hcf.1
        have hosz := hcf.2
        have hokk := Hid.mk' hok
        clear hsz hP hok hok' hcf hsh hP1
        go_wp2_with (go_at_call 339; refine (HPC.out _).mono ?_; rintro e w1 ⟨rfl, hw⟩; subst w1; clear HPC)
        have HTR : Hid ((wr.alloc (Obj.cells #[.int .i64 c, .int .i64 0, .int .i64 0, .int .i64 0, .int .i64 0, .int .i64 0, .int .i64 0, .int .i64 0, .int .i64 0, .int .i64 2] 336)).rowIs wr.heap.size 336 10 (tv F o n c 0)) :=
          World.rowIs_alloc wr #[.int .i64 c, .int .i64 0, .int .i64 0, .int .i64 0, .int .i64 0, .int .i64 0, .int .i64 0, .int .i64 0, .int .i64 0, .int .i64 2] 336 (tv F o n c 0) (fun i hi => by
            rw [tv_zero F o n c i hi]
            match i, hi with
            | 0, _ => rfl
            | 1, _ => rfl
            | 2, _ => rfl
            | 3, _ => rfl
            | 4, _ => rfl
            | 5, _ => rfl
            | 6, _ => rfl
            | 7, _ => rfl
            | 8, _ => rfl
            | 9, _ => rfl)
        obtain ⟨TR, hTR⟩ : ∃ TR, TR = wr.heap.size := ⟨_, rfl⟩
        have hTRR : w.heap.size + 1 < TR := by rw [hTR]; exact hR1
        have HINV : Hid (PInv w (wr.alloc (Obj.cells #[.int .i64 c, .int .i64 0, .int .i64 0, .int .i64 0, .int .i64 0, .int .i64 0, .int .i64 0, .int .i64 0, .int .i64 0, .int .i64 2] 336)) G n c o F) := ⟨HI.out.2.2.best.alloc _, HI.out.2.2.out.alloc _, HI.out.2.2.folds.alloc _, HI.out.2.2.below.alloc HI.out.2.2.below.size _⟩
        have HFB := Hid.mk' HI.out.1
        rw [← hTR] at HTR
        rw [← hTR]
        clear hTR hR1 HI
        have tn1 : ¬ TR = w.heap.size + 1 := by omega
        have tn2 : ¬ w.heap.size + 1 = TR := by omega
        go_loopw [34] (fun iv wi => ∃ i : Nat, i ≤ P ∧ iv = .int .i64 i ∧ Hid (PInv w wi G n c o F ∧ wi.rowIs TR 336 10 (tv F o n c i) ∧ (0 < c → 0 < i → 2 + partsL F o sz i < cutL F o n (bestC F o n (c - 1))))) (fun iv _ => P - (intOf iv).toNat)
        case atStart => exact ⟨0, Nat.zero_le _, rfl, HINV.out, HTR.out, fun _ h => absurd h (by omega)⟩
        case round =>
          clear HTR HINV
          obtain ⟨i, hiP, rfl, HJ⟩ := hrel
          by_cases hlt : i < P
          · have hi1 : (i + 1) * sz ≤ n := by
              have h1 : (i + 1) * sz ≤ P * sz := Nat.mul_le_mul_right _ hlt
              rw [Nat.mul_comm P, hszP] at h1; exact h1
            obtain ⟨fr, hfr⟩ : ∃ fr, fr = i * sz := ⟨_, rfl⟩
            obtain ⟨lo, hlo⟩ : ∃ lo, lo = ploN o sz i := ⟨_, rfl⟩
            obtain ⟨ct, hct⟩ : ∃ ct, ct = pcnt o sz i := ⟨_, rfl⟩
            have hfr1 : fr + sz ≤ n := by rw [Nat.succ_mul, ← hfr] at hi1; exact hi1
            have hloM : lo = max fr o := by rw [hlo, hfr]; rfl
            have hctE : ct = fr + sz - lo := by rw [hct, hfr, hlo]; unfold pcnt; rw [Nat.succ_mul]
            have hol : o ≤ lo := by omega
            have hfo : fr = 0 ∨ o < fr := by
              rcases Nat.eq_zero_or_pos i with h | h
              · left; rw [hfr, h]; simp
              · right
                have : 1 * sz ≤ i * sz := Nat.mul_le_mul_right _ h
                omega
            have hlh : lo ≤ fr + sz := by omega
            have v1 : IntKind.i64.wrap ((i : Int) * (sz : Int)) = (fr : Int) := by
              rw [show (i : Int) * (sz : Int) = ((i * sz : Nat) : Int) by simp, ← hfr, IntKind.wrap_i64]; omega
            have v2 : max (fr : Int) (o : Int) = (lo : Int) := by omega
            have HSP := Hid.mk' (fun (u : World) (hu : u.rowIs G 3 n (foldV o F n)) => shortestParameter_any (some ⟨G, lo, none⟩) ct (n - lo) lo F u (by omega) (fun k hk => HF.out _ (by omega) (by omega)) (fun k hk => ⟨_, rfl, by
              have := hu.cell (i := lo + k) (by omega)
              unfold foldV at this
              rw [if_pos ⟨by omega, by omega⟩] at this
              rw [← this]; cases k <;> simp [Addr.add]⟩))
            have HPN : Hid (parN F o sz i = parK F lo ct) := by rw [hlo, hct]; rfl
            have HPL : Hid (partsL F o sz (i + 1) = partsL F o sz i + (4 + plen F (parK F lo ct) lo ct)) := by rw [hlo, hct]; rfl
            have hb1 := partsL_le F o sz P n hn hszP hosz HF.out i (by omega)
            have hb2 := partsL_le F o sz P n hn hszP hosz HF.out (i + 1) (by omega)
            rw [HPL.out] at hb2
            have hctn : fr + sz - lo = ct := hctE.symm
            have x9 := HJ.out.2.1.cell (i := 9) (by omega)
            have xi := HJ.out.2.1.cell (i := 1 + i) (by omega)
            have f9 := HJ.out.2.1.frozen 9
            have fi := HJ.out.2.1.frozen (1 + i)
            rw [show tv F o n c i 9 = .int .i64 ((2 + partsL F o sz i : Nat) : Int) by rw [HSZ.out]; rfl] at x9
            unfold tv at xi
            have y9 := HJ.out.1.best.cell (i := 9) (by omega)
            generalize hpk : parK F lo ct = K at *
            generalize hpl : plen F K lo ct = L at *
            generalize hPi : partsL F o sz i = Pi at *
            have v3 : IntKind.i64.wrap ((fr : Int) + (sz : Int)) = (fr : Int) + (sz : Int) := by rw [IntKind.wrap_i64]; omega
            have HCT := Hid.mk' hctE
            clear hfr hlo hct hloM hctE hfo hszP hpk hpl hPi hi1
            cases fb with
            | false =>
              go_wp2_with (go_at_call 340; refine (HSP.out _ ?_).mono ?_; exact HJ.out.1.folds; rintro e w1 ⟨rfl, q, hw⟩; subst w1; clear HSP)
              go_roundw
              case rel => exact ⟨i + 1, by omega, by go_num, ((HJ.out.1.drewN q).setT hTRR hG _ _).setT hTRR hG _ _, tv_step (by omega) (by rw [← HSZ.out, HPN.out]) (by rw [← HSZ.out, HPL.out]; simp; omega) (((show (wr.drewN q).rowIs TR 336 10 (tv F o n c i) from HJ.out.2.1).set (1 + i) _).set 9 _), fun h => absurd HFB.out (by simp [h])⟩
              case measure => simp [intOf]; omega
            | true =>
              have hc0 : 0 < c := by have := HFB.out; simpa using this.symm
              rw [bestV_nine hc0] at y9
              generalize hCB : cutL F o n (bestC F o n (c - 1)) = CB at *
              have HCB := Hid.mk' hCB
              clear hCB
              by_cases hge : CB ≤ 2 + Pi + (4 + L)
              · have t1 : decide ((CB : Int) ≤ 2 + (Pi : Int) + (4 + (L : Int))) = true := decide_eq_true (by omega)
                have HK : Hid (∀ j, bestV F o n (c + 1) j = bestV F o n c j) := fun j => bestV_keep hc0 (by
                  rw [HCB.out, HCL.out]
                  have h1 := partsL_mono F o sz (i := i + 1) (j := P) hlt
                  rw [HPL.out] at h1
                  omega) j
                clear hge
                go_wp2_with (go_at_call 340; refine (HSP.out _ ?_).mono ?_; exact HJ.out.1.folds; rintro e w1 ⟨rfl, q, hw⟩; subst w1; clear HSP)
                exact ⟨⟨c + 1, true, by omega, by go_num, rfl, by simp, fun _ => trivial, (((HJ.out.1.drewN q).setT hTRR hG _ _).setT hTRR hG _ _).turn HK.out⟩, by simp [intOf]; omega⟩
              · have t1 : decide ((CB : Int) ≤ 2 + (Pi : Int) + (4 + (L : Int))) = false := decide_eq_false (by omega)
                have HLT := Hid.mk' hge
                clear hge
                go_wp2_with (go_at_call 340; refine (HSP.out _ ?_).mono ?_; exact HJ.out.1.folds; rintro e w1 ⟨rfl, q, hw⟩; subst w1; clear HSP)
                go_roundw
                case rel => exact ⟨i + 1, by omega, by go_num, ((HJ.out.1.drewN q).setT hTRR hG _ _).setT hTRR hG _ _, tv_step (by omega) (by rw [← HSZ.out, HPN.out]) (by rw [← HSZ.out, HPL.out]; simp; omega) (((show (wr.drewN q).rowIs TR 336 10 (tv F o n c i) from HJ.out.2.1).set (1 + i) _).set 9 _), fun _ _ => by rw [HPL.out]; have := HLT.out; omega⟩
                case measure => simp [intOf]; omega
          · have e : i = P := by omega
            subst e
            have HOK := Hid.mk' hokk.out
            have x0 := HJ.out.2.1.cell (i := 0) (by omega)
            have x1 := HJ.out.2.1.cell (i := 1) (by omega)
            have x2 := HJ.out.2.1.cell (i := 2) (by omega)
            have x3 := HJ.out.2.1.cell (i := 3) (by omega)
            have x4 := HJ.out.2.1.cell (i := 4) (by omega)
            have x5 := HJ.out.2.1.cell (i := 5) (by omega)
            have x6 := HJ.out.2.1.cell (i := 6) (by omega)
            have x7 := HJ.out.2.1.cell (i := 7) (by omega)
            have x8 := HJ.out.2.1.cell (i := 8) (by omega)
            have x9 := HJ.out.2.1.cell (i := 9) (by omega)
            unfold tv at x0 x1 x2 x3 x4 x5 x6 x7 x8 x9
            obtain ⟨oy0, y0⟩ : ∃ v, wr.cell? ⟨w.heap.size + 1, 0, none⟩ = some v := ⟨_, HJ.out.1.best.cell (i := 0) (by omega)⟩
            obtain ⟨oy1, y1⟩ : ∃ v, wr.cell? ⟨w.heap.size + 1, 1, none⟩ = some v := ⟨_, HJ.out.1.best.cell (i := 1) (by omega)⟩
            obtain ⟨oy2, y2⟩ : ∃ v, wr.cell? ⟨w.heap.size + 1, 2, none⟩ = some v := ⟨_, HJ.out.1.best.cell (i := 2) (by omega)⟩
            obtain ⟨oy3, y3⟩ : ∃ v, wr.cell? ⟨w.heap.size + 1, 3, none⟩ = some v := ⟨_, HJ.out.1.best.cell (i := 3) (by omega)⟩
            obtain ⟨oy4, y4⟩ : ∃ v, wr.cell? ⟨w.heap.size + 1, 4, none⟩ = some v := ⟨_, HJ.out.1.best.cell (i := 4) (by omega)⟩
            obtain ⟨oy5, y5⟩ : ∃ v, wr.cell? ⟨w.heap.size + 1, 5, none⟩ = some v := ⟨_, HJ.out.1.best.cell (i := 5) (by omega)⟩
            obtain ⟨oy6, y6⟩ : ∃ v, wr.cell? ⟨w.heap.size + 1, 6, none⟩ = some v := ⟨_, HJ.out.1.best.cell (i := 6) (by omega)⟩
            obtain ⟨oy7, y7⟩ : ∃ v, wr.cell? ⟨w.heap.size + 1, 7, none⟩ = some v := ⟨_, HJ.out.1.best.cell (i := 7) (by omega)⟩
            obtain ⟨oy8, y8⟩ : ∃ v, wr.cell? ⟨w.heap.size + 1, 8, none⟩ = some v := ⟨_, HJ.out.1.best.cell (i := 8) (by omega)⟩
            obtain ⟨oy9, y9⟩ : ∃ v, wr.cell? ⟨w.heap.size + 1, 9, none⟩ = some v := ⟨_, HJ.out.1.best.cell (i := 9) (by omega)⟩
            have yf0 := HJ.out.1.best.frozen 0
            have yf1 := HJ.out.1.best.frozen 1
            have yf2 := HJ.out.1.best.frozen 2
            have yf3 := HJ.out.1.best.frozen 3
            have yf4 := HJ.out.1.best.frozen 4
            have yf5 := HJ.out.1.best.frozen 5
            have yf6 := HJ.out.1.best.frozen 6
            have yf7 := HJ.out.1.best.frozen 7
            have yf8 := HJ.out.1.best.frozen 8
            have yf9 := HJ.out.1.best.frozen 9
            have HN : Hid (∀ j, bestV F o n (c + 1) j = tv F o n c i j) := fun j => by
              rw [HP.out]
              refine bestV_new HOK.out (fun h => ?_) j
              rw [HCL.out]
              exact HJ.out.2.2 h (by rw [HP.out]; exact Nat.two_pow_pos c)
            go_wp2
            refine ⟨⟨c + 1, true, by omega, by go_num, rfl, by simp, fun _ => trivial, ?_⟩, by simp [intOf]; omega⟩
            exact ⟨(set10_row HJ.out.1.best (tv F o n c i)).congr fun j _ => (HN.out j).symm, set10_other HJ.out.1.out (by omega) (tv F o n c i), set10_other HJ.out.1.folds (by omega) (tv F o n c i), set10_below HJ.out.1.below (by omega) (tv F o n c i)⟩
      · have hc1 : 0 < c := by
          rcases Nat.eq_zero_or_pos c with h | h
          · subst h; exact absurd (okC_zero hon) hok
          · exact h
        have hokf : cutB n o c = false := by have h : okC n o c = false := by simpa using hok
                                             exact h
        rw [hokf] at HPC
        have HBE : Hid (∀ j, bestV F o n c j = .int .i64 (pvI F o n (bestC F o n 3) j)) := fun j => by
          unfold bestV
          rw [if_neg (by omega), bestC_stop F o n (c := c - 1) (d := 3) (by rw [Nat.sub_add_cancel hc1]; exact hokf) (by omega)]
        have z0 := HI.out.2.2.best.cell (i := 0) (by omega)
        have z1 := HI.out.2.2.best.cell (i := 1) (by omega)
        have z2 := HI.out.2.2.best.cell (i := 2) (by omega)
        have z3 := HI.out.2.2.best.cell (i := 3) (by omega)
        have z4 := HI.out.2.2.best.cell (i := 4) (by omega)
        have z5 := HI.out.2.2.best.cell (i := 5) (by omega)
        have z6 := HI.out.2.2.best.cell (i := 6) (by omega)
        have z7 := HI.out.2.2.best.cell (i := 7) (by omega)
        have z8 := HI.out.2.2.best.cell (i := 8) (by omega)
        have z9 := HI.out.2.2.best.cell (i := 9) (by omega)
        have zf0 := HI.out.2.2.out.frozen 0
        have zf1 := HI.out.2.2.out.frozen 1
        have zf2 := HI.out.2.2.out.frozen 2
        have zf3 := HI.out.2.2.out.frozen 3
        have zf4 := HI.out.2.2.out.frozen 4
        have zf5 := HI.out.2.2.out.frozen 5
        have zf6 := HI.out.2.2.out.frozen 6
        have zf7 := HI.out.2.2.out.frozen 7
        have zf8 := HI.out.2.2.out.frozen 8
        have zf9 := HI.out.2.2.out.frozen 9
        obtain ⟨ou0, u0⟩ : ∃ v, wr.cell? ⟨w.heap.size, 0, none⟩ = some v := ⟨_, HI.out.2.2.out.cell (i := 0) (by omega)⟩
        obtain ⟨ou1, u1⟩ : ∃ v, wr.cell? ⟨w.heap.size, 1, none⟩ = some v := ⟨_, HI.out.2.2.out.cell (i := 1) (by omega)⟩
        obtain ⟨ou2, u2⟩ : ∃ v, wr.cell? ⟨w.heap.size, 2, none⟩ = some v := ⟨_, HI.out.2.2.out.cell (i := 2) (by omega)⟩
        obtain ⟨ou3, u3⟩ : ∃ v, wr.cell? ⟨w.heap.size, 3, none⟩ = some v := ⟨_, HI.out.2.2.out.cell (i := 3) (by omega)⟩
        obtain ⟨ou4, u4⟩ : ∃ v, wr.cell? ⟨w.heap.size, 4, none⟩ = some v := ⟨_, HI.out.2.2.out.cell (i := 4) (by omega)⟩
        obtain ⟨ou5, u5⟩ : ∃ v, wr.cell? ⟨w.heap.size, 5, none⟩ = some v := ⟨_, HI.out.2.2.out.cell (i := 5) (by omega)⟩
        obtain ⟨ou6, u6⟩ : ∃ v, wr.cell? ⟨w.heap.size, 6, none⟩ = some v := ⟨_, HI.out.2.2.out.cell (i := 6) (by omega)⟩
        obtain ⟨ou7, u7⟩ : ∃ v, wr.cell? ⟨w.heap.size, 7, none⟩ = some v := ⟨_, HI.out.2.2.out.cell (i := 7) (by omega)⟩
        obtain ⟨ou8, u8⟩ : ∃ v, wr.cell? ⟨w.heap.size, 8, none⟩ = some v := ⟨_, HI.out.2.2.out.cell (i := 8) (by omega)⟩
        obtain ⟨ou9, u9⟩ : ∃ v, wr.cell? ⟨w.heap.size, 9, none⟩ = some v := ⟨_, HI.out.2.2.out.cell (i := 9) (by omega)⟩
        rw [HBE.out] at z0 z1 z2 z3 z4 z5 z6 z7 z8 z9
        go_wp2_with (go_at_call 339; refine (HPC.out _).mono ?_; rintro e w1 ⟨rfl, hw⟩; subst w1; clear HPC)
        try simp only [Exit.noGoto]
        refine bodyPost_ret (v := .agg #[.int .i64 (pvI F o n (bestC F o n 3) 0), .int .i64 (pvI F o n (bestC F o n 3) 1), .int .i64 (pvI F o n (bestC F o n 3) 2), .int .i64 (pvI F o n (bestC F o n 3) 3), .int .i64 (pvI F o n (bestC F o n 3) 4), .int .i64 (pvI F o n (bestC F o n 3) 5), .int .i64 (pvI F o n (bestC F o n 3) 6), .int .i64 (pvI F o n (bestC F o n 3) 7), .int .i64 (pvI F o n (bestC F o n 3) 8), .int .i64 (pvI F o n (bestC F o n 3) 9)]) (by simp [results, Tryz.results323, go_sem, u0, u1, u2, u3, u4, u5, u6, u7, u8, u9]) rfl ⟨rfl, set10_below HI.out.2.2.below (Nat.le_refl _) (fun j => .int .i64 (pvI F o n (bestC F o n 3) j))⟩
    · have e : c = 4 := by omega
      subst e
      have HBE : Hid (∀ j, bestV F o n 4 j = .int .i64 (pvI F o n (bestC F o n 3) j)) := fun j => rfl
      have z0 := HI.out.2.2.best.cell (i := 0) (by omega)
      have z1 := HI.out.2.2.best.cell (i := 1) (by omega)
      have z2 := HI.out.2.2.best.cell (i := 2) (by omega)
      have z3 := HI.out.2.2.best.cell (i := 3) (by omega)
      have z4 := HI.out.2.2.best.cell (i := 4) (by omega)
      have z5 := HI.out.2.2.best.cell (i := 5) (by omega)
      have z6 := HI.out.2.2.best.cell (i := 6) (by omega)
      have z7 := HI.out.2.2.best.cell (i := 7) (by omega)
      have z8 := HI.out.2.2.best.cell (i := 8) (by omega)
      have z9 := HI.out.2.2.best.cell (i := 9) (by omega)
      have zf0 := HI.out.2.2.out.frozen 0
      have zf1 := HI.out.2.2.out.frozen 1
      have zf2 := HI.out.2.2.out.frozen 2
      have zf3 := HI.out.2.2.out.frozen 3
      have zf4 := HI.out.2.2.out.frozen 4
      have zf5 := HI.out.2.2.out.frozen 5
      have zf6 := HI.out.2.2.out.frozen 6
      have zf7 := HI.out.2.2.out.frozen 7
      have zf8 := HI.out.2.2.out.frozen 8
      have zf9 := HI.out.2.2.out.frozen 9
      obtain ⟨ou0, u0⟩ : ∃ v, wr.cell? ⟨w.heap.size, 0, none⟩ = some v := ⟨_, HI.out.2.2.out.cell (i := 0) (by omega)⟩
      obtain ⟨ou1, u1⟩ : ∃ v, wr.cell? ⟨w.heap.size, 1, none⟩ = some v := ⟨_, HI.out.2.2.out.cell (i := 1) (by omega)⟩
      obtain ⟨ou2, u2⟩ : ∃ v, wr.cell? ⟨w.heap.size, 2, none⟩ = some v := ⟨_, HI.out.2.2.out.cell (i := 2) (by omega)⟩
      obtain ⟨ou3, u3⟩ : ∃ v, wr.cell? ⟨w.heap.size, 3, none⟩ = some v := ⟨_, HI.out.2.2.out.cell (i := 3) (by omega)⟩
      obtain ⟨ou4, u4⟩ : ∃ v, wr.cell? ⟨w.heap.size, 4, none⟩ = some v := ⟨_, HI.out.2.2.out.cell (i := 4) (by omega)⟩
      obtain ⟨ou5, u5⟩ : ∃ v, wr.cell? ⟨w.heap.size, 5, none⟩ = some v := ⟨_, HI.out.2.2.out.cell (i := 5) (by omega)⟩
      obtain ⟨ou6, u6⟩ : ∃ v, wr.cell? ⟨w.heap.size, 6, none⟩ = some v := ⟨_, HI.out.2.2.out.cell (i := 6) (by omega)⟩
      obtain ⟨ou7, u7⟩ : ∃ v, wr.cell? ⟨w.heap.size, 7, none⟩ = some v := ⟨_, HI.out.2.2.out.cell (i := 7) (by omega)⟩
      obtain ⟨ou8, u8⟩ : ∃ v, wr.cell? ⟨w.heap.size, 8, none⟩ = some v := ⟨_, HI.out.2.2.out.cell (i := 8) (by omega)⟩
      obtain ⟨ou9, u9⟩ : ∃ v, wr.cell? ⟨w.heap.size, 9, none⟩ = some v := ⟨_, HI.out.2.2.out.cell (i := 9) (by omega)⟩
      rw [HBE.out] at z0 z1 z2 z3 z4 z5 z6 z7 z8 z9
      go_wp2
      try simp only [Exit.noGoto]
      refine bodyPost_ret (v := .agg #[.int .i64 (pvI F o n (bestC F o n 3) 0), .int .i64 (pvI F o n (bestC F o n 3) 1), .int .i64 (pvI F o n (bestC F o n 3) 2), .int .i64 (pvI F o n (bestC F o n 3) 3), .int .i64 (pvI F o n (bestC F o n 3) 4), .int .i64 (pvI F o n (bestC F o n 3) 5), .int .i64 (pvI F o n (bestC F o n 3) 6), .int .i64 (pvI F o n (bestC F o n 3) 7), .int .i64 (pvI F o n (bestC F o n 3) 8), .int .i64 (pvI F o n (bestC F o n 3) 9)]) (by simp [results, Tryz.results323, go_sem, u0, u1, u2, u3, u4, u5, u6, u7, u8, u9]) rfl ⟨rfl, set10_below HI.out.2.2.below (Nat.le_refl _) (fun j => .int .i64 (pvI F o n (bestC F o n 3) j))⟩
end Go.Proofs.YtlncjgnomhpjnabGreatDoor

/-
  A whole variable out of its block, and into it, in one step of a walk.
-/
namespace Go.Proofs.YtlncjgnomhpjnabGreatDoor
open Go.RowKit
theorem wpList_loadRow {P : Program} {w : World} {ops : Array Oper} {rest : List Oper} {o : Oper} {a : Act} {Q : Exit → Act → World → Prop} (hgd : o.guard = none) (p : Operand) (t : TypeId) (ho : o.op = .load t p)
    (g : Nat) (tt : TypeId) (cs : Array Value) (fr : Nat × Nat) (d : TypeDesc) (hp : a.eval p = .pointer (some ⟨g, 0, none⟩)) (hg : w.heap[g]? = some (.cells cs tt fr)) (hu : P.underlying t = some d)
    (hd : (match d with | .struct _ | .array _ _ => true | _ => false) = true) (hi : (P.info? t).map (·.size) = some cs.size) (h : wpList P ops Q rest (a.put o.dst (.agg cs)) w) : wpList P ops Q (o :: rest) a w := by
  have hr := run_loadVar_row (P := P) w g tt t cs fr d hg hu hd hi
  refine wpList_plain hgd fun _ hK => ?_
  unfold Oper.wp execOp
  have e : (Instr.loadAt t (.pointer (some ⟨g, 0, none⟩))).run P w = .ok (.agg cs) w := by simpa [Instr.loadAt, Instr.sureAddr, asAddr] using hr
  simp only [ho, hp, Sem.run_bind, e, Result.andThen, Sem.run_pure]
  rw [Oper.upon_value]
  exact hK _ _ h
theorem wpList_storeRow {P : Program} {w : World} {ops : Array Oper} {rest : List Oper} {o : Oper} {a : Act} {Q : Exit → Act → World → Prop} (hgd : o.guard = none) (p v : Operand) (t : TypeId) (ho : o.op = .store t p v)
    (g : Nat) (tt : TypeId) (old cells : Array Value) (hp : a.eval p = .pointer (some ⟨g, 0, none⟩)) (hv : a.eval v = .agg cells) (hg : w.heap[g]? = some (.cells old tt (0, 0))) (hi : (P.info? t).map (·.size) = some cells.size)
    (hs : old.size = cells.size) (h1 : cells.toList.all (·.oneCell') = true) (h : wpList P ops Q rest (a.put o.dst undef) (w.setRow g cells)) : wpList P ops Q (o :: rest) a w := by
  have hr := run_storeVar_row (P := P) w g tt t old cells hg hi hs (by rw [← Array.all_toList]; exact h1)
  refine wpList_plain hgd fun _ hK => ?_
  unfold Oper.wp execOp
  have e : (Instr.storeAt t (.pointer (some ⟨g, 0, none⟩)) (.agg cells)).run P w = .ok () (w.setRow g cells) := by simpa [Instr.storeAt, Instr.sureAddr, asAddr] using hr
  simp only [ho, hp, hv, Sem.run_bind, e, Result.andThen, Sem.run_pure]
  rw [Oper.upon_skip]
  exact hK _ _ h
end Go.Proofs.YtlncjgnomhpjnabGreatDoor

/-
  The program's packer: a body by a kind that has rests.
-/
namespace Go.Proofs.YtlncjgnomhpjnabGreatDoor
open Go.RowKit Go.Deep
set_option linter.unusedVariables false
/-- a body's guesser and parts, as the program holds them -/
def bG (kind : Nat) (x : Nat → Int) (n j : Nat) : Int :=
  if kind < 2 then 0 else if j = 0 then ord kind else if j = 5 then scl kind else wt kind (wA kind x n) (wB kind x n) (j - 1)
def bP (kind : Nat) (x : Nat → Int) (n j : Nat) : Int := if kind < 2 then 0 else pvI (fR kind x n) (ord kind) n (bC kind x n) j
def bodyV (kind w : Nat) (x : Nat → Int) (n : Nat) : Value :=
  .agg #[.int .i64 (kind : Int), .int .i64 (bG kind x n 0), .int .i64 (bG kind x n 1), .int .i64 (bG kind x n 2), .int .i64 (bG kind x n 3), .int .i64 (bG kind x n 4), .int .i64 (bG kind x n 5), .int .i64 (bP kind x n 0), .int .i64 (bP kind x n 1), .int .i64 (bP kind x n 2), .int .i64 (bP kind x n 3), .int .i64 (bP kind x n 4), .int .i64 (bP kind x n 5), .int .i64 (bP kind x n 6), .int .i64 (bP kind x n 7), .int .i64 (bP kind x n 8), .int .i64 (bP kind x n 9), .int .i64 (bodyL kind w x n : Int)]
theorem cutL_le (F : Nat → Nat) (o n c : Nat) (hn : n ≤ 32) (hc : c ≤ 3) (hok : okC n o c = true) (hF : ∀ i, o ≤ i → i < n → F i ≤ 2000000) : cutL F o n c ≤ 1000000000 := by
  have h := cut_facts (show cutB n o c = true from hok)
  have h1 := partsL_le F o (n / 2 ^ c) (2 ^ c) n hn h.1 h.2 hF (2 ^ c) (Nat.le_refl _)
  have h2 : 2 ^ c ≤ 8 := Nat.le_trans (Nat.pow_le_pow_right (by omega) hc) (by decide)
  have h3 : 2 ^ c * 64000484 ≤ 8 * 64000484 := Nat.mul_le_mul_right _ h2
  unfold cutL; omega
/-- what is asked of the short samples -/
structure Shorts (w : World) (A : Option Addr) (n : Nat) (x : Nat → Int) : Prop where
  ints : IntsAt w A n x
  low : ∀ y, A = some y → 0 < n → y.block < w.heap.size
  bd : ∀ j, j < n → -4096 ≤ x j ∧ x j ≤ 4096
theorem Shorts.below {w u : World} {A : Option Addr} {n : Nat} {x : Nat → Int} (h : Shorts w A n x) (hb : Below w.heap.size w u) : Shorts u A n x :=
  ⟨h.ints.belowB hb h.low, fun y hy h0 => Nat.lt_of_lt_of_le (h.low y hy h0) hb.size, h.bd⟩
theorem infoBody : (Tryz.prog.info? 338).map (·.size) = some 18 := by kernel_rfl
/-- a variable's block -/
def Bx (w : World) (b : Nat) (t : TypeId) (cs : Array Value) : Prop := w.heap[b]? = some (.cells cs t (0, 0))
theorem Bx.lt {w : World} {b : Nat} {t : TypeId} {cs : Array Value} (h : Bx w b t cs) : b < w.heap.size := (Array.getElem?_eq_some_iff.1 h).1
theorem Bx.of {w w' : World} {b : Nat} {t : TypeId} {cs : Array Value} (h : Bx w b t cs) (e : w'.heap[b]? = w.heap[b]?) : Bx w' b t cs := e.trans h
theorem Bx.alloc {w : World} {b : Nat} {t : TypeId} {cs : Array Value} (h : Bx w b t cs) (o : Obj) : Bx (w.alloc o) b t cs := h.of (blk_alloc_lt _ _ _ h.lt)
theorem Bx.new (w : World) (cs : Array Value) (t : TypeId) : Bx (w.alloc (.cells cs t)) w.heap.size t cs := blk_alloc_new _ _
theorem Bx.below {w w' : World} {b : Nat} {t : TypeId} {cs : Array Value} (h : Bx w b t cs) (hb : Below w.heap.size w w') : Bx w' b t cs := h.of (hb.block _ h.lt)
theorem Bx.row {w : World} {b : Nat} {t : TypeId} {cs : Array Value} (h : Bx w b t cs) (ds : Array Value) : Bx (w.setRow b ds) b t ds := setRow_heap w b cs ds t (0, 0) h
theorem Bx.other {w : World} {b g : Nat} {t : TypeId} {cs : Array Value} (h : Bx w b t cs) (hb : b ≠ g) (ds : Array Value) : Bx (w.setRow g ds) b t cs := h.of (setRow_other w g b ds hb)
theorem Bx.cell {w : World} {b : Nat} {t : TypeId} {cs : Array Value} (h : Bx w b t cs) (j : Nat) : w.cell? ⟨b, j, none⟩ = cs[j]? := by simp [World.cell?, show w.heap[b]? = _ from h]
def bodyA (kind w : Nat) (x : Nat → Int) (n : Nat) : Array Value :=
  #[.int .i64 (kind : Int), .int .i64 (bG kind x n 0), .int .i64 (bG kind x n 1), .int .i64 (bG kind x n 2), .int .i64 (bG kind x n 3), .int .i64 (bG kind x n 4), .int .i64 (bG kind x n 5), .int .i64 (bP kind x n 0), .int .i64 (bP kind x n 1), .int .i64 (bP kind x n 2), .int .i64 (bP kind x n 3), .int .i64 (bP kind x n 4), .int .i64 (bP kind x n 5), .int .i64 (bP kind x n 6), .int .i64 (bP kind x n 7), .int .i64 (bP kind x n 8), .int .i64 (bP kind x n 9), .int .i64 (bodyL kind w x n : Int)]
theorem bodyV_eq (kind w : Nat) (x : Nat → Int) (n : Nat) : bodyV kind w x n = .agg (bodyA kind w x n) := rfl
def zero18 : Array Value := #[.int .i64 0, .int .i64 0, .int .i64 0, .int .i64 0, .int .i64 0, .int .i64 0, .int .i64 0, .int .i64 0, .int .i64 0, .int .i64 0, .int .i64 0, .int .i64 0, .int .i64 0, .int .i64 0, .int .i64 0, .int .i64 0, .int .i64 0, .int .i64 0]
theorem infoGuesser : (Tryz.prog.info? 333).map (·.size) = some 6 := by kernel_rfl
theorem infoParts : (Tryz.prog.info? 336).map (·.size) = some 10 := by kernel_rfl
theorem res_gb (tmps : Array Value) (R : Nat) (b : Bool) (cs : Array Value) (W : World) (h : Bx W R 338 cs) (hs : cs.size = 18) (h6 : tmps.getD 6 undef = .pointer (some ⟨R, 0, none⟩)) (h7 : tmps.getD 7 undef = .bool b) :
    (results Tryz.f294 tmps).run Tryz.prog W = .ok (.tuple #[.agg cs, .bool b]) W := by
  have hl := run_loadVar_row (P := Tryz.prog) W R 338 338 cs (0, 0) _ h Tryz.underlying338 rfl (by rw [hs]; exact infoBody)
  rw [Array.getD_eq_getD_getElem?] at h6 h7
  simp [results, Tryz.results294, asAddr, h6, h7, hl]
set_option maxRecDepth 100000 in
set_option maxHeartbeats 4000000 in
theorem guessedBody_fixed (kind : Nat) (A : Option Addr) (n c width : Nat) (x : Nat → Int) (w : World) (h2 : 2 ≤ kind) (h6 : kind ≤ 6) (hn : n ≤ 32) (hnc : n ≤ c) (hw : width ≤ 13) (hon : ord kind < n) (hS : Shorts w A n x)
    (hT : TabAt w 5) (hg : 5 < w.heap.size) :
    Calls Tryz.prog 294 #[.int .i64 kind, .int .i64 width, .slice A n c] w fun e w' => e = .returned (.tuple #[.agg (bodyA kind width x n), .bool true]) ∧ Below w.heap.size w w' := by
  have hk7' : kind ≤ 7 := by omega
  have ho := ord_le kind h2 hk7'
  have h7 : ((kind : Int) == 7) = false := by simp; omega
  have hm : IntKind.i64.wrap ((ord kind : Int) * (width : Int)) = ((ord kind * width : Nat) : Int) := by
    have h1 : ord kind * width ≤ 4 * 13 := Nat.mul_le_mul ho hw
    rw [show (ord kind : Int) * (width : Int) = ((ord kind * width : Nat) : Int) by simp, IntKind.wrap_i64]; omega
  have hmb : ord kind * width ≤ 52 := Nat.mul_le_mul ho hw
  have HO := Hid.mk' (fun u => orderOf_any kind u h2 hk7')
  have HF := Hid.mk' (fun u (hu : Below w.heap.size w u) => fixed_any kind (wA kind x n) (wB kind x n) u h2 h6 (fun r c hr hc => (hu.cell (p := ⟨5, 4 * r + c, none⟩) hg).trans (hT r c hr hc)) (Nat.lt_of_lt_of_le hg hu.size))
  have HFR := Hid.mk' (fun (u : World) (hu : Below w.heap.size w u) => foldedRests_any kind A n c x u h2 hk7' hn hon hS.bd (hS.below hu).ints (hS.below hu).low hnc)
  have HSP := Hid.mk' (fun (G : Nat) (u : World) (hu : u.rowIs G 3 n (foldV (ord kind) (fR kind x n) n)) => shortestParts_any (ord kind) G n (fR kind x n) u hn ho hon (fun i hi hin => (fR_bd kind x n i h2 hk7' (fun j hj => hS.bd j (by omega)) hi).2) hu)
  have hcl := cutL_le (fR kind x n) (ord kind) n (bC kind x n) hn (bestC_le _ _ _ _) (bestC_ok _ _ _ hon _) (fun i hi hin => (fR_bd kind x n i h2 hk7' (fun j hj => hS.bd j (by omega)) hi).2)
  have hp9 : pvI (fR kind x n) (ord kind) n (bC kind x n) 9 = (cutL (fR kind x n) (ord kind) n (bC kind x n) : Int) := rfl
  have HBL : Hid ((bodyL kind width x n : Int) = ((ord kind * width : Nat) : Int) + (cutL (fR kind x n) (ord kind) n (bC kind x n) : Int)) := by
    show _ = _
    unfold bodyL gL
    rw [if_neg (by omega), if_neg (by omega), if_neg (by omega)]; simp
  have HBV : Hid (bodyA kind width x n = #[.int .i64 kind, .int .i64 (ord kind), .int .i64 (wt kind (wA kind x n) (wB kind x n) 0), .int .i64 (wt kind (wA kind x n) (wB kind x n) 1), .int .i64 (wt kind (wA kind x n) (wB kind x n) 2), .int .i64 (wt kind (wA kind x n) (wB kind x n) 3), .int .i64 (scl kind : Int), .int .i64 (pvI (fR kind x n) (ord kind) n (bC kind x n) 0), .int .i64 (pvI (fR kind x n) (ord kind) n (bC kind x n) 1), .int .i64 (pvI (fR kind x n) (ord kind) n (bC kind x n) 2), .int .i64 (pvI (fR kind x n) (ord kind) n (bC kind x n) 3), .int .i64 (pvI (fR kind x n) (ord kind) n (bC kind x n) 4), .int .i64 (pvI (fR kind x n) (ord kind) n (bC kind x n) 5), .int .i64 (pvI (fR kind x n) (ord kind) n (bC kind x n) 6), .int .i64 (pvI (fR kind x n) (ord kind) n (bC kind x n) 7), .int .i64 (pvI (fR kind x n) (ord kind) n (bC kind x n) 8), .int .i64 (pvI (fR kind x n) (ord kind) n (bC kind x n) 9), .int .i64 (((ord kind * width : Nat) : Int) + (cutL (fR kind x n) (ord kind) n (bC kind x n) : Int))]) := by
    show _ = _
    rw [← HBL.out]
    unfold bodyA bG bP
    simp only [if_neg (show ¬ kind < 2 by omega)]
    rfl
  obtain ⟨cl, hcle⟩ : ∃ cl, cl = cutL (fR kind x n) (ord kind) n (bC kind x n) := ⟨_, rfl⟩
  obtain ⟨ow, howe⟩ : ∃ ow, ow = ord kind * width := ⟨_, rfl⟩
  obtain ⟨pv, hpve⟩ : ∃ pv, pv = pvI (fR kind x n) (ord kind) n (bC kind x n) := ⟨_, rfl⟩
  have hbCe : bestC (fR kind x n) (ord kind) n 3 = bC kind x n := rfl
  rw [hbCe] at HSP
  rw [← hcle] at hcl hp9 HBV
  rw [← hpve] at hp9 HBV HSP
  rw [← howe] at hm hmb HBV
  have v1 : IntKind.i64.wrap ((ow : Int) + pv 9) = (ow : Int) + (cl : Int) := by rw [hp9, IntKind.wrap_i64]; omega
  clear hp9
  have HR0 : Hid (Bx ((w.alloc (.cells #[.int .i64 0, .int .i64 0, .int .i64 0, .int .i64 0, .int .i64 0, .int .i64 0, .int .i64 0, .int .i64 0, .int .i64 0, .int .i64 0, .int .i64 0, .int .i64 0, .int .i64 0, .int .i64 0, .int .i64 0, .int .i64 0, .int .i64 0, .int .i64 0] 338)).alloc (.cells #[.int .i64 0, .int .i64 0, .int .i64 0, .int .i64 0, .int .i64 0, .int .i64 0] 333)) w.heap.size 338 #[.int .i64 0, .int .i64 0, .int .i64 0, .int .i64 0, .int .i64 0, .int .i64 0, .int .i64 0, .int .i64 0, .int .i64 0, .int .i64 0, .int .i64 0, .int .i64 0, .int .i64 0, .int .i64 0, .int .i64 0, .int .i64 0, .int .i64 0, .int .i64 0]) := (Bx.new w _ _).alloc _
  have HB0 : Hid (Bx ((w.alloc (.cells #[.int .i64 0, .int .i64 0, .int .i64 0, .int .i64 0, .int .i64 0, .int .i64 0, .int .i64 0, .int .i64 0, .int .i64 0, .int .i64 0, .int .i64 0, .int .i64 0, .int .i64 0, .int .i64 0, .int .i64 0, .int .i64 0, .int .i64 0, .int .i64 0] 338)).alloc (.cells #[.int .i64 0, .int .i64 0, .int .i64 0, .int .i64 0, .int .i64 0, .int .i64 0] 333)) (w.heap.size + 1) 333 #[.int .i64 0, .int .i64 0, .int .i64 0, .int .i64 0, .int .i64 0, .int .i64 0]) := by
    have := Bx.new (w.alloc (.cells #[.int .i64 0, .int .i64 0, .int .i64 0, .int .i64 0, .int .i64 0, .int .i64 0, .int .i64 0, .int .i64 0, .int .i64 0, .int .i64 0, .int .i64 0, .int .i64 0, .int .i64 0, .int .i64 0, .int .i64 0, .int .i64 0, .int .i64 0, .int .i64 0] 338)) #[.int .i64 0, .int .i64 0, .int .i64 0, .int .i64 0, .int .i64 0, .int .i64 0] 333
    rw [World.size_alloc] at this
    exact this
  have HW0 : Hid (Below w.heap.size w ((w.alloc (.cells #[.int .i64 0, .int .i64 0, .int .i64 0, .int .i64 0, .int .i64 0, .int .i64 0, .int .i64 0, .int .i64 0, .int .i64 0, .int .i64 0, .int .i64 0, .int .i64 0, .int .i64 0, .int .i64 0, .int .i64 0, .int .i64 0, .int .i64 0, .int .i64 0] 338)).alloc (.cells #[.int .i64 0, .int .i64 0, .int .i64 0, .int .i64 0, .int .i64 0, .int .i64 0] 333))) := ((Below.refl w.heap.size w).alloc (Nat.le_refl _) _).alloc (by simp) _
  have t1 : decide ((n : Int) ≤ (ord kind : Int)) = false := decide_eq_false (by omega)
  have t2 : decide (n ≤ ord kind) = false := decide_eq_false (by omega)
  rw [HBV.out]
  clear hT hS hcle howe hpve hbCe HBL HBV hmb hcl
  unfold gV at HF HFR
  generalize hwt : wt kind (wA kind x n) (wB kind x n) = wv at *
  clear hwt
  generalize ord kind = o at *
  generalize scl kind = sc at *
  go_enter Tryz.func294, Tryz.ntmps294
  go_wp2_with (first
    | (go_at_call 319; refine (HO.out _).mono ?_; rintro e w1 ⟨rfl, hw⟩; subst w1; clear HO)
    | (go_at_call 322; refine (HF.out _ ?_).mono ?_; exact HW0.out; rintro e w2 ⟨rfl, hb2⟩; have HR2 := Hid.mk' (HR0.out.below hb2); have HB2 := Hid.mk' (HB0.out.below hb2); have HW2 := Hid.mk' (HW0.out.trans (hb2.mono HW0.out.size)); clear hb2 HR0 HB0 HW0; clear HF)
    | (refine wpList_storeRow rfl _ _ 333 rfl (w.heap.size + 1) 333 _ _ rfl rfl HB2.out infoGuesser rfl rfl ?_; have HR3 := Hid.mk' (HR2.out.other (g := w.heap.size + 1) (by omega) #[.int .i64 (o : Int), .int .i64 (wv 0), .int .i64 (wv 1), .int .i64 (wv 2), .int .i64 (wv 3), .int .i64 (sc : Int)]); have HB3 := Hid.mk' (HB2.out.row #[.int .i64 (o : Int), .int .i64 (wv 0), .int .i64 (wv 1), .int .i64 (wv 2), .int .i64 (wv 3), .int .i64 (sc : Int)]); have HW3 := Hid.mk' (below_setRow (g := w.heap.size + 1) HW2.out (by omega) #[.int .i64 (o : Int), .int .i64 (wv 0), .int .i64 (wv 1), .int .i64 (wv 2), .int .i64 (wv 3), .int .i64 (sc : Int)]); clear HR2 HB2 HW2)
    | (refine wpList_loadRow rfl _ 333 rfl (w.heap.size + 1) 333 #[.int .i64 (o : Int), .int .i64 (wv 0), .int .i64 (wv 1), .int .i64 (wv 2), .int .i64 (wv 3), .int .i64 (sc : Int)] (0, 0) _ rfl HB3.out Tryz.underlying333 rfl infoGuesser ?_)
    | (go_at_call 324; refine (HFR.out _ ?_).mono ?_; exact HW3.out; rintro e w4 ⟨G, hG, rfl, hrow, hb4⟩; have HG := Hid.mk' hrow; have HR4 := Hid.mk' (HR3.out.below hb4); have HB4 := Hid.mk' (HB3.out.below hb4); have HW4 := Hid.mk' (HW3.out.trans (hb4.mono HW3.out.size)); clear hb4 HR3 HB3 HW3; clear hrow HFR)
    | (go_at_call 323; refine (HSP.out G _ ?_).mono ?_; exact HG.out; rintro e w5 ⟨rfl, hb5⟩; have HR5 := Hid.mk' (HR4.out.below hb5); have HB5 := Hid.mk' (HB4.out.below hb5); have HW5 := Hid.mk' (HW4.out.trans (hb5.mono HW4.out.size)); clear hb5 HR4 HB4 HW4; have hs5 := HB5.out.lt; clear HSP HG)
    | (refine wpList_storeRow rfl _ _ 336 rfl w5.heap.size 336 _ _ rfl rfl (Bx.new w5 #[.int .i64 0, .int .i64 0, .int .i64 0, .int .i64 0, .int .i64 0, .int .i64 0, .int .i64 0, .int .i64 0, .int .i64 0, .int .i64 0] 336) infoParts rfl rfl ?_; have HP6 := Hid.mk' ((Bx.new w5 #[.int .i64 0, .int .i64 0, .int .i64 0, .int .i64 0, .int .i64 0, .int .i64 0, .int .i64 0, .int .i64 0, .int .i64 0, .int .i64 0] 336).row #[.int .i64 (pv 0), .int .i64 (pv 1), .int .i64 (pv 2), .int .i64 (pv 3), .int .i64 (pv 4), .int .i64 (pv 5), .int .i64 (pv 6), .int .i64 (pv 7), .int .i64 (pv 8), .int .i64 (pv 9)]); have HR6 := Hid.mk' ((HR5.out.alloc (.cells #[.int .i64 0, .int .i64 0, .int .i64 0, .int .i64 0, .int .i64 0, .int .i64 0, .int .i64 0, .int .i64 0, .int .i64 0, .int .i64 0] 336)).other (g := w5.heap.size) (by omega) #[.int .i64 (pv 0), .int .i64 (pv 1), .int .i64 (pv 2), .int .i64 (pv 3), .int .i64 (pv 4), .int .i64 (pv 5), .int .i64 (pv 6), .int .i64 (pv 7), .int .i64 (pv 8), .int .i64 (pv 9)]); have HB6 := Hid.mk' ((HB5.out.alloc (.cells #[.int .i64 0, .int .i64 0, .int .i64 0, .int .i64 0, .int .i64 0, .int .i64 0, .int .i64 0, .int .i64 0, .int .i64 0, .int .i64 0] 336)).other (g := w5.heap.size) (by omega) #[.int .i64 (pv 0), .int .i64 (pv 1), .int .i64 (pv 2), .int .i64 (pv 3), .int .i64 (pv 4), .int .i64 (pv 5), .int .i64 (pv 6), .int .i64 (pv 7), .int .i64 (pv 8), .int .i64 (pv 9)]); have HW6 := Hid.mk' (below_setRow (g := w5.heap.size) (HW5.out.alloc HW5.out.size (.cells #[.int .i64 0, .int .i64 0, .int .i64 0, .int .i64 0, .int .i64 0, .int .i64 0, .int .i64 0, .int .i64 0, .int .i64 0, .int .i64 0] 336)) (by omega) #[.int .i64 (pv 0), .int .i64 (pv 1), .int .i64 (pv 2), .int .i64 (pv 3), .int .i64 (pv 4), .int .i64 (pv 5), .int .i64 (pv 6), .int .i64 (pv 7), .int .i64 (pv 8), .int .i64 (pv 9)]); have x9 := HP6.out.cell 9; simp at x9; clear HR5 HB5 HW5)
    | (refine wpList_loadRow rfl _ 333 rfl (w.heap.size + 1) 333 #[.int .i64 (o : Int), .int .i64 (wv 0), .int .i64 (wv 1), .int .i64 (wv 2), .int .i64 (wv 3), .int .i64 (sc : Int)] (0, 0) _ rfl HB6.out Tryz.underlying333 rfl infoGuesser ?_)
    | (refine wpList_loadRow rfl _ 336 rfl w5.heap.size 336 #[.int .i64 (pv 0), .int .i64 (pv 1), .int .i64 (pv 2), .int .i64 (pv 3), .int .i64 (pv 4), .int .i64 (pv 5), .int .i64 (pv 6), .int .i64 (pv 7), .int .i64 (pv 8), .int .i64 (pv 9)] (0, 0) _ rfl HP6.out Tryz.underlying336 rfl infoParts ?_)
    | (refine wpList_storeRow rfl _ _ 338 rfl w.heap.size 338 _ _ rfl rfl HR6.out infoBody rfl rfl ?_))
  exact bodyPost_ret (res_gb _ w.heap.size true _ _ (HR6.out.row _) rfl rfl rfl) rfl ⟨rfl, below_setRow HW6.out (Nat.le_refl _) _⟩
end Go.Proofs.YtlncjgnomhpjnabGreatDoor

