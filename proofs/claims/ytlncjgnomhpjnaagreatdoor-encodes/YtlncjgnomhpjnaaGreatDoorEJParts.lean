import Derived.Test.YtlncjgnomhpjnaaGreatDoorEKCodeProg
import Derived.Test.YtlncjgnomhpjnaaGreatDoorEJBase
import Derived.Laws.Rows
import Derived.Laws.Tables
import Derived.Laws.AppendOwn
/-
  The program's packer: the search for the best cut.
-/
namespace Go.Proofs.YtlncjgnomhpjnaaGreatDoor
open Go.RowKit Go.Deep
set_option linter.unusedVariables false

/-- a cut's parts, of which i are made, as the program holds them -/
def tvI (F : Nat → Nat) (o n c i j : Nat) : Int := if j = 0 then (c : Int) else if j = 9 then ((2 + partsL F o (n / 2 ^ c) i : Nat) : Int) else if j - 1 < i then (parN F o (n / 2 ^ c) (j - 1) : Int) else 0
def tv (F : Nat → Nat) (o n c i j : Nat) : Value := .int .i64 (tvI F o n c i j)
/-- the best cut's parts -/
def pvI (F : Nat → Nat) (o n c j : Nat) : Int := tvI F o n c (2 ^ c) j
def bestV (F : Nat → Nat) (o n c j : Nat) : Value := .int .i64 (if c = 0 then 0 else pvI F o n (bestC F o n (c - 1)) j)

theorem tv_zero (F : Nat → Nat) (o n c j : Nat) (hj : j < 10) : tv F o n c 0 j = .int .i64 (if j = 0 then (c : Int) else if j = 9 then 2 else 0) := by
  unfold tv tvI partsL
  split
  · rfl
  · split <;> simp
theorem tv_step {w : World} {g : Nat} {t : TypeId} {F : Nat → Nat} {o n c i : Nat} {z y : Int} (hi : i < 8) (hz : z = parN F o (n / 2 ^ c) i) (hy : y = ((2 + partsL F o (n / 2 ^ c) (i + 1) : Nat) : Int))
    (h : w.rowIs g t 10 (fun j => if j = 9 then .int .i64 y else if j = 1 + i then .int .i64 z else tv F o n c i j)) : w.rowIs g t 10 (tv F o n c (i + 1)) := by
  refine h.congr fun j hj => ?_
  unfold tv tvI
  by_cases e9 : j = 9
  · subst e9; simp [hy]
  · by_cases e0 : j = 0
    · subst e0; rw [if_neg e9, if_neg (by omega)]; rfl
    · by_cases e : j = 1 + i
      · subst e
        rw [if_neg e9, if_pos rfl, if_neg e0, if_neg e9, if_pos (by omega), hz, show 1 + i - 1 = i by omega]
      · simp only [e9, e0, e, if_false]
        by_cases h1 : j - 1 < i
        · rw [if_pos h1, if_pos (by omega)]
        · rw [if_neg h1, if_neg (by omega)]

/-- what the search holds -/
structure PInv (w wr : World) (G n c o : Nat) (F : Nat → Nat) : Prop where
  best : wr.rowIs (w.heap.size + 1) 204 10 (bestV F o n c)
  out : wr.rowIs w.heap.size 204 10 (fun _ => .int .i64 0)
  folds : wr.rowIs G 3 n (foldV o F n)
  below : Below w.heap.size w wr

theorem zero10 (F : Nat → Nat) (o n i : Nat) (hi : i < 10) : (#[.int .i64 0, .int .i64 0, .int .i64 0, .int .i64 0, .int .i64 0, .int .i64 0, .int .i64 0, .int .i64 0, .int .i64 0, .int .i64 0] : Array Value)[i]? = some (bestV F o n 0 i) := by
  match i, hi with
  | 0, _ => rfl
  | 1, _ => rfl
  | 2, _ => rfl
  | 3, _ => rfl
  | 4, _ => rfl
  | 5, _ => rfl
  | 6, _ => rfl
  | 7, _ => rfl
  | 8, _ => rfl
  | 9, _ => rfl
theorem PInv.drewN {w wr : World} {G n c o : Nat} {F : Nat → Nat} (h : PInv w wr G n c o F) (m : Nat) : PInv w (wr.drewN m) G n c o F :=
  ⟨h.best, h.out, h.folds, ⟨h.below.os, h.below.tape, h.below.output, h.below.size, h.below.block⟩⟩
theorem PInv.setT {w wr : World} {G n c o TR : Nat} {F : Nat → Nat} (h : PInv w wr G n c o F) (h1 : w.heap.size + 1 < TR) (hG : G < w.heap.size) (i : Nat) (v : Value) : PInv w (wr.setCell ⟨TR, i, none⟩ v) G n c o F :=
  ⟨h.best.setOther (by simp; omega) _, h.out.setOther (by simp; omega) _, h.folds.setOther (by simp; omega) _, h.below.setCell (by simp; omega) _⟩
theorem PInv.turn {w wr : World} {G n c d o : Nat} {F : Nat → Nat} (h : PInv w wr G n c o F) (e : ∀ j, bestV F o n d j = bestV F o n c j) : PInv w wr G n d o F :=
  ⟨h.best.congr fun j _ => (e j).symm, h.out, h.folds, h.below⟩
def set10 (w : World) (g : Nat) (v : Nat → Value) : World :=
  (((((((((w.setCell ⟨g, 0, none⟩ (v 0)).setCell ⟨g, 1, none⟩ (v 1)).setCell ⟨g, 2, none⟩ (v 2)).setCell ⟨g, 3, none⟩ (v 3)).setCell ⟨g, 4, none⟩ (v 4)).setCell ⟨g, 5, none⟩ (v 5)).setCell ⟨g, 6, none⟩ (v 6)).setCell ⟨g, 7, none⟩ (v 7)).setCell ⟨g, 8, none⟩ (v 8)).setCell ⟨g, 9, none⟩ (v 9)
theorem set10_row {w : World} {g : Nat} {t : TypeId} {f : Nat → Value} (h : w.rowIs g t 10 f) (v : Nat → Value) : (set10 w g v).rowIs g t 10 v := by
  refine ((((((((((h.set 0 _).set 1 _).set 2 _).set 3 _).set 4 _).set 5 _).set 6 _).set 7 _).set 8 _).set 9 _).congr fun i hi => ?_
  match i, hi with
  | 0, _ => rfl
  | 1, _ => rfl
  | 2, _ => rfl
  | 3, _ => rfl
  | 4, _ => rfl
  | 5, _ => rfl
  | 6, _ => rfl
  | 7, _ => rfl
  | 8, _ => rfl
  | 9, _ => rfl
theorem set10_other {w : World} {g b n : Nat} {t : TypeId} {f : Nat → Value} (h : w.rowIs b t n f) (hb : b ≠ g) (v : Nat → Value) : (set10 w g v).rowIs b t n f :=
  (((((((((h.setOther hb _).setOther hb _).setOther hb _).setOther hb _).setOther hb _).setOther hb _).setOther hb _).setOther hb _).setOther hb _).setOther hb _
theorem set10_below {w w' : World} {g B : Nat} (h : Below B w w') (hb : B ≤ g) (v : Nat → Value) : Below B w (set10 w' g v) :=
  (((((((((h.setCell hb _).setCell hb _).setCell hb _).setCell hb _).setCell hb _).setCell hb _).setCell hb _).setCell hb _).setCell hb _).setCell hb _
theorem bestV_keep {F : Nat → Nat} {o n c : Nat} (hc : 0 < c) (h : cutL F o n (bestC F o n (c - 1)) ≤ cutL F o n c) (j : Nat) : bestV F o n (c + 1) j = bestV F o n c j := by
  obtain ⟨d, rfl⟩ : ∃ d, c = d + 1 := ⟨c - 1, by omega⟩
  unfold bestV
  rw [if_neg (by omega), if_neg (by omega), show d + 1 + 1 - 1 = d + 1 by omega, show d + 1 - 1 = d by omega]
  rw [show bestC F o n (d + 1) = bestC F o n d from if_neg (fun hh => by have := hh.2; simp only [Nat.add_sub_cancel] at h; omega)]
theorem bestV_new {F : Nat → Nat} {o n c : Nat} (hok : okC n o c = true) (h : 0 < c → cutL F o n c < cutL F o n (bestC F o n (c - 1))) (j : Nat) : bestV F o n (c + 1) j = tv F o n c (2 ^ c) j := by
  have e : bestC F o n c = c := by
    cases c with
    | zero => rfl
    | succ d => exact if_pos ⟨hok, h (by omega)⟩
  unfold bestV tv
  rw [if_neg (by omega), Nat.add_sub_cancel, e]; rfl
theorem bestV_nine {F : Nat → Nat} {o n c : Nat} (hc : 0 < c) : bestV F o n c 9 = .int .i64 ((cutL F o n (bestC F o n (c - 1)) : Nat) : Int) := by
  unfold bestV
  rw [if_neg (by omega)]; rfl

theorem partsL_le (F : Nat → Nat) (o sz P n : Nat) (hn : n ≤ 32) (hP : sz * P = n) (ho : o < sz) (hF : ∀ i, o ≤ i → i < n → F i ≤ 2000000) : ∀ i, i ≤ P → partsL F o sz i ≤ i * 64000484
  | 0, _ => by simp [partsL]
  | i + 1, h => by
    have ih := partsL_le F o sz P n hn hP ho hF i (by omega)
    have h1 : (i + 1) * sz ≤ P * sz := Nat.mul_le_mul_right _ h
    rw [Nat.mul_comm P, hP] at h1
    have hlo : o ≤ ploN o sz i := by unfold ploN; omega
    have h2 := plen_le F (parN F o sz i) (ploN o sz i) 2000000 (parK_le _ _ _) (pcnt o sz i) (fun j hj => hF _ (by omega) (by unfold pcnt at hj; omega))
    have h3 : pcnt o sz i * (2000000 + 15) ≤ 32 * (2000000 + 15) := Nat.mul_le_mul_right _ (by unfold pcnt; omega)
    simp only [partsL]
    rw [Nat.succ_mul]; omega

set_option maxRecDepth 100000 in
set_option maxHeartbeats 4000000 in
theorem shortestParts_any (o G n : Nat) (F : Nat → Nat) (w : World) (hn : n ≤ 32) (ho : o ≤ 4) (hon : o < n) (hF : ∀ i, o ≤ i → i < n → F i ≤ 2000000) (hrow : w.rowIs G 3 n (foldV o F n)) :
    Calls Tryz.prog 217 #[.int .i64 o, .slice (some ⟨G, 0, none⟩) n n] w fun e w' =>
      e = .returned (.agg #[.int .i64 (pvI F o n (bestC F o n 3) 0), .int .i64 (pvI F o n (bestC F o n 3) 1), .int .i64 (pvI F o n (bestC F o n 3) 2), .int .i64 (pvI F o n (bestC F o n 3) 3), .int .i64 (pvI F o n (bestC F o n 3) 4),
        .int .i64 (pvI F o n (bestC F o n 3) 5), .int .i64 (pvI F o n (bestC F o n 3) 6), .int .i64 (pvI F o n (bestC F o n 3) 7), .int .i64 (pvI F o n (bestC F o n 3) 8), .int .i64 (pvI F o n (bestC F o n 3) 9)]) ∧ Below w.heap.size w w' := by
  have hG := hrow.lt
  have HF := Hid.mk' hF
  have HROW := Hid.mk' hrow
  have HPS := Hid.mk' (fun c (hc : c ≤ 3) u => partSize_any n o c u hn ho hc)
  clear hF hrow
  go_enter Tryz.func217, Tryz.ntmps217
  go_wp2_with fail
  refine wp_scope_straight ?_
  go_wp2
  refine wp_label ?_
  go_wp2
  go_loopw [6, 7] (fun fv cv wr => ∃ c : Nat, ∃ fb : Bool, c ≤ 4 ∧ cv = .int .i64 c ∧ fv = .bool fb ∧ Hid (fb = decide (0 < c) ∧ (c = 4 → True) ∧ PInv w wr G n c o F)) (fun _ cv _ => 4 - (intOf cv).toNat)
  case atStart =>
    refine ⟨0, false, by omega, rfl, rfl, rfl, fun _ => trivial, ?_, ?_, ?_, ?_⟩
    · have := World.rowIs_alloc (w.alloc (Obj.cells #[.int .i64 0, .int .i64 0, .int .i64 0, .int .i64 0, .int .i64 0, .int .i64 0, .int .i64 0, .int .i64 0, .int .i64 0, .int .i64 0] 204)) #[.int .i64 0, .int .i64 0, .int .i64 0, .int .i64 0, .int .i64 0, .int .i64 0, .int .i64 0, .int .i64 0, .int .i64 0, .int .i64 0] 204 (bestV F o n 0) (zero10 F o n)
      rw [World.size_alloc] at this
      exact this
    · exact (World.rowIs_alloc w #[.int .i64 0, .int .i64 0, .int .i64 0, .int .i64 0, .int .i64 0, .int .i64 0, .int .i64 0, .int .i64 0, .int .i64 0, .int .i64 0] 204 (fun _ => .int .i64 0) (zero10 F o n)).alloc _
    · exact (HROW.out.alloc _).alloc _
    · exact ((Below.refl _ _).alloc (Nat.le_refl _) _).alloc (by simp) _
  case round =>
    obtain ⟨c, fb, hc4, rfl, rfl, HI⟩ := hrel
    have hR1 := HI.out.2.2.best.lt
    by_cases hc : c ≤ 3
    · have HPC := Hid.mk' (HPS.out c hc)
      by_cases hok : okC n o c = true
      · have hok' : cutB n o c = true := hok
        rw [hok'] at HPC
        have hP1 : 1 ≤ 2 ^ c := Nat.two_pow_pos c
        have hP8 : 2 ^ c ≤ 8 := Nat.le_trans (Nat.pow_le_pow_right (by omega) hc) (by decide)
        have hcf := cut_facts hok'
        have HTV : Hid (∀ i, tv F o n c i = fun j => .int .i64 (tvI F o n c i j)) := fun i => rfl
        have HCL : Hid (cutL F o n c = 2 + partsL F o (n / 2 ^ c) (2 ^ c)) := rfl
        have hsh : (1 : Int) * 2 ^ c = ((2 ^ c : Nat) : Int) := by simp
        have hm : min c 64 = c := by omega
        obtain ⟨P, hP⟩ : ∃ P, P = 2 ^ c := ⟨_, rfl⟩
        obtain ⟨sz, hsz⟩ : ∃ sz, sz = n / 2 ^ c := ⟨_, rfl⟩
        rw [← hsz] at HPC hcf HCL
        rw [← hP] at hP1 hP8 hcf HCL
        have hpw : IntKind.i64.wrap ((2 : Int) ^ c) = (P : Int) := by rw [show ((2 : Int) ^ c) = (P : Int) by rw [hP]; simp, IntKind.wrap_i64]; omega
        have HSZ := Hid.mk' hsz
        have HP := Hid.mk' hP
        have hszP := hcf.1
        have hosz := hcf.2
        have hokk := Hid.mk' hok
        clear hsz hP hok hok' hcf hsh hP1
        go_wp2_with (go_at_call 223; refine (HPC.out _).mono ?_; rintro e w1 ⟨rfl, hw⟩; subst w1; clear HPC)
        have HTR : Hid ((wr.alloc (Obj.cells #[.int .i64 c, .int .i64 0, .int .i64 0, .int .i64 0, .int .i64 0, .int .i64 0, .int .i64 0, .int .i64 0, .int .i64 0, .int .i64 2] 204)).rowIs wr.heap.size 204 10 (tv F o n c 0)) :=
          World.rowIs_alloc wr #[.int .i64 c, .int .i64 0, .int .i64 0, .int .i64 0, .int .i64 0, .int .i64 0, .int .i64 0, .int .i64 0, .int .i64 0, .int .i64 2] 204 (tv F o n c 0) (fun i hi => by
            rw [tv_zero F o n c i hi]
            match i, hi with
            | 0, _ => rfl
            | 1, _ => rfl
            | 2, _ => rfl
            | 3, _ => rfl
            | 4, _ => rfl
            | 5, _ => rfl
            | 6, _ => rfl
            | 7, _ => rfl
            | 8, _ => rfl
            | 9, _ => rfl)
        obtain ⟨TR, hTR⟩ : ∃ TR, TR = wr.heap.size := ⟨_, rfl⟩
        have hTRR : w.heap.size + 1 < TR := by rw [hTR]; exact hR1
        have HINV : Hid (PInv w (wr.alloc (Obj.cells #[.int .i64 c, .int .i64 0, .int .i64 0, .int .i64 0, .int .i64 0, .int .i64 0, .int .i64 0, .int .i64 0, .int .i64 0, .int .i64 2] 204)) G n c o F) := ⟨HI.out.2.2.best.alloc _, HI.out.2.2.out.alloc _, HI.out.2.2.folds.alloc _, HI.out.2.2.below.alloc HI.out.2.2.below.size _⟩
        have HFB := Hid.mk' HI.out.1
        rw [← hTR] at HTR
        rw [← hTR]
        clear hTR hR1 HI
        have tn1 : ¬ TR = w.heap.size + 1 := by omega
        have tn2 : ¬ w.heap.size + 1 = TR := by omega
        go_loopw [34] (fun iv wi => ∃ i : Nat, i ≤ P ∧ iv = .int .i64 i ∧ Hid (PInv w wi G n c o F ∧ wi.rowIs TR 204 10 (tv F o n c i) ∧ (0 < c → 0 < i → 2 + partsL F o sz i < cutL F o n (bestC F o n (c - 1))))) (fun iv _ => P - (intOf iv).toNat)
        case atStart => exact ⟨0, Nat.zero_le _, rfl, HINV.out, HTR.out, fun _ h => absurd h (by omega)⟩
        case round =>
          clear HTR HINV
          obtain ⟨i, hiP, rfl, HJ⟩ := hrel
          by_cases hlt : i < P
          · have hi1 : (i + 1) * sz ≤ n := by
              have h1 : (i + 1) * sz ≤ P * sz := Nat.mul_le_mul_right _ hlt
              rw [Nat.mul_comm P, hszP] at h1; exact h1
            obtain ⟨fr, hfr⟩ : ∃ fr, fr = i * sz := ⟨_, rfl⟩
            obtain ⟨lo, hlo⟩ : ∃ lo, lo = ploN o sz i := ⟨_, rfl⟩
            obtain ⟨ct, hct⟩ : ∃ ct, ct = pcnt o sz i := ⟨_, rfl⟩
            have hfr1 : fr + sz ≤ n := by rw [Nat.succ_mul, ← hfr] at hi1; exact hi1
            have hloM : lo = max fr o := by rw [hlo, hfr]; rfl
            have hctE : ct = fr + sz - lo := by rw [hct, hfr, hlo]; unfold pcnt; rw [Nat.succ_mul]
            have hol : o ≤ lo := by omega
            have hfo : fr = 0 ∨ o < fr := by
              rcases Nat.eq_zero_or_pos i with h | h
              · left; rw [hfr, h]; simp
              · right
                have : 1 * sz ≤ i * sz := Nat.mul_le_mul_right _ h
                omega
            have hlh : lo ≤ fr + sz := by omega
            have v1 : IntKind.i64.wrap ((i : Int) * (sz : Int)) = (fr : Int) := by
              rw [show (i : Int) * (sz : Int) = ((i * sz : Nat) : Int) by simp, ← hfr, IntKind.wrap_i64]; omega
            have v2 : max (fr : Int) (o : Int) = (lo : Int) := by omega
            have HSP := Hid.mk' (fun (u : World) (hu : u.rowIs G 3 n (foldV o F n)) => shortestParameter_any (some ⟨G, lo, none⟩) ct (n - lo) lo F u (by omega) (fun k hk => HF.out _ (by omega) (by omega)) (fun k hk => ⟨_, rfl, by
              have := hu.cell (i := lo + k) (by omega)
              unfold foldV at this
              rw [if_pos ⟨by omega, by omega⟩] at this
              rw [← this]; cases k <;> simp [Addr.add]⟩))
            have HPN : Hid (parN F o sz i = parK F lo ct) := by rw [hlo, hct]; rfl
            have HPL : Hid (partsL F o sz (i + 1) = partsL F o sz i + (4 + plen F (parK F lo ct) lo ct)) := by rw [hlo, hct]; rfl
            have hb1 := partsL_le F o sz P n hn hszP hosz HF.out i (by omega)
            have hb2 := partsL_le F o sz P n hn hszP hosz HF.out (i + 1) (by omega)
            rw [HPL.out] at hb2
            have hctn : fr + sz - lo = ct := hctE.symm
            have x9 := HJ.out.2.1.cell (i := 9) (by omega)
            have xi := HJ.out.2.1.cell (i := 1 + i) (by omega)
            have f9 := HJ.out.2.1.frozen 9
            have fi := HJ.out.2.1.frozen (1 + i)
            rw [show tv F o n c i 9 = .int .i64 ((2 + partsL F o sz i : Nat) : Int) by rw [HSZ.out]; rfl] at x9
            unfold tv at xi
            have y9 := HJ.out.1.best.cell (i := 9) (by omega)
            generalize hpk : parK F lo ct = K at *
            generalize hpl : plen F K lo ct = L at *
            generalize hPi : partsL F o sz i = Pi at *
            have v3 : IntKind.i64.wrap ((fr : Int) + (sz : Int)) = (fr : Int) + (sz : Int) := by rw [IntKind.wrap_i64]; omega
            have HCT := Hid.mk' hctE
            clear hfr hlo hct hloM hctE hfo hszP hpk hpl hPi hi1
            cases fb with
            | false =>
              go_wp2_with (go_at_call 231; refine (HSP.out _ ?_).mono ?_; exact HJ.out.1.folds; rintro e w1 ⟨rfl, q, hw⟩; subst w1; clear HSP)
              go_roundw
              case rel => exact ⟨i + 1, by omega, by go_num, ((HJ.out.1.drewN q).setT hTRR hG _ _).setT hTRR hG _ _, tv_step (by omega) (by rw [← HSZ.out, HPN.out]) (by rw [← HSZ.out, HPL.out]; simp; omega) (((show (wr.drewN q).rowIs TR 204 10 (tv F o n c i) from HJ.out.2.1).set (1 + i) _).set 9 _), fun h => absurd HFB.out (by simp [h])⟩
              case measure => simp [intOf]; omega
            | true =>
              have hc0 : 0 < c := by have := HFB.out; simpa using this.symm
              rw [bestV_nine hc0] at y9
              generalize hCB : cutL F o n (bestC F o n (c - 1)) = CB at *
              have HCB := Hid.mk' hCB
              clear hCB
              by_cases hge : CB ≤ 2 + Pi + (4 + L)
              · have t1 : decide ((CB : Int) ≤ 2 + (Pi : Int) + (4 + (L : Int))) = true := decide_eq_true (by omega)
                have HK : Hid (∀ j, bestV F o n (c + 1) j = bestV F o n c j) := fun j => bestV_keep hc0 (by
                  rw [HCB.out, HCL.out]
                  have h1 := partsL_mono F o sz (i := i + 1) (j := P) hlt
                  rw [HPL.out] at h1
                  omega) j
                clear hge
                go_wp2_with (go_at_call 231; refine (HSP.out _ ?_).mono ?_; exact HJ.out.1.folds; rintro e w1 ⟨rfl, q, hw⟩; subst w1; clear HSP)
                exact ⟨⟨c + 1, true, by omega, by go_num, rfl, by simp, fun _ => trivial, (((HJ.out.1.drewN q).setT hTRR hG _ _).setT hTRR hG _ _).turn HK.out⟩, by simp [intOf]; omega⟩
              · have t1 : decide ((CB : Int) ≤ 2 + (Pi : Int) + (4 + (L : Int))) = false := decide_eq_false (by omega)
                have HLT := Hid.mk' hge
                clear hge
                go_wp2_with (go_at_call 231; refine (HSP.out _ ?_).mono ?_; exact HJ.out.1.folds; rintro e w1 ⟨rfl, q, hw⟩; subst w1; clear HSP)
                go_roundw
                case rel => exact ⟨i + 1, by omega, by go_num, ((HJ.out.1.drewN q).setT hTRR hG _ _).setT hTRR hG _ _, tv_step (by omega) (by rw [← HSZ.out, HPN.out]) (by rw [← HSZ.out, HPL.out]; simp; omega) (((show (wr.drewN q).rowIs TR 204 10 (tv F o n c i) from HJ.out.2.1).set (1 + i) _).set 9 _), fun _ _ => by rw [HPL.out]; have := HLT.out; omega⟩
                case measure => simp [intOf]; omega
          · have e : i = P := by omega
            subst e
            have HOK := Hid.mk' hokk.out
            have x0 := HJ.out.2.1.cell (i := 0) (by omega)
            have x1 := HJ.out.2.1.cell (i := 1) (by omega)
            have x2 := HJ.out.2.1.cell (i := 2) (by omega)
            have x3 := HJ.out.2.1.cell (i := 3) (by omega)
            have x4 := HJ.out.2.1.cell (i := 4) (by omega)
            have x5 := HJ.out.2.1.cell (i := 5) (by omega)
            have x6 := HJ.out.2.1.cell (i := 6) (by omega)
            have x7 := HJ.out.2.1.cell (i := 7) (by omega)
            have x8 := HJ.out.2.1.cell (i := 8) (by omega)
            have x9 := HJ.out.2.1.cell (i := 9) (by omega)
            unfold tv at x0 x1 x2 x3 x4 x5 x6 x7 x8 x9
            obtain ⟨oy0, y0⟩ : ∃ v, wr.cell? ⟨w.heap.size + 1, 0, none⟩ = some v := ⟨_, HJ.out.1.best.cell (i := 0) (by omega)⟩
            obtain ⟨oy1, y1⟩ : ∃ v, wr.cell? ⟨w.heap.size + 1, 1, none⟩ = some v := ⟨_, HJ.out.1.best.cell (i := 1) (by omega)⟩
            obtain ⟨oy2, y2⟩ : ∃ v, wr.cell? ⟨w.heap.size + 1, 2, none⟩ = some v := ⟨_, HJ.out.1.best.cell (i := 2) (by omega)⟩
            obtain ⟨oy3, y3⟩ : ∃ v, wr.cell? ⟨w.heap.size + 1, 3, none⟩ = some v := ⟨_, HJ.out.1.best.cell (i := 3) (by omega)⟩
            obtain ⟨oy4, y4⟩ : ∃ v, wr.cell? ⟨w.heap.size + 1, 4, none⟩ = some v := ⟨_, HJ.out.1.best.cell (i := 4) (by omega)⟩
            obtain ⟨oy5, y5⟩ : ∃ v, wr.cell? ⟨w.heap.size + 1, 5, none⟩ = some v := ⟨_, HJ.out.1.best.cell (i := 5) (by omega)⟩
            obtain ⟨oy6, y6⟩ : ∃ v, wr.cell? ⟨w.heap.size + 1, 6, none⟩ = some v := ⟨_, HJ.out.1.best.cell (i := 6) (by omega)⟩
            obtain ⟨oy7, y7⟩ : ∃ v, wr.cell? ⟨w.heap.size + 1, 7, none⟩ = some v := ⟨_, HJ.out.1.best.cell (i := 7) (by omega)⟩
            obtain ⟨oy8, y8⟩ : ∃ v, wr.cell? ⟨w.heap.size + 1, 8, none⟩ = some v := ⟨_, HJ.out.1.best.cell (i := 8) (by omega)⟩
            obtain ⟨oy9, y9⟩ : ∃ v, wr.cell? ⟨w.heap.size + 1, 9, none⟩ = some v := ⟨_, HJ.out.1.best.cell (i := 9) (by omega)⟩
            have yf0 := HJ.out.1.best.frozen 0
            have yf1 := HJ.out.1.best.frozen 1
            have yf2 := HJ.out.1.best.frozen 2
            have yf3 := HJ.out.1.best.frozen 3
            have yf4 := HJ.out.1.best.frozen 4
            have yf5 := HJ.out.1.best.frozen 5
            have yf6 := HJ.out.1.best.frozen 6
            have yf7 := HJ.out.1.best.frozen 7
            have yf8 := HJ.out.1.best.frozen 8
            have yf9 := HJ.out.1.best.frozen 9
            have HN : Hid (∀ j, bestV F o n (c + 1) j = tv F o n c i j) := fun j => by
              rw [HP.out]
              refine bestV_new HOK.out (fun h => ?_) j
              rw [HCL.out]
              exact HJ.out.2.2 h (by rw [HP.out]; exact Nat.two_pow_pos c)
            go_wp2
            refine ⟨⟨c + 1, true, by omega, by go_num, rfl, by simp, fun _ => trivial, ?_⟩, by simp [intOf]; omega⟩
            exact ⟨(set10_row HJ.out.1.best (tv F o n c i)).congr fun j _ => (HN.out j).symm, set10_other HJ.out.1.out (by omega) (tv F o n c i), set10_other HJ.out.1.folds (by omega) (tv F o n c i), set10_below HJ.out.1.below (by omega) (tv F o n c i)⟩
      · have hc1 : 0 < c := by
          rcases Nat.eq_zero_or_pos c with h | h
          · subst h; exact absurd (okC_zero hon) hok
          · exact h
        have hokf : cutB n o c = false := by have h : okC n o c = false := by simpa using hok
                                             exact h
        rw [hokf] at HPC
        have HBE : Hid (∀ j, bestV F o n c j = .int .i64 (pvI F o n (bestC F o n 3) j)) := fun j => by
          unfold bestV
          rw [if_neg (by omega), bestC_stop F o n (c := c - 1) (d := 3) (by rw [Nat.sub_add_cancel hc1]; exact hokf) (by omega)]
        have z0 := HI.out.2.2.best.cell (i := 0) (by omega)
        have z1 := HI.out.2.2.best.cell (i := 1) (by omega)
        have z2 := HI.out.2.2.best.cell (i := 2) (by omega)
        have z3 := HI.out.2.2.best.cell (i := 3) (by omega)
        have z4 := HI.out.2.2.best.cell (i := 4) (by omega)
        have z5 := HI.out.2.2.best.cell (i := 5) (by omega)
        have z6 := HI.out.2.2.best.cell (i := 6) (by omega)
        have z7 := HI.out.2.2.best.cell (i := 7) (by omega)
        have z8 := HI.out.2.2.best.cell (i := 8) (by omega)
        have z9 := HI.out.2.2.best.cell (i := 9) (by omega)
        have zf0 := HI.out.2.2.out.frozen 0
        have zf1 := HI.out.2.2.out.frozen 1
        have zf2 := HI.out.2.2.out.frozen 2
        have zf3 := HI.out.2.2.out.frozen 3
        have zf4 := HI.out.2.2.out.frozen 4
        have zf5 := HI.out.2.2.out.frozen 5
        have zf6 := HI.out.2.2.out.frozen 6
        have zf7 := HI.out.2.2.out.frozen 7
        have zf8 := HI.out.2.2.out.frozen 8
        have zf9 := HI.out.2.2.out.frozen 9
        obtain ⟨ou0, u0⟩ : ∃ v, wr.cell? ⟨w.heap.size, 0, none⟩ = some v := ⟨_, HI.out.2.2.out.cell (i := 0) (by omega)⟩
        obtain ⟨ou1, u1⟩ : ∃ v, wr.cell? ⟨w.heap.size, 1, none⟩ = some v := ⟨_, HI.out.2.2.out.cell (i := 1) (by omega)⟩
        obtain ⟨ou2, u2⟩ : ∃ v, wr.cell? ⟨w.heap.size, 2, none⟩ = some v := ⟨_, HI.out.2.2.out.cell (i := 2) (by omega)⟩
        obtain ⟨ou3, u3⟩ : ∃ v, wr.cell? ⟨w.heap.size, 3, none⟩ = some v := ⟨_, HI.out.2.2.out.cell (i := 3) (by omega)⟩
        obtain ⟨ou4, u4⟩ : ∃ v, wr.cell? ⟨w.heap.size, 4, none⟩ = some v := ⟨_, HI.out.2.2.out.cell (i := 4) (by omega)⟩
        obtain ⟨ou5, u5⟩ : ∃ v, wr.cell? ⟨w.heap.size, 5, none⟩ = some v := ⟨_, HI.out.2.2.out.cell (i := 5) (by omega)⟩
        obtain ⟨ou6, u6⟩ : ∃ v, wr.cell? ⟨w.heap.size, 6, none⟩ = some v := ⟨_, HI.out.2.2.out.cell (i := 6) (by omega)⟩
        obtain ⟨ou7, u7⟩ : ∃ v, wr.cell? ⟨w.heap.size, 7, none⟩ = some v := ⟨_, HI.out.2.2.out.cell (i := 7) (by omega)⟩
        obtain ⟨ou8, u8⟩ : ∃ v, wr.cell? ⟨w.heap.size, 8, none⟩ = some v := ⟨_, HI.out.2.2.out.cell (i := 8) (by omega)⟩
        obtain ⟨ou9, u9⟩ : ∃ v, wr.cell? ⟨w.heap.size, 9, none⟩ = some v := ⟨_, HI.out.2.2.out.cell (i := 9) (by omega)⟩
        rw [HBE.out] at z0 z1 z2 z3 z4 z5 z6 z7 z8 z9
        go_wp2_with (go_at_call 223; refine (HPC.out _).mono ?_; rintro e w1 ⟨rfl, hw⟩; subst w1; clear HPC)
        try simp only [Exit.noGoto]
        refine bodyPost_ret (v := .agg #[.int .i64 (pvI F o n (bestC F o n 3) 0), .int .i64 (pvI F o n (bestC F o n 3) 1), .int .i64 (pvI F o n (bestC F o n 3) 2), .int .i64 (pvI F o n (bestC F o n 3) 3), .int .i64 (pvI F o n (bestC F o n 3) 4), .int .i64 (pvI F o n (bestC F o n 3) 5), .int .i64 (pvI F o n (bestC F o n 3) 6), .int .i64 (pvI F o n (bestC F o n 3) 7), .int .i64 (pvI F o n (bestC F o n 3) 8), .int .i64 (pvI F o n (bestC F o n 3) 9)]) (by simp [results, Tryz.results217, go_sem, u0, u1, u2, u3, u4, u5, u6, u7, u8, u9]) rfl ⟨rfl, set10_below HI.out.2.2.below (Nat.le_refl _) (fun j => .int .i64 (pvI F o n (bestC F o n 3) j))⟩
    · have e : c = 4 := by omega
      subst e
      have HBE : Hid (∀ j, bestV F o n 4 j = .int .i64 (pvI F o n (bestC F o n 3) j)) := fun j => rfl
      have z0 := HI.out.2.2.best.cell (i := 0) (by omega)
      have z1 := HI.out.2.2.best.cell (i := 1) (by omega)
      have z2 := HI.out.2.2.best.cell (i := 2) (by omega)
      have z3 := HI.out.2.2.best.cell (i := 3) (by omega)
      have z4 := HI.out.2.2.best.cell (i := 4) (by omega)
      have z5 := HI.out.2.2.best.cell (i := 5) (by omega)
      have z6 := HI.out.2.2.best.cell (i := 6) (by omega)
      have z7 := HI.out.2.2.best.cell (i := 7) (by omega)
      have z8 := HI.out.2.2.best.cell (i := 8) (by omega)
      have z9 := HI.out.2.2.best.cell (i := 9) (by omega)
      have zf0 := HI.out.2.2.out.frozen 0
      have zf1 := HI.out.2.2.out.frozen 1
      have zf2 := HI.out.2.2.out.frozen 2
      have zf3 := HI.out.2.2.out.frozen 3
      have zf4 := HI.out.2.2.out.frozen 4
      have zf5 := HI.out.2.2.out.frozen 5
      have zf6 := HI.out.2.2.out.frozen 6
      have zf7 := HI.out.2.2.out.frozen 7
      have zf8 := HI.out.2.2.out.frozen 8
      have zf9 := HI.out.2.2.out.frozen 9
      obtain ⟨ou0, u0⟩ : ∃ v, wr.cell? ⟨w.heap.size, 0, none⟩ = some v := ⟨_, HI.out.2.2.out.cell (i := 0) (by omega)⟩
      obtain ⟨ou1, u1⟩ : ∃ v, wr.cell? ⟨w.heap.size, 1, none⟩ = some v := ⟨_, HI.out.2.2.out.cell (i := 1) (by omega)⟩
      obtain ⟨ou2, u2⟩ : ∃ v, wr.cell? ⟨w.heap.size, 2, none⟩ = some v := ⟨_, HI.out.2.2.out.cell (i := 2) (by omega)⟩
      obtain ⟨ou3, u3⟩ : ∃ v, wr.cell? ⟨w.heap.size, 3, none⟩ = some v := ⟨_, HI.out.2.2.out.cell (i := 3) (by omega)⟩
      obtain ⟨ou4, u4⟩ : ∃ v, wr.cell? ⟨w.heap.size, 4, none⟩ = some v := ⟨_, HI.out.2.2.out.cell (i := 4) (by omega)⟩
      obtain ⟨ou5, u5⟩ : ∃ v, wr.cell? ⟨w.heap.size, 5, none⟩ = some v := ⟨_, HI.out.2.2.out.cell (i := 5) (by omega)⟩
      obtain ⟨ou6, u6⟩ : ∃ v, wr.cell? ⟨w.heap.size, 6, none⟩ = some v := ⟨_, HI.out.2.2.out.cell (i := 6) (by omega)⟩
      obtain ⟨ou7, u7⟩ : ∃ v, wr.cell? ⟨w.heap.size, 7, none⟩ = some v := ⟨_, HI.out.2.2.out.cell (i := 7) (by omega)⟩
      obtain ⟨ou8, u8⟩ : ∃ v, wr.cell? ⟨w.heap.size, 8, none⟩ = some v := ⟨_, HI.out.2.2.out.cell (i := 8) (by omega)⟩
      obtain ⟨ou9, u9⟩ : ∃ v, wr.cell? ⟨w.heap.size, 9, none⟩ = some v := ⟨_, HI.out.2.2.out.cell (i := 9) (by omega)⟩
      rw [HBE.out] at z0 z1 z2 z3 z4 z5 z6 z7 z8 z9
      go_wp2
      try simp only [Exit.noGoto]
      refine bodyPost_ret (v := .agg #[.int .i64 (pvI F o n (bestC F o n 3) 0), .int .i64 (pvI F o n (bestC F o n 3) 1), .int .i64 (pvI F o n (bestC F o n 3) 2), .int .i64 (pvI F o n (bestC F o n 3) 3), .int .i64 (pvI F o n (bestC F o n 3) 4), .int .i64 (pvI F o n (bestC F o n 3) 5), .int .i64 (pvI F o n (bestC F o n 3) 6), .int .i64 (pvI F o n (bestC F o n 3) 7), .int .i64 (pvI F o n (bestC F o n 3) 8), .int .i64 (pvI F o n (bestC F o n 3) 9)]) (by simp [results, Tryz.results217, go_sem, u0, u1, u2, u3, u4, u5, u6, u7, u8, u9]) rfl ⟨rfl, set10_below HI.out.2.2.below (Nat.le_refl _) (fun j => .int .i64 (pvI F o n (bestC F o n 3) j))⟩
end Go.Proofs.YtlncjgnomhpjnaaGreatDoor

/-
  A whole variable out of its block, and into it, in one step of a walk.
-/
namespace Go.Proofs.YtlncjgnomhpjnaaGreatDoor
open Go.RowKit

theorem wpList_loadRow {P : Program} {w : World} {ops : Array Oper} {rest : List Oper} {o : Oper} {a : Act} {Q : Exit → Act → World → Prop} (hgd : o.guard = none) (p : Operand) (t : TypeId) (ho : o.op = .load t p)
    (g : Nat) (tt : TypeId) (cs : Array Value) (fr : Nat × Nat) (d : TypeDesc) (hp : a.eval p = .pointer (some ⟨g, 0, none⟩)) (hg : w.heap[g]? = some (.cells cs tt fr)) (hu : P.underlying t = some d)
    (hd : (match d with | .struct _ | .array _ _ => true | _ => false) = true) (hi : (P.info? t).map (·.size) = some cs.size) (h : wpList P ops Q rest (a.put o.dst (.agg cs)) w) : wpList P ops Q (o :: rest) a w := by
  have hr := run_loadVar_row (P := P) w g tt t cs fr d hg hu hd hi
  refine wpList_plain hgd fun _ hK => ?_
  unfold Oper.wp execOp
  have e : (Instr.loadAt t (.pointer (some ⟨g, 0, none⟩))).run P w = .ok (.agg cs) w := by simpa [Instr.loadAt, Instr.sureAddr, asAddr] using hr
  simp only [ho, hp, Sem.run_bind, e, Result.andThen, Sem.run_pure]
  rw [Oper.upon_value]
  exact hK _ _ h
theorem wpList_storeRow {P : Program} {w : World} {ops : Array Oper} {rest : List Oper} {o : Oper} {a : Act} {Q : Exit → Act → World → Prop} (hgd : o.guard = none) (p v : Operand) (t : TypeId) (ho : o.op = .store t p v)
    (g : Nat) (tt : TypeId) (old cells : Array Value) (hp : a.eval p = .pointer (some ⟨g, 0, none⟩)) (hv : a.eval v = .agg cells) (hg : w.heap[g]? = some (.cells old tt (0, 0))) (hi : (P.info? t).map (·.size) = some cells.size)
    (hs : old.size = cells.size) (h1 : cells.toList.all (·.oneCell') = true) (h : wpList P ops Q rest (a.put o.dst undef) (w.setRow g cells)) : wpList P ops Q (o :: rest) a w := by
  have hr := run_storeVar_row (P := P) w g tt t old cells hg hi hs (by rw [← Array.all_toList]; exact h1)
  refine wpList_plain hgd fun _ hK => ?_
  unfold Oper.wp execOp
  have e : (Instr.storeAt t (.pointer (some ⟨g, 0, none⟩)) (.agg cells)).run P w = .ok () (w.setRow g cells) := by simpa [Instr.storeAt, Instr.sureAddr, asAddr] using hr
  simp only [ho, hp, hv, Sem.run_bind, e, Result.andThen, Sem.run_pure]
  rw [Oper.upon_skip]
  exact hK _ _ h
end Go.Proofs.YtlncjgnomhpjnaaGreatDoor

