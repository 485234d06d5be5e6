/-
  The document's Code.
-/
import Derived.Test.YtlncjgnomhpjnaaDoorRefSub2
namespace Go.Proofs.YtlncjgnomhpjnaaDoor
open Go.RowKit Go.Deep
set_option linter.unusedVariables false

theorem code_no {width : Int} {l : Nat → Int} {n : Nat} (h : codeOk width l n = false) : codeS width l n = ⟨#[]⟩ ∧ codeE width l n = 3 := by
  unfold codeS codeE
  rw [h]; exact ⟨rfl, rfl⟩
theorem code_no' {width : Int} {l : Nat → Int} {n : Nat} (h : ¬ (1 ≤ width ∧ width ≤ 13 ∧ 1 ≤ n ∧ n ≤ 32)) : codeOk width l n = false := by
  cases e : codeOk width l n with
  | false => rfl
  | true =>
    exfalso; apply h
    unfold codeOk at e
    rw [Bool.and_eq_true, Bool.and_eq_true, within_iff, within_iff] at e
    omega

set_option maxHeartbeats 1000000 in
theorem rCode_any (width : Int) (A : Option Addr) (n c : Nat) (l : Nat → Int) (w : World) (hn : n ≤ 17592186044416) (hI : IntsAt w A n l) (hlow : ∀ y, A = some y → 0 < n → y.block < w.heap.size) (hT : TabAt w 3) (hTl : 3 < w.heap.size) :
    Calls Tryd.prog 19 #[.int .i64 width, .slice A n c] w fun e w' => e = .returned (.tuple #[.string (codeS width l n), .int .i64 (codeE width l n)]) ∧ Below w.heap.size w w' := by
  by_cases h1 : width < 1
  · have t1 : decide (width < 1) = true := decide_eq_true h1
    obtain ⟨e1, e2⟩ := code_no (code_no' (width := width) (l := l) (n := n) (by omega))
    rw [e1, e2]
    clear hT hI hlow e1 e2
    go_enter Tryd.func19, Tryd.ntmps19
    go_wp2
    go_ret2
    exact ⟨rfl, Below.refl _ _⟩
  · have t1 : decide (width < 1) = false := decide_eq_false h1
    by_cases h2 : 13 < width
    · have t2 : decide (13 < width) = true := decide_eq_true h2
      obtain ⟨e1, e2⟩ := code_no (code_no' (width := width) (l := l) (n := n) (by omega))
      rw [e1, e2]
      clear hT hI hlow e1 e2
      go_enter Tryd.func19, Tryd.ntmps19
      go_wp2
      go_ret2
      exact ⟨rfl, Below.refl _ _⟩
    · have t2 : decide (13 < width) = false := decide_eq_false h2
      by_cases h3 : n < 1
      · have t3 : decide ((n : Int) < 1) = true := decide_eq_true (by omega)
        obtain ⟨e1, e2⟩ := code_no (code_no' (width := width) (l := l) (n := n) (by omega))
        rw [e1, e2]
        clear hT hI hlow e1 e2
        go_enter Tryd.func19, Tryd.ntmps19
        go_wp2
        go_ret2
        exact ⟨rfl, Below.refl _ _⟩
      · have t3 : decide ((n : Int) < 1) = false := decide_eq_false (by omega)
        by_cases h4 : 32 < n
        · have t4 : decide ((32 : Int) < (n : Int)) = true := decide_eq_true (by omega)
          obtain ⟨e1, e2⟩ := code_no (code_no' (width := width) (l := l) (n := n) (by omega))
          rw [e1, e2]
          clear hT hI hlow e1 e2
          go_enter Tryd.func19, Tryd.ntmps19
          go_wp2
          go_ret2
          exact ⟨rfl, Below.refl _ _⟩
        · have t4 : decide ((32 : Int) < (n : Int)) = false := decide_eq_false (by omega)
          obtain ⟨W, rfl⟩ : ∃ W : Nat, width = W := ⟨width.toNat, by omega⟩
          have HI := Hid.mk' hI
          have hW : 1 ≤ W ∧ W ≤ 13 := by omega
          have hnn : 1 ≤ n ∧ n ≤ 32 := by omega
          have HSUB := Hid.mk' (fun (m : Nat) (hf : ∀ j, j < n → fitsB W (l j) = true) => rsub_any A n c W l (w.drewN m) hnn.1 hnn.2 hW.1 hW.2 hf hI hlow hT hTl)
          have HNO := Hid.mk' (fun (h : allFit W l n = false) => code_no (width := (W : Int)) (l := l) (n := n) (by unfold codeOk; rw [Int.toNat_natCast, h]; simp))
          have HYES : Hid (allFit W l n = true → codeS W l n = bs (subT W l n) ∧ codeE W l n = 0) := fun h => by
            have e : codeOk (W : Int) l n = true := by
              unfold codeOk
              rw [Int.toNat_natCast, h, Bool.and_eq_true, Bool.and_eq_true, within_iff, within_iff]
              exact ⟨⟨by omega, by omega⟩, rfl⟩
            unfold codeS codeE
            rw [e, Int.toNat_natCast]; exact ⟨rfl, rfl⟩
          clear hT hI hlow h1 h2 h3 h4
          go_enter Tryd.func19, Tryd.ntmps19
          go_wp2
          go_loopw [6] (fun iv wr => ∃ j : Nat, j ≤ n ∧ iv = .int .i64 j ∧ Hid (∀ i, i < j → fitsB W (l i) = true) ∧ ∃ m, wr = w.drewN m) (fun iv _ => n - (intOf iv).toNat)
          case atStart => exact ⟨0, by omega, rfl, fun i hi => absurd hi (Nat.not_lt_zero i), 0, rfl⟩
          case round =>
            obtain ⟨j, hj, rfl, HA, m, rfl⟩ := hrel
            by_cases hlt : j < n
            · obtain ⟨bb, off, hx, hc⟩ := HI.out.open (by omega)
              cases hx
              have hcj := hc j hlt
              clear hc
              have HFT := Hid.mk' (fun u => cFits_any W (l j) u hW.1 hW.2)
              cases hf : fitsB W (l j) with
              | false =>
                rw [hf] at HFT
                obtain ⟨e1, e2⟩ := HNO.out (by
                  cases e : allFit W l n with
                  | false => rfl
                  | true => rw [(allFit_iff W l n).1 e j hlt] at hf; cases hf)
                have HE := Hid.mk' (And.intro e1 e2)
                clear hf e1 e2
                go_wp2_with (go_at_call 33; refine (HFT.out _).mono ?_; rintro e w1 ⟨rfl, hw⟩; subst w1; clear HFT)
                go_ret2
                exact ⟨by rw [HE.out.1, HE.out.2]; rfl, below_drewN (Below.refl _ _) _⟩
              | true =>
                rw [hf] at HFT
                have HF := Hid.mk' hf
                clear hf
                go_wp2_with (go_at_call 33; refine (HFT.out _).mono ?_; rintro e w1 ⟨rfl, hw⟩; subst w1; clear HFT)
                go_roundw
                case rel => exact ⟨j + 1, by omega, by go_num, fun i hi => by
                  by_cases e : i = j
                  · subst e; exact HF.out
                  · exact HA.out i (by omega), _, rfl⟩
                case measure => simp [intOf]; omega
            · have e : j = n := by omega
              subst e
              obtain ⟨e1, e2⟩ := HYES.out ((allFit_iff W l j).2 HA.out)
              have HE := Hid.mk' (And.intro e1 e2)
              have HSC := Hid.mk' (HSUB.out m HA.out)
              clear e1 e2
              go_wp2_with (go_at_call 34; refine HSC.out.mono ?_; rintro e w1 ⟨rfl, hb1⟩; have HB1 : Hid (Below w.heap.size w w1) := (⟨hb1.os, hb1.tape, hb1.output, hb1.size, hb1.block⟩ : Below w.heap.size w w1); clear hb1 HSC)
              go_ret2
              exact ⟨by rw [HE.out.1, HE.out.2]; rfl, HB1.out⟩
end Go.Proofs.YtlncjgnomhpjnaaDoor
