/-
  Plain mathematics for 'Tight': a subframe is read back.
-/
import Derived.Test.YtlncjgnomhpjnaaDoorTightRests
import Derived.Test.YtlncjgnomhpjnaaDoorCodeShift
namespace Go.Proofs.YtlncjgnomhpjnaaDoor
set_option linter.unusedVariables false

theorem nums_at {b : Nat → Bool} {p w : Nat} {x : Nat → Int} : ∀ {m j : Nat}, SaysT b p (numsT x w m) → j < m → SaysT b (posn p w j) (binT (x j) w)
  | 0, j, _, hj => absurd hj (Nat.not_lt_zero j)
  | m + 1, j, h, hj => by
    simp only [numsT] at h
    by_cases e : j = m
    · subst e
      have := h.right
      rw [numsT_length] at this
      exact this
    · exact nums_at h.left (by omega)
theorem bestK_zero (w : Nat) (x : Nat → Int) (n : Nat) : ∀ j, bestK w x n j = 0 → allSame x n = true
  | 0, h => by
    unfold bestK at h
    cases e : allSame x n with
    | true => rfl
    | false => rw [e] at h; simp at h
  | j + 1, h => by
    unfold bestK at h
    split at h
    · omega
    · exact bestK_zero w x n j h
theorem short_mul (l : Nat → Int) (n width j : Nat) (hj : j < n) : shortX l n width j * 2 ^ shiftN l n width = l j :=
  Int.ediv_mul_cancel (Int.dvd_of_emod_eq_zero (shiftT_div l n (width - 1) j hj))
theorem short_fits (l : Nat → Int) (n width j : Nat) (hw1 : 1 ≤ width) (hj : j < n) (hf : fitsB width (l j) = true) : fitsB (width - shiftN l n width) (shortX l n width j) = true := by
  have hs : shiftN l n width ≤ width - 1 := shiftT_le _ _ _
  have hm := short_mul l n width j hj
  unfold fitsB at hf ⊢
  rw [within_iff] at hf ⊢
  generalize shortX l n width j = x at *
  generalize shiftN l n width = s at *
  have e : (2 : Int) ^ (width - 1) = 2 ^ (width - s - 1) * 2 ^ s := by rw [← Int.pow_add]; congr 1; omega
  have hp := ip2_pos s
  rw [e, ← hm] at hf
  generalize (2 : Int) ^ (width - s - 1) = q at *
  generalize (2 : Int) ^ s = r at *
  constructor
  · have h1 : -q * r ≤ x * r := by rw [Int.neg_mul]; exact hf.1
    exact Int.le_of_mul_le_mul_right h1 hp
  · have h1 : x * r < q * r := by omega
    have := Int.lt_of_mul_lt_mul_right h1 (Int.le_of_lt hp)
    omega

theorem body_back {b : Nat → Bool} {N kind W n p : Nat} {x : Nat → Int} (h7 : kind ≤ 7) (hn1 : 1 ≤ n) (hW1 : 1 ≤ W) (hW : W ≤ 13) (hfit : ∀ j, j < n → fitsB W (x j) = true) (h0 : kind = 0 → allSame x n = true) (hok : 2 ≤ kind → okG kind x n = true)
    (hT : SaysT b p (bodyT kind W x n)) (hL : p + bodyL kind W x n ≤ N) : ∃ r, bodySt b N kind W n p = some r ∧ r.2 = p + bodyL kind W x n ∧ ∀ j, j < n → r.1 j = x j := by
  unfold bodySt
  unfold bodyT at hT
  unfold bodyL at hL ⊢
  by_cases k0 : kind = 0
  · rw [if_pos k0] at hT hL ⊢
    rw [if_pos k0, if_pos hL]
    refine ⟨_, rfl, rfl, fun j hj => ?_⟩
    show sgn b p W = x j
    rw [sgn_bin hT hW1 (hfit 0 (by omega)), (allSame_iff x n).1 (h0 k0) j hj]
  · rw [if_neg k0] at hT hL ⊢
    rw [if_neg k0]
    by_cases k1 : kind = 1
    · rw [if_pos k1] at hT hL ⊢
      rw [if_pos k1, if_pos (show posn p W n ≤ N from hL)]
      exact ⟨_, rfl, rfl, fun j hj => sgn_bin (nums_at hT hj) hW1 (hfit j hj)⟩
    · rw [if_neg k1] at hT hL ⊢
      have h2 : 2 ≤ kind := by omega
      have hg := hok h2
      have hon : ord kind < n := by unfold okG at hg; rw [Bool.and_eq_true, decide_eq_true_eq] at hg; exact hg.1
      rw [if_neg k1, if_neg (by omega)]
      unfold gT at hT
      unfold gL at hL ⊢
      have hx := hT.left
      have hr := hT.right
      rw [numsT_length] at hr
      rw [if_pos (show posn p W (ord kind) ≤ N by unfold posn; omega)]
      have hxs : ∀ j, j < ord kind → sgn b (posn p W j) W = x j := fun j hj => sgn_bin (nums_at hx hj) hW1 (hfit j (by omega))
      have hbc := bestC_le (fR kind x n) (ord kind) n 3
      have hcok := bestC_ok (fR kind x n) (ord kind) n hon 3
      have key : ∀ (a c : Int) (p2 : Nat), a = wA kind x n → c = wB kind x n → SaysT b p2 (cutT (fR kind x n) (ord kind) n (bC kind x n)) → p2 + cutL (fR kind x n) (ord kind) n (bC kind x n) ≤ N →
          ∃ st, restsSt b N W kind a c n p2 (fun i => sgn b (posn p W i) W) = some st ∧ st.p = p2 + cutL (fR kind x n) (ord kind) n (bC kind x n) ∧ ∀ j, j < n → st.x j = x j := by
        intro a c p2 ha hc hcut hcl
        unfold cutT at hcut
        unfold cutL at hcl ⊢
        have hb2 := hcut.left
        have hpt := hcut.right
        rw [binT_length] at hpt
        have hnum : num b p2 2 = bC kind x n := num_binN hb2 (show bestC (fR kind x n) (ord kind) n 3 < 2 ^ 2 from Nat.lt_of_le_of_lt hbc (by decide))
        have hcf := cut_facts (show cutB n (ord kind) (bC kind x n) = true from hcok)
        unfold restsSt
        rw [hnum, if_pos ⟨by omega, hcok⟩]
        have hJs : (theJob b N W kind a c n p2).size = n / 2 ^ bC kind x n := by show n / 2 ^ num b p2 2 = _; rw [hnum]
        obtain ⟨st, hst, hat⟩ := rests_back (theJob b N W kind a c n p2) x n (2 ^ bC kind x n) (p2 + 2) (fR kind x n) ⟨p2 + 2, 0, fun i => sgn b (posn p W i) W⟩ ⟨rfl, hxs⟩
          (by rw [hJs]; exact hcf.1.symm) (by rw [hJs]; exact hcf.2) hfit (fun i => by show fR kind x n i = foldN (x i - guessG kind a c x i); rw [ha, hc]; rfl) (by rw [hJs]; exact hpt) (by rw [hJs]; show _ ≤ N; simp only [theJob]; omega) (2 ^ bC kind x n) (Nat.le_refl _)
        rw [hJs] at hst hat
        have e : 2 ^ bC kind x n * (n / 2 ^ bC kind x n) = n := by rw [Nat.mul_comm]; exact hcf.1
        rw [e] at hst hat
        exact ⟨st, hst, by rw [hat.p]; simp only [theJob]; omega, fun j hj => hat.x j (by simp only [theJob]; omega)⟩
      by_cases k7 : kind = 7
      · rw [if_pos k7] at hr hL ⊢
        rw [if_pos k7, if_pos (by unfold posn; omega)]
        have ha := hr.left.left
        have hb := hr.left.right
        have hc := hr.right
        rw [binT_length] at hb
        rw [List.length_append, binT_length, binT_length] at hc
        have hab := clamp_bd (8 * lag x 1 n * (lag x 0 n - lag x 2 n) / leanD x n)
        have hbb := clamp_bd (8 * (lag x 0 n * lag x 2 n - lag x 1 n * lag x 1 n) / leanD x n)
        have fa : fitsB 6 (leanA x n) = true := by unfold fitsB leanA; rw [within_iff]; omega
        have fb : fitsB 6 (leanB x n) = true := by unfold fitsB leanB; rw [within_iff]; omega
        obtain ⟨st, hst, hp, hxx⟩ := key (sgn b (posn p W (ord kind)) 6) (sgn b (posn p W (ord kind) + 6) 6) (posn p W (ord kind) + 12)
          (by rw [show wA kind x n = leanA x n from if_pos k7]; exact sgn_bin ha (by omega) fa) (by rw [show wB kind x n = leanB x n from if_pos k7]; exact sgn_bin hb (by omega) fb) hc (by unfold posn; omega)
        rw [hst]
        exact ⟨_, rfl, by show st.p = _; rw [hp]; unfold posn; omega, hxx⟩
      · rw [if_neg k7] at hr hL ⊢
        rw [if_neg k7]
        rw [List.nil_append] at hr
        obtain ⟨st, hst, hp, hxx⟩ := key 0 0 (posn p W (ord kind)) (if_neg k7).symm (if_neg k7).symm hr (by unfold posn; omega)
        rw [hst]
        exact ⟨_, rfl, by show st.p = _; rw [hp]; unfold posn; omega, hxx⟩

theorem subT_length (width : Nat) (l : Nat → Int) (n : Nat) : (subT width l n).length = 8 + bodyL (subKind width l n) (width - shiftN l n width) (shortX l n width) n := by
  unfold subT
  rw [List.length_append, List.length_append, binT_length, binT_length, bodyT_length]; omega
/-- a subframe is read as its samples, whatever stands behind it -/
theorem sub_back {b : Nat → Bool} {N width n : Nat} {l : Nat → Int} (hn1 : 1 ≤ n) (hw1 : 1 ≤ width) (hw : width ≤ 13) (hfit : ∀ j, j < n → fitsB width (l j) = true) (hT : SaysT b 0 (subT width l n)) (hL : (subT width l n).length ≤ N) :
    ∃ r, readSt b N width n = some r ∧ r.2 = (subT width l n).length ∧ ∀ j, j < n → r.1 j = l j := by
  have hs : shiftN l n width ≤ width - 1 := shiftT_le _ _ _
  have hk := bestK_le (width - shiftN l n width) (shortX l n width) n 6
  rw [subT_length] at hL ⊢
  unfold subT at hT
  have t1 := hT.left
  have t2 := hT.right.left
  have t3 := hT.right.right
  rw [binT_length] at t2 t3
  rw [binT_length] at t3
  have e1 : num b 0 4 = subKind width l n := num_binN t1 (Nat.lt_of_le_of_lt hk (by decide))
  have e2 : num b 4 4 = shiftN l n width := num_binN t2 (by omega)
  obtain ⟨r, h1, h2, h3⟩ := body_back (b := b) (N := N) (kind := subKind width l n) (W := width - shiftN l n width) (n := n) (p := 8) (x := shortX l n width) hk hn1 (by omega) (by omega) (fun j hj => short_fits l n width j hw1 hj (hfit j hj)) (fun h => bestK_zero _ _ _ _ h) (fun h => bestK_ok _ _ _ _ h) t3 hL
  unfold readSt
  rw [e1, e2, if_pos ⟨by omega, by omega⟩, h1]
  exact ⟨_, rfl, h2, fun j hj => by show r.1 j * 2 ^ _ = l j; rw [h3 j hj]; exact short_mul l n width j hj⟩
/-- and it is no longer than the samples, each in its width -/
theorem bestK_plain (w : Nat) (x : Nat → Int) (n : Nat) (hn1 : 1 ≤ n) : ∀ j, bodyL (bestK w x n j) w x n ≤ n * w
  | 0 => by
    unfold bestK
    split
    · show w ≤ n * w
      exact Nat.le_mul_of_pos_left _ hn1
    · exact Nat.le_refl _
  | j + 1 => by
    have ih := bestK_plain w x n hn1 j
    unfold bestK
    split
    · rename_i h; omega
    · exact ih
theorem subT_le (width : Nat) (l : Nat → Int) (n : Nat) (hn1 : 1 ≤ n) : (subT width l n).length ≤ 8 + n * width := by
  rw [subT_length]
  have h := bestK_plain (width - shiftN l n width) (shortX l n width) n hn1 6
  have h2 : n * (width - shiftN l n width) ≤ n * width := Nat.mul_le_mul_left _ (by omega)
  unfold subKind
  omega
end Go.Proofs.YtlncjgnomhpjnaaDoor
