/-
  The document's packer: a subframe, Code.
-/
import Derived.Test.YtlncjgnomhpjnaaDoorRefLay2
import Derived.Test.YtlncjgnomhpjnaaDoorLayTop2
namespace Go.Proofs.YtlncjgnomhpjnaaDoor
open Go.RowKit Go.Deep
set_option linter.unusedVariables false

/-- can a kind tell it? -/
def okK (kind : Nat) (x : Nat → Int) (n : Nat) : Bool := if kind = 0 then allSame x n else if kind = 1 then true else okG kind x n
theorem rlay_any (kind g n W : Nat) (x : Nat → Int) (w : World) (h7 : kind ≤ 7) (hn1 : 1 ≤ n) (hn : n ≤ 32) (hW : W ≤ 13) (hS : RS w g n W x) (hT : TabAt w 3) (hTl : 3 < w.heap.size) :
    Calls Tryd.prog 47 #[.int .i64 kind, .int .i64 W, .slice (some ⟨g, 0, none⟩) n n] w fun e w' => e = .returned (.string (if okK kind x n then bs (bodyT kind W x n) else ⟨#[]⟩)) ∧ Below w.heap.size w w' := by
  unfold okK bodyT
  by_cases h0 : kind = 0
  · subst h0
    exact rlay_zero g n W x w hn1 hn hW hS
  · rw [if_neg h0, if_neg h0]
    by_cases h1 : kind = 1
    · subst h1
      exact rlay_plain g n W x w hn hW hS
    · rw [if_neg h1, if_neg h1]
      have h2 : 2 ≤ kind := by omega
      by_cases hon : ord kind < n
      · by_cases hk : kind = 7
        · by_cases hD : 0 < leanD x n
          · rw [if_pos (by simp [okG, hon, hD])]
            exact rlay_seven kind g n W x w hk hn hW hon hD hS hT hTl
          · rw [if_neg (by simp [okG, hk, hD])]
            exact rlay_no7 kind g n W x w hk hn hW hon hD hS
        · rw [if_pos (by simp [okG, hon, hk])]
          exact rlay_fixed kind g n W x w h2 (by omega) hn hW hon hS hT hTl
      · rw [if_neg (by simp [okG, hon])]
        exact rlay_short kind g n W x w h2 h7 hon

/-- the best kind of the first k -/
def bestT (s W : Nat) (x : Nat → Int) (n : Nat) : Nat → ByteArray
  | 0 => ⟨#[]⟩
  | k + 1 => if (k = 0 ∧ allSame x n = false) then ⟨#[]⟩ else bs (binT (bestK W x n (k - 1)) 4 ++ (binT s 4 ++ bodyT (bestK W x n (k - 1)) W x n))
theorem bestT_succ (s W : Nat) (x : Nat → Int) (n k : Nat) : bestT s W x n (k + 1) = if (k = 0 ∧ allSame x n = false) then ⟨#[]⟩ else bs (binT (bestK W x n (k - 1)) 4 ++ (binT s 4 ++ bodyT (bestK W x n (k - 1)) W x n)) := rfl
theorem okK_ge (k : Nat) (x : Nat → Int) (n : Nat) : okK (k + 2) x n = okG (k + 2) x n := by unfold okK; rw [if_neg (by omega), if_neg (by omega)]
theorem bestT_two (s W : Nat) (x : Nat → Int) (n k : Nat) : bestT s W x n (k + 2) = bs (binT (bestK W x n k) 4 ++ (binT s 4 ++ bodyT (bestK W x n k) W x n)) := by
  rw [show k + 2 = (k + 1) + 1 from rfl, bestT_succ, if_neg (by omega), Nat.add_sub_cancel]
theorem bestT_two_size (s W : Nat) (x : Nat → Int) (n k : Nat) : (bestT s W x n (k + 2)).size = 8 + bodyL (bestK W x n k) W x n := by
  rw [bestT_two, bs_size, List.length_append, List.length_append, binT_length, binT_length, bodyT_length]; omega
theorem bestT_no (s W : Nat) (x : Nat → Int) (n : Nat) : ∀ k, okK k x n = false → bestT s W x n (k + 1) = bestT s W x n k
  | 0, h => by
    have h' : allSame x n = false := h
    rw [bestT_succ, if_pos ⟨rfl, h'⟩]; rfl
  | 1, h => by cases h
  | k + 2, h => by
    rw [okK_ge] at h
    rw [show k + 2 + 1 = (k + 1) + 2 by omega, bestT_two, bestT_two, show bestK W x n (k + 1) = bestK W x n k from if_neg (by rw [h]; simp)]
theorem bestT_new (s W : Nat) (x : Nat → Int) (n : Nat) (hn1 : 1 ≤ n) : ∀ k, okK k x n = true → (bestT s W x n k = ⟨#[]⟩ ∨ bodyL k W x n + 8 < (bestT s W x n k).size) → bestT s W x n (k + 1) = bs (binT k 4 ++ (binT s 4 ++ bodyT k W x n))
  | 0, h, _ => by
    have h' : allSame x n = true := h
    rw [bestT_succ, if_neg (by rw [h']; simp), show bestK W x n (0 - 1) = 0 from by unfold bestK; rw [h']; rfl]
  | 1, h, hc => by
    cases ha : allSame x n with
    | false => rw [show (1 + 1) = 0 + 2 from rfl, bestT_two, show bestK W x n 0 = 1 from by unfold bestK; rw [ha]; rfl]
    | true =>
      exfalso
      have e : bestT s W x n 1 = bs (binT 0 4 ++ (binT s 4 ++ bodyT 0 W x n)) := by
        rw [show (1 : Nat) = 0 + 1 from rfl, bestT_succ, if_neg (by rw [ha]; simp), show bestK W x n (0 - 1) = 0 from by unfold bestK; rw [ha]; rfl]; rfl
      rw [e] at hc
      rcases hc with hc | hc
      · exact bs_ne (by rw [List.length_append, binT_length]; omega) hc
      · rw [bs_size, List.length_append, List.length_append, binT_length, binT_length, bodyT_length] at hc
        have h0 : bodyL 0 W x n = W := rfl
        have h1 : bodyL 1 W x n = n * W := rfl
        have h2 : 1 * W ≤ n * W := Nat.mul_le_mul_right _ hn1
        omega
  | k + 2, h, hc => by
    rw [okK_ge] at h
    have hlt : bodyL (k + 2) W x n < bodyL (bestK W x n k) W x n := by
      rcases hc with hc | hc
      · rw [bestT_two] at hc
        exact absurd hc (bs_ne (by rw [List.length_append, binT_length]; omega))
      · rw [bestT_two_size] at hc; omega
    rw [show k + 2 + 1 = (k + 1) + 2 by omega, bestT_two, show bestK W x n (k + 1) = k + 2 from if_pos ⟨h, hlt⟩]
theorem bestT_old (s W : Nat) (x : Nat → Int) (n : Nat) (hn1 : 1 ≤ n) : ∀ k, okK k x n = true → ¬ bestT s W x n k = ⟨#[]⟩ → ¬ bodyL k W x n + 8 < (bestT s W x n k).size → bestT s W x n (k + 1) = bestT s W x n k
  | 0, _, hne, _ => absurd rfl hne
  | 1, h, hne, _ => by
    cases ha : allSame x n with
    | false =>
      exfalso; apply hne
      rw [show (1 : Nat) = 0 + 1 from rfl, bestT_succ, if_pos ⟨rfl, ha⟩]
    | true =>
      rw [show (1 + 1) = 0 + 2 from rfl, bestT_two, show bestK W x n 0 = 0 from by unfold bestK; rw [ha]; rfl]
      rw [bestT_succ, if_neg (by rw [ha]; simp), show bestK W x n (0 - 1) = 0 from by unfold bestK; rw [ha]; rfl]
  | k + 2, h, _, hge => by
    rw [okK_ge] at h
    rw [bestT_two_size] at hge
    rw [show k + 2 + 1 = (k + 1) + 2 by omega, bestT_two, bestT_two, show bestK W x n (k + 1) = bestK W x n k from if_neg (fun hh => by have := hh.2; omega)]
theorem bestT_ne_size (s W : Nat) (x : Nat → Int) (n k : Nat) : bestT s W x n k = ⟨#[]⟩ ∨ 1 ≤ (bestT s W x n k).size := by
  cases k with
  | zero => exact .inl rfl
  | succ k =>
    rw [bestT_succ]
    by_cases h : (k = 0 ∧ allSame x n = false)
    · left; rw [if_pos h]
    · right
      rw [if_neg h, bs_size, List.length_append, binT_length]; omega
theorem allDiv_succ (l : Nat → Int) (n k : Nat) : allDiv l (n + 1) k = (allDiv l n k && decide (l n % 2 ^ k = 0)) := by simp [allDiv, List.range_succ]
theorem anyNz_succ (l : Nat → Int) (n : Nat) : anyNz l (n + 1) = (anyNz l n || decide (l n ≠ 0)) := by simp [anyNz, List.range_succ]
theorem short_lo (l : Nat → Int) (n width j : Nat) (hw1 : 1 ≤ width) (hj : fitsB width (l j) = true) : -(2 ^ (width - shiftN l n width)) ≤ shortX l n width j := by
  unfold fitsB at hj
  rw [within_iff] at hj
  have hs : shiftN l n width ≤ width - 1 := shiftT_le _ _ _
  unfold shortX
  rw [Int.le_ediv_iff_mul_le (ip2_pos _)]
  have e : (2 : Int) ^ (width - shiftN l n width) * 2 ^ shiftN l n width = 2 ^ width := by rw [← Int.pow_add]; congr 1; omega
  have e2 : (2 : Int) ^ width = 2 * 2 ^ (width - 1) := by
    obtain ⟨m, rfl⟩ : ∃ m, width = m + 1 := ⟨width - 1, by omega⟩
    rw [Int.pow_succ]; simp [Int.mul_comm]
  have hp := ip2_pos (width - 1)
  rw [Int.neg_mul, e, e2]; omega
end Go.Proofs.YtlncjgnomhpjnaaDoor
