/-
  Plain mathematics for 'Codes': the shortest subframe, as a text. No dump is imported.
-/
import Derived.Test.YtlncjgnomhpjnaaDoorReadMath
namespace Go.Proofs.YtlncjgnomhpjnaaDoor

/-- v in k bits -/
def binT (v : Int) (k : Nat) : List UInt8 := (List.range k).map fun i => ltr (decide (v / 2 ^ (k - 1 - i) % 2 = 1))
theorem binT_length (v : Int) (k : Nat) : (binT v k).length = k := by simp [binT]

/-- the fold of a whole number -/
def foldN (v : Int) : Nat := if 0 ≤ v then (2 * v).toNat else (-2 * v - 1).toNat
theorem foldN_int (v : Int) : (foldN v : Int) = if 0 ≤ v then 2 * v else -2 * v - 1 := by
  unfold foldN; split <;> omega
theorem foldN_le (v : Int) (m : Nat) (h : -(m : Int) ≤ v ∧ v ≤ m) : foldN v ≤ 2 * m := by
  have := foldN_int v
  split at this <;> omega

def riceT (f k : Nat) : List UInt8 := List.replicate (f / 2 ^ k) 48 ++ [49] ++ binT f k
def riceL (f k : Nat) : Nat := f / 2 ^ k + 1 + k
theorem riceT_length (f k : Nat) : (riceT f k).length = riceL f k := by simp [riceT, riceL, binT_length]; omega

/-- the Rice codes by k of m folds from place lo on -/
def codedT (f : Nat → Nat) (k lo : Nat) : Nat → List UInt8
  | 0 => []
  | m + 1 => codedT f k lo m ++ riceT (f (lo + m)) k
def plen (f : Nat → Nat) (k lo : Nat) : Nat → Nat
  | 0 => 0
  | m + 1 => plen f k lo m + riceL (f (lo + m)) k
theorem codedT_length (f : Nat → Nat) (k lo : Nat) : ∀ m, (codedT f k lo m).length = plen f k lo m
  | 0 => rfl
  | m + 1 => by simp [codedT, plen, codedT_length f k lo m, riceT_length]
theorem riceL_le (f k M : Nat) (h : f ≤ M) (hk : k ≤ 14) : riceL f k ≤ M + 15 := by
  have : f / 2 ^ k ≤ f := Nat.div_le_self _ _
  unfold riceL; omega
theorem plen_le (f : Nat → Nat) (k lo M : Nat) (hk : k ≤ 14) : ∀ m, (∀ i, i < m → f (lo + i) ≤ M) → plen f k lo m ≤ m * (M + 15)
  | 0, _ => by simp [plen]
  | m + 1, h => by
    have h1 := plen_le f k lo M hk m (fun i hi => h i (by omega))
    have h2 := riceL_le (f (lo + m)) k M (h m (by omega)) hk
    simp only [plen]
    rw [Nat.succ_mul]; omega

/-- the least argument up to K at which g is least -/
def argmin (g : Nat → Nat) : Nat → Nat
  | 0 => 0
  | k + 1 => if g (k + 1) < g (argmin g k) then k + 1 else argmin g k
theorem argmin_le (g : Nat → Nat) : ∀ k, argmin g k ≤ k
  | 0 => Nat.le_refl _
  | k + 1 => by
    have := argmin_le g k
    unfold argmin; split <;> omega

/-- the parameter of m places from lo on -/
def parK (f : Nat → Nat) (lo m : Nat) : Nat := argmin (fun k => plen f k lo m) 14
theorem parK_le (f : Nat → Nat) (lo m : Nat) : parK f lo m ≤ 14 := argmin_le _ _
def ploN (o sz i : Nat) : Nat := max (i * sz) o
def pcnt (o sz i : Nat) : Nat := (i + 1) * sz - ploN o sz i
def parN (f : Nat → Nat) (o sz i : Nat) : Nat := parK f (ploN o sz i) (pcnt o sz i)
/-- the first i parts of a cut into parts of sz places -/
def partsT (f : Nat → Nat) (o sz : Nat) : Nat → List UInt8
  | 0 => []
  | i + 1 => partsT f o sz i ++ (binT (parN f o sz i) 4 ++ codedT f (parN f o sz i) (ploN o sz i) (pcnt o sz i))
def partsL (f : Nat → Nat) (o sz : Nat) : Nat → Nat
  | 0 => 0
  | i + 1 => partsL f o sz i + (4 + plen f (parN f o sz i) (ploN o sz i) (pcnt o sz i))
theorem partsT_length (f : Nat → Nat) (o sz : Nat) : ∀ i, (partsT f o sz i).length = partsL f o sz i
  | 0 => rfl
  | i + 1 => by simp [partsT, partsL, partsT_length f o sz i, codedT_length, binT_length]
theorem partsL_mono (f : Nat → Nat) (o sz : Nat) {i : Nat} : ∀ {j : Nat}, i ≤ j → partsL f o sz i ≤ partsL f o sz j
  | 0, h => by have : i = 0 := by omega
               subst this; exact Nat.le_refl _
  | j + 1, h => by
    by_cases e : i = j + 1
    · subst e; exact Nat.le_refl _
    · have := partsL_mono f o sz (i := i) (j := j) (by omega)
      simp only [partsL]; omega

/-- may n places be cut so? -/
def okC (n o c : Nat) : Bool := decide (n / 2 ^ c * 2 ^ c = n) && decide (o < n / 2 ^ c)
theorem okC_zero {n o : Nat} (h : o < n) : okC n o 0 = true := by simp [okC, h]
theorem okC_succ {n o c : Nat} (h : okC n o (c + 1) = true) : okC n o c = true := by
  simp only [okC, Bool.and_eq_true, decide_eq_true_eq] at h ⊢
  obtain ⟨h1, h2⟩ := h
  have e : n / 2 ^ (c + 1) = n / 2 ^ c / 2 := by rw [Nat.pow_succ, Nat.div_div_eq_div_mul]
  have e2 : 2 ^ (c + 1) = 2 * 2 ^ c := by rw [Nat.pow_succ, Nat.mul_comm]
  refine ⟨?_, ?_⟩
  · have hd : 2 ^ c ∣ n := by
      refine ⟨n / 2 ^ (c + 1) * 2, ?_⟩
      rw [← Nat.mul_assoc, Nat.mul_comm (2 ^ c), Nat.mul_assoc, Nat.mul_comm (2 ^ c) 2, ← e2]; exact h1.symm
    exact Nat.div_mul_cancel hd
  · rw [e] at h2
    have := Nat.div_le_self (n / 2 ^ c) 2
    omega
theorem okC_later {n o c : Nat} (h : okC n o c = false) : ∀ {d : Nat}, c ≤ d → okC n o d = false
  | 0, hd => by have : c = 0 := by omega
                subst this; exact h
  | d + 1, hd => by
    by_cases e : c = d + 1
    · subst e; exact h
    · have := okC_later h (d := d) (by omega)
      cases hx : okC n o (d + 1) with
      | false => rfl
      | true => rw [okC_succ hx] at this; cases this
/-- the bits of a cut -/
def cutL (f : Nat → Nat) (o n c : Nat) : Nat := 2 + partsL f o (n / 2 ^ c) (2 ^ c)
def cutT (f : Nat → Nat) (o n c : Nat) : List UInt8 := binT c 2 ++ partsT f o (n / 2 ^ c) (2 ^ c)
theorem cutT_length (f : Nat → Nat) (o n c : Nat) : (cutT f o n c).length = cutL f o n c := by simp [cutT, cutL, binT_length, partsT_length]
/-- the best cut up to c; cut 0 may be -/
def bestC (f : Nat → Nat) (o n : Nat) : Nat → Nat
  | 0 => 0
  | c + 1 => if okC n o (c + 1) = true ∧ cutL f o n (c + 1) < cutL f o n (bestC f o n c) then c + 1 else bestC f o n c
theorem bestC_le (f : Nat → Nat) (o n : Nat) : ∀ c, bestC f o n c ≤ c
  | 0 => Nat.le_refl _
  | c + 1 => by
    have := bestC_le f o n c
    unfold bestC; split <;> omega
theorem bestC_stop (f : Nat → Nat) (o n : Nat) {c : Nat} (h : okC n o (c + 1) = false) : ∀ {d : Nat}, c ≤ d → bestC f o n d = bestC f o n c
  | 0, hd => by have : c = 0 := by omega
                subst this; rfl
  | d + 1, hd => by
    by_cases e : c = d + 1
    · subst e; rfl
    · have h2 := okC_later h (d := d + 1) (by omega)
      rw [bestC, if_neg (by rw [h2]; simp)]
      exact bestC_stop f o n h (by omega)
theorem bestC_ok (f : Nat → Nat) (o n : Nat) (h : o < n) : ∀ c, okC n o (bestC f o n c) = true
  | 0 => okC_zero h
  | c + 1 => by
    unfold bestC; split
    · rename_i hh; exact hh.1
    · exact bestC_ok f o n h c

/-- the sum of each number times the one k before it, up to place m -/
def lag (x : Nat → Int) (k : Nat) : Nat → Int
  | 0 => 0
  | m + 1 => lag x k m + (if k ≤ m then x m * x (m - k) else 0)
theorem mulBd {u v : Int} {a b : Nat} (hu : -(a : Int) ≤ u ∧ u ≤ a) (hv : -(b : Int) ≤ v ∧ v ≤ b) : -((a * b : Nat) : Int) ≤ u * v ∧ u * v ≤ ((a * b : Nat) : Int) := by
  have h := Int.natAbs_mul u v
  have h1 : u.natAbs ≤ a := by omega
  have h2 : v.natAbs ≤ b := by omega
  have h3 : u.natAbs * v.natAbs ≤ a * b := Nat.mul_le_mul h1 h2
  omega
theorem lag_bd (x : Nat → Int) (k : Nat) : ∀ m : Nat, (∀ i, i < m → -4096 ≤ x i ∧ x i ≤ 4096) → -16777216 * (m : Int) ≤ lag x k m ∧ lag x k m ≤ 16777216 * (m : Int)
  | 0, _ => by simp [lag]
  | m + 1, h => by
    have h1 := lag_bd x k m (fun i hi => h i (by omega))
    simp only [lag]
    split
    · have h2 := mulBd (a := 4096) (b := 4096) (h m (by omega)) (h (m - k) (by omega))
      have e : ((4096 * 4096 : Nat) : Int) = 16777216 := rfl
      rw [e] at h2
      omega
    · omega
def leanD (x : Nat → Int) (n : Nat) : Int := lag x 0 n * lag x 0 n - lag x 1 n * lag x 1 n
def clamp (v : Int) : Int := if v < -32 then -32 else if 31 < v then 31 else v
theorem clamp_bd (v : Int) : -32 ≤ clamp v ∧ clamp v ≤ 31 := by unfold clamp; split <;> (try split) <;> omega
def leanA (x : Nat → Int) (n : Nat) : Int := clamp (8 * lag x 1 n * (lag x 0 n - lag x 2 n) / leanD x n)
def leanB (x : Nat → Int) (n : Nat) : Int := clamp (8 * (lag x 0 n * lag x 2 n - lag x 1 n * lag x 1 n) / leanD x n)

/-- the numbers of a list, each in w bits -/
def numsT (x : Nat → Int) (w : Nat) : Nat → List UInt8
  | 0 => []
  | m + 1 => numsT x w m ++ binT (x m) w
theorem numsT_length (x : Nat → Int) (w : Nat) : ∀ m, (numsT x w m).length = m * w
  | 0 => by simp [numsT]
  | m + 1 => by simp [numsT, numsT_length x w m, binT_length, Nat.succ_mul]

/-- the weights of a kind; those of kind 7 alone hang on the samples -/
def wA (kind : Nat) (x : Nat → Int) (n : Nat) : Int := if kind = 7 then leanA x n else 0
def wB (kind : Nat) (x : Nat → Int) (n : Nat) : Int := if kind = 7 then leanB x n else 0
theorem wA_bd (kind : Nat) (x : Nat → Int) (n : Nat) : -32 ≤ wA kind x n ∧ wA kind x n ≤ 31 := by
  unfold wA; split
  · exact clamp_bd _
  · omega
theorem wB_bd (kind : Nat) (x : Nat → Int) (n : Nat) : -32 ≤ wB kind x n ∧ wB kind x n ≤ 31 := by
  unfold wB; split
  · exact clamp_bd _
  · omega
/-- the fold at a place -/
def fR (kind : Nat) (x : Nat → Int) (n i : Nat) : Nat := foldN (x i - guessG kind (wA kind x n) (wB kind x n) x i)
def bC (kind : Nat) (x : Nat → Int) (n : Nat) : Nat := bestC (fR kind x n) (ord kind) n 3
/-- the body of a kind of 2 to 7 -/
def gT (kind w : Nat) (x : Nat → Int) (n : Nat) : List UInt8 :=
  numsT x w (ord kind) ++ ((if kind = 7 then binT (leanA x n) 6 ++ binT (leanB x n) 6 else []) ++ cutT (fR kind x n) (ord kind) n (bC kind x n))
def gL (kind w : Nat) (x : Nat → Int) (n : Nat) : Nat := ord kind * w + (if kind = 7 then 12 else 0) + cutL (fR kind x n) (ord kind) n (bC kind x n)
theorem gT_length (kind w : Nat) (x : Nat → Int) (n : Nat) : (gT kind w x n).length = gL kind w x n := by
  unfold gT gL
  simp only [List.length_append, numsT_length, cutT_length]
  split <;> simp [binT_length] <;> omega
def allSame (x : Nat → Int) (n : Nat) : Bool := (List.range n).all fun i => decide (x i = x 0)
theorem allSame_iff (x : Nat → Int) (n : Nat) : allSame x n = true ↔ ∀ i, i < n → x i = x 0 := by simp [allSame]
/-- can a kind tell it? -/
def okG (kind : Nat) (x : Nat → Int) (n : Nat) : Bool := decide (ord kind < n) && (decide (kind ≠ 7) || decide (0 < leanD x n))
def bodyT (kind w : Nat) (x : Nat → Int) (n : Nat) : List UInt8 := if kind = 0 then binT (x 0) w else if kind = 1 then numsT x w n else gT kind w x n
def bodyL (kind w : Nat) (x : Nat → Int) (n : Nat) : Nat := if kind = 0 then w else if kind = 1 then n * w else gL kind w x n
theorem bodyT_length (kind w : Nat) (x : Nat → Int) (n : Nat) : (bodyT kind w x n).length = bodyL kind w x n := by
  unfold bodyT bodyL
  split
  · exact binT_length _ _
  · split
    · exact numsT_length _ _ _
    · exact gT_length _ _ _ _
/-- the best kind of the first two, and of the first j + 2 -/
def bestK (w : Nat) (x : Nat → Int) (n : Nat) : Nat → Nat
  | 0 => if allSame x n then 0 else 1
  | j + 1 => if okG (j + 2) x n = true ∧ bodyL (j + 2) w x n < bodyL (bestK w x n j) w x n then j + 2 else bestK w x n j
theorem bestK_le (w : Nat) (x : Nat → Int) (n : Nat) : ∀ j, bestK w x n j ≤ j + 1
  | 0 => by unfold bestK; split <;> omega
  | j + 1 => by
    have := bestK_le w x n j
    unfold bestK; split <;> omega
theorem bestK_ok (w : Nat) (x : Nat → Int) (n : Nat) : ∀ j, 2 ≤ bestK w x n j → okG (bestK w x n j) x n = true
  | 0, h => by unfold bestK at h; split at h <;> omega
  | j + 1, h => by
    unfold bestK at h ⊢
    split
    · rename_i hh; exact hh.1
    · rename_i hh; rw [if_neg hh] at h; exact bestK_ok w x n j h
/-- by how many bits all can be shortened: up to k -/
def allDiv (l : Nat → Int) (n k : Nat) : Bool := (List.range n).all fun i => decide (l i % 2 ^ k = 0)
def anyNz (l : Nat → Int) (n : Nat) : Bool := (List.range n).any fun i => decide (l i ≠ 0)
def shiftT (l : Nat → Int) (n : Nat) : Nat → Nat
  | 0 => 0
  | k + 1 => if (allDiv l n (k + 1) && anyNz l n) = true then k + 1 else shiftT l n k
theorem shiftT_le (l : Nat → Int) (n : Nat) : ∀ k, shiftT l n k ≤ k
  | 0 => Nat.le_refl _
  | k + 1 => by
    have := shiftT_le l n k
    unfold shiftT; split <;> omega
theorem allDiv_iff (l : Nat → Int) (n k : Nat) : allDiv l n k = true ↔ ∀ i, i < n → l i % 2 ^ k = 0 := by simp [allDiv]
theorem shiftT_div (l : Nat → Int) (n : Nat) : ∀ k i, i < n → l i % 2 ^ (shiftT l n k) = 0
  | 0, i, hi => by simp [shiftT, Int.emod_one]
  | k + 1, i, hi => by
    unfold shiftT; split
    · rename_i h
      rw [Bool.and_eq_true] at h
      exact (allDiv_iff l n (k + 1)).1 h.1 i hi
    · exact shiftT_div l n k i hi
def shiftN (l : Nat → Int) (n width : Nat) : Nat := shiftT l n (width - 1)
def shortX (l : Nat → Int) (n width : Nat) (i : Nat) : Int := l i / 2 ^ (shiftN l n width)
/-- the whole subframe -/
def subKind (width : Nat) (l : Nat → Int) (n : Nat) : Nat := bestK (width - shiftN l n width) (shortX l n width) n 6
def subT (width : Nat) (l : Nat → Int) (n : Nat) : List UInt8 :=
  binT (subKind width l n) 4 ++ (binT (shiftN l n width) 4 ++ bodyT (subKind width l n) (width - shiftN l n width) (shortX l n width) n)
end Go.Proofs.YtlncjgnomhpjnaaDoor
