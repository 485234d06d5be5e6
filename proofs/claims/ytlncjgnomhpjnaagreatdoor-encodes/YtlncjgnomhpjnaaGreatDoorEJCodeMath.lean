import Derived.Test.YtlncjgnomhpjnaaGreatDoorEJBase
import Derived.WalkKit
/-
  Plain mathematics for 'Codes': the shortest subframe, as a text. No dump is imported.
-/
namespace Go.Proofs.YtlncjgnomhpjnaaGreatDoor

/-- v in k bits -/
def binT (v : Int) (k : Nat) : List UInt8 := (List.range k).map fun i => ltr (decide (v / 2 ^ (k - 1 - i) % 2 = 1))
theorem binT_length (v : Int) (k : Nat) : (binT v k).length = k := by simp [binT]

/-- the fold of a whole number -/
def foldN (v : Int) : Nat := if 0 ≤ v then (2 * v).toNat else (-2 * v - 1).toNat
theorem foldN_int (v : Int) : (foldN v : Int) = if 0 ≤ v then 2 * v else -2 * v - 1 := by
  unfold foldN; split <;> omega
theorem foldN_le (v : Int) (m : Nat) (h : -(m : Int) ≤ v ∧ v ≤ m) : foldN v ≤ 2 * m := by
  have := foldN_int v
  split at this <;> omega

def riceT (f k : Nat) : List UInt8 := List.replicate (f / 2 ^ k) 48 ++ [49] ++ binT f k
def riceL (f k : Nat) : Nat := f / 2 ^ k + 1 + k
theorem riceT_length (f k : Nat) : (riceT f k).length = riceL f k := by simp [riceT, riceL, binT_length]; omega

/-- the Rice codes by k of m folds from place lo on -/
def codedT (f : Nat → Nat) (k lo : Nat) : Nat → List UInt8
  | 0 => []
  | m + 1 => codedT f k lo m ++ riceT (f (lo + m)) k
def plen (f : Nat → Nat) (k lo : Nat) : Nat → Nat
  | 0 => 0
  | m + 1 => plen f k lo m + riceL (f (lo + m)) k
theorem codedT_length (f : Nat → Nat) (k lo : Nat) : ∀ m, (codedT f k lo m).length = plen f k lo m
  | 0 => rfl
  | m + 1 => by simp [codedT, plen, codedT_length f k lo m, riceT_length]
theorem riceL_le (f k M : Nat) (h : f ≤ M) (hk : k ≤ 14) : riceL f k ≤ M + 15 := by
  have : f / 2 ^ k ≤ f := Nat.div_le_self _ _
  unfold riceL; omega
theorem plen_le (f : Nat → Nat) (k lo M : Nat) (hk : k ≤ 14) : ∀ m, (∀ i, i < m → f (lo + i) ≤ M) → plen f k lo m ≤ m * (M + 15)
  | 0, _ => by simp [plen]
  | m + 1, h => by
    have h1 := plen_le f k lo M hk m (fun i hi => h i (by omega))
    have h2 := riceL_le (f (lo + m)) k M (h m (by omega)) hk
    simp only [plen]
    rw [Nat.succ_mul]; omega

/-- the least argument up to K at which g is least -/
def argmin (g : Nat → Nat) : Nat → Nat
  | 0 => 0
  | k + 1 => if g (k + 1) < g (argmin g k) then k + 1 else argmin g k
theorem argmin_le (g : Nat → Nat) : ∀ k, argmin g k ≤ k
  | 0 => Nat.le_refl _
  | k + 1 => by
    have := argmin_le g k
    unfold argmin; split <;> omega

/-- the parameter of m places from lo on -/
def parK (f : Nat → Nat) (lo m : Nat) : Nat := argmin (fun k => plen f k lo m) 14
theorem parK_le (f : Nat → Nat) (lo m : Nat) : parK f lo m ≤ 14 := argmin_le _ _
def ploN (o sz i : Nat) : Nat := max (i * sz) o
def pcnt (o sz i : Nat) : Nat := (i + 1) * sz - ploN o sz i
def parN (f : Nat → Nat) (o sz i : Nat) : Nat := parK f (ploN o sz i) (pcnt o sz i)
/-- the first i parts of a cut into parts of sz places -/
def partsT (f : Nat → Nat) (o sz : Nat) : Nat → List UInt8
  | 0 => []
  | i + 1 => partsT f o sz i ++ (binT (parN f o sz i) 4 ++ codedT f (parN f o sz i) (ploN o sz i) (pcnt o sz i))
def partsL (f : Nat → Nat) (o sz : Nat) : Nat → Nat
  | 0 => 0
  | i + 1 => partsL f o sz i + (4 + plen f (parN f o sz i) (ploN o sz i) (pcnt o sz i))
theorem partsT_length (f : Nat → Nat) (o sz : Nat) : ∀ i, (partsT f o sz i).length = partsL f o sz i
  | 0 => rfl
  | i + 1 => by simp [partsT, partsL, partsT_length f o sz i, codedT_length, binT_length]
theorem partsL_mono (f : Nat → Nat) (o sz : Nat) {i : Nat} : ∀ {j : Nat}, i ≤ j → partsL f o sz i ≤ partsL f o sz j
  | 0, h => by have : i = 0 := by omega
               subst this; exact Nat.le_refl _
  | j + 1, h => by
    by_cases e : i = j + 1
    · subst e; exact Nat.le_refl _
    · have := partsL_mono f o sz (i := i) (j := j) (by omega)
      simp only [partsL]; omega

/-- may n places be cut so? -/
def okC (n o c : Nat) : Bool := decide (n / 2 ^ c * 2 ^ c = n) && decide (o < n / 2 ^ c)
theorem okC_zero {n o : Nat} (h : o < n) : okC n o 0 = true := by simp [okC, h]
theorem okC_succ {n o c : Nat} (h : okC n o (c + 1) = true) : okC n o c = true := by
  simp only [okC, Bool.and_eq_true, decide_eq_true_eq] at h ⊢
  obtain ⟨h1, h2⟩ := h
  have e : n / 2 ^ (c + 1) = n / 2 ^ c / 2 := by rw [Nat.pow_succ, Nat.div_div_eq_div_mul]
  have e2 : 2 ^ (c + 1) = 2 * 2 ^ c := by rw [Nat.pow_succ, Nat.mul_comm]
  refine ⟨?_, ?_⟩
  · have hd : 2 ^ c ∣ n := by
      refine ⟨n / 2 ^ (c + 1) * 2, ?_⟩
      rw [← Nat.mul_assoc, Nat.mul_comm (2 ^ c), Nat.mul_assoc, Nat.mul_comm (2 ^ c) 2, ← e2]; exact h1.symm
    exact Nat.div_mul_cancel hd
  · rw [e] at h2
    have := Nat.div_le_self (n / 2 ^ c) 2
    omega
theorem okC_later {n o c : Nat} (h : okC n o c = false) : ∀ {d : Nat}, c ≤ d → okC n o d = false
  | 0, hd => by have : c = 0 := by omega
                subst this; exact h
  | d + 1, hd => by
    by_cases e : c = d + 1
    · subst e; exact h
    · have := okC_later h (d := d) (by omega)
      cases hx : okC n o (d + 1) with
      | false => rfl
      | true => rw [okC_succ hx] at this; cases this
/-- the bits of a cut -/
def cutL (f : Nat → Nat) (o n c : Nat) : Nat := 2 + partsL f o (n / 2 ^ c) (2 ^ c)
def cutT (f : Nat → Nat) (o n c : Nat) : List UInt8 := binT c 2 ++ partsT f o (n / 2 ^ c) (2 ^ c)
theorem cutT_length (f : Nat → Nat) (o n c : Nat) : (cutT f o n c).length = cutL f o n c := by simp [cutT, cutL, binT_length, partsT_length]
/-- the best cut up to c; cut 0 may be -/
def bestC (f : Nat → Nat) (o n : Nat) : Nat → Nat
  | 0 => 0
  | c + 1 => if okC n o (c + 1) = true ∧ cutL f o n (c + 1) < cutL f o n (bestC f o n c) then c + 1 else bestC f o n c
theorem bestC_le (f : Nat → Nat) (o n : Nat) : ∀ c, bestC f o n c ≤ c
  | 0 => Nat.le_refl _
  | c + 1 => by
    have := bestC_le f o n c
    unfold bestC; split <;> omega
theorem bestC_stop (f : Nat → Nat) (o n : Nat) {c : Nat} (h : okC n o (c + 1) = false) : ∀ {d : Nat}, c ≤ d → bestC f o n d = bestC f o n c
  | 0, hd => by have : c = 0 := by omega
                subst this; rfl
  | d + 1, hd => by
    by_cases e : c = d + 1
    · subst e; rfl
    · have h2 := okC_later h (d := d + 1) (by omega)
      rw [bestC, if_neg (by rw [h2]; simp)]
      exact bestC_stop f o n h (by omega)
theorem bestC_ok (f : Nat → Nat) (o n : Nat) (h : o < n) : ∀ c, okC n o (bestC f o n c) = true
  | 0 => okC_zero h
  | c + 1 => by
    unfold bestC; split
    · rename_i hh; exact hh.1
    · exact bestC_ok f o n h c

/-- the sum of each number times the one k before it, up to place m -/
def lag (x : Nat → Int) (k : Nat) : Nat → Int
  | 0 => 0
  | m + 1 => lag x k m + (if k ≤ m then x m * x (m - k) else 0)
theorem mulBd {u v : Int} {a b : Nat} (hu : -(a : Int) ≤ u ∧ u ≤ a) (hv : -(b : Int) ≤ v ∧ v ≤ b) : -((a * b : Nat) : Int) ≤ u * v ∧ u * v ≤ ((a * b : Nat) : Int) := by
  have h := Int.natAbs_mul u v
  have h1 : u.natAbs ≤ a := by omega
  have h2 : v.natAbs ≤ b := by omega
  have h3 : u.natAbs * v.natAbs ≤ a * b := Nat.mul_le_mul h1 h2
  omega
theorem lag_bd (x : Nat → Int) (k : Nat) : ∀ m : Nat, (∀ i, i < m → -4096 ≤ x i ∧ x i ≤ 4096) → -16777216 * (m : Int) ≤ lag x k m ∧ lag x k m ≤ 16777216 * (m : Int)
  | 0, _ => by simp [lag]
  | m + 1, h => by
    have h1 := lag_bd x k m (fun i hi => h i (by omega))
    simp only [lag]
    split
    · have h2 := mulBd (a := 4096) (b := 4096) (h m (by omega)) (h (m - k) (by omega))
      have e : ((4096 * 4096 : Nat) : Int) = 16777216 := rfl
      rw [e] at h2
      omega
    · omega
def leanD (x : Nat → Int) (n : Nat) : Int := lag x 0 n * lag x 0 n - lag x 1 n * lag x 1 n
def clamp (v : Int) : Int := if v < -32 then -32 else if 31 < v then 31 else v
theorem clamp_bd (v : Int) : -32 ≤ clamp v ∧ clamp v ≤ 31 := by unfold clamp; split <;> (try split) <;> omega
def leanA (x : Nat → Int) (n : Nat) : Int := clamp (8 * lag x 1 n * (lag x 0 n - lag x 2 n) / leanD x n)
def leanB (x : Nat → Int) (n : Nat) : Int := clamp (8 * (lag x 0 n * lag x 2 n - lag x 1 n * lag x 1 n) / leanD x n)

/-- the numbers of a list, each in w bits -/
def numsT (x : Nat → Int) (w : Nat) : Nat → List UInt8
  | 0 => []
  | m + 1 => numsT x w m ++ binT (x m) w
theorem numsT_length (x : Nat → Int) (w : Nat) : ∀ m, (numsT x w m).length = m * w
  | 0 => by simp [numsT]
  | m + 1 => by simp [numsT, numsT_length x w m, binT_length, Nat.succ_mul]

/-- the weights of a kind; those of kind 7 alone hang on the samples -/
def wA (kind : Nat) (x : Nat → Int) (n : Nat) : Int := if kind = 7 then leanA x n else 0
def wB (kind : Nat) (x : Nat → Int) (n : Nat) : Int := if kind = 7 then leanB x n else 0
theorem wA_bd (kind : Nat) (x : Nat → Int) (n : Nat) : -32 ≤ wA kind x n ∧ wA kind x n ≤ 31 := by
  unfold wA; split
  · exact clamp_bd _
  · omega
theorem wB_bd (kind : Nat) (x : Nat → Int) (n : Nat) : -32 ≤ wB kind x n ∧ wB kind x n ≤ 31 := by
  unfold wB; split
  · exact clamp_bd _
  · omega
/-- the fold at a place -/
def fR (kind : Nat) (x : Nat → Int) (n i : Nat) : Nat := foldN (x i - guessG kind (wA kind x n) (wB kind x n) x i)
def bC (kind : Nat) (x : Nat → Int) (n : Nat) : Nat := bestC (fR kind x n) (ord kind) n 3
/-- the body of a kind of 2 to 7 -/
def gT (kind w : Nat) (x : Nat → Int) (n : Nat) : List UInt8 :=
  numsT x w (ord kind) ++ ((if kind = 7 then binT (leanA x n) 6 ++ binT (leanB x n) 6 else []) ++ cutT (fR kind x n) (ord kind) n (bC kind x n))
def gL (kind w : Nat) (x : Nat → Int) (n : Nat) : Nat := ord kind * w + (if kind = 7 then 12 else 0) + cutL (fR kind x n) (ord kind) n (bC kind x n)
theorem gT_length (kind w : Nat) (x : Nat → Int) (n : Nat) : (gT kind w x n).length = gL kind w x n := by
  unfold gT gL
  simp only [List.length_append, numsT_length, cutT_length]
  split <;> simp [binT_length] <;> omega
def allSame (x : Nat → Int) (n : Nat) : Bool := (List.range n).all fun i => decide (x i = x 0)
theorem allSame_iff (x : Nat → Int) (n : Nat) : allSame x n = true ↔ ∀ i, i < n → x i = x 0 := by simp [allSame]
/-- can a kind tell it? -/
def okG (kind : Nat) (x : Nat → Int) (n : Nat) : Bool := decide (ord kind < n) && (decide (kind ≠ 7) || decide (0 < leanD x n))
def bodyT (kind w : Nat) (x : Nat → Int) (n : Nat) : List UInt8 := if kind = 0 then binT (x 0) w else if kind = 1 then numsT x w n else gT kind w x n
def bodyL (kind w : Nat) (x : Nat → Int) (n : Nat) : Nat := if kind = 0 then w else if kind = 1 then n * w else gL kind w x n
theorem bodyT_length (kind w : Nat) (x : Nat → Int) (n : Nat) : (bodyT kind w x n).length = bodyL kind w x n := by
  unfold bodyT bodyL
  split
  · exact binT_length _ _
  · split
    · exact numsT_length _ _ _
    · exact gT_length _ _ _ _
/-- the best kind of the first two, and of the first j + 2 -/
def bestK (w : Nat) (x : Nat → Int) (n : Nat) : Nat → Nat
  | 0 => if allSame x n then 0 else 1
  | j + 1 => if okG (j + 2) x n = true ∧ bodyL (j + 2) w x n < bodyL (bestK w x n j) w x n then j + 2 else bestK w x n j
theorem bestK_le (w : Nat) (x : Nat → Int) (n : Nat) : ∀ j, bestK w x n j ≤ j + 1
  | 0 => by unfold bestK; split <;> omega
  | j + 1 => by
    have := bestK_le w x n j
    unfold bestK; split <;> omega
theorem bestK_ok (w : Nat) (x : Nat → Int) (n : Nat) : ∀ j, 2 ≤ bestK w x n j → okG (bestK w x n j) x n = true
  | 0, h => by unfold bestK at h; split at h <;> omega
  | j + 1, h => by
    unfold bestK at h ⊢
    split
    · rename_i hh; exact hh.1
    · rename_i hh; rw [if_neg hh] at h; exact bestK_ok w x n j h
/-- by how many bits all can be shortened: up to k -/
def allDiv (l : Nat → Int) (n k : Nat) : Bool := (List.range n).all fun i => decide (l i % 2 ^ k = 0)
def anyNz (l : Nat → Int) (n : Nat) : Bool := (List.range n).any fun i => decide (l i ≠ 0)
def shiftT (l : Nat → Int) (n : Nat) : Nat → Nat
  | 0 => 0
  | k + 1 => if (allDiv l n (k + 1) && anyNz l n) = true then k + 1 else shiftT l n k
theorem shiftT_le (l : Nat → Int) (n : Nat) : ∀ k, shiftT l n k ≤ k
  | 0 => Nat.le_refl _
  | k + 1 => by
    have := shiftT_le l n k
    unfold shiftT; split <;> omega
theorem allDiv_iff (l : Nat → Int) (n k : Nat) : allDiv l n k = true ↔ ∀ i, i < n → l i % 2 ^ k = 0 := by simp [allDiv]
theorem shiftT_div (l : Nat → Int) (n : Nat) : ∀ k i, i < n → l i % 2 ^ (shiftT l n k) = 0
  | 0, i, hi => by simp [shiftT, Int.emod_one]
  | k + 1, i, hi => by
    unfold shiftT; split
    · rename_i h
      rw [Bool.and_eq_true] at h
      exact (allDiv_iff l n (k + 1)).1 h.1 i hi
    · exact shiftT_div l n k i hi
def shiftN (l : Nat → Int) (n width : Nat) : Nat := shiftT l n (width - 1)
def shortX (l : Nat → Int) (n width : Nat) (i : Nat) : Int := l i / 2 ^ (shiftN l n width)
/-- the whole subframe -/
def subKind (width : Nat) (l : Nat → Int) (n : Nat) : Nat := bestK (width - shiftN l n width) (shortX l n width) n 6
def subT (width : Nat) (l : Nat → Int) (n : Nat) : List UInt8 :=
  binT (subKind width l n) 4 ++ (binT (shiftN l n width) 4 ++ bodyT (subKind width l n) (width - shiftN l n width) (shortX l n width) n)
end Go.Proofs.YtlncjgnomhpjnaaGreatDoor

/-
  Plain mathematics for 'Codes': the shift by which all samples can be shortened, by their 'or' and by its trailing zeros.
-/
namespace Go.Proofs.YtlncjgnomhpjnaaGreatDoor
open Go.RowKit

theorem ip2 (k : Nat) : ((2 ^ k : Nat) : Int) = (2 : Int) ^ k := by simp
theorem ip2_pos (k : Nat) : (0 : Int) < 2 ^ k := by rw [← ip2]; exact Int.ofNat_lt.2 (Nat.two_pow_pos k)
theorem ip2_dvd {k m : Nat} (h : k ≤ m) : (2 : Int) ^ k ∣ 2 ^ m := by
  refine ⟨2 ^ (m - k), ?_⟩
  rw [← Int.pow_add]; congr 1; omega
theorem ofInt_mod (a : Int) (k : Nat) (hk : k ≤ 64) : a % 2 ^ k = 0 ↔ (BitVec.ofInt 64 a).toNat % 2 ^ k = 0 := by
  have e : ((BitVec.ofInt 64 a).toNat : Int) = a % 2 ^ 64 := by
    rw [BitVec.toNat_ofInt]
    have : 0 ≤ a % ((2 ^ 64 : Nat) : Int) := Int.emod_nonneg _ (by decide)
    rw [Int.toNat_of_nonneg this]; simp
  have h1 : (((BitVec.ofInt 64 a).toNat % 2 ^ k : Nat) : Int) = a % 2 ^ k := by
    rw [Int.natCast_emod, e, ip2, Int.emod_emod_of_dvd _ (ip2_dvd hk)]
  omega
theorem wrap_mod (v : Int) (k : Nat) (hk : k ≤ 64) : IntKind.i64.wrap v % 2 ^ k = v % 2 ^ k := by
  have h : ∃ q : Int, IntKind.i64.wrap v = v + q * 2 ^ 64 := by
    rw [IntKind.wrap_i64]
    refine ⟨-((v + 9223372036854775808) / 18446744073709551616), ?_⟩
    have e : (2 : Int) ^ 64 = 18446744073709551616 := rfl
    rw [e]; omega
  obtain ⟨q, hq⟩ := h
  obtain ⟨r, hr⟩ := ip2_dvd hk
  rw [hq, hr, Int.mul_left_comm, Int.add_mul_emod_self_left]
theorem or_mod0 (a b : Int) (k : Nat) (hk : k ≤ 64) : bits .or .i64 a b % 2 ^ k = 0 ↔ a % 2 ^ k = 0 ∧ b % 2 ^ k = 0 := by
  have e : bits .or .i64 a b = IntKind.i64.wrap (((BitVec.ofInt 64 a ||| BitVec.ofInt 64 b).toNat : Nat) : Int) := rfl
  rw [e, wrap_mod _ _ hk, BitVec.toNat_or, ofInt_mod a k hk, ofInt_mod b k hk]
  generalize (BitVec.ofInt 64 a).toNat = A
  generalize (BitVec.ofInt 64 b).toNat = B
  rw [← ip2, ← Int.natCast_emod, Nat.or_mod_two_pow]
  have : ∀ x y : Nat, ((x ||| y : Nat) : Int) = 0 ↔ x = 0 ∧ y = 0 := fun x y => by
    constructor
    · intro h
      have h' : x ||| y = 0 := by omega
      exact ⟨Nat.eq_zero_of_le_zero (h' ▸ Nat.left_le_or), Nat.eq_zero_of_le_zero (h' ▸ Nat.right_le_or)⟩
    · rintro ⟨rfl, rfl⟩; rfl
  exact this _ _
/-- v is the 'or' of the first i, as far as its trailing zeros go -/
def OrOf (l : Nat → Int) (i : Nat) (v : Int) : Prop := (∀ k, k ≤ 64 → (v % 2 ^ k = 0 ↔ ∀ j, j < i → l j % 2 ^ k = 0)) ∧ -9223372036854775808 ≤ v ∧ v ≤ 9223372036854775807
theorem OrOf.zero (l : Nat → Int) : OrOf l 0 0 := ⟨fun k _ => by simp, by omega, by omega⟩
theorem OrOf.step {l : Nat → Int} {i : Nat} {v : Int} (h : OrOf l i v) : OrOf l (i + 1) (bits .or .i64 v (l i)) := by
  refine ⟨fun k hk => ?_, ?_⟩
  · rw [or_mod0 _ _ _ hk, h.1 k hk]
    constructor
    · rintro ⟨h1, h2⟩ j hj
      by_cases e : j = i
      · subst e; exact h2
      · exact h1 j (by omega)
    · intro h1; exact ⟨fun j hj => h1 j (by omega), h1 i (by omega)⟩
  · have e : ∃ z : Int, bits .or .i64 v (l i) = IntKind.i64.wrap z := ⟨_, rfl⟩
    obtain ⟨z, hz⟩ := e
    rw [hz, IntKind.wrap_i64]; omega
theorem OrOf.nz {l : Nat → Int} {i : Nat} {v : Int} (h : OrOf l i v) (hl : ∀ j, j < i → -4096 ≤ l j ∧ l j ≤ 4096) : v = 0 ↔ anyNz l i = false := by
  have h64 := h.1 64 (Nat.le_refl _)
  have e : (2 : Int) ^ 64 = 18446744073709551616 := rfl
  rw [e] at h64
  have hv : v = 0 ↔ v % 18446744073709551616 = 0 := by have := h.2; omega
  rw [hv, h64]
  simp only [anyNz, List.any_eq_false, List.mem_range, decide_eq_true_eq, ne_eq, Decidable.not_not]
  constructor
  · intro hh j hj; have := hh j hj; have := hl j hj; omega
  · intro hh j hj; rw [hh j hj]; rfl
theorem allDiv_mono {l : Nat → Int} {n k m : Nat} (h : allDiv l n m = true) (hk : k ≤ m) : allDiv l n k = true := by
  rw [allDiv_iff] at h ⊢
  intro i hi
  have h1 := Int.dvd_of_emod_eq_zero (h i hi)
  exact Int.emod_eq_zero_of_dvd (Int.dvd_trans (ip2_dvd hk) h1)
theorem shiftT_eq {l : Nat → Int} {n t : Nat} (h1 : allDiv l n t = true) (h2 : allDiv l n (t + 1) = false) (h3 : anyNz l n = true) : ∀ K, t ≤ K → shiftT l n K = t
  | 0, h => by have : t = 0 := by omega
               subst this; rfl
  | K + 1, h => by
    by_cases e : t = K + 1
    · subst e; rw [shiftT, if_pos (by rw [h1, h3]; rfl)]
    · rw [shiftT, if_neg, shiftT_eq h1 h2 h3 K (by omega)]
      intro hc
      rw [Bool.and_eq_true] at hc
      rw [allDiv_mono hc.1 (by omega : t + 1 ≤ K + 1)] at h2; cases h2
theorem shiftT_none {l : Nat → Int} {n : Nat} (h3 : anyNz l n = false) : ∀ K, shiftT l n K = 0
  | 0 => rfl
  | K + 1 => by rw [shiftT, if_neg (by rw [h3]; simp), shiftT_none h3 K]

/-- a number above 0 is a power of 2 times an odd one -/
theorem odd_part : ∀ (B u : Nat), u ≤ B → 0 < u → ∃ t m, u = 2 ^ t * (2 * m + 1)
  | 0, u, h, h0 => absurd h0 (by omega)
  | B + 1, u, h, h0 => by
    by_cases e : u % 2 = 1
    · exact ⟨0, u / 2, by simp; omega⟩
    · obtain ⟨t, m, hm⟩ := odd_part B (u / 2) (by omega) (by omega)
      refine ⟨t + 1, m, ?_⟩
      rw [Nat.pow_succ, Nat.mul_comm (2 ^ t) 2, Nat.mul_assoc, ← hm]; omega
theorem and_neg_odd (m s : Nat) (hs : 0 < s) (h : 2 * m < 2 ^ s) : (2 * m + 1) &&& (2 ^ s - (2 * m + 1)) = 1 := by
  apply Nat.eq_of_testBit_eq
  intro i
  rw [Nat.testBit_and, Nat.testBit_two_pow_sub_succ h]
  cases i with
  | zero =>
    simp [hs]
  | succ i =>
    have e1 : Nat.testBit (2 * m + 1) (i + 1) = Nat.testBit m i := by
      rw [Nat.testBit_succ]; congr 1; omega
    have e2 : Nat.testBit (2 * m) (i + 1) = Nat.testBit m i := by
      rw [Nat.testBit_succ]; congr 1; omega
    have e3 : Nat.testBit 1 (i + 1) = false := by rw [Nat.testBit_succ]; simp
    rw [e1, e2, e3]
    cases Nat.testBit m i <;> simp
theorem and_neg (t m : Nat) (ht : t < 64) (h : 2 ^ t * (2 * m + 1) < 2 ^ 64) : bits .and .u64 ((2 ^ t * (2 * m + 1) : Nat) : Int) (IntKind.u64.wrap (-((2 ^ t * (2 * m + 1) : Nat) : Int))) = ((2 ^ t : Nat) : Int) := by
  generalize hu : 2 ^ t * (2 * m + 1) = u at *
  have hu0 : 0 < u := by rw [← hu]; exact Nat.mul_pos (Nat.two_pow_pos t) (by omega)
  have e0 : bits .and .u64 (u : Int) (IntKind.u64.wrap (-(u : Int))) = IntKind.u64.wrap (((BitVec.ofInt 64 (u : Int) &&& BitVec.ofInt 64 (IntKind.u64.wrap (-(u : Int)))).toNat : Nat) : Int) := rfl
  have e64 : (2 : Nat) ^ 64 = 18446744073709551616 := rfl
  rw [e64] at h
  have e1 : (BitVec.ofInt 64 (u : Int)).toNat = u := by
    rw [BitVec.toNat_ofInt, e64]; omega
  have e2 : (BitVec.ofInt 64 (IntKind.u64.wrap (-(u : Int)))).toNat = 2 ^ 64 - u := by
    rw [BitVec.toNat_ofInt, e64, IntKind.wrap_u64]; omega
  have e3 : u &&& (2 ^ 64 - u) = 2 ^ t := by
    have f1 : u = (2 * m + 1) <<< t := by rw [Nat.shiftLeft_eq, Nat.mul_comm]; exact hu.symm
    have f3 : 2 ^ 64 = 2 ^ t * 2 ^ (64 - t) := by rw [← Nat.pow_add]; congr 1; omega
    have f2 : 2 ^ 64 - u = (2 ^ (64 - t) - (2 * m + 1)) <<< t := by
      rw [Nat.shiftLeft_eq, Nat.mul_comm, Nat.mul_sub, ← f3, hu]
    have f4 : 2 * m < 2 ^ (64 - t) := by
      rw [← e64, f3, ← hu] at h
      have := Nat.lt_of_mul_lt_mul_left h
      omega
    rw [f2, f1, ← Nat.shiftLeft_and_distrib, and_neg_odd m (64 - t) (by omega) f4, Nat.shiftLeft_eq, Nat.one_mul]
  rw [e0, BitVec.toNat_and, e1, e2, e3, IntKind.wrap_u64]
  have : 2 ^ t ≤ u := by rw [← hu]; exact Nat.le_mul_of_pos_right _ (by omega)
  omega
/-- the trailing zeros of the 'or' -/
theorem OrOf.tz {l : Nat → Int} {n width : Nat} {v : Int} (h : OrOf l n v) (hw1 : 1 ≤ width) (hw : width ≤ 13) (hl : ∀ j, j < n → fitsB width (l j) = true) (hv : v ≠ 0) :
    ∃ m, (IntKind.u64.wrap v) = ((2 ^ (shiftN l n width) * (2 * m + 1) : Nat) : Int) ∧ 2 ^ (shiftN l n width) * (2 * m + 1) < 2 ^ 64 ∧ shiftN l n width ≤ 12 := by
  have hl' : ∀ j, j < n → -4096 ≤ l j ∧ l j ≤ 4096 := fun j hj => fits_bd (hl j hj) hw
  have hr := h.2
  obtain ⟨u, hu⟩ : ∃ u : Nat, IntKind.u64.wrap v = u := ⟨(v % 18446744073709551616).toNat, by rw [IntKind.wrap_u64]; omega⟩
  have hu0 : 0 < u ∧ u < 18446744073709551616 := by rw [IntKind.wrap_u64] at hu; omega
  obtain ⟨t, m, htm⟩ := odd_part u u (Nat.le_refl _) hu0.1
  have hmod : ∀ k, k ≤ 64 → ((u % 2 ^ k = 0) ↔ allDiv l n k = true) := fun k hk => by
    rw [allDiv_iff, ← h.1 k hk]
    obtain ⟨q, hq⟩ : ∃ q : Int, v = u + q * 2 ^ 64 := ⟨v / 18446744073709551616, by
      have e : (2 : Int) ^ 64 = 18446744073709551616 := rfl
      rw [IntKind.wrap_u64] at hu; rw [e]; omega⟩
    obtain ⟨r, hr⟩ := ip2_dvd hk
    rw [hq, hr, Int.mul_left_comm, Int.add_mul_emod_self_left, ← ip2, ← Int.natCast_emod]
    omega
  have hnz : anyNz l n = true := by
    cases e : anyNz l n with
    | true => rfl
    | false => exact absurd ((h.nz hl').2 e) hv
  have ht64 : t < 64 := by
    by_cases e : t < 64
    · exact e
    · have h1 : 2 ^ 64 ≤ 2 ^ t := Nat.pow_le_pow_right (by omega) (by omega)
      have h2 : 2 ^ t ≤ u := by rw [htm]; exact Nat.le_mul_of_pos_right _ (by omega)
      have e64 : (2 : Nat) ^ 64 = 18446744073709551616 := rfl
      omega
  have d1 : allDiv l n t = true := (hmod t (by omega)).1 (by rw [htm]; exact Nat.mul_mod_right _ _)
  have d2 : allDiv l n (t + 1) = false := by
    cases e : allDiv l n (t + 1) with
    | false => rfl
    | true =>
      have h4 := (hmod (t + 1) (by omega)).2 e
      rw [htm, Nat.pow_succ, Nat.mul_mod_mul_left, show (2 * m + 1) % 2 = 1 by omega, Nat.mul_one] at h4
      exact absurd h4 (Nat.ne_of_gt (Nat.two_pow_pos t))
  have hlt : t ≤ width - 1 := by
    simp only [anyNz, List.any_eq_true, List.mem_range, decide_eq_true_eq] at hnz
    obtain ⟨j, hj, hz⟩ := hnz
    have hd := Int.dvd_of_emod_eq_zero ((allDiv_iff l n t).1 d1 j hj)
    have hf := hl j hj
    unfold fitsB at hf
    rw [within_iff] at hf
    have h1 := Int.natAbs_dvd_natAbs.2 hd
    have h2 := Nat.le_of_dvd (by omega) h1
    rw [← ip2, Int.natAbs_natCast] at h2
    have hf2 : (l j).natAbs ≤ 2 ^ (width - 1) := by
      rw [← ip2] at hf; omega
    exact (Nat.pow_le_pow_iff_right (by omega)).1 (Nat.le_trans h2 hf2)
  have es : shiftN l n width = t := shiftT_eq d1 d2 hnz _ hlt
  rw [es]
  have e64 : (2 : Nat) ^ 64 = 18446744073709551616 := rfl
  exact ⟨m, by rw [← htm]; exact hu, by rw [← htm, e64]; exact hu0.2, by omega⟩
theorem OrOf.shift0 {l : Nat → Int} {n width : Nat} {v : Int} (h : OrOf l n v) (hw : width ≤ 13) (hl : ∀ j, j < n → fitsB width (l j) = true) (hv : v = 0) : shiftN l n width = 0 :=
  shiftT_none ((h.nz fun j hj => fits_bd (hl j hj) hw).1 hv) _
end Go.Proofs.YtlncjgnomhpjnaaGreatDoor

