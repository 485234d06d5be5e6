import Derived.Test.YtlncjgnomhpjnabGreatDoorPO1
import Derived.Test.YtlncjgnomhpjnabGreatDoorPO4
/-
  Plain mathematics for 'Codes': the shortest subframe, as a text. No dump is imported.
-/
namespace Go.Proofs.YtlncjgnomhpjnabGreatDoor
/-- v in k bits -/
def binT (v : Int) (k : Nat) : List UInt8 := (List.range k).map fun i => ltr (decide (v / 2 ^ (k - 1 - i) % 2 = 1))
theorem binT_length (v : Int) (k : Nat) : (binT v k).length = k := by simp [binT]
/-- the fold of a whole number -/
def foldN (v : Int) : Nat := if 0 ≤ v then (2 * v).toNat else (-2 * v - 1).toNat
theorem foldN_int (v : Int) : (foldN v : Int) = if 0 ≤ v then 2 * v else -2 * v - 1 := by
  unfold foldN; split <;> omega
theorem foldN_le (v : Int) (m : Nat) (h : -(m : Int) ≤ v ∧ v ≤ m) : foldN v ≤ 2 * m := by
  have := foldN_int v
  split at this <;> omega
def riceT (f k : Nat) : List UInt8 := List.replicate (f / 2 ^ k) 48 ++ [49] ++ binT f k
def riceL (f k : Nat) : Nat := f / 2 ^ k + 1 + k
theorem riceT_length (f k : Nat) : (riceT f k).length = riceL f k := by simp [riceT, riceL, binT_length]; omega
/-- the Rice codes by k of m folds from place lo on -/
def codedT (f : Nat → Nat) (k lo : Nat) : Nat → List UInt8
  | 0 => []
  | m + 1 => codedT f k lo m ++ riceT (f (lo + m)) k
def plen (f : Nat → Nat) (k lo : Nat) : Nat → Nat
  | 0 => 0
  | m + 1 => plen f k lo m + riceL (f (lo + m)) k
theorem codedT_length (f : Nat → Nat) (k lo : Nat) : ∀ m, (codedT f k lo m).length = plen f k lo m
  | 0 => rfl
  | m + 1 => by simp [codedT, plen, codedT_length f k lo m, riceT_length]
theorem riceL_le (f k M : Nat) (h : f ≤ M) (hk : k ≤ 14) : riceL f k ≤ M + 15 := by
  have : f / 2 ^ k ≤ f := Nat.div_le_self _ _
  unfold riceL; omega
theorem plen_le (f : Nat → Nat) (k lo M : Nat) (hk : k ≤ 14) : ∀ m, (∀ i, i < m → f (lo + i) ≤ M) → plen f k lo m ≤ m * (M + 15)
  | 0, _ => by simp [plen]
  | m + 1, h => by
    have h1 := plen_le f k lo M hk m (fun i hi => h i (by omega))
    have h2 := riceL_le (f (lo + m)) k M (h m (by omega)) hk
    simp only [plen]
    rw [Nat.succ_mul]; omega
/-- the least argument up to K at which g is least -/
def argmin (g : Nat → Nat) : Nat → Nat
  | 0 => 0
  | k + 1 => if g (k + 1) < g (argmin g k) then k + 1 else argmin g k
theorem argmin_le (g : Nat → Nat) : ∀ k, argmin g k ≤ k
  | 0 => Nat.le_refl _
  | k + 1 => by
    have := argmin_le g k
    unfold argmin; split <;> omega
/-- the parameter of m places from lo on -/
def parK (f : Nat → Nat) (lo m : Nat) : Nat := argmin (fun k => plen f k lo m) 14
theorem parK_le (f : Nat → Nat) (lo m : Nat) : parK f lo m ≤ 14 := argmin_le _ _
def ploN (o sz i : Nat) : Nat := max (i * sz) o
def pcnt (o sz i : Nat) : Nat := (i + 1) * sz - ploN o sz i
def parN (f : Nat → Nat) (o sz i : Nat) : Nat := parK f (ploN o sz i) (pcnt o sz i)
/-- the first i parts of a cut into parts of sz places -/
def partsT (f : Nat → Nat) (o sz : Nat) : Nat → List UInt8
  | 0 => []
  | i + 1 => partsT f o sz i ++ (binT (parN f o sz i) 4 ++ codedT f (parN f o sz i) (ploN o sz i) (pcnt o sz i))
def partsL (f : Nat → Nat) (o sz : Nat) : Nat → Nat
  | 0 => 0
  | i + 1 => partsL f o sz i + (4 + plen f (parN f o sz i) (ploN o sz i) (pcnt o sz i))
theorem partsT_length (f : Nat → Nat) (o sz : Nat) : ∀ i, (partsT f o sz i).length = partsL f o sz i
  | 0 => rfl
  | i + 1 => by simp [partsT, partsL, partsT_length f o sz i, codedT_length, binT_length]
theorem partsL_mono (f : Nat → Nat) (o sz : Nat) {i : Nat} : ∀ {j : Nat}, i ≤ j → partsL f o sz i ≤ partsL f o sz j
  | 0, h => by have : i = 0 := by omega
               subst this; exact Nat.le_refl _
  | j + 1, h => by
    by_cases e : i = j + 1
    · subst e; exact Nat.le_refl _
    · have := partsL_mono f o sz (i := i) (j := j) (by omega)
      simp only [partsL]; omega
/-- may n places be cut so? -/
def okC (n o c : Nat) : Bool := decide (n / 2 ^ c * 2 ^ c = n) && decide (o < n / 2 ^ c)
theorem okC_zero {n o : Nat} (h : o < n) : okC n o 0 = true := by simp [okC, h]
theorem okC_succ {n o c : Nat} (h : okC n o (c + 1) = true) : okC n o c = true := by
  simp only [okC, Bool.and_eq_true, decide_eq_true_eq] at h ⊢
  obtain ⟨h1, h2⟩ := h
  have e : n / 2 ^ (c + 1) = n / 2 ^ c / 2 := by rw [Nat.pow_succ, Nat.div_div_eq_div_mul]
  have e2 : 2 ^ (c + 1) = 2 * 2 ^ c := by rw [Nat.pow_succ, Nat.mul_comm]
  refine ⟨?_, ?_⟩
  · have hd : 2 ^ c ∣ n := by
      refine ⟨n / 2 ^ (c + 1) * 2, ?_⟩
      rw [← Nat.mul_assoc, Nat.mul_comm (2 ^ c), Nat.mul_assoc, Nat.mul_comm (2 ^ c) 2, ← e2]; exact h1.symm
    exact Nat.div_mul_cancel hd
  · rw [e] at h2
    have := Nat.div_le_self (n / 2 ^ c) 2
    omega
theorem okC_later {n o c : Nat} (h : okC n o c = false) : ∀ {d : Nat}, c ≤ d → okC n o d = false
  | 0, hd => by have : c = 0 := by omega
                subst this; exact h
  | d + 1, hd => by
    by_cases e : c = d + 1
    · subst e; exact h
    · have := okC_later h (d := d) (by omega)
      cases hx : okC n o (d + 1) with
      | false => rfl
      | true => rw [okC_succ hx] at this; cases this
/-- the bits of a cut -/
def cutL (f : Nat → Nat) (o n c : Nat) : Nat := 2 + partsL f o (n / 2 ^ c) (2 ^ c)
def cutT (f : Nat → Nat) (o n c : Nat) : List UInt8 := binT c 2 ++ partsT f o (n / 2 ^ c) (2 ^ c)
theorem cutT_length (f : Nat → Nat) (o n c : Nat) : (cutT f o n c).length = cutL f o n c := by simp [cutT, cutL, binT_length, partsT_length]
/-- the best cut up to c; cut 0 may be -/
def bestC (f : Nat → Nat) (o n : Nat) : Nat → Nat
  | 0 => 0
  | c + 1 => if okC n o (c + 1) = true ∧ cutL f o n (c + 1) < cutL f o n (bestC f o n c) then c + 1 else bestC f o n c
theorem bestC_le (f : Nat → Nat) (o n : Nat) : ∀ c, bestC f o n c ≤ c
  | 0 => Nat.le_refl _
  | c + 1 => by
    have := bestC_le f o n c
    unfold bestC; split <;> omega
theorem bestC_stop (f : Nat → Nat) (o n : Nat) {c : Nat} (h : okC n o (c + 1) = false) : ∀ {d : Nat}, c ≤ d → bestC f o n d = bestC f o n c
  | 0, hd => by have : c = 0 := by omega
                subst this; rfl
  | d + 1, hd => by
    by_cases e : c = d + 1
    · subst e; rfl
    · have h2 := okC_later h (d := d + 1) (by omega)
      rw [bestC, if_neg (by rw [h2]; simp)]
      exact bestC_stop f o n h (by omega)
theorem bestC_ok (f : Nat → Nat) (o n : Nat) (h : o < n) : ∀ c, okC n o (bestC f o n c) = true
  | 0 => okC_zero h
  | c + 1 => by
    unfold bestC; split
    · rename_i hh; exact hh.1
    · exact bestC_ok f o n h c
/-- the sum of each number times the one k before it, up to place m -/
def lag (x : Nat → Int) (k : Nat) : Nat → Int
  | 0 => 0
  | m + 1 => lag x k m + (if k ≤ m then x m * x (m - k) else 0)
theorem mulBd {u v : Int} {a b : Nat} (hu : -(a : Int) ≤ u ∧ u ≤ a) (hv : -(b : Int) ≤ v ∧ v ≤ b) : -((a * b : Nat) : Int) ≤ u * v ∧ u * v ≤ ((a * b : Nat) : Int) := by
  have h := Int.natAbs_mul u v
  have h1 : u.natAbs ≤ a := by omega
  have h2 : v.natAbs ≤ b := by omega
  have h3 : u.natAbs * v.natAbs ≤ a * b := Nat.mul_le_mul h1 h2
  omega
theorem lag_bd (x : Nat → Int) (k : Nat) : ∀ m : Nat, (∀ i, i < m → -4096 ≤ x i ∧ x i ≤ 4096) → -16777216 * (m : Int) ≤ lag x k m ∧ lag x k m ≤ 16777216 * (m : Int)
  | 0, _ => by simp [lag]
  | m + 1, h => by
    have h1 := lag_bd x k m (fun i hi => h i (by omega))
    simp only [lag]
    split
    · have h2 := mulBd (a := 4096) (b := 4096) (h m (by omega)) (h (m - k) (by omega))
      have e : ((4096 * 4096 : Nat) : Int) = 16777216 := rfl
      rw [e] at h2
      omega
    · omega
def leanD (x : Nat → Int) (n : Nat) : Int := lag x 0 n * lag x 0 n - lag x 1 n * lag x 1 n
def clamp (v : Int) : Int := if v < -32 then -32 else if 31 < v then 31 else v
theorem clamp_bd (v : Int) : -32 ≤ clamp v ∧ clamp v ≤ 31 := by unfold clamp; split <;> (try split) <;> omega
def leanA (x : Nat → Int) (n : Nat) : Int := clamp (8 * lag x 1 n * (lag x 0 n - lag x 2 n) / leanD x n)
def leanB (x : Nat → Int) (n : Nat) : Int := clamp (8 * (lag x 0 n * lag x 2 n - lag x 1 n * lag x 1 n) / leanD x n)
/-- the numbers of a list, each in w bits -/
def numsT (x : Nat → Int) (w : Nat) : Nat → List UInt8
  | 0 => []
  | m + 1 => numsT x w m ++ binT (x m) w
theorem numsT_length (x : Nat → Int) (w : Nat) : ∀ m, (numsT x w m).length = m * w
  | 0 => by simp [numsT]
  | m + 1 => by simp [numsT, numsT_length x w m, binT_length, Nat.succ_mul]
/-- the weights of a kind; those of kind 7 alone hang on the samples -/
def wA (kind : Nat) (x : Nat → Int) (n : Nat) : Int := if kind = 7 then leanA x n else 0
def wB (kind : Nat) (x : Nat → Int) (n : Nat) : Int := if kind = 7 then leanB x n else 0
theorem wA_bd (kind : Nat) (x : Nat → Int) (n : Nat) : -32 ≤ wA kind x n ∧ wA kind x n ≤ 31 := by
  unfold wA; split
  · exact clamp_bd _
  · omega
theorem wB_bd (kind : Nat) (x : Nat → Int) (n : Nat) : -32 ≤ wB kind x n ∧ wB kind x n ≤ 31 := by
  unfold wB; split
  · exact clamp_bd _
  · omega
/-- the fold at a place -/
def fR (kind : Nat) (x : Nat → Int) (n i : Nat) : Nat := foldN (x i - guessG kind (wA kind x n) (wB kind x n) x i)
def bC (kind : Nat) (x : Nat → Int) (n : Nat) : Nat := bestC (fR kind x n) (ord kind) n 3
/-- the body of a kind of 2 to 7 -/
def gT (kind w : Nat) (x : Nat → Int) (n : Nat) : List UInt8 :=
  numsT x w (ord kind) ++ ((if kind = 7 then binT (leanA x n) 6 ++ binT (leanB x n) 6 else []) ++ cutT (fR kind x n) (ord kind) n (bC kind x n))
def gL (kind w : Nat) (x : Nat → Int) (n : Nat) : Nat := ord kind * w + (if kind = 7 then 12 else 0) + cutL (fR kind x n) (ord kind) n (bC kind x n)
theorem gT_length (kind w : Nat) (x : Nat → Int) (n : Nat) : (gT kind w x n).length = gL kind w x n := by
  unfold gT gL
  simp only [List.length_append, numsT_length, cutT_length]
  split <;> simp [binT_length] <;> omega
def allSame (x : Nat → Int) (n : Nat) : Bool := (List.range n).all fun i => decide (x i = x 0)
theorem allSame_iff (x : Nat → Int) (n : Nat) : allSame x n = true ↔ ∀ i, i < n → x i = x 0 := by simp [allSame]
/-- can a kind tell it? -/
def okG (kind : Nat) (x : Nat → Int) (n : Nat) : Bool := decide (ord kind < n) && (decide (kind ≠ 7) || decide (0 < leanD x n))
def bodyT (kind w : Nat) (x : Nat → Int) (n : Nat) : List UInt8 := if kind = 0 then binT (x 0) w else if kind = 1 then numsT x w n else gT kind w x n
def bodyL (kind w : Nat) (x : Nat → Int) (n : Nat) : Nat := if kind = 0 then w else if kind = 1 then n * w else gL kind w x n
theorem bodyT_length (kind w : Nat) (x : Nat → Int) (n : Nat) : (bodyT kind w x n).length = bodyL kind w x n := by
  unfold bodyT bodyL
  split
  · exact binT_length _ _
  · split
    · exact numsT_length _ _ _
    · exact gT_length _ _ _ _
/-- the best kind of the first two, and of the first j + 2 -/
def bestK (w : Nat) (x : Nat → Int) (n : Nat) : Nat → Nat
  | 0 => if allSame x n then 0 else 1
  | j + 1 => if okG (j + 2) x n = true ∧ bodyL (j + 2) w x n < bodyL (bestK w x n j) w x n then j + 2 else bestK w x n j
theorem bestK_le (w : Nat) (x : Nat → Int) (n : Nat) : ∀ j, bestK w x n j ≤ j + 1
  | 0 => by unfold bestK; split <;> omega
  | j + 1 => by
    have := bestK_le w x n j
    unfold bestK; split <;> omega
theorem bestK_ok (w : Nat) (x : Nat → Int) (n : Nat) : ∀ j, 2 ≤ bestK w x n j → okG (bestK w x n j) x n = true
  | 0, h => by unfold bestK at h; split at h <;> omega
  | j + 1, h => by
    unfold bestK at h ⊢
    split
    · rename_i hh; exact hh.1
    · rename_i hh; rw [if_neg hh] at h; exact bestK_ok w x n j h
/-- by how many bits all can be shortened: up to k -/
def allDiv (l : Nat → Int) (n k : Nat) : Bool := (List.range n).all fun i => decide (l i % 2 ^ k = 0)
def anyNz (l : Nat → Int) (n : Nat) : Bool := (List.range n).any fun i => decide (l i ≠ 0)
def shiftT (l : Nat → Int) (n : Nat) : Nat → Nat
  | 0 => 0
  | k + 1 => if (allDiv l n (k + 1) && anyNz l n) = true then k + 1 else shiftT l n k
theorem shiftT_le (l : Nat → Int) (n : Nat) : ∀ k, shiftT l n k ≤ k
  | 0 => Nat.le_refl _
  | k + 1 => by
    have := shiftT_le l n k
    unfold shiftT; split <;> omega
theorem allDiv_iff (l : Nat → Int) (n k : Nat) : allDiv l n k = true ↔ ∀ i, i < n → l i % 2 ^ k = 0 := by simp [allDiv]
theorem shiftT_div (l : Nat → Int) (n : Nat) : ∀ k i, i < n → l i % 2 ^ (shiftT l n k) = 0
  | 0, i, hi => by simp [shiftT, Int.emod_one]
  | k + 1, i, hi => by
    unfold shiftT; split
    · rename_i h
      rw [Bool.and_eq_true] at h
      exact (allDiv_iff l n (k + 1)).1 h.1 i hi
    · exact shiftT_div l n k i hi
def shiftN (l : Nat → Int) (n width : Nat) : Nat := shiftT l n (width - 1)
def shortX (l : Nat → Int) (n width : Nat) (i : Nat) : Int := l i / 2 ^ (shiftN l n width)
/-- the whole subframe -/
def subKind (width : Nat) (l : Nat → Int) (n : Nat) : Nat := bestK (width - shiftN l n width) (shortX l n width) n 6
def subT (width : Nat) (l : Nat → Int) (n : Nat) : List UInt8 :=
  binT (subKind width l n) 4 ++ (binT (shiftN l n width) 4 ++ bodyT (subKind width l n) (width - shiftN l n width) (shortX l n width) n)
end Go.Proofs.YtlncjgnomhpjnabGreatDoor

/-
  Plain mathematics for 'Tight': what is read of a text hangs on the bits that were read alone.
-/
namespace Go.Proofs.YtlncjgnomhpjnabGreatDoor
set_option linter.unusedVariables false
/-- two texts say the same up to place N -/
def Agree (b b' : Nat → Bool) (N : Nat) : Prop := ∀ i, i < N → b i = b' i
theorem bitsNum_ext {f g : Nat → Bool} : ∀ n, (∀ i, i < n → f i = g i) → bitsNum f n = bitsNum g n
  | 0, _ => rfl
  | n + 1, h => by simp only [bitsNum]; rw [bitsNum_ext n (fun i hi => h i (by omega)), h n (by omega)]
theorem num_ext {b b' : Nat → Bool} {N p k : Nat} (h : Agree b b' N) (hp : p + k ≤ N) : num b p k = num b' p k :=
  bitsNum_ext k (fun i hi => h (p + i) (by omega))
theorem sgn_ext {b b' : Nat → Bool} {N p k : Nat} (h : Agree b b' N) (hp : p + k ≤ N) : sgn b p k = sgn b' p k := by
  unfold sgn; rw [num_ext h hp]
theorem rice_ext {b b' : Nat → Bool} {N M k p : Nat} {r : Int × Nat} (h : Agree b b' N) (hNM : N ≤ M) (hr : rice b N k p = some r) : rice b' M k p = some r ∧ r.2 ≤ N ∧ p ≤ r.2 := by
  unfold rice at hr
  split at hr
  · rename_i hle
    simp only [Option.some.injEq] at hr
    have hz : zrun b' (M - p) p = zrun b (N - p) p := by
      have h1 := zrun_le b (N - p) p
      have hlt : zrun b (N - p) p < N - p := by omega
      refine zrun_eq b' (M - p) p _ (by omega) (fun i hi => ?_) (fun _ => ?_)
      · rw [← h (p + i) (by omega)]; exact zrun_zero b (N - p) p i hi
      · rw [← h (p + zrun b (N - p) p) (by omega)]; exact zrun_one b (N - p) p hlt
    unfold rice
    rw [hz, if_pos (by omega), ← num_ext h (p := p + zrun b (N - p) p + 1) (k := k) (by omega)]
    subst hr
    exact ⟨rfl, hle, by simp only; omega⟩
  · cases hr
/-- two jobs that differ in the text behind place N alone -/
structure JobExt (J K : Job) : Prop where
  ag : Agree J.b K.b J.N
  le : J.N ≤ K.N
  w : K.w = J.w
  kind : K.kind = J.kind
  a : K.a = J.a
  c : K.c = J.c
  size : K.size = J.size
theorem JobExt.rdK {J K : Job} (h : JobExt J K) {s t : St} (hr : J.rdK s = some t) : K.rdK s = some t ∧ t.p ≤ J.N := by
  unfold Job.rdK at hr
  split at hr
  · rename_i hh
    simp only [Option.some.injEq] at hr
    subst hr
    have e := num_ext h.ag (p := s.p) (k := 4) hh.1
    unfold Job.rdK
    have hle := h.le
    rw [← e, if_pos ⟨by omega, hh.2⟩]
    exact ⟨rfl, hh.1⟩
  · cases hr
/-- two states alike in the first m samples -/
structure Sim (m : Nat) (s t : St) : Prop where
  p : t.p = s.p
  k : t.k = s.k
  x : ∀ j, j < m → t.x j = s.x j
theorem guessG_ext {kind : Nat} {a c : Int} {x y : Nat → Int} {i : Nat} (h : ∀ j, j < i → y j = x j) (ho : ord kind ≤ i) : guessG kind a c y i = guessG kind a c x i := by
  unfold guessG
  rw [sumG_congr (ord kind) (fun _ _ => rfl) (fun j hj => h (i - 1 - j) (by omega))]
theorem JobExt.rdK' {J K : Job} (h : JobExt J K) {m : Nat} {s t s' : St} (hs : Sim m s t) (hr : J.rdK s = some s') : ∃ t', K.rdK t = some t' ∧ Sim m s' t' ∧ s'.p ≤ J.N := by
  unfold Job.rdK at hr
  split at hr
  · rename_i hh
    simp only [Option.some.injEq] at hr
    subst hr
    have e := num_ext h.ag (p := s.p) (k := 4) hh.1
    have hle := h.le
    refine ⟨⟨s.p + 4, num J.b s.p 4, t.x⟩, ?_, ⟨rfl, rfl, hs.x⟩, hh.1⟩
    unfold Job.rdK
    rw [hs.p, ← e, if_pos ⟨by omega, hh.2⟩]
  · cases hr
theorem JobExt.plc {J K : Job} (h : JobExt J K) {i : Nat} {s t s' : St} (hs : Sim (max i (ord J.kind)) s t) (hp : s.p ≤ J.N) (hr : J.plc i s = some s') : ∃ t', K.plc i t = some t' ∧ Sim (max (i + 1) (ord J.kind)) s' t' ∧ s'.p ≤ J.N := by
  unfold Job.plc at hr ⊢
  rw [h.kind, h.a, h.c, h.w, hs.p, hs.k]
  split at hr
  · rename_i hi
    simp only [Option.some.injEq] at hr
    subst hr
    rw [if_pos hi]
    exact ⟨t, rfl, ⟨hs.p, hs.k, fun j hj => hs.x j (by omega)⟩, hp⟩
  · rename_i hi
    rw [if_neg hi, guessG_ext (x := s.x) (fun j hj => hs.x j (by omega)) (by omega)]
    cases hx : rice J.b J.N s.k s.p with
    | none => rw [hx] at hr; cases hr
    | some r =>
      obtain ⟨v, p'⟩ := r
      obtain ⟨h1, h2, _⟩ := rice_ext h.ag h.le hx
      rw [hx] at hr
      rw [h1]
      simp only at hr ⊢
      split at hr
      · rename_i hf
        simp only [Option.some.injEq] at hr
        subst hr
        rw [if_pos hf]
        refine ⟨_, rfl, ⟨rfl, rfl, fun j hj => ?_⟩, h2⟩
        simp only [updI]
        by_cases e : j = i
        · rw [if_pos e, if_pos e]
        · rw [if_neg e, if_neg e]; exact hs.x j (by omega)
      · cases hr
theorem JobExt.R {J K : Job} (h : JobExt J K) {s0 t0 : St} (h0 : Sim (ord J.kind) s0 t0) (hp : s0.p ≤ J.N) : ∀ i s, J.R s0 i = some s → ∃ t, K.R t0 i = some t ∧ Sim (max i (ord J.kind)) s t ∧ s.p ≤ J.N
  | 0, s, hr => by
    simp only [Job.R, Option.some.injEq] at hr ⊢
    subst hr
    exact ⟨t0, rfl, ⟨h0.p, h0.k, fun j hj => h0.x j (by omega)⟩, hp⟩
  | i + 1, s', hr => by
    simp only [Job.R] at hr ⊢
    cases h1 : J.R s0 i with
    | none => rw [h1] at hr; cases hr
    | some s =>
      obtain ⟨t, e1, m1, p1⟩ := h.R h0 hp i s h1
      rw [h1, Option.bind_some] at hr
      rw [e1, Option.bind_some, h.size]
      by_cases hm : i % J.size = 0
      · rw [if_pos hm] at hr ⊢
        cases h2 : J.rdK s with
        | none => rw [h2] at hr; cases hr
        | some s2 =>
          obtain ⟨t2, e2, m2, p2⟩ := h.rdK' m1 h2
          rw [h2, Option.bind_some] at hr
          rw [e2, Option.bind_some]
          exact h.plc m2 p2 hr
      · rw [if_neg hm, Option.bind_some] at hr ⊢
        exact h.plc m1 p1 hr
theorem restsSt_ext {b b' : Nat → Bool} {N M d kind : Nat} {a c : Int} {n p : Nat} {x0 y0 : Nat → Int} {s : St} (h : Agree b b' N) (hNM : N ≤ M) (hxy : ∀ j, j < ord kind → y0 j = x0 j) (hr : restsSt b N d kind a c n p x0 = some s) :
    ∃ t, restsSt b' M d kind a c n p y0 = some t ∧ Sim (max n (ord kind)) s t ∧ s.p ≤ N := by
  unfold restsSt at hr
  split at hr
  · rename_i hh
    have e := num_ext h (p := p) (k := 2) hh.1
    unfold restsSt
    rw [← e, if_pos ⟨by omega, hh.2⟩]
    exact JobExt.R (J := theJob b N d kind a c n p) (K := theJob b' M d kind a c n p) ⟨h, hNM, rfl, rfl, rfl, rfl, by unfold theJob; rw [e]⟩ (s0 := ⟨p + 2, 0, x0⟩) (t0 := ⟨p + 2, 0, y0⟩) ⟨rfl, rfl, hxy⟩ (show p + 2 ≤ N from hh.1) n s hr
  · cases hr
/-- what is read of a text is read of every longer one that agrees with it -/
theorem bodySt_ext {b b' : Nat → Bool} {N M kind d n p : Nat} {r : (Nat → Int) × Nat} (h : Agree b b' N) (hNM : N ≤ M) (hr : bodySt b N kind d n p = some r) : ∃ r', bodySt b' M kind d n p = some r' ∧ r'.2 = r.2 ∧ r.2 ≤ N := by
  unfold bodySt at hr ⊢
  by_cases h0 : kind = 0
  · rw [if_pos h0] at hr ⊢
    split at hr
    · rename_i hh
      simp only [Option.some.injEq] at hr
      subst hr
      rw [if_pos (by omega)]
      exact ⟨_, rfl, rfl, hh⟩
    · cases hr
  · rw [if_neg h0] at hr ⊢
    by_cases h1 : kind = 1
    · rw [if_pos h1] at hr ⊢
      split at hr
      · rename_i hh
        simp only [Option.some.injEq] at hr
        subst hr
        rw [if_pos (by omega)]
        exact ⟨_, rfl, rfl, hh⟩
      · cases hr
    · rw [if_neg h1] at hr ⊢
      split at hr
      · cases hr
      · rename_i h2
        rw [if_neg h2]
        split at hr
        · rename_i h3
          rw [if_pos (by omega)]
          have hx : ∀ i, i < ord kind → sgn b' (posn p d i) d = sgn b (posn p d i) d := fun i hi => (sgn_ext h (by
            have := posn_le p d (show i + 1 ≤ ord kind from hi)
            rw [posn_succ] at this
            omega)).symm
          by_cases h7 : kind = 7
          · rw [if_pos h7] at hr ⊢
            split at hr
            · rename_i h4
              rw [if_pos (by omega), ← sgn_ext h (p := posn p d (ord kind)) (k := 6) (by omega), ← sgn_ext h (p := posn p d (ord kind) + 6) (k := 6) (by omega)]
              obtain ⟨s, hs, rfl⟩ := Option.map_eq_some_iff.1 hr
              obtain ⟨t, ht, hsim, hsp⟩ := restsSt_ext h hNM hx hs
              exact ⟨(t.x, t.p), by rw [ht]; rfl, hsim.p, hsp⟩
            · cases hr
          · rw [if_neg h7] at hr ⊢
            obtain ⟨s, hs, rfl⟩ := Option.map_eq_some_iff.1 hr
            obtain ⟨t, ht, hsim, hsp⟩ := restsSt_ext h hNM hx hs
            exact ⟨(t.x, t.p), by rw [ht]; rfl, hsim.p, hsp⟩
        · cases hr
theorem readSt_ext {b b' : Nat → Bool} {N M width n : Nat} {r : (Nat → Int) × Nat} (h : Agree b b' N) (hNM : N ≤ M) (hr : readSt b N width n = some r) : ∃ r', readSt b' M width n = some r' ∧ r'.2 = r.2 ∧ r.2 ≤ N := by
  unfold readSt at hr
  split at hr
  · rename_i hh
    obtain ⟨s, hs, rfl⟩ := Option.map_eq_some_iff.1 hr
    have e0 := num_ext h (p := 0) (k := 4) (by omega)
    have e4 := num_ext h (p := 4) (k := 4) (by omega)
    obtain ⟨t, ht, h1, h2⟩ := bodySt_ext h hNM hs
    unfold readSt
    rw [← e0, ← e4, if_pos ⟨by omega, hh.2⟩, ht]
    exact ⟨_, rfl, h1, h2⟩
  · cases hr
/-- a text stands at a place -/
def SaysT (b : Nat → Bool) (p : Nat) (T : List UInt8) : Prop := ∀ i (h : i < T.length), T[i] = ltr (b (p + i))
theorem SaysT.left {b : Nat → Bool} {p : Nat} {T U : List UInt8} (h : SaysT b p (T ++ U)) : SaysT b p T := fun i hi => by
  have := h i (by rw [List.length_append]; omega)
  rw [List.getElem_append_left hi] at this
  exact this
theorem SaysT.right {b : Nat → Bool} {p : Nat} {T U : List UInt8} (h : SaysT b p (T ++ U)) : SaysT b (p + T.length) U := fun i hi => by
  have := h (T.length + i) (by rw [List.length_append]; omega)
  rw [List.getElem_append_right (by omega)] at this
  simp only [Nat.add_sub_cancel_left] at this
  rw [this, Nat.add_assoc]
theorem ltr_inj {a b : Bool} (h : ltr a = ltr b) : a = b := by cases a <;> cases b <;> first | rfl | (exact absurd h (by decide))
theorem bin_says {b : Nat → Bool} {p : Nat} {v : Int} {k : Nat} (h : SaysT b p (binT v k)) (i : Nat) (hi : i < k) : b (p + i) = decide (v / 2 ^ (k - 1 - i) % 2 = 1) := by
  have := h i (by rw [binT_length]; exact hi)
  unfold binT at this
  simp only [List.getElem_map, List.getElem_range] at this
  exact (ltr_inj this).symm
/-- the number of bits of v -/
theorem emod_two_mul (v : Int) (k : Nat) : v % (2 * 2 ^ k) = v % 2 + 2 * (v / 2 % 2 ^ k) := by
  have hp : (0 : Int) < 2 ^ k := by
    have h : 0 < 2 ^ k := Nat.two_pow_pos k
    have e : ((2 ^ k : Nat) : Int) = (2 : Int) ^ k := by simp
    omega
  have h1 := Int.emod_add_mul_ediv v 2
  have h2 := Int.emod_add_mul_ediv (v / 2) (2 ^ k)
  have h3 := Int.emod_nonneg (v / 2) (Int.ne_of_gt hp)
  have h4 := Int.emod_lt_of_pos (v / 2) hp
  have e : v = (v % 2 + 2 * (v / 2 % 2 ^ k)) + (2 * 2 ^ k) * (v / 2 / 2 ^ k) := by
    rw [Int.mul_assoc]; omega
  have h5 : (v % 2 + 2 * (v / 2 % 2 ^ k)) % (2 * 2 ^ k) = v % 2 + 2 * (v / 2 % 2 ^ k) := Int.emod_eq_of_lt (by omega) (by omega)
  calc v % (2 * 2 ^ k) = ((v % 2 + 2 * (v / 2 % 2 ^ k)) + (2 * 2 ^ k) * (v / 2 / 2 ^ k)) % (2 * 2 ^ k) := by rw [← e]
    _ = (v % 2 + 2 * (v / 2 % 2 ^ k)) % (2 * 2 ^ k) := Int.add_mul_emod_self_left _ _ _
    _ = _ := h5
theorem bitsNum_bin (v : Int) : ∀ k (f : Nat → Bool), (∀ i, i < k → f i = decide (v / 2 ^ (k - 1 - i) % 2 = 1)) → (bitsNum f k : Int) = v % 2 ^ k
  | 0, f, _ => by simp [bitsNum, Int.emod_one]
  | k + 1, f, h => by
    have ih := bitsNum_bin (v / 2) k f (fun i hi => by
      rw [h i (by omega)]
      congr 2
      have e : k + 1 - 1 - i = (k - 1 - i) + 1 := by omega
      rw [e, Int.pow_succ, Int.mul_comm, ← Int.ediv_ediv_of_nonneg (by omega)])
    have hl := h k (by omega)
    simp only [Nat.add_sub_cancel, Nat.sub_self, Int.pow_zero, Int.ediv_one] at hl
    simp only [bitsNum]
    rw [hl]
    have e2 : (2 : Int) ^ (k + 1) = 2 * 2 ^ k := by rw [Int.pow_succ, Int.mul_comm]
    have e3 : v % (2 * 2 ^ k) = v % 2 + 2 * (v / 2 % 2 ^ k) := emod_two_mul v k
    rw [e2, e3, ← ih]
    by_cases h1 : v % 2 = 1
    · simp [h1]; omega
    · have h0 : v % 2 = 0 := by omega
      simp [h0]
end Go.Proofs.YtlncjgnomhpjnabGreatDoor

/-
  Plain mathematics for 'Tight': what was laid down is read back.
-/
namespace Go.Proofs.YtlncjgnomhpjnabGreatDoor
set_option linter.unusedVariables false
theorem num_bin {b : Nat → Bool} {p : Nat} {v : Int} {k : Nat} (h : SaysT b p (binT v k)) : (num b p k : Int) = v % 2 ^ k := bitsNum_bin v k _ (fun i hi => bin_says h i hi)
theorem num_binN {b : Nat → Bool} {p v k : Nat} (h : SaysT b p (binT v k)) (hv : v < 2 ^ k) : num b p k = v := by
  have e := num_bin h
  have e2 : ((2 ^ k : Nat) : Int) = (2 : Int) ^ k := by simp
  rw [Int.emod_eq_of_lt (by omega) (by rw [← e2]; omega)] at e
  omega
theorem sgn_bin {b : Nat → Bool} {p : Nat} {v : Int} {k : Nat} (h : SaysT b p (binT v k)) (hk : 1 ≤ k) (hf : fitsB k v = true) : sgn b p k = v := by
  have e := num_bin h
  unfold fitsB at hf
  rw [within_iff] at hf
  obtain ⟨m, rfl⟩ : ∃ m, k = m + 1 := ⟨k - 1, by omega⟩
  have e2 : ((2 ^ m : Nat) : Int) = (2 : Int) ^ m := by simp
  have hp : 0 < 2 ^ m := Nat.two_pow_pos m
  have e3 : (2 : Int) ^ (m + 1) = 2 * 2 ^ m := by rw [Int.pow_succ, Int.mul_comm]
  unfold sgn
  simp only [Nat.add_sub_cancel] at hf ⊢
  rw [e3] at e ⊢
  rw [← e2] at e hf ⊢
  generalize 2 ^ m = q at *
  by_cases h0 : 0 ≤ v
  · rw [Int.emod_eq_of_lt h0 (by omega)] at e
    rw [if_neg (by omega)]; exact e
  · have e4 : v % (2 * (q : Int)) = v + 2 * q := by
      rw [← Int.add_mul_emod_self_left v (2 * (q : Int)) 1, Int.mul_one]
      exact Int.emod_eq_of_lt (by omega) (by omega)
    rw [e4] at e
    rw [if_pos (by omega)]; omega
theorem unf_fold (v : Int) : unf (foldN v) = v := by
  have h := foldN_int v
  unfold unf
  split at h
  · rw [if_pos (by omega)]; omega
  · rw [if_neg (by omega)]; omega
theorem rice_back {b : Nat → Bool} {N p f k : Nat} (h : SaysT b p (riceT f k)) (hN : p + riceL f k ≤ N) : rice b N k p = some (unf f, p + riceL f k) := by
  unfold riceT at h
  have h1 := h.left.left
  have h2 := h.left.right
  have h3 := h.right
  rw [List.length_replicate] at h2
  rw [List.length_append, List.length_replicate] at h3
  unfold riceL at hN
  have hz : zrun b (N - p) p = f / 2 ^ k := by
    refine zrun_eq b (N - p) p _ (by omega) (fun i hi => ?_) (fun _ => ?_)
    · have := h1 i (by rw [List.length_replicate]; exact hi)
      rw [List.getElem_replicate] at this
      exact (ltr_inj (show ltr false = _ from this)).symm
    · have := h2 0 (by simp)
      rw [Nat.add_zero] at this
      exact (ltr_inj (show ltr true = _ from this)).symm
  have hn : num b (p + f / 2 ^ k + 1) k = f % 2 ^ k := by
    have e := num_bin (b := b) (p := p + f / 2 ^ k + 1) (v := (f : Int)) (k := k) (by rw [Nat.add_assoc]; exact h3)
    have e2 : ((2 ^ k : Nat) : Int) = (2 : Int) ^ k := by simp
    rw [← e2] at e
    omega
  unfold rice
  rw [hz, if_pos (by omega), hn]
  congr 2
  · congr 1
    have := Nat.div_add_mod f (2 ^ k)
    rw [Nat.mul_comm] at this
    exact this
  · unfold riceL; omega
end Go.Proofs.YtlncjgnomhpjnabGreatDoor

/-
  Plain mathematics for 'Tight': the rests are read back.
-/
namespace Go.Proofs.YtlncjgnomhpjnabGreatDoor
set_option linter.unusedVariables false
theorem coded_at {b : Nat → Bool} {p k lo : Nat} {f : Nat → Nat} : ∀ {m j : Nat}, SaysT b p (codedT f k lo m) → j < m → SaysT b (p + plen f k lo j) (riceT (f (lo + j)) k)
  | 0, j, _, hj => absurd hj (Nat.not_lt_zero j)
  | m + 1, j, h, hj => by
    simp only [codedT] at h
    by_cases e : j = m
    · subst e
      have := h.right
      rw [codedT_length] at this
      exact this
    · exact coded_at h.left (by omega)
theorem parts_at {b : Nat → Bool} {p o sz : Nat} {f : Nat → Nat} : ∀ {m q : Nat}, SaysT b p (partsT f o sz m) → q < m → SaysT b (p + partsL f o sz q) (binT (parN f o sz q) 4 ++ codedT f (parN f o sz q) (ploN o sz q) (pcnt o sz q))
  | 0, q, _, hq => absurd hq (Nat.not_lt_zero q)
  | m + 1, q, h, hq => by
    simp only [partsT] at h
    by_cases e : q = m
    · subst e
      have := h.right
      rw [partsT_length] at this
      exact this
    · exact parts_at h.left (by omega)
theorem plen_mono (f : Nat → Nat) (k lo : Nat) {i : Nat} : ∀ {j : Nat}, i ≤ j → plen f k lo i ≤ plen f k lo j
  | 0, h => by have : i = 0 := by omega
               subst this; exact Nat.le_refl _
  | j + 1, h => by
    by_cases e : i = j + 1
    · subst e; exact Nat.le_refl _
    · have := plen_mono f k lo (i := i) (j := j) (by omega)
      simp only [plen]; omega
/-- what holds behind i places -/
structure At (s : St) (p m : Nat) (x : Nat → Int) : Prop where
  p : s.p = p
  x : ∀ j, j < m → s.x j = x j
section
variable (J : Job) (x : Nat → Int) (n P p0 : Nat) (f : Nat → Nat)
variable (hN : n = J.size * P) (ho : ord J.kind < J.size) (hfit : ∀ j, j < n → fitsB J.w (x j) = true) (hf : ∀ i, f i = foldN (x i - guessG J.kind J.a J.c x i))
variable (hT : SaysT J.b p0 (partsT f (ord J.kind) J.size P)) (hL : p0 + partsL f (ord J.kind) J.size P ≤ J.N)
theorem part_back (s0 s : St) (q : Nat) (hq : q < P) (hR : J.R s0 (q * J.size) = some s) (hs : At s (p0 + partsL f (ord J.kind) J.size q) (max (q * J.size) (ord J.kind)) x)
    (hfit : ∀ j, j < n → fitsB J.w (x j) = true) (hN : n = J.size * P) (hf : ∀ i, f i = foldN (x i - guessG J.kind J.a J.c x i)) (hT : SaysT J.b p0 (partsT f (ord J.kind) J.size P)) (hL : p0 + partsL f (ord J.kind) J.size P ≤ J.N) (ho : ord J.kind < J.size) :
    ∀ t, t ≤ J.size → ∃ s', J.U s0 (q * J.size) t = some s' ∧ s'.k = parN f (ord J.kind) J.size q ∧
      At s' (p0 + partsL f (ord J.kind) J.size q + 4 + plen f (parN f (ord J.kind) J.size q) (ploN (ord J.kind) J.size q) (q * J.size + t - ploN (ord J.kind) J.size q)) (max (q * J.size + t) (ord J.kind)) x := by
  have hpart := parts_at hT hq
  have hK := hpart.left
  have hC := hpart.right
  rw [binT_length] at hC
  have hK14 : parN f (ord J.kind) J.size q ≤ 14 := parK_le _ _ _
  have hmono := partsL_mono f (ord J.kind) J.size (i := q + 1) (j := P) hq
  have hsucc : partsL f (ord J.kind) J.size (q + 1) = partsL f (ord J.kind) J.size q + (4 + plen f (parN f (ord J.kind) J.size q) (ploN (ord J.kind) J.size q) (pcnt (ord J.kind) J.size q)) := rfl
  have hqn : (q + 1) * J.size ≤ n := by
    rw [hN, Nat.mul_comm J.size P]; exact Nat.mul_le_mul_right _ hq
  have hq1 : (q + 1) * J.size = q * J.size + J.size := Nat.succ_mul _ _
  have hpc : pcnt (ord J.kind) J.size q = q * J.size + J.size - ploN (ord J.kind) J.size q := by unfold pcnt; rw [hq1]
  have hlo : ploN (ord J.kind) J.size q = max (q * J.size) (ord J.kind) := rfl
  generalize parN f (ord J.kind) J.size q = K at *
  generalize ploN (ord J.kind) J.size q = lo at *
  generalize partsL f (ord J.kind) J.size q = L0 at *
  intro t
  induction t with
  | zero =>
    intro _
    refine ⟨⟨s.p + 4, K, s.x⟩, ?_, rfl, ⟨?_, hs.x⟩⟩
    · simp only [Job.U]
      rw [hR, Option.bind_some]
      unfold Job.rdK
      have hn : num J.b s.p 4 = K := by rw [hs.p]; exact num_binN hK (by omega)
      rw [hn, if_pos ⟨by rw [hs.p]; omega, hK14⟩]
    · show s.p + 4 = _
      rw [hs.p, show q * J.size + 0 - lo = 0 by omega]; rfl
  | succ t ih =>
    intro ht
    obtain ⟨s', hU, hk, hat⟩ := ih (by omega)
    simp only [Job.U]
    rw [hU, Option.bind_some]
    by_cases hi : q * J.size + t < ord J.kind
    · refine ⟨s', ?_, hk, ⟨?_, fun j hj => hat.x j (by omega)⟩⟩
      · unfold Job.plc; rw [if_pos hi]
      · rw [hat.p]; congr 2; omega
    · have hin : q * J.size + t < n := by omega
      have e1 : lo + (q * J.size + t - lo) = q * J.size + t := by omega
      have hrs := coded_at hC (j := q * J.size + t - lo) (by omega)
      rw [e1] at hrs
      have hpl : plen f K lo (q * J.size + (t + 1) - lo) = plen f K lo (q * J.size + t - lo) + riceL (f (q * J.size + t)) K := by
        rw [show q * J.size + (t + 1) - lo = (q * J.size + t - lo) + 1 by omega]
        simp only [plen]; rw [e1]
      have hple := plen_mono f K lo (i := q * J.size + (t + 1) - lo) (j := pcnt (ord J.kind) J.size q) (by omega)
      have hrice : rice J.b J.N s'.k s'.p = some (unf (f (q * J.size + t)), s'.p + riceL (f (q * J.size + t)) K) := by
        rw [hk, hat.p]
        exact rice_back hrs (by omega)
      have hg : guessG J.kind J.a J.c s'.x (q * J.size + t) = guessG J.kind J.a J.c x (q * J.size + t) := guessG_ext (fun j hj => hat.x j (by omega)) (by omega)
      have hv : guessG J.kind J.a J.c s'.x (q * J.size + t) + unf (f (q * J.size + t)) = x (q * J.size + t) := by
        rw [hg, hf, unf_fold]; omega
      refine ⟨⟨s'.p + riceL (f (q * J.size + t)) K, s'.k, updI s'.x (q * J.size + t) (x (q * J.size + t))⟩, ?_, hk, ⟨?_, fun j hj => ?_⟩⟩
      · rw [Job.plc_yes hi hrice (by rw [hv]; exact hfit _ hin), hv]
      · show s'.p + _ = _
        rw [hat.p, hpl]; omega
      · show updI _ _ _ j = x j
        unfold updI
        by_cases e : j = q * J.size + t
        · rw [if_pos e, e]
        · rw [if_neg e]; exact hat.x j (by omega)
theorem rests_back (s0 : St) (h0 : At s0 p0 (ord J.kind) x) (hN : n = J.size * P) (ho : ord J.kind < J.size) (hfit : ∀ j, j < n → fitsB J.w (x j) = true) (hf : ∀ i, f i = foldN (x i - guessG J.kind J.a J.c x i))
    (hT : SaysT J.b p0 (partsT f (ord J.kind) J.size P)) (hL : p0 + partsL f (ord J.kind) J.size P ≤ J.N) :
    ∀ q, q ≤ P → ∃ s, J.R s0 (q * J.size) = some s ∧ At s (p0 + partsL f (ord J.kind) J.size q) (max (q * J.size) (ord J.kind)) x := by
  intro q
  induction q with
  | zero =>
    intro _
    refine ⟨s0, by rw [Nat.zero_mul]; rfl, ⟨h0.p, fun j hj => h0.x j (by omega)⟩⟩
  | succ q ih =>
    intro hq
    obtain ⟨s, hR, hs⟩ := ih (by omega)
    obtain ⟨s', hU, _, hat⟩ := part_back J x n P p0 f s0 s q (by omega) hR hs hfit hN hf hT hL ho J.size (Nat.le_refl _)
    rw [J.U_eq s0 (q * J.size) (Nat.mul_mod_left _ _) J.size (by omega) (Nat.le_refl _)] at hU
    have e : (q + 1) * J.size = q * J.size + J.size := Nat.succ_mul _ _
    refine ⟨s', by rw [e]; exact hU, ⟨?_, fun j hj => hat.x j (by omega)⟩⟩
    rw [hat.p]
    have hsucc : partsL f (ord J.kind) J.size (q + 1) = partsL f (ord J.kind) J.size q + (4 + plen f (parN f (ord J.kind) J.size q) (ploN (ord J.kind) J.size q) (pcnt (ord J.kind) J.size q)) := rfl
    have hpc : pcnt (ord J.kind) J.size q = q * J.size + J.size - ploN (ord J.kind) J.size q := by unfold pcnt; rw [e]
    rw [hsucc, hpc]; omega
end
end Go.Proofs.YtlncjgnomhpjnabGreatDoor

