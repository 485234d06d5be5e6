/-
  Plain mathematics for 'Sums': running sums of bytes. No dump is imported.
-/
namespace Go.Proofs.Ytlncjgnomhpjnaa

theorem take_snoc (s : ByteArray) (k : Nat) (h : k < s.size) : s.data.toList.take (k + 1) = s.data.toList.take k ++ [s[k]] := by
  rw [List.take_succ_eq_append_getElem (by simpa using h)]; rfl

/-- one and the bytes' sum -/
def sA (l : List UInt8) : Nat := l.foldl (fun a c => a + c.toNat) 1
/-- the sum of the sums -/
def sP (l : List UInt8) : Nat × Nat := l.foldl (fun p c => (p.1 + c.toNat, p.2 + (p.1 + c.toNat))) (1, 0)
def sB (l : List UInt8) : Nat := (sP l).2
/-- the sum by weights -/
def sQ (n : Nat) (l : List UInt8) : Nat × Nat := l.foldl (fun p c => (p.1 + 1, p.2 + (n - p.1) * c.toNat)) (0, n)
def sR (n : Nat) (l : List UInt8) : Nat := (sQ n l).2

theorem sA_snoc (l : List UInt8) (c : UInt8) : sA (l ++ [c]) = sA l + c.toNat := by simp [sA, List.foldl_append]
theorem sP_snoc (l : List UInt8) (c : UInt8) : sP (l ++ [c]) = ((sP l).1 + c.toNat, (sP l).2 + ((sP l).1 + c.toNat)) := by simp [sP, List.foldl_append]
theorem sQ_snoc (n : Nat) (l : List UInt8) (c : UInt8) : sQ n (l ++ [c]) = ((sQ n l).1 + 1, (sQ n l).2 + (n - (sQ n l).1) * c.toNat) := by simp [sQ, List.foldl_append]

theorem snoc_ind {P : List UInt8 → Prop} (h0 : P []) (h1 : ∀ l c, P l → P (l ++ [c])) (l : List UInt8) : P l := by
  have h : ∀ m : List UInt8, P m.reverse := by
    intro m
    induction m with
    | nil => exact h0
    | cons c m ih => rw [List.reverse_cons]; exact h1 _ _ ih
  have := h l.reverse
  rwa [List.reverse_reverse] at this

theorem sP_fst (l : List UInt8) : (sP l).1 = sA l := by
  refine snoc_ind (P := fun l => (sP l).1 = sA l) rfl ?_ l
  intro l c ih
  rw [sP_snoc, sA_snoc, ih]
theorem sQ_fst (n : Nat) (l : List UInt8) : (sQ n l).1 = l.length := by
  refine snoc_ind (P := fun l => (sQ n l).1 = l.length) rfl ?_ l
  intro l c ih
  rw [sQ_snoc, ih]; simp
theorem sB_snoc (l : List UInt8) (c : UInt8) : sB (l ++ [c]) = sB l + sA (l ++ [c]) := by
  unfold sB; rw [sP_snoc, sA_snoc, sP_fst]
theorem sR_snoc (n : Nat) (l : List UInt8) (c : UInt8) : sR n (l ++ [c]) = sR n l + (n - l.length) * c.toNat := by
  unfold sR; rw [sQ_snoc, sQ_fst]
theorem sR_succ (n : Nat) (l : List UInt8) (h : l.length ≤ n) : sR (n + 1) l = sR n l + sA l := by
  refine snoc_ind (P := fun l => l.length ≤ n → sR (n + 1) l = sR n l + sA l) (fun _ => rfl) ?_ l h
  intro l c ih h
  simp only [List.length_append, List.length_cons, List.length_nil] at h
  rw [sR_snoc, sR_snoc, sA_snoc, ih (by omega)]
  have : n + 1 - l.length = (n - l.length) + 1 := by omega
  rw [this, Nat.succ_mul]
  omega
theorem sR_full (l : List UInt8) : sR l.length l = sB l := by
  refine snoc_ind (P := fun l => sR l.length l = sB l) rfl ?_ l
  intro l c ih
  rw [sR_snoc, sB_snoc, sA_snoc]
  simp only [List.length_append, List.length_cons, List.length_nil, Nat.zero_add]
  rw [sR_succ _ _ (Nat.le_refl _), ih]
  have : l.length + 1 - l.length = 1 := by omega
  rw [this]
  omega
end Go.Proofs.Ytlncjgnomhpjnaa
