import Derived.Test.YtlncjgnomhpjnaaGreatDoorPR18
import Derived.Test.YtlncjgnomhpjnaaGreatDoorPR8
import Derived.Test.YtlncjgnomhpjnaaGreatDoorPR20
import Derived.Test.YtlncjgnomhpjnaaGreatDoorPR21
/-
  The subframes of a frame, one behind the other: mathematics.
-/
namespace Go.Proofs.YtlncjgnomhpjnaaGreatDoor
set_option linter.unusedVariables false
theorem readSt_le {b : Nat → Bool} {N width n : Nat} {r : (Nat → Int) × Nat} (h : readSt b N width n = some r) : r.2 ≤ N := by
  obtain ⟨_, -, -, h3⟩ := readSt_ext (b := b) (b' := b) (N := N) (M := N) (fun _ _ => rfl) (Nat.le_refl _) h
  exact h3
theorem readSt_bd {b : Nat → Bool} {N width n : Nat} {r : (Nat → Int) × Nat} (hw : width ≤ 13) (h : readSt b N width n = some r) : ∀ j, j < n → -4096 ≤ r.1 j ∧ r.1 j ≤ 4096 := by
  intro j hj
  unfold readSt at h
  split at h
  · rename_i hc
    cases hb : bodySt b N (num b 0 4) (width - num b 4 4) n 8 with
    | none => rw [hb] at h; cases h
    | some xp =>
      rw [hb] at h
      simp only [Option.map_some, Option.some.injEq] at h
      rw [← h]
      exact mul_sh (width := width) (body_fits (by omega) hb j hj) (by omega) (by omega)
  · cases h
def upd2 (G : Nat → Nat → Int) (i : Nat) (x : Nat → Int) (j : Nat) : Nat → Int := if j = i then x else G j
/-- the first i subframes of a frame, and where the next one begins -/
def subsAt (b : Nat → Bool) (N d n m nn : Nat) : Nat → Option ((Nat → Nat → Int) × Nat)
  | 0 => some (fun _ _ => 0, 0)
  | i + 1 => (subsAt b N d n m nn i).bind fun r => (readAt b N r.2 (widN d n m i) nn).map fun xp => (upd2 r.1 i xp.1, xp.2)
theorem widN_bd {d n m i : Nat} (hd1 : 1 ≤ d) (hd : d ≤ 12) : 1 ≤ widN d n m i ∧ widN d n m i ≤ 13 := by
  unfold widN w1 w2
  split
  · split
    · split <;> omega
    · split <;> omega
  · omega
theorem readAt_le {b : Nat → Bool} {N o width n : Nat} {r : (Nat → Int) × Nat} (ho : o ≤ N) (h : readAt b N o width n = some r) : r.2 ≤ N ∧ o ≤ r.2 := by
  rw [readAt_sh ho] at h
  cases hr : readSt (shB b o) (N - o) width n with
  | none => rw [hr] at h; cases h
  | some x =>
    rw [hr] at h
    simp only [Option.map_some, Option.some.injEq] at h
    have := readSt_le hr
    rw [← h]
    exact ⟨by show o + x.2 ≤ N; omega, by show o ≤ o + x.2; omega⟩
theorem readAt_bd {b : Nat → Bool} {N o width n : Nat} {r : (Nat → Int) × Nat} (ho : o ≤ N) (hw : width ≤ 13) (h : readAt b N o width n = some r) : ∀ j, j < n → -4096 ≤ r.1 j ∧ r.1 j ≤ 4096 := by
  rw [readAt_sh ho] at h
  cases hr : readSt (shB b o) (N - o) width n with
  | none => rw [hr] at h; cases h
  | some x =>
    rw [hr] at h
    simp only [Option.map_some, Option.some.injEq] at h
    intro j hj
    rw [← h]
    exact readSt_bd (b := shB b o) (N := N - o) (r := x) hw hr j hj
theorem subsAt_le {b : Nat → Bool} {N d n m nn : Nat} (hd1 : 1 ≤ d) (hd : d ≤ 12) : ∀ {i : Nat} {r : (Nat → Nat → Int) × Nat}, subsAt b N d n m nn i = some r → r.2 ≤ N ∧ ∀ k, k < i → ∀ j, j < nn → -4096 ≤ r.1 k j ∧ r.1 k j ≤ 4096
  | 0, r, h => by
    cases h
    exact ⟨Nat.zero_le _, fun k hk => absurd hk (Nat.not_lt_zero k)⟩
  | i + 1, r, h => by
    unfold subsAt at h
    cases hs : subsAt b N d n m nn i with
    | none => rw [hs] at h; cases h
    | some q =>
      rw [hs, Option.bind_some] at h
      obtain ⟨ih1, ih2⟩ := subsAt_le hd1 hd hs
      cases hr : readAt b N q.2 (widN d n m i) nn with
      | none => rw [hr] at h; cases h
      | some x =>
        rw [hr] at h
        simp only [Option.map_some, Option.some.injEq] at h
        rw [← h]
        refine ⟨(readAt_le ih1 hr).1, fun k hk j hj => ?_⟩
        show -4096 ≤ upd2 q.1 i x.1 k j ∧ upd2 q.1 i x.1 k j ≤ 4096
        unfold upd2
        by_cases e : k = i
        · rw [if_pos e]; exact readAt_bd ih1 (widN_bd hd1 hd).2 hr j hj
        · rw [if_neg e]; exact ih2 k (by omega) j hj
theorem subsAt_none {b : Nat → Bool} {N d n m nn i k : Nat} (h : subsAt b N d n m nn i = none) (hk : i ≤ k) : subsAt b N d n m nn k = none := by
  induction k with
  | zero => have : i = 0 := by omega
            subst this; exact h
  | succ k ih =>
    by_cases e : i = k + 1
    · rw [← e]; exact h
    · unfold subsAt
      rw [ih (by omega)]; rfl
/-- what the bits of a frame tell, in the end -/
def sampP (d m nn : Nat) (G : Nat → Nat → Int) : Prop := ∀ j, j < nn → fitsB d (unL m (G 0 j) (G 1 j)) = true ∧ fitsB d (unR m (G 0 j) (G 1 j)) = true
def unG (n m : Nat) (G : Nat → Nat → Int) (i j : Nat) : Int := if n = 2 then (if i = 0 then unL m (G 0 j) (G 1 j) else unR m (G 0 j) (G 1 j)) else G i j
/-- the bits tell these samples -/
def InsP (BT : List UInt8) (b : Nat → Bool) (d n m nn : Nat) (H : Nat → Nat → Int) : Prop :=
  ∃ G o, subsAt b BT.length d n m nn n = some (G, o) ∧ FillP (BT.drop o) ∧ (n = 2 → sampP d m nn G) ∧ H = unG n m G
end Go.Proofs.YtlncjgnomhpjnaaGreatDoor

