import Derived.Test.YtlncjgnomhpjnabGreatDoorPO4
import Derived.Test.YtlncjgnomhpjnabGreatDoorPO22
import Derived.Test.YtlncjgnomhpjnabGreatDoorPO5
import Derived.Test.YtlncjgnomhpjnabGreatDoorPO23
import Derived.Test.YtlncjgnomhpjnabGreatDoorPO24
import Derived.WalkMore
import Derived.Test.YtlncjgnomhpjnabGreatDoorPO20
import Derived.Test.YtlncjgnomhpjnabGreatDoorPO17
import Derived.Test.YtlncjgnomhpjnabGreatDoorPO15
import Derived.Test.YtlncjgnomhpjnabGreatDoorPO1
import Derived.Deep.QuietTactic
import Derived.BigQuiet
import Derived.Test.YtlncjgnomhpjnabGreatDoorPO19
import Derived.Deep.RegionHeld3
import Derived.Deep.DeepCutAuto
/-
  The subframes of a frame, one behind the other: mathematics.
-/
namespace Go.Proofs.YtlncjgnomhpjnabGreatDoor
set_option linter.unusedVariables false
theorem readSt_le {b : Nat → Bool} {N width n : Nat} {r : (Nat → Int) × Nat} (h : readSt b N width n = some r) : r.2 ≤ N := by
  obtain ⟨_, -, -, h3⟩ := readSt_ext (b := b) (b' := b) (N := N) (M := N) (fun _ _ => rfl) (Nat.le_refl _) h
  exact h3
theorem readSt_bd {b : Nat → Bool} {N width n : Nat} {r : (Nat → Int) × Nat} (hw : width ≤ 13) (h : readSt b N width n = some r) : ∀ j, j < n → -4096 ≤ r.1 j ∧ r.1 j ≤ 4096 := by
  intro j hj
  unfold readSt at h
  split at h
  · rename_i hc
    cases hb : bodySt b N (num b 0 4) (width - num b 4 4) n 8 with
    | none => rw [hb] at h; cases h
    | some xp =>
      rw [hb] at h
      simp only [Option.map_some, Option.some.injEq] at h
      rw [← h]
      exact mul_sh (width := width) (body_fits (by omega) hb j hj) (by omega) (by omega)
  · cases h
def upd2 (G : Nat → Nat → Int) (i : Nat) (x : Nat → Int) (j : Nat) : Nat → Int := if j = i then x else G j
/-- the first i subframes of a frame, and where the next one begins -/
def subsAt (b : Nat → Bool) (N d n m nn : Nat) : Nat → Option ((Nat → Nat → Int) × Nat)
  | 0 => some (fun _ _ => 0, 0)
  | i + 1 => (subsAt b N d n m nn i).bind fun r => (readAt b N r.2 (widN d n m i) nn).map fun xp => (upd2 r.1 i xp.1, xp.2)
theorem widN_bd {d n m i : Nat} (hd1 : 1 ≤ d) (hd : d ≤ 12) : 1 ≤ widN d n m i ∧ widN d n m i ≤ 13 := by
  unfold widN w1 w2
  split
  · split
    · split <;> omega
    · split <;> omega
  · omega
theorem readAt_le {b : Nat → Bool} {N o width n : Nat} {r : (Nat → Int) × Nat} (ho : o ≤ N) (h : readAt b N o width n = some r) : r.2 ≤ N ∧ o ≤ r.2 := by
  rw [readAt_sh ho] at h
  cases hr : readSt (shB b o) (N - o) width n with
  | none => rw [hr] at h; cases h
  | some x =>
    rw [hr] at h
    simp only [Option.map_some, Option.some.injEq] at h
    have := readSt_le hr
    rw [← h]
    exact ⟨by show o + x.2 ≤ N; omega, by show o ≤ o + x.2; omega⟩
theorem readAt_bd {b : Nat → Bool} {N o width n : Nat} {r : (Nat → Int) × Nat} (ho : o ≤ N) (hw : width ≤ 13) (h : readAt b N o width n = some r) : ∀ j, j < n → -4096 ≤ r.1 j ∧ r.1 j ≤ 4096 := by
  rw [readAt_sh ho] at h
  cases hr : readSt (shB b o) (N - o) width n with
  | none => rw [hr] at h; cases h
  | some x =>
    rw [hr] at h
    simp only [Option.map_some, Option.some.injEq] at h
    intro j hj
    rw [← h]
    exact readSt_bd (b := shB b o) (N := N - o) (r := x) hw hr j hj
theorem subsAt_le {b : Nat → Bool} {N d n m nn : Nat} (hd1 : 1 ≤ d) (hd : d ≤ 12) : ∀ {i : Nat} {r : (Nat → Nat → Int) × Nat}, subsAt b N d n m nn i = some r → r.2 ≤ N ∧ ∀ k, k < i → ∀ j, j < nn → -4096 ≤ r.1 k j ∧ r.1 k j ≤ 4096
  | 0, r, h => by
    cases h
    exact ⟨Nat.zero_le _, fun k hk => absurd hk (Nat.not_lt_zero k)⟩
  | i + 1, r, h => by
    unfold subsAt at h
    cases hs : subsAt b N d n m nn i with
    | none => rw [hs] at h; cases h
    | some q =>
      rw [hs, Option.bind_some] at h
      obtain ⟨ih1, ih2⟩ := subsAt_le hd1 hd hs
      cases hr : readAt b N q.2 (widN d n m i) nn with
      | none => rw [hr] at h; cases h
      | some x =>
        rw [hr] at h
        simp only [Option.map_some, Option.some.injEq] at h
        rw [← h]
        refine ⟨(readAt_le ih1 hr).1, fun k hk j hj => ?_⟩
        show -4096 ≤ upd2 q.1 i x.1 k j ∧ upd2 q.1 i x.1 k j ≤ 4096
        unfold upd2
        by_cases e : k = i
        · rw [if_pos e]; exact readAt_bd ih1 (widN_bd hd1 hd).2 hr j hj
        · rw [if_neg e]; exact ih2 k (by omega) j hj
theorem subsAt_none {b : Nat → Bool} {N d n m nn i k : Nat} (h : subsAt b N d n m nn i = none) (hk : i ≤ k) : subsAt b N d n m nn k = none := by
  induction k with
  | zero => have : i = 0 := by omega
            subst this; exact h
  | succ k ih =>
    by_cases e : i = k + 1
    · rw [← e]; exact h
    · unfold subsAt
      rw [ih (by omega)]; rfl
/-- what the bits of a frame tell, in the end -/
def sampP (d m nn : Nat) (G : Nat → Nat → Int) : Prop := ∀ j, j < nn → fitsB d (unL m (G 0 j) (G 1 j)) = true ∧ fitsB d (unR m (G 0 j) (G 1 j)) = true
def unG (n m : Nat) (G : Nat → Nat → Int) (i j : Nat) : Int := if n = 2 then (if i = 0 then unL m (G 0 j) (G 1 j) else unR m (G 0 j) (G 1 j)) else G i j
/-- the bits tell these samples -/
def InsP (BT : List UInt8) (b : Nat → Bool) (d n m nn : Nat) (H : Nat → Nat → Int) : Prop :=
  ∃ G o, subsAt b BT.length d n m nn n = some (G, o) ∧ FillP (BT.drop o) ∧ (n = 2 → sampP d m nn G) ∧ H = unG n m G
end Go.Proofs.YtlncjgnomhpjnabGreatDoor

/-
  The configuration in its variable, kept through calls.
-/
namespace Go.Proofs.YtlncjgnomhpjnabGreatDoor
open Go.RowKit Go.Deep
set_option linter.unusedVariables false
/-- the configuration's cells -/
def cfC (c0 c1 c2 c3 c4 c5 c6 c7 : Int) : Array Value := #[.int .i64 c0, .int .i64 c1, .int .i64 c2, .int .i64 c3, .int .i64 c4, .int .i64 c5, .int .i64 c6, .int .i64 c7]
/-- the configuration and the first list's place -/
def CfS (q b off : Nat) (c0 c1 c2 c3 c4 c5 c6 c7 : Int) (v : Value) (u : World) : Prop :=
  q < u.heap.size ∧ u.cell? ⟨q, 0, none⟩ = some (.int .i64 c0) ∧ u.cell? ⟨q, 1, none⟩ = some (.int .i64 c1) ∧ u.cell? ⟨q, 2, none⟩ = some (.int .i64 c2) ∧ u.cell? ⟨q, 3, none⟩ = some (.int .i64 c3) ∧ u.cell? ⟨q, 4, none⟩ = some (.int .i64 c4) ∧ u.cell? ⟨q, 5, none⟩ = some (.int .i64 c5) ∧ u.cell? ⟨q, 6, none⟩ = some (.int .i64 c6) ∧ u.cell? ⟨q, 7, none⟩ = some (.int .i64 c7) ∧ u.cell? ⟨b, off, none⟩ = some v
theorem keepC {q b off : Nat} {c0 c1 c2 c3 c4 c5 c6 c7 : Int} {v : Value} {u u' : World} (hb : Below u.heap.size u u') (hbl : b < u.heap.size) (h : CfS q b off c0 c1 c2 c3 c4 c5 c6 c7 v u) : CfS q b off c0 c1 c2 c3 c4 c5 c6 c7 v u' :=
  ⟨Nat.lt_of_lt_of_le h.1 hb.size, keep_cell hb h.1 h.2.1, keep_cell hb h.1 h.2.2.1, keep_cell hb h.1 h.2.2.2.1, keep_cell hb h.1 h.2.2.2.2.1, keep_cell hb h.1 h.2.2.2.2.2.1, keep_cell hb h.1 h.2.2.2.2.2.2.1, keep_cell hb h.1 h.2.2.2.2.2.2.2.1, keep_cell hb h.1 h.2.2.2.2.2.2.2.2.1, keep_cell hb hbl h.2.2.2.2.2.2.2.2.2⟩
theorem Bx.cfS {w : World} {q b off : Nat} {c0 c1 c2 c3 c4 c5 c6 c7 : Int} {v : Value} (h : Bx w q 23 #[.int .i64 c0, .int .i64 c1, .int .i64 c2, .int .i64 c3, .int .i64 c4, .int .i64 c5, .int .i64 c6, .int .i64 c7]) (hv : w.cell? ⟨b, off, none⟩ = some v) : CfS q b off c0 c1 c2 c3 c4 c5 c6 c7 v w :=
  ⟨h.lt, h.cell 0, h.cell 1, h.cell 2, h.cell 3, h.cell 4, h.cell 5, h.cell 6, h.cell 7, hv⟩
theorem ks_below {q b off : Nat} {c0 c1 c2 c3 c4 c5 c6 c7 : Int} {v : Value} {u u' : World} (hb : Below u.heap.size u u') (hbl : b < u.heap.size) (h : q < u.heap.size ∧ u.cell? ⟨q, 0, none⟩ = some (.int .i64 c0) ∧ u.cell? ⟨q, 1, none⟩ = some (.int .i64 c1) ∧ u.cell? ⟨q, 2, none⟩ = some (.int .i64 c2) ∧ u.cell? ⟨q, 3, none⟩ = some (.int .i64 c3) ∧ u.cell? ⟨q, 4, none⟩ = some (.int .i64 c4) ∧ u.cell? ⟨q, 5, none⟩ = some (.int .i64 c5) ∧ u.cell? ⟨q, 6, none⟩ = some (.int .i64 c6) ∧ u.cell? ⟨q, 7, none⟩ = some (.int .i64 c7) ∧ u.cell? ⟨b, off, none⟩ = some v) : q < u'.heap.size ∧ u'.cell? ⟨q, 0, none⟩ = some (.int .i64 c0) ∧ u'.cell? ⟨q, 1, none⟩ = some (.int .i64 c1) ∧ u'.cell? ⟨q, 2, none⟩ = some (.int .i64 c2) ∧ u'.cell? ⟨q, 3, none⟩ = some (.int .i64 c3) ∧ u'.cell? ⟨q, 4, none⟩ = some (.int .i64 c4) ∧ u'.cell? ⟨q, 5, none⟩ = some (.int .i64 c5) ∧ u'.cell? ⟨q, 6, none⟩ = some (.int .i64 c6) ∧ u'.cell? ⟨q, 7, none⟩ = some (.int .i64 c7) ∧ u'.cell? ⟨b, off, none⟩ = some v :=
  keepC hb hbl h
theorem ks_al {q b off : Nat} {c0 c1 c2 c3 c4 c5 c6 c7 : Int} {v : Value} {u : World} {o : Obj} (hbl : b < u.heap.size) (h : q < u.heap.size ∧ u.cell? ⟨q, 0, none⟩ = some (.int .i64 c0) ∧ u.cell? ⟨q, 1, none⟩ = some (.int .i64 c1) ∧ u.cell? ⟨q, 2, none⟩ = some (.int .i64 c2) ∧ u.cell? ⟨q, 3, none⟩ = some (.int .i64 c3) ∧ u.cell? ⟨q, 4, none⟩ = some (.int .i64 c4) ∧ u.cell? ⟨q, 5, none⟩ = some (.int .i64 c5) ∧ u.cell? ⟨q, 6, none⟩ = some (.int .i64 c6) ∧ u.cell? ⟨q, 7, none⟩ = some (.int .i64 c7) ∧ u.cell? ⟨b, off, none⟩ = some v) : q < (u.alloc o).heap.size ∧ (u.alloc o).cell? ⟨q, 0, none⟩ = some (.int .i64 c0) ∧ (u.alloc o).cell? ⟨q, 1, none⟩ = some (.int .i64 c1) ∧ (u.alloc o).cell? ⟨q, 2, none⟩ = some (.int .i64 c2) ∧ (u.alloc o).cell? ⟨q, 3, none⟩ = some (.int .i64 c3) ∧ (u.alloc o).cell? ⟨q, 4, none⟩ = some (.int .i64 c4) ∧ (u.alloc o).cell? ⟨q, 5, none⟩ = some (.int .i64 c5) ∧ (u.alloc o).cell? ⟨q, 6, none⟩ = some (.int .i64 c6) ∧ (u.alloc o).cell? ⟨q, 7, none⟩ = some (.int .i64 c7) ∧ (u.alloc o).cell? ⟨b, off, none⟩ = some v :=
  ks_below ((Below.refl _ _).alloc (Nat.le_refl _) _) hbl h
theorem set6_grown (u : World) (g : Nat) (s0 s1 s2 s3 s4 s5 : Value) : u.grownBy ((((((u.setCell ⟨g, 0, none⟩ s0).setCell ⟨g, 1, none⟩ s1).setCell ⟨g, 2, none⟩ s2).setCell ⟨g, 3, none⟩ s3).setCell ⟨g, 4, none⟩ s4).setCell ⟨g, 5, none⟩ s5) (some g) :=
  grown_tr (grown_tr (grown_tr (grown_tr (grown_tr (grown_set u ⟨g, 0, none⟩ s0) (grown_set _ ⟨g, 1, none⟩ s1)) (grown_set _ ⟨g, 2, none⟩ s2)) (grown_set _ ⟨g, 3, none⟩ s3)) (grown_set _ ⟨g, 4, none⟩ s4)) (grown_set _ ⟨g, 5, none⟩ s5)
theorem ks_st {q b off g : Nat} {c0 c1 c2 c3 c4 c5 c6 c7 : Int} {v s0 s1 s2 s3 s4 s5 : Value} {u : World} (hq : q ≠ g) (hbg : b ≠ g) (h : q < u.heap.size ∧ u.cell? ⟨q, 0, none⟩ = some (.int .i64 c0) ∧ u.cell? ⟨q, 1, none⟩ = some (.int .i64 c1) ∧ u.cell? ⟨q, 2, none⟩ = some (.int .i64 c2) ∧ u.cell? ⟨q, 3, none⟩ = some (.int .i64 c3) ∧ u.cell? ⟨q, 4, none⟩ = some (.int .i64 c4) ∧ u.cell? ⟨q, 5, none⟩ = some (.int .i64 c5) ∧ u.cell? ⟨q, 6, none⟩ = some (.int .i64 c6) ∧ u.cell? ⟨q, 7, none⟩ = some (.int .i64 c7) ∧ u.cell? ⟨b, off, none⟩ = some v) : q < ((((((u.setCell ⟨g, 0, none⟩ s0).setCell ⟨g, 1, none⟩ s1).setCell ⟨g, 2, none⟩ s2).setCell ⟨g, 3, none⟩ s3).setCell ⟨g, 4, none⟩ s4).setCell ⟨g, 5, none⟩ s5).heap.size ∧ ((((((u.setCell ⟨g, 0, none⟩ s0).setCell ⟨g, 1, none⟩ s1).setCell ⟨g, 2, none⟩ s2).setCell ⟨g, 3, none⟩ s3).setCell ⟨g, 4, none⟩ s4).setCell ⟨g, 5, none⟩ s5).cell? ⟨q, 0, none⟩ = some (.int .i64 c0) ∧ ((((((u.setCell ⟨g, 0, none⟩ s0).setCell ⟨g, 1, none⟩ s1).setCell ⟨g, 2, none⟩ s2).setCell ⟨g, 3, none⟩ s3).setCell ⟨g, 4, none⟩ s4).setCell ⟨g, 5, none⟩ s5).cell? ⟨q, 1, none⟩ = some (.int .i64 c1) ∧ ((((((u.setCell ⟨g, 0, none⟩ s0).setCell ⟨g, 1, none⟩ s1).setCell ⟨g, 2, none⟩ s2).setCell ⟨g, 3, none⟩ s3).setCell ⟨g, 4, none⟩ s4).setCell ⟨g, 5, none⟩ s5).cell? ⟨q, 2, none⟩ = some (.int .i64 c2) ∧ ((((((u.setCell ⟨g, 0, none⟩ s0).setCell ⟨g, 1, none⟩ s1).setCell ⟨g, 2, none⟩ s2).setCell ⟨g, 3, none⟩ s3).setCell ⟨g, 4, none⟩ s4).setCell ⟨g, 5, none⟩ s5).cell? ⟨q, 3, none⟩ = some (.int .i64 c3) ∧ ((((((u.setCell ⟨g, 0, none⟩ s0).setCell ⟨g, 1, none⟩ s1).setCell ⟨g, 2, none⟩ s2).setCell ⟨g, 3, none⟩ s3).setCell ⟨g, 4, none⟩ s4).setCell ⟨g, 5, none⟩ s5).cell? ⟨q, 4, none⟩ = some (.int .i64 c4) ∧ ((((((u.setCell ⟨g, 0, none⟩ s0).setCell ⟨g, 1, none⟩ s1).setCell ⟨g, 2, none⟩ s2).setCell ⟨g, 3, none⟩ s3).setCell ⟨g, 4, none⟩ s4).setCell ⟨g, 5, none⟩ s5).cell? ⟨q, 5, none⟩ = some (.int .i64 c5) ∧ ((((((u.setCell ⟨g, 0, none⟩ s0).setCell ⟨g, 1, none⟩ s1).setCell ⟨g, 2, none⟩ s2).setCell ⟨g, 3, none⟩ s3).setCell ⟨g, 4, none⟩ s4).setCell ⟨g, 5, none⟩ s5).cell? ⟨q, 6, none⟩ = some (.int .i64 c6) ∧ ((((((u.setCell ⟨g, 0, none⟩ s0).setCell ⟨g, 1, none⟩ s1).setCell ⟨g, 2, none⟩ s2).setCell ⟨g, 3, none⟩ s3).setCell ⟨g, 4, none⟩ s4).setCell ⟨g, 5, none⟩ s5).cell? ⟨q, 7, none⟩ = some (.int .i64 c7) ∧ ((((((u.setCell ⟨g, 0, none⟩ s0).setCell ⟨g, 1, none⟩ s1).setCell ⟨g, 2, none⟩ s2).setCell ⟨g, 3, none⟩ s3).setCell ⟨g, 4, none⟩ s4).setCell ⟨g, 5, none⟩ s5).cell? ⟨b, off, none⟩ = some v := by
  have hg := set6_grown u g s0 s1 s2 s3 s4 s5
  have e1 : ∀ j v, u.cell? ⟨q, j, none⟩ = some v → ((((((u.setCell ⟨g, 0, none⟩ s0).setCell ⟨g, 1, none⟩ s1).setCell ⟨g, 2, none⟩ s2).setCell ⟨g, 3, none⟩ s3).setCell ⟨g, 4, none⟩ s4).setCell ⟨g, 5, none⟩ s5).cell? ⟨q, j, none⟩ = some v := fun j v hv => hg.cell hv (by simpa using hq)
  exact ⟨Nat.lt_of_lt_of_le h.1 hg.size, e1 _ _ h.2.1, e1 _ _ h.2.2.1, e1 _ _ h.2.2.2.1, e1 _ _ h.2.2.2.2.1, e1 _ _ h.2.2.2.2.2.1, e1 _ _ h.2.2.2.2.2.2.1, e1 _ _ h.2.2.2.2.2.2.2.1, e1 _ _ h.2.2.2.2.2.2.2.2.1, hg.cell h.2.2.2.2.2.2.2.2.2 (by simpa using hbg)⟩
theorem set6_below {B g : Nat} {w u : World} {s0 s1 s2 s3 s4 s5 : Value} (h : Below B w u) (hg : B ≤ g) : Below B w ((((((u.setCell ⟨g, 0, none⟩ s0).setCell ⟨g, 1, none⟩ s1).setCell ⟨g, 2, none⟩ s2).setCell ⟨g, 3, none⟩ s3).setCell ⟨g, 4, none⟩ s4).setCell ⟨g, 5, none⟩ s5) :=
  (((((h.setCell (p := ⟨g, 0, none⟩) hg _).setCell (p := ⟨g, 1, none⟩) hg _).setCell (p := ⟨g, 2, none⟩) hg _).setCell (p := ⟨g, 3, none⟩) hg _).setCell (p := ⟨g, 4, none⟩) hg _).setCell (p := ⟨g, 5, none⟩) hg _
theorem Bx.set6 {u : World} {g : Nat} {t : TypeId} {o0 o1 o2 o3 o4 o5 : Value} (h : Bx u g t #[o0, o1, o2, o3, o4, o5]) (s0 s1 s2 s3 s4 s5 : Value) : Bx ((((((u.setCell ⟨g, 0, none⟩ s0).setCell ⟨g, 1, none⟩ s1).setCell ⟨g, 2, none⟩ s2).setCell ⟨g, 3, none⟩ s3).setCell ⟨g, 4, none⟩ s4).setCell ⟨g, 5, none⟩ s5) g t #[s0, s1, s2, s3, s4, s5] := by
  simp [Bx, World.setCell, Array.getElem?_modify, show u.heap[g]? = _ from h]
theorem six_of_blk {u : World} {b : Nat} {o0 o1 o2 o3 o4 o5 : Value} {T : TypeId} (h : Bx u b T #[o0, o1, o2, o3, o4, o5]) :
    u.cell? ⟨b, 0, none⟩ = some o0 ∧ u.cell? ⟨b, 1, none⟩ = some o1 ∧ u.cell? ⟨b, 2, none⟩ = some o2 ∧ u.cell? ⟨b, 3, none⟩ = some o3 ∧ u.cell? ⟨b, 4, none⟩ = some o4 ∧ u.cell? ⟨b, 5, none⟩ = some o5 ∧ u.frozen? ⟨b, 0, none⟩ = false ∧ u.frozen? ⟨b, 1, none⟩ = false ∧ u.frozen? ⟨b, 2, none⟩ = false ∧ u.frozen? ⟨b, 3, none⟩ = false ∧ u.frozen? ⟨b, 4, none⟩ = false ∧ u.frozen? ⟨b, 5, none⟩ = false :=
  ⟨Lib.cell_of_heap h 0, Lib.cell_of_heap h 1, Lib.cell_of_heap h 2, Lib.cell_of_heap h 3, Lib.cell_of_heap h 4, Lib.cell_of_heap h 5, Lib.frozen_of_heap h 0, Lib.frozen_of_heap h 1, Lib.frozen_of_heap h 2, Lib.frozen_of_heap h 3, Lib.frozen_of_heap h 4, Lib.frozen_of_heap h 5⟩
end Go.Proofs.YtlncjgnomhpjnabGreatDoor

/-
  The lists of lists that are lent: 'lendAll', 'wholeAll'.
-/
namespace Go.Proofs.YtlncjgnomhpjnabGreatDoor
open Go.RowKit Go.Deep
theorem infoInts : (Tryz.prog.info? 30).map (fun i => (i.zero, i.size, i.bytes)) = some (some (.slice none 0 0), 1, 24) := by kernel_rfl
/-- all blocks but two, and what is new, are as they were -/
structure Kept2 (b m : Nat) (w w' : World) : Prop where
  os : w'.os = w.os
  tape : w'.tape = w.tape
  output : w'.output = w.output
  size : w.heap.size ≤ w'.heap.size
  block : ∀ k, k < w.heap.size → k ≠ b → k ≠ m → w'.heap[k]? = w.heap[k]?
theorem Kept2.refl (b m : Nat) (w : World) : Kept2 b m w w := ⟨rfl, rfl, rfl, Nat.le_refl _, fun _ _ _ _ => rfl⟩
theorem Kept2.set1 {b m : Nat} {w w' : World} (h : Kept2 b m w w') (i : Nat) (v : Value) : Kept2 b m w (w'.setCell ⟨b, i, none⟩ v) :=
  ⟨h.os, h.tape, h.output, by rw [World.size_setCell]; exact h.size, fun k hk h1 h2 => (blk_setCell_other _ _ _ _ (by simpa using h1)).trans (h.block k hk h1 h2)⟩
theorem Kept2.set2 {b m : Nat} {w w' : World} (h : Kept2 b m w w') (i : Nat) (v : Value) : Kept2 b m w (w'.setCell ⟨m, i, none⟩ v) :=
  ⟨h.os, h.tape, h.output, by rw [World.size_setCell]; exact h.size, fun k hk h1 h2 => (blk_setCell_other _ _ _ _ (by simpa using h2)).trans (h.block k hk h1 h2)⟩
end Go.Proofs.YtlncjgnomhpjnabGreatDoor

/-
  Blocks of a sound: sound.Blocks, sound.BlockSamples, sound.Block.
-/
namespace Go.Proofs.YtlncjgnomhpjnabGreatDoor
open Go.RowKit Go.Deep
set_option linter.unusedVariables false
theorem blocks_any (S B : Nat) (w : World) (hB : 1 ≤ B) (hB2 : B ≤ 100000) (hS : S ≤ 100000) :
    Calls Tryz.prog 62 #[.int .i64 S, .int .i64 B] w fun e w' => e = .returned (.int .i64 (nBlk S B : Nat)) ∧ w' = w := by
  have hle := nBlk_le (S := S) hB
  have w1 : IntKind.i64.wrap ((S : Int) + (B : Int)) = (S : Int) + (B : Int) := by rw [IntKind.wrap_i64]; omega
  have w2 : IntKind.i64.wrap ((S : Int) + (B : Int) - 1) = (S : Int) + (B : Int) - 1 := by rw [IntKind.wrap_i64]; omega
  have d0 : ((S : Int) + (B : Int) - 1) / (B : Int) = ((nBlk S B : Nat) : Int) := by
    rw [show (S : Int) + (B : Int) - 1 = ((S + B - 1 : Nat) : Int) by omega]; rfl
  have d1 : ((S : Int) + (B : Int) - 1).tdiv (B : Int) = ((nBlk S B : Nat) : Int) := by
    rw [Int.tdiv_eq_ediv_of_nonneg (by omega)]; exact d0
  have w3 : IntKind.i64.wrap ((nBlk S B : Nat) : Int) = ((nBlk S B : Nat) : Int) := by rw [IntKind.wrap_i64]; omega
  have hz : ((B : Int) == 0) = false := by simp; omega
  have hz2 : ¬ (B : Int) = 0 := by omega
  generalize nBlk S B = N at *
  go_enter Tryz.func62, Tryz.ntmps62
  go_wp2
  go_ret
  exact ⟨rfl, rfl⟩
theorem blockSamples_any (S B k : Nat) (w : World) (hk : k * B ≤ S) (hB2 : B ≤ 100000) (hS : S ≤ 100000) :
    Calls Tryz.prog 127 #[.int .i64 S, .int .i64 B, .int .i64 k] w fun e w' => e = .returned (.int .i64 (blkN S B k : Nat)) ∧ w' = w := by
  have e1 : (k : Int) * (B : Int) = ((k * B : Nat) : Int) := by simp
  have w1 : IntKind.i64.wrap ((k : Int) * (B : Int)) = ((k * B : Nat) : Int) := by rw [IntKind.wrap_i64, e1]; omega
  have w2 : IntKind.i64.wrap ((S : Int) - ((k * B : Nat) : Int)) = ((S - k * B : Nat) : Int) := by rw [IntKind.wrap_i64]; omega
  have HM : Hid (((blkN S B k : Nat) : Int) = min (B : Int) ((S - k * B : Nat) : Int)) := by show _ = _; unfold blkN; omega
  rw [HM.out]
  clear e1
  generalize k * B = q at *
  generalize S - q = r at *
  go_enter Tryz.func127, Tryz.ntmps127
  go_wp2
  go_ret
  exact ⟨rfl, rfl⟩
/-- where a list lies -/
def bkOf : Option Addr → Nat
  | some x => x.block
  | none => 0
def ofOf : Option Addr → Nat
  | some x => x.off
  | none => 0
/-- a block's lists -/
def blkA (A : Nat → Option Addr) (q i : Nat) : Option Addr := some ⟨bkOf (A i), ofOf (A i) + q, none⟩
theorem ints_addr {w : World} {a : Option Addr} {n : Nat} {f : Nat → Int} (h : IntsAt w a n f) (hn : 0 < n) : a = some ⟨bkOf a, ofOf a, none⟩ := by
  obtain ⟨b, off, rfl, -⟩ := h.open hn
  rfl
theorem ints_cut {w : World} {A : Nat → Option Addr} {i n q m : Nat} {f : Nat → Int} (h : IntsAt w (A i) n f) (hm : q + m ≤ n) : IntsAt w (blkA A q i) m (fun j => f (q + j)) := fun j hj => by
  obtain ⟨b, off, ha, hc⟩ := h.open (by omega)
  refine ⟨_, rfl, ?_⟩
  have := hc (q + j) (by omega)
  rw [ha]
  show w.cell? (Addr.add ⟨b, off + q, none⟩ j) = _
  rw [show Addr.add ⟨b, off + q, none⟩ j = ⟨b, off + (q + j), none⟩ by cases j <;> simp [Addr.add] <;> omega]
  exact this
def blkV (A : Nat → Option Addr) (C : Nat → Nat) (q m j i : Nat) : Value := if i < j then .slice (blkA A q i) m (C i - q) else .slice none 0 0
theorem blkV_step {wr : World} {g n q m j : Nat} {A : Nat → Option Addr} {C : Nat → Nat} (h : wr.rowIs g 30 n (blkV A C q m j)) :
    (wr.setCell ⟨g, j, none⟩ (.slice (blkA A q j) m (C j - q))).rowIs g 30 n (blkV A C q m (j + 1)) :=
  (h.set j _).congr fun i _ => by
    unfold blkV
    by_cases e : i = j
    · rw [if_pos e, if_pos (by omega), e]
    · rw [if_neg e]
      by_cases e2 : i < j
      · rw [if_pos e2, if_pos (by omega)]
      · rw [if_neg e2, if_neg (by omega)]
set_option maxHeartbeats 1000000 in
theorem block_any (a : Option Addr) (n cap : Nat) (A : Nat → Option Addr) (S : Nat) (C : Nat → Nat) (F : Nat → Nat → Int) (B k : Nat) (w : World) (hn1 : 1 ≤ n) (hn4 : n ≤ 4) (hB : 1 ≤ B) (hB2 : B ≤ 32) (hS : S ≤ 300) (hk : k < nBlk S B)
    (hA : ListsAt w a n A (fun _ => S) C) (hC : ∀ i, i < n → S ≤ C i) (hI : ∀ i, i < n → IntsAt w (A i) S (F i)) (hlow : Low w.heap.size a n A (fun _ => S)) :
    Calls Tryz.prog 64 #[.slice a n cap, .int .i64 B, .int .i64 k] w fun e w' =>
      e = .returned (.slice (some ⟨w.heap.size, 0, none⟩) n n) ∧ w'.rowIs w.heap.size 30 n (blkV A C (k * B) (blkN S B k) n) ∧ Below w.heap.size w w' := by
  have hbd := blkN_bd hB hk
  have HAD := Hid.mk' (fun i (hi : i < n) => ints_addr (hI i hi) (by omega))
  have HBS := Hid.mk' (fun u => blockSamples_any S B k u (by omega) (by omega) (by omega))
  have HC := Hid.mk' hC
  have hmk := run_make_row' (P := Tryz.prog) 24 30 (.slice none 0 0) 24 Tryz.underlying24 infoInts rfl .i64 .i64 n (by omega) (by omega)
  obtain ⟨b, off, rfl, hcell⟩ := hA.open (by omega)
  have HCL := Hid.mk' hcell
  have HBL : Hid (b < w.heap.size) := by
    have := hlow.1 _ rfl (by omega : 0 < n)
    exact this
  have e1 : (k : Int) * (B : Int) = ((k * B : Nat) : Int) := by simp
  have w1 : IntKind.i64.wrap ((k : Int) * (B : Int)) = ((k * B : Nat) : Int) := by rw [IntKind.wrap_i64, e1]; omega
  have hbl := HBL.out
  clear hA hI hlow hcell hC e1
  generalize blkN S B k = m at *
  generalize k * B = q at *
  have w2 : IntKind.i64.wrap ((q : Int) + (m : Int)) = ((q + m : Nat) : Int) := by rw [IntKind.wrap_i64]; omega
  have hb0 : Below w.heap.size w (w.alloc (.cells (madeCells #[.slice none 0 0] n) 30)) := (Below.refl _ _).alloc (Nat.le_refl _) _
  have HB0 := Hid.mk' hb0
  clear hb0
  go_enter Tryz.func64, Tryz.ntmps64
  go_wp2
  clear hmk
  go_loopw [8, 9, 10, 16] (fun _ _ _ iv wr => ∃ i : Nat, i ≤ n ∧ iv = .int .i64 i ∧ Hid (wr.rowIs w.heap.size 30 n (blkV A C q m i) ∧ Below w.heap.size w wr)) (fun _ _ _ iv _ => n - (intOf iv).toNat)
  case atStart => exact ⟨0, Nat.zero_le _, rfl, (World.rowIs_made w (.slice none 0 0) n 30).congr fun i _ => by unfold blkV; rw [if_neg (by omega)], HB0.out⟩
  case round =>
    obtain ⟨i, hi, rfl, HR⟩ := hrel
    by_cases hlt : i < n
    · have hcb : wr.cell? ⟨b, off + i, none⟩ = some (.slice (some ⟨bkOf (A i), ofOf (A i), none⟩) S (C i)) := by
        have := (HR.out.2.cell (p := ⟨b, off + i, none⟩) hbl).trans (HCL.out i hlt)
        rw [HAD.out i hlt] at this; exact this
      have hCi := HC.out i hlt
      have hc1 := HR.out.1.cell hlt
      have hf1 := HR.out.1.frozen i
      have HZ := Hid.mk' (blkV_step HR.out.1)
      unfold blkA at HZ
      generalize bkOf (A i) = gi at *
      generalize ofOf (A i) = oi at *
      generalize C i = ci at *
      generalize blkV A C q m i i = old at *
      have t1 : (((q + m : Nat) : Int) - (q : Int)).toNat = m := by omega
      go_wp2_with (go_at_call 127; refine (HBS.out _).mono ?_; rintro e u1 ⟨rfl, hw⟩; subst u1)
      go_roundw
      case rel => exact ⟨i + 1, by omega, by go_num, HZ.out, HR.out.2.setCell (Nat.le_refl _) _⟩
      case measure => simp [intOf]; omega
    · have e : i = n := by omega
      subst e
      go_wp2
      go_ret
      exact ⟨rfl, HR.out⟩
end Go.Proofs.YtlncjgnomhpjnabGreatDoor

/-
  The document's frames of a sound: reelref.allFrames.
-/
namespace Go.Proofs.YtlncjgnomhpjnabGreatDoor
open Go.RowKit Go.Deep
set_option linter.unusedVariables false
theorem own_some {w : World} {base : Nat} {t : TypeId} {v : Value} {n : Nat} {xs : List Value} (h : w.ownsRow base t 1 v n xs) (hn : 1 ≤ n) : ∃ g c, v = .slice (some ⟨g, 0, none⟩) n c := by
  rcases h.2 with ⟨-, h0⟩ | ⟨g, c, cur, e, -⟩
  · omega
  · exact ⟨g, c, e⟩
end Go.Proofs.YtlncjgnomhpjnabGreatDoor

/-
  Sums of bytes: sums.SumOn and reelref.Sum.
-/
namespace Go.Proofs.YtlncjgnomhpjnabGreatDoor
open Go.RowKit Go.Deep
set_option linter.unusedVariables false
theorem sumN_parts (l : List UInt8) : ((sumN l : Nat) : Int).tmod 65536 = ((sA l % 65521 : Nat) : Int) ∧ ((sumN l : Nat) : Int).tdiv 65536 = ((sB l % 65521 : Nat) : Int) ∧ ((sumN l : Nat) : Int) % 65536 = ((sA l % 65521 : Nat) : Int) ∧ ((sumN l : Nat) : Int) / 65536 = ((sB l % 65521 : Nat) : Int) := by
  have h2 : sA l % 65521 < 65521 := Nat.mod_lt _ (by decide)
  rw [Int.tmod_eq_emod_of_nonneg (by omega), Int.tdiv_eq_ediv_of_nonneg (by omega)]
  unfold sumN
  omega
set_option maxHeartbeats 400000 in
/-- the program's sum, behind other bytes -/
theorem sumOn_any (p T : List UInt8) (w : World) (hT : T.length ≤ 2097152) :
    Calls Tryz.prog 202 #[.int .i64 (sumN p : Nat), .string (bs T)] w fun e w' => e = .returned (.int .i64 (sumN (p ++ T) : Nat)) ∧ w' = w := by
  have hz : (bs T).size = T.length := bs_size T
  have HG : Hid (∀ k (h : k < (bs T).size), (bs T)[k] = T[k]'(by rw [hz] at h; exact h)) := fun k h => bs_get T k h
  generalize bs T = S at *
  obtain ⟨q1, q2, q3, q4⟩ := sumN_parts p
  have q5 := sumN_lt p
  generalize hN : sumN p = N0 at *
  clear hN
  have hA0 : sA p % 65521 < 65521 := Nat.mod_lt _ (by decide)
  have hB0 : sB p % 65521 < 65521 := Nat.mod_lt _ (by decide)
  have HA0 : Hid (sA p % 65521 = sA (p ++ T.take 0) % 65521 ∧ sB p % 65521 = sB (p ++ T.take 0) % 65521) := ⟨by simp, by simp⟩
  generalize sA p % 65521 = A0 at *
  generalize sB p % 65521 = B0 at *
  go_enter Tryz.func202, Tryz.ntmps202
  go_wp2
  clear q1 q2 q3 q4 q5 hA0 hB0
  go_loop [5, 6, 7, 14] (fun a b _ i => ∃ k : Nat, k ≤ T.length ∧ i = .int .i64 k ∧ a = .int .i64 ((sA (p ++ T.take k) % 65521 : Nat) : Int) ∧ b = .int .i64 ((sB (p ++ T.take k) % 65521 : Nat) : Int)) (fun _ _ _ i => T.length - (intOf i).toNat)
  case atStart => exact ⟨0, Nat.zero_le _, rfl, by rw [HA0.out.1], by rw [HA0.out.2]⟩
  case round =>
    obtain ⟨k, hk, rfl, rfl, rfl⟩ := hrel
    by_cases hlt : k < T.length
    · have hkS : k < S.size := by omega
      have hc : S[k].toNat < 256 := UInt8.toNat_lt _
      have HE : Hid (p ++ T.take (k + 1) = p ++ T.take k ++ [S[k]]) := by show _ = _; rw [List.take_succ_eq_append_getElem hlt, HG.out k hkS, List.append_assoc]
      have HA : Hid (sA (p ++ T.take (k + 1)) = sA (p ++ T.take k) + S[k].toNat) := by
        show _ = _; rw [HE.out, sA_snoc]
      have HB : Hid (sB (p ++ T.take (k + 1)) = sB (p ++ T.take k) + (sA (p ++ T.take k) + S[k].toNat)) := by
        show _ = _; rw [HE.out, sB_snoc, sA_snoc]
      clear HE
      generalize sA (p ++ T.take k) = A at *
      generalize sB (p ++ T.take k) = B at *
      have h1 : A % 65521 < 65521 := Nat.mod_lt _ (by decide)
      have h2 : B % 65521 < 65521 := Nat.mod_lt _ (by decide)
      go_wp2
      go_round
      case rel => exact ⟨k + 1, by omega, by go_num, by rw [HA.out]; go_num, by rw [HB.out]; go_num⟩
      case measure => simp [intOf]; omega
    · have e : k = T.length := by omega
      subst e
      rw [List.take_length]
      have HN : Hid (((sumN (p ++ T) : Nat) : Int) = 65536 * ((sB (p ++ T) % 65521 : Nat) : Int) + ((sA (p ++ T) % 65521 : Nat) : Int)) := by show _ = _; unfold sumN; omega
      have h1 : sA (p ++ T) % 65521 < 65521 := Nat.mod_lt _ (by decide)
      have h2 : sB (p ++ T) % 65521 < 65521 := Nat.mod_lt _ (by decide)
      generalize sA (p ++ T) % 65521 = A at *
      generalize sB (p ++ T) % 65521 = B at *
      go_wp2
      go_ret
      exact ⟨ret_int HN.out.symm, rfl⟩
end Go.Proofs.YtlncjgnomhpjnabGreatDoor

/-
  The sum of a sound: sound.SumOn, sound.Sum, reelref.interleaved.
-/
namespace Go.Proofs.YtlncjgnomhpjnabGreatDoor
open Go.RowKit Go.Deep
set_option linter.unusedVariables false
theorem smp_lo (v : Int) : v % 256 = ((smpB v false).toNat : Int) := by
  have e : (smpB v false).toNat = (v % 65536).toNat % 256 := by
    show (UInt8.ofNat ((v % 65536).toNat % 256)).toNat = _
    rw [UInt8.toNat_ofNat']; omega
  rw [e]
  omega
theorem smp_hi (v : Int) : v / 256 % 256 = ((smpB v true).toNat : Int) := by
  have e : (smpB v true).toNat = (v % 65536).toNat / 256 := by
    show (UInt8.ofNat ((v % 65536).toNat / 256)).toNat = _
    rw [UInt8.toNat_ofNat']; omega
  rw [e]
  omega
theorem strOf_int (n : Nat) (F : Nat → Nat → Int) (m : Nat) : strOf (intB n F) m = bs (intT n F m) := rfl
theorem cells_two (n : Nat) (F : Nat → Nat → Int) (i p m : Nat) (hi : i < n) (hm : m = 2 * (p * n + i)) : Lib.byteCells (intT n F m) ++ [Value.int .u8 (F i p % 256), Value.int .u8 (F i p / 256 % 256)] = Lib.byteCells (intT n F (m + 2)) := by
  rw [hm, intT_two n F i p hi, Lib.byteCells_append, smp_lo, smp_hi]
  rfl
theorem run_make_none (t e : TypeId) (z : Value) (bytes : Nat) (ht : Tryz.prog.underlying t = some (.slice e)) (hinfo : (Tryz.prog.info? e).map (fun i => (i.zero, i.size, i.bytes)) = some (some z, 1, bytes)) (hz1 : z.cells = #[z]) (c : Nat) (hb : bytes * c ≤ 281474976710656) (h63 : c ≤ 9223372036854775807) (w : World) :
    (Instr.makeSlice t (.int .i64 0) (.int .i64 (c : Int))).run Tryz.prog w = .ok (.slice (some ⟨w.heap.size, 0, none⟩) 0 c) (w.alloc (.cells (madeCells #[z] c) e)) := by
  obtain ⟨i, hi, hz0, hz2, hz3⟩ := info_parts hinfo
  have h : (i.bytes : Int) * (c : Int) ≤ 281474976710656 := by
    rw [hz3]
    have : ((bytes * c : Nat) : Int) ≤ 281474976710656 := by omega
    rwa [Int.natCast_mul] at this
  have := run_make (P := Tryz.prog) w t e i z ht hi hz0 .i64 .i64 0 c (Int.le_refl _) (by omega) h (by omega)
  rw [hz1, hz2] at this
  simpa using this
set_option maxHeartbeats 1000000 in
theorem soundSumOn_any (p0 : List UInt8) (a : Option Addr) (n cap : Nat) (A : Nat → Option Addr) (S : Nat) (C : Nat → Nat) (F : Nat → Nat → Int) (w : World) (hn1 : 1 ≤ n) (hn4 : n ≤ 4) (hS : S ≤ 300)
    (hA : ListsAt w a n A (fun _ => S) C) (hI : ∀ i, i < n → IntsAt w (A i) S (F i)) (hlow : Low w.heap.size a n A (fun _ => S)) :
    Calls Tryz.prog 131 #[.int .i64 (sumN p0 : Nat), .slice a n cap] w fun e w' => e = .returned (.int .i64 (sumN (p0 ++ intT n F (2 * (S * n))) : Nat)) ∧ Below w.heap.size w w' := by
  have HSO := Hid.mk' (fun u => sumOn_any p0 (intT n F (2 * (S * n))) u (by rw [intT_length]; have : S * n ≤ 300 * 4 := Nat.mul_le_mul hS hn4; omega))
  have hSn : S * n ≤ 1200 := Nat.mul_le_mul hS hn4
  have hmk := run_make_none 33 5 (.int .u8 0) 1 Tryz.underlying33 infoByte rfl (2 * (n * S)) (by rw [Nat.mul_comm n S]; omega) (by rw [Nat.mul_comm n S]; omega)
  have e1 : IntKind.i64.wrap (2 * (n : Int)) = ((2 * n : Nat) : Int) := by rw [IntKind.wrap_i64]; omega
  have e2 : IntKind.i64.wrap (((2 * n : Nat) : Int) * (S : Int)) = ((2 * (n * S) : Nat) : Int) := by
    have h1 : ((2 * n : Nat) : Int) * (S : Int) = ((2 * (n * S) : Nat) : Int) := by simp [Int.mul_assoc]
    have h2 : n * S ≤ 1200 := by rw [Nat.mul_comm]; exact hSn
    rw [h1, IntKind.wrap_i64]; omega
  have HI := Hid.mk' hI
  have HLOW := Hid.mk' hlow
  obtain ⟨b, off, rfl, hcell⟩ := hA.open (by omega)
  have HCL := Hid.mk' hcell
  have HBL : Hid (b < w.heap.size) := by
    have := hlow.1 _ rfl (by omega : 0 < n)
    exact this
  have hc0 := hcell 0 (by omega)
  simp only [Nat.add_zero] at hc0
  clear hA hI hlow hcell
  generalize hK : 2 * (n * S) = K at *
  have HK := Hid.mk' hK
  clear hK
  generalize 2 * n = N2 at *
  have hbl := HBL.out
  have HST : Hid (∀ (u : World) (g c : Nat), u.ownsRow w.heap.size 5 1 (.slice (some ⟨g, 0, none⟩) (2 * (S * n)) c) (2 * (S * n)) (Lib.byteCells (intT n F (2 * (S * n)))) → _) := fun u g c (h : u.ownsRow w.heap.size 5 1 (.slice (some ⟨g, 0, none⟩) (2 * (S * n)) c) (2 * (S * n)) (Lib.byteCells (intT n F (2 * (S * n))))) =>
    run_rowString (P := Tryz.prog) u 33 9 5 g 0 (2 * (S * n)) c (intB n F) Tryz.underlying33 Tryz.underlying5 Tryz.underlying9 (fun i hi => by
      have := h.cells (g := g) rfl i (.int .u8 (intB n F i).toNat) (by simp [Lib.byteCells, intT, List.getElem?_range hi])
      rw [Addr.add_lit] at this; exact this)
  rw [strOf_int] at HST
  generalize sumN p0 = N0 at *
  go_enter Tryz.func131, Tryz.ntmps131
  go_wp2
  clear hmk e1 e2 hc0
  go_loopw [5, 6, 8, 9, 23] (fun ov _ _ _ pv wr => ∃ p g c m : Nat, p ≤ S ∧ pv = .int .i64 p ∧ ov = .slice (some ⟨g, 0, none⟩) m c ∧ Hid (m = 2 * (p * n) ∧ wr.ownsRow w.heap.size 5 1 (.slice (some ⟨g, 0, none⟩) m c) m (Lib.byteCells (intT n F m)) ∧ Below w.heap.size w wr)) (fun _ _ _ _ pv _ => S - (intOf pv).toNat)
  case atStart =>
    refine ⟨0, w.heap.size, K, 0, Nat.zero_le _, rfl, rfl, by simp, ?_, (Below.refl _ _).alloc (Nat.le_refl _) _⟩
    exact World.ownsRow_made w _ K (Nat.le_refl _) (by have := HK.out; rw [Nat.mul_comm n S] at this; simp only [maxLen]; omega) (by simp [size_madeCells])
  case round =>
    obtain ⟨p, g, c, m, hp, rfl, rfl, HR⟩ := hrel
    by_cases hlt : p < S
    · go_wp2
      go_loopw [5, 8, 9, 28] (fun ov _ _ iv wr => ∃ i g c m : Nat, i ≤ n ∧ iv = .int .i64 i ∧ ov = .slice (some ⟨g, 0, none⟩) m c ∧ Hid (m = 2 * (p * n + i) ∧ wr.ownsRow w.heap.size 5 1 (.slice (some ⟨g, 0, none⟩) m c) m (Lib.byteCells (intT n F m)) ∧ Below w.heap.size w wr)) (fun _ _ _ iv _ => n - (intOf iv).toNat)
      case atStart => exact ⟨0, g, c, m, by omega, rfl, rfl, by have := HR.out.1; omega, HR.out.2⟩
      case round =>
        clear HR
        obtain ⟨i, g, c, m, hi, rfl, rfl, HR⟩ := hrel
        by_cases hin : i < n
        · obtain ⟨gi, oi, hAi, hci⟩ := (HI.out i hin).open (by omega)
          have hcb : wr.cell? ⟨b, off + i, none⟩ = some (.slice (some ⟨gi, oi, none⟩) S (C i)) := by
            have := (HR.out.2.2.cell (p := ⟨b, off + i, none⟩) hbl).trans (HCL.out i hin)
            rw [hAi] at this; exact this
          have hgl : gi < w.heap.size := by have := HLOW.out.2 i hin _ hAi (by show 0 < S; omega); exact this
          have hcv : wr.cell? ⟨gi, oi + p, none⟩ = some (.int .i64 (F i p)) := (HR.out.2.2.cell (p := ⟨gi, oi + p, none⟩) hgl).trans (hci p hlt)
          have hpn : p * n + i ≤ 1200 := by
            have h1 : p * n ≤ 299 * n := Nat.mul_le_mul_right n (by omega)
            omega
          have hm2 := HR.out.1
          obtain ⟨g', c', u', hr, ho, hg⟩ := app_row 33 5 (.int .u8 0) 1 Tryz.underlying33 infoByte rfl wr w.heap.size (.slice (some ⟨g, 0, none⟩) m c) m _ #[.int .u8 (F i p % 256), .int .u8 (F i p / 256 % 256)] HR.out.2.1 (by simp) (by intro u hu; simp at hu; rcases hu with rfl | rfl <;> rfl) (by simp only [maxLen]; simp; omega) (by simp; omega) HR.out.2.2.size 33
          have HN : Hid (u'.ownsRow w.heap.size 5 1 (.slice (some ⟨g', 0, none⟩) (m + 2) c') (m + 2) (Lib.byteCells (intT n F (m + 2))) ∧ Below w.heap.size w u') := by
            refine ⟨?_, HR.out.2.2.grown hg HR.out.2.2.size (fun k hk => (HR.out.2.1.lt k hk).1)⟩
            rw [← cells_two n F i p m hin hm2]
            exact ho
          have HAP : Hid (_ = _) := hr
          generalize F i p = V at *
          clear hci hr ho hg hpn
          have HM2 := Hid.mk' hm2
          clear hm2
          go_wp2_with (at_builtin; refine wpList_append_rn rfl _ _ _ rfl _ _ _ rfl rfl HAP.out ?_; clear HAP)
          go_roundw
          case rel => exact ⟨i + 1, g', c', m + 2, by omega, by go_num, rfl, by rw [HM2.out]; omega, HN.out⟩
          case measure => simp [intOf]; omega
        · have e : i = n := by omega
          subst e
          go_wp2
          go_roundw
          case rel => exact ⟨p + 1, g, c, m, by omega, by go_num, rfl, by rw [HR.out.1, Nat.add_mul, Nat.one_mul], HR.out.2⟩
          case measure => simp [intOf]; omega
    · have e : p = S := by omega
      subst e
      obtain ⟨hm, ho, hb⟩ := HR.out
      subst hm
      have hcv := HST.out wr g c ho
      have HB := Hid.mk' hb
      clear ho hb HR HST
      generalize bs (intT n F (2 * (p * n))) = T at *
      generalize hm : 2 * (p * n) = m at *
      have HM := Hid.mk' hm
      clear hm
      go_wp2_with (go_at_call 202; refine (HSO.out _).mono ?_; rintro e u1 ⟨rfl, hw⟩; subst u1)
      go_ret
      exact ⟨by rw [HM.out]; rfl, HB.out⟩
end Go.Proofs.YtlncjgnomhpjnabGreatDoor

