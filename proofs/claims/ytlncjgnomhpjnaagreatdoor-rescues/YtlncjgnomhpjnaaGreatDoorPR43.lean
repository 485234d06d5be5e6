import Derived.Test.YtlncjgnomhpjnaaGreatDoorPR40
import Derived.Test.YtlncjgnomhpjnaaGreatDoorPR41
import Derived.Deep.DeepCutAuto
import Derived.Deep.RegionHeld3
/-
  The program decodes: stream.Decode, where it gives no sound.
-/
namespace Go.Proofs.YtlncjgnomhpjnaaGreatDoor
open Go.RowKit Go.Deep
set_option linter.unusedVariables false
theorem HdOut.yes {e : Ending} {w w' : World} {T : List UInt8} (h : HdOut e w w' T) (hp : HdP T) {b : Bool} (hb : decide (dWh T = 1) = b) : ∃ a c, e = .returned (.tuple #[.agg #[.int .i64 (dCh T), .int .i64 (dDe T), .int .i64 (dBl T), .int .i64 (dRa T), .int .i64 (dSe T), .int .i64 (dSa T), .bool b, .int .i64 (dLe T), .int .i64 (dMo T), .int .i64 (dSu T), .slice a (dNp T) c], .int .i64 (dSz T), .bool true]) ∧ w'.ownsRow w.heap.size 3 1 (.slice a (dNp T) c) (dPts T).length (pntV (dPts T)) ∧ Below w.heap.size w w' := by
  subst hb
  rcases h with ⟨⟨-, pv, rfl, ho⟩ | ⟨hno, -⟩, hb⟩
  · obtain ⟨a, c, rfl⟩ := own_form ho
    exact ⟨a, c, rfl, by rw [dPts_length]; exact ho, hb⟩
  · exact absurd hp hno
theorem HdOut.nothing {e : Ending} {w w' : World} {T : List UInt8} (h : HdOut e w w' T) (hp : ¬ HdP T) : e = .returned (.tuple #[.agg #[.int .i64 0, .int .i64 0, .int .i64 0, .int .i64 0, .int .i64 0, .int .i64 0, .bool false, .int .i64 0, .int .i64 0, .int .i64 0, .slice none 0 0], .int .i64 0, .bool false]) ∧ Below w.heap.size w w' := by
  rcases h with ⟨⟨hy, -⟩ | ⟨-, he⟩, hb⟩
  · exact absurd hy hp
  · exact ⟨he, hb⟩
theorem infoInf6 : (Tryz.prog.info? 46).map (·.size) = some 6 := by kernel_rfl
theorem below_row {w u : World} {g : Nat} (h : Below w.heap.size w u) (hg : w.heap.size ≤ g) (cs : Array Value) : Below w.heap.size w (u.setRow g cs) := below_setRow h hg cs
end Go.Proofs.YtlncjgnomhpjnaaGreatDoor

/-
  The program decodes: stream.Decode, the frames.
-/
namespace Go.Proofs.YtlncjgnomhpjnaaGreatDoor
open Go.RowKit Go.Deep
set_option linter.unusedVariables false
theorem hd_bd {T : List UInt8} (h : HdP T) : 1 ≤ dCh T ∧ dCh T ≤ 4 ∧ 4 ≤ dDe T ∧ dDe T ≤ 12 ∧ 1 ≤ dBl T ∧ dBl T ≤ 32 ∧ dSa T ≤ 300 ∧ dSe T ≤ 255 ∧ dNp T ≤ 300 ∧ 22 ≤ dSz T ∧ dSz T ≤ T.length := by
  have h4 := h.2.2.2.1
  have hin := h.2.2.1
  have h0 : 22 ≤ dSz T := by unfold dSz; omega
  have hse : dSe T < 256 := fld_lt T 10 11 (by omega) (by have := h.1; omega)
  simp only [infoB, Bool.and_eq_true, within_iff] at hin
  have hNP : dNp T ≤ 300 := by
    unfold dNp nPts
    split
    · omega
    · have h1 := nBlk_le (S := dSa T) (B := dBl T) (by omega)
      have h2 := nBlk_le (S := nBlk (dSa T) (dBl T)) (B := dSe T) (by omega)
      omega
  omega
theorem RowsL.grown {base : Nat} {u u' : World} {v : Value} {n nn g : Nat} {H : Nat → Nat → Int} (h : RowsL base u v n nn H) (hg : u.grownBy u' (some g)) (hb : g < base) : RowsL base u' v n nn H := by
  obtain ⟨q, vs, ogs, h1, h2, h3, h4, h5⟩ := h
  exact ⟨q, vs, ogs, h1, h2, rowIs_of h3 (hg.block _ h3.lt (by simp; omega)), fun c hc => ⟨(h4 c hc).1.keep fun k hk => hg.block _ ((h4 c hc).1.lt hk) (by have := (h4 c hc).2 k hk; simp; omega), (h4 c hc).2⟩, h5⟩
theorem set3_grown (u : World) (g : Nat) (s0 s1 s2 : Value) : u.grownBy (((u.setCell ⟨g, 0, none⟩ s0).setCell ⟨g, 1, none⟩ s1).setCell ⟨g, 2, none⟩ s2) (some g) :=
  gr_trans (gr_trans (grown_set u ⟨g, 0, none⟩ s0) (grown_set _ ⟨g, 1, none⟩ s1)) (grown_set _ ⟨g, 2, none⟩ s2)
theorem ki_al6 {g : Nat} {c0 c1 c2 c3 c4 s : Int} {u : World} {o : Obj} (h : g < u.heap.size ∧ u.cell? ⟨g, 0, none⟩ = some (.int .i64 c0) ∧ u.cell? ⟨g, 1, none⟩ = some (.int .i64 c1) ∧ u.cell? ⟨g, 2, none⟩ = some (.int .i64 c2) ∧ u.cell? ⟨g, 3, none⟩ = some (.int .i64 c3) ∧ u.cell? ⟨g, 4, none⟩ = some (.int .i64 c4) ∧ u.cell? ⟨g, 5, none⟩ = some (.int .i64 s)) : g < (u.alloc o).heap.size ∧ (u.alloc o).cell? ⟨g, 0, none⟩ = some (.int .i64 c0) ∧ (u.alloc o).cell? ⟨g, 1, none⟩ = some (.int .i64 c1) ∧ (u.alloc o).cell? ⟨g, 2, none⟩ = some (.int .i64 c2) ∧ (u.alloc o).cell? ⟨g, 3, none⟩ = some (.int .i64 c3) ∧ (u.alloc o).cell? ⟨g, 4, none⟩ = some (.int .i64 c4) ∧ (u.alloc o).cell? ⟨g, 5, none⟩ = some (.int .i64 s) :=
  ki_below ((Below.refl _ _).alloc (Nat.le_refl _) _) h
theorem ki_st3 {g q : Nat} {c0 c1 c2 c3 c4 s : Int} {s0 s1 s2 : Value} {u : World} (hq : g ≠ q) (h : g < u.heap.size ∧ u.cell? ⟨g, 0, none⟩ = some (.int .i64 c0) ∧ u.cell? ⟨g, 1, none⟩ = some (.int .i64 c1) ∧ u.cell? ⟨g, 2, none⟩ = some (.int .i64 c2) ∧ u.cell? ⟨g, 3, none⟩ = some (.int .i64 c3) ∧ u.cell? ⟨g, 4, none⟩ = some (.int .i64 c4) ∧ u.cell? ⟨g, 5, none⟩ = some (.int .i64 s)) : g < (((u.setCell ⟨q, 0, none⟩ s0).setCell ⟨q, 1, none⟩ s1).setCell ⟨q, 2, none⟩ s2).heap.size ∧ (((u.setCell ⟨q, 0, none⟩ s0).setCell ⟨q, 1, none⟩ s1).setCell ⟨q, 2, none⟩ s2).cell? ⟨g, 0, none⟩ = some (.int .i64 c0) ∧ (((u.setCell ⟨q, 0, none⟩ s0).setCell ⟨q, 1, none⟩ s1).setCell ⟨q, 2, none⟩ s2).cell? ⟨g, 1, none⟩ = some (.int .i64 c1) ∧ (((u.setCell ⟨q, 0, none⟩ s0).setCell ⟨q, 1, none⟩ s1).setCell ⟨q, 2, none⟩ s2).cell? ⟨g, 2, none⟩ = some (.int .i64 c2) ∧ (((u.setCell ⟨q, 0, none⟩ s0).setCell ⟨q, 1, none⟩ s1).setCell ⟨q, 2, none⟩ s2).cell? ⟨g, 3, none⟩ = some (.int .i64 c3) ∧ (((u.setCell ⟨q, 0, none⟩ s0).setCell ⟨q, 1, none⟩ s1).setCell ⟨q, 2, none⟩ s2).cell? ⟨g, 4, none⟩ = some (.int .i64 c4) ∧ (((u.setCell ⟨q, 0, none⟩ s0).setCell ⟨q, 1, none⟩ s1).setCell ⟨q, 2, none⟩ s2).cell? ⟨g, 5, none⟩ = some (.int .i64 s) := by
  have hg := set3_grown u q s0 s1 s2
  have e1 : ∀ j v, u.cell? ⟨g, j, none⟩ = some v → (((u.setCell ⟨q, 0, none⟩ s0).setCell ⟨q, 1, none⟩ s1).setCell ⟨q, 2, none⟩ s2).cell? ⟨g, j, none⟩ = some v := fun j v hv => hg.cell hv (by simpa using hq)
  exact ⟨Nat.lt_of_lt_of_le h.1 hg.size, e1 _ _ h.2.1, e1 _ _ h.2.2.1, e1 _ _ h.2.2.2.1, e1 _ _ h.2.2.2.2.1, e1 _ _ h.2.2.2.2.2.1, e1 _ _ h.2.2.2.2.2.2⟩
theorem FrsOut.all {e : Ending} {w w' : World} {n d B S k0 : Nat} {X : List UInt8} (h : FrsOut e w w' n d B S k0 X) : ∃ (m gl : Nat) (la : Option Addr) (lc : Nat) (bf : Bool), e = .returned (.agg #[.slice (some ⟨gl, 0, none⟩) n n, .slice la m lc, .bool bf]) ∧ (bf = true ↔ (k0 + m = nBlk S B ∧ offX X m = X.length)) ∧ RunIs n d B S k0 X m ∧ RowsL w.heap.size w' (.slice (some ⟨gl, 0, none⟩) n n) n (chN B S k0 m) (smpL n d B S k0 X m) ∧
    w'.ownsRow w.heap.size 3 1 (.slice la m lc) m (lnL (lnX X) m) ∧ Below w.heap.size w w' := by
  obtain ⟨m, v, lv, hr, rfl, hrow, hl, hb⟩ := h.rows
  obtain ⟨la, lc, rfl⟩ := own_form hl
  obtain ⟨g, A, C, rfl, -⟩ := hrow.open
  exact ⟨m, g, la, lc, _, rfl, decide_eq_true_iff, hr, hrow, hl, hb⟩
theorem Bx.drew1 {u : World} {q : Nat} {t : TypeId} {cs : Array Value} (h : Bx u q t cs) : Bx u.drew q t cs := h
end Go.Proofs.YtlncjgnomhpjnaaGreatDoor
