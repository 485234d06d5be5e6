import Derived.Test.YtlncjgnomhpjnaaGreatDoorPR13
/-
  The book: lists of lists go into it.
-/
namespace Go.Proofs.YtlncjgnomhpjnaaGreatDoor
open Go.RowKit Go.Deep
set_option linter.unusedVariables false
theorem mkl_two (P : Nat → Prop) (w : World) (m : Int) (hP : ∀ k, w.heap.size ≤ k → P k) : MkL P ((w.alloc (.cells #[.int .i64 m] 3)).alloc (.cells #[.int .i64 m] 3)) m (.slice (some ⟨w.heap.size, 0, none⟩) 1 1) ∧ MkL P ((w.alloc (.cells #[.int .i64 m] 3)).alloc (.cells #[.int .i64 m] 3)) m (.slice (some ⟨w.heap.size + 1, 0, none⟩) 1 1) := by
  refine ⟨(mkl_new P w m (hP _ (Nat.le_refl _))).alloc _, ?_⟩
  have := mkl_new P (w.alloc (.cells #[.int .i64 m] 3)) m (hP _ (by simp))
  rw [World.size_alloc] at this
  exact this
theorem mkl_three (P : Nat → Prop) (w : World) (m : Int) (hP : ∀ k, w.heap.size ≤ k → P k) : MkL P (((w.alloc (.cells #[.int .i64 m] 3)).alloc (.cells #[.int .i64 m] 3)).alloc (.cells #[.int .i64 m] 3)) m (.slice (some ⟨w.heap.size, 0, none⟩) 1 1) ∧ MkL P (((w.alloc (.cells #[.int .i64 m] 3)).alloc (.cells #[.int .i64 m] 3)).alloc (.cells #[.int .i64 m] 3)) m (.slice (some ⟨w.heap.size + 1, 0, none⟩) 1 1) ∧ MkL P (((w.alloc (.cells #[.int .i64 m] 3)).alloc (.cells #[.int .i64 m] 3)).alloc (.cells #[.int .i64 m] 3)) m (.slice (some ⟨w.heap.size + 1 + 1, 0, none⟩) 1 1) := by
  refine ⟨(mkl_two P w m hP).1.alloc _, (mkl_two P w m hP).2.alloc _, ?_⟩
  have := mkl_new P ((w.alloc (.cells #[.int .i64 m] 3)).alloc (.cells #[.int .i64 m] 3)) m (hP _ (by simp; omega))
  rw [World.size_alloc, World.size_alloc] at this
  exact this
/-- three times lists of one mark are appended, each time to the same list -/
theorem app_three (W : World) (wr : World) (v : Value) (n : Nat) (og : Option Nat) (m : Int) (hWr : W.heap.size ≤ wr.heap.size) (h : LM (fun k => W.heap.size ≤ k) wr v n og m) (hn : n ≤ 1000000) (ty : TypeId) :
    ∃ b1 o1 c1 u1 b2 o2 c2 u2 b3 o3 c3 u3,
      (Builtin.append_ #[24, 24] ty #[v, .slice (some ⟨wr.heap.size + 1, 0, none⟩) 1 1]).run Tryz.prog ((wr.alloc (.cells #[.int .i64 m] 3)).alloc (.cells #[.slice (some ⟨wr.heap.size, 0, none⟩) 1 1] 29)) = .ok (.slice (some ⟨b1, o1, none⟩) (n + 1) c1) u1 ∧
      (Builtin.append_ #[24, 24] ty #[v, .slice (some ⟨u1.heap.size + 1 + 1, 0, none⟩) 2 2]).run Tryz.prog (((u1.alloc (.cells #[.int .i64 m] 3)).alloc (.cells #[.int .i64 m] 3)).alloc (.cells #[.slice (some ⟨u1.heap.size, 0, none⟩) 1 1, .slice (some ⟨u1.heap.size + 1, 0, none⟩) 1 1] 29)) = .ok (.slice (some ⟨b2, o2, none⟩) (n + 2) c2) u2 ∧
      (Builtin.append_ #[24, 24] ty #[v, .slice (some ⟨u2.heap.size + 1 + 1 + 1, 0, none⟩) 3 3]).run Tryz.prog ((((u2.alloc (.cells #[.int .i64 m] 3)).alloc (.cells #[.int .i64 m] 3)).alloc (.cells #[.int .i64 m] 3)).alloc (.cells #[.slice (some ⟨u2.heap.size, 0, none⟩) 1 1, .slice (some ⟨u2.heap.size + 1, 0, none⟩) 1 1, .slice (some ⟨u2.heap.size + 1 + 1, 0, none⟩) 1 1] 29)) = .ok (.slice (some ⟨b3, o3, none⟩) (n + 3) c3) u3 ∧
      (og = some b1 ∨ wr.heap.size ≤ b1) ∧ (og = some b2 ∨ wr.heap.size ≤ b2) ∧ (og = some b3 ∨ wr.heap.size ≤ b3) ∧
      LM (fun k => W.heap.size ≤ k) u3 v n og m ∧ LM (fun k => W.heap.size ≤ k) u3 (.slice (some ⟨b1, o1, none⟩) (n + 1) c1) (n + 1) (some b1) m ∧ LM (fun k => W.heap.size ≤ k) u3 (.slice (some ⟨b2, o2, none⟩) (n + 2) c2) (n + 2) (some b2) m ∧ LM (fun k => W.heap.size ≤ k) u3 (.slice (some ⟨b3, o3, none⟩) (n + 3) c3) (n + 3) (some b3) m ∧
      wr.grownBy u3 og ∧ wr.heap.size ≤ u1.heap.size ∧ u1.heap.size ≤ u2.heap.size ∧ u2.heap.size ≤ u3.heap.size := by
  have hP : ∀ u : World, wr.heap.size ≤ u.heap.size → ∀ k, u.heap.size ≤ k → (fun k => W.heap.size ≤ k) k := fun u hu k hk => by show W.heap.size ≤ k; omega
  have A1 := World.grownBy_alloc wr (.cells #[.int .i64 m] 3) og
  obtain ⟨b1, o1, c1, u1, r1, hb1, l1, k1, s1, -⟩ := app_LM (fun k => W.heap.size ≤ k) (wr.alloc (.cells #[.int .i64 m] 3)) v n og m #[.slice (some ⟨wr.heap.size, 0, none⟩) 1 1] (h.alloc _) hn (by simp) (by simp) (by
    intro u hu; simp at hu; rw [hu]; exact mkl_new _ wr m hWr) ty
  have z1 := s1.gr.size
  rw [World.size_alloc] at r1 hb1 z1
  have G1 : wr.grownBy u1 og := gr_trans A1 s1.gr
  have hw1 : wr.heap.size ≤ u1.heap.size := by omega
  have A2 := gr_trans (World.grownBy_alloc u1 (.cells #[.int .i64 m] 3) og) (World.grownBy_alloc (u1.alloc (.cells #[.int .i64 m] 3)) (.cells #[.int .i64 m] 3) og)
  have M2 := mkl_two (fun k => W.heap.size ≤ k) u1 m (hP u1 hw1)
  obtain ⟨b2, o2, c2, u2, r2, hb2, l2, k2, s2, n2⟩ := app_LM (fun k => W.heap.size ≤ k) ((u1.alloc (.cells #[.int .i64 m] 3)).alloc (.cells #[.int .i64 m] 3)) v n og m #[.slice (some ⟨u1.heap.size, 0, none⟩) 1 1, .slice (some ⟨u1.heap.size + 1, 0, none⟩) 1 1] ((k1.alloc _).alloc _) hn (by simp) (by simp) (by
    intro u hu; simp at hu; rcases hu with hu | hu <;> rw [hu]
    · exact M2.1
    · exact M2.2) ty
  have z2 := s2.gr.size
  rw [World.size_alloc, World.size_alloc] at r2 hb2 z2
  have G2 : wr.grownBy u2 og := gr_trans G1 (gr_trans A2 s2.gr)
  have hw2 : u1.heap.size ≤ u2.heap.size := by omega
  have A3 := gr_trans (gr_trans (World.grownBy_alloc u2 (.cells #[.int .i64 m] 3) og) (World.grownBy_alloc (u2.alloc (.cells #[.int .i64 m] 3)) (.cells #[.int .i64 m] 3) og)) (World.grownBy_alloc ((u2.alloc (.cells #[.int .i64 m] 3)).alloc (.cells #[.int .i64 m] 3)) (.cells #[.int .i64 m] 3) og)
  have M3 := mkl_three (fun k => W.heap.size ≤ k) u2 m (hP u2 (by omega))
  obtain ⟨b3, o3, c3, u3, r3, hb3, l3, k3, s3, n3⟩ := app_LM (fun k => W.heap.size ≤ k) (((u2.alloc (.cells #[.int .i64 m] 3)).alloc (.cells #[.int .i64 m] 3)).alloc (.cells #[.int .i64 m] 3)) v n og m #[.slice (some ⟨u2.heap.size, 0, none⟩) 1 1, .slice (some ⟨u2.heap.size + 1, 0, none⟩) 1 1, .slice (some ⟨u2.heap.size + 1 + 1, 0, none⟩) 1 1] (((k2.alloc _).alloc _).alloc _) hn (by simp) (by simp) (by
    intro u hu; simp at hu; rcases hu with hu | hu | hu <;> rw [hu]
    · exact M3.1
    · exact M3.2.1
    · exact M3.2.2) ty
  have z3 := s3.gr.size
  rw [World.size_alloc, World.size_alloc, World.size_alloc] at r3 hb3 z3
  have nI : ∀ u : World, wr.grownBy u og → ∀ g, og = some g → ∀ N f, LM (fun k => W.heap.size ≤ k) u v n og m → ¬ u.rowIs g 3 N f := fun u _ g hg N f hl => hl.notInt g hg N f
  refine ⟨b1, o1, c1, u1, b2, o2, c2, u2, b3, o3, c3, u3, r1, r2, r3, hb1.imp id (fun h => by omega), hb2.imp id (fun h => by omega), hb3.imp id (fun h => by omega), k3, ?_, ?_, l3, gr_trans G2 (gr_trans A3 s3.gr), by omega, by omega, by omega⟩
  · have e2 : LM (fun k => W.heap.size ≤ k) u2 (.slice (some ⟨b1, o1, none⟩) (n + 1) c1) (n + 1) (some b1) m := ((l1.alloc _).alloc _).step s2 ((k1.alloc _).alloc _).notInt n2
    exact (((e2.alloc _).alloc _).alloc _).step s3 (((k2.alloc _).alloc _).alloc _).notInt n3
  · exact (((l2.alloc _).alloc _).alloc _).step s3 (((k2.alloc _).alloc _).alloc _).notInt n3
theorem LM.keep {P : Nat → Prop} {w w' : World} {v : Value} {n : Nat} {og : Option Nat} {m : Int} (h : LM P w v n og m) (hb : ∀ k, IsRow w k → w'.heap[k]? = w.heap[k]?) : LM P w' v n og m := by
  obtain ⟨x, h1, h2⟩ := h
  exact ⟨x, h1.keep fun g hg => hb g (h1.isRow (.inr rfl) hg), fun i hi => (h2 i hi).keep (fun k _ hr => hb k hr) (fun _ h => h)⟩
end Go.Proofs.YtlncjgnomhpjnaaGreatDoor

