/-
  The law: Reads.
-/
import Derived.Test.YtlncjgnomhpjnaaDoorLawLooks
namespace Go.Proofs.YtlncjgnomhpjnaaDoor
open Go.RowKit Go.Deep
set_option linter.unusedVariables false

theorem Sh.keep {S : Nat → Prop} {w w' : World} {v : Value} {n : Nat} {m : Int} (h : Sh S w v n m) (hb : ∀ k, S k → k < w.heap.size → w'.heap[k]? = w.heap[k]?) (hs : w.heap.size ≤ w'.heap.size) : Sh S w' v n m := by
  obtain ⟨a, c, e, hI, hS⟩ := h
  refine ⟨a, c, e, fun i hi => ?_, fun y hy => ⟨(hS y hy).1, Nat.lt_of_lt_of_le (hS y hy).2 hs⟩⟩
  obtain ⟨y, hy, hc⟩ := hI i hi
  have hbl : (y.add i).block = y.block := by cases y; cases i <;> simp [Addr.add]
  refine ⟨y, hy, ?_⟩
  rw [World.cell?_of_block (w := w) (w' := w') (by rw [hbl]; exact hb _ (hS y hy).1 (hS y hy).2)]
  exact hc

theorem kp_of {w : World} {base b c : Nat} {ks : List Value} (hown : w.ownsRow base 50 6 (.slice (some ⟨b, 0, none⟩) 2 c) 2 ks) (o : Nat) {l v1 v2 v3 : Value} {n : Nat} {m : Int} {S : Nat → Prop} (hn : n ≤ 32)
    (h0 : ks[o]? = some l) (h1 : ks[o + 1]? = some v1) (h2 : ks[o + 2]? = some v2) (h3 : ks[o + 3]? = some v3) (h4 : ks[o + 4]? = some (.int .i64 n)) (h5 : ks[o + 5]? = some (.int .i64 m))
    (s0 : Sh S w l n m) (s1 : Sh S w v1 (n + 1) m) (s2 : Sh S w v2 (n + 2) m) (s3 : Sh S w v3 (n + 3) m) : Kp w b o m := by
  obtain ⟨a0, c0, rfl, i0, -⟩ := s0
  obtain ⟨a1, c1, rfl, i1, -⟩ := s1
  obtain ⟨a2, c2, rfl, i2, -⟩ := s2
  obtain ⟨a3, c3, rfl, i3, -⟩ := s3
  have hc : ∀ j u, ks[j]? = some u → w.cell? ⟨b, j, none⟩ = some u := fun j u hj => by
    have := hown.cells (g := b) rfl j u hj
    rwa [show ((⟨b, 0, none⟩ : Addr).add j) = ⟨b, j, none⟩ by cases j <;> simp [Addr.add]] at this
  exact ⟨a0, a1, a2, a3, n, c0, c1, c2, c3, hn, hc _ _ h0, hc _ _ h1, hc _ _ h2, hc _ _ h3, hc _ _ h4, hc _ _ h5, i0, i1, i2, i3⟩

/-- two lists in the book: it looks well -/
theorem two_took {t1 w1 t2 : World} {B n N : Nat} {l l' kv : Value} {base : Nat} {v1 v2 v3 : Value} (hn : n ≤ 32) (hN : N ≤ 32)
    (hB1 : Bo t1 B kv 1) (s0 : Sh (fun k => k ≠ B ∧ kv.ownBlock ≠ some k) t1 l n (-1001)) (s1 : Sh (fun k => k ≠ B ∧ kv.ownBlock ≠ some k) t1 v1 (n + 1) (-1001)) (s2 : Sh (fun k => k ≠ B ∧ kv.ownBlock ≠ some k) t1 v2 (n + 2) (-1001)) (s3 : Sh (fun k => k ≠ B ∧ kv.ownBlock ≠ some k) t1 v3 (n + 3) (-1001))
    (hb : Below t1.heap.size t1 w1) (hl : ∀ k, l'.ownBlock = some k → t1.heap.size ≤ k) (h : Took w1 t2 B l' N kv 1 base 1 [l, v1, v2, v3, .int .i64 n, .int .i64 (-1001)] (-1000 - (((1 : Nat) : Int) + 1))) :
    ∃ b c, Bo t2 B (.slice (some ⟨b, 0, none⟩) 2 c) 2 ∧ Kp t2 b 0 (-1001) ∧ Kp t2 b 6 (-1002) := by
  obtain ⟨u1, u2, u3, kv', base', hBo, hown, -, -, q0, q1, q2, q3⟩ := h.all
  have keep : ∀ k, (k ≠ B ∧ kv.ownBlock ≠ some k) → k < t1.heap.size → t2.heap[k]? = t1.heap[k]? := fun k hk hlt =>
    (h.block k (Nat.lt_of_lt_of_le hlt hb.size) hk.1 (fun e => by have := hl k e; omega) hk.2).trans (hb.block k hlt)
  have hs : t1.heap.size ≤ t2.heap.size := Nat.le_trans hb.size h.size
  obtain ⟨b, c, rfl⟩ : ∃ b c, kv' = .slice (some ⟨b, 0, none⟩) 2 c := by
    rcases hown.2 with e | ⟨g', cap, cur, e, -⟩
    · have := e.2; omega
    · exact ⟨g', cap, e⟩
  refine ⟨b, c, ?_, ?_, ?_⟩
  · simpa using hBo
  · exact kp_of hown 0 hn rfl rfl rfl rfl rfl rfl (s0.keep keep hs) (s1.keep keep hs) (s2.keep keep hs) (s3.keep keep hs)
  · exact kp_of hown 6 hN rfl rfl rfl rfl rfl rfl q0 q1 q2 q3
end Go.Proofs.YtlncjgnomhpjnaaDoor
