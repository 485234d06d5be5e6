import Derived.Test.YtlncjgnomhpjnabGreatDoorQT45
/-
  What the laws ask of a line: a line that was looked at is placed.
-/
namespace Go.Proofs.YtlncjgnomhpjnabGreatDoor
open Go.RowKit Go.Deep
set_option linter.unusedVariables false
theorem row_cap {w : World} {base n : Nat} {A : Option Addr} {cap : Nat} {xs : List Value} (h : w.ownsRow base 3 1 (.slice A n cap) n xs) : n ≤ cap := by
  rcases h.2 with ⟨e, hn⟩ | ⟨g, cap', cur, e, -, -, h4, -⟩
  · omega
  · cases e
    exact h4
theorem held_once {H : Nat → Option Nat} {W i j k : Nat} (h : ((List.range W).filterMap H).Nodup) (hi : i < W) (hj : j < i) (h1 : H i = some k) (h2 : H j = some k) : False := by
  have e : List.range W = List.range i ++ List.range' i (W - i) := by
    have := List.range'_append (s := 0) (m := i) (n := W - i) (step := 1)
    simp only [Nat.zero_add, Nat.one_mul] at this
    rw [List.range_eq_range', List.range_eq_range', this, show i + (W - i) = W from by omega]
  rw [e, List.filterMap_append, List.nodup_append] at h
  exact h.2.2 k (List.mem_filterMap.2 ⟨j, List.mem_range.2 hj, h2⟩) k (List.mem_filterMap.2 ⟨i, by rw [List.mem_range'_1]; omega, h1⟩) rfl
theorem look_placed {p : Lpar} {a : Lad} {x : Lsn} {F : Nat → Prop} {s : Lst} {w : World} (h : LineIs p a x F s w) (hi : LInv p s) (hst : s.stopped = false) {B : Nat} {v1 v2 v3 : Value} {u : World} (hS : Seen p s B v1 v2 v3 u) (c0 c1 c2 c3 c4 : Int) :
    Calls Tryz.prog 49 #[.agg (viewC s v1 v2 v3), .agg #[.int .i64 c0, .int .i64 c1, .int .i64 c2, .int .i64 c3, .int .i64 c4, .int .i64 p.W, .int .i64 p.Wd, .int .i64 p.Rm], .int .i64 p.N] u fun e w' => e = .returned (.bool true) ∧ Below u.heap.size u w' := by
  obtain ⟨A1, k1, rfl, hA1⟩ := rowInts hS.held
  have hk1 := row_cap hS.held
  obtain ⟨A2, k2, rfl, hA2⟩ := own_open hS.shelf
  have hB := h.kp.B1
  have hS3 := h.kp.S3
  have hN : p.N ≤ 300 := by
    have := nBlk_le (S := x.S) hB
    rw [h.NB]; omega
  have hpl := hi.put_len hst
  have hgv := hi.given
  have hnd := hi.place
  unfold Lst.put at hnd
  have hnd1 := (List.nodup_append.1 hnd)
  have hnd2 := List.nodup_append.1 hnd1.1
  have hnd3 := List.nodup_append.1 hnd2.1
  have hHm : ∀ i, i < p.W → ∀ k, s.held i = some k → k ∈ s.heldL p := fun i hi' k hk => List.mem_filterMap.2 ⟨i, List.mem_range.2 hi', hk⟩
  have hHp : ∀ k, k ∈ s.heldL p → k ∈ s.put p := fun k hk => by
    unfold Lst.put
    simp only [List.mem_append]
    exact Or.inl (Or.inl (Or.inr hk))
  have hgd : ∀ i, i < s.shelf.length → s.shelf[i]? = some (s.shelf.getD i 0) := fun i hi' => by
    rw [List.getD_eq_getElem?_getD, List.getElem?_eq_getElem hi']
    rfl
  have hsm : ∀ i, i < s.shelf.length → s.shelf.getD i 0 ∈ s.shelf := fun i hi' => List.mem_of_getElem? (hgd i hi')
  have hsp : ∀ k, k ∈ s.shelf → k ∈ s.put p := fun k hk => by
    unfold Lst.put
    simp only [List.mem_append]
    exact Or.inr hk
  refine placed_yes (lstN s) c0 c1 c2 c3 c4 s.given s.summed s.wrote s.writes s.jobs.length s.lane.length s.ready.length p.W k1 s.shelf.length k2 p.Wd p.Rm p.N A1 A2 v3 s.held (fun i => s.shelf.getD i 0) u hi.jr hi.lr hi.rr h.R8 hi.wrote hi.given hN hi.win h.d16 hi.lane.1 hi.lane_len.symm h.W8 hk1 (by omega) (fun i hi' => hA1 i hi') (fun i hi' => ?_) (fun i hi' k hk => ⟨(hi.ahead k (hHp k (hHm i hi' k hk))).1, (hi.ahead k (hHp k (hHm i hi' k hk))).2, fun j hj e => held_once hnd3.2.1 hi' hj hk e, fun j hj e => hnd1.2.2 k (List.mem_append.2 (Or.inl (List.mem_append.2 (Or.inr (hHm i hi' k hk))))) _ (hsm j hj) e.symm⟩) (fun i hi' => ⟨(hi.ahead _ (hsp _ (hsm i hi'))).1, (hi.ahead _ (hsp _ (hsm i hi'))).2, fun j hj => ?_⟩) hpl
  · obtain ⟨g, e, -, hc⟩ := hA2 (by omega)
    exact ⟨g, e, hc i _ (by rw [List.getElem?_map, hgd i hi']; rfl)⟩
  · have hj' : j < s.shelf.length := by omega
    have := (List.pairwise_iff_getElem.1 hi.sorted) j i hj' hi' (by omega)
    simp only [List.getD_eq_getElem?_getD, List.getElem?_eq_getElem hj', List.getElem?_eq_getElem hi', Option.getD_some]
    exact this
end Go.Proofs.YtlncjgnomhpjnabGreatDoor

