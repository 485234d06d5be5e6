import Derived.Test.YtlncjgnomhpjnaaGreatDoorPR40
import Derived.Test.YtlncjgnomhpjnaaGreatDoorPR44
import Derived.Test.YtlncjgnomhpjnaaGreatDoorPR32
/-
  What holds while the document reads frames.
-/
namespace Go.Proofs.YtlncjgnomhpjnaaGreatDoor
open Go.RowKit Go.Deep
set_option linter.unusedVariables false
/-- what lies in memory while frames are read -/
structure RfI (w wr : World) (n : Nat) (is : Array Value) (vs : Nat → Value) (ls : Nat → List Int) (lv : Value) (lns : List Value) : Prop where
  inf : Bx wr w.heap.size 46 is
  row : wr.rowIs (w.heap.size + 1) 29 n vs
  own : ∀ c, c < n → wr.ownsRow (w.heap.size + 2) 3 1 (vs c) (ls c).length (intL (ls c))
  apart : ∀ c c', c < n → c' < n → c ≠ c' → (vs c).ownBlock = none ∨ (vs c).ownBlock ≠ (vs c').ownBlock
  lens : wr.ownsRow (w.heap.size + 2) 3 1 lv lns.length lns
  alone : ∀ c, c < n → (vs c).ownBlock = none ∨ (vs c).ownBlock ≠ lv.ownBlock
  below : Below w.heap.size w wr
  size : w.heap.size + 2 ≤ wr.heap.size
theorem RfI.drew {w wr : World} {n : Nat} {is : Array Value} {vs : Nat → Value} {ls : Nat → List Int} {lv : Value} {lns : List Value} (h : RfI w wr n is vs ls lv lns) : RfI w wr.drew n is vs ls lv lns :=
  ⟨h.inf, h.row, h.own, h.apart, h.lens, h.alone, h.below.drew, h.size⟩
theorem RfI.next {w wr u : World} {n : Nat} {is : Array Value} {vs : Nat → Value} {ls : Nat → List Int} {lv : Value} {lns : List Value} (h : RfI w wr n is vs ls lv lns) (hb : Below wr.heap.size wr u) : RfI w u n is vs ls lv lns :=
  ⟨h.inf.below hb, rowIs_of h.row (hb.block _ h.row.lt), fun c hc => (h.own c hc).kept (grownAll hb _) (Classical.em _), h.apart, h.lens.kept (grownAll hb _) (Classical.em _), h.alone, h.below.trans (hb.mono h.below.size), Nat.le_trans h.size hb.size⟩
theorem RfI.ne {w wr : World} {n : Nat} {is : Array Value} {vs : Nat → Value} {ls : Nat → List Int} {lv : Value} {lns : List Value} (h : RfI w wr n is vs ls lv lns) {c : Nat} (hc : c < n) : ∀ k, k < w.heap.size + 2 → (vs c).ownBlock ≠ some k := fun k hk e => by have := ((h.own c hc).lt k e).1; omega
theorem RfI.lne {w wr : World} {n : Nat} {is : Array Value} {vs : Nat → Value} {ls : Nat → List Int} {lv : Value} {lns : List Value} (h : RfI w wr n is vs ls lv lns) : ∀ k, k < w.heap.size + 2 → lv.ownBlock ≠ some k := fun k hk e => by have := (h.lens.lt k e).1; omega
theorem RfI.congr {w wr : World} {n : Nat} {is : Array Value} {vs : Nat → Value} {ls ls' : Nat → List Int} {lv : Value} {lns : List Value} (h : RfI w wr n is vs ls lv lns) (he : ∀ c, c < n → ls c = ls' c) : RfI w wr n is vs ls' lv lns :=
  ⟨h.inf, h.row, fun c hc => by rw [← he c hc]; exact h.own c hc, h.apart, h.lens, h.alone, h.below, h.size⟩
/-- the block that was read last -/
structure BkR (w wr : World) (n nn gb : Nat) (gs : Nat → Nat) (H : Nat → Nat → Int) (vs : Nat → Value) : Prop where
  cell : ∀ c, c < n → wr.cell? ⟨gb, c, none⟩ = some (.slice (some ⟨gs c, 0, none⟩) nn nn)
  rows : ∀ c, c < n → wr.rowIs (gs c) 3 nn (cutV nn (H c))
  lt : gb < wr.heap.size
  low : w.heap.size + 2 ≤ gb
  glow : ∀ c, c < n → w.heap.size + 2 ≤ gs c
  ne : ∀ c, c < n → (vs c).ownBlock ≠ some gb
  gne : ∀ c c', c < n → c' < n → (vs c).ownBlock ≠ some (gs c')
theorem BkR.drew {w wr : World} {n nn gb : Nat} {gs : Nat → Nat} {H : Nat → Nat → Int} {vs : Nat → Value} (h : BkR w wr n nn gb gs H vs) : BkR w wr.drew n nn gb gs H vs := ⟨h.cell, h.rows, h.lt, h.low, h.glow, h.ne, h.gne⟩
theorem BkR.sample {w wr : World} {n nn gb : Nat} {gs : Nat → Nat} {H : Nat → Nat → Int} {vs : Nat → Value} (h : BkR w wr n nn gb gs H vs) {c j : Nat} (hc : c < n) (hj : j < nn) : wr.cell? ⟨gs c, j, none⟩ = some (.int .i64 (H c j)) := by
  have := (h.rows c hc).cell hj
  simpa [cutV, cutI, hj] using this
theorem RfI.blk {w wr u : World} {n nn g c : Nat} {H : Nat → Nat → Int} {is : Array Value} {vs : Nat → Value} {ls : Nat → List Int} {lv : Value} {lns : List Value} (h : RfI w wr n is vs ls lv lns) (hro : RowsAre wr u (.slice (some ⟨g, 0, none⟩) n c) n nn H) : ∃ gs, BkR w u n nn g gs H vs := by
  obtain ⟨g', c', gs, e, ho, hr, -⟩ := hro
  injection e with e1 e2 e3
  injection e1 with e1
  injection e1 with e1
  subst e1
  subst e3
  have hs := h.size
  have hl := ho.lt g rfl
  have hv : ∀ c, c < n → ∀ k, wr.heap.size ≤ k → (vs c).ownBlock ≠ some k := fun c hc k hk e => by have := own_in (h.own c hc) e; omega
  exact ⟨gs, rowL_cell ho, fun c hc => (hr c hc).1, hl.2, by omega, fun c hc => by have := (hr c hc).2; omega, fun c hc => hv c hc _ hl.1, fun c c' hc hc' => hv c hc _ (hr c' hc').2⟩
/-- a list of a channel grows by a sample -/
theorem RfI.app {w wr : World} {n nn gb : Nat} {gs : Nat → Nat} {H : Nat → Nat → Int} {is : Array Value} {vs : Nat → Value} {ls : Nat → List Int} {lv : Value} {lns : List Value} (h : RfI w wr n is vs ls lv lns) (hk : BkR w wr n nn gb gs H vs) (i : Nat) (hi : i < n) (x : Int) (hl : (ls i).length + 1 ≤ 100000) (ty : TypeId) :
    ∃ g cap u, (Builtin.append_ #[29, 29] ty #[vs i, .slice (some ⟨wr.heap.size, 0, none⟩) 1 1]).run Tryz.prog (wr.alloc (.cells #[.int .i64 x] 3)) = .ok (.slice (some ⟨g, 0, none⟩) ((ls i).length + 1) cap) u ∧
      u.cell? ⟨w.heap.size + 1, i, none⟩ = some (vs i) ∧ u.frozen? ⟨w.heap.size + 1, i, none⟩ = false ∧ wr.grownBy u (vs i).ownBlock ∧
      RfI w (u.setCell ⟨w.heap.size + 1, i, none⟩ (.slice (some ⟨g, 0, none⟩) ((ls i).length + 1) cap)) n is (updV vs i (.slice (some ⟨g, 0, none⟩) ((ls i).length + 1) cap)) (updV ls i (ls i ++ [x])) lv lns ∧
      BkR w (u.setCell ⟨w.heap.size + 1, i, none⟩ (.slice (some ⟨g, 0, none⟩) ((ls i).length + 1) cap)) n nn gb gs H (updV vs i (.slice (some ⟨g, 0, none⟩) ((ls i).length + 1) cap)) := by
  obtain ⟨i0, hi0, hz0, hz1, hz2⟩ := info_parts infoInt1
  have hsz := h.size
  have ha : (wr.alloc (.cells #[.int .i64 x] 3)).heap.size = wr.heap.size + 1 := by simp
  obtain ⟨g, cap, u, hr, ho, hg0, hat, hlt⟩ := run_append_lies (P := Tryz.prog) (wr.alloc (.cells #[.int .i64 x] 3)) 29 ty (w.heap.size + 2) 3 i0 (.int .i64 0) 1 8 Tryz.underlying29 hi0 hz0 hz1 hz2 rfl (by omega) (vs i) (ls i).length (intL (ls i)) ((h.own i hi).alloc _)
    ⟨wr.heap.size, 0, none⟩ 1 1 [.int .i64 x] rfl (fun j y hj => by
      have : (wr.alloc (.cells #[.int .i64 x] 3)).cell? ⟨wr.heap.size, j, none⟩ = (#[.int .i64 x] : Array Value)[j]? := World.cell?_alloc_new _ _ _ _
      rw [Addr.add_lit, Nat.zero_add, this]
      simpa using hj) (fun y hy => by simp at hy; rw [hy]; rfl) (by omega) (by simp only [maxLen]; omega) (by omega) (by omega) (wr.heap.size + 1) ha
  have hg : wr.grownBy u (vs i).ownBlock := gr_trans (World.grownBy_alloc wr _ _) hg0
  have hus := hg0.size
  have hgb : w.heap.size + 2 ≤ g := (ho.lt g rfl).1
  have hgn : ∀ k, k < wr.heap.size → (vs i).ownBlock ≠ some k → k ≠ g := by
    intro k hk1 hk2 e
    subst e
    rcases hat with e | e
    · exact hk2 e
    · omega
  have hblk : ∀ k, k < wr.heap.size → (vs i).ownBlock ≠ some k → u.heap[k]? = wr.heap[k]? := fun k hk1 hk2 => hg.block _ hk1 (fun e => hk2 e.symm)
  have n0 := h.ne hi
  have hrow := rowIs_of h.row (hblk _ h.row.lt (n0 _ (by omega)))
  have hg2 := grown_set u ⟨w.heap.size + 1, i, none⟩ (.slice (some ⟨g, 0, none⟩) ((ls i).length + 1) cap)
  have hset : ∀ k, k < u.heap.size → k ≠ w.heap.size + 1 → (u.setCell ⟨w.heap.size + 1, i, none⟩ (.slice (some ⟨g, 0, none⟩) ((ls i).length + 1) cap)).heap[k]? = u.heap[k]? := fun k hk1 hk2 => hg2.block _ hk1 (by simp; omega)
  have hof : ∀ k, k < wr.heap.size → (vs i).ownBlock ≠ some k → k ≠ w.heap.size + 1 → (u.setCell ⟨w.heap.size + 1, i, none⟩ (.slice (some ⟨g, 0, none⟩) ((ls i).length + 1) cap)).heap[k]? = wr.heap[k]? := fun k h1 h2 h3 => (hset k (by omega) h3).trans (hblk k h1 h2)
  refine ⟨g, cap, u, hr, hrow.cell hi, hrow.frozen i, hg, ⟨?_, ?_, ?_, ?_, ?_, ?_, ?_, ?_⟩, ⟨?_, ?_, ?_, hk.low, hk.glow, ?_, ?_⟩⟩
  · exact h.inf.of (hof _ (by omega) (n0 _ (by omega)) (by omega))
  · exact (hrow.set i _).congr fun c _ => by unfold updV; rfl
  · intro c hc
    by_cases e : c = i
    · subst e
      rw [updV_same, updV_same, intL_app, List.length_append]
      exact ho.kept hg2 (.inr (by simp [Value.ownBlock]; omega))
    · rw [updV_ne _ _ e, updV_ne _ _ e]
      have h1 := (h.own c hc).kept hg (by
        rcases h.apart c i hc hi e with e1 | e1
        · exact .inl e1
        · exact .inr e1)
      exact h1.kept hg2 (.inr (h.ne hc _ (by show w.heap.size + 1 < _; omega)))
  · intro c c' hc hc' hne
    by_cases e : c = i
    · subst e
      rw [updV_same, updV_ne _ _ (Ne.symm hne)]
      right
      intro e2
      have e3 : (vs c').ownBlock = some g := e2.symm
      rcases hat with e4 | e4
      · rcases h.apart c c' hc hc' hne with e5 | e5
        · rw [e5] at e4; cases e4
        · exact e5 (e4.trans e3.symm)
      · have := own_in (h.own c' hc') e3; omega
    · by_cases e' : c' = i
      · subst e'
        rw [updV_same, updV_ne _ _ e]
        by_cases e3 : (vs c).ownBlock = some g
        · rcases hat with e4 | e4
          · rcases h.apart c c' hc hc' hne with e5 | e5
            · exact .inl e5
            · exact absurd (e3.trans e4.symm) e5
          · have := own_in (h.own c hc) e3; omega
        · exact .inr e3
      · rw [updV_ne _ _ e, updV_ne _ _ e']
        exact h.apart c c' hc hc' hne
  · exact (h.lens.kept hg (by
      by_cases e : lv.ownBlock = none
      · exact .inl e
      · right
        intro e2
        rcases h.alone i hi with e3 | e3
        · exact e (e2.trans e3)
        · exact e3 e2.symm)).kept hg2 (.inr (h.lne _ (by show w.heap.size + 1 < _; omega)))
  · intro c hc
    by_cases e : c = i
    · subst e
      rw [updV_same]
      right
      intro e2
      have e3 : lv.ownBlock = some g := e2.symm
      rcases hat with e4 | e4
      · rcases h.alone c hc with e5 | e5
        · rw [e5] at e4; cases e4
        · exact e5 (e4.trans e3.symm)
      · have := own_in h.lens e3; omega
    · rw [updV_ne _ _ e]
      exact h.alone c hc
  · exact (h.below.grown hg h.below.size (fun k hk => by have := ((h.own i hi).lt k hk).1; omega)).setCell (p := ⟨w.heap.size + 1, i, none⟩) (by show w.heap.size ≤ w.heap.size + 1; omega) _
  · have := hg2.size; omega
  · intro c hc
    have := hof gb hk.lt (hk.ne i hi) (by have := hk.low; omega)
    have hx := hk.cell c hc
    unfold World.cell? at hx ⊢
    simp only at hx ⊢
    rw [this]
    exact hx
  · intro c hc
    exact rowIs_of (hk.rows c hc) (hof _ (hk.rows c hc).lt (hk.gne i c hi hc) (by have := hk.glow c hc; omega))
  · have := hg2.size; have := hk.lt; omega
  · intro c hc
    by_cases e : c = i
    · subst e
      rw [updV_same]
      intro e2
      have e3 : g = gb := by simpa [Value.ownBlock] using e2
      exact hgn gb hk.lt (hk.ne c hc) e3.symm
    · rw [updV_ne _ _ e]; exact hk.ne c hc
  · intro c c' hc hc'
    by_cases e : c = i
    · subst e
      rw [updV_same]
      intro e2
      have e3 : g = gs c' := by simpa [Value.ownBlock] using e2
      exact hgn (gs c') (hk.rows c' hc').lt (hk.gne c c' hc hc') e3.symm
    · rw [updV_ne _ _ e]; exact hk.gne c c' hc hc'
/-- a length more -/
theorem RfI.len {w wr : World} {n : Nat} {is : Array Value} {vs : Nat → Value} {ls : Nat → List Int} {lv : Value} {lns : List Value} (h : RfI w wr n is vs ls lv lns) (L : Nat) (hl : lns.length + 1 ≤ 100000) (ty : TypeId) :
    ∃ g cap u, (Builtin.append_ #[29, 29] ty #[lv, .slice (some ⟨wr.heap.size, 0, none⟩) 1 1]).run Tryz.prog (wr.alloc (.cells #[.int .i64 L] 3)) = .ok (.slice (some ⟨g, 0, none⟩) (lns.length + 1) cap) u ∧
      RfI w u n is vs ls (.slice (some ⟨g, 0, none⟩) (lns.length + 1) cap) (lns ++ [.int .i64 L]) := by
  obtain ⟨i0, hi0, hz0, hz1, hz2⟩ := info_parts infoInt1
  have hsz := h.size
  have ha : (wr.alloc (.cells #[.int .i64 L] 3)).heap.size = wr.heap.size + 1 := by simp
  obtain ⟨g, cap, u, hr, ho, hg0, hat, hlt⟩ := run_append_lies (P := Tryz.prog) (wr.alloc (.cells #[.int .i64 L] 3)) 29 ty (w.heap.size + 2) 3 i0 (.int .i64 0) 1 8 Tryz.underlying29 hi0 hz0 hz1 hz2 rfl (by omega) lv lns.length lns (h.lens.alloc _)
    ⟨wr.heap.size, 0, none⟩ 1 1 [.int .i64 L] rfl (fun j x hj => by
      have : (wr.alloc (.cells #[.int .i64 L] 3)).cell? ⟨wr.heap.size, j, none⟩ = (#[.int .i64 L] : Array Value)[j]? := World.cell?_alloc_new _ _ _ _
      rw [Addr.add_lit, Nat.zero_add, this]
      simpa using hj) (fun x hx => by simp at hx; rw [hx]; rfl) (by omega) (by simp only [maxLen]; omega) (by omega) (by omega) (wr.heap.size + 1) ha
  have hg : wr.grownBy u lv.ownBlock := gr_trans (World.grownBy_alloc wr _ _) hg0
  have hus := hg0.size
  have hblk : ∀ k, k < wr.heap.size → lv.ownBlock ≠ some k → u.heap[k]? = wr.heap[k]? := fun k hk1 hk2 => hg.block _ hk1 (fun e => hk2 e.symm)
  have n0 := h.lne
  have hown : ∀ c, c < n → (vs c).ownBlock ≠ some g := by
    intro c hc e
    rcases hat with e4 | e4
    · rcases h.alone c hc with e5 | e5
      · rw [e5] at e; cases e
      · exact e5 (e.trans e4.symm)
    · have := own_in (h.own c hc) e; omega
  refine ⟨g, cap, u, hr, ⟨?_, ?_, ?_, h.apart, ?_, ?_, ?_, ?_⟩⟩
  · exact h.inf.of (hblk _ (by omega) (n0 _ (by omega)))
  · exact rowIs_of h.row (hblk _ h.row.lt (n0 _ (by omega)))
  · intro c hc
    exact (h.own c hc).kept hg (h.alone c hc)
  · rw [List.length_append]
    exact ho
  · intro c hc
    right
    exact fun e => hown c hc e
  · exact h.below.grown hg h.below.size (fun k hk => by have := (h.lens.lt k hk).1; omega)
  · omega
/-- where reading frames begins -/
theorem RfI.start (w : World) (n : Nat) (is : Array Value) : RfI w ((w.alloc (.cells is 46)).alloc (.cells (madeCells #[.slice none 0 0] n) 29)) n is (fun _ => .slice none 0 0) (fun _ => []) (.slice none 0 0) [] := by
  refine ⟨?_, ?_, fun c _ => World.ownsRow_nil _ _ _ _, fun c c' _ _ _ => .inl rfl, World.ownsRow_nil _ _ _ _, fun c _ => .inl rfl, ?_, ?_⟩
  · exact (Bx.new w _ _).alloc _
  · have h := World.rowIs_made (w.alloc (.cells is 46)) (.slice none 0 0) n 29
    rw [World.size_alloc] at h
    exact h
  · exact ((Below.refl _ _).alloc (Nat.le_refl _) _).alloc (by simp) _
  · simp
/-- the channels' samples, where so many channels have grown already, and the next one by so many samples -/
noncomputable def lsR (n d B S k0 : Nat) (X : List UInt8) (m c j : Nat) (c' : Nat) : List Int :=
  if c' < c then chL n d B S k0 X c' (m + 1) else if c' = c then chL n d B S k0 X c' m ++ (List.range j).map (smpF n d B (k0 + m) (atX X m) c') else chL n d B S k0 X c' m
theorem lsR_zero (n d B S k0 : Nat) (X : List UInt8) (m : Nat) : lsR n d B S k0 X m 0 0 = fun c => chL n d B S k0 X c m := by
  funext c
  unfold lsR
  rw [if_neg (by omega)]
  split
  · simp
  · rfl
theorem lsR_self (n d B S k0 : Nat) (X : List UInt8) (m c j : Nat) : lsR n d B S k0 X m c j c = chL n d B S k0 X c m ++ (List.range j).map (smpF n d B (k0 + m) (atX X m) c) := by
  unfold lsR
  rw [if_neg (by omega), if_pos rfl]
theorem lsR_step (n d B S k0 : Nat) (X : List UInt8) (m c j : Nat) (x : Int) (hx : x = smpF n d B (k0 + m) (atX X m) c j) : updV (lsR n d B S k0 X m c j) c (lsR n d B S k0 X m c j c ++ [x]) = lsR n d B S k0 X m c (j + 1) := by
  funext c'
  by_cases e : c' = c
  · subst e
    rw [updV_same, lsR_self, lsR_self, List.range_succ, List.map_append, hx, List.append_assoc]; rfl
  · rw [updV_ne _ _ e]
    unfold lsR
    rw [if_neg e, if_neg e]
theorem lsR_next (n d B S k0 : Nat) (X : List UInt8) (m c j : Nat) (hj : j = blkN S B (k0 + m)) : lsR n d B S k0 X m c j = lsR n d B S k0 X m (c + 1) 0 := by
  funext c'
  unfold lsR
  by_cases e : c' = c
  · subst e
    rw [if_neg (by omega), if_pos rfl, if_pos (by omega), hj]; rfl
  · by_cases e2 : c' < c
    · rw [if_pos e2, if_pos (by omega)]
    · rw [if_neg e2, if_neg e, if_neg (by omega)]
      split <;> simp
theorem lsR_full {n d B S k0 : Nat} {X : List UInt8} {m j c : Nat} (hc : c < n) : lsR n d B S k0 X m n j c = chL n d B S k0 X c (m + 1) := by
  unfold lsR
  rw [if_pos hc]
end Go.Proofs.YtlncjgnomhpjnaaGreatDoor

