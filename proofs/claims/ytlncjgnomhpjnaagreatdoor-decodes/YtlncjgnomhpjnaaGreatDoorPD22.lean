import Derived.Test.YtlncjgnomhpjnaaGreatDoorPD17
import Derived.Test.YtlncjgnomhpjnaaGreatDoorPD7
import Derived.Test.YtlncjgnomhpjnaaGreatDoorPD19
import Derived.Test.YtlncjgnomhpjnaaGreatDoorPD20
import Derived.Test.YtlncjgnomhpjnaaGreatDoorPD8
import Derived.Test.YtlncjgnomhpjnaaGreatDoorPD4
/-
  The subframes of a frame, one behind the other: mathematics.
-/
namespace Go.Proofs.YtlncjgnomhpjnaaGreatDoor
set_option linter.unusedVariables false
theorem readSt_le {b : Nat → Bool} {N width n : Nat} {r : (Nat → Int) × Nat} (h : readSt b N width n = some r) : r.2 ≤ N := by
  obtain ⟨_, -, -, h3⟩ := readSt_ext (b := b) (b' := b) (N := N) (M := N) (fun _ _ => rfl) (Nat.le_refl _) h
  exact h3
theorem readSt_bd {b : Nat → Bool} {N width n : Nat} {r : (Nat → Int) × Nat} (hw : width ≤ 13) (h : readSt b N width n = some r) : ∀ j, j < n → -4096 ≤ r.1 j ∧ r.1 j ≤ 4096 := by
  intro j hj
  unfold readSt at h
  split at h
  · rename_i hc
    cases hb : bodySt b N (num b 0 4) (width - num b 4 4) n 8 with
    | none => rw [hb] at h; cases h
    | some xp =>
      rw [hb] at h
      simp only [Option.map_some, Option.some.injEq] at h
      rw [← h]
      exact mul_sh (width := width) (body_fits (by omega) hb j hj) (by omega) (by omega)
  · cases h
def upd2 (G : Nat → Nat → Int) (i : Nat) (x : Nat → Int) (j : Nat) : Nat → Int := if j = i then x else G j
/-- the first i subframes of a frame, and where the next one begins -/
def subsAt (b : Nat → Bool) (N d n m nn : Nat) : Nat → Option ((Nat → Nat → Int) × Nat)
  | 0 => some (fun _ _ => 0, 0)
  | i + 1 => (subsAt b N d n m nn i).bind fun r => (readAt b N r.2 (widN d n m i) nn).map fun xp => (upd2 r.1 i xp.1, xp.2)
theorem widN_bd {d n m i : Nat} (hd1 : 1 ≤ d) (hd : d ≤ 12) : 1 ≤ widN d n m i ∧ widN d n m i ≤ 13 := by
  unfold widN w1 w2
  split
  · split
    · split <;> omega
    · split <;> omega
  · omega
theorem readAt_le {b : Nat → Bool} {N o width n : Nat} {r : (Nat → Int) × Nat} (ho : o ≤ N) (h : readAt b N o width n = some r) : r.2 ≤ N ∧ o ≤ r.2 := by
  rw [readAt_sh ho] at h
  cases hr : readSt (shB b o) (N - o) width n with
  | none => rw [hr] at h; cases h
  | some x =>
    rw [hr] at h
    simp only [Option.map_some, Option.some.injEq] at h
    have := readSt_le hr
    rw [← h]
    exact ⟨by show o + x.2 ≤ N; omega, by show o ≤ o + x.2; omega⟩
theorem readAt_bd {b : Nat → Bool} {N o width n : Nat} {r : (Nat → Int) × Nat} (ho : o ≤ N) (hw : width ≤ 13) (h : readAt b N o width n = some r) : ∀ j, j < n → -4096 ≤ r.1 j ∧ r.1 j ≤ 4096 := by
  rw [readAt_sh ho] at h
  cases hr : readSt (shB b o) (N - o) width n with
  | none => rw [hr] at h; cases h
  | some x =>
    rw [hr] at h
    simp only [Option.map_some, Option.some.injEq] at h
    intro j hj
    rw [← h]
    exact readSt_bd (b := shB b o) (N := N - o) (r := x) hw hr j hj
theorem subsAt_le {b : Nat → Bool} {N d n m nn : Nat} (hd1 : 1 ≤ d) (hd : d ≤ 12) : ∀ {i : Nat} {r : (Nat → Nat → Int) × Nat}, subsAt b N d n m nn i = some r → r.2 ≤ N ∧ ∀ k, k < i → ∀ j, j < nn → -4096 ≤ r.1 k j ∧ r.1 k j ≤ 4096
  | 0, r, h => by
    cases h
    exact ⟨Nat.zero_le _, fun k hk => absurd hk (Nat.not_lt_zero k)⟩
  | i + 1, r, h => by
    unfold subsAt at h
    cases hs : subsAt b N d n m nn i with
    | none => rw [hs] at h; cases h
    | some q =>
      rw [hs, Option.bind_some] at h
      obtain ⟨ih1, ih2⟩ := subsAt_le hd1 hd hs
      cases hr : readAt b N q.2 (widN d n m i) nn with
      | none => rw [hr] at h; cases h
      | some x =>
        rw [hr] at h
        simp only [Option.map_some, Option.some.injEq] at h
        rw [← h]
        refine ⟨(readAt_le ih1 hr).1, fun k hk j hj => ?_⟩
        show -4096 ≤ upd2 q.1 i x.1 k j ∧ upd2 q.1 i x.1 k j ≤ 4096
        unfold upd2
        by_cases e : k = i
        · rw [if_pos e]; exact readAt_bd ih1 (widN_bd hd1 hd).2 hr j hj
        · rw [if_neg e]; exact ih2 k (by omega) j hj
theorem subsAt_none {b : Nat → Bool} {N d n m nn i k : Nat} (h : subsAt b N d n m nn i = none) (hk : i ≤ k) : subsAt b N d n m nn k = none := by
  induction k with
  | zero => have : i = 0 := by omega
            subst this; exact h
  | succ k ih =>
    by_cases e : i = k + 1
    · rw [← e]; exact h
    · unfold subsAt
      rw [ih (by omega)]; rfl
/-- what the bits of a frame tell, in the end -/
def sampP (d m nn : Nat) (G : Nat → Nat → Int) : Prop := ∀ j, j < nn → fitsB d (unL m (G 0 j) (G 1 j)) = true ∧ fitsB d (unR m (G 0 j) (G 1 j)) = true
def unG (n m : Nat) (G : Nat → Nat → Int) (i j : Nat) : Int := if n = 2 then (if i = 0 then unL m (G 0 j) (G 1 j) else unR m (G 0 j) (G 1 j)) else G i j
/-- the bits tell these samples -/
def InsP (BT : List UInt8) (b : Nat → Bool) (d n m nn : Nat) (H : Nat → Nat → Int) : Prop :=
  ∃ G o, subsAt b BT.length d n m nn n = some (G, o) ∧ FillP (BT.drop o) ∧ (n = 2 → sampP d m nn G) ∧ H = unG n m G
end Go.Proofs.YtlncjgnomhpjnaaGreatDoor

/-
  A stream's head: head.Finished.
-/
namespace Go.Proofs.YtlncjgnomhpjnaaGreatDoor
open Go.RowKit Go.Deep
set_option linter.unusedVariables false
theorem infoHead : (Tryz.prog.info? 115).map (·.size) = some 11 := by kernel_rfl
/-- a head's cells -/
def hdC (c0 c1 c2 c3 c4 s : Int) (f : Bool) (least most sum : Int) (pv : Value) : Array Value :=
  #[.int .i64 c0, .int .i64 c1, .int .i64 c2, .int .i64 c3, .int .i64 c4, .int .i64 s, .bool f, .int .i64 least, .int .i64 most, .int .i64 sum, pv]
theorem Bx.hd7 {w : World} {b : Nat} {t : TypeId} {c0 c1 c2 c3 c4 s : Int} {f : Bool} {least most sum : Int} {pv : Value} (h : Bx w b t (hdC c0 c1 c2 c3 c4 s f least most sum pv)) (x : Int) : Bx (w.setCell ⟨b, 7, none⟩ (.int .i64 x)) b t (hdC c0 c1 c2 c3 c4 s f x most sum pv) := by
  simp [Bx, World.setCell, Array.getElem?_modify, show w.heap[b]? = _ from h, hdC]
theorem Bx.hd8 {w : World} {b : Nat} {t : TypeId} {c0 c1 c2 c3 c4 s : Int} {f : Bool} {least most sum : Int} {pv : Value} (h : Bx w b t (hdC c0 c1 c2 c3 c4 s f least most sum pv)) (x : Int) : Bx (w.setCell ⟨b, 8, none⟩ (.int .i64 x)) b t (hdC c0 c1 c2 c3 c4 s f least x sum pv) := by
  simp [Bx, World.setCell, Array.getElem?_modify, show w.heap[b]? = _ from h, hdC]
theorem Bx.hd10 {w : World} {b : Nat} {t : TypeId} {c0 c1 c2 c3 c4 s : Int} {f : Bool} {least most sum : Int} {pv : Value} (h : Bx w b t (hdC c0 c1 c2 c3 c4 s f least most sum pv)) (x : Value) : Bx (w.setCell ⟨b, 10, none⟩ x) b t (hdC c0 c1 c2 c3 c4 s f least most sum x) := by
  simp [Bx, World.setCell, Array.getElem?_modify, show w.heap[b]? = _ from h, hdC]
theorem Bx.hcells {w : World} {b : Nat} {t : TypeId} {c0 c1 c2 c3 c4 s : Int} {f : Bool} {least most sum : Int} {pv : Value} (h : Bx w b t (hdC c0 c1 c2 c3 c4 s f least most sum pv)) :
    w.cell? ⟨b, 7, none⟩ = some (.int .i64 least) ∧ w.cell? ⟨b, 8, none⟩ = some (.int .i64 most) ∧ w.cell? ⟨b, 10, none⟩ = some pv ∧ w.frozen? ⟨b, 7, none⟩ = false ∧ w.frozen? ⟨b, 8, none⟩ = false ∧ w.frozen? ⟨b, 10, none⟩ = false := by
  simp [World.cell?, World.frozen?, show w.heap[b]? = _ from h, hdC]
theorem grown_set (w : World) (p : Addr) (v : Value) : w.grownBy (w.setCell p v) (some p.block) :=
  ⟨rfl, rfl, rfl, by simp [World.setCell], fun k hk hne => by
    have : p.block ≠ k := fun e => hne (by rw [e])
    simp [World.setCell, Array.getElem?_modify, this]⟩
theorem Bx.new2 {u : World} {k : Nat} (h : u.heap.size = k) (cs : Array Value) (t : TypeId) : Bx (u.alloc (.cells cs t)) k t cs := h ▸ Bx.new u cs t
theorem res_fin (tmps : Array Value) (R : Nat) (cs : Array Value) (W : World) (h : Bx W R 115 cs) (hs : cs.size = 11) (h6 : tmps.getD 6 undef = .pointer (some ⟨R, 0, none⟩)) :
    (results Tryz.f128 tmps).run Tryz.prog W = .ok (.agg cs) W := by
  have hl := run_loadVar_row (P := Tryz.prog) W R 115 115 cs (0, 0) _ h Tryz.underlying115 rfl (by rw [hs]; exact infoHead)
  rw [Array.getD_eq_getD_getElem?] at h6
  simp [results, Tryz.results128, asAddr, h6, hl]
theorem grown_row (w : World) (g : Nat) (cs : Array Value) : w.grownBy (w.setRow g cs) (some g) :=
  ⟨rfl, rfl, rfl, by simp [World.setRow], fun k hk hne => setRow_other w g k cs (fun e => hne (by rw [e]))⟩
theorem owns_mono {w : World} {base base' : Nat} {e : TypeId} {size : Nat} {v : Value} {n : Nat} {xs : List Value} (h : w.ownsRow base e size v n xs) (hb : base' ≤ base) : w.ownsRow base' e size v n xs :=
  ⟨h.1, h.2.imp id fun ⟨g, cap, cur, h1, h2, h3⟩ => ⟨g, cap, cur, h1, Nat.le_trans hb h2, h3⟩⟩
theorem size_set (u : World) (p : Addr) (v : Value) : (u.setCell p v).heap.size = u.heap.size := by simp [World.setCell]
/-- what holds while lengths are looked through -/
structure FinI (w wr : World) (c0 c1 c2 c3 c4 s : Int) (least most sum : Int) (pv : Value) (m : Nat) (ps : List Value) : Prop where
  info : wr.cell? ⟨w.heap.size, 4, none⟩ = some (.int .i64 c4)
  hd : Bx wr (w.heap.size + 1 + 1) 115 (hdC c0 c1 c2 c3 c4 s true least most sum pv)
  res : Bx wr (w.heap.size + 1) 115 (hdC 0 0 0 0 0 0 false 0 0 0 (.slice none 0 0))
  own : wr.ownsRow (w.heap.size + 1 + 1 + 1) 3 1 pv m ps
  below : Below w.heap.size w wr
  size : w.heap.size + 1 + 1 + 1 ≤ wr.heap.size
theorem FinI.ne {w wr : World} {c0 c1 c2 c3 c4 s : Int} {least most sum : Int} {pv : Value} {m : Nat} {ps : List Value} (h : FinI w wr c0 c1 c2 c3 c4 s least most sum pv m ps) : ∀ k, k < w.heap.size + 1 + 1 + 1 → pv.ownBlock ≠ some k := fun k hk e => by have := (h.own.lt k e).1; omega
/-- a field of the head is set -/
theorem FinI.set {w wr : World} {c0 c1 c2 c3 c4 s : Int} {least most sum : Int} {pv : Value} {m : Nat} {ps : List Value} (h : FinI w wr c0 c1 c2 c3 c4 s least most sum pv m ps) (j : Nat) (v : Value) {least' most' : Int}
    (hd : Bx (wr.setCell ⟨w.heap.size + 1 + 1, j, none⟩ v) (w.heap.size + 1 + 1) 115 (hdC c0 c1 c2 c3 c4 s true least' most' sum pv)) : FinI w (wr.setCell ⟨w.heap.size + 1 + 1, j, none⟩ v) c0 c1 c2 c3 c4 s least' most' sum pv m ps :=
  have hg := grown_set wr ⟨w.heap.size + 1 + 1, j, none⟩ v
  ⟨hg.cell h.info (by simp; omega), hd, h.res.of (hg.block _ (by have := h.size; omega) (by simp)), h.own.kept hg (.inr (h.ne _ (by show w.heap.size + 1 + 1 < _; omega))), h.below.setCell (p := ⟨w.heap.size + 1 + 1, j, none⟩) (by show w.heap.size ≤ w.heap.size + 1 + 1; omega) _, by have := h.size; have := hg.size; omega⟩
/-- a point more -/
theorem FinI.point {w wr u : World} {c0 c1 c2 c3 c4 s : Int} {least most sum : Int} {pv : Value} {m : Nat} {ps : List Value} (h : FinI w wr c0 c1 c2 c3 c4 s least most sum pv m ps) {g cap : Nat} {x : Value}
    (ho : u.ownsRow (w.heap.size + 1 + 1 + 1) 3 1 (.slice (some ⟨g, 0, none⟩) (m + 1) cap) (m + 1) (ps ++ [x])) (hg : wr.grownBy u pv.ownBlock) :
    FinI w (u.setCell ⟨w.heap.size + 1 + 1, 10, none⟩ (.slice (some ⟨g, 0, none⟩) (m + 1) cap)) c0 c1 c2 c3 c4 s least most sum (.slice (some ⟨g, 0, none⟩) (m + 1) cap) (m + 1) (ps ++ [x]) :=
  have hs := h.size
  have hd : Bx u (w.heap.size + 1 + 1) 115 (hdC c0 c1 c2 c3 c4 s true least most sum pv) := h.hd.of (hg.block _ (by omega) (fun e => h.ne _ (by show w.heap.size + 1 + 1 < _; omega) e.symm))
  have hg2 := grown_set u ⟨w.heap.size + 1 + 1, 10, none⟩ (.slice (some ⟨g, 0, none⟩) (m + 1) cap)
  have hgl := (ho.lt g rfl).1
  ⟨hg2.cell (hg.cell h.info (fun e => h.ne w.heap.size (by omega) e.symm)) (by simp; omega), hd.hd10 _, (h.res.of (hg.block _ (by omega) (fun e => h.ne (w.heap.size + 1) (by omega) e.symm))).of (hg2.block _ (by have := hg.size; omega) (by simp)), ho.kept hg2 (.inr (by simp [Value.ownBlock]; omega)), (h.below.grown hg h.below.size (fun k hk => by have := (h.own.lt k hk).1; omega)).setCell (p := ⟨w.heap.size + 1 + 1, 10, none⟩) (by show w.heap.size ≤ w.heap.size + 1 + 1; omega) _, by have := hg.size; have := hg2.size; omega⟩
/-- numbers as cells -/
def pntV (l : List Nat) : List Value := l.map fun p : Nat => Value.int .i64 (p : Int)
theorem pntV_snoc (l : List Nat) (p : Nat) : pntV (l ++ [p]) = pntV l ++ [Value.int .i64 (p : Int)] := by simp [pntV]
end Go.Proofs.YtlncjgnomhpjnaaGreatDoor
