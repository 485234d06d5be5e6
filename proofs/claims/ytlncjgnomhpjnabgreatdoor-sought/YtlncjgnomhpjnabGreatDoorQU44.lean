import Derived.Test.YtlncjgnomhpjnabGreatDoorQU33
import Derived.Test.YtlncjgnomhpjnabGreatDoorQU35
import Derived.Test.YtlncjgnomhpjnabGreatDoorQU43
import Derived.Test.YtlncjgnomhpjnabGreatDoorQU37
import Derived.Deep.AppendLies
import Derived.Test.YtlncjgnomhpjnabGreatDoorQU24
import Derived.Test.YtlncjgnomhpjnabGreatDoorQU32
import Derived.Test.YtlncjgnomhpjnabGreatDoorQU40
import Derived.Test.YtlncjgnomhpjnabGreatDoorQU2
/-
  Frames one behind the other, as texts.
-/
namespace Go.Proofs.YtlncjgnomhpjnabGreatDoor
open Go.RowKit Go.Deep
set_option linter.unusedVariables false
theorem insP_uniq {BT : List UInt8} {b : Nat → Bool} {d n m nn : Nat} {H H' : Nat → Nat → Int} (h : InsP BT b d n m nn H) (h' : InsP BT b d n m nn H') : H = H' := by
  obtain ⟨G, o, h1, -, -, rfl⟩ := h
  obtain ⟨G', o', h1', -, -, rfl⟩ := h'
  rw [h1] at h1'
  injection h1' with e
  injection e with e1 e2
  rw [e1]
theorem frmP_uniq {T : List UInt8} {n d : Nat} {c2 number : Int} {H H' : Nat → Nat → Int} (h : FrmP T n d c2 number H) (h' : FrmP T n d c2 number H') : H = H' := insP_uniq h.2.2.2.2 h'.2.2.2.2
/-- a text begins with the frame of a block of a sound -/
def okF (n d B S k : Nat) (X : List UInt8) : Prop := (∃ H, FrmP X n d B k H) ∧ hCnt X + 1 = blkN S B k
open Classical in
/-- the samples of the frame with which a text begins -/
noncomputable def smpF (n d B k : Nat) (X : List UInt8) : Nat → Nat → Int := if h : ∃ H, FrmP X n d B k H then h.choose else fun _ _ => 0
theorem smpF_eq {n d B k : Nat} {X : List UInt8} {H : Nat → Nat → Int} (h : FrmP X n d B k H) : smpF n d B k X = H := by
  have he : ∃ H, FrmP X n d B k H := ⟨H, h⟩
  unfold smpF
  rw [dif_pos he]
  exact frmP_uniq he.choose_spec h
/-- where the frames stand -/
def offX (X : List UInt8) : Nat → Nat
  | 0 => 0
  | j + 1 => offX X j + hLen (X.drop (offX X j))
def atX (X : List UInt8) (j : Nat) : List UInt8 := X.drop (offX X j)
def lnX (X : List UInt8) (j : Nat) : Nat := hLen (atX X j)
/-- a channel's samples -/
noncomputable def chL (n d B S k0 : Nat) (X : List UInt8) (c : Nat) : Nat → List Int
  | 0 => []
  | j + 1 => chL n d B S k0 X c j ++ (List.range (blkN S B (k0 + j))).map (smpF n d B (k0 + j) (atX X j) c)
/-- how many samples a channel has -/
def chN (B S k0 : Nat) : Nat → Nat
  | 0 => 0
  | j + 1 => chN B S k0 j + blkN S B (k0 + j)
theorem chL_length (n d B S k0 : Nat) (X : List UInt8) (c : Nat) : ∀ j, (chL n d B S k0 X c j).length = chN B S k0 j
  | 0 => rfl
  | j + 1 => by simp [chL, chN, chL_length n d B S k0 X c j]
/-- so many frames are read, and no more -/
structure RunIs (n d B S k0 : Nat) (X : List UInt8) (m : Nat) : Prop where
  le : k0 + m ≤ nBlk S B ∨ m = 0
  ok : ∀ j, j < m → okF n d B S (k0 + j) (atX X j)
  no : k0 + m < nBlk S B → ¬ okF n d B S (k0 + m) (atX X m)
theorem RunIs.uniq {n d B S k0 : Nat} {X : List UInt8} {m m' : Nat} (h : RunIs n d B S k0 X m) (h' : RunIs n d B S k0 X m') : m = m' := by
  rcases Nat.lt_trichotomy m m' with hl | rfl | hl
  · exact absurd (h'.ok m hl) (h.no (by rcases h'.le with e | e <;> omega))
  · rfl
  · exact absurd (h.ok m' hl) (h'.no (by rcases h.le with e | e <;> omega))
theorem okF.len {n d B S k : Nat} {X : List UInt8} (h : okF n d B S k X) : 10 ≤ hLen X ∧ hLen X ≤ X.length := by
  obtain ⟨⟨H, hH⟩, -⟩ := h
  exact hH.2.2.1.1
/-- frames stand within the text -/
theorem offX_le {n d B S k0 : Nat} {X : List UInt8} {m : Nat} (h : ∀ j, j < m → okF n d B S (k0 + j) (atX X j)) : ∀ j, j ≤ m → offX X j ≤ X.length
  | 0, _ => Nat.zero_le _
  | j + 1, hj => by
    have ih := offX_le h j (by omega)
    have h1 := (h j (by omega)).len.2
    have e : (atX X j).length = X.length - offX X j := List.length_drop
    show offX X j + hLen (atX X j) ≤ _
    omega
theorem atX_step (X : List UInt8) (j : Nat) : (atX X j).drop (lnX X j) = atX X (j + 1) := by
  show (X.drop (offX X j)).drop (hLen (X.drop (offX X j))) = X.drop (offX X j + hLen (X.drop (offX X j)))
  rw [List.drop_drop]
theorem chN_full {B S k0 : Nat} : ∀ j, (k0 + j) * B ≤ S → chN B S k0 j = j * B
  | 0, _ => by simp [chN]
  | j + 1, h => by
    have e : (k0 + (j + 1)) * B = (k0 + j) * B + B := by rw [← Nat.add_assoc, Nat.add_one_mul]
    have ih := chN_full (B := B) (S := S) (k0 := k0) j (by omega)
    have e2 : (j + 1) * B = j * B + B := Nat.add_one_mul _ _
    unfold chN blkN
    rw [ih]
    omega
/-- how many samples so many frames have -/
theorem chN_le {B S k0 m : Nat} (hB : 1 ≤ B) (h : k0 + m ≤ nBlk S B) : chN B S k0 m ≤ S := by
  cases m with
  | zero => exact Nat.zero_le _
  | succ j =>
    have hl : (k0 + j) * B < S := (nBlk_lt hB).1 (by omega)
    have h1 := chN_full (B := B) (S := S) (k0 := k0) j (by omega)
    have e : (k0 + j) * B = k0 * B + j * B := Nat.add_mul _ _ _
    unfold chN blkN
    rw [h1]
    omega
theorem chN_whole {B S k0 m : Nat} (hB : 1 ≤ B) (hm : k0 + m = nBlk S B) (hk : k0 * B ≤ S) : chN B S k0 m = S - k0 * B := by
  cases m with
  | zero =>
    have h : ¬ k0 < nBlk S B := by omega
    rw [nBlk_lt hB] at h
    show 0 = _
    omega
  | succ j =>
    have hl : (k0 + j) * B < S := (nBlk_lt hB).1 (by omega)
    have h2 : ¬ (k0 + j + 1) * B < S := fun h => by have := (nBlk_lt hB).2 h; omega
    have h1 := chN_full (B := B) (S := S) (k0 := k0) j (by omega)
    have e : (k0 + j) * B = k0 * B + j * B := Nat.add_mul _ _ _
    have e2 : (k0 + j + 1) * B = (k0 + j) * B + B := Nat.add_one_mul _ _
    unfold chN blkN
    rw [h1]
    omega
end Go.Proofs.YtlncjgnomhpjnabGreatDoor

/-
  What holds while frames are read: lists that grow, one for each channel.
-/
namespace Go.Proofs.YtlncjgnomhpjnabGreatDoor
open Go.RowKit Go.Deep
set_option linter.unusedVariables false
def intL (l : List Int) : List Value := l.map fun x => Value.int .i64 x
theorem intL_length (l : List Int) : (intL l).length = l.length := by simp [intL]
theorem intL_app (a b : List Int) : intL (a ++ b) = intL a ++ intL b := by simp [intL]
def updV {α : Type} (f : Nat → α) (i : Nat) (v : α) : Nat → α := fun c => if c = i then v else f c
theorem updV_same {α : Type} (f : Nat → α) (i : Nat) (v : α) : updV f i v i = v := if_pos rfl
theorem updV_ne {α : Type} (f : Nat → α) {i c : Nat} (v : α) (h : c ≠ i) : updV f i v c = f c := if_neg h
/-- what lies in memory while frames are read -/
structure RnI (w wr : World) (n : Nat) (is cs : Array Value) (vs : Nat → Value) (ls : Nat → List Int) (lv : Value) (lns : List Value) : Prop where
  inf : Bx wr w.heap.size 39 is
  res : Bx wr (w.heap.size + 1) 117 #[.slice none 0 0, .slice none 0 0, .bool false]
  cfg : Bx wr (w.heap.size + 1 + 1) 23 cs
  row : wr.rowIs (w.heap.size + 1 + 1 + 1) 30 n vs
  run : Bx wr (w.heap.size + 1 + 1 + 1 + 1) 117 #[.slice (some ⟨w.heap.size + 1 + 1 + 1, 0, none⟩) n n, lv, .bool false]
  own : ∀ c, c < n → wr.ownsRow (w.heap.size + 5) 3 1 (vs c) (ls c).length (intL (ls c))
  apart : ∀ c c', c < n → c' < n → c ≠ c' → (vs c).ownBlock = none ∨ (vs c).ownBlock ≠ (vs c').ownBlock
  lens : wr.ownsRow (w.heap.size + 5) 3 1 lv lns.length lns
  alone : ∀ c, c < n → (vs c).ownBlock = none ∨ (vs c).ownBlock ≠ lv.ownBlock
  below : Below w.heap.size w wr
  size : w.heap.size + 5 ≤ wr.heap.size
theorem RnI.drew {w wr : World} {n : Nat} {is cs : Array Value} {vs : Nat → Value} {ls : Nat → List Int} {lv : Value} {lns : List Value} (h : RnI w wr n is cs vs ls lv lns) : RnI w wr.drew n is cs vs ls lv lns :=
  ⟨h.inf, h.res, h.cfg, h.row, h.run, h.own, h.apart, h.lens, h.alone, h.below.drew, h.size⟩
theorem grownAll {w u : World} (hu : Below w.heap.size w u) (r : Option Nat) : w.grownBy u r := ⟨hu.os, hu.tape, hu.output, hu.size, fun j hj _ => hu.block j hj⟩
theorem rowIs_of {w u : World} {b n : Nat} {t : TypeId} {f : Nat → Value} (h : w.rowIs b t n f) (e : u.heap[b]? = w.heap[b]?) : u.rowIs b t n f := by
  obtain ⟨c, h1, h2⟩ := h
  exact ⟨c, e.trans h1, h2⟩
theorem RnI.next {w wr u : World} {n : Nat} {is cs : Array Value} {vs : Nat → Value} {ls : Nat → List Int} {lv : Value} {lns : List Value} (h : RnI w wr n is cs vs ls lv lns) (hb : Below wr.heap.size wr u) : RnI w u n is cs vs ls lv lns :=
  ⟨h.inf.below hb, h.res.below hb, h.cfg.below hb, rowIs_of h.row (hb.block _ h.row.lt), h.run.below hb, fun c hc => (h.own c hc).kept (grownAll hb _) (Classical.em _), h.apart, h.lens.kept (grownAll hb _) (Classical.em _), h.alone, h.below.trans (hb.mono h.below.size), Nat.le_trans h.size hb.size⟩
theorem RnI.ne {w wr : World} {n : Nat} {is cs : Array Value} {vs : Nat → Value} {ls : Nat → List Int} {lv : Value} {lns : List Value} (h : RnI w wr n is cs vs ls lv lns) {c : Nat} (hc : c < n) : ∀ k, k < w.heap.size + 5 → (vs c).ownBlock ≠ some k := fun k hk e => by have := ((h.own c hc).lt k e).1; omega
theorem RnI.lne {w wr : World} {n : Nat} {is cs : Array Value} {vs : Nat → Value} {ls : Nat → List Int} {lv : Value} {lns : List Value} (h : RnI w wr n is cs vs ls lv lns) : ∀ k, k < w.heap.size + 5 → lv.ownBlock ≠ some k := fun k hk e => by have := (h.lens.lt k e).1; omega
/-- the block that was read last -/
structure BkI (w wr : World) (n nn gb : Nat) (gs : Nat → Nat) (H : Nat → Nat → Int) (vs : Nat → Value) : Prop where
  cell : ∀ c, c < n → wr.cell? ⟨gb, c, none⟩ = some (.slice (some ⟨gs c, 0, none⟩) nn nn)
  rows : ∀ c, c < n → wr.rowIs (gs c) 3 nn (cutV nn (H c))
  lt : gb < wr.heap.size
  low : w.heap.size + 5 ≤ gb
  glow : ∀ c, c < n → w.heap.size + 5 ≤ gs c
  ne : ∀ c, c < n → (vs c).ownBlock ≠ some gb
  gne : ∀ c c', c < n → c' < n → (vs c).ownBlock ≠ some (gs c')
theorem infoInt1 : (Tryz.prog.info? 3).map (fun i => (i.zero, i.size, i.bytes)) = some (some (.int .i64 0), 1, 8) := by kernel_rfl
theorem own_in {w : World} {base : Nat} {v : Value} {n : Nat} {xs : List Value} (h : w.ownsRow base 3 1 v n xs) {k : Nat} (e : v.ownBlock = some k) : k < w.heap.size := (h.lt k e).2
/-- a list of a channel grows by the block's -/
theorem RnI.app {w wr : World} {n nn gb : Nat} {gs : Nat → Nat} {H : Nat → Nat → Int} {is cs : Array Value} {vs : Nat → Value} {ls : Nat → List Int} {lv : Value} {lns : List Value} (h : RnI w wr n is cs vs ls lv lns) (hk : BkI w wr n nn gb gs H vs) (i : Nat) (hi : i < n) (hnn : 1 ≤ nn) (hl : (ls i).length + nn ≤ 100000) (ty : TypeId) :
    ∃ g cap u, (Builtin.append_ #[30, 30] ty #[vs i, .slice (some ⟨gs i, 0, none⟩) nn nn]).run Tryz.prog wr = .ok (.slice (some ⟨g, 0, none⟩) ((ls i).length + nn) cap) u ∧
      u.cell? ⟨w.heap.size + 1 + 1 + 1, i, none⟩ = some (vs i) ∧ u.frozen? ⟨w.heap.size + 1 + 1 + 1, i, none⟩ = false ∧ u.cell? ⟨w.heap.size + 1 + 1 + 1 + 1, 0, none⟩ = some (.slice (some ⟨w.heap.size + 1 + 1 + 1, 0, none⟩) n n) ∧
      RnI w (u.setCell ⟨w.heap.size + 1 + 1 + 1, i, none⟩ (.slice (some ⟨g, 0, none⟩) ((ls i).length + nn) cap)) n is cs (updV vs i (.slice (some ⟨g, 0, none⟩) ((ls i).length + nn) cap)) (updV ls i (ls i ++ (List.range nn).map (H i))) lv lns ∧
      BkI w (u.setCell ⟨w.heap.size + 1 + 1 + 1, i, none⟩ (.slice (some ⟨g, 0, none⟩) ((ls i).length + nn) cap)) n nn gb gs H (updV vs i (.slice (some ⟨g, 0, none⟩) ((ls i).length + nn) cap)) := by
  obtain ⟨i0, hi0, hz0, hz1, hz2⟩ := info_parts infoInt1
  have hsz := h.size
  obtain ⟨g, cap, u, hr, ho, hg, hat, hlt⟩ := run_append_lies (P := Tryz.prog) wr 30 ty (w.heap.size + 5) 3 i0 (.int .i64 0) 1 8 Tryz.underlying30 hi0 hz0 hz1 hz2 rfl (by omega) (vs i) (ls i).length (intL (ls i)) (h.own i hi)
    ⟨gs i, 0, none⟩ nn nn (intL ((List.range nn).map (H i))) (by simp [intL]) (fun j x hj => by
      have hjn : j < nn := by
        have := (List.getElem?_eq_some_iff.1 hj).1
        simpa [intL] using this
      have hc := (hk.rows i hi).cell hjn
      rw [Addr.add_lit, Nat.zero_add, hc]
      simp [intL, hjn] at hj
      rw [← hj]
      simp [cutV, cutI, hjn]) (fun x hx => by simp [intL] at hx; obtain ⟨a, -, rfl⟩ := hx; rfl) (by omega) (by simp only [maxLen]; omega) (by omega) hsz wr.heap.size rfl
  have hgb : w.heap.size + 5 ≤ g := (ho.lt g rfl).1
  have hgn : ∀ k, k < wr.heap.size → (vs i).ownBlock ≠ some k → k ≠ g := by
    intro k hk1 hk2 e
    subst e
    rcases hat with e | e
    · exact hk2 e
    · omega
  have hblk : ∀ k, k < wr.heap.size → (vs i).ownBlock ≠ some k → u.heap[k]? = wr.heap[k]? := fun k hk1 hk2 => hg.block _ hk1 (fun e => hk2 e.symm)
  have n0 := h.ne hi
  have hrow := rowIs_of h.row (hblk _ h.row.lt (n0 _ (by omega)))
  have hrun : Bx u _ _ _ := h.run.of (hblk _ (by omega) (n0 _ (by omega)))
  have hg2 := grown_set u ⟨w.heap.size + 1 + 1 + 1, i, none⟩ (.slice (some ⟨g, 0, none⟩) ((ls i).length + nn) cap)
  have hus := hg.size
  have hset : ∀ k, k < u.heap.size → k ≠ w.heap.size + 1 + 1 + 1 → (u.setCell ⟨w.heap.size + 1 + 1 + 1, i, none⟩ (.slice (some ⟨g, 0, none⟩) ((ls i).length + nn) cap)).heap[k]? = u.heap[k]? := fun k hk1 hk2 => hg2.block _ hk1 (by simp; omega)
  have hof : ∀ k, k < wr.heap.size → (vs i).ownBlock ≠ some k → k ≠ w.heap.size + 1 + 1 + 1 → (u.setCell ⟨w.heap.size + 1 + 1 + 1, i, none⟩ (.slice (some ⟨g, 0, none⟩) ((ls i).length + nn) cap)).heap[k]? = wr.heap[k]? := fun k h1 h2 h3 => (hset k (by omega) h3).trans (hblk k h1 h2)
  refine ⟨g, cap, u, hr, hrow.cell hi, hrow.frozen i, hrun.cell 0, ⟨?_, ?_, ?_, ?_, ?_, ?_, ?_, ?_, ?_, ?_, ?_⟩, ⟨?_, ?_, ?_, hk.low, hk.glow, ?_, ?_⟩⟩
  · exact h.inf.of (hof _ (by omega) (n0 _ (by omega)) (by omega))
  · exact h.res.of (hof _ (by omega) (n0 _ (by omega)) (by omega))
  · exact h.cfg.of (hof _ (by omega) (n0 _ (by omega)) (by omega))
  · exact (hrow.set i _).congr fun c _ => by unfold updV; rfl
  · exact hrun.of (hset _ (by omega) (by omega))
  · intro c hc
    by_cases e : c = i
    · subst e
      rw [updV_same, updV_same, intL_app, List.length_append, List.length_map, List.length_range]
      exact ho.kept hg2 (.inr (by simp [Value.ownBlock]; omega))
    · rw [updV_ne _ _ e, updV_ne _ _ e]
      have h1 := (h.own c hc).kept hg (by
        rcases h.apart c i hc hi e with e1 | e1
        · exact .inl e1
        · exact .inr e1)
      exact h1.kept hg2 (.inr (h.ne hc _ (by show w.heap.size + 1 + 1 + 1 < _; omega)))
  · intro c c' hc hc' hne
    by_cases e : c = i
    · subst e
      rw [updV_same, updV_ne _ _ (Ne.symm hne)]
      right
      intro e2
      have e3 : (vs c').ownBlock = some g := e2.symm
      rcases hat with e4 | e4
      · rcases h.apart c c' hc hc' hne with e5 | e5
        · rw [e5] at e4; cases e4
        · exact e5 (e4.trans e3.symm)
      · have := own_in (h.own c' hc') e3; omega
    · by_cases e' : c' = i
      · subst e'
        rw [updV_same, updV_ne _ _ e]
        by_cases e3 : (vs c).ownBlock = some g
        · rcases hat with e4 | e4
          · rcases h.apart c c' hc hc' hne with e5 | e5
            · exact .inl e5
            · exact absurd (e3.trans e4.symm) e5
          · have := own_in (h.own c hc) e3; omega
        · exact .inr e3
      · rw [updV_ne _ _ e, updV_ne _ _ e']
        exact h.apart c c' hc hc' hne
  · exact (h.lens.kept hg (by
      by_cases e : lv.ownBlock = none
      · exact .inl e
      · right
        intro e2
        rcases h.alone i hi with e3 | e3
        · exact e (e2.trans e3)
        · exact e3 e2.symm)).kept hg2 (.inr (h.lne _ (by show w.heap.size + 1 + 1 + 1 < _; omega)))
  · intro c hc
    by_cases e : c = i
    · subst e
      rw [updV_same]
      right
      intro e2
      have e3 : lv.ownBlock = some g := e2.symm
      rcases hat with e4 | e4
      · rcases h.alone c hc with e5 | e5
        · rw [e5] at e4; cases e4
        · exact e5 (e4.trans e3.symm)
      · have := own_in h.lens e3; omega
    · rw [updV_ne _ _ e]
      exact h.alone c hc
  · exact (h.below.grown hg h.below.size (fun k hk => by have := ((h.own i hi).lt k hk).1; omega)).setCell (p := ⟨w.heap.size + 1 + 1 + 1, i, none⟩) (by show w.heap.size ≤ w.heap.size + 1 + 1 + 1; omega) _
  · have := hg2.size; omega
  · intro c hc
    have := hof gb hk.lt (hk.ne i hi) (by have := hk.low; omega)
    have hx := hk.cell c hc
    unfold World.cell? at hx ⊢
    simp only at hx ⊢
    rw [this]
    exact hx
  · intro c hc
    exact rowIs_of (hk.rows c hc) (hof _ (hk.rows c hc).lt (hk.gne i c hi hc) (by have := hk.glow c hc; omega))
  · have := hg2.size; have := hk.lt; omega
  · intro c hc
    by_cases e : c = i
    · subst e
      rw [updV_same]
      intro e2
      have e3 : g = gb := by simpa [Value.ownBlock] using e2
      exact hgn gb hk.lt (hk.ne c hc) e3.symm
    · rw [updV_ne _ _ e]; exact hk.ne c hc
  · intro c c' hc hc'
    by_cases e : c = i
    · subst e
      rw [updV_same]
      intro e2
      have e3 : g = gs c' := by simpa [Value.ownBlock] using e2
      exact hgn (gs c') (hk.rows c' hc').lt (hk.gne c c' hc hc') e3.symm
    · rw [updV_ne _ _ e]; exact hk.gne c c' hc hc'
/-- a length more -/
theorem RnI.len {w wr : World} {n : Nat} {is cs : Array Value} {vs : Nat → Value} {ls : Nat → List Int} {lv : Value} {lns : List Value} (h : RnI w wr n is cs vs ls lv lns) (L : Nat) (hl : lns.length + 1 ≤ 100000) (ty : TypeId) :
    ∃ g cap u, (Builtin.append_ #[30, 30] ty #[lv, .slice (some ⟨wr.heap.size, 0, none⟩) 1 1]).run Tryz.prog (wr.alloc (.cells #[.int .i64 L] 3)) = .ok (.slice (some ⟨g, 0, none⟩) (lns.length + 1) cap) u ∧
      u.cell? ⟨w.heap.size + 1 + 1 + 1 + 1, 1, none⟩ = some lv ∧ u.frozen? ⟨w.heap.size + 1 + 1 + 1 + 1, 1, none⟩ = false ∧
      RnI w (u.setCell ⟨w.heap.size + 1 + 1 + 1 + 1, 1, none⟩ (.slice (some ⟨g, 0, none⟩) (lns.length + 1) cap)) n is cs vs ls (.slice (some ⟨g, 0, none⟩) (lns.length + 1) cap) (lns ++ [.int .i64 L]) := by
  obtain ⟨i0, hi0, hz0, hz1, hz2⟩ := info_parts infoInt1
  have hsz := h.size
  have ha : (wr.alloc (.cells #[.int .i64 L] 3)).heap.size = wr.heap.size + 1 := by simp
  obtain ⟨g, cap, u, hr, ho, hg, hat, hlt⟩ := run_append_lies (P := Tryz.prog) (wr.alloc (.cells #[.int .i64 L] 3)) 30 ty (w.heap.size + 5) 3 i0 (.int .i64 0) 1 8 Tryz.underlying30 hi0 hz0 hz1 hz2 rfl (by omega) lv lns.length lns (h.lens.alloc _)
    ⟨wr.heap.size, 0, none⟩ 1 1 [.int .i64 L] rfl (fun j x hj => by
      have : (wr.alloc (.cells #[.int .i64 L] 3)).cell? ⟨wr.heap.size, j, none⟩ = (#[.int .i64 L] : Array Value)[j]? := World.cell?_alloc_new _ _ _ _
      rw [Addr.add_lit, Nat.zero_add, this]
      simpa using hj) (fun x hx => by simp at hx; rw [hx]; rfl) (by omega) (by simp only [maxLen]; omega) (by omega) (by omega) (wr.heap.size + 1) ha
  have hus := hg.size
  have hgb : w.heap.size + 5 ≤ g := (ho.lt g rfl).1
  have hblk : ∀ k, k < wr.heap.size → lv.ownBlock ≠ some k → u.heap[k]? = wr.heap[k]? := fun k hk1 hk2 => (hg.block _ (by omega) (fun e => hk2 e.symm)).trans (blk_alloc_lt _ _ _ hk1)
  have n0 := h.lne
  have hrun : Bx u _ _ _ := h.run.of (hblk _ (by omega) (n0 _ (by omega)))
  have hg2 := grown_set u ⟨w.heap.size + 1 + 1 + 1 + 1, 1, none⟩ (.slice (some ⟨g, 0, none⟩) (lns.length + 1) cap)
  have hof : ∀ k, k < wr.heap.size → lv.ownBlock ≠ some k → k ≠ w.heap.size + 1 + 1 + 1 + 1 → (u.setCell ⟨w.heap.size + 1 + 1 + 1 + 1, 1, none⟩ (.slice (some ⟨g, 0, none⟩) (lns.length + 1) cap)).heap[k]? = wr.heap[k]? := fun k h1 h2 h3 => (hg2.block _ (by omega) (by simp; omega)).trans (hblk k h1 h2)
  have hown : ∀ c, c < n → (vs c).ownBlock ≠ some g := by
    intro c hc e
    rcases hat with e4 | e4
    · rcases h.alone c hc with e5 | e5
      · rw [e5] at e; cases e
      · exact e5 (e.trans e4.symm)
    · have := own_in (h.own c hc) e; omega
  refine ⟨g, cap, u, hr, hrun.cell 1, hrun.fz 1, ⟨?_, ?_, ?_, ?_, ?_, ?_, h.apart, ?_, ?_, ?_, ?_⟩⟩
  · exact h.inf.of (hof _ (by omega) (n0 _ (by omega)) (by omega))
  · exact h.res.of (hof _ (by omega) (n0 _ (by omega)) (by omega))
  · exact h.cfg.of (hof _ (by omega) (n0 _ (by omega)) (by omega))
  · exact rowIs_of h.row (hof _ h.row.lt (n0 _ (by omega)) (by omega))
  · simp [Bx, World.setCell, Array.getElem?_modify, show u.heap[w.heap.size + 1 + 1 + 1 + 1]? = _ from hrun]
  · intro c hc
    have h1 : u.ownsRow (w.heap.size + 5) 3 1 (vs c) (ls c).length (intL (ls c)) := ((h.own c hc).alloc _).kept hg (h.alone c hc)
    exact h1.kept hg2 (.inr (h.ne hc _ (by show w.heap.size + 1 + 1 + 1 + 1 < _; omega)))
  · rw [List.length_append]
    exact ho.kept hg2 (.inr (by simp [Value.ownBlock]; omega))
  · intro c hc
    right
    exact fun e => hown c hc e
  · exact (((h.below.alloc h.below.size _).grown hg (h.below.alloc h.below.size _).size (fun k hk => by have := (h.lens.lt k hk).1; omega))).setCell (p := ⟨w.heap.size + 1 + 1 + 1 + 1, 1, none⟩) (by show w.heap.size ≤ w.heap.size + 1 + 1 + 1 + 1; omega) _
  · have := hg2.size; omega
theorem rowL_cell {w : World} {base n nn gb cb : Nat} {gs : Nat → Nat} (h : w.ownsRow base 30 1 (.slice (some ⟨gb, 0, none⟩) n cb) n (rowL nn gs n)) : ∀ c, c < n → w.cell? ⟨gb, c, none⟩ = some (.slice (some ⟨gs c, 0, none⟩) nn nn) := by
  intro c hc
  have := World.ownsRow.cells h (g := gb) rfl c (.slice (some ⟨gs c, 0, none⟩) nn nn) (by simp [rowL, hc])
  rw [Addr.add_lit, Nat.zero_add] at this
  exact this
/-- where reading frames begins -/
theorem RnI.start (w : World) (n : Nat) (is cs : Array Value) : RnI w (((((w.alloc (.cells is 39)).alloc (.cells #[.slice none 0 0, .slice none 0 0, .bool false] 117)).alloc (.cells cs 23)).alloc (.cells (madeCells #[.slice none 0 0] n) 30)).alloc (.cells #[.slice (some ⟨w.heap.size + 1 + 1 + 1, 0, none⟩) n n, .slice none 0 0, .bool false] 117)) n is cs (fun _ => .slice none 0 0) (fun _ => []) (.slice none 0 0) [] := by
  refine ⟨?_, ?_, ?_, ?_, ?_, fun c _ => World.ownsRow_nil _ _ _ _, fun c c' _ _ _ => .inl rfl, World.ownsRow_nil _ _ _ _, fun c _ => .inl rfl, ?_, ?_⟩
  · exact ((((Bx.new w _ _).alloc _).alloc _).alloc _).alloc _
  · exact (((Bx.new2 (by simp) _ _).alloc _).alloc _).alloc _
  · exact ((Bx.new2 (by simp) _ _).alloc _).alloc _
  · have h := (World.rowIs_made (((w.alloc (.cells is 39)).alloc (.cells #[.slice none 0 0, .slice none 0 0, .bool false] 117)).alloc (.cells cs 23)) (.slice none 0 0) n 30).alloc (.cells #[.slice (some ⟨w.heap.size + 1 + 1 + 1, 0, none⟩) n n, .slice none 0 0, .bool false] 117)
    rw [World.size_alloc, World.size_alloc, World.size_alloc] at h
    exact h
  · exact Bx.new2 (by simp) _ _
  · exact (((((Below.refl _ _).alloc (Nat.le_refl _) _).alloc (by simp) _).alloc (by simp; omega) _).alloc (by simp; omega) _).alloc (by simp; omega) _
  · simp
theorem RnI.ends {w wr : World} {n : Nat} {is cs : Array Value} {vs : Nat → Value} {ls : Nat → List Int} {lv : Value} {lns : List Value} (h : RnI w wr n is cs vs ls lv lns) :
    wr.cell? ⟨w.heap.size + 1 + 1 + 1 + 1, 0, none⟩ = some (.slice (some ⟨w.heap.size + 1 + 1 + 1, 0, none⟩) n n) ∧ wr.cell? ⟨w.heap.size + 1 + 1 + 1 + 1, 1, none⟩ = some lv ∧ wr.cell? ⟨w.heap.size + 1 + 1 + 1 + 1, 2, none⟩ = some (.bool false) ∧ wr.frozen? ⟨w.heap.size + 1 + 1 + 1 + 1, 2, none⟩ = false ∧
    wr.cell? ⟨w.heap.size + 1, 0, none⟩ = some (.slice none 0 0) ∧ wr.cell? ⟨w.heap.size + 1, 1, none⟩ = some (.slice none 0 0) ∧ wr.cell? ⟨w.heap.size + 1, 2, none⟩ = some (.bool false) ∧ wr.frozen? ⟨w.heap.size + 1, 0, none⟩ = false ∧ wr.frozen? ⟨w.heap.size + 1, 1, none⟩ = false ∧ wr.frozen? ⟨w.heap.size + 1, 2, none⟩ = false :=
  ⟨h.run.cell 0, h.run.cell 1, h.run.cell 2, h.run.fz 2, h.res.cell 0, h.res.cell 1, h.res.cell 2, h.res.fz 0, h.res.fz 1, h.res.fz 2⟩
end Go.Proofs.YtlncjgnomhpjnabGreatDoor

/-
  The program reads frames: stream.readFrames.
-/
namespace Go.Proofs.YtlncjgnomhpjnabGreatDoor
open Go.RowKit Go.Deep
set_option linter.unusedVariables false
/-- what reading frames gives -/
def FrsOut (e : Ending) (w w' : World) (n d B S k0 : Nat) (X : List UInt8) : Prop :=
  ∃ (m g : Nat) (vs : Nat → Value) (lv : Value), RunIs n d B S k0 X m ∧ e = .returned (.agg #[.slice (some ⟨g, 0, none⟩) n n, lv, .bool (decide (k0 + m = nBlk S B ∧ offX X m = X.length))]) ∧ w.heap.size ≤ g ∧ w'.rowIs g 30 n vs ∧
    (∀ c, c < n → w'.ownsRow w.heap.size 3 1 (vs c) (chN B S k0 m) (intL (chL n d B S k0 X c m))) ∧ (∀ c c', c < n → c' < n → c ≠ c' → (vs c).ownBlock = none ∨ (vs c).ownBlock ≠ (vs c').ownBlock) ∧
    w'.ownsRow w.heap.size 3 1 lv m (lnL (lnX X) m) ∧ Below w.heap.size w w'
theorem info_run3 : (Tryz.prog.info? 117).map (·.size) = some 3 := by kernel_rfl
theorem res_rn (tmps : Array Value) (R : Nat) (cs : Array Value) (W : World) (h : Bx W R 117 cs) (hs : cs.size = 3) (h6 : tmps.getD 6 undef = .pointer (some ⟨R, 0, none⟩)) :
    (results Tryz.f72 tmps).run Tryz.prog W = .ok (.agg cs) W := by
  have hl := run_loadVar_row (P := Tryz.prog) W R 117 117 cs (0, 0) _ h Tryz.underlying117 rfl (by rw [hs]; exact info_run3)
  rw [Array.getD_eq_getD_getElem?] at h6
  simp [results, Tryz.results72, asAddr, h6, hl]
theorem lnL_length (ln : Nat → Nat) (k : Nat) : (lnL ln k).length = k := by simp [lnL]
theorem Bx.set3 {u : World} {q : Nat} {t : TypeId} {o0 o1 o2 : Value} (h : Bx u q t #[o0, o1, o2]) (s0 s1 s2 : Value) : Bx (((u.setCell ⟨q, 0, none⟩ s0).setCell ⟨q, 1, none⟩ s1).setCell ⟨q, 2, none⟩ s2) q t #[s0, s1, s2] := by
  simp [Bx, World.setCell, Array.getElem?_modify, show u.heap[q]? = _ from h]
/-- how reading frames ends -/
theorem RnI.done {w wr : World} {n d B S k0 m : Nat} {X : List UInt8} {is cs : Array Value} {vs : Nat → Value} {la : Option Addr} {lc : Nat} (h : RnI w wr n is cs vs (fun c => chL n d B S k0 X c m) (.slice la m lc) (lnL (lnX X) m)) (hr : RunIs n d B S k0 X m) (b : Bool) (hb : b = decide (k0 + m = nBlk S B ∧ offX X m = X.length)) :
    Bx ((((wr.setCell ⟨w.heap.size + 1 + 1 + 1 + 1, 2, none⟩ (.bool b)).setCell ⟨w.heap.size + 1, 0, none⟩ (.slice (some ⟨w.heap.size + 1 + 1 + 1, 0, none⟩) n n)).setCell ⟨w.heap.size + 1, 1, none⟩ (.slice la m lc)).setCell ⟨w.heap.size + 1, 2, none⟩ (.bool b)) (w.heap.size + 1) 117 #[.slice (some ⟨w.heap.size + 1 + 1 + 1, 0, none⟩) n n, .slice la m lc, .bool b] ∧
    FrsOut (.returned (.agg #[.slice (some ⟨w.heap.size + 1 + 1 + 1, 0, none⟩) n n, .slice la m lc, .bool b])) w ((((wr.setCell ⟨w.heap.size + 1 + 1 + 1 + 1, 2, none⟩ (.bool b)).setCell ⟨w.heap.size + 1, 0, none⟩ (.slice (some ⟨w.heap.size + 1 + 1 + 1, 0, none⟩) n n)).setCell ⟨w.heap.size + 1, 1, none⟩ (.slice la m lc)).setCell ⟨w.heap.size + 1, 2, none⟩ (.bool b)) n d B S k0 X := by
  have hsz := h.size
  have g1 := grown_set wr ⟨w.heap.size + 1 + 1 + 1 + 1, 2, none⟩ (.bool b)
  have hR : Bx (wr.setCell ⟨w.heap.size + 1 + 1 + 1 + 1, 2, none⟩ (.bool b)) (w.heap.size + 1) 117 _ := h.res.of (g1.block _ (by omega) (by simp))
  have B1 : Below w.heap.size w (wr.setCell ⟨w.heap.size + 1 + 1 + 1 + 1, 2, none⟩ (.bool b)) := h.below.setCell (p := ⟨w.heap.size + 1 + 1 + 1 + 1, 2, none⟩) (by show w.heap.size ≤ w.heap.size + 1 + 1 + 1 + 1; omega) _
  have hs1 : (wr.setCell ⟨w.heap.size + 1 + 1 + 1 + 1, 2, none⟩ (.bool b)).heap.size = wr.heap.size := size_set _ _ _
  generalize hW : wr.setCell ⟨w.heap.size + 1 + 1 + 1 + 1, 2, none⟩ (.bool b) = W1 at *
  have B2 : Below w.heap.size w (((W1.setCell ⟨w.heap.size + 1, 0, none⟩ (.slice (some ⟨w.heap.size + 1 + 1 + 1, 0, none⟩) n n)).setCell ⟨w.heap.size + 1, 1, none⟩ (.slice la m lc)).setCell ⟨w.heap.size + 1, 2, none⟩ (.bool b)) :=
    ((B1.setCell (p := ⟨w.heap.size + 1, 0, none⟩) (by show w.heap.size ≤ w.heap.size + 1; omega) _).setCell (p := ⟨w.heap.size + 1, 1, none⟩) (by show w.heap.size ≤ w.heap.size + 1; omega) _).setCell (p := ⟨w.heap.size + 1, 2, none⟩) (by show w.heap.size ≤ w.heap.size + 1; omega) _
  have k1 : ∀ {t : TypeId} {v : Value} {k : Nat} {xs : List Value}, (∀ j, j < w.heap.size + 5 → v.ownBlock ≠ some j) → wr.ownsRow (w.heap.size + 5) t 1 v k xs → (((W1.setCell ⟨w.heap.size + 1, 0, none⟩ (.slice (some ⟨w.heap.size + 1 + 1 + 1, 0, none⟩) n n)).setCell ⟨w.heap.size + 1, 1, none⟩ (.slice la m lc)).setCell ⟨w.heap.size + 1, 2, none⟩ (.bool b)).ownsRow w.heap.size t 1 v k xs := by
    intro t v k xs hne ho
    exact own_mono ((((ho.kept g1 (.inr (hne _ (by show w.heap.size + 1 + 1 + 1 + 1 < _; omega)))).kept (grown_set _ _ _) (.inr (hne _ (by show w.heap.size + 1 < _; omega)))).kept (grown_set _ _ _) (.inr (hne _ (by show w.heap.size + 1 < _; omega)))).kept (grown_set _ _ _) (.inr (hne _ (by show w.heap.size + 1 < _; omega)))) (by omega)
  refine ⟨hR.set3 _ _ _, m, w.heap.size + 1 + 1 + 1, vs, .slice la m lc, hr, by rw [hb], by omega, ?_, ?_, h.apart, ?_, B2⟩
  · have r1 := rowIs_of h.row (g1.block _ (by omega) (by simp))
    have r2 := rowIs_of r1 ((grown_set W1 ⟨w.heap.size + 1, 0, none⟩ (.slice (some ⟨w.heap.size + 1 + 1 + 1, 0, none⟩) n n)).block _ r1.lt (by simp; omega))
    have r3 := rowIs_of r2 ((grown_set _ ⟨w.heap.size + 1, 1, none⟩ (.slice la m lc)).block _ r2.lt (by simp; omega))
    exact rowIs_of r3 ((grown_set _ ⟨w.heap.size + 1, 2, none⟩ (.bool b)).block _ r3.lt (by simp; omega))
  · intro c hc
    have h1 := k1 (h.ne hc) (h.own c hc)
    rw [chL_length] at h1
    exact h1
  · have h1 := k1 h.lne h.lens
    rw [lnL_length] at h1
    exact h1
/-- the block that was read last, where it lies -/
theorem RnI.blk {w wr u : World} {n nn g c : Nat} {H : Nat → Nat → Int} {is cs : Array Value} {vs : Nat → Value} {ls : Nat → List Int} {lv : Value} {lns : List Value} (h : RnI w wr n is cs vs ls lv lns) (hro : RowsAre wr u (.slice (some ⟨g, 0, none⟩) n c) n nn H) : ∃ gs, BkI w u n nn g gs H vs := by
  obtain ⟨g', c', gs, e, ho, hr, -⟩ := hro
  injection e with e1 e2 e3
  injection e1 with e1
  injection e1 with e1
  subst e1
  subst e3
  have hs := h.size
  have hl := ho.lt g rfl
  have hv : ∀ c, c < n → ∀ k, wr.heap.size ≤ k → (vs c).ownBlock ≠ some k := fun c hc k hk e => by have := own_in (h.own c hc) e; omega
  exact ⟨gs, rowL_cell ho, fun c hc => (hr c hc).1, hl.2, by omega, fun c hc => by have := (hr c hc).2; omega, fun c hc => hv c hc _ hl.1, fun c c' hc hc' => hv c hc _ (hr c' hc').2⟩
/-- the channels' samples, where so many channels have grown already -/
noncomputable def lsI (n d B S k0 : Nat) (X : List UInt8) (j i : Nat) (c : Nat) : List Int := chL n d B S k0 X c (if c < i then j + 1 else j)
theorem lsI_zero (n d B S k0 : Nat) (X : List UInt8) (j : Nat) : lsI n d B S k0 X j 0 = fun c => chL n d B S k0 X c j := by
  funext c
  unfold lsI
  rw [if_neg (by omega)]
theorem lsI_self (n d B S k0 : Nat) (X : List UInt8) (j i : Nat) : lsI n d B S k0 X j i i = chL n d B S k0 X i j := by
  unfold lsI
  rw [if_neg (by omega)]
theorem lsI_step (n d B S k0 : Nat) (X : List UInt8) (j i nn : Nat) (H : Nat → Nat → Int) (hn : nn = blkN S B (k0 + j)) (hH : smpF n d B (k0 + j) (atX X j) = H) : updV (lsI n d B S k0 X j i) i (lsI n d B S k0 X j i i ++ (List.range nn).map (H i)) = lsI n d B S k0 X j (i + 1) := by
  funext c
  by_cases e : c = i
  · subst e
    rw [updV_same, lsI_self]
    unfold lsI
    rw [if_pos (by omega), hn, ← hH]
    rfl
  · rw [updV_ne _ _ e]
    unfold lsI
    by_cases e2 : c < i
    · rw [if_pos e2, if_pos (by omega)]
    · rw [if_neg e2, if_neg (by omega)]
theorem RnI.congr {w wr : World} {n : Nat} {is cs : Array Value} {vs : Nat → Value} {ls ls' : Nat → List Int} {lv : Value} {lns : List Value} (h : RnI w wr n is cs vs ls lv lns) (he : ∀ c, c < n → ls c = ls' c) : RnI w wr n is cs vs ls' lv lns :=
  ⟨h.inf, h.res, h.cfg, h.row, h.run, fun c hc => by rw [← he c hc]; exact h.own c hc, h.apart, h.lens, h.alone, h.below, h.size⟩
theorem lsI_full {n d B S k0 : Nat} {X : List UInt8} {j c : Nat} (hc : c < n) : lsI n d B S k0 X j n c = chL n d B S k0 X c (j + 1) := by
  unfold lsI
  rw [if_pos hc]
theorem BkI.drew {w wr : World} {n nn gb : Nat} {gs : Nat → Nat} {H : Nat → Nat → Int} {vs : Nat → Value} (h : BkI w wr n nn gb gs H vs) : BkI w wr.drew n nn gb gs H vs := ⟨h.cell, h.rows, h.lt, h.low, h.glow, h.ne, h.gne⟩
end Go.Proofs.YtlncjgnomhpjnabGreatDoor

/-
  Whether a head says what its frames are: slices.Equal, stream.saysOf.
-/
namespace Go.Proofs.YtlncjgnomhpjnabGreatDoor
open Go.RowKit Go.Deep
set_option linter.unusedVariables false
set_option maxRecDepth 4000 in
theorem slicesEqual_any (a a' : Option Addr) (n n' c c' : Nat) (f g : Nat → Int) (w : World) (hn : n ≤ 300) (hn' : n' ≤ 300) (h1 : IntsAt w a n f) (h2 : IntsAt w a' n' g) :
    Calls Tryz.prog 139 #[.slice a n c, .slice a' n' c'] w fun e w' => Says e (n = n' ∧ ∀ i, i < n → f i = g i) ∧ ∃ m, w' = w.drewN m := by
  have H1 := Hid.mk' h1
  have H2 := Hid.mk' h2
  clear h1 h2
  by_cases hne : n = n'
  · subst hne
    go_enter Tryz.func139, Tryz.ntmps139
    go_wp2
    go_loopw [4, 5, 13] (fun bv _ iv wr => ∃ k : Nat, k ≤ n ∧ bv = .bool false ∧ iv = .int .i64 k ∧ Hid (∀ i, i < k → f i = g i) ∧ ∃ m, wr = w.drewN m) (fun _ _ iv _ => n - (intOf iv).toNat)
    case atStart => exact ⟨0, Nat.zero_le _, rfl, rfl, fun i hi => absurd hi (Nat.not_lt_zero i), 0, rfl⟩
    case round =>
      obtain ⟨k, hk, rfl, rfl, HE, m, rfl⟩ := hrel
      by_cases hkn : k < n
      · obtain ⟨b1, o1, hx1, hc1⟩ := H1.out.open (by omega)
        obtain ⟨b2, o2, hx2, hc2⟩ := H2.out.open (by omega)
        cases hx1
        cases hx2
        have hd1 := hc1 k hkn
        have hd2 := hc2 k hkn
        clear hc1 hc2
        by_cases hfg : f k = g k
        · have HE2 : Hid (∀ i, i < k + 1 → f i = g i) := fun i hi => by
            by_cases e : i = k
            · rw [e]; exact hfg
            · exact HE.out i (by omega)
          rw [hfg] at hd1
          go_wp2
          go_region
          all_goals go_wp2
          all_goals go_roundw
          case rel => exact ⟨k + 1, by omega, rfl, by go_num, HE2.out, _, rfl⟩
          case measure => simp [intOf]; omega
        · have HNE : Hid (¬ (n = n ∧ ∀ i, i < n → f i = g i)) := fun h => hfg (h.2 k hkn)
          have hbq : (f k == g k) = false := by simpa using hfg
          go_wp2
          go_region
          all_goals go_wp2
          all_goals go_ret
          all_goals exact ⟨.no HNE.out, _, rfl⟩
      · have e : k = n := by omega
        subst e
        go_wp2
        go_ret
        exact ⟨.yes ⟨by trivial, HE.out⟩, _, rfl⟩
  · go_enter Tryz.func139, Tryz.ntmps139
    go_wp2
    go_ret
    exact ⟨.no (fun h => hne h.1), 0, rfl⟩
theorem lists_ext {ps qs : List Nat} : (ps.length = qs.length ∧ ∀ i, i < ps.length → ((ps.getD i 0 : Nat) : Int) = ((qs.getD i 0 : Nat) : Int)) ↔ ps = qs := by
  constructor
  · rintro ⟨h1, h2⟩
    refine List.ext_getElem h1 fun i hi hj => ?_
    have := h2 i hi
    rw [List.getD_eq_getElem?_getD, List.getElem?_eq_getElem hi, List.getD_eq_getElem?_getD, List.getElem?_eq_getElem hj] at this
    exact Int.ofNat.inj this
  · rintro rfl
    exact ⟨rfl, fun _ _ => rfl⟩
set_option maxRecDepth 4000 in
set_option maxHeartbeats 1000000 in
theorem saysOf_any (c0 c1 c2 c3 s : Int) (c4 sum le mo : Nat) (f : Bool) (pv lv : Value) (ps : List Nat) (ln : Nat → Nat) (base base' k : Nat) (w : World) (hk : k ≤ 300) (hc4 : c4 ≤ 255) (hp : ps.length ≤ 300) (hln : ∀ i, i < k → ln i ≤ 9000)
    (hP : w.ownsRow base 3 1 pv ps.length (pntV ps)) (hL : w.ownsRow base' 3 1 lv k (lnL ln k)) :
    Calls Tryz.prog 73 #[.agg (hdC c0 c1 c2 c3 c4 s f le mo sum pv), lv] w fun e w' => Says e (le = leastN ln k ∧ mo = mostN ln k ∧ ps = pntN ln c4 k) ∧ Below w.heap.size w w' := by
  obtain ⟨a, cap, rfl, hI, hlow⟩ := lens_open hL
  obtain ⟨b, cap', rfl, hJ, hlow'⟩ := pnts_open hP
  have HFN := Hid.mk' (fun (u : World) (hu : Below w.heap.size w u) => finished9_any c0 c1 c2 c3 s c4 sum a k cap ln u hk hc4 hln (hI.below hu hlow) (fun x hx h0 => Nat.lt_of_lt_of_le (hlow x hx h0) hu.size))
  have HB0 : Hid (Below w.heap.size w (w.alloc (.cells #[.int .i64 c0, .int .i64 c1, .int .i64 c2, .int .i64 c3, .int .i64 c4, .int .i64 s, .bool f, .int .i64 le, .int .i64 mo, .int .i64 sum, .slice b ps.length cap'] 110))) := (Below.refl _ _).alloc (Nat.le_refl _) _
  have HJ := Hid.mk' (And.intro hJ hlow')
  have HQL : Hid ((pntN ln c4 k).length ≤ 300) := Nat.le_trans (pntN_len ln c4 k) hk
  have HP2 := Hid.mk' hp
  unfold hdC at HFN ⊢
  clear hP hL hln hI hlow hJ hlow' hk hc4 hp
  generalize pntN ln c4 k = qs at *
  generalize leastN ln k = le' at *
  generalize mostN ln k = mo' at *
  by_cases h1 : le = le'
  · subst h1
    by_cases h2 : mo = mo'
    · subst h2
      have HX := Hid.mk' (@lists_ext ps qs)
      go_enter Tryz.func73, Tryz.ntmps73
      go_wp2_with (first
        | (go_at_call 128; refine (HFN.out _ HB0.out).mono ?_; rintro e u1 ⟨qv, rfl, hq, hb⟩; obtain ⟨qa, qc, rfl, hQ, hql⟩ := pnts_open hq; have HQ := Hid.mk' (And.intro hQ hql); have HB1 := Hid.mk' (HB0.out.trans (hb.mono (by simp))); have hz := ((Bx.new w _ _).below hb).alloc (.cells #[.int .i64 c0, .int .i64 c1, .int .i64 c2, .int .i64 c3, .int .i64 c4, .int .i64 s, .bool true, .int .i64 le, .int .i64 mo, .int .i64 sum, .slice qa qs.length qc] 110); have x7 := hz.cell 7; have x8 := hz.cell 8; have x10 := hz.cell 10; clear hQ hql hb hq HFN hz)
        | (go_at_call 139; refine (slicesEqual_any b qa ps.length qs.length cap' qc _ _ _ HP2.out HQL.out ((HJ.out.1.below HB1.out HJ.out.2).below ((Below.refl u1.heap.size u1).alloc (Nat.le_refl _) _) (fun x hx h0 => Nat.lt_of_lt_of_le (HJ.out.2 x hx h0) HB1.out.size)) (HQ.out.1.below ((Below.refl u1.heap.size u1).alloc (Nat.le_refl _) _) HQ.out.2)).mono ?_; rintro e u2 ⟨⟨r, rfl, hr⟩, m, rfl⟩; have HR := Hid.mk' hr; clear hr))
      go_ret
      refine ⟨⟨r, rfl, ?_⟩, ?_⟩
      · rw [HR.out, HX.out]
        exact ⟨fun h => ⟨by trivial, by trivial, h⟩, fun h => h.2.2⟩
      · exact bl_drewN (HB1.out.alloc HB1.out.size _) m
    · have HN : Hid (¬ (le = le ∧ mo = mo' ∧ ps = qs)) := fun h => h2 h.2.1
      have hd2 : ((mo : Int) == (mo' : Int)) = false := by exact beq_eq_false_iff_ne.2 (by omega)
      have hi2 : ¬ (mo : Int) = (mo' : Int) := by omega
      go_enter Tryz.func73, Tryz.ntmps73
      go_wp2_with (first
        | (go_at_call 128; refine (HFN.out _ HB0.out).mono ?_; rintro e u1 ⟨qv, rfl, hq, hb⟩; obtain ⟨qa, qc, rfl, hQ, hql⟩ := pnts_open hq; have HB1 := Hid.mk' (HB0.out.trans (hb.mono (by simp))); have hz := ((Bx.new w _ _).below hb).alloc (.cells #[.int .i64 c0, .int .i64 c1, .int .i64 c2, .int .i64 c3, .int .i64 c4, .int .i64 s, .bool true, .int .i64 le, .int .i64 mo', .int .i64 sum, .slice qa qs.length qc] 110); have x7 := hz.cell 7; have x8 := hz.cell 8; have x10 := hz.cell 10; clear hQ hql hb hq HFN hz))
      go_ret
      exact ⟨.no HN.out, HB1.out.alloc HB1.out.size _⟩
  · have HN : Hid (¬ (le = le' ∧ mo = mo' ∧ ps = qs)) := fun h => h1 h.1
    have hd1 : ((le : Int) == (le' : Int)) = false := by exact beq_eq_false_iff_ne.2 (by omega)
    have hi1 : ¬ (le : Int) = (le' : Int) := by omega
    go_enter Tryz.func73, Tryz.ntmps73
    go_wp2_with (first
      | (go_at_call 128; refine (HFN.out _ HB0.out).mono ?_; rintro e u1 ⟨qv, rfl, hq, hb⟩; obtain ⟨qa, qc, rfl, hQ, hql⟩ := pnts_open hq; have HB1 := Hid.mk' (HB0.out.trans (hb.mono (by simp))); have hz := ((Bx.new w _ _).below hb).alloc (.cells #[.int .i64 c0, .int .i64 c1, .int .i64 c2, .int .i64 c3, .int .i64 c4, .int .i64 s, .bool true, .int .i64 le', .int .i64 mo', .int .i64 sum, .slice qa qs.length qc] 110); have x7 := hz.cell 7; have x8 := hz.cell 8; have x10 := hz.cell 10; clear hQ hql hb hq HFN hz))
    go_ret
    exact ⟨.no HN.out, HB1.out.alloc HB1.out.size _⟩
end Go.Proofs.YtlncjgnomhpjnabGreatDoor

/-
  The book of lists that came out.
-/
namespace Go.Proofs.YtlncjgnomhpjnabGreatDoor
open Go.RowKit Go.Deep
set_option linter.unusedVariables false
theorem LstE.keep {e : TypeId} {w w' : World} {v : Value} {n : Nat} {og : Option Nat} {x : Nat → Value} (h : LstE e w v n og x) (hb : ∀ g, og = some g → w'.heap[g]? = w.heap[g]?) : LstE e w' v n og x := by
  rcases h with h | ⟨g, o, c, N, f, e1, e2, hr, h1⟩
  · exact .inl h
  · exact .inr ⟨g, o, c, N, f, e1, e2, hr.of_block (hb g e1), h1⟩
theorem LstE.lt {e : TypeId} {w : World} {v : Value} {n : Nat} {og : Option Nat} {x : Nat → Value} (h : LstE e w v n og x) {g : Nat} (hg : og = some g) : g < w.heap.size := by
  obtain ⟨N, f, hr⟩ := h.row hg
  exact hr.lt
end Go.Proofs.YtlncjgnomhpjnabGreatDoor

/-
  The book: lists of lists go into it; their laws.
-/
namespace Go.Proofs.YtlncjgnomhpjnabGreatDoor
open Go.RowKit Go.Deep
set_option linter.unusedVariables false
theorem row_type {w : World} {g N N' : Nat} {e e' : TypeId} {f f' : Nat → Value} (h : w.rowIs g e N f) (h' : w.rowIs g e' N' f') : e = e' := by
  obtain ⟨c, h1, -⟩ := h
  obtain ⟨c', h2, -⟩ := h'
  rw [h1] at h2
  injection h2 with h2
  injection h2
end Go.Proofs.YtlncjgnomhpjnabGreatDoor

