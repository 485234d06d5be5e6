import Derived.Test.YtlncjgnomhpjnaaGreatDoorEKChan
import Derived.Test.YtlncjgnomhpjnaaGreatDoorEKSpoil
import Derived.Deep.QuietTactic
import Derived.BigQuiet
/-
  The lists of lists that are lent: 'lendAll', 'wholeAll'.
-/
namespace Go.Proofs.YtlncjgnomhpjnaaGreatDoor
open Go.RowKit Go.Deep

theorem infoInts : (Tryz.prog.info? 29).map (fun i => (i.zero, i.size, i.bytes)) = some (some (.slice none 0 0), 1, 24) := by kernel_rfl

/-- all blocks but two, and what is new, are as they were -/
structure Kept2 (b m : Nat) (w w' : World) : Prop where
  os : w'.os = w.os
  tape : w'.tape = w.tape
  output : w'.output = w.output
  size : w.heap.size ≤ w'.heap.size
  block : ∀ k, k < w.heap.size → k ≠ b → k ≠ m → w'.heap[k]? = w.heap[k]?
theorem Kept2.refl (b m : Nat) (w : World) : Kept2 b m w w := ⟨rfl, rfl, rfl, Nat.le_refl _, fun _ _ _ _ => rfl⟩
theorem Kept2.below {b m : Nat} {w w' w'' : World} (h : Kept2 b m w w') (hb : Below w'.heap.size w' w'') : Kept2 b m w w'' :=
  ⟨hb.os.trans h.os, hb.tape.trans h.tape, hb.output.trans h.output, Nat.le_trans h.size hb.size, fun k hk h1 h2 => (hb.block k (Nat.lt_of_lt_of_le hk h.size)).trans (h.block k hk h1 h2)⟩
theorem Kept2.alloc {b m : Nat} {w w' : World} (h : Kept2 b m w w') (o : Obj) : Kept2 b m w (w'.alloc o) :=
  h.below ((Below.refl _ _).alloc (Nat.le_refl _) _)
theorem Kept2.set1 {b m : Nat} {w w' : World} (h : Kept2 b m w w') (i : Nat) (v : Value) : Kept2 b m w (w'.setCell ⟨b, i, none⟩ v) :=
  ⟨h.os, h.tape, h.output, by rw [World.size_setCell]; exact h.size, fun k hk h1 h2 => (blk_setCell_other _ _ _ _ (by simpa using h1)).trans (h.block k hk h1 h2)⟩
theorem Kept2.set2 {b m : Nat} {w w' : World} (h : Kept2 b m w w') (i : Nat) (v : Value) : Kept2 b m w (w'.setCell ⟨m, i, none⟩ v) :=
  ⟨h.os, h.tape, h.output, by rw [World.size_setCell]; exact h.size, fun k hk h1 h2 => (blk_setCell_other _ _ _ _ (by simpa using h2)).trans (h.block k hk h1 h2)⟩

/-- the value of a list that was lent -/
def lentV (a : Option Addr) (n b : Nat) : Value := .slice (lentA a b) n (lentC a n)
def outV (n : Nat) (A : Nat → Option Addr) (L NB : Nat → Nat) (i : Nat) : Value := if i < n then lentV (A i) (L i) (NB i) else .slice (some ⟨NB i, 0, none⟩) 1 1
def nilV : Value := .slice none 0 0

/-- the family of rows, as far as k -/
structure Fam (w wr : World) (n : Nat) (A : Nat → Option Addr) (L : Nat → Nat) (F : Nat → Nat → Int) (NB : Nat → Nat) (k : Nat) : Prop where
  below : Below w.heap.size w wr
  out : wr.rowIs w.heap.size 29 (n + 8) (fun i => if i < k then outV n A L NB i else nilV)
  mine : wr.rowIs (w.heap.size + 1) 29 n (fun i => if i < k then lentV (A i) (L i) (NB i) else nilV)
  lo : ∀ i, i < k → w.heap.size + 2 ≤ NB i
  hi : ∀ i, i < k → NB i < wr.heap.size
  row : ∀ i, i < k → i < n → ∀ x, A i = some x → wr.rowIs (NB i) 3 (L i + 8) (lentRow (L i) (F i))
  far : ∀ i, i < k → n ≤ i → wr.rowIs (NB i) 3 1 (fun _ => .int .i64 77)
  ne : ∀ i j, i < j → j < k → NB i ≠ NB j

def upd (NB : Nat → Nat) (k b : Nat) (i : Nat) : Nat := if i = k then b else NB i

theorem Fam.step {w wr wr' : World} {n : Nat} {A : Nat → Option Addr} {L : Nat → Nat} {F : Nat → Nat → Int} {NB : Nat → Nat} {k b : Nat}
    (h : Fam w wr n A L F NB k) (hk : Kept2 w.heap.size (w.heap.size + 1) wr wr')
    (hout : wr'.rowIs w.heap.size 29 (n + 8) (fun i => if i = k then outV n A L (upd NB k b) k else if i < k then outV n A L NB i else nilV))
    (hmine : wr'.rowIs (w.heap.size + 1) 29 n (fun i => if i = k then lentV (A k) (L k) b else if i < k then lentV (A i) (L i) (NB i) else nilV))
    (hb1 : wr.heap.size ≤ b) (hb2 : b < wr'.heap.size) (hrow : k < n → ∀ x, A k = some x → wr'.rowIs b 3 (L k + 8) (lentRow (L k) (F k))) (hfar : n ≤ k → wr'.rowIs b 3 1 (fun _ => .int .i64 77)) :
    Fam w wr' n A L F (upd NB k b) (k + 1) := by
  have hsz := h.out.lt
  have hsz2 := h.mine.lt
  refine ⟨⟨hk.os.trans h.below.os, hk.tape.trans h.below.tape, hk.output.trans h.below.output, Nat.le_trans h.below.size hk.size, fun j hj => (hk.block j (by omega) (by omega) (by omega)).trans (h.below.block j hj)⟩,
    hout.congr fun i _ => ?_, hmine.congr fun i _ => ?_, fun i hi => ?_, fun i hi => ?_, fun i hi hin x hx => ?_, fun i hi hin => ?_, fun i j hij hj => ?_⟩
  · by_cases e : i = k
    · subst e; simp
    · by_cases e2 : i < k
      · simp [e, e2, outV, upd, Nat.lt_succ_of_lt e2]
      · simp [e, e2]; omega
  · by_cases e : i = k
    · subst e; simp [upd]
    · by_cases e2 : i < k
      · simp [e, e2, upd, Nat.lt_succ_of_lt e2]
      · simp [e, e2]; omega
  · by_cases e : i = k
    · simp only [upd, if_pos e]; omega
    · simp only [upd, if_neg e]; exact h.lo i (by omega)
  · by_cases e : i = k
    · simp only [upd, if_pos e]; exact hb2
    · simp only [upd, if_neg e]; exact Nat.lt_of_lt_of_le (h.hi i (by omega)) hk.size
  · by_cases e : i = k
    · subst e; simp only [upd]; exact hrow hin x hx
    · simp only [upd, if_neg e]
      have := h.lo i (by omega)
      exact (h.row i (by omega) hin x hx).of_block (hk.block _ (h.hi i (by omega)) (by omega) (by omega))
  · by_cases e : i = k
    · subst e; simp only [upd]; exact hfar hin
    · simp only [upd, if_neg e]
      have := h.lo i (by omega)
      exact (h.far i (by omega) hin).of_block (hk.block _ (h.hi i (by omega)) (by omega) (by omega))
  · have e : i ≠ k := by omega
    by_cases e2 : j = k
    · simp only [upd, if_neg e, if_pos e2]
      have := h.hi i (by omega)
      omega
    · simp only [upd, if_neg e, if_neg e2]; exact h.ne i j hij (by omega)

theorem Fam.start (w : World) (n : Nat) (A : Nat → Option Addr) (L : Nat → Nat) (F : Nat → Nat → Int) (NB : Nat → Nat) :
    Fam w ((w.alloc (.cells (madeCells #[nilV] (n + 8)) 29)).alloc (.cells (madeCells #[nilV] n) 29)) n A L F NB 0 := by
  refine ⟨((Below.refl _ _).alloc (Nat.le_refl _) _).alloc (by simp) _, ?_, ?_, fun i hi => absurd hi (by omega), fun i hi => absurd hi (by omega), fun i hi => absurd hi (by omega), fun i hi => absurd hi (by omega), fun i j _ hj => absurd hj (by omega)⟩
  · exact ((World.rowIs_made w nilV (n + 8) 29).alloc _).congr fun i _ => by simp
  · have := World.rowIs_made (w.alloc (.cells (madeCells #[nilV] (n + 8)) 29)) nilV n 29
    rw [World.size_alloc] at this
    exact this.congr fun i _ => by simp

/-- what a round has done -/
theorem Fam.stepFar {w wr : World} {n : Nat} {A : Nat → Option Addr} {L : Nat → Nat} {F : Nat → Nat → Int} {NB : Nat → Nat} {k : Nat} (h : Fam w wr n A L F NB k) (hk : n ≤ k) :
    Fam w ((wr.alloc (.cells #[.int .i64 77] 3)).setCell ⟨w.heap.size, k, none⟩ (.slice (some ⟨wr.heap.size, 0, none⟩) 1 1)) n A L F (upd NB k wr.heap.size) (k + 1) := by
  have hsz := h.mine.lt
  refine h.step (((Kept2.refl _ _ _).alloc _).set1 _ _) (((h.out.alloc _).set k _).congr fun i _ => ?_) (((h.mine.alloc _).setOther (by simp) _).congr fun i hi => ?_) (Nat.le_refl _) (by simp) (fun h1 => absurd h1 (by omega)) (fun _ => ?_)
  · by_cases e : i = k
    · simp [e, outV, upd]; omega
    · simp [e]
  · simp [show i ≠ k by omega]
  · refine World.rowIs.setOther ?_ (by simp; omega) _
    exact (World.rowIs_alloc wr #[.int .i64 77] 3 (fun _ => .int .i64 77) (fun i hi => by simp at hi; subst hi; rfl))
theorem Fam.stepNil {w wr : World} {n : Nat} {A : Nat → Option Addr} {L : Nat → Nat} {F : Nat → Nat → Int} {NB : Nat → Nat} {k : Nat} (h : Fam w wr n A L F NB k) (hk : k < n) (hA : A k = none) (hL : L k = 0) :
    Fam w ((((wr.alloc (.cells #[.int .i64 77] 3)).setCell ⟨w.heap.size, k, none⟩ (.slice (some ⟨wr.heap.size, 0, none⟩) 1 1)).setCell ⟨w.heap.size + 1, k, none⟩ (.slice none 0 0)).setCell ⟨w.heap.size, k, none⟩ (.slice none 0 0)) n A L F (upd NB k wr.heap.size) (k + 1) := by
  refine h.step (((((Kept2.refl _ _ _).alloc _).set1 _ _).set2 _ _).set1 _ _) ((((((h.out.alloc _).set k _).setOther (by simp) _)).set k _).congr fun i _ => ?_) (((((h.mine.alloc _).setOther (by simp) _).set k _).setOther (by simp) _).congr fun i hi => ?_) (Nat.le_refl _) (by simp) (fun _ x hx => by rw [hA] at hx; cases hx) (fun h1 => absurd h1 (by omega))
  · by_cases e : i = k
    · simp [e, outV, hk, lentV, lentA, lentC, hA, hL]
    · simp [e]
  · by_cases e : i = k
    · simp [e, lentV, lentA, lentC, hA, hL]
    · simp [e]
theorem Fam.stepOne {w wr w2 : World} {n : Nat} {A : Nat → Option Addr} {L : Nat → Nat} {F : Nat → Nat → Int} {NB : Nat → Nat} {k : Nat} {x : Addr} (h : Fam w wr n A L F NB k) (hk : k < n) (hA : A k = some x)
    (hb : Below (wr.heap.size + 1) ((wr.alloc (.cells #[.int .i64 77] 3)).setCell ⟨w.heap.size, k, none⟩ (.slice (some ⟨wr.heap.size, 0, none⟩) 1 1)) w2) (hrow : w2.rowIs (wr.heap.size + 1) 3 (L k + 8) (lentRow (L k) (F k))) :
    Fam w ((w2.setCell ⟨w.heap.size + 1, k, none⟩ (.slice (some ⟨wr.heap.size + 1, 0, none⟩) (L k) (L k + 8))).setCell ⟨w.heap.size, k, none⟩ (.slice (some ⟨wr.heap.size + 1, 0, none⟩) (L k) (L k + 8))) n A L F (upd NB k (wr.heap.size + 1)) (k + 1) := by
  have hs1 := h.out.lt
  have hs2 := h.mine.lt
  have hs3 := hrow.lt
  have o1 : w2.rowIs w.heap.size 29 (n + 8) _ := ((h.out.alloc (.cells #[.int .i64 77] 3)).set k (.slice (some ⟨wr.heap.size, 0, none⟩) 1 1)).of_block (hb.block _ (by omega))
  have m1 : w2.rowIs (w.heap.size + 1) 29 n _ := ((h.mine.alloc (.cells #[.int .i64 77] 3)).setOther (a := ⟨w.heap.size, k, none⟩) (by simp) (.slice (some ⟨wr.heap.size, 0, none⟩) 1 1)).of_block (hb.block _ (by omega))
  refine h.step (((((Kept2.refl _ _ _).alloc _).set1 _ _).below (hb.mono (by simp))).set2 _ _ |>.set1 _ _) (((o1.setOther (by simp) _).set k _).congr fun i _ => ?_) (((m1.set k _).setOther (by simp) _).congr fun i hi => ?_) (by omega) (by simpa using hs3) (fun _ y _ => ((hrow.setOther (by simp; omega) _).setOther (by simp; omega) _)) (fun h1 => absurd h1 (by omega))
  · by_cases e : i = k
    · simp [e, outV, hk, lentV, lentA, lentC, hA, upd]
    · simp [e]
  · by_cases e : i = k
    · simp [e, lentV, lentA, lentC, hA]
    · simp [e]

/-- what is lent -/
def Lent (e : Ending) (w w' : World) (n : Nat) (A : Nat → Option Addr) (L : Nat → Nat) (F : Nat → Nat → Int) : Prop :=
  ∃ NB, e = .returned (.tuple #[.slice (some ⟨w.heap.size, 0, none⟩) n (n + 8), .slice (some ⟨w.heap.size + 1, 0, none⟩) n n]) ∧ Fam w w' n A L F NB (n + 8)

set_option maxHeartbeats 1000000 in
theorem lendAll_some (x : Addr) (n cap : Nat) (A : Nat → Option Addr) (L C : Nat → Nat) (F : Nat → Nat → Int) (w : World) (hn : n ≤ 5864062014805) (hL : ∀ i, i < n → L i ≤ 17592186044416)
    (hA : ListsAt w (some x) n A L C) (hI : ∀ i, i < n → IntsAt w (A i) (L i) (F i)) (hlow : Low w.heap.size (some x) n A L) (hnil : ∀ i, i < n → A i = none → L i = 0 ∧ C i = 0) :
    Calls Tryz.prog 39 #[.slice (some x) n cap] w fun e w' => Lent e w w' n A L F := by
  have hmk1 := run_make_row' (P := Tryz.prog) 24 29 (.slice none 0 0) 24 Tryz.underlying24 infoInts rfl .i64 .i64 (n + 8) (by omega) (by omega)
  have ec : ((n + 8 : Nat) : Int) = (n : Int) + 8 := by omega
  rw [ec] at hmk1
  have hmk2 := run_make_row' (P := Tryz.prog) 24 29 (.slice none 0 0) 24 Tryz.underlying24 infoInts rfl .i64 .i64 n (by omega) (by omega)
  have hnl := fun u : World => Lib.run_eql_slice_nil (P := Tryz.prog) u 24 29 (some x) n cap 0 0 Tryz.underlying24
  have HF : Hid (Fam w ((w.alloc (.cells (madeCells #[nilV] (n + 8)) 29)).alloc (.cells (madeCells #[nilV] n) 29)) n A L F (fun _ => 0) 0) := Fam.start w n A L F _
  have HA : Hid (ListsAt w (some x) n A L C) := hA
  have HI : Hid (∀ i, i < n → IntsAt w (A i) (L i) (F i)) := hI
  have HL : Hid (∀ i, i < n → L i ≤ 17592186044416) := hL
  have HN : Hid (∀ i, i < n → A i = none → L i = 0 ∧ C i = 0) := hnil
  have HW : Hid (Low w.heap.size (some x) n A L) := hlow
  clear hA hI hL hnil hlow
  go_enter Tryz.func39, Tryz.ntmps39
  go_wp2
  clear hmk1 hmk2 hnl
  go_loopw [7] (fun i wr => ∃ k : Nat, k ≤ n + 8 ∧ i = .int .i64 k ∧ Hid (∃ NB, Fam w wr n A L F NB k)) (fun i _ => n + 8 - (intOf i).toNat)
  case atStart => exact ⟨0, Nat.zero_le _, rfl, ⟨_, HF.out⟩⟩
  case round =>
    clear HF
    obtain ⟨k, hk, rfl, HR⟩ := hrel
    obtain ⟨NB, hF⟩ := HR.out
    clear HR
    have hs2 : w.heap.size + 1 < wr.heap.size := hF.mine.lt
    by_cases hlt : k < n + 8
    · obtain ⟨v1, hc1⟩ : ∃ v, wr.cell? ⟨w.heap.size, k, none⟩ = some v := ⟨_, hF.out.cell hlt⟩
      have hf1 : wr.frozen? ⟨w.heap.size, k, none⟩ = false := hF.out.frozen k
      obtain ⟨hcl, hfr⟩ := bcell (show Below wr.heap.size wr (wr.alloc (.cells #[.int .i64 77] 3)) from (Below.refl _ _).alloc (Nat.le_refl _) _)
      have hc1a := (hcl w.heap.size k (by omega)).trans hc1
      have hf1a := (hfr w.heap.size k (by omega)).trans hf1
      by_cases hkn : k < n
      · obtain ⟨v2, hc2⟩ : ∃ v, wr.cell? ⟨w.heap.size + 1, k, none⟩ = some v := ⟨_, hF.mine.cell hkn⟩
        have hf2 : wr.frozen? ⟨w.heap.size + 1, k, none⟩ = false := hF.mine.frozen k
        have hc2a := (hcl (w.heap.size + 1) k (by omega)).trans hc2
        have hf2a := (hfr (w.heap.size + 1) k (by omega)).trans hf2
        obtain ⟨b, off, hx, hck⟩ := HA.out.open (by omega)
        cases hx
        have hbl : b < w.heap.size := HW.out.1 _ rfl (by omega)
        have hc3 : wr.cell? ⟨b, off + k, none⟩ = some (.slice (A k) (L k) (C k)) := (hF.below.cell hbl).trans (hck k hkn)
        clear hck
        have HFF : Hid (Fam w wr n A L F NB k) := hF
        clear hF
        cases hAk : A k with
        | none =>
          obtain ⟨hL0, hC0⟩ := HN.out k hkn hAk
          rw [hAk, hL0, hC0] at hc3
          have hc3a := (hcl b (off + k) (by omega)).trans hc3
          clear hcl hfr hc1 hc2 hc3 hf1 hf2
          have HE : Hid (A k = none ∧ L k = 0) := ⟨hAk, hL0⟩
          clear hAk hL0 hC0
          go_wp2_with (go_at_call 68; refine (lend_none _).mono ?_; rintro e w' ⟨rfl, rfl⟩)
          go_roundw
          case rel => exact ⟨k + 1, by omega, by go_num, ⟨_, HFF.out.stepNil hkn HE.out.1 HE.out.2⟩⟩
          case measure => simp [intOf]; omega
        | some y =>
          rw [hAk] at hc3
          have HE : Hid (A k = some y) := hAk
          have hI1 : IntsAt wr (some y) (L k) (F k) := by
            have h := (HI.out k hkn).below HFF.out.below (HW.out.2 k hkn)
            rw [hAk] at h; exact h
          have hyl : 0 < L k → y.block < w.heap.size := fun h => HW.out.2 k hkn y hAk h
          have hLk := HL.out k hkn
          have hc3a := (hcl b (off + k) (by omega)).trans hc3
          have hbe : Below w.heap.size wr ((wr.alloc (.cells #[.int .i64 77] 3)).setCell ⟨w.heap.size, k, none⟩ (.slice (some ⟨wr.heap.size, 0, none⟩) 1 1)) := ((Below.refl _ _).alloc (show w.heap.size ≤ wr.heap.size by omega) _).setCell (Nat.le_refl _) _
          have hlend := lend_some y (L k) (C k) (F k) ((wr.alloc (.cells #[.int .i64 77] 3)).setCell ⟨w.heap.size, k, none⟩ (.slice (some ⟨wr.heap.size, 0, none⟩) 1 1)) hLk (hI1.below hbe fun x hx h => by cases hx; exact hyl h) (fun h => by have := hyl h; simp; omega)
          simp only [World.size_setCell, World.size_alloc] at hlend
          have hlend2 := hlend.mono (R' := fun e w2 => (e = .returned (.slice (some ⟨wr.heap.size + 1, 0, none⟩) (L k) (L k + 8)) ∧ w2.rowIs (wr.heap.size + 1) 3 (L k + 8) (lentRow (L k) (F k)) ∧ Below (wr.heap.size + 1) _ w2) ∧
              w2.cell? ⟨w.heap.size, k, none⟩ = some (.slice (some ⟨wr.heap.size, 0, none⟩) 1 1) ∧ w2.frozen? ⟨w.heap.size, k, none⟩ = false ∧ w2.cell? ⟨w.heap.size + 1, k, none⟩ = some v2 ∧ w2.frozen? ⟨w.heap.size + 1, k, none⟩ = false) (fun e w2 h => ⟨h,
            (h.2.2.cell (by simp; omega)).trans (World.cell?_setCell_same _ _ _ hc1a), (h.2.2.frozen (by simp; omega)).trans ((World.frozen?_setCell _ _ _ _).trans hf1a),
            (h.2.2.cell (by simp; omega)).trans ((World.cell?_setCell_other _ _ _ _ (by simp)).trans hc2a), (h.2.2.frozen (by simp; omega)).trans ((World.frozen?_setCell _ _ _ _).trans hf2a)⟩)
          clear hAk hcl hfr hc1 hc2 hc3 hf1 hf2 hI1 hyl hbe hlend
          go_wp2_with (go_at_call 68; refine hlend2.mono ?_; rintro e w2 ⟨⟨rfl, hrow, hb2⟩, d1, d2, d3, d4⟩)
          go_roundw
          case rel => exact ⟨k + 1, by omega, by go_num, ⟨_, HFF.out.stepOne hkn HE.out hb2 hrow⟩⟩
          case measure => simp [intOf]; omega
      · have HFF : Hid (Fam w wr n A L F NB k) := hF
        clear hF hcl hfr hc1 hf1
        go_wp2
        go_roundw
        case rel => exact ⟨k + 1, by omega, by go_num, ⟨_, HFF.out.stepFar (by omega)⟩⟩
        case measure => simp [intOf]; omega
    · have e : k = n + 8 := by omega
      subst e
      have HFF : Hid (Fam w wr n A L F NB (n + 8)) := hF
      clear hF
      go_wp2
      go_ret2
      exact ⟨NB, rfl, HFF.out⟩

set_option maxHeartbeats 400000 in
theorem lendAll_none (w : World) :
    Calls Tryz.prog 39 #[.slice none 0 0] w fun e w' => e = .returned (.tuple #[.slice none 0 0, .slice none 0 0]) ∧ w' = w := by
  have hnl := fun u : World => Lib.run_eql_slice_nil (P := Tryz.prog) u 24 29 none 0 0 0 0 Tryz.underlying24
  go_enter Tryz.func39, Tryz.ntmps39
  go_wp2
  go_ret2
  exact ⟨rfl, rfl⟩

/-- the family of rows, as far as it has not been written over -/
structure Rest (w wr : World) (n : Nat) (A : Nat → Option Addr) (L : Nat → Nat) (F : Nat → Nat → Int) (NB : Nat → Nat) (k : Nat) : Prop where
  below : Below w.heap.size w wr
  out : wr.rowIs w.heap.size 29 (n + 8) (outV n A L NB)
  mine : wr.rowIs (w.heap.size + 1) 29 n (fun i => lentV (A i) (L i) (NB i))
  lo : ∀ i, i < n + 8 → w.heap.size + 2 ≤ NB i
  hi : ∀ i, i < n + 8 → NB i < wr.heap.size
  row : ∀ i, k ≤ i → i < n → ∀ x, A i = some x → wr.rowIs (NB i) 3 (L i + 8) (lentRow (L i) (F i))
  far : ∀ i, n ≤ i → i < n + 8 → wr.rowIs (NB i) 3 1 (fun _ => .int .i64 77)
  ne : ∀ i j, i < j → j < n + 8 → NB i ≠ NB j
theorem Fam.rest {w wr : World} {n : Nat} {A : Nat → Option Addr} {L : Nat → Nat} {F : Nat → Nat → Int} {NB : Nat → Nat} (h : Fam w wr n A L F NB (n + 8)) : Rest w wr n A L F NB 0 :=
  ⟨h.below, h.out.congr fun i hi => by simp [hi], h.mine.congr fun i hi => by simp [Nat.lt_of_lt_of_le hi (Nat.le_add_right n 8)], h.lo, h.hi, fun i _ hi => h.row i (by omega) hi, fun i h1 h2 => h.far i h2 h1, h.ne⟩
theorem Rest.later {w wr wr' : World} {n : Nat} {A : Nat → Option Addr} {L : Nat → Nat} {F : Nat → Nat → Int} {NB : Nat → Nat} {k : Nat} (h : Rest w wr n A L F NB k) (ho : Only (NB k) wr wr') (hk : k < n) : Rest w wr' n A L F NB (k + 1) := by
  have hl := h.lo k (by omega)
  refine ⟨h.below.trans (ho.below (by omega)), ho.row h.out (by omega), ho.row h.mine (by omega), h.lo, fun i hi => by rw [ho.size]; exact h.hi i hi, fun i h1 h2 x hx => ho.row (h.row i (by omega) h2 x hx) ?_, fun i h1 h2 => ho.row (h.far i h1 h2) ?_, h.ne⟩
  · exact fun e => h.ne k i (by omega) (by omega) e.symm
  · exact fun e => h.ne k i (by omega) (by omega) e.symm
theorem Rest.skip {w wr : World} {n : Nat} {A : Nat → Option Addr} {L : Nat → Nat} {F : Nat → Nat → Int} {NB : Nat → Nat} {k : Nat} (h : Rest w wr n A L F NB k) : Rest w wr n A L F NB (k + 1) :=
  ⟨h.below, h.out, h.mine, h.lo, h.hi, fun i h1 => h.row i (by omega), h.far, h.ne⟩
theorem Rest.drewN {w wr : World} {n : Nat} {A : Nat → Option Addr} {L : Nat → Nat} {F : Nat → Nat → Int} {NB : Nat → Nat} {k : Nat} (h : Rest w wr n A L F NB k) (m : Nat) : Rest w (wr.drewN m) n A L F NB k :=
  ⟨⟨h.below.os, h.below.tape, h.below.output, h.below.size, h.below.block⟩, h.out, h.mine, h.lo, h.hi, h.row, h.far, h.ne⟩
theorem Only.drewN {b : Nat} {w w' : World} (h : Only b w w') (m : Nat) : Only b w (w'.drewN m) := ⟨h.os, h.tape, h.output, h.size, h.block⟩
theorem Only.trans {b : Nat} {w w' w'' : World} (h : Only b w w') (k : Only b w' w'') : Only b w w'' :=
  ⟨k.os.trans h.os, k.tape.trans h.tape, k.output.trans h.output, k.size.trans h.size, fun j hj => (k.block j hj).trans (h.block j hj)⟩

/-- one list, while it is looked at -/
structure One (wr u : World) (b off B1 B2 B k l c : Nat) (y : Addr) (g : Nat → Value) : Prop where
  c1 : u.cell? ⟨B1, k, none⟩ = some (.slice (some ⟨B, 0, none⟩) l (l + 8))
  c2 : u.cell? ⟨B2, k, none⟩ = some (.slice (some ⟨B, 0, none⟩) l (l + 8))
  c3 : u.cell? ⟨b, off + k, none⟩ = some (.slice (some y) l c)
  row : u.rowIs B 3 (l + 8) g
  only : Only B wr u
theorem One.drewN {wr u : World} {b off B1 B2 B k l c : Nat} {y : Addr} {g : Nat → Value} (h : One wr u b off B1 B2 B k l c y g) (m : Nat) : One wr (u.drewN m) b off B1 B2 B k l c y g :=
  ⟨h.c1, h.c2, h.c3, h.row, h.only.drewN m⟩
theorem One.next {wr u u' : World} {b off B1 B2 B k l c : Nat} {y : Addr} {g g' : Nat → Value} (h : One wr u b off B1 B2 B k l c y g) (hr : u'.rowIs B 3 (l + 8) g') (ho : Only B u u') (h1 : B1 ≠ B) (h2 : B2 ≠ B) (h3 : b ≠ B) : One wr u' b off B1 B2 B k l c y g' :=
  ⟨(World.cell?_of_block (ho.block _ h1)).trans h.c1, (World.cell?_of_block (ho.block _ h2)).trans h.c2, (World.cell?_of_block (ho.block _ h3)).trans h.c3, hr, h.only.trans ho⟩
theorem One.ints {wr u : World} {b off B1 B2 B k l c : Nat} {y : Addr} {v : Int} (h : One wr u b off B1 B2 B k l c y (fun _ => .int .i64 v)) : IntsAt u (some ⟨B, 0, none⟩) l (fun _ => v) := fun i hi =>
  ⟨_, rfl, by rw [← h.row.cell (i := i) (by omega)]; cases i <;> simp [Addr.add]⟩
theorem spoil_one {wr u : World} {b off B1 B2 B k l c : Nat} {y : Addr} {g : Nat → Value} (h : One wr u b off B1 B2 B k l c y g) (v : Int) (hl : l ≤ 17592186044416) (h1 : B1 ≠ B) (h2 : B2 ≠ B) (h3 : b ≠ B) :
    Calls Tryz.prog 73 #[.slice (some ⟨B, 0, none⟩) l (l + 8), .int .i64 v] u fun e u' => e = .returned (.tuple #[]) ∧ One wr u' b off B1 B2 B k l c y (fun _ => .int .i64 v) :=
  (spoil_some l B g v u hl h.row).mono fun _ _ ⟨he, hr, ho⟩ => ⟨he, h.next hr ho h1 h2 h3⟩

theorem spoil_oneN {wr u : World} {b off B1 B2 B k l c : Nat} {y : Addr} {g : Nat → Value} (h : One wr u b off B1 B2 B k l c y g) (v : Int) (m : Nat) (hl : l ≤ 17592186044416) (h1 : B1 ≠ B) (h2 : B2 ≠ B) (h3 : b ≠ B) :
    Calls Tryz.prog 73 #[.slice (some ⟨B, 0, none⟩) l (l + 8), .int .i64 v] (u.drewN m) fun e u' => e = .returned (.tuple #[]) ∧ One wr u' b off B1 B2 B k l c y (fun _ => .int .i64 v) :=
  spoil_one (h.drewN m) v hl h1 h2 h3
theorem whole_someN (x : Addr) (n c B : Nat) (f : Nat → Int) (w : World) (m : Nat) (hn : n ≤ 17592186044416) (hI : IntsAt w (some x) n f) (hrow : w.rowIs B 3 (n + 8) (lentRow n f)) :
    Calls Tryz.prog 72 #[.slice (some ⟨B, 0, none⟩) n (n + 8), .slice (some x) n c] (w.drewN m) fun e w' => e = .returned (.bool true) ∧ w' = w.drewN m :=
  whole_some x n c B f (w.drewN m) hn hI hrow
theorem shows_yesN (a : Option Addr) (n c : Nat) (v : Int) (w : World) (m : Nat) (hn : n ≤ 17592186044416) (hI : IntsAt w a n (fun _ => v)) :
    Calls Tryz.prog 46 #[.slice a n c, .int .i64 n, .int .i64 v] (w.drewN m) fun e w' => e = .returned (.bool true) ∧ w' = w.drewN m :=
  shows_yes a n c v (w.drewN m) hn hI

set_option maxRecDepth 100000 in
set_option maxHeartbeats 2000000 in
theorem wholeAll_some (x : Addr) (n cap : Nat) (A : Nat → Option Addr) (L C NB : Nat → Nat) (F : Nat → Nat → Int) (w0 w : World) (hn : n ≤ 5864062014805) (hL : ∀ i, i < n → L i ≤ 17592186044416)
    (hA : ListsAt w0 (some x) n A L C) (hI : ∀ i, i < n → IntsAt w0 (A i) (L i) (F i)) (hlow : Low w0.heap.size (some x) n A L) (hnil : ∀ i, i < n → A i = none → L i = 0 ∧ C i = 0)
    (hR : Rest w0 w n A L F NB 0) :
    Calls Tryz.prog 41 #[.slice (some ⟨w0.heap.size, 0, none⟩) n (n + 8), .slice (some ⟨w0.heap.size + 1, 0, none⟩) n n, .slice (some x) n cap] w fun e w' => e = .returned (.bool true) ∧ Below w0.heap.size w0 w' := by
  have hnl := fun u : World => Lib.run_eql_slice_nil (P := Tryz.prog) u 24 29 (some x) n cap 0 0 Tryz.underlying24
  have HA : Hid (ListsAt w0 (some x) n A L C) := hA
  have HI : Hid (∀ i, i < n → IntsAt w0 (A i) (L i) (F i)) := hI
  have HL : Hid (∀ i, i < n → L i ≤ 17592186044416) := hL
  have HN : Hid (∀ i, i < n → A i = none → L i = 0 ∧ C i = 0) := hnil
  have HW : Hid (Low w0.heap.size (some x) n A L) := hlow
  have HR : Hid (Rest w0 w n A L F NB 0) := hR
  clear hA hI hL hnil hlow hR
  go_enter Tryz.func41, Tryz.ntmps41
  go_wp2
  clear hnl
  go_loopw [9, 10, 11, 12, 13, 14] (fun ok i _ _ _ _ wr => ∃ k : Nat, k ≤ n + 8 ∧ i = .int .i64 k ∧ ok = .bool true ∧ Hid (Rest w0 wr n A L F NB k)) (fun _ i _ _ _ _ _ => n + 8 - (intOf i).toNat)
  case atStart => exact ⟨0, Nat.zero_le _, rfl, rfl, HR.out⟩
  case round =>
    clear HR
    obtain ⟨k, hk, rfl, rfl, HR⟩ := hrel
    by_cases hlt : k < n + 8
    · by_cases hkn : k < n
      · obtain ⟨b, off, hx, hck⟩ := HA.out.open (by omega)
        cases hx
        have hbl : b < w0.heap.size := HW.out.1 _ rfl (by omega)
        have hlo := HR.out.lo k (by omega)
        have hc1 := HR.out.out.cell hlt
        have hc2 := HR.out.mine.cell hkn
        have hc3 := (HR.out.below.cell (p := ⟨b, off + k, none⟩) hbl).trans (hck k hkn)
        rw [outV, if_pos hkn] at hc1
        have hLk := HL.out k hkn
        clear hck
        cases hAk : A k with
        | none =>
          obtain ⟨hL0, hC0⟩ := HN.out k hkn hAk
          rw [hAk, hL0, hC0] at hc3
          rw [hAk, hL0] at hc1 hc2
          simp only [lentV, lentA, lentC, Option.map_none, Option.isNone_none, if_true] at hc1 hc2
          have HZ : Hid (∀ (u : World) v, IntsAt u none 0 (fun _ => v)) := fun u v i hi => absurd hi (by omega)
          clear hAk hL0 hC0 hLk
          go_wp2
          go_quiet ((go_at_call 72; exact (whole_none _ _).mono fun _ _ h => ⟨h.1, _, h.2⟩))
          go_wp2_with (go_at_call 73; refine (spoil_none _ _).mono ?_; rintro e w' ⟨rfl, rfl⟩)
          go_quiet ((go_at_call 46; exact (shows_yes none 0 _ _ _ (by omega) (HZ.out _ _)).mono fun _ _ h => ⟨h.1, _, h.2⟩))
          go_wp2_with (go_at_call 73; refine (spoil_none _ _).mono ?_; rintro e w' ⟨rfl, rfl⟩)
          go_quiet ((go_at_call 46; exact (shows_yes none 0 _ _ _ (by omega) (HZ.out _ _)).mono fun _ _ h => ⟨h.1, _, h.2⟩))
          go_wp2
          go_roundw
          case rel => exact ⟨k + 1, by omega, by go_num, rfl, HR.out.skip.drewN _⟩
          case measure => simp [intOf]; omega
        | some y =>
          rw [hAk] at hc1 hc2 hc3
          simp only [lentV, lentA, lentC, Option.map_some, Option.isNone_some, Bool.false_eq_true, if_false] at hc1 hc2
          have HY : Hid (IntsAt wr (some y) (L k) (F k)) := by
            have h := (HI.out k hkn).below HR.out.below (HW.out.2 k hkn)
            rw [hAk] at h; exact h
          have H0 : Hid (One wr wr b off w0.heap.size (w0.heap.size + 1) (NB k) k (L k) (C k) y (lentRow (L k) (F k))) := ⟨hc1, hc2, hc3, HR.out.row k (Nat.le_refl _) hkn y hAk, Only.refl _ _⟩
          have hd1 : w0.heap.size ≠ NB k := by omega
          have hd2 : w0.heap.size + 1 ≠ NB k := by omega
          have hd3 : b ≠ NB k := by omega
          clear hAk
          go_wp2
          go_quiet ((go_at_call 72; exact (whole_someN y (L k) (C k) (NB k) (F k) _ _ hLk HY.out H0.out.row).mono fun _ _ h => ⟨h.1, _, h.2⟩))
          go_wp2_with (go_at_call 73; refine (spoil_oneN H0.out _ _ hLk hd1 hd2 hd3).mono ?_; rintro e u1 ⟨rfl, H1⟩; have e1 := H1.c1; have e2 := H1.c2; have e3 := H1.c3; have HH1 := Hid.mk' H1; clear H1)
          go_quiet ((go_at_call 46; exact (shows_yesN _ (L k) _ _ _ _ hLk HH1.out.ints).mono fun _ _ h => ⟨h.1, _, h.2⟩))
          go_wp2_with (go_at_call 73; refine (spoil_oneN HH1.out _ _ hLk hd1 hd2 hd3).mono ?_; rintro e u2 ⟨rfl, H2⟩; have g1 := H2.c1; have g2 := H2.c2; have g3 := H2.c3; have HH2 := Hid.mk' H2; clear H2)
          go_quiet ((go_at_call 46; exact (shows_yesN _ (L k) _ _ _ _ hLk HH2.out.ints).mono fun _ _ h => ⟨h.1, _, h.2⟩))
          go_wp2
          go_roundw
          case rel => exact ⟨k + 1, by omega, by go_num, rfl, HR.out.later (HH2.out.only.drewN _) hkn⟩
          case measure => simp [intOf]; omega
      · have hc1 := HR.out.out.cell hlt
        rw [outV, if_neg hkn] at hc1
        have HI77 : Hid (IntsAt wr (some ⟨NB k, 0, none⟩) 1 (fun _ => 77)) := fun i hi => ⟨_, rfl, by rw [← (HR.out.far k (by omega) hlt).cell hi]; cases i <;> simp [Addr.add]⟩
        go_wp2_with (go_at_call 46; refine (shows_yes _ 1 _ _ _ (by omega) HI77.out).mono ?_; rintro e w' ⟨rfl, rfl⟩)
        go_roundw
        case rel => exact ⟨k + 1, by omega, by go_num, rfl, HR.out.skip⟩
        case measure => simp [intOf]; omega
    · go_wp2
      go_ret
      exact ⟨rfl, HR.out.below⟩

end Go.Proofs.YtlncjgnomhpjnaaGreatDoor

