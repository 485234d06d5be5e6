/-
  readRests.
-/
import Derived.Test.YtlncjgnomhpjnaaDoorReadProg3
namespace Go.Proofs.YtlncjgnomhpjnaaDoor
open Go.RowKit Go.Deep
set_option linter.unusedVariables false

/-- at most these blocks have turned; the rest is new -/
structure ChgS (S : Nat → Prop) (w w' : World) : Prop where
  os : w'.os = w.os
  tape : w'.tape = w.tape
  output : w'.output = w.output
  size : w.heap.size ≤ w'.heap.size
  block : ∀ k, k < w.heap.size → ¬ S k → w'.heap[k]? = w.heap[k]?
theorem ChgS.refl (S : Nat → Prop) (w : World) : ChgS S w w := ⟨rfl, rfl, rfl, Nat.le_refl _, fun _ _ _ => rfl⟩
theorem ChgS.trans {S : Nat → Prop} {a b c : World} (h : ChgS S a b) (k : ChgS S b c) : ChgS S a c :=
  ⟨k.os.trans h.os, k.tape.trans h.tape, k.output.trans h.output, Nat.le_trans h.size k.size, fun j hj hne => (k.block j (Nat.lt_of_lt_of_le hj h.size) hne).trans (h.block j hj hne)⟩
theorem ChgS.chg {S : Nat → Prop} {a b c : World} {B : Nat} (h : ChgS S a b) (k : Chg B b c) (hB : S B ∨ a.heap.size ≤ B) : ChgS S a c :=
  ⟨k.os.trans h.os, k.tape.trans h.tape, k.output.trans h.output, Nat.le_trans h.size k.size, fun j hj hne => (k.block j (Nat.lt_of_lt_of_le hj h.size) (fun e => by cases e; rcases hB with h1 | h1; exact hne h1; omega)).trans (h.block j hj hne)⟩
theorem ChgS.below {S : Nat → Prop} {a b c : World} (h : ChgS S a b) (k : Below b.heap.size b c) : ChgS S a c :=
  h.trans ⟨k.os, k.tape, k.output, k.size, fun j hj _ => k.block j hj⟩
theorem ChgS.drewN {S : Nat → Prop} {a b : World} (h : ChgS S a b) (m : Nat) : ChgS S a (b.drewN m) := ⟨h.os, h.tape, h.output, h.size, h.block⟩

/-- the guesser, boxed -/
def Gd (w : World) (G kind : Nat) (a c : Int) : Prop := w.heap[G]? = some (.cells #[.int .i64 (ord kind), .int .i64 (wt kind a c 0), .int .i64 (wt kind a c 1), .int .i64 (wt kind a c 2), .int .i64 (wt kind a c 3), .int .i64 (scl kind : Int)] 64 (0, 0))
theorem Gd.of {w w' : World} {G kind : Nat} {a c : Int} (h : Gd w G kind a c) (e : w'.heap[G]? = w.heap[G]?) : Gd w' G kind a c := e.trans h
theorem Gd.lt {w : World} {G kind : Nat} {a c : Int} (h : Gd w G kind a c) : G < w.heap.size := (Array.getElem?_eq_some_iff.1 h).1
theorem Gd.cells {w : World} {G kind : Nat} {a c : Int} (h : Gd w G kind a c) :
    w.cell? ⟨G, 0, none⟩ = some (.int .i64 (ord kind)) ∧ w.cell? ⟨G, 1, none⟩ = some (.int .i64 (wt kind a c 0)) ∧ w.cell? ⟨G, 2, none⟩ = some (.int .i64 (wt kind a c 1)) ∧ w.cell? ⟨G, 3, none⟩ = some (.int .i64 (wt kind a c 2)) ∧
      w.cell? ⟨G, 4, none⟩ = some (.int .i64 (wt kind a c 3)) ∧ w.cell? ⟨G, 5, none⟩ = some (.int .i64 (scl kind : Int)) := by
  simp [World.cell?, show w.heap[G]? = _ from h]

theorem ord_le (kind : Nat) (h2 : 2 ≤ kind) (h7 : kind ≤ 7) : ord kind ≤ 4 := by unfold ord; split <;> omega
theorem wt_bd (kind : Nat) (a c : Int) (ha : -32 ≤ a ∧ a ≤ 32) (hc : -32 ≤ c ∧ c ≤ 32) (j : Nat) : -32 ≤ wt kind a c j ∧ wt kind a c j ≤ 32 := by
  unfold wt
  split
  · split
    · exact ha
    · split
      · exact hc
      · omega
  · unfold tab; split <;> omega
theorem sel4_wt (kind : Nat) (a c : Int) (j : Nat) (hj : j < 4) : sel4 (wt kind a c 0) (wt kind a c 1) (wt kind a c 2) (wt kind a c 3) j = wt kind a c j := by
  match j, hj with
  | 0, _ => rfl
  | 1, _ => rfl
  | 2, _ => rfl
  | 3, _ => rfl
theorem sumG_congr {w w' x x' : Nat → Int} {i : Nat} : ∀ m, (∀ j, j < m → w j = w' j) → (∀ j, j < m → x (i - 1 - j) = x' (i - 1 - j)) → sumG w x i m = sumG w' x' i m
  | 0, _, _ => rfl
  | m + 1, h, hx => by simp only [sumG]; rw [sumG_congr m (fun j hj => h j (by omega)) (fun j hj => hx j (by omega)), h m (by omega), hx m (by omega)]

theorem guess_of (kind : Nat) (a c : Int) (x : Nat → Int) (n : Nat) (h2 : 2 ≤ kind) (h7 : kind ≤ 7) :
    sumG (sel4 (wt kind a c 0) (wt kind a c 1) (wt kind a c 2) (wt kind a c 3)) x n (ord kind) / 2 ^ scl kind = guessG kind a c x n := by
  unfold guessG scl
  have := ord_le kind h2 h7
  rw [sumG_congr (w' := wt kind a c) (x' := x) (ord kind) (fun j hj => sel4_wt kind a c j (by omega)) (fun _ _ => rfl)]
  split <;> rfl
theorem guessG_bd {kind : Nat} {a c : Int} {x : Nat → Int} {n : Nat} (h2 : 2 ≤ kind) (h7 : kind ≤ 7) (ha : -32 ≤ a ∧ a ≤ 32) (hc : -32 ≤ c ∧ c ≤ 32) (hx : ∀ j, j < n → -4096 ≤ x j ∧ x j ≤ 4096) (hn : 0 < n ∨ ord kind = 0) : -524288 ≤ guessG kind a c x n ∧ guessG kind a c x n ≤ 524288 := by
  have ho := ord_le kind h2 h7
  have hs : -524288 ≤ sumG (wt kind a c) x n (ord kind) ∧ sumG (wt kind a c) x n (ord kind) ≤ 524288 := by
    rcases hn with hn | hn
    · have := sumG_bd (w := wt kind a c) (x := x) (i := n) (wt_bd kind a c ha hc) hx hn (ord kind)
      omega
    · rw [hn]; simp [sumG]
  unfold guessG
  split <;> omega

/-- the guess, as the program makes it -/
theorem guessV_any (kind : Nat) (a c : Int) (g n cap : Nat) (x : Nat → Int) (w : World) (h2 : 2 ≤ kind) (h7 : kind ≤ 7) (ha : -32 ≤ a ∧ a ≤ 32) (hc : -32 ≤ c ∧ c ≤ 32) (hn : n ≤ 32) (hon : ord kind ≤ n) (hX : ∀ j, j < n → -4096 ≤ x j ∧ x j ≤ 4096)
    (hrow : w.rowIs g 3 cap (cutV n x)) (hcap : n ≤ cap) :
    Calls Tryd.prog 60 #[gV kind a c, .slice (some ⟨g, 0, none⟩) n cap] w fun e w' => e = .returned (.int .i64 (guessG kind a c x n)) ∧ Below w.heap.size w w' := by
  have hb := wt_bd kind a c ha hc
  refine (guess_any (ord kind) (scl kind) _ _ _ _ (some ⟨g, 0, none⟩) n cap x w (ord_le kind h2 h7) hon (by unfold scl; split <;> omega) hn (hb 0) (hb 1) (hb 2) (hb 3) hX (fun i hi => ⟨_, rfl, ?_⟩) (fun y hy _ => by cases hy; exact hrow.lt)).mono fun e w' h => ⟨?_, h.2⟩
  · have := hrow.cell (i := i) (by omega)
    unfold cutV cutI at this
    rw [if_pos hi] at this
    rw [← this]; cases i <;> simp [Addr.add]
  · rw [h.1, guess_of kind a c x n h2 h7]
end Go.Proofs.YtlncjgnomhpjnaaDoor
