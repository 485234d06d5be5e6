import Derived.Test.YtlncjgnomhpjnabGreatDoorQS1
import Derived.Test.YtlncjgnomhpjnabGreatDoorRows
import Derived.Lib.LaidTab
import GoSem.ClaimJoined
import Derived.WalkMore
/-
  Tables of tables among the laid variables.
-/
namespace Go.Proofs.YtlncjgnomhpjnabGreatDoor
open Go Go.Lib
set_option linter.unusedVariables false
theorem cells_of_tab2 {H : Type} {enc : TypeId × Value → H} {P : Program} {w : World} {base : Nat} {sp : Nat → Bool} {held : Bool} {fuel : Nat} {t e1 e : TypeId} {n m : Nat} {k : IntKind} {cs : List Value} {zss : List (List Int)} {p : List MemPlace}
    (ht : P.underlying t = some (.array n e1)) (h1 : P.underlying e1 = some (.array m e)) (he : P.underlying e = some (.int k)) (hce : P.cellsOf e = 1) (hc1 : P.cellsOf e1 = m) (hct : P.cellsOf t = n * m)
    (h : DataW.trod enc P w base sp held fuel t cs = some (.agg (zss.map (tabData k)), p)) :
    ∀ r zs, zss[r]? = some zs → ∀ c z, c < m → zs[c]? = some z → cs[r * m + c]? = some (Value.int k z) := by
  cases fuel with
  | zero => simp [DataW.trod] at h
  | succ fuel =>
    simp only [DataW.trod, ht, hc1, hct] at h
    split at h
    · rename_i hl
      obtain ⟨xs, hm, hx⟩ := Option.map_eq_some_iff.1 h
      have hxs : xs.map (·.1) = zss.map (tabData (H := H) k) := by
        have := congrArg Prod.fst hx
        simpa using this
      have hxl : xs.length = n := by simpa using mapM_length hm
      have hzl : zss.length = n := by
        have := congrArg List.length hxs
        simp at this
        omega
      intro r zs hr c z hc hz
      have hrn : r < n := by rw [← hzl]; exact (List.getElem?_eq_some_iff.1 hr).1
      obtain ⟨b, hb, hf⟩ := mapM_at hm r r (by simp [hrn])
      have h2 : (xs.map (·.1))[r]? = some b.1 := by simp [hb]
      rw [hxs, List.getElem?_map, hr] at h2
      have h3 : b.1 = tabData k zs := by simpa using h2.symm
      obtain ⟨b1, b2⟩ := b
      simp only at h3
      subst h3
      have h4 := cells_of_tab h1 he hce hc1 hf
      have h5 := congrArg (·[c]?) h4
      simp [List.getElem?_drop, hc, hz] at h5
      exact h5
    · cases h
def tabRows : List (List Int) := [[0, 0, 0, 0], [1, 0, 0, 0], [2, -1, 0, 0], [3, -3, 1, 0], [4, -6, 4, -1]]
theorem tabRows_at (r c : Nat) (hr : r < 5) (hc : c < 4) : ∃ zs, tabRows[r]? = some zs ∧ zs[c]? = some (tab r c) := by
  have h : ∀ r : Fin 5, ∀ c : Fin 4, (tabRows[r.val]?.bind fun zs => zs[c.val]?) = some (tab r.val c.val) := by decide
  have := h ⟨r, hr⟩ ⟨c, hc⟩
  exact Option.bind_eq_some_iff.1 this
theorem gFixed : Tryz.prog.globalNamed "reel/subframe.fixedWeights" = some 5 := by kernel_rfl
theorem gFixedType : (Tryz.prog.globals[5]?).map (·.type) = some 387 := by kernel_rfl
theorem cells54 : Tryz.prog.cellsOf 387 = 5 * 4 := by kernel_rfl
theorem cells4 : Tryz.prog.cellsOf 331 = 4 := by kernel_rfl
theorem cells1 : Tryz.prog.cellsOf 3 = 1 := by kernel_rfl
end Go.Proofs.YtlncjgnomhpjnabGreatDoor

/-
  readGuesser, readStill, readPlain.
-/
namespace Go.Proofs.YtlncjgnomhpjnabGreatDoor
open Go.RowKit Go.Deep
set_option linter.unusedVariables false
/-- the first n of a row -/
def cutI (n : Nat) (x : Nat → Int) (i : Nat) : Int := if i < n then x i else 0
def cutV (n : Nat) (x : Nat → Int) (i : Nat) : Value := .int .i64 (cutI n x i)
theorem cutV_step {w : World} {g : Nat} {t : TypeId} {cap k : Nat} {x : Nat → Int} {z : Int} (hz : z = x k) (h : w.rowIs g t cap (fun i => if i = k then .int .i64 z else cutV k x i)) : w.rowIs g t cap (cutV (k + 1) x) := by
  refine h.congr fun i _ => ?_
  unfold cutV cutI
  by_cases e : i = k
  · subst e; simp [hz]
  · by_cases e2 : i < k
    · simp [e, e2, Nat.lt_succ_of_lt e2]
    · have : ¬ i < k + 1 := by omega
      simp [e, e2, this]
end Go.Proofs.YtlncjgnomhpjnabGreatDoor

/-
  readPlain, readGuesser.
-/
namespace Go.Proofs.YtlncjgnomhpjnabGreatDoor
open Go.RowKit Go.Deep
set_option linter.unusedVariables false
theorem leaning_any (a c : Int) (w : World) :
    Calls Tryz.prog 321 #[.int .i64 a, .int .i64 c] w fun e w' => e = .returned (gV 7 a c) ∧ Below w.heap.size w w' := by
  go_enter Tryz.func321, Tryz.ntmps321
  go_wp2
  exact bodyPost_ret (v := gV 7 a c) (by simp [results, Tryz.results321, go_sem, gV, ord, wt, scl]) rfl ⟨rfl, ((Below.refl _ _).alloc (Nat.le_refl _) _)⟩
end Go.Proofs.YtlncjgnomhpjnabGreatDoor

/-
  readRests.
-/
namespace Go.Proofs.YtlncjgnomhpjnabGreatDoor
open Go.RowKit Go.Deep
set_option linter.unusedVariables false
/-- the guesser, boxed -/
def Gd (w : World) (G kind : Nat) (a c : Int) : Prop := w.heap[G]? = some (.cells #[.int .i64 (ord kind), .int .i64 (wt kind a c 0), .int .i64 (wt kind a c 1), .int .i64 (wt kind a c 2), .int .i64 (wt kind a c 3), .int .i64 (scl kind : Int)] 333 (0, 0))
theorem Gd.of {w w' : World} {G kind : Nat} {a c : Int} (h : Gd w G kind a c) (e : w'.heap[G]? = w.heap[G]?) : Gd w' G kind a c := e.trans h
theorem Gd.cells {w : World} {G kind : Nat} {a c : Int} (h : Gd w G kind a c) :
    w.cell? ⟨G, 0, none⟩ = some (.int .i64 (ord kind)) ∧ w.cell? ⟨G, 1, none⟩ = some (.int .i64 (wt kind a c 0)) ∧ w.cell? ⟨G, 2, none⟩ = some (.int .i64 (wt kind a c 1)) ∧ w.cell? ⟨G, 3, none⟩ = some (.int .i64 (wt kind a c 2)) ∧
      w.cell? ⟨G, 4, none⟩ = some (.int .i64 (wt kind a c 3)) ∧ w.cell? ⟨G, 5, none⟩ = some (.int .i64 (scl kind : Int)) := by
  simp [World.cell?, show w.heap[G]? = _ from h]
theorem ord_le (kind : Nat) (h2 : 2 ≤ kind) (h7 : kind ≤ 7) : ord kind ≤ 4 := by unfold ord; split <;> omega
theorem wt_bd (kind : Nat) (a c : Int) (ha : -32 ≤ a ∧ a ≤ 32) (hc : -32 ≤ c ∧ c ≤ 32) (j : Nat) : -32 ≤ wt kind a c j ∧ wt kind a c j ≤ 32 := by
  unfold wt
  split
  · split
    · exact ha
    · split
      · exact hc
      · omega
  · unfold tab; split <;> omega
theorem sel4_wt (kind : Nat) (a c : Int) (j : Nat) (hj : j < 4) : sel4 (wt kind a c 0) (wt kind a c 1) (wt kind a c 2) (wt kind a c 3) j = wt kind a c j := by
  match j, hj with
  | 0, _ => rfl
  | 1, _ => rfl
  | 2, _ => rfl
  | 3, _ => rfl
theorem sumG_congr {w w' x x' : Nat → Int} {i : Nat} : ∀ m, (∀ j, j < m → w j = w' j) → (∀ j, j < m → x (i - 1 - j) = x' (i - 1 - j)) → sumG w x i m = sumG w' x' i m
  | 0, _, _ => rfl
  | m + 1, h, hx => by simp only [sumG]; rw [sumG_congr m (fun j hj => h j (by omega)) (fun j hj => hx j (by omega)), h m (by omega), hx m (by omega)]
theorem guess_of (kind : Nat) (a c : Int) (x : Nat → Int) (n : Nat) (h2 : 2 ≤ kind) (h7 : kind ≤ 7) :
    sumG (sel4 (wt kind a c 0) (wt kind a c 1) (wt kind a c 2) (wt kind a c 3)) x n (ord kind) / 2 ^ scl kind = guessG kind a c x n := by
  unfold guessG scl
  have := ord_le kind h2 h7
  rw [sumG_congr (w' := wt kind a c) (x' := x) (ord kind) (fun j hj => sel4_wt kind a c j (by omega)) (fun _ _ => rfl)]
  split <;> rfl
theorem guessG_bd {kind : Nat} {a c : Int} {x : Nat → Int} {n : Nat} (h2 : 2 ≤ kind) (h7 : kind ≤ 7) (ha : -32 ≤ a ∧ a ≤ 32) (hc : -32 ≤ c ∧ c ≤ 32) (hx : ∀ j, j < n → -4096 ≤ x j ∧ x j ≤ 4096) (hn : 0 < n ∨ ord kind = 0) : -524288 ≤ guessG kind a c x n ∧ guessG kind a c x n ≤ 524288 := by
  have ho := ord_le kind h2 h7
  have hs : -524288 ≤ sumG (wt kind a c) x n (ord kind) ∧ sumG (wt kind a c) x n (ord kind) ≤ 524288 := by
    rcases hn with hn | hn
    · have := sumG_bd (w := wt kind a c) (x := x) (i := n) (wt_bd kind a c ha hc) hx hn (ord kind)
      omega
    · rw [hn]; simp [sumG]
  unfold guessG
  split <;> omega
end Go.Proofs.YtlncjgnomhpjnabGreatDoor

/-
  readRests, walked.
-/
namespace Go.Proofs.YtlncjgnomhpjnabGreatDoor
open Go.RowKit Go.Deep
set_option linter.unusedVariables false
theorem cut_facts {n o q : Nat} (h : cutB n o q = true) : n / 2 ^ q * 2 ^ q = n ∧ o < n / 2 ^ q := by
  simpa [cutB] using h
end Go.Proofs.YtlncjgnomhpjnabGreatDoor

