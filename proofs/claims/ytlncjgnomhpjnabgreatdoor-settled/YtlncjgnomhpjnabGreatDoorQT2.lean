import Derived.Test.YtlncjgnomhpjnabGreatDoorQT1
import Derived.Test.YtlncjgnomhpjnabGreatDoorRows
import Derived.Lib.LaidTab
import GoSem.ClaimJoined
/-
  Small parts of subframe.Read.
-/
namespace Go.Proofs.YtlncjgnomhpjnabGreatDoor
open Go.RowKit Go.Deep
set_option linter.unusedVariables false
theorem ret_bool {a b : Bool} (h : a = b) : Ending.returned (.bool a) = .returned (.bool b) := by rw [h]
/-- the call answers whether p is so -/
def Says (e : Ending) (p : Prop) : Prop := ∃ b : Bool, e = .returned (.bool b) ∧ (b = true ↔ p)
theorem Says.yes {p : Prop} (h : p) : Says (.returned (.bool true)) p := ⟨true, rfl, by simp [h]⟩
theorem Says.no {p : Prop} (h : ¬ p) : Says (.returned (.bool false)) p := ⟨false, rfl, by simp [h]⟩
theorem Says.true_of {e : Ending} {p : Prop} (h : Says e p) (hp : p) : e = .returned (.bool true) := by
  obtain ⟨b, rfl, hb⟩ := h
  rw [hb.2 hp]
theorem Says.false_of {e : Ending} {p : Prop} (h : Says e p) (hp : ¬ p) : e = .returned (.bool false) := by
  obtain ⟨b, rfl, hb⟩ := h
  cases b
  · rfl
  · exact absurd (hb.1 rfl) hp
theorem within_any (v lo hi : Int) (w : World) :
    Calls Tryz.prog 70 #[.int .i64 v, .int .i64 lo, .int .i64 hi] w fun e w' => e = .returned (.bool (within v lo hi)) ∧ w' = w := by
  by_cases h : lo ≤ v
  · go_enter Tryz.func70, Tryz.ntmps70
    go_wp2
    go_ret
    exact ⟨ret_bool (by simp [within, h]), rfl⟩
  · have hd : decide (lo ≤ v) = false := decide_eq_false h
    go_enter Tryz.func70, Tryz.ntmps70
    go_wp2
    go_ret
    exact ⟨ret_bool (by simp [within]; omega), rfl⟩
set_option maxHeartbeats 400000 in
theorem isSample_any (d : Nat) (v : Int) (w : World) (h1 : 1 ≤ d) (h2 : d ≤ 13) :
    Calls Tryz.prog 246 #[.int .i64 d, .int .i64 v] w fun e w' => e = .returned (.bool (fitsB d v)) ∧ w' = w := by
  have hp1 := ipow_pos (d - 1)
  have hp2 := ipow_le (d - 1) 4096 (Nat.le_trans (Nat.pow_le_pow_right (by omega) (by omega : d - 1 ≤ 12)) (by decide))
  go_enter Tryz.func246, Tryz.ntmps246
  go_wp2_with (go_at_call 70; refine (within_any _ _ _ _).mono ?_; rintro e w' ⟨rfl, rfl⟩)
  go_ret
  exact ⟨rfl, rfl⟩
theorem orderOf_any (kind : Nat) (w : World) (h : 2 ≤ kind) (h7 : kind ≤ 7) :
    Calls Tryz.prog 319 #[.int .i64 kind] w fun e w' => e = .returned (.int .i64 (ord kind)) ∧ w' = w := by
  have HO : Hid (ord kind = if kind = 7 then 2 else kind - 2) := rfl
  by_cases e : kind = 7
  · have h1 : ((kind : Int) == 7) = true := by simp; omega
    go_enter Tryz.func319, Tryz.ntmps319
    go_wp2
    go_ret
    exact ⟨ret_int (by rw [HO.out, if_pos e]; rfl), rfl⟩
  · have h1 : ((kind : Int) == 7) = false := by simp; omega
    go_enter Tryz.func319, Tryz.ntmps319
    go_wp2
    go_ret
    exact ⟨ret_int (by rw [HO.out, if_neg e]; omega), rfl⟩
/-- whether n places may be cut so -/
def cutB (n o c : Nat) : Bool := decide (n / 2 ^ c * 2 ^ c = n) && decide (o < n / 2 ^ c)
set_option maxHeartbeats 400000 in
theorem partSize_any (n o c : Nat) (w : World) (hn : n ≤ 32) (ho : o ≤ 4) (hc : c ≤ 3) :
    Calls Tryz.prog 339 #[.int .i64 n, .int .i64 o, .int .i64 c] w fun e w' => e = .returned (.tuple #[.int .i64 ((n / 2 ^ c : Nat) : Int), .bool (cutB n o c)]) ∧ w' = w := by
  have HC : Hid (∀ c, cutB n o c = (decide (n / 2 ^ c * 2 ^ c = n) && decide (o < n / 2 ^ c))) := fun _ => rfl
  have e2 : ((n / 2 ^ c : Nat) : Int) = (n : Int) / 2 ^ c := by simp
  have hd1 : 0 ≤ (n : Int) / 2 ^ c := by rw [← e2]; exact Int.natCast_nonneg _
  have hd2 : (n : Int) / 2 ^ c ≤ 32 := by rw [← e2]; have := Nat.div_le_self n (2 ^ c); omega
  have hp1 := ipow_pos c
  have hp2 := ipow_le c 8 (Nat.le_trans (Nat.pow_le_pow_right (by omega) (by omega : c ≤ 3)) (by decide))
  have hm1 : 0 ≤ (n : Int) / 2 ^ c * 2 ^ c := Int.mul_nonneg hd1 (by omega)
  have hm2 : (n : Int) / 2 ^ c * 2 ^ c ≤ 256 := by
    have : (n : Int) / 2 ^ c * 2 ^ c ≤ 32 * 8 := Int.mul_le_mul hd2 hp2 (by omega) (by omega)
    omega
  have e3 : ((n / 2 ^ c * 2 ^ c : Nat) : Int) = (n : Int) / 2 ^ c * 2 ^ c := by simp
  have HE2 : Hid (((n / 2 ^ c : Nat) : Int) = (n : Int) / 2 ^ c) := e2
  by_cases h : n / 2 ^ c * 2 ^ c = n
  · have ht : ((n : Int) / 2 ^ c * 2 ^ c == (n : Int)) = true := by rw [← e3]; simp; omega
    have HH : Hid (n / 2 ^ c * 2 ^ c = n) := h
    clear h e2 e3
    go_enter Tryz.func339, Tryz.ntmps339
    go_wp2
    go_ret2
    refine ⟨?_, rfl⟩
    rw [HC.out, HE2.out]
    have h1 : decide (n / 2 ^ c * 2 ^ c = n) = true := decide_eq_true HH.out
    have h2 : decide (o < n / 2 ^ c) = decide ((o : Int) < (n : Int) / 2 ^ c) := by rw [decide_eq_decide, ← HE2.out]; omega
    rw [h1, h2]; rfl
  · have ht : ((n : Int) / 2 ^ c * 2 ^ c == (n : Int)) = false := by rw [← e3]; simp; omega
    have HH : Hid (¬ n / 2 ^ c * 2 ^ c = n) := h
    clear h e2 e3
    go_enter Tryz.func339, Tryz.ntmps339
    go_wp2
    go_ret2
    refine ⟨?_, rfl⟩
    rw [HC.out, HE2.out]
    have h1 : decide (n / 2 ^ c * 2 ^ c = n) = false := decide_eq_false HH.out
    rw [h1]; rfl
/-- the table of weights, as it is laid -/
def TabAt (w : World) (g : Nat) : Prop := ∀ r c, r < 5 → c < 4 → w.cell? ⟨g, 4 * r + c, none⟩ = some (.int .i64 (tab r c))
/-- the guesser of a kind -/
def gV (kind : Nat) (a c : Int) : Value := .agg #[.int .i64 (ord kind), .int .i64 (wt kind a c 0), .int .i64 (wt kind a c 1), .int .i64 (wt kind a c 2), .int .i64 (wt kind a c 3), .int .i64 (scl kind : Int)]
set_option maxHeartbeats 1000000 in
theorem fixed_any (kind : Nat) (a c : Int) (w : World) (h2 : 2 ≤ kind) (h6 : kind ≤ 6) (hT : TabAt w 5) (hg : 5 < w.heap.size) :
    Calls Tryz.prog 322 #[.int .i64 kind] w fun e w' => e = .returned (gV kind a c) ∧ Below w.heap.size w w' := by
  have fin : ∀ o v, Below w.heap.size w ((w.alloc o).setCell ⟨w.heap.size, 0, none⟩ v) := fun o v => ((Below.refl _ _).alloc (Nat.le_refl _) _).setCell (Nat.le_refl _) _
  have hal : ∀ o j, (w.alloc o).cell? ⟨5, j, none⟩ = w.cell? ⟨5, j, none⟩ := fun o j => World.cell?_alloc_lt w o ⟨5, j, none⟩ hg
  obtain rfl | rfl | rfl | rfl | rfl : kind = 2 ∨ kind = 3 ∨ kind = 4 ∨ kind = 5 ∨ kind = 6 := by omega
  · have t0 : w.cell? ⟨5, 0, none⟩ = some (.int .i64 0) := hT 0 0 (by omega) (by omega)
    have t1 : w.cell? ⟨5, 1, none⟩ = some (.int .i64 0) := hT 0 1 (by omega) (by omega)
    have t2 : w.cell? ⟨5, 2, none⟩ = some (.int .i64 0) := hT 0 2 (by omega) (by omega)
    have t3 : w.cell? ⟨5, 3, none⟩ = some (.int .i64 0) := hT 0 3 (by omega) (by omega)
    clear hT
    go_enter Tryz.func322, Tryz.ntmps322
    go_wp2
    refine bodyPost_ret (v := gV 2 a c) (by simp [results, Tryz.results322, go_sem, gV, ord, wt, tab, scl]) rfl ⟨rfl, ?_⟩
    exact ((Below.refl _ _).alloc (Nat.le_refl _) _)
  · have t0 : w.cell? ⟨5, 4, none⟩ = some (.int .i64 1) := hT 1 0 (by omega) (by omega)
    have t1 : w.cell? ⟨5, 5, none⟩ = some (.int .i64 0) := hT 1 1 (by omega) (by omega)
    have t2 : w.cell? ⟨5, 6, none⟩ = some (.int .i64 0) := hT 1 2 (by omega) (by omega)
    have t3 : w.cell? ⟨5, 7, none⟩ = some (.int .i64 0) := hT 1 3 (by omega) (by omega)
    clear hT
    go_enter Tryz.func322, Tryz.ntmps322
    go_wp2
    refine bodyPost_ret (v := gV 3 a c) (by simp [results, Tryz.results322, go_sem, gV, ord, wt, tab, scl]) rfl ⟨rfl, ?_⟩
    exact ((Below.refl _ _).alloc (Nat.le_refl _) _)
  · have t0 : w.cell? ⟨5, 8, none⟩ = some (.int .i64 2) := hT 2 0 (by omega) (by omega)
    have t1 : w.cell? ⟨5, 9, none⟩ = some (.int .i64 (-1)) := hT 2 1 (by omega) (by omega)
    have t2 : w.cell? ⟨5, 10, none⟩ = some (.int .i64 0) := hT 2 2 (by omega) (by omega)
    have t3 : w.cell? ⟨5, 11, none⟩ = some (.int .i64 0) := hT 2 3 (by omega) (by omega)
    clear hT
    go_enter Tryz.func322, Tryz.ntmps322
    go_wp2
    refine bodyPost_ret (v := gV 4 a c) (by simp [results, Tryz.results322, go_sem, gV, ord, wt, tab, scl]) rfl ⟨rfl, ?_⟩
    exact ((Below.refl _ _).alloc (Nat.le_refl _) _)
  · have t0 : w.cell? ⟨5, 12, none⟩ = some (.int .i64 3) := hT 3 0 (by omega) (by omega)
    have t1 : w.cell? ⟨5, 13, none⟩ = some (.int .i64 (-3)) := hT 3 1 (by omega) (by omega)
    have t2 : w.cell? ⟨5, 14, none⟩ = some (.int .i64 1) := hT 3 2 (by omega) (by omega)
    have t3 : w.cell? ⟨5, 15, none⟩ = some (.int .i64 0) := hT 3 3 (by omega) (by omega)
    clear hT
    go_enter Tryz.func322, Tryz.ntmps322
    go_wp2
    refine bodyPost_ret (v := gV 5 a c) (by simp [results, Tryz.results322, go_sem, gV, ord, wt, tab, scl]) rfl ⟨rfl, ?_⟩
    exact ((Below.refl _ _).alloc (Nat.le_refl _) _)
  · have t0 : w.cell? ⟨5, 16, none⟩ = some (.int .i64 4) := hT 4 0 (by omega) (by omega)
    have t1 : w.cell? ⟨5, 17, none⟩ = some (.int .i64 (-6)) := hT 4 1 (by omega) (by omega)
    have t2 : w.cell? ⟨5, 18, none⟩ = some (.int .i64 4) := hT 4 2 (by omega) (by omega)
    have t3 : w.cell? ⟨5, 19, none⟩ = some (.int .i64 (-1)) := hT 4 3 (by omega) (by omega)
    clear hT
    go_enter Tryz.func322, Tryz.ntmps322
    go_wp2
    refine bodyPost_ret (v := gV 6 a c) (by simp [results, Tryz.results322, go_sem, gV, ord, wt, tab, scl]) rfl ⟨rfl, ?_⟩
    exact ((Below.refl _ _).alloc (Nat.le_refl _) _)
end Go.Proofs.YtlncjgnomhpjnabGreatDoor

/-
  Tables of tables among the laid variables.
-/
namespace Go.Proofs.YtlncjgnomhpjnabGreatDoor
open Go Go.Lib
set_option linter.unusedVariables false
theorem cells_of_tab2 {H : Type} {enc : TypeId × Value → H} {P : Program} {w : World} {base : Nat} {sp : Nat → Bool} {held : Bool} {fuel : Nat} {t e1 e : TypeId} {n m : Nat} {k : IntKind} {cs : List Value} {zss : List (List Int)} {p : List MemPlace}
    (ht : P.underlying t = some (.array n e1)) (h1 : P.underlying e1 = some (.array m e)) (he : P.underlying e = some (.int k)) (hce : P.cellsOf e = 1) (hc1 : P.cellsOf e1 = m) (hct : P.cellsOf t = n * m)
    (h : DataW.trod enc P w base sp held fuel t cs = some (.agg (zss.map (tabData k)), p)) :
    ∀ r zs, zss[r]? = some zs → ∀ c z, c < m → zs[c]? = some z → cs[r * m + c]? = some (Value.int k z) := by
  cases fuel with
  | zero => simp [DataW.trod] at h
  | succ fuel =>
    simp only [DataW.trod, ht, hc1, hct] at h
    split at h
    · rename_i hl
      obtain ⟨xs, hm, hx⟩ := Option.map_eq_some_iff.1 h
      have hxs : xs.map (·.1) = zss.map (tabData (H := H) k) := by
        have := congrArg Prod.fst hx
        simpa using this
      have hxl : xs.length = n := by simpa using mapM_length hm
      have hzl : zss.length = n := by
        have := congrArg List.length hxs
        simp at this
        omega
      intro r zs hr c z hc hz
      have hrn : r < n := by rw [← hzl]; exact (List.getElem?_eq_some_iff.1 hr).1
      obtain ⟨b, hb, hf⟩ := mapM_at hm r r (by simp [hrn])
      have h2 : (xs.map (·.1))[r]? = some b.1 := by simp [hb]
      rw [hxs, List.getElem?_map, hr] at h2
      have h3 : b.1 = tabData k zs := by simpa using h2.symm
      obtain ⟨b1, b2⟩ := b
      simp only at h3
      subst h3
      have h4 := cells_of_tab h1 he hce hc1 hf
      have h5 := congrArg (·[c]?) h4
      simp [List.getElem?_drop, hc, hz] at h5
      exact h5
    · cases h
def tabRows : List (List Int) := [[0, 0, 0, 0], [1, 0, 0, 0], [2, -1, 0, 0], [3, -3, 1, 0], [4, -6, 4, -1]]
theorem tabRows_at (r c : Nat) (hr : r < 5) (hc : c < 4) : ∃ zs, tabRows[r]? = some zs ∧ zs[c]? = some (tab r c) := by
  have h : ∀ r : Fin 5, ∀ c : Fin 4, (tabRows[r.val]?.bind fun zs => zs[c.val]?) = some (tab r.val c.val) := by decide
  have := h ⟨r, hr⟩ ⟨c, hc⟩
  exact Option.bind_eq_some_iff.1 this
theorem gFixed : Tryz.prog.globalNamed "reel/subframe.fixedWeights" = some 5 := by kernel_rfl
theorem gFixedType : (Tryz.prog.globals[5]?).map (·.type) = some 387 := by kernel_rfl
theorem cells54 : Tryz.prog.cellsOf 387 = 5 * 4 := by kernel_rfl
theorem cells4 : Tryz.prog.cellsOf 331 = 4 := by kernel_rfl
theorem cells1 : Tryz.prog.cellsOf 3 = 1 := by kernel_rfl
end Go.Proofs.YtlncjgnomhpjnabGreatDoor

/-
  readGuesser, readStill, readPlain.
-/
namespace Go.Proofs.YtlncjgnomhpjnabGreatDoor
open Go.RowKit Go.Deep
set_option linter.unusedVariables false
/-- the first n of a row -/
def cutI (n : Nat) (x : Nat → Int) (i : Nat) : Int := if i < n then x i else 0
def cutV (n : Nat) (x : Nat → Int) (i : Nat) : Value := .int .i64 (cutI n x i)
theorem cutV_step {w : World} {g : Nat} {t : TypeId} {cap k : Nat} {x : Nat → Int} {z : Int} (hz : z = x k) (h : w.rowIs g t cap (fun i => if i = k then .int .i64 z else cutV k x i)) : w.rowIs g t cap (cutV (k + 1) x) := by
  refine h.congr fun i _ => ?_
  unfold cutV cutI
  by_cases e : i = k
  · subst e; simp [hz]
  · by_cases e2 : i < k
    · simp [e, e2, Nat.lt_succ_of_lt e2]
    · have : ¬ i < k + 1 := by omega
      simp [e, e2, this]
end Go.Proofs.YtlncjgnomhpjnabGreatDoor

/-
  readPlain, readGuesser.
-/
namespace Go.Proofs.YtlncjgnomhpjnabGreatDoor
open Go.RowKit Go.Deep
set_option linter.unusedVariables false
theorem leaning_any (a c : Int) (w : World) :
    Calls Tryz.prog 321 #[.int .i64 a, .int .i64 c] w fun e w' => e = .returned (gV 7 a c) ∧ Below w.heap.size w w' := by
  go_enter Tryz.func321, Tryz.ntmps321
  go_wp2
  exact bodyPost_ret (v := gV 7 a c) (by simp [results, Tryz.results321, go_sem, gV, ord, wt, scl]) rfl ⟨rfl, ((Below.refl _ _).alloc (Nat.le_refl _) _)⟩
end Go.Proofs.YtlncjgnomhpjnabGreatDoor

/-
  readRests.
-/
namespace Go.Proofs.YtlncjgnomhpjnabGreatDoor
open Go.RowKit Go.Deep
set_option linter.unusedVariables false
/-- the guesser, boxed -/
def Gd (w : World) (G kind : Nat) (a c : Int) : Prop := w.heap[G]? = some (.cells #[.int .i64 (ord kind), .int .i64 (wt kind a c 0), .int .i64 (wt kind a c 1), .int .i64 (wt kind a c 2), .int .i64 (wt kind a c 3), .int .i64 (scl kind : Int)] 333 (0, 0))
theorem Gd.of {w w' : World} {G kind : Nat} {a c : Int} (h : Gd w G kind a c) (e : w'.heap[G]? = w.heap[G]?) : Gd w' G kind a c := e.trans h
theorem Gd.cells {w : World} {G kind : Nat} {a c : Int} (h : Gd w G kind a c) :
    w.cell? ⟨G, 0, none⟩ = some (.int .i64 (ord kind)) ∧ w.cell? ⟨G, 1, none⟩ = some (.int .i64 (wt kind a c 0)) ∧ w.cell? ⟨G, 2, none⟩ = some (.int .i64 (wt kind a c 1)) ∧ w.cell? ⟨G, 3, none⟩ = some (.int .i64 (wt kind a c 2)) ∧
      w.cell? ⟨G, 4, none⟩ = some (.int .i64 (wt kind a c 3)) ∧ w.cell? ⟨G, 5, none⟩ = some (.int .i64 (scl kind : Int)) := by
  simp [World.cell?, show w.heap[G]? = _ from h]
theorem ord_le (kind : Nat) (h2 : 2 ≤ kind) (h7 : kind ≤ 7) : ord kind ≤ 4 := by unfold ord; split <;> omega
theorem wt_bd (kind : Nat) (a c : Int) (ha : -32 ≤ a ∧ a ≤ 32) (hc : -32 ≤ c ∧ c ≤ 32) (j : Nat) : -32 ≤ wt kind a c j ∧ wt kind a c j ≤ 32 := by
  unfold wt
  split
  · split
    · exact ha
    · split
      · exact hc
      · omega
  · unfold tab; split <;> omega
theorem sel4_wt (kind : Nat) (a c : Int) (j : Nat) (hj : j < 4) : sel4 (wt kind a c 0) (wt kind a c 1) (wt kind a c 2) (wt kind a c 3) j = wt kind a c j := by
  match j, hj with
  | 0, _ => rfl
  | 1, _ => rfl
  | 2, _ => rfl
  | 3, _ => rfl
theorem sumG_congr {w w' x x' : Nat → Int} {i : Nat} : ∀ m, (∀ j, j < m → w j = w' j) → (∀ j, j < m → x (i - 1 - j) = x' (i - 1 - j)) → sumG w x i m = sumG w' x' i m
  | 0, _, _ => rfl
  | m + 1, h, hx => by simp only [sumG]; rw [sumG_congr m (fun j hj => h j (by omega)) (fun j hj => hx j (by omega)), h m (by omega), hx m (by omega)]
theorem guess_of (kind : Nat) (a c : Int) (x : Nat → Int) (n : Nat) (h2 : 2 ≤ kind) (h7 : kind ≤ 7) :
    sumG (sel4 (wt kind a c 0) (wt kind a c 1) (wt kind a c 2) (wt kind a c 3)) x n (ord kind) / 2 ^ scl kind = guessG kind a c x n := by
  unfold guessG scl
  have := ord_le kind h2 h7
  rw [sumG_congr (w' := wt kind a c) (x' := x) (ord kind) (fun j hj => sel4_wt kind a c j (by omega)) (fun _ _ => rfl)]
  split <;> rfl
theorem guessG_bd {kind : Nat} {a c : Int} {x : Nat → Int} {n : Nat} (h2 : 2 ≤ kind) (h7 : kind ≤ 7) (ha : -32 ≤ a ∧ a ≤ 32) (hc : -32 ≤ c ∧ c ≤ 32) (hx : ∀ j, j < n → -4096 ≤ x j ∧ x j ≤ 4096) (hn : 0 < n ∨ ord kind = 0) : -524288 ≤ guessG kind a c x n ∧ guessG kind a c x n ≤ 524288 := by
  have ho := ord_le kind h2 h7
  have hs : -524288 ≤ sumG (wt kind a c) x n (ord kind) ∧ sumG (wt kind a c) x n (ord kind) ≤ 524288 := by
    rcases hn with hn | hn
    · have := sumG_bd (w := wt kind a c) (x := x) (i := n) (wt_bd kind a c ha hc) hx hn (ord kind)
      omega
    · rw [hn]; simp [sumG]
  unfold guessG
  split <;> omega
end Go.Proofs.YtlncjgnomhpjnabGreatDoor

