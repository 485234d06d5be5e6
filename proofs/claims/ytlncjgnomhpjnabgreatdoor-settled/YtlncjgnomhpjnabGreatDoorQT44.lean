import Derived.Test.YtlncjgnomhpjnabGreatDoorQT43
/-
  A line of reel's: Able, Step, Cancel, Look, Bytes.
-/
namespace Go.Proofs.YtlncjgnomhpjnabGreatDoor
open Go.RowKit Go.Deep
set_option linter.unusedVariables false
/-- A line of reel's in memory: its pointer's block is one of its own. -/
structure RLine (p : Lpar) (a : Lad) (x : Lsn) (F : Nat → Prop) (l : Nat) (s : Lst) (w : World) : Prop where
  line : LineIs p a x F s w
  inv : LInv p s
  ptr : Bx w l 94 #[ptrV a.lb]
  far : ¬ F l
theorem RLine.keep {p : Lpar} {a : Lad} {x : Lsn} {F : Nat → Prop} {l : Nat} {s : Lst} {w u : World} (h : RLine p a x F l s w) (hu : Below w.heap.size w u) : RLine p a x F l s u :=
  ⟨h.line.keep (fun k hk => hu.block k (h.line.lt k hk)) hu.size, h.inv, h.ptr.below hu, h.far⟩
theorem RLine.able_ne {p : Lpar} {a : Lad} {x : Lsn} {F : Nat → Prop} {l : Nat} {s : Lst} {w : World} (h : RLine p a x F l s w) (h2 : s.e2 = false) : s.able p ≠ [] := by
  obtain ⟨t, c, ht, hc⟩ := h.inv.alive h2
  intro e
  have : t ∈ s.able p := by
    unfold Lst.able
    rw [List.mem_filter]
    exact ⟨List.mem_range.2 ht, by rw [hc]; rfl⟩
  rw [e] at this
  cases this
theorem able_over {p : Lpar} {s : Lst} (h : LInv p s) (h2 : s.e2 = true) : s.able p = [] := by
  obtain ⟨a1, a2, a3, a4, a5⟩ := h.e2 h2
  obtain ⟨b1, b2⟩ := h.e1 a3
  unfold Lst.able
  rw [List.filter_eq_nil_iff]
  intro t ht
  match t, ht with
  | 0, _ => simp [Lst.next, b1]
  | 1, _ => simp [Lst.next, a3]
  | 2, _ => simp [Lst.next, h2]
  | j + 3, ht => simp [Lst.next, shut_all a1 j (by have := List.mem_range.1 ht; omega)]
theorem rAble_any {p : Lpar} {a : Lad} {x : Lsn} {F : Nat → Prop} {l : Nat} {s : Lst} {w : World} (h : RLine p a x F l s w) :
    Calls Tryz.prog 42 #[ptrV l] w fun e w' => ∃ v, e = .returned v ∧ w'.ownsRow w.heap.size 3 1 v (s.able p).length ((s.able p).map fun (k : Nat) => .int .i64 (k : Int)) ∧ Below w.heap.size w w' := by
  have HA := Hid.mk' (able_any h.line h.inv)
  have y0 := h.ptr.cell 0
  simp [ptrV] at y0
  clear h
  unfold ptrV at *
  go_enter Tryz.func42, Tryz.ntmps42
  go_wp2_with (go_at_call 78; refine HA.out.mono ?_; rintro e u ⟨v, rfl, hv⟩; have HV := Hid.mk' hv; clear hv HA)
  go_ret
  exact ⟨v, rfl, HV.out⟩
theorem rBytes_any {p : Lpar} {a : Lad} {x : Lsn} {F : Nat → Prop} {l : Nat} {s : Lst} {w : World} (h : RLine p a x F l s w) :
    Calls Tryz.prog 25 #[ptrV l] w fun e w' => e = .returned (.string (bs (hdT x s.hd ++ frsT x.d x.ch x.G x.S x.B s.wrote))) ∧ Below w.heap.size w w' := by
  have h1 := h.inv.wrote
  have h2 := h.inv.given
  have h3 := h.line.NB
  have HA := Hid.mk' (bytes_line h.line (by omega))
  have y0 := h.ptr.cell 0
  simp [ptrV] at y0
  clear h
  generalize bs (hdT x s.hd ++ frsT x.d x.ch x.G x.S x.B s.wrote) = tx at *
  unfold ptrV at *
  go_enter Tryz.func25, Tryz.ntmps25
  go_wp2_with (go_at_call 53; refine HA.out.mono ?_; rintro e u ⟨rfl, m, rfl⟩; clear HA)
  go_ret
  exact ⟨rfl, bel_drewN (Below.refl _ _) m⟩
theorem res_rview (tmps : Array Value) (R : Nat) (cs : Array Value) (W : World) (h : Bx W R 64 cs) (hs : cs.size = 11) (h2 : tmps.getD 2 undef = .pointer (some ⟨R, 0, none⟩)) :
    (results Tryz.f24 tmps).run Tryz.prog W = .ok (.agg cs) W := by
  have hl := run_loadVar_row (P := Tryz.prog) W R 64 64 cs (0, 0) _ h Tryz.underlying64 rfl (by rw [hs]; exact infoView)
  rw [Array.getD_eq_getD_getElem?] at h2
  simp [results, Tryz.results24, asAddr, h2, hl]
theorem Seen.mono {p : Lpar} {s : Lst} {base base' : Nat} {v1 v2 v3 : Value} {w : World} (h : Seen p s base v1 v2 v3 w) (hb : base' ≤ base) : Seen p s base' v1 v2 v3 w := ⟨own_base h.held hb, own_base h.shelf hb, own_base h.ended hb⟩
theorem Seen.keep {p : Lpar} {s : Lst} {base : Nat} {v1 v2 v3 : Value} {w u : World} {S : Nat → Prop} (h : Seen p s base v1 v2 v3 w) (he : Edit S w u) (hS : ∀ k, S k → k < base) : Seen p s base v1 v2 v3 u :=
  ⟨shOwn h.held he fun g hg hs => absurd (own_low h.held g hg) (by have := hS g hs; omega), shOwn h.shelf he fun g hg hs => absurd (own_low h.shelf g hg) (by have := hS g hs; omega), shOwn h.ended he fun g hg hs => absurd (own_low h.ended g hg) (by have := hS g hs; omega)⟩
set_option maxRecDepth 100000 in
theorem rLook2_any {p : Lpar} {a : Lad} {x : Lsn} {F : Nat → Prop} {l : Nat} {s : Lst} {w : World} (h : RLine p a x F l s w) :
    Calls Tryz.prog 24 #[ptrV l] w fun e w' => ∃ v1 v2 v3, e = .returned (.agg (viewC s v1 v2 v3)) ∧ Seen p s w.heap.size v1 v2 v3 w' ∧ Below w.heap.size w w' ∧ Apt v1 v2 v3 := by
  have hb0 : Below w.heap.size w (w.alloc (.cells #[.int .i64 0, .int .i64 0, .int .i64 0, .int .i64 0, .int .i64 0, .int .i64 0, .int .i64 0, .int .i64 0, .slice none 0 0, .slice none 0 0, .slice none 0 0] 64)) := (Below.refl _ _).alloc (Nat.le_refl _) _
  have HA := Hid.mk' (look2_any (h.keep hb0).line h.inv)
  have y0 := (h.keep hb0).ptr.cell 0
  simp [ptrV] at y0
  have HX := Hid.mk' (Bx.new w #[.int .i64 0, .int .i64 0, .int .i64 0, .int .i64 0, .int .i64 0, .int .i64 0, .int .i64 0, .int .i64 0, .slice none 0 0, .slice none 0 0, .slice none 0 0] 64)
  have HF : Hid (∀ u v1 v2 v3, Seen p s (w.alloc (.cells #[.int .i64 0, .int .i64 0, .int .i64 0, .int .i64 0, .int .i64 0, .int .i64 0, .int .i64 0, .int .i64 0, .slice none 0 0, .slice none 0 0, .slice none 0 0] 64)).heap.size v1 v2 v3 u → Below (w.alloc (.cells #[.int .i64 0, .int .i64 0, .int .i64 0, .int .i64 0, .int .i64 0, .int .i64 0, .int .i64 0, .int .i64 0, .slice none 0 0, .slice none 0 0, .slice none 0 0] 64)).heap.size (w.alloc (.cells #[.int .i64 0, .int .i64 0, .int .i64 0, .int .i64 0, .int .i64 0, .int .i64 0, .int .i64 0, .int .i64 0, .slice none 0 0, .slice none 0 0, .slice none 0 0] 64)) u → Bx u w.heap.size 64 #[.int .i64 0, .int .i64 0, .int .i64 0, .int .i64 0, .int .i64 0, .int .i64 0, .int .i64 0, .int .i64 0, .slice none 0 0, .slice none 0 0, .slice none 0 0] ∧ Seen p s w.heap.size v1 v2 v3 (u.setRow w.heap.size (viewC s v1 v2 v3)) ∧ Below w.heap.size w (u.setRow w.heap.size (viewC s v1 v2 v3))) := fun u v1 v2 v3 hs hb => by
    have er : Edit (· = w.heap.size) u (u.setRow w.heap.size (viewC s v1 v2 v3)) := ⟨rfl, rfl, rfl, by simp, fun k hk hS => setRow_other _ _ _ _ hS⟩
    have h5 := hb0.trans (hb.mono (by simp))
    exact ⟨HX.out.below hb, (hs.keep er fun k hk => by rw [hk]; simp).mono (by simp), ((Edit.of (S := fun _ => False) h5).row (g := w.heap.size) (Nat.le_refl _) (viewC s v1 v2 v3)).below (Nat.le_refl _) (fun k hk => hk.elim)⟩
  clear h hb0
  unfold ptrV at *
  go_enter Tryz.func24, Tryz.ntmps24
  go_wp2_with (first
    | (go_at_call 52; refine HA.out.mono ?_; rintro e u ⟨v1, v2, v3, rfl, hs, hb, ha⟩; have HAP := Hid.mk' ha; have HZ := Hid.mk' (HF.out u v1 v2 v3 hs hb); obtain ⟨A1, k1, rfl, -⟩ := own_open hs.held; obtain ⟨A2, k2, rfl, -⟩ := own_open hs.shelf; obtain ⟨A3, k3, rfl, -⟩ := own_open hs.ended; clear hs hb ha HA HF)
    | (refine wpList_storeRow rfl _ _ 64 rfl w.heap.size 64 _ _ rfl rfl HZ.out.1 infoView rfl rfl ?_))
  exact bodyPost_ret (res_rview _ w.heap.size _ _ (HZ.out.1.row _) rfl rfl) rfl ⟨_, _, _, rfl, HZ.out.2.1, HZ.out.2.2, HAP.out⟩
theorem rLook_any {p : Lpar} {a : Lad} {x : Lsn} {F : Nat → Prop} {l : Nat} {s : Lst} {w : World} (h : RLine p a x F l s w) :
    Calls Tryz.prog 24 #[ptrV l] w fun e w' => ∃ v1 v2 v3, e = .returned (.agg (viewC s v1 v2 v3)) ∧ Seen p s w.heap.size v1 v2 v3 w' ∧ Below w.heap.size w w' :=
  (rLook2_any h).mono fun e w' ⟨v1, v2, v3, h1, h2, h3, _⟩ => ⟨v1, v2, v3, h1, h2, h3⟩
set_option maxRecDepth 100000 in
theorem rStep_any {p : Lpar} {a : Lad} {x : Lsn} {F : Nat → Prop} {l : Nat} {s : Lst} {w : World} (h : RLine p a x F l s w) (hT : TabsF w) (k : Nat) (hk : (k : Int) ≤ 9223372036854775807) (h2 : s.e2 = false) :
    Calls Tryz.prog 51 #[ptrV l, .int .i64 k] w fun e w' => e = .returned (.tuple #[.int .i64 (pickT p s k : Nat), .int .i64 0]) ∧ ∃ c a' F', s.next p (pickT p s k) = some c ∧ a'.b1 = a.b1 ∧ Own F F' w ∧ RLine p a' x F' l (s.act p c) w' ∧ Edit F w w' := by
  have HO := Hid.mk' (over_any h.line h.inv)
  rw [h2] at HO
  have hne := h.able_ne h2
  obtain ⟨-, -, ht, -⟩ := pickT_ok (k := k) hne
  have HS : Hid (∀ u, Below w.heap.size w u → u.cell? ⟨l, 0, none⟩ = some (.pointer (some ⟨a.lb, 0, none⟩)) ∧ Calls Tryz.prog 105 #[ptrV a.lb, .int .i64 k] u fun e w' => e = .returned (.int .i64 (pickT p s k : Nat)) ∧ ∃ c a' F', s.next p (pickT p s k) = some c ∧ a'.b1 = a.b1 ∧ Own F F' w ∧ RLine p a' x F' l (s.act p c) w' ∧ Edit F w w') := fun u hu => by
    refine ⟨(h.keep hu).ptr.cell 0, (step_any (h.keep hu).line h.inv (hT.below hu) k hk hne).mono ?_⟩
    rintro e w' ⟨rfl, c, hc, a', F', e1, e2, hO, hL, hE⟩
    have hlu : l < u.heap.size := (h.keep hu).ptr.lt
    refine ⟨rfl, c, a', F', hc, e2, ⟨hO.1, fun q hq => (hO.2 q hq).imp id fun hq => Nat.le_trans hu.size hq⟩, ⟨hL, h.inv.step ht hc, ?_, fun hf => ?_⟩, (Edit.of hu).trans hE⟩
    · have := (h.keep hu).ptr.edit hE h.far
      rw [← e1] at this
      exact this
    · rcases hO.2 l hf with h5 | h5
      · exact h.far h5
      · omega
  have y0 := h.ptr.cell 0
  simp [ptrV] at y0
  clear h hT
  generalize pickT p s k = t at *
  unfold ptrV at *
  go_enter Tryz.func51, Tryz.ntmps51
  go_wp2_with (first
    | (go_at_call 104; refine HO.out.mono ?_; rintro e u ⟨rfl, hb⟩; have z0 := (HS.out u hb).1; have HS1 := Hid.mk' (HS.out u hb).2; clear hb HO)
    | (go_at_call 105; refine HS1.out.mono ?_; rintro e u2 ⟨rfl, hz⟩; have HZ := Hid.mk' hz; clear hz HS1))
  go_ret2
  exact ⟨rfl, HZ.out⟩
set_option maxRecDepth 100000 in
theorem rStep_over {p : Lpar} {a : Lad} {x : Lsn} {F : Nat → Prop} {l : Nat} {s : Lst} {w : World} (h : RLine p a x F l s w) (k : Int) (h2 : s.e2 = true) :
    Calls Tryz.prog 51 #[ptrV l, .int .i64 k] w fun e w' => e = .returned (.tuple #[.int .i64 0, .int .i64 9]) ∧ Below w.heap.size w w' := by
  have HO := Hid.mk' (over_any h.line h.inv)
  rw [h2] at HO
  have y0 := h.ptr.cell 0
  simp [ptrV] at y0
  clear h
  unfold ptrV at *
  go_enter Tryz.func51, Tryz.ntmps51
  go_wp2_with (go_at_call 104; refine HO.out.mono ?_; rintro e u ⟨rfl, hb⟩; have HB := Hid.mk' hb; clear hb HO)
  go_ret2
  exact ⟨rfl, HB.out⟩
set_option maxRecDepth 100000 in
theorem rCancel_over {p : Lpar} {a : Lad} {x : Lsn} {F : Nat → Prop} {l : Nat} {s : Lst} {w : World} (h : RLine p a x F l s w) (h2 : s.e2 = true) :
    Calls Tryz.prog 54 #[ptrV l] w fun e w' => e = .returned (.int .i64 9) ∧ Below w.heap.size w w' := by
  have HO := Hid.mk' (over_any h.line h.inv)
  rw [h2] at HO
  have y0 := h.ptr.cell 0
  simp [ptrV] at y0
  clear h
  unfold ptrV at *
  go_enter Tryz.func54, Tryz.ntmps54
  go_wp2_with (go_at_call 104; refine HO.out.mono ?_; rintro e u ⟨rfl, hb⟩; have HB := Hid.mk' hb; clear hb HO)
  go_ret
  exact ⟨rfl, HB.out⟩
end Go.Proofs.YtlncjgnomhpjnabGreatDoor

/-
  What the laws ask of a line: tasks, idle, mine, all, overRight.
-/
namespace Go.Proofs.YtlncjgnomhpjnabGreatDoor
open Go.RowKit Go.Deep
set_option linter.unusedVariables false
/-- The cells of a row of numbers. -/
theorem rowInts {w : World} {base n : Nat} {v : Value} {f : Nat → Int} (h : w.ownsRow base 3 1 v n ((List.range n).map fun i => .int .i64 (f i))) : ∃ A cap, v = .slice A n cap ∧ ∀ i, i < n → ∃ g, A = some ⟨g, 0, none⟩ ∧ w.cell? ⟨g, i, none⟩ = some (.int .i64 (f i)) := by
  obtain ⟨A, cap, rfl, hA⟩ := own_open h
  refine ⟨A, cap, rfl, fun i hi => ?_⟩
  obtain ⟨g, rfl, -, hc⟩ := hA (by omega)
  exact ⟨g, rfl, hc i _ (by simp [hi])⟩
set_option maxRecDepth 100000 in
theorem tasks_yes (base n : Nat) (v : Value) (w : World) (h : w.ownsRow base 3 1 v n ((List.range n).map fun (k : Nat) => .int .i64 (k : Int))) (hn : n ≤ 100) :
    Calls Tryz.prog 55 #[v, .int .i64 n] w fun e w' => e = .returned (.bool true) ∧ w' = w := by
  obtain ⟨A, cap, rfl, hA⟩ := rowInts (f := fun k => (k : Int)) h
  have HA := Hid.mk' hA
  clear h hA
  go_enter Tryz.func55, Tryz.ntmps55
  go_wp2
  go_loopw [5] (fun s5 wr => ∃ q : Nat, q ≤ n ∧ s5 = .int .i64 q ∧ wr = w) (fun s5 _ => n - (intOf s5).toNat)
  case atStart => exact ⟨0, Nat.zero_le _, rfl, rfl⟩
  case round =>
    obtain ⟨q, hq, rfl, rfl⟩ := hrel
    by_cases hlt : q < n
    · obtain ⟨g, rfl, hc⟩ := HA.out q hlt
      go_wp2
      go_roundw
      case rel => exact ⟨q + 1, by omega, by go_num, trivial⟩
      case measure => simp [intOf]; omega
    · have e : q = n := by omega
      subst e
      go_wp2
      go_ret
      exact ⟨rfl, rfl⟩
set_option maxRecDepth 100000 in
theorem idle_yes (base n : Nat) (f : Nat → Int) (v : Value) (w : World) (h : w.ownsRow base 3 1 v n ((List.range n).map fun k => .int .i64 (f k))) (hf : ∀ i, i < n → f i = -1) (hn : n ≤ 100) :
    Calls Tryz.prog 56 #[v, .int .i64 n] w fun e w' => e = .returned (.bool true) ∧ w' = w := by
  obtain ⟨A, cap, rfl, hA⟩ := rowInts h
  have HA := Hid.mk' hA
  have HF := Hid.mk' hf
  clear h hA hf
  go_enter Tryz.func56, Tryz.ntmps56
  go_wp2
  go_loopw [5] (fun s5 wr => ∃ q : Nat, q ≤ n ∧ s5 = .int .i64 q ∧ wr = w) (fun s5 _ => n - (intOf s5).toNat)
  case atStart => exact ⟨0, Nat.zero_le _, rfl, rfl⟩
  case round =>
    obtain ⟨q, hq, rfl, rfl⟩ := hrel
    by_cases hlt : q < n
    · obtain ⟨g, rfl, hc⟩ := HA.out q hlt
      rw [HF.out q hlt] at hc
      go_wp2
      go_roundw
      case rel => exact ⟨q + 1, by omega, by go_num, trivial⟩
      case measure => simp [intOf]; omega
    · have e : q = n := by omega
      subst e
      go_wp2
      go_ret
      exact ⟨rfl, rfl⟩
set_option maxRecDepth 100000 in
theorem mine_no (A : Option Addr) (n cap : Nat) (f : Nat → Int) (k : Int) (w : World) (hA : ∀ i, i < n → ∃ g, A = some ⟨g, 0, none⟩ ∧ w.cell? ⟨g, i, none⟩ = some (.int .i64 (f i))) (hf : ∀ i, i < n → f i ≠ k) (hn : n ≤ 1000) :
    Calls Tryz.prog 103 #[.slice A n cap, .int .i64 k] w fun e w' => e = .returned (.bool false) ∧ w' = w := by
  have HA := Hid.mk' hA
  have HF := Hid.mk' hf
  clear hA hf
  go_enter Tryz.func103, Tryz.ntmps103
  go_wp2
  go_loopw [5] (fun s5 wr => ∃ q : Nat, q ≤ n ∧ s5 = .int .i64 q ∧ wr = w) (fun s5 _ => n - (intOf s5).toNat)
  case atStart => exact ⟨0, Nat.zero_le _, rfl, rfl⟩
  case round =>
    obtain ⟨q, hq, rfl, rfl⟩ := hrel
    by_cases hlt : q < n
    · obtain ⟨g, rfl, hc⟩ := HA.out q hlt
      have hne : ¬ (f q = k) := HF.out q hlt
      go_wp2
      go_roundw
      case rel => exact ⟨q + 1, by omega, by go_num, trivial⟩
      case measure => simp [intOf]; omega
    · have e : q = n := by omega
      subst e
      go_wp2
      go_ret
      exact ⟨rfl, rfl⟩
set_option maxRecDepth 100000 in
theorem all_any (c0 c1 c2 c3 c4 c6 c7 : Int) (W n : Nat) (w : World) (hW : W ≤ 8) (hn : n ≤ 300) :
    Calls Tryz.prog 23 #[.agg #[.int .i64 c0, .int .i64 c1, .int .i64 c2, .int .i64 c3, .int .i64 c4, .int .i64 W, .int .i64 c6, .int .i64 c7], .int .i64 n] w fun e w' => e = .returned (.int .i64 ((6 * n + W + 4 : Nat) : Int)) ∧ Below w.heap.size w w' := by
  have x5 := (Bx.new w #[.int .i64 c0, .int .i64 c1, .int .i64 c2, .int .i64 c3, .int .i64 c4, .int .i64 W, .int .i64 c6, .int .i64 c7] 23).cell 5
  simp at x5
  have w1 : IntKind.i64.wrap (6 * (n : Int)) = ((6 * n : Nat) : Int) := by rw [IntKind.wrap_i64]; omega
  have w2 : IntKind.i64.wrap (((6 * n : Nat) : Int) + (W : Int)) = ((6 * n + W : Nat) : Int) := by rw [IntKind.wrap_i64]; omega
  have w3 : IntKind.i64.wrap (((6 * n + W : Nat) : Int) + 4) = ((6 * n + W + 4 : Nat) : Int) := by rw [IntKind.wrap_i64]; omega
  go_enter Tryz.func23, Tryz.ntmps23
  go_wp2
  go_ret
  refine ⟨?_, (Below.refl _ _).alloc (Nat.le_refl _) _⟩
  simp
end Go.Proofs.YtlncjgnomhpjnabGreatDoor

/-
  What the laws ask of a line: overRight, grown.
-/
namespace Go.Proofs.YtlncjgnomhpjnabGreatDoor
open Go.RowKit Go.Deep
set_option linter.unusedVariables false
/-- A line that is over. -/
theorem LInv.done {p : Lpar} {s : Lst} (h : LInv p s) (h2 : s.e2 = true) : s.jobs = [] ∧ s.lane = [] ∧ s.ready = [] ∧ s.shelf = [] ∧ (∀ j, j < p.W → s.held j = none) ∧ s.ended p = List.range (3 + p.W) := by
  obtain ⟨a1, a2, a3, a4, a5⟩ := h.e2 h2
  obtain ⟨b1, b2⟩ := h.e1 a3
  have hw := shut_all a1
  have h1 := h.w1
  exact ⟨(h.ew 0 (by omega) (hw 0 (by omega))).2.1, b2, a2, a5, fun j hj => (h.ew j hj (hw j hj)).2.2, h.over.2 h2⟩
set_option maxRecDepth 100000 in
set_option maxHeartbeats 4000000 in
theorem overRight_any {p : Lpar} {a : Lad} {x : Lsn} {F : Nat → Prop} {l : Nat} {s : Lst} {w : World} (h : RLine p a x F l s w) (h2 : s.e2 = true) (c0 c1 c2 c3 c4 c6 c7 : Int) :
    Calls Tryz.prog 26 #[ptrV l, .agg #[.int .i64 c0, .int .i64 c1, .int .i64 c2, .int .i64 c3, .int .i64 c4, .int .i64 p.W, .int .i64 c6, .int .i64 c7]] w fun e w' => e = .returned (.bool true) ∧ Below w.heap.size w w' := by
  obtain ⟨d1, d2, d3, d4, d5, d6⟩ := h.inv.done h2
  have hab := able_over h.inv h2
  have hW8 := h.line.W8
  have HX := Hid.mk' (Bx.new w #[.int .i64 c0, .int .i64 c1, .int .i64 c2, .int .i64 c3, .int .i64 c4, .int .i64 p.W, .int .i64 c6, .int .i64 c7] 23)
  have hB0 : Below w.heap.size w (w.alloc (.cells #[.int .i64 c0, .int .i64 c1, .int .i64 c2, .int .i64 c3, .int .i64 c4, .int .i64 p.W, .int .i64 c6, .int .i64 c7] 23)) := (Below.refl _ _).alloc (Nat.le_refl _) _
  obtain ⟨W0, hW0⟩ : ∃ W, W = w.alloc (.cells #[.int .i64 c0, .int .i64 c1, .int .i64 c2, .int .i64 c3, .int .i64 c4, .int .i64 p.W, .int .i64 c6, .int .i64 c7] 23) := ⟨_, rfl⟩
  have HWE := Hid.mk' hW0
  rw [← hW0] at HX hB0
  have hz0 : w.heap.size + 1 = W0.heap.size := by rw [hW0]; simp
  have HK : Hid (∀ u, Below W0.heap.size W0 u → Below w.heap.size w u) := fun u hu => hB0.trans (hu.mono (by omega))
  have HRL : Hid (∀ u, Below W0.heap.size W0 u → RLine p a x F l s u) := fun u hu => h.keep (HK.out u hu)
  have HAB : Hid (Calls Tryz.prog 42 #[ptrV l] W0 fun e w' => ∃ A cap, e = .returned (.slice A 0 cap) ∧ Below W0.heap.size W0 w') := by
    refine (rAble_any (HRL.out W0 (Below.refl _ _))).mono ?_
    rintro e w' ⟨v, rfl, ho, hb⟩
    rw [hab] at ho
    obtain ⟨A, cap, rfl, -⟩ := own_open ho
    exact ⟨A, cap, rfl, hb⟩
  have HST : Hid (∀ u, Below W0.heap.size W0 u → Calls Tryz.prog 51 #[ptrV l, .int .i64 0] u fun e w' => e = .returned (.tuple #[.int .i64 0, .int .i64 9]) ∧ Below W0.heap.size W0 w') := fun u hu => (rStep_over (HRL.out u hu) 0 h2).mono (by rintro e w' ⟨rfl, hb⟩; exact ⟨rfl, hu.trans (hb.mono hu.size)⟩)
  have HCA : Hid (∀ u, Below W0.heap.size W0 u → Calls Tryz.prog 54 #[ptrV l] u fun e w' => e = .returned (.int .i64 9) ∧ Below W0.heap.size W0 w') := fun u hu => (rCancel_over (HRL.out u hu) h2).mono (by rintro e w' ⟨rfl, hb⟩; exact ⟨rfl, hu.trans (hb.mono hu.size)⟩)
  have HLK : Hid (∀ u, Below W0.heap.size W0 u → Calls Tryz.prog 24 #[ptrV l] u fun e w' => ∃ A1 k1 A2 k2 A3 k3, e = .returned (.agg #[.int .i64 (lstN s), .int .i64 s.given, .int .i64 s.summed, .int .i64 s.wrote, .int .i64 s.writes, .int .i64 0, .int .i64 0, .int .i64 0, .slice A1 p.W k1, .slice A2 0 k2, .slice A3 (3 + p.W) k3]) ∧ Seen p s u.heap.size (.slice A1 p.W k1) (.slice A2 0 k2) (.slice A3 (3 + p.W) k3) w' ∧ Below W0.heap.size W0 w') := fun u hu => by
    refine (rLook_any (HRL.out u hu)).mono ?_
    rintro e w' ⟨v1, v2, v3, rfl, hs, hb⟩
    obtain ⟨A1, k1, e1, -⟩ := own_open hs.held
    obtain ⟨A2, k2, e2, -⟩ := own_open hs.shelf
    obtain ⟨A3, k3, e3, -⟩ := own_open hs.ended
    subst e1 e2 e3
    refine ⟨A1, k1, A2, k2, A3, k3, ?_, ?_, hu.trans (hb.mono hu.size)⟩
    · unfold viewC
      rw [d1, d2, d3, d4, d6, List.length_range]
      rfl
    · rw [d4, d6, List.length_range] at hs
      exact hs
  have HTY : Hid (∀ u B A1 k1 A2 k2 A3 k3, Seen p s B (.slice A1 p.W k1) (.slice A2 0 k2) (.slice A3 (3 + p.W) k3) u → (Calls Tryz.prog 55 #[.slice A3 (3 + p.W) k3, .int .i64 ((3 + p.W : Nat) : Int)] u fun e w' => e = .returned (.bool true) ∧ w' = u) ∧ (Calls Tryz.prog 56 #[.slice A1 p.W k1, .int .i64 p.W] u fun e w' => e = .returned (.bool true) ∧ w' = u)) := fun u B A1 k1 A2 k2 A3 k3 hs => by
    have ho := hs.ended
    rw [d6, List.length_range] at ho
    exact ⟨tasks_yes B (3 + p.W) _ u ho (by omega), idle_yes B p.W (heldI s) _ u hs.held (fun i hi => by unfold heldI; rw [d5 i hi]) (by omega)⟩
  clear h d1 d2 d3 d4 d5 d6 hab h2
  generalize lstN s = ls at *
  have w1 : IntKind.i64.wrap (3 + (p.W : Int)) = ((3 + p.W : Nat) : Int) := by rw [IntKind.wrap_i64]; omega
  have HLV : Hid (∀ (u3 u4 : World) (A1 : Option Addr) (k1 : Nat) (A2 : Option Addr) (k2 : Nat) (A3 : Option Addr) (k3 : Nat), Seen p s u3.heap.size (.slice A1 p.W k1) (.slice A2 0 k2) (.slice A3 (3 + p.W) k3) u4 → Below W0.heap.size W0 u4 → Bx ((u4.alloc (.cells #[.int .i64 0, .int .i64 0, .int .i64 0, .int .i64 0, .int .i64 0, .int .i64 0, .int .i64 0, .int .i64 0, .slice none 0 0, .slice none 0 0, .slice none 0 0] 64)).setRow u4.heap.size #[.int .i64 ls, .int .i64 s.given, .int .i64 s.summed, .int .i64 s.wrote, .int .i64 s.writes, .int .i64 0, .int .i64 0, .int .i64 0, .slice A1 p.W k1, .slice A2 0 k2, .slice A3 (3 + p.W) k3]) u4.heap.size 64 #[.int .i64 ls, .int .i64 s.given, .int .i64 s.summed, .int .i64 s.wrote, .int .i64 s.writes, .int .i64 0, .int .i64 0, .int .i64 0, .slice A1 p.W k1, .slice A2 0 k2, .slice A3 (3 + p.W) k3] ∧ ((u4.alloc (.cells #[.int .i64 0, .int .i64 0, .int .i64 0, .int .i64 0, .int .i64 0, .int .i64 0, .int .i64 0, .int .i64 0, .slice none 0 0, .slice none 0 0, .slice none 0 0] 64)).setRow u4.heap.size #[.int .i64 ls, .int .i64 s.given, .int .i64 s.summed, .int .i64 s.wrote, .int .i64 s.writes, .int .i64 0, .int .i64 0, .int .i64 0, .slice A1 p.W k1, .slice A2 0 k2, .slice A3 (3 + p.W) k3]).cell? ⟨w.heap.size, 5, none⟩ = some (.int .i64 p.W) ∧ (∃ B, Seen p s B (.slice A1 p.W k1) (.slice A2 0 k2) (.slice A3 (3 + p.W) k3) ((u4.alloc (.cells #[.int .i64 0, .int .i64 0, .int .i64 0, .int .i64 0, .int .i64 0, .int .i64 0, .int .i64 0, .int .i64 0, .slice none 0 0, .slice none 0 0, .slice none 0 0] 64)).setRow u4.heap.size #[.int .i64 ls, .int .i64 s.given, .int .i64 s.summed, .int .i64 s.wrote, .int .i64 s.writes, .int .i64 0, .int .i64 0, .int .i64 0, .slice A1 p.W k1, .slice A2 0 k2, .slice A3 (3 + p.W) k3])) ∧ Below W0.heap.size W0 ((u4.alloc (.cells #[.int .i64 0, .int .i64 0, .int .i64 0, .int .i64 0, .int .i64 0, .int .i64 0, .int .i64 0, .int .i64 0, .slice none 0 0, .slice none 0 0, .slice none 0 0] 64)).setRow u4.heap.size #[.int .i64 ls, .int .i64 s.given, .int .i64 s.summed, .int .i64 s.wrote, .int .i64 s.writes, .int .i64 0, .int .i64 0, .int .i64 0, .slice A1 p.W k1, .slice A2 0 k2, .slice A3 (3 + p.W) k3])) := fun u3 u4 A1 k1 A2 k2 A3 k3 hs hb => by
    have e1 : Edit (fun _ => False) u4 ((u4.alloc (.cells #[.int .i64 0, .int .i64 0, .int .i64 0, .int .i64 0, .int .i64 0, .int .i64 0, .int .i64 0, .int .i64 0, .slice none 0 0, .slice none 0 0, .slice none 0 0] 64)).setRow u4.heap.size #[.int .i64 ls, .int .i64 s.given, .int .i64 s.summed, .int .i64 s.wrote, .int .i64 s.writes, .int .i64 0, .int .i64 0, .int .i64 0, .slice A1 p.W k1, .slice A2 0 k2, .slice A3 (3 + p.W) k3]) := ((Edit.refl _ u4).alloc _).row (Nat.le_refl _) _
    have hb2 : Below W0.heap.size W0 ((u4.alloc (.cells #[.int .i64 0, .int .i64 0, .int .i64 0, .int .i64 0, .int .i64 0, .int .i64 0, .int .i64 0, .int .i64 0, .slice none 0 0, .slice none 0 0, .slice none 0 0] 64)).setRow u4.heap.size #[.int .i64 ls, .int .i64 s.given, .int .i64 s.summed, .int .i64 s.wrote, .int .i64 s.writes, .int .i64 0, .int .i64 0, .int .i64 0, .slice A1 p.W k1, .slice A2 0 k2, .slice A3 (3 + p.W) k3]) := hb.trans (e1.below hb.size fun k hk => hk.elim)
    exact ⟨(Bx.new u4 _ _).row _, (HX.out.below hb2).cell 5, ⟨_, hs.keep e1 fun k hk => hk.elim⟩, hb2⟩
  have HFI : Hid (∀ u, Below W0.heap.size W0 u → Below w.heap.size w u) := HK
  clear HX hB0 hz0 HK HRL HWE
  subst hW0
  unfold ptrV at *
  go_enter Tryz.func26, Tryz.ntmps26
  go_wp2_with (first
    | (go_at_call 42; refine HAB.out.mono ?_; rintro e u1 ⟨A0, k0, rfl, hb⟩; have HS1 := Hid.mk' (HST.out u1 hb); clear hb HAB HST)
    | (go_at_call 51; refine HS1.out.mono ?_; rintro e u2 ⟨rfl, hb⟩; have HC1 := Hid.mk' (HCA.out u2 hb); clear hb HS1 HCA)
    | (go_at_call 54; refine HC1.out.mono ?_; rintro e u3 ⟨rfl, hb⟩; have HL1 := Hid.mk' (HLK.out u3 hb); clear hb HC1 HLK)
    | (go_at_call 24; refine HL1.out.mono ?_; rintro e u4 ⟨A1, k1, A2, k2, A3, k3, rfl, hs, hb⟩; obtain ⟨bx, cx, ⟨B, hs2⟩, hb2⟩ := HLV.out u3 u4 A1 k1 A2 k2 A3 k3 hs hb; have HTI := Hid.mk' (HTY.out _ B A1 k1 A2 k2 A3 k3 hs2); have HB2 := Hid.mk' (HFI.out _ hb2); have v5 := bx.cell 5; have v6 := bx.cell 6; have v7 := bx.cell 7; have v8 := bx.cell 8; have v9 := bx.cell 9; have v10 := bx.cell 10; simp at v5 v6 v7 v8 v9 v10; clear hs hb bx hs2 hb2 HL1 HLV HTY)
    | (refine wpList_storeRow rfl _ _ 64 rfl u4.heap.size 64 _ _ rfl rfl (Bx.new u4 #[.int .i64 0, .int .i64 0, .int .i64 0, .int .i64 0, .int .i64 0, .int .i64 0, .int .i64 0, .int .i64 0, .slice none 0 0, .slice none 0 0, .slice none 0 0] 64) infoView rfl rfl ?_)
    | (go_at_call 55; refine HTI.out.1.mono ?_; rintro e u5 ⟨rfl, hu⟩; subst u5)
    | (go_at_call 56; refine HTI.out.2.mono ?_; rintro e u5 ⟨rfl, hu⟩; subst u5))
  go_ret
  exact ⟨rfl, HB2.out⟩
end Go.Proofs.YtlncjgnomhpjnabGreatDoor

