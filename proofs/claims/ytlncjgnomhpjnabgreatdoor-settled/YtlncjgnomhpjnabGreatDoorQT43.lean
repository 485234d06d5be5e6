import Derived.Test.YtlncjgnomhpjnabGreatDoorQT42
/-
  The line: Look.
-/
namespace Go.Proofs.YtlncjgnomhpjnabGreatDoor
open Go.RowKit Go.Deep
set_option linter.unusedVariables false
theorem infoView : (Tryz.prog.info? 64).map (·.size) = some 11 := by kernel_rfl
theorem res_view (tmps : Array Value) (R : Nat) (cs : Array Value) (W : World) (h : Bx W R 64 cs) (hs : cs.size = 11) (h2 : tmps.getD 2 undef = .pointer (some ⟨R, 0, none⟩)) :
    (results Tryz.f52 tmps).run Tryz.prog W = .ok (.agg cs) W := by
  have hl := run_loadVar_row (P := Tryz.prog) W R 64 64 cs (0, 0) _ h Tryz.underlying64 rfl (by rw [hs]; exact infoView)
  rw [Array.getD_eq_getD_getElem?] at h2
  simp [results, Tryz.results52, asAddr, h2, hl]
theorem own_base {w : World} {base base' : Nat} {e : TypeId} {size : Nat} {v : Value} {n : Nat} {xs : List Value} (h : w.ownsRow base e size v n xs) (hb : base' ≤ base) : w.ownsRow base' e size v n xs :=
  ⟨h.1, h.2.imp id fun ⟨g, cap, cur, h1, h2, h3⟩ => ⟨g, cap, cur, h1, Nat.le_trans hb h2, h3⟩⟩
/-- The lists of a view lie apart. -/
def Apt (v1 v2 v3 : Value) : Prop := ∀ k, (v1.ownBlock = some k → v2.ownBlock ≠ some k ∧ v3.ownBlock ≠ some k) ∧ (v2.ownBlock = some k → v3.ownBlock ≠ some k)
/-- What is seen of a line. -/
structure Seen (p : Lpar) (s : Lst) (base : Nat) (v1 v2 v3 : Value) (w : World) : Prop where
  held : w.ownsRow base 3 1 v1 p.W ((List.range p.W).map fun j => .int .i64 (heldI s j))
  shelf : w.ownsRow base 3 1 v2 s.shelf.length (s.shelf.map fun (k : Nat) => .int .i64 (k : Int))
  ended : w.ownsRow base 3 1 v3 (s.ended p).length ((s.ended p).map fun (k : Nat) => .int .i64 (k : Int))
def viewC (s : Lst) (v1 v2 v3 : Value) : Array Value := #[.int .i64 (lstN s), .int .i64 s.given, .int .i64 s.summed, .int .i64 s.wrote, .int .i64 s.writes, .int .i64 s.jobs.length, .int .i64 s.lane.length, .int .i64 s.ready.length, v1, v2, v3]
set_option linter.unusedSimpArgs false in
set_option maxRecDepth 100000 in
set_option maxHeartbeats 8000000 in
theorem look2_any {p : Lpar} {a : Lad} {x : Lsn} {F : Nat → Prop} {s : Lst} {w : World} (h : LineIs p a x F s w) (hi : LInv p s) :
    Calls Tryz.prog 52 #[ptrV a.lb] w fun e w' => ∃ v1 v2 v3, e = .returned (.agg (viewC s v1 v2 v3)) ∧ Seen p s w.heap.size v1 v2 v3 w' ∧ Below w.heap.size w w' ∧ Apt v1 v2 v3 := by
  obtain ⟨sv, fv, lv, hl, hw, c3, -⟩ := h.cells
  have hnb := h.kp.nb
  have hNB := h.NB
  have hsl := hi.shelf_le
  rw [shlV_eq] at c3
  obtain ⟨A, cap, rfl, -⟩ := own_open c3
  have HL : Hid (∀ u, Below w.heap.size w u → LineIs p a x F s u) := fun u hu => h.keep (fun k hk => hu.block k (h.lt k hk)) hu.size
  have HS : Hid (∀ u, Below w.heap.size w u → u.cell? ⟨a.lb, 24, none⟩ = some (.pointer (some ⟨a.sp, 0, none⟩)) ∧ u.cell? ⟨a.lb, 25, none⟩ = some (.pointer (some ⟨a.su, 0, none⟩)) ∧ u.cell? ⟨a.lb, 26, none⟩ = some (.pointer (some ⟨a.wr, 0, none⟩)) ∧ u.cell? ⟨a.lb, 19, none⟩ = some (.int .i64 s.writes) ∧ u.cell? ⟨a.lb, 14, none⟩ = some (.pointer (some ⟨a.qj, 0, none⟩)) ∧ u.cell? ⟨a.lb, 15, none⟩ = some (.pointer (some ⟨a.ql, 0, none⟩)) ∧ u.cell? ⟨a.lb, 16, none⟩ = some (.pointer (some ⟨a.qr, 0, none⟩)) ∧ u.cell? ⟨a.lb, 17, none⟩ = some (.slice A s.shelf.length cap) ∧ u.cell? ⟨a.sp, 3, none⟩ = some (.int .i64 s.given) ∧ u.cell? ⟨a.su, 2, none⟩ = some (.int .i64 s.summed)) := fun u hu => by
    have b1 := hl.below hu
    have b2 := h.spl.below hu
    have b3 := h.sum.below hu
    exact ⟨b1.cell 24, b1.cell 25, b1.cell 26, b1.cell 19, b1.cell 14, b1.cell 15, b1.cell 16, b1.cell 17, b2.cell 3, b3.cell 2⟩
  have HST : Hid (∀ u, Below w.heap.size w u → Calls Tryz.prog 106 #[ptrV a.lb] u fun e w' => e = .returned (.int .i64 (lstN s)) ∧ Below u.heap.size u w') := fun u hu => state_any (HL.out u hu) hi
  have HWR : Hid (∀ u, Below w.heap.size w u → Calls Tryz.prog 107 #[ptrV a.wr] u fun e w' => e = .returned (.int .i64 s.wrote) ∧ w' = u) := fun u hu => written_any (HL.out u hu)
  have HCJ : Hid (∀ u, Below w.heap.size w u → Calls Tryz.prog 108 #[.pointer (some ⟨a.qj, 0, none⟩)] u fun e w' => e = .returned (.int .i64 s.jobs.length) ∧ w' = u) := fun u hu => jCount (HL.out u hu)
  have HCL : Hid (∀ u, Below w.heap.size w u → Calls Tryz.prog 108 #[.pointer (some ⟨a.ql, 0, none⟩)] u fun e w' => e = .returned (.int .i64 s.lane.length) ∧ w' = u) := fun u hu => lCount (HL.out u hu)
  have HCR : Hid (∀ u, Below w.heap.size w u → Calls Tryz.prog 109 #[.pointer (some ⟨a.qr, 0, none⟩)] u fun e w' => e = .returned (.int .i64 s.ready.length) ∧ w' = u) := fun u hu => rCount (HL.out u hu)
  have HHE : Hid (∀ u, Below w.heap.size w u → Calls Tryz.prog 110 #[ptrV a.lb] u fun e w' => ∃ v, e = .returned v ∧ w'.ownsRow u.heap.size 3 1 v p.W ((List.range p.W).map fun j => .int .i64 (heldI s j)) ∧ Below u.heap.size u w') := fun u hu => held_any (HL.out u hu)
  have HNU : Hid (∀ u, Below w.heap.size w u → Calls Tryz.prog 111 #[.slice A s.shelf.length cap] u fun e w' => ∃ v, e = .returned v ∧ w'.ownsRow u.heap.size 3 1 v s.shelf.length (s.shelf.map fun (k : Nat) => .int .i64 (k : Int)) ∧ Below u.heap.size u w') := fun u hu => numbers_any (frB x) s.shelf a.b1 _ u (shOwn c3 (Edit.of (S := fun _ => False) hu) fun _ _ => id) (by omega)
  have HTE : Hid (∀ u, Below w.heap.size w u → Calls Tryz.prog 112 #[ptrV a.lb, .func (.methodOf 178 "reel/line.hasEnded") #[] #[]] u fun e w' => ∃ v, e = .returned v ∧ w'.ownsRow u.heap.size 3 1 v (s.ended p).length ((s.ended p).map fun (k : Nat) => .int .i64 (k : Int)) ∧ Below u.heap.size u w') := fun u hu => tasksEnded (HL.out u hu)
  have HB0 : Hid (Below w.heap.size w (w.alloc (.cells #[.int .i64 0, .int .i64 0, .int .i64 0, .int .i64 0, .int .i64 0, .int .i64 0, .int .i64 0, .int .i64 0, .slice none 0 0, .slice none 0 0, .slice none 0 0] 64))) := (Below.refl _ _).alloc (Nat.le_refl _) _
  have HX0 := Hid.mk' (Bx.new w #[.int .i64 0, .int .i64 0, .int .i64 0, .int .i64 0, .int .i64 0, .int .i64 0, .int .i64 0, .int .i64 0, .slice none 0 0, .slice none 0 0, .slice none 0 0] 64)
  obtain ⟨W0, hW0⟩ : ∃ W, W = w.alloc (.cells #[.int .i64 0, .int .i64 0, .int .i64 0, .int .i64 0, .int .i64 0, .int .i64 0, .int .i64 0, .int .i64 0, .slice none 0 0, .slice none 0 0, .slice none 0 0] 64) := ⟨_, rfl⟩
  obtain ⟨R, hR⟩ : ∃ R, R = w.heap.size := ⟨_, rfl⟩
  have hz : W0.heap.size = R + 1 := by rw [hW0, hR]; simp
  have HZ := Hid.mk' hz
  rw [← hW0] at HB0 HX0
  rw [← hR] at HX0
  have HRR := Hid.mk' hR
  have HW0 := Hid.mk' hW0
  have HK : Hid (∀ u, Below W0.heap.size W0 u → Below w.heap.size w u) := fun u hu => HB0.out.trans (hu.mono (by rw [HZ.out, HRR.out]; exact Nat.le_succ _))
  have HFIN : Hid (∀ u2 u3 u4 v1 v2 v3 B2 B3 B4, R + 1 ≤ B2 → R + 1 ≤ B3 → R + 1 ≤ B4 → u2.heap.size ≤ B3 → u3.heap.size ≤ B4 → u2.ownsRow B2 3 1 v1 p.W ((List.range p.W).map fun j => .int .i64 (heldI s j)) → Below u2.heap.size u2 u3 → u3.ownsRow B3 3 1 v2 s.shelf.length (s.shelf.map fun (k : Nat) => .int .i64 (k : Int)) → Below u3.heap.size u3 u4 →
      u4.ownsRow B4 3 1 v3 (s.ended p).length ((s.ended p).map fun (k : Nat) => .int .i64 (k : Int)) → Below W0.heap.size W0 u4 → Seen p s w.heap.size v1 v2 v3 (u4.setRow R (viewC s v1 v2 v3)) ∧ Below w.heap.size w (u4.setRow R (viewC s v1 v2 v3)) ∧ Apt v1 v2 v3) := by
    intro u2 u3 u4 v1 v2 v3 B2 B3 B4 h2 h3 h4 g3 g4 o1 b3 o2 b4 o3 b
    have hw0 : w.heap.size = R := HRR.out.symm
    have er : Edit (· = R) u4 (u4.setRow R (viewC s v1 v2 v3)) := ⟨rfl, rfl, rfl, by simp, fun k hk hS => setRow_other _ _ _ _ hS⟩
    refine ⟨⟨?_, ?_, ?_⟩, ?_, ?_⟩
    · exact own_base (shOwn (shOwn (shOwn o1 (Edit.of (S := fun _ => False) b3) fun _ _ => id) (Edit.of (S := fun _ => False) b4) fun _ _ => id) er fun g hg hh => by have := own_low o1 g hg; omega) (by omega)
    · exact own_base (shOwn (shOwn o2 (Edit.of (S := fun _ => False) b4) fun _ _ => id) er fun g hg hh => by have := own_low o2 g hg; omega) (by omega)
    · exact own_base (shOwn o3 er fun g hg hh => by have := own_low o3 g hg; omega) (by omega)
    · have h5 := (HK.out u4 b)
      exact ((Edit.of (S := fun _ => False) h5).row (g := R) (by omega) (viewC s v1 v2 v3)).below (Nat.le_refl _) (fun k hk => hk.elim)
    · have q1 := shOwn_lt o1
      have q2 := shOwn_lt o2
      have q3 := b3.size
      exact fun k => ⟨fun hk => ⟨fun hc => by have := q1 k hk; have := own_low o2 k hc; omega, fun hc => by have := q1 k hk; have := own_low o3 k hc; omega⟩, fun hk hc => by have := q2 k hk; have := own_low o3 k hc; omega⟩
  have hS0 := HS.out W0.drew (HK.out _ (bel_drewN (Below.refl _ _) 1))
  have HS1 : Hid (∀ u, Below W0.heap.size W0 u → u.cell? ⟨a.lb, 24, none⟩ = some (.pointer (some ⟨a.sp, 0, none⟩)) ∧ u.cell? ⟨a.lb, 25, none⟩ = some (.pointer (some ⟨a.su, 0, none⟩)) ∧ u.cell? ⟨a.lb, 26, none⟩ = some (.pointer (some ⟨a.wr, 0, none⟩)) ∧ u.cell? ⟨a.lb, 19, none⟩ = some (.int .i64 s.writes) ∧ u.cell? ⟨a.lb, 14, none⟩ = some (.pointer (some ⟨a.qj, 0, none⟩)) ∧ u.cell? ⟨a.lb, 15, none⟩ = some (.pointer (some ⟨a.ql, 0, none⟩)) ∧ u.cell? ⟨a.lb, 16, none⟩ = some (.pointer (some ⟨a.qr, 0, none⟩)) ∧ u.cell? ⟨a.lb, 17, none⟩ = some (.slice A s.shelf.length cap) ∧ u.cell? ⟨a.sp, 3, none⟩ = some (.int .i64 s.given) ∧ u.cell? ⟨a.su, 2, none⟩ = some (.int .i64 s.summed)) := fun u hu => HS.out u (HK.out u hu)
  have HS5 : Hid (∀ u, Below w.heap.size w u → u.cell? ⟨a.lb, 24, none⟩ = some (.pointer (some ⟨a.sp, 0, none⟩)) ∧ u.cell? ⟨a.lb, 25, none⟩ = some (.pointer (some ⟨a.su, 0, none⟩)) ∧ u.cell? ⟨a.lb, 26, none⟩ = some (.pointer (some ⟨a.wr, 0, none⟩)) ∧ u.cell? ⟨a.lb, 19, none⟩ = some (.int .i64 s.writes) ∧ u.cell? ⟨a.lb, 14, none⟩ = some (.pointer (some ⟨a.qj, 0, none⟩)) ∧ u.cell? ⟨a.lb, 15, none⟩ = some (.pointer (some ⟨a.ql, 0, none⟩)) ∧ u.cell? ⟨a.lb, 16, none⟩ = some (.pointer (some ⟨a.qr, 0, none⟩)) ∧ u.cell? ⟨a.lb, 17, none⟩ = some (.slice A s.shelf.length cap) ∧ u.cell? ⟨a.sp, 3, none⟩ = some (.int .i64 s.given) ∧ u.cell? ⟨a.su, 2, none⟩ = some (.int .i64 s.summed)) := HS
  clear h hi hl hw c3 hnb hNB hsl HL
  unfold viewC at *
  generalize lstN s = ls at *
  unfold ptrV at *
  go_enter Tryz.func52, Tryz.ntmps52
  go_wp2_with fail
  rw [← hW0, ← hR]
  clear hW0 hR hz HW0
  refine wp_region_held_drew (S := fun w' => w'.cell? ⟨a.lb, 24, none⟩ = some (.pointer (some ⟨a.sp, 0, none⟩)) ∧ w'.cell? ⟨a.lb, 25, none⟩ = some (.pointer (some ⟨a.su, 0, none⟩)) ∧ w'.cell? ⟨a.lb, 26, none⟩ = some (.pointer (some ⟨a.wr, 0, none⟩)) ∧ w'.cell? ⟨a.lb, 19, none⟩ = some (.int .i64 s.writes) ∧ w'.cell? ⟨a.lb, 14, none⟩ = some (.pointer (some ⟨a.qj, 0, none⟩)) ∧ w'.cell? ⟨a.lb, 15, none⟩ = some (.pointer (some ⟨a.ql, 0, none⟩)) ∧ w'.cell? ⟨a.lb, 16, none⟩ = some (.pointer (some ⟨a.qr, 0, none⟩)) ∧ w'.cell? ⟨a.lb, 17, none⟩ = some (.slice A s.shelf.length cap) ∧ w'.cell? ⟨a.sp, 3, none⟩ = some (.int .i64 s.given) ∧ w'.cell? ⟨a.su, 2, none⟩ = some (.int .i64 s.summed)) (by kernel_rfl) hS0 (fun hHeld => ?_)
  refine wpAnyH_take (i := 0) (v := ?_) rfl (by kernel_rfl) (by kernel_rfl) (by kernel_rfl) (fun _ _ _ h => h) (Or.inl ⟨by rfl, ?_⟩) (by assumption) ?_
  rotate_left
  · (intro w hSw; (try dsimp only at hSw); go_simp; try with_reducible rfl)
  try simp only [List.getElem_toArray, List.getElem_cons_succ, List.getElem_cons_zero, Act.put, List.setIfInBounds_toArray, List.set_cons_zero, List.set_cons_succ]
  refine wpAnyH_take (i := 2) (v := ?_) rfl (by kernel_rfl) (by kernel_rfl) (by kernel_rfl) (fun _ _ _ h => h) (Or.inl ⟨by rfl, ?_⟩) (by assumption) ?_
  rotate_left
  · (intro w hSw; (try dsimp only at hSw); go_simp; try with_reducible rfl)
  try simp only [List.getElem_toArray, List.getElem_cons_succ, List.getElem_cons_zero, Act.put, List.setIfInBounds_toArray, List.set_cons_zero, List.set_cons_succ]
  refine wpAnyH_take (i := 3) (v := ?_) rfl (by kernel_rfl) (by kernel_rfl) (by kernel_rfl) (fun _ _ _ h => h) (Or.inl ⟨by rfl, ?_⟩) (by assumption) ?_
  rotate_left
  · (intro w hSw; (try dsimp only at hSw); go_simp; try with_reducible rfl)
  try simp only [List.getElem_toArray, List.getElem_cons_succ, List.getElem_cons_zero, Act.put, List.setIfInBounds_toArray, List.set_cons_zero, List.set_cons_succ]
  refine wpAnyH_take (i := 4) (v := ?_) rfl (by kernel_rfl) (by kernel_rfl) (by kernel_rfl) (fun _ _ _ h => h) (Or.inl ⟨by rfl, ?_⟩) (by assumption) ?_
  rotate_left
  · (intro w hSw; (try dsimp only at hSw); go_simp; try with_reducible rfl)
  try simp only [List.getElem_toArray, List.getElem_cons_succ, List.getElem_cons_zero, Act.put, List.setIfInBounds_toArray, List.set_cons_zero, List.set_cons_succ]
  refine wpAnyH_take (i := 5) (v := ?_) rfl (by kernel_rfl) (by kernel_rfl) (by kernel_rfl) (fun _ _ _ h => h) (Or.inl ⟨by rfl, ?_⟩) (by assumption) ?_
  rotate_left
  · (intro w hSw; (try dsimp only at hSw); go_simp; try with_reducible rfl)
  try simp only [List.getElem_toArray, List.getElem_cons_succ, List.getElem_cons_zero, Act.put, List.setIfInBounds_toArray, List.set_cons_zero, List.set_cons_succ]
  refine wpAnyH_take (i := 6) (v := ?_) rfl (by kernel_rfl) (by kernel_rfl) (by kernel_rfl) (fun _ _ _ h => h) (Or.inl ⟨by rfl, ?_⟩) (by assumption) ?_
  rotate_left
  · (intro w hSw; (try dsimp only at hSw); go_simp; try with_reducible rfl)
  try simp only [List.getElem_toArray, List.getElem_cons_succ, List.getElem_cons_zero, Act.put, List.setIfInBounds_toArray, List.set_cons_zero, List.set_cons_succ]
  refine wpAnyH_take (i := 7) (v := ?_) rfl (by kernel_rfl) (by kernel_rfl) (by kernel_rfl) (fun _ _ _ h => h) (Or.inl ⟨by rfl, ?_⟩) (by assumption) ?_
  rotate_left
  · (intro w hSw; (try dsimp only at hSw); go_simp; try with_reducible rfl)
  try simp only [List.getElem_toArray, List.getElem_cons_succ, List.getElem_cons_zero, Act.put, List.setIfInBounds_toArray, List.set_cons_zero, List.set_cons_succ]
  refine wpAnyH_take (i := 8) (v := ?_) rfl (by kernel_rfl) (by kernel_rfl) (by kernel_rfl) (fun _ _ _ h => h) (Or.inl ⟨by rfl, ?_⟩) (by assumption) ?_
  rotate_left
  · (intro w hSw; (try dsimp only at hSw); go_simp; try with_reducible rfl)
  try simp only [List.getElem_toArray, List.getElem_cons_succ, List.getElem_cons_zero, Act.put, List.setIfInBounds_toArray, List.set_cons_zero, List.set_cons_succ]
  refine wpAnyH_take (i := 9) (v := ?_) rfl (by kernel_rfl) (by kernel_rfl) (by kernel_rfl) (fun _ _ _ h => h) (Or.inl ⟨by rfl, ?_⟩) (by assumption) ?_
  rotate_left
  · (intro w hSw; (try dsimp only at hSw); go_simp; try with_reducible rfl)
  try simp only [List.getElem_toArray, List.getElem_cons_succ, List.getElem_cons_zero, Act.put, List.setIfInBounds_toArray, List.set_cons_zero, List.set_cons_succ]
  refine wpAnyH_take (i := 10) (v := ?_) rfl (by kernel_rfl) (by kernel_rfl) (by kernel_rfl) (fun _ _ _ h => h) (Or.inl ⟨by rfl, ?_⟩) (by assumption) ?_
  rotate_left
  · (intro w hSw; (try dsimp only at hSw); go_simp; try with_reducible rfl)
  try simp only [List.getElem_toArray, List.getElem_cons_succ, List.getElem_cons_zero, Act.put, List.setIfInBounds_toArray, List.set_cons_zero, List.set_cons_succ]
  refine wpAnyH_take (i := 11) (v := ?_) rfl (by kernel_rfl) (by kernel_rfl) (by kernel_rfl) (fun _ _ _ h => h) (Or.inl ⟨by rfl, ?_⟩) (by assumption) ?_
  rotate_left
  · (intro w hSw; (try dsimp only at hSw); go_simp; try with_reducible rfl)
  try simp only [List.getElem_toArray, List.getElem_cons_succ, List.getElem_cons_zero, Act.put, List.setIfInBounds_toArray, List.set_cons_zero, List.set_cons_succ]
  refine wpAnyH_take (i := 12) (v := ?_) rfl (by kernel_rfl) (by kernel_rfl) (by kernel_rfl) (fun _ _ _ h => h) (Or.inl ⟨by rfl, ?_⟩) (by assumption) ?_
  rotate_left
  · (intro w hSw; (try dsimp only at hSw); go_simp; try with_reducible rfl)
  try simp only [List.getElem_toArray, List.getElem_cons_succ, List.getElem_cons_zero, Act.put, List.setIfInBounds_toArray, List.set_cons_zero, List.set_cons_succ]
  refine wpAnyH_take (i := 13) (v := ?_) rfl (by kernel_rfl) (by kernel_rfl) (by kernel_rfl) (fun _ _ _ h => h) (Or.inl ⟨by rfl, ?_⟩) (by assumption) ?_
  rotate_left
  · (intro w hSw; (try dsimp only at hSw); go_simp; try with_reducible rfl)
  try simp only [List.getElem_toArray, List.getElem_cons_succ, List.getElem_cons_zero, Act.put, List.setIfInBounds_toArray, List.set_cons_zero, List.set_cons_succ]
  refine wpAnyH_take (i := 14) (v := ?_) rfl (by kernel_rfl) (by kernel_rfl) (by kernel_rfl) (fun _ _ _ h => h) (Or.inl ⟨by rfl, ?_⟩) (by assumption) ?_
  rotate_left
  · (intro w hSw; (try dsimp only at hSw); go_simp; try with_reducible rfl)
  try simp only [List.getElem_toArray, List.getElem_cons_succ, List.getElem_cons_zero, Act.put, List.setIfInBounds_toArray, List.set_cons_zero, List.set_cons_succ]
  refine wpAnyH_take (i := 15) (v := ?_) rfl (by kernel_rfl) (by kernel_rfl) (by kernel_rfl) (fun _ _ _ h => h) (Or.inl ⟨by rfl, ?_⟩) (by assumption) ?_
  rotate_left
  · (intro w hSw; (try dsimp only at hSw); go_simp; try with_reducible rfl)
  try simp only [List.getElem_toArray, List.getElem_cons_succ, List.getElem_cons_zero, Act.put, List.setIfInBounds_toArray, List.set_cons_zero, List.set_cons_succ]
  refine wpAnyH_take (i := 16) (v := ?_) rfl (by kernel_rfl) (by kernel_rfl) (by kernel_rfl) (fun _ _ _ h => h) (Or.inl ⟨by rfl, ?_⟩) (by assumption) ?_
  rotate_left
  · (intro w hSw; (try dsimp only at hSw); go_simp; try with_reducible rfl)
  try simp only [List.getElem_toArray, List.getElem_cons_succ, List.getElem_cons_zero, Act.put, List.setIfInBounds_toArray, List.set_cons_zero, List.set_cons_succ]
  refine wpAnyH_take (i := 17) (v := ?_) rfl (by kernel_rfl) (by kernel_rfl) (by kernel_rfl) (fun _ _ _ h => h) (Or.inl ⟨by rfl, ?_⟩) (by assumption) ?_
  rotate_left
  · (intro w hSw; (try dsimp only at hSw); go_simp; try with_reducible rfl)
  try simp only [List.getElem_toArray, List.getElem_cons_succ, List.getElem_cons_zero, Act.put, List.setIfInBounds_toArray, List.set_cons_zero, List.set_cons_succ]
  refine wpAnyH_take (i := 18) (v := ?_) rfl (by kernel_rfl) (by kernel_rfl) (by kernel_rfl) (fun _ _ _ h => h) (Or.inl ⟨by rfl, ?_⟩) (by assumption) ?_
  rotate_left
  · (intro w hSw; (try dsimp only at hSw); go_simp; try with_reducible rfl)
  try simp only [List.getElem_toArray, List.getElem_cons_succ, List.getElem_cons_zero, Act.put, List.setIfInBounds_toArray, List.set_cons_zero, List.set_cons_succ]
  refine wpAnyH_take (i := 19) (v := ?_) rfl (by kernel_rfl) (by kernel_rfl) (by kernel_rfl) (fun _ _ _ h => h) (Or.inl ⟨by rfl, ?_⟩) (by assumption) ?_
  rotate_left
  · (intro w hSw; (try dsimp only at hSw); go_simp; try with_reducible rfl)
  try simp only [List.getElem_toArray, List.getElem_cons_succ, List.getElem_cons_zero, Act.put, List.setIfInBounds_toArray, List.set_cons_zero, List.set_cons_succ]
  refine wpAnyH_take (i := 21) (v := ?_) rfl (by kernel_rfl) (by kernel_rfl) (by kernel_rfl) (fun _ _ _ h => h) (Or.inl ⟨by rfl, ?_⟩) (by assumption) ?_
  rotate_left
  · (intro w hSw; (try dsimp only at hSw); go_simp; try with_reducible rfl)
  try simp only [List.getElem_toArray, List.getElem_cons_succ, List.getElem_cons_zero, Act.put, List.setIfInBounds_toArray, List.set_cons_zero, List.set_cons_succ]
  refine wpAnyH_take (i := 22) (v := ?_) rfl (by kernel_rfl) (by kernel_rfl) (by kernel_rfl) (fun _ _ _ h => h) (Or.inl ⟨by rfl, ?_⟩) (by assumption) ?_
  rotate_left
  · (intro w hSw; (try dsimp only at hSw); go_simp; try with_reducible rfl)
  try simp only [List.getElem_toArray, List.getElem_cons_succ, List.getElem_cons_zero, Act.put, List.setIfInBounds_toArray, List.set_cons_zero, List.set_cons_succ]
  refine wpAnyH_take (i := 23) (v := ?_) rfl (by kernel_rfl) (by kernel_rfl) (by kernel_rfl) (fun _ _ _ h => h) (Or.inl ⟨by rfl, ?_⟩) (by assumption) ?_
  rotate_left
  · (intro w hSw; (try dsimp only at hSw); go_simp; try with_reducible rfl)
  try simp only [List.getElem_toArray, List.getElem_cons_succ, List.getElem_cons_zero, Act.put, List.setIfInBounds_toArray, List.set_cons_zero, List.set_cons_succ]
  refine wpAnyH_take (i := 24) (v := ?_) rfl (by kernel_rfl) (by kernel_rfl) (by kernel_rfl) (fun _ _ _ h => h) (Or.inl ⟨by rfl, ?_⟩) (by assumption) ?_
  rotate_left
  · (intro w hSw; (try dsimp only at hSw); go_simp; try with_reducible rfl)
  try simp only [List.getElem_toArray, List.getElem_cons_succ, List.getElem_cons_zero, Act.put, List.setIfInBounds_toArray, List.set_cons_zero, List.set_cons_succ]
  refine wpAnyH_take (i := 25) (v := ?_) rfl (by kernel_rfl) (by kernel_rfl) (by kernel_rfl) (fun _ _ _ h => h) (Or.inl ⟨by rfl, ?_⟩) (by assumption) ?_
  rotate_left
  · (intro w hSw; (try dsimp only at hSw); go_simp; try with_reducible rfl)
  try simp only [List.getElem_toArray, List.getElem_cons_succ, List.getElem_cons_zero, Act.put, List.setIfInBounds_toArray, List.set_cons_zero, List.set_cons_succ]
  refine wpAnyH_take (i := 26) (v := ?_) rfl (by kernel_rfl) (by kernel_rfl) (by kernel_rfl) (fun _ _ _ h => h) (Or.inl ⟨by rfl, ?_⟩) (by assumption) ?_
  rotate_left
  · (intro w hSw; (try dsimp only at hSw); go_simp; try with_reducible rfl)
  try simp only [List.getElem_toArray, List.getElem_cons_succ, List.getElem_cons_zero, Act.put, List.setIfInBounds_toArray, List.set_cons_zero, List.set_cons_succ]
  refine wpAnyH_take (i := 27) (v := ?_) rfl (by kernel_rfl) (by kernel_rfl) (by kernel_rfl) (fun _ _ _ h => h) (Or.inl ⟨by rfl, ?_⟩) (by assumption) ?_
  rotate_left
  · (intro w hSw; (try dsimp only at hSw); go_simp; try with_reducible rfl)
  try simp only [List.getElem_toArray, List.getElem_cons_succ, List.getElem_cons_zero, Act.put, List.setIfInBounds_toArray, List.set_cons_zero, List.set_cons_succ]
  refine wpAnyH_take (i := 28) (v := ?_) rfl (by kernel_rfl) (by kernel_rfl) (by kernel_rfl) (fun _ _ _ h => h) (Or.inl ⟨by rfl, ?_⟩) (by assumption) ?_
  rotate_left
  · (intro w hSw; (try dsimp only at hSw); go_simp; try with_reducible rfl)
  try simp only [List.getElem_toArray, List.getElem_cons_succ, List.getElem_cons_zero, Act.put, List.setIfInBounds_toArray, List.set_cons_zero, List.set_cons_succ]
  refine wpAnyH_take (i := 29) (v := ?_) rfl (by kernel_rfl) (by kernel_rfl) (by kernel_rfl) (fun _ _ _ h => h) (Or.inl ⟨by rfl, ?_⟩) (by assumption) ?_
  rotate_left
  · (intro w hSw; (try dsimp only at hSw); go_simp; try with_reducible rfl)
  try simp only [List.getElem_toArray, List.getElem_cons_succ, List.getElem_cons_zero, Act.put, List.setIfInBounds_toArray, List.set_cons_zero, List.set_cons_succ]
  refine wpAnyH_take (i := 31) (v := ?_) rfl (by kernel_rfl) (by kernel_rfl) (by kernel_rfl) (fun _ _ _ h => h) (Or.inl ⟨by rfl, ?_⟩) (by assumption) ?_
  rotate_left
  · (intro w hSw; (try dsimp only at hSw); go_simp; try with_reducible rfl)
  try simp only [List.getElem_toArray, List.getElem_cons_succ, List.getElem_cons_zero, Act.put, List.setIfInBounds_toArray, List.set_cons_zero, List.set_cons_succ]
  refine wpAnyH_take (i := 32) (v := ?_) rfl (by kernel_rfl) (by kernel_rfl) (by kernel_rfl) (fun _ _ _ h => h) (Or.inl ⟨by rfl, ?_⟩) (by assumption) ?_
  rotate_left
  · (intro w hSw; (try dsimp only at hSw); go_simp; try with_reducible rfl)
  try simp only [List.getElem_toArray, List.getElem_cons_succ, List.getElem_cons_zero, Act.put, List.setIfInBounds_toArray, List.set_cons_zero, List.set_cons_succ]
  refine wpAnyH_take (i := 33) (v := ?_) rfl (by kernel_rfl) (by kernel_rfl) (by kernel_rfl) (fun _ _ _ h => h) (Or.inl ⟨by rfl, ?_⟩) (by assumption) ?_
  rotate_left
  · (intro w hSw; (try dsimp only at hSw); go_simp; try with_reducible rfl)
  try simp only [List.getElem_toArray, List.getElem_cons_succ, List.getElem_cons_zero, Act.put, List.setIfInBounds_toArray, List.set_cons_zero, List.set_cons_succ]
  refine wpAnyH_take (i := 34) (v := ?_) rfl (by kernel_rfl) (by kernel_rfl) (by kernel_rfl) (fun _ _ _ h => h) (Or.inl ⟨by rfl, ?_⟩) (by assumption) ?_
  rotate_left
  · (intro w hSw; (try dsimp only at hSw); go_simp; try with_reducible rfl)
  try simp only [List.getElem_toArray, List.getElem_cons_succ, List.getElem_cons_zero, Act.put, List.setIfInBounds_toArray, List.set_cons_zero, List.set_cons_succ]
  refine wpAnyH_take (i := 36) (v := ?_) rfl (by kernel_rfl) (by kernel_rfl) (by kernel_rfl) (fun _ _ _ h => h) (Or.inl ⟨by rfl, ?_⟩) (by assumption) ?_
  rotate_left
  · (intro w hSw; (try dsimp only at hSw); go_simp; try with_reducible rfl)
  try simp only [List.getElem_toArray, List.getElem_cons_succ, List.getElem_cons_zero, Act.put, List.setIfInBounds_toArray, List.set_cons_zero, List.set_cons_succ]
  refine wpAnyH_take (i := 37) (v := ?_) rfl (by kernel_rfl) (by kernel_rfl) (by kernel_rfl) (fun _ _ _ h => h) (Or.inl ⟨by rfl, ?_⟩) (by assumption) ?_
  rotate_left
  · (intro w hSw; (try dsimp only at hSw); go_simp; try with_reducible rfl)
  try simp only [List.getElem_toArray, List.getElem_cons_succ, List.getElem_cons_zero, Act.put, List.setIfInBounds_toArray, List.set_cons_zero, List.set_cons_succ]
  refine wpAnyH_take (i := 38) (v := ?_) rfl (by kernel_rfl) (by kernel_rfl) (by kernel_rfl) (fun _ _ _ h => h) (Or.inl ⟨by rfl, ?_⟩) (by assumption) ?_
  rotate_left
  · (intro w hSw; (try dsimp only at hSw); go_simp; try with_reducible rfl)
  try simp only [List.getElem_toArray, List.getElem_cons_succ, List.getElem_cons_zero, Act.put, List.setIfInBounds_toArray, List.set_cons_zero, List.set_cons_succ]
  refine wpAnyH_take (i := 39) (v := ?_) rfl (by kernel_rfl) (by kernel_rfl) (by kernel_rfl) (fun _ _ _ h => h) (Or.inl ⟨by rfl, ?_⟩) (by assumption) ?_
  rotate_left
  · (intro w hSw; (try dsimp only at hSw); go_simp; try with_reducible rfl)
  try simp only [List.getElem_toArray, List.getElem_cons_succ, List.getElem_cons_zero, Act.put, List.setIfInBounds_toArray, List.set_cons_zero, List.set_cons_succ]
  refine wpAnyH_take (i := 41) (v := ?_) rfl (by kernel_rfl) (by kernel_rfl) (by kernel_rfl) (fun _ _ _ h => h) (Or.inl ⟨by rfl, ?_⟩) (by assumption) ?_
  rotate_left
  · (intro w hSw; (try dsimp only at hSw); go_simp; try with_reducible rfl)
  try simp only [List.getElem_toArray, List.getElem_cons_succ, List.getElem_cons_zero, Act.put, List.setIfInBounds_toArray, List.set_cons_zero, List.set_cons_succ]
  refine wpAnyH_take (i := 43) (v := ?_) rfl (by kernel_rfl) (by kernel_rfl) (by kernel_rfl) (fun _ _ _ h => h) (Or.inl ⟨by rfl, ?_⟩) (by assumption) ?_
  rotate_left
  · (intro w hSw; (try dsimp only at hSw); go_simp; try with_reducible rfl)
  try simp only [List.getElem_toArray, List.getElem_cons_succ, List.getElem_cons_zero, Act.put, List.setIfInBounds_toArray, List.set_cons_zero, List.set_cons_succ]
  refine wpAnyH_take (i := 44) (v := ?_) rfl (by kernel_rfl) (by kernel_rfl) (by kernel_rfl) (fun _ _ _ h => h) (Or.inl ⟨by rfl, ?_⟩) (by assumption) ?_
  rotate_left
  · (intro w hSw; (try dsimp only at hSw); go_simp; try with_reducible rfl)
  try simp only [List.getElem_toArray, List.getElem_cons_succ, List.getElem_cons_zero, Act.put, List.setIfInBounds_toArray, List.set_cons_zero, List.set_cons_succ]
  refine wpAnyH_take (i := 45) (v := ?_) rfl (by kernel_rfl) (by kernel_rfl) (by kernel_rfl) (fun _ _ _ h => h) (Or.inl ⟨by rfl, ?_⟩) (by assumption) ?_
  rotate_left
  · (intro w hSw; (try dsimp only at hSw); go_simp; try with_reducible rfl)
  try simp only [List.getElem_toArray, List.getElem_cons_succ, List.getElem_cons_zero, Act.put, List.setIfInBounds_toArray, List.set_cons_zero, List.set_cons_succ]
  refine wpAnyH_take (i := 46) (v := ?_) rfl (by kernel_rfl) (by kernel_rfl) (by kernel_rfl) (fun _ _ _ h => h) (Or.inl ⟨by rfl, ?_⟩) (by assumption) ?_
  rotate_left
  · (intro w hSw; (try dsimp only at hSw); go_simp; try with_reducible rfl)
  try simp only [List.getElem_toArray, List.getElem_cons_succ, List.getElem_cons_zero, Act.put, List.setIfInBounds_toArray, List.set_cons_zero, List.set_cons_succ]
  refine wpAnyH_take (i := 48) (v := ?_) rfl (by kernel_rfl) (by kernel_rfl) (by kernel_rfl) (fun _ _ _ h => h) (Or.inl ⟨by rfl, ?_⟩) (by assumption) ?_
  rotate_left
  · (intro w hSw; (try dsimp only at hSw); go_simp; try with_reducible rfl)
  try simp only [List.getElem_toArray, List.getElem_cons_succ, List.getElem_cons_zero, Act.put, List.setIfInBounds_toArray, List.set_cons_zero, List.set_cons_succ]
  refine wpAnyH_take (i := 49) (v := ?_) rfl (by kernel_rfl) (by kernel_rfl) (by kernel_rfl) (fun _ _ _ h => h) (Or.inl ⟨by rfl, ?_⟩) (by assumption) ?_
  rotate_left
  · (intro w hSw; (try dsimp only at hSw); go_simp; try with_reducible rfl)
  try simp only [List.getElem_toArray, List.getElem_cons_succ, List.getElem_cons_zero, Act.put, List.setIfInBounds_toArray, List.set_cons_zero, List.set_cons_succ]
  refine wpAnyH_ready (rs := [1]) (by kernel_rfl) (by simp) ?_
  refine AllReadyH.cons rfl (fun K hK => ?_) (AllReadyH.nil)
  go_simp
  go_at_call 106
  refine (HST.out W0.drew (HK.out _ (bel_drewN (Below.refl _ _) 1))).mono ?_
  rintro e u1 ⟨rfl, hb⟩
  have hb1 : Below W0.heap.size W0 u1 := ⟨hb.os, hb.tape, hb.output, hb.size, hb.block⟩
  have hS1 := HS1.out u1 hb1
  have HB1 := Hid.mk' hb1
  have HW1 := Hid.mk' (HWR.out u1 (HK.out u1 hb1))
  have HJ1 := Hid.mk' (HCJ.out u1 (HK.out u1 hb1))
  have HL1 := Hid.mk' (HCL.out u1 (HK.out u1 hb1))
  have HR1 := Hid.mk' (HCR.out u1 (HK.out u1 hb1))
  have HH1 := Hid.mk' (HHE.out u1 (HK.out u1 hb1))
  clear hb hb1 HST HWR HCJ HCL HCR HHE hS0
  go_wp2_with fail
  refine hK.out _ _ hS1 (fun hHeld => ?_)
  clear hK K
  try simp only [List.getElem_toArray, List.getElem_cons_succ, List.getElem_cons_zero, Act.put, List.setIfInBounds_toArray, List.set_cons_zero, List.set_cons_succ]
  refine wpAnyH_ready (rs := [20]) (by kernel_rfl) (by simp) ?_
  refine AllReadyH.cons rfl (fun K hK => ?_) (AllReadyH.nil)
  go_simp
  go_at_call 107
  refine HW1.out.mono ?_
  rintro e uu ⟨rfl, hu⟩
  subst uu
  go_wp2_with fail
  refine hK.out _ _ hS1 (fun hHeld => ?_)
  clear hK K
  try simp only [List.getElem_toArray, List.getElem_cons_succ, List.getElem_cons_zero, Act.put, List.setIfInBounds_toArray, List.set_cons_zero, List.set_cons_succ]
  refine wpAnyH_ready (rs := [30]) (by kernel_rfl) (by simp) ?_
  refine AllReadyH.cons rfl (fun K hK => ?_) (AllReadyH.nil)
  go_simp
  go_at_call 108
  refine HJ1.out.mono ?_
  rintro e uu ⟨rfl, hu⟩
  subst uu
  go_wp2_with fail
  refine hK.out _ _ hS1 (fun hHeld => ?_)
  clear hK K
  try simp only [List.getElem_toArray, List.getElem_cons_succ, List.getElem_cons_zero, Act.put, List.setIfInBounds_toArray, List.set_cons_zero, List.set_cons_succ]
  refine wpAnyH_ready (rs := [35]) (by kernel_rfl) (by simp) ?_
  refine AllReadyH.cons rfl (fun K hK => ?_) (AllReadyH.nil)
  go_simp
  go_at_call 108
  refine HL1.out.mono ?_
  rintro e uu ⟨rfl, hu⟩
  subst uu
  go_wp2_with fail
  refine hK.out _ _ hS1 (fun hHeld => ?_)
  clear hK K
  try simp only [List.getElem_toArray, List.getElem_cons_succ, List.getElem_cons_zero, Act.put, List.setIfInBounds_toArray, List.set_cons_zero, List.set_cons_succ]
  refine wpAnyH_ready (rs := [40]) (by kernel_rfl) (by simp) ?_
  refine AllReadyH.cons rfl (fun K hK => ?_) (AllReadyH.nil)
  go_simp
  go_at_call 109
  refine HR1.out.mono ?_
  rintro e uu ⟨rfl, hu⟩
  subst uu
  clear HW1 HJ1 HL1 HR1
  go_wp2_with fail
  refine hK.out _ _ hS1 (fun hHeld => ?_)
  clear hK K
  try simp only [List.getElem_toArray, List.getElem_cons_succ, List.getElem_cons_zero, Act.put, List.setIfInBounds_toArray, List.set_cons_zero, List.set_cons_succ]
  refine wpAnyH_ready (rs := [42]) (by kernel_rfl) (by simp) ?_
  refine AllReadyH.cons rfl (fun K hK => ?_) (AllReadyH.nil)
  go_simp
  go_at_call 110
  refine HH1.out.mono ?_
  rintro e u2 ⟨v1, rfl, ho1, hb⟩
  have hb2 : Below W0.heap.size W0 u2 := HB1.out.trans (hb.mono HB1.out.size)
  have hS2 := HS1.out u2 hb2
  have HB2 := Hid.mk' hb2
  have HO1 := Hid.mk' ho1
  obtain ⟨A1, cap1, rfl, -⟩ := own_open ho1
  have HN2 := Hid.mk' (HNU.out u2 (HK.out u2 hb2))
  clear hb hb2 HH1 hS1 HNU ho1
  go_wp2_with fail
  refine hK.out _ _ hS2 (fun hHeld => ?_)
  clear hK K
  try simp only [List.getElem_toArray, List.getElem_cons_succ, List.getElem_cons_zero, Act.put, List.setIfInBounds_toArray, List.set_cons_zero, List.set_cons_succ]
  refine wpAnyH_ready (rs := [47]) (by kernel_rfl) (by simp) ?_
  refine AllReadyH.cons rfl (fun K hK => ?_) (AllReadyH.nil)
  go_simp
  go_at_call 111
  refine HN2.out.mono ?_
  rintro e u3 ⟨v2, rfl, ho2, hb⟩
  have hb3 : Below W0.heap.size W0 u3 := HB2.out.trans (hb.mono HB2.out.size)
  have hS3 := HS1.out u3 hb3
  have HB3 := Hid.mk' hb3
  have HO2 := Hid.mk' ho2
  have HB23 := Hid.mk' hb
  obtain ⟨A2, cap2, rfl, -⟩ := own_open ho2
  have HT3 := Hid.mk' (HTE.out u3 (HK.out u3 hb3))
  clear hb hb3 HN2 hS2 HTE ho2
  go_wp2_with fail
  refine hK.out _ _ hS3 (fun hHeld => ?_)
  clear hK K
  try simp only [List.getElem_toArray, List.getElem_cons_succ, List.getElem_cons_zero, Act.put, List.setIfInBounds_toArray, List.set_cons_zero, List.set_cons_succ]
  refine wpAnyH_ready (rs := [50]) (by kernel_rfl) (by simp) ?_
  refine AllReadyH.cons rfl (fun K hK => ?_) (AllReadyH.nil)
  go_simp
  go_at_call 112
  refine HT3.out.mono ?_
  rintro e u4 ⟨v3, rfl, ho3, hb⟩
  have hb4 : Below W0.heap.size W0 u4 := HB3.out.trans (hb.mono HB3.out.size)
  have hS4 := HS1.out u4 hb4
  have hF := HFIN.out u2 u3 u4 _ _ v3 u1.heap.size u2.heap.size u3.heap.size (by rw [← HZ.out]; exact HB1.out.size) (by rw [← HZ.out]; exact HB2.out.size) (by rw [← HZ.out]; exact HB3.out.size) (Nat.le_refl _) (Nat.le_refl _) HO1.out HB23.out HO2.out hb ho3 hb4
  obtain ⟨A3, cap3, rfl, -⟩ := own_open ho3
  have hS5 := HS5.out _ hF.2.1
  have HF := Hid.mk' hF
  have HX4 := Hid.mk' (HX0.out.below hb4)
  clear hb hb4 HT3 hS3 ho3 hF
  go_wp2_with fail
  refine hK.out _ _ hS4 (fun hHeld => ?_)
  clear hK K
  try simp only [List.getElem_toArray, List.getElem_cons_succ, List.getElem_cons_zero, Act.put, List.setIfInBounds_toArray, List.set_cons_zero, List.set_cons_succ]
  refine wpAnyH_take (i := 51) (v := ?_) rfl (by kernel_rfl) (by kernel_rfl) (by kernel_rfl) (fun _ _ _ h => h) (Or.inl ⟨by rfl, ?_⟩) (by assumption) ?_
  rotate_left
  · (intro w hSw; (try dsimp only at hSw); go_simp; try with_reducible rfl)
  try simp only [List.getElem_toArray, List.getElem_cons_succ, List.getElem_cons_zero, Act.put, List.setIfInBounds_toArray, List.set_cons_zero, List.set_cons_succ]
  refine wpAnyH_ready (rs := [52]) (by kernel_rfl) (by simp) ?_
  refine AllReadyH.cons rfl (fun K hK => ?_) AllReadyH.nil
  refine stepStore rfl _ _ 64 rfl R 64 _ #[.int .i64 ls, .int .i64 s.given, .int .i64 s.summed, .int .i64 s.wrote, .int .i64 s.writes, .int .i64 s.jobs.length, .int .i64 s.lane.length, .int .i64 s.ready.length, .slice A1 p.W cap1, .slice A2 s.shelf.length cap2, .slice A3 (s.ended p).length cap3] rfl rfl HX4.out infoView rfl rfl ?_
  go_wp2_with fail
  refine hK.out _ _ hS5 (fun hHeld => ?_)
  clear hK K
  try simp only [List.getElem_toArray, List.getElem_cons_succ, List.getElem_cons_zero, Act.put, List.setIfInBounds_toArray, List.set_cons_zero, List.set_cons_succ]
  refine wpAnyH_done (by kernel_rfl) ?_ _
  go_wp2
  exact bodyPost_ret (res_view _ R _ _ (HX4.out.row _) rfl rfl) rfl ⟨_, _, _, rfl, HF.out⟩
end Go.Proofs.YtlncjgnomhpjnabGreatDoor

