import Derived.Test.YtlncjgnomhpjnabGreatDoorQT36
import Derived.Test.YtlncjgnomhpjnabGreatDoorQT32
import Derived.Test.YtlncjgnomhpjnabGreatDoorQT34
import Derived.Lib.AppendStr
/-
  The shelf: a frame is laid on it.
-/
namespace Go.Proofs.YtlncjgnomhpjnabGreatDoor
open Go.RowKit Go.Deep
set_option linter.unusedVariables false
theorem insL_at (k : Nat) : ∀ l : List Nat, l.Pairwise (· < ·) → insL k l = l.take (l.countP fun x => decide (x < k)) ++ k :: l.drop (l.countP fun x => decide (x < k))
  | [], _ => rfl
  | x :: r, h => by
    have h1 := List.pairwise_cons.1 h
    by_cases hx : x < k
    · rw [List.countP_cons_of_pos (by simpa using hx)]
      simp only [insL, if_pos hx, List.take_succ_cons, List.drop_succ_cons, List.cons_append]
      rw [insL_at k r h1.2]
    · have hz : (x :: r).countP (fun x => decide (x < k)) = 0 := by
        rw [List.countP_eq_zero]
        intro y hy
        rcases List.mem_cons.1 hy with rfl | hy
        · simpa using hx
        · have := h1.1 y hy
          simp
          omega
      rw [hz]
      simp only [insL, if_neg hx, List.take_zero, List.drop_zero, List.nil_append]
theorem shOwn {w w' : World} {base : Nat} {e : TypeId} {size : Nat} {v : Value} {n : Nat} {xs : List Value} {S : Nat → Prop} (h : w.ownsRow base e size v n xs) (he : Edit S w w') (hS : ∀ g, v.ownBlock = some g → ¬ S g) : w'.ownsRow base e size v n xs := by
  refine ⟨h.1, ?_⟩
  rcases h.2 with ⟨rfl, rfl⟩ | ⟨g, cap, cur, rfl, h1, h2, h3⟩
  · exact Or.inl ⟨rfl, rfl⟩
  · exact Or.inr ⟨g, cap, cur, rfl, h1, (he.block g (Array.getElem?_eq_some_iff.1 h2).1 (hS g rfl)).trans h2, h3⟩
theorem shOwn_lt {w : World} {base : Nat} {e : TypeId} {size : Nat} {v : Value} {n : Nat} {xs : List Value} (h : w.ownsRow base e size v n xs) : ∀ g, v.ownBlock = some g → g < w.heap.size := by
  intro g hg
  rcases h.2 with ⟨rfl, rfl⟩ | ⟨g', cap, cur, rfl, h1, h2, h3⟩
  · cases hg
  · cases hg
    exact (Array.getElem?_eq_some_iff.1 h2).1
set_option linter.unusedSimpArgs false in
set_option maxHeartbeats 2000000 in
theorem shLay_any (T : Nat → ByteArray) (l : List Nat) (k base lb o : Nat) (sv : Value) (w : World) (hc : w.cell? ⟨lb, o, none⟩ = some sv) (hf : w.frozen? ⟨lb, o, none⟩ = false) (hlb : lb < w.heap.size) (hne : sv.ownBlock ≠ some lb)
    (hsv : w.ownsRow base 149 2 sv l.length (shC T l)) (hbase : base ≤ w.heap.size) (hsort : l.Pairwise (· < ·)) (hl : l.length ≤ 500) :
    Calls Tryz.prog 396 #[.pointer (some ⟨lb, o, none⟩), .agg #[.int .i64 k, .string (T k)]] w fun e w' => e = .returned (.tuple #[]) ∧ ∃ sv' u, w' = u.setCell ⟨lb, o, none⟩ sv' ∧ Laid T base sv sv' (insL k l) w u := by
  have hbx := Bx.new w #[.int .i64 k, .string (T k)] 149
  have HE0 : Hid (Edit (fun _ => False) w (w.alloc (.cells #[.int .i64 k, .string (T k)] 149))) := (Edit.refl _ w).alloc _
  have hlt := shOwn_lt hsv
  have HOWN : Hid (∀ u, Edit (fun _ => False) w u → u.ownsRow base 149 2 sv l.length (shC T l)) := fun u he => shOwn hsv he fun _ _ => id
  have HSR : Hid (∀ u, Edit (fun _ => False) w u → Calls Tryz.prog 400 #[sv, .agg #[.int .i64 k, .string (T k)], .func (.func 401) #[] #[]] u fun e w' => (∃ b, e = .returned (.tuple #[.int .i64 (l.countP (fun x => decide (x < k)) : Nat), .bool b])) ∧ Below u.heap.size u w') :=
    fun u he => search_any T l k (T k) base sv u (HOWN.out u he) hsort (by omega)
  have HIN : Hid (∀ u vb, Edit (fun _ => False) w u → w.heap.size ≤ vb → Bx u vb 149 #[.int .i64 k, .string (T k)] → Calls Tryz.prog 403 #[sv, .int .i64 (l.countP (fun x => decide (x < k)) : Nat), .slice (some ⟨vb, 0, none⟩) 1 1] u fun e w' => ∃ sv', e = .returned sv' ∧ Laid T base sv sv' (insL k l) u w') := fun u vb he hvb hb => by
    have h1 := insert_any T l (l.countP fun x => decide (x < k)) k base sv u vb (HOWN.out u he) (Nat.le_trans hbase he.size) List.countP_le_length hl hb (fun hh => by have := hlt vb hh; omega)
    rw [← insL_at k l hsort] at h1
    exact h1
  have HCE : Hid (∀ u, Edit (fun b => sv.ownBlock = some b) w u → u.cell? ⟨lb, o, none⟩ = some sv ∧ u.frozen? ⟨lb, o, none⟩ = false) := fun u he => by
    have hb := he.block lb hlb hne
    exact ⟨(cellOf hb).trans hc, by simpa [World.frozen?, hb] using hf⟩
  have HBX : Hid (∀ u, Edit (fun b => sv.ownBlock = some b) (w.alloc (.cells #[.int .i64 k, .string (T k)] 149)) u → u.cell? ⟨w.heap.size, 0, none⟩ = some (.int .i64 k) ∧ u.cell? ⟨w.heap.size, 1, none⟩ = some (.string (T k))) := fun u he => by
    have h1 := hbx.edit he (fun hh => by have := hlt _ hh; omega)
    exact ⟨h1.cell 0, h1.cell 1⟩
  have hx0 : (w.alloc (.cells #[.int .i64 k, .string (T k)] 149)).drew.cell? ⟨lb, o, none⟩ = some sv := (HCE.out _ ((HE0.out.mono fun _ h => h.elim))).1
  have hx1 := HBX.out (w.alloc (.cells #[.int .i64 k, .string (T k)] 149)).drew ((Edit.refl _ _).drewN 1)
  have HFIN : Hid (∀ u u2 sv', Edit (fun _ => False) w u → Laid T base sv sv' (insL k l) u u2 → Laid T base sv sv' (insL k l) w u2) := fun u u2 sv' he h => ⟨h.own, (he.mono fun _ h => h.elim).trans h.edit, fun g hg => by
    rcases h.new g hg with h1 | h1
    · exact Or.inl h1
    · exact Or.inr (Nat.le_trans he.size h1)⟩
  obtain ⟨W0, hW0⟩ : ∃ W, W = w.alloc (.cells #[.int .i64 k, .string (T k)] 149) := ⟨_, rfl⟩
  obtain ⟨n, hn⟩ : ∃ n, n = w.heap.size := ⟨_, rfl⟩
  rw [← hW0] at HE0 HBX hx0 hx1
  rw [← hn] at HBX hx1
  have HN : Hid (n = w.heap.size) := hn
  have HW : Hid (W0 = w.alloc (.cells #[.int .i64 k, .string (T k)] 149)) := hW0
  obtain ⟨A, cap, rfl, -⟩ := own_open hsv
  generalize l.countP (fun x => decide (x < k)) = i at *
  generalize insL k l = l' at *
  generalize hT : T k = tk at *
  have hnl : ¬ lb = n := by omega
  clear hsv hc hf hbx hsort hlt
  go_enter Tryz.func396, Tryz.ntmps396
  go_wp2_with fail
  rw [← hW0, ← hn]
  clear hW0 hn hT
  have hS0 := And.intro hx0 hx1
  go_region_held3 (fun w' => w'.cell? ⟨lb, o, none⟩ = some (.slice A l.length cap) ∧ w'.cell? ⟨n, 0, none⟩ = some (.int .i64 k) ∧ w'.cell? ⟨n, 1, none⟩ = some (.string tk)) (first | with_reducible exact hS0 | with_reducible exact hS1)
    (first
    | (go_at_call 400; refine (HSR.out _ (HE0.out.drewN 1)).mono ?_; rintro e u ⟨⟨bb, rfl⟩, hb⟩; have HE1 : Hid (Edit (fun _ => False) W0 u) := Edit.of (⟨hb.os, hb.tape, hb.output, hb.size, hb.block⟩ : Below W0.heap.size W0 u); have hS1 := And.intro (HCE.out u ((HE0.out.trans HE1.out).mono fun _ h => h.elim)).1 (HBX.out u (HE1.out.mono fun _ h => h.elim)); clear hb))
  have hx2 : u.drew.cell? ⟨lb, o, none⟩ = some (.slice A l.length cap) := hS1.1
  have hS2 : u.drew.cell? ⟨n, 0, none⟩ = some (.int .i64 k) ∧ u.drew.cell? ⟨n, 1, none⟩ = some (.string tk) := hS1.2
  have HE3 : Hid (Edit (fun _ => False) u (u.alloc (.cells #[.int .i64 k, .string tk] 149)).drew) := ((Edit.refl _ u).alloc _).drewN 1
  have hS3 := HBX.out (u.alloc (.cells #[.int .i64 k, .string tk] 149)).drew ((HE1.out.trans HE3.out).mono fun _ h => h.elim)
  have hx3 := (HCE.out (u.alloc (.cells #[.int .i64 k, .string tk] 149)).drew ((HE0.out.trans (HE1.out.trans HE3.out)).mono fun _ h => h.elim)).1
  have HE2 : Hid (Edit (fun _ => False) w (u.alloc (.cells #[.int .i64 k, .string tk] 149)).drew) := HE0.out.trans (HE1.out.trans HE3.out)
  have HU : Hid (w.heap.size ≤ u.heap.size) := (HE0.out.trans HE1.out).size
  have HB2 : Hid (Bx (u.alloc (.cells #[.int .i64 k, .string tk] 149)).drew u.heap.size 149 #[.int .i64 k, .string tk]) := (Bx.new u _ _ : Bx (u.alloc _) u.heap.size 149 _)
  clear hx0 hx1 hS0 hS1
  go_wp2_with fail
  refine wp_region_held_drew (S := fun w' => w'.cell? ⟨n, 0, none⟩ = some (.int .i64 k) ∧ w'.cell? ⟨n, 1, none⟩ = some (.string tk)) (by kernel_rfl) hS2 (fun hHeld => ?_)
  refine wpAnyH_take (i := 0) (v := ?_) rfl (by kernel_rfl) (by kernel_rfl) (by kernel_rfl) (fun _ _ _ h => h) (Or.inl ⟨by rfl, ?_⟩) (by assumption) ?_
  rotate_left
  · (intro w hSw; (try dsimp only at hSw); go_simp; try with_reducible rfl)
  try simp only [List.getElem_toArray, List.getElem_cons_succ, List.getElem_cons_zero, Act.put, List.setIfInBounds_toArray, List.set_cons_zero, List.set_cons_succ]
  refine wpAnyH_take (i := 1) (v := ?_) rfl (by kernel_rfl) (by kernel_rfl) (by kernel_rfl) (fun _ _ _ h => h) (Or.inl ⟨by rfl, ?_⟩) (by assumption) ?_
  rotate_left
  · (intro w hSw; (try dsimp only at hSw); go_simp; try with_reducible rfl)
  try simp only [List.getElem_toArray, List.getElem_cons_succ, List.getElem_cons_zero, Act.put, List.setIfInBounds_toArray, List.set_cons_zero, List.set_cons_succ]
  refine wpAnyH_take (i := 2) (v := ?_) rfl (by kernel_rfl) (by kernel_rfl) (by kernel_rfl) (fun _ _ _ h => h) (Or.inl ⟨by rfl, ?_⟩) (by assumption) ?_
  rotate_left
  · (intro w hSw; (try dsimp only at hSw); go_simp; try with_reducible rfl)
  try simp only [List.getElem_toArray, List.getElem_cons_succ, List.getElem_cons_zero, Act.put, List.setIfInBounds_toArray, List.set_cons_zero, List.set_cons_succ]
  refine wpAnyH_take (i := 4) (v := ?_) rfl (by kernel_rfl) (by kernel_rfl) (by kernel_rfl) (fun _ _ _ h => h) (Or.inl ⟨by rfl, ?_⟩) (by assumption) ?_
  rotate_left
  · (intro w hSw; (try dsimp only at hSw); go_simp; try with_reducible rfl)
  try simp only [List.getElem_toArray, List.getElem_cons_succ, List.getElem_cons_zero, Act.put, List.setIfInBounds_toArray, List.set_cons_zero, List.set_cons_succ]
  refine wpAnyH_take (i := 5) (v := ?_) rfl (by kernel_rfl) (by kernel_rfl) (by kernel_rfl) (fun _ _ _ h => h) (Or.inl ⟨by rfl, ?_⟩) (by assumption) ?_
  rotate_left
  · (intro w hSw; (try dsimp only at hSw); go_simp; try with_reducible rfl)
  try simp only [List.getElem_toArray, List.getElem_cons_succ, List.getElem_cons_zero, Act.put, List.setIfInBounds_toArray, List.set_cons_zero, List.set_cons_succ]
  refine wpAnyH_ready (rs := [3, 6]) (by kernel_rfl) (by simp) ?_
  refine AllReadyH.cons rfl (fun K hK => ?_) (AllReadyH.cons rfl (fun K hK => ?_) (AllReadyH.nil))
  · go_simp
    go_wp2_with fail
    refine hK.out _ _ hS2 (fun hHeld => ?_)
    clear hK K
    try simp only [List.getElem_toArray, List.getElem_cons_succ, List.getElem_cons_zero, Act.put, List.setIfInBounds_toArray, List.set_cons_zero, List.set_cons_succ]
    refine wpAnyH_ready (rs := [6]) (by kernel_rfl) (by simp) ?_
    refine AllReadyH.cons rfl (fun K hK => ?_) (AllReadyH.nil)
    go_simp
    go_wp2_with fail
    refine hK.out _ _ hS3 (fun hHeld => ?_)
    clear hK K
    try simp only [List.getElem_toArray, List.getElem_cons_succ, List.getElem_cons_zero, Act.put, List.setIfInBounds_toArray, List.set_cons_zero, List.set_cons_succ]
    refine wpAnyH_ready (rs := [7]) (by kernel_rfl) (by simp) ?_
    refine AllReadyH.cons rfl (fun K hK => ?_) (AllReadyH.nil)
    go_simp
    go_at_call 403
    refine (HIN.out _ u.heap.size HE2.out HU.out HB2.out).mono ?_
    rintro e u2 ⟨sv', rfl, hla⟩
    obtain ⟨A', cap', rfl, -⟩ := own_open hla.own
    have hla2 := HFIN.out _ _ _ HE2.out hla
    have hc2 := HCE.out u2 hla2.edit
    have hx7 := hc2.1
    have hx8 := hc2.2
    have hS4 := HBX.out u2 (((HE1.out.trans HE3.out).mono fun _ h => h.elim).trans hla.edit)
    have hS5 : (u2.setCell ⟨lb, o, none⟩ (.slice A' l'.length cap')).cell? ⟨n, 0, none⟩ = some (.int .i64 k) ∧ (u2.setCell ⟨lb, o, none⟩ (.slice A' l'.length cap')).cell? ⟨n, 1, none⟩ = some (.string tk) := ⟨(World.cell?_setCell_far _ _ _ _ hnl).trans hS4.1, (World.cell?_setCell_far _ _ _ _ hnl).trans hS4.2⟩
    have HLA := Hid.mk' hla2
    clear hla hla2 hc2
    go_wp2_with fail
    refine hK.out _ _ hS4 (fun hHeld => ?_)
    clear hK K
    try simp only [List.getElem_toArray, List.getElem_cons_succ, List.getElem_cons_zero, Act.put, List.setIfInBounds_toArray, List.set_cons_zero, List.set_cons_succ]
    refine wpAnyH_take (i := 8) (v := ?_) rfl (by kernel_rfl) (by kernel_rfl) (by kernel_rfl) (fun _ _ _ h => h) (Or.inl ⟨by rfl, ?_⟩) (by assumption) ?_
    rotate_left
    · (intro w hSw; (try dsimp only at hSw); go_simp; try with_reducible rfl)
    try simp only [List.getElem_toArray, List.getElem_cons_succ, List.getElem_cons_zero, Act.put, List.setIfInBounds_toArray, List.set_cons_zero, List.set_cons_succ]
    refine wpAnyH_ready (rs := [9]) (by kernel_rfl) (by simp) ?_
    refine AllReadyH.cons rfl (fun K hK => ?_) (AllReadyH.nil)
    go_simp
    go_wp2_with fail
    refine hK.out _ _ hS5 (fun hHeld => ?_)
    clear hK K
    try simp only [List.getElem_toArray, List.getElem_cons_succ, List.getElem_cons_zero, Act.put, List.setIfInBounds_toArray, List.set_cons_zero, List.set_cons_succ]
    refine wpAnyH_done (by kernel_rfl) ?_ _
    go_wp2
    go_end0
    exact ⟨rfl, _, _, rfl, HLA.out⟩
  · go_simp
    go_wp2_with fail
    refine hK.out _ _ hS3 (fun hHeld => ?_)
    clear hK K
    try simp only [List.getElem_toArray, List.getElem_cons_succ, List.getElem_cons_zero, Act.put, List.setIfInBounds_toArray, List.set_cons_zero, List.set_cons_succ]
    refine wpAnyH_ready (rs := [3]) (by kernel_rfl) (by simp) ?_
    refine AllReadyH.cons rfl (fun K hK => ?_) (AllReadyH.nil)
    go_simp
    go_wp2_with fail
    refine hK.out _ _ hS3 (fun hHeld => ?_)
    clear hK K
    try simp only [List.getElem_toArray, List.getElem_cons_succ, List.getElem_cons_zero, Act.put, List.setIfInBounds_toArray, List.set_cons_zero, List.set_cons_succ]
    refine wpAnyH_ready (rs := [7]) (by kernel_rfl) (by simp) ?_
    refine AllReadyH.cons rfl (fun K hK => ?_) (AllReadyH.nil)
    go_simp
    go_at_call 403
    refine (HIN.out _ u.heap.size HE2.out HU.out HB2.out).mono ?_
    rintro e u2 ⟨sv', rfl, hla⟩
    obtain ⟨A', cap', rfl, -⟩ := own_open hla.own
    have hla2 := HFIN.out _ _ _ HE2.out hla
    have hc2 := HCE.out u2 hla2.edit
    have hx7 := hc2.1
    have hx8 := hc2.2
    have hS4 := HBX.out u2 (((HE1.out.trans HE3.out).mono fun _ h => h.elim).trans hla.edit)
    have hS5 : (u2.setCell ⟨lb, o, none⟩ (.slice A' l'.length cap')).cell? ⟨n, 0, none⟩ = some (.int .i64 k) ∧ (u2.setCell ⟨lb, o, none⟩ (.slice A' l'.length cap')).cell? ⟨n, 1, none⟩ = some (.string tk) := ⟨(World.cell?_setCell_far _ _ _ _ hnl).trans hS4.1, (World.cell?_setCell_far _ _ _ _ hnl).trans hS4.2⟩
    have HLA := Hid.mk' hla2
    clear hla hla2 hc2
    go_wp2_with fail
    refine hK.out _ _ hS4 (fun hHeld => ?_)
    clear hK K
    try simp only [List.getElem_toArray, List.getElem_cons_succ, List.getElem_cons_zero, Act.put, List.setIfInBounds_toArray, List.set_cons_zero, List.set_cons_succ]
    refine wpAnyH_take (i := 8) (v := ?_) rfl (by kernel_rfl) (by kernel_rfl) (by kernel_rfl) (fun _ _ _ h => h) (Or.inl ⟨by rfl, ?_⟩) (by assumption) ?_
    rotate_left
    · (intro w hSw; (try dsimp only at hSw); go_simp; try with_reducible rfl)
    try simp only [List.getElem_toArray, List.getElem_cons_succ, List.getElem_cons_zero, Act.put, List.setIfInBounds_toArray, List.set_cons_zero, List.set_cons_succ]
    refine wpAnyH_ready (rs := [9]) (by kernel_rfl) (by simp) ?_
    refine AllReadyH.cons rfl (fun K hK => ?_) (AllReadyH.nil)
    go_simp
    go_wp2_with fail
    refine hK.out _ _ hS5 (fun hHeld => ?_)
    clear hK K
    try simp only [List.getElem_toArray, List.getElem_cons_succ, List.getElem_cons_zero, Act.put, List.setIfInBounds_toArray, List.set_cons_zero, List.set_cons_succ]
    refine wpAnyH_done (by kernel_rfl) ?_ _
    go_wp2
    go_end0
    exact ⟨rfl, _, _, rfl, HLA.out⟩
end Go.Proofs.YtlncjgnomhpjnabGreatDoor

/-
  The shelf: the first frame is taken off; what lies on it is told; it is cleared.
-/
namespace Go.Proofs.YtlncjgnomhpjnabGreatDoor
open Go.RowKit Go.Deep
set_option linter.unusedVariables false
theorem res_first (tmps : Array Value) (R : Nat) (cs : Array Value) (W : World) (h : Bx W R 149 cs) (hs : cs.size = 2) (h2 : tmps.getD 2 undef = .pointer (some ⟨R, 0, none⟩)) :
    (results Tryz.f392 tmps).run Tryz.prog W = .ok (.agg cs) W := by
  have hl := run_loadVar_row (P := Tryz.prog) W R 149 149 cs (0, 0) _ h Tryz.underlying149 rfl (by rw [hs]; exact sizePk)
  rw [Array.getD_eq_getD_getElem?] at h2
  simp [results, Tryz.results392, asAddr, h2, hl]
set_option maxHeartbeats 2000000 in
theorem takeFirst_any (T : Nat → ByteArray) (k : Nat) (r : List Nat) (base lb o : Nat) (t : TypeId) (cs : Array Value) (sv : Value) (w : World) (hlb : Bx w lb t cs) (hcs : cs[o]? = some sv) (hne : sv.ownBlock ≠ some lb)
    (hsv : w.ownsRow base 149 2 sv (k :: r).length (shC T (k :: r))) (hl : r.length ≤ 500) :
    Calls Tryz.prog 392 #[.pointer (some ⟨lb, o, none⟩)] w fun e w' => e = .returned (.agg #[.int .i64 k, .string (T k)]) ∧ ∃ sv', Bx w' lb t (cs.setIfInBounds o sv') ∧ w'.ownsRow base 149 2 sv' r.length (shC T r) ∧ sv'.ownBlock = sv.ownBlock ∧ Edit (fun b => sv.ownBlock = some b ∨ b = lb) w w' := by
  rcases hsv.2 with ⟨-, h0⟩ | ⟨g, cap, cur, rfl, h1, h2, h3, h4, h5, h6⟩
  · simp at h0
  have hgl : g < w.heap.size := (Array.getElem?_eq_some_iff.1 h2).1
  have hll := hlb.lt
  have hng : g ≠ lb := fun hh => hne (by rw [hh]; rfl)
  have hrow : ∀ u, Edit (fun _ => False) w u → u.heap[g]? = some (.cells cur 149 (0, 0)) := fun u he => (he.block g hgl id).trans h2
  have hcell : ∀ u, Edit (fun _ => False) w u → u.cell? ⟨g, 0, none⟩ = some (.int .i64 k) ∧ u.cell? ⟨g, 1, none⟩ = some (.string (T k)) ∧ u.cell? ⟨lb, o, none⟩ = some (.slice (some ⟨g, 0, none⟩) (r.length + 1) cap) := fun u he => by
    have h7 := hrow u he
    have h8 := mem_get (l := k :: r) h6 0 0 _ rfl
    have h9 := mem_get (l := k :: r) h6 0 1 _ rfl
    refine ⟨?_, ?_, (cellOf (he.block lb hll id)).trans ?_⟩
    · simp [World.cell?, h7]; simpa using h8
    · simp [World.cell?, h7]; simpa using h9
    · simp [World.cell?, show w.heap[lb]? = _ from hlb, hcs]
  have HDE : Hid (∀ u, Edit (fun _ => False) w u → Calls Tryz.prog 398 #[.slice (some ⟨g, 0, none⟩) (r.length + 1) cap, .int .i64 0, .int .i64 1] u fun e w' => e = .returned (.slice (some ⟨g, 0, none⟩) r.length cap) ∧ Laid T base (.slice (some ⟨g, 0, none⟩) (r.length + 1) cap) (.slice (some ⟨g, 0, none⟩) r.length cap) r u w') :=
    fun u he => delete_any T k r base g cap cur u h1 (hrow u he) h3 h4 h5 h6 hl
  obtain ⟨n, hn⟩ : ∃ n, n = w.heap.size := ⟨_, rfl⟩
  obtain ⟨W0, hW0⟩ : ∃ W, W = w.alloc (.cells #[.int .i64 0, .string ⟨#[]⟩] 149) := ⟨_, rfl⟩
  have e0 : Edit (fun _ => False) w W0 := by rw [hW0]; exact (Edit.refl _ w).alloc _
  have hz0 : W0.heap.size = n + 1 := by rw [hW0, hn]; simp
  have b0 : Bx W0 n 149 #[.int .i64 0, .string ⟨#[]⟩] := by rw [hW0, hn]; exact Bx.new w _ _
  obtain ⟨W1, hW1⟩ : ∃ W, W = (W0.alloc (.cells #[.int .i64 0, .string ⟨#[]⟩] 149)).setRow (n + 1) #[.int .i64 k, .string (T k)] := ⟨_, rfl⟩
  have e1 : Edit (fun _ => False) W0 W1 := by rw [hW1]; exact ((Edit.refl _ W0).alloc _).row (by omega) _
  have b1 : Bx W1 n 149 #[.int .i64 0, .string ⟨#[]⟩] := b0.edit e1 id
  have b2 : Bx W1 (n + 1) 149 #[.int .i64 k, .string (T k)] := by rw [hW1, ← hz0]; exact (Bx.new W0 _ _).row _
  have x0 := hcell W0 e0
  have x1 := hcell W1 (e0.trans e1)
  have HDL := Hid.mk' (HDE.out W1 (e0.trans e1))
  have HFIN : Hid (∀ u, Laid T base (.slice (some ⟨g, 0, none⟩) (r.length + 1) cap) (.slice (some ⟨g, 0, none⟩) r.length cap) r W1 u →
      u.cell? ⟨lb, o, none⟩ = some (.slice (some ⟨g, 0, none⟩) (r.length + 1) cap) ∧ u.frozen? ⟨lb, o, none⟩ = false ∧
      Bx (u.setCell ⟨lb, o, none⟩ (.slice (some ⟨g, 0, none⟩) r.length cap)) (n + 1) 149 #[.int .i64 k, .string (T k)] ∧
      Bx (u.setCell ⟨lb, o, none⟩ (.slice (some ⟨g, 0, none⟩) r.length cap)) n 149 #[.int .i64 0, .string ⟨#[]⟩] ∧
      ∃ sv', Bx ((u.setCell ⟨lb, o, none⟩ (.slice (some ⟨g, 0, none⟩) r.length cap)).setRow n #[.int .i64 k, .string (T k)]) lb t (cs.setIfInBounds o sv') ∧ ((u.setCell ⟨lb, o, none⟩ (.slice (some ⟨g, 0, none⟩) r.length cap)).setRow n #[.int .i64 k, .string (T k)]).ownsRow base 149 2 sv' r.length (shC T r) ∧ sv'.ownBlock = (Value.slice (some ⟨g, 0, none⟩) (k :: r).length cap).ownBlock ∧
        Edit (fun b => (Value.slice (some ⟨g, 0, none⟩) (k :: r).length cap).ownBlock = some b ∨ b = lb) w ((u.setCell ⟨lb, o, none⟩ (.slice (some ⟨g, 0, none⟩) r.length cap)).setRow n #[.int .i64 k, .string (T k)])) := by
    intro u hla
    have hg1 : ∀ b, b ≠ g → ¬ ((Value.slice (some ⟨g, 0, none⟩) (r.length + 1) cap).ownBlock = some b) := fun b hb hh => hb (by cases hh; rfl)
    have hbl : Bx u lb t cs := (hlb.edit (e0.trans e1) id).edit hla.edit (hg1 lb (Ne.symm hng))
    have c1 := (b2.edit hla.edit (hg1 (n + 1) (by omega))).past (g := lb) (by omega) o (.slice (some ⟨g, 0, none⟩) r.length cap)
    have c2 := (b1.edit hla.edit (hg1 n (by omega))).past (g := lb) (by omega) o (.slice (some ⟨g, 0, none⟩) r.length cap)
    have c3 := hbl.set o (.slice (some ⟨g, 0, none⟩) r.length cap)
    have e4 : Edit (fun b => (Value.slice (some ⟨g, 0, none⟩) (k :: r).length cap).ownBlock = some b ∨ b = lb) w ((u.setCell ⟨lb, o, none⟩ (.slice (some ⟨g, 0, none⟩) r.length cap)).setRow n #[.int .i64 k, .string (T k)]) :=
      ((((e0.trans e1).mono (T := fun b => (Value.slice (some ⟨g, 0, none⟩) (k :: r).length cap).ownBlock = some b ∨ b = lb) fun _ h => h.elim).trans (hla.edit.mono fun b hb => Or.inl hb)).cell (g := lb) (Or.inl (Or.inr rfl)) o _).row (g := n) (Nat.le_of_eq hn.symm) _
    have e5 : Edit (fun b => b = lb ∨ b = n) u ((u.setCell ⟨lb, o, none⟩ (.slice (some ⟨g, 0, none⟩) r.length cap)).setRow n #[.int .i64 k, .string (T k)]) := by
      have h7 : Edit (fun b => b = lb ∨ b = n) u (u.setCell ⟨lb, o, none⟩ (.slice (some ⟨g, 0, none⟩) r.length cap)) := (Edit.refl _ u).cell (Or.inl (Or.inl rfl)) o _
      exact h7.trans ⟨rfl, rfl, rfl, by simp, fun b hb hS => setRow_other _ _ _ _ (fun hh => hS (Or.inr hh))⟩
    refine ⟨(hbl.cell o).trans ?_, hbl.free o, c1, c2, .slice (some ⟨g, 0, none⟩) r.length cap, ?_, shOwn hla.own e5 fun q hq hh => ?_, rfl, e4⟩
    · rw [hcs]; rfl
    · exact c3.of (setRow_other _ _ _ _ (by omega))
    · cases hq
      rcases hh with hh | hh
      · exact hng hh
      · exact absurd hh (by show ¬ g = n; omega)
  obtain ⟨x00, x01, x02⟩ := x0
  obtain ⟨-, -, x12⟩ := x1
  generalize T k = tk at *
  clear hsv h1 h2 h4 h5 h6 hlb hcs hne hcell hrow HDE e0 e1 b1
  have HB1 : Hid (Bx (W0.alloc (.cells #[.int .i64 0, .string ⟨#[]⟩] 149)) (n + 1) 149 #[.int .i64 0, .string ⟨#[]⟩]) := by
    have := Bx.new W0 #[.int .i64 0, .string ⟨#[]⟩] 149
    rw [hz0] at this
    exact this
  clear b0 b2 hz0
  subst hW1 hW0 hn
  go_enter Tryz.func392, Tryz.ntmps392
  go_wp2_with (first
    | (refine wpList_storeRow rfl _ _ 149 rfl (w.heap.size + 1) 149 _ _ rfl rfl HB1.out sizePk rfl rfl ?_)
    | (go_at_call 398; refine HDL.out.mono ?_; rintro e u ⟨rfl, hla⟩; obtain ⟨y0, y1, y2, y3, HY⟩ := HFIN.out u hla; have HY := Hid.mk' HY; have y20 := y2.cell 0; have y21 := y2.cell 1; simp at y20 y21; have HY3 := Hid.mk' y3; clear y2 y3 hla)
    | (refine wpList_storeRow rfl _ _ 149 rfl w.heap.size 149 _ _ rfl rfl HY3.out sizePk rfl rfl ?_))
  exact bodyPost_ret (res_first _ w.heap.size #[.int .i64 k, .string tk] _ (HY3.out.row _) rfl rfl) rfl ⟨rfl, HY.out⟩
theorem clear_any (lb o : Nat) (v : Value) (w : World) (hc : w.cell? ⟨lb, o, none⟩ = some v) (hf : w.frozen? ⟨lb, o, none⟩ = false) :
    Calls Tryz.prog 176 #[.pointer (some ⟨lb, o, none⟩)] w fun e w' => e = .returned (.tuple #[]) ∧ w' = w.setCell ⟨lb, o, none⟩ (.slice none 0 0) := by
  go_enter Tryz.func176, Tryz.ntmps176
  go_wp2
  go_end0
  exact ⟨rfl, rfl⟩
end Go.Proofs.YtlncjgnomhpjnabGreatDoor

/-
  The shelf: what lies on it is told.
-/
namespace Go.Proofs.YtlncjgnomhpjnabGreatDoor
open Go.RowKit Go.Deep
set_option linter.unusedVariables false
theorem info_int : ∃ i, Tryz.prog.info? 3 = some i ∧ i.zero = some (.int .i64 0) ∧ i.size = 1 ∧ i.bytes = 8 := by
  have h := infoInt
  cases hq : Tryz.prog.info? 3 with
  | none => rw [hq] at h; cases h
  | some i =>
    rw [hq] at h
    simp only [Option.map_some, Option.some.injEq, Prod.mk.injEq] at h
    exact ⟨i, rfl, h.1, h.2.1, h.2.2⟩
/-- One number is appended. -/
theorem appInt (wr : World) (base : Nat) (v : Value) (q : Nat) (xs : List Value) (y : Int) (ty : TypeId) (h : wr.ownsRow base 3 1 v q xs) (hb : base ≤ wr.heap.size) (hq : q ≤ 1000) :
    ∃ g cap w', (Builtin.append_ #[30, 30] ty #[v, .slice (some ⟨wr.heap.size, 0, none⟩) 1 1]).run Tryz.prog (wr.alloc (.cells #[.int .i64 y] 3)) = .ok (.slice (some ⟨g, 0, none⟩) (q + 1) cap) w' ∧
      w'.ownsRow base 3 1 (.slice (some ⟨g, 0, none⟩) (q + 1) cap) (q + 1) (xs ++ [.int .i64 y]) ∧ Edit (fun b => v.ownBlock = some b) wr w' ∧ (v.ownBlock = some g ∨ wr.heap.size ≤ g) := by
  obtain ⟨i0, hi0, hz0, hz1, hz2⟩ := info_int
  have ha : (wr.alloc (.cells #[.int .i64 y] 3)).heap.size = wr.heap.size + 1 := by simp
  have e0 : Edit (fun b => v.ownBlock = some b) wr (wr.alloc (.cells #[.int .i64 y] 3)) := (Edit.refl _ wr).alloc _
  obtain ⟨g, cap, u, hr, ho, hg, hat, hlt⟩ := run_append_lies (P := Tryz.prog) (wr.alloc (.cells #[.int .i64 y] 3)) 30 ty base 3 i0 (.int .i64 0) 1 8 Tryz.underlying30 hi0 hz0 hz1 hz2 rfl (by omega) v q xs (shOwn h ((Edit.refl (fun _ => False) wr).alloc _) fun _ _ => id)
    ⟨wr.heap.size, 0, none⟩ 1 1 [.int .i64 y] rfl (fun j x hj => by
      have : (wr.alloc (.cells #[.int .i64 y] 3)).cell? ⟨wr.heap.size, j, none⟩ = (#[.int .i64 y] : Array Value)[j]? := World.cell?_alloc_new _ _ _ _
      rw [Addr.add_lit, Nat.zero_add, this]
      simpa using hj) (fun x hx => by simp at hx; rw [hx]; rfl) (by omega) (by simp only [maxLen]; omega) (by omega) (by omega) (wr.heap.size + 1) ha
  refine ⟨g, cap, u, hr, ho, e0.trans ⟨hg.os, hg.tape, hg.output, hg.size, fun b hb hS => hg.block b hb fun hh => hS hh.symm⟩, ?_⟩
  rcases hat with h1 | h1
  · exact Or.inl h1
  · exact Or.inr (by omega)
theorem own_low {w : World} {base : Nat} {e : TypeId} {size : Nat} {v : Value} {n : Nat} {xs : List Value} (h : w.ownsRow base e size v n xs) : ∀ g, v.ownBlock = some g → base ≤ g := by
  intro g hg
  rcases h.2 with ⟨rfl, rfl⟩ | ⟨g', cap, cur, rfl, h1, h2, h3⟩
  · cases hg
  · cases hg
    exact h1
set_option maxHeartbeats 2000000 in
theorem numbers_any (T : Nat → ByteArray) (l : List Nat) (base : Nat) (sv : Value) (w : World) (hsv : w.ownsRow base 149 2 sv l.length (shC T l)) (hl : l.length ≤ 500) :
    Calls Tryz.prog 111 #[sv] w fun e w' => ∃ v, e = .returned v ∧ w'.ownsRow w.heap.size 3 1 v l.length (l.map fun (k : Nat) => .int .i64 (k : Int)) ∧ Below w.heap.size w w' := by
  obtain ⟨A, cap, rfl, hA⟩ := own_open hsv
  have HA := Hid.mk' hA
  have HGET := Hid.mk' (shC_get T l)
  clear hsv hA
  go_enter Tryz.func111, Tryz.ntmps111
  go_wp2
  go_loopw [3, 8] (fun s3 s8 wr => ∃ q : Nat, q ≤ l.length ∧ s8 = .int .i64 q ∧ Hid (wr.ownsRow w.heap.size 3 1 s3 q ((l.take q).map fun (k : Nat) => .int .i64 (k : Int)) ∧ Below w.heap.size w wr)) (fun _ s8 _ => l.length - (intOf s8).toNat)
  case atStart => exact ⟨0, Nat.zero_le _, rfl, ⟨rfl, Or.inl ⟨rfl, rfl⟩⟩, Below.refl _ _⟩
  case round =>
    obtain ⟨q, hq, rfl, HI⟩ := hrel
    by_cases hlt : q < l.length
    · obtain ⟨g, rfl, hg, hcell⟩ := HA.out (by omega)
      have c0 : wr.cell? ⟨g, q * 2, none⟩ = some (.int .i64 (l[q] : Nat)) := (cellOf (HI.out.2.block g hg)).trans (hcell _ _ (HGET.out q hlt).1)
      have c1 : wr.cell? ⟨g, q * 2 + 1, none⟩ = some (.string (T l[q])) := (cellOf (HI.out.2.block g hg)).trans (hcell _ _ (HGET.out q hlt).2)
      have hsz := HI.out.2.size
      have HTK : Hid (l.take (q + 1) = l.take q ++ [l[q]]) := by show _ = _; rw [List.take_add_one, List.getElem?_eq_getElem hlt]; rfl
      generalize l[q] = y at *
      have HB1 : Hid (Bx (wr.alloc (.cells #[.int .i64 0, .string ⟨#[]⟩] 149)) wr.heap.size 149 #[.int .i64 0, .string ⟨#[]⟩]) := Bx.new wr _ _
      have HB2 : Hid (Edit (fun _ => False) wr ((wr.alloc (.cells #[.int .i64 0, .string ⟨#[]⟩] 149)).setRow wr.heap.size #[.int .i64 y, .string (T y)])) := ((Edit.refl _ wr).alloc _).row (Nat.le_refl _) _
      have hys : ((wr.alloc (.cells #[.int .i64 0, .string ⟨#[]⟩] 149)).setRow wr.heap.size #[.int .i64 y, .string (T y)]).heap.size = wr.heap.size + 1 := by simp
      have hy0 : ((wr.alloc (.cells #[.int .i64 0, .string ⟨#[]⟩] 149)).setRow wr.heap.size #[.int .i64 y, .string (T y)]).cell? ⟨wr.heap.size, 0, none⟩ = some (.int .i64 (y : Nat)) := (HB1.out.row _).cell 0
      obtain ⟨g', cap', w', hr, ho, he, -⟩ := appInt _ w.heap.size _ q _ (y : Nat) 30 (shOwn HI.out.1 HB2.out fun _ _ => id) (Nat.le_trans hsz HB2.out.size) (by omega)
      rw [hys] at hr
      have HR := Hid.mk' hr
      have HO : Hid (w'.ownsRow w.heap.size 3 1 (.slice (some ⟨g', 0, none⟩) (q + 1) cap') (q + 1) ((l.take (q + 1)).map fun (k : Nat) => .int .i64 (k : Int)) ∧ Below w.heap.size w w') := by
        refine ⟨by rw [HTK.out, List.map_append]; exact ho, HI.out.2.trans ?_⟩
        exact ((HB2.out.mono fun _ h => h.elim).trans he).below hsz (fun b hb => own_low HI.out.1 b hb)
      clear hr ho he hcell hys HTK
      go_wp2_with (first
        | (refine wpList_storeRow rfl _ _ 149 rfl wr.heap.size 149 _ _ rfl rfl HB1.out sizePk rfl rfl ?_)
        | (at_builtin; refine Lib.wpList_append_run _ rfl _ _ _ _ rfl _ _ rfl rfl _ _ HR.out ?_))
      go_roundw
      case rel => exact ⟨q + 1, by omega, by go_num, HO⟩
      case measure => simp [intOf]; omega
    · have e : q = l.length := by omega
      subst e
      go_wp2
      go_ret
      have h1 := HI.out
      rw [List.take_length] at h1
      exact ⟨_, rfl, h1⟩
end Go.Proofs.YtlncjgnomhpjnabGreatDoor

/-
  The sink.
-/
namespace Go.Proofs.YtlncjgnomhpjnabGreatDoor
open Go.RowKit Go.Deep
set_option linter.unusedVariables false
theorem Bx.drewN {w : World} {b : Nat} {t : TypeId} {cs : Array Value} (h : Bx w b t cs) (n : Nat) : Bx (w.drewN n) b t cs := h
set_option maxHeartbeats 2000000 in
theorem try_any {p : Lpar} {a : Lad} {x : Lsn} {s : Lst} {sv fv : Value} {w : World} (hl : Bx w a.lb 160 (lnC p a x s sv fv)) (hwr : s.writes ≤ 1000) :
    Calls Tryz.prog 399 #[.pointer (some ⟨a.lb, 18, none⟩)] w fun e w' => e = .returned (.bool (!(s.tries p).failed)) ∧ Bx w' a.lb 160 (lnC p a x (s.tries p) sv fv) ∧ Edit (· = a.lb) w w' := by
  have c19 := hl.cell 19
  have f19 := hl.free 19
  simp [lnC] at c19
  obtain ⟨m, hm⟩ : ∃ m, m = s.writes + 1 := ⟨_, rfl⟩
  have wr1 : IntKind.i64.wrap ((s.writes : Int) + 1) = (m : Int) := by rw [IntKind.wrap_i64]; omega
  have h1 : Bx (w.setCell ⟨a.lb, 19, none⟩ (.int .i64 (m : Int))) a.lb 160 (lnC p a x { s with writes := m } sv fv) := hl.set 19 _
  have e1 := Edit.one w a.lb 19 (.int .i64 (m : Int))
  generalize hu : w.setCell ⟨a.lb, 19, none⟩ (.int .i64 (m : Int)) = u at *
  have d19 := h1.cell 19
  have d18 := h1.cell 18
  have d20 := h1.cell 20
  have g20 := h1.free 20
  simp [lnC] at d18 d19 d20
  by_cases hx : (m : Int) = p.fail
  · have ht : s.tries p = { s with writes := m, failed := true } := by simp only [Lst.tries, ← hm, decide_eq_true hx, Bool.or_true]
    rw [ht]
    have HD : Hid (∀ q, Bx ((u.drewN q).setCell ⟨a.lb, 20, none⟩ (.bool true)) a.lb 160 (lnC p a x { s with writes := m, failed := true } sv fv) ∧ Edit (· = a.lb) w ((u.drewN q).setCell ⟨a.lb, 20, none⟩ (.bool true))) := fun q => ⟨(h1.drewN q).set 20 _, (e1.drewN q).cell (Or.inl rfl) 20 _⟩
    have hb1 : ((m : Int) == p.fail) = true := by rw [hx]; simp
    clear hl h1 e1 ht hx hm
    go_enter Tryz.func399, Tryz.ntmps399
    go_wp2_with fail
    go_quiet (fail)
    go_wp2
    go_ret
    exact ⟨rfl, HD.out _⟩
  · have ht : s.tries p = { s with writes := m } := by simp only [Lst.tries, ← hm, decide_eq_false hx, Bool.or_false]
    rw [ht]
    have HD : Hid (∀ q, Bx (u.drewN q) a.lb 160 (lnC p a x { s with writes := m } sv fv) ∧ Edit (· = a.lb) w (u.drewN q)) := fun q => ⟨h1.drewN q, e1.drewN q⟩
    have hb1 : ((m : Int) == p.fail) = false := by simpa using hx
    clear hl h1 e1 ht hx hm
    go_enter Tryz.func399, Tryz.ntmps399
    go_wp2_with fail
    go_quiet (fail)
    go_wp2
    go_ret
    exact ⟨rfl, HD.out _⟩
/-- A head is set, unless the write fails. -/
def Lst.setHd (p : Lpar) (s : Lst) (q : Nat) : Lst := if (s.tries p).failed then s.tries p else { s.tries p with hd := q }
theorem setHead_any {p : Lpar} {a : Lad} {x : Lsn} {s : Lst} {sv fv : Value} {w : World} (hl : Bx w a.lb 160 (lnC p a x s sv fv)) (hwr : s.writes ≤ 1000) (q : Nat) :
    Calls Tryz.prog 397 #[.pointer (some ⟨a.lb, 18, none⟩), .string (bs (hdT x q))] w fun e w' => e = .returned (.bool (!(s.tries p).failed)) ∧ Bx w' a.lb 160 (lnC p a x (s.setHd p q) sv fv) ∧ Edit (· = a.lb) w w' := by
  have HT := Hid.mk' (try_any hl hwr)
  clear hl
  unfold Lst.setHd
  generalize hS : s.tries p = s1 at *
  clear hS
  cases hf : s1.failed with
  | true =>
    rw [hf] at HT
    rw [if_pos rfl]
    go_enter Tryz.func397, Tryz.ntmps397
    go_wp2_with (go_at_call 399; refine HT.out.mono ?_; rintro e u ⟨rfl, hb, he⟩; have HB := Hid.mk' (And.intro hb he); clear hb he HT)
    go_ret
    exact ⟨rfl, HB.out⟩
  | false =>
    rw [hf] at HT
    rw [if_neg (by simp)]
    have HD : Hid (∀ u, Bx u a.lb 160 (lnC p a x s1 sv fv) → Edit (· = a.lb) w u → Bx (u.setCell ⟨a.lb, 21, none⟩ (.string (bs (hdT x q)))) a.lb 160 (lnC p a x { s1 with hd := q } sv fv) ∧ Edit (· = a.lb) w (u.setCell ⟨a.lb, 21, none⟩ (.string (bs (hdT x q))))) := fun u hb he => ⟨hb.set 21 _, he.cell (Or.inl rfl) 21 _⟩
    generalize bs (hdT x q) = tx at *
    go_enter Tryz.func397, Tryz.ntmps397
    go_wp2_with (go_at_call 399; refine HT.out.mono ?_; rintro e u ⟨rfl, hb, he⟩; have HB := Hid.mk' (HD.out u hb he); have c21 := hb.cell 21; have f21 := hb.free 21; simp [lnC] at c21; clear hb he HT)
    go_ret
    exact ⟨rfl, HB.out⟩
theorem bytV (T : List UInt8) : Lib.strCells (bs T) = T.map fun b => .int .u8 (b.toNat : Int) := by
  simp [Lib.strCells, bs]
theorem info_u8 : ∃ i, Tryz.prog.info? 5 = some i ∧ i.zero = some (.int .u8 0) ∧ i.size = 1 ∧ i.bytes = 1 := by
  have h := infoByte
  cases hq : Tryz.prog.info? 5 with
  | none => rw [hq] at h; cases h
  | some i =>
    rw [hq] at h
    simp only [Option.map_some, Option.some.injEq, Prod.mk.injEq] at h
    exact ⟨i, rfl, h.1, h.2.1, h.2.2⟩
/-- A text is appended. -/
theorem appStr (w : World) (base : Nat) (v : Value) (n : Nat) (xs : List Value) (s : ByteArray) (ty : TypeId) (h : w.ownsRow base 5 1 v n xs) (hb : base ≤ w.heap.size) (hn : n + s.size ≤ 1000000) (hs : 0 < s.size) :
    ∃ g cap w', (Builtin.append_ #[33, 9] ty #[v, .string s]).run Tryz.prog w = .ok (.slice (some ⟨g, 0, none⟩) (n + s.size) cap) w' ∧
      w'.ownsRow base 5 1 (.slice (some ⟨g, 0, none⟩) (n + s.size) cap) (n + s.size) (xs ++ Lib.strCells s) ∧ Edit (fun b => v.ownBlock = some b) w w' ∧ (v.ownBlock = some g ∨ w.heap.size ≤ g) := by
  obtain ⟨i0, hi0, hz0, hz1, hz2⟩ := info_u8
  obtain ⟨v', w', hr, h2, h3, -⟩ := Lib.run_append_own_string (P := Tryz.prog) w base 33 9 ty 5 i0 Tryz.underlying33 Tryz.underlying9 hi0 hz0 hz1 hz2 v n xs h s (by simp only [maxLen]; omega) (by omega) hb
  have e3 : Edit (fun b => v.ownBlock = some b) w w' := ⟨h3.os, h3.tape, h3.output, h3.size, fun b hb hS => h3.block b hb fun hh => hS hh.symm⟩
  obtain ⟨g, cap, rfl, -, -⟩ := h2.form (by omega)
  refine ⟨g, cap, w', hr, h2, e3, ?_⟩
  rcases h.2 with ⟨rfl, rfl⟩ | ⟨g', cap', cur, rfl, hbg, hg, hnc, hcm, hcs, htake⟩
  · have hr2 := run_append_nil_string (P := Tryz.prog) w 33 9 ty 5 i0 (.int .u8 0) Tryz.underlying33 Tryz.underlying9 hi0 hz0 s hs (by omega) (by rw [hz2]; omega)
    rw [hr2] at hr
    injection hr with h5 h6
    injection h5 with h7 h8 h9
    injection h7 with h10
    injection h10 with h11
    exact Or.inr (Nat.le_of_eq h11)
  · by_cases hroom : n + s.size ≤ cap'
    · have hr2 := Lib.run_append_room_string (P := Tryz.prog) w 33 9 ty 5 i0 Tryz.underlying33 Tryz.underlying9 hi0 hz1 g' n cap' cur hg s hroom (by omega)
      rw [hr2] at hr
      injection hr with h5 h6
      injection h5 with h7 h8 h9
      injection h7 with h10
      injection h10 with h11
      exact Or.inl (by rw [h11]; rfl)
    · have hr2 := Lib.run_append_grow_string (P := Tryz.prog) w 33 9 ty 5 i0 (.int .u8 0) Tryz.underlying33 Tryz.underlying9 hi0 hz0 ⟨g', 0, none⟩ n cap' xs (by rw [hz1]; exact h.1) (h.cells (g := g') rfl) s (by omega) (by omega) (by rw [hz2]; exact growslice_fits (by omega) (by omega))
      rw [hr2] at hr
      injection hr with h5 h6
      injection h5 with h7 h8 h9
      injection h7 with h10
      injection h10 with h11
      exact Or.inr (Nat.le_of_eq h11)
/-- What a frame that is added leaves. -/
structure Added (p : Lpar) (a : Lad) (x : Lsn) (s : Lst) (sv fv fv' : Value) (n : Nat) (xs : List Value) (T : List UInt8) (w w' : World) : Prop where
  bx : Bx w' a.lb 160 (lnC p a x (s.tries p) sv fv')
  edit : Edit (fun b => b = a.lb ∨ fv.ownBlock = some b) w w'
  bad : (s.tries p).failed = true → fv' = fv ∧ Edit (· = a.lb) w w'
  good : (s.tries p).failed = false → w'.ownsRow a.b1 5 1 fv' (n + T.length) (xs ++ T.map fun b => .int .u8 (b.toNat : Int)) ∧ ∀ g, fv'.ownBlock = some g → fv.ownBlock = some g ∨ w.heap.size ≤ g
set_option maxHeartbeats 2000000 in
theorem addFrame_any {p : Lpar} {a : Lad} {x : Lsn} {s : Lst} {sv fv : Value} {w : World} (hl : Bx w a.lb 160 (lnC p a x s sv fv)) (hwr : s.writes ≤ 1000) {n : Nat} {xs : List Value} (hfv : w.ownsRow a.b1 5 1 fv n xs) (hb1 : a.b1 ≤ w.heap.size) (hne : fv.ownBlock ≠ some a.lb) (T : List UInt8) (hT : n + T.length ≤ 1000000) (hT0 : 0 < T.length) :
    Calls Tryz.prog 393 #[.pointer (some ⟨a.lb, 18, none⟩), .string (bs T)] w fun e w' => e = .returned (.bool (!(s.tries p).failed)) ∧ ∃ fv', Added p a x s sv fv fv' n xs T w w' := by
  have HT := Hid.mk' (try_any hl hwr)
  cases hf : (s.tries p).failed with
  | true =>
    rw [hf] at HT
    clear hl hfv
    go_enter Tryz.func393, Tryz.ntmps393
    go_wp2_with (go_at_call 399; refine HT.out.mono ?_; rintro e u ⟨rfl, hb, he⟩; have HB := Hid.mk' (And.intro hb he); clear hb he HT)
    go_ret
    exact ⟨rfl, fv, HB.out.1, HB.out.2.mono fun _ h => Or.inl h, fun _ => ⟨rfl, HB.out.2⟩, fun h => (by rw [hf] at h; cases h)⟩
  | false =>
    rw [hf] at HT
    have hsz : (bs T).size = T.length := by simp [bs, ByteArray.size]
    have HA : Hid (∀ u, Bx u a.lb 160 (lnC p a x (s.tries p) sv fv) → Edit (· = a.lb) w u → ∃ g cap w', (Builtin.append_ #[33, 9] 33 #[fv, .string (bs T)]).run Tryz.prog u = .ok (.slice (some ⟨g, 0, none⟩) (n + T.length) cap) w' ∧
        w'.cell? ⟨a.lb, 22, none⟩ = some fv ∧ w'.frozen? ⟨a.lb, 22, none⟩ = false ∧ Added p a x s sv fv (.slice (some ⟨g, 0, none⟩) (n + T.length) cap) n xs T w (w'.setCell ⟨a.lb, 22, none⟩ (.slice (some ⟨g, 0, none⟩) (n + T.length) cap))) := fun u hb he => by
      obtain ⟨g, cap, w', hr, ho, h2, h3⟩ := appStr u a.b1 fv n xs (bs T) 33 (shOwn hfv he fun g hg hh => hne (by rw [hg, hh])) (Nat.le_trans hb1 he.size) (by rw [hsz]; exact hT) (by rw [hsz]; exact hT0)
      rw [hsz] at hr ho
      rw [bytV] at ho
      have hbu := hb.edit h2 hne
      have hgl : g ≠ a.lb := by
        rcases h3 with h3 | h3
        · exact fun hh => hne (by rw [h3, hh])
        · have := hb.lt
          omega
      refine ⟨g, cap, w', hr, (hbu.cell 22).trans rfl, hbu.free 22, hbu.set 22 _, ((he.mono fun _ h => Or.inl h).trans (h2.mono fun _ h => Or.inr h)).cell (Or.inl (Or.inl rfl)) 22 _, fun h => (by rw [hf] at h; cases h), fun _ => ⟨shOwn ho (Edit.one w' a.lb 22 _) fun q hq hh => ?_, fun q hq => ?_⟩⟩
      · cases hq
        exact hgl hh
      · cases hq
        rcases h3 with h3 | h3
        · exact Or.inl h3
        · exact Or.inr (Nat.le_trans he.size h3)
    clear hl hfv hsz
    generalize bs T = tx at *
    go_enter Tryz.func393, Tryz.ntmps393
    go_wp2_with (first
      | (go_at_call 399; refine HT.out.mono ?_; rintro e u ⟨rfl, hb, he⟩; obtain ⟨g, cap, w', hr, c1, c2, c3⟩ := HA.out u hb he; have HR := Hid.mk' hr; have HC := Hid.mk' c3; have c22 := hb.cell 22; simp [lnC] at c22; clear hb he HT HA hr c3)
      | (at_builtin; refine Lib.wpList_append_run _ rfl _ _ _ _ rfl _ _ rfl rfl _ _ HR.out ?_))
    go_ret
    exact ⟨rfl, _, HC.out⟩
end Go.Proofs.YtlncjgnomhpjnabGreatDoor

