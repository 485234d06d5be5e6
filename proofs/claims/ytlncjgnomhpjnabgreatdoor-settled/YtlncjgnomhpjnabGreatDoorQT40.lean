import Derived.Test.YtlncjgnomhpjnabGreatDoorQT39
/-
  What the writer does: a frame is written (the walk).
-/
namespace Go.Proofs.YtlncjgnomhpjnabGreatDoor
open Go.RowKit Go.Deep
set_option linter.unusedVariables false
theorem write_ok {p : Lpar} {s : Lst} {k : Nat} {r : List Nat} (hs : s.shelf = k :: r) (hf : (({ s with shelf := r } : Lst).tries p).failed = false) : s.act p .write = { ({ s with shelf := r } : Lst).tries p with wrote := s.wrote + 1 } := by
  simp only [Lst.act, Lst.frame, hs, List.tail_cons]
  rw [if_neg (by rw [hf]; simp)]
theorem write_bad {p : Lpar} {s : Lst} {k : Nat} {r : List Nat} (hs : s.shelf = k :: r) (hf : (({ s with shelf := r } : Lst).tries p).failed = true) : s.act p .write = (({ s with shelf := r } : Lst).tries p).halt := by
  simp only [Lst.act, Lst.frame, hs, List.tail_cons]
  rw [if_pos hf]
set_option linter.unusedSimpArgs false in
set_option maxRecDepth 100000 in
set_option maxHeartbeats 4000000 in
theorem wrFrame_any {p : Lpar} {a : Lad} {x : Lsn} {F : Nat → Prop} {s : Lst} {w : World} (h : LineIs p a x F s w) (hwr : s.writes ≤ 1000) (r : List Nat) (hsh : s.shelf = s.wrote :: r) (hk : s.wrote < nBlk x.S x.B) (hrl : r.length ≤ 500) :
    Calls Tryz.prog 388 #[ptrV a.wr] w fun e w' => e = .returned (.tuple #[]) ∧ ∃ F', Own F F' w ∧ LineIs p a x F' (s.act p .write) w' ∧ Edit F w w' := by
  obtain ⟨sv, fv, lv, c1, c2, c3, c4, c5, c6, c7, c8⟩ := h.cells
  have hkd := h.kinds
  have kd1 := hkd.lb; have kd4 := hkd.wr
  rw [hsh, shlV_eq] at c3
  have hne : sv.ownBlock ≠ some a.lb := fun hh => by have := (own_kn c3 _ hh).1; rw [kd1] at this; exact absurd this (by decide)
  have HTK := Hid.mk' (takeFirst_any (frB x) s.wrote r a.b1 a.lb 17 160 (lnC p a x s sv fv) sv w c1 rfl hne c3 hrl)
  have HMI : Hid (∀ u sv', Bx u a.lb 160 ((lnC p a x s sv fv).setIfInBounds 17 sv') → u.ownsRow a.b1 149 2 sv' r.length (shC (frB x) r) → sv'.ownBlock = sv.ownBlock → Edit (fun b => sv.ownBlock = some b ∨ b = a.lb) w u → LineIs p a x F { s with shelf := r } u ∧ Edit F w u) := fun u sv' hb ho hob he => h.took c1 hb ho hob he
  have y0 := c2.cell 0
  simp [ptrV] at y0
  have hT0 : 10 ≤ (frT x.d x.ch x.G x.S x.B s.wrote).length ∧ (frT x.d x.ch x.G x.S x.B s.wrote).length ≤ 222 := lnF_bd x.d x.ch x.G x.S x.B s.wrote h.kp.d12 h.kp.n1 h.kp.n4 h.kp.B1 h.kp.B32 hk
  have hTs := frsT_bd x.d x.ch x.G x.S x.B h.kp.d12 h.kp.n1 h.kp.n4 h.kp.B1 h.kp.B32 s.wrote (by omega)
  have hnb := h.kp.nb
  have hTb : (frsT x.d x.ch x.G x.S x.B s.wrote).length + (frT x.d x.ch x.G x.S x.B s.wrote).length ≤ 1000000 := by
    have : 222 * s.wrote ≤ 222 * 300 := Nat.mul_le_mul_left _ (by omega)
    omega
  have hF0 : ∀ k, F k → k < w.heap.size := h.lt
  have HB : Hid (Own F F w) := Own.refl F w
  clear c2 c3 c4 c5 c6 c7 c8 hkd kd1 kd4 hne
  unfold ptrV at *
  have hws : s.wrote ≤ 300 := by omega
  have HOK := Hid.mk' (fun hf => write_ok (p := p) hsh hf)
  have HNO := Hid.mk' (fun hf => write_bad (p := p) hsh hf)
  generalize s.act p .write = s2 at *
  go_enter Tryz.func388, Tryz.ntmps388
  go_wp2_with (first
    | (go_at_call 392; refine HTK.out.mono ?_; rintro e u ⟨rfl, sv', hb, ho, hob, he⟩; have HM := Hid.mk' (HMI.out u sv' hb ho hob he); clear hb ho hob he HTK HMI)
    | (refine wpList_storeRow rfl _ _ 149 rfl u.heap.size 149 _ _ rfl rfl (Bx.new u #[.int .i64 0, .string ⟨#[]⟩] 149) sizePk rfl rfl ?_))
  have HEV : Hid (Edit (fun _ => False) u ((u.alloc (.cells #[.int .i64 0, .string ⟨#[]⟩] 149)).setRow u.heap.size #[.int .i64 s.wrote, .string (frB x s.wrote)])) := ((Edit.refl _ u).alloc _).row (Nat.le_refl _) _
  have HBV : Hid (Bx ((u.alloc (.cells #[.int .i64 0, .string ⟨#[]⟩] 149)).setRow u.heap.size #[.int .i64 s.wrote, .string (frB x s.wrote)]) u.heap.size 149 #[.int .i64 s.wrote, .string (frB x s.wrote)]) := (Bx.new u _ _).row _
  generalize (u.alloc (.cells #[.int .i64 0, .string ⟨#[]⟩] 149)).setRow u.heap.size #[.int .i64 s.wrote, .string (frB x s.wrote)] = v at *
  have hLv := HM.out.1.keep (fun k hk => HEV.out.block k (HM.out.1.lt k hk) id) HEV.out.size
  have HEw : Hid (Edit F w v) := HM.out.2.trans (HEV.out.mono fun _ h => h.elim)
  have hnF : ¬ F u.heap.size := fun hh => Nat.lt_irrefl _ (HM.out.1.lt _ hh)
  generalize u.heap.size = n at *
  clear y0 h c1 HM HEV
  -- addFrame
  obtain ⟨sv1, fv1, lv1, d1, d2, d3, d4, d5, d6, d7, d8⟩ := hLv.cells
  have kd1 := hLv.kinds.lb
  have kd4 := hLv.kinds.wr
  have kf := own_kn d5
  have hne : fv1.ownBlock ≠ some a.lb := fun hh => by have := (kf _ hh).1; rw [kd1] at this; exact absurd this (by decide)
  have hnw : ¬ (a.wr = a.lb ∨ fv1.ownBlock = some a.wr) := fun hh => by
    rcases hh with hh | hh
    · rw [hh, kd1] at kd4; exact absurd kd4 (by decide)
    · have := (kf _ hh).1; rw [kd4] at this; exact absurd this (by decide)
  have hnx : ¬ (n = a.lb ∨ fv1.ownBlock = some n) := fun hh => by
    rcases hh with hh | hh
    · exact hnF (hh ▸ hLv.own.1)
    · exact hnF (d6 n hh)
  have HAF : Hid (Calls Tryz.prog 393 #[.pointer (some ⟨a.lb, 18, none⟩), .string (frB x s.wrote)] v.drew fun e w' => e = .returned (.bool (!(({ s with shelf := r } : Lst).tries p).failed)) ∧ ∃ fv', Added p a x { s with shelf := r } sv1 fv1 fv' (frsT x.d x.ch x.G x.S x.B s.wrote).length ((frsT x.d x.ch x.G x.S x.B s.wrote).map fun b => .int .u8 (b.toNat : Int)) (frT x.d x.ch x.G x.S x.B s.wrote) v w') := by
    refine (addFrame_any (w := v.drew) (s := { s with shelf := r }) d1 hwr (own_at d5 fun _ _ => rfl) hLv.b1 hne (frT x.d x.ch x.G x.S x.B s.wrote) hTb (by omega)).mono ?_
    rintro e w' ⟨rfl, fv', hA⟩
    exact ⟨rfl, fv', hA.bx, ⟨hA.edit.os, hA.edit.tape, hA.edit.output, hA.edit.size, hA.edit.block⟩, fun hf => ⟨(hA.bad hf).1, ⟨(hA.bad hf).2.os, (hA.bad hf).2.tape, (hA.bad hf).2.output, (hA.bad hf).2.size, (hA.bad hf).2.block⟩⟩, hA.good⟩
  have HS : Hid (∀ u2, Edit (fun b => b = a.lb ∨ fv1.ownBlock = some b) v u2 → u2.cell? ⟨a.wr, 0, none⟩ = some (.pointer (some ⟨a.lb, 0, none⟩)) ∧ u2.cell? ⟨n, 1, none⟩ = some (.string (frB x s.wrote))) := fun u2 he => ⟨(d2.edit he hnw).cell 0, (HBV.out.edit he hnx).cell 1⟩
  have hS0 := HS.out v.drew ((Edit.refl _ v).drewN 1)
  have HDD := Hid.mk' d2
  cases hf : (({ s with shelf := r } : Lst).tries p).failed with
  | true =>
    rw [hf] at HAF
    have HBAD : Hid (∀ u2 fv', Added p a x { s with shelf := r } sv1 fv1 fv' (frsT x.d x.ch x.G x.S x.B s.wrote).length ((frsT x.d x.ch x.G x.S x.B s.wrote).map fun b => .int .u8 (b.toNat : Int)) (frT x.d x.ch x.G x.S x.B s.wrote) v u2 → LineIs p a x F (({ s with shelf := r } : Lst).tries p) u2 ∧ Edit F w u2) := fun u2 fv' hA => by
      obtain ⟨h1, h2⟩ := hA.bad hf
      subst h1
      have h3 := hLv.ownCells (s' := ({ s with shelf := r } : Lst).tries p) h2 (fun sva fva hb => ?_) ⟨rfl, rfl, rfl, rfl, rfl, rfl, rfl, rfl, rfl⟩ ⟨rfl, rfl, rfl⟩
      · exact ⟨h3.1, HEw.out.trans h3.2⟩
      · have e1 : lnC p a x { s with shelf := r } sva fva = lnC p a x { s with shelf := r } sv1 fv' := by
          have g1 : v.heap[a.lb]? = _ := hb
          have g2 : v.heap[a.lb]? = _ := d1
          rw [g2] at g1
          injection g1 with g1
          injection g1 with g1
          exact g1.symm
        have e2 : sva = sv1 := by
          have := congrArg (fun c => c[17]?) e1
          simpa [lnC] using this
        have e3 : fva = fv' := by
          have := congrArg (fun c => c[22]?) e1
          simpa [lnC] using this
        subst e2 e3
        exact ⟨sva, hA.bx, Or.inl ⟨rfl, rfl⟩⟩
    have hs2 := HNO.out hf
    clear HOK HNO
    clear hLv d1 d2 d3 d4 d5 d6 d7 d8 hf kd1 kd4 kf hne hnw hnx hT0 hTs hTb HDD HBV hsh hk
    generalize ({ s with shelf := r } : Lst).tries p = s1 at *
    subst hs2
    generalize frB x s.wrote = tx at *
    go_region_held3 (fun w' => w'.cell? ⟨a.wr, 0, none⟩ = some (.pointer (some ⟨a.lb, 0, none⟩)) ∧ w'.cell? ⟨n, 1, none⟩ = some (.string tx)) (first | with_reducible exact hS0 | with_reducible exact hS1)
      (first
      | (go_at_call 393; refine HAF.out.mono ?_; rintro e u2 ⟨rfl, fv', hA⟩; have hS1 := HS.out u2 hA.edit; have HL2 := Hid.mk' (HBAD.out u2 fv' hA); clear hA HAF HBAD))
    have HST := Hid.mk' (stop_any HL2.out.1)
    unfold ptrV at HST
    have y0 := hS1.1
    clear hS0 hS1
    go_wp2_with (go_at_call 115; refine HST.out.mono ?_; rintro e u3 ⟨rfl, hz1, hz2⟩; have HZ := Hid.mk' (And.intro hz1 (HL2.out.2.trans hz2)); clear hz1 hz2 HST)
    try simp only [Exit.inBlock, Exit.then]
    refine bodyPost_ret (results_none rfl _ _ _) rfl ?_
    exact ⟨rfl, F, HB.out, HZ.out⟩
  | false =>
    rw [hf] at HAF
    have hs2 := HOK.out hf
    clear HOK HNO
    have HGOOD : Hid (∀ u2 fv', Added p a x { s with shelf := r } sv1 fv1 fv' (frsT x.d x.ch x.G x.S x.B s.wrote).length ((frsT x.d x.ch x.G x.S x.B s.wrote).map fun b => .int .u8 (b.toNat : Int)) (frT x.d x.ch x.G x.S x.B s.wrote) v u2 →
        u2.drew.cell? ⟨a.wr, 3, none⟩ = some lv1 ∧ ∃ g cap z, (Builtin.append_ #[30, 30] 30 #[lv1, .slice (some ⟨u2.heap.size, 0, none⟩) 1 1]).run Tryz.prog (u2.alloc (.cells #[.int .i64 (frB x s.wrote).size] 3)).drew = .ok (.slice (some ⟨g, 0, none⟩) (s.wrote + 1) cap) z ∧
          z.cell? ⟨n, 1, none⟩ = some (.string (frB x s.wrote)) ∧ z.cell? ⟨a.wr, 3, none⟩ = some lv1 ∧ z.frozen? ⟨a.wr, 3, none⟩ = false ∧ (u2.alloc (.cells #[.int .i64 (frB x s.wrote).size] 3)).drew.cell? ⟨a.wr, 3, none⟩ = some lv1 ∧ (u2.alloc (.cells #[.int .i64 (frB x s.wrote).size] 3)).drew.cell? ⟨n, 1, none⟩ = some (.string (frB x s.wrote)) ∧
          ∃ F', Own F F' w ∧ LineIs p a x F' { ({ s with shelf := r } : Lst).tries p with wrote := s.wrote + 1 } (z.setCell ⟨a.wr, 3, none⟩ (.slice (some ⟨g, 0, none⟩) (s.wrote + 1) cap)) ∧ Edit F w (z.setCell ⟨a.wr, 3, none⟩ (.slice (some ⟨g, 0, none⟩) (s.wrote + 1) cap))) := fun u2 fv' hA => by
      have kl := own_kn d7
      have hsz : ((frB x s.wrote).size : Int) = ((frLn x s.wrote : Nat) : Int) := by simp [frB, bs, ByteArray.size, frLn]
      have o7 : u2.ownsRow a.b1 3 1 lv1 s.wrote ((List.range s.wrote).map fun k => .int .i64 (frLn x k)) := shOwn d7 hA.edit fun g hg hh => by
        have k3 := (kl g hg).1
        rcases hh with hh | hh
        · rw [hh, kd1] at k3; exact absurd k3 (by decide)
        · rw [(kf g hh).1] at k3; exact absurd k3 (by decide)
      obtain ⟨g, cap, z, hr, ho, he, hat⟩ := appInt u2.drew a.b1 lv1 s.wrote _ ((frLn x s.wrote : Nat) : Int) 30 (own_at o7 fun _ _ => rfl) (Nat.le_trans hLv.b1 hA.edit.size) (by omega)
      have he' : Edit (fun b => lv1.ownBlock = some b) u2 z := ⟨he.os, he.tape, he.output, he.size, he.block⟩
      have hW := hLv.wrote hf d1 d2 d3 d4 d5 d6 d7 d8 hA ho he' (fun q hq => by cases hq; exact hat)
      obtain ⟨w3, F', hO, hL, hE⟩ := hW
      have wu : Bx u2 a.wr 169 #[ptrV a.lb, .bool s.e2, .bool s.begun, lv1] := d2.edit hA.edit hnw
      have bu := HBV.out.edit hA.edit hnx
      have bz := bu.edit he' (fun hh => hnF (d8 n hh))
      have ea : Edit (fun _ => False) u2 (u2.alloc (.cells #[.int .i64 (frB x s.wrote).size] 3)).drew := ((Edit.refl _ u2).alloc _).drewN 1
      rw [hsz] at ea ⊢
      refine ⟨wu.cell 3, g, cap, z, hr, bz.cell 1, w3.cell 3, w3.free 3, (wu.edit ea id).cell 3, (bu.edit ea id).cell 1, F', ⟨hO.1, fun k hk => (hO.2 k hk).imp id fun hk => Nat.le_trans HEw.out.size hk⟩, hL, HEw.out.trans hE⟩
    have hnw2 : ¬ a.wr = n := fun hh => hnF (hh ▸ hLv.own.2.2.2.1)
    clear hLv d1 d2 d3 d4 d5 d6 d7 d8 hf kd1 kd4 kf hne hnw hnx hT0 hTs hTb HDD HBV hsh hk
    generalize ({ s with shelf := r } : Lst).tries p = s1 at *
    subst hs2
    generalize frB x s.wrote = tx at *
    go_region_held3 (fun w' => w'.cell? ⟨a.wr, 0, none⟩ = some (.pointer (some ⟨a.lb, 0, none⟩)) ∧ w'.cell? ⟨n, 1, none⟩ = some (.string tx)) (first | with_reducible exact hS0 | with_reducible exact hS1)
      (first
      | (go_at_call 393; refine HAF.out.mono ?_; rintro e u2 ⟨rfl, fv', hA⟩; have hS1 := HS.out u2 hA.edit; have HL2 := Hid.mk' (HGOOD.out u2 fv' hA); clear hA HAF HGOOD))
    obtain ⟨q3, g, cap, z, hr, z1, z2, z3, z4, z5, hy⟩ := HL2.out
    have HR := Hid.mk' hr
    have HY := Hid.mk' hy
    have hS2 : u2.drew.cell? ⟨n, 1, none⟩ = some (.string tx) := hS1.2
    have hS4 : (z.setCell ⟨a.wr, 3, none⟩ (.slice (some ⟨g, 0, none⟩) (s.wrote + 1) cap)).cell? ⟨n, 1, none⟩ = some (.string tx) := (World.cell?_setCell_far _ _ _ _ hnw2).trans z1
    clear hr hy HL2 hS0 hS1 HS
    go_wp2_with fail
    refine wp_region_held_drew (S := fun w' => w'.cell? ⟨n, 1, none⟩ = some (.string tx)) (by kernel_rfl) hS2 (fun hHeld => ?_)
    refine wpAnyH_take (i := 0) (v := ?_) rfl (by kernel_rfl) (by kernel_rfl) (by kernel_rfl) (fun _ _ _ h => h) (Or.inl ⟨by rfl, ?_⟩) (by assumption) ?_
    rotate_left
    · (intro w hSw; (try dsimp only at hSw); go_simp; try with_reducible rfl)
    try simp only [List.getElem_toArray, List.getElem_cons_succ, List.getElem_cons_zero, Act.put, List.setIfInBounds_toArray, List.set_cons_zero, List.set_cons_succ]
    refine wpAnyH_take (i := 1) (v := ?_) rfl (by kernel_rfl) (by kernel_rfl) (by kernel_rfl) (fun _ _ _ h => h) (Or.inl ⟨by rfl, ?_⟩) (by assumption) ?_
    rotate_left
    · (intro w hSw; (try dsimp only at hSw); go_simp; try with_reducible rfl)
    try simp only [List.getElem_toArray, List.getElem_cons_succ, List.getElem_cons_zero, Act.put, List.setIfInBounds_toArray, List.set_cons_zero, List.set_cons_succ]
    refine wpAnyH_take (i := 2) (v := ?_) rfl (by kernel_rfl) (by kernel_rfl) (by kernel_rfl) (fun _ _ _ h => h) (Or.inl ⟨by rfl, ?_⟩) (by assumption) ?_
    rotate_left
    · (intro w hSw; (try dsimp only at hSw); go_simp; try with_reducible rfl)
    try simp only [List.getElem_toArray, List.getElem_cons_succ, List.getElem_cons_zero, Act.put, List.setIfInBounds_toArray, List.set_cons_zero, List.set_cons_succ]
    refine wpAnyH_take (i := 3) (v := ?_) rfl (by kernel_rfl) (by kernel_rfl) (by kernel_rfl) (fun _ _ _ h => h) (Or.inl ⟨by rfl, ?_⟩) (by assumption) ?_
    rotate_left
    · (intro w hSw; (try dsimp only at hSw); go_simp; try with_reducible rfl)
    try simp only [List.getElem_toArray, List.getElem_cons_succ, List.getElem_cons_zero, Act.put, List.setIfInBounds_toArray, List.set_cons_zero, List.set_cons_succ]
    refine wpAnyH_take (i := 5) (v := ?_) rfl (by kernel_rfl) (by kernel_rfl) (by kernel_rfl) (fun _ _ _ h => h) (Or.inl ⟨by rfl, ?_⟩) (by assumption) ?_
    rotate_left
    · (intro w hSw; (try dsimp only at hSw); go_simp; try with_reducible rfl)
    try simp only [List.getElem_toArray, List.getElem_cons_succ, List.getElem_cons_zero, Act.put, List.setIfInBounds_toArray, List.set_cons_zero, List.set_cons_succ]
    refine wpAnyH_take (i := 6) (v := ?_) rfl (by kernel_rfl) (by kernel_rfl) (by kernel_rfl) (fun _ _ _ h => h) (Or.inl ⟨by rfl, ?_⟩) (by assumption) ?_
    rotate_left
    · (intro w hSw; (try dsimp only at hSw); go_simp; try with_reducible rfl)
    try simp only [List.getElem_toArray, List.getElem_cons_succ, List.getElem_cons_zero, Act.put, List.setIfInBounds_toArray, List.set_cons_zero, List.set_cons_succ]
    refine wpAnyH_take (i := 7) (v := ?_) rfl (by kernel_rfl) (by kernel_rfl) (by kernel_rfl) (fun _ _ _ h => h) (Or.inl ⟨by rfl, ?_⟩) (by assumption) ?_
    rotate_left
    · (intro w hSw; (try dsimp only at hSw); go_simp; try with_reducible rfl)
    try simp only [List.getElem_toArray, List.getElem_cons_succ, List.getElem_cons_zero, Act.put, List.setIfInBounds_toArray, List.set_cons_zero, List.set_cons_succ]
    refine wpAnyH_ready (rs := [4, 8]) (by kernel_rfl) (by simp) ?_
    refine AllReadyH.cons rfl (fun K hK => ?_) (AllReadyH.cons rfl (fun K hK => ?_) (AllReadyH.nil))
    · go_simp
      go_wp2_with fail
      refine hK.out _ _ hS2 (fun hHeld => ?_)
      clear hK K
      try simp only [List.getElem_toArray, List.getElem_cons_succ, List.getElem_cons_zero, Act.put, List.setIfInBounds_toArray, List.set_cons_zero, List.set_cons_succ]
      refine wpAnyH_ready (rs := [8]) (by kernel_rfl) (by simp) ?_
      refine AllReadyH.cons rfl (fun K hK => ?_) (AllReadyH.nil)
      go_simp
      go_wp2_with fail
      refine hK.out _ _ z5 (fun hHeld => ?_)
      clear hK K
      try simp only [List.getElem_toArray, List.getElem_cons_succ, List.getElem_cons_zero, Act.put, List.setIfInBounds_toArray, List.set_cons_zero, List.set_cons_succ]
      refine wpAnyH_ready (rs := [9]) (by kernel_rfl) (by simp) ?_
      refine AllReadyH.cons rfl (fun K hK => ?_) AllReadyH.nil
      refine stepAppend rfl _ _ 30 rfl lv1 (.slice (some ⟨u2.heap.size, 0, none⟩) 1 1) (.slice (some ⟨g, 0, none⟩) (s.wrote + 1) cap) rfl rfl HR.out ?_
      go_wp2_with fail
      refine hK.out _ _ z1 (fun hHeld => ?_)
      clear hK K
      try simp only [List.getElem_toArray, List.getElem_cons_succ, List.getElem_cons_zero, Act.put, List.setIfInBounds_toArray, List.set_cons_zero, List.set_cons_succ]
      refine wpAnyH_take (i := 10) (v := ?_) rfl (by kernel_rfl) (by kernel_rfl) (by kernel_rfl) (fun _ _ _ h => h) (Or.inl ⟨by rfl, ?_⟩) (by assumption) ?_
      rotate_left
      · (intro w hSw; (try dsimp only at hSw); go_simp; try with_reducible rfl)
      try simp only [List.getElem_toArray, List.getElem_cons_succ, List.getElem_cons_zero, Act.put, List.setIfInBounds_toArray, List.set_cons_zero, List.set_cons_succ]
      refine wpAnyH_take (i := 11) (v := ?_) rfl (by kernel_rfl) (by kernel_rfl) (by kernel_rfl) (fun _ _ _ h => h) (Or.inl ⟨by rfl, ?_⟩) (by assumption) ?_
      rotate_left
      · (intro w hSw; (try dsimp only at hSw); go_simp; try with_reducible rfl)
      try simp only [List.getElem_toArray, List.getElem_cons_succ, List.getElem_cons_zero, Act.put, List.setIfInBounds_toArray, List.set_cons_zero, List.set_cons_succ]
      refine wpAnyH_ready (rs := [12]) (by kernel_rfl) (by simp) ?_
      refine AllReadyH.cons rfl (fun K hK => ?_) (AllReadyH.nil)
      go_simp
      go_wp2_with fail
      refine hK.out _ _ hS4 (fun hHeld => ?_)
      clear hK K
      try simp only [List.getElem_toArray, List.getElem_cons_succ, List.getElem_cons_zero, Act.put, List.setIfInBounds_toArray, List.set_cons_zero, List.set_cons_succ]
      refine wpAnyH_done (by kernel_rfl) ?_ _
      go_wp2
      go_end0
      exact ⟨rfl, HY.out⟩
    · go_simp
      go_wp2_with fail
      refine hK.out _ _ z5 (fun hHeld => ?_)
      clear hK K
      try simp only [List.getElem_toArray, List.getElem_cons_succ, List.getElem_cons_zero, Act.put, List.setIfInBounds_toArray, List.set_cons_zero, List.set_cons_succ]
      refine wpAnyH_ready (rs := [4]) (by kernel_rfl) (by simp) ?_
      refine AllReadyH.cons rfl (fun K hK => ?_) (AllReadyH.nil)
      go_simp
      go_wp2_with fail
      refine hK.out _ _ z5 (fun hHeld => ?_)
      clear hK K
      try simp only [List.getElem_toArray, List.getElem_cons_succ, List.getElem_cons_zero, Act.put, List.setIfInBounds_toArray, List.set_cons_zero, List.set_cons_succ]
      refine wpAnyH_ready (rs := [9]) (by kernel_rfl) (by simp) ?_
      refine AllReadyH.cons rfl (fun K hK => ?_) AllReadyH.nil
      refine stepAppend rfl _ _ 30 rfl lv1 (.slice (some ⟨u2.heap.size, 0, none⟩) 1 1) (.slice (some ⟨g, 0, none⟩) (s.wrote + 1) cap) rfl rfl HR.out ?_
      go_wp2_with fail
      refine hK.out _ _ z1 (fun hHeld => ?_)
      clear hK K
      try simp only [List.getElem_toArray, List.getElem_cons_succ, List.getElem_cons_zero, Act.put, List.setIfInBounds_toArray, List.set_cons_zero, List.set_cons_succ]
      refine wpAnyH_take (i := 10) (v := ?_) rfl (by kernel_rfl) (by kernel_rfl) (by kernel_rfl) (fun _ _ _ h => h) (Or.inl ⟨by rfl, ?_⟩) (by assumption) ?_
      rotate_left
      · (intro w hSw; (try dsimp only at hSw); go_simp; try with_reducible rfl)
      try simp only [List.getElem_toArray, List.getElem_cons_succ, List.getElem_cons_zero, Act.put, List.setIfInBounds_toArray, List.set_cons_zero, List.set_cons_succ]
      refine wpAnyH_take (i := 11) (v := ?_) rfl (by kernel_rfl) (by kernel_rfl) (by kernel_rfl) (fun _ _ _ h => h) (Or.inl ⟨by rfl, ?_⟩) (by assumption) ?_
      rotate_left
      · (intro w hSw; (try dsimp only at hSw); go_simp; try with_reducible rfl)
      try simp only [List.getElem_toArray, List.getElem_cons_succ, List.getElem_cons_zero, Act.put, List.setIfInBounds_toArray, List.set_cons_zero, List.set_cons_succ]
      refine wpAnyH_ready (rs := [12]) (by kernel_rfl) (by simp) ?_
      refine AllReadyH.cons rfl (fun K hK => ?_) (AllReadyH.nil)
      go_simp
      go_wp2_with fail
      refine hK.out _ _ hS4 (fun hHeld => ?_)
      clear hK K
      try simp only [List.getElem_toArray, List.getElem_cons_succ, List.getElem_cons_zero, Act.put, List.setIfInBounds_toArray, List.set_cons_zero, List.set_cons_succ]
      refine wpAnyH_done (by kernel_rfl) ?_ _
      go_wp2
      go_end0
      exact ⟨rfl, HY.out⟩
end Go.Proofs.YtlncjgnomhpjnabGreatDoor

/-
  What the writer does: it takes a frame, or ends.
-/
namespace Go.Proofs.YtlncjgnomhpjnabGreatDoor
open Go.RowKit Go.Deep
set_option linter.unusedVariables false
/-- Something was taken out of ready. -/
theorem wrMid {p : Lpar} {a : Lad} {x : Lsn} {F : Nat → Prop} {s : Lst} {w v : World} (h : LineIs p a x F s w) {r : List Nat} (he : Edit (· = a.cr) w v) (hq : QIs v a.qr a.cr 250 p.Rm (r.map (pkV x)).toArray (s.shut p)) :
    LineIs p a x F { s with ready := r } v ∧ Edit F w v := by
  have hkd := h.kinds
  have kd1 := hkd.lb; have kd2 := hkd.sp; have kd3 := hkd.su; have kd4 := hkd.wr; have kd5 := hkd.qj; have kd6 := hkd.ql; have kd7 := hkd.qr; have kd8 := hkd.cj; have kd9 := hkd.cl; have kd10 := hkd.cr
  obtain ⟨n1, n2, n3, n4, n5⟩ := h.ne
  exact ⟨h.edit he (fun _ hh => hh) (fun k hk => Nat.lt_of_lt_of_le (h.lt k hk) he.size) (by unfold Firm; grind) (h.cellsOk he (fun _ hh => hh) (by grind) (by grind) (by grind)) (h.spl.edit he (by grind)) (h.sum.edit he (by grind)) (h.workOk he (fun _ hh => hh) (by grind))
    (h.jobs.edit he (by grind) (by grind)) (h.lane.edit he (by grind) (by grind)) hq rfl, he.mono fun k hk => hk ▸ h.own.2.2.2.2.2.2.2.2.2.1⟩
/-- A frame was laid on the shelf. -/
theorem LineIs.laid {p : Lpar} {a : Lad} {x : Lsn} {F : Nat → Prop} {s : Lst} {w : World} {k : Nat} (h : LineIs p a x F s w) (hsort : s.shelf.Pairwise (· < ·)) (hl : s.shelf.length ≤ 500) :
    Calls Tryz.prog 396 #[.pointer (some ⟨a.lb, 17, none⟩), .agg #[.int .i64 k, .string (frB x k)]] w fun e w' => e = .returned (.tuple #[]) ∧ ∃ F', Own F F' w ∧ LineIs p a x F' { s with shelf := insL k s.shelf } w' ∧ Edit F w w' := by
  have hkd := h.kinds
  have kd1 := hkd.lb; have kd4 := hkd.wr
  obtain ⟨sv, fv, lv, c1, c2, c3, c4, c5, c6, c7, c8⟩ := h.cells
  rw [shlV_eq] at c3
  have hne : sv.ownBlock ≠ some a.lb := fun hh => by have := (own_kn c3 _ hh).1; rw [kd1] at this; exact absurd this (by decide)
  have hlt := h.lt _ h.own.1
  have hwl := h.lt _ h.own.2.2.2.1
  refine (shLay_any (frB x) s.shelf k a.b1 a.lb 17 sv w ((c1.cell 17).trans rfl) (c1.free 17) hlt hne c3 h.b1 hsort hl).mono ?_
  rintro e w' ⟨rfl, sv', u, rfl, hla⟩
  have hn : ∀ g, kn w g ≠ 149 + 1 → ¬ sv.ownBlock = some g := fun g h1 hh => h1 (own_kn c3 g hh).1
  have e5 := Edit.one u a.lb 17 sv'
  have e4 : Edit (fun b => sv.ownBlock = some b ∨ b = a.lb) w (u.setCell ⟨a.lb, 17, none⟩ sv') := (hla.edit.mono (by grind)).trans (e5.mono (by grind))
  have hn4 : ∀ g, kn w g ≠ 149 + 1 → kn w g ≠ 160 + 1 → ¬ (sv.ownBlock = some g ∨ g = a.lb) := fun g h1 h2 hh => by
    rcases hh with hh | hh
    · exact h1 (own_kn c3 g hh).1
    · exact h2 (hh ▸ kd1)
  refine ⟨rfl, fun q => F q ∨ (w.heap.size ≤ q ∧ q < (u.setCell ⟨a.lb, 17, none⟩ sv').heap.size), ⟨fun _ hh => Or.inl hh, fun q hh => hh.imp id fun hh => hh.1⟩, h.upd (s' := { s with shelf := insL k s.shelf }) e4 (fun q hq => ?_) (fun _ hh => Or.inl hh) (fun q hq => ?_)
    ⟨sv', fv, lv, (c1.edit hla.edit (hn _ (by rw [kd1]; decide))).set 17 sv', c2.edit e4 (hn4 _ (by rw [kd4]; decide) (by rw [kd4]; decide)), ?_, fun g hg => ?_, ?_, fun g hg => Or.inl (c6 g hg), ?_, fun g hg => Or.inl (c8 g hg)⟩ ⟨rfl, rfl, rfl, rfl, rfl, rfl, rfl, rfl, rfl⟩, e4.mono fun q hq => ?_⟩
  · rcases hq with hq | hq
    · exact Or.inr (Or.inr ⟨(own_kn c3 q hq).2.1, Or.inl (own_kn c3 q hq).1⟩)
    · exact Or.inl hq
  · rcases hq with hq | hq
    · exact Nat.lt_of_lt_of_le (h.lt q hq) e4.size
    · exact hq.2
  · rw [shlV_eq]
    exact shOwn hla.own e5 fun g hg hh => by
      rcases hla.new g hg with h1 | h1
      · exact hne (by rw [h1, hh])
      · omega
  · have hlt2 := (own_kn hla.own g hg).2.2
    rcases hla.new g hg with h1 | h1
    · exact Or.inl (c4 g h1)
    · exact Or.inr ⟨h1, Nat.lt_of_lt_of_le hlt2 e5.size⟩
  · exact shOwn c5 e4 fun g hg => hn4 g (by rw [(own_kn c5 g hg).1]; decide) (by rw [(own_kn c5 g hg).1]; decide)
  · exact shOwn c7 e4 fun g hg => hn4 g (by rw [(own_kn c7 g hg).1]; decide) (by rw [(own_kn c7 g hg).1]; decide)
  · rcases hq with hq | hq
    · exact c4 q hq
    · exact hq ▸ h.own.1
set_option maxRecDepth 100000 in
set_option maxHeartbeats 4000000 in
theorem wrTake_any {p : Lpar} {a : Lad} {x : Lsn} {F : Nat → Prop} {s : Lst} {w : World} (h : LineIs p a x F s w) (k : Nat) (r : List Nat) (hk : s.ready = k :: r) (hsort : s.shelf.Pairwise (· < ·)) (hl : s.shelf.length ≤ 500) :
    Calls Tryz.prog 390 #[ptrV a.wr] w fun e w' => e = .returned (.tuple #[]) ∧ ∃ F', Own F F' w ∧ LineIs p a x F' (s.act p .shelve) w' ∧ Edit F w w' := by
  obtain ⟨sv, fv, lv, hlb, hw, -⟩ := h.cells
  have x16 := hlb.cell 16
  have y0 := hw.cell 0
  simp [lnC, ptrV] at x16 y0
  have hq := h.ready
  rw [hk] at hq
  have HT := Hid.mk' (take_packed _ _ _ _ _ (.int .i64 k) (.string (frB x k)) w hq rfl ⟨rfl, rfl⟩)
  rw [ext_one] at HT
  have HMI : Hid (∀ u, QIs u a.qr a.cr 250 p.Rm (r.map (pkV x)).toArray (s.shut p) → Edit (· = a.cr) w u → ∀ v, Edit (fun _ => False) u v → LineIs p a x F { s with ready := r } v ∧ Edit F w v) := fun u hq he v hv => by
    have h1 := wrMid h he hq
    exact ⟨h1.1.keep (fun k hk => hv.block k (h1.1.lt k hk) id) hv.size, h1.2.trans (hv.mono fun _ h => h.elim)⟩
  have HCE : Hid (∀ st, s.stopped = st → ∀ v, LineIs p a x F { s with ready := r } v → v.cell? ⟨a.wr, 0, none⟩ = some (.pointer (some ⟨a.lb, 0, none⟩)) ∧ v.cell? ⟨a.lb, 23, none⟩ = some (.bool st)) := fun st hst v hv => by
    subst hst
    obtain ⟨sv, fv, lv, hlb, hw, -⟩ := hv.cells
    exact ⟨hw.cell 0, hlb.cell 23⟩
  have HF := Hid.mk' h.lt
  clear h hlb hw hq
  cases hs : s.stopped with
  | true =>
    replace HCE := Hid.mk' (HCE.out _ hs)
    have e1 : s.act p .shelve = { s with ready := r } := by simp [Lst.act, hk, hs]
    rw [e1]
    clear e1 hk hs
    unfold ptrV at *
    go_enter Tryz.func390, Tryz.ntmps390
    go_wp2_with (first
      | (go_at_call 394; refine HT.out.mono ?_; rintro e u ⟨rfl, q1, e1⟩; have HV := Hid.mk' (HMI.out u q1 e1 ((u.alloc (.cells #[.int .i64 0, .string ⟨#[]⟩] 149)).setRow u.heap.size #[.int .i64 k, .string (frB x k)]) (((Edit.refl _ u).alloc _).row (Nat.le_refl _) _)); have t0 := (HCE.out _ HV.out.1).1; have t1 := (HCE.out _ HV.out.1).2; clear q1 e1 HT HMI)
      | (refine wpList_storeRow rfl _ _ 149 rfl u.heap.size 149 _ _ rfl rfl (Bx.new u #[.int .i64 0, .string ⟨#[]⟩] 149) sizePk rfl rfl ?_))
    go_end0
    exact ⟨rfl, F, Own.refl F w, HV.out⟩
  | false =>
    replace HCE := Hid.mk' (HCE.out _ hs)
    have e1 : s.act p .shelve = { s with ready := r, shelf := insL k s.shelf } := by simp [Lst.act, hk, hs]
    rw [e1]
    have HLY : Hid (∀ v, LineIs p a x F { s with ready := r } v → Calls Tryz.prog 396 #[.pointer (some ⟨a.lb, 17, none⟩), .agg #[.int .i64 k, .string (frB x k)]] v fun e w' => e = .returned (.tuple #[]) ∧ ∃ F', Own F F' v ∧ LineIs p a x F' { s with ready := r, shelf := insL k s.shelf } w' ∧ Edit F v w') := fun v hv => hv.laid hsort hl
    clear e1 hk hs
    generalize insL k s.shelf = l2 at *
    generalize frB x k = tx at *
    unfold ptrV at *
    go_enter Tryz.func390, Tryz.ntmps390
    go_wp2_with (first
      | (go_at_call 394; refine HT.out.mono ?_; rintro e u ⟨rfl, q1, e1⟩; have HV := Hid.mk' (HMI.out u q1 e1 ((u.alloc (.cells #[.int .i64 0, .string ⟨#[]⟩] 149)).setRow u.heap.size #[.int .i64 k, .string tx]) (((Edit.refl _ u).alloc _).row (Nat.le_refl _) _)); have HSZ := Hid.mk' e1.size; have t0 := (HCE.out _ HV.out.1).1; have t1 := (HCE.out _ HV.out.1).2; clear q1 e1 HT HMI)
      | (refine wpList_storeRow rfl _ _ 149 rfl u.heap.size 149 _ _ rfl rfl (Bx.new u #[.int .i64 0, .string ⟨#[]⟩] 149) sizePk rfl rfl ?_))
    have HBV : Hid (Bx ((u.alloc (.cells #[.int .i64 0, .string ⟨#[]⟩] 149)).setRow u.heap.size #[.int .i64 k, .string tx]) u.heap.size 149 #[.int .i64 k, .string tx]) := (Bx.new u _ _).row _
    generalize (u.alloc (.cells #[.int .i64 0, .string ⟨#[]⟩] 149)).setRow u.heap.size #[.int .i64 k, .string tx] = v at *
    have HNF : Hid (¬ F u.heap.size) := fun hh => by
      have h1 := HF.out _ hh
      have h2 := HSZ.out
      omega
    generalize u.heap.size = n at *
    have HS : Hid (∀ F' z, LineIs p a x F' { s with ready := r, shelf := l2 } z → Edit F v z → z.cell? ⟨a.wr, 0, none⟩ = some (.pointer (some ⟨a.lb, 0, none⟩)) ∧ z.cell? ⟨n, 0, none⟩ = some (.int .i64 k) ∧ z.cell? ⟨n, 1, none⟩ = some (.string tx)) := fun F' z hz he => by
      obtain ⟨sv, fv, lv, hlb, hw, -⟩ := hz.cells
      have b := HBV.out.edit he HNF.out
      exact ⟨hw.cell 0, b.cell 0, b.cell 1⟩
    have hS0 : v.drew.cell? ⟨a.wr, 0, none⟩ = some (.pointer (some ⟨a.lb, 0, none⟩)) ∧ v.drew.cell? ⟨n, 0, none⟩ = some (.int .i64 k) ∧ v.drew.cell? ⟨n, 1, none⟩ = some (.string tx) := ⟨t0, HBV.out.cell 0, HBV.out.cell 1⟩
    have HL1 := Hid.mk' (HLY.out v.drew HV.out.1.drew)
    clear t0 t1 HBV HCE HLY
    go_region_held3 (fun w' => w'.cell? ⟨a.wr, 0, none⟩ = some (.pointer (some ⟨a.lb, 0, none⟩)) ∧ w'.cell? ⟨n, 0, none⟩ = some (.int .i64 k) ∧ w'.cell? ⟨n, 1, none⟩ = some (.string tx)) (first | with_reducible exact hS0 | with_reducible exact hS1)
      (first
      | (go_at_call 396; refine HL1.out.mono ?_; rintro e z ⟨rfl, F', hO, hL, hE⟩; have hE' : Edit F v z := ⟨hE.os, hE.tape, hE.output, hE.size, hE.block⟩; have hS1 := HS.out F' z hL hE'; have HZ : Hid (∃ F', Own F F' w ∧ LineIs p a x F' { s with ready := r, shelf := l2 } z ∧ Edit F w z) := ⟨F', ⟨hO.1, fun q hq => (hO.2 q hq).imp id fun hq => Nat.le_trans HV.out.2.size hq⟩, hL, HV.out.2.trans hE'⟩; clear hO hL hE hE' HL1))
    go_wp2
    go_end0
    exact ⟨rfl, HZ.out⟩
set_option maxRecDepth 100000 in
set_option maxHeartbeats 4000000 in
theorem wrTake0_any {p : Lpar} {a : Lad} {x : Lsn} {F : Nat → Prop} {s : Lst} {w : World} (h : LineIs p a x F s w) (hk : s.ready = []) (hsh : s.shut p = true) (hwr : s.writes ≤ 1000) (hkb : s.wrote ≤ nBlk x.S x.B) (hN : s.stopped = false → s.wrote = nBlk x.S x.B ∧ s.summed = nBlk x.S x.B) :
    Calls Tryz.prog 390 #[ptrV a.wr] w fun e w' => e = .returned (.tuple #[]) ∧ LineIs p a x F (s.act p .shelve) w' ∧ Edit F w w' := by
  obtain ⟨sv, fv, lv, hlb, hw, -⟩ := h.cells
  have x16 := hlb.cell 16
  have y0 := hw.cell 0
  simp [lnC, ptrV] at x16 y0
  have hq := h.ready
  rw [hk, hsh] at hq
  have HT := Hid.mk' (shut_packed _ _ _ w hq)
  have e1 : s.act p .shelve = { s with e2 := true }.head p 2 := by simp [Lst.act, hk]
  rw [e1]
  have HEN : Hid (∀ u, QIs u a.qr a.cr 250 p.Rm #[] true → Edit (· = a.cr) w u → ∀ v, Edit (fun _ => False) u v → Calls Tryz.prog 395 #[ptrV a.wr] v fun e w' => e = .returned (.tuple #[]) ∧ LineIs p a x F ({ s with e2 := true }.head p 2) w' ∧ Edit F w w') := fun u hq he v hv => by
    have h1 := wrMid (r := []) h he (by rw [hsh]; exact hq)
    have e2 : ({ s with ready := [] } : Lst) = s := by cases s; simp only at hk; rw [hk]
    rw [e2] at h1
    have h2 := h1.1.keep (fun k hk => hv.block k (h1.1.lt k hk) id) hv.size
    refine (wrEnd_any h2 hwr hkb hN).mono ?_
    rintro e w' ⟨rfl, h3, h4⟩
    exact ⟨rfl, h3, h1.2.trans ((hv.mono fun _ h => h.elim).trans h4)⟩
  clear h hlb hw hq e1 hk hsh hN
  generalize ({ s with e2 := true } : Lst).head p 2 = s2 at *
  unfold ptrV at *
  go_enter Tryz.func390, Tryz.ntmps390
  go_wp2_with (first
    | (go_at_call 394; refine HT.out.mono ?_; rintro e u ⟨rfl, q1, e1⟩; have HV := Hid.mk' (HEN.out u q1 e1 ((u.alloc (.cells #[.int .i64 0, .string ⟨#[]⟩] 149)).setRow u.heap.size #[.int .i64 0, .string ⟨#[]⟩]) (((Edit.refl _ u).alloc _).row (Nat.le_refl _) _)); clear q1 e1 HT HEN)
    | (refine wpList_storeRow rfl _ _ 149 rfl u.heap.size 149 _ _ rfl rfl (Bx.new u #[.int .i64 0, .string ⟨#[]⟩] 149) sizePk rfl rfl ?_)
    | (go_at_call 395; refine HV.out.mono ?_; rintro e u2 ⟨rfl, hz⟩; have HZ := Hid.mk' hz; clear hz HV))
  try simp only [Exit.inBlock, Exit.then]
  refine bodyPost_ret (results_none rfl _ _ _) rfl ?_
  exact ⟨rfl, HZ.out⟩
end Go.Proofs.YtlncjgnomhpjnabGreatDoor

