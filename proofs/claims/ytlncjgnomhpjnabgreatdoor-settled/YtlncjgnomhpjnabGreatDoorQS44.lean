import Derived.Test.YtlncjgnomhpjnabGreatDoorQS43
/-
  The line: Step, Bytes.
-/
namespace Go.Proofs.YtlncjgnomhpjnabGreatDoor
open Go.RowKit Go.Deep
set_option linter.unusedVariables false
/-- The task that is picked. -/
def pickT (p : Lpar) (s : Lst) (k : Nat) : Nat := (s.able p).getD (k % (s.able p).length) 0
theorem pickT_ok {p : Lpar} {s : Lst} {k : Nat} (h : s.able p ≠ []) : k % (s.able p).length < (s.able p).length ∧ (s.able p)[k % (s.able p).length]? = some (pickT p s k) ∧ pickT p s k < 3 + p.W ∧ ∃ c, s.next p (pickT p s k) = some c := by
  have h0 : 0 < (s.able p).length := List.length_pos_iff.2 h
  have h1 := Nat.mod_lt k h0
  have h2 : (s.able p)[k % (s.able p).length]? = some (pickT p s k) := by
    unfold pickT
    rw [List.getD_eq_getElem?_getD, List.getElem?_eq_getElem h1]
    rfl
  have h3 : pickT p s k ∈ s.able p := List.mem_of_getElem? h2
  unfold Lst.able at h3
  rw [List.mem_filter] at h3
  exact ⟨h1, h2, List.mem_range.1 h3.1, Option.isSome_iff_exists.1 h3.2⟩
theorem Stepped.after {p : Lpar} {a : Lad} {x : Lsn} {F : Nat → Prop} {s' : Lst} {w u w' : World} (h : Stepped p a x F s' u w') (hb : Below w.heap.size w u) : Stepped p a x F s' w w' := by
  obtain ⟨a', F', h1, h2, h3, h4, h5⟩ := h
  exact ⟨a', F', h1, h2, ⟨h3.1, fun k hk => (h3.2 k hk).imp id fun hk => Nat.le_trans hb.size hk⟩, h4, (Edit.of hb).trans h5⟩
set_option maxRecDepth 100000 in
set_option maxHeartbeats 2000000 in
theorem step_any {p : Lpar} {a : Lad} {x : Lsn} {F : Nat → Prop} {s : Lst} {w : World} (h : LineIs p a x F s w) (hi : LInv p s) (hT : TabsF w) (k : Nat) (hk : (k : Int) ≤ 9223372036854775807) (ha : s.able p ≠ []) :
    Calls Tryz.prog 105 #[ptrV a.lb, .int .i64 k] w fun e w' => e = .returned (.int .i64 (pickT p s k : Nat)) ∧ ∃ c, s.next p (pickT p s k) = some c ∧ Stepped p a x F (s.act p c) w w' := by
  obtain ⟨h1, h2, h3, c, h4⟩ := pickT_ok (k := k) ha
  have HAB := Hid.mk' (able_any h hi)
  obtain ⟨ty, b, fn, n1, n2, n3, n4⟩ := nextOf (a := a) (x := x) (F := F) hi (pickT p s k) h3
  have HL : Hid (∀ u, Below w.heap.size w u → LineIs p a x F s u) := fun u hu => h.keep (fun k hk => hu.block k (h.lt k hk)) hu.size
  have HN4 := Hid.mk' n4
  have HN2 := Hid.mk' n2
  have HAC : Hid (∀ u, Below w.heap.size w u → Calls Tryz.prog (actF c) #[.pointer (some ⟨actR a c, 0, none⟩)] u fun e w' => e = .returned (.tuple #[]) ∧ Stepped p a x F (s.act p c) w w') := fun u hu => by
    refine (act_any (HL.out u hu) hi (hT.below hu) h3 h4).mono ?_
    rintro e w' ⟨rfl, h6⟩
    exact ⟨rfl, h6.after hu⟩
  have HF : Hid (∃ c, s.next p (pickT p s k) = some c ∧ (s.act p c) = s.act p c) := ⟨c, h4, rfl⟩
  have HCC : Hid (s.next p (pickT p s k) = some c) := h4
  rw [h4, actV_eq] at HN4
  have egf := actF_enters c
  have HTV : Hid (∀ u, Below w.heap.size w u → u.cell? ⟨a.tb, pickT p s k, none⟩ = some (.iface ty (.pointer (some ⟨b, 0, none⟩))) ∧ u.cell? ⟨a.lb, 28, none⟩ = some (.slice (some ⟨a.tb, 0, none⟩) (3 + p.W) a.tc)) := fun u hu => by
    obtain ⟨sv, fv, lv, hl, -⟩ := h.cells
    obtain ⟨g, cap, hg, -, -, hc⟩ := own_cells h.tasks (by omega)
    cases hg
    have h5 := hc (pickT p s k) (taskV a (pickT p s k)) (by simp [h3])
    rw [n1] at h5
    exact ⟨(cellOf (hu.block a.tb (h.lt _ h.own.2.2.2.2.2.2.2.2.2.2.1))).trans h5, (hl.below hu).cell 28⟩
  have hW := h.W8
  have hal : (s.able p).length ≤ 3 + p.W := by have := List.length_filter_le (fun t => (s.next p t).isSome) (List.range (3 + p.W)); rw [List.length_range] at this; exact this
  have h0 : 0 < (s.able p).length := List.length_pos_iff.2 ha
  have hmod : ((k : Int)).tmod (((s.able p).length : Nat) : Int) = ((k % (s.able p).length : Nat) : Int) := by rw [Int.tmod_eq_emod_of_nonneg (by omega)]; exact (Int.natCast_emod k _).symm
  have HG : Hid (∀ (u : World) (v : Value), u.ownsRow w.heap.size 3 1 v (s.able p).length ((s.able p).map fun (k : Nat) => .int .i64 (k : Int)) → ∃ g cap, v = .slice (some ⟨g, 0, none⟩) (s.able p).length cap ∧ u.cell? ⟨g, k % (s.able p).length, none⟩ = some (.int .i64 (pickT p s k : Nat))) := fun u v ho => by
    obtain ⟨A, cap, rfl, hA⟩ := own_open ho
    obtain ⟨g, rfl, -, hc⟩ := hA h0
    exact ⟨g, cap, rfl, hc _ _ (by rw [List.getElem?_map, h2]; rfl)⟩
  generalize hpt : pickT p s k = t at *
  clear h hi hT n1 n2 n4 h2 h4 ha hpt
  generalize hpm : k % (s.able p).length = pm at *
  generalize (s.able p).map (fun (k : Nat) => Value.int .i64 (k : Int)) = xs at *
  generalize (s.able p).length = al at *
  generalize actF c = af at *
  generalize actR a c = ar at *
  clear hpm
  unfold ptrV at *
  have hti : (t : Int) < 3 + (p.W : Int) := by omega
  go_enter Tryz.func105, Tryz.ntmps105
  go_wp2_with (first
    | (go_at_call 78; refine HAB.out.mono ?_; rintro e u ⟨v, rfl, ho, hb⟩; obtain ⟨g, cap, rfl, hc⟩ := HG.out u v ho; have k1 := (HTV.out u hb).1; have k2 := (HTV.out u hb).2; have HB := Hid.mk' hb; have HNX := Hid.mk' (HN4.out u (HL.out u hb)); clear ho hb HAB)
    | (simp only [HN2.out])
    | (go_at_fn fn; refine HNX.out.mono ?_; rintro e u2 ⟨rfl, m, rfl⟩; have HA2 := Hid.mk' (HAC.out (u.drewN m) (bel_drewN HB.out m)); clear HNX)
    | (go_at_fn af; refine HA2.out.mono ?_; rintro e u3 ⟨rfl, hst⟩; have HST := Hid.mk' hst; clear hst HA2))
  go_ret
  exact ⟨rfl, c, HCC.out, HST.out⟩
end Go.Proofs.YtlncjgnomhpjnabGreatDoor

/-
  The line: what the sink holds.
-/
namespace Go.Proofs.YtlncjgnomhpjnabGreatDoor
open Go.RowKit Go.Deep
set_option linter.unusedVariables false
theorem conv_nil (w : World) : (convert 33 9 (.slice none 0 0)).run Tryz.prog w = .ok (.string ⟨#[]⟩) w := by kernel_rfl
theorem conv_own {w : World} {base n : Nat} {v : Value} {T : List UInt8} (h : w.ownsRow base 5 1 v n (T.map fun b => .int .u8 (b.toNat : Int))) : (convert 33 9 v).run Tryz.prog w = .ok (.string (bs T)) w := by
  have hl := h.1
  rw [List.length_map, Nat.mul_one] at hl
  obtain ⟨A, cap, rfl, hA⟩ := own_open h
  by_cases h0 : 0 < n
  · obtain ⟨g, rfl, -, hc⟩ := hA h0
    subst hl
    exact run_convert_bytes_back (P := Tryz.prog) w 33 9 5 ⟨g, 0, none⟩ cap T Tryz.underlying33 Tryz.underlying5 Tryz.underlying9 (fun j hj => by rw [Addr.add_lit, Nat.zero_add]; exact hc j _ (by simp [hj]))
  · have h1 : n = 0 := by omega
    subst h1
    have h2 : T = [] := List.eq_nil_of_length_eq_zero hl
    subst h2
    rcases h.2 with ⟨h3, -⟩ | ⟨g, cap', cur, h3, -⟩
    · rw [h3]
      exact conv_nil w
    · rw [h3]
      exact run_convert_bytes_back (P := Tryz.prog) w 33 9 5 ⟨g, 0, none⟩ cap' [] Tryz.underlying33 Tryz.underlying5 Tryz.underlying9 (fun j hj => absurd hj (Nat.not_lt_zero j))
theorem hdT_len (x : Lsn) (h : KP x.d x.ch x.B x.c3 x.c4 x.S x.G) (q : Nat) : (hdT x q).length ≤ 1000 := by
  have hnb := h.nb
  match q with
  | 0 => exact Nat.zero_le _
  | 1 =>
    have := nPts_300 (seek := x.c4) h.B1 h.S3
    simp only [hdT, headTx_length, List.length_replicate]
    omega
  | q + 2 =>
    have := pntN_len (frLn x) x.c4 (nBlk x.S x.B)
    simp only [hdT, headTx_length]
    omega
set_option linter.unusedSimpArgs false in
set_option maxRecDepth 100000 in
theorem sinkBytes_any {p : Lpar} {a : Lad} {x : Lsn} {F : Nat → Prop} {s : Lst} {w : World} (h : LineIs p a x F s w) (hb : s.wrote ≤ nBlk x.S x.B) :
    Calls Tryz.prog 113 #[.pointer (some ⟨a.lb, 18, none⟩)] w fun e w' => e = .returned (.string (bs (hdT x s.hd ++ frsT x.d x.ch x.G x.S x.B s.wrote))) ∧ ∃ m, w' = w.drewN m := by
  obtain ⟨sv, fv, lv, hl, -, -, -, c5, -⟩ := h.cells
  have x21 := hl.cell 21
  have x22 := hl.cell 22
  simp [lnC] at x21 x22
  have hcv : ∀ m, (convert 33 9 fv).run Tryz.prog (w.drewN m) = .ok (.string (bs (frsT x.d x.ch x.G x.S x.B s.wrote))) (w.drewN m) := fun m => conv_own (own_at c5 fun _ _ => rfl)
  have happ : bs (hdT x s.hd ++ frsT x.d x.ch x.G x.S x.B s.wrote) = bs (hdT x s.hd) ++ bs (frsT x.d x.ch x.G x.S x.B s.wrote) := by simp [bs, ByteArray.append_eq, ByteArray.ext_iff]
  rw [happ]
  have hTs := frsT_bd x.d x.ch x.G x.S x.B h.kp.d12 h.kp.n1 h.kp.n4 h.kp.B1 h.kp.B32 s.wrote hb
  have hnb := h.kp.nb
  have hsz : ¬ 9223372036854775807 < (bs (hdT x s.hd)).size + (bs (frsT x.d x.ch x.G x.S x.B s.wrote)).size := by
    have h1 := hdT_len x h.kp s.hd
    have h2 : 222 * s.wrote ≤ 222 * 300 := Nat.mul_le_mul_left _ (by omega)
    simp only [bs, ByteArray.size, List.size_toArray]
    omega
  generalize bs (hdT x s.hd) = ha at *
  generalize bs (frsT x.d x.ch x.G x.S x.B s.wrote) = hb at *
  obtain ⟨A, cap, rfl, -⟩ := own_open c5
  generalize (frsT x.d x.ch x.G x.S x.B s.wrote).length = fl at *
  clear h hl c5 hTs hnb happ
  have hS0 : w.drew.cell? ⟨a.lb, 21, none⟩ = some (.string ha) ∧ w.drew.cell? ⟨a.lb, 22, none⟩ = some (.slice A fl cap) ∧ (convert 33 9 (.slice A fl cap)).run Tryz.prog w.drew = .ok (.string hb) w.drew := ⟨x21, x22, hcv 1⟩
  go_enter Tryz.func113, Tryz.ntmps113
  go_wp2_with fail
  refine wp_region_held_drew (S := fun w' => w'.cell? ⟨a.lb, 21, none⟩ = some (.string ha) ∧ w'.cell? ⟨a.lb, 22, none⟩ = some (.slice A fl cap) ∧ (convert 33 9 (.slice A fl cap)).run Tryz.prog w' = .ok (.string hb) w') (by kernel_rfl) hS0 (fun hHeld => ?_)
  refine wpAnyH_take (i := 0) (v := ?_) rfl (by kernel_rfl) (by kernel_rfl) (by kernel_rfl) (fun _ _ _ h => h) (Or.inl ⟨by rfl, ?_⟩) (by assumption) ?_
  rotate_left
  · (intro w hSw; (try dsimp only at hSw); go_simp; try with_reducible rfl)
  try simp only [List.getElem_toArray, List.getElem_cons_succ, List.getElem_cons_zero, Act.put, List.setIfInBounds_toArray, List.set_cons_zero, List.set_cons_succ]
  refine wpAnyH_take (i := 1) (v := ?_) rfl (by kernel_rfl) (by kernel_rfl) (by kernel_rfl) (fun _ _ _ h => h) (Or.inl ⟨by rfl, ?_⟩) (by assumption) ?_
  rotate_left
  · (intro w hSw; (try dsimp only at hSw); go_simp; try with_reducible rfl)
  try simp only [List.getElem_toArray, List.getElem_cons_succ, List.getElem_cons_zero, Act.put, List.setIfInBounds_toArray, List.set_cons_zero, List.set_cons_succ]
  refine wpAnyH_take (i := 2) (v := ?_) rfl (by kernel_rfl) (by kernel_rfl) (by kernel_rfl) (fun _ _ _ h => h) (Or.inl ⟨by rfl, ?_⟩) (by assumption) ?_
  rotate_left
  · (intro w hSw; (try dsimp only at hSw); go_simp; try with_reducible rfl)
  try simp only [List.getElem_toArray, List.getElem_cons_succ, List.getElem_cons_zero, Act.put, List.setIfInBounds_toArray, List.set_cons_zero, List.set_cons_succ]
  refine wpAnyH_take (i := 3) (v := ?_) rfl (by kernel_rfl) (by kernel_rfl) (by kernel_rfl) (fun _ _ _ h => h) (Or.inl ⟨by rfl, ?_⟩) (by assumption) ?_
  rotate_left
  · (intro w hSw; (try dsimp only at hSw); go_simp; try with_reducible rfl)
  try simp only [List.getElem_toArray, List.getElem_cons_succ, List.getElem_cons_zero, Act.put, List.setIfInBounds_toArray, List.set_cons_zero, List.set_cons_succ]
  refine wpAnyH_take (i := 4) (v := ?_) rfl (by kernel_rfl) (by kernel_rfl) (by kernel_rfl) (fun _ _ _ h => h) (Or.inl ⟨by rfl, ?_⟩) (by assumption) ?_
  rotate_left
  · (intro w hSw; (try dsimp only at hSw); go_simp; try with_reducible rfl)
  try simp only [List.getElem_toArray, List.getElem_cons_succ, List.getElem_cons_zero, Act.put, List.setIfInBounds_toArray, List.set_cons_zero, List.set_cons_succ]
  refine wpAnyH_take (i := 5) (v := ?_) rfl (by kernel_rfl) (by kernel_rfl) (by kernel_rfl) (fun _ _ _ h => h) (Or.inl ⟨by rfl, ?_⟩) (by assumption) ?_
  rotate_left
  · (intro w hSw; (try dsimp only at hSw); go_simp; try with_reducible rfl)
  try simp only [List.getElem_toArray, List.getElem_cons_succ, List.getElem_cons_zero, Act.put, List.setIfInBounds_toArray, List.set_cons_zero, List.set_cons_succ]
  refine wpAnyH_take (i := 6) (v := ?_) rfl (by kernel_rfl) (by kernel_rfl) (by kernel_rfl) (fun _ _ _ h => h) (Or.inl ⟨by rfl, ?_⟩) (by assumption) ?_
  rotate_left
  · (intro w hSw; (try dsimp only at hSw); go_simp; try with_reducible rfl)
  try simp only [List.getElem_toArray, List.getElem_cons_succ, List.getElem_cons_zero, Act.put, List.setIfInBounds_toArray, List.set_cons_zero, List.set_cons_succ]
  refine wpAnyH_take (i := 7) (v := ?_) rfl (by kernel_rfl) (by kernel_rfl) (by kernel_rfl) (fun _ _ _ h => h) (Or.inl ⟨by rfl, ?_⟩) (by assumption) ?_
  rotate_left
  · (intro w hSw; (try dsimp only at hSw); go_simp; try with_reducible rfl)
  try simp only [List.getElem_toArray, List.getElem_cons_succ, List.getElem_cons_zero, Act.put, List.setIfInBounds_toArray, List.set_cons_zero, List.set_cons_succ]
  refine wpAnyH_take (i := 8) (v := ?_) rfl (by kernel_rfl) (by kernel_rfl) (by kernel_rfl) (fun _ _ _ h => h) (Or.inl ⟨by rfl, ?_⟩) (by assumption) ?_
  rotate_left
  · (intro w hSw; (try dsimp only at hSw); go_simp; try with_reducible rfl)
  try simp only [List.getElem_toArray, List.getElem_cons_succ, List.getElem_cons_zero, Act.put, List.setIfInBounds_toArray, List.set_cons_zero, List.set_cons_succ]
  refine wpAnyH_take (i := 9) (v := ?_) rfl (by kernel_rfl) (by kernel_rfl) (by kernel_rfl) (fun _ _ _ h => h) (Or.inl ⟨by rfl, ?_⟩) (by assumption) ?_
  rotate_left
  · (intro w hSw; (try dsimp only at hSw); go_simp; try with_reducible rfl)
  try simp only [List.getElem_toArray, List.getElem_cons_succ, List.getElem_cons_zero, Act.put, List.setIfInBounds_toArray, List.set_cons_zero, List.set_cons_succ]
  refine wpAnyH_take (i := 10) (v := ?_) rfl (by kernel_rfl) (by kernel_rfl) (by kernel_rfl) (fun _ _ _ h => h) (Or.inl ⟨by rfl, ?_⟩) (by assumption) ?_
  rotate_left
  · (intro w hSw; (try dsimp only at hSw); go_simp; try with_reducible rfl)
  try simp only [List.getElem_toArray, List.getElem_cons_succ, List.getElem_cons_zero, Act.put, List.setIfInBounds_toArray, List.set_cons_zero, List.set_cons_succ]
  refine wpAnyH_done (by kernel_rfl) ?_ _
  go_wp2
  go_ret
  exact ⟨rfl, 1, rfl⟩
theorem bytes_line {p : Lpar} {a : Lad} {x : Lsn} {F : Nat → Prop} {s : Lst} {w : World} (h : LineIs p a x F s w) (hb : s.wrote ≤ nBlk x.S x.B) :
    Calls Tryz.prog 53 #[ptrV a.lb] w fun e w' => e = .returned (.string (bs (hdT x s.hd ++ frsT x.d x.ch x.G x.S x.B s.wrote))) ∧ ∃ m, w' = w.drewN m := by
  have HB := Hid.mk' (sinkBytes_any h hb)
  clear h
  generalize bs (hdT x s.hd ++ frsT x.d x.ch x.G x.S x.B s.wrote) = tx at *
  unfold ptrV at *
  go_enter Tryz.func53, Tryz.ntmps53
  go_wp2_with (go_at_call 113; refine HB.out.mono ?_; rintro e u ⟨rfl, m, rfl⟩; clear HB)
  go_ret
  exact ⟨rfl, m, rfl⟩
end Go.Proofs.YtlncjgnomhpjnabGreatDoor

