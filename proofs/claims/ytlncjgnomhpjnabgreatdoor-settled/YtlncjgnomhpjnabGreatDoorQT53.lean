import Derived.Test.YtlncjgnomhpjnabGreatDoorQT16
import Derived.Test.YtlncjgnomhpjnabGreatDoorQT52
import Derived.BigQuiet
import Derived.Deep.QuietTactic
import Derived.Deep.DeepCutAuto
/-
  The law 'Settled'.
-/
namespace Go.Proofs.YtlncjgnomhpjnabGreatDoor
open Go.RowKit Go.Deep
set_option linter.unusedVariables false
theorem RunI.box {p : Lpar} {x : Lsn} {l : Nat} {w : World} {K : Array Value} {a : Lad} {F : Nat → Prop} {s : Lst} {u v : World} (h : RunI p x l w K a F s u) (hb : Below u.heap.size u v) (ds : Array Value) : RunI p x l w K a F s ((v.alloc (.cells #[.int .i64 0, .int .i64 0, .int .i64 0, .int .i64 0, .int .i64 0, .int .i64 0, .int .i64 0, .int .i64 0, .slice none 0 0, .slice none 0 0, .slice none 0 0] 64)).setRow v.heap.size ds) ∧ Bx ((v.alloc (.cells #[.int .i64 0, .int .i64 0, .int .i64 0, .int .i64 0, .int .i64 0, .int .i64 0, .int .i64 0, .int .i64 0, .slice none 0 0, .slice none 0 0, .slice none 0 0] 64)).setRow v.heap.size ds) v.heap.size 64 ds := by
  have e1 : Edit (fun _ => False) v ((v.alloc (.cells #[.int .i64 0, .int .i64 0, .int .i64 0, .int .i64 0, .int .i64 0, .int .i64 0, .int .i64 0, .int .i64 0, .slice none 0 0, .slice none 0 0, .slice none 0 0] 64)).setRow v.heap.size ds) := ((Edit.refl _ v).alloc _).row (Nat.le_refl _) _
  exact ⟨h.keep (hb.trans ((e1.below (Nat.le_refl _) fun k hk => hk.elim).mono hb.size)), (Bx.new v _ _).row _⟩
theorem exec_loadRow {P : Program} {w : World} {o : Oper} {a : Act} (p : Operand) (t : TypeId) (ho : o.op = .load t p) (g : Nat) (tt : TypeId) (cs : Array Value) (fr : Nat × Nat) (d : TypeDesc) (hp : a.eval p = .pointer (some ⟨g, 0, none⟩)) (hg : w.heap[g]? = some (.cells cs tt fr)) (hu : P.underlying t = some d)
    (hd : (match d with | .struct _ | .array _ _ => true | _ => false) = true) (hi : (P.info? t).map (·.size) = some cs.size) : (execOp a.eval o).run P w = .ok (.value (.agg cs)) w := by
  have hr := run_loadVar_row (P := P) w g tt t cs fr d hg hu hd hi
  have e : (Instr.loadAt t (.pointer (some ⟨g, 0, none⟩))).run P w = .ok (.agg cs) w := by simpa [Instr.loadAt, Instr.sureAddr, asAddr] using hr
  unfold execOp
  simp only [ho, hp, Sem.run_bind, e, Result.andThen, Sem.run_pure]
theorem run_two {p : Lpar} {x : Lsn} {l : Nat} {w : World} {K : Array Value} {a : Lad} {F F' : Nat → Prop} {s : Lst} {u v z : World} (h : RunI p x l w K a F s u) (hb : Below u.heap.size u v) (ds : Array Value) (hO : ∀ k, F' k → F k ∨ ((v.alloc (.cells #[.int .i64 0, .int .i64 0, .int .i64 0, .int .i64 0, .int .i64 0, .int .i64 0, .int .i64 0, .int .i64 0, .slice none 0 0, .slice none 0 0, .slice none 0 0] 64)).setRow v.heap.size ds).heap.size ≤ k) (hE : Edit F ((v.alloc (.cells #[.int .i64 0, .int .i64 0, .int .i64 0, .int .i64 0, .int .i64 0, .int .i64 0, .int .i64 0, .int .i64 0, .slice none 0 0, .slice none 0 0, .slice none 0 0] 64)).setRow v.heap.size ds) z) :
    ¬ F' v.heap.size ∧ l ≠ v.heap.size ∧ w.heap.size + 1 ≤ v.heap.size ∧ Bx z v.heap.size 64 ds := by
  have hF : ¬ F v.heap.size := fun hf => absurd (h.line.line.lt _ hf) (by have := hb.size; omega)
  have h1 := h.line.ptr.lt
  have h2 := h.cb.lt
  have h3 := hb.size
  refine ⟨fun hf => ?_, by omega, by omega, (h.box hb ds).2.edit hE hF⟩
  rcases hO _ hf with h4 | h4
  · exact hF h4
  · simp at h4
    omega
set_option linter.unusedSimpArgs false in
set_option maxRecDepth 100000 in
set_option maxHeartbeats 4000000 in
theorem settledLaw (c0 c1 c2 c3 c4 c5 c6 c7 : Int) (a : Option Addr) (n cap : Nat) (A : Nat → Option Addr) (L C : Nat → Nat) (F : Nat → Nat → Int) (pa : Option Addr) (m pc : Nat) (pk : Nat → Int) (w : World) (h3 : -9223372036854775808 ≤ c3 ∧ c3 ≤ 9223372036854775807) (h4 : -9223372036854775808 ≤ c4 ∧ c4 ≤ 9223372036854775807) (h : SoundIn w a n cap A L C F)
    (hF : ∀ i, i < n → ∀ j, j < L i → -9223372036854775808 ≤ F i j ∧ F i j ≤ 9223372036854775807) (hP : IntsAt w pa m pk) (hPl : ∀ y, pa = some y → 0 < m → y.block < w.heap.size) (hPr : ∀ i, i < m → -9223372036854775808 ≤ pk i ∧ pk i ≤ 9223372036854775807) (hT : TabsF w) :
    Calls Tryz.prog 5 #[.agg #[.int .i64 c0, .int .i64 c1, .int .i64 c2, .int .i64 c3, .int .i64 c4, .int .i64 c5, .int .i64 c6, .int .i64 c7], .slice a n cap, .slice pa m pc] w fun e w' => e = .returned (.bool true) ∧ Below w.heap.size w w' := by
  have HQ0 := Hid.mk' (Bx.new w #[.int .i64 c0, .int .i64 c1, .int .i64 c2, .int .i64 c3, .int .i64 c4, .int .i64 c5, .int .i64 c6, .int .i64 c7] 23)
  have HB0 : Hid (Below w.heap.size w (w.alloc (.cells #[.int .i64 c0, .int .i64 c1, .int .i64 c2, .int .i64 c3, .int .i64 c4, .int .i64 c5, .int .i64 c6, .int .i64 c7] 23))) := (Below.refl _ _).alloc (Nat.le_refl _) _
  have HRT := Hid.mk' (fun u => right_ok c0 c1 c2 c3 c4 c5 c6 c7 u h3 h4)
  have HSD := Hid.mk' (fun (u : World) (hu : Below w.heap.size w u) (ch d : Nat) (k2 k3 k4 k5 k6 k7 : Int) h1 h2 h3 => sounded_any k2 k3 k4 k5 k6 k7 ch d a n cap A L C F u h1 h2 h3 (by have := h.hn; omega) h.hL (h.below hu).hA (h.below hu).hI hF (h.below hu).low)
  have HS3 : Hid (sndN n L ≤ 300) := by show _ ≤ _; unfold sndN; split <;> omega
  have HTT := Hid.mk' (fun (u : World) (hu : Below w.heap.size w u) => hT.below hu)
  have HSET : Hid (∀ (ch d B k3 k4 k5 k6 k7 S : Nat) (G : Nat → Nat → Int) (l : Nat) (a : Lad) (F : Nat → Prop) (s : Lst) (u : World), RunI (⟨nBlk S B, k5, k6, k7, 0⟩ : Lpar) (⟨ch, d, B, k3, k4, S, G⟩ : Lsn) l w #[.int .i64 ch, .int .i64 d, .int .i64 B, .int .i64 k3, .int .i64 k4, .int .i64 k5, .int .i64 k6, .int .i64 k7] a F s u → ∀ R : Nat, R ≤ s.rem (⟨nBlk S B, k5, k6, k7, 0⟩ : Lpar) → R ≤ 10000 → Calls Tryz.prog 22 #[.pointer (some ⟨l, 0, none⟩), .agg #[.int .i64 ch, .int .i64 d, .int .i64 B, .int .i64 k3, .int .i64 k4, .int .i64 k5, .int .i64 k6, .int .i64 k7], .int .i64 (nBlk S B : Nat), .slice pa m pc, .int .i64 R] u fun e w' => e = .returned (.bool true) ∧ ∃ a' F' s', RunI (⟨nBlk S B, k5, k6, k7, 0⟩ : Lpar) (⟨ch, d, B, k3, k4, S, G⟩ : Lsn) l w #[.int .i64 ch, .int .i64 d, .int .i64 B, .int .i64 k3, .int .i64 k4, .int .i64 k5, .int .i64 k6, .int .i64 k7] a' F' s' w' ∧ s'.rem (⟨nBlk S B, k5, k6, k7, 0⟩ : Lpar) = s.rem (⟨nBlk S B, k5, k6, k7, 0⟩ : Lpar) - R ∧ (∀ k, F' k → F k ∨ u.heap.size ≤ k) ∧ Edit F u w') := fun ch d B k3 k4 k5 k6 k7 S G l a F s u hu R hR hRb => run_settle hu hT (by show (0 : Int) < 1; omega) pa m pc pk hP hPl hPr R hR hRb
  clear h hF hT h3 h4 hP hPl hPr
  generalize sndN n L = S at *
  go_enter Tryz.func5, Tryz.ntmps5
  go_wp2_with (first
    | (refine wpList_loadRow rfl _ 23 rfl w.heap.size 23 #[.int .i64 c0, .int .i64 c1, .int .i64 c2, .int .i64 c3, .int .i64 c4, .int .i64 c5, .int .i64 c6, .int .i64 c7] (0, 0) _ rfl HQ0.out Tryz.underlying23 rfl infoCfgK ?_)
    | (go_at_call 9; refine (HRT.out _).mono ?_; rintro e w1 ⟨ch, d, B, k3, k4, k5, k6, k7, rfl, hcf, hb⟩; have HCF := Hid.mk' hcf; have HQ1 := Hid.mk' (HQ0.out.below hb); have HQ2 := Hid.mk' (HQ1.out.row #[.int .i64 ch, .int .i64 d, .int .i64 B, .int .i64 k3, .int .i64 k4, .int .i64 k5, .int .i64 k6, .int .i64 k7]); have HB2 := Hid.mk' (below_row (HB0.out.trans (hb.mono HB0.out.size)) (Nat.le_refl _) #[.int .i64 ch, .int .i64 d, .int .i64 B, .int .i64 k3, .int .i64 k4, .int .i64 k5, .int .i64 k6, .int .i64 k7]); clear HRT hcf hb HQ0 HB0)
    | (refine wpList_storeRow rfl _ _ 23 rfl w.heap.size 23 _ _ rfl rfl HQ1.out infoCfgK rfl rfl ?_)
    | (refine wpList_loadRow rfl _ 23 rfl w.heap.size 23 #[.int .i64 ch, .int .i64 d, .int .i64 B, .int .i64 k3, .int .i64 k4, .int .i64 k5, .int .i64 k6, .int .i64 k7] (0, 0) _ rfl HQ2.out Tryz.underlying23 rfl infoCfgK ?_)
    | (go_at_call 10; refine (HSD.out _ HB2.out ch d B k3 k4 k5 k6 k7 HCF.out.ch4 HCF.out.d4 HCF.out.d12).mono ?_; rintro e w3 ⟨xv, gs, G, rfl, hx, hG, hb⟩; have HKP := Hid.mk' (kp_of HCF.out HS3.out hG); have HQ3 := Hid.mk' (HQ2.out.below hb); have HB3 := Hid.mk' (HB2.out.trans (hb.mono HB2.out.size)); have hS3 := HS3.out; have HBK := Hid.mk' (kblocks_any ch d k3 k4 k5 k6 k7 B w3 HCF.out.B1 HCF.out.B32 hS3 HCF.out.ch1 hx); have HX3 := Hid.mk' hx; obtain ⟨gx, cx, hxv, -, -, -⟩ := hx.open HCF.out.ch1; subst hxv; have hN3 : nBlk S B ≤ 300 := Nat.le_trans (nBlk_le HCF.out.B1) hS3; have hk5 := HCF.out.c58; have e22 := stream_len HKP.out; clear hx hG hb HQ1 HQ2 HB2 HSD)
    | (refine wpList_loadRow rfl _ 23 rfl w.heap.size 23 #[.int .i64 ch, .int .i64 d, .int .i64 B, .int .i64 k3, .int .i64 k4, .int .i64 k5, .int .i64 k6, .int .i64 k7] (0, 0) _ rfl HQ3.out Tryz.underlying23 rfl infoCfgK ?_)
    | (go_at_call 20; refine HBK.out.mono ?_; rintro e w4 ⟨rfl, hb⟩; have HQ4 := Hid.mk' (HQ3.out.below hb); have HB4 := Hid.mk' (HB3.out.trans (hb.mono HB3.out.size)); have HX4 := Hid.mk' (HX3.out.next hb); have HEN := Hid.mk' (enc_keep w4 HCF.out HKP.out HX4.out (HTT.out _ HB4.out)); have hsz := bs_size (streamT d ch B k3 k4 G S); obtain ⟨tx, htx⟩ : ∃ tx, tx = bs (streamT d ch B k3 k4 G S) := ⟨_, rfl⟩; rw [← htx] at HEN hsz; have h22 : ¬ tx.size < 22 := (by omega); have h22' : ¬ (tx.size : Int) < 22 := (by omega); have HTX := Hid.mk' htx; clear hb htx hsz e22 HQ3 HB3 HX3 HBK)
    | (refine wpList_loadRow rfl _ 23 rfl w.heap.size 23 #[.int .i64 ch, .int .i64 d, .int .i64 B, .int .i64 k3, .int .i64 k4, .int .i64 k5, .int .i64 k6, .int .i64 k7] (0, 0) _ rfl HQ4.out Tryz.underlying23 rfl infoCfgK ?_)
    | (go_at_call 11; refine HEN.out.mono ?_; rintro e w5 ⟨rfl, hb⟩; have HQ5 := Hid.mk' (HQ4.out.below hb); have HB5 := Hid.mk' (HB4.out.trans (hb.mono HB4.out.size)); have HNW := Hid.mk' (rNew_any w5 HCF.out HKP.out (HX4.out.next hb) 0); clear hb HQ4 HB4 HX4 HEN)
    | (refine wpList_loadRow rfl _ 23 rfl w.heap.size 23 #[.int .i64 ch, .int .i64 d, .int .i64 B, .int .i64 k3, .int .i64 k4, .int .i64 k5, .int .i64 k6, .int .i64 k7] (0, 0) _ rfl HQ5.out Tryz.underlying23 rfl infoCfgK ?_)
    | (go_at_call 21; refine HNW.out.mono ?_; rintro e w6 ⟨l, a6, F6, rfl, hM, hb⟩; have HI6 : Hid (RunI (⟨nBlk S B, k5, k6, k7, 0⟩ : Lpar) (⟨ch, d, B, k3, k4, S, G⟩ : Lsn) l w #[.int .i64 ch, .int .i64 d, .int .i64 B, .int .i64 k3, .int .i64 k4, .int .i64 k5, .int .i64 k6, .int .i64 k7] a6 F6 Lst.init w6) := (RunI.mk hM.line rfl (fun k hk => Nat.le_trans HQ5.out.lt (hM.far k hk)) (HQ5.out.below hb) (HB5.out.trans (hb.mono HB5.out.size))); have HR6 := Hid.mk' (rem_init (⟨nBlk S B, k5, k6, k7, 0⟩ : Lpar)); unfold ptrV; clear hM hb HQ5 HB5 HNW))
  have hI6 : RunI (⟨nBlk S B, k5, k6, k7, 0⟩ : Lpar) (⟨ch, d, B, k3, k4, S, G⟩ : Lsn) l w #[.int .i64 ch, .int .i64 d, .int .i64 B, .int .i64 k3, .int .i64 k4, .int .i64 k5, .int .i64 k6, .int .i64 k7] a6 F6 Lst.init w6.drew := HI6.out.keep (bel_drewN (Below.refl _ _) 1)
  have HAL := Hid.mk' (all_any ch d B k3 k4 k6 k7 k5 (nBlk S B) w6.drew hk5 hN3)
  have HJ6 := Hid.mk' hI6
  have hS0 := hI6.cb
  clear hI6 HI6
  refine wp_region_held_drew (S := fun w' => Bx w' w.heap.size 23 #[.int .i64 ch, .int .i64 d, .int .i64 B, .int .i64 k3, .int .i64 k4, .int .i64 k5, .int .i64 k6, .int .i64 k7]) (by kernel_rfl) hS0 (fun hHeld => ?_)
  refine wpAnyH_take (i := 0) (v := ?_) rfl (by kernel_rfl) (by kernel_rfl) (by kernel_rfl) (fun _ _ _ h => h) (Or.inl ⟨by rfl, ?_⟩) (by assumption) ?_
  rotate_left
  · (intro w hSw; (try dsimp only at hSw); go_simp; try with_reducible rfl)
  try simp only [List.getElem_toArray, List.getElem_cons_succ, List.getElem_cons_zero, Act.put, List.setIfInBounds_toArray, List.set_cons_zero, List.set_cons_succ]
  refine wpAnyH_take (i := 2) (v := ?_) rfl (by kernel_rfl) (by kernel_rfl) (by kernel_rfl) (fun _ _ _ h => h) (Or.inl ⟨by rfl, ?_⟩) (by assumption) ?_
  rotate_left
  · (intro w hSw; (try dsimp only at hSw); go_simp; try with_reducible rfl)
  try simp only [List.getElem_toArray, List.getElem_cons_succ, List.getElem_cons_zero, Act.put, List.setIfInBounds_toArray, List.set_cons_zero, List.set_cons_succ]
  refine wpAnyH_take (i := 3) (v := ?_) rfl (by kernel_rfl) (by kernel_rfl) (by kernel_rfl) (fun _ _ _ h => h) (Or.inl ⟨by rfl, ?_⟩) (by assumption) ?_
  rotate_left
  · (intro w hSw; (try dsimp only at hSw); go_simp; try with_reducible rfl)
  try simp only [List.getElem_toArray, List.getElem_cons_succ, List.getElem_cons_zero, Act.put, List.setIfInBounds_toArray, List.set_cons_zero, List.set_cons_succ]
  refine wpAnyH_take (i := 5) (v := ?_) rfl (by kernel_rfl) (by kernel_rfl) (by kernel_rfl) (fun _ _ _ h => h) (Or.inl ⟨by rfl, ?_⟩) (by assumption) ?_
  rotate_left
  · (intro w hSw; (try dsimp only at hSw); go_simp; try with_reducible rfl)
  try simp only [List.getElem_toArray, List.getElem_cons_succ, List.getElem_cons_zero, Act.put, List.setIfInBounds_toArray, List.set_cons_zero, List.set_cons_succ]
  refine wpAnyH_take (i := 1) (v := ?_) rfl (by kernel_rfl) (by kernel_rfl) (by kernel_rfl) (fun _ _ _ h => h) (Or.inl ⟨by rfl, ?_⟩) (by assumption) ?_
  rotate_left
  · (intro wx hSw; refine exec_loadRow (Operand.tmp 3) 23 ?_ w.heap.size 23 #[.int .i64 ch, .int .i64 d, .int .i64 B, .int .i64 k3, .int .i64 k4, .int .i64 k5, .int .i64 k6, .int .i64 k7] (0, 0) _ ?_ hSw Tryz.underlying23 rfl infoCfgK <;> rfl)
  try simp only [List.getElem_toArray, List.getElem_cons_succ, List.getElem_cons_zero, Act.put, List.setIfInBounds_toArray, List.set_cons_zero, List.set_cons_succ]
  refine wpAnyH_take (i := 4) (v := ?_) rfl (by kernel_rfl) (by kernel_rfl) (by kernel_rfl) (fun _ _ _ h => h) (Or.inl ⟨by rfl, ?_⟩) (by assumption) ?_
  rotate_left
  · (intro wx hSw; refine exec_loadRow (Operand.tmp 3) 23 ?_ w.heap.size 23 #[.int .i64 ch, .int .i64 d, .int .i64 B, .int .i64 k3, .int .i64 k4, .int .i64 k5, .int .i64 k6, .int .i64 k7] (0, 0) _ ?_ hSw Tryz.underlying23 rfl infoCfgK <;> rfl)
  try simp only [List.getElem_toArray, List.getElem_cons_succ, List.getElem_cons_zero, Act.put, List.setIfInBounds_toArray, List.set_cons_zero, List.set_cons_succ]
  refine wpAnyH_ready (rs := [6]) (by kernel_rfl) (by simp) ?_
  refine AllReadyH.cons rfl (fun K hK => ?_) (AllReadyH.nil)
  go_simp
  go_at_call 23
  refine HAL.out.mono ?_
  rintro e w7 ⟨rfl, hb⟩
  have hI7 := HJ6.out.keep hb
  have hS1 := hI7.cb
  have HI7 := Hid.mk' hI7
  have wal : IntKind.i64.wrap (((6 * nBlk S B + k5 + 4 : Nat) : Int) - 1) = ((6 * nBlk S B + k5 + 3 : Nat) : Int) := by rw [IntKind.wrap_i64]; omega
  have HST := Hid.mk' (HSET.out ch d B k3 k4 k5 k6 k7 S G l a6 F6 Lst.init w7 hI7 (6 * nBlk S B + k5 + 3) (by rw [HR6.out]; omega) (by omega))
  clear hb hI7 HJ6 HAL hS0
  generalize hn4 : ((6 * nBlk S B + k5 + 4 : Nat) : Int) = n4 at *
  clear hn4
  generalize hn3 : ((6 * nBlk S B + k5 + 3 : Nat) : Int) = n3 at *
  clear hn3
  go_wp2_with fail
  refine hK.out _ _ hS1 (fun hHeld => ?_)
  clear hK K
  try simp only [List.getElem_toArray, List.getElem_cons_succ, List.getElem_cons_zero, Act.put, List.setIfInBounds_toArray, List.set_cons_zero, List.set_cons_succ]
  refine wpAnyH_take (i := 7) (v := ?_) rfl (by kernel_rfl) (by kernel_rfl) (by kernel_rfl) (fun _ _ _ h => h) (Or.inl ⟨by rfl, ?_⟩) (by assumption) ?_
  rotate_left
  · (intro w hSw; (try dsimp only at hSw); go_simp; try with_reducible rfl)
  try simp only [List.getElem_toArray, List.getElem_cons_succ, List.getElem_cons_zero, Act.put, List.setIfInBounds_toArray, List.set_cons_zero, List.set_cons_succ]
  refine wpAnyH_ready (rs := [8]) (by kernel_rfl) (by simp) ?_
  refine AllReadyH.cons rfl (fun K hK => ?_) (AllReadyH.nil)
  go_simp
  go_at_call 22
  refine HST.out.mono ?_
  rintro e w8 ⟨rfl, a8, F8, s8, hI, hr, -, -⟩
  have HI8 := Hid.mk' hI
  have hS2 := hI.cb
  have hr8 : s8.rem (⟨nBlk S B, k5, k6, k7, 0⟩ : Lpar) = 1 := by
    rw [hr, HR6.out]
    show 6 * nBlk S B + k5 + 4 - _ = 1
    omega
  have HR8 := Hid.mk' hr8
  have HLK : Hid (Calls Tryz.prog 24 #[.pointer (some ⟨l, 0, none⟩)] w8 fun e w' => ∃ A1 q1 A2 q2 A3 q3, e = .returned (.agg #[.int .i64 0, .int .i64 s8.given, .int .i64 s8.summed, .int .i64 s8.wrote, .int .i64 s8.writes, .int .i64 s8.jobs.length, .int .i64 s8.lane.length, .int .i64 s8.ready.length, .slice A1 k5 q1, .slice A2 s8.shelf.length q2, .slice A3 (s8.ended (⟨nBlk S B, k5, k6, k7, 0⟩ : Lpar)).length q3]) ∧ Below w8.heap.size w8 w') := run_look hI (by omega)
  clear hI hr hr8 HST HI7 HR6 hS1
  go_wp2_with fail
  refine hK.out _ _ hS2 (fun hHeld => ?_)
  clear hK K
  try simp only [List.getElem_toArray, List.getElem_cons_succ, List.getElem_cons_zero, Act.put, List.setIfInBounds_toArray, List.set_cons_zero, List.set_cons_succ]
  refine wpAnyH_take (i := 9) (v := ?_) rfl (by kernel_rfl) (by kernel_rfl) (by kernel_rfl) (fun _ _ _ h => h) (Or.inl ⟨by rfl, ?_⟩) (by assumption) ?_
  rotate_left
  · (intro w hSw; (try dsimp only at hSw); go_simp; try with_reducible rfl)
  try simp only [List.getElem_toArray, List.getElem_cons_succ, List.getElem_cons_zero, Act.put, List.setIfInBounds_toArray, List.set_cons_zero, List.set_cons_succ]
  refine wpAnyH_done (by kernel_rfl) ?_ _
  go_wp2_with (first
    | (go_at_call 24; refine HLK.out.mono ?_; rintro e w9 ⟨A1, q1, A2, q2, A3, q3, rfl, hb⟩; have HZ9 := Hid.mk' (HI8.out.box hb #[.int .i64 0, .int .i64 s8.given, .int .i64 s8.summed, .int .i64 s8.wrote, .int .i64 s8.writes, .int .i64 s8.jobs.length, .int .i64 s8.lane.length, .int .i64 s8.ready.length, .slice A1 k5 q1, .slice A2 s8.shelf.length q2, .slice A3 (s8.ended (⟨nBlk S B, k5, k6, k7, 0⟩ : Lpar)).length q3]); have HB9 := Hid.mk' hb; have x0 := HZ9.out.2.cell 0; simp at x0; have HST2 := Hid.mk' (HSET.out ch d B k3 k4 k5 k6 k7 S G l a8 F8 s8 _ HZ9.out.1 1 (by rw [HR8.out]; omega) (by omega)); clear hb HLK HSET)
    | (refine wpList_storeRow rfl _ _ 64 rfl w9.heap.size 64 _ _ rfl rfl (Bx.new w9 #[.int .i64 0, .int .i64 0, .int .i64 0, .int .i64 0, .int .i64 0, .int .i64 0, .int .i64 0, .int .i64 0, .slice none 0 0, .slice none 0 0, .slice none 0 0] 64) infoView rfl rfl ?_)
    | (refine wpList_loadRow rfl _ 23 rfl w.heap.size 23 #[.int .i64 ch, .int .i64 d, .int .i64 B, .int .i64 k3, .int .i64 k4, .int .i64 k5, .int .i64 k6, .int .i64 k7] (0, 0) _ rfl HZ9.out.1.cb Tryz.underlying23 rfl infoCfgK ?_)
    | (go_at_call 22; refine HST2.out.mono ?_; rintro e w10 ⟨rfl, a9, F9, s9, hI, hr, hO, hE⟩; obtain ⟨o1, o2, o3, o4⟩ := run_two HI8.out HB9.out #[.int .i64 0, .int .i64 s8.given, .int .i64 s8.summed, .int .i64 s8.wrote, .int .i64 s8.writes, .int .i64 s8.jobs.length, .int .i64 s8.lane.length, .int .i64 s8.ready.length, .slice A1 k5 q1, .slice A2 s8.shelf.length q2, .slice A3 (s8.ended (⟨nBlk S B, k5, k6, k7, 0⟩ : Lpar)).length q3] hO hE; have HI10 := Hid.mk' hI; have HBX := Hid.mk' o4; have HOO := Hid.mk' (And.intro o1 (And.intro o2 o3)); have hr9 : s9.rem (⟨nBlk S B, k5, k6, k7, 0⟩ : Lpar) = 0 := (by rw [hr, HR8.out]); have HR9 := Hid.mk' hr9; have HLK2 : Hid (Calls Tryz.prog 24 #[.pointer (some ⟨l, 0, none⟩)] w10 fun e w' => ∃ B1 r1 B2 r2 B3 r3, e = .returned (.agg #[.int .i64 1, .int .i64 (nBlk S B : Nat), .int .i64 (nBlk S B : Nat), .int .i64 (nBlk S B : Nat), .int .i64 ((nBlk S B + 2 : Nat) : Int), .int .i64 s9.jobs.length, .int .i64 s9.lane.length, .int .i64 s9.ready.length, .slice B1 k5 r1, .slice B2 s9.shelf.length r2, .slice B3 (s9.ended (⟨nBlk S B, k5, k6, k7, 0⟩ : Lpar)).length r3]) ∧ Below w10.heap.size w10 w') := over_look hI hr9; clear hI hr hr9 hO hE o1 o2 o3 o4 HI8 HR8 HB9 HST2 HZ9)
    | (go_at_call 24; refine HLK2.out.mono ?_; rintro e w11 ⟨B1, r1, B2, r2, B3, r3, rfl, hb⟩; have HZ11 := Hid.mk' (And.intro ((HI10.out.keep hb).row HOO.out.1 HOO.out.2.1 HOO.out.2.2 #[.int .i64 1, .int .i64 (nBlk S B : Nat), .int .i64 (nBlk S B : Nat), .int .i64 (nBlk S B : Nat), .int .i64 ((nBlk S B + 2 : Nat) : Int), .int .i64 s9.jobs.length, .int .i64 s9.lane.length, .int .i64 s9.ready.length, .slice B1 k5 r1, .slice B2 s9.shelf.length r2, .slice B3 (s9.ended (⟨nBlk S B, k5, k6, k7, 0⟩ : Lpar)).length r3]) ((HBX.out.below hb).row #[.int .i64 1, .int .i64 (nBlk S B : Nat), .int .i64 (nBlk S B : Nat), .int .i64 (nBlk S B : Nat), .int .i64 ((nBlk S B + 2 : Nat) : Int), .int .i64 s9.jobs.length, .int .i64 s9.lane.length, .int .i64 s9.ready.length, .slice B1 k5 r1, .slice B2 s9.shelf.length r2, .slice B3 (s9.ended (⟨nBlk S B, k5, k6, k7, 0⟩ : Lpar)).length r3])); have HBX2 := Hid.mk' (HBX.out.below hb); have HBY := Hid.mk' (over_bytes HZ11.out.1 HR9.out); rw [← HTX.out] at HBY; clear hb HLK2 HBX HI10 HOO)
    | (refine wpList_storeRow rfl _ _ 64 rfl w9.heap.size 64 _ _ rfl rfl HBX2.out infoView rfl rfl ?_)
    | (go_at_call 25; refine HBY.out.mono ?_; rintro e w12 ⟨rfl, hb⟩; have HI12 := Hid.mk' (HZ11.out.1.keep hb); have bx := HZ11.out.2.below hb; have y0 := bx.cell 0; have y1 := bx.cell 1; have y2 := bx.cell 2; have y3 := bx.cell 3; have y4 := bx.cell 4; simp at y0 y1 y2 y3 y4; have wn2 : IntKind.i64.wrap ((nBlk S B : Int) + 2) = ((nBlk S B + 2 : Nat) : Int) := (by rw [IntKind.wrap_i64]; omega); have HOV := Hid.mk' (overRight_any HI12.out.line ((HI12.out.line.inv.rem0 HI12.out.run).1 HR9.out) ch d B k3 k4 k6 k7); clear hb bx HBY HZ11 HR9)
    | (refine wpList_loadRow rfl _ 23 rfl w.heap.size 23 #[.int .i64 ch, .int .i64 d, .int .i64 B, .int .i64 k3, .int .i64 k4, .int .i64 k5, .int .i64 k6, .int .i64 k7] (0, 0) _ rfl HI12.out.cb Tryz.underlying23 rfl infoCfgK ?_)
    | (go_at_call 26; refine HOV.out.mono ?_; rintro e w13 ⟨rfl, hb⟩; have HFI := Hid.mk' (HI12.out.bel.trans (hb.mono HI12.out.bel.size)); clear hb HOV))
  go_ret
  exact ⟨rfl, HFI.out⟩
end Go.Proofs.YtlncjgnomhpjnabGreatDoor

