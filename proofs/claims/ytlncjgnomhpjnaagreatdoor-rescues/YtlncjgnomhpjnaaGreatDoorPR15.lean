import Derived.Test.YtlncjgnomhpjnaaGreatDoorPR14
/-
  The book: takeAll.
-/
namespace Go.Proofs.YtlncjgnomhpjnaaGreatDoor
open Go.RowKit Go.Deep
set_option linter.unusedVariables false
set_option maxRecDepth 100000 in
set_option maxHeartbeats 2000000 in
theorem bookTakeAll_none (S : Nat → Prop) (B K : Nat) (ogs : Nat → Option Nat) (w : World) (hK : K ≤ 500000000000) (hBP : BookP S w B K) :
    Calls Tryz.prog 16 #[.pointer (some ⟨B, 0, none⟩), .slice none 0 0] w fun e w' => e = .returned (.tuple #[]) ∧ TookA S w w' B K 0 none ogs := by
  obtain ⟨W, hWW⟩ : ∃ W, W = w := ⟨_, rfl⟩
  have hTI : TakeI S w W B K 0 ogs := by rw [hWW]; exact TakeI.start hBP
  obtain ⟨kv, lv, j, j2, ks, ls, hB⟩ := hTI.book
  have HTI := Hid.mk' hTI
  have hj2 : j2 ≤ 1000000000000 := by have := hB.cnt; omega
  obtain ⟨c0, c1, c2, f0, f1, f2⟩ := hB.blk.cells
  have hk0 : ((K + 0 : Nat) : Int) = (K : Int) := by omega
  rw [hk0] at c2
  obtain ⟨m, hm⟩ : ∃ m : Int, m = -1000 - ((K : Int) + 1) := ⟨_, rfl⟩
  have hmw : -1000 - ((K : Int) + 1) = m := hm.symm
  have hBlt := hB.blk.lt
  have HB := Hid.mk' hB
  have HS : Hid (∀ g, (none : Option Nat) = some g → ¬ S g) := fun g hg => by cases hg
  have HSQ : Hid (∀ g, (none : Option Nat) = some g → ∀ q, q < 0 → ogs q ≠ some g) := fun g hg => by cases hg
  have HLT : Hid (∀ g, (none : Option Nat) = some g → g < w.heap.size) := fun g hg => by cases hg
  have HLO : Hid (lv.ownBlock = none ∨ lv.ownBlock ≠ none) := Classical.em _
  have HBO : Hid (some B ≠ (none : Option Nat)) := fun e => by cases e
  have HW : Hid (W.grownBy (W.setCell ⟨B, 2, none⟩ (.int .i64 ((K : Int) + 1))) (some B)) := gr_set W ⟨B, 2, none⟩ _
  have hlvB0 := own_ne_book hB.blk hB.own2 (by decide)
  have hn : 0 ≤ 1000000 := by omega
  clear hB hm hTI hBP
  go_enter Tryz.func16, Tryz.ntmps16
  go_wp2
  go_loopw [4] (fun i wr => i = .int .i64 0 ∧ wr = W) (fun i _ => 0)
  case atStart => exact ⟨rfl, hWW.symm⟩
  case round =>
    obtain ⟨rfl, hwr⟩ := hrel
    clear hWW
    subst hwr
    go_wp2
    obtain ⟨W1, hW1⟩ : ∃ W1, W1 = wr.setCell ⟨B, 2, none⟩ (.int .i64 ((K : Int) + 1)) := ⟨_, rfl⟩
    rw [← hW1] at HW
    rw [← hW1]
    have HWE := Hid.mk' hW1
    obtain ⟨W, hWr⟩ : ∃ W, W = wr := ⟨_, rfl⟩
    rw [← hWr] at HTI HB HW HWE
    clear hW1
    go_loopw [6] (fun i wr => i = .int .i64 0 ∧ wr = W1) (fun i _ => 0)
    case atStart => exact ⟨rfl, rfl⟩
    case round =>
      obtain ⟨rfl, hwr⟩ := hrel
      subst hwr
      have HF : Hid (LM (fun k => W.heap.size ≤ k) wr (.slice none 0 0) 0 none m) := ⟨fun _ => undef, .inl ⟨rfl, rfl, rfl⟩, fun i hi => absurd hi (Nat.not_lt_zero i)⟩
      have HZW : Hid (W.heap.size ≤ wr.heap.size) := HW.out.size
      have hownR := HB.out.own2.kept HW.out (.inr hlvB0)
      have hBoR : Bk wr B kv lv (((K + 0 : Nat) : Int) + 1) := by rw [HWE.out, hk0]; exact HB.out.blk.set2 _
      have hBR := hBoR.lt
      have OSR : Hid (wr.os = W.os ∧ wr.tape = W.tape ∧ wr.output = W.output) := ⟨HW.out.os, HW.out.tape, HW.out.output⟩
      have FR : Hid (∀ k, k < W.heap.size → k ≠ B → some k ≠ (none : Option Nat) → wr.heap[k]? = W.heap[k]?) := fun k hk hkB _ => HW.out.block k hk (by simpa using hkB)
      clear c0 c1 c2 f0 f1 f2 hWr
      obtain ⟨b1, o1, c1, u1, b2, o2, c2, u2, b3, o3, c3, u3, hr1, hr2, hr3, hb1, hb2, hb3, hl0, hl1, hl2, hl3, hg3, s1, s2, s3⟩ := app_three W wr (.slice none 0 0) 0 none m HZW.out HF.out hn 24
      have hlvo : lv.ownBlock = none ∨ lv.ownBlock ≠ none := HLO.out
      have hown3 := hownR.kept hg3 hlvo
      have hBog : some B ≠ none := HBO.out
      have hBo3 := hBoR.of (hg3.block B hBR hBog)
      have hB3 := hBo3.lt
      obtain ⟨b4, c4, u4, hr4, ho4, hg4, hb4⟩ := app_wide 37 75 _ 6 112 Tryz.underlying37 infoLists6 rfl (by omega) u3 0 lv j2 ls #[(.slice none 0 0), .slice (some ⟨b1, o1, none⟩) (0 + 1) c1, .slice (some ⟨b2, o2, none⟩) (0 + 2) c2, .slice (some ⟨b3, o3, none⟩) (0 + 3) c3, .int .i64 0, .int .i64 m] hown3 rfl (by intro u hu; simp at hu; rcases hu with rfl | rfl | rfl | rfl | rfl | rfl <;> rfl) (by simp only [maxLen]; omega) (by omega) (Nat.zero_le _) 37
      have s4 := hg4.size
      have hlvB := own_ne_book hBo3 hown3 (by decide)
      have hBo4 := hBo3.of (hg4.block B hB3 (Ne.symm hlvB))
      obtain ⟨d0, d1, d2, e0, e1, e2⟩ := hBo3.cells
      obtain ⟨x0, x1, x2, y0, y1, y2⟩ := hBo4.cells
      have HR1 := Hid.mk' hr1
      have HR2 := Hid.mk' hr2
      have HR3 := Hid.mk' hr3
      have HR4 := Hid.mk' hr4
      have hset := gr_set u4 ⟨B, 1, none⟩ (.slice (some ⟨b4, 0, none⟩) (j2 + 1) c4)
      have hb4B : b4 ≠ B := fun e => own_ne_book hBo4 ho4 (by decide) (by rw [e]; rfl)
      have hsz5 : (u4.setCell ⟨B, 1, none⟩ (.slice (some ⟨b4, 0, none⟩) (j2 + 1) c4)).heap.size = u4.heap.size := by simp
      have toEnd : ∀ {v : Value} {q : Nat} {og2 : Option Nat}, LM (fun k => W.heap.size ≤ k) u3 v q og2 m → LM (fun k => W.heap.size ≤ k) (u4.setCell ⟨B, 1, none⟩ (.slice (some ⟨b4, 0, none⟩) (j2 + 1) c4)) v q og2 m := fun {v q og2} hl => hl.keep fun g ⟨e, N, f, he, hr⟩ =>
        (hset.block g (Nat.lt_of_lt_of_le hr.lt s4) (fun e' => row_ne_book hBo3 hr (by rcases he with rfl | rfl <;> decide) (by injection e'))).trans (hg4.block g hr.lt (fun e' => own_ne_row hown3 hr (by rcases he with rfl | rfl <;> decide) e'.symm))
      have hZW := HZW.out
      have HT : Hid (TookA S w (u4.setCell ⟨B, 1, none⟩ (.slice (some ⟨b4, 0, none⟩) (j2 + 1) c4)) B K 0 none ogs) := by
        refine tookA_of (n := 0) (l := (.slice none 0 0)) (m := m) HTI.out HB.out HS.out HSQ.out HLT.out hn (fun k hk hkB hko hkk => ?_) ?_ ?_ ?_ (by rw [hsz5]; omega) (hBo4.set1 _) (ho4.kept hset (.inr (by simpa [Value.ownBlock] using hb4B))) (fun g hg => ?_) (toEnd hl0) (toEnd hl1) (toEnd hl2) (toEnd hl3) (hb1.imp id (fun h => by omega)) (hb2.imp id (fun h => by omega)) (hb3.imp id (fun h => by omega))
        · exact (hset.block k (by omega) (by simpa using hkB)).trans ((hg4.block k (by omega) (Ne.symm hkk)).trans ((hg3.block k (by omega) (Ne.symm hko)).trans (FR.out k hk hkB (Ne.symm hko))))
        · exact hset.os.trans (hg4.os.trans (hg3.os.trans OSR.out.1))
        · exact hset.tape.trans (hg4.tape.trans (hg3.tape.trans OSR.out.2.1))
        · exact hset.output.trans (hg4.output.trans (hg3.output.trans OSR.out.2.2))
        · have : b4 = g := by simpa [Value.ownBlock] using hg
          rw [← this]
          exact hb4.imp id (fun h => by omega)
      clear hl0 hl1 hl2 hl3 hg3 hr1 hr2 hr3 hr4 ho4 hg4 hBo3 hBo4 hown3 hownR hBoR toEnd hset hlvo hlvB hBog hb1 hb2 hb3 hb4
      go_wp2_with (first
        | (at_builtin; refine wpList_append_rv rfl _ _ _ rfl _ _ _ rfl rfl HR1.out ?_; clear HR1)
        | (at_builtin; refine wpList_append_rv rfl _ _ _ rfl _ _ _ rfl rfl HR2.out ?_; clear HR2)
        | (at_builtin; refine wpList_append_rv rfl _ _ _ rfl _ _ _ rfl rfl HR3.out ?_; clear HR3)
        | (at_builtin; refine wpList_append_rv rfl _ _ _ rfl _ _ _ rfl rfl HR4.out ?_; clear HR4))
      go_end0
      exact ⟨rfl, HT.out⟩
set_option maxRecDepth 100000 in
set_option maxHeartbeats 2000000 in
theorem bookTakeAll_some (S : Nat → Prop) (B K n g o c N : Nat) (f : Nat → Value) (ogs : Nat → Option Nat) (w : World) (hn : n ≤ 1000000) (hK : K ≤ 500000000000) (hBP : BookP S w B K) (hrow : w.rowIs g 29 N f) (hoc : o + c ≤ N) (hnc : n ≤ c) (hS : ¬ S g)
    (hX : ∀ i, i < n → ∃ q x, q ≤ 1000000 ∧ LstE 3 w (f (o + i)) q (ogs i) x) (hXS : ∀ i, i < n → ∀ g, ogs i = some g → ¬ S g) (hXX : ∀ i k, i < n → k < n → i ≠ k → ∀ g, ogs i = some g → ogs k ≠ some g) :
    Calls Tryz.prog 16 #[.pointer (some ⟨B, 0, none⟩), .slice (some ⟨g, o, none⟩) n c] w fun e w' => e = .returned (.tuple #[]) ∧ TookA S w w' B K n (some g) ogs := by
  have HT0 := Hid.mk' (TakeI.start (ogs := ogs) hBP)
  have HX := Hid.mk' hX
  have HXS := Hid.mk' hXS
  have HXX := Hid.mk' hXX
  have HROW := Hid.mk' hrow
  have HSG := Hid.mk' hS
  have hglt := hrow.lt
  have HOG : Hid (∀ q, q < n → ogs q ≠ some g) := fun q hq e => by
    obtain ⟨k, x, -, hl⟩ := hX q hq
    obtain ⟨N', f', hr⟩ := hl.row e
    exact absurd (row_type hr hrow) (by decide)
  clear hX hXS hXX hrow hS hBP
  go_enter Tryz.func16, Tryz.ntmps16
  go_wp2
  go_loopw [4] (fun iv wr => ∃ i : Nat, i ≤ n ∧ iv = .int .i64 i ∧ Hid (TakeI S w wr B K i ogs)) (fun iv _ => n - (intOf iv).toNat)
  case atStart => exact ⟨0, Nat.zero_le _, rfl, HT0.out⟩
  case round =>
    obtain ⟨i, hi, rfl, HR⟩ := hrel
    have hrowr : wr.rowIs g 29 N f := HROW.out.of_block (HR.out.block g hglt HSG.out (fun q hq => HOG.out q (by omega)))
    by_cases hlt : i < n
    · have hcv : wr.cell? ⟨g, o + i, none⟩ = some (f (o + i)) := hrowr.cell (by omega)
      obtain ⟨q, x, hq, hl⟩ := HX.out i hlt
      have hl2 : LstE 3 wr (f (o + i)) q (ogs i) x := hl.keep fun g' hg' => HR.out.block g' (hl.lt hg') (HXS.out i hlt g' hg') (fun q hq e => HXX.out q i (by omega) hlt (by omega) g' e hg')
      have HTK := Hid.mk' (bookTake_any (fun k => (S k ∨ (∃ q, q < i ∧ ogs q = some k) ∨ w.heap.size ≤ k) ∧ k < wr.heap.size) B (K + i) q (ogs i) x (f (o + i)) wr hq (by omega) HR.out.book hl2 (fun g' hg' hh => by
        rcases hh.1 with h1 | ⟨q, h1, h2⟩ | h1
        · exact HXS.out i hlt g' hg' h1
        · exact HXX.out q i (by omega) hlt (by omega) g' h2 hg'
        · have := hl.lt hg'; omega))
      clear hl hl2
      generalize f (o + i) = fv at *
      go_wp2_with (go_at_call 43; refine HTK.out.mono ?_; rintro e u1 ⟨rfl, ht⟩; have HT1 := Hid.mk' (HR.out.next ht); clear HTK ht)
      go_roundw
      case rel => exact ⟨i + 1, by omega, by go_num, HT1.out⟩
      case measure => simp [intOf]; omega
    · have e : i = n := by omega
      subst e
      obtain ⟨W, hWr⟩ : ∃ W, W = wr := ⟨_, rfl⟩
      have HTI : Hid (TakeI S w W B K i ogs) := by rw [hWr]; exact HR.out
      obtain ⟨kv, lv, j, j2, ks, ls, hB⟩ := HTI.out.book
      have hj2 : j2 ≤ 1000000000000 := by have := hB.cnt; omega
      obtain ⟨c0, c1, c2, f0, f1, f2⟩ := hB.blk.cells
      obtain ⟨m, hm⟩ : ∃ m : Int, m = -1000 - (((K + i : Nat) : Int) + 1) := ⟨_, rfl⟩
      have hmw : -1000 - (((K + i : Nat) : Int) + 1) = m := hm.symm
      have hBlt := hB.blk.lt
      have HB := Hid.mk' hB
      have hgB : g ≠ B := row_ne_book hB.blk (by rw [hWr]; exact hrowr) (by decide)
      have HS : Hid (∀ g', some g = some g' → ¬ S g') := fun g' hg' => by injection hg' with hg'; rw [← hg']; exact HSG.out
      have HSQ : Hid (∀ g', some g = some g' → ∀ q, q < i → ogs q ≠ some g') := fun g' hg' => by injection hg' with hg'; rw [← hg']; exact HOG.out
      have HLT : Hid (∀ g', some g = some g' → g' < w.heap.size) := fun g' hg' => by injection hg' with hg'; rw [← hg']; exact hglt
      have HLO : Hid (lv.ownBlock = none ∨ lv.ownBlock ≠ some g) := .inr (own_ne_row hB.own2 (by rw [hWr]; exact hrowr) (by decide))
      have HBO : Hid (some B ≠ some g) := fun e => by injection e with e; exact hgB e.symm
      have HW : Hid (W.grownBy (W.setCell ⟨B, 2, none⟩ (.int .i64 (((K + i : Nat) : Int) + 1))) (some B)) := gr_set W ⟨B, 2, none⟩ _
      have HRW := Hid.mk' hrowr
      have hlvB0 := own_ne_book hB.blk hB.own2 (by decide)
      clear hB hm hrowr
      rw [hWr] at c0 c1 c2 f0 f1 f2
      have hKi : K + i ≤ 600000000000 := by omega
      generalize hKK : ((K + i : Nat) : Int) = KI at *
      have hKb : 0 ≤ KI ∧ KI ≤ 600000000000 := by omega
      have HKK := Hid.mk' hKK
      clear hKK
      go_wp2
      obtain ⟨W1, hW1⟩ : ∃ W1, W1 = W.setCell ⟨B, 2, none⟩ (.int .i64 (KI + 1)) := ⟨_, rfl⟩
      rw [← hW1] at HW
      rw [← hWr, ← hW1]
      have HWE := Hid.mk' hW1
      clear hW1
      have hW1s := HW.out.size
      go_loopw [6] (fun iv wr => ∃ k : Nat, k ≤ i ∧ iv = .int .i64 k ∧ Hid (∃ y : Nat → Value, (∀ q, q < k → MkL (fun k => W.heap.size ≤ k) wr m (y (o + q))) ∧ wr.rowIs g 29 N y ∧ W1.grownBy wr (some g))) (fun iv _ => i - (intOf iv).toNat)
      case atStart => exact ⟨0, Nat.zero_le _, rfl, f, fun q hq => absurd hq (Nat.not_lt_zero q), (by rw [hWr] at HW; exact HRW.out.of_block (HW.out.block g HRW.out.lt (by simpa using hgB))), gr_refl _ _⟩
      case round =>
        obtain ⟨k, hk, rfl, HX2⟩ := hrel
        obtain ⟨y, hy, hrow, hch⟩ := HX2.out
        by_cases hkn : k < i
        · have hc0 : wr.cell? ⟨g, o + k, none⟩ = some (y (o + k)) := hrow.cell (by omega)
          have hf0 := hrow.frozen (o + k)
          have hgl := hrow.lt
          have HY := Hid.mk' hy
          have HR2 := Hid.mk' hrow
          have HCH := Hid.mk' hch
          clear hy hrow hch HX2
          generalize y (o + k) = yv at *
          go_wp2
          go_roundw
          case rel =>
            have hz0 : W.heap.size ≤ wr.heap.size := Nat.le_trans hW1s HCH.out.size
            have hm0 : ∀ g', (some g : Option Nat) = some g' → ∀ N f, ¬ wr.rowIs g' 3 N f := fun g' hg' N' f' hr => by
              injection hg' with hg'
              subst hg'
              exact absurd (row_type hr HR2.out) (by decide)
            refine ⟨k + 1, by omega, by go_num, _, fun q hq => ?_, (HR2.out.set (o + k) _).alloc _, gr_trans (gr_trans HCH.out (gr_set wr ⟨g, o + k, none⟩ _)) (World.grownBy_alloc _ _ _)⟩
            by_cases e : q = k
            · rw [e, if_pos rfl]
              have h := mkl_new (fun k => W.heap.size ≤ k) (wr.setCell ⟨g, o + k, none⟩ (.slice (some ⟨wr.heap.size, 0, none⟩) 1 1)) m (by show W.heap.size ≤ _; simp; exact hz0)
              have hsz : (wr.setCell ⟨g, o + k, none⟩ (.slice (some ⟨wr.heap.size, 0, none⟩) 1 1)).heap.size = wr.heap.size := by simp
              rw [hsz] at h
              exact h
            · rw [if_neg (by omega)]
              exact ((HY.out q (by omega)).gr (gr_set wr ⟨g, o + k, none⟩ _) hm0).alloc _
          case measure => simp [intOf]; omega
        · have e : k = i := by omega
          subst e
          have HF : Hid (LM (fun k => W.heap.size ≤ k) wr (.slice (some ⟨g, o, none⟩) k c) k (some g) m) := ⟨fun q => y (o + q), .inr ⟨g, o, c, N, y, rfl, rfl, hrow, hoc, hnc, fun q _ => rfl⟩, hy⟩
          have HZW : Hid (W.heap.size ≤ wr.heap.size) := Nat.le_trans hW1s hch.size
          have hownR := (HB.out.own2.kept HW.out (.inr hlvB0)).kept hch HLO.out
          have hBoR : Bk wr B kv lv (((K + k : Nat) : Int) + 1) := by
            rw [HKK.out]
            exact (by rw [HWE.out]; exact HB.out.blk.set2 _ : Bk W1 B kv lv (KI + 1)).of (hch.block B (Nat.lt_of_lt_of_le hBlt HW.out.size) HBO.out)
          have hBR := hBoR.lt
          have OSR : Hid (wr.os = W.os ∧ wr.tape = W.tape ∧ wr.output = W.output) := ⟨hch.os.trans HW.out.os, hch.tape.trans HW.out.tape, hch.output.trans HW.out.output⟩
          have FR : Hid (∀ k, k < W.heap.size → k ≠ B → some k ≠ some g → wr.heap[k]? = W.heap[k]?) := fun k hk hkB hkg => (hch.block k (Nat.lt_of_lt_of_le hk HW.out.size) hkg).trans (HW.out.block k hk (by simpa using hkB))
          clear hy hrow hch HX2 c0 c1 c2 f0 f1 f2 hWr
          obtain ⟨b1, o1, c1, u1, b2, o2, c2, u2, b3, o3, c3, u3, hr1, hr2, hr3, hb1, hb2, hb3, hl0, hl1, hl2, hl3, hg3, s1, s2, s3⟩ := app_three W wr (.slice (some ⟨g, o, none⟩) k c) k (some g) m HZW.out HF.out hn 24
          have hlvo : lv.ownBlock = none ∨ lv.ownBlock ≠ (some g) := HLO.out
          have hown3 := hownR.kept hg3 hlvo
          have hBog : some B ≠ (some g) := HBO.out
          have hBo3 := hBoR.of (hg3.block B hBR hBog)
          have hB3 := hBo3.lt
          obtain ⟨b4, c4, u4, hr4, ho4, hg4, hb4⟩ := app_wide 37 75 _ 6 112 Tryz.underlying37 infoLists6 rfl (by omega) u3 0 lv j2 ls #[(.slice (some ⟨g, o, none⟩) k c), .slice (some ⟨b1, o1, none⟩) (k + 1) c1, .slice (some ⟨b2, o2, none⟩) (k + 2) c2, .slice (some ⟨b3, o3, none⟩) (k + 3) c3, .int .i64 k, .int .i64 m] hown3 rfl (by intro u hu; simp at hu; rcases hu with rfl | rfl | rfl | rfl | rfl | rfl <;> rfl) (by simp only [maxLen]; omega) (by omega) (Nat.zero_le _) 37
          have s4 := hg4.size
          have hlvB := own_ne_book hBo3 hown3 (by decide)
          have hBo4 := hBo3.of (hg4.block B hB3 (Ne.symm hlvB))
          obtain ⟨d0, d1, d2, e0, e1, e2⟩ := hBo3.cells
          obtain ⟨x0, x1, x2, y0, y1, y2⟩ := hBo4.cells
          have HR1 := Hid.mk' hr1
          have HR2 := Hid.mk' hr2
          have HR3 := Hid.mk' hr3
          have HR4 := Hid.mk' hr4
          have hset := gr_set u4 ⟨B, 1, none⟩ (.slice (some ⟨b4, 0, none⟩) (j2 + 1) c4)
          have hb4B : b4 ≠ B := fun e => own_ne_book hBo4 ho4 (by decide) (by rw [e]; rfl)
          have hsz5 : (u4.setCell ⟨B, 1, none⟩ (.slice (some ⟨b4, 0, none⟩) (j2 + 1) c4)).heap.size = u4.heap.size := by simp
          have toEnd : ∀ {v : Value} {q : Nat} {og2 : Option Nat}, LM (fun k => W.heap.size ≤ k) u3 v q og2 m → LM (fun k => W.heap.size ≤ k) (u4.setCell ⟨B, 1, none⟩ (.slice (some ⟨b4, 0, none⟩) (j2 + 1) c4)) v q og2 m := fun {v q og2} hl => hl.keep fun g ⟨e, N, f, he, hr⟩ =>
            (hset.block g (Nat.lt_of_lt_of_le hr.lt s4) (fun e' => row_ne_book hBo3 hr (by rcases he with rfl | rfl <;> decide) (by injection e'))).trans (hg4.block g hr.lt (fun e' => own_ne_row hown3 hr (by rcases he with rfl | rfl <;> decide) e'.symm))
          have hZW := HZW.out
          have HT : Hid (TookA S w (u4.setCell ⟨B, 1, none⟩ (.slice (some ⟨b4, 0, none⟩) (j2 + 1) c4)) B K k (some g) ogs) := by
            refine tookA_of (n := k) (l := (.slice (some ⟨g, o, none⟩) k c)) (m := m) HTI.out HB.out HS.out HSQ.out HLT.out hn (fun k hk hkB hko hkk => ?_) ?_ ?_ ?_ (by rw [hsz5]; omega) (hBo4.set1 _) (ho4.kept hset (.inr (by simpa [Value.ownBlock] using hb4B))) (fun g hg => ?_) (toEnd hl0) (toEnd hl1) (toEnd hl2) (toEnd hl3) (hb1.imp id (fun h => by omega)) (hb2.imp id (fun h => by omega)) (hb3.imp id (fun h => by omega))
            · exact (hset.block k (by omega) (by simpa using hkB)).trans ((hg4.block k (by omega) (Ne.symm hkk)).trans ((hg3.block k (by omega) (Ne.symm hko)).trans (FR.out k hk hkB (Ne.symm hko))))
            · exact hset.os.trans (hg4.os.trans (hg3.os.trans OSR.out.1))
            · exact hset.tape.trans (hg4.tape.trans (hg3.tape.trans OSR.out.2.1))
            · exact hset.output.trans (hg4.output.trans (hg3.output.trans OSR.out.2.2))
            · have : b4 = g := by simpa [Value.ownBlock] using hg
              rw [← this]
              exact hb4.imp id (fun h => by omega)
          clear hl0 hl1 hl2 hl3 hg3 hr1 hr2 hr3 hr4 ho4 hg4 hBo3 hBo4 hown3 hownR hBoR toEnd hset hlvo hlvB hBog hb1 hb2 hb3 hb4
          go_wp2_with (first
            | (at_builtin; refine wpList_append_rv rfl _ _ _ rfl _ _ _ rfl rfl HR1.out ?_; clear HR1)
            | (at_builtin; refine wpList_append_rv rfl _ _ _ rfl _ _ _ rfl rfl HR2.out ?_; clear HR2)
            | (at_builtin; refine wpList_append_rv rfl _ _ _ rfl _ _ _ rfl rfl HR3.out ?_; clear HR3)
            | (at_builtin; refine wpList_append_rv rfl _ _ _ rfl _ _ _ rfl rfl HR4.out ?_; clear HR4))
          go_end0
          exact ⟨rfl, HT.out⟩
end Go.Proofs.YtlncjgnomhpjnaaGreatDoor

