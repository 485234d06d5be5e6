import Derived.Test.YtlncjgnomhpjnaaGreatDoorPR11
import Derived.Test.YtlncjgnomhpjnaaGreatDoorPR3
/-
  The book: a list goes into it.
-/
namespace Go.Proofs.YtlncjgnomhpjnaaGreatDoor
open Go.RowKit Go.Deep
set_option linter.unusedVariables false
set_option maxRecDepth 100000 in
set_option maxHeartbeats 2000000 in
theorem bookTake_any (S : Nat → Prop) (B K n : Nat) (og : Option Nat) (x : Nat → Value) (l : Value) (w : World) (hn : n ≤ 1000000) (hK : K ≤ 1000000000000) (hB : BookP S w B K) (hL : LstE 3 w l n og x) (hS : ∀ g, og = some g → ¬ S g) :
    Calls Tryz.prog 43 #[.pointer (some ⟨B, 0, none⟩), l] w fun e w' => e = .returned (.tuple #[]) ∧ TookP S w w' B K og := by
  obtain ⟨kv, lv, j, j2, ks, ls, hB⟩ := hB
  have hj : j ≤ 1000000000000 := by have := hB.cnt; omega
  obtain ⟨c0, c1, c2, f0, f1, f2⟩ := hB.blk.cells
  obtain ⟨m, hm⟩ : ∃ m : Int, m = -1000 - ((K : Int) + 1) := ⟨_, rfl⟩
  have hmw : -1000 - ((K : Int) + 1) = m := hm.symm
  have hBlt := hB.blk.lt
  have HB := Hid.mk' hB
  have HS := Hid.mk' hS
  have HRO : Hid (∀ g, og = some g → IsRow w g) := fun g hg => hL.isRow (.inl rfl) hg
  have HKO : Hid (kv.ownBlock = none ∨ kv.ownBlock ≠ og) := by
    rcases hL with ⟨-, -, e⟩ | ⟨g, o, c, N, f, e, -, hr, -⟩
    · rw [e]; exact Classical.em _
    · rw [e]; exact .inr (own_ne_row hB.own hr (by decide))
  have HBO : Hid (some B ≠ og) := fun e => hS B e.symm hB.inB
  have HW : Hid (w.grownBy (w.setCell ⟨B, 2, none⟩ (.int .i64 ((K : Int) + 1))) (some B)) := gr_set w ⟨B, 2, none⟩ _
  have hkvB0 := own_ne_book hB.blk hB.own (by decide)
  clear hB hm hS
  rcases hL with ⟨rfl, rfl, rfl⟩ | ⟨g, o, c, N, f, rfl, rfl, hrow, hoc, hnc, -⟩
  · go_enter Tryz.func43, Tryz.ntmps43
    go_wp2
    obtain ⟨W, hW⟩ : ∃ W, W = w.setCell ⟨B, 2, none⟩ (.int .i64 ((K : Int) + 1)) := ⟨_, rfl⟩
    rw [← hW] at HW
    rw [← hW]
    have HWE := Hid.mk' hW
    clear hW
    go_loopw [5] (fun i wr => i = .int .i64 0 ∧ wr = W) (fun i _ => 0)
    case atStart => exact ⟨rfl, rfl⟩
    case round =>
      obtain ⟨rfl, hwr⟩ := hrel
      subst hwr
      have HF : Hid (LstE 3 wr (.slice none 0 0) 0 none (fun _ => .int .i64 m)) := .inl ⟨rfl, rfl, rfl⟩
      have hownR := HB.out.own.kept HW.out (.inr hkvB0)
      have hBoR : Bk wr B kv lv ((K : Int) + 1) := by rw [HWE.out]; exact HB.out.blk.set2 _
      have hBR := hBoR.lt
      have OSR : Hid (wr.os = w.os ∧ wr.tape = w.tape ∧ wr.output = w.output) := ⟨HW.out.os, HW.out.tape, HW.out.output⟩
      have FR : Hid (∀ k, k < w.heap.size → k ≠ B → some k ≠ (none : Option Nat) → wr.heap[k]? = w.heap[k]?) := fun k hk hkB _ => HW.out.block k hk (by simpa using hkB)
      have hszR : w.heap.size ≤ wr.heap.size := HW.out.size
      obtain ⟨b1, o1, c1, u1, hr1, hb1, hl1, hs1⟩ := app_mk wr (.slice none 0 0) 0 m #[.int .i64 m] 1 none HF.out hn rfl (by omega) (by omega) 29
      obtain ⟨b2, o2, c2, u2, hr2, hb2, hl2, hs2⟩ := app_mk u1 (.slice none 0 0) 0 m #[.int .i64 m, .int .i64 m] 2 none (HF.out.mk hs1) hn rfl (by omega) (by omega) 29
      obtain ⟨b3, o3, c3, u3, hr3, hb3, hl3, hs3⟩ := app_mk u2 (.slice none 0 0) 0 m #[.int .i64 m, .int .i64 m, .int .i64 m] 3 none ((HF.out.mk hs1).mk hs2) hn rfl (by omega) (by omega) 29
      have s1 := hs1.gr.size
      have s2 := hs2.gr.size
      have s3 := hs3.gr.size
      have hkvo : kv.ownBlock = none ∨ kv.ownBlock ≠ none := HKO.out
      have hown3 := ((hownR.kept hs1.gr hkvo).kept hs2.gr hkvo).kept hs3.gr hkvo
      have hBog : some B ≠ none := HBO.out
      have hBo3 := ((hBoR.of (hs1.gr.block B hBR hBog)).of (hs2.gr.block B (Nat.lt_of_lt_of_le hBR s1) hBog)).of (hs3.gr.block B (Nat.lt_of_lt_of_le hBR (Nat.le_trans s1 s2)) hBog)
      have hB3 := hBo3.lt
      obtain ⟨b4, c4, u4, hr4, ho4, hg4, hb4⟩ := app_wide 36 79 _ 6 112 Tryz.underlying36 infoKept6 rfl (by omega) u3 0 kv j ks #[(.slice none 0 0), .slice (some ⟨b1, o1, none⟩) (0 + 1) c1, .slice (some ⟨b2, o2, none⟩) (0 + 2) c2, .slice (some ⟨b3, o3, none⟩) (0 + 3) c3, .int .i64 0, .int .i64 m] hown3 rfl (by intro u hu; simp at hu; rcases hu with rfl | rfl | rfl | rfl | rfl | rfl <;> rfl) (by simp only [maxLen]; omega) (by omega) (Nat.zero_le _) 36
      have s4 := hg4.size
      have hkvB := own_ne_book hBo3 hown3 (by decide)
      have hBo4 := hBo3.of (hg4.block B hB3 (Ne.symm hkvB))
      obtain ⟨d0, d1, d2, e0, e1, e2⟩ := hBo3.cells
      obtain ⟨x0, x1, x2, y0, y1, y2⟩ := hBo4.cells
      have HR1 := Hid.mk' hr1
      have HR2 := Hid.mk' hr2
      have HR3 := Hid.mk' hr3
      have HR4 := Hid.mk' hr4
      have hset := gr_set u4 ⟨B, 0, none⟩ (.slice (some ⟨b4, 0, none⟩) (j + 1) c4)
      have hb4B : b4 ≠ B := fun e => own_ne_book hBo4 ho4 (by decide) (by rw [e]; rfl)
      have hsz5 : (u4.setCell ⟨B, 0, none⟩ (.slice (some ⟨b4, 0, none⟩) (j + 1) c4)).heap.size = u4.heap.size := by simp
      have ne4 : ∀ {q : Nat} {N : Nat} {f : Nat → Value}, u3.rowIs q 3 N f → some q ≠ kv.ownBlock := fun {q N f} hr e => own_ne_row hown3 hr (by decide) e.symm
      have toEnd : ∀ {v : Value} {q : Nat} {og2 : Option Nat}, LstE 3 u3 v q og2 (fun _ => .int .i64 m) → LstE 3 (u4.setCell ⟨B, 0, none⟩ (.slice (some ⟨b4, 0, none⟩) (j + 1) c4)) v q og2 (fun _ => .int .i64 m) := fun {v q og2} hl => hl.keep fun g hg => by
        obtain ⟨N, f, hr⟩ := hl.row hg
        exact (hset.block g (Nat.lt_of_lt_of_le hr.lt s4) (fun e => row_ne_book hBo3 hr (by decide) (by injection e))).trans (hg4.block g hr.lt (ne4 hr))
      have HT : Hid (TookP S w (u4.setCell ⟨B, 0, none⟩ (.slice (some ⟨b4, 0, none⟩) (j + 1) c4)) B K none) := by
        refine took_of (n := 0) (l := (.slice none 0 0)) (m := m) HB.out HS.out HRO.out hn (fun k hk hkB hko hkk => ?_) ?_ ?_ ?_ (by rw [hsz5]; omega) (hBo4.set0 _) (ho4.kept hset (.inr (by simpa [Value.ownBlock] using hb4B))) (fun g hg => ?_) (toEnd (((HF.out.mk hs1).mk hs2).mk hs3)) (toEnd ((hl1.mk hs2).mk hs3)) (toEnd (hl2.mk hs3)) (toEnd hl3) (hb1.imp id (fun h => by omega)) (hb2.imp id (fun h => by omega)) (hb3.imp id (fun h => by omega))
        · exact (hset.block k (by omega) (by simpa using hkB)).trans ((hg4.block k (by omega) (Ne.symm hkk)).trans ((hs3.gr.block k (by omega) (Ne.symm hko)).trans ((hs2.gr.block k (by omega) (Ne.symm hko)).trans ((hs1.gr.block k (by omega) (Ne.symm hko)).trans (FR.out k hk hkB (Ne.symm hko))))))
        · exact hset.os.trans (hg4.os.trans (hs3.gr.os.trans (hs2.gr.os.trans (hs1.gr.os.trans OSR.out.1))))
        · exact hset.tape.trans (hg4.tape.trans (hs3.gr.tape.trans (hs2.gr.tape.trans (hs1.gr.tape.trans OSR.out.2.1))))
        · exact hset.output.trans (hg4.output.trans (hs3.gr.output.trans (hs2.gr.output.trans (hs1.gr.output.trans OSR.out.2.2))))
        · have : b4 = g := by simpa [Value.ownBlock] using hg
          rw [← this]
          exact hb4.imp id (fun h => by omega)
      clear hl1 hl2 hl3 hs1 hs2 hs3 hr1 hr2 hr3 hr4 ho4 hg4 hBo3 hBo4 hown3 hownR hBoR toEnd hset hkvo ne4 hkvB hBog hb1 hb2 hb3 hb4
      go_wp2_with (first
        | (at_builtin; refine wpList_append_rv rfl _ _ _ rfl _ _ _ rfl rfl HR1.out ?_; clear HR1)
        | (at_builtin; refine wpList_append_rv rfl _ _ _ rfl _ _ _ rfl rfl HR2.out ?_; clear HR2)
        | (at_builtin; refine wpList_append_rv rfl _ _ _ rfl _ _ _ rfl rfl HR3.out ?_; clear HR3)
        | (at_builtin; refine wpList_append_rv rfl _ _ _ rfl _ _ _ rfl rfl HR4.out ?_; clear HR4))
      go_end0
      exact ⟨rfl, HT.out⟩
  · have HROW := Hid.mk' hrow
    have hgB : g ≠ B := fun e => HBO.out (by rw [e])
    have hglt := hrow.lt
    clear hrow
    go_enter Tryz.func43, Tryz.ntmps43
    go_wp2
    obtain ⟨W, hW⟩ : ∃ W, W = w.setCell ⟨B, 2, none⟩ (.int .i64 ((K : Int) + 1)) := ⟨_, rfl⟩
    rw [← hW] at HW
    rw [← hW]
    have HWE := Hid.mk' hW
    clear hW
    go_loopw [5] (fun i wr => ∃ k : Nat, k ≤ n ∧ i = .int .i64 k ∧ Hid (∃ y : Nat → Value, (∀ j, j < k → y (o + j) = .int .i64 m) ∧ wr.rowIs g 3 N y ∧ Chg g W wr)) (fun i _ => n - (intOf i).toNat)
    case atStart => exact ⟨0, Nat.zero_le _, rfl, f, fun j hj => absurd hj (by omega), HROW.out.of_block (HW.out.block g hglt (by simpa using hgB)), Chg.refl _ _⟩
    case round =>
      obtain ⟨k, hk, rfl, HX⟩ := hrel
      obtain ⟨y, hy, hrow, hch⟩ := HX.out
      by_cases hkn : k < n
      · have hc0 : wr.cell? ⟨g, o + k, none⟩ = some (y (o + k)) := hrow.cell (by omega)
        have hf0 := hrow.frozen (o + k)
        have HY := Hid.mk' hy
        have HR := Hid.mk' hrow
        have HCH := Hid.mk' hch
        clear hy hrow hch HX
        generalize y (o + k) = yv at *
        go_wp2
        go_roundw
        case rel =>
          refine ⟨k + 1, by omega, by go_num, _, fun j hj => ?_, HR.out.set (o + k) (.int .i64 m), HCH.out.set (o + k) _⟩
          by_cases e : j = k
          · rw [e, if_pos rfl]
          · rw [if_neg (by omega)]; exact HY.out j (by omega)
        case measure => simp [intOf]; omega
      · have e : k = n := by omega
        subst k
        have HF : Hid (LstE 3 wr (.slice (some ⟨g, o, none⟩) n c) n (some g) (fun _ => .int .i64 m)) := .inr ⟨g, o, c, N, y, rfl, rfl, hrow, hoc, hnc, hy⟩
        have hownR := (HB.out.own.kept HW.out (.inr hkvB0)).kept hch HKO.out
        have hBoR : Bk wr B kv lv ((K : Int) + 1) := (by rw [HWE.out]; exact HB.out.blk.set2 _ : Bk W B kv lv ((K : Int) + 1)).of (hch.block B (Nat.lt_of_lt_of_le hBlt HW.out.size) (by simpa using Ne.symm hgB))
        have hBR := hBoR.lt
        have OSR : Hid (wr.os = w.os ∧ wr.tape = w.tape ∧ wr.output = w.output) := ⟨hch.os.trans HW.out.os, hch.tape.trans HW.out.tape, hch.output.trans HW.out.output⟩
        have FR : Hid (∀ k, k < w.heap.size → k ≠ B → some k ≠ some g → wr.heap[k]? = w.heap[k]?) := fun k hk hkB hkg => (hch.block k (Nat.lt_of_lt_of_le hk HW.out.size) hkg).trans (HW.out.block k hk (by simpa using hkB))
        have hszR : w.heap.size ≤ wr.heap.size := Nat.le_trans HW.out.size hch.size
        clear hy hrow hch HX
        obtain ⟨b1, o1, c1, u1, hr1, hb1, hl1, hs1⟩ := app_mk wr (.slice (some ⟨g, o, none⟩) n c) n m #[.int .i64 m] 1 (some g) HF.out hn rfl (by omega) (by omega) 29
        obtain ⟨b2, o2, c2, u2, hr2, hb2, hl2, hs2⟩ := app_mk u1 (.slice (some ⟨g, o, none⟩) n c) n m #[.int .i64 m, .int .i64 m] 2 (some g) (HF.out.mk hs1) hn rfl (by omega) (by omega) 29
        obtain ⟨b3, o3, c3, u3, hr3, hb3, hl3, hs3⟩ := app_mk u2 (.slice (some ⟨g, o, none⟩) n c) n m #[.int .i64 m, .int .i64 m, .int .i64 m] 3 (some g) ((HF.out.mk hs1).mk hs2) hn rfl (by omega) (by omega) 29
        have s1 := hs1.gr.size
        have s2 := hs2.gr.size
        have s3 := hs3.gr.size
        have hkvo : kv.ownBlock = none ∨ kv.ownBlock ≠ (some g) := HKO.out
        have hown3 := ((hownR.kept hs1.gr hkvo).kept hs2.gr hkvo).kept hs3.gr hkvo
        have hBog : some B ≠ (some g) := HBO.out
        have hBo3 := ((hBoR.of (hs1.gr.block B hBR hBog)).of (hs2.gr.block B (Nat.lt_of_lt_of_le hBR s1) hBog)).of (hs3.gr.block B (Nat.lt_of_lt_of_le hBR (Nat.le_trans s1 s2)) hBog)
        have hB3 := hBo3.lt
        obtain ⟨b4, c4, u4, hr4, ho4, hg4, hb4⟩ := app_wide 36 79 _ 6 112 Tryz.underlying36 infoKept6 rfl (by omega) u3 0 kv j ks #[(.slice (some ⟨g, o, none⟩) n c), .slice (some ⟨b1, o1, none⟩) (n + 1) c1, .slice (some ⟨b2, o2, none⟩) (n + 2) c2, .slice (some ⟨b3, o3, none⟩) (n + 3) c3, .int .i64 n, .int .i64 m] hown3 rfl (by intro u hu; simp at hu; rcases hu with rfl | rfl | rfl | rfl | rfl | rfl <;> rfl) (by simp only [maxLen]; omega) (by omega) (Nat.zero_le _) 36
        have s4 := hg4.size
        have hkvB := own_ne_book hBo3 hown3 (by decide)
        have hBo4 := hBo3.of (hg4.block B hB3 (Ne.symm hkvB))
        obtain ⟨d0, d1, d2, e0, e1, e2⟩ := hBo3.cells
        obtain ⟨x0, x1, x2, y0, y1, y2⟩ := hBo4.cells
        have HR1 := Hid.mk' hr1
        have HR2 := Hid.mk' hr2
        have HR3 := Hid.mk' hr3
        have HR4 := Hid.mk' hr4
        have hset := gr_set u4 ⟨B, 0, none⟩ (.slice (some ⟨b4, 0, none⟩) (j + 1) c4)
        have hb4B : b4 ≠ B := fun e => own_ne_book hBo4 ho4 (by decide) (by rw [e]; rfl)
        have hsz5 : (u4.setCell ⟨B, 0, none⟩ (.slice (some ⟨b4, 0, none⟩) (j + 1) c4)).heap.size = u4.heap.size := by simp
        have ne4 : ∀ {q : Nat} {N : Nat} {f : Nat → Value}, u3.rowIs q 3 N f → some q ≠ kv.ownBlock := fun {q N f} hr e => own_ne_row hown3 hr (by decide) e.symm
        have toEnd : ∀ {v : Value} {q : Nat} {og2 : Option Nat}, LstE 3 u3 v q og2 (fun _ => .int .i64 m) → LstE 3 (u4.setCell ⟨B, 0, none⟩ (.slice (some ⟨b4, 0, none⟩) (j + 1) c4)) v q og2 (fun _ => .int .i64 m) := fun {v q og2} hl => hl.keep fun g hg => by
          obtain ⟨N, f, hr⟩ := hl.row hg
          exact (hset.block g (Nat.lt_of_lt_of_le hr.lt s4) (fun e => row_ne_book hBo3 hr (by decide) (by injection e))).trans (hg4.block g hr.lt (ne4 hr))
        have HT : Hid (TookP S w (u4.setCell ⟨B, 0, none⟩ (.slice (some ⟨b4, 0, none⟩) (j + 1) c4)) B K (some g)) := by
          refine took_of (n := n) (l := (.slice (some ⟨g, o, none⟩) n c)) (m := m) HB.out HS.out HRO.out hn (fun k hk hkB hko hkk => ?_) ?_ ?_ ?_ (by rw [hsz5]; omega) (hBo4.set0 _) (ho4.kept hset (.inr (by simpa [Value.ownBlock] using hb4B))) (fun g hg => ?_) (toEnd (((HF.out.mk hs1).mk hs2).mk hs3)) (toEnd ((hl1.mk hs2).mk hs3)) (toEnd (hl2.mk hs3)) (toEnd hl3) (hb1.imp id (fun h => by omega)) (hb2.imp id (fun h => by omega)) (hb3.imp id (fun h => by omega))
          · exact (hset.block k (by omega) (by simpa using hkB)).trans ((hg4.block k (by omega) (Ne.symm hkk)).trans ((hs3.gr.block k (by omega) (Ne.symm hko)).trans ((hs2.gr.block k (by omega) (Ne.symm hko)).trans ((hs1.gr.block k (by omega) (Ne.symm hko)).trans (FR.out k hk hkB (Ne.symm hko))))))
          · exact hset.os.trans (hg4.os.trans (hs3.gr.os.trans (hs2.gr.os.trans (hs1.gr.os.trans OSR.out.1))))
          · exact hset.tape.trans (hg4.tape.trans (hs3.gr.tape.trans (hs2.gr.tape.trans (hs1.gr.tape.trans OSR.out.2.1))))
          · exact hset.output.trans (hg4.output.trans (hs3.gr.output.trans (hs2.gr.output.trans (hs1.gr.output.trans OSR.out.2.2))))
          · have : b4 = g := by simpa [Value.ownBlock] using hg
            rw [← this]
            exact hb4.imp id (fun h => by omega)
        clear hl1 hl2 hl3 hs1 hs2 hs3 hr1 hr2 hr3 hr4 ho4 hg4 hBo3 hBo4 hown3 hownR hBoR toEnd hset hkvo ne4 hkvB hBog hb1 hb2 hb3 hb4
        go_wp2_with (first
          | (at_builtin; refine wpList_append_rv rfl _ _ _ rfl _ _ _ rfl rfl HR1.out ?_; clear HR1)
          | (at_builtin; refine wpList_append_rv rfl _ _ _ rfl _ _ _ rfl rfl HR2.out ?_; clear HR2)
          | (at_builtin; refine wpList_append_rv rfl _ _ _ rfl _ _ _ rfl rfl HR3.out ?_; clear HR3)
          | (at_builtin; refine wpList_append_rv rfl _ _ _ rfl _ _ _ rfl rfl HR4.out ?_; clear HR4))
        go_end0
        exact ⟨rfl, HT.out⟩
end Go.Proofs.YtlncjgnomhpjnaaGreatDoor

