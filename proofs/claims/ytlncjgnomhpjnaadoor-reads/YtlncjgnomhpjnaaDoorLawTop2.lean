/-
  The law: Reads, whole.
-/
import Derived.Test.YtlncjgnomhpjnaaDoorLawTop
namespace Go.Proofs.YtlncjgnomhpjnaaDoor
open Go.RowKit Go.Deep
set_option linter.unusedVariables false

/-- the text of the document's example -/
def exS : ByteArray := ⟨#[48, 48, 48, 49, 48, 48, 48, 49, 48, 49, 49, 48, 49, 48, 49]⟩
theorem ex_bits : IsBitsP exS := by
  have h : ∀ j : Fin 15, exS[j.val]'(j.isLt) = 48 ∨ exS[j.val]'(j.isLt) = 49 := by decide
  intro j hj
  exact h ⟨j, hj⟩
theorem ex_map : (readSt (bitsOf exS) exS.size 4 2).map (fun xp => (xp.1 0, xp.1 1, xp.2)) = some (6, 4, 14) := by kernel_rfl
theorem ex_any (w : World) (hT : TabAt w 2) (hT2 : 2 < w.heap.size) :
    Calls Tryd.prog 9 #[.int .i64 4, .int .i64 2, .string ⟨#[48, 48, 48, 49, 48, 48, 48, 49, 48, 49, 49, 48, 49, 48, 49]⟩] w fun e w' =>
      ∃ g x, e = .returned (.tuple #[.slice (some ⟨g, 0, none⟩) 2 2, .int .i64 14, .int .i64 0]) ∧ w.heap.size ≤ g ∧ x 0 = 6 ∧ x 1 = 4 ∧ w'.rowIs g 3 2 (cutV 2 x) ∧ Below w.heap.size w w' := by
  refine (read_any 4 2 exS w (by decide) hT hT2).mono ?_
  rintro e w' ⟨h, hb⟩
  have hm := ex_map
  have e1 : (within 4 1 13 && within 2 1 32) = true := by decide
  have e2 : exS.size ≤ 80000 := by decide
  have e3 := ex_bits
  rcases h with ⟨h, -⟩ | ⟨-, h, -⟩ | ⟨-, -, h, -⟩ | ⟨-, -, -, h, -⟩ | ⟨-, -, -, xp, g, h, he, hg, hr⟩
  · exact absurd e1 h
  · omega
  · exact absurd e3 h
  · rw [show (4 : Int).toNat = 4 from rfl, show (2 : Int).toNat = 2 from rfl] at h
    rw [h] at hm; cases hm
  · rw [show (4 : Int).toNat = 4 from rfl, show (2 : Int).toNat = 2 from rfl] at h
    rw [h] at hm
    simp only [Option.map_some, Option.some.injEq, Prod.mk.injEq] at hm
    obtain ⟨m0, m1, m2⟩ := hm
    rw [m2] at he
    exact ⟨g, xp.1, he, hg, m0, m1, hr, hb⟩

theorem bo_ne {w : World} {B base j : Nat} {kv kv' : Value} {K : Int} {ks : List Value} (h : Bo w B kv K) (ho : w.ownsRow base 50 6 kv' j ks) : kv'.ownBlock ≠ some B := by
  intro e
  rcases ho.2 with h0 | ⟨g', cap, cur, h0, -, hcur, -⟩
  · rw [h0.1] at e; cases e
  · rw [h0] at e
    have e' : g' = B := by simpa [Value.ownBlock] using e
    rw [e', show w.heap[B]? = _ from h] at hcur
    simp at hcur

/-- the book behind its first list -/
theorem first_took {w u1 t1 : World} {g : Nat} {O : Obj} (hb : Below w.heap.size w u1) (hg : w.heap.size ≤ g) (ht : Took (u1.alloc O) t1 u1.heap.size (.slice (some ⟨g, 0, none⟩) 2 2) 2 (.slice none 0 0) 0 0 0 [] (-1000 - (((0 : Nat) : Int) + 1))) :
    ∃ v1 v2 v3 kv base, Bo t1 u1.heap.size kv 1 ∧ t1.ownsRow base 50 6 kv 1 [.slice (some ⟨g, 0, none⟩) 2 2, v1, v2, v3, .int .i64 ((2 : Nat) : Int), .int .i64 (-1001)] ∧ base ≤ t1.heap.size ∧ kv.ownBlock ≠ some u1.heap.size ∧ (∀ k, kv.ownBlock = some k → w.heap.size ≤ k) ∧
      Sh (fun k => k ≠ u1.heap.size ∧ kv.ownBlock ≠ some k) t1 (.slice (some ⟨g, 0, none⟩) 2 2) 2 (-1001) ∧ Sh (fun k => k ≠ u1.heap.size ∧ kv.ownBlock ≠ some k) t1 v1 (2 + 1) (-1001) ∧ Sh (fun k => k ≠ u1.heap.size ∧ kv.ownBlock ≠ some k) t1 v2 (2 + 2) (-1001) ∧ Sh (fun k => k ≠ u1.heap.size ∧ kv.ownBlock ≠ some k) t1 v3 (2 + 3) (-1001) ∧ Below w.heap.size w t1 := by
  obtain ⟨v1, v2, v3, kv, base, hBo, hown, hbs, hnil, q0, q1, q2, q3⟩ := ht.all
  have hal : (u1.alloc O).heap.size = u1.heap.size + 1 := by simp
  have hbl := hnil rfl
  have h1 := hb.size
  have sh : ∀ v n, Sh (fun k => k ≠ u1.heap.size ∧ (Value.slice none 0 0 = .slice none 0 0 → kv.ownBlock ≠ some k)) t1 v n (-1000 - (((0 : Nat) : Int) + 1)) → Sh (fun k => k ≠ u1.heap.size ∧ kv.ownBlock ≠ some k) t1 v n (-1001) := by
    rintro v n ⟨a, c, e, hI, hS⟩
    exact ⟨a, c, e, hI, fun y hy => ⟨⟨(hS y hy).1.1, (hS y hy).1.2 rfl⟩, (hS y hy).2⟩⟩
  refine ⟨v1, v2, v3, kv, base, hBo, hown, hbs, bo_ne hBo hown, fun k hk => ?_, sh _ _ q0, sh _ _ q1, sh _ _ q2, sh _ _ q3, ?_⟩
  · have := (hown.lt k hk).1
    omega
  · refine ⟨ht.os.trans hb.os, ht.tape.trans hb.tape, ht.output.trans hb.output, by have := ht.size; omega, fun k hk => ?_⟩
    refine (ht.block k (by omega) (by omega) (fun e => ?_) (fun e => by cases e)).trans ((Below.heap_alloc u1 O k (by omega)).trans (hb.block k hk))
    have : g = k := by simpa [Value.ownBlock] using e
    omega

set_option maxRecDepth 100000 in
set_option maxHeartbeats 2000000 in
theorem readsLaw (width n : Int) (s : ByteArray) (w : World) (hsz : s.size ≤ 9223372036854775807) (hT : TabAt w 2) (hT2 : 2 < w.heap.size) (hU : TabAt w 3) (hU3 : 3 < w.heap.size) :
    Calls Tryd.prog 4 #[.int .i64 width, .int .i64 n, .string s] w fun e w' => e = .returned (.bool true) ∧ Below w.heap.size w w' := by
  have HT := Hid.mk' hT
  have HU := Hid.mk' hU
  clear hT hU
  go_enter Tryd.func4, Tryd.ntmps4
  go_wp2_with (first
    | (go_at_call 9; refine (ex_any w HT.out hT2).mono ?_; rintro e u1 ⟨g, x, rfl, hg, hx0, hx1, hr1, hb1⟩; have k0 : u1.cell? ⟨g, 0, none⟩ = some (.int .i64 6) := (by have := hr1.cell (i := 0) (by omega); simpa [cutV, cutI, hx0] using this); have k1 : u1.cell? ⟨g, 1, none⟩ = some (.int .i64 4) := (by have := hr1.cell (i := 1) (by omega); simpa [cutV, cutI, hx1] using this); have HR1 := Hid.mk' hr1; have HB1 := Hid.mk' hb1; clear hr1 hb1 hx0 hx1)
    | (go_at_call 7; refine (num_any 0 _ (by omega)).mono ?_; rintro e u4 ⟨rfl, hu4⟩; subst u4)
    | (go_at_call 10; refine (take_any u1.heap.size g 2 (.slice none 0 0) 0 0 0 [] x _ (by omega) (by omega) (blk_alloc_new _ _) (HR1.out.alloc _) (by have := HR1.out.lt; omega) (World.ownsRow_nil _ _ _ _) (by omega) (by omega) (by simp [Value.ownBlock]) (by simp [Value.ownBlock])).mono ?_; rintro e t1 ⟨rfl, ht⟩; obtain ⟨v1, v2, v3, kv, base, hBo, hown, hbs, hkvB, hkvw, q0, q1, q2, q3, hbt⟩ := first_took HB1.out hg ht; have HQ0 := Hid.mk' q0; have HQ1 := Hid.mk' q1; have HQ2 := Hid.mk' q2; have HQ3 := Hid.mk' q3; have HBO := Hid.mk' hBo; have HOWN := Hid.mk' hown; have HBT := Hid.mk' hbt; have HKV := Hid.mk' hkvB; have HKW := Hid.mk' hkvw; clear q0 q1 q2 q3 hBo hown hbt ht hkvB hkvw)
    | (go_at_call 11; refine (reads_any u1.heap.size kv 1 base 1 _ width n s t1 hsz (by omega) HBO.out HOWN.out (by omega) hbs HKV.out (tab_below HBT.out HT.out hT2) (Nat.lt_of_lt_of_le hT2 HBT.out.size) (tab_below HBT.out HU.out hU3) (Nat.lt_of_lt_of_le hU3 HBT.out.size)).mono ?_; rintro e t2 ⟨rfl, w1, l', N, hN, hbw, ht2, hl'⟩; obtain ⟨bb, cc, hBo2, hk0, hk1⟩ := two_took (by omega) hN HBO.out HQ0.out HQ1.out HQ2.out HQ3.out hbw hl' ht2; have HBO2 := Hid.mk' hBo2; have HK0 := Hid.mk' hk0; have HK1 := Hid.mk' hk1; have HFIN : Hid (Below w.heap.size w t2) := ⟨ht2.os.trans (hbw.os.trans HBT.out.os), ht2.tape.trans (hbw.tape.trans HBT.out.tape), ht2.output.trans (hbw.output.trans HBT.out.output), Nat.le_trans HBT.out.size (Nat.le_trans hbw.size ht2.size), fun k hk => (ht2.block k (Nat.lt_of_lt_of_le hk (Nat.le_trans HBT.out.size hbw.size)) (by have := HB1.out.size; omega) (fun e => by have := hl' k e; have := HBT.out.size; omega) (fun e => by have := HKW.out k e; omega)).trans ((hbw.block k (Nat.lt_of_lt_of_le hk HBT.out.size)).trans (HBT.out.block k hk))⟩; clear hBo2 hk0 hk1 ht2 hbw hl')
    | (go_at_call 12; refine (looks_any u1.heap.size bb cc 2 (-1001) (-1002) t2 HBO2.out HK0.out HK1.out).mono ?_; rintro e t3 ⟨rfl, hb3⟩; have HB3 := Hid.mk' hb3; clear hb3))
  go_ret
  exact ⟨rfl, HFIN.out.trans (HB3.out.mono HFIN.out.size)⟩
end Go.Proofs.YtlncjgnomhpjnaaDoor
