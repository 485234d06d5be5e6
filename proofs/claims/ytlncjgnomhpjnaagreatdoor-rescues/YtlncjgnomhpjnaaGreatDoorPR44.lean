import Derived.Test.YtlncjgnomhpjnaaGreatDoorPR32
import Derived.Test.YtlncjgnomhpjnaaGreatDoorPR24
/-
  The document's heads: reelref.blocks, points, config.
-/
namespace Go.Proofs.YtlncjgnomhpjnaaGreatDoor
open Go.RowKit Go.Deep
set_option linter.unusedVariables false
theorem nBlk_zero (s : Nat) (hs : 1 ≤ s) : nBlk 0 s = 0 := by
  unfold nBlk
  exact Nat.div_eq_of_lt (by omega)
theorem nBlk_yes {k s : Nat} (hs : 1 ≤ s) (h : k % s = 0) : nBlk (k + 1) s = nBlk k s + 1 := by
  unfold nBlk
  have e := Nat.div_add_mod k s
  rw [h, Nat.add_zero] at e
  rw [show k + 1 + s - 1 = k + s by omega, Nat.add_div_right _ (by omega), show k + s - 1 = s * (k / s) + (s - 1) by omega, Nat.mul_add_div (by omega), Nat.div_eq_of_lt (show s - 1 < s by omega)]
theorem nBlk_no {k s : Nat} (hs : 1 ≤ s) (h : ¬ k % s = 0) : nBlk (k + 1) s = nBlk k s := by
  unfold nBlk
  have e := Nat.div_add_mod k s
  have hm := Nat.mod_lt k (show s > 0 by omega)
  rw [show k + 1 + s - 1 = k + s by omega, Nat.add_div_right _ (by omega), show k + s - 1 = s * (k / s) + (k % s - 1 + s) by omega, Nat.mul_add_div (by omega), Nat.add_div_right _ (by omega), Nat.div_eq_of_lt (show k % s - 1 < s by omega)]
/-- how many of the first blocks have a point -/
def pntC (seek k : Nat) : Nat := if seek = 0 then 0 else nBlk k seek
theorem pntC_zero (seek : Nat) : pntC seek 0 = 0 := by
  unfold pntC
  split
  · rfl
  · exact nBlk_zero _ (by omega)
theorem pntC_yes {seek k : Nat} (h0 : ¬ seek = 0) (h : k % seek = 0) : pntC seek (k + 1) = pntC seek k + 1 := by
  unfold pntC
  rw [if_neg h0, if_neg h0, nBlk_yes (by omega) h]
theorem pntC_no {seek k : Nat} (h : ¬ k % seek = 0) : pntC seek (k + 1) = pntC seek k := by
  unfold pntC
  split
  · rfl
  · exact nBlk_no (by omega) h
theorem pntC_none {k : Nat} : pntC 0 k = 0 := if_pos rfl
theorem pntC_le (seek k : Nat) : pntC seek k ≤ k := by
  unfold pntC
  split
  · omega
  · exact nBlk_le (by omega)
set_option maxHeartbeats 400000 in
theorem rblocks_any (c0 c1 c3 c4 : Int) (B S : Nat) (w : World) (hB : 1 ≤ B) (hB2 : B ≤ 100000) (hS : S ≤ 100000) :
    Calls Tryz.prog 96 #[.agg #[.int .i64 c0, .int .i64 c1, .int .i64 B, .int .i64 c3, .int .i64 c4, .int .i64 S]] w fun e w' => e = .returned (.int .i64 (nBlk S B)) ∧ Below w.heap.size w w' := by
  obtain ⟨x, hx⟩ : ∃ x, x = S + B := ⟨_, rfl⟩
  have e1 : IntKind.i64.wrap ((S : Int) + (B : Int)) = (x : Int) := by rw [IntKind.wrap_i64]; omega
  obtain ⟨y, hy⟩ : ∃ y, y = S + B - 1 := ⟨_, rfl⟩
  have e2 : IntKind.i64.wrap ((x : Int) - 1) = (y : Int) := by rw [IntKind.wrap_i64]; omega
  have hq : y / B ≤ 200000 := Nat.le_trans (Nat.div_le_self _ _) (by omega)
  have e3 : ((y : Int)).tdiv (B : Int) = ((y / B : Nat) : Int) := by rw [Int.tdiv_eq_ediv_of_nonneg (by omega)]; rfl
  have e0 : ¬ (B : Int) = 0 := by omega
  have HQ : Hid (y / B = nBlk S B) := by show _ = _; unfold nBlk; rw [hy]
  generalize y / B = q at *
  have e4 : IntKind.i64.wrap (q : Int) = (q : Int) := by rw [IntKind.wrap_i64]; omega
  clear hx hy
  go_enter Tryz.func96, Tryz.ntmps96
  go_wp2
  go_ret
  exact ⟨by rw [← HQ.out]; rfl, (Below.refl _ _).alloc (Nat.le_refl _) _⟩
theorem infoCfg8 : (Tryz.prog.info? 23).map (·.size) = some 8 := by kernel_rfl
theorem res_rcfg (tmps : Array Value) (R : Nat) (cs : Array Value) (W : World) (h : Bx W R 23 cs) (hs : cs.size = 8) (h2 : tmps.getD 2 undef = .pointer (some ⟨R, 0, none⟩)) :
    (results Tryz.f138 tmps).run Tryz.prog W = .ok (.agg cs) W := by
  have hl := run_loadVar_row (P := Tryz.prog) W R 23 23 cs (0, 0) _ h Tryz.underlying23 rfl (by rw [hs]; exact infoCfg8)
  rw [Array.getD_eq_getD_getElem?] at h2
  simp [results, Tryz.results138, asAddr, h2, hl]
theorem rconfig_any (c0 c1 c2 c3 c4 s : Int) (w : World) :
    Calls Tryz.prog 138 #[.agg #[.int .i64 c0, .int .i64 c1, .int .i64 c2, .int .i64 c3, .int .i64 c4, .int .i64 s]] w fun e w' => e = .returned (.agg #[.int .i64 c0, .int .i64 c1, .int .i64 c2, .int .i64 c3, .int .i64 c4, .int .i64 1, .int .i64 1, .int .i64 1]) ∧ Below w.heap.size w w' := by
  have HZ : Hid (Bx ((w.alloc (.cells #[.int .i64 c0, .int .i64 c1, .int .i64 c2, .int .i64 c3, .int .i64 c4, .int .i64 s] 46)).alloc (.cells #[.int .i64 0, .int .i64 0, .int .i64 0, .int .i64 0, .int .i64 0, .int .i64 0, .int .i64 0, .int .i64 0] 23)) (w.heap.size + 1) 23 #[.int .i64 0, .int .i64 0, .int .i64 0, .int .i64 0, .int .i64 0, .int .i64 0, .int .i64 0, .int .i64 0]) := Bx.new2 (by simp) _ _
  have HB : Hid (Below w.heap.size w ((w.alloc (.cells #[.int .i64 c0, .int .i64 c1, .int .i64 c2, .int .i64 c3, .int .i64 c4, .int .i64 s] 46)).alloc (.cells #[.int .i64 0, .int .i64 0, .int .i64 0, .int .i64 0, .int .i64 0, .int .i64 0, .int .i64 0, .int .i64 0] 23))) := ((Below.refl _ _).alloc (Nat.le_refl _) _).alloc (by simp) _
  go_enter Tryz.func138, Tryz.ntmps138
  go_wp2_with (refine wpList_storeRow rfl _ _ 23 rfl (w.heap.size + 1) 23 _ _ rfl rfl HZ.out infoCfg8 rfl rfl ?_)
  exact bodyPost_ret (res_rcfg _ (w.heap.size + 1) _ _ (HZ.out.row _) rfl rfl) rfl ⟨rfl, below_setRow HB.out (Nat.le_succ _) _⟩
set_option maxRecDepth 4000 in
set_option maxHeartbeats 1000000 in
theorem rpoints_any (c0 c1 c3 : Int) (B S seek : Nat) (w : World) (hB : 1 ≤ B) (hB2 : B ≤ 100000) (hS : S ≤ 300) (hk : seek ≤ 100000) :
    Calls Tryz.prog 139 #[.agg #[.int .i64 c0, .int .i64 c1, .int .i64 B, .int .i64 c3, .int .i64 seek, .int .i64 S]] w fun e w' => e = .returned (.int .i64 (nPts S B seek)) ∧ Below w.heap.size w w' := by
  have HBL := Hid.mk' (fun u => rblocks_any c0 c1 c3 seek B S u hB hB2 (by omega))
  have HNB := Hid.mk' (nBlk_le (S := S) (B := B) hB)
  go_enter Tryz.func139, Tryz.ntmps139
  go_wp2
  go_loopw [3, 4] (fun nv kv wr => ∃ k : Nat, k ≤ nBlk S B ∧ kv = .int .i64 k ∧ nv = .int .i64 (pntC seek k) ∧ Hid (Below w.heap.size w wr ∧ Bx wr w.heap.size 46 #[.int .i64 c0, .int .i64 c1, .int .i64 B, .int .i64 c3, .int .i64 seek, .int .i64 S])) (fun _ kv _ => nBlk S B - (intOf kv).toNat)
  case atStart => exact ⟨0, Nat.zero_le _, rfl, by rw [pntC_zero]; rfl, (Below.refl _ _).alloc (Nat.le_refl _) _, Bx.new _ _ _⟩
  case round =>
    obtain ⟨k, hk, rfl, rfl, HR⟩ := hrel
    have x0 := HR.out.2.cell 0
    have x1 := HR.out.2.cell 1
    have x2 := HR.out.2.cell 2
    have x3 := HR.out.2.cell 3
    have x4 := HR.out.2.cell 4
    have x5 := HR.out.2.cell 5
    have hnb := HNB.out
    by_cases hlt : k < nBlk S B
    · have hpc := pntC_le seek k
      by_cases hs : seek = 0
      · have HP : Hid (pntC seek (k + 1) = pntC seek k) := by show _ = _; rw [hs, pntC_none, pntC_none]
        have d0 : decide ((0 : Int) < (seek : Int)) = false := decide_eq_false (by omega)
        have d1 : ¬ (0 : Int) < (seek : Int) := by omega
        clear hs
        generalize pntC seek k = pc at *
        go_wp2_with (first
          | (go_at_call 96; refine (HBL.out _).mono ?_; rintro e u1 ⟨rfl, hb⟩; have HR1 := Hid.mk' (And.intro (HR.out.1.trans (hb.mono HR.out.1.size)) (HR.out.2.below hb)); have y4 := HR1.out.2.cell 4; clear hb))
        go_roundw
        case rel => exact ⟨k + 1, by omega, by go_num, by rw [HP.out], HR1.out.1, HR1.out.2⟩
        case measure => simp [intOf]; omega
      · have s2 : (0 : Int) < (seek : Int) := by omega
        have s3 : ¬ (seek : Int) = 0 := by omega
        by_cases hm : k % seek = 0
        · have HP := Hid.mk' (pntC_yes hs hm)
          have s5 : ((k : Int)).tmod (seek : Int) = 0 := by rw [Int.tmod_eq_emod_of_nonneg (by omega)]; omega
          have s6 : (k : Int) % (seek : Int) = 0 := by omega
          clear hs hm
          generalize pntC seek k = pc at *
          go_wp2_with (first
          | (go_at_call 96; refine (HBL.out _).mono ?_; rintro e u1 ⟨rfl, hb⟩; have HR1 := Hid.mk' (And.intro (HR.out.1.trans (hb.mono HR.out.1.size)) (HR.out.2.below hb)); have y4 := HR1.out.2.cell 4; clear hb))
          go_roundw
          case rel => exact ⟨k + 1, by omega, by go_num, by rw [HP.out]; go_num, HR1.out.1, HR1.out.2⟩
          case measure => simp [intOf]; omega
        · have HP := Hid.mk' (pntC_no (seek := seek) hm)
          have e6 : (k : Int) % (seek : Int) = ((k % seek : Nat) : Int) := rfl
          have s5 : ((k : Int).tmod (seek : Int) == 0) = false := by rw [Int.tmod_eq_emod_of_nonneg (by omega), e6]; simp; omega
          have s6 : ((k : Int) % (seek : Int) == 0) = false := by rw [e6]; simp; omega
          have s7 : ¬ (k : Int).tmod (seek : Int) = 0 := by rw [Int.tmod_eq_emod_of_nonneg (by omega), e6]; omega
          clear hs hm e6
          generalize pntC seek k = pc at *
          go_wp2_with (first
          | (go_at_call 96; refine (HBL.out _).mono ?_; rintro e u1 ⟨rfl, hb⟩; have HR1 := Hid.mk' (And.intro (HR.out.1.trans (hb.mono HR.out.1.size)) (HR.out.2.below hb)); have y4 := HR1.out.2.cell 4; clear hb))
          go_roundw
          case rel => exact ⟨k + 1, by omega, by go_num, by rw [HP.out], HR1.out.1, HR1.out.2⟩
          case measure => simp [intOf]; omega
    · have e : k = nBlk S B := by omega
      subst e
      have HNP : Hid (pntC seek (nBlk S B) = nPts S B seek) := rfl
      generalize pntC seek (nBlk S B) = np at *
      go_wp2_with (first
        | (go_at_call 96; refine (HBL.out _).mono ?_; rintro e u1 ⟨rfl, hb⟩; have HR1 := Hid.mk' (And.intro (HR.out.1.trans (hb.mono HR.out.1.size)) (HR.out.2.below hb)); clear hb))
      go_ret
      exact ⟨by rw [← HNP.out]; rfl, HR1.out.1⟩
end Go.Proofs.YtlncjgnomhpjnaaGreatDoor

