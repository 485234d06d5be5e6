import Derived.Test.YtlncjgnomhpjnabGreatDoorQU35
import Derived.Test.YtlncjgnomhpjnabGreatDoorQU24
import Derived.Test.YtlncjgnomhpjnabGreatDoorQU37
import Derived.Deep.RegionHeld3
/-
  The program's points: head.points, head.readPoints.
-/
namespace Go.Proofs.YtlncjgnomhpjnabGreatDoor
open Go.RowKit Go.Deep
set_option linter.unusedVariables false
set_option maxHeartbeats 1000000 in
theorem hpoints_any (c0 c1 : Int) (B c3 seek S : Nat) (w : World) (hB : 1 ≤ B) (hB2 : B ≤ 100000) (hS : S ≤ 100000) (hk : seek ≤ 100000) :
    Calls Tryz.prog 134 #[.agg #[.int .i64 c0, .int .i64 c1, .int .i64 B, .int .i64 c3, .int .i64 seek, .int .i64 S]] w fun e w' => e = .returned (.int .i64 (nPts S B seek)) ∧ Below w.heap.size w w' := by
  have HB0 : Hid (Below w.heap.size w (w.alloc (.cells #[.int .i64 c0, .int .i64 c1, .int .i64 B, .int .i64 c3, .int .i64 seek, .int .i64 S] 39))) := (Below.refl _ _).alloc (Nat.le_refl _) _
  by_cases h0 : seek = 0
  · subst h0
    rw [show nPts S B 0 = 0 from rfl]
    go_enter Tryz.func134, Tryz.ntmps134
    go_wp2_with fail
    go_ret
    exact ⟨rfl, HB0.out⟩
  · rw [show nPts S B seek = nBlk (nBlk S B) seek by unfold nPts; rw [if_neg h0]]
    have t0 : ((seek : Int) == 0) = false := by simp; omega
    have hle := nBlk_le (S := S) hB
    have H1 := Hid.mk' (fun u => blocks_any S B u hB hB2 hS)
    have H2 := Hid.mk' (fun u => blocks_any (nBlk S B) seek u (by omega) (by omega) (by omega))
    generalize nBlk (nBlk S B) seek = N2 at *
    generalize nBlk S B = N1 at *
    have hS0 : (w.alloc (.cells #[.int .i64 c0, .int .i64 c1, .int .i64 B, .int .i64 c3, .int .i64 seek, .int .i64 S] 39)).drew.cell? ⟨w.heap.size, 5, none⟩ = some (.int .i64 S) ∧ (w.alloc (.cells #[.int .i64 c0, .int .i64 c1, .int .i64 B, .int .i64 c3, .int .i64 seek, .int .i64 S] 39)).drew.cell? ⟨w.heap.size, 2, none⟩ = some (.int .i64 B) ∧ (w.alloc (.cells #[.int .i64 c0, .int .i64 c1, .int .i64 B, .int .i64 c3, .int .i64 seek, .int .i64 S] 39)).drew.cell? ⟨w.heap.size, 4, none⟩ = some (.int .i64 seek) := ⟨(Bx.new w _ _).cell 5, (Bx.new w _ _).cell 2, (Bx.new w _ _).cell 4⟩
    go_enter Tryz.func134, Tryz.ntmps134
    go_wp2_with fail
    go_region_held3 (fun w' => w'.cell? ⟨w.heap.size, 5, none⟩ = some (.int .i64 S) ∧ w'.cell? ⟨w.heap.size, 2, none⟩ = some (.int .i64 B) ∧ w'.cell? ⟨w.heap.size, 4, none⟩ = some (.int .i64 seek))
      (with_reducible assumption)
      (first
      | (go_at_call 62; refine (H1.out _).mono ?_; rintro e u2 ⟨rfl, hw⟩; subst u2; clear H1)
      | (go_at_call 62; refine (H2.out _).mono ?_; rintro e u2 ⟨rfl, hw⟩; subst u2; clear H2))
    go_wp2
    go_ret
    exact ⟨rfl, HB0.out.drew⟩
set_option maxRecDepth 4000 in
set_option maxHeartbeats 2000000 in
theorem readPoints_any (T : List UInt8) (N : Nat) (w : World) (hT : T.length = 2 * N) (hN : N ≤ 4000) :
    Calls Tryz.prog 137 #[.string (bs T)] w fun e w' => ∃ v, e = .returned v ∧ w'.ownsRow w.heap.size 3 1 v N ((List.range N).map fun k => Value.int .i64 ((fld T (2 * k) (2 * k + 2) : Nat) : Int)) ∧ Below w.heap.size w w' := by
  have hz : (bs T).size = 2 * N := by rw [bs_size, hT]
  have HV : Hid (∀ k, k < N → ∀ u, Calls Tryz.prog 203 #[.string (bs (pieceT T (2 * k) (2 * k + 2)))] u fun e w' => e = .returned (.int .i64 (fld T (2 * k) (2 * k + 2))) ∧ w' = u) := fun k hk u => value_any (pieceT T (2 * k) (2 * k + 2)) u (by rw [pieceT_length _ _ _ (by omega) (by omega)]; omega)
  have HC : Hid (∀ k, (bs T).extract (2 * k) (2 * k + 2) = bs (pieceT T (2 * k) (2 * k + 2))) := fun k => bs_cut T _ _
  have HF : Hid (∀ k, k < N → fld T (2 * k) (2 * k + 2) < 65536) := fun k hk => by
    have := fld_lt T (2 * k) (2 * k + 2) (by omega) (by omega)
    rw [show 2 * k + 2 - 2 * k = 2 by omega] at this
    exact this
  go_enter Tryz.func137, Tryz.ntmps137
  go_wp2
  go_loopw [3, 4] (fun lv iv wr => ∃ k : Nat, ∃ ov : Value, k ≤ N ∧ iv = .int .i64 ((2 * k : Nat) : Int) ∧ ov = lv ∧ Hid (wr.ownsRow w.heap.size 3 1 ov k ((List.range k).map fun k => Value.int .i64 ((fld T (2 * k) (2 * k + 2) : Nat) : Int)) ∧ Below w.heap.size w wr)) (fun _ iv _ => 2 * N - (intOf iv).toNat)
  case atStart => exact ⟨0, .slice none 0 0, Nat.zero_le _, rfl, rfl, World.ownsRow_nil _ _ _ _, Below.refl _ _⟩
  case round =>
    obtain ⟨k, kv, hk, rfl, e, HR⟩ := hrel
    subst e
    by_cases hlt : k < N
    · have c1 : ((2 * k : Nat) : Int) < ((2 * N : Nat) : Int) := by omega
      have w2 : IntKind.i64.wrap (((2 * k : Nat) : Int) + 2) = ((2 * k + 2 : Nat) : Int) := by rw [IntKind.wrap_i64]; omega
      have c2 : ((2 * k : Nat) : Int) ≤ ((2 * k + 2 : Nat) : Int) := by omega
      have c3 : ((2 * k + 2 : Nat) : Int) ≤ ((2 * N : Nat) : Int) := by omega
      have hcut := HC.out k
      have HV1 := Hid.mk' (HV.out k hlt)
      have HRN : Hid ((List.range (k + 1)).map (fun k => Value.int .i64 ((fld T (2 * k) (2 * k + 2) : Nat) : Int)) = (List.range k).map (fun k => Value.int .i64 ((fld T (2 * k) (2 * k + 2) : Nat) : Int)) ++ [Value.int .i64 ((fld T (2 * k) (2 * k + 2) : Nat) : Int)]) := by show _ = _; rw [List.range_succ, List.map_append]; rfl
      generalize hfv : fld T (2 * k) (2 * k + 2) = fv at *
      clear hfv
      generalize bs (pieceT T (2 * k) (2 * k + 2)) = PS at *
      have HK2 : Hid (((2 * k + 2 : Nat) : Int) = ((2 * (k + 1) : Nat) : Int)) := by show _ = _; omega
      have hBW := HR.out.2.size
      obtain ⟨g', c', u4, hr, ho, hgr⟩ := app_row 30 3 (.int .i64 0) 8 Tryz.underlying30 infoInt rfl wr _ kv _ _ #[.int .i64 (fv : Int)] HR.out.1 (by simp) (by intro u hu; simp at hu; rw [hu]; rfl) (by simp only [maxLen]; simp; omega) (by simp; omega) hBW 30
      have HE4 : Hid (u4.ownsRow w.heap.size 3 1 (.slice (some ⟨g', 0, none⟩) (k + 1) c') (k + 1) ((List.range (k + 1)).map fun k => Value.int .i64 ((fld T (2 * k) (2 * k + 2) : Nat) : Int)) ∧ Below w.heap.size w u4) := ⟨by rw [HRN.out]; exact ho, HR.out.2.grown hgr HR.out.2.size (fun j hj => (HR.out.1.lt j hj).1)⟩
      have HAP : Hid (_ = _) := hr
      clear hr ho hgr
      go_wp2_with (first
        | (go_at_call 203; refine (HV1.out _).mono ?_; rintro e u2 ⟨rfl, hw⟩; subst u2; clear HV1)
        | (at_builtin; refine wpList_append_rn rfl _ _ _ rfl _ _ _ rfl rfl HAP.out ?_; clear HAP))
      go_roundw
      case rel => exact ⟨k + 1, _, by omega, by go_num, rfl, HE4.out⟩
      case measure => simp [intOf]; omega
    · have e : k = N := by omega
      subst e
      obtain ⟨a, c, hkv⟩ : ∃ a c, kv = .slice a k c := own_form HR.out.1
      subst hkv
      go_wp2
      go_ret
      exact ⟨_, rfl, HR.out.1, HR.out.2⟩
end Go.Proofs.YtlncjgnomhpjnabGreatDoor

