import Derived.Test.YtlncjgnomhpjnabGreatDoorPO42
import Derived.Test.YtlncjgnomhpjnabGreatDoorPO43
/-
  The program decodes: stream.Decode, where it gives no sound.
-/
namespace Go.Proofs.YtlncjgnomhpjnabGreatDoor
open Go.RowKit Go.Deep
set_option linter.unusedVariables false
theorem HdOut.yes {e : Ending} {w w' : World} {T : List UInt8} (h : HdOut e w w' T) (hp : HdP T) {b : Bool} (hb : decide (dWh T = 1) = b) : ∃ a c, e = .returned (.tuple #[.agg #[.int .i64 (dCh T), .int .i64 (dDe T), .int .i64 (dBl T), .int .i64 (dRa T), .int .i64 (dSe T), .int .i64 (dSa T), .bool b, .int .i64 (dLe T), .int .i64 (dMo T), .int .i64 (dSu T), .slice a (dNp T) c], .int .i64 (dSz T), .bool true]) ∧ w'.ownsRow w.heap.size 3 1 (.slice a (dNp T) c) (dPts T).length (pntV (dPts T)) ∧ Below w.heap.size w w' := by
  subst hb
  rcases h with ⟨⟨-, pv, rfl, ho⟩ | ⟨hno, -⟩, hb⟩
  · obtain ⟨a, c, rfl⟩ := own_form ho
    exact ⟨a, c, rfl, by rw [dPts_length]; exact ho, hb⟩
  · exact absurd hp hno
theorem HdOut.nothing {e : Ending} {w w' : World} {T : List UInt8} (h : HdOut e w w' T) (hp : ¬ HdP T) : e = .returned (.tuple #[.agg #[.int .i64 0, .int .i64 0, .int .i64 0, .int .i64 0, .int .i64 0, .int .i64 0, .bool false, .int .i64 0, .int .i64 0, .int .i64 0, .slice none 0 0], .int .i64 0, .bool false]) ∧ Below w.heap.size w w' := by
  rcases h with ⟨⟨hy, -⟩ | ⟨-, he⟩, hb⟩
  · exact absurd hy hp
  · exact ⟨he, hb⟩
theorem soundSum_rows (base n S : Nat) (v : Value) (F : Nat → Nat → Int) (w : World) (hn1 : 1 ≤ n) (hn4 : n ≤ 4) (hS : S ≤ 300) (h : RowsL base w v n S F) :
    Calls Tryz.prog 66 #[v] w fun e w' => e = .returned (.int .i64 (sumN (intT n F (2 * (S * n))) : Nat)) ∧ Below w.heap.size w w' := by
  obtain ⟨g, A, C, rfl, -, hA, hI, hlow⟩ := h.open
  exact soundSum_any _ n n A S C F w hn1 hn4 hS hA hI hlow
theorem infoInf6 : (Tryz.prog.info? 39).map (·.size) = some 6 := by kernel_rfl
theorem res_dec (tmps : Array Value) (R : Nat) (v : Value) (k : Int) (cs : Array Value) (W : World) (h : Bx W R 39 cs) (hs : cs.size = 6) (h2 : tmps.getD 2 undef = .pointer (some ⟨R, 0, none⟩)) (h3 : tmps.getD 3 undef = v) (h4 : tmps.getD 4 undef = .int .i64 k) :
    (results Tryz.f39 tmps).run Tryz.prog W = .ok (.tuple #[.agg cs, v, .int .i64 k]) W := by
  have hl := run_loadVar_row (P := Tryz.prog) W R 39 39 cs (0, 0) _ h Tryz.underlying39 rfl (by rw [hs]; exact infoInf6)
  rw [Array.getD_eq_getD_getElem?] at h2 h3 h4
  simp [results, Tryz.results39, asAddr, h2, h3, h4, hl]
theorem dec_bad {w w' : World} {T : List UInt8} (E : Int) (h0 : E ≠ 0) (hE : decE T = E) (hb : Below w.heap.size w w') : DecAns (.returned (.tuple #[info0, .slice none 0 0, .int .i64 E])) w w' T := ⟨.inr ⟨by rw [hE]; exact h0, by rw [hE]⟩, hb⟩
theorem below_row {w u : World} {g : Nat} (h : Below w.heap.size w u) (hg : w.heap.size ≤ g) (cs : Array Value) : Below w.heap.size w (u.setRow g cs) := below_setRow h hg cs
set_option maxRecDepth 4000 in
set_option maxHeartbeats 2000000 in
theorem streamDecode_head (T : List UInt8) (w : World) (hs : T.length ≤ 9000) (hp : ¬ (HdP T ∧ dWh T = 1)) :
    Calls Tryz.prog 39 #[.string (bs T)] w fun e w' => DecAns e w w' T := by
  have HHR := Hid.mk' (fun u => headRead_any T u hs)
  have HBAD : Hid (∀ w', Below w.heap.size w w' → DecAns (.returned (.tuple #[info0, .slice none 0 0, .int .i64 7])) w w' T) := fun w' hb => dec_bad 7 (by omega) (by unfold decE; rw [if_pos hs, if_neg hp]) hb
  have HZ0 : Hid (Bx (w.alloc (.cells #[.int .i64 0, .int .i64 0, .int .i64 0, .int .i64 0, .int .i64 0, .int .i64 0] 39)) w.heap.size 39 #[.int .i64 0, .int .i64 0, .int .i64 0, .int .i64 0, .int .i64 0, .int .i64 0]) := Bx.new _ _ _
  have HB0 : Hid (Below w.heap.size w (w.alloc (.cells #[.int .i64 0, .int .i64 0, .int .i64 0, .int .i64 0, .int .i64 0, .int .i64 0] 39))) := (Below.refl _ _).alloc (Nat.le_refl _) _
  by_cases hy : HdP T
  · have HY := Hid.mk' hy
    have hw0 : decide (dWh T = 1) = false := decide_eq_false (fun h => hp ⟨hy, h⟩)
    have HW := Hid.mk' hw0
    clear hp hy hw0
    generalize bs T = SB at *
    go_enter Tryz.func39, Tryz.ntmps39
    go_wp2_with (first
      | (go_at_call 69; refine (HHR.out _).mono ?_; intro e u1 ho; obtain ⟨pa, pc, rfl, hown, hb⟩ := ho.yes HY.out HW.out; have HZ1 := Hid.mk' (HZ0.out.below hb); have HB1 := Hid.mk' (HB0.out.trans (hb.mono HB0.out.size)); clear HHR ho hb HZ0 HB0 hown)
      | (refine wpList_storeRow rfl _ _ 39 rfl w.heap.size 39 _ _ rfl rfl (HZ1.out.alloc _) infoInf6 rfl rfl ?_))
    exact bodyPost_ret (res_dec _ w.heap.size _ 7 _ _ ((HZ1.out.alloc _).row _) rfl rfl rfl rfl) rfl (HBAD.out _ (below_row (HB1.out.alloc HB1.out.size _) (Nat.le_refl _) _))
  · have HY := Hid.mk' hy
    clear hp hy
    generalize bs T = SB at *
    go_enter Tryz.func39, Tryz.ntmps39
    go_wp2_with (first
      | (go_at_call 69; refine (HHR.out _).mono ?_; intro e u1 ho; obtain ⟨rfl, hb⟩ := ho.nothing HY.out; have HZ1 := Hid.mk' (HZ0.out.below hb); have HB1 := Hid.mk' (HB0.out.trans (hb.mono HB0.out.size)); clear HHR ho hb HZ0 HB0)
      | (refine wpList_storeRow rfl _ _ 39 rfl w.heap.size 39 _ _ rfl rfl (HZ1.out.alloc _) infoInf6 rfl rfl ?_))
    exact bodyPost_ret (res_dec _ w.heap.size _ 7 _ _ ((HZ1.out.alloc _).row _) rfl rfl rfl rfl) rfl (HBAD.out _ (below_row (HB1.out.alloc HB1.out.size _) (Nat.le_refl _) _))
end Go.Proofs.YtlncjgnomhpjnabGreatDoor

