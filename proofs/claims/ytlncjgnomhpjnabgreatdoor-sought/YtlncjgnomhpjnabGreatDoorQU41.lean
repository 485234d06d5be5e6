import Derived.Test.YtlncjgnomhpjnabGreatDoorQU40
import Derived.Test.YtlncjgnomhpjnabGreatDoorQU36
/-
  The program: head.Unfinished.
-/
namespace Go.Proofs.YtlncjgnomhpjnabGreatDoor
open Go.RowKit Go.Deep
set_option linter.unusedVariables false
theorem Bx.fz {u : World} {q : Nat} {t : TypeId} {cs : Array Value} (h : Bx u q t cs) (i : Nat) : u.frozen? ⟨q, i, none⟩ = false := by
  simp [World.frozen?, show u.heap[q]? = _ from h]
theorem un_cells {u : World} {p q : Nat} {c0 c1 : Int} {B c3 seek S : Nat} (hI : Bx u p 39 #[.int .i64 c0, .int .i64 c1, .int .i64 B, .int .i64 c3, .int .i64 seek, .int .i64 S]) (hZ : Bx u q 110 #[.int .i64 0, .int .i64 0, .int .i64 0, .int .i64 0, .int .i64 0, .int .i64 0, .bool false, .int .i64 0, .int .i64 0, .int .i64 0, .slice none 0 0]) : u.cell? ⟨p, 0, none⟩ = some (.int .i64 c0) ∧ u.cell? ⟨p, 1, none⟩ = some (.int .i64 c1) ∧ u.cell? ⟨p, 2, none⟩ = some (.int .i64 (B : Int)) ∧ u.cell? ⟨p, 3, none⟩ = some (.int .i64 (c3 : Int)) ∧ u.cell? ⟨p, 4, none⟩ = some (.int .i64 (seek : Int)) ∧ u.cell? ⟨p, 5, none⟩ = some (.int .i64 (S : Int)) ∧ u.cell? ⟨q, 0, none⟩ = some (.int .i64 0) ∧ u.cell? ⟨q, 1, none⟩ = some (.int .i64 0) ∧ u.cell? ⟨q, 2, none⟩ = some (.int .i64 0) ∧ u.cell? ⟨q, 3, none⟩ = some (.int .i64 0) ∧ u.cell? ⟨q, 4, none⟩ = some (.int .i64 0) ∧ u.cell? ⟨q, 5, none⟩ = some (.int .i64 0) ∧ u.cell? ⟨q, 6, none⟩ = some (.bool false) ∧ u.cell? ⟨q, 7, none⟩ = some (.int .i64 0) ∧ u.cell? ⟨q, 8, none⟩ = some (.int .i64 0) ∧ u.cell? ⟨q, 9, none⟩ = some (.int .i64 0) ∧ u.cell? ⟨q, 10, none⟩ = some (.slice none 0 0) ∧ u.frozen? ⟨q, 0, none⟩ = false ∧ u.frozen? ⟨q, 1, none⟩ = false ∧ u.frozen? ⟨q, 2, none⟩ = false ∧ u.frozen? ⟨q, 3, none⟩ = false ∧ u.frozen? ⟨q, 4, none⟩ = false ∧ u.frozen? ⟨q, 5, none⟩ = false ∧ u.frozen? ⟨q, 6, none⟩ = false ∧ u.frozen? ⟨q, 7, none⟩ = false ∧ u.frozen? ⟨q, 8, none⟩ = false ∧ u.frozen? ⟨q, 9, none⟩ = false ∧ u.frozen? ⟨q, 10, none⟩ = false :=
  ⟨hI.cell 0, hI.cell 1, hI.cell 2, hI.cell 3, hI.cell 4, hI.cell 5, hZ.cell 0, hZ.cell 1, hZ.cell 2, hZ.cell 3, hZ.cell 4, hZ.cell 5, hZ.cell 6, hZ.cell 7, hZ.cell 8, hZ.cell 9, hZ.cell 10, hZ.fz 0, hZ.fz 1, hZ.fz 2, hZ.fz 3, hZ.fz 4, hZ.fz 5, hZ.fz 6, hZ.fz 7, hZ.fz 8, hZ.fz 9, hZ.fz 10⟩
theorem Bx.set11 {u : World} {q : Nat} {t : TypeId} {o0 o1 o2 o3 o4 o5 o6 o7 o8 o9 o10 : Value} (h : Bx u q t #[o0, o1, o2, o3, o4, o5, o6, o7, o8, o9, o10]) (s0 s1 s2 s3 s4 s5 s6 s7 s8 s9 s10 : Value) : Bx ((((((((((((u.setCell ⟨q, 0, none⟩ s0).setCell ⟨q, 1, none⟩ s1).setCell ⟨q, 2, none⟩ s2).setCell ⟨q, 3, none⟩ s3).setCell ⟨q, 4, none⟩ s4).setCell ⟨q, 5, none⟩ s5).setCell ⟨q, 6, none⟩ s6).setCell ⟨q, 7, none⟩ s7).setCell ⟨q, 8, none⟩ s8).setCell ⟨q, 9, none⟩ s9).setCell ⟨q, 10, none⟩ s10)) q t #[s0, s1, s2, s3, s4, s5, s6, s7, s8, s9, s10] := by
  simp [Bx, World.setCell, Array.getElem?_modify, show u.heap[q]? = _ from h]
theorem set11_below {B q : Nat} {w u : World} {s0 s1 s2 s3 s4 s5 s6 s7 s8 s9 s10 : Value} (h : Below B w u) (hq : B ≤ q) : Below B w ((((((((((((u.setCell ⟨q, 0, none⟩ s0).setCell ⟨q, 1, none⟩ s1).setCell ⟨q, 2, none⟩ s2).setCell ⟨q, 3, none⟩ s3).setCell ⟨q, 4, none⟩ s4).setCell ⟨q, 5, none⟩ s5).setCell ⟨q, 6, none⟩ s6).setCell ⟨q, 7, none⟩ s7).setCell ⟨q, 8, none⟩ s8).setCell ⟨q, 9, none⟩ s9).setCell ⟨q, 10, none⟩ s10)) :=
  ((((((((((h.setCell (p := ⟨q, 0, none⟩) hq _).setCell (p := ⟨q, 1, none⟩) hq _).setCell (p := ⟨q, 2, none⟩) hq _).setCell (p := ⟨q, 3, none⟩) hq _).setCell (p := ⟨q, 4, none⟩) hq _).setCell (p := ⟨q, 5, none⟩) hq _).setCell (p := ⟨q, 6, none⟩) hq _).setCell (p := ⟨q, 7, none⟩) hq _).setCell (p := ⟨q, 8, none⟩) hq _).setCell (p := ⟨q, 9, none⟩) hq _).setCell (p := ⟨q, 10, none⟩) hq _
theorem set11_gr {q : Nat} (u : World) (s0 s1 s2 s3 s4 s5 s6 s7 s8 s9 s10 : Value) : u.grownBy ((((((((((((u.setCell ⟨q, 0, none⟩ s0).setCell ⟨q, 1, none⟩ s1).setCell ⟨q, 2, none⟩ s2).setCell ⟨q, 3, none⟩ s3).setCell ⟨q, 4, none⟩ s4).setCell ⟨q, 5, none⟩ s5).setCell ⟨q, 6, none⟩ s6).setCell ⟨q, 7, none⟩ s7).setCell ⟨q, 8, none⟩ s8).setCell ⟨q, 9, none⟩ s9).setCell ⟨q, 10, none⟩ s10)) (some q) :=
  gr_trans (gr_trans (gr_trans (gr_trans (gr_trans (gr_trans (gr_trans (gr_trans (gr_trans (gr_trans (gr_set _ ⟨q, 0, none⟩ _) (gr_set _ ⟨q, 1, none⟩ _)) (gr_set _ ⟨q, 2, none⟩ _)) (gr_set _ ⟨q, 3, none⟩ _)) (gr_set _ ⟨q, 4, none⟩ _)) (gr_set _ ⟨q, 5, none⟩ _)) (gr_set _ ⟨q, 6, none⟩ _)) (gr_set _ ⟨q, 7, none⟩ _)) (gr_set _ ⟨q, 8, none⟩ _)) (gr_set _ ⟨q, 9, none⟩ _)) (gr_set _ ⟨q, 10, none⟩ _)
theorem res_un (tmps : Array Value) (R : Nat) (cs : Array Value) (W : World) (h : Bx W R 110 cs) (hs : cs.size = 11) (h2 : tmps.getD 2 undef = .pointer (some ⟨R, 0, none⟩)) :
    (results Tryz.f136 tmps).run Tryz.prog W = .ok (.agg cs) W := by
  have hl := run_loadVar_row (P := Tryz.prog) W R 110 110 cs (0, 0) _ h Tryz.underlying110 rfl (by rw [hs]; exact infoHd11)
  rw [Array.getD_eq_getD_getElem?] at h2
  simp [results, Tryz.results136, asAddr, h2, hl]
set_option maxRecDepth 4000 in
set_option maxHeartbeats 2000000 in
theorem unfinished_any (c0 c1 : Int) (B c3 seek S : Nat) (w : World) (hB : 1 ≤ B) (hB2 : B ≤ 100000) (hS : S ≤ 300) (hk : seek ≤ 100000) :
    Calls Tryz.prog 136 #[.agg #[.int .i64 c0, .int .i64 c1, .int .i64 B, .int .i64 c3, .int .i64 seek, .int .i64 S]] w fun e w' => ∃ g, e = .returned (.agg (hdC c0 c1 B c3 seek S false 0 0 0 (.slice (some ⟨g, 0, none⟩) (nPts S B seek) (nPts S B seek)))) ∧ w'.rowIs g 3 (nPts S B seek) (fun _ => .int .i64 0) ∧ Below w.heap.size w w' := by
  have HB0 : Hid (Below w.heap.size w (w.alloc (.cells #[.int .i64 c0, .int .i64 c1, .int .i64 B, .int .i64 c3, .int .i64 seek, .int .i64 S] 39))) := (Below.refl _ _).alloc (Nat.le_refl _) _
  have HPT := Hid.mk' (fun u => hpoints_any c0 c1 B c3 seek S u hB hB2 (by omega) hk)
  have hN : nPts S B seek ≤ 300 := by
    unfold nPts
    split
    · omega
    · have h1 := nBlk_le (S := S) hB
      have h2 := nBlk_le (S := nBlk S B) (B := seek) (by omega)
      omega
  generalize nPts S B seek = N at *
  have hmk := run_make_row' (P := Tryz.prog) 30 3 (.int .i64 0) 8 Tryz.underlying30 infoInt rfl .i64 .i64 N (by omega) (by omega)
  go_enter Tryz.func136, Tryz.ntmps136
  have hI0 : Bx ((w.alloc (.cells #[.int .i64 c0, .int .i64 c1, .int .i64 B, .int .i64 c3, .int .i64 seek, .int .i64 S] 39)).alloc (.cells #[.int .i64 0, .int .i64 0, .int .i64 0, .int .i64 0, .int .i64 0, .int .i64 0, .bool false, .int .i64 0, .int .i64 0, .int .i64 0, .slice none 0 0] 110)) w.heap.size 39 #[.int .i64 c0, .int .i64 c1, .int .i64 B, .int .i64 c3, .int .i64 seek, .int .i64 S] := (Bx.new w _ _).alloc _
  have hZ0 : Bx ((w.alloc (.cells #[.int .i64 c0, .int .i64 c1, .int .i64 B, .int .i64 c3, .int .i64 seek, .int .i64 S] 39)).alloc (.cells #[.int .i64 0, .int .i64 0, .int .i64 0, .int .i64 0, .int .i64 0, .int .i64 0, .bool false, .int .i64 0, .int .i64 0, .int .i64 0, .slice none 0 0] 110)) (w.heap.size + 1) 110 #[.int .i64 0, .int .i64 0, .int .i64 0, .int .i64 0, .int .i64 0, .int .i64 0, .bool false, .int .i64 0, .int .i64 0, .int .i64 0, .slice none 0 0] := Bx.new2 (by simp) _ _
  have HI0 := Hid.mk' hI0
  have HZ0 := Hid.mk' hZ0
  have HB9 : Hid (Below w.heap.size w ((w.alloc (.cells #[.int .i64 c0, .int .i64 c1, .int .i64 B, .int .i64 c3, .int .i64 seek, .int .i64 S] 39)).alloc (.cells #[.int .i64 0, .int .i64 0, .int .i64 0, .int .i64 0, .int .i64 0, .int .i64 0, .bool false, .int .i64 0, .int .i64 0, .int .i64 0, .slice none 0 0] 110))) := HB0.out.alloc HB0.out.size _
  have hS0 := un_cells (u := ((w.alloc (.cells #[.int .i64 c0, .int .i64 c1, .int .i64 B, .int .i64 c3, .int .i64 seek, .int .i64 S] 39)).alloc (.cells #[.int .i64 0, .int .i64 0, .int .i64 0, .int .i64 0, .int .i64 0, .int .i64 0, .bool false, .int .i64 0, .int .i64 0, .int .i64 0, .slice none 0 0] 110)).drew) hI0 hZ0
  clear hI0 hZ0
  obtain ⟨x0, x1, x2, x3, x4, x5, x6, x7, x8, x9, x10, x11, x12, x13, x14, x15, x16, x17, x18, x19, x20, x21, x22, x23, x24, x25, x26, x27⟩ := hS0
  go_wp2_with fail
  go_region_with (first | (go_at_call 134; refine (HPT.out _).mono ?_; rintro e u1 ⟨rfl, hb⟩; have hI1 : Bx u1 w.heap.size 39 #[.int .i64 c0, .int .i64 c1, .int .i64 B, .int .i64 c3, .int .i64 seek, .int .i64 S] := Bx.below (w := ((w.alloc (.cells #[.int .i64 c0, .int .i64 c1, .int .i64 B, .int .i64 c3, .int .i64 seek, .int .i64 S] 39)).alloc (.cells #[.int .i64 0, .int .i64 0, .int .i64 0, .int .i64 0, .int .i64 0, .int .i64 0, .bool false, .int .i64 0, .int .i64 0, .int .i64 0, .slice none 0 0] 110)).drew) HI0.out hb; have hZ1 : Bx u1 (w.heap.size + 1) 110 #[.int .i64 0, .int .i64 0, .int .i64 0, .int .i64 0, .int .i64 0, .int .i64 0, .bool false, .int .i64 0, .int .i64 0, .int .i64 0, .slice none 0 0] := Bx.below (w := ((w.alloc (.cells #[.int .i64 c0, .int .i64 c1, .int .i64 B, .int .i64 c3, .int .i64 seek, .int .i64 S] 39)).alloc (.cells #[.int .i64 0, .int .i64 0, .int .i64 0, .int .i64 0, .int .i64 0, .int .i64 0, .bool false, .int .i64 0, .int .i64 0, .int .i64 0, .slice none 0 0] 110)).drew) HZ0.out hb; have hS1 := un_cells hI1 hZ1; have hS2 := un_cells (hI1.alloc (.cells (madeCells #[.int .i64 0] N) 3)) (hZ1.alloc (.cells (madeCells #[.int .i64 0] N) 3)); obtain ⟨y0, y1, y2, y3, y4, y5, y6, y7, y8, y9, y10, y11, y12, y13, y14, y15, y16, y17, y18, y19, y20, y21, y22, y23, y24, y25, y26, y27⟩ := hS1; obtain ⟨z0, z1, z2, z3, z4, z5, z6, z7, z8, z9, z10, z11, z12, z13, z14, z15, z16, z17, z18, z19, z20, z21, z22, z23, z24, z25, z26, z27⟩ := hS2; have HZ1 := Hid.mk' hZ1; have HB1 : Hid (Below w.heap.size w u1) := HB9.out.drew.trans (hb.mono HB9.out.size); clear HPT hb hI1 hZ1 HI0 HZ0))
  all_goals
    (have hne : u1.heap.size ≠ w.heap.size + 1 := by have := HZ1.out.lt; omega
     have hrow := (World.rowIs_made u1 (.int .i64 0) N 3)
     go_wp2
     refine bodyPost_ret (res_un _ (w.heap.size + 1) _ _ ((HZ1.out.alloc _).set11 _ _ _ _ _ _ _ _ _ _ _) rfl rfl) rfl ⟨u1.heap.size, rfl, ?_, set11_below (HB1.out.alloc HB1.out.size _) (Nat.le_succ _)⟩
     exact (hrow.congr fun i _ => rfl).of_block ((set11_gr _ _ _ _ _ _ _ _ _ _ _ _).block _ (by simp) (fun e => hne (by injection e))))
end Go.Proofs.YtlncjgnomhpjnabGreatDoor

/-
  The program reads a head: head.Read.
-/
namespace Go.Proofs.YtlncjgnomhpjnabGreatDoor
open Go.RowKit Go.Deep
set_option linter.unusedVariables false
def hd0 : Value := .agg (hdC 0 0 0 0 0 0 false 0 0 0 (.slice none 0 0))
/-- what reading a head gives -/
def HdOut (e : Ending) (w w' : World) (T : List UInt8) : Prop :=
  ((HdP T ∧ ∃ pv, e = .returned (.tuple #[.agg (hdC (dCh T) (dDe T) (dBl T) (dRa T) (dSe T) (dSa T) (decide (dWh T = 1)) (dLe T) (dMo T) (dSu T) pv), .int .i64 (dSz T), .bool true]) ∧ w'.ownsRow w.heap.size 3 1 pv (dNp T) (pntV (dPts T)))
   ∨ (¬ HdP T ∧ e = .returned (.tuple #[hd0, .int .i64 0, .bool false]))) ∧ Below w.heap.size w w'
theorem res_hr (tmps : Array Value) (R : Nat) (k : Int) (b : Bool) (cs : Array Value) (W : World) (h : Bx W R 110 cs) (hs : cs.size = 11) (h2 : tmps.getD 2 undef = .pointer (some ⟨R, 0, none⟩)) (h3 : tmps.getD 3 undef = .int .i64 k) (h4 : tmps.getD 4 undef = .bool b) :
    (results Tryz.f69 tmps).run Tryz.prog W = .ok (.tuple #[.agg cs, .int .i64 k, .bool b]) W := by
  have hl := run_loadVar_row (P := Tryz.prog) W R 110 110 cs (0, 0) _ h Tryz.underlying110 rfl (by rw [hs]; exact infoHd11)
  rw [Array.getD_eq_getD_getElem?] at h2 h3 h4
  simp [results, Tryz.results69, asAddr, h2, h3, h4, hl]
set_option maxRecDepth 4000 in
set_option maxHeartbeats 2000000 in
theorem headRead_short (T : List UInt8) (w : World) (hs : T.length < 20) : Calls Tryz.prog 69 #[.string (bs T)] w fun e w' => HdOut e w w' T := by
  have hz : (bs T).size = T.length := bs_size T
  have HB0 : Hid (Below w.heap.size w (w.alloc (.cells #[.int .i64 0, .int .i64 0, .int .i64 0, .int .i64 0, .int .i64 0, .int .i64 0, .bool false, .int .i64 0, .int .i64 0, .int .i64 0, .slice none 0 0] 110))) := (Below.refl _ _).alloc (Nat.le_refl _) _
  have HZ0 : Hid (Bx (w.alloc (.cells #[.int .i64 0, .int .i64 0, .int .i64 0, .int .i64 0, .int .i64 0, .int .i64 0, .bool false, .int .i64 0, .int .i64 0, .int .i64 0, .slice none 0 0] 110)) w.heap.size 110 #[.int .i64 0, .int .i64 0, .int .i64 0, .int .i64 0, .int .i64 0, .int .i64 0, .bool false, .int .i64 0, .int .i64 0, .int .i64 0, .slice none 0 0]) := Bx.new w _ _
  have HNO : Hid (¬ HdP T) := fun h => by have := h.1; omega
  have c1 : (T.length : Int) < 20 := by omega
  have c1d : decide ((T.length : Int) < 20) = true := decide_eq_true c1
  generalize bs T = SB at *
  generalize T.length = nT at *
  go_enter Tryz.func69, Tryz.ntmps69
  go_wp2_with fail
  exact bodyPost_ret (res_hr _ w.heap.size 0 false _ _ (HZ0.out) rfl rfl rfl rfl) rfl ⟨.inr ⟨HNO.out, rfl⟩, HB0.out⟩
set_option maxRecDepth 4000 in
set_option maxHeartbeats 2000000 in
theorem headRead_eight (T : List UInt8) (w : World) (hs : 20 ≤ T.length) (hs2 : T.length ≤ 9000) (h8 : ¬ seal8 (T.take 19) = T.take 20) : Calls Tryz.prog 69 #[.string (bs T)] w fun e w' => HdOut e w w' T := by
  have hz : (bs T).size = T.length := bs_size T
  have HB0 : Hid (Below w.heap.size w (w.alloc (.cells #[.int .i64 0, .int .i64 0, .int .i64 0, .int .i64 0, .int .i64 0, .int .i64 0, .bool false, .int .i64 0, .int .i64 0, .int .i64 0, .slice none 0 0] 110))) := (Below.refl _ _).alloc (Nat.le_refl _) _
  have HZ0 : Hid (Bx (w.alloc (.cells #[.int .i64 0, .int .i64 0, .int .i64 0, .int .i64 0, .int .i64 0, .int .i64 0, .bool false, .int .i64 0, .int .i64 0, .int .i64 0, .slice none 0 0] 110)) w.heap.size 110 #[.int .i64 0, .int .i64 0, .int .i64 0, .int .i64 0, .int .i64 0, .int .i64 0, .bool false, .int .i64 0, .int .i64 0, .int .i64 0, .slice none 0 0]) := Bx.new w _ _
  have HNO : Hid (¬ HdP T) := fun h => h8 ((hdP_iff T).1 h).1.2
  have c1 : ¬ (T.length : Int) < 20 := by omega
  have c1d : decide ((T.length : Int) < 20) = false := decide_eq_false c1
  have i20 : (20 : Int) ≤ (T.length : Int) := by omega
  have n20 : 20 ≤ T.length := by omega
  have e20 : (bs T).extract 0 20 = bs (T.take 20) := bs_takeN T 20
  have HS8 := Hid.mk' (fun u => isSealed8_any (T.take 20) u (by rw [List.length_take]; omega))
  have HQ8 : Hid ((1 ≤ (T.take 20).length ∧ seal8 ((T.take 20).take ((T.take 20).length - 1)) = T.take 20) ↔ seal8 (T.take 19) = T.take 20) := by
    have e : (T.take 20).length = 20 := by rw [List.length_take]; omega
    show _ ↔ _
    rw [e, List.take_take]
    exact ⟨fun h => h.2, fun h => ⟨by omega, h⟩⟩
  generalize bs (T.take 20) = S20 at *
  have HN8 := Hid.mk' (fun h => h8 (HQ8.out.1 h))
  clear h8 HQ8
  generalize bs T = SB at *
  generalize T.length = nT at *
  go_enter Tryz.func69, Tryz.ntmps69
  go_wp2_with (first
    | (go_at_call 132; refine (HS8.out _).mono ?_; rintro e u1 ⟨he, hb⟩; have he := he.false_of HN8.out; subst he; have HZ1 := Hid.mk' (HZ0.out.below hb); have HB1 := Hid.mk' (HB0.out.trans (hb.mono HB0.out.size)); clear HS8 hb HZ0 HB0)
    | (refine wpList_storeRow rfl _ _ 110 rfl w.heap.size 110 _ _ rfl rfl HZ1.out infoHd11 rfl rfl ?_))
  exact bodyPost_ret (res_hr _ w.heap.size 0 false _ _ (HZ1.out.row _) rfl rfl rfl rfl) rfl ⟨.inr ⟨HNO.out, rfl⟩, HB1.out.grown (grown_row _ _ _) HB1.out.size (fun j hj => by injection hj with hj; omega)⟩
set_option maxRecDepth 4000 in
set_option maxHeartbeats 2000000 in
theorem headRead_fields (T : List UInt8) (w : World) (hs : 20 ≤ T.length) (hs2 : T.length ≤ 9000) (h8 : seal8 (T.take 19) = T.take 20) (hf : ¬ (T.take 2 = [82, 76] ∧ dWh T ≤ 1 ∧ infoB (dCh T) (dDe T) (dBl T) (dRa T) (dSe T) (dSa T) = true)) : Calls Tryz.prog 69 #[.string (bs T)] w fun e w' => HdOut e w w' T := by
  have hz : (bs T).size = T.length := bs_size T
  have HB0 : Hid (Below w.heap.size w (w.alloc (.cells #[.int .i64 0, .int .i64 0, .int .i64 0, .int .i64 0, .int .i64 0, .int .i64 0, .bool false, .int .i64 0, .int .i64 0, .int .i64 0, .slice none 0 0] 110))) := (Below.refl _ _).alloc (Nat.le_refl _) _
  have HZ0 : Hid (Bx (w.alloc (.cells #[.int .i64 0, .int .i64 0, .int .i64 0, .int .i64 0, .int .i64 0, .int .i64 0, .bool false, .int .i64 0, .int .i64 0, .int .i64 0, .slice none 0 0] 110)) w.heap.size 110 #[.int .i64 0, .int .i64 0, .int .i64 0, .int .i64 0, .int .i64 0, .int .i64 0, .bool false, .int .i64 0, .int .i64 0, .int .i64 0, .slice none 0 0]) := Bx.new w _ _
  have HNO : Hid (¬ HdP T) := fun h => hf ((hdP_iff T).1 h).2.1
  have HRF := Hid.mk' (fun u => readFields_any T u hs hs2)
  have hF : (decide (T.take 2 = [82, 76]) && (decide (dWh T ≤ 1) && infoB (dCh T) (dDe T) (dBl T) (dRa T) (dSe T) (dSa T))) = false := by
    refine Bool.eq_false_iff.2 fun h => hf ?_
    simpa using h
  rw [hF] at HRF
  unfold hdC at HRF
  clear hF hf
  have c1 : ¬ (T.length : Int) < 20 := by omega
  have c1d : decide ((T.length : Int) < 20) = false := decide_eq_false c1
  have i20 : (20 : Int) ≤ (T.length : Int) := by omega
  have n20 : 20 ≤ T.length := by omega
  have e20 : (bs T).extract 0 20 = bs (T.take 20) := bs_takeN T 20
  have HS8 := Hid.mk' (fun u => isSealed8_any (T.take 20) u (by rw [List.length_take]; omega))
  have HQ8 : Hid ((1 ≤ (T.take 20).length ∧ seal8 ((T.take 20).take ((T.take 20).length - 1)) = T.take 20) ↔ seal8 (T.take 19) = T.take 20) := by
    have e : (T.take 20).length = 20 := by rw [List.length_take]; omega
    show _ ↔ _
    rw [e, List.take_take]
    exact ⟨fun h => h.2, fun h => ⟨by omega, h⟩⟩
  generalize bs (T.take 20) = S20 at *
  have HY8 := Hid.mk' (HQ8.out.2 h8)
  clear h8 HQ8
  generalize bs T = SB at *
  generalize T.length = nT at *
  go_enter Tryz.func69, Tryz.ntmps69
  go_wp2_with (first
    | (go_at_call 132; refine (HS8.out _).mono ?_; rintro e u1 ⟨he, hb⟩; have he := he.true_of HY8.out; subst he; have HZ1 := Hid.mk' (HZ0.out.below hb); have HB1 := Hid.mk' (HB0.out.trans (hb.mono HB0.out.size)); clear HS8 hb HZ0 HB0)
    | (go_at_call 133; refine (HRF.out _).mono ?_; rintro e u2 ⟨rfl, hb⟩; have HZ2 := Hid.mk' (HZ1.out.below hb); have HB2 := Hid.mk' (HB1.out.trans (hb.mono HB1.out.size)); clear HRF hb HZ1 HB1)
    | (refine wpList_storeRow rfl _ _ 110 rfl w.heap.size 110 _ _ rfl rfl (Hid.mk' (HZ2.out.alloc _)).out infoHd11 rfl rfl ?_))
  exact bodyPost_ret (res_hr _ w.heap.size 0 false _ _ ((HZ2.out.alloc _).row _) rfl rfl rfl rfl) rfl ⟨.inr ⟨HNO.out, rfl⟩, (HB2.out.alloc HB2.out.size _).grown (grown_row _ _ _) (HB2.out.alloc HB2.out.size _).size (fun j hj => by injection hj with hj; omega)⟩
end Go.Proofs.YtlncjgnomhpjnabGreatDoor

