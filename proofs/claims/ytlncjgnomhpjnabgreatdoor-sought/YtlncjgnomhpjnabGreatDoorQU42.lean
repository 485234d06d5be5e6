import Derived.Test.YtlncjgnomhpjnabGreatDoorQU41
/-
  The program reads a head: it is finished.
-/
namespace Go.Proofs.YtlncjgnomhpjnabGreatDoor
open Go.RowKit Go.Deep
set_option linter.unusedVariables false
theorem hr_done {w u : World} {g B : Nat} {pv : Value} {n : Nat} {xs : List Value} {cs : Array Value} (hZ : Bx u w.heap.size 110 cs) (ds : Array Value) (hB : Below w.heap.size w u) (hg : w.heap.size < g) (hBg : g < B) (ho : u.ownsRow B 3 1 pv n xs) :
    Bx ((u.setCell ⟨g, 10, none⟩ pv).setRow w.heap.size ds) w.heap.size 110 ds ∧ ((u.setCell ⟨g, 10, none⟩ pv).setRow w.heap.size ds).ownsRow w.heap.size 3 1 pv n xs ∧ Below w.heap.size w ((u.setCell ⟨g, 10, none⟩ pv).setRow w.heap.size ds) := by
  have hne : ∀ k, k < B → pv.ownBlock ≠ some k := fun k hk e => by have := (ho.lt k e).1; omega
  have hg1 := grown_set u ⟨g, 10, none⟩ pv
  have hlt := hZ.lt
  have hZ1 : Bx (u.setCell ⟨g, 10, none⟩ pv) w.heap.size 110 cs := hZ.of (hg1.block _ hlt (by simp; omega))
  have hB1 : Below w.heap.size w (u.setCell ⟨g, 10, none⟩ pv) := hB.setCell (p := ⟨g, 10, none⟩) (by show w.heap.size ≤ g; omega) _
  exact ⟨hZ1.row _, own_mono ((ho.kept hg1 (.inr (hne _ hBg))).kept (grown_row _ _ _) (.inr (hne _ (by omega)))) (by omega), hB1.grown (grown_row _ _ _) hB1.size (fun j hj => by injection hj with hj; omega)⟩
theorem pts_read (T : List UInt8) (pe : Nat) (hpe : pe = 20 + 2 * dNp T) (w : World) (hp : pe ≤ T.length) (hN : dNp T ≤ 300) :
    Calls Tryz.prog 137 #[.string (bs (pieceT T 20 pe))] w fun e w' => ∃ v, e = .returned v ∧ w'.ownsRow w.heap.size 3 1 v (dNp T) (pntV (dPts T)) ∧ Below w.heap.size w w' := by
  have h := readPoints_any (pieceT T 20 pe) (dNp T) w (by rw [pieceT_length _ _ _ hp (by omega)]; omega) (by omega)
  have e : ((List.range (dNp T)).map fun k => Value.int .i64 ((fld (pieceT T 20 pe) (2 * k) (2 * k + 2) : Nat) : Int)) = pntV (dPts T) := by
    unfold pntV dPts
    rw [List.map_map]
    refine List.map_congr_left fun k hk => ?_
    have hk : k < dNp T := List.mem_range.1 hk
    show Value.int .i64 _ = Value.int .i64 _
    congr 2
    unfold fld pieceT
    rw [List.drop_take, List.take_take, List.drop_drop]
    congr 2
    omega
  rw [e] at h
  exact h
set_option maxRecDepth 4000 in
set_option maxHeartbeats 2000000 in
theorem headRead_fin (T : List UInt8) (w : World) (hs : 20 ≤ T.length) (hs2 : T.length ≤ 9000) (h8 : seal8 (T.take 19) = T.take 20) (hf : T.take 2 = [82, 76] ∧ dWh T ≤ 1 ∧ infoB (dCh T) (dDe T) (dBl T) (dRa T) (dSe T) (dSa T) = true) (hz2 : dSz T ≤ T.length) (h16 : seal16 (T.take (dSz T - 2)) = T.take (dSz T)) (hw : dWh T = 1) : Calls Tryz.prog 69 #[.string (bs T)] w fun e w' => HdOut e w w' T := by
  have hz : (bs T).size = T.length := bs_size T
  have HB0 : Hid (Below w.heap.size w (w.alloc (.cells #[.int .i64 0, .int .i64 0, .int .i64 0, .int .i64 0, .int .i64 0, .int .i64 0, .bool false, .int .i64 0, .int .i64 0, .int .i64 0, .slice none 0 0] 110))) := (Below.refl _ _).alloc (Nat.le_refl _) _
  have HZ0 : Hid (Bx (w.alloc (.cells #[.int .i64 0, .int .i64 0, .int .i64 0, .int .i64 0, .int .i64 0, .int .i64 0, .bool false, .int .i64 0, .int .i64 0, .int .i64 0, .slice none 0 0] 110)) w.heap.size 110 #[.int .i64 0, .int .i64 0, .int .i64 0, .int .i64 0, .int .i64 0, .int .i64 0, .bool false, .int .i64 0, .int .i64 0, .int .i64 0, .slice none 0 0]) := Bx.new w _ _
  have HYES : Hid (HdP T) := (hdP_iff T).2 ⟨⟨hs, h8⟩, hf, ⟨hz2, h16⟩, fun h => by omega⟩
  have HRF := Hid.mk' (fun u => readFields_any T u hs hs2)
  have hF : (decide (T.take 2 = [82, 76]) && (decide (dWh T ≤ 1) && infoB (dCh T) (dDe T) (dBl T) (dRa T) (dSe T) (dSa T))) = true := by
    simpa using hf
  rw [hF] at HRF
  unfold hdC at HRF
  have hin := hf.2.2
  simp only [infoB, Bool.and_eq_true, within_iff] at hin
  have HPT : Hid (∀ u, Calls Tryz.prog 134 #[.agg #[.int .i64 (dCh T), .int .i64 (dDe T), .int .i64 (dBl T), .int .i64 (dRa T), .int .i64 (dSe T), .int .i64 (dSa T)]] u fun e w' => e = .returned (.int .i64 (dNp T)) ∧ Below u.heap.size u w') := fun u => hpoints_any (dCh T) (dDe T) (dBl T) (dRa T) (dSe T) (dSa T) u (by omega) (by omega) (by omega) (by omega)
  have hNP : dNp T ≤ 300 := by
    unfold dNp nPts
    split
    · omega
    · have h1 := nBlk_le (S := dSa T) (B := dBl T) (by omega)
      have h2 := nBlk_le (S := nBlk (dSa T) (dBl T)) (B := dSe T) (by omega)
      omega
  obtain ⟨d2, hd2⟩ : ∃ d, d = 2 * dNp T := ⟨_, rfl⟩
  obtain ⟨pe, hpe⟩ : ∃ d, d = 20 + 2 * dNp T := ⟨_, rfl⟩
  obtain ⟨sz, hsz⟩ : ∃ d, d = dSz T := ⟨_, rfl⟩
  have hsz1 : sz = 22 + 2 * dNp T := hsz
  have w1 : IntKind.i64.wrap (2 * (dNp T : Int)) = (d2 : Int) := by rw [IntKind.wrap_i64]; omega
  have w2 : IntKind.i64.wrap (20 + (d2 : Int)) = (pe : Int) := by rw [IntKind.wrap_i64]; omega
  have w3 : IntKind.i64.wrap ((pe : Int) + 2) = (sz : Int) := by rw [IntKind.wrap_i64]; omega
  clear hF
  have hwb : decide (dWh T = 1) = true := by exact decide_eq_true hw
  rw [hwb] at HRF
  clear hwb
  have c4 : ¬ (T.length : Int) < (sz : Int) := by omega
  have c4d : decide ((T.length : Int) < (sz : Int)) = false := decide_eq_false c4
  have i4 : (sz : Int) ≤ (T.length : Int) := by omega
  have n4 : sz ≤ T.length := by omega
  have eS : (bs T).extract 0 sz = bs (T.take sz) := bs_takeN T _
  have hSSz : (bs (T.take sz)).size = sz := by rw [bs_size, List.length_take]; omega
  have HS16 := Hid.mk' (fun u => isSealed16_any (T.take sz) u (by rw [List.length_take]; omega))
  have HQ16 : Hid ((2 ≤ (T.take sz).length ∧ seal16 ((T.take sz).take ((T.take sz).length - 2)) = T.take sz) ↔ seal16 (T.take (dSz T - 2)) = T.take (dSz T)) := by
    have e : (T.take sz).length = sz := by rw [List.length_take]; omega
    show _ ↔ _
    rw [e, List.take_take, Nat.min_eq_left (by omega), hsz]
    exact ⟨fun h => h.2, fun h => ⟨by omega, h⟩⟩
  have c1 : ¬ (T.length : Int) < 20 := by omega
  have c1d : decide ((T.length : Int) < 20) = false := decide_eq_false c1
  have i20 : (20 : Int) ≤ (T.length : Int) := by omega
  have n20 : 20 ≤ T.length := by omega
  have e20 : (bs T).extract 0 20 = bs (T.take 20) := bs_takeN T 20
  have HS8 := Hid.mk' (fun u => isSealed8_any (T.take 20) u (by rw [List.length_take]; omega))
  have HQ8 : Hid ((1 ≤ (T.take 20).length ∧ seal8 ((T.take 20).take ((T.take 20).length - 1)) = T.take 20) ↔ seal8 (T.take 19) = T.take 20) := by
    have e : (T.take 20).length = 20 := by rw [List.length_take]; omega
    show _ ↔ _
    rw [e, List.take_take]
    exact ⟨fun h => h.2, fun h => ⟨by omega, h⟩⟩
  generalize bs (T.take 20) = S20 at *
  have HY8 := Hid.mk' (HQ8.out.2 h8)
  have HY16 := Hid.mk' (HQ16.out.2 h16)
  have eP : (bs T).extract 20 pe = bs (pieceT T 20 pe) := bs_cut T 20 pe
  have p0 : (20 : Int) ≤ (pe : Int) := by omega
  have p1 : (pe : Int) ≤ (T.length : Int) := by omega
  have q0 : 20 ≤ pe := by omega
  have q1 : pe ≤ T.length := by omega
  have HRP := Hid.mk' (fun u => pts_read T pe hpe u (by omega) hNP)
  have HW : Hid (decide (dWh T = 1) = true) := decide_eq_true hw
  have HSZ : Hid (sz = dSz T) := hsz
  have HNP : Hid (dNp T = dNp T) := rfl
  clear h8 HQ8 hf hin hz2 h16 HQ16 hd2 hpe hsz hsz1 hw
  generalize bs (pieceT T 20 pe) = SP at *
  generalize bs (T.take sz) = SS at *
  generalize hPQ : dPts T = ps at *
  generalize hNQ : dNp T = np at *
  have HPQ := Hid.mk' hPQ
  have HNQ := Hid.mk' hNQ
  clear hPQ hNQ
  generalize hE3 : dCh T = v3 at *
  generalize hE4 : dDe T = v4 at *
  generalize hE5 : dBl T = v5 at *
  generalize hE6 : dRa T = v6 at *
  generalize hE8 : dSa T = v8 at *
  generalize hE10 : dSe T = v10 at *
  generalize hE11 : dLe T = v11 at *
  generalize hE13 : dMo T = v13 at *
  generalize hE15 : dSu T = v15 at *
  have HE := Hid.mk' (And.intro hE3 (And.intro hE4 (And.intro hE5 (And.intro hE6 (And.intro hE8 (And.intro hE10 (And.intro hE11 (And.intro hE13 hE15))))))))
  clear hE3 hE4 hE5 hE6 hE8 hE10 hE11 hE13 hE15
  generalize bs T = SB at *
  generalize T.length = nT at *
  go_enter Tryz.func69, Tryz.ntmps69
  go_wp2_with (first
    | (go_at_call 132; refine (HS8.out _).mono ?_; rintro e u1 ⟨he, hb⟩; have he := he.true_of HY8.out; subst he; have HZ1 := Hid.mk' (HZ0.out.below hb); have HB1 := Hid.mk' (HB0.out.trans (hb.mono HB0.out.size)); clear HS8 hb HZ0 HB0)
    | (go_at_call 133; refine (HRF.out _).mono ?_; rintro e u2 ⟨rfl, hb⟩; have HZ2 := Hid.mk' (HZ1.out.below hb); have HB2 := Hid.mk' (HB1.out.trans (hb.mono HB1.out.size)); clear HRF hb HZ1 HB1)
    | (go_at_call 134; refine (HPT.out _).mono ?_; rintro e u3 ⟨rfl, hb⟩; have HZ3 := Hid.mk' ((HZ2.out.alloc _).below hb); have HH3 : Hid (Bx u3 u2.heap.size 110 #[.int .i64 v3, .int .i64 v4, .int .i64 v5, .int .i64 v6, .int .i64 v10, .int .i64 v8, .bool true, .int .i64 v11, .int .i64 v13, .int .i64 v15, .slice none 0 0]) := (Bx.new u2 _ _).below hb; have HB3 := Hid.mk' ((HB2.out.alloc HB2.out.size _).trans (hb.mono (HB2.out.alloc HB2.out.size _).size)); have HLT := Hid.mk' (show w.heap.size < u2.heap.size from HZ2.out.lt); clear HPT hb HZ2 HB2)
    | (go_at_call 135; refine (HS16.out _).mono ?_; rintro e u4 ⟨he, hb⟩; have he := he.true_of HY16.out; subst he; have HZ4 := Hid.mk' (HZ3.out.below hb); have HH4 := Hid.mk' (HH3.out.below hb); have HB4 := Hid.mk' (HB3.out.trans (hb.mono HB3.out.size)); have f0 := HH4.out.cell 0; have f1 := HH4.out.cell 1; have f2 := HH4.out.cell 2; have f3 := HH4.out.cell 3; have f4 := HH4.out.cell 4; have f5 := HH4.out.cell 5; have f6 := HH4.out.cell 6; clear HS16 hb HZ3 HB3 HH3))
  go_quiet (fail)
  have HZ5 : Hid (Bx (u4.drewN nq) w.heap.size 110 _) := HZ4.out
  have HH5 : Hid (Bx (u4.drewN nq) u2.heap.size 110 _) := HH4.out
  have HB5 : Hid (Below w.heap.size w (u4.drewN nq)) := ⟨HB4.out.os, HB4.out.tape, HB4.out.output, HB4.out.size, HB4.out.block⟩
  clear HZ4 HH4 HB4
  go_wp2_with (first
    | (go_at_call 137; refine (HRP.out _).mono ?_; rintro e u9 ⟨pv, rfl, ho, hb⟩; obtain ⟨pa, pc, rfl⟩ := own_form ho; have HO9 := Hid.mk' ho; have HGT := Hid.mk' HH5.out.lt; have HZ9 := Hid.mk' (HZ5.out.below hb); have HH9 := Hid.mk' (HH5.out.below hb); have HB9 := Hid.mk' (HB5.out.trans (hb.mono HB5.out.size)); have g10 := HH9.out.cell 10; have z10 := HH9.out.fz 10; clear HRP hb ho HZ5 HH5 HB5)
    | (refine wpList_loadRow rfl _ 110 rfl u2.heap.size 110 #[.int .i64 v3, .int .i64 v4, .int .i64 v5, .int .i64 v6, .int .i64 v10, .int .i64 v8, .bool true, .int .i64 v11, .int .i64 v13, .int .i64 v15, .slice pa np pc] (0, 0) _ rfl ((show Bx u9 u2.heap.size 110 (hdC v3 v4 v5 v6 v10 v8 true v11 v13 v15 (.slice none 0 0)) from HH9.out).hd10 (.slice pa np pc)) Tryz.underlying110 rfl infoHd11 ?_)
    | (refine wpList_storeRow rfl _ _ 110 rfl w.heap.size 110 _ _ rfl rfl (HZ9.out.of ((grown_set u9 ⟨u2.heap.size, 10, none⟩ _).block _ HZ9.out.lt (by have := HLT.out; simp; omega))) infoHd11 rfl rfl ?_))
  obtain ⟨HE3, HE4, HE5, HE6, HE8, HE10, HE11, HE13, HE15⟩ := HE.out
  have hd := hr_done HZ9.out (#[.int .i64 v3, .int .i64 v4, .int .i64 v5, .int .i64 v6, .int .i64 v10, .int .i64 v8, .bool true, .int .i64 v11, .int .i64 v13, .int .i64 v15, .slice pa np pc]) HB9.out HLT.out HGT.out HO9.out
  exact bodyPost_ret (res_hr _ w.heap.size sz true _ _ hd.1 rfl rfl rfl rfl) rfl ⟨.inl ⟨HYES.out, _, by rw [HE3, HE4, HE5, HE6, HE8, HE10, HE11, HE13, HE15, HW.out, ← HSZ.out]; rfl, by rw [HNQ.out, HPQ.out]; exact hd.2.1⟩, hd.2.2⟩
end Go.Proofs.YtlncjgnomhpjnabGreatDoor

/-
  The program reads a head: it is not finished.
-/
namespace Go.Proofs.YtlncjgnomhpjnabGreatDoor
open Go.RowKit Go.Deep
set_option linter.unusedVariables false
theorem unf_lay (c0 c1 B c3 c4 S : Nat) (h0 : c0 < 256) (h1 : c1 < 256) (h2 : B < 256) (h3 : c3 < 65536) (h4 : c4 < 256) (h5 : S < 65536) (np g : Nat) (u : World) (hn : np ≤ 300) (hr : u.rowIs g 3 np (fun _ => .int .i64 0)) :
    Calls Tryz.prog 129 #[.agg #[.int .i64 c0, .int .i64 c1, .int .i64 B, .int .i64 c3, .int .i64 c4, .int .i64 S, .bool false, .int .i64 0, .int .i64 0, .int .i64 0, .slice (some ⟨g, 0, none⟩) np np]] u fun e w' => e = .returned (.string (bs (headTx 0 c0 c1 B c3 S c4 0 0 0 (List.replicate np 0)))) ∧ Below u.heap.size u w' := by
  have hl : (List.replicate np 0).length = np := List.length_replicate
  have h := headText_any false c0 c1 B c3 S c4 0 0 0 (List.replicate np 0) (some ⟨g, 0, none⟩) np u h0 h1 h2 h3 h4 h5 (by omega) (by omega) (by omega) (by omega) (fun p hp => by have := List.eq_of_mem_replicate hp; omega)
    (by
      rw [hl]
      refine fun i hi => ⟨_, rfl, ?_⟩
      have := hr.cell hi
      rw [addr_add, Nat.zero_add, this]
      show _ = some (Value.int .i64 (((List.replicate np 0).getD i 0 : Nat) : Int))
      rw [List.getD_eq_getElem?_getD, List.getElem?_replicate, if_pos hi]
      rfl)
    (fun x hx hp => by injection hx with hx; subst hx; exact hr.lt)
  rw [hl] at h
  exact h
theorem cells6 {u : World} {q : Nat} {o0 o1 o2 o3 o4 o5 o6 o7 o8 o9 o10 : Value} (h : Bx u q 110 #[o0, o1, o2, o3, o4, o5, o6, o7, o8, o9, o10]) : q < u.heap.size ∧ u.cell? ⟨q, 0, none⟩ = some o0 ∧ u.cell? ⟨q, 1, none⟩ = some o1 ∧ u.cell? ⟨q, 2, none⟩ = some o2 ∧ u.cell? ⟨q, 3, none⟩ = some o3 ∧ u.cell? ⟨q, 4, none⟩ = some o4 ∧ u.cell? ⟨q, 5, none⟩ = some o5 ∧ u.cell? ⟨q, 6, none⟩ = some o6 :=
  ⟨h.lt, h.cell 0, h.cell 1, h.cell 2, h.cell 3, h.cell 4, h.cell 5, h.cell 6⟩
theorem Bx.b2 {w w' : World} {b : Nat} {t : TypeId} {cs : Array Value} (hb : Below w.heap.size w w') (h : Bx w b t cs) : Bx w' b t cs := h.below hb
theorem below_b2 {w u w' : World} (hb : Below u.heap.size u w') (h : Below w.heap.size w u) : Below w.heap.size w w' := h.trans (hb.mono h.size)
set_option maxRecDepth 4000 in
set_option maxHeartbeats 2000000 in
theorem headRead_unf (T : List UInt8) (w : World) (hs : 20 ≤ T.length) (hs2 : T.length ≤ 9000) (h8 : seal8 (T.take 19) = T.take 20) (hf : T.take 2 = [82, 76] ∧ dWh T ≤ 1 ∧ infoB (dCh T) (dDe T) (dBl T) (dRa T) (dSe T) (dSa T) = true) (hz2 : dSz T ≤ T.length) (h16 : seal16 (T.take (dSz T - 2)) = T.take (dSz T)) (hw : dWh T = 0) (hu : T.take (dSz T) = headTx 0 (dCh T) (dDe T) (dBl T) (dRa T) (dSa T) (dSe T) 0 0 0 (List.replicate (dNp T) 0)) : Calls Tryz.prog 69 #[.string (bs T)] w fun e w' => HdOut e w w' T := by
  have hz : (bs T).size = T.length := bs_size T
  have HB0 : Hid (Below w.heap.size w (w.alloc (.cells #[.int .i64 0, .int .i64 0, .int .i64 0, .int .i64 0, .int .i64 0, .int .i64 0, .bool false, .int .i64 0, .int .i64 0, .int .i64 0, .slice none 0 0] 110))) := (Below.refl _ _).alloc (Nat.le_refl _) _
  have HZ0 : Hid (Bx (w.alloc (.cells #[.int .i64 0, .int .i64 0, .int .i64 0, .int .i64 0, .int .i64 0, .int .i64 0, .bool false, .int .i64 0, .int .i64 0, .int .i64 0, .slice none 0 0] 110)) w.heap.size 110 #[.int .i64 0, .int .i64 0, .int .i64 0, .int .i64 0, .int .i64 0, .int .i64 0, .bool false, .int .i64 0, .int .i64 0, .int .i64 0, .slice none 0 0]) := Bx.new w _ _
  have HYES : Hid (HdP T) := (hdP_iff T).2 ⟨⟨hs, h8⟩, hf, ⟨hz2, h16⟩, fun _ => hu⟩
  have HRF := Hid.mk' (fun u => readFields_any T u hs hs2)
  have hF : (decide (T.take 2 = [82, 76]) && (decide (dWh T ≤ 1) && infoB (dCh T) (dDe T) (dBl T) (dRa T) (dSe T) (dSa T))) = true := by
    simpa using hf
  rw [hF] at HRF
  unfold hdC at HRF
  have hin := hf.2.2
  simp only [infoB, Bool.and_eq_true, within_iff] at hin
  have HPT : Hid (∀ u, Calls Tryz.prog 134 #[.agg #[.int .i64 (dCh T), .int .i64 (dDe T), .int .i64 (dBl T), .int .i64 (dRa T), .int .i64 (dSe T), .int .i64 (dSa T)]] u fun e w' => e = .returned (.int .i64 (dNp T)) ∧ Below u.heap.size u w') := fun u => hpoints_any (dCh T) (dDe T) (dBl T) (dRa T) (dSe T) (dSa T) u (by omega) (by omega) (by omega) (by omega)
  have hNP : dNp T ≤ 300 := by
    unfold dNp nPts
    split
    · omega
    · have h1 := nBlk_le (S := dSa T) (B := dBl T) (by omega)
      have h2 := nBlk_le (S := nBlk (dSa T) (dBl T)) (B := dSe T) (by omega)
      omega
  obtain ⟨d2, hd2⟩ : ∃ d, d = 2 * dNp T := ⟨_, rfl⟩
  obtain ⟨pe, hpe⟩ : ∃ d, d = 20 + 2 * dNp T := ⟨_, rfl⟩
  obtain ⟨sz, hsz⟩ : ∃ d, d = dSz T := ⟨_, rfl⟩
  have hsz1 : sz = 22 + 2 * dNp T := hsz
  have w1 : IntKind.i64.wrap (2 * (dNp T : Int)) = (d2 : Int) := by rw [IntKind.wrap_i64]; omega
  have w2 : IntKind.i64.wrap (20 + (d2 : Int)) = (pe : Int) := by rw [IntKind.wrap_i64]; omega
  have w3 : IntKind.i64.wrap ((pe : Int) + 2) = (sz : Int) := by rw [IntKind.wrap_i64]; omega
  clear hF
  have hwb : decide (dWh T = 1) = false := by exact decide_eq_false (by omega)
  rw [hwb] at HRF
  clear hwb
  have c4 : ¬ (T.length : Int) < (sz : Int) := by omega
  have c4d : decide ((T.length : Int) < (sz : Int)) = false := decide_eq_false c4
  have i4 : (sz : Int) ≤ (T.length : Int) := by omega
  have n4 : sz ≤ T.length := by omega
  have eS : (bs T).extract 0 sz = bs (T.take sz) := bs_takeN T _
  have hSSz : (bs (T.take sz)).size = sz := by rw [bs_size, List.length_take]; omega
  have HS16 := Hid.mk' (fun u => isSealed16_any (T.take sz) u (by rw [List.length_take]; omega))
  have HQ16 : Hid ((2 ≤ (T.take sz).length ∧ seal16 ((T.take sz).take ((T.take sz).length - 2)) = T.take sz) ↔ seal16 (T.take (dSz T - 2)) = T.take (dSz T)) := by
    have e : (T.take sz).length = sz := by rw [List.length_take]; omega
    show _ ↔ _
    rw [e, List.take_take, Nat.min_eq_left (by omega), hsz]
    exact ⟨fun h => h.2, fun h => ⟨by omega, h⟩⟩
  have c1 : ¬ (T.length : Int) < 20 := by omega
  have c1d : decide ((T.length : Int) < 20) = false := decide_eq_false c1
  have i20 : (20 : Int) ≤ (T.length : Int) := by omega
  have n20 : 20 ≤ T.length := by omega
  have e20 : (bs T).extract 0 20 = bs (T.take 20) := bs_takeN T 20
  have HS8 := Hid.mk' (fun u => isSealed8_any (T.take 20) u (by rw [List.length_take]; omega))
  have HQ8 : Hid ((1 ≤ (T.take 20).length ∧ seal8 ((T.take 20).take ((T.take 20).length - 1)) = T.take 20) ↔ seal8 (T.take 19) = T.take 20) := by
    have e : (T.take 20).length = 20 := by rw [List.length_take]; omega
    show _ ↔ _
    rw [e, List.take_take]
    exact ⟨fun h => h.2, fun h => ⟨by omega, h⟩⟩
  generalize bs (T.take 20) = S20 at *
  have HY8 := Hid.mk' (HQ8.out.2 h8)
  have HY16 := Hid.mk' (HQ16.out.2 h16)
  have eP : (bs T).extract 20 pe = bs (pieceT T 20 pe) := bs_cut T 20 pe
  have p0 : (20 : Int) ≤ (pe : Int) := by omega
  have p1 : (pe : Int) ≤ (T.length : Int) := by omega
  have q0 : 20 ≤ pe := by omega
  have q1 : pe ≤ T.length := by omega
  have HRP := Hid.mk' (fun u => pts_read T pe hpe u (by omega) hNP)
  have HW : Hid (decide (dWh T = 1) = false) := decide_eq_false (by omega)
  have HSZ : Hid (sz = dSz T) := hsz
  have HNP : Hid (dNp T = dNp T) := rfl
  have HUN := Hid.mk' (fun u => unfinished_any (dCh T) (dDe T) (dBl T) (dRa T) (dSe T) (dSa T) u (by omega) (by omega) (by omega) (by omega))
  rw [show nPts (dSa T) (dBl T) (dSe T) = dNp T from rfl] at HUN
  unfold hdC at HUN
  have HLA := Hid.mk' (fun g u (h : World.rowIs u g 3 (dNp T) (fun _ => .int .i64 0)) => unf_lay (dCh T) (dDe T) (dBl T) (dRa T) (dSe T) (dSa T) (by omega) (by omega) (by omega) (by omega) (by omega) (by omega) (dNp T) g u hNP h)
  have hXX : ((bs (T.take sz)).toList == (bs (headTx 0 (dCh T) (dDe T) (dBl T) (dRa T) (dSa T) (dSe T) 0 0 0 (List.replicate (dNp T) 0))).toList) = true := (str_beq _ _).2 (by rw [hsz, hu])
  have hYY : bs (T.take sz) = bs (headTx 0 (dCh T) (dDe T) (dBl T) (dRa T) (dSa T) (dSe T) 0 0 0 (List.replicate (dNp T) 0)) := by rw [hsz, hu]
  generalize bs (headTx 0 (dCh T) (dDe T) (dBl T) (dRa T) (dSa T) (dSe T) 0 0 0 (List.replicate (dNp T) 0)) = UT at *
  have HXX := Hid.mk' hXX
  clear hu hXX hYY
  clear h8 HQ8 hf hin hz2 h16 HQ16 hd2 hpe hsz hsz1 hw
  generalize bs (pieceT T 20 pe) = SP at *
  generalize bs (T.take sz) = SS at *
  generalize hPQ : dPts T = ps at *
  generalize hNQ : dNp T = np at *
  have HPQ := Hid.mk' hPQ
  have HNQ := Hid.mk' hNQ
  clear hPQ hNQ
  generalize hE3 : dCh T = v3 at *
  generalize hE4 : dDe T = v4 at *
  generalize hE5 : dBl T = v5 at *
  generalize hE6 : dRa T = v6 at *
  generalize hE8 : dSa T = v8 at *
  generalize hE10 : dSe T = v10 at *
  generalize hE11 : dLe T = v11 at *
  generalize hE13 : dMo T = v13 at *
  generalize hE15 : dSu T = v15 at *
  have HE := Hid.mk' (And.intro hE3 (And.intro hE4 (And.intro hE5 (And.intro hE6 (And.intro hE8 (And.intro hE10 (And.intro hE11 (And.intro hE13 hE15))))))))
  clear hE3 hE4 hE5 hE6 hE8 hE10 hE11 hE13 hE15
  generalize bs T = SB at *
  generalize T.length = nT at *
  go_enter Tryz.func69, Tryz.ntmps69
  go_wp2_with (first
    | (go_at_call 132; refine (HS8.out _).mono ?_; rintro e u1 ⟨he, hb⟩; have he := he.true_of HY8.out; subst he; have HZ1 := Hid.mk' (HZ0.out.below hb); have HB1 := Hid.mk' (HB0.out.trans (hb.mono HB0.out.size)); clear HS8 hb HZ0 HB0)
    | (go_at_call 133; refine (HRF.out _).mono ?_; rintro e u2 ⟨rfl, hb⟩; have HZ2 := Hid.mk' (HZ1.out.below hb); have HB2 := Hid.mk' (HB1.out.trans (hb.mono HB1.out.size)); clear HRF hb HZ1 HB1)
    | (go_at_call 134; refine (HPT.out _).mono ?_; rintro e u3 ⟨rfl, hb⟩; have HZ3 := Hid.mk' ((HZ2.out.alloc _).below hb); have HH3 : Hid (Bx u3 u2.heap.size 110 #[.int .i64 v3, .int .i64 v4, .int .i64 v5, .int .i64 v6, .int .i64 v10, .int .i64 v8, .bool false, .int .i64 v11, .int .i64 v13, .int .i64 v15, .slice none 0 0]) := (Bx.new u2 _ _).below hb; have HB3 := Hid.mk' ((HB2.out.alloc HB2.out.size _).trans (hb.mono (HB2.out.alloc HB2.out.size _).size)); have HLT := Hid.mk' (show w.heap.size < u2.heap.size from HZ2.out.lt); clear HPT hb HZ2 HB2)
    | (go_at_call 135; refine (HS16.out _).mono ?_; rintro e u4 ⟨he, hb⟩; have he := he.true_of HY16.out; subst he; have HZ4 := Hid.mk' (HZ3.out.below hb); have HH4 := Hid.mk' (HH3.out.below hb); have HB4 := Hid.mk' (HB3.out.trans (hb.mono HB3.out.size)); have f0 := HH4.out.cell 0; have f1 := HH4.out.cell 1; have f2 := HH4.out.cell 2; have f3 := HH4.out.cell 3; have f4 := HH4.out.cell 4; have f5 := HH4.out.cell 5; have f6 := HH4.out.cell 6; clear HS16 hb HZ3 HB3 HH3))
  have kU := cells6 (show Bx u4.drew u2.heap.size 110 _ from HH4.out)
  have hXX := HXX.out
  clear f0 f1 f2 f3 f4 f5 f6
  go_region_held3 (fun w' => u2.heap.size < w'.heap.size ∧ w'.cell? ⟨u2.heap.size, 0, none⟩ = some (.int .i64 v3) ∧ w'.cell? ⟨u2.heap.size, 1, none⟩ = some (.int .i64 v4) ∧ w'.cell? ⟨u2.heap.size, 2, none⟩ = some (.int .i64 v5) ∧ w'.cell? ⟨u2.heap.size, 3, none⟩ = some (.int .i64 v6) ∧ w'.cell? ⟨u2.heap.size, 4, none⟩ = some (.int .i64 v10) ∧ w'.cell? ⟨u2.heap.size, 5, none⟩ = some (.int .i64 v8) ∧ w'.cell? ⟨u2.heap.size, 6, none⟩ = some (.bool false))
    (with_reducible assumption)
    (first
    | (go_at_call 136; refine (HUN.out _).mono ?_; rintro e u5 ⟨g, rfl, hr, hb⟩; have HR5 := Hid.mk' hr; have HH5 := Hid.mk' (Bx.b2 hb HH4.out); have HZ5 := Hid.mk' (Bx.b2 hb HZ4.out); have HB5 := Hid.mk' (below_b2 hb HB4.out.drew); have kU1 := cells6 HH5.out; clear HUN hr hb HH4 HZ4 HB4)
    | (go_at_call 129; refine (HLA.out _ _ HR5.out).mono ?_; rintro e u6 ⟨rfl, hb⟩; have HH6 := Hid.mk' (Bx.b2 hb HH5.out); have HZ6 := Hid.mk' (Bx.b2 hb HZ5.out); have HB6 := Hid.mk' (below_b2 hb HB5.out); have kU2 := cells6 HH6.out; clear HLA hb HH5 HZ5 HB5 HR5))
  go_wp2_with (first
    | (go_at_call 137; refine (HRP.out _).mono ?_; rintro e u9 ⟨pv, rfl, ho, hb⟩; obtain ⟨pa, pc, rfl⟩ := own_form ho; have HO9 := Hid.mk' ho; have HGT := Hid.mk' HH6.out.lt; have HZ9 := Hid.mk' (HZ6.out.below hb); have HH9 := Hid.mk' (HH6.out.below hb); have HB9 := Hid.mk' (HB6.out.trans (hb.mono HB6.out.size)); have g10 := HH9.out.cell 10; have z10 := HH9.out.fz 10; clear HRP hb ho HZ6 HH6 HB6)
    | (refine wpList_loadRow rfl _ 110 rfl u2.heap.size 110 #[.int .i64 v3, .int .i64 v4, .int .i64 v5, .int .i64 v6, .int .i64 v10, .int .i64 v8, .bool false, .int .i64 v11, .int .i64 v13, .int .i64 v15, .slice pa np pc] (0, 0) _ rfl ((show Bx u9 u2.heap.size 110 (hdC v3 v4 v5 v6 v10 v8 false v11 v13 v15 (.slice none 0 0)) from HH9.out).hd10 (.slice pa np pc)) Tryz.underlying110 rfl infoHd11 ?_)
    | (refine wpList_storeRow rfl _ _ 110 rfl w.heap.size 110 _ _ rfl rfl (HZ9.out.of ((grown_set u9 ⟨u2.heap.size, 10, none⟩ _).block _ HZ9.out.lt (by have := HLT.out; simp; omega))) infoHd11 rfl rfl ?_))
  obtain ⟨HE3, HE4, HE5, HE6, HE8, HE10, HE11, HE13, HE15⟩ := HE.out
  have hd := hr_done HZ9.out (#[.int .i64 v3, .int .i64 v4, .int .i64 v5, .int .i64 v6, .int .i64 v10, .int .i64 v8, .bool false, .int .i64 v11, .int .i64 v13, .int .i64 v15, .slice pa np pc]) HB9.out HLT.out HGT.out HO9.out
  exact bodyPost_ret (res_hr _ w.heap.size sz true _ _ hd.1 rfl rfl rfl rfl) rfl ⟨.inl ⟨HYES.out, _, by rw [HE3, HE4, HE5, HE6, HE8, HE10, HE11, HE13, HE15, HW.out, ← HSZ.out]; rfl, by rw [HNQ.out, HPQ.out]; exact hd.2.1⟩, hd.2.2⟩
end Go.Proofs.YtlncjgnomhpjnabGreatDoor

