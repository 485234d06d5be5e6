import Derived.Test.YtlncjgnomhpjnabGreatDoorQU41
import Derived.Test.YtlncjgnomhpjnabGreatDoorQU42
/-
  The program reads a head: it is too short.
-/
namespace Go.Proofs.YtlncjgnomhpjnabGreatDoor
open Go.RowKit Go.Deep
set_option linter.unusedVariables false
set_option maxRecDepth 4000 in
set_option maxHeartbeats 2000000 in
theorem headRead_size (T : List UInt8) (w : World) (hs : 20 ≤ T.length) (hs2 : T.length ≤ 9000) (h8 : seal8 (T.take 19) = T.take 20) (hf : T.take 2 = [82, 76] ∧ dWh T ≤ 1 ∧ infoB (dCh T) (dDe T) (dBl T) (dRa T) (dSe T) (dSa T) = true) (hz2 : ¬ dSz T ≤ T.length) : Calls Tryz.prog 69 #[.string (bs T)] w fun e w' => HdOut e w w' T := by
  have hz : (bs T).size = T.length := bs_size T
  have HB0 : Hid (Below w.heap.size w (w.alloc (.cells #[.int .i64 0, .int .i64 0, .int .i64 0, .int .i64 0, .int .i64 0, .int .i64 0, .bool false, .int .i64 0, .int .i64 0, .int .i64 0, .slice none 0 0] 110))) := (Below.refl _ _).alloc (Nat.le_refl _) _
  have HZ0 : Hid (Bx (w.alloc (.cells #[.int .i64 0, .int .i64 0, .int .i64 0, .int .i64 0, .int .i64 0, .int .i64 0, .bool false, .int .i64 0, .int .i64 0, .int .i64 0, .slice none 0 0] 110)) w.heap.size 110 #[.int .i64 0, .int .i64 0, .int .i64 0, .int .i64 0, .int .i64 0, .int .i64 0, .bool false, .int .i64 0, .int .i64 0, .int .i64 0, .slice none 0 0]) := Bx.new w _ _
  have HNO : Hid (¬ HdP T) := fun h => hz2 h.2.2.2.1
  have HRF := Hid.mk' (fun u => readFields_any T u hs hs2)
  have hF : (decide (T.take 2 = [82, 76]) && (decide (dWh T ≤ 1) && infoB (dCh T) (dDe T) (dBl T) (dRa T) (dSe T) (dSa T))) = true := by
    simpa using hf
  rw [hF] at HRF
  unfold hdC at HRF
  have hin := hf.2.2
  simp only [infoB, Bool.and_eq_true, within_iff] at hin
  have HPT : Hid (∀ u, Calls Tryz.prog 134 #[.agg #[.int .i64 (dCh T), .int .i64 (dDe T), .int .i64 (dBl T), .int .i64 (dRa T), .int .i64 (dSe T), .int .i64 (dSa T)]] u fun e w' => e = .returned (.int .i64 (dNp T)) ∧ Below u.heap.size u w') := fun u => hpoints_any (dCh T) (dDe T) (dBl T) (dRa T) (dSe T) (dSa T) u (by omega) (by omega) (by omega) (by omega)
  have hNP : dNp T ≤ 300 := by
    unfold dNp nPts
    split
    · omega
    · have h1 := nBlk_le (S := dSa T) (B := dBl T) (by omega)
      have h2 := nBlk_le (S := nBlk (dSa T) (dBl T)) (B := dSe T) (by omega)
      omega
  obtain ⟨d2, hd2⟩ : ∃ d, d = 2 * dNp T := ⟨_, rfl⟩
  obtain ⟨pe, hpe⟩ : ∃ d, d = 20 + 2 * dNp T := ⟨_, rfl⟩
  obtain ⟨sz, hsz⟩ : ∃ d, d = dSz T := ⟨_, rfl⟩
  have hsz1 : sz = 22 + 2 * dNp T := hsz
  have w1 : IntKind.i64.wrap (2 * (dNp T : Int)) = (d2 : Int) := by rw [IntKind.wrap_i64]; omega
  have w2 : IntKind.i64.wrap (20 + (d2 : Int)) = (pe : Int) := by rw [IntKind.wrap_i64]; omega
  have w3 : IntKind.i64.wrap ((pe : Int) + 2) = (sz : Int) := by rw [IntKind.wrap_i64]; omega
  clear hF
  have c4 : (T.length : Int) < (sz : Int) := by omega
  have c4d : decide ((T.length : Int) < (sz : Int)) = true := decide_eq_true c4
  have c1 : ¬ (T.length : Int) < 20 := by omega
  have c1d : decide ((T.length : Int) < 20) = false := decide_eq_false c1
  have i20 : (20 : Int) ≤ (T.length : Int) := by omega
  have n20 : 20 ≤ T.length := by omega
  have e20 : (bs T).extract 0 20 = bs (T.take 20) := bs_takeN T 20
  have HS8 := Hid.mk' (fun u => isSealed8_any (T.take 20) u (by rw [List.length_take]; omega))
  have HQ8 : Hid ((1 ≤ (T.take 20).length ∧ seal8 ((T.take 20).take ((T.take 20).length - 1)) = T.take 20) ↔ seal8 (T.take 19) = T.take 20) := by
    have e : (T.take 20).length = 20 := by rw [List.length_take]; omega
    show _ ↔ _
    rw [e, List.take_take]
    exact ⟨fun h => h.2, fun h => ⟨by omega, h⟩⟩
  generalize bs (T.take 20) = S20 at *
  have HY8 := Hid.mk' (HQ8.out.2 h8)
  clear h8 HQ8 hf hin hz2 hd2 hpe hsz hsz1
  generalize dNp T = np at *
  generalize hE3 : dCh T = v3 at *
  generalize hE4 : dDe T = v4 at *
  generalize hE5 : dBl T = v5 at *
  generalize hE6 : dRa T = v6 at *
  generalize hE8 : dSa T = v8 at *
  generalize hE10 : dSe T = v10 at *
  generalize hE11 : dLe T = v11 at *
  generalize hE13 : dMo T = v13 at *
  generalize hE15 : dSu T = v15 at *
  generalize hEw : decide (dWh T = 1) = wb at *
  have HE := Hid.mk' (And.intro hE3 (And.intro hE4 (And.intro hE5 (And.intro hE6 (And.intro hE8 (And.intro hE10 (And.intro hE11 (And.intro hE13 (And.intro hE15 hEw)))))))))
  clear hE3 hE4 hE5 hE6 hE8 hE10 hE11 hE13 hE15 hEw
  generalize bs T = SB at *
  generalize T.length = nT at *
  go_enter Tryz.func69, Tryz.ntmps69
  go_wp2_with (first
    | (go_at_call 132; refine (HS8.out _).mono ?_; rintro e u1 ⟨he, hb⟩; have he := he.true_of HY8.out; subst he; have HZ1 := Hid.mk' (HZ0.out.below hb); have HB1 := Hid.mk' (HB0.out.trans (hb.mono HB0.out.size)); clear HS8 hb HZ0 HB0)
    | (go_at_call 133; refine (HRF.out _).mono ?_; rintro e u2 ⟨rfl, hb⟩; have HZ2 := Hid.mk' (HZ1.out.below hb); have HB2 := Hid.mk' (HB1.out.trans (hb.mono HB1.out.size)); clear HRF hb HZ1 HB1)
    | (go_at_call 134; refine (HPT.out _).mono ?_; rintro e u3 ⟨rfl, hb⟩; have HZ3 := Hid.mk' ((HZ2.out.alloc _).below hb); have HH3 : Hid (Bx u3 u2.heap.size 110 #[.int .i64 v3, .int .i64 v4, .int .i64 v5, .int .i64 v6, .int .i64 v10, .int .i64 v8, .bool wb, .int .i64 v11, .int .i64 v13, .int .i64 v15, .slice none 0 0]) := (Bx.new u2 _ _).below hb; have HB3 := Hid.mk' ((HB2.out.alloc HB2.out.size _).trans (hb.mono (HB2.out.alloc HB2.out.size _).size)); clear HPT hb HZ2 HB2)
    | (refine wpList_storeRow rfl _ _ 110 rfl w.heap.size 110 _ _ rfl rfl HZ3.out infoHd11 rfl rfl ?_))
  exact bodyPost_ret (res_hr _ w.heap.size 0 false _ _ (HZ3.out.row _) rfl rfl rfl rfl) rfl ⟨.inr ⟨HNO.out, rfl⟩, HB3.out.grown (grown_row _ _ _) HB3.out.size (fun j hj => by injection hj with hj; omega)⟩
end Go.Proofs.YtlncjgnomhpjnabGreatDoor

/-
  The program reads a head: its last seal.
-/
namespace Go.Proofs.YtlncjgnomhpjnabGreatDoor
open Go.RowKit Go.Deep
set_option linter.unusedVariables false
set_option maxRecDepth 4000 in
set_option maxHeartbeats 2000000 in
theorem headRead_sixteen (T : List UInt8) (w : World) (hs : 20 ≤ T.length) (hs2 : T.length ≤ 9000) (h8 : seal8 (T.take 19) = T.take 20) (hf : T.take 2 = [82, 76] ∧ dWh T ≤ 1 ∧ infoB (dCh T) (dDe T) (dBl T) (dRa T) (dSe T) (dSa T) = true) (hz2 : dSz T ≤ T.length) (h16 : ¬ seal16 (T.take (dSz T - 2)) = T.take (dSz T)) : Calls Tryz.prog 69 #[.string (bs T)] w fun e w' => HdOut e w w' T := by
  have hz : (bs T).size = T.length := bs_size T
  have HB0 : Hid (Below w.heap.size w (w.alloc (.cells #[.int .i64 0, .int .i64 0, .int .i64 0, .int .i64 0, .int .i64 0, .int .i64 0, .bool false, .int .i64 0, .int .i64 0, .int .i64 0, .slice none 0 0] 110))) := (Below.refl _ _).alloc (Nat.le_refl _) _
  have HZ0 : Hid (Bx (w.alloc (.cells #[.int .i64 0, .int .i64 0, .int .i64 0, .int .i64 0, .int .i64 0, .int .i64 0, .bool false, .int .i64 0, .int .i64 0, .int .i64 0, .slice none 0 0] 110)) w.heap.size 110 #[.int .i64 0, .int .i64 0, .int .i64 0, .int .i64 0, .int .i64 0, .int .i64 0, .bool false, .int .i64 0, .int .i64 0, .int .i64 0, .slice none 0 0]) := Bx.new w _ _
  have HNO : Hid (¬ HdP T) := fun h => h16 ((hdP_iff T).1 h).2.2.1.2
  have HRF := Hid.mk' (fun u => readFields_any T u hs hs2)
  have hF : (decide (T.take 2 = [82, 76]) && (decide (dWh T ≤ 1) && infoB (dCh T) (dDe T) (dBl T) (dRa T) (dSe T) (dSa T))) = true := by
    simpa using hf
  rw [hF] at HRF
  unfold hdC at HRF
  have hin := hf.2.2
  simp only [infoB, Bool.and_eq_true, within_iff] at hin
  have HPT : Hid (∀ u, Calls Tryz.prog 134 #[.agg #[.int .i64 (dCh T), .int .i64 (dDe T), .int .i64 (dBl T), .int .i64 (dRa T), .int .i64 (dSe T), .int .i64 (dSa T)]] u fun e w' => e = .returned (.int .i64 (dNp T)) ∧ Below u.heap.size u w') := fun u => hpoints_any (dCh T) (dDe T) (dBl T) (dRa T) (dSe T) (dSa T) u (by omega) (by omega) (by omega) (by omega)
  have hNP : dNp T ≤ 300 := by
    unfold dNp nPts
    split
    · omega
    · have h1 := nBlk_le (S := dSa T) (B := dBl T) (by omega)
      have h2 := nBlk_le (S := nBlk (dSa T) (dBl T)) (B := dSe T) (by omega)
      omega
  obtain ⟨d2, hd2⟩ : ∃ d, d = 2 * dNp T := ⟨_, rfl⟩
  obtain ⟨pe, hpe⟩ : ∃ d, d = 20 + 2 * dNp T := ⟨_, rfl⟩
  obtain ⟨sz, hsz⟩ : ∃ d, d = dSz T := ⟨_, rfl⟩
  have hsz1 : sz = 22 + 2 * dNp T := hsz
  have w1 : IntKind.i64.wrap (2 * (dNp T : Int)) = (d2 : Int) := by rw [IntKind.wrap_i64]; omega
  have w2 : IntKind.i64.wrap (20 + (d2 : Int)) = (pe : Int) := by rw [IntKind.wrap_i64]; omega
  have w3 : IntKind.i64.wrap ((pe : Int) + 2) = (sz : Int) := by rw [IntKind.wrap_i64]; omega
  clear hF
  have c4 : ¬ (T.length : Int) < (sz : Int) := by omega
  have c4d : decide ((T.length : Int) < (sz : Int)) = false := decide_eq_false c4
  have i4 : (sz : Int) ≤ (T.length : Int) := by omega
  have n4 : sz ≤ T.length := by omega
  have eS : (bs T).extract 0 sz = bs (T.take sz) := bs_takeN T _
  have hSSz : (bs (T.take sz)).size = sz := by rw [bs_size, List.length_take]; omega
  have HS16 := Hid.mk' (fun u => isSealed16_any (T.take sz) u (by rw [List.length_take]; omega))
  have HQ16 : Hid ((2 ≤ (T.take sz).length ∧ seal16 ((T.take sz).take ((T.take sz).length - 2)) = T.take sz) ↔ seal16 (T.take (dSz T - 2)) = T.take (dSz T)) := by
    have e : (T.take sz).length = sz := by rw [List.length_take]; omega
    show _ ↔ _
    rw [e, List.take_take, Nat.min_eq_left (by omega), hsz]
    exact ⟨fun h => h.2, fun h => ⟨by omega, h⟩⟩
  have c1 : ¬ (T.length : Int) < 20 := by omega
  have c1d : decide ((T.length : Int) < 20) = false := decide_eq_false c1
  have i20 : (20 : Int) ≤ (T.length : Int) := by omega
  have n20 : 20 ≤ T.length := by omega
  have e20 : (bs T).extract 0 20 = bs (T.take 20) := bs_takeN T 20
  have HS8 := Hid.mk' (fun u => isSealed8_any (T.take 20) u (by rw [List.length_take]; omega))
  have HQ8 : Hid ((1 ≤ (T.take 20).length ∧ seal8 ((T.take 20).take ((T.take 20).length - 1)) = T.take 20) ↔ seal8 (T.take 19) = T.take 20) := by
    have e : (T.take 20).length = 20 := by rw [List.length_take]; omega
    show _ ↔ _
    rw [e, List.take_take]
    exact ⟨fun h => h.2, fun h => ⟨by omega, h⟩⟩
  generalize bs (T.take 20) = S20 at *
  have HY8 := Hid.mk' (HQ8.out.2 h8)
  have HN16 := Hid.mk' (fun h => h16 (HQ16.out.1 h))
  clear h8 HQ8 hf hin hz2 h16 HQ16 hd2 hpe hsz hsz1
  generalize bs (T.take sz) = SS at *
  generalize dNp T = np at *
  generalize hE3 : dCh T = v3 at *
  generalize hE4 : dDe T = v4 at *
  generalize hE5 : dBl T = v5 at *
  generalize hE6 : dRa T = v6 at *
  generalize hE8 : dSa T = v8 at *
  generalize hE10 : dSe T = v10 at *
  generalize hE11 : dLe T = v11 at *
  generalize hE13 : dMo T = v13 at *
  generalize hE15 : dSu T = v15 at *
  generalize hEw : decide (dWh T = 1) = wb at *
  have HE := Hid.mk' (And.intro hE3 (And.intro hE4 (And.intro hE5 (And.intro hE6 (And.intro hE8 (And.intro hE10 (And.intro hE11 (And.intro hE13 (And.intro hE15 hEw)))))))))
  clear hE3 hE4 hE5 hE6 hE8 hE10 hE11 hE13 hE15 hEw
  generalize bs T = SB at *
  generalize T.length = nT at *
  go_enter Tryz.func69, Tryz.ntmps69
  go_wp2_with (first
    | (go_at_call 132; refine (HS8.out _).mono ?_; rintro e u1 ⟨he, hb⟩; have he := he.true_of HY8.out; subst he; have HZ1 := Hid.mk' (HZ0.out.below hb); have HB1 := Hid.mk' (HB0.out.trans (hb.mono HB0.out.size)); clear HS8 hb HZ0 HB0)
    | (go_at_call 133; refine (HRF.out _).mono ?_; rintro e u2 ⟨rfl, hb⟩; have HZ2 := Hid.mk' (HZ1.out.below hb); have HB2 := Hid.mk' (HB1.out.trans (hb.mono HB1.out.size)); clear HRF hb HZ1 HB1)
    | (go_at_call 134; refine (HPT.out _).mono ?_; rintro e u3 ⟨rfl, hb⟩; have HZ3 := Hid.mk' ((HZ2.out.alloc _).below hb); have HH3 : Hid (Bx u3 u2.heap.size 110 #[.int .i64 v3, .int .i64 v4, .int .i64 v5, .int .i64 v6, .int .i64 v10, .int .i64 v8, .bool wb, .int .i64 v11, .int .i64 v13, .int .i64 v15, .slice none 0 0]) := (Bx.new u2 _ _).below hb; have HB3 := Hid.mk' ((HB2.out.alloc HB2.out.size _).trans (hb.mono (HB2.out.alloc HB2.out.size _).size)); clear HPT hb HZ2 HB2)
    | (go_at_call 135; refine (HS16.out _).mono ?_; rintro e u4 ⟨he, hb⟩; have he := he.false_of HN16.out; subst he; have HZ4 := Hid.mk' (HZ3.out.below hb); have HH4 := Hid.mk' (HH3.out.below hb); have HB4 := Hid.mk' (HB3.out.trans (hb.mono HB3.out.size)); clear HS16 hb HZ3 HB3 HH3)
    | (refine wpList_storeRow rfl _ _ 110 rfl w.heap.size 110 _ _ rfl rfl HZ4.out infoHd11 rfl rfl ?_))
  exact bodyPost_ret (res_hr _ w.heap.size 0 false _ _ (HZ4.out.row _) rfl rfl rfl rfl) rfl ⟨.inr ⟨HNO.out, rfl⟩, HB4.out.grown (grown_row _ _ _) HB4.out.size (fun j hj => by injection hj with hj; omega)⟩
end Go.Proofs.YtlncjgnomhpjnabGreatDoor

/-
  The program reads a head: it says what cannot be known yet; and all ways.
-/
namespace Go.Proofs.YtlncjgnomhpjnabGreatDoor
open Go.RowKit Go.Deep
set_option linter.unusedVariables false
set_option maxRecDepth 4000 in
set_option maxHeartbeats 2000000 in
theorem headRead_unn (T : List UInt8) (w : World) (hs : 20 ≤ T.length) (hs2 : T.length ≤ 9000) (h8 : seal8 (T.take 19) = T.take 20) (hf : T.take 2 = [82, 76] ∧ dWh T ≤ 1 ∧ infoB (dCh T) (dDe T) (dBl T) (dRa T) (dSe T) (dSa T) = true) (hz2 : dSz T ≤ T.length) (h16 : seal16 (T.take (dSz T - 2)) = T.take (dSz T)) (hw : dWh T = 0) (hu : ¬ T.take (dSz T) = headTx 0 (dCh T) (dDe T) (dBl T) (dRa T) (dSa T) (dSe T) 0 0 0 (List.replicate (dNp T) 0)) : Calls Tryz.prog 69 #[.string (bs T)] w fun e w' => HdOut e w w' T := by
  have hz : (bs T).size = T.length := bs_size T
  have HB0 : Hid (Below w.heap.size w (w.alloc (.cells #[.int .i64 0, .int .i64 0, .int .i64 0, .int .i64 0, .int .i64 0, .int .i64 0, .bool false, .int .i64 0, .int .i64 0, .int .i64 0, .slice none 0 0] 110))) := (Below.refl _ _).alloc (Nat.le_refl _) _
  have HZ0 : Hid (Bx (w.alloc (.cells #[.int .i64 0, .int .i64 0, .int .i64 0, .int .i64 0, .int .i64 0, .int .i64 0, .bool false, .int .i64 0, .int .i64 0, .int .i64 0, .slice none 0 0] 110)) w.heap.size 110 #[.int .i64 0, .int .i64 0, .int .i64 0, .int .i64 0, .int .i64 0, .int .i64 0, .bool false, .int .i64 0, .int .i64 0, .int .i64 0, .slice none 0 0]) := Bx.new w _ _
  have HNO : Hid (¬ HdP T) := fun h => hu (((hdP_iff T).1 h).2.2.2 hw)
  have HRF := Hid.mk' (fun u => readFields_any T u hs hs2)
  have hF : (decide (T.take 2 = [82, 76]) && (decide (dWh T ≤ 1) && infoB (dCh T) (dDe T) (dBl T) (dRa T) (dSe T) (dSa T))) = true := by
    simpa using hf
  rw [hF] at HRF
  unfold hdC at HRF
  have hin := hf.2.2
  simp only [infoB, Bool.and_eq_true, within_iff] at hin
  have HPT : Hid (∀ u, Calls Tryz.prog 134 #[.agg #[.int .i64 (dCh T), .int .i64 (dDe T), .int .i64 (dBl T), .int .i64 (dRa T), .int .i64 (dSe T), .int .i64 (dSa T)]] u fun e w' => e = .returned (.int .i64 (dNp T)) ∧ Below u.heap.size u w') := fun u => hpoints_any (dCh T) (dDe T) (dBl T) (dRa T) (dSe T) (dSa T) u (by omega) (by omega) (by omega) (by omega)
  have hNP : dNp T ≤ 300 := by
    unfold dNp nPts
    split
    · omega
    · have h1 := nBlk_le (S := dSa T) (B := dBl T) (by omega)
      have h2 := nBlk_le (S := nBlk (dSa T) (dBl T)) (B := dSe T) (by omega)
      omega
  obtain ⟨d2, hd2⟩ : ∃ d, d = 2 * dNp T := ⟨_, rfl⟩
  obtain ⟨pe, hpe⟩ : ∃ d, d = 20 + 2 * dNp T := ⟨_, rfl⟩
  obtain ⟨sz, hsz⟩ : ∃ d, d = dSz T := ⟨_, rfl⟩
  have hsz1 : sz = 22 + 2 * dNp T := hsz
  have w1 : IntKind.i64.wrap (2 * (dNp T : Int)) = (d2 : Int) := by rw [IntKind.wrap_i64]; omega
  have w2 : IntKind.i64.wrap (20 + (d2 : Int)) = (pe : Int) := by rw [IntKind.wrap_i64]; omega
  have w3 : IntKind.i64.wrap ((pe : Int) + 2) = (sz : Int) := by rw [IntKind.wrap_i64]; omega
  clear hF
  have hwb : decide (dWh T = 1) = false := by exact decide_eq_false (by omega)
  rw [hwb] at HRF
  clear hwb
  have c4 : ¬ (T.length : Int) < (sz : Int) := by omega
  have c4d : decide ((T.length : Int) < (sz : Int)) = false := decide_eq_false c4
  have i4 : (sz : Int) ≤ (T.length : Int) := by omega
  have n4 : sz ≤ T.length := by omega
  have eS : (bs T).extract 0 sz = bs (T.take sz) := bs_takeN T _
  have hSSz : (bs (T.take sz)).size = sz := by rw [bs_size, List.length_take]; omega
  have HS16 := Hid.mk' (fun u => isSealed16_any (T.take sz) u (by rw [List.length_take]; omega))
  have HQ16 : Hid ((2 ≤ (T.take sz).length ∧ seal16 ((T.take sz).take ((T.take sz).length - 2)) = T.take sz) ↔ seal16 (T.take (dSz T - 2)) = T.take (dSz T)) := by
    have e : (T.take sz).length = sz := by rw [List.length_take]; omega
    show _ ↔ _
    rw [e, List.take_take, Nat.min_eq_left (by omega), hsz]
    exact ⟨fun h => h.2, fun h => ⟨by omega, h⟩⟩
  have c1 : ¬ (T.length : Int) < 20 := by omega
  have c1d : decide ((T.length : Int) < 20) = false := decide_eq_false c1
  have i20 : (20 : Int) ≤ (T.length : Int) := by omega
  have n20 : 20 ≤ T.length := by omega
  have e20 : (bs T).extract 0 20 = bs (T.take 20) := bs_takeN T 20
  have HS8 := Hid.mk' (fun u => isSealed8_any (T.take 20) u (by rw [List.length_take]; omega))
  have HQ8 : Hid ((1 ≤ (T.take 20).length ∧ seal8 ((T.take 20).take ((T.take 20).length - 1)) = T.take 20) ↔ seal8 (T.take 19) = T.take 20) := by
    have e : (T.take 20).length = 20 := by rw [List.length_take]; omega
    show _ ↔ _
    rw [e, List.take_take]
    exact ⟨fun h => h.2, fun h => ⟨by omega, h⟩⟩
  generalize bs (T.take 20) = S20 at *
  have HY8 := Hid.mk' (HQ8.out.2 h8)
  have HY16 := Hid.mk' (HQ16.out.2 h16)
  have eP : (bs T).extract 20 pe = bs (pieceT T 20 pe) := bs_cut T 20 pe
  have p0 : (20 : Int) ≤ (pe : Int) := by omega
  have p1 : (pe : Int) ≤ (T.length : Int) := by omega
  have q0 : 20 ≤ pe := by omega
  have q1 : pe ≤ T.length := by omega
  have HUN := Hid.mk' (fun u => unfinished_any (dCh T) (dDe T) (dBl T) (dRa T) (dSe T) (dSa T) u (by omega) (by omega) (by omega) (by omega))
  rw [show nPts (dSa T) (dBl T) (dSe T) = dNp T from rfl] at HUN
  unfold hdC at HUN
  have HLA := Hid.mk' (fun g u (h : World.rowIs u g 3 (dNp T) (fun _ => .int .i64 0)) => unf_lay (dCh T) (dDe T) (dBl T) (dRa T) (dSe T) (dSa T) (by omega) (by omega) (by omega) (by omega) (by omega) (by omega) (dNp T) g u hNP h)
  have hYY : ¬ bs (T.take sz) = bs (headTx 0 (dCh T) (dDe T) (dBl T) (dRa T) (dSa T) (dSe T) 0 0 0 (List.replicate (dNp T) 0)) := fun h => hu (by rw [← hsz]; exact bs_inj h)
  have hXX : ((bs (T.take sz)).toList == (bs (headTx 0 (dCh T) (dDe T) (dBl T) (dRa T) (dSa T) (dSe T) 0 0 0 (List.replicate (dNp T) 0))).toList) = false := Bool.eq_false_iff.2 fun h => hYY ((str_beq _ _).1 h)
  generalize bs (headTx 0 (dCh T) (dDe T) (dBl T) (dRa T) (dSa T) (dSe T) 0 0 0 (List.replicate (dNp T) 0)) = UT at *
  have HXX := Hid.mk' hXX
  clear hu hXX hYY
  clear h8 HQ8 hf hin hz2 h16 HQ16 hd2 hpe hsz hsz1 hw
  generalize bs (pieceT T 20 pe) = SP at *
  generalize bs (T.take sz) = SS at *
  generalize hPQ : dPts T = ps at *
  generalize hNQ : dNp T = np at *
  have HPQ := Hid.mk' hPQ
  have HNQ := Hid.mk' hNQ
  clear hPQ hNQ
  generalize hE3 : dCh T = v3 at *
  generalize hE4 : dDe T = v4 at *
  generalize hE5 : dBl T = v5 at *
  generalize hE6 : dRa T = v6 at *
  generalize hE8 : dSa T = v8 at *
  generalize hE10 : dSe T = v10 at *
  generalize hE11 : dLe T = v11 at *
  generalize hE13 : dMo T = v13 at *
  generalize hE15 : dSu T = v15 at *
  have HE := Hid.mk' (And.intro hE3 (And.intro hE4 (And.intro hE5 (And.intro hE6 (And.intro hE8 (And.intro hE10 (And.intro hE11 (And.intro hE13 hE15))))))))
  clear hE3 hE4 hE5 hE6 hE8 hE10 hE11 hE13 hE15
  generalize bs T = SB at *
  generalize T.length = nT at *
  go_enter Tryz.func69, Tryz.ntmps69
  go_wp2_with (first
    | (go_at_call 132; refine (HS8.out _).mono ?_; rintro e u1 ⟨he, hb⟩; have he := he.true_of HY8.out; subst he; have HZ1 := Hid.mk' (HZ0.out.below hb); have HB1 := Hid.mk' (HB0.out.trans (hb.mono HB0.out.size)); clear HS8 hb HZ0 HB0)
    | (go_at_call 133; refine (HRF.out _).mono ?_; rintro e u2 ⟨rfl, hb⟩; have HZ2 := Hid.mk' (HZ1.out.below hb); have HB2 := Hid.mk' (HB1.out.trans (hb.mono HB1.out.size)); clear HRF hb HZ1 HB1)
    | (go_at_call 134; refine (HPT.out _).mono ?_; rintro e u3 ⟨rfl, hb⟩; have HZ3 := Hid.mk' ((HZ2.out.alloc _).below hb); have HH3 : Hid (Bx u3 u2.heap.size 110 #[.int .i64 v3, .int .i64 v4, .int .i64 v5, .int .i64 v6, .int .i64 v10, .int .i64 v8, .bool false, .int .i64 v11, .int .i64 v13, .int .i64 v15, .slice none 0 0]) := (Bx.new u2 _ _).below hb; have HB3 := Hid.mk' ((HB2.out.alloc HB2.out.size _).trans (hb.mono (HB2.out.alloc HB2.out.size _).size)); have HLT := Hid.mk' (show w.heap.size < u2.heap.size from HZ2.out.lt); clear HPT hb HZ2 HB2)
    | (go_at_call 135; refine (HS16.out _).mono ?_; rintro e u4 ⟨he, hb⟩; have he := he.true_of HY16.out; subst he; have HZ4 := Hid.mk' (HZ3.out.below hb); have HH4 := Hid.mk' (HH3.out.below hb); have HB4 := Hid.mk' (HB3.out.trans (hb.mono HB3.out.size)); have f0 := HH4.out.cell 0; have f1 := HH4.out.cell 1; have f2 := HH4.out.cell 2; have f3 := HH4.out.cell 3; have f4 := HH4.out.cell 4; have f5 := HH4.out.cell 5; have f6 := HH4.out.cell 6; clear HS16 hb HZ3 HB3 HH3))
  have kU := cells6 (show Bx u4.drew u2.heap.size 110 _ from HH4.out)
  have hXX := HXX.out
  clear f0 f1 f2 f3 f4 f5 f6
  go_region_held3 (fun w' => u2.heap.size < w'.heap.size ∧ w'.cell? ⟨u2.heap.size, 0, none⟩ = some (.int .i64 v3) ∧ w'.cell? ⟨u2.heap.size, 1, none⟩ = some (.int .i64 v4) ∧ w'.cell? ⟨u2.heap.size, 2, none⟩ = some (.int .i64 v5) ∧ w'.cell? ⟨u2.heap.size, 3, none⟩ = some (.int .i64 v6) ∧ w'.cell? ⟨u2.heap.size, 4, none⟩ = some (.int .i64 v10) ∧ w'.cell? ⟨u2.heap.size, 5, none⟩ = some (.int .i64 v8) ∧ w'.cell? ⟨u2.heap.size, 6, none⟩ = some (.bool false))
    (with_reducible assumption)
    (first
    | (go_at_call 136; refine (HUN.out _).mono ?_; rintro e u5 ⟨g, rfl, hr, hb⟩; have HR5 := Hid.mk' hr; have HH5 := Hid.mk' (Bx.b2 hb HH4.out); have HZ5 := Hid.mk' (Bx.b2 hb HZ4.out); have HB5 := Hid.mk' (below_b2 hb HB4.out.drew); have kU1 := cells6 HH5.out; clear HUN hr hb HH4 HZ4 HB4)
    | (go_at_call 129; refine (HLA.out _ _ HR5.out).mono ?_; rintro e u6 ⟨rfl, hb⟩; have HH6 := Hid.mk' (Bx.b2 hb HH5.out); have HZ6 := Hid.mk' (Bx.b2 hb HZ5.out); have HB6 := Hid.mk' (below_b2 hb HB5.out); have kU2 := cells6 HH6.out; clear HLA hb HH5 HZ5 HB5 HR5))
  go_wp2_with (first
    | (refine wpList_storeRow rfl _ _ 110 rfl w.heap.size 110 _ _ rfl rfl HZ6.out infoHd11 rfl rfl ?_))
  exact bodyPost_ret (res_hr _ w.heap.size 0 false _ _ (HZ6.out.row _) rfl rfl rfl rfl) rfl ⟨.inr ⟨HNO.out, rfl⟩, HB6.out.grown (grown_row _ _ _) HB6.out.size (fun j hj => by injection hj with hj; omega)⟩
/-- what reading a head gives, whatever the text -/
theorem headRead_any (T : List UInt8) (w : World) (hs2 : T.length ≤ 9000) : Calls Tryz.prog 69 #[.string (bs T)] w fun e w' => HdOut e w w' T := by
  by_cases h1 : 20 ≤ T.length
  · by_cases h8 : seal8 (T.take 19) = T.take 20
    · by_cases hf : T.take 2 = [82, 76] ∧ dWh T ≤ 1 ∧ infoB (dCh T) (dDe T) (dBl T) (dRa T) (dSe T) (dSa T) = true
      · by_cases hz : dSz T ≤ T.length
        · by_cases h16 : seal16 (T.take (dSz T - 2)) = T.take (dSz T)
          · by_cases hw : dWh T = 1
            · exact headRead_fin T w h1 hs2 h8 hf hz h16 hw
            · by_cases hu : T.take (dSz T) = headTx 0 (dCh T) (dDe T) (dBl T) (dRa T) (dSa T) (dSe T) 0 0 0 (List.replicate (dNp T) 0)
              · exact headRead_unf T w h1 hs2 h8 hf hz h16 (by have := hf.2.1; omega) hu
              · exact headRead_unn T w h1 hs2 h8 hf hz h16 (by have := hf.2.1; omega) hu
          · exact headRead_sixteen T w h1 hs2 h8 hf hz h16
        · exact headRead_size T w h1 hs2 h8 hf hz
      · exact headRead_fields T w h1 hs2 h8 hf
    · exact headRead_eight T w h1 hs2 h8
  · exact headRead_short T w (by omega)
end Go.Proofs.YtlncjgnomhpjnabGreatDoor

