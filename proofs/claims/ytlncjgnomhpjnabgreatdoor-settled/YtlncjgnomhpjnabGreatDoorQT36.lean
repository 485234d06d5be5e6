import Derived.Test.YtlncjgnomhpjnabGreatDoorQT35
/-
  The shelf: a frame is laid between others, where there is room.
-/
namespace Go.Proofs.YtlncjgnomhpjnabGreatDoor
open Go.RowKit Go.Deep
set_option linter.unusedVariables false
/-- A copy whose run is known, as one of the operations of a region. -/
theorem stepCopy {P : Program} {ops : Array Oper} {o : Oper} {a : Act} {w w' : World} {K : Act → World → Prop} {Q : Exit → Act → World → Prop} {E : Prop}
    (hg : o.guard = none) (d s : Operand) (t t' : TypeId) (hop : o.op = Op.call { callee := Callee.builtin Builtin.copy, args := #[d, s], argTypes := #[t, t'] })
    (v u v' : Value) (hd : a.eval d = v) (hs : a.eval s = u) (hr : (Builtin.copy_ #[t, t'] o.type #[v, u]).run P w = .ok v' w') (hK : K (a.put o.dst v') w') :
    if Region.wanted o (yielded ops a.tmps) = true then Oper.wp P o a w K Q else E := by
  have hw : Region.wanted o (yielded ops a.tmps) = true := by simp [Region.wanted, hg]
  rw [if_pos hw]
  unfold Oper.wp
  simp [execOp, hop, resolve, invoke, builtin, hd, hs, hr, Result.andThen]
  exact hK
theorem heap_setRow (w : World) (g : Nat) (cur cur' : Array Value) (t : TypeId) (h : w.heap[g]? = some (.cells cur t (0, 0))) : (w.setRow g cur').heap[g]? = some (.cells cur' t (0, 0)) := setRow_heap w g cur cur' t (0, 0) h
theorem mem_take {T : Nat → ByteArray} {l : List Nat} {cur : List Value} {i : Nat} (h : cur.take (l.length * 2) = shC T l) (hi : i ≤ l.length) : cur.take (i * 2) = shC T (l.take i) := by
  rw [← shC_take, ← h, List.take_take, Nat.min_eq_left (by omega)]
theorem mem_get {T : Nat → ByteArray} {l : List Nat} {cur : List Value} (h : cur.take (l.length * 2) = shC T l) (i j : Nat) (v : Value) (hj : (shC T (l.drop i))[j]? = some v) : cur[i * 2 + j]? = some v := by
  rw [← shC_drop, ← h, List.getElem?_drop] at hj
  have hlt := (List.getElem?_eq_some_iff.1 hj).1
  rw [List.length_take] at hlt
  rw [List.getElem?_take_of_lt (by omega)] at hj
  exact hj
set_option maxRecDepth 100000 in
set_option maxHeartbeats 2000000 in
theorem insert_shift (T : Nat → ByteArray) (l : List Nat) (i k base g cap : Nat) (cur : Array Value) (w : World) (vb : Nat) (hb : base ≤ g) (hg : w.heap[g]? = some (.cells cur 149 (0, 0))) (hcap : l.length + 1 ≤ cap) (hmx : cap ≤ maxLen) (hsz : cur.size = cap * 2)
    (htk : cur.toList.take (l.length * 2) = shC T l) (hi : i < l.length) (hl : l.length ≤ 500) (hv : Bx w vb 149 #[.int .i64 k, .string (T k)]) (hne : vb ≠ g) :
    Calls Tryz.prog 403 #[.slice (some ⟨g, 0, none⟩) l.length cap, .int .i64 i, .slice (some ⟨vb, 0, none⟩) 1 1] w fun e w' => ∃ sv', e = .returned sv' ∧ Laid T base (.slice (some ⟨g, 0, none⟩) l.length cap) sv' (l.take i ++ k :: l.drop i) w w' := by
  have hdl : (shC T (l.drop i)).length = (l.length - i) * 2 := by rw [shC_len, List.length_drop]
  obtain ⟨cur1, hc1⟩ : ∃ c : Array Value, c = (cur.toList.take ((i + 1) * 2) ++ shC T (l.drop i) ++ cur.toList.drop ((i + 1) * 2 + (shC T (l.drop i)).length)).toArray := ⟨_, rfl⟩
  obtain ⟨cur2, hc2⟩ : ∃ c : Array Value, c = (cur1.toList.take (i * 2) ++ ([.int .i64 k, .string (T k)] : List Value) ++ cur1.toList.drop (i * 2 + 2)).toArray := ⟨_, rfl⟩
  have hov : ∀ lb cb, (callFunc 405 #[.slice (some ⟨vb, 0, none⟩) 1 1, .slice (some ⟨g, (i + 1) * 2, none⟩) lb cb]).run Tryz.prog w = .ok (.value (.bool false)) w := fun lb cb => by
    rw [run_callFunc_extern Tryz.func405 (by kernel_rfl) (by kernel_rfl) (by kernel_rfl) (e := Extern.SlicesOverlaps.overlaps #[152, 152] #[4]) (by kernel_rfl),
      Lib.run_overlaps_apart w 152 4 149 Tryz.underlying152 2 (fun w => by obtain ⟨i0, h0, -, h2, -⟩ := infoPk2; simp [sizeOf, typeInfo, h0, h2]) ⟨vb, 0, none⟩ ⟨g, (i + 1) * 2, none⟩ 1 1 lb cb hne 149 149 2 (cap * 2)
        (by simp [World.shape?, show w.heap[vb]? = _ from hv]) (by simp [World.shape?, hg, hsz]) (by omega) (hv.free 0) (hv.free 2)]
    rfl
  have hcp1 : ∀ ty dc sc, (Builtin.copy_ #[153, 153] ty #[.slice (some ⟨g, (i + 1) * 2, none⟩) (l.length - i) dc, .slice (some ⟨g, i * 2, none⟩) (l.length + 1 - i) sc]).run Tryz.prog w.drew =   .ok (goInt ((l.length - i : Nat) : Int)) (w.drew.setRow g cur1) := fun ty dc sc => by
    have h1 := run_copy_rowS (P := Tryz.prog) w.drew 153 153 ty 149 2 g ((i + 1) * 2) (l.length - i) dc ⟨g, i * 2, none⟩ (l.length + 1 - i) sc cur 149 (shC T (l.drop i)) Tryz.underlying153 sizePk hg
      (by rw [hdl, show Nat.min (l.length + 1 - i) (l.length - i) = l.length - i from Nat.min_eq_right (by omega)])
      (fun j v hj => by
        rw [show (⟨g, i * 2, none⟩ : Addr).add j = ⟨g, i * 2 + j, none⟩ by unfold Addr.add; split <;> simp_all]
        show w.cell? _ = _
        have := mem_get htk i j v hj
        simp [World.cell?, hg]
        simpa using this) (by rw [hdl, hsz]; omega) (shC_one T _)
    rw [← hc1, show Nat.min (l.length + 1 - i) (l.length - i) = l.length - i from Nat.min_eq_right (by omega)] at h1
    exact h1
  have hz1 : cur1.size = cap * 2 := by
    rw [hc1]
    simp [hsz, hdl]
    omega
  have hg1 : (w.drew.setRow g cur1).heap[g]? = some (.cells cur1 149 (0, 0)) := heap_setRow w.drew g cur cur1 _ hg
  have hv1 : Bx (w.drew.setRow g cur1) vb 149 #[.int .i64 k, .string (T k)] := by
    have e : Edit (· = g) w (w.drew.setRow g cur1) := ⟨rfl, rfl, rfl, by simp, fun q hq hS => by rw [setRow_other w.drew g q cur1 hS]; rfl⟩
    exact hv.edit e hne
  have hcp2 : ∀ ty dc, (Builtin.copy_ #[153, 152] ty #[.slice (some ⟨g, i * 2, none⟩) (l.length + 1 - i) dc, .slice (some ⟨vb, 0, none⟩) 1 1]).run Tryz.prog (w.drew.setRow g cur1) = .ok (goInt 1) ((w.drew.setRow g cur1).setRow g cur2) := fun ty dc => by
    have h1 := run_copy_rowS (P := Tryz.prog) (w.drew.setRow g cur1) 153 152 ty 149 2 g (i * 2) (l.length + 1 - i) dc ⟨vb, 0, none⟩ 1 1 cur1 149 [.int .i64 k, .string (T k)] Tryz.underlying153 sizePk hg1
      (by rw [show Nat.min 1 (l.length + 1 - i) = 1 from Nat.min_eq_left (by omega)]; rfl)
      (fun j v hj => by
        match j, hj with
        | 0, hj => cases hj; exact hv1.cell 0
        | 1, hj => cases hj; exact hv1.cell 1
        | j + 2, hj => cases hj) (by rw [hz1]; simp; omega) (fun u hu => by simp at hu; rcases hu with rfl | rfl <;> rfl)
    rw [show Nat.min 1 (l.length + 1 - i) = 1 from Nat.min_eq_left (by omega)] at h1
    rw [hc2]
    exact h1
  have HL : Hid (Laid T base (.slice (some ⟨g, 0, none⟩) l.length cap) (.slice (some ⟨g, 0, none⟩) (l.length + 1) cap) (l.take i ++ k :: l.drop i) w ((w.drew.setRow g cur1).setRow g cur2)) := by
    have hlen : (l.take i ++ k :: l.drop i).length = l.length + 1 := by simp; omega
    refine ⟨⟨by rw [shC_len, hlen], Or.inr ⟨g, cap, cur2, by rw [hlen], hb, heap_setRow _ g cur1 cur2 _ hg1, by rw [hlen]; exact hcap, hmx, ?_, ?_⟩⟩, ⟨rfl, rfl, rfl, by simp, fun q hq hS => ?_⟩, fun q hq => Or.inl hq⟩
    · rw [hc2]
      simp [hz1]
      omega
    · have e1 : cur1.toList.take (i * 2) = shC T (l.take i) := by
        rw [hc1]
        simp only [List.append_assoc]
        rw [List.take_append_of_le_length (by simp [hsz]; omega), List.take_take, Nat.min_eq_left (by omega)]
        exact mem_take htk (by omega)
      have e2 : cur1.toList.drop (i * 2 + 2) = shC T (l.drop i) ++ cur.toList.drop ((i + 1) * 2 + (shC T (l.drop i)).length) := by
        rw [hc1]
        simp only [List.append_assoc]
        rw [List.drop_append_of_le_length (by simp [hsz]; omega), List.drop_of_length_le (by simp; omega), List.nil_append]
      rw [hc2, e1, e2, hlen]
      rw [show shC T (l.take i ++ k :: l.drop i) = shC T (l.take i) ++ [.int .i64 k, .string (T k)] ++ shC T (l.drop i) by rw [shC_app]; simp [shC]]
      rw [← List.append_assoc, List.take_append_of_le_length (by simp [shC_len]; omega), List.take_of_length_le (by simp [shC_len]; omega)]
    · have : q ≠ g := fun hh => hS (by rw [hh]; rfl)
      rw [setRow_other _ g q cur2 this, setRow_other _ g q cur1 this]
      rfl
  have HOV := Hid.mk' hov
  have HC1 := Hid.mk' hcp1
  have HC2 := Hid.mk' hcp2
  clear hov hcp1 hcp2 hz1 hg1 hv1 hc1 hc2 hdl hv hg htk hsz
  have hw1 : IntKind.i64.wrap ((i : Int) + 1) = ((i + 1 : Nat) : Int) := by rw [IntKind.wrap_i64]; omega
  have hw2 : IntKind.i64.wrap ((l.length : Int) + 1) = ((l.length + 1 : Nat) : Int) := by rw [IntKind.wrap_i64]; omega
  have hq1 : ¬ (cap = i) := by omega
  have hq2 : ¬ (cap = i + 1) := by omega
  have hq3 : ¬ ((i : Int) = (l.length : Int)) := by omega
  have hq5 : (0 : Int) ≤ (i : Int) + 1 := by omega
  have hq6 : i ≤ l.length := by omega
  have hq7 : (i : Int) ≤ (l.length : Int) + 1 := by omega
  have hq4 : l.length + 1 - (i + 1) = l.length - i := by omega
  go_enter Tryz.func403, Tryz.ntmps403
  go_wp2_with (simp only [HOV.out])
  go_region_law (first | (refine stepCopy rfl _ _ 153 153 rfl (.slice (some ⟨g, (i + 1) * 2, none⟩) (l.length - i) (cap - (i + 1))) (.slice (some ⟨g, i * 2, none⟩) (l.length + 1 - i) (cap - i)) _ (by simp [Act.eval, Act.put]) (by simp [Act.eval, Act.put]) (HC1.out _ _ _) ?_))
  all_goals
    go_wp2_with (simp only [HC2.out])
    go_ret
    exact ⟨_, rfl, HL.out⟩
end Go.Proofs.YtlncjgnomhpjnabGreatDoor

/-
  The shelf: a frame is laid between others, where there is no room.
-/
namespace Go.Proofs.YtlncjgnomhpjnabGreatDoor
open Go.RowKit Go.Deep
set_option linter.unusedVariables false
theorem zc_size (z : Array Value) (n : Nat) : (Builtin.zeroCells z n).size = n * z.size := by simp [Builtin.zeroCells]
set_option maxRecDepth 100000 in
set_option maxHeartbeats 2000000 in
theorem insert_grow (T : Nat → ByteArray) (l : List Nat) (i k base g : Nat) (cur : Array Value) (w : World) (vb : Nat) (hb : base ≤ w.heap.size) (hg : w.heap[g]? = some (.cells cur 149 (0, 0))) (hsz : cur.size = l.length * 2)
    (htk : cur.toList.take (l.length * 2) = shC T l) (hi : i < l.length) (hl : l.length ≤ 500) (hv : Bx w vb 149 #[.int .i64 k, .string (T k)]) :
    Calls Tryz.prog 403 #[.slice (some ⟨g, 0, none⟩) l.length l.length, .int .i64 i, .slice (some ⟨vb, 0, none⟩) 1 1] w fun e w' => ∃ sv', e = .returned sv' ∧ Laid T base (.slice (some ⟨g, 0, none⟩) l.length l.length) sv' (l.take i ++ k :: l.drop i) w w' := by
  have hdl : (shC T (l.drop i)).length = (l.length - i) * 2 := by rw [shC_len, List.length_drop]
  obtain ⟨i0, hi0, hz0, hz1, hz2⟩ := infoPk2
  obtain ⟨cp, hcp⟩ : ∃ c, c = grownCap w (l.length + 1) l.length 149 := ⟨_, rfl⟩
  have hcp1 : l.length + 1 ≤ cp := by rw [hcp]; exact grownCap_ge _ _ _ _
  have hcp2 : cp ≤ maxLen := by rw [hcp]; exact grownCap_le_maxLen _ _ _ _ (by simp only [maxLen]; omega)
  obtain ⟨Z, hZ⟩ : ∃ Z : Array Value, Z = #[.int .i64 0, .string ⟨#[]⟩] := ⟨_, rfl⟩
  have hZs : Z.size = 2 := by rw [hZ]; rfl
  obtain ⟨cur1, hc1⟩ : ∃ c : Array Value, c = (shC T (l.take i)).toArray ++ Builtin.zeroCells Z (l.length + 1 - i) ++ Builtin.zeroCells Z (cp - (l.length + 1)) := ⟨_, rfl⟩
  obtain ⟨H, hH⟩ : ∃ H, H = w.heap.size := ⟨_, rfl⟩
  obtain ⟨W1, hW1⟩ : ∃ W, W = w.drew.alloc (.cells cur1 149) := ⟨_, rfl⟩
  have hap : ∀ ty, (Builtin.append_ #[153, 3] ty #[.slice (some ⟨g, 0, none⟩) i l.length, .int .i64 ((l.length : Int) + 1 - (i : Int))]).run Tryz.prog w = .ok (.slice (some ⟨H, 0, none⟩) (l.length + 1) cp) W1 := fun ty => by
    have h1 := run_append_zerosS (P := Tryz.prog) w 153 3 ty 149 i0 (.agg #[.int .i64 0, .string ⟨#[]⟩]) .i64 .i64 Tryz.underlying153 Tryz.underlying3 hi0 hz0 2 hz1 g i l.length (shC T (l.take i)) (by rw [shC_len, List.length_take, Nat.min_eq_left (by omega)])
      (fun j v hj => by
        rw [← mem_take htk (by omega)] at hj
        have hlt := (List.getElem?_eq_some_iff.1 hj).1
        rw [List.length_take] at hlt
        rw [List.getElem?_take_of_lt (by omega)] at hj
        simp [World.cell?, hg]
        simpa using hj) (l.length + 1 - i) (by omega) (by omega) (by omega) (by omega) (by omega)
    rw [show i + (l.length + 1 - i) = l.length + 1 by omega, ← hcp, show (Value.agg #[.int .i64 0, .string ⟨#[]⟩]).cells = Z by rw [hZ]; rfl, ← hc1, ← hW1, ← hH] at h1
    rw [show (l.length : Int) + 1 - (i : Int) = ((l.length + 1 - i : Nat) : Int) by omega]
    exact h1
  have hg1 : W1.heap[H]? = some (.cells cur1 149 (0, 0)) := by rw [hW1, hH]; exact (Bx.new w.drew cur1 149)
  have hz3 : cur1.size = cp * 2 := by rw [hc1]; simp [zc_size, hZs, shC_len]; omega
  have ht1 : cur1.toList.take (i * 2) = shC T (l.take i) := by
    rw [hc1]
    simp only [Array.toList_append, List.append_assoc]
    rw [List.take_append_of_le_length (by simp [shC_len]; omega), List.take_of_length_le (by simp [shC_len]; omega)]
  have e1 : Edit (fun _ => False) w W1 := by rw [hW1]; exact ((Edit.refl _ w).drewN 1).alloc _
  have hv1 : Bx W1 vb 149 #[.int .i64 k, .string (T k)] := hv.edit e1 id
  have hgl : g < w.heap.size := (Array.getElem?_eq_some_iff.1 hg).1
  have hvl : vb < w.heap.size := hv.lt
  obtain ⟨cur2, hc2⟩ : ∃ c : Array Value, c = (cur1.toList.take (i * 2) ++ ([.int .i64 k, .string (T k)] : List Value) ++ cur1.toList.drop (i * 2 + 2)).toArray := ⟨_, rfl⟩
  have hcpA : ∀ ty dc, (Builtin.copy_ #[153, 152] ty #[.slice (some ⟨H, i * 2, none⟩) (l.length + 1 - i) dc, .slice (some ⟨vb, 0, none⟩) 1 1]).run Tryz.prog W1 = .ok (goInt 1) (W1.setRow H cur2) := fun ty dc => by
    have h1 := run_copy_rowS (P := Tryz.prog) W1 153 152 ty 149 2 H (i * 2) (l.length + 1 - i) dc ⟨vb, 0, none⟩ 1 1 cur1 149 [.int .i64 k, .string (T k)] Tryz.underlying153 sizePk hg1
      (by rw [show Nat.min 1 (l.length + 1 - i) = 1 from Nat.min_eq_left (by omega)]; rfl)
      (fun j v hj => by
        match j, hj with
        | 0, hj => cases hj; exact hv1.cell 0
        | 1, hj => cases hj; exact hv1.cell 1
        | j + 2, hj => cases hj) (by rw [hz3]; simp; omega) (fun u hu => by simp at hu; rcases hu with rfl | rfl <;> rfl)
    rw [show Nat.min 1 (l.length + 1 - i) = 1 from Nat.min_eq_left (by omega)] at h1
    rw [hc2]
    exact h1
  have hz4 : cur2.size = cp * 2 := by rw [hc2]; simp [hz3]; omega
  have hg2 : (W1.setRow H cur2).heap[H]? = some (.cells cur2 149 (0, 0)) := heap_setRow W1 H cur1 cur2 _ hg1
  have hg3 : (W1.setRow H cur2).heap[g]? = some (.cells cur 149 (0, 0)) := by rw [setRow_other _ _ _ _ (by omega), e1.block g hgl id]; exact hg
  obtain ⟨cur3, hc3⟩ : ∃ c : Array Value, c = (cur2.toList.take ((i + 1) * 2) ++ shC T (l.drop i) ++ cur2.toList.drop ((i + 1) * 2 + (shC T (l.drop i)).length)).toArray := ⟨_, rfl⟩
  have hcpB : ∀ ty dc sc, (Builtin.copy_ #[153, 153] ty #[.slice (some ⟨H, (i + 1) * 2, none⟩) (l.length - i) dc, .slice (some ⟨g, i * 2, none⟩) (l.length - i) sc]).run Tryz.prog (W1.setRow H cur2).drew = .ok (goInt ((l.length - i : Nat) : Int)) ((W1.setRow H cur2).drew.setRow H cur3) := fun ty dc sc => by
    have h1 := run_copy_rowS (P := Tryz.prog) (W1.setRow H cur2).drew 153 153 ty 149 2 H ((i + 1) * 2) (l.length - i) dc ⟨g, i * 2, none⟩ (l.length - i) sc cur2 149 (shC T (l.drop i)) Tryz.underlying153 sizePk hg2
      (by rw [hdl, show Nat.min (l.length - i) (l.length - i) = l.length - i from Nat.min_self _])
      (fun j v hj => by
        rw [show (⟨g, i * 2, none⟩ : Addr).add j = ⟨g, i * 2 + j, none⟩ by unfold Addr.add; split <;> simp_all]
        show (W1.setRow H cur2).cell? _ = _
        have := mem_get htk i j v hj
        simp [World.cell?, hg3]
        simpa using this) (by rw [hdl, hz4]; omega) (shC_one T _)
    rw [← hc3, show Nat.min (l.length - i) (l.length - i) = l.length - i from Nat.min_self _] at h1
    exact h1
  have HL : Hid (Laid T base (.slice (some ⟨g, 0, none⟩) l.length l.length) (.slice (some ⟨H, 0, none⟩) (l.length + 1) cp) (l.take i ++ k :: l.drop i) w ((W1.setRow H cur2).drew.setRow H cur3)) := by
    have hlen : (l.take i ++ k :: l.drop i).length = l.length + 1 := by simp; omega
    refine ⟨⟨by rw [shC_len, hlen], Or.inr ⟨H, cp, cur3, by rw [hlen], by omega, heap_setRow _ H cur2 cur3 _ hg2, by rw [hlen]; exact hcp1, hcp2, ?_, ?_⟩⟩, ⟨?_, ?_, ?_, by simpa using e1.size, fun q hq hS => ?_⟩, fun q hq => Or.inr (by cases hq; exact Nat.le_of_eq hH.symm)⟩
    · rw [hc3]
      simp [hz4, hdl]
      omega
    · have e3 : cur2.toList.take ((i + 1) * 2) = shC T (l.take i) ++ [.int .i64 k, .string (T k)] := by
        rw [hc2, ht1]
        rw [List.take_append_of_le_length (by simp [shC_len]; omega), List.take_of_length_le (by simp [shC_len]; omega)]
      rw [hc3, e3, hlen]
      rw [show shC T (l.take i ++ k :: l.drop i) = shC T (l.take i) ++ [.int .i64 k, .string (T k)] ++ shC T (l.drop i) by rw [shC_app]; simp [shC]]
      rw [List.take_append_of_le_length (by simp [shC_len]; omega), List.take_of_length_le (by simp [shC_len]; omega)]
    · exact e1.os
    · exact e1.tape
    · exact e1.output
    · rw [setRow_other _ H q cur3 (by omega)]
      show (W1.setRow H cur2).heap[q]? = _
      rw [setRow_other _ H q cur2 (by omega)]
      exact e1.block q hq id
  have HAP := Hid.mk' hap
  have HC1 := Hid.mk' hcpA
  have HC2 := Hid.mk' hcpB
  clear hap hcpA hcpB hz0 hz1 hz2 hz3 hz4 hg1 hg2 hg3 hv1 hc1 hc2 hc3 hdl hv hg htk hsz hcp hcp2 hZ hZs hH hW1 ht1 e1 hgl hvl hi0
  have hw1 : IntKind.i64.wrap ((i : Int) + 1) = ((i + 1 : Nat) : Int) := by rw [IntKind.wrap_i64]; omega
  have hq1 : ¬ (cp = i) := by omega
  have hq2 : ¬ (cp = i + 1) := by omega
  have hq8 : ¬ (l.length = i) := by omega
  have hq3 : ¬ ((i : Int) = (l.length : Int)) := by omega
  have hq4 : l.length + 1 - (i + 1) = l.length - i := by omega
  have hq5 : (0 : Int) ≤ (i : Int) + 1 := by omega
  have hq6 : i ≤ l.length := by omega
  have hq7 : (i : Int) ≤ (l.length : Int) + 1 := by omega
  go_enter Tryz.func403, Tryz.ntmps403
  go_wp2_with (first | (at_builtin; refine Lib.wpList_append_run w rfl (.tmp 34) (.tmp 39) 153 3 rfl _ _ rfl rfl (.slice (some ⟨H, 0, none⟩) (l.length + 1) cp) W1 (HAP.out _) ?_) | simp only [HC1.out])
  go_region_law (first | (refine stepCopy rfl _ _ 153 153 rfl (.slice (some ⟨H, (i + 1) * 2, none⟩) (l.length - i) (cp - (i + 1))) (.slice (some ⟨g, i * 2, none⟩) (l.length - i) (l.length - i)) _ (by simp [Act.eval, Act.put]) (by simp [Act.eval, Act.put]) (HC2.out _ _ _) ?_))
  all_goals
    go_wp2
    go_ret
    exact ⟨_, rfl, HL.out⟩
end Go.Proofs.YtlncjgnomhpjnabGreatDoor

/-
  The shelf: the first frame is taken off.
-/
namespace Go.Proofs.YtlncjgnomhpjnabGreatDoor
open Go.RowKit Go.Deep
set_option linter.unusedVariables false
theorem insert_any (T : Nat → ByteArray) (l : List Nat) (i k base : Nat) (sv : Value) (w : World) (vb : Nat) (hsv : w.ownsRow base 149 2 sv l.length (shC T l)) (hbase : base ≤ w.heap.size) (hi : i ≤ l.length) (hl : l.length ≤ 500) (hv : Bx w vb 149 #[.int .i64 k, .string (T k)]) (hne : sv.ownBlock ≠ some vb) :
    Calls Tryz.prog 403 #[sv, .int .i64 i, .slice (some ⟨vb, 0, none⟩) 1 1] w fun e w' => ∃ sv', e = .returned sv' ∧ Laid T base sv sv' (l.take i ++ k :: l.drop i) w w' := by
  by_cases e : i = l.length
  · subst e
    rw [List.take_length, List.drop_length]
    exact insert_end T l k base sv w vb hsv hbase hl hv
  · rcases hsv.2 with ⟨-, h0⟩ | ⟨g, cap, cur, rfl, h1, h2, h3, h4, h5, h6⟩
    · omega
    · by_cases hc : l.length + 1 ≤ cap
      · exact insert_shift T l i k base g cap cur w vb h1 h2 hc h4 h5 h6 (by omega) hl hv fun hh => hne (by rw [hh]; rfl)
      · have e2 : cap = l.length := by omega
        subst e2
        exact insert_grow T l i k base g cur w vb hbase h2 h5 h6 (by omega) hl hv
theorem zeroPk (w : World) : (zeroValue 149).run Tryz.prog w = .ok (.agg #[.int .i64 0, .string ⟨#[]⟩]) w := by
  obtain ⟨i0, h0, h1, -, -⟩ := infoPk2
  simp [zeroValue, typeInfo, h0, h1]
theorem stepAppend {P : Program} {ops : Array Oper} {o : Oper} {a : Act} {w w' : World} {K : Act → World → Prop} {Q : Exit → Act → World → Prop} {E : Prop}
    (hg : o.guard = none) (s x : Operand) (t : TypeId) (hop : o.op = Op.call { callee := Callee.builtin Builtin.append, args := #[s, x], argTypes := #[t, t] })
    (v b v' : Value) (hs : a.eval s = v) (hx : a.eval x = b) (hrun : (Builtin.append_ #[t, t] o.type #[v, b]).run P w = .ok v' w') (hK : K (a.put o.dst v') w') :
    if Region.wanted o (yielded ops a.tmps) = true then Oper.wp P o a w K Q else E := by
  have hw : Region.wanted o (yielded ops a.tmps) = true := by simp [Region.wanted, hg]
  rw [if_pos hw]
  unfold Oper.wp
  simp [execOp, hop, resolve, invoke, builtin, hs, hx, hrun, Result.andThen]
  exact hK
set_option maxRecDepth 100000 in
set_option maxHeartbeats 2000000 in
theorem delete_any (T : Nat → ByteArray) (k : Nat) (r : List Nat) (base g cap : Nat) (cur : Array Value) (w : World) (hb : base ≤ g) (hg : w.heap[g]? = some (.cells cur 149 (0, 0))) (hcap : r.length + 1 ≤ cap) (hmx : cap ≤ maxLen) (hsz : cur.size = cap * 2)
    (htk : cur.toList.take ((k :: r).length * 2) = shC T (k :: r)) (hl : r.length ≤ 500) :
    Calls Tryz.prog 398 #[.slice (some ⟨g, 0, none⟩) ((r.length + 1 : Nat)) cap, .int .i64 0, .int .i64 1] w fun e w' => e = .returned (.slice (some ⟨g, 0, none⟩) r.length cap) ∧ Laid T base (.slice (some ⟨g, 0, none⟩) (r.length + 1) cap) (.slice (some ⟨g, 0, none⟩) r.length cap) r w w' := by
  have hdl := shC_len T r
  obtain ⟨i0, hi0, hz0, hz1, hz2⟩ := infoPk2
  obtain ⟨cur1, hc1⟩ : ∃ c : Array Value, c = (cur.toList.take (0 * 2) ++ shC T r ++ cur.toList.drop (0 * 2 + (shC T r).length)).toArray := ⟨_, rfl⟩
  have hap : ∀ ty o c, (o = 2 ∨ r = []) → (Builtin.append_ #[153, 153] ty #[.slice (some ⟨g, 0, none⟩) 0 cap, .slice (some ⟨g, o, none⟩) r.length c]).run Tryz.prog w.drew = .ok (.slice (some ⟨g, 0, none⟩) r.length cap) (w.drew.setRow g cur1) := fun ty o c ho => by
    have h1 := run_append_roomS (P := Tryz.prog) w.drew 153 ty 149 i0 Tryz.underlying153 hi0 2 hz1 g 0 cap cur hg ⟨g, o, none⟩ r.length c (shC T r) hdl
      (fun j v hj => by
        rcases ho with rfl | rfl
        · rw [show (⟨g, 2, none⟩ : Addr).add j = ⟨g, 1 * 2 + j, none⟩ by unfold Addr.add; split <;> simp_all]
          show w.cell? _ = _
          have := mem_get (l := k :: r) htk 1 j v hj
          simp [World.cell?, hg]
          simpa using this
        · cases hj) (shC_one T _) (by omega) (by rw [hdl, hsz]; omega)
    rw [← hc1, Nat.zero_add] at h1
    exact h1
  have hz3 : cur1.size = cap * 2 := by rw [hc1]; simp [hsz, hdl]; omega
  have hg1 : (w.drew.setRow g cur1).heap[g]? = some (.cells cur1 149 (0, 0)) := heap_setRow w.drew g cur cur1 _ hg
  have hZ : (Builtin.zeroCells (Value.agg #[.int .i64 0, .string ⟨#[]⟩]).cells 1).toList = [.int .i64 0, .string ⟨#[]⟩] := by first | kernel_rfl | simp [Builtin.zeroCells, Value.cells]
  obtain ⟨cur2, hc2⟩ : ∃ c : Array Value, c = (cur1.toList.take (r.length * 2) ++ ([.int .i64 0, .string ⟨#[]⟩] : List Value) ++ cur1.toList.drop (r.length * 2 + 2)).toArray := ⟨_, rfl⟩
  have hcl : ∀ ty c, (Builtin.clear_ #[153] ty #[.slice (some ⟨g, r.length * 2, none⟩) 1 c]).run Tryz.prog (w.drew.setRow g cur1) = .ok (.tuple #[]) ((w.drew.setRow g cur1).setRow g cur2) := fun ty c => by
    have h1 := run_clear_rowS (P := Tryz.prog) (w.drew.setRow g cur1) 153 149 ty (.agg #[.int .i64 0, .string ⟨#[]⟩]) 1 Tryz.underlying153 zeroPk (by rw [hZ]; intro u hu; simp at hu; rcases hu with rfl | rfl <;> rfl) g (r.length * 2) c cur1 (by omega) hg1 (by rw [hZ, hz3]; simp; omega)
    rw [hZ] at h1
    rw [hc2]
    exact h1
  have HL : Hid (Laid T base (.slice (some ⟨g, 0, none⟩) (r.length + 1) cap) (.slice (some ⟨g, 0, none⟩) r.length cap) r w ((w.drew.setRow g cur1).setRow g cur2)) := by
    refine ⟨⟨hdl, Or.inr ⟨g, cap, cur2, rfl, hb, heap_setRow _ g cur1 cur2 _ hg1, by omega, hmx, ?_, ?_⟩⟩, ⟨rfl, rfl, rfl, by simp, fun q hq hS => ?_⟩, fun q hq => Or.inl hq⟩
    · rw [hc2]
      simp [hz3]
      omega
    · have e1 : cur1.toList.take (r.length * 2) = shC T r := by
        rw [hc1]
        simp only [List.append_assoc]
        simp [hdl]
      rw [hc2, e1, List.append_assoc, List.take_append_of_le_length (by rw [hdl]; exact Nat.le_refl _), List.take_of_length_le (by rw [hdl]; exact Nat.le_refl _)]
    · have : q ≠ g := fun hh => hS (by rw [hh]; rfl)
      rw [setRow_other _ g q cur2 this, setRow_other _ g q cur1 this]
      rfl
  have HAP := Hid.mk' hap
  have HCL := Hid.mk' hcl
  clear hap hcl hz0 hz1 hz2 hz3 hg1 hc1 hc2 hdl hg htk hsz hZ hi0
  by_cases hc : cap = 1
  · have hr0 : r = [] := by cases r with | nil => rfl | cons a b => simp at hcap; omega
    subst hc hr0
    have HAP1 : Hid ((Builtin.append_ #[153, 153] 153 #[.slice (some ⟨g, 0, none⟩) 0 1, .slice (some ⟨g, 0, none⟩) 0 0]).run Tryz.prog w.drew = .ok (.slice (some ⟨g, 0, none⟩) 0 1) (w.drew.setRow g cur1)) := HAP.out 153 0 0 (Or.inr rfl)
    have HCL1 : Hid (∀ ty c, (Builtin.clear_ #[153] ty #[.slice (some ⟨g, 0, none⟩) 1 c]).run Tryz.prog (w.drew.setRow g cur1) = .ok (.tuple #[]) ((w.drew.setRow g cur1).setRow g cur2)) := fun ty c => HCL.out ty c
    clear HAP HCL
    go_enter Tryz.func398, Tryz.ntmps398
    go_wp2
    go_region_law (first | (refine stepAppend rfl _ _ 153 rfl (.slice (some ⟨g, 0, none⟩) 0 1) (.slice (some ⟨g, 0, none⟩) 0 0) _ (by simp [Act.eval, Act.put]) (by simp [Act.eval, Act.put]) HAP1.out ?_))
    all_goals
      go_wp2_with (simp only [HCL1.out])
      go_ret
      exact ⟨rfl, HL.out⟩
  · have hq1 : (1 : Int) ≤ (r.length : Int) + 1 := by omega
    have hq2 : ¬ (cap = r.length) := by omega
    go_enter Tryz.func398, Tryz.ntmps398
    go_wp2
    go_region_law (first | (refine stepAppend rfl _ _ 153 rfl (.slice (some ⟨g, 0, none⟩) 0 cap) (.slice (some ⟨g, 2, none⟩) r.length (cap - 1)) _ (by simp [Act.eval, Act.put]) (by simp [Act.eval, Act.put]) (HAP.out _ 2 _ (Or.inl rfl)) ?_))
    all_goals
      go_wp2_with (simp only [HCL.out])
      go_ret
      exact ⟨rfl, HL.out⟩
end Go.Proofs.YtlncjgnomhpjnabGreatDoor

