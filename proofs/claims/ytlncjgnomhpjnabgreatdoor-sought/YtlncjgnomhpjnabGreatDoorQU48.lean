import Derived.Test.YtlncjgnomhpjnabGreatDoorQU46
import Derived.Test.YtlncjgnomhpjnabGreatDoorQU12
import Derived.BigQuiet
import Derived.Deep.QuietTactic
/-
  A head that is made of what was read, as a text.
-/
namespace Go.Proofs.YtlncjgnomhpjnabGreatDoor
open Go.RowKit Go.Deep
set_option linter.unusedVariables false
theorem pnt_mem {ln : Nat → Nat} {seek : Nat} : ∀ (k p : Nat), p ∈ pntN ln seek k → ∃ i, i < k ∧ p = atN ln i
  | 0, p, h => by simp [pntN] at h
  | k + 1, p, h => by
    unfold pntN at h
    split at h
    · rcases List.mem_append.1 h with h1 | h1
      · obtain ⟨i, hi, e⟩ := pnt_mem k p h1
        exact ⟨i, by omega, e⟩
      · simp at h1
        exact ⟨k, by omega, h1⟩
    · obtain ⟨i, hi, e⟩ := pnt_mem k p h
      exact ⟨i, by omega, e⟩
end Go.Proofs.YtlncjgnomhpjnabGreatDoor

/-
  A frame that was made is read as its samples.
-/
namespace Go.Proofs.YtlncjgnomhpjnabGreatDoor
open Go.RowKit Go.Deep
set_option linter.unusedVariables false
/-- a subframe anywhere is read as its samples -/
theorem sub_at {b : Nat → Bool} {N o width n : Nat} {l : Nat → Int} (hn1 : 1 ≤ n) (hw1 : 1 ≤ width) (hw : width ≤ 13) (hfit : ∀ j, j < n → fitsB width (l j) = true) (hT : SaysT b o (subT width l n)) (hL : o + (subT width l n).length ≤ N) :
    ∃ x, readAt b N o width n = some (x, o + (subT width l n).length) ∧ ∀ j, j < n → x j = l j := by
  obtain ⟨r, h1, h2, h3⟩ := sub_back (b := shB b o) (N := N - o) hn1 hw1 hw hfit (fun i hi => by
    have := hT i hi
    rw [this]
    unfold shB
    rw [Nat.zero_add]) (by omega)
  refine ⟨r.1, ?_, h3⟩
  rw [readAt_sh (by omega), h1, ← h2]
  rfl
/-- subframes one behind the other -/
def catS (d n m N : Nat) (l : Nat → Nat → Int) : Nat → List UInt8
  | 0 => []
  | i + 1 => catS d n m N l i ++ subT (widN d n m i) (l i) N
theorem subs_back {b : Nat → Bool} {M d n m N : Nat} {l : Nat → Nat → Int} (hN : 1 ≤ N) (hd1 : 1 ≤ d) (hd : d ≤ 12) : ∀ i, (∀ k, k < i → ∀ j, j < N → fitsB (widN d n m k) (l k j) = true) → SaysT b 0 (catS d n m N l i) → (catS d n m N l i).length ≤ M →
    ∃ G, subsAt b M d n m N i = some (G, (catS d n m N l i).length) ∧ ∀ k, k < i → ∀ j, j < N → G k j = l k j
  | 0, _, _, _ => ⟨_, rfl, fun k hk => absurd hk (Nat.not_lt_zero k)⟩
  | i + 1, hf, hT, hM => by
    have hM' : (catS d n m N l i).length + (subT (widN d n m i) (l i) N).length ≤ M := by
      have : (catS d n m N l (i + 1)).length = (catS d n m N l i).length + (subT (widN d n m i) (l i) N).length := List.length_append
      omega
    obtain ⟨G, h1, h2⟩ := subs_back (b := b) (M := M) (n := n) (m := m) (l := l) hN hd1 hd i (fun k hk => hf k (by omega)) hT.left (by omega)
    have hw := widN_bd (n := n) (m := m) (i := i) hd1 hd
    have hR : SaysT b (catS d n m N l i).length (subT (widN d n m i) (l i) N) := by
      have := SaysT.right (T := catS d n m N l i) hT
      rwa [Nat.zero_add] at this
    obtain ⟨x, h3, h4⟩ := sub_at hN hw.1 hw.2 (hf i (by omega)) hR hM'
    refine ⟨upd2 G i x, ?_, fun k hk j hj => ?_⟩
    · unfold subsAt
      rw [h1]
      show Option.map _ (readAt b M (catS d n m N l i).length (widN d n m i) N) = _
      rw [h3]
      have e : (catS d n m N l (i + 1)).length = (catS d n m N l i).length + (subT (widN d n m i) (l i) N).length := List.length_append
      rw [e]
      rfl
    · unfold upd2
      by_cases e : k = i
      · rw [if_pos e, e]; exact h4 j hj
      · rw [if_neg e]; exact h2 k (by omega) j hj
/-- what the subframes of a block tell -/
def toldL (n m : Nat) (F : Nat → Nat → Int) (i : Nat) : Nat → Int := if n = 2 then (if i = 0 then l1 (F 0) (F 1) m else l2 (F 0) (F 1) m) else F i
theorem allT_cat {d n m N : Nat} {F : Nat → Nat → Int} (hn : n ≠ 2) : ∀ i, catS d n m N (toldL n m F) i = allT d F N i
  | 0 => rfl
  | i + 1 => by
    show catS d n m N (toldL n m F) i ++ _ = allT d F N i ++ _
    rw [allT_cat hn i]
    unfold widN toldL
    rw [if_neg hn, if_neg hn]
theorem blockT_cat (d n : Nat) (F : Nat → Nat → Int) (N : Nat) : blockT d n F N = catS d n (modeN d n F N) N (toldL n (modeN d n F N) F) n := by
  unfold blockT
  by_cases h : n = 2
  · rw [if_pos h, pairT_eq _ _ _ _ _ (modeN_lt d n F N)]
    generalize modeN d n F N = m
    subst h
    rfl
  · rw [if_neg h, allT_cat h]
theorem told_fits {d n m N : Nat} {F : Nat → Nat → Int} (hd1 : 1 ≤ d) (hm : m < 4) (hn : n ≤ 4) (hF : ∀ i, i < n → ∀ j, j < N → fitsB d (F i j) = true) : ∀ i, i < n → ∀ j, j < N → fitsB (widN d n m i) (toldL n m F i j) = true := fun i hi j hj => by
  unfold widN toldL
  by_cases h : n = 2
  · subst h
    have f0 := hF 0 (by omega) j hj
    have f1 := hF 1 (by omega) j hj
    have fs := side_fits hd1 f0 f1
    have fm := mid_fits f0 f1
    rw [if_pos rfl, if_pos rfl]
    by_cases e : i = 0
    · rw [if_pos e, if_pos e]
      match m, hm with
      | 0, _ => exact f0
      | 1, _ => exact f0
      | 2, _ => exact fs
      | 3, _ => exact fm
    · rw [if_neg e, if_neg e]
      match m, hm with
      | 0, _ => exact f1
      | 1, _ => exact fs
      | 2, _ => exact f1
      | 3, _ => exact fs
  · rw [if_neg h, if_neg h]
    exact hF i hi j hj
/-- and they tell the samples -/
theorem un_told {n m : Nat} {F G : Nat → Nat → Int} {i j : Nat} (hm : m < 4) (hi : i < n) (hG : ∀ k, k < n → G k j = toldL n m F k j) : unG n m G i j = F i j := by
  unfold unG
  by_cases h : n = 2
  · subst h
    have e0 := hG 0 (by omega)
    have e1 := hG 1 (by omega)
    unfold toldL at e0 e1
    rw [if_pos rfl, if_pos rfl] at e0
    rw [if_pos rfl, if_neg (by omega)] at e1
    have hii : i = 0 ∨ i = 1 := by omega
    rw [if_pos rfl, e0, e1]
    match m, hm with
    | 0, _ => rcases hii with rfl | rfl <;> rfl
    | 1, _ =>
      rcases hii with rfl | rfl
      · rfl
      · show F 0 j - (F 0 j - F 1 j) = _; omega
    | 2, _ =>
      rcases hii with rfl | rfl
      · show F 0 j - F 1 j + F 1 j = _; omega
      · rfl
    | 3, _ =>
      rcases hii with rfl | rfl
      · show (F 0 j + F 1 j) / 2 + (F 0 j - F 1 j + 1) / 2 = _; omega
      · show (F 0 j + F 1 j) / 2 + (F 0 j - F 1 j + 1) / 2 - (F 0 j - F 1 j) = _; omega
  · rw [if_neg h]
    have := hG i hi
    unfold toldL at this
    rwa [if_neg h] at this
/-- the bits of a packed text -/
theorem msgBit_pack (t : List UInt8) (j : Nat) : msgBit (packT t) j = (decide (j < t.length) && tbit t j) := by
  unfold msgBit
  have hdm : 8 * (j / 8) + j % 8 = j := by omega
  by_cases h : j / 8 < (t.length + 7) / 8
  · have e : (packT t).getD (j / 8) 0 = pkB t (j / 8) := by
      unfold packT
      rw [List.getD_eq_getElem?_getD, List.getElem?_map, List.getElem?_range h]
      rfl
    rw [e, pkB_nat, pkN_bit]
    have e2 : 8 * (j / 8) + (7 - (7 - j % 8)) = j := by omega
    rw [e2, decide_eq_true (show 7 - j % 8 < 8 by omega), Bool.true_and]
  · have e : (packT t).getD (j / 8) 0 = 0 := by
      rw [List.getD_eq_getElem?_getD, List.getElem?_eq_none (by rw [packT_length]; omega)]
      rfl
    rw [e, decide_eq_false (show ¬ j < t.length by omega)]
    simp
theorem says_pack {t : List UInt8} (h : AllB t) : SaysT (msgBit (packT t)) 0 t := fun i hi => by
  rw [Nat.zero_add, msgBit_pack, decide_eq_true hi, Bool.true_and]
  exact tbit_get h i hi
/-- the inside of a frame that was made -/
theorem ins_back {d n N : Nat} {F : Nat → Nat → Int} (hN : 1 ≤ N) (hd1 : 1 ≤ d) (hd : d ≤ 12) (hn : n ≤ 4) (hF : ∀ i, i < n → ∀ j, j < N → fitsB d (F i j) = true) :
    ∃ H, InsP (spellTo (packT (blockT d n F N)) (packT (blockT d n F N)).length) (msgBit (packT (blockT d n F N))) d n (modeN d n F N) N H ∧ ∀ i, i < n → ∀ j, j < N → H i j = F i j := by
  have hm := modeN_lt d n F N
  have hbt := blockT_cat d n F N
  have hsl : (spellTo (packT (blockT d n F N)) (packT (blockT d n F N)).length).length = 8 * (((blockT d n F N).length + 7) / 8) := by
    unfold spellTo
    rw [List.length_map, List.length_range, packT_length]
  have hsays : SaysT (msgBit (packT (blockT d n F N))) 0 (blockT d n F N) := says_pack (blockT_bits d n F N)
  obtain ⟨G, h1, h2⟩ := subs_back (b := msgBit (packT (blockT d n F N))) (M := 8 * (((blockT d n F N).length + 7) / 8)) (m := modeN d n F N) (l := toldL n (modeN d n F N) F) hN hd1 hd n (told_fits hd1 hm hn hF) (by rw [← hbt]; exact hsays) (by rw [← hbt]; omega)
  rw [← hbt] at h1
  refine ⟨unG n (modeN d n F N) G, ⟨G, (blockT d n F N).length, by rw [hsl]; exact h1, ⟨?_, fun j hj => ?_⟩, fun h => ?_, rfl⟩, fun i hi j hj => un_told hm hi (fun k hk => h2 k hk j hj)⟩
  · rw [List.length_drop, hsl]; omega
  · have hj2 : (blockT d n F N).length + j < 8 * (packT (blockT d n F N)).length := by
      rw [List.length_drop, hsl] at hj
      rw [packT_length]; omega
    rw [List.getD_eq_getElem?_getD, List.getElem?_drop]
    unfold spellTo
    rw [List.getElem?_map, List.getElem?_range hj2]
    show ltr (msgBit _ _) = 48
    rw [msgBit_pack, decide_eq_false (by omega)]
    rfl
  · subst h
    intro j hj
    have e0 := un_told (F := F) (i := 0) (j := j) hm (by omega) (fun k hk => h2 k hk j hj)
    have e1 := un_told (F := F) (i := 1) (j := j) hm (by omega) (fun k hk => h2 k hk j hj)
    unfold unG at e0 e1
    rw [if_pos rfl, if_pos rfl] at e0
    rw [if_pos rfl, if_neg (by omega)] at e1
    rw [e0, e1]
    exact ⟨hF 0 (by omega) j hj, hF 1 (by omega) j hj⟩
/-- the pieces of a frame's head -/
theorem headT_pieces (number len n mode : Nat) (R : List UInt8) (h1 : number < 65536) (h2 : len < 65536) (h3 : n - 1 < 256) (h4 : mode < 256) :
    hNum (headT number len n mode ++ R) = number ∧ hLen (headT number len n mode ++ R) = len ∧ hCnt (headT number len n mode ++ R) = n - 1 ∧ hMode (headT number len n mode ++ R) = mode := by
  have hl := headT_length number len n mode
  unfold hNum hLen hCnt hMode
  rw [piece_left _ _ 1 3 (by omega) (by omega), piece_left _ _ 3 5 (by omega) (by omega), piece_left _ _ 5 6 (by omega) (by omega), piece_left _ _ 6 7 (by omega) (by omega)]
  unfold headT
  refine ⟨?_, ?_, ?_, ?_⟩
  · rw [piece_left _ _ 1 3 (by omega) (by simp [inT_length]), piece_left _ _ 1 3 (by omega) (by simp [inT_length]), piece_left _ _ 1 3 (by omega) (by simp [inT_length]), piece_right _ _ 1 3 (by simp [inT_length]), inT_length, piece_whole _ _ (by rw [inT_length]), valN_inT 2 _ (by omega)]
  · rw [piece_left _ _ 3 5 (by omega) (by simp [inT_length]), piece_left _ _ 3 5 (by omega) (by simp [inT_length]), piece_right _ _ 3 5 (by simp [inT_length]), List.length_append, inT_length, inT_length, piece_whole _ _ (by rw [inT_length]), valN_inT 2 _ (by omega)]
  · rw [piece_left _ _ 5 6 (by omega) (by simp [inT_length]), piece_right _ _ 5 6 (by simp [inT_length]), List.length_append, List.length_append, inT_length, inT_length, inT_length, piece_whole _ _ (by rw [inT_length]), valN_inT 1 _ (by omega)]
  · rw [piece_right _ _ 6 7 (by simp [inT_length]), List.length_append, List.length_append, List.length_append, inT_length, inT_length, inT_length, inT_length, piece_whole _ _ (by rw [inT_length]), valN_inT 1 _ (by omega)]
/-- a frame that was made, whatever stands behind it -/
theorem frame_back {d n N B number : Nat} {F : Nat → Nat → Int} (R : List UInt8) (hN : 1 ≤ N) (hNB : N ≤ B) (hB : B ≤ 32) (hd1 : 1 ≤ d) (hd : d ≤ 12) (hn1 : 1 ≤ n) (hn : n ≤ 4) (hnum : number < 65536) (hF : ∀ i, i < n → ∀ j, j < N → fitsB d (F i j) = true) :
    ∃ H, FrmP (frameT number N (modeN d n F N) (blockT d n F N) ++ R) n d B number H ∧ hCnt (frameT number N (modeN d n F N) (blockT d n F N) ++ R) + 1 = N ∧ hLen (frameT number N (modeN d n F N) (blockT d n F N) ++ R) = (frameT number N (modeN d n F N) (blockT d n F N)).length ∧ ∀ i, i < n → ∀ j, j < N → H i j = F i j := by
  have hm := modeN_lt d n F N
  have hbd := blockT_bd d n F N hN (by omega) hd hn1 hn
  obtain ⟨H, hI, hH⟩ := ins_back hN hd1 hd hn hF
  have hm2 : (modeN d n F N : Int) < modesN n := by
    unfold modesN
    by_cases h : n = 2
    · rw [if_pos (by omega)]; omega
    · rw [if_neg (by omega)]
      unfold modeN
      rw [if_neg h]
      decide
  have hpl := packT_length (blockT d n F N)
  have hfl := frameT_length number N (modeN d n F N) (blockT d n F N)
  generalize modeN d n F N = m at *
  generalize blockT d n F N = bits at *
  generalize hP : packT bits = P at *
  have hhl := headT_length number (P.length + 10) N m
  have hT : frameT number N m bits ++ R = headT number (P.length + 10) N m ++ (inT (crc 8 263 (headT number (P.length + 10) N m)) 1 ++ (P ++ (inT (crc 16 98309 (seal8 (headT number (P.length + 10) N m) ++ P)) 2 ++ R))) := by
    unfold frameT
    rw [hP]
    unfold seal16
    rw [List.append_assoc, List.append_assoc]
    unfold seal8
    rw [List.append_assoc]
  obtain ⟨p1, p2, p3, p4⟩ := headT_pieces number (P.length + 10) N m (inT (crc 8 263 (headT number (P.length + 10) N m)) 1 ++ (P ++ (inT (crc 16 98309 (seal8 (headT number (P.length + 10) N m) ++ P)) 2 ++ R))) hnum (by omega) (by omega) (by omega)
  rw [← hT] at p1 p2 p3 p4
  have t7 : (frameT number N m bits ++ R).take 7 = headT number (P.length + 10) N m := by
    rw [hT, List.take_append_of_le_length (by omega)]
    exact List.take_of_length_le (by omega)
  have t8 : (frameT number N m bits ++ R).take 8 = seal8 (headT number (P.length + 10) N m) := by
    rw [hT, ← List.append_assoc]
    rw [List.take_append_of_le_length (by rw [List.length_append, hhl, inT_length]; omega)]
    exact List.take_of_length_le (by rw [List.length_append, hhl, inT_length]; omega)
  have tp : (frameT number N m bits ++ R).take (P.length + 8) = seal8 (headT number (P.length + 10) N m) ++ P := by
    rw [hT, ← List.append_assoc, ← List.append_assoc]
    rw [List.take_append_of_le_length (by simp only [List.length_append, hhl, inT_length]; omega)]
    exact List.take_of_length_le (by simp only [List.length_append, hhl, inT_length]; omega)
  have tl : (frameT number N m bits ++ R).take (P.length + 10) = frameT number N m bits := by
    rw [List.take_append_of_le_length (by omega)]
    exact List.take_of_length_le (by omega)
  have hins : insT (frameT number N m bits ++ R) = P := by
    unfold insT
    rw [p2, hT, ← List.append_assoc, piece_right _ _ _ _ (by rw [List.length_append, hhl, inT_length]; omega)]
    rw [List.length_append, hhl, inT_length, piece_left _ _ _ _ (by omega) (by omega)]
    exact piece_whole _ _ (by omega)
  refine ⟨H, ⟨⟨?_, ?_, by rw [t7, t8]⟩, by rw [p1], ⟨⟨?_, ?_⟩, ?_, ?_⟩, ?_, ?_⟩, ?_, ?_, hH⟩
  · rw [List.length_append]; omega
  · have e : (frameT number N m bits ++ R).getD 0 0 = (headT number (P.length + 10) N m).getD 0 0 := by
      rw [← t7, List.getD_eq_getElem?_getD, List.getD_eq_getElem?_getD, List.getElem?_take_of_lt (by omega)]
    rw [e]
    rfl
  · rw [p2]; omega
  · rw [p2, List.length_append]; omega
  · rw [p3]; omega
  · rw [p4]; exact hm2
  · rw [p2, show P.length + 10 - 2 = P.length + 8 by omega, tp, tl]
    unfold frameT
    rw [hP]
  · rw [hins, p4, p3, Nat.sub_add_cancel hN]
    exact hI
  · rw [p3]; omega
  · rw [p2]; omega
end Go.Proofs.YtlncjgnomhpjnabGreatDoor

/-
  reel.Decode.
-/
namespace Go.Proofs.YtlncjgnomhpjnabGreatDoor
open Go.RowKit Go.Deep
set_option linter.unusedVariables false
theorem streamDecode_any (T : List UInt8) (w : World) (hs : T.length ≤ 9000) (hT : TabsU w) :
    Calls Tryz.prog 39 #[.string (bs T)] w fun e w' => DecAns e w w' T := by
  by_cases hp : HdP T ∧ dWh T = 1
  · exact streamDecode_rest T w hs hp.1 hp.2 hT
  · exact streamDecode_head T w hs hp
theorem res_rdec (tmps : Array Value) (R : Nat) (v : Value) (k : Int) (cs : Array Value) (W : World) (h : Bx W R 39 cs) (hs : cs.size = 6) (h2 : tmps.getD 2 undef = .pointer (some ⟨R, 0, none⟩)) (h3 : tmps.getD 3 undef = v) (h4 : tmps.getD 4 undef = .int .i64 k) :
    (results Tryz.f17 tmps).run Tryz.prog W = .ok (.tuple #[.agg cs, v, .int .i64 k]) W := by
  have hl := run_loadVar_row (P := Tryz.prog) W R 39 39 cs (0, 0) _ h Tryz.underlying39 rfl (by rw [hs]; exact infoInf6)
  rw [Array.getD_eq_getD_getElem?] at h2 h3 h4
  simp [results, Tryz.results17, asAddr, h2, h3, h4, hl]
set_option maxRecDepth 4000 in
set_option maxHeartbeats 2000000 in
theorem reelDecode_any (T : List UInt8) (w : World) (hs : T.length ≤ 9223372036854775807) (hT : TabsU w) :
    Calls Tryz.prog 17 #[.string (bs T)] w fun e w' => DecAns e w w' T := by
  have hz : (bs T).size = T.length := bs_size T
  have HZ0 : Hid (Bx (w.alloc (.cells #[.int .i64 0, .int .i64 0, .int .i64 0, .int .i64 0, .int .i64 0, .int .i64 0] 39)) w.heap.size 39 #[.int .i64 0, .int .i64 0, .int .i64 0, .int .i64 0, .int .i64 0, .int .i64 0]) := Bx.new _ _ _
  have HB0 : Hid (Below w.heap.size w (w.alloc (.cells #[.int .i64 0, .int .i64 0, .int .i64 0, .int .i64 0, .int .i64 0, .int .i64 0] 39))) := (Below.refl _ _).alloc (Nat.le_refl _) _
  by_cases hl : T.length ≤ 9000
  · have HSD := Hid.mk' (streamDecode_any T _ hl (hT.below HB0.out))
    clear hT
    by_cases h0 : decE T = 0
    · have HE := Hid.mk' h0
      clear h0
      unfold dInfo at *
      generalize bs T = SB at *
      go_enter Tryz.func17, Tryz.ntmps17
      go_wp2_with (first
        | (go_at_call 39; refine HSD.out.mono ?_; intro e u1 ho; obtain ⟨⟨-, v, rfl, hrow⟩ | ⟨hno, -⟩, hb⟩ := ho; rotate_left; exact absurd HE.out hno; obtain ⟨gl, A, C, rfl, -⟩ := hrow.open; have HROW := Hid.mk' hrow; have HZ1 := Hid.mk' (HZ0.out.below hb); have HB1 := Hid.mk' (HB0.out.trans (hb.mono HB0.out.size)); clear hrow hb HSD HZ0 HB0)
        | (refine wpList_storeRow rfl _ _ 39 rfl w.heap.size 39 _ _ rfl rfl HZ1.out infoInf6 rfl rfl ?_))
      refine bodyPost_ret (res_rdec _ w.heap.size (.slice (some ⟨gl, 0, none⟩) (dCh T) (dCh T)) 0 _ _ (HZ1.out.row _) rfl rfl rfl rfl) rfl ⟨.inl ⟨HE.out, _, rfl, ?_⟩, below_row HB1.out (Nat.le_refl _) _⟩
      exact (HROW.out.grown (grown_row u1 w.heap.size _) (by simp)).mono (by simp)
    · have HE := Hid.mk' h0
      have HBAD : Hid (∀ w', Below w.heap.size w w' → DecAns (.returned (.tuple #[info0, .slice none 0 0, .int .i64 (decE T)])) w w' T) := fun w' hb => dec_bad _ h0 rfl hb
      clear h0
      generalize bs T = SB at *
      go_enter Tryz.func17, Tryz.ntmps17
      go_wp2_with (first
        | (go_at_call 39; refine HSD.out.mono ?_; intro e u1 ho; obtain ⟨⟨hyes, -⟩ | ⟨-, rfl⟩, hb⟩ := ho; exact absurd hyes HE.out; have HZ1 := Hid.mk' (HZ0.out.below hb); have HB1 := Hid.mk' (HB0.out.trans (hb.mono HB0.out.size)); clear hb HSD HZ0 HB0)
        | (refine wpList_storeRow rfl _ _ 39 rfl w.heap.size 39 _ _ rfl rfl HZ1.out infoInf6 rfl rfl ?_))
      exact bodyPost_ret (res_rdec _ w.heap.size _ (decE T) _ _ (HZ1.out.row _) rfl rfl rfl rfl) rfl (HBAD.out _ (below_row HB1.out (Nat.le_refl _) _))
  · have HBAD : Hid (∀ w', Below w.heap.size w w' → DecAns (.returned (.tuple #[info0, .slice none 0 0, .int .i64 4])) w w' T) := fun w' hb => dec_bad 4 (by omega) (by unfold decE; rw [if_neg hl]) hb
    have hl2 : 9000 < T.length := by omega
    clear hT
    generalize bs T = SB at *
    go_enter Tryz.func17, Tryz.ntmps17
    go_wp2_with (first
      | (refine wpList_storeRow rfl _ _ 39 rfl w.heap.size 39 _ _ rfl rfl HZ0.out infoInf6 rfl rfl ?_))
    exact bodyPost_ret (res_rdec _ w.heap.size _ 4 _ _ (HZ0.out.row _) rfl rfl rfl rfl) rfl (HBAD.out _ (below_row HB0.out (Nat.le_refl _) _))
end Go.Proofs.YtlncjgnomhpjnabGreatDoor

/-
  Where reading begins: (head.Head).Start.
-/
namespace Go.Proofs.YtlncjgnomhpjnabGreatDoor
open Go.RowKit Go.Deep
set_option linter.unusedVariables false
theorem below_drewN2 {B : Nat} {a b : World} (h : Below B a b) (m : Nat) : Below B a (b.drewN m) := ⟨h.os, h.tape, h.output, h.size, h.block⟩
set_option maxRecDepth 4000 in
set_option maxHeartbeats 1000000 in
theorem headStart_none (c0 c1 c2 c3 s : Int) (f : Bool) (le mo su at' : Int) (a : Option Addr) (n cap : Nat) (w : World) :
    Calls Tryz.prog 71 #[.agg (hdC c0 c1 c2 c3 0 s f le mo su (.slice a n cap)), .int .i64 at'] w fun e w' => e = .returned (.tuple #[.int .i64 0, .int .i64 0]) ∧ Below w.heap.size w w' := by
  unfold hdC
  go_enter Tryz.func71, Tryz.ntmps71
  go_wp2
  go_ret2
  exact ⟨rfl, (Below.refl _ _).alloc (Nat.le_refl _) _⟩
set_option maxRecDepth 4000 in
set_option maxHeartbeats 1000000 in
theorem headStart_some (c0 c1 c3 s : Int) (B seek : Nat) (f : Bool) (le mo su : Int) (at' : Nat) (ps : List Nat) (pv : Value) (base : Nat) (w : World) (hB : 1 ≤ B) (hB2 : B ≤ 32) (hk : 1 ≤ seek) (hk2 : seek ≤ 255) (hat : at' ≤ 300) (hl : ps.length ≤ 300) (hp : at' / B / seek < ps.length) (ho : w.ownsRow base 3 1 pv ps.length (pntV ps)) :
    Calls Tryz.prog 71 #[.agg (hdC c0 c1 B c3 seek s f le mo su pv), .int .i64 at'] w fun e w' => e = .returned (.tuple #[.int .i64 (at' / B / seek * seek : Nat), .int .i64 (ps.getD (at' / B / seek) 0 : Nat)]) ∧ Below w.heap.size w w' := by
  obtain ⟨a, cap, rfl, hI, hlow⟩ := pnts_open ho
  have hp0 : 0 < ps.length := Nat.lt_of_le_of_lt (Nat.zero_le _) hp
  obtain ⟨g, o, rfl, hc⟩ := hI.open hp0
  have hg : g < w.heap.size := hlow _ rfl hp0
  have hq1 : at' / B ≤ 300 := Nat.le_trans (Nat.div_le_self _ _) hat
  have hq2 : at' / B / seek ≤ 300 := Nat.le_trans (Nat.div_le_self _ _) hq1
  have hq3 : at' / B / seek * seek ≤ 300 := Nat.le_trans (Nat.div_mul_le_self _ _) hq1
  have e1 : (at' : Int).tdiv (B : Int) = ((at' / B : Nat) : Int) := by rw [Int.tdiv_eq_ediv_of_nonneg (Int.natCast_nonneg _)]; rfl
  have e2 : ((at' / B : Nat) : Int).tdiv (seek : Int) = ((at' / B / seek : Nat) : Int) := by rw [Int.tdiv_eq_ediv_of_nonneg (Int.natCast_nonneg _)]; rfl
  have e3 : ((at' / B / seek : Nat) : Int) * (seek : Int) = ((at' / B / seek * seek : Nat) : Int) := by rw [Int.natCast_mul]
  have n1 : ¬ (B : Int) = 0 := by omega
  have n2 : ¬ (seek : Int) = 0 := by omega
  have n3 : ((seek : Int) == 0) = false := by simp; omega
  have n4 : ¬ seek = 0 := by omega
  have hcp := hc _ hp
  clear hc hI hlow ho
  generalize at' / B / seek * seek = ns at *
  generalize at' / B / seek = p at *
  generalize at' / B = d1 at *
  generalize ps.getD p 0 = pp at *
  have w1 : IntKind.i64.wrap (d1 : Int) = (d1 : Int) := by rw [IntKind.wrap_i64]; omega
  have w2 : IntKind.i64.wrap (p : Int) = (p : Int) := by rw [IntKind.wrap_i64]; omega
  have w3 : IntKind.i64.wrap (ns : Int) = (ns : Int) := by rw [IntKind.wrap_i64]; omega
  have i0 : (0 : Int) ≤ (p : Int) := by omega
  have i1 : (p : Int) < (ps.length : Int) := by omega
  generalize ps.length = np at *
  unfold hdC
  have k0 : ((w.alloc (.cells #[.int .i64 c0, .int .i64 c1, .int .i64 B, .int .i64 c3, .int .i64 seek, .int .i64 s, .bool f, .int .i64 le, .int .i64 mo, .int .i64 su, .slice (some ⟨g, o, none⟩) np cap] 110))).cell? ⟨g, o + p, none⟩ = some (.int .i64 (pp : Int)) := (World.grownBy_alloc w _ none).cell hcp (by simp)
  go_enter Tryz.func71, Tryz.ntmps71
  go_wp2
  go_quiet (fail)
  go_wp2
  go_quiet (fail)
  go_wp2
  go_ret2
  exact ⟨rfl, below_drewN2 (below_drewN2 ((Below.refl _ _).alloc (Nat.le_refl _) _) _) _⟩
end Go.Proofs.YtlncjgnomhpjnabGreatDoor

