import Derived.Test.YtlncjgnomhpjnaaGreatDoorPS34
import Derived.Test.YtlncjgnomhpjnaaGreatDoorPS25
import Derived.Test.YtlncjgnomhpjnaaGreatDoorPS18
/-
  Heads read back: the numbers in a text's bytes.
-/
namespace Go.Proofs.YtlncjgnomhpjnaaGreatDoor
open Go.RowKit Go.Deep
set_option linter.unusedVariables false
theorem inT_snoc (v k : Nat) : inT v (k + 1) = inT (v / 256) k ++ [inB v (k + 1) k] := by
  unfold inT
  rw [List.range_succ, List.map_append]
  congr 1
  refine List.map_congr_left fun i hi => ?_
  have hik : i < k := List.mem_range.1 hi
  refine UInt8.toNat.inj ?_
  rw [inB_nat, inB_nat, Nat.div_div_eq_div_mul, show k + 1 - 1 - i = (k - 1 - i) + 1 by omega, Nat.pow_succ, Nat.mul_comm]
theorem valN_inT : ∀ (k v : Nat), v < 256 ^ k → valN (inT v k) = v
  | 0, v, h => by
    have : v = 0 := by simpa using h
    subst this; rfl
  | k + 1, v, h => by
    rw [inT_snoc, valN_snoc, valN_inT k (v / 256) (by rw [Nat.pow_succ] at h; exact Nat.div_lt_of_lt_mul (by rw [Nat.mul_comm]; exact h)), inB_nat]
    simp
    omega
theorem inT_valN (l : List UInt8) (k : Nat) (h : l.length = k) : inT (valN l) k = l := by
  refine valN_inj k _ _ (inT_length _ _) h ?_
  refine valN_inT k _ ?_
  have := valN_lt l k (by omega)
  rwa [List.take_of_length_le (by omega)] at this
/-- the number in a text's bytes from a place on -/
def fld (T : List UInt8) (a b : Nat) : Nat := valN (pieceT T a b)
theorem fld_lt (T : List UInt8) (a b : Nat) (hab : a ≤ b) (hb : b ≤ T.length) : fld T a b < 256 ^ (b - a) := by
  have := valN_lt (pieceT T a b) (b - a) (by rw [pieceT_length _ _ _ hb hab]; exact Nat.le_refl _)
  rwa [List.take_of_length_le (by rw [pieceT_length _ _ _ hb hab]; exact Nat.le_refl _)] at this
theorem inT_fld (T : List UInt8) (a b k : Nat) (hab : a ≤ b) (hb : b ≤ T.length) (hk : b - a = k) : inT (fld T a b) k = pieceT T a b := inT_valN _ _ (by rw [pieceT_length _ _ _ hb hab]; exact hk)
/-- what a head says -/
def dWh (T : List UInt8) : Nat := fld T 2 3
def dCh (T : List UInt8) : Nat := fld T 3 4
def dDe (T : List UInt8) : Nat := fld T 4 5
def dBl (T : List UInt8) : Nat := fld T 5 6
def dRa (T : List UInt8) : Nat := fld T 6 8
def dSa (T : List UInt8) : Nat := fld T 8 10
def dSe (T : List UInt8) : Nat := fld T 10 11
def dLe (T : List UInt8) : Nat := fld T 11 13
def dMo (T : List UInt8) : Nat := fld T 13 15
def dSu (T : List UInt8) : Nat := fld T 15 19
/-- how many points it has -/
def nPts (S B seek : Nat) : Nat := if seek = 0 then 0 else nBlk (nBlk S B) seek
def dNp (T : List UInt8) : Nat := nPts (dSa T) (dBl T) (dSe T)
def dPts (T : List UInt8) : List Nat := (List.range (dNp T)).map fun k => fld T (20 + 2 * k) (22 + 2 * k)
def dSz (T : List UInt8) : Nat := 22 + 2 * dNp T
def dTx (T : List UInt8) : List UInt8 := headTx (dWh T) (dCh T) (dDe T) (dBl T) (dRa T) (dSa T) (dSe T) (dLe T) (dMo T) (dSu T) (dPts T)
/-- a text begins with a head -/
def HdP (T : List UInt8) : Prop :=
  22 ≤ T.length ∧ dWh T ≤ 1 ∧ infoB (dCh T) (dDe T) (dBl T) (dRa T) (dSe T) (dSa T) = true ∧ dSz T ≤ T.length ∧ dTx T = T.take (dSz T) ∧ (dWh T = 0 → dLe T = 0 ∧ dMo T = 0 ∧ dSu T = 0 ∧ ∀ p ∈ dPts T, p = 0)
theorem fields_take (T : List UInt8) (h : 19 ≤ T.length) : fieldsT (dWh T) (dCh T) (dDe T) (dBl T) (dRa T) (dSa T) (dSe T) (dLe T) (dMo T) (dSu T) = [82, 76] ++ pieceT T 2 19 := by
  unfold fieldsT dWh dCh dDe dBl dRa dSa dSe dLe dMo dSu
  rw [inT_fld T 2 3 1 (by omega) (by omega) rfl, inT_fld T 3 4 1 (by omega) (by omega) rfl, inT_fld T 4 5 1 (by omega) (by omega) rfl, inT_fld T 5 6 1 (by omega) (by omega) rfl, inT_fld T 6 8 2 (by omega) (by omega) rfl, inT_fld T 8 10 2 (by omega) (by omega) rfl, inT_fld T 10 11 1 (by omega) (by omega) rfl, inT_fld T 11 13 2 (by omega) (by omega) rfl, inT_fld T 13 15 2 (by omega) (by omega) rfl, inT_fld T 15 19 4 (by omega) (by omega) rfl]
  have step : ∀ a b c, a ≤ b → b ≤ c → pieceT T a b ++ pieceT T b c = pieceT T a c := fun a b c h1 h2 => by
    unfold pieceT
    rw [show c - a = (b - a) + (c - b) by omega, List.take_add, List.drop_drop, show a + (b - a) = b by omega]
  simp only [List.append_assoc]
  rw [step 13 15 19 (by omega) (by omega), step 11 13 19 (by omega) (by omega), step 10 11 19 (by omega) (by omega), step 8 10 19 (by omega) (by omega), step 6 8 19 (by omega) (by omega), step 5 6 19 (by omega) (by omega), step 4 5 19 (by omega) (by omega), step 3 4 19 (by omega) (by omega), step 2 3 19 (by omega) (by omega)]
theorem piece_step (T : List UInt8) (a b c : Nat) (h1 : a ≤ b) (h2 : b ≤ c) : pieceT T a b ++ pieceT T b c = pieceT T a c := by
  unfold pieceT
  rw [show c - a = (b - a) + (c - b) by omega, List.take_add, List.drop_drop, show a + (b - a) = b by omega]
theorem pts_piece (T : List UInt8) : ∀ k, 20 + 2 * k ≤ T.length → ptsT ((List.range k).map fun k => fld T (20 + 2 * k) (22 + 2 * k)) = pieceT T 20 (20 + 2 * k)
  | 0, _ => by simp [ptsT, pieceT]
  | k + 1, h => by
    rw [List.range_succ, List.map_append, List.map_cons, List.map_nil, ptsT_snoc, pts_piece T k (by omega), inT_fld T (20 + 2 * k) (22 + 2 * k) 2 (by omega) (by omega) (by omega), piece_step T 20 (20 + 2 * k) (22 + 2 * k) (by omega) (by omega)]
    congr 1; omega
theorem dPts_piece (T : List UInt8) (h : dSz T ≤ T.length) : ptsT (dPts T) = pieceT T 20 (dSz T - 2) := by
  unfold dPts
  unfold dSz at h ⊢
  rw [pts_piece T (dNp T) (by omega)]
  congr 1; omega
theorem dPts_length (T : List UInt8) : (dPts T).length = dNp T := by simp [dPts]
theorem take_of_app {α : Type} {T X Y : List α} {n k : Nat} (h : X ++ Y = T.take n) (hk : k = X.length) (hn : n ≤ T.length) : T.take k = X := by
  have hl : X.length + Y.length = n := by
    have := congrArg List.length h
    rw [List.length_append, List.length_take] at this
    omega
  have := congrArg (List.take k) h
  rw [List.take_take, Nat.min_eq_left (by omega), hk, List.take_left] at this
  rw [hk]
  exact this.symm
/-- the program's tests, and the document's -/
theorem dTx_iff (T : List UInt8) (h22 : 22 ≤ T.length) (hsz : dSz T ≤ T.length) : dTx T = T.take (dSz T) ↔ T.take 2 = [82, 76] ∧ seal8 (T.take 19) = T.take 20 ∧ seal16 (T.take (dSz T - 2)) = T.take (dSz T) := by
  have hd : 22 ≤ dSz T := by unfold dSz; omega
  have hF := fields_take T (by omega)
  have hP := dPts_piece T hsz
  have hlp : (pieceT T 20 (dSz T - 2)).length = dSz T - 22 := by rw [pieceT_length _ _ _ (by omega) (by omega)]; omega
  have hl2 : (pieceT T 2 19).length = 17 := by rw [pieceT_length _ _ _ (by omega) (by omega)]
  unfold dTx headTx
  rw [hF, hP]
  constructor
  · intro h
    have h1 : T.take (dSz T - 2) = seal8 ([82, 76] ++ pieceT T 2 19) ++ pieceT T 20 (dSz T - 2) := by
      refine take_of_app (n := dSz T) (Y := inT (crc 16 98309 (seal8 ([82, 76] ++ pieceT T 2 19) ++ pieceT T 20 (dSz T - 2))) 2) h ?_ hsz
      rw [List.length_append, seal8_length, List.length_append, hl2, hlp]
      simp; omega
    have h2 : T.take 20 = seal8 ([82, 76] ++ pieceT T 2 19) := by
      refine take_of_app (n := dSz T - 2) (Y := pieceT T 20 (dSz T - 2)) h1.symm ?_ (by omega)
      rw [seal8_length, List.length_append, hl2]; rfl
    have h3 : T.take 19 = [82, 76] ++ pieceT T 2 19 := by
      refine take_of_app (n := 20) (Y := inT (crc 8 263 ([82, 76] ++ pieceT T 2 19)) 1) h2.symm ?_ (by omega)
      rw [List.length_append, hl2]; rfl
    have h4 : T.take 2 = [82, 76] := take_of_app (n := 19) (Y := pieceT T 2 19) h3.symm rfl (by omega)
    refine ⟨h4, by rw [h3, h2], by rw [h1]; exact h⟩
  · rintro ⟨h1, h2, h3⟩
    have h4 : T.take 19 = [82, 76] ++ pieceT T 2 19 := by rw [take_piece T 2 19 (by omega) (by omega), h1]
    rw [← h4, h2, ← take_piece T 20 (dSz T - 2) (by omega) (by omega)]
    exact h3
end Go.Proofs.YtlncjgnomhpjnaaGreatDoor

/-
  A text that is built up, from nothing on.
-/
namespace Go.Proofs.YtlncjgnomhpjnaaGreatDoor
open Go.RowKit Go.Deep
set_option linter.unusedVariables false
theorem string_new (B b : Nat) (p : Value) (w : World) (hbk : w.heap[b]? = some (.cells #[p, .slice none 0 0] 150 (0, 0))) :
    Calls Tryz.prog 142 #[.pointer (some ⟨b, 0, none⟩)] w fun e w' => e = .returned (.string ⟨#[]⟩) ∧ Below B w w' := by
  have c1 : w.drew.cell? ⟨b, 1, none⟩ = some (.slice none 0 0) := by
    have : w.drew.heap[b]? = some (.cells #[p, .slice none 0 0] 150 (0, 0)) := hbk
    rw [Lib.cell_of_heap this]; rfl
  have hSD : (Builtin.unsafeSliceData_ #[61] 208 #[.slice none 0 0]).run Tryz.prog w.drew = .ok (.pointer none) w.drew := Lib.run_unsafeSliceData_nil _ _ _ _ _
  have hUS : (Builtin.unsafeString_ #[208, 3] 9 #[.pointer none, .int .i64 0]).run Tryz.prog w.drew = .ok (.string ⟨#[]⟩) w.drew := Lib.run_unsafeString_none _ _ _ _ _
  clear hbk
  go_enter Tryz.func142, Tryz.ntmps142
  go_wp2
  go_region
  all_goals (go_wp2; go_ret; exact ⟨rfl, Below.drew (Below.refl B w)⟩)
/-- a builder that holds this text -/
def Bld (w : World) (B b : Nat) (T : List UInt8) : Prop :=
  Lib.IsBuilderF 150 5 B b (Lib.byteCells T) w ∧ (T = [] → w.heap[b]? = some (.cells #[.pointer none, .slice none 0 0] 150 (0, 0)))
theorem Bld.lt {w : World} {B b : Nat} {T : List UInt8} (h : Bld w B b T) : b < w.heap.size := h.1.elim (fun h => h.lt) (fun h => h.lt)
theorem Bld.new (w : World) : Bld (w.alloc (.cells #[.pointer none, .slice none 0 0] 150)) w.heap.size w.heap.size [] := ⟨builder_new w, fun _ => blk_alloc_new _ _⟩
theorem Bld.below {w w' : World} {B b : Nat} {T : List UInt8} (h : Bld w B b T) (hb : Below w.heap.size w w') : Bld w' B b T :=
  ⟨builder_below h.1 hb, fun e => (hb.block b h.lt).trans (h.2 e)⟩
theorem bld_string (B b : Nat) (T : List UInt8) (w : World) (h : Bld w B b T) :
    Calls Tryz.prog 142 #[.pointer (some ⟨b, 0, none⟩)] w fun e w' => e = .returned (.string (bs T)) ∧ Below B w w' := by
  by_cases h0 : T = []
  · have hn := h.2 h0
    subst h0
    exact string_new B b _ w hn
  · exact string_any _ B b T w h.1 h0
set_option maxHeartbeats 2000000 in
set_option maxRecDepth 100000 in
theorem writeString2_any (T : TypeId) (hT : Lies T) (B b : Nat) (xs : List Value) (s : ByteArray) (w : World) (h : Lib.IsBuilderF T 5 B b xs w) (hs : 0 < s.size) (hlen : xs.length + s.size ≤ 140737488355328) (hBw : B ≤ w.heap.size) :
    Calls Tryz.prog 140 #[.pointer (some ⟨b, 0, none⟩), .string s] w fun e w' => e = .returned (.tuple #[.int .i64 s.size, .nilIface]) ∧ (Lib.BuilderAtF T 5 B b (.pointer (some ⟨b, 0, none⟩)) (xs ++ Lib.strCells s) w' ∧ Below B w w' ∧ Lib.OthersKept 5 (some b) w w') := by
  obtain ⟨i0, hi, hz0, hz1, hz2⟩ := info_parts infoByte
  have HH := Hid.mk' h
  clear h
  go_enter Tryz.func140, Tryz.ntmps140
  go_wp2_with (go_at_call 165; refine (copyCheck_any T hT B b xs _ HH.out).mono ?_)
  rintro e w1 ⟨rfl, h1, hb1, hk1⟩
  obtain ⟨hB, v, hbk, hown, hne⟩ := h1
  have c0 : w1.cell? ⟨b, 0, none⟩ = some (.pointer (some ⟨b, 0, none⟩)) := by rw [Lib.cell_of_heap hbk]; rfl
  have c1 : w1.cell? ⟨b, 1, none⟩ = some v := by rw [Lib.cell_of_heap hbk]; rfl
  go_wp2_with (at_builtin; refine Lib.wpList_append_own_stringF _ rfl _ _ 61 9 rfl B 5 i0 Tryz.underlying61 Tryz.underlying9 hi hz0 hz1 hz2 _ _ _ rfl hown s rfl ?c3 ?c4 ?c5 ?_)
  case c3 => unfold maxLen; omega
  case c4 => omega
  case c5 => have := hb1.size; omega
  intro v' w2 hown' hgrow _
  have hlt : b < w1.heap.size := (Array.getElem?_eq_some_iff.1 hbk).1
  have hb2 : w2.heap[b]? = some (.cells #[.pointer (some ⟨b, 0, none⟩), v] T (0, 0)) := by
    rw [hgrow.block b hlt (fun e => hne e.symm)]
    exact hbk
  have d0 : w2.cell? ⟨b, 0, none⟩ = some (.pointer (some ⟨b, 0, none⟩)) := by rw [Lib.cell_of_heap hb2]; rfl
  have d1 : w2.cell? ⟨b, 1, none⟩ = some v := by rw [Lib.cell_of_heap hb2]; rfl
  have f1 : w2.frozen? ⟨b, 1, none⟩ = false := Lib.frozen_of_heap hb2 1
  obtain ⟨g, cap, rfl⟩ : ∃ g cap, v' = .slice (some ⟨g, 0, none⟩) (xs.length + s.size) cap := by
    rcases hown'.2 with ⟨_, h0⟩ | ⟨g, cap, cur, fz, hv, _⟩
    · omega
    · exact ⟨g, cap, hv⟩
  go_wp2
  go_ret2
  refine ⟨rfl, ?_, ?_, (hk1.grown hgrow (Lib.ownsRowF_kind hown)).setCell ⟨b, 1, none⟩ rfl _⟩
  · exact Lib.BuilderAtF.put (T := T) (e := 5) hB hb2 (bs' := xs ++ Lib.strCells s) (by rw [List.length_append, Lib.strCells_length]; exact hown') hT.2
  · exact ((hb1.grown hgrow (by have := hb1.size; omega) (fun k hk => (hown.lt k hk).1))).setCell (p := ⟨b, 1, none⟩) hB _
theorem bld_write (B b : Nat) (T U : List UInt8) (w : World) (h : Bld w B b T) (hU : U ≠ []) (hlen : T.length + U.length ≤ 1000000) (hB : B ≤ w.heap.size) :
    Calls Tryz.prog 140 #[.pointer (some ⟨b, 0, none⟩), .string (bs U)] w fun e w' => e = .returned (.tuple #[.int .i64 (bs U).size, .nilIface]) ∧ Bld w' B b (T ++ U) ∧ Below B w w' ∧ Lib.OthersKept 5 (some b) w w' := by
  have hU0 : 0 < U.length := List.length_pos_iff.2 hU
  refine (writeString2_any _ lies_builder B b _ (bs U) w h.1 (by rw [bs_size]; exact hU0) (by rw [Lib.byteCells_length, bs_size]; omega) hB).mono ?_
  rintro e w' ⟨he, hbl, hb, hok⟩
  refine ⟨he, ⟨.inr (by rw [← cells_app, ← cells_bs U]; exact hbl), fun e => ?_⟩, hb, hok⟩
  exact absurd (List.append_eq_nil_iff.1 e).2 hU
end Go.Proofs.YtlncjgnomhpjnaaGreatDoor

