import Derived.Test.YtlncjgnomhpjnabGreatDoorPO34
import Derived.Test.YtlncjgnomhpjnabGreatDoorPO35
import Derived.Test.YtlncjgnomhpjnabGreatDoorPO1
import Derived.ArgAppend
import Derived.Deep.OwnRows
import Derived.Test.YtlncjgnomhpjnabGreatDoorPO32
/-
  The program reads a head: what an unfinished one says; head.Unfinished.
-/
namespace Go.Proofs.YtlncjgnomhpjnabGreatDoor
open Go.RowKit Go.Deep
set_option linter.unusedVariables false
theorem piece_left (A B : List UInt8) (a b : Nat) (hab : a ≤ b) (hb : b ≤ A.length) : pieceT (A ++ B) a b = pieceT A a b := by
  unfold pieceT
  rw [List.drop_append_of_le_length (by omega), List.take_append_of_le_length (by rw [List.length_drop]; omega)]
theorem piece_right (A B : List UInt8) (a b : Nat) (ha : A.length ≤ a) : pieceT (A ++ B) a b = pieceT B (a - A.length) (b - A.length) := by
  unfold pieceT
  rw [List.drop_append, List.drop_eq_nil_of_le ha, List.nil_append]
  congr 1; omega
theorem piece_whole (A : List UInt8) (b : Nat) (hb : b = A.length) : pieceT A 0 b = A := by
  unfold pieceT
  rw [List.drop_zero]
  exact List.take_of_length_le (by omega)
theorem piece_take (T : List UInt8) (n a b : Nat) (hb : b ≤ n) : pieceT (T.take n) a b = pieceT T a b := by
  unfold pieceT
  rw [List.drop_take, List.take_take, Nat.min_eq_left (by omega)]
/-- the numbers of a head, out of its text -/
theorem headTx_fld (wh c0 c1 c2 c3 s c4 le mo su : Nat) (ps : List Nat) (hle : le < 65536) (hmo : mo < 65536) (hsu : su < 4294967296) :
    fld (headTx wh c0 c1 c2 c3 s c4 le mo su ps) 11 13 = le ∧ fld (headTx wh c0 c1 c2 c3 s c4 le mo su ps) 13 15 = mo ∧ fld (headTx wh c0 c1 c2 c3 s c4 le mo su ps) 15 19 = su := by
  have hF : ∀ a b, a ≤ b → b ≤ 19 → pieceT (headTx wh c0 c1 c2 c3 s c4 le mo su ps) a b = pieceT (fieldsT wh c0 c1 c2 c3 s c4 le mo su) a b := fun a b h1 h2 => by
    have hl := fieldsT_length wh c0 c1 c2 c3 s c4 le mo su
    unfold headTx seal16
    rw [piece_left _ _ a b h1 (by rw [List.length_append, seal8_length]; omega), piece_left _ _ a b h1 (by rw [seal8_length]; omega)]
    unfold seal8
    rw [piece_left _ _ a b h1 (by omega)]
  have hA : ([82, 76] ++ inT wh 1 ++ inT c0 1 ++ inT c1 1 ++ inT c2 1 ++ inT c3 2 ++ inT s 2 ++ inT c4 1 : List UInt8).length = 11 := by simp [inT_length]
  unfold fld
  rw [hF 11 13 (by omega) (by omega), hF 13 15 (by omega) (by omega), hF 15 19 (by omega) (by omega)]
  unfold fieldsT
  refine ⟨?_, ?_, ?_⟩
  · rw [piece_left _ _ 11 13 (by omega) (by simp [inT_length]), piece_left _ _ 11 13 (by omega) (by simp [inT_length]), piece_right _ _ 11 13 (by simp [inT_length]), hA, piece_whole _ _ (by rw [inT_length]), valN_inT 2 le (by omega)]
  · rw [piece_left _ _ 13 15 (by omega) (by simp [inT_length]), piece_right _ _ 13 15 (by simp [inT_length]), List.length_append, hA, inT_length, piece_whole _ _ (by rw [inT_length]), valN_inT 2 mo (by omega)]
  · rw [piece_right _ _ 15 19 (by simp [inT_length]), List.length_append, List.length_append, hA, inT_length, inT_length, piece_whole _ _ (by rw [inT_length]), valN_inT 4 su (by omega)]
theorem foldl_pts (b : List Nat) : ∀ t, b.foldl (fun t p => t ++ inT p 2) t = t ++ ptsT b := by
  induction b with
  | nil => intro t; simp [ptsT]
  | cons x r ih =>
    intro t
    have e : ptsT (x :: r) = inT x 2 ++ ptsT r := by
      show List.foldl _ ([] ++ inT x 2) r = _
      rw [ih]; simp
    rw [List.foldl_cons, ih, e, List.append_assoc]
theorem ptsT_app (a b : List Nat) : ptsT (a ++ b) = ptsT a ++ ptsT b := by
  unfold ptsT
  rw [List.foldl_append]
  exact foldl_pts b _
theorem headTx_pt (wh c0 c1 c2 c3 s c4 le mo su : Nat) (ps : List Nat) (k : Nat) (hk : k < ps.length) (hp : ps[k] < 65536) : fld (headTx wh c0 c1 c2 c3 s c4 le mo su ps) (20 + 2 * k) (22 + 2 * k) = ps[k] := by
  have hl := fieldsT_length wh c0 c1 c2 c3 s c4 le mo su
  have hpl : (ptsT ps).length = 2 * ps.length := by have := ptsT_length ps ps.length (Nat.le_refl _); rwa [List.take_length] at this
  have h8 : (seal8 (fieldsT wh c0 c1 c2 c3 s c4 le mo su)).length = 20 := by rw [seal8_length, hl]
  unfold fld headTx seal16
  rw [piece_left _ _ _ _ (by omega) (by rw [List.length_append, h8, hpl]; omega), piece_right _ _ _ _ (by omega), h8, show 20 + 2 * k - 20 = 2 * k by omega, show 22 + 2 * k - 20 = 2 * k + 2 by omega]
  have e : ptsT ps = ptsT (ps.take k) ++ (inT ps[k] 2 ++ ptsT (ps.drop (k + 1))) := by
    rw [← List.append_assoc, ← ptsT_take ps k hk, ← ptsT_app, List.take_append_drop]
  have hlk := ptsT_length ps k (by omega)
  rw [e, piece_right _ _ _ _ (by omega), hlk, Nat.sub_self, show 2 * k + 2 - 2 * k = 2 by omega, piece_left _ _ _ _ (by omega) (by rw [inT_length]; exact Nat.le_refl _), piece_whole _ _ (by rw [inT_length]), valN_inT 2 _ (by omega)]
/-- an unfinished head says nothing that can't be known yet -/
theorem unfin_iff (T : List UInt8) (hw : dWh T = 0) (hsz : dSz T ≤ T.length) (hTx : dTx T = T.take (dSz T)) :
    T.take (dSz T) = headTx 0 (dCh T) (dDe T) (dBl T) (dRa T) (dSa T) (dSe T) 0 0 0 (List.replicate (dNp T) 0) ↔ dLe T = 0 ∧ dMo T = 0 ∧ dSu T = 0 ∧ ∀ p ∈ dPts T, p = 0 := by
  have hd : 22 ≤ dSz T := by unfold dSz; omega
  constructor
  · intro h
    have hf := headTx_fld 0 (dCh T) (dDe T) (dBl T) (dRa T) (dSa T) (dSe T) 0 0 0 (List.replicate (dNp T) 0) (by omega) (by omega) (by omega)
    rw [← h] at hf
    unfold fld at hf
    rw [piece_take _ _ _ _ (by omega), piece_take _ _ _ _ (by omega), piece_take _ _ _ _ (by omega)] at hf
    refine ⟨hf.1, hf.2.1, hf.2.2, fun p hp => ?_⟩
    unfold dPts at hp
    obtain ⟨k, hk, rfl⟩ := List.mem_map.1 hp
    have hk := List.mem_range.1 hk
    have h1 := headTx_pt 0 (dCh T) (dDe T) (dBl T) (dRa T) (dSa T) (dSe T) 0 0 0 (List.replicate (dNp T) 0) k (by simpa using hk) (by simp)
    rw [← h] at h1
    unfold fld at h1
    rw [piece_take _ _ _ _ (by unfold dSz; omega)] at h1
    simpa [fld] using h1
  · rintro ⟨h1, h2, h3, h4⟩
    have hp : dPts T = List.replicate (dNp T) 0 := by
      rw [List.eq_replicate_iff]
      exact ⟨dPts_length T, h4⟩
    rw [← hTx]
    unfold dTx
    rw [hw, h1, h2, h3, hp]
/-- the program's tests -/
theorem hdP_iff (T : List UInt8) : HdP T ↔ (20 ≤ T.length ∧ seal8 (T.take 19) = T.take 20) ∧ (T.take 2 = [82, 76] ∧ dWh T ≤ 1 ∧ infoB (dCh T) (dDe T) (dBl T) (dRa T) (dSe T) (dSa T) = true) ∧ (dSz T ≤ T.length ∧ seal16 (T.take (dSz T - 2)) = T.take (dSz T)) ∧ (dWh T = 0 → T.take (dSz T) = headTx 0 (dCh T) (dDe T) (dBl T) (dRa T) (dSa T) (dSe T) 0 0 0 (List.replicate (dNp T) 0)) := by
  have hd : 22 ≤ dSz T := by unfold dSz; omega
  constructor
  · rintro ⟨h1, h2, h3, h4, h5, h6⟩
    obtain ⟨g1, g2, g3⟩ := (dTx_iff T h1 h4).1 h5
    exact ⟨⟨by omega, g2⟩, ⟨g1, h2, h3⟩, ⟨h4, g3⟩, fun hw => (unfin_iff T hw h4 h5).2 (h6 hw)⟩
  · rintro ⟨⟨h1, h2⟩, ⟨h3, h4, h5⟩, ⟨h6, h7⟩, h8⟩
    have hTx := (dTx_iff T (by omega) h6).2 ⟨h3, h2, h7⟩
    exact ⟨by omega, h4, h5, h6, hTx, fun hw => (unfin_iff T hw h6 hTx).1 (h8 hw)⟩
end Go.Proofs.YtlncjgnomhpjnabGreatDoor

/-
  Lists that came out, and what is appended to them.
-/
namespace Go.Proofs.YtlncjgnomhpjnabGreatDoor
open Go.RowKit Go.Deep
set_option linter.unusedVariables false
theorem gr_trans {a b c : World} {r : Option Nat} (h : a.grownBy b r) (k : b.grownBy c r) : a.grownBy c r :=
  ⟨k.os.trans h.os, k.tape.trans h.tape, k.output.trans h.output, Nat.le_trans h.size k.size, fun j hj hne => (k.block j (Nat.lt_of_lt_of_le hj h.size) hne).trans (h.block j hj hne)⟩
theorem gr_set (w : World) (a : Addr) (v : Value) : w.grownBy (w.setCell a v) (some a.block) :=
  ⟨rfl, rfl, rfl, by simp, fun j hj hne => blk_setCell_other _ _ _ _ (fun e => hne (by rw [e]))⟩
/-- a list that may be written into: nil, or a piece of a row -/
def LstE (e : TypeId) (w : World) (v : Value) (n : Nat) (og : Option Nat) (x : Nat → Value) : Prop :=
  (v = .slice none 0 0 ∧ n = 0 ∧ og = none) ∨ ∃ g o c N f, og = some g ∧ v = .slice (some ⟨g, o, none⟩) n c ∧ w.rowIs g e N f ∧ o + c ≤ N ∧ n ≤ c ∧ ∀ i, i < n → f (o + i) = x i
theorem LstE.row {e : TypeId} {w : World} {v : Value} {n : Nat} {og : Option Nat} {x : Nat → Value} (h : LstE e w v n og x) {g : Nat} (hg : og = some g) : ∃ N f, w.rowIs g e N f := by
  rcases h with ⟨-, -, e⟩ | ⟨g', o, c, N, f, e, -, hr, -⟩
  · rw [e] at hg; cases hg
  · rw [hg] at e; injection e with e; subst e; exact ⟨N, f, hr⟩
end Go.Proofs.YtlncjgnomhpjnabGreatDoor

/-
  The program: head.Unfinished.
-/
namespace Go.Proofs.YtlncjgnomhpjnabGreatDoor
open Go.RowKit Go.Deep
set_option linter.unusedVariables false
theorem Bx.fz {u : World} {q : Nat} {t : TypeId} {cs : Array Value} (h : Bx u q t cs) (i : Nat) : u.frozen? ⟨q, i, none⟩ = false := by
  simp [World.frozen?, show u.heap[q]? = _ from h]
theorem un_cells {u : World} {p q : Nat} {c0 c1 : Int} {B c3 seek S : Nat} (hI : Bx u p 39 #[.int .i64 c0, .int .i64 c1, .int .i64 B, .int .i64 c3, .int .i64 seek, .int .i64 S]) (hZ : Bx u q 110 #[.int .i64 0, .int .i64 0, .int .i64 0, .int .i64 0, .int .i64 0, .int .i64 0, .bool false, .int .i64 0, .int .i64 0, .int .i64 0, .slice none 0 0]) : u.cell? ⟨p, 0, none⟩ = some (.int .i64 c0) ∧ u.cell? ⟨p, 1, none⟩ = some (.int .i64 c1) ∧ u.cell? ⟨p, 2, none⟩ = some (.int .i64 (B : Int)) ∧ u.cell? ⟨p, 3, none⟩ = some (.int .i64 (c3 : Int)) ∧ u.cell? ⟨p, 4, none⟩ = some (.int .i64 (seek : Int)) ∧ u.cell? ⟨p, 5, none⟩ = some (.int .i64 (S : Int)) ∧ u.cell? ⟨q, 0, none⟩ = some (.int .i64 0) ∧ u.cell? ⟨q, 1, none⟩ = some (.int .i64 0) ∧ u.cell? ⟨q, 2, none⟩ = some (.int .i64 0) ∧ u.cell? ⟨q, 3, none⟩ = some (.int .i64 0) ∧ u.cell? ⟨q, 4, none⟩ = some (.int .i64 0) ∧ u.cell? ⟨q, 5, none⟩ = some (.int .i64 0) ∧ u.cell? ⟨q, 6, none⟩ = some (.bool false) ∧ u.cell? ⟨q, 7, none⟩ = some (.int .i64 0) ∧ u.cell? ⟨q, 8, none⟩ = some (.int .i64 0) ∧ u.cell? ⟨q, 9, none⟩ = some (.int .i64 0) ∧ u.cell? ⟨q, 10, none⟩ = some (.slice none 0 0) ∧ u.frozen? ⟨q, 0, none⟩ = false ∧ u.frozen? ⟨q, 1, none⟩ = false ∧ u.frozen? ⟨q, 2, none⟩ = false ∧ u.frozen? ⟨q, 3, none⟩ = false ∧ u.frozen? ⟨q, 4, none⟩ = false ∧ u.frozen? ⟨q, 5, none⟩ = false ∧ u.frozen? ⟨q, 6, none⟩ = false ∧ u.frozen? ⟨q, 7, none⟩ = false ∧ u.frozen? ⟨q, 8, none⟩ = false ∧ u.frozen? ⟨q, 9, none⟩ = false ∧ u.frozen? ⟨q, 10, none⟩ = false :=
  ⟨hI.cell 0, hI.cell 1, hI.cell 2, hI.cell 3, hI.cell 4, hI.cell 5, hZ.cell 0, hZ.cell 1, hZ.cell 2, hZ.cell 3, hZ.cell 4, hZ.cell 5, hZ.cell 6, hZ.cell 7, hZ.cell 8, hZ.cell 9, hZ.cell 10, hZ.fz 0, hZ.fz 1, hZ.fz 2, hZ.fz 3, hZ.fz 4, hZ.fz 5, hZ.fz 6, hZ.fz 7, hZ.fz 8, hZ.fz 9, hZ.fz 10⟩
theorem Bx.set11 {u : World} {q : Nat} {t : TypeId} {o0 o1 o2 o3 o4 o5 o6 o7 o8 o9 o10 : Value} (h : Bx u q t #[o0, o1, o2, o3, o4, o5, o6, o7, o8, o9, o10]) (s0 s1 s2 s3 s4 s5 s6 s7 s8 s9 s10 : Value) : Bx ((((((((((((u.setCell ⟨q, 0, none⟩ s0).setCell ⟨q, 1, none⟩ s1).setCell ⟨q, 2, none⟩ s2).setCell ⟨q, 3, none⟩ s3).setCell ⟨q, 4, none⟩ s4).setCell ⟨q, 5, none⟩ s5).setCell ⟨q, 6, none⟩ s6).setCell ⟨q, 7, none⟩ s7).setCell ⟨q, 8, none⟩ s8).setCell ⟨q, 9, none⟩ s9).setCell ⟨q, 10, none⟩ s10)) q t #[s0, s1, s2, s3, s4, s5, s6, s7, s8, s9, s10] := by
  simp [Bx, World.setCell, Array.getElem?_modify, show u.heap[q]? = _ from h]
theorem set11_below {B q : Nat} {w u : World} {s0 s1 s2 s3 s4 s5 s6 s7 s8 s9 s10 : Value} (h : Below B w u) (hq : B ≤ q) : Below B w ((((((((((((u.setCell ⟨q, 0, none⟩ s0).setCell ⟨q, 1, none⟩ s1).setCell ⟨q, 2, none⟩ s2).setCell ⟨q, 3, none⟩ s3).setCell ⟨q, 4, none⟩ s4).setCell ⟨q, 5, none⟩ s5).setCell ⟨q, 6, none⟩ s6).setCell ⟨q, 7, none⟩ s7).setCell ⟨q, 8, none⟩ s8).setCell ⟨q, 9, none⟩ s9).setCell ⟨q, 10, none⟩ s10)) :=
  ((((((((((h.setCell (p := ⟨q, 0, none⟩) hq _).setCell (p := ⟨q, 1, none⟩) hq _).setCell (p := ⟨q, 2, none⟩) hq _).setCell (p := ⟨q, 3, none⟩) hq _).setCell (p := ⟨q, 4, none⟩) hq _).setCell (p := ⟨q, 5, none⟩) hq _).setCell (p := ⟨q, 6, none⟩) hq _).setCell (p := ⟨q, 7, none⟩) hq _).setCell (p := ⟨q, 8, none⟩) hq _).setCell (p := ⟨q, 9, none⟩) hq _).setCell (p := ⟨q, 10, none⟩) hq _
theorem set11_gr {q : Nat} (u : World) (s0 s1 s2 s3 s4 s5 s6 s7 s8 s9 s10 : Value) : u.grownBy ((((((((((((u.setCell ⟨q, 0, none⟩ s0).setCell ⟨q, 1, none⟩ s1).setCell ⟨q, 2, none⟩ s2).setCell ⟨q, 3, none⟩ s3).setCell ⟨q, 4, none⟩ s4).setCell ⟨q, 5, none⟩ s5).setCell ⟨q, 6, none⟩ s6).setCell ⟨q, 7, none⟩ s7).setCell ⟨q, 8, none⟩ s8).setCell ⟨q, 9, none⟩ s9).setCell ⟨q, 10, none⟩ s10)) (some q) :=
  gr_trans (gr_trans (gr_trans (gr_trans (gr_trans (gr_trans (gr_trans (gr_trans (gr_trans (gr_trans (gr_set _ ⟨q, 0, none⟩ _) (gr_set _ ⟨q, 1, none⟩ _)) (gr_set _ ⟨q, 2, none⟩ _)) (gr_set _ ⟨q, 3, none⟩ _)) (gr_set _ ⟨q, 4, none⟩ _)) (gr_set _ ⟨q, 5, none⟩ _)) (gr_set _ ⟨q, 6, none⟩ _)) (gr_set _ ⟨q, 7, none⟩ _)) (gr_set _ ⟨q, 8, none⟩ _)) (gr_set _ ⟨q, 9, none⟩ _)) (gr_set _ ⟨q, 10, none⟩ _)
theorem res_un (tmps : Array Value) (R : Nat) (cs : Array Value) (W : World) (h : Bx W R 110 cs) (hs : cs.size = 11) (h2 : tmps.getD 2 undef = .pointer (some ⟨R, 0, none⟩)) :
    (results Tryz.f136 tmps).run Tryz.prog W = .ok (.agg cs) W := by
  have hl := run_loadVar_row (P := Tryz.prog) W R 110 110 cs (0, 0) _ h Tryz.underlying110 rfl (by rw [hs]; exact infoHd11)
  rw [Array.getD_eq_getD_getElem?] at h2
  simp [results, Tryz.results136, asAddr, h2, hl]
set_option maxRecDepth 4000 in
set_option maxHeartbeats 2000000 in
theorem unfinished_any (c0 c1 : Int) (B c3 seek S : Nat) (w : World) (hB : 1 ≤ B) (hB2 : B ≤ 100000) (hS : S ≤ 300) (hk : seek ≤ 100000) :
    Calls Tryz.prog 136 #[.agg #[.int .i64 c0, .int .i64 c1, .int .i64 B, .int .i64 c3, .int .i64 seek, .int .i64 S]] w fun e w' => ∃ g, e = .returned (.agg (hdC c0 c1 B c3 seek S false 0 0 0 (.slice (some ⟨g, 0, none⟩) (nPts S B seek) (nPts S B seek)))) ∧ w'.rowIs g 3 (nPts S B seek) (fun _ => .int .i64 0) ∧ Below w.heap.size w w' := by
  have HB0 : Hid (Below w.heap.size w (w.alloc (.cells #[.int .i64 c0, .int .i64 c1, .int .i64 B, .int .i64 c3, .int .i64 seek, .int .i64 S] 39))) := (Below.refl _ _).alloc (Nat.le_refl _) _
  have HPT := Hid.mk' (fun u => hpoints_any c0 c1 B c3 seek S u hB hB2 (by omega) hk)
  have hN : nPts S B seek ≤ 300 := by
    unfold nPts
    split
    · omega
    · have h1 := nBlk_le (S := S) hB
      have h2 := nBlk_le (S := nBlk S B) (B := seek) (by omega)
      omega
  generalize nPts S B seek = N at *
  have hmk := run_make_row' (P := Tryz.prog) 30 3 (.int .i64 0) 8 Tryz.underlying30 infoInt rfl .i64 .i64 N (by omega) (by omega)
  go_enter Tryz.func136, Tryz.ntmps136
  have hI0 : Bx ((w.alloc (.cells #[.int .i64 c0, .int .i64 c1, .int .i64 B, .int .i64 c3, .int .i64 seek, .int .i64 S] 39)).alloc (.cells #[.int .i64 0, .int .i64 0, .int .i64 0, .int .i64 0, .int .i64 0, .int .i64 0, .bool false, .int .i64 0, .int .i64 0, .int .i64 0, .slice none 0 0] 110)) w.heap.size 39 #[.int .i64 c0, .int .i64 c1, .int .i64 B, .int .i64 c3, .int .i64 seek, .int .i64 S] := (Bx.new w _ _).alloc _
  have hZ0 : Bx ((w.alloc (.cells #[.int .i64 c0, .int .i64 c1, .int .i64 B, .int .i64 c3, .int .i64 seek, .int .i64 S] 39)).alloc (.cells #[.int .i64 0, .int .i64 0, .int .i64 0, .int .i64 0, .int .i64 0, .int .i64 0, .bool false, .int .i64 0, .int .i64 0, .int .i64 0, .slice none 0 0] 110)) (w.heap.size + 1) 110 #[.int .i64 0, .int .i64 0, .int .i64 0, .int .i64 0, .int .i64 0, .int .i64 0, .bool false, .int .i64 0, .int .i64 0, .int .i64 0, .slice none 0 0] := Bx.new2 (by simp) _ _
  have HI0 := Hid.mk' hI0
  have HZ0 := Hid.mk' hZ0
  have HB9 : Hid (Below w.heap.size w ((w.alloc (.cells #[.int .i64 c0, .int .i64 c1, .int .i64 B, .int .i64 c3, .int .i64 seek, .int .i64 S] 39)).alloc (.cells #[.int .i64 0, .int .i64 0, .int .i64 0, .int .i64 0, .int .i64 0, .int .i64 0, .bool false, .int .i64 0, .int .i64 0, .int .i64 0, .slice none 0 0] 110))) := HB0.out.alloc HB0.out.size _
  have hS0 := un_cells (u := ((w.alloc (.cells #[.int .i64 c0, .int .i64 c1, .int .i64 B, .int .i64 c3, .int .i64 seek, .int .i64 S] 39)).alloc (.cells #[.int .i64 0, .int .i64 0, .int .i64 0, .int .i64 0, .int .i64 0, .int .i64 0, .bool false, .int .i64 0, .int .i64 0, .int .i64 0, .slice none 0 0] 110)).drew) hI0 hZ0
  clear hI0 hZ0
  obtain ⟨x0, x1, x2, x3, x4, x5, x6, x7, x8, x9, x10, x11, x12, x13, x14, x15, x16, x17, x18, x19, x20, x21, x22, x23, x24, x25, x26, x27⟩ := hS0
  go_wp2_with fail
  go_region_with (first | (go_at_call 134; refine (HPT.out _).mono ?_; rintro e u1 ⟨rfl, hb⟩; have hI1 : Bx u1 w.heap.size 39 #[.int .i64 c0, .int .i64 c1, .int .i64 B, .int .i64 c3, .int .i64 seek, .int .i64 S] := Bx.below (w := ((w.alloc (.cells #[.int .i64 c0, .int .i64 c1, .int .i64 B, .int .i64 c3, .int .i64 seek, .int .i64 S] 39)).alloc (.cells #[.int .i64 0, .int .i64 0, .int .i64 0, .int .i64 0, .int .i64 0, .int .i64 0, .bool false, .int .i64 0, .int .i64 0, .int .i64 0, .slice none 0 0] 110)).drew) HI0.out hb; have hZ1 : Bx u1 (w.heap.size + 1) 110 #[.int .i64 0, .int .i64 0, .int .i64 0, .int .i64 0, .int .i64 0, .int .i64 0, .bool false, .int .i64 0, .int .i64 0, .int .i64 0, .slice none 0 0] := Bx.below (w := ((w.alloc (.cells #[.int .i64 c0, .int .i64 c1, .int .i64 B, .int .i64 c3, .int .i64 seek, .int .i64 S] 39)).alloc (.cells #[.int .i64 0, .int .i64 0, .int .i64 0, .int .i64 0, .int .i64 0, .int .i64 0, .bool false, .int .i64 0, .int .i64 0, .int .i64 0, .slice none 0 0] 110)).drew) HZ0.out hb; have hS1 := un_cells hI1 hZ1; have hS2 := un_cells (hI1.alloc (.cells (madeCells #[.int .i64 0] N) 3)) (hZ1.alloc (.cells (madeCells #[.int .i64 0] N) 3)); obtain ⟨y0, y1, y2, y3, y4, y5, y6, y7, y8, y9, y10, y11, y12, y13, y14, y15, y16, y17, y18, y19, y20, y21, y22, y23, y24, y25, y26, y27⟩ := hS1; obtain ⟨z0, z1, z2, z3, z4, z5, z6, z7, z8, z9, z10, z11, z12, z13, z14, z15, z16, z17, z18, z19, z20, z21, z22, z23, z24, z25, z26, z27⟩ := hS2; have HZ1 := Hid.mk' hZ1; have HB1 : Hid (Below w.heap.size w u1) := HB9.out.drew.trans (hb.mono HB9.out.size); clear HPT hb hI1 hZ1 HI0 HZ0))
  all_goals
    (have hne : u1.heap.size ≠ w.heap.size + 1 := by have := HZ1.out.lt; omega
     have hrow := (World.rowIs_made u1 (.int .i64 0) N 3)
     go_wp2
     refine bodyPost_ret (res_un _ (w.heap.size + 1) _ _ ((HZ1.out.alloc _).set11 _ _ _ _ _ _ _ _ _ _ _) rfl rfl) rfl ⟨u1.heap.size, rfl, ?_, set11_below (HB1.out.alloc HB1.out.size _) (Nat.le_succ _)⟩
     exact (hrow.congr fun i _ => rfl).of_block ((set11_gr _ _ _ _ _ _ _ _ _ _ _ _).block _ (by simp) (fun e => hne (by injection e))))
end Go.Proofs.YtlncjgnomhpjnabGreatDoor

/-
  The program reads a head: head.Read.
-/
namespace Go.Proofs.YtlncjgnomhpjnabGreatDoor
open Go.RowKit Go.Deep
set_option linter.unusedVariables false
def hd0 : Value := .agg (hdC 0 0 0 0 0 0 false 0 0 0 (.slice none 0 0))
/-- what reading a head gives -/
def HdOut (e : Ending) (w w' : World) (T : List UInt8) : Prop :=
  ((HdP T ∧ ∃ pv, e = .returned (.tuple #[.agg (hdC (dCh T) (dDe T) (dBl T) (dRa T) (dSe T) (dSa T) (decide (dWh T = 1)) (dLe T) (dMo T) (dSu T) pv), .int .i64 (dSz T), .bool true]) ∧ w'.ownsRow w.heap.size 3 1 pv (dNp T) (pntV (dPts T)))
   ∨ (¬ HdP T ∧ e = .returned (.tuple #[hd0, .int .i64 0, .bool false]))) ∧ Below w.heap.size w w'
theorem res_hr (tmps : Array Value) (R : Nat) (k : Int) (b : Bool) (cs : Array Value) (W : World) (h : Bx W R 110 cs) (hs : cs.size = 11) (h2 : tmps.getD 2 undef = .pointer (some ⟨R, 0, none⟩)) (h3 : tmps.getD 3 undef = .int .i64 k) (h4 : tmps.getD 4 undef = .bool b) :
    (results Tryz.f69 tmps).run Tryz.prog W = .ok (.tuple #[.agg cs, .int .i64 k, .bool b]) W := by
  have hl := run_loadVar_row (P := Tryz.prog) W R 110 110 cs (0, 0) _ h Tryz.underlying110 rfl (by rw [hs]; exact infoHd11)
  rw [Array.getD_eq_getD_getElem?] at h2 h3 h4
  simp [results, Tryz.results69, asAddr, h2, h3, h4, hl]
set_option maxRecDepth 4000 in
set_option maxHeartbeats 2000000 in
theorem headRead_short (T : List UInt8) (w : World) (hs : T.length < 20) : Calls Tryz.prog 69 #[.string (bs T)] w fun e w' => HdOut e w w' T := by
  have hz : (bs T).size = T.length := bs_size T
  have HB0 : Hid (Below w.heap.size w (w.alloc (.cells #[.int .i64 0, .int .i64 0, .int .i64 0, .int .i64 0, .int .i64 0, .int .i64 0, .bool false, .int .i64 0, .int .i64 0, .int .i64 0, .slice none 0 0] 110))) := (Below.refl _ _).alloc (Nat.le_refl _) _
  have HZ0 : Hid (Bx (w.alloc (.cells #[.int .i64 0, .int .i64 0, .int .i64 0, .int .i64 0, .int .i64 0, .int .i64 0, .bool false, .int .i64 0, .int .i64 0, .int .i64 0, .slice none 0 0] 110)) w.heap.size 110 #[.int .i64 0, .int .i64 0, .int .i64 0, .int .i64 0, .int .i64 0, .int .i64 0, .bool false, .int .i64 0, .int .i64 0, .int .i64 0, .slice none 0 0]) := Bx.new w _ _
  have HNO : Hid (¬ HdP T) := fun h => by have := h.1; omega
  have c1 : (T.length : Int) < 20 := by omega
  have c1d : decide ((T.length : Int) < 20) = true := decide_eq_true c1
  generalize bs T = SB at *
  generalize T.length = nT at *
  go_enter Tryz.func69, Tryz.ntmps69
  go_wp2_with fail
  exact bodyPost_ret (res_hr _ w.heap.size 0 false _ _ (HZ0.out) rfl rfl rfl rfl) rfl ⟨.inr ⟨HNO.out, rfl⟩, HB0.out⟩
set_option maxRecDepth 4000 in
set_option maxHeartbeats 2000000 in
theorem headRead_eight (T : List UInt8) (w : World) (hs : 20 ≤ T.length) (hs2 : T.length ≤ 9000) (h8 : ¬ seal8 (T.take 19) = T.take 20) : Calls Tryz.prog 69 #[.string (bs T)] w fun e w' => HdOut e w w' T := by
  have hz : (bs T).size = T.length := bs_size T
  have HB0 : Hid (Below w.heap.size w (w.alloc (.cells #[.int .i64 0, .int .i64 0, .int .i64 0, .int .i64 0, .int .i64 0, .int .i64 0, .bool false, .int .i64 0, .int .i64 0, .int .i64 0, .slice none 0 0] 110))) := (Below.refl _ _).alloc (Nat.le_refl _) _
  have HZ0 : Hid (Bx (w.alloc (.cells #[.int .i64 0, .int .i64 0, .int .i64 0, .int .i64 0, .int .i64 0, .int .i64 0, .bool false, .int .i64 0, .int .i64 0, .int .i64 0, .slice none 0 0] 110)) w.heap.size 110 #[.int .i64 0, .int .i64 0, .int .i64 0, .int .i64 0, .int .i64 0, .int .i64 0, .bool false, .int .i64 0, .int .i64 0, .int .i64 0, .slice none 0 0]) := Bx.new w _ _
  have HNO : Hid (¬ HdP T) := fun h => h8 ((hdP_iff T).1 h).1.2
  have c1 : ¬ (T.length : Int) < 20 := by omega
  have c1d : decide ((T.length : Int) < 20) = false := decide_eq_false c1
  have i20 : (20 : Int) ≤ (T.length : Int) := by omega
  have n20 : 20 ≤ T.length := by omega
  have e20 : (bs T).extract 0 20 = bs (T.take 20) := bs_takeN T 20
  have HS8 := Hid.mk' (fun u => isSealed8_any (T.take 20) u (by rw [List.length_take]; omega))
  have HQ8 : Hid ((1 ≤ (T.take 20).length ∧ seal8 ((T.take 20).take ((T.take 20).length - 1)) = T.take 20) ↔ seal8 (T.take 19) = T.take 20) := by
    have e : (T.take 20).length = 20 := by rw [List.length_take]; omega
    show _ ↔ _
    rw [e, List.take_take]
    exact ⟨fun h => h.2, fun h => ⟨by omega, h⟩⟩
  generalize bs (T.take 20) = S20 at *
  have HN8 := Hid.mk' (fun h => h8 (HQ8.out.1 h))
  clear h8 HQ8
  generalize bs T = SB at *
  generalize T.length = nT at *
  go_enter Tryz.func69, Tryz.ntmps69
  go_wp2_with (first
    | (go_at_call 132; refine (HS8.out _).mono ?_; rintro e u1 ⟨he, hb⟩; have he := he.false_of HN8.out; subst he; have HZ1 := Hid.mk' (HZ0.out.below hb); have HB1 := Hid.mk' (HB0.out.trans (hb.mono HB0.out.size)); clear HS8 hb HZ0 HB0)
    | (refine wpList_storeRow rfl _ _ 110 rfl w.heap.size 110 _ _ rfl rfl HZ1.out infoHd11 rfl rfl ?_))
  exact bodyPost_ret (res_hr _ w.heap.size 0 false _ _ (HZ1.out.row _) rfl rfl rfl rfl) rfl ⟨.inr ⟨HNO.out, rfl⟩, HB1.out.grown (grown_row _ _ _) HB1.out.size (fun j hj => by injection hj with hj; omega)⟩
set_option maxRecDepth 4000 in
set_option maxHeartbeats 2000000 in
theorem headRead_fields (T : List UInt8) (w : World) (hs : 20 ≤ T.length) (hs2 : T.length ≤ 9000) (h8 : seal8 (T.take 19) = T.take 20) (hf : ¬ (T.take 2 = [82, 76] ∧ dWh T ≤ 1 ∧ infoB (dCh T) (dDe T) (dBl T) (dRa T) (dSe T) (dSa T) = true)) : Calls Tryz.prog 69 #[.string (bs T)] w fun e w' => HdOut e w w' T := by
  have hz : (bs T).size = T.length := bs_size T
  have HB0 : Hid (Below w.heap.size w (w.alloc (.cells #[.int .i64 0, .int .i64 0, .int .i64 0, .int .i64 0, .int .i64 0, .int .i64 0, .bool false, .int .i64 0, .int .i64 0, .int .i64 0, .slice none 0 0] 110))) := (Below.refl _ _).alloc (Nat.le_refl _) _
  have HZ0 : Hid (Bx (w.alloc (.cells #[.int .i64 0, .int .i64 0, .int .i64 0, .int .i64 0, .int .i64 0, .int .i64 0, .bool false, .int .i64 0, .int .i64 0, .int .i64 0, .slice none 0 0] 110)) w.heap.size 110 #[.int .i64 0, .int .i64 0, .int .i64 0, .int .i64 0, .int .i64 0, .int .i64 0, .bool false, .int .i64 0, .int .i64 0, .int .i64 0, .slice none 0 0]) := Bx.new w _ _
  have HNO : Hid (¬ HdP T) := fun h => hf ((hdP_iff T).1 h).2.1
  have HRF := Hid.mk' (fun u => readFields_any T u hs hs2)
  have hF : (decide (T.take 2 = [82, 76]) && (decide (dWh T ≤ 1) && infoB (dCh T) (dDe T) (dBl T) (dRa T) (dSe T) (dSa T))) = false := by
    refine Bool.eq_false_iff.2 fun h => hf ?_
    simpa using h
  rw [hF] at HRF
  unfold hdC at HRF
  clear hF hf
  have c1 : ¬ (T.length : Int) < 20 := by omega
  have c1d : decide ((T.length : Int) < 20) = false := decide_eq_false c1
  have i20 : (20 : Int) ≤ (T.length : Int) := by omega
  have n20 : 20 ≤ T.length := by omega
  have e20 : (bs T).extract 0 20 = bs (T.take 20) := bs_takeN T 20
  have HS8 := Hid.mk' (fun u => isSealed8_any (T.take 20) u (by rw [List.length_take]; omega))
  have HQ8 : Hid ((1 ≤ (T.take 20).length ∧ seal8 ((T.take 20).take ((T.take 20).length - 1)) = T.take 20) ↔ seal8 (T.take 19) = T.take 20) := by
    have e : (T.take 20).length = 20 := by rw [List.length_take]; omega
    show _ ↔ _
    rw [e, List.take_take]
    exact ⟨fun h => h.2, fun h => ⟨by omega, h⟩⟩
  generalize bs (T.take 20) = S20 at *
  have HY8 := Hid.mk' (HQ8.out.2 h8)
  clear h8 HQ8
  generalize bs T = SB at *
  generalize T.length = nT at *
  go_enter Tryz.func69, Tryz.ntmps69
  go_wp2_with (first
    | (go_at_call 132; refine (HS8.out _).mono ?_; rintro e u1 ⟨he, hb⟩; have he := he.true_of HY8.out; subst he; have HZ1 := Hid.mk' (HZ0.out.below hb); have HB1 := Hid.mk' (HB0.out.trans (hb.mono HB0.out.size)); clear HS8 hb HZ0 HB0)
    | (go_at_call 133; refine (HRF.out _).mono ?_; rintro e u2 ⟨rfl, hb⟩; have HZ2 := Hid.mk' (HZ1.out.below hb); have HB2 := Hid.mk' (HB1.out.trans (hb.mono HB1.out.size)); clear HRF hb HZ1 HB1)
    | (refine wpList_storeRow rfl _ _ 110 rfl w.heap.size 110 _ _ rfl rfl (Hid.mk' (HZ2.out.alloc _)).out infoHd11 rfl rfl ?_))
  exact bodyPost_ret (res_hr _ w.heap.size 0 false _ _ ((HZ2.out.alloc _).row _) rfl rfl rfl rfl) rfl ⟨.inr ⟨HNO.out, rfl⟩, (HB2.out.alloc HB2.out.size _).grown (grown_row _ _ _) (HB2.out.alloc HB2.out.size _).size (fun j hj => by injection hj with hj; omega)⟩
end Go.Proofs.YtlncjgnomhpjnabGreatDoor

