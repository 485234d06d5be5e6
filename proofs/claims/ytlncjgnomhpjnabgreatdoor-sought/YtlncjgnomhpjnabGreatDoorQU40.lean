import Derived.Test.YtlncjgnomhpjnabGreatDoorQU38
import Derived.Test.YtlncjgnomhpjnabGreatDoorQU39
import Derived.Test.YtlncjgnomhpjnabGreatDoorQU1
import Derived.ArgAppend
import Derived.Deep.OwnRows
/-
  The program reads a head: what an unfinished one says; head.Unfinished.
-/
namespace Go.Proofs.YtlncjgnomhpjnabGreatDoor
open Go.RowKit Go.Deep
set_option linter.unusedVariables false
theorem piece_left (A B : List UInt8) (a b : Nat) (hab : a ≤ b) (hb : b ≤ A.length) : pieceT (A ++ B) a b = pieceT A a b := by
  unfold pieceT
  rw [List.drop_append_of_le_length (by omega), List.take_append_of_le_length (by rw [List.length_drop]; omega)]
theorem piece_right (A B : List UInt8) (a b : Nat) (ha : A.length ≤ a) : pieceT (A ++ B) a b = pieceT B (a - A.length) (b - A.length) := by
  unfold pieceT
  rw [List.drop_append, List.drop_eq_nil_of_le ha, List.nil_append]
  congr 1; omega
theorem piece_whole (A : List UInt8) (b : Nat) (hb : b = A.length) : pieceT A 0 b = A := by
  unfold pieceT
  rw [List.drop_zero]
  exact List.take_of_length_le (by omega)
theorem piece_take (T : List UInt8) (n a b : Nat) (hb : b ≤ n) : pieceT (T.take n) a b = pieceT T a b := by
  unfold pieceT
  rw [List.drop_take, List.take_take, Nat.min_eq_left (by omega)]
/-- the numbers of a head, out of its text -/
theorem headTx_fld (wh c0 c1 c2 c3 s c4 le mo su : Nat) (ps : List Nat) (hle : le < 65536) (hmo : mo < 65536) (hsu : su < 4294967296) :
    fld (headTx wh c0 c1 c2 c3 s c4 le mo su ps) 11 13 = le ∧ fld (headTx wh c0 c1 c2 c3 s c4 le mo su ps) 13 15 = mo ∧ fld (headTx wh c0 c1 c2 c3 s c4 le mo su ps) 15 19 = su := by
  have hF : ∀ a b, a ≤ b → b ≤ 19 → pieceT (headTx wh c0 c1 c2 c3 s c4 le mo su ps) a b = pieceT (fieldsT wh c0 c1 c2 c3 s c4 le mo su) a b := fun a b h1 h2 => by
    have hl := fieldsT_length wh c0 c1 c2 c3 s c4 le mo su
    unfold headTx seal16
    rw [piece_left _ _ a b h1 (by rw [List.length_append, seal8_length]; omega), piece_left _ _ a b h1 (by rw [seal8_length]; omega)]
    unfold seal8
    rw [piece_left _ _ a b h1 (by omega)]
  have hA : ([82, 76] ++ inT wh 1 ++ inT c0 1 ++ inT c1 1 ++ inT c2 1 ++ inT c3 2 ++ inT s 2 ++ inT c4 1 : List UInt8).length = 11 := by simp [inT_length]
  unfold fld
  rw [hF 11 13 (by omega) (by omega), hF 13 15 (by omega) (by omega), hF 15 19 (by omega) (by omega)]
  unfold fieldsT
  refine ⟨?_, ?_, ?_⟩
  · rw [piece_left _ _ 11 13 (by omega) (by simp [inT_length]), piece_left _ _ 11 13 (by omega) (by simp [inT_length]), piece_right _ _ 11 13 (by simp [inT_length]), hA, piece_whole _ _ (by rw [inT_length]), valN_inT 2 le (by omega)]
  · rw [piece_left _ _ 13 15 (by omega) (by simp [inT_length]), piece_right _ _ 13 15 (by simp [inT_length]), List.length_append, hA, inT_length, piece_whole _ _ (by rw [inT_length]), valN_inT 2 mo (by omega)]
  · rw [piece_right _ _ 15 19 (by simp [inT_length]), List.length_append, List.length_append, hA, inT_length, inT_length, piece_whole _ _ (by rw [inT_length]), valN_inT 4 su (by omega)]
theorem foldl_pts (b : List Nat) : ∀ t, b.foldl (fun t p => t ++ inT p 2) t = t ++ ptsT b := by
  induction b with
  | nil => intro t; simp [ptsT]
  | cons x r ih =>
    intro t
    have e : ptsT (x :: r) = inT x 2 ++ ptsT r := by
      show List.foldl _ ([] ++ inT x 2) r = _
      rw [ih]; simp
    rw [List.foldl_cons, ih, e, List.append_assoc]
theorem ptsT_app (a b : List Nat) : ptsT (a ++ b) = ptsT a ++ ptsT b := by
  unfold ptsT
  rw [List.foldl_append]
  exact foldl_pts b _
theorem headTx_pt (wh c0 c1 c2 c3 s c4 le mo su : Nat) (ps : List Nat) (k : Nat) (hk : k < ps.length) (hp : ps[k] < 65536) : fld (headTx wh c0 c1 c2 c3 s c4 le mo su ps) (20 + 2 * k) (22 + 2 * k) = ps[k] := by
  have hl := fieldsT_length wh c0 c1 c2 c3 s c4 le mo su
  have hpl : (ptsT ps).length = 2 * ps.length := by have := ptsT_length ps ps.length (Nat.le_refl _); rwa [List.take_length] at this
  have h8 : (seal8 (fieldsT wh c0 c1 c2 c3 s c4 le mo su)).length = 20 := by rw [seal8_length, hl]
  unfold fld headTx seal16
  rw [piece_left _ _ _ _ (by omega) (by rw [List.length_append, h8, hpl]; omega), piece_right _ _ _ _ (by omega), h8, show 20 + 2 * k - 20 = 2 * k by omega, show 22 + 2 * k - 20 = 2 * k + 2 by omega]
  have e : ptsT ps = ptsT (ps.take k) ++ (inT ps[k] 2 ++ ptsT (ps.drop (k + 1))) := by
    rw [← List.append_assoc, ← ptsT_take ps k hk, ← ptsT_app, List.take_append_drop]
  have hlk := ptsT_length ps k (by omega)
  rw [e, piece_right _ _ _ _ (by omega), hlk, Nat.sub_self, show 2 * k + 2 - 2 * k = 2 by omega, piece_left _ _ _ _ (by omega) (by rw [inT_length]; exact Nat.le_refl _), piece_whole _ _ (by rw [inT_length]), valN_inT 2 _ (by omega)]
/-- an unfinished head says nothing that can't be known yet -/
theorem unfin_iff (T : List UInt8) (hw : dWh T = 0) (hsz : dSz T ≤ T.length) (hTx : dTx T = T.take (dSz T)) :
    T.take (dSz T) = headTx 0 (dCh T) (dDe T) (dBl T) (dRa T) (dSa T) (dSe T) 0 0 0 (List.replicate (dNp T) 0) ↔ dLe T = 0 ∧ dMo T = 0 ∧ dSu T = 0 ∧ ∀ p ∈ dPts T, p = 0 := by
  have hd : 22 ≤ dSz T := by unfold dSz; omega
  constructor
  · intro h
    have hf := headTx_fld 0 (dCh T) (dDe T) (dBl T) (dRa T) (dSa T) (dSe T) 0 0 0 (List.replicate (dNp T) 0) (by omega) (by omega) (by omega)
    rw [← h] at hf
    unfold fld at hf
    rw [piece_take _ _ _ _ (by omega), piece_take _ _ _ _ (by omega), piece_take _ _ _ _ (by omega)] at hf
    refine ⟨hf.1, hf.2.1, hf.2.2, fun p hp => ?_⟩
    unfold dPts at hp
    obtain ⟨k, hk, rfl⟩ := List.mem_map.1 hp
    have hk := List.mem_range.1 hk
    have h1 := headTx_pt 0 (dCh T) (dDe T) (dBl T) (dRa T) (dSa T) (dSe T) 0 0 0 (List.replicate (dNp T) 0) k (by simpa using hk) (by simp)
    rw [← h] at h1
    unfold fld at h1
    rw [piece_take _ _ _ _ (by unfold dSz; omega)] at h1
    simpa [fld] using h1
  · rintro ⟨h1, h2, h3, h4⟩
    have hp : dPts T = List.replicate (dNp T) 0 := by
      rw [List.eq_replicate_iff]
      exact ⟨dPts_length T, h4⟩
    rw [← hTx]
    unfold dTx
    rw [hw, h1, h2, h3, hp]
/-- the program's tests -/
theorem hdP_iff (T : List UInt8) : HdP T ↔ (20 ≤ T.length ∧ seal8 (T.take 19) = T.take 20) ∧ (T.take 2 = [82, 76] ∧ dWh T ≤ 1 ∧ infoB (dCh T) (dDe T) (dBl T) (dRa T) (dSe T) (dSa T) = true) ∧ (dSz T ≤ T.length ∧ seal16 (T.take (dSz T - 2)) = T.take (dSz T)) ∧ (dWh T = 0 → T.take (dSz T) = headTx 0 (dCh T) (dDe T) (dBl T) (dRa T) (dSa T) (dSe T) 0 0 0 (List.replicate (dNp T) 0)) := by
  have hd : 22 ≤ dSz T := by unfold dSz; omega
  constructor
  · rintro ⟨h1, h2, h3, h4, h5, h6⟩
    obtain ⟨g1, g2, g3⟩ := (dTx_iff T h1 h4).1 h5
    exact ⟨⟨by omega, g2⟩, ⟨g1, h2, h3⟩, ⟨h4, g3⟩, fun hw => (unfin_iff T hw h4 h5).2 (h6 hw)⟩
  · rintro ⟨⟨h1, h2⟩, ⟨h3, h4, h5⟩, ⟨h6, h7⟩, h8⟩
    have hTx := (dTx_iff T (by omega) h6).2 ⟨h3, h2, h7⟩
    exact ⟨by omega, h4, h5, h6, hTx, fun hw => (unfin_iff T hw h6 hTx).1 (h8 hw)⟩
end Go.Proofs.YtlncjgnomhpjnabGreatDoor

/-
  Lists that came out, and what is appended to them.
-/
namespace Go.Proofs.YtlncjgnomhpjnabGreatDoor
open Go.RowKit Go.Deep
set_option linter.unusedVariables false
theorem gr_trans {a b c : World} {r : Option Nat} (h : a.grownBy b r) (k : b.grownBy c r) : a.grownBy c r :=
  ⟨k.os.trans h.os, k.tape.trans h.tape, k.output.trans h.output, Nat.le_trans h.size k.size, fun j hj hne => (k.block j (Nat.lt_of_lt_of_le hj h.size) hne).trans (h.block j hj hne)⟩
theorem gr_set (w : World) (a : Addr) (v : Value) : w.grownBy (w.setCell a v) (some a.block) :=
  ⟨rfl, rfl, rfl, by simp, fun j hj hne => blk_setCell_other _ _ _ _ (fun e => hne (by rw [e]))⟩
/-- a list that may be written into: nil, or a piece of a row -/
def LstE (e : TypeId) (w : World) (v : Value) (n : Nat) (og : Option Nat) (x : Nat → Value) : Prop :=
  (v = .slice none 0 0 ∧ n = 0 ∧ og = none) ∨ ∃ g o c N f, og = some g ∧ v = .slice (some ⟨g, o, none⟩) n c ∧ w.rowIs g e N f ∧ o + c ≤ N ∧ n ≤ c ∧ ∀ i, i < n → f (o + i) = x i
theorem LstE.row {e : TypeId} {w : World} {v : Value} {n : Nat} {og : Option Nat} {x : Nat → Value} (h : LstE e w v n og x) {g : Nat} (hg : og = some g) : ∃ N f, w.rowIs g e N f := by
  rcases h with ⟨-, -, e⟩ | ⟨g', o, c, N, f, e, -, hr, -⟩
  · rw [e] at hg; cases hg
  · rw [hg] at e; injection e with e; subst e; exact ⟨N, f, hr⟩
end Go.Proofs.YtlncjgnomhpjnabGreatDoor

