import Derived.Test.YtlncjgnomhpjnabGreatDoorQU52
import Derived.Test.YtlncjgnomhpjnabGreatDoorQU27
import Derived.BigQuiet
import Derived.Deep.QuietTactic
import Derived.Deep.DeepCutAuto
import Derived.Test.YtlncjgnomhpjnabGreatDoorRows
import Derived.Test.YtlncjgnomhpjnabGreatDoorQU26
import Derived.Test.YtlncjgnomhpjnabGreatDoorCards
import Derived.Test.YtlncjgnomhpjnabGreatDoorTie
import Derived.WalkKit
import Derived.ProofKit
import Derived.OpenShut
import Derived.SizedLaws
import Derived.ChangeSlices
import Derived.Deep.DeepHandedRow
/-
  A stream whose frames ahead of a point are written over.
-/
namespace Go.Proofs.YtlncjgnomhpjnabGreatDoor
open Go.RowKit Go.Deep
set_option linter.unusedVariables false
set_option linter.unusedSectionVars false
/-- j bytes from a place on are another -/
def owT (T : List UInt8) (a : Nat) (v : UInt8) : Nat → List UInt8
  | 0 => T
  | j + 1 => (owT T a v j).set (a + j) v
theorem owT_length (T : List UInt8) (a : Nat) (v : UInt8) : ∀ j, (owT T a v j).length = T.length
  | 0 => rfl
  | j + 1 => by
    show ((owT T a v j).set (a + j) v).length = _
    rw [List.length_set, owT_length T a v j]
theorem owT_drop (T : List UInt8) (a : Nat) (v : UInt8) (b : Nat) : ∀ j, a + j ≤ b → (owT T a v j).drop b = T.drop b
  | 0, _ => rfl
  | j + 1, h => by
    show ((owT T a v j).set (a + j) v).drop b = _
    rw [List.drop_set_of_lt (by omega), owT_drop T a v b j (by omega)]
theorem owT_get (T : List UInt8) (a : Nat) (v : UInt8) (i : Nat) : ∀ j, i < j → a + j ≤ T.length → (owT T a v j)[a + i]? = some v
  | 0, h, _ => absurd h (Nat.not_lt_zero i)
  | j + 1, h, hl => by
    show ((owT T a v j).set (a + j) v)[a + i]? = _
    by_cases e : i = j
    · rw [e, List.getElem?_set_self (by rw [owT_length]; omega)]
    · rw [List.getElem?_set_ne (by omega), owT_get T a v i j (by omega) (by omega)]
theorem set_pts {T : List UInt8} {i : Nat} {v : UInt8} (hi : dSz T ≤ i) : dPts (T.set i v) = dPts T := by
  have hsz : dSz T = 22 + 2 * dNp T := rfl
  have e0 : dSz (T.set i v) = dSz T := set_np (by omega)
  have e0' : dNp (T.set i v) = dNp T := by
    have : dSz (T.set i v) = 22 + 2 * dNp (T.set i v) := rfl
    omega
  unfold dPts
  rw [e0']
  refine List.map_congr_left fun k hk => ?_
  rw [List.mem_range] at hk
  exact fld_set (by omega)
/-- the head of such a text -/
theorem owT_hd {T : List UInt8} {a : Nat} {v : UInt8} (h : HdP T) (ha : dSz T ≤ a) : ∀ j, HdP (owT T a v j) ∧ dWh (owT T a v j) = dWh T ∧ dCh (owT T a v j) = dCh T ∧ dDe (owT T a v j) = dDe T ∧ dBl (owT T a v j) = dBl T ∧ dRa (owT T a v j) = dRa T ∧ dSa (owT T a v j) = dSa T ∧ dSe (owT T a v j) = dSe T ∧ dSz (owT T a v j) = dSz T ∧ dPts (owT T a v j) = dPts T
  | 0 => ⟨h, rfl, rfl, rfl, rfl, rfl, rfl, rfl, rfl, rfl⟩
  | j + 1 => by
    obtain ⟨e0, e1, e2, e3, e4, e5, e6, e7, e8, e9⟩ := owT_hd (v := v) h ha j
    obtain ⟨f0, f1, f2, f3, f4, f5, f6, f7, f8⟩ := set_hd (i := a + j) (v := v) e0 (by omega)
    have f9 := set_pts (T := owT T a v j) (i := a + j) (v := v) (by omega)
    exact ⟨f0, f1.trans e1, f2.trans e2, f3.trans e3, f4.trans e4, f5.trans e5, f6.trans e6, f7.trans e7, f8.trans e8, f9.trans e9⟩
/-- a text that begins with one byte again and again is no first frame -/
theorem same_no {X : List UInt8} {v : UInt8} {n d B S : Nat} (h : ∀ i, i < 3 → X[i]? = some v) : ¬ okF n d B S 0 X := by
  rintro ⟨⟨H, ⟨a1, a2, -⟩, hnum, -⟩, -⟩
  have h0 := h 0 (by omega)
  have h1 := h 1 (by omega)
  have h2 := h 2 (by omega)
  have ev : v = 165 := by
    rw [List.getD_eq_getElem?_getD, h0] at a2
    exact a2
  have hp : pieceT X 1 3 = [v, v] := by
    unfold pieceT
    refine List.ext_getElem? fun j => ?_
    match j with
    | 0 => rw [List.getElem?_take_of_lt (by omega), List.getElem?_drop, h1]; rfl
    | 1 => rw [List.getElem?_take_of_lt (by omega), List.getElem?_drop, h2]; rfl
    | j + 2 => rw [List.getElem?_eq_none (by rw [List.length_take]; omega)]; rfl
  unfold hNum at hnum
  rw [hp, ev] at hnum
  exact absurd hnum (by decide)
section
variable {d ch B c3 c4 S : Nat} {G : Nat → Nat → Int} {k : Nat} {v : UInt8}
/-- the point from which frames are read, and what stands from there on -/
theorem ow_stN (hk : KP d ch B c3 c4 S G) (q : Nat) : stN (owT (streamT d ch B c3 c4 G S) (22 + 2 * nPts S B c4) v q) k = stN (streamT d ch B c3 c4 G S) k ∧ stB (owT (streamT d ch B c3 c4 G S) (22 + 2 * nPts S B c4) v q) k = stB (streamT d ch B c3 c4 G S) k := by
  obtain ⟨e0, e1, e2, e3, e4, e5, e6, e7, e8, e9⟩ := owT_hd (v := v) (stream_hd hk) (show dSz _ ≤ 22 + 2 * nPts S B c4 by rw [(stream_head hk).sz]; exact Nat.le_refl _) q
  unfold stN stB
  rw [e4, e7, e9]
  exact ⟨rfl, rfl⟩
theorem ow_drop (hk : KP d ch B c3 c4 S G) (hkS : k < S) (q : Nat) (hq : q ≤ (frsT d ch G S B (stN (streamT d ch B c3 c4 G S) k)).length) : (owT (streamT d ch B c3 c4 G S) (22 + 2 * nPts S B c4) v q).drop (22 + 2 * nPts S B c4 + stB (streamT d ch B c3 c4 G S) k) = tlX d ch G S B (stN (streamT d ch B c3 c4 G S) k) := by
  have h1 := stream_from hk hkS
  rw [(stream_head hk).sz] at h1
  have h2 := stream_stB hk hkS
  rw [owT_drop _ _ _ _ q (by omega), h1]
/-- From is not troubled -/
theorem ow_frm (hk : KP d ch B c3 c4 S G) (hkS : k ≤ S) (q : Nat) (hq : k < S → q ≤ (frsT d ch G S B (stN (streamT d ch B c3 c4 G S) k)).length) : frmE (owT (streamT d ch B c3 c4 G S) (22 + 2 * nPts S B c4) v q) k = 0 := by
  have hh := stream_head hk
  obtain ⟨e0, e1, e2, e3, e4, e5, e6, e7, e8, e9⟩ := owT_hd (v := v) (stream_hd hk) (show dSz _ ≤ 22 + 2 * nPts S B c4 by rw [hh.sz]; exact Nat.le_refl _) q
  rw [hh.wh] at e1
  rw [hh.ch] at e2
  rw [hh.de] at e3
  rw [hh.bl] at e4
  rw [hh.sa] at e6
  rw [hh.sz] at e8
  unfold frmE
  rw [owT_length, if_pos (stream_short hk), if_pos ⟨e0, e1⟩, e6, if_pos ⟨by omega, by omega⟩, if_pos]
  by_cases he : k = S
  · left; omega
  · right
    rw [Int.toNat_natCast]
    obtain ⟨s1, s2⟩ := ow_stN (v := v) hk (k := k) q
    have hb : stN (streamT d ch B c3 c4 G S) k < nBlk S B := by
      have := stN_lt (T := streamT d ch B c3 c4 G S) (a := k) (by rw [hh.bl]; exact hk.B1) (by rw [hh.sa]; omega)
      rwa [hh.sa, hh.bl] at this
    unfold FrmsP
    rw [s1, s2, e2, e3, e4, e6, e8, owT_length, ow_drop hk (by omega) q (hq (by omega))]
    refine ⟨?_, nBlk S B - stN (streamT d ch B c3 c4 G S) k, tl_run hk (Nat.le_of_lt hb), by omega, tl_off hk (Nat.le_of_lt hb)⟩
    rw [stream_stB hk (by omega), stream_len hk]
    obtain ⟨Z, hZ⟩ := frs_pre d ch G S B (stN (streamT d ch B c3 c4 G S) k) (nBlk S B - stN (streamT d ch B c3 c4 G S) k)
    rw [Nat.add_sub_cancel' (Nat.le_of_lt hb)] at hZ
    rw [hZ, List.length_append]
    omega
theorem ow_frmS (hk : KP d ch B c3 c4 S G) (hkS : k < S) (q : Nat) (hq : q ≤ (frsT d ch G S B (stN (streamT d ch B c3 c4 G S) k)).length) {c j : Nat} (hc : c < ch) (hj : j < S - k) : frmS (owT (streamT d ch B c3 c4 G S) (22 + 2 * nPts S B c4) v q) k c j = G c (k + j) := by
  have hh := stream_head hk
  obtain ⟨e0, e1, e2, e3, e4, e5, e6, e7, e8, e9⟩ := owT_hd (v := v) (stream_hd hk) (show dSz _ ≤ 22 + 2 * nPts S B c4 by rw [hh.sz]; exact Nat.le_refl _) q
  obtain ⟨s1, s2⟩ := ow_stN (v := v) hk (k := k) q
  rw [← stream_frmS hk hkS hc hj]
  unfold frmS
  rw [s1, s2, e2, e3, e4, e6, e8, hh.sz, ow_drop hk hkS q hq, ← hh.sz, stream_from hk hkS]
/-- but what stands at the beginning is no frame -/
theorem ow_run (hk : KP d ch B c3 c4 S G) (q : Nat) (hq : 3 ≤ q) (hq2 : 22 + 2 * nPts S B c4 + q ≤ (streamT d ch B c3 c4 G S).length) : RunIs ch d B S 0 ((owT (streamT d ch B c3 c4 G S) (22 + 2 * nPts S B c4) v q).drop (22 + 2 * nPts S B c4)) 0 :=
  ⟨.inl (Nat.zero_le _), fun j hj => absurd hj (Nat.not_lt_zero j), fun _ => same_no (v := v) fun i hi => by
    show ((List.drop (22 + 2 * nPts S B c4) _).drop 0)[i]? = some v
    rw [List.drop_zero, List.getElem?_drop]
    exact owT_get _ _ _ i q (by omega) hq2⟩
theorem ow_decE (hk : KP d ch B c3 c4 S G) (q : Nat) (hq : 3 ≤ q) (hq2 : 22 + 2 * nPts S B c4 + q ≤ (streamT d ch B c3 c4 G S).length) (hS : 0 < nBlk S B) : decE (owT (streamT d ch B c3 c4 G S) (22 + 2 * nPts S B c4) v q) = 6 := by
  have hh := stream_head hk
  obtain ⟨e0, e1, e2, e3, e4, e5, e6, e7, e8, e9⟩ := owT_hd (v := v) (stream_hd hk) (show dSz _ ≤ 22 + 2 * nPts S B c4 by rw [hh.sz]; exact Nat.le_refl _) q
  rw [hh.wh] at e1
  rw [hh.ch] at e2
  rw [hh.de] at e3
  rw [hh.bl] at e4
  rw [hh.sa] at e6
  rw [hh.sz] at e8
  unfold decE
  rw [owT_length, if_pos (stream_short hk), if_pos ⟨e0, e1⟩, if_neg]
  rintro ⟨m, hr, hm, -⟩
  rw [e2, e3, e4, e6, e8] at hr
  have := hr.uniq (ow_run hk (v := v) q hq hq2)
  rw [e4, e6] at hm
  omega
theorem ow_frm0 (hk : KP d ch B c3 c4 S G) (q : Nat) (hq : 3 ≤ q) (hq2 : 22 + 2 * nPts S B c4 + q ≤ (streamT d ch B c3 c4 G S).length) (hS : 0 < nBlk S B) : frmE (owT (streamT d ch B c3 c4 G S) (22 + 2 * nPts S B c4) v q) 0 = 6 := by
  have hh := stream_head hk
  obtain ⟨e0, e1, e2, e3, e4, e5, e6, e7, e8, e9⟩ := owT_hd (v := v) (stream_hd hk) (show dSz _ ≤ 22 + 2 * nPts S B c4 by rw [hh.sz]; exact Nat.le_refl _) q
  have hS1 : 0 < S := by
    have := nBlk_le (S := S) (B := B) hk.B1
    omega
  obtain ⟨s1, s2⟩ := ow_stN (v := v) hk (k := 0) q
  have z1 : stN (streamT d ch B c3 c4 G S) 0 = 0 := by
    have := stN_le (streamT d ch B c3 c4 G S) 0
    rw [hh.bl] at this
    have hb := hk.B1
    rcases Nat.eq_zero_or_pos (stN (streamT d ch B c3 c4 G S) 0) with h | h
    · exact h
    · have : 1 * 1 ≤ stN (streamT d ch B c3 c4 G S) 0 * B := Nat.mul_le_mul h hb
      omega
  have z2 : stB (streamT d ch B c3 c4 G S) 0 = 0 := by
    rw [stream_stB hk hS1, z1]
    rfl
  rw [hh.wh] at e1
  rw [hh.ch] at e2
  rw [hh.de] at e3
  rw [hh.bl] at e4
  rw [hh.sa] at e6
  rw [hh.sz] at e8
  unfold frmE
  rw [owT_length, if_pos (stream_short hk), if_pos ⟨e0, e1⟩, e6, if_pos ⟨by omega, by omega⟩, if_neg]
  rintro (h | ⟨-, m, hr, hm, -⟩)
  · omega
  · rw [show (0 : Int).toNat = 0 from rfl] at hr hm
    rw [s1, s2, z1, z2, Nat.add_zero, e2, e3, e4, e6, e8] at hr
    rw [s1, z1, e4, e6] at hm
    have := hr.uniq (ow_run hk (v := v) q hq hq2)
    omega
end
end Go.Proofs.YtlncjgnomhpjnabGreatDoor

/-
  The law 'Sought'.
-/
namespace Go.Proofs.YtlncjgnomhpjnabGreatDoor
open Go.RowKit Go.Deep
set_option linter.unusedVariables false
theorem AccI.cells {base : Nat} {u : World} {g c nn n : Nat} {gs : Nat → Nat} {G : Nat → Nat → Int} (h : AccI base u (.slice (some ⟨g, 0, none⟩) n c) nn n gs G) (hn : 1 ≤ n) : g < u.heap.size ∧ ∀ i, i < n → u.cell? ⟨g, i, none⟩ = some (.slice (some ⟨gs i, 0, none⟩) nn nn) := by
  obtain ⟨g', c', e, h1, h2, h3⟩ := h.open hn
  injection e with e1 e2 e3
  injection e1 with e1
  injection e1 with e1
  subst e1
  exact ⟨h2, h3⟩
theorem pick_succ (pl : Int) (S : Nat) (u : World) (hS : S ≤ 300) (hpl : -9223372036854775808 ≤ pl ∧ pl ≤ 9223372036854775807) :
    Calls Tryz.prog 13 #[.int .i64 pl, .int .i64 ((S : Int) + 1)] u fun e w' => ∃ k : Nat, k ≤ S ∧ e = .returned (.int .i64 k) ∧ w' = u := by
  have h1 := pick_any pl (S + 1) u (by omega) (by omega) hpl
  rw [show ((S + 1 : Nat) : Int) = (S : Int) + 1 by omega] at h1
  refine h1.mono ?_
  rintro e w' ⟨rfl, hw⟩
  have := pickV_lt pl (S + 1) (by omega)
  exact ⟨_, by omega, rfl, hw⟩
theorem part_keep {base : Nat} {lv : Value} {S n k : Nat} {gs : Nat → Nat} {G : Nat → Nat → Int} (w : World) (hn1 : 1 ≤ n) (hn4 : n ≤ 4) (hS : S ≤ 300) (hk : k ≤ S) (h : AccI base w lv S n gs G) :
    Calls Tryz.prog 16 #[lv, .int .i64 k, .int .i64 S] w fun e w' => ∃ lv2, e = .returned lv2 ∧ ViewL w' lv2 n (S - k) (fun i j => G i (k + j)) ∧ Below w.heap.size w w' := by
  have h1 := part_any base lv S n k S gs G w hn1 hn4 hS (by omega) (by omega) h
  rw [Nat.min_self, Nat.min_eq_left hk] at h1
  refine h1.mono ?_
  rintro e w' ⟨lv2, gs2, G2, rfl, ha, hg, hb⟩
  exact ⟨lv2, rfl, (ha.view hn1).ext hg, hb⟩
theorem ats_cell {u : World} {base ga ca nb d ch S B hs : Nat} {G : Nat → Nat → Int} (h : u.ownsRow base 3 1 (.slice (some ⟨ga, 0, none⟩) (nb + 1) ca) (nb + 1) (atsL d ch G S B hs (nb + 1))) {j : Nat} (hj : j < nb + 1) : u.cell? ⟨ga, j, none⟩ = some (.int .i64 ((hs + (frsT d ch G S B j).length : Nat) : Int)) := by
  rcases h.2 with ⟨h0, -⟩ | ⟨g, c, cur, e, hg, hcur, hcap, -, hcs, htk⟩
  · cases h0
  · injection e with e1 e2 e3
    injection e1 with e1
    injection e1 with e1
    subst e1
    have h1 : (atsL d ch G S B hs (nb + 1))[j]? = some (.int .i64 ((hs + (frsT d ch G S B j).length : Nat) : Int)) := by unfold atsL; rw [List.getElem?_map, List.getElem?_range hj]; rfl
    rw [← htk, List.getElem?_take, if_pos (by omega), Array.getElem?_toList] at h1
    simp [World.cell?, hcur, h1]
theorem ats_cell0 {u : World} {base ga ca nb d ch S B hs : Nat} {G : Nat → Nat → Int} (h : u.ownsRow base 3 1 (.slice (some ⟨ga, 0, none⟩) (nb + 1) ca) (nb + 1) (atsL d ch G S B hs (nb + 1))) : u.cell? ⟨ga, 0, none⟩ = some (.int .i64 (hs : Int)) := ats_cell h (Nat.succ_pos _)
/-- with points -/
theorem CfgK.seek {ch d B c3 k0 c5 c6 c7 : Nat} (h : CfgK ch d B c3 k0 c5 c6 c7) : CfgK ch d B c3 (if k0 = 0 then 1 else k0) c5 c6 c7 :=
  ⟨h.ch1, h.ch4, h.d4, h.d12, h.B1, h.B32, h.c3b, by have := h.c4b; split <;> omega, h.c51, h.c58, h.c61, h.c616, h.c71, h.c78⟩
/-- From of what was written over -/
theorem ow_from {ch d B c3 c4 S k : Nat} {G : Nat → Nat → Int} (u : World) (hk : KP d ch B c3 c4 S G) (hkS : k ≤ S) (q : Nat) (v : UInt8) (hq : k < S → q ≤ (frsT d ch G S B (stN (streamT d ch B c3 c4 G S) k)).length) (hT : TabsU u) :
    Calls Tryz.prog 14 #[.string (bs (owT (streamT d ch B c3 c4 G S) (22 + 2 * nPts S B c4) v q)), .int .i64 k] u fun e u' => ∃ yv, e = .returned (.tuple #[yv, .int .i64 0]) ∧ ViewL u' yv ch (S - k) (fun i j => G i (k + j)) ∧ Below u.heap.size u u' := by
  have hh := stream_head hk
  obtain ⟨e0, e1, e2, e3, e4, e5, e6, e7, e8, e9⟩ := owT_hd (v := v) (stream_hd hk) (show dSz _ ≤ 22 + 2 * nPts S B c4 by rw [hh.sz]; exact Nat.le_refl _) q
  refine (reelFrom_any _ k u (by rw [owT_length]; have := stream_short hk; omega) hT).mono ?_
  intro e u' ha
  obtain ⟨gl, rfl, hro, hb⟩ := ha.yes (ow_frm hk hkS q hq)
  rw [e2, e6, hh.ch, hh.sa, Int.toNat_natCast] at hro
  refine ⟨_, rfl, ?_, hb⟩
  rw [e2, hh.ch]
  exact hro.view.ext fun i hi j hj => ow_frmS hk (by omega) q (hq (by omega)) hi hj
theorem ow_from0 {ch d B c3 c4 S : Nat} {G : Nat → Nat → Int} (u : World) (hk : KP d ch B c3 c4 S G) (q : Nat) (v : UInt8) (hq : 3 ≤ q) (hq2 : 22 + 2 * nPts S B c4 + q ≤ (streamT d ch B c3 c4 G S).length) (hS : 0 < nBlk S B) (hT : TabsU u) :
    Calls Tryz.prog 14 #[.string (bs (owT (streamT d ch B c3 c4 G S) (22 + 2 * nPts S B c4) v q)), .int .i64 0] u fun e u' => e = .returned (.tuple #[.slice none 0 0, .int .i64 6]) ∧ Below u.heap.size u u' := by
  refine (reelFrom_any _ 0 u (by rw [owT_length]; have := stream_short hk; omega) hT).mono ?_
  intro e u' ha
  have hE := ow_frm0 hk (v := v) q hq hq2 hS
  have h := ha.nothing (by rw [hE]; decide)
  rw [hE] at h
  exact h
theorem ow_dec {ch d B c3 c4 S : Nat} {G : Nat → Nat → Int} (u : World) (hk : KP d ch B c3 c4 S G) (q : Nat) (v : UInt8) (hq : 3 ≤ q) (hq2 : 22 + 2 * nPts S B c4 + q ≤ (streamT d ch B c3 c4 G S).length) (hS : 0 < nBlk S B) (hT : TabsU u) :
    Calls Tryz.prog 17 #[.string (bs (owT (streamT d ch B c3 c4 G S) (22 + 2 * nPts S B c4) v q))] u fun e u' => e = .returned (.tuple #[.agg #[.int .i64 0, .int .i64 0, .int .i64 0, .int .i64 0, .int .i64 0, .int .i64 0], .slice none 0 0, .int .i64 6]) ∧ Below u.heap.size u u' := by
  have hE := ow_decE hk (v := v) q hq hq2 hS
  refine (reelDecode_any _ u (by rw [owT_length]; have := stream_short hk; omega) hT).mono ?_
  intro e u' ha
  have h := ha.nothing (by rw [hE]; decide)
  rw [hE] at h
  exact h
theorem stN_stream {ch d B c3 c4 S k : Nat} {G : Nat → Nat → Int} (hk : KP d ch B c3 c4 S G) (h0 : ¬ c4 = 0) : stN (streamT d ch B c3 c4 G S) k = k / B / c4 * c4 := by
  unfold stN
  rw [(stream_head hk).se, (stream_head hk).bl, if_neg h0]
set_option maxRecDepth 4000 in
set_option maxHeartbeats 4000000 in
theorem soughtLaw (c0 c1 c2 c3 c4 c5 c6 c7 : Int) (a : Option Addr) (n cap : Nat) (A : Nat → Option Addr) (L C : Nat → Nat) (F : Nat → Nat → Int) (pl tw : Int) (w : World) (h3 : -9223372036854775808 ≤ c3 ∧ c3 ≤ 9223372036854775807) (h4 : -9223372036854775808 ≤ c4 ∧ c4 ≤ 9223372036854775807) (hpl : -9223372036854775808 ≤ pl ∧ pl ≤ 9223372036854775807) (hto : -9223372036854775808 ≤ tw ∧ tw ≤ 9223372036854775807) (h : SoundIn w a n cap A L C F)
    (hF : ∀ i, i < n → ∀ j, j < L i → -9223372036854775808 ≤ F i j ∧ F i j ≤ 9223372036854775807) (hT : TabsF w) (hU : TabsU w) :
    Calls Tryz.prog 3 #[.agg #[.int .i64 c0, .int .i64 c1, .int .i64 c2, .int .i64 c3, .int .i64 c4, .int .i64 c5, .int .i64 c6, .int .i64 c7], .slice a n cap, .int .i64 pl, .int .i64 tw] w fun e w' => e = .returned (.bool true) ∧ Below w.heap.size w w' := by
  have HQ0 := Hid.mk' (Bx.new w #[.int .i64 c0, .int .i64 c1, .int .i64 c2, .int .i64 c3, .int .i64 c4, .int .i64 c5, .int .i64 c6, .int .i64 c7] 23)
  have HB0 : Hid (Below w.heap.size w (w.alloc (.cells #[.int .i64 c0, .int .i64 c1, .int .i64 c2, .int .i64 c3, .int .i64 c4, .int .i64 c5, .int .i64 c6, .int .i64 c7] 23))) := (Below.refl _ _).alloc (Nat.le_refl _) _
  have HRT := Hid.mk' (fun u => right_ok c0 c1 c2 c3 c4 c5 c6 c7 u h3 h4)
  have HSD := Hid.mk' (fun (u : World) (hu : Below w.heap.size w u) (ch d : Nat) (k2 k3 k4 k5 k6 k7 : Int) h1 h2 h3 => sounded_any k2 k3 k4 k5 k6 k7 ch d a n cap A L C F u h1 h2 h3 (by have := h.hn; omega) h.hL (h.below hu).hA (h.below hu).hI hF (h.below hu).low)
  have HS3 : Hid (sndN n L ≤ 300) := by show _ ≤ _; unfold sndN; split <;> omega
  have HTT := Hid.mk' (fun (u : World) (hu : Below w.heap.size w u) => And.intro (hT.below hu) (hU.below hu))
  have HPK := Hid.mk' (fun (S : Nat) u (hS : S ≤ 300) => pick_succ pl S u hS hpl)
  have HPV : Hid (∀ u, Calls Tryz.prog 13 #[.int .i64 tw, .int .i64 256] u fun e w' => e = .returned (.int .i64 (pickV tw 256)) ∧ w' = u) := fun u => pick_any tw 256 u (by omega) (by omega) hto
  have hvl := pickV_lt tw 256 (by omega)
  generalize pickV tw 256 = pv at *
  clear h hF hT hU h3 h4 hpl hto
  generalize sndN n L = S at *
  go_enter Tryz.func3, Tryz.ntmps3
  go_upto_if 31 with (first
    | (refine wpList_loadRow rfl _ 23 rfl w.heap.size 23 #[.int .i64 c0, .int .i64 c1, .int .i64 c2, .int .i64 c3, .int .i64 c4, .int .i64 c5, .int .i64 c6, .int .i64 c7] (0, 0) _ rfl HQ0.out Tryz.underlying23 rfl infoCfgK ?_)
    | (go_at_call 9; refine (HRT.out _).mono ?_; rintro e w1 ⟨ch, d, B, k3, k0, k5, k6, k7, rfl, hcf, hb⟩; have HCF0 := Hid.mk' hcf; have HQ1 := Hid.mk' (HQ0.out.below hb); have HB1 := Hid.mk' (HB0.out.trans (hb.mono HB0.out.size)); have HR1 := Hid.mk' (HQ1.out.row #[.int .i64 ch, .int .i64 d, .int .i64 B, .int .i64 k3, .int .i64 k0, .int .i64 k5, .int .i64 k6, .int .i64 k7]); have x4 := HR1.out.cell 4; clear HRT hcf hb HQ0 HB0)
    | (refine wpList_storeRow rfl _ _ 23 rfl w.heap.size 23 _ _ rfl rfl HQ1.out infoCfgK rfl rfl ?_))
  obtain ⟨k4, hk4⟩ : ∃ k4, k4 = if k0 = 0 then 1 else k0 := ⟨_, rfl⟩
  have hk41 : 1 ≤ k4 := by rw [hk4]; split <;> omega
  have HCF : Hid (CfgK ch d B k3 k4 k5 k6 k7) := by show CfgK _ _ _ _ _ _ _ _; rw [hk4]; exact HCF0.out.seek
  have HK4 := Hid.mk' hk4
  clear hk4
  go_cut [8] (fun s wx => s = .bool false ∧ Hid (Bx wx w.heap.size 23 #[.int .i64 ch, .int .i64 d, .int .i64 B, .int .i64 k3, .int .i64 k4, .int .i64 k5, .int .i64 k6, .int .i64 k7] ∧ Below w.heap.size w wx))
  case first =>
    by_cases e0 : k0 = 0
    · subst e0
      have e4 : k4 = 1 := by rw [HK4.out, if_pos rfl]
      subst e4
      have HR1' : Hid (Bx (w1.setRow w.heap.size #[.int .i64 ch, .int .i64 d, .int .i64 B, .int .i64 k3, .int .i64 0, .int .i64 k5, .int .i64 k6, .int .i64 k7]) w.heap.size 23 #[.int .i64 ch, .int .i64 d, .int .i64 B, .int .i64 k3, .int .i64 0, .int .i64 k5, .int .i64 k6, .int .i64 k7]) := HR1.out
      have f4 := HR1'.out.fz 4
      have y4 := HR1'.out.cell 4
      simp at y4
      have HZ : Hid (Bx ((w1.setRow w.heap.size #[.int .i64 ch, .int .i64 d, .int .i64 B, .int .i64 k3, .int .i64 0, .int .i64 k5, .int .i64 k6, .int .i64 k7]).setCell ⟨w.heap.size, 4, none⟩ (.int .i64 1)) w.heap.size 23 #[.int .i64 ch, .int .i64 d, .int .i64 B, .int .i64 k3, .int .i64 1, .int .i64 k5, .int .i64 k6, .int .i64 k7]) := by
        have h0 : (w1.setRow w.heap.size #[.int .i64 ch, .int .i64 d, .int .i64 B, .int .i64 k3, .int .i64 0, .int .i64 k5, .int .i64 k6, .int .i64 k7]).heap[w.heap.size]? = _ := HR1'.out
        show Bx _ _ _ _
        simp [Bx, World.setCell, Array.getElem?_modify, h0]
      have HZB : Hid (Below w.heap.size w ((w1.setRow w.heap.size #[.int .i64 ch, .int .i64 d, .int .i64 B, .int .i64 k3, .int .i64 0, .int .i64 k5, .int .i64 k6, .int .i64 k7]).setCell ⟨w.heap.size, 4, none⟩ (.int .i64 1))) := (below_row HB1.out (Nat.le_refl _) _).setCell (Nat.le_refl _) _
      go_wp2_with fail
      go_meet
      case rel => exact ⟨rfl, HZ.out, HZB.out⟩
    · have e4 : k4 = k0 := by rw [HK4.out, if_neg e0]
      subst e4
      have e1 : ((k4 : Int) == 0) = false := by simp; omega
      have e2 : ¬ (k4 : Int) = 0 := by omega
      have HZB : Hid (Below w.heap.size w (w1.setRow w.heap.size #[.int .i64 ch, .int .i64 d, .int .i64 B, .int .i64 k3, .int .i64 k4, .int .i64 k5, .int .i64 k6, .int .i64 k7])) := below_row HB1.out (Nat.le_refl _) _
      go_wp2_with fail
      go_meet
      case rel => exact ⟨rfl, HR1.out, HZB.out⟩
  case rest =>
    obtain ⟨rfl, HR2⟩ := hcut
    have HQ2 := Hid.mk' HR2.out.1
    have HB2 := Hid.mk' HR2.out.2
    clear HR2 HQ1 HB1 HR1 HK4 HCF0 x4
    go_upto_if 67 with (first
      | (refine wpList_loadRow rfl _ 23 rfl w.heap.size 23 #[.int .i64 ch, .int .i64 d, .int .i64 B, .int .i64 k3, .int .i64 k4, .int .i64 k5, .int .i64 k6, .int .i64 k7] (0, 0) _ rfl HQ2.out Tryz.underlying23 rfl infoCfgK ?_)
      | (go_at_call 10; refine (HSD.out _ HB2.out ch d B k3 k4 k5 k6 k7 HCF.out.ch4 HCF.out.d4 HCF.out.d12).mono ?_; rintro e w3 ⟨xv, gs, G, rfl, hx, hG, hb⟩; obtain ⟨gx, cx, hxv, -, -, -⟩ := hx.open HCF.out.ch1; subst hxv; have HKP := Hid.mk' (kp_of HCF.out HS3.out hG); have HX3 := Hid.mk' (hx.mono (Nat.zero_le _)); have HQ3 := Hid.mk' (HQ2.out.below hb); have HB3 := Hid.mk' (HB2.out.trans (hb.mono HB2.out.size)); clear hx hG hb HQ2 HB2 HSD)
      | (refine wpList_loadRow rfl _ 23 rfl w.heap.size 23 #[.int .i64 ch, .int .i64 d, .int .i64 B, .int .i64 k3, .int .i64 k4, .int .i64 k5, .int .i64 k6, .int .i64 k7] (0, 0) _ rfl HQ3.out Tryz.underlying23 rfl infoCfgK ?_)
      | (go_at_call 11; refine (enc_keep _ HCF.out HKP.out HX3.out (HTT.out _ HB3.out).1).mono ?_; rintro e w4 ⟨rfl, hb⟩; have HQ4 := Hid.mk' (HQ3.out.below hb); have HB4 := Hid.mk' (HB3.out.trans (hb.mono HB3.out.size)); have HX4 := Hid.mk' (HX3.out.next hb); clear hb HQ3 HB3 HX3)
      | (refine wpList_loadRow rfl _ 23 rfl w.heap.size 23 #[.int .i64 ch, .int .i64 d, .int .i64 B, .int .i64 k3, .int .i64 k4, .int .i64 k5, .int .i64 k6, .int .i64 k7] (0, 0) _ rfl HQ4.out Tryz.underlying23 rfl infoCfgK ?_)
      | (go_at_call 12; refine (places_any ch d B k3 k4 k5 k6 k7 S 0 gx cx gs G _ HCF.out HKP.out HX4.out (HTT.out _ HB4.out).1).mono ?_; rintro e w5 ⟨ov, rfl, ho, hb⟩; obtain ⟨ga, ca, hov⟩ := own_some ho (by omega); subst hov; have HO5 := Hid.mk' ho; have HQ5 := Hid.mk' (HQ4.out.below hb); have HB5 := Hid.mk' (HB4.out.trans (hb.mono HB4.out.size)); have HX5 := Hid.mk' (HX4.out.next hb); have xc := (HX5.out.cells HCF.out.ch1).2 0 HCF.out.ch1; have hch : 0 < ch := HCF.out.ch1; have hS3 := HS3.out; have xb2 := HQ5.out.cell 2; have xb4 := HQ5.out.cell 4; clear ho hb HQ4 HB4 HX4)
      | (go_at_call 13; refine (HPK.out S _ hS3).mono ?_; rintro e w6 ⟨k, hk, rfl, hw⟩; subst w6; clear HPK))
    all_goals
      obtain ⟨fi, hfi⟩ : ∃ fi, fi = if 0 < S ∧ k < S then k / B / k4 * k4 else 0 := ⟨_, rfl⟩
      have HFI := Hid.mk' hfi
      have hB1 := HCF.out.B1
      have hB32 := HCF.out.B32
      have hk4b := HCF.out.c4b
      clear hfi
      go_cut [15] (fun s wx => s = .int .i64 fi ∧ Hid (wx.ownsRow w4.heap.size 3 1 (.slice (some ⟨ga, 0, none⟩) (nBlk S B + 1) ca) (nBlk S B + 1) (atsL d ch G S B (22 + 2 * nPts S B k4) (nBlk S B + 1)) ∧ Bx wx w.heap.size 23 #[.int .i64 ch, .int .i64 d, .int .i64 B, .int .i64 k3, .int .i64 k4, .int .i64 k5, .int .i64 k6, .int .i64 k7] ∧ Below w.heap.size w wx ∧ AccI 0 wx (.slice (some ⟨gx, 0, none⟩) ch cx) S ch gs G))
      case first =>
        by_cases h1 : 0 < S
        · by_cases h2 : k < S
          · first
              | (exfalso; omega)
              | (have hd : fi = k / B / k4 * k4 := by rw [HFI.out, if_pos ⟨h1, h2⟩]
                 have t1 : (k : Int).tdiv (B : Int) = ((k / B : Nat) : Int) := by rw [Int.tdiv_eq_ediv_of_nonneg (by omega)]; rfl
                 have hl1 : k / B ≤ 300 := Nat.le_trans (Nat.div_le_self _ _) (by omega)
                 generalize k / B = kb at *
                 have t2 : (kb : Int).tdiv (k4 : Int) = ((kb / k4 : Nat) : Int) := by rw [Int.tdiv_eq_ediv_of_nonneg (by omega)]; rfl
                 have hl2 : kb / k4 ≤ 300 := Nat.le_trans (Nat.div_le_self _ _) hl1
                 have hl3 : kb / k4 * k4 ≤ 300 := Nat.le_trans (Nat.div_mul_le_self _ _) hl1
                 generalize kb / k4 = kc at *
                 have e3 : (kc : Int) * (k4 : Int) = ((kc * k4 : Nat) : Int) := by simp
                 rw [← hd] at e3 hl3
                 have w1 : IntKind.i64.wrap (kb : Int) = (kb : Int) := by rw [IntKind.wrap_i64]; omega
                 have w2 : IntKind.i64.wrap (kc : Int) = (kc : Int) := by rw [IntKind.wrap_i64]; omega
                 have w3 : IntKind.i64.wrap ((kc : Int) * (k4 : Int)) = (fi : Int) := by rw [IntKind.wrap_i64, e3]; omega
                 have z1 : ((B : Int) == 0) = false := by simp; omega
                 have z2 : ¬ (B : Int) = 0 := by omega
                 have z3 : ((k4 : Int) == 0) = false := by simp; omega
                 have z4 : ¬ (k4 : Int) = 0 := by omega
                 have d1 : decide ((k : Int) < (S : Int)) = true := decide_eq_true (by omega)
                 clear hd HFI e3
                 go_wp2_with fail
                 go_quiet (fail)
                 go_wp2_with fail
                 go_meet
                 case rel =>
                   have hb5 : Below w5.heap.size w5 (w5.drewN nq) := ⟨rfl, rfl, rfl, Nat.le_refl _, fun _ _ => rfl⟩
                   exact ⟨rfl, HO5.out, HQ5.out, HB5.out.trans (hb5.mono HB5.out.size), HX5.out.next hb5⟩)
          · first
              | (exfalso; omega)
              | (have hd : fi = 0 := by rw [HFI.out, if_neg (fun h => h2 h.2)]
                 have d1 : decide ((k : Int) < (S : Int)) = false := decide_eq_false (by omega)
                 have d2 : decide (k < S) = false := decide_eq_false h2
                 subst hd
                 go_wp2_with fail
                 go_meet
                 case rel => exact ⟨rfl, HO5.out, HQ5.out, HB5.out, HX5.out⟩)
        · first
            | (exfalso; omega)
            | (have hd : fi = 0 := by rw [HFI.out, if_neg (fun h => h1 h.1)]
               have e0 : S = 0 := by omega
               subst hd
               subst e0
               go_wp2_with fail
               go_meet
               case rel => exact ⟨rfl, HO5.out, HQ5.out, HB5.out, HX5.out⟩)
      case rest =>
        obtain ⟨rfl, HFX⟩ := hcut
        clear HO5 HQ5 HB5 HX5 xc xb2 xb4
        have HO5 := Hid.mk' HFX.out.1
        have HQ5 := Hid.mk' HFX.out.2.1
        have HB5 := Hid.mk' HFX.out.2.2.1
        have HX5 := Hid.mk' HFX.out.2.2.2
        have xc := (HX5.out.cells HCF.out.ch1).2 0 HCF.out.ch1
        have xb2 := HQ5.out.cell 2
        have xb4 := HQ5.out.cell 4
        clear HFX
        have HK0 : Hid (¬ k4 = 0) := fun e => by omega
        have HST : Hid (k < S → fi = stN (streamT d ch B k3 k4 G S) k) := fun h => by
          rw [HFI.out, if_pos ⟨by omega, h⟩, stN_stream HKP.out HK0.out]
        have HFN : Hid (fi ≤ nBlk S B ∧ (0 < fi → fi < nBlk S B ∧ k < S)) := by
          by_cases h2 : k < S
          · have hb := stN_lt (T := (streamT d ch B k3 k4 G S)) (a := k) (by rw [(stream_head HKP.out).bl]; exact HKP.out.B1) (by rw [(stream_head HKP.out).sa]; exact h2)
            rw [(stream_head HKP.out).sa, (stream_head HKP.out).bl, ← HST.out h2] at hb
            exact ⟨Nat.le_of_lt hb, fun _ => ⟨hb, h2⟩⟩
          · have hd : fi = 0 := by rw [HFI.out, if_neg (fun h => h2 h.2)]
            rw [hd]
            exact ⟨Nat.zero_le _, fun h => absurd h (Nat.lt_irrefl _)⟩
        have HQL : Hid (22 + 2 * nPts S B k4 + (frsT d ch G S B fi).length ≤ (streamT d ch B k3 k4 G S).length) := by
          show _ ≤ _
          rw [stream_len HKP.out]
          obtain ⟨Z, hZ⟩ := frs_pre d ch G S B fi (nBlk S B - fi)
          rw [Nat.add_sub_cancel' HFN.out.1] at hZ
          rw [hZ, List.length_append]
          omega
        have HQ3 : Hid (0 < fi → 3 ≤ (frsT d ch G S B fi).length) := fun h => by
          obtain ⟨f, rfl⟩ : ∃ f, fi = f + 1 := ⟨fi - 1, by omega⟩
          have h12 := frT_twelve HKP.out (k := f) (by have := (HFN.out.2 h).1; omega)
          have hl : (frsT d ch G S B (f + 1)).length = (frsT d ch G S B f).length + (frT d ch G S B f).length := List.length_append
          omega
        have HFK := Hid.mk' (fun u hT => ow_from u HKP.out hk (frsT d ch G S B fi).length (UInt8.ofNat pv) (fun h => by rw [← HST.out h]; exact Nat.le_refl _) hT)
        have HF0 := Hid.mk' (fun u (h : 0 < fi) hT => ow_from0 u HKP.out (frsT d ch G S B fi).length (UInt8.ofNat pv) (HQ3.out h) HQL.out (by have := (HFN.out.2 h).1; omega) hT)
        have HDC := Hid.mk' (fun u (h : 0 < fi) hT => ow_dec u HKP.out (frsT d ch G S B fi).length (UInt8.ofNat pv) (HQ3.out h) HQL.out (by have := (HFN.out.2 h).1; omega) hT)
        have hT9 := stream_short HKP.out
        have hhs3 : 22 + 2 * nPts S B k4 ≤ 700 := by have := np_bd S B k4 HKP.out.B1; have := HKP.out.nb; omega
        have hnb3 := HKP.out.nb
        have hfn := HFN.out.1
        have ha0 := ats_cell0 HO5.out
        have haf := ats_cell HO5.out (j := fi) (by omega)
        obtain ⟨cb, w6, hcv, hby, hb6⟩ := byt_of_string wc (streamT d ch B k3 k4 G S)
        have HXL := Hid.mk' (And.intro (HX5.out.cells HCF.out.ch1).1 (fun k (hk : k < ch) => (HX5.out.rows k hk).lt))
        have HQX := Hid.mk' HQ5.out.lt
        have HOL : Hid (ga < wc.heap.size) := (HO5.out.lt ga rfl).2
        have HO6 := Hid.mk' (HO5.out.kept (grownAll hb6 _) (Classical.em _))
        have HQ6 := Hid.mk' (HQ5.out.below hb6)
        have HB6 := Hid.mk' (HB5.out.trans (hb6.mono HB5.out.size))
        have HX6 := Hid.mk' (HX5.out.next hb6)
        have HY6 : Hid (Byt w6 wc.heap.size (owT (streamT d ch B k3 k4 G S) (22 + 2 * nPts S B k4) (UInt8.ofNat pv) 0)) := hby
        have ha06 := ats_cell0 HO6.out
        have u0 : (UInt8.ofNat pv).toNat = pv := by rw [UInt8.toNat_ofNat']; omega
        clear hby hb6 HO5 HQ5 HB5 HX5 xb2 xb4 xc HFI HST HQ3
        generalize (streamT d ch B k3 k4 G S) = T0 at *
        generalize 22 + 2 * nPts S B k4 = hs at *
        generalize nBlk S B = nb at *
        have HOW : Hid (∀ j, (owT T0 hs (UInt8.ofNat pv) j).length = T0.length) := fun j => owT_length _ _ _ j
        have hql := HQL.out
        obtain ⟨en, hen⟩ : ∃ en, en = hs + (frsT d ch G S B fi).length := ⟨_, rfl⟩
        rw [← hen] at haf hql
        have HEN := Hid.mk' hen
        clear hen
        have wv : IntKind.u8.wrap (pv : Int) = (pv : Int) := by rw [IntKind.wrap_u8]; omega
        go_wp2_with fail
        go_loopw [17] (fun iv wr => ∃ j p : Nat, iv = .int .i64 p ∧ Hid (p = hs + j ∧ p ≤ en ∧ Byt wr wc.heap.size (owT T0 hs (UInt8.ofNat pv) j) ∧ Bx wr w.heap.size 23 #[.int .i64 ch, .int .i64 d, .int .i64 B, .int .i64 k3, .int .i64 k4, .int .i64 k5, .int .i64 k6, .int .i64 k7] ∧ AccI 0 wr (.slice (some ⟨gx, 0, none⟩) ch cx) S ch gs G ∧ wr.ownsRow w4.heap.size 3 1 (.slice (some ⟨ga, 0, none⟩) (nb + 1) ca) (nb + 1) (atsL d ch G S B hs (nb + 1)) ∧ Below w.heap.size w wr)) (fun iv _ => en - (intOf iv).toNat)
        case atStart => exact ⟨0, hs, rfl, rfl, (by have := HEN.out; omega), HY6.out, HQ6.out, HX6.out, HO6.out, HB6.out⟩
        case round =>
          obtain ⟨j, p, rfl, HR⟩ := hrel
          have haw := ats_cell HR.out.2.2.2.2.2.1 (j := fi) (by omega)
          rw [← HEN.out] at haw
          have hpe := HR.out.2.1
          by_cases hlt : p < en
          · have hpl : p < (owT T0 hs (UInt8.ofNat pv) j).length := by rw [HOW.out]; omega
            have hci := HR.out.2.2.1.cell hpl
            have hfz := HR.out.2.2.1.frozen hpl
            have hzz := HR.out.2.2.1.set (UInt8.ofNat pv) hpl
            rw [u0] at hzz
            have HZ : Hid (Byt (wr.setCell ⟨wc.heap.size, p, none⟩ (.int .u8 (pv : Int))) wc.heap.size (owT T0 hs (UInt8.ofNat pv) (j + 1))) := by
              show Byt _ _ ((owT T0 hs (UInt8.ofNat pv) j).set (hs + j) (UInt8.ofNat pv))
              rw [← HR.out.1]
              exact hzz
            have HZQ : Hid (Bx (wr.setCell ⟨wc.heap.size, p, none⟩ (.int .u8 (pv : Int))) w.heap.size 23 #[.int .i64 ch, .int .i64 d, .int .i64 B, .int .i64 k3, .int .i64 k4, .int .i64 k5, .int .i64 k6, .int .i64 k7]) := HR.out.2.2.2.1.of (blk_setCell_other _ _ _ _ (Nat.ne_of_lt HQX.out))
            have HZB : Hid (Below w.heap.size w (wr.setCell ⟨wc.heap.size, p, none⟩ (.int .u8 (pv : Int)))) := HR.out.2.2.2.2.2.2.setCell (Nat.le_of_lt HQX.out) _
            have HZX := Hid.mk' (HR.out.2.2.2.2.1.put (a := ⟨wc.heap.size, p, none⟩) (.int .u8 (pv : Int)) (fun e => by have e' : gx = wc.heap.size := (by injection e); have := HXL.out.1; omega) (fun k hk e => by have e' : gs k = wc.heap.size := e; have := HXL.out.2 k hk; omega))
            have HZO := Hid.mk' (HR.out.2.2.2.2.2.1.kept (grown_set wr ⟨wc.heap.size, p, none⟩ (.int .u8 (pv : Int))) (.inr fun e => by have e' : ga = wc.heap.size := (by injection e); have := HOL.out; omega))
            have HPJ : Hid (p + 1 = hs + (j + 1) ∧ p + 1 ≤ en) := ⟨by have := HR.out.1; omega, by omega⟩
            have d1 : decide ((p : Int) < (en : Int)) = true := decide_eq_true (by omega)
            obtain ⟨ob, hob⟩ : ∃ x, ((owT T0 hs (UInt8.ofNat pv) j)[p].toNat : Int) = x := ⟨_, rfl⟩
            rw [hob] at hci
            clear hzz hob
            have hp3 : (p : Int) < (T0.length : Int) := by omega
            go_wp2_with (first
              | (go_at_call 13; refine (HPV.out _).mono ?_; rintro e w' ⟨rfl, hw⟩; subst hw))
            go_roundw
            case rel => exact ⟨j + 1, p + 1, by go_num, HPJ.out.1, HPJ.out.2, HZ.out, HZQ.out, HZX.out, HZO.out, HZB.out⟩
            case measure => simp [intOf]; omega
          · have e0 : p = en := by omega
            subst e0
            have ej : j = (frsT d ch G S B fi).length := by have := HR.out.1; have := HEN.out; omega
            have hc7 := byt_back (cap := cb) HR.out.2.2.1
            rw [HOW.out, ej] at hc7
            have d1 : decide ((p : Int) < (p : Int)) = false := decide_eq_false (by omega)
            generalize bs (owT T0 hs (UInt8.ofNat pv) (frsT d ch G S B fi).length) = ST at *
            clear HPV ej
            by_cases hf0 : fi = 0
            · subst hf0
              go_wp2_with (first
              | (go_at_call 14; refine (HFK.out _ (HTT.out _ HR.out.2.2.2.2.2.2).2).mono ?_; rintro e wa ⟨yv, rfl, hy, hb⟩; have HBA := Hid.mk' (HR.out.2.2.2.2.2.2.trans (hb.mono HR.out.2.2.2.2.2.2.size)); have HXA := Hid.mk' (HR.out.2.2.2.2.1.next hb); have HYA := Hid.mk' hy; clear hb hy HFK)
              | (go_at_call 16; refine (part_keep _ HCF.out.ch1 HCF.out.ch4 hS3 hk HXA.out).mono ?_; rintro e wb ⟨pv2, rfl, hp, hb⟩; have HBB := Hid.mk' (HBA.out.trans (hb.mono HBA.out.size)); have HYB := Hid.mk' (HYA.out.below hb); have HPB := Hid.mk' hp; clear hb hp HBA HXA HYA)
              | (go_at_call 15; refine (ksameAll_any _ _ ch (S - k) (fun i j => G i (k + j)) _ (by have := HCF.out.ch4; omega) (by omega) HPB.out HYB.out).mono ?_; rintro e wd ⟨rfl, hb⟩; have HBD := Hid.mk' (HBB.out.trans (hb.mono HBB.out.size)); clear hb)
              | (go_at_call 14; refine (HF0.out _ HFP.out (HTT.out _ HBD.out).2).mono ?_; rintro e we ⟨rfl, hb⟩; have HBE := Hid.mk' (HBD.out.trans (hb.mono HBD.out.size)); clear hb HF0)
              | (go_at_call 17; refine (HDC.out _ HFP.out (HTT.out _ HBE.out).2).mono ?_; rintro e wf ⟨rfl, hb⟩; have HBF := Hid.mk' (HBE.out.trans (hb.mono HBE.out.size)); clear hb HDC))
              go_ret
              exact ⟨rfl, HBD.out⟩
            · have HFP : Hid (0 < fi) := Nat.pos_of_ne_zero hf0
              have f1 : ((fi : Int) == 0) = false := by simp; omega
              have f2 : ¬ (fi : Int) = 0 := by omega
              go_wp2_with (first
              | (go_at_call 14; refine (HFK.out _ (HTT.out _ HR.out.2.2.2.2.2.2).2).mono ?_; rintro e wa ⟨yv, rfl, hy, hb⟩; have HBA := Hid.mk' (HR.out.2.2.2.2.2.2.trans (hb.mono HR.out.2.2.2.2.2.2.size)); have HXA := Hid.mk' (HR.out.2.2.2.2.1.next hb); have HYA := Hid.mk' hy; clear hb hy HFK)
              | (go_at_call 16; refine (part_keep _ HCF.out.ch1 HCF.out.ch4 hS3 hk HXA.out).mono ?_; rintro e wb ⟨pv2, rfl, hp, hb⟩; have HBB := Hid.mk' (HBA.out.trans (hb.mono HBA.out.size)); have HYB := Hid.mk' (HYA.out.below hb); have HPB := Hid.mk' hp; clear hb hp HBA HXA HYA)
              | (go_at_call 15; refine (ksameAll_any _ _ ch (S - k) (fun i j => G i (k + j)) _ (by have := HCF.out.ch4; omega) (by omega) HPB.out HYB.out).mono ?_; rintro e wd ⟨rfl, hb⟩; have HBD := Hid.mk' (HBB.out.trans (hb.mono HBB.out.size)); clear hb)
              | (go_at_call 14; refine (HF0.out _ HFP.out (HTT.out _ HBD.out).2).mono ?_; rintro e we ⟨rfl, hb⟩; have HBE := Hid.mk' (HBD.out.trans (hb.mono HBD.out.size)); clear hb HF0)
              | (go_at_call 17; refine (HDC.out _ HFP.out (HTT.out _ HBE.out).2).mono ?_; rintro e wf ⟨rfl, hb⟩; have HBF := Hid.mk' (HBE.out.trans (hb.mono HBE.out.size)); clear hb HDC))
              go_ret
              exact ⟨rfl, HBF.out.alloc HBF.out.size _⟩
end Go.Proofs.YtlncjgnomhpjnabGreatDoor

namespace Go.Proofs.YtlncjgnomhpjnabGreatDoor.sought
open Go.ChangeShapes Go.WideShapes Go.ChangeAt Go.RowKit Go.Deep
theorem own : ownKnob Tryz.prog.godebug = none := by kernel_rfl
theorem laidOut : laidOutB Tryz.prog = true := by kernel_rfl
set_option maxRecDepth 100000 in
theorem contract (H : Type) (enc : TypeId × Value → H) (W : World) (base : Nat) (args : Array Value) (ds gs : List (DataW H)) (before : List MemPlace)
    (hval : ∀ (j : Nat) t v, Tryz.f3.params[j]? = some t → args[j]? = some v → Value.okWide Tryz.prog W .any base t v)
    (hW : DataW.Whole enc Tryz.prog Tryz.f3.params.toList Rows.soughtSpec.vars false W args.toList ds gs before) (hsz : (DataW.weightsEach Tryz.prog (Tryz.f3.params.toList ++ (OpenSpec.ofChange Rows.soughtSpec).bare.plain.varTypes Tryz.prog) (ds ++ gs)).all (· ≤ reachBytes) = true) (hL : laidMetH Tryz.prog Rows.soughtRow.laid W) :
    Calls Tryz.prog 3 args W fun e W' => ∃ v, e = .returned v ∧ Rows.soughtSpec.post enc Tryz.prog Tryz.f3 false true false false W args v W' := by
  have hW' := hW
  obtain ⟨p, q, hA0, hV, rfl, hfz, hnd⟩ := hW
  have hA : DataW.TrodAll enc Tryz.prog W 0 (fun _ => true) true Tryz.f3.params.toList args.toList ds p := hA0
  rw [Tryz.params3] at hA hval hsz
  obtain ⟨v0, vs0, d0, ds0, p0, q0, hargs, rfl, rfl, h0, r0⟩ := trodAll_cons hA
  obtain ⟨v1, vs1, d1, ds1, p1, q1, rfl, rfl, rfl, h1, r1⟩ := trodAll_cons r0
  obtain ⟨v2, vs2, d2, ds2, p2, q2, rfl, rfl, rfl, h2, r2⟩ := trodAll_cons r1
  obtain ⟨v3, vs3, d3, ds3, p3, q3, rfl, rfl, rfl, h3, r3⟩ := trodAll_cons r2
  obtain ⟨rfl, rfl, rfl⟩ := trodAll_nil r3
  obtain rfl : args = #[v0, v1, v2, v3] := by cases args; simp_all
  obtain ⟨rfl, rfl⟩ := trodVars_none hV
  have k0 := h0
  have k1 := h1
  have k2 := h2
  have k3 := h3
  have lt0 : ∀ x ∈ p0, x.block < W.heap.size := by obtain ⟨m, hm⟩ := k0; exact DataW.trod_lt m _ _ _ hm
  have lt1 : ∀ x ∈ p1, x.block < W.heap.size := by obtain ⟨m, hm⟩ := k1; exact DataW.trod_lt m _ _ _ hm
  have lt2 : ∀ x ∈ p2, x.block < W.heap.size := by obtain ⟨m, hm⟩ := k2; exact DataW.trod_lt m _ _ _ hm
  have lt3 : ∀ x ∈ p3, x.block < W.heap.size := by obtain ⟨m, hm⟩ := k3; exact DataW.trod_lt m _ _ _ hm
  obtain ⟨b2, rfl, rfl, rfl, wb2⟩ := open_int Tryz.underlying3 (hval 2 3 v2 rfl rfl) h2
  obtain ⟨b3, rfl, rfl, rfl, wb3⟩ := open_int Tryz.underlying3 (hval 3 3 v3 rfl rfl) h3
  obtain ⟨c0, c1, c2, c3, c4, c5, c6, c7, rfl, hr3, hr4⟩ := open_cfgR (hval 0 23 v0 rfl rfl) h0
  obtain ⟨a, n, cap, rfl⟩ := okWide_slice Tryz.underlying24 (hval 1 24 v1 rfl rfl)
  obtain ⟨A, L, C, F, hS, hR⟩ := open_soundR h1 (fun x hx => of_decide_eq_true (List.all_eq_true.1 hsz x (DataW.weights_mem_each (j := 1) (t := 24) (d := d1) rfl rfl x hx))) lt1
  clear hA0 hsz
  refine (soughtLaw c0 c1 c2 c3 c4 c5 c6 c7 a n cap A L C F b2 b3 W hr3 hr4 (bounds_i64 wb2) (bounds_i64 wb3) hS hR (tablesK (show laidMetH Tryz.prog Rows.soughtRow.laid W from hL)).1 (tablesK (show laidMetH Tryz.prog Rows.soughtRow.laid W from hL)).2).mono fun e W' ⟨he, bel⟩ => ?_
  subst he
  exact ⟨_, rfl, _, _, _, [], _, [], hW', trodAll_mk1 (shut_bool Tryz.underlying4 _), (trodAll_cons_mk (Below.trod laidOut (by kernel_rfl) (of_decide_eq_true (by kernel_rfl)) k0 bel lt0) (trodAll_cons_mk (Below.trod laidOut (by kernel_rfl) (of_decide_eq_true (by kernel_rfl)) k1 bel lt1) (trodAll_cons_mk (Below.trod laidOut (by kernel_rfl) (of_decide_eq_true (by kernel_rfl)) k2 bel lt2) (trodAll_cons_mk (Below.trod laidOut (by kernel_rfl) (of_decide_eq_true (by kernel_rfl)) k3 bel lt3) trodAll_mk0)))), rfl, bel.frame _, fun h => by cases h⟩
def tabCells : Array Value := #[.int .i64 0, .int .i64 0, .int .i64 0, .int .i64 0, .int .i64 1, .int .i64 0, .int .i64 0, .int .i64 0, .int .i64 2, .int .i64 (-1), .int .i64 0, .int .i64 0, .int .i64 3, .int .i64 (-3), .int .i64 1, .int .i64 0, .int .i64 4, .int .i64 (-6), .int .i64 4, .int .i64 (-1)]
def layTab : Obj → Obj
  | .cells _ t frozen => .cells tabCells t frozen
  | o => o
def lay32 : Obj → Obj
  | .cells _ t frozen => .cells ((z32.map fun z => Value.int .u8 z).toArray) t frozen
  | o => o
def lay64 : Obj → Obj
  | .cells _ t frozen => .cells ((z64.map fun z => Value.int .u8 z).toArray) t frozen
  | o => o
def layPairs : Obj → Obj
  | .cells _ t frozen => .cells #[.int .i64 0, .int .i64 1, .int .i64 0, .int .i64 2, .int .i64 2, .int .i64 1, .int .i64 3, .int .i64 2] t frozen
  | o => o
def litV : DataW Unit → Value
  | .lit (.int k z) => .int k z
  | _ => undef
def flatV : DataW Unit → List Value
  | .agg l => l.map litV
  | d => [litV d]
def layFirst : Obj → Obj
  | .cells _ t frozen => .cells (flatV Rows.laid_unicode_utf8_first).toArray t frozen
  | o => o
def layRanges : Obj → Obj
  | .cells _ t frozen => .cells ((match (Rows.laid_unicode_utf8_acceptRanges : DataW Unit) with | .agg l => (l.map flatV).flatten | _ => []).toArray) t frozen
  | o => o
noncomputable def laidWorld (os : Os) : World :=
  { World.holding Tryz.prog os ⟨#[], #[], []⟩ with heap := ((((((World.holding Tryz.prog os ⟨#[], #[], []⟩).heap.modify 5 layTab).modify 3 lay32).modify 4 lay64).modify 0 layPairs).modify 6 layFirst).modify 7 layRanges }
theorem laid_met (os : Os) : laidMet Tryz.prog Rows.soughtRow.laid ((laidWorld os).forCall (fun _ _ => 0) ⟨#[], #[.agg #[.int .i64 0, .int .i64 0, .int .i64 0, .int .i64 0, .int .i64 0, .int .i64 0, .int .i64 0, .int .i64 0], .slice none 0 0, .int .i64 0, .int .i64 0], []⟩).memory :=
  laidMet_of_run' 8 (by kernel_rfl) (by kernel_rfl)
theorem readIn (os : Os) {H : Type} (enc : TypeId × Value → H) : ∃ places, DataW.whole enc Tryz.prog ((laidWorld os).forCall (fun _ _ => 0) ⟨#[], #[.agg #[.int .i64 0, .int .i64 0, .int .i64 0, .int .i64 0, .int .i64 0, .int .i64 0, .int .i64 0, .int .i64 0], .slice none 0 0, .int .i64 0, .int .i64 0], []⟩).memory Tryz.f3.params.toList Rows.soughtSpec.vars false #[Value.agg #[.int .i64 0, .int .i64 0, .int .i64 0, .int .i64 0, .int .i64 0, .int .i64 0, .int .i64 0, .int .i64 0], .slice none 0 0, .int .i64 0, .int .i64 0].toList 8 = some ([.agg [.lit (.int .i64 0), .lit (.int .i64 0), .lit (.int .i64 0), .lit (.int .i64 0), .lit (.int .i64 0), .lit (.int .i64 0), .lit (.int .i64 0), .lit (.int .i64 0)], .nil, .lit (.int .i64 0), .lit (.int .i64 0)], [], places) :=
  ⟨[], by kernel_rfl⟩
set_option maxRecDepth 100000 in
theorem lifted (os : Os) (started : os.Started) (H : Type) (enc : TypeId × Value → H) (F : Stop.Interp) :
    ReturnsInHanded {} Tryz.checked os 3 .any ((OpenSpec.ofChange Rows.soughtSpec).preRow enc Tryz.prog Tryz.f3 Rows.soughtRow.domain false Rows.soughtRow.laid) (((OpenSpec.ofChange Rows.soughtSpec).at F).post enc Tryz.prog Tryz.f3 false true false false) := by
  obtain ⟨places, hx⟩ := readIn os enc
  refine returnsInHanded_of_row (C := Tryz.checked) (s := OpenSpec.ofChange Rows.soughtSpec) own started (by kernel_rfl) Tryz.func3
    (witness_row_at (enc := enc) (C := Tryz.checked) false (laidWorld os) #[.agg #[.int .i64 0, .int .i64 0, .int .i64 0, .int .i64 0, .int .i64 0, .int .i64 0, .int .i64 0, .int .i64 0], .slice none 0 0, .int .i64 0, .int .i64 0] rfl (by kernel_rfl) (by kernel_rfl) (by kernel_rfl)
      (OpenSpec.preRow_of_cond 8 hx (by kernel_rfl) (fun k hk => by cases hk) (by kernel_rfl) (laid_met os))) ?_
  intro W base args ds gs before hval hW _ _ hsz hL _ _
  exact contract H enc W base args ds gs before hval hW hsz hL
theorem said : Rows.SoughtSaid :=
  OpenClaim.holds_of_cond 3 Tryz.f3 rfl rfl rfl rfl rfl rfl rfl ⟨rfl, rfl, rfl, rfl, rfl⟩ rfl rfl rfl rfl rfl j6 Tryz.func3 closed
    (of_decide_eq_true (by kernel_rfl)) (by unfold Func.isWrapper; first | (rw [if_pos (by decide +kernel)]; kernel_rfl) | (rw [if_neg (by decide +kernel)]; exact ⟨rfl, rfl⟩))
    (fun os started H enc _ F => by rw [OpenClaim.pre_eq_preRow]; exact lifted os started H enc F)
theorem plain (f : FuncId) (fn : Func) (hf : Tryz.pinned.checked.prog.funcNamed "reel/reelkeep.Sought" = some f) (hfn : Tryz.pinned.checked.prog.funcs[f]? = some fn) :
    false = Tryz.pinned.checked.prog.looks [] ∧ ∀ (j : Nat) t, fn.params[j]? = some t → Tryz.pinned.checked.prog.wantsStandIn t = false := by
  obtain rfl : f = 3 := Option.some.inj ((show Tryz.prog.funcNamed "reel/reelkeep.Sought" = some 3 by kernel_rfl).symm.trans hf) |>.symm
  obtain rfl : fn = Tryz.f3 := (Option.some.inj (Tryz.func3.symm.trans hfn)).symm
  refine ⟨by kernel_rfl, fun j t ht => ?_⟩
  rw [Tryz.params3] at ht
  have hm := Array.mem_of_getElem? ht
  simp at hm
  rcases hm with rfl | rfl | rfl
  · exact (show Tryz.prog.wantsStandIn 23 = false by kernel_rfl)
  · exact (show Tryz.prog.wantsStandIn 24 = false by kernel_rfl)
  · exact (show Tryz.prog.wantsStandIn 3 = false by kernel_rfl)
end Go.Proofs.YtlncjgnomhpjnabGreatDoor.sought
namespace Go.Proofs.YtlncjgnomhpjnabGreatDoor
theorem soughtCard_holds : Rows.SoughtCardSaid :=
  Claim7.holds_tied_plain_at .later [] _ _ _ _ sought.said (fun _ h => by cases h) (by kernel_rfl) (fun _ h => by cases h) sought_row_tie rfl ⟨rfl, rfl⟩ (by kernel_rfl) rfl sought.plain (by kernel_rfl)
#print axioms soughtCard_holds
end Go.Proofs.YtlncjgnomhpjnabGreatDoor

