import Derived.Test.YtlncjgnomhpjnabGreatDoorPO52
import Derived.Laws.IdiomStrings
import Derived.Test.YtlncjgnomhpjnabGreatDoorPO25
import Derived.Deep.RegionWith
import Derived.ProofKit
import Derived.OpenShut
import Derived.SizedLaws
import Derived.Deep.Matrix
import Derived.Test.YtlncjgnomhpjnabGreatDoorPO2
import Derived.Test.YtlncjgnomhpjnabGreatDoorRows
import Derived.Lib.LaidTab
import GoSem.ClaimJoined
/-
  Bytes of a stream in memory; what the program answers to a stream in which one byte is another.
-/
namespace Go.Proofs.YtlncjgnomhpjnabGreatDoor
open Go.RowKit Go.Deep
set_option linter.unusedVariables false
/-- a block that begins with these bytes -/
def Byt (u : World) (g : Nat) (T : List UInt8) : Prop := ∃ (row : Array Value) (m : Nat), u.heap[g]? = some (.cells row 5 (m, m + 1)) ∧ T.length ≤ m ∧ ∀ j (hj : j < T.length), row[j]? = some (.int .u8 (T[j].toNat : Int))
theorem Byt.lt {u : World} {g : Nat} {T : List UInt8} (h : Byt u g T) : g < u.heap.size := by
  obtain ⟨row, m, h1, -⟩ := h
  exact (Array.getElem?_eq_some_iff.1 h1).1
theorem Byt.cell {u : World} {g : Nat} {T : List UInt8} (h : Byt u g T) {j : Nat} (hj : j < T.length) : u.cell? ⟨g, j, none⟩ = some (.int .u8 (T[j].toNat : Int)) := by
  obtain ⟨row, m, h1, h2, h3⟩ := h
  simp [World.cell?, h1, h3 j hj]
theorem Byt.frozen {u : World} {g : Nat} {T : List UInt8} (h : Byt u g T) {j : Nat} (hj : j < T.length) : u.frozen? ⟨g, j, none⟩ = false := by
  obtain ⟨row, m, h1, h2, h3⟩ := h
  simp [World.frozen?, h1]
  omega
theorem Byt.below {u u' : World} {g : Nat} {T : List UInt8} (h : Byt u g T) (hb : Below u.heap.size u u') : Byt u' g T := by
  have hl := h.lt
  obtain ⟨row, m, h1, h2, h3⟩ := h
  exact ⟨row, m, (hb.block g hl).trans h1, h2, h3⟩
theorem Byt.set {u : World} {g : Nat} {T : List UInt8} (h : Byt u g T) {i : Nat} (v : UInt8) (hi : i < T.length) : Byt (u.setCell ⟨g, i, none⟩ (.int .u8 (v.toNat : Int))) g (T.set i v) := by
  obtain ⟨row, m, h1, h2, h3⟩ := h
  have hri : i < row.size := (Array.getElem?_eq_some_iff.1 (h3 i hi)).1
  refine ⟨row.setIfInBounds i (.int .u8 (v.toNat : Int)), m, ?_, by rw [List.length_set]; exact h2, fun j hj => ?_⟩
  · simp [World.setCell, Array.getElem?_modify, h1]
  · rw [List.length_set] at hj
    rw [List.getElem_set]
    by_cases e : i = j
    · subst e
      rw [if_pos rfl]
      simp [hri]
    · rw [if_neg e, Array.getElem?_setIfInBounds_ne e]
      exact h3 j hj
theorem byt_of_string (w : World) (T : List UInt8) : ∃ cap w', (convert 9 33 (.string (bs T))).run Tryz.prog w = .ok (.slice (some ⟨w.heap.size, 0, none⟩) T.length cap) w' ∧ Byt w' w.heap.size T ∧ Below w.heap.size w w' := by
  have h := run_bytes_of_string (P := Tryz.prog) w 9 33 5 (bs T) Tryz.underlying9 Tryz.underlying33 Tryz.underlying5
  rw [bs_size] at h
  refine ⟨_, _, h, ?_, (Below.refl _ _).drew.alloc (Nat.le_refl _) _⟩
  have hd : (bs T).data = T.toArray := rfl
  refine ⟨_, _, blk_alloc_new _ _, ?_, fun j hj => ?_⟩
  · simp [bytesRow, hd]
  · have hlt : j < ((bs T).data.map fun b => Value.int .u8 (b.toNat : Int)).size := by simp [hd]; exact hj
    unfold bytesRow
    rw [Array.getElem?_append_left hlt]
    simp [hd, hj]
theorem byt_back {u : World} {g cap : Nat} {T : List UInt8} (h : Byt u g T) : (convert 33 9 (.slice (some ⟨g, 0, none⟩) T.length cap)).run Tryz.prog u = .ok (.string (bs T)) u :=
  run_convert_bytes_back (P := Tryz.prog) u 33 9 5 ⟨g, 0, none⟩ cap T Tryz.underlying33 Tryz.underlying5 Tryz.underlying9 (fun j hj => by rw [Addr.add_lit, Nat.zero_add]; exact h.cell hj)
/-- which frame a byte lies in -/
theorem frame_of (d n : Nat) (F : Nat → Nat → Int) (S B p : Nat) : ∀ M, p < (frsT d n F S B M).length → ∃ k, k < M ∧ (frsT d n F S B k).length ≤ p ∧ p < (frsT d n F S B (k + 1)).length
  | 0, h => absurd h (Nat.not_lt_zero p)
  | M + 1, h => by
    by_cases h1 : p < (frsT d n F S B M).length
    · obtain ⟨k, h2, h3⟩ := frame_of d n F S B p M h1
      exact ⟨k, by omega, h3⟩
    · exact ⟨M, Nat.lt_succ_self M, by omega, h⟩
/-- the frames of a stream in which one byte is another -/
theorem spoil_run {d ch B c3 c4 S : Nat} {G : Nat → Nat → Int} (hk : KP d ch B c3 c4 S G) {i k : Nat} {v : UInt8} (hi : i < (streamT d ch B c3 c4 G S).length) (hv : (streamT d ch B c3 c4 G S)[i] ≠ v) (hkb : k < nBlk S B) (h1 : 22 + 2 * nPts S B c4 + (frsT d ch G S B k).length ≤ i) (h2 : i < 22 + 2 * nPts S B c4 + (frsT d ch G S B (k + 1)).length) :
    ∃ Z, ((streamT d ch B c3 c4 G S).set i v).drop (22 + 2 * nPts S B c4) = gX d ch G S B k 0 Z ∧ ¬ okF ch d B S k Z := by
  have hsd := stream_drop hk
  rw [(stream_head hk).sz] at hsd
  have hp : i - (22 + 2 * nPts S B c4) < (tlX d ch G S B 0).length := by
    rw [← hsd, List.length_drop]; omega
  have hg : (tlX d ch G S B 0)[i - (22 + 2 * nPts S B c4)] = (streamT d ch B c3 c4 G S)[i] := by
    simp only [← hsd]
    rw [List.getElem_drop]
    congr 1
    omega
  obtain ⟨Z, hZ1, hZ2⟩ := spoilt_tail hk (p := i - (22 + 2 * nPts S B c4)) (v := v) hkb (by omega) (by omega) hp (by rw [hg]; exact hv)
  refine ⟨Z, ?_, hZ2⟩
  rw [List.drop_set, if_neg (by omega), hsd, hZ1]
theorem spoil_decE {d ch B c3 c4 S : Nat} {G : Nat → Nat → Int} (hk : KP d ch B c3 c4 S G) {i : Nat} {v : UInt8} (hi : i < (streamT d ch B c3 c4 G S).length) (hv : (streamT d ch B c3 c4 G S)[i] ≠ v) : decE ((streamT d ch B c3 c4 G S).set i v) = if i < 22 + 2 * nPts S B c4 then 7 else 6 := by
  have hh := stream_head hk
  have hd := stream_hd hk
  have hl := stream_short hk
  unfold decE
  rw [List.length_set, if_pos hl]
  by_cases h0 : i < 22 + 2 * nPts S B c4
  · rw [if_pos h0, if_neg]
    exact fun h => spoilt_head hd (by rw [hh.sz]; exact h0) hv h.1
  · rw [if_neg h0]
    obtain ⟨e0, e1, e2, e3, e4, e5, e6, e7, e8⟩ := set_hd (v := v) hd (show dSz _ ≤ i by rw [hh.sz]; omega)
    rw [if_pos ⟨e0, by rw [e1]; exact hh.wh⟩, if_neg]
    rintro ⟨m, hr, hm, -⟩
    obtain ⟨k, hkb, hk1, hk2⟩ := frame_of d ch G S B (i - (22 + 2 * nPts S B c4)) (nBlk S B) (by have := stream_len hk; omega)
    obtain ⟨Z, hZ1, hZ2⟩ := spoil_run hk hi hv hkb (by omega) (by omega)
    rw [e2, e3, e4, e6, e8, hh.ch, hh.de, hh.bl, hh.sa, hh.sz, hZ1] at hr
    have := hr.uniq (g_run hk (Nat.le_of_lt hkb) hZ2)
    rw [e4, e6, hh.bl, hh.sa] at hm
    omega
theorem spoil_dec {d ch B c3 c4 S : Nat} {G : Nat → Nat → Int} (u : World) (hk : KP d ch B c3 c4 S G) {i : Nat} {v : UInt8} (hi : i < (streamT d ch B c3 c4 G S).length) (hv : (streamT d ch B c3 c4 G S)[i] ≠ v) (hT : TabsU u) :
    Calls Tryz.prog 17 #[.string (bs ((streamT d ch B c3 c4 G S).set i v))] u fun e u' => e = .returned (.tuple #[.agg #[.int .i64 0, .int .i64 0, .int .i64 0, .int .i64 0, .int .i64 0, .int .i64 0], .slice none 0 0, .int .i64 (if i < 22 + 2 * nPts S B c4 then 7 else 6)]) ∧ Below u.heap.size u u' := by
  have hE := spoil_decE hk hi hv
  refine (reelDecode_any _ u (by rw [List.length_set]; have := stream_short hk; omega) hT).mono ?_
  intro e u' ha
  have h := ha.nothing (by rw [hE]; split <;> omega)
  rw [hE] at h
  exact h
theorem spoil_salH {d ch B c3 c4 S : Nat} {G : Nat → Nat → Int} (u : World) (hk : KP d ch B c3 c4 S G) {i : Nat} {v : UInt8} (hi : i < (streamT d ch B c3 c4 G S).length) (hv : (streamT d ch B c3 c4 G S)[i] ≠ v) (h0 : i < 22 + 2 * nPts S B c4) (hT : TabsU u) :
    Calls Tryz.prog 57 #[.string (bs ((streamT d ch B c3 c4 G S).set i v))] u fun e u' => e = .returned (.tuple #[.agg #[.int .i64 0, .int .i64 0, .int .i64 0, .int .i64 0, .int .i64 0, .int .i64 0], .slice none 0 0, .int .i64 7]) ∧ Below u.heap.size u u' := by
  have hl := stream_short hk
  refine (reelSalvage_any _ u (by rw [List.length_set]; omega) hT).mono ?_
  intro e u' ha
  have h := ha.nothing (fun h => spoilt_head (stream_hd hk) (by rw [(stream_head hk).sz]; exact h0) hv h.2)
  rw [if_pos (by rw [List.length_set]; exact hl)] at h
  exact h
theorem spoil_salT {d ch B c3 c4 S : Nat} {G : Nat → Nat → Int} (u : World) (hk : KP d ch B c3 c4 S G) {i k : Nat} {v : UInt8} (hi : i < (streamT d ch B c3 c4 G S).length) (hv : (streamT d ch B c3 c4 G S)[i] ≠ v) (hkb : k < nBlk S B) (h1 : 22 + 2 * nPts S B c4 + (frsT d ch G S B k).length ≤ i) (h2 : i < 22 + 2 * nPts S B c4 + (frsT d ch G S B (k + 1)).length) (hT : TabsU u) :
    Calls Tryz.prog 57 #[.string (bs ((streamT d ch B c3 c4 G S).set i v))] u fun e u' => ∃ zv, e = .returned (.tuple #[.agg #[.int .i64 ch, .int .i64 d, .int .i64 B, .int .i64 c3, .int .i64 c4, .int .i64 S], zv, .int .i64 0]) ∧ ViewL u' zv ch (k * B) G ∧ Below u.heap.size u u' := by
  have hh := stream_head hk
  have hl := stream_short hk
  obtain ⟨e0, e1, e2, e3, e4, e5, e6, e7, e8⟩ := set_hd (v := v) (stream_hd hk) (show dSz _ ≤ i by rw [hh.sz]; omega)
  rw [hh.ch] at e2
  rw [hh.de] at e3
  rw [hh.bl] at e4
  rw [hh.ra] at e5
  rw [hh.sa] at e6
  rw [hh.se] at e7
  rw [hh.sz] at e8
  obtain ⟨Z, hZ1, hZ2⟩ := spoil_run hk hi hv hkb h1 h2
  have hr := g_run hk (Nat.le_of_lt hkb) hZ2
  have hlt : k * B < S := (nBlk_lt hk.B1).1 hkb
  have hcn := chN_full (B := B) (S := S) (k0 := 0) k (by rw [Nat.zero_add]; omega)
  refine (reelSalvage_any _ u (by rw [List.length_set]; omega) hT).mono ?_
  intro e u' ha
  obtain ⟨gl, rfl, hro, hb⟩ := ha.yesM (m := k) ⟨by rw [List.length_set]; exact hl, e0⟩ (by rw [e2, e3, e4, e6, e8, hZ1]; exact hr)
  rw [e2, e3, e4, e6, e8, hZ1, hcn] at hro
  refine ⟨_, by rw [e2, e3, e4, e5, e6, e7], ?_, hb⟩
  exact hro.view.ext fun c hc j hj => g_smp hk (Nat.le_of_lt hkb) hc (by rw [hcn]; exact hj)
end Go.Proofs.YtlncjgnomhpjnabGreatDoor

/-
  A stream whose frames ahead of a point are written over.
-/
namespace Go.Proofs.YtlncjgnomhpjnabGreatDoor
open Go.RowKit Go.Deep
set_option linter.unusedVariables false
set_option linter.unusedSectionVars false
/-- j bytes from a place on are another -/
def owT (T : List UInt8) (a : Nat) (v : UInt8) : Nat → List UInt8
  | 0 => T
  | j + 1 => (owT T a v j).set (a + j) v
theorem owT_length (T : List UInt8) (a : Nat) (v : UInt8) : ∀ j, (owT T a v j).length = T.length
  | 0 => rfl
  | j + 1 => by
    show ((owT T a v j).set (a + j) v).length = _
    rw [List.length_set, owT_length T a v j]
theorem owT_drop (T : List UInt8) (a : Nat) (v : UInt8) (b : Nat) : ∀ j, a + j ≤ b → (owT T a v j).drop b = T.drop b
  | 0, _ => rfl
  | j + 1, h => by
    show ((owT T a v j).set (a + j) v).drop b = _
    rw [List.drop_set_of_lt (by omega), owT_drop T a v b j (by omega)]
theorem owT_get (T : List UInt8) (a : Nat) (v : UInt8) (i : Nat) : ∀ j, i < j → a + j ≤ T.length → (owT T a v j)[a + i]? = some v
  | 0, h, _ => absurd h (Nat.not_lt_zero i)
  | j + 1, h, hl => by
    show ((owT T a v j).set (a + j) v)[a + i]? = _
    by_cases e : i = j
    · rw [e, List.getElem?_set_self (by rw [owT_length]; omega)]
    · rw [List.getElem?_set_ne (by omega), owT_get T a v i j (by omega) (by omega)]
theorem set_pts {T : List UInt8} {i : Nat} {v : UInt8} (hi : dSz T ≤ i) : dPts (T.set i v) = dPts T := by
  have hsz : dSz T = 22 + 2 * dNp T := rfl
  have e0 : dSz (T.set i v) = dSz T := set_np (by omega)
  have e0' : dNp (T.set i v) = dNp T := by
    have : dSz (T.set i v) = 22 + 2 * dNp (T.set i v) := rfl
    omega
  unfold dPts
  rw [e0']
  refine List.map_congr_left fun k hk => ?_
  rw [List.mem_range] at hk
  exact fld_set (by omega)
/-- the head of such a text -/
theorem owT_hd {T : List UInt8} {a : Nat} {v : UInt8} (h : HdP T) (ha : dSz T ≤ a) : ∀ j, HdP (owT T a v j) ∧ dWh (owT T a v j) = dWh T ∧ dCh (owT T a v j) = dCh T ∧ dDe (owT T a v j) = dDe T ∧ dBl (owT T a v j) = dBl T ∧ dRa (owT T a v j) = dRa T ∧ dSa (owT T a v j) = dSa T ∧ dSe (owT T a v j) = dSe T ∧ dSz (owT T a v j) = dSz T ∧ dPts (owT T a v j) = dPts T
  | 0 => ⟨h, rfl, rfl, rfl, rfl, rfl, rfl, rfl, rfl, rfl⟩
  | j + 1 => by
    obtain ⟨e0, e1, e2, e3, e4, e5, e6, e7, e8, e9⟩ := owT_hd (v := v) h ha j
    obtain ⟨f0, f1, f2, f3, f4, f5, f6, f7, f8⟩ := set_hd (i := a + j) (v := v) e0 (by omega)
    have f9 := set_pts (T := owT T a v j) (i := a + j) (v := v) (by omega)
    exact ⟨f0, f1.trans e1, f2.trans e2, f3.trans e3, f4.trans e4, f5.trans e5, f6.trans e6, f7.trans e7, f8.trans e8, f9.trans e9⟩
/-- a text that begins with one byte again and again is no first frame -/
theorem same_no {X : List UInt8} {v : UInt8} {n d B S : Nat} (h : ∀ i, i < 3 → X[i]? = some v) : ¬ okF n d B S 0 X := by
  rintro ⟨⟨H, ⟨a1, a2, -⟩, hnum, -⟩, -⟩
  have h0 := h 0 (by omega)
  have h1 := h 1 (by omega)
  have h2 := h 2 (by omega)
  have ev : v = 165 := by
    rw [List.getD_eq_getElem?_getD, h0] at a2
    exact a2
  have hp : pieceT X 1 3 = [v, v] := by
    unfold pieceT
    refine List.ext_getElem? fun j => ?_
    match j with
    | 0 => rw [List.getElem?_take_of_lt (by omega), List.getElem?_drop, h1]; rfl
    | 1 => rw [List.getElem?_take_of_lt (by omega), List.getElem?_drop, h2]; rfl
    | j + 2 => rw [List.getElem?_eq_none (by rw [List.length_take]; omega)]; rfl
  unfold hNum at hnum
  rw [hp, ev] at hnum
  exact absurd hnum (by decide)
section
variable {d ch B c3 c4 S : Nat} {G : Nat → Nat → Int} (hk : KP d ch B c3 c4 S G) {k : Nat} {v : UInt8}
include hk
/-- the point from which frames are read, and what stands from there on -/
theorem ow_stN (q : Nat) : stN (owT (streamT d ch B c3 c4 G S) (22 + 2 * nPts S B c4) v q) k = stN (streamT d ch B c3 c4 G S) k ∧ stB (owT (streamT d ch B c3 c4 G S) (22 + 2 * nPts S B c4) v q) k = stB (streamT d ch B c3 c4 G S) k := by
  obtain ⟨e0, e1, e2, e3, e4, e5, e6, e7, e8, e9⟩ := owT_hd (v := v) (stream_hd hk) (show dSz _ ≤ 22 + 2 * nPts S B c4 by rw [(stream_head hk).sz]; exact Nat.le_refl _) q
  unfold stN stB
  rw [e4, e7, e9]
  exact ⟨rfl, rfl⟩
theorem ow_drop (hkS : k < S) (q : Nat) (hq : q ≤ (frsT d ch G S B (stN (streamT d ch B c3 c4 G S) k)).length) : (owT (streamT d ch B c3 c4 G S) (22 + 2 * nPts S B c4) v q).drop (22 + 2 * nPts S B c4 + stB (streamT d ch B c3 c4 G S) k) = tlX d ch G S B (stN (streamT d ch B c3 c4 G S) k) := by
  have h1 := stream_from hk hkS
  rw [(stream_head hk).sz] at h1
  have h2 := stream_stB hk hkS
  rw [owT_drop _ _ _ _ q (by omega), h1]
/-- From is not troubled -/
theorem ow_frm (hkS : k ≤ S) (q : Nat) (hq : k < S → q ≤ (frsT d ch G S B (stN (streamT d ch B c3 c4 G S) k)).length) : frmE (owT (streamT d ch B c3 c4 G S) (22 + 2 * nPts S B c4) v q) k = 0 := by
  have hh := stream_head hk
  obtain ⟨e0, e1, e2, e3, e4, e5, e6, e7, e8, e9⟩ := owT_hd (v := v) (stream_hd hk) (show dSz _ ≤ 22 + 2 * nPts S B c4 by rw [hh.sz]; exact Nat.le_refl _) q
  rw [hh.wh] at e1
  rw [hh.ch] at e2
  rw [hh.de] at e3
  rw [hh.bl] at e4
  rw [hh.sa] at e6
  rw [hh.sz] at e8
  unfold frmE
  rw [owT_length, if_pos (stream_short hk), if_pos ⟨e0, e1⟩, e6, if_pos ⟨by omega, by omega⟩, if_pos]
  by_cases he : k = S
  · left; omega
  · right
    rw [Int.toNat_natCast]
    obtain ⟨s1, s2⟩ := ow_stN (v := v) hk (k := k) q
    have hb : stN (streamT d ch B c3 c4 G S) k < nBlk S B := by
      have := stN_lt (T := streamT d ch B c3 c4 G S) (a := k) (by rw [hh.bl]; exact hk.B1) (by rw [hh.sa]; omega)
      rwa [hh.sa, hh.bl] at this
    unfold FrmsP
    rw [s1, s2, e2, e3, e4, e6, e8, owT_length, ow_drop hk (by omega) q (hq (by omega))]
    refine ⟨?_, nBlk S B - stN (streamT d ch B c3 c4 G S) k, tl_run hk (Nat.le_of_lt hb), by omega, tl_off hk (Nat.le_of_lt hb)⟩
    rw [stream_stB hk (by omega), stream_len hk]
    obtain ⟨Z, hZ⟩ := frs_pre d ch G S B (stN (streamT d ch B c3 c4 G S) k) (nBlk S B - stN (streamT d ch B c3 c4 G S) k)
    rw [Nat.add_sub_cancel' (Nat.le_of_lt hb)] at hZ
    rw [hZ, List.length_append]
    omega
theorem ow_frmS (hkS : k < S) (q : Nat) (hq : q ≤ (frsT d ch G S B (stN (streamT d ch B c3 c4 G S) k)).length) {c j : Nat} (hc : c < ch) (hj : j < S - k) : frmS (owT (streamT d ch B c3 c4 G S) (22 + 2 * nPts S B c4) v q) k c j = G c (k + j) := by
  have hh := stream_head hk
  obtain ⟨e0, e1, e2, e3, e4, e5, e6, e7, e8, e9⟩ := owT_hd (v := v) (stream_hd hk) (show dSz _ ≤ 22 + 2 * nPts S B c4 by rw [hh.sz]; exact Nat.le_refl _) q
  obtain ⟨s1, s2⟩ := ow_stN (v := v) hk (k := k) q
  rw [← stream_frmS hk hkS hc hj]
  unfold frmS
  rw [s1, s2, e2, e3, e4, e6, e8, hh.sz, ow_drop hk hkS q hq, ← hh.sz, stream_from hk hkS]
/-- but what stands at the beginning is no frame -/
theorem ow_run (q : Nat) (hq : 3 ≤ q) (hq2 : 22 + 2 * nPts S B c4 + q ≤ (streamT d ch B c3 c4 G S).length) : RunIs ch d B S 0 ((owT (streamT d ch B c3 c4 G S) (22 + 2 * nPts S B c4) v q).drop (22 + 2 * nPts S B c4)) 0 :=
  ⟨.inl (Nat.zero_le _), fun j hj => absurd hj (Nat.not_lt_zero j), fun _ => same_no (v := v) fun i hi => by
    show ((List.drop (22 + 2 * nPts S B c4) _).drop 0)[i]? = some v
    rw [List.drop_zero, List.getElem?_drop]
    exact owT_get _ _ _ i q (by omega) hq2⟩
theorem ow_decE (q : Nat) (hq : 3 ≤ q) (hq2 : 22 + 2 * nPts S B c4 + q ≤ (streamT d ch B c3 c4 G S).length) (hS : 0 < nBlk S B) : decE (owT (streamT d ch B c3 c4 G S) (22 + 2 * nPts S B c4) v q) = 6 := by
  have hh := stream_head hk
  obtain ⟨e0, e1, e2, e3, e4, e5, e6, e7, e8, e9⟩ := owT_hd (v := v) (stream_hd hk) (show dSz _ ≤ 22 + 2 * nPts S B c4 by rw [hh.sz]; exact Nat.le_refl _) q
  rw [hh.wh] at e1
  rw [hh.ch] at e2
  rw [hh.de] at e3
  rw [hh.bl] at e4
  rw [hh.sa] at e6
  rw [hh.sz] at e8
  unfold decE
  rw [owT_length, if_pos (stream_short hk), if_pos ⟨e0, e1⟩, if_neg]
  rintro ⟨m, hr, hm, -⟩
  rw [e2, e3, e4, e6, e8] at hr
  have := hr.uniq (ow_run hk (v := v) q hq hq2)
  rw [e4, e6] at hm
  omega
theorem ow_frm0 (q : Nat) (hq : 3 ≤ q) (hq2 : 22 + 2 * nPts S B c4 + q ≤ (streamT d ch B c3 c4 G S).length) (hS : 0 < nBlk S B) : frmE (owT (streamT d ch B c3 c4 G S) (22 + 2 * nPts S B c4) v q) 0 = 6 := by
  have hh := stream_head hk
  obtain ⟨e0, e1, e2, e3, e4, e5, e6, e7, e8, e9⟩ := owT_hd (v := v) (stream_hd hk) (show dSz _ ≤ 22 + 2 * nPts S B c4 by rw [hh.sz]; exact Nat.le_refl _) q
  have hS1 : 0 < S := by
    have := nBlk_le (S := S) (B := B) hk.B1
    omega
  obtain ⟨s1, s2⟩ := ow_stN (v := v) hk (k := 0) q
  have z1 : stN (streamT d ch B c3 c4 G S) 0 = 0 := by
    have := stN_le (streamT d ch B c3 c4 G S) 0
    rw [hh.bl] at this
    have hb := hk.B1
    rcases Nat.eq_zero_or_pos (stN (streamT d ch B c3 c4 G S) 0) with h | h
    · exact h
    · have : 1 * 1 ≤ stN (streamT d ch B c3 c4 G S) 0 * B := Nat.mul_le_mul h hb
      omega
  have z2 : stB (streamT d ch B c3 c4 G S) 0 = 0 := by
    rw [stream_stB hk hS1, z1]
    rfl
  rw [hh.wh] at e1
  rw [hh.ch] at e2
  rw [hh.de] at e3
  rw [hh.bl] at e4
  rw [hh.sa] at e6
  rw [hh.sz] at e8
  unfold frmE
  rw [owT_length, if_pos (stream_short hk), if_pos ⟨e0, e1⟩, e6, if_pos ⟨by omega, by omega⟩, if_neg]
  rintro (h | ⟨-, m, hr, hm, -⟩)
  · omega
  · rw [show (0 : Int).toNat = 0 from rfl] at hr hm
    rw [s1, s2, z1, z2, Nat.add_zero, e2, e3, e4, e6, e8] at hr
    rw [s1, z1, e4, e6] at hm
    have := hr.uniq (ow_run hk (v := v) q hq hq2)
    omega
end
end Go.Proofs.YtlncjgnomhpjnabGreatDoor

/-
  What was lent, looked at; the sound that came in (door seats).
-/
namespace Go.Proofs.YtlncjgnomhpjnabGreatDoor
open Go.RowKit Go.Deep
set_option linter.unusedVariables false
/-- a sound that came in -/
structure SoundIn (w : World) (a : Option Addr) (n cap : Nat) (A : Nat → Option Addr) (L C : Nat → Nat) (F : Nat → Nat → Int) : Prop where
  nil : a = none → n = 0 ∧ cap = 0
  hn : n ≤ 5864062014805
  hL : ∀ i, i < n → L i ≤ 17592186044416
  hA : ListsAt w a n A L C
  hI : ∀ i, i < n → IntsAt w (A i) (L i) (F i)
  low : Low w.heap.size a n A L
  no : ∀ i, i < n → A i = none → L i = 0 ∧ C i = 0
  room : ∀ i, i < n → L i ≤ C i
theorem SoundIn.below {w w' : World} {a : Option Addr} {n cap : Nat} {A : Nat → Option Addr} {L C : Nat → Nat} {F : Nat → Nat → Int} (h : SoundIn w a n cap A L C F) (hb : Below w.heap.size w w') : SoundIn w' a n cap A L C F :=
  ⟨h.nil, h.hn, h.hL, h.hA.below hb h.low.1, fun i hi => (h.hI i hi).below hb (h.low.2 i hi), ⟨fun x hx h0 => Nat.lt_of_lt_of_le (h.low.1 x hx h0) hb.size, fun i hi x hx h0 => Nat.lt_of_lt_of_le (h.low.2 i hi x hx h0) hb.size⟩, h.no, h.room⟩
end Go.Proofs.YtlncjgnomhpjnabGreatDoor

/-
  What comes in, opened: a configuration, a sound (door seats).
-/
namespace Go.Proofs.YtlncjgnomhpjnabGreatDoor
open Go.ChangeShapes Go.WideShapes Go.ChangeAt Go.RowKit Go.Deep
theorem cellsCfg : Tryz.prog.cellsOf 23 = 8 := by kernel_rfl
theorem cellsInt : Tryz.prog.cellsOf 3 = 1 := by kernel_rfl
theorem cellsInts : Tryz.prog.cellsOf 30 = 1 := by kernel_rfl
theorem bytesInt : Tryz.prog.bytesOf 3 = 8 := by kernel_rfl
theorem bytesInts : Tryz.prog.bytesOf 30 = 24 := by kernel_rfl
theorem array8 {α : Type} {cs : Array α} (h : cs.size = 8) : ∃ c0 c1 c2 c3 c4 c5 c6 c7, cs = #[c0, c1, c2, c3, c4, c5, c6, c7] := by
  obtain ⟨l⟩ := cs
  match l, h with
  | [c0, c1, c2, c3, c4, c5, c6, c7], _ => exact ⟨c0, c1, c2, c3, c4, c5, c6, c7, rfl⟩
theorem weights_all {H : Type} {P : Program} {e : TypeId} {d : DataW H} : ∀ {l : List (DataW H)}, d ∈ l → ∀ n ∈ d.weights P e, n ∈ DataW.weightsAll P e l
  | x :: l, hd, n, hn => by
    simp only [DataW.weightsAll, List.mem_append]
    cases List.mem_cons.1 hd with
    | inl h => subst h; exact Or.inl hn
    | inr h => exact Or.inr (weights_all h n hn)
end Go.Proofs.YtlncjgnomhpjnabGreatDoor

/-
  A sound and a configuration that came in, with the ranges of their numbers.
-/
namespace Go.Proofs.YtlncjgnomhpjnabGreatDoor
open Go.ChangeShapes Go.WideShapes Go.ChangeAt Go.RowKit Go.Deep
set_option linter.unusedVariables false
set_option maxRecDepth 100000 in
theorem open_cfgR {H : Type} {enc : TypeId × Value → H} {W : World} {base : Nat} {v : Value} {d : DataW H} {p : List MemPlace}
    (hv : Value.okWide Tryz.prog W .any base 23 v) (h : DataW.Trod enc Tryz.prog W 0 (fun _ => true) true 23 v d p) :
    ∃ c0 c1 c2 c3 c4 c5 c6 c7 : Int, v = .agg #[.int .i64 c0, .int .i64 c1, .int .i64 c2, .int .i64 c3, .int .i64 c4, .int .i64 c5, .int .i64 c6, .int .i64 c7] ∧ (-9223372036854775808 ≤ c3 ∧ c3 ≤ 9223372036854775807) ∧ (-9223372036854775808 ≤ c4 ∧ c4 ≤ 9223372036854775807) := by
  obtain ⟨cs, rfl, hsz⟩ := okWide_struct Tryz.underlying23 hv
  obtain ⟨v0, v1, v2, v3, v4, v5, v6, v7, rfl⟩ := array8 (hsz.trans cellsCfg)
  obtain ⟨fuel, hf⟩ := h
  obtain ⟨xs, n, _, _, _, hlen, hfs⟩ := DataW.trod_struct Tryz.underlying23 hf
  have hg : ∀ i, i < 8 → ∃ y, xs[i]? = some y := fun i hi => ⟨_, List.getElem?_eq_getElem (by rw [hlen]; exact hi)⟩
  have h0 := hfs 0 _ rfl
  have h1 := hfs 1 _ rfl
  have h2 := hfs 2 _ rfl
  have h3 := hfs 3 _ rfl
  have h4 := hfs 4 _ rfl
  have h5 := hfs 5 _ rfl
  have h6 := hfs 6 _ rfl
  have h7 := hfs 7 _ rfl
  obtain ⟨y0, e0⟩ := hg 0 (by omega)
  obtain ⟨y1, e1⟩ := hg 1 (by omega)
  obtain ⟨y2, e2⟩ := hg 2 (by omega)
  obtain ⟨y3, e3⟩ := hg 3 (by omega)
  obtain ⟨y4, e4⟩ := hg 4 (by omega)
  obtain ⟨y5, e5⟩ := hg 5 (by omega)
  obtain ⟨y6, e6⟩ := hg 6 (by omega)
  obtain ⟨y7, e7⟩ := hg 7 (by omega)
  obtain ⟨c0, k0, _⟩ := DataW.trod_int Tryz.underlying3 (h0.trans e0)
  obtain ⟨c1, k1, _⟩ := DataW.trod_int Tryz.underlying3 (h1.trans e1)
  obtain ⟨c2, k2, _⟩ := DataW.trod_int Tryz.underlying3 (h2.trans e2)
  obtain ⟨c3, k3, _, r3⟩ := DataW.trod_int Tryz.underlying3 (h3.trans e3)
  obtain ⟨c4, k4, _, r4⟩ := DataW.trod_int Tryz.underlying3 (h4.trans e4)
  obtain ⟨c5, k5, _⟩ := DataW.trod_int Tryz.underlying3 (h5.trans e5)
  obtain ⟨c6, k6, _⟩ := DataW.trod_int Tryz.underlying3 (h6.trans e6)
  obtain ⟨c7, k7, _⟩ := DataW.trod_int Tryz.underlying3 (h7.trans e7)
  simp [Value.cells, cellsInt] at k0 k1 k2 k3 k4 k5 k6 k7
  exact ⟨c0, c1, c2, c3, c4, c5, c6, c7, by rw [k0, k1, k2, k3, k4, k5, k6, k7], bounds_i64 r3, bounds_i64 r4⟩
set_option maxRecDepth 100000 in
/-- a sound that came in, as the walk is told of it; 'hw': what weighs among the data -/
theorem open_soundR {H : Type} {enc : TypeId × Value → H} {W : World} {a : Option Addr} {n cap : Nat} {d : DataW H} {p : List MemPlace}
    (h : DataW.Trod enc Tryz.prog W 0 (fun _ => true) true 24 (.slice a n cap) d p) (hw : ∀ x ∈ d.weights Tryz.prog 24, x ≤ reachBytes) (hlt : ∀ x ∈ p, x.block < W.heap.size) :
    ∃ (A : Nat → Option Addr) (L C : Nat → Nat) (F : Nat → Nat → Int), SoundIn W a n cap A L C F ∧ ∀ i, i < n → ∀ j, j < L i → -9223372036854775808 ≤ F i j ∧ F i j ≤ 9223372036854775807 := by
  obtain ⟨fuel, hf⟩ := h
  rcases open_int_rows Tryz.underlying24 Tryz.underlying30 Tryz.underlying3 cellsInts cellsInt hf with ⟨hcs, _⟩ | ⟨x, len, cp, A, L, C, Z, hcs, _, hl, _, hx, hrows⟩
  · simp [Value.cells] at hcs
    obtain ⟨rfl, rfl, rfl⟩ := hcs
    exact ⟨fun _ => none, fun _ => 0, fun _ => 0, fun _ _ => 0, ⟨fun _ => ⟨rfl, rfl⟩, by omega, fun i hi => absurd hi (by omega), fun i hi => absurd hi (by omega), fun i hi => absurd hi (by omega), ⟨fun x hx => (by cases hx), fun i hi => absurd hi (by omega)⟩, fun i hi => absurd hi (by omega), fun i hi => absurd hi (by omega)⟩, fun i hi => absurd hi (by omega)⟩
  · simp [Value.cells] at hcs
    obtain ⟨rfl, rfl, rfl⟩ := hcs
    simp only [Prod.mk.injEq] at hx
    obtain ⟨rfl, rfl⟩ := hx
    have hn : n ≤ 5864062014805 := by
      have := hw _ (by simp only [DataW.weights, Tryz.underlying24]; exact List.mem_cons_self)
      simp only [List.length_map, List.length_range, bytesInts, reachBytes] at this
      omega
    have hwi : ∀ i, i < n → A i ≠ none → L i ≤ 17592186044416 := fun i hi hA => by
      obtain ⟨_, hLC, _, hZ, _⟩ := hrows i (by omega)
      cases hAi : A i with
      | none => exact absurd hAi hA
      | some y =>
        have hm : (DataW.slice (lits .i64 ((Z i).take (L i))) (lits .i64 ((Z i).drop (L i))) : DataW H) ∈ (List.range n).map fun r => intRow .i64 (A r) (L r) (Z r) :=
          List.mem_map.2 ⟨i, List.mem_range.2 hi, by simp [intRow, hAi]⟩
        have := hw (((lits (H := H) .i64 ((Z i).take (L i))).length + (lits (H := H) .i64 ((Z i).drop (L i))).length) * Tryz.prog.bytesOf 3) (by
          simp only [DataW.weights, Tryz.underlying24]
          refine List.mem_cons_of_mem _ (List.mem_append_left _ (weights_all hm _ ?_))
          simp only [DataW.weights, Tryz.underlying30]
          exact List.mem_cons_self)
        simp only [lits, List.length_map, List.length_take, List.length_drop, bytesInt, reachBytes] at this
        omega
    refine ⟨A, L, C, fun i j => (Z i).getD j 0, ⟨fun hx => (by cases hx), hn, fun i hi => ?_, fun i hi => ?_, fun i hi j hj => ?_, ⟨fun y hy h0 => ?_, fun i hi y hy h0 => ?_⟩, fun i hi hA => ?_, fun i hi => (hrows i (by omega)).2.1⟩, fun i hi j hj => ?_⟩
    · by_cases hA : A i = none
      · obtain ⟨_, hLC, _, _, _, hN, _⟩ := hrows i (by omega)
        have := hN hA; omega
      · exact hwi i hi hA
    · exact ⟨x, rfl, (hrows i (by omega)).1⟩
    · obtain ⟨_, hLC, _, _, _, hN, hc⟩ := hrows i (by omega)
      cases hAi : A i with
      | none => have := hN hAi; omega
      | some y => exact ⟨y, rfl, (hc y hAi).2 j (by omega)⟩
    · cases hy
      exact World.block_lt_of_cell? W _ (hrows 0 (by omega)).1 |> fun h => by simpa [Addr.add] using h
    · obtain ⟨_, hLC, _, _, _, _, hc⟩ := hrows i (by omega)
      exact World.block_lt_of_cell? W _ ((hc y hy).2 0 (by omega)) |> fun h => by simpa [Addr.add] using h
    · obtain ⟨_, hLC, _, _, _, hN, _⟩ := hrows i (by omega)
      have := hN hA; omega
    · obtain ⟨_, hLC, _, hZ, hwf, _⟩ := hrows i (by omega)
      have hlt : j < (Z i).length := by omega
      refine bounds_i64 (hwf _ ?_)
      show (Z i).getD j 0 ∈ Z i
      rw [List.getD_eq_getElem?_getD, List.getElem?_eq_getElem hlt]
      exact List.getElem_mem hlt
end Go.Proofs.YtlncjgnomhpjnabGreatDoor

/-
  Tables of tables among the laid variables.
-/
namespace Go.Proofs.YtlncjgnomhpjnabGreatDoor
open Go Go.Lib
set_option linter.unusedVariables false
theorem cells_of_tab2 {H : Type} {enc : TypeId × Value → H} {P : Program} {w : World} {base : Nat} {sp : Nat → Bool} {held : Bool} {fuel : Nat} {t e1 e : TypeId} {n m : Nat} {k : IntKind} {cs : List Value} {zss : List (List Int)} {p : List MemPlace}
    (ht : P.underlying t = some (.array n e1)) (h1 : P.underlying e1 = some (.array m e)) (he : P.underlying e = some (.int k)) (hce : P.cellsOf e = 1) (hc1 : P.cellsOf e1 = m) (hct : P.cellsOf t = n * m)
    (h : DataW.trod enc P w base sp held fuel t cs = some (.agg (zss.map (tabData k)), p)) :
    ∀ r zs, zss[r]? = some zs → ∀ c z, c < m → zs[c]? = some z → cs[r * m + c]? = some (Value.int k z) := by
  cases fuel with
  | zero => simp [DataW.trod] at h
  | succ fuel =>
    simp only [DataW.trod, ht, hc1, hct] at h
    split at h
    · rename_i hl
      obtain ⟨xs, hm, hx⟩ := Option.map_eq_some_iff.1 h
      have hxs : xs.map (·.1) = zss.map (tabData (H := H) k) := by
        have := congrArg Prod.fst hx
        simpa using this
      have hxl : xs.length = n := by simpa using mapM_length hm
      have hzl : zss.length = n := by
        have := congrArg List.length hxs
        simp at this
        omega
      intro r zs hr c z hc hz
      have hrn : r < n := by rw [← hzl]; exact (List.getElem?_eq_some_iff.1 hr).1
      obtain ⟨b, hb, hf⟩ := mapM_at hm r r (by simp [hrn])
      have h2 : (xs.map (·.1))[r]? = some b.1 := by simp [hb]
      rw [hxs, List.getElem?_map, hr] at h2
      have h3 : b.1 = tabData k zs := by simpa using h2.symm
      obtain ⟨b1, b2⟩ := b
      simp only at h3
      subst h3
      have h4 := cells_of_tab h1 he hce hc1 hf
      have h5 := congrArg (·[c]?) h4
      simp [List.getElem?_drop, hc, hz] at h5
      exact h5
    · cases h
def tabRows : List (List Int) := [[0, 0, 0, 0], [1, 0, 0, 0], [2, -1, 0, 0], [3, -3, 1, 0], [4, -6, 4, -1]]
theorem tabRows_at (r c : Nat) (hr : r < 5) (hc : c < 4) : ∃ zs, tabRows[r]? = some zs ∧ zs[c]? = some (tab r c) := by
  have h : ∀ r : Fin 5, ∀ c : Fin 4, (tabRows[r.val]?.bind fun zs => zs[c.val]?) = some (tab r.val c.val) := by decide
  have := h ⟨r, hr⟩ ⟨c, hc⟩
  exact Option.bind_eq_some_iff.1 this
theorem gFixed : Tryz.prog.globalNamed "reel/subframe.fixedWeights" = some 5 := by kernel_rfl
theorem gFixedType : (Tryz.prog.globals[5]?).map (·.type) = some 387 := by kernel_rfl
theorem cells54 : Tryz.prog.cellsOf 387 = 5 * 4 := by kernel_rfl
theorem cells4 : Tryz.prog.cellsOf 331 = 4 := by kernel_rfl
theorem cells1 : Tryz.prog.cellsOf 3 = 1 := by kernel_rfl
end Go.Proofs.YtlncjgnomhpjnabGreatDoor

