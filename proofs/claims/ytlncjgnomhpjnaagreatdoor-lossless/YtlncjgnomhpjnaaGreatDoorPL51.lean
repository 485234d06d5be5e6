import Derived.Test.YtlncjgnomhpjnaaGreatDoorPL50
import Derived.Test.YtlncjgnomhpjnaaGreatDoorPL49
/-
  Lists from a place on: rows of lists, cut.
-/
namespace Go.Proofs.YtlncjgnomhpjnaaGreatDoor
open Go.RowKit Go.Deep
set_option linter.unusedVariables false
/-- a row of lists, of which the first j are cut -/
def ctV (bk ofs cs : Nat → Nat) (nn q j i : Nat) : Value := if i < j then .slice (some ⟨bk i, ofs i + q, none⟩) (nn - q : Nat) (cs i - q : Nat) else .slice (some ⟨bk i, ofs i, none⟩) nn (cs i)
structure CutI (base : Nat) (u : World) (g n nn q j : Nat) (bk ofs cs : Nat → Nat) (H : Nat → Nat → Int) : Prop where
  le : base ≤ g
  row : u.rowIs g 29 n (ctV bk ofs cs nn q j)
  cap : ∀ c, c < n → nn ≤ cs c
  low : ∀ c, c < n → base ≤ bk c
  lst : ∀ c, c < n → ∃ N f, u.rowIs (bk c) 3 N f ∧ ofs c + cs c ≤ N ∧ ∀ i, i < nn → f (ofs c + i) = .int .i64 (H c i)
  apart : ∀ c c', c < n → c' < n → c ≠ c' → bk c ≠ bk c'
theorem RowsL.toCut {base : Nat} {u : World} {g n nn : Nat} {H : Nat → Nat → Int} (h : RowsL base u (.slice (some ⟨g, 0, none⟩) n n) n nn H) (hn : 0 < nn) (q : Nat) : ∃ bk ofs cs, CutI base u g n nn q 0 bk ofs cs H := by
  obtain ⟨g', vs, ogs, h1, h2, h3, h4, h5⟩ := h
  have eg : g' = g := by injection h1 with e; injection e with e; injection e with e; exact e.symm
  subst eg
  have hex : ∀ c, ∃ p : Nat × Nat × Nat, c < n → ogs c = some p.1 ∧ vs c = .slice (some ⟨p.1, p.2.1, none⟩) nn p.2.2 ∧ nn ≤ p.2.2 ∧ ∃ N f, u.rowIs p.1 3 N f ∧ p.2.1 + p.2.2 ≤ N ∧ ∀ i, i < nn → f (p.2.1 + i) = .int .i64 (H c i) := fun c => by
    by_cases hc : c < n
    · rcases (h4 c hc).1 with ⟨-, e, -⟩ | ⟨b, o, k, N, f, e1, e2, e3, e4, e5, e6⟩
      · omega
      · exact ⟨(b, o, k), fun _ => ⟨e1, e2, e5, N, f, e3, e4, e6⟩⟩
    · exact ⟨(0, 0, 0), fun h => absurd h hc⟩
  refine ⟨fun c => (hex c).choose.1, fun c => (hex c).choose.2.1, fun c => (hex c).choose.2.2, h2, h3.congr fun i hi => ?_, fun c hc => ((hex c).choose_spec hc).2.2.1, fun c hc => (h4 c hc).2 _ ((hex c).choose_spec hc).1, fun c hc => ((hex c).choose_spec hc).2.2.2, fun c c' hc hc' hne e => ?_⟩
  · unfold ctV
    rw [if_neg (Nat.not_lt_zero i)]
    exact ((hex i).choose_spec hi).2.1
  · refine h5 c c' hc hc' hne _ ((hex c).choose_spec hc).1 ?_
    have e' : (hex c).choose.1 = (hex c').choose.1 := e
    rw [e']
    exact ((hex c').choose_spec hc').1
theorem CutI.step {base : Nat} {u : World} {g n nn q j : Nat} {bk ofs cs : Nat → Nat} {H : Nat → Nat → Int} (h : CutI base u g n nn q j bk ofs cs H) : CutI base (u.setCell ⟨g, j, none⟩ (.slice (some ⟨bk j, ofs j + q, none⟩) (nn - q : Nat) (cs j - q : Nat))) g n nn q (j + 1) bk ofs cs H := by
  refine ⟨h.le, (h.row.set j _).congr fun i _ => ?_, h.cap, h.low, fun c hc => ?_, h.apart⟩
  · unfold ctV
    by_cases e : i = j
    · rw [if_pos e, if_pos (by omega), e]
    · rw [if_neg e]
      by_cases e2 : i < j
      · rw [if_pos e2, if_pos (by omega)]
      · rw [if_neg e2, if_neg (by omega)]
  · obtain ⟨N, f, h1, h2⟩ := h.lst c hc
    refine ⟨N, f, h1.setOther (fun e => ?_) _, h2⟩
    have e' : bk c = g := e
    rw [e'] at h1
    exact absurd (row_type h1 h.row) (by decide)
theorem CutI.done {base : Nat} {u : World} {g n nn q : Nat} {bk ofs cs : Nat → Nat} {H : Nat → Nat → Int} (h : CutI base u g n nn q n bk ofs cs H) (hq : q ≤ nn) : RowsL base u (.slice (some ⟨g, 0, none⟩) n n) n (nn - q) (fun c j => H c (q + j)) := by
  refine ⟨g, ctV bk ofs cs nn q n, fun c => some (bk c), rfl, h.le, h.row, fun c hc => ⟨.inr ?_, fun k hk => by injection hk with hk; rw [← hk]; exact h.low c hc⟩, fun c c' hc hc' hne k h1 h2 => h.apart c c' hc hc' hne ?_⟩
  · obtain ⟨N, f, h1, h2, h3⟩ := h.lst c hc
    have hcap := h.cap c hc
    refine ⟨bk c, ofs c + q, cs c - q, N, f, rfl, ?_, h1, by omega, by omega, fun i hi => ?_⟩
    · unfold ctV; rw [if_pos hc]
    · rw [Nat.add_assoc]; exact h3 (q + i) (by omega)
  · injection h1 with h1
    injection h2 with h2
    rw [h1, h2]
theorem CutI.cell {base : Nat} {u : World} {g n nn q j : Nat} {bk ofs cs : Nat → Nat} {H : Nat → Nat → Int} (h : CutI base u g n nn q j bk ofs cs H) (hj : j < n) : u.cell? ⟨g, j, none⟩ = some (.slice (some ⟨bk j, ofs j, none⟩) nn (cs j)) := by
  have := h.row.cell hj
  unfold ctV at this
  rw [if_neg (Nat.lt_irrefl j)] at this
  exact this
theorem CutI.below {base : Nat} {u u' : World} {g n nn q j : Nat} {bk ofs cs : Nat → Nat} {H : Nat → Nat → Int} (h : CutI base u g n nn q j bk ofs cs H) (hb : Below u.heap.size u u') : CutI base u' g n nn q j bk ofs cs H :=
  ⟨h.le, row_below h.row hb, h.cap, h.low, fun c hc => by
    obtain ⟨N, f, h1, h2⟩ := h.lst c hc
    exact ⟨N, f, row_below h1 hb, h2⟩, h.apart⟩
/-- another block than the row -/
theorem Bx.ne_row {u : World} {b g N : Nat} {t e : TypeId} {cs : Array Value} {f : Nat → Value} (h : Bx u b t cs) (hr : u.rowIs g e N f) (ht : t ≠ e) : b ≠ g := by
  rintro rfl
  obtain ⟨c, hc, -⟩ := hr
  have h' : u.heap[b]? = _ := h
  rw [hc] at h'
  injection h' with h'
  injection h' with h1 h2
  exact ht h2.symm
theorem Bx.put {u : World} {b : Nat} {t : TypeId} {cs : Array Value} (h : Bx u b t cs) {a : Addr} (ha : b ≠ a.block) (v : Value) : Bx (u.setCell a v) b t cs := h.of (blk_setCell_other _ _ _ _ ha)
/-- the block from which on frames are read lies at or ahead of the sample -/
theorem stN_le (T : List UInt8) (a : Nat) : stN T a * dBl T ≤ a := by
  unfold stN
  split
  · omega
  · exact Nat.le_trans (Nat.mul_le_mul_right _ (Nat.div_mul_le_self _ _)) (Nat.div_mul_le_self _ _)
theorem stN_lt {T : List UInt8} {a : Nat} (hB : 1 ≤ dBl T) (ha : a < dSa T) : stN T a < nBlk (dSa T) (dBl T) := (nBlk_lt hB).2 (Nat.lt_of_le_of_lt (stN_le T a) ha)
/-- the lists, cut -/
theorem cut_frm {base : Nat} {u : World} {g : Nat} {bk ofs cs : Nat → Nat} {T : List UInt8} {a m nn : Nat} (hB : 1 ≤ dBl T) (ha : a < dSa T) (hm : stN T a + m = nBlk (dSa T) (dBl T)) (hnn : nn = chN (dBl T) (dSa T) (stN T a) m)
    (h : CutI base u g (dCh T) nn (a - stN T a * dBl T) (dCh T) bk ofs cs (smpL (dCh T) (dDe T) (dBl T) (dSa T) (stN T a) (T.drop (dSz T + stB T a)) m)) : RowsL base u (.slice (some ⟨g, 0, none⟩) (dCh T) (dCh T)) (dCh T) (dSa T - a) (frmS T a) := by
  have h1 := stN_le T a
  have h2 := chN_whole hB hm (by omega)
  have h3 := h.done (by omega)
  have e1 : nn - (a - stN T a * dBl T) = dSa T - a := by omega
  have e2 : m = nBlk (dSa T) (dBl T) - stN T a := by omega
  rw [e1, e2] at h3
  exact h3
/-- a point is a number of two bytes -/
theorem pt_bd {T : List UInt8} (hp : HdP T) (k : Nat) : (dPts T).getD k 0 ≤ 65535 := by
  unfold dPts
  rw [List.getD_eq_getElem?_getD, List.getElem?_map]
  by_cases hk : k < dNp T
  · rw [List.getElem?_range hk]
    show fld T (20 + 2 * k) (22 + 2 * k) ≤ _
    have h1 := fld_lt T (20 + 2 * k) (22 + 2 * k) (by omega) (by have := hp.2.2.2.1; unfold dSz at this; omega)
    rw [show 22 + 2 * k - (20 + 2 * k) = 2 by omega] at h1
    omega
  · rw [List.getElem?_eq_none (by simp; omega)]
    simp
theorem stB_bd {T : List UInt8} (hp : HdP T) (a : Nat) : stB T a ≤ 65535 := by
  unfold stB
  split
  · omega
  · exact pt_bd hp _
end Go.Proofs.YtlncjgnomhpjnaaGreatDoor

/-
  A stream that was made is read as its sound.
-/
namespace Go.Proofs.YtlncjgnomhpjnaaGreatDoor
open Go.RowKit Go.Deep
set_option linter.unusedVariables false
/-- a configuration and a sound of it -/
structure KP (d n B c3 c4 S : Nat) (F : Nat → Nat → Int) : Prop where
  d4 : 4 ≤ d
  d12 : d ≤ 12
  n1 : 1 ≤ n
  n4 : n ≤ 4
  B1 : 1 ≤ B
  B32 : B ≤ 32
  c3b : c3 < 65536
  c4b : c4 < 256
  S3 : S ≤ 300
  fit : ∀ i, i < n → ∀ j, j < S → fitsB d (F i j) = true
theorem KP.blk {d n B c3 c4 S : Nat} {F : Nat → Nat → Int} (h : KP d n B c3 c4 S F) {k : Nat} (hk : k < nBlk S B) : ∀ i, i < n → ∀ j, j < blkN S B k → fitsB d (blkF F B k i j) = true := fun i hi j hj => by
  have := blkN_bd h.B1 hk
  exact h.fit i hi (k * B + j) (by omega)
theorem KP.nb {d n B c3 c4 S : Nat} {F : Nat → Nat → Int} (h : KP d n B c3 c4 S F) : nBlk S B ≤ 300 := Nat.le_trans (nBlk_le h.B1) h.S3
/-- the frames from one on -/
def tlX (d n : Nat) (F : Nat → Nat → Int) (S B k : Nat) : List UInt8 := (frsT d n F S B (nBlk S B)).drop (frsT d n F S B k).length
theorem frs_pre (d n : Nat) (F : Nat → Nat → Int) (S B k : Nat) : ∀ j, ∃ Z, frsT d n F S B (k + j) = frsT d n F S B k ++ Z
  | 0 => ⟨[], by rw [List.append_nil]; rfl⟩
  | j + 1 => by
    obtain ⟨Z, hZ⟩ := frs_pre d n F S B k j
    exact ⟨Z ++ frT d n F S B (k + j), by show frsT d n F S B (k + j) ++ frT d n F S B (k + j) = _; rw [hZ, List.append_assoc]⟩
theorem tl_step {d n : Nat} {F : Nat → Nat → Int} {S B k : Nat} (hk : k < nBlk S B) : tlX d n F S B k = frT d n F S B k ++ tlX d n F S B (k + 1) := by
  obtain ⟨Z, hZ⟩ := frs_pre d n F S B (k + 1) (nBlk S B - (k + 1))
  rw [Nat.add_sub_cancel' hk] at hZ
  have e : frsT d n F S B (k + 1) = frsT d n F S B k ++ frT d n F S B k := rfl
  unfold tlX
  rw [hZ, List.drop_left, e, List.append_assoc, List.drop_left]
theorem tl_end (d n : Nat) (F : Nat → Nat → Int) (S B : Nat) : tlX d n F S B (nBlk S B) = [] := List.drop_length
theorem tl_zero (d n : Nat) (F : Nat → Nat → Int) (S B : Nat) : tlX d n F S B 0 = frsT d n F S B (nBlk S B) := rfl
/-- a frame of the stream -/
theorem tl_frame {d n B c3 c4 S : Nat} {F : Nat → Nat → Int} (h : KP d n B c3 c4 S F) {k : Nat} (hk : k < nBlk S B) :
    okF n d B S k (tlX d n F S B k) ∧ hLen (tlX d n F S B k) = lnF d n F S B k ∧ ∀ c, c < n → ∀ j, j < blkN S B k → smpF n d B k (tlX d n F S B k) c j = F c (k * B + j) := by
  have hb := blkN_bd h.B1 hk
  have hnb := h.nb
  have h1 := h.d4
  have h2 := h.B32
  obtain ⟨H, hF, hc, hl, hH⟩ := frame_back (B := B) (number := k) (tlX d n F S B (k + 1)) hb.1 hb.2.1 h2 (by omega) h.d12 h.n1 h.n4 (by omega) (h.blk hk)
  rw [tl_step hk]
  refine ⟨⟨⟨H, hF⟩, hc⟩, hl, fun c hc2 j hj => ?_⟩
  have e : smpF n d B k (frT d n F S B k ++ tlX d n F S B (k + 1)) = H := smpF_eq hF
  rw [e, hH c hc2 j hj]
  rfl
theorem tl_at {d n B c3 c4 S : Nat} {F : Nat → Nat → Int} (h : KP d n B c3 c4 S F) {k0 : Nat} : ∀ j, k0 + j ≤ nBlk S B → atX (tlX d n F S B k0) j = tlX d n F S B (k0 + j)
  | 0, _ => by
    show List.drop 0 _ = _
    rw [List.drop_zero]
    rfl
  | j + 1, hj => by
    have ih := tl_at (k0 := k0) h j (by omega)
    rw [← atX_step]
    unfold lnX
    rw [ih, (tl_frame h (k := k0 + j) (by omega)).2.1, tl_step (k := k0 + j) (by omega)]
    show List.drop (frT d n F S B (k0 + j)).length _ = _
    rw [List.drop_left]
    rfl
theorem tl_ln {d n B c3 c4 S : Nat} {F : Nat → Nat → Int} (h : KP d n B c3 c4 S F) {k0 j : Nat} (hj : k0 + j < nBlk S B) : lnX (tlX d n F S B k0) j = lnF d n F S B (k0 + j) := by
  unfold lnX
  rw [tl_at h j (by omega)]
  exact (tl_frame h hj).2.1
/-- all frames from one on are read -/
theorem tl_run {d n B c3 c4 S : Nat} {F : Nat → Nat → Int} (h : KP d n B c3 c4 S F) {k0 : Nat} (hk : k0 ≤ nBlk S B) : RunIs n d B S k0 (tlX d n F S B k0) (nBlk S B - k0) :=
  ⟨.inl (by omega), fun j hj => by rw [tl_at h j (by omega)]; exact (tl_frame h (k := k0 + j) (by omega)).1, fun hlt => by omega⟩
theorem tl_off {d n B c3 c4 S : Nat} {F : Nat → Nat → Int} (h : KP d n B c3 c4 S F) {k0 : Nat} (hk : k0 ≤ nBlk S B) : offX (tlX d n F S B k0) (nBlk S B - k0) = (tlX d n F S B k0).length := by
  have h1 := offX_le (tl_run h hk).ok (nBlk S B - k0) (Nat.le_refl _)
  have h2 : atX (tlX d n F S B k0) (nBlk S B - k0) = [] := by
    rw [tl_at h _ (by omega), Nat.add_sub_cancel' hk]
    exact tl_end d n F S B
  have h3 := List.drop_eq_nil_iff.1 h2
  omega
theorem tl_chL {d n B c3 c4 S : Nat} {F : Nat → Nat → Int} (h : KP d n B c3 c4 S F) {k0 c : Nat} (hc : c < n) : ∀ m, k0 + m ≤ nBlk S B → chL n d B S k0 (tlX d n F S B k0) c m = (List.range (chN B S k0 m)).map fun j => F c (k0 * B + j)
  | 0, _ => rfl
  | m + 1, hm => by
    have hlt : (k0 + m) * B < S := (nBlk_lt h.B1).1 (by omega)
    have e1 := chN_full (B := B) (S := S) (k0 := k0) m (by omega)
    have e2 : (k0 + m) * B = k0 * B + m * B := Nat.add_mul _ _ _
    unfold chL chN
    rw [tl_chL h hc m (by omega), tl_at h m (by omega), List.range_add, List.map_append, List.map_map]
    congr 1
    refine List.map_congr_left fun i hi => ?_
    rw [List.mem_range] at hi
    show smpF n d B (k0 + m) (tlX d n F S B (k0 + m)) c i = F c (k0 * B + (chN B S k0 m + i))
    rw [(tl_frame h (k := k0 + m) (by omega)).2.2 c hc i hi, e1, e2, Nat.add_assoc]
theorem tl_smp {d n B c3 c4 S : Nat} {F : Nat → Nat → Int} (h : KP d n B c3 c4 S F) {k0 c m j : Nat} (hc : c < n) (hm : k0 + m ≤ nBlk S B) (hj : j < chN B S k0 m) : smpL n d B S k0 (tlX d n F S B k0) m c j = F c (k0 * B + j) := by
  unfold smpL
  rw [tl_chL h hc m hm, List.getD_eq_getElem?_getD, List.getElem?_map, List.getElem?_range hj]
  rfl
/-- the points -/
theorem nat_ext {a b : Nat} (h : ∀ j, j < a ↔ j < b) : a = b := by
  have h1 := h a
  have h2 := h b
  omega
theorem pntN_all (ln : Nat → Nat) {s : Nat} (hs : 1 ≤ s) : ∀ k, pntN ln s k = (List.range (nBlk k s)).map fun i => atN ln (i * s)
  | 0 => by
    have e : nBlk 0 s = 0 := nat_ext fun j => by rw [nBlk_lt hs]; omega
    rw [e]; rfl
  | k + 1 => by
    unfold pntN
    by_cases h : k % s = 0
    · have hq : k / s * s = k := Nat.div_mul_cancel (Nat.dvd_of_mod_eq_zero h)
      generalize k / s = q at hq
      have e1 : nBlk k s = q := nat_ext fun j => by rw [nBlk_lt hs, ← hq]; exact Nat.mul_lt_mul_right hs
      have e2 : nBlk (k + 1) s = q + 1 := nat_ext fun j => by
        rw [nBlk_lt hs, ← hq, Nat.lt_succ_iff, Nat.lt_succ_iff]
        exact Nat.mul_le_mul_right_iff hs
      rw [if_pos ⟨hs, h⟩, pntN_all ln hs k, e1, e2, List.range_succ, List.map_append, List.map_cons, List.map_nil, hq]
    · have e1 : nBlk (k + 1) s = nBlk k s := nat_ext fun j => by
        rw [nBlk_lt hs, nBlk_lt hs]
        have : j * s ≠ k := fun e => h (by rw [← e]; exact Nat.mul_mod_left _ _)
        omega
      rw [if_neg (fun hh => h hh.2), pntN_all ln hs k, e1]
theorem pntN_zero (ln : Nat → Nat) : ∀ k, pntN ln 0 k = []
  | 0 => rfl
  | k + 1 => by
    unfold pntN
    rw [if_neg (fun h => by omega)]
    exact pntN_zero ln k
theorem pntN_size (ln : Nat → Nat) (S B s : Nat) : (pntN ln s (nBlk S B)).length = nPts S B s := by
  unfold nPts
  by_cases h : s = 0
  · rw [if_pos h, h, pntN_zero]; rfl
  · rw [if_neg h, pntN_all ln (by omega), List.length_map, List.length_range]
theorem atN_frs (d n : Nat) (F : Nat → Nat → Int) (S B : Nat) : ∀ k, atN (lnF d n F S B) k = (frsT d n F S B k).length
  | 0 => rfl
  | k + 1 => by
    show atN (lnF d n F S B) k + _ = (frsT d n F S B k ++ frT d n F S B k).length
    rw [atN_frs d n F S B k, List.length_append]
    rfl
/-- the numbers of a head, all of them -/
theorem headTx_all (wh c0 c1 c2 c3 s c4 le mo su : Nat) (ps : List Nat) (R : List UInt8) (h0 : wh < 256) (h1 : c0 < 256) (h2 : c1 < 256) (h3 : c2 < 256) (h4 : c3 < 65536) (h5 : s < 65536) (h6 : c4 < 256) (hle : le < 65536) (hmo : mo < 65536) (hsu : su < 4294967296) :
    dWh (headTx wh c0 c1 c2 c3 s c4 le mo su ps ++ R) = wh ∧ dCh (headTx wh c0 c1 c2 c3 s c4 le mo su ps ++ R) = c0 ∧ dDe (headTx wh c0 c1 c2 c3 s c4 le mo su ps ++ R) = c1 ∧ dBl (headTx wh c0 c1 c2 c3 s c4 le mo su ps ++ R) = c2 ∧ dRa (headTx wh c0 c1 c2 c3 s c4 le mo su ps ++ R) = c3 ∧ dSa (headTx wh c0 c1 c2 c3 s c4 le mo su ps ++ R) = s ∧ dSe (headTx wh c0 c1 c2 c3 s c4 le mo su ps ++ R) = c4 ∧ dLe (headTx wh c0 c1 c2 c3 s c4 le mo su ps ++ R) = le ∧ dMo (headTx wh c0 c1 c2 c3 s c4 le mo su ps ++ R) = mo ∧ dSu (headTx wh c0 c1 c2 c3 s c4 le mo su ps ++ R) = su := by
  have hhl := headTx_length wh c0 c1 c2 c3 s c4 le mo su ps
  have hF : ∀ a b, a ≤ b → b ≤ 19 → pieceT (headTx wh c0 c1 c2 c3 s c4 le mo su ps ++ R) a b = pieceT (fieldsT wh c0 c1 c2 c3 s c4 le mo su) a b := fun a b h1 h2 => by
    have hl := fieldsT_length wh c0 c1 c2 c3 s c4 le mo su
    rw [piece_left _ _ a b h1 (by omega)]
    unfold headTx seal16
    rw [piece_left _ _ a b h1 (by rw [List.length_append, seal8_length]; omega), piece_left _ _ a b h1 (by rw [seal8_length]; omega)]
    unfold seal8
    rw [piece_left _ _ a b h1 (by omega)]
  obtain ⟨f1, f2, f3⟩ := headTx_fld wh c0 c1 c2 c3 s c4 le mo su ps hle hmo hsu
  have hG : ∀ a b, a ≤ b → b ≤ 19 → fld (headTx wh c0 c1 c2 c3 s c4 le mo su ps ++ R) a b = fld (headTx wh c0 c1 c2 c3 s c4 le mo su ps) a b := fun a b h1 h2 => by
    unfold fld
    rw [piece_left _ _ a b h1 (by omega)]
  have hq : ∀ a b x, a ≤ b → b ≤ 19 → valN (pieceT (fieldsT wh c0 c1 c2 c3 s c4 le mo su) a b) = x → fld (headTx wh c0 c1 c2 c3 s c4 le mo su ps ++ R) a b = x := fun a b x h1 h2 h3 => by
    unfold fld
    rw [hF a b h1 h2]; exact h3
  refine ⟨hq 2 3 _ (by omega) (by omega) ?_, hq 3 4 _ (by omega) (by omega) ?_, hq 4 5 _ (by omega) (by omega) ?_, hq 5 6 _ (by omega) (by omega) ?_, hq 6 8 _ (by omega) (by omega) ?_, hq 8 10 _ (by omega) (by omega) ?_, hq 10 11 _ (by omega) (by omega) ?_, (hG 11 13 (by omega) (by omega)).trans f1, (hG 13 15 (by omega) (by omega)).trans f2, (hG 15 19 (by omega) (by omega)).trans f3⟩
  all_goals unfold fieldsT
  · rw [piece_left _ _ 2 3 (by omega) (by simp [inT_length]), piece_left _ _ 2 3 (by omega) (by simp [inT_length]), piece_left _ _ 2 3 (by omega) (by simp [inT_length]), piece_left _ _ 2 3 (by omega) (by simp [inT_length]), piece_left _ _ 2 3 (by omega) (by simp [inT_length]), piece_left _ _ 2 3 (by omega) (by simp [inT_length]), piece_left _ _ 2 3 (by omega) (by simp [inT_length]), piece_left _ _ 2 3 (by omega) (by simp [inT_length]), piece_left _ _ 2 3 (by omega) (by simp [inT_length]), piece_right _ _ 2 3 (by simp)]
    exact (congrArg valN (piece_whole _ _ (by rw [inT_length]; rfl))).trans (valN_inT 1 _ (by omega))
  · rw [piece_left _ _ 3 4 (by omega) (by simp [inT_length]), piece_left _ _ 3 4 (by omega) (by simp [inT_length]), piece_left _ _ 3 4 (by omega) (by simp [inT_length]), piece_left _ _ 3 4 (by omega) (by simp [inT_length]), piece_left _ _ 3 4 (by omega) (by simp [inT_length]), piece_left _ _ 3 4 (by omega) (by simp [inT_length]), piece_left _ _ 3 4 (by omega) (by simp [inT_length]), piece_left _ _ 3 4 (by omega) (by simp [inT_length]), piece_right _ _ 3 4 (by simp [inT_length])]
    simp only [List.length_append, inT_length, List.length_cons, List.length_nil]
    exact (congrArg valN (piece_whole _ _ (by rw [inT_length]))).trans (valN_inT 1 _ (by omega))
  · rw [piece_left _ _ 4 5 (by omega) (by simp [inT_length]), piece_left _ _ 4 5 (by omega) (by simp [inT_length]), piece_left _ _ 4 5 (by omega) (by simp [inT_length]), piece_left _ _ 4 5 (by omega) (by simp [inT_length]), piece_left _ _ 4 5 (by omega) (by simp [inT_length]), piece_left _ _ 4 5 (by omega) (by simp [inT_length]), piece_left _ _ 4 5 (by omega) (by simp [inT_length]), piece_right _ _ 4 5 (by simp [inT_length])]
    simp only [List.length_append, inT_length, List.length_cons, List.length_nil]
    exact (congrArg valN (piece_whole _ _ (by rw [inT_length]))).trans (valN_inT 1 _ (by omega))
  · rw [piece_left _ _ 5 6 (by omega) (by simp [inT_length]), piece_left _ _ 5 6 (by omega) (by simp [inT_length]), piece_left _ _ 5 6 (by omega) (by simp [inT_length]), piece_left _ _ 5 6 (by omega) (by simp [inT_length]), piece_left _ _ 5 6 (by omega) (by simp [inT_length]), piece_left _ _ 5 6 (by omega) (by simp [inT_length]), piece_right _ _ 5 6 (by simp [inT_length])]
    simp only [List.length_append, inT_length, List.length_cons, List.length_nil]
    exact (congrArg valN (piece_whole _ _ (by rw [inT_length]))).trans (valN_inT 1 _ (by omega))
  · rw [piece_left _ _ 6 8 (by omega) (by simp [inT_length]), piece_left _ _ 6 8 (by omega) (by simp [inT_length]), piece_left _ _ 6 8 (by omega) (by simp [inT_length]), piece_left _ _ 6 8 (by omega) (by simp [inT_length]), piece_left _ _ 6 8 (by omega) (by simp [inT_length]), piece_right _ _ 6 8 (by simp [inT_length])]
    simp only [List.length_append, inT_length, List.length_cons, List.length_nil]
    exact (congrArg valN (piece_whole _ _ (by rw [inT_length]))).trans (valN_inT 2 _ (by omega))
  · rw [piece_left _ _ 8 10 (by omega) (by simp [inT_length]), piece_left _ _ 8 10 (by omega) (by simp [inT_length]), piece_left _ _ 8 10 (by omega) (by simp [inT_length]), piece_left _ _ 8 10 (by omega) (by simp [inT_length]), piece_right _ _ 8 10 (by simp [inT_length])]
    simp only [List.length_append, inT_length, List.length_cons, List.length_nil]
    exact (congrArg valN (piece_whole _ _ (by rw [inT_length]))).trans (valN_inT 2 _ (by omega))
  · rw [piece_left _ _ 10 11 (by omega) (by simp [inT_length]), piece_left _ _ 10 11 (by omega) (by simp [inT_length]), piece_left _ _ 10 11 (by omega) (by simp [inT_length]), piece_right _ _ 10 11 (by simp [inT_length])]
    simp only [List.length_append, inT_length, List.length_cons, List.length_nil]
    exact (congrArg valN (piece_whole _ _ (by rw [inT_length]))).trans (valN_inT 1 _ (by omega))
end Go.Proofs.YtlncjgnomhpjnaaGreatDoor

