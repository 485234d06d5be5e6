import Derived.Test.YtlncjgnomhpjnaaGreatDoorPR8
import Derived.Test.YtlncjgnomhpjnaaGreatDoorPR9
import Derived.Test.YtlncjgnomhpjnaaGreatDoorRows
import Derived.Test.YtlncjgnomhpjnaaGreatDoorPR2
import Derived.Deep.RegionHeld3
import Derived.Deep.DeepCutAuto
import Derived.ArgAppend
import Derived.Test.YtlncjgnomhpjnaaGreatDoorPR1
import Derived.Deep.OwnRows
/-
  What a right configuration, a sound and a block are, in the document: reelref.Right, even.
-/
namespace Go.Proofs.YtlncjgnomhpjnaaGreatDoor
open Go.RowKit Go.Deep
set_option linter.unusedVariables false
theorem rightB_iff (c0 c1 c2 c3 c4 c5 c6 c7 : Int) : rightB c0 c1 c2 c3 c4 c5 c6 c7 = true ↔
    (1 ≤ c0 ∧ c0 ≤ 4) ∧ (4 ≤ c1 ∧ c1 ≤ 12) ∧ (1 ≤ c2 ∧ c2 ≤ 32) ∧ (0 ≤ c3 ∧ c3 ≤ 65535) ∧ (0 ≤ c4 ∧ c4 ≤ 255) ∧ (1 ≤ c5 ∧ c5 ≤ 8) ∧ (1 ≤ c6 ∧ c6 ≤ 16) ∧ (1 ≤ c7 ∧ c7 ≤ 8) := by
  simp only [rightB, Bool.and_eq_true, within_iff]
set_option maxHeartbeats 4000000 in
theorem right_any (c0 c1 c2 c3 c4 c5 c6 c7 : Int) (w : World) :
    Calls Tryz.prog 69 #[.agg #[.int .i64 c0, .int .i64 c1, .int .i64 c2, .int .i64 c3, .int .i64 c4, .int .i64 c5, .int .i64 c6, .int .i64 c7]] w fun e w' =>
      Says e (rightB c0 c1 c2 c3 c4 c5 c6 c7 = true) ∧ Below w.heap.size w w' := by
  have fin : ∀ o, Below w.heap.size w (w.alloc o) := fun o => (Below.refl _ _).alloc (Nat.le_refl _) _
  go_enter Tryz.func69, Tryz.ntmps69
  go_wp2
  all_goals go_ret
  all_goals first
    | exact ⟨Says.no (fun h => by rw [rightB_iff] at h; omega), fin _⟩
    | exact ⟨⟨_, rfl, by rw [rightB_iff]; simp; omega⟩, fin _⟩
end Go.Proofs.YtlncjgnomhpjnaaGreatDoor

/-
  The remainder, reckoned byte by byte: for examples.
-/
namespace Go.Proofs.YtlncjgnomhpjnaaGreatDoor
set_option linter.unusedVariables false
def stepB (k D R : Nat) : Nat := if R * 2 / 2 ^ k = 1 then (R * 2) ^^^ D else R * 2
def stepsB (k D : Nat) : Nat → Nat → Nat
  | 0, R => R
  | t + 1, R => stepB k D (stepsB k D t R)
def byteB (k D R c : Nat) : Nat := stepsB k D 8 (R ^^^ c * 2 ^ (k - 8))
def remB (k D : Nat) (l : List UInt8) : Nat := l.foldl (fun R c => byteB k D R c.toNat) 0
theorem step_good {k D : Nat} {m : Nat → Bool} {i e R : Nat} (hk : 8 ≤ k) (hD : D < 2 ^ (k + 1)) (hD1 : D.testBit k = true) (hi : i < e) (he : e ≤ i + 8) (h : Good k D m i e R) : Good k D m (i + 1) e (stepB k D R) := by
  unfold stepB
  split
  · exact good_yes hk hD hD1 hi he h (by assumption)
  · exact good_no hk hi he h (by assumption)
theorem steps_good {k D : Nat} {m : Nat → Bool} {i R : Nat} (hk : 8 ≤ k) (hD : D < 2 ^ (k + 1)) (hD1 : D.testBit k = true) (h : Good k D m i (i + 8) R) : ∀ t, t ≤ 8 → Good k D m (i + t) (i + 8) (stepsB k D t R)
  | 0, _ => h
  | t + 1, ht => step_good (i := i + t) (e := i + 8) hk hD hD1 (by omega) (by omega) (steps_good hk hD hD1 h t (by omega))
theorem remB_good {k D : Nat} (l : List UInt8) (hk : 8 ≤ k) (hD : D < 2 ^ (k + 1)) (hD1 : D.testBit k = true) : ∀ i, i ≤ l.length → Good k D (msgBit l) (8 * i) (8 * i) (remB k D (l.take i))
  | 0, _ => by simpa [remB] using good_zero k D (msgBit l)
  | i + 1, hi => by
    have ih := remB_good l hk hD hD1 i (by omega)
    have hlt : i < l.length := by omega
    have e : remB k D (l.take (i + 1)) = byteB k D (remB k D (l.take i)) l[i].toNat := by
      unfold remB
      rw [List.take_succ_eq_append_getElem hlt, List.foldl_append]
      rfl
    rw [e]
    have hs := good_start (c := l[i].toNat) hk (UInt8.toNat_lt _) (fun x hx => by
      rw [msgBit_byte _ _ _ hx, List.getD_eq_getElem?_getD, List.getElem?_eq_getElem hlt]; rfl) ih
    have := steps_good hk hD hD1 hs 8 (by omega)
    rw [show 8 * (i + 1) = 8 * i + 8 by omega]
    exact this
theorem crc_fast {k D : Nat} (l : List UInt8) (hk : 8 ≤ k) (hD : D < 2 ^ (k + 1)) (hD1 : D.testBit k = true) : crc k D l = remB k D l := by
  have h := remB_good l hk hD hD1 l.length (Nat.le_refl _)
  rw [List.take_length] at h
  exact good_inj (crc_good k D l) h
theorem crc8_fast (l : List UInt8) : crc 8 263 l = remB 8 263 l := crc_fast l (by decide) (by decide) (by decide)
theorem crc16_fast (l : List UInt8) : crc 16 98309 l = remB 16 98309 l := crc_fast l (by decide) (by decide) (by decide)
end Go.Proofs.YtlncjgnomhpjnaaGreatDoor

/-
  The six tables among the laid variables of 'Frames'.
-/
namespace Go.Proofs.YtlncjgnomhpjnaaGreatDoor
open Go Go.Lib
set_option linter.unusedVariables false
theorem tab_lt4 {w : World} {g i : Nat} {v : Value} (h : w.cell? ⟨g, i, none⟩ = some v) : g < w.heap.size := by
  by_cases hg : g < w.heap.size
  · exact hg
  · have hn : w.heap[g]? = none := Array.getElem?_eq_none (by omega)
    simp [World.cell?, hn] at h
def pairRows : List (List Int) := [[0, 1], [0, 2], [2, 1], [3, 2]]
theorem gPairs : Tryz.prog.globalNamed "reel/frame.pairs" = some 2 := by kernel_rfl
theorem gPairsType : (Tryz.prog.globals[2]?).map (·.type) = some 140 := by kernel_rfl
theorem cells42 : Tryz.prog.cellsOf 140 = 4 * 2 := by kernel_rfl
theorem cells2 : Tryz.prog.cellsOf 139 = 2 := by kernel_rfl
theorem pairRows_at (r c : Nat) (hr : r < 4) (hc : c < 2) : ∃ zs, pairRows[r]? = some zs ∧ zs[c]? = some (pairV r c) := by
  have h : ∀ r : Fin 4, ∀ c : Fin 2, (pairRows[r.val]?.bind fun zs => zs[c.val]?) = some (pairV r.val c.val) := by decide
  have := h ⟨r, hr⟩ ⟨c, hc⟩
  exact Option.bind_eq_some_iff.1 this
end Go.Proofs.YtlncjgnomhpjnaaGreatDoor

/-
  A stream as a text: mathematics for stream.Encode and reelref.Encode.
-/
namespace Go.Proofs.YtlncjgnomhpjnaaGreatDoor
set_option linter.unusedVariables false
def blkN (S B k : Nat) : Nat := min B (S - k * B)
def nBlk (S B : Nat) : Nat := (S + B - 1) / B
theorem nBlk_le {S B : Nat} (hB : 1 ≤ B) : nBlk S B ≤ S := by
  unfold nBlk
  have h : (S + B - 1) / B < S + 1 := by
    rw [Nat.div_lt_iff_lt_mul (by omega), Nat.add_mul, Nat.one_mul]
    have : S ≤ S * B := Nat.le_mul_of_pos_right S hB
    omega
  omega
theorem nBlk_lt {S B k : Nat} (hB : 1 ≤ B) : k < nBlk S B ↔ k * B < S := by
  unfold nBlk
  constructor
  · intro h
    have h2 : (k + 1) * B ≤ S + B - 1 := Nat.le_trans (Nat.mul_le_mul_right B h) (Nat.div_mul_le_self _ _)
    rw [Nat.add_mul, Nat.one_mul] at h2
    omega
  · intro h
    rw [← Nat.succ_le_iff, Nat.le_div_iff_mul_le (by omega), Nat.succ_mul]
    omega
theorem blkN_bd {S B k : Nat} (hB : 1 ≤ B) (h : k < nBlk S B) : 1 ≤ blkN S B k ∧ blkN S B k ≤ B ∧ k * B + blkN S B k ≤ S := by
  have := (nBlk_lt hB).1 h
  unfold blkN
  omega
/-- the bytes of points -/
def ptsT (l : List Nat) : List UInt8 := l.foldl (fun t p => t ++ inT p 2) []
theorem ptsT_snoc (l : List Nat) (p : Nat) : ptsT (l ++ [p]) = ptsT l ++ inT p 2 := by simp [ptsT, List.foldl_append]
theorem ptsT_take (l : List Nat) (k : Nat) (h : k < l.length) : ptsT (l.take (k + 1)) = ptsT (l.take k) ++ inT l[k] 2 := by
  rw [List.take_succ_eq_append_getElem h, ptsT_snoc]
theorem ptsT_length : ∀ (l : List Nat) (k : Nat), k ≤ l.length → (ptsT (l.take k)).length = 2 * k
  | l, 0, _ => by simp [ptsT]
  | l, k + 1, h => by
    rw [ptsT_take l k (by omega), List.length_append, inT_length, ptsT_length l k (by omega)]
    omega
/-- a head's fields, and the head -/
def fieldsT (whole c0 c1 c2 c3 s c4 least most sum : Nat) : List UInt8 :=
  [82, 76] ++ inT whole 1 ++ inT c0 1 ++ inT c1 1 ++ inT c2 1 ++ inT c3 2 ++ inT s 2 ++ inT c4 1 ++ inT least 2 ++ inT most 2 ++ inT sum 4
theorem fieldsT_length (whole c0 c1 c2 c3 s c4 least most sum : Nat) : (fieldsT whole c0 c1 c2 c3 s c4 least most sum).length = 19 := by simp [fieldsT, inT_length]
def headTx (whole c0 c1 c2 c3 s c4 least most sum : Nat) (pts : List Nat) : List UInt8 := seal16 (seal8 (fieldsT whole c0 c1 c2 c3 s c4 least most sum) ++ ptsT pts)
theorem headTx_length (whole c0 c1 c2 c3 s c4 least most sum : Nat) (pts : List Nat) : (headTx whole c0 c1 c2 c3 s c4 least most sum pts).length = 22 + 2 * pts.length := by
  unfold headTx
  have := ptsT_length pts pts.length (Nat.le_refl _)
  rw [List.take_length] at this
  rw [seal16_length, List.length_append, seal8_length, fieldsT_length, this]
  omega
end Go.Proofs.YtlncjgnomhpjnaaGreatDoor

/-
  Rows that grow: append.
-/
namespace Go.Proofs.YtlncjgnomhpjnaaGreatDoor
open Go.RowKit Go.Deep
set_option linter.unusedVariables false
theorem grown_tr {a b c : World} {r : Option Nat} (h : a.grownBy b r) (k : b.grownBy c r) : a.grownBy c r :=
  ⟨k.os.trans h.os, k.tape.trans h.tape, k.output.trans h.output, Nat.le_trans h.size k.size, fun j hj hne => (k.block j (Nat.lt_of_lt_of_le hj h.size) hne).trans (h.block j hj hne)⟩
theorem wpList_append_rn {P : Program} {w w' : World} {ops : Array Oper} {rest : List Oper} {o : Oper} {a : Act} {Q : Exit → Act → World → Prop}
    (hg : o.guard = none) (s x : Operand) (t : TypeId) (hop : o.op = Op.call { callee := Callee.builtin Builtin.append, args := #[s, x], argTypes := #[t, t] })
    (v b v' : Value) (hs : a.eval s = v) (hx : a.eval x = b) (hrun : (Builtin.append_ #[t, t] o.type #[v, b]).run P w = .ok v' w') (h : wpList P ops Q rest (a.put o.dst v') w') : wpList P ops Q (o :: rest) a w := by
  refine wpList_plain hg fun K hK' => ?_
  unfold Oper.wp
  simp [execOp, hop, resolve, invoke, builtin, hs, hx, hrun, Result.andThen]
  exact hK' _ _ h
/-- new cells behind a row of one's own -/
theorem app_row (t e : TypeId) (z : Value) (bytes : Nat) (ht : Tryz.prog.underlying t = some (.slice e)) (hinfo : (Tryz.prog.info? e).map (fun i => (i.zero, i.size, i.bytes)) = some (some z, 1, bytes)) (hzs : z.cells.size = 1)
    (w : World) (base : Nat) (kv : Value) (j : Nat) (ks : List Value) (arr : Array Value) (hown : w.ownsRow base e 1 kv j ks) (hk1 : 1 ≤ arr.size) (h1 : ∀ u ∈ arr.toList, u.oneCell' = true) (hm : j + arr.size ≤ maxLen) (hby : (j + arr.size) * bytes ≤ 140737488355328) (hbase : base ≤ w.heap.size) (ty : TypeId) :
    ∃ g cap w', (Builtin.append_ #[t, t] ty #[kv, .slice (some ⟨w.heap.size, 0, none⟩) arr.size arr.size]).run Tryz.prog (w.alloc (.cells arr e)) = .ok (.slice (some ⟨g, 0, none⟩) (j + arr.size) cap) w' ∧
      w'.ownsRow base e 1 (.slice (some ⟨g, 0, none⟩) (j + arr.size) cap) (j + arr.size) (ks ++ arr.toList) ∧ w.grownBy w' kv.ownBlock := by
  obtain ⟨i0, hi, hz0, hz1, hz2⟩ := info_parts hinfo
  have hnews : ∀ j u, arr.toList[j]? = some u → (w.alloc (.cells arr e)).cell? ((⟨w.heap.size, 0, none⟩ : Addr).add j) = some u := by
    intro j u hj
    have : (w.alloc (.cells arr e)).cell? ⟨w.heap.size, j, none⟩ = arr[j]? := World.cell?_alloc_new _ _ _ _
    rw [show ((⟨w.heap.size, 0, none⟩ : Addr).add j) = ⟨w.heap.size, j, none⟩ by cases j <;> simp [Addr.add], this]
    simpa using hj
  obtain ⟨v', w', hr, ho, hgr, hnil⟩ := run_append_own (P := Tryz.prog) (w.alloc (.cells arr e)) base t ty e i0 z 1 bytes ht hi hz0 hz1 hz2 hzs (by omega) kv j ks (hown.alloc _)
    ⟨w.heap.size, 0, none⟩ arr.size arr.size arr.toList (by simp) hnews h1 hm hby (by simp; omega)
  rcases ho.2 with ⟨-, h0⟩ | ⟨g, cap, cur, rfl, -⟩
  · omega
  · exact ⟨g, cap, w', hr, ho, grown_tr (World.grownBy_alloc w _ _) hgr⟩
end Go.Proofs.YtlncjgnomhpjnaaGreatDoor

/-
  The sum of a sound: sound.SumOn, sound.Sum, reelref.interleaved.
-/
namespace Go.Proofs.YtlncjgnomhpjnaaGreatDoor
open Go.RowKit Go.Deep
set_option linter.unusedVariables false
theorem run_make_none (t e : TypeId) (z : Value) (bytes : Nat) (ht : Tryz.prog.underlying t = some (.slice e)) (hinfo : (Tryz.prog.info? e).map (fun i => (i.zero, i.size, i.bytes)) = some (some z, 1, bytes)) (hz1 : z.cells = #[z]) (c : Nat) (hb : bytes * c ≤ 281474976710656) (h63 : c ≤ 9223372036854775807) (w : World) :
    (Instr.makeSlice t (.int .i64 0) (.int .i64 (c : Int))).run Tryz.prog w = .ok (.slice (some ⟨w.heap.size, 0, none⟩) 0 c) (w.alloc (.cells (madeCells #[z] c) e)) := by
  obtain ⟨i, hi, hz0, hz2, hz3⟩ := info_parts hinfo
  have h : (i.bytes : Int) * (c : Int) ≤ 281474976710656 := by
    rw [hz3]
    have : ((bytes * c : Nat) : Int) ≤ 281474976710656 := by omega
    rwa [Int.natCast_mul] at this
  have := run_make (P := Tryz.prog) w t e i z ht hi hz0 .i64 .i64 0 c (Int.le_refl _) (by omega) h (by omega)
  rw [hz1, hz2] at this
  simpa using this
end Go.Proofs.YtlncjgnomhpjnaaGreatDoor

/-
  The stream of an empty sound: reellaw.empty.
-/
namespace Go.Proofs.YtlncjgnomhpjnaaGreatDoor
open Go.RowKit Go.Deep
set_option linter.unusedVariables false
def none22 : List Int := [82, 76, 1, 1, 4, 1, 0, 0, 0, 0, 0, 0, 0, 0, 0, 0, 0, 0, 1, 158, 139, 66]
def exSt : ByteArray := ⟨#[82, 76, 1, 1, 4, 1, 0, 0, 0, 0, 0, 0, 0, 0, 0, 0, 0, 0, 1, 158, 139, 66]⟩
/-- the twelve bytes while they are laid -/
def noneTo (k j : Nat) : Int := if j < k then none22.getD j 0 else 0
theorem none_bytes : ∀ j : Fin 22, (((fun i => UInt8.ofNat (none22.getD i 0).toNat) j.val : UInt8).toNat : Int) = none22.getD j.val 0 := by decide
theorem none_str : strOf (fun i => UInt8.ofNat (none22.getD i 0).toNat) 22 = exSt := by kernel_rfl
set_option maxHeartbeats 1000000 in
theorem empty_any (w : World) (hO : ∀ i, i < 22 → w.cell? ⟨1, i, none⟩ = some (.int .u8 (none22.getD i 0))) (hlt : 1 < w.heap.size) :
    Calls Tryz.prog 21 #[] w fun e w' => e = .returned (.string exSt) ∧ Below w.heap.size w w' := by
  have hmk := run_make_row' (P := Tryz.prog) 61 5 (.int .u8 0) 1 Tryz.underlying61 infoByte rfl .i64 .i64 22 (by omega) (by omega)
  have e22 : ((22 : Nat) : Int) = 22 := rfl
  rw [e22] at hmk
  have HO := Hid.mk' (fun (u : World) (hu : Below w.heap.size w u) i (hi : i < 22) => (hu.cell (p := ⟨1, i, none⟩) hlt).trans (hO i hi))
  have HCV := Hid.mk' (fun (u : World) h => run_rowString (P := Tryz.prog) u 61 9 5 w.heap.size 0 22 22 (fun i => UInt8.ofNat (none22.getD i 0).toNat) Tryz.underlying61 Tryz.underlying5 Tryz.underlying9 h)
  clear hO e22
  go_enter Tryz.func21, Tryz.ntmps21
  go_wp2
  clear hmk
  go_loopw [2] (fun i wr => ∃ k : Nat, k ≤ 22 ∧ i = .int .i64 k ∧ Hid (wr.rowIs w.heap.size 5 22 (fun j => .int .u8 (noneTo k j)) ∧ Below w.heap.size w wr)) (fun i _ => 22 - (intOf i).toNat)
  case atStart => exact ⟨0, Nat.zero_le _, rfl, (World.rowIs_made w (.int .u8 0) 22 5).congr fun i _ => by simp [noneTo], (Below.refl _ _).alloc (Nat.le_refl _) _⟩
  case round =>
    obtain ⟨k, hk, rfl, HR⟩ := hrel
    by_cases hl : k < 22
    · have hc1 := HR.out.1.cell hl
      have hf1 := HR.out.1.frozen k
      have hc2 := HO.out wr HR.out.2 k hl
      have HSET : Hid ((wr.setCell ⟨w.heap.size, k, none⟩ (.int .u8 (none22.getD k 0))).rowIs w.heap.size 5 22 (fun j => .int .u8 (noneTo (k + 1) j))) := (HR.out.1.set k _).congr fun j _ => by
        unfold noneTo
        by_cases e : j = k
        · rw [if_pos e, if_pos (by omega), e]
        · rw [if_neg e]
          by_cases e2 : j < k
          · rw [if_pos e2, if_pos (by omega)]
          · rw [if_neg e2, if_neg (by omega)]
      generalize none22.getD k 0 = V at *
      generalize noneTo k k = V0 at *
      go_wp2
      go_roundw
      case rel => exact ⟨k + 1, by omega, by go_num, HSET.out, HR.out.2.setCell (Nat.le_refl _) _⟩
      case measure => simp [intOf]; omega
    · have e : k = 22 := by omega
      subst e
      have hcv := HCV.out wr (fun i hi => by
        have := HR.out.1.cell (i := i) hi
        rw [Nat.zero_add, this]
        have h2 := none_bytes ⟨i, hi⟩
        simp only at h2
        rw [h2]
        unfold noneTo
        rw [if_pos hi])
      rw [none_str] at hcv
      clear HCV
      go_wp2
      go_ret
      exact ⟨rfl, HR.out.2⟩
end Go.Proofs.YtlncjgnomhpjnaaGreatDoor

/-
  Lists that came out, and what is appended to them.
-/
namespace Go.Proofs.YtlncjgnomhpjnaaGreatDoor
open Go.RowKit Go.Deep
set_option linter.unusedVariables false
theorem gr_trans {a b c : World} {r : Option Nat} (h : a.grownBy b r) (k : b.grownBy c r) : a.grownBy c r :=
  ⟨k.os.trans h.os, k.tape.trans h.tape, k.output.trans h.output, Nat.le_trans h.size k.size, fun j hj hne => (k.block j (Nat.lt_of_lt_of_le hj h.size) hne).trans (h.block j hj hne)⟩
theorem gr_refl (w : World) (r : Option Nat) : w.grownBy w r := ⟨rfl, rfl, rfl, Nat.le_refl _, fun _ _ _ => rfl⟩
theorem gr_set (w : World) (a : Addr) (v : Value) : w.grownBy (w.setCell a v) (some a.block) :=
  ⟨rfl, rfl, rfl, by simp, fun j hj hne => blk_setCell_other _ _ _ _ (fun e => hne (by rw [e]))⟩
theorem gr_none {w w' : World} {r : Option Nat} (h : w.grownBy w' none) : w.grownBy w' r := ⟨h.os, h.tape, h.output, h.size, fun j hj _ => h.block j hj (by simp)⟩
theorem gr_setCells (g : Nat) : ∀ (vs : List Value) (q : Nat) (w : World), w.grownBy (w.setCells g q vs) (some g)
  | [], q, w => gr_refl _ _
  | v :: r, q, w => gr_trans (gr_set w ⟨g, q, none⟩ v) (gr_setCells g r (q + 1) _)
theorem row_setCells (g : Nat) (e : TypeId) (N : Nat) : ∀ (vs : List Value) (q : Nat) (w : World) (f : Nat → Value), w.rowIs g e N f →
    ∃ f', (w.setCells g q vs).rowIs g e N f' ∧ (∀ i, f' i = f i ∨ f' i ∈ vs) ∧ (∀ j (hj : j < vs.length), f' (q + j) = vs[j]) ∧ ∀ i, i < q ∨ q + vs.length ≤ i → f' i = f i
  | [], q, w, f, h => ⟨f, h, fun _ => .inl rfl, fun j hj => absurd hj (Nat.not_lt_zero j), fun _ _ => rfl⟩
  | v :: r, q, w, f, h => by
    obtain ⟨f', h1, h2, h3, h4⟩ := row_setCells g e N r (q + 1) _ _ (h.set q v)
    refine ⟨f', h1, fun i => ?_, fun j hj => ?_, fun i hi => ?_⟩
    · rcases h2 i with e | e
      · by_cases hq : i = q
        · rw [if_pos hq] at e; exact .inr (by rw [e]; simp)
        · rw [if_neg hq] at e; exact .inl e
      · exact .inr (by simp [e])
    · cases j with
      | zero =>
        have := h4 q (.inl (by omega))
        rw [if_pos rfl] at this
        simpa using this
      | succ j =>
        have := h3 j (by simpa using hj)
        rw [show q + (j + 1) = q + 1 + j by omega, this]
        simp
    · have h5 : (v :: r).length = r.length + 1 := by simp
      have := h4 i (by omega)
      rw [if_neg (by omega)] at this
      exact this
/-- a list that may be written into: nil, or a piece of a row -/
def LstE (e : TypeId) (w : World) (v : Value) (n : Nat) (og : Option Nat) (x : Nat → Value) : Prop :=
  (v = .slice none 0 0 ∧ n = 0 ∧ og = none) ∨ ∃ g o c N f, og = some g ∧ v = .slice (some ⟨g, o, none⟩) n c ∧ w.rowIs g e N f ∧ o + c ≤ N ∧ n ≤ c ∧ ∀ i, i < n → f (o + i) = x i
/-- one of its blocks may have got some of these values -/
structure StepE (e : TypeId) (og : Option Nat) (news : List Value) (w w' : World) : Prop where
  gr : w.grownBy w' og
  row : ∀ g, og = some g → ∀ N f, w.rowIs g e N f → ∃ f', w'.rowIs g e N f' ∧ ∀ i, f' i = f i ∨ f' i ∈ news
theorem StepE.mono {e : TypeId} {og : Option Nat} {news news' : List Value} {a b : World} (h : StepE e og news a b) (hn : ∀ v ∈ news, v ∈ news') : StepE e og news' a b :=
  ⟨h.gr, fun g hg N f hr => by
    obtain ⟨f1, h1, h2⟩ := h.row g hg N f hr
    exact ⟨f1, h1, fun i => (h2 i).imp id (hn _)⟩⟩
theorem StepE.of_gr {e : TypeId} {og : Option Nat} {news : List Value} {a b : World} (h : a.grownBy b none) : StepE e og news a b :=
  ⟨gr_none h, fun g hg N f hr => ⟨f, hr.of_block (h.block g hr.lt (by simp)), fun _ => .inl rfl⟩⟩
theorem LstE.row {e : TypeId} {w : World} {v : Value} {n : Nat} {og : Option Nat} {x : Nat → Value} (h : LstE e w v n og x) {g : Nat} (hg : og = some g) : ∃ N f, w.rowIs g e N f := by
  rcases h with ⟨-, -, e⟩ | ⟨g', o, c, N, f, e, -, hr, -⟩
  · rw [e] at hg; cases hg
  · rw [hg] at e; injection e with e; subst e; exact ⟨N, f, hr⟩
theorem LstE.step {e : TypeId} {w w' : World} {v : Value} {n : Nat} {og : Option Nat} {x : Nat → Value} {news : List Value} (h : LstE e w v n og x) (hs : StepE e og news w w') : ∃ x', LstE e w' v n og x' ∧ ∀ i, i < n → x' i = x i ∨ x' i ∈ news := by
  rcases h with h | ⟨g, o, c, N, f, e1, e2, hr, h1, h2, h3⟩
  · exact ⟨x, .inl h, fun i hi => absurd hi (by omega)⟩
  · obtain ⟨f', h4, h5⟩ := hs.row g e1 N f hr
    refine ⟨fun i => f' (o + i), .inr ⟨g, o, c, N, f', e1, e2, h4, h1, h2, fun i _ => rfl⟩, fun i hi => ?_⟩
    rw [← h3 i hi]
    exact h5 _
/-- something is appended -/
theorem app_gen (t e : TypeId) (z : Value) (bytes : Nat) (ht : Tryz.prog.underlying t = some (.slice e)) (hinfo : (Tryz.prog.info? e).map (fun i => (i.zero, i.size, i.bytes)) = some (some z, 1, bytes)) (hzs : z.cells.size = 1)
    (w : World) (v : Value) (n : Nat) (og : Option Nat) (x : Nat → Value) (arr : Array Value) (h : LstE e w v n og x) (hk1 : 1 ≤ arr.size) (h1 : ∀ u ∈ arr.toList, u.oneCell' = true) (hm : n + arr.size ≤ 1000000000) (hby : bytes ≤ 1000) (ty : TypeId) :
    ∃ b o c w' x', (Builtin.append_ #[t, t] ty #[v, .slice (some ⟨w.heap.size, 0, none⟩) arr.size arr.size]).run Tryz.prog (w.alloc (.cells arr e)) = .ok (.slice (some ⟨b, o, none⟩) (n + arr.size) c) w' ∧
      (og = some b ∨ w.heap.size ≤ b) ∧ LstE e w' (.slice (some ⟨b, o, none⟩) (n + arr.size) c) (n + arr.size) (some b) x' ∧ (∀ i, i < n → x' i = x i) ∧ (∀ i (hi : i < arr.size), x' (n + i) = arr[i]) ∧ StepE e og arr.toList w w' := by
  obtain ⟨i0, hi, hz0, hz1, hz2⟩ := info_parts hinfo
  have hmx : n + arr.size ≤ maxLen := by simp only [maxLen]; omega
  have hbt : (n + arr.size) * bytes ≤ 140737488355328 := by
    have : (n + arr.size) * bytes ≤ 1000000000 * 1000 := Nat.mul_le_mul hm hby
    omega
  have hnews : ∀ j u, arr.toList[j]? = some u → (w.alloc (.cells arr e)).cell? ((⟨w.heap.size, 0, none⟩ : Addr).add j) = some u := by
    intro j u hj
    have : (w.alloc (.cells arr e)).cell? ⟨w.heap.size, j, none⟩ = arr[j]? := World.cell?_alloc_new _ _ _ _
    rw [show ((⟨w.heap.size, 0, none⟩ : Addr).add j) = ⟨w.heap.size, j, none⟩ by cases j <;> simp [Addr.add], this]
    simpa using hj
  have hal : (w.alloc (.cells arr e)).heap.size = w.heap.size + 1 := by simp
  have fin : ∀ (xs : List Value) (v' : Value) (w' : World), xs.length = n → (∀ i, i < n → xs[i]? = some (x i)) → w'.ownsRow w.heap.size e 1 v' (n + arr.size) (xs ++ arr.toList) → w.grownBy w' none →
      ∃ b o c x', v' = .slice (some ⟨b, o, none⟩) (n + arr.size) c ∧ (og = some b ∨ w.heap.size ≤ b) ∧ LstE e w' (.slice (some ⟨b, o, none⟩) (n + arr.size) c) (n + arr.size) (some b) x' ∧ (∀ i, i < n → x' i = x i) ∧ (∀ i (hi : i < arr.size), x' (n + i) = arr[i]) ∧ StepE e og arr.toList w w' := by
    intro xs v' w' hl hx ho hg
    rcases ho.2 with ⟨-, h0⟩ | ⟨b, cap, cur, rfl, hb, hcur, hcap, -, hcs, htk⟩
    · omega
    · have cells : ∀ j u, (xs ++ arr.toList)[j]? = some u → cur.getD j undef = u := fun j u hj => by
        rw [← htk, List.getElem?_take] at hj
        split at hj
        · rw [Array.getElem?_toList] at hj
          rw [Array.getD_eq_getD_getElem?, hj]; rfl
        · cases hj
      refine ⟨b, 0, cap, fun j => cur.getD j undef, rfl, .inr hb, .inr ⟨b, 0, cap, cap, fun j => cur.getD j undef, rfl, rfl, ⟨cur, hcur, by omega, fun j hj => ?_⟩, by omega, hcap, fun i _ => by rw [Nat.zero_add]⟩, fun i hi => cells i _ ?_, fun i hi => cells (n + i) _ ?_, StepE.of_gr hg⟩
      · have hjc : j < cur.size := by omega
        show cur[j]? = some (cur.getD j undef)
        rw [Array.getD_eq_getD_getElem?, Array.getElem?_eq_getElem hjc]; rfl
      · rw [List.getElem?_append_left (by omega)]; exact hx i hi
      · rw [List.getElem?_append_right (by omega), hl, Nat.add_sub_cancel_left]
        simp [hi]
  rcases h with ⟨rfl, rfl, rfl⟩ | ⟨g, o, c, N, f, rfl, rfl, hr, hoc, hnc, hfx⟩
  · obtain ⟨v', w', hrun, ho, hgr, -⟩ := run_append_own (P := Tryz.prog) (w.alloc (.cells arr e)) w.heap.size t ty e i0 z 1 bytes ht hi hz0 hz1 hz2 hzs (by omega) (.slice none 0 0) 0 [] (World.ownsRow_nil _ _ _ _)
      ⟨w.heap.size, 0, none⟩ arr.size arr.size arr.toList (by simp) hnews h1 hmx hbt (by omega)
    obtain ⟨b, o, c, x', rfl, h2⟩ := fin [] v' w' rfl (fun i hi => absurd hi (Nat.not_lt_zero i)) ho (gr_trans (World.grownBy_alloc w _ none) hgr)
    exact ⟨b, o, c, w', x', hrun, h2⟩
  · have hra := hr.alloc (.cells arr e)
    have hlx : ((List.range n).map x).length = n := by simp
    by_cases hroom : n + arr.size ≤ c
    · have hcN : ∀ j, j < arr.toList.length → ((w.alloc (.cells arr e)).cell? ⟨g, o + n * i0.size + j, none⟩).isSome = true := fun j hj => by
        rw [hz1, Nat.mul_one, hra.cell (by simp at hj; omega)]; rfl
      have hrun := run_append_room_cells (P := Tryz.prog) (w.alloc (.cells arr e)) t ty e i0 ht hi g o n c ⟨w.heap.size, 0, none⟩ arr.size arr.size arr.toList (by simp [hz1]) hnews h1 hroom hcN (fun j _ => hra.frozen _)
      rw [hz1, Nat.mul_one] at hrun
      obtain ⟨f', r1, r2, r3, r4⟩ := row_setCells g e N arr.toList (o + n) _ _ hra
      refine ⟨g, o, c, _, fun i => f' (o + i), hrun, .inl rfl, .inr ⟨g, o, c, N, f', rfl, rfl, r1, hoc, hroom, fun i _ => rfl⟩, fun i hi => ?_, fun i hi => ?_, ⟨gr_trans (World.grownBy_alloc w _ _) (gr_setCells g _ _ _), fun g2 e2 N2 f2 hr2 => ?_⟩⟩
      · show f' (o + i) = x i
        rw [r4 _ (.inl (by omega)), hfx i hi]
      · show f' (o + (n + i)) = arr[i]
        rw [show o + (n + i) = o + n + i by omega, r3 i (by simpa using hi)]
        simp
      · injection e2 with e2
        subst e2
        obtain ⟨f3, q1, q2, -⟩ := row_setCells g e N2 arr.toList (o + n) _ _ (hr2.alloc (.cells arr e))
        exact ⟨f3, q1, q2⟩
    · obtain ⟨v', w', hrun, ho, hgr⟩ := run_append_arg_grows (P := Tryz.prog) (w.alloc (.cells arr e)) t ty e i0 z 1 bytes ht hi hz0 hz1 hz2 hzs (by omega) ⟨g, o, none⟩ n c ((List.range n).map x) (by simp)
        (fun j u hj => by
          rw [List.getElem?_map] at hj
          rcases Nat.lt_or_ge j n with hjn | hjn
          · rw [List.getElem?_range hjn] at hj
            simp only [Option.map_some, Option.some.injEq] at hj
            rw [Addr.add_lit, hra.cell (by omega), hfx j hjn, ← hj]
          · rw [List.getElem?_eq_none (by simpa using hjn)] at hj
            simp at hj)
        ⟨w.heap.size, 0, none⟩ arr.size arr.size arr.toList (by simp) hnews (by omega) hmx hbt
      have ho' : w'.ownsRow w.heap.size e 1 v' (n + arr.size) ((List.range n).map x ++ arr.toList) := by
        refine ⟨ho.1, ?_⟩
        rcases ho.2 with h0 | ⟨g', cap, cur, e1, e2, e3⟩
        · exact .inl h0
        · exact .inr ⟨g', cap, cur, e1, by omega, e3⟩
      obtain ⟨b, o', c', x', rfl, h2⟩ := fin _ v' w' hlx (fun i hi => by rw [List.getElem?_map, List.getElem?_range hi]; rfl) ho' (gr_trans (World.grownBy_alloc w _ none) hgr)
      exact ⟨b, o', c', w', x', hrun, h2⟩
theorem wpList_append_rv {P : Program} {w w' : World} {ops : Array Oper} {rest : List Oper} {o : Oper} {a : Act} {Q : Exit → Act → World → Prop}
    (hg : o.guard = none) (s x : Operand) (t : TypeId) (hop : o.op = Op.call { callee := Callee.builtin Builtin.append, args := #[s, x], argTypes := #[t, t] })
    (v b v' : Value) (hs : a.eval s = v) (hx : a.eval x = b) (hrun : (Builtin.append_ #[t, t] o.type #[v, b]).run P w = .ok v' w') (h : wpList P ops Q rest (a.put o.dst v') w') : wpList P ops Q (o :: rest) a w := by
  refine wpList_plain hg fun K hK' => ?_
  unfold Oper.wp
  simp [execOp, hop, resolve, invoke, builtin, hs, hx, hrun, Result.andThen]
  exact hK' _ _ h
/-- a row of wide things grows -/
theorem app_wide (t e : TypeId) (z : Value) (size bytes : Nat) (ht : Tryz.prog.underlying t = some (.slice e)) (hinfo : (Tryz.prog.info? e).map (fun i => (i.zero, i.size, i.bytes)) = some (some z, size, bytes)) (hzs : z.cells.size = size) (hs1 : 1 ≤ size)
    (w : World) (base : Nat) (kv : Value) (j : Nat) (ks : List Value) (arr : Array Value) (hown : w.ownsRow base e size kv j ks) (hsz : arr.size = size) (h1 : ∀ u ∈ arr.toList, u.oneCell' = true) (hj : j + 1 ≤ maxLen) (hby : (j + 1) * bytes ≤ 140737488355328) (hbase : base ≤ w.heap.size) (ty : TypeId) :
    ∃ g c w', (Builtin.append_ #[t, t] ty #[kv, .slice (some ⟨w.heap.size, 0, none⟩) 1 1]).run Tryz.prog (w.alloc (.cells arr e)) = .ok (.slice (some ⟨g, 0, none⟩) (j + 1) c) w' ∧
      w'.ownsRow base e size (.slice (some ⟨g, 0, none⟩) (j + 1) c) (j + 1) (ks ++ arr.toList) ∧ w.grownBy w' kv.ownBlock ∧ (kv.ownBlock = some g ∨ w.heap.size ≤ g) := by
  obtain ⟨i0, hi, hz0, hz1, hz2⟩ := info_parts hinfo
  have hnews : ∀ j u, arr.toList[j]? = some u → (w.alloc (.cells arr e)).cell? ((⟨w.heap.size, 0, none⟩ : Addr).add j) = some u := by
    intro j u hj
    have : (w.alloc (.cells arr e)).cell? ⟨w.heap.size, j, none⟩ = arr[j]? := World.cell?_alloc_new _ _ _ _
    rw [show ((⟨w.heap.size, 0, none⟩ : Addr).add j) = ⟨w.heap.size, j, none⟩ by cases j <;> simp [Addr.add], this]
    simpa using hj
  have hal : (w.alloc (.cells arr e)).heap.size = w.heap.size + 1 := by simp
  obtain ⟨v', w', hr, ho, hgr, -⟩ := run_append_own (P := Tryz.prog) (w.alloc (.cells arr e)) base t ty e i0 z size bytes ht hi hz0 hz1 hz2 hzs (by omega) kv j ks (hown.alloc _)
    ⟨w.heap.size, 0, none⟩ 1 1 arr.toList (by simp [hsz]) hnews h1 hj hby (by omega)
  rcases ho.2 with ⟨-, h0⟩ | ⟨g, c, cur, rfl, -, hcur, -⟩
  · omega
  · refine ⟨g, c, w', hr, ho, gr_trans (World.grownBy_alloc w _ _) hgr, ?_⟩
    rcases hown.2 with ⟨rfl, rfl⟩ | ⟨g0, cap, cur0, rfl, -, hcur0, hcap, -, hcs, htk⟩
    · obtain ⟨v2, w2, hr2, ho2, -⟩ := run_append_own (P := Tryz.prog) (w.alloc (.cells arr e)) w.heap.size t ty e i0 z size bytes ht hi hz0 hz1 hz2 hzs (by omega) (.slice none 0 0) 0 [] (World.ownsRow_nil _ _ _ _)
        ⟨w.heap.size, 0, none⟩ 1 1 arr.toList (by simp [hsz]) hnews h1 hj hby (by omega)
      rw [hr] at hr2
      injection hr2 with e1 e2
      subst e1
      exact .inr (ho2.lt g rfl).1
    · have hc0 : ∀ q, q < cap * size → (w.alloc (.cells arr e)).cell? ⟨g0, q, none⟩ = cur0[q]? := fun q hq => by
        have : (w.alloc (.cells arr e)).heap[g0]? = some (.cells cur0 e (0, 0)) := (blk_alloc_lt _ _ _ (Array.getElem?_eq_some_iff.1 hcur0).1).trans hcur0
        simp [World.cell?, this]
      by_cases hroom : j + 1 ≤ cap
      · have hb : j * size + size ≤ cap * size := by
          have := Nat.mul_le_mul_right size hroom
          rw [Nat.add_mul, Nat.one_mul] at this
          exact this
        have hr2 := run_append_room_cells (P := Tryz.prog) (w.alloc (.cells arr e)) t ty e i0 ht hi g0 0 j cap ⟨w.heap.size, 0, none⟩ 1 1 arr.toList (by simp [hsz, hz1]) hnews h1 hroom
          (fun q hq => by
            have hq2 : q < size := by simpa [hsz] using hq
            rw [hz1, Nat.zero_add, hc0 _ (by omega), Array.getElem?_eq_getElem (by omega)]; rfl)
          (fun q _ => by
            have : (w.alloc (.cells arr e)).heap[g0]? = some (.cells cur0 e (0, 0)) := (blk_alloc_lt _ _ _ (Array.getElem?_eq_some_iff.1 hcur0).1).trans hcur0
            simp [World.frozen?, this])
        rw [hr] at hr2
        injection hr2 with e1 e2
        injection e1 with e1
        injection e1 with e1
        injection e1 with e1
        subst e1
        exact .inl rfl
      · obtain ⟨v2, w2, hr2, ho2, -⟩ := run_append_arg_grows (P := Tryz.prog) (w.alloc (.cells arr e)) t ty e i0 z size bytes ht hi hz0 hz1 hz2 hzs (by omega) ⟨g0, 0, none⟩ j cap ks hown.1
          (fun q u hq => by
            have := (hown.alloc (.cells arr e)).cells (g := g0) rfl q u hq
            exact this)
          ⟨w.heap.size, 0, none⟩ 1 1 arr.toList (by simp [hsz]) hnews (by omega) hj hby
        rw [hr] at hr2
        injection hr2 with e1 e2
        subst e1
        have := (ho2.lt g rfl).1
        exact .inr (by omega)
end Go.Proofs.YtlncjgnomhpjnaaGreatDoor

