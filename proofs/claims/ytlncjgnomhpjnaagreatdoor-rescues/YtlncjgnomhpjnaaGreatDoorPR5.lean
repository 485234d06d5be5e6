import Derived.Test.YtlncjgnomhpjnaaGreatDoorPR4
import Derived.Test.YtlncjgnomhpjnaaGreatDoorPR1
import Derived.Laws.Rows
import Derived.Laws.Tables
import Derived.Laws.AppendOwn
import Derived.Test.YtlncjgnomhpjnaaGreatDoorPR3
import Derived.Test.YtlncjgnomhpjnaaGreatDoorPR2
import Derived.WalkKit
/-
  subframe.Read, IsBits, reel.Read.
-/
namespace Go.Proofs.YtlncjgnomhpjnaaGreatDoor
open Go.RowKit Go.Deep
set_option linter.unusedVariables false
/-- the samples that a subframe tells, and the place behind it -/
def readSt (b : Nat → Bool) (N width n : Nat) : Option ((Nat → Int) × Nat) :=
  if 8 ≤ N ∧ num b 4 4 < width then (bodySt b N (num b 0 4) (width - num b 4 4) n 8).map fun xp => (fun i => xp.1 i * 2 ^ num b 4 4, xp.2) else none
/-- a list, a number and a word were answered -/
def Out3 (e : Ending) (w w' : World) (n : Nat) : Option ((Nat → Int) × Nat) → Prop
  | some xp => ∃ g, e = .returned (.tuple #[.slice (some ⟨g, 0, none⟩) n n, .int .i64 xp.2, .bool true]) ∧ w.heap.size ≤ g ∧ w'.rowIs g 3 n (cutV n xp.1) ∧ Below w.heap.size w w'
  | none => e = .returned (.tuple #[.slice none 0 0, .int .i64 0, .bool false]) ∧ Below w.heap.size w w'
/-- the row while it is shifted -/
def shV (n : Nat) (x : Nat → Int) (q k i : Nat) : Value := if i < k then cutV n (fun i => x i * 2 ^ q) i else cutV n x i
theorem shV_step {w : World} {g : Nat} {t : TypeId} {n k q : Nat} {x : Nat → Int} (hk : k < n) (h : w.rowIs g t n (shV n x q k)) : (w.setCell ⟨g, k, none⟩ (.int .i64 (x k * 2 ^ q))).rowIs g t n (shV n x q (k + 1)) := by
  refine (h.set k _).congr fun i _ => ?_
  unfold shV
  by_cases e : i = k
  · subst e; simp [cutV, cutI, hk]
  · by_cases e2 : i < k
    · simp [e, e2, Nat.lt_succ_of_lt e2]
    · have : ¬ i < k + 1 := by omega
      simp [e, e2, this]
theorem mul_sh {d : Nat} {v : Int} {q width : Nat} (h : fitsB d v = true) (hd1 : 1 ≤ d) (hq : d + q ≤ 13) : -4096 ≤ v * 2 ^ q ∧ v * 2 ^ q ≤ 4096 := by
  unfold fitsB at h
  rw [within_iff] at h
  have e : (2 : Int) ^ (d - 1) * 2 ^ q = 2 ^ (d - 1 + q) := by rw [Int.pow_add]
  have hp : (2 : Int) ^ (d - 1 + q) ≤ 4096 := ipow_le (d - 1 + q) 4096 (Nat.le_trans (Nat.pow_le_pow_right (by omega) (by omega : d - 1 + q ≤ 12)) (by decide))
  have hpos := ipow_pos q
  have h1 : v * 2 ^ q ≤ 2 ^ (d - 1) * 2 ^ q := Int.mul_le_mul_of_nonneg_right (by omega) (by omega)
  have h2 : -(2 ^ (d - 1)) * 2 ^ q ≤ v * 2 ^ q := Int.mul_le_mul_of_nonneg_right h.1 (by omega)
  rw [Int.neg_mul] at h2
  omega
set_option maxRecDepth 100000 in
set_option maxHeartbeats 2000000 in
theorem subRead_any (s : ByteArray) (b : Nat → Bool) (width n : Nat) (w : World) (hs : s.size ≤ 80000) (hw1 : 1 ≤ width) (hw : width ≤ 13) (hn : n ≤ 32) (hb : Bits s b) (hT : TabAt w 7) (hT2 : 7 < w.heap.size) :
    Calls Tryz.prog 117 #[.int .i64 width, .int .i64 n, .string s] w fun e w' => Out3 e w w' n (readSt b s.size width n) := by
  have HB := Hid.mk' hb
  have HT := Hid.mk' hT
  clear hb hT
  have k16 : num b 0 4 < 16 := num_lt b 0 4
  have q16 : num b 4 4 < 16 := num_lt b 4 4
  by_cases h4 : 4 ≤ s.size
  · by_cases h8 : 8 ≤ s.size
    · by_cases hq : num b 4 4 < width
      · have HO : Hid (readSt b s.size width n = (bodySt b s.size (num b 0 4) (width - num b 4 4) n 8).map fun xp => (fun i => xp.1 i * 2 ^ num b 4 4, xp.2)) := by show _ = _; unfold readSt; rw [if_pos ⟨h8, hq⟩]
        have hcast : ((width - num b 4 4 : Nat) : Int) = (width : Int) - (num b 4 4 : Int) := by omega
        have HBODY : Hid (∀ u : World, Rd u w.heap.size s 8 → TabAt u 7 → 7 < u.heap.size → Calls Tryz.prog 155 #[.pointer (some ⟨w.heap.size, 0, none⟩), .int .i64 (num b 0 4), .int .i64 ((width : Int) - (num b 4 4 : Int)), .int .i64 n] u fun e w' => Out e u w' w.heap.size s n (bodySt b s.size (num b 0 4) (width - num b 4 4) n 8)) := fun u hu hTu hu2 => by
          rw [← hcast]
          exact readBody_any w.heap.size s b 8 (width - num b 4 4) n (num b 0 4) u hs h8 (by omega) (by omega) hn (by omega) hu HB.out hTu hu2 (by omega)
        clear hcast
        cases hbody : bodySt b s.size (num b 0 4) (width - num b 4 4) n 8 with
        | none =>
          rw [hbody] at HBODY HO
          go_enter Tryz.func117, Tryz.ntmps117
          go_wp2_with (first
            | (go_at_call 153; refine (newReader_any _ _).mono ?_; rintro e w1 ⟨rfl, hR1, hb1⟩; have HR1 := Hid.mk' hR1; have HB1 := Hid.mk' hb1; clear hR1 hb1)
            | (go_at_call 154; refine (number_yes w.heap.size s b 0 4 _ hs (by omega) HR1.out (by omega) HB.out).mono ?_; rintro e w2 ⟨rfl, hR2, hC2⟩; have HR2 := Hid.mk' hR2; have HC2 := Hid.mk' hC2; clear hR2 hC2)
            | (go_at_call 154; refine (number_yes w.heap.size s b 4 4 _ hs (by omega) HR2.out (by omega) HB.out).mono ?_; rintro e w3 ⟨rfl, hR3, hC3⟩; have HR3 := Hid.mk' hR3; have HC3 := Hid.mk' hC3; clear hR3 hC3; have HB3 := Hid.mk' (HB1.out.trans ((HC2.out.trans HC3.out).toBelow (Nat.le_refl _) (Nat.le_of_lt HR1.out.lt))))
            | (go_at_call 155; refine (HBODY.out _ HR3.out (fun r c hr hc => (HB3.out.cell (p := ⟨7, 4 * r + c, none⟩) hT2).trans (HT.out r c hr hc)) (Nat.lt_of_lt_of_le hT2 HB3.out.size)).mono ?_; rintro e w4 ⟨v4, rfl, hC4⟩; have HC4 := Hid.mk' hC4; clear hC4))
          go_ret3
          rw [HO.out]
          exact ⟨rfl, HB3.out.trans (HC4.out.toBelow (Nat.le_refl _) (Nat.le_of_lt (Nat.lt_of_lt_of_le HR1.out.lt (HC2.out.trans HC3.out).size)))⟩
        | some xp =>
          rw [hbody] at HBODY HO
          have HF := Hid.mk' (body_fits (by omega) hbody)
          clear hbody
          go_enter Tryz.func117, Tryz.ntmps117
          go_wp2_with (first
            | (go_at_call 153; refine (newReader_any _ _).mono ?_; rintro e w1 ⟨rfl, hR1, hb1⟩; have HR1 := Hid.mk' hR1; have HB1 := Hid.mk' hb1; clear hR1 hb1)
            | (go_at_call 154; refine (number_yes w.heap.size s b 0 4 _ hs (by omega) HR1.out (by omega) HB.out).mono ?_; rintro e w2 ⟨rfl, hR2, hC2⟩; have HR2 := Hid.mk' hR2; have HC2 := Hid.mk' hC2; clear hR2 hC2)
            | (go_at_call 154; refine (number_yes w.heap.size s b 4 4 _ hs (by omega) HR2.out (by omega) HB.out).mono ?_; rintro e w3 ⟨rfl, hR3, hC3⟩; have HR3 := Hid.mk' hR3; have HC3 := Hid.mk' hC3; clear hR3 hC3; have HB3 := Hid.mk' (HB1.out.trans ((HC2.out.trans HC3.out).toBelow (Nat.le_refl _) (Nat.le_of_lt HR1.out.lt))))
            | (go_at_call 155; refine (HBODY.out _ HR3.out (fun r c hr hc => (HB3.out.cell (p := ⟨7, 4 * r + c, none⟩) hT2).trans (HT.out r c hr hc)) (Nat.lt_of_lt_of_le hT2 HB3.out.size)).mono ?_; rintro e w4 ⟨g, rfl, hg4, hrow4, hR4, hC4⟩; have HROW4 := Hid.mk' hrow4; have HR4 := Hid.mk' hR4; have HC4 := Hid.mk' hC4; clear hrow4 hR4 hC4))
          have HBE : Hid (Below w.heap.size w w4) := HB3.out.trans (HC4.out.toBelow (Nat.le_refl _) (Nat.le_of_lt (Nat.lt_of_lt_of_le HR1.out.lt (HC2.out.trans HC3.out).size)))
          have hgw : w.heap.size < g := by have := HR3.out.lt; omega
          have hp2 := ipow_pos (num b 4 4)
          clear HB3 HC4 HR3 HR2 HR1 HC2 HC3 HB1 HBODY
          go_loopw [14, 50] (fun _ i wr => ∃ k : Nat, k ≤ n ∧ i = .int .i64 k ∧ Hid (wr.rowIs g 3 n (shV n xp.1 (num b 4 4) k) ∧ Rd wr w.heap.size s xp.2 ∧ Below w.heap.size w wr)) (fun _ i _ => n - (intOf i).toNat)
          case atStart => exact ⟨0, Nat.zero_le _, rfl, HROW4.out.congr fun i _ => by simp [shV], HR4.out, HBE.out⟩
          case round =>
            clear HROW4 HR4 HBE
            obtain ⟨k, hk, rfl, HX⟩ := hrel
            by_cases hkn : k < n
            · have hc1 := HX.out.1.cell hkn
              have hf1 := HX.out.1.frozen k
              unfold shV cutV cutI at hc1
              rw [if_neg (Nat.lt_irrefl k), if_pos hkn] at hc1
              have hmb := mul_sh (width := width) (q := num b 4 4) (HF.out k hkn) (by omega) (by omega)
              go_wp2
              go_roundw
              case rel =>
                refine ⟨k + 1, by omega, by go_num, shV_step hkn HX.out.1, ?_, HX.out.2.2.setCell (Nat.le_of_lt hgw) _⟩
                exact ((Chg.refl g wr).set k _).rd HX.out.2.1 (by omega)
              case measure => simp [intOf]; omega
            · have e : k = n := by omega
              subst e
              go_wp2_with (go_at_call 156; refine (taken_any _ s _ _ HX.out.2.1).mono ?_; rintro e w' ⟨rfl, rfl⟩)
              go_ret3
              rw [HO.out]
              exact ⟨g, rfl, Nat.le_of_lt hgw, HX.out.1.congr fun i hi => by simp [shV, hi], HX.out.2.2⟩
      · have HO : Hid (readSt b s.size width n = none) := by show _ = _; unfold readSt; rw [if_neg (fun h => hq h.2)]
        go_enter Tryz.func117, Tryz.ntmps117
        go_wp2_with (first
          | (go_at_call 153; refine (newReader_any _ _).mono ?_; rintro e w1 ⟨rfl, hR1, hb1⟩; have HR1 := Hid.mk' hR1; have HB1 := Hid.mk' hb1; clear hR1 hb1)
          | (go_at_call 154; refine (number_yes w.heap.size s b 0 4 _ hs (by omega) HR1.out (by omega) HB.out).mono ?_; rintro e w2 ⟨rfl, hR2, hC2⟩; have HR2 := Hid.mk' hR2; have HC2 := Hid.mk' hC2; clear hR2 hC2)
          | (go_at_call 154; refine (number_yes w.heap.size s b 4 4 _ hs (by omega) HR2.out (by omega) HB.out).mono ?_; rintro e w3 ⟨rfl, hR3, hC3⟩; have HR3 := Hid.mk' hR3; have HC3 := Hid.mk' hC3; clear hR3 hC3; have HB3 := Hid.mk' (HB1.out.trans ((HC2.out.trans HC3.out).toBelow (Nat.le_refl _) (Nat.le_of_lt HR1.out.lt)))))
        go_ret3
        rw [HO.out]
        exact ⟨rfl, HB3.out⟩
    · have HO : Hid (readSt b s.size width n = none) := by show _ = _; unfold readSt; rw [if_neg (fun h => h8 h.1)]
      go_enter Tryz.func117, Tryz.ntmps117
      go_wp2_with (first
        | (go_at_call 153; refine (newReader_any _ _).mono ?_; rintro e w1 ⟨rfl, hR1, hb1⟩; have HR1 := Hid.mk' hR1; have HB1 := Hid.mk' hb1; clear hR1 hb1)
        | (go_at_call 154; refine (number_yes w.heap.size s b 0 4 _ hs (by omega) HR1.out (by omega) HB.out).mono ?_; rintro e w2 ⟨rfl, hR2, hC2⟩; have HR2 := Hid.mk' hR2; have HC2 := Hid.mk' hC2; clear hR2 hC2)
        | (go_at_call 154; refine (number_no w.heap.size s 4 4 _ hs (by omega) (by omega) HR2.out (by omega)).mono ?_; rintro e w3 ⟨rfl, j, rfl⟩))
      go_ret3
      rw [HO.out]
      exact ⟨rfl, HB1.out.trans ((HC2.out.drewN j).toBelow (Nat.le_refl _) (Nat.le_of_lt HR1.out.lt))⟩
  · have HO : Hid (readSt b s.size width n = none) := by show _ = _; unfold readSt; rw [if_neg (fun h => h4 (by omega))]
    go_enter Tryz.func117, Tryz.ntmps117
    go_wp2_with (first
      | (go_at_call 153; refine (newReader_any _ _).mono ?_; rintro e w1 ⟨rfl, hR1, hb1⟩; have HR1 := Hid.mk' hR1; have HB1 := Hid.mk' hb1; clear hR1 hb1)
      | (go_at_call 154; refine (number_no w.heap.size s 0 4 _ hs (by omega) (by omega) HR1.out (by omega)).mono ?_; rintro e w2 ⟨rfl, j, rfl⟩))
    go_ret3
    rw [HO.out]
    exact ⟨rfl, HB1.out.trans (((Chg.refl w.heap.size _).drewN j).toBelow (Nat.le_refl _) (Nat.le_of_lt HR1.out.lt))⟩
end Go.Proofs.YtlncjgnomhpjnaaGreatDoor

/-
  A whole variable out of its block, and into it, in one step of a walk.
-/
namespace Go.Proofs.YtlncjgnomhpjnaaGreatDoor
open Go.RowKit
theorem wpList_loadRow {P : Program} {w : World} {ops : Array Oper} {rest : List Oper} {o : Oper} {a : Act} {Q : Exit → Act → World → Prop} (hgd : o.guard = none) (p : Operand) (t : TypeId) (ho : o.op = .load t p)
    (g : Nat) (tt : TypeId) (cs : Array Value) (fr : Nat × Nat) (d : TypeDesc) (hp : a.eval p = .pointer (some ⟨g, 0, none⟩)) (hg : w.heap[g]? = some (.cells cs tt fr)) (hu : P.underlying t = some d)
    (hd : (match d with | .struct _ | .array _ _ => true | _ => false) = true) (hi : (P.info? t).map (·.size) = some cs.size) (h : wpList P ops Q rest (a.put o.dst (.agg cs)) w) : wpList P ops Q (o :: rest) a w := by
  have hr := run_loadVar_row (P := P) w g tt t cs fr d hg hu hd hi
  refine wpList_plain hgd fun _ hK => ?_
  unfold Oper.wp execOp
  have e : (Instr.loadAt t (.pointer (some ⟨g, 0, none⟩))).run P w = .ok (.agg cs) w := by simpa [Instr.loadAt, Instr.sureAddr, asAddr] using hr
  simp only [ho, hp, Sem.run_bind, e, Result.andThen, Sem.run_pure]
  rw [Oper.upon_value]
  exact hK _ _ h
theorem wpList_storeRow {P : Program} {w : World} {ops : Array Oper} {rest : List Oper} {o : Oper} {a : Act} {Q : Exit → Act → World → Prop} (hgd : o.guard = none) (p v : Operand) (t : TypeId) (ho : o.op = .store t p v)
    (g : Nat) (tt : TypeId) (old cells : Array Value) (hp : a.eval p = .pointer (some ⟨g, 0, none⟩)) (hv : a.eval v = .agg cells) (hg : w.heap[g]? = some (.cells old tt (0, 0))) (hi : (P.info? t).map (·.size) = some cells.size)
    (hs : old.size = cells.size) (h1 : cells.toList.all (·.oneCell') = true) (h : wpList P ops Q rest (a.put o.dst undef) (w.setRow g cells)) : wpList P ops Q (o :: rest) a w := by
  have hr := run_storeVar_row (P := P) w g tt t old cells hg hi hs (by rw [← Array.all_toList]; exact h1)
  refine wpList_plain hgd fun _ hK => ?_
  unfold Oper.wp execOp
  have e : (Instr.storeAt t (.pointer (some ⟨g, 0, none⟩)) (.agg cells)).run P w = .ok () (w.setRow g cells) := by simpa [Instr.storeAt, Instr.sureAddr, asAddr] using hr
  simp only [ho, hp, hv, Sem.run_bind, e, Result.andThen, Sem.run_pure]
  rw [Oper.upon_skip]
  exact hK _ _ h
end Go.Proofs.YtlncjgnomhpjnaaGreatDoor

/-
  The program's packer: a body by a kind that has rests.
-/
namespace Go.Proofs.YtlncjgnomhpjnaaGreatDoor
open Go.RowKit Go.Deep
set_option linter.unusedVariables false
/-- a variable's block -/
def Bx (w : World) (b : Nat) (t : TypeId) (cs : Array Value) : Prop := w.heap[b]? = some (.cells cs t (0, 0))
theorem Bx.lt {w : World} {b : Nat} {t : TypeId} {cs : Array Value} (h : Bx w b t cs) : b < w.heap.size := (Array.getElem?_eq_some_iff.1 h).1
theorem Bx.of {w w' : World} {b : Nat} {t : TypeId} {cs : Array Value} (h : Bx w b t cs) (e : w'.heap[b]? = w.heap[b]?) : Bx w' b t cs := e.trans h
theorem Bx.alloc {w : World} {b : Nat} {t : TypeId} {cs : Array Value} (h : Bx w b t cs) (o : Obj) : Bx (w.alloc o) b t cs := h.of (blk_alloc_lt _ _ _ h.lt)
theorem Bx.new (w : World) (cs : Array Value) (t : TypeId) : Bx (w.alloc (.cells cs t)) w.heap.size t cs := blk_alloc_new _ _
theorem Bx.below {w w' : World} {b : Nat} {t : TypeId} {cs : Array Value} (h : Bx w b t cs) (hb : Below w.heap.size w w') : Bx w' b t cs := h.of (hb.block _ h.lt)
theorem Bx.row {w : World} {b : Nat} {t : TypeId} {cs : Array Value} (h : Bx w b t cs) (ds : Array Value) : Bx (w.setRow b ds) b t ds := setRow_heap w b cs ds t (0, 0) h
theorem Bx.cell {w : World} {b : Nat} {t : TypeId} {cs : Array Value} (h : Bx w b t cs) (j : Nat) : w.cell? ⟨b, j, none⟩ = cs[j]? := by simp [World.cell?, show w.heap[b]? = _ from h]
end Go.Proofs.YtlncjgnomhpjnaaGreatDoor

/-
  The document's packer: texts of bits.
-/
namespace Go.Proofs.YtlncjgnomhpjnaaGreatDoor
open Go.RowKit Go.Deep
set_option linter.unusedVariables false
/-- a text as a string -/
def bs (T : List UInt8) : ByteArray := ⟨T.toArray⟩
theorem bs_append (a b : List UInt8) : bs a ++ bs b = bs (a ++ b) := by
  apply ByteArray.ext
  simp [bs]
theorem bs_size (a : List UInt8) : (bs a).size = a.length := by simp [bs, ByteArray.size]
theorem strOf_zeros (k : Nat) : strOf (fun _ => 48) k = bs (List.replicate k 48) := by
  unfold strOf bs
  congr 2
  apply List.ext_getElem
  · simp
  · intro i h1 h2; simp
set_option maxHeartbeats 1000000 in
theorem zeros_any (k : Nat) (w : World) (hk : k ≤ 3000000) :
    Calls Tryz.prog 160 #[.int .i64 k] w fun e w' => e = .returned (.string (bs (List.replicate k 48))) ∧ Below w.heap.size w w' := by
  have hmk := run_make_row' (P := Tryz.prog) 61 5 (.int .u8 0) 1 Tryz.underlying61 infoByte rfl .i64 .i64 k (by omega) (by omega)
  have HS := Hid.mk' (strOf_zeros k)
  have HCV := Hid.mk' (fun (u : World) h => run_rowString (P := Tryz.prog) u 61 9 5 w.heap.size 0 k k (fun _ => 48) Tryz.underlying61 Tryz.underlying5 Tryz.underlying9 h)
  go_enter Tryz.func160, Tryz.ntmps160
  go_wp2
  clear hmk
  go_loopw [4] (fun iv wr => ∃ j : Nat, j ≤ k ∧ iv = .int .i64 j ∧ Hid (wr.rowIs w.heap.size 5 k (fun i => .int .u8 (if i < j then 48 else 0)) ∧ Below w.heap.size w wr)) (fun iv _ => k - (intOf iv).toNat)
  case atStart => exact ⟨0, by omega, rfl, (World.rowIs_made w (.int .u8 0) k 5).congr fun i _ => by rw [if_neg (by omega)], (Below.refl _ _).alloc (Nat.le_refl _) _⟩
  case round =>
    obtain ⟨j, hj, rfl, HR⟩ := hrel
    by_cases hlt : j < k
    · have hc1 := HR.out.1.cell (i := j) hlt
      have hf1 := HR.out.1.frozen j
      generalize hcv : (if j < j then (48 : Int) else 0) = oldv at hc1
      clear hcv
      go_wp2
      go_roundw
      case rel => exact ⟨j + 1, by omega, by go_num, (HR.out.1.set j _).congr (fun i _ => by
        by_cases e : i = j
        · subst e; rw [if_pos rfl, if_pos (by omega)]
        · rw [if_neg e]
          by_cases e2 : i < j
          · rw [if_pos e2, if_pos (by omega)]
          · rw [if_neg e2, if_neg (by omega)]), HR.out.2.setCell (Nat.le_refl _) _⟩
      case measure => simp [intOf]; omega
    · have e : j = k := by omega
      subst e
      have hcv := HCV.out wr (fun i hi => by
        have := HR.out.1.cell (i := i) hi
        rw [if_pos hi] at this
        simpa using this)
      rw [HS.out] at hcv
      go_wp2
      go_ret
      exact ⟨rfl, HR.out.2⟩
end Go.Proofs.YtlncjgnomhpjnaaGreatDoor

