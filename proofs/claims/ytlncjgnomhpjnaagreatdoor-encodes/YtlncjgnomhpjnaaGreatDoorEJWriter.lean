import Derived.Test.YtlncjgnomhpjnaaGreatDoorEJCodeMath
import Derived.Test.YtlncjgnomhpjnaaGreatDoorEJReader
import Derived.Lib.Builder
import Derived.Lib.FrozenHead2
import Derived.Lib.OthersKept
import Derived.Deep.RegionWith
import Derived.Test.YtlncjgnomhpjnaaGreatDoorEJBase
/-
  The writer of bits: strings.Builder in a block of its own, or in a writer's.
-/
namespace Go.Proofs.YtlncjgnomhpjnaaGreatDoor
open Go.RowKit Go.Deep
set_option linter.unusedVariables false

theorem sizeBuilder : (Tryz.prog.info? 150).map (·.size) = some 2 := by kernel_rfl
theorem infoByte : (Tryz.prog.info? 5).map (fun i => (i.zero, i.size, i.bytes)) = some (some (.int .u8 0), 1, 1) := by kernel_rfl
theorem cellsByte : Tryz.prog.cellsOf 5 = 1 := by kernel_rfl
/-- a builder may lie in such a block -/
def Lies (T : TypeId) : Prop := liesAt Tryz.prog Tryz.prog.depth T (2 / Tryz.prog.cellsOf T) 0 150 1 = true ∧ T ≠ 5
theorem lies_writer : Lies 152 := ⟨by kernel_rfl, by decide⟩
theorem lies_builder : Lies 150 := ⟨by kernel_rfl, by decide⟩

set_option maxHeartbeats 1000000 in
set_option maxRecDepth 100000 in
theorem copyCheck_any (T : TypeId) (hT : Lies T) (B b : Nat) (bs : List Value) (w : World) (h : Lib.IsBuilderF T 5 B b bs w) :
    Calls Tryz.prog 165 #[.pointer (some ⟨b, 0, none⟩)] w fun e w' => e = .returned (.tuple #[]) ∧ (Lib.BuilderAtF T 5 B b (.pointer (some ⟨b, 0, none⟩)) bs w' ∧ Below B w w' ∧ Lib.OthersKept 5 (some b) w w') := by
  obtain ⟨j, hj, hjs⟩ := Option.map_eq_some_iff.1 sizeBuilder
  rcases h with h | h
  · have h0 := h.cell0
    have hsh := h.shape
    have hfz := h.frozen0
    have HH := Hid.mk' h
    clear h
    go_enter Tryz.func165, Tryz.ntmps165
    go_wp2
    rw [Lib.run_to_unsafe w ⟨b, 0, none⟩ Tryz.underlying148 Tryz.underlying221 hj (by rw [hjs]; decide) hsh (Nat.zero_lt_succ 1)]
    simp only [Result.andThen]
    rw [Oper.upon_value]
    go_wp2
    rw [run_callFunc_extern Tryz.func188 (by kernel_rfl) (by kernel_rfl) (by kernel_rfl) (e := Extern.AbiNoEscape.same) (by kernel_rfl)]
    rw [Lib.run_noEscape]
    simp only [Result.andThen]
    rw [Oper.upon_value]
    go_wp2
    rw [Lib.run_from_unsafe w ⟨b, 0, none⟩ Tryz.underlying221 Tryz.underlying148 hj hsh hT.1]
    simp only [Result.andThen]
    rw [Oper.upon_value]
    go_wp2
    go_end0
    exact ⟨rfl, HH.out.used _, (Below.refl B w).setCell (p := ⟨b, 0, none⟩) HH.out.1 _, (Lib.OthersKept.refl _ _ w).setCell ⟨b, 0, none⟩ rfl _⟩
  · have h0 := h.cell0
    have HH := Hid.mk' h
    clear h
    have hne := fun u : World => Lib.run_neq_ptr_same (P := Tryz.prog) (w := u) (j := j) (⟨b, 0, none⟩ : Addr) Tryz.underlying148 hj
    go_enter Tryz.func165, Tryz.ntmps165
    go_wp2
    go_end0
    exact ⟨rfl, HH.out, Below.refl B _, Lib.OthersKept.refl _ _ _⟩

set_option maxHeartbeats 2000000 in
set_option maxRecDepth 100000 in
theorem writeByte_any (T : TypeId) (hT : Lies T) (B b : Nat) (bs : List Value) (c : Int) (w : World) (h : Lib.IsBuilderF T 5 B b bs w) (hlen : bs.length + 1 ≤ 140737488355328) (hBw : B ≤ w.heap.size) :
    Calls Tryz.prog 158 #[.pointer (some ⟨b, 0, none⟩), .int .u8 c] w fun e w' => e = .returned .nilIface ∧ (Lib.BuilderAtF T 5 B b (.pointer (some ⟨b, 0, none⟩)) (bs ++ [.int .u8 c]) w' ∧ Below B w w' ∧ Lib.OthersKept 5 (some b) w w') := by
  obtain ⟨i0, hi, hz0, hz1, hz2⟩ := info_parts infoByte
  have HH := Hid.mk' h
  clear h
  go_enter Tryz.func158, Tryz.ntmps158
  go_wp2_with (go_at_call 165; refine (copyCheck_any T hT B b bs _ HH.out).mono ?_)
  rintro e w1 ⟨rfl, h1, hb1, hk1⟩
  obtain ⟨hB, v, hbk, hown, hne⟩ := h1
  have c0 : w1.cell? ⟨b, 0, none⟩ = some (.pointer (some ⟨b, 0, none⟩)) := by rw [Lib.cell_of_heap hbk]; rfl
  have c1 : w1.cell? ⟨b, 1, none⟩ = some v := by rw [Lib.cell_of_heap hbk]; rfl
  go_wp2_with (at_builtin; refine wpList_append_ownF _ rfl _ _ 61 rfl B 5 i0 (.int .u8 0) 1 1 Tryz.underlying61 hi hz0 hz1 hz2 rfl (by decide) _ _ _ rfl (hown.alloc _) ⟨w1.heap.size, 0, none⟩ 1 1 [.int .u8 c] rfl rfl ?c1 ?c2 ?c3 ?c4 ?c5 ?_)
  case c1 =>
    intro j u hj
    match j, hj with
    | 0, hj => simp at hj; subst hj; simp [Addr.add]
  case c2 => intro u hu; simp at hu; subst hu; rfl
  case c3 => unfold maxLen; omega
  case c4 => omega
  case c5 => have := hb1.size; simp; omega
  intro v' w2 hown' hgrow _
  have hlt : b < w1.heap.size := (Array.getElem?_eq_some_iff.1 hbk).1
  have hb2 : w2.heap[b]? = some (.cells #[.pointer (some ⟨b, 0, none⟩), v] T (0, 0)) := by
    rw [hgrow.block b (by simp; omega) (fun e => hne e.symm), Lib.alloc_old w1 _ b hlt]
    exact hbk
  have d0 : w2.cell? ⟨b, 0, none⟩ = some (.pointer (some ⟨b, 0, none⟩)) := by rw [Lib.cell_of_heap hb2]; rfl
  have d1 : w2.cell? ⟨b, 1, none⟩ = some v := by rw [Lib.cell_of_heap hb2]; rfl
  have f1 : w2.frozen? ⟨b, 1, none⟩ = false := Lib.frozen_of_heap hb2 1
  obtain ⟨g, cap, rfl⟩ : ∃ g cap, v' = .slice (some ⟨g, 0, none⟩) (bs.length + 1) cap := by
    rcases hown'.2 with ⟨_, h0⟩ | ⟨g, cap, cur, fz, hv, _⟩
    · omega
    · exact ⟨g, cap, hv⟩
  go_wp2
  go_ret
  refine ⟨rfl, ?_, ?_, ((hk1.alloc _).grown hgrow (Lib.ownsRowF_kind (hown.alloc _))).setCell ⟨b, 1, none⟩ rfl _⟩
  · exact Lib.BuilderAtF.put (T := T) (e := 5) hB hb2 (bs' := bs ++ [.int .u8 c]) (by simpa using hown') hT.2
  · exact ((hb1.alloc (by have := hb1.size; omega) _).grown hgrow (by have := hb1.size; simp; omega) (fun k hk => (hown.lt k hk).1)).setCell (p := ⟨b, 1, none⟩) hB _

set_option maxHeartbeats 2000000 in
set_option maxRecDepth 100000 in
theorem string_any (T : TypeId) (B b : Nat) (l : List UInt8) (w : World) (h : Lib.IsBuilderF T 5 B b (Lib.byteCells l) w) (h0 : l ≠ []) :
    Calls Tryz.prog 142 #[.pointer (some ⟨b, 0, none⟩)] w fun e w' => e = .returned (.string ⟨l.toArray⟩) ∧ Below B w w' := by
  obtain ⟨p, hAt⟩ : ∃ p, Lib.BuilderAtF T 5 B b p (Lib.byteCells l) w := by
    rcases h with h | h
    · exact ⟨_, h⟩
    · exact ⟨_, h⟩
  obtain ⟨hB, v, hbk, hown, hne⟩ := hAt
  have hl0 : l.length ≠ 0 := by simpa using h0
  rw [Lib.byteCells_length] at hown
  obtain ⟨g, cap, cur, fz, rfl, hbg, hg, hfz, hnc, hcm, hcs, htake⟩ : ∃ g cap cur fz, v = .slice (some ⟨g, 0, none⟩) l.length cap ∧ B ≤ g ∧ w.heap[g]? = some (.cells cur 5 fz) ∧ fz.2 ≤ l.length * 1 ∧ l.length ≤ cap ∧ cap ≤ maxLen ∧ cur.size = cap * 1 ∧ cur.toList.take (l.length * 1) = Lib.byteCells l := by
    rcases hown.2 with ⟨_, hz⟩ | ⟨g, cap, cur, fz, hv, r⟩
    · exact absurd hz hl0
    · exact ⟨g, cap, cur, fz, hv, r⟩
  have c1 : w.drew.cell? ⟨b, 1, none⟩ = some (.slice (some ⟨g, 0, none⟩) l.length cap) := by
    have : w.drew.heap[b]? = some (.cells #[p, .slice (some ⟨g, 0, none⟩) l.length cap] T (0, 0)) := hbk
    rw [Lib.cell_of_heap this]; rfl
  have hSD : (Builtin.unsafeSliceData_ #[61] 208 #[.slice (some ⟨g, 0, none⟩) l.length cap]).run Tryz.prog w.drew = .ok (.pointer (some ⟨g, 0, none⟩)) w.drew :=
    Lib.run_unsafeSliceData_row _ _ _ _ _ _ (by omega)
  have hUS : (Builtin.unsafeString_ #[208, 3] 9 #[.pointer (some ⟨g, 0, none⟩), .int .i64 l.length]).run Tryz.prog w.drew = .ok (.string ⟨l.toArray⟩) (w.drew.freeze ⟨g, 0, none⟩ l.length) := by
    refine Lib.run_unsafeString_row w.drew 208 3 9 5 Tryz.underlying208 cellsByte g cur.size (by have hg' : w.drew.heap[g]? = some (.cells cur 5 fz) := hg; simp [World.shape?, hg']) l h0 (by omega) (by unfold maxLen at hcm; omega) ?_
    intro j x hx
    have := hown.cells (g := g) rfl j (.int .u8 x.toNat) (by simp [Lib.byteCells, hx])
    exact this
  clear hown hg htake hbk
  go_enter Tryz.func142, Tryz.ntmps142
  go_wp2
  go_region
  all_goals (go_wp2; go_ret; exact ⟨rfl, Lib.below_freeze (Below.drew (Below.refl B w)) (p := ⟨g, 0, none⟩) hbg _⟩)
end Go.Proofs.YtlncjgnomhpjnaaGreatDoor

/-
  The writer's methods.
-/
namespace Go.Proofs.YtlncjgnomhpjnaaGreatDoor
open Go.RowKit Go.Deep
set_option linter.unusedVariables false

/-- a writer that holds this text -/
def Wr (w : World) (B b : Nat) (T : List UInt8) : Prop := Lib.IsBuilderF 152 5 B b (Lib.byteCells T) w
/-- what a writer's call leaves -/
def KeptW (B b : Nat) (w w' : World) : Prop := Below B w w' ∧ Lib.OthersKept 5 (some b) w w'
theorem KeptW.refl (B b : Nat) (w : World) : KeptW B b w w := ⟨Below.refl _ _, Lib.OthersKept.refl _ _ _⟩
theorem KeptW.trans {B b : Nat} {w w' w'' : World} (h : KeptW B b w w') (k : KeptW B b w' w'') : KeptW B b w w'' := ⟨h.1.trans k.1, h.2.trans k.2⟩
theorem Wr.len {B b : Nat} {w : World} {T : List UInt8} (h : Wr w B b T) : B ≤ b := by
  rcases h with h | h
  · exact h.1
  · exact h.1

theorem Wr.drewN {w : World} {B b : Nat} {T : List UInt8} (h : Wr w B b T) (m : Nat) : Wr (w.drewN m) B b T := h
theorem Wr.drew {w : World} {B b : Nat} {T : List UInt8} (h : Wr w B b T) : Wr w.drew B b T := h
theorem KeptW.drew {B b : Nat} {w w' : World} (h : KeptW B b w w') : KeptW B b w w'.drew := ⟨h.1.drew, h.2.drew⟩

theorem wWrite_any (B b : Nat) (T : List UInt8) (c : UInt8) (w : World) (h : Wr w B b T) (hlen : T.length + 1 ≤ 140737488355328) (hBw : B ≤ w.heap.size) :
    Calls Tryz.prog 158 #[.pointer (some ⟨b, 0, none⟩), .int .u8 (c.toNat : Int)] w fun e w' => e = .returned .nilIface ∧ Wr w' B b (T ++ [c]) ∧ KeptW B b w w' := by
  refine (writeByte_any 152 lies_writer B b _ (c.toNat : Int) w h (by rw [Lib.byteCells_length]; exact hlen) hBw).mono ?_
  rintro e w' ⟨rfl, h1, h2, h3⟩
  refine ⟨rfl, .inr ?_, h2, h3⟩
  have : Lib.byteCells (T ++ [c]) = Lib.byteCells T ++ [.int .u8 (c.toNat : Int)] := by simp [Lib.byteCells]
  rw [this]; exact h1

theorem and_one (x : Int) : bits .and .i64 x 1 = x % 2 := by
  have e : bits .and .i64 x 1 = IntKind.i64.wrap (((BitVec.ofInt 64 x &&& BitVec.ofInt 64 1).toNat : Nat) : Int) := rfl
  have e1 : (BitVec.ofInt 64 1).toNat = 1 := by decide
  have e2 : ((BitVec.ofInt 64 x).toNat : Int) = x % 18446744073709551616 := by
    rw [BitVec.toNat_ofInt]
    have e64 : ((2 ^ 64 : Nat) : Int) = 18446744073709551616 := rfl
    rw [e64]; omega
  rw [e, BitVec.toNat_and, e1, Nat.and_one_is_mod, IntKind.wrap_i64]
  omega
theorem bit_byte (v : Int) (i : Nat) : IntKind.u8.wrap (48 + IntKind.u8.wrap (bits .and .i64 (v / 2 ^ i) 1)) = ((ltr (decide (v / 2 ^ i % 2 = 1))).toNat : Int) := by
  rw [and_one, ltr_nat]
  generalize v / 2 ^ i = y
  rw [IntKind.wrap_u8, IntKind.wrap_u8]
  by_cases h : y % 2 = 1
  · simp [h]
  · have h0 : y % 2 = 0 := by omega
    simp [h0]

/-- the first j of k bits of v -/
def binP (v : Int) (k j : Nat) : List UInt8 := (List.range j).map fun i => ltr (decide (v / 2 ^ (k - 1 - i) % 2 = 1))
theorem binP_succ (v : Int) (k j : Nat) : binP v k (j + 1) = binP v k j ++ [ltr (decide (v / 2 ^ (k - 1 - j) % 2 = 1))] := by
  simp [binP, List.range_succ]
theorem binP_len (v : Int) (k j : Nat) : (binP v k j).length = j := by simp [binP]

set_option maxHeartbeats 1000000 in
theorem wNumber_any (B b : Nat) (T : List UInt8) (v : Int) (k : Nat) (w : World) (h : Wr w B b T) (hk : k ≤ 16) (hlen : T.length ≤ 100000000000) (hBw : B ≤ w.heap.size) :
    Calls Tryz.prog 122 #[.pointer (some ⟨b, 0, none⟩), .int .i64 v, .int .i64 k] w fun e w' => e = .returned (.tuple #[]) ∧ Wr w' B b (T ++ binT v k) ∧ KeptW B b w w' := by
  have HH := Hid.mk' h
  clear h
  have v1 : IntKind.i64.wrap ((k : Int) - 1) = (k : Int) - 1 := by rw [IntKind.wrap_i64]; omega
  go_enter Tryz.func122, Tryz.ntmps122
  go_wp2
  go_loopw [6] (fun iv wr => ∃ j : Nat, j ≤ k ∧ iv = .int .i64 ((k : Int) - 1 - j) ∧ Hid (Wr wr B b (T ++ binP v k j) ∧ KeptW B b w wr)) (fun iv _ => (intOf iv + 1).toNat)
  case atStart => exact ⟨0, by omega, by simp, by simpa [binP] using HH.out, KeptW.refl _ _ _⟩
  case round =>
    obtain ⟨j, hj, rfl, HI⟩ := hrel
    by_cases hlt : j < k
    · have HW := Hid.mk' (wWrite_any B b (T ++ binP v k j) (ltr (decide (v / 2 ^ (k - 1 - j) % 2 = 1))) wr.drew HI.out.1.drew (by rw [List.length_append, binP_len]; omega) (Nat.le_trans hBw HI.out.2.1.size))
      have hb := bit_byte v (k - 1 - j)
      have t1 : ((k : Int) - 1 - (j : Int)).toNat = k - 1 - j := by omega
      have t2 : decide (0 ≤ (k : Int) - 1 - (j : Int)) = true := decide_eq_true (by omega)
      have v2 : IntKind.i64.wrap ((k : Int) - 1 - (j : Int) - 1) = (k : Int) - 1 - (j : Int) - 1 := by rw [IntKind.wrap_i64]; omega
      have HJ := Hid.mk' (binP_succ v k j)
      go_wp2
      go_region_with (go_at_call 158; refine (HW.out).mono ?_; rintro e w1 ⟨rfl, h1, h2⟩; have H1 := Hid.mk' h1; have H2 := Hid.mk' h2; clear h1 h2 HW)
      go_wp2
      go_roundw
      case rel => exact ⟨j + 1, by omega, by congr 1; omega, by rw [HJ.out, ← List.append_assoc]; exact H1.out, HI.out.2.drew.trans H2.out⟩
      case measure => simp [intOf]; omega
    · have e : j = k := by omega
      subst e
      have t2 : decide (0 ≤ (j : Int) - 1 - (j : Int)) = false := decide_eq_false (by omega)
      go_wp2
      go_end0
      exact ⟨rfl, HI.out.1, HI.out.2⟩
end Go.Proofs.YtlncjgnomhpjnaaGreatDoor

/-
  The writer's methods: lists, Rice codes, the text.
-/
namespace Go.Proofs.YtlncjgnomhpjnaaGreatDoor
open Go.RowKit Go.Deep
set_option linter.unusedVariables false

theorem KeptW.size {B b : Nat} {w w' : World} (h : KeptW B b w w') : w.heap.size ≤ w'.heap.size := h.1.size
theorem KeptW.drewN {B b : Nat} {w w' : World} (h : KeptW B b w w') (m : Nat) : KeptW B b w (w'.drewN m) := ⟨⟨h.1.os, h.1.tape, h.1.output, h.1.size, h.1.block⟩, h.2.trans (by
  induction m with
  | zero => exact Lib.OthersKept.refl _ _ _
  | succ m ih => exact ih.drew)⟩

set_option maxHeartbeats 1000000 in
theorem wNumbers_any (B b : Nat) (T : List UInt8) (x : Nat → Int) (a : Option Addr) (n c k : Nat) (w : World) (h : Wr w B b T) (hn : n ≤ 32) (hk : k ≤ 16) (hlen : T.length ≤ 10000000000) (hBw : B ≤ w.heap.size)
    (hI : ∀ u, KeptW B b w u → IntsAt u a n x) :
    Calls Tryz.prog 190 #[.pointer (some ⟨b, 0, none⟩), .slice a n c, .int .i64 k] w fun e w' => e = .returned (.tuple #[]) ∧ Wr w' B b (T ++ numsT x k n) ∧ KeptW B b w w' := by
  have HH := Hid.mk' h
  have HI := Hid.mk' hI
  clear h hI
  go_enter Tryz.func190, Tryz.ntmps190
  go_wp2
  go_loopw [10] (fun iv wr => ∃ j : Nat, j ≤ n ∧ iv = .int .i64 j ∧ Hid (Wr wr B b (T ++ numsT x k j) ∧ KeptW B b w wr)) (fun iv _ => n - (intOf iv).toNat)
  case atStart => exact ⟨0, by omega, rfl, by simpa [numsT] using HH.out, KeptW.refl _ _ _⟩
  case round =>
    obtain ⟨j, hj, rfl, HR⟩ := hrel
    by_cases hlt : j < n
    · obtain ⟨bb, off, hx, hc⟩ := (HI.out wr HR.out.2).open (by omega)
      cases hx
      have hcj := hc j hlt
      have hl : (T ++ numsT x k j).length ≤ 100000000000 := by
        rw [List.length_append, numsT_length]
        have : j * k ≤ 32 * 16 := Nat.mul_le_mul (by omega) hk
        omega
      have HW := Hid.mk' (fun u (hu : Wr u B b (T ++ numsT x k j)) (hs : B ≤ u.heap.size) => wNumber_any B b (T ++ numsT x k j) (x j) k u hu hk hl hs)
      have HJ := Hid.mk' (show numsT x k (j + 1) = numsT x k j ++ binT (x j) k from rfl)
      have hBr := Nat.le_trans hBw HR.out.2.1.size
      clear hc
      go_wp2_with (go_at_call 122; refine (HW.out _ ?_ ?_).mono ?_; exact HR.out.1; exact hBr; rintro e w1 ⟨rfl, h1, h2⟩; have H1 := Hid.mk' h1; have H2 := Hid.mk' h2; clear h1 h2 HW)
      go_roundw
      case rel => exact ⟨j + 1, by omega, by go_num, by rw [HJ.out, ← List.append_assoc]; exact H1.out, HR.out.2.trans H2.out⟩
      case measure => simp [intOf]; omega
    · have e : j = n := by omega
      subst e
      go_wp2
      go_end0
      exact ⟨rfl, HR.out.1, HR.out.2⟩

theorem fold_any (v : Int) (w : World) (h : -1000000 ≤ v ∧ v ≤ 1000000) :
    Calls Tryz.prog 228 #[.int .i64 v] w fun e w' => e = .returned (.int .i64 (foldN v)) ∧ w' = w := by
  have hf := foldN_int v
  by_cases h0 : 0 ≤ v
  · rw [if_pos h0] at hf
    have HF := Hid.mk' hf
    clear hf
    go_enter Tryz.func228, Tryz.ntmps228
    go_wp2
    go_ret
    exact ⟨ret_int (by rw [HF.out]), rfl⟩
  · rw [if_neg h0] at hf
    have HF := Hid.mk' hf
    clear hf
    go_enter Tryz.func228, Tryz.ntmps228
    go_wp2
    go_ret
    exact ⟨ret_int (by rw [HF.out]), rfl⟩

set_option maxHeartbeats 1000000 in
theorem wRice_any (B b : Nat) (T : List UInt8) (v : Int) (k : Nat) (w : World) (h : Wr w B b T) (hv : -1000000 ≤ v ∧ v ≤ 1000000) (hk : k ≤ 14) (hlen : T.length ≤ 10000000000) (hBw : B ≤ w.heap.size) :
    Calls Tryz.prog 212 #[.pointer (some ⟨b, 0, none⟩), .int .i64 v, .int .i64 k] w fun e w' => e = .returned (.tuple #[]) ∧ Wr w' B b (T ++ riceT (foldN v) k) ∧ KeptW B b w w' := by
  have HH := Hid.mk' h
  have HF := Hid.mk' (fun u => fold_any v u hv)
  have hfl := foldN_le v 1000000 hv
  clear h hv
  have HRT : Hid (riceT (foldN v) k = List.replicate (foldN v / 2 ^ k) 48 ++ [49] ++ binT (foldN v) k) := rfl
  generalize hf : foldN v = f at *
  have hm : min k 64 = k := by omega
  obtain ⟨q, hq⟩ : ∃ q : Nat, q = f / 2 ^ k := ⟨_, rfl⟩
  have hqi : (f : Int) / 2 ^ k = (q : Int) := by rw [hq]; simp
  have hqf : q ≤ f := by rw [hq]; exact Nat.div_le_self _ _
  rw [← hq] at HRT
  have HWN := Hid.mk' (fun u (hu : Wr u B b (T ++ List.replicate q 48 ++ [49])) (hs : B ≤ u.heap.size) => wNumber_any B b (T ++ List.replicate q 48 ++ [49]) (f : Int) k u hu (by omega) (by simp; omega) hs)
  have HW1 := Hid.mk' (fun u (hu : Wr u B b (T ++ List.replicate q 48)) (hs : B ≤ u.heap.size) => wWrite_any B b (T ++ List.replicate q 48) 49 u hu (by simp; omega) hs)
  have HQ := Hid.mk' hq
  clear hq hf
  go_enter Tryz.func212, Tryz.ntmps212
  go_wp2_with (go_at_call 228; refine (HF.out _).mono ?_; rintro e w1 ⟨rfl, hw⟩; subst w1; clear HF)
  go_loopw [12] (fun iv wr => ∃ j : Nat, j ≤ q ∧ iv = .int .i64 j ∧ Hid (Wr wr B b (T ++ List.replicate j 48) ∧ KeptW B b w wr)) (fun iv _ => q - (intOf iv).toNat)
  case atStart => exact ⟨0, by omega, rfl, by simpa using HH.out, KeptW.refl _ _ _⟩
  case round =>
    obtain ⟨j, hj, rfl, HR⟩ := hrel
    have hBr := Nat.le_trans hBw HR.out.2.1.size
    by_cases hlt : j < q
    · have HW := Hid.mk' (fun u (hu : Wr u B b (T ++ List.replicate j 48)) (hs : B ≤ u.heap.size) => wWrite_any B b (T ++ List.replicate j 48) 48 u hu (by simp; omega) hs)
      clear HWN HW1
      go_wp2_with (go_at_call 158; refine (HW.out _ ?_ ?_).mono ?_; exact HR.out.1; exact hBr; rintro e w1 ⟨rfl, h1, h2⟩; have H1 := Hid.mk' h1; have H2 := Hid.mk' h2; clear h1 h2 HW)
      go_roundw
      case rel => exact ⟨j + 1, by omega, by go_num, by rw [List.replicate_succ', ← List.append_assoc]; exact H1.out, HR.out.2.trans H2.out⟩
      case measure => simp [intOf]; omega
    · have e : j = q := by omega
      subst e
      go_wp2_with (first
        | (go_at_call 158; refine (HW1.out _ ?_ ?_).mono ?_; exact HR.out.1; exact hBr; rintro e w1 ⟨rfl, h1, h2⟩; have H1 := Hid.mk' h1; have H2 := Hid.mk' h2; clear h1 h2 HW1)
        | (go_at_call 122; refine (HWN.out _ ?_ ?_).mono ?_; exact H1.out; exact Nat.le_trans hBr H2.out.1.size; rintro e w2 ⟨rfl, h1, h2⟩; have H3 := Hid.mk' h1; have H4 := Hid.mk' h2; clear h1 h2 HWN))
      go_end0
      refine ⟨rfl, ?_, HR.out.2.trans (H2.out.trans H4.out)⟩
      rw [HRT.out, ← List.append_assoc, ← List.append_assoc]
      exact H3.out

set_option maxHeartbeats 400000 in
theorem wText_any (B b : Nat) (T : List UInt8) (w : World) (h : Wr w B b T) (h0 : T ≠ []) :
    Calls Tryz.prog 123 #[.pointer (some ⟨b, 0, none⟩)] w fun e w' => e = .returned (.string ⟨T.toArray⟩) ∧ Below B w w' := by
  have HS := Hid.mk' (fun u (hu : Wr u B b T) => string_any 152 B b T u hu h0)
  have HH := Hid.mk' h
  clear h
  go_enter Tryz.func123, Tryz.ntmps123
  go_wp2_with (go_at_call 142; refine (HS.out _ ?_).mono ?_; exact HH.out; rintro e w1 ⟨rfl, h1⟩; have H1 := Hid.mk' h1; clear h1 HS)
  go_ret
  exact ⟨rfl, H1.out⟩
end Go.Proofs.YtlncjgnomhpjnaaGreatDoor

