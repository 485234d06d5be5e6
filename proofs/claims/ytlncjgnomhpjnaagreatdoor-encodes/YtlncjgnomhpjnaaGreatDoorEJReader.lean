import Derived.Test.YtlncjgnomhpjnaaGreatDoorEJBase
import Derived.Laws.IdiomStrings
import Derived.Deep.OwnRows
import Derived.Deep.QuietTactic
import Derived.BigQuiet
import Derived.Lib.Bytealg
import Derived.Lib.Strings
import Derived.Lib.Walk
/-
  The reader of bits: bittext.Reader.
-/
namespace Go.Proofs.YtlncjgnomhpjnaaGreatDoor
open Go.RowKit Go.Deep
set_option linter.unusedVariables false

theorem ret_int {k : IntKind} {a b : Int} (h : a = b) : Ending.returned (.int k a) = .returned (.int k b) := by rw [h]

theorem Hid.mk' {p : Prop} (h : p) : Hid p := h

/-- a reader -/
def Rd (w : World) (B : Nat) (s : ByteArray) (p : Nat) : Prop := w.heap[B]? = some (.cells #[.string s, .int .i64 p] 211 (0, 0))
theorem Rd.c0 {w : World} {B : Nat} {s : ByteArray} {p : Nat} (h : Rd w B s p) : w.cell? ⟨B, 0, none⟩ = some (.string s) := by simp [World.cell?, show w.heap[B]? = _ from h]
theorem Rd.c1 {w : World} {B : Nat} {s : ByteArray} {p : Nat} (h : Rd w B s p) : w.cell? ⟨B, 1, none⟩ = some (.int .i64 p) := by simp [World.cell?, show w.heap[B]? = _ from h]
theorem Rd.f1 {w : World} {B : Nat} {s : ByteArray} {p : Nat} (h : Rd w B s p) : w.frozen? ⟨B, 1, none⟩ = false := by simp [World.frozen?, show w.heap[B]? = _ from h]
theorem Rd.lt {w : World} {B : Nat} {s : ByteArray} {p : Nat} (h : Rd w B s p) : B < w.heap.size := (Array.getElem?_eq_some_iff.1 h).1
theorem Rd.set {w : World} {B : Nat} {s : ByteArray} {p q : Nat} (h : Rd w B s p) {v : Value} (hv : v = .int .i64 q) : Rd (w.setCell ⟨B, 1, none⟩ v) B s q := by
  subst hv
  simp [Rd, World.setCell, Array.getElem?_modify, show w.heap[B]? = _ from h]
theorem Rd.of {w w' : World} {B : Nat} {s : ByteArray} {p : Nat} (h : Rd w B s p) (e : w'.heap[B]? = w.heap[B]?) : Rd w' B s p := e.trans h

/-- at most one block has turned; the rest is new -/
def Chg (B : Nat) (w w' : World) : Prop := w.grownBy w' (some B)
theorem Chg.refl (B : Nat) (w : World) : Chg B w w := ⟨rfl, rfl, rfl, Nat.le_refl _, fun _ _ _ => rfl⟩
theorem Chg.trans {B : Nat} {a b c : World} (h : Chg B a b) (k : Chg B b c) : Chg B a c :=
  ⟨k.os.trans h.os, k.tape.trans h.tape, k.output.trans h.output, Nat.le_trans h.size k.size, fun j hj hne => (k.block j (Nat.lt_of_lt_of_le hj h.size) hne).trans (h.block j hj hne)⟩
theorem Chg.drewN {B : Nat} {w w' : World} (h : Chg B w w') (m : Nat) : Chg B w (w'.drewN m) := ⟨h.os, h.tape, h.output, h.size, h.block⟩
theorem Chg.below {B : Nat} {w w' w'' : World} (h : Chg B w w') (k : Below w'.heap.size w' w'') : Chg B w w'' :=
  h.trans ⟨k.os, k.tape, k.output, k.size, fun j hj _ => k.block j hj⟩
theorem Chg.set {B : Nat} {w w' : World} (h : Chg B w w') (i : Nat) (v : Value) : Chg B w (w'.setCell ⟨B, i, none⟩ v) :=
  h.trans ⟨rfl, rfl, rfl, by rw [World.size_setCell]; exact Nat.le_refl _, fun j _ hne => blk_setCell_other _ _ _ _ (fun e => hne (by rw [e]))⟩
theorem Chg.toBelow {B A : Nat} {w w' : World} (h : Chg B w w') (hA : A ≤ B) (hs : A ≤ w.heap.size) : Below A w w' :=
  ⟨h.os, h.tape, h.output, h.size, fun k hk => h.block k (by omega) (fun e => by cases e; omega)⟩

theorem cell_bytes (s : ByteArray) (b : Nat → Bool) (p k c x y i : Nat) (w : World) (t : TypeId) (hb : Bits s b) (hle : p + k ≤ s.size) (hi : i < k) :
    (w.alloc (.cells (bytesRow (s.extract p (p + k)) c) t (x, y))).cell? ⟨w.heap.size, i, none⟩ = some (.int .u8 ((48 + (b (p + i)).toNat : Nat) : Int)) := by
  have h1 : (w.alloc (.cells (bytesRow (s.extract p (p + k)) c) t (x, y))).heap[w.heap.size]? = some (.cells (bytesRow (s.extract p (p + k)) c) t (x, y)) := blk_alloc_new _ _
  have hd : (s.extract p (p + k)).data = s.data.extract p (p + k) := by simp
  have hsz : i < (s.extract p (p + k)).data.size := by
    rw [hd, Array.size_extract]
    have : s.data.size = s.size := rfl
    omega
  simp only [World.cell?, h1]
  rw [bytesRow_at _ _ _ hsz]
  have e : (s.extract p (p + k)).data[i] = s[p + i]'(by omega) := by
    simp only [hd]
    rw [Array.getElem_extract]; rfl
  rw [e, hb, ltr_nat]
  simp

set_option maxHeartbeats 400000 in
theorem number_no (B : Nat) (s : ByteArray) (p k : Nat) (w : World) (hs : s.size ≤ 80000) (hp : p ≤ s.size) (hk : k ≤ 16) (hR : Rd w B s p) (hlt : s.size < p + k) :
    Calls Tryz.prog 154 #[.pointer (some ⟨B, 0, none⟩), .int .i64 k] w fun e w' => e = .returned (.tuple #[.int .i64 0, .bool false]) ∧ ∃ m, w' = w.drewN m := by
  have h0 := hR.c0
  have h1 := hR.c1
  go_enter Tryz.func154, Tryz.ntmps154
  go_wp2
  go_region
  all_goals go_wp2
  go_ret2
  exact ⟨rfl, 1, rfl⟩

set_option maxHeartbeats 1000000 in
theorem number_yes (B : Nat) (s : ByteArray) (b : Nat → Bool) (p k : Nat) (w : World) (hs : s.size ≤ 80000) (hk : k ≤ 16) (hR : Rd w B s p) (hle : p + k ≤ s.size) (hb : Bits s b) :
    Calls Tryz.prog 154 #[.pointer (some ⟨B, 0, none⟩), .int .i64 k] w fun e w' => e = .returned (.tuple #[.int .i64 (num b p k), .bool true]) ∧ Rd w' B s (p + k) ∧ Chg B w w' := by
  have h0 := hR.c0
  have h1 := hR.c1
  have HB : Hid (Bits s b) := hb
  clear hb
  have hcv := fun u : World => run_bytes_of_string (P := Tryz.prog) u 9 61 5 (s.extract p (p + k)) Tryz.underlying9 Tryz.underlying61 Tryz.underlying5
  have hcell : ∀ c x y i, i < k → (w.alloc (.cells (bytesRow (s.extract p (p + k)) c) 5 (x, y))).cell? ⟨w.heap.size, i, none⟩ = some (.int .u8 ((48 + (b (p + i)).toNat : Nat) : Int)) := fun c x y i hi =>
    cell_bytes s b p k c x y i w 5 HB.out hle hi
  have ha1 : ∀ o, (w.alloc o).cell? ⟨B, 1, none⟩ = some (.int .i64 p) := fun o => (World.cell?_alloc_lt w o ⟨B, 1, none⟩ hR.lt).trans h1
  have hf1 : ∀ o, (w.alloc o).frozen? ⟨B, 1, none⟩ = false := fun o => (World.frozen?_alloc_old w o ⟨B, 1, none⟩ (Nat.ne_of_lt hR.lt)).trans hR.f1
  go_enter Tryz.func154, Tryz.ntmps154
  go_wp2
  go_region
  all_goals go_wp2
  go_region
  all_goals go_wp2
  clear hcv
  go_loop [6, 8, 38] (fun v _ i => ∃ j : Nat, j ≤ k ∧ i = .int .i64 j ∧ v = .int .i64 (bitsNum (fun i => b (p + i)) j)) (fun _ _ i => k - (intOf i).toNat)
  case atStart => exact ⟨0, Nat.zero_le _, rfl, rfl⟩
  case round =>
    obtain ⟨j, hj, rfl, rfl⟩ := hrel
    by_cases hlt : j < k
    · have hcj := fun c x y => hcell c x y j hlt
      have HF : Hid (bitsNum (fun i => b (p + i)) (j + 1) = 2 * bitsNum (fun i => b (p + i)) j + (b (p + j)).toNat) := rfl
      have h3 := bitsNum_lt (fun i => b (p + i)) j
      have h4 : 2 ^ j ≤ 65536 := Nat.le_trans (Nat.pow_le_pow_right (by omega) (by omega : j ≤ 16)) (by decide)
      have h5 : bitsNum (fun i => b (p + i)) j < 65536 := by omega
      have h6 : (b (p + j)).toNat ≤ 1 := Bool.toNat_le _
      clear h3 h4
      go_wp2
      go_round
      case rel => exact ⟨j + 1, by omega, by go_num, by rw [HF.out]; go_num⟩
      case measure => simp [intOf]; omega
    · have e : j = k := by omega
      subst e
      go_wp2
      go_ret2
      refine ⟨rfl, Rd.set (Rd.of hR (blk_alloc_lt _ _ _ hR.lt)) (by go_num), ?_⟩
      exact ((((Chg.refl B w).below ((Below.refl _ _).alloc (Nat.le_refl _) _)).set 1 _).drewN 3)
end Go.Proofs.YtlncjgnomhpjnaaGreatDoor

/-
  The reader of bits: Signed, Rice, Taken, NewReader.
-/
namespace Go.Proofs.YtlncjgnomhpjnaaGreatDoor
open Go.RowKit Go.Deep
set_option linter.unusedVariables false

theorem index_range (b : Nat → Bool) : ∀ m p, Lib.indexByte ((List.range m).map fun i => ltr (b (p + i))) 49 = if zrun b m p < m then (zrun b m p : Int) else -1
  | 0, p => by simp [Lib.indexByte, zrun]
  | m + 1, p => by
    have ih := index_range b m (p + 1)
    rw [List.range_succ_eq_map, List.map_cons, List.map_map]
    have e : ((fun i => ltr (b (p + i))) ∘ Nat.succ) = fun i => ltr (b (p + 1 + i)) := by
      funext i; simp only [Function.comp]; congr 2; omega
    rw [e, Lib.indexByte, ih]
    have hz := zrun_le b m (p + 1)
    rw [Nat.add_zero]
    cases hb : b p
    · have h1 : (ltr false == 49) = false := rfl
      rw [h1, zrun, hb]
      by_cases h : zrun b m (p + 1) < m
      · have h2 : ((zrun b m (p + 1) : Int) == -1) = false := by simp
        have h3 : zrun b m (p + 1) + 1 < m + 1 := by omega
        simp [h, h2]
      · have h3 : ¬ zrun b m (p + 1) + 1 < m + 1 := by omega
        simp [h]
    · have h1 : (ltr true == 49) = true := rfl
      rw [h1, zrun, hb]
      simp

theorem extract_range (s : ByteArray) (b : Nat → Bool) (p : Nat) (hb : Bits s b) (hp : p ≤ s.size) : (s.extract p s.size).data.toList = (List.range (s.size - p)).map fun i => ltr (b (p + i)) := by
  have hd : (s.extract p s.size).data = s.data.extract p s.size := by simp
  have hs : s.data.size = s.size := rfl
  rw [hd]
  apply List.ext_getElem
  · simp
  · intro i h1 h2
    rw [Array.getElem_toList, Array.getElem_extract]
    simp only [List.getElem_map, List.getElem_range]
    have hi : i < s.size - p := by simpa using h2
    exact hb (p + i) (by omega)

set_option maxHeartbeats 400000 in
set_option maxRecDepth 100000 in
theorem liteIndex_any (s : ByteArray) (c : Int) (w : World) :
    Calls Tryz.prog 240 #[.string s, .int .u8 c] w fun e w' => e = .returned (.int .i64 (Lib.indexByte s.data.toList c.toNat.toUInt8)) ∧ w' = w := by
  go_enter Tryz.func240, Tryz.ntmps240
  go_wp2
  rw [run_callFunc_extern Tryz.func242 (by kernel_rfl) (by kernel_rfl) (by kernel_rfl) (e := Extern.BytealgIndexByte.indexByte) (by kernel_rfl), Lib.run_indexByteString]
  simp only [Result.andThen]
  rw [Oper.upon_value]
  go_wp2
  go_ret
  exact ⟨rfl, rfl⟩
theorem index_any (s : ByteArray) (c : Int) (w : World) :
    Calls Tryz.prog 233 #[.string s, .int .u8 c] w fun e w' => e = .returned (.int .i64 (Lib.indexByte s.data.toList c.toNat.toUInt8)) ∧ w' = w := by
  go_enter Tryz.func233, Tryz.ntmps233
  go_wp2_with (go_at_call 240; refine (liteIndex_any _ _ _).mono ?_; rintro e w' ⟨rfl, rfl⟩)
  go_ret
  exact ⟨rfl, rfl⟩

theorem ipow_le (d m : Nat) (h : 2 ^ d ≤ m) : (2 : Int) ^ d ≤ (m : Int) := by
  have e : ((2 ^ d : Nat) : Int) = (2 : Int) ^ d := by simp
  rw [← e]; exact Int.ofNat_le.2 h
theorem ipow_pos (d : Nat) : (1 : Int) ≤ 2 ^ d := by have : 0 < 2 ^ d := Nat.two_pow_pos _; exact_mod_cast this
theorem ipow_cast (d : Nat) : ((2 ^ d : Nat) : Int) = (2 : Int) ^ d := by simp

set_option maxHeartbeats 400000 in
theorem signed_no (B : Nat) (s : ByteArray) (p k : Nat) (w : World) (hs : s.size ≤ 80000) (hp : p ≤ s.size) (hk : k ≤ 16) (hR : Rd w B s p) (hlt : s.size < p + k) :
    Calls Tryz.prog 198 #[.pointer (some ⟨B, 0, none⟩), .int .i64 k] w fun e w' => e = .returned (.tuple #[.int .i64 0, .bool false]) ∧ ∃ m, w' = w.drewN m := by
  go_enter Tryz.func198, Tryz.ntmps198
  go_wp2_with (go_at_call 154; refine (number_no B s p k _ hs hp hk hR hlt).mono ?_; rintro e w' ⟨rfl, m, rfl⟩)
  go_ret2
  exact ⟨rfl, m, rfl⟩

set_option maxHeartbeats 400000 in
theorem signed_yes (B : Nat) (s : ByteArray) (b : Nat → Bool) (p k : Nat) (w : World) (hs : s.size ≤ 80000) (hk1 : 1 ≤ k) (hk : k ≤ 16) (hR : Rd w B s p) (hle : p + k ≤ s.size) (hb : Bits s b) :
    Calls Tryz.prog 198 #[.pointer (some ⟨B, 0, none⟩), .int .i64 k] w fun e w' => e = .returned (.tuple #[.int .i64 (sgn b p k), .bool true]) ∧ Rd w' B s (p + k) ∧ Chg B w w' := by
  have hN := number_yes B s b p k w hs hk hR hle hb
  have q1 := ipow_pos (k - 1)
  have q2 := ipow_le (k - 1) 32768 (Nat.le_trans (Nat.pow_le_pow_right (by omega) (by omega : k - 1 ≤ 15)) (by decide))
  have q3 := ipow_pos k
  have q4 := ipow_le k 65536 (Nat.le_trans (Nat.pow_le_pow_right (by omega) (by omega : k ≤ 16)) (by decide))
  have q5 : num b p k < 65536 := Nat.lt_of_lt_of_le (num_lt b p k) (Nat.le_trans (Nat.pow_le_pow_right (by omega) (by omega : k ≤ 16)) (by decide))
  have HS : Hid (sgn b p k = if 2 ^ (k - 1) ≤ num b p k then (num b p k : Int) - 2 ^ k else num b p k) := rfl
  clear hb
  by_cases h : 2 ^ (k - 1) ≤ num b p k
  · have h1 : (2 : Int) ^ (k - 1) ≤ (num b p k : Int) := by rw [← ipow_cast]; exact Int.ofNat_le.2 h
    go_enter Tryz.func198, Tryz.ntmps198
    go_wp2_with (go_at_call 154; refine hN.mono ?_; rintro e w' ⟨rfl, hR', hC⟩)
    go_ret2
    exact ⟨by rw [HS.out, if_pos h]; rfl, hR', hC⟩
  · have h1 : (num b p k : Int) < (2 : Int) ^ (k - 1) := by rw [← ipow_cast]; exact Int.ofNat_lt.2 (by omega)
    go_enter Tryz.func198, Tryz.ntmps198
    go_wp2_with (go_at_call 154; refine hN.mono ?_; rintro e w' ⟨rfl, hR', hC⟩)
    go_ret2
    exact ⟨by rw [HS.out, if_neg h]; rfl, hR', hC⟩

theorem taken_any (B : Nat) (s : ByteArray) (p : Nat) (w : World) (hR : Rd w B s p) :
    Calls Tryz.prog 156 #[.pointer (some ⟨B, 0, none⟩)] w fun e w' => e = .returned (.int .i64 p) ∧ w' = w := by
  have h1 := hR.c1
  go_enter Tryz.func156, Tryz.ntmps156
  go_wp2
  go_ret
  exact ⟨rfl, rfl⟩
theorem newReader_any (s : ByteArray) (w : World) :
    Calls Tryz.prog 153 #[.string s] w fun e w' => e = .returned (.pointer (some ⟨w.heap.size, 0, none⟩)) ∧ Rd w' w.heap.size s 0 ∧ Below w.heap.size w w' := by
  go_enter Tryz.func153, Tryz.ntmps153
  go_wp2
  go_ret
  exact ⟨rfl, blk_alloc_new _ _, (Below.refl _ _).alloc (Nat.le_refl _) _⟩

theorem unfold_any (f : Nat) (w : World) (hf : f ≤ 4294967296) :
    Calls Tryz.prog 234 #[.int .i64 f] w fun e w' => e = .returned (.int .i64 (unf f)) ∧ w' = w := by
  have HU : Hid (unf f = if f % 2 = 0 then (f : Int) / 2 else -(((f : Int) + 1) / 2)) := rfl
  by_cases h : f % 2 = 0
  · have h1 : ((f : Int) % 2 == 0) = true := by simp; omega
    go_enter Tryz.func234, Tryz.ntmps234
    go_wp2
    go_ret
    exact ⟨ret_int (by rw [HU.out, if_pos h]), rfl⟩
  · have h1 : ((f : Int) % 2 == 0) = false := by simp; omega
    go_enter Tryz.func234, Tryz.ntmps234
    go_wp2
    go_ret
    refine ⟨ret_int ?_, rfl⟩
    rw [HU.out, if_neg h, Int.tdiv_eq_ediv_of_nonneg (by omega)]
    exact IntWalk.wrap64_in _ ⟨by omega, by omega⟩

theorem index_yes (s : ByteArray) (b : Nat → Bool) (p q : Nat) (w : World) (hb : Bits s b) (hp : p ≤ s.size) (hq : zrun b (s.size - p) p = q) (h : q < s.size - p) :
    Calls Tryz.prog 233 #[.string (s.extract p s.size), .int .u8 49] w fun e w' => e = .returned (.int .i64 (q : Int)) ∧ w' = w := by
  refine (index_any _ _ w).mono fun e w' h' => ⟨h'.1.trans (ret_int ?_), h'.2⟩
  rw [extract_range s b p hb hp]
  refine (index_range b _ p).trans ?_
  rw [hq, if_pos h]
theorem index_no (s : ByteArray) (b : Nat → Bool) (p : Nat) (w : World) (hb : Bits s b) (hp : p ≤ s.size) (h : ¬ zrun b (s.size - p) p < s.size - p) :
    Calls Tryz.prog 233 #[.string (s.extract p s.size), .int .u8 49] w fun e w' => e = .returned (.int .i64 (-1)) ∧ w' = w := by
  refine (index_any _ _ w).mono fun e w' h' => ⟨h'.1.trans (ret_int ?_), h'.2⟩
  rw [extract_range s b p hb hp]
  refine (index_range b _ p).trans ?_
  rw [if_neg h]

set_option maxHeartbeats 1000000 in
theorem rice_no (B : Nat) (s : ByteArray) (b : Nat → Bool) (p k : Nat) (w : World) (hs : s.size ≤ 80000) (hp : p ≤ s.size) (hk : k ≤ 14) (hR : Rd w B s p) (hb : Bits s b) (hno : rice b s.size k p = none) :
    Calls Tryz.prog 224 #[.pointer (some ⟨B, 0, none⟩), .int .i64 k] w fun e w' => e = .returned (.tuple #[.int .i64 0, .bool false]) ∧ (∃ q, q ≤ s.size ∧ Rd w' B s q) ∧ Chg B w w' := by
  have hno' : ¬ p + zrun b (s.size - p) p + 1 + k ≤ s.size := by
    intro h; simp [rice, h] at hno
  clear hno
  have h0 := hR.c0
  have h1 := hR.c1
  have f1 := hR.f1
  by_cases hfound : zrun b (s.size - p) p < s.size - p
  · have HIX := fun u => index_yes s b p _ u hb hp rfl hfound
    generalize zrun b (s.size - p) p = q at *
    have HN : Hid (∀ m, Calls Tryz.prog 154 #[.pointer (some ⟨B, 0, none⟩), .int .i64 k] ((w.drewN m).setCell ⟨B, 1, none⟩ (.int .i64 ((p : Int) + ((q : Int) + 1)))) fun e w' => e = .returned (.tuple #[.int .i64 0, .bool false]) ∧ ∃ j, w' = ((w.drewN m).setCell ⟨B, 1, none⟩ (.int .i64 ((p : Int) + ((q : Int) + 1)))).drewN j) := fun m =>
      number_no B s (p + (q + 1)) k _ hs (by omega) (by omega) (Rd.set (Rd.of hR rfl) (by go_num)) (by omega)
    have HC : Hid (∀ m j, Rd (((w.drewN m).setCell ⟨B, 1, none⟩ (.int .i64 ((p : Int) + ((q : Int) + 1)))).drewN j) B s (p + (q + 1)) ∧ Chg B w (((w.drewN m).setCell ⟨B, 1, none⟩ (.int .i64 ((p : Int) + ((q : Int) + 1)))).drewN j)) := fun m j =>
      ⟨Rd.set (Rd.of hR rfl) (by go_num), (((Chg.refl B w).drewN m).set 1 _).drewN j⟩
    have HIXX : Hid _ := HIX
    clear HIX hb hR
    go_enter Tryz.func224, Tryz.ntmps224
    go_wp2
    go_quiet ((go_at_call 233; exact Calls.quiet_of_same (HIXX.out _)))
    go_wp2_with (go_at_call 154; refine (HN.out _).mono ?_; rintro e w' ⟨rfl, j, rfl⟩)
    go_ret2
    exact ⟨rfl, ⟨_, by omega, (HC.out _ _).1⟩, (HC.out _ _).2⟩
  · have HIXX : Hid _ := fun u => index_no s b p u hb hp hfound
    go_enter Tryz.func224, Tryz.ntmps224
    go_wp2
    go_quiet ((go_at_call 233; exact Calls.quiet_of_same (HIXX.out _)))
    go_wp2
    go_ret2
    exact ⟨rfl, ⟨p, hp, hR⟩, (Chg.refl _ _).drewN _⟩

set_option maxHeartbeats 1000000 in
theorem rice_yes (B : Nat) (s : ByteArray) (b : Nat → Bool) (p k : Nat) (w : World) (hs : s.size ≤ 80000) (hp : p ≤ s.size) (hk : k ≤ 14) (hR : Rd w B s p) (hb : Bits s b) (v : Int) (p' : Nat) (hyes : rice b s.size k p = some (v, p')) :
    Calls Tryz.prog 224 #[.pointer (some ⟨B, 0, none⟩), .int .i64 k] w fun e w' => e = .returned (.tuple #[.int .i64 v, .bool true]) ∧ Rd w' B s p' ∧ Chg B w w' := by
  have hz := zrun_le b (s.size - p) p
  have hle : p + zrun b (s.size - p) p + 1 + k ≤ s.size := by
    by_cases h : p + zrun b (s.size - p) p + 1 + k ≤ s.size
    · exact h
    · simp [rice, h] at hyes
  simp only [rice, if_pos hle, Option.some.injEq, Prod.mk.injEq] at hyes
  obtain ⟨rfl, rfl⟩ := hyes
  have h0 := hR.c0
  have h1 := hR.c1
  have f1 := hR.f1
  have HIX := fun u => index_yes s b p _ u hb hp rfl (show zrun b (s.size - p) p < s.size - p by omega)
  generalize zrun b (s.size - p) p = q at *
  have e1 : p + q + 1 = p + (q + 1) := by omega
  rw [e1] at hle
  have HN : Hid (∀ m, Calls Tryz.prog 154 #[.pointer (some ⟨B, 0, none⟩), .int .i64 k] ((w.drewN m).setCell ⟨B, 1, none⟩ (.int .i64 ((p : Int) + ((q : Int) + 1)))) fun e w' => e = .returned (.tuple #[.int .i64 (num b (p + (q + 1)) k), .bool true]) ∧ Rd w' B s (p + (q + 1) + k) ∧ Chg B w w') := fun m =>
    (number_yes B s b (p + (q + 1)) k ((w.drewN m).setCell ⟨B, 1, none⟩ (.int .i64 ((p : Int) + ((q : Int) + 1)))) hs (by omega) (Rd.set (Rd.of hR rfl) (by go_num)) hle hb).mono fun e w' h => ⟨h.1, h.2.1, (((Chg.refl B w).drewN m).set 1 _).trans h.2.2⟩
  have HIXX : Hid _ := HIX
  have q4 := ipow_le k 16384 (Nat.le_trans (Nat.pow_le_pow_right (by omega) (by omega : k ≤ 14)) (by decide))
  have q3 := ipow_pos k
  have q5 : num b (p + (q + 1)) k < 16384 := Nat.lt_of_lt_of_le (num_lt b _ k) (Nat.le_trans (Nat.pow_le_pow_right (by omega) (by omega : k ≤ 14)) (by decide))
  have q6 : (q : Int) * 2 ^ k ≤ 80000 * 16384 := Int.mul_le_mul (by omega) q4 (by omega) (by omega)
  have q7 : 0 ≤ (q : Int) * 2 ^ k := Int.mul_nonneg (by omega) (by omega)
  have HU : Hid (∀ u, Calls Tryz.prog 234 #[.int .i64 ((q : Int) * 2 ^ k + (num b (p + (q + 1)) k : Int))] u fun e w' => e = .returned (.int .i64 (unf (q * 2 ^ k + num b (p + (q + 1)) k))) ∧ w' = u) := fun u => by
    have e : ((q : Int) * 2 ^ k + (num b (p + (q + 1)) k : Int)) = ((q * 2 ^ k + num b (p + (q + 1)) k : Nat) : Int) := by simp
    rw [e]
    refine unfold_any _ u ?_
    have : q * 2 ^ k ≤ 80000 * 16384 := Nat.mul_le_mul (by omega) (Nat.le_trans (Nat.pow_le_pow_right (by omega) (by omega : k ≤ 14)) (by decide))
    omega
  rw [e1]
  clear HIX hb hR
  go_enter Tryz.func224, Tryz.ntmps224
  go_wp2
  go_quiet ((go_at_call 233; exact Calls.quiet_of_same (HIXX.out _)))
  go_wp2_with (first
    | (go_at_call 154; refine (HN.out _).mono ?_; rintro e w' ⟨rfl, hR', hC⟩)
    | (go_at_call 234; refine (HU.out _).mono ?_; rintro e w' ⟨rfl, rfl⟩))
  go_ret2
  exact ⟨rfl, hR', hC⟩
end Go.Proofs.YtlncjgnomhpjnaaGreatDoor

/-
  Guesses of the program: subframe.guesser.
-/
namespace Go.Proofs.YtlncjgnomhpjnaaGreatDoor
open Go.RowKit Go.Deep
set_option linter.unusedVariables false

def sel4 (w0 w1 w2 w3 : Int) (j : Nat) : Int := if j = 0 then w0 else if j = 1 then w1 else if j = 2 then w2 else if j = 3 then w3 else 0
theorem sel4_cell (o sc w0 w1 w2 w3 : Int) (w : World) (t : TypeId) (i : Nat) (hi : i < 4) :
    (w.alloc (.cells #[.int .i64 o, .int .i64 w0, .int .i64 w1, .int .i64 w2, .int .i64 w3, .int .i64 sc] t)).cell? ⟨w.heap.size, 1 + i, none⟩ = some (.int .i64 (sel4 w0 w1 w2 w3 i)) := by
  rw [World.cell?_alloc_new]
  match i, hi with
  | 0, _ => rfl
  | 1, _ => rfl
  | 2, _ => rfl
  | 3, _ => rfl
theorem sel4_bd {w0 w1 w2 w3 : Int} (h0 : -32 ≤ w0 ∧ w0 ≤ 32) (h1 : -32 ≤ w1 ∧ w1 ≤ 32) (h2 : -32 ≤ w2 ∧ w2 ≤ 32) (h3 : -32 ≤ w3 ∧ w3 ≤ 32) (j : Nat) : -32 ≤ sel4 w0 w1 w2 w3 j ∧ sel4 w0 w1 w2 w3 j ≤ 32 := by
  unfold sel4
  split
  · exact h0
  · split
    · exact h1
    · split
      · exact h2
      · split
        · exact h3
        · omega
theorem mul_bd {u v : Int} (hu : -32 ≤ u ∧ u ≤ 32) (hv : -4096 ≤ v ∧ v ≤ 4096) : -131072 ≤ u * v ∧ u * v ≤ 131072 := by
  have h := Int.natAbs_mul u v
  have h1 : u.natAbs ≤ 32 := by omega
  have h2 : v.natAbs ≤ 4096 := by omega
  have h3 : u.natAbs * v.natAbs ≤ 32 * 4096 := Nat.mul_le_mul h1 h2
  omega
theorem sumG_bd {w x : Nat → Int} {i : Nat} (hw : ∀ j, -32 ≤ w j ∧ w j ≤ 32) (hx : ∀ j, j < i → -4096 ≤ x j ∧ x j ≤ 4096) (hi : 0 < i) : ∀ m : Nat, -131072 * (m : Int) ≤ sumG w x i m ∧ sumG w x i m ≤ 131072 * (m : Int)
  | 0 => by simp [sumG]
  | m + 1 => by
    have := sumG_bd hw hx hi m
    have h := mul_bd (hw m) (hx (i - 1 - m) (by omega))
    simp only [sumG]
    omega

set_option maxHeartbeats 1000000 in
theorem guess_any (o sc : Nat) (w0 w1 w2 w3 : Int) (a : Option Addr) (n c : Nat) (x : Nat → Int) (w : World) (ho : o ≤ 4) (hon : o ≤ n) (hsc : sc ≤ 3) (hn : n ≤ 32)
    (k0 : -32 ≤ w0 ∧ w0 ≤ 32) (k1 : -32 ≤ w1 ∧ w1 ≤ 32) (k2 : -32 ≤ w2 ∧ w2 ≤ 32) (k3 : -32 ≤ w3 ∧ w3 ≤ 32) (hX : ∀ j, j < n → -4096 ≤ x j ∧ x j ≤ 4096)
    (hI : IntsAt w a n x) (hlow : ∀ y, a = some y → 0 < n → y.block < w.heap.size) :
    Calls Tryz.prog 213 #[.agg #[.int .i64 o, .int .i64 w0, .int .i64 w1, .int .i64 w2, .int .i64 w3, .int .i64 sc], .slice a n c] w fun e w' =>
      e = .returned (.int .i64 (sumG (sel4 w0 w1 w2 w3) x n o / 2 ^ sc)) ∧ Below w.heap.size w w' := by
  obtain ⟨W, hWe⟩ : ∃ W, W = w.alloc (.cells #[.int .i64 o, .int .i64 w0, .int .i64 w1, .int .i64 w2, .int .i64 w3, .int .i64 sc] 201) := ⟨_, rfl⟩
  have hb : Below w.heap.size w W := by rw [hWe]; exact (Below.refl _ _).alloc (Nat.le_refl _) _
  have HB : Hid (∀ m, Below w.heap.size w (World.drewN (w.alloc (.cells #[.int .i64 o, .int .i64 w0, .int .i64 w1, .int .i64 w2, .int .i64 w3, .int .i64 sc] 201)) m)) := fun m => by
    rw [← hWe]; exact ⟨hb.os, hb.tape, hb.output, hb.size, hb.block⟩
  have HI : Hid (IntsAt (w.alloc (.cells #[.int .i64 o, .int .i64 w0, .int .i64 w1, .int .i64 w2, .int .i64 w3, .int .i64 sc] 201)) a n x) := by
    intro i hi
    obtain ⟨y, hy, hc⟩ := hI i hi
    refine ⟨y, hy, ?_⟩
    rw [← hWe, hb.cell (by have := hlow y hy (by omega); cases i <;> simpa [Addr.add] using this), hc]
  clear hWe hb hI hlow
  have HS := sumG_bd (w := sel4 w0 w1 w2 w3) (x := x) (i := n) (sel4_bd k0 k1 k2 k3)
  have HX : Hid (∀ j, j < n → -4096 ≤ x j ∧ x j ≤ 4096) := hX
  have HM : Hid (∀ j, -32 ≤ sel4 w0 w1 w2 w3 j ∧ sel4 w0 w1 w2 w3 j ≤ 32) := sel4_bd k0 k1 k2 k3
  clear hX k0 k1 k2 k3
  have hHS : Hid _ := HS
  clear HS
  go_enter Tryz.func213, Tryz.ntmps213
  go_wp2
  go_loopw [5, 6, 9] (fun v _ i wr => ∃ j : Nat, j ≤ o ∧ i = .int .i64 j ∧ v = .int .i64 (sumG (sel4 w0 w1 w2 w3) x n j) ∧ ∃ m, wr = World.drewN (w.alloc (.cells #[.int .i64 o, .int .i64 w0, .int .i64 w1, .int .i64 w2, .int .i64 w3, .int .i64 sc] 201)) m) (fun _ _ i _ => o - (intOf i).toNat)
  case atStart => exact ⟨0, Nat.zero_le _, rfl, rfl, 0, rfl⟩
  case round =>
    obtain ⟨j, hj, rfl, rfl, m, rfl⟩ := hrel
    by_cases hlt : j < o
    · obtain ⟨b, off, hx, hc⟩ := HI.out.open (by omega)
      cases hx
      have hc1 := hc (n - 1 - j) (by omega)
      have hc2 := sel4_cell (o : Int) (sc : Int) w0 w1 w2 w3 w 201 j (by omega)
      have hmb := mul_bd (HM.out j) (HX.out (n - 1 - j) (by omega))
      have hsb := hHS.out HX.out (by omega) j
      have HE : Hid (sumG (sel4 w0 w1 w2 w3) x n (j + 1) = sumG (sel4 w0 w1 w2 w3) x n j + sel4 w0 w1 w2 w3 j * x (n - 1 - j)) := rfl
      clear hc
      go_wp2
      go_region
      all_goals go_wp2
      go_roundw
      case rel => exact ⟨j + 1, by omega, by go_num, by rw [HE.out], _, rfl⟩
      case measure => simp [intOf]; omega
    · have e : j = o := by omega
      subst e
      go_wp2
      go_ret
      exact ⟨ret_int rfl, HB.out _⟩
end Go.Proofs.YtlncjgnomhpjnaaGreatDoor

