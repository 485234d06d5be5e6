import Derived.Test.YtlncjgnomhpjnabGreatDoorChecked
import GoSem.Claim
import GoSem.ClaimJoined
import GoSem.ClaimMapViews
import Derived.JoinedTies
import Derived.KernelRfl
import Derived.RowKit
import Derived.WalkKit
import Derived.WalkSpells
import Derived.WalkLawsBesides
import Derived.Laws.IdiomStrings
import Derived.Deep.OwnRows
import Derived.Deep.QuietTactic
import Derived.BigQuiet
import Derived.Lib.Bytealg
import Derived.Lib.Strings
import Derived.Lib.Walk
import Derived.Laws.CopyOwn
/-
  Small laws for worlds that only grow, and for rows of bytes that a call has made.
-/
namespace Go.Proofs.YtlncjgnomhpjnabGreatDoor
open Go.RowKit
/-- the string that bytes make -/
def strOf (f : Nat → UInt8) (n : Nat) : ByteArray := ⟨((List.range n).map f).toArray⟩
theorem fold_push : ∀ (l : List UInt8) (s : ByteArray), l.foldl (fun r n => r.push n) s = ⟨s.data ++ l.toArray⟩
  | [], s => by simp
  | c :: l, s => by
    rw [List.foldl_cons, fold_push l]
    congr 1
    simp [ByteArray.push]
/-- 'string(b)' of such a row, or of its end -/
theorem run_rowString {P : Program} (w : World) (src dst e : TypeId) (b o n c : Nat) (f : Nat → UInt8)
    (hs : P.underlying src = some (.slice e)) (he : P.underlying e = some (.int .u8)) (hd : P.underlying dst = some .string)
    (h : ∀ j, j < n → w.cell? ⟨b, o + j, none⟩ = some (.int .u8 ((f j).toNat : Int))) :
    (convert src dst (.slice (some ⟨b, o, none⟩) n c)).run P w = .ok (.string (strOf f n)) w := by
  rw [run_convert_bytes_string w src dst e _ _ _ hs he hd]
  have hl := run_loadCells (P := P) w ⟨b, o, none⟩ n (fun j => .int .u8 ((f j).toNat : Int)) (fun j hj => by rw [← h j hj]; cases j <;> simp [Addr.add])
  have e1 : ((List.range n).map fun j => Value.int .u8 ((f j).toNat : Int)) = ((List.range n).map fun j => ((f j).toNat : Int)).map (Value.int .u8) := by simp
  rw [e1] at hl
  rw [run_bytesToString w ⟨b, o, none⟩ n c _ hl]
  congr 2
  have e2 : ∀ (l : List Nat) (s : ByteArray), (l.map fun j => ((f j).toNat : Int)).foldl (fun r n => r.push (UInt8.ofNat n.toNat)) s = (l.map f).foldl (fun r n => r.push n) s := by
    intro l
    induction l with
    | nil => intro s; rfl
    | cons x l ih => intro s; simp only [List.map_cons, List.foldl_cons]; rw [ih]; simp
  rw [e2, fold_push]
  simp [strOf]
end Go.Proofs.YtlncjgnomhpjnabGreatDoor

/-
  Plain mathematics for 'Reads': what a subframe says, by places in a text of bits. No dump is imported.
-/
namespace Go.Proofs.YtlncjgnomhpjnabGreatDoor
/-- the number that n bits say -/
def bitsNum (f : Nat → Bool) : Nat → Nat
  | 0 => 0
  | n + 1 => 2 * bitsNum f n + (f n).toNat
theorem bitsNum_lt (f : Nat → Bool) : ∀ n, bitsNum f n < 2 ^ n
  | 0 => by simp [bitsNum]
  | n + 1 => by
    have := bitsNum_lt f n
    have h : (f n).toNat ≤ 1 := Bool.toNat_le _
    simp only [bitsNum, Nat.pow_succ]; omega
/-- a letter for a bit -/
def ltr (b : Bool) : UInt8 := if b then 49 else 48
theorem ltr_nat (b : Bool) : (ltr b).toNat = 48 + b.toNat := by cases b <;> rfl
/-- how often each of the samples ahead is taken -/
def tab (r c : Nat) : Int :=
  match r, c with
  | 1, 0 => 1
  | 2, 0 => 2
  | 2, 1 => -1
  | 3, 0 => 3
  | 3, 1 => -3
  | 3, 2 => 1
  | 4, 0 => 4
  | 4, 1 => -6
  | 4, 2 => 4
  | 4, 3 => -1
  | _, _ => 0
def ord (kind : Nat) : Nat := if kind = 7 then 2 else kind - 2
/-- by how many bits a kind's weighted sum is divided -/
def scl (kind : Nat) : Nat := if kind = 7 then 3 else 0
def wt (kind : Nat) (a c : Int) (j : Nat) : Int := if kind = 7 then (if j = 0 then a else if j = 1 then c else 0) else tab (kind - 2) j
def sumG (w : Nat → Int) (x : Nat → Int) (i : Nat) : Nat → Int
  | 0 => 0
  | m + 1 => sumG w x i m + w m * x (i - 1 - m)
def guessG (kind : Nat) (a c : Int) (x : Nat → Int) (i : Nat) : Int := sumG (wt kind a c) x i (ord kind) / (if kind = 7 then 8 else 1)
def within (v lo hi : Int) : Bool := decide (lo ≤ v) && decide (v ≤ hi)
theorem within_iff (v lo hi : Int) : within v lo hi = true ↔ lo ≤ v ∧ v ≤ hi := by simp [within]
def fitsB (d : Nat) (v : Int) : Bool := within v (-(2 ^ (d - 1))) (2 ^ (d - 1) - 1)
theorem pow12 {d : Nat} (h : d ≤ 13) : (2 : Int) ^ (d - 1) ≤ 4096 := by
  have h1 : 2 ^ (d - 1) ≤ 4096 := Nat.le_trans (Nat.pow_le_pow_right (by omega) (by omega : d - 1 ≤ 12)) (by decide)
  have e : ((2 ^ (d - 1) : Nat) : Int) = (2 : Int) ^ (d - 1) := by simp
  rw [← e]; exact Int.ofNat_le.2 h1
theorem fits_bd {d : Nat} {v : Int} (h : fitsB d v = true) (hd : d ≤ 13) : -4096 ≤ v ∧ v ≤ 4096 := by
  unfold fitsB at h
  rw [within_iff] at h
  have := pow12 hd
  omega
/-- where a reading is -/
structure St where
  p : Nat
  k : Nat
  x : Nat → Int
end Go.Proofs.YtlncjgnomhpjnabGreatDoor

/-
  The reader of bits: bittext.Reader.
-/
namespace Go.Proofs.YtlncjgnomhpjnabGreatDoor
open Go.RowKit Go.Deep
set_option linter.unusedVariables false
theorem ret_int {k : IntKind} {a b : Int} (h : a = b) : Ending.returned (.int k a) = .returned (.int k b) := by rw [h]
theorem Hid.mk' {p : Prop} (h : p) : Hid p := h
end Go.Proofs.YtlncjgnomhpjnabGreatDoor

/-
  The reader of bits: Signed, Rice, Taken, NewReader.
-/
namespace Go.Proofs.YtlncjgnomhpjnabGreatDoor
open Go.RowKit Go.Deep
set_option linter.unusedVariables false
theorem ipow_le (d m : Nat) (h : 2 ^ d ≤ m) : (2 : Int) ^ d ≤ (m : Int) := by
  have e : ((2 ^ d : Nat) : Int) = (2 : Int) ^ d := by simp
  rw [← e]; exact Int.ofNat_le.2 h
theorem ipow_pos (d : Nat) : (1 : Int) ≤ 2 ^ d := by have : 0 < 2 ^ d := Nat.two_pow_pos _; exact_mod_cast this
end Go.Proofs.YtlncjgnomhpjnabGreatDoor

/-
  The lists that are lent: 'lend', 'whole', 'spoil', 'shows'.
-/
namespace Go.Proofs.YtlncjgnomhpjnabGreatDoor
open Go.RowKit Go.Deep
theorem infoInt : (Tryz.prog.info? 3).map (fun i => (i.zero, i.size, i.bytes)) = some (some (.int .i64 0), 1, 8) := by kernel_rfl
/-- what a slice of numbers holds -/
def IntsAt (w : World) (a : Option Addr) (n : Nat) (f : Nat → Int) : Prop := ∀ i, i < n → ∃ x, a = some x ∧ w.cell? (x.add i) = some (.int .i64 (f i))
theorem IntsAt.open {w : World} {a : Option Addr} {n : Nat} {f : Nat → Int} (h : IntsAt w a n f) (hn : 0 < n) :
    ∃ b off, a = some ⟨b, off, none⟩ ∧ ∀ i, i < n → w.cell? ⟨b, off + i, none⟩ = some (.int .i64 (f i)) := by
  obtain ⟨⟨b, off, sp⟩, rfl, hc⟩ := h 0 hn
  have hs : sp = none := by simpa [Addr.add] using World.cell?_spot hc
  subst hs
  refine ⟨b, off, rfl, fun i hi => ?_⟩
  obtain ⟨x, hx, hc⟩ := h i hi
  cases hx
  rw [← hc]
  cases i <;> simp [Addr.add]
/-- only one block has turned -/
structure Only (b : Nat) (w w' : World) : Prop where
  os : w'.os = w.os
  tape : w'.tape = w.tape
  output : w'.output = w.output
  size : w'.heap.size = w.heap.size
  block : ∀ k, k ≠ b → w'.heap[k]? = w.heap[k]?
end Go.Proofs.YtlncjgnomhpjnabGreatDoor

/-
  Guesses of the program: subframe.guesser.
-/
namespace Go.Proofs.YtlncjgnomhpjnabGreatDoor
open Go.RowKit Go.Deep
set_option linter.unusedVariables false
def sel4 (w0 w1 w2 w3 : Int) (j : Nat) : Int := if j = 0 then w0 else if j = 1 then w1 else if j = 2 then w2 else if j = 3 then w3 else 0
theorem sel4_cell (o sc w0 w1 w2 w3 : Int) (w : World) (t : TypeId) (i : Nat) (hi : i < 4) :
    (w.alloc (.cells #[.int .i64 o, .int .i64 w0, .int .i64 w1, .int .i64 w2, .int .i64 w3, .int .i64 sc] t)).cell? ⟨w.heap.size, 1 + i, none⟩ = some (.int .i64 (sel4 w0 w1 w2 w3 i)) := by
  rw [World.cell?_alloc_new]
  match i, hi with
  | 0, _ => rfl
  | 1, _ => rfl
  | 2, _ => rfl
  | 3, _ => rfl
theorem sel4_bd {w0 w1 w2 w3 : Int} (h0 : -32 ≤ w0 ∧ w0 ≤ 32) (h1 : -32 ≤ w1 ∧ w1 ≤ 32) (h2 : -32 ≤ w2 ∧ w2 ≤ 32) (h3 : -32 ≤ w3 ∧ w3 ≤ 32) (j : Nat) : -32 ≤ sel4 w0 w1 w2 w3 j ∧ sel4 w0 w1 w2 w3 j ≤ 32 := by
  unfold sel4
  split
  · exact h0
  · split
    · exact h1
    · split
      · exact h2
      · split
        · exact h3
        · omega
theorem mul_bd {u v : Int} (hu : -32 ≤ u ∧ u ≤ 32) (hv : -4096 ≤ v ∧ v ≤ 4096) : -131072 ≤ u * v ∧ u * v ≤ 131072 := by
  have h := Int.natAbs_mul u v
  have h1 : u.natAbs ≤ 32 := by omega
  have h2 : v.natAbs ≤ 4096 := by omega
  have h3 : u.natAbs * v.natAbs ≤ 32 * 4096 := Nat.mul_le_mul h1 h2
  omega
theorem sumG_bd {w x : Nat → Int} {i : Nat} (hw : ∀ j, -32 ≤ w j ∧ w j ≤ 32) (hx : ∀ j, j < i → -4096 ≤ x j ∧ x j ≤ 4096) (hi : 0 < i) : ∀ m : Nat, -131072 * (m : Int) ≤ sumG w x i m ∧ sumG w x i m ≤ 131072 * (m : Int)
  | 0 => by simp [sumG]
  | m + 1 => by
    have := sumG_bd hw hx hi m
    have h := mul_bd (hw m) (hx (i - 1 - m) (by omega))
    simp only [sumG]
    omega
set_option maxHeartbeats 1000000 in
theorem guess_any (o sc : Nat) (w0 w1 w2 w3 : Int) (a : Option Addr) (n c : Nat) (x : Nat → Int) (w : World) (ho : o ≤ 4) (hon : o ≤ n) (hsc : sc ≤ 3) (hn : n ≤ 32)
    (k0 : -32 ≤ w0 ∧ w0 ≤ 32) (k1 : -32 ≤ w1 ∧ w1 ≤ 32) (k2 : -32 ≤ w2 ∧ w2 ≤ 32) (k3 : -32 ≤ w3 ∧ w3 ≤ 32) (hX : ∀ j, j < n → -4096 ≤ x j ∧ x j ≤ 4096)
    (hI : IntsAt w a n x) (hlow : ∀ y, a = some y → 0 < n → y.block < w.heap.size) :
    Calls Tryz.prog 318 #[.agg #[.int .i64 o, .int .i64 w0, .int .i64 w1, .int .i64 w2, .int .i64 w3, .int .i64 sc], .slice a n c] w fun e w' =>
      e = .returned (.int .i64 (sumG (sel4 w0 w1 w2 w3) x n o / 2 ^ sc)) ∧ Below w.heap.size w w' := by
  obtain ⟨W, hWe⟩ : ∃ W, W = w.alloc (.cells #[.int .i64 o, .int .i64 w0, .int .i64 w1, .int .i64 w2, .int .i64 w3, .int .i64 sc] 333) := ⟨_, rfl⟩
  have hb : Below w.heap.size w W := by rw [hWe]; exact (Below.refl _ _).alloc (Nat.le_refl _) _
  have HB : Hid (∀ m, Below w.heap.size w (World.drewN (w.alloc (.cells #[.int .i64 o, .int .i64 w0, .int .i64 w1, .int .i64 w2, .int .i64 w3, .int .i64 sc] 333)) m)) := fun m => by
    rw [← hWe]; exact ⟨hb.os, hb.tape, hb.output, hb.size, hb.block⟩
  have HI : Hid (IntsAt (w.alloc (.cells #[.int .i64 o, .int .i64 w0, .int .i64 w1, .int .i64 w2, .int .i64 w3, .int .i64 sc] 333)) a n x) := by
    intro i hi
    obtain ⟨y, hy, hc⟩ := hI i hi
    refine ⟨y, hy, ?_⟩
    rw [← hWe, hb.cell (by have := hlow y hy (by omega); cases i <;> simpa [Addr.add] using this), hc]
  clear hWe hb hI hlow
  have HS := sumG_bd (w := sel4 w0 w1 w2 w3) (x := x) (i := n) (sel4_bd k0 k1 k2 k3)
  have HX : Hid (∀ j, j < n → -4096 ≤ x j ∧ x j ≤ 4096) := hX
  have HM : Hid (∀ j, -32 ≤ sel4 w0 w1 w2 w3 j ∧ sel4 w0 w1 w2 w3 j ≤ 32) := sel4_bd k0 k1 k2 k3
  clear hX k0 k1 k2 k3
  have hHS : Hid _ := HS
  clear HS
  go_enter Tryz.func318, Tryz.ntmps318
  go_wp2
  go_loopw [5, 6, 9] (fun v _ i wr => ∃ j : Nat, j ≤ o ∧ i = .int .i64 j ∧ v = .int .i64 (sumG (sel4 w0 w1 w2 w3) x n j) ∧ ∃ m, wr = World.drewN (w.alloc (.cells #[.int .i64 o, .int .i64 w0, .int .i64 w1, .int .i64 w2, .int .i64 w3, .int .i64 sc] 333)) m) (fun _ _ i _ => o - (intOf i).toNat)
  case atStart => exact ⟨0, Nat.zero_le _, rfl, rfl, 0, rfl⟩
  case round =>
    obtain ⟨j, hj, rfl, rfl, m, rfl⟩ := hrel
    by_cases hlt : j < o
    · obtain ⟨b, off, hx, hc⟩ := HI.out.open (by omega)
      cases hx
      have hc1 := hc (n - 1 - j) (by omega)
      have hc2 := sel4_cell (o : Int) (sc : Int) w0 w1 w2 w3 w 333 j (by omega)
      have hmb := mul_bd (HM.out j) (HX.out (n - 1 - j) (by omega))
      have hsb := hHS.out HX.out (by omega) j
      have HE : Hid (sumG (sel4 w0 w1 w2 w3) x n (j + 1) = sumG (sel4 w0 w1 w2 w3) x n j + sel4 w0 w1 w2 w3 j * x (n - 1 - j)) := rfl
      clear hc
      go_wp2
      go_region
      all_goals go_wp2
      go_roundw
      case rel => exact ⟨j + 1, by omega, by go_num, by rw [HE.out], _, rfl⟩
      case measure => simp [intOf]; omega
    · have e : j = o := by omega
      subst e
      go_wp2
      go_ret
      exact ⟨ret_int rfl, HB.out _⟩
end Go.Proofs.YtlncjgnomhpjnabGreatDoor

