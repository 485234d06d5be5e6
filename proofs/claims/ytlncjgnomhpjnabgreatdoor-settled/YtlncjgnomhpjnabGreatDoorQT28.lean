import Derived.Test.YtlncjgnomhpjnabGreatDoorQT27
import Derived.Test.YtlncjgnomhpjnabGreatDoorQT19
import Derived.Test.YtlncjgnomhpjnabGreatDoorQT25
import Derived.Test.YtlncjgnomhpjnabGreatDoorQT18
import Derived.Test.YtlncjgnomhpjnabGreatDoorQT22
import Derived.Test.YtlncjgnomhpjnabGreatDoorQT21
import Derived.Test.YtlncjgnomhpjnabGreatDoorQT2
import Derived.Deep.AppendLies
import Derived.Deep.RegionLaw
import Derived.Test.YtlncjgnomhpjnabGreatDoorQT11
import Derived.Deep.DeepCutAuto
import Derived.Deep.RegionHeld3
import Derived.BigQuiet
import Derived.Deep.QuietTactic
import Derived.Test.YtlncjgnomhpjnabGreatDoorQT26
/-
  The program reads a head: it is not finished.
-/
namespace Go.Proofs.YtlncjgnomhpjnabGreatDoor
open Go.RowKit Go.Deep
set_option linter.unusedVariables false
theorem unf_lay (c0 c1 B c3 c4 S : Nat) (h0 : c0 < 256) (h1 : c1 < 256) (h2 : B < 256) (h3 : c3 < 65536) (h4 : c4 < 256) (h5 : S < 65536) (np g : Nat) (u : World) (hn : np ≤ 300) (hr : u.rowIs g 3 np (fun _ => .int .i64 0)) :
    Calls Tryz.prog 129 #[.agg #[.int .i64 c0, .int .i64 c1, .int .i64 B, .int .i64 c3, .int .i64 c4, .int .i64 S, .bool false, .int .i64 0, .int .i64 0, .int .i64 0, .slice (some ⟨g, 0, none⟩) np np]] u fun e w' => e = .returned (.string (bs (headTx 0 c0 c1 B c3 S c4 0 0 0 (List.replicate np 0)))) ∧ Below u.heap.size u w' := by
  have hl : (List.replicate np 0).length = np := List.length_replicate
  have h := headText_any false c0 c1 B c3 S c4 0 0 0 (List.replicate np 0) (some ⟨g, 0, none⟩) np u h0 h1 h2 h3 h4 h5 (by omega) (by omega) (by omega) (by omega) (fun p hp => by have := List.eq_of_mem_replicate hp; omega)
    (by
      rw [hl]
      refine fun i hi => ⟨_, rfl, ?_⟩
      have := hr.cell hi
      rw [addr_add, Nat.zero_add, this]
      show _ = some (Value.int .i64 (((List.replicate np 0).getD i 0 : Nat) : Int))
      rw [List.getD_eq_getElem?_getD, List.getElem?_replicate, if_pos hi]
      rfl)
    (fun x hx hp => by injection hx with hx; subst hx; exact hr.lt)
  rw [hl] at h
  exact h
end Go.Proofs.YtlncjgnomhpjnabGreatDoor

/-
  The program decodes: stream.Decode, where it gives no sound.
-/
namespace Go.Proofs.YtlncjgnomhpjnabGreatDoor
open Go.RowKit Go.Deep
set_option linter.unusedVariables false
theorem below_row {w u : World} {g : Nat} (h : Below w.heap.size w u) (hg : w.heap.size ≤ g) (cs : Array Value) : Below w.heap.size w (u.setRow g cs) := below_setRow h hg cs
end Go.Proofs.YtlncjgnomhpjnabGreatDoor

/-
  A stream that was made is read as its sound.
-/
namespace Go.Proofs.YtlncjgnomhpjnabGreatDoor
open Go.RowKit Go.Deep
set_option linter.unusedVariables false
/-- a configuration and a sound of it -/
structure KP (d n B c3 c4 S : Nat) (F : Nat → Nat → Int) : Prop where
  d4 : 4 ≤ d
  d12 : d ≤ 12
  n1 : 1 ≤ n
  n4 : n ≤ 4
  B1 : 1 ≤ B
  B32 : B ≤ 32
  c3b : c3 < 65536
  c4b : c4 < 256
  S3 : S ≤ 300
  fit : ∀ i, i < n → ∀ j, j < S → fitsB d (F i j) = true
theorem KP.blk {d n B c3 c4 S : Nat} {F : Nat → Nat → Int} (h : KP d n B c3 c4 S F) {k : Nat} (hk : k < nBlk S B) : ∀ i, i < n → ∀ j, j < blkN S B k → fitsB d (blkF F B k i j) = true := fun i hi j hj => by
  have := blkN_bd h.B1 hk
  exact h.fit i hi (k * B + j) (by omega)
theorem KP.nb {d n B c3 c4 S : Nat} {F : Nat → Nat → Int} (h : KP d n B c3 c4 S F) : nBlk S B ≤ 300 := Nat.le_trans (nBlk_le h.B1) h.S3
theorem frs_pre (d n : Nat) (F : Nat → Nat → Int) (S B k : Nat) : ∀ j, ∃ Z, frsT d n F S B (k + j) = frsT d n F S B k ++ Z
  | 0 => ⟨[], by rw [List.append_nil]; rfl⟩
  | j + 1 => by
    obtain ⟨Z, hZ⟩ := frs_pre d n F S B k j
    exact ⟨Z ++ frT d n F S B (k + j), by show frsT d n F S B (k + j) ++ frT d n F S B (k + j) = _; rw [hZ, List.append_assoc]⟩
/-- the points -/
theorem nat_ext {a b : Nat} (h : ∀ j, j < a ↔ j < b) : a = b := by
  have h1 := h a
  have h2 := h b
  omega
theorem pntN_all (ln : Nat → Nat) {s : Nat} (hs : 1 ≤ s) : ∀ k, pntN ln s k = (List.range (nBlk k s)).map fun i => atN ln (i * s)
  | 0 => by
    have e : nBlk 0 s = 0 := nat_ext fun j => by rw [nBlk_lt hs]; omega
    rw [e]; rfl
  | k + 1 => by
    unfold pntN
    by_cases h : k % s = 0
    · have hq : k / s * s = k := Nat.div_mul_cancel (Nat.dvd_of_mod_eq_zero h)
      generalize k / s = q at hq
      have e1 : nBlk k s = q := nat_ext fun j => by rw [nBlk_lt hs, ← hq]; exact Nat.mul_lt_mul_right hs
      have e2 : nBlk (k + 1) s = q + 1 := nat_ext fun j => by
        rw [nBlk_lt hs, ← hq, Nat.lt_succ_iff, Nat.lt_succ_iff]
        exact Nat.mul_le_mul_right_iff hs
      rw [if_pos ⟨hs, h⟩, pntN_all ln hs k, e1, e2, List.range_succ, List.map_append, List.map_cons, List.map_nil, hq]
    · have e1 : nBlk (k + 1) s = nBlk k s := nat_ext fun j => by
        rw [nBlk_lt hs, nBlk_lt hs]
        have : j * s ≠ k := fun e => h (by rw [← e]; exact Nat.mul_mod_left _ _)
        omega
      rw [if_neg (fun hh => h hh.2), pntN_all ln hs k, e1]
theorem pntN_zero (ln : Nat → Nat) : ∀ k, pntN ln 0 k = []
  | 0 => rfl
  | k + 1 => by
    unfold pntN
    rw [if_neg (fun h => by omega)]
    exact pntN_zero ln k
theorem pntN_size (ln : Nat → Nat) (S B s : Nat) : (pntN ln s (nBlk S B)).length = nPts S B s := by
  unfold nPts
  by_cases h : s = 0
  · rw [if_pos h, h, pntN_zero]; rfl
  · rw [if_neg h, pntN_all ln (by omega), List.length_map, List.length_range]
end Go.Proofs.YtlncjgnomhpjnabGreatDoor

/-
  A line in memory.
-/
namespace Go.Proofs.YtlncjgnomhpjnabGreatDoor
open Go.RowKit Go.Deep
set_option linter.unusedVariables false
/-- Where the parts of a line lie. -/
structure Lad where
  lb : Nat
  sp : Nat
  su : Nat
  wr : Nat
  qj : Nat
  ql : Nat
  qr : Nat
  cj : Nat
  cl : Nat
  cr : Nat
  tb : Nat
  tc : Nat
  wb : Nat
  wc : Nat
  wk : Nat → Nat
  lg : Nat
  lc : Nat
  A : Nat → Option Addr
  C : Nat → Nat
  /-- the row of a block's lists -/
  gb : Nat → Nat
  b1 : Nat
/-- The sound of a line. -/
structure Lsn where
  ch : Nat
  d : Nat
  B : Nat
  c3 : Nat
  c4 : Nat
  S : Nat
  G : Nat → Nat → Int
def ptrV (b : Nat) : Value := .pointer (some ⟨b, 0, none⟩)
/-- a block, as it goes through jobs and lane -/
def blV (a : Lad) (x : Lsn) (k : Nat) : Value := .agg #[.int .i64 k, .slice (some ⟨a.gb k, 0, none⟩) x.ch x.ch]
/-- a frame, as it goes through ready -/
def pkV (x : Lsn) (k : Nat) : Value := .agg #[.int .i64 k, .string (bs (frT x.d x.ch x.G x.S x.B k))]
/-- the frames on the shelf, a cell behind the other -/
def shlV (x : Lsn) : List Nat → List Value
  | [] => []
  | k :: r => .int .i64 k :: .string (bs (frT x.d x.ch x.G x.S x.B k)) :: shlV x r
def frLn (x : Lsn) (k : Nat) : Nat := (frT x.d x.ch x.G x.S x.B k).length
/-- the sum of the first blocks -/
def smN (x : Lsn) (k : Nat) : Nat := sumN (intT x.ch x.G (2 * (min (k * x.B) x.S * x.ch)))
def hdT (x : Lsn) : Nat → List UInt8
  | 0 => []
  | 1 => headTx 0 x.ch x.d x.B x.c3 x.S x.c4 0 0 0 (List.replicate (nPts x.S x.B x.c4) 0)
  | _ => headTx 1 x.ch x.d x.B x.c3 x.S x.c4 (leastN (frLn x) (nBlk x.S x.B)) (mostN (frLn x) (nBlk x.S x.B)) (sumN (intT x.ch x.G (2 * (x.S * x.ch)))) (pntN (frLn x) x.c4 (nBlk x.S x.B))
def taskV (a : Lad) : Nat → Value
  | 0 => .iface 154 (ptrV a.sp)
  | 1 => .iface 155 (ptrV a.su)
  | 2 => .iface 156 (ptrV a.wr)
  | j + 3 => .iface 170 (ptrV (a.wk j))
/-- the line's own cells -/
def lnC (p : Lpar) (a : Lad) (x : Lsn) (s : Lst) (sv fv : Value) : Array Value :=
  #[.int .i64 x.ch, .int .i64 x.d, .int .i64 x.B, .int .i64 x.c3, .int .i64 x.c4, .int .i64 p.W, .int .i64 p.Wd, .int .i64 p.Rm,
    .int .i64 x.ch, .int .i64 x.d, .int .i64 x.B, .int .i64 x.c3, .int .i64 x.c4, .int .i64 x.S,
    ptrV a.qj, ptrV a.ql, ptrV a.qr, sv, .int .i64 p.fail, .int .i64 s.writes, .bool s.failed, .string (bs (hdT x s.hd)), fv, .bool s.stopped,
    ptrV a.sp, ptrV a.su, ptrV a.wr, .slice (some ⟨a.wb, 0, none⟩) p.W a.wc, .slice (some ⟨a.tb, 0, none⟩) (3 + p.W) a.tc]
def heV (hv : Nat → Nat) (s : Lst) (j : Nat) : Value := match s.held j with
  | none => .pointer none
  | some _ => ptrV (hv j)
/-- What kind of thing a block is. -/
def kn (w : World) (k : Nat) : Nat := match w.heap[k]? with
  | some (.cells _ t _) => t + 1
  | _ => 0
theorem kn_of {w w' : World} {k : Nat} (h : w'.heap[k]? = w.heap[k]?) : kn w' k = kn w k := by unfold kn; rw [h]
theorem Bx.kn {w : World} {b : Nat} {t : TypeId} {cs : Array Value} (h : Bx w b t cs) : kn w b = t + 1 := by unfold Go.Proofs.YtlncjgnomhpjnabGreatDoor.kn; rw [show w.heap[b]? = _ from h]
/-- A line in memory: F are the blocks that are its own. -/
structure LineIs (p : Lpar) (a : Lad) (x : Lsn) (F : Nat → Prop) (s : Lst) (w : World) : Prop where
  kp : KP x.d x.ch x.B x.c3 x.c4 x.S x.G
  NB : p.N = nBlk x.S x.B
  W8 : p.W ≤ 8
  d16 : p.Wd ≤ 16
  R8 : p.Rm ≤ 8
  cells : ∃ sv fv lv, Bx w a.lb 160 (lnC p a x s sv fv) ∧
    Bx w a.wr 169 #[ptrV a.lb, .bool s.e2, .bool s.begun, lv] ∧
    w.ownsRow a.b1 149 2 sv s.shelf.length (shlV x s.shelf) ∧ (∀ g, sv.ownBlock = some g → F g) ∧
    w.ownsRow a.b1 5 1 fv (frsT x.d x.ch x.G x.S x.B s.wrote).length ((frsT x.d x.ch x.G x.S x.B s.wrote).map fun b => .int .u8 (b.toNat : Int)) ∧ (∀ g, fv.ownBlock = some g → F g) ∧
    w.ownsRow a.b1 3 1 lv s.wrote ((List.range s.wrote).map fun k => .int .i64 (frLn x k)) ∧ (∀ g, lv.ownBlock = some g → F g)
  spl : Bx w a.sp 165 #[ptrV a.lb, .bool s.e0, .slice (some ⟨a.lg, 0, none⟩) x.ch a.lc, .int .i64 s.given]
  sum : Bx w a.su 167 #[ptrV a.lb, .bool s.e1, .int .i64 s.summed, .int .i64 (smN x s.summed)]
  wrk : ∃ hv : Nat → Nat, (∀ j, j < p.W → Bx w (a.wk j) 173 #[ptrV a.lb, .bool (s.ew j), heV hv s j]) ∧
    ∀ j k, j < p.W → s.held j = some k → F (hv j) ∧ Bx w (hv j) 145 #[.int .i64 k, .slice (some ⟨a.gb k, 0, none⟩) x.ch x.ch]
  jobs : QIs w a.qj a.cj 247 p.Rm (s.jobs.map (blV a x)).toArray s.e0
  lane : QIs w a.ql a.cl 247 p.Rm (s.lane.map (blV a x)).toArray s.e0
  ready : QIs w a.qr a.cr 250 p.Rm (s.ready.map (pkV x)).toArray (s.shut p)
  tasks : w.ownsRow 0 178 1 (.slice (some ⟨a.tb, 0, none⟩) (3 + p.W) a.tc) (3 + p.W) ((List.range (3 + p.W)).map (taskV a))
  works : w.ownsRow 0 170 1 (.slice (some ⟨a.wb, 0, none⟩) p.W a.wc) p.W ((List.range p.W).map fun j => ptrV (a.wk j))
  blocks : ∀ k, k < s.given → F (a.gb k) ∧ w.rowIs (a.gb k) 30 x.ch (blkV a.A a.C (k * x.B) (blkN x.S x.B k) x.ch)
  lists : ListsAt w (some ⟨a.lg, 0, none⟩) x.ch a.A (fun _ => x.S) a.C
  ints : ∀ i, i < x.ch → IntsAt w (a.A i) x.S (x.G i)
  caps : ∀ i, i < x.ch → x.S ≤ a.C i
  low : Low a.b1 (some ⟨a.lg, 0, none⟩) x.ch a.A (fun _ => x.S)
  lowF : F a.lg ∧ ∀ i, i < x.ch → ∀ y, a.A i = some y → 0 < x.S → F y.block
  own : F a.lb ∧ F a.sp ∧ F a.su ∧ F a.wr ∧ F a.qj ∧ F a.ql ∧ F a.qr ∧ F a.cj ∧ F a.cl ∧ F a.cr ∧ F a.tb ∧ F a.wb ∧ ∀ j, j < p.W → F (a.wk j)
  lt : ∀ k, F k → k < w.heap.size
  ne : a.qj ≠ a.ql ∧ a.cj ≠ a.cl ∧ a.cj ≠ a.cr ∧ a.cl ≠ a.cr ∧ ∀ i j, i < p.W → j < p.W → a.wk i = a.wk j → i = j
  b1 : a.b1 ≤ w.heap.size
  kl : kn w a.lg = 30 + 1
  ka : ∀ i, i < x.ch → ∀ y, a.A i = some y → 0 < x.S → kn w y.block = 3 + 1
end Go.Proofs.YtlncjgnomhpjnabGreatDoor

