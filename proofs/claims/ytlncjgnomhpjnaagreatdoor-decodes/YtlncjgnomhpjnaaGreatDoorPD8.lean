import Derived.Test.YtlncjgnomhpjnaaGreatDoorPD7
import Derived.Test.YtlncjgnomhpjnaaGreatDoorPD6
import Derived.Deep.RegionHeld3
import Derived.Deep.DeepCutAuto
import Derived.Test.YtlncjgnomhpjnaaGreatDoorRows
import Derived.Test.YtlncjgnomhpjnaaGreatDoorPD2
import Derived.ArgAppend
/-
  Plain mathematics for 'Frames': numbers in bytes, bits in bytes, the modes, a frame.
-/
namespace Go.Proofs.YtlncjgnomhpjnaaGreatDoor
set_option linter.unusedVariables false
/-- a number in k bytes, the highest first -/
def inB (v k i : Nat) : UInt8 := UInt8.ofNat (v / 256 ^ (k - 1 - i) % 256)
def inT (v k : Nat) : List UInt8 := (List.range k).map (inB v k)
theorem inT_length (v k : Nat) : (inT v k).length = k := by simp [inT]
theorem strOf_in (v k : Nat) : strOf (inB v k) k = bs (inT v k) := rfl
theorem inB_nat (v k i : Nat) : (inB v k i).toNat = v / 256 ^ (k - 1 - i) % 256 := by
  unfold inB
  rw [UInt8.toNat_ofNat']
  exact Nat.mod_eq_of_lt (Nat.lt_of_lt_of_le (Nat.mod_lt _ (by decide)) (by decide))
/-- a bit of a text of letters; behind its end there are 0s -/
def tbit (t : List UInt8) (i : Nat) : Bool := t.getD i 48 == 49
/-- byte number k of the bits, 0s fill the last one up, when m bits are laid already -/
def pkN (t : List UInt8) (m k : Nat) : Nat := bitsNum (fun j => decide (8 * k + j < m) && tbit t (8 * k + j)) 8
def pkB (t : List UInt8) (k : Nat) : UInt8 := UInt8.ofNat (pkN t t.length k)
def packT (t : List UInt8) : List UInt8 := (List.range ((t.length + 7) / 8)).map (pkB t)
/-- what a head of a frame says -/
def headT (number len n mode : Nat) : List UInt8 := inT 165 1 ++ inT number 2 ++ inT len 2 ++ inT (n - 1) 1 ++ inT mode 1
def seal8 (s : List UInt8) : List UInt8 := s ++ inT (crc 8 263 s) 1
def seal16 (s : List UInt8) : List UInt8 := s ++ inT (crc 16 98309 s) 2
theorem seal8_length (s : List UInt8) : (seal8 s).length = s.length + 1 := by simp [seal8, inT_length]
theorem seal16_length (s : List UInt8) : (seal16 s).length = s.length + 2 := by simp [seal16, inT_length]
def frameT (number n mode : Nat) (bits : List UInt8) : List UInt8 := seal16 (seal8 (headT number ((packT bits).length + 10) n mode) ++ packT bits)
/-- what two channels may be told by -/
def sideL (l r : Nat → Int) (j : Nat) : Int := l j - r j
def midL (l r : Nat → Int) (j : Nat) : Int := (l j + r j) / 2
def pairT (d : Nat) (l r : Nat → Int) (n m : Nat) : List UInt8 :=
  if m = 0 then subT d l n ++ subT d r n else if m = 1 then subT d l n ++ subT (d + 1) (sideL l r) n
  else if m = 2 then subT (d + 1) (sideL l r) n ++ subT d r n else subT d (midL l r) n ++ subT (d + 1) (sideL l r) n
/-- the mode with the fewest bits, of the first m -/
def bestM (T : Nat → List UInt8) : Nat → Nat
  | 0 => 0
  | m + 1 => if m = 0 ∨ (T m).length < (T (bestM T m)).length then m else bestM T m
/-- all channels, one behind the other -/
def allT (d : Nat) (F : Nat → Nat → Int) (N : Nat) : Nat → List UInt8
  | 0 => []
  | i + 1 => allT d F N i ++ subT d (F i) N
def modeN (d n : Nat) (F : Nat → Nat → Int) (N : Nat) : Nat := if n = 2 then bestM (pairT d (F 0) (F 1) N) 4 else 0
def blockT (d n : Nat) (F : Nat → Nat → Int) (N : Nat) : List UInt8 := if n = 2 then pairT d (F 0) (F 1) N (modeN d n F N) else allT d F N n
end Go.Proofs.YtlncjgnomhpjnaaGreatDoor

/-
  Numbers in bytes: bytenum.In and reelref.low.
-/
namespace Go.Proofs.YtlncjgnomhpjnaaGreatDoor
open Go.RowKit Go.Deep
set_option linter.unusedVariables false
theorem in_step {w wr : World} {B v k j : Nat} (h : wr.rowIs B 5 k (fun i => .int .u8 (if k - 1 - i < j then ((inB v k i).toNat : Int) else 0))) (hj : j < k) :
    (wr.setCell ⟨B, k - 1 - j, none⟩ (.int .u8 ((v / 256 ^ j % 256 : Nat) : Int))).rowIs B 5 k (fun i => .int .u8 (if k - 1 - i < j + 1 then ((inB v k i).toNat : Int) else 0)) := by
  refine (h.set (k - 1 - j) _).congr fun i hi => ?_
  by_cases e : i = k - 1 - j
  · subst e
    rw [if_pos rfl, if_pos (by omega), inB_nat, show k - 1 - (k - 1 - j) = j by omega]
  · rw [if_neg e]
    by_cases e2 : k - 1 - i < j
    · rw [if_pos e2, if_pos (by omega)]
    · rw [if_neg e2, if_neg (by omega)]
set_option maxHeartbeats 1000000 in
theorem low_any (v k : Nat) (w : World) (hk : k ≤ 8) (hv : v < 4294967296) :
    Calls Tryz.prog 111 #[.int .i64 v, .int .i64 k] w fun e w' => e = .returned (.string (bs (inT v k))) ∧ Below w.heap.size w w' := by
  have hmk := run_make_row' (P := Tryz.prog) 61 5 (.int .u8 0) 1 Tryz.underlying61 infoByte rfl .i64 .i64 k (by omega) (by omega)
  have w2 : IntKind.i64.wrap ((k : Int) - 1) = (k : Int) - 1 := by rw [IntKind.wrap_i64]; omega
  have HS := Hid.mk' (strOf_in v k)
  have HCV := Hid.mk' (fun (u : World) h => run_rowString (P := Tryz.prog) u 61 9 5 w.heap.size 0 k k (inB v k) Tryz.underlying61 Tryz.underlying5 Tryz.underlying9 h)
  go_enter Tryz.func111, Tryz.ntmps111
  go_wp2
  clear hmk w2
  go_loopw [0, 6] (fun vv iv wr => ∃ j : Nat, j ≤ k ∧ iv = .int .i64 ((k : Int) - 1 - j) ∧ vv = .int .i64 ((v / 256 ^ j : Nat) : Int) ∧ Hid (wr.rowIs w.heap.size 5 k (fun i => .int .u8 (if k - 1 - i < j then ((inB v k i).toNat : Int) else 0)) ∧ Below w.heap.size w wr)) (fun _ iv _ => (intOf iv + 1).toNat)
  case atStart => exact ⟨0, by omega, by simp, by simp, (World.rowIs_made w (.int .u8 0) k 5).congr fun i _ => by rw [if_neg (by omega)], (Below.refl _ _).alloc (Nat.le_refl _) _⟩
  case round =>
    obtain ⟨j, hj, rfl, rfl, HR⟩ := hrel
    by_cases hlt : j < k
    · have hc1 := HR.out.1.cell (i := k - 1 - j) (by omega)
      have hf1 := HR.out.1.frozen (k - 1 - j)
      have hq : v / 256 ^ j ≤ v := Nat.div_le_self _ _
      have HQ : Hid (v / 256 ^ (j + 1) = v / 256 ^ j / 256) := by show _ = _; rw [Nat.pow_succ, Nat.div_div_eq_div_mul]
      have HK := Hid.mk' (in_step (w := w) HR.out.1 hlt)
      generalize v / 256 ^ j = q at *
      have t1 : ((k : Int) - 1 - (j : Int)).toNat = k - 1 - j := by omega
      have t2 : decide (0 ≤ (k : Int) - 1 - (j : Int)) = true := decide_eq_true (by omega)
      have l1 : 0 ≤ (k : Int) - 1 - (j : Int) := by omega
      have l2 : (k : Int) - 1 - (j : Int) < (k : Int) := by omega
      have v2 : IntKind.i64.wrap ((k : Int) - 1 - (j : Int) - 1) = (k : Int) - 1 - (j : Int) - 1 := by rw [IntKind.wrap_i64]; omega
      have m1 : ((q : Int)).tmod 256 = ((q % 256 : Nat) : Int) := by rw [Int.tmod_eq_emod_of_nonneg (by omega)]; omega
      have m2 : ((q : Int)).tdiv 256 = ((q / 256 : Nat) : Int) := by rw [Int.tdiv_eq_ediv_of_nonneg (by omega)]; omega
      have m3 : ((q : Int)) / 256 = ((q / 256 : Nat) : Int) := by omega
      have hq3 : q / 256 ≤ q := Nat.div_le_self _ _
      have HV6 : Hid (wrap64 ((q / 256 : Nat) : Int) = ((q / 256 : Nat) : Int)) := by show _ = _; unfold wrap64; omega
      have hq2 : q % 256 < 256 := Nat.mod_lt _ (by omega)
      have v4 : IntKind.u8.wrap (q : Int) = ((q % 256 : Nat) : Int) := by rw [IntKind.wrap_u8]; omega
      generalize q % 256 = r at *
      generalize q / 256 = q' at *
      have v5 : IntKind.u8.wrap (r : Int) = (r : Int) := by rw [IntKind.wrap_u8]; omega
      generalize hcv : (if k - 1 - (k - 1 - j) < j then ((inB v k (k - 1 - j)).toNat : Int) else 0) = oldv at hc1
      clear hcv
      go_wp2
      go_roundw
      case rel => exact ⟨j + 1, by omega, by congr 1; omega, by rw [HQ.out], HK.out, HR.out.2.setCell (Nat.le_refl _) _⟩
      case measure => simp [intOf]; omega
    · have e : j = k := by omega
      subst e
      have e1 : (j : Int) - 1 - (j : Int) = -1 := by omega
      rw [e1]
      clear e1
      have hcv := HCV.out wr (fun i hi => by
        have := HR.out.1.cell (i := i) hi
        rw [if_pos (by omega)] at this
        simpa using this)
      rw [HS.out] at hcv
      generalize v / 256 ^ j = q0 at *
      clear HCV
      go_wp2
      go_ret
      exact ⟨rfl, HR.out.2⟩
set_option maxHeartbeats 1000000 in
theorem in_any (v k : Nat) (w : World) (hk : k ≤ 8) (hv : v < 4294967296) :
    Calls Tryz.prog 105 #[.int .i64 v, .int .i64 k] w fun e w' => e = .returned (.string (bs (inT v k))) ∧ Below w.heap.size w w' := by
  have hmk := run_make_row' (P := Tryz.prog) 61 5 (.int .u8 0) 1 Tryz.underlying61 infoByte rfl .i64 .i64 k (by omega) (by omega)
  have w2 : IntKind.i64.wrap ((k : Int) - 1) = (k : Int) - 1 := by rw [IntKind.wrap_i64]; omega
  have HS := Hid.mk' (strOf_in v k)
  have HCV := Hid.mk' (fun (u : World) h => run_rowString (P := Tryz.prog) u 61 9 5 w.heap.size 0 k k (inB v k) Tryz.underlying61 Tryz.underlying5 Tryz.underlying9 h)
  go_enter Tryz.func105, Tryz.ntmps105
  go_wp2
  clear hmk w2
  go_loopw [0, 6] (fun vv iv wr => ∃ j : Nat, j ≤ k ∧ iv = .int .i64 ((k : Int) - 1 - j) ∧ vv = .int .i64 ((v / 256 ^ j : Nat) : Int) ∧ Hid (wr.rowIs w.heap.size 5 k (fun i => .int .u8 (if k - 1 - i < j then ((inB v k i).toNat : Int) else 0)) ∧ Below w.heap.size w wr)) (fun _ iv _ => (intOf iv + 1).toNat)
  case atStart => exact ⟨0, by omega, by simp, by simp, (World.rowIs_made w (.int .u8 0) k 5).congr fun i _ => by rw [if_neg (by omega)], (Below.refl _ _).alloc (Nat.le_refl _) _⟩
  case round =>
    obtain ⟨j, hj, rfl, rfl, HR⟩ := hrel
    by_cases hlt : j < k
    · have hc1 := HR.out.1.cell (i := k - 1 - j) (by omega)
      have hf1 := HR.out.1.frozen (k - 1 - j)
      have hq : v / 256 ^ j ≤ v := Nat.div_le_self _ _
      have HQ : Hid (v / 256 ^ (j + 1) = v / 256 ^ j / 256) := by show _ = _; rw [Nat.pow_succ, Nat.div_div_eq_div_mul]
      have HK := Hid.mk' (in_step (w := w) HR.out.1 hlt)
      generalize v / 256 ^ j = q at *
      have t1 : ((k : Int) - 1 - (j : Int)).toNat = k - 1 - j := by omega
      have t2 : decide (0 ≤ (k : Int) - 1 - (j : Int)) = true := decide_eq_true (by omega)
      have l1 : 0 ≤ (k : Int) - 1 - (j : Int) := by omega
      have l2 : (k : Int) - 1 - (j : Int) < (k : Int) := by omega
      have v2 : IntKind.i64.wrap ((k : Int) - 1 - (j : Int) - 1) = (k : Int) - 1 - (j : Int) - 1 := by rw [IntKind.wrap_i64]; omega
      have m1 : ((q : Int)).tmod 256 = ((q % 256 : Nat) : Int) := by rw [Int.tmod_eq_emod_of_nonneg (by omega)]; omega
      have m2 : ((q : Int)).tdiv 256 = ((q / 256 : Nat) : Int) := by rw [Int.tdiv_eq_ediv_of_nonneg (by omega)]; omega
      have m3 : ((q : Int)) / 256 = ((q / 256 : Nat) : Int) := by omega
      have hq3 : q / 256 ≤ q := Nat.div_le_self _ _
      have HV6 : Hid (wrap64 ((q / 256 : Nat) : Int) = ((q / 256 : Nat) : Int)) := by show _ = _; unfold wrap64; omega
      have hq2 : q % 256 < 256 := Nat.mod_lt _ (by omega)
      have v4 : IntKind.u8.wrap (q : Int) = ((q % 256 : Nat) : Int) := by rw [IntKind.wrap_u8]; omega
      generalize q % 256 = r at *
      generalize q / 256 = q' at *
      have v5 : IntKind.u8.wrap (r : Int) = (r : Int) := by rw [IntKind.wrap_u8]; omega
      generalize hcv : (if k - 1 - (k - 1 - j) < j then ((inB v k (k - 1 - j)).toNat : Int) else 0) = oldv at hc1
      clear hcv
      go_wp2
      go_roundw
      case rel => exact ⟨j + 1, by omega, by congr 1; omega, by rw [HQ.out], HK.out, HR.out.2.setCell (Nat.le_refl _) _⟩
      case measure => simp [intOf]; omega
    · have e : j = k := by omega
      subst e
      have e1 : (j : Int) - 1 - (j : Int) = -1 := by omega
      rw [e1]
      clear e1
      have hcv := HCV.out wr (fun i hi => by
        have := HR.out.1.cell (i := i) hi
        rw [if_pos (by omega)] at this
        simpa using this)
      rw [HS.out] at hcv
      generalize v / 256 ^ j = q0 at *
      clear HCV
      go_wp2
      go_ret
      exact ⟨rfl, HR.out.2⟩
end Go.Proofs.YtlncjgnomhpjnaaGreatDoor

/-
  The seals: sums.SealByEight, sums.SealBySixteen.
-/
namespace Go.Proofs.YtlncjgnomhpjnaaGreatDoor
open Go.RowKit Go.Deep
set_option linter.unusedVariables false
theorem crc_lt (k D : Nat) (l : List UInt8) : crc k D l < 2 ^ k := bitsNum_lt _ _
theorem bs_list (T : List UInt8) : (bs T).data.toList = T := by simp [bs]
theorem eight_bs (T : List UInt8) (w : World) (hs : T.length ≤ 2097152) :
    Calls Tryz.prog 147 #[.string (bs T)] w fun e w' => e = .returned (.int .i64 (crc 8 263 T)) ∧ w' = w := by
  have := eight_any (bs T) w (by rw [bs_size]; exact hs)
  rwa [bs_list] at this
theorem sixteen_bs (T : List UInt8) (w : World) (hs : T.length ≤ 2097152) :
    Calls Tryz.prog 106 #[.string (bs T)] w fun e w' => e = .returned (.int .i64 (crc 16 98309 T)) ∧ w' = w := by
  have := sixteen_any (bs T) w (by rw [bs_size]; exact hs)
  rwa [bs_list] at this
theorem ref8_bs (T : List UInt8) (w : World) (hs : T.length ≤ 2097152) :
    Calls Tryz.prog 112 #[.string (bs T)] w fun e w' => e = .returned (.int .i64 (crc 8 263 T)) ∧ Below w.heap.size w w' := by
  have := ref8_any (bs T) w (by rw [bs_size]; exact hs)
  rw [bs_list] at this
  exact this.mono fun e w' h => ⟨h.1, h.2.1⟩
theorem ref16_bs (T : List UInt8) (w : World) (hs : T.length ≤ 2097152) :
    Calls Tryz.prog 113 #[.string (bs T)] w fun e w' => e = .returned (.int .i64 (crc 16 98309 T)) ∧ Below w.heap.size w w' := by
  have := ref16_any (bs T) w (by rw [bs_size]; exact hs)
  rw [bs_list] at this
  exact this.mono fun e w' h => ⟨h.1, h.2.1⟩
set_option maxHeartbeats 400000 in
theorem seal8_any (T : List UInt8) (w : World) (hs : T.length ≤ 1048576) :
    Calls Tryz.prog 107 #[.string (bs T)] w fun e w' => e = .returned (.string (bs (seal8 T))) ∧ Below w.heap.size w w' := by
  have hc : crc 8 263 T < 256 := crc_lt 8 263 T
  have HE := Hid.mk' (fun u => eight_bs T u (by omega))
  have HIN := Hid.mk' (fun u => in_any (crc 8 263 T) 1 u (by omega) (by omega))
  have HS : Hid (bs T ++ bs (inT (crc 8 263 T) 1) = bs (seal8 T)) := bs_append _ _
  have hz1 : (bs T).size ≤ 1048576 := by rw [bs_size]; exact hs
  have hz2 : (bs (inT (crc 8 263 T) 1)).size ≤ 1 := by rw [bs_size, inT_length]; omega
  generalize crc 8 263 T = C at *
  rw [← HS.out]
  generalize bs (inT C 1) = X at *
  generalize bs T = S at *
  clear HS
  go_enter Tryz.func107, Tryz.ntmps107
  go_wp2_with (first
    | (go_at_call 147; refine (HE.out _).mono ?_; rintro e w1 ⟨rfl, hw⟩; subst w1; clear HE)
    | (go_at_call 105; refine (HIN.out _).mono ?_; rintro e w2 ⟨rfl, hb2⟩; have HB2 := Hid.mk' hb2; clear hb2 HIN))
  go_ret
  exact ⟨rfl, HB2.out⟩
set_option maxHeartbeats 400000 in
theorem seal16_any (T : List UInt8) (w : World) (hs : T.length ≤ 1048576) :
    Calls Tryz.prog 66 #[.string (bs T)] w fun e w' => e = .returned (.string (bs (seal16 T))) ∧ Below w.heap.size w w' := by
  have hc : crc 16 98309 T < 65536 := crc_lt 16 98309 T
  have HE := Hid.mk' (fun u => sixteen_bs T u (by omega))
  have HIN := Hid.mk' (fun u => in_any (crc 16 98309 T) 2 u (by omega) (by omega))
  have HS : Hid (bs T ++ bs (inT (crc 16 98309 T) 2) = bs (seal16 T)) := bs_append _ _
  have hz1 : (bs T).size ≤ 1048576 := by rw [bs_size]; exact hs
  have hz2 : (bs (inT (crc 16 98309 T) 2)).size ≤ 2 := by rw [bs_size, inT_length]; omega
  generalize crc 16 98309 T = C at *
  rw [← HS.out]
  generalize bs (inT C 2) = X at *
  generalize bs T = S at *
  clear HS
  go_enter Tryz.func66, Tryz.ntmps66
  go_wp2_with (first
    | (go_at_call 106; refine (HE.out _).mono ?_; rintro e w1 ⟨rfl, hw⟩; subst w1; clear HE)
    | (go_at_call 105; refine (HIN.out _).mono ?_; rintro e w2 ⟨rfl, hb2⟩; have HB2 := Hid.mk' hb2; clear hb2 HIN))
  go_ret
  exact ⟨rfl, HB2.out⟩
end Go.Proofs.YtlncjgnomhpjnaaGreatDoor

/-
  Texts that are built up: (*strings.Builder).WriteString, frame.codeAll.
-/
namespace Go.Proofs.YtlncjgnomhpjnaaGreatDoor
open Go.RowKit Go.Deep
set_option linter.unusedVariables false
theorem builder_at_below {T e : TypeId} {B b : Nat} {p : Value} {xs : List Value} {w w' : World} (h : Lib.BuilderAtF T e B b p xs w) (hb : Below w.heap.size w w') : Lib.BuilderAtF T e B b p xs w' := by
  have hlt := h.lt
  obtain ⟨hB, v, hbk, hown, hne⟩ := h
  refine ⟨hB, v, (hb.block b hlt).trans hbk, ?_, hne⟩
  obtain ⟨hl, hr⟩ := hown
  refine ⟨hl, ?_⟩
  rcases hr with h0 | ⟨g, cap, cur, fz, h1, h2, h3, h4⟩
  · exact .inl h0
  · exact .inr ⟨g, cap, cur, fz, h1, h2, (hb.block g (Array.getElem?_eq_some_iff.1 h3).1).trans h3, h4⟩
theorem builder_below {T e : TypeId} {B b : Nat} {xs : List Value} {w w' : World} (h : Lib.IsBuilderF T e B b xs w) (hb : Below w.heap.size w w') : Lib.IsBuilderF T e B b xs w' :=
  h.elim (fun h => .inl (builder_at_below h hb)) (fun h => .inr (builder_at_below h hb))
theorem cells_bs (T : List UInt8) : Lib.strCells (bs T) = Lib.byteCells T := by
  unfold Lib.strCells Lib.byteCells
  rw [bs_list]
theorem cells_app (T U : List UInt8) : Lib.byteCells T ++ Lib.byteCells U = Lib.byteCells (T ++ U) := by simp [Lib.byteCells]
theorem builder_new (w : World) : Lib.IsBuilderF 150 5 w.heap.size w.heap.size (Lib.byteCells []) (w.alloc (.cells #[.pointer none, .slice none 0 0] 150)) :=
  .inl ⟨Nat.le_refl _, .slice none 0 0, blk_alloc_new _ _, ⟨rfl, .inl ⟨rfl, rfl⟩⟩, by simp [Value.ownBlock]⟩
end Go.Proofs.YtlncjgnomhpjnaaGreatDoor

/-
  The mode with the fewest bits: frame.codePair, frame.shortestMode.
-/
namespace Go.Proofs.YtlncjgnomhpjnaaGreatDoor
open Go.RowKit Go.Deep
set_option linter.unusedVariables false
def pairV (r c : Nat) : Int := ([[0, 1], [0, 2], [2, 1], [3, 2]].getD r []).getD c 0
def PairsAt (w : World) : Prop := ∀ r c, r < 4 → c < 2 → w.cell? ⟨2, 2 * r + c, none⟩ = some (.int .i64 (pairV r c))
theorem keep_blk {u u' : World} {b : Nat} {o : Obj} (h : Below u.heap.size u u') (hk : b < u.heap.size ∧ u.heap[b]? = some o) : b < u'.heap.size ∧ u'.heap[b]? = some o :=
  ⟨Nat.lt_of_lt_of_le hk.1 h.size, (h.block b hk.1).trans hk.2⟩
theorem four_of_blk {u : World} {b : Nat} {s : Value} {T : TypeId} (h : u.heap[b]? = some (.cells #[s, s, s, s] T (0, 0))) :
    u.cell? ⟨b, 0, none⟩ = some s ∧ u.cell? ⟨b, 1, none⟩ = some s ∧ u.cell? ⟨b, 2, none⟩ = some s ∧ u.cell? ⟨b, 3, none⟩ = some s ∧ u.frozen? ⟨b, 0, none⟩ = false ∧ u.frozen? ⟨b, 1, none⟩ = false ∧ u.frozen? ⟨b, 2, none⟩ = false ∧ u.frozen? ⟨b, 3, none⟩ = false :=
  ⟨Lib.cell_of_heap h 0, Lib.cell_of_heap h 1, Lib.cell_of_heap h 2, Lib.cell_of_heap h 3, Lib.frozen_of_heap h 0, Lib.frozen_of_heap h 1, Lib.frozen_of_heap h 2, Lib.frozen_of_heap h 3⟩
end Go.Proofs.YtlncjgnomhpjnaaGreatDoor

/-
  Two channels in the document: reelref.pair, reelref.width, reelref.bitsOf.
-/
namespace Go.Proofs.YtlncjgnomhpjnaaGreatDoor
open Go.RowKit Go.Deep
set_option linter.unusedVariables false
def l1 (l r : Nat → Int) (m : Nat) : Nat → Int := if m ≤ 1 then l else if m = 2 then sideL l r else midL l r
def l2 (l r : Nat → Int) (m : Nat) : Nat → Int := if m = 0 ∨ m = 2 then r else sideL l r
def w1 (d m : Nat) : Nat := if m = 2 then d + 1 else d
def w2 (d m : Nat) : Nat := if m = 0 ∨ m = 2 then d else d + 1
theorem pairT_eq (d : Nat) (l r : Nat → Int) (n m : Nat) (hm : m < 4) : pairT d l r n m = subT (w1 d m) (l1 l r m) n ++ subT (w2 d m) (l2 l r m) n := by
  match m, hm with
  | 0, _ => rfl
  | 1, _ => rfl
  | 2, _ => rfl
  | 3, _ => rfl
theorem width0_any (d m : Nat) (w : World) (hd : d ≤ 12) (hm : m < 4) : Calls Tryz.prog 150 #[.int .i64 d, .int .i64 m, .int .i64 0] w fun e w' => e = .returned (.int .i64 (w1 d m)) ∧ w' = w := by
  match m, hm with
  | 0, _ => go_enter Tryz.func150, Tryz.ntmps150; go_wp2; go_ret; exact ⟨rfl, rfl⟩
  | 1, _ => go_enter Tryz.func150, Tryz.ntmps150; go_wp2; go_ret; exact ⟨rfl, rfl⟩
  | 2, _ => go_enter Tryz.func150, Tryz.ntmps150; go_wp2; go_ret; exact ⟨rfl, rfl⟩
  | 3, _ => go_enter Tryz.func150, Tryz.ntmps150; go_wp2; go_ret; exact ⟨rfl, rfl⟩
theorem width1_any (d m : Nat) (w : World) (hd : d ≤ 12) (hm : m < 4) : Calls Tryz.prog 150 #[.int .i64 d, .int .i64 m, .int .i64 1] w fun e w' => e = .returned (.int .i64 (w2 d m)) ∧ w' = w := by
  match m, hm with
  | 0, _ => go_enter Tryz.func150, Tryz.ntmps150; go_wp2; go_ret; exact ⟨rfl, rfl⟩
  | 1, _ => go_enter Tryz.func150, Tryz.ntmps150; go_wp2; go_ret; exact ⟨rfl, rfl⟩
  | 2, _ => go_enter Tryz.func150, Tryz.ntmps150; go_wp2; go_ret; exact ⟨rfl, rfl⟩
  | 3, _ => go_enter Tryz.func150, Tryz.ntmps150; go_wp2; go_ret; exact ⟨rfl, rfl⟩
theorem tdiv2 (a : Int) : (a.tmod 2 < 0 → a.tdiv 2 = a / 2 + 1) ∧ (¬ a.tmod 2 < 0 → a.tdiv 2 = a / 2) := by
  have h0 := Int.mul_tdiv_add_tmod a 2
  have h1 := Int.tmod_lt_of_pos a (show (0 : Int) < 2 by decide)
  have h2 : -2 < a.tmod 2 := by have := Int.lt_tmod_of_pos a (show (0 : Int) < 2 by decide); omega
  omega
theorem down2_any (a : Int) (w : World) (h : -2000000 ≤ a ∧ a ≤ 2000000) :
    Calls Tryz.prog 170 #[.int .i64 a, .int .i64 2] w fun e w' => e = .returned (.int .i64 (a / 2)) ∧ w' = w := by
  have ht := tdiv2 a
  by_cases hm : a.tmod 2 < 0
  · have hd : decide (a.tmod 2 < 0) = true := decide_eq_true hm
    have he : a.tdiv 2 = a / 2 + 1 := ht.1 hm
    clear ht
    go_enter Tryz.func170, Tryz.ntmps170
    go_wp2
    go_ret
    exact ⟨ret_int rfl, rfl⟩
  · have hd : decide (a.tmod 2 < 0) = false := decide_eq_false hm
    have he : a.tdiv 2 = a / 2 := ht.2 hm
    clear ht
    go_enter Tryz.func170, Tryz.ntmps170
    go_wp2
    go_ret
    exact ⟨ret_int rfl, rfl⟩
end Go.Proofs.YtlncjgnomhpjnaaGreatDoor

/-
  A frame's head, laid down.
-/
namespace Go.Proofs.YtlncjgnomhpjnaaGreatDoor
open Go.RowKit Go.Deep
set_option linter.unusedVariables false
/-- a cell of a variable's block, in a later world -/
theorem keep_cell {u u' : World} {b o : Nat} {v : Value} (h : Below u.heap.size u u') (hb : b < u.heap.size) (hc : u.cell? ⟨b, o, none⟩ = some v) : u'.cell? ⟨b, o, none⟩ = some v :=
  (h.cell (p := ⟨b, o, none⟩) hb).trans hc
end Go.Proofs.YtlncjgnomhpjnaaGreatDoor

/-
  What a right configuration, a sound and a block are, in the document: reelref.Right, even.
-/
namespace Go.Proofs.YtlncjgnomhpjnaaGreatDoor
open Go.RowKit Go.Deep
set_option linter.unusedVariables false
theorem rightB_iff (c0 c1 c2 c3 c4 c5 c6 c7 : Int) : rightB c0 c1 c2 c3 c4 c5 c6 c7 = true ↔
    (1 ≤ c0 ∧ c0 ≤ 4) ∧ (4 ≤ c1 ∧ c1 ≤ 12) ∧ (1 ≤ c2 ∧ c2 ≤ 32) ∧ (0 ≤ c3 ∧ c3 ≤ 65535) ∧ (0 ≤ c4 ∧ c4 ≤ 255) ∧ (1 ≤ c5 ∧ c5 ≤ 8) ∧ (1 ≤ c6 ∧ c6 ≤ 16) ∧ (1 ≤ c7 ∧ c7 ≤ 8) := by
  simp only [rightB, Bool.and_eq_true, within_iff]
set_option maxHeartbeats 4000000 in
theorem right_any (c0 c1 c2 c3 c4 c5 c6 c7 : Int) (w : World) :
    Calls Tryz.prog 69 #[.agg #[.int .i64 c0, .int .i64 c1, .int .i64 c2, .int .i64 c3, .int .i64 c4, .int .i64 c5, .int .i64 c6, .int .i64 c7]] w fun e w' =>
      Says e (rightB c0 c1 c2 c3 c4 c5 c6 c7 = true) ∧ Below w.heap.size w w' := by
  have fin : ∀ o, Below w.heap.size w (w.alloc o) := fun o => (Below.refl _ _).alloc (Nat.le_refl _) _
  go_enter Tryz.func69, Tryz.ntmps69
  go_wp2
  all_goals go_ret
  all_goals first
    | exact ⟨Says.no (fun h => by rw [rightB_iff] at h; omega), fin _⟩
    | exact ⟨⟨_, rfl, by rw [rightB_iff]; simp; omega⟩, fin _⟩
end Go.Proofs.YtlncjgnomhpjnaaGreatDoor

/-
  The remainder, reckoned byte by byte: for examples.
-/
namespace Go.Proofs.YtlncjgnomhpjnaaGreatDoor
set_option linter.unusedVariables false
def stepB (k D R : Nat) : Nat := if R * 2 / 2 ^ k = 1 then (R * 2) ^^^ D else R * 2
def stepsB (k D : Nat) : Nat → Nat → Nat
  | 0, R => R
  | t + 1, R => stepB k D (stepsB k D t R)
def byteB (k D R c : Nat) : Nat := stepsB k D 8 (R ^^^ c * 2 ^ (k - 8))
def remB (k D : Nat) (l : List UInt8) : Nat := l.foldl (fun R c => byteB k D R c.toNat) 0
theorem step_good {k D : Nat} {m : Nat → Bool} {i e R : Nat} (hk : 8 ≤ k) (hD : D < 2 ^ (k + 1)) (hD1 : D.testBit k = true) (hi : i < e) (he : e ≤ i + 8) (h : Good k D m i e R) : Good k D m (i + 1) e (stepB k D R) := by
  unfold stepB
  split
  · exact good_yes hk hD hD1 hi he h (by assumption)
  · exact good_no hk hi he h (by assumption)
theorem steps_good {k D : Nat} {m : Nat → Bool} {i R : Nat} (hk : 8 ≤ k) (hD : D < 2 ^ (k + 1)) (hD1 : D.testBit k = true) (h : Good k D m i (i + 8) R) : ∀ t, t ≤ 8 → Good k D m (i + t) (i + 8) (stepsB k D t R)
  | 0, _ => h
  | t + 1, ht => step_good (i := i + t) (e := i + 8) hk hD hD1 (by omega) (by omega) (steps_good hk hD hD1 h t (by omega))
theorem remB_good {k D : Nat} (l : List UInt8) (hk : 8 ≤ k) (hD : D < 2 ^ (k + 1)) (hD1 : D.testBit k = true) : ∀ i, i ≤ l.length → Good k D (msgBit l) (8 * i) (8 * i) (remB k D (l.take i))
  | 0, _ => by simpa [remB] using good_zero k D (msgBit l)
  | i + 1, hi => by
    have ih := remB_good l hk hD hD1 i (by omega)
    have hlt : i < l.length := by omega
    have e : remB k D (l.take (i + 1)) = byteB k D (remB k D (l.take i)) l[i].toNat := by
      unfold remB
      rw [List.take_succ_eq_append_getElem hlt, List.foldl_append]
      rfl
    rw [e]
    have hs := good_start (c := l[i].toNat) hk (UInt8.toNat_lt _) (fun x hx => by
      rw [msgBit_byte _ _ _ hx, List.getD_eq_getElem?_getD, List.getElem?_eq_getElem hlt]; rfl) ih
    have := steps_good hk hD hD1 hs 8 (by omega)
    rw [show 8 * (i + 1) = 8 * i + 8 by omega]
    exact this
theorem crc_fast {k D : Nat} (l : List UInt8) (hk : 8 ≤ k) (hD : D < 2 ^ (k + 1)) (hD1 : D.testBit k = true) : crc k D l = remB k D l := by
  have h := remB_good l hk hD hD1 l.length (Nat.le_refl _)
  rw [List.take_length] at h
  exact good_inj (crc_good k D l) h
theorem crc8_fast (l : List UInt8) : crc 8 263 l = remB 8 263 l := crc_fast l (by decide) (by decide) (by decide)
theorem crc16_fast (l : List UInt8) : crc 16 98309 l = remB 16 98309 l := crc_fast l (by decide) (by decide) (by decide)
end Go.Proofs.YtlncjgnomhpjnaaGreatDoor

/-
  The six tables among the laid variables of 'Frames'.
-/
namespace Go.Proofs.YtlncjgnomhpjnaaGreatDoor
open Go Go.Lib
set_option linter.unusedVariables false
theorem tab_lt4 {w : World} {g i : Nat} {v : Value} (h : w.cell? ⟨g, i, none⟩ = some v) : g < w.heap.size := by
  by_cases hg : g < w.heap.size
  · exact hg
  · have hn : w.heap[g]? = none := Array.getElem?_eq_none (by omega)
    simp [World.cell?, hn] at h
def pairRows : List (List Int) := [[0, 1], [0, 2], [2, 1], [3, 2]]
theorem gPairs : Tryz.prog.globalNamed "reel/frame.pairs" = some 2 := by kernel_rfl
theorem gPairsType : (Tryz.prog.globals[2]?).map (·.type) = some 140 := by kernel_rfl
theorem cells42 : Tryz.prog.cellsOf 140 = 4 * 2 := by kernel_rfl
theorem cells2 : Tryz.prog.cellsOf 139 = 2 := by kernel_rfl
theorem pairRows_at (r c : Nat) (hr : r < 4) (hc : c < 2) : ∃ zs, pairRows[r]? = some zs ∧ zs[c]? = some (pairV r c) := by
  have h : ∀ r : Fin 4, ∀ c : Fin 2, (pairRows[r.val]?.bind fun zs => zs[c.val]?) = some (pairV r.val c.val) := by decide
  have := h ⟨r, hr⟩ ⟨c, hc⟩
  exact Option.bind_eq_some_iff.1 this
end Go.Proofs.YtlncjgnomhpjnaaGreatDoor

/-
  Plain mathematics for 'Sums': running sums of bytes. No dump is imported.
-/
namespace Go.Proofs.YtlncjgnomhpjnaaGreatDoor
/-- one and the bytes' sum -/
def sA (l : List UInt8) : Nat := l.foldl (fun a c => a + c.toNat) 1
/-- the sum of the sums -/
def sP (l : List UInt8) : Nat × Nat := l.foldl (fun p c => (p.1 + c.toNat, p.2 + (p.1 + c.toNat))) (1, 0)
def sB (l : List UInt8) : Nat := (sP l).2
/-- the sum by weights -/
def sQ (n : Nat) (l : List UInt8) : Nat × Nat := l.foldl (fun p c => (p.1 + 1, p.2 + (n - p.1) * c.toNat)) (0, n)
def sR (n : Nat) (l : List UInt8) : Nat := (sQ n l).2
theorem sA_snoc (l : List UInt8) (c : UInt8) : sA (l ++ [c]) = sA l + c.toNat := by simp [sA, List.foldl_append]
theorem sP_snoc (l : List UInt8) (c : UInt8) : sP (l ++ [c]) = ((sP l).1 + c.toNat, (sP l).2 + ((sP l).1 + c.toNat)) := by simp [sP, List.foldl_append]
theorem sQ_snoc (n : Nat) (l : List UInt8) (c : UInt8) : sQ n (l ++ [c]) = ((sQ n l).1 + 1, (sQ n l).2 + (n - (sQ n l).1) * c.toNat) := by simp [sQ, List.foldl_append]
theorem snoc_ind {P : List UInt8 → Prop} (h0 : P []) (h1 : ∀ l c, P l → P (l ++ [c])) (l : List UInt8) : P l := by
  have h : ∀ m : List UInt8, P m.reverse := by
    intro m
    induction m with
    | nil => exact h0
    | cons c m ih => rw [List.reverse_cons]; exact h1 _ _ ih
  have := h l.reverse
  rwa [List.reverse_reverse] at this
theorem sP_fst (l : List UInt8) : (sP l).1 = sA l := by
  refine snoc_ind (P := fun l => (sP l).1 = sA l) rfl ?_ l
  intro l c ih
  rw [sP_snoc, sA_snoc, ih]
theorem sQ_fst (n : Nat) (l : List UInt8) : (sQ n l).1 = l.length := by
  refine snoc_ind (P := fun l => (sQ n l).1 = l.length) rfl ?_ l
  intro l c ih
  rw [sQ_snoc, ih]; simp
theorem sB_snoc (l : List UInt8) (c : UInt8) : sB (l ++ [c]) = sB l + sA (l ++ [c]) := by
  unfold sB; rw [sP_snoc, sA_snoc, sP_fst]
theorem sR_snoc (n : Nat) (l : List UInt8) (c : UInt8) : sR n (l ++ [c]) = sR n l + (n - l.length) * c.toNat := by
  unfold sR; rw [sQ_snoc, sQ_fst]
theorem sR_succ (n : Nat) (l : List UInt8) (h : l.length ≤ n) : sR (n + 1) l = sR n l + sA l := by
  refine snoc_ind (P := fun l => l.length ≤ n → sR (n + 1) l = sR n l + sA l) (fun _ => rfl) ?_ l h
  intro l c ih h
  simp only [List.length_append, List.length_cons, List.length_nil] at h
  rw [sR_snoc, sR_snoc, sA_snoc, ih (by omega)]
  have : n + 1 - l.length = (n - l.length) + 1 := by omega
  rw [this, Nat.succ_mul]
  omega
theorem sR_full (l : List UInt8) : sR l.length l = sB l := by
  refine snoc_ind (P := fun l => sR l.length l = sB l) rfl ?_ l
  intro l c ih
  rw [sR_snoc, sB_snoc, sA_snoc]
  simp only [List.length_append, List.length_cons, List.length_nil, Nat.zero_add]
  rw [sR_succ _ _ (Nat.le_refl _), ih]
  have : l.length + 1 - l.length = 1 := by omega
  rw [this]
  omega
end Go.Proofs.YtlncjgnomhpjnaaGreatDoor

/-
  A stream as a text: mathematics for stream.Encode and reelref.Encode.
-/
namespace Go.Proofs.YtlncjgnomhpjnaaGreatDoor
set_option linter.unusedVariables false
/-- the samples of block k -/
def blkF (F : Nat → Nat → Int) (B k i j : Nat) : Int := F i (k * B + j)
def blkN (S B k : Nat) : Nat := min B (S - k * B)
def nBlk (S B : Nat) : Nat := (S + B - 1) / B
theorem nBlk_le {S B : Nat} (hB : 1 ≤ B) : nBlk S B ≤ S := by
  unfold nBlk
  have h : (S + B - 1) / B < S + 1 := by
    rw [Nat.div_lt_iff_lt_mul (by omega), Nat.add_mul, Nat.one_mul]
    have : S ≤ S * B := Nat.le_mul_of_pos_right S hB
    omega
  omega
theorem nBlk_lt {S B k : Nat} (hB : 1 ≤ B) : k < nBlk S B ↔ k * B < S := by
  unfold nBlk
  constructor
  · intro h
    have h2 : (k + 1) * B ≤ S + B - 1 := Nat.le_trans (Nat.mul_le_mul_right B h) (Nat.div_mul_le_self _ _)
    rw [Nat.add_mul, Nat.one_mul] at h2
    omega
  · intro h
    rw [← Nat.succ_le_iff, Nat.le_div_iff_mul_le (by omega), Nat.succ_mul]
    omega
theorem blkN_bd {S B k : Nat} (hB : 1 ≤ B) (h : k < nBlk S B) : 1 ≤ blkN S B k ∧ blkN S B k ≤ B ∧ k * B + blkN S B k ≤ S := by
  have := (nBlk_lt hB).1 h
  unfold blkN
  omega
/-- the frame of block k -/
def frT (d n : Nat) (F : Nat → Nat → Int) (S B k : Nat) : List UInt8 := frameT k (blkN S B k) (modeN d n (blkF F B k) (blkN S B k)) (blockT d n (blkF F B k) (blkN S B k))
/-- the first k frames -/
def frsT (d n : Nat) (F : Nat → Nat → Int) (S B : Nat) : Nat → List UInt8
  | 0 => []
  | k + 1 => frsT d n F S B k ++ frT d n F S B k
/-- of frames with these lengths: the shortest, the longest, where each begins, the points -/
def leastN (ln : Nat → Nat) : Nat → Nat
  | 0 => 0
  | k + 1 => if k = 0 ∨ ln k < leastN ln k then ln k else leastN ln k
def mostN (ln : Nat → Nat) : Nat → Nat
  | 0 => 0
  | k + 1 => max (mostN ln k) (ln k)
def atN (ln : Nat → Nat) : Nat → Nat
  | 0 => 0
  | k + 1 => atN ln k + ln k
def pntN (ln : Nat → Nat) (seek : Nat) : Nat → List Nat
  | 0 => []
  | k + 1 => if 0 < seek ∧ k % seek = 0 then pntN ln seek k ++ [atN ln k] else pntN ln seek k
theorem leastN_bd {ln : Nat → Nat} {m : Nat} : ∀ k, (∀ i, i < k → ln i ≤ m) → leastN ln k ≤ m
  | 0, _ => by simp [leastN]
  | k + 1, h => by
    have ih := leastN_bd k (fun i hi => h i (by omega))
    have := h k (by omega)
    unfold leastN; split <;> omega
theorem mostN_bd {ln : Nat → Nat} {m : Nat} : ∀ k, (∀ i, i < k → ln i ≤ m) → mostN ln k ≤ m
  | 0, _ => by simp [mostN]
  | k + 1, h => by
    have ih := mostN_bd k (fun i hi => h i (by omega))
    have := h k (by omega)
    unfold mostN; omega
theorem atN_bd {ln : Nat → Nat} {m : Nat} : ∀ k, (∀ i, i < k → ln i ≤ m) → atN ln k ≤ m * k
  | 0, _ => by simp [atN]
  | k + 1, h => by
    have ih := atN_bd k (fun i hi => h i (by omega))
    have := h k (by omega)
    unfold atN; rw [Nat.mul_succ]; omega
theorem pntN_len (ln : Nat → Nat) (seek : Nat) : ∀ k, (pntN ln seek k).length ≤ k
  | 0 => by simp [pntN]
  | k + 1 => by
    have ih := pntN_len ln seek k
    unfold pntN; split
    · rw [List.length_append]; simp; omega
    · omega
/-- the bytes of points -/
def ptsT (l : List Nat) : List UInt8 := l.foldl (fun t p => t ++ inT p 2) []
theorem ptsT_snoc (l : List Nat) (p : Nat) : ptsT (l ++ [p]) = ptsT l ++ inT p 2 := by simp [ptsT, List.foldl_append]
theorem ptsT_take (l : List Nat) (k : Nat) (h : k < l.length) : ptsT (l.take (k + 1)) = ptsT (l.take k) ++ inT l[k] 2 := by
  rw [List.take_succ_eq_append_getElem h, ptsT_snoc]
theorem ptsT_length : ∀ (l : List Nat) (k : Nat), k ≤ l.length → (ptsT (l.take k)).length = 2 * k
  | l, 0, _ => by simp [ptsT]
  | l, k + 1, h => by
    rw [ptsT_take l k (by omega), List.length_append, inT_length, ptsT_length l k (by omega)]
    omega
/-- a head's fields, and the head -/
def fieldsT (whole c0 c1 c2 c3 s c4 least most sum : Nat) : List UInt8 :=
  [82, 76] ++ inT whole 1 ++ inT c0 1 ++ inT c1 1 ++ inT c2 1 ++ inT c3 2 ++ inT s 2 ++ inT c4 1 ++ inT least 2 ++ inT most 2 ++ inT sum 4
theorem fieldsT_length (whole c0 c1 c2 c3 s c4 least most sum : Nat) : (fieldsT whole c0 c1 c2 c3 s c4 least most sum).length = 19 := by simp [fieldsT, inT_length]
def headTx (whole c0 c1 c2 c3 s c4 least most sum : Nat) (pts : List Nat) : List UInt8 := seal16 (seal8 (fieldsT whole c0 c1 c2 c3 s c4 least most sum) ++ ptsT pts)
theorem headTx_length (whole c0 c1 c2 c3 s c4 least most sum : Nat) (pts : List Nat) : (headTx whole c0 c1 c2 c3 s c4 least most sum pts).length = 22 + 2 * pts.length := by
  unfold headTx
  have := ptsT_length pts pts.length (Nat.le_refl _)
  rw [List.take_length] at this
  rw [seal16_length, List.length_append, seal8_length, fieldsT_length, this]
  omega
/-- the bytes of a sound, sample by sample -/
def smpB (v : Int) (h : Bool) : UInt8 := if h then UInt8.ofNat ((v % 65536).toNat / 256) else UInt8.ofNat ((v % 65536).toNat % 256)
def intB (n : Nat) (F : Nat → Nat → Int) (j : Nat) : UInt8 := smpB (F (j / 2 % n) (j / 2 / n)) (j % 2 == 1)
def intT (n : Nat) (F : Nat → Nat → Int) (m : Nat) : List UInt8 := (List.range m).map (intB n F)
theorem intT_length (n : Nat) (F : Nat → Nat → Int) (m : Nat) : (intT n F m).length = m := by simp [intT]
theorem intT_two (n : Nat) (F : Nat → Nat → Int) (i p : Nat) (hi : i < n) : intT n F (2 * (p * n + i) + 2) = intT n F (2 * (p * n + i)) ++ [smpB (F i p) false, smpB (F i p) true] := by
  unfold intT
  rw [show 2 * (p * n + i) + 2 = 2 * (p * n + i) + 1 + 1 from rfl, List.range_succ, List.range_succ]
  simp only [List.map_append, List.map_cons, List.map_nil, List.append_assoc, List.cons_append, List.nil_append]
  have hn : 0 < n := by omega
  have e1 : 2 * (p * n + i) / 2 = p * n + i := by omega
  have e2 : (2 * (p * n + i) + 1) / 2 = p * n + i := by omega
  have e3 : (p * n + i) % n = i := by rw [Nat.add_comm, Nat.add_mul_mod_self_right, Nat.mod_eq_of_lt hi]
  have e4 : (p * n + i) / n = p := by rw [Nat.add_comm, Nat.add_mul_div_right _ _ hn, Nat.div_eq_of_lt hi, Nat.zero_add]
  have e5 : (2 * (p * n + i) % 2 == 1) = false := by simp
  have e6 : ((2 * (p * n + i) + 1) % 2 == 1) = true := by simp
  unfold intB
  rw [e1, e2, e3, e4, e5, e6]
/-- what Sum says of bytes -/
def sumN (l : List UInt8) : Nat := 65536 * (sB l % 65521) + sA l % 65521
theorem sumN_lt (l : List UInt8) : sumN l < 4294967296 := by
  unfold sumN
  have h1 : sB l % 65521 < 65521 := Nat.mod_lt _ (by decide)
  have h2 : sA l % 65521 < 65521 := Nat.mod_lt _ (by decide)
  omega
end Go.Proofs.YtlncjgnomhpjnaaGreatDoor

/-
  Rows that grow: append.
-/
namespace Go.Proofs.YtlncjgnomhpjnaaGreatDoor
open Go.RowKit Go.Deep
set_option linter.unusedVariables false
theorem grown_tr {a b c : World} {r : Option Nat} (h : a.grownBy b r) (k : b.grownBy c r) : a.grownBy c r :=
  ⟨k.os.trans h.os, k.tape.trans h.tape, k.output.trans h.output, Nat.le_trans h.size k.size, fun j hj hne => (k.block j (Nat.lt_of_lt_of_le hj h.size) hne).trans (h.block j hj hne)⟩
theorem wpList_append_rn {P : Program} {w w' : World} {ops : Array Oper} {rest : List Oper} {o : Oper} {a : Act} {Q : Exit → Act → World → Prop}
    (hg : o.guard = none) (s x : Operand) (t : TypeId) (hop : o.op = Op.call { callee := Callee.builtin Builtin.append, args := #[s, x], argTypes := #[t, t] })
    (v b v' : Value) (hs : a.eval s = v) (hx : a.eval x = b) (hrun : (Builtin.append_ #[t, t] o.type #[v, b]).run P w = .ok v' w') (h : wpList P ops Q rest (a.put o.dst v') w') : wpList P ops Q (o :: rest) a w := by
  refine wpList_plain hg fun K hK' => ?_
  unfold Oper.wp
  simp [execOp, hop, resolve, invoke, builtin, hs, hx, hrun, Result.andThen]
  exact hK' _ _ h
/-- new cells behind a row of one's own -/
theorem app_row (t e : TypeId) (z : Value) (bytes : Nat) (ht : Tryz.prog.underlying t = some (.slice e)) (hinfo : (Tryz.prog.info? e).map (fun i => (i.zero, i.size, i.bytes)) = some (some z, 1, bytes)) (hzs : z.cells.size = 1)
    (w : World) (base : Nat) (kv : Value) (j : Nat) (ks : List Value) (arr : Array Value) (hown : w.ownsRow base e 1 kv j ks) (hk1 : 1 ≤ arr.size) (h1 : ∀ u ∈ arr.toList, u.oneCell' = true) (hm : j + arr.size ≤ maxLen) (hby : (j + arr.size) * bytes ≤ 140737488355328) (hbase : base ≤ w.heap.size) (ty : TypeId) :
    ∃ g cap w', (Builtin.append_ #[t, t] ty #[kv, .slice (some ⟨w.heap.size, 0, none⟩) arr.size arr.size]).run Tryz.prog (w.alloc (.cells arr e)) = .ok (.slice (some ⟨g, 0, none⟩) (j + arr.size) cap) w' ∧
      w'.ownsRow base e 1 (.slice (some ⟨g, 0, none⟩) (j + arr.size) cap) (j + arr.size) (ks ++ arr.toList) ∧ w.grownBy w' kv.ownBlock := by
  obtain ⟨i0, hi, hz0, hz1, hz2⟩ := info_parts hinfo
  have hnews : ∀ j u, arr.toList[j]? = some u → (w.alloc (.cells arr e)).cell? ((⟨w.heap.size, 0, none⟩ : Addr).add j) = some u := by
    intro j u hj
    have : (w.alloc (.cells arr e)).cell? ⟨w.heap.size, j, none⟩ = arr[j]? := World.cell?_alloc_new _ _ _ _
    rw [show ((⟨w.heap.size, 0, none⟩ : Addr).add j) = ⟨w.heap.size, j, none⟩ by cases j <;> simp [Addr.add], this]
    simpa using hj
  obtain ⟨v', w', hr, ho, hgr, hnil⟩ := run_append_own (P := Tryz.prog) (w.alloc (.cells arr e)) base t ty e i0 z 1 bytes ht hi hz0 hz1 hz2 hzs (by omega) kv j ks (hown.alloc _)
    ⟨w.heap.size, 0, none⟩ arr.size arr.size arr.toList (by simp) hnews h1 hm hby (by simp; omega)
  rcases ho.2 with ⟨-, h0⟩ | ⟨g, cap, cur, rfl, -⟩
  · omega
  · exact ⟨g, cap, w', hr, ho, grown_tr (World.grownBy_alloc w _ _) hgr⟩
end Go.Proofs.YtlncjgnomhpjnaaGreatDoor

/-
  Sums of bytes: sums.SumOn and reelref.Sum.
-/
namespace Go.Proofs.YtlncjgnomhpjnaaGreatDoor
open Go.RowKit Go.Deep
set_option linter.unusedVariables false
theorem sumN_parts (l : List UInt8) : ((sumN l : Nat) : Int).tmod 65536 = ((sA l % 65521 : Nat) : Int) ∧ ((sumN l : Nat) : Int).tdiv 65536 = ((sB l % 65521 : Nat) : Int) ∧ ((sumN l : Nat) : Int) % 65536 = ((sA l % 65521 : Nat) : Int) ∧ ((sumN l : Nat) : Int) / 65536 = ((sB l % 65521 : Nat) : Int) := by
  have h2 : sA l % 65521 < 65521 := Nat.mod_lt _ (by decide)
  rw [Int.tmod_eq_emod_of_nonneg (by omega), Int.tdiv_eq_ediv_of_nonneg (by omega)]
  unfold sumN
  omega
set_option maxHeartbeats 400000 in
/-- the program's sum, behind other bytes -/
theorem sumOn_any (p T : List UInt8) (w : World) (hT : T.length ≤ 2097152) :
    Calls Tryz.prog 164 #[.int .i64 (sumN p : Nat), .string (bs T)] w fun e w' => e = .returned (.int .i64 (sumN (p ++ T) : Nat)) ∧ w' = w := by
  have hz : (bs T).size = T.length := bs_size T
  have HG : Hid (∀ k (h : k < (bs T).size), (bs T)[k] = T[k]'(by rw [hz] at h; exact h)) := fun k h => bs_get T k h
  generalize bs T = S at *
  obtain ⟨q1, q2, q3, q4⟩ := sumN_parts p
  have q5 := sumN_lt p
  generalize hN : sumN p = N0 at *
  clear hN
  have hA0 : sA p % 65521 < 65521 := Nat.mod_lt _ (by decide)
  have hB0 : sB p % 65521 < 65521 := Nat.mod_lt _ (by decide)
  have HA0 : Hid (sA p % 65521 = sA (p ++ T.take 0) % 65521 ∧ sB p % 65521 = sB (p ++ T.take 0) % 65521) := ⟨by simp, by simp⟩
  generalize sA p % 65521 = A0 at *
  generalize sB p % 65521 = B0 at *
  go_enter Tryz.func164, Tryz.ntmps164
  go_wp2
  clear q1 q2 q3 q4 q5 hA0 hB0
  go_loop [5, 6, 7, 14] (fun a b _ i => ∃ k : Nat, k ≤ T.length ∧ i = .int .i64 k ∧ a = .int .i64 ((sA (p ++ T.take k) % 65521 : Nat) : Int) ∧ b = .int .i64 ((sB (p ++ T.take k) % 65521 : Nat) : Int)) (fun _ _ _ i => T.length - (intOf i).toNat)
  case atStart => exact ⟨0, Nat.zero_le _, rfl, by rw [HA0.out.1], by rw [HA0.out.2]⟩
  case round =>
    obtain ⟨k, hk, rfl, rfl, rfl⟩ := hrel
    by_cases hlt : k < T.length
    · have hkS : k < S.size := by omega
      have hc : S[k].toNat < 256 := UInt8.toNat_lt _
      have HE : Hid (p ++ T.take (k + 1) = p ++ T.take k ++ [S[k]]) := by show _ = _; rw [List.take_succ_eq_append_getElem hlt, HG.out k hkS, List.append_assoc]
      have HA : Hid (sA (p ++ T.take (k + 1)) = sA (p ++ T.take k) + S[k].toNat) := by
        show _ = _; rw [HE.out, sA_snoc]
      have HB : Hid (sB (p ++ T.take (k + 1)) = sB (p ++ T.take k) + (sA (p ++ T.take k) + S[k].toNat)) := by
        show _ = _; rw [HE.out, sB_snoc, sA_snoc]
      clear HE
      generalize sA (p ++ T.take k) = A at *
      generalize sB (p ++ T.take k) = B at *
      have h1 : A % 65521 < 65521 := Nat.mod_lt _ (by decide)
      have h2 : B % 65521 < 65521 := Nat.mod_lt _ (by decide)
      go_wp2
      go_round
      case rel => exact ⟨k + 1, by omega, by go_num, by rw [HA.out]; go_num, by rw [HB.out]; go_num⟩
      case measure => simp [intOf]; omega
    · have e : k = T.length := by omega
      subst e
      rw [List.take_length]
      have HN : Hid (((sumN (p ++ T) : Nat) : Int) = 65536 * ((sB (p ++ T) % 65521 : Nat) : Int) + ((sA (p ++ T) % 65521 : Nat) : Int)) := by show _ = _; unfold sumN; omega
      have h1 : sA (p ++ T) % 65521 < 65521 := Nat.mod_lt _ (by decide)
      have h2 : sB (p ++ T) % 65521 < 65521 := Nat.mod_lt _ (by decide)
      generalize sA (p ++ T) % 65521 = A at *
      generalize sB (p ++ T) % 65521 = B at *
      go_wp2
      go_ret
      exact ⟨ret_int HN.out.symm, rfl⟩
theorem mod_step (B n v : Nat) : (B % 65521 + n % 65521 * v) % 65521 = (B + n * v) % 65521 := by
  rw [Nat.add_mod, Nat.mod_mod, Nat.mod_mul_mod, ← Nat.add_mod]
theorem refSum_step (B n v : Nat) : ((B : Int) % 65521 + (n : Int) % 65521 * (v : Int)) % 65521 = (((B + n * v) % 65521 : Nat) : Int) := by
  rw [← mod_step]; simp
set_option maxHeartbeats 400000 in
/-- the document's sum -/
theorem refSum_any (T : List UInt8) (w : World) (hs : T.length ≤ 2097152) :
    Calls Tryz.prog 98 #[.string (bs T)] w fun e w' => e = .returned (.int .i64 (sumN T : Nat)) ∧ w' = w := by
  have hz : (bs T).size = T.length := bs_size T
  have HG : Hid (∀ k (h : k < (bs T).size), (bs T)[k] = T[k]'(by rw [hz] at h; exact h)) := fun k h => bs_get T k h
  generalize bs T = S at *
  go_enter Tryz.func98, Tryz.ntmps98
  go_wp2
  go_loop [4, 5, 6] (fun a b i => ∃ k : Nat, k ≤ T.length ∧ i = .int .i64 k ∧ a = .int .i64 ((sA (T.take k) % 65521 : Nat) : Int) ∧ b = .int .i64 ((sR T.length (T.take k) % 65521 : Nat) : Int)) (fun _ _ i => T.length - (intOf i).toNat)
  case atStart => exact ⟨0, Nat.zero_le _, rfl, rfl, rfl⟩
  case round =>
    obtain ⟨k, hk, rfl, rfl, rfl⟩ := hrel
    by_cases hlt : k < T.length
    · have hkS : k < S.size := by omega
      have hc : S[k].toNat < 256 := UInt8.toNat_lt _
      have HE : Hid (T.take (k + 1) = T.take k ++ [S[k]]) := by show _ = _; rw [List.take_succ_eq_append_getElem hlt, HG.out k hkS]
      have HA : Hid (sA (T.take (k + 1)) = sA (T.take k) + S[k].toNat) := by
        show _ = _; rw [HE.out, sA_snoc]
      have HB : Hid (sR T.length (T.take (k + 1)) = sR T.length (T.take k) + (T.length - k) * S[k].toNat) := by
        show _ = _; rw [HE.out, sR_snoc]; rw [List.length_take, Nat.min_eq_left (by omega)]
      clear HE
      generalize sA (T.take k) = A at *
      generalize sR T.length (T.take k) = B at *
      have h1 : A % 65521 < 65521 := Nat.mod_lt _ (by decide)
      have h2 : B % 65521 < 65521 := Nat.mod_lt _ (by decide)
      have h4 : ((T.length : Int) - (k : Int)) % 65521 * (S[k].toNat : Int) ≤ 16777216 := by
        have := Int.emod_lt_of_pos ((T.length : Int) - (k : Int)) (b := 65521) (by decide)
        have h0 := Int.emod_nonneg ((T.length : Int) - (k : Int)) (b := 65521) (by decide)
        have : ((T.length : Int) - (k : Int)) % 65521 * (S[k].toNat : Int) ≤ 65521 * 256 := Int.mul_le_mul (by omega) (by omega) (by omega) (by omega)
        omega
      have h5 : 0 ≤ ((T.length : Int) - (k : Int)) % 65521 * (S[k].toNat : Int) := Int.mul_nonneg (Int.emod_nonneg _ (by decide)) (by omega)
      go_wp2
      go_round
      case rel =>
        refine ⟨k + 1, by omega, by go_num, by rw [HA.out]; go_num, ?_⟩
        rw [HB.out]
        have e : ((T.length : Int) - (k : Int)) = ((T.length - k : Nat) : Int) := by omega
        rw [e, refSum_step]
      case measure => simp [intOf]; omega
    · have e : k = T.length := by omega
      subst e
      rw [List.take_length, sR_full]
      have HN : Hid (((sumN T : Nat) : Int) = 65536 * ((sB T % 65521 : Nat) : Int) + ((sA T % 65521 : Nat) : Int)) := by show _ = _; unfold sumN; omega
      have h1 : sA T % 65521 < 65521 := Nat.mod_lt _ (by decide)
      have h2 : sB T % 65521 < 65521 := Nat.mod_lt _ (by decide)
      generalize sA T % 65521 = A at *
      generalize sB T % 65521 = B at *
      go_wp2
      go_ret
      exact ⟨ret_int HN.out.symm, rfl⟩
end Go.Proofs.YtlncjgnomhpjnaaGreatDoor

