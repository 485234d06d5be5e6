import Derived.Test.YtlncjgnomhpjnaaGreatDoorPL20
import Derived.Test.YtlncjgnomhpjnaaGreatDoorPL19
import Derived.Deep.RegionHeld3
/-
  What is sealed: sums.IsSealedByEight, sums.IsSealedBySixteen.
-/
namespace Go.Proofs.YtlncjgnomhpjnaaGreatDoor
open Go.RowKit Go.Deep
set_option linter.unusedVariables false
theorem bs_takeN (T : List UInt8) (k : Nat) : (bs T).extract 0 k = bs (T.take k) := by
  apply ByteArray.ext
  have hd : ((bs T).extract 0 k).data = (bs T).data.extract 0 k := by simp
  rw [hd]
  show T.toArray.extract 0 k = (T.take k).toArray
  simp
theorem bs_inj {T U : List UInt8} (h : bs T = bs U) : T = U := by
  have := congrArg (fun s => s.data.toList) h
  simpa [bs] using this
theorem str_beq (R S : ByteArray) : (R.toList == S.toList) = true ↔ R = S := by
  rw [beq_iff_eq, ByteArray.toList_eq, ByteArray.toList_eq]
  constructor
  · intro h
    cases R; cases S
    simpa using h
  · intro h; rw [h]
set_option maxHeartbeats 400000 in
theorem isSealed8_any (T : List UInt8) (w : World) (hs : T.length ≤ 1048576) :
    Calls Tryz.prog 114 #[.string (bs T)] w fun e w' => Says e (1 ≤ T.length ∧ seal8 (T.take (T.length - 1)) = T) ∧ Below w.heap.size w w' := by
  have hz : (bs T).size = T.length := bs_size T
  by_cases h1 : 1 ≤ T.length
  · have HSE := Hid.mk' (fun u => seal8_any (T.take (T.length - 1)) u (by rw [List.length_take]; omega))
    rw [← bs_takeN] at HSE
    have HQ : Hid (bs (seal8 (T.take (T.length - 1))) = bs T ↔ (1 ≤ T.length ∧ seal8 (T.take (T.length - 1)) = T)) := ⟨fun h => ⟨h1, bs_inj h⟩, fun h => congrArg bs h.2⟩
    generalize bs (seal8 (T.take (T.length - 1))) = R at *
    generalize bs T = S at *
    generalize T.length = n at *
    have w1 : IntKind.i64.wrap ((n : Int) - 1) = ((n - 1 : Nat) : Int) := by rw [IntKind.wrap_i64]; omega
    have hle : n - 1 ≤ n := by omega
    generalize n - 1 = n1 at *
    go_enter Tryz.func114, Tryz.ntmps114
    go_wp2_with (go_at_call 107; refine (HSE.out _).mono ?_; rintro e u1 ⟨rfl, hb⟩; have HB := Hid.mk' hb; clear hb HSE)
    go_ret
    exact ⟨⟨_, rfl, (str_beq R S).trans HQ.out⟩, HB.out⟩
  · have HQ : Hid (¬ (1 ≤ T.length ∧ seal8 (T.take (T.length - 1)) = T)) := fun h => h1 h.1
    generalize bs T = S at *
    generalize T.length = n at *
    have t1 : decide ((1 : Int) ≤ (n : Int)) = false := decide_eq_false (by omega)
    have hn : ¬ (1 : Int) ≤ (n : Int) := by omega
    go_enter Tryz.func114, Tryz.ntmps114
    go_wp2
    go_ret
    exact ⟨⟨false, rfl, by simp⟩, Below.refl _ _⟩
set_option maxHeartbeats 400000 in
theorem isSealed16_any (T : List UInt8) (w : World) (hs : T.length ≤ 1048576) :
    Calls Tryz.prog 76 #[.string (bs T)] w fun e w' => Says e (2 ≤ T.length ∧ seal16 (T.take (T.length - 2)) = T) ∧ Below w.heap.size w w' := by
  have hz : (bs T).size = T.length := bs_size T
  by_cases h1 : 2 ≤ T.length
  · have HSE := Hid.mk' (fun u => seal16_any (T.take (T.length - 2)) u (by rw [List.length_take]; omega))
    rw [← bs_takeN] at HSE
    have HQ : Hid (bs (seal16 (T.take (T.length - 2))) = bs T ↔ (2 ≤ T.length ∧ seal16 (T.take (T.length - 2)) = T)) := ⟨fun h => ⟨h1, bs_inj h⟩, fun h => congrArg bs h.2⟩
    generalize bs (seal16 (T.take (T.length - 2))) = R at *
    generalize bs T = S at *
    generalize T.length = n at *
    have w1 : IntKind.i64.wrap ((n : Int) - 2) = ((n - 2 : Nat) : Int) := by rw [IntKind.wrap_i64]; omega
    have hle : n - 2 ≤ n := by omega
    generalize n - 2 = n1 at *
    go_enter Tryz.func76, Tryz.ntmps76
    go_wp2_with (go_at_call 66; refine (HSE.out _).mono ?_; rintro e u1 ⟨rfl, hb⟩; have HB := Hid.mk' hb; clear hb HSE)
    go_ret
    exact ⟨⟨_, rfl, (str_beq R S).trans HQ.out⟩, HB.out⟩
  · have HQ : Hid (¬ (2 ≤ T.length ∧ seal16 (T.take (T.length - 2)) = T)) := fun h => h1 h.1
    generalize bs T = S at *
    generalize T.length = n at *
    have t1 : decide ((2 : Int) ≤ (n : Int)) = false := decide_eq_false (by omega)
    have hn : ¬ (2 : Int) ≤ (n : Int) := by omega
    go_enter Tryz.func76, Tryz.ntmps76
    go_wp2
    go_ret
    exact ⟨⟨false, rfl, by simp⟩, Below.refl _ _⟩
end Go.Proofs.YtlncjgnomhpjnaaGreatDoor

/-
  The bits of bytes: mathematics for bittext.OfBytes and reelref.spelt.
-/
namespace Go.Proofs.YtlncjgnomhpjnaaGreatDoor
set_option linter.unusedVariables false
/-- the bits of the first k bytes -/
def spellTo (T : List UInt8) (k : Nat) : List UInt8 := (List.range (8 * k)).map fun j => ltr (msgBit T j)
theorem spellTo_length (T : List UInt8) (k : Nat) : (spellTo T k).length = 8 * k := by simp [spellTo]
theorem bit_dec (v p : Nat) : v.testBit p = decide ((v : Int) / 2 ^ p % 2 = 1) := by
  rw [Nat.testBit_eq_decide_div_mod_eq]
  have e : ((v / 2 ^ p % 2 : Nat) : Int) = (v : Int) / 2 ^ p % 2 := by simp
  rw [← e, decide_eq_decide]
  omega
theorem spellTo_step (T : List UInt8) (k : Nat) (hk : k < T.length) : spellTo T (k + 1) = spellTo T k ++ binT (T[k].toNat : Nat) 8 := by
  unfold spellTo binT
  rw [show 8 * (k + 1) = 8 * k + 8 by omega, List.range_add, List.map_append, List.map_map]
  congr 1
  apply List.map_congr_left
  intro x hx
  have hx8 : x < 8 := List.mem_range.1 hx
  show ltr (msgBit T (8 * k + x)) = _
  rw [msgBit_byte _ _ _ hx8, List.getD_eq_getElem?_getD, List.getElem?_eq_getElem hk, Option.getD_some, bit_dec]
end Go.Proofs.YtlncjgnomhpjnaaGreatDoor

/-
  What two subframes tell, turned back: frame.unpaired.
-/
namespace Go.Proofs.YtlncjgnomhpjnaaGreatDoor
open Go.RowKit Go.Deep
set_option linter.unusedVariables false
/-- left and right of what a mode tells -/
def unL (m : Nat) (a b : Int) : Int := if m = 2 then a + b else if m = 3 then a + (b + 1) / 2 else a
def unR (m : Nat) (a b : Int) : Int := if m = 1 then a - b else if m = 3 then a + (b + 1) / 2 - b else b
set_option maxHeartbeats 400000 in
theorem unpaired_any (m : Nat) (a b : Int) (w : World) (hm : m < 4) (ha : -8192 ≤ a ∧ a ≤ 8192) (hb : -8192 ≤ b ∧ b ≤ 8192) :
    Calls Tryz.prog 119 #[.int .i64 m, .int .i64 a, .int .i64 b] w fun e w' => e = .returned (.tuple #[.int .i64 (unL m a b), .int .i64 (unR m a b)]) ∧ w' = w := by
  have w1 : IntKind.i64.wrap (a - b) = a - b := by rw [IntKind.wrap_i64]; omega
  have w2 : IntKind.i64.wrap (a + b) = a + b := by rw [IntKind.wrap_i64]; omega
  have w3 : IntKind.i64.wrap (2 * a) = 2 * a := by rw [IntKind.wrap_i64]; omega
  have hand := and_one b
  have w4 : IntKind.i64.wrap (2 * a + b % 2) = 2 * a + b % 2 := by rw [IntKind.wrap_i64]; omega
  have w5 : IntKind.i64.wrap (2 * a + b % 2 + b) = 2 * a + b % 2 + b := by rw [IntKind.wrap_i64]; omega
  have w6 : IntKind.i64.wrap (2 * a + b % 2 - b) = 2 * a + b % 2 - b := by rw [IntKind.wrap_i64]; omega
  have d1 : (2 * a + b % 2 + b).tdiv 2 = a + (b + 1) / 2 := by rw [Int.tdiv_eq_ediv_of_dvd (by omega)]; omega
  have d2 : (2 * a + b % 2 - b).tdiv 2 = a + (b + 1) / 2 - b := by rw [Int.tdiv_eq_ediv_of_dvd (by omega)]; omega
  match m, hm with
  | 0, _ =>
    go_enter Tryz.func119, Tryz.ntmps119
    go_wp2
    go_ret2
    exact ⟨rfl, rfl⟩
  | 1, _ =>
    go_enter Tryz.func119, Tryz.ntmps119
    go_wp2
    go_ret2
    exact ⟨rfl, rfl⟩
  | 2, _ =>
    go_enter Tryz.func119, Tryz.ntmps119
    go_wp2
    go_ret2
    exact ⟨rfl, rfl⟩
  | 3, _ =>
    go_enter Tryz.func119, Tryz.ntmps119
    go_wp2
    go_ret2
    exact ⟨rfl, rfl⟩
end Go.Proofs.YtlncjgnomhpjnaaGreatDoor

/-
  A frame's head, read: frame.readHead.
-/
namespace Go.Proofs.YtlncjgnomhpjnaaGreatDoor
open Go.RowKit Go.Deep
set_option linter.unusedVariables false
/-- a piece of a text -/
def pieceT (T : List UInt8) (a b : Nat) : List UInt8 := (T.drop a).take (b - a)
theorem bs_cut (T : List UInt8) (a b : Nat) : (bs T).extract a b = bs (pieceT T a b) := by
  apply ByteArray.ext
  have hd : ((bs T).extract a b).data = (bs T).data.extract a b := by simp
  rw [hd]
  show T.toArray.extract a b = (pieceT T a b).toArray
  simp [pieceT, List.extract_toArray, List.extract_eq_take_drop]
/-- a text begins with a frame's head -/
def HeadP (T : List UInt8) : Prop := 8 ≤ T.length ∧ T.getD 0 0 = 165 ∧ seal8 (T.take 7) = T.take 8
end Go.Proofs.YtlncjgnomhpjnaaGreatDoor

/-
  frame.readHead.
-/
namespace Go.Proofs.YtlncjgnomhpjnaaGreatDoor
open Go.RowKit Go.Deep
set_option linter.unusedVariables false
theorem pieceT_length (T : List UInt8) (a b : Nat) (h : b ≤ T.length) (hab : a ≤ b) : (pieceT T a b).length = b - a := by
  unfold pieceT
  rw [List.length_take, List.length_drop]
  omega
/-- what a head says -/
def hNum (T : List UInt8) : Nat := valN (pieceT T 1 3)
def hLen (T : List UInt8) : Nat := valN (pieceT T 3 5)
def hCnt (T : List UInt8) : Nat := valN (pieceT T 5 6)
def hMode (T : List UInt8) : Nat := valN (pieceT T 6 7)
theorem infoFHead : (Tryz.prog.info? 99).map (·.size) = some 4 := by kernel_rfl
theorem Bx.set4 {u : World} {g : Nat} {t : TypeId} {o0 o1 o2 o3 : Value} (h : Bx u g t #[o0, o1, o2, o3]) (s0 s1 s2 s3 : Value) : Bx ((((u.drew.setCell ⟨g, 0, none⟩ s0).setCell ⟨g, 1, none⟩ s1).setCell ⟨g, 2, none⟩ s2).setCell ⟨g, 3, none⟩ s3) g t #[s0, s1, s2, s3] := by
  have h' : u.drew.heap[g]? = some (.cells #[o0, o1, o2, o3] t (0, 0)) := h
  simp [Bx, World.setCell, Array.getElem?_modify, h']
theorem res_rh (tmps : Array Value) (R : Nat) (b : Bool) (cs : Array Value) (W : World) (h : Bx W R 99 cs) (hs : cs.size = 4) (h2 : tmps.getD 2 undef = .pointer (some ⟨R, 0, none⟩)) (h3 : tmps.getD 3 undef = .bool b) :
    (results Tryz.f74 tmps).run Tryz.prog W = .ok (.tuple #[.agg cs, .bool b]) W := by
  have hl := run_loadVar_row (P := Tryz.prog) W R 99 99 cs (0, 0) _ h Tryz.underlying99 rfl (by rw [hs]; exact infoFHead)
  rw [Array.getD_eq_getD_getElem?] at h2 h3
  simp [results, Tryz.results74, asAddr, h2, h3, hl]
set_option maxHeartbeats 400000 in
theorem readHead_yes (T : List UInt8) (w : World) (hs : T.length ≤ 1048576) (h : HeadP T) :
    Calls Tryz.prog 74 #[.string (bs T)] w fun e w' => e = .returned (.tuple #[.agg #[.int .i64 (hNum T), .int .i64 (hLen T), .int .i64 ((hCnt T : Int) + 1), .int .i64 (hMode T)], .bool true]) ∧ Below w.heap.size w w' := by
  have hz : (bs T).size = T.length := bs_size T
  have h8 := h.1
  have HSE := Hid.mk' (fun u => isSealed8_any (T.take 8) u (by rw [List.length_take]; omega))
  have HP : Hid (1 ≤ (T.take 8).length ∧ seal8 ((T.take 8).take ((T.take 8).length - 1)) = T.take 8) := by
    have e : (T.take 8).length = 8 := by rw [List.length_take]; omega
    refine ⟨by omega, ?_⟩
    rw [e, List.take_take]
    exact h.2.2
  rw [← bs_takeN] at HSE
  have HV1 := Hid.mk' (fun u => value_any (pieceT T 1 3) u (by rw [pieceT_length _ _ _ (by omega) (by omega)]; omega))
  have HV2 := Hid.mk' (fun u => value_any (pieceT T 3 5) u (by rw [pieceT_length _ _ _ (by omega) (by omega)]; omega))
  have HV3 := Hid.mk' (fun u => value_any (pieceT T 5 6) u (by rw [pieceT_length _ _ _ (by omega) (by omega)]; omega))
  have HV4 := Hid.mk' (fun u => value_any (pieceT T 6 7) u (by rw [pieceT_length _ _ _ (by omega) (by omega)]; omega))
  rw [← bs_cut] at HV1 HV2 HV3 HV4
  have hb0 : ∀ h0 : 0 < (bs T).size, ((bs T)[0]'h0).toNat = 165 := fun h0 => by
    have h2 := h.2.1
    rw [List.getD_eq_getElem?_getD, List.getElem?_eq_getElem (by omega), Option.getD_some] at h2
    rw [bs_get T 0 h0, h2]; rfl
  have hcb : hCnt T < 256 := by
    have h1 := valN_lt (pieceT T 5 6) 1 (by rw [pieceT_length _ _ _ (by omega) (by omega)]; omega)
    have e : (pieceT T 5 6).take 1 = pieceT T 5 6 := List.take_of_length_le (by rw [pieceT_length _ _ _ (by omega) (by omega)]; omega)
    rw [e] at h1
    exact h1
  have wc : IntKind.i64.wrap ((hCnt T : Int) + 1) = (hCnt T : Int) + 1 := by rw [IntKind.wrap_i64]; omega
  have HN1 : Hid (valN (pieceT T 1 3) = hNum T ∧ valN (pieceT T 3 5) = hLen T ∧ valN (pieceT T 5 6) = hCnt T ∧ valN (pieceT T 6 7) = hMode T) := ⟨rfl, rfl, rfl, rfl⟩
  rw [HN1.out.1] at HV1
  rw [HN1.out.2.1] at HV2
  rw [HN1.out.2.2.1] at HV3
  rw [HN1.out.2.2.2] at HV4
  clear h
  generalize bs T = S at *
  generalize T.length = n at *
  have hb1 := hb0 (by omega)
  clear hb0
  have HB0 : Hid (Below w.heap.size w (w.alloc (.cells #[.int .i64 0, .int .i64 0, .int .i64 0, .int .i64 0] 99))) := (Below.refl _ _).alloc (Nat.le_refl _) _
  have HK0 : Hid (w.heap.size < (w.alloc (.cells #[.int .i64 0, .int .i64 0, .int .i64 0, .int .i64 0] 99)).heap.size ∧ (w.alloc (.cells #[.int .i64 0, .int .i64 0, .int .i64 0, .int .i64 0] 99)).heap[w.heap.size]? = some (.cells #[.int .i64 0, .int .i64 0, .int .i64 0, .int .i64 0] 99 (0, 0))) := ⟨by simp, blk_alloc_new w _⟩
  have b3 : (3 : Int) ≤ (n : Int) := by omega
  have b5 : (5 : Int) ≤ (n : Int) := by omega
  have b6 : (6 : Int) ≤ (n : Int) := by omega
  have b7 : (7 : Int) ≤ (n : Int) := by omega
  have n3 : 3 ≤ n := by omega
  have n5 : 5 ≤ n := by omega
  have n6 : 6 ≤ n := by omega
  have n7 : 7 ≤ n := by omega
  go_enter Tryz.func74, Tryz.ntmps74
  go_wp2_with (go_at_call 114; refine (HSE.out _).mono ?_; rintro e u1 ⟨he, hb⟩; have he := he.true_of HP.out; subst he; have hk1 := keep_blk hb HK0.out; obtain ⟨q0, q1, q2, q3, z0, z1, z2, z3⟩ := four_of_blk hk1.2; have HK1 : Hid (Bx u1 w.heap.size 99 #[.int .i64 0, .int .i64 0, .int .i64 0, .int .i64 0]) := hk1.2; have HB := Hid.mk' (HB0.out.trans (hb.mono HB0.out.size)).drew; clear hb HSE hk1)
  go_region_held3 (fun w' => True)
    (trivial)
    (first
    | (go_at_call 115; refine (HV1.out _).mono ?_; rintro e u2 ⟨rfl, hw⟩; subst u2; clear HV1)
    | (go_at_call 115; refine (HV2.out _).mono ?_; rintro e u2 ⟨rfl, hw⟩; subst u2; clear HV2)
    | (go_at_call 115; refine (HV3.out _).mono ?_; rintro e u2 ⟨rfl, hw⟩; subst u2; clear HV3)
    | (go_at_call 115; refine (HV4.out _).mono ?_; rintro e u2 ⟨rfl, hw⟩; subst u2; clear HV4))
  go_wp2
  exact bodyPost_ret (res_rh _ w.heap.size true _ _ (HK1.out.set4 _ _ _ _) rfl rfl rfl) rfl ⟨rfl, (((HB.out.setCell (p := ⟨w.heap.size, 0, none⟩) (Nat.le_refl _) _).setCell (p := ⟨w.heap.size, 1, none⟩) (Nat.le_refl _) _).setCell (p := ⟨w.heap.size, 2, none⟩) (Nat.le_refl _) _).setCell (p := ⟨w.heap.size, 3, none⟩) (Nat.le_refl _) _⟩
end Go.Proofs.YtlncjgnomhpjnaaGreatDoor

/-
  frame.readHead where the text begins with no head; mayBe, modes, widthOf.
-/
namespace Go.Proofs.YtlncjgnomhpjnaaGreatDoor
open Go.RowKit Go.Deep
set_option linter.unusedVariables false
theorem Bx.set4b {u : World} {g : Nat} {t : TypeId} {o0 o1 o2 o3 : Value} (h : Bx u g t #[o0, o1, o2, o3]) (s0 s1 s2 s3 : Value) : Bx ((((u.setCell ⟨g, 0, none⟩ s0).setCell ⟨g, 1, none⟩ s1).setCell ⟨g, 2, none⟩ s2).setCell ⟨g, 3, none⟩ s3) g t #[s0, s1, s2, s3] := by
  simp [Bx, World.setCell, Array.getElem?_modify, show u.heap[g]? = _ from h]
def noHead : Value := .agg #[.int .i64 0, .int .i64 0, .int .i64 0, .int .i64 0]
set_option maxHeartbeats 400000 in
theorem readHead_no (T : List UInt8) (w : World) (hs : T.length ≤ 1048576) (h : ¬ HeadP T) :
    Calls Tryz.prog 74 #[.string (bs T)] w fun e w' => e = .returned (.tuple #[noHead, .bool false]) ∧ Below w.heap.size w w' := by
  have hz : (bs T).size = T.length := bs_size T
  have HB0 : Hid (Below w.heap.size w (w.alloc (.cells #[.int .i64 0, .int .i64 0, .int .i64 0, .int .i64 0] 99))) := (Below.refl _ _).alloc (Nat.le_refl _) _
  have HK0 : Hid (w.heap.size < (w.alloc (.cells #[.int .i64 0, .int .i64 0, .int .i64 0, .int .i64 0] 99)).heap.size ∧ (w.alloc (.cells #[.int .i64 0, .int .i64 0, .int .i64 0, .int .i64 0] 99)).heap[w.heap.size]? = some (.cells #[.int .i64 0, .int .i64 0, .int .i64 0, .int .i64 0] 99 (0, 0))) := ⟨by simp, blk_alloc_new w _⟩
  have HX0 : Hid (Bx (w.alloc (.cells #[.int .i64 0, .int .i64 0, .int .i64 0, .int .i64 0] 99)) w.heap.size 99 #[.int .i64 0, .int .i64 0, .int .i64 0, .int .i64 0]) := Bx.new _ _ _
  by_cases h8 : 8 ≤ T.length
  · have hget : ∀ h0 : 0 < (bs T).size, (bs T)[0]'h0 = T.getD 0 0 := fun h0 => by
      rw [bs_get T 0 h0, List.getD_eq_getElem?_getD, List.getElem?_eq_getElem (by omega)]; rfl
    by_cases h1 : T.getD 0 0 = 165
    · have h2 : ¬ seal8 (T.take 7) = T.take 8 := fun e => h ⟨h8, h1, e⟩
      have HSE := Hid.mk' (fun u => isSealed8_any (T.take 8) u (by rw [List.length_take]; omega))
      have HP : Hid (¬ (1 ≤ (T.take 8).length ∧ seal8 ((T.take 8).take ((T.take 8).length - 1)) = T.take 8)) := by
        have e : (T.take 8).length = 8 := by rw [List.length_take]; omega
        intro hh
        have := hh.2
        rw [e, List.take_take] at this
        exact h2 this
      rw [← bs_takeN] at HSE
      have hb2 : ∀ h0 : 0 < (bs T).size, ((bs T)[0]'h0).toNat = 165 := fun h0 => by rw [hget h0, h1]; rfl
      clear h h1 h2 hget
      generalize bs T = S at *
      generalize T.length = n at *
      have hb3 := hb2 (by omega)
      clear hb2
      go_enter Tryz.func74, Tryz.ntmps74
      go_wp2_with (go_at_call 114; refine (HSE.out _).mono ?_; rintro e u1 ⟨he, hb⟩; have he := he.false_of HP.out; subst he; have hk1 := keep_blk hb HK0.out; obtain ⟨q0, q1, q2, q3, z0, z1, z2, z3⟩ := four_of_blk hk1.2; have HK1 : Hid (Bx u1 w.heap.size 99 #[.int .i64 0, .int .i64 0, .int .i64 0, .int .i64 0]) := hk1.2; have HB := Hid.mk' (HB0.out.trans (hb.mono HB0.out.size)); clear hb HSE hk1)
      exact bodyPost_ret (res_rh _ w.heap.size false _ _ (HK1.out.set4b _ _ _ _) rfl rfl rfl) rfl ⟨rfl, (((HB.out.setCell (p := ⟨w.heap.size, 0, none⟩) (Nat.le_refl _) _).setCell (p := ⟨w.heap.size, 1, none⟩) (Nat.le_refl _) _).setCell (p := ⟨w.heap.size, 2, none⟩) (Nat.le_refl _) _).setCell (p := ⟨w.heap.size, 3, none⟩) (Nat.le_refl _) _⟩
    · have hb2 : ∀ h0 : 0 < (bs T).size, ¬ ((bs T)[0]'h0).toNat = 165 := fun h0 e => h1 (by rw [← hget h0]; exact UInt8.toNat_inj.1 e)
      clear h h1 hget
      generalize bs T = S at *
      generalize T.length = n at *
      have hb3 := hb2 (by omega)
      have hb4 : (((S[0]'(by omega)).toNat : Int) != 165) = true := by simp; omega
      have hb5 : ¬ ((S[0]'(by omega)).toNat : Int) = 165 := by omega
      clear hb2
      go_enter Tryz.func74, Tryz.ntmps74
      go_wp2
      exact bodyPost_ret (res_rh _ w.heap.size false _ _ HX0.out rfl rfl rfl) rfl ⟨rfl, HB0.out⟩
  · clear h
    generalize bs T = S at *
    generalize T.length = n at *
    have t1 : decide ((n : Int) < 8) = true := decide_eq_true (by omega)
    have hn : (n : Int) < 8 := by omega
    go_enter Tryz.func74, Tryz.ntmps74
    go_wp2
    exact bodyPost_ret (res_rh _ w.heap.size false _ _ HX0.out rfl rfl rfl) rfl ⟨rfl, HB0.out⟩
end Go.Proofs.YtlncjgnomhpjnaaGreatDoor

