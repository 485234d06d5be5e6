import Derived.Test.YtlncjgnomhpjnaaGreatDoorPR50
import Derived.Test.YtlncjgnomhpjnaaGreatDoorPR53
import Derived.Test.YtlncjgnomhpjnaaGreatDoorPR51
import Derived.Test.YtlncjgnomhpjnaaGreatDoorPR52
/-
  The document reads frames from beyond the text: none.
-/
namespace Go.Proofs.YtlncjgnomhpjnaaGreatDoor
open Go.RowKit Go.Deep
set_option linter.unusedVariables false
theorem okF_nil {n d B S k : Nat} : ¬ okF n d B S k [] := fun h => by
  have := h.len
  simp at this
  omega
set_option maxRecDepth 4000 in
set_option maxHeartbeats 2000000 in
theorem refRun_beyond (n d B c3 c4 S k0 at0 : Nat) (T : List UInt8) (w : World) (hn1 : 1 ≤ n) (hn4 : n ≤ 4) (hB : 1 ≤ B) (hB2 : B ≤ 32) (hS : S ≤ 300) (hk : k0 ≤ nBlk S B) (hX : T.length ≤ 9000) (hat : T.length < at0) (hat2 : at0 ≤ 1000000) :
    Calls Tryz.prog 94 #[.agg #[.int .i64 n, .int .i64 d, .int .i64 B, .int .i64 c3, .int .i64 c4, .int .i64 S], .string (bs T), .int .i64 k0, .int .i64 at0] w fun e w' => RunOut e w w' n d B S k0 at0 (T.drop at0) := by
  have hz : (bs T).size = T.length := bs_size T
  have HBL := Hid.mk' (fun u => rblocks_any n d c3 c4 B S u hB (by omega) (by omega))
  have hmk := run_make_row' (P := Tryz.prog) 24 29 (.slice none 0 0) 24 Tryz.underlying24 infoInts rfl .i64 .i64 n (by omega) (by omega)
  have HNB := Hid.mk' (nBlk_le (S := S) (B := B) hB)
  have HRS := Hid.mk' (RfI.start w n #[.int .i64 n, .int .i64 d, .int .i64 B, .int .i64 c3, .int .i64 c4, .int .i64 S])
  rw [List.drop_eq_nil_of_le (by omega)]
  have HRUN : Hid (RunIs n d B S k0 [] 0) := ⟨.inr rfl, fun j hj => absurd hj (Nat.not_lt_zero j), fun _ => okF_nil⟩
  generalize bs T = SB at *
  go_enter Tryz.func94, Tryz.ntmps94
  go_wp2_with (first
    | (go_at_call 96; refine (HBL.out _).mono ?_; rintro e u1 ⟨rfl, hb⟩; have HR1 := Hid.mk' (HRS.out.next hb); clear HBL hb HRS))
  clear hmk
  have HDN : Hid (RunOut (.returned (.tuple #[.slice (some ⟨w.heap.size + 1, 0, none⟩) n n, .slice none 0 0, .int .i64 (at0 : Int)])) w u1 n d B S k0 at0 []) := RfI.done (m := 0) (at0 := at0) HR1.out HRUN.out at0 rfl
  have q1 : ¬ (at0 : Int) ≤ (T.length : Int) := by omega
  have q2 : decide ((at0 : Int) ≤ (T.length : Int)) = false := decide_eq_false q1
  have q3 : decide (at0 ≤ T.length) = false := decide_eq_false (by omega)
  go_loopw [2, 3, 12, 14, 15, 16, 17, 18] (fun kv av lv _ _ _ _ _ wr => kv = .int .i64 k0 ∧ av = .int .i64 at0 ∧ lv = .slice none 0 0 ∧ wr = u1) (fun _ _ _ _ _ _ _ _ _ => 0)
  case atStart => exact ⟨rfl, rfl, rfl, rfl⟩
  case round =>
    obtain ⟨rfl, rfl, rfl, hwr⟩ := hrel
    subst hwr
    by_cases hlt : k0 < nBlk S B
    · go_wp2_with fail
      go_ret3
      exact HDN.out
    · have hlt' : decide ((k0 : Int) < (nBlk S B : Int)) = false := decide_eq_false (by omega)
      go_wp2_with fail
      go_ret3
      exact HDN.out
end Go.Proofs.YtlncjgnomhpjnaaGreatDoor

/-
  The document reads from a place on: reelref.From.
-/
namespace Go.Proofs.YtlncjgnomhpjnaaGreatDoor
open Go.RowKit Go.Deep
set_option linter.unusedVariables false
set_option maxRecDepth 4000 in
set_option maxHeartbeats 2000000 in
theorem refFrom_long (T : List UInt8) (a : Int) (w : World) (hs : ¬ T.length ≤ 9000) (hs2 : T.length ≤ 9223372036854775807) : Calls Tryz.prog 56 #[.string (bs T), .int .i64 a] w fun e w' => FrmAns e w w' T a := by
  have hz : (bs T).size = T.length := bs_size T
  have HBAD : Hid (∀ w', Below w.heap.size w w' → FrmAns (.returned (.tuple #[.slice none 0 0, .int .i64 4])) w w' T a) := fun w' hb => frm_bad 4 (by omega) (by unfold frmE; rw [if_neg hs]) hb
  have hl2 : 9000 < T.length := by omega
  generalize bs T = SB at *
  go_enter Tryz.func56, Tryz.ntmps56
  go_wp2
  go_ret2
  exact HBAD.out _ (Below.refl _ _)
set_option maxRecDepth 4000 in
set_option maxHeartbeats 2000000 in
theorem refFrom_head (T : List UInt8) (a : Int) (w : World) (hs : T.length ≤ 9000) (hp : ¬ (HdP T ∧ dWh T = 1)) : Calls Tryz.prog 56 #[.string (bs T), .int .i64 a] w fun e w' => FrmAns e w w' T a := by
  have hz : (bs T).size = T.length := bs_size T
  have hd9 : decide ((9000 : Int) < (T.length : Int)) = false := decide_eq_false (by omega)
  have HHR := Hid.mk' (fun u => headOf_any T u hs)
  have HBAD : Hid (∀ w', Below w.heap.size w w' → FrmAns (.returned (.tuple #[.slice none 0 0, .int .i64 7])) w w' T a) := fun w' hb => frm_bad 7 (by omega) (by unfold frmE; rw [if_pos hs, if_neg hp]) hb
  by_cases hy : HdP T
  · have HY := Hid.mk' hy
    have hw0 : dWh T = 0 := by have := hy.2.1; have : ¬ dWh T = 1 := fun h => hp ⟨hy, h⟩; omega
    have k0 : ((dWh T : Int) == 0) = true := by simp; omega
    have k1 : decide (dWh T = 0) = true := decide_eq_true hw0
    obtain ⟨-, -, -, -, -, -, -, -, -, b10, b11⟩ := hd_bd hy
    have z0 : ((dSz T : Int) == 0) = false := by simp; omega
    have z1 : ¬ (dSz T : Int) = 0 := by omega
    clear hp hy hw0
    generalize bs T = SB at *
    go_enter Tryz.func56, Tryz.ntmps56
    go_wp2_with (first
      | (go_at_call 93; refine (HHR.out _).mono ?_; intro e u1 ho; obtain ⟨pa, pc, rfl, hown, hb⟩ := ho.yes HY.out; have HB1 := Hid.mk' hb; clear HHR ho hb hown))
    go_ret2
    exact HBAD.out _ (HB1.out.alloc HB1.out.size _)
  · have HY := Hid.mk' hy
    clear hp hy
    generalize bs T = SB at *
    go_enter Tryz.func56, Tryz.ntmps56
    go_wp2_with (first
      | (go_at_call 93; refine (HHR.out _).mono ?_; intro e u1 ho; obtain ⟨f, c0, c1, c2, c3, c4, s, le, mo, su, a, n, c, rfl, hb⟩ := ho.nothing HY.out; have HB1 := Hid.mk' hb; clear HHR ho hb))
    go_ret2
    exact HBAD.out _ (HB1.out.alloc HB1.out.size _)
set_option maxRecDepth 4000 in
set_option maxHeartbeats 2000000 in
theorem refFrom_arg (T : List UInt8) (a : Int) (w : World) (hs : T.length ≤ 9000) (hp : HdP T) (hw : dWh T = 1) (ha : ¬ (0 ≤ a ∧ a ≤ dSa T)) : Calls Tryz.prog 56 #[.string (bs T), .int .i64 a] w fun e w' => FrmAns e w w' T a := by
  obtain ⟨b1, b2, b3, b4, b5, b6, b7, b8, b9, b10, b11⟩ := hd_bd hp
  have hz : (bs T).size = T.length := bs_size T
  have hd9 : decide ((9000 : Int) < (T.length : Int)) = false := decide_eq_false (by omega)
  have HHR := Hid.mk' (fun u => headOf_any T u hs)
  have HBAD : Hid (∀ w', Below w.heap.size w w' → FrmAns (.returned (.tuple #[.slice none 0 0, .int .i64 3])) w w' T a) := fun w' hb => frm_bad 3 (by omega) (by unfold frmE; rw [if_pos hs, if_pos ⟨hp, hw⟩, if_neg ha]) hb
  have HY := Hid.mk' hp
  have k0 : ((dWh T : Int) == 0) = false := by simp; omega
  have k1 : ¬ (dWh T : Int) = 0 := by omega
  have k2 : decide (dWh T = 0) = false := decide_eq_false (by omega)
  have z0 : ((dSz T : Int) == 0) = false := by simp; omega
  have z1 : ¬ (dSz T : Int) = 0 := by omega
  by_cases h0 : a < 0
  · clear hp hw ha
    have y0 : decide (a < 0) = true := decide_eq_true h0
    generalize bs T = SB at *
    go_enter Tryz.func56, Tryz.ntmps56
    go_wp2_with (first
      | (go_at_call 93; refine (HHR.out _).mono ?_; intro e u1 ho; obtain ⟨pa, pc, rfl, hown, hb⟩ := ho.yes HY.out; have HB1 := Hid.mk' hb; clear HHR ho hb hown))
    go_ret2
    exact HBAD.out _ (HB1.out.alloc HB1.out.size _)
  · have h1 : (dSa T : Int) < a := by omega
    clear hp hw ha
    have y0 : decide (a < 0) = false := decide_eq_false h0
    have y1 : decide ((dSa T : Int) < a) = true := decide_eq_true h1
    generalize bs T = SB at *
    go_enter Tryz.func56, Tryz.ntmps56
    go_wp2_with (first
      | (go_at_call 93; refine (HHR.out _).mono ?_; intro e u1 ho; obtain ⟨pa, pc, rfl, hown, hb⟩ := ho.yes HY.out; have HB1 := Hid.mk' hb; clear HHR ho hb hown))
    go_ret2
    exact HBAD.out _ (HB1.out.alloc HB1.out.size _)
set_option maxRecDepth 4000 in
set_option maxHeartbeats 2000000 in
theorem refFrom_end (T : List UInt8) (w : World) (hs : T.length ≤ 9000) (hp : HdP T) (hw : dWh T = 1) : Calls Tryz.prog 56 #[.string (bs T), .int .i64 (dSa T)] w fun e w' => FrmAns e w w' T (dSa T) := by
  obtain ⟨b1, b2, b3, b4, b5, b6, b7, b8, b9, b10, b11⟩ := hd_bd hp
  have hz : (bs T).size = T.length := bs_size T
  have hd9 : decide ((9000 : Int) < (T.length : Int)) = false := decide_eq_false (by omega)
  have HHR := Hid.mk' (fun u => headOf_any T u hs)
  have HE : Hid (frmE T (dSa T) = 0) := by
    show _ = _
    unfold frmE
    rw [if_pos hs, if_pos ⟨hp, hw⟩, if_pos ⟨by omega, by omega⟩, if_pos (.inl rfl)]
  have hmk := run_make_row' (P := Tryz.prog) 24 29 (.slice none 0 0) 24 Tryz.underlying24 infoInts rfl .i64 .i64 (dCh T) (by omega) (by omega)
  have HY := Hid.mk' hp
  have y0 : decide ((dSa T : Int) < 0) = false := decide_eq_false (by omega)
  have k0 : ((dWh T : Int) == 0) = false := by simp; omega
  have k1 : ¬ (dWh T : Int) = 0 := by omega
  have k2 : decide (dWh T = 0) = false := decide_eq_false (by omega)
  have z0 : ((dSz T : Int) == 0) = false := by simp; omega
  have z1 : ¬ (dSz T : Int) = 0 := by omega
  clear hp hw
  generalize bs T = SB at *
  go_enter Tryz.func56, Tryz.ntmps56
  go_wp2_with (first
    | (go_at_call 93; refine (HHR.out _).mono ?_; intro e u1 ho; obtain ⟨pa, pc, rfl, hown, hb⟩ := ho.yes HY.out; have HB1 := Hid.mk' hb; clear HHR ho hb hown))
  have hU : (u1.alloc (.cells #[.int .i64 (dWh T), .int .i64 (dCh T), .int .i64 (dDe T), .int .i64 (dBl T), .int .i64 (dRa T), .int .i64 (dSe T), .int .i64 (dSa T), .int .i64 (dLe T), .int .i64 (dMo T), .int .i64 (dSu T), .slice pa (dNp T) pc] 123)).heap.size = u1.heap.size + 1 := by simp
  have hrow := rows_made w.heap.size (dCh T) (u1.alloc (.cells #[.int .i64 (dWh T), .int .i64 (dCh T), .int .i64 (dDe T), .int .i64 (dBl T), .int .i64 (dRa T), .int .i64 (dSe T), .int .i64 (dSa T), .int .i64 (dLe T), .int .i64 (dMo T), .int .i64 (dSu T), .slice pa (dNp T) pc] 123)) (frmS T (dSa T)) (by rw [hU]; have := HB1.out.size; omega)
  rw [hU] at hrow
  have HROW := Hid.mk' hrow
  go_ret2
  refine ⟨.inl ⟨HE.out, _, rfl, ?_⟩, (HB1.out.alloc HB1.out.size _).alloc (Nat.le_trans HB1.out.size (by simp)) _⟩
  have e : dSa T - ((dSa T : Nat) : Int).toNat = 0 := by omega
  rw [e]
  exact HROW.out
/-- the block and the place that the first k points give -/
def fsN (T : List UInt8) (a k : Nat) : Nat := if k = 0 then 0 else min (k - 1) (a / dBl T / dSe T) * dSe T
def szN (T : List UInt8) (a k : Nat) : Nat := if k = 0 then dSz T else dSz T + (dPts T).getD (min (k - 1) (a / dBl T / dSe T)) 0
theorem pt_iff {B s a k : Nat} (hB : 1 ≤ B) (hs : 1 ≤ s) : k * s * B ≤ a ↔ k ≤ a / B / s := by
  rw [Nat.le_div_iff_mul_le hs, Nat.le_div_iff_mul_le hB]
theorem fs_yes {T : List UInt8} {a k : Nat} (hB : 1 ≤ dBl T) (hs : 1 ≤ dSe T) (h : k * dSe T * dBl T ≤ a) : fsN T a (k + 1) = k * dSe T ∧ szN T a (k + 1) = 22 + 2 * dNp T + (dPts T).getD k 0 := by
  have h' := (pt_iff hB hs).1 h
  unfold fsN szN
  generalize a / dBl T / dSe T = J at *
  rw [if_neg (by omega), if_neg (by omega), show min (k + 1 - 1) J = k by omega]
  exact ⟨rfl, rfl⟩
theorem fs_no {T : List UInt8} {a k : Nat} (hB : 1 ≤ dBl T) (hs : 1 ≤ dSe T) (h : ¬ k * dSe T * dBl T ≤ a) : fsN T a (k + 1) = fsN T a k ∧ szN T a (k + 1) = szN T a k := by
  rw [pt_iff hB hs] at h
  unfold fsN szN
  generalize a / dBl T / dSe T = J at *
  have hk0 : ¬ k = 0 := fun e => h (by omega)
  rw [if_neg (Nat.succ_ne_zero k), if_neg (Nat.succ_ne_zero k), if_neg hk0, if_neg hk0, show min (k + 1 - 1) J = min (k - 1) J by omega]
  exact ⟨rfl, rfl⟩
theorem fs_end {T : List UInt8} {a : Nat} (hB : 1 ≤ dBl T) (ha : a < dSa T) : fsN T a (dNp T) = stN T a ∧ szN T a (dNp T) = dSz T + stB T a := by
  unfold fsN szN stN stB
  by_cases h0 : dSe T = 0
  · have e : dNp T = 0 := by unfold dNp nPts; rw [if_pos h0]
    rw [if_pos e, if_pos e, if_pos h0, if_pos h0]
    exact ⟨rfl, rfl⟩
  · have h1 : a / dBl T < nBlk (dSa T) (dBl T) := (nBlk_lt hB).2 (Nat.lt_of_le_of_lt (Nat.div_mul_le_self _ _) ha)
    have h2 : a / dBl T / dSe T < dNp T := by
      unfold dNp nPts
      rw [if_neg h0]
      exact (nBlk_lt (by omega)).2 (Nat.lt_of_le_of_lt (Nat.div_mul_le_self _ _) h1)
    rw [if_neg h0, if_neg h0]
    generalize a / dBl T / dSe T = J at *
    have hk0 : ¬ dNp T = 0 := fun e => by rw [e] at h2; exact Nat.not_lt_zero _ h2
    rw [if_neg hk0, if_neg hk0, show min (dNp T - 1) J = J by omega]
    exact ⟨rfl, rfl⟩
theorem fs_bd {T : List UInt8} {a : Nat} (hp : HdP T) (ha : a < dSa T) (k : Nat) : fsN T a k ≤ 300 ∧ szN T a k ≤ 100000 := by
  obtain ⟨b1, b2, b3, b4, b5, b6, b7, b8, b9, b10, b11⟩ := hd_bd hp
  have h1 := pt_bd hp (min (k - 1) (a / dBl T / dSe T))
  have h2 : min (k - 1) (a / dBl T / dSe T) * dSe T ≤ a / dBl T := Nat.le_trans (Nat.mul_le_mul_right _ (Nat.min_le_right _ _)) (Nat.div_mul_le_self _ _)
  have h3 : a / dBl T ≤ a := Nat.div_le_self _ _
  have h4 : dSz T = 22 + 2 * dNp T := rfl
  unfold fsN szN
  generalize (dPts T).getD (min (k - 1) (a / dBl T / dSe T)) 0 = p at *
  generalize min (k - 1) (a / dBl T / dSe T) * dSe T = q at *
  constructor <;> split <;> omega
set_option maxRecDepth 4000 in
set_option maxHeartbeats 4000000 in
theorem refFrom_rest (T : List UInt8) (a : Nat) (w : World) (hs : T.length ≤ 9000) (hp : HdP T) (hw : dWh T = 1) (ha : a < dSa T) (hT : TabAt w 3) (hT3 : 3 < w.heap.size) : Calls Tryz.prog 56 #[.string (bs T), .int .i64 a] w fun e w' => FrmAns e w w' T a := by
  obtain ⟨b1, b2, b3, b4, b5, b6, b7, b8, b9, b10, b11⟩ := hd_bd hp
  have hz : (bs T).size = T.length := bs_size T
  have hd9 : decide ((9000 : Int) < (T.length : Int)) = false := decide_eq_false (by omega)
  have HHR := Hid.mk' (fun u => headOf_any T u hs)
  have HY := Hid.mk' hp
  have y0 : decide ((a : Int) < 0) = false := decide_eq_false (by omega)
  have y1 : decide ((dSa T : Int) < (a : Int)) = false := decide_eq_false (by omega)
  have n1 : ¬ (a : Int) = (dSa T : Int) := by omega
  have n2 : ((a : Int) == (dSa T : Int)) = false := beq_eq_false_iff_ne.2 n1
  have n3 : ¬ a = dSa T := by omega
  have k0 : ((dWh T : Int) == 0) = false := by simp; omega
  have k1 : ¬ (dWh T : Int) = 0 := by omega
  have k2 : decide (dWh T = 0) = false := decide_eq_false (by omega)
  have z0 : ((dSz T : Int) == 0) = false := by simp; omega
  have z1 : ¬ (dSz T : Int) = 0 := by omega
  have hkl := stN_lt b5 ha
  have HRN : Hid (∀ (u : World), Below w.heap.size w u → Calls Tryz.prog 94 #[.agg #[.int .i64 (dCh T), .int .i64 (dDe T), .int .i64 (dBl T), .int .i64 (dRa T), .int .i64 (dSe T), .int .i64 (dSa T)], .string (bs T), .int .i64 (stN T a : Nat), .int .i64 (dSz T + stB T a : Nat)] u fun e w' => RunOut e u w' (dCh T) (dDe T) (dBl T) (dSa T) (stN T a) (dSz T + stB T a) (T.drop (dSz T + stB T a))) := fun u hu => by
    by_cases hat : dSz T + stB T a ≤ T.length
    · exact refRun_any (dCh T) (dDe T) (dBl T) (dRa T) (dSe T) (dSa T) (stN T a) (dSz T + stB T a) T u b3 b4 b1 b2 b5 b6 b7 (Nat.le_of_lt hkl) hs hat (tab_at hT hu hT3) (Nat.lt_of_lt_of_le hT3 hu.size)
    · exact refRun_beyond (dCh T) (dDe T) (dBl T) (dRa T) (dSe T) (dSa T) (stN T a) (dSz T + stB T a) T u b1 b2 b5 b6 b7 (Nat.le_of_lt hkl) hs (by omega) (by have := stB_bd hp a; omega)
  have HFS := Hid.mk' (fun k => fs_bd hp ha k)
  have HFE := Hid.mk' (fs_end b5 ha)
  have HKA := Hid.mk' (stN_le T a)
  have HFY := Hid.mk' (fun k (hs : 1 ≤ dSe T) (h : k * dSe T * dBl T ≤ a) => fs_yes b5 hs h)
  have HFN := Hid.mk' (fun k (hs : 1 ≤ dSe T) (h : ¬ k * dSe T * dBl T ≤ a) => fs_no b5 hs h)
  have HNS : Hid (0 < dNp T → 1 ≤ dSe T) := fun h => by
    refine Nat.pos_of_ne_zero fun e => ?_
    unfold dNp nPts at h
    rw [if_pos e] at h
    exact Nat.lt_irrefl _ h
  obtain ⟨m, hm⟩ := run_exists (dCh T) (dDe T) (B := dBl T) (S := dSa T) (k0 := stN T a) (T.drop (dSz T + stB T a)) (Nat.le_of_lt hkl)
  have HM := Hid.mk' hm
  have hm3 : stN T a + m ≤ 300 ∧ m ≤ 300 := by
    have h1 := nBlk_le (S := dSa T) (B := dBl T) b5
    rcases hm.le with h | h <;> omega
  have HOF : Hid (dSz T + stB T a + offX (T.drop (dSz T + stB T a)) m ≤ 200000) := by
    show _ ≤ _
    have h1 := offX_le hm.ok m (Nat.le_refl _)
    rw [List.length_drop] at h1
    have h2 := stB_bd hp a
    omega
  have HBL := Hid.mk' (fun u => rblocks_any (dCh T) (dDe T) (dRa T) (dSe T) (dBl T) (dSa T) u b5 (by omega) (by omega))
  have HPB := Hid.mk' (fun k => pt_bd hp k)
  have HWW := Hid.mk' hw
  clear hp hw hT hT3 hm
  generalize bs T = SB at *
  go_enter Tryz.func56, Tryz.ntmps56
  go_wp2_with (first
    | (go_at_call 93; refine (HHR.out _).mono ?_; intro e u1 ho; obtain ⟨pa, pc, rfl, hown, hb⟩ := ho.yes HY.out; have HB1 := Hid.mk' hb; have HO1 := Hid.mk' hown; clear HHR ho hb hown))
  have HHU := Hid.mk' (Bx.new u1 #[.int .i64 (dWh T), .int .i64 (dCh T), .int .i64 (dDe T), .int .i64 (dBl T), .int .i64 (dRa T), .int .i64 (dSe T), .int .i64 (dSa T), .int .i64 (dLe T), .int .i64 (dMo T), .int .i64 (dSu T), .slice pa (dNp T) pc] 123)
  have HOU : Hid ((u1.alloc (.cells #[.int .i64 (dWh T), .int .i64 (dCh T), .int .i64 (dDe T), .int .i64 (dBl T), .int .i64 (dRa T), .int .i64 (dSe T), .int .i64 (dSa T), .int .i64 (dLe T), .int .i64 (dMo T), .int .i64 (dSu T), .slice pa (dNp T) pc] 123)).ownsRow w.heap.size 3 1 (.slice pa (dNp T) pc) (dPts T).length (pntV (dPts T))) := by
    show World.ownsRow _ _ _ _ _ _ _
    rw [dPts_length]
    exact HO1.out.alloc _
  have HBU := Hid.mk' (HB1.out.alloc HB1.out.size (.cells #[.int .i64 (dWh T), .int .i64 (dCh T), .int .i64 (dDe T), .int .i64 (dBl T), .int .i64 (dRa T), .int .i64 (dSe T), .int .i64 (dSa T), .int .i64 (dLe T), .int .i64 (dMo T), .int .i64 (dSu T), .slice pa (dNp T) pc] 123))
  clear HB1 HO1
  go_loopw [7, 8, 9] (fun sv fv kv wr => ∃ k : Nat, k ≤ dNp T ∧ kv = .int .i64 k ∧ fv = .int .i64 (fsN T a k : Nat) ∧ sv = .int .i64 (szN T a k : Nat) ∧ Hid (Bx wr u1.heap.size 123 #[.int .i64 (dWh T), .int .i64 (dCh T), .int .i64 (dDe T), .int .i64 (dBl T), .int .i64 (dRa T), .int .i64 (dSe T), .int .i64 (dSa T), .int .i64 (dLe T), .int .i64 (dMo T), .int .i64 (dSu T), .slice pa (dNp T) pc] ∧ wr.ownsRow w.heap.size 3 1 (.slice pa (dNp T) pc) (dPts T).length (pntV (dPts T)) ∧ Below w.heap.size w wr)) (fun _ _ kv _ => dNp T - (intOf kv).toNat)
  case atStart => exact ⟨0, Nat.zero_le _, rfl, rfl, rfl, HHU.out, HOU.out, HBU.out⟩
  case round =>
    obtain ⟨k, hk, rfl, rfl, rfl, HR⟩ := hrel
    have x1 := HR.out.1.cell 1
    have x2 := HR.out.1.cell 2
    have x3 := HR.out.1.cell 3
    have x4 := HR.out.1.cell 4
    have x5 := HR.out.1.cell 5
    have x6 := HR.out.1.cell 6
    have x10 := HR.out.1.cell 10
    by_cases hlt : k < dNp T
    · have hs1 := HNS.out (by omega)
      obtain ⟨pa', pc', he, hI, hlow⟩ := pnts_open HR.out.2.1
      injection he with e1 e2 e3
      subst e1 e3
      clear e2
      obtain ⟨pg, po, hpa, hpc⟩ := hI.open (by rw [dPts_length]; omega)
      have hpk := hpc k (by rw [dPts_length]; exact hlt)
      have hpb := HPB.out k
      have HY2 := Hid.mk' (HFY.out k hs1)
      have HN2 := Hid.mk' (HFN.out k hs1)
      have e1 : (k : Int) * (dSe T : Int) = ((k * dSe T : Nat) : Int) := by simp
      have hb1 : k * dSe T ≤ 300 * 255 := Nat.mul_le_mul (by omega) b8
      have HFK := Hid.mk' (HFS.out (k + 1))
      generalize k * dSe T = ks at *
      have e2 : (ks : Int) * (dBl T : Int) = ((ks * dBl T : Nat) : Int) := by simp
      have hb2 : ks * dBl T ≤ 300 * 255 * 32 := Nat.mul_le_mul hb1 b6
      generalize ks * dBl T = kb at *
      have v1 : IntKind.i64.wrap ((k : Int) * (dSe T : Int)) = (ks : Int) := by rw [IntKind.wrap_i64, e1]; omega
      have v2 : IntKind.i64.wrap ((ks : Int) * (dBl T : Int)) = (kb : Int) := by rw [IntKind.wrap_i64, e2]; omega
      obtain ⟨n2, hn2⟩ : ∃ n2, n2 = 2 * dNp T := ⟨_, rfl⟩
      obtain ⟨n3, hn3⟩ : ∃ n3, n3 = 22 + n2 := ⟨_, rfl⟩
      generalize (dPts T).getD k 0 = pk at *
      obtain ⟨n4, hn4⟩ : ∃ n4, n4 = n3 + pk := ⟨_, rfl⟩
      have v3 : IntKind.i64.wrap (2 * (dNp T : Int)) = (n2 : Int) := by rw [IntKind.wrap_i64]; omega
      have v4 : IntKind.i64.wrap (22 + (n2 : Int)) = (n3 : Int) := by rw [IntKind.wrap_i64]; omega
      have v5 : IntKind.i64.wrap ((n3 : Int) + (pk : Int)) = (n4 : Int) := by rw [IntKind.wrap_i64]; omega
      have HN4 : Hid (n4 = 22 + 2 * dNp T + pk) := by show _ = _; omega
      clear hI hlow hpc e1 e2 hn2 hn3 hn4
      subst hpa
      by_cases hle : kb ≤ a
      · obtain ⟨hy1, hy2⟩ := HY2.out hle
        have HYY := Hid.mk' (And.intro hy1 hy2)
        have d1 : decide ((kb : Int) ≤ (a : Int)) = true := decide_eq_true (by omega)
        clear hy1 hy2
        have hS0 : wr.drew.cell? ⟨u1.heap.size, 10, none⟩ = some (.slice (some ⟨pg, po, none⟩) (dNp T) pc) ∧ wr.drew.cell? ⟨pg, po + k, none⟩ = some (.int .i64 pk) := ⟨x10, hpk⟩
        go_wp2_with fail
        go_region_held3 (fun w' => w'.cell? ⟨u1.heap.size, 10, none⟩ = some (.slice (some ⟨pg, po, none⟩) (dNp T) pc) ∧ w'.cell? ⟨pg, po + k, none⟩ = some (.int .i64 pk)) (with_reducible exact hS0) (fail)
        go_wp2_with fail
        go_roundw
        case rel => exact ⟨k + 1, by omega, by go_num, by rw [HYY.out.1], by rw [HYY.out.2, ← HN4.out], HR.out.1.drew1, HR.out.2.1, HR.out.2.2.drew⟩
        case measure => simp [intOf]; omega
      · obtain ⟨hy1, hy2⟩ := HN2.out hle
        have HYY := Hid.mk' (And.intro hy1 hy2)
        have d1 : decide ((kb : Int) ≤ (a : Int)) = false := decide_eq_false (by omega)
        clear hy1 hy2
        go_wp2_with fail
        go_roundw
        case rel => exact ⟨k + 1, by omega, by go_num, by rw [HYY.out.1], by rw [HYY.out.2], HR.out.1, HR.out.2.1, HR.out.2.2⟩
        case measure => simp [intOf]; omega
    · have e : k = dNp T := by omega
      subst e
      rw [HFE.out.1, HFE.out.2]
      have hka := HKA.out
      have hX : dSz T + stB T a + offX (T.drop (dSz T + stB T a)) m ≤ 200000 := HOF.out
      clear HFE HFS HFY HFN HNS HPB HOF HKA
      have HOK : Hid (∀ (g nn : Nat) (bk ofs cs : Nat → Nat) (w' : World), stN T a + m = nBlk (dSa T) (dBl T) → dSz T + stB T a + offX (T.drop (dSz T + stB T a)) m = T.length → nn = chN (dBl T) (dSa T) (stN T a) m → CutI w.heap.size w' g (dCh T) nn (a - stN T a * dBl T) (dCh T) bk ofs cs (smpL (dCh T) (dDe T) (dBl T) (dSa T) (stN T a) (T.drop (dSz T + stB T a)) m) → Below w.heap.size w w' → FrmAns (.returned (.tuple #[.slice (some ⟨g, 0, none⟩) (dCh T) (dCh T), .int .i64 0])) w w' T a) := fun g nn bk ofs cs w' h2 h3 h4 h5 h6 => by
        refine ⟨.inl ⟨?_, _, rfl, ?_⟩, h6⟩
        · unfold frmE
          rw [if_pos hs, if_pos ⟨HY.out, HWW.out⟩, if_pos ⟨by omega, by omega⟩, if_pos]
          right
          rw [Int.toNat_natCast]
          exact ⟨by omega, m, HM.out, h2, by rw [List.length_drop]; omega⟩
        · rw [Int.toNat_natCast]
          exact cut_frm b5 ha h2 h4 h5
      have HCW : Hid (stN T a + m = nBlk (dSa T) (dBl T) → chN (dBl T) (dSa T) (stN T a) m = dSa T - stN T a * dBl T) := fun hm => chN_whole b5 hm (by omega)
      have HBAD : Hid (∀ (w' : World), ¬ (stN T a + m = nBlk (dSa T) (dBl T) ∧ dSz T + stB T a + offX (T.drop (dSz T + stB T a)) m = T.length) → Below w.heap.size w w' → FrmAns (.returned (.tuple #[.slice none 0 0, .int .i64 6])) w w' T a) := fun w' h2 hb => frm_bad 6 (by omega) (by
        unfold frmE
        rw [if_pos hs, if_pos ⟨HY.out, HWW.out⟩, if_pos ⟨by omega, by omega⟩, if_neg]
        rintro (h | ⟨h0, m', h3, h4, h5⟩)
        · omega
        · rw [Int.toNat_natCast] at h0 h3 h4 h5
          rw [h3.uniq HM.out] at h4 h5
          refine h2 ⟨h4, ?_⟩
          rw [List.length_drop] at h5
          omega) hb
      have hnb := nBlk_le (S := dSa T) (B := dBl T) b5
      generalize T.drop (dSz T + stB T a) = X at *
      generalize hpl : dSz T + stB T a = pl at *
      obtain ⟨en, hen⟩ : ∃ en, en = pl + offX X m := ⟨_, rfl⟩
      have HEN := Hid.mk' hen
      rw [← hen] at hX
      rw [← hen] at HOK HBAD
      have w1 : IntKind.i64.wrap ((nBlk (dSa T) (dBl T) : Int) - (stN T a : Int)) = ((nBlk (dSa T) (dBl T) - stN T a : Nat) : Int) := by rw [IntKind.wrap_i64]; omega
      generalize stN T a = kk at *
      clear hen hpl
      by_cases hA : kk + m = nBlk (dSa T) (dBl T)
      · have hm1 : nBlk (dSa T) (dBl T) - kk = m := by omega
        rw [hm1] at w1
        generalize nBlk (dSa T) (dBl T) = nb at *
        by_cases hE : en = T.length
        · have HA := Hid.mk' hA
          have HE := Hid.mk' hE
          have hcw := HCW.out hA
          have HNN := Hid.mk' hcw
          have e1 : (kk : Int) * (dBl T : Int) = ((kk * dBl T : Nat) : Int) := by simp
          clear HCW HBAD
          generalize kk * dBl T = kb at *
          have w4 : IntKind.i64.wrap ((kk : Int) * (dBl T : Int)) = (kb : Int) := by rw [IntKind.wrap_i64, e1]; omega
          have w5 : IntKind.i64.wrap ((a : Int) - (kb : Int)) = ((a - kb : Nat) : Int) := by rw [IntKind.wrap_i64]; omega
          have hq : a - kb < dSa T - kb := by omega
          clear e1 hcw hA
          generalize dSa T - kb = nn at *
          generalize a - kb = q at *
          have t1 : ((en : Int) == (T.length : Int)) = true := by simp; omega
          have t2 : (en : Int) = (T.length : Int) := by omega
          clear hE
          go_wp2_with (first
            | (go_at_call 94; refine (HRN.out _ HR.out.2.2).mono ?_; intro e u2 ho; obtain ⟨m', gl, la, lc, he, hri, hrow, hl, hb⟩ := ho; have em := HM.out.uniq hri; subst em; rw [← HEN.out] at he; subst he; have HROW := Hid.mk' hrow; have HH2 := Hid.mk' (HR.out.1.below hb); have HB2 := Hid.mk' (HR.out.2.2.trans (hb.mono HR.out.2.2.size)); clear HRN hb hrow hl hri; have y1 := HH2.out.cell 1; have y2 := HH2.out.cell 2; have y3 := HH2.out.cell 3; have y4 := HH2.out.cell 4; have y5 := HH2.out.cell 5; have y6 := HH2.out.cell 6)
            | (go_at_call 96; refine (HBL.out _).mono ?_; rintro e u3 ⟨rfl, hb⟩; have HB3 := Hid.mk' (HB2.out.trans (hb.mono HB2.out.size)); have HBB3 := Hid.mk' hb; clear HBL hb))
          have hrow := HROW.out.mono (base' := w.heap.size) HR.out.2.2.size
          rw [HNN.out] at hrow
          obtain ⟨bk, ofs, cs, hct⟩ := (hrow.below HBB3.out).toCut (by omega) q
          have HCT := Hid.mk' hct
          have HH3 := Hid.mk' (HH2.out.below HBB3.out)
          have HHR2 : Hid (u1.heap.size ≠ gl) := HH3.out.ne_row hct.row (by decide)
          clear hrow hct
          go_loopw [13] (fun iv wr => ∃ i : Nat, i ≤ dCh T ∧ iv = .int .i64 i ∧ Hid (CutI w.heap.size wr gl (dCh T) nn q i bk ofs cs (smpL (dCh T) (dDe T) (dBl T) (dSa T) kk X m) ∧ Bx wr u1.heap.size 123 #[.int .i64 (dWh T), .int .i64 (dCh T), .int .i64 (dDe T), .int .i64 (dBl T), .int .i64 (dRa T), .int .i64 (dSe T), .int .i64 (dSa T), .int .i64 (dLe T), .int .i64 (dMo T), .int .i64 (dSu T), .slice pa (dNp T) pc] ∧ Below w.heap.size w wr)) (fun iv _ => dCh T - (intOf iv).toNat)
          case atStart => exact ⟨0, Nat.zero_le _, rfl, HCT.out, HH3.out, HB3.out⟩
          case round =>
            obtain ⟨i, hi, rfl, HR4⟩ := hrel
            have g1 := HR4.out.2.1.cell 1
            have g3 := HR4.out.2.1.cell 3
            by_cases hlt : i < dCh T
            · have hc1 := HR4.out.1.cell hlt
              have hf1 := HR4.out.1.row.frozen i
              have hcap := HR4.out.1.cap i hlt
              have HZ := Hid.mk' HR4.out.1.step
              have HZH := Hid.mk' (HR4.out.2.1.put (a := ⟨gl, i, none⟩) HHR2.out (.slice (some ⟨bk i, ofs i + q, none⟩) (nn - q : Nat) (cs i - q : Nat)))
              have HZB := Hid.mk' (HR4.out.2.2.setCell (p := ⟨gl, i, none⟩) HR4.out.1.le (.slice (some ⟨bk i, ofs i + q, none⟩) (nn - q : Nat) (cs i - q : Nat)))
              generalize bk i = bi at *
              generalize ofs i = oi at *
              generalize cs i = ci at *
              have q0 : (q : Int) ≤ (nn : Int) := by omega
              have q1 : (nn : Int) ≤ (ci : Int) := by omega
              have q2 : (q : Int) ≤ (ci : Int) := by omega
              have q3 : ((nn : Int) - (q : Int)).toNat = nn - q := by omega
              have q4 : ((ci : Int) - (q : Int)).toNat = ci - q := by omega
              have q5 : ¬ ci = q := by omega
              have q6 : (0 : Int) ≤ (q : Int) := by omega
              have hS0 : wr.drew.cell? ⟨u1.heap.size, 3, none⟩ = some (.int .i64 (dBl T)) := g3
              have hcd : wr.drew.cell? ⟨gl, i, none⟩ = some (.slice (some ⟨bi, oi, none⟩) nn ci) := hc1
              have hS1 : (wr.setCell ⟨gl, i, none⟩ (.slice (some ⟨bi, oi + q, none⟩) (nn - q : Nat) (ci - q : Nat))).drew.cell? ⟨u1.heap.size, 3, none⟩ = some (.int .i64 (dBl T)) := HZH.out.cell 3
              have HZ2 := Hid.mk' (HZ.out.below (Below.refl _ _).drew)
              go_wp2_with fail
              go_region
              go_wp2_with fail
              go_roundw
              case rel => exact ⟨i + 1, by omega, by go_num, HZ2.out, HZH.out.drew1, HZB.out.drew⟩
              case measure => simp [intOf]; omega
            · have e : i = dCh T := by omega
              subst e
              go_wp2_with fail
              go_ret2
              exact HOK.out gl nn bk ofs cs _ HA.out HE.out HNN.out.symm HR4.out.1 HR4.out.2.2
        · have HNA : Hid (¬ (kk + m = nb ∧ en = T.length)) := fun h => hE h.2
          have t1 : ((en : Int) == (T.length : Int)) = false := beq_eq_false_iff_ne.2 (by omega)
          have t2 : ((en : Int) != (T.length : Int)) = true := by rw [bne, t1]; rfl
          have t3 : ¬ (en : Int) = (T.length : Int) := by omega
          have HA := Hid.mk' hA
          clear hA
          go_wp2_with (first
            | (go_at_call 94; refine (HRN.out _ HR.out.2.2).mono ?_; intro e u2 ho; obtain ⟨m', gl, la, lc, he, hri, hrow, hl, hb⟩ := ho; have em := HM.out.uniq hri; subst em; rw [← HEN.out] at he; subst he; have HROW := Hid.mk' hrow; have HH2 := Hid.mk' (HR.out.1.below hb); have HB2 := Hid.mk' (HR.out.2.2.trans (hb.mono HR.out.2.2.size)); clear HRN hb hrow hl hri; have y1 := HH2.out.cell 1; have y2 := HH2.out.cell 2; have y3 := HH2.out.cell 3; have y4 := HH2.out.cell 4; have y5 := HH2.out.cell 5; have y6 := HH2.out.cell 6)
            | (go_at_call 96; refine (HBL.out _).mono ?_; rintro e u3 ⟨rfl, hb⟩; have HB3 := Hid.mk' (HB2.out.trans (hb.mono HB2.out.size)); have HBB3 := Hid.mk' hb; clear HBL hb))
          go_ret2
          first | exact HBAD.out _ HNA.out HB3.out | exact HBAD.out _ HNA.out HB3.out.drew
      · have HNA : Hid (¬ (kk + m = nBlk (dSa T) (dBl T) ∧ en = T.length)) := fun h => hA h.1
        have hm1 : ¬ m = nBlk (dSa T) (dBl T) - kk := by omega
        generalize nBlk (dSa T) (dBl T) - kk = mm at *
        have t1 : ((m : Int) == (mm : Int)) = false := beq_eq_false_iff_ne.2 (by omega)
        have t2 : ((m : Int) != (mm : Int)) = true := by rw [bne, t1]; rfl
        have t3 : ¬ (m : Int) = (mm : Int) := by omega
        go_wp2_with (first
          | (go_at_call 94; refine (HRN.out _ HR.out.2.2).mono ?_; intro e u2 ho; obtain ⟨m', gl, la, lc, he, hri, hrow, hl, hb⟩ := ho; have em := HM.out.uniq hri; subst em; rw [← HEN.out] at he; subst he; have HROW := Hid.mk' hrow; have HH2 := Hid.mk' (HR.out.1.below hb); have HB2 := Hid.mk' (HR.out.2.2.trans (hb.mono HR.out.2.2.size)); clear HRN hb hrow hl hri; have y1 := HH2.out.cell 1; have y2 := HH2.out.cell 2; have y3 := HH2.out.cell 3; have y4 := HH2.out.cell 4; have y5 := HH2.out.cell 5; have y6 := HH2.out.cell 6)
          | (go_at_call 96; refine (HBL.out _).mono ?_; rintro e u3 ⟨rfl, hb⟩; have HB3 := Hid.mk' (HB2.out.trans (hb.mono HB2.out.size)); have HBB3 := Hid.mk' hb; clear HBL hb))
        go_ret2
        first | exact HBAD.out _ HNA.out HB3.out | exact HBAD.out _ HNA.out HB3.out.drew
end Go.Proofs.YtlncjgnomhpjnaaGreatDoor

/-
  From, whatever the text and the place.
-/
namespace Go.Proofs.YtlncjgnomhpjnaaGreatDoor
open Go.RowKit Go.Deep
set_option linter.unusedVariables false
theorem FrmAns.yes {e : Ending} {w w' : World} {T : List UInt8} {a : Int} (h : FrmAns e w w' T a) (h0 : frmE T a = 0) : ∃ gl, e = .returned (.tuple #[.slice (some ⟨gl, 0, none⟩) (dCh T) (dCh T), .int .i64 0]) ∧ RowsL w.heap.size w' (.slice (some ⟨gl, 0, none⟩) (dCh T) (dCh T)) (dCh T) (dSa T - a.toNat) (frmS T a.toNat) ∧ Below w.heap.size w w' := by
  rcases h with ⟨⟨-, v, rfl, hr⟩ | ⟨hno, -⟩, hb⟩
  · obtain ⟨g, A, C, rfl, -⟩ := hr.open
    exact ⟨g, rfl, hr, hb⟩
  · exact absurd h0 hno
theorem FrmAns.nothing {e : Ending} {w w' : World} {T : List UInt8} {a : Int} (h : FrmAns e w w' T a) (h0 : frmE T a ≠ 0) : e = .returned (.tuple #[.slice none 0 0, .int .i64 (frmE T a)]) ∧ Below w.heap.size w w' := by
  rcases h with ⟨⟨hy, -⟩ | ⟨-, he⟩, hb⟩
  · exact absurd hy h0
  · exact ⟨he, hb⟩
theorem streamFrom_any (T : List UInt8) (a : Int) (w : World) (hs : T.length ≤ 9000) (hT : TabsU w) :
    Calls Tryz.prog 54 #[.string (bs T), .int .i64 a] w fun e w' => FrmAns e w w' T a := by
  by_cases hp : HdP T ∧ dWh T = 1
  · by_cases ha : 0 ≤ a ∧ a ≤ dSa T
    · obtain ⟨q, rfl⟩ : ∃ q : Nat, a = q := ⟨a.toNat, by omega⟩
      by_cases he : q = dSa T
      · subst he
        exact streamFrom_end T w hs hp.1 hp.2
      · have hb := hd_bd hp.1
        by_cases hB : stB T q ≤ T.length - dSz T
        · exact streamFrom_rest T q w hs hp.1 hp.2 (by omega) hB hT
        · exact streamFrom_short T q w hs hp.1 hp.2 (by omega) (by omega) (by have := stB_bd hp.1 q; omega)
    · exact streamFrom_arg T a w hs hp.1 hp.2 ha
  · exact streamFrom_head T a w hs hp
theorem refFrom_any (T : List UInt8) (a : Int) (w : World) (hs2 : T.length ≤ 9223372036854775807) (hT : TabAt w 3) (hT3 : 3 < w.heap.size) :
    Calls Tryz.prog 56 #[.string (bs T), .int .i64 a] w fun e w' => FrmAns e w w' T a := by
  by_cases hs : T.length ≤ 9000
  · by_cases hp : HdP T ∧ dWh T = 1
    · by_cases ha : 0 ≤ a ∧ a ≤ dSa T
      · obtain ⟨q, rfl⟩ : ∃ q : Nat, a = q := ⟨a.toNat, by omega⟩
        by_cases he : q = dSa T
        · subst he
          exact refFrom_end T w hs hp.1 hp.2
        · exact refFrom_rest T q w hs hp.1 hp.2 (by omega) hT hT3
      · exact refFrom_arg T a w hs hp.1 hp.2 ha
    · exact refFrom_head T a w hs hp
  · exact refFrom_long T a w hs hs2
set_option maxRecDepth 4000 in
set_option maxHeartbeats 2000000 in
theorem reelFrom_any (T : List UInt8) (a : Int) (w : World) (hs : T.length ≤ 9223372036854775807) (hT : TabsU w) :
    Calls Tryz.prog 26 #[.string (bs T), .int .i64 a] w fun e w' => FrmAns e w w' T a := by
  have hz : (bs T).size = T.length := bs_size T
  by_cases hl : T.length ≤ 9000
  · have HSD := Hid.mk' (streamFrom_any T a w hl hT)
    have hd9 : decide ((9000 : Int) < (T.length : Int)) = false := decide_eq_false (by omega)
    clear hT
    by_cases h0 : frmE T a = 0
    · have HI := Hid.mk' (fun (e : Ending) (w w' : World) (h : FrmAns e w w' T a) => h.yes h0)
      have HBK : Hid (∀ v w', RowsL w.heap.size w' v (dCh T) (dSa T - a.toNat) (frmS T a.toNat) → Below w.heap.size w w' → FrmAns (.returned (.tuple #[v, .int .i64 0])) w w' T a) := fun v w' h1 h2 => ⟨.inl ⟨h0, v, rfl, h1⟩, h2⟩
      clear h0
      generalize bs T = SB at *
      go_enter Tryz.func26, Tryz.ntmps26
      go_wp2_with (first
        | (go_at_call 54; refine HSD.out.mono ?_; intro e u1 ho; obtain ⟨gl, rfl, hro, hb⟩ := HI.out _ _ _ ho; have HRO := Hid.mk' (And.intro hro hb); clear hro hb HSD ho))
      go_ret2
      exact HBK.out _ _ HRO.out.1 HRO.out.2
    · have HI := Hid.mk' (fun (e : Ending) (w w' : World) (h : FrmAns e w w' T a) => h.nothing h0)
      have HBK : Hid (∀ w', Below w.heap.size w w' → FrmAns (.returned (.tuple #[.slice none 0 0, .int .i64 (frmE T a)])) w w' T a) := fun w' h2 => ⟨.inr ⟨h0, rfl⟩, h2⟩
      have hEb : 0 ≤ frmE T a ∧ frmE T a ≤ 100 := by
        unfold frmE
        repeat (first | split | omega)
      clear h0
      generalize bs T = SB at *
      generalize frmE T a = E at *
      go_enter Tryz.func26, Tryz.ntmps26
      go_wp2_with (first
        | (go_at_call 54; refine HSD.out.mono ?_; intro e u1 ho; obtain ⟨rfl, hb⟩ := HI.out _ _ _ ho; have HRO := Hid.mk' hb; clear hb HSD ho))
      go_ret2
      exact HBK.out _ HRO.out
  · have HBAD : Hid (∀ w', Below w.heap.size w w' → FrmAns (.returned (.tuple #[.slice none 0 0, .int .i64 4])) w w' T a) := fun w' hb => frm_bad 4 (by omega) (by unfold frmE; rw [if_neg hl]) hb
    have hl2 : 9000 < T.length := by omega
    clear hT
    generalize bs T = SB at *
    go_enter Tryz.func26, Tryz.ntmps26
    go_wp2
    go_ret2
    exact HBAD.out _ (Below.refl _ _)
end Go.Proofs.YtlncjgnomhpjnaaGreatDoor

