import Derived.Test.YtlncjgnomhpjnaaGreatDoorJLay
import Derived.Test.YtlncjgnomhpjnaaGreatDoorKRefTextB
/-
  The document's packer: a subframe, Code.
-/
namespace Go.Proofs.YtlncjgnomhpjnaaGreatDoor
open Go.RowKit Go.Deep
set_option linter.unusedVariables false

/-- can a kind tell it? -/
def okK (kind : Nat) (x : Nat → Int) (n : Nat) : Bool := if kind = 0 then allSame x n else if kind = 1 then true else okG kind x n
theorem rlay_any (kind g n W : Nat) (x : Nat → Int) (w : World) (h7 : kind ≤ 7) (hn1 : 1 ≤ n) (hn : n ≤ 32) (hW : W ≤ 13) (hS : RS w g n W x) (hT : TabAt w 3) (hTl : 3 < w.heap.size) :
    Calls Tryz.prog 171 #[.int .i64 kind, .int .i64 W, .slice (some ⟨g, 0, none⟩) n n] w fun e w' => e = .returned (.string (if okK kind x n then bs (bodyT kind W x n) else ⟨#[]⟩)) ∧ Below w.heap.size w w' := by
  unfold okK bodyT
  by_cases h0 : kind = 0
  · subst h0
    exact rlay_zero g n W x w hn1 hn hW hS
  · rw [if_neg h0, if_neg h0]
    by_cases h1 : kind = 1
    · subst h1
      exact rlay_plain g n W x w hn hW hS
    · rw [if_neg h1, if_neg h1]
      have h2 : 2 ≤ kind := by omega
      by_cases hon : ord kind < n
      · by_cases hk : kind = 7
        · by_cases hD : 0 < leanD x n
          · rw [if_pos (by simp [okG, hon, hD])]
            exact rlay_seven kind g n W x w hk hn hW hon hD hS hT hTl
          · rw [if_neg (by simp [okG, hk, hD])]
            exact rlay_no7 kind g n W x w hk hn hW hon hD hS
        · rw [if_pos (by simp [okG, hon, hk])]
          exact rlay_fixed kind g n W x w h2 (by omega) hn hW hon hS hT hTl
      · rw [if_neg (by simp [okG, hon])]
        exact rlay_short kind g n W x w h2 h7 hon

/-- the best kind of the first k -/
def bestT (s W : Nat) (x : Nat → Int) (n : Nat) : Nat → ByteArray
  | 0 => ⟨#[]⟩
  | k + 1 => if (k = 0 ∧ allSame x n = false) then ⟨#[]⟩ else bs (binT (bestK W x n (k - 1)) 4 ++ (binT s 4 ++ bodyT (bestK W x n (k - 1)) W x n))
theorem bestT_succ (s W : Nat) (x : Nat → Int) (n k : Nat) : bestT s W x n (k + 1) = if (k = 0 ∧ allSame x n = false) then ⟨#[]⟩ else bs (binT (bestK W x n (k - 1)) 4 ++ (binT s 4 ++ bodyT (bestK W x n (k - 1)) W x n)) := rfl
theorem okK_ge (k : Nat) (x : Nat → Int) (n : Nat) : okK (k + 2) x n = okG (k + 2) x n := by unfold okK; rw [if_neg (by omega), if_neg (by omega)]
theorem bestT_two (s W : Nat) (x : Nat → Int) (n k : Nat) : bestT s W x n (k + 2) = bs (binT (bestK W x n k) 4 ++ (binT s 4 ++ bodyT (bestK W x n k) W x n)) := by
  rw [show k + 2 = (k + 1) + 1 from rfl, bestT_succ, if_neg (by omega), Nat.add_sub_cancel]
theorem bestT_two_size (s W : Nat) (x : Nat → Int) (n k : Nat) : (bestT s W x n (k + 2)).size = 8 + bodyL (bestK W x n k) W x n := by
  rw [bestT_two, bs_size, List.length_append, List.length_append, binT_length, binT_length, bodyT_length]; omega
theorem bestT_no (s W : Nat) (x : Nat → Int) (n : Nat) : ∀ k, okK k x n = false → bestT s W x n (k + 1) = bestT s W x n k
  | 0, h => by
    have h' : allSame x n = false := h
    rw [bestT_succ, if_pos ⟨rfl, h'⟩]; rfl
  | 1, h => by cases h
  | k + 2, h => by
    rw [okK_ge] at h
    rw [show k + 2 + 1 = (k + 1) + 2 by omega, bestT_two, bestT_two, show bestK W x n (k + 1) = bestK W x n k from if_neg (by rw [h]; simp)]
theorem bestT_new (s W : Nat) (x : Nat → Int) (n : Nat) (hn1 : 1 ≤ n) : ∀ k, okK k x n = true → (bestT s W x n k = ⟨#[]⟩ ∨ bodyL k W x n + 8 < (bestT s W x n k).size) → bestT s W x n (k + 1) = bs (binT k 4 ++ (binT s 4 ++ bodyT k W x n))
  | 0, h, _ => by
    have h' : allSame x n = true := h
    rw [bestT_succ, if_neg (by rw [h']; simp), show bestK W x n (0 - 1) = 0 from by unfold bestK; rw [h']; rfl]
  | 1, h, hc => by
    cases ha : allSame x n with
    | false => rw [show (1 + 1) = 0 + 2 from rfl, bestT_two, show bestK W x n 0 = 1 from by unfold bestK; rw [ha]; rfl]
    | true =>
      exfalso
      have e : bestT s W x n 1 = bs (binT 0 4 ++ (binT s 4 ++ bodyT 0 W x n)) := by
        rw [show (1 : Nat) = 0 + 1 from rfl, bestT_succ, if_neg (by rw [ha]; simp), show bestK W x n (0 - 1) = 0 from by unfold bestK; rw [ha]; rfl]; rfl
      rw [e] at hc
      rcases hc with hc | hc
      · exact bs_ne (by rw [List.length_append, binT_length]; omega) hc
      · rw [bs_size, List.length_append, List.length_append, binT_length, binT_length, bodyT_length] at hc
        have h0 : bodyL 0 W x n = W := rfl
        have h1 : bodyL 1 W x n = n * W := rfl
        have h2 : 1 * W ≤ n * W := Nat.mul_le_mul_right _ hn1
        omega
  | k + 2, h, hc => by
    rw [okK_ge] at h
    have hlt : bodyL (k + 2) W x n < bodyL (bestK W x n k) W x n := by
      rcases hc with hc | hc
      · rw [bestT_two] at hc
        exact absurd hc (bs_ne (by rw [List.length_append, binT_length]; omega))
      · rw [bestT_two_size] at hc; omega
    rw [show k + 2 + 1 = (k + 1) + 2 by omega, bestT_two, show bestK W x n (k + 1) = k + 2 from if_pos ⟨h, hlt⟩]
theorem bestT_old (s W : Nat) (x : Nat → Int) (n : Nat) (hn1 : 1 ≤ n) : ∀ k, okK k x n = true → ¬ bestT s W x n k = ⟨#[]⟩ → ¬ bodyL k W x n + 8 < (bestT s W x n k).size → bestT s W x n (k + 1) = bestT s W x n k
  | 0, _, hne, _ => absurd rfl hne
  | 1, h, hne, _ => by
    cases ha : allSame x n with
    | false =>
      exfalso; apply hne
      rw [show (1 : Nat) = 0 + 1 from rfl, bestT_succ, if_pos ⟨rfl, ha⟩]
    | true =>
      rw [show (1 + 1) = 0 + 2 from rfl, bestT_two, show bestK W x n 0 = 0 from by unfold bestK; rw [ha]; rfl]
      rw [bestT_succ, if_neg (by rw [ha]; simp), show bestK W x n (0 - 1) = 0 from by unfold bestK; rw [ha]; rfl]
  | k + 2, h, _, hge => by
    rw [okK_ge] at h
    rw [bestT_two_size] at hge
    rw [show k + 2 + 1 = (k + 1) + 2 by omega, bestT_two, bestT_two, show bestK W x n (k + 1) = bestK W x n k from if_neg (fun hh => by have := hh.2; omega)]
theorem bestT_ne_size (s W : Nat) (x : Nat → Int) (n k : Nat) : bestT s W x n k = ⟨#[]⟩ ∨ 1 ≤ (bestT s W x n k).size := by
  cases k with
  | zero => exact .inl rfl
  | succ k =>
    rw [bestT_succ]
    by_cases h : (k = 0 ∧ allSame x n = false)
    · left; rw [if_pos h]
    · right
      rw [if_neg h, bs_size, List.length_append, binT_length]; omega
theorem allDiv_succ (l : Nat → Int) (n k : Nat) : allDiv l (n + 1) k = (allDiv l n k && decide (l n % 2 ^ k = 0)) := by simp [allDiv, List.range_succ]
theorem anyNz_succ (l : Nat → Int) (n : Nat) : anyNz l (n + 1) = (anyNz l n || decide (l n ≠ 0)) := by simp [anyNz, List.range_succ]
theorem short_lo (l : Nat → Int) (n width j : Nat) (hw1 : 1 ≤ width) (hj : fitsB width (l j) = true) : -(2 ^ (width - shiftN l n width)) ≤ shortX l n width j := by
  unfold fitsB at hj
  rw [within_iff] at hj
  have hs : shiftN l n width ≤ width - 1 := shiftT_le _ _ _
  unfold shortX
  rw [Int.le_ediv_iff_mul_le (ip2_pos _)]
  have e : (2 : Int) ^ (width - shiftN l n width) * 2 ^ shiftN l n width = 2 ^ width := by rw [← Int.pow_add]; congr 1; omega
  have e2 : (2 : Int) ^ width = 2 * 2 ^ (width - 1) := by
    obtain ⟨m, rfl⟩ : ∃ m, width = m + 1 := ⟨width - 1, by omega⟩
    rw [Int.pow_succ]; simp [Int.mul_comm]
  have hp := ip2_pos (width - 1)
  rw [Int.neg_mul, e, e2]; omega
end Go.Proofs.YtlncjgnomhpjnaaGreatDoor

/-
  The document's packer: a subframe.
-/
namespace Go.Proofs.YtlncjgnomhpjnaaGreatDoor
open Go.RowKit Go.Deep
set_option linter.unusedVariables false

theorem tmod_pow (v : Int) (k : Nat) : (v.tmod ((2 ^ k : Nat) : Int) == 0) = decide (v % 2 ^ k = 0) := by
  have h : v.tmod ((2 ^ k : Nat) : Int) = 0 ↔ v % 2 ^ k = 0 := by
    rw [← ip2]
    constructor
    · intro h; exact Int.emod_eq_zero_of_dvd (Int.dvd_of_tmod_eq_zero h)
    · intro h; exact Int.tmod_eq_zero_of_dvd (Int.dvd_of_emod_eq_zero h)
  by_cases e : v % 2 ^ k = 0
  · rw [decide_eq_true e]; simpa using h.2 e
  · rw [decide_eq_false e]
    have : ¬ v.tmod ((2 ^ k : Nat) : Int) = 0 := fun x => e (h.1 x)
    simpa using this

theorem bodyL_pos (kind W : Nat) (x : Nat → Int) (n : Nat) (hW : 1 ≤ W) (hn : 1 ≤ n) : 1 ≤ bodyL kind W x n := by
  unfold bodyL
  split
  · exact hW
  · split
    · exact Nat.mul_pos hn hW
    · unfold gL cutL; omega
theorem bestT_size_le (s W : Nat) (x : Nat → Int) (n : Nat) (hn1 : 1 ≤ n) (hn : n ≤ 32) (hW : W ≤ 13) (hX : ∀ j, j < n → -4096 ≤ x j ∧ x j ≤ 4096) (k : Nat) (hk : k ≤ 8) : (bestT s W x n k).size ≤ 2100000000 := by
  cases k with
  | zero => show (⟨#[]⟩ : ByteArray).size ≤ _; exact Nat.zero_le _
  | succ k =>
    rw [bestT_succ]
    by_cases h : (k = 0 ∧ allSame x n = false)
    · rw [if_pos h]; exact Nat.zero_le _
    · rw [if_neg h, bs_size, List.length_append, List.length_append, binT_length, binT_length, bodyT_length]
      have hl := bestK_le W x n (k - 1)
      have := bodyL_bd (bestK W x n (k - 1)) W x n (by omega) hn hW hX (bestK_ok W x n (k - 1))
      omega
set_option maxRecDepth 100000 in
set_option maxHeartbeats 4000000 in
theorem rsub_any (A : Option Addr) (n c width : Nat) (l : Nat → Int) (w : World) (hn1 : 1 ≤ n) (hn : n ≤ 32) (hw1 : 1 ≤ width) (hw : width ≤ 13) (hl : ∀ j, j < n → fitsB width (l j) = true) (hI : IntsAt w A n l) (hlow : ∀ y, A = some y → 0 < n → y.block < w.heap.size)
    (hT : TabAt w 3) (hTl : 3 < w.heap.size) :
    Calls Tryz.prog 149 #[.int .i64 width, .slice A n c] w fun e w' => e = .returned (.string (bs (subT width l n))) ∧ Below w.heap.size w w' := by
  have HI := Hid.mk' (fun u (h : Below w.heap.size w u) => hI.belowB h hlow)
  have HBD := Hid.mk' (fun j (hj : j < n) => fits_bd (hl j hj) hw)
  have HLO := Hid.mk' (fun j (hj : j < n) => short_lo l n width j hw1 (hl j hj))
  have HTB := Hid.mk' (fun (u : World) (hu : Below w.heap.size w u) => (fun r c hr hc => (hu.cell (p := ⟨3, 4 * r + c, none⟩) hTl).trans (hT r c hr hc) : TabAt u 3))
  have hmk := run_make_row' (P := Tryz.prog) 29 3 (.int .i64 0) 8 Tryz.underlying29 infoInt rfl .i64 .i64 n (by omega) (by omega)
  have HSH : Hid (shiftN l n width = shiftT l n (width - 1)) := rfl
  clear hI hlow hl hT
  go_enter Tryz.func149, Tryz.ntmps149
  go_wp2
  go_loopw [5, 6] (fun sv kv wr => ∃ k : Nat, 1 ≤ k ∧ k ≤ width ∧ kv = .int .i64 k ∧ sv = .int .i64 (shiftT l n (k - 1)) ∧ ∃ m, wr = w.drewN m) (fun _ kv _ => width - (intOf kv).toNat)
  case atStart => exact ⟨1, by omega, by omega, rfl, rfl, 0, rfl⟩
  case round =>
    obtain ⟨k, hk1, hkw, rfl, rfl, m, rfl⟩ := hrel
    have hmn : min k 64 = k := by omega
    have hP1 : 1 ≤ 2 ^ k := Nat.two_pow_pos k
    have hP2 : 2 ^ k ≤ 8192 := Nat.le_trans (Nat.pow_le_pow_right (by omega) (by omega : k ≤ 13)) (by decide)
    have vP : IntKind.i64.wrap ((2 : Int) ^ k) = ((2 ^ k : Nat) : Int) := by rw [← ip2, IntKind.wrap_i64]; omega
    have nP : ¬ ((2 ^ k : Nat) : Int) = 0 := by omega
    by_cases hkl : k < width
    · have t0 : decide ((k : Int) < (width : Int)) = true := decide_eq_true (by omega)
      have t0' : decide (k < width) = true := decide_eq_true hkl
      obtain ⟨s0, hs0⟩ : ∃ s0, s0 = shiftT l n (k - 1) := ⟨_, rfl⟩
      have HST : Hid (shiftT l n k = if (allDiv l n k && anyNz l n) = true then k else s0) := by
        show _ = _
        obtain ⟨k', rfl⟩ : ∃ k', k = k' + 1 := ⟨k - 1, by omega⟩
        rw [hs0]; rfl
      rw [← hs0]
      have HTM := Hid.mk' (fun v => tmod_pow v k)
      have HDV := Hid.mk' (fun j => allDiv_succ l j k)
      clear hs0
      generalize hPP : 2 ^ k = P at *
      clear hPP
      go_wp2
      go_loopw [7, 8, 9] (fun av bv iv wi => ∃ j : Nat, j ≤ n ∧ iv = .int .i64 j ∧ av = .bool (allDiv l j k) ∧ bv = .bool (anyNz l j) ∧ ∃ m, wi = w.drewN m) (fun _ _ iv _ => n - (intOf iv).toNat)
      case atStart => exact ⟨0, by omega, rfl, rfl, rfl, _, rfl⟩
      case round =>
        obtain ⟨j, hj, rfl, rfl, rfl, m', rfl⟩ := hrel
        by_cases hlt : j < n
        · obtain ⟨bb, off, hx, hc⟩ := (HI.out w (Below.refl _ _)).open (by omega)
          cases hx
          have hcj := hc j hlt
          clear hc
          have HD := Hid.mk' (HDV.out j)
          have HN := Hid.mk' (anyNz_succ l j)
          have htm := HTM.out (l j)
          generalize hdd : decide (l j % 2 ^ k = 0) = dd at *
          have hnz : (l j != 0) = decide (l j ≠ 0) := by by_cases h : l j = 0 <;> simp [h]
          generalize hzz : decide (l j ≠ 0) = zz at *
          clear hdd hzz
          generalize allDiv l j k = a0 at *
          generalize anyNz l j = b0 at *
          cases a0 <;> cases b0
          · go_wp2
            go_quiet ((fail))
            go_wp2
            go_roundw
            case rel => exact ⟨j + 1, by omega, by go_num, by rw [HD.out]; first | rfl | simp, by rw [HN.out]; first | rfl | simp, _, rfl⟩
            case measure => simp [intOf]; omega
          · go_wp2
            go_quiet ((fail))
            go_wp2
            go_roundw
            case rel => exact ⟨j + 1, by omega, by go_num, by rw [HD.out]; first | rfl | simp, by rw [HN.out]; first | rfl | simp, _, rfl⟩
            case measure => simp [intOf]; omega
          · go_wp2
            go_quiet ((fail))
            go_wp2
            go_roundw
            case rel => exact ⟨j + 1, by omega, by go_num, by rw [HD.out]; first | rfl | simp, by rw [HN.out]; first | rfl | simp, _, rfl⟩
            case measure => simp [intOf]; omega
          · go_wp2
            go_quiet ((fail))
            go_wp2
            go_roundw
            case rel => exact ⟨j + 1, by omega, by go_num, by rw [HD.out]; first | rfl | simp, by rw [HN.out]; first | rfl | simp, _, rfl⟩
            case measure => simp [intOf]; omega
        · have e : j = n := by omega
          subst e
          generalize allDiv l j k = a0 at *
          generalize anyNz l j = b0 at *
          cases a0 <;> cases b0
          · have HSV : Hid (shiftT l j k = s0) := HST.out.trans (by first | exact if_pos rfl | exact if_neg (by simp))
            go_wp2
            exact ⟨⟨k + 1, by omega, by omega, by go_num, by rw [Nat.add_sub_cancel, HSV.out], _, rfl⟩, by simp [intOf]; omega⟩
          · have HSV : Hid (shiftT l j k = s0) := HST.out.trans (by first | exact if_pos rfl | exact if_neg (by simp))
            go_wp2
            exact ⟨⟨k + 1, by omega, by omega, by go_num, by rw [Nat.add_sub_cancel, HSV.out], _, rfl⟩, by simp [intOf]; omega⟩
          · have HSV : Hid (shiftT l j k = s0) := HST.out.trans (by first | exact if_pos rfl | exact if_neg (by simp))
            go_wp2
            exact ⟨⟨k + 1, by omega, by omega, by go_num, by rw [Nat.add_sub_cancel, HSV.out], _, rfl⟩, by simp [intOf]; omega⟩
          · have HSV : Hid (shiftT l j k = k) := HST.out.trans (by first | exact if_pos rfl | exact if_neg (by simp))
            go_wp2
            exact ⟨⟨k + 1, by omega, by omega, by go_num, by rw [Nat.add_sub_cancel, HSV.out], _, rfl⟩, by simp [intOf]; omega⟩
    · have e : k = width := by omega
      subst e
      have t0 : decide ((k : Int) < (k : Int)) = false := decide_eq_false (by omega)
      have hsl : shiftN l n k ≤ k - 1 := shiftT_le _ _ _
      have HDIV := Hid.mk' (fun i (hi : i < n) => shiftT_div l n (k - 1) i hi)
      rw [← HSH.out] at HDIV ⊢
      have HXE : Hid (∀ i, l i / 2 ^ shiftN l n k = shortX l n k i) := fun i => rfl
      have HSBD := Hid.mk' (fun j (hj : j < n) => short_bd l n k j (HBD.out j hj))
      have HTX : Hid (bs (subT k l n) = bestT (shiftN l n k) (k - shiftN l n k) (shortX l n k) n 8) := by
        show _ = _
        rw [show (8 : Nat) = 6 + 2 from rfl, bestT_two]; rfl
      generalize shortX l n k = x at *
      generalize shiftN l n k = sh at *
      have hmn2 : min sh 64 = sh := by omega
      have hQ1 : 1 ≤ 2 ^ sh := Nat.two_pow_pos sh
      have hQ2 : 2 ^ sh ≤ 8192 := Nat.le_trans (Nat.pow_le_pow_right (by omega) (by omega : sh ≤ 13)) (by decide)
      have vQ : IntKind.i64.wrap ((2 : Int) ^ sh) = ((2 ^ sh : Nat) : Int) := by rw [← ip2, IntKind.wrap_i64]; omega
      have nQ : ¬ ((2 ^ sh : Nat) : Int) = 0 := by omega
      have HDX : Hid (∀ i, i < n → (l i).tdiv ((2 ^ sh : Nat) : Int) = x i) := fun i hi => by
        rw [← HXE.out i, ip2]
        exact Int.tdiv_eq_ediv_of_dvd (Int.dvd_of_emod_eq_zero (HDIV.out i hi))
      clear vP nP hP1 hP2 hmn HDIV HXE HSH
      generalize hQQ : 2 ^ sh = Q at *
      clear hQQ
      have HB0 : Hid (Below w.heap.size w (w.drewN m)) := below_drewN (Below.refl _ _) m
      go_wp2
      go_loopw [11] (fun iv wi => ∃ j : Nat, j ≤ n ∧ iv = .int .i64 j ∧ Hid (wi.rowIs w.heap.size 3 n (cutV j x) ∧ Below w.heap.size w wi)) (fun iv _ => n - (intOf iv).toNat)
      case atStart => exact ⟨0, Nat.zero_le _, rfl, (World.rowIs_made (w.drewN m) (.int .i64 0) n 3).congr (fun i _ => by simp [cutV, cutI]), HB0.out.alloc (Nat.le_refl _) _⟩
      case round =>
        obtain ⟨j, hj, rfl, HR⟩ := hrel
        by_cases hlt : j < n
        · obtain ⟨bb, off, hx, hc⟩ := (HI.out wr HR.out.2).open (by omega)
          cases hx
          have hcj := hc j hlt
          clear hc
          have hdx := HDX.out j hlt
          have hxb := HSBD.out j hlt
          have vx : IntKind.i64.wrap (x j) = x j := by rw [IntKind.wrap_i64]; omega
          have vx2 : wrap64 (x j) = x j := by unfold wrap64; omega
          have hc1 := HR.out.1.cell hlt
          have hf1 := HR.out.1.frozen j
          unfold cutV at hc1
          go_wp2
          go_region
          all_goals go_wp2
          all_goals go_roundw
          all_goals first
            | exact ⟨j + 1, by omega, by go_num, cutV_step rfl (HR.out.1.set j _), (HR.out.2.drew).setCell (Nat.le_refl _) _⟩
            | (simp [intOf]; omega)
        · have e : j = n := by omega
          subst e
          have HRS : Hid (RS wr w.heap.size j (k - sh) x) := ⟨HR.out.1, HSBD.out, HLO.out⟩
          have vW : IntKind.i64.wrap ((k : Int) - (sh : Int)) = ((k - sh : Nat) : Int) := by rw [IntKind.wrap_i64]; omega
          have HRU := Hid.mk' (fun (u : World) (hu : Below wr.heap.size wr u) => HRS.out.below hu)
          have HWX := Hid.mk' (fun (u : World) (hu : Below wr.heap.size wr u) => HR.out.2.trans (hu.mono HR.out.2.size))
          have HBB := Hid.mk' HSBD.out
          clear hmk HDX HSBD HLO HBD HRS
          generalize hW9 : k - sh = W at *
          have hW1 : 1 ≤ W := by omega
          have hW13 : W ≤ 13 := by omega
          clear hW9
          go_wp2
          go_loopw [12, 13] (fun sv kv wi => ∃ kd : Nat, kd ≤ 8 ∧ kv = .int .i64 kd ∧ sv = .string (bestT sh W x j kd) ∧ Hid (Below wr.heap.size wr wi)) (fun _ kv _ => 8 - (intOf kv).toNat)
          case atStart => exact ⟨0, by omega, rfl, rfl, Below.refl _ _⟩
          case round =>
            obtain ⟨kd, hkd8, rfl, rfl, HBi⟩ := hrel
            by_cases hkd : kd ≤ 7
            · have t8 : decide ((kd : Int) ≤ 7) = true := decide_eq_true (by omega)
              have HLY := Hid.mk' (rlay_any kd w.heap.size j W x wr hkd hn1 hn hW13 (HRU.out _ HBi.out) (HTB.out _ (HWX.out _ HBi.out)) (Nat.lt_of_lt_of_le hTl (HWX.out _ HBi.out).size))
              have hszi := HBi.out.size
              cases hok : okK kd x j with
              | false =>
                rw [hok, if_neg (by simp)] at HLY
                have HNO := Hid.mk' (bestT_no sh W x j kd hok)
                generalize bestT sh W x j kd = BT at *
                clear hok
                go_wp2_with (go_at_call 171; refine HLY.out.mono ?_; rintro e w2 ⟨rfl, hb2⟩; have HB2 := Hid.mk' (HBi.out.trans (hb2.mono hszi)); clear hb2 HLY)
                exact ⟨⟨kd + 1, by omega, by go_num, by rw [HNO.out], HB2.out⟩, by simp [intOf]; omega⟩
              | true =>
                rw [hok, if_pos rfl] at HLY
                have HNEW := Hid.mk' (bestT_new sh W x j hn1 kd hok)
                have HOLD := Hid.mk' (bestT_old sh W x j hn1 kd hok)
                have hbl := bodyL_bd kd W x j hkd hn hW13 HBB.out (fun h => by
                  obtain ⟨k', rfl⟩ : ∃ k', kd = k' + 2 := ⟨kd - 2, by omega⟩
                  rw [← okK_ge]; exact hok)
                have hbp := bodyL_pos kd W x j hW1 hn1
                have hs1 : (bs (bodyT kd W x j)).size = bodyL kd W x j := by rw [bs_size, bodyT_length]
                have hne1 : ¬ (bs (bodyT kd W x j)).toList = [] := bs_toList_ne (by rw [bodyT_length]; exact hbp)
                have hie1 : (bs (bodyT kd W x j)).toList.isEmpty = false := by
                  cases h : (bs (bodyT kd W x j)).toList with
                  | nil => exact absurd h hne1
                  | cons a b => rfl
                have hbs := bestT_size_le sh W x j hn1 hn hW13 HBB.out kd (by omega)
                have HA1 := Hid.mk' (fun u => binary_any (kd : Int) 4 u (by omega) (by omega) (by have := ip2_pos 4; omega))
                have HA2 := Hid.mk' (fun u => binary_any (sh : Int) 4 u (by omega) (by omega) (by have := ip2_pos 4; omega))
                have hq1 : (bs (binT (kd : Int) 4)).size ≤ 4 := by rw [bs_size, binT_length]; omega
                have hq2 : (bs (binT (sh : Int) 4)).size ≤ 4 := by rw [bs_size, binT_length]; omega
                have HST9 : Hid (bs (binT (kd : Int) 4) ++ bs (binT (sh : Int) 4) ++ bs (bodyT kd W x j) = bs (binT (kd : Int) 4 ++ (binT (sh : Int) 4 ++ bodyT kd W x j))) := by
                  show _ = _
                  rw [bs_append, bs_append, List.append_assoc]
                generalize bs (bodyT kd W x j) = S1 at *
                generalize bs (binT (kd : Int) 4) = Q1 at *
                generalize bs (binT (sh : Int) 4) = Q2 at *
                have hcases := bestT_ne_size sh W x j kd
                generalize hBTe : bestT sh W x j kd = BT at *
                clear hBTe hok
                generalize bodyL kd W x j = L1 at *
                rcases hcases with hBT | hBT
                · have HNW := Hid.mk' (HNEW.out (.inl hBT))
                  subst hBT
                  go_wp2_with (first
                    | (go_at_call 171; refine HLY.out.mono ?_; rintro e w2 ⟨rfl, hb2⟩; have HB2 := Hid.mk' (HBi.out.trans (hb2.mono hszi)); have hsz2 := HB2.out.size; clear hb2 HLY)
                    | (go_at_call 172; refine (HA1.out _).mono ?_; rintro e w3 ⟨rfl, hb3⟩; have HB3 := Hid.mk' (HB2.out.trans (hb3.mono hsz2)); have hsz3 := HB3.out.size; clear hb3 HA1)
                    | (go_at_call 172; refine (HA2.out _).mono ?_; rintro e w4 ⟨rfl, hb4⟩; have HB4 := Hid.mk' (HB3.out.trans (hb4.mono hsz3)); clear hb4 HA2))
                  exact ⟨⟨kd + 1, by omega, by go_num, by rw [HNW.out, HST9.out], HB4.out⟩, by simp [intOf]; omega⟩
                · have hneB : ¬ BT.toList = [] := by
                    intro h
                    rw [ByteArray.toList_eq] at h
                    have : BT.data.toList.length = 0 := by rw [h]; rfl
                    have h2 : BT.size = BT.data.toList.length := Array.length_toList.symm
                    omega
                  have hieB : BT.toList.isEmpty = false := by
                    cases h : BT.toList with
                    | nil => exact absurd h hneB
                    | cons a b => rfl
                  have hneE : ¬ BT = ⟨#[]⟩ := fun h => by rw [h] at hBT; exact absurd hBT (by decide)
                  obtain ⟨L2, hL2⟩ : ∃ L2, BT.size = L2 := ⟨_, rfl⟩
                  rw [hL2] at HNEW HOLD hbs hBT
                  by_cases hcmp : L1 + 8 < L2
                  · have HNW := Hid.mk' (HNEW.out (.inr hcmp))
                    have u1 : decide ((L1 : Int) + 8 < (L2 : Int)) = true := decide_eq_true (by omega)
                    have u2 : decide (L1 + 8 < L2) = true := decide_eq_true hcmp
                    clear hcmp hneE
                    go_wp2_with (first
                      | (go_at_call 171; refine HLY.out.mono ?_; rintro e w2 ⟨rfl, hb2⟩; have HB2 := Hid.mk' (HBi.out.trans (hb2.mono hszi)); have hsz2 := HB2.out.size; clear hb2 HLY)
                      | (go_at_call 172; refine (HA1.out _).mono ?_; rintro e w3 ⟨rfl, hb3⟩; have HB3 := Hid.mk' (HB2.out.trans (hb3.mono hsz2)); have hsz3 := HB3.out.size; clear hb3 HA1)
                      | (go_at_call 172; refine (HA2.out _).mono ?_; rintro e w4 ⟨rfl, hb4⟩; have HB4 := Hid.mk' (HB3.out.trans (hb4.mono hsz3)); clear hb4 HA2))
                    exact ⟨⟨kd + 1, by omega, by go_num, by rw [HNW.out, HST9.out], HB4.out⟩, by simp [intOf]; omega⟩
                  · have HOW := Hid.mk' (HOLD.out hneE hcmp)
                    have u1 : decide ((L1 : Int) + 8 < (L2 : Int)) = false := decide_eq_false (by omega)
                    have u2 : decide (L1 + 8 < L2) = false := decide_eq_false hcmp
                    clear hneE
                    go_wp2_with (go_at_call 171; refine HLY.out.mono ?_; rintro e w2 ⟨rfl, hb2⟩; have HB2 := Hid.mk' (HBi.out.trans (hb2.mono hszi)); clear hb2 HLY)
                    exact ⟨⟨kd + 1, by omega, by go_num, by rw [HOW.out], HB2.out⟩, by simp [intOf]; omega⟩
            · have e : kd = 8 := by omega
              subst e
              go_wp2
              go_ret
              exact ⟨by rw [HTX.out]; rfl, HWX.out _ HBi.out⟩
end Go.Proofs.YtlncjgnomhpjnaaGreatDoor

