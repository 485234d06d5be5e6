import Derived.Test.YtlncjgnomhpjnaaGreatDoorEKFrameMath
/-
  Bits in bytes: bittext.Bytes and reelref.packed.
-/
namespace Go.Proofs.YtlncjgnomhpjnaaGreatDoor
open Go.RowKit Go.Deep
set_option linter.unusedVariables false

theorem or_u8 (a b : Nat) (ha : a < 256) (hb : b < 256) : bits .or .u8 (a : Int) (b : Int) = ((a ||| b : Nat) : Int) := by
  have hx : a ||| b < 2 ^ 8 := Nat.or_lt_two_pow (by omega) (by omega)
  have h1 : (BitVec.ofInt 8 (a : Int)).toNat = a := by
    rw [BitVec.ofInt_natCast, BitVec.toNat_ofNat]; exact Nat.mod_eq_of_lt (by omega)
  have h2 : (BitVec.ofInt 8 (b : Int)).toNat = b := by
    rw [BitVec.ofInt_natCast, BitVec.toNat_ofNat]; exact Nat.mod_eq_of_lt (by omega)
  show IntKind.u8.wrap ((BitVec.ofInt 8 (a : Int) ||| BitVec.ofInt 8 (b : Int)).toNat : Int) = _
  rw [BitVec.toNat_or, h1, h2, IntKind.wrap_u8]
  omega
set_option maxHeartbeats 1000000 in
theorem bytes_any (T : List UInt8) (w : World) (hT : AllB T) (hs : T.length ≤ 100000) :
    Calls Tryz.prog 65 #[.string (bs T)] w fun e w' => e = .returned (.string (bs (packT T))) ∧ Below w.heap.size w w' := by
  obtain ⟨S, hS⟩ : ∃ S, S = bs T := ⟨_, rfl⟩
  have hz : S.size = T.length := by rw [hS, bs_size]
  have hmk := run_make_row' (P := Tryz.prog) 61 5 (.int .u8 0) 1 Tryz.underlying61 infoByte rfl .i64 .i64 ((T.length + 7) / 8) (by omega) (by omega)
  have hq : ((S.size : Int) + 8 - 1).tdiv 8 = (((T.length + 7) / 8 : Nat) : Int) := by rw [Int.tdiv_eq_ediv_of_nonneg (by omega), hz]; omega
  have w1 : IntKind.i64.wrap ((S.size : Int) + 8) = (S.size : Int) + 8 := by rw [IntKind.wrap_i64]; omega
  have w2 : IntKind.i64.wrap ((S.size : Int) + 8 - 1) = (S.size : Int) + 8 - 1 := by rw [IntKind.wrap_i64]; omega
  have HG : Hid (∀ j (h : j < S.size), S[j] = ltr (tbit T j)) := by
    show ∀ j (h : j < S.size), S[j] = ltr (tbit T j)
    subst hS
    intro j h
    rw [bs_get]; exact tbit_get hT j (by rw [bs_size] at h; exact h)
  have HZ := Hid.mk' hz
  have HST : Hid (strOf (pkB T) ((T.length + 7) / 8) = bs (packT T)) := strOf_pack T
  rw [← hS]
  clear hS hz hT
  generalize hR : bs (packT T) = R at *
  clear hR
  obtain ⟨M, hM⟩ : ∃ M, M = (T.length + 7) / 8 := ⟨_, rfl⟩
  have hMb : M ≤ 12501 := by omega
  rw [← hM] at hmk hq HST
  have HM := Hid.mk' hM
  clear hM
  go_enter Tryz.func65, Tryz.ntmps65
  go_wp2
  clear hmk hq w1 w2
  have HCV := Hid.mk' (fun (u : World) h => run_rowString (P := Tryz.prog) u 61 9 5 w.heap.size 0 M M (pkB T) Tryz.underlying61 Tryz.underlying5 Tryz.underlying9 h)
  go_loopw [4, 13] (fun _ i wr => ∃ k : Nat, k ≤ S.size ∧ i = .int .i64 k ∧ Hid (wr.rowIs w.heap.size 5 M (fun j => .int .u8 (pkN T k j : Nat)) ∧ Below w.heap.size w wr)) (fun _ i _ => S.size - (intOf i).toNat)
  case atStart => exact ⟨0, Nat.zero_le _, rfl, (World.rowIs_made w (.int .u8 0) M 5).congr fun i _ => by rw [pkN_zero]; rfl, (Below.refl _ _).alloc (Nat.le_refl _) _⟩
  case round =>
    obtain ⟨m, hm, rfl, HR⟩ := hrel
    by_cases hlt : m < S.size
    · have hdm : m / 8 < M := by have := HM.out; have := HZ.out; omega
      have hc1 := HR.out.1.cell hdm
      have hf1 := HR.out.1.frozen (m / 8)
      have hb := HG.out m hlt
      have hbn : (S[m].toNat : Int) = 48 + ((tbit T m).toNat : Int) := by rw [hb, ltr_nat]; omega
      have hb2 : (tbit T m).toNat ≤ 1 := Bool.toNat_le _
      have hp := pkN_lt T m (m / 8)
      have hp2 : (tbit T m).toNat * 2 ^ (7 - m % 8) < 256 := by
        have : 2 ^ (7 - m % 8) ≤ 2 ^ 7 := Nat.pow_le_pow_right (by omega) (by omega)
        have := Nat.mul_le_mul hb2 this
        omega
      have hor := or_u8 _ _ hp hp2
      rw [pkN_step] at hor
      have hset : (wr.setCell ⟨w.heap.size, m / 8, none⟩ (.int .u8 (pkN T (m + 1) (m / 8) : Nat))).rowIs w.heap.size 5 M (fun j => .int .u8 (pkN T (m + 1) j : Nat)) :=
        (HR.out.1.set (m / 8) _).congr fun j _ => by
          by_cases e : j = m / 8
          · rw [if_pos e, e]
          · rw [if_neg e, pkN_other T m j e]
      have HSET := Hid.mk' hset
      have HB := Hid.mk' hb
      generalize pkN T (m + 1) (m / 8) = P2 at *
      generalize pkN T m (m / 8) = P1 at *
      have td : (m : Int).tdiv 8 = ((m / 8 : Nat) : Int) := by rw [Int.tdiv_eq_ediv_of_nonneg (by omega)]; omega
      have tm : (m : Int).tmod 8 = ((m % 8 : Nat) : Int) := by rw [Int.tmod_eq_emod_of_nonneg (by omega)]; omega
      have hm8 : m % 8 < 8 := Nat.mod_lt _ (by omega)
      have hval : bits .or .u8 (P1 : Int) ((48 + ((tbit T m).toNat : Int) - 48) * 2 ^ (7 - m % 8) % 256) = (P2 : Int) := by
        rw [← hor]; congr 1
        have e2 : (((tbit T m).toNat * 2 ^ (7 - m % 8) : Nat) : Int) = ((tbit T m).toNat : Int) * 2 ^ (7 - m % 8) := by simp
        rw [show (48 + ((tbit T m).toNat : Int) - 48) = ((tbit T m).toNat : Int) by omega, ← e2]
        omega
      clear hset hb
      go_wp2
      go_region
      all_goals go_wp2
      go_roundw
      case rel => exact ⟨m + 1, by omega, by go_num, HSET.out, by exact (HR.out.2.setCell (Nat.le_refl _) _).drew⟩
      case measure => simp [intOf]; omega
    · have e : m = S.size := by omega
      have hcv := HCV.out wr (fun i hi => by
        have := HR.out.1.cell (i := i) hi
        rw [e, HZ.out] at this
        rw [Nat.zero_add, this, pkB_nat])
      rw [HST.out] at hcv
      subst e
      clear HCV
      go_wp2
      go_ret
      exact ⟨rfl, HR.out.2⟩

set_option maxHeartbeats 1000000 in
theorem packed_any (T : List UInt8) (w : World) (hT : AllB T) (hs : T.length ≤ 100000) :
    Calls Tryz.prog 110 #[.string (bs T)] w fun e w' => e = .returned (.string (bs (packT T))) ∧ Below w.heap.size w w' := by
  obtain ⟨S, hS⟩ : ∃ S, S = bs T := ⟨_, rfl⟩
  have hz : S.size = T.length := by rw [hS, bs_size]
  have hmk := run_make_row' (P := Tryz.prog) 61 5 (.int .u8 0) 1 Tryz.underlying61 infoByte rfl .i64 .i64 ((T.length + 7) / 8) (by omega) (by omega)
  have hq : ((S.size : Int) + 7).tdiv 8 = (((T.length + 7) / 8 : Nat) : Int) := by rw [Int.tdiv_eq_ediv_of_nonneg (by omega), hz]; omega
  have w1 : IntKind.i64.wrap ((S.size : Int) + 7) = (S.size : Int) + 7 := by rw [IntKind.wrap_i64]; omega
  have HG : Hid (∀ j (h : j < S.size), S[j] = ltr (tbit T j)) := by
    show ∀ j (h : j < S.size), S[j] = ltr (tbit T j)
    subst hS
    intro j h
    rw [bs_get]; exact tbit_get hT j (by rw [bs_size] at h; exact h)
  have HZ := Hid.mk' hz
  have HST : Hid (strOf (pkB T) ((T.length + 7) / 8) = bs (packT T)) := strOf_pack T
  rw [← hS]
  clear hS hz hT
  generalize hR : bs (packT T) = R at *
  clear hR
  obtain ⟨M, hM⟩ : ∃ M, M = (T.length + 7) / 8 := ⟨_, rfl⟩
  have hMb : M ≤ 12501 := by omega
  rw [← hM] at hmk hq HST
  have HM := Hid.mk' hM
  clear hM
  have HCV := Hid.mk' (fun (u : World) h => run_rowString (P := Tryz.prog) u 61 9 5 w.heap.size 0 M M (pkB T) Tryz.underlying61 Tryz.underlying5 Tryz.underlying9 h)
  go_enter Tryz.func110, Tryz.ntmps110
  go_wp2
  clear hmk hq w1
  go_loopw [4] (fun i wr => ∃ k : Nat, k ≤ M ∧ i = .int .i64 k ∧ Hid (wr.rowIs w.heap.size 5 M (fun j => .int .u8 (if j < k then ((pkN T T.length j : Nat) : Int) else 0)) ∧ Below w.heap.size w wr)) (fun i _ => M - (intOf i).toNat)
  case atStart => exact ⟨0, Nat.zero_le _, rfl, (World.rowIs_made w (.int .u8 0) M 5).congr fun i _ => by rw [if_neg (by omega)], (Below.refl _ _).alloc (Nat.le_refl _) _⟩
  case round =>
    obtain ⟨k, hk, rfl, HR⟩ := hrel
    by_cases hlt : k < M
    · have hc1 := HR.out.1.cell hlt
      have hf1 := HR.out.1.frozen k
      have h8 : 8 * k < S.size := by have := HM.out; have := HZ.out; omega
      have hset : (wr.setCell ⟨w.heap.size, k, none⟩ (.int .u8 ((pkN T T.length k : Nat) : Int))).rowIs w.heap.size 5 M (fun j => .int .u8 (if j < k + 1 then ((pkN T T.length j : Nat) : Int) else 0)) :=
        (HR.out.1.set k _).congr fun j _ => by
          by_cases e : j = k
          · rw [if_pos e, e, if_pos (by omega)]
          · rw [if_neg e]
            by_cases e2 : j < k
            · rw [if_pos e2, if_pos (by omega)]
            · rw [if_neg e2, if_neg (by omega)]
      have HSET := Hid.mk' hset
      have hpl := pkN_lt T T.length k
      by_cases hg : 8 < S.size - 8 * k
      · have hd := pkN_doc T k 8 (by omega) (.inl rfl) (by have := HZ.out; omega)
        have hx : ((S.extract (8 * k) S.size).extract 0 8).size = 8 := by simp [ByteArray.size_extract]; omega
        have HN := Hid.mk' (fun u => number_any ((S.extract (8 * k) S.size).extract 0 8) u (by omega) (fun j => tbit T (8 * k + j)) (fun j h => by
          rw [ByteArray.getElem_extract, ByteArray.getElem_extract]
          have := HG.out (8 * k + j) (by omega)
          simpa using this))
        rw [hx] at HN
        have hd2 : (bitsNum (fun j => tbit T (8 * k + j)) 8 : Int) = (pkN T T.length k : Nat) := by rw [← hd]; simp
        rw [hd2] at HN
        generalize pkN T T.length k = P at *
        have v4 : IntKind.u8.wrap (P : Int) = (P : Int) := by rw [IntKind.wrap_u8]; omega
        clear hset hd hd2
        have w8 : IntKind.i64.wrap (8 * (k : Int)) = 8 * (k : Int) := by rw [IntKind.wrap_i64]; omega
        have t8 : (8 * (k : Int)).toNat = 8 * k := by omega
        have le8 : 8 * (k : Int) ≤ (S.size : Int) := by omega
        have ge8 : 0 ≤ 8 * (k : Int) := by omega
        have hsz0 : (S.extract (8 * k) S.size).size = S.size - 8 * k := by simp [ByteArray.size_extract]
        have td : decide ((8 : Int) < ((S.size - 8 * k : Nat) : Int)) = true := decide_eq_true (by omega)
        generalize hck : (if k < k then (P : Int) else 0) = oldv at hc1
        clear hck
        clear HG HST HCV
        go_wp2_with (go_at_call 151; refine (HN.out _).mono ?_; rintro e w1 ⟨rfl, hw⟩; subst w1; clear HN)
        go_roundw
        case rel => exact ⟨k + 1, by omega, by go_num, HSET.out, HR.out.2.setCell (Nat.le_refl _) _⟩
        case measure => simp [intOf]; omega
      · have hd := pkN_doc T k (S.size - 8 * k) (by omega) (.inr (by have := HZ.out; omega)) (by have := HZ.out; omega)
        have HN := Hid.mk' (fun u => number_any (S.extract (8 * k) S.size) u (by simp [ByteArray.size_extract]; omega) (fun j => tbit T (8 * k + j)) (fun j h => by
          rw [ByteArray.getElem_extract]
          rw [ByteArray.size_extract] at h
          exact HG.out (8 * k + j) (by omega)))
        have hbl := bitsNum_lt (fun j => tbit T (8 * k + j)) (S.size - 8 * k)
        have hp8 : 2 ^ (S.size - 8 * k) ≤ 2 ^ 8 := Nat.pow_le_pow_right (by omega) (by omega)
        have hd3 : (bitsNum (fun j => tbit T (8 * k + j)) (S.size - 8 * k) : Int) * 2 ^ (8 - (S.size - 8 * k)) = (pkN T T.length k : Nat) := by rw [← hd]; simp
        clear hset hd
        generalize pkN T T.length k = P at *
        have w8 : IntKind.i64.wrap (8 * (k : Int)) = 8 * (k : Int) := by rw [IntKind.wrap_i64]; omega
        have t8 : (8 * (k : Int)).toNat = 8 * k := by omega
        have le8 : 8 * (k : Int) ≤ (S.size : Int) := by omega
        have ge8 : 0 ≤ 8 * (k : Int) := by omega
        have hsz0 : (S.extract (8 * k) S.size).size = S.size - 8 * k := by simp [ByteArray.size_extract]
        have td : decide ((8 : Int) < ((S.size - 8 * k : Nat) : Int)) = false := decide_eq_false (by omega)
        generalize hck : (if k < k then (P : Int) else 0) = oldv at hc1
        clear hck
        rw [hsz0] at HN
        generalize bitsNum (fun j => tbit T (8 * k + j)) (S.size - 8 * k) = Q at *
        have v4 : IntKind.u8.wrap (P : Int) = (P : Int) := by rw [IntKind.wrap_u8]; omega
        obtain ⟨c, hc⟩ : ∃ c, c = S.size - 8 * k := ⟨_, rfl⟩
        rw [← hc] at hsz0 td hd3 hp8 hbl
        have hc8 : c ≤ 8 := by omega
        have HC := Hid.mk' hc
        have HH := Hid.mk' (And.intro hp8 hbl)
        clear HG HST HCV hc hg hp8 hbl
        have s8 : IntKind.i64.wrap ((8 : Int) - (c : Int)) = ((8 - c : Nat) : Int) := by rw [IntKind.wrap_i64]; omega
        have g8 : (0 : Int) ≤ ((8 - c : Nat) : Int) := by omega
        have m8 : min (8 - c) 64 = 8 - c := by omega
        have p1 : IntKind.i64.wrap ((2 : Int) ^ (8 - c)) = 2 ^ (8 - c) := by
          have h1 : (2 : Nat) ^ (8 - c) ≤ 2 ^ 8 := Nat.pow_le_pow_right (by omega) (by omega)
          have h2 : ((2 ^ (8 - c) : Nat) : Int) = 2 ^ (8 - c) := by simp
          have h3 := Nat.two_pow_pos (8 - c)
          rw [IntKind.wrap_i64]; omega
        have p2 : IntKind.i64.wrap ((Q : Int) * 2 ^ (8 - c)) = (P : Int) := by rw [hd3, IntKind.wrap_i64]; omega
        generalize 8 - c = e8 at *
        go_wp2_with (go_at_call 151; refine (HN.out _).mono ?_; rintro e w1 ⟨rfl, hw⟩; subst w1; clear HN)
        go_roundw
        case rel => exact ⟨k + 1, by omega, by go_num, HSET.out, HR.out.2.setCell (Nat.le_refl _) _⟩
        case measure => simp [intOf]; omega
    · have e : k = M := by omega
      have hcv := HCV.out wr (fun i hi => by
        have := HR.out.1.cell (i := i) hi
        rw [if_pos (by omega)] at this
        rw [Nat.zero_add, this, pkB_nat])
      rw [HST.out] at hcv
      subst e
      clear HCV
      go_wp2
      go_ret
      exact ⟨rfl, HR.out.2⟩
end Go.Proofs.YtlncjgnomhpjnaaGreatDoor

