import Derived.Test.YtlncjgnomhpjnabGreatDoorQU22
/-
  Sums of bytes: sums.SumOn and reelref.Sum.
-/
namespace Go.Proofs.YtlncjgnomhpjnabGreatDoor
open Go.RowKit Go.Deep
set_option linter.unusedVariables false
theorem sumN_parts (l : List UInt8) : ((sumN l : Nat) : Int).tmod 65536 = ((sA l % 65521 : Nat) : Int) ∧ ((sumN l : Nat) : Int).tdiv 65536 = ((sB l % 65521 : Nat) : Int) ∧ ((sumN l : Nat) : Int) % 65536 = ((sA l % 65521 : Nat) : Int) ∧ ((sumN l : Nat) : Int) / 65536 = ((sB l % 65521 : Nat) : Int) := by
  have h2 : sA l % 65521 < 65521 := Nat.mod_lt _ (by decide)
  rw [Int.tmod_eq_emod_of_nonneg (by omega), Int.tdiv_eq_ediv_of_nonneg (by omega)]
  unfold sumN
  omega
set_option maxHeartbeats 400000 in
/-- the program's sum, behind other bytes -/
theorem sumOn_any (p T : List UInt8) (w : World) (hT : T.length ≤ 2097152) :
    Calls Tryz.prog 202 #[.int .i64 (sumN p : Nat), .string (bs T)] w fun e w' => e = .returned (.int .i64 (sumN (p ++ T) : Nat)) ∧ w' = w := by
  have hz : (bs T).size = T.length := bs_size T
  have HG : Hid (∀ k (h : k < (bs T).size), (bs T)[k] = T[k]'(by rw [hz] at h; exact h)) := fun k h => bs_get T k h
  generalize bs T = S at *
  obtain ⟨q1, q2, q3, q4⟩ := sumN_parts p
  have q5 := sumN_lt p
  generalize hN : sumN p = N0 at *
  clear hN
  have hA0 : sA p % 65521 < 65521 := Nat.mod_lt _ (by decide)
  have hB0 : sB p % 65521 < 65521 := Nat.mod_lt _ (by decide)
  have HA0 : Hid (sA p % 65521 = sA (p ++ T.take 0) % 65521 ∧ sB p % 65521 = sB (p ++ T.take 0) % 65521) := ⟨by simp, by simp⟩
  generalize sA p % 65521 = A0 at *
  generalize sB p % 65521 = B0 at *
  go_enter Tryz.func202, Tryz.ntmps202
  go_wp2
  clear q1 q2 q3 q4 q5 hA0 hB0
  go_loop [5, 6, 7, 14] (fun a b _ i => ∃ k : Nat, k ≤ T.length ∧ i = .int .i64 k ∧ a = .int .i64 ((sA (p ++ T.take k) % 65521 : Nat) : Int) ∧ b = .int .i64 ((sB (p ++ T.take k) % 65521 : Nat) : Int)) (fun _ _ _ i => T.length - (intOf i).toNat)
  case atStart => exact ⟨0, Nat.zero_le _, rfl, by rw [HA0.out.1], by rw [HA0.out.2]⟩
  case round =>
    obtain ⟨k, hk, rfl, rfl, rfl⟩ := hrel
    by_cases hlt : k < T.length
    · have hkS : k < S.size := by omega
      have hc : S[k].toNat < 256 := UInt8.toNat_lt _
      have HE : Hid (p ++ T.take (k + 1) = p ++ T.take k ++ [S[k]]) := by show _ = _; rw [List.take_succ_eq_append_getElem hlt, HG.out k hkS, List.append_assoc]
      have HA : Hid (sA (p ++ T.take (k + 1)) = sA (p ++ T.take k) + S[k].toNat) := by
        show _ = _; rw [HE.out, sA_snoc]
      have HB : Hid (sB (p ++ T.take (k + 1)) = sB (p ++ T.take k) + (sA (p ++ T.take k) + S[k].toNat)) := by
        show _ = _; rw [HE.out, sB_snoc, sA_snoc]
      clear HE
      generalize sA (p ++ T.take k) = A at *
      generalize sB (p ++ T.take k) = B at *
      have h1 : A % 65521 < 65521 := Nat.mod_lt _ (by decide)
      have h2 : B % 65521 < 65521 := Nat.mod_lt _ (by decide)
      go_wp2
      go_round
      case rel => exact ⟨k + 1, by omega, by go_num, by rw [HA.out]; go_num, by rw [HB.out]; go_num⟩
      case measure => simp [intOf]; omega
    · have e : k = T.length := by omega
      subst e
      rw [List.take_length]
      have HN : Hid (((sumN (p ++ T) : Nat) : Int) = 65536 * ((sB (p ++ T) % 65521 : Nat) : Int) + ((sA (p ++ T) % 65521 : Nat) : Int)) := by show _ = _; unfold sumN; omega
      have h1 : sA (p ++ T) % 65521 < 65521 := Nat.mod_lt _ (by decide)
      have h2 : sB (p ++ T) % 65521 < 65521 := Nat.mod_lt _ (by decide)
      generalize sA (p ++ T) % 65521 = A at *
      generalize sB (p ++ T) % 65521 = B at *
      go_wp2
      go_ret
      exact ⟨ret_int HN.out.symm, rfl⟩
end Go.Proofs.YtlncjgnomhpjnabGreatDoor

/-
  The sum of a sound: sound.SumOn, sound.Sum, reelref.interleaved.
-/
namespace Go.Proofs.YtlncjgnomhpjnabGreatDoor
open Go.RowKit Go.Deep
set_option linter.unusedVariables false
theorem smp_lo (v : Int) : v % 256 = ((smpB v false).toNat : Int) := by
  have e : (smpB v false).toNat = (v % 65536).toNat % 256 := by
    show (UInt8.ofNat ((v % 65536).toNat % 256)).toNat = _
    rw [UInt8.toNat_ofNat']; omega
  rw [e]
  omega
theorem smp_hi (v : Int) : v / 256 % 256 = ((smpB v true).toNat : Int) := by
  have e : (smpB v true).toNat = (v % 65536).toNat / 256 := by
    show (UInt8.ofNat ((v % 65536).toNat / 256)).toNat = _
    rw [UInt8.toNat_ofNat']; omega
  rw [e]
  omega
theorem strOf_int (n : Nat) (F : Nat → Nat → Int) (m : Nat) : strOf (intB n F) m = bs (intT n F m) := rfl
theorem cells_two (n : Nat) (F : Nat → Nat → Int) (i p m : Nat) (hi : i < n) (hm : m = 2 * (p * n + i)) : Lib.byteCells (intT n F m) ++ [Value.int .u8 (F i p % 256), Value.int .u8 (F i p / 256 % 256)] = Lib.byteCells (intT n F (m + 2)) := by
  rw [hm, intT_two n F i p hi, Lib.byteCells_append, smp_lo, smp_hi]
  rfl
theorem run_make_none (t e : TypeId) (z : Value) (bytes : Nat) (ht : Tryz.prog.underlying t = some (.slice e)) (hinfo : (Tryz.prog.info? e).map (fun i => (i.zero, i.size, i.bytes)) = some (some z, 1, bytes)) (hz1 : z.cells = #[z]) (c : Nat) (hb : bytes * c ≤ 281474976710656) (h63 : c ≤ 9223372036854775807) (w : World) :
    (Instr.makeSlice t (.int .i64 0) (.int .i64 (c : Int))).run Tryz.prog w = .ok (.slice (some ⟨w.heap.size, 0, none⟩) 0 c) (w.alloc (.cells (madeCells #[z] c) e)) := by
  obtain ⟨i, hi, hz0, hz2, hz3⟩ := info_parts hinfo
  have h : (i.bytes : Int) * (c : Int) ≤ 281474976710656 := by
    rw [hz3]
    have : ((bytes * c : Nat) : Int) ≤ 281474976710656 := by omega
    rwa [Int.natCast_mul] at this
  have := run_make (P := Tryz.prog) w t e i z ht hi hz0 .i64 .i64 0 c (Int.le_refl _) (by omega) h (by omega)
  rw [hz1, hz2] at this
  simpa using this
set_option maxHeartbeats 1000000 in
theorem soundSumOn_any (p0 : List UInt8) (a : Option Addr) (n cap : Nat) (A : Nat → Option Addr) (S : Nat) (C : Nat → Nat) (F : Nat → Nat → Int) (w : World) (hn1 : 1 ≤ n) (hn4 : n ≤ 4) (hS : S ≤ 300)
    (hA : ListsAt w a n A (fun _ => S) C) (hI : ∀ i, i < n → IntsAt w (A i) S (F i)) (hlow : Low w.heap.size a n A (fun _ => S)) :
    Calls Tryz.prog 131 #[.int .i64 (sumN p0 : Nat), .slice a n cap] w fun e w' => e = .returned (.int .i64 (sumN (p0 ++ intT n F (2 * (S * n))) : Nat)) ∧ Below w.heap.size w w' := by
  have HSO := Hid.mk' (fun u => sumOn_any p0 (intT n F (2 * (S * n))) u (by rw [intT_length]; have : S * n ≤ 300 * 4 := Nat.mul_le_mul hS hn4; omega))
  have hSn : S * n ≤ 1200 := Nat.mul_le_mul hS hn4
  have hmk := run_make_none 33 5 (.int .u8 0) 1 Tryz.underlying33 infoByte rfl (2 * (n * S)) (by rw [Nat.mul_comm n S]; omega) (by rw [Nat.mul_comm n S]; omega)
  have e1 : IntKind.i64.wrap (2 * (n : Int)) = ((2 * n : Nat) : Int) := by rw [IntKind.wrap_i64]; omega
  have e2 : IntKind.i64.wrap (((2 * n : Nat) : Int) * (S : Int)) = ((2 * (n * S) : Nat) : Int) := by
    have h1 : ((2 * n : Nat) : Int) * (S : Int) = ((2 * (n * S) : Nat) : Int) := by simp [Int.mul_assoc]
    have h2 : n * S ≤ 1200 := by rw [Nat.mul_comm]; exact hSn
    rw [h1, IntKind.wrap_i64]; omega
  have HI := Hid.mk' hI
  have HLOW := Hid.mk' hlow
  obtain ⟨b, off, rfl, hcell⟩ := hA.open (by omega)
  have HCL := Hid.mk' hcell
  have HBL : Hid (b < w.heap.size) := by
    have := hlow.1 _ rfl (by omega : 0 < n)
    exact this
  have hc0 := hcell 0 (by omega)
  simp only [Nat.add_zero] at hc0
  clear hA hI hlow hcell
  generalize hK : 2 * (n * S) = K at *
  have HK := Hid.mk' hK
  clear hK
  generalize 2 * n = N2 at *
  have hbl := HBL.out
  have HST : Hid (∀ (u : World) (g c : Nat), u.ownsRow w.heap.size 5 1 (.slice (some ⟨g, 0, none⟩) (2 * (S * n)) c) (2 * (S * n)) (Lib.byteCells (intT n F (2 * (S * n)))) → _) := fun u g c (h : u.ownsRow w.heap.size 5 1 (.slice (some ⟨g, 0, none⟩) (2 * (S * n)) c) (2 * (S * n)) (Lib.byteCells (intT n F (2 * (S * n))))) =>
    run_rowString (P := Tryz.prog) u 33 9 5 g 0 (2 * (S * n)) c (intB n F) Tryz.underlying33 Tryz.underlying5 Tryz.underlying9 (fun i hi => by
      have := h.cells (g := g) rfl i (.int .u8 (intB n F i).toNat) (by simp [Lib.byteCells, intT, List.getElem?_range hi])
      rw [Addr.add_lit] at this; exact this)
  rw [strOf_int] at HST
  generalize sumN p0 = N0 at *
  go_enter Tryz.func131, Tryz.ntmps131
  go_wp2
  clear hmk e1 e2 hc0
  go_loopw [5, 6, 8, 9, 23] (fun ov _ _ _ pv wr => ∃ p g c m : Nat, p ≤ S ∧ pv = .int .i64 p ∧ ov = .slice (some ⟨g, 0, none⟩) m c ∧ Hid (m = 2 * (p * n) ∧ wr.ownsRow w.heap.size 5 1 (.slice (some ⟨g, 0, none⟩) m c) m (Lib.byteCells (intT n F m)) ∧ Below w.heap.size w wr)) (fun _ _ _ _ pv _ => S - (intOf pv).toNat)
  case atStart =>
    refine ⟨0, w.heap.size, K, 0, Nat.zero_le _, rfl, rfl, by simp, ?_, (Below.refl _ _).alloc (Nat.le_refl _) _⟩
    exact World.ownsRow_made w _ K (Nat.le_refl _) (by have := HK.out; rw [Nat.mul_comm n S] at this; simp only [maxLen]; omega) (by simp [size_madeCells])
  case round =>
    obtain ⟨p, g, c, m, hp, rfl, rfl, HR⟩ := hrel
    by_cases hlt : p < S
    · go_wp2
      go_loopw [5, 8, 9, 28] (fun ov _ _ iv wr => ∃ i g c m : Nat, i ≤ n ∧ iv = .int .i64 i ∧ ov = .slice (some ⟨g, 0, none⟩) m c ∧ Hid (m = 2 * (p * n + i) ∧ wr.ownsRow w.heap.size 5 1 (.slice (some ⟨g, 0, none⟩) m c) m (Lib.byteCells (intT n F m)) ∧ Below w.heap.size w wr)) (fun _ _ _ iv _ => n - (intOf iv).toNat)
      case atStart => exact ⟨0, g, c, m, by omega, rfl, rfl, by have := HR.out.1; omega, HR.out.2⟩
      case round =>
        clear HR
        obtain ⟨i, g, c, m, hi, rfl, rfl, HR⟩ := hrel
        by_cases hin : i < n
        · obtain ⟨gi, oi, hAi, hci⟩ := (HI.out i hin).open (by omega)
          have hcb : wr.cell? ⟨b, off + i, none⟩ = some (.slice (some ⟨gi, oi, none⟩) S (C i)) := by
            have := (HR.out.2.2.cell (p := ⟨b, off + i, none⟩) hbl).trans (HCL.out i hin)
            rw [hAi] at this; exact this
          have hgl : gi < w.heap.size := by have := HLOW.out.2 i hin _ hAi (by show 0 < S; omega); exact this
          have hcv : wr.cell? ⟨gi, oi + p, none⟩ = some (.int .i64 (F i p)) := (HR.out.2.2.cell (p := ⟨gi, oi + p, none⟩) hgl).trans (hci p hlt)
          have hpn : p * n + i ≤ 1200 := by
            have h1 : p * n ≤ 299 * n := Nat.mul_le_mul_right n (by omega)
            omega
          have hm2 := HR.out.1
          obtain ⟨g', c', u', hr, ho, hg⟩ := app_row 33 5 (.int .u8 0) 1 Tryz.underlying33 infoByte rfl wr w.heap.size (.slice (some ⟨g, 0, none⟩) m c) m _ #[.int .u8 (F i p % 256), .int .u8 (F i p / 256 % 256)] HR.out.2.1 (by simp) (by intro u hu; simp at hu; rcases hu with rfl | rfl <;> rfl) (by simp only [maxLen]; simp; omega) (by simp; omega) HR.out.2.2.size 33
          have HN : Hid (u'.ownsRow w.heap.size 5 1 (.slice (some ⟨g', 0, none⟩) (m + 2) c') (m + 2) (Lib.byteCells (intT n F (m + 2))) ∧ Below w.heap.size w u') := by
            refine ⟨?_, HR.out.2.2.grown hg HR.out.2.2.size (fun k hk => (HR.out.2.1.lt k hk).1)⟩
            rw [← cells_two n F i p m hin hm2]
            exact ho
          have HAP : Hid (_ = _) := hr
          generalize F i p = V at *
          clear hci hr ho hg hpn
          have HM2 := Hid.mk' hm2
          clear hm2
          go_wp2_with (at_builtin; refine wpList_append_rn rfl _ _ _ rfl _ _ _ rfl rfl HAP.out ?_; clear HAP)
          go_roundw
          case rel => exact ⟨i + 1, g', c', m + 2, by omega, by go_num, rfl, by rw [HM2.out]; omega, HN.out⟩
          case measure => simp [intOf]; omega
        · have e : i = n := by omega
          subst e
          go_wp2
          go_roundw
          case rel => exact ⟨p + 1, g, c, m, by omega, by go_num, rfl, by rw [HR.out.1, Nat.add_mul, Nat.one_mul], HR.out.2⟩
          case measure => simp [intOf]; omega
    · have e : p = S := by omega
      subst e
      obtain ⟨hm, ho, hb⟩ := HR.out
      subst hm
      have hcv := HST.out wr g c ho
      have HB := Hid.mk' hb
      clear ho hb HR HST
      generalize bs (intT n F (2 * (p * n))) = T at *
      generalize hm : 2 * (p * n) = m at *
      have HM := Hid.mk' hm
      clear hm
      go_wp2_with (go_at_call 202; refine (HSO.out _).mono ?_; rintro e u1 ⟨rfl, hw⟩; subst u1)
      go_ret
      exact ⟨by rw [HM.out]; rfl, HB.out⟩
end Go.Proofs.YtlncjgnomhpjnabGreatDoor

