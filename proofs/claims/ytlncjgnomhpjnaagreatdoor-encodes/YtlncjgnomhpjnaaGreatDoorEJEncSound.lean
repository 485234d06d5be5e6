import Derived.Test.YtlncjgnomhpjnaaGreatDoorEJEncMath
/-
  The sum of a sound: sound.SumOn, sound.Sum, reelref.interleaved.
-/
namespace Go.Proofs.YtlncjgnomhpjnaaGreatDoor
open Go.RowKit Go.Deep
set_option linter.unusedVariables false

theorem smp_lo (v : Int) : v % 256 = ((smpB v false).toNat : Int) := by
  have e : (smpB v false).toNat = (v % 65536).toNat % 256 := by
    show (UInt8.ofNat ((v % 65536).toNat % 256)).toNat = _
    rw [UInt8.toNat_ofNat']; omega
  rw [e]
  omega
theorem smp_hi (v : Int) : v / 256 % 256 = ((smpB v true).toNat : Int) := by
  have e : (smpB v true).toNat = (v % 65536).toNat / 256 := by
    show (UInt8.ofNat ((v % 65536).toNat / 256)).toNat = _
    rw [UInt8.toNat_ofNat']; omega
  rw [e]
  omega
theorem strOf_int (n : Nat) (F : Nat → Nat → Int) (m : Nat) : strOf (intB n F) m = bs (intT n F m) := rfl
theorem cells_two (n : Nat) (F : Nat → Nat → Int) (i p m : Nat) (hi : i < n) (hm : m = 2 * (p * n + i)) : Lib.byteCells (intT n F m) ++ [Value.int .u8 (F i p % 256), Value.int .u8 (F i p / 256 % 256)] = Lib.byteCells (intT n F (m + 2)) := by
  rw [hm, intT_two n F i p hi, Lib.byteCells_append, smp_lo, smp_hi]
  rfl
theorem run_make_none (t e : TypeId) (z : Value) (bytes : Nat) (ht : Tryz.prog.underlying t = some (.slice e)) (hinfo : (Tryz.prog.info? e).map (fun i => (i.zero, i.size, i.bytes)) = some (some z, 1, bytes)) (hz1 : z.cells = #[z]) (c : Nat) (hb : bytes * c ≤ 281474976710656) (h63 : c ≤ 9223372036854775807) (w : World) :
    (Instr.makeSlice t (.int .i64 0) (.int .i64 (c : Int))).run Tryz.prog w = .ok (.slice (some ⟨w.heap.size, 0, none⟩) 0 c) (w.alloc (.cells (madeCells #[z] c) e)) := by
  obtain ⟨i, hi, hz0, hz2, hz3⟩ := info_parts hinfo
  have h : (i.bytes : Int) * (c : Int) ≤ 281474976710656 := by
    rw [hz3]
    have : ((bytes * c : Nat) : Int) ≤ 281474976710656 := by omega
    rwa [Int.natCast_mul] at this
  have := run_make (P := Tryz.prog) w t e i z ht hi hz0 .i64 .i64 0 c (Int.le_refl _) (by omega) h (by omega)
  rw [hz1, hz2] at this
  simpa using this

set_option maxHeartbeats 1000000 in
theorem soundSumOn_any (p0 : List UInt8) (a : Option Addr) (n cap : Nat) (A : Nat → Option Addr) (S : Nat) (C : Nat → Nat) (F : Nat → Nat → Int) (w : World) (hn1 : 1 ≤ n) (hn4 : n ≤ 4) (hS : S ≤ 300)
    (hA : ListsAt w a n A (fun _ => S) C) (hI : ∀ i, i < n → IntsAt w (A i) S (F i)) (hlow : Low w.heap.size a n A (fun _ => S)) :
    Calls Tryz.prog 131 #[.int .i64 (sumN p0 : Nat), .slice a n cap] w fun e w' => e = .returned (.int .i64 (sumN (p0 ++ intT n F (2 * (S * n))) : Nat)) ∧ Below w.heap.size w w' := by
  have HSO := Hid.mk' (fun u => sumOn_any p0 (intT n F (2 * (S * n))) u (by rw [intT_length]; have : S * n ≤ 300 * 4 := Nat.mul_le_mul hS hn4; omega))
  have hSn : S * n ≤ 1200 := Nat.mul_le_mul hS hn4
  have hmk := run_make_none 61 5 (.int .u8 0) 1 Tryz.underlying61 infoByte rfl (2 * (n * S)) (by rw [Nat.mul_comm n S]; omega) (by rw [Nat.mul_comm n S]; omega)
  have e1 : IntKind.i64.wrap (2 * (n : Int)) = ((2 * n : Nat) : Int) := by rw [IntKind.wrap_i64]; omega
  have e2 : IntKind.i64.wrap (((2 * n : Nat) : Int) * (S : Int)) = ((2 * (n * S) : Nat) : Int) := by
    have h1 : ((2 * n : Nat) : Int) * (S : Int) = ((2 * (n * S) : Nat) : Int) := by simp [Int.mul_assoc]
    have h2 : n * S ≤ 1200 := by rw [Nat.mul_comm]; exact hSn
    rw [h1, IntKind.wrap_i64]; omega
  have HI := Hid.mk' hI
  have HLOW := Hid.mk' hlow
  obtain ⟨b, off, rfl, hcell⟩ := hA.open (by omega)
  have HCL := Hid.mk' hcell
  have HBL : Hid (b < w.heap.size) := by
    have := hlow.1 _ rfl (by omega : 0 < n)
    exact this
  have hc0 := hcell 0 (by omega)
  simp only [Nat.add_zero] at hc0
  clear hA hI hlow hcell
  generalize hK : 2 * (n * S) = K at *
  have HK := Hid.mk' hK
  clear hK
  generalize 2 * n = N2 at *
  have hbl := HBL.out
  have HST : Hid (∀ (u : World) (g c : Nat), u.ownsRow w.heap.size 5 1 (.slice (some ⟨g, 0, none⟩) (2 * (S * n)) c) (2 * (S * n)) (Lib.byteCells (intT n F (2 * (S * n)))) → _) := fun u g c (h : u.ownsRow w.heap.size 5 1 (.slice (some ⟨g, 0, none⟩) (2 * (S * n)) c) (2 * (S * n)) (Lib.byteCells (intT n F (2 * (S * n))))) =>
    run_rowString (P := Tryz.prog) u 61 9 5 g 0 (2 * (S * n)) c (intB n F) Tryz.underlying61 Tryz.underlying5 Tryz.underlying9 (fun i hi => by
      have := h.cells (g := g) rfl i (.int .u8 (intB n F i).toNat) (by simp [Lib.byteCells, intT, List.getElem?_range hi])
      rw [Addr.add_lit] at this; exact this)
  rw [strOf_int] at HST
  generalize sumN p0 = N0 at *
  go_enter Tryz.func131, Tryz.ntmps131
  go_wp2
  clear hmk e1 e2 hc0
  go_loopw [5, 6, 8, 9, 23] (fun ov _ _ _ pv wr => ∃ p g c m : Nat, p ≤ S ∧ pv = .int .i64 p ∧ ov = .slice (some ⟨g, 0, none⟩) m c ∧ Hid (m = 2 * (p * n) ∧ wr.ownsRow w.heap.size 5 1 (.slice (some ⟨g, 0, none⟩) m c) m (Lib.byteCells (intT n F m)) ∧ Below w.heap.size w wr)) (fun _ _ _ _ pv _ => S - (intOf pv).toNat)
  case atStart =>
    refine ⟨0, w.heap.size, K, 0, Nat.zero_le _, rfl, rfl, by simp, ?_, (Below.refl _ _).alloc (Nat.le_refl _) _⟩
    exact World.ownsRow_made w _ K (Nat.le_refl _) (by have := HK.out; rw [Nat.mul_comm n S] at this; simp only [maxLen]; omega) (by simp [size_madeCells])
  case round =>
    obtain ⟨p, g, c, m, hp, rfl, rfl, HR⟩ := hrel
    by_cases hlt : p < S
    · go_wp2
      go_loopw [5, 8, 9, 28] (fun ov _ _ iv wr => ∃ i g c m : Nat, i ≤ n ∧ iv = .int .i64 i ∧ ov = .slice (some ⟨g, 0, none⟩) m c ∧ Hid (m = 2 * (p * n + i) ∧ wr.ownsRow w.heap.size 5 1 (.slice (some ⟨g, 0, none⟩) m c) m (Lib.byteCells (intT n F m)) ∧ Below w.heap.size w wr)) (fun _ _ _ iv _ => n - (intOf iv).toNat)
      case atStart => exact ⟨0, g, c, m, by omega, rfl, rfl, by have := HR.out.1; omega, HR.out.2⟩
      case round =>
        clear HR
        obtain ⟨i, g, c, m, hi, rfl, rfl, HR⟩ := hrel
        by_cases hin : i < n
        · obtain ⟨gi, oi, hAi, hci⟩ := (HI.out i hin).open (by omega)
          have hcb : wr.cell? ⟨b, off + i, none⟩ = some (.slice (some ⟨gi, oi, none⟩) S (C i)) := by
            have := (HR.out.2.2.cell (p := ⟨b, off + i, none⟩) hbl).trans (HCL.out i hin)
            rw [hAi] at this; exact this
          have hgl : gi < w.heap.size := by have := HLOW.out.2 i hin _ hAi (by show 0 < S; omega); exact this
          have hcv : wr.cell? ⟨gi, oi + p, none⟩ = some (.int .i64 (F i p)) := (HR.out.2.2.cell (p := ⟨gi, oi + p, none⟩) hgl).trans (hci p hlt)
          have hpn : p * n + i ≤ 1200 := by
            have h1 : p * n ≤ 299 * n := Nat.mul_le_mul_right n (by omega)
            omega
          have hm2 := HR.out.1
          obtain ⟨g', c', u', hr, ho, hg⟩ := app_row 61 5 (.int .u8 0) 1 Tryz.underlying61 infoByte rfl wr w.heap.size (.slice (some ⟨g, 0, none⟩) m c) m _ #[.int .u8 (F i p % 256), .int .u8 (F i p / 256 % 256)] HR.out.2.1 (by simp) (by intro u hu; simp at hu; rcases hu with rfl | rfl <;> rfl) (by simp only [maxLen]; simp; omega) (by simp; omega) HR.out.2.2.size 61
          have HN : Hid (u'.ownsRow w.heap.size 5 1 (.slice (some ⟨g', 0, none⟩) (m + 2) c') (m + 2) (Lib.byteCells (intT n F (m + 2))) ∧ Below w.heap.size w u') := by
            refine ⟨?_, HR.out.2.2.grown hg HR.out.2.2.size (fun k hk => (HR.out.2.1.lt k hk).1)⟩
            rw [← cells_two n F i p m hin hm2]
            exact ho
          have HAP : Hid (_ = _) := hr
          generalize F i p = V at *
          clear hci hr ho hg hpn
          have HM2 := Hid.mk' hm2
          clear hm2
          go_wp2_with (at_builtin; refine wpList_append_rn rfl _ _ _ rfl _ _ _ rfl rfl HAP.out ?_; clear HAP)
          go_roundw
          case rel => exact ⟨i + 1, g', c', m + 2, by omega, by go_num, rfl, by rw [HM2.out]; omega, HN.out⟩
          case measure => simp [intOf]; omega
        · have e : i = n := by omega
          subst e
          go_wp2
          go_roundw
          case rel => exact ⟨p + 1, g, c, m, by omega, by go_num, rfl, by rw [HR.out.1, Nat.add_mul, Nat.one_mul], HR.out.2⟩
          case measure => simp [intOf]; omega
    · have e : p = S := by omega
      subst e
      obtain ⟨hm, ho, hb⟩ := HR.out
      subst hm
      have hcv := HST.out wr g c ho
      have HB := Hid.mk' hb
      clear ho hb HR HST
      generalize bs (intT n F (2 * (p * n))) = T at *
      generalize hm : 2 * (p * n) = m at *
      have HM := Hid.mk' hm
      clear hm
      go_wp2_with (go_at_call 164; refine (HSO.out _).mono ?_; rintro e u1 ⟨rfl, hw⟩; subst u1)
      go_ret
      exact ⟨by rw [HM.out]; rfl, HB.out⟩
end Go.Proofs.YtlncjgnomhpjnaaGreatDoor

/-
  The document's bytes of a sound: reelref.interleaved; sound.Sum.
-/
namespace Go.Proofs.YtlncjgnomhpjnaaGreatDoor
open Go.RowKit Go.Deep
set_option linter.unusedVariables false

theorem soundSum_any (a : Option Addr) (n cap : Nat) (A : Nat → Option Addr) (S : Nat) (C : Nat → Nat) (F : Nat → Nat → Int) (w : World) (hn1 : 1 ≤ n) (hn4 : n ≤ 4) (hS : S ≤ 300)
    (hA : ListsAt w a n A (fun _ => S) C) (hI : ∀ i, i < n → IntsAt w (A i) S (F i)) (hlow : Low w.heap.size a n A (fun _ => S)) :
    Calls Tryz.prog 86 #[.slice a n cap] w fun e w' => e = .returned (.int .i64 (sumN (intT n F (2 * (S * n))) : Nat)) ∧ Below w.heap.size w w' := by
  have HSO := Hid.mk' (soundSumOn_any [] a n cap A S C F w hn1 hn4 hS hA hI hlow)
  have e1 : ((sumN [] : Nat) : Int) = 1 := rfl
  rw [e1, List.nil_append] at HSO
  clear e1 hA hI hlow
  go_enter Tryz.func86, Tryz.ntmps86
  go_wp2_with (go_at_call 131; refine HSO.out.mono ?_; rintro e u1 ⟨rfl, hb⟩)
  go_ret
  exact ⟨rfl, hb⟩

theorem intB_even (n : Nat) (F : Nat → Nat → Int) (k : Nat) (h : k % 2 = 0) : ((intB n F k).toNat : Int) = (((F (k / 2 % n) (k / 2 / n)) % 65536).toNat % 256 : Nat) := by
  unfold intB
  rw [h]
  show ((UInt8.ofNat _).toNat : Int) = _
  rw [UInt8.toNat_ofNat']; omega
theorem intB_odd (n : Nat) (F : Nat → Nat → Int) (k : Nat) (h : k % 2 = 1) : ((intB n F k).toNat : Int) = (((F (k / 2 % n) (k / 2 / n)) % 65536).toNat / 256 : Nat) := by
  unfold intB
  rw [h]
  show ((UInt8.ofNat _).toNat : Int) = _
  rw [UInt8.toNat_ofNat']; omega
def intV (n : Nat) (F : Nat → Nat → Int) (k j : Nat) : Value := .int .u8 (if j < k then ((intB n F j).toNat : Int) else 0)
theorem intV_step {wr : World} {g M n k : Nat} {F : Nat → Nat → Int} {z : Int} (h : wr.rowIs g 5 M (intV n F k)) (hz : z = ((intB n F k).toNat : Int)) :
    (wr.setCell ⟨g, k, none⟩ (.int .u8 z)).rowIs g 5 M (intV n F (k + 1)) :=
  (h.set k _).congr fun i _ => by
    unfold intV
    by_cases e : i = k
    · rw [if_pos e, if_pos (by omega), e, hz]
    · rw [if_neg e]
      by_cases e2 : i < k
      · rw [if_pos e2, if_pos (by omega)]
      · rw [if_neg e2, if_neg (by omega)]

set_option maxHeartbeats 1000000 in
theorem interleaved_any (a : Option Addr) (n cap : Nat) (A : Nat → Option Addr) (S : Nat) (C : Nat → Nat) (F : Nat → Nat → Int) (w : World) (hn1 : 1 ≤ n) (hn4 : n ≤ 4) (hS : S ≤ 300) (hf : ∀ i, i < n → ∀ j, j < S → -65536 ≤ F i j ∧ F i j < 65536)
    (hA : ListsAt w a n A (fun _ => S) C) (hI : ∀ i, i < n → IntsAt w (A i) S (F i)) (hlow : Low w.heap.size a n A (fun _ => S)) :
    Calls Tryz.prog 99 #[.slice a n cap] w fun e w' => e = .returned (.string (bs (intT n F (2 * (S * n))))) ∧ Below w.heap.size w w' := by
  have hSn : S * n ≤ 1200 := Nat.mul_le_mul hS hn4
  have hmk := run_make_row' (P := Tryz.prog) 61 5 (.int .u8 0) 1 Tryz.underlying61 infoByte rfl .i64 .i64 (2 * (S * n)) (by omega) (by omega)
  have e1 : IntKind.i64.wrap (2 * (n : Int)) = ((2 * n : Nat) : Int) := by rw [IntKind.wrap_i64]; omega
  have e2 : IntKind.i64.wrap (((2 * n : Nat) : Int) * (S : Int)) = ((2 * (S * n) : Nat) : Int) := by
    have h1 : ((2 * n : Nat) : Int) * (S : Int) = ((2 * (S * n) : Nat) : Int) := by rw [← Int.natCast_mul, Nat.mul_assoc, Nat.mul_comm n S]
    rw [h1, IntKind.wrap_i64]; omega
  have HCV := Hid.mk' (fun (u : World) h => run_rowString (P := Tryz.prog) u 61 9 5 w.heap.size 0 (2 * (S * n)) (2 * (S * n)) (intB n F) Tryz.underlying61 Tryz.underlying5 Tryz.underlying9 h)
  rw [strOf_int] at HCV
  have HF := Hid.mk' hf
  have HI := Hid.mk' hI
  have HLOW := Hid.mk' hlow
  have HDV : Hid (∀ k, k < 2 * (S * n) → k / 2 / n < S ∧ k / 2 % n < n) := fun k hk => ⟨by
    rw [Nat.div_lt_iff_lt_mul (by omega)]; omega, Nat.mod_lt _ (by omega)⟩
  obtain ⟨b, off, rfl, hcell⟩ := hA.open (by omega)
  have HCL := Hid.mk' hcell
  have hbl : b < w.heap.size := by
    have := hlow.1 _ rfl (by omega : 0 < n)
    exact this
  have hc0 := hcell 0 (by omega)
  simp only [Nat.add_zero] at hc0
  have hn0 : ((n : Int) == 0) = false := by simp; omega
  have hn00 : ¬ (n : Int) = 0 := by omega
  have hn01 : ¬ n = 0 := by omega
  have hM2 : 2 * (S * n) ≤ 2400 := by omega
  clear hA hI hlow hcell hf
  generalize 2 * n = N2 at *
  generalize hM : bs (intT n F (2 * (S * n))) = R at *
  clear hM
  generalize 2 * (S * n) = M at *
  go_enter Tryz.func99, Tryz.ntmps99
  go_wp2
  clear hmk e1 e2 hc0
  go_loopw [5, 6] (fun iv _ wr => ∃ k : Nat, k ≤ M ∧ iv = .int .i64 k ∧ Hid (wr.rowIs w.heap.size 5 M (intV n F k) ∧ Below w.heap.size w wr)) (fun iv _ _ => M - (intOf iv).toNat)
  case atStart => exact ⟨0, Nat.zero_le _, rfl, (World.rowIs_made w (.int .u8 0) M 5).congr fun i _ => by unfold intV; rw [if_neg (by omega)], (Below.refl _ _).alloc (Nat.le_refl _) _⟩
  case round =>
    obtain ⟨k, hk, rfl, HR⟩ := hrel
    by_cases hlt : k < M
    · obtain ⟨hq, hr⟩ := HDV.out k hlt
      obtain ⟨gi, oi, hAi, hci⟩ := (HI.out _ hr).open (Nat.lt_of_le_of_lt (Nat.zero_le _) hq)
      have hcb : wr.cell? ⟨b, off + k / 2 % n, none⟩ = some (.slice (some ⟨gi, oi, none⟩) S (C (k / 2 % n))) := by
        have := (HR.out.2.cell (p := ⟨b, off + k / 2 % n, none⟩) hbl).trans (HCL.out _ hr)
        rw [hAi] at this; exact this
      have hgl : gi < w.heap.size := by have := HLOW.out.2 _ hr _ hAi (Nat.lt_of_le_of_lt (Nat.zero_le _) hq); exact this
      have hcv : wr.cell? ⟨gi, oi + k / 2 / n, none⟩ = some (.int .i64 (F (k / 2 % n) (k / 2 / n))) := (HR.out.2.cell (p := ⟨gi, oi + k / 2 / n, none⟩) hgl).trans (hci _ hq)
      have hV := HF.out _ hr _ hq
      have hc1 := HR.out.1.cell hlt
      have hf1 := HR.out.1.frozen k
      have HST := Hid.mk' (fun z (hz : z = ((intB n F k).toNat : Int)) => intV_step HR.out.1 hz)
      have HEV := Hid.mk' (intB_even n F k)
      have HOD := Hid.mk' (intB_odd n F k)
      have d1 : ((k : Int)).tdiv 2 = ((k / 2 : Nat) : Int) := by rw [Int.tdiv_eq_ediv_of_nonneg (by omega)]; omega
      have d2 : (k : Int) / 2 = ((k / 2 : Nat) : Int) := by omega
      have d3 : ((k / 2 : Nat) : Int).tmod (n : Int) = ((k / 2 % n : Nat) : Int) := by rw [Int.tmod_eq_emod_of_nonneg (by omega)]; rfl
      have d4 : ((k / 2 : Nat) : Int) % (n : Int) = ((k / 2 % n : Nat) : Int) := rfl
      have d5 : ((k / 2 : Nat) : Int).tdiv (n : Int) = ((k / 2 / n : Nat) : Int) := by rw [Int.tdiv_eq_ediv_of_nonneg (by omega)]; rfl
      have d6 : ((k / 2 : Nat) : Int) / (n : Int) = ((k / 2 / n : Nat) : Int) := rfl
      have hk2 : k / 2 ≤ 1200 := by omega
      have wk : IntKind.i64.wrap ((k / 2 : Nat) : Int) = ((k / 2 : Nat) : Int) := by rw [IntKind.wrap_i64]; omega
      clear hci
      generalize F (k / 2 % n) (k / 2 / n) = V at *
      generalize hK2 : k / 2 = K2 at *
      have HK2 := Hid.mk' hK2
      clear hK2
      generalize K2 % n = r at *
      generalize K2 / n = q at *
      have v1 : IntKind.i64.wrap (V + 65536) = V + 65536 := by rw [IntKind.wrap_i64]; omega
      have v2 : (V + 65536).tmod 65536 = (((V % 65536).toNat : Nat) : Int) := by rw [Int.tmod_eq_emod_of_nonneg (by omega)]; omega
      have v3 : (V + 65536) % 65536 = (((V % 65536).toNat : Nat) : Int) := by omega
      have v4 : (V % 65536).toNat < 65536 := by omega
      generalize (V % 65536).toNat = X at *
      generalize hcv0 : (if k < k then ((intB n F k).toNat : Int) else 0) = old at *
      rcases Nat.mod_two_eq_zero_or_one k with hp | hp
      · have HZ := Hid.mk' (HST.out ((X : Int) % 256) (by rw [HEV.out hp]; omega))
        have t1 : ((k : Int).tmod 2 == 1) = false := by rw [Int.tmod_eq_emod_of_nonneg (by omega)]; simp; omega
        have t2 : ((k : Int) % 2 == 1) = false := by simp; omega
        clear HST HEV HOD hp
        go_wp2
        go_region
        go_wp2
        go_roundw
        case rel => exact ⟨k + 1, by omega, by go_num, HZ.out, (HR.out.2.setCell (p := ⟨w.heap.size, k, none⟩) (Nat.le_refl _) _).drew⟩
        case measure => simp [intOf]; omega
      · have HZ := Hid.mk' (HST.out ((X : Int) / 256 % 256) (by rw [HOD.out hp]; omega))
        have t1 : ((k : Int).tmod 2 == 1) = true := by rw [Int.tmod_eq_emod_of_nonneg (by omega)]; simp; omega
        have t2 : ((k : Int) % 2 == 1) = true := by simp; omega
        clear HST HEV HOD hp
        go_wp2
        go_region
        go_wp2
        go_roundw
        case rel => exact ⟨k + 1, by omega, by go_num, HZ.out, (HR.out.2.setCell (p := ⟨w.heap.size, k, none⟩) (Nat.le_refl _) _).drew⟩
        case measure => simp [intOf]; omega
    · have e : k = M := by omega
      subst e
      have hcv := HCV.out wr (fun i hi => by
        have := HR.out.1.cell (i := i) hi
        unfold intV at this
        rw [if_pos hi] at this
        simpa using this)
      clear HCV
      go_wp2
      go_ret
      exact ⟨rfl, HR.out.2⟩
end Go.Proofs.YtlncjgnomhpjnaaGreatDoor

