import Derived.Test.YtlncjgnomhpjnaaGreatDoorPD8
import Derived.Test.YtlncjgnomhpjnaaGreatDoorPD6
import Derived.Test.YtlncjgnomhpjnaaGreatDoorPD1
import Derived.ArgAppend
import Derived.Deep.OwnRows
/-
  The sum of a sound: sound.SumOn, sound.Sum, reelref.interleaved.
-/
namespace Go.Proofs.YtlncjgnomhpjnaaGreatDoor
open Go.RowKit Go.Deep
set_option linter.unusedVariables false
theorem smp_lo (v : Int) : v % 256 = ((smpB v false).toNat : Int) := by
  have e : (smpB v false).toNat = (v % 65536).toNat % 256 := by
    show (UInt8.ofNat ((v % 65536).toNat % 256)).toNat = _
    rw [UInt8.toNat_ofNat']; omega
  rw [e]
  omega
theorem smp_hi (v : Int) : v / 256 % 256 = ((smpB v true).toNat : Int) := by
  have e : (smpB v true).toNat = (v % 65536).toNat / 256 := by
    show (UInt8.ofNat ((v % 65536).toNat / 256)).toNat = _
    rw [UInt8.toNat_ofNat']; omega
  rw [e]
  omega
theorem strOf_int (n : Nat) (F : Nat → Nat → Int) (m : Nat) : strOf (intB n F) m = bs (intT n F m) := rfl
theorem cells_two (n : Nat) (F : Nat → Nat → Int) (i p m : Nat) (hi : i < n) (hm : m = 2 * (p * n + i)) : Lib.byteCells (intT n F m) ++ [Value.int .u8 (F i p % 256), Value.int .u8 (F i p / 256 % 256)] = Lib.byteCells (intT n F (m + 2)) := by
  rw [hm, intT_two n F i p hi, Lib.byteCells_append, smp_lo, smp_hi]
  rfl
theorem run_make_none (t e : TypeId) (z : Value) (bytes : Nat) (ht : Tryz.prog.underlying t = some (.slice e)) (hinfo : (Tryz.prog.info? e).map (fun i => (i.zero, i.size, i.bytes)) = some (some z, 1, bytes)) (hz1 : z.cells = #[z]) (c : Nat) (hb : bytes * c ≤ 281474976710656) (h63 : c ≤ 9223372036854775807) (w : World) :
    (Instr.makeSlice t (.int .i64 0) (.int .i64 (c : Int))).run Tryz.prog w = .ok (.slice (some ⟨w.heap.size, 0, none⟩) 0 c) (w.alloc (.cells (madeCells #[z] c) e)) := by
  obtain ⟨i, hi, hz0, hz2, hz3⟩ := info_parts hinfo
  have h : (i.bytes : Int) * (c : Int) ≤ 281474976710656 := by
    rw [hz3]
    have : ((bytes * c : Nat) : Int) ≤ 281474976710656 := by omega
    rwa [Int.natCast_mul] at this
  have := run_make (P := Tryz.prog) w t e i z ht hi hz0 .i64 .i64 0 c (Int.le_refl _) (by omega) h (by omega)
  rw [hz1, hz2] at this
  simpa using this
set_option maxHeartbeats 1000000 in
theorem soundSumOn_any (p0 : List UInt8) (a : Option Addr) (n cap : Nat) (A : Nat → Option Addr) (S : Nat) (C : Nat → Nat) (F : Nat → Nat → Int) (w : World) (hn1 : 1 ≤ n) (hn4 : n ≤ 4) (hS : S ≤ 300)
    (hA : ListsAt w a n A (fun _ => S) C) (hI : ∀ i, i < n → IntsAt w (A i) S (F i)) (hlow : Low w.heap.size a n A (fun _ => S)) :
    Calls Tryz.prog 131 #[.int .i64 (sumN p0 : Nat), .slice a n cap] w fun e w' => e = .returned (.int .i64 (sumN (p0 ++ intT n F (2 * (S * n))) : Nat)) ∧ Below w.heap.size w w' := by
  have HSO := Hid.mk' (fun u => sumOn_any p0 (intT n F (2 * (S * n))) u (by rw [intT_length]; have : S * n ≤ 300 * 4 := Nat.mul_le_mul hS hn4; omega))
  have hSn : S * n ≤ 1200 := Nat.mul_le_mul hS hn4
  have hmk := run_make_none 61 5 (.int .u8 0) 1 Tryz.underlying61 infoByte rfl (2 * (n * S)) (by rw [Nat.mul_comm n S]; omega) (by rw [Nat.mul_comm n S]; omega)
  have e1 : IntKind.i64.wrap (2 * (n : Int)) = ((2 * n : Nat) : Int) := by rw [IntKind.wrap_i64]; omega
  have e2 : IntKind.i64.wrap (((2 * n : Nat) : Int) * (S : Int)) = ((2 * (n * S) : Nat) : Int) := by
    have h1 : ((2 * n : Nat) : Int) * (S : Int) = ((2 * (n * S) : Nat) : Int) := by simp [Int.mul_assoc]
    have h2 : n * S ≤ 1200 := by rw [Nat.mul_comm]; exact hSn
    rw [h1, IntKind.wrap_i64]; omega
  have HI := Hid.mk' hI
  have HLOW := Hid.mk' hlow
  obtain ⟨b, off, rfl, hcell⟩ := hA.open (by omega)
  have HCL := Hid.mk' hcell
  have HBL : Hid (b < w.heap.size) := by
    have := hlow.1 _ rfl (by omega : 0 < n)
    exact this
  have hc0 := hcell 0 (by omega)
  simp only [Nat.add_zero] at hc0
  clear hA hI hlow hcell
  generalize hK : 2 * (n * S) = K at *
  have HK := Hid.mk' hK
  clear hK
  generalize 2 * n = N2 at *
  have hbl := HBL.out
  have HST : Hid (∀ (u : World) (g c : Nat), u.ownsRow w.heap.size 5 1 (.slice (some ⟨g, 0, none⟩) (2 * (S * n)) c) (2 * (S * n)) (Lib.byteCells (intT n F (2 * (S * n)))) → _) := fun u g c (h : u.ownsRow w.heap.size 5 1 (.slice (some ⟨g, 0, none⟩) (2 * (S * n)) c) (2 * (S * n)) (Lib.byteCells (intT n F (2 * (S * n))))) =>
    run_rowString (P := Tryz.prog) u 61 9 5 g 0 (2 * (S * n)) c (intB n F) Tryz.underlying61 Tryz.underlying5 Tryz.underlying9 (fun i hi => by
      have := h.cells (g := g) rfl i (.int .u8 (intB n F i).toNat) (by simp [Lib.byteCells, intT, List.getElem?_range hi])
      rw [Addr.add_lit] at this; exact this)
  rw [strOf_int] at HST
  generalize sumN p0 = N0 at *
  go_enter Tryz.func131, Tryz.ntmps131
  go_wp2
  clear hmk e1 e2 hc0
  go_loopw [5, 6, 8, 9, 23] (fun ov _ _ _ pv wr => ∃ p g c m : Nat, p ≤ S ∧ pv = .int .i64 p ∧ ov = .slice (some ⟨g, 0, none⟩) m c ∧ Hid (m = 2 * (p * n) ∧ wr.ownsRow w.heap.size 5 1 (.slice (some ⟨g, 0, none⟩) m c) m (Lib.byteCells (intT n F m)) ∧ Below w.heap.size w wr)) (fun _ _ _ _ pv _ => S - (intOf pv).toNat)
  case atStart =>
    refine ⟨0, w.heap.size, K, 0, Nat.zero_le _, rfl, rfl, by simp, ?_, (Below.refl _ _).alloc (Nat.le_refl _) _⟩
    exact World.ownsRow_made w _ K (Nat.le_refl _) (by have := HK.out; rw [Nat.mul_comm n S] at this; simp only [maxLen]; omega) (by simp [size_madeCells])
  case round =>
    obtain ⟨p, g, c, m, hp, rfl, rfl, HR⟩ := hrel
    by_cases hlt : p < S
    · go_wp2
      go_loopw [5, 8, 9, 28] (fun ov _ _ iv wr => ∃ i g c m : Nat, i ≤ n ∧ iv = .int .i64 i ∧ ov = .slice (some ⟨g, 0, none⟩) m c ∧ Hid (m = 2 * (p * n + i) ∧ wr.ownsRow w.heap.size 5 1 (.slice (some ⟨g, 0, none⟩) m c) m (Lib.byteCells (intT n F m)) ∧ Below w.heap.size w wr)) (fun _ _ _ iv _ => n - (intOf iv).toNat)
      case atStart => exact ⟨0, g, c, m, by omega, rfl, rfl, by have := HR.out.1; omega, HR.out.2⟩
      case round =>
        clear HR
        obtain ⟨i, g, c, m, hi, rfl, rfl, HR⟩ := hrel
        by_cases hin : i < n
        · obtain ⟨gi, oi, hAi, hci⟩ := (HI.out i hin).open (by omega)
          have hcb : wr.cell? ⟨b, off + i, none⟩ = some (.slice (some ⟨gi, oi, none⟩) S (C i)) := by
            have := (HR.out.2.2.cell (p := ⟨b, off + i, none⟩) hbl).trans (HCL.out i hin)
            rw [hAi] at this; exact this
          have hgl : gi < w.heap.size := by have := HLOW.out.2 i hin _ hAi (by show 0 < S; omega); exact this
          have hcv : wr.cell? ⟨gi, oi + p, none⟩ = some (.int .i64 (F i p)) := (HR.out.2.2.cell (p := ⟨gi, oi + p, none⟩) hgl).trans (hci p hlt)
          have hpn : p * n + i ≤ 1200 := by
            have h1 : p * n ≤ 299 * n := Nat.mul_le_mul_right n (by omega)
            omega
          have hm2 := HR.out.1
          obtain ⟨g', c', u', hr, ho, hg⟩ := app_row 61 5 (.int .u8 0) 1 Tryz.underlying61 infoByte rfl wr w.heap.size (.slice (some ⟨g, 0, none⟩) m c) m _ #[.int .u8 (F i p % 256), .int .u8 (F i p / 256 % 256)] HR.out.2.1 (by simp) (by intro u hu; simp at hu; rcases hu with rfl | rfl <;> rfl) (by simp only [maxLen]; simp; omega) (by simp; omega) HR.out.2.2.size 61
          have HN : Hid (u'.ownsRow w.heap.size 5 1 (.slice (some ⟨g', 0, none⟩) (m + 2) c') (m + 2) (Lib.byteCells (intT n F (m + 2))) ∧ Below w.heap.size w u') := by
            refine ⟨?_, HR.out.2.2.grown hg HR.out.2.2.size (fun k hk => (HR.out.2.1.lt k hk).1)⟩
            rw [← cells_two n F i p m hin hm2]
            exact ho
          have HAP : Hid (_ = _) := hr
          generalize F i p = V at *
          clear hci hr ho hg hpn
          have HM2 := Hid.mk' hm2
          clear hm2
          go_wp2_with (at_builtin; refine wpList_append_rn rfl _ _ _ rfl _ _ _ rfl rfl HAP.out ?_; clear HAP)
          go_roundw
          case rel => exact ⟨i + 1, g', c', m + 2, by omega, by go_num, rfl, by rw [HM2.out]; omega, HN.out⟩
          case measure => simp [intOf]; omega
        · have e : i = n := by omega
          subst e
          go_wp2
          go_roundw
          case rel => exact ⟨p + 1, g, c, m, by omega, by go_num, rfl, by rw [HR.out.1, Nat.add_mul, Nat.one_mul], HR.out.2⟩
          case measure => simp [intOf]; omega
    · have e : p = S := by omega
      subst e
      obtain ⟨hm, ho, hb⟩ := HR.out
      subst hm
      have hcv := HST.out wr g c ho
      have HB := Hid.mk' hb
      clear ho hb HR HST
      generalize bs (intT n F (2 * (p * n))) = T at *
      generalize hm : 2 * (p * n) = m at *
      have HM := Hid.mk' hm
      clear hm
      go_wp2_with (go_at_call 164; refine (HSO.out _).mono ?_; rintro e u1 ⟨rfl, hw⟩; subst u1)
      go_ret
      exact ⟨by rw [HM.out]; rfl, HB.out⟩
end Go.Proofs.YtlncjgnomhpjnaaGreatDoor

/-
  The document's bytes of a sound: reelref.interleaved; sound.Sum.
-/
namespace Go.Proofs.YtlncjgnomhpjnaaGreatDoor
open Go.RowKit Go.Deep
set_option linter.unusedVariables false
theorem soundSum_any (a : Option Addr) (n cap : Nat) (A : Nat → Option Addr) (S : Nat) (C : Nat → Nat) (F : Nat → Nat → Int) (w : World) (hn1 : 1 ≤ n) (hn4 : n ≤ 4) (hS : S ≤ 300)
    (hA : ListsAt w a n A (fun _ => S) C) (hI : ∀ i, i < n → IntsAt w (A i) S (F i)) (hlow : Low w.heap.size a n A (fun _ => S)) :
    Calls Tryz.prog 86 #[.slice a n cap] w fun e w' => e = .returned (.int .i64 (sumN (intT n F (2 * (S * n))) : Nat)) ∧ Below w.heap.size w w' := by
  have HSO := Hid.mk' (soundSumOn_any [] a n cap A S C F w hn1 hn4 hS hA hI hlow)
  have e1 : ((sumN [] : Nat) : Int) = 1 := rfl
  rw [e1, List.nil_append] at HSO
  clear e1 hA hI hlow
  go_enter Tryz.func86, Tryz.ntmps86
  go_wp2_with (go_at_call 131; refine HSO.out.mono ?_; rintro e u1 ⟨rfl, hb⟩)
  go_ret
  exact ⟨rfl, hb⟩
theorem intB_even (n : Nat) (F : Nat → Nat → Int) (k : Nat) (h : k % 2 = 0) : ((intB n F k).toNat : Int) = (((F (k / 2 % n) (k / 2 / n)) % 65536).toNat % 256 : Nat) := by
  unfold intB
  rw [h]
  show ((UInt8.ofNat _).toNat : Int) = _
  rw [UInt8.toNat_ofNat']; omega
theorem intB_odd (n : Nat) (F : Nat → Nat → Int) (k : Nat) (h : k % 2 = 1) : ((intB n F k).toNat : Int) = (((F (k / 2 % n) (k / 2 / n)) % 65536).toNat / 256 : Nat) := by
  unfold intB
  rw [h]
  show ((UInt8.ofNat _).toNat : Int) = _
  rw [UInt8.toNat_ofNat']; omega
def intV (n : Nat) (F : Nat → Nat → Int) (k j : Nat) : Value := .int .u8 (if j < k then ((intB n F j).toNat : Int) else 0)
theorem intV_step {wr : World} {g M n k : Nat} {F : Nat → Nat → Int} {z : Int} (h : wr.rowIs g 5 M (intV n F k)) (hz : z = ((intB n F k).toNat : Int)) :
    (wr.setCell ⟨g, k, none⟩ (.int .u8 z)).rowIs g 5 M (intV n F (k + 1)) :=
  (h.set k _).congr fun i _ => by
    unfold intV
    by_cases e : i = k
    · rw [if_pos e, if_pos (by omega), e, hz]
    · rw [if_neg e]
      by_cases e2 : i < k
      · rw [if_pos e2, if_pos (by omega)]
      · rw [if_neg e2, if_neg (by omega)]
set_option maxHeartbeats 1000000 in
theorem interleaved_any (a : Option Addr) (n cap : Nat) (A : Nat → Option Addr) (S : Nat) (C : Nat → Nat) (F : Nat → Nat → Int) (w : World) (hn1 : 1 ≤ n) (hn4 : n ≤ 4) (hS : S ≤ 300) (hf : ∀ i, i < n → ∀ j, j < S → -65536 ≤ F i j ∧ F i j < 65536)
    (hA : ListsAt w a n A (fun _ => S) C) (hI : ∀ i, i < n → IntsAt w (A i) S (F i)) (hlow : Low w.heap.size a n A (fun _ => S)) :
    Calls Tryz.prog 99 #[.slice a n cap] w fun e w' => e = .returned (.string (bs (intT n F (2 * (S * n))))) ∧ Below w.heap.size w w' := by
  have hSn : S * n ≤ 1200 := Nat.mul_le_mul hS hn4
  have hmk := run_make_row' (P := Tryz.prog) 61 5 (.int .u8 0) 1 Tryz.underlying61 infoByte rfl .i64 .i64 (2 * (S * n)) (by omega) (by omega)
  have e1 : IntKind.i64.wrap (2 * (n : Int)) = ((2 * n : Nat) : Int) := by rw [IntKind.wrap_i64]; omega
  have e2 : IntKind.i64.wrap (((2 * n : Nat) : Int) * (S : Int)) = ((2 * (S * n) : Nat) : Int) := by
    have h1 : ((2 * n : Nat) : Int) * (S : Int) = ((2 * (S * n) : Nat) : Int) := by rw [← Int.natCast_mul, Nat.mul_assoc, Nat.mul_comm n S]
    rw [h1, IntKind.wrap_i64]; omega
  have HCV := Hid.mk' (fun (u : World) h => run_rowString (P := Tryz.prog) u 61 9 5 w.heap.size 0 (2 * (S * n)) (2 * (S * n)) (intB n F) Tryz.underlying61 Tryz.underlying5 Tryz.underlying9 h)
  rw [strOf_int] at HCV
  have HF := Hid.mk' hf
  have HI := Hid.mk' hI
  have HLOW := Hid.mk' hlow
  have HDV : Hid (∀ k, k < 2 * (S * n) → k / 2 / n < S ∧ k / 2 % n < n) := fun k hk => ⟨by
    rw [Nat.div_lt_iff_lt_mul (by omega)]; omega, Nat.mod_lt _ (by omega)⟩
  obtain ⟨b, off, rfl, hcell⟩ := hA.open (by omega)
  have HCL := Hid.mk' hcell
  have hbl : b < w.heap.size := by
    have := hlow.1 _ rfl (by omega : 0 < n)
    exact this
  have hc0 := hcell 0 (by omega)
  simp only [Nat.add_zero] at hc0
  have hn0 : ((n : Int) == 0) = false := by simp; omega
  have hn00 : ¬ (n : Int) = 0 := by omega
  have hn01 : ¬ n = 0 := by omega
  have hM2 : 2 * (S * n) ≤ 2400 := by omega
  clear hA hI hlow hcell hf
  generalize 2 * n = N2 at *
  generalize hM : bs (intT n F (2 * (S * n))) = R at *
  clear hM
  generalize 2 * (S * n) = M at *
  go_enter Tryz.func99, Tryz.ntmps99
  go_wp2
  clear hmk e1 e2 hc0
  go_loopw [5, 6] (fun iv _ wr => ∃ k : Nat, k ≤ M ∧ iv = .int .i64 k ∧ Hid (wr.rowIs w.heap.size 5 M (intV n F k) ∧ Below w.heap.size w wr)) (fun iv _ _ => M - (intOf iv).toNat)
  case atStart => exact ⟨0, Nat.zero_le _, rfl, (World.rowIs_made w (.int .u8 0) M 5).congr fun i _ => by unfold intV; rw [if_neg (by omega)], (Below.refl _ _).alloc (Nat.le_refl _) _⟩
  case round =>
    obtain ⟨k, hk, rfl, HR⟩ := hrel
    by_cases hlt : k < M
    · obtain ⟨hq, hr⟩ := HDV.out k hlt
      obtain ⟨gi, oi, hAi, hci⟩ := (HI.out _ hr).open (Nat.lt_of_le_of_lt (Nat.zero_le _) hq)
      have hcb : wr.cell? ⟨b, off + k / 2 % n, none⟩ = some (.slice (some ⟨gi, oi, none⟩) S (C (k / 2 % n))) := by
        have := (HR.out.2.cell (p := ⟨b, off + k / 2 % n, none⟩) hbl).trans (HCL.out _ hr)
        rw [hAi] at this; exact this
      have hgl : gi < w.heap.size := by have := HLOW.out.2 _ hr _ hAi (Nat.lt_of_le_of_lt (Nat.zero_le _) hq); exact this
      have hcv : wr.cell? ⟨gi, oi + k / 2 / n, none⟩ = some (.int .i64 (F (k / 2 % n) (k / 2 / n))) := (HR.out.2.cell (p := ⟨gi, oi + k / 2 / n, none⟩) hgl).trans (hci _ hq)
      have hV := HF.out _ hr _ hq
      have hc1 := HR.out.1.cell hlt
      have hf1 := HR.out.1.frozen k
      have HST := Hid.mk' (fun z (hz : z = ((intB n F k).toNat : Int)) => intV_step HR.out.1 hz)
      have HEV := Hid.mk' (intB_even n F k)
      have HOD := Hid.mk' (intB_odd n F k)
      have d1 : ((k : Int)).tdiv 2 = ((k / 2 : Nat) : Int) := by rw [Int.tdiv_eq_ediv_of_nonneg (by omega)]; omega
      have d2 : (k : Int) / 2 = ((k / 2 : Nat) : Int) := by omega
      have d3 : ((k / 2 : Nat) : Int).tmod (n : Int) = ((k / 2 % n : Nat) : Int) := by rw [Int.tmod_eq_emod_of_nonneg (by omega)]; rfl
      have d4 : ((k / 2 : Nat) : Int) % (n : Int) = ((k / 2 % n : Nat) : Int) := rfl
      have d5 : ((k / 2 : Nat) : Int).tdiv (n : Int) = ((k / 2 / n : Nat) : Int) := by rw [Int.tdiv_eq_ediv_of_nonneg (by omega)]; rfl
      have d6 : ((k / 2 : Nat) : Int) / (n : Int) = ((k / 2 / n : Nat) : Int) := rfl
      have hk2 : k / 2 ≤ 1200 := by omega
      have wk : IntKind.i64.wrap ((k / 2 : Nat) : Int) = ((k / 2 : Nat) : Int) := by rw [IntKind.wrap_i64]; omega
      clear hci
      generalize F (k / 2 % n) (k / 2 / n) = V at *
      generalize hK2 : k / 2 = K2 at *
      have HK2 := Hid.mk' hK2
      clear hK2
      generalize K2 % n = r at *
      generalize K2 / n = q at *
      have v1 : IntKind.i64.wrap (V + 65536) = V + 65536 := by rw [IntKind.wrap_i64]; omega
      have v2 : (V + 65536).tmod 65536 = (((V % 65536).toNat : Nat) : Int) := by rw [Int.tmod_eq_emod_of_nonneg (by omega)]; omega
      have v3 : (V + 65536) % 65536 = (((V % 65536).toNat : Nat) : Int) := by omega
      have v4 : (V % 65536).toNat < 65536 := by omega
      generalize (V % 65536).toNat = X at *
      generalize hcv0 : (if k < k then ((intB n F k).toNat : Int) else 0) = old at *
      rcases Nat.mod_two_eq_zero_or_one k with hp | hp
      · have HZ := Hid.mk' (HST.out ((X : Int) % 256) (by rw [HEV.out hp]; omega))
        have t1 : ((k : Int).tmod 2 == 1) = false := by rw [Int.tmod_eq_emod_of_nonneg (by omega)]; simp; omega
        have t2 : ((k : Int) % 2 == 1) = false := by simp; omega
        clear HST HEV HOD hp
        go_wp2
        go_region
        go_wp2
        go_roundw
        case rel => exact ⟨k + 1, by omega, by go_num, HZ.out, (HR.out.2.setCell (p := ⟨w.heap.size, k, none⟩) (Nat.le_refl _) _).drew⟩
        case measure => simp [intOf]; omega
      · have HZ := Hid.mk' (HST.out ((X : Int) / 256 % 256) (by rw [HOD.out hp]; omega))
        have t1 : ((k : Int).tmod 2 == 1) = true := by rw [Int.tmod_eq_emod_of_nonneg (by omega)]; simp; omega
        have t2 : ((k : Int) % 2 == 1) = true := by simp; omega
        clear HST HEV HOD hp
        go_wp2
        go_region
        go_wp2
        go_roundw
        case rel => exact ⟨k + 1, by omega, by go_num, HZ.out, (HR.out.2.setCell (p := ⟨w.heap.size, k, none⟩) (Nat.le_refl _) _).drew⟩
        case measure => simp [intOf]; omega
    · have e : k = M := by omega
      subst e
      have hcv := HCV.out wr (fun i hi => by
        have := HR.out.1.cell (i := i) hi
        unfold intV at this
        rw [if_pos hi] at this
        simpa using this)
      clear HCV
      go_wp2
      go_ret
      exact ⟨rfl, HR.out.2⟩
end Go.Proofs.YtlncjgnomhpjnaaGreatDoor

/-
  The stream of an empty sound: reellaw.empty.
-/
namespace Go.Proofs.YtlncjgnomhpjnaaGreatDoor
open Go.RowKit Go.Deep
set_option linter.unusedVariables false
def none22 : List Int := [82, 76, 1, 1, 4, 1, 0, 0, 0, 0, 0, 0, 0, 0, 0, 0, 0, 0, 1, 158, 139, 66]
def exSt : ByteArray := ⟨#[82, 76, 1, 1, 4, 1, 0, 0, 0, 0, 0, 0, 0, 0, 0, 0, 0, 0, 1, 158, 139, 66]⟩
/-- the twelve bytes while they are laid -/
def noneTo (k j : Nat) : Int := if j < k then none22.getD j 0 else 0
theorem none_bytes : ∀ j : Fin 22, (((fun i => UInt8.ofNat (none22.getD i 0).toNat) j.val : UInt8).toNat : Int) = none22.getD j.val 0 := by decide
theorem none_str : strOf (fun i => UInt8.ofNat (none22.getD i 0).toNat) 22 = exSt := by kernel_rfl
set_option maxHeartbeats 1000000 in
theorem empty_any (w : World) (hO : ∀ i, i < 22 → w.cell? ⟨1, i, none⟩ = some (.int .u8 (none22.getD i 0))) (hlt : 1 < w.heap.size) :
    Calls Tryz.prog 21 #[] w fun e w' => e = .returned (.string exSt) ∧ Below w.heap.size w w' := by
  have hmk := run_make_row' (P := Tryz.prog) 61 5 (.int .u8 0) 1 Tryz.underlying61 infoByte rfl .i64 .i64 22 (by omega) (by omega)
  have e22 : ((22 : Nat) : Int) = 22 := rfl
  rw [e22] at hmk
  have HO := Hid.mk' (fun (u : World) (hu : Below w.heap.size w u) i (hi : i < 22) => (hu.cell (p := ⟨1, i, none⟩) hlt).trans (hO i hi))
  have HCV := Hid.mk' (fun (u : World) h => run_rowString (P := Tryz.prog) u 61 9 5 w.heap.size 0 22 22 (fun i => UInt8.ofNat (none22.getD i 0).toNat) Tryz.underlying61 Tryz.underlying5 Tryz.underlying9 h)
  clear hO e22
  go_enter Tryz.func21, Tryz.ntmps21
  go_wp2
  clear hmk
  go_loopw [2] (fun i wr => ∃ k : Nat, k ≤ 22 ∧ i = .int .i64 k ∧ Hid (wr.rowIs w.heap.size 5 22 (fun j => .int .u8 (noneTo k j)) ∧ Below w.heap.size w wr)) (fun i _ => 22 - (intOf i).toNat)
  case atStart => exact ⟨0, Nat.zero_le _, rfl, (World.rowIs_made w (.int .u8 0) 22 5).congr fun i _ => by simp [noneTo], (Below.refl _ _).alloc (Nat.le_refl _) _⟩
  case round =>
    obtain ⟨k, hk, rfl, HR⟩ := hrel
    by_cases hl : k < 22
    · have hc1 := HR.out.1.cell hl
      have hf1 := HR.out.1.frozen k
      have hc2 := HO.out wr HR.out.2 k hl
      have HSET : Hid ((wr.setCell ⟨w.heap.size, k, none⟩ (.int .u8 (none22.getD k 0))).rowIs w.heap.size 5 22 (fun j => .int .u8 (noneTo (k + 1) j))) := (HR.out.1.set k _).congr fun j _ => by
        unfold noneTo
        by_cases e : j = k
        · rw [if_pos e, if_pos (by omega), e]
        · rw [if_neg e]
          by_cases e2 : j < k
          · rw [if_pos e2, if_pos (by omega)]
          · rw [if_neg e2, if_neg (by omega)]
      generalize none22.getD k 0 = V at *
      generalize noneTo k k = V0 at *
      go_wp2
      go_roundw
      case rel => exact ⟨k + 1, by omega, by go_num, HSET.out, HR.out.2.setCell (Nat.le_refl _) _⟩
      case measure => simp [intOf]; omega
    · have e : k = 22 := by omega
      subst e
      have hcv := HCV.out wr (fun i hi => by
        have := HR.out.1.cell (i := i) hi
        rw [Nat.zero_add, this]
        have h2 := none_bytes ⟨i, hi⟩
        simp only at h2
        rw [h2]
        unfold noneTo
        rw [if_pos hi])
      rw [none_str] at hcv
      clear HCV
      go_wp2
      go_ret
      exact ⟨rfl, HR.out.2⟩
end Go.Proofs.YtlncjgnomhpjnaaGreatDoor

/-
  Lists that came out, and what is appended to them.
-/
namespace Go.Proofs.YtlncjgnomhpjnaaGreatDoor
open Go.RowKit Go.Deep
set_option linter.unusedVariables false
theorem gr_trans {a b c : World} {r : Option Nat} (h : a.grownBy b r) (k : b.grownBy c r) : a.grownBy c r :=
  ⟨k.os.trans h.os, k.tape.trans h.tape, k.output.trans h.output, Nat.le_trans h.size k.size, fun j hj hne => (k.block j (Nat.lt_of_lt_of_le hj h.size) hne).trans (h.block j hj hne)⟩
theorem gr_refl (w : World) (r : Option Nat) : w.grownBy w r := ⟨rfl, rfl, rfl, Nat.le_refl _, fun _ _ _ => rfl⟩
theorem gr_set (w : World) (a : Addr) (v : Value) : w.grownBy (w.setCell a v) (some a.block) :=
  ⟨rfl, rfl, rfl, by simp, fun j hj hne => blk_setCell_other _ _ _ _ (fun e => hne (by rw [e]))⟩
theorem gr_none {w w' : World} {r : Option Nat} (h : w.grownBy w' none) : w.grownBy w' r := ⟨h.os, h.tape, h.output, h.size, fun j hj _ => h.block j hj (by simp)⟩
theorem gr_setCells (g : Nat) : ∀ (vs : List Value) (q : Nat) (w : World), w.grownBy (w.setCells g q vs) (some g)
  | [], q, w => gr_refl _ _
  | v :: r, q, w => gr_trans (gr_set w ⟨g, q, none⟩ v) (gr_setCells g r (q + 1) _)
theorem row_setCells (g : Nat) (e : TypeId) (N : Nat) : ∀ (vs : List Value) (q : Nat) (w : World) (f : Nat → Value), w.rowIs g e N f →
    ∃ f', (w.setCells g q vs).rowIs g e N f' ∧ (∀ i, f' i = f i ∨ f' i ∈ vs) ∧ (∀ j (hj : j < vs.length), f' (q + j) = vs[j]) ∧ ∀ i, i < q ∨ q + vs.length ≤ i → f' i = f i
  | [], q, w, f, h => ⟨f, h, fun _ => .inl rfl, fun j hj => absurd hj (Nat.not_lt_zero j), fun _ _ => rfl⟩
  | v :: r, q, w, f, h => by
    obtain ⟨f', h1, h2, h3, h4⟩ := row_setCells g e N r (q + 1) _ _ (h.set q v)
    refine ⟨f', h1, fun i => ?_, fun j hj => ?_, fun i hi => ?_⟩
    · rcases h2 i with e | e
      · by_cases hq : i = q
        · rw [if_pos hq] at e; exact .inr (by rw [e]; simp)
        · rw [if_neg hq] at e; exact .inl e
      · exact .inr (by simp [e])
    · cases j with
      | zero =>
        have := h4 q (.inl (by omega))
        rw [if_pos rfl] at this
        simpa using this
      | succ j =>
        have := h3 j (by simpa using hj)
        rw [show q + (j + 1) = q + 1 + j by omega, this]
        simp
    · have h5 : (v :: r).length = r.length + 1 := by simp
      have := h4 i (by omega)
      rw [if_neg (by omega)] at this
      exact this
/-- a list that may be written into: nil, or a piece of a row -/
def LstE (e : TypeId) (w : World) (v : Value) (n : Nat) (og : Option Nat) (x : Nat → Value) : Prop :=
  (v = .slice none 0 0 ∧ n = 0 ∧ og = none) ∨ ∃ g o c N f, og = some g ∧ v = .slice (some ⟨g, o, none⟩) n c ∧ w.rowIs g e N f ∧ o + c ≤ N ∧ n ≤ c ∧ ∀ i, i < n → f (o + i) = x i
/-- one of its blocks may have got some of these values -/
structure StepE (e : TypeId) (og : Option Nat) (news : List Value) (w w' : World) : Prop where
  gr : w.grownBy w' og
  row : ∀ g, og = some g → ∀ N f, w.rowIs g e N f → ∃ f', w'.rowIs g e N f' ∧ ∀ i, f' i = f i ∨ f' i ∈ news
theorem StepE.mono {e : TypeId} {og : Option Nat} {news news' : List Value} {a b : World} (h : StepE e og news a b) (hn : ∀ v ∈ news, v ∈ news') : StepE e og news' a b :=
  ⟨h.gr, fun g hg N f hr => by
    obtain ⟨f1, h1, h2⟩ := h.row g hg N f hr
    exact ⟨f1, h1, fun i => (h2 i).imp id (hn _)⟩⟩
theorem StepE.of_gr {e : TypeId} {og : Option Nat} {news : List Value} {a b : World} (h : a.grownBy b none) : StepE e og news a b :=
  ⟨gr_none h, fun g hg N f hr => ⟨f, hr.of_block (h.block g hr.lt (by simp)), fun _ => .inl rfl⟩⟩
theorem LstE.row {e : TypeId} {w : World} {v : Value} {n : Nat} {og : Option Nat} {x : Nat → Value} (h : LstE e w v n og x) {g : Nat} (hg : og = some g) : ∃ N f, w.rowIs g e N f := by
  rcases h with ⟨-, -, e⟩ | ⟨g', o, c, N, f, e, -, hr, -⟩
  · rw [e] at hg; cases hg
  · rw [hg] at e; injection e with e; subst e; exact ⟨N, f, hr⟩
theorem LstE.step {e : TypeId} {w w' : World} {v : Value} {n : Nat} {og : Option Nat} {x : Nat → Value} {news : List Value} (h : LstE e w v n og x) (hs : StepE e og news w w') : ∃ x', LstE e w' v n og x' ∧ ∀ i, i < n → x' i = x i ∨ x' i ∈ news := by
  rcases h with h | ⟨g, o, c, N, f, e1, e2, hr, h1, h2, h3⟩
  · exact ⟨x, .inl h, fun i hi => absurd hi (by omega)⟩
  · obtain ⟨f', h4, h5⟩ := hs.row g e1 N f hr
    refine ⟨fun i => f' (o + i), .inr ⟨g, o, c, N, f', e1, e2, h4, h1, h2, fun i _ => rfl⟩, fun i hi => ?_⟩
    rw [← h3 i hi]
    exact h5 _
/-- something is appended -/
theorem app_gen (t e : TypeId) (z : Value) (bytes : Nat) (ht : Tryz.prog.underlying t = some (.slice e)) (hinfo : (Tryz.prog.info? e).map (fun i => (i.zero, i.size, i.bytes)) = some (some z, 1, bytes)) (hzs : z.cells.size = 1)
    (w : World) (v : Value) (n : Nat) (og : Option Nat) (x : Nat → Value) (arr : Array Value) (h : LstE e w v n og x) (hk1 : 1 ≤ arr.size) (h1 : ∀ u ∈ arr.toList, u.oneCell' = true) (hm : n + arr.size ≤ 1000000000) (hby : bytes ≤ 1000) (ty : TypeId) :
    ∃ b o c w' x', (Builtin.append_ #[t, t] ty #[v, .slice (some ⟨w.heap.size, 0, none⟩) arr.size arr.size]).run Tryz.prog (w.alloc (.cells arr e)) = .ok (.slice (some ⟨b, o, none⟩) (n + arr.size) c) w' ∧
      (og = some b ∨ w.heap.size ≤ b) ∧ LstE e w' (.slice (some ⟨b, o, none⟩) (n + arr.size) c) (n + arr.size) (some b) x' ∧ (∀ i, i < n → x' i = x i) ∧ (∀ i (hi : i < arr.size), x' (n + i) = arr[i]) ∧ StepE e og arr.toList w w' := by
  obtain ⟨i0, hi, hz0, hz1, hz2⟩ := info_parts hinfo
  have hmx : n + arr.size ≤ maxLen := by simp only [maxLen]; omega
  have hbt : (n + arr.size) * bytes ≤ 140737488355328 := by
    have : (n + arr.size) * bytes ≤ 1000000000 * 1000 := Nat.mul_le_mul hm hby
    omega
  have hnews : ∀ j u, arr.toList[j]? = some u → (w.alloc (.cells arr e)).cell? ((⟨w.heap.size, 0, none⟩ : Addr).add j) = some u := by
    intro j u hj
    have : (w.alloc (.cells arr e)).cell? ⟨w.heap.size, j, none⟩ = arr[j]? := World.cell?_alloc_new _ _ _ _
    rw [show ((⟨w.heap.size, 0, none⟩ : Addr).add j) = ⟨w.heap.size, j, none⟩ by cases j <;> simp [Addr.add], this]
    simpa using hj
  have hal : (w.alloc (.cells arr e)).heap.size = w.heap.size + 1 := by simp
  have fin : ∀ (xs : List Value) (v' : Value) (w' : World), xs.length = n → (∀ i, i < n → xs[i]? = some (x i)) → w'.ownsRow w.heap.size e 1 v' (n + arr.size) (xs ++ arr.toList) → w.grownBy w' none →
      ∃ b o c x', v' = .slice (some ⟨b, o, none⟩) (n + arr.size) c ∧ (og = some b ∨ w.heap.size ≤ b) ∧ LstE e w' (.slice (some ⟨b, o, none⟩) (n + arr.size) c) (n + arr.size) (some b) x' ∧ (∀ i, i < n → x' i = x i) ∧ (∀ i (hi : i < arr.size), x' (n + i) = arr[i]) ∧ StepE e og arr.toList w w' := by
    intro xs v' w' hl hx ho hg
    rcases ho.2 with ⟨-, h0⟩ | ⟨b, cap, cur, rfl, hb, hcur, hcap, -, hcs, htk⟩
    · omega
    · have cells : ∀ j u, (xs ++ arr.toList)[j]? = some u → cur.getD j undef = u := fun j u hj => by
        rw [← htk, List.getElem?_take] at hj
        split at hj
        · rw [Array.getElem?_toList] at hj
          rw [Array.getD_eq_getD_getElem?, hj]; rfl
        · cases hj
      refine ⟨b, 0, cap, fun j => cur.getD j undef, rfl, .inr hb, .inr ⟨b, 0, cap, cap, fun j => cur.getD j undef, rfl, rfl, ⟨cur, hcur, by omega, fun j hj => ?_⟩, by omega, hcap, fun i _ => by rw [Nat.zero_add]⟩, fun i hi => cells i _ ?_, fun i hi => cells (n + i) _ ?_, StepE.of_gr hg⟩
      · have hjc : j < cur.size := by omega
        show cur[j]? = some (cur.getD j undef)
        rw [Array.getD_eq_getD_getElem?, Array.getElem?_eq_getElem hjc]; rfl
      · rw [List.getElem?_append_left (by omega)]; exact hx i hi
      · rw [List.getElem?_append_right (by omega), hl, Nat.add_sub_cancel_left]
        simp [hi]
  rcases h with ⟨rfl, rfl, rfl⟩ | ⟨g, o, c, N, f, rfl, rfl, hr, hoc, hnc, hfx⟩
  · obtain ⟨v', w', hrun, ho, hgr, -⟩ := run_append_own (P := Tryz.prog) (w.alloc (.cells arr e)) w.heap.size t ty e i0 z 1 bytes ht hi hz0 hz1 hz2 hzs (by omega) (.slice none 0 0) 0 [] (World.ownsRow_nil _ _ _ _)
      ⟨w.heap.size, 0, none⟩ arr.size arr.size arr.toList (by simp) hnews h1 hmx hbt (by omega)
    obtain ⟨b, o, c, x', rfl, h2⟩ := fin [] v' w' rfl (fun i hi => absurd hi (Nat.not_lt_zero i)) ho (gr_trans (World.grownBy_alloc w _ none) hgr)
    exact ⟨b, o, c, w', x', hrun, h2⟩
  · have hra := hr.alloc (.cells arr e)
    have hlx : ((List.range n).map x).length = n := by simp
    by_cases hroom : n + arr.size ≤ c
    · have hcN : ∀ j, j < arr.toList.length → ((w.alloc (.cells arr e)).cell? ⟨g, o + n * i0.size + j, none⟩).isSome = true := fun j hj => by
        rw [hz1, Nat.mul_one, hra.cell (by simp at hj; omega)]; rfl
      have hrun := run_append_room_cells (P := Tryz.prog) (w.alloc (.cells arr e)) t ty e i0 ht hi g o n c ⟨w.heap.size, 0, none⟩ arr.size arr.size arr.toList (by simp [hz1]) hnews h1 hroom hcN (fun j _ => hra.frozen _)
      rw [hz1, Nat.mul_one] at hrun
      obtain ⟨f', r1, r2, r3, r4⟩ := row_setCells g e N arr.toList (o + n) _ _ hra
      refine ⟨g, o, c, _, fun i => f' (o + i), hrun, .inl rfl, .inr ⟨g, o, c, N, f', rfl, rfl, r1, hoc, hroom, fun i _ => rfl⟩, fun i hi => ?_, fun i hi => ?_, ⟨gr_trans (World.grownBy_alloc w _ _) (gr_setCells g _ _ _), fun g2 e2 N2 f2 hr2 => ?_⟩⟩
      · show f' (o + i) = x i
        rw [r4 _ (.inl (by omega)), hfx i hi]
      · show f' (o + (n + i)) = arr[i]
        rw [show o + (n + i) = o + n + i by omega, r3 i (by simpa using hi)]
        simp
      · injection e2 with e2
        subst e2
        obtain ⟨f3, q1, q2, -⟩ := row_setCells g e N2 arr.toList (o + n) _ _ (hr2.alloc (.cells arr e))
        exact ⟨f3, q1, q2⟩
    · obtain ⟨v', w', hrun, ho, hgr⟩ := run_append_arg_grows (P := Tryz.prog) (w.alloc (.cells arr e)) t ty e i0 z 1 bytes ht hi hz0 hz1 hz2 hzs (by omega) ⟨g, o, none⟩ n c ((List.range n).map x) (by simp)
        (fun j u hj => by
          rw [List.getElem?_map] at hj
          rcases Nat.lt_or_ge j n with hjn | hjn
          · rw [List.getElem?_range hjn] at hj
            simp only [Option.map_some, Option.some.injEq] at hj
            rw [Addr.add_lit, hra.cell (by omega), hfx j hjn, ← hj]
          · rw [List.getElem?_eq_none (by simpa using hjn)] at hj
            simp at hj)
        ⟨w.heap.size, 0, none⟩ arr.size arr.size arr.toList (by simp) hnews (by omega) hmx hbt
      have ho' : w'.ownsRow w.heap.size e 1 v' (n + arr.size) ((List.range n).map x ++ arr.toList) := by
        refine ⟨ho.1, ?_⟩
        rcases ho.2 with h0 | ⟨g', cap, cur, e1, e2, e3⟩
        · exact .inl h0
        · exact .inr ⟨g', cap, cur, e1, by omega, e3⟩
      obtain ⟨b, o', c', x', rfl, h2⟩ := fin _ v' w' hlx (fun i hi => by rw [List.getElem?_map, List.getElem?_range hi]; rfl) ho' (gr_trans (World.grownBy_alloc w _ none) hgr)
      exact ⟨b, o', c', w', x', hrun, h2⟩
theorem wpList_append_rv {P : Program} {w w' : World} {ops : Array Oper} {rest : List Oper} {o : Oper} {a : Act} {Q : Exit → Act → World → Prop}
    (hg : o.guard = none) (s x : Operand) (t : TypeId) (hop : o.op = Op.call { callee := Callee.builtin Builtin.append, args := #[s, x], argTypes := #[t, t] })
    (v b v' : Value) (hs : a.eval s = v) (hx : a.eval x = b) (hrun : (Builtin.append_ #[t, t] o.type #[v, b]).run P w = .ok v' w') (h : wpList P ops Q rest (a.put o.dst v') w') : wpList P ops Q (o :: rest) a w := by
  refine wpList_plain hg fun K hK' => ?_
  unfold Oper.wp
  simp [execOp, hop, resolve, invoke, builtin, hs, hx, hrun, Result.andThen]
  exact hK' _ _ h
/-- a row of wide things grows -/
theorem app_wide (t e : TypeId) (z : Value) (size bytes : Nat) (ht : Tryz.prog.underlying t = some (.slice e)) (hinfo : (Tryz.prog.info? e).map (fun i => (i.zero, i.size, i.bytes)) = some (some z, size, bytes)) (hzs : z.cells.size = size) (hs1 : 1 ≤ size)
    (w : World) (base : Nat) (kv : Value) (j : Nat) (ks : List Value) (arr : Array Value) (hown : w.ownsRow base e size kv j ks) (hsz : arr.size = size) (h1 : ∀ u ∈ arr.toList, u.oneCell' = true) (hj : j + 1 ≤ maxLen) (hby : (j + 1) * bytes ≤ 140737488355328) (hbase : base ≤ w.heap.size) (ty : TypeId) :
    ∃ g c w', (Builtin.append_ #[t, t] ty #[kv, .slice (some ⟨w.heap.size, 0, none⟩) 1 1]).run Tryz.prog (w.alloc (.cells arr e)) = .ok (.slice (some ⟨g, 0, none⟩) (j + 1) c) w' ∧
      w'.ownsRow base e size (.slice (some ⟨g, 0, none⟩) (j + 1) c) (j + 1) (ks ++ arr.toList) ∧ w.grownBy w' kv.ownBlock ∧ (kv.ownBlock = some g ∨ w.heap.size ≤ g) := by
  obtain ⟨i0, hi, hz0, hz1, hz2⟩ := info_parts hinfo
  have hnews : ∀ j u, arr.toList[j]? = some u → (w.alloc (.cells arr e)).cell? ((⟨w.heap.size, 0, none⟩ : Addr).add j) = some u := by
    intro j u hj
    have : (w.alloc (.cells arr e)).cell? ⟨w.heap.size, j, none⟩ = arr[j]? := World.cell?_alloc_new _ _ _ _
    rw [show ((⟨w.heap.size, 0, none⟩ : Addr).add j) = ⟨w.heap.size, j, none⟩ by cases j <;> simp [Addr.add], this]
    simpa using hj
  have hal : (w.alloc (.cells arr e)).heap.size = w.heap.size + 1 := by simp
  obtain ⟨v', w', hr, ho, hgr, -⟩ := run_append_own (P := Tryz.prog) (w.alloc (.cells arr e)) base t ty e i0 z size bytes ht hi hz0 hz1 hz2 hzs (by omega) kv j ks (hown.alloc _)
    ⟨w.heap.size, 0, none⟩ 1 1 arr.toList (by simp [hsz]) hnews h1 hj hby (by omega)
  rcases ho.2 with ⟨-, h0⟩ | ⟨g, c, cur, rfl, -, hcur, -⟩
  · omega
  · refine ⟨g, c, w', hr, ho, gr_trans (World.grownBy_alloc w _ _) hgr, ?_⟩
    rcases hown.2 with ⟨rfl, rfl⟩ | ⟨g0, cap, cur0, rfl, -, hcur0, hcap, -, hcs, htk⟩
    · obtain ⟨v2, w2, hr2, ho2, -⟩ := run_append_own (P := Tryz.prog) (w.alloc (.cells arr e)) w.heap.size t ty e i0 z size bytes ht hi hz0 hz1 hz2 hzs (by omega) (.slice none 0 0) 0 [] (World.ownsRow_nil _ _ _ _)
        ⟨w.heap.size, 0, none⟩ 1 1 arr.toList (by simp [hsz]) hnews h1 hj hby (by omega)
      rw [hr] at hr2
      injection hr2 with e1 e2
      subst e1
      exact .inr (ho2.lt g rfl).1
    · have hc0 : ∀ q, q < cap * size → (w.alloc (.cells arr e)).cell? ⟨g0, q, none⟩ = cur0[q]? := fun q hq => by
        have : (w.alloc (.cells arr e)).heap[g0]? = some (.cells cur0 e (0, 0)) := (blk_alloc_lt _ _ _ (Array.getElem?_eq_some_iff.1 hcur0).1).trans hcur0
        simp [World.cell?, this]
      by_cases hroom : j + 1 ≤ cap
      · have hb : j * size + size ≤ cap * size := by
          have := Nat.mul_le_mul_right size hroom
          rw [Nat.add_mul, Nat.one_mul] at this
          exact this
        have hr2 := run_append_room_cells (P := Tryz.prog) (w.alloc (.cells arr e)) t ty e i0 ht hi g0 0 j cap ⟨w.heap.size, 0, none⟩ 1 1 arr.toList (by simp [hsz, hz1]) hnews h1 hroom
          (fun q hq => by
            have hq2 : q < size := by simpa [hsz] using hq
            rw [hz1, Nat.zero_add, hc0 _ (by omega), Array.getElem?_eq_getElem (by omega)]; rfl)
          (fun q _ => by
            have : (w.alloc (.cells arr e)).heap[g0]? = some (.cells cur0 e (0, 0)) := (blk_alloc_lt _ _ _ (Array.getElem?_eq_some_iff.1 hcur0).1).trans hcur0
            simp [World.frozen?, this])
        rw [hr] at hr2
        injection hr2 with e1 e2
        injection e1 with e1
        injection e1 with e1
        injection e1 with e1
        subst e1
        exact .inl rfl
      · obtain ⟨v2, w2, hr2, ho2, -⟩ := run_append_arg_grows (P := Tryz.prog) (w.alloc (.cells arr e)) t ty e i0 z size bytes ht hi hz0 hz1 hz2 hzs (by omega) ⟨g0, 0, none⟩ j cap ks hown.1
          (fun q u hq => by
            have := (hown.alloc (.cells arr e)).cells (g := g0) rfl q u hq
            exact this)
          ⟨w.heap.size, 0, none⟩ 1 1 arr.toList (by simp [hsz]) hnews (by omega) hj hby
        rw [hr] at hr2
        injection hr2 with e1 e2
        subst e1
        have := (ho2.lt g rfl).1
        exact .inr (by omega)
end Go.Proofs.YtlncjgnomhpjnaaGreatDoor

