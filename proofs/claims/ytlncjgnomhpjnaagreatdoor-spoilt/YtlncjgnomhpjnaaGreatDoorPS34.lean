import Derived.Test.YtlncjgnomhpjnaaGreatDoorPS25
import Derived.Test.YtlncjgnomhpjnaaGreatDoorPS21
import Derived.Test.YtlncjgnomhpjnaaGreatDoorPS13
import Derived.Test.YtlncjgnomhpjnaaGreatDoorPS6
import Derived.Test.YtlncjgnomhpjnaaGreatDoorPS22
import Derived.Test.YtlncjgnomhpjnaaGreatDoorPS32
import Derived.BigQuiet
import Derived.Deep.QuietTactic
import Derived.Deep.RegionHeld3
import Derived.WalkMore
import Derived.Test.YtlncjgnomhpjnaaGreatDoorPS26
/-
  A frame read, in the document: reelref.unframe.
-/
namespace Go.Proofs.YtlncjgnomhpjnaaGreatDoor
open Go.RowKit Go.Deep
set_option linter.unusedVariables false
theorem valN_inj : ∀ (k : Nat) (l l' : List UInt8), l.length = k → l'.length = k → valN l = valN l' → l = l'
  | 0, l, l', h, h', _ => by rw [List.length_eq_zero_iff.1 h, List.length_eq_zero_iff.1 h']
  | k + 1, l, l', h, h', e => by
    rcases List.eq_nil_or_concat l with hl | ⟨a, x, hl⟩
    · rw [hl] at h; simp at h
    · rcases List.eq_nil_or_concat l' with hl' | ⟨a', x', hl'⟩
      · rw [hl'] at h'; simp at h'
      · subst hl hl'
        simp only [List.concat_eq_append, List.length_append, List.length_cons, List.length_nil] at h h' e ⊢
        rw [valN_snoc, valN_snoc] at e
        have h1 := x.toNat_lt
        have h2 := x'.toNat_lt
        have e1 : valN a = valN a' := by omega
        have e2 : x.toNat = x'.toNat := by omega
        rw [valN_inj k a a' (by omega) (by omega) e1, UInt8.toNat.inj e2]
theorem take_piece (T : List UInt8) (a b : Nat) (h : a ≤ b) (hb : b ≤ T.length) : T.take b = T.take a ++ pieceT T a b := by
  unfold pieceT
  rw [← List.take_add, show a + (b - a) = b by omega]
theorem bl_drewN {B : Nat} {a b : World} (h : Below B a b) (n : Nat) : Below B a (b.drewN n) := ⟨h.os, h.tape, h.output, h.size, h.block⟩
end Go.Proofs.YtlncjgnomhpjnaaGreatDoor

/-
  A stream's head, of frames that were read: head.Finished.
-/
namespace Go.Proofs.YtlncjgnomhpjnaaGreatDoor
open Go.RowKit Go.Deep
set_option linter.unusedVariables false
set_option maxRecDepth 4000 in
set_option maxHeartbeats 1000000 in
theorem finished9_any (c0 c1 c2 c3 s : Int) (c4 sum : Nat) (a : Option Addr) (k cap : Nat) (ln : Nat → Nat) (w : World) (hk : k ≤ 300) (hc4 : c4 ≤ 255) (hln : ∀ i, i < k → ln i ≤ 9000)
    (hI : IntsAt w a k (fun i => (ln i : Int))) (hlow : ∀ x, a = some x → 0 < k → x.block < w.heap.size) :
    Calls Tryz.prog 128 #[.agg #[.int .i64 c0, .int .i64 c1, .int .i64 c2, .int .i64 c3, .int .i64 c4, .int .i64 s], .slice a k cap, .int .i64 sum] w fun e w' =>
      ∃ pv, e = .returned (.agg (hdC c0 c1 c2 c3 c4 s true (leastN ln k) (mostN ln k) sum pv)) ∧ w'.ownsRow w.heap.size 3 1 pv (pntN ln c4 k).length (pntV (pntN ln c4 k)) ∧ Below w.heap.size w w' := by
  have HI := Hid.mk' hI
  have HLOW := Hid.mk' hlow
  have HLN := Hid.mk' hln
  have HLB := Hid.mk' (fun i (hi : i ≤ k) => leastN_bd (ln := ln) (m := 9000) i (fun j hj => hln j (by omega)))
  have HMB := Hid.mk' (fun i (hi : i ≤ k) => mostN_bd (ln := ln) (m := 9000) i (fun j hj => hln j (by omega)))
  have HAB := Hid.mk' (fun i (hi : i ≤ k) => atN_bd (ln := ln) (m := 9000) i (fun j hj => hln j (by omega)))
  clear hI hlow hln
  go_enter Tryz.func128, Tryz.ntmps128
  go_wp2
  go_loopw [8, 9, 10, 16] (fun av _ _ iv wr => ∃ i : Nat, ∃ pv : Value, i ≤ k ∧ iv = .int .i64 i ∧ av = .int .i64 (atN ln i : Nat) ∧ Hid (FinI w wr c0 c1 c2 c3 c4 s (leastN ln i : Nat) (mostN ln i : Nat) sum pv (pntN ln c4 i).length (pntV (pntN ln c4 i)))) (fun _ _ _ iv _ => k - (intOf iv).toNat)
  case atStart =>
    refine ⟨0, .slice none 0 0, Nat.zero_le _, rfl, rfl, ⟨?_, ?_, ?_, World.ownsRow_nil _ _ _ _, (((Below.refl _ _).alloc (Nat.le_refl _) _).alloc (by simp) _).alloc (by simp; omega) _, by simp⟩⟩
    · exact (((Bx.new w _ _).alloc _).alloc _).cell 4
    · exact Bx.new2 (by simp) _ _
    · exact (Bx.new2 (by simp) _ _).alloc _
  case round =>
    obtain ⟨i, pv, hi, rfl, rfl, HR⟩ := hrel
    by_cases hlt : i < k
    · obtain ⟨gi, oi, hAi, hci⟩ := HI.out.open (by omega)
      subst hAi
      have hgl : gi < w.heap.size := HLOW.out _ rfl (by omega)
      have hcv : wr.cell? ⟨gi, oi + i, none⟩ = some (.int .i64 (ln i : Int)) := (HR.out.below.cell (p := ⟨gi, oi + i, none⟩) hgl).trans (hci i hlt)
      obtain ⟨x7, x8, x10, y7, y8, y10⟩ := HR.out.hd.hcells
      have xi := HR.out.info
      have HAT : Hid (atN ln (i + 1) = atN ln i + ln i) := rfl
      have HMO : Hid (((mostN ln (i + 1) : Nat) : Int) = max ((mostN ln i : Nat) : Int) (ln i : Int)) := by show ((max (mostN ln i) (ln i) : Nat) : Int) = _; omega
      have HLE : Hid (leastN ln (i + 1) = if i = 0 ∨ ln i < leastN ln i then ln i else leastN ln i) := rfl
      have HPT : Hid (pntN ln c4 (i + 1) = if 0 < c4 ∧ i % c4 = 0 then pntN ln c4 i ++ [atN ln i] else pntN ln c4 i) := rfl
      have hL := HLN.out i hlt
      have hle := HLB.out i hi
      have hmo := HMB.out i hi
      have hah : atN ln i ≤ 2700000 := Nat.le_trans (HAB.out i hi) (by omega)
      have hpl := pntN_len ln c4 i
      generalize pntN ln c4 i = P at *
      generalize leastN ln i = le at *
      generalize mostN ln i = mo at *
      generalize atN ln i = ah at *
      generalize ln i = L at *
      clear hci
      have F2 : Hid (FinI w ((wr.setCell ⟨w.heap.size + 1 + 1, 7, none⟩ (.int .i64 (L : Int))).setCell ⟨w.heap.size + 1 + 1, 8, none⟩ (.int .i64 (max (mo : Int) (L : Int)))) c0 c1 c2 c3 c4 s (L : Int) (max (mo : Int) (L : Int)) sum pv P.length (pntV P)) :=
        (HR.out.set 7 _ (HR.out.hd.hd7 _)).set 8 _ ((HR.out.set 7 _ (HR.out.hd.hd7 _)).hd.hd8 _)
      have F1 : Hid (FinI w (wr.setCell ⟨w.heap.size + 1 + 1, 8, none⟩ (.int .i64 (max (mo : Int) (L : Int)))) c0 c1 c2 c3 c4 s (le : Int) (max (mo : Int) (L : Int)) sum pv P.length (pntV P)) :=
        HR.out.set 8 _ (HR.out.hd.hd8 _)
      have HNX : Hid (IntKind.i64.wrap ((ah : Int) + (L : Int)) = (ah : Int) + (L : Int)) := by show _ = _; rw [IntKind.wrap_i64]; omega
      by_cases hp : 0 < c4 ∧ i % c4 = 0
      · rw [if_pos hp] at HPT
        have s1 : decide ((0 : Int) < (c4 : Int)) = true := decide_eq_true (by omega)
        have s2 : (0 : Int) < (c4 : Int) := by omega
        have s3 : ¬ (c4 : Int) = 0 := by omega
        have s4 : ¬ c4 = 0 := by omega
        have s5 : ((i : Int)).tmod (c4 : Int) = 0 := by rw [Int.tmod_eq_emod_of_nonneg (by omega)]; have := hp.2; omega
        have s6 : (i : Int) % (c4 : Int) = 0 := by have := hp.2; omega
        clear hp
        by_cases h0 : i = 0
        · rw [if_pos (.inl h0)] at HLE
          have t0 : ((i : Int) == 0) = true := by simp; omega
          clear h0
          have hF := F2.out
          obtain ⟨g', c', u', hr, ho, hg⟩ := app_row 29 3 (.int .i64 0) 8 Tryz.underlying29 infoInt rfl _ _ pv _ _ #[.int .i64 (ah : Int)] hF.own (by simp) (by intro u hu; simp at hu; rw [hu]; rfl) (by simp only [maxLen]; simp; omega) (by simp; omega) hF.size 29
          have HN := Hid.mk' (hF.point ho hg)
          have hd' := hF.hd.of (hg.block _ (by have := hF.size; omega) (fun e => hF.ne _ (by show w.heap.size + 1 + 1 < _; omega) e.symm))
          obtain ⟨-, -, z10, -, -, v10⟩ := hd'.hcells
          simp only [size_set] at hr
          have HAP : Hid (_ = _) := hr
          clear hr ho hg hd' hF
          go_wp2_with (at_builtin; refine wpList_append_rn rfl _ _ _ rfl _ _ _ rfl rfl HAP.out ?_; clear HAP)
          go_roundw
          case rel => exact ⟨i + 1, _, by omega, by go_num, by rw [HAT.out]; go_num, by rw [HLE.out, HMO.out, HPT.out, List.length_append, pntV_snoc]; exact HN.out⟩
          case measure => simp [intOf]; omega
        · have t0 : ((i : Int) == 0) = false := by simp; omega
          by_cases hl : L < le
          · rw [if_pos (.inr hl)] at HLE
            clear h0
            have hF := F2.out
            obtain ⟨g', c', u', hr, ho, hg⟩ := app_row 29 3 (.int .i64 0) 8 Tryz.underlying29 infoInt rfl _ _ pv _ _ #[.int .i64 (ah : Int)] hF.own (by simp) (by intro u hu; simp at hu; rw [hu]; rfl) (by simp only [maxLen]; simp; omega) (by simp; omega) hF.size 29
            have HN := Hid.mk' (hF.point ho hg)
            have hd' := hF.hd.of (hg.block _ (by have := hF.size; omega) (fun e => hF.ne _ (by show w.heap.size + 1 + 1 < _; omega) e.symm))
            obtain ⟨-, -, z10, -, -, v10⟩ := hd'.hcells
            simp only [size_set] at hr
            have HAP : Hid (_ = _) := hr
            clear hr ho hg hd' hF
            go_wp2_with (at_builtin; refine wpList_append_rn rfl _ _ _ rfl _ _ _ rfl rfl HAP.out ?_; clear HAP)
            go_roundw
            case rel => exact ⟨i + 1, _, by omega, by go_num, by rw [HAT.out]; go_num, by rw [HLE.out, HMO.out, HPT.out, List.length_append, pntV_snoc]; exact HN.out⟩
            case measure => simp [intOf]; omega
          · rw [if_neg (fun h => h.elim h0 hl)] at HLE
            clear h0
            have hF := F1.out
            obtain ⟨g', c', u', hr, ho, hg⟩ := app_row 29 3 (.int .i64 0) 8 Tryz.underlying29 infoInt rfl _ _ pv _ _ #[.int .i64 (ah : Int)] hF.own (by simp) (by intro u hu; simp at hu; rw [hu]; rfl) (by simp only [maxLen]; simp; omega) (by simp; omega) hF.size 29
            have HN := Hid.mk' (hF.point ho hg)
            have hd' := hF.hd.of (hg.block _ (by have := hF.size; omega) (fun e => hF.ne _ (by show w.heap.size + 1 + 1 < _; omega) e.symm))
            obtain ⟨-, -, z10, -, -, v10⟩ := hd'.hcells
            simp only [size_set] at hr
            have HAP : Hid (_ = _) := hr
            clear hr ho hg hd' hF
            go_wp2_with (at_builtin; refine wpList_append_rn rfl _ _ _ rfl _ _ _ rfl rfl HAP.out ?_; clear HAP)
            go_roundw
            case rel => exact ⟨i + 1, _, by omega, by go_num, by rw [HAT.out]; go_num, by rw [HLE.out, HMO.out, HPT.out, List.length_append, pntV_snoc]; exact HN.out⟩
            case measure => simp [intOf]; omega
      · rw [if_neg hp] at HPT
        by_cases hc : c4 = 0
        · have s1 : decide ((0 : Int) < (c4 : Int)) = false := decide_eq_false (by omega)
          have s2 : ¬ (0 : Int) < (c4 : Int) := by omega
          clear hp hc
          by_cases h0 : i = 0
          · rw [if_pos (.inl h0)] at HLE
            have t0 : ((i : Int) == 0) = true := by simp; omega
            clear h0
            have HN := Hid.mk' F2.out
            go_wp2
            go_roundw
            case rel => exact ⟨i + 1, pv, by omega, by go_num, by rw [HAT.out]; go_num, by rw [HLE.out, HMO.out, HPT.out]; exact HN.out⟩
            case measure => simp [intOf]; omega
          · have t0 : ((i : Int) == 0) = false := by simp; omega
            by_cases hl : L < le
            · rw [if_pos (.inr hl)] at HLE
              clear h0
              have HN := Hid.mk' F2.out
              go_wp2
              go_roundw
              case rel => exact ⟨i + 1, pv, by omega, by go_num, by rw [HAT.out]; go_num, by rw [HLE.out, HMO.out, HPT.out]; exact HN.out⟩
              case measure => simp [intOf]; omega
            · rw [if_neg (fun h => h.elim h0 hl)] at HLE
              clear h0
              have HN := Hid.mk' F1.out
              go_wp2
              go_roundw
              case rel => exact ⟨i + 1, pv, by omega, by go_num, by rw [HAT.out]; go_num, by rw [HLE.out, HMO.out, HPT.out]; exact HN.out⟩
              case measure => simp [intOf]; omega
        · have s1 : decide ((0 : Int) < (c4 : Int)) = true := decide_eq_true (by omega)
          have s2 : (0 : Int) < (c4 : Int) := by omega
          have s3 : ¬ (c4 : Int) = 0 := by omega
          have hr : ¬ i % c4 = 0 := fun e => hp ⟨by omega, e⟩
          have e6 : (i : Int) % (c4 : Int) = ((i % c4 : Nat) : Int) := rfl
          have s5 : ((i : Int).tmod (c4 : Int) == 0) = false := by rw [Int.tmod_eq_emod_of_nonneg (by omega), e6]; simp; omega
          have s6 : ((i : Int) % (c4 : Int) == 0) = false := by rw [e6]; simp; omega
          have s7 : ¬ (i : Int).tmod (c4 : Int) = 0 := by rw [Int.tmod_eq_emod_of_nonneg (by omega), e6]; omega
          clear hp hr e6
          by_cases h0 : i = 0
          · exact absurd (by rw [h0]; simp) s7
          · have t0 : ((i : Int) == 0) = false := by simp; omega
            by_cases hl : L < le
            · rw [if_pos (.inr hl)] at HLE
              clear h0
              have HN := Hid.mk' F2.out
              go_wp2
              go_roundw
              case rel => exact ⟨i + 1, pv, by omega, by go_num, by rw [HAT.out]; go_num, by rw [HLE.out, HMO.out, HPT.out]; exact HN.out⟩
              case measure => simp [intOf]; omega
            · rw [if_neg (fun h => h.elim h0 hl)] at HLE
              clear h0
              have HN := Hid.mk' F1.out
              go_wp2
              go_roundw
              case rel => exact ⟨i + 1, pv, by omega, by go_num, by rw [HAT.out]; go_num, by rw [HLE.out, HMO.out, HPT.out]; exact HN.out⟩
              case measure => simp [intOf]; omega
    · have e : i = k := by omega
      subst e
      have H1 : Hid ((hdC c0 c1 c2 c3 c4 s true (leastN ln i : Nat) (mostN ln i : Nat) sum pv).toList.all (·.oneCell') = true) := by
        rcases HR.out.own.2 with ⟨e, -⟩ | ⟨g, c, cur, e, -⟩ <;> (show _ = _; rw [e]; rfl)
      go_wp2_with (first | (refine wpList_loadRow rfl _ 115 rfl _ _ _ _ _ rfl HR.out.hd Tryz.underlying115 rfl infoHead ?_) | (refine wpList_storeRow rfl _ _ 115 rfl (w.heap.size + 1) 115 _ _ rfl rfl HR.out.res infoHead rfl H1.out ?_))
      exact bodyPost_ret (res_fin _ (w.heap.size + 1) (hdC c0 c1 c2 c3 c4 s true (leastN ln i : Nat) (mostN ln i : Nat) sum pv) _ (HR.out.res.row _) rfl rfl) rfl ⟨pv, rfl, owns_mono (HR.out.own.kept (grown_row wr (w.heap.size + 1) _) (.inr (HR.out.ne (w.heap.size + 1) (by omega)))) (by omega), below_setRow HR.out.below (by omega) _⟩
end Go.Proofs.YtlncjgnomhpjnaaGreatDoor
