import Derived.Test.YtlncjgnomhpjnaaGreatDoorPD47
/-
  The document's head of frames that were read: reelref.headFor.
-/
namespace Go.Proofs.YtlncjgnomhpjnaaGreatDoor
open Go.RowKit Go.Deep
set_option linter.unusedVariables false
set_option maxRecDepth 4000 in
set_option maxHeartbeats 1000000 in
theorem headFor9_any (c0 c1 c2 c3 s : Int) (c4 sum : Nat) (a : Option Addr) (k cap : Nat) (ln : Nat → Nat) (w : World) (hk : k ≤ 300) (hc4 : c4 ≤ 255) (hln : ∀ i, i < k → ln i ≤ 9000)
    (hI : IntsAt w a k (fun i => (ln i : Int))) (hlow : ∀ x, a = some x → 0 < k → x.block < w.heap.size) :
    Calls Tryz.prog 95 #[.agg #[.int .i64 c0, .int .i64 c1, .int .i64 c2, .int .i64 c3, .int .i64 c4, .int .i64 s], .slice a k cap, .int .i64 sum] w fun e w' =>
      ∃ pv, e = .returned (.agg (rhC c0 c1 c2 c3 c4 s 1 (leastN ln k) (mostN ln k) sum pv)) ∧ w'.ownsRow w.heap.size 3 1 pv (pntN ln c4 k).length (pntV (pntN ln c4 k)) ∧ Below w.heap.size w w' := by
  have HI := Hid.mk' hI
  have HLOW := Hid.mk' hlow
  have HLN := Hid.mk' hln
  have HLB := Hid.mk' (fun i (hi : i ≤ k) => leastN_bd (ln := ln) (m := 9000) i (fun j hj => hln j (by omega)))
  have HMB := Hid.mk' (fun i (hi : i ≤ k) => mostN_bd (ln := ln) (m := 9000) i (fun j hj => hln j (by omega)))
  have HAB := Hid.mk' (fun i (hi : i ≤ k) => atN_bd (ln := ln) (m := 9000) i (fun j hj => hln j (by omega)))
  clear hI hlow hln
  go_enter Tryz.func95, Tryz.ntmps95
  go_wp2
  go_loopw [8, 9] (fun av iv wr => ∃ i : Nat, ∃ pv : Value, i ≤ k ∧ iv = .int .i64 i ∧ av = .int .i64 (atN ln i : Nat) ∧ Hid (RinI w wr c0 c1 c2 c3 c4 s (leastN ln i : Nat) (mostN ln i : Nat) sum pv (pntN ln c4 i).length (pntV (pntN ln c4 i)))) (fun _ iv _ => k - (intOf iv).toNat)
  case atStart =>
    refine ⟨0, .slice none 0 0, Nat.zero_le _, rfl, rfl, ⟨?_, ?_, ?_, World.ownsRow_nil _ _ _ _, (((Below.refl _ _).alloc (Nat.le_refl _) _).alloc (by simp) _).alloc (by simp; omega) _, by simp⟩⟩
    · exact (((Bx.new w _ _).alloc _).alloc _).cell 4
    · exact Bx.new2 (by simp) _ _
    · exact (Bx.new2 (by simp) _ _).alloc _
  case round =>
    obtain ⟨i, pv, hi, rfl, rfl, HR⟩ := hrel
    by_cases hlt : i < k
    · obtain ⟨gi, oi, hAi, hci⟩ := HI.out.open (by omega)
      subst hAi
      have hgl : gi < w.heap.size := HLOW.out _ rfl (by omega)
      have hcv : wr.cell? ⟨gi, oi + i, none⟩ = some (.int .i64 (ln i : Int)) := (HR.out.below.cell (p := ⟨gi, oi + i, none⟩) hgl).trans (hci i hlt)
      obtain ⟨x7, x8, x10, y7, y8, y10⟩ := HR.out.hd.rcells
      have xi := HR.out.info
      have HAT : Hid (atN ln (i + 1) = atN ln i + ln i) := rfl
      have HMO : Hid (((mostN ln (i + 1) : Nat) : Int) = max ((mostN ln i : Nat) : Int) (ln i : Int)) := by show ((max (mostN ln i) (ln i) : Nat) : Int) = _; omega
      have HLE : Hid (leastN ln (i + 1) = if i = 0 ∨ ln i < leastN ln i then ln i else leastN ln i) := rfl
      have HPT : Hid (pntN ln c4 (i + 1) = if 0 < c4 ∧ i % c4 = 0 then pntN ln c4 i ++ [atN ln i] else pntN ln c4 i) := rfl
      have hL := HLN.out i hlt
      have hle := HLB.out i hi
      have hmo := HMB.out i hi
      have hah : atN ln i ≤ 2700000 := Nat.le_trans (HAB.out i hi) (by omega)
      have hpl := pntN_len ln c4 i
      generalize pntN ln c4 i = P at *
      generalize leastN ln i = le at *
      generalize mostN ln i = mo at *
      generalize atN ln i = ah at *
      generalize ln i = L at *
      clear hci
      have HNX : Hid (IntKind.i64.wrap ((ah : Int) + (L : Int)) = (ah : Int) + (L : Int)) := by show _ = _; rw [IntKind.wrap_i64]; omega
      by_cases hp : 0 < c4 ∧ i % c4 = 0
      · rw [if_pos hp] at HPT
        have s1 : decide ((0 : Int) < (c4 : Int)) = true := decide_eq_true (by omega)
        have s2 : (0 : Int) < (c4 : Int) := by omega
        have s3 : ¬ (c4 : Int) = 0 := by omega
        have s4 : ¬ c4 = 0 := by omega
        have s5 : ((i : Int)).tmod (c4 : Int) = 0 := by rw [Int.tmod_eq_emod_of_nonneg (by omega)]; have := hp.2; omega
        have s6 : (i : Int) % (c4 : Int) = 0 := by have := hp.2; omega
        clear hp
        obtain ⟨g', c', u', hr, ho, hg⟩ := app_row 29 3 (.int .i64 0) 8 Tryz.underlying29 infoInt rfl wr _ pv _ _ #[.int .i64 (ah : Int)] HR.out.own (by simp) (by intro u hu; simp at hu; rw [hu]; rfl) (by simp only [maxLen]; simp; omega) (by simp; omega) HR.out.size 29
        have hd' := HR.out.hd.of (hg.block _ (by have := HR.out.size; omega) (fun e => HR.out.ne _ (by show w.heap.size + 1 + 1 < _; omega) e.symm))
        obtain ⟨z7, z8, z10, v7, v8, v10⟩ := hd'.rcells
        have zi : u'.cell? ⟨w.heap.size, 4, none⟩ = some (.int .i64 c4) := hg.cell HR.out.info (fun e => HR.out.ne w.heap.size (by omega) e.symm)
        have zv : u'.cell? ⟨gi, oi + i, none⟩ = some (.int .i64 (L : Int)) := hg.cell hcv (fun e => HR.out.ne gi (by omega) e.symm)
        have HAP : Hid (_ = _) := hr
        have HPO := Hid.mk' (HR.out.point ho hg)
        clear hr ho hg hd'
        have FB := Hid.mk' (HPO.out)
        by_cases h0 : i = 0
        · rw [if_pos (.inl h0)] at HLE
          have t0 : ((i : Int) == 0) = true := by simp; omega
          by_cases hm : mo < L
          · rw [show max (mo : Int) (L : Int) = (L : Int) by omega] at HMO
            have HN := Hid.mk' ((FB.out.set 7 _ (FB.out.hd.rh7 (L : Int))).set 8 _ ((FB.out.set 7 _ (FB.out.hd.rh7 (L : Int))).hd.rh8 (L : Int)))
            clear h0
            go_wp2_with (at_builtin; refine wpList_append_rn rfl _ _ _ rfl _ _ _ rfl rfl HAP.out ?_; clear HAP)
            go_region
            go_wp2
            go_region
            go_wp2
            go_roundw
            case rel => exact ⟨i + 1, _, by omega, by go_num, by rw [HAT.out]; go_num, by rw [HLE.out, HMO.out, HPT.out]; first | exact HN.out.like rfl rfl rfl rfl | (rw [List.length_append, pntV_snoc]; exact HN.out.like rfl rfl rfl rfl)⟩
            case measure => simp [intOf]; omega
          · rw [show max (mo : Int) (L : Int) = (mo : Int) by omega] at HMO
            have HN := Hid.mk' (FB.out.set 7 _ (FB.out.hd.rh7 (L : Int)))
            clear h0
            go_wp2_with (at_builtin; refine wpList_append_rn rfl _ _ _ rfl _ _ _ rfl rfl HAP.out ?_; clear HAP)
            go_region
            go_wp2
            go_region
            go_wp2
            go_roundw
            case rel => exact ⟨i + 1, _, by omega, by go_num, by rw [HAT.out]; go_num, by rw [HLE.out, HMO.out, HPT.out]; first | exact HN.out.like rfl rfl rfl rfl | (rw [List.length_append, pntV_snoc]; exact HN.out.like rfl rfl rfl rfl)⟩
            case measure => simp [intOf]; omega
        · have t0 : ((i : Int) == 0) = false := by simp; omega
          by_cases hl : L < le
          · rw [if_pos (.inr hl)] at HLE
            by_cases hm : mo < L
            · rw [show max (mo : Int) (L : Int) = (L : Int) by omega] at HMO
              have HN := Hid.mk' ((FB.out.set 7 _ (FB.out.hd.rh7 (L : Int))).set 8 _ ((FB.out.set 7 _ (FB.out.hd.rh7 (L : Int))).hd.rh8 (L : Int)))
              clear h0
              go_wp2_with (at_builtin; refine wpList_append_rn rfl _ _ _ rfl _ _ _ rfl rfl HAP.out ?_; clear HAP)
              go_region
              go_wp2
              go_region
              go_wp2
              go_roundw
              case rel => exact ⟨i + 1, _, by omega, by go_num, by rw [HAT.out]; go_num, by rw [HLE.out, HMO.out, HPT.out]; first | exact HN.out.like rfl rfl rfl rfl | (rw [List.length_append, pntV_snoc]; exact HN.out.like rfl rfl rfl rfl)⟩
              case measure => simp [intOf]; omega
            · rw [show max (mo : Int) (L : Int) = (mo : Int) by omega] at HMO
              have HN := Hid.mk' (FB.out.set 7 _ (FB.out.hd.rh7 (L : Int)))
              clear h0
              go_wp2_with (at_builtin; refine wpList_append_rn rfl _ _ _ rfl _ _ _ rfl rfl HAP.out ?_; clear HAP)
              go_region
              go_wp2
              go_region
              go_wp2
              go_roundw
              case rel => exact ⟨i + 1, _, by omega, by go_num, by rw [HAT.out]; go_num, by rw [HLE.out, HMO.out, HPT.out]; first | exact HN.out.like rfl rfl rfl rfl | (rw [List.length_append, pntV_snoc]; exact HN.out.like rfl rfl rfl rfl)⟩
              case measure => simp [intOf]; omega
          · rw [if_neg (fun h => h.elim h0 hl)] at HLE
            by_cases hm : mo < L
            · rw [show max (mo : Int) (L : Int) = (L : Int) by omega] at HMO
              have HN := Hid.mk' (FB.out.set 8 _ (FB.out.hd.rh8 (L : Int)))
              clear h0
              go_wp2_with (at_builtin; refine wpList_append_rn rfl _ _ _ rfl _ _ _ rfl rfl HAP.out ?_; clear HAP)
              go_region
              go_wp2
              go_region
              go_wp2
              go_roundw
              case rel => exact ⟨i + 1, _, by omega, by go_num, by rw [HAT.out]; go_num, by rw [HLE.out, HMO.out, HPT.out]; first | exact HN.out.like rfl rfl rfl rfl | (rw [List.length_append, pntV_snoc]; exact HN.out.like rfl rfl rfl rfl)⟩
              case measure => simp [intOf]; omega
            · rw [show max (mo : Int) (L : Int) = (mo : Int) by omega] at HMO
              have HN := Hid.mk' (FB.out)
              clear h0
              go_wp2_with (at_builtin; refine wpList_append_rn rfl _ _ _ rfl _ _ _ rfl rfl HAP.out ?_; clear HAP)
              go_region
              go_wp2
              go_region
              go_wp2
              go_roundw
              case rel => exact ⟨i + 1, _, by omega, by go_num, by rw [HAT.out]; go_num, by rw [HLE.out, HMO.out, HPT.out]; first | exact HN.out.like rfl rfl rfl rfl | (rw [List.length_append, pntV_snoc]; exact HN.out.like rfl rfl rfl rfl)⟩
              case measure => simp [intOf]; omega
      · rw [if_neg hp] at HPT
        by_cases hc : c4 = 0
        · have s1 : decide ((0 : Int) < (c4 : Int)) = false := decide_eq_false (by omega)
          have s2 : ¬ (0 : Int) < (c4 : Int) := by omega
          clear hp hc
          have FB := Hid.mk' (HR.out)
          by_cases h0 : i = 0
          · rw [if_pos (.inl h0)] at HLE
            have t0 : ((i : Int) == 0) = true := by simp; omega
            by_cases hm : mo < L
            · rw [show max (mo : Int) (L : Int) = (L : Int) by omega] at HMO
              have HN := Hid.mk' ((FB.out.set 7 _ (FB.out.hd.rh7 (L : Int))).set 8 _ ((FB.out.set 7 _ (FB.out.hd.rh7 (L : Int))).hd.rh8 (L : Int)))
              clear h0
              go_wp2_with (at_builtin; refine wpList_append_rn rfl _ _ _ rfl _ _ _ rfl rfl HAP.out ?_; clear HAP)
              go_region
              go_wp2
              go_region
              go_wp2
              go_roundw
              case rel => exact ⟨i + 1, _, by omega, by go_num, by rw [HAT.out]; go_num, by rw [HLE.out, HMO.out, HPT.out]; first | exact HN.out.like rfl rfl rfl rfl | (rw [List.length_append, pntV_snoc]; exact HN.out.like rfl rfl rfl rfl)⟩
              case measure => simp [intOf]; omega
            · rw [show max (mo : Int) (L : Int) = (mo : Int) by omega] at HMO
              have HN := Hid.mk' (FB.out.set 7 _ (FB.out.hd.rh7 (L : Int)))
              clear h0
              go_wp2_with (at_builtin; refine wpList_append_rn rfl _ _ _ rfl _ _ _ rfl rfl HAP.out ?_; clear HAP)
              go_region
              go_wp2
              go_region
              go_wp2
              go_roundw
              case rel => exact ⟨i + 1, _, by omega, by go_num, by rw [HAT.out]; go_num, by rw [HLE.out, HMO.out, HPT.out]; first | exact HN.out.like rfl rfl rfl rfl | (rw [List.length_append, pntV_snoc]; exact HN.out.like rfl rfl rfl rfl)⟩
              case measure => simp [intOf]; omega
          · have t0 : ((i : Int) == 0) = false := by simp; omega
            by_cases hl : L < le
            · rw [if_pos (.inr hl)] at HLE
              by_cases hm : mo < L
              · rw [show max (mo : Int) (L : Int) = (L : Int) by omega] at HMO
                have HN := Hid.mk' ((FB.out.set 7 _ (FB.out.hd.rh7 (L : Int))).set 8 _ ((FB.out.set 7 _ (FB.out.hd.rh7 (L : Int))).hd.rh8 (L : Int)))
                clear h0
                go_wp2_with (at_builtin; refine wpList_append_rn rfl _ _ _ rfl _ _ _ rfl rfl HAP.out ?_; clear HAP)
                go_region
                go_wp2
                go_region
                go_wp2
                go_roundw
                case rel => exact ⟨i + 1, _, by omega, by go_num, by rw [HAT.out]; go_num, by rw [HLE.out, HMO.out, HPT.out]; first | exact HN.out.like rfl rfl rfl rfl | (rw [List.length_append, pntV_snoc]; exact HN.out.like rfl rfl rfl rfl)⟩
                case measure => simp [intOf]; omega
              · rw [show max (mo : Int) (L : Int) = (mo : Int) by omega] at HMO
                have HN := Hid.mk' (FB.out.set 7 _ (FB.out.hd.rh7 (L : Int)))
                clear h0
                go_wp2_with (at_builtin; refine wpList_append_rn rfl _ _ _ rfl _ _ _ rfl rfl HAP.out ?_; clear HAP)
                go_region
                go_wp2
                go_region
                go_wp2
                go_roundw
                case rel => exact ⟨i + 1, _, by omega, by go_num, by rw [HAT.out]; go_num, by rw [HLE.out, HMO.out, HPT.out]; first | exact HN.out.like rfl rfl rfl rfl | (rw [List.length_append, pntV_snoc]; exact HN.out.like rfl rfl rfl rfl)⟩
                case measure => simp [intOf]; omega
            · rw [if_neg (fun h => h.elim h0 hl)] at HLE
              by_cases hm : mo < L
              · rw [show max (mo : Int) (L : Int) = (L : Int) by omega] at HMO
                have HN := Hid.mk' (FB.out.set 8 _ (FB.out.hd.rh8 (L : Int)))
                clear h0
                go_wp2_with (at_builtin; refine wpList_append_rn rfl _ _ _ rfl _ _ _ rfl rfl HAP.out ?_; clear HAP)
                go_region
                go_wp2
                go_region
                go_wp2
                go_roundw
                case rel => exact ⟨i + 1, _, by omega, by go_num, by rw [HAT.out]; go_num, by rw [HLE.out, HMO.out, HPT.out]; first | exact HN.out.like rfl rfl rfl rfl | (rw [List.length_append, pntV_snoc]; exact HN.out.like rfl rfl rfl rfl)⟩
                case measure => simp [intOf]; omega
              · rw [show max (mo : Int) (L : Int) = (mo : Int) by omega] at HMO
                have HN := Hid.mk' (FB.out)
                clear h0
                go_wp2_with (at_builtin; refine wpList_append_rn rfl _ _ _ rfl _ _ _ rfl rfl HAP.out ?_; clear HAP)
                go_region
                go_wp2
                go_region
                go_wp2
                go_roundw
                case rel => exact ⟨i + 1, _, by omega, by go_num, by rw [HAT.out]; go_num, by rw [HLE.out, HMO.out, HPT.out]; first | exact HN.out.like rfl rfl rfl rfl | (rw [List.length_append, pntV_snoc]; exact HN.out.like rfl rfl rfl rfl)⟩
                case measure => simp [intOf]; omega
        · have s1 : decide ((0 : Int) < (c4 : Int)) = true := decide_eq_true (by omega)
          have s2 : (0 : Int) < (c4 : Int) := by omega
          have s3 : ¬ (c4 : Int) = 0 := by omega
          have hr : ¬ i % c4 = 0 := fun e => hp ⟨by omega, e⟩
          have e6 : (i : Int) % (c4 : Int) = ((i % c4 : Nat) : Int) := rfl
          have s5 : ((i : Int).tmod (c4 : Int) == 0) = false := by rw [Int.tmod_eq_emod_of_nonneg (by omega), e6]; simp; omega
          have s6 : ((i : Int) % (c4 : Int) == 0) = false := by rw [e6]; simp; omega
          have s7 : ¬ (i : Int).tmod (c4 : Int) = 0 := by rw [Int.tmod_eq_emod_of_nonneg (by omega), e6]; omega
          clear hp hr e6
          have FB := Hid.mk' (HR.out)
          by_cases h0 : i = 0
          · rw [if_pos (.inl h0)] at HLE
            have t0 : ((i : Int) == 0) = true := by simp; omega
            by_cases hm : mo < L
            · rw [show max (mo : Int) (L : Int) = (L : Int) by omega] at HMO
              have HN := Hid.mk' ((FB.out.set 7 _ (FB.out.hd.rh7 (L : Int))).set 8 _ ((FB.out.set 7 _ (FB.out.hd.rh7 (L : Int))).hd.rh8 (L : Int)))
              clear h0
              go_wp2_with (at_builtin; refine wpList_append_rn rfl _ _ _ rfl _ _ _ rfl rfl HAP.out ?_; clear HAP)
              go_region
              go_wp2
              go_region
              go_wp2
              go_roundw
              case rel => exact ⟨i + 1, _, by omega, by go_num, by rw [HAT.out]; go_num, by rw [HLE.out, HMO.out, HPT.out]; first | exact HN.out.like rfl rfl rfl rfl | (rw [List.length_append, pntV_snoc]; exact HN.out.like rfl rfl rfl rfl)⟩
              case measure => simp [intOf]; omega
            · rw [show max (mo : Int) (L : Int) = (mo : Int) by omega] at HMO
              have HN := Hid.mk' (FB.out.set 7 _ (FB.out.hd.rh7 (L : Int)))
              clear h0
              go_wp2_with (at_builtin; refine wpList_append_rn rfl _ _ _ rfl _ _ _ rfl rfl HAP.out ?_; clear HAP)
              go_region
              go_wp2
              go_region
              go_wp2
              go_roundw
              case rel => exact ⟨i + 1, _, by omega, by go_num, by rw [HAT.out]; go_num, by rw [HLE.out, HMO.out, HPT.out]; first | exact HN.out.like rfl rfl rfl rfl | (rw [List.length_append, pntV_snoc]; exact HN.out.like rfl rfl rfl rfl)⟩
              case measure => simp [intOf]; omega
          · have t0 : ((i : Int) == 0) = false := by simp; omega
            by_cases hl : L < le
            · rw [if_pos (.inr hl)] at HLE
              by_cases hm : mo < L
              · rw [show max (mo : Int) (L : Int) = (L : Int) by omega] at HMO
                have HN := Hid.mk' ((FB.out.set 7 _ (FB.out.hd.rh7 (L : Int))).set 8 _ ((FB.out.set 7 _ (FB.out.hd.rh7 (L : Int))).hd.rh8 (L : Int)))
                clear h0
                go_wp2_with (at_builtin; refine wpList_append_rn rfl _ _ _ rfl _ _ _ rfl rfl HAP.out ?_; clear HAP)
                go_region
                go_wp2
                go_region
                go_wp2
                go_roundw
                case rel => exact ⟨i + 1, _, by omega, by go_num, by rw [HAT.out]; go_num, by rw [HLE.out, HMO.out, HPT.out]; first | exact HN.out.like rfl rfl rfl rfl | (rw [List.length_append, pntV_snoc]; exact HN.out.like rfl rfl rfl rfl)⟩
                case measure => simp [intOf]; omega
              · rw [show max (mo : Int) (L : Int) = (mo : Int) by omega] at HMO
                have HN := Hid.mk' (FB.out.set 7 _ (FB.out.hd.rh7 (L : Int)))
                clear h0
                go_wp2_with (at_builtin; refine wpList_append_rn rfl _ _ _ rfl _ _ _ rfl rfl HAP.out ?_; clear HAP)
                go_region
                go_wp2
                go_region
                go_wp2
                go_roundw
                case rel => exact ⟨i + 1, _, by omega, by go_num, by rw [HAT.out]; go_num, by rw [HLE.out, HMO.out, HPT.out]; first | exact HN.out.like rfl rfl rfl rfl | (rw [List.length_append, pntV_snoc]; exact HN.out.like rfl rfl rfl rfl)⟩
                case measure => simp [intOf]; omega
            · rw [if_neg (fun h => h.elim h0 hl)] at HLE
              by_cases hm : mo < L
              · rw [show max (mo : Int) (L : Int) = (L : Int) by omega] at HMO
                have HN := Hid.mk' (FB.out.set 8 _ (FB.out.hd.rh8 (L : Int)))
                clear h0
                go_wp2_with (at_builtin; refine wpList_append_rn rfl _ _ _ rfl _ _ _ rfl rfl HAP.out ?_; clear HAP)
                go_region
                go_wp2
                go_region
                go_wp2
                go_roundw
                case rel => exact ⟨i + 1, _, by omega, by go_num, by rw [HAT.out]; go_num, by rw [HLE.out, HMO.out, HPT.out]; first | exact HN.out.like rfl rfl rfl rfl | (rw [List.length_append, pntV_snoc]; exact HN.out.like rfl rfl rfl rfl)⟩
                case measure => simp [intOf]; omega
              · rw [show max (mo : Int) (L : Int) = (mo : Int) by omega] at HMO
                have HN := Hid.mk' (FB.out)
                clear h0
                go_wp2_with (at_builtin; refine wpList_append_rn rfl _ _ _ rfl _ _ _ rfl rfl HAP.out ?_; clear HAP)
                go_region
                go_wp2
                go_region
                go_wp2
                go_roundw
                case rel => exact ⟨i + 1, _, by omega, by go_num, by rw [HAT.out]; go_num, by rw [HLE.out, HMO.out, HPT.out]; first | exact HN.out.like rfl rfl rfl rfl | (rw [List.length_append, pntV_snoc]; exact HN.out.like rfl rfl rfl rfl)⟩
                case measure => simp [intOf]; omega
    · have e : i = k := by omega
      subst e
      have H1 : Hid ((rhC c0 c1 c2 c3 c4 s 1 (leastN ln i : Nat) (mostN ln i : Nat) sum pv).toList.all (·.oneCell') = true) := by
        rcases HR.out.own.2 with ⟨e, -⟩ | ⟨g, c, cur, e, -⟩ <;> (show _ = _; rw [e]; rfl)
      go_wp2_with (first | (refine wpList_loadRow rfl _ 123 rfl _ _ _ _ _ rfl HR.out.hd Tryz.underlying123 rfl infoRHead ?_) | (refine wpList_storeRow rfl _ _ 123 rfl (w.heap.size + 1) 123 _ _ rfl rfl HR.out.res infoRHead rfl H1.out ?_))
      exact bodyPost_ret (res_rin _ (w.heap.size + 1) (rhC c0 c1 c2 c3 c4 s 1 (leastN ln i : Nat) (mostN ln i : Nat) sum pv) _ (HR.out.res.row _) rfl rfl) rfl ⟨pv, rfl, owns_mono (HR.out.own.kept (grown_row wr (w.heap.size + 1) _) (.inr (HR.out.ne (w.heap.size + 1) (by omega)))) (by omega), below_setRow HR.out.below (by omega) _⟩
end Go.Proofs.YtlncjgnomhpjnaaGreatDoor

