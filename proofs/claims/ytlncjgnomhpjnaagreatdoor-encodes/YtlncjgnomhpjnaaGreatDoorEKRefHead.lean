import Derived.Test.YtlncjgnomhpjnaaGreatDoorEKEncHead
/-
  The document's head: reelref.headFor.
-/
namespace Go.Proofs.YtlncjgnomhpjnaaGreatDoor
open Go.RowKit Go.Deep
set_option linter.unusedVariables false

theorem infoRHead : (Tryz.prog.info? 123).map (·.size) = some 11 := by kernel_rfl
/-- a head's cells -/
def rhC (c0 c1 c2 c3 c4 s : Int) (f : Int) (least most sum : Int) (pv : Value) : Array Value :=
  #[.int .i64 f, .int .i64 c0, .int .i64 c1, .int .i64 c2, .int .i64 c3, .int .i64 c4, .int .i64 s, .int .i64 least, .int .i64 most, .int .i64 sum, pv]
theorem Bx.rh7 {w : World} {b : Nat} {t : TypeId} {c0 c1 c2 c3 c4 s : Int} {f : Int} {least most sum : Int} {pv : Value} (h : Bx w b t (rhC c0 c1 c2 c3 c4 s f least most sum pv)) (x : Int) : Bx (w.setCell ⟨b, 7, none⟩ (.int .i64 x)) b t (rhC c0 c1 c2 c3 c4 s f x most sum pv) := by
  simp [Bx, World.setCell, Array.getElem?_modify, show w.heap[b]? = _ from h, rhC]
theorem Bx.rh8 {w : World} {b : Nat} {t : TypeId} {c0 c1 c2 c3 c4 s : Int} {f : Int} {least most sum : Int} {pv : Value} (h : Bx w b t (rhC c0 c1 c2 c3 c4 s f least most sum pv)) (x : Int) : Bx (w.setCell ⟨b, 8, none⟩ (.int .i64 x)) b t (rhC c0 c1 c2 c3 c4 s f least x sum pv) := by
  simp [Bx, World.setCell, Array.getElem?_modify, show w.heap[b]? = _ from h, rhC]
theorem Bx.rh10 {w : World} {b : Nat} {t : TypeId} {c0 c1 c2 c3 c4 s : Int} {f : Int} {least most sum : Int} {pv : Value} (h : Bx w b t (rhC c0 c1 c2 c3 c4 s f least most sum pv)) (x : Value) : Bx (w.setCell ⟨b, 10, none⟩ x) b t (rhC c0 c1 c2 c3 c4 s f least most sum x) := by
  simp [Bx, World.setCell, Array.getElem?_modify, show w.heap[b]? = _ from h, rhC]
theorem Bx.rcells {w : World} {b : Nat} {t : TypeId} {c0 c1 c2 c3 c4 s : Int} {f : Int} {least most sum : Int} {pv : Value} (h : Bx w b t (rhC c0 c1 c2 c3 c4 s f least most sum pv)) :
    w.cell? ⟨b, 7, none⟩ = some (.int .i64 least) ∧ w.cell? ⟨b, 8, none⟩ = some (.int .i64 most) ∧ w.cell? ⟨b, 10, none⟩ = some pv ∧ w.frozen? ⟨b, 7, none⟩ = false ∧ w.frozen? ⟨b, 8, none⟩ = false ∧ w.frozen? ⟨b, 10, none⟩ = false := by
  simp [World.cell?, World.frozen?, show w.heap[b]? = _ from h, rhC]
theorem res_rin (tmps : Array Value) (R : Nat) (cs : Array Value) (W : World) (h : Bx W R 123 cs) (hs : cs.size = 11) (h6 : tmps.getD 6 undef = .pointer (some ⟨R, 0, none⟩)) :
    (results Tryz.f95 tmps).run Tryz.prog W = .ok (.agg cs) W := by
  have hl := run_loadVar_row (P := Tryz.prog) W R 123 123 cs (0, 0) _ h Tryz.underlying123 rfl (by rw [hs]; exact infoRHead)
  rw [Array.getD_eq_getD_getElem?] at h6
  simp [results, Tryz.results95, asAddr, h6, hl]
/-- what holds while lengths are looked through -/
structure RinI (w wr : World) (c0 c1 c2 c3 c4 s : Int) (least most sum : Int) (pv : Value) (m : Nat) (ps : List Value) : Prop where
  info : wr.cell? ⟨w.heap.size, 4, none⟩ = some (.int .i64 c4)
  hd : Bx wr (w.heap.size + 1 + 1) 123 (rhC c0 c1 c2 c3 c4 s 1 least most sum pv)
  res : Bx wr (w.heap.size + 1) 123 (rhC 0 0 0 0 0 0 0 0 0 0 (.slice none 0 0))
  own : wr.ownsRow (w.heap.size + 1 + 1 + 1) 3 1 pv m ps
  below : Below w.heap.size w wr
  size : w.heap.size + 1 + 1 + 1 ≤ wr.heap.size
theorem RinI.ne {w wr : World} {c0 c1 c2 c3 c4 s : Int} {least most sum : Int} {pv : Value} {m : Nat} {ps : List Value} (h : RinI w wr c0 c1 c2 c3 c4 s least most sum pv m ps) : ∀ k, k < w.heap.size + 1 + 1 + 1 → pv.ownBlock ≠ some k := fun k hk e => by have := (h.own.lt k e).1; omega
/-- a field of the head is set -/
theorem RinI.set {w wr : World} {c0 c1 c2 c3 c4 s : Int} {least most sum : Int} {pv : Value} {m : Nat} {ps : List Value} (h : RinI w wr c0 c1 c2 c3 c4 s least most sum pv m ps) (j : Nat) (v : Value) {least' most' : Int}
    (hd : Bx (wr.setCell ⟨w.heap.size + 1 + 1, j, none⟩ v) (w.heap.size + 1 + 1) 123 (rhC c0 c1 c2 c3 c4 s 1 least' most' sum pv)) : RinI w (wr.setCell ⟨w.heap.size + 1 + 1, j, none⟩ v) c0 c1 c2 c3 c4 s least' most' sum pv m ps :=
  have hg := grown_set wr ⟨w.heap.size + 1 + 1, j, none⟩ v
  ⟨hg.cell h.info (by simp; omega), hd, h.res.of (hg.block _ (by have := h.size; omega) (by simp)), h.own.kept hg (.inr (h.ne _ (by show w.heap.size + 1 + 1 < _; omega))), h.below.setCell (p := ⟨w.heap.size + 1 + 1, j, none⟩) (by show w.heap.size ≤ w.heap.size + 1 + 1; omega) _, by have := h.size; have := hg.size; omega⟩
theorem RinI.like {w u u' : World} {c0 c1 c2 c3 c4 s : Int} {least most sum : Int} {pv : Value} {m : Nat} {ps : List Value} (h : RinI w u c0 c1 c2 c3 c4 s least most sum pv m ps) (hh : u'.heap = u.heap) (h1 : u'.os = u.os) (h2 : u'.tape = u.tape) (h3 : u'.output = u.output) : RinI w u' c0 c1 c2 c3 c4 s least most sum pv m ps :=
  ⟨by have := h.info; unfold World.cell? at this ⊢; rw [hh]; exact this, by have := h.hd; unfold Bx at this ⊢; rw [hh]; exact this, by have := h.res; unfold Bx at this ⊢; rw [hh]; exact this, by have := h.own; unfold World.ownsRow at this ⊢; rw [hh]; exact this,
   ⟨h1.trans h.below.os, h2.trans h.below.tape, h3.trans h.below.output, by rw [hh]; exact h.below.size, fun k hk => by rw [hh]; exact h.below.block k hk⟩, by rw [hh]; exact h.size⟩
/-- a point more -/
theorem RinI.point {w wr u : World} {c0 c1 c2 c3 c4 s : Int} {least most sum : Int} {pv : Value} {m : Nat} {ps : List Value} (h : RinI w wr c0 c1 c2 c3 c4 s least most sum pv m ps) {g cap : Nat} {x : Value}
    (ho : u.ownsRow (w.heap.size + 1 + 1 + 1) 3 1 (.slice (some ⟨g, 0, none⟩) (m + 1) cap) (m + 1) (ps ++ [x])) (hg : wr.grownBy u pv.ownBlock) :
    RinI w (u.setCell ⟨w.heap.size + 1 + 1, 10, none⟩ (.slice (some ⟨g, 0, none⟩) (m + 1) cap)) c0 c1 c2 c3 c4 s least most sum (.slice (some ⟨g, 0, none⟩) (m + 1) cap) (m + 1) (ps ++ [x]) :=
  have hs := h.size
  have hd : Bx u (w.heap.size + 1 + 1) 123 (rhC c0 c1 c2 c3 c4 s 1 least most sum pv) := h.hd.of (hg.block _ (by omega) (fun e => h.ne _ (by show w.heap.size + 1 + 1 < _; omega) e.symm))
  have hg2 := grown_set u ⟨w.heap.size + 1 + 1, 10, none⟩ (.slice (some ⟨g, 0, none⟩) (m + 1) cap)
  have hgl := (ho.lt g rfl).1
  ⟨hg2.cell (hg.cell h.info (fun e => h.ne w.heap.size (by omega) e.symm)) (by simp; omega), hd.rh10 _, (h.res.of (hg.block _ (by omega) (fun e => h.ne (w.heap.size + 1) (by omega) e.symm))).of (hg2.block _ (by have := hg.size; omega) (by simp)), ho.kept hg2 (.inr (by simp [Value.ownBlock]; omega)), (h.below.grown hg h.below.size (fun k hk => by have := (h.own.lt k hk).1; omega)).setCell (p := ⟨w.heap.size + 1 + 1, 10, none⟩) (by show w.heap.size ≤ w.heap.size + 1 + 1; omega) _, by have := hg.size; have := hg2.size; omega⟩

set_option maxRecDepth 4000 in
set_option maxHeartbeats 1000000 in
theorem headFor_any (c0 c1 c2 c3 s : Int) (c4 sum : Nat) (a : Option Addr) (k cap : Nat) (ln : Nat → Nat) (w : World) (hk : k ≤ 300) (hc4 : c4 ≤ 255) (hln : ∀ i, i < k → ln i ≤ 222)
    (hI : IntsAt w a k (fun i => (ln i : Int))) (hlow : ∀ x, a = some x → 0 < k → x.block < w.heap.size) :
    Calls Tryz.prog 95 #[.agg #[.int .i64 c0, .int .i64 c1, .int .i64 c2, .int .i64 c3, .int .i64 c4, .int .i64 s], .slice a k cap, .int .i64 sum] w fun e w' =>
      ∃ pv, e = .returned (.agg (rhC c0 c1 c2 c3 c4 s 1 (leastN ln k) (mostN ln k) sum pv)) ∧ w'.ownsRow w.heap.size 3 1 pv (pntN ln c4 k).length (pntV (pntN ln c4 k)) ∧ Below w.heap.size w w' := by
  have HI := Hid.mk' hI
  have HLOW := Hid.mk' hlow
  have HLN := Hid.mk' hln
  have HLB := Hid.mk' (fun i (hi : i ≤ k) => leastN_bd (ln := ln) (m := 222) i (fun j hj => hln j (by omega)))
  have HMB := Hid.mk' (fun i (hi : i ≤ k) => mostN_bd (ln := ln) (m := 222) i (fun j hj => hln j (by omega)))
  have HAB := Hid.mk' (fun i (hi : i ≤ k) => atN_bd (ln := ln) (m := 222) i (fun j hj => hln j (by omega)))
  clear hI hlow hln
  go_enter Tryz.func95, Tryz.ntmps95
  go_wp2
  go_loopw [8, 9] (fun av iv wr => ∃ i : Nat, ∃ pv : Value, i ≤ k ∧ iv = .int .i64 i ∧ av = .int .i64 (atN ln i : Nat) ∧ Hid (RinI w wr c0 c1 c2 c3 c4 s (leastN ln i : Nat) (mostN ln i : Nat) sum pv (pntN ln c4 i).length (pntV (pntN ln c4 i)))) (fun _ iv _ => k - (intOf iv).toNat)
  case atStart =>
    refine ⟨0, .slice none 0 0, Nat.zero_le _, rfl, rfl, ⟨?_, ?_, ?_, World.ownsRow_nil _ _ _ _, (((Below.refl _ _).alloc (Nat.le_refl _) _).alloc (by simp) _).alloc (by simp; omega) _, by simp⟩⟩
    · exact (((Bx.new w _ _).alloc _).alloc _).cell 4
    · exact Bx.new2 (by simp) _ _
    · exact (Bx.new2 (by simp) _ _).alloc _
  case round =>
    obtain ⟨i, pv, hi, rfl, rfl, HR⟩ := hrel
    by_cases hlt : i < k
    · obtain ⟨gi, oi, hAi, hci⟩ := HI.out.open (by omega)
      subst hAi
      have hgl : gi < w.heap.size := HLOW.out _ rfl (by omega)
      have hcv : wr.cell? ⟨gi, oi + i, none⟩ = some (.int .i64 (ln i : Int)) := (HR.out.below.cell (p := ⟨gi, oi + i, none⟩) hgl).trans (hci i hlt)
      obtain ⟨x7, x8, x10, y7, y8, y10⟩ := HR.out.hd.rcells
      have xi := HR.out.info
      have HAT : Hid (atN ln (i + 1) = atN ln i + ln i) := rfl
      have HMO : Hid (((mostN ln (i + 1) : Nat) : Int) = max ((mostN ln i : Nat) : Int) (ln i : Int)) := by show ((max (mostN ln i) (ln i) : Nat) : Int) = _; omega
      have HLE : Hid (leastN ln (i + 1) = if i = 0 ∨ ln i < leastN ln i then ln i else leastN ln i) := rfl
      have HPT : Hid (pntN ln c4 (i + 1) = if 0 < c4 ∧ i % c4 = 0 then pntN ln c4 i ++ [atN ln i] else pntN ln c4 i) := rfl
      have hL := HLN.out i hlt
      have hle := HLB.out i hi
      have hmo := HMB.out i hi
      have hah : atN ln i ≤ 66600 := Nat.le_trans (HAB.out i hi) (by omega)
      have hpl := pntN_len ln c4 i
      generalize pntN ln c4 i = P at *
      generalize leastN ln i = le at *
      generalize mostN ln i = mo at *
      generalize atN ln i = ah at *
      generalize ln i = L at *
      clear hci
      have HNX : Hid (IntKind.i64.wrap ((ah : Int) + (L : Int)) = (ah : Int) + (L : Int)) := by show _ = _; rw [IntKind.wrap_i64]; omega
      by_cases hp : 0 < c4 ∧ i % c4 = 0
      · rw [if_pos hp] at HPT
        have s1 : decide ((0 : Int) < (c4 : Int)) = true := decide_eq_true (by omega)
        have s2 : (0 : Int) < (c4 : Int) := by omega
        have s3 : ¬ (c4 : Int) = 0 := by omega
        have s4 : ¬ c4 = 0 := by omega
        have s5 : ((i : Int)).tmod (c4 : Int) = 0 := by rw [Int.tmod_eq_emod_of_nonneg (by omega)]; have := hp.2; omega
        have s6 : (i : Int) % (c4 : Int) = 0 := by have := hp.2; omega
        clear hp
        obtain ⟨g', c', u', hr, ho, hg⟩ := app_row 29 3 (.int .i64 0) 8 Tryz.underlying29 infoInt rfl wr _ pv _ _ #[.int .i64 (ah : Int)] HR.out.own (by simp) (by intro u hu; simp at hu; rw [hu]; rfl) (by simp only [maxLen]; simp; omega) (by simp; omega) HR.out.size 29
        have hd' := HR.out.hd.of (hg.block _ (by have := HR.out.size; omega) (fun e => HR.out.ne _ (by show w.heap.size + 1 + 1 < _; omega) e.symm))
        obtain ⟨z7, z8, z10, v7, v8, v10⟩ := hd'.rcells
        have zi : u'.cell? ⟨w.heap.size, 4, none⟩ = some (.int .i64 c4) := hg.cell HR.out.info (fun e => HR.out.ne w.heap.size (by omega) e.symm)
        have zv : u'.cell? ⟨gi, oi + i, none⟩ = some (.int .i64 (L : Int)) := hg.cell hcv (fun e => HR.out.ne gi (by omega) e.symm)
        have HAP : Hid (_ = _) := hr
        have HPO := Hid.mk' (HR.out.point ho hg)
        clear hr ho hg hd'
        have FB := Hid.mk' (HPO.out)
        by_cases h0 : i = 0
        · rw [if_pos (.inl h0)] at HLE
          have t0 : ((i : Int) == 0) = true := by simp; omega
          by_cases hm : mo < L
          · rw [show max (mo : Int) (L : Int) = (L : Int) by omega] at HMO
            have HN := Hid.mk' ((FB.out.set 7 _ (FB.out.hd.rh7 (L : Int))).set 8 _ ((FB.out.set 7 _ (FB.out.hd.rh7 (L : Int))).hd.rh8 (L : Int)))
            clear h0
            go_wp2_with (at_builtin; refine wpList_append_rn rfl _ _ _ rfl _ _ _ rfl rfl HAP.out ?_; clear HAP)
            go_region
            go_wp2
            go_region
            go_wp2
            go_roundw
            case rel => exact ⟨i + 1, _, by omega, by go_num, by rw [HAT.out]; go_num, by rw [HLE.out, HMO.out, HPT.out]; first | exact HN.out.like rfl rfl rfl rfl | (rw [List.length_append, pntV_snoc]; exact HN.out.like rfl rfl rfl rfl)⟩
            case measure => simp [intOf]; omega
          · rw [show max (mo : Int) (L : Int) = (mo : Int) by omega] at HMO
            have HN := Hid.mk' (FB.out.set 7 _ (FB.out.hd.rh7 (L : Int)))
            clear h0
            go_wp2_with (at_builtin; refine wpList_append_rn rfl _ _ _ rfl _ _ _ rfl rfl HAP.out ?_; clear HAP)
            go_region
            go_wp2
            go_region
            go_wp2
            go_roundw
            case rel => exact ⟨i + 1, _, by omega, by go_num, by rw [HAT.out]; go_num, by rw [HLE.out, HMO.out, HPT.out]; first | exact HN.out.like rfl rfl rfl rfl | (rw [List.length_append, pntV_snoc]; exact HN.out.like rfl rfl rfl rfl)⟩
            case measure => simp [intOf]; omega
        · have t0 : ((i : Int) == 0) = false := by simp; omega
          by_cases hl : L < le
          · rw [if_pos (.inr hl)] at HLE
            by_cases hm : mo < L
            · rw [show max (mo : Int) (L : Int) = (L : Int) by omega] at HMO
              have HN := Hid.mk' ((FB.out.set 7 _ (FB.out.hd.rh7 (L : Int))).set 8 _ ((FB.out.set 7 _ (FB.out.hd.rh7 (L : Int))).hd.rh8 (L : Int)))
              clear h0
              go_wp2_with (at_builtin; refine wpList_append_rn rfl _ _ _ rfl _ _ _ rfl rfl HAP.out ?_; clear HAP)
              go_region
              go_wp2
              go_region
              go_wp2
              go_roundw
              case rel => exact ⟨i + 1, _, by omega, by go_num, by rw [HAT.out]; go_num, by rw [HLE.out, HMO.out, HPT.out]; first | exact HN.out.like rfl rfl rfl rfl | (rw [List.length_append, pntV_snoc]; exact HN.out.like rfl rfl rfl rfl)⟩
              case measure => simp [intOf]; omega
            · rw [show max (mo : Int) (L : Int) = (mo : Int) by omega] at HMO
              have HN := Hid.mk' (FB.out.set 7 _ (FB.out.hd.rh7 (L : Int)))
              clear h0
              go_wp2_with (at_builtin; refine wpList_append_rn rfl _ _ _ rfl _ _ _ rfl rfl HAP.out ?_; clear HAP)
              go_region
              go_wp2
              go_region
              go_wp2
              go_roundw
              case rel => exact ⟨i + 1, _, by omega, by go_num, by rw [HAT.out]; go_num, by rw [HLE.out, HMO.out, HPT.out]; first | exact HN.out.like rfl rfl rfl rfl | (rw [List.length_append, pntV_snoc]; exact HN.out.like rfl rfl rfl rfl)⟩
              case measure => simp [intOf]; omega
          · rw [if_neg (fun h => h.elim h0 hl)] at HLE
            by_cases hm : mo < L
            · rw [show max (mo : Int) (L : Int) = (L : Int) by omega] at HMO
              have HN := Hid.mk' (FB.out.set 8 _ (FB.out.hd.rh8 (L : Int)))
              clear h0
              go_wp2_with (at_builtin; refine wpList_append_rn rfl _ _ _ rfl _ _ _ rfl rfl HAP.out ?_; clear HAP)
              go_region
              go_wp2
              go_region
              go_wp2
              go_roundw
              case rel => exact ⟨i + 1, _, by omega, by go_num, by rw [HAT.out]; go_num, by rw [HLE.out, HMO.out, HPT.out]; first | exact HN.out.like rfl rfl rfl rfl | (rw [List.length_append, pntV_snoc]; exact HN.out.like rfl rfl rfl rfl)⟩
              case measure => simp [intOf]; omega
            · rw [show max (mo : Int) (L : Int) = (mo : Int) by omega] at HMO
              have HN := Hid.mk' (FB.out)
              clear h0
              go_wp2_with (at_builtin; refine wpList_append_rn rfl _ _ _ rfl _ _ _ rfl rfl HAP.out ?_; clear HAP)
              go_region
              go_wp2
              go_region
              go_wp2
              go_roundw
              case rel => exact ⟨i + 1, _, by omega, by go_num, by rw [HAT.out]; go_num, by rw [HLE.out, HMO.out, HPT.out]; first | exact HN.out.like rfl rfl rfl rfl | (rw [List.length_append, pntV_snoc]; exact HN.out.like rfl rfl rfl rfl)⟩
              case measure => simp [intOf]; omega
      · rw [if_neg hp] at HPT
        by_cases hc : c4 = 0
        · have s1 : decide ((0 : Int) < (c4 : Int)) = false := decide_eq_false (by omega)
          have s2 : ¬ (0 : Int) < (c4 : Int) := by omega
          clear hp hc
          have FB := Hid.mk' (HR.out)
          by_cases h0 : i = 0
          · rw [if_pos (.inl h0)] at HLE
            have t0 : ((i : Int) == 0) = true := by simp; omega
            by_cases hm : mo < L
            · rw [show max (mo : Int) (L : Int) = (L : Int) by omega] at HMO
              have HN := Hid.mk' ((FB.out.set 7 _ (FB.out.hd.rh7 (L : Int))).set 8 _ ((FB.out.set 7 _ (FB.out.hd.rh7 (L : Int))).hd.rh8 (L : Int)))
              clear h0
              go_wp2_with (at_builtin; refine wpList_append_rn rfl _ _ _ rfl _ _ _ rfl rfl HAP.out ?_; clear HAP)
              go_region
              go_wp2
              go_region
              go_wp2
              go_roundw
              case rel => exact ⟨i + 1, _, by omega, by go_num, by rw [HAT.out]; go_num, by rw [HLE.out, HMO.out, HPT.out]; first | exact HN.out.like rfl rfl rfl rfl | (rw [List.length_append, pntV_snoc]; exact HN.out.like rfl rfl rfl rfl)⟩
              case measure => simp [intOf]; omega
            · rw [show max (mo : Int) (L : Int) = (mo : Int) by omega] at HMO
              have HN := Hid.mk' (FB.out.set 7 _ (FB.out.hd.rh7 (L : Int)))
              clear h0
              go_wp2_with (at_builtin; refine wpList_append_rn rfl _ _ _ rfl _ _ _ rfl rfl HAP.out ?_; clear HAP)
              go_region
              go_wp2
              go_region
              go_wp2
              go_roundw
              case rel => exact ⟨i + 1, _, by omega, by go_num, by rw [HAT.out]; go_num, by rw [HLE.out, HMO.out, HPT.out]; first | exact HN.out.like rfl rfl rfl rfl | (rw [List.length_append, pntV_snoc]; exact HN.out.like rfl rfl rfl rfl)⟩
              case measure => simp [intOf]; omega
          · have t0 : ((i : Int) == 0) = false := by simp; omega
            by_cases hl : L < le
            · rw [if_pos (.inr hl)] at HLE
              by_cases hm : mo < L
              · rw [show max (mo : Int) (L : Int) = (L : Int) by omega] at HMO
                have HN := Hid.mk' ((FB.out.set 7 _ (FB.out.hd.rh7 (L : Int))).set 8 _ ((FB.out.set 7 _ (FB.out.hd.rh7 (L : Int))).hd.rh8 (L : Int)))
                clear h0
                go_wp2_with (at_builtin; refine wpList_append_rn rfl _ _ _ rfl _ _ _ rfl rfl HAP.out ?_; clear HAP)
                go_region
                go_wp2
                go_region
                go_wp2
                go_roundw
                case rel => exact ⟨i + 1, _, by omega, by go_num, by rw [HAT.out]; go_num, by rw [HLE.out, HMO.out, HPT.out]; first | exact HN.out.like rfl rfl rfl rfl | (rw [List.length_append, pntV_snoc]; exact HN.out.like rfl rfl rfl rfl)⟩
                case measure => simp [intOf]; omega
              · rw [show max (mo : Int) (L : Int) = (mo : Int) by omega] at HMO
                have HN := Hid.mk' (FB.out.set 7 _ (FB.out.hd.rh7 (L : Int)))
                clear h0
                go_wp2_with (at_builtin; refine wpList_append_rn rfl _ _ _ rfl _ _ _ rfl rfl HAP.out ?_; clear HAP)
                go_region
                go_wp2
                go_region
                go_wp2
                go_roundw
                case rel => exact ⟨i + 1, _, by omega, by go_num, by rw [HAT.out]; go_num, by rw [HLE.out, HMO.out, HPT.out]; first | exact HN.out.like rfl rfl rfl rfl | (rw [List.length_append, pntV_snoc]; exact HN.out.like rfl rfl rfl rfl)⟩
                case measure => simp [intOf]; omega
            · rw [if_neg (fun h => h.elim h0 hl)] at HLE
              by_cases hm : mo < L
              · rw [show max (mo : Int) (L : Int) = (L : Int) by omega] at HMO
                have HN := Hid.mk' (FB.out.set 8 _ (FB.out.hd.rh8 (L : Int)))
                clear h0
                go_wp2_with (at_builtin; refine wpList_append_rn rfl _ _ _ rfl _ _ _ rfl rfl HAP.out ?_; clear HAP)
                go_region
                go_wp2
                go_region
                go_wp2
                go_roundw
                case rel => exact ⟨i + 1, _, by omega, by go_num, by rw [HAT.out]; go_num, by rw [HLE.out, HMO.out, HPT.out]; first | exact HN.out.like rfl rfl rfl rfl | (rw [List.length_append, pntV_snoc]; exact HN.out.like rfl rfl rfl rfl)⟩
                case measure => simp [intOf]; omega
              · rw [show max (mo : Int) (L : Int) = (mo : Int) by omega] at HMO
                have HN := Hid.mk' (FB.out)
                clear h0
                go_wp2_with (at_builtin; refine wpList_append_rn rfl _ _ _ rfl _ _ _ rfl rfl HAP.out ?_; clear HAP)
                go_region
                go_wp2
                go_region
                go_wp2
                go_roundw
                case rel => exact ⟨i + 1, _, by omega, by go_num, by rw [HAT.out]; go_num, by rw [HLE.out, HMO.out, HPT.out]; first | exact HN.out.like rfl rfl rfl rfl | (rw [List.length_append, pntV_snoc]; exact HN.out.like rfl rfl rfl rfl)⟩
                case measure => simp [intOf]; omega
        · have s1 : decide ((0 : Int) < (c4 : Int)) = true := decide_eq_true (by omega)
          have s2 : (0 : Int) < (c4 : Int) := by omega
          have s3 : ¬ (c4 : Int) = 0 := by omega
          have hr : ¬ i % c4 = 0 := fun e => hp ⟨by omega, e⟩
          have e6 : (i : Int) % (c4 : Int) = ((i % c4 : Nat) : Int) := rfl
          have s5 : ((i : Int).tmod (c4 : Int) == 0) = false := by rw [Int.tmod_eq_emod_of_nonneg (by omega), e6]; simp; omega
          have s6 : ((i : Int) % (c4 : Int) == 0) = false := by rw [e6]; simp; omega
          have s7 : ¬ (i : Int).tmod (c4 : Int) = 0 := by rw [Int.tmod_eq_emod_of_nonneg (by omega), e6]; omega
          clear hp hr e6
          have FB := Hid.mk' (HR.out)
          by_cases h0 : i = 0
          · rw [if_pos (.inl h0)] at HLE
            have t0 : ((i : Int) == 0) = true := by simp; omega
            by_cases hm : mo < L
            · rw [show max (mo : Int) (L : Int) = (L : Int) by omega] at HMO
              have HN := Hid.mk' ((FB.out.set 7 _ (FB.out.hd.rh7 (L : Int))).set 8 _ ((FB.out.set 7 _ (FB.out.hd.rh7 (L : Int))).hd.rh8 (L : Int)))
              clear h0
              go_wp2_with (at_builtin; refine wpList_append_rn rfl _ _ _ rfl _ _ _ rfl rfl HAP.out ?_; clear HAP)
              go_region
              go_wp2
              go_region
              go_wp2
              go_roundw
              case rel => exact ⟨i + 1, _, by omega, by go_num, by rw [HAT.out]; go_num, by rw [HLE.out, HMO.out, HPT.out]; first | exact HN.out.like rfl rfl rfl rfl | (rw [List.length_append, pntV_snoc]; exact HN.out.like rfl rfl rfl rfl)⟩
              case measure => simp [intOf]; omega
            · rw [show max (mo : Int) (L : Int) = (mo : Int) by omega] at HMO
              have HN := Hid.mk' (FB.out.set 7 _ (FB.out.hd.rh7 (L : Int)))
              clear h0
              go_wp2_with (at_builtin; refine wpList_append_rn rfl _ _ _ rfl _ _ _ rfl rfl HAP.out ?_; clear HAP)
              go_region
              go_wp2
              go_region
              go_wp2
              go_roundw
              case rel => exact ⟨i + 1, _, by omega, by go_num, by rw [HAT.out]; go_num, by rw [HLE.out, HMO.out, HPT.out]; first | exact HN.out.like rfl rfl rfl rfl | (rw [List.length_append, pntV_snoc]; exact HN.out.like rfl rfl rfl rfl)⟩
              case measure => simp [intOf]; omega
          · have t0 : ((i : Int) == 0) = false := by simp; omega
            by_cases hl : L < le
            · rw [if_pos (.inr hl)] at HLE
              by_cases hm : mo < L
              · rw [show max (mo : Int) (L : Int) = (L : Int) by omega] at HMO
                have HN := Hid.mk' ((FB.out.set 7 _ (FB.out.hd.rh7 (L : Int))).set 8 _ ((FB.out.set 7 _ (FB.out.hd.rh7 (L : Int))).hd.rh8 (L : Int)))
                clear h0
                go_wp2_with (at_builtin; refine wpList_append_rn rfl _ _ _ rfl _ _ _ rfl rfl HAP.out ?_; clear HAP)
                go_region
                go_wp2
                go_region
                go_wp2
                go_roundw
                case rel => exact ⟨i + 1, _, by omega, by go_num, by rw [HAT.out]; go_num, by rw [HLE.out, HMO.out, HPT.out]; first | exact HN.out.like rfl rfl rfl rfl | (rw [List.length_append, pntV_snoc]; exact HN.out.like rfl rfl rfl rfl)⟩
                case measure => simp [intOf]; omega
              · rw [show max (mo : Int) (L : Int) = (mo : Int) by omega] at HMO
                have HN := Hid.mk' (FB.out.set 7 _ (FB.out.hd.rh7 (L : Int)))
                clear h0
                go_wp2_with (at_builtin; refine wpList_append_rn rfl _ _ _ rfl _ _ _ rfl rfl HAP.out ?_; clear HAP)
                go_region
                go_wp2
                go_region
                go_wp2
                go_roundw
                case rel => exact ⟨i + 1, _, by omega, by go_num, by rw [HAT.out]; go_num, by rw [HLE.out, HMO.out, HPT.out]; first | exact HN.out.like rfl rfl rfl rfl | (rw [List.length_append, pntV_snoc]; exact HN.out.like rfl rfl rfl rfl)⟩
                case measure => simp [intOf]; omega
            · rw [if_neg (fun h => h.elim h0 hl)] at HLE
              by_cases hm : mo < L
              · rw [show max (mo : Int) (L : Int) = (L : Int) by omega] at HMO
                have HN := Hid.mk' (FB.out.set 8 _ (FB.out.hd.rh8 (L : Int)))
                clear h0
                go_wp2_with (at_builtin; refine wpList_append_rn rfl _ _ _ rfl _ _ _ rfl rfl HAP.out ?_; clear HAP)
                go_region
                go_wp2
                go_region
                go_wp2
                go_roundw
                case rel => exact ⟨i + 1, _, by omega, by go_num, by rw [HAT.out]; go_num, by rw [HLE.out, HMO.out, HPT.out]; first | exact HN.out.like rfl rfl rfl rfl | (rw [List.length_append, pntV_snoc]; exact HN.out.like rfl rfl rfl rfl)⟩
                case measure => simp [intOf]; omega
              · rw [show max (mo : Int) (L : Int) = (mo : Int) by omega] at HMO
                have HN := Hid.mk' (FB.out)
                clear h0
                go_wp2_with (at_builtin; refine wpList_append_rn rfl _ _ _ rfl _ _ _ rfl rfl HAP.out ?_; clear HAP)
                go_region
                go_wp2
                go_region
                go_wp2
                go_roundw
                case rel => exact ⟨i + 1, _, by omega, by go_num, by rw [HAT.out]; go_num, by rw [HLE.out, HMO.out, HPT.out]; first | exact HN.out.like rfl rfl rfl rfl | (rw [List.length_append, pntV_snoc]; exact HN.out.like rfl rfl rfl rfl)⟩
                case measure => simp [intOf]; omega
    · have e : i = k := by omega
      subst e
      have H1 : Hid ((rhC c0 c1 c2 c3 c4 s 1 (leastN ln i : Nat) (mostN ln i : Nat) sum pv).toList.all (·.oneCell') = true) := by
        rcases HR.out.own.2 with ⟨e, -⟩ | ⟨g, c, cur, e, -⟩ <;> (show _ = _; rw [e]; rfl)
      go_wp2_with (first | (refine wpList_loadRow rfl _ 123 rfl _ _ _ _ _ rfl HR.out.hd Tryz.underlying123 rfl infoRHead ?_) | (refine wpList_storeRow rfl _ _ 123 rfl (w.heap.size + 1) 123 _ _ rfl rfl HR.out.res infoRHead rfl H1.out ?_))
      exact bodyPost_ret (res_rin _ (w.heap.size + 1) (rhC c0 c1 c2 c3 c4 s 1 (leastN ln i : Nat) (mostN ln i : Nat) sum pv) _ (HR.out.res.row _) rfl rfl) rfl ⟨pv, rfl, owns_mono (HR.out.own.kept (grown_row wr (w.heap.size + 1) _) (.inr (HR.out.ne (w.heap.size + 1) (by omega)))) (by omega), below_setRow HR.out.below (by omega) _⟩
end Go.Proofs.YtlncjgnomhpjnaaGreatDoor

