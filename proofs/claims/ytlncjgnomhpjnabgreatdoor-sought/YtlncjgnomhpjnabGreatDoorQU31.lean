import Derived.Test.YtlncjgnomhpjnabGreatDoorQU28
import Derived.Test.YtlncjgnomhpjnabGreatDoorQU30
import Derived.Deep.DeepCutAuto
import Derived.Deep.RegionHeld3
import Derived.Test.YtlncjgnomhpjnabGreatDoorQU24
/-
  What 'reelkeep' makes of its arguments: sounded.
-/
namespace Go.Proofs.YtlncjgnomhpjnabGreatDoor
open Go.RowKit Go.Deep
set_option linter.unusedVariables false
/-- lists that were appended, one after the other -/
structure AccI (base : Nat) (u : World) (lv : Value) (nn i : Nat) (gs : Nat → Nat) (G : Nat → Nat → Int) : Prop where
  own : u.ownsRow base 30 1 lv i (rowL nn gs i)
  rows : ∀ k, k < i → u.rowIs (gs k) 3 nn (cutV nn (G k))
  far : ∀ k, k < i → base ≤ gs k
  apart : ∀ k l, k < i → l < i → k ≠ l → gs k ≠ gs l
theorem AccI.next {base : Nat} {u u' : World} {lv : Value} {nn i : Nat} {gs : Nat → Nat} {G : Nat → Nat → Int} (h : AccI base u lv nn i gs G) (hb : Below u.heap.size u u') : AccI base u' lv nn i gs G :=
  ⟨h.own.kept ⟨hb.os, hb.tape, hb.output, hb.size, fun j hj _ => hb.block j hj⟩ (Classical.em _), fun k hk => row_below (h.rows k hk) hb, h.far, h.apart⟩
theorem AccI.start (base : Nat) (u : World) (nn : Nat) (gs : Nat → Nat) (G : Nat → Nat → Int) : AccI base u (.slice none 0 0) nn 0 gs G :=
  ⟨World.ownsRow_nil _ _ _ _, fun k hk => absurd hk (Nat.not_lt_zero k), fun k hk => absurd hk (Nat.not_lt_zero k), fun k l hk => absurd hk (Nat.not_lt_zero k)⟩
theorem AccI.mono {base base' : Nat} {u : World} {lv : Value} {nn i : Nat} {gs : Nat → Nat} {G : Nat → Nat → Int} (h : AccI base u lv nn i gs G) (hb : base' ≤ base) : AccI base' u lv nn i gs G :=
  ⟨own_mono h.own hb, h.rows, fun k hk => Nat.le_trans hb (h.far k hk), h.apart⟩
/-- another block, the row's apart, changes -/
theorem AccI.put {base : Nat} {u : World} {lv : Value} {nn i : Nat} {gs : Nat → Nat} {G : Nat → Nat → Int} (h : AccI base u lv nn i gs G) {a : Addr} (v : Value) (h1 : lv.ownBlock ≠ some a.block) (h2 : ∀ k, k < i → gs k ≠ a.block) : AccI base (u.setCell a v) lv nn i gs G :=
  ⟨h.own.kept (grown_set u a v) (.inr h1), fun k hk => (h.rows k hk).setOther (h2 k hk) v, h.far, h.apart⟩
theorem AccI.more {base : Nat} {u u' : World} {lv lv' : Value} {nn i g : Nat} {gs : Nat → Nat} {G : Nat → Nat → Int} {x : Nat → Int} (h : AccI base u lv nn i gs G) (hrow : u.rowIs g 3 nn (cutV nn x)) (hg : base ≤ g) (hnew : ∀ k, k < i → gs k ≠ g)
    (ho : u'.ownsRow base 30 1 lv' (i + 1) (rowL nn gs i ++ [Value.slice (some ⟨g, 0, none⟩) nn nn])) (hgr : u.grownBy u' lv.ownBlock) : AccI base u' lv' nn (i + 1) (updN gs i g) (upd2 G i x) :=
  have keep : ∀ {k : Nat} {f : Nat → Value}, u.rowIs k 3 nn f → u'.rowIs k 3 nn f := fun {k f} hk => by
    obtain ⟨c0, h1, h2⟩ := hk
    refine ⟨c0, (hgr.block k (Array.getElem?_eq_some_iff.1 h1).1 ?_).trans h1, h2⟩
    intro e
    rcases h.own.2 with ⟨rfl, -⟩ | ⟨g2, cap2, cur2, rfl, -, h5, -⟩
    · simp [Value.ownBlock] at e
    · simp [Value.ownBlock] at e
      subst e
      rw [h1] at h5
      injection h5 with h5
      injection h5 with _ h6
      exact absurd h6 (by decide)
  ⟨by rw [rowL_snoc]; exact ho,
   fun k hk => by
     unfold updN upd2
     by_cases e : k = i
     · rw [if_pos e, if_pos e]; exact keep hrow
     · rw [if_neg e, if_neg e]; exact keep (h.rows k (by omega)),
   fun k hk => by
     unfold updN
     by_cases e : k = i
     · rw [if_pos e]; exact hg
     · rw [if_neg e]; exact h.far k (by omega),
   fun k l hk hl hkl => by
     unfold updN
     by_cases e : k = i
     · rw [if_pos e, if_neg (by omega)]; exact Ne.symm (hnew l (by omega))
     · rw [if_neg e]
       by_cases e2 : l = i
       · rw [if_pos e2]; exact hnew k (by omega)
       · rw [if_neg e2]; exact h.apart k l (by omega) (by omega) hkl⟩
/-- the sound that 'sounded' makes -/
def sndN (n : Nat) (L : Nat → Nat) : Nat := if 0 < n then min 300 (L 0) else 0
def sndF (d n : Nat) (L : Nat → Nat) (F : Nat → Nat → Int) (i j : Nat) : Int := if i < n ∧ j < L i then smpK d (F i j) else 0
theorem sndF_fits (d n : Nat) (L : Nat → Nat) (F : Nat → Nat → Int) (i j : Nat) : fitsB d (sndF d n L F i j) = true := by
  unfold sndF
  by_cases h : i < n ∧ j < L i
  · rw [if_pos h]; exact smpK_fits _ _
  · rw [if_neg h]
    unfold fitsB
    rw [within_iff]
    have hp := Nat.two_pow_pos (d - 1)
    have e : (2 : Int) ^ (d - 1) = ((2 ^ (d - 1) : Nat) : Int) := by rw [Int.natCast_pow]; rfl
    omega
set_option maxRecDepth 4000 in
set_option maxHeartbeats 2000000 in
theorem sounded_any (c2 c3 c4 c5 c6 c7 : Int) (ch d : Nat) (a : Option Addr) (n cap : Nat) (A : Nat → Option Addr) (L C : Nat → Nat) (F : Nat → Nat → Int) (w : World) (hc4 : ch ≤ 4) (hd1 : 4 ≤ d) (hd : d ≤ 12) (hn : n ≤ 17592186044416) (hL : ∀ i, i < n → L i ≤ 17592186044416)
    (hA : ListsAt w a n A L C) (hI : ∀ i, i < n → IntsAt w (A i) (L i) (F i)) (hF : ∀ i, i < n → ∀ j, j < L i → -9223372036854775808 ≤ F i j ∧ F i j ≤ 9223372036854775807) (hlow : Low w.heap.size a n A L) :
    Calls Tryz.prog 10 #[.agg #[.int .i64 ch, .int .i64 d, .int .i64 c2, .int .i64 c3, .int .i64 c4, .int .i64 c5, .int .i64 c6, .int .i64 c7], .slice a n cap] w fun e w' => ∃ lv gs G, e = .returned lv ∧ AccI w.heap.size w' lv (sndN n L) ch gs G ∧ (∀ i, i < ch → ∀ j, j < sndN n L → G i j = sndF d n L F i j) ∧ Below w.heap.size w w' := by
  have HU := Hid.mk' (show Bx (w.alloc (.cells #[.int .i64 ch, .int .i64 d, .int .i64 c2, .int .i64 c3, .int .i64 c4, .int .i64 c5, .int .i64 c6, .int .i64 c7] 23)) w.heap.size 23 #[.int .i64 ch, .int .i64 d, .int .i64 c2, .int .i64 c3, .int .i64 c4, .int .i64 c5, .int .i64 c6, .int .i64 c7] from Bx.new _ _ _)
  have HB0 : Hid (Below w.heap.size w (w.alloc (.cells #[.int .i64 ch, .int .i64 d, .int .i64 c2, .int .i64 c3, .int .i64 c4, .int .i64 c5, .int .i64 c6, .int .i64 c7] 23))) := (Below.refl _ _).alloc (Nat.le_refl _) _
  have HA := Hid.mk' hA
  have HI := Hid.mk' hI
  have HLOW := Hid.mk' hlow
  have HF := Hid.mk' hF
  have HL := Hid.mk' hL
  clear hA hI hlow hF hL
  obtain ⟨S, hS⟩ : ∃ S, S = sndN n L := ⟨_, rfl⟩
  rw [← hS]
  have hS3 : S ≤ 300 := by rw [hS]; unfold sndN; split <;> omega
  have HS := Hid.mk' hS
  clear hS
  go_enter Tryz.func10, Tryz.ntmps10
  go_upto_if 12 with fail
  go_cut [5] (fun s wx => s = .int .i64 ((if 0 < n then L 0 else 0 : Nat) : Int) ∧ wx = w.alloc (.cells #[.int .i64 ch, .int .i64 d, .int .i64 c2, .int .i64 c3, .int .i64 c4, .int .i64 c5, .int .i64 c6, .int .i64 c7] 23))
  case first =>
    by_cases h0 : 0 < n
    · obtain ⟨b, off, rfl, hc⟩ := HA.out.open h0
      have hc0 : (w.alloc (.cells #[.int .i64 ch, .int .i64 d, .int .i64 c2, .int .i64 c3, .int .i64 c4, .int .i64 c5, .int .i64 c6, .int .i64 c7] 23)).cell? ⟨b, off, none⟩ = some (.slice (A 0) (L 0) (C 0)) := (HB0.out.cell (p := ⟨b, off, none⟩) (HLOW.out.1 _ rfl h0)).trans (hc 0 h0)
      have hL0 := HL.out 0 h0
      clear hc
      go_wp2_with fail
      go_meet
      case rel => exact ⟨by rw [if_pos h0], rfl⟩
    · have e : n = 0 := by omega
      subst e
      go_wp2_with fail
      go_meet
      case rel => exact ⟨rfl, rfl⟩
  case rest =>
    obtain ⟨rfl, hwx⟩ := hcut
    subst hwx
    have HS2 : Hid (S = min 300 (if 0 < n then L 0 else 0)) := by
      show _ = _
      rw [HS.out]
      unfold sndN
      split <;> omega
    have hbn : (if 0 < n then L 0 else 0 : Nat) ≤ 17592186044416 := by
      split
      · exact HL.out 0 (by assumption)
      · omega
    generalize (if 0 < n then L 0 else 0 : Nat) = n1 at *
    go_upto_if 18 with fail
    go_cut [5] (fun s wx => s = .int .i64 S ∧ wx = w.alloc (.cells #[.int .i64 ch, .int .i64 d, .int .i64 c2, .int .i64 c3, .int .i64 c4, .int .i64 c5, .int .i64 c6, .int .i64 c7] 23))
    case first =>
      have hs := HS2.out
      by_cases h0 : 300 < n1
      · go_wp2_with fail
        go_meet
        case rel => exact ⟨by rw [hs]; congr 1; omega, rfl⟩
      · go_wp2_with fail
        go_meet
        case rel => exact ⟨by rw [hs]; congr 1; omega, rfl⟩
    case rest =>
      obtain ⟨rfl, hwx⟩ := hcut
      subst hwx
      have hmk := run_make_row' (P := Tryz.prog) 30 3 (.int .i64 0) 8 Tryz.underlying30 infoInt rfl .i64 .i64 S (by omega) (by omega)
      go_wp2_with fail
      go_loopw [6, 7, 8, 9] (fun ov iv _ _ wr => ∃ (i : Nat) (lv : Value) (gs : Nat → Nat) (G : Nat → Nat → Int), i ≤ ch ∧ iv = .int .i64 i ∧ ov = lv ∧ Hid (AccI (w.heap.size + 1) wr lv S i gs G ∧ (∀ k, k < i → ∀ j, j < S → G k j = sndF d n L F k j) ∧ Bx wr w.heap.size 23 #[.int .i64 ch, .int .i64 d, .int .i64 c2, .int .i64 c3, .int .i64 c4, .int .i64 c5, .int .i64 c6, .int .i64 c7] ∧ Below w.heap.size w wr)) (fun _ iv _ _ _ => ch - (intOf iv).toNat)
      case atStart => exact ⟨0, .slice none 0 0, fun _ => 0, fun _ _ => 0, Nat.zero_le _, rfl, rfl, AccI.start _ _ _ _ _, fun k hk => absurd hk (Nat.not_lt_zero k), HU.out, HB0.out⟩
      case round =>
        obtain ⟨i, lv, gs, G, hi, rfl, e, HR⟩ := hrel
        subst e
        have x0 := HR.out.2.2.1.cell 0
        obtain ⟨al, cl, hlv⟩ := own_form HR.out.1.own
        subst hlv
        by_cases hlt : i < ch
        · obtain ⟨wo, hwo⟩ : ∃ x, x = wr := ⟨_, rfl⟩
          subst hwo
          go_wp2_with fail
          go_loopw [9] (fun jv wr => ∃ j : Nat, j ≤ S ∧ jv = .int .i64 j ∧ Hid (wr.rowIs wo.heap.size 3 S (cutV j (sndF d n L F i)) ∧ AccI (w.heap.size + 1) wr (.slice al i cl) S i gs G ∧ Bx wr w.heap.size 23 #[.int .i64 ch, .int .i64 d, .int .i64 c2, .int .i64 c3, .int .i64 c4, .int .i64 c5, .int .i64 c6, .int .i64 c7] ∧ Below w.heap.size w wr)) (fun jv _ => S - (intOf jv).toNat)
          case atStart => exact ⟨0, Nat.zero_le _, rfl, (World.rowIs_made wo (.int .i64 0) S 3).congr (fun q _ => by unfold cutV cutI; rw [if_neg (Nat.not_lt_zero q)]), HR.out.1.next ((Below.refl _ _).alloc (Nat.le_refl _) _), HR.out.2.2.1.alloc _, HR.out.2.2.2.alloc HR.out.2.2.2.size _⟩
          case round =>
            obtain ⟨j, hj, rfl, HJ⟩ := hrel
            by_cases hjl : j < S
            · by_cases hin : i < n ∧ j < L i
              · obtain ⟨hi1, hj1⟩ := hin
                obtain ⟨b, off, ha, hc⟩ := HA.out.open (Nat.lt_of_le_of_lt (Nat.zero_le _) hi1)
                have hcl : wr.cell? ⟨b, off + i, none⟩ = some (.slice (A i) (L i) (C i)) := (HJ.out.2.2.2.cell (p := ⟨b, off + i, none⟩) (show b < w.heap.size from HLOW.out.1 _ ha (by omega))).trans (hc i hi1)
                obtain ⟨b2, o2, ha2, hc2⟩ := (HI.out i hi1).open (Nat.lt_of_le_of_lt (Nat.zero_le _) hj1)
                have hcv : wr.cell? ⟨b2, o2 + j, none⟩ = some (.int .i64 (F i j)) := (HJ.out.2.2.2.cell (p := ⟨b2, o2 + j, none⟩) (show b2 < w.heap.size from HLOW.out.2 i hi1 _ ha2 (by omega))).trans (hc2 j hj1)
                rw [ha2] at hcl
                clear hc hc2
                have hLi := HL.out i hi1
                have HSP := Hid.mk' (fun u => sample_keep (F i j) d u hd1 hd (HF.out i hi1 j hj1))
                have xd := HJ.out.2.2.1.cell 1
                have xj := HJ.out.1.cell hjl
                have fj := HJ.out.1.frozen j
                have HX : Hid (sndF d n L F i j = smpK d (F i j)) := by show _ = _; unfold sndF; rw [if_pos ⟨hi1, hj1⟩]
                have hne : b ≠ wo.heap.size ∧ b2 ≠ wo.heap.size ∧ w.heap.size ≠ wo.heap.size := by
                  have h1 : b < w.heap.size := HLOW.out.1 _ ha (by omega)
                  have h2 : b2 < w.heap.size := HLOW.out.2 i hi1 _ ha2 (by omega)
                  have h3 := HR.out.2.2.1.lt
                  omega
                have hold : ∃ old, cutV j (sndF d n L F i) j = old := ⟨_, rfl⟩
                obtain ⟨old, hold⟩ := hold
                rw [hold] at xj
                clear hold
                subst ha
                obtain ⟨Li, hLi0⟩ : ∃ x, L i = x := ⟨_, rfl⟩
                obtain ⟨Ci, hCi0⟩ : ∃ x, C i = x := ⟨_, rfl⟩
                obtain ⟨v, hv0⟩ : ∃ x, F i j = x := ⟨_, rfl⟩
                rw [hLi0, hCi0] at hcl
                rw [hLi0] at hLi hj1
                rw [hv0] at hcv HSP HX
                clear hLi0 hCi0 hv0
                have hS0 : wr.drew.cell? ⟨b, off + i, none⟩ = some (.slice (some ⟨b2, o2, none⟩) Li Ci) ∧ wr.drew.cell? ⟨b2, o2 + j, none⟩ = some (.int .i64 v) ∧ wr.drew.cell? ⟨w.heap.size, 1, none⟩ = some (.int .i64 d) := ⟨hcl, hcv, xd⟩
                have hS1 : ∀ x, (wr.setCell ⟨wo.heap.size, j, none⟩ x).drew.cell? ⟨b, off + i, none⟩ = some (.slice (some ⟨b2, o2, none⟩) Li Ci) ∧ (wr.setCell ⟨wo.heap.size, j, none⟩ x).drew.cell? ⟨b2, o2 + j, none⟩ = some (.int .i64 v) ∧ (wr.setCell ⟨wo.heap.size, j, none⟩ x).drew.cell? ⟨w.heap.size, 1, none⟩ = some (.int .i64 d) := fun x => ⟨((grown_set wr _ x).cell hcl (fun e => hne.1 (by injection e))), ((grown_set wr _ x).cell hcv (fun e => hne.2.1 (by injection e))), ((grown_set wr _ x).cell xd (fun e => hne.2.2 (by injection e)))⟩
                have HST := Hid.mk' (HJ.out.1.set j (.int .i64 (sndF d n L F i j)))
                rw [HX.out] at HST
                go_wp2_with fail
                go_region_held3 (fun w' => w'.cell? ⟨b, off + i, none⟩ = some (.slice (some ⟨b2, o2, none⟩) Li Ci) ∧ w'.cell? ⟨b2, o2 + j, none⟩ = some (.int .i64 v) ∧ w'.cell? ⟨w.heap.size, 1, none⟩ = some (.int .i64 d))
                  (first | with_reducible exact hS0 | with_reducible exact hS1 _)
                  (first
                  | (go_at_call 32; refine (HSP.out _).mono ?_; rintro e u1 ⟨rfl, hw⟩; subst hw; clear HSP))
                have hb1 : Below w.heap.size w (wr.setCell ⟨wo.heap.size, j, none⟩ (.int .i64 (smpK d v))) := HJ.out.2.2.2.setCell (by have := HR.out.2.2.1.lt; show w.heap.size ≤ wo.heap.size; omega) _
                have HB1 := Hid.mk' hb1.drew
                have HX1 : Hid (Bx (wr.setCell ⟨wo.heap.size, j, none⟩ (.int .i64 (smpK d v))) w.heap.size 23 #[.int .i64 ch, .int .i64 d, .int .i64 c2, .int .i64 c3, .int .i64 c4, .int .i64 c5, .int .i64 c6, .int .i64 c7]) := HJ.out.2.2.1.of (blk_setCell_other _ _ _ _ hne.2.2)
                have HA1 := Hid.mk' ((HJ.out.2.1.put (a := ⟨wo.heap.size, j, none⟩) (.int .i64 (smpK d v)) (fun e => by have := (HR.out.1.own.lt _ e).2; exact Nat.lt_irrefl _ this) (fun k hk e => by have h1 := (HR.out.1.rows k hk).lt; have e' : gs k = wo.heap.size := e; omega)).next (Below.refl _ _).drew)
                have HR1 := Hid.mk' (cutV_step HX.out.symm HST.out)
                clear hb1 hS0 hS1
                go_wp2_with fail
                go_roundw
                case rel => exact ⟨j + 1, by omega, by go_num, HR1.out, HA1.out, HX1.out, HB1.out⟩
                case measure => simp [intOf]; omega
              · have HX : Hid (sndF d n L F i j = 0) := by show _ = _; unfold sndF; rw [if_neg hin]
                have HR1 : Hid (wr.rowIs wo.heap.size 3 S (cutV (j + 1) (sndF d n L F i))) := HJ.out.1.congr fun q _ => by
                  unfold cutV cutI
                  by_cases e : q = j
                  · rw [e, if_neg (by omega), if_pos (by omega), HX.out]
                  · by_cases e2 : q < j
                    · rw [if_pos e2, if_pos (by omega)]
                    · rw [if_neg e2, if_neg (by omega)]
                by_cases hi1 : i < n
                · have hj1 : ¬ j < L i := fun h => hin ⟨hi1, h⟩
                  obtain ⟨b, off, ha, hc⟩ := HA.out.open (Nat.lt_of_le_of_lt (Nat.zero_le _) hi1)
                  have hcl : wr.cell? ⟨b, off + i, none⟩ = some (.slice (A i) (L i) (C i)) := (HJ.out.2.2.2.cell (p := ⟨b, off + i, none⟩) (show b < w.heap.size from HLOW.out.1 _ ha (by omega))).trans (hc i hi1)
                  have hLi := HL.out i hi1
                  have hd1 : decide (j < L i) = false := decide_eq_false hj1
                  have hd2 : decide ((j : Int) < (L i : Int)) = false := decide_eq_false (by omega)
                  clear hc hin
                  subst ha
                  go_wp2_with fail
                  go_roundw
                  case rel => exact ⟨j + 1, by omega, by go_num, HR1.out, HJ.out.2.1, HJ.out.2.2.1, HJ.out.2.2.2⟩
                  case measure => simp [intOf]; omega
                · have hd1 : decide (i < n) = false := decide_eq_false hi1
                  have hd2 : decide ((i : Int) < (n : Int)) = false := decide_eq_false (by omega)
                  clear hin
                  go_wp2_with fail
                  go_roundw
                  case rel => exact ⟨j + 1, by omega, by go_num, HR1.out, HJ.out.2.1, HJ.out.2.2.1, HJ.out.2.2.2⟩
                  case measure => simp [intOf]; omega
            · have e : j = S := by omega
              subst e
              have hA2 := HJ.out.2.1
              obtain ⟨g', c', u3, hr, ho, hgr⟩ := app_row 24 30 (.slice none 0 0) 24 Tryz.underlying24 infoInts rfl wr _ (.slice al i cl) i _ #[.slice (some ⟨wo.heap.size, 0, none⟩) j j] hA2.own (by simp) (by intro u hu; simp at hu; rw [hu]; rfl) (by simp only [maxLen]; simp; omega) (by simp; omega) (by have := HJ.out.2.2.1.lt; omega) 24
              have HA3 := Hid.mk' (hA2.more HJ.out.1 (by have := HR.out.2.2.1.lt; omega) (fun k hk e => by have := (HR.out.1.rows k hk).lt; omega) ho hgr)
              have HC3 : Hid (Bx u3 w.heap.size 23 #[.int .i64 ch, .int .i64 d, .int .i64 c2, .int .i64 c3, .int .i64 c4, .int .i64 c5, .int .i64 c6, .int .i64 c7]) := HJ.out.2.2.1.of (hgr.block _ HJ.out.2.2.1.lt (fun e => by have := (hA2.own.lt _ e.symm).1; omega))
              have HB3 : Hid (Below w.heap.size w u3) := HJ.out.2.2.2.grown hgr HJ.out.2.2.2.size (fun q hq => by have := (hA2.own.lt q hq).1; omega)
              have HG3 : Hid (∀ k, k < i + 1 → ∀ q, q < j → upd2 G i (sndF d n L F i) k q = sndF d n L F k q) := fun k hk q hq => by
                unfold upd2
                by_cases e : k = i
                · rw [if_pos e, e]
                · rw [if_neg e]; exact HR.out.2.1 k (by omega) q hq
              have HAP : Hid (_ = _) := hr
              clear hA2 hr ho hgr
              go_wp2_with (at_builtin; refine wpList_append_rn rfl _ _ _ rfl _ _ _ rfl rfl HAP.out ?_; clear HAP)
              go_roundw
              case rel => exact ⟨i + 1, _, updN gs i wo.heap.size, upd2 G i (sndF d n L F i), by omega, by go_num, rfl, HA3.out, HG3.out, HC3.out, HB3.out⟩
              case measure => simp [intOf]; omega
        · have e : i = ch := by omega
          subst e
          go_wp2_with fail
          go_ret
          exact ⟨_, gs, G, rfl, HR.out.1.mono (by omega), HR.out.2.1, HR.out.2.2.2⟩
end Go.Proofs.YtlncjgnomhpjnabGreatDoor

/-
  What 'reelkeep' takes out of a sound: part.
-/
namespace Go.Proofs.YtlncjgnomhpjnabGreatDoor
open Go.RowKit Go.Deep
set_option linter.unusedVariables false
theorem AccI.open {base : Nat} {u : World} {lv : Value} {nn n : Nat} {gs : Nat → Nat} {G : Nat → Nat → Int} (h : AccI base u lv nn n gs G) (hn : 1 ≤ n) : ∃ g c, lv = .slice (some ⟨g, 0, none⟩) n c ∧ base ≤ g ∧ g < u.heap.size ∧ ∀ i, i < n → u.cell? ⟨g, i, none⟩ = some (.slice (some ⟨gs i, 0, none⟩) nn nn) := by
  rcases h.own.2 with ⟨-, h0⟩ | ⟨g, c, cur, rfl, hg, hcur, hcap, -, hcs, htk⟩
  · omega
  · refine ⟨g, c, rfl, hg, (Array.getElem?_eq_some_iff.1 hcur).1, fun i hi => ?_⟩
    have h1 : (rowL nn gs n)[i]? = some (.slice (some ⟨gs i, 0, none⟩) nn nn) := by unfold rowL; rw [List.getElem?_map, List.getElem?_range hi]; rfl
    rw [← htk, List.getElem?_take, if_pos (by omega), Array.getElem?_toList] at h1
    simp [World.cell?, hcur, h1]
theorem row_cut {u : World} {g nn : Nat} {x : Nat → Int} (h : u.rowIs g 3 nn (cutV nn x)) : IntsAt u (some ⟨g, 0, none⟩) nn x := fun i hi => ⟨_, rfl, by
  have := h.cell hi
  rw [Addr.add_lit, Nat.zero_add, this]
  unfold cutV cutI
  rw [if_pos hi]⟩
theorem AccI.lists {base : Nat} {u : World} {g c nn n : Nat} {gs : Nat → Nat} {G : Nat → Nat → Int} (h : AccI base u (.slice (some ⟨g, 0, none⟩) n c) nn n gs G) (hc : ∀ i, i < n → u.cell? ⟨g, i, none⟩ = some (.slice (some ⟨gs i, 0, none⟩) nn nn)) (hg : g < u.heap.size) :
    ListsAt u (some ⟨g, 0, none⟩) n (fun i => some ⟨gs i, 0, none⟩) (fun _ => nn) (fun _ => nn) ∧ (∀ i, i < n → IntsAt u (some ⟨gs i, 0, none⟩) nn (G i)) ∧ Low u.heap.size (some ⟨g, 0, none⟩) n (fun i => some ⟨gs i, 0, none⟩) (fun _ => nn) :=
  ⟨fun i hi => ⟨_, rfl, by rw [Addr.add_lit, Nat.zero_add]; exact hc i hi⟩, fun i hi => row_cut (h.rows i hi), fun x hx _ => by cases hx; exact hg, fun i hi x hx _ => by cases hx; exact (h.rows i hi).lt⟩
/-- 'copy' into a new row -/
theorem part_copy (x : Addr) (n c : Nat) (f : Nat → Int) (w0 w : World) (g : Nat) (hI : IntsAt w (some x) n f)
    (hblk : w.heap[g]? = some (.cells (List.replicate n (Value.int .i64 0)).toArray 3 (0, 0))) (hb : Below w0.heap.size w0 w) (hg : w0.heap.size ≤ g) :
    ∃ w2, (∀ ty, (Builtin.copy_ #[30, 30] ty #[.slice (some ⟨g, 0, none⟩) n n, .slice (some x) n c]).run Tryz.prog w = .ok (goInt n) w2) ∧
      w2.rowIs g 3 n (cutV n f) ∧ Below w0.heap.size w0 w2 ∧ w.grownBy w2 (some g) := by
  by_cases h0 : n = 0
  · subst h0
    refine ⟨w, fun ty => ?_, ⟨_, hblk, by simp, fun i hi => absurd hi (Nat.not_lt_zero i)⟩, hb, ⟨rfl, rfl, rfl, Nat.le_refl _, fun j hj _ => rfl⟩⟩
    exact run_copy_none (P := Tryz.prog) w 30 30 ty 3 _ _ _ _ _ _ Tryz.underlying30 sizeInt (by simp [Nat.min])
  · have hlen : ((List.range n).map fun i => Value.int .i64 (f i)).length = n := by simp
    refine ⟨w.setRow g ((List.range n).map fun i => Value.int .i64 (f i)).toArray, fun ty => ?_, ⟨_, setRow_heap w g _ _ 3 _ hblk, by simp, fun i hi => ?_⟩, below_setRow hb hg _, grown_row _ _ _⟩
    · have h := run_copy_row (P := Tryz.prog) w 30 30 ty 3 g 0 n n x n c _ 3 ((List.range n).map fun i => .int .i64 (f i)) Tryz.underlying30 sizeInt hblk
        (by rw [hlen]; simp [Nat.min])
        (fun j v hj => by
          have hj2 : j < n := by have := (List.getElem?_eq_some_iff.1 hj).1; simpa using this
          obtain ⟨y, hy, hc⟩ := hI j hj2
          cases hy
          rw [hc, ← hj]; simp [hj2])
        (by rw [hlen]; simp) (by intro v hv; obtain ⟨i, _, rfl⟩ := List.mem_map.1 hv; rfl)
      rw [hlen] at h
      rw [h]
      simp
    · unfold cutV cutI
      rw [if_pos hi]
      simp [hi]
set_option maxRecDepth 4000 in
set_option maxHeartbeats 2000000 in
theorem part_any (base : Nat) (lv : Value) (S n lo hi : Nat) (gs : Nat → Nat) (G : Nat → Nat → Int) (w : World) (hn1 : 1 ≤ n) (hn4 : n ≤ 4) (hS : S ≤ 300) (hlo : lo ≤ 100000) (hhi : hi ≤ 100000) (h : AccI base w lv S n gs G) :
    Calls Tryz.prog 16 #[lv, .int .i64 lo, .int .i64 hi] w fun e w' => ∃ lv2 gs2 G2, e = .returned lv2 ∧ AccI w.heap.size w' lv2 (min hi S - min lo (min hi S)) n gs2 G2 ∧ (∀ i, i < n → ∀ j, j < min hi S - min lo (min hi S) → G2 i j = G i (min lo (min hi S) + j)) ∧ Below w.heap.size w w' := by
  obtain ⟨g, c, rfl, hg, hgl, hcell⟩ := h.open hn1
  have hc0 := hcell 0 (by omega)
  have HC := Hid.mk' hcell
  have HI := Hid.mk' (fun i (hi : i < n) => row_cut (h.rows i hi))
  have HLT := Hid.mk' (fun i (hi : i < n) => (h.rows i hi).lt)
  clear h hcell
  obtain ⟨h1, hh1⟩ : ∃ x, x = min hi S := ⟨_, rfl⟩
  obtain ⟨l1, hl1⟩ : ∃ x, x = min lo h1 := ⟨_, rfl⟩
  rw [← hh1, ← hl1]
  obtain ⟨nn, hnn⟩ : ∃ nn, nn = h1 - l1 := ⟨_, rfl⟩
  rw [← hnn]
  have HNN := Hid.mk' hnn
  have HH := Hid.mk' hh1
  have HLL := Hid.mk' hl1
  have hhS : h1 ≤ S := by omega
  have hlh : l1 ≤ h1 := by omega
  have w1 : IntKind.i64.wrap ((h1 : Int) - (l1 : Int)) = (nn : Int) := by rw [IntKind.wrap_i64]; omega
  have hnb : nn ≤ 300 := by omega
  clear hh1 hl1 hnn
  go_enter Tryz.func16, Tryz.ntmps16
  go_upto_if 15 with fail
  go_cut [2] (fun s wx => s = .int .i64 h1 ∧ wx = w)
  case first =>
    have hs := HH.out
    by_cases h0 : S < hi
    · have e : h1 = S := by omega
      go_wp2_with fail
      go_meet
      case rel => exact ⟨by rw [e], rfl⟩
    · have e : h1 = hi := by omega
      go_wp2_with fail
      go_meet
      case rel => exact ⟨by rw [e], rfl⟩
  case rest =>
    obtain ⟨rfl, hwx⟩ := hcut
    subst hwx
    go_upto_if 22 with fail
    go_cut [1] (fun s wx => s = .int .i64 l1 ∧ wx = wc)
    case first =>
      have hs := HLL.out
      by_cases h0 : h1 < lo
      · have e : l1 = h1 := by omega
        go_wp2_with fail
        go_meet
        case rel => exact ⟨by rw [e], rfl⟩
      · have e : l1 = lo := by omega
        go_wp2_with fail
        go_meet
        case rel => exact ⟨by rw [e], rfl⟩
    case rest =>
      obtain ⟨rfl, hwx⟩ := hcut
      subst hwx
      clear HH HLL
      have hmk := run_make_row' (P := Tryz.prog) 30 3 (.int .i64 0) 8 Tryz.underlying30 infoInt rfl .i64 .i64 nn (by omega) (by omega)
      go_wp2_with fail
      go_loopw [7, 8, 9] (fun ov iv _ wr => ∃ (i : Nat) (lv : Value) (gs2 : Nat → Nat) (G2 : Nat → Nat → Int), i ≤ n ∧ iv = .int .i64 i ∧ ov = lv ∧ Hid (AccI wc.heap.size wr lv nn i gs2 G2 ∧ (∀ k, k < i → ∀ j, j < nn → G2 k j = G k (l1 + j)) ∧ Below wc.heap.size wc wr)) (fun _ iv _ _ => n - (intOf iv).toNat)
      case atStart => exact ⟨0, .slice none 0 0, fun _ => 0, fun _ _ => 0, Nat.zero_le _, rfl, rfl, AccI.start _ _ _ _ _, fun k hk => absurd hk (Nat.not_lt_zero k), Below.refl _ _⟩
      case round =>
        obtain ⟨i, lv, gs2, G2, hi, rfl, e, HR⟩ := hrel
        subst e
        obtain ⟨al, cl, hlv⟩ := own_form HR.out.1.own
        subst hlv
        by_cases hlt : i < n
        · have hcl : (wr.alloc (.cells (madeCells #[.int .i64 0] nn) 3)).cell? ⟨g, i, none⟩ = some (.slice (some ⟨gs i, 0, none⟩) S S) := ((HR.out.2.2.alloc HR.out.2.2.size _).cell (p := ⟨g, i, none⟩) hgl).trans (HC.out i hlt)
          have hblk : (wr.alloc (.cells (madeCells #[.int .i64 0] nn) 3)).heap[wr.heap.size]? = some (.cells (List.replicate nn (Value.int .i64 0)).toArray 3 (0, 0)) := by
            rw [← toList_madeCells_one]; exact blk_alloc_new _ _
          have hI2 : ∀ o, (o = l1 ∨ nn = 0) → IntsAt (wr.alloc (.cells (madeCells #[.int .i64 0] nn) 3)) (some ⟨gs i, o, none⟩) nn (fun j => G i (l1 + j)) := fun o ho j hj => by
            rcases ho with rfl | ho
            · refine ⟨_, rfl, ?_⟩
              obtain ⟨y, hy, hc⟩ := HI.out i hlt (o + j) (by have := HNN.out; omega)
              cases hy
              rw [Addr.add_lit, Nat.zero_add] at hc
              rw [Addr.add_lit]
              exact ((HR.out.2.2.alloc HR.out.2.2.size _).cell (p := ⟨gs i, o + j, none⟩) (HLT.out i hlt)).trans hc
            · omega
          have hkey : ∃ o, (if S = l1 then (some ⟨gs i, 0, none⟩ : Option Addr) else some ⟨gs i, l1, none⟩) = some ⟨gs i, o, none⟩ ∧ (o = l1 ∨ nn = 0) := by
            by_cases e : S = l1
            · exact ⟨0, by rw [if_pos e], .inr (by have := HNN.out; omega)⟩
            · exact ⟨l1, by rw [if_neg e], .inl rfl⟩
          obtain ⟨o, ho1, ho2⟩ := hkey
          obtain ⟨w2, hcp, hrow, hbel, hgr0⟩ := part_copy ⟨gs i, o, none⟩ nn (S - l1) (fun j => G i (l1 + j)) wr _ wr.heap.size (hI2 o ho2) hblk ((Below.refl _ _).alloc (Nat.le_refl _) _) (Nat.le_refl _)
          have hA2 := HR.out.1.next hbel
          obtain ⟨g', c', u3, hr, hO, hgr⟩ := app_row 24 30 (.slice none 0 0) 24 Tryz.underlying24 infoInts rfl w2 _ (.slice al i cl) i _ #[.slice (some ⟨wr.heap.size, 0, none⟩) nn nn] hA2.own (by simp) (by intro u hu; simp at hu; rw [hu]; rfl) (by simp only [maxLen]; simp; omega) (by simp; omega) (Nat.le_trans HR.out.2.2.size hbel.size) 24
          have HA3 := Hid.mk' (hA2.more hrow HR.out.2.2.size (fun k hk e => by have := (HR.out.1.rows k hk).lt; omega) hO hgr)
          have HB3 : Hid (Below wc.heap.size wc u3) := (HR.out.2.2.trans (hbel.mono HR.out.2.2.size)).grown hgr (Nat.le_trans HR.out.2.2.size hbel.size) (fun q hq => (hA2.own.lt q hq).1)
          have HG3 : Hid (∀ k, k < i + 1 → ∀ q, q < nn → upd2 G2 i (fun j => G i (l1 + j)) k q = G k (l1 + q)) := fun k hk q hq => by
            unfold upd2
            by_cases e : k = i
            · rw [if_pos e, e]
            · rw [if_neg e]; exact HR.out.2.1 k (by omega) q hq
          have HAP : Hid (_ = _) := hr
          have hnn2 : h1 - l1 = nn := HNN.out.symm
          clear hA2 hr hO hgr hrow hbel hgr0 hI2 hblk
          go_wp2_with (first
            | (at_builtin; refine wpList_append_rn rfl _ _ _ rfl _ _ _ rfl rfl HAP.out ?_; clear HAP))
          go_roundw
          case rel => exact ⟨i + 1, _, updN gs2 i wr.heap.size, upd2 G2 i (fun j => G i (l1 + j)), by omega, by go_num, rfl, HA3.out, HG3.out, HB3.out⟩
          case measure => simp [intOf]; omega
        · have e : i = n := by omega
          subst e
          go_wp2_with fail
          go_ret
          exact ⟨_, gs2, G2, rfl, HR.out.1, HR.out.2.1, HR.out.2.2⟩
end Go.Proofs.YtlncjgnomhpjnabGreatDoor

