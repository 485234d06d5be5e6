import Derived.Test.YtlncjgnomhpjnaaGreatDoorEKEncLay
import Derived.Test.YtlncjgnomhpjnaaGreatDoorEJEncAll
import Derived.Test.YtlncjgnomhpjnaaGreatDoorEKStrJoin
import Derived.Deep.RegionHeld3
import Derived.Deep.DeepCutAuto
/-
  stream.Join: the stream of frames.
-/
namespace Go.Proofs.YtlncjgnomhpjnaaGreatDoor
open Go.RowKit Go.Deep
set_option linter.unusedVariables false

/-- lengths, as cells -/
def lnL (ln : Nat → Nat) (k : Nat) : List Value := (List.range k).map fun j => Value.int .i64 ((ln j : Nat) : Int)
theorem lnL_snoc (ln : Nat → Nat) (k : Nat) : lnL ln (k + 1) = lnL ln k ++ [Value.int .i64 ((ln k : Nat) : Int)] := by
  unfold lnL
  rw [List.range_succ, List.map_append]; rfl

theorem ki_below {g : Nat} {c0 c1 c2 c3 c4 s : Int} {u u' : World} (hb : Below u.heap.size u u') (h : g < u.heap.size ∧ u.cell? ⟨g, 0, none⟩ = some (.int .i64 c0) ∧ u.cell? ⟨g, 1, none⟩ = some (.int .i64 c1) ∧ u.cell? ⟨g, 2, none⟩ = some (.int .i64 c2) ∧ u.cell? ⟨g, 3, none⟩ = some (.int .i64 c3) ∧ u.cell? ⟨g, 4, none⟩ = some (.int .i64 c4) ∧ u.cell? ⟨g, 5, none⟩ = some (.int .i64 s)) : g < u'.heap.size ∧ u'.cell? ⟨g, 0, none⟩ = some (.int .i64 c0) ∧ u'.cell? ⟨g, 1, none⟩ = some (.int .i64 c1) ∧ u'.cell? ⟨g, 2, none⟩ = some (.int .i64 c2) ∧ u'.cell? ⟨g, 3, none⟩ = some (.int .i64 c3) ∧ u'.cell? ⟨g, 4, none⟩ = some (.int .i64 c4) ∧ u'.cell? ⟨g, 5, none⟩ = some (.int .i64 s) :=
  ⟨Nat.lt_of_lt_of_le h.1 hb.size, keep_cell hb h.1 h.2.1, keep_cell hb h.1 h.2.2.1, keep_cell hb h.1 h.2.2.2.1, keep_cell hb h.1 h.2.2.2.2.1, keep_cell hb h.1 h.2.2.2.2.2.1, keep_cell hb h.1 h.2.2.2.2.2.2⟩
theorem ki_belowB {g B : Nat} {c0 c1 c2 c3 c4 s : Int} {u u' : World} (hg : g < B) (hb : Below B u u') (h : g < u.heap.size ∧ u.cell? ⟨g, 0, none⟩ = some (.int .i64 c0) ∧ u.cell? ⟨g, 1, none⟩ = some (.int .i64 c1) ∧ u.cell? ⟨g, 2, none⟩ = some (.int .i64 c2) ∧ u.cell? ⟨g, 3, none⟩ = some (.int .i64 c3) ∧ u.cell? ⟨g, 4, none⟩ = some (.int .i64 c4) ∧ u.cell? ⟨g, 5, none⟩ = some (.int .i64 s)) : g < u'.heap.size ∧ u'.cell? ⟨g, 0, none⟩ = some (.int .i64 c0) ∧ u'.cell? ⟨g, 1, none⟩ = some (.int .i64 c1) ∧ u'.cell? ⟨g, 2, none⟩ = some (.int .i64 c2) ∧ u'.cell? ⟨g, 3, none⟩ = some (.int .i64 c3) ∧ u'.cell? ⟨g, 4, none⟩ = some (.int .i64 c4) ∧ u'.cell? ⟨g, 5, none⟩ = some (.int .i64 s) :=
  ⟨Nat.lt_of_lt_of_le h.1 hb.size, (hb.cell (p := ⟨g, 0, none⟩) hg).trans h.2.1, (hb.cell (p := ⟨g, 1, none⟩) hg).trans h.2.2.1, (hb.cell (p := ⟨g, 2, none⟩) hg).trans h.2.2.2.1, (hb.cell (p := ⟨g, 3, none⟩) hg).trans h.2.2.2.2.1, (hb.cell (p := ⟨g, 4, none⟩) hg).trans h.2.2.2.2.2.1, (hb.cell (p := ⟨g, 5, none⟩) hg).trans h.2.2.2.2.2.2⟩
theorem owns_cells {w : World} {base m : Nat} {v : Value} {f : Nat → Int} {ls : List Value} (h : w.ownsRow base 3 1 v m ls) (hf : ∀ i, i < m → ls[i]? = some (.int .i64 (f i))) : ∃ a cap, v = .slice a m cap ∧ IntsAt w a m f ∧ ∀ x, a = some x → 0 < m → x.block < w.heap.size := by
  rcases h.2 with ⟨rfl, rfl⟩ | ⟨g, cap, cur, rfl, -⟩
  · exact ⟨none, 0, rfl, fun i hi => absurd hi (by omega), fun x hx => by cases hx⟩
  · refine ⟨_, cap, rfl, fun i hi => ⟨_, rfl, h.cells (g := g) rfl i _ (hf i hi)⟩, fun x hx h0 => ?_⟩
    cases hx
    exact (h.lt g rfl).2
theorem lens_open {w : World} {base k : Nat} {ln : Nat → Nat} {v : Value} (h : w.ownsRow base 3 1 v k (lnL ln k)) : ∃ a cap, v = .slice a k cap ∧ IntsAt w a k (fun i => ((ln i : Nat) : Int)) ∧ ∀ x, a = some x → 0 < k → x.block < w.heap.size :=
  owns_cells h fun i hi => by unfold lnL; rw [List.getElem?_map, List.getElem?_range hi]; rfl
theorem pnts_open {w : World} {base : Nat} {ps : List Nat} {v : Value} (h : w.ownsRow base 3 1 v ps.length (pntV ps)) : ∃ a cap, v = .slice a ps.length cap ∧ IntsAt w a ps.length (fun i => ((ps.getD i 0 : Nat) : Int)) ∧ ∀ x, a = some x → 0 < ps.length → x.block < w.heap.size :=
  owns_cells h fun i hi => by unfold pntV; rw [List.getElem?_map, List.getElem?_eq_getElem hi, List.getD_eq_getElem?_getD, List.getElem?_eq_getElem hi]; rfl

/-- a row of texts -/
def StrsAt (w : World) (a : Option Addr) (n : Nat) (X : Nat → List UInt8) : Prop := ∀ i, i < n → ∃ x, a = some x ∧ w.cell? (x.add i) = some (.string (bs (X i)))
theorem strs_open {w : World} {base k : Nat} {X : Nat → List UInt8} {v : Value} (h : w.ownsRow base 9 1 v k (strL X k)) : ∃ a cap, v = .slice a k cap ∧ ∀ i, i < k → ∃ g, a = some ⟨g, 0, none⟩ ∧ g < w.heap.size ∧ w.cell? ⟨g, i, none⟩ = some (.string (bs (X i))) := by
  rcases h.2 with ⟨rfl, rfl⟩ | ⟨g, cap, cur, rfl, -⟩
  · exact ⟨none, 0, rfl, fun i hi => absurd hi (by omega)⟩
  · refine ⟨_, cap, rfl, fun i hi => ⟨g, rfl, (h.lt g rfl).2, ?_⟩⟩
    have := h.cells (g := g) rfl i _ (strL_get X k i hi)
    rw [Addr.add_lit, Nat.zero_add] at this
    exact this
/-- what holds while lengths are taken -/
structure JoinI (w wr : World) (is : Array Value) (kv : Value) (k : Nat) (ls : List Value) : Prop where
  inf : Bx wr w.heap.size 46 is
  own : wr.ownsRow (w.heap.size + 1) 3 1 kv k ls
  below : Below w.heap.size w wr
  size : w.heap.size + 1 ≤ wr.heap.size
theorem JoinI.grew {w wr u : World} {is : Array Value} {kv kv' : Value} {k : Nat} {ls ls' : List Value} (h : JoinI w wr is kv k ls) (ho : u.ownsRow (w.heap.size + 1) 3 1 kv' (k + 1) ls') (hg : wr.grownBy u kv.ownBlock) : JoinI w u is kv' (k + 1) ls' :=
  ⟨h.inf.of (hg.block _ (by have := h.size; omega) (fun e => by have := (h.own.lt _ e.symm).1; omega)), ho, h.below.grown hg h.below.size (fun j hj => by have := (h.own.lt j hj).1; omega), Nat.le_trans h.size hg.size⟩

set_option maxRecDepth 4000 in
set_option maxHeartbeats 2000000 in
theorem streamJoin_any (n d B c3 S c4 sum : Nat) (X : Nat → List UInt8) (N base : Nat) (kv : Value) (w : World) (h0 : n < 256) (h1 : d < 256) (h2 : B < 256) (h3 : c3 < 65536) (h4 : c4 < 256) (h5 : S < 65536) (h6 : sum < 4294967296) (hN : N ≤ 300) (hX : ∀ i, i < N → (X i).length ≤ 222)
    (h : w.ownsRow base 9 1 kv N (strL X N)) :
    Calls Tryz.prog 85 #[.agg #[.int .i64 n, .int .i64 d, .int .i64 B, .int .i64 c3, .int .i64 c4, .int .i64 S], kv, .int .i64 sum] w fun e w' =>
      e = .returned (.string (bs (headTx 1 n d B c3 S c4 (leastN (fun i => (X i).length) N) (mostN (fun i => (X i).length) N) sum (pntN (fun i => (X i).length) c4 N) ++ catT X N))) ∧ Below w.heap.size w w' := by
  have HJ := Hid.mk' (fun (u : World) (hu : Below w.heap.size w u) => join_any X N base kv u (h.kept ⟨hu.os, hu.tape, hu.output, hu.size, fun j hj _ => hu.block j hj⟩ (Classical.em _)) (by omega) (by
    have : ∀ k, k ≤ N → (catT X k).length ≤ 222 * k := by
      intro k
      induction k with
      | zero => intro _; simp [catT]
      | succ k ih => intro hk; have h1 := ih (by omega); have h2 := hX k (by omega); rw [catT, List.length_append]; omega
    have := this N (Nat.le_refl _)
    omega))
  have HCT : Hid ((catT X N).length ≤ 66600) := by
    have : ∀ k, k ≤ N → (catT X k).length ≤ 222 * k := by
      intro k
      induction k with
      | zero => intro _; simp [catT]
      | succ k ih => intro hk; have h1 := ih (by omega); have h2 := hX k (by omega); rw [catT, List.length_append]; omega
    have := this N (Nat.le_refl _)
    show _ ≤ _
    omega
  obtain ⟨a, cap, rfl, hcl⟩ := strs_open h
  have HCL := Hid.mk' hcl
  have HX := Hid.mk' hX
  have hlb : ∀ i, i < N → (fun i => (X i).length) i ≤ 222 := hX
  have HPL : Hid ((pntN (fun i => (X i).length) c4 N).length ≤ 300) := by have h1 := pntN_len (fun i => (X i).length) c4 N; show _ ≤ _; omega
  have HFN := Hid.mk' (fun (u : World) (a' : Option Addr) (cap' : Nat) hI' hl' => finished_any n d B c3 S c4 sum a' N cap' (fun i => (X i).length) u hN (by omega) hX hI' hl')
  have HLY := Hid.mk' (fun (u : World) (a' : Option Addr) (cap' : Nat) hI' hl' => headText_any true n d B c3 S c4 (leastN (fun i => (X i).length) N) (mostN (fun i => (X i).length) N) sum (pntN (fun i => (X i).length) c4 N) a' cap' u h0 h1 h2 h3 h4 h5
    (by have := leastN_bd N hlb; omega) (by have := mostN_bd N hlb; omega) h6 HPL.out (fun p hp => by have h1 := pntN_bd N hlb p hp; omega) hI' hl')
  simp only [Bool.toNat_true] at HLY
  have hz1 : (bs (headTx 1 n d B c3 S c4 (leastN (fun i => (X i).length) N) (mostN (fun i => (X i).length) N) sum (pntN (fun i => (X i).length) c4 N))).size ≤ 700 := by rw [bs_size, headTx_length]; have := HPL.out; omega
  have hz2 : (bs (catT X N)).size ≤ 66600 := by rw [bs_size]; exact HCT.out
  clear h hcl hX hlb
  go_enter Tryz.func85, Tryz.ntmps85
  go_wp2
  go_loopw [7, 9, 12] (fun lv _ iv wr => ∃ i : Nat, ∃ ov : Value, i ≤ N ∧ iv = .int .i64 i ∧ ov = lv ∧ Hid (JoinI w wr #[.int .i64 n, .int .i64 d, .int .i64 B, .int .i64 c3, .int .i64 c4, .int .i64 S] ov i (lnL (fun i => (X i).length) i))) (fun _ _ iv _ => N - (intOf iv).toNat)
  case atStart => exact ⟨0, .slice none 0 0, Nat.zero_le _, rfl, rfl, Bx.new _ _ _, World.ownsRow_nil _ _ _ _, (Below.refl _ _).alloc (Nat.le_refl _) _, by simp⟩
  case round =>
    obtain ⟨i, kv, hi, rfl, e, HR⟩ := hrel
    subst e
    by_cases hlt : i < N
    · obtain ⟨g, rfl, hg, hc⟩ := HCL.out i hlt
      have hcv : wr.cell? ⟨g, i, none⟩ = some (.string (bs (X i))) := (HR.out.below.cell (p := ⟨g, i, none⟩) hg).trans hc
      have hz : (bs (X i)).size = (X i).length := bs_size _
      have hL := HX.out i hlt
      obtain ⟨g', c', u4, hr, ho, hgr⟩ := app_row 29 3 (.int .i64 0) 8 Tryz.underlying29 infoInt rfl wr _ kv _ _ #[.int .i64 ((X i).length : Int)] HR.out.own (by simp) (by intro u hu; simp at hu; rw [hu]; rfl) (by simp only [maxLen]; simp; omega) (by simp; omega) HR.out.size 29
      have HE4 : Hid (JoinI w u4 #[.int .i64 n, .int .i64 d, .int .i64 B, .int .i64 c3, .int .i64 c4, .int .i64 S] (.slice (some ⟨g', 0, none⟩) (i + 1) c') (i + 1) (lnL (fun i => (X i).length) (i + 1))) := by
        have := HR.out.grew ho hgr
        show JoinI _ _ _ _ _ _
        rw [lnL_snoc]
        exact this
      have HAP : Hid (_ = _) := hr
      clear hr ho hgr hc
      generalize bs (X i) = Z at *
      generalize (X i).length = ln at *
      go_wp2_with (at_builtin; refine wpList_append_rn rfl _ _ _ rfl _ _ _ rfl rfl HAP.out ?_; clear HAP)
      go_roundw
      case rel => exact ⟨i + 1, _, by omega, by go_num, rfl, HE4.out⟩
      case measure => simp [intOf]; omega
    · have e : i = N := by omega
      subst e
      obtain ⟨a', cap', hkv, hI', hl'⟩ := lens_open HR.out.own
      subst hkv
      have HI' := Hid.mk' hI'
      have HL' := Hid.mk' hl'
      have x0 := HR.out.inf.cell 0
      have x1 := HR.out.inf.cell 1
      have x2 := HR.out.inf.cell 2
      have x3 := HR.out.inf.cell 3
      have x4 := HR.out.inf.cell 4
      have x5 := HR.out.inf.cell 5
      have xl := HR.out.inf.lt
      have HBW := Hid.mk' HR.out.below
      clear hI' hl' HR
      generalize hX1 : bs (headTx 1 n d B c3 S c4 (leastN (fun i => (X i).length) i) (mostN (fun i => (X i).length) i) sum (pntN (fun i => (X i).length) c4 i)) = X1 at *
      generalize hX2 : bs (catT X i) = X2 at *
      have HX12 : Hid (X1 ++ X2 = bs (headTx 1 n d B c3 S c4 (leastN (fun i => (X i).length) i) (mostN (fun i => (X i).length) i) sum (pntN (fun i => (X i).length) c4 i) ++ catT X i)) := by show _ = _; rw [← hX1, ← hX2, bs_append]
      clear hX1 hX2
      have q8 : ¬ 9223372036854775807 < X1.size + X2.size := by omega
      go_wp2_with (first
        | (go_at_call 128; refine (HFN.out _ _ _ HI'.out HL'.out).mono ?_; rintro e u2 ⟨pv, rfl, hown, hb2⟩; obtain ⟨a2, cp2, rfl, hI2, hl2⟩ := pnts_open hown; have HLY2 := Hid.mk' (HLY.out u2 a2 cp2 hI2 hl2); have HB2 : Hid (Below wr.heap.size wr u2) := (⟨hb2.os, hb2.tape, hb2.output, hb2.size, hb2.block⟩ : Below wr.heap.size wr u2); clear HFN hown hI2 hl2 hb2 HLY x0 x1 x2 x3 x4 x5 xl)
        | (go_at_call 129; refine HLY2.out.mono ?_; rintro e u3 ⟨rfl, hb3⟩; have HB3 := Hid.mk' (HBW.out.trans ((HB2.out.trans (hb3.mono HB2.out.size)).mono HBW.out.size)); clear HLY2 HB2 hb3)
        | (go_at_call 130; refine (HJ.out _ HB3.out).mono ?_; rintro e u4 ⟨rfl, hb4⟩; have HB4 := Hid.mk' (HB3.out.trans (hb4.mono HB3.out.size)); clear HJ HB3 hb4))
      go_ret
      exact ⟨by rw [← HX12.out]; rfl, HB4.out⟩
end Go.Proofs.YtlncjgnomhpjnaaGreatDoor

