/-
  readPlain, readGuesser.
-/
import Derived.Test.YtlncjgnomhpjnaaDoorReadProg2
namespace Go.Proofs.YtlncjgnomhpjnaaDoor
open Go.RowKit Go.Deep
set_option linter.unusedVariables false

/-- where sample k stands -/
def posn (p d k : Nat) : Nat := p + k * d
theorem posn_zero (p d : Nat) : posn p d 0 = p := by simp [posn]
theorem posn_succ (p d k : Nat) : posn p d (k + 1) = posn p d k + d := by unfold posn; rw [Nat.succ_mul]; omega
theorem posn_le (p d : Nat) {k m : Nat} (h : k ≤ m) : posn p d k ≤ posn p d m := by unfold posn; have := Nat.mul_le_mul_right d h; omega

set_option maxHeartbeats 1000000 in
theorem readPlain_any (B : Nat) (s : ByteArray) (b : Nat → Bool) (p d m n : Nat) (w : World) (hs : s.size ≤ 80000) (hp : p ≤ s.size) (hd1 : 1 ≤ d) (hd : d ≤ 13) (hm : m ≤ n) (hn : n ≤ 32) (hR : Rd w B s p) (hb : Bits s b) :
    Calls Tryd.prog 50 #[.pointer (some ⟨B, 0, none⟩), .int .i64 d, .int .i64 m, .int .i64 n] w fun e w' =>
      (posn p d m ≤ s.size ∧ Got e w w' B s m n (fun i => sgn b (posn p d i) d) (posn p d m)) ∨ (s.size < posn p d m ∧ Not e w w' B) := by
  have hmk := run_make (P := Tryd.prog) (w := w) 22 3
  obtain ⟨i0, hi, hz0, hz1, hz2⟩ := info_parts infoInt
  have hmk : ∀ u : World, (Instr.makeSlice 22 (.int .i64 0) (.int .i64 (n : Int))).run Tryd.prog u = .ok (.slice (some ⟨u.heap.size, 0, none⟩) 0 n) (u.alloc (.cells (madeCells #[.int .i64 0] n) 3)) := fun u => by
    have h := run_make (P := Tryd.prog) u 22 3 i0 (.int .i64 0) Tryd.underlying22 hi hz0 .i64 .i64 0 (n : Int) (Int.le_refl _) (by omega) (by rw [hz2]; omega) (by omega)
    simpa [hz1, Value.cells] using h
  have hlt := hR.lt
  have HB := Hid.mk' hb
  have HR := Hid.mk' hR
  clear hb hR hi hz0 hz1 hz2
  go_enter Tryd.func50, Tryd.ntmps50
  go_wp2
  clear hmk
  go_loopw [10, 11, 12, 16] (fun l _ _ i wr => ∃ k : Nat, k ≤ m ∧ i = .int .i64 k ∧ l = .slice (some ⟨w.heap.size, 0, none⟩) k n ∧ Hid (posn p d k ≤ s.size ∧ wr.rowIs w.heap.size 3 n (cutV k (fun i => sgn b (posn p d i) d)) ∧ Rd wr B s (posn p d k) ∧ Chg B w wr)) (fun _ _ _ i _ => m - (intOf i).toNat)
  case atStart =>
    exact ⟨0, Nat.zero_le _, rfl, rfl, by rw [posn_zero]; exact hp, (World.rowIs_made w (.int .i64 0) n 3).congr fun i _ => by simp [cutV, cutI], by rw [posn_zero]; exact HR.out.of (blk_alloc_lt _ _ _ hlt), (Chg.refl B w).below ((Below.refl _ _).alloc (Nat.le_refl _) _)⟩
  case round =>
    clear HR
    obtain ⟨k, hk, rfl, rfl, HK⟩ := hrel
    by_cases hkm : k < m
    · by_cases hfit : posn p d k + d ≤ s.size
      · have HS := Hid.mk' (signed_yes B s b (posn p d k) d wr hs hd1 (by omega) HK.out.2.2.1 hfit HB.out)
        go_wp2_with (go_at_call 72; refine HS.out.mono ?_; rintro e w1 ⟨rfl, hR1, hC1⟩; have HR1 := Hid.mk' hR1; have HC1 := Hid.mk' hC1; clear hR1 hC1; have HR2 := Hid.mk' (HC1.out.row HK.out.2.1 (Nat.ne_of_gt hlt)); have hca := fun o => (HR2.out.alloc o).cell (i := k) (by omega); have hfa := fun o => (HR2.out.alloc o).frozen k; unfold cutV at hca)
        go_roundw
        case rel =>
          have hch : Chg w.heap.size w1 ((w1.alloc (.cells #[.int .i64 (sgn b (posn p d k) d)] 3)).setCell ⟨w.heap.size, k, none⟩ (.int .i64 (sgn b (posn p d k) d))) := ((Chg.refl _ _).below ((Below.refl _ _).alloc (Nat.le_refl _) _)).set _ _
          refine ⟨k + 1, by omega, by go_num, rfl, ?_, cutV_step rfl ((HR2.out.alloc _).set k _), ?_, ?_⟩
          · rw [posn_succ]; exact hfit
          · rw [posn_succ]; exact hch.rd HR1.out (Nat.ne_of_lt hlt)
          · exact (HK.out.2.2.2.trans HC1.out).other hch (Nat.le_refl _)
        case measure => simp [intOf]; omega
      · have HS := Hid.mk' (signed_no B s (posn p d k) d wr hs HK.out.1 (by omega) HK.out.2.2.1 (by omega))
        have hbig : s.size < posn p d m := by
          have h1 := posn_succ p d k
          have h2 := posn_le p d (show k + 1 ≤ m by omega)
          omega
        go_wp2_with (go_at_call 72; refine HS.out.mono ?_; rintro e w1 ⟨rfl, j, rfl⟩)
        go_ret2
        exact .inr ⟨hbig, _, rfl, HK.out.2.2.2.drewN j⟩
    · have e : k = m := by omega
      subst e
      go_wp2
      go_ret2
      exact .inl ⟨HK.out.1, w.heap.size, rfl, Nat.le_refl _, HK.out.2.1, HK.out.2.2.1, HK.out.2.2.2⟩

theorem leaning_any (a c : Int) (w : World) :
    Calls Tryd.prog 64 #[.int .i64 a, .int .i64 c] w fun e w' => e = .returned (gV 7 a c) ∧ Below w.heap.size w w' := by
  go_enter Tryd.func64, Tryd.ntmps64
  go_wp2
  exact bodyPost_ret (v := gV 7 a c) (by simp [results, Tryd.results64, go_sem, gV, ord, wt, scl]) rfl ⟨rfl, ((Below.refl _ _).alloc (Nat.le_refl _) _)⟩

/-- none was read -/
def NotG (e : Ending) (w w' : World) (B : Nat) : Prop := ∃ v0 v1 v2 v3 v4 v5 : Int, e = .returned (.tuple #[.agg #[.int .i64 v0, .int .i64 v1, .int .i64 v2, .int .i64 v3, .int .i64 v4, .int .i64 v5], .bool false]) ∧ Chg B w w'
/-- the guesser of a kind was read -/
def GotG (e : Ending) (w w' : World) (B : Nat) (s : ByteArray) (v : Value) (p : Nat) : Prop := e = .returned (.tuple #[v, .bool true]) ∧ Rd w' B s p ∧ Chg B w w'

set_option maxHeartbeats 1000000 in
theorem readGuesser_fixed (B : Nat) (s : ByteArray) (p kind : Nat) (w : World) (h2 : 2 ≤ kind) (h6 : kind ≤ 6) (hR : Rd w B s p) (hT : TabAt w 2) (hg : 2 < w.heap.size) :
    Calls Tryd.prog 73 #[.pointer (some ⟨B, 0, none⟩), .int .i64 kind] w fun e w' => GotG e w w' B s (gV kind 0 0) p := by
  have hlt := hR.lt
  have hbel : ∀ o, Below w.heap.size w (w.alloc o) := fun o => (Below.refl _ _).alloc (Nat.le_refl _) _
  have hT1 : ∀ o, TabAt (w.alloc o) 2 := fun o r c hr hc => (World.cell?_alloc_lt w o ⟨2, 4 * r + c, none⟩ hg).trans (hT r c hr hc)
  have HF := Hid.mk' (fun o => fixed_any kind 0 0 (w.alloc o) h2 h6 (hT1 o) (by simp; omega))
  have HR := Hid.mk' hR
  clear hT hT1 hR
  go_enter Tryd.func73, Tryd.ntmps73
  have hk7 : ((kind : Int) != 7) = true := by simp; omega
  go_wp2_with (go_at_call 65; refine (HF.out _).mono ?_; rintro e w1 ⟨rfl, hb1⟩; simp only [gV]; have hs1 := hb1.size; have hcl := fun j => hb1.cell (p := ⟨w.heap.size, j, none⟩) (by simp); have hfr := fun j => hb1.frozen (p := ⟨w.heap.size, j, none⟩) (by simp); have HB1 := Hid.mk' hb1; clear hb1)
  have h7 : ¬ kind = 7 := by omega
  have hc0 := (Chg.refl B w).below ((Below.refl _ _).alloc (Nat.le_refl _) (.cells #[.int .i64 0, .int .i64 0, .int .i64 0, .int .i64 0, .int .i64 0, .int .i64 0] 64))
  have hch := (((((((Chg.refl w.heap.size w1).set 0 (.int .i64 (ord kind))).set 1 (.int .i64 (wt kind 0 0 0))).set 2 (.int .i64 (wt kind 0 0 1))).set 3 (.int .i64 (wt kind 0 0 2))).set 4 (.int .i64 (wt kind 0 0 3))).set 5 (.int .i64 (scl kind)))
  refine bodyPost_ret (v := .tuple #[gV kind 0 0, .bool true]) (by simp [results, Tryd.results73, go_sem, gV, hcl]) rfl ⟨rfl, ?_, ?_⟩
  · exact hch.rd (HR.out.of ((HB1.out.block _ (by simp; omega)).trans (blk_alloc_lt _ _ _ hlt))) (Nat.ne_of_lt hlt)
  · exact (hc0.below HB1.out).other hch (Nat.le_refl _)

set_option maxHeartbeats 1000000 in
theorem readGuesser_seven (B : Nat) (s : ByteArray) (b : Nat → Bool) (p : Nat) (w : World) (hs : s.size ≤ 80000) (hp : p ≤ s.size) (hR : Rd w B s p) (hb : Bits s b) :
    Calls Tryd.prog 73 #[.pointer (some ⟨B, 0, none⟩), .int .i64 7] w fun e w' =>
      (p + 12 ≤ s.size ∧ GotG e w w' B s (gV 7 (sgn b p 6) (sgn b (p + 6) 6)) (p + 12)) ∨ (s.size < p + 12 ∧ NotG e w w' B) := by
  have hlt := hR.lt
  have HR := Hid.mk' hR
  have hc0 := Hid.mk' ((Chg.refl B w).below ((Below.refl _ _).alloc (Nat.le_refl _) (.cells #[.int .i64 0, .int .i64 0, .int .i64 0, .int .i64 0, .int .i64 0, .int .i64 0] 64)))
  have HR0 := Hid.mk' (hR.of (blk_alloc_lt w (.cells #[.int .i64 0, .int .i64 0, .int .i64 0, .int .i64 0, .int .i64 0, .int .i64 0] 64) _ hlt))
  have HG0 := Hid.mk' (World.rowIs_alloc w #[.int .i64 0, .int .i64 0, .int .i64 0, .int .i64 0, .int .i64 0, .int .i64 0] 64 (fun _ => .int .i64 0) (fun i hi => by
    match i, hi with
    | 0, _ => rfl
    | 1, _ => rfl
    | 2, _ => rfl
    | 3, _ => rfl
    | 4, _ => rfl
    | 5, _ => rfl))
  simp only [List.size_toArray, List.length_cons, List.length_nil, Nat.zero_add, Nat.reduceAdd] at HG0
  by_cases h6 : p + 6 ≤ s.size
  · have HS := Hid.mk' (signed_yes B s b p 6 _ hs (by omega) (by omega) HR0.out h6 hb)
    by_cases h12 : p + 12 ≤ s.size
    · have HS2 := Hid.mk' (fun (u : World) (hu : Rd u B s (p + 6)) => signed_yes B s b (p + 6) 6 u hs (by omega) (by omega) hu (by omega) hb)
      clear hb hR
      go_enter Tryd.func73, Tryd.ntmps73
      go_wp2_with (first
        | (go_at_call 72; refine HS.out.mono ?_; rintro e w1 ⟨rfl, hR1, hC1⟩; have HR1 := Hid.mk' hR1; have HC1 := Hid.mk' hC1; clear hR1 hC1; have HG1 := Hid.mk' (HC1.out.row HG0.out (Nat.ne_of_gt hlt)); have x0 := HG1.out.cell (i := 0) (by omega); have x1 := HG1.out.cell (i := 1) (by omega); have x2 := HG1.out.cell (i := 2) (by omega); have x3 := HG1.out.cell (i := 3) (by omega); have x4 := HG1.out.cell (i := 4) (by omega); have x5 := HG1.out.cell (i := 5) (by omega); have xf0 := HG1.out.frozen 0; have xf1 := HG1.out.frozen 1; have xf2 := HG1.out.frozen 2; have xf3 := HG1.out.frozen 3; have xf4 := HG1.out.frozen 4; have xf5 := HG1.out.frozen 5)
        | (go_at_call 72; refine (HS2.out _ HR1.out).mono ?_; rintro e w2 ⟨rfl, hR2, hC2⟩; have HR2 := Hid.mk' hR2; have HC2 := Hid.mk' hC2; clear hR2 hC2; have HG2 := Hid.mk' (HC2.out.row HG1.out (Nat.ne_of_gt hlt)); clear x0 x1 x2 x3 x4 x5 xf0 xf1 xf2 xf3 xf4 xf5; have y0 := HG2.out.cell (i := 0) (by omega); have y1 := HG2.out.cell (i := 1) (by omega); have y2 := HG2.out.cell (i := 2) (by omega); have y3 := HG2.out.cell (i := 3) (by omega); have y4 := HG2.out.cell (i := 4) (by omega); have y5 := HG2.out.cell (i := 5) (by omega); have yf0 := HG2.out.frozen 0; have yf1 := HG2.out.frozen 1; have yf2 := HG2.out.frozen 2; have yf3 := HG2.out.frozen 3; have yf4 := HG2.out.frozen 4; have yf5 := HG2.out.frozen 5)
        | (go_at_call 64; refine (leaning_any _ _ _).mono ?_; rintro e w3 ⟨rfl, hb3⟩; simp only [gV]; have HB3 := Hid.mk' hb3; clear hb3; have HG3 := Hid.mk' (HG2.out.of_block (HB3.out.block _ HG2.out.lt)); clear y0 y1 y2 y3 y4 y5 yf0 yf1 yf2 yf3 yf4 yf5; have z0 := HG3.out.cell (i := 0) (by omega); have z1 := HG3.out.cell (i := 1) (by omega); have z2 := HG3.out.cell (i := 2) (by omega); have z3 := HG3.out.cell (i := 3) (by omega); have z4 := HG3.out.cell (i := 4) (by omega); have z5 := HG3.out.cell (i := 5) (by omega); have zf0 := HG3.out.frozen 0; have zf1 := HG3.out.frozen 1; have zf2 := HG3.out.frozen 2; have zf3 := HG3.out.frozen 3; have zf4 := HG3.out.frozen 4; have zf5 := HG3.out.frozen 5))
      have hch := (((((((Chg.refl w.heap.size w3).set 0 (.int .i64 (ord 7))).set 1 (.int .i64 (wt 7 (sgn b p 6) (sgn b (p + 6) 6) 0))).set 2 (.int .i64 (wt 7 (sgn b p 6) (sgn b (p + 6) 6) 1))).set 3 (.int .i64 (wt 7 (sgn b p 6) (sgn b (p + 6) 6) 2))).set 4 (.int .i64 (wt 7 (sgn b p 6) (sgn b (p + 6) 6) 3))).set 5 (.int .i64 (scl 7)))
      refine bodyPost_ret (v := .tuple #[gV 7 (sgn b p 6) (sgn b (p + 6) 6), .bool true]) (by simp [results, Tryd.results73, go_sem, gV, z0, z1, z2, z3, z4, z5]) rfl (.inl ⟨h12, rfl, ?_, ?_⟩)
      · exact hch.rd (HR2.out.of (HB3.out.block _ HR2.out.lt)) (Nat.ne_of_lt hlt)
      · exact ((hc0.out.trans (HC1.out.trans HC2.out)).below HB3.out).other hch (Nat.le_refl _)
    · have HS2 := Hid.mk' (fun (u : World) (hu : Rd u B s (p + 6)) => signed_no B s (p + 6) 6 u hs h6 (by omega) hu (by omega))
      clear hb hR
      go_enter Tryd.func73, Tryd.ntmps73
      go_wp2_with (first
        | (go_at_call 72; refine HS.out.mono ?_; rintro e w1 ⟨rfl, hR1, hC1⟩; have HR1 := Hid.mk' hR1; have HC1 := Hid.mk' hC1; clear hR1 hC1; have HG1 := Hid.mk' (HC1.out.row HG0.out (Nat.ne_of_gt hlt)); have x0 := HG1.out.cell (i := 0) (by omega); have x1 := HG1.out.cell (i := 1) (by omega); have x2 := HG1.out.cell (i := 2) (by omega); have x3 := HG1.out.cell (i := 3) (by omega); have x4 := HG1.out.cell (i := 4) (by omega); have x5 := HG1.out.cell (i := 5) (by omega); have xf0 := HG1.out.frozen 0; have xf1 := HG1.out.frozen 1; have xf2 := HG1.out.frozen 2; have xf3 := HG1.out.frozen 3; have xf4 := HG1.out.frozen 4; have xf5 := HG1.out.frozen 5)
        | (go_at_call 72; refine (HS2.out _ HR1.out).mono ?_; rintro e w2 ⟨rfl, j2, rfl⟩; have HG2 := Hid.mk' HG1.out)
        | (go_at_call 64; refine (leaning_any _ _ _).mono ?_; rintro e w3 ⟨rfl, hb3⟩; simp only [gV]; have HB3 := Hid.mk' hb3; clear hb3; have HG3 := Hid.mk' (HG2.out.of_block (HB3.out.block _ HG2.out.lt)); clear x0 x1 x2 x3 x4 x5 xf0 xf1 xf2 xf3 xf4 xf5; have z0 := HG3.out.cell (i := 0) (by omega); have z1 := HG3.out.cell (i := 1) (by omega); have z2 := HG3.out.cell (i := 2) (by omega); have z3 := HG3.out.cell (i := 3) (by omega); have z4 := HG3.out.cell (i := 4) (by omega); have z5 := HG3.out.cell (i := 5) (by omega); have zf0 := HG3.out.frozen 0; have zf1 := HG3.out.frozen 1; have zf2 := HG3.out.frozen 2; have zf3 := HG3.out.frozen 3; have zf4 := HG3.out.frozen 4; have zf5 := HG3.out.frozen 5))
      have hch := (((((((Chg.refl w.heap.size w3).set 0 (.int .i64 (ord 7))).set 1 (.int .i64 (wt 7 (sgn b p 6) 0 0))).set 2 (.int .i64 (wt 7 (sgn b p 6) 0 1))).set 3 (.int .i64 (wt 7 (sgn b p 6) 0 2))).set 4 (.int .i64 (wt 7 (sgn b p 6) 0 3))).set 5 (.int .i64 (scl 7)))
      refine bodyPost_ret (v := .tuple #[gV 7 (sgn b p 6) 0, .bool false]) (by simp [results, Tryd.results73, go_sem, gV, z0, z1, z2, z3, z4, z5]) rfl (.inr ⟨by omega, _, _, _, _, _, _, rfl, ?_⟩)
      exact (((hc0.out.trans HC1.out).drewN j2).below HB3.out).other hch (Nat.le_refl _)
  · have HS := Hid.mk' (signed_no B s p 6 _ hs hp (by omega) HR0.out (by omega))
    clear hb hR
    have q0 := HG0.out.cell (i := 0) (by omega)
    go_enter Tryd.func73, Tryd.ntmps73
    go_wp2_with (go_at_call 72; refine HS.out.mono ?_; rintro e w1 ⟨rfl, j, rfl⟩)
    refine bodyPost_ret (v := .tuple #[.agg #[.int .i64 0, .int .i64 0, .int .i64 0, .int .i64 0, .int .i64 0, .int .i64 0], .bool false]) (by simp [results, Tryd.results73, go_sem]) rfl (.inr ⟨by omega, _, _, _, _, _, _, rfl, ?_⟩)
    exact (hc0.out.drewN j).other (((((((Chg.refl w.heap.size _).set 0 _).set 1 _).set 2 _).set 3 _).set 4 _).set 5 _) (Nat.le_refl _)
end Go.Proofs.YtlncjgnomhpjnaaDoor
