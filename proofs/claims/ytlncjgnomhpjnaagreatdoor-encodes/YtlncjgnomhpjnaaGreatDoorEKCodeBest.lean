import Derived.Test.YtlncjgnomhpjnaaGreatDoorEJBody
/-
  The program's packer: the shortest body.
-/
namespace Go.Proofs.YtlncjgnomhpjnaaGreatDoor
open Go.RowKit Go.Deep
set_option linter.unusedVariables false

/-- what a body by a kind that has rests comes to -/
def GB (e : Ending) (kind width : Nat) (x : Nat → Int) (n : Nat) : Prop :=
  (okG kind x n = true ∧ e = .returned (.tuple #[.agg (bodyA kind width x n), .bool true])) ∨ (okG kind x n = false ∧ e = .returned (.tuple #[.agg zero18, .bool false]))

theorem GB.yes {e : Ending} {kind width n : Nat} {x : Nat → Int} (h : GB e kind width x n) (hok : okG kind x n = true) : e = .returned (.tuple #[.agg (bodyA kind width x n), .bool true]) := by
  rcases h with h | h
  · exact h.2
  · rw [hok] at h; exact absurd h.1 (by simp)
theorem GB.no {e : Ending} {kind width n : Nat} {x : Nat → Int} (h : GB e kind width x n) (hok : okG kind x n = false) : e = .returned (.tuple #[.agg zero18, .bool false]) := by
  rcases h with h | h
  · rw [hok] at h; exact absurd h.1 (by simp)
  · exact h.2
theorem guessedBody_any (kind : Nat) (A : Option Addr) (n c width : Nat) (x : Nat → Int) (w : World) (h2 : 2 ≤ kind) (h7 : kind ≤ 7) (hn : n ≤ 32) (hnc : n ≤ c) (hw : width ≤ 13) (hS : Shorts w A n x)
    (hT : TabAt w 7) (hg : 7 < w.heap.size) :
    Calls Tryz.prog 193 #[.int .i64 kind, .int .i64 width, .slice A n c] w fun e w' => GB e kind width x n ∧ Below w.heap.size w w' := by
  by_cases hon : ord kind < n
  · by_cases hk : kind = 7
    · by_cases hD : 0 < leanD x n
      · exact (guessedBody_seven kind A n c width x w hk hn hnc hw hon hD hS).mono fun e w' h => ⟨.inl ⟨by simp [okG, hon, hD], h.1⟩, h.2⟩
      · exact (guessedBody_no7 kind A n c width x w hk hn hw hon hD hS).mono fun e w' h => ⟨.inr ⟨by simp [okG, hk, hD], h.1⟩, h.2⟩
    · exact (guessedBody_fixed kind A n c width x w h2 (by omega) hn hnc hw hon hS hT hg).mono fun e w' h => ⟨.inl ⟨by simp [okG, hon, hk], h.1⟩, h.2⟩
  · exact (guessedBody_short kind A n c width w h2 h7 hon).mono fun e w' h => ⟨.inr ⟨by simp [okG, hon], h.1⟩, h.2⟩
theorem sizeA (kind w : Nat) (x : Nat → Int) (n : Nat) : (Tryz.prog.info? 206).map (·.size) = some (bodyA kind w x n).size := infoBody
theorem oneA (kind w : Nat) (x : Nat → Int) (n : Nat) : (bodyA kind w x n).toList.all (·.oneCell') = true := rfl
theorem bodyL_bd (kind w : Nat) (x : Nat → Int) (n : Nat) (h7 : kind ≤ 7) (hn : n ≤ 32) (hw : w ≤ 13) (hX : ∀ j, j < n → -4096 ≤ x j ∧ x j ≤ 4096) (hok : 2 ≤ kind → okG kind x n = true) : bodyL kind w x n ≤ 2000000000 := by
  unfold bodyL
  split
  · omega
  · split
    · have : n * w ≤ 32 * 13 := Nat.mul_le_mul hn hw
      omega
    · have h2 : 2 ≤ kind := by omega
      have hok := hok h2
      unfold okG at hok
      rw [Bool.and_eq_true, decide_eq_true_eq] at hok
      have ho := ord_le kind h2 h7
      have hcl := cutL_le (fR kind x n) (ord kind) n (bC kind x n) hn (bestC_le _ _ _ _) (bestC_ok _ _ _ hok.1 _) (fun i hi hin => (fR_bd kind x n i h2 h7 (fun j hj => hX j (by omega)) hi).2)
      have hm : ord kind * w ≤ 4 * 13 := Nat.mul_le_mul ho hw
      unfold gL
      split <;> omega

theorem res_best (tmps : Array Value) (R : Nat) (cs : Array Value) (W : World) (h : Bx W R 206 cs) (hs : cs.size = 18) (h4 : tmps.getD 4 undef = .pointer (some ⟨R, 0, none⟩)) :
    (results Tryz.f169 tmps).run Tryz.prog W = .ok (.agg cs) W := by
  have hl := run_loadVar_row (P := Tryz.prog) W R 206 206 cs (0, 0) _ h Tryz.underlying206 rfl (by rw [hs]; exact infoBody)
  rw [Array.getD_eq_getD_getElem?] at h4
  simp [results, Tryz.results169, asAddr, h4, hl]

set_option maxRecDepth 100000 in
set_option maxHeartbeats 8000000 in
theorem shortestBody_any (A : Option Addr) (n c width : Nat) (x : Nat → Int) (w : World) (hn1 : 1 ≤ n) (hn : n ≤ 32) (hnc : n ≤ c) (hw1 : 1 ≤ width) (hw : width ≤ 13) (hS : Shorts w A n x)
    (hT : TabAt w 7) (hg : 7 < w.heap.size) :
    Calls Tryz.prog 169 #[.int .i64 width, .slice A n c] w fun e w' => e = .returned (bodyV (bestK width x n 6) width x n) ∧ Below w.heap.size w w' := by
  have HH := Hid.mk' (fun (kind : Nat) (h2 : 2 ≤ kind) (h7 : kind ≤ 7) (u : World) (hu : Shorts u A n x) (hT : TabAt u 7) (hg : 7 < u.heap.size) => guessedBody_any kind A n c width x u h2 h7 hn hnc hw hu hT hg)
  have HS := Hid.mk' hS
  have HT := Hid.mk' hT
  have HSA := Hid.mk' (fun (u : World) (hu : Below w.heap.size w u) => allSame_any A n c x u hn (hS.below hu).ints)
  have hmb : width * n ≤ 13 * 32 := Nat.mul_le_mul hw hn
  have hmg : width ≤ width * n := Nat.le_mul_of_pos_right _ hn1
  have hm : IntKind.i64.wrap ((width : Int) * (n : Int)) = ((width * n : Nat) : Int) := by
    rw [show (width : Int) * (n : Int) = ((width * n : Nat) : Int) by simp, IntKind.wrap_i64]; omega
  obtain ⟨wn, hwn⟩ : ∃ wn, wn = width * n := ⟨_, rfl⟩
  have HL1 : Hid ((bodyL 1 width x n : Int) = (wn : Int)) := by show _ = _; rw [hwn]; unfold bodyL; rw [if_neg (by omega), if_pos rfl, Nat.mul_comm]
  rw [← hwn] at hmb hmg hm
  clear hwn hS hT
  have t1 : decide ((width : Int) ≤ (wn : Int)) = true := decide_eq_true (by omega)
  have t2 : decide (width ≤ wn) = true := decide_eq_true hmg
  have HZ : Hid (Bx ((w.alloc (.cells #[.int .i64 0, .int .i64 0, .int .i64 0, .int .i64 0, .int .i64 0, .int .i64 0, .int .i64 0, .int .i64 0, .int .i64 0, .int .i64 0, .int .i64 0, .int .i64 0, .int .i64 0, .int .i64 0, .int .i64 0, .int .i64 0, .int .i64 0, .int .i64 0] 206)).alloc (.cells #[.int .i64 0, .int .i64 0, .int .i64 0, .int .i64 0, .int .i64 0, .int .i64 0, .int .i64 0, .int .i64 0, .int .i64 0, .int .i64 0, .int .i64 0, .int .i64 0, .int .i64 0, .int .i64 0, .int .i64 0, .int .i64 0, .int .i64 0, .int .i64 0] 206)) (w.heap.size + 1) 206 #[.int .i64 0, .int .i64 0, .int .i64 0, .int .i64 0, .int .i64 0, .int .i64 0, .int .i64 0, .int .i64 0, .int .i64 0, .int .i64 0, .int .i64 0, .int .i64 0, .int .i64 0, .int .i64 0, .int .i64 0, .int .i64 0, .int .i64 0, .int .i64 0]) := by
    have := Bx.new (w.alloc (.cells #[.int .i64 0, .int .i64 0, .int .i64 0, .int .i64 0, .int .i64 0, .int .i64 0, .int .i64 0, .int .i64 0, .int .i64 0, .int .i64 0, .int .i64 0, .int .i64 0, .int .i64 0, .int .i64 0, .int .i64 0, .int .i64 0, .int .i64 0, .int .i64 0] 206)) #[.int .i64 0, .int .i64 0, .int .i64 0, .int .i64 0, .int .i64 0, .int .i64 0, .int .i64 0, .int .i64 0, .int .i64 0, .int .i64 0, .int .i64 0, .int .i64 0, .int .i64 0, .int .i64 0, .int .i64 0, .int .i64 0, .int .i64 0, .int .i64 0] 206
    rw [World.size_alloc] at this
    exact this
  have HW0 : Hid (Below w.heap.size w (((w.alloc (.cells #[.int .i64 0, .int .i64 0, .int .i64 0, .int .i64 0, .int .i64 0, .int .i64 0, .int .i64 0, .int .i64 0, .int .i64 0, .int .i64 0, .int .i64 0, .int .i64 0, .int .i64 0, .int .i64 0, .int .i64 0, .int .i64 0, .int .i64 0, .int .i64 0] 206)).alloc (.cells #[.int .i64 0, .int .i64 0, .int .i64 0, .int .i64 0, .int .i64 0, .int .i64 0, .int .i64 0, .int .i64 0, .int .i64 0, .int .i64 0, .int .i64 0, .int .i64 0, .int .i64 0, .int .i64 0, .int .i64 0, .int .i64 0, .int .i64 0, .int .i64 0] 206)).setRow (w.heap.size + 1) #[.int .i64 1, .int .i64 0, .int .i64 0, .int .i64 0, .int .i64 0, .int .i64 0, .int .i64 0, .int .i64 0, .int .i64 0, .int .i64 0, .int .i64 0, .int .i64 0, .int .i64 0, .int .i64 0, .int .i64 0, .int .i64 0, .int .i64 0, .int .i64 (wn : Int)])) := below_setRow (((Below.refl w.heap.size w).alloc (Nat.le_refl _) _).alloc (by simp) _) (by omega) _
  have HR0 : Hid (Bx (((w.alloc (.cells #[.int .i64 0, .int .i64 0, .int .i64 0, .int .i64 0, .int .i64 0, .int .i64 0, .int .i64 0, .int .i64 0, .int .i64 0, .int .i64 0, .int .i64 0, .int .i64 0, .int .i64 0, .int .i64 0, .int .i64 0, .int .i64 0, .int .i64 0, .int .i64 0] 206)).alloc (.cells #[.int .i64 0, .int .i64 0, .int .i64 0, .int .i64 0, .int .i64 0, .int .i64 0, .int .i64 0, .int .i64 0, .int .i64 0, .int .i64 0, .int .i64 0, .int .i64 0, .int .i64 0, .int .i64 0, .int .i64 0, .int .i64 0, .int .i64 0, .int .i64 0] 206)).setRow (w.heap.size + 1) #[.int .i64 1, .int .i64 0, .int .i64 0, .int .i64 0, .int .i64 0, .int .i64 0, .int .i64 0, .int .i64 0, .int .i64 0, .int .i64 0, .int .i64 0, .int .i64 0, .int .i64 0, .int .i64 0, .int .i64 0, .int .i64 0, .int .i64 0, .int .i64 (wn : Int)]) w.heap.size 206 #[.int .i64 0, .int .i64 0, .int .i64 0, .int .i64 0, .int .i64 0, .int .i64 0, .int .i64 0, .int .i64 0, .int .i64 0, .int .i64 0, .int .i64 0, .int .i64 0, .int .i64 0, .int .i64 0, .int .i64 0, .int .i64 0, .int .i64 0, .int .i64 0]) := Bx.other ((Bx.new w _ _).alloc _) (by omega) _
  have HB0 : Hid (Bx (((w.alloc (.cells #[.int .i64 0, .int .i64 0, .int .i64 0, .int .i64 0, .int .i64 0, .int .i64 0, .int .i64 0, .int .i64 0, .int .i64 0, .int .i64 0, .int .i64 0, .int .i64 0, .int .i64 0, .int .i64 0, .int .i64 0, .int .i64 0, .int .i64 0, .int .i64 0] 206)).alloc (.cells #[.int .i64 0, .int .i64 0, .int .i64 0, .int .i64 0, .int .i64 0, .int .i64 0, .int .i64 0, .int .i64 0, .int .i64 0, .int .i64 0, .int .i64 0, .int .i64 0, .int .i64 0, .int .i64 0, .int .i64 0, .int .i64 0, .int .i64 0, .int .i64 0] 206)).setRow (w.heap.size + 1) #[.int .i64 1, .int .i64 0, .int .i64 0, .int .i64 0, .int .i64 0, .int .i64 0, .int .i64 0, .int .i64 0, .int .i64 0, .int .i64 0, .int .i64 0, .int .i64 0, .int .i64 0, .int .i64 0, .int .i64 0, .int .i64 0, .int .i64 0, .int .i64 (wn : Int)]) (w.heap.size + 1) 206 #[.int .i64 1, .int .i64 0, .int .i64 0, .int .i64 0, .int .i64 0, .int .i64 0, .int .i64 0, .int .i64 0, .int .i64 0, .int .i64 0, .int .i64 0, .int .i64 0, .int .i64 0, .int .i64 0, .int .i64 0, .int .i64 0, .int .i64 0, .int .i64 (wn : Int)]) := HZ.out.row _
  have HE1 : Hid (#[.int .i64 1, .int .i64 0, .int .i64 0, .int .i64 0, .int .i64 0, .int .i64 0, .int .i64 0, .int .i64 0, .int .i64 0, .int .i64 0, .int .i64 0, .int .i64 0, .int .i64 0, .int .i64 0, .int .i64 0, .int .i64 0, .int .i64 0, .int .i64 (wn : Int)] = bodyA 1 width x n) := by show _ = _; unfold bodyA; rw [HL1.out]; rfl
  have HE0 : Hid (#[.int .i64 0, .int .i64 0, .int .i64 0, .int .i64 0, .int .i64 0, .int .i64 0, .int .i64 0, .int .i64 0, .int .i64 0, .int .i64 0, .int .i64 0, .int .i64 0, .int .i64 0, .int .i64 0, .int .i64 0, .int .i64 0, .int .i64 0, .int .i64 (width : Int)] = bodyA 0 width x n) := rfl
  have HK0 : Hid (bestK width x n 0 = if allSame x n then 0 else 1) := rfl
  go_enter Tryz.func169, Tryz.ntmps169
  generalize hvs : allSame x n = vs at *
  cases vs with
  | true =>
    go_wp2_with (first
      | (go_at_call 192; refine (HSA.out _ ?_).mono ?_; exact HW0.out; rintro e w1 ⟨rfl, q, hq⟩; have HW1 : Hid (Below w.heap.size w w1) := (by rw [hq]; exact ⟨HW0.out.os, HW0.out.tape, HW0.out.output, HW0.out.size, HW0.out.block⟩); have HR1 : Hid (Bx w1 w.heap.size 206 #[.int .i64 0, .int .i64 0, .int .i64 0, .int .i64 0, .int .i64 0, .int .i64 0, .int .i64 0, .int .i64 0, .int .i64 0, .int .i64 0, .int .i64 0, .int .i64 0, .int .i64 0, .int .i64 0, .int .i64 0, .int .i64 0, .int .i64 0, .int .i64 0]) := (by rw [hq]; exact HR0.out); have HB1 : Hid (Bx w1 (w.heap.size + 1) 206 #[.int .i64 1, .int .i64 0, .int .i64 0, .int .i64 0, .int .i64 0, .int .i64 0, .int .i64 0, .int .i64 0, .int .i64 0, .int .i64 0, .int .i64 0, .int .i64 0, .int .i64 0, .int .i64 0, .int .i64 0, .int .i64 0, .int .i64 0, .int .i64 (wn : Int)]) := (by rw [hq]; exact HB0.out); have y17 := HB1.out.cell 17; simp at y17; clear hq HW0 HR0 HB0 HSA HZ)
      | (refine wpList_storeRow rfl _ _ 206 rfl (w.heap.size + 1) 206 _ _ rfl rfl HZ.out infoBody rfl rfl ?_)
      | (refine wpList_storeRow rfl _ _ 206 rfl (w.heap.size + 1) 206 _ _ rfl rfl HB1.out infoBody rfl rfl ?_))
    have HINV : Hid (Bx (w1.setRow (w.heap.size + 1) #[.int .i64 0, .int .i64 0, .int .i64 0, .int .i64 0, .int .i64 0, .int .i64 0, .int .i64 0, .int .i64 0, .int .i64 0, .int .i64 0, .int .i64 0, .int .i64 0, .int .i64 0, .int .i64 0, .int .i64 0, .int .i64 0, .int .i64 0, .int .i64 (width : Int)]) (w.heap.size + 1) 206 (bodyA (bestK width x n 0) width x n) ∧ Bx (w1.setRow (w.heap.size + 1) #[.int .i64 0, .int .i64 0, .int .i64 0, .int .i64 0, .int .i64 0, .int .i64 0, .int .i64 0, .int .i64 0, .int .i64 0, .int .i64 0, .int .i64 0, .int .i64 0, .int .i64 0, .int .i64 0, .int .i64 0, .int .i64 0, .int .i64 0, .int .i64 (width : Int)]) w.heap.size 206 #[.int .i64 0, .int .i64 0, .int .i64 0, .int .i64 0, .int .i64 0, .int .i64 0, .int .i64 0, .int .i64 0, .int .i64 0, .int .i64 0, .int .i64 0, .int .i64 0, .int .i64 0, .int .i64 0, .int .i64 0, .int .i64 0, .int .i64 0, .int .i64 0] ∧ Below w.heap.size w (w1.setRow (w.heap.size + 1) #[.int .i64 0, .int .i64 0, .int .i64 0, .int .i64 0, .int .i64 0, .int .i64 0, .int .i64 0, .int .i64 0, .int .i64 0, .int .i64 0, .int .i64 0, .int .i64 0, .int .i64 0, .int .i64 0, .int .i64 0, .int .i64 0, .int .i64 0, .int .i64 (width : Int)])) := by
      rw [HK0.out, if_pos (by trivial), ← HE0.out]
      exact ⟨HB1.out.row _, HR1.out.other (by omega) _, below_setRow HW1.out (by omega) _⟩
    clear HB1 HR1 HW1 y17
    go_loopw [6] (fun kv wr => ∃ k : Nat, 2 ≤ k ∧ k ≤ 8 ∧ kv = .int .i64 k ∧ Hid (Bx wr (w.heap.size + 1) 206 (bodyA (bestK width x n (k - 2)) width x n) ∧ Bx wr w.heap.size 206 #[.int .i64 0, .int .i64 0, .int .i64 0, .int .i64 0, .int .i64 0, .int .i64 0, .int .i64 0, .int .i64 0, .int .i64 0, .int .i64 0, .int .i64 0, .int .i64 0, .int .i64 0, .int .i64 0, .int .i64 0, .int .i64 0, .int .i64 0, .int .i64 0] ∧ Below w.heap.size w wr)) (fun kv _ => 8 - (intOf kv).toNat)
    case atStart => exact ⟨2, by omega, by omega, rfl, HINV.out⟩
    case round =>
      clear HINV
      obtain ⟨k, hk2, hk8, rfl, HI⟩ := hrel
      by_cases hk7 : k ≤ 7
      · have HG := Hid.mk' (HH.out k hk2 hk7 wr (HS.out.below HI.out.2.2) (fun r c hr hc => (HI.out.2.2.cell (p := ⟨7, 4 * r + c, none⟩) hg).trans (HT.out r c hr hc)) (Nat.lt_of_lt_of_le hg HI.out.2.2.size))
        obtain ⟨K0, hK0⟩ : ∃ K, K = bestK width x n (k - 2) := ⟨_, rfl⟩
        have hK0l := bestK_le width x n (k - 2)
        rw [← hK0] at HI hK0l
        have hbL := bodyL_bd K0 width x n (by omega) hn hw HS.out.bd (fun h => by rw [hK0]; exact bestK_ok width x n (k - 2) (by rw [← hK0]; exact h))
        have HKN : Hid (bestK width x n (k + 1 - 2) = if okG k x n = true ∧ bodyL k width x n < bodyL K0 width x n then k else K0) := by
          show _ = _
          obtain ⟨d, rfl⟩ : ∃ d, k = d + 2 := ⟨k - 2, by omega⟩
          rw [hK0]; rfl
        have hsz := HI.out.2.2.size
        have hR1 := HI.out.1.lt
        clear hK0 hK0l
        by_cases hok : okG k x n = true
        · have hbk := bodyL_bd k width x n (by omega) hn hw HS.out.bd (fun _ => hok)
          have HGA : Hid (Calls Tryz.prog 193 #[.int .i64 k, .int .i64 width, .slice A n c] wr fun e w' => e = .returned (.tuple #[.agg (bodyA k width x n), .bool true]) ∧ Below wr.heap.size wr w') := HG.out.mono fun e w' h => ⟨h.1.yes hok, h.2⟩
          have eLk : (bodyA k width x n)[17]? = some (.int .i64 (bodyL k width x n : Int)) := rfl
          have eL0 : (bodyA K0 width x n)[17]? = some (.int .i64 (bodyL K0 width x n : Int)) := rfl
          generalize hLk : bodyL k width x n = Lk at *
          generalize hL0 : bodyL K0 width x n = L0 at *
          clear HG hLk hL0
          by_cases hlt : Lk < L0
          · rw [if_pos ⟨hok, hlt⟩] at HKN
            have u1 : decide ((Lk : Int) < (L0 : Int)) = true := decide_eq_true (by omega)
            have u2 : decide (Lk < L0) = true := decide_eq_true hlt
            clear hok hlt
            go_wp2_with (first
              | (go_at_call 193; refine HGA.out.mono ?_; rintro e w2 ⟨rfl, hb2⟩; have HI2 := Hid.mk' (And.intro (HI.out.1.below hb2) (And.intro (HI.out.2.1.below hb2) (HI.out.2.2.trans (hb2.mono hsz)))); have hsz2 := hb2.size; have tn1 : ¬ w.heap.size + 1 = w2.heap.size := (by omega); have tn2 : ¬ w2.heap.size = w.heap.size + 1 := (by omega); clear hb2 HGA)
              | (refine wpList_storeRow rfl _ _ 206 rfl w2.heap.size 206 _ _ rfl rfl (Bx.new w2 #[.int .i64 0, .int .i64 0, .int .i64 0, .int .i64 0, .int .i64 0, .int .i64 0, .int .i64 0, .int .i64 0, .int .i64 0, .int .i64 0, .int .i64 0, .int .i64 0, .int .i64 0, .int .i64 0, .int .i64 0, .int .i64 0, .int .i64 0, .int .i64 0] 206) infoBody rfl rfl ?_; have HT2 := Hid.mk' ((Bx.new w2 #[.int .i64 0, .int .i64 0, .int .i64 0, .int .i64 0, .int .i64 0, .int .i64 0, .int .i64 0, .int .i64 0, .int .i64 0, .int .i64 0, .int .i64 0, .int .i64 0, .int .i64 0, .int .i64 0, .int .i64 0, .int .i64 0, .int .i64 0, .int .i64 0] 206).row (bodyA k width x n)); have HI3 := Hid.mk' (And.intro ((HI2.out.1.alloc (.cells #[.int .i64 0, .int .i64 0, .int .i64 0, .int .i64 0, .int .i64 0, .int .i64 0, .int .i64 0, .int .i64 0, .int .i64 0, .int .i64 0, .int .i64 0, .int .i64 0, .int .i64 0, .int .i64 0, .int .i64 0, .int .i64 0, .int .i64 0, .int .i64 0] 206)).other tn1 (bodyA k width x n)) (And.intro ((HI2.out.2.1.alloc (.cells #[.int .i64 0, .int .i64 0, .int .i64 0, .int .i64 0, .int .i64 0, .int .i64 0, .int .i64 0, .int .i64 0, .int .i64 0, .int .i64 0, .int .i64 0, .int .i64 0, .int .i64 0, .int .i64 0, .int .i64 0, .int .i64 0, .int .i64 0, .int .i64 0] 206)).other (g := w2.heap.size) (by omega) (bodyA k width x n)) (below_setRow (g := w2.heap.size) (HI2.out.2.2.alloc HI2.out.2.2.size (.cells #[.int .i64 0, .int .i64 0, .int .i64 0, .int .i64 0, .int .i64 0, .int .i64 0, .int .i64 0, .int .i64 0, .int .i64 0, .int .i64 0, .int .i64 0, .int .i64 0, .int .i64 0, .int .i64 0, .int .i64 0, .int .i64 0, .int .i64 0, .int .i64 0] 206)) (by omega) (bodyA k width x n)))); have x17 := HT2.out.cell 17; have y17 := HI3.out.1.cell 17; rw [eLk] at x17; rw [eL0] at y17; clear HI2)
              | (refine wpList_loadRow rfl _ 206 rfl w2.heap.size 206 (bodyA k width x n) (0, 0) _ rfl HT2.out Tryz.underlying206 rfl infoBody ?_)
              | (refine wpList_storeRow rfl _ _ 206 rfl (w.heap.size + 1) 206 _ _ rfl rfl HI3.out.1 infoBody rfl rfl ?_))
            go_roundw
            case rel => exact ⟨k + 1, by omega, by omega, by go_num, by rw [HKN.out]; exact ⟨HI3.out.1.row _, HI3.out.2.1.other (by omega) _, below_setRow HI3.out.2.2 (by omega) _⟩⟩
            case measure => simp [intOf]; omega
          · rw [if_neg (fun h => hlt h.2)] at HKN
            have u1 : decide ((Lk : Int) < (L0 : Int)) = false := decide_eq_false (by omega)
            have u2 : decide (Lk < L0) = false := decide_eq_false hlt
            clear hok hlt
            go_wp2_with (first
              | (go_at_call 193; refine HGA.out.mono ?_; rintro e w2 ⟨rfl, hb2⟩; have HI2 := Hid.mk' (And.intro (HI.out.1.below hb2) (And.intro (HI.out.2.1.below hb2) (HI.out.2.2.trans (hb2.mono hsz)))); have hsz2 := hb2.size; have tn1 : ¬ w.heap.size + 1 = w2.heap.size := (by omega); have tn2 : ¬ w2.heap.size = w.heap.size + 1 := (by omega); clear hb2 HGA)
              | (refine wpList_storeRow rfl _ _ 206 rfl w2.heap.size 206 _ _ rfl rfl (Bx.new w2 #[.int .i64 0, .int .i64 0, .int .i64 0, .int .i64 0, .int .i64 0, .int .i64 0, .int .i64 0, .int .i64 0, .int .i64 0, .int .i64 0, .int .i64 0, .int .i64 0, .int .i64 0, .int .i64 0, .int .i64 0, .int .i64 0, .int .i64 0, .int .i64 0] 206) infoBody rfl rfl ?_; have HT2 := Hid.mk' ((Bx.new w2 #[.int .i64 0, .int .i64 0, .int .i64 0, .int .i64 0, .int .i64 0, .int .i64 0, .int .i64 0, .int .i64 0, .int .i64 0, .int .i64 0, .int .i64 0, .int .i64 0, .int .i64 0, .int .i64 0, .int .i64 0, .int .i64 0, .int .i64 0, .int .i64 0] 206).row (bodyA k width x n)); have HI3 := Hid.mk' (And.intro ((HI2.out.1.alloc (.cells #[.int .i64 0, .int .i64 0, .int .i64 0, .int .i64 0, .int .i64 0, .int .i64 0, .int .i64 0, .int .i64 0, .int .i64 0, .int .i64 0, .int .i64 0, .int .i64 0, .int .i64 0, .int .i64 0, .int .i64 0, .int .i64 0, .int .i64 0, .int .i64 0] 206)).other tn1 (bodyA k width x n)) (And.intro ((HI2.out.2.1.alloc (.cells #[.int .i64 0, .int .i64 0, .int .i64 0, .int .i64 0, .int .i64 0, .int .i64 0, .int .i64 0, .int .i64 0, .int .i64 0, .int .i64 0, .int .i64 0, .int .i64 0, .int .i64 0, .int .i64 0, .int .i64 0, .int .i64 0, .int .i64 0, .int .i64 0] 206)).other (g := w2.heap.size) (by omega) (bodyA k width x n)) (below_setRow (g := w2.heap.size) (HI2.out.2.2.alloc HI2.out.2.2.size (.cells #[.int .i64 0, .int .i64 0, .int .i64 0, .int .i64 0, .int .i64 0, .int .i64 0, .int .i64 0, .int .i64 0, .int .i64 0, .int .i64 0, .int .i64 0, .int .i64 0, .int .i64 0, .int .i64 0, .int .i64 0, .int .i64 0, .int .i64 0, .int .i64 0] 206)) (by omega) (bodyA k width x n)))); have x17 := HT2.out.cell 17; have y17 := HI3.out.1.cell 17; rw [eLk] at x17; rw [eL0] at y17; clear HI2))
            go_roundw
            case rel => exact ⟨k + 1, by omega, by omega, by go_num, by rw [HKN.out]; exact HI3.out⟩
            case measure => simp [intOf]; omega
        · have hokf : okG k x n = false := by simpa using hok
          rw [if_neg (fun h => hok h.1)] at HKN
          have HGA : Hid (Calls Tryz.prog 193 #[.int .i64 k, .int .i64 width, .slice A n c] wr fun e w' => e = .returned (.tuple #[.agg zero18, .bool false]) ∧ Below wr.heap.size wr w') := HG.out.mono fun e w' h => ⟨h.1.no hokf, h.2⟩
          clear HG hok hokf
          go_wp2_with (first
            | (go_at_call 193; refine HGA.out.mono ?_; rintro e w2 ⟨rfl, hb2⟩; have HI2 := Hid.mk' (And.intro (HI.out.1.below hb2) (And.intro (HI.out.2.1.below hb2) (HI.out.2.2.trans (hb2.mono hsz)))); have hsz2 := hb2.size; have tn1 : ¬ w.heap.size + 1 = w2.heap.size := (by omega); clear hb2 HGA)
            | (refine wpList_storeRow rfl _ _ 206 rfl w2.heap.size 206 _ _ rfl rfl (Bx.new w2 #[.int .i64 0, .int .i64 0, .int .i64 0, .int .i64 0, .int .i64 0, .int .i64 0, .int .i64 0, .int .i64 0, .int .i64 0, .int .i64 0, .int .i64 0, .int .i64 0, .int .i64 0, .int .i64 0, .int .i64 0, .int .i64 0, .int .i64 0, .int .i64 0] 206) infoBody rfl rfl ?_; have HI3 := Hid.mk' (And.intro ((HI2.out.1.alloc (.cells #[.int .i64 0, .int .i64 0, .int .i64 0, .int .i64 0, .int .i64 0, .int .i64 0, .int .i64 0, .int .i64 0, .int .i64 0, .int .i64 0, .int .i64 0, .int .i64 0, .int .i64 0, .int .i64 0, .int .i64 0, .int .i64 0, .int .i64 0, .int .i64 0] 206)).other tn1 zero18) (And.intro ((HI2.out.2.1.alloc (.cells #[.int .i64 0, .int .i64 0, .int .i64 0, .int .i64 0, .int .i64 0, .int .i64 0, .int .i64 0, .int .i64 0, .int .i64 0, .int .i64 0, .int .i64 0, .int .i64 0, .int .i64 0, .int .i64 0, .int .i64 0, .int .i64 0, .int .i64 0, .int .i64 0] 206)).other (g := w2.heap.size) (by omega) zero18) (below_setRow (g := w2.heap.size) (HI2.out.2.2.alloc HI2.out.2.2.size (.cells #[.int .i64 0, .int .i64 0, .int .i64 0, .int .i64 0, .int .i64 0, .int .i64 0, .int .i64 0, .int .i64 0, .int .i64 0, .int .i64 0, .int .i64 0, .int .i64 0, .int .i64 0, .int .i64 0, .int .i64 0, .int .i64 0, .int .i64 0, .int .i64 0] 206)) (by omega) zero18))); clear HI2))
          go_roundw
          case rel => exact ⟨k + 1, by omega, by omega, by go_num, by rw [HKN.out]; exact HI3.out⟩
          case measure => simp [intOf]; omega
      · have e : k = 8 := by omega
        subst e
        go_wp2_with (first
          | (refine wpList_loadRow rfl _ 206 rfl (w.heap.size + 1) 206 (bodyA (bestK width x n 6) width x n) (0, 0) _ rfl HI.out.1 Tryz.underlying206 rfl infoBody ?_)
          | (refine wpList_storeRow rfl _ _ 206 rfl w.heap.size 206 _ _ rfl rfl HI.out.2.1 infoBody rfl rfl ?_))
        exact bodyPost_ret (res_best _ w.heap.size (bodyA (bestK width x n 6) width x n) _ (HI.out.2.1.row _) rfl rfl) rfl ⟨rfl, below_setRow HI.out.2.2 (Nat.le_refl _) _⟩
  | false =>
    go_wp2_with (first
      | (go_at_call 192; refine (HSA.out _ ?_).mono ?_; exact HW0.out; rintro e w1 ⟨rfl, q, hq⟩; have HW1 : Hid (Below w.heap.size w w1) := (by rw [hq]; exact ⟨HW0.out.os, HW0.out.tape, HW0.out.output, HW0.out.size, HW0.out.block⟩); have HR1 : Hid (Bx w1 w.heap.size 206 #[.int .i64 0, .int .i64 0, .int .i64 0, .int .i64 0, .int .i64 0, .int .i64 0, .int .i64 0, .int .i64 0, .int .i64 0, .int .i64 0, .int .i64 0, .int .i64 0, .int .i64 0, .int .i64 0, .int .i64 0, .int .i64 0, .int .i64 0, .int .i64 0]) := (by rw [hq]; exact HR0.out); have HB1 : Hid (Bx w1 (w.heap.size + 1) 206 #[.int .i64 1, .int .i64 0, .int .i64 0, .int .i64 0, .int .i64 0, .int .i64 0, .int .i64 0, .int .i64 0, .int .i64 0, .int .i64 0, .int .i64 0, .int .i64 0, .int .i64 0, .int .i64 0, .int .i64 0, .int .i64 0, .int .i64 0, .int .i64 (wn : Int)]) := (by rw [hq]; exact HB0.out); clear hq HW0 HR0 HB0 HSA HZ)
      | (refine wpList_storeRow rfl _ _ 206 rfl (w.heap.size + 1) 206 _ _ rfl rfl HZ.out infoBody rfl rfl ?_))
    have HINV : Hid (Bx w1 (w.heap.size + 1) 206 (bodyA (bestK width x n 0) width x n) ∧ Bx w1 w.heap.size 206 #[.int .i64 0, .int .i64 0, .int .i64 0, .int .i64 0, .int .i64 0, .int .i64 0, .int .i64 0, .int .i64 0, .int .i64 0, .int .i64 0, .int .i64 0, .int .i64 0, .int .i64 0, .int .i64 0, .int .i64 0, .int .i64 0, .int .i64 0, .int .i64 0] ∧ Below w.heap.size w w1) := by
      rw [HK0.out, if_neg (by simp), ← HE1.out]
      exact ⟨HB1.out, HR1.out, HW1.out⟩
    clear HB1 HR1 HW1
    go_loopw [6] (fun kv wr => ∃ k : Nat, 2 ≤ k ∧ k ≤ 8 ∧ kv = .int .i64 k ∧ Hid (Bx wr (w.heap.size + 1) 206 (bodyA (bestK width x n (k - 2)) width x n) ∧ Bx wr w.heap.size 206 #[.int .i64 0, .int .i64 0, .int .i64 0, .int .i64 0, .int .i64 0, .int .i64 0, .int .i64 0, .int .i64 0, .int .i64 0, .int .i64 0, .int .i64 0, .int .i64 0, .int .i64 0, .int .i64 0, .int .i64 0, .int .i64 0, .int .i64 0, .int .i64 0] ∧ Below w.heap.size w wr)) (fun kv _ => 8 - (intOf kv).toNat)
    case atStart => exact ⟨2, by omega, by omega, rfl, HINV.out⟩
    case round =>
      clear HINV
      obtain ⟨k, hk2, hk8, rfl, HI⟩ := hrel
      by_cases hk7 : k ≤ 7
      · have HG := Hid.mk' (HH.out k hk2 hk7 wr (HS.out.below HI.out.2.2) (fun r c hr hc => (HI.out.2.2.cell (p := ⟨7, 4 * r + c, none⟩) hg).trans (HT.out r c hr hc)) (Nat.lt_of_lt_of_le hg HI.out.2.2.size))
        obtain ⟨K0, hK0⟩ : ∃ K, K = bestK width x n (k - 2) := ⟨_, rfl⟩
        have hK0l := bestK_le width x n (k - 2)
        rw [← hK0] at HI hK0l
        have hbL := bodyL_bd K0 width x n (by omega) hn hw HS.out.bd (fun h => by rw [hK0]; exact bestK_ok width x n (k - 2) (by rw [← hK0]; exact h))
        have HKN : Hid (bestK width x n (k + 1 - 2) = if okG k x n = true ∧ bodyL k width x n < bodyL K0 width x n then k else K0) := by
          show _ = _
          obtain ⟨d, rfl⟩ : ∃ d, k = d + 2 := ⟨k - 2, by omega⟩
          rw [hK0]; rfl
        have hsz := HI.out.2.2.size
        have hR1 := HI.out.1.lt
        clear hK0 hK0l
        by_cases hok : okG k x n = true
        · have hbk := bodyL_bd k width x n (by omega) hn hw HS.out.bd (fun _ => hok)
          have HGA : Hid (Calls Tryz.prog 193 #[.int .i64 k, .int .i64 width, .slice A n c] wr fun e w' => e = .returned (.tuple #[.agg (bodyA k width x n), .bool true]) ∧ Below wr.heap.size wr w') := HG.out.mono fun e w' h => ⟨h.1.yes hok, h.2⟩
          have eLk : (bodyA k width x n)[17]? = some (.int .i64 (bodyL k width x n : Int)) := rfl
          have eL0 : (bodyA K0 width x n)[17]? = some (.int .i64 (bodyL K0 width x n : Int)) := rfl
          generalize hLk : bodyL k width x n = Lk at *
          generalize hL0 : bodyL K0 width x n = L0 at *
          clear HG hLk hL0
          by_cases hlt : Lk < L0
          · rw [if_pos ⟨hok, hlt⟩] at HKN
            have u1 : decide ((Lk : Int) < (L0 : Int)) = true := decide_eq_true (by omega)
            have u2 : decide (Lk < L0) = true := decide_eq_true hlt
            clear hok hlt
            go_wp2_with (first
              | (go_at_call 193; refine HGA.out.mono ?_; rintro e w2 ⟨rfl, hb2⟩; have HI2 := Hid.mk' (And.intro (HI.out.1.below hb2) (And.intro (HI.out.2.1.below hb2) (HI.out.2.2.trans (hb2.mono hsz)))); have hsz2 := hb2.size; have tn1 : ¬ w.heap.size + 1 = w2.heap.size := (by omega); have tn2 : ¬ w2.heap.size = w.heap.size + 1 := (by omega); clear hb2 HGA)
              | (refine wpList_storeRow rfl _ _ 206 rfl w2.heap.size 206 _ _ rfl rfl (Bx.new w2 #[.int .i64 0, .int .i64 0, .int .i64 0, .int .i64 0, .int .i64 0, .int .i64 0, .int .i64 0, .int .i64 0, .int .i64 0, .int .i64 0, .int .i64 0, .int .i64 0, .int .i64 0, .int .i64 0, .int .i64 0, .int .i64 0, .int .i64 0, .int .i64 0] 206) infoBody rfl rfl ?_; have HT2 := Hid.mk' ((Bx.new w2 #[.int .i64 0, .int .i64 0, .int .i64 0, .int .i64 0, .int .i64 0, .int .i64 0, .int .i64 0, .int .i64 0, .int .i64 0, .int .i64 0, .int .i64 0, .int .i64 0, .int .i64 0, .int .i64 0, .int .i64 0, .int .i64 0, .int .i64 0, .int .i64 0] 206).row (bodyA k width x n)); have HI3 := Hid.mk' (And.intro ((HI2.out.1.alloc (.cells #[.int .i64 0, .int .i64 0, .int .i64 0, .int .i64 0, .int .i64 0, .int .i64 0, .int .i64 0, .int .i64 0, .int .i64 0, .int .i64 0, .int .i64 0, .int .i64 0, .int .i64 0, .int .i64 0, .int .i64 0, .int .i64 0, .int .i64 0, .int .i64 0] 206)).other tn1 (bodyA k width x n)) (And.intro ((HI2.out.2.1.alloc (.cells #[.int .i64 0, .int .i64 0, .int .i64 0, .int .i64 0, .int .i64 0, .int .i64 0, .int .i64 0, .int .i64 0, .int .i64 0, .int .i64 0, .int .i64 0, .int .i64 0, .int .i64 0, .int .i64 0, .int .i64 0, .int .i64 0, .int .i64 0, .int .i64 0] 206)).other (g := w2.heap.size) (by omega) (bodyA k width x n)) (below_setRow (g := w2.heap.size) (HI2.out.2.2.alloc HI2.out.2.2.size (.cells #[.int .i64 0, .int .i64 0, .int .i64 0, .int .i64 0, .int .i64 0, .int .i64 0, .int .i64 0, .int .i64 0, .int .i64 0, .int .i64 0, .int .i64 0, .int .i64 0, .int .i64 0, .int .i64 0, .int .i64 0, .int .i64 0, .int .i64 0, .int .i64 0] 206)) (by omega) (bodyA k width x n)))); have x17 := HT2.out.cell 17; have y17 := HI3.out.1.cell 17; rw [eLk] at x17; rw [eL0] at y17; clear HI2)
              | (refine wpList_loadRow rfl _ 206 rfl w2.heap.size 206 (bodyA k width x n) (0, 0) _ rfl HT2.out Tryz.underlying206 rfl infoBody ?_)
              | (refine wpList_storeRow rfl _ _ 206 rfl (w.heap.size + 1) 206 _ _ rfl rfl HI3.out.1 infoBody rfl rfl ?_))
            go_roundw
            case rel => exact ⟨k + 1, by omega, by omega, by go_num, by rw [HKN.out]; exact ⟨HI3.out.1.row _, HI3.out.2.1.other (by omega) _, below_setRow HI3.out.2.2 (by omega) _⟩⟩
            case measure => simp [intOf]; omega
          · rw [if_neg (fun h => hlt h.2)] at HKN
            have u1 : decide ((Lk : Int) < (L0 : Int)) = false := decide_eq_false (by omega)
            have u2 : decide (Lk < L0) = false := decide_eq_false hlt
            clear hok hlt
            go_wp2_with (first
              | (go_at_call 193; refine HGA.out.mono ?_; rintro e w2 ⟨rfl, hb2⟩; have HI2 := Hid.mk' (And.intro (HI.out.1.below hb2) (And.intro (HI.out.2.1.below hb2) (HI.out.2.2.trans (hb2.mono hsz)))); have hsz2 := hb2.size; have tn1 : ¬ w.heap.size + 1 = w2.heap.size := (by omega); have tn2 : ¬ w2.heap.size = w.heap.size + 1 := (by omega); clear hb2 HGA)
              | (refine wpList_storeRow rfl _ _ 206 rfl w2.heap.size 206 _ _ rfl rfl (Bx.new w2 #[.int .i64 0, .int .i64 0, .int .i64 0, .int .i64 0, .int .i64 0, .int .i64 0, .int .i64 0, .int .i64 0, .int .i64 0, .int .i64 0, .int .i64 0, .int .i64 0, .int .i64 0, .int .i64 0, .int .i64 0, .int .i64 0, .int .i64 0, .int .i64 0] 206) infoBody rfl rfl ?_; have HT2 := Hid.mk' ((Bx.new w2 #[.int .i64 0, .int .i64 0, .int .i64 0, .int .i64 0, .int .i64 0, .int .i64 0, .int .i64 0, .int .i64 0, .int .i64 0, .int .i64 0, .int .i64 0, .int .i64 0, .int .i64 0, .int .i64 0, .int .i64 0, .int .i64 0, .int .i64 0, .int .i64 0] 206).row (bodyA k width x n)); have HI3 := Hid.mk' (And.intro ((HI2.out.1.alloc (.cells #[.int .i64 0, .int .i64 0, .int .i64 0, .int .i64 0, .int .i64 0, .int .i64 0, .int .i64 0, .int .i64 0, .int .i64 0, .int .i64 0, .int .i64 0, .int .i64 0, .int .i64 0, .int .i64 0, .int .i64 0, .int .i64 0, .int .i64 0, .int .i64 0] 206)).other tn1 (bodyA k width x n)) (And.intro ((HI2.out.2.1.alloc (.cells #[.int .i64 0, .int .i64 0, .int .i64 0, .int .i64 0, .int .i64 0, .int .i64 0, .int .i64 0, .int .i64 0, .int .i64 0, .int .i64 0, .int .i64 0, .int .i64 0, .int .i64 0, .int .i64 0, .int .i64 0, .int .i64 0, .int .i64 0, .int .i64 0] 206)).other (g := w2.heap.size) (by omega) (bodyA k width x n)) (below_setRow (g := w2.heap.size) (HI2.out.2.2.alloc HI2.out.2.2.size (.cells #[.int .i64 0, .int .i64 0, .int .i64 0, .int .i64 0, .int .i64 0, .int .i64 0, .int .i64 0, .int .i64 0, .int .i64 0, .int .i64 0, .int .i64 0, .int .i64 0, .int .i64 0, .int .i64 0, .int .i64 0, .int .i64 0, .int .i64 0, .int .i64 0] 206)) (by omega) (bodyA k width x n)))); have x17 := HT2.out.cell 17; have y17 := HI3.out.1.cell 17; rw [eLk] at x17; rw [eL0] at y17; clear HI2))
            go_roundw
            case rel => exact ⟨k + 1, by omega, by omega, by go_num, by rw [HKN.out]; exact HI3.out⟩
            case measure => simp [intOf]; omega
        · have hokf : okG k x n = false := by simpa using hok
          rw [if_neg (fun h => hok h.1)] at HKN
          have HGA : Hid (Calls Tryz.prog 193 #[.int .i64 k, .int .i64 width, .slice A n c] wr fun e w' => e = .returned (.tuple #[.agg zero18, .bool false]) ∧ Below wr.heap.size wr w') := HG.out.mono fun e w' h => ⟨h.1.no hokf, h.2⟩
          clear HG hok hokf
          go_wp2_with (first
            | (go_at_call 193; refine HGA.out.mono ?_; rintro e w2 ⟨rfl, hb2⟩; have HI2 := Hid.mk' (And.intro (HI.out.1.below hb2) (And.intro (HI.out.2.1.below hb2) (HI.out.2.2.trans (hb2.mono hsz)))); have hsz2 := hb2.size; have tn1 : ¬ w.heap.size + 1 = w2.heap.size := (by omega); clear hb2 HGA)
            | (refine wpList_storeRow rfl _ _ 206 rfl w2.heap.size 206 _ _ rfl rfl (Bx.new w2 #[.int .i64 0, .int .i64 0, .int .i64 0, .int .i64 0, .int .i64 0, .int .i64 0, .int .i64 0, .int .i64 0, .int .i64 0, .int .i64 0, .int .i64 0, .int .i64 0, .int .i64 0, .int .i64 0, .int .i64 0, .int .i64 0, .int .i64 0, .int .i64 0] 206) infoBody rfl rfl ?_; have HI3 := Hid.mk' (And.intro ((HI2.out.1.alloc (.cells #[.int .i64 0, .int .i64 0, .int .i64 0, .int .i64 0, .int .i64 0, .int .i64 0, .int .i64 0, .int .i64 0, .int .i64 0, .int .i64 0, .int .i64 0, .int .i64 0, .int .i64 0, .int .i64 0, .int .i64 0, .int .i64 0, .int .i64 0, .int .i64 0] 206)).other tn1 zero18) (And.intro ((HI2.out.2.1.alloc (.cells #[.int .i64 0, .int .i64 0, .int .i64 0, .int .i64 0, .int .i64 0, .int .i64 0, .int .i64 0, .int .i64 0, .int .i64 0, .int .i64 0, .int .i64 0, .int .i64 0, .int .i64 0, .int .i64 0, .int .i64 0, .int .i64 0, .int .i64 0, .int .i64 0] 206)).other (g := w2.heap.size) (by omega) zero18) (below_setRow (g := w2.heap.size) (HI2.out.2.2.alloc HI2.out.2.2.size (.cells #[.int .i64 0, .int .i64 0, .int .i64 0, .int .i64 0, .int .i64 0, .int .i64 0, .int .i64 0, .int .i64 0, .int .i64 0, .int .i64 0, .int .i64 0, .int .i64 0, .int .i64 0, .int .i64 0, .int .i64 0, .int .i64 0, .int .i64 0, .int .i64 0] 206)) (by omega) zero18))); clear HI2))
          go_roundw
          case rel => exact ⟨k + 1, by omega, by omega, by go_num, by rw [HKN.out]; exact HI3.out⟩
          case measure => simp [intOf]; omega
      · have e : k = 8 := by omega
        subst e
        go_wp2_with (first
          | (refine wpList_loadRow rfl _ 206 rfl (w.heap.size + 1) 206 (bodyA (bestK width x n 6) width x n) (0, 0) _ rfl HI.out.1 Tryz.underlying206 rfl infoBody ?_)
          | (refine wpList_storeRow rfl _ _ 206 rfl w.heap.size 206 _ _ rfl rfl HI.out.2.1 infoBody rfl rfl ?_))
        exact bodyPost_ret (res_best _ w.heap.size (bodyA (bestK width x n 6) width x n) _ (HI.out.2.1.row _) rfl rfl) rfl ⟨rfl, below_setRow HI.out.2.2 (Nat.le_refl _) _⟩
end Go.Proofs.YtlncjgnomhpjnaaGreatDoor

