import Derived.Test.YtlncjgnomhpjnaaGreatDoorKChan
import Derived.Test.YtlncjgnomhpjnaaGreatDoorKFrameTop
/-
  What a right configuration, a sound and a block are, in the document: reelref.Right, even.
-/
namespace Go.Proofs.YtlncjgnomhpjnaaGreatDoor
open Go.RowKit Go.Deep
set_option linter.unusedVariables false

theorem rightB_iff (c0 c1 c2 c3 c4 c5 c6 c7 : Int) : rightB c0 c1 c2 c3 c4 c5 c6 c7 = true ↔
    (1 ≤ c0 ∧ c0 ≤ 4) ∧ (4 ≤ c1 ∧ c1 ≤ 12) ∧ (1 ≤ c2 ∧ c2 ≤ 32) ∧ (0 ≤ c3 ∧ c3 ≤ 65535) ∧ (0 ≤ c4 ∧ c4 ≤ 255) ∧ (1 ≤ c5 ∧ c5 ≤ 8) ∧ (1 ≤ c6 ∧ c6 ≤ 16) ∧ (1 ≤ c7 ∧ c7 ≤ 8) := by
  simp only [rightB, Bool.and_eq_true, within_iff]

set_option maxHeartbeats 4000000 in
theorem right_any (c0 c1 c2 c3 c4 c5 c6 c7 : Int) (w : World) :
    Calls Tryz.prog 69 #[.agg #[.int .i64 c0, .int .i64 c1, .int .i64 c2, .int .i64 c3, .int .i64 c4, .int .i64 c5, .int .i64 c6, .int .i64 c7]] w fun e w' =>
      Says e (rightB c0 c1 c2 c3 c4 c5 c6 c7 = true) ∧ Below w.heap.size w w' := by
  have fin : ∀ o, Below w.heap.size w (w.alloc o) := fun o => (Below.refl _ _).alloc (Nat.le_refl _) _
  go_enter Tryz.func69, Tryz.ntmps69
  go_wp2
  all_goals go_ret
  all_goals first
    | exact ⟨Says.no (fun h => by rw [rightB_iff] at h; omega), fin _⟩
    | exact ⟨⟨_, rfl, by rw [rightB_iff]; simp; omega⟩, fin _⟩

set_option maxHeartbeats 1000000 in
theorem even_any (lo hi : Int) (c0 c2 c3 c4 c5 c6 c7 : Int) (d : Nat) (a : Option Addr) (n cap : Nat) (A : Nat → Option Addr) (L C : Nat → Nat) (F : Nat → Nat → Int) (w : World) (hc0 : 1 ≤ c0) (h1 : 1 ≤ d) (h2 : d ≤ 13) (hn : n ≤ 17592186044416) (hL : ∀ i, i < n → L i ≤ 17592186044416)
    (hA : ListsAt w a n A L C) (hI : ∀ i, i < n → IntsAt w (A i) (L i) (F i)) (hlow : Low w.heap.size a n A L) :
    Calls Tryz.prog 70 #[.agg #[.int .i64 c0, .int .i64 d, .int .i64 c2, .int .i64 c3, .int .i64 c4, .int .i64 c5, .int .i64 c6, .int .i64 c7], .slice a n cap, .int .i64 lo, .int .i64 hi] w fun e w' =>
      Says e (ChanP c0 d n lo hi L F) ∧ Below w.heap.size w w' := by
  have hb : Below w.heap.size w (w.alloc (.cells #[.int .i64 c0, .int .i64 d, .int .i64 c2, .int .i64 c3, .int .i64 c4, .int .i64 c5, .int .i64 c6, .int .i64 c7] 23)) := (Below.refl _ _).alloc (Nat.le_refl _) _
  by_cases hnc : (n : Int) = c0
  · subst hnc
    have hbN : ∀ m, Below w.heap.size w (World.drewN (w.alloc (.cells #[.int .i64 n, .int .i64 d, .int .i64 c2, .int .i64 c3, .int .i64 c4, .int .i64 c5, .int .i64 c6, .int .i64 c7] 23)) m) := fun m => ⟨hb.os, hb.tape, hb.output, hb.size, hb.block⟩
    have hA1 := hA.below hb hlow.1
    have hI1 : ∀ i, i < n → IntsAt _ (A i) (L i) (F i) := fun i hi => (hI i hi).below hb (hlow.2 i hi)
    obtain ⟨b, off, rfl, hc⟩ := hA1.open (by omega)
    clear hA hI hA1 hlow
    have HI : Hid (∀ i, i < n → IntsAt _ (A i) (L i) (F i)) := hI1
    have HL : Hid (∀ i, i < n → L i ≤ 17592186044416) := hL
    have hL0 := hL 0 (by omega)
    have HC : Hid _ := hc
    have hc00 : _ = some (Value.slice (A 0) (L 0) (C 0)) := hc 0 (by omega)
    simp only [Nat.add_zero] at hc00
    clear hI1 hL hc
    by_cases h300 : lo ≤ (L 0 : Int) ∧ (L 0 : Int) ≤ hi
    · have HW := Hid.mk' ((within_iff (L 0 : Int) lo hi).2 h300)
      have td1 : decide ((L 0 : Int) < lo) = false := decide_eq_false (by omega)
      have td2 : decide (hi < (L 0 : Int)) = false := decide_eq_false (by omega)
      clear h300
      go_enter Tryz.func70, Tryz.ntmps70
      go_wp2
      go_loopw [9, 10, 11] (fun i _ _ wr => ∃ k : Nat, k ≤ n ∧ i = .int .i64 k ∧ Hid (∀ i, i < k → L i = L 0 ∧ ∀ j, j < L i → fitsB d (F i j) = true) ∧ ∃ m, wr = World.drewN (w.alloc (.cells #[.int .i64 n, .int .i64 d, .int .i64 c2, .int .i64 c3, .int .i64 c4, .int .i64 c5, .int .i64 c6, .int .i64 c7] 23)) m) (fun i _ _ _ => n - (intOf i).toNat)
      case atStart => exact ⟨0, Nat.zero_le _, rfl, fun i hi => absurd hi (by omega), 0, rfl⟩
      case round =>
        obtain ⟨k, hk, rfl, HK, m, rfl⟩ := hrel
        by_cases hlt : k < n
        · have hck := HC.out k hlt
          have hLk := HL.out k hlt
          have hIk := HI.out k hlt
          by_cases hLe : L k = L 0
          · have HE : Hid (L k = L 0) := hLe
            have ht : ((L k : Int) != (L 0 : Int)) = false := by simp [hLe]
            clear hLe
            go_wp2
            go_region
            all_goals go_wp2
            go_loopw [8, 10, 11] (fun _ i _ wr => ∃ j : Nat, j ≤ L k ∧ i = .int .i64 j ∧ Hid (∀ i, i < j → fitsB d (F k i) = true) ∧ ∃ m, wr = World.drewN (w.alloc (.cells #[.int .i64 n, .int .i64 d, .int .i64 c2, .int .i64 c3, .int .i64 c4, .int .i64 c5, .int .i64 c6, .int .i64 c7] 23)) m) (fun _ i _ _ => L k - (intOf i).toNat)
            case atStart => exact ⟨0, Nat.zero_le _, rfl, fun i hi => absurd hi (by omega), m + 1, rfl⟩
            case round =>
              obtain ⟨j, hj, rfl, HJ, m2, rfl⟩ := hrel
              by_cases hjl : j < L k
              · obtain ⟨b2, off2, hx, hc2⟩ := hIk.open (by omega)
                have hcj := hc2 j hjl
                rw [hx] at hck
                clear hc2 hIk
                cases hf : fitsB d (F k j)
                · go_wp2
                  go_quiet ((go_at_call 108; exact (cFits_any _ _ _ h1 h2).mono fun _ _ h => ⟨h.1, _, h.2⟩))
                  go_wp2
                  go_ret
                  exact ⟨Says.no (fun h => by rw [(h.2.2 k hlt).2 j hjl] at hf; cases hf), hbN _⟩
                · go_wp2
                  go_quiet ((go_at_call 108; exact (cFits_any _ _ _ h1 h2).mono fun _ _ h => ⟨h.1, _, h.2⟩))
                  go_wp2
                  go_roundw
                  case rel =>
                    refine ⟨j + 1, by omega, by go_num, fun i hi => ?_, _, rfl⟩
                    by_cases e : i = j
                    · subst e; exact hf
                    · exact HJ.out i (by omega)
                  case measure => simp [intOf]; omega
              · have e : j = L k := by omega
                subst e
                go_wp2
                go_roundw
                case rel =>
                  refine ⟨k + 1, by omega, by go_num, fun i hi => ?_, _, rfl⟩
                  by_cases e : i = k
                  · subst e; exact ⟨HE.out, HJ.out⟩
                  · exact HK.out i (by omega)
                case measure => simp [intOf]; omega
          · have HE : Hid (¬ L k = L 0) := hLe
            have ht : ((L k : Int) != (L 0 : Int)) = true := by simp; omega
            clear hLe
            go_wp2
            go_region
            all_goals go_wp2
            go_ret
            exact ⟨Says.no (fun h => HE.out (h.2.2 k hlt).1), hbN _⟩
        · have e : k = n := by omega
          subst e
          go_wp2
          go_ret
          exact ⟨Says.yes ⟨rfl, HW.out, HK.out⟩, hbN _⟩
    · have HW : Hid (¬ within (L 0 : Int) lo hi = true) := fun h => h300 ((within_iff _ _ _).1 h)
      by_cases hlo : (L 0 : Int) < lo
      · have td1 : decide ((L 0 : Int) < lo) = true := decide_eq_true hlo
        clear h300 hlo
        go_enter Tryz.func70, Tryz.ntmps70
        go_wp2
        go_ret
        exact ⟨Says.no (fun h => HW.out h.2.1), hb⟩
      · have td1 : decide ((L 0 : Int) < lo) = false := decide_eq_false hlo
        have td2 : decide (hi < (L 0 : Int)) = true := decide_eq_true (by omega)
        clear h300 hlo
        go_enter Tryz.func70, Tryz.ntmps70
        go_wp2
        go_ret
        exact ⟨Says.no (fun h => HW.out h.2.1), hb⟩
  · have hne : ((n : Int) != c0) = true := by simpa using hnc
    go_enter Tryz.func70, Tryz.ntmps70
    go_wp2
    go_ret
    exact ⟨Says.no (fun h => hnc h.1), hb⟩

end Go.Proofs.YtlncjgnomhpjnaaGreatDoor

/-
  The remainder, reckoned byte by byte: for examples.
-/
namespace Go.Proofs.YtlncjgnomhpjnaaGreatDoor
set_option linter.unusedVariables false

def stepB (k D R : Nat) : Nat := if R * 2 / 2 ^ k = 1 then (R * 2) ^^^ D else R * 2
def stepsB (k D : Nat) : Nat → Nat → Nat
  | 0, R => R
  | t + 1, R => stepB k D (stepsB k D t R)
def byteB (k D R c : Nat) : Nat := stepsB k D 8 (R ^^^ c * 2 ^ (k - 8))
def remB (k D : Nat) (l : List UInt8) : Nat := l.foldl (fun R c => byteB k D R c.toNat) 0

theorem step_good {k D : Nat} {m : Nat → Bool} {i e R : Nat} (hk : 8 ≤ k) (hD : D < 2 ^ (k + 1)) (hD1 : D.testBit k = true) (hi : i < e) (he : e ≤ i + 8) (h : Good k D m i e R) : Good k D m (i + 1) e (stepB k D R) := by
  unfold stepB
  split
  · exact good_yes hk hD hD1 hi he h (by assumption)
  · exact good_no hk hi he h (by assumption)
theorem steps_good {k D : Nat} {m : Nat → Bool} {i R : Nat} (hk : 8 ≤ k) (hD : D < 2 ^ (k + 1)) (hD1 : D.testBit k = true) (h : Good k D m i (i + 8) R) : ∀ t, t ≤ 8 → Good k D m (i + t) (i + 8) (stepsB k D t R)
  | 0, _ => h
  | t + 1, ht => step_good (i := i + t) (e := i + 8) hk hD hD1 (by omega) (by omega) (steps_good hk hD hD1 h t (by omega))
theorem remB_good {k D : Nat} (l : List UInt8) (hk : 8 ≤ k) (hD : D < 2 ^ (k + 1)) (hD1 : D.testBit k = true) : ∀ i, i ≤ l.length → Good k D (msgBit l) (8 * i) (8 * i) (remB k D (l.take i))
  | 0, _ => by simpa [remB] using good_zero k D (msgBit l)
  | i + 1, hi => by
    have ih := remB_good l hk hD hD1 i (by omega)
    have hlt : i < l.length := by omega
    have e : remB k D (l.take (i + 1)) = byteB k D (remB k D (l.take i)) l[i].toNat := by
      unfold remB
      rw [List.take_succ_eq_append_getElem hlt, List.foldl_append]
      rfl
    rw [e]
    have hs := good_start (c := l[i].toNat) hk (UInt8.toNat_lt _) (fun x hx => by
      rw [msgBit_byte _ _ _ hx, List.getD_eq_getElem?_getD, List.getElem?_eq_getElem hlt]; rfl) ih
    have := steps_good hk hD hD1 hs 8 (by omega)
    rw [show 8 * (i + 1) = 8 * i + 8 by omega]
    exact this
theorem crc_fast {k D : Nat} (l : List UInt8) (hk : 8 ≤ k) (hD : D < 2 ^ (k + 1)) (hD1 : D.testBit k = true) : crc k D l = remB k D l := by
  have h := remB_good l hk hD hD1 l.length (Nat.le_refl _)
  rw [List.take_length] at h
  exact good_inj (crc_good k D l) h
theorem crc8_fast (l : List UInt8) : crc 8 263 l = remB 8 263 l := crc_fast l (by decide) (by decide) (by decide)
theorem crc16_fast (l : List UInt8) : crc 16 98309 l = remB 16 98309 l := crc_fast l (by decide) (by decide) (by decide)

def exF (_ _ : Nat) : Int := 1
def exFr : ByteArray := ⟨#[165, 0, 1, 0, 12, 0, 0, 25, 0, 16, 217, 212]⟩
theorem ex_ok : frameOk 1 4 2 8 1 2 2 1 1 1 (fun _ => 1) exF := ⟨by decide, by decide, rfl, by decide, fun i hi => ⟨rfl, fun j hj => by unfold exF; decide⟩⟩
theorem ex_frame : bs (frameT 1 1 (modeN 4 1 exF 1) (blockT 4 1 exF 1)) = exFr := by
  unfold frameT seal16 seal8
  rw [crc8_fast, crc16_fast]
  kernel_rfl
theorem ex_FS : frameS 1 4 2 8 1 2 2 1 1 1 (fun _ => 1) exF = exFr := (frame_yes ex_ok).1.trans ex_frame
theorem ex_FE : frameE 1 4 2 8 1 2 2 1 1 1 (fun _ => 1) exF = 0 := (frame_yes ex_ok).2
end Go.Proofs.YtlncjgnomhpjnaaGreatDoor
