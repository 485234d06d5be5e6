import Derived.Test.YtlncjgnomhpjnaaGreatDoorKFrameTop
/-
  The remainder, reckoned byte by byte: for examples.
-/
namespace Go.Proofs.YtlncjgnomhpjnaaGreatDoor
set_option linter.unusedVariables false

def stepB (k D R : Nat) : Nat := if R * 2 / 2 ^ k = 1 then (R * 2) ^^^ D else R * 2
def stepsB (k D : Nat) : Nat → Nat → Nat
  | 0, R => R
  | t + 1, R => stepB k D (stepsB k D t R)
def byteB (k D R c : Nat) : Nat := stepsB k D 8 (R ^^^ c * 2 ^ (k - 8))
def remB (k D : Nat) (l : List UInt8) : Nat := l.foldl (fun R c => byteB k D R c.toNat) 0

theorem step_good {k D : Nat} {m : Nat → Bool} {i e R : Nat} (hk : 8 ≤ k) (hD : D < 2 ^ (k + 1)) (hD1 : D.testBit k = true) (hi : i < e) (he : e ≤ i + 8) (h : Good k D m i e R) : Good k D m (i + 1) e (stepB k D R) := by
  unfold stepB
  split
  · exact good_yes hk hD hD1 hi he h (by assumption)
  · exact good_no hk hi he h (by assumption)
theorem steps_good {k D : Nat} {m : Nat → Bool} {i R : Nat} (hk : 8 ≤ k) (hD : D < 2 ^ (k + 1)) (hD1 : D.testBit k = true) (h : Good k D m i (i + 8) R) : ∀ t, t ≤ 8 → Good k D m (i + t) (i + 8) (stepsB k D t R)
  | 0, _ => h
  | t + 1, ht => step_good (i := i + t) (e := i + 8) hk hD hD1 (by omega) (by omega) (steps_good hk hD hD1 h t (by omega))
theorem remB_good {k D : Nat} (l : List UInt8) (hk : 8 ≤ k) (hD : D < 2 ^ (k + 1)) (hD1 : D.testBit k = true) : ∀ i, i ≤ l.length → Good k D (msgBit l) (8 * i) (8 * i) (remB k D (l.take i))
  | 0, _ => by simpa [remB] using good_zero k D (msgBit l)
  | i + 1, hi => by
    have ih := remB_good l hk hD hD1 i (by omega)
    have hlt : i < l.length := by omega
    have e : remB k D (l.take (i + 1)) = byteB k D (remB k D (l.take i)) l[i].toNat := by
      unfold remB
      rw [List.take_succ_eq_append_getElem hlt, List.foldl_append]
      rfl
    rw [e]
    have hs := good_start (c := l[i].toNat) hk (UInt8.toNat_lt _) (fun x hx => by
      rw [msgBit_byte _ _ _ hx, List.getD_eq_getElem?_getD, List.getElem?_eq_getElem hlt]; rfl) ih
    have := steps_good hk hD hD1 hs 8 (by omega)
    rw [show 8 * (i + 1) = 8 * i + 8 by omega]
    exact this
theorem crc_fast {k D : Nat} (l : List UInt8) (hk : 8 ≤ k) (hD : D < 2 ^ (k + 1)) (hD1 : D.testBit k = true) : crc k D l = remB k D l := by
  have h := remB_good l hk hD hD1 l.length (Nat.le_refl _)
  rw [List.take_length] at h
  exact good_inj (crc_good k D l) h
theorem crc8_fast (l : List UInt8) : crc 8 263 l = remB 8 263 l := crc_fast l (by decide) (by decide) (by decide)
theorem crc16_fast (l : List UInt8) : crc 16 98309 l = remB 16 98309 l := crc_fast l (by decide) (by decide) (by decide)

def exF (_ _ : Nat) : Int := 1
def exFr : ByteArray := ⟨#[165, 0, 1, 0, 12, 0, 0, 25, 0, 16, 217, 212]⟩
theorem ex_ok : frameOk 1 4 2 8 1 2 2 1 1 1 (fun _ => 1) exF := ⟨by decide, by decide, rfl, by decide, fun i hi => ⟨rfl, fun j hj => by unfold exF; decide⟩⟩
theorem ex_frame : bs (frameT 1 1 (modeN 4 1 exF 1) (blockT 4 1 exF 1)) = exFr := by
  unfold frameT seal16 seal8
  rw [crc8_fast, crc16_fast]
  kernel_rfl
theorem ex_FS : frameS 1 4 2 8 1 2 2 1 1 1 (fun _ => 1) exF = exFr := (frame_yes ex_ok).1.trans ex_frame
theorem ex_FE : frameE 1 4 2 8 1 2 2 1 1 1 (fun _ => 1) exF = 0 := (frame_yes ex_ok).2
end Go.Proofs.YtlncjgnomhpjnaaGreatDoor

