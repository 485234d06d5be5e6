/-
  The document's reader: rests.
-/
import Derived.Test.YtlncjgnomhpjnaaDoorCursor3
namespace Go.Proofs.YtlncjgnomhpjnaaDoor
open Go.RowKit Go.Deep
set_option linter.unusedVariables false

def CRestsOut (e : Ending) (w w' : World) (B g : Nat) (s : ByteArray) (n : Nat) : Option St → Prop
  | some st => e = .returned (.bool true) ∧ w'.rowIs g 3 n (cutV n st.x) ∧ Cu w' B s st.p false ∧ ChgS (fun k => k = B ∨ k = g) w w'
  | none => e = .returned (.bool false) ∧ ChgS (fun k => k = B ∨ k = g) w w'

/-- the rests, by the kind -/
def cRestsSt (b : Nat → Bool) (N d kind n p : Nat) (x0 : Nat → Int) : Option St :=
  if kind = 7 then (if p + 12 ≤ N then restsSt b N d kind (sgn b p 6) (sgn b (p + 6) 6) n (p + 12) x0 else none) else restsSt b N d kind 0 0 n p x0

/-- what holds while the rests are read -/
structure CInv (w wr : World) (B g : Nat) (s : ByteArray) (d n : Nat) (p : Nat) (bad : Bool) (x : Nat → Int) (len : Nat) : Prop where
  row : wr.rowIs g 3 n (cutV len x)
  cu : Cu wr B s p bad
  chg : ChgS (fun k => k = B ∨ k = g) w wr
  p : p ≤ s.size
  fits : ∀ j, j < len → fitsB d (x j) = true

theorem CInv.chgB {w wr wr' : World} {B g : Nat} {s : ByteArray} {d n p : Nat} {bad : Bool} {x : Nat → Int} {len q : Nat} {bad' : Bool} (h : CInv w wr B g s d n p bad x len) (hc : Chg B wr wr') (hr : Cu wr' B s q bad') (hq : q ≤ s.size) (hg : g ≠ B) : CInv w wr' B g s d n q bad' x len :=
  ⟨hc.row h.row hg, hr, h.chg.chg hc (.inl (.inl rfl)), hq, h.fits⟩
theorem CInv.drewN {w wr : World} {B g : Nat} {s : ByteArray} {d n p : Nat} {bad : Bool} {x : Nat → Int} {len : Nat} (h : CInv w wr B g s d n p bad x len) (m : Nat) : CInv w (wr.drewN m) B g s d n p bad x len :=
  ⟨h.row, h.cu, h.chg.drewN m, h.p, h.fits⟩
theorem CInv.put {w wr : World} {B g : Nat} {s : ByteArray} {d n p : Nat} {bad : Bool} {x : Nat → Int} {len : Nat} (h : CInv w wr B g s d n p bad x len) (z : Int) (hz : fitsB d z = true) (hg : g ≠ B) :
    CInv w (wr.setCell ⟨g, len, none⟩ (.int .i64 z)) B g s d n p bad (updI x len z) (len + 1) := by
  have hch : Chg g wr (wr.setCell ⟨g, len, none⟩ (.int .i64 z)) := (Chg.refl _ _).set _ _
  refine ⟨cutV_step (x := updI x len z) (z := z) (by simp [updI]) ((h.row.set len (.int .i64 z)).congr fun i _ => ?_), hch.cu h.cu (Ne.symm hg), h.chg.chg hch (.inl (.inr rfl)), h.p, fun j hj => ?_⟩
  · by_cases e : i = len
    · simp [e]
    · simp only [if_neg e, cutV, cutI, updI]
  · by_cases e : j = len
    · simp [updI, e, hz]
    · simp only [updI, if_neg e]; exact h.fits j (by omega)

/-- a call that gives a number, or fails -/
theorem count_any (B : Nat) (s : ByteArray) (b : Nat → Bool) (k : Nat) (hs : s.size ≤ 80000) (hk : k ≤ 32) (hb : Bits s b) (p : Nat) (bad : Bool) (hp : p ≤ s.size) :
    ∃ v p', ∃ bad' : Bool, Hid (∀ u, Cu u B s p bad → Calls Tryd.prog 52 #[.pointer (some ⟨B, 0, none⟩), .int .i64 k] u fun e u' => e = .returned (.int .i64 (v : Nat)) ∧ Cu u' B s p' bad' ∧ Chg B u u') ∧ p' ≤ s.size ∧
      ((bad = false ∧ p + k ≤ s.size ∧ v = num b p k ∧ p' = p + k ∧ bad' = false) ∨ (¬ (bad = false ∧ p + k ≤ s.size) ∧ v = 0 ∧ bad' = true)) := by
  by_cases h : bad = false ∧ p + k ≤ s.size
  · obtain ⟨rfl, h⟩ := h
    exact ⟨num b p k, p + k, false, fun u hu => count_yes B s b p k u hs hk hu h hb, h, .inl ⟨rfl, h, rfl, rfl, rfl⟩⟩
  · refine ⟨0, p, true, fun u hu => count_no B s p k u hs hk ⟨hp, bad, hu, ?_⟩, hp, .inr ⟨h, rfl, rfl⟩⟩
    cases bad with
    | true => exact .inl rfl
    | false => right; simp only [true_and] at h; omega
theorem short_any (B : Nat) (s : ByteArray) (b : Nat → Bool) (k : Nat) (hs : s.size ≤ 80000) (hk1 : 1 ≤ k) (hk : k ≤ 16) (hb : Bits s b) (p : Nat) (bad : Bool) (hp : p ≤ s.size) :
    ∃ v p', ∃ bad' : Bool, Hid (∀ u, Cu u B s p bad → Calls Tryd.prog 54 #[.pointer (some ⟨B, 0, none⟩), .int .i64 k] u fun e u' => e = .returned (.int .i64 v) ∧ Cu u' B s p' bad' ∧ Chg B u u') ∧ p' ≤ s.size ∧
      ((bad = false ∧ p + k ≤ s.size ∧ v = sgn b p k ∧ p' = p + k ∧ bad' = false) ∨ (¬ (bad = false ∧ p + k ≤ s.size) ∧ v = 0 ∧ bad' = true)) := by
  by_cases h : bad = false ∧ p + k ≤ s.size
  · obtain ⟨rfl, h⟩ := h
    exact ⟨sgn b p k, p + k, false, fun u hu => short_yes B s b p k u hs hk1 hk hu h hb, h, .inl ⟨rfl, h, rfl, rfl, rfl⟩⟩
  · refine ⟨0, p, true, fun u hu => short_no B s p k u hs (by omega) ⟨hp, bad, hu, ?_⟩, hp, .inr ⟨h, rfl, rfl⟩⟩
    cases bad with
    | true => exact .inl rfl
    | false => right; simp only [true_and] at h; omega

/-- what stands behind the head of the rests -/
structure Head (b : Nat → Bool) (N d kind n p : Nat) (bad : Bool) (x0 : Nat → Int) (a c : Int) (q p3 : Nat) (b3 : Bool) (oo : Option St) : Prop where
  q3 : q ≤ 3
  pN : p3 ≤ N
  no : b3 = true → oo = none
  yes : b3 = false → bad = false ∧ ∃ J : Job, (J.b = b ∧ J.N = N ∧ J.w = d ∧ J.kind = kind ∧ J.a = a ∧ J.c = c ∧ J.size = n / 2 ^ q) ∧ oo = if cutB n (ord kind) q = true then J.R ⟨p3, 0, x0⟩ n else none

theorem head7 {b : Nat → Bool} {N d n p : Nat} {bad : Bool} {x0 : Nat → Int} {a c : Int} {q p1 p2 p3 : Nat} {b1 b2 b3 : Bool} {oo : Option St} (hp3 : p3 ≤ N)
    (hS1 : (bad = false ∧ p + 6 ≤ N ∧ a = sgn b p 6 ∧ p1 = p + 6 ∧ b1 = false) ∨ (¬ (bad = false ∧ p + 6 ≤ N) ∧ a = 0 ∧ b1 = true))
    (hS2 : (b1 = false ∧ p1 + 6 ≤ N ∧ c = sgn b p1 6 ∧ p2 = p1 + 6 ∧ b2 = false) ∨ (¬ (b1 = false ∧ p1 + 6 ≤ N) ∧ c = 0 ∧ b2 = true))
    (hQ : (b2 = false ∧ p2 + 2 ≤ N ∧ q = num b p2 2 ∧ p3 = p2 + 2 ∧ b3 = false) ∨ (¬ (b2 = false ∧ p2 + 2 ≤ N) ∧ q = 0 ∧ b3 = true))
    (hoo : (if bad = true then none else cRestsSt b N d 7 n p x0) = oo) : Head b N d 7 n p bad x0 a c q p3 b3 oo := by
  have hn2 := num_lt b p2 2
  refine ⟨by omega, hp3, fun e => ?_, fun e => ?_⟩
  · subst e
    rw [← hoo]
    split
    · rfl
    · rename_i hb
      unfold cRestsSt
      rw [if_pos rfl]
      split
      · rename_i h12
        rcases hS1 with ⟨e1, h1, -, rfl, rfl⟩ | ⟨h, -, -⟩
        · rcases hS2 with ⟨-, h2, -, rfl, rfl⟩ | ⟨h, -, -⟩
          · rcases hQ with ⟨-, -, -, -, h⟩ | ⟨h, -, -⟩
            · cases h
            · unfold restsSt
              rw [if_neg]
              intro h3
              exact h ⟨rfl, by omega⟩
          · exact absurd ⟨rfl, by omega⟩ h
        · exact absurd ⟨by simpa using hb, by omega⟩ h
      · rfl
  · subst e
    rcases hQ with ⟨rfl, h3, rfl, rfl, -⟩ | ⟨-, -, h⟩
    · rcases hS2 with ⟨rfl, h2, rfl, rfl, -⟩ | ⟨-, -, h⟩
      · rcases hS1 with ⟨rfl, h1, rfl, rfl, -⟩ | ⟨-, -, h⟩
        · refine ⟨rfl, theJob b N d 7 (sgn b p 6) (sgn b (p + 6) 6) n (p + 6 + 6), ⟨rfl, rfl, rfl, rfl, rfl, rfl, rfl⟩, ?_⟩
          rw [← hoo, if_neg (by simp)]
          unfold cRestsSt
          rw [if_pos rfl, if_pos (by omega)]
          unfold restsSt
          simp only [show p + 12 = p + 6 + 6 by omega, h3, true_and]
        · cases h
      · cases h
    · cases h
theorem headF {b : Nat → Bool} {N d kind n p : Nat} {bad : Bool} {x0 : Nat → Int} {q p3 : Nat} {b3 : Bool} {oo : Option St} (hk : ¬ kind = 7) (hp3 : p3 ≤ N)
    (hQ : (bad = false ∧ p + 2 ≤ N ∧ q = num b p 2 ∧ p3 = p + 2 ∧ b3 = false) ∨ (¬ (bad = false ∧ p + 2 ≤ N) ∧ q = 0 ∧ b3 = true))
    (hoo : (if bad = true then none else cRestsSt b N d kind n p x0) = oo) : Head b N d kind n p bad x0 0 0 q p3 b3 oo := by
  have hn2 := num_lt b p 2
  refine ⟨by omega, hp3, fun e => ?_, fun e => ?_⟩
  · subst e
    rw [← hoo]
    split
    · rfl
    · rename_i hb
      unfold cRestsSt
      rw [if_neg hk]
      rcases hQ with ⟨-, -, -, -, h⟩ | ⟨h, -, -⟩
      · cases h
      · unfold restsSt
        rw [if_neg]
        intro h3
        exact h ⟨by simpa using hb, h3.1⟩
  · subst e
    rcases hQ with ⟨rfl, h3, rfl, rfl, -⟩ | ⟨-, -, h⟩
    · refine ⟨rfl, theJob b N d kind 0 0 n p, ⟨rfl, rfl, rfl, rfl, rfl, rfl, rfl⟩, ?_⟩
      rw [← hoo, if_neg (by simp)]
      unfold cRestsSt
      rw [if_neg hk]
      unfold restsSt
      simp only [h3, true_and]
    · cases h

theorem cGuess_any (kind : Nat) (a c : Int) (g n i len : Nat) (x : Nat → Int) (w : World) (h2 : 2 ≤ kind) (h7 : kind ≤ 7) (ha : -32 ≤ a ∧ a ≤ 32) (hc : -32 ≤ c ∧ c ≤ 32) (hn : n ≤ 32) (hi : i < n) (hoi : ord kind ≤ i) (hX : ∀ j, j < i → -4096 ≤ x j ∧ x j ≤ 4096)
    (hrow : w.rowIs g 3 n (cutV len x)) (hil : i ≤ len) (hT : TabAt w 3) :
    Calls Tryd.prog 70 #[.int .i64 kind, .int .i64 a, .int .i64 c, .slice (some ⟨g, 0, none⟩) n n, .int .i64 i] w fun e w' => e = .returned (.int .i64 (guessG kind a c x i)) ∧ ∃ m, w' = w.drewN m := by
  by_cases h : kind = 7
  · subst h
    exact cGuess7_any a c g n i len x w ha hc hn hi hoi hX hrow hil
  · refine cGuessF_any kind a c g n i len x w h2 (by omega) hn hi ?_ hX hrow hil hT
    unfold ord at hoi
    rw [if_neg h] at hoi
    exact hoi
theorem ChgS.tab {S : Nat → Prop} {w w' : World} (h : ChgS S w w') (hT : TabAt w 3) (h3 : 3 < w.heap.size) (hS : ¬ S 3) : TabAt w' 3 := by
  intro r c hr hc
  have := hT r c hr hc
  simp only [World.cell?, h.block 3 h3 hS] at this ⊢
  exact this

end Go.Proofs.YtlncjgnomhpjnaaDoor
