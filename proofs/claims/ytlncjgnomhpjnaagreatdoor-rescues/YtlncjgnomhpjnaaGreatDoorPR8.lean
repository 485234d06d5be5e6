import Derived.Test.YtlncjgnomhpjnaaGreatDoorPR7
import Derived.Test.YtlncjgnomhpjnaaGreatDoorPR6
import Derived.Test.YtlncjgnomhpjnaaGreatDoorPR5
import Derived.Test.YtlncjgnomhpjnaaGreatDoorPR2
import Derived.Deep.QuietTactic
import Derived.BigQuiet
import Derived.Deep.RegionWith
import Derived.WalkKit
import Derived.Test.YtlncjgnomhpjnaaGreatDoorPR1
/-
  The document's reader: rests.
-/
namespace Go.Proofs.YtlncjgnomhpjnaaGreatDoor
open Go.RowKit Go.Deep
set_option linter.unusedVariables false
def CRestsOut (e : Ending) (w w' : World) (B g : Nat) (s : ByteArray) (n : Nat) : Option St → Prop
  | some st => e = .returned (.bool true) ∧ w'.rowIs g 3 n (cutV n st.x) ∧ Cu w' B s st.p false ∧ ChgS (fun k => k = B ∨ k = g) w w'
  | none => e = .returned (.bool false) ∧ ChgS (fun k => k = B ∨ k = g) w w'
/-- the rests, by the kind -/
def cRestsSt (b : Nat → Bool) (N d kind n p : Nat) (x0 : Nat → Int) : Option St :=
  if kind = 7 then (if p + 12 ≤ N then restsSt b N d kind (sgn b p 6) (sgn b (p + 6) 6) n (p + 12) x0 else none) else restsSt b N d kind 0 0 n p x0
/-- what holds while the rests are read -/
structure CInv (w wr : World) (B g : Nat) (s : ByteArray) (d n : Nat) (p : Nat) (bad : Bool) (x : Nat → Int) (len : Nat) : Prop where
  row : wr.rowIs g 3 n (cutV len x)
  cu : Cu wr B s p bad
  chg : ChgS (fun k => k = B ∨ k = g) w wr
  p : p ≤ s.size
  fits : ∀ j, j < len → fitsB d (x j) = true
theorem CInv.chgB {w wr wr' : World} {B g : Nat} {s : ByteArray} {d n p : Nat} {bad : Bool} {x : Nat → Int} {len q : Nat} {bad' : Bool} (h : CInv w wr B g s d n p bad x len) (hc : Chg B wr wr') (hr : Cu wr' B s q bad') (hq : q ≤ s.size) (hg : g ≠ B) : CInv w wr' B g s d n q bad' x len :=
  ⟨hc.row h.row hg, hr, h.chg.chg hc (.inl (.inl rfl)), hq, h.fits⟩
theorem CInv.drewN {w wr : World} {B g : Nat} {s : ByteArray} {d n p : Nat} {bad : Bool} {x : Nat → Int} {len : Nat} (h : CInv w wr B g s d n p bad x len) (m : Nat) : CInv w (wr.drewN m) B g s d n p bad x len :=
  ⟨h.row, h.cu, h.chg.drewN m, h.p, h.fits⟩
theorem CInv.put {w wr : World} {B g : Nat} {s : ByteArray} {d n p : Nat} {bad : Bool} {x : Nat → Int} {len : Nat} (h : CInv w wr B g s d n p bad x len) (z : Int) (hz : fitsB d z = true) (hg : g ≠ B) :
    CInv w (wr.setCell ⟨g, len, none⟩ (.int .i64 z)) B g s d n p bad (updI x len z) (len + 1) := by
  have hch : Chg g wr (wr.setCell ⟨g, len, none⟩ (.int .i64 z)) := (Chg.refl _ _).set _ _
  refine ⟨cutV_step (x := updI x len z) (z := z) (by simp [updI]) ((h.row.set len (.int .i64 z)).congr fun i _ => ?_), hch.cu h.cu (Ne.symm hg), h.chg.chg hch (.inl (.inr rfl)), h.p, fun j hj => ?_⟩
  · by_cases e : i = len
    · simp [e]
    · simp only [if_neg e, cutV, cutI, updI]
  · by_cases e : j = len
    · simp [updI, e, hz]
    · simp only [updI, if_neg e]; exact h.fits j (by omega)
/-- a call that gives a number, or fails -/
theorem count_any (B : Nat) (s : ByteArray) (b : Nat → Bool) (k : Nat) (hs : s.size ≤ 80000) (hk : k ≤ 32) (hb : Bits s b) (p : Nat) (bad : Bool) (hp : p ≤ s.size) :
    ∃ v p', ∃ bad' : Bool, Hid (∀ u, Cu u B s p bad → Calls Tryz.prog 183 #[.pointer (some ⟨B, 0, none⟩), .int .i64 k] u fun e u' => e = .returned (.int .i64 (v : Nat)) ∧ Cu u' B s p' bad' ∧ Chg B u u') ∧ p' ≤ s.size ∧
      ((bad = false ∧ p + k ≤ s.size ∧ v = num b p k ∧ p' = p + k ∧ bad' = false) ∨ (¬ (bad = false ∧ p + k ≤ s.size) ∧ v = 0 ∧ bad' = true)) := by
  by_cases h : bad = false ∧ p + k ≤ s.size
  · obtain ⟨rfl, h⟩ := h
    exact ⟨num b p k, p + k, false, fun u hu => count_yes B s b p k u hs hk hu h hb, h, .inl ⟨rfl, h, rfl, rfl, rfl⟩⟩
  · refine ⟨0, p, true, fun u hu => count_no B s p k u hs hk ⟨hp, bad, hu, ?_⟩, hp, .inr ⟨h, rfl, rfl⟩⟩
    cases bad with
    | true => exact .inl rfl
    | false => right; simp only [true_and] at h; omega
theorem short_any (B : Nat) (s : ByteArray) (b : Nat → Bool) (k : Nat) (hs : s.size ≤ 80000) (hk1 : 1 ≤ k) (hk : k ≤ 16) (hb : Bits s b) (p : Nat) (bad : Bool) (hp : p ≤ s.size) :
    ∃ v p', ∃ bad' : Bool, Hid (∀ u, Cu u B s p bad → Calls Tryz.prog 185 #[.pointer (some ⟨B, 0, none⟩), .int .i64 k] u fun e u' => e = .returned (.int .i64 v) ∧ Cu u' B s p' bad' ∧ Chg B u u') ∧ p' ≤ s.size ∧
      ((bad = false ∧ p + k ≤ s.size ∧ v = sgn b p k ∧ p' = p + k ∧ bad' = false) ∨ (¬ (bad = false ∧ p + k ≤ s.size) ∧ v = 0 ∧ bad' = true)) := by
  by_cases h : bad = false ∧ p + k ≤ s.size
  · obtain ⟨rfl, h⟩ := h
    exact ⟨sgn b p k, p + k, false, fun u hu => short_yes B s b p k u hs hk1 hk hu h hb, h, .inl ⟨rfl, h, rfl, rfl, rfl⟩⟩
  · refine ⟨0, p, true, fun u hu => short_no B s p k u hs (by omega) ⟨hp, bad, hu, ?_⟩, hp, .inr ⟨h, rfl, rfl⟩⟩
    cases bad with
    | true => exact .inl rfl
    | false => right; simp only [true_and] at h; omega
/-- what stands behind the head of the rests -/
structure Head (b : Nat → Bool) (N d kind n p : Nat) (bad : Bool) (x0 : Nat → Int) (a c : Int) (q p3 : Nat) (b3 : Bool) (oo : Option St) : Prop where
  q3 : q ≤ 3
  pN : p3 ≤ N
  no : b3 = true → oo = none
  yes : b3 = false → bad = false ∧ ∃ J : Job, (J.b = b ∧ J.N = N ∧ J.w = d ∧ J.kind = kind ∧ J.a = a ∧ J.c = c ∧ J.size = n / 2 ^ q) ∧ oo = if cutB n (ord kind) q = true then J.R ⟨p3, 0, x0⟩ n else none
theorem head7 {b : Nat → Bool} {N d n p : Nat} {bad : Bool} {x0 : Nat → Int} {a c : Int} {q p1 p2 p3 : Nat} {b1 b2 b3 : Bool} {oo : Option St} (hp3 : p3 ≤ N)
    (hS1 : (bad = false ∧ p + 6 ≤ N ∧ a = sgn b p 6 ∧ p1 = p + 6 ∧ b1 = false) ∨ (¬ (bad = false ∧ p + 6 ≤ N) ∧ a = 0 ∧ b1 = true))
    (hS2 : (b1 = false ∧ p1 + 6 ≤ N ∧ c = sgn b p1 6 ∧ p2 = p1 + 6 ∧ b2 = false) ∨ (¬ (b1 = false ∧ p1 + 6 ≤ N) ∧ c = 0 ∧ b2 = true))
    (hQ : (b2 = false ∧ p2 + 2 ≤ N ∧ q = num b p2 2 ∧ p3 = p2 + 2 ∧ b3 = false) ∨ (¬ (b2 = false ∧ p2 + 2 ≤ N) ∧ q = 0 ∧ b3 = true))
    (hoo : (if bad = true then none else cRestsSt b N d 7 n p x0) = oo) : Head b N d 7 n p bad x0 a c q p3 b3 oo := by
  have hn2 := num_lt b p2 2
  refine ⟨by omega, hp3, fun e => ?_, fun e => ?_⟩
  · subst e
    rw [← hoo]
    split
    · rfl
    · rename_i hb
      unfold cRestsSt
      rw [if_pos rfl]
      split
      · rename_i h12
        rcases hS1 with ⟨e1, h1, -, rfl, rfl⟩ | ⟨h, -, -⟩
        · rcases hS2 with ⟨-, h2, -, rfl, rfl⟩ | ⟨h, -, -⟩
          · rcases hQ with ⟨-, -, -, -, h⟩ | ⟨h, -, -⟩
            · cases h
            · unfold restsSt
              rw [if_neg]
              intro h3
              exact h ⟨rfl, by omega⟩
          · exact absurd ⟨rfl, by omega⟩ h
        · exact absurd ⟨by simpa using hb, by omega⟩ h
      · rfl
  · subst e
    rcases hQ with ⟨rfl, h3, rfl, rfl, -⟩ | ⟨-, -, h⟩
    · rcases hS2 with ⟨rfl, h2, rfl, rfl, -⟩ | ⟨-, -, h⟩
      · rcases hS1 with ⟨rfl, h1, rfl, rfl, -⟩ | ⟨-, -, h⟩
        · refine ⟨rfl, theJob b N d 7 (sgn b p 6) (sgn b (p + 6) 6) n (p + 6 + 6), ⟨rfl, rfl, rfl, rfl, rfl, rfl, rfl⟩, ?_⟩
          rw [← hoo, if_neg (by simp)]
          unfold cRestsSt
          rw [if_pos rfl, if_pos (by omega)]
          unfold restsSt
          simp only [show p + 12 = p + 6 + 6 by omega, h3, true_and]
        · cases h
      · cases h
    · cases h
theorem headF {b : Nat → Bool} {N d kind n p : Nat} {bad : Bool} {x0 : Nat → Int} {q p3 : Nat} {b3 : Bool} {oo : Option St} (hk : ¬ kind = 7) (hp3 : p3 ≤ N)
    (hQ : (bad = false ∧ p + 2 ≤ N ∧ q = num b p 2 ∧ p3 = p + 2 ∧ b3 = false) ∨ (¬ (bad = false ∧ p + 2 ≤ N) ∧ q = 0 ∧ b3 = true))
    (hoo : (if bad = true then none else cRestsSt b N d kind n p x0) = oo) : Head b N d kind n p bad x0 0 0 q p3 b3 oo := by
  have hn2 := num_lt b p 2
  refine ⟨by omega, hp3, fun e => ?_, fun e => ?_⟩
  · subst e
    rw [← hoo]
    split
    · rfl
    · rename_i hb
      unfold cRestsSt
      rw [if_neg hk]
      rcases hQ with ⟨-, -, -, -, h⟩ | ⟨h, -, -⟩
      · cases h
      · unfold restsSt
        rw [if_neg]
        intro h3
        exact h ⟨by simpa using hb, h3.1⟩
  · subst e
    rcases hQ with ⟨rfl, h3, rfl, rfl, -⟩ | ⟨-, -, h⟩
    · refine ⟨rfl, theJob b N d kind 0 0 n p, ⟨rfl, rfl, rfl, rfl, rfl, rfl, rfl⟩, ?_⟩
      rw [← hoo, if_neg (by simp)]
      unfold cRestsSt
      rw [if_neg hk]
      unfold restsSt
      simp only [h3, true_and]
    · cases h
theorem cGuess_any (kind : Nat) (a c : Int) (g n i len : Nat) (x : Nat → Int) (w : World) (h2 : 2 ≤ kind) (h7 : kind ≤ 7) (ha : -32 ≤ a ∧ a ≤ 32) (hc : -32 ≤ c ∧ c ≤ 32) (hn : n ≤ 32) (hi : i < n) (hoi : ord kind ≤ i) (hX : ∀ j, j < i → -4096 ≤ x j ∧ x j ≤ 4096)
    (hrow : w.rowIs g 3 n (cutV len x)) (hil : i ≤ len) (hT : TabAt w 3) :
    Calls Tryz.prog 196 #[.int .i64 kind, .int .i64 a, .int .i64 c, .slice (some ⟨g, 0, none⟩) n n, .int .i64 i] w fun e w' => e = .returned (.int .i64 (guessG kind a c x i)) ∧ ∃ m, w' = w.drewN m := by
  by_cases h : kind = 7
  · subst h
    exact cGuess7_any a c g n i len x w ha hc hn hi hoi hX hrow hil
  · refine cGuessF_any kind a c g n i len x w h2 (by omega) hn hi ?_ hX hrow hil hT
    unfold ord at hoi
    rw [if_neg h] at hoi
    exact hoi
theorem ChgS.tab {S : Nat → Prop} {w w' : World} (h : ChgS S w w') (hT : TabAt w 3) (h3 : 3 < w.heap.size) (hS : ¬ S 3) : TabAt w' 3 := by
  intro r c hr hc
  have := hT r c hr hc
  simp only [World.cell?, h.block 3 h3 hS] at this ⊢
  exact this
end Go.Proofs.YtlncjgnomhpjnaaGreatDoor

/-
  What a right configuration, a sound and a block are, in the program.
-/
namespace Go.Proofs.YtlncjgnomhpjnaaGreatDoor
open Go.RowKit Go.Deep
set_option linter.unusedVariables false
/-- the eight numbers of a right configuration -/
def rightB (c0 c1 c2 c3 c4 c5 c6 c7 : Int) : Bool :=
  within c0 1 4 && (within c1 4 12 && (within c2 1 32 && (within c3 0 65535 && (within c4 0 255 && (within c5 1 8 && (within c6 1 16 && within c7 1 8))))))
/-- what a head may say -/
def infoB (c0 c1 c2 c3 c4 s : Int) : Bool :=
  within c0 1 4 && (within c1 4 12 && (within c2 1 32 && (within c3 0 65535 && (within c4 0 255 && within s 0 300))))
set_option maxHeartbeats 1000000 in
theorem rightInfo_any (c0 c1 c2 c3 c4 s : Int) (w : World) :
    Calls Tryz.prog 101 #[.agg #[.int .i64 c0, .int .i64 c1, .int .i64 c2, .int .i64 c3, .int .i64 c4, .int .i64 s]] w fun e w' =>
      e = .returned (.bool (infoB c0 c1 c2 c3 c4 s)) ∧ Below w.heap.size w w' := by
  have fin : ∀ o, Below w.heap.size w (w.alloc o) := fun o => (Below.refl _ _).alloc (Nat.le_refl _) _
  cases h0 : within c0 1 4
  · go_enter Tryz.func101, Tryz.ntmps101
    go_wp2_with (go_at_call 62; refine (within_any _ _ _ _).mono ?_; rintro e w' ⟨rfl, rfl⟩)
    go_ret
    exact ⟨ret_bool (by simp [infoB, h0]), fin _⟩
  cases h1 : within c1 4 12
  · go_enter Tryz.func101, Tryz.ntmps101
    go_wp2_with (go_at_call 62; refine (within_any _ _ _ _).mono ?_; rintro e w' ⟨rfl, rfl⟩)
    go_ret
    exact ⟨ret_bool (by simp [infoB, h0, h1]), fin _⟩
  cases h2 : within c2 1 32
  · go_enter Tryz.func101, Tryz.ntmps101
    go_wp2_with (go_at_call 62; refine (within_any _ _ _ _).mono ?_; rintro e w' ⟨rfl, rfl⟩)
    go_ret
    exact ⟨ret_bool (by simp [infoB, h0, h1, h2]), fin _⟩
  cases h3 : within c3 0 65535
  · go_enter Tryz.func101, Tryz.ntmps101
    go_wp2_with (go_at_call 62; refine (within_any _ _ _ _).mono ?_; rintro e w' ⟨rfl, rfl⟩)
    go_ret
    exact ⟨ret_bool (by simp [infoB, h0, h1, h2, h3]), fin _⟩
  cases h4 : within c4 0 255
  · go_enter Tryz.func101, Tryz.ntmps101
    go_wp2_with (go_at_call 62; refine (within_any _ _ _ _).mono ?_; rintro e w' ⟨rfl, rfl⟩)
    go_ret
    exact ⟨ret_bool (by simp [infoB, h0, h1, h2, h3, h4]), fin _⟩
  go_enter Tryz.func101, Tryz.ntmps101
  go_wp2_with (go_at_call 62; refine (within_any _ _ _ _).mono ?_; rintro e w' ⟨rfl, rfl⟩)
  go_ret
  exact ⟨ret_bool (by simp [infoB, h0, h1, h2, h3, h4]), fin _⟩
/-- what a slice of slices of numbers holds -/
def ListsAt (w : World) (a : Option Addr) (n : Nat) (A : Nat → Option Addr) (L C : Nat → Nat) : Prop := ∀ i, i < n → ∃ x, a = some x ∧ w.cell? (x.add i) = some (.slice (A i) (L i) (C i))
/-- lists that lie below a block -/
def Low (B : Nat) (a : Option Addr) (n : Nat) (A : Nat → Option Addr) (L : Nat → Nat) : Prop := (∀ x, a = some x → 0 < n → x.block < B) ∧ ∀ i, i < n → ∀ x, A i = some x → 0 < L i → x.block < B
theorem IntsAt.below {w w' : World} {B : Nat} {a : Option Addr} {n : Nat} {f : Nat → Int} (h : IntsAt w a n f) (hb : Below B w w') (hl : ∀ x, a = some x → 0 < n → x.block < B) : IntsAt w' a n f := fun i hi => by
  obtain ⟨x, hx, hc⟩ := h i hi
  refine ⟨x, hx, ?_⟩
  rw [hb.cell (by have := hl x hx (by omega); cases i <;> simpa [Addr.add] using this), hc]
end Go.Proofs.YtlncjgnomhpjnaaGreatDoor

/-
  The lists of lists that are lent: 'lendAll', 'wholeAll'.
-/
namespace Go.Proofs.YtlncjgnomhpjnaaGreatDoor
open Go.RowKit Go.Deep
theorem infoInts : (Tryz.prog.info? 29).map (fun i => (i.zero, i.size, i.bytes)) = some (some (.slice none 0 0), 1, 24) := by kernel_rfl
/-- all blocks but two, and what is new, are as they were -/
structure Kept2 (b m : Nat) (w w' : World) : Prop where
  os : w'.os = w.os
  tape : w'.tape = w.tape
  output : w'.output = w.output
  size : w.heap.size ≤ w'.heap.size
  block : ∀ k, k < w.heap.size → k ≠ b → k ≠ m → w'.heap[k]? = w.heap[k]?
theorem Kept2.refl (b m : Nat) (w : World) : Kept2 b m w w := ⟨rfl, rfl, rfl, Nat.le_refl _, fun _ _ _ _ => rfl⟩
theorem Kept2.set1 {b m : Nat} {w w' : World} (h : Kept2 b m w w') (i : Nat) (v : Value) : Kept2 b m w (w'.setCell ⟨b, i, none⟩ v) :=
  ⟨h.os, h.tape, h.output, by rw [World.size_setCell]; exact h.size, fun k hk h1 h2 => (blk_setCell_other _ _ _ _ (by simpa using h1)).trans (h.block k hk h1 h2)⟩
theorem Kept2.set2 {b m : Nat} {w w' : World} (h : Kept2 b m w w') (i : Nat) (v : Value) : Kept2 b m w (w'.setCell ⟨m, i, none⟩ v) :=
  ⟨h.os, h.tape, h.output, by rw [World.size_setCell]; exact h.size, fun k hk h1 h2 => (blk_setCell_other _ _ _ _ (by simpa using h2)).trans (h.block k hk h1 h2)⟩
end Go.Proofs.YtlncjgnomhpjnaaGreatDoor

/-
  What was lent, looked at; the sound that came in (door seats).
-/
namespace Go.Proofs.YtlncjgnomhpjnaaGreatDoor
open Go.RowKit Go.Deep
set_option linter.unusedVariables false
theorem lnum_any (c : Int) (w : World) : Calls Tryz.prog 13 #[.int .i64 c] w fun e w' => e = .returned (.int .i64 c) ∧ w' = w := by
  go_enter Tryz.func13, Tryz.ntmps13
  go_wp2
  go_ret
  exact ⟨rfl, rfl⟩
end Go.Proofs.YtlncjgnomhpjnaaGreatDoor

/-
  Plain mathematics for 'Tight': what is read of a text hangs on the bits that were read alone.
-/
namespace Go.Proofs.YtlncjgnomhpjnaaGreatDoor
set_option linter.unusedVariables false
/-- two texts say the same up to place N -/
def Agree (b b' : Nat → Bool) (N : Nat) : Prop := ∀ i, i < N → b i = b' i
theorem bitsNum_ext {f g : Nat → Bool} : ∀ n, (∀ i, i < n → f i = g i) → bitsNum f n = bitsNum g n
  | 0, _ => rfl
  | n + 1, h => by simp only [bitsNum]; rw [bitsNum_ext n (fun i hi => h i (by omega)), h n (by omega)]
theorem num_ext {b b' : Nat → Bool} {N p k : Nat} (h : Agree b b' N) (hp : p + k ≤ N) : num b p k = num b' p k :=
  bitsNum_ext k (fun i hi => h (p + i) (by omega))
theorem sgn_ext {b b' : Nat → Bool} {N p k : Nat} (h : Agree b b' N) (hp : p + k ≤ N) : sgn b p k = sgn b' p k := by
  unfold sgn; rw [num_ext h hp]
theorem rice_ext {b b' : Nat → Bool} {N M k p : Nat} {r : Int × Nat} (h : Agree b b' N) (hNM : N ≤ M) (hr : rice b N k p = some r) : rice b' M k p = some r ∧ r.2 ≤ N ∧ p ≤ r.2 := by
  unfold rice at hr
  split at hr
  · rename_i hle
    simp only [Option.some.injEq] at hr
    have hz : zrun b' (M - p) p = zrun b (N - p) p := by
      have h1 := zrun_le b (N - p) p
      have hlt : zrun b (N - p) p < N - p := by omega
      refine zrun_eq b' (M - p) p _ (by omega) (fun i hi => ?_) (fun _ => ?_)
      · rw [← h (p + i) (by omega)]; exact zrun_zero b (N - p) p i hi
      · rw [← h (p + zrun b (N - p) p) (by omega)]; exact zrun_one b (N - p) p hlt
    unfold rice
    rw [hz, if_pos (by omega), ← num_ext h (p := p + zrun b (N - p) p + 1) (k := k) (by omega)]
    subst hr
    exact ⟨rfl, hle, by simp only; omega⟩
  · cases hr
/-- two jobs that differ in the text behind place N alone -/
structure JobExt (J K : Job) : Prop where
  ag : Agree J.b K.b J.N
  le : J.N ≤ K.N
  w : K.w = J.w
  kind : K.kind = J.kind
  a : K.a = J.a
  c : K.c = J.c
  size : K.size = J.size
theorem JobExt.rdK {J K : Job} (h : JobExt J K) {s t : St} (hr : J.rdK s = some t) : K.rdK s = some t ∧ t.p ≤ J.N := by
  unfold Job.rdK at hr
  split at hr
  · rename_i hh
    simp only [Option.some.injEq] at hr
    subst hr
    have e := num_ext h.ag (p := s.p) (k := 4) hh.1
    unfold Job.rdK
    have hle := h.le
    rw [← e, if_pos ⟨by omega, hh.2⟩]
    exact ⟨rfl, hh.1⟩
  · cases hr
/-- two states alike in the first m samples -/
structure Sim (m : Nat) (s t : St) : Prop where
  p : t.p = s.p
  k : t.k = s.k
  x : ∀ j, j < m → t.x j = s.x j
theorem guessG_ext {kind : Nat} {a c : Int} {x y : Nat → Int} {i : Nat} (h : ∀ j, j < i → y j = x j) (ho : ord kind ≤ i) : guessG kind a c y i = guessG kind a c x i := by
  unfold guessG
  rw [sumG_congr (ord kind) (fun _ _ => rfl) (fun j hj => h (i - 1 - j) (by omega))]
theorem JobExt.rdK' {J K : Job} (h : JobExt J K) {m : Nat} {s t s' : St} (hs : Sim m s t) (hr : J.rdK s = some s') : ∃ t', K.rdK t = some t' ∧ Sim m s' t' ∧ s'.p ≤ J.N := by
  unfold Job.rdK at hr
  split at hr
  · rename_i hh
    simp only [Option.some.injEq] at hr
    subst hr
    have e := num_ext h.ag (p := s.p) (k := 4) hh.1
    have hle := h.le
    refine ⟨⟨s.p + 4, num J.b s.p 4, t.x⟩, ?_, ⟨rfl, rfl, hs.x⟩, hh.1⟩
    unfold Job.rdK
    rw [hs.p, ← e, if_pos ⟨by omega, hh.2⟩]
  · cases hr
theorem JobExt.plc {J K : Job} (h : JobExt J K) {i : Nat} {s t s' : St} (hs : Sim (max i (ord J.kind)) s t) (hp : s.p ≤ J.N) (hr : J.plc i s = some s') : ∃ t', K.plc i t = some t' ∧ Sim (max (i + 1) (ord J.kind)) s' t' ∧ s'.p ≤ J.N := by
  unfold Job.plc at hr ⊢
  rw [h.kind, h.a, h.c, h.w, hs.p, hs.k]
  split at hr
  · rename_i hi
    simp only [Option.some.injEq] at hr
    subst hr
    rw [if_pos hi]
    exact ⟨t, rfl, ⟨hs.p, hs.k, fun j hj => hs.x j (by omega)⟩, hp⟩
  · rename_i hi
    rw [if_neg hi, guessG_ext (x := s.x) (fun j hj => hs.x j (by omega)) (by omega)]
    cases hx : rice J.b J.N s.k s.p with
    | none => rw [hx] at hr; cases hr
    | some r =>
      obtain ⟨v, p'⟩ := r
      obtain ⟨h1, h2, _⟩ := rice_ext h.ag h.le hx
      rw [hx] at hr
      rw [h1]
      simp only at hr ⊢
      split at hr
      · rename_i hf
        simp only [Option.some.injEq] at hr
        subst hr
        rw [if_pos hf]
        refine ⟨_, rfl, ⟨rfl, rfl, fun j hj => ?_⟩, h2⟩
        simp only [updI]
        by_cases e : j = i
        · rw [if_pos e, if_pos e]
        · rw [if_neg e, if_neg e]; exact hs.x j (by omega)
      · cases hr
theorem JobExt.R {J K : Job} (h : JobExt J K) {s0 t0 : St} (h0 : Sim (ord J.kind) s0 t0) (hp : s0.p ≤ J.N) : ∀ i s, J.R s0 i = some s → ∃ t, K.R t0 i = some t ∧ Sim (max i (ord J.kind)) s t ∧ s.p ≤ J.N
  | 0, s, hr => by
    simp only [Job.R, Option.some.injEq] at hr ⊢
    subst hr
    exact ⟨t0, rfl, ⟨h0.p, h0.k, fun j hj => h0.x j (by omega)⟩, hp⟩
  | i + 1, s', hr => by
    simp only [Job.R] at hr ⊢
    cases h1 : J.R s0 i with
    | none => rw [h1] at hr; cases hr
    | some s =>
      obtain ⟨t, e1, m1, p1⟩ := h.R h0 hp i s h1
      rw [h1, Option.bind_some] at hr
      rw [e1, Option.bind_some, h.size]
      by_cases hm : i % J.size = 0
      · rw [if_pos hm] at hr ⊢
        cases h2 : J.rdK s with
        | none => rw [h2] at hr; cases hr
        | some s2 =>
          obtain ⟨t2, e2, m2, p2⟩ := h.rdK' m1 h2
          rw [h2, Option.bind_some] at hr
          rw [e2, Option.bind_some]
          exact h.plc m2 p2 hr
      · rw [if_neg hm, Option.bind_some] at hr ⊢
        exact h.plc m1 p1 hr
theorem restsSt_ext {b b' : Nat → Bool} {N M d kind : Nat} {a c : Int} {n p : Nat} {x0 y0 : Nat → Int} {s : St} (h : Agree b b' N) (hNM : N ≤ M) (hxy : ∀ j, j < ord kind → y0 j = x0 j) (hr : restsSt b N d kind a c n p x0 = some s) :
    ∃ t, restsSt b' M d kind a c n p y0 = some t ∧ Sim (max n (ord kind)) s t ∧ s.p ≤ N := by
  unfold restsSt at hr
  split at hr
  · rename_i hh
    have e := num_ext h (p := p) (k := 2) hh.1
    unfold restsSt
    rw [← e, if_pos ⟨by omega, hh.2⟩]
    exact JobExt.R (J := theJob b N d kind a c n p) (K := theJob b' M d kind a c n p) ⟨h, hNM, rfl, rfl, rfl, rfl, by unfold theJob; rw [e]⟩ (s0 := ⟨p + 2, 0, x0⟩) (t0 := ⟨p + 2, 0, y0⟩) ⟨rfl, rfl, hxy⟩ (show p + 2 ≤ N from hh.1) n s hr
  · cases hr
/-- what is read of a text is read of every longer one that agrees with it -/
theorem bodySt_ext {b b' : Nat → Bool} {N M kind d n p : Nat} {r : (Nat → Int) × Nat} (h : Agree b b' N) (hNM : N ≤ M) (hr : bodySt b N kind d n p = some r) : ∃ r', bodySt b' M kind d n p = some r' ∧ r'.2 = r.2 ∧ r.2 ≤ N := by
  unfold bodySt at hr ⊢
  by_cases h0 : kind = 0
  · rw [if_pos h0] at hr ⊢
    split at hr
    · rename_i hh
      simp only [Option.some.injEq] at hr
      subst hr
      rw [if_pos (by omega)]
      exact ⟨_, rfl, rfl, hh⟩
    · cases hr
  · rw [if_neg h0] at hr ⊢
    by_cases h1 : kind = 1
    · rw [if_pos h1] at hr ⊢
      split at hr
      · rename_i hh
        simp only [Option.some.injEq] at hr
        subst hr
        rw [if_pos (by omega)]
        exact ⟨_, rfl, rfl, hh⟩
      · cases hr
    · rw [if_neg h1] at hr ⊢
      split at hr
      · cases hr
      · rename_i h2
        rw [if_neg h2]
        split at hr
        · rename_i h3
          rw [if_pos (by omega)]
          have hx : ∀ i, i < ord kind → sgn b' (posn p d i) d = sgn b (posn p d i) d := fun i hi => (sgn_ext h (by
            have := posn_le p d (show i + 1 ≤ ord kind from hi)
            rw [posn_succ] at this
            omega)).symm
          by_cases h7 : kind = 7
          · rw [if_pos h7] at hr ⊢
            split at hr
            · rename_i h4
              rw [if_pos (by omega), ← sgn_ext h (p := posn p d (ord kind)) (k := 6) (by omega), ← sgn_ext h (p := posn p d (ord kind) + 6) (k := 6) (by omega)]
              obtain ⟨s, hs, rfl⟩ := Option.map_eq_some_iff.1 hr
              obtain ⟨t, ht, hsim, hsp⟩ := restsSt_ext h hNM hx hs
              exact ⟨(t.x, t.p), by rw [ht]; rfl, hsim.p, hsp⟩
            · cases hr
          · rw [if_neg h7] at hr ⊢
            obtain ⟨s, hs, rfl⟩ := Option.map_eq_some_iff.1 hr
            obtain ⟨t, ht, hsim, hsp⟩ := restsSt_ext h hNM hx hs
            exact ⟨(t.x, t.p), by rw [ht]; rfl, hsim.p, hsp⟩
        · cases hr
theorem readSt_ext {b b' : Nat → Bool} {N M width n : Nat} {r : (Nat → Int) × Nat} (h : Agree b b' N) (hNM : N ≤ M) (hr : readSt b N width n = some r) : ∃ r', readSt b' M width n = some r' ∧ r'.2 = r.2 ∧ r.2 ≤ N := by
  unfold readSt at hr
  split at hr
  · rename_i hh
    obtain ⟨s, hs, rfl⟩ := Option.map_eq_some_iff.1 hr
    have e0 := num_ext h (p := 0) (k := 4) (by omega)
    have e4 := num_ext h (p := 4) (k := 4) (by omega)
    obtain ⟨t, ht, h1, h2⟩ := bodySt_ext h hNM hs
    unfold readSt
    rw [← e0, ← e4, if_pos ⟨by omega, hh.2⟩, ht]
    exact ⟨_, rfl, h1, h2⟩
  · cases hr
end Go.Proofs.YtlncjgnomhpjnaaGreatDoor

/-
  Texts of bits for 'Tight'; what it calls of its own package.
-/
namespace Go.Proofs.YtlncjgnomhpjnaaGreatDoor
open Go.RowKit Go.Deep
set_option linter.unusedVariables false
theorem bs_get (T : List UInt8) (j : Nat) (h : j < (bs T).size) : (bs T)[j] = T[j]'(by rw [bs_size] at h; exact h) := rfl
end Go.Proofs.YtlncjgnomhpjnaaGreatDoor

/-
  Plain mathematics for the checks: the two ways to a remainder.
-/
namespace Go.Proofs.YtlncjgnomhpjnaaGreatDoor
/-- bit number j of a list of bytes, the highest bit of the first byte first -/
def msgBit (l : List UInt8) (j : Nat) : Bool := (l.getD (j / 8) 0).toNat.testBit (7 - j % 8)
/-- what i steps of the long division have turned at place j -/
def acc (k D : Nat) (m : Nat → Bool) : Nat → Nat → Bool
  | 0, _ => false
  | i + 1, j => acc k D m i j ^^ ((m i ^^ acc k D m i i) && (decide (i ≤ j) && decide (j ≤ i + k) && D.testBit (k - (j - i))))
theorem acc_far (k D : Nat) (m : Nat → Bool) : ∀ i j, i + k ≤ j → acc k D m i j = false
  | 0, _, _ => rfl
  | i + 1, j, h => by
    have h1 := acc_far k D m i j (by omega)
    have h2 : decide (j ≤ i + k) = false := by simp; omega
    simp [acc, h1, h2]
/-- the number that a running remainder holds: i bits are done, the byte that is under way ends at e -/
def Good (k D : Nat) (m : Nat → Bool) (i e R : Nat) : Prop :=
  R < 2 ^ k ∧ ∀ p, p < k → R.testBit p = (acc k D m i (i + (k - 1 - p)) ^^ (decide (i + (k - 1 - p) < e) && m (i + (k - 1 - p))))
theorem good_zero (k D : Nat) (m : Nat → Bool) : Good k D m 0 0 0 :=
  ⟨Nat.two_pow_pos _, fun p _ => by simp [acc]⟩
theorem good_inj {k D : Nat} {m : Nat → Bool} {i e R S : Nat} (h : Good k D m i e R) (g : Good k D m i e S) : R = S := by
  refine Nat.eq_of_testBit_eq fun p => ?_
  by_cases hp : p < k
  · rw [h.2 p hp, g.2 p hp]
  · have e1 : R.testBit p = false := Nat.testBit_lt_two_pow (Nat.lt_of_lt_of_le h.1 (Nat.pow_le_pow_right (by omega) (by omega)))
    have e2 : S.testBit p = false := Nat.testBit_lt_two_pow (Nat.lt_of_lt_of_le g.1 (Nat.pow_le_pow_right (by omega) (by omega)))
    rw [e1, e2]
/-- a byte comes in -/
theorem good_start {k D : Nat} {m : Nat → Bool} {i R c : Nat} (hk : 8 ≤ k) (hc : c < 256) (hm : ∀ x, x < 8 → m (i + x) = c.testBit (7 - x))
    (h : Good k D m i i R) : Good k D m i (i + 8) (R ^^^ c * 2 ^ (k - 8)) := by
  have hb : c * 2 ^ (k - 8) < 2 ^ k := by
    have e : 2 ^ k = 256 * 2 ^ (k - 8) := by
      have : k = 8 + (k - 8) := by omega
      rw [this, Nat.pow_add]; simp
    rw [e]
    exact Nat.mul_lt_mul_of_pos_right hc (Nat.two_pow_pos _)
  refine ⟨Nat.xor_lt_two_pow h.1 hb, fun p hp => ?_⟩
  rw [Nat.testBit_xor, h.2 p hp, Nat.mul_comm, Nat.testBit_two_pow_mul]
  by_cases hq : k - 8 ≤ p
  · have e1 : i + (k - 1 - p) < i + 8 := by omega
    have e2 : decide (i + (k - 1 - p) < i) = false := decide_eq_false (by omega)
    have e3 := hm (k - 1 - p) (by omega)
    have e4 : 7 - (k - 1 - p) = p - (k - 8) := by omega
    rw [e4] at e3
    simp [e1, e2, e3, hq]
  · have e1 : ¬ i + (k - 1 - p) < i + 8 := by omega
    have e2 : decide (i + (k - 1 - p) < i) = false := decide_eq_false (by omega)
    simp [e1, e2, hq]
theorem top_iff {k R : Nat} (hk : 1 ≤ k) (h : R < 2 ^ k) : (R * 2 / 2 ^ k = 1) ↔ R.testBit (k - 1) = true := by
  have e : 2 ^ k = 2 * 2 ^ (k - 1) := by
    have : k = (k - 1) + 1 := by omega
    rw [this, Nat.pow_succ]; simp [Nat.mul_comm]
  have e2 : R * 2 / 2 ^ k = R / 2 ^ (k - 1) := by
    rw [e, Nat.mul_comm R 2, Nat.mul_div_mul_left _ _ (by decide)]
  rw [e2, Nat.testBit_eq_decide_div_mod_eq]
  have lt : R / 2 ^ (k - 1) < 2 := by
    rw [Nat.div_lt_iff_lt_mul (Nat.two_pow_pos _)]; omega
  have : R / 2 ^ (k - 1) % 2 = R / 2 ^ (k - 1) := Nat.mod_eq_of_lt lt
  rw [this]; simp
theorem dbl_bit (R p : Nat) : (R * 2).testBit p = (decide (1 ≤ p) && R.testBit (p - 1)) := by
  have := Nat.testBit_two_pow_mul (i := 1) (a := R) (j := p)
  rw [Nat.mul_comm]; simpa using this
/-- a bit goes out, and it is a 1 -/
theorem good_yes {k D : Nat} {m : Nat → Bool} {i e R : Nat} (hk : 8 ≤ k) (hD : D < 2 ^ (k + 1)) (hD1 : D.testBit k = true) (hi : i < e) (he : e ≤ i + 8)
    (h : Good k D m i e R) (ht : R * 2 / 2 ^ k = 1) : Good k D m (i + 1) e ((R * 2) ^^^ D) := by
  have top : R.testBit (k - 1) = true := (top_iff (by omega) h.1).1 ht
  have t2 := h.2 (k - 1) (by omega)
  rw [top] at t2
  have z : k - 1 - (k - 1) = 0 := by omega
  rw [z, Nat.add_zero] at t2
  have t3 : (m i ^^ acc k D m i i) = true := by
    rw [t2]; simp [hi, Bool.xor_comm]
  constructor
  · have b1 : (R * 2) ^^^ D < 2 ^ (k + 1) := Nat.xor_lt_two_pow (by rw [Nat.pow_succ]; have := h.1; omega) hD
    apply Nat.lt_pow_two_of_testBit
    intro p hp
    by_cases e : p = k
    · subst e
      rw [Nat.testBit_xor, hD1, dbl_bit, top]
      simp; omega
    · exact Nat.testBit_lt_two_pow (Nat.lt_of_lt_of_le b1 (Nat.pow_le_pow_right (by omega) (by omega)))
  · intro p hp
    have e1 : i + 1 + (k - 1 - p) = i + (k - p) := by omega
    rw [Nat.testBit_xor, dbl_bit, e1]
    have e2 : acc k D m (i + 1) (i + (k - p)) = (acc k D m i (i + (k - p)) ^^ D.testBit p) := by
      have a1 : i ≤ i + (k - p) := by omega
      have a2 : i + (k - p) ≤ i + k := by omega
      have a3 : k - (i + (k - p) - i) = p := by omega
      simp only [acc, t3, a3]
      simp
    rw [e2]
    by_cases hp0 : 1 ≤ p
    · have e3 := h.2 (p - 1) (by omega)
      have e4 : k - 1 - (p - 1) = k - p := by omega
      rw [e4] at e3
      rw [e3]
      simp only [hp0, decide_true, Bool.true_and]
      cases acc k D m i (i + (k - p)) <;> cases D.testBit p <;> cases (decide (i + (k - p) < e) && m (i + (k - p))) <;> rfl
    · have e3 : p = 0 := by omega
      subst e3
      have e4 : acc k D m i (i + (k - 0)) = false := acc_far _ _ _ _ _ (by omega)
      have e5 : decide (i + (k - 0) < e) = false := decide_eq_false (by omega)
      rw [e4, e5]
      simp
/-- a bit goes out, and it is a 0 -/
theorem good_no {k D : Nat} {m : Nat → Bool} {i e R : Nat} (hk : 8 ≤ k) (hi : i < e) (he : e ≤ i + 8)
    (h : Good k D m i e R) (ht : ¬ R * 2 / 2 ^ k = 1) : Good k D m (i + 1) e (R * 2) := by
  have top : R.testBit (k - 1) = false := by
    cases hh : R.testBit (k - 1) with
    | false => rfl
    | true => exact absurd ((top_iff (by omega) h.1).2 hh) ht
  have t2 := h.2 (k - 1) (by omega)
  rw [top] at t2
  have z : k - 1 - (k - 1) = 0 := by omega
  rw [z, Nat.add_zero] at t2
  have t3 : (m i ^^ acc k D m i i) = false := by
    rw [t2]; simp [hi, Bool.xor_comm]
  constructor
  · have b1 : R * 2 < 2 ^ (k + 1) := by rw [Nat.pow_succ]; have := h.1; omega
    apply Nat.lt_pow_two_of_testBit
    intro p hp
    by_cases e : p = k
    · subst e
      rw [dbl_bit, top]
      simp
    · exact Nat.testBit_lt_two_pow (Nat.lt_of_lt_of_le b1 (Nat.pow_le_pow_right (by omega) (by omega)))
  · intro p hp
    have e1 : i + 1 + (k - 1 - p) = i + (k - p) := by omega
    rw [dbl_bit, e1]
    have e2 : acc k D m (i + 1) (i + (k - p)) = acc k D m i (i + (k - p)) := by
      simp only [acc, t3]
      simp
    rw [e2]
    by_cases hp0 : 1 ≤ p
    · have e3 := h.2 (p - 1) (by omega)
      have e4 : k - 1 - (p - 1) = k - p := by omega
      rw [e4] at e3
      rw [e3]
      simp [hp0]
    · have e3 : p = 0 := by omega
      subst e3
      have e4 : acc k D m i (i + (k - 0)) = false := acc_far _ _ _ _ _ (by omega)
      have e5 : decide (i + (k - 0) < e) = false := decide_eq_false (by omega)
      rw [e4, e5]
      simp
theorem msgBit_byte (l : List UInt8) (k x : Nat) (hx : x < 8) : msgBit l (8 * k + x) = (l.getD k 0).toNat.testBit (7 - x) := by
  unfold msgBit
  have h1 : (8 * k + x) / 8 = k := by omega
  have h2 : (8 * k + x) % 8 = x := by omega
  rw [h1, h2]
theorem msgBit_past (l : List UInt8) (j : Nat) (h : 8 * l.length ≤ j) : msgBit l j = false := by
  unfold msgBit
  have : l.getD (j / 8) 0 = 0 := by
    rw [List.getD_eq_getElem?_getD, List.getElem?_eq_none (by omega)]; rfl
  rw [this]; simp
theorem bitsNum_bit (f : Nat → Bool) : ∀ n p, p < n → (bitsNum f n).testBit p = f (n - 1 - p)
  | 0, _, h => absurd h (by omega)
  | n + 1, 0, _ => by
    simp only [bitsNum, Nat.testBit_zero]
    cases h : f n <;> simp [h] <;> omega
  | n + 1, p + 1, h => by
    have ih := bitsNum_bit f n p (by omega)
    have e : (2 * bitsNum f n + (f n).toNat) / 2 = bitsNum f n := by
      have : (f n).toNat ≤ 1 := Bool.toNat_le _
      omega
    simp only [bitsNum, Nat.testBit_succ, e, ih]
    congr 1; omega
/-- the long division's last bits are the running remainder -/
theorem good_bitsNum {k D : Nat} {m : Nat → Bool} {L : Nat} (hm : ∀ j, L ≤ j → m j = false) : Good k D m L L (bitsNum (fun x => m (L + x) ^^ acc k D m L (L + x)) k) := by
  refine ⟨bitsNum_lt _ _, fun p hp => ?_⟩
  rw [bitsNum_bit _ _ _ hp]
  have := hm (L + (k - 1 - p)) (by omega)
  simp [this]
end Go.Proofs.YtlncjgnomhpjnaaGreatDoor

/-
  The program's remainders.
-/
namespace Go.Proofs.YtlncjgnomhpjnaaGreatDoor
open Go.RowKit
theorem xor_i64 (a b : Nat) (ha : a < 4294967296) (hb : b < 4294967296) : bits .xor .i64 (a : Int) (b : Int) = ((a ^^^ b : Nat) : Int) := by
  have hx : a ^^^ b < 2 ^ 32 := Nat.xor_lt_two_pow (by omega) (by omega)
  have h1 : (BitVec.ofInt 64 (a : Int)).toNat = a := by
    rw [BitVec.ofInt_natCast, BitVec.toNat_ofNat]; exact Nat.mod_eq_of_lt (by omega)
  have h2 : (BitVec.ofInt 64 (b : Int)).toNat = b := by
    rw [BitVec.ofInt_natCast, BitVec.toNat_ofNat]; exact Nat.mod_eq_of_lt (by omega)
  show IntKind.i64.wrap ((BitVec.ofInt 64 (a : Int) ^^^ BitVec.ofInt 64 (b : Int)).toNat : Int) = _
  rw [BitVec.toNat_xor, h1, h2, IntKind.wrap_i64]
  omega
theorem getD_byte (s : ByteArray) (k : Nat) (h : k < s.size) : s.data.toList.getD k 0 = s[k] := by
  rw [List.getD_eq_getElem?_getD, List.getElem?_eq_getElem (by simpa using h)]; rfl
set_option maxHeartbeats 400000 in
theorem rem8_any (s : ByteArray) (w : World) (hs : s.size ≤ 2097152) :
    Calls Tryz.prog 146 #[.string s, .int .i64 8, .int .i64 263] w fun e w' => ∃ R : Nat, e = .returned (.int .i64 R) ∧ Good 8 263 (msgBit s.data.toList) (8 * s.size) (8 * s.size) R ∧ w' = w := by
  go_enter Tryz.func146, Tryz.ntmps146
  go_wp2
  go_loop [7, 11] (fun n i => ∃ k : Nat, ∃ R : Nat, k ≤ s.size ∧ i = .int .i64 k ∧ n = .int .i64 R ∧ Good 8 263 (msgBit s.data.toList) (8 * k) (8 * k) R) (fun _ i => s.size - (intOf i).toNat)
  case atStart => exact ⟨0, 0, Nat.zero_le _, rfl, rfl, good_zero _ _ _⟩
  case round =>
    obtain ⟨k, R, hk, rfl, rfl, hG⟩ := hrel
    by_cases hlt : k < s.size
    · have hc : s[k].toNat < 256 := UInt8.toNat_lt _
      have hR : R < 256 := hG.1
      have HG : Hid (Good 8 263 (msgBit s.data.toList) (8 * k) (8 * k + 8) (R ^^^ s[k].toNat)) := by
        have := good_start (c := s[k].toNat) (by decide) hc (fun x hx => by rw [msgBit_byte _ _ _ hx, getD_byte s k hlt]) hG
        show Good _ _ _ _ _ _
        simpa using this
      clear hG
      have hx := xor_i64 R s[k].toNat (by omega) (by omega)
      go_wp2
      go_loop [7, 23] (fun n i => ∃ t : Nat, ∃ R : Nat, t ≤ 8 ∧ i = .int .i64 t ∧ n = .int .i64 R ∧ Good 8 263 (msgBit s.data.toList) (8 * k + t) (8 * k + 8) R) (fun _ i => 8 - (intOf i).toNat)
      case atStart => exact ⟨0, _, Nat.zero_le _, rfl, rfl, HG.out⟩
      case round =>
        obtain ⟨t, Q, ht, rfl, rfl, hQ⟩ := hrel
        clear hx HG
        by_cases hlt8 : t < 8
        · have hQb : Q < 256 := hQ.1
          have hx2 := xor_i64 (Q * 2) 263 (by omega) (by omega)
          have HQ : Hid (Good 8 263 (msgBit s.data.toList) (8 * k + t) (8 * k + 8) Q) := hQ
          clear hQ
          go_wp2
          · have hh : ((Q : Int) * 2 / 256 == 1) = true := by assumption
            go_round
            case rel =>
              refine ⟨t + 1, _, by omega, by go_num, by simp only [Int.natCast_mul] at hx2; exact congrArg _ hx2, good_yes (i := 8 * k + t) (by decide) (by decide) (by decide) (by omega) (by omega) HQ.out ?_⟩
              simp at hh; omega
            case measure => simp [intOf]; omega
          · have hh : ((Q : Int) * 2 / 256 == 1) = false := by assumption
            go_round
            case rel =>
              refine ⟨t + 1, Q * 2, by omega, by go_num, by go_num, good_no (i := 8 * k + t) (by decide) (by omega) (by omega) HQ.out ?_⟩
              simp at hh; omega
            case measure => simp [intOf]; omega
        · have e : t = 8 := by omega
          subst e
          have HQ : Hid (Good 8 263 (msgBit s.data.toList) (8 * k + 8) (8 * k + 8) Q) := hQ
          clear hQ
          go_wp2
          go_round
          case rel => exact ⟨k + 1, Q, by omega, by go_num, rfl, HQ.out⟩
          case measure => simp [intOf]; omega
    · have e : k = s.size := by omega
      subst e
      have HG : Hid (Good 8 263 (msgBit s.data.toList) (8 * s.size) (8 * s.size) R) := hG
      clear hG
      go_wp2
      go_ret
      exact ⟨R, rfl, HG.out, rfl⟩
set_option maxHeartbeats 400000 in
theorem rem16_any (s : ByteArray) (w : World) (hs : s.size ≤ 2097152) :
    Calls Tryz.prog 146 #[.string s, .int .i64 16, .int .i64 98309] w fun e w' => ∃ R : Nat, e = .returned (.int .i64 R) ∧ Good 16 98309 (msgBit s.data.toList) (8 * s.size) (8 * s.size) R ∧ w' = w := by
  go_enter Tryz.func146, Tryz.ntmps146
  go_wp2
  go_loop [7, 11] (fun n i => ∃ k : Nat, ∃ R : Nat, k ≤ s.size ∧ i = .int .i64 k ∧ n = .int .i64 R ∧ Good 16 98309 (msgBit s.data.toList) (8 * k) (8 * k) R) (fun _ i => s.size - (intOf i).toNat)
  case atStart => exact ⟨0, 0, Nat.zero_le _, rfl, rfl, good_zero _ _ _⟩
  case round =>
    obtain ⟨k, R, hk, rfl, rfl, hG⟩ := hrel
    by_cases hlt : k < s.size
    · have hc : s[k].toNat < 256 := UInt8.toNat_lt _
      have hR : R < 65536 := hG.1
      have HG : Hid (Good 16 98309 (msgBit s.data.toList) (8 * k) (8 * k + 8) (R ^^^ s[k].toNat * 256)) := by
        have := good_start (c := s[k].toNat) (by decide) hc (fun x hx => by rw [msgBit_byte _ _ _ hx, getD_byte s k hlt]) hG
        show Good _ _ _ _ _ _
        simpa using this
      clear hG
      have hx := xor_i64 R (s[k].toNat * 256) (by omega) (by omega)
      go_wp2
      go_loop [7, 23] (fun n i => ∃ t : Nat, ∃ R : Nat, t ≤ 8 ∧ i = .int .i64 t ∧ n = .int .i64 R ∧ Good 16 98309 (msgBit s.data.toList) (8 * k + t) (8 * k + 8) R) (fun _ i => 8 - (intOf i).toNat)
      case atStart =>
        refine ⟨0, _, Nat.zero_le _, rfl, ?_, HG.out⟩
        simp only [Int.natCast_mul] at hx; exact congrArg _ hx
      case round =>
        obtain ⟨t, Q, ht, rfl, rfl, hQ⟩ := hrel
        clear hx HG
        by_cases hlt8 : t < 8
        · have hQb : Q < 65536 := hQ.1
          have hx2 := xor_i64 (Q * 2) 98309 (by omega) (by omega)
          have HQ : Hid (Good 16 98309 (msgBit s.data.toList) (8 * k + t) (8 * k + 8) Q) := hQ
          clear hQ
          go_wp2
          · have hh : ((Q : Int) * 2 / 65536 == 1) = true := by assumption
            go_round
            case rel =>
              refine ⟨t + 1, _, by omega, by go_num, by simp only [Int.natCast_mul] at hx2; exact congrArg _ hx2, good_yes (i := 8 * k + t) (by decide) (by decide) (by decide) (by omega) (by omega) HQ.out ?_⟩
              simp at hh; omega
            case measure => simp [intOf]; omega
          · have hh : ((Q : Int) * 2 / 65536 == 1) = false := by assumption
            go_round
            case rel =>
              refine ⟨t + 1, Q * 2, by omega, by go_num, by go_num, good_no (i := 8 * k + t) (by decide) (by omega) (by omega) HQ.out ?_⟩
              simp at hh; omega
            case measure => simp [intOf]; omega
        · have e : t = 8 := by omega
          subst e
          have HQ : Hid (Good 16 98309 (msgBit s.data.toList) (8 * k + 8) (8 * k + 8) Q) := hQ
          clear hQ
          go_wp2
          go_round
          case rel => exact ⟨k + 1, Q, by omega, by go_num, rfl, HQ.out⟩
          case measure => simp [intOf]; omega
    · have e : k = s.size := by omega
      subst e
      have HG : Hid (Good 16 98309 (msgBit s.data.toList) (8 * s.size) (8 * s.size) R) := hG
      clear hG
      go_wp2
      go_ret
      exact ⟨R, rfl, HG.out, rfl⟩
end Go.Proofs.YtlncjgnomhpjnaaGreatDoor

