/-
  The law: Book.reads.
-/
import Derived.Test.YtlncjgnomhpjnaaDoorLawTake
namespace Go.Proofs.YtlncjgnomhpjnaaDoor
open Go.RowKit Go.Deep
set_option linter.unusedVariables false

/-- Read answers one thing at each input -/
theorem readAns_one (width n : Int) (s : ByteArray) :
    (∃ c : Int, (0 ≤ c ∧ c ≤ 5) ∧ ∀ e w w', ReadAns e w w' width n s → e = .returned (.tuple #[.slice none 0 0, .int .i64 0, .int .i64 c])) ∨
    (∃ (x : Nat → Int) (p N : Nat), N ≤ 32 ∧ ∀ e w w', ReadAns e w w' width n s → ∃ g, e = .returned (.tuple #[.slice (some ⟨g, 0, none⟩) N N, .int .i64 p, .int .i64 0]) ∧ w.heap.size ≤ g ∧ w'.rowIs g 3 N (cutV N x)) := by
  by_cases h1 : (within width 1 13 && within n 1 32) = true
  · by_cases h2 : s.size ≤ 80000
    · by_cases h3 : IsBitsP s
      · cases h4 : readSt (bitsOf s) s.size width.toNat n.toNat with
        | none =>
          refine .inl ⟨5, by omega, fun e w w' h => ?_⟩
          rcases h with ⟨h, -⟩ | ⟨-, h, -⟩ | ⟨-, -, h, -⟩ | ⟨-, -, -, -, h⟩ | ⟨-, -, -, xp, g, h, -⟩
          · exact absurd h1 h
          · omega
          · exact absurd h3 h
          · exact h
          · rw [h4] at h; cases h
        | some xp =>
          refine .inr ⟨xp.1, xp.2, n.toNat, by simp [within_iff] at h1; omega, fun e w w' h => ?_⟩
          rcases h with ⟨h, -⟩ | ⟨-, h, -⟩ | ⟨-, -, h, -⟩ | ⟨-, -, -, h, -⟩ | ⟨-, -, -, xq, g, h, he, hg, hr⟩
          · exact absurd h1 h
          · omega
          · exact absurd h3 h
          · rw [h4] at h; cases h
          · rw [h4] at h; cases h
            exact ⟨g, he, hg, hr⟩
      · refine .inl ⟨5, by omega, fun e w w' h => ?_⟩
        rcases h with ⟨h, -⟩ | ⟨-, h, -⟩ | ⟨-, -, -, h⟩ | ⟨-, -, h, -⟩ | ⟨-, -, h, -⟩
        · exact absurd h1 h
        · omega
        · exact h
        · exact absurd h h3
        · exact absurd h h3
    · refine .inl ⟨4, by omega, fun e w w' h => ?_⟩
      rcases h with ⟨h, -⟩ | ⟨-, -, h⟩ | ⟨-, h, -⟩ | ⟨-, h, -⟩ | ⟨-, h, -⟩
      · exact absurd h1 h
      · exact h
      · omega
      · omega
      · omega
  · refine .inl ⟨3, by omega, fun e w w' h => ?_⟩
    rcases h with ⟨-, h⟩ | ⟨h, -⟩ | ⟨h, -⟩ | ⟨h, -⟩ | ⟨h, -⟩
    · exact h
    · exact absurd h h1
    · exact absurd h h1
    · exact absurd h h1
    · exact absurd h h1
theorem tab_below {w w' : World} (h : Below w.heap.size w w') {g : Nat} (hT : TabAt w g) (hg : g < w.heap.size) : TabAt w' g :=
  fun r c hr hc => (h.cell (p := ⟨g, 4 * r + c, none⟩) hg).trans (hT r c hr hc)

theorem num_any (c : Int) (w : World) (h : 0 ≤ c ∧ c ≤ 100) : Calls Tryd.prog 7 #[.int .i64 c] w fun e w' => e = .returned (.int .i64 c) ∧ w' = w := by
  go_enter Tryd.func7, Tryd.ntmps7
  go_wp2
  go_ret
  exact ⟨rfl, rfl⟩

theorem grown_below {w w' : World} (h : Below w.heap.size w w') : w.grownBy w' none := ⟨h.os, h.tape, h.output, h.size, fun k hk _ => h.block k hk⟩
theorem ints_row {w : World} {g N : Nat} {t : TypeId} {x : Nat → Int} (h : w.rowIs g t N (cutV N x)) : IntsAt w (some ⟨g, 0, none⟩) N x := fun i hi => ⟨_, rfl, by
  have := h.cell hi
  rw [show ((⟨g, 0, none⟩ : Addr).add i) = ⟨g, i, none⟩ by cases i <;> simp [Addr.add]]
  simpa [cutV, cutI, hi] using this⟩

set_option maxRecDepth 100000 in
set_option maxHeartbeats 2000000 in
theorem reads_any (B : Nat) (kv : Value) (K : Nat) (base j : Nat) (ks : List Value) (width n : Int) (s : ByteArray) (w : World) (hsz : s.size ≤ 9223372036854775807) (hK : K ≤ 100) (hB : Bo w B kv K)
    (hown : w.ownsRow base 50 6 kv j ks) (hj : j ≤ 10) (hbase : base ≤ w.heap.size) (hkvB : kv.ownBlock ≠ some B) (hT : TabAt w 2) (hT2 : 2 < w.heap.size) (hU : TabAt w 3) (hU3 : 3 < w.heap.size) :
    Calls Tryd.prog 11 #[.pointer (some ⟨B, 0, none⟩), .int .i64 width, .int .i64 n, .string s] w fun e w' =>
      e = .returned (.bool true) ∧ ∃ w1 l N, N ≤ 32 ∧ Below w.heap.size w w1 ∧ Took w1 w' B l N kv K base j ks (-1000 - ((K : Int) + 1)) ∧ (∀ k, l.ownBlock = some k → w.heap.size ≤ k) := by
  have H1 := Hid.mk' (read_any width n s w hsz hT hT2)
  have H2 : Hid (∀ u, Below w.heap.size w u → Calls Tryd.prog 23 #[.int .i64 width, .int .i64 n, .string s] u fun e w' => ReadAns e u w' width n s ∧ Below u.heap.size u w') := fun u hu => cRead_any width n s u hsz (tab_below hu hU hU3) (Nat.lt_of_lt_of_le hU3 hu.size)
  have HB := Hid.mk' hB
  have HOWN := Hid.mk' hown
  have hBlt := hB.lt
  clear hT hU hB hown
  rcases readAns_one width n s with ⟨c, hcb, hc⟩ | ⟨x, p, N, hN, hc⟩
  · have HC := Hid.mk' hc
    clear hc
    go_enter Tryd.func11, Tryd.ntmps11
    go_wp2_with (first
      | (go_at_call 9; refine H1.out.mono ?_; rintro e u1 ⟨ha, hb1⟩; have he := HC.out _ _ _ ha; subst he; clear ha; have HB1 := Hid.mk' hb1; clear hb1)
      | (go_at_call 23; refine (H2.out _ HB1.out).mono ?_; rintro e u2 ⟨ha, hb2⟩; have he := HC.out _ _ _ ha; subst he; clear ha; have HB2 := Hid.mk' (HB1.out.trans (hb2.mono HB1.out.size)); clear hb2)
      | (go_at_call 24; refine (same_any none none 0 0 0 (fun _ => 0) _ (by omega) (fun i hi => absurd hi (Nat.not_lt_zero i)) (fun i hi => absurd hi (Nat.not_lt_zero i))).mono ?_; rintro e u3 ⟨rfl, q, hu3⟩; subst u3; have HB3 : Hid (Below w.heap.size w (u2.drewN q)) := ⟨HB2.out.os, HB2.out.tape, HB2.out.output, HB2.out.size, HB2.out.block⟩)
      | (go_at_call 7; refine (num_any c _ (by omega)).mono ?_; rintro e u4 ⟨rfl, hu4⟩; subst u4)
      | (go_at_call 10; refine (take_none B kv K base j ks (u2.drewN q) hK (HB.out.of (HB3.out.block B hBlt)) (HOWN.out.kept (grown_below HB3.out) (Classical.em _)) hj (Nat.le_trans hbase HB3.out.size) hkvB).mono ?_; rintro e u5 ⟨rfl, ht⟩; have HT := Hid.mk' ht; clear ht))
    go_ret
    refine ⟨rfl, _, _, _, by omega, ?_, HT.out, ?_⟩
    · exact HB3.out
    · intro k hk; cases hk
  · have HC := Hid.mk' hc
    clear hc
    go_enter Tryd.func11, Tryd.ntmps11
    go_wp2_with (first
      | (go_at_call 9; refine H1.out.mono ?_; rintro e u1 ⟨ha, hb1⟩; obtain ⟨g1, he, hg1, hr1⟩ := HC.out _ _ _ ha; subst he; clear ha; have HB1 := Hid.mk' hb1; have HR1 := Hid.mk' hr1; clear hb1 hr1)
      | (go_at_call 23; refine (H2.out _ HB1.out).mono ?_; rintro e u2 ⟨ha, hb2⟩; obtain ⟨g2, he, hg2, hr2⟩ := HC.out _ _ _ ha; subst he; clear ha; have HB2 := Hid.mk' (HB1.out.trans (hb2.mono HB1.out.size)); have HR2 := Hid.mk' hr2; have HR3 := Hid.mk' (HR1.out.of_block (hb2.block _ HR1.out.lt)); clear hb2 hr2)
      | (go_at_call 24; refine (same_any (some ⟨g1, 0, none⟩) (some ⟨g2, 0, none⟩) N N N x _ hN (ints_row HR3.out) (ints_row HR2.out)).mono ?_; rintro e u3 ⟨rfl, q, hu3⟩; subst u3; have HB3 : Hid (Below w.heap.size w (u2.drewN q)) := ⟨HB2.out.os, HB2.out.tape, HB2.out.output, HB2.out.size, HB2.out.block⟩)
      | (go_at_call 7; refine (num_any 0 _ (by omega)).mono ?_; rintro e u4 ⟨rfl, hu4⟩; subst u4)
      | (go_at_call 10; refine (take_any B g1 N kv K base j ks x (u2.drewN q) hN hK (HB.out.of (HB3.out.block B hBlt)) HR3.out (by omega) (HOWN.out.kept (grown_below HB3.out) (Classical.em _)) hj (Nat.le_trans hbase HB3.out.size) hkvB (fun e => by have := (HOWN.out.lt g1 e).2; omega)).mono ?_; rintro e u5 ⟨rfl, ht⟩; have HT := Hid.mk' ht; clear ht))
    go_ret
    refine ⟨rfl, _, _, _, hN, ?_, HT.out, ?_⟩
    · exact HB3.out
    · intro k hk; cases hk; exact hg1
end Go.Proofs.YtlncjgnomhpjnaaDoor
