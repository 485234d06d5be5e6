/-
  The document's reader: Read.
-/
import Derived.Test.YtlncjgnomhpjnaaDoorCursor6
namespace Go.Proofs.YtlncjgnomhpjnaaDoor
open Go.RowKit Go.Deep
set_option linter.unusedVariables false

set_option maxRecDepth 100000 in
set_option maxHeartbeats 2000000 in
theorem cRead_any (width n : Int) (s : ByteArray) (w : World) (hsz : s.size ≤ 9223372036854775807) (hT : TabAt w 3) (hT3 : 3 < w.heap.size) :
    Calls Tryd.prog 23 #[.int .i64 width, .int .i64 n, .string s] w fun e w' => ReadAns e w w' width n s ∧ Below w.heap.size w w' := by
  by_cases h1 : width < 1
  · have t1 : decide (width < 1) = true := decide_eq_true h1
    clear hT
    go_enter Tryd.func23, Tryd.ntmps23
    go_wp2
    go_ret3
    exact ⟨.inl ⟨by simp [within_iff]; omega, rfl⟩, Below.refl _ _⟩
  · have t1 : decide (width < 1) = false := decide_eq_false h1
    by_cases h2 : 13 < width
    · have t2 : decide (13 < width) = true := decide_eq_true h2
      clear hT
      go_enter Tryd.func23, Tryd.ntmps23
      go_wp2
      go_ret3
      exact ⟨.inl ⟨by simp [within_iff]; omega, rfl⟩, Below.refl _ _⟩
    · have t2 : decide (13 < width) = false := decide_eq_false h2
      by_cases h3 : n < 1
      · have t3 : decide (n < 1) = true := decide_eq_true h3
        clear hT
        go_enter Tryd.func23, Tryd.ntmps23
        go_wp2
        go_ret3
        exact ⟨.inl ⟨by simp [within_iff]; omega, rfl⟩, Below.refl _ _⟩
      · have t3 : decide (n < 1) = false := decide_eq_false h3
        by_cases h4 : 32 < n
        · have t4 : decide (32 < n) = true := decide_eq_true h4
          clear hT
          go_enter Tryd.func23, Tryd.ntmps23
          go_wp2
          go_ret3
          exact ⟨.inl ⟨by simp [within_iff]; omega, rfl⟩, Below.refl _ _⟩
        · have t4 : decide (32 < n) = false := decide_eq_false h4
          have HOK : Hid ((within width 1 13 && within n 1 32) = true) := by show _ = _; simp [within_iff]; omega
          by_cases hlong : s.size ≤ 80000
          · have t5 : decide ((80000 : Int) < (s.size : Int)) = false := decide_eq_false (by omega)
            have t5N : decide (80000 < s.size) = false := decide_eq_false (by omega)
            obtain ⟨W, hWe⟩ : ∃ W : Nat, width = (W : Int) := ⟨width.toNat, by omega⟩
            obtain ⟨M, hMe⟩ : ∃ M : Nat, n = (M : Int) := ⟨n.toNat, by omega⟩
            subst hWe
            subst hMe
            have hb1 : 1 ≤ W ∧ W ≤ 13 ∧ 1 ≤ M ∧ M ≤ 32 := by omega
            clear h1 h2 h3 h4
            have HT := Hid.mk' hT
            clear hT
            go_enter Tryd.func23, Tryd.ntmps23
            go_wp2
            go_loop [9] (fun i => ∃ k : Nat, k ≤ s.size ∧ i = .int .i64 k ∧ Hid (∀ j, j < k → ∀ h : j < s.size, s[j] = 48 ∨ s[j] = 49)) (fun i => s.size - (intOf i).toNat)
            case atStart => exact ⟨0, Nat.zero_le _, rfl, fun j hj => absurd hj (by omega)⟩
            case round =>
              obtain ⟨k, hk, rfl, HK⟩ := hrel
              by_cases hlt : k < s.size
              · by_cases h0 : s[k] = 48
                · have t0 : ((s[k].toNat : Int) != 48) = false := by rw [h0]; rfl
                  have H0 := Hid.mk' h0
                  clear h0
                  go_wp2
                  go_round
                  case rel =>
                    refine ⟨k + 1, by omega, by go_num, fun j hj h => ?_⟩
                    by_cases e : j = k
                    · subst e; exact .inl H0.out
                    · exact HK.out j (by omega) h
                  case measure => simp [intOf]; omega
                · have t0 : ((s[k].toNat : Int) != 48) = true := by
                    have := byte_ne (c := s[k]) (k := 48) (by omega)
                    rw [show ((48 : Nat) : Int) = 48 from rfl] at this
                    rw [this]; simpa using h0
                  have H0 := Hid.mk' h0
                  clear h0
                  by_cases h1 : s[k] = 49
                  · have t1' : ((s[k].toNat : Int) != 49) = false := by rw [h1]; rfl
                    have H1 := Hid.mk' h1
                    clear h1
                    go_wp2
                    go_round
                    case rel =>
                      refine ⟨k + 1, by omega, by go_num, fun j hj h => ?_⟩
                      by_cases e : j = k
                      · subst e; exact .inr H1.out
                      · exact HK.out j (by omega) h
                    case measure => simp [intOf]; omega
                  · have t1' : ((s[k].toNat : Int) != 49) = true := by
                      have := byte_ne (c := s[k]) (k := 49) (by omega)
                      rw [show ((49 : Nat) : Int) = 49 from rfl] at this
                      rw [this]; simpa using h1
                    have H1 := Hid.mk' h1
                    clear h1
                    go_wp2
                    go_ret3
                    refine ⟨.inr (.inr (.inl ⟨HOK.out, hlong, fun h => ?_, rfl⟩)), Below.refl _ _⟩
                    rcases h k hlt with e | e
                    · exact H0.out e
                    · exact H1.out e
              · have e : k = s.size := by omega
                subst e
                have hbits : IsBitsP s := fun j hj => HK.out j hj hj
                have HBI := Hid.mk' hbits
                obtain ⟨w1, hw1⟩ : ∃ w1, w1 = w.alloc (.cells #[.string s, .int .i64 0, .bool false] 80) := ⟨_, rfl⟩
                have hb0 : Below w.heap.size w w1 := by rw [hw1]; exact (Below.refl _ _).alloc (Nat.le_refl _) _
                have hcu : Cu w1 w.heap.size s 0 false := by rw [hw1]; exact blk_alloc_new _ _
                have hT4 : TabAt w1 3 := fun r c hr hc => (hb0.cell (p := ⟨3, 4 * r + c, none⟩) hT3).trans (HT.out r c hr hc)
                have HSUB := Hid.mk' (cSub_any w.heap.size s (bitsOf s) W M w1 hlong hb1.1 hb1.2.1 hb1.2.2.1 hb1.2.2.2 hcu (bits_of hbits) hT4 (Nat.lt_of_lt_of_le hT3 hb0.size) (by omega))
                have HB0 := Hid.mk' hb0
                have HLT := Hid.mk' hcu.lt
                clear hT4 hcu hbits hb0
                cases hst : readSt (bitsOf s) s.size W M with
                | none =>
                  rw [hst] at HSUB
                  have HST := Hid.mk' hst
                  clear hst
                  rw [hw1] at HSUB HB0 HLT
                  clear hw1
                  go_wp2_with (go_at_call 39; refine HSUB.out.mono ?_; rintro e u1 ⟨v, rfl, hC1⟩; clear HSUB; have HC1 := Hid.mk' hC1; clear hC1)
                  go_ret3
                  exact ⟨.inr (.inr (.inr (.inl ⟨HOK.out, hlong, HBI.out, HST.out, rfl⟩))), HB0.out.trans (HC1.out.toBelow (Nat.le_refl _) (Nat.le_of_lt HLT.out))⟩
                | some xp =>
                  rw [hst] at HSUB
                  have HST := Hid.mk' hst
                  clear hst
                  rw [hw1] at HSUB HB0 HLT
                  clear hw1
                  go_wp2_with (go_at_call 39; refine HSUB.out.mono ?_; rintro e u1 ⟨g, rfl, hg, hrow, hcu, hC1⟩; clear HSUB; obtain ⟨cd0, cd1, cd2, fd1, fd2⟩ := hcu.cells; have HROW := Hid.mk' hrow; have HC1 := Hid.mk' hC1; clear hC1 hrow hcu)
                  go_quiet ((fail))
                  go_wp2
                  go_ret3
                  refine ⟨.inr (.inr (.inr (.inr ⟨HOK.out, hlong, HBI.out, xp, g, HST.out, rfl, Nat.le_trans HB0.out.size hg, HROW.out⟩))), HB0.out.trans ((HC1.out.drewN _).toBelow (Nat.le_refl _) (Nat.le_of_lt HLT.out))⟩
          · have t5 : decide ((80000 : Int) < (s.size : Int)) = true := decide_eq_true (by omega)
            have t5N : decide (80000 < s.size) = true := decide_eq_true (by omega)
            clear hT
            go_enter Tryd.func23, Tryd.ntmps23
            go_wp2
            go_ret3
            exact ⟨.inr (.inl ⟨HOK.out, by omega, rfl⟩), Below.refl _ _⟩
end Go.Proofs.YtlncjgnomhpjnaaDoor
