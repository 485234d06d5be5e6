/-
  Texts of bits for 'Tight'; what it calls of its own package.
-/
import Derived.Test.YtlncjgnomhpjnaaDoorTightSub
import Derived.Test.YtlncjgnomhpjnaaDoorLayTop2
namespace Go.Proofs.YtlncjgnomhpjnaaDoor
open Go.RowKit Go.Deep
set_option linter.unusedVariables false

def AllB (T : List UInt8) : Prop := ∀ c ∈ T, c = 48 ∨ c = 49
theorem AllB.append {T U : List UInt8} (h : AllB T) (k : AllB U) : AllB (T ++ U) := fun c hc => by
  rcases List.mem_append.1 hc with h1 | h1
  · exact h c h1
  · exact k c h1
theorem ltr_bit (b : Bool) : ltr b = 48 ∨ ltr b = 49 := by cases b <;> simp [ltr]
theorem binT_bits (v : Int) (k : Nat) : AllB (binT v k) := fun c hc => by
  unfold binT at hc
  obtain ⟨i, _, rfl⟩ := List.mem_map.1 hc
  exact ltr_bit _
theorem riceT_bits (f k : Nat) : AllB (riceT f k) := by
  unfold riceT
  refine AllB.append (AllB.append (fun c hc => ?_) (fun c hc => ?_)) (binT_bits _ _)
  · exact .inl (List.eq_of_mem_replicate hc)
  · exact .inr (by simpa using hc)
theorem codedT_bits (f : Nat → Nat) (k lo : Nat) : ∀ m, AllB (codedT f k lo m)
  | 0 => fun c hc => by cases hc
  | m + 1 => (codedT_bits f k lo m).append (riceT_bits _ _)
theorem partsT_bits (f : Nat → Nat) (o sz : Nat) : ∀ m, AllB (partsT f o sz m)
  | 0 => fun c hc => by cases hc
  | m + 1 => (partsT_bits f o sz m).append ((binT_bits _ _).append (codedT_bits _ _ _ _))
theorem numsT_bits (x : Nat → Int) (w : Nat) : ∀ m, AllB (numsT x w m)
  | 0 => fun c hc => by cases hc
  | m + 1 => (numsT_bits x w m).append (binT_bits _ _)
theorem bodyT_bits (kind w : Nat) (x : Nat → Int) (n : Nat) : AllB (bodyT kind w x n) := by
  unfold bodyT
  split
  · exact binT_bits _ _
  · split
    · exact numsT_bits _ _ _
    · unfold gT cutT
      refine (numsT_bits _ _ _).append (AllB.append ?_ ((binT_bits _ _).append (partsT_bits _ _ _ _)))
      split
      · exact (binT_bits _ _).append (binT_bits _ _)
      · exact fun c hc => by cases hc
theorem subT_bits (width : Nat) (l : Nat → Int) (n : Nat) : AllB (subT width l n) := (binT_bits _ _).append ((binT_bits _ _).append (bodyT_bits _ _ _ _))

theorem bs_get (T : List UInt8) (j : Nat) (h : j < (bs T).size) : (bs T)[j] = T[j]'(by rw [bs_size] at h; exact h) := rfl
theorem bs_bits {T : List UInt8} (h : AllB T) : IsBitsP (bs T) := fun j hj => by
  rw [bs_get]; exact h _ (List.getElem_mem _)
theorem bitsOf_get {T : List UInt8} (h : AllB T) {j : Nat} (hj : j < T.length) : T[j] = ltr (bitsOf (bs T) j) := by
  have hs : j < (bs T).size := by rw [bs_size]; exact hj
  have := bits_of (bs_bits h) j hs
  rw [bs_get] at this
  exact this
theorem says_of {T U : List UInt8} (hT : AllB T) (hU : AllB U) : SaysT (bitsOf (bs (T ++ U))) 0 T := fun i hi => by
  have h := bitsOf_get (hT.append hU) (j := i) (by rw [List.length_append]; omega)
  rw [List.getElem_append_left hi] at h
  rw [Nat.zero_add]; exact h
/-- a text without its last bit -/
theorem agree_cut {T : List UInt8} (hT : AllB T) (N : Nat) (hN : N ≤ T.length) : Agree (bitsOf (bs (T.take N))) (bitsOf (bs T)) N := fun i hi => by
  have hT2 : AllB (T.take N) := fun c hc => hT c (List.mem_of_mem_take hc)
  have h1 := bitsOf_get hT2 (j := i) (by rw [List.length_take]; omega)
  have h2 := bitsOf_get hT (j := i) (by omega)
  rw [List.getElem_take] at h1
  exact ltr_inj (h1.symm.trans h2)
theorem tight_yes {width n N : Nat} {l : Nat → Int} {U : List UInt8} (hn1 : 1 ≤ n) (hw1 : 1 ≤ width) (hw : width ≤ 13) (hfit : ∀ j, j < n → fitsB width (l j) = true) (hU : AllB U) :
    ∃ r, readSt (bitsOf (bs (subT width l n ++ U))) (bs (subT width l n ++ U)).size width n = some r ∧ r.2 = (subT width l n).length ∧ ∀ j, j < n → r.1 j = l j :=
  sub_back hn1 hw1 hw hfit (says_of (subT_bits _ _ _) hU) (by rw [bs_size, List.length_append]; omega)
theorem tight_no {width n : Nat} {l : Nat → Int} (hn1 : 1 ≤ n) (hw1 : 1 ≤ width) (hw : width ≤ 13) (hfit : ∀ j, j < n → fitsB width (l j) = true) :
    readSt (bitsOf (bs ((subT width l n).take ((subT width l n).length - 1)))) (bs ((subT width l n).take ((subT width l n).length - 1))).size width n = none := by
  have h8 : 8 ≤ (subT width l n).length := by rw [subT_length]; omega
  obtain ⟨r, h1, h2, _⟩ := tight_yes (U := []) (N := 0) hn1 hw1 hw hfit (fun c hc => by cases hc)
  rw [List.append_nil, bs_size] at h1
  rw [bs_size, List.length_take, Nat.min_eq_left (by omega)]
  refine readSt_cut (b' := bitsOf (bs (subT width l n))) (r := r) ?_ (by omega) (agree_cut (subT_bits _ _ _) _ (by omega))
  rw [Nat.sub_add_cancel (by omega)]; exact h1

/-- which of n things a number speaks of -/
def pickV (a : Int) (n : Nat) : Nat := (if a < 0 then (-(a + 1)).toNat else a.toNat) % n
theorem pickV_lt (a : Int) (n : Nat) (h : 1 ≤ n) : pickV a n < n := Nat.mod_lt _ h
set_option maxHeartbeats 400000 in
theorem pick_any (a : Int) (n : Nat) (w : World) (hn : 1 ≤ n) (hn2 : n ≤ 100000) (ha : -9223372036854775808 ≤ a ∧ a ≤ 9223372036854775807) :
    Calls Tryd.prog 13 #[.int .i64 a, .int .i64 n] w fun e w' => e = .returned (.int .i64 (pickV a n)) ∧ w' = w := by
  have nz : ¬ (n : Int) = 0 := by omega
  by_cases h : a < 0
  · have t1 : decide (a < 0) = true := decide_eq_true h
    have HV : Hid (pickV a n = (-(a + 1)).toNat % n) := by show _ = _; unfold pickV; rw [if_pos h]
    have v1 : IntKind.i64.wrap (a + 1) = a + 1 := by rw [IntKind.wrap_i64]; omega
    have v2 : IntKind.i64.wrap (-(a + 1)) = ((-(a + 1)).toNat : Int) := by rw [IntKind.wrap_i64]; omega
    generalize (-(a + 1)).toNat = q at *
    have m1 : (q : Int).tmod (n : Int) = ((q % n : Nat) : Int) := by rw [Int.tmod_eq_emod_of_nonneg (by omega)]; simp
    have hml : q % n < n := Nat.mod_lt _ hn
    have HV2 := Hid.mk' HV.out
    generalize q % n = r at *
    go_enter Tryd.func13, Tryd.ntmps13
    go_wp2
    go_ret
    exact ⟨ret_int (by rw [HV2.out]), rfl⟩
  · have t1 : decide (a < 0) = false := decide_eq_false h
    have HV : Hid (pickV a n = a.toNat % n) := by show _ = _; unfold pickV; rw [if_neg h]
    obtain ⟨q, rfl⟩ : ∃ q : Nat, a = q := ⟨a.toNat, by omega⟩
    rw [Int.toNat_natCast] at HV
    have m1 : (q : Int).tmod (n : Int) = ((q % n : Nat) : Int) := by rw [Int.tmod_eq_emod_of_nonneg (by omega)]; simp
    have hml : q % n < n := Nat.mod_lt _ hn
    have HV2 := Hid.mk' HV.out
    generalize q % n = r at *
    go_enter Tryd.func13, Tryd.ntmps13
    go_wp2
    go_ret
    exact ⟨ret_int (by rw [HV2.out]), rfl⟩

set_option maxHeartbeats 1000000 in
theorem ksame_any (a a' : Option Addr) (n c c' : Nat) (x : Nat → Int) (w : World) (hn : n ≤ 32) (h1 : IntsAt w a n x) (h2 : IntsAt w a' n x) :
    Calls Tryd.prog 14 #[.slice a n c, .slice a' n c'] w fun e w' => e = .returned (.bool true) ∧ ∃ m, w' = w.drewN m := by
  have H1 := Hid.mk' h1
  have H2 := Hid.mk' h2
  clear h1 h2
  go_enter Tryd.func14, Tryd.ntmps14
  go_wp2
  go_loopw [5] (fun i wr => ∃ k : Nat, k ≤ n ∧ i = .int .i64 k ∧ ∃ m, wr = w.drewN m) (fun i _ => n - (intOf i).toNat)
  case atStart => exact ⟨0, Nat.zero_le _, rfl, 0, rfl⟩
  case round =>
    obtain ⟨k, hk, rfl, m, rfl⟩ := hrel
    by_cases hkn : k < n
    · obtain ⟨b1, o1, hx1, hc1⟩ := H1.out.open (by omega)
      obtain ⟨b2, o2, hx2, hc2⟩ := H2.out.open (by omega)
      cases hx1
      cases hx2
      have hd1 := hc1 k hkn
      have hd2 := hc2 k hkn
      clear hc1 hc2
      go_wp2
      go_region
      all_goals go_wp2
      go_roundw
      case rel => exact ⟨k + 1, by omega, by go_num, _, rfl⟩
      case measure => simp [intOf]; omega
    · have e : k = n := by omega
      subst e
      go_wp2
      go_ret
      exact ⟨rfl, _, rfl⟩
end Go.Proofs.YtlncjgnomhpjnaaDoor
