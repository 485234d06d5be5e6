import Derived.Test.YtlncjgnomhpjnaaGreatDoorPR15
/-
  The book: it is looked at.
-/
namespace Go.Proofs.YtlncjgnomhpjnaaGreatDoor
open Go.RowKit Go.Deep
set_option linter.unusedVariables false
theorem bookTakeAll_any (S : Nat → Prop) (B K n : Nat) (og : Option Nat) (X : Nat → Value) (L : Value) (ogs : Nat → Option Nat) (w : World) (hn : n ≤ 1000000) (hK : K ≤ 500000000000) (hBP : BookP S w B K) (hL : LstE 29 w L n og X) (hS : ∀ g, og = some g → ¬ S g)
    (hX : ∀ i, i < n → ∃ q x, q ≤ 1000000 ∧ LstE 3 w (X i) q (ogs i) x) (hXS : ∀ i, i < n → ∀ g, ogs i = some g → ¬ S g) (hXX : ∀ i k, i < n → k < n → i ≠ k → ∀ g, ogs i = some g → ogs k ≠ some g) :
    Calls Tryz.prog 16 #[.pointer (some ⟨B, 0, none⟩), L] w fun e w' => e = .returned (.tuple #[]) ∧ TookA S w w' B K n og ogs := by
  rcases hL with ⟨rfl, rfl, rfl⟩ | ⟨g, o, c, N, f, rfl, rfl, hrow, hoc, hnc, hf⟩
  · exact bookTakeAll_none S B K ogs w hK hBP
  · exact bookTakeAll_some S B K n g o c N f ogs w hn hK hBP hrow hoc hnc (hS g rfl) (fun i hi => by rw [hf i hi]; exact hX i hi) hXS hXX
theorem ShM.ints {S : Nat → Prop} {w : World} {v : Value} {n : Nat} {m : Int} (h : ShM S w v n m) : ∃ a c, v = .slice a n c ∧ IntsAt w a n (fun _ => m) := by
  obtain ⟨og, h, -⟩ := h
  rcases h with ⟨rfl, rfl, -⟩ | ⟨g, o, c, N, f, -, rfl, hr, h1, h2, h3⟩
  · exact ⟨none, 0, rfl, fun i hi => absurd hi (Nat.not_lt_zero i)⟩
  · exact ⟨_, c, rfl, fun i hi => ⟨_, rfl, by rw [Addr.add_lit, hr.cell (by omega), h3 i hi]⟩⟩
theorem ShL.lists {S : Nat → Prop} {w : World} {v : Value} {n : Nat} {m : Int} (h : ShL S w v n m) : ∃ a c, v = .slice a n c ∧ ∀ i, i < n → ∃ g o q, a = some ⟨g, o, none⟩ ∧ w.cell? ⟨g, o + i, none⟩ = some (.slice (some ⟨q, 0, none⟩) 1 1) ∧ IntsAt w (some ⟨q, 0, none⟩) 1 (fun _ => m) := by
  obtain ⟨og, x, h, -, hx⟩ := h
  rcases h with ⟨rfl, rfl, -⟩ | ⟨g, o, c, N, f, -, rfl, hr, h1, h2, h3⟩
  · exact ⟨none, 0, rfl, fun i hi => absurd hi (Nat.not_lt_zero i)⟩
  · refine ⟨_, c, rfl, fun i hi => ?_⟩
    obtain ⟨q, e1, -, e3⟩ := hx i hi
    refine ⟨g, o, q, rfl, by rw [hr.cell (by omega), h3 i hi, e1], fun k hk => ⟨_, rfl, ?_⟩⟩
    rw [Addr.add_lit, Nat.zero_add, e3.cell hk]
theorem ints_gr {w w' : World} {a : Option Addr} {n : Nat} {f : Nat → Int} (h : IntsAt w a n f) (hg : w.grownBy w' none) : IntsAt w' a n f := by
  intro i hi
  obtain ⟨y, e, hc⟩ := h i hi
  exact ⟨y, e, hg.cell hc (by simp)⟩
theorem shows_pl (a : Option Addr) (n k c : Nat) (v : Int) (w : World) (hn : n ≤ 2000000) (hk : k ≤ 3) (hI : IntsAt w a (n + k) (fun _ => v)) :
    Calls Tryz.prog 46 #[.slice a (n + k) c, .int .i64 ((n : Int) + (k : Int)), .int .i64 v] w fun e w' => e = .returned (.bool true) ∧ w' = w := by
  have := shows_yes a (n + k) c v w (by omega) hI
  rwa [show (((n + k : Nat)) : Int) = (n : Int) + (k : Int) by omega] at this
/-- lists of one mark each -/
def ListsM (w : World) (a : Option Addr) (n : Nat) (m : Int) : Prop := ∀ i, i < n → ∃ g o q, a = some ⟨g, o, none⟩ ∧ w.cell? ⟨g, o + i, none⟩ = some (.slice (some ⟨q, 0, none⟩) 1 1) ∧ IntsAt w (some ⟨q, 0, none⟩) 1 (fun _ => m)
set_option maxHeartbeats 1000000 in
theorem shown_yes (a : Option Addr) (n c : Nat) (m : Int) (w : World) (hn : n ≤ 2000000) (hI : ListsM w a n m) :
    Calls Tryz.prog 47 #[.slice a n c, .int .i64 n, .int .i64 m] w fun e w' => e = .returned (.bool true) ∧ w' = w := by
  have HI := Hid.mk' hI
  clear hI
  go_enter Tryz.func47, Tryz.ntmps47
  go_wp2
  go_loopw [6, 7, 8] (fun _ iv _ wr => ∃ i : Nat, i ≤ n ∧ iv = .int .i64 i ∧ wr = w) (fun _ iv _ _ => n - (intOf iv).toNat)
  case atStart => exact ⟨0, Nat.zero_le _, rfl, rfl⟩
  case round =>
    obtain ⟨i, hi, rfl, hwr⟩ := hrel
    subst hwr
    by_cases hlt : i < n
    · obtain ⟨g, o, q, hae, hc, hq⟩ := HI.out i hlt
      have HS := Hid.mk' (fun (u : World) (e : u = wr) => show Calls Tryz.prog 46 #[.slice (some ⟨q, 0, none⟩) 1 1, .int .i64 1, .int .i64 m] u fun e w' => e = .returned (.bool true) ∧ w' = u from by rw [e]; exact shows_yes (some ⟨q, 0, none⟩) 1 1 m wr (by omega) hq)
      clear hq
      subst hae
      go_wp2_with (go_at_call 46; refine (HS.out _ rfl).mono ?_; rintro e w5 ⟨rfl, hw⟩; subst w5; clear HS)
      go_roundw
      case rel => exact ⟨i + 1, by omega, by go_num, by first | rfl | trivial⟩
      case measure => simp [intOf]; omega
    · have e : i = n := by omega
      subst e
      go_wp2
      go_ret
      exact ⟨rfl, rfl⟩
theorem lists_gr {w w' : World} {a : Option Addr} {n : Nat} {m : Int} (h : ListsM w a n m) (hg : w.grownBy w' none) : ListsM w' a n m := by
  intro i hi
  obtain ⟨g, o, q, e, hc, hq⟩ := h i hi
  exact ⟨g, o, q, e, hg.cell hc (by simp), ints_gr hq hg⟩
theorem shown_pl (a : Option Addr) (n k c : Nat) (m : Int) (w : World) (hn : n ≤ 1000000) (hk : k ≤ 3) (hI : ListsM w a (n + k) m) :
    Calls Tryz.prog 47 #[.slice a (n + k) c, .int .i64 ((n : Int) + (k : Int)), .int .i64 m] w fun e w' => e = .returned (.bool true) ∧ w' = w := by
  have := shown_yes a (n + k) c m w (by omega) hI
  rwa [show (((n + k : Nat)) : Int) = (n : Int) + (k : Int) by omega] at this
set_option maxRecDepth 100000 in
set_option maxHeartbeats 2000000 in
theorem bookLooks_any (S : Nat → Prop) (B K : Nat) (w : World) (hK : K ≤ 1000000000000) (hBP : BookP S w B K) :
    Calls Tryz.prog 18 #[.pointer (some ⟨B, 0, none⟩)] w fun e w' => e = .returned (.bool true) ∧ Below w.heap.size w w' := by
  obtain ⟨kv, lv, j, j2, ks, ls, hB⟩ := hBP
  obtain ⟨x0, x1, x2, -, -, -⟩ := hB.blk.cells
  have hBlt := hB.blk.lt
  have HB := Hid.mk' hB
  have hj : j ≤ 1000000000000 := by have := hB.cnt; omega
  have hj2 : j2 ≤ 1000000000000 := by have := hB.cnt; omega
  obtain ⟨ka, kc, hkv⟩ : ∃ a c, kv = .slice a j c := by
    rcases hB.own.2 with ⟨h, h0⟩ | ⟨g, c, cur, h, -⟩
    · exact ⟨none, 0, by rw [h, h0]⟩
    · exact ⟨_, c, h⟩
  obtain ⟨la, lc, hlv⟩ : ∃ a c, lv = .slice a j2 c := by
    rcases hB.own2.2 with ⟨h, h0⟩ | ⟨g, c, cur, h, -⟩
    · exact ⟨none, 0, by rw [h, h0]⟩
    · exact ⟨_, c, h⟩
  rw [hkv] at x0
  rw [hlv] at x1
  clear hB
  go_enter Tryz.func18, Tryz.ntmps18
  go_wp2
  go_loopw [2, 3, 5, 6, 7, 8] (fun _ iv _ _ _ _ wr => ∃ i : Nat, i ≤ j ∧ iv = .int .i64 i ∧ Hid (w.grownBy wr none)) (fun _ iv _ _ _ _ _ => j - (intOf iv).toNat)
  case atStart => exact ⟨0, Nat.zero_le _, rfl, gr_refl _ _⟩
  case round =>
    obtain ⟨i, hi, rfl, HG⟩ := hrel
    have z0 : wr.cell? ⟨B, 0, none⟩ = some (.slice ka j kc) := HG.out.cell x0 (by simp)
    have z1 : wr.cell? ⟨B, 1, none⟩ = some (.slice la j2 lc) := HG.out.cell x1 (by simp)
    by_cases hlt : i < j
    · obtain ⟨l, g1, g2, g3, n, m, hn, q0, q1, q2, q3, q4, q5, s0, s1, s2, s3⟩ := HB.out.ents i hlt
      obtain ⟨a0, c0, rfl, i0⟩ := s0.ints
      obtain ⟨a1, c1, rfl, i1⟩ := s1.ints
      obtain ⟨a2, c2, rfl, i2⟩ := s2.ints
      obtain ⟨a3, c3, rfl, i3⟩ := s3.ints
      obtain ⟨gk, hgk⟩ : ∃ gk, ka = some ⟨gk, 0, none⟩ := by
        rcases HB.out.own.2 with ⟨h, h0⟩ | ⟨g, c, cur, h, -⟩
        · omega
        · rw [hkv] at h; injection h with h1; exact ⟨g, h1⟩
      have hc : ∀ q u, ks[q]? = some u → wr.cell? ⟨gk, q, none⟩ = some u := fun q u hq => by
        have := HB.out.own.cells (g := gk) (by rw [hkv, hgk]; rfl) q u hq
        rw [Addr.add_lit, Nat.zero_add] at this
        exact HG.out.cell this (by simp)
      have h6 : 6 * i = i * 6 := by omega
      rw [h6] at q0 q1 q2 q3 q4 q5
      have k0 := hc _ _ q0
      have k1 := hc _ _ q1
      have k2 := hc _ _ q2
      have k3 := hc _ _ q3
      have k4 := hc _ _ q4
      have k5 := hc _ _ q5
      clear h6
      have HS0 : Hid (∀ O, Calls Tryz.prog 46 #[.slice a0 n c0, .int .i64 (n : Int), .int .i64 m] (wr.alloc O) fun e w' => e = .returned (.bool true) ∧ w' = wr.alloc O) := fun O => shows_yes a0 n c0 m _ (by omega) (ints_gr (ints_gr i0 HG.out) (World.grownBy_alloc wr O none))
      have HS1 : Hid (∀ O, Calls Tryz.prog 46 #[.slice a1 (n + 1) c1, .int .i64 ((n : Int) + 1), .int .i64 m] (wr.alloc O) fun e w' => e = .returned (.bool true) ∧ w' = wr.alloc O) := fun O => shows_pl a1 n 1 c1 m _ (by omega) (by omega) (ints_gr (ints_gr i1 HG.out) (World.grownBy_alloc wr O none))
      have HS2 : Hid (∀ O, Calls Tryz.prog 46 #[.slice a2 (n + 2) c2, .int .i64 ((n : Int) + 2), .int .i64 m] (wr.alloc O) fun e w' => e = .returned (.bool true) ∧ w' = wr.alloc O) := fun O => shows_pl a2 n 2 c2 m _ (by omega) (by omega) (ints_gr (ints_gr i2 HG.out) (World.grownBy_alloc wr O none))
      have HS3 : Hid (∀ O, Calls Tryz.prog 46 #[.slice a3 (n + 3) c3, .int .i64 ((n : Int) + 3), .int .i64 m] (wr.alloc O) fun e w' => e = .returned (.bool true) ∧ w' = wr.alloc O) := fun O => shows_pl a3 n 3 c3 m _ (by omega) (by omega) (ints_gr (ints_gr i3 HG.out) (World.grownBy_alloc wr O none))
      clear i0 i1 i2 i3 q0 q1 q2 q3 q4 q5 s0 s1 s2 s3 hc
      subst hgk
      go_wp2_with (first
        | (go_at_call 46; refine (HS0.out _).mono ?_; rintro e u ⟨rfl, hu⟩; subst u; clear HS0)
        | (go_at_call 46; refine (HS1.out _).mono ?_; rintro e u ⟨rfl, hu⟩; subst u; clear HS1)
        | (go_at_call 46; refine (HS2.out _).mono ?_; rintro e u ⟨rfl, hu⟩; subst u; clear HS2)
        | (go_at_call 46; refine (HS3.out _).mono ?_; rintro e u ⟨rfl, hu⟩; subst u; clear HS3))
      go_roundw
      case rel => exact ⟨i + 1, by omega, by go_num, gr_trans HG.out (World.grownBy_alloc wr _ none)⟩
      case measure => simp [intOf]; omega
    · have e : i = j := by omega
      subst e
      go_wp2
      go_loopw [2, 9, 11, 12, 13, 14] (fun _ iv _ _ _ _ wr' => ∃ q : Nat, q ≤ j2 ∧ iv = .int .i64 q ∧ Hid (w.grownBy wr' none)) (fun _ iv _ _ _ _ _ => j2 - (intOf iv).toNat)
      case atStart => exact ⟨0, Nat.zero_le _, rfl, HG.out⟩
      case round =>
        obtain ⟨q, hq, rfl, HG2⟩ := hrel
        have z2 : wr.cell? ⟨B, 1, none⟩ = some (.slice la j2 lc) := HG2.out.cell x1 (by simp)
        by_cases hlt2 : q < j2
        · obtain ⟨l, g1, g2, g3, n, m, hn, q0, q1, q2, q3, q4, q5, s0, s1, s2, s3⟩ := HB.out.ents2 q hlt2
          obtain ⟨a0, c0, rfl, i0⟩ := s0.lists
          obtain ⟨a1, c1, rfl, i1⟩ := s1.lists
          obtain ⟨a2, c2, rfl, i2⟩ := s2.lists
          obtain ⟨a3, c3, rfl, i3⟩ := s3.lists
          obtain ⟨gk, hgk⟩ : ∃ gk, la = some ⟨gk, 0, none⟩ := by
            rcases HB.out.own2.2 with ⟨h, h0⟩ | ⟨g, c, cur, h, -⟩
            · omega
            · rw [hlv] at h; injection h with h1; exact ⟨g, h1⟩
          have hc : ∀ p u, ls[p]? = some u → wr.cell? ⟨gk, p, none⟩ = some u := fun p u hp => by
            have := HB.out.own2.cells (g := gk) (by rw [hlv, hgk]; rfl) p u hp
            rw [Addr.add_lit, Nat.zero_add] at this
            exact HG2.out.cell this (by simp)
          have h6 : 6 * q = q * 6 := by omega
          rw [h6] at q0 q1 q2 q3 q4 q5
          have k0 := hc _ _ q0
          have k1 := hc _ _ q1
          have k2 := hc _ _ q2
          have k3 := hc _ _ q3
          have k4 := hc _ _ q4
          have k5 := hc _ _ q5
          clear h6
          have HS0 : Hid (∀ O, Calls Tryz.prog 47 #[.slice a0 n c0, .int .i64 (n : Int), .int .i64 m] (wr.alloc O) fun e w' => e = .returned (.bool true) ∧ w' = wr.alloc O) := fun O => shown_yes a0 n c0 m _ (by omega) (lists_gr (lists_gr i0 HG2.out) (World.grownBy_alloc wr O none))
          have HS1 : Hid (∀ O, Calls Tryz.prog 47 #[.slice a1 (n + 1) c1, .int .i64 ((n : Int) + 1), .int .i64 m] (wr.alloc O) fun e w' => e = .returned (.bool true) ∧ w' = wr.alloc O) := fun O => shown_pl a1 n 1 c1 m _ (by omega) (by omega) (lists_gr (lists_gr i1 HG2.out) (World.grownBy_alloc wr O none))
          have HS2 : Hid (∀ O, Calls Tryz.prog 47 #[.slice a2 (n + 2) c2, .int .i64 ((n : Int) + 2), .int .i64 m] (wr.alloc O) fun e w' => e = .returned (.bool true) ∧ w' = wr.alloc O) := fun O => shown_pl a2 n 2 c2 m _ (by omega) (by omega) (lists_gr (lists_gr i2 HG2.out) (World.grownBy_alloc wr O none))
          have HS3 : Hid (∀ O, Calls Tryz.prog 47 #[.slice a3 (n + 3) c3, .int .i64 ((n : Int) + 3), .int .i64 m] (wr.alloc O) fun e w' => e = .returned (.bool true) ∧ w' = wr.alloc O) := fun O => shown_pl a3 n 3 c3 m _ (by omega) (by omega) (lists_gr (lists_gr i3 HG2.out) (World.grownBy_alloc wr O none))
          clear i0 i1 i2 i3 q0 q1 q2 q3 q4 q5 s0 s1 s2 s3 hc
          subst hgk
          go_wp2_with (first
            | (go_at_call 47; refine (HS0.out _).mono ?_; rintro e u ⟨rfl, hu⟩; subst u; clear HS0)
            | (go_at_call 47; refine (HS1.out _).mono ?_; rintro e u ⟨rfl, hu⟩; subst u; clear HS1)
            | (go_at_call 47; refine (HS2.out _).mono ?_; rintro e u ⟨rfl, hu⟩; subst u; clear HS2)
            | (go_at_call 47; refine (HS3.out _).mono ?_; rintro e u ⟨rfl, hu⟩; subst u; clear HS3))
          go_roundw
          case rel => exact ⟨q + 1, by omega, by go_num, gr_trans HG2.out (World.grownBy_alloc wr _ none)⟩
          case measure => simp [intOf]; omega
        · have e : q = j2 := by omega
          subst e
          go_wp2
          go_ret
          exact ⟨rfl, HG2.out.os, HG2.out.tape, HG2.out.output, HG2.out.size, fun k hk => HG2.out.block k hk (by simp)⟩
end Go.Proofs.YtlncjgnomhpjnaaGreatDoor

