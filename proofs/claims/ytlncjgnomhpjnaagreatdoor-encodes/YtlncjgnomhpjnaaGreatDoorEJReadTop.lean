import Derived.Test.YtlncjgnomhpjnaaGreatDoorEJRests
/-
  readGuessed, readBody, subframe.Read, IsBits, reel.Read.
-/
namespace Go.Proofs.YtlncjgnomhpjnaaGreatDoor
open Go.RowKit Go.Deep
set_option linter.unusedVariables false

/-- the short samples that a body tells, and the place behind it -/
def bodySt (b : Nat → Bool) (N kind d n p : Nat) : Option ((Nat → Int) × Nat) :=
  if kind = 0 then (if p + d ≤ N then some (fun _ => sgn b p d, p + d) else none)
  else if kind = 1 then (if posn p d n ≤ N then some (fun i => sgn b (posn p d i) d, posn p d n) else none)
  else if 7 < kind ∨ n ≤ ord kind then none
  else if posn p d (ord kind) ≤ N then
    (if kind = 7 then
      (if posn p d (ord kind) + 12 ≤ N then (restsSt b N d kind (sgn b (posn p d (ord kind)) 6) (sgn b (posn p d (ord kind) + 6) 6) n (posn p d (ord kind) + 12) (fun i => sgn b (posn p d i) d)).map fun st => (st.x, st.p) else none)
    else (restsSt b N d kind 0 0 n (posn p d (ord kind)) (fun i => sgn b (posn p d i) d)).map fun st => (st.x, st.p))
  else none

/-- a list was read, or none -/
def Out (e : Ending) (w w' : World) (B : Nat) (s : ByteArray) (n : Nat) : Option ((Nat → Int) × Nat) → Prop
  | some xp => Got e w w' B s n n xp.1 xp.2
  | none => Not e w w' B

theorem sgn6 (b : Nat → Bool) (p : Nat) : -32 ≤ sgn b p 6 ∧ sgn b p 6 ≤ 32 := by
  have h := sgn_fits b p (d := 6) (by omega)
  unfold fitsB at h
  rw [within_iff] at h
  have e : (2 : Int) ^ (6 - 1) = 32 := rfl
  omega

theorem ChgS.toChg {B g : Nat} {w w1 w' : World} (h1 : Chg B w w1) (h : ChgS (fun k => k = B ∨ k = g) w1 w') (hg : w.heap.size ≤ g) : Chg B w w' :=
  ⟨h.os.trans h1.os, h.tape.trans h1.tape, h.output.trans h1.output, Nat.le_trans h1.size h.size, fun j hj hne => (h.block j (Nat.lt_of_lt_of_le hj h1.size) (fun e => by rcases e with e | e; exact hne (by rw [e]); omega)).trans (h1.block j hj hne)⟩

theorem restsOut_out {e : Ending} {w w1 w' : World} {B g : Nat} {s : ByteArray} {n : Nat} {o : Option St} (h1 : Chg B w w1) (hg : w.heap.size ≤ g) (h : RestsOut e w1 w' B g s n o) : Out e w w' B s n (o.map fun st => (st.x, st.p)) := by
  cases o with
  | none => obtain ⟨v, he, hc⟩ := h; exact ⟨v, he, ChgS.toChg h1 hc hg⟩
  | some st => obtain ⟨he, hr, hd, hc⟩ := h; exact ⟨g, he, hg, hr, hd, ChgS.toChg h1 hc hg⟩

theorem RestsOut.form {e : Ending} {w w' : World} {B g : Nat} {s : ByteArray} {n : Nat} {o : Option St} (h : RestsOut e w w' B g s n o) : ∃ u c, e = .returned (.tuple #[u, .bool c]) := by
  cases o with
  | none => obtain ⟨v, he, _⟩ := h; exact ⟨v, false, he⟩
  | some st => exact ⟨_, true, h.1⟩
theorem Out.form {e : Ending} {w w' : World} {B : Nat} {s : ByteArray} {n : Nat} {o : Option ((Nat → Int) × Nat)} (h : Out e w w' B s n o) : ∃ u c, e = .returned (.tuple #[u, .bool c]) := by
  cases o with
  | none => obtain ⟨v, he, _⟩ := h; exact ⟨v, false, he⟩
  | some st => obtain ⟨g, he, _⟩ := h; exact ⟨_, true, he⟩

set_option maxRecDepth 100000 in
set_option maxHeartbeats 2000000 in
theorem readGuessed_any (B : Nat) (s : ByteArray) (b : Nat → Bool) (p d n kind : Nat) (w : World) (hs : s.size ≤ 80000) (hp : p ≤ s.size) (hd1 : 1 ≤ d) (hd : d ≤ 13) (hn : n ≤ 32) (h2 : 2 ≤ kind) (h7 : kind ≤ 7) (hR : Rd w B s p) (hb : Bits s b) (hT : TabAt w 7) (hT2 : 7 < w.heap.size) (hB2 : B ≠ 7) :
    Calls Tryz.prog 175 #[.pointer (some ⟨B, 0, none⟩), .int .i64 kind, .int .i64 d, .int .i64 n] w fun e w' => Out e w w' B s n (bodySt b s.size kind d n p) := by
  have ho := ord_le kind h2 h7
  have hk0 : ¬ kind = 0 := by omega
  have hk1 : ¬ kind = 1 := by omega
  by_cases hno : n ≤ ord kind
  · have HO : Hid (bodySt b s.size kind d n p = none) := by
      show _ = _; unfold bodySt; rw [if_neg hk0, if_neg hk1, if_pos (.inr hno)]
    clear hb hR hT
    go_enter Tryz.func175, Tryz.ntmps175
    go_wp2_with (go_at_call 199; refine (orderOf_any kind _ h2 h7).mono ?_; rintro e w' ⟨rfl, rfl⟩)
    go_ret2
    rw [HO.out]
    exact ⟨_, rfl, Chg.refl _ _⟩
  · have HPL := Hid.mk' (readPlain_any B s b p d (ord kind) n w hs hp hd1 hd (by omega) hn hR hb)
    have HBO : Hid (bodySt b s.size kind d n p = if posn p d (ord kind) ≤ s.size then
        (if kind = 7 then
          (if posn p d (ord kind) + 12 ≤ s.size then (restsSt b s.size d kind (sgn b (posn p d (ord kind)) 6) (sgn b (posn p d (ord kind) + 6) 6) n (posn p d (ord kind) + 12) (fun i => sgn b (posn p d i) d)).map fun st => (st.x, st.p) else none)
        else (restsSt b s.size d kind 0 0 n (posn p d (ord kind)) (fun i => sgn b (posn p d i) d)).map fun st => (st.x, st.p))
        else none) := by
      show _ = _; unfold bodySt; rw [if_neg hk0, if_neg hk1, if_neg (by omega)]
    by_cases hfi : posn p d (ord kind) ≤ s.size
    · have HP1 : Hid (Calls Tryz.prog 174 #[.pointer (some ⟨B, 0, none⟩), .int .i64 d, .int .i64 (ord kind), .int .i64 n] w fun e w' => Got e w w' B s (ord kind) n (fun i => sgn b (posn p d i) d) (posn p d (ord kind))) :=
        HPL.out.mono fun e w' h => by
          rcases h with h | h
          · exact h.2
          · have := h.1; omega
      have HT := Hid.mk' hT
      have HB := Hid.mk' hb
      have hBlt := hR.lt
      clear HPL hb hR hT
      by_cases h7' : kind = 7
      · subst h7'
        by_cases h12 : posn p d (ord 7) + 12 ≤ s.size
        · have HO : Hid (bodySt b s.size 7 d n p = (restsSt b s.size d 7 (sgn b (posn p d (ord 7)) 6) (sgn b (posn p d (ord 7) + 6) 6) n (posn p d (ord 7) + 12) (fun i => sgn b (posn p d i) d)).map fun st => (st.x, st.p)) := by
            show _ = _; rw [HBO.out, if_pos hfi, if_pos rfl, if_pos h12]
          have HG : Hid (∀ u : World, Rd u B s (posn p d (ord 7)) → Calls Tryz.prog 200 #[.pointer (some ⟨B, 0, none⟩), .int .i64 7] u fun e w' => GotG e u w' B s (gV 7 (sgn b (posn p d (ord 7)) 6) (sgn b (posn p d (ord 7) + 6) 6)) (posn p d (ord 7) + 12)) := fun u hu =>
            (readGuesser_seven B s b _ u hs hfi hu HB.out).mono fun e w' h => by
              rcases h with h | h
              · exact h.2
              · have := h.1; omega
          go_enter Tryz.func175, Tryz.ntmps175
          go_wp2_with (first
            | (go_at_call 199; refine (orderOf_any 7 _ h2 h7).mono ?_; rintro e w' ⟨rfl, rfl⟩)
            | (go_at_call 174; refine HP1.out.mono ?_; rintro e w1 ⟨g, rfl, hg1, hrow1, hR1, hC1⟩; have HROW1 := Hid.mk' hrow1; have HR1 := Hid.mk' hR1; have HC1 := Hid.mk' hC1; clear hrow1 hR1 hC1)
            | (go_at_call 200; refine (HG.out _ HR1.out).mono ?_; rintro e w2 ⟨rfl, hR2, hC2⟩; have HR2 := Hid.mk' hR2; have HC2 := Hid.mk' hC2; clear hR2 hC2; simp only [gV])
            | (go_at_call 201; refine (readRests_any B g s b (posn p d (ord 7) + 12) d n 7 (sgn b (posn p d (ord 7)) 6) (sgn b (posn p d (ord 7) + 6) 6) (fun i => sgn b (posn p d i) d) _ hs h12 hd1 hd hn h2 h7 (sgn6 _ _) (sgn6 _ _) (HR2.out.of (blk_alloc_lt _ _ _ HR2.out.lt)) HB.out ((HC2.out.row HROW1.out (by omega)).alloc _) (by omega) (fun j _ => sgn_fits b _ hd1) (by omega)).mono ?_; rintro e w3 h3; obtain ⟨u, cc, rfl⟩ := h3.form; have H3 := Hid.mk' h3; clear h3))
          go_ret2
          rw [HO.out]
          exact restsOut_out ((HC1.out.trans HC2.out).below ((Below.refl _ _).alloc (Nat.le_refl _) _)) hg1 H3.out
        · have HO : Hid (bodySt b s.size 7 d n p = none) := by
            show _ = _; rw [HBO.out, if_pos hfi, if_pos rfl, if_neg h12]
          have HG : Hid (∀ u : World, Rd u B s (posn p d (ord 7)) → Calls Tryz.prog 200 #[.pointer (some ⟨B, 0, none⟩), .int .i64 7] u fun e w' => NotG e u w' B) := fun u hu =>
            (readGuesser_seven B s b _ u hs hfi hu HB.out).mono fun e w' h => by
              rcases h with h | h
              · exact absurd h.1 h12
              · exact h.2
          go_enter Tryz.func175, Tryz.ntmps175
          go_wp2_with (first
            | (go_at_call 199; refine (orderOf_any 7 _ h2 h7).mono ?_; rintro e w' ⟨rfl, rfl⟩)
            | (go_at_call 174; refine HP1.out.mono ?_; rintro e w1 ⟨g, rfl, hg1, hrow1, hR1, hC1⟩; have HROW1 := Hid.mk' hrow1; have HR1 := Hid.mk' hR1; have HC1 := Hid.mk' hC1; clear hrow1 hR1 hC1)
            | (go_at_call 200; refine (HG.out _ HR1.out).mono ?_; rintro e w2 ⟨v0, v1, v2, v3, v4, v5, rfl, hC2⟩; have HC2 := Hid.mk' hC2; clear hC2))
          go_ret2
          rw [HO.out]
          exact ⟨_, rfl, (HC1.out.trans HC2.out).below ((Below.refl _ _).alloc (Nat.le_refl _) _)⟩
      · have HG : Hid (∀ u : World, Rd u B s (posn p d (ord kind)) → TabAt u 7 → 7 < u.heap.size → Calls Tryz.prog 200 #[.pointer (some ⟨B, 0, none⟩), .int .i64 kind] u fun e w' => GotG e u w' B s (gV kind 0 0) (posn p d (ord kind))) := fun u hu hTu hu2 =>
          readGuesser_fixed B s _ kind u h2 (by omega) hu hTu hu2
        go_enter Tryz.func175, Tryz.ntmps175
        go_wp2_with (first
          | (go_at_call 199; refine (orderOf_any kind _ h2 h7).mono ?_; rintro e w' ⟨rfl, rfl⟩)
          | (go_at_call 174; refine HP1.out.mono ?_; rintro e w1 ⟨g, rfl, hg1, hrow1, hR1, hC1⟩; have HROW1 := Hid.mk' hrow1; have HR1 := Hid.mk' hR1; have HC1 := Hid.mk' hC1; clear hrow1 hR1 hC1)
          | (go_at_call 200; refine (HG.out _ HR1.out (HC1.out.tabs HT.out hT2 (Ne.symm hB2)) (Nat.lt_of_lt_of_le hT2 HC1.out.size)).mono ?_; rintro e w2 ⟨rfl, hR2, hC2⟩; have HR2 := Hid.mk' hR2; have HC2 := Hid.mk' hC2; clear hR2 hC2; simp only [gV])
          | (go_at_call 201; refine (readRests_any B g s b (posn p d (ord kind)) d n kind 0 0 (fun i => sgn b (posn p d i) d) _ hs hfi hd1 hd hn h2 h7 (by omega) (by omega) (HR2.out.of (blk_alloc_lt _ _ _ HR2.out.lt)) HB.out ((HC2.out.row HROW1.out (by omega)).alloc _) (by omega) (fun j _ => sgn_fits b _ hd1) (by omega)).mono ?_; rintro e w3 h3; obtain ⟨u, cc, rfl⟩ := h3.form; have H3 := Hid.mk' h3; clear h3))
        go_ret2
        rw [HBO.out, if_pos hfi, if_neg h7']
        exact restsOut_out ((HC1.out.trans HC2.out).below ((Below.refl _ _).alloc (Nat.le_refl _) _)) hg1 H3.out
    · have HP1 : Hid (Calls Tryz.prog 174 #[.pointer (some ⟨B, 0, none⟩), .int .i64 d, .int .i64 (ord kind), .int .i64 n] w fun e w' => Not e w w' B) :=
        HPL.out.mono fun e w' h => by
          rcases h with h | h
          · exact absurd h.1 hfi
          · exact h.2
      have HO : Hid (bodySt b s.size kind d n p = none) := by show _ = _; rw [HBO.out, if_neg hfi]
      clear HPL hb hR hT
      go_enter Tryz.func175, Tryz.ntmps175
      go_wp2_with (first
        | (go_at_call 199; refine (orderOf_any kind _ h2 h7).mono ?_; rintro e w' ⟨rfl, rfl⟩)
        | (go_at_call 174; refine HP1.out.mono ?_; rintro e w1 ⟨v, rfl, hC1⟩))
      go_ret2
      rw [HO.out]
      exact ⟨_, rfl, hC1⟩

theorem rests_fits {b : Nat → Bool} {N d kind n p : Nat} {a c : Int} {x0 : Nat → Int} {st : St} (h : restsSt b N d kind a c n p x0 = some st) (h0 : ∀ j, j < ord kind → fitsB d (x0 j) = true) : ∀ j, j < n → fitsB d (st.x j) = true := by
  unfold restsSt at h
  split at h
  · intro j hj
    exact (theJob b N d kind a c n p).R_fits ⟨p + 2, 0, x0⟩ h0 n st h j (by omega)
  · cases h
theorem body_fits {b : Nat → Bool} {N kind d n p : Nat} {xp : (Nat → Int) × Nat} (hd : 1 ≤ d) (h : bodySt b N kind d n p = some xp) : ∀ j, j < n → fitsB d (xp.1 j) = true := by
  unfold bodySt at h
  intro j hj
  split at h
  · split at h
    · cases h; exact sgn_fits b _ hd
    · cases h
  · split at h
    · split at h
      · cases h; exact sgn_fits b _ hd
      · cases h
    · split at h
      · cases h
      · split at h
        · split at h
          · split at h
            · simp only [Option.map_eq_some_iff] at h
              obtain ⟨st, hst, rfl⟩ := h
              exact rests_fits hst (fun j _ => sgn_fits b _ hd) j hj
            · cases h
          · simp only [Option.map_eq_some_iff] at h
            obtain ⟨st, hst, rfl⟩ := h
            exact rests_fits hst (fun j _ => sgn_fits b _ hd) j hj
        · cases h

set_option maxHeartbeats 1000000 in
theorem readBody_any (B : Nat) (s : ByteArray) (b : Nat → Bool) (p d n kind : Nat) (w : World) (hs : s.size ≤ 80000) (hp : p ≤ s.size) (hd1 : 1 ≤ d) (hd : d ≤ 13) (hn : n ≤ 32) (hk : kind ≤ 15) (hR : Rd w B s p) (hb : Bits s b) (hT : TabAt w 7) (hT2 : 7 < w.heap.size) (hB2 : B ≠ 7) :
    Calls Tryz.prog 155 #[.pointer (some ⟨B, 0, none⟩), .int .i64 kind, .int .i64 d, .int .i64 n] w fun e w' => Out e w w' B s n (bodySt b s.size kind d n p) := by
  by_cases k0 : kind = 0
  · subst k0
    by_cases h : p + d ≤ s.size
    · have HO : Hid (bodySt b s.size 0 d n p = some (fun _ => sgn b p d, p + d)) := by show _ = _; unfold bodySt; rw [if_pos rfl, if_pos h]
      have HC := Hid.mk' (readStill_yes B s b p d n w hs hd1 hd hn hR hb h)
      clear hb hR hT
      go_enter Tryz.func155, Tryz.ntmps155
      go_wp2_with (go_at_call 173; refine HC.out.mono ?_; rintro e w1 ⟨g, rfl, h1⟩; have H1 := Hid.mk' h1; clear h1)
      go_ret2
      rw [HO.out]
      exact ⟨g, rfl, H1.out⟩
    · have HO : Hid (bodySt b s.size 0 d n p = none) := by show _ = _; unfold bodySt; rw [if_pos rfl, if_neg h]
      have HC := Hid.mk' (readStill_no B s p d n w hs hp hd hR (by omega))
      clear hb hR hT
      go_enter Tryz.func155, Tryz.ntmps155
      go_wp2_with (go_at_call 173; refine HC.out.mono ?_; rintro e w1 ⟨v, rfl, h1⟩; have H1 := Hid.mk' h1; clear h1)
      go_ret2
      rw [HO.out]
      exact ⟨v, rfl, H1.out⟩
  · have t0 : ((kind : Int) == 0) = false := by simp; omega
    by_cases k1 : kind = 1
    · subst k1
      have HO : Hid (bodySt b s.size 1 d n p = if posn p d n ≤ s.size then some (fun i => sgn b (posn p d i) d, posn p d n) else none) := by show _ = _; unfold bodySt; rw [if_neg (by omega), if_pos rfl]
      have HC : Hid (Calls Tryz.prog 174 #[.pointer (some ⟨B, 0, none⟩), .int .i64 d, .int .i64 n, .int .i64 n] w fun e w' => Out e w w' B s n (bodySt b s.size 1 d n p)) :=
        (readPlain_any B s b p d n n w hs hp hd1 hd (Nat.le_refl _) hn hR hb).mono fun e w' h => by
          rw [HO.out]
          rcases h with h | h
          · rw [if_pos h.1]; exact h.2
          · rw [if_neg (by omega)]; exact h.2
      clear hb hR hT HO
      go_enter Tryz.func155, Tryz.ntmps155
      go_wp2_with (go_at_call 174; refine HC.out.mono ?_; rintro e w1 h1; obtain ⟨u, cc, rfl⟩ := h1.form; have H1 := Hid.mk' h1; clear h1)
      go_ret2
      exact H1.out
    · have t1 : ((kind : Int) == 1) = false := by simp; omega
      by_cases k7 : kind ≤ 7
      · have HC := Hid.mk' (readGuessed_any B s b p d n kind w hs hp hd1 hd hn (by omega) k7 hR hb hT hT2 hB2)
        clear hb hR hT
        go_enter Tryz.func155, Tryz.ntmps155
        go_wp2_with (go_at_call 175; refine HC.out.mono ?_; rintro e w1 h1; obtain ⟨u, cc, rfl⟩ := h1.form; have H1 := Hid.mk' h1; clear h1)
        go_ret2
        exact H1.out
      · have HO : Hid (bodySt b s.size kind d n p = none) := by show _ = _; unfold bodySt; rw [if_neg k0, if_neg k1, if_pos (.inl (by omega))]
        clear hb hR hT
        go_enter Tryz.func155, Tryz.ntmps155
        go_wp2
        go_ret2
        rw [HO.out]
        exact ⟨_, rfl, Chg.refl _ _⟩
end Go.Proofs.YtlncjgnomhpjnaaGreatDoor

/-
  subframe.Read, IsBits, reel.Read.
-/
namespace Go.Proofs.YtlncjgnomhpjnaaGreatDoor
open Go.RowKit Go.Deep
set_option linter.unusedVariables false

/-- the samples that a subframe tells, and the place behind it -/
def readSt (b : Nat → Bool) (N width n : Nat) : Option ((Nat → Int) × Nat) :=
  if 8 ≤ N ∧ num b 4 4 < width then (bodySt b N (num b 0 4) (width - num b 4 4) n 8).map fun xp => (fun i => xp.1 i * 2 ^ num b 4 4, xp.2) else none

/-- a list, a number and a word were answered -/
def Out3 (e : Ending) (w w' : World) (n : Nat) : Option ((Nat → Int) × Nat) → Prop
  | some xp => ∃ g, e = .returned (.tuple #[.slice (some ⟨g, 0, none⟩) n n, .int .i64 xp.2, .bool true]) ∧ w.heap.size ≤ g ∧ w'.rowIs g 3 n (cutV n xp.1) ∧ Below w.heap.size w w'
  | none => e = .returned (.tuple #[.slice none 0 0, .int .i64 0, .bool false]) ∧ Below w.heap.size w w'

/-- the row while it is shifted -/
def shV (n : Nat) (x : Nat → Int) (q k i : Nat) : Value := if i < k then cutV n (fun i => x i * 2 ^ q) i else cutV n x i
theorem shV_step {w : World} {g : Nat} {t : TypeId} {n k q : Nat} {x : Nat → Int} (hk : k < n) (h : w.rowIs g t n (shV n x q k)) : (w.setCell ⟨g, k, none⟩ (.int .i64 (x k * 2 ^ q))).rowIs g t n (shV n x q (k + 1)) := by
  refine (h.set k _).congr fun i _ => ?_
  unfold shV
  by_cases e : i = k
  · subst e; simp [cutV, cutI, hk]
  · by_cases e2 : i < k
    · simp [e, e2, Nat.lt_succ_of_lt e2]
    · have : ¬ i < k + 1 := by omega
      simp [e, e2, this]

theorem mul_sh {d : Nat} {v : Int} {q width : Nat} (h : fitsB d v = true) (hd1 : 1 ≤ d) (hq : d + q ≤ 13) : -4096 ≤ v * 2 ^ q ∧ v * 2 ^ q ≤ 4096 := by
  unfold fitsB at h
  rw [within_iff] at h
  have e : (2 : Int) ^ (d - 1) * 2 ^ q = 2 ^ (d - 1 + q) := by rw [Int.pow_add]
  have hp : (2 : Int) ^ (d - 1 + q) ≤ 4096 := ipow_le (d - 1 + q) 4096 (Nat.le_trans (Nat.pow_le_pow_right (by omega) (by omega : d - 1 + q ≤ 12)) (by decide))
  have hpos := ipow_pos q
  have h1 : v * 2 ^ q ≤ 2 ^ (d - 1) * 2 ^ q := Int.mul_le_mul_of_nonneg_right (by omega) (by omega)
  have h2 : -(2 ^ (d - 1)) * 2 ^ q ≤ v * 2 ^ q := Int.mul_le_mul_of_nonneg_right h.1 (by omega)
  rw [Int.neg_mul] at h2
  omega

set_option maxRecDepth 100000 in
set_option maxHeartbeats 2000000 in
theorem subRead_any (s : ByteArray) (b : Nat → Bool) (width n : Nat) (w : World) (hs : s.size ≤ 80000) (hw1 : 1 ≤ width) (hw : width ≤ 13) (hn : n ≤ 32) (hb : Bits s b) (hT : TabAt w 7) (hT2 : 7 < w.heap.size) :
    Calls Tryz.prog 117 #[.int .i64 width, .int .i64 n, .string s] w fun e w' => Out3 e w w' n (readSt b s.size width n) := by
  have HB := Hid.mk' hb
  have HT := Hid.mk' hT
  clear hb hT
  have k16 : num b 0 4 < 16 := num_lt b 0 4
  have q16 : num b 4 4 < 16 := num_lt b 4 4
  by_cases h4 : 4 ≤ s.size
  · by_cases h8 : 8 ≤ s.size
    · by_cases hq : num b 4 4 < width
      · have HO : Hid (readSt b s.size width n = (bodySt b s.size (num b 0 4) (width - num b 4 4) n 8).map fun xp => (fun i => xp.1 i * 2 ^ num b 4 4, xp.2)) := by show _ = _; unfold readSt; rw [if_pos ⟨h8, hq⟩]
        have hcast : ((width - num b 4 4 : Nat) : Int) = (width : Int) - (num b 4 4 : Int) := by omega
        have HBODY : Hid (∀ u : World, Rd u w.heap.size s 8 → TabAt u 7 → 7 < u.heap.size → Calls Tryz.prog 155 #[.pointer (some ⟨w.heap.size, 0, none⟩), .int .i64 (num b 0 4), .int .i64 ((width : Int) - (num b 4 4 : Int)), .int .i64 n] u fun e w' => Out e u w' w.heap.size s n (bodySt b s.size (num b 0 4) (width - num b 4 4) n 8)) := fun u hu hTu hu2 => by
          rw [← hcast]
          exact readBody_any w.heap.size s b 8 (width - num b 4 4) n (num b 0 4) u hs h8 (by omega) (by omega) hn (by omega) hu HB.out hTu hu2 (by omega)
        clear hcast
        cases hbody : bodySt b s.size (num b 0 4) (width - num b 4 4) n 8 with
        | none =>
          rw [hbody] at HBODY HO
          go_enter Tryz.func117, Tryz.ntmps117
          go_wp2_with (first
            | (go_at_call 153; refine (newReader_any _ _).mono ?_; rintro e w1 ⟨rfl, hR1, hb1⟩; have HR1 := Hid.mk' hR1; have HB1 := Hid.mk' hb1; clear hR1 hb1)
            | (go_at_call 154; refine (number_yes w.heap.size s b 0 4 _ hs (by omega) HR1.out (by omega) HB.out).mono ?_; rintro e w2 ⟨rfl, hR2, hC2⟩; have HR2 := Hid.mk' hR2; have HC2 := Hid.mk' hC2; clear hR2 hC2)
            | (go_at_call 154; refine (number_yes w.heap.size s b 4 4 _ hs (by omega) HR2.out (by omega) HB.out).mono ?_; rintro e w3 ⟨rfl, hR3, hC3⟩; have HR3 := Hid.mk' hR3; have HC3 := Hid.mk' hC3; clear hR3 hC3; have HB3 := Hid.mk' (HB1.out.trans ((HC2.out.trans HC3.out).toBelow (Nat.le_refl _) (Nat.le_of_lt HR1.out.lt))))
            | (go_at_call 155; refine (HBODY.out _ HR3.out (fun r c hr hc => (HB3.out.cell (p := ⟨7, 4 * r + c, none⟩) hT2).trans (HT.out r c hr hc)) (Nat.lt_of_lt_of_le hT2 HB3.out.size)).mono ?_; rintro e w4 ⟨v4, rfl, hC4⟩; have HC4 := Hid.mk' hC4; clear hC4))
          go_ret3
          rw [HO.out]
          exact ⟨rfl, HB3.out.trans (HC4.out.toBelow (Nat.le_refl _) (Nat.le_of_lt (Nat.lt_of_lt_of_le HR1.out.lt (HC2.out.trans HC3.out).size)))⟩
        | some xp =>
          rw [hbody] at HBODY HO
          have HF := Hid.mk' (body_fits (by omega) hbody)
          clear hbody
          go_enter Tryz.func117, Tryz.ntmps117
          go_wp2_with (first
            | (go_at_call 153; refine (newReader_any _ _).mono ?_; rintro e w1 ⟨rfl, hR1, hb1⟩; have HR1 := Hid.mk' hR1; have HB1 := Hid.mk' hb1; clear hR1 hb1)
            | (go_at_call 154; refine (number_yes w.heap.size s b 0 4 _ hs (by omega) HR1.out (by omega) HB.out).mono ?_; rintro e w2 ⟨rfl, hR2, hC2⟩; have HR2 := Hid.mk' hR2; have HC2 := Hid.mk' hC2; clear hR2 hC2)
            | (go_at_call 154; refine (number_yes w.heap.size s b 4 4 _ hs (by omega) HR2.out (by omega) HB.out).mono ?_; rintro e w3 ⟨rfl, hR3, hC3⟩; have HR3 := Hid.mk' hR3; have HC3 := Hid.mk' hC3; clear hR3 hC3; have HB3 := Hid.mk' (HB1.out.trans ((HC2.out.trans HC3.out).toBelow (Nat.le_refl _) (Nat.le_of_lt HR1.out.lt))))
            | (go_at_call 155; refine (HBODY.out _ HR3.out (fun r c hr hc => (HB3.out.cell (p := ⟨7, 4 * r + c, none⟩) hT2).trans (HT.out r c hr hc)) (Nat.lt_of_lt_of_le hT2 HB3.out.size)).mono ?_; rintro e w4 ⟨g, rfl, hg4, hrow4, hR4, hC4⟩; have HROW4 := Hid.mk' hrow4; have HR4 := Hid.mk' hR4; have HC4 := Hid.mk' hC4; clear hrow4 hR4 hC4))
          have HBE : Hid (Below w.heap.size w w4) := HB3.out.trans (HC4.out.toBelow (Nat.le_refl _) (Nat.le_of_lt (Nat.lt_of_lt_of_le HR1.out.lt (HC2.out.trans HC3.out).size)))
          have hgw : w.heap.size < g := by have := HR3.out.lt; omega
          have hp2 := ipow_pos (num b 4 4)
          clear HB3 HC4 HR3 HR2 HR1 HC2 HC3 HB1 HBODY
          go_loopw [14, 50] (fun _ i wr => ∃ k : Nat, k ≤ n ∧ i = .int .i64 k ∧ Hid (wr.rowIs g 3 n (shV n xp.1 (num b 4 4) k) ∧ Rd wr w.heap.size s xp.2 ∧ Below w.heap.size w wr)) (fun _ i _ => n - (intOf i).toNat)
          case atStart => exact ⟨0, Nat.zero_le _, rfl, HROW4.out.congr fun i _ => by simp [shV], HR4.out, HBE.out⟩
          case round =>
            clear HROW4 HR4 HBE
            obtain ⟨k, hk, rfl, HX⟩ := hrel
            by_cases hkn : k < n
            · have hc1 := HX.out.1.cell hkn
              have hf1 := HX.out.1.frozen k
              unfold shV cutV cutI at hc1
              rw [if_neg (Nat.lt_irrefl k), if_pos hkn] at hc1
              have hmb := mul_sh (width := width) (q := num b 4 4) (HF.out k hkn) (by omega) (by omega)
              go_wp2
              go_roundw
              case rel =>
                refine ⟨k + 1, by omega, by go_num, shV_step hkn HX.out.1, ?_, HX.out.2.2.setCell (Nat.le_of_lt hgw) _⟩
                exact ((Chg.refl g wr).set k _).rd HX.out.2.1 (by omega)
              case measure => simp [intOf]; omega
            · have e : k = n := by omega
              subst e
              go_wp2_with (go_at_call 156; refine (taken_any _ s _ _ HX.out.2.1).mono ?_; rintro e w' ⟨rfl, rfl⟩)
              go_ret3
              rw [HO.out]
              exact ⟨g, rfl, Nat.le_of_lt hgw, HX.out.1.congr fun i hi => by simp [shV, hi], HX.out.2.2⟩
      · have HO : Hid (readSt b s.size width n = none) := by show _ = _; unfold readSt; rw [if_neg (fun h => hq h.2)]
        go_enter Tryz.func117, Tryz.ntmps117
        go_wp2_with (first
          | (go_at_call 153; refine (newReader_any _ _).mono ?_; rintro e w1 ⟨rfl, hR1, hb1⟩; have HR1 := Hid.mk' hR1; have HB1 := Hid.mk' hb1; clear hR1 hb1)
          | (go_at_call 154; refine (number_yes w.heap.size s b 0 4 _ hs (by omega) HR1.out (by omega) HB.out).mono ?_; rintro e w2 ⟨rfl, hR2, hC2⟩; have HR2 := Hid.mk' hR2; have HC2 := Hid.mk' hC2; clear hR2 hC2)
          | (go_at_call 154; refine (number_yes w.heap.size s b 4 4 _ hs (by omega) HR2.out (by omega) HB.out).mono ?_; rintro e w3 ⟨rfl, hR3, hC3⟩; have HR3 := Hid.mk' hR3; have HC3 := Hid.mk' hC3; clear hR3 hC3; have HB3 := Hid.mk' (HB1.out.trans ((HC2.out.trans HC3.out).toBelow (Nat.le_refl _) (Nat.le_of_lt HR1.out.lt)))))
        go_ret3
        rw [HO.out]
        exact ⟨rfl, HB3.out⟩
    · have HO : Hid (readSt b s.size width n = none) := by show _ = _; unfold readSt; rw [if_neg (fun h => h8 h.1)]
      go_enter Tryz.func117, Tryz.ntmps117
      go_wp2_with (first
        | (go_at_call 153; refine (newReader_any _ _).mono ?_; rintro e w1 ⟨rfl, hR1, hb1⟩; have HR1 := Hid.mk' hR1; have HB1 := Hid.mk' hb1; clear hR1 hb1)
        | (go_at_call 154; refine (number_yes w.heap.size s b 0 4 _ hs (by omega) HR1.out (by omega) HB.out).mono ?_; rintro e w2 ⟨rfl, hR2, hC2⟩; have HR2 := Hid.mk' hR2; have HC2 := Hid.mk' hC2; clear hR2 hC2)
        | (go_at_call 154; refine (number_no w.heap.size s 4 4 _ hs (by omega) (by omega) HR2.out (by omega)).mono ?_; rintro e w3 ⟨rfl, j, rfl⟩))
      go_ret3
      rw [HO.out]
      exact ⟨rfl, HB1.out.trans ((HC2.out.drewN j).toBelow (Nat.le_refl _) (Nat.le_of_lt HR1.out.lt))⟩
  · have HO : Hid (readSt b s.size width n = none) := by show _ = _; unfold readSt; rw [if_neg (fun h => h4 (by omega))]
    go_enter Tryz.func117, Tryz.ntmps117
    go_wp2_with (first
      | (go_at_call 153; refine (newReader_any _ _).mono ?_; rintro e w1 ⟨rfl, hR1, hb1⟩; have HR1 := Hid.mk' hR1; have HB1 := Hid.mk' hb1; clear hR1 hb1)
      | (go_at_call 154; refine (number_no w.heap.size s 0 4 _ hs (by omega) (by omega) HR1.out (by omega)).mono ?_; rintro e w2 ⟨rfl, j, rfl⟩))
    go_ret3
    rw [HO.out]
    exact ⟨rfl, HB1.out.trans (((Chg.refl w.heap.size _).drewN j).toBelow (Nat.le_refl _) (Nat.le_of_lt HR1.out.lt))⟩

/-- a text of nothing but 0 and 1 -/
def IsBitsP (s : ByteArray) : Prop := ∀ j (h : j < s.size), s[j] = 48 ∨ s[j] = 49
/-- the bits that a text says -/
def bitsOf (s : ByteArray) (j : Nat) : Bool := if h : j < s.size then s[j] == 49 else false
theorem bits_of {s : ByteArray} (h : IsBitsP s) : Bits s (bitsOf s) := by
  intro j hj
  unfold bitsOf
  simp only [dif_pos hj]
  rcases h j hj with e | e <;> rw [e] <;> rfl
theorem byte_ne {c : UInt8} {k : Nat} (hk : k < 256) : ((c.toNat : Int) != (k : Int)) = !(c == UInt8.ofNat k) := by
  rw [Bool.eq_iff_iff]
  simp only [bne_iff_ne, ne_eq, Bool.not_eq_true', beq_eq_false_iff_ne]
  constructor
  · intro h e; apply h; rw [e]; simp [Nat.mod_eq_of_lt hk]
  · intro h e; apply h; apply UInt8.toNat_inj.1; simp [Nat.mod_eq_of_lt hk]; omega


/-- what Read answers -/
def ReadAns (e : Ending) (w w' : World) (width n : Int) (s : ByteArray) : Prop :=
  (¬ (within width 1 13 && within n 1 32) = true ∧ e = .returned (.tuple #[.slice none 0 0, .int .i64 0, .int .i64 3])) ∨
  ((within width 1 13 && within n 1 32) = true ∧ 80000 < s.size ∧ e = .returned (.tuple #[.slice none 0 0, .int .i64 0, .int .i64 4])) ∨
  ((within width 1 13 && within n 1 32) = true ∧ s.size ≤ 80000 ∧ ¬ IsBitsP s ∧ e = .returned (.tuple #[.slice none 0 0, .int .i64 0, .int .i64 5])) ∨
  ((within width 1 13 && within n 1 32) = true ∧ s.size ≤ 80000 ∧ IsBitsP s ∧ readSt (bitsOf s) s.size width.toNat n.toNat = none ∧ e = .returned (.tuple #[.slice none 0 0, .int .i64 0, .int .i64 5])) ∨
  ((within width 1 13 && within n 1 32) = true ∧ s.size ≤ 80000 ∧ IsBitsP s ∧ ∃ xp g, readSt (bitsOf s) s.size width.toNat n.toNat = some xp ∧ e = .returned (.tuple #[.slice (some ⟨g, 0, none⟩) n.toNat n.toNat, .int .i64 xp.2, .int .i64 0]) ∧ w.heap.size ≤ g ∧ w'.rowIs g 3 n.toNat (cutV n.toNat xp.1))

end Go.Proofs.YtlncjgnomhpjnaaGreatDoor

