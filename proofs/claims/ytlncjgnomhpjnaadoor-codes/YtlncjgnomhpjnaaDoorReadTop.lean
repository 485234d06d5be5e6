/-
  readGuessed, readBody, subframe.Read, IsBits, reel.Read.
-/
import Derived.Test.YtlncjgnomhpjnaaDoorReadRests2
namespace Go.Proofs.YtlncjgnomhpjnaaDoor
open Go.RowKit Go.Deep
set_option linter.unusedVariables false

/-- the short samples that a body tells, and the place behind it -/
def bodySt (b : Nat → Bool) (N kind d n p : Nat) : Option ((Nat → Int) × Nat) :=
  if kind = 0 then (if p + d ≤ N then some (fun _ => sgn b p d, p + d) else none)
  else if kind = 1 then (if posn p d n ≤ N then some (fun i => sgn b (posn p d i) d, posn p d n) else none)
  else if 7 < kind ∨ n ≤ ord kind then none
  else if posn p d (ord kind) ≤ N then
    (if kind = 7 then
      (if posn p d (ord kind) + 12 ≤ N then (restsSt b N d kind (sgn b (posn p d (ord kind)) 6) (sgn b (posn p d (ord kind) + 6) 6) n (posn p d (ord kind) + 12) (fun i => sgn b (posn p d i) d)).map fun st => (st.x, st.p) else none)
    else (restsSt b N d kind 0 0 n (posn p d (ord kind)) (fun i => sgn b (posn p d i) d)).map fun st => (st.x, st.p))
  else none

/-- a list was read, or none -/
def Out (e : Ending) (w w' : World) (B : Nat) (s : ByteArray) (n : Nat) : Option ((Nat → Int) × Nat) → Prop
  | some xp => Got e w w' B s n n xp.1 xp.2
  | none => Not e w w' B

theorem sgn6 (b : Nat → Bool) (p : Nat) : -32 ≤ sgn b p 6 ∧ sgn b p 6 ≤ 32 := by
  have h := sgn_fits b p (d := 6) (by omega)
  unfold fitsB at h
  rw [within_iff] at h
  have e : (2 : Int) ^ (6 - 1) = 32 := rfl
  omega

theorem ChgS.toChg {B g : Nat} {w w1 w' : World} (h1 : Chg B w w1) (h : ChgS (fun k => k = B ∨ k = g) w1 w') (hg : w.heap.size ≤ g) : Chg B w w' :=
  ⟨h.os.trans h1.os, h.tape.trans h1.tape, h.output.trans h1.output, Nat.le_trans h1.size h.size, fun j hj hne => (h.block j (Nat.lt_of_lt_of_le hj h1.size) (fun e => by rcases e with e | e; exact hne (by rw [e]); omega)).trans (h1.block j hj hne)⟩

theorem restsOut_out {e : Ending} {w w1 w' : World} {B g : Nat} {s : ByteArray} {n : Nat} {o : Option St} (h1 : Chg B w w1) (hg : w.heap.size ≤ g) (h : RestsOut e w1 w' B g s n o) : Out e w w' B s n (o.map fun st => (st.x, st.p)) := by
  cases o with
  | none => obtain ⟨v, he, hc⟩ := h; exact ⟨v, he, ChgS.toChg h1 hc hg⟩
  | some st => obtain ⟨he, hr, hd, hc⟩ := h; exact ⟨g, he, hg, hr, hd, ChgS.toChg h1 hc hg⟩

theorem RestsOut.form {e : Ending} {w w' : World} {B g : Nat} {s : ByteArray} {n : Nat} {o : Option St} (h : RestsOut e w w' B g s n o) : ∃ u c, e = .returned (.tuple #[u, .bool c]) := by
  cases o with
  | none => obtain ⟨v, he, _⟩ := h; exact ⟨v, false, he⟩
  | some st => exact ⟨_, true, h.1⟩
theorem Out.form {e : Ending} {w w' : World} {B : Nat} {s : ByteArray} {n : Nat} {o : Option ((Nat → Int) × Nat)} (h : Out e w w' B s n o) : ∃ u c, e = .returned (.tuple #[u, .bool c]) := by
  cases o with
  | none => obtain ⟨v, he, _⟩ := h; exact ⟨v, false, he⟩
  | some st => obtain ⟨g, he, _⟩ := h; exact ⟨_, true, he⟩

set_option maxRecDepth 100000 in
set_option maxHeartbeats 2000000 in
theorem readGuessed_any (B : Nat) (s : ByteArray) (b : Nat → Bool) (p d n kind : Nat) (w : World) (hs : s.size ≤ 80000) (hp : p ≤ s.size) (hd1 : 1 ≤ d) (hd : d ≤ 13) (hn : n ≤ 32) (h2 : 2 ≤ kind) (h7 : kind ≤ 7) (hR : Rd w B s p) (hb : Bits s b) (hT : TabAt w 2) (hT2 : 2 < w.heap.size) (hB2 : B ≠ 2) :
    Calls Tryd.prog 51 #[.pointer (some ⟨B, 0, none⟩), .int .i64 kind, .int .i64 d, .int .i64 n] w fun e w' => Out e w w' B s n (bodySt b s.size kind d n p) := by
  have ho := ord_le kind h2 h7
  have hk0 : ¬ kind = 0 := by omega
  have hk1 : ¬ kind = 1 := by omega
  by_cases hno : n ≤ ord kind
  · have HO : Hid (bodySt b s.size kind d n p = none) := by
      show _ = _; unfold bodySt; rw [if_neg hk0, if_neg hk1, if_pos (.inr hno)]
    clear hb hR hT
    go_enter Tryd.func51, Tryd.ntmps51
    go_wp2_with (go_at_call 62; refine (orderOf_any kind _ h2 h7).mono ?_; rintro e w' ⟨rfl, rfl⟩)
    go_ret2
    rw [HO.out]
    exact ⟨_, rfl, Chg.refl _ _⟩
  · have HPL := Hid.mk' (readPlain_any B s b p d (ord kind) n w hs hp hd1 hd (by omega) hn hR hb)
    have HBO : Hid (bodySt b s.size kind d n p = if posn p d (ord kind) ≤ s.size then
        (if kind = 7 then
          (if posn p d (ord kind) + 12 ≤ s.size then (restsSt b s.size d kind (sgn b (posn p d (ord kind)) 6) (sgn b (posn p d (ord kind) + 6) 6) n (posn p d (ord kind) + 12) (fun i => sgn b (posn p d i) d)).map fun st => (st.x, st.p) else none)
        else (restsSt b s.size d kind 0 0 n (posn p d (ord kind)) (fun i => sgn b (posn p d i) d)).map fun st => (st.x, st.p))
        else none) := by
      show _ = _; unfold bodySt; rw [if_neg hk0, if_neg hk1, if_neg (by omega)]
    by_cases hfi : posn p d (ord kind) ≤ s.size
    · have HP1 : Hid (Calls Tryd.prog 50 #[.pointer (some ⟨B, 0, none⟩), .int .i64 d, .int .i64 (ord kind), .int .i64 n] w fun e w' => Got e w w' B s (ord kind) n (fun i => sgn b (posn p d i) d) (posn p d (ord kind))) :=
        HPL.out.mono fun e w' h => by
          rcases h with h | h
          · exact h.2
          · have := h.1; omega
      have HT := Hid.mk' hT
      have HB := Hid.mk' hb
      have hBlt := hR.lt
      clear HPL hb hR hT
      by_cases h7' : kind = 7
      · subst h7'
        by_cases h12 : posn p d (ord 7) + 12 ≤ s.size
        · have HO : Hid (bodySt b s.size 7 d n p = (restsSt b s.size d 7 (sgn b (posn p d (ord 7)) 6) (sgn b (posn p d (ord 7) + 6) 6) n (posn p d (ord 7) + 12) (fun i => sgn b (posn p d i) d)).map fun st => (st.x, st.p)) := by
            show _ = _; rw [HBO.out, if_pos hfi, if_pos rfl, if_pos h12]
          have HG : Hid (∀ u : World, Rd u B s (posn p d (ord 7)) → Calls Tryd.prog 73 #[.pointer (some ⟨B, 0, none⟩), .int .i64 7] u fun e w' => GotG e u w' B s (gV 7 (sgn b (posn p d (ord 7)) 6) (sgn b (posn p d (ord 7) + 6) 6)) (posn p d (ord 7) + 12)) := fun u hu =>
            (readGuesser_seven B s b _ u hs hfi hu HB.out).mono fun e w' h => by
              rcases h with h | h
              · exact h.2
              · have := h.1; omega
          go_enter Tryd.func51, Tryd.ntmps51
          go_wp2_with (first
            | (go_at_call 62; refine (orderOf_any 7 _ h2 h7).mono ?_; rintro e w' ⟨rfl, rfl⟩)
            | (go_at_call 50; refine HP1.out.mono ?_; rintro e w1 ⟨g, rfl, hg1, hrow1, hR1, hC1⟩; have HROW1 := Hid.mk' hrow1; have HR1 := Hid.mk' hR1; have HC1 := Hid.mk' hC1; clear hrow1 hR1 hC1)
            | (go_at_call 73; refine (HG.out _ HR1.out).mono ?_; rintro e w2 ⟨rfl, hR2, hC2⟩; have HR2 := Hid.mk' hR2; have HC2 := Hid.mk' hC2; clear hR2 hC2; simp only [gV])
            | (go_at_call 74; refine (readRests_any B g s b (posn p d (ord 7) + 12) d n 7 (sgn b (posn p d (ord 7)) 6) (sgn b (posn p d (ord 7) + 6) 6) (fun i => sgn b (posn p d i) d) _ hs h12 hd1 hd hn h2 h7 (sgn6 _ _) (sgn6 _ _) (HR2.out.of (blk_alloc_lt _ _ _ HR2.out.lt)) HB.out ((HC2.out.row HROW1.out (by omega)).alloc _) (by omega) (fun j _ => sgn_fits b _ hd1) (by omega)).mono ?_; rintro e w3 h3; obtain ⟨u, cc, rfl⟩ := h3.form; have H3 := Hid.mk' h3; clear h3))
          go_ret2
          rw [HO.out]
          exact restsOut_out ((HC1.out.trans HC2.out).below ((Below.refl _ _).alloc (Nat.le_refl _) _)) hg1 H3.out
        · have HO : Hid (bodySt b s.size 7 d n p = none) := by
            show _ = _; rw [HBO.out, if_pos hfi, if_pos rfl, if_neg h12]
          have HG : Hid (∀ u : World, Rd u B s (posn p d (ord 7)) → Calls Tryd.prog 73 #[.pointer (some ⟨B, 0, none⟩), .int .i64 7] u fun e w' => NotG e u w' B) := fun u hu =>
            (readGuesser_seven B s b _ u hs hfi hu HB.out).mono fun e w' h => by
              rcases h with h | h
              · exact absurd h.1 h12
              · exact h.2
          go_enter Tryd.func51, Tryd.ntmps51
          go_wp2_with (first
            | (go_at_call 62; refine (orderOf_any 7 _ h2 h7).mono ?_; rintro e w' ⟨rfl, rfl⟩)
            | (go_at_call 50; refine HP1.out.mono ?_; rintro e w1 ⟨g, rfl, hg1, hrow1, hR1, hC1⟩; have HROW1 := Hid.mk' hrow1; have HR1 := Hid.mk' hR1; have HC1 := Hid.mk' hC1; clear hrow1 hR1 hC1)
            | (go_at_call 73; refine (HG.out _ HR1.out).mono ?_; rintro e w2 ⟨v0, v1, v2, v3, v4, v5, rfl, hC2⟩; have HC2 := Hid.mk' hC2; clear hC2))
          go_ret2
          rw [HO.out]
          exact ⟨_, rfl, (HC1.out.trans HC2.out).below ((Below.refl _ _).alloc (Nat.le_refl _) _)⟩
      · have HG : Hid (∀ u : World, Rd u B s (posn p d (ord kind)) → TabAt u 2 → 2 < u.heap.size → Calls Tryd.prog 73 #[.pointer (some ⟨B, 0, none⟩), .int .i64 kind] u fun e w' => GotG e u w' B s (gV kind 0 0) (posn p d (ord kind))) := fun u hu hTu hu2 =>
          readGuesser_fixed B s _ kind u h2 (by omega) hu hTu hu2
        go_enter Tryd.func51, Tryd.ntmps51
        go_wp2_with (first
          | (go_at_call 62; refine (orderOf_any kind _ h2 h7).mono ?_; rintro e w' ⟨rfl, rfl⟩)
          | (go_at_call 50; refine HP1.out.mono ?_; rintro e w1 ⟨g, rfl, hg1, hrow1, hR1, hC1⟩; have HROW1 := Hid.mk' hrow1; have HR1 := Hid.mk' hR1; have HC1 := Hid.mk' hC1; clear hrow1 hR1 hC1)
          | (go_at_call 73; refine (HG.out _ HR1.out (HC1.out.tabs HT.out hT2 (Ne.symm hB2)) (Nat.lt_of_lt_of_le hT2 HC1.out.size)).mono ?_; rintro e w2 ⟨rfl, hR2, hC2⟩; have HR2 := Hid.mk' hR2; have HC2 := Hid.mk' hC2; clear hR2 hC2; simp only [gV])
          | (go_at_call 74; refine (readRests_any B g s b (posn p d (ord kind)) d n kind 0 0 (fun i => sgn b (posn p d i) d) _ hs hfi hd1 hd hn h2 h7 (by omega) (by omega) (HR2.out.of (blk_alloc_lt _ _ _ HR2.out.lt)) HB.out ((HC2.out.row HROW1.out (by omega)).alloc _) (by omega) (fun j _ => sgn_fits b _ hd1) (by omega)).mono ?_; rintro e w3 h3; obtain ⟨u, cc, rfl⟩ := h3.form; have H3 := Hid.mk' h3; clear h3))
        go_ret2
        rw [HBO.out, if_pos hfi, if_neg h7']
        exact restsOut_out ((HC1.out.trans HC2.out).below ((Below.refl _ _).alloc (Nat.le_refl _) _)) hg1 H3.out
    · have HP1 : Hid (Calls Tryd.prog 50 #[.pointer (some ⟨B, 0, none⟩), .int .i64 d, .int .i64 (ord kind), .int .i64 n] w fun e w' => Not e w w' B) :=
        HPL.out.mono fun e w' h => by
          rcases h with h | h
          · exact absurd h.1 hfi
          · exact h.2
      have HO : Hid (bodySt b s.size kind d n p = none) := by show _ = _; rw [HBO.out, if_neg hfi]
      clear HPL hb hR hT
      go_enter Tryd.func51, Tryd.ntmps51
      go_wp2_with (first
        | (go_at_call 62; refine (orderOf_any kind _ h2 h7).mono ?_; rintro e w' ⟨rfl, rfl⟩)
        | (go_at_call 50; refine HP1.out.mono ?_; rintro e w1 ⟨v, rfl, hC1⟩))
      go_ret2
      rw [HO.out]
      exact ⟨_, rfl, hC1⟩

theorem rests_fits {b : Nat → Bool} {N d kind n p : Nat} {a c : Int} {x0 : Nat → Int} {st : St} (h : restsSt b N d kind a c n p x0 = some st) (h0 : ∀ j, j < ord kind → fitsB d (x0 j) = true) : ∀ j, j < n → fitsB d (st.x j) = true := by
  unfold restsSt at h
  split at h
  · intro j hj
    exact (theJob b N d kind a c n p).R_fits ⟨p + 2, 0, x0⟩ h0 n st h j (by omega)
  · cases h
theorem body_fits {b : Nat → Bool} {N kind d n p : Nat} {xp : (Nat → Int) × Nat} (hd : 1 ≤ d) (h : bodySt b N kind d n p = some xp) : ∀ j, j < n → fitsB d (xp.1 j) = true := by
  unfold bodySt at h
  intro j hj
  split at h
  · split at h
    · cases h; exact sgn_fits b _ hd
    · cases h
  · split at h
    · split at h
      · cases h; exact sgn_fits b _ hd
      · cases h
    · split at h
      · cases h
      · split at h
        · split at h
          · split at h
            · simp only [Option.map_eq_some_iff] at h
              obtain ⟨st, hst, rfl⟩ := h
              exact rests_fits hst (fun j _ => sgn_fits b _ hd) j hj
            · cases h
          · simp only [Option.map_eq_some_iff] at h
            obtain ⟨st, hst, rfl⟩ := h
            exact rests_fits hst (fun j _ => sgn_fits b _ hd) j hj
        · cases h

set_option maxHeartbeats 1000000 in
theorem readBody_any (B : Nat) (s : ByteArray) (b : Nat → Bool) (p d n kind : Nat) (w : World) (hs : s.size ≤ 80000) (hp : p ≤ s.size) (hd1 : 1 ≤ d) (hd : d ≤ 13) (hn : n ≤ 32) (hk : kind ≤ 15) (hR : Rd w B s p) (hb : Bits s b) (hT : TabAt w 2) (hT2 : 2 < w.heap.size) (hB2 : B ≠ 2) :
    Calls Tryd.prog 37 #[.pointer (some ⟨B, 0, none⟩), .int .i64 kind, .int .i64 d, .int .i64 n] w fun e w' => Out e w w' B s n (bodySt b s.size kind d n p) := by
  by_cases k0 : kind = 0
  · subst k0
    by_cases h : p + d ≤ s.size
    · have HO : Hid (bodySt b s.size 0 d n p = some (fun _ => sgn b p d, p + d)) := by show _ = _; unfold bodySt; rw [if_pos rfl, if_pos h]
      have HC := Hid.mk' (readStill_yes B s b p d n w hs hd1 hd hn hR hb h)
      clear hb hR hT
      go_enter Tryd.func37, Tryd.ntmps37
      go_wp2_with (go_at_call 49; refine HC.out.mono ?_; rintro e w1 ⟨g, rfl, h1⟩; have H1 := Hid.mk' h1; clear h1)
      go_ret2
      rw [HO.out]
      exact ⟨g, rfl, H1.out⟩
    · have HO : Hid (bodySt b s.size 0 d n p = none) := by show _ = _; unfold bodySt; rw [if_pos rfl, if_neg h]
      have HC := Hid.mk' (readStill_no B s p d n w hs hp hd hR (by omega))
      clear hb hR hT
      go_enter Tryd.func37, Tryd.ntmps37
      go_wp2_with (go_at_call 49; refine HC.out.mono ?_; rintro e w1 ⟨v, rfl, h1⟩; have H1 := Hid.mk' h1; clear h1)
      go_ret2
      rw [HO.out]
      exact ⟨v, rfl, H1.out⟩
  · have t0 : ((kind : Int) == 0) = false := by simp; omega
    by_cases k1 : kind = 1
    · subst k1
      have HO : Hid (bodySt b s.size 1 d n p = if posn p d n ≤ s.size then some (fun i => sgn b (posn p d i) d, posn p d n) else none) := by show _ = _; unfold bodySt; rw [if_neg (by omega), if_pos rfl]
      have HC : Hid (Calls Tryd.prog 50 #[.pointer (some ⟨B, 0, none⟩), .int .i64 d, .int .i64 n, .int .i64 n] w fun e w' => Out e w w' B s n (bodySt b s.size 1 d n p)) :=
        (readPlain_any B s b p d n n w hs hp hd1 hd (Nat.le_refl _) hn hR hb).mono fun e w' h => by
          rw [HO.out]
          rcases h with h | h
          · rw [if_pos h.1]; exact h.2
          · rw [if_neg (by omega)]; exact h.2
      clear hb hR hT HO
      go_enter Tryd.func37, Tryd.ntmps37
      go_wp2_with (go_at_call 50; refine HC.out.mono ?_; rintro e w1 h1; obtain ⟨u, cc, rfl⟩ := h1.form; have H1 := Hid.mk' h1; clear h1)
      go_ret2
      exact H1.out
    · have t1 : ((kind : Int) == 1) = false := by simp; omega
      by_cases k7 : kind ≤ 7
      · have HC := Hid.mk' (readGuessed_any B s b p d n kind w hs hp hd1 hd hn (by omega) k7 hR hb hT hT2 hB2)
        clear hb hR hT
        go_enter Tryd.func37, Tryd.ntmps37
        go_wp2_with (go_at_call 51; refine HC.out.mono ?_; rintro e w1 h1; obtain ⟨u, cc, rfl⟩ := h1.form; have H1 := Hid.mk' h1; clear h1)
        go_ret2
        exact H1.out
      · have HO : Hid (bodySt b s.size kind d n p = none) := by show _ = _; unfold bodySt; rw [if_neg k0, if_neg k1, if_pos (.inl (by omega))]
        clear hb hR hT
        go_enter Tryd.func37, Tryd.ntmps37
        go_wp2
        go_ret2
        rw [HO.out]
        exact ⟨_, rfl, Chg.refl _ _⟩
end Go.Proofs.YtlncjgnomhpjnaaDoor
