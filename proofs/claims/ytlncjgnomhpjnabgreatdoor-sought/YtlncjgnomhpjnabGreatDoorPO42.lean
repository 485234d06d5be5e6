import Derived.Test.YtlncjgnomhpjnabGreatDoorPO30
import Derived.Test.YtlncjgnomhpjnabGreatDoorPO41
import Derived.Test.YtlncjgnomhpjnabGreatDoorPO33
import Derived.Test.YtlncjgnomhpjnabGreatDoorPO36
import Derived.Test.YtlncjgnomhpjnabGreatDoorPO2
/-
  Whether a head says what its frames are: slices.Equal, stream.saysOf.
-/
namespace Go.Proofs.YtlncjgnomhpjnabGreatDoor
open Go.RowKit Go.Deep
set_option linter.unusedVariables false
set_option maxRecDepth 4000 in
theorem slicesEqual_any (a a' : Option Addr) (n n' c c' : Nat) (f g : Nat → Int) (w : World) (hn : n ≤ 300) (hn' : n' ≤ 300) (h1 : IntsAt w a n f) (h2 : IntsAt w a' n' g) :
    Calls Tryz.prog 139 #[.slice a n c, .slice a' n' c'] w fun e w' => Says e (n = n' ∧ ∀ i, i < n → f i = g i) ∧ ∃ m, w' = w.drewN m := by
  have H1 := Hid.mk' h1
  have H2 := Hid.mk' h2
  clear h1 h2
  by_cases hne : n = n'
  · subst hne
    go_enter Tryz.func139, Tryz.ntmps139
    go_wp2
    go_loopw [4, 5, 13] (fun bv _ iv wr => ∃ k : Nat, k ≤ n ∧ bv = .bool false ∧ iv = .int .i64 k ∧ Hid (∀ i, i < k → f i = g i) ∧ ∃ m, wr = w.drewN m) (fun _ _ iv _ => n - (intOf iv).toNat)
    case atStart => exact ⟨0, Nat.zero_le _, rfl, rfl, fun i hi => absurd hi (Nat.not_lt_zero i), 0, rfl⟩
    case round =>
      obtain ⟨k, hk, rfl, rfl, HE, m, rfl⟩ := hrel
      by_cases hkn : k < n
      · obtain ⟨b1, o1, hx1, hc1⟩ := H1.out.open (by omega)
        obtain ⟨b2, o2, hx2, hc2⟩ := H2.out.open (by omega)
        cases hx1
        cases hx2
        have hd1 := hc1 k hkn
        have hd2 := hc2 k hkn
        clear hc1 hc2
        by_cases hfg : f k = g k
        · have HE2 : Hid (∀ i, i < k + 1 → f i = g i) := fun i hi => by
            by_cases e : i = k
            · rw [e]; exact hfg
            · exact HE.out i (by omega)
          rw [hfg] at hd1
          go_wp2
          go_region
          all_goals go_wp2
          all_goals go_roundw
          case rel => exact ⟨k + 1, by omega, rfl, by go_num, HE2.out, _, rfl⟩
          case measure => simp [intOf]; omega
        · have HNE : Hid (¬ (n = n ∧ ∀ i, i < n → f i = g i)) := fun h => hfg (h.2 k hkn)
          have hbq : (f k == g k) = false := by simpa using hfg
          go_wp2
          go_region
          all_goals go_wp2
          all_goals go_ret
          all_goals exact ⟨.no HNE.out, _, rfl⟩
      · have e : k = n := by omega
        subst e
        go_wp2
        go_ret
        exact ⟨.yes ⟨by trivial, HE.out⟩, _, rfl⟩
  · go_enter Tryz.func139, Tryz.ntmps139
    go_wp2
    go_ret
    exact ⟨.no (fun h => hne h.1), 0, rfl⟩
theorem lists_ext {ps qs : List Nat} : (ps.length = qs.length ∧ ∀ i, i < ps.length → ((ps.getD i 0 : Nat) : Int) = ((qs.getD i 0 : Nat) : Int)) ↔ ps = qs := by
  constructor
  · rintro ⟨h1, h2⟩
    refine List.ext_getElem h1 fun i hi hj => ?_
    have := h2 i hi
    rw [List.getD_eq_getElem?_getD, List.getElem?_eq_getElem hi, List.getD_eq_getElem?_getD, List.getElem?_eq_getElem hj] at this
    exact Int.ofNat.inj this
  · rintro rfl
    exact ⟨rfl, fun _ _ => rfl⟩
set_option maxRecDepth 4000 in
set_option maxHeartbeats 1000000 in
theorem saysOf_any (c0 c1 c2 c3 s : Int) (c4 sum le mo : Nat) (f : Bool) (pv lv : Value) (ps : List Nat) (ln : Nat → Nat) (base base' k : Nat) (w : World) (hk : k ≤ 300) (hc4 : c4 ≤ 255) (hp : ps.length ≤ 300) (hln : ∀ i, i < k → ln i ≤ 9000)
    (hP : w.ownsRow base 3 1 pv ps.length (pntV ps)) (hL : w.ownsRow base' 3 1 lv k (lnL ln k)) :
    Calls Tryz.prog 73 #[.agg (hdC c0 c1 c2 c3 c4 s f le mo sum pv), lv] w fun e w' => Says e (le = leastN ln k ∧ mo = mostN ln k ∧ ps = pntN ln c4 k) ∧ Below w.heap.size w w' := by
  obtain ⟨a, cap, rfl, hI, hlow⟩ := lens_open hL
  obtain ⟨b, cap', rfl, hJ, hlow'⟩ := pnts_open hP
  have HFN := Hid.mk' (fun (u : World) (hu : Below w.heap.size w u) => finished9_any c0 c1 c2 c3 s c4 sum a k cap ln u hk hc4 hln (hI.below hu hlow) (fun x hx h0 => Nat.lt_of_lt_of_le (hlow x hx h0) hu.size))
  have HB0 : Hid (Below w.heap.size w (w.alloc (.cells #[.int .i64 c0, .int .i64 c1, .int .i64 c2, .int .i64 c3, .int .i64 c4, .int .i64 s, .bool f, .int .i64 le, .int .i64 mo, .int .i64 sum, .slice b ps.length cap'] 110))) := (Below.refl _ _).alloc (Nat.le_refl _) _
  have HJ := Hid.mk' (And.intro hJ hlow')
  have HQL : Hid ((pntN ln c4 k).length ≤ 300) := Nat.le_trans (pntN_len ln c4 k) hk
  have HP2 := Hid.mk' hp
  unfold hdC at HFN ⊢
  clear hP hL hln hI hlow hJ hlow' hk hc4 hp
  generalize pntN ln c4 k = qs at *
  generalize leastN ln k = le' at *
  generalize mostN ln k = mo' at *
  by_cases h1 : le = le'
  · subst h1
    by_cases h2 : mo = mo'
    · subst h2
      have HX := Hid.mk' (@lists_ext ps qs)
      go_enter Tryz.func73, Tryz.ntmps73
      go_wp2_with (first
        | (go_at_call 128; refine (HFN.out _ HB0.out).mono ?_; rintro e u1 ⟨qv, rfl, hq, hb⟩; obtain ⟨qa, qc, rfl, hQ, hql⟩ := pnts_open hq; have HQ := Hid.mk' (And.intro hQ hql); have HB1 := Hid.mk' (HB0.out.trans (hb.mono (by simp))); have hz := ((Bx.new w _ _).below hb).alloc (.cells #[.int .i64 c0, .int .i64 c1, .int .i64 c2, .int .i64 c3, .int .i64 c4, .int .i64 s, .bool true, .int .i64 le, .int .i64 mo, .int .i64 sum, .slice qa qs.length qc] 110); have x7 := hz.cell 7; have x8 := hz.cell 8; have x10 := hz.cell 10; clear hQ hql hb hq HFN hz)
        | (go_at_call 139; refine (slicesEqual_any b qa ps.length qs.length cap' qc _ _ _ HP2.out HQL.out ((HJ.out.1.below HB1.out HJ.out.2).below ((Below.refl u1.heap.size u1).alloc (Nat.le_refl _) _) (fun x hx h0 => Nat.lt_of_lt_of_le (HJ.out.2 x hx h0) HB1.out.size)) (HQ.out.1.below ((Below.refl u1.heap.size u1).alloc (Nat.le_refl _) _) HQ.out.2)).mono ?_; rintro e u2 ⟨⟨r, rfl, hr⟩, m, rfl⟩; have HR := Hid.mk' hr; clear hr))
      go_ret
      refine ⟨⟨r, rfl, ?_⟩, ?_⟩
      · rw [HR.out, HX.out]
        exact ⟨fun h => ⟨by trivial, by trivial, h⟩, fun h => h.2.2⟩
      · exact bl_drewN (HB1.out.alloc HB1.out.size _) m
    · have HN : Hid (¬ (le = le ∧ mo = mo' ∧ ps = qs)) := fun h => h2 h.2.1
      have hd2 : ((mo : Int) == (mo' : Int)) = false := by exact beq_eq_false_iff_ne.2 (by omega)
      have hi2 : ¬ (mo : Int) = (mo' : Int) := by omega
      go_enter Tryz.func73, Tryz.ntmps73
      go_wp2_with (first
        | (go_at_call 128; refine (HFN.out _ HB0.out).mono ?_; rintro e u1 ⟨qv, rfl, hq, hb⟩; obtain ⟨qa, qc, rfl, hQ, hql⟩ := pnts_open hq; have HB1 := Hid.mk' (HB0.out.trans (hb.mono (by simp))); have hz := ((Bx.new w _ _).below hb).alloc (.cells #[.int .i64 c0, .int .i64 c1, .int .i64 c2, .int .i64 c3, .int .i64 c4, .int .i64 s, .bool true, .int .i64 le, .int .i64 mo', .int .i64 sum, .slice qa qs.length qc] 110); have x7 := hz.cell 7; have x8 := hz.cell 8; have x10 := hz.cell 10; clear hQ hql hb hq HFN hz))
      go_ret
      exact ⟨.no HN.out, HB1.out.alloc HB1.out.size _⟩
  · have HN : Hid (¬ (le = le' ∧ mo = mo' ∧ ps = qs)) := fun h => h1 h.1
    have hd1 : ((le : Int) == (le' : Int)) = false := by exact beq_eq_false_iff_ne.2 (by omega)
    have hi1 : ¬ (le : Int) = (le' : Int) := by omega
    go_enter Tryz.func73, Tryz.ntmps73
    go_wp2_with (first
      | (go_at_call 128; refine (HFN.out _ HB0.out).mono ?_; rintro e u1 ⟨qv, rfl, hq, hb⟩; obtain ⟨qa, qc, rfl, hQ, hql⟩ := pnts_open hq; have HB1 := Hid.mk' (HB0.out.trans (hb.mono (by simp))); have hz := ((Bx.new w _ _).below hb).alloc (.cells #[.int .i64 c0, .int .i64 c1, .int .i64 c2, .int .i64 c3, .int .i64 c4, .int .i64 s, .bool true, .int .i64 le', .int .i64 mo', .int .i64 sum, .slice qa qs.length qc] 110); have x7 := hz.cell 7; have x8 := hz.cell 8; have x10 := hz.cell 10; clear hQ hql hb hq HFN hz))
    go_ret
    exact ⟨.no HN.out, HB1.out.alloc HB1.out.size _⟩
end Go.Proofs.YtlncjgnomhpjnabGreatDoor

/-
  The book of lists that came out.
-/
namespace Go.Proofs.YtlncjgnomhpjnabGreatDoor
open Go.RowKit Go.Deep
set_option linter.unusedVariables false
theorem LstE.keep {e : TypeId} {w w' : World} {v : Value} {n : Nat} {og : Option Nat} {x : Nat → Value} (h : LstE e w v n og x) (hb : ∀ g, og = some g → w'.heap[g]? = w.heap[g]?) : LstE e w' v n og x := by
  rcases h with h | ⟨g, o, c, N, f, e1, e2, hr, h1⟩
  · exact .inl h
  · exact .inr ⟨g, o, c, N, f, e1, e2, hr.of_block (hb g e1), h1⟩
theorem LstE.lt {e : TypeId} {w : World} {v : Value} {n : Nat} {og : Option Nat} {x : Nat → Value} (h : LstE e w v n og x) {g : Nat} (hg : og = some g) : g < w.heap.size := by
  obtain ⟨N, f, hr⟩ := h.row hg
  exact hr.lt
end Go.Proofs.YtlncjgnomhpjnabGreatDoor

/-
  The book: lists of lists go into it; their laws.
-/
namespace Go.Proofs.YtlncjgnomhpjnabGreatDoor
open Go.RowKit Go.Deep
set_option linter.unusedVariables false
theorem row_type {w : World} {g N N' : Nat} {e e' : TypeId} {f f' : Nat → Value} (h : w.rowIs g e N f) (h' : w.rowIs g e' N' f') : e = e' := by
  obtain ⟨c, h1, -⟩ := h
  obtain ⟨c', h2, -⟩ := h'
  rw [h1] at h2
  injection h2 with h2
  injection h2
end Go.Proofs.YtlncjgnomhpjnabGreatDoor

/-
  Lists that were read, wherever they lie; what Decode answers.
-/
namespace Go.Proofs.YtlncjgnomhpjnabGreatDoor
open Go.RowKit Go.Deep
set_option linter.unusedVariables false
/-- lists of a row of lists -/
def RowsL (base : Nat) (u : World) (v : Value) (n nn : Nat) (H : Nat → Nat → Int) : Prop :=
  ∃ (g : Nat) (vs : Nat → Value) (ogs : Nat → Option Nat), v = .slice (some ⟨g, 0, none⟩) n n ∧ base ≤ g ∧ u.rowIs g 30 n vs ∧
    (∀ c, c < n → LstE 3 u (vs c) nn (ogs c) (fun j => .int .i64 (H c j)) ∧ ∀ q, ogs c = some q → base ≤ q) ∧
    ∀ c c', c < n → c' < n → c ≠ c' → ∀ q, ogs c = some q → ogs c' ≠ some q
theorem lst_of_own {w : World} {base n : Nat} {v : Value} {l : List Int} {H : Nat → Int} (h : w.ownsRow base 3 1 v n (intL l)) (hH : ∀ j, j < n → l.getD j 0 = H j) : LstE 3 w v n v.ownBlock (fun j => .int .i64 (H j)) ∧ ∀ q, v.ownBlock = some q → base ≤ q := by
  refine ⟨?_, fun q hq => (h.lt q hq).1⟩
  have hlen := h.1
  rw [intL_length] at hlen
  rcases h.2 with ⟨rfl, rfl⟩ | ⟨g, cap, cur, rfl, hb, hcur, h1, h2, h3, h4⟩
  · exact .inl ⟨rfl, rfl, rfl⟩
  · refine .inr ⟨g, 0, cap, cap, fun i => cur.getD i undef, rfl, rfl, ⟨cur, hcur, by omega, fun j hj => ?_⟩, by omega, h1, fun i hi => ?_⟩
    · have hjc : j < cur.size := by omega
      show cur[j]? = some (cur.getD j undef)
      rw [Array.getD_eq_getD_getElem?, Array.getElem?_eq_getElem hjc]; rfl
    · have hi2 : i < l.length := by omega
      have e : (intL l)[i]? = some (.int .i64 (H i)) := by
        rw [← hH i hi]
        unfold intL
        rw [List.getElem?_map, List.getElem?_eq_getElem hi2, List.getD_eq_getElem?_getD, List.getElem?_eq_getElem hi2]; rfl
      rw [← h4, List.getElem?_take, if_pos (by omega), Array.getElem?_toList] at e
      show cur.getD (0 + i) undef = _
      rw [Nat.zero_add, Array.getD_eq_getD_getElem?, e]; rfl
theorem LstE.ints {w : World} {v : Value} {n : Nat} {og : Option Nat} {H : Nat → Int} (h : LstE 3 w v n og (fun j => .int .i64 (H j))) : ∃ a c, v = .slice a n c ∧ IntsAt w a n H ∧ ∀ x, a = some x → x.block < w.heap.size := by
  rcases h with ⟨rfl, rfl, -⟩ | ⟨g, o, c, N, f, -, rfl, hr, h1, h2, h3⟩
  · exact ⟨none, 0, rfl, fun i hi => absurd hi (Nat.not_lt_zero i), fun x hx => by cases hx⟩
  · refine ⟨_, c, rfl, fun i hi => ⟨_, rfl, ?_⟩, fun x hx => by cases hx; exact hr.lt⟩
    have := hr.cell (i := o + i) (by omega)
    rw [h3 i hi] at this
    rw [Addr.add_lit]
    exact this
theorem RowsL.mono {base base' : Nat} {u : World} {v : Value} {n nn : Nat} {H : Nat → Nat → Int} (h : RowsL base u v n nn H) (hb : base' ≤ base) : RowsL base' u v n nn H := by
  obtain ⟨g, vs, ogs, h1, h2, h3, h4, h5⟩ := h
  exact ⟨g, vs, ogs, h1, Nat.le_trans hb h2, h3, fun c hc => ⟨(h4 c hc).1, fun q hq => Nat.le_trans hb ((h4 c hc).2 q hq)⟩, h5⟩
theorem RowsL.below {base : Nat} {u u' : World} {v : Value} {n nn : Nat} {H : Nat → Nat → Int} (h : RowsL base u v n nn H) (hb : Below u.heap.size u u') : RowsL base u' v n nn H := by
  obtain ⟨g, vs, ogs, h1, h2, h3, h4, h5⟩ := h
  exact ⟨g, vs, ogs, h1, h2, rowIs_of h3 (hb.block _ h3.lt), fun c hc => ⟨(h4 c hc).1.keep fun q hq => hb.block _ ((h4 c hc).1.lt hq), (h4 c hc).2⟩, h5⟩
/-- rows, as functions that take lists want them -/
theorem RowsL.open {base : Nat} {u : World} {v : Value} {n nn : Nat} {H : Nat → Nat → Int} (h : RowsL base u v n nn H) : ∃ g A C, v = .slice (some ⟨g, 0, none⟩) n n ∧ g < u.heap.size ∧ ListsAt u (some ⟨g, 0, none⟩) n A (fun _ => nn) C ∧ (∀ i, i < n → IntsAt u (A i) nn (H i)) ∧ Low u.heap.size (some ⟨g, 0, none⟩) n A (fun _ => nn) := by
  obtain ⟨g, vs, ogs, h1, h2, h3, h4, h5⟩ := h
  have hex : ∀ c, ∃ p : Option Addr × Nat, c < n → vs c = .slice p.1 nn p.2 ∧ IntsAt u p.1 nn (H c) ∧ ∀ x, p.1 = some x → x.block < u.heap.size := fun c => by
    by_cases hc : c < n
    · obtain ⟨a, q, e1, e2, e3⟩ := (h4 c hc).1.ints
      exact ⟨(a, q), fun _ => ⟨e1, e2, e3⟩⟩
    · exact ⟨(none, 0), fun h => absurd h hc⟩
  refine ⟨g, fun c => (hex c).choose.1, fun c => (hex c).choose.2, h1, h3.lt, fun i hi => ⟨_, rfl, ?_⟩, fun i hi => ((hex i).choose_spec hi).2.1, fun x hx _ => by cases hx; exact h3.lt, fun i hi x hx _ => ((hex i).choose_spec hi).2.2 x hx⟩
  have := h3.cell hi
  rw [Addr.add_lit, Nat.zero_add, this, ((hex i).choose_spec hi).1]
/-- the samples of frames that were read -/
noncomputable def smpL (n d B S k0 : Nat) (X : List UInt8) (m c j : Nat) : Int := (chL n d B S k0 X c m).getD j 0
theorem FrsOut.rows {e : Ending} {w w' : World} {n d B S k0 : Nat} {X : List UInt8} (h : FrsOut e w w' n d B S k0 X) : ∃ (m : Nat) (v lv : Value), RunIs n d B S k0 X m ∧ e = .returned (.agg #[v, lv, .bool (decide (k0 + m = nBlk S B ∧ offX X m = X.length))]) ∧ RowsL w.heap.size w' v n (chN B S k0 m) (smpL n d B S k0 X m) ∧
    w'.ownsRow w.heap.size 3 1 lv m (lnL (lnX X) m) ∧ Below w.heap.size w w' := by
  obtain ⟨m, g, vs, lv, hr, rfl, hg, hrow, hown, hap, hl, hb⟩ := h
  refine ⟨m, _, lv, hr, rfl, ⟨g, vs, fun c => (vs c).ownBlock, rfl, hg, hrow, fun c hc => lst_of_own (hown c hc) (fun j _ => rfl), fun c c' hc hc' hne q h1 h2 => ?_⟩, hl, hb⟩
  rcases hap c c' hc hc' hne with h3 | h3
  · have h1' : (vs c).ownBlock = some q := h1
    rw [h3] at h1'; cases h1'
  · exact h3 (h1.trans h2.symm)
/-- a head says what its frames are -/
def SaysP (T X : List UInt8) (m : Nat) : Prop := dLe T = leastN (lnX X) m ∧ dMo T = mostN (lnX X) m ∧ dPts T = pntN (lnX X) (dSe T) m
/-- a text is a head, and the frames that it speaks of -/
def AllP (T : List UInt8) : Prop := ∃ m, RunIs (dCh T) (dDe T) (dBl T) (dSa T) 0 (T.drop (dSz T)) m ∧ m = nBlk (dSa T) (dBl T) ∧ offX (T.drop (dSz T)) m = (T.drop (dSz T)).length ∧ SaysP T (T.drop (dSz T)) m
noncomputable def dSmp (T : List UInt8) : Nat → Nat → Int := smpL (dCh T) (dDe T) (dBl T) (dSa T) 0 (T.drop (dSz T)) (nBlk (dSa T) (dBl T))
def SumP (T : List UInt8) : Prop := dSu T = sumN (intT (dCh T) (dSmp T) (2 * (dSa T * dCh T)))
open Classical in
noncomputable def decE (T : List UInt8) : Int :=
  if T.length ≤ 9000 then (if HdP T ∧ dWh T = 1 then (if AllP T then (if SumP T then 0 else 8) else 6) else 7) else 4
def info0 : Value := .agg #[.int .i64 0, .int .i64 0, .int .i64 0, .int .i64 0, .int .i64 0, .int .i64 0]
def dInfo (T : List UInt8) : Value := .agg #[.int .i64 (dCh T), .int .i64 (dDe T), .int .i64 (dBl T), .int .i64 (dRa T), .int .i64 (dSe T), .int .i64 (dSa T)]
/-- what Decode answers -/
def DecAns (e : Ending) (w w' : World) (T : List UInt8) : Prop :=
  ((decE T = 0 ∧ ∃ v, e = .returned (.tuple #[dInfo T, v, .int .i64 0]) ∧ RowsL w.heap.size w' v (dCh T) (dSa T) (dSmp T))
   ∨ (decE T ≠ 0 ∧ e = .returned (.tuple #[info0, .slice none 0 0, .int .i64 (decE T)]))) ∧ Below w.heap.size w w'
end Go.Proofs.YtlncjgnomhpjnabGreatDoor

