/-
  Plain mathematics for 'Tight': what is read of a text hangs on the bits that were read alone.
-/
import Derived.Test.YtlncjgnomhpjnaaDoorReadTop2
import Derived.Test.YtlncjgnomhpjnaaDoorCodeMath
namespace Go.Proofs.YtlncjgnomhpjnaaDoor
set_option linter.unusedVariables false

/-- two texts say the same up to place N -/
def Agree (b b' : Nat → Bool) (N : Nat) : Prop := ∀ i, i < N → b i = b' i
theorem bitsNum_ext {f g : Nat → Bool} : ∀ n, (∀ i, i < n → f i = g i) → bitsNum f n = bitsNum g n
  | 0, _ => rfl
  | n + 1, h => by simp only [bitsNum]; rw [bitsNum_ext n (fun i hi => h i (by omega)), h n (by omega)]
theorem num_ext {b b' : Nat → Bool} {N p k : Nat} (h : Agree b b' N) (hp : p + k ≤ N) : num b p k = num b' p k :=
  bitsNum_ext k (fun i hi => h (p + i) (by omega))
theorem sgn_ext {b b' : Nat → Bool} {N p k : Nat} (h : Agree b b' N) (hp : p + k ≤ N) : sgn b p k = sgn b' p k := by
  unfold sgn; rw [num_ext h hp]
theorem rice_ext {b b' : Nat → Bool} {N M k p : Nat} {r : Int × Nat} (h : Agree b b' N) (hNM : N ≤ M) (hr : rice b N k p = some r) : rice b' M k p = some r ∧ r.2 ≤ N ∧ p ≤ r.2 := by
  unfold rice at hr
  split at hr
  · rename_i hle
    simp only [Option.some.injEq] at hr
    have hz : zrun b' (M - p) p = zrun b (N - p) p := by
      have h1 := zrun_le b (N - p) p
      have hlt : zrun b (N - p) p < N - p := by omega
      refine zrun_eq b' (M - p) p _ (by omega) (fun i hi => ?_) (fun _ => ?_)
      · rw [← h (p + i) (by omega)]; exact zrun_zero b (N - p) p i hi
      · rw [← h (p + zrun b (N - p) p) (by omega)]; exact zrun_one b (N - p) p hlt
    unfold rice
    rw [hz, if_pos (by omega), ← num_ext h (p := p + zrun b (N - p) p + 1) (k := k) (by omega)]
    subst hr
    exact ⟨rfl, hle, by simp only; omega⟩
  · cases hr

/-- two jobs that differ in the text behind place N alone -/
structure JobExt (J K : Job) : Prop where
  ag : Agree J.b K.b J.N
  le : J.N ≤ K.N
  w : K.w = J.w
  kind : K.kind = J.kind
  a : K.a = J.a
  c : K.c = J.c
  size : K.size = J.size
theorem JobExt.rdK {J K : Job} (h : JobExt J K) {s t : St} (hr : J.rdK s = some t) : K.rdK s = some t ∧ t.p ≤ J.N := by
  unfold Job.rdK at hr
  split at hr
  · rename_i hh
    simp only [Option.some.injEq] at hr
    subst hr
    have e := num_ext h.ag (p := s.p) (k := 4) hh.1
    unfold Job.rdK
    have hle := h.le
    rw [← e, if_pos ⟨by omega, hh.2⟩]
    exact ⟨rfl, hh.1⟩
  · cases hr
/-- two states alike in the first m samples -/
structure Sim (m : Nat) (s t : St) : Prop where
  p : t.p = s.p
  k : t.k = s.k
  x : ∀ j, j < m → t.x j = s.x j
theorem guessG_ext {kind : Nat} {a c : Int} {x y : Nat → Int} {i : Nat} (h : ∀ j, j < i → y j = x j) (ho : ord kind ≤ i) : guessG kind a c y i = guessG kind a c x i := by
  unfold guessG
  rw [sumG_congr (ord kind) (fun _ _ => rfl) (fun j hj => h (i - 1 - j) (by omega))]
theorem JobExt.rdK' {J K : Job} (h : JobExt J K) {m : Nat} {s t s' : St} (hs : Sim m s t) (hr : J.rdK s = some s') : ∃ t', K.rdK t = some t' ∧ Sim m s' t' ∧ s'.p ≤ J.N := by
  unfold Job.rdK at hr
  split at hr
  · rename_i hh
    simp only [Option.some.injEq] at hr
    subst hr
    have e := num_ext h.ag (p := s.p) (k := 4) hh.1
    have hle := h.le
    refine ⟨⟨s.p + 4, num J.b s.p 4, t.x⟩, ?_, ⟨rfl, rfl, hs.x⟩, hh.1⟩
    unfold Job.rdK
    rw [hs.p, ← e, if_pos ⟨by omega, hh.2⟩]
  · cases hr
theorem JobExt.plc {J K : Job} (h : JobExt J K) {i : Nat} {s t s' : St} (hs : Sim (max i (ord J.kind)) s t) (hp : s.p ≤ J.N) (hr : J.plc i s = some s') : ∃ t', K.plc i t = some t' ∧ Sim (max (i + 1) (ord J.kind)) s' t' ∧ s'.p ≤ J.N := by
  unfold Job.plc at hr ⊢
  rw [h.kind, h.a, h.c, h.w, hs.p, hs.k]
  split at hr
  · rename_i hi
    simp only [Option.some.injEq] at hr
    subst hr
    rw [if_pos hi]
    exact ⟨t, rfl, ⟨hs.p, hs.k, fun j hj => hs.x j (by omega)⟩, hp⟩
  · rename_i hi
    rw [if_neg hi, guessG_ext (x := s.x) (fun j hj => hs.x j (by omega)) (by omega)]
    cases hx : rice J.b J.N s.k s.p with
    | none => rw [hx] at hr; cases hr
    | some r =>
      obtain ⟨v, p'⟩ := r
      obtain ⟨h1, h2, _⟩ := rice_ext h.ag h.le hx
      rw [hx] at hr
      rw [h1]
      simp only at hr ⊢
      split at hr
      · rename_i hf
        simp only [Option.some.injEq] at hr
        subst hr
        rw [if_pos hf]
        refine ⟨_, rfl, ⟨rfl, rfl, fun j hj => ?_⟩, h2⟩
        simp only [updI]
        by_cases e : j = i
        · rw [if_pos e, if_pos e]
        · rw [if_neg e, if_neg e]; exact hs.x j (by omega)
      · cases hr
theorem JobExt.R {J K : Job} (h : JobExt J K) {s0 t0 : St} (h0 : Sim (ord J.kind) s0 t0) (hp : s0.p ≤ J.N) : ∀ i s, J.R s0 i = some s → ∃ t, K.R t0 i = some t ∧ Sim (max i (ord J.kind)) s t ∧ s.p ≤ J.N
  | 0, s, hr => by
    simp only [Job.R, Option.some.injEq] at hr ⊢
    subst hr
    exact ⟨t0, rfl, ⟨h0.p, h0.k, fun j hj => h0.x j (by omega)⟩, hp⟩
  | i + 1, s', hr => by
    simp only [Job.R] at hr ⊢
    cases h1 : J.R s0 i with
    | none => rw [h1] at hr; cases hr
    | some s =>
      obtain ⟨t, e1, m1, p1⟩ := h.R h0 hp i s h1
      rw [h1, Option.bind_some] at hr
      rw [e1, Option.bind_some, h.size]
      by_cases hm : i % J.size = 0
      · rw [if_pos hm] at hr ⊢
        cases h2 : J.rdK s with
        | none => rw [h2] at hr; cases hr
        | some s2 =>
          obtain ⟨t2, e2, m2, p2⟩ := h.rdK' m1 h2
          rw [h2, Option.bind_some] at hr
          rw [e2, Option.bind_some]
          exact h.plc m2 p2 hr
      · rw [if_neg hm, Option.bind_some] at hr ⊢
        exact h.plc m1 p1 hr
theorem restsSt_ext {b b' : Nat → Bool} {N M d kind : Nat} {a c : Int} {n p : Nat} {x0 y0 : Nat → Int} {s : St} (h : Agree b b' N) (hNM : N ≤ M) (hxy : ∀ j, j < ord kind → y0 j = x0 j) (hr : restsSt b N d kind a c n p x0 = some s) :
    ∃ t, restsSt b' M d kind a c n p y0 = some t ∧ Sim (max n (ord kind)) s t ∧ s.p ≤ N := by
  unfold restsSt at hr
  split at hr
  · rename_i hh
    have e := num_ext h (p := p) (k := 2) hh.1
    unfold restsSt
    rw [← e, if_pos ⟨by omega, hh.2⟩]
    exact JobExt.R (J := theJob b N d kind a c n p) (K := theJob b' M d kind a c n p) ⟨h, hNM, rfl, rfl, rfl, rfl, by unfold theJob; rw [e]⟩ (s0 := ⟨p + 2, 0, x0⟩) (t0 := ⟨p + 2, 0, y0⟩) ⟨rfl, rfl, hxy⟩ (show p + 2 ≤ N from hh.1) n s hr
  · cases hr
/-- what is read of a text is read of every longer one that agrees with it -/
theorem bodySt_ext {b b' : Nat → Bool} {N M kind d n p : Nat} {r : (Nat → Int) × Nat} (h : Agree b b' N) (hNM : N ≤ M) (hr : bodySt b N kind d n p = some r) : ∃ r', bodySt b' M kind d n p = some r' ∧ r'.2 = r.2 ∧ r.2 ≤ N := by
  unfold bodySt at hr ⊢
  by_cases h0 : kind = 0
  · rw [if_pos h0] at hr ⊢
    split at hr
    · rename_i hh
      simp only [Option.some.injEq] at hr
      subst hr
      rw [if_pos (by omega)]
      exact ⟨_, rfl, rfl, hh⟩
    · cases hr
  · rw [if_neg h0] at hr ⊢
    by_cases h1 : kind = 1
    · rw [if_pos h1] at hr ⊢
      split at hr
      · rename_i hh
        simp only [Option.some.injEq] at hr
        subst hr
        rw [if_pos (by omega)]
        exact ⟨_, rfl, rfl, hh⟩
      · cases hr
    · rw [if_neg h1] at hr ⊢
      split at hr
      · cases hr
      · rename_i h2
        rw [if_neg h2]
        split at hr
        · rename_i h3
          rw [if_pos (by omega)]
          have hx : ∀ i, i < ord kind → sgn b' (posn p d i) d = sgn b (posn p d i) d := fun i hi => (sgn_ext h (by
            have := posn_le p d (show i + 1 ≤ ord kind from hi)
            rw [posn_succ] at this
            omega)).symm
          by_cases h7 : kind = 7
          · rw [if_pos h7] at hr ⊢
            split at hr
            · rename_i h4
              rw [if_pos (by omega), ← sgn_ext h (p := posn p d (ord kind)) (k := 6) (by omega), ← sgn_ext h (p := posn p d (ord kind) + 6) (k := 6) (by omega)]
              obtain ⟨s, hs, rfl⟩ := Option.map_eq_some_iff.1 hr
              obtain ⟨t, ht, hsim, hsp⟩ := restsSt_ext h hNM hx hs
              exact ⟨(t.x, t.p), by rw [ht]; rfl, hsim.p, hsp⟩
            · cases hr
          · rw [if_neg h7] at hr ⊢
            obtain ⟨s, hs, rfl⟩ := Option.map_eq_some_iff.1 hr
            obtain ⟨t, ht, hsim, hsp⟩ := restsSt_ext h hNM hx hs
            exact ⟨(t.x, t.p), by rw [ht]; rfl, hsim.p, hsp⟩
        · cases hr
theorem readSt_ext {b b' : Nat → Bool} {N M width n : Nat} {r : (Nat → Int) × Nat} (h : Agree b b' N) (hNM : N ≤ M) (hr : readSt b N width n = some r) : ∃ r', readSt b' M width n = some r' ∧ r'.2 = r.2 ∧ r.2 ≤ N := by
  unfold readSt at hr
  split at hr
  · rename_i hh
    obtain ⟨s, hs, rfl⟩ := Option.map_eq_some_iff.1 hr
    have e0 := num_ext h (p := 0) (k := 4) (by omega)
    have e4 := num_ext h (p := 4) (k := 4) (by omega)
    obtain ⟨t, ht, h1, h2⟩ := bodySt_ext h hNM hs
    unfold readSt
    rw [← e0, ← e4, if_pos ⟨by omega, hh.2⟩, ht]
    exact ⟨_, rfl, h1, h2⟩
  · cases hr
/-- so a text whose reading takes all of it is refused without its last bit -/
theorem readSt_cut {b b' : Nat → Bool} {N width n : Nat} {r : (Nat → Int) × Nat} (hr : readSt b' (N + 1) width n = some r) (h2 : r.2 = N + 1) (h : Agree b b' N) : readSt b N width n = none := by
  cases e : readSt b N width n with
  | none => rfl
  | some q =>
    obtain ⟨r', h3, h4, h5⟩ := readSt_ext h (Nat.le_succ N) e
    rw [hr] at h3
    obtain rfl := Option.some.inj h3
    omega

/-- a text stands at a place -/
def SaysT (b : Nat → Bool) (p : Nat) (T : List UInt8) : Prop := ∀ i (h : i < T.length), T[i] = ltr (b (p + i))
theorem SaysT.left {b : Nat → Bool} {p : Nat} {T U : List UInt8} (h : SaysT b p (T ++ U)) : SaysT b p T := fun i hi => by
  have := h i (by rw [List.length_append]; omega)
  rw [List.getElem_append_left hi] at this
  exact this
theorem SaysT.right {b : Nat → Bool} {p : Nat} {T U : List UInt8} (h : SaysT b p (T ++ U)) : SaysT b (p + T.length) U := fun i hi => by
  have := h (T.length + i) (by rw [List.length_append]; omega)
  rw [List.getElem_append_right (by omega)] at this
  simp only [Nat.add_sub_cancel_left] at this
  rw [this, Nat.add_assoc]
theorem ltr_inj {a b : Bool} (h : ltr a = ltr b) : a = b := by cases a <;> cases b <;> first | rfl | (exact absurd h (by decide))
theorem bin_says {b : Nat → Bool} {p : Nat} {v : Int} {k : Nat} (h : SaysT b p (binT v k)) (i : Nat) (hi : i < k) : b (p + i) = decide (v / 2 ^ (k - 1 - i) % 2 = 1) := by
  have := h i (by rw [binT_length]; exact hi)
  unfold binT at this
  simp only [List.getElem_map, List.getElem_range] at this
  exact (ltr_inj this).symm
/-- the number of bits of v -/
theorem emod_two_mul (v : Int) (k : Nat) : v % (2 * 2 ^ k) = v % 2 + 2 * (v / 2 % 2 ^ k) := by
  have hp : (0 : Int) < 2 ^ k := by
    have h : 0 < 2 ^ k := Nat.two_pow_pos k
    have e : ((2 ^ k : Nat) : Int) = (2 : Int) ^ k := by simp
    omega
  have h1 := Int.emod_add_mul_ediv v 2
  have h2 := Int.emod_add_mul_ediv (v / 2) (2 ^ k)
  have h3 := Int.emod_nonneg (v / 2) (Int.ne_of_gt hp)
  have h4 := Int.emod_lt_of_pos (v / 2) hp
  have e : v = (v % 2 + 2 * (v / 2 % 2 ^ k)) + (2 * 2 ^ k) * (v / 2 / 2 ^ k) := by
    rw [Int.mul_assoc]; omega
  have h5 : (v % 2 + 2 * (v / 2 % 2 ^ k)) % (2 * 2 ^ k) = v % 2 + 2 * (v / 2 % 2 ^ k) := Int.emod_eq_of_lt (by omega) (by omega)
  calc v % (2 * 2 ^ k) = ((v % 2 + 2 * (v / 2 % 2 ^ k)) + (2 * 2 ^ k) * (v / 2 / 2 ^ k)) % (2 * 2 ^ k) := by rw [← e]
    _ = (v % 2 + 2 * (v / 2 % 2 ^ k)) % (2 * 2 ^ k) := Int.add_mul_emod_self_left _ _ _
    _ = _ := h5
theorem bitsNum_bin (v : Int) : ∀ k (f : Nat → Bool), (∀ i, i < k → f i = decide (v / 2 ^ (k - 1 - i) % 2 = 1)) → (bitsNum f k : Int) = v % 2 ^ k
  | 0, f, _ => by simp [bitsNum, Int.emod_one]
  | k + 1, f, h => by
    have ih := bitsNum_bin (v / 2) k f (fun i hi => by
      rw [h i (by omega)]
      congr 2
      have e : k + 1 - 1 - i = (k - 1 - i) + 1 := by omega
      rw [e, Int.pow_succ, Int.mul_comm, ← Int.ediv_ediv_of_nonneg (by omega)])
    have hl := h k (by omega)
    simp only [Nat.add_sub_cancel, Nat.sub_self, Int.pow_zero, Int.ediv_one] at hl
    simp only [bitsNum]
    rw [hl]
    have e2 : (2 : Int) ^ (k + 1) = 2 * 2 ^ k := by rw [Int.pow_succ, Int.mul_comm]
    have e3 : v % (2 * 2 ^ k) = v % 2 + 2 * (v / 2 % 2 ^ k) := emod_two_mul v k
    rw [e2, e3, ← ih]
    by_cases h1 : v % 2 = 1
    · simp [h1]; omega
    · have h0 : v % 2 = 0 := by omega
      simp [h0]
end Go.Proofs.YtlncjgnomhpjnaaDoor
