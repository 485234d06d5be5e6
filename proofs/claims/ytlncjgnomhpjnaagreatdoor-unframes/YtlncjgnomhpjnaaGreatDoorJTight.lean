import Derived.Test.YtlncjgnomhpjnaaGreatDoorJReadTop
import Derived.Test.YtlncjgnomhpjnaaGreatDoorJCodeMath
import Derived.Test.YtlncjgnomhpjnaaGreatDoorKRefTextB
/-
  Plain mathematics for 'Tight': what is read of a text hangs on the bits that were read alone.
-/
namespace Go.Proofs.YtlncjgnomhpjnaaGreatDoor
set_option linter.unusedVariables false

/-- two texts say the same up to place N -/
def Agree (b b' : Nat → Bool) (N : Nat) : Prop := ∀ i, i < N → b i = b' i
theorem bitsNum_ext {f g : Nat → Bool} : ∀ n, (∀ i, i < n → f i = g i) → bitsNum f n = bitsNum g n
  | 0, _ => rfl
  | n + 1, h => by simp only [bitsNum]; rw [bitsNum_ext n (fun i hi => h i (by omega)), h n (by omega)]
theorem num_ext {b b' : Nat → Bool} {N p k : Nat} (h : Agree b b' N) (hp : p + k ≤ N) : num b p k = num b' p k :=
  bitsNum_ext k (fun i hi => h (p + i) (by omega))
theorem sgn_ext {b b' : Nat → Bool} {N p k : Nat} (h : Agree b b' N) (hp : p + k ≤ N) : sgn b p k = sgn b' p k := by
  unfold sgn; rw [num_ext h hp]
theorem rice_ext {b b' : Nat → Bool} {N M k p : Nat} {r : Int × Nat} (h : Agree b b' N) (hNM : N ≤ M) (hr : rice b N k p = some r) : rice b' M k p = some r ∧ r.2 ≤ N ∧ p ≤ r.2 := by
  unfold rice at hr
  split at hr
  · rename_i hle
    simp only [Option.some.injEq] at hr
    have hz : zrun b' (M - p) p = zrun b (N - p) p := by
      have h1 := zrun_le b (N - p) p
      have hlt : zrun b (N - p) p < N - p := by omega
      refine zrun_eq b' (M - p) p _ (by omega) (fun i hi => ?_) (fun _ => ?_)
      · rw [← h (p + i) (by omega)]; exact zrun_zero b (N - p) p i hi
      · rw [← h (p + zrun b (N - p) p) (by omega)]; exact zrun_one b (N - p) p hlt
    unfold rice
    rw [hz, if_pos (by omega), ← num_ext h (p := p + zrun b (N - p) p + 1) (k := k) (by omega)]
    subst hr
    exact ⟨rfl, hle, by simp only; omega⟩
  · cases hr

/-- two jobs that differ in the text behind place N alone -/
structure JobExt (J K : Job) : Prop where
  ag : Agree J.b K.b J.N
  le : J.N ≤ K.N
  w : K.w = J.w
  kind : K.kind = J.kind
  a : K.a = J.a
  c : K.c = J.c
  size : K.size = J.size
theorem JobExt.rdK {J K : Job} (h : JobExt J K) {s t : St} (hr : J.rdK s = some t) : K.rdK s = some t ∧ t.p ≤ J.N := by
  unfold Job.rdK at hr
  split at hr
  · rename_i hh
    simp only [Option.some.injEq] at hr
    subst hr
    have e := num_ext h.ag (p := s.p) (k := 4) hh.1
    unfold Job.rdK
    have hle := h.le
    rw [← e, if_pos ⟨by omega, hh.2⟩]
    exact ⟨rfl, hh.1⟩
  · cases hr
/-- two states alike in the first m samples -/
structure Sim (m : Nat) (s t : St) : Prop where
  p : t.p = s.p
  k : t.k = s.k
  x : ∀ j, j < m → t.x j = s.x j
theorem guessG_ext {kind : Nat} {a c : Int} {x y : Nat → Int} {i : Nat} (h : ∀ j, j < i → y j = x j) (ho : ord kind ≤ i) : guessG kind a c y i = guessG kind a c x i := by
  unfold guessG
  rw [sumG_congr (ord kind) (fun _ _ => rfl) (fun j hj => h (i - 1 - j) (by omega))]
theorem JobExt.rdK' {J K : Job} (h : JobExt J K) {m : Nat} {s t s' : St} (hs : Sim m s t) (hr : J.rdK s = some s') : ∃ t', K.rdK t = some t' ∧ Sim m s' t' ∧ s'.p ≤ J.N := by
  unfold Job.rdK at hr
  split at hr
  · rename_i hh
    simp only [Option.some.injEq] at hr
    subst hr
    have e := num_ext h.ag (p := s.p) (k := 4) hh.1
    have hle := h.le
    refine ⟨⟨s.p + 4, num J.b s.p 4, t.x⟩, ?_, ⟨rfl, rfl, hs.x⟩, hh.1⟩
    unfold Job.rdK
    rw [hs.p, ← e, if_pos ⟨by omega, hh.2⟩]
  · cases hr
theorem JobExt.plc {J K : Job} (h : JobExt J K) {i : Nat} {s t s' : St} (hs : Sim (max i (ord J.kind)) s t) (hp : s.p ≤ J.N) (hr : J.plc i s = some s') : ∃ t', K.plc i t = some t' ∧ Sim (max (i + 1) (ord J.kind)) s' t' ∧ s'.p ≤ J.N := by
  unfold Job.plc at hr ⊢
  rw [h.kind, h.a, h.c, h.w, hs.p, hs.k]
  split at hr
  · rename_i hi
    simp only [Option.some.injEq] at hr
    subst hr
    rw [if_pos hi]
    exact ⟨t, rfl, ⟨hs.p, hs.k, fun j hj => hs.x j (by omega)⟩, hp⟩
  · rename_i hi
    rw [if_neg hi, guessG_ext (x := s.x) (fun j hj => hs.x j (by omega)) (by omega)]
    cases hx : rice J.b J.N s.k s.p with
    | none => rw [hx] at hr; cases hr
    | some r =>
      obtain ⟨v, p'⟩ := r
      obtain ⟨h1, h2, _⟩ := rice_ext h.ag h.le hx
      rw [hx] at hr
      rw [h1]
      simp only at hr ⊢
      split at hr
      · rename_i hf
        simp only [Option.some.injEq] at hr
        subst hr
        rw [if_pos hf]
        refine ⟨_, rfl, ⟨rfl, rfl, fun j hj => ?_⟩, h2⟩
        simp only [updI]
        by_cases e : j = i
        · rw [if_pos e, if_pos e]
        · rw [if_neg e, if_neg e]; exact hs.x j (by omega)
      · cases hr
theorem JobExt.R {J K : Job} (h : JobExt J K) {s0 t0 : St} (h0 : Sim (ord J.kind) s0 t0) (hp : s0.p ≤ J.N) : ∀ i s, J.R s0 i = some s → ∃ t, K.R t0 i = some t ∧ Sim (max i (ord J.kind)) s t ∧ s.p ≤ J.N
  | 0, s, hr => by
    simp only [Job.R, Option.some.injEq] at hr ⊢
    subst hr
    exact ⟨t0, rfl, ⟨h0.p, h0.k, fun j hj => h0.x j (by omega)⟩, hp⟩
  | i + 1, s', hr => by
    simp only [Job.R] at hr ⊢
    cases h1 : J.R s0 i with
    | none => rw [h1] at hr; cases hr
    | some s =>
      obtain ⟨t, e1, m1, p1⟩ := h.R h0 hp i s h1
      rw [h1, Option.bind_some] at hr
      rw [e1, Option.bind_some, h.size]
      by_cases hm : i % J.size = 0
      · rw [if_pos hm] at hr ⊢
        cases h2 : J.rdK s with
        | none => rw [h2] at hr; cases hr
        | some s2 =>
          obtain ⟨t2, e2, m2, p2⟩ := h.rdK' m1 h2
          rw [h2, Option.bind_some] at hr
          rw [e2, Option.bind_some]
          exact h.plc m2 p2 hr
      · rw [if_neg hm, Option.bind_some] at hr ⊢
        exact h.plc m1 p1 hr
theorem restsSt_ext {b b' : Nat → Bool} {N M d kind : Nat} {a c : Int} {n p : Nat} {x0 y0 : Nat → Int} {s : St} (h : Agree b b' N) (hNM : N ≤ M) (hxy : ∀ j, j < ord kind → y0 j = x0 j) (hr : restsSt b N d kind a c n p x0 = some s) :
    ∃ t, restsSt b' M d kind a c n p y0 = some t ∧ Sim (max n (ord kind)) s t ∧ s.p ≤ N := by
  unfold restsSt at hr
  split at hr
  · rename_i hh
    have e := num_ext h (p := p) (k := 2) hh.1
    unfold restsSt
    rw [← e, if_pos ⟨by omega, hh.2⟩]
    exact JobExt.R (J := theJob b N d kind a c n p) (K := theJob b' M d kind a c n p) ⟨h, hNM, rfl, rfl, rfl, rfl, by unfold theJob; rw [e]⟩ (s0 := ⟨p + 2, 0, x0⟩) (t0 := ⟨p + 2, 0, y0⟩) ⟨rfl, rfl, hxy⟩ (show p + 2 ≤ N from hh.1) n s hr
  · cases hr
/-- what is read of a text is read of every longer one that agrees with it -/
theorem bodySt_ext {b b' : Nat → Bool} {N M kind d n p : Nat} {r : (Nat → Int) × Nat} (h : Agree b b' N) (hNM : N ≤ M) (hr : bodySt b N kind d n p = some r) : ∃ r', bodySt b' M kind d n p = some r' ∧ r'.2 = r.2 ∧ r.2 ≤ N := by
  unfold bodySt at hr ⊢
  by_cases h0 : kind = 0
  · rw [if_pos h0] at hr ⊢
    split at hr
    · rename_i hh
      simp only [Option.some.injEq] at hr
      subst hr
      rw [if_pos (by omega)]
      exact ⟨_, rfl, rfl, hh⟩
    · cases hr
  · rw [if_neg h0] at hr ⊢
    by_cases h1 : kind = 1
    · rw [if_pos h1] at hr ⊢
      split at hr
      · rename_i hh
        simp only [Option.some.injEq] at hr
        subst hr
        rw [if_pos (by omega)]
        exact ⟨_, rfl, rfl, hh⟩
      · cases hr
    · rw [if_neg h1] at hr ⊢
      split at hr
      · cases hr
      · rename_i h2
        rw [if_neg h2]
        split at hr
        · rename_i h3
          rw [if_pos (by omega)]
          have hx : ∀ i, i < ord kind → sgn b' (posn p d i) d = sgn b (posn p d i) d := fun i hi => (sgn_ext h (by
            have := posn_le p d (show i + 1 ≤ ord kind from hi)
            rw [posn_succ] at this
            omega)).symm
          by_cases h7 : kind = 7
          · rw [if_pos h7] at hr ⊢
            split at hr
            · rename_i h4
              rw [if_pos (by omega), ← sgn_ext h (p := posn p d (ord kind)) (k := 6) (by omega), ← sgn_ext h (p := posn p d (ord kind) + 6) (k := 6) (by omega)]
              obtain ⟨s, hs, rfl⟩ := Option.map_eq_some_iff.1 hr
              obtain ⟨t, ht, hsim, hsp⟩ := restsSt_ext h hNM hx hs
              exact ⟨(t.x, t.p), by rw [ht]; rfl, hsim.p, hsp⟩
            · cases hr
          · rw [if_neg h7] at hr ⊢
            obtain ⟨s, hs, rfl⟩ := Option.map_eq_some_iff.1 hr
            obtain ⟨t, ht, hsim, hsp⟩ := restsSt_ext h hNM hx hs
            exact ⟨(t.x, t.p), by rw [ht]; rfl, hsim.p, hsp⟩
        · cases hr
theorem readSt_ext {b b' : Nat → Bool} {N M width n : Nat} {r : (Nat → Int) × Nat} (h : Agree b b' N) (hNM : N ≤ M) (hr : readSt b N width n = some r) : ∃ r', readSt b' M width n = some r' ∧ r'.2 = r.2 ∧ r.2 ≤ N := by
  unfold readSt at hr
  split at hr
  · rename_i hh
    obtain ⟨s, hs, rfl⟩ := Option.map_eq_some_iff.1 hr
    have e0 := num_ext h (p := 0) (k := 4) (by omega)
    have e4 := num_ext h (p := 4) (k := 4) (by omega)
    obtain ⟨t, ht, h1, h2⟩ := bodySt_ext h hNM hs
    unfold readSt
    rw [← e0, ← e4, if_pos ⟨by omega, hh.2⟩, ht]
    exact ⟨_, rfl, h1, h2⟩
  · cases hr
/-- so a text whose reading takes all of it is refused without its last bit -/
theorem readSt_cut {b b' : Nat → Bool} {N width n : Nat} {r : (Nat → Int) × Nat} (hr : readSt b' (N + 1) width n = some r) (h2 : r.2 = N + 1) (h : Agree b b' N) : readSt b N width n = none := by
  cases e : readSt b N width n with
  | none => rfl
  | some q =>
    obtain ⟨r', h3, h4, h5⟩ := readSt_ext h (Nat.le_succ N) e
    rw [hr] at h3
    obtain rfl := Option.some.inj h3
    omega

/-- a text stands at a place -/
def SaysT (b : Nat → Bool) (p : Nat) (T : List UInt8) : Prop := ∀ i (h : i < T.length), T[i] = ltr (b (p + i))
theorem SaysT.left {b : Nat → Bool} {p : Nat} {T U : List UInt8} (h : SaysT b p (T ++ U)) : SaysT b p T := fun i hi => by
  have := h i (by rw [List.length_append]; omega)
  rw [List.getElem_append_left hi] at this
  exact this
theorem SaysT.right {b : Nat → Bool} {p : Nat} {T U : List UInt8} (h : SaysT b p (T ++ U)) : SaysT b (p + T.length) U := fun i hi => by
  have := h (T.length + i) (by rw [List.length_append]; omega)
  rw [List.getElem_append_right (by omega)] at this
  simp only [Nat.add_sub_cancel_left] at this
  rw [this, Nat.add_assoc]
theorem ltr_inj {a b : Bool} (h : ltr a = ltr b) : a = b := by cases a <;> cases b <;> first | rfl | (exact absurd h (by decide))
theorem bin_says {b : Nat → Bool} {p : Nat} {v : Int} {k : Nat} (h : SaysT b p (binT v k)) (i : Nat) (hi : i < k) : b (p + i) = decide (v / 2 ^ (k - 1 - i) % 2 = 1) := by
  have := h i (by rw [binT_length]; exact hi)
  unfold binT at this
  simp only [List.getElem_map, List.getElem_range] at this
  exact (ltr_inj this).symm
/-- the number of bits of v -/
theorem emod_two_mul (v : Int) (k : Nat) : v % (2 * 2 ^ k) = v % 2 + 2 * (v / 2 % 2 ^ k) := by
  have hp : (0 : Int) < 2 ^ k := by
    have h : 0 < 2 ^ k := Nat.two_pow_pos k
    have e : ((2 ^ k : Nat) : Int) = (2 : Int) ^ k := by simp
    omega
  have h1 := Int.emod_add_mul_ediv v 2
  have h2 := Int.emod_add_mul_ediv (v / 2) (2 ^ k)
  have h3 := Int.emod_nonneg (v / 2) (Int.ne_of_gt hp)
  have h4 := Int.emod_lt_of_pos (v / 2) hp
  have e : v = (v % 2 + 2 * (v / 2 % 2 ^ k)) + (2 * 2 ^ k) * (v / 2 / 2 ^ k) := by
    rw [Int.mul_assoc]; omega
  have h5 : (v % 2 + 2 * (v / 2 % 2 ^ k)) % (2 * 2 ^ k) = v % 2 + 2 * (v / 2 % 2 ^ k) := Int.emod_eq_of_lt (by omega) (by omega)
  calc v % (2 * 2 ^ k) = ((v % 2 + 2 * (v / 2 % 2 ^ k)) + (2 * 2 ^ k) * (v / 2 / 2 ^ k)) % (2 * 2 ^ k) := by rw [← e]
    _ = (v % 2 + 2 * (v / 2 % 2 ^ k)) % (2 * 2 ^ k) := Int.add_mul_emod_self_left _ _ _
    _ = _ := h5
theorem bitsNum_bin (v : Int) : ∀ k (f : Nat → Bool), (∀ i, i < k → f i = decide (v / 2 ^ (k - 1 - i) % 2 = 1)) → (bitsNum f k : Int) = v % 2 ^ k
  | 0, f, _ => by simp [bitsNum, Int.emod_one]
  | k + 1, f, h => by
    have ih := bitsNum_bin (v / 2) k f (fun i hi => by
      rw [h i (by omega)]
      congr 2
      have e : k + 1 - 1 - i = (k - 1 - i) + 1 := by omega
      rw [e, Int.pow_succ, Int.mul_comm, ← Int.ediv_ediv_of_nonneg (by omega)])
    have hl := h k (by omega)
    simp only [Nat.add_sub_cancel, Nat.sub_self, Int.pow_zero, Int.ediv_one] at hl
    simp only [bitsNum]
    rw [hl]
    have e2 : (2 : Int) ^ (k + 1) = 2 * 2 ^ k := by rw [Int.pow_succ, Int.mul_comm]
    have e3 : v % (2 * 2 ^ k) = v % 2 + 2 * (v / 2 % 2 ^ k) := emod_two_mul v k
    rw [e2, e3, ← ih]
    by_cases h1 : v % 2 = 1
    · simp [h1]; omega
    · have h0 : v % 2 = 0 := by omega
      simp [h0]
end Go.Proofs.YtlncjgnomhpjnaaGreatDoor

/-
  Plain mathematics for 'Tight': what was laid down is read back.
-/
namespace Go.Proofs.YtlncjgnomhpjnaaGreatDoor
set_option linter.unusedVariables false

theorem num_bin {b : Nat → Bool} {p : Nat} {v : Int} {k : Nat} (h : SaysT b p (binT v k)) : (num b p k : Int) = v % 2 ^ k := bitsNum_bin v k _ (fun i hi => bin_says h i hi)
theorem num_binN {b : Nat → Bool} {p v k : Nat} (h : SaysT b p (binT v k)) (hv : v < 2 ^ k) : num b p k = v := by
  have e := num_bin h
  have e2 : ((2 ^ k : Nat) : Int) = (2 : Int) ^ k := by simp
  rw [Int.emod_eq_of_lt (by omega) (by rw [← e2]; omega)] at e
  omega
theorem sgn_bin {b : Nat → Bool} {p : Nat} {v : Int} {k : Nat} (h : SaysT b p (binT v k)) (hk : 1 ≤ k) (hf : fitsB k v = true) : sgn b p k = v := by
  have e := num_bin h
  unfold fitsB at hf
  rw [within_iff] at hf
  obtain ⟨m, rfl⟩ : ∃ m, k = m + 1 := ⟨k - 1, by omega⟩
  have e2 : ((2 ^ m : Nat) : Int) = (2 : Int) ^ m := by simp
  have hp : 0 < 2 ^ m := Nat.two_pow_pos m
  have e3 : (2 : Int) ^ (m + 1) = 2 * 2 ^ m := by rw [Int.pow_succ, Int.mul_comm]
  unfold sgn
  simp only [Nat.add_sub_cancel] at hf ⊢
  rw [e3] at e ⊢
  rw [← e2] at e hf ⊢
  generalize 2 ^ m = q at *
  by_cases h0 : 0 ≤ v
  · rw [Int.emod_eq_of_lt h0 (by omega)] at e
    rw [if_neg (by omega)]; exact e
  · have e4 : v % (2 * (q : Int)) = v + 2 * q := by
      rw [← Int.add_mul_emod_self_left v (2 * (q : Int)) 1, Int.mul_one]
      exact Int.emod_eq_of_lt (by omega) (by omega)
    rw [e4] at e
    rw [if_pos (by omega)]; omega
theorem unf_fold (v : Int) : unf (foldN v) = v := by
  have h := foldN_int v
  unfold unf
  split at h
  · rw [if_pos (by omega)]; omega
  · rw [if_neg (by omega)]; omega
theorem rice_back {b : Nat → Bool} {N p f k : Nat} (h : SaysT b p (riceT f k)) (hN : p + riceL f k ≤ N) : rice b N k p = some (unf f, p + riceL f k) := by
  unfold riceT at h
  have h1 := h.left.left
  have h2 := h.left.right
  have h3 := h.right
  rw [List.length_replicate] at h2
  rw [List.length_append, List.length_replicate] at h3
  unfold riceL at hN
  have hz : zrun b (N - p) p = f / 2 ^ k := by
    refine zrun_eq b (N - p) p _ (by omega) (fun i hi => ?_) (fun _ => ?_)
    · have := h1 i (by rw [List.length_replicate]; exact hi)
      rw [List.getElem_replicate] at this
      exact (ltr_inj (show ltr false = _ from this)).symm
    · have := h2 0 (by simp)
      rw [Nat.add_zero] at this
      exact (ltr_inj (show ltr true = _ from this)).symm
  have hn : num b (p + f / 2 ^ k + 1) k = f % 2 ^ k := by
    have e := num_bin (b := b) (p := p + f / 2 ^ k + 1) (v := (f : Int)) (k := k) (by rw [Nat.add_assoc]; exact h3)
    have e2 : ((2 ^ k : Nat) : Int) = (2 : Int) ^ k := by simp
    rw [← e2] at e
    omega
  unfold rice
  rw [hz, if_pos (by omega), hn]
  congr 2
  · congr 1
    have := Nat.div_add_mod f (2 ^ k)
    rw [Nat.mul_comm] at this
    exact this
  · unfold riceL; omega
end Go.Proofs.YtlncjgnomhpjnaaGreatDoor

/-
  Plain mathematics for 'Tight': the rests are read back.
-/
namespace Go.Proofs.YtlncjgnomhpjnaaGreatDoor
set_option linter.unusedVariables false

theorem coded_at {b : Nat → Bool} {p k lo : Nat} {f : Nat → Nat} : ∀ {m j : Nat}, SaysT b p (codedT f k lo m) → j < m → SaysT b (p + plen f k lo j) (riceT (f (lo + j)) k)
  | 0, j, _, hj => absurd hj (Nat.not_lt_zero j)
  | m + 1, j, h, hj => by
    simp only [codedT] at h
    by_cases e : j = m
    · subst e
      have := h.right
      rw [codedT_length] at this
      exact this
    · exact coded_at h.left (by omega)
theorem parts_at {b : Nat → Bool} {p o sz : Nat} {f : Nat → Nat} : ∀ {m q : Nat}, SaysT b p (partsT f o sz m) → q < m → SaysT b (p + partsL f o sz q) (binT (parN f o sz q) 4 ++ codedT f (parN f o sz q) (ploN o sz q) (pcnt o sz q))
  | 0, q, _, hq => absurd hq (Nat.not_lt_zero q)
  | m + 1, q, h, hq => by
    simp only [partsT] at h
    by_cases e : q = m
    · subst e
      have := h.right
      rw [partsT_length] at this
      exact this
    · exact parts_at h.left (by omega)
theorem plen_mono (f : Nat → Nat) (k lo : Nat) {i : Nat} : ∀ {j : Nat}, i ≤ j → plen f k lo i ≤ plen f k lo j
  | 0, h => by have : i = 0 := by omega
               subst this; exact Nat.le_refl _
  | j + 1, h => by
    by_cases e : i = j + 1
    · subst e; exact Nat.le_refl _
    · have := plen_mono f k lo (i := i) (j := j) (by omega)
      simp only [plen]; omega

/-- what holds behind i places -/
structure At (s : St) (p m : Nat) (x : Nat → Int) : Prop where
  p : s.p = p
  x : ∀ j, j < m → s.x j = x j

section
variable (J : Job) (x : Nat → Int) (n P p0 : Nat) (f : Nat → Nat)
variable (hN : n = J.size * P) (ho : ord J.kind < J.size) (hfit : ∀ j, j < n → fitsB J.w (x j) = true) (hf : ∀ i, f i = foldN (x i - guessG J.kind J.a J.c x i))
variable (hT : SaysT J.b p0 (partsT f (ord J.kind) J.size P)) (hL : p0 + partsL f (ord J.kind) J.size P ≤ J.N)

theorem part_back (s0 s : St) (q : Nat) (hq : q < P) (hR : J.R s0 (q * J.size) = some s) (hs : At s (p0 + partsL f (ord J.kind) J.size q) (max (q * J.size) (ord J.kind)) x)
    (hfit : ∀ j, j < n → fitsB J.w (x j) = true) (hN : n = J.size * P) (hf : ∀ i, f i = foldN (x i - guessG J.kind J.a J.c x i)) (hT : SaysT J.b p0 (partsT f (ord J.kind) J.size P)) (hL : p0 + partsL f (ord J.kind) J.size P ≤ J.N) (ho : ord J.kind < J.size) :
    ∀ t, t ≤ J.size → ∃ s', J.U s0 (q * J.size) t = some s' ∧ s'.k = parN f (ord J.kind) J.size q ∧
      At s' (p0 + partsL f (ord J.kind) J.size q + 4 + plen f (parN f (ord J.kind) J.size q) (ploN (ord J.kind) J.size q) (q * J.size + t - ploN (ord J.kind) J.size q)) (max (q * J.size + t) (ord J.kind)) x := by
  have hpart := parts_at hT hq
  have hK := hpart.left
  have hC := hpart.right
  rw [binT_length] at hC
  have hK14 : parN f (ord J.kind) J.size q ≤ 14 := parK_le _ _ _
  have hmono := partsL_mono f (ord J.kind) J.size (i := q + 1) (j := P) hq
  have hsucc : partsL f (ord J.kind) J.size (q + 1) = partsL f (ord J.kind) J.size q + (4 + plen f (parN f (ord J.kind) J.size q) (ploN (ord J.kind) J.size q) (pcnt (ord J.kind) J.size q)) := rfl
  have hqn : (q + 1) * J.size ≤ n := by
    rw [hN, Nat.mul_comm J.size P]; exact Nat.mul_le_mul_right _ hq
  have hq1 : (q + 1) * J.size = q * J.size + J.size := Nat.succ_mul _ _
  have hpc : pcnt (ord J.kind) J.size q = q * J.size + J.size - ploN (ord J.kind) J.size q := by unfold pcnt; rw [hq1]
  have hlo : ploN (ord J.kind) J.size q = max (q * J.size) (ord J.kind) := rfl
  generalize parN f (ord J.kind) J.size q = K at *
  generalize ploN (ord J.kind) J.size q = lo at *
  generalize partsL f (ord J.kind) J.size q = L0 at *
  intro t
  induction t with
  | zero =>
    intro _
    refine ⟨⟨s.p + 4, K, s.x⟩, ?_, rfl, ⟨?_, hs.x⟩⟩
    · simp only [Job.U]
      rw [hR, Option.bind_some]
      unfold Job.rdK
      have hn : num J.b s.p 4 = K := by rw [hs.p]; exact num_binN hK (by omega)
      rw [hn, if_pos ⟨by rw [hs.p]; omega, hK14⟩]
    · show s.p + 4 = _
      rw [hs.p, show q * J.size + 0 - lo = 0 by omega]; rfl
  | succ t ih =>
    intro ht
    obtain ⟨s', hU, hk, hat⟩ := ih (by omega)
    simp only [Job.U]
    rw [hU, Option.bind_some]
    by_cases hi : q * J.size + t < ord J.kind
    · refine ⟨s', ?_, hk, ⟨?_, fun j hj => hat.x j (by omega)⟩⟩
      · unfold Job.plc; rw [if_pos hi]
      · rw [hat.p]; congr 2; omega
    · have hin : q * J.size + t < n := by omega
      have e1 : lo + (q * J.size + t - lo) = q * J.size + t := by omega
      have hrs := coded_at hC (j := q * J.size + t - lo) (by omega)
      rw [e1] at hrs
      have hpl : plen f K lo (q * J.size + (t + 1) - lo) = plen f K lo (q * J.size + t - lo) + riceL (f (q * J.size + t)) K := by
        rw [show q * J.size + (t + 1) - lo = (q * J.size + t - lo) + 1 by omega]
        simp only [plen]; rw [e1]
      have hple := plen_mono f K lo (i := q * J.size + (t + 1) - lo) (j := pcnt (ord J.kind) J.size q) (by omega)
      have hrice : rice J.b J.N s'.k s'.p = some (unf (f (q * J.size + t)), s'.p + riceL (f (q * J.size + t)) K) := by
        rw [hk, hat.p]
        exact rice_back hrs (by omega)
      have hg : guessG J.kind J.a J.c s'.x (q * J.size + t) = guessG J.kind J.a J.c x (q * J.size + t) := guessG_ext (fun j hj => hat.x j (by omega)) (by omega)
      have hv : guessG J.kind J.a J.c s'.x (q * J.size + t) + unf (f (q * J.size + t)) = x (q * J.size + t) := by
        rw [hg, hf, unf_fold]; omega
      refine ⟨⟨s'.p + riceL (f (q * J.size + t)) K, s'.k, updI s'.x (q * J.size + t) (x (q * J.size + t))⟩, ?_, hk, ⟨?_, fun j hj => ?_⟩⟩
      · rw [Job.plc_yes hi hrice (by rw [hv]; exact hfit _ hin), hv]
      · show s'.p + _ = _
        rw [hat.p, hpl]; omega
      · show updI _ _ _ j = x j
        unfold updI
        by_cases e : j = q * J.size + t
        · rw [if_pos e, e]
        · rw [if_neg e]; exact hat.x j (by omega)

theorem rests_back (s0 : St) (h0 : At s0 p0 (ord J.kind) x) (hN : n = J.size * P) (ho : ord J.kind < J.size) (hfit : ∀ j, j < n → fitsB J.w (x j) = true) (hf : ∀ i, f i = foldN (x i - guessG J.kind J.a J.c x i))
    (hT : SaysT J.b p0 (partsT f (ord J.kind) J.size P)) (hL : p0 + partsL f (ord J.kind) J.size P ≤ J.N) :
    ∀ q, q ≤ P → ∃ s, J.R s0 (q * J.size) = some s ∧ At s (p0 + partsL f (ord J.kind) J.size q) (max (q * J.size) (ord J.kind)) x := by
  intro q
  induction q with
  | zero =>
    intro _
    refine ⟨s0, by rw [Nat.zero_mul]; rfl, ⟨h0.p, fun j hj => h0.x j (by omega)⟩⟩
  | succ q ih =>
    intro hq
    obtain ⟨s, hR, hs⟩ := ih (by omega)
    obtain ⟨s', hU, _, hat⟩ := part_back J x n P p0 f s0 s q (by omega) hR hs hfit hN hf hT hL ho J.size (Nat.le_refl _)
    rw [J.U_eq s0 (q * J.size) (Nat.mul_mod_left _ _) J.size (by omega) (Nat.le_refl _)] at hU
    have e : (q + 1) * J.size = q * J.size + J.size := Nat.succ_mul _ _
    refine ⟨s', by rw [e]; exact hU, ⟨?_, fun j hj => hat.x j (by omega)⟩⟩
    rw [hat.p]
    have hsucc : partsL f (ord J.kind) J.size (q + 1) = partsL f (ord J.kind) J.size q + (4 + plen f (parN f (ord J.kind) J.size q) (ploN (ord J.kind) J.size q) (pcnt (ord J.kind) J.size q)) := rfl
    have hpc : pcnt (ord J.kind) J.size q = q * J.size + J.size - ploN (ord J.kind) J.size q := by unfold pcnt; rw [e]
    rw [hsucc, hpc]; omega
end
end Go.Proofs.YtlncjgnomhpjnaaGreatDoor

/-
  Plain mathematics for 'Tight': a subframe is read back.
-/
namespace Go.Proofs.YtlncjgnomhpjnaaGreatDoor
set_option linter.unusedVariables false

theorem nums_at {b : Nat → Bool} {p w : Nat} {x : Nat → Int} : ∀ {m j : Nat}, SaysT b p (numsT x w m) → j < m → SaysT b (posn p w j) (binT (x j) w)
  | 0, j, _, hj => absurd hj (Nat.not_lt_zero j)
  | m + 1, j, h, hj => by
    simp only [numsT] at h
    by_cases e : j = m
    · subst e
      have := h.right
      rw [numsT_length] at this
      exact this
    · exact nums_at h.left (by omega)
theorem bestK_zero (w : Nat) (x : Nat → Int) (n : Nat) : ∀ j, bestK w x n j = 0 → allSame x n = true
  | 0, h => by
    unfold bestK at h
    cases e : allSame x n with
    | true => rfl
    | false => rw [e] at h; simp at h
  | j + 1, h => by
    unfold bestK at h
    split at h
    · omega
    · exact bestK_zero w x n j h
theorem short_mul (l : Nat → Int) (n width j : Nat) (hj : j < n) : shortX l n width j * 2 ^ shiftN l n width = l j :=
  Int.ediv_mul_cancel (Int.dvd_of_emod_eq_zero (shiftT_div l n (width - 1) j hj))
theorem short_fits (l : Nat → Int) (n width j : Nat) (hw1 : 1 ≤ width) (hj : j < n) (hf : fitsB width (l j) = true) : fitsB (width - shiftN l n width) (shortX l n width j) = true := by
  have hs : shiftN l n width ≤ width - 1 := shiftT_le _ _ _
  have hm := short_mul l n width j hj
  unfold fitsB at hf ⊢
  rw [within_iff] at hf ⊢
  generalize shortX l n width j = x at *
  generalize shiftN l n width = s at *
  have e : (2 : Int) ^ (width - 1) = 2 ^ (width - s - 1) * 2 ^ s := by rw [← Int.pow_add]; congr 1; omega
  have hp := ip2_pos s
  rw [e, ← hm] at hf
  generalize (2 : Int) ^ (width - s - 1) = q at *
  generalize (2 : Int) ^ s = r at *
  constructor
  · have h1 : -q * r ≤ x * r := by rw [Int.neg_mul]; exact hf.1
    exact Int.le_of_mul_le_mul_right h1 hp
  · have h1 : x * r < q * r := by omega
    have := Int.lt_of_mul_lt_mul_right h1 (Int.le_of_lt hp)
    omega

theorem body_back {b : Nat → Bool} {N kind W n p : Nat} {x : Nat → Int} (h7 : kind ≤ 7) (hn1 : 1 ≤ n) (hW1 : 1 ≤ W) (hW : W ≤ 13) (hfit : ∀ j, j < n → fitsB W (x j) = true) (h0 : kind = 0 → allSame x n = true) (hok : 2 ≤ kind → okG kind x n = true)
    (hT : SaysT b p (bodyT kind W x n)) (hL : p + bodyL kind W x n ≤ N) : ∃ r, bodySt b N kind W n p = some r ∧ r.2 = p + bodyL kind W x n ∧ ∀ j, j < n → r.1 j = x j := by
  unfold bodySt
  unfold bodyT at hT
  unfold bodyL at hL ⊢
  by_cases k0 : kind = 0
  · rw [if_pos k0] at hT hL ⊢
    rw [if_pos k0, if_pos hL]
    refine ⟨_, rfl, rfl, fun j hj => ?_⟩
    show sgn b p W = x j
    rw [sgn_bin hT hW1 (hfit 0 (by omega)), (allSame_iff x n).1 (h0 k0) j hj]
  · rw [if_neg k0] at hT hL ⊢
    rw [if_neg k0]
    by_cases k1 : kind = 1
    · rw [if_pos k1] at hT hL ⊢
      rw [if_pos k1, if_pos (show posn p W n ≤ N from hL)]
      exact ⟨_, rfl, rfl, fun j hj => sgn_bin (nums_at hT hj) hW1 (hfit j hj)⟩
    · rw [if_neg k1] at hT hL ⊢
      have h2 : 2 ≤ kind := by omega
      have hg := hok h2
      have hon : ord kind < n := by unfold okG at hg; rw [Bool.and_eq_true, decide_eq_true_eq] at hg; exact hg.1
      rw [if_neg k1, if_neg (by omega)]
      unfold gT at hT
      unfold gL at hL ⊢
      have hx := hT.left
      have hr := hT.right
      rw [numsT_length] at hr
      rw [if_pos (show posn p W (ord kind) ≤ N by unfold posn; omega)]
      have hxs : ∀ j, j < ord kind → sgn b (posn p W j) W = x j := fun j hj => sgn_bin (nums_at hx hj) hW1 (hfit j (by omega))
      have hbc := bestC_le (fR kind x n) (ord kind) n 3
      have hcok := bestC_ok (fR kind x n) (ord kind) n hon 3
      have key : ∀ (a c : Int) (p2 : Nat), a = wA kind x n → c = wB kind x n → SaysT b p2 (cutT (fR kind x n) (ord kind) n (bC kind x n)) → p2 + cutL (fR kind x n) (ord kind) n (bC kind x n) ≤ N →
          ∃ st, restsSt b N W kind a c n p2 (fun i => sgn b (posn p W i) W) = some st ∧ st.p = p2 + cutL (fR kind x n) (ord kind) n (bC kind x n) ∧ ∀ j, j < n → st.x j = x j := by
        intro a c p2 ha hc hcut hcl
        unfold cutT at hcut
        unfold cutL at hcl ⊢
        have hb2 := hcut.left
        have hpt := hcut.right
        rw [binT_length] at hpt
        have hnum : num b p2 2 = bC kind x n := num_binN hb2 (show bestC (fR kind x n) (ord kind) n 3 < 2 ^ 2 from Nat.lt_of_le_of_lt hbc (by decide))
        have hcf := cut_facts (show cutB n (ord kind) (bC kind x n) = true from hcok)
        unfold restsSt
        rw [hnum, if_pos ⟨by omega, hcok⟩]
        have hJs : (theJob b N W kind a c n p2).size = n / 2 ^ bC kind x n := by show n / 2 ^ num b p2 2 = _; rw [hnum]
        obtain ⟨st, hst, hat⟩ := rests_back (theJob b N W kind a c n p2) x n (2 ^ bC kind x n) (p2 + 2) (fR kind x n) ⟨p2 + 2, 0, fun i => sgn b (posn p W i) W⟩ ⟨rfl, hxs⟩
          (by rw [hJs]; exact hcf.1.symm) (by rw [hJs]; exact hcf.2) hfit (fun i => by show fR kind x n i = foldN (x i - guessG kind a c x i); rw [ha, hc]; rfl) (by rw [hJs]; exact hpt) (by rw [hJs]; show _ ≤ N; simp only [theJob]; omega) (2 ^ bC kind x n) (Nat.le_refl _)
        rw [hJs] at hst hat
        have e : 2 ^ bC kind x n * (n / 2 ^ bC kind x n) = n := by rw [Nat.mul_comm]; exact hcf.1
        rw [e] at hst hat
        exact ⟨st, hst, by rw [hat.p]; simp only [theJob]; omega, fun j hj => hat.x j (by simp only [theJob]; omega)⟩
      by_cases k7 : kind = 7
      · rw [if_pos k7] at hr hL ⊢
        rw [if_pos k7, if_pos (by unfold posn; omega)]
        have ha := hr.left.left
        have hb := hr.left.right
        have hc := hr.right
        rw [binT_length] at hb
        rw [List.length_append, binT_length, binT_length] at hc
        have hab := clamp_bd (8 * lag x 1 n * (lag x 0 n - lag x 2 n) / leanD x n)
        have hbb := clamp_bd (8 * (lag x 0 n * lag x 2 n - lag x 1 n * lag x 1 n) / leanD x n)
        have fa : fitsB 6 (leanA x n) = true := by unfold fitsB leanA; rw [within_iff]; omega
        have fb : fitsB 6 (leanB x n) = true := by unfold fitsB leanB; rw [within_iff]; omega
        obtain ⟨st, hst, hp, hxx⟩ := key (sgn b (posn p W (ord kind)) 6) (sgn b (posn p W (ord kind) + 6) 6) (posn p W (ord kind) + 12)
          (by rw [show wA kind x n = leanA x n from if_pos k7]; exact sgn_bin ha (by omega) fa) (by rw [show wB kind x n = leanB x n from if_pos k7]; exact sgn_bin hb (by omega) fb) hc (by unfold posn; omega)
        rw [hst]
        exact ⟨_, rfl, by show st.p = _; rw [hp]; unfold posn; omega, hxx⟩
      · rw [if_neg k7] at hr hL ⊢
        rw [if_neg k7]
        rw [List.nil_append] at hr
        obtain ⟨st, hst, hp, hxx⟩ := key 0 0 (posn p W (ord kind)) (if_neg k7).symm (if_neg k7).symm hr (by unfold posn; omega)
        rw [hst]
        exact ⟨_, rfl, by show st.p = _; rw [hp]; unfold posn; omega, hxx⟩

theorem subT_length (width : Nat) (l : Nat → Int) (n : Nat) : (subT width l n).length = 8 + bodyL (subKind width l n) (width - shiftN l n width) (shortX l n width) n := by
  unfold subT
  rw [List.length_append, List.length_append, binT_length, binT_length, bodyT_length]; omega
/-- a subframe is read as its samples, whatever stands behind it -/
theorem sub_back {b : Nat → Bool} {N width n : Nat} {l : Nat → Int} (hn1 : 1 ≤ n) (hw1 : 1 ≤ width) (hw : width ≤ 13) (hfit : ∀ j, j < n → fitsB width (l j) = true) (hT : SaysT b 0 (subT width l n)) (hL : (subT width l n).length ≤ N) :
    ∃ r, readSt b N width n = some r ∧ r.2 = (subT width l n).length ∧ ∀ j, j < n → r.1 j = l j := by
  have hs : shiftN l n width ≤ width - 1 := shiftT_le _ _ _
  have hk := bestK_le (width - shiftN l n width) (shortX l n width) n 6
  rw [subT_length] at hL ⊢
  unfold subT at hT
  have t1 := hT.left
  have t2 := hT.right.left
  have t3 := hT.right.right
  rw [binT_length] at t2 t3
  rw [binT_length] at t3
  have e1 : num b 0 4 = subKind width l n := num_binN t1 (Nat.lt_of_le_of_lt hk (by decide))
  have e2 : num b 4 4 = shiftN l n width := num_binN t2 (by omega)
  obtain ⟨r, h1, h2, h3⟩ := body_back (b := b) (N := N) (kind := subKind width l n) (W := width - shiftN l n width) (n := n) (p := 8) (x := shortX l n width) hk hn1 (by omega) (by omega) (fun j hj => short_fits l n width j hw1 hj (hfit j hj)) (fun h => bestK_zero _ _ _ _ h) (fun h => bestK_ok _ _ _ _ h) t3 hL
  unfold readSt
  rw [e1, e2, if_pos ⟨by omega, by omega⟩, h1]
  exact ⟨_, rfl, h2, fun j hj => by show r.1 j * 2 ^ _ = l j; rw [h3 j hj]; exact short_mul l n width j hj⟩
/-- and it is no longer than the samples, each in its width -/
theorem bestK_plain (w : Nat) (x : Nat → Int) (n : Nat) (hn1 : 1 ≤ n) : ∀ j, bodyL (bestK w x n j) w x n ≤ n * w
  | 0 => by
    unfold bestK
    split
    · show w ≤ n * w
      exact Nat.le_mul_of_pos_left _ hn1
    · exact Nat.le_refl _
  | j + 1 => by
    have ih := bestK_plain w x n hn1 j
    unfold bestK
    split
    · rename_i h; omega
    · exact ih
theorem subT_le (width : Nat) (l : Nat → Int) (n : Nat) (hn1 : 1 ≤ n) : (subT width l n).length ≤ 8 + n * width := by
  rw [subT_length]
  have h := bestK_plain (width - shiftN l n width) (shortX l n width) n hn1 6
  have h2 : n * (width - shiftN l n width) ≤ n * width := Nat.mul_le_mul_left _ (by omega)
  unfold subKind
  omega
end Go.Proofs.YtlncjgnomhpjnaaGreatDoor

/-
  Texts of bits for 'Tight'; what it calls of its own package.
-/
namespace Go.Proofs.YtlncjgnomhpjnaaGreatDoor
open Go.RowKit Go.Deep
set_option linter.unusedVariables false

def AllB (T : List UInt8) : Prop := ∀ c ∈ T, c = 48 ∨ c = 49
theorem AllB.append {T U : List UInt8} (h : AllB T) (k : AllB U) : AllB (T ++ U) := fun c hc => by
  rcases List.mem_append.1 hc with h1 | h1
  · exact h c h1
  · exact k c h1
theorem ltr_bit (b : Bool) : ltr b = 48 ∨ ltr b = 49 := by cases b <;> simp [ltr]
theorem binT_bits (v : Int) (k : Nat) : AllB (binT v k) := fun c hc => by
  unfold binT at hc
  obtain ⟨i, _, rfl⟩ := List.mem_map.1 hc
  exact ltr_bit _
theorem riceT_bits (f k : Nat) : AllB (riceT f k) := by
  unfold riceT
  refine AllB.append (AllB.append (fun c hc => ?_) (fun c hc => ?_)) (binT_bits _ _)
  · exact .inl (List.eq_of_mem_replicate hc)
  · exact .inr (by simpa using hc)
theorem codedT_bits (f : Nat → Nat) (k lo : Nat) : ∀ m, AllB (codedT f k lo m)
  | 0 => fun c hc => by cases hc
  | m + 1 => (codedT_bits f k lo m).append (riceT_bits _ _)
theorem partsT_bits (f : Nat → Nat) (o sz : Nat) : ∀ m, AllB (partsT f o sz m)
  | 0 => fun c hc => by cases hc
  | m + 1 => (partsT_bits f o sz m).append ((binT_bits _ _).append (codedT_bits _ _ _ _))
theorem numsT_bits (x : Nat → Int) (w : Nat) : ∀ m, AllB (numsT x w m)
  | 0 => fun c hc => by cases hc
  | m + 1 => (numsT_bits x w m).append (binT_bits _ _)
theorem bodyT_bits (kind w : Nat) (x : Nat → Int) (n : Nat) : AllB (bodyT kind w x n) := by
  unfold bodyT
  split
  · exact binT_bits _ _
  · split
    · exact numsT_bits _ _ _
    · unfold gT cutT
      refine (numsT_bits _ _ _).append (AllB.append ?_ ((binT_bits _ _).append (partsT_bits _ _ _ _)))
      split
      · exact (binT_bits _ _).append (binT_bits _ _)
      · exact fun c hc => by cases hc
theorem subT_bits (width : Nat) (l : Nat → Int) (n : Nat) : AllB (subT width l n) := (binT_bits _ _).append ((binT_bits _ _).append (bodyT_bits _ _ _ _))

theorem bs_get (T : List UInt8) (j : Nat) (h : j < (bs T).size) : (bs T)[j] = T[j]'(by rw [bs_size] at h; exact h) := rfl
theorem bs_bits {T : List UInt8} (h : AllB T) : IsBitsP (bs T) := fun j hj => by
  rw [bs_get]; exact h _ (List.getElem_mem _)
theorem bitsOf_get {T : List UInt8} (h : AllB T) {j : Nat} (hj : j < T.length) : T[j] = ltr (bitsOf (bs T) j) := by
  have hs : j < (bs T).size := by rw [bs_size]; exact hj
  have := bits_of (bs_bits h) j hs
  rw [bs_get] at this
  exact this
theorem says_of {T U : List UInt8} (hT : AllB T) (hU : AllB U) : SaysT (bitsOf (bs (T ++ U))) 0 T := fun i hi => by
  have h := bitsOf_get (hT.append hU) (j := i) (by rw [List.length_append]; omega)
  rw [List.getElem_append_left hi] at h
  rw [Nat.zero_add]; exact h
/-- a text without its last bit -/
theorem agree_cut {T : List UInt8} (hT : AllB T) (N : Nat) (hN : N ≤ T.length) : Agree (bitsOf (bs (T.take N))) (bitsOf (bs T)) N := fun i hi => by
  have hT2 : AllB (T.take N) := fun c hc => hT c (List.mem_of_mem_take hc)
  have h1 := bitsOf_get hT2 (j := i) (by rw [List.length_take]; omega)
  have h2 := bitsOf_get hT (j := i) (by omega)
  rw [List.getElem_take] at h1
  exact ltr_inj (h1.symm.trans h2)
theorem tight_yes {width n N : Nat} {l : Nat → Int} {U : List UInt8} (hn1 : 1 ≤ n) (hw1 : 1 ≤ width) (hw : width ≤ 13) (hfit : ∀ j, j < n → fitsB width (l j) = true) (hU : AllB U) :
    ∃ r, readSt (bitsOf (bs (subT width l n ++ U))) (bs (subT width l n ++ U)).size width n = some r ∧ r.2 = (subT width l n).length ∧ ∀ j, j < n → r.1 j = l j :=
  sub_back hn1 hw1 hw hfit (says_of (subT_bits _ _ _) hU) (by rw [bs_size, List.length_append]; omega)
theorem tight_no {width n : Nat} {l : Nat → Int} (hn1 : 1 ≤ n) (hw1 : 1 ≤ width) (hw : width ≤ 13) (hfit : ∀ j, j < n → fitsB width (l j) = true) :
    readSt (bitsOf (bs ((subT width l n).take ((subT width l n).length - 1)))) (bs ((subT width l n).take ((subT width l n).length - 1))).size width n = none := by
  have h8 : 8 ≤ (subT width l n).length := by rw [subT_length]; omega
  obtain ⟨r, h1, h2, _⟩ := tight_yes (U := []) (N := 0) hn1 hw1 hw hfit (fun c hc => by cases hc)
  rw [List.append_nil, bs_size] at h1
  rw [bs_size, List.length_take, Nat.min_eq_left (by omega)]
  refine readSt_cut (b' := bitsOf (bs (subT width l n))) (r := r) ?_ (by omega) (agree_cut (subT_bits _ _ _) _ (by omega))
  rw [Nat.sub_add_cancel (by omega)]; exact h1

/-- which of n things a number speaks of -/
def pickV (a : Int) (n : Nat) : Nat := (if a < 0 then (-(a + 1)).toNat else a.toNat) % n
theorem pickV_lt (a : Int) (n : Nat) (h : 1 ≤ n) : pickV a n < n := Nat.mod_lt _ h
set_option maxHeartbeats 400000 in
theorem pick_any (a : Int) (n : Nat) (w : World) (hn : 1 ≤ n) (hn2 : n ≤ 100000) (ha : -9223372036854775808 ≤ a ∧ a ≤ 9223372036854775807) :
    Calls Tryz.prog 33 #[.int .i64 a, .int .i64 n] w fun e w' => e = .returned (.int .i64 (pickV a n)) ∧ w' = w := by
  have nz : ¬ (n : Int) = 0 := by omega
  by_cases h : a < 0
  · have t1 : decide (a < 0) = true := decide_eq_true h
    have HV : Hid (pickV a n = (-(a + 1)).toNat % n) := by show _ = _; unfold pickV; rw [if_pos h]
    have v1 : IntKind.i64.wrap (a + 1) = a + 1 := by rw [IntKind.wrap_i64]; omega
    have v2 : IntKind.i64.wrap (-(a + 1)) = ((-(a + 1)).toNat : Int) := by rw [IntKind.wrap_i64]; omega
    generalize (-(a + 1)).toNat = q at *
    have m1 : (q : Int).tmod (n : Int) = ((q % n : Nat) : Int) := by rw [Int.tmod_eq_emod_of_nonneg (by omega)]; simp
    have hml : q % n < n := Nat.mod_lt _ hn
    have HV2 := Hid.mk' HV.out
    generalize q % n = r at *
    go_enter Tryz.func33, Tryz.ntmps33
    go_wp2
    go_ret
    exact ⟨ret_int (by rw [HV2.out]), rfl⟩
  · have t1 : decide (a < 0) = false := decide_eq_false h
    have HV : Hid (pickV a n = a.toNat % n) := by show _ = _; unfold pickV; rw [if_neg h]
    obtain ⟨q, rfl⟩ : ∃ q : Nat, a = q := ⟨a.toNat, by omega⟩
    rw [Int.toNat_natCast] at HV
    have m1 : (q : Int).tmod (n : Int) = ((q % n : Nat) : Int) := by rw [Int.tmod_eq_emod_of_nonneg (by omega)]; simp
    have hml : q % n < n := Nat.mod_lt _ hn
    have HV2 := Hid.mk' HV.out
    generalize q % n = r at *
    go_enter Tryz.func33, Tryz.ntmps33
    go_wp2
    go_ret
    exact ⟨ret_int (by rw [HV2.out]), rfl⟩

set_option maxHeartbeats 1000000 in
theorem ksame_any (a a' : Option Addr) (n c c' : Nat) (x : Nat → Int) (w : World) (hn : n ≤ 32) (h1 : IntsAt w a n x) (h2 : IntsAt w a' n x) :
    Calls Tryz.prog 58 #[.slice a n c, .slice a' n c'] w fun e w' => e = .returned (.bool true) ∧ ∃ m, w' = w.drewN m := by
  have H1 := Hid.mk' h1
  have H2 := Hid.mk' h2
  clear h1 h2
  go_enter Tryz.func58, Tryz.ntmps58
  go_wp2
  go_loopw [5] (fun i wr => ∃ k : Nat, k ≤ n ∧ i = .int .i64 k ∧ ∃ m, wr = w.drewN m) (fun i _ => n - (intOf i).toNat)
  case atStart => exact ⟨0, Nat.zero_le _, rfl, 0, rfl⟩
  case round =>
    obtain ⟨k, hk, rfl, m, rfl⟩ := hrel
    by_cases hkn : k < n
    · obtain ⟨b1, o1, hx1, hc1⟩ := H1.out.open (by omega)
      obtain ⟨b2, o2, hx2, hc2⟩ := H2.out.open (by omega)
      cases hx1
      cases hx2
      have hd1 := hc1 k hkn
      have hd2 := hc2 k hkn
      clear hc1 hc2
      go_wp2
      go_region
      all_goals go_wp2
      go_roundw
      case rel => exact ⟨k + 1, by omega, by go_num, _, rfl⟩
      case measure => simp [intOf]; omega
    · have e : k = n := by omega
      subst e
      go_wp2
      go_ret
      exact ⟨rfl, _, rfl⟩
end Go.Proofs.YtlncjgnomhpjnaaGreatDoor

