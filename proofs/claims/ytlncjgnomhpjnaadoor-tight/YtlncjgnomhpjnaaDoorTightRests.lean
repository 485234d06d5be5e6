/-
  Plain mathematics for 'Tight': the rests are read back.
-/
import Derived.Test.YtlncjgnomhpjnaaDoorTightBack
namespace Go.Proofs.YtlncjgnomhpjnaaDoor
set_option linter.unusedVariables false

theorem coded_at {b : Nat → Bool} {p k lo : Nat} {f : Nat → Nat} : ∀ {m j : Nat}, SaysT b p (codedT f k lo m) → j < m → SaysT b (p + plen f k lo j) (riceT (f (lo + j)) k)
  | 0, j, _, hj => absurd hj (Nat.not_lt_zero j)
  | m + 1, j, h, hj => by
    simp only [codedT] at h
    by_cases e : j = m
    · subst e
      have := h.right
      rw [codedT_length] at this
      exact this
    · exact coded_at h.left (by omega)
theorem parts_at {b : Nat → Bool} {p o sz : Nat} {f : Nat → Nat} : ∀ {m q : Nat}, SaysT b p (partsT f o sz m) → q < m → SaysT b (p + partsL f o sz q) (binT (parN f o sz q) 4 ++ codedT f (parN f o sz q) (ploN o sz q) (pcnt o sz q))
  | 0, q, _, hq => absurd hq (Nat.not_lt_zero q)
  | m + 1, q, h, hq => by
    simp only [partsT] at h
    by_cases e : q = m
    · subst e
      have := h.right
      rw [partsT_length] at this
      exact this
    · exact parts_at h.left (by omega)
theorem plen_mono (f : Nat → Nat) (k lo : Nat) {i : Nat} : ∀ {j : Nat}, i ≤ j → plen f k lo i ≤ plen f k lo j
  | 0, h => by have : i = 0 := by omega
               subst this; exact Nat.le_refl _
  | j + 1, h => by
    by_cases e : i = j + 1
    · subst e; exact Nat.le_refl _
    · have := plen_mono f k lo (i := i) (j := j) (by omega)
      simp only [plen]; omega

/-- what holds behind i places -/
structure At (s : St) (p m : Nat) (x : Nat → Int) : Prop where
  p : s.p = p
  x : ∀ j, j < m → s.x j = x j

section
variable (J : Job) (x : Nat → Int) (n P p0 : Nat) (f : Nat → Nat)
variable (hN : n = J.size * P) (ho : ord J.kind < J.size) (hfit : ∀ j, j < n → fitsB J.w (x j) = true) (hf : ∀ i, f i = foldN (x i - guessG J.kind J.a J.c x i))
variable (hT : SaysT J.b p0 (partsT f (ord J.kind) J.size P)) (hL : p0 + partsL f (ord J.kind) J.size P ≤ J.N)

theorem part_back (s0 s : St) (q : Nat) (hq : q < P) (hR : J.R s0 (q * J.size) = some s) (hs : At s (p0 + partsL f (ord J.kind) J.size q) (max (q * J.size) (ord J.kind)) x)
    (hfit : ∀ j, j < n → fitsB J.w (x j) = true) (hN : n = J.size * P) (hf : ∀ i, f i = foldN (x i - guessG J.kind J.a J.c x i)) (hT : SaysT J.b p0 (partsT f (ord J.kind) J.size P)) (hL : p0 + partsL f (ord J.kind) J.size P ≤ J.N) (ho : ord J.kind < J.size) :
    ∀ t, t ≤ J.size → ∃ s', J.U s0 (q * J.size) t = some s' ∧ s'.k = parN f (ord J.kind) J.size q ∧
      At s' (p0 + partsL f (ord J.kind) J.size q + 4 + plen f (parN f (ord J.kind) J.size q) (ploN (ord J.kind) J.size q) (q * J.size + t - ploN (ord J.kind) J.size q)) (max (q * J.size + t) (ord J.kind)) x := by
  have hpart := parts_at hT hq
  have hK := hpart.left
  have hC := hpart.right
  rw [binT_length] at hC
  have hK14 : parN f (ord J.kind) J.size q ≤ 14 := parK_le _ _ _
  have hmono := partsL_mono f (ord J.kind) J.size (i := q + 1) (j := P) hq
  have hsucc : partsL f (ord J.kind) J.size (q + 1) = partsL f (ord J.kind) J.size q + (4 + plen f (parN f (ord J.kind) J.size q) (ploN (ord J.kind) J.size q) (pcnt (ord J.kind) J.size q)) := rfl
  have hqn : (q + 1) * J.size ≤ n := by
    rw [hN, Nat.mul_comm J.size P]; exact Nat.mul_le_mul_right _ hq
  have hq1 : (q + 1) * J.size = q * J.size + J.size := Nat.succ_mul _ _
  have hpc : pcnt (ord J.kind) J.size q = q * J.size + J.size - ploN (ord J.kind) J.size q := by unfold pcnt; rw [hq1]
  have hlo : ploN (ord J.kind) J.size q = max (q * J.size) (ord J.kind) := rfl
  generalize parN f (ord J.kind) J.size q = K at *
  generalize ploN (ord J.kind) J.size q = lo at *
  generalize partsL f (ord J.kind) J.size q = L0 at *
  intro t
  induction t with
  | zero =>
    intro _
    refine ⟨⟨s.p + 4, K, s.x⟩, ?_, rfl, ⟨?_, hs.x⟩⟩
    · simp only [Job.U]
      rw [hR, Option.bind_some]
      unfold Job.rdK
      have hn : num J.b s.p 4 = K := by rw [hs.p]; exact num_binN hK (by omega)
      rw [hn, if_pos ⟨by rw [hs.p]; omega, hK14⟩]
    · show s.p + 4 = _
      rw [hs.p, show q * J.size + 0 - lo = 0 by omega]; rfl
  | succ t ih =>
    intro ht
    obtain ⟨s', hU, hk, hat⟩ := ih (by omega)
    simp only [Job.U]
    rw [hU, Option.bind_some]
    by_cases hi : q * J.size + t < ord J.kind
    · refine ⟨s', ?_, hk, ⟨?_, fun j hj => hat.x j (by omega)⟩⟩
      · unfold Job.plc; rw [if_pos hi]
      · rw [hat.p]; congr 2; omega
    · have hin : q * J.size + t < n := by omega
      have e1 : lo + (q * J.size + t - lo) = q * J.size + t := by omega
      have hrs := coded_at hC (j := q * J.size + t - lo) (by omega)
      rw [e1] at hrs
      have hpl : plen f K lo (q * J.size + (t + 1) - lo) = plen f K lo (q * J.size + t - lo) + riceL (f (q * J.size + t)) K := by
        rw [show q * J.size + (t + 1) - lo = (q * J.size + t - lo) + 1 by omega]
        simp only [plen]; rw [e1]
      have hple := plen_mono f K lo (i := q * J.size + (t + 1) - lo) (j := pcnt (ord J.kind) J.size q) (by omega)
      have hrice : rice J.b J.N s'.k s'.p = some (unf (f (q * J.size + t)), s'.p + riceL (f (q * J.size + t)) K) := by
        rw [hk, hat.p]
        exact rice_back hrs (by omega)
      have hg : guessG J.kind J.a J.c s'.x (q * J.size + t) = guessG J.kind J.a J.c x (q * J.size + t) := guessG_ext (fun j hj => hat.x j (by omega)) (by omega)
      have hv : guessG J.kind J.a J.c s'.x (q * J.size + t) + unf (f (q * J.size + t)) = x (q * J.size + t) := by
        rw [hg, hf, unf_fold]; omega
      refine ⟨⟨s'.p + riceL (f (q * J.size + t)) K, s'.k, updI s'.x (q * J.size + t) (x (q * J.size + t))⟩, ?_, hk, ⟨?_, fun j hj => ?_⟩⟩
      · rw [Job.plc_yes hi hrice (by rw [hv]; exact hfit _ hin), hv]
      · show s'.p + _ = _
        rw [hat.p, hpl]; omega
      · show updI _ _ _ j = x j
        unfold updI
        by_cases e : j = q * J.size + t
        · rw [if_pos e, e]
        · rw [if_neg e]; exact hat.x j (by omega)

theorem rests_back (s0 : St) (h0 : At s0 p0 (ord J.kind) x) (hN : n = J.size * P) (ho : ord J.kind < J.size) (hfit : ∀ j, j < n → fitsB J.w (x j) = true) (hf : ∀ i, f i = foldN (x i - guessG J.kind J.a J.c x i))
    (hT : SaysT J.b p0 (partsT f (ord J.kind) J.size P)) (hL : p0 + partsL f (ord J.kind) J.size P ≤ J.N) :
    ∀ q, q ≤ P → ∃ s, J.R s0 (q * J.size) = some s ∧ At s (p0 + partsL f (ord J.kind) J.size q) (max (q * J.size) (ord J.kind)) x := by
  intro q
  induction q with
  | zero =>
    intro _
    refine ⟨s0, by rw [Nat.zero_mul]; rfl, ⟨h0.p, fun j hj => h0.x j (by omega)⟩⟩
  | succ q ih =>
    intro hq
    obtain ⟨s, hR, hs⟩ := ih (by omega)
    obtain ⟨s', hU, _, hat⟩ := part_back J x n P p0 f s0 s q (by omega) hR hs hfit hN hf hT hL ho J.size (Nat.le_refl _)
    rw [J.U_eq s0 (q * J.size) (Nat.mul_mod_left _ _) J.size (by omega) (Nat.le_refl _)] at hU
    have e : (q + 1) * J.size = q * J.size + J.size := Nat.succ_mul _ _
    refine ⟨s', by rw [e]; exact hU, ⟨?_, fun j hj => hat.x j (by omega)⟩⟩
    rw [hat.p]
    have hsucc : partsL f (ord J.kind) J.size (q + 1) = partsL f (ord J.kind) J.size q + (4 + plen f (parN f (ord J.kind) J.size q) (ploN (ord J.kind) J.size q) (pcnt (ord J.kind) J.size q)) := rfl
    have hpc : pcnt (ord J.kind) J.size q = q * J.size + J.size - ploN (ord J.kind) J.size q := by unfold pcnt; rw [e]
    rw [hsucc, hpc]; omega
end
end Go.Proofs.YtlncjgnomhpjnaaDoor
