import Derived.Test.YtlncjgnomhpjnaaGreatDoorPD44
/-
  A head that is made of what was read, as a text.
-/
namespace Go.Proofs.YtlncjgnomhpjnaaGreatDoor
open Go.RowKit Go.Deep
set_option linter.unusedVariables false
theorem atN_off (X : List UInt8) : ∀ k, atN (lnX X) k = offX X k
  | 0 => rfl
  | k + 1 => by
    show atN (lnX X) k + lnX X k = offX X k + hLen (X.drop (offX X k))
    rw [atN_off X k]; rfl
theorem pnt_mem {ln : Nat → Nat} {seek : Nat} : ∀ (k p : Nat), p ∈ pntN ln seek k → ∃ i, i < k ∧ p = atN ln i
  | 0, p, h => by simp [pntN] at h
  | k + 1, p, h => by
    unfold pntN at h
    split at h
    · rcases List.mem_append.1 h with h1 | h1
      · obtain ⟨i, hi, e⟩ := pnt_mem k p h1
        exact ⟨i, by omega, e⟩
      · simp at h1
        exact ⟨k, by omega, h1⟩
    · obtain ⟨i, hi, e⟩ := pnt_mem k p h
      exact ⟨i, by omega, e⟩
theorem pnt_bd {n d B S k0 m seek : Nat} {X : List UInt8} (hr : RunIs n d B S k0 X m) (hX : X.length ≤ 9000) : ∀ p ∈ pntN (lnX X) seek m, p ≤ 9000 := fun p hp => by
  obtain ⟨i, hi, rfl⟩ := pnt_mem m p hp
  rw [atN_off]
  have := offX_le hr.ok i (by omega)
  omega
/-- the head that is made of what was read is the one that was read -/
theorem says_text {T : List UInt8} {m : Nat} (hp : HdP T) (hw : dWh T = 1) (hs : T.length ≤ 9000) (hr : RunIs (dCh T) (dDe T) (dBl T) (dSa T) 0 (T.drop (dSz T)) m) :
    headTx 1 (dCh T) (dDe T) (dBl T) (dRa T) (dSa T) (dSe T) (leastN (lnX (T.drop (dSz T))) m) (mostN (lnX (T.drop (dSz T))) m) (dSu T) (pntN (lnX (T.drop (dSz T))) (dSe T) m) = T.take (dSz T) ↔ SaysP T (T.drop (dSz T)) m := by
  have hX : (T.drop (dSz T)).length ≤ 9000 := by rw [List.length_drop]; omega
  have hTx := hp.2.2.2.2.1
  have h22 := hp.1
  have hsz := hp.2.2.2.1
  have hle := leastN_bd (ln := lnX (T.drop (dSz T))) (m := 9000) m (lnX_bd hr hX)
  have hmo := mostN_bd (ln := lnX (T.drop (dSz T))) (m := 9000) m (lnX_bd hr hX)
  have hpb := pnt_bd (seek := dSe T) hr hX
  have hsu : dSu T < 4294967296 := fld_lt T 15 19 (by omega) (by omega)
  have hd : 22 ≤ dSz T := by unfold dSz; omega
  constructor
  · intro h
    have hf := headTx_fld 1 (dCh T) (dDe T) (dBl T) (dRa T) (dSa T) (dSe T) (leastN (lnX (T.drop (dSz T))) m) (mostN (lnX (T.drop (dSz T))) m) (dSu T) (pntN (lnX (T.drop (dSz T))) (dSe T) m) (by omega) (by omega) hsu
    have hlen := congrArg List.length h
    rw [headTx_length, List.length_take] at hlen
    have hl2 : (pntN (lnX (T.drop (dSz T))) (dSe T) m).length = dNp T := by
      have e : dSz T = 22 + 2 * dNp T := rfl
      generalize (pntN (lnX (T.drop (dSz T))) (dSe T) m).length = L at *
      omega
    have hpt : ∀ k (hk : k < (pntN (lnX (T.drop (dSz T))) (dSe T) m).length), fld (headTx 1 (dCh T) (dDe T) (dBl T) (dRa T) (dSa T) (dSe T) (leastN (lnX (T.drop (dSz T))) m) (mostN (lnX (T.drop (dSz T))) m) (dSu T) (pntN (lnX (T.drop (dSz T))) (dSe T) m)) (20 + 2 * k) (22 + 2 * k) = (pntN (lnX (T.drop (dSz T))) (dSe T) m)[k] := fun k hk => headTx_pt 1 _ _ _ _ _ _ _ _ _ _ k hk (by have := hpb _ (List.getElem_mem hk); omega)
    rw [h] at hf hpt
    unfold fld at hf
    rw [piece_take _ _ _ _ (by omega), piece_take _ _ _ _ (by omega), piece_take _ _ _ _ (by omega)] at hf
    refine ⟨hf.1, hf.2.1, List.ext_getElem (by rw [dPts_length, hl2]) fun k hk hk2 => ?_⟩
    rw [← hpt k hk2]
    have hk3 : k < dNp T := by rw [← dPts_length]; exact hk
    unfold fld
    rw [piece_take _ _ _ _ (by unfold dSz; omega)]
    simp [dPts, fld]
  · rintro ⟨h1, h2, h3⟩
    rw [← h1, ← h2, ← h3, ← hTx]
    unfold dTx
    rw [hw]
/-- samples that were read are small -/
theorem smallS {d : Nat} {v : Int} (hd1 : 4 ≤ d) (hd : d ≤ 12) (h : fitsB d v = true) : -65536 ≤ v ∧ v < 65536 := by
  have hp : (2 : Nat) ^ (d - 1) ≤ 2 ^ 12 := Nat.pow_le_pow_right (by omega) (by omega)
  have hp2 : ((2 : Int) ^ (d - 1)) = ((2 ^ (d - 1) : Nat) : Int) := by simp
  unfold fitsB at h
  rw [within_iff, hp2] at h
  generalize 2 ^ (d - 1) = y at *
  omega
theorem frmP_bd {T : List UInt8} {n d : Nat} {c2 number : Int} {H : Nat → Nat → Int} (hd1 : 4 ≤ d) (hd : d ≤ 12) (hn : n ≤ 4) (h : FrmP T n d c2 number H) : ∀ c j, c < n → j < hCnt T + 1 → -65536 ≤ H c j ∧ H c j < 65536 := by
  obtain ⟨-, -, -, -, G, o, h1, h2, h3, rfl⟩ := h
  intro c j hc hj
  have hb := (subsAt_le (by omega) hd h1).2
  by_cases e : n = 2
  · have h4 := h3 e j hj
    by_cases e0 : c = 0
    · have e2 : unG n (hMode T) G c j = unL (hMode T) (G 0 j) (G 1 j) := by unfold unG; rw [if_pos e, if_pos e0]
      rw [e2]; exact smallS hd1 hd h4.1
    · have e2 : unG n (hMode T) G c j = unR (hMode T) (G 0 j) (G 1 j) := by unfold unG; rw [if_pos e, if_neg e0]
      rw [e2]; exact smallS hd1 hd h4.2
  · have e2 : unG n (hMode T) G c j = G c j := by unfold unG; rw [if_neg e]
    rw [e2]
    have h5 : -4096 ≤ G c j ∧ G c j ≤ 4096 := hb c hc j hj
    omega
theorem chL_bd {n d B S k0 : Nat} {X : List UInt8} {m : Nat} (hd1 : 4 ≤ d) (hd : d ≤ 12) (hn : n ≤ 4) (hr : ∀ j, j < m → okF n d B S (k0 + j) (atX X j)) : ∀ k, k ≤ m → ∀ c, c < n → ∀ x ∈ chL n d B S k0 X c k, -65536 ≤ x ∧ x < 65536
  | 0, _, c, hc, x, hx => by simp [chL] at hx
  | k + 1, hk, c, hc, x, hx => by
    unfold chL at hx
    rcases List.mem_append.1 hx with h1 | h1
    · exact chL_bd hd1 hd hn hr k (by omega) c hc x h1
    · obtain ⟨j, hj, rfl⟩ := List.mem_map.1 h1
      have hj := List.mem_range.1 hj
      obtain ⟨⟨H, hH⟩, hcn⟩ := hr k (by omega)
      rw [smpF_eq hH]
      exact frmP_bd hd1 hd hn hH c j hc (by omega)
theorem smpL_bd {n d B S k0 : Nat} {X : List UInt8} {m : Nat} (hd1 : 4 ≤ d) (hd : d ≤ 12) (hn : n ≤ 4) (hr : RunIs n d B S k0 X m) : ∀ c, c < n → ∀ j, -65536 ≤ smpL n d B S k0 X m c j ∧ smpL n d B S k0 X m c j < 65536 := fun c hc j => by
  unfold smpL
  rw [List.getD_eq_getElem?_getD]
  by_cases hj : j < (chL n d B S k0 X c m).length
  · rw [List.getElem?_eq_getElem hj]
    exact chL_bd hd1 hd hn hr.ok m (Nat.le_refl _) c hc _ (List.getElem_mem hj)
  · rw [List.getElem?_eq_none (by omega)]
    simp
end Go.Proofs.YtlncjgnomhpjnaaGreatDoor

