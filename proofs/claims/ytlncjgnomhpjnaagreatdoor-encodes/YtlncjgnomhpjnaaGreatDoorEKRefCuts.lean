import Derived.Test.YtlncjgnomhpjnaaGreatDoorEKRefTextB
/-
  The document's packer: the cuts.
-/
namespace Go.Proofs.YtlncjgnomhpjnaaGreatDoor
open Go.RowKit Go.Deep
set_option linter.unusedVariables false

theorem bs_toList (T : List UInt8) : (bs T).toList = T := ByteArray.toList_mk T
theorem bs_toList_ne {T : List UInt8} (h : 1 ≤ T.length) : ¬ (bs T).toList = [] := fun e => by
  rw [bs_toList] at e; rw [e] at h; simp at h
theorem bs_ne {T : List UInt8} (h : 1 ≤ T.length) : ¬ bs T = ⟨#[]⟩ := fun e => by
  have := congrArg ByteArray.size e
  rw [bs_size] at this
  have h0 : (⟨#[]⟩ : ByteArray).size = 0 := rfl
  omega

theorem addr_add (g a k : Nat) : (⟨g, a, none⟩ : Addr).add k = ⟨g, a + k, none⟩ := by cases k <;> simp [Addr.add]
theorem cuts_keep {F : Nat → Nat} {o n d e : Nat} {S : ByteArray} (hon : o < n) (h : (d = 0 → S = ⟨#[]⟩) ∧ ∀ e, d = e + 1 → S = bs (cutT F o n (bestC F o n e))) (hok : okC n o d = false) (he : e = d) : S = bs (cutT F o n (bestC F o n e)) := by
  subst he
  cases e with
  | zero => rw [okC_zero hon] at hok; cases hok
  | succ f => rw [h.2 f rfl, show bestC F o n (f + 1) = bestC F o n f from if_neg (by rw [hok]; simp)]

set_option maxRecDepth 100000 in
set_option maxHeartbeats 4000000 in
theorem cuts_any (o G n c : Nat) (R : Nat → Int) (w : World) (hn : n ≤ 32) (ho : o ≤ 4) (hon : o < n) (hnc : n ≤ c) (hR : ∀ i, o ≤ i → i < n → -1000000 ≤ R i ∧ R i ≤ 1000000) (hI : ∀ i, o ≤ i → i < n → w.cell? ⟨G, i, none⟩ = some (.int .i64 (R i))) (hlow : G < w.heap.size) :
    Calls Tryz.prog 197 #[.slice (some ⟨G, 0, none⟩) n c, .int .i64 o] w fun e w' => e = .returned (.string (bs (cutT (fun i => foldN (R i)) o n (bestC (fun i => foldN (R i)) o n 3)))) ∧ Below w.heap.size w w' := by
  have HI := Hid.mk' (fun u (h : Below w.heap.size w u) i (h1 : o ≤ i) (h2 : i < n) => (h.cell (p := ⟨G, i, none⟩) hlow).trans (hI i h1 h2))
  have HR := Hid.mk' hR
  obtain ⟨F, hF⟩ : ∃ F : Nat → Nat, F = fun i => foldN (R i) := ⟨_, rfl⟩
  have HFE : Hid ((fun i => foldN (R i)) = F) := hF.symm
  have HFB : Hid (∀ i, o ≤ i → i < n → F i ≤ 2000000) := fun i h1 h2 => by rw [hF]; exact foldN_le _ 1000000 (hR i h1 h2)
  rw [← hF]
  clear hF hI hR
  go_enter Tryz.func197, Tryz.ntmps197
  go_wp2
  go_loopw [5, 6] (fun sv cv wr => ∃ d : Nat, ∃ S : ByteArray, d ≤ 4 ∧ cv = .int .i64 d ∧ sv = .string S ∧ Hid ((d = 0 → S = ⟨#[]⟩) ∧ ∀ e, d = e + 1 → S = bs (cutT F o n (bestC F o n e))) ∧ Hid (Below w.heap.size w wr)) (fun _ cv _ => 4 - (intOf cv).toNat)
  case atStart => exact ⟨0, _, by omega, rfl, rfl, ⟨fun _ => rfl, fun e h => absurd h (by omega)⟩, Below.refl _ _⟩
  case round =>
    obtain ⟨d, S, hd4, rfl, rfl, HS, HB⟩ := hrel
    by_cases hd : d ≤ 3
    · have t0 : decide ((d : Int) ≤ 3) = true := decide_eq_true (by omega)
      have hmn : min d 64 = d := by omega
      have hP8 : 2 ^ d ≤ 8 := Nat.le_trans (Nat.pow_le_pow_right (by omega) hd) (by decide)
      have hP1 : 1 ≤ 2 ^ d := Nat.two_pow_pos d
      have HOKD : Hid (okC n o d = (decide (n / 2 ^ d * 2 ^ d = n) && decide (o < n / 2 ^ d))) := rfl
      have HCT : Hid (cutT F o n d = binT d 2 ++ partsT F o (n / 2 ^ d) (2 ^ d)) := rfl
      obtain ⟨P, hP⟩ : ∃ P, P = 2 ^ d := ⟨_, rfl⟩
      obtain ⟨sz, hsz⟩ : ∃ sz, sz = n / P := ⟨_, rfl⟩
      rw [← hP, ← hsz] at HOKD HCT
      rw [← hP] at hP8 hP1
      have hpw : IntKind.i64.wrap ((2 : Int) ^ d) = (P : Int) := by rw [show ((2 : Int) ^ d) = (P : Int) by rw [hP]; simp, IntKind.wrap_i64]; omega
      have hdv : (n : Int).tdiv (P : Int) = (sz : Int) := by rw [Int.tdiv_eq_ediv_of_nonneg (by omega), hsz]; simp
      have hszn : sz ≤ n := by rw [hsz]; exact Nat.div_le_self _ _
      have hP0 : ¬ (P : Int) = 0 := by omega
      have hmul : sz * P ≤ n := by rw [hsz]; exact Nat.div_mul_le_self n P
      have hmw : IntKind.i64.wrap ((sz : Int) * (P : Int)) = ((sz * P : Nat) : Int) := by rw [show (sz : Int) * (P : Int) = ((sz * P : Nat) : Int) by simp, IntKind.wrap_i64]; omega
      have HSZ := Hid.mk' hsz
      have HP := Hid.mk' hP
      clear hP hsz
      by_cases hm : sz * P = n
      · have tm : (((sz * P : Nat) : Int) != (n : Int)) = false := by simp; omega
        by_cases hlo : o < sz
        · have tl : decide ((sz : Int) ≤ (o : Int)) = false := decide_eq_false (by omega)
          have hok : okC n o d = true := by rw [HOKD.out, decide_eq_true hm, decide_eq_true hlo]; rfl
          have HOK := Hid.mk' hok
          have HM := Hid.mk' hm
          have HBN := Hid.mk' (fun u => binary_any (d : Int) 2 u (by omega) (by omega) (by have := ip2_pos 2; omega))
          have hszB := HB.out.size
          clear hok hm HOKD
          obtain ⟨szP, hszP⟩ : ∃ szP, szP = sz * P := ⟨_, rfl⟩
          rw [← hszP] at hmw tm
          clear hszP hmul
          go_wp2_with (go_at_call 172; refine (HBN.out _).mono ?_; rintro e w1 ⟨rfl, hb1⟩; have HB1 := Hid.mk' (HB.out.trans (hb1.mono hszB)); clear hb1 HBN)
          go_loopw [9, 10] (fun sv iv wi => ∃ i : Nat, i ≤ P ∧ iv = .int .i64 i ∧ sv = .string (bs (binT d 2 ++ partsT F o sz i)) ∧ Hid (Below w.heap.size w wi)) (fun _ iv _ => P - (intOf iv).toNat)
          case atStart => exact ⟨0, Nat.zero_le _, rfl, by simp [partsT], HB1.out⟩
          case round =>
            clear HB1
            obtain ⟨i, hiP, rfl, rfl, HBi⟩ := hrel
            by_cases hlt : i < P
            · have hi1 : (i + 1) * sz ≤ n := by
                have h1 : (i + 1) * sz ≤ P * sz := Nat.mul_le_mul_right _ hlt
                rw [Nat.mul_comm P, HM.out] at h1; exact h1
              obtain ⟨fr, hfr⟩ : ∃ fr, fr = i * sz := ⟨_, rfl⟩
              obtain ⟨hi, hhi⟩ : ∃ hi, hi = fr + sz := ⟨_, rfl⟩
              have hhn : hi ≤ n := by rw [Nat.succ_mul, ← hfr, ← hhi] at hi1; exact hi1
              have v1 : IntKind.i64.wrap ((i : Int) * (sz : Int)) = (fr : Int) := by
                rw [show (i : Int) * (sz : Int) = ((i * sz : Nat) : Int) by simp, ← hfr, IntKind.wrap_i64]; omega
              have v3 : IntKind.i64.wrap ((i : Int) + 1) = (i : Int) + 1 := by rw [IntKind.wrap_i64]; omega
              have v4 : IntKind.i64.wrap (((i : Int) + 1) * (sz : Int)) = (hi : Int) := by
                rw [show ((i : Int) + 1) * (sz : Int) = (((i + 1) * sz : Nat) : Int) by simp, Nat.succ_mul, ← hfr, ← hhi, IntKind.wrap_i64]; omega
              have hpl : (bs (binT d 2 ++ partsT F o sz i)).size ≤ 1000000000 := by
                rw [bs_size, List.length_append, binT_length, partsT_length]
                have h1 := partsL_le F o sz P n hn HM.out hlo HFB.out i hiP
                have h2 : i * 64000484 ≤ 8 * 64000484 := Nat.mul_le_mul_right _ (by omega)
                omega
              have hszi := HBi.out.size
              by_cases hi0 : i = 0
              · have ti : ((i : Int) == 0) = true := by simp [hi0]
                have hploE : ploN o sz i = o := by rw [hi0]; unfold ploN; simp
                have hfr0 : fr = 0 := by rw [hfr, hi0]; simp
                clear hi0
                obtain ⟨ct, hct⟩ : ∃ ct, ct = hi - o := ⟨_, rfl⟩
                have hpcE : pcnt o sz i = ct := by unfold pcnt; rw [hploE, Nat.succ_mul, ← hfr, ← hhi, hct]
                have hlh : o ≤ hi := by omega
                have hlc : o + ct = hi := by omega
                obtain ⟨K, hK⟩ : ∃ K, K = parN F o sz i := ⟨_, rfl⟩
                have hK14 : K ≤ 14 := by rw [hK]; exact parK_le _ _ _
                have hKE : parK F o ct = K := by rw [hK]; unfold parN; rw [hploE, hpcE]
                have HPT : Hid (partsT F o sz (i + 1) = partsT F o sz i ++ (binT K 4 ++ codedT F K o ct)) := by
                  have e : partsT F o sz (i + 1) = partsT F o sz i ++ (binT (parN F o sz i) 4 ++ codedT F (parN F o sz i) (ploN o sz i) (pcnt o sz i)) := rfl
                  rw [hploE, hpcE, ← hK] at e
                  exact e
                have HIN := Hid.mk' (fun (u : World) (hu : Below w.heap.size w u) => (fun k hk => by
                  have hc := HI.out u hu (o + k) (by omega) (by omega)
                  refine ⟨⟨G, o, none⟩, rfl, ?_⟩
                  rw [addr_add]
                  exact hc : IntsAt u (some ⟨G, o, none⟩) ct (fun k => R (o + k))))
                have HLE := Hid.mk' (fun (u : World) (hu : Below w.heap.size w u) => least_any (some ⟨G, o, none⟩) ct (c - o) o R u (by omega) (fun k hk => HR.out _ (by omega) (by omega)) (HIN.out u hu))
                have HCO := Hid.mk' (fun (u : World) (hu : Below w.heap.size w u) => coded_any (some ⟨G, o, none⟩) ct (c - o) K o R u (by omega) hK14 (fun k hk => HR.out _ (by omega) (by omega)) (HIN.out u hu) (fun y hy _ => by cases hy; exact Nat.lt_of_lt_of_le hlow hu.size))
                have HBI := Hid.mk' (fun u => binary_any (K : Int) 4 u (by omega) (by omega) (by have := ip2_pos 4; omega))
                rw [HFE.out] at HLE HCO
                rw [hKE] at HLE
                have hctn : hi - o = ct := hct.symm
                have hcl : o < c := by omega
                have hcn : ¬ c = o := by omega
                have hcds : (bs (codedT F K o ct)).size ≤ 100000000 := by
                  rw [bs_size, codedT_length]
                  have h1 := plen_le F K o 2000000 hK14 ct (fun k hk => HFB.out _ (by omega) (by omega))
                  have h2 : ct * (2000000 + 15) ≤ 32 * (2000000 + 15) := Nat.mul_le_mul_right _ (by omega)
                  omega
                have hbns : (bs (binT (K : Int) 4)).size ≤ 4 := by rw [bs_size, binT_length]; omega
                generalize hS1 : bs (binT d 2 ++ partsT F o sz i) = S1 at *
                generalize hS2 : bs (binT (K : Int) 4) = S2 at *
                generalize hS3 : bs (codedT F K o ct) = S3 at *
                have HSTR : Hid (S1 ++ S2 ++ S3 = bs (binT d 2 ++ partsT F o sz (i + 1))) := by
                  show _ = _
                  rw [HPT.out, ← hS1, ← hS2, ← hS3, bs_append, bs_append]
                  simp [List.append_assoc]
                clear hS1 hS2 hS3 hct hpcE hlc hK hKE hploE hfr hhi HPT hi1 hlo
                try clear hofr
                try clear hfr0
                go_wp2_with (go_at_call 221; refine (HLE.out _ ?_).mono ?_; exact HBi.out; rintro e w1 ⟨rfl, q, hw⟩; subst w1; clear HLE)
                go_region_with (first
                  | (go_at_call 172; refine (HBI.out _).mono ?_; rintro e w2 ⟨rfl, hb2⟩; have HB2 : Hid (Below w.heap.size w w2) := (⟨HBi.out.os, HBi.out.tape, HBi.out.output, HBi.out.size, HBi.out.block⟩ : Below w.heap.size w ((wr.drewN q).drew)).trans (hb2.mono hszi); clear hb2 HBI)
                  | (go_at_call 222; refine (HCO.out _ ?_).mono ?_; exact HB2.out; rintro e w3 ⟨rfl, hb3⟩; have HB3 := Hid.mk' (HB2.out.trans (hb3.mono HB2.out.size)); clear hb3 HCO))
                all_goals go_wp2
                all_goals exact ⟨⟨i + 1, by omega, by go_num, by rw [HSTR.out], HB3.out⟩, by simp [intOf]; omega⟩
              · have ti : ((i : Int) == 0) = false := by simp; omega
                have hofr : o < fr := by
                  have : 1 * sz ≤ i * sz := Nat.mul_le_mul_right _ (by omega)
                  omega
                have hploE : ploN o sz i = fr := by unfold ploN; rw [← hfr]; omega
                clear hi0
                obtain ⟨ct, hct⟩ : ∃ ct, ct = hi - fr := ⟨_, rfl⟩
                have hpcE : pcnt o sz i = ct := by unfold pcnt; rw [hploE, Nat.succ_mul, ← hfr, ← hhi, hct]
                have hlh : fr ≤ hi := by omega
                have hlc : fr + ct = hi := by omega
                obtain ⟨K, hK⟩ : ∃ K, K = parN F o sz i := ⟨_, rfl⟩
                have hK14 : K ≤ 14 := by rw [hK]; exact parK_le _ _ _
                have hKE : parK F fr ct = K := by rw [hK]; unfold parN; rw [hploE, hpcE]
                have HPT : Hid (partsT F o sz (i + 1) = partsT F o sz i ++ (binT K 4 ++ codedT F K fr ct)) := by
                  have e : partsT F o sz (i + 1) = partsT F o sz i ++ (binT (parN F o sz i) 4 ++ codedT F (parN F o sz i) (ploN o sz i) (pcnt o sz i)) := rfl
                  rw [hploE, hpcE, ← hK] at e
                  exact e
                have HIN := Hid.mk' (fun (u : World) (hu : Below w.heap.size w u) => (fun k hk => by
                  have hc := HI.out u hu (fr + k) (by omega) (by omega)
                  refine ⟨⟨G, fr, none⟩, rfl, ?_⟩
                  rw [addr_add]
                  exact hc : IntsAt u (some ⟨G, fr, none⟩) ct (fun k => R (fr + k))))
                have HLE := Hid.mk' (fun (u : World) (hu : Below w.heap.size w u) => least_any (some ⟨G, fr, none⟩) ct (c - fr) fr R u (by omega) (fun k hk => HR.out _ (by omega) (by omega)) (HIN.out u hu))
                have HCO := Hid.mk' (fun (u : World) (hu : Below w.heap.size w u) => coded_any (some ⟨G, fr, none⟩) ct (c - fr) K fr R u (by omega) hK14 (fun k hk => HR.out _ (by omega) (by omega)) (HIN.out u hu) (fun y hy _ => by cases hy; exact Nat.lt_of_lt_of_le hlow hu.size))
                have HBI := Hid.mk' (fun u => binary_any (K : Int) 4 u (by omega) (by omega) (by have := ip2_pos 4; omega))
                rw [HFE.out] at HLE HCO
                rw [hKE] at HLE
                have hctn : hi - fr = ct := hct.symm
                have hcl : fr < c := by omega
                have hcn : ¬ c = fr := by omega
                have hcds : (bs (codedT F K fr ct)).size ≤ 100000000 := by
                  rw [bs_size, codedT_length]
                  have h1 := plen_le F K fr 2000000 hK14 ct (fun k hk => HFB.out _ (by omega) (by omega))
                  have h2 : ct * (2000000 + 15) ≤ 32 * (2000000 + 15) := Nat.mul_le_mul_right _ (by omega)
                  omega
                have hbns : (bs (binT (K : Int) 4)).size ≤ 4 := by rw [bs_size, binT_length]; omega
                generalize hS1 : bs (binT d 2 ++ partsT F o sz i) = S1 at *
                generalize hS2 : bs (binT (K : Int) 4) = S2 at *
                generalize hS3 : bs (codedT F K fr ct) = S3 at *
                have HSTR : Hid (S1 ++ S2 ++ S3 = bs (binT d 2 ++ partsT F o sz (i + 1))) := by
                  show _ = _
                  rw [HPT.out, ← hS1, ← hS2, ← hS3, bs_append, bs_append]
                  simp [List.append_assoc]
                clear hS1 hS2 hS3 hct hpcE hlc hK hKE hploE hfr hhi HPT hi1 hlo
                try clear hofr
                try clear hfr0
                go_wp2_with (go_at_call 221; refine (HLE.out _ ?_).mono ?_; exact HBi.out; rintro e w1 ⟨rfl, q, hw⟩; subst w1; clear HLE)
                go_region_with (first
                  | (go_at_call 172; refine (HBI.out _).mono ?_; rintro e w2 ⟨rfl, hb2⟩; have HB2 : Hid (Below w.heap.size w w2) := (⟨HBi.out.os, HBi.out.tape, HBi.out.output, HBi.out.size, HBi.out.block⟩ : Below w.heap.size w ((wr.drewN q).drew)).trans (hb2.mono hszi); clear hb2 HBI)
                  | (go_at_call 222; refine (HCO.out _ ?_).mono ?_; exact HB2.out; rintro e w3 ⟨rfl, hb3⟩; have HB3 := Hid.mk' (HB2.out.trans (hb3.mono HB2.out.size)); clear hb3 HCO))
                all_goals go_wp2
                all_goals exact ⟨⟨i + 1, by omega, by go_num, by rw [HSTR.out], HB3.out⟩, by simp [intOf]; omega⟩
            · have e : i = P := by omega
              subst e
              have HSE : Hid (bs (binT d 2 ++ partsT F o sz i) = bs (cutT F o n d)) := by show _ = _; rw [HCT.out]
              have hs1 : (bs (binT d 2 ++ partsT F o sz i)).size = cutL F o n d := by rw [HSE.out, bs_size, cutT_length]
              generalize bs (binT d 2 ++ partsT F o sz i) = S1 at *
              have hcd := cutL_le F o n d hn hd HOK.out HFB.out
              rcases Nat.eq_zero_or_pos d with hd0 | hd0
              · have hS0 := HS.out.1 hd0
                subst hS0
                have HD0 := Hid.mk' hd0
                generalize cutL F o n d = L1 at *
                clear hd0 HS
                go_wp2
                exact ⟨⟨d + 1, S1, by omega, by go_num, rfl, ⟨fun h => absurd h (by omega), fun e h => by
                  have he : e = 0 := by have := HD0.out; omega
                  subst he
                  rw [HSE.out, HD0.out]; rfl⟩, HBi.out⟩, by simp [intOf]; omega⟩
              · obtain ⟨e, rfl⟩ : ∃ e, d = e + 1 := ⟨d - 1, by omega⟩
                have hS0 := HS.out.2 e rfl
                have hbo := bestC_ok F o n hon e
                have hbl := bestC_le F o n e
                have hcb := cutL_le F o n (bestC F o n e) hn (by omega) hbo HFB.out
                have HBE : Hid (bestC F o n (e + 1) = if okC n o (e + 1) = true ∧ cutL F o n (e + 1) < cutL F o n (bestC F o n e) then e + 1 else bestC F o n e) := rfl
                have hs2 : S.size = cutL F o n (bestC F o n e) := by rw [hS0, bs_size, cutT_length]
                have hne : ¬ S.toList = [] := by rw [hS0]; exact bs_toList_ne (by rw [cutT_length]; unfold cutL; omega)
                have hie : S.toList.isEmpty = false := by cases h : S.toList with | nil => exact absurd h hne | cons a b => rfl
                have HS0 := Hid.mk' hS0
                generalize cutL F o n (bestC F o n e) = L2 at *
                generalize cutL F o n (e + 1) = L1 at *
                clear hS0 HS hd0 hbo hbl
                by_cases hlt2 : L1 < L2
                · rw [if_pos ⟨HOK.out, hlt2⟩] at HBE
                  have t1 : decide ((L1 : Int) < (L2 : Int)) = true := decide_eq_true (by omega)
                  have t2 : decide (L1 < L2) = true := decide_eq_true hlt2
                  clear hlt2
                  go_wp2
                  exact ⟨⟨e + 1 + 1, S1, by omega, by go_num, rfl, ⟨fun h => absurd h (by omega), fun e' h => by
                    have he : e' = e + 1 := by omega
                    subst he
                    rw [HSE.out, HBE.out]⟩, HBi.out⟩, by simp [intOf]; omega⟩
                · rw [if_neg (fun h => hlt2 h.2)] at HBE
                  have t1 : decide ((L1 : Int) < (L2 : Int)) = false := decide_eq_false (by omega)
                  have t2 : decide (L1 < L2) = false := decide_eq_false hlt2
                  have hle2 : L2 ≤ L1 := by omega
                  clear hlt2
                  go_wp2
                  exact ⟨⟨e + 1 + 1, S, by omega, by go_num, rfl, ⟨fun h => absurd h (by omega), fun e' h => by
                    have he : e' = e + 1 := by omega
                    subst he
                    rw [HS0.out, HBE.out]⟩, HBi.out⟩, by simp [intOf]; omega⟩
        · have tl : decide ((sz : Int) ≤ (o : Int)) = true := decide_eq_true (by omega)
          have hokf : okC n o d = false := by rw [HOKD.out, decide_eq_false hlo]; simp
          have HOKF := Hid.mk' hokf
          clear hokf HOKD hm
          obtain ⟨szP, hszP⟩ : ∃ szP, szP = sz * P := ⟨_, rfl⟩
          rw [← hszP] at hmw tm
          clear hszP hmul
          go_wp2
          exact ⟨⟨d + 1, S, by omega, by go_num, rfl, ⟨fun h => absurd h (by omega), fun e h => cuts_keep hon HS.out HOKF.out (by omega)⟩, HB.out⟩, by simp [intOf]; omega⟩
      · have tm : (((sz * P : Nat) : Int) != (n : Int)) = true := by simp; omega
        have hokf : okC n o d = false := by rw [HOKD.out, decide_eq_false hm]; rfl
        have HOKF := Hid.mk' hokf
        clear hokf HOKD hm
        obtain ⟨szP, hszP⟩ : ∃ szP, szP = sz * P := ⟨_, rfl⟩
        rw [← hszP] at hmw tm
        clear hszP hmul
        go_wp2
        exact ⟨⟨d + 1, S, by omega, by go_num, rfl, ⟨fun h => absurd h (by omega), fun e h => cuts_keep hon HS.out HOKF.out (by omega)⟩, HB.out⟩, by simp [intOf]; omega⟩
    · have e : d = 4 := by omega
      subst e
      have HS4 := Hid.mk' (HS.out.2 3 rfl)
      go_wp2
      go_ret
      exact ⟨by rw [HS4.out]; rfl, HB.out⟩
end Go.Proofs.YtlncjgnomhpjnaaGreatDoor

