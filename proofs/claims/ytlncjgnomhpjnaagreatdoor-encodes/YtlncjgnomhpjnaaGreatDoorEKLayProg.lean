import Derived.Test.YtlncjgnomhpjnaaGreatDoorEKCodeBest
/-
  The program's packer: a body laid down.
-/
namespace Go.Proofs.YtlncjgnomhpjnaaGreatDoor
open Go.RowKit Go.Deep
set_option linter.unusedVariables false

theorem Wr.below {w w' : World} {B b : Nat} {T : List UInt8} (h : Wr w B b T) (hb : Below w.heap.size w w') : Wr w' B b T := by
  have key : ∀ p, Lib.BuilderAtF 152 5 B b p (Lib.byteCells T) w → Lib.BuilderAtF 152 5 B b p (Lib.byteCells T) w' := by
    rintro p ⟨hB, v, hbk, hown, hne⟩
    refine ⟨hB, v, (hb.block b (Array.getElem?_eq_some_iff.1 hbk).1).trans hbk, ⟨hown.1, ?_⟩, hne⟩
    rcases hown.2 with hn | ⟨g, cap, cur, fz, hv, hBg, hg, hr⟩
    · exact .inl hn
    · exact .inr ⟨g, cap, cur, fz, hv, hBg, (hb.block g (Array.getElem?_eq_some_iff.1 hg).1).trans hg, hr⟩
  rcases h with h | h
  · exact .inl (key _ h)
  · exact .inr (key _ h)
theorem Wr.lt {w : World} {B b : Nat} {T : List UInt8} (h : Wr w B b T) : b < w.heap.size := by
  rcases h with h | h
  · exact h.lt
  · exact h.lt
theorem KeptW.below {B b : Nat} {w u u' : World} (h : KeptW B b w u) (hb : Below u.heap.size u u') (hB : B ≤ u.heap.size) : KeptW B b w u' :=
  ⟨h.1.trans (hb.mono hB), h.2.trans fun k o hk _ _ => (hb.block k (Array.getElem?_eq_some_iff.1 hk).1).trans hk⟩
theorem Bx.keptW {w w' : World} {B b k : Nat} {t : TypeId} {cs : Array Value} (h : Bx w k t cs) (hk : KeptW B b w w') (hkb : k ≠ b) (ht : t ≠ 5) : Bx w' k t cs :=
  hk.2 k _ h (fun e => hkb (Option.some.inj e)) (fun c fz e => by injection e with e1 e2 e3; exact ht e2)

/-- what lies in a body's block -/
theorem bodyA_kind (kind w : Nat) (x : Nat → Int) (n : Nat) : (bodyA kind w x n)[0]? = some (.int .i64 (kind : Int)) := rfl
theorem bodyA_ord (kind w : Nat) (x : Nat → Int) (n : Nat) (h2 : 2 ≤ kind) : (bodyA kind w x n)[1]? = some (.int .i64 (ord kind : Int)) := by
  show some (Value.int .i64 (bG kind x n 0)) = _
  unfold bG; rw [if_neg (by omega)]; rfl
theorem bodyA_cut (kind w : Nat) (x : Nat → Int) (n : Nat) (h2 : 2 ≤ kind) : (bodyA kind w x n)[7]? = some (.int .i64 (bC kind x n : Int)) := by
  show some (Value.int .i64 (bP kind x n 0)) = _
  unfold bP; rw [if_neg (by omega)]; rfl
theorem bodyA_par (kind w : Nat) (x : Nat → Int) (n i : Nat) (h2 : 2 ≤ kind) (hi : i < 2 ^ bC kind x n) (h8 : i < 8) : (bodyA kind w x n)[8 + i]? = some (.int .i64 (parN (fR kind x n) (ord kind) (n / 2 ^ bC kind x n) i : Int)) := by
  have e : (bodyA kind w x n)[8 + i]? = some (.int .i64 (bP kind x n (1 + i))) := by
    match i, h8 with
    | 0, _ => rfl
    | 1, _ => rfl
    | 2, _ => rfl
    | 3, _ => rfl
    | 4, _ => rfl
    | 5, _ => rfl
    | 6, _ => rfl
    | 7, _ => rfl
  rw [e]
  unfold bP pvI tvI
  rw [if_neg (by omega), if_neg (by omega), if_neg (by omega), if_pos (by omega), show 1 + i - 1 = i by omega]
theorem bodyA_guess (kind w : Nat) (x : Nat → Int) (n : Nat) (h2 : 2 ≤ kind) :
    (bodyA kind w x n)[1]? = some (.int .i64 (ord kind : Int)) ∧ (bodyA kind w x n)[2]? = some (.int .i64 (wt kind (wA kind x n) (wB kind x n) 0)) ∧ (bodyA kind w x n)[3]? = some (.int .i64 (wt kind (wA kind x n) (wB kind x n) 1)) ∧
    (bodyA kind w x n)[4]? = some (.int .i64 (wt kind (wA kind x n) (wB kind x n) 2)) ∧ (bodyA kind w x n)[5]? = some (.int .i64 (wt kind (wA kind x n) (wB kind x n) 3)) ∧ (bodyA kind w x n)[6]? = some (.int .i64 (scl kind : Int)) := by
  have e : ∀ j, j < 6 → (bodyA kind w x n)[1 + j]? = some (.int .i64 (bG kind x n j)) := fun j hj => by
    match j, hj with
    | 0, _ => rfl
    | 1, _ => rfl
    | 2, _ => rfl
    | 3, _ => rfl
    | 4, _ => rfl
    | 5, _ => rfl
  have f : ∀ j, bG kind x n j = if j = 0 then (ord kind : Int) else if j = 5 then (scl kind : Int) else wt kind (wA kind x n) (wB kind x n) (j - 1) := fun j => by unfold bG; rw [if_neg (by omega)]
  refine ⟨?_, ?_, ?_, ?_, ?_, ?_⟩
  · have := e 0 (by omega); rw [f] at this; exact this
  · have := e 1 (by omega); rw [f] at this; exact this
  · have := e 2 (by omega); rw [f] at this; exact this
  · have := e 3 (by omega); rw [f] at this; exact this
  · have := e 4 (by omega); rw [f] at this; exact this
  · have := e 5 (by omega); rw [f] at this; exact this
set_option maxRecDepth 100000 in
set_option maxHeartbeats 4000000 in
theorem layGuessed_any (B b : Nat) (T : List UInt8) (kind : Nat) (A : Option Addr) (n c width : Nat) (x : Nat → Int) (w : World) (h : Wr w B b T) (hBw : B ≤ w.heap.size) (h2 : 2 ≤ kind) (h7 : kind ≤ 7) (hn : n ≤ 32) (hnc : n ≤ c) (hw : width ≤ 13) (hok : okG kind x n = true) (hT : T.length ≤ 1000)
    (hI : ∀ u, Below B w u → IntsAt u A n x) (hlow : ∀ y, A = some y → 0 < n → y.block < B) (hX : ∀ j, j < n → -4096 ≤ x j ∧ x j ≤ 4096) :
    Calls Tryz.prog 191 #[.pointer (some ⟨b, 0, none⟩), .int .i64 width, .slice A n c, .agg (bodyA kind width x n)] w fun e w' => e = .returned (.tuple #[]) ∧ Wr w' B b (T ++ gT kind width x n) ∧ Below B w w' := by
  have hon : ord kind < n := by unfold okG at hok; rw [Bool.and_eq_true, decide_eq_true_eq] at hok; exact hok.1
  have ho := ord_le kind h2 h7
  obtain ⟨w0, hw0⟩ : ∃ w0, w0 = w.alloc (.cells (bodyA kind width x n) 206) := ⟨_, rfl⟩
  have hb0 : Below w.heap.size w w0 := by rw [hw0]; exact (Below.refl _ _).alloc (Nat.le_refl _) _
  have HT0 : Hid (Bx w0 w.heap.size 206 (bodyA kind width x n)) := by rw [hw0]; exact Bx.new _ _ _
  have hTBb : w.heap.size ≠ b := Nat.ne_of_gt h.lt
  have HA0 := Hid.mk' (h.below hb0)
  have HW00 := Hid.mk' (hb0.mono hBw)
  have hBw0 : B ≤ w0.heap.size := Nat.le_trans hBw hb0.size
  have HII := Hid.mk' (fun u (hu : KeptW B b w0 u) => hI u (HW00.out.trans hu.1))
  have HLOW := Hid.mk' hlow
  have HX := Hid.mk' hX
  have hbC := bestC_le (fR kind x n) (ord kind) n 3
  have hcf := cut_facts (show cutB n (ord kind) (bC kind x n) = true from bestC_ok (fR kind x n) (ord kind) n hon 3)
  have HBD := Hid.mk' (fun i (hi : ord kind ≤ i) (hin : i < n) => fR_bd kind x n i h2 h7 (fun j hj => hX j (by omega)) hi)
  have HFR : Hid (∀ i, fR kind x n i = foldN (x i - guessG kind (wA kind x n) (wB kind x n) x i)) := fun i => rfl
  have HC7 := Hid.mk' (bodyA_cut kind width x n h2)
  have HC8 := Hid.mk' (fun i (hi : i < 2 ^ bC kind x n) => bodyA_par kind width x n i h2 hi (Nat.lt_of_lt_of_le hi (Nat.le_trans (Nat.pow_le_pow_right (by omega) hbC) (by decide))))
  have HCG := Hid.mk' (bodyA_guess kind width x n h2)
  have HTXT : Hid (gT kind width x n = numsT x width (ord kind) ++ ((if kind = 7 then binT (leanA x n) 6 ++ binT (leanB x n) 6 else []) ++ (binT (bC kind x n) 2 ++ partsT (fR kind x n) (ord kind) (n / 2 ^ bC kind x n) (2 ^ bC kind x n)))) := rfl
  have hP8 : 2 ^ bC kind x n ≤ 8 := Nat.le_trans (Nat.pow_le_pow_right (by omega) hbC) (by decide)
  have HPLL := Hid.mk' (partsL_le (fR kind x n) (ord kind) (n / 2 ^ bC kind x n) (2 ^ bC kind x n) n hn hcf.1 hcf.2 (fun i hi hin => (HBD.out i hi hin).2))
  obtain ⟨bc, hbc⟩ : ∃ bc, bc = bC kind x n := ⟨_, rfl⟩
  have hbc3 : bc ≤ 3 := by rw [hbc]; exact hbC
  rw [← hbc] at HC7 HC8 HTXT hP8 hcf HPLL
  obtain ⟨P, hP⟩ : ∃ P, P = 2 ^ bc := ⟨_, rfl⟩
  obtain ⟨sz, hsz⟩ : ∃ sz, sz = n / 2 ^ bc := ⟨_, rfl⟩
  have hmn : min bc 64 = bc := by omega
  have vsz : (n : Int) / 2 ^ bc = (sz : Int) := by rw [hsz]; simp
  have vP : IntKind.i64.wrap ((2 : Int) ^ bc) = (P : Int) := by rw [show ((2 : Int) ^ bc) = (P : Int) by rw [hP]; simp, IntKind.wrap_i64]; omega
  rw [← hsz] at HC8 HTXT hcf HPLL
  rw [← hP] at HC8 HTXT hP8 hcf HPLL
  have HSP : Hid (sz * P = n ∧ ord kind < sz) := hcf
  have hszn : sz ≤ n := by rw [hsz]; exact Nat.div_le_self _ _
  obtain ⟨F, hF⟩ : ∃ F, F = fR kind x n := ⟨_, rfl⟩
  rw [← hF] at HC8 HTXT HPLL HBD HFR
  clear hbc hP hsz hF hbC hcf hI hlow hX h hok hb0
  have HNS := Hid.mk' (wNumbers_any B b T x A (ord kind) c width w0 HA0.out (by omega) (by omega) (by omega) hBw0 (fun u hu j hj => HII.out u hu j (by omega)))
  by_cases hk : kind = 7
  · have k7 : ((kind : Int) == 7) = true := by simp; omega
    rw [if_pos hk] at HTXT
    have HY : Hid (binT (leanA x n) 6 ++ binT (leanB x n) 6 = numsT (wt kind (wA kind x n) (wB kind x n)) 6 2) := by
      have e0 : wt kind (wA kind x n) (wB kind x n) 0 = leanA x n := by rw [hk]; rfl
      have e1 : wt kind (wA kind x n) (wB kind x n) 1 = leanB x n := by rw [hk]; rfl
      show _ = _
      simp only [numsT, List.nil_append, e0, e1]
    rw [HY.out] at HTXT
    clear hk
    obtain ⟨T3, hT3⟩ : ∃ T3, T3 = T ++ numsT x width (ord kind) ++ numsT (wt kind (wA kind x n) (wB kind x n)) 6 2 ++ binT bc 2 := ⟨_, rfl⟩
    have hT3l : T3.length ≤ 2000 := by
      rw [hT3, List.length_append, List.length_append, List.length_append, numsT_length, numsT_length, binT_length]
      have : ord kind * width ≤ 4 * 13 := Nat.mul_le_mul ho hw
      omega
    have HTF : Hid (T ++ gT kind width x n = T3 ++ partsT F (ord kind) sz P) := by
      show _ = _
      rw [HTXT.out, hT3]; simp [List.append_assoc]
    have HLEN : Hid (∀ i, i ≤ P → (T3 ++ partsT F (ord kind) sz i).length ≤ 100000000000) := fun i hi => by
      have := HPLL.out i hi
      rw [List.length_append, partsT_length]
      have : i * 64000484 ≤ 8 * 64000484 := Nat.mul_le_mul_right _ (by omega)
      omega
    have HLEN2 : Hid (∀ i, i < P → ∀ K lo : Nat, K ≤ 14 → ord kind ≤ lo → ∀ m, lo + m ≤ n → (T3 ++ partsT F (ord kind) sz i ++ binT K 4 ++ codedT F K lo m).length ≤ 10000000000) := fun i hi K lo hK hlo m hm => by
      have := HPLL.out i (by omega)
      have h3 := plen_le F K lo 2000000 hK m (fun j hj => (HBD.out (lo + j) (by omega) (by omega)).2)
      have h4 : m * (2000000 + 15) ≤ 32 * (2000000 + 15) := Nat.mul_le_mul_right _ (by omega)
      rw [List.length_append, List.length_append, List.length_append, partsT_length, binT_length, codedT_length]
      have : i * 64000484 ≤ 8 * 64000484 := Nat.mul_le_mul_right _ (by omega)
      omega
    have HCUT := Hid.mk' (fun (u : World) (hu : Wr u B b (T ++ numsT x width (ord kind) ++ numsT (wt kind (wA kind x n) (wB kind x n)) 6 2)) (hs : B ≤ u.heap.size) => wNumber_any B b (T ++ numsT x width (ord kind) ++ numsT (wt kind (wA kind x n) (wB kind x n)) 6 2) (bc : Int) 2 u hu (by omega) (by rw [List.length_append, List.length_append, numsT_length, numsT_length]; have : ord kind * width ≤ 4 * 13 := Nat.mul_le_mul ho hw; omega) hs)
    rw [← hT3] at HCUT
    have HNW := Hid.mk' (fun (u : World) (hu : Wr u B b (T ++ numsT x width (ord kind))) (hk0 : KeptW B b w0 u) => wNumbers_any B b (T ++ numsT x width (ord kind)) (wt kind (wA kind x n) (wB kind x n)) (some ⟨w.heap.size, 2, none⟩) 2 4 6 u hu (by omega) (by omega) (by rw [List.length_append, numsT_length]; have : ord kind * width ≤ 4 * 13 := Nat.mul_le_mul ho hw; omega) (Nat.le_trans hBw0 hk0.1.size) (fun u' hu' j hj => ⟨_, rfl, by
      have hx := (HT0.out.keptW (hk0.trans hu') hTBb (by decide))
      match j, hj with
      | 0, _ => have := hx.cell 2; rw [HCG.out.2.1] at this; exact this
      | 1, _ => have := hx.cell 3; rw [HCG.out.2.2.1] at this; exact this⟩))
    have q1 := HT0.out.cell 1
    rw [bodyA_ord kind width x n h2] at q1
    clear hT3
    subst hw0
    go_enter Tryz.func191, Tryz.ntmps191
    go_wp2_with (first
      | (go_at_call 190; refine HNS.out.mono ?_; rintro e w1 ⟨rfl, h1, h2⟩; have HTX := Hid.mk' (HT0.out.keptW h2 hTBb (by decide)); have q0 := HTX.out.cell 0; have q7 := HTX.out.cell 7; rw [bodyA_kind] at q0; rw [HC7.out] at q7; have HM0 := Hid.mk' (And.intro h1 h2); clear HTX h1 h2 HNS q1)
      | (go_at_call 190; refine (HNW.out _ ?_ ?_).mono ?_; exact HM0.out.1; exact HM0.out.2; rintro e w1' ⟨rfl, h1, h2⟩; clear q0 q7; have HM1 := Hid.mk' (And.intro h1 (HM0.out.2.trans h2)); have HTX := Hid.mk' (HT0.out.keptW HM1.out.2 hTBb (by decide)); have q0 := HTX.out.cell 0; have q7 := HTX.out.cell 7; rw [bodyA_kind] at q0; rw [HC7.out] at q7; clear HTX h1 h2 HNW HM0)
      | (go_at_call 122; refine (HCUT.out _ ?_ ?_).mono ?_; exact HM1.out.1; exact Nat.le_trans hBw0 HM1.out.2.1.size; rintro e w2 ⟨rfl, h1, h2⟩; clear q0 q7; have HL := Hid.mk' (And.intro h1 (HM1.out.2.trans h2)); have HTX := Hid.mk' (HT0.out.keptW HL.out.2 hTBb (by decide)); have q0 := HTX.out.cell 0; have q7 := HTX.out.cell 7; rw [bodyA_kind] at q0; rw [HC7.out] at q7; clear HTX h1 h2 HCUT HM1))
    generalize w.alloc (.cells (bodyA kind width x n) 206) = w0 at *
    go_loopw [45] (fun iv wr => ∃ i : Nat, i ≤ P ∧ iv = .int .i64 i ∧ Hid (Wr wr B b (T3 ++ partsT F (ord kind) sz i) ∧ KeptW B b w0 wr)) (fun iv _ => P - (intOf iv).toNat)
    case atStart => exact ⟨0, Nat.zero_le _, rfl, by simpa [partsT] using HL.out.1, HL.out.2⟩
    case round =>
      clear HL q0 q7
      obtain ⟨i, hiP, rfl, HJ⟩ := hrel
      have hBr : B ≤ wr.heap.size := Nat.le_trans hBw0 HJ.out.2.1.size
      by_cases hlt : i < P
      · have hi1 : (i + 1) * sz ≤ n := by
          have h1 : (i + 1) * sz ≤ P * sz := Nat.mul_le_mul_right _ hlt
          rw [Nat.mul_comm P, HSP.out.1] at h1; exact h1
        obtain ⟨fr, hfr⟩ : ∃ fr, fr = i * sz := ⟨_, rfl⟩
        obtain ⟨lo, hlo⟩ : ∃ lo, lo = ploN (ord kind) sz i := ⟨_, rfl⟩
        obtain ⟨ct, hct⟩ : ∃ ct, ct = pcnt (ord kind) sz i := ⟨_, rfl⟩
        obtain ⟨K, hK⟩ : ∃ K, K = parN F (ord kind) sz i := ⟨_, rfl⟩
        have hK14 : K ≤ 14 := by rw [hK]; exact parK_le _ _ _
        have hfr1 : fr + sz ≤ n := by rw [Nat.succ_mul, ← hfr] at hi1; exact hi1
        have hloM : lo = max fr (ord kind) := by rw [hlo, hfr]; rfl
        have hctE : ct = fr + sz - lo := by rw [hct, hfr, hlo]; unfold pcnt; rw [Nat.succ_mul]
        have hfo : fr = 0 ∨ ord kind < fr := by
          rcases Nat.eq_zero_or_pos i with h | h
          · left; rw [hfr, h]; simp
          · right
            have : 1 * sz ≤ i * sz := Nat.mul_le_mul_right _ h
            have := HSP.out.2
            omega
        have hosz := HSP.out.2
        have hlc : lo + ct = fr + sz := by omega
        have hol : ord kind ≤ lo := by omega
        have v1 : IntKind.i64.wrap ((i : Int) * (sz : Int)) = (fr : Int) := by
          rw [show (i : Int) * (sz : Int) = ((i * sz : Nat) : Int) by simp, ← hfr, IntKind.wrap_i64]; omega
        have v2 : max (fr : Int) (ord kind : Int) = (lo : Int) := by omega
        have v3 : IntKind.i64.wrap ((i : Int) + 1) = (i : Int) + 1 := by rw [IntKind.wrap_i64]; omega
        have v4 : IntKind.i64.wrap (((i : Int) + 1) * (sz : Int)) = ((fr + sz : Nat) : Int) := by
          rw [show ((i : Int) + 1) * (sz : Int) = (((i + 1) * sz : Nat) : Int) by simp, Nat.succ_mul, ← hfr, IntKind.wrap_i64]; omega
        have HPT : Hid (partsT F (ord kind) sz (i + 1) = partsT F (ord kind) sz i ++ (binT K 4 ++ codedT F K lo ct)) := by rw [hK, hlo, hct]; rfl
        have HTX := Hid.mk' (HT0.out.keptW HJ.out.2 hTBb (by decide))
        have q8 := HTX.out.cell (8 + i)
        rw [HC8.out i hlt, ← hK] at q8
        have HNU := Hid.mk' (wNumber_any B b (T3 ++ partsT F (ord kind) sz i) (K : Int) 4 wr HJ.out.1 (by omega) (HLEN.out i hiP) hBr)
        have HL4 := Hid.mk' (fun m (hm : m ≤ ct) => HLEN2.out i hlt K lo hK14 hol m (by omega))
        clear hfr hlo hct hK hloM hctE hfo hi1 HTX
        go_wp2_with (go_at_call 122; refine HNU.out.mono ?_; rintro e w1 ⟨rfl, h1, h2⟩; have HM := Hid.mk' (And.intro h1 (HJ.out.2.trans h2)); clear h1 h2 HNU)
        have hcs : ((fr + sz : Nat) : Int) = ((lo + ct : Nat) : Int) := by rw [hlc]
        rw [hcs] at v4
        have hlcn : lo + ct ≤ n := by omega
        clear hcs hlc
        go_loopw [12] (fun pv wi => ∃ m : Nat, m ≤ ct ∧ pv = .int .i64 ((lo + m : Nat) : Int) ∧ Hid (Wr wi B b (T3 ++ partsT F (ord kind) sz i ++ binT K 4 ++ codedT F K lo m) ∧ KeptW B b w0 wi)) (fun pv _ => lo + ct - (intOf pv).toNat)
        case atStart => exact ⟨0, Nat.zero_le _, rfl, by simpa [codedT] using HM.out.1, HM.out.2⟩
        case round =>
          clear HM HJ q8 hBr
          obtain ⟨m, hm, rfl, HJ⟩ := hrel
          have hBr : B ≤ wr.heap.size := Nat.le_trans hBw0 HJ.out.2.1.size
          by_cases hml : m < ct
          · have hpl : lo + m < n := by omega
            obtain ⟨bb, off, hx, hc⟩ := (HII.out wr HJ.out.2).open (by omega)
            have hcj := hc (lo + m) hpl
            have hlw := HLOW.out _ hx (by omega)
            have HTX := Hid.mk' (HT0.out.keptW HJ.out.2 hTBb (by decide))
            have g1 := HTX.out.cell 1
            have g2 := HTX.out.cell 2
            have g3 := HTX.out.cell 3
            have g4 := HTX.out.cell 4
            have g5 := HTX.out.cell 5
            have g6 := HTX.out.cell 6
            rw [HCG.out.1] at g1
            rw [HCG.out.2.1] at g2
            rw [HCG.out.2.2.1] at g3
            rw [HCG.out.2.2.2.1] at g4
            rw [HCG.out.2.2.2.2.1] at g5
            rw [HCG.out.2.2.2.2.2] at g6
            have hwA := wA_bd kind x n
            have hwB := wB_bd kind x n
            have HGJ := Hid.mk' (guessI_any kind (wA kind x n) (wB kind x n) A (lo + m) c x wr.drew h2 h7 (by omega) (by omega) (by omega) (by omega) (fun j hj => HX.out j (by omega)) (fun j hj => HII.out wr HJ.out.2 j (by omega)) (fun y hy _ => Nat.lt_of_lt_of_le (HLOW.out y hy (by omega)) hBr))
            have hbd := (HBD.out (lo + m) (by omega) hpl).1
            have HFJ := Hid.mk' (HFR.out (lo + m))
            have hgb : -2000000 ≤ guessG kind (wA kind x n) (wB kind x n) x (lo + m) ∧ guessG kind (wA kind x n) (wB kind x n) x (lo + m) ≤ 2000000 := by have := HX.out (lo + m) hpl; omega
            obtain ⟨gv, hgv⟩ : ∃ v, v = guessG kind (wA kind x n) (wB kind x n) x (lo + m) := ⟨_, rfl⟩
            unfold gV at HGJ
            rw [← hgv] at HGJ hbd HFJ hgb
            obtain ⟨xv, hxv⟩ : ∃ v, v = x (lo + m) := ⟨_, rfl⟩
            rw [← hxv] at hcj hbd HFJ
            have HRI := Hid.mk' (fun (u : World) (hu : Wr u B b (T3 ++ partsT F (ord kind) sz i ++ binT K 4 ++ codedT F K lo m)) (hs : B ≤ u.heap.size) => wRice_any B b _ (xv - gv) K u hu hbd hK14 (HL4.out m (by omega)) hs)
            rw [← HFJ.out] at HRI
            have HCD : Hid (codedT F K lo (m + 1) = codedT F K lo m ++ riceT (F (lo + m)) K) := rfl
            have v5 : IntKind.i64.wrap (xv - gv) = xv - gv := by rw [IntKind.wrap_i64]; omega
            have hcj1 := Hid.mk' (fun (u : World) (h : Below wr.drew.heap.size wr.drew u) => (h.cell (p := ⟨bb, off + (lo + m), none⟩) (show bb < wr.drew.heap.size from Nat.lt_of_lt_of_le hlw hBr)).trans hcj)
            have t5 : decide (((lo + m : Nat) : Int) < ((lo + ct : Nat) : Int)) = true := decide_eq_true (by omega)
            have t6 : decide (lo + m < lo + ct) = true := decide_eq_true (by omega)
            generalize wt kind (wA kind x n) (wB kind x n) = wv at *
            clear hgv hbd hgb hxv hc HTX hwA hwB
            subst hx
            generalize hpp : lo + m = pl at *
            go_wp2
            go_region_with (first
              | (go_at_call 213; refine HGJ.out.mono ?_; rintro e w1 ⟨rfl, hb1⟩; have hcj2 := hcj1.out w1 hb1; have HWA := Hid.mk' (HJ.out.1.drew.below hb1); have HKA := Hid.mk' (HJ.out.2.drew.below hb1 hBr); clear hb1 HGJ)
              | (go_at_call 212; refine (HRI.out _ ?_ ?_).mono ?_; exact HWA.out; exact Nat.le_trans hBw0 HKA.out.1.size; rintro e w2 ⟨rfl, h1, h2⟩; have HWB := Hid.mk' h1; have HKB := Hid.mk' (HKA.out.trans h2); clear h1 h2 HRI))
            all_goals go_wp2
            all_goals go_roundw
            all_goals first
              | exact ⟨m + 1, by omega, by rw [← hpp]; go_num, by rw [HCD.out, ← List.append_assoc]; exact HWB.out, HKB.out⟩
              | (simp [intOf]; omega)
          · have e : m = ct := by omega
            subst e
            have t5 : decide (((lo + m : Nat) : Int) < ((lo + m : Nat) : Int)) = false := decide_eq_false (by omega)
            go_wp2
            exact ⟨⟨i + 1, by omega, by go_num, by rw [HPT.out, ← List.append_assoc, ← List.append_assoc]; exact HJ.out.1, HJ.out.2⟩, by simp [intOf]; omega⟩
      · have e : i = P := by omega
        subst e
        go_wp2
        go_end0
        exact ⟨rfl, by rw [HTF.out]; exact HJ.out.1, HW00.out.trans HJ.out.2.1⟩
  · have k7 : ((kind : Int) == 7) = false := by simp; omega
    rw [if_neg hk] at HTXT
    obtain ⟨T3, hT3⟩ : ∃ T3, T3 = T ++ numsT x width (ord kind) ++ binT bc 2 := ⟨_, rfl⟩
    have hT3l : T3.length ≤ 2000 := by
      rw [hT3, List.length_append, List.length_append, numsT_length, binT_length]
      have : ord kind * width ≤ 4 * 13 := Nat.mul_le_mul ho hw
      omega
    have HTF : Hid (T ++ gT kind width x n = T3 ++ partsT F (ord kind) sz P) := by
      show _ = _
      rw [HTXT.out, hT3]; simp [List.append_assoc]
    have HLEN : Hid (∀ i, i ≤ P → (T3 ++ partsT F (ord kind) sz i).length ≤ 100000000000) := fun i hi => by
      have := HPLL.out i hi
      rw [List.length_append, partsT_length]
      have : i * 64000484 ≤ 8 * 64000484 := Nat.mul_le_mul_right _ (by omega)
      omega
    have HLEN2 : Hid (∀ i, i < P → ∀ K lo : Nat, K ≤ 14 → ord kind ≤ lo → ∀ m, lo + m ≤ n → (T3 ++ partsT F (ord kind) sz i ++ binT K 4 ++ codedT F K lo m).length ≤ 10000000000) := fun i hi K lo hK hlo m hm => by
      have := HPLL.out i (by omega)
      have h3 := plen_le F K lo 2000000 hK m (fun j hj => (HBD.out (lo + j) (by omega) (by omega)).2)
      have h4 : m * (2000000 + 15) ≤ 32 * (2000000 + 15) := Nat.mul_le_mul_right _ (by omega)
      rw [List.length_append, List.length_append, List.length_append, partsT_length, binT_length, codedT_length]
      have : i * 64000484 ≤ 8 * 64000484 := Nat.mul_le_mul_right _ (by omega)
      omega
    have HCUT := Hid.mk' (fun (u : World) (hu : Wr u B b (T ++ numsT x width (ord kind))) (hs : B ≤ u.heap.size) => wNumber_any B b (T ++ numsT x width (ord kind)) (bc : Int) 2 u hu (by omega) (by rw [List.length_append, numsT_length]; have : ord kind * width ≤ 4 * 13 := Nat.mul_le_mul ho hw; omega) hs)
    rw [← hT3] at HCUT
    have q1 := HT0.out.cell 1
    rw [bodyA_ord kind width x n h2] at q1
    clear hT3
    subst hw0
    go_enter Tryz.func191, Tryz.ntmps191
    go_wp2_with (first
      | (go_at_call 190; refine HNS.out.mono ?_; rintro e w1 ⟨rfl, h1, h2⟩; have HTX := Hid.mk' (HT0.out.keptW h2 hTBb (by decide)); have q0 := HTX.out.cell 0; have q7 := HTX.out.cell 7; rw [bodyA_kind] at q0; rw [HC7.out] at q7; have HM1 := Hid.mk' (And.intro h1 h2); clear HTX h1 h2 HNS q1)
      | (go_at_call 122; refine (HCUT.out _ ?_ ?_).mono ?_; exact HM1.out.1; exact Nat.le_trans hBw0 HM1.out.2.1.size; rintro e w2 ⟨rfl, h1, h2⟩; clear q0 q7; have HL := Hid.mk' (And.intro h1 (HM1.out.2.trans h2)); have HTX := Hid.mk' (HT0.out.keptW HL.out.2 hTBb (by decide)); have q0 := HTX.out.cell 0; have q7 := HTX.out.cell 7; rw [bodyA_kind] at q0; rw [HC7.out] at q7; clear HTX h1 h2 HCUT HM1))
    generalize w.alloc (.cells (bodyA kind width x n) 206) = w0 at *
    go_loopw [45] (fun iv wr => ∃ i : Nat, i ≤ P ∧ iv = .int .i64 i ∧ Hid (Wr wr B b (T3 ++ partsT F (ord kind) sz i) ∧ KeptW B b w0 wr)) (fun iv _ => P - (intOf iv).toNat)
    case atStart => exact ⟨0, Nat.zero_le _, rfl, by simpa [partsT] using HL.out.1, HL.out.2⟩
    case round =>
      clear HL q0 q7
      obtain ⟨i, hiP, rfl, HJ⟩ := hrel
      have hBr : B ≤ wr.heap.size := Nat.le_trans hBw0 HJ.out.2.1.size
      by_cases hlt : i < P
      · have hi1 : (i + 1) * sz ≤ n := by
          have h1 : (i + 1) * sz ≤ P * sz := Nat.mul_le_mul_right _ hlt
          rw [Nat.mul_comm P, HSP.out.1] at h1; exact h1
        obtain ⟨fr, hfr⟩ : ∃ fr, fr = i * sz := ⟨_, rfl⟩
        obtain ⟨lo, hlo⟩ : ∃ lo, lo = ploN (ord kind) sz i := ⟨_, rfl⟩
        obtain ⟨ct, hct⟩ : ∃ ct, ct = pcnt (ord kind) sz i := ⟨_, rfl⟩
        obtain ⟨K, hK⟩ : ∃ K, K = parN F (ord kind) sz i := ⟨_, rfl⟩
        have hK14 : K ≤ 14 := by rw [hK]; exact parK_le _ _ _
        have hfr1 : fr + sz ≤ n := by rw [Nat.succ_mul, ← hfr] at hi1; exact hi1
        have hloM : lo = max fr (ord kind) := by rw [hlo, hfr]; rfl
        have hctE : ct = fr + sz - lo := by rw [hct, hfr, hlo]; unfold pcnt; rw [Nat.succ_mul]
        have hfo : fr = 0 ∨ ord kind < fr := by
          rcases Nat.eq_zero_or_pos i with h | h
          · left; rw [hfr, h]; simp
          · right
            have : 1 * sz ≤ i * sz := Nat.mul_le_mul_right _ h
            have := HSP.out.2
            omega
        have hosz := HSP.out.2
        have hlc : lo + ct = fr + sz := by omega
        have hol : ord kind ≤ lo := by omega
        have v1 : IntKind.i64.wrap ((i : Int) * (sz : Int)) = (fr : Int) := by
          rw [show (i : Int) * (sz : Int) = ((i * sz : Nat) : Int) by simp, ← hfr, IntKind.wrap_i64]; omega
        have v2 : max (fr : Int) (ord kind : Int) = (lo : Int) := by omega
        have v3 : IntKind.i64.wrap ((i : Int) + 1) = (i : Int) + 1 := by rw [IntKind.wrap_i64]; omega
        have v4 : IntKind.i64.wrap (((i : Int) + 1) * (sz : Int)) = ((fr + sz : Nat) : Int) := by
          rw [show ((i : Int) + 1) * (sz : Int) = (((i + 1) * sz : Nat) : Int) by simp, Nat.succ_mul, ← hfr, IntKind.wrap_i64]; omega
        have HPT : Hid (partsT F (ord kind) sz (i + 1) = partsT F (ord kind) sz i ++ (binT K 4 ++ codedT F K lo ct)) := by rw [hK, hlo, hct]; rfl
        have HTX := Hid.mk' (HT0.out.keptW HJ.out.2 hTBb (by decide))
        have q8 := HTX.out.cell (8 + i)
        rw [HC8.out i hlt, ← hK] at q8
        have HNU := Hid.mk' (wNumber_any B b (T3 ++ partsT F (ord kind) sz i) (K : Int) 4 wr HJ.out.1 (by omega) (HLEN.out i hiP) hBr)
        have HL4 := Hid.mk' (fun m (hm : m ≤ ct) => HLEN2.out i hlt K lo hK14 hol m (by omega))
        clear hfr hlo hct hK hloM hctE hfo hi1 HTX
        go_wp2_with (go_at_call 122; refine HNU.out.mono ?_; rintro e w1 ⟨rfl, h1, h2⟩; have HM := Hid.mk' (And.intro h1 (HJ.out.2.trans h2)); clear h1 h2 HNU)
        have hcs : ((fr + sz : Nat) : Int) = ((lo + ct : Nat) : Int) := by rw [hlc]
        rw [hcs] at v4
        have hlcn : lo + ct ≤ n := by omega
        clear hcs hlc
        go_loopw [12] (fun pv wi => ∃ m : Nat, m ≤ ct ∧ pv = .int .i64 ((lo + m : Nat) : Int) ∧ Hid (Wr wi B b (T3 ++ partsT F (ord kind) sz i ++ binT K 4 ++ codedT F K lo m) ∧ KeptW B b w0 wi)) (fun pv _ => lo + ct - (intOf pv).toNat)
        case atStart => exact ⟨0, Nat.zero_le _, rfl, by simpa [codedT] using HM.out.1, HM.out.2⟩
        case round =>
          clear HM HJ q8 hBr
          obtain ⟨m, hm, rfl, HJ⟩ := hrel
          have hBr : B ≤ wr.heap.size := Nat.le_trans hBw0 HJ.out.2.1.size
          by_cases hml : m < ct
          · have hpl : lo + m < n := by omega
            obtain ⟨bb, off, hx, hc⟩ := (HII.out wr HJ.out.2).open (by omega)
            have hcj := hc (lo + m) hpl
            have hlw := HLOW.out _ hx (by omega)
            have HTX := Hid.mk' (HT0.out.keptW HJ.out.2 hTBb (by decide))
            have g1 := HTX.out.cell 1
            have g2 := HTX.out.cell 2
            have g3 := HTX.out.cell 3
            have g4 := HTX.out.cell 4
            have g5 := HTX.out.cell 5
            have g6 := HTX.out.cell 6
            rw [HCG.out.1] at g1
            rw [HCG.out.2.1] at g2
            rw [HCG.out.2.2.1] at g3
            rw [HCG.out.2.2.2.1] at g4
            rw [HCG.out.2.2.2.2.1] at g5
            rw [HCG.out.2.2.2.2.2] at g6
            have hwA := wA_bd kind x n
            have hwB := wB_bd kind x n
            have HGJ := Hid.mk' (guessI_any kind (wA kind x n) (wB kind x n) A (lo + m) c x wr.drew h2 h7 (by omega) (by omega) (by omega) (by omega) (fun j hj => HX.out j (by omega)) (fun j hj => HII.out wr HJ.out.2 j (by omega)) (fun y hy _ => Nat.lt_of_lt_of_le (HLOW.out y hy (by omega)) hBr))
            have hbd := (HBD.out (lo + m) (by omega) hpl).1
            have HFJ := Hid.mk' (HFR.out (lo + m))
            have hgb : -2000000 ≤ guessG kind (wA kind x n) (wB kind x n) x (lo + m) ∧ guessG kind (wA kind x n) (wB kind x n) x (lo + m) ≤ 2000000 := by have := HX.out (lo + m) hpl; omega
            obtain ⟨gv, hgv⟩ : ∃ v, v = guessG kind (wA kind x n) (wB kind x n) x (lo + m) := ⟨_, rfl⟩
            unfold gV at HGJ
            rw [← hgv] at HGJ hbd HFJ hgb
            obtain ⟨xv, hxv⟩ : ∃ v, v = x (lo + m) := ⟨_, rfl⟩
            rw [← hxv] at hcj hbd HFJ
            have HRI := Hid.mk' (fun (u : World) (hu : Wr u B b (T3 ++ partsT F (ord kind) sz i ++ binT K 4 ++ codedT F K lo m)) (hs : B ≤ u.heap.size) => wRice_any B b _ (xv - gv) K u hu hbd hK14 (HL4.out m (by omega)) hs)
            rw [← HFJ.out] at HRI
            have HCD : Hid (codedT F K lo (m + 1) = codedT F K lo m ++ riceT (F (lo + m)) K) := rfl
            have v5 : IntKind.i64.wrap (xv - gv) = xv - gv := by rw [IntKind.wrap_i64]; omega
            have hcj1 := Hid.mk' (fun (u : World) (h : Below wr.drew.heap.size wr.drew u) => (h.cell (p := ⟨bb, off + (lo + m), none⟩) (show bb < wr.drew.heap.size from Nat.lt_of_lt_of_le hlw hBr)).trans hcj)
            have t5 : decide (((lo + m : Nat) : Int) < ((lo + ct : Nat) : Int)) = true := decide_eq_true (by omega)
            have t6 : decide (lo + m < lo + ct) = true := decide_eq_true (by omega)
            generalize wt kind (wA kind x n) (wB kind x n) = wv at *
            clear hgv hbd hgb hxv hc HTX hwA hwB
            subst hx
            generalize hpp : lo + m = pl at *
            go_wp2
            go_region_with (first
              | (go_at_call 213; refine HGJ.out.mono ?_; rintro e w1 ⟨rfl, hb1⟩; have hcj2 := hcj1.out w1 hb1; have HWA := Hid.mk' (HJ.out.1.drew.below hb1); have HKA := Hid.mk' (HJ.out.2.drew.below hb1 hBr); clear hb1 HGJ)
              | (go_at_call 212; refine (HRI.out _ ?_ ?_).mono ?_; exact HWA.out; exact Nat.le_trans hBw0 HKA.out.1.size; rintro e w2 ⟨rfl, h1, h2⟩; have HWB := Hid.mk' h1; have HKB := Hid.mk' (HKA.out.trans h2); clear h1 h2 HRI))
            all_goals go_wp2
            all_goals go_roundw
            all_goals first
              | exact ⟨m + 1, by omega, by rw [← hpp]; go_num, by rw [HCD.out, ← List.append_assoc]; exact HWB.out, HKB.out⟩
              | (simp [intOf]; omega)
          · have e : m = ct := by omega
            subst e
            have t5 : decide (((lo + m : Nat) : Int) < ((lo + m : Nat) : Int)) = false := decide_eq_false (by omega)
            go_wp2
            exact ⟨⟨i + 1, by omega, by go_num, by rw [HPT.out, ← List.append_assoc, ← List.append_assoc]; exact HJ.out.1, HJ.out.2⟩, by simp [intOf]; omega⟩
      · have e : i = P := by omega
        subst e
        go_wp2
        go_end0
        exact ⟨rfl, by rw [HTF.out]; exact HJ.out.1, HW00.out.trans HJ.out.2.1⟩
end Go.Proofs.YtlncjgnomhpjnaaGreatDoor

