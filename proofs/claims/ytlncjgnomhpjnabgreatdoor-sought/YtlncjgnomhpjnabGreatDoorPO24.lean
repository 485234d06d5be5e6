import Derived.Test.YtlncjgnomhpjnabGreatDoorPO22
import Derived.Test.YtlncjgnomhpjnabGreatDoorPO7
import Derived.Deep.RegionHeld3
/-
  The bits of bytes, and what only fills up: bittext.OfBytes, bittext.IsFill.
-/
namespace Go.Proofs.YtlncjgnomhpjnabGreatDoor
open Go.RowKit Go.Deep
set_option linter.unusedVariables false
theorem string_nil (T : TypeId) (B b : Nat) (p : Value) (w : World) (hbk : w.heap[b]? = some (.cells #[p, .slice none 0 0] T (0, 0))) :
    Calls Tryz.prog 201 #[.pointer (some ⟨b, 0, none⟩)] w fun e w' => e = .returned (.string ⟨#[]⟩) ∧ Below B w w' := by
  have c1 : w.drew.cell? ⟨b, 1, none⟩ = some (.slice none 0 0) := by
    have : w.drew.heap[b]? = some (.cells #[p, .slice none 0 0] T (0, 0)) := hbk
    rw [Lib.cell_of_heap this]; rfl
  have hSD : (Builtin.unsafeSliceData_ #[33] 322 #[.slice none 0 0]).run Tryz.prog w.drew = .ok (.pointer none) w.drew := Lib.run_unsafeSliceData_nil _ _ _ _ _
  have hUS : (Builtin.unsafeString_ #[322, 3] 9 #[.pointer none, .int .i64 0]).run Tryz.prog w.drew = .ok (.string ⟨#[]⟩) w.drew := Lib.run_unsafeString_none _ _ _ _ _
  clear hbk
  go_enter Tryz.func201, Tryz.ntmps201
  go_wp2
  go_region
  all_goals (go_wp2; go_ret; exact ⟨rfl, Below.drew (Below.refl B w)⟩)
theorem wText_nil (B b : Nat) (p : Value) (w : World) (hbk : w.heap[b]? = some (.cells #[p, .slice none 0 0] 326 (0, 0))) :
    Calls Tryz.prog 258 #[.pointer (some ⟨b, 0, none⟩)] w fun e w' => e = .returned (.string ⟨#[]⟩) ∧ Below B w w' := by
  have HS := Hid.mk' (string_nil 326 B b p w hbk)
  clear hbk
  go_enter Tryz.func258, Tryz.ntmps258
  go_wp2_with (go_at_call 201; refine HS.out.mono ?_; rintro e w1 ⟨rfl, hb⟩; have HB := Hid.mk' hb; clear hb HS)
  go_ret
  exact ⟨rfl, HB.out⟩
/-- a writer that holds these bits -/
def WrN (w : World) (B b : Nat) (T : List UInt8) : Prop := Wr w B b T ∧ (T = [] → w.heap[b]? = some (.cells #[.pointer none, .slice none 0 0] 326 (0, 0)))
theorem wrText (B b : Nat) (T : List UInt8) (w : World) (h : WrN w B b T) :
    Calls Tryz.prog 258 #[.pointer (some ⟨b, 0, none⟩)] w fun e w' => e = .returned (.string (bs T)) ∧ Below B w w' := by
  by_cases h0 : T = []
  · have hn := h.2 h0
    subst h0
    exact wText_nil B b _ w hn
  · exact wText_any B b T w h.1 h0
set_option maxRecDepth 4000 in
set_option maxHeartbeats 1000000 in
theorem ofBytes_any (T : List UInt8) (w : World) (hT : T.length ≤ 100000) :
    Calls Tryz.prog 207 #[.string (bs T)] w fun e w' => e = .returned (.string (bs (spellTo T T.length))) ∧ Below w.heap.size w w' := by
  have hz : (bs T).size = T.length := bs_size T
  have HG : Hid (∀ k (h : k < (bs T).size), (bs T)[k] = T[k]'(by rw [hz] at h; exact h)) := fun k h => bs_get T k h
  have HSL := Hid.mk' (spellTo_length T)
  have HSS := Hid.mk' (spellTo_step T)
  generalize bs T = S at *
  have HB0 : Hid (WrN (w.alloc (.cells #[.pointer none, .slice none 0 0] 326)) w.heap.size w.heap.size [] ∧ Below w.heap.size w (w.alloc (.cells #[.pointer none, .slice none 0 0] 326))) :=
    ⟨⟨.inl ⟨Nat.le_refl _, .slice none 0 0, blk_alloc_new _ _, ⟨rfl, .inl ⟨rfl, rfl⟩⟩, by simp [Value.ownBlock]⟩, fun _ => blk_alloc_new _ _⟩, (Below.refl _ _).alloc (Nat.le_refl _) _⟩
  go_enter Tryz.func207, Tryz.ntmps207
  go_wp2
  go_loopw [4, 7] (fun _ i wr => ∃ k : Nat, k ≤ T.length ∧ i = .int .i64 k ∧ Hid (WrN wr w.heap.size w.heap.size (spellTo T k) ∧ Below w.heap.size w wr)) (fun _ i _ => T.length - (intOf i).toNat)
  case atStart => exact ⟨0, Nat.zero_le _, rfl, HB0.out⟩
  case round =>
    obtain ⟨k, hk, rfl, HR⟩ := hrel
    by_cases hlt : k < T.length
    · have hkS : k < S.size := by omega
      have hc : S[k].toNat < 256 := UInt8.toNat_lt _
      have HE : Hid (spellTo T (k + 1) = spellTo T k ++ binT (S[k].toNat : Nat) 8) := by show _ = _; rw [HSS.out k hlt, HG.out k hkS]
      have HL := Hid.mk' (HSL.out k)
      generalize hc0 : S[k].toNat = c at *
      have HW := Hid.mk' (fun (u : World) (hu : Wr u w.heap.size w.heap.size (spellTo T k)) (hs : w.heap.size ≤ u.heap.size) => wNumber_any w.heap.size w.heap.size (spellTo T k) (c : Int) 8 u hu (by decide) (by rw [HL.out]; omega) hs)
      have e8 : ((8 : Nat) : Int) = 8 := rfl
      rw [e8] at HW
      go_wp2_with (go_at_call 257; refine (HW.out _ HR.out.1.1 HR.out.2.size).mono ?_; rintro e u1 ⟨rfl, hw1, hk1⟩; have HN : Hid (WrN u1 w.heap.size w.heap.size (spellTo T (k + 1)) ∧ Below w.heap.size w u1) := ⟨⟨by rw [HE.out]; exact hw1, fun e => by have := HSL.out (k + 1); rw [e] at this; simp at this⟩, HR.out.2.trans hk1.1⟩; clear hw1 hk1 HW)
      go_roundw
      case rel => exact ⟨k + 1, by omega, by go_num, HN.out⟩
      case measure => simp [intOf]; omega
    · have e : k = T.length := by omega
      subst e
      have HTX := Hid.mk' (wrText w.heap.size w.heap.size (spellTo T T.length) wr HR.out.1)
      go_wp2_with (go_at_call 258; refine HTX.out.mono ?_; rintro e u1 ⟨rfl, hb1⟩; have HB1 := Hid.mk' (HR.out.2.trans hb1); clear hb1 HTX)
      go_ret
      exact ⟨rfl, HB1.out⟩
theorem bs_cut' (T : List UInt8) (a b : Nat) : (bs T).extract a b = bs ((T.drop a).take (b - a)) := by
  apply ByteArray.ext
  have hd : ((bs T).extract a b).data = (bs T).data.extract a b := by simp
  rw [hd]
  show T.toArray.extract a b = ((T.drop a).take (b - a)).toArray
  simp [List.extract_toArray, List.extract_eq_take_drop]
set_option maxHeartbeats 400000 in
theorem trimRight_any (T : List UInt8) (c : UInt8) (w : World) (hT : T.length ≤ 100000) :
    Calls Tryz.prog 308 #[.string (bs T), .int .u8 c.toNat] w fun e w' => ∃ k, k ≤ T.length ∧ e = .returned (.string (bs (T.take k))) ∧ (∀ j, k ≤ j → j < T.length → T.getD j 0 = c) ∧ (k = 0 ∨ T.getD (k - 1) 0 ≠ c) ∧ w' = w := by
  have HG : Hid (∀ k, k ≤ T.length → ∀ j (h : j < (bs (T.take k)).size), (bs (T.take k))[j] = T.getD j 0) := fun k hk j h => by
    have h2 : j < (T.take k).length := by rw [bs_size] at h; exact h
    have h3 : j < T.length := by rw [List.length_take] at h2; omega
    rw [bs_get, List.getD_eq_getElem?_getD, List.getElem?_eq_getElem h3, Option.getD_some, List.getElem_take]
  have HZ : Hid (∀ k, k ≤ T.length → (bs (T.take k)).size = k) := fun k hk => by rw [bs_size, List.length_take]; omega
  have HX : Hid (∀ k, k + 1 ≤ T.length → (bs (T.take (k + 1))).extract 0 k = bs (T.take k)) := fun k hk => by rw [bs_takeN, List.take_take]; congr 2; omega
  have HT : Hid (bs T = bs (T.take T.length)) := by show _ = _; rw [List.take_length]
  rw [HT.out]
  generalize hTT : (fun k => bs (T.take k)) = TT at *
  have eT : ∀ k, bs (T.take k) = TT k := fun k => by rw [← hTT]
  rw [eT]
  have HG2 : Hid (∀ k, k ≤ T.length → ∀ j (h : j < (TT k).size), (TT k)[j] = T.getD j 0) := by rw [← hTT]; exact HG
  have HZ2 : Hid (∀ k, k ≤ T.length → (TT k).size = k) := by rw [← hTT]; exact HZ
  have HX2 : Hid (∀ k, k + 1 ≤ T.length → (TT (k + 1)).extract 0 k = TT k) := by rw [← hTT]; exact HX
  have HFI : Hid (∀ k, bs (T.take k) = TT k) := eT
  clear hTT eT HT HG HZ HX
  go_enter Tryz.func308, Tryz.ntmps308
  go_wp2
  go_loop [0] (fun sv => ∃ k : Nat, k ≤ T.length ∧ sv = .string (TT k) ∧ Hid (∀ j, k ≤ j → j < T.length → T.getD j 0 = c)) (fun sv => match sv with | .string s => s.size | _ => 0)
  case atStart => exact ⟨T.length, Nat.le_refl _, rfl, fun j h1 h2 => absurd h2 (by omega)⟩
  case round =>
    obtain ⟨k, hk, rfl, HK⟩ := hrel
    have hz := HZ2.out k hk
    match k, hk with
    | 0, _ =>
      have HN : Hid (bs (T.take 0) = TT 0) := HFI.out 0
      generalize TT 0 = S at *
      go_wp2
      go_ret
      exact ⟨0, Nat.zero_le _, by rw [HN.out]; rfl, HK.out, .inl rfl, rfl⟩
    | k + 1, hk =>
      have hx := HX2.out k hk
      have hg := HG2.out (k + 1) hk k (by omega)
      have HN : Hid (bs (T.take (k + 1)) = TT (k + 1)) := HFI.out (k + 1)
      have w1 : IntKind.i64.wrap ((k + 1 : Nat) : Int) = ((k + 1 : Nat) : Int) := by rw [IntKind.wrap_i64]; omega
      have w2 : IntKind.i64.wrap (((k + 1 : Nat) : Int) - 1) = (k : Int) := by rw [IntKind.wrap_i64]; omega
      by_cases hc : T.getD k 0 = c
      · have hb : (((TT (k + 1))[k]'(by omega)).toNat : Int) = (c.toNat : Int) := by rw [hg, hc]
        have hb2 : ((TT (k + 1))[k]'(by omega)).toNat = c.toNat := by rw [hg, hc]
        have HK2 : Hid (∀ j, k ≤ j → j < T.length → T.getD j 0 = c) := fun j h1 h2 => by
          by_cases e : j = k
          · rw [e]; exact hc
          · exact HK.out j (by omega) h2
        clear hg hc
        go_wp2
        go_round
        case rel => exact ⟨k, by omega, rfl, HK2.out⟩
        case measure =>
          show (TT k).size < (TT (k + 1)).size
          rw [HZ2.out k (by omega), hz]; omega
      · have hb2 : ¬ ((TT (k + 1))[k]'(by omega)).toNat = c.toNat := fun e => hc (by rw [← hg]; exact UInt8.toNat_inj.1 e)
        have hb : ((((TT (k + 1))[k]'(by omega)).toNat : Int) == (c.toNat : Int)) = false := by simp; omega
        have HC := Hid.mk' hc
        clear hg hc
        go_wp2
        go_ret
        exact ⟨k + 1, hk, by rw [HN.out]; rfl, HK.out, .inr (by simpa using HC.out), rfl⟩
set_option maxHeartbeats 400000 in
theorem trimLeft_any (T : List UInt8) (c : UInt8) (w : World) (hT : T.length ≤ 100000) :
    Calls Tryz.prog 307 #[.string (bs T), .int .u8 c.toNat] w fun e w' => ∃ k, k ≤ T.length ∧ e = .returned (.string (bs (T.drop k))) ∧ (∀ j, j < k → T.getD j 0 = c) ∧ (k = T.length ∨ T.getD k 0 ≠ c) ∧ w' = w := by
  have HG : Hid (∀ k, k < T.length → ∀ (h : 0 < (bs (T.drop k)).size), (bs (T.drop k))[0] = T.getD k 0) := fun k hk h => by
    rw [bs_get, List.getD_eq_getElem?_getD, List.getElem?_eq_getElem hk, Option.getD_some, List.getElem_drop]
    simp
  have HZ : Hid (∀ k, k ≤ T.length → (bs (T.drop k)).size = T.length - k) := fun k hk => by rw [bs_size, List.length_drop]
  have HX : Hid (∀ k, k < T.length → (bs (T.drop k)).extract 1 (T.length - k) = bs (T.drop (k + 1))) := fun k hk => by
    rw [bs_cut']
    congr 1
    rw [List.drop_drop, List.take_of_length_le (by rw [List.length_drop]; omega)]
  have HT : Hid (bs T = bs (T.drop 0)) := by show _ = _; rw [List.drop_zero]
  rw [HT.out]
  generalize hTT : (fun k => bs (T.drop k)) = TT at *
  have eT : ∀ k, bs (T.drop k) = TT k := fun k => by rw [← hTT]
  rw [eT]
  have HG2 : Hid (∀ k, k < T.length → ∀ (h : 0 < (TT k).size), (TT k)[0] = T.getD k 0) := by rw [← hTT]; exact HG
  have HZ2 : Hid (∀ k, k ≤ T.length → (TT k).size = T.length - k) := by rw [← hTT]; exact HZ
  have HX2 : Hid (∀ k, k < T.length → (TT k).extract 1 (T.length - k) = TT (k + 1)) := by rw [← hTT]; exact HX
  have HFI : Hid (∀ k, bs (T.drop k) = TT k) := eT
  clear hTT eT HT HG HZ HX
  generalize hn : T.length = n at *
  have HN := Hid.mk' hn
  clear hn
  go_enter Tryz.func307, Tryz.ntmps307
  go_wp2
  go_loop [0] (fun sv => ∃ k : Nat, k ≤ n ∧ sv = .string (TT k) ∧ Hid (∀ j, j < k → T.getD j 0 = c)) (fun sv => match sv with | .string s => s.size | _ => 0)
  case atStart => exact ⟨0, Nat.zero_le _, rfl, fun j h1 => absurd h1 (by omega)⟩
  case round =>
    obtain ⟨k, hk, rfl, HK⟩ := hrel
    have hz := HZ2.out k hk
    have HFK := Hid.mk' (HFI.out k)
    by_cases hlt : k < n
    · have hx := HX2.out k hlt
      have hz1 := HZ2.out (k + 1) hlt
      generalize hr : n - k = r at *
      have hr1 : 1 ≤ r := by omega
      have hg := HG2.out k hlt (by omega)
      have hr2 : n - (k + 1) < r := by omega
      have hr3 : r ≤ 100000 := by omega
      by_cases hc : T.getD k 0 = c
      · have hb2 : ((TT k)[0]'(by omega)).toNat = c.toNat := by rw [hg, hc]
        have HK2 : Hid (∀ j, j < k + 1 → T.getD j 0 = c) := fun j h1 => by
          by_cases e : j = k
          · rw [e]; exact hc
          · exact HK.out j (by omega)
        clear hg hc hr
        go_wp2
        go_round
        case rel => exact ⟨k + 1, by omega, rfl, HK2.out⟩
        case measure =>
          show (TT (k + 1)).size < (TT k).size
          rw [hz1, hz]; exact hr2
      · have hb2 : ¬ ((TT k)[0]'(by omega)).toNat = c.toNat := fun e => hc (by rw [← hg]; exact UInt8.toNat_inj.1 e)
        have hb : ((((TT k)[0]'(by omega)).toNat : Int) == (c.toNat : Int)) = false := by simp; omega
        have HC := Hid.mk' hc
        clear hg hc hr
        go_wp2
        go_ret
        exact ⟨k, hk, by rw [HFK.out]; rfl, HK.out, .inr HC.out, rfl⟩
    · have hz0 : (TT k).size = 0 := by omega
      clear hz
      go_wp2
      go_ret
      exact ⟨k, hk, by rw [HFK.out]; rfl, HK.out, .inl (by omega), rfl⟩
theorem str_full' {X : ByteArray} (h : 0 < X.size) : ¬ X.toList = [] := fun e => by
  rw [ByteArray.toList_eq] at e
  have h1 : X.data.toList.length = X.size := by simp
  rw [e] at h1
  simp at h1
  omega
/-- bits that do nothing but fill a byte up -/
def FillP (T : List UInt8) : Prop := T.length < 8 ∧ ∀ j, j < T.length → T.getD j 0 = 48
theorem trim_math {T : List UInt8} {k m : Nat} (h0 : 0 < T.length) (hk : k ≤ T.length) (h1 : ∀ j, k ≤ j → j < T.length → T.getD j 0 = 48) (h2 : k = 0 ∨ T.getD (k - 1) 0 ≠ 48) (hm : m ≤ (T.take k).length) (h3 : ∀ j, j < m → (T.take k).getD j 0 = 48) (h4 : m = (T.take k).length ∨ (T.take k).getD m 0 ≠ 48) :
    ((T.take k).drop m = [] ↔ ∀ j, j < T.length → T.getD j 0 = 48) := by
  have hl : (T.take k).length = k := by rw [List.length_take]; omega
  have hg : ∀ j, j < k → (T.take k).getD j 0 = T.getD j 0 := fun j hj => by
    rw [List.getD_eq_getElem?_getD, List.getD_eq_getElem?_getD, List.getElem?_take, if_pos hj]
  rw [hl] at hm h4
  constructor
  · intro h j hj
    have hlen := congrArg List.length h
    rw [List.length_drop, hl] at hlen
    simp at hlen
    by_cases hjk : j < k
    · rw [← hg j hjk]; exact h3 j (by omega)
    · exact h1 j (by omega) hj
  · intro h
    have hk0 : k = 0 := by
      rcases h2 with e | e
      · exact e
      · by_cases hk0 : k = 0
        · exact hk0
        · exact absurd (h (k - 1) (by omega)) e
    subst hk0
    simp
set_option maxRecDepth 4000 in
set_option maxHeartbeats 400000 in
theorem trim_nil (w : World) : Calls Tryz.prog 286 #[.string ⟨#[]⟩, .string ⟨#[48]⟩] w fun e w' => e = .returned (.string ⟨#[]⟩) ∧ w' = w := by
  go_enter Tryz.func286, Tryz.ntmps286
  go_wp2
  go_ret
  exact ⟨rfl, rfl⟩
set_option maxRecDepth 4000 in
set_option maxHeartbeats 400000 in
theorem trim_any (T : List UInt8) (w : World) (hT : T.length ≤ 100000) :
    Calls Tryz.prog 286 #[.string (bs T), .string ⟨#[48]⟩] w fun e w' => ∃ U, e = .returned (.string (bs U)) ∧ (U = [] ↔ ∀ j, j < T.length → T.getD j 0 = 48) ∧ (w' = w ∨ w' = w.drew) := by
  by_cases hT0 : T = []
  · subst hT0
    exact (trim_nil w).mono fun e w' ⟨he, hw⟩ => ⟨[], he, ⟨fun _ j hj => absurd hj (Nat.not_lt_zero j), fun _ => rfl⟩, .inl hw⟩
  · have hlen : 0 < T.length := List.length_pos_iff.2 hT0
    have hne : ¬ (bs T).toList = [] := str_full' (by rw [bs_size]; exact hlen)
    have hne2 : (bs T).toList.isEmpty = false := by
      cases h : (bs T).toList.isEmpty with
      | false => rfl
      | true => exact absurd (List.isEmpty_iff.1 h) hne
    have HR := Hid.mk' (trimRight_any T 48 w.drew hT)
    have HL := Hid.mk' (fun k (hk : k ≤ T.length) => trimLeft_any (T.take k) 48 w.drew (by rw [List.length_take]; omega))
    have HLen := Hid.mk' hlen
    have e48 : (((48 : UInt8).toNat : Nat) : Int) = 48 := rfl
    rw [e48] at HR
    simp only [e48] at HL
    clear hT0 e48 hlen
    generalize hS : bs T = S at *
    clear hS
    go_enter Tryz.func286, Tryz.ntmps286
    go_wp2_with fail
    go_region_held3 (fun w' => True)
      (trivial)
      (first
      | (go_at_call 308; refine HR.out.mono ?_; rintro e u1 ⟨k, hk, rfl, h1, h2, hw⟩; subst u1; have HL1 := Hid.mk' (HL.out k hk); have H1 := Hid.mk' h1; have H2 := Hid.mk' h2; clear h1 h2 HR)
      | (go_at_call 307; refine HL1.out.mono ?_; rintro e u2 ⟨m, hm, rfl, h3, h4, hw⟩; subst u2; have H3 := Hid.mk' h3; have H4 := Hid.mk' h4; have HMM := Hid.mk' hm; clear h3 h4 HL1 hm))
    all_goals (go_wp2; go_ret; exact ⟨_, rfl, trim_math HLen.out hk H1.out H2.out HMM.out H3.out H4.out, .inr rfl⟩)
set_option maxRecDepth 4000 in
set_option maxHeartbeats 400000 in
theorem isFill_any (T : List UInt8) (w : World) (hT : T.length ≤ 100000) :
    Calls Tryz.prog 256 #[.string (bs T)] w fun e w' => Says e (FillP T) ∧ Below w.heap.size w w' := by
  have hz : (bs T).size = T.length := bs_size T
  have HTR := Hid.mk' (fun u => trim_any T u hT)
  by_cases h8 : T.length < 8
  · have t1 : decide ((T.length : Int) < 8) = true := decide_eq_true (by omega)
    have HF : Hid ((∀ j, j < T.length → T.getD j 0 = 48) ↔ FillP T) := ⟨fun h => ⟨h8, h⟩, fun h => h.2⟩
    generalize bs T = S at *
    generalize hn : T.length = n at *
    clear hn
    go_enter Tryz.func256, Tryz.ntmps256
    go_wp2_with (go_at_call 286; refine (HTR.out _).mono ?_; rintro e u1 ⟨U, rfl, hU, hw⟩; have HU := Hid.mk' hU; have HB : Hid (Below w.heap.size w u1) := (by rcases hw with e | e <;> rw [e]; exact Below.refl _ _; exact (Below.refl _ _).drew); clear hU hw HTR)
    go_ret
    exact ⟨⟨_, rfl, by rw [List.isEmpty_iff, ByteArray.toList_eq, bs_list]; exact HU.out.trans HF.out⟩, HB.out⟩
  · have t1 : decide ((T.length : Int) < 8) = false := decide_eq_false (by omega)
    have HF : Hid (¬ FillP T) := fun h => h8 h.1
    generalize bs T = S at *
    generalize hn : T.length = n at *
    clear hn HTR
    go_enter Tryz.func256, Tryz.ntmps256
    go_wp2
    go_ret
    exact ⟨Says.no HF.out, Below.refl _ _⟩
end Go.Proofs.YtlncjgnomhpjnabGreatDoor

