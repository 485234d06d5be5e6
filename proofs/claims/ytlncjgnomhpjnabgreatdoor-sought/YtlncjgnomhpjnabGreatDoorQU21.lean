import Derived.Test.YtlncjgnomhpjnabGreatDoorQU16
import Derived.Test.YtlncjgnomhpjnabGreatDoorQU5
import Derived.Deep.RegionHeld3
import Derived.Test.YtlncjgnomhpjnabGreatDoorQU4
import Derived.Test.YtlncjgnomhpjnabGreatDoorQU20
import Derived.WalkMore
import Derived.Test.YtlncjgnomhpjnabGreatDoorQU15
/-
  The bits of bytes, and what only fills up: bittext.OfBytes, bittext.IsFill.
-/
namespace Go.Proofs.YtlncjgnomhpjnabGreatDoor
open Go.RowKit Go.Deep
set_option linter.unusedVariables false
theorem string_nil (T : TypeId) (B b : Nat) (p : Value) (w : World) (hbk : w.heap[b]? = some (.cells #[p, .slice none 0 0] T (0, 0))) :
    Calls Tryz.prog 201 #[.pointer (some ⟨b, 0, none⟩)] w fun e w' => e = .returned (.string ⟨#[]⟩) ∧ Below B w w' := by
  have c1 : w.drew.cell? ⟨b, 1, none⟩ = some (.slice none 0 0) := by
    have : w.drew.heap[b]? = some (.cells #[p, .slice none 0 0] T (0, 0)) := hbk
    rw [Lib.cell_of_heap this]; rfl
  have hSD : (Builtin.unsafeSliceData_ #[33] 322 #[.slice none 0 0]).run Tryz.prog w.drew = .ok (.pointer none) w.drew := Lib.run_unsafeSliceData_nil _ _ _ _ _
  have hUS : (Builtin.unsafeString_ #[322, 3] 9 #[.pointer none, .int .i64 0]).run Tryz.prog w.drew = .ok (.string ⟨#[]⟩) w.drew := Lib.run_unsafeString_none _ _ _ _ _
  clear hbk
  go_enter Tryz.func201, Tryz.ntmps201
  go_wp2
  go_region
  all_goals (go_wp2; go_ret; exact ⟨rfl, Below.drew (Below.refl B w)⟩)
theorem wText_nil (B b : Nat) (p : Value) (w : World) (hbk : w.heap[b]? = some (.cells #[p, .slice none 0 0] 326 (0, 0))) :
    Calls Tryz.prog 258 #[.pointer (some ⟨b, 0, none⟩)] w fun e w' => e = .returned (.string ⟨#[]⟩) ∧ Below B w w' := by
  have HS := Hid.mk' (string_nil 326 B b p w hbk)
  clear hbk
  go_enter Tryz.func258, Tryz.ntmps258
  go_wp2_with (go_at_call 201; refine HS.out.mono ?_; rintro e w1 ⟨rfl, hb⟩; have HB := Hid.mk' hb; clear hb HS)
  go_ret
  exact ⟨rfl, HB.out⟩
/-- a writer that holds these bits -/
def WrN (w : World) (B b : Nat) (T : List UInt8) : Prop := Wr w B b T ∧ (T = [] → w.heap[b]? = some (.cells #[.pointer none, .slice none 0 0] 326 (0, 0)))
theorem wrText (B b : Nat) (T : List UInt8) (w : World) (h : WrN w B b T) :
    Calls Tryz.prog 258 #[.pointer (some ⟨b, 0, none⟩)] w fun e w' => e = .returned (.string (bs T)) ∧ Below B w w' := by
  by_cases h0 : T = []
  · have hn := h.2 h0
    subst h0
    exact wText_nil B b _ w hn
  · exact wText_any B b T w h.1 h0
set_option maxRecDepth 4000 in
set_option maxHeartbeats 1000000 in
theorem ofBytes_any (T : List UInt8) (w : World) (hT : T.length ≤ 100000) :
    Calls Tryz.prog 207 #[.string (bs T)] w fun e w' => e = .returned (.string (bs (spellTo T T.length))) ∧ Below w.heap.size w w' := by
  have hz : (bs T).size = T.length := bs_size T
  have HG : Hid (∀ k (h : k < (bs T).size), (bs T)[k] = T[k]'(by rw [hz] at h; exact h)) := fun k h => bs_get T k h
  have HSL := Hid.mk' (spellTo_length T)
  have HSS := Hid.mk' (spellTo_step T)
  generalize bs T = S at *
  have HB0 : Hid (WrN (w.alloc (.cells #[.pointer none, .slice none 0 0] 326)) w.heap.size w.heap.size [] ∧ Below w.heap.size w (w.alloc (.cells #[.pointer none, .slice none 0 0] 326))) :=
    ⟨⟨.inl ⟨Nat.le_refl _, .slice none 0 0, blk_alloc_new _ _, ⟨rfl, .inl ⟨rfl, rfl⟩⟩, by simp [Value.ownBlock]⟩, fun _ => blk_alloc_new _ _⟩, (Below.refl _ _).alloc (Nat.le_refl _) _⟩
  go_enter Tryz.func207, Tryz.ntmps207
  go_wp2
  go_loopw [4, 7] (fun _ i wr => ∃ k : Nat, k ≤ T.length ∧ i = .int .i64 k ∧ Hid (WrN wr w.heap.size w.heap.size (spellTo T k) ∧ Below w.heap.size w wr)) (fun _ i _ => T.length - (intOf i).toNat)
  case atStart => exact ⟨0, Nat.zero_le _, rfl, HB0.out⟩
  case round =>
    obtain ⟨k, hk, rfl, HR⟩ := hrel
    by_cases hlt : k < T.length
    · have hkS : k < S.size := by omega
      have hc : S[k].toNat < 256 := UInt8.toNat_lt _
      have HE : Hid (spellTo T (k + 1) = spellTo T k ++ binT (S[k].toNat : Nat) 8) := by show _ = _; rw [HSS.out k hlt, HG.out k hkS]
      have HL := Hid.mk' (HSL.out k)
      generalize hc0 : S[k].toNat = c at *
      have HW := Hid.mk' (fun (u : World) (hu : Wr u w.heap.size w.heap.size (spellTo T k)) (hs : w.heap.size ≤ u.heap.size) => wNumber_any w.heap.size w.heap.size (spellTo T k) (c : Int) 8 u hu (by decide) (by rw [HL.out]; omega) hs)
      have e8 : ((8 : Nat) : Int) = 8 := rfl
      rw [e8] at HW
      go_wp2_with (go_at_call 257; refine (HW.out _ HR.out.1.1 HR.out.2.size).mono ?_; rintro e u1 ⟨rfl, hw1, hk1⟩; have HN : Hid (WrN u1 w.heap.size w.heap.size (spellTo T (k + 1)) ∧ Below w.heap.size w u1) := ⟨⟨by rw [HE.out]; exact hw1, fun e => by have := HSL.out (k + 1); rw [e] at this; simp at this⟩, HR.out.2.trans hk1.1⟩; clear hw1 hk1 HW)
      go_roundw
      case rel => exact ⟨k + 1, by omega, by go_num, HN.out⟩
      case measure => simp [intOf]; omega
    · have e : k = T.length := by omega
      subst e
      have HTX := Hid.mk' (wrText w.heap.size w.heap.size (spellTo T T.length) wr HR.out.1)
      go_wp2_with (go_at_call 258; refine HTX.out.mono ?_; rintro e u1 ⟨rfl, hb1⟩; have HB1 := Hid.mk' (HR.out.2.trans hb1); clear hb1 HTX)
      go_ret
      exact ⟨rfl, HB1.out⟩
theorem bs_cut' (T : List UInt8) (a b : Nat) : (bs T).extract a b = bs ((T.drop a).take (b - a)) := by
  apply ByteArray.ext
  have hd : ((bs T).extract a b).data = (bs T).data.extract a b := by simp
  rw [hd]
  show T.toArray.extract a b = ((T.drop a).take (b - a)).toArray
  simp [List.extract_toArray, List.extract_eq_take_drop]
set_option maxHeartbeats 400000 in
theorem trimRight_any (T : List UInt8) (c : UInt8) (w : World) (hT : T.length ≤ 100000) :
    Calls Tryz.prog 308 #[.string (bs T), .int .u8 c.toNat] w fun e w' => ∃ k, k ≤ T.length ∧ e = .returned (.string (bs (T.take k))) ∧ (∀ j, k ≤ j → j < T.length → T.getD j 0 = c) ∧ (k = 0 ∨ T.getD (k - 1) 0 ≠ c) ∧ w' = w := by
  have HG : Hid (∀ k, k ≤ T.length → ∀ j (h : j < (bs (T.take k)).size), (bs (T.take k))[j] = T.getD j 0) := fun k hk j h => by
    have h2 : j < (T.take k).length := by rw [bs_size] at h; exact h
    have h3 : j < T.length := by rw [List.length_take] at h2; omega
    rw [bs_get, List.getD_eq_getElem?_getD, List.getElem?_eq_getElem h3, Option.getD_some, List.getElem_take]
  have HZ : Hid (∀ k, k ≤ T.length → (bs (T.take k)).size = k) := fun k hk => by rw [bs_size, List.length_take]; omega
  have HX : Hid (∀ k, k + 1 ≤ T.length → (bs (T.take (k + 1))).extract 0 k = bs (T.take k)) := fun k hk => by rw [bs_takeN, List.take_take]; congr 2; omega
  have HT : Hid (bs T = bs (T.take T.length)) := by show _ = _; rw [List.take_length]
  rw [HT.out]
  generalize hTT : (fun k => bs (T.take k)) = TT at *
  have eT : ∀ k, bs (T.take k) = TT k := fun k => by rw [← hTT]
  rw [eT]
  have HG2 : Hid (∀ k, k ≤ T.length → ∀ j (h : j < (TT k).size), (TT k)[j] = T.getD j 0) := by rw [← hTT]; exact HG
  have HZ2 : Hid (∀ k, k ≤ T.length → (TT k).size = k) := by rw [← hTT]; exact HZ
  have HX2 : Hid (∀ k, k + 1 ≤ T.length → (TT (k + 1)).extract 0 k = TT k) := by rw [← hTT]; exact HX
  have HFI : Hid (∀ k, bs (T.take k) = TT k) := eT
  clear hTT eT HT HG HZ HX
  go_enter Tryz.func308, Tryz.ntmps308
  go_wp2
  go_loop [0] (fun sv => ∃ k : Nat, k ≤ T.length ∧ sv = .string (TT k) ∧ Hid (∀ j, k ≤ j → j < T.length → T.getD j 0 = c)) (fun sv => match sv with | .string s => s.size | _ => 0)
  case atStart => exact ⟨T.length, Nat.le_refl _, rfl, fun j h1 h2 => absurd h2 (by omega)⟩
  case round =>
    obtain ⟨k, hk, rfl, HK⟩ := hrel
    have hz := HZ2.out k hk
    match k, hk with
    | 0, _ =>
      have HN : Hid (bs (T.take 0) = TT 0) := HFI.out 0
      generalize TT 0 = S at *
      go_wp2
      go_ret
      exact ⟨0, Nat.zero_le _, by rw [HN.out]; rfl, HK.out, .inl rfl, rfl⟩
    | k + 1, hk =>
      have hx := HX2.out k hk
      have hg := HG2.out (k + 1) hk k (by omega)
      have HN : Hid (bs (T.take (k + 1)) = TT (k + 1)) := HFI.out (k + 1)
      have w1 : IntKind.i64.wrap ((k + 1 : Nat) : Int) = ((k + 1 : Nat) : Int) := by rw [IntKind.wrap_i64]; omega
      have w2 : IntKind.i64.wrap (((k + 1 : Nat) : Int) - 1) = (k : Int) := by rw [IntKind.wrap_i64]; omega
      by_cases hc : T.getD k 0 = c
      · have hb : (((TT (k + 1))[k]'(by omega)).toNat : Int) = (c.toNat : Int) := by rw [hg, hc]
        have hb2 : ((TT (k + 1))[k]'(by omega)).toNat = c.toNat := by rw [hg, hc]
        have HK2 : Hid (∀ j, k ≤ j → j < T.length → T.getD j 0 = c) := fun j h1 h2 => by
          by_cases e : j = k
          · rw [e]; exact hc
          · exact HK.out j (by omega) h2
        clear hg hc
        go_wp2
        go_round
        case rel => exact ⟨k, by omega, rfl, HK2.out⟩
        case measure =>
          show (TT k).size < (TT (k + 1)).size
          rw [HZ2.out k (by omega), hz]; omega
      · have hb2 : ¬ ((TT (k + 1))[k]'(by omega)).toNat = c.toNat := fun e => hc (by rw [← hg]; exact UInt8.toNat_inj.1 e)
        have hb : ((((TT (k + 1))[k]'(by omega)).toNat : Int) == (c.toNat : Int)) = false := by simp; omega
        have HC := Hid.mk' hc
        clear hg hc
        go_wp2
        go_ret
        exact ⟨k + 1, hk, by rw [HN.out]; rfl, HK.out, .inr (by simpa using HC.out), rfl⟩
set_option maxHeartbeats 400000 in
theorem trimLeft_any (T : List UInt8) (c : UInt8) (w : World) (hT : T.length ≤ 100000) :
    Calls Tryz.prog 307 #[.string (bs T), .int .u8 c.toNat] w fun e w' => ∃ k, k ≤ T.length ∧ e = .returned (.string (bs (T.drop k))) ∧ (∀ j, j < k → T.getD j 0 = c) ∧ (k = T.length ∨ T.getD k 0 ≠ c) ∧ w' = w := by
  have HG : Hid (∀ k, k < T.length → ∀ (h : 0 < (bs (T.drop k)).size), (bs (T.drop k))[0] = T.getD k 0) := fun k hk h => by
    rw [bs_get, List.getD_eq_getElem?_getD, List.getElem?_eq_getElem hk, Option.getD_some, List.getElem_drop]
    simp
  have HZ : Hid (∀ k, k ≤ T.length → (bs (T.drop k)).size = T.length - k) := fun k hk => by rw [bs_size, List.length_drop]
  have HX : Hid (∀ k, k < T.length → (bs (T.drop k)).extract 1 (T.length - k) = bs (T.drop (k + 1))) := fun k hk => by
    rw [bs_cut']
    congr 1
    rw [List.drop_drop, List.take_of_length_le (by rw [List.length_drop]; omega)]
  have HT : Hid (bs T = bs (T.drop 0)) := by show _ = _; rw [List.drop_zero]
  rw [HT.out]
  generalize hTT : (fun k => bs (T.drop k)) = TT at *
  have eT : ∀ k, bs (T.drop k) = TT k := fun k => by rw [← hTT]
  rw [eT]
  have HG2 : Hid (∀ k, k < T.length → ∀ (h : 0 < (TT k).size), (TT k)[0] = T.getD k 0) := by rw [← hTT]; exact HG
  have HZ2 : Hid (∀ k, k ≤ T.length → (TT k).size = T.length - k) := by rw [← hTT]; exact HZ
  have HX2 : Hid (∀ k, k < T.length → (TT k).extract 1 (T.length - k) = TT (k + 1)) := by rw [← hTT]; exact HX
  have HFI : Hid (∀ k, bs (T.drop k) = TT k) := eT
  clear hTT eT HT HG HZ HX
  generalize hn : T.length = n at *
  have HN := Hid.mk' hn
  clear hn
  go_enter Tryz.func307, Tryz.ntmps307
  go_wp2
  go_loop [0] (fun sv => ∃ k : Nat, k ≤ n ∧ sv = .string (TT k) ∧ Hid (∀ j, j < k → T.getD j 0 = c)) (fun sv => match sv with | .string s => s.size | _ => 0)
  case atStart => exact ⟨0, Nat.zero_le _, rfl, fun j h1 => absurd h1 (by omega)⟩
  case round =>
    obtain ⟨k, hk, rfl, HK⟩ := hrel
    have hz := HZ2.out k hk
    have HFK := Hid.mk' (HFI.out k)
    by_cases hlt : k < n
    · have hx := HX2.out k hlt
      have hz1 := HZ2.out (k + 1) hlt
      generalize hr : n - k = r at *
      have hr1 : 1 ≤ r := by omega
      have hg := HG2.out k hlt (by omega)
      have hr2 : n - (k + 1) < r := by omega
      have hr3 : r ≤ 100000 := by omega
      by_cases hc : T.getD k 0 = c
      · have hb2 : ((TT k)[0]'(by omega)).toNat = c.toNat := by rw [hg, hc]
        have HK2 : Hid (∀ j, j < k + 1 → T.getD j 0 = c) := fun j h1 => by
          by_cases e : j = k
          · rw [e]; exact hc
          · exact HK.out j (by omega)
        clear hg hc hr
        go_wp2
        go_round
        case rel => exact ⟨k + 1, by omega, rfl, HK2.out⟩
        case measure =>
          show (TT (k + 1)).size < (TT k).size
          rw [hz1, hz]; exact hr2
      · have hb2 : ¬ ((TT k)[0]'(by omega)).toNat = c.toNat := fun e => hc (by rw [← hg]; exact UInt8.toNat_inj.1 e)
        have hb : ((((TT k)[0]'(by omega)).toNat : Int) == (c.toNat : Int)) = false := by simp; omega
        have HC := Hid.mk' hc
        clear hg hc hr
        go_wp2
        go_ret
        exact ⟨k, hk, by rw [HFK.out]; rfl, HK.out, .inr HC.out, rfl⟩
    · have hz0 : (TT k).size = 0 := by omega
      clear hz
      go_wp2
      go_ret
      exact ⟨k, hk, by rw [HFK.out]; rfl, HK.out, .inl (by omega), rfl⟩
theorem str_full' {X : ByteArray} (h : 0 < X.size) : ¬ X.toList = [] := fun e => by
  rw [ByteArray.toList_eq] at e
  have h1 : X.data.toList.length = X.size := by simp
  rw [e] at h1
  simp at h1
  omega
/-- bits that do nothing but fill a byte up -/
def FillP (T : List UInt8) : Prop := T.length < 8 ∧ ∀ j, j < T.length → T.getD j 0 = 48
theorem trim_math {T : List UInt8} {k m : Nat} (h0 : 0 < T.length) (hk : k ≤ T.length) (h1 : ∀ j, k ≤ j → j < T.length → T.getD j 0 = 48) (h2 : k = 0 ∨ T.getD (k - 1) 0 ≠ 48) (hm : m ≤ (T.take k).length) (h3 : ∀ j, j < m → (T.take k).getD j 0 = 48) (h4 : m = (T.take k).length ∨ (T.take k).getD m 0 ≠ 48) :
    ((T.take k).drop m = [] ↔ ∀ j, j < T.length → T.getD j 0 = 48) := by
  have hl : (T.take k).length = k := by rw [List.length_take]; omega
  have hg : ∀ j, j < k → (T.take k).getD j 0 = T.getD j 0 := fun j hj => by
    rw [List.getD_eq_getElem?_getD, List.getD_eq_getElem?_getD, List.getElem?_take, if_pos hj]
  rw [hl] at hm h4
  constructor
  · intro h j hj
    have hlen := congrArg List.length h
    rw [List.length_drop, hl] at hlen
    simp at hlen
    by_cases hjk : j < k
    · rw [← hg j hjk]; exact h3 j (by omega)
    · exact h1 j (by omega) hj
  · intro h
    have hk0 : k = 0 := by
      rcases h2 with e | e
      · exact e
      · by_cases hk0 : k = 0
        · exact hk0
        · exact absurd (h (k - 1) (by omega)) e
    subst hk0
    simp
set_option maxRecDepth 4000 in
set_option maxHeartbeats 400000 in
theorem trim_nil (w : World) : Calls Tryz.prog 286 #[.string ⟨#[]⟩, .string ⟨#[48]⟩] w fun e w' => e = .returned (.string ⟨#[]⟩) ∧ w' = w := by
  go_enter Tryz.func286, Tryz.ntmps286
  go_wp2
  go_ret
  exact ⟨rfl, rfl⟩
set_option maxRecDepth 4000 in
set_option maxHeartbeats 400000 in
theorem trim_any (T : List UInt8) (w : World) (hT : T.length ≤ 100000) :
    Calls Tryz.prog 286 #[.string (bs T), .string ⟨#[48]⟩] w fun e w' => ∃ U, e = .returned (.string (bs U)) ∧ (U = [] ↔ ∀ j, j < T.length → T.getD j 0 = 48) ∧ (w' = w ∨ w' = w.drew) := by
  by_cases hT0 : T = []
  · subst hT0
    exact (trim_nil w).mono fun e w' ⟨he, hw⟩ => ⟨[], he, ⟨fun _ j hj => absurd hj (Nat.not_lt_zero j), fun _ => rfl⟩, .inl hw⟩
  · have hlen : 0 < T.length := List.length_pos_iff.2 hT0
    have hne : ¬ (bs T).toList = [] := str_full' (by rw [bs_size]; exact hlen)
    have hne2 : (bs T).toList.isEmpty = false := by
      cases h : (bs T).toList.isEmpty with
      | false => rfl
      | true => exact absurd (List.isEmpty_iff.1 h) hne
    have HR := Hid.mk' (trimRight_any T 48 w.drew hT)
    have HL := Hid.mk' (fun k (hk : k ≤ T.length) => trimLeft_any (T.take k) 48 w.drew (by rw [List.length_take]; omega))
    have HLen := Hid.mk' hlen
    have e48 : (((48 : UInt8).toNat : Nat) : Int) = 48 := rfl
    rw [e48] at HR
    simp only [e48] at HL
    clear hT0 e48 hlen
    generalize hS : bs T = S at *
    clear hS
    go_enter Tryz.func286, Tryz.ntmps286
    go_wp2_with fail
    go_region_held3 (fun w' => True)
      (trivial)
      (first
      | (go_at_call 308; refine HR.out.mono ?_; rintro e u1 ⟨k, hk, rfl, h1, h2, hw⟩; subst u1; have HL1 := Hid.mk' (HL.out k hk); have H1 := Hid.mk' h1; have H2 := Hid.mk' h2; clear h1 h2 HR)
      | (go_at_call 307; refine HL1.out.mono ?_; rintro e u2 ⟨m, hm, rfl, h3, h4, hw⟩; subst u2; have H3 := Hid.mk' h3; have H4 := Hid.mk' h4; have HMM := Hid.mk' hm; clear h3 h4 HL1 hm))
    all_goals (go_wp2; go_ret; exact ⟨_, rfl, trim_math HLen.out hk H1.out H2.out HMM.out H3.out H4.out, .inr rfl⟩)
set_option maxRecDepth 4000 in
set_option maxHeartbeats 400000 in
theorem isFill_any (T : List UInt8) (w : World) (hT : T.length ≤ 100000) :
    Calls Tryz.prog 256 #[.string (bs T)] w fun e w' => Says e (FillP T) ∧ Below w.heap.size w w' := by
  have hz : (bs T).size = T.length := bs_size T
  have HTR := Hid.mk' (fun u => trim_any T u hT)
  by_cases h8 : T.length < 8
  · have t1 : decide ((T.length : Int) < 8) = true := decide_eq_true (by omega)
    have HF : Hid ((∀ j, j < T.length → T.getD j 0 = 48) ↔ FillP T) := ⟨fun h => ⟨h8, h⟩, fun h => h.2⟩
    generalize bs T = S at *
    generalize hn : T.length = n at *
    clear hn
    go_enter Tryz.func256, Tryz.ntmps256
    go_wp2_with (go_at_call 286; refine (HTR.out _).mono ?_; rintro e u1 ⟨U, rfl, hU, hw⟩; have HU := Hid.mk' hU; have HB : Hid (Below w.heap.size w u1) := (by rcases hw with e | e <;> rw [e]; exact Below.refl _ _; exact (Below.refl _ _).drew); clear hU hw HTR)
    go_ret
    exact ⟨⟨_, rfl, by rw [List.isEmpty_iff, ByteArray.toList_eq, bs_list]; exact HU.out.trans HF.out⟩, HB.out⟩
  · have t1 : decide ((T.length : Int) < 8) = false := decide_eq_false (by omega)
    have HF : Hid (¬ FillP T) := fun h => h8 h.1
    generalize bs T = S at *
    generalize hn : T.length = n at *
    clear hn HTR
    go_enter Tryz.func256, Tryz.ntmps256
    go_wp2
    go_ret
    exact ⟨Says.no HF.out, Below.refl _ _⟩
end Go.Proofs.YtlncjgnomhpjnabGreatDoor

/-
  The subframes of a frame, one behind the other: mathematics.
-/
namespace Go.Proofs.YtlncjgnomhpjnabGreatDoor
set_option linter.unusedVariables false
theorem readSt_le {b : Nat → Bool} {N width n : Nat} {r : (Nat → Int) × Nat} (h : readSt b N width n = some r) : r.2 ≤ N := by
  obtain ⟨_, -, -, h3⟩ := readSt_ext (b := b) (b' := b) (N := N) (M := N) (fun _ _ => rfl) (Nat.le_refl _) h
  exact h3
theorem readSt_bd {b : Nat → Bool} {N width n : Nat} {r : (Nat → Int) × Nat} (hw : width ≤ 13) (h : readSt b N width n = some r) : ∀ j, j < n → -4096 ≤ r.1 j ∧ r.1 j ≤ 4096 := by
  intro j hj
  unfold readSt at h
  split at h
  · rename_i hc
    cases hb : bodySt b N (num b 0 4) (width - num b 4 4) n 8 with
    | none => rw [hb] at h; cases h
    | some xp =>
      rw [hb] at h
      simp only [Option.map_some, Option.some.injEq] at h
      rw [← h]
      exact mul_sh (width := width) (body_fits (by omega) hb j hj) (by omega) (by omega)
  · cases h
def upd2 (G : Nat → Nat → Int) (i : Nat) (x : Nat → Int) (j : Nat) : Nat → Int := if j = i then x else G j
/-- the first i subframes of a frame, and where the next one begins -/
def subsAt (b : Nat → Bool) (N d n m nn : Nat) : Nat → Option ((Nat → Nat → Int) × Nat)
  | 0 => some (fun _ _ => 0, 0)
  | i + 1 => (subsAt b N d n m nn i).bind fun r => (readAt b N r.2 (widN d n m i) nn).map fun xp => (upd2 r.1 i xp.1, xp.2)
theorem widN_bd {d n m i : Nat} (hd1 : 1 ≤ d) (hd : d ≤ 12) : 1 ≤ widN d n m i ∧ widN d n m i ≤ 13 := by
  unfold widN w1 w2
  split
  · split
    · split <;> omega
    · split <;> omega
  · omega
theorem readAt_le {b : Nat → Bool} {N o width n : Nat} {r : (Nat → Int) × Nat} (ho : o ≤ N) (h : readAt b N o width n = some r) : r.2 ≤ N ∧ o ≤ r.2 := by
  rw [readAt_sh ho] at h
  cases hr : readSt (shB b o) (N - o) width n with
  | none => rw [hr] at h; cases h
  | some x =>
    rw [hr] at h
    simp only [Option.map_some, Option.some.injEq] at h
    have := readSt_le hr
    rw [← h]
    exact ⟨by show o + x.2 ≤ N; omega, by show o ≤ o + x.2; omega⟩
theorem readAt_bd {b : Nat → Bool} {N o width n : Nat} {r : (Nat → Int) × Nat} (ho : o ≤ N) (hw : width ≤ 13) (h : readAt b N o width n = some r) : ∀ j, j < n → -4096 ≤ r.1 j ∧ r.1 j ≤ 4096 := by
  rw [readAt_sh ho] at h
  cases hr : readSt (shB b o) (N - o) width n with
  | none => rw [hr] at h; cases h
  | some x =>
    rw [hr] at h
    simp only [Option.map_some, Option.some.injEq] at h
    intro j hj
    rw [← h]
    exact readSt_bd (b := shB b o) (N := N - o) (r := x) hw hr j hj
theorem subsAt_le {b : Nat → Bool} {N d n m nn : Nat} (hd1 : 1 ≤ d) (hd : d ≤ 12) : ∀ {i : Nat} {r : (Nat → Nat → Int) × Nat}, subsAt b N d n m nn i = some r → r.2 ≤ N ∧ ∀ k, k < i → ∀ j, j < nn → -4096 ≤ r.1 k j ∧ r.1 k j ≤ 4096
  | 0, r, h => by
    cases h
    exact ⟨Nat.zero_le _, fun k hk => absurd hk (Nat.not_lt_zero k)⟩
  | i + 1, r, h => by
    unfold subsAt at h
    cases hs : subsAt b N d n m nn i with
    | none => rw [hs] at h; cases h
    | some q =>
      rw [hs, Option.bind_some] at h
      obtain ⟨ih1, ih2⟩ := subsAt_le hd1 hd hs
      cases hr : readAt b N q.2 (widN d n m i) nn with
      | none => rw [hr] at h; cases h
      | some x =>
        rw [hr] at h
        simp only [Option.map_some, Option.some.injEq] at h
        rw [← h]
        refine ⟨(readAt_le ih1 hr).1, fun k hk j hj => ?_⟩
        show -4096 ≤ upd2 q.1 i x.1 k j ∧ upd2 q.1 i x.1 k j ≤ 4096
        unfold upd2
        by_cases e : k = i
        · rw [if_pos e]; exact readAt_bd ih1 (widN_bd hd1 hd).2 hr j hj
        · rw [if_neg e]; exact ih2 k (by omega) j hj
theorem subsAt_none {b : Nat → Bool} {N d n m nn i k : Nat} (h : subsAt b N d n m nn i = none) (hk : i ≤ k) : subsAt b N d n m nn k = none := by
  induction k with
  | zero => have : i = 0 := by omega
            subst this; exact h
  | succ k ih =>
    by_cases e : i = k + 1
    · rw [← e]; exact h
    · unfold subsAt
      rw [ih (by omega)]; rfl
/-- what the bits of a frame tell, in the end -/
def sampP (d m nn : Nat) (G : Nat → Nat → Int) : Prop := ∀ j, j < nn → fitsB d (unL m (G 0 j) (G 1 j)) = true ∧ fitsB d (unR m (G 0 j) (G 1 j)) = true
def unG (n m : Nat) (G : Nat → Nat → Int) (i j : Nat) : Int := if n = 2 then (if i = 0 then unL m (G 0 j) (G 1 j) else unR m (G 0 j) (G 1 j)) else G i j
/-- the bits tell these samples -/
def InsP (BT : List UInt8) (b : Nat → Bool) (d n m nn : Nat) (H : Nat → Nat → Int) : Prop :=
  ∃ G o, subsAt b BT.length d n m nn n = some (G, o) ∧ FillP (BT.drop o) ∧ (n = 2 → sampP d m nn G) ∧ H = unG n m G
end Go.Proofs.YtlncjgnomhpjnabGreatDoor

/-
  A frame's head, laid down.
-/
namespace Go.Proofs.YtlncjgnomhpjnabGreatDoor
open Go.RowKit Go.Deep
set_option linter.unusedVariables false
/-- a cell of a variable's block, in a later world -/
theorem keep_cell {u u' : World} {b o : Nat} {v : Value} (h : Below u.heap.size u u') (hb : b < u.heap.size) (hc : u.cell? ⟨b, o, none⟩ = some v) : u'.cell? ⟨b, o, none⟩ = some v :=
  (h.cell (p := ⟨b, o, none⟩) hb).trans hc
theorem keep4 {u u' : World} {b : Nat} {v0 v1 v2 v3 : Value} (hb : Below u.heap.size u u') (h : b < u.heap.size ∧ u.cell? ⟨b, 0, none⟩ = some v0 ∧ u.cell? ⟨b, 1, none⟩ = some v1 ∧ u.cell? ⟨b, 2, none⟩ = some v2 ∧ u.cell? ⟨b, 3, none⟩ = some v3) :
    b < u'.heap.size ∧ u'.cell? ⟨b, 0, none⟩ = some v0 ∧ u'.cell? ⟨b, 1, none⟩ = some v1 ∧ u'.cell? ⟨b, 2, none⟩ = some v2 ∧ u'.cell? ⟨b, 3, none⟩ = some v3 :=
  ⟨Nat.lt_of_lt_of_le h.1 hb.size, keep_cell hb h.1 h.2.1, keep_cell hb h.1 h.2.2.1, keep_cell hb h.1 h.2.2.2.1, keep_cell hb h.1 h.2.2.2.2⟩
set_option maxHeartbeats 1000000 in
theorem headLay_any (number len n mode : Nat) (w : World) (h1 : number < 65536) (h2 : len < 65536) (h3 : 1 ≤ n) (h4 : n ≤ 256) (h5 : mode < 256) :
    Calls Tryz.prog 126 #[.agg #[.int .i64 number, .int .i64 len, .int .i64 n, .int .i64 mode]] w fun e w' => e = .returned (.string (bs (seal8 (headT number len n mode)))) ∧ Below w.heap.size w w' := by
  have HI1 : Hid (∀ u, Calls Tryz.prog 195 #[.int .i64 165, .int .i64 1] u fun e w' => e = .returned (.string (bs (inT 165 1))) ∧ Below u.heap.size u w') := fun u => in_any 165 1 u (by omega) (by omega)
  have HI2 : Hid (∀ u, Calls Tryz.prog 195 #[.int .i64 number, .int .i64 2] u fun e w' => e = .returned (.string (bs (inT number 2))) ∧ Below u.heap.size u w') := fun u => in_any number 2 u (by omega) (by omega)
  have HI3 : Hid (∀ u, Calls Tryz.prog 195 #[.int .i64 len, .int .i64 2] u fun e w' => e = .returned (.string (bs (inT len 2))) ∧ Below u.heap.size u w') := fun u => in_any len 2 u (by omega) (by omega)
  have HI4 : Hid (∀ u, Calls Tryz.prog 195 #[.int .i64 ((n - 1 : Nat) : Int), .int .i64 1] u fun e w' => e = .returned (.string (bs (inT (n - 1) 1))) ∧ Below u.heap.size u w') := fun u => in_any (n - 1) 1 u (by omega) (by omega)
  have HI5 : Hid (∀ u, Calls Tryz.prog 195 #[.int .i64 mode, .int .i64 1] u fun e w' => e = .returned (.string (bs (inT mode 1))) ∧ Below u.heap.size u w') := fun u => in_any mode 1 u (by omega) (by omega)
  have HS := Hid.mk' (fun u => seal8_any (headT number len n mode) u (by rw [headT_length]; omega))
  have HTX : Hid (bs (inT 165 1) ++ bs (inT number 2) ++ bs (inT len 2) ++ bs (inT (n - 1) 1) ++ bs (inT mode 1) = bs (headT number len n mode)) := by
    show _ = _; rw [bs_append, bs_append, bs_append, bs_append]; rfl
  have wn : IntKind.i64.wrap ((n : Int) - 1) = ((n - 1 : Nat) : Int) := by rw [IntKind.wrap_i64]; omega
  have z1 : (bs (inT 165 1)).size = 1 := by rw [bs_size, inT_length]
  have z2 : (bs (inT number 2)).size = 2 := by rw [bs_size, inT_length]
  have z3 : (bs (inT len 2)).size = 2 := by rw [bs_size, inT_length]
  have z4 : (bs (inT (n - 1) 1)).size = 1 := by rw [bs_size, inT_length]
  have z5 : (bs (inT mode 1)).size = 1 := by rw [bs_size, inT_length]
  rw [← HTX.out] at HS
  generalize seal8 (headT number len n mode) = R at *
  generalize bs (inT 165 1) = X1 at *
  generalize bs (inT number 2) = X2 at *
  generalize bs (inT len 2) = X3 at *
  generalize bs (inT (n - 1) 1) = X4 at *
  generalize bs (inT mode 1) = X5 at *
  generalize n - 1 = n1 at *
  clear HTX
  have hb0 : Below w.heap.size w (w.alloc (.cells #[.int .i64 number, .int .i64 len, .int .i64 n, .int .i64 mode] 203)) := (Below.refl _ _).alloc (Nat.le_refl _) _
  have HB0 := Hid.mk' hb0
  clear hb0
  have hS0 : w.heap.size < (w.alloc (.cells #[.int .i64 number, .int .i64 len, .int .i64 n, .int .i64 mode] 203)).drew.heap.size ∧ (w.alloc (.cells #[.int .i64 number, .int .i64 len, .int .i64 n, .int .i64 mode] 203)).drew.cell? ⟨w.heap.size, 0, none⟩ = some (.int .i64 number) ∧ (w.alloc (.cells #[.int .i64 number, .int .i64 len, .int .i64 n, .int .i64 mode] 203)).drew.cell? ⟨w.heap.size, 1, none⟩ = some (.int .i64 len) ∧ (w.alloc (.cells #[.int .i64 number, .int .i64 len, .int .i64 n, .int .i64 mode] 203)).drew.cell? ⟨w.heap.size, 2, none⟩ = some (.int .i64 n) ∧ (w.alloc (.cells #[.int .i64 number, .int .i64 len, .int .i64 n, .int .i64 mode] 203)).drew.cell? ⟨w.heap.size, 3, none⟩ = some (.int .i64 mode) := by simp
  go_enter Tryz.func126, Tryz.ntmps126
  go_wp2
  go_region_held3 (fun w' => w.heap.size < w'.heap.size ∧ w'.cell? ⟨w.heap.size, 0, none⟩ = some (.int .i64 number) ∧ w'.cell? ⟨w.heap.size, 1, none⟩ = some (.int .i64 len) ∧ w'.cell? ⟨w.heap.size, 2, none⟩ = some (.int .i64 n) ∧ w'.cell? ⟨w.heap.size, 3, none⟩ = some (.int .i64 mode))
    (assumption)
    (first
    | (go_at_call 195; refine (HI1.out _).mono ?_; rintro e u1 ⟨rfl, hb1⟩; have hS1 := keep4 hb1 hS0; have HB1 := Hid.mk' (HB0.out.drew.trans (hb1.mono (by simp))); clear HI1 HB0)
    | (go_at_call 195; refine (HI2.out _).mono ?_; rintro e u2 ⟨rfl, hb2⟩; have hS2 := keep4 hb2 hS1; have HB2 := Hid.mk' (HB1.out.trans (hb2.mono HB1.out.size)); clear HI2 HB1)
    | (go_at_call 195; refine (HI3.out _).mono ?_; rintro e u3 ⟨rfl, hb3⟩; have hS3 := keep4 hb3 hS2; have HB3 := Hid.mk' (HB2.out.trans (hb3.mono HB2.out.size)); clear HI3 HB2)
    | (go_at_call 195; refine (HI4.out _).mono ?_; rintro e u4 ⟨rfl, hb4⟩; have hS4 := keep4 hb4 hS3; have HB4 := Hid.mk' (HB3.out.trans (hb4.mono HB3.out.size)); clear HI4 HB3)
    | (go_at_call 195; refine (HI5.out _).mono ?_; rintro e u5 ⟨rfl, hb5⟩; have hS5 := keep4 hb5 hS4; have HB5 := Hid.mk' (HB4.out.trans (hb5.mono HB4.out.size)); clear HI5 HB4)
    | (go_at_call 197; refine (HS.out _).mono ?_; rintro e u6 ⟨rfl, hb6⟩; have hS6 := keep4 hb6 hS5; have HB6 := Hid.mk' (HB5.out.trans (hb6.mono HB5.out.size)); clear HS HB5))
  go_wp2
  go_ret
  exact ⟨rfl, HB6.out⟩
end Go.Proofs.YtlncjgnomhpjnabGreatDoor

