import Derived.Test.YtlncjgnomhpjnaaGreatDoorJUnA
import Derived.Test.YtlncjgnomhpjnaaGreatDoorJWriter
import Derived.Deep.RegionHeld3
import Derived.Test.YtlncjgnomhpjnaaGreatDoorJCur
import Derived.Test.YtlncjgnomhpjnaaGreatDoorJTight
import Derived.Test.YtlncjgnomhpjnaaGreatDoorKUnWidth
import Derived.Test.YtlncjgnomhpjnaaGreatDoorJEncAll
import Derived.Test.YtlncjgnomhpjnaaGreatDoorJEncSound
import Derived.Test.YtlncjgnomhpjnaaGreatDoorKLentAll
/-
  The bits of bytes, and what only fills up: bittext.OfBytes, bittext.IsFill.
-/
namespace Go.Proofs.YtlncjgnomhpjnaaGreatDoor
open Go.RowKit Go.Deep
set_option linter.unusedVariables false

theorem string_nil (T : TypeId) (B b : Nat) (p : Value) (w : World) (hbk : w.heap[b]? = some (.cells #[p, .slice none 0 0] T (0, 0))) :
    Calls Tryz.prog 142 #[.pointer (some ⟨b, 0, none⟩)] w fun e w' => e = .returned (.string ⟨#[]⟩) ∧ Below B w w' := by
  have c1 : w.drew.cell? ⟨b, 1, none⟩ = some (.slice none 0 0) := by
    have : w.drew.heap[b]? = some (.cells #[p, .slice none 0 0] T (0, 0)) := hbk
    rw [Lib.cell_of_heap this]; rfl
  have hSD : (Builtin.unsafeSliceData_ #[61] 208 #[.slice none 0 0]).run Tryz.prog w.drew = .ok (.pointer none) w.drew := Lib.run_unsafeSliceData_nil _ _ _ _ _
  have hUS : (Builtin.unsafeString_ #[208, 3] 9 #[.pointer none, .int .i64 0]).run Tryz.prog w.drew = .ok (.string ⟨#[]⟩) w.drew := Lib.run_unsafeString_none _ _ _ _ _
  clear hbk
  go_enter Tryz.func142, Tryz.ntmps142
  go_wp2
  go_region
  all_goals (go_wp2; go_ret; exact ⟨rfl, Below.drew (Below.refl B w)⟩)

theorem wText_nil (B b : Nat) (p : Value) (w : World) (hbk : w.heap[b]? = some (.cells #[p, .slice none 0 0] 152 (0, 0))) :
    Calls Tryz.prog 123 #[.pointer (some ⟨b, 0, none⟩)] w fun e w' => e = .returned (.string ⟨#[]⟩) ∧ Below B w w' := by
  have HS := Hid.mk' (string_nil 152 B b p w hbk)
  clear hbk
  go_enter Tryz.func123, Tryz.ntmps123
  go_wp2_with (go_at_call 142; refine HS.out.mono ?_; rintro e w1 ⟨rfl, hb⟩; have HB := Hid.mk' hb; clear hb HS)
  go_ret
  exact ⟨rfl, HB.out⟩

/-- a writer that holds these bits -/
def WrN (w : World) (B b : Nat) (T : List UInt8) : Prop := Wr w B b T ∧ (T = [] → w.heap[b]? = some (.cells #[.pointer none, .slice none 0 0] 152 (0, 0)))

theorem wrText (B b : Nat) (T : List UInt8) (w : World) (h : WrN w B b T) :
    Calls Tryz.prog 123 #[.pointer (some ⟨b, 0, none⟩)] w fun e w' => e = .returned (.string (bs T)) ∧ Below B w w' := by
  by_cases h0 : T = []
  · have hn := h.2 h0
    subst h0
    exact wText_nil B b _ w hn
  · exact wText_any B b T w h.1 h0

set_option maxRecDepth 4000 in
set_option maxHeartbeats 1000000 in
theorem ofBytes_any (T : List UInt8) (w : World) (hT : T.length ≤ 100000) :
    Calls Tryz.prog 78 #[.string (bs T)] w fun e w' => e = .returned (.string (bs (spellTo T T.length))) ∧ Below w.heap.size w w' := by
  have hz : (bs T).size = T.length := bs_size T
  have HG : Hid (∀ k (h : k < (bs T).size), (bs T)[k] = T[k]'(by rw [hz] at h; exact h)) := fun k h => bs_get T k h
  have HSL := Hid.mk' (spellTo_length T)
  have HSS := Hid.mk' (spellTo_step T)
  generalize bs T = S at *
  have HB0 : Hid (WrN (w.alloc (.cells #[.pointer none, .slice none 0 0] 152)) w.heap.size w.heap.size [] ∧ Below w.heap.size w (w.alloc (.cells #[.pointer none, .slice none 0 0] 152))) :=
    ⟨⟨.inl ⟨Nat.le_refl _, .slice none 0 0, blk_alloc_new _ _, ⟨rfl, .inl ⟨rfl, rfl⟩⟩, by simp [Value.ownBlock]⟩, fun _ => blk_alloc_new _ _⟩, (Below.refl _ _).alloc (Nat.le_refl _) _⟩
  go_enter Tryz.func78, Tryz.ntmps78
  go_wp2
  go_loopw [4, 7] (fun _ i wr => ∃ k : Nat, k ≤ T.length ∧ i = .int .i64 k ∧ Hid (WrN wr w.heap.size w.heap.size (spellTo T k) ∧ Below w.heap.size w wr)) (fun _ i _ => T.length - (intOf i).toNat)
  case atStart => exact ⟨0, Nat.zero_le _, rfl, HB0.out⟩
  case round =>
    obtain ⟨k, hk, rfl, HR⟩ := hrel
    by_cases hlt : k < T.length
    · have hkS : k < S.size := by omega
      have hc : S[k].toNat < 256 := UInt8.toNat_lt _
      have HE : Hid (spellTo T (k + 1) = spellTo T k ++ binT (S[k].toNat : Nat) 8) := by show _ = _; rw [HSS.out k hlt, HG.out k hkS]
      have HL := Hid.mk' (HSL.out k)
      generalize hc0 : S[k].toNat = c at *
      have HW := Hid.mk' (fun (u : World) (hu : Wr u w.heap.size w.heap.size (spellTo T k)) (hs : w.heap.size ≤ u.heap.size) => wNumber_any w.heap.size w.heap.size (spellTo T k) (c : Int) 8 u hu (by decide) (by rw [HL.out]; omega) hs)
      have e8 : ((8 : Nat) : Int) = 8 := rfl
      rw [e8] at HW
      go_wp2_with (go_at_call 122; refine (HW.out _ HR.out.1.1 HR.out.2.size).mono ?_; rintro e u1 ⟨rfl, hw1, hk1⟩; have HN : Hid (WrN u1 w.heap.size w.heap.size (spellTo T (k + 1)) ∧ Below w.heap.size w u1) := ⟨⟨by rw [HE.out]; exact hw1, fun e => by have := HSL.out (k + 1); rw [e] at this; simp at this⟩, HR.out.2.trans hk1.1⟩; clear hw1 hk1 HW)
      go_roundw
      case rel => exact ⟨k + 1, by omega, by go_num, HN.out⟩
      case measure => simp [intOf]; omega
    · have e : k = T.length := by omega
      subst e
      have HTX := Hid.mk' (wrText w.heap.size w.heap.size (spellTo T T.length) wr HR.out.1)
      go_wp2_with (go_at_call 123; refine HTX.out.mono ?_; rintro e u1 ⟨rfl, hb1⟩; have HB1 := Hid.mk' (HR.out.2.trans hb1); clear hb1 HTX)
      go_ret
      exact ⟨rfl, HB1.out⟩

theorem bs_cut' (T : List UInt8) (a b : Nat) : (bs T).extract a b = bs ((T.drop a).take (b - a)) := by
  apply ByteArray.ext
  have hd : ((bs T).extract a b).data = (bs T).data.extract a b := by simp
  rw [hd]
  show T.toArray.extract a b = ((T.drop a).take (b - a)).toArray
  simp [List.extract_toArray, List.extract_eq_take_drop]
set_option maxHeartbeats 400000 in
theorem trimRight_any (T : List UInt8) (c : UInt8) (w : World) (hT : T.length ≤ 100000) :
    Calls Tryz.prog 177 #[.string (bs T), .int .u8 c.toNat] w fun e w' => ∃ k, k ≤ T.length ∧ e = .returned (.string (bs (T.take k))) ∧ (∀ j, k ≤ j → j < T.length → T.getD j 0 = c) ∧ (k = 0 ∨ T.getD (k - 1) 0 ≠ c) ∧ w' = w := by
  have HG : Hid (∀ k, k ≤ T.length → ∀ j (h : j < (bs (T.take k)).size), (bs (T.take k))[j] = T.getD j 0) := fun k hk j h => by
    have h2 : j < (T.take k).length := by rw [bs_size] at h; exact h
    have h3 : j < T.length := by rw [List.length_take] at h2; omega
    rw [bs_get, List.getD_eq_getElem?_getD, List.getElem?_eq_getElem h3, Option.getD_some, List.getElem_take]
  have HZ : Hid (∀ k, k ≤ T.length → (bs (T.take k)).size = k) := fun k hk => by rw [bs_size, List.length_take]; omega
  have HX : Hid (∀ k, k + 1 ≤ T.length → (bs (T.take (k + 1))).extract 0 k = bs (T.take k)) := fun k hk => by rw [bs_takeN, List.take_take]; congr 2; omega
  have HT : Hid (bs T = bs (T.take T.length)) := by show _ = _; rw [List.take_length]
  rw [HT.out]
  generalize hTT : (fun k => bs (T.take k)) = TT at *
  have eT : ∀ k, bs (T.take k) = TT k := fun k => by rw [← hTT]
  rw [eT]
  have HG2 : Hid (∀ k, k ≤ T.length → ∀ j (h : j < (TT k).size), (TT k)[j] = T.getD j 0) := by rw [← hTT]; exact HG
  have HZ2 : Hid (∀ k, k ≤ T.length → (TT k).size = k) := by rw [← hTT]; exact HZ
  have HX2 : Hid (∀ k, k + 1 ≤ T.length → (TT (k + 1)).extract 0 k = TT k) := by rw [← hTT]; exact HX
  have HFI : Hid (∀ k, bs (T.take k) = TT k) := eT
  clear hTT eT HT HG HZ HX
  go_enter Tryz.func177, Tryz.ntmps177
  go_wp2
  go_loop [0] (fun sv => ∃ k : Nat, k ≤ T.length ∧ sv = .string (TT k) ∧ Hid (∀ j, k ≤ j → j < T.length → T.getD j 0 = c)) (fun sv => match sv with | .string s => s.size | _ => 0)
  case atStart => exact ⟨T.length, Nat.le_refl _, rfl, fun j h1 h2 => absurd h2 (by omega)⟩
  case round =>
    obtain ⟨k, hk, rfl, HK⟩ := hrel
    have hz := HZ2.out k hk
    match k, hk with
    | 0, _ =>
      have HN : Hid (bs (T.take 0) = TT 0) := HFI.out 0
      generalize TT 0 = S at *
      go_wp2
      go_ret
      exact ⟨0, Nat.zero_le _, by rw [HN.out]; rfl, HK.out, .inl rfl, rfl⟩
    | k + 1, hk =>
      have hx := HX2.out k hk
      have hg := HG2.out (k + 1) hk k (by omega)
      have HN : Hid (bs (T.take (k + 1)) = TT (k + 1)) := HFI.out (k + 1)
      have w1 : IntKind.i64.wrap ((k + 1 : Nat) : Int) = ((k + 1 : Nat) : Int) := by rw [IntKind.wrap_i64]; omega
      have w2 : IntKind.i64.wrap (((k + 1 : Nat) : Int) - 1) = (k : Int) := by rw [IntKind.wrap_i64]; omega
      by_cases hc : T.getD k 0 = c
      · have hb : (((TT (k + 1))[k]'(by omega)).toNat : Int) = (c.toNat : Int) := by rw [hg, hc]
        have hb2 : ((TT (k + 1))[k]'(by omega)).toNat = c.toNat := by rw [hg, hc]
        have HK2 : Hid (∀ j, k ≤ j → j < T.length → T.getD j 0 = c) := fun j h1 h2 => by
          by_cases e : j = k
          · rw [e]; exact hc
          · exact HK.out j (by omega) h2
        clear hg hc
        go_wp2
        go_round
        case rel => exact ⟨k, by omega, rfl, HK2.out⟩
        case measure =>
          show (TT k).size < (TT (k + 1)).size
          rw [HZ2.out k (by omega), hz]; omega
      · have hb2 : ¬ ((TT (k + 1))[k]'(by omega)).toNat = c.toNat := fun e => hc (by rw [← hg]; exact UInt8.toNat_inj.1 e)
        have hb : ((((TT (k + 1))[k]'(by omega)).toNat : Int) == (c.toNat : Int)) = false := by simp; omega
        have HC := Hid.mk' hc
        clear hg hc
        go_wp2
        go_ret
        exact ⟨k + 1, hk, by rw [HN.out]; rfl, HK.out, .inr (by simpa using HC.out), rfl⟩

set_option maxHeartbeats 400000 in
theorem trimLeft_any (T : List UInt8) (c : UInt8) (w : World) (hT : T.length ≤ 100000) :
    Calls Tryz.prog 176 #[.string (bs T), .int .u8 c.toNat] w fun e w' => ∃ k, k ≤ T.length ∧ e = .returned (.string (bs (T.drop k))) ∧ (∀ j, j < k → T.getD j 0 = c) ∧ (k = T.length ∨ T.getD k 0 ≠ c) ∧ w' = w := by
  have HG : Hid (∀ k, k < T.length → ∀ (h : 0 < (bs (T.drop k)).size), (bs (T.drop k))[0] = T.getD k 0) := fun k hk h => by
    rw [bs_get, List.getD_eq_getElem?_getD, List.getElem?_eq_getElem hk, Option.getD_some, List.getElem_drop]
    simp
  have HZ : Hid (∀ k, k ≤ T.length → (bs (T.drop k)).size = T.length - k) := fun k hk => by rw [bs_size, List.length_drop]
  have HX : Hid (∀ k, k < T.length → (bs (T.drop k)).extract 1 (T.length - k) = bs (T.drop (k + 1))) := fun k hk => by
    rw [bs_cut']
    congr 1
    rw [List.drop_drop, List.take_of_length_le (by rw [List.length_drop]; omega)]
  have HT : Hid (bs T = bs (T.drop 0)) := by show _ = _; rw [List.drop_zero]
  rw [HT.out]
  generalize hTT : (fun k => bs (T.drop k)) = TT at *
  have eT : ∀ k, bs (T.drop k) = TT k := fun k => by rw [← hTT]
  rw [eT]
  have HG2 : Hid (∀ k, k < T.length → ∀ (h : 0 < (TT k).size), (TT k)[0] = T.getD k 0) := by rw [← hTT]; exact HG
  have HZ2 : Hid (∀ k, k ≤ T.length → (TT k).size = T.length - k) := by rw [← hTT]; exact HZ
  have HX2 : Hid (∀ k, k < T.length → (TT k).extract 1 (T.length - k) = TT (k + 1)) := by rw [← hTT]; exact HX
  have HFI : Hid (∀ k, bs (T.drop k) = TT k) := eT
  clear hTT eT HT HG HZ HX
  generalize hn : T.length = n at *
  have HN := Hid.mk' hn
  clear hn
  go_enter Tryz.func176, Tryz.ntmps176
  go_wp2
  go_loop [0] (fun sv => ∃ k : Nat, k ≤ n ∧ sv = .string (TT k) ∧ Hid (∀ j, j < k → T.getD j 0 = c)) (fun sv => match sv with | .string s => s.size | _ => 0)
  case atStart => exact ⟨0, Nat.zero_le _, rfl, fun j h1 => absurd h1 (by omega)⟩
  case round =>
    obtain ⟨k, hk, rfl, HK⟩ := hrel
    have hz := HZ2.out k hk
    have HFK := Hid.mk' (HFI.out k)
    by_cases hlt : k < n
    · have hx := HX2.out k hlt
      have hz1 := HZ2.out (k + 1) hlt
      generalize hr : n - k = r at *
      have hr1 : 1 ≤ r := by omega
      have hg := HG2.out k hlt (by omega)
      have hr2 : n - (k + 1) < r := by omega
      have hr3 : r ≤ 100000 := by omega
      by_cases hc : T.getD k 0 = c
      · have hb2 : ((TT k)[0]'(by omega)).toNat = c.toNat := by rw [hg, hc]
        have HK2 : Hid (∀ j, j < k + 1 → T.getD j 0 = c) := fun j h1 => by
          by_cases e : j = k
          · rw [e]; exact hc
          · exact HK.out j (by omega)
        clear hg hc hr
        go_wp2
        go_round
        case rel => exact ⟨k + 1, by omega, rfl, HK2.out⟩
        case measure =>
          show (TT (k + 1)).size < (TT k).size
          rw [hz1, hz]; exact hr2
      · have hb2 : ¬ ((TT k)[0]'(by omega)).toNat = c.toNat := fun e => hc (by rw [← hg]; exact UInt8.toNat_inj.1 e)
        have hb : ((((TT k)[0]'(by omega)).toNat : Int) == (c.toNat : Int)) = false := by simp; omega
        have HC := Hid.mk' hc
        clear hg hc hr
        go_wp2
        go_ret
        exact ⟨k, hk, by rw [HFK.out]; rfl, HK.out, .inr HC.out, rfl⟩
    · have hz0 : (TT k).size = 0 := by omega
      clear hz
      go_wp2
      go_ret
      exact ⟨k, hk, by rw [HFK.out]; rfl, HK.out, .inl (by omega), rfl⟩

theorem str_full' {X : ByteArray} (h : 0 < X.size) : ¬ X.toList = [] := fun e => by
  rw [ByteArray.toList_eq] at e
  have h1 : X.data.toList.length = X.size := by simp
  rw [e] at h1
  simp at h1
  omega
/-- bits that do nothing but fill a byte up -/
def FillP (T : List UInt8) : Prop := T.length < 8 ∧ ∀ j, j < T.length → T.getD j 0 = 48
theorem trim_math {T : List UInt8} {k m : Nat} (h0 : 0 < T.length) (hk : k ≤ T.length) (h1 : ∀ j, k ≤ j → j < T.length → T.getD j 0 = 48) (h2 : k = 0 ∨ T.getD (k - 1) 0 ≠ 48) (hm : m ≤ (T.take k).length) (h3 : ∀ j, j < m → (T.take k).getD j 0 = 48) (h4 : m = (T.take k).length ∨ (T.take k).getD m 0 ≠ 48) :
    ((T.take k).drop m = [] ↔ ∀ j, j < T.length → T.getD j 0 = 48) := by
  have hl : (T.take k).length = k := by rw [List.length_take]; omega
  have hg : ∀ j, j < k → (T.take k).getD j 0 = T.getD j 0 := fun j hj => by
    rw [List.getD_eq_getElem?_getD, List.getD_eq_getElem?_getD, List.getElem?_take, if_pos hj]
  rw [hl] at hm h4
  constructor
  · intro h j hj
    have hlen := congrArg List.length h
    rw [List.length_drop, hl] at hlen
    simp at hlen
    by_cases hjk : j < k
    · rw [← hg j hjk]; exact h3 j (by omega)
    · exact h1 j (by omega) hj
  · intro h
    have hk0 : k = 0 := by
      rcases h2 with e | e
      · exact e
      · by_cases hk0 : k = 0
        · exact hk0
        · exact absurd (h (k - 1) (by omega)) e
    subst hk0
    simp
set_option maxRecDepth 4000 in
set_option maxHeartbeats 400000 in
theorem trim_nil (w : World) : Calls Tryz.prog 157 #[.string ⟨#[]⟩, .string ⟨#[48]⟩] w fun e w' => e = .returned (.string ⟨#[]⟩) ∧ w' = w := by
  go_enter Tryz.func157, Tryz.ntmps157
  go_wp2
  go_ret
  exact ⟨rfl, rfl⟩
set_option maxRecDepth 4000 in
set_option maxHeartbeats 400000 in
theorem trim_any (T : List UInt8) (w : World) (hT : T.length ≤ 100000) :
    Calls Tryz.prog 157 #[.string (bs T), .string ⟨#[48]⟩] w fun e w' => ∃ U, e = .returned (.string (bs U)) ∧ (U = [] ↔ ∀ j, j < T.length → T.getD j 0 = 48) ∧ (w' = w ∨ w' = w.drew) := by
  by_cases hT0 : T = []
  · subst hT0
    exact (trim_nil w).mono fun e w' ⟨he, hw⟩ => ⟨[], he, ⟨fun _ j hj => absurd hj (Nat.not_lt_zero j), fun _ => rfl⟩, .inl hw⟩
  · have hlen : 0 < T.length := List.length_pos_iff.2 hT0
    have hne : ¬ (bs T).toList = [] := str_full' (by rw [bs_size]; exact hlen)
    have hne2 : (bs T).toList.isEmpty = false := by
      cases h : (bs T).toList.isEmpty with
      | false => rfl
      | true => exact absurd (List.isEmpty_iff.1 h) hne
    have HR := Hid.mk' (trimRight_any T 48 w.drew hT)
    have HL := Hid.mk' (fun k (hk : k ≤ T.length) => trimLeft_any (T.take k) 48 w.drew (by rw [List.length_take]; omega))
    have HLen := Hid.mk' hlen
    have e48 : (((48 : UInt8).toNat : Nat) : Int) = 48 := rfl
    rw [e48] at HR
    simp only [e48] at HL
    clear hT0 e48 hlen
    generalize hS : bs T = S at *
    clear hS
    go_enter Tryz.func157, Tryz.ntmps157
    go_wp2_with fail
    go_region_held3 (fun w' => True)
      (trivial)
      (first
      | (go_at_call 177; refine HR.out.mono ?_; rintro e u1 ⟨k, hk, rfl, h1, h2, hw⟩; subst u1; have HL1 := Hid.mk' (HL.out k hk); have H1 := Hid.mk' h1; have H2 := Hid.mk' h2; clear h1 h2 HR)
      | (go_at_call 176; refine HL1.out.mono ?_; rintro e u2 ⟨m, hm, rfl, h3, h4, hw⟩; subst u2; have H3 := Hid.mk' h3; have H4 := Hid.mk' h4; have HMM := Hid.mk' hm; clear h3 h4 HL1 hm))
    all_goals (go_wp2; go_ret; exact ⟨_, rfl, trim_math HLen.out hk H1.out H2.out HMM.out H3.out H4.out, .inr rfl⟩)

set_option maxRecDepth 4000 in
set_option maxHeartbeats 400000 in
theorem isFill_any (T : List UInt8) (w : World) (hT : T.length ≤ 100000) :
    Calls Tryz.prog 121 #[.string (bs T)] w fun e w' => Says e (FillP T) ∧ Below w.heap.size w w' := by
  have hz : (bs T).size = T.length := bs_size T
  have HTR := Hid.mk' (fun u => trim_any T u hT)
  by_cases h8 : T.length < 8
  · have t1 : decide ((T.length : Int) < 8) = true := decide_eq_true (by omega)
    have HF : Hid ((∀ j, j < T.length → T.getD j 0 = 48) ↔ FillP T) := ⟨fun h => ⟨h8, h⟩, fun h => h.2⟩
    generalize bs T = S at *
    generalize hn : T.length = n at *
    clear hn
    go_enter Tryz.func121, Tryz.ntmps121
    go_wp2_with (go_at_call 157; refine (HTR.out _).mono ?_; rintro e u1 ⟨U, rfl, hU, hw⟩; have HU := Hid.mk' hU; have HB : Hid (Below w.heap.size w u1) := (by rcases hw with e | e <;> rw [e]; exact Below.refl _ _; exact (Below.refl _ _).drew); clear hU hw HTR)
    go_ret
    exact ⟨⟨_, rfl, by rw [List.isEmpty_iff, ByteArray.toList_eq, bs_list]; exact HU.out.trans HF.out⟩, HB.out⟩
  · have t1 : decide ((T.length : Int) < 8) = false := decide_eq_false (by omega)
    have HF : Hid (¬ FillP T) := fun h => h8 h.1
    generalize bs T = S at *
    generalize hn : T.length = n at *
    clear hn HTR
    go_enter Tryz.func121, Tryz.ntmps121
    go_wp2
    go_ret
    exact ⟨Says.no HF.out, Below.refl _ _⟩
end Go.Proofs.YtlncjgnomhpjnaaGreatDoor

/-
  The subframes of a frame, one behind the other: mathematics.
-/
namespace Go.Proofs.YtlncjgnomhpjnaaGreatDoor
set_option linter.unusedVariables false

theorem readSt_le {b : Nat → Bool} {N width n : Nat} {r : (Nat → Int) × Nat} (h : readSt b N width n = some r) : r.2 ≤ N := by
  obtain ⟨_, -, -, h3⟩ := readSt_ext (b := b) (b' := b) (N := N) (M := N) (fun _ _ => rfl) (Nat.le_refl _) h
  exact h3
theorem readSt_bd {b : Nat → Bool} {N width n : Nat} {r : (Nat → Int) × Nat} (hw : width ≤ 13) (h : readSt b N width n = some r) : ∀ j, j < n → -4096 ≤ r.1 j ∧ r.1 j ≤ 4096 := by
  intro j hj
  unfold readSt at h
  split at h
  · rename_i hc
    cases hb : bodySt b N (num b 0 4) (width - num b 4 4) n 8 with
    | none => rw [hb] at h; cases h
    | some xp =>
      rw [hb] at h
      simp only [Option.map_some, Option.some.injEq] at h
      rw [← h]
      exact mul_sh (width := width) (body_fits (by omega) hb j hj) (by omega) (by omega)
  · cases h
def upd2 (G : Nat → Nat → Int) (i : Nat) (x : Nat → Int) (j : Nat) : Nat → Int := if j = i then x else G j
/-- the first i subframes of a frame, and where the next one begins -/
def subsAt (b : Nat → Bool) (N d n m nn : Nat) : Nat → Option ((Nat → Nat → Int) × Nat)
  | 0 => some (fun _ _ => 0, 0)
  | i + 1 => (subsAt b N d n m nn i).bind fun r => (readAt b N r.2 (widN d n m i) nn).map fun xp => (upd2 r.1 i xp.1, xp.2)
theorem widN_bd {d n m i : Nat} (hd1 : 1 ≤ d) (hd : d ≤ 12) : 1 ≤ widN d n m i ∧ widN d n m i ≤ 13 := by
  unfold widN w1 w2
  split
  · split
    · split <;> omega
    · split <;> omega
  · omega
theorem readAt_le {b : Nat → Bool} {N o width n : Nat} {r : (Nat → Int) × Nat} (ho : o ≤ N) (h : readAt b N o width n = some r) : r.2 ≤ N ∧ o ≤ r.2 := by
  rw [readAt_sh ho] at h
  cases hr : readSt (shB b o) (N - o) width n with
  | none => rw [hr] at h; cases h
  | some x =>
    rw [hr] at h
    simp only [Option.map_some, Option.some.injEq] at h
    have := readSt_le hr
    rw [← h]
    exact ⟨by show o + x.2 ≤ N; omega, by show o ≤ o + x.2; omega⟩
theorem readAt_bd {b : Nat → Bool} {N o width n : Nat} {r : (Nat → Int) × Nat} (ho : o ≤ N) (hw : width ≤ 13) (h : readAt b N o width n = some r) : ∀ j, j < n → -4096 ≤ r.1 j ∧ r.1 j ≤ 4096 := by
  rw [readAt_sh ho] at h
  cases hr : readSt (shB b o) (N - o) width n with
  | none => rw [hr] at h; cases h
  | some x =>
    rw [hr] at h
    simp only [Option.map_some, Option.some.injEq] at h
    intro j hj
    rw [← h]
    exact readSt_bd (b := shB b o) (N := N - o) (r := x) hw hr j hj
theorem subsAt_le {b : Nat → Bool} {N d n m nn : Nat} (hd1 : 1 ≤ d) (hd : d ≤ 12) : ∀ {i : Nat} {r : (Nat → Nat → Int) × Nat}, subsAt b N d n m nn i = some r → r.2 ≤ N ∧ ∀ k, k < i → ∀ j, j < nn → -4096 ≤ r.1 k j ∧ r.1 k j ≤ 4096
  | 0, r, h => by
    cases h
    exact ⟨Nat.zero_le _, fun k hk => absurd hk (Nat.not_lt_zero k)⟩
  | i + 1, r, h => by
    unfold subsAt at h
    cases hs : subsAt b N d n m nn i with
    | none => rw [hs] at h; cases h
    | some q =>
      rw [hs, Option.bind_some] at h
      obtain ⟨ih1, ih2⟩ := subsAt_le hd1 hd hs
      cases hr : readAt b N q.2 (widN d n m i) nn with
      | none => rw [hr] at h; cases h
      | some x =>
        rw [hr] at h
        simp only [Option.map_some, Option.some.injEq] at h
        rw [← h]
        refine ⟨(readAt_le ih1 hr).1, fun k hk j hj => ?_⟩
        show -4096 ≤ upd2 q.1 i x.1 k j ∧ upd2 q.1 i x.1 k j ≤ 4096
        unfold upd2
        by_cases e : k = i
        · rw [if_pos e]; exact readAt_bd ih1 (widN_bd hd1 hd).2 hr j hj
        · rw [if_neg e]; exact ih2 k (by omega) j hj
theorem subsAt_none {b : Nat → Bool} {N d n m nn i k : Nat} (h : subsAt b N d n m nn i = none) (hk : i ≤ k) : subsAt b N d n m nn k = none := by
  induction k with
  | zero => have : i = 0 := by omega
            subst this; exact h
  | succ k ih =>
    by_cases e : i = k + 1
    · rw [← e]; exact h
    · unfold subsAt
      rw [ih (by omega)]; rfl
/-- what the bits of a frame tell, in the end -/
def sampP (d m nn : Nat) (G : Nat → Nat → Int) : Prop := ∀ j, j < nn → fitsB d (unL m (G 0 j) (G 1 j)) = true ∧ fitsB d (unR m (G 0 j) (G 1 j)) = true
def unG (n m : Nat) (G : Nat → Nat → Int) (i j : Nat) : Int := if n = 2 then (if i = 0 then unL m (G 0 j) (G 1 j) else unR m (G 0 j) (G 1 j)) else G i j
/-- the bits tell these samples -/
def InsP (BT : List UInt8) (b : Nat → Bool) (d n m nn : Nat) (H : Nat → Nat → Int) : Prop :=
  ∃ G o, subsAt b BT.length d n m nn n = some (G, o) ∧ FillP (BT.drop o) ∧ (n = 2 → sampP d m nn G) ∧ H = unG n m G
end Go.Proofs.YtlncjgnomhpjnaaGreatDoor

/-
  The program reads a frame's subframes: frame.readSubframes.
-/
namespace Go.Proofs.YtlncjgnomhpjnaaGreatDoor
open Go.RowKit Go.Deep
set_option linter.unusedVariables false

theorem bits_drop {BT : List UInt8} {b : Nat → Bool} {o : Nat} (h : Bits (bs BT) b) : Bits (bs (BT.drop o)) (shB b o) := by
  intro j hj
  have h1 : j < (BT.drop o).length := by rw [bs_size] at hj; exact hj
  have h2 : o + j < BT.length := by rw [List.length_drop] at h1; omega
  have := h (o + j) (by rw [bs_size]; exact h2)
  rw [bs_get] at this
  rw [bs_get, List.getElem_drop, this]
  rfl
/-- the tables that reading wants -/
structure TabsU (w : World) : Prop where
  fix : TabAt w 7
  fixLt : 7 < w.heap.size
  pairs : PairsAt w
  pairsLt : 2 < w.heap.size
theorem TabsU.below {w u : World} (h : TabsU w) (hb : Below w.heap.size w u) : TabsU u :=
  ⟨fun r c hr hc => (hb.cell (p := ⟨7, 4 * r + c, none⟩) h.fixLt).trans (h.fix r c hr hc), Nat.lt_of_lt_of_le h.fixLt hb.size,
   fun r c hr hc => (hb.cell (p := ⟨2, 2 * r + c, none⟩) h.pairsLt).trans (h.pairs r c hr hc), Nat.lt_of_lt_of_le h.pairsLt hb.size⟩
def rowL (nn : Nat) (gs : Nat → Nat) (i : Nat) : List Value := (List.range i).map fun k => Value.slice (some ⟨gs k, 0, none⟩) nn nn
def updN (gs : Nat → Nat) (i g k : Nat) : Nat := if k = i then g else gs k
theorem rowL_snoc (nn : Nat) (gs : Nat → Nat) (i g : Nat) : rowL nn (updN gs i g) (i + 1) = rowL nn gs i ++ [Value.slice (some ⟨g, 0, none⟩) nn nn] := by
  unfold rowL
  rw [List.range_succ, List.map_append]
  congr 1
  · apply List.map_congr_left
    intro k hk
    have : k < i := List.mem_range.1 hk
    unfold updN
    rw [if_neg (by omega)]
  · simp [updN]
/-- what holds while subframes are read -/
structure SubI (w wr : World) (cs hs : Array Value) (lv : Value) (nn i : Nat) (gs : Nat → Nat) (G : Nat → Nat → Int) : Prop where
  cfg : Bx wr w.heap.size 23 cs
  hdr : Bx wr (w.heap.size + 1) 99 hs
  own : wr.ownsRow (w.heap.size + 2) 29 1 lv i (rowL nn gs i)
  rows : ∀ k, k < i → wr.rowIs (gs k) 3 nn (cutV nn (G k))
  far : ∀ k, k < i → w.heap.size + 2 ≤ gs k
  apart : ∀ k l, k < i → l < i → k ≠ l → gs k ≠ gs l
  below : Below w.heap.size w wr
  size : w.heap.size + 2 ≤ wr.heap.size
theorem row_below {w w' : World} {g n : Nat} {t : TypeId} {f : Nat → Value} (h : w.rowIs g t n f) (hb : Below w.heap.size w w') : w'.rowIs g t n f := by
  obtain ⟨cs, h1, h2⟩ := h
  exact ⟨cs, (hb.block g (Array.getElem?_eq_some_iff.1 h1).1).trans h1, h2⟩
theorem SubI.next {w wr u : World} {cs hs : Array Value} {lv : Value} {nn i : Nat} {gs : Nat → Nat} {G : Nat → Nat → Int} (h : SubI w wr cs hs lv nn i gs G) (hb : Below wr.heap.size wr u) : SubI w u cs hs lv nn i gs G :=
  ⟨h.cfg.below hb, h.hdr.below hb, h.own.kept ⟨hb.os, hb.tape, hb.output, hb.size, fun j hj _ => hb.block j hj⟩ (Classical.em _), fun k hk => row_below (h.rows k hk) hb, h.far, h.apart, h.below.trans (hb.mono h.below.size), Nat.le_trans h.size hb.size⟩
theorem own_form {w : World} {base : Nat} {t : TypeId} {v : Value} {n : Nat} {xs : List Value} (h : w.ownsRow base t 1 v n xs) : ∃ a c, v = .slice a n c := by
  rcases h.2 with ⟨rfl, rfl⟩ | ⟨g, c, cur, rfl, -⟩
  · exact ⟨none, 0, rfl⟩
  · exact ⟨_, c, rfl⟩
theorem SubI.more {w wr u : World} {cs hs : Array Value} {lv lv' : Value} {nn i g : Nat} {gs : Nat → Nat} {G : Nat → Nat → Int} {x : Nat → Int} (h : SubI w wr cs hs lv nn i gs G) (hrow : wr.rowIs g 3 nn (cutV nn x)) (hg : w.heap.size + 2 ≤ g) (hnew : ∀ k, k < i → gs k ≠ g)
    (ho : u.ownsRow (w.heap.size + 2) 29 1 lv' (i + 1) (rowL nn gs i ++ [Value.slice (some ⟨g, 0, none⟩) nn nn])) (hgr : wr.grownBy u lv.ownBlock) : SubI w u cs hs lv' nn (i + 1) (updN gs i g) (upd2 G i x) :=
  have ne : ∀ j, j < w.heap.size + 2 → some j ≠ lv.ownBlock := fun j hj e => by have := (h.own.lt j e.symm).1; omega
  have keep : ∀ {k : Nat} {f : Nat → Value}, wr.rowIs k 3 nn f → u.rowIs k 3 nn f := fun {k f} hk => by
    obtain ⟨c0, h1, h2⟩ := hk
    refine ⟨c0, (hgr.block k (Array.getElem?_eq_some_iff.1 h1).1 ?_).trans h1, h2⟩
    intro e
    rcases h.own.2 with ⟨rfl, -⟩ | ⟨g2, cap2, cur2, rfl, -, h5, -⟩
    · simp [Value.ownBlock] at e
    · simp [Value.ownBlock] at e
      subst e
      rw [h1] at h5
      injection h5 with h5
      injection h5 with _ h6
      exact absurd h6 (by decide)
  ⟨h.cfg.of (hgr.block _ (by have := h.size; omega) (ne _ (by omega))), h.hdr.of (hgr.block _ (by have := h.size; omega) (ne _ (by omega))), by rw [rowL_snoc]; exact ho,
   fun k hk => by
     unfold updN upd2
     by_cases e : k = i
     · rw [if_pos e, if_pos e]; exact keep hrow
     · rw [if_neg e, if_neg e]; exact keep (h.rows k (by omega)),
   fun k hk => by
     unfold updN
     by_cases e : k = i
     · rw [if_pos e]; exact hg
     · rw [if_neg e]; exact h.far k (by omega),
   fun k l hk hl hkl => by
     unfold updN
     by_cases e : k = i
     · rw [if_pos e, if_neg (by omega)]; exact Ne.symm (hnew l (by omega))
     · rw [if_neg e]
       by_cases e2 : l = i
       · rw [if_pos e2]; exact hnew k (by omega)
       · rw [if_neg e2]; exact h.apart k l (by omega) (by omega) hkl,
   h.below.grown hgr h.below.size (fun j hj => by have := (h.own.lt j hj).1; omega), Nat.le_trans h.size hgr.size⟩
/-- what reading a frame's subframes gives -/
def SubsOut (e : Ending) (w w' : World) (BT : List UInt8) (b : Nat → Bool) (d n m nn : Nat) : Prop :=
  ((∃ H g c gs, InsP BT b d n m nn H ∧ e = .returned (.tuple #[.slice (some ⟨g, 0, none⟩) n c, .bool true]) ∧ w'.ownsRow w.heap.size 29 1 (.slice (some ⟨g, 0, none⟩) n c) n (rowL nn gs n) ∧ (∀ k, k < n → w'.rowIs (gs k) 3 nn (cutV nn (H k)) ∧ w.heap.size ≤ gs k) ∧ ∀ k l, k < n → l < n → k ≠ l → gs k ≠ gs l)
   ∨ (∃ v, (∀ H, ¬ InsP BT b d n m nn H) ∧ e = .returned (.tuple #[v, .bool false]))) ∧ Below w.heap.size w w'
theorem ku_below {q : Nat} {v0 v1 v2 v3 : Value} {u u' : World} (hb : Below u.heap.size u u') (h : q + 1 < u.heap.size ∧ u.cell? ⟨q, 0, none⟩ = some v0 ∧ u.cell? ⟨q, 1, none⟩ = some v1 ∧ u.cell? ⟨q + 1, 2, none⟩ = some v2 ∧ u.cell? ⟨q + 1, 3, none⟩ = some v3) : q + 1 < u'.heap.size ∧ u'.cell? ⟨q, 0, none⟩ = some v0 ∧ u'.cell? ⟨q, 1, none⟩ = some v1 ∧ u'.cell? ⟨q + 1, 2, none⟩ = some v2 ∧ u'.cell? ⟨q + 1, 3, none⟩ = some v3 :=
  have h1 : q < u.heap.size := by have := h.1; omega
  ⟨Nat.lt_of_lt_of_le h.1 hb.size, keep_cell hb h1 h.2.1, keep_cell hb h1 h.2.2.1, keep_cell hb h.1 h.2.2.2.1, keep_cell hb h.1 h.2.2.2.2⟩

set_option maxRecDepth 4000 in
set_option maxHeartbeats 2000000 in
theorem readSubs_ne (c2 c3 c4 c5 c6 c7 : Int) (num len d n m nn : Nat) (BT : List UInt8) (b : Nat → Bool) (w : World) (hd1 : 1 ≤ d) (hd : d ≤ 12) (hn1 : 1 ≤ n) (hn4 : n ≤ 4) (hm : m < 4) (hnn : nn ≤ 32) (hBT : BT.length ≤ 80000) (hb : Bits (bs BT) b) (hT : TabsU w) (h2 : n ≠ 2) :
    Calls Tryz.prog 77 #[.agg #[.int .i64 n, .int .i64 d, .int .i64 c2, .int .i64 c3, .int .i64 c4, .int .i64 c5, .int .i64 c6, .int .i64 c7], .agg #[.int .i64 num, .int .i64 len, .int .i64 nn, .int .i64 m], .string (bs BT)] w fun e w' => SubsOut e w w' BT b d n m nn := by
  have hmk := run_make_none 24 29 (.slice none 0 0) 24 Tryz.underlying24 infoInts rfl n (by omega) (by omega)
  have HWI := Hid.mk' (fun (u : World) (hu : Below w.heap.size w u) i (hi : i < n) => widthOf_any d n m i u hd hm hi hn4 (hT.below hu).pairs)
  have HRD := Hid.mk' (fun (u : World) (hu : Below w.heap.size w u) o i => subRead_any (bs (BT.drop o)) (shB b o) (widN d n m i) nn u (by rw [bs_size, List.length_drop]; omega) (widN_bd hd1 hd).1 (widN_bd hd1 hd).2 hnn (bits_drop hb) (hT.below hu).fix (hT.below hu).fixLt)
  have HSZ : Hid (∀ o, (bs (BT.drop o)).size = BT.length - o) := fun o => by rw [bs_size, List.length_drop]
  have HCUT : Hid (∀ o t, o + t ≤ BT.length → (bs (BT.drop o)).extract t (BT.length - o) = bs (BT.drop (o + t))) := fun o t h => by
    rw [bs_cut', List.drop_drop, List.take_of_length_le (by rw [List.length_drop]; omega)]
  have HSL : Hid (∀ (i : Nat) (r : (Nat → Nat → Int) × Nat), subsAt b BT.length d n m nn i = some r → r.2 ≤ BT.length) := fun i r h => (subsAt_le hd1 hd h).1
  have HB0 : Hid (Below w.heap.size w ((w.alloc (.cells #[.int .i64 n, .int .i64 d, .int .i64 c2, .int .i64 c3, .int .i64 c4, .int .i64 c5, .int .i64 c6, .int .i64 c7] 23)).alloc (.cells #[.int .i64 num, .int .i64 len, .int .i64 nn, .int .i64 m] 99))) := ((Below.refl _ _).alloc (Nat.le_refl _) _).alloc (by simp) _
  clear hb hT
  go_enter Tryz.func77, Tryz.ntmps77
  go_wp2_with fail
  refine wp_scope_straight ?_
  go_wp2_with fail
  refine wp_label ?_
  go_wp2_with fail
  clear hmk
  go_loopw [2, 8, 9, 10, 11, 12, 13, 14, 15, 16, 22] (fun bv lv _ _ _ _ _ _ _ _ iv wr => ∃ i o : Nat, ∃ ov : Value, ∃ gs : Nat → Nat, ∃ G : Nat → Nat → Int, i ≤ n ∧ iv = .int .i64 i ∧ ov = lv ∧ bv = .string (bs (BT.drop o)) ∧ Hid (subsAt b BT.length d n m nn i = some (G, o) ∧ SubI w wr #[.int .i64 n, .int .i64 d, .int .i64 c2, .int .i64 c3, .int .i64 c4, .int .i64 c5, .int .i64 c6, .int .i64 c7] #[.int .i64 num, .int .i64 len, .int .i64 nn, .int .i64 m] ov nn i gs G)) (fun _ _ _ _ _ _ _ _ _ _ iv _ => n - (intOf iv).toNat)
  case atStart =>
    refine ⟨0, 0, .slice (some ⟨w.heap.size + 1 + 1, 0, none⟩) 0 n, fun _ => 0, fun _ _ => 0, Nat.zero_le _, rfl, rfl, rfl, rfl, ?_⟩
    refine ⟨((Bx.new w _ _).alloc _).alloc _, (Bx.new2 (by simp) _ _).alloc _, ?_, fun k hk => absurd hk (Nat.not_lt_zero k), fun k hk => absurd hk (Nat.not_lt_zero k), fun k l hk => absurd hk (Nat.not_lt_zero k), HB0.out.alloc HB0.out.size _, by simp⟩
    have := World.ownsRow_made (base := w.heap.size + 2) (e := 29) (size := 1) ((w.alloc (.cells #[.int .i64 n, .int .i64 d, .int .i64 c2, .int .i64 c3, .int .i64 c4, .int .i64 c5, .int .i64 c6, .int .i64 c7] 23)).alloc (.cells #[.int .i64 num, .int .i64 len, .int .i64 nn, .int .i64 m] 99)) (madeCells #[.slice none 0 0] n) n (by simp) (by simp only [maxLen]; omega) (by simp [size_madeCells])
    rw [show rowL nn (fun _ => 0) 0 = [] from rfl]
    simpa using this
  case round =>
    obtain ⟨i, o, lv, gs, G, hi, rfl, e, rfl, HR⟩ := hrel
    subst e
    have hoN := HSL.out _ _ HR.out.1
    obtain ⟨al, cl, hlv⟩ := own_form HR.out.2.own
    subst hlv
    have hsz := HSZ.out o
    have HBW := Hid.mk' HR.out.2.below
    by_cases hlt : i < n
    · have hS0 : w.heap.size + 1 < wr.drew.heap.size ∧ wr.drew.cell? ⟨w.heap.size, 0, none⟩ = some (.int .i64 n) ∧ wr.drew.cell? ⟨w.heap.size, 1, none⟩ = some (.int .i64 d) ∧ wr.drew.cell? ⟨w.heap.size + 1, 2, none⟩ = some (.int .i64 nn) ∧ wr.drew.cell? ⟨w.heap.size + 1, 3, none⟩ = some (.int .i64 m) := ⟨by have := HR.out.2.size; show _ < wr.heap.size; omega, HR.out.2.cfg.cell 0, HR.out.2.cfg.cell 1, HR.out.2.hdr.cell 2, HR.out.2.hdr.cell 3⟩
      have HWI1 := Hid.mk' (fun (u : World) (hu : Below w.heap.size w u) => HWI.out u hu i hlt)
      have HRD1 := Hid.mk' (fun (u : World) (hu : Below w.heap.size w u) => HRD.out u hu o i)
      have HRS := Hid.mk' (readAt_sh (b := b) hoN (widN d n m i) nn)
      rw [hsz] at HRD1
      cases hrd : readSt (shB b o) (BT.length - o) (widN d n m i) nn with
      | none =>
        rw [hrd] at HRD1 HRS
        go_wp2_with fail
        go_region_held3 (fun w' => w.heap.size + 1 < w'.heap.size ∧ w'.cell? ⟨w.heap.size, 0, none⟩ = some (.int .i64 n) ∧ w'.cell? ⟨w.heap.size, 1, none⟩ = some (.int .i64 d) ∧ w'.cell? ⟨w.heap.size + 1, 2, none⟩ = some (.int .i64 nn) ∧ w'.cell? ⟨w.heap.size + 1, 3, none⟩ = some (.int .i64 m))
          (with_reducible assumption)
          (first
          | (go_at_call 118; refine (HWI1.out _ HBW.out.drew).mono ?_; rintro e u1 ⟨rfl, hw1⟩; subst u1; clear HWI1)
          | (go_at_call 117; refine (HRD1.out _ HBW.out.drew).mono ?_; rintro e u2 ⟨rfl, hb2⟩; have hS1 := ku_below hb2 hS0; have HB2 : Hid (Below wr.heap.size wr u2) := (⟨hb2.os, hb2.tape, hb2.output, hb2.size, hb2.block⟩ : Below wr.heap.size wr u2); clear HRD1 hb2))
        have x0 := hS1.2.1
        have t1 : ((i : Int) == (n : Int)) = false := by simp; omega
        have HNO : Hid (∀ H, ¬ InsP BT b d n m nn H) := fun H ⟨G', o', h1, _⟩ => by
          have : subsAt b BT.length d n m nn (i + 1) = none := by
            unfold subsAt
            rw [HR.out.1, Option.bind_some]
            show Option.map _ (readAt b BT.length o (widN d n m i) nn) = none
            rw [HRS.out]; rfl
          rw [subsAt_none this (by omega)] at h1
          cases h1
        clear hS1 hS0
        go_wp2
        rw [Exit.noGoto_ret]
        go_ret2
        exact ⟨.inr ⟨_, HNO.out, rfl⟩, HBW.out.trans (HB2.out.mono HBW.out.size)⟩
      | some xp =>
        rw [hrd] at HRD1 HRS
        have HXL := Hid.mk' (readSt_le hrd)
        clear hrd
        go_wp2_with fail
        go_region_held3 (fun w' => w.heap.size + 1 < w'.heap.size ∧ w'.cell? ⟨w.heap.size, 0, none⟩ = some (.int .i64 n) ∧ w'.cell? ⟨w.heap.size, 1, none⟩ = some (.int .i64 d) ∧ w'.cell? ⟨w.heap.size + 1, 2, none⟩ = some (.int .i64 nn) ∧ w'.cell? ⟨w.heap.size + 1, 3, none⟩ = some (.int .i64 m))
          (with_reducible assumption)
          (first
          | (go_at_call 118; refine (HWI1.out _ HBW.out.drew).mono ?_; rintro e u1 ⟨rfl, hw1⟩; subst u1; clear HWI1)
          | (go_at_call 117; refine (HRD1.out _ HBW.out.drew).mono ?_; rintro e u2 ⟨gx, rfl, hgx, hrow, hb2⟩; have HRW := Hid.mk' hrow; have hS1 := ku_below hb2 hS0; have HB2 : Hid (Below wr.heap.size wr u2) := (⟨hb2.os, hb2.tape, hb2.output, hb2.size, hb2.block⟩ : Below wr.heap.size wr u2); clear HRD1 hb2 hrow))
        have hx := HXL.out
        have HCU := Hid.mk' (HCUT.out o xp.2 (by omega))
        have hA2 := HR.out.2.next HB2.out
        have hgx2 : wr.heap.size ≤ gx := hgx
        obtain ⟨g', c', u3, hr, ho, hgr⟩ := app_row 24 29 (.slice none 0 0) 24 Tryz.underlying24 infoInts rfl u2 _ (.slice al i cl) i _ #[.slice (some ⟨gx, 0, none⟩) nn nn] hA2.own (by simp) (by intro u hu; simp at hu; rw [hu]; rfl) (by simp only [maxLen]; simp; omega) (by simp; omega) hA2.size 24
        have HA3 := Hid.mk' (hA2.more HRW.out (by have := HR.out.2.size; omega) (fun k hk e => by
          have h1 := (HR.out.2.rows k hk).lt
          omega) ho hgr)
        have HAP : Hid (_ = _) := hr
        have HSU : Hid (subsAt b BT.length d n m nn (i + 1) = some (upd2 G i xp.1, o + xp.2)) := by
          show _ = _
          unfold subsAt
          rw [HR.out.1, Option.bind_some]
          show Option.map _ (readAt b BT.length o (widN d n m i) nn) = _
          rw [HRS.out]; rfl
        have x0 := hS1.2.1
        have t2 : ((n : Int) == 2) = false := by simp; omega
        clear hA2 hr ho hgr hS1 hS0
        generalize xp.2 = tk at *
        generalize hY : bs (BT.drop (o + tk)) = Y at *
        have HY := Hid.mk' hY
        clear hY
        generalize bs (BT.drop o) = Z at *
        have b1 : (tk : Int) ≤ ((BT.length - o : Nat) : Int) := by omega
        have hcu := HCU.out
        go_wp2_with (at_builtin; refine wpList_append_rn rfl _ _ _ rfl _ _ _ rfl rfl HAP.out ?_; clear HAP)
        go_roundw
        case rel => exact ⟨i + 1, o + tk, _, updN gs i gx, upd2 G i xp.1, by omega, by go_num, rfl, by rw [HY.out], HSU.out, HA3.out⟩
        case measure => simp [intOf]; omega
    · have e : i = n := by omega
      subst e
      have x0 := HR.out.2.cfg.cell 0
      have HFL := Hid.mk' (fun u => isFill_any (BT.drop o) u (by rw [List.length_drop]; omega))
      have hEX : unG i m G = G := by funext k j; unfold unG; rw [if_neg h2]
      obtain ⟨gl, cl', hal⟩ := own_some HR.out.2.own hn1
      injection hal with e1 e2 e3
      subst e1 e3
      by_cases hF : FillP (BT.drop o)
      · have HF := Hid.mk' hF
        have HIN : Hid (InsP BT b d i m nn G) := ⟨G, o, HR.out.1, hF, fun e => absurd e h2, hEX.symm⟩
        clear hF hEX
        go_wp2_with (go_at_call 121; refine (HFL.out _).mono ?_; rintro e u1 ⟨he, hb1⟩; have he := he.true_of HF.out; subst he; have HA := Hid.mk' (HR.out.2.next hb1); clear hb1 HFL)
        rw [Exit.noGoto_ret]
        go_ret2
        exact ⟨.inl ⟨G, gl, _, gs, HIN.out, rfl, owns_mono HA.out.own (Nat.le_add_right _ 2), fun k hk => ⟨HA.out.rows k hk, by have := HA.out.far k hk; omega⟩, HA.out.apart⟩, HA.out.below⟩
      · have HF := Hid.mk' hF
        have HNO : Hid (∀ H, ¬ InsP BT b d i m nn H) := fun H ⟨G', o', h1, h2, _⟩ => by
          rw [HR.out.1] at h1
          injection h1 with h1
          injection h1 with _ h1
          rw [← h1] at h2
          exact hF h2
        clear hF hEX
        go_wp2_with (go_at_call 121; refine (HFL.out _).mono ?_; rintro e u1 ⟨he, hb1⟩; have he := he.false_of HF.out; subst he; have HA := Hid.mk' (HR.out.2.next hb1); clear hb1 HFL)
        rw [Exit.noGoto_ret]
        go_ret2
        exact ⟨.inr ⟨_, HNO.out, rfl⟩, HA.out.below⟩
end Go.Proofs.YtlncjgnomhpjnaaGreatDoor

/-
  The program reads a frame's two subframes: frame.readSubframes.
-/
namespace Go.Proofs.YtlncjgnomhpjnaaGreatDoor
open Go.RowKit Go.Deep
set_option linter.unusedVariables false

/-- the two lists while they are turned back -/
def twoL (m nn j : Nat) (x y : Nat → Int) (k : Nat) : Int := if k < j then unL m (x k) (y k) else x k
def twoR (m nn j : Nat) (x y : Nat → Int) (k : Nat) : Int := if k < j then unR m (x k) (y k) else y k
theorem two_step {u : World} {g nn j : Nat} {f f' : Nat → Int} {v : Int} (h : u.rowIs g 3 nn (cutV nn f)) (hj : j < nn) (hv : f' j = v) (ho : ∀ k, k ≠ j → f' k = f k) : (u.setCell ⟨g, j, none⟩ (.int .i64 v)).rowIs g 3 nn (cutV nn f') :=
  (h.set j _).congr fun k hk => by
    by_cases e : k = j
    · subst e
      rw [if_pos rfl]
      simp [cutV, cutI, hk, hv]
    · rw [if_neg e]
      simp [cutV, cutI, hk, ho k e]

theorem Kept2.drew {b m : Nat} {w w' : World} (h : Kept2 b m w w') : Kept2 b m w w'.drew := ⟨h.os, h.tape, h.output, h.size, h.block⟩
theorem kept_below {g0 gx : Nat} {w u u' : World} (h : Below w.heap.size w u) (hk : Kept2 g0 gx u u') (h0 : w.heap.size ≤ g0) (h1 : w.heap.size ≤ gx) : Below w.heap.size w u' :=
  ⟨hk.os.trans h.os, hk.tape.trans h.tape, hk.output.trans h.output, Nat.le_trans h.size hk.size, fun k hk' => (hk.block k (Nat.lt_of_lt_of_le hk' h.size) (by omega) (by omega)).trans (h.block k hk')⟩
theorem SubI.congr {w wr : World} {cs hs : Array Value} {lv : Value} {nn i : Nat} {gs : Nat → Nat} {G G' : Nat → Nat → Int} (h : SubI w wr cs hs lv nn i gs G) (e : ∀ k, k < i → ∀ j, j < nn → G' k j = G k j) : SubI w wr cs hs lv nn i gs G' :=
  ⟨h.cfg, h.hdr, h.own, fun k hk => (h.rows k hk).congr fun j hj => by simp [cutV, cutI, hj, e k hk j hj], h.far, h.apart, h.below, h.size⟩
theorem own_ne {u : World} {base g nn : Nat} {lv : Value} {i : Nat} {xs : List Value} {f : Nat → Value} (h : u.ownsRow base 29 1 lv i xs) (hr : u.rowIs g 3 nn f) : lv.ownBlock ≠ some g := by
  intro e
  obtain ⟨c0, h1, -⟩ := hr
  rcases h.2 with ⟨rfl, -⟩ | ⟨g2, cap2, cur2, rfl, -, h5, -⟩
  · simp [Value.ownBlock] at e
  · simp [Value.ownBlock] at e
    subst e
    rw [h1] at h5
    injection h5 with h5
    injection h5 with _ h6
    exact absurd h6 (by decide)
theorem SubI.two {w u wi : World} {cs hs : Array Value} {lv : Value} {nn gx : Nat} {gs : Nat → Nat} {G : Nat → Nat → Int} {x : Nat → Int} {f : Nat → Value} (h : SubI w u cs hs lv nn 1 gs G) (hk : Kept2 (gs 0) gx u wi) (hgx : w.heap.size + 2 ≤ gx) (hrow : u.rowIs gx 3 nn f) (h0 : wi.rowIs (gs 0) 3 nn (cutV nn x)) : SubI w wi cs hs lv nn 1 gs (fun _ => x) :=
  have hf := h.far 0 (by omega)
  have hl := h.size
  ⟨h.cfg.of (hk.block _ (by omega) (by omega) (by omega)), h.hdr.of (hk.block _ h.hdr.lt (by omega) (by omega)),
   by
    have n1 := own_ne h.own hrow
    have n2 := own_ne h.own (h.rows 0 (by omega))
    refine ⟨h.own.1, ?_⟩
    rcases h.own.2 with hn | ⟨g, cap, cur, rfl, hb, hgg, rest⟩
    · exact .inl hn
    · refine .inr ⟨g, cap, cur, rfl, hb, (hk.block g (Array.getElem?_eq_some_iff.1 hgg).1 ?_ ?_).trans hgg, rest⟩
      · intro e; exact n2 (by rw [e]; rfl)
      · intro e; exact n1 (by rw [e]; rfl),
   fun k hk' => by have : k = 0 := by omega
                   subst this; exact h0, h.far, h.apart, kept_below h.below hk (by omega) (by omega), Nat.le_trans h.size hk.size⟩
theorem two_no {BT : List UInt8} {b : Nat → Bool} {d n m nn o : Nat} {G H : Nat → Nat → Int} {x : Nat → Int} (hn : n = 2) (h : subsAt b BT.length d n m nn (1 + 1) = some (upd2 G 1 x, o)) (hh : InsP BT b d n m nn H) (j : Nat) (hj : j < nn) (hf : ¬ (fitsB d (unL m (G 0 j) (x j)) = true ∧ fitsB d (unR m (G 0 j) (x j)) = true)) : False := by
  obtain ⟨G', o', h1, -, h3, -⟩ := hh
  subst hn
  rw [h] at h1
  injection h1 with h1
  injection h1 with h1 _
  have := h3 rfl j hj
  rw [← h1] at this
  exact hf this
set_option maxRecDepth 4000 in
set_option maxHeartbeats 2000000 in
theorem readSubs_two (c2 c3 c4 c5 c6 c7 : Int) (num len d n m nn : Nat) (BT : List UInt8) (b : Nat → Bool) (w : World) (hd1 : 1 ≤ d) (hd : d ≤ 12) (hn1 : 1 ≤ n) (hn4 : n ≤ 4) (hm : m < 4) (hnn : nn ≤ 32) (hBT : BT.length ≤ 80000) (hb : Bits (bs BT) b) (hT : TabsU w) (hn2 : n = 2) :
    Calls Tryz.prog 77 #[.agg #[.int .i64 n, .int .i64 d, .int .i64 c2, .int .i64 c3, .int .i64 c4, .int .i64 c5, .int .i64 c6, .int .i64 c7], .agg #[.int .i64 num, .int .i64 len, .int .i64 nn, .int .i64 m], .string (bs BT)] w fun e w' => SubsOut e w w' BT b d n m nn := by
  have hmk := run_make_none 24 29 (.slice none 0 0) 24 Tryz.underlying24 infoInts rfl n (by omega) (by omega)
  have HWI := Hid.mk' (fun (u : World) (hu : Below w.heap.size w u) i (hi : i < n) => widthOf_any d n m i u hd hm hi hn4 (hT.below hu).pairs)
  have HRD := Hid.mk' (fun (u : World) (hu : Below w.heap.size w u) o i => subRead_any (bs (BT.drop o)) (shB b o) (widN d n m i) nn u (by rw [bs_size, List.length_drop]; omega) (widN_bd hd1 hd).1 (widN_bd hd1 hd).2 hnn (bits_drop hb) (hT.below hu).fix (hT.below hu).fixLt)
  have HSZ : Hid (∀ o, (bs (BT.drop o)).size = BT.length - o) := fun o => by rw [bs_size, List.length_drop]
  have HCUT : Hid (∀ o t, o + t ≤ BT.length → (bs (BT.drop o)).extract t (BT.length - o) = bs (BT.drop (o + t))) := fun o t h => by
    rw [bs_cut', List.drop_drop, List.take_of_length_le (by rw [List.length_drop]; omega)]
  have HSL : Hid (∀ (i : Nat) (r : (Nat → Nat → Int) × Nat), subsAt b BT.length d n m nn i = some r → r.2 ≤ BT.length) := fun i r h => (subsAt_le hd1 hd h).1
  have HSB : Hid (∀ (i : Nat) (r : (Nat → Nat → Int) × Nat), subsAt b BT.length d n m nn i = some r → r.2 ≤ BT.length ∧ ∀ k, k < i → ∀ j, j < nn → -4096 ≤ r.1 k j ∧ r.1 k j ≤ 4096) := fun i r h => subsAt_le hd1 hd h
  have HB0 : Hid (Below w.heap.size w ((w.alloc (.cells #[.int .i64 n, .int .i64 d, .int .i64 c2, .int .i64 c3, .int .i64 c4, .int .i64 c5, .int .i64 c6, .int .i64 c7] 23)).alloc (.cells #[.int .i64 num, .int .i64 len, .int .i64 nn, .int .i64 m] 99))) := ((Below.refl _ _).alloc (Nat.le_refl _) _).alloc (by simp) _
  have HN2 := Hid.mk' hn2
  have tn2 : ((n : Int) == 2) = true := by simp; omega
  have HIS := Hid.mk' (fun v u => isSample_any d v u hd1 (by omega))
  have HUP := Hid.mk' (fun x y u hx hy => unpaired_any m x y u hm hx hy)
  clear hb hT hn2
  go_enter Tryz.func77, Tryz.ntmps77
  go_wp2_with fail
  refine wp_scope_straight ?_
  go_wp2_with fail
  refine wp_label ?_
  go_wp2_with fail
  clear hmk
  go_loopw [2, 8, 9, 10, 11, 12, 13, 14, 15, 16, 22] (fun bv lv _ _ _ _ _ _ _ _ iv wr => ∃ i o : Nat, ∃ ov : Value, ∃ gs : Nat → Nat, ∃ G : Nat → Nat → Int, i ≤ n ∧ iv = .int .i64 i ∧ ov = lv ∧ bv = .string (bs (BT.drop o)) ∧ Hid (subsAt b BT.length d n m nn i = some (G, o) ∧ SubI w wr #[.int .i64 n, .int .i64 d, .int .i64 c2, .int .i64 c3, .int .i64 c4, .int .i64 c5, .int .i64 c6, .int .i64 c7] #[.int .i64 num, .int .i64 len, .int .i64 nn, .int .i64 m] ov nn i gs (if i = 2 then unG 2 m G else G) ∧ (i = 2 → sampP d m nn G))) (fun _ _ _ _ _ _ _ _ _ _ iv _ => n - (intOf iv).toNat)
  case atStart =>
    refine ⟨0, 0, .slice (some ⟨w.heap.size + 1 + 1, 0, none⟩) 0 n, fun _ => 0, fun _ _ => 0, Nat.zero_le _, rfl, rfl, rfl, rfl, ?_, fun h => by cases h⟩
    rw [if_neg (by decide)]
    refine ⟨((Bx.new w _ _).alloc _).alloc _, (Bx.new2 (by simp) _ _).alloc _, ?_, fun k hk => absurd hk (Nat.not_lt_zero k), fun k hk => absurd hk (Nat.not_lt_zero k), fun k l hk => absurd hk (Nat.not_lt_zero k), HB0.out.alloc HB0.out.size _, by simp⟩
    have := World.ownsRow_made (base := w.heap.size + 2) (e := 29) (size := 1) ((w.alloc (.cells #[.int .i64 n, .int .i64 d, .int .i64 c2, .int .i64 c3, .int .i64 c4, .int .i64 c5, .int .i64 c6, .int .i64 c7] 23)).alloc (.cells #[.int .i64 num, .int .i64 len, .int .i64 nn, .int .i64 m] 99)) (madeCells #[.slice none 0 0] n) n (by simp) (by simp only [maxLen]; omega) (by simp [size_madeCells])
    rw [show rowL nn (fun _ => 0) 0 = [] from rfl]
    simpa using this
  case round =>
    obtain ⟨i, o, lv, gs, G, hi, rfl, e, rfl, HR⟩ := hrel
    subst e
    have hoN := HSL.out _ _ HR.out.1
    obtain ⟨al, cl, hlv⟩ := own_form HR.out.2.1.own
    subst hlv
    have hsz := HSZ.out o
    have HBW := Hid.mk' HR.out.2.1.below
    by_cases hlt : i < n
    · have hS0 : w.heap.size + 1 < wr.drew.heap.size ∧ wr.drew.cell? ⟨w.heap.size, 0, none⟩ = some (.int .i64 n) ∧ wr.drew.cell? ⟨w.heap.size, 1, none⟩ = some (.int .i64 d) ∧ wr.drew.cell? ⟨w.heap.size + 1, 2, none⟩ = some (.int .i64 nn) ∧ wr.drew.cell? ⟨w.heap.size + 1, 3, none⟩ = some (.int .i64 m) := ⟨by have := HR.out.2.1.size; show _ < wr.heap.size; omega, HR.out.2.1.cfg.cell 0, HR.out.2.1.cfg.cell 1, HR.out.2.1.hdr.cell 2, HR.out.2.1.hdr.cell 3⟩
      have HWI1 := Hid.mk' (fun (u : World) (hu : Below w.heap.size w u) => HWI.out u hu i hlt)
      have HRD1 := Hid.mk' (fun (u : World) (hu : Below w.heap.size w u) => HRD.out u hu o i)
      have HRS := Hid.mk' (readAt_sh (b := b) hoN (widN d n m i) nn)
      rw [hsz] at HRD1
      cases hrd : readSt (shB b o) (BT.length - o) (widN d n m i) nn with
      | none =>
        rw [hrd] at HRD1 HRS
        go_wp2_with fail
        go_region_held3 (fun w' => w.heap.size + 1 < w'.heap.size ∧ w'.cell? ⟨w.heap.size, 0, none⟩ = some (.int .i64 n) ∧ w'.cell? ⟨w.heap.size, 1, none⟩ = some (.int .i64 d) ∧ w'.cell? ⟨w.heap.size + 1, 2, none⟩ = some (.int .i64 nn) ∧ w'.cell? ⟨w.heap.size + 1, 3, none⟩ = some (.int .i64 m))
          (with_reducible assumption)
          (first
          | (go_at_call 118; refine (HWI1.out _ HBW.out.drew).mono ?_; rintro e u1 ⟨rfl, hw1⟩; subst u1; clear HWI1)
          | (go_at_call 117; refine (HRD1.out _ HBW.out.drew).mono ?_; rintro e u2 ⟨rfl, hb2⟩; have hS1 := ku_below hb2 hS0; have HB2 : Hid (Below wr.heap.size wr u2) := (⟨hb2.os, hb2.tape, hb2.output, hb2.size, hb2.block⟩ : Below wr.heap.size wr u2); clear HRD1 hb2))
        have x0 := hS1.2.1
        have t1 : ((i : Int) == (n : Int)) = false := by simp; omega
        have HNO : Hid (∀ H, ¬ InsP BT b d n m nn H) := fun H ⟨G', o', h1, _⟩ => by
          have : subsAt b BT.length d n m nn (i + 1) = none := by
            unfold subsAt
            rw [HR.out.1, Option.bind_some]
            show Option.map _ (readAt b BT.length o (widN d n m i) nn) = none
            rw [HRS.out]; rfl
          rw [subsAt_none this (by omega)] at h1
          cases h1
        clear hS1 hS0
        go_wp2
        rw [Exit.noGoto_ret]
        go_ret2
        exact ⟨.inr ⟨_, HNO.out, rfl⟩, HBW.out.trans (HB2.out.mono HBW.out.size)⟩
      | some xp =>
        rw [hrd] at HRD1 HRS
        have HXL := Hid.mk' (readSt_le hrd)
        clear hrd
        go_wp2_with fail
        go_region_held3 (fun w' => w.heap.size + 1 < w'.heap.size ∧ w'.cell? ⟨w.heap.size, 0, none⟩ = some (.int .i64 n) ∧ w'.cell? ⟨w.heap.size, 1, none⟩ = some (.int .i64 d) ∧ w'.cell? ⟨w.heap.size + 1, 2, none⟩ = some (.int .i64 nn) ∧ w'.cell? ⟨w.heap.size + 1, 3, none⟩ = some (.int .i64 m))
          (with_reducible assumption)
          (first
          | (go_at_call 118; refine (HWI1.out _ HBW.out.drew).mono ?_; rintro e u1 ⟨rfl, hw1⟩; subst u1; clear HWI1)
          | (go_at_call 117; refine (HRD1.out _ HBW.out.drew).mono ?_; rintro e u2 ⟨gx, rfl, hgx, hrow, hb2⟩; have HRW := Hid.mk' hrow; have hS1 := ku_below hb2 hS0; have HB2 : Hid (Below wr.heap.size wr u2) := (⟨hb2.os, hb2.tape, hb2.output, hb2.size, hb2.block⟩ : Below wr.heap.size wr u2); clear HRD1 hb2 hrow))
        have hx := HXL.out
        have HCU := Hid.mk' (HCUT.out o xp.2 (by omega))
        have hA2 := HR.out.2.1.next HB2.out
        rw [if_neg (by have := HN2.out; omega)] at hA2
        have hgx2 : wr.heap.size ≤ gx := hgx
        have HSU : Hid (subsAt b BT.length d n m nn (i + 1) = some (upd2 G i xp.1, o + xp.2)) := by
          show _ = _
          unfold subsAt
          rw [HR.out.1, Option.bind_some]
          show Option.map _ (readAt b BT.length o (widN d n m i) nn) = _
          rw [HRS.out]; rfl
        have hnew : ∀ k, k < i → gs k ≠ gx := fun k hk e => by
          have h1 := (HR.out.2.1.rows k hk).lt
          omega
        have x0 := hS1.2.1
        have x1 := hS1.2.2.1
        have x3 := hS1.2.2.2.2
        by_cases hi1 : i = 1
        · subst hi1
          obtain ⟨gl, cl', hal⟩ := own_some hA2.own (by omega)
          injection hal with e1 e2 e3
          subst e1 e3
          have hl0 : u2.cell? ⟨gl, 0, none⟩ = some (.slice (some ⟨gs 0, 0, none⟩) nn nn) := by
            have := hA2.own.cells (g := gl) rfl 0 (.slice (some ⟨gs 0, 0, none⟩) nn nn) (by unfold rowL; rfl)
            rw [Addr.add_lit] at this; exact this
          have HR0 := Hid.mk' (hA2.rows 0 (by omega))
          have HA2 := Hid.mk' hA2
          have HNEW := Hid.mk' hnew
          clear hA2 hS1 hS0 hnew
          generalize xp.2 = tk at *
          generalize hY : bs (BT.drop (o + tk)) = Y at *
          have HY := Hid.mk' hY
          clear hY
          generalize bs (BT.drop o) = Z at *
          have b1 : (tk : Int) ≤ ((BT.length - o : Nat) : Int) := by omega
          have hcu := HCU.out
          have HBD : Hid (∀ j, j < nn → (-8192 ≤ G 0 j ∧ G 0 j ≤ 8192) ∧ (-8192 ≤ xp.1 j ∧ xp.1 j ≤ 8192)) := fun j hj => by
            have h0 : -4096 ≤ G 0 j ∧ G 0 j ≤ 4096 := (HSB.out _ _ HSU.out).2 0 (by omega) j hj
            have h1 : -4096 ≤ xp.1 j ∧ xp.1 j ≤ 4096 := (HSB.out _ _ HSU.out).2 1 (by omega) j hj
            omega
          have hg01 : gs 0 ≠ gx := HNEW.out 0 (by omega)
          have hf0 := HA2.out.far 0 (by omega)
          have hs2 := HA2.out.size
          have hgxs : wr.heap.size ≤ gx := hgx
          have hrs := HR.out.2.1.size
          have HGX := Hid.mk' HRW.out.lt
          have HG0 : Hid (w.heap.size ≤ gs 0) := by show _ ≤ _; omega
          have HGB : Hid (w.heap.size ≤ gx) := by show _ ≤ _; omega
          have HGX2 : Hid (w.heap.size + 2 ≤ gx) := by show _ ≤ _; omega
          go_wp2_with fail
          go_loopw [14, 15, 16, 58] (fun _ _ _ jv wi => ∃ j : Nat, j ≤ nn ∧ jv = .int .i64 j ∧ Hid (wi.rowIs (gs 0) 3 nn (cutV nn (twoL m nn j (G 0) xp.1)) ∧ wi.rowIs gx 3 nn (cutV nn (twoR m nn j (G 0) xp.1)) ∧ (∀ k, k < j → fitsB d (unL m (G 0 k) (xp.1 k)) = true ∧ fitsB d (unR m (G 0 k) (xp.1 k)) = true) ∧ Kept2 (gs 0) gx u2 wi)) (fun _ _ _ jv _ => nn - (intOf jv).toNat)
          case atStart => exact ⟨0, Nat.zero_le _, rfl, HR0.out.congr (fun k hk => by simp [cutV, cutI, twoL]), HRW.out.congr (fun k hk => by simp [cutV, cutI, twoR]), fun k hk => absurd hk (Nat.not_lt_zero k), Kept2.refl _ _ _⟩
          case round =>
            obtain ⟨j, hj, rfl, HJ⟩ := hrel
            by_cases hjn : j < nn
            · have hbd := HBD.out j hjn
              have ca := HJ.out.1.cell hjn
              have fa := HJ.out.1.frozen j
              have cb := HJ.out.2.1.cell hjn
              have fb := HJ.out.2.1.frozen j
              have ea : cutV nn (twoL m nn j (G 0) xp.1) j = .int .i64 (G 0 j) := by simp [cutV, cutI, twoL, hjn]
              have eb : cutV nn (twoR m nn j (G 0) xp.1) j = .int .i64 (xp.1 j) := by simp [cutV, cutI, twoR, hjn]
              rw [ea] at ca
              rw [eb] at cb
              have hB1 : wr.heap[w.heap.size]? = u2.heap[w.heap.size]? := HJ.out.2.2.2.block _ (by omega) (by omega) (by omega)
              have hB2 : wr.heap[w.heap.size + 1]? = u2.heap[w.heap.size + 1]? := HJ.out.2.2.2.block _ (by omega) (by omega) (by omega)
              have cm : wr.cell? ⟨w.heap.size + 1, 3, none⟩ = some (.int .i64 m) := (HA2.out.hdr.of hB2).cell 3
              have cd : wr.cell? ⟨w.heap.size, 1, none⟩ = some (.int .i64 d) := (HA2.out.cfg.of hB1).cell 1
              have cn : wr.cell? ⟨w.heap.size, 0, none⟩ = some (.int .i64 n) := (HA2.out.cfg.of hB1).cell 0
              have hS2 : wr.drew.cell? ⟨w.heap.size + 1, 3, none⟩ = some (.int .i64 m) ∧ wr.drew.cell? ⟨gs 0, j, none⟩ = some (.int .i64 (G 0 j)) ∧ wr.drew.cell? ⟨gx, j, none⟩ = some (.int .i64 (xp.1 j)) := ⟨cm, ca, cb⟩
              have HUP1 := Hid.mk' (fun u => HUP.out (G 0 j) (xp.1 j) u hbd.1 hbd.2)
              have HSA : Hid ((wr.setCell ⟨gs 0, j, none⟩ (.int .i64 (unL m (G 0 j) (xp.1 j)))).rowIs (gs 0) 3 nn (cutV nn (twoL m nn (j + 1) (G 0) xp.1))) := two_step HJ.out.1 hjn (by simp [twoL]) (fun k hk => by unfold twoL; by_cases e : k < j <;> simp [e] <;> omega)
              by_cases hL : fitsB d (unL m (G 0 j) (xp.1 j)) = true
              · by_cases hRt : fitsB d (unR m (G 0 j) (xp.1 j)) = true
                · have HI1 := Hid.mk' (HIS.out (unL m (G 0 j) (xp.1 j)))
                  have HI2 := Hid.mk' (HIS.out (unR m (G 0 j) (xp.1 j)))
                  rw [hL] at HI1
                  rw [hRt] at HI2
                  have HFT := Hid.mk' (And.intro hL hRt)
                  clear hL hRt
                  generalize hVL : unL m (G 0 j) (xp.1 j) = VL at *
                  generalize hVR : unR m (G 0 j) (xp.1 j) = VR at *
                  have HVL := Hid.mk' hVL
                  have HVR := Hid.mk' hVR
                  clear hVL hVR
                  go_wp2_with fail
                  go_region_held3 (fun w' => w'.cell? ⟨w.heap.size + 1, 3, none⟩ = some (.int .i64 m) ∧ w'.cell? ⟨gs 0, j, none⟩ = some (.int .i64 (G 0 j)) ∧ w'.cell? ⟨gx, j, none⟩ = some (.int .i64 (xp.1 j)))
                    (with_reducible assumption)
                    (first
                    | (go_at_call 119; refine (HUP1.out _).mono ?_; rintro e v1 ⟨rfl, hw1⟩; subst v1; clear HUP1))
                  go_wp2_with (first
                    | (go_at_call 120; refine (HI1.out _).mono ?_; rintro e v1 ⟨rfl, hw1⟩; subst v1; clear HI1)
                    | (go_at_call 120; refine (HI2.out _).mono ?_; rintro e v1 ⟨rfl, hw1⟩; subst v1; clear HI2))
                  go_roundw
                  case rel =>
                    refine ⟨j + 1, by omega, by go_num, ((Chg.refl gx _).set j _).row HSA.out hg01, ?_, fun k hk => ?_, ((HJ.out.2.2.2.set1 j _).set2 j _).drew⟩
                    · exact two_step (((Chg.refl (gs 0) wr).set j _).row HJ.out.2.1 (Ne.symm hg01)) hjn (by simp [twoR, HVR.out]) (fun k hk => by unfold twoR; by_cases e : k < j <;> simp [e] <;> omega)
                    · by_cases e : k = j
                      · rw [e, HVL.out, HVR.out]; exact HFT.out
                      · exact HJ.out.2.2.1 k (by omega)
                  case measure => simp [intOf]; omega
                · have HNO : Hid (∀ H, ¬ InsP BT b d n m nn H) := fun H hh => two_no HN2.out HSU.out hh j hjn (fun h => hRt h.2)
                  have HI1 := Hid.mk' (HIS.out (unL m (G 0 j) (xp.1 j)))
                  have HI2 := Hid.mk' (HIS.out (unR m (G 0 j) (xp.1 j)))
                  have hR0 : fitsB d (unR m (G 0 j) (xp.1 j)) = false := by simpa using hRt
                  rw [hL] at HI1
                  rw [hR0] at HI2
                  clear hL hRt hR0
                  have tn1 : ((1 : Int) == (n : Int)) = false := by have := HN2.out; simp; omega
                  generalize unL m (G 0 j) (xp.1 j) = VL at *
                  generalize unR m (G 0 j) (xp.1 j) = VR at *
                  go_wp2_with fail
                  go_region_held3 (fun w' => w'.cell? ⟨w.heap.size + 1, 3, none⟩ = some (.int .i64 m) ∧ w'.cell? ⟨gs 0, j, none⟩ = some (.int .i64 (G 0 j)) ∧ w'.cell? ⟨gx, j, none⟩ = some (.int .i64 (xp.1 j)))
                    (with_reducible assumption)
                    (first
                    | (go_at_call 119; refine (HUP1.out _).mono ?_; rintro e v1 ⟨rfl, hw1⟩; subst v1; clear HUP1))
                  go_wp2_with (first
                    | (go_at_call 120; refine (HI1.out _).mono ?_; rintro e v1 ⟨rfl, hw1⟩; subst v1; clear HI1)
                    | (go_at_call 120; refine (HI2.out _).mono ?_; rintro e v1 ⟨rfl, hw1⟩; subst v1; clear HI2))
                  rw [Exit.noGoto_ret]
                  go_ret2
                  first
                  | exact ⟨.inr ⟨_, HNO.out, rfl⟩, kept_below (HBW.out.trans (HB2.out.mono HBW.out.size)) HJ.out.2.2.2 HG0.out HGB.out⟩
                  | exact ⟨.inr ⟨_, HNO.out, rfl⟩, (kept_below (HBW.out.trans (HB2.out.mono HBW.out.size)) HJ.out.2.2.2 HG0.out HGB.out).drew⟩
              · have HNO : Hid (∀ H, ¬ InsP BT b d n m nn H) := fun H hh => two_no HN2.out HSU.out hh j hjn (fun h => hL h.1)
                have HI1 := Hid.mk' (HIS.out (unL m (G 0 j) (xp.1 j)))
                have HI2 := Hid.mk' (HIS.out (unR m (G 0 j) (xp.1 j)))
                have hL0 : fitsB d (unL m (G 0 j) (xp.1 j)) = false := by simpa using hL
                rw [hL0] at HI1
                clear hL hL0
                have tn1 : ((1 : Int) == (n : Int)) = false := by have := HN2.out; simp; omega
                generalize unL m (G 0 j) (xp.1 j) = VL at *
                generalize unR m (G 0 j) (xp.1 j) = VR at *
                go_wp2_with fail
                go_region_held3 (fun w' => w'.cell? ⟨w.heap.size + 1, 3, none⟩ = some (.int .i64 m) ∧ w'.cell? ⟨gs 0, j, none⟩ = some (.int .i64 (G 0 j)) ∧ w'.cell? ⟨gx, j, none⟩ = some (.int .i64 (xp.1 j)))
                  (with_reducible assumption)
                  (first
                  | (go_at_call 119; refine (HUP1.out _).mono ?_; rintro e v1 ⟨rfl, hw1⟩; subst v1; clear HUP1))
                go_wp2_with (first
                  | (go_at_call 120; refine (HI1.out _).mono ?_; rintro e v1 ⟨rfl, hw1⟩; subst v1; clear HI1)
                  | (go_at_call 120; refine (HI2.out _).mono ?_; rintro e v1 ⟨rfl, hw1⟩; subst v1; clear HI2))
                rw [Exit.noGoto_ret]
                go_ret2
                first
                | exact ⟨.inr ⟨_, HNO.out, rfl⟩, kept_below (HBW.out.trans (HB2.out.mono HBW.out.size)) HJ.out.2.2.2 HG0.out HGB.out⟩
                | exact ⟨.inr ⟨_, HNO.out, rfl⟩, (kept_below (HBW.out.trans (HB2.out.mono HBW.out.size)) HJ.out.2.2.2 HG0.out HGB.out).drew⟩
            · have e : j = nn := by omega
              subst e
              have hA2 := HA2.out.two HJ.out.2.2.2 HGX2.out HRW.out HJ.out.1
              obtain ⟨g', c', u3, hr, ho, hgr⟩ := app_row 24 29 (.slice none 0 0) 24 Tryz.underlying24 infoInts rfl wr _ _ 1 _ #[.slice (some ⟨gx, 0, none⟩) j j] hA2.own (by simp) (by intro u hu; simp at hu; rw [hu]; rfl) (by simp only [maxLen]; simp) (by simp) hA2.size 24
              have HA3 := Hid.mk' ((hA2.more HJ.out.2.1 HGX2.out HNEW.out ho hgr).congr (G' := unG 2 m (upd2 G 1 xp.1)) (fun k hk l hl => by
                have : k = 0 ∨ k = 1 := by omega
                rcases this with e | e <;> subst e <;> simp [unG, upd2, twoL, twoR, hl]))
              have HSP : Hid (sampP d m j (upd2 G 1 xp.1)) := fun k hk => by
                have := HJ.out.2.2.1 k hk
                simpa [upd2] using this
              have HAP : Hid (_ = _) := hr
              clear hA2 hr ho hgr
              go_wp2_with (at_builtin; refine wpList_append_rn rfl _ _ _ rfl _ _ _ rfl rfl HAP.out ?_; clear HAP)
              go_roundw
              case rel => exact ⟨1 + 1, o + tk, _, updN gs 1 gx, upd2 G 1 xp.1, by omega, by go_num, rfl, by rw [HY.out], HSU.out, by rw [if_pos rfl]; exact HA3.out, fun _ => HSP.out⟩
              case measure => simp [intOf]; omega
        · have ti : ((i : Int) == 1) = false := by simp; omega
          obtain ⟨g', c', u3, hr, ho, hgr⟩ := app_row 24 29 (.slice none 0 0) 24 Tryz.underlying24 infoInts rfl u2 _ (.slice al i cl) i _ #[.slice (some ⟨gx, 0, none⟩) nn nn] hA2.own (by simp) (by intro u hu; simp at hu; rw [hu]; rfl) (by simp only [maxLen]; simp; omega) (by simp; omega) hA2.size 24
          have HA3 := Hid.mk' (hA2.more HRW.out (by have := HR.out.2.1.size; omega) hnew ho hgr)
          have HAP : Hid (_ = _) := hr
          have HI2 : Hid (¬ i + 1 = 2) := by have := HN2.out; show ¬ _; omega
          clear hA2 hr ho hgr hS1 hS0 hnew hi1
          generalize xp.2 = tk at *
          generalize hY : bs (BT.drop (o + tk)) = Y at *
          have HY := Hid.mk' hY
          clear hY
          generalize bs (BT.drop o) = Z at *
          have b1 : (tk : Int) ≤ ((BT.length - o : Nat) : Int) := by omega
          have hcu := HCU.out
          go_wp2_with (at_builtin; refine wpList_append_rn rfl _ _ _ rfl _ _ _ rfl rfl HAP.out ?_; clear HAP)
          go_roundw
          case rel => exact ⟨i + 1, o + tk, _, updN gs i gx, upd2 G i xp.1, by omega, by go_num, rfl, by rw [HY.out], HSU.out, by rw [if_neg HI2.out]; exact HA3.out, fun h => absurd h HI2.out⟩
          case measure => simp [intOf]; omega
    · have e : i = n := by omega
      subst e
      have x0 := HR.out.2.1.cfg.cell 0
      have HFL := Hid.mk' (fun u => isFill_any (BT.drop o) u (by rw [List.length_drop]; omega))
      have hi2 := HN2.out
      have hA0 := HR.out.2.1
      rw [if_pos hi2] at hA0
      have HA0 := Hid.mk' hA0
      have hSP := HR.out.2.2 hi2
      clear hA0
      obtain ⟨gl, cl', hal⟩ := own_some HA0.out.own hn1
      injection hal with e1 e2 e3
      subst e1 e3
      by_cases hF : FillP (BT.drop o)
      · have HF := Hid.mk' hF
        have HIN : Hid (InsP BT b d i m nn (unG 2 m G)) := ⟨G, o, HR.out.1, hF, fun _ => hSP, by rw [hi2]⟩
        clear hF hi2 hSP
        go_wp2_with (go_at_call 121; refine (HFL.out _).mono ?_; rintro e u1 ⟨he, hb1⟩; have he := he.true_of HF.out; subst he; have HA := Hid.mk' (HA0.out.next hb1); clear hb1 HFL)
        rw [Exit.noGoto_ret]
        go_ret2
        exact ⟨.inl ⟨unG 2 m G, gl, _, gs, HIN.out, rfl, owns_mono HA.out.own (Nat.le_add_right _ 2), fun k hk => ⟨HA.out.rows k hk, by have := HA.out.far k hk; omega⟩, HA.out.apart⟩, HA.out.below⟩
      · have HF := Hid.mk' hF
        have HNO : Hid (∀ H, ¬ InsP BT b d i m nn H) := fun H ⟨G', o', h1, h2, _⟩ => by
          rw [HR.out.1] at h1
          injection h1 with h1
          injection h1 with _ h1
          rw [← h1] at h2
          exact hF h2
        clear hF hi2 hSP
        go_wp2_with (go_at_call 121; refine (HFL.out _).mono ?_; rintro e u1 ⟨he, hb1⟩; have he := he.false_of HF.out; subst he; have HA := Hid.mk' (HA0.out.next hb1); clear hb1 HFL)
        rw [Exit.noGoto_ret]
        go_ret2
        exact ⟨.inr ⟨_, HNO.out, rfl⟩, HA.out.below⟩
end Go.Proofs.YtlncjgnomhpjnaaGreatDoor

