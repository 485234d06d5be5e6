import Derived.Test.YtlncjgnomhpjnaaGreatDoorJReadProg
import Derived.Lib.LaidTab
import GoSem.ClaimJoined
import Derived.Test.YtlncjgnomhpjnaaGreatDoorRows
import Derived.Test.YtlncjgnomhpjnaaGreatDoorKRefFrame
import Derived.Test.YtlncjgnomhpjnaaGreatDoorKCrcFast
import Derived.Test.YtlncjgnomhpjnaaGreatDoorKFrameTop
/-
  Tables of tables among the laid variables.
-/
namespace Go.Proofs.YtlncjgnomhpjnaaGreatDoor
open Go Go.Lib
set_option linter.unusedVariables false

theorem cells_of_tab2 {H : Type} {enc : TypeId × Value → H} {P : Program} {w : World} {base : Nat} {sp : Nat → Bool} {held : Bool} {fuel : Nat} {t e1 e : TypeId} {n m : Nat} {k : IntKind} {cs : List Value} {zss : List (List Int)} {p : List MemPlace}
    (ht : P.underlying t = some (.array n e1)) (h1 : P.underlying e1 = some (.array m e)) (he : P.underlying e = some (.int k)) (hce : P.cellsOf e = 1) (hc1 : P.cellsOf e1 = m) (hct : P.cellsOf t = n * m)
    (h : DataW.trod enc P w base sp held fuel t cs = some (.agg (zss.map (tabData k)), p)) :
    ∀ r zs, zss[r]? = some zs → ∀ c z, c < m → zs[c]? = some z → cs[r * m + c]? = some (Value.int k z) := by
  cases fuel with
  | zero => simp [DataW.trod] at h
  | succ fuel =>
    simp only [DataW.trod, ht, hc1, hct] at h
    split at h
    · rename_i hl
      obtain ⟨xs, hm, hx⟩ := Option.map_eq_some_iff.1 h
      have hxs : xs.map (·.1) = zss.map (tabData (H := H) k) := by
        have := congrArg Prod.fst hx
        simpa using this
      have hxl : xs.length = n := by simpa using mapM_length hm
      have hzl : zss.length = n := by
        have := congrArg List.length hxs
        simp at this
        omega
      intro r zs hr c z hc hz
      have hrn : r < n := by rw [← hzl]; exact (List.getElem?_eq_some_iff.1 hr).1
      obtain ⟨b, hb, hf⟩ := mapM_at hm r r (by simp [hrn])
      have h2 : (xs.map (·.1))[r]? = some b.1 := by simp [hb]
      rw [hxs, List.getElem?_map, hr] at h2
      have h3 : b.1 = tabData k zs := by simpa using h2.symm
      obtain ⟨b1, b2⟩ := b
      simp only at h3
      subst h3
      have h4 := cells_of_tab h1 he hce hc1 hf
      have h5 := congrArg (·[c]?) h4
      simp [List.getElem?_drop, hc, hz] at h5
      exact h5
    · cases h

def tabRows : List (List Int) := [[0, 0, 0, 0], [1, 0, 0, 0], [2, -1, 0, 0], [3, -3, 1, 0], [4, -6, 4, -1]]
theorem tabRows_at (r c : Nat) (hr : r < 5) (hc : c < 4) : ∃ zs, tabRows[r]? = some zs ∧ zs[c]? = some (tab r c) := by
  have h : ∀ r : Fin 5, ∀ c : Fin 4, (tabRows[r.val]?.bind fun zs => zs[c.val]?) = some (tab r.val c.val) := by decide
  have := h ⟨r, hr⟩ ⟨c, hc⟩
  exact Option.bind_eq_some_iff.1 this
theorem gTaken : Tryz.prog.globalNamed "reel/reelref.taken" = some 3 := by kernel_rfl
theorem gTakenType : (Tryz.prog.globals[3]?).map (·.type) = some 249 := by kernel_rfl
theorem gFixed : Tryz.prog.globalNamed "reel/subframe.fixedWeights" = some 7 := by kernel_rfl
theorem gFixedType : (Tryz.prog.globals[7]?).map (·.type) = some 249 := by kernel_rfl
theorem cells54 : Tryz.prog.cellsOf 249 = 5 * 4 := by kernel_rfl
theorem cells4 : Tryz.prog.cellsOf 199 = 4 := by kernel_rfl
theorem cells1 : Tryz.prog.cellsOf 3 = 1 := by kernel_rfl

end Go.Proofs.YtlncjgnomhpjnaaGreatDoor

/-
  The document's Frame.
-/
namespace Go.Proofs.YtlncjgnomhpjnaaGreatDoor
open Go.RowKit Go.Deep
set_option linter.unusedVariables false

set_option maxRecDepth 4000 in
set_option maxHeartbeats 2000000 in
theorem rFrame_any (c0 c1 c2 c3 c4 c5 c6 c7 number : Int) (a : Option Addr) (n cap : Nat) (A : Nat → Option Addr) (L C : Nat → Nat) (F : Nat → Nat → Int) (w : World) (hn : n ≤ 17592186044416) (hL : ∀ i, i < n → L i ≤ 17592186044416)
    (hA : ListsAt w a n A L C) (hI : ∀ i, i < n → IntsAt w (A i) (L i) (F i)) (hlow : Low w.heap.size a n A L) (hT : TabAt w 3) (hTl : 3 < w.heap.size) :
    Calls Tryz.prog 40 #[.agg #[.int .i64 c0, .int .i64 c1, .int .i64 c2, .int .i64 c3, .int .i64 c4, .int .i64 c5, .int .i64 c6, .int .i64 c7], .int .i64 number, .slice a n cap] w fun e w' =>
      e = .returned (.tuple #[.string (frameS c0 c1 c2 c3 c4 c5 c6 c7 number n L F), .int .i64 (frameE c0 c1 c2 c3 c4 c5 c6 c7 number n L F)]) ∧ Below w.heap.size w w' := by
  have hb0 : Below w.heap.size w (w.alloc (.cells #[.int .i64 c0, .int .i64 c1, .int .i64 c2, .int .i64 c3, .int .i64 c4, .int .i64 c5, .int .i64 c6, .int .i64 c7] 23)) := (Below.refl _ _).alloc (Nat.le_refl _) _
  have HB0 := Hid.mk' hb0
  have HRI := Hid.mk' (fun u => right_any c0 c1 c2 c3 c4 c5 c6 c7 u)
  have lowU : ∀ u, Below w.heap.size w u → Low u.heap.size a n A L := fun u hu => ⟨fun x hx h0 => Nat.lt_of_lt_of_le (hlow.1 x hx h0) hu.size, fun i hi x hx h0 => Nat.lt_of_lt_of_le (hlow.2 i hi x hx h0) hu.size⟩
  by_cases hr : rightB c0 c1 c2 c3 c4 c5 c6 c7 = true
  · have HR := Hid.mk' hr
    obtain ⟨hc0, hc4, hc2, d, rfl, h1, h2⟩ := rightB_d hr
    by_cases hw : within number 0 65535 = true
    · have hw2 := (within_iff _ _ _).1 hw
      have t1 : decide (number < 0) = false := decide_eq_false (by omega)
      have t2 : decide (65535 < number) = false := decide_eq_false (by omega)
      have HEV := Hid.mk' (fun (u : World) (hu : Below w.heap.size w u) => even_any 1 c2 c0 c2 c3 c4 c5 c6 c7 d a n cap A L C F u hc0 (by omega) (by omega) hn hL (hA.below hu hlow.1) (fun i hi => (hI i hi).below hu (hlow.2 i hi)) (lowU u hu))
      by_cases hs : ChanP c0 d n 1 c2 L F
      · have HOK := frame_yes (L := L) (F := F) (n := n) (number := number) ⟨hr, hw, (by simpa using hs)⟩
        rw [HOK.1, HOK.2, Int.toNat_natCast]
        have HS := Hid.mk' hs
        obtain ⟨hnc, hL0, hall⟩ := hs
        subst hnc
        rw [within_iff] at hL0
        obtain ⟨nb, hnb⟩ : ∃ nb : Nat, number = (nb : Int) := ⟨number.toNat, by omega⟩
        subst hnb
        obtain ⟨b, off, rfl, hcell⟩ := hA.open (by omega)
        have hbl : b < w.heap.size := hlow.1 _ rfl (by omega : 0 < n)
        have hcl : ∀ i, i < n → w.cell? ⟨b, off + i, none⟩ = some (.slice (A i) (L 0) (C i)) := fun i hi => by have := hcell i hi; rw [(hall i hi).1] at this; exact this
        have hI2 : ∀ i, i < n → IntsAt w (A i) (L 0) (F i) := fun i hi => by have := hI i hi; rw [(hall i hi).1] at this; exact this
        have hlow2 : ∀ i, i < n → ∀ x, A i = some x → 0 < L 0 → x.block < w.heap.size := fun i hi x hx h0 => hlow.2 i hi x hx (by rw [(hall i hi).1]; exact h0)
        have HMK := Hid.mk' (fun (u : World) (hu : Below w.heap.size w u) => rframe_any c2 c3 c4 c5 c6 c7 d nb b off n cap A (L 0) C F u (by omega) h2 (by omega) (by omega) (by omega) (by omega) (by omega) (fun i hi j hj => (hall i hi).2 j (by rw [(hall i hi).1]; exact hj)) (fun i hi => (hu.cell (p := ⟨b, off + i, none⟩) hbl).trans (hcl i hi)) (Nat.lt_of_lt_of_le hbl hu.size) (fun i hi => (hI2 i hi).below hu (hlow2 i hi))
          (fun i hi x hx h0 => Nat.lt_of_lt_of_le (hlow2 i hi x hx h0) hu.size) (fun r c hr hc => (hu.cell (p := ⟨3, 4 * r + c, none⟩) hTl).trans (hT r c hr hc)) (Nat.lt_of_lt_of_le hTl hu.size))
        rw [Int.toNat_natCast]
        clear hA hI hlow hT lowU hall hI2 hlow2 HOK hr hb0 hL hcl hcell hw hw2
        generalize bs (frameT nb (L 0) (modeN d n F (L 0)) (blockT d n F (L 0))) = R at *
        go_enter Tryz.func40, Tryz.ntmps40
        go_wp2_with (first
          | (go_at_call 69; refine (HRI.out _).mono ?_; rintro e u1 ⟨he, hb⟩; have he := he.true_of HR.out; subst he; obtain ⟨hc1, hf1⟩ := bcell hb; have hs1 : w.heap.size < u1.heap.size := by {have := hb.size; simp at this; omega}; have HB1 := Hid.mk' (HB0.out.trans (hb.mono (by simp))); clear hb hf1 HRI HB0)
          | (go_at_call 70; refine (HEV.out _ ?_).mono ?_; exact HB1.out; rintro e u2 ⟨he, hb⟩; have he := he.true_of HS.out; subst he; obtain ⟨hc2', hf2⟩ := bcell hb; have hs2 : w.heap.size < u2.heap.size := Nat.lt_of_lt_of_le hs1 hb.size; have HB2 := Hid.mk' (HB1.out.trans (hb.mono (Nat.le_of_lt hs1))); clear hb hf2 HEV HB1)
          | (go_at_call 71; refine (HMK.out _ ?_).mono ?_; exact HB2.out; rintro e u3 ⟨rfl, hb⟩; have HB3 := Hid.mk' (HB2.out.trans (hb.mono (Nat.le_of_lt hs2))); clear hb HMK HB2))
        go_ret2
        exact ⟨rfl, HB3.out⟩
      · have HNO := frame_no (c0 := c0) (c1 := (d : Int)) (c2 := c2) (c3 := c3) (c4 := c4) (c5 := c5) (c6 := c6) (c7 := c7) (number := number) (n := n) (L := L) (F := F) (fun h => hs (by simpa using h.2.2))
        have HE : frameE c0 d c2 c3 c4 c5 c6 c7 number n L F = 2 := by unfold frameE; rw [if_pos hr, if_pos hw, if_neg (by simpa using hs)]
        rw [HNO, HE]
        have HS := Hid.mk' hs
        clear hA hI hlow hT lowU HNO hr hb0 hL hs hw HE hw2
        go_enter Tryz.func40, Tryz.ntmps40
        go_wp2_with (first
          | (go_at_call 69; refine (HRI.out _).mono ?_; rintro e u1 ⟨he, hb⟩; have he := he.true_of HR.out; subst he; obtain ⟨hc1, hf1⟩ := bcell hb; have hs1 : w.heap.size < u1.heap.size := by {have := hb.size; simp at this; omega}; have HB1 := Hid.mk' (HB0.out.trans (hb.mono (by simp))); clear hb hf1 HRI HB0)
          | (go_at_call 70; refine (HEV.out _ ?_).mono ?_; exact HB1.out; rintro e u2 ⟨he, hb⟩; have he := he.false_of HS.out; subst he; have HB2 := Hid.mk' (HB1.out.trans (hb.mono (Nat.le_of_lt hs1))); clear hb HEV HB1))
        go_ret2
        exact ⟨rfl, HB2.out⟩
    · have HNO := frame_no (c0 := c0) (c1 := (d : Int)) (c2 := c2) (c3 := c3) (c4 := c4) (c5 := c5) (c6 := c6) (c7 := c7) (number := number) (n := n) (L := L) (F := F) (fun h => hw h.2.1)
      have HE : frameE c0 d c2 c3 c4 c5 c6 c7 number n L F = 3 := by unfold frameE; rw [if_pos hr, if_neg hw]
      rw [HNO, HE]
      have hw2 : number < 0 ∨ 65535 < number := by
        have : ¬ (0 ≤ number ∧ number ≤ 65535) := fun h => hw ((within_iff _ _ _).2 h)
        omega
      clear hA hI hlow hT lowU HNO hr hb0 hL hw HE
      by_cases hneg : number < 0
      · have t1 : decide (number < 0) = true := decide_eq_true hneg
        clear hw2
        go_enter Tryz.func40, Tryz.ntmps40
        go_wp2_with (go_at_call 69; refine (HRI.out _).mono ?_; rintro e u1 ⟨he, hb⟩; have he := he.true_of HR.out; subst he; have HB1 := Hid.mk' (HB0.out.trans (hb.mono (by simp))); clear hb HRI HB0)
        go_ret2
        exact ⟨rfl, HB1.out⟩
      · have t1 : decide (number < 0) = false := decide_eq_false hneg
        have t2 : decide (65535 < number) = true := decide_eq_true (by omega)
        go_enter Tryz.func40, Tryz.ntmps40
        go_wp2_with (go_at_call 69; refine (HRI.out _).mono ?_; rintro e u1 ⟨he, hb⟩; have he := he.true_of HR.out; subst he; have HB1 := Hid.mk' (HB0.out.trans (hb.mono (by simp))); clear hb HRI HB0)
        go_ret2
        exact ⟨rfl, HB1.out⟩
  · have HR := Hid.mk' hr
    have HNO := frame_no (c0 := c0) (c1 := c1) (c2 := c2) (c3 := c3) (c4 := c4) (c5 := c5) (c6 := c6) (c7 := c7) (number := number) (n := n) (L := L) (F := F) (fun h => hr h.1)
    have HE : frameE c0 c1 c2 c3 c4 c5 c6 c7 number n L F = 1 := by unfold frameE; rw [if_neg hr]
    rw [HNO, HE]
    clear hA hI hlow hT lowU HNO hr hb0 hL HE
    go_enter Tryz.func40, Tryz.ntmps40
    go_wp2_with (go_at_call 69; refine (HRI.out _).mono ?_; rintro e u1 ⟨he, hb⟩; have he := he.false_of HR.out; subst he; have HB1 := Hid.mk' (HB0.out.trans (hb.mono (by simp))); clear hb HRI HB0)
    go_ret2
    exact ⟨rfl, HB1.out⟩
end Go.Proofs.YtlncjgnomhpjnaaGreatDoor
