import Derived.Test.YtlncjgnomhpjnaaGreatDoorEKRefHead
import Derived.Test.YtlncjgnomhpjnaaGreatDoorEJFrameHead
import Derived.Test.YtlncjgnomhpjnaaGreatDoorEJEncAll
import Derived.Deep.RegionHeld3
/-
  The document's head as bytes: (reelref.Head).Text.
-/
namespace Go.Proofs.YtlncjgnomhpjnaaGreatDoor
open Go.RowKit Go.Deep
set_option linter.unusedVariables false

theorem kt_below {q : Nat} {wh c0 c1 c2 c3 c4 s least most sum : Int} {pv : Value} {u u' : World} (hb : Below u.heap.size u u') (h : q + 1 < u.heap.size ∧ u.cell? ⟨q, 0, none⟩ = some (.int .i64 wh) ∧ u.cell? ⟨q, 7, none⟩ = some (.int .i64 least) ∧ u.cell? ⟨q, 8, none⟩ = some (.int .i64 most) ∧ u.cell? ⟨q, 9, none⟩ = some (.int .i64 sum) ∧ u.cell? ⟨q, 10, none⟩ = some pv ∧ u.cell? ⟨q + 1, 0, none⟩ = some (.int .i64 c0) ∧ u.cell? ⟨q + 1, 1, none⟩ = some (.int .i64 c1) ∧ u.cell? ⟨q + 1, 2, none⟩ = some (.int .i64 c2) ∧ u.cell? ⟨q + 1, 3, none⟩ = some (.int .i64 c3) ∧ u.cell? ⟨q + 1, 4, none⟩ = some (.int .i64 c4) ∧ u.cell? ⟨q + 1, 5, none⟩ = some (.int .i64 s)) : q + 1 < u'.heap.size ∧ u'.cell? ⟨q, 0, none⟩ = some (.int .i64 wh) ∧ u'.cell? ⟨q, 7, none⟩ = some (.int .i64 least) ∧ u'.cell? ⟨q, 8, none⟩ = some (.int .i64 most) ∧ u'.cell? ⟨q, 9, none⟩ = some (.int .i64 sum) ∧ u'.cell? ⟨q, 10, none⟩ = some pv ∧ u'.cell? ⟨q + 1, 0, none⟩ = some (.int .i64 c0) ∧ u'.cell? ⟨q + 1, 1, none⟩ = some (.int .i64 c1) ∧ u'.cell? ⟨q + 1, 2, none⟩ = some (.int .i64 c2) ∧ u'.cell? ⟨q + 1, 3, none⟩ = some (.int .i64 c3) ∧ u'.cell? ⟨q + 1, 4, none⟩ = some (.int .i64 c4) ∧ u'.cell? ⟨q + 1, 5, none⟩ = some (.int .i64 s) :=
  have h1 : q < u.heap.size := by have := h.1; omega
  ⟨Nat.lt_of_lt_of_le h.1 hb.size, keep_cell hb h1 h.2.1, keep_cell hb h1 h.2.2.1, keep_cell hb h1 h.2.2.2.1, keep_cell hb h1 h.2.2.2.2.1, keep_cell hb h1 h.2.2.2.2.2.1, keep_cell hb h.1 h.2.2.2.2.2.2.1, keep_cell hb h.1 h.2.2.2.2.2.2.2.1, keep_cell hb h.1 h.2.2.2.2.2.2.2.2.1, keep_cell hb h.1 h.2.2.2.2.2.2.2.2.2.1, keep_cell hb h.1 h.2.2.2.2.2.2.2.2.2.2.1, keep_cell hb h.1 h.2.2.2.2.2.2.2.2.2.2.2⟩

set_option maxRecDepth 20000 in
set_option maxHeartbeats 4000000 in
theorem refText_any (c0 c1 c2 c3 s c4 least most sum : Nat) (ps : List Nat) (a : Option Addr) (cap : Nat) (w : World) (h0 : c0 < 256) (h1 : c1 < 256) (h2 : c2 < 256) (h3 : c3 < 65536) (h4 : c4 < 256) (h5 : s < 65536) (h6 : least < 65536) (h7 : most < 65536) (h8 : sum < 4294967296)
    (hl : ps.length ≤ 300) (hp : ∀ p ∈ ps, p < 4294967296) (hI : IntsAt w a ps.length (fun i => ((ps.getD i 0 : Nat) : Int))) (hlow : ∀ x, a = some x → 0 < ps.length → x.block < w.heap.size) :
    Calls Tryz.prog 97 #[.agg (rhC c0 c1 c2 c3 c4 s 1 least most sum (.slice a ps.length cap))] w fun e w' => e = .returned (.string (bs (headTx 1 c0 c1 c2 c3 s c4 least most sum ps))) ∧ Below w.heap.size w w' := by
  have HC8 := Hid.mk' (fun u => ref8_bs (fieldsT 1 c0 c1 c2 c3 s c4 least most sum) u (by rw [fieldsT_length]; omega))
  have hpl : ∀ k, k ≤ ps.length → (ptsT (ps.take k)).length = 2 * k := ptsT_length ps
  have HC16 := Hid.mk' (fun u => ref16_bs (seal8 (fieldsT 1 c0 c1 c2 c3 s c4 least most sum) ++ ptsT ps) u (by rw [List.length_append, seal8_length, fieldsT_length]; have := hpl ps.length (Nat.le_refl _); rw [List.take_length] at this; omega))
  have hc8 := crc_lt 8 263 (fieldsT 1 c0 c1 c2 c3 s c4 least most sum)
  have hc16 := crc_lt 16 98309 (seal8 (fieldsT 1 c0 c1 c2 c3 s c4 least most sum) ++ ptsT ps)
  have HLA := Hid.mk' (fun u => low_any (crc 8 263 (fieldsT 1 c0 c1 c2 c3 s c4 least most sum)) 1 u (by omega) (by omega))
  have HLB := Hid.mk' (fun u => low_any (crc 16 98309 (seal8 (fieldsT 1 c0 c1 c2 c3 s c4 least most sum) ++ ptsT ps)) 2 u (by omega) (by omega))
  have HL1 := Hid.mk' (fun u => low_any 1 1 u (by omega) (by omega))
  have HL2 := Hid.mk' (fun u => low_any c0 1 u (by omega) (by omega))
  have HL3 := Hid.mk' (fun u => low_any c1 1 u (by omega) (by omega))
  have HL4 := Hid.mk' (fun u => low_any c2 1 u (by omega) (by omega))
  have HL5 := Hid.mk' (fun u => low_any c3 2 u (by omega) (by omega))
  have HL6 := Hid.mk' (fun u => low_any s 2 u (by omega) (by omega))
  have HL7 := Hid.mk' (fun u => low_any c4 1 u (by omega) (by omega))
  have HL8 := Hid.mk' (fun u => low_any least 2 u (by omega) (by omega))
  have HL9 := Hid.mk' (fun u => low_any most 2 u (by omega) (by omega))
  have HL10 := Hid.mk' (fun u => low_any sum 4 u (by omega) (by omega))
  have HTX : Hid (ByteArray.mk #[82, 76] ++ bs (inT 1 1) ++ bs (inT c0 1) ++ bs (inT c1 1) ++ bs (inT c2 1) ++ bs (inT c3 2) ++ bs (inT s 2) ++ bs (inT c4 1) ++ bs (inT least 2) ++ bs (inT most 2) ++ bs (inT sum 4) = bs (fieldsT 1 c0 c1 c2 c3 s c4 least most sum)) := by
    show _ = _
    rw [show ByteArray.mk #[82, 76] = bs [82, 76] from rfl]
    simp only [bs_append]; rfl
  have HT8 : Hid (bs (fieldsT 1 c0 c1 c2 c3 s c4 least most sum) ++ bs (inT (crc 8 263 (fieldsT 1 c0 c1 c2 c3 s c4 least most sum)) 1) = bs (seal8 (fieldsT 1 c0 c1 c2 c3 s c4 least most sum) ++ ptsT (ps.take 0))) := by
    show _ = _
    rw [bs_append]; simp [ptsT, seal8]
  have HTK : Hid (∀ k, k < ps.length → bs (seal8 (fieldsT 1 c0 c1 c2 c3 s c4 least most sum) ++ ptsT (ps.take (k + 1))) = bs (seal8 (fieldsT 1 c0 c1 c2 c3 s c4 least most sum) ++ ptsT (ps.take k)) ++ bs (inT (ps.getD k 0) 2)) := fun k hk => by
    rw [ptsT_take ps k hk, bs_append, List.append_assoc, List.getD_eq_getElem?_getD, List.getElem?_eq_getElem hk]; rfl
  have HTE : Hid (bs (seal8 (fieldsT 1 c0 c1 c2 c3 s c4 least most sum) ++ ptsT ps) ++ bs (inT (crc 16 98309 (seal8 (fieldsT 1 c0 c1 c2 c3 s c4 least most sum) ++ ptsT ps)) 2) = bs (headTx 1 c0 c1 c2 c3 s c4 least most sum ps)) := by
    show _ = _
    rw [bs_append]; rfl
  have HSZ : Hid (∀ k, k ≤ ps.length → (bs (seal8 (fieldsT 1 c0 c1 c2 c3 s c4 least most sum) ++ ptsT (ps.take k))).size = 20 + 2 * k) := fun k hk => by
    rw [bs_size, List.length_append, seal8_length, fieldsT_length, hpl k hk]
  have HPB : Hid (∀ k, k < ps.length → ps.getD k 0 < 4294967296) := fun i hi => by
    rw [List.getD_eq_getElem?_getD, List.getElem?_eq_getElem hi]
    exact hp _ (List.getElem_mem hi)
  have HI := Hid.mk' hI
  have HLOW := Hid.mk' hlow
  have z1 : (bs (inT 1 1)).size = 1 := by rw [bs_size, inT_length]
  have z2 : (bs (inT c0 1)).size = 1 := by rw [bs_size, inT_length]
  have z3 : (bs (inT c1 1)).size = 1 := by rw [bs_size, inT_length]
  have z4 : (bs (inT c2 1)).size = 1 := by rw [bs_size, inT_length]
  have z5 : (bs (inT c3 2)).size = 2 := by rw [bs_size, inT_length]
  have z6 : (bs (inT s 2)).size = 2 := by rw [bs_size, inT_length]
  have z7 : (bs (inT c4 1)).size = 1 := by rw [bs_size, inT_length]
  have z8 : (bs (inT least 2)).size = 2 := by rw [bs_size, inT_length]
  have z9 : (bs (inT most 2)).size = 2 := by rw [bs_size, inT_length]
  have z10 : (bs (inT sum 4)).size = 4 := by rw [bs_size, inT_length]
  have zf : (bs (fieldsT 1 c0 c1 c2 c3 s c4 least most sum)).size = 19 := by rw [bs_size, fieldsT_length]
  have za : (bs (inT (crc 8 263 (fieldsT 1 c0 c1 c2 c3 s c4 least most sum)) 1)).size = 1 := by rw [bs_size, inT_length]
  have zb : (bs (inT (crc 16 98309 (seal8 (fieldsT 1 c0 c1 c2 c3 s c4 least most sum) ++ ptsT ps)) 2)).size = 2 := by rw [bs_size, inT_length]
  clear hp hI hlow hpl hc8 hc16
  generalize crc 8 263 (fieldsT 1 c0 c1 c2 c3 s c4 least most sum) = C8 at *
  generalize crc 16 98309 (seal8 (fieldsT 1 c0 c1 c2 c3 s c4 least most sum) ++ ptsT ps) = C16 at *
  generalize bs (headTx 1 c0 c1 c2 c3 s c4 least most sum ps) = R at *
  rw [← HTX.out] at HC8 HT8 zf
  have HFE : Hid (bs (seal8 (fieldsT 1 c0 c1 c2 c3 s c4 least most sum) ++ ptsT ps) = bs (seal8 (fieldsT 1 c0 c1 c2 c3 s c4 least most sum) ++ ptsT (ps.take ps.length))) := by show _ = _; rw [List.take_length]
  rw [HFE.out] at HC16 HTE
  clear HFE HTX
  generalize hTT : (fun k => bs (seal8 (fieldsT 1 c0 c1 c2 c3 s c4 least most sum) ++ ptsT (ps.take k))) = TT at *
  have eT : ∀ k, bs (seal8 (fieldsT 1 c0 c1 c2 c3 s c4 least most sum) ++ ptsT (ps.take k)) = TT k := fun k => by rw [← hTT]
  simp only [eT] at HC16 HT8 HTK HTE HSZ
  clear hTT eT
  generalize bs (inT 1 1) = X1 at *
  generalize bs (inT c0 1) = X2 at *
  generalize bs (inT c1 1) = X3 at *
  generalize bs (inT c2 1) = X4 at *
  generalize bs (inT c3 2) = X5 at *
  generalize bs (inT s 2) = X6 at *
  generalize bs (inT c4 1) = X7 at *
  generalize bs (inT least 2) = X8 at *
  generalize bs (inT most 2) = X9 at *
  generalize bs (inT sum 4) = X10 at *
  generalize bs (inT C8 1) = XA at *
  generalize bs (inT C16 2) = XB at *
  generalize hnn : ps.length = n at *
  clear hnn
  unfold rhC
  have hb0 : Below w.heap.size w ((w.alloc (.cells #[.int .i64 1, .int .i64 c0, .int .i64 c1, .int .i64 c2, .int .i64 c3, .int .i64 c4, .int .i64 s, .int .i64 least, .int .i64 most, .int .i64 sum, .slice a n cap] 123)).alloc (.cells #[.int .i64 c0, .int .i64 c1, .int .i64 c2, .int .i64 c3, .int .i64 c4, .int .i64 s] 46)) := ((Below.refl _ _).alloc (Nat.le_refl _) _).alloc (by simp) _
  have HB0 := Hid.mk' hb0
  clear hb0
  have hS0 : w.heap.size + 1 < ((w.alloc (.cells #[.int .i64 1, .int .i64 c0, .int .i64 c1, .int .i64 c2, .int .i64 c3, .int .i64 c4, .int .i64 s, .int .i64 least, .int .i64 most, .int .i64 sum, .slice a n cap] 123)).alloc (.cells #[.int .i64 c0, .int .i64 c1, .int .i64 c2, .int .i64 c3, .int .i64 c4, .int .i64 s] 46)).drew.heap.size ∧ ((w.alloc (.cells #[.int .i64 1, .int .i64 c0, .int .i64 c1, .int .i64 c2, .int .i64 c3, .int .i64 c4, .int .i64 s, .int .i64 least, .int .i64 most, .int .i64 sum, .slice a n cap] 123)).alloc (.cells #[.int .i64 c0, .int .i64 c1, .int .i64 c2, .int .i64 c3, .int .i64 c4, .int .i64 s] 46)).drew.cell? ⟨w.heap.size, 0, none⟩ = some (.int .i64 1) ∧ ((w.alloc (.cells #[.int .i64 1, .int .i64 c0, .int .i64 c1, .int .i64 c2, .int .i64 c3, .int .i64 c4, .int .i64 s, .int .i64 least, .int .i64 most, .int .i64 sum, .slice a n cap] 123)).alloc (.cells #[.int .i64 c0, .int .i64 c1, .int .i64 c2, .int .i64 c3, .int .i64 c4, .int .i64 s] 46)).drew.cell? ⟨w.heap.size, 7, none⟩ = some (.int .i64 least) ∧ ((w.alloc (.cells #[.int .i64 1, .int .i64 c0, .int .i64 c1, .int .i64 c2, .int .i64 c3, .int .i64 c4, .int .i64 s, .int .i64 least, .int .i64 most, .int .i64 sum, .slice a n cap] 123)).alloc (.cells #[.int .i64 c0, .int .i64 c1, .int .i64 c2, .int .i64 c3, .int .i64 c4, .int .i64 s] 46)).drew.cell? ⟨w.heap.size, 8, none⟩ = some (.int .i64 most) ∧ ((w.alloc (.cells #[.int .i64 1, .int .i64 c0, .int .i64 c1, .int .i64 c2, .int .i64 c3, .int .i64 c4, .int .i64 s, .int .i64 least, .int .i64 most, .int .i64 sum, .slice a n cap] 123)).alloc (.cells #[.int .i64 c0, .int .i64 c1, .int .i64 c2, .int .i64 c3, .int .i64 c4, .int .i64 s] 46)).drew.cell? ⟨w.heap.size, 9, none⟩ = some (.int .i64 sum) ∧ ((w.alloc (.cells #[.int .i64 1, .int .i64 c0, .int .i64 c1, .int .i64 c2, .int .i64 c3, .int .i64 c4, .int .i64 s, .int .i64 least, .int .i64 most, .int .i64 sum, .slice a n cap] 123)).alloc (.cells #[.int .i64 c0, .int .i64 c1, .int .i64 c2, .int .i64 c3, .int .i64 c4, .int .i64 s] 46)).drew.cell? ⟨w.heap.size, 10, none⟩ = some (.slice a n cap) ∧ ((w.alloc (.cells #[.int .i64 1, .int .i64 c0, .int .i64 c1, .int .i64 c2, .int .i64 c3, .int .i64 c4, .int .i64 s, .int .i64 least, .int .i64 most, .int .i64 sum, .slice a n cap] 123)).alloc (.cells #[.int .i64 c0, .int .i64 c1, .int .i64 c2, .int .i64 c3, .int .i64 c4, .int .i64 s] 46)).drew.cell? ⟨w.heap.size + 1, 0, none⟩ = some (.int .i64 c0) ∧ ((w.alloc (.cells #[.int .i64 1, .int .i64 c0, .int .i64 c1, .int .i64 c2, .int .i64 c3, .int .i64 c4, .int .i64 s, .int .i64 least, .int .i64 most, .int .i64 sum, .slice a n cap] 123)).alloc (.cells #[.int .i64 c0, .int .i64 c1, .int .i64 c2, .int .i64 c3, .int .i64 c4, .int .i64 s] 46)).drew.cell? ⟨w.heap.size + 1, 1, none⟩ = some (.int .i64 c1) ∧ ((w.alloc (.cells #[.int .i64 1, .int .i64 c0, .int .i64 c1, .int .i64 c2, .int .i64 c3, .int .i64 c4, .int .i64 s, .int .i64 least, .int .i64 most, .int .i64 sum, .slice a n cap] 123)).alloc (.cells #[.int .i64 c0, .int .i64 c1, .int .i64 c2, .int .i64 c3, .int .i64 c4, .int .i64 s] 46)).drew.cell? ⟨w.heap.size + 1, 2, none⟩ = some (.int .i64 c2) ∧ ((w.alloc (.cells #[.int .i64 1, .int .i64 c0, .int .i64 c1, .int .i64 c2, .int .i64 c3, .int .i64 c4, .int .i64 s, .int .i64 least, .int .i64 most, .int .i64 sum, .slice a n cap] 123)).alloc (.cells #[.int .i64 c0, .int .i64 c1, .int .i64 c2, .int .i64 c3, .int .i64 c4, .int .i64 s] 46)).drew.cell? ⟨w.heap.size + 1, 3, none⟩ = some (.int .i64 c3) ∧ ((w.alloc (.cells #[.int .i64 1, .int .i64 c0, .int .i64 c1, .int .i64 c2, .int .i64 c3, .int .i64 c4, .int .i64 s, .int .i64 least, .int .i64 most, .int .i64 sum, .slice a n cap] 123)).alloc (.cells #[.int .i64 c0, .int .i64 c1, .int .i64 c2, .int .i64 c3, .int .i64 c4, .int .i64 s] 46)).drew.cell? ⟨w.heap.size + 1, 4, none⟩ = some (.int .i64 c4) ∧ ((w.alloc (.cells #[.int .i64 1, .int .i64 c0, .int .i64 c1, .int .i64 c2, .int .i64 c3, .int .i64 c4, .int .i64 s, .int .i64 least, .int .i64 most, .int .i64 sum, .slice a n cap] 123)).alloc (.cells #[.int .i64 c0, .int .i64 c1, .int .i64 c2, .int .i64 c3, .int .i64 c4, .int .i64 s] 46)).drew.cell? ⟨w.heap.size + 1, 5, none⟩ = some (.int .i64 s) := by simp
  go_enter Tryz.func97, Tryz.ntmps97
  go_wp2
  go_region_held3 (fun w' => w.heap.size + 1 < w'.heap.size ∧ w'.cell? ⟨w.heap.size, 0, none⟩ = some (.int .i64 1) ∧ w'.cell? ⟨w.heap.size, 7, none⟩ = some (.int .i64 least) ∧ w'.cell? ⟨w.heap.size, 8, none⟩ = some (.int .i64 most) ∧ w'.cell? ⟨w.heap.size, 9, none⟩ = some (.int .i64 sum) ∧ w'.cell? ⟨w.heap.size, 10, none⟩ = some (.slice a n cap) ∧ w'.cell? ⟨w.heap.size + 1, 0, none⟩ = some (.int .i64 c0) ∧ w'.cell? ⟨w.heap.size + 1, 1, none⟩ = some (.int .i64 c1) ∧ w'.cell? ⟨w.heap.size + 1, 2, none⟩ = some (.int .i64 c2) ∧ w'.cell? ⟨w.heap.size + 1, 3, none⟩ = some (.int .i64 c3) ∧ w'.cell? ⟨w.heap.size + 1, 4, none⟩ = some (.int .i64 c4) ∧ w'.cell? ⟨w.heap.size + 1, 5, none⟩ = some (.int .i64 s))
    (with_reducible assumption)
    (first
    | (go_at_call 111; refine (HL1.out _).mono ?_; rintro e u1 ⟨rfl, hb1⟩; have hS1 := kt_below hb1 hS0; have HB1 := Hid.mk' (HB0.out.drew.trans (hb1.mono (by simp; omega))); clear HL1 HB0 hS0 hb1)
    | (go_at_call 111; refine (HL2.out _).mono ?_; rintro e u2 ⟨rfl, hb2⟩; have hS2 := kt_below hb2 hS1; have HB2 := Hid.mk' (HB1.out.trans (hb2.mono HB1.out.size)); clear HL2 HB1 hS1 hb2)
    | (go_at_call 111; refine (HL3.out _).mono ?_; rintro e u3 ⟨rfl, hb3⟩; have hS3 := kt_below hb3 hS2; have HB3 := Hid.mk' (HB2.out.trans (hb3.mono HB2.out.size)); clear HL3 HB2 hS2 hb3)
    | (go_at_call 111; refine (HL4.out _).mono ?_; rintro e u4 ⟨rfl, hb4⟩; have hS4 := kt_below hb4 hS3; have HB4 := Hid.mk' (HB3.out.trans (hb4.mono HB3.out.size)); clear HL4 HB3 hS3 hb4)
    | (go_at_call 111; refine (HL5.out _).mono ?_; rintro e u5 ⟨rfl, hb5⟩; have hS5 := kt_below hb5 hS4; have HB5 := Hid.mk' (HB4.out.trans (hb5.mono HB4.out.size)); clear HL5 HB4 hS4 hb5)
    | (go_at_call 111; refine (HL6.out _).mono ?_; rintro e u6 ⟨rfl, hb6⟩; have hS6 := kt_below hb6 hS5; have HB6 := Hid.mk' (HB5.out.trans (hb6.mono HB5.out.size)); clear HL6 HB5 hS5 hb6)
    | (go_at_call 111; refine (HL7.out _).mono ?_; rintro e u7 ⟨rfl, hb7⟩; have hS7 := kt_below hb7 hS6; have HB7 := Hid.mk' (HB6.out.trans (hb7.mono HB6.out.size)); clear HL7 HB6 hS6 hb7)
    | (go_at_call 111; refine (HL8.out _).mono ?_; rintro e u8 ⟨rfl, hb8⟩; have hS8 := kt_below hb8 hS7; have HB8 := Hid.mk' (HB7.out.trans (hb8.mono HB7.out.size)); clear HL8 HB7 hS7 hb8)
    | (go_at_call 111; refine (HL9.out _).mono ?_; rintro e u9 ⟨rfl, hb9⟩; have hS9 := kt_below hb9 hS8; have HB9 := Hid.mk' (HB8.out.trans (hb9.mono HB8.out.size)); clear HL9 HB8 hS8 hb9)
    | (go_at_call 111; refine (HL10.out _).mono ?_; rintro e u10 ⟨rfl, hb10⟩; have hS10 := kt_below hb10 hS9; have HB10 := Hid.mk' (HB9.out.trans (hb10.mono HB9.out.size)); clear HL10 HB9 hS9 hb10))
  have HX10 : Hid (w.heap.size < u10.heap.size ∧ u10.cell? ⟨w.heap.size, 10, none⟩ = some (.slice a n cap)) := ⟨by have := hS10.1; omega, hS10.2.2.2.2.2.1⟩
  clear hS10
  go_wp2_with (first
    | (go_at_call 112; refine (HC8.out _).mono ?_; rintro e v1 ⟨rfl, hv1⟩; have HY1 : Hid (w.heap.size < v1.heap.size ∧ v1.cell? ⟨w.heap.size, 10, none⟩ = some (.slice a n cap)) := ⟨Nat.lt_of_lt_of_le HX10.out.1 hv1.size, (hv1.cell (p := ⟨w.heap.size, 10, none⟩) HX10.out.1).trans HX10.out.2⟩; have HV1 := Hid.mk' (HB10.out.trans (hv1.mono HB10.out.size)); clear HC8 HX10 hv1 HB10)
    | (go_at_call 111; refine (HLA.out _).mono ?_; rintro e v2 ⟨rfl, hv2⟩; have HY2 : Hid (w.heap.size < v2.heap.size ∧ v2.cell? ⟨w.heap.size, 10, none⟩ = some (.slice a n cap)) := ⟨Nat.lt_of_lt_of_le HY1.out.1 hv2.size, (hv2.cell (p := ⟨w.heap.size, 10, none⟩) HY1.out.1).trans HY1.out.2⟩; have HV2 := Hid.mk' (HV1.out.trans (hv2.mono HV1.out.size)); clear HLA HY1 hv2 HV1))
  go_loopw [4, 5] (fun sv kv wr => ∃ k : Nat, k ≤ n ∧ kv = .int .i64 k ∧ sv = .string (TT k) ∧ Hid (w.heap.size < wr.heap.size ∧ wr.cell? ⟨w.heap.size, 10, none⟩ = some (.slice a n cap) ∧ Below w.heap.size w wr)) (fun _ kv _ => n - (intOf kv).toNat)
  case atStart => exact ⟨0, Nat.zero_le _, rfl, by rw [← HT8.out], HY2.out.1, HY2.out.2, HV2.out⟩
  case round =>
    clear HY2 HV2 z1 z2 z3 z4 z5 z6 z7 z8 z9 z10 zf HT8
    obtain ⟨k, hk, rfl, rfl, HR⟩ := hrel
    have x10 := HR.out.2.1
    have hzk := HSZ.out k hk
    by_cases hlt : k < n
    · obtain ⟨gi, oi, hAi, hci⟩ := HI.out.open (by omega)
      subst hAi
      have hgl : gi < w.heap.size := HLOW.out _ rfl (by omega)
      have hcv : wr.cell? ⟨gi, oi + k, none⟩ = some (.int .i64 ((ps.getD k 0 : Nat) : Int)) := (HR.out.2.2.cell (p := ⟨gi, oi + k, none⟩) hgl).trans (hci k hlt)
      have hpb := HPB.out k hlt
      have HT := Hid.mk' (HTK.out k hlt)
      generalize ps.getD k 0 = q at *
      clear hci
      have HLQ := Hid.mk' (fun u => low_any q 2 u (by omega) (by omega))
      have hzq : (bs (inT q 2)).size = 2 := by rw [bs_size, inT_length]
      generalize bs (inT q 2) = XQ at *
      go_wp2_with (go_at_call 111; refine (HLQ.out _).mono ?_; rintro e v1 ⟨rfl, hv1⟩; have HY1 : Hid (w.heap.size < v1.heap.size ∧ v1.cell? ⟨w.heap.size, 10, none⟩ = some (.slice (some ⟨gi, oi, none⟩) n cap) ∧ Below w.heap.size w v1) := ⟨Nat.lt_of_lt_of_le HR.out.1 hv1.size, (hv1.cell (p := ⟨w.heap.size, 10, none⟩) HR.out.1).trans HR.out.2.1, HR.out.2.2.trans (hv1.mono HR.out.2.2.size)⟩; clear HLQ hv1)
      go_roundw
      case rel => exact ⟨k + 1, by omega, by go_num, by rw [HT.out], HY1.out⟩
      case measure => simp [intOf]; omega
    · have e : k = n := by omega
      subst e
      go_wp2_with (first
        | (go_at_call 113; refine (HC16.out _).mono ?_; rintro e v1 ⟨rfl, hv1⟩; have HV1 := Hid.mk' (HR.out.2.2.trans (hv1.mono HR.out.2.2.size)); clear HC16 hv1)
        | (go_at_call 111; refine (HLB.out _).mono ?_; rintro e v2 ⟨rfl, hv2⟩; have HV2 := Hid.mk' (HV1.out.trans (hv2.mono HV1.out.size)); clear HLB hv2 HV1))
      go_ret
      exact ⟨by rw [← HTE.out]; rfl, HV2.out⟩
end Go.Proofs.YtlncjgnomhpjnaaGreatDoor

