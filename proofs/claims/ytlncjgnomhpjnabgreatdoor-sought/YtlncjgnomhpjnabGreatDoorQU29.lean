import Derived.Test.YtlncjgnomhpjnabGreatDoorQU26
import Derived.Test.YtlncjgnomhpjnabGreatDoorQU16
import Derived.Deep.RegionHeld3
/-
  The program reads a frame's two subframes: frame.readSubframes.
-/
namespace Go.Proofs.YtlncjgnomhpjnabGreatDoor
open Go.RowKit Go.Deep
set_option linter.unusedVariables false
/-- the two lists while they are turned back -/
def twoL (m nn j : Nat) (x y : Nat → Int) (k : Nat) : Int := if k < j then unL m (x k) (y k) else x k
def twoR (m nn j : Nat) (x y : Nat → Int) (k : Nat) : Int := if k < j then unR m (x k) (y k) else y k
theorem two_step {u : World} {g nn j : Nat} {f f' : Nat → Int} {v : Int} (h : u.rowIs g 3 nn (cutV nn f)) (hj : j < nn) (hv : f' j = v) (ho : ∀ k, k ≠ j → f' k = f k) : (u.setCell ⟨g, j, none⟩ (.int .i64 v)).rowIs g 3 nn (cutV nn f') :=
  (h.set j _).congr fun k hk => by
    by_cases e : k = j
    · subst e
      rw [if_pos rfl]
      simp [cutV, cutI, hk, hv]
    · rw [if_neg e]
      simp [cutV, cutI, hk, ho k e]
theorem Kept2.drew {b m : Nat} {w w' : World} (h : Kept2 b m w w') : Kept2 b m w w'.drew := ⟨h.os, h.tape, h.output, h.size, h.block⟩
theorem kept_below {g0 gx : Nat} {w u u' : World} (h : Below w.heap.size w u) (hk : Kept2 g0 gx u u') (h0 : w.heap.size ≤ g0) (h1 : w.heap.size ≤ gx) : Below w.heap.size w u' :=
  ⟨hk.os.trans h.os, hk.tape.trans h.tape, hk.output.trans h.output, Nat.le_trans h.size hk.size, fun k hk' => (hk.block k (Nat.lt_of_lt_of_le hk' h.size) (by omega) (by omega)).trans (h.block k hk')⟩
theorem SubI.congr {w wr : World} {cs hs : Array Value} {lv : Value} {nn i : Nat} {gs : Nat → Nat} {G G' : Nat → Nat → Int} (h : SubI w wr cs hs lv nn i gs G) (e : ∀ k, k < i → ∀ j, j < nn → G' k j = G k j) : SubI w wr cs hs lv nn i gs G' :=
  ⟨h.cfg, h.hdr, h.own, fun k hk => (h.rows k hk).congr fun j hj => by simp [cutV, cutI, hj, e k hk j hj], h.far, h.apart, h.below, h.size⟩
theorem own_ne {u : World} {base g nn : Nat} {lv : Value} {i : Nat} {xs : List Value} {f : Nat → Value} (h : u.ownsRow base 30 1 lv i xs) (hr : u.rowIs g 3 nn f) : lv.ownBlock ≠ some g := by
  intro e
  obtain ⟨c0, h1, -⟩ := hr
  rcases h.2 with ⟨rfl, -⟩ | ⟨g2, cap2, cur2, rfl, -, h5, -⟩
  · simp [Value.ownBlock] at e
  · simp [Value.ownBlock] at e
    subst e
    rw [h1] at h5
    injection h5 with h5
    injection h5 with _ h6
    exact absurd h6 (by decide)
theorem SubI.two {w u wi : World} {cs hs : Array Value} {lv : Value} {nn gx : Nat} {gs : Nat → Nat} {G : Nat → Nat → Int} {x : Nat → Int} {f : Nat → Value} (h : SubI w u cs hs lv nn 1 gs G) (hk : Kept2 (gs 0) gx u wi) (hgx : w.heap.size + 2 ≤ gx) (hrow : u.rowIs gx 3 nn f) (h0 : wi.rowIs (gs 0) 3 nn (cutV nn x)) : SubI w wi cs hs lv nn 1 gs (fun _ => x) :=
  have hf := h.far 0 (by omega)
  have hl := h.size
  ⟨h.cfg.of (hk.block _ (by omega) (by omega) (by omega)), h.hdr.of (hk.block _ h.hdr.lt (by omega) (by omega)),
   by
    have n1 := own_ne h.own hrow
    have n2 := own_ne h.own (h.rows 0 (by omega))
    refine ⟨h.own.1, ?_⟩
    rcases h.own.2 with hn | ⟨g, cap, cur, rfl, hb, hgg, rest⟩
    · exact .inl hn
    · refine .inr ⟨g, cap, cur, rfl, hb, (hk.block g (Array.getElem?_eq_some_iff.1 hgg).1 ?_ ?_).trans hgg, rest⟩
      · intro e; exact n2 (by rw [e]; rfl)
      · intro e; exact n1 (by rw [e]; rfl),
   fun k hk' => by have : k = 0 := by omega
                   subst this; exact h0, h.far, h.apart, kept_below h.below hk (by omega) (by omega), Nat.le_trans h.size hk.size⟩
theorem two_no {BT : List UInt8} {b : Nat → Bool} {d n m nn o : Nat} {G H : Nat → Nat → Int} {x : Nat → Int} (hn : n = 2) (h : subsAt b BT.length d n m nn (1 + 1) = some (upd2 G 1 x, o)) (hh : InsP BT b d n m nn H) (j : Nat) (hj : j < nn) (hf : ¬ (fitsB d (unL m (G 0 j) (x j)) = true ∧ fitsB d (unR m (G 0 j) (x j)) = true)) : False := by
  obtain ⟨G', o', h1, -, h3, -⟩ := hh
  subst hn
  rw [h] at h1
  injection h1 with h1
  injection h1 with h1 _
  have := h3 rfl j hj
  rw [← h1] at this
  exact hf this
set_option maxRecDepth 4000 in
set_option maxHeartbeats 2000000 in
theorem readSubs_two (c2 c3 c4 c5 c6 c7 : Int) (num len d n m nn : Nat) (BT : List UInt8) (b : Nat → Bool) (w : World) (hd1 : 1 ≤ d) (hd : d ≤ 12) (hn1 : 1 ≤ n) (hn4 : n ≤ 4) (hm : m < 4) (hnn : nn ≤ 32) (hBT : BT.length ≤ 80000) (hb : Bits (bs BT) b) (hT : TabsU w) (hn2 : n = 2) :
    Calls Tryz.prog 206 #[.agg #[.int .i64 n, .int .i64 d, .int .i64 c2, .int .i64 c3, .int .i64 c4, .int .i64 c5, .int .i64 c6, .int .i64 c7], .agg #[.int .i64 num, .int .i64 len, .int .i64 nn, .int .i64 m], .string (bs BT)] w fun e w' => SubsOut e w w' BT b d n m nn := by
  have hmk := run_make_none 24 30 (.slice none 0 0) 24 Tryz.underlying24 infoInts rfl n (by omega) (by omega)
  have HWI := Hid.mk' (fun (u : World) (hu : Below w.heap.size w u) i (hi : i < n) => widthOf_any d n m i u hd hm hi hn4 (hT.below hu).pairs)
  have HRD := Hid.mk' (fun (u : World) (hu : Below w.heap.size w u) o i => subRead_any (bs (BT.drop o)) (shB b o) (widN d n m i) nn u (by rw [bs_size, List.length_drop]; omega) (widN_bd hd1 hd).1 (widN_bd hd1 hd).2 hnn (bits_drop hb) (hT.below hu).fix (hT.below hu).fixLt)
  have HSZ : Hid (∀ o, (bs (BT.drop o)).size = BT.length - o) := fun o => by rw [bs_size, List.length_drop]
  have HCUT : Hid (∀ o t, o + t ≤ BT.length → (bs (BT.drop o)).extract t (BT.length - o) = bs (BT.drop (o + t))) := fun o t h => by
    rw [bs_cut', List.drop_drop, List.take_of_length_le (by rw [List.length_drop]; omega)]
  have HSL : Hid (∀ (i : Nat) (r : (Nat → Nat → Int) × Nat), subsAt b BT.length d n m nn i = some r → r.2 ≤ BT.length) := fun i r h => (subsAt_le hd1 hd h).1
  have HSB : Hid (∀ (i : Nat) (r : (Nat → Nat → Int) × Nat), subsAt b BT.length d n m nn i = some r → r.2 ≤ BT.length ∧ ∀ k, k < i → ∀ j, j < nn → -4096 ≤ r.1 k j ∧ r.1 k j ≤ 4096) := fun i r h => subsAt_le hd1 hd h
  have HB0 : Hid (Below w.heap.size w ((w.alloc (.cells #[.int .i64 n, .int .i64 d, .int .i64 c2, .int .i64 c3, .int .i64 c4, .int .i64 c5, .int .i64 c6, .int .i64 c7] 23)).alloc (.cells #[.int .i64 num, .int .i64 len, .int .i64 nn, .int .i64 m] 203))) := ((Below.refl _ _).alloc (Nat.le_refl _) _).alloc (by simp) _
  have HN2 := Hid.mk' hn2
  have tn2 : ((n : Int) == 2) = true := by simp; omega
  have HIS := Hid.mk' (fun v u => isSample_any d v u hd1 (by omega))
  have HUP := Hid.mk' (fun x y u hx hy => unpaired_any m x y u hm hx hy)
  clear hb hT hn2
  go_enter Tryz.func206, Tryz.ntmps206
  go_wp2_with fail
  refine wp_scope_straight ?_
  go_wp2_with fail
  refine wp_label ?_
  go_wp2_with fail
  clear hmk
  go_loopw [2, 8, 9, 10, 11, 12, 13, 14, 15, 16, 22] (fun bv lv _ _ _ _ _ _ _ _ iv wr => ∃ i o : Nat, ∃ ov : Value, ∃ gs : Nat → Nat, ∃ G : Nat → Nat → Int, i ≤ n ∧ iv = .int .i64 i ∧ ov = lv ∧ bv = .string (bs (BT.drop o)) ∧ Hid (subsAt b BT.length d n m nn i = some (G, o) ∧ SubI w wr #[.int .i64 n, .int .i64 d, .int .i64 c2, .int .i64 c3, .int .i64 c4, .int .i64 c5, .int .i64 c6, .int .i64 c7] #[.int .i64 num, .int .i64 len, .int .i64 nn, .int .i64 m] ov nn i gs (if i = 2 then unG 2 m G else G) ∧ (i = 2 → sampP d m nn G))) (fun _ _ _ _ _ _ _ _ _ _ iv _ => n - (intOf iv).toNat)
  case atStart =>
    refine ⟨0, 0, .slice (some ⟨w.heap.size + 1 + 1, 0, none⟩) 0 n, fun _ => 0, fun _ _ => 0, Nat.zero_le _, rfl, rfl, rfl, rfl, ?_, fun h => by cases h⟩
    rw [if_neg (by decide)]
    refine ⟨((Bx.new w _ _).alloc _).alloc _, (Bx.new2 (by simp) _ _).alloc _, ?_, fun k hk => absurd hk (Nat.not_lt_zero k), fun k hk => absurd hk (Nat.not_lt_zero k), fun k l hk => absurd hk (Nat.not_lt_zero k), HB0.out.alloc HB0.out.size _, by simp⟩
    have := World.ownsRow_made (base := w.heap.size + 2) (e := 30) (size := 1) ((w.alloc (.cells #[.int .i64 n, .int .i64 d, .int .i64 c2, .int .i64 c3, .int .i64 c4, .int .i64 c5, .int .i64 c6, .int .i64 c7] 23)).alloc (.cells #[.int .i64 num, .int .i64 len, .int .i64 nn, .int .i64 m] 203)) (madeCells #[.slice none 0 0] n) n (by simp) (by simp only [maxLen]; omega) (by simp [size_madeCells])
    rw [show rowL nn (fun _ => 0) 0 = [] from rfl]
    simpa using this
  case round =>
    obtain ⟨i, o, lv, gs, G, hi, rfl, e, rfl, HR⟩ := hrel
    subst e
    have hoN := HSL.out _ _ HR.out.1
    obtain ⟨al, cl, hlv⟩ := own_form HR.out.2.1.own
    subst hlv
    have hsz := HSZ.out o
    have HBW := Hid.mk' HR.out.2.1.below
    by_cases hlt : i < n
    · have hS0 : w.heap.size + 1 < wr.drew.heap.size ∧ wr.drew.cell? ⟨w.heap.size, 0, none⟩ = some (.int .i64 n) ∧ wr.drew.cell? ⟨w.heap.size, 1, none⟩ = some (.int .i64 d) ∧ wr.drew.cell? ⟨w.heap.size + 1, 2, none⟩ = some (.int .i64 nn) ∧ wr.drew.cell? ⟨w.heap.size + 1, 3, none⟩ = some (.int .i64 m) := ⟨by have := HR.out.2.1.size; show _ < wr.heap.size; omega, HR.out.2.1.cfg.cell 0, HR.out.2.1.cfg.cell 1, HR.out.2.1.hdr.cell 2, HR.out.2.1.hdr.cell 3⟩
      have HWI1 := Hid.mk' (fun (u : World) (hu : Below w.heap.size w u) => HWI.out u hu i hlt)
      have HRD1 := Hid.mk' (fun (u : World) (hu : Below w.heap.size w u) => HRD.out u hu o i)
      have HRS := Hid.mk' (readAt_sh (b := b) hoN (widN d n m i) nn)
      rw [hsz] at HRD1
      cases hrd : readSt (shB b o) (BT.length - o) (widN d n m i) nn with
      | none =>
        rw [hrd] at HRD1 HRS
        go_wp2_with fail
        go_region_held3 (fun w' => w.heap.size + 1 < w'.heap.size ∧ w'.cell? ⟨w.heap.size, 0, none⟩ = some (.int .i64 n) ∧ w'.cell? ⟨w.heap.size, 1, none⟩ = some (.int .i64 d) ∧ w'.cell? ⟨w.heap.size + 1, 2, none⟩ = some (.int .i64 nn) ∧ w'.cell? ⟨w.heap.size + 1, 3, none⟩ = some (.int .i64 m))
          (with_reducible assumption)
          (first
          | (go_at_call 254; refine (HWI1.out _ HBW.out.drew).mono ?_; rintro e u1 ⟨rfl, hw1⟩; subst u1; clear HWI1)
          | (go_at_call 225; refine (HRD1.out _ HBW.out.drew).mono ?_; rintro e u2 ⟨rfl, hb2⟩; have hS1 := ku_below hb2 hS0; have HB2 : Hid (Below wr.heap.size wr u2) := (⟨hb2.os, hb2.tape, hb2.output, hb2.size, hb2.block⟩ : Below wr.heap.size wr u2); clear HRD1 hb2))
        have x0 := hS1.2.1
        have t1 : ((i : Int) == (n : Int)) = false := by simp; omega
        have HNO : Hid (∀ H, ¬ InsP BT b d n m nn H) := fun H ⟨G', o', h1, _⟩ => by
          have : subsAt b BT.length d n m nn (i + 1) = none := by
            unfold subsAt
            rw [HR.out.1, Option.bind_some]
            show Option.map _ (readAt b BT.length o (widN d n m i) nn) = none
            rw [HRS.out]; rfl
          rw [subsAt_none this (by omega)] at h1
          cases h1
        clear hS1 hS0
        go_wp2
        rw [Exit.noGoto_ret]
        go_ret2
        exact ⟨.inr ⟨_, HNO.out, rfl⟩, HBW.out.trans (HB2.out.mono HBW.out.size)⟩
      | some xp =>
        rw [hrd] at HRD1 HRS
        have HXL := Hid.mk' (readSt_le hrd)
        clear hrd
        go_wp2_with fail
        go_region_held3 (fun w' => w.heap.size + 1 < w'.heap.size ∧ w'.cell? ⟨w.heap.size, 0, none⟩ = some (.int .i64 n) ∧ w'.cell? ⟨w.heap.size, 1, none⟩ = some (.int .i64 d) ∧ w'.cell? ⟨w.heap.size + 1, 2, none⟩ = some (.int .i64 nn) ∧ w'.cell? ⟨w.heap.size + 1, 3, none⟩ = some (.int .i64 m))
          (with_reducible assumption)
          (first
          | (go_at_call 254; refine (HWI1.out _ HBW.out.drew).mono ?_; rintro e u1 ⟨rfl, hw1⟩; subst u1; clear HWI1)
          | (go_at_call 225; refine (HRD1.out _ HBW.out.drew).mono ?_; rintro e u2 ⟨gx, rfl, hgx, hrow, hb2⟩; have HRW := Hid.mk' hrow; have hS1 := ku_below hb2 hS0; have HB2 : Hid (Below wr.heap.size wr u2) := (⟨hb2.os, hb2.tape, hb2.output, hb2.size, hb2.block⟩ : Below wr.heap.size wr u2); clear HRD1 hb2 hrow))
        have hx := HXL.out
        have HCU := Hid.mk' (HCUT.out o xp.2 (by omega))
        have hA2 := HR.out.2.1.next HB2.out
        rw [if_neg (by have := HN2.out; omega)] at hA2
        have hgx2 : wr.heap.size ≤ gx := hgx
        have HSU : Hid (subsAt b BT.length d n m nn (i + 1) = some (upd2 G i xp.1, o + xp.2)) := by
          show _ = _
          unfold subsAt
          rw [HR.out.1, Option.bind_some]
          show Option.map _ (readAt b BT.length o (widN d n m i) nn) = _
          rw [HRS.out]; rfl
        have hnew : ∀ k, k < i → gs k ≠ gx := fun k hk e => by
          have h1 := (HR.out.2.1.rows k hk).lt
          omega
        have x0 := hS1.2.1
        have x1 := hS1.2.2.1
        have x3 := hS1.2.2.2.2
        by_cases hi1 : i = 1
        · subst hi1
          obtain ⟨gl, cl', hal⟩ := own_some hA2.own (by omega)
          injection hal with e1 e2 e3
          subst e1 e3
          have hl0 : u2.cell? ⟨gl, 0, none⟩ = some (.slice (some ⟨gs 0, 0, none⟩) nn nn) := by
            have := hA2.own.cells (g := gl) rfl 0 (.slice (some ⟨gs 0, 0, none⟩) nn nn) (by unfold rowL; rfl)
            rw [Addr.add_lit] at this; exact this
          have HR0 := Hid.mk' (hA2.rows 0 (by omega))
          have HA2 := Hid.mk' hA2
          have HNEW := Hid.mk' hnew
          clear hA2 hS1 hS0 hnew
          generalize xp.2 = tk at *
          generalize hY : bs (BT.drop (o + tk)) = Y at *
          have HY := Hid.mk' hY
          clear hY
          generalize bs (BT.drop o) = Z at *
          have b1 : (tk : Int) ≤ ((BT.length - o : Nat) : Int) := by omega
          have hcu := HCU.out
          have HBD : Hid (∀ j, j < nn → (-8192 ≤ G 0 j ∧ G 0 j ≤ 8192) ∧ (-8192 ≤ xp.1 j ∧ xp.1 j ≤ 8192)) := fun j hj => by
            have h0 : -4096 ≤ G 0 j ∧ G 0 j ≤ 4096 := (HSB.out _ _ HSU.out).2 0 (by omega) j hj
            have h1 : -4096 ≤ xp.1 j ∧ xp.1 j ≤ 4096 := (HSB.out _ _ HSU.out).2 1 (by omega) j hj
            omega
          have hg01 : gs 0 ≠ gx := HNEW.out 0 (by omega)
          have hf0 := HA2.out.far 0 (by omega)
          have hs2 := HA2.out.size
          have hgxs : wr.heap.size ≤ gx := hgx
          have hrs := HR.out.2.1.size
          have HGX := Hid.mk' HRW.out.lt
          have HG0 : Hid (w.heap.size ≤ gs 0) := by show _ ≤ _; omega
          have HGB : Hid (w.heap.size ≤ gx) := by show _ ≤ _; omega
          have HGX2 : Hid (w.heap.size + 2 ≤ gx) := by show _ ≤ _; omega
          go_wp2_with fail
          go_loopw [14, 15, 16, 58] (fun _ _ _ jv wi => ∃ j : Nat, j ≤ nn ∧ jv = .int .i64 j ∧ Hid (wi.rowIs (gs 0) 3 nn (cutV nn (twoL m nn j (G 0) xp.1)) ∧ wi.rowIs gx 3 nn (cutV nn (twoR m nn j (G 0) xp.1)) ∧ (∀ k, k < j → fitsB d (unL m (G 0 k) (xp.1 k)) = true ∧ fitsB d (unR m (G 0 k) (xp.1 k)) = true) ∧ Kept2 (gs 0) gx u2 wi)) (fun _ _ _ jv _ => nn - (intOf jv).toNat)
          case atStart => exact ⟨0, Nat.zero_le _, rfl, HR0.out.congr (fun k hk => by simp [cutV, cutI, twoL]), HRW.out.congr (fun k hk => by simp [cutV, cutI, twoR]), fun k hk => absurd hk (Nat.not_lt_zero k), Kept2.refl _ _ _⟩
          case round =>
            obtain ⟨j, hj, rfl, HJ⟩ := hrel
            by_cases hjn : j < nn
            · have hbd := HBD.out j hjn
              have ca := HJ.out.1.cell hjn
              have fa := HJ.out.1.frozen j
              have cb := HJ.out.2.1.cell hjn
              have fb := HJ.out.2.1.frozen j
              have ea : cutV nn (twoL m nn j (G 0) xp.1) j = .int .i64 (G 0 j) := by simp [cutV, cutI, twoL, hjn]
              have eb : cutV nn (twoR m nn j (G 0) xp.1) j = .int .i64 (xp.1 j) := by simp [cutV, cutI, twoR, hjn]
              rw [ea] at ca
              rw [eb] at cb
              have hB1 : wr.heap[w.heap.size]? = u2.heap[w.heap.size]? := HJ.out.2.2.2.block _ (by omega) (by omega) (by omega)
              have hB2 : wr.heap[w.heap.size + 1]? = u2.heap[w.heap.size + 1]? := HJ.out.2.2.2.block _ (by omega) (by omega) (by omega)
              have cm : wr.cell? ⟨w.heap.size + 1, 3, none⟩ = some (.int .i64 m) := (HA2.out.hdr.of hB2).cell 3
              have cd : wr.cell? ⟨w.heap.size, 1, none⟩ = some (.int .i64 d) := (HA2.out.cfg.of hB1).cell 1
              have cn : wr.cell? ⟨w.heap.size, 0, none⟩ = some (.int .i64 n) := (HA2.out.cfg.of hB1).cell 0
              have hS2 : wr.drew.cell? ⟨w.heap.size + 1, 3, none⟩ = some (.int .i64 m) ∧ wr.drew.cell? ⟨gs 0, j, none⟩ = some (.int .i64 (G 0 j)) ∧ wr.drew.cell? ⟨gx, j, none⟩ = some (.int .i64 (xp.1 j)) := ⟨cm, ca, cb⟩
              have HUP1 := Hid.mk' (fun u => HUP.out (G 0 j) (xp.1 j) u hbd.1 hbd.2)
              have HSA : Hid ((wr.setCell ⟨gs 0, j, none⟩ (.int .i64 (unL m (G 0 j) (xp.1 j)))).rowIs (gs 0) 3 nn (cutV nn (twoL m nn (j + 1) (G 0) xp.1))) := two_step HJ.out.1 hjn (by simp [twoL]) (fun k hk => by unfold twoL; by_cases e : k < j <;> simp [e] <;> omega)
              by_cases hL : fitsB d (unL m (G 0 j) (xp.1 j)) = true
              · by_cases hRt : fitsB d (unR m (G 0 j) (xp.1 j)) = true
                · have HI1 := Hid.mk' (HIS.out (unL m (G 0 j) (xp.1 j)))
                  have HI2 := Hid.mk' (HIS.out (unR m (G 0 j) (xp.1 j)))
                  rw [hL] at HI1
                  rw [hRt] at HI2
                  have HFT := Hid.mk' (And.intro hL hRt)
                  clear hL hRt
                  generalize hVL : unL m (G 0 j) (xp.1 j) = VL at *
                  generalize hVR : unR m (G 0 j) (xp.1 j) = VR at *
                  have HVL := Hid.mk' hVL
                  have HVR := Hid.mk' hVR
                  clear hVL hVR
                  go_wp2_with fail
                  go_region_held3 (fun w' => w'.cell? ⟨w.heap.size + 1, 3, none⟩ = some (.int .i64 m) ∧ w'.cell? ⟨gs 0, j, none⟩ = some (.int .i64 (G 0 j)) ∧ w'.cell? ⟨gx, j, none⟩ = some (.int .i64 (xp.1 j)))
                    (with_reducible assumption)
                    (first
                    | (go_at_call 255; refine (HUP1.out _).mono ?_; rintro e v1 ⟨rfl, hw1⟩; subst v1; clear HUP1))
                  go_wp2_with (first
                    | (go_at_call 246; refine (HI1.out _).mono ?_; rintro e v1 ⟨rfl, hw1⟩; subst v1; clear HI1)
                    | (go_at_call 246; refine (HI2.out _).mono ?_; rintro e v1 ⟨rfl, hw1⟩; subst v1; clear HI2))
                  go_roundw
                  case rel =>
                    refine ⟨j + 1, by omega, by go_num, ((Chg.refl gx _).set j _).row HSA.out hg01, ?_, fun k hk => ?_, ((HJ.out.2.2.2.set1 j _).set2 j _).drew⟩
                    · exact two_step (((Chg.refl (gs 0) wr).set j _).row HJ.out.2.1 (Ne.symm hg01)) hjn (by simp [twoR, HVR.out]) (fun k hk => by unfold twoR; by_cases e : k < j <;> simp [e] <;> omega)
                    · by_cases e : k = j
                      · rw [e, HVL.out, HVR.out]; exact HFT.out
                      · exact HJ.out.2.2.1 k (by omega)
                  case measure => simp [intOf]; omega
                · have HNO : Hid (∀ H, ¬ InsP BT b d n m nn H) := fun H hh => two_no HN2.out HSU.out hh j hjn (fun h => hRt h.2)
                  have HI1 := Hid.mk' (HIS.out (unL m (G 0 j) (xp.1 j)))
                  have HI2 := Hid.mk' (HIS.out (unR m (G 0 j) (xp.1 j)))
                  have hR0 : fitsB d (unR m (G 0 j) (xp.1 j)) = false := by simpa using hRt
                  rw [hL] at HI1
                  rw [hR0] at HI2
                  clear hL hRt hR0
                  have tn1 : ((1 : Int) == (n : Int)) = false := by have := HN2.out; simp; omega
                  generalize unL m (G 0 j) (xp.1 j) = VL at *
                  generalize unR m (G 0 j) (xp.1 j) = VR at *
                  go_wp2_with fail
                  go_region_held3 (fun w' => w'.cell? ⟨w.heap.size + 1, 3, none⟩ = some (.int .i64 m) ∧ w'.cell? ⟨gs 0, j, none⟩ = some (.int .i64 (G 0 j)) ∧ w'.cell? ⟨gx, j, none⟩ = some (.int .i64 (xp.1 j)))
                    (with_reducible assumption)
                    (first
                    | (go_at_call 255; refine (HUP1.out _).mono ?_; rintro e v1 ⟨rfl, hw1⟩; subst v1; clear HUP1))
                  go_wp2_with (first
                    | (go_at_call 246; refine (HI1.out _).mono ?_; rintro e v1 ⟨rfl, hw1⟩; subst v1; clear HI1)
                    | (go_at_call 246; refine (HI2.out _).mono ?_; rintro e v1 ⟨rfl, hw1⟩; subst v1; clear HI2))
                  rw [Exit.noGoto_ret]
                  go_ret2
                  first
                  | exact ⟨.inr ⟨_, HNO.out, rfl⟩, kept_below (HBW.out.trans (HB2.out.mono HBW.out.size)) HJ.out.2.2.2 HG0.out HGB.out⟩
                  | exact ⟨.inr ⟨_, HNO.out, rfl⟩, (kept_below (HBW.out.trans (HB2.out.mono HBW.out.size)) HJ.out.2.2.2 HG0.out HGB.out).drew⟩
              · have HNO : Hid (∀ H, ¬ InsP BT b d n m nn H) := fun H hh => two_no HN2.out HSU.out hh j hjn (fun h => hL h.1)
                have HI1 := Hid.mk' (HIS.out (unL m (G 0 j) (xp.1 j)))
                have HI2 := Hid.mk' (HIS.out (unR m (G 0 j) (xp.1 j)))
                have hL0 : fitsB d (unL m (G 0 j) (xp.1 j)) = false := by simpa using hL
                rw [hL0] at HI1
                clear hL hL0
                have tn1 : ((1 : Int) == (n : Int)) = false := by have := HN2.out; simp; omega
                generalize unL m (G 0 j) (xp.1 j) = VL at *
                generalize unR m (G 0 j) (xp.1 j) = VR at *
                go_wp2_with fail
                go_region_held3 (fun w' => w'.cell? ⟨w.heap.size + 1, 3, none⟩ = some (.int .i64 m) ∧ w'.cell? ⟨gs 0, j, none⟩ = some (.int .i64 (G 0 j)) ∧ w'.cell? ⟨gx, j, none⟩ = some (.int .i64 (xp.1 j)))
                  (with_reducible assumption)
                  (first
                  | (go_at_call 255; refine (HUP1.out _).mono ?_; rintro e v1 ⟨rfl, hw1⟩; subst v1; clear HUP1))
                go_wp2_with (first
                  | (go_at_call 246; refine (HI1.out _).mono ?_; rintro e v1 ⟨rfl, hw1⟩; subst v1; clear HI1)
                  | (go_at_call 246; refine (HI2.out _).mono ?_; rintro e v1 ⟨rfl, hw1⟩; subst v1; clear HI2))
                rw [Exit.noGoto_ret]
                go_ret2
                first
                | exact ⟨.inr ⟨_, HNO.out, rfl⟩, kept_below (HBW.out.trans (HB2.out.mono HBW.out.size)) HJ.out.2.2.2 HG0.out HGB.out⟩
                | exact ⟨.inr ⟨_, HNO.out, rfl⟩, (kept_below (HBW.out.trans (HB2.out.mono HBW.out.size)) HJ.out.2.2.2 HG0.out HGB.out).drew⟩
            · have e : j = nn := by omega
              subst e
              have hA2 := HA2.out.two HJ.out.2.2.2 HGX2.out HRW.out HJ.out.1
              obtain ⟨g', c', u3, hr, ho, hgr⟩ := app_row 24 30 (.slice none 0 0) 24 Tryz.underlying24 infoInts rfl wr _ _ 1 _ #[.slice (some ⟨gx, 0, none⟩) j j] hA2.own (by simp) (by intro u hu; simp at hu; rw [hu]; rfl) (by simp only [maxLen]; simp) (by simp) hA2.size 24
              have HA3 := Hid.mk' ((hA2.more HJ.out.2.1 HGX2.out HNEW.out ho hgr).congr (G' := unG 2 m (upd2 G 1 xp.1)) (fun k hk l hl => by
                have : k = 0 ∨ k = 1 := by omega
                rcases this with e | e <;> subst e <;> simp [unG, upd2, twoL, twoR, hl]))
              have HSP : Hid (sampP d m j (upd2 G 1 xp.1)) := fun k hk => by
                have := HJ.out.2.2.1 k hk
                simpa [upd2] using this
              have HAP : Hid (_ = _) := hr
              clear hA2 hr ho hgr
              go_wp2_with (at_builtin; refine wpList_append_rn rfl _ _ _ rfl _ _ _ rfl rfl HAP.out ?_; clear HAP)
              go_roundw
              case rel => exact ⟨1 + 1, o + tk, _, updN gs 1 gx, upd2 G 1 xp.1, by omega, by go_num, rfl, by rw [HY.out], HSU.out, by rw [if_pos rfl]; exact HA3.out, fun _ => HSP.out⟩
              case measure => simp [intOf]; omega
        · have ti : ((i : Int) == 1) = false := by simp; omega
          obtain ⟨g', c', u3, hr, ho, hgr⟩ := app_row 24 30 (.slice none 0 0) 24 Tryz.underlying24 infoInts rfl u2 _ (.slice al i cl) i _ #[.slice (some ⟨gx, 0, none⟩) nn nn] hA2.own (by simp) (by intro u hu; simp at hu; rw [hu]; rfl) (by simp only [maxLen]; simp; omega) (by simp; omega) hA2.size 24
          have HA3 := Hid.mk' (hA2.more HRW.out (by have := HR.out.2.1.size; omega) hnew ho hgr)
          have HAP : Hid (_ = _) := hr
          have HI2 : Hid (¬ i + 1 = 2) := by have := HN2.out; show ¬ _; omega
          clear hA2 hr ho hgr hS1 hS0 hnew hi1
          generalize xp.2 = tk at *
          generalize hY : bs (BT.drop (o + tk)) = Y at *
          have HY := Hid.mk' hY
          clear hY
          generalize bs (BT.drop o) = Z at *
          have b1 : (tk : Int) ≤ ((BT.length - o : Nat) : Int) := by omega
          have hcu := HCU.out
          go_wp2_with (at_builtin; refine wpList_append_rn rfl _ _ _ rfl _ _ _ rfl rfl HAP.out ?_; clear HAP)
          go_roundw
          case rel => exact ⟨i + 1, o + tk, _, updN gs i gx, upd2 G i xp.1, by omega, by go_num, rfl, by rw [HY.out], HSU.out, by rw [if_neg HI2.out]; exact HA3.out, fun h => absurd h HI2.out⟩
          case measure => simp [intOf]; omega
    · have e : i = n := by omega
      subst e
      have x0 := HR.out.2.1.cfg.cell 0
      have HFL := Hid.mk' (fun u => isFill_any (BT.drop o) u (by rw [List.length_drop]; omega))
      have hi2 := HN2.out
      have hA0 := HR.out.2.1
      rw [if_pos hi2] at hA0
      have HA0 := Hid.mk' hA0
      have hSP := HR.out.2.2 hi2
      clear hA0
      obtain ⟨gl, cl', hal⟩ := own_some HA0.out.own hn1
      injection hal with e1 e2 e3
      subst e1 e3
      by_cases hF : FillP (BT.drop o)
      · have HF := Hid.mk' hF
        have HIN : Hid (InsP BT b d i m nn (unG 2 m G)) := ⟨G, o, HR.out.1, hF, fun _ => hSP, by rw [hi2]⟩
        clear hF hi2 hSP
        go_wp2_with (go_at_call 256; refine (HFL.out _).mono ?_; rintro e u1 ⟨he, hb1⟩; have he := he.true_of HF.out; subst he; have HA := Hid.mk' (HA0.out.next hb1); clear hb1 HFL)
        rw [Exit.noGoto_ret]
        go_ret2
        exact ⟨.inl ⟨unG 2 m G, gl, _, gs, HIN.out, rfl, owns_mono HA.out.own (Nat.le_add_right _ 2), fun k hk => ⟨HA.out.rows k hk, by have := HA.out.far k hk; omega⟩, HA.out.apart⟩, HA.out.below⟩
      · have HF := Hid.mk' hF
        have HNO : Hid (∀ H, ¬ InsP BT b d i m nn H) := fun H ⟨G', o', h1, h2, _⟩ => by
          rw [HR.out.1] at h1
          injection h1 with h1
          injection h1 with _ h1
          rw [← h1] at h2
          exact hF h2
        clear hF hi2 hSP
        go_wp2_with (go_at_call 256; refine (HFL.out _).mono ?_; rintro e u1 ⟨he, hb1⟩; have he := he.false_of HF.out; subst he; have HA := Hid.mk' (HA0.out.next hb1); clear hb1 HFL)
        rw [Exit.noGoto_ret]
        go_ret2
        exact ⟨.inr ⟨_, HNO.out, rfl⟩, HA.out.below⟩
end Go.Proofs.YtlncjgnomhpjnabGreatDoor

