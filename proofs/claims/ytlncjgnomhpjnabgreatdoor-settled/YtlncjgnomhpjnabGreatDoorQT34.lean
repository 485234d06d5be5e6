import Derived.Test.YtlncjgnomhpjnabGreatDoorQT33
import Derived.Test.YtlncjgnomhpjnabGreatDoorQT18
import Derived.Laws.CopyRow
import Derived.Laws.AppendOwn
import Derived.Laws.IdiomCopy
import Derived.Test.YtlncjgnomhpjnabGreatDoorQT17
import Derived.Deep.RegionHeld3
/-
  What the steps do: a worker makes a frame and hands it on.
-/
namespace Go.Proofs.YtlncjgnomhpjnabGreatDoor
open Go.RowKit Go.Deep
set_option linter.unusedVariables false
/-- A frame was put into ready; the worker holds nothing. -/
theorem wkHanded {p : Lpar} {a : Lad} {x : Lsn} {F : Nat → Prop} {s : Lst} {w u : World} (h : LineIs p a x F s w) (j k : Nat) (hj : j < p.W) (hk : s.held j = some k) (e0 : Edit (· = a.cr) w u)
    (hq : QIs u a.qr a.cr 250 p.Rm ((s.ready.map (pkV x)).toArray.push (.agg #[.int .i64 k, .string (bs (frT x.d x.ch x.G x.S x.B k))])) (s.shut p)) :
    (∃ v, Bx u (a.wk j) 173 #[ptrV a.lb, .bool (s.ew j), v]) ∧ LineIs p a x F { s with held := updL s.held j none, ready := s.ready ++ [k] } (u.setCell ⟨a.wk j, 2, none⟩ (.pointer none)) ∧ Edit F w (u.setCell ⟨a.wk j, 2, none⟩ (.pointer none)) := by
  obtain ⟨hv, k1, k2⟩ := h.wrk
  have hb := k1 j hj
  have hkd := h.kinds
  have kd1 := hkd.lb; have kd2 := hkd.sp; have kd3 := hkd.su; have kd4 := hkd.wr; have kd5 := hkd.qj; have kd6 := hkd.ql; have kd7 := hkd.qr; have kd8 := hkd.cj; have kd9 := hkd.cl; have kd10 := hkd.cr
  obtain ⟨n1, n2, n3, n4, n5⟩ := h.ne
  have kw := hb.kn
  have hbu := hb.edit e0 (by grind)
  have e5 := Edit.one u (a.wk j) 2 (.pointer none)
  have e3 : Edit (fun q => q = a.cr ∨ q = a.wk j) w (u.setCell ⟨a.wk j, 2, none⟩ (.pointer none)) := (e0.mono (by grind)).trans (e5.mono (by grind))
  have hq' : (s.ready.map (pkV x)).toArray.push (.agg #[.int .i64 k, .string (bs (frT x.d x.ch x.G x.S x.B k))]) = ((s.ready ++ [k]).map (pkV x)).toArray := by simp [pkV]
  rw [hq'] at hq
  refine ⟨⟨_, hbu⟩, h.edit e3 (fun _ hh => hh) (fun k hk => Nat.lt_of_lt_of_le (h.lt k hk) e3.size) (by unfold Firm; grind) (h.cellsOk e3 (fun _ hh => hh) (by grind) (by grind) (by grind)) (h.spl.edit e3 (by grind)) (h.sum.edit e3 (by grind))
    (h.workOk1 e3 (fun _ hh => hh) j hj (by grind) (by grind) (fun i hi => ⟨rfl, by simp [updL, hi]⟩) (.pointer none) (hbu.set 2 (.pointer none)) (Or.inl ⟨by simp [updL], rfl⟩))
    (h.jobs.edit e3 (by grind) (by grind)) (h.lane.edit e3 (by grind) (by grind)) (hq.edit e5 (by grind) (by grind)) rfl, e3.mono fun q hq => ?_⟩
  rcases hq with rfl | rfl
  · exact h.own.2.2.2.2.2.2.2.2.2.1
  · exact h.own.2.2.2.2.2.2.2.2.2.2.2.2 j hj
theorem wkMake {p : Lpar} {a : Lad} {x : Lsn} {F : Nat → Prop} {s : Lst} {w : World} (h : LineIs p a x F s w) {k : Nat} (hkg : k < s.given) (hN : k < nBlk x.S x.B) (hT : TabsF w) :
    Calls Tryz.prog 63 #[.agg #[.int .i64 x.ch, .int .i64 x.d, .int .i64 x.B, .int .i64 x.c3, .int .i64 x.c4, .int .i64 p.W, .int .i64 p.Wd, .int .i64 p.Rm], .int .i64 k, .slice (some ⟨a.gb k, 0, none⟩) x.ch x.ch] w fun e w' => e = .returned (.string (bs (frT x.d x.ch x.G x.S x.B k))) ∧ Below w.heap.size w w' := by
  obtain ⟨h1, h2, h3⟩ := h.blk hkg hN
  have hbd := blkN_bd h.kp.B1 hN
  have hB32 := h.kp.B32
  have hnb := h.kp.nb
  have hd4 := h.kp.d4
  exact make_any x.B x.c3 x.c4 p.W p.Wd p.Rm x.d k (some ⟨a.gb k, 0, none⟩) x.ch x.ch _ _ _ _ w (by omega) h.kp.d12 h.kp.n1 h.kp.n4 (by omega) (by omega) (by omega) (h.kp.blk hN) h1 h2 h3 hT
set_option maxRecDepth 100000 in
set_option maxHeartbeats 4000000 in
theorem wkHand_any {p : Lpar} {a : Lad} {x : Lsn} {F : Nat → Prop} {s : Lst} {w : World} (h : LineIs p a x F s w) (j k : Nat) (hj : j < p.W) (hk : s.held j = some k) (hej : s.ew j = false) (hkg : k < s.given) (hN : k < nBlk x.S x.B) (hr : s.ready.length < p.Rm) (hT : TabsF w) :
    Calls Tryz.prog 414 #[ptrV (a.wk j)] w fun e w' => e = .returned (.tuple #[]) ∧ LineIs p a x F { s with held := updL s.held j none, ready := s.ready ++ [k] } w' ∧ Edit F w w' := by
  obtain ⟨sv, fv, lv, hl, hw, -⟩ := h.cells
  obtain ⟨hv, k1, k2⟩ := h.wrk
  have hb := k1 j hj
  have hhv := (k2 j k hj hk).2
  have hhe : heV hv s j = .pointer (some ⟨hv j, 0, none⟩) := by simp only [heV, hk, ptrV]
  rw [hhe] at hb
  have hkd := h.kinds
  have kd1 := hkd.lb; have kd7 := hkd.qr; have kd10 := hkd.cr
  have kw := hb.kn
  have kh := hhv.kn
  have HS : Hid (∀ u, Edit (· = a.cr) w u → u.cell? ⟨a.wk j, 0, none⟩ = some (.pointer (some ⟨a.lb, 0, none⟩)) ∧ u.cell? ⟨a.wk j, 2, none⟩ = some (.pointer (some ⟨hv j, 0, none⟩)) ∧ u.cell? ⟨hv j, 0, none⟩ = some (.int .i64 k) ∧ u.cell? ⟨hv j, 1, none⟩ = some (.slice (some ⟨a.gb k, 0, none⟩) x.ch x.ch) ∧
      u.cell? ⟨a.lb, 0, none⟩ = some (.int .i64 x.ch) ∧ u.cell? ⟨a.lb, 1, none⟩ = some (.int .i64 x.d) ∧ u.cell? ⟨a.lb, 2, none⟩ = some (.int .i64 x.B) ∧ u.cell? ⟨a.lb, 3, none⟩ = some (.int .i64 x.c3) ∧ u.cell? ⟨a.lb, 4, none⟩ = some (.int .i64 x.c4) ∧ u.cell? ⟨a.lb, 5, none⟩ = some (.int .i64 p.W) ∧ u.cell? ⟨a.lb, 6, none⟩ = some (.int .i64 p.Wd) ∧ u.cell? ⟨a.lb, 7, none⟩ = some (.int .i64 p.Rm) ∧ u.cell? ⟨a.lb, 16, none⟩ = some (.pointer (some ⟨a.qr, 0, none⟩))) := fun u he => by
    have b1 := hb.edit he (by grind)
    have b2 := hhv.edit he (by grind)
    have b3 := hl.edit he (by grind)
    exact ⟨b1.cell 0, b1.cell 2, b2.cell 0, b2.cell 1, b3.cell 0, b3.cell 1, b3.cell 2, b3.cell 3, b3.cell 4, b3.cell 5, b3.cell 6, b3.cell 7, b3.cell 16⟩
  have HMK : Hid (Calls Tryz.prog 63 #[.agg #[.int .i64 x.ch, .int .i64 x.d, .int .i64 x.B, .int .i64 x.c3, .int .i64 x.c4, .int .i64 p.W, .int .i64 p.Wd, .int .i64 p.Rm], .int .i64 k, .slice (some ⟨a.gb k, 0, none⟩) x.ch x.ch] w.drew fun e w' => e = .returned (.string (bs (frT x.d x.ch x.G x.S x.B k))) ∧ Below w.heap.size w.drew w') :=
    wkMake h.drew hkg hN (hT.below (Below.refl _ _).drew)
  have hqr := h.ready
  rw [shut_false hj hej] at hqr
  have HPU : Hid (∀ u, Edit (fun _ => False) w u → Calls Tryz.prog 415 #[.pointer (some ⟨a.qr, 0, none⟩), .agg #[.int .i64 k, .string (bs (frT x.d x.ch x.G x.S x.B k))]] u fun e w' => e = .returned (.tuple #[]) ∧ QIs w' a.qr a.cr 250 p.Rm ((s.ready.map (pkV x)).toArray.push (.agg #[.int .i64 k, .string (bs (frT x.d x.ch x.G x.S x.B k))])) false ∧ Edit (· = a.cr) u w') :=
    fun u he => put_packed a.qr a.cr p.Rm (s.ready.map (pkV x)).toArray (.int .i64 k) (.string (bs (frT x.d x.ch x.G x.S x.B k))) u (hqr.edit he id id) (by simpa using hr) ⟨rfl, rfl⟩
  have HD : Hid (∀ u, Edit (· = a.cr) w u → QIs u a.qr a.cr 250 p.Rm ((s.ready.map (pkV x)).toArray.push (.agg #[.int .i64 k, .string (bs (frT x.d x.ch x.G x.S x.B k))])) false → (∃ v, Bx u (a.wk j) 173 #[ptrV a.lb, .bool (s.ew j), v]) ∧ LineIs p a x F { s with held := updL s.held j none, ready := s.ready ++ [k] } (u.setCell ⟨a.wk j, 2, none⟩ (.pointer none)) ∧ Edit F w (u.setCell ⟨a.wk j, 2, none⟩ (.pointer none))) :=
    fun u he hq => wkHanded h j k hj hk he (by rw [shut_false hj hej]; exact hq)
  have hS0 := HS.out w.drew ((Edit.refl _ w).drewN 1)
  clear h hl hw hb hhv hhe k1 k2 hkd kd1 kd7 kd10 kw kh hqr hT hkg hN hr hk hej
  generalize bs (frT x.d x.ch x.G x.S x.B k) = tx at *
  unfold ptrV at *
  go_enter Tryz.func414, Tryz.ntmps414
  go_wp2_with fail
  go_region_held3 (fun w' => w'.cell? ⟨a.wk j, 0, none⟩ = some (.pointer (some ⟨a.lb, 0, none⟩)) ∧ w'.cell? ⟨a.wk j, 2, none⟩ = some (.pointer (some ⟨hv j, 0, none⟩)) ∧ w'.cell? ⟨hv j, 0, none⟩ = some (.int .i64 k) ∧ w'.cell? ⟨hv j, 1, none⟩ = some (.slice (some ⟨a.gb k, 0, none⟩) x.ch x.ch) ∧ w'.cell? ⟨a.lb, 0, none⟩ = some (.int .i64 x.ch) ∧ w'.cell? ⟨a.lb, 1, none⟩ = some (.int .i64 x.d) ∧ w'.cell? ⟨a.lb, 2, none⟩ = some (.int .i64 x.B) ∧ w'.cell? ⟨a.lb, 3, none⟩ = some (.int .i64 x.c3) ∧ w'.cell? ⟨a.lb, 4, none⟩ = some (.int .i64 x.c4) ∧ w'.cell? ⟨a.lb, 5, none⟩ = some (.int .i64 p.W) ∧ w'.cell? ⟨a.lb, 6, none⟩ = some (.int .i64 p.Wd) ∧ w'.cell? ⟨a.lb, 7, none⟩ = some (.int .i64 p.Rm) ∧ w'.cell? ⟨a.lb, 16, none⟩ = some (.pointer (some ⟨a.qr, 0, none⟩))) (first | with_reducible exact hS0 | with_reducible exact hS1)
    (first
    | (go_at_call 63; refine HMK.out.mono ?_; rintro e u1 ⟨rfl, hb⟩; have HE1 : Hid (Edit (fun _ => False) w u1) := Edit.of (⟨hb.os, hb.tape, hb.output, hb.size, hb.block⟩ : Below w.heap.size w u1); have hS1 := HS.out u1 (HE1.out.mono fun _ h => h.elim); clear hb HMK))
  have hS2 := HS.out u1.drew ((HE1.out.mono fun _ h => h.elim).drewN 1)
  have HP2 := Hid.mk' (HPU.out u1.drew (HE1.out.drewN 1))
  clear hS0 hS1 HPU
  go_wp2_with fail
  go_region_held3 (fun w' => w'.cell? ⟨a.wk j, 0, none⟩ = some (.pointer (some ⟨a.lb, 0, none⟩)) ∧ w'.cell? ⟨a.wk j, 2, none⟩ = some (.pointer (some ⟨hv j, 0, none⟩)) ∧ w'.cell? ⟨hv j, 0, none⟩ = some (.int .i64 k) ∧ w'.cell? ⟨hv j, 1, none⟩ = some (.slice (some ⟨a.gb k, 0, none⟩) x.ch x.ch) ∧ w'.cell? ⟨a.lb, 0, none⟩ = some (.int .i64 x.ch) ∧ w'.cell? ⟨a.lb, 1, none⟩ = some (.int .i64 x.d) ∧ w'.cell? ⟨a.lb, 2, none⟩ = some (.int .i64 x.B) ∧ w'.cell? ⟨a.lb, 3, none⟩ = some (.int .i64 x.c3) ∧ w'.cell? ⟨a.lb, 4, none⟩ = some (.int .i64 x.c4) ∧ w'.cell? ⟨a.lb, 5, none⟩ = some (.int .i64 p.W) ∧ w'.cell? ⟨a.lb, 6, none⟩ = some (.int .i64 p.Wd) ∧ w'.cell? ⟨a.lb, 7, none⟩ = some (.int .i64 p.Rm) ∧ w'.cell? ⟨a.lb, 16, none⟩ = some (.pointer (some ⟨a.qr, 0, none⟩))) (first | with_reducible exact hS2 | with_reducible exact hS3)
    (first
    | (go_at_call 415; refine HP2.out.mono ?_; rintro e u2 ⟨rfl, q2, e2⟩; have HE2 : Hid (Edit (· = a.cr) w u2) := (HE1.out.mono fun _ h => h.elim).trans ⟨e2.os, e2.tape, e2.output, e2.size, e2.block⟩; have hS3 := HS.out u2 HE2.out; have HQ2 := Hid.mk' q2; clear q2 e2 HP2))
  have HZ := Hid.mk' (HD.out u2 HE2.out HQ2.out)
  obtain ⟨⟨v, hbv⟩, HY⟩ := HZ.out
  have HY := Hid.mk' HY
  have t2 := hbv.cell 2
  have f2 := hbv.free 2
  simp at t2
  clear hS2 hS3 HZ HD HQ2 hbv
  go_wp2
  go_end0
  exact ⟨rfl, HY.out⟩
end Go.Proofs.YtlncjgnomhpjnabGreatDoor

/-
  Rows of elements of several cells: copy, clear, append.
-/
namespace Go.Proofs.YtlncjgnomhpjnabGreatDoor
open Go
set_option linter.unusedVariables false
variable {P : Program}
theorem run_copy_rowS (w : World) (dT sT ty elem : TypeId) (size g o dLen dCap : Nat) (a : Addr) (sLen sCap : Nat) (cur : Array Value) (t : TypeId) (cs : List Value)
    (hu : P.underlying dT = some (.slice elem)) (hs : (P.info? elem).map (·.size) = some size)
    (hg : w.heap[g]? = some (.cells cur t (0, 0))) (hn : cs.length = Nat.min sLen dLen * size)
    (hsrc : ∀ j v, cs[j]? = some v → w.cell? (a.add j) = some v) (hfit : o + cs.length ≤ cur.size) (h1 : ∀ v ∈ cs, v.oneCell' = true) :
    (Builtin.copy_ #[dT, sT] ty #[.slice (some ⟨g, o, none⟩) dLen dCap, .slice (some a) sLen sCap]).run P w =
      .ok (goInt (Nat.min sLen dLen)) (w.setRow g (cur.toList.take o ++ cs ++ cur.toList.drop (o + cs.length)).toArray) := by
  have hl := run_loadCells_list (P := P) w a cs hsrc
  have hst := run_storeCells_at P g o t cs 0 cur w hg (by simpa using hfit) h1
  cases hq : P.info? elem with
  | none => simp [hq] at hs
  | some i =>
    have hi : i.size = size := by simpa [hq] using hs
    simp [Builtin.copy_, run_underlying hu, Builtin.lenOf, Builtin.firstCells, sizeOf, typeInfo, hq, hi, ← hn, hl, hst]
theorem run_clear_rowS (w : World) (t e ty : TypeId) (z : Value) (n : Nat) (ht : P.underlying t = some (.slice e)) (hv : ∀ w, (zeroValue e).run P w = .ok z w) (h1 : ∀ v ∈ (Builtin.zeroCells z.cells n).toList, v.oneCell' = true) (g o c : Nat) (cur : Array Value) (hn : 0 < n)
    (hg : w.heap[g]? = some (.cells cur e (0, 0))) (hfit : o + (Builtin.zeroCells z.cells n).toList.length ≤ cur.size) :
    (Builtin.clear_ #[t] ty #[.slice (some ⟨g, o, none⟩) n c]).run P w = .ok (.tuple #[]) (w.setRow g (cur.toList.take o ++ (Builtin.zeroCells z.cells n).toList ++ cur.toList.drop (o + (Builtin.zeroCells z.cells n).toList.length)).toArray) := by
  have hst := run_storeCells_at P g o e (Builtin.zeroCells z.cells n).toList 0 cur w hg (by simpa using hfit) h1
  simp only [Nat.add_zero] at hst
  obtain ⟨m, rfl⟩ : ∃ m, n = m + 1 := ⟨n - 1, by omega⟩
  simp [Builtin.clear_, hst, hv, run_underlying ht]
theorem run_append_roomS (w : World) (t ty e : TypeId) (i : TypeInfo) (ht : P.underlying t = some (.slice e)) (hi : P.info? e = some i) (size : Nat) (hs : i.size = size)
    (g n cap : Nat) (cur : Array Value) (hg : w.heap[g]? = some (.cells cur e (0, 0)))
    (ad : Addr) (m c : Nat) (news : List Value) (hl : news.length = m * size) (hnews : ∀ j v, news[j]? = some v → w.cell? (ad.add j) = some v) (h1 : ∀ v ∈ news, v.oneCell' = true) (hroom : n + m ≤ cap) (hfit : n * size + news.length ≤ cur.size) :
    (Builtin.append_ #[t, t] ty #[.slice (some ⟨g, 0, none⟩) n cap, .slice (some ad) m c]).run P w = .ok (.slice (some ⟨g, 0, none⟩) (n + m) cap) (w.setRow g (cur.toList.take (n * size) ++ news ++ cur.toList.drop (n * size + news.length)).toArray) := by
  have hld := run_loadCells_list (P := P) w ad news hnews
  have hadd : (⟨g, 0, none⟩ : Addr).add (n * size) = ⟨g, n * size, none⟩ := by unfold Addr.add; split <;> simp_all
  have hst := run_storeCells_at P g (n * size) e news 0 cur w hg (by simpa using hfit) h1
  simp [Builtin.append_, run_underlying ht, sizeOf, typeInfo, hi, hs, Builtin.lenOf, Builtin.firstCells, ← hl, hld, hroom, hadd, hst]
theorem run_append_zerosS (w : World) (t tn ty e : TypeId) (i : TypeInfo) (z : Value) (k kn : IntKind) (ht : P.underlying t = some (.slice e)) (htn : P.underlying tn = some (.int kn)) (hi : P.info? e = some i) (hz : i.zero = some z) (size : Nat) (hs : i.size = size)
    (g q cap : Nat) (old : List Value) (hl : old.length = q * size) (hold : ∀ j v, old[j]? = some v → w.cell? ⟨g, j, none⟩ = some v)
    (n : Nat) (h0 : 0 < n) (hs0 : 0 < size) (hroom : cap < q + n) (h300 : q + n ≤ 600) (hby : i.bytes ≤ 64) :
    (Builtin.append_ #[t, tn] ty #[.slice (some ⟨g, 0, none⟩) q cap, .int k n]).run P w =
      .ok (.slice (some ⟨w.heap.size, 0, none⟩) (q + n) (grownCap w (q + n) cap e)) (w.drew.alloc (.cells (old.toArray ++ Builtin.zeroCells z.cells n ++ Builtin.zeroCells z.cells (grownCap w (q + n) cap e - (q + n))) e)) := by
  have hn : n ≠ 0 := by omega
  have hw : IntKind.i64.wrap (n : Int) = n := by rw [IntKind.wrap_i64]; omega
  have hb : n * i.bytes ≤ 600 * 64 := Nat.mul_le_mul (by omega) hby
  have hnc : Builtin.nextslicecap (q + n) cap ≤ 1200 := by
    unfold Builtin.nextslicecap
    split
    · omega
    · split
      · omega
      · have : ∀ r c, c ≤ 600 → Builtin.growBy (q + n) r c ≤ 1200 := by
          intro r
          induction r with
          | zero => intro c hc; simp only [Builtin.growBy]; omega
          | succ r ih =>
            intro c hc
            simp only [Builtin.growBy]
            split
            · omega
            · by_cases h2 : c + (c + 768) / 4 ≤ 600
              · exact ih _ h2
              · cases r with
                | zero => simp only [Builtin.growBy]; omega
                | succ r =>
                  simp only [Builtin.growBy]
                  rw [if_pos (by omega)]
                  omega
        exact this 4 cap (by omega)
  have hb2 : Builtin.nextslicecap (q + n) cap * i.bytes ≤ 1200 * 64 := Nat.mul_le_mul hnc hby
  have h48' : ¬ (281474976710656 < Builtin.nextslicecap (q + n) cap * i.bytes) := by omega
  have h48i : ¬ (281474976710656 < (n : Int) * (i.bytes : Int)) := by
    rw [← Int.natCast_mul]
    omega
  have hneg : ¬ ((n : Int) < 0) := by omega
  have hns : ¬ (n * size = 0) := Nat.mul_ne_zero hn (by omega)
  have h63' : ¬ (9223372036854775807 < (q : Int) + (n : Int)) := by omega
  have hrm : ¬ (q + n ≤ cap) := by omega
  have hld := run_loadCells_list (P := P) w.drew ⟨g, 0, none⟩ old (fun j v hj => by have := hold j v hj; rw [show (⟨g, 0, none⟩ : Addr).add j = ⟨g, j, none⟩ by unfold Addr.add; split <;> simp_all]; exact this)
  simp [Builtin.append_, run_underlying ht, run_underlying htn, sizeOf, typeInfo, zeroValue, hi, hz, asInt, asIntOf, hw, hneg, hns, h63', h48', h48i, hrm, hs, Question.forced, Builtin.firstCells, ← hl, hld, newRow, grownCap]
end Go.Proofs.YtlncjgnomhpjnabGreatDoor

/-
  The shelf: where a frame belongs.
-/
namespace Go.Proofs.YtlncjgnomhpjnabGreatDoor
open Go.RowKit Go.Deep
set_option linter.unusedVariables false
/-- Frames, a cell behind the other. -/
def shC (T : Nat → ByteArray) : List Nat → List Value
  | [] => []
  | k :: r => .int .i64 k :: .string (T k) :: shC T r
theorem shC_len (T : Nat → ByteArray) : ∀ l : List Nat, (shC T l).length = l.length * 2
  | [] => rfl
  | k :: r => by simp only [shC, List.length_cons, shC_len T r]; omega
theorem shC_app (T : Nat → ByteArray) (m : List Nat) : ∀ l : List Nat, shC T (l ++ m) = shC T l ++ shC T m
  | [] => rfl
  | k :: r => by simp only [shC, List.cons_append, shC_app T m r]
theorem shC_take (T : Nat → ByteArray) : ∀ (l : List Nat) (i : Nat), (shC T l).take (i * 2) = shC T (l.take i)
  | [], i => by simp [shC]
  | k :: r, 0 => by simp [shC]
  | k :: r, i + 1 => by simp only [shC, Nat.add_mul, Nat.one_mul, List.take_succ_cons, shC_take T r i]
theorem shC_drop (T : Nat → ByteArray) : ∀ (l : List Nat) (i : Nat), (shC T l).drop (i * 2) = shC T (l.drop i)
  | [], i => by simp [shC]
  | k :: r, 0 => by simp [shC]
  | k :: r, i + 1 => by simp only [shC, Nat.add_mul, Nat.one_mul, List.drop_succ_cons, shC_drop T r i]
theorem shC_get (T : Nat → ByteArray) : ∀ (l : List Nat) (i : Nat) (h : i < l.length), (shC T l)[i * 2]? = some (.int .i64 (l[i] : Nat)) ∧ (shC T l)[i * 2 + 1]? = some (.string (T l[i]))
  | [], i, h => absurd h (Nat.not_lt_zero _)
  | k :: r, 0, h => by simp [shC]
  | k :: r, i + 1, h => by
    have := shC_get T r i (by simpa using h)
    simp only [shC, Nat.add_mul, Nat.one_mul, List.getElem_cons_succ, show i * 2 + 2 = (i * 2) + 1 + 1 by omega, List.getElem?_cons_succ]
    exact this
theorem shC_one (T : Nat → ByteArray) : ∀ (l : List Nat), ∀ v ∈ shC T l, v.oneCell' = true
  | [] => fun v hv => by cases hv
  | k :: r => fun v hv => by
    rcases List.mem_cons.1 hv with rfl | hv
    · rfl
    rcases List.mem_cons.1 hv with rfl | hv
    · rfl
    · exact shC_one T r v hv
theorem compare_any (x y : Int) (w : World) : Calls Tryz.prog 402 #[.int .i64 x, .int .i64 y] w fun e w' => e = .returned (.int .i64 (if x < y then -1 else if y < x then 1 else 0)) ∧ w' = w := by
  have HN : Hid (∀ (z : Int) (u : World), Calls Tryz.prog 404 #[.int .i64 z] u fun e w' => e = .returned (.bool false) ∧ w' = u) := by
    intro z u
    go_enter Tryz.func404, Tryz.ntmps404
    go_wp2
    go_ret
    exact ⟨by simp, rfl⟩
  by_cases h1 : x < y
  · rw [if_pos h1]
    go_enter Tryz.func402, Tryz.ntmps402
    go_wp2_with (go_at_call 404; refine (HN.out _ _).mono ?_; rintro e u ⟨rfl, hw⟩; subst u)
    go_ret
    exact ⟨rfl, rfl⟩
  · rw [if_neg h1]
    by_cases h2 : y < x
    · rw [if_pos h2]
      go_enter Tryz.func402, Tryz.ntmps402
      go_wp2_with (go_at_call 404; refine (HN.out _ _).mono ?_; rintro e u ⟨rfl, hw⟩; subst u)
      go_ret
      exact ⟨rfl, rfl⟩
    · rw [if_neg h2]
      go_enter Tryz.func402, Tryz.ntmps402
      go_wp2_with (go_at_call 404; refine (HN.out _ _).mono ?_; rintro e u ⟨rfl, hw⟩; subst u)
      go_ret
      exact ⟨rfl, rfl⟩
theorem layCmp_any (x y : Int) (s t : ByteArray) (w : World) : Calls Tryz.prog 401 #[.agg #[.int .i64 x, .string s], .agg #[.int .i64 y, .string t]] w fun e w' => e = .returned (.int .i64 (if x < y then -1 else if y < x then 1 else 0)) ∧ Below w.heap.size w w' := by
  have HC := Hid.mk' (fun u => compare_any x y u)
  generalize (if x < y then (-1 : Int) else if y < x then 1 else 0) = c at *
  go_enter Tryz.func401, Tryz.ntmps401
  go_wp2_with (go_at_call 402; refine (HC.out _).mono ?_; rintro e u ⟨rfl, hw⟩; subst u)
  go_ret
  exact ⟨rfl, ((Below.refl _ _).alloc (Nat.le_refl _) _).alloc (by simp) _⟩
end Go.Proofs.YtlncjgnomhpjnabGreatDoor

