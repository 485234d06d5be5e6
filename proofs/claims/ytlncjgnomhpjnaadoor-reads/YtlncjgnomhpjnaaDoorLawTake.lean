/-
  The law: the book.
-/
import Derived.Test.YtlncjgnomhpjnaaDoorLawApp
namespace Go.Proofs.YtlncjgnomhpjnaaDoor
open Go.RowKit Go.Deep
set_option linter.unusedVariables false

theorem owns_full {w : World} {g n : Nat} {t : TypeId} {x : Nat → Int} {m : Int} (h : w.rowIs g t n (cutV n x)) (hx : ∀ i, i < n → x i = m) : Full w (.slice (some ⟨g, 0, none⟩) n n) n (List.replicate n (.int .i64 m)) := by
  refine ⟨by simp, .inr ⟨g, rfl, h.lt, fun j u hj => ?_⟩⟩
  rw [List.getElem?_replicate] at hj
  split at hj
  · rename_i hjn
    cases hj
    have := h.cell hjn
    simpa [cutV, cutI, hjn, hx j hjn] using this
  · cases hj

theorem wpList_append_run {P : Program} {w w' : World} {ops : Array Oper} {rest : List Oper} {o : Oper} {a : Act} {Q : Exit → Act → World → Prop}
    (hg : o.guard = none) (s x : Operand) (t : TypeId) (hop : o.op = Op.call { callee := Callee.builtin Builtin.append, args := #[s, x], argTypes := #[t, t] })
    (v b v' : Value) (hs : a.eval s = v) (hx : a.eval x = b) (hrun : (Builtin.append_ #[t, t] o.type #[v, b]).run P w = .ok v' w') (h : wpList P ops Q rest (a.put o.dst v') w') : wpList P ops Q (o :: rest) a w := by
  refine wpList_plain hg fun K hK' => ?_
  unfold Oper.wp
  simp [execOp, hop, resolve, invoke, builtin, hs, hx, hrun, Result.andThen]
  exact hK' _ _ h

/-- marks appended to a list of marks -/
theorem app_marks (w : World) (l : Value) (n : Nat) (m : Int) (arr : Array Value) (k : Nat) (h : Full w l n (List.replicate n (.int .i64 m))) (hn : n ≤ 40) (harr : arr.toList = List.replicate k (.int .i64 m)) (hk : k ≤ 3) (hk1 : 1 ≤ k) (ty : TypeId) :
    ∃ b cap w', (Builtin.append_ #[22, 22] ty #[l, .slice (some ⟨w.heap.size, 0, none⟩) k k]).run Tryd.prog (w.alloc (.cells arr 3)) = .ok (.slice (some ⟨b, 0, none⟩) (n + k) cap) w' ∧
      w.heap.size ≤ b ∧ b < w'.heap.size ∧ IntsAt w' (some ⟨b, 0, none⟩) (n + k) (fun _ => m) ∧ w.grownBy w' none := by
  have hsz : arr.size = k := by rw [← Array.length_toList, harr]; simp
  obtain ⟨v', w', hr, ho, hg⟩ := app_fresh w l n _ arr h hn (by omega) (by omega) (by rw [harr]; intro u hu; rw [List.mem_replicate] at hu; rw [hu.2]; rfl) ty
  rw [hsz] at hr ho
  rw [harr, List.replicate_append_replicate] at ho
  rcases ho.2 with h0 | ⟨b, cap, cur, rfl, hb, hcur, h1, h2, h3, h4⟩
  · have := h0.2; omega
  · refine ⟨b, cap, w', hr, hb, (Array.getElem?_eq_some_iff.1 hcur).1, fun i hi => ⟨_, rfl, ?_⟩, hg⟩
    have := ho.cells (g := b) rfl i (.int .i64 m) (by rw [List.getElem?_replicate, if_pos hi])
    exact this
theorem Full.grown {w w' : World} {l : Value} {n : Nat} {xs : List Value} (h : Full w l n xs) (hg : w.grownBy w' none) : Full w' l n xs := by
  refine ⟨h.1, ?_⟩
  rcases h.2 with h0 | ⟨g, e, hl, hc⟩
  · exact .inl h0
  · exact .inr ⟨g, e, Nat.lt_of_lt_of_le hl hg.size, fun j u hj => hg.cell (hc j u hj) (by simp)⟩

theorem Bo.of {w w' : World} {B : Nat} {kv : Value} {K : Int} (h : Bo w B kv K) (e : w'.heap[B]? = w.heap[B]?) : Bo w' B kv K := e.trans h
theorem Bo.set2 {w : World} {B : Nat} {kv : Value} {K : Int} (h : Bo w B kv K) (q : Int) : Bo (w.setCell ⟨B, 2, none⟩ (.int .i64 q)) B kv q := by
  simp [Bo, World.setCell, Array.getElem?_modify, show w.heap[B]? = _ from h]
theorem Bo.set0 {w : World} {B : Nat} {kv : Value} {K : Int} (h : Bo w B kv K) (v : Value) : Bo (w.setCell ⟨B, 0, none⟩ v) B v K := by
  simp [Bo, World.setCell, Array.getElem?_modify, show w.heap[B]? = _ from h]
theorem ints_grown {w w' : World} {r : Option Nat} {a : Option Addr} {n : Nat} {f : Nat → Int} (h : IntsAt w a n f) (hg : w.grownBy w' r) (hne : ∀ y, a = some y → some y.block ≠ r) : IntsAt w' a n f := by
  intro i hi
  obtain ⟨y, e, hc⟩ := h i hi
  have hb : (y.add i).block = y.block := by cases y; cases i <;> simp [Addr.add]
  exact ⟨y, e, hg.cell hc (by rw [hb]; exact hne y e)⟩

/-- a list of marks, and where it lies -/
def Sh (S : Nat → Prop) (w : World) (v : Value) (n : Nat) (m : Int) : Prop := ∃ a c, v = .slice a n c ∧ IntsAt w a n (fun _ => m) ∧ ∀ y, a = some y → S y.block ∧ y.block < w.heap.size

/-- what 'take' leaves -/
structure Took (w w' : World) (B : Nat) (l : Value) (n : Nat) (kv : Value) (K : Nat) (base j : Nat) (ks : List Value) (m : Int) : Prop where
  all : ∃ v1 v2 v3 kv' base', Bo w' B kv' ((K : Int) + 1) ∧ w'.ownsRow base' 50 6 kv' (j + 1) (ks ++ [l, v1, v2, v3, .int .i64 n, .int .i64 m]) ∧ base' ≤ w'.heap.size ∧ (kv = .slice none 0 0 → w.heap.size ≤ base') ∧
    Sh (fun k => k ≠ B ∧ (kv = .slice none 0 0 → kv'.ownBlock ≠ some k)) w' l n m ∧ Sh (fun k => k ≠ B ∧ (kv = .slice none 0 0 → kv'.ownBlock ≠ some k)) w' v1 (n + 1) m ∧
    Sh (fun k => k ≠ B ∧ (kv = .slice none 0 0 → kv'.ownBlock ≠ some k)) w' v2 (n + 2) m ∧ Sh (fun k => k ≠ B ∧ (kv = .slice none 0 0 → kv'.ownBlock ≠ some k)) w' v3 (n + 3) m
  os : w'.os = w.os
  tape : w'.tape = w.tape
  output : w'.output = w.output
  size : w.heap.size ≤ w'.heap.size
  block : ∀ k, k < w.heap.size → k ≠ B → l.ownBlock ≠ some k → kv.ownBlock ≠ some k → w'.heap[k]? = w.heap[k]?

set_option maxRecDepth 100000 in
set_option maxHeartbeats 2000000 in
theorem take_any (B g n : Nat) (kv : Value) (K : Nat) (base j : Nat) (ks : List Value) (x : Nat → Int) (w : World) (hn : n ≤ 32) (hK : K ≤ 100) (hB : Bo w B kv K) (hrow : w.rowIs g 3 n (cutV n x)) (hgB : g ≠ B)
    (hown : w.ownsRow base 50 6 kv j ks) (hj : j ≤ 10) (hbase : base ≤ w.heap.size) (hkvB : kv.ownBlock ≠ some B) (hkvg : kv.ownBlock ≠ some g) :
    Calls Tryd.prog 10 #[.pointer (some ⟨B, 0, none⟩), .slice (some ⟨g, 0, none⟩) n n] w fun e w' => e = .returned (.tuple #[]) ∧ Took w w' B (.slice (some ⟨g, 0, none⟩) n n) n kv K base j ks (-1000 - ((K : Int) + 1)) := by
  obtain ⟨c0, c1, c2, f0, f2⟩ := hB.cells
  have HB := Hid.mk' hB
  have HROW := Hid.mk' hrow
  obtain ⟨m, hm⟩ : ∃ m : Int, m = -1000 - ((K : Int) + 1) := ⟨_, rfl⟩
  have hmw : -1000 - ((K : Int) + 1) = m := hm.symm
  rw [hmw]
  have HOWN := Hid.mk' hown
  have hBlt := hB.lt
  have hglt := hrow.lt
  clear hown
  have HW : Hid (Chg B w (w.setCell ⟨B, 2, none⟩ (.int .i64 ((K : Int) + 1)))) := (Chg.refl B w).set 2 _
  clear hB hrow hm
  go_enter Tryd.func10, Tryd.ntmps10
  go_wp2
  obtain ⟨W, hW⟩ : ∃ W, W = w.setCell ⟨B, 2, none⟩ (.int .i64 ((K : Int) + 1)) := ⟨_, rfl⟩
  rw [← hW] at HW
  rw [← hW]
  have HWE := Hid.mk' hW
  clear hW
  go_loopw [5] (fun i wr => ∃ k : Nat, k ≤ n ∧ i = .int .i64 k ∧ Hid (∃ y, (∀ j, j < k → y j = m) ∧ wr.rowIs g 3 n (cutV n y) ∧ Chg g W wr)) (fun i _ => n - (intOf i).toNat)
  case atStart => exact ⟨0, Nat.zero_le _, rfl, x, fun j hj => absurd hj (by omega), HW.out.row HROW.out hgB, Chg.refl _ _⟩
  case round =>
    obtain ⟨k, hk, rfl, HX⟩ := hrel
    obtain ⟨y, hy, hrow, hch⟩ := HX.out
    by_cases hkn : k < n
    · have hc0 : wr.cell? ⟨g, k, none⟩ = some (.int .i64 (y k)) := by
        have := hrow.cell hkn
        simpa [cutV, cutI, hkn] using this
      have hf0 := hrow.frozen k
      have HY := Hid.mk' hy
      have HR := Hid.mk' hrow
      have HCH := Hid.mk' hch
      clear hy hrow hch HX
      go_wp2
      go_roundw
      case rel =>
        refine ⟨k + 1, by omega, by go_num, updI y k m, fun j hj => ?_, (HR.out.set k (.int .i64 m)).congr fun i hi => ?_, HCH.out.set k _⟩
        · unfold updI
          split
          · rfl
          · exact HY.out j (by omega)
        · by_cases e : i = k
          · simp [e, cutV, cutI, updI, hkn]
          · simp [e, cutV, cutI, updI]
      case measure => simp [intOf]; omega
    · have e : k = n := by omega
      subst k
      have HF := Hid.mk' (owns_full hrow hy)
      have HCH := Hid.mk' hch
      have hownR := (HOWN.out.kept HW.out (.inr hkvB)).kept hch (.inr hkvg)
      have hBoR : Bo wr B kv ((K : Int) + 1) := (by rw [HWE.out]; exact HB.out.set2 _ : Bo W B kv ((K : Int) + 1)).of (hch.block B (Nat.lt_of_lt_of_le hBlt HW.out.size) (by simpa using Ne.symm hgB))
      have hBR := hBoR.lt
      have HIL : Hid (IntsAt wr (some ⟨g, 0, none⟩) n (fun _ => m)) := fun i hi => ⟨_, rfl, by
        have := hrow.cell hi
        rw [show ((⟨g, 0, none⟩ : Addr).add i) = ⟨g, i, none⟩ by cases i <;> simp [Addr.add]]
        simpa [cutV, cutI, hi, hy i hi] using this⟩
      have OSR : Hid (wr.os = w.os ∧ wr.tape = w.tape ∧ wr.output = w.output) := ⟨hch.os.trans HW.out.os, hch.tape.trans HW.out.tape, hch.output.trans HW.out.output⟩
      have FR : Hid (∀ k, k < w.heap.size → k ≠ B → some k ≠ (Value.slice (some ⟨g, 0, none⟩) n n).ownBlock → wr.heap[k]? = w.heap[k]?) := fun k hk hkB hkg => (hch.block k (Nat.lt_of_lt_of_le hk HW.out.size) hkg).trans (HW.out.block k hk (by simpa using hkB))
      have hszR : w.heap.size ≤ wr.heap.size := Nat.le_trans HW.out.size hch.size
      clear hy hrow hch HX
      obtain ⟨b1, c1, u1, hr1, hb1, hl1, hi1, hg1⟩ := app_marks wr (.slice (some ⟨g, 0, none⟩) n n) n m #[.int .i64 m] 1 HF.out (by omega) rfl (by omega) (by omega) 22
      obtain ⟨b2, c2, u2, hr2, hb2, hl2, hi2, hg2⟩ := app_marks u1 (.slice (some ⟨g, 0, none⟩) n n) n m #[.int .i64 m, .int .i64 m] 2 (HF.out.grown hg1) (by omega) rfl (by omega) (by omega) 22
      obtain ⟨b3, c3, u3, hr3, hb3, hl3, hi3, hg3⟩ := app_marks u2 (.slice (some ⟨g, 0, none⟩) n n) n m #[.int .i64 m, .int .i64 m, .int .i64 m] 3 ((HF.out.grown hg1).grown hg2) (by omega) rfl (by omega) (by omega) 22
      have HI1 := Hid.mk' hi1
      have HI2 := Hid.mk' hi2
      have HI3 := Hid.mk' hi3
      have HG1 := Hid.mk' hg1
      have HG2 := Hid.mk' hg2
      have HG3 := Hid.mk' hg3
      have HR1 := Hid.mk' hr1
      have HR2 := Hid.mk' hr2
      have HR3 := Hid.mk' hr3
      have hown3 := ((hownR.kept hg1 (Classical.em _)).kept hg2 (Classical.em _)).kept hg3 (Classical.em _)
      have hBo3 := ((hBoR.of (hg1.block B hBR (by simp))).of (hg2.block B (Nat.lt_of_lt_of_le hBR hg1.size) (by simp))).of (hg3.block B (Nat.lt_of_lt_of_le hBR (Nat.le_trans hg1.size hg2.size)) (by simp))
      have hB3 := hBo3.lt
      obtain ⟨base', hown4, hb', hnil⟩ : ∃ base', u3.ownsRow base' 50 6 kv j ks ∧ base' ≤ u3.heap.size ∧ (kv = .slice none 0 0 → base' = u3.heap.size) := by
        by_cases e : kv = .slice none 0 0
        · refine ⟨u3.heap.size, ⟨hown3.1, ?_⟩, Nat.le_refl _, fun _ => rfl⟩
          rcases hown3.2 with h | ⟨g', cap, cur, h, -⟩
          · exact .inl h
          · rw [e] at h; cases h
        · exact ⟨base, hown3, by have := hg1.size; have := hg2.size; have := hg3.size; omega, fun h => absurd h e⟩
      obtain ⟨kv', u4, hr4, ho4, hg4⟩ := app_kept u3 base' kv j ks #[(.slice (some ⟨g, 0, none⟩) n n), .slice (some ⟨b1, 0, none⟩) (n + 1) c1, .slice (some ⟨b2, 0, none⟩) (n + 2) c2, .slice (some ⟨b3, 0, none⟩) (n + 3) c3, .int .i64 n, .int .i64 m] hown4 rfl (by intro u hu; simp at hu; rcases hu with rfl | rfl | rfl | rfl | rfl | rfl <;> rfl) hj hb' 31
      obtain ⟨b4, c4, hkv'⟩ : ∃ b4 c4, kv' = .slice (some ⟨b4, 0, none⟩) (j + 1) c4 := by
        rcases ho4.2 with h | ⟨g', cap, cur, h, -⟩
        · have := h.2; omega
        · exact ⟨g', cap, h⟩
      subst hkv'
      have hb4 : base' ≤ b4 ∧ b4 < u4.heap.size := ho4.lt b4 rfl
      have hb4B : b4 ≠ B := by
        intro e
        have hBo : Bo u4 B kv ((K : Int) + 1) := hBo3.of (hg4.block B hB3 (Ne.symm hkvB))
        rcases ho4.2 with h | ⟨g', cap, cur, h, -, hcur, -⟩
        · cases h.1
        · cases h
          rw [e, show u4.heap[B]? = _ from hBo] at hcur
          simp at hcur
      have hBo4 : Bo u4 B kv ((K : Int) + 1) := hBo3.of (hg4.block B hB3 (Ne.symm hkvB))
      obtain ⟨d0, d1, d2, e0, e2⟩ := hBo3.cells
      obtain ⟨x0, x1, x2, y0, y2⟩ := hBo4.cells
      have HR4 := Hid.mk' hr4
      have HO4 := Hid.mk' ho4
      have HG4 := Hid.mk' hg4
      have HBo4 := Hid.mk' hBo4
      have HNIL := Hid.mk' hnil
      have HB' := Hid.mk' hb'
      clear hi1 hi2 hi3 hg1 hg2 hg3 hr1 hr2 hr3 hr4 ho4 hg4 hBo3 hBo4 hown3 hown4 hownR hBoR hnil hb'
      go_wp2_with (first
        | (at_builtin; refine wpList_append_run rfl _ _ _ rfl _ _ _ rfl rfl HR1.out ?_; clear HR1)
        | (at_builtin; refine wpList_append_run rfl _ _ _ rfl _ _ _ rfl rfl HR2.out ?_; clear HR2)
        | (at_builtin; refine wpList_append_run rfl _ _ _ rfl _ _ _ rfl rfl HR3.out ?_; clear HR3)
        | (at_builtin; refine wpList_append_run rfl _ _ _ rfl _ _ _ rfl rfl HR4.out ?_; clear HR4))
      have s1 := HG1.out.size
      have s2 := HG2.out.size
      have s3 := HG3.out.size
      have s4 := HG4.out.size
      have hset : u4.grownBy (u4.setCell ⟨B, 0, none⟩ (.slice (some ⟨b4, 0, none⟩) (j + 1) c4)) (some B) := (Chg.refl B u4).set 0 _
      have hkvlt : ∀ k, kv.ownBlock = some k → k < w.heap.size := fun k hk => (HOWN.out.lt k hk).2
      have hnl := HNIL.out
      have hbb := HB'.out
      have far : ∀ b, w.heap.size ≤ b → some b ≠ kv.ownBlock := fun b hb e => by have := hkvlt b e.symm; omega
      have HT : Took w (u4.setCell ⟨B, 0, none⟩ (.slice (some ⟨b4, 0, none⟩) (j + 1) c4)) B (.slice (some ⟨g, 0, none⟩) n n) n kv K base j ks m := by
       have G0 : ∀ k, k < w.heap.size → k ≠ B → some k ≠ (show Value from (.slice (some ⟨g, 0, none⟩) n n)).ownBlock → wr.heap[k]? = w.heap[k]? := FR.out
       have O0 := OSR.out
       refine ⟨⟨.slice (some ⟨b1, 0, none⟩) (n + 1) c1, .slice (some ⟨b2, 0, none⟩) (n + 2) c2, .slice (some ⟨b3, 0, none⟩) (n + 3) c3, _, base', HBo4.out.set0 _, HO4.out.kept hset (.inr (by simp [Value.ownBlock]; omega)), by have := hset.size; omega, fun e => by have := hnl e; omega, ?_, ?_, ?_, ?_⟩, ?_, ?_, ?_, ?_, ?_⟩
       · first
         | exact ⟨none, 0, rfl, fun i hi => absurd hi (Nat.not_lt_zero i), fun y hy => by cases hy⟩
         | (
             refine ⟨_, _, rfl, ints_grown (ints_grown (ints_grown (ints_grown (ints_grown HIL.out HG1.out (by simp)) HG2.out (by simp)) HG3.out (by simp)) HG4.out (by intro y hy; cases hy; exact Ne.symm hkvg)) hset (by intro y hy; cases hy; simp; omega), ?_⟩
             intro y hy; cases hy
             have := hset.size
             refine ⟨⟨hgB, fun e => ?_⟩, by show g < _; omega⟩
             have := hnl e
             simp [Value.ownBlock]; omega)
       · refine ⟨_, _, rfl, ints_grown (ints_grown (ints_grown (ints_grown HI1.out HG2.out (by simp)) HG3.out (by simp)) HG4.out (by intro y hy; cases hy; exact far b1 (by omega))) hset (by intro y hy; cases hy; simp; omega), ?_⟩
         intro y hy; cases hy
         have := hset.size
         refine ⟨⟨by show b1 ≠ B; omega, fun e => ?_⟩, by show b1 < _; omega⟩
         have := hnl e
         simp [Value.ownBlock]; omega
       · refine ⟨_, _, rfl, ints_grown (ints_grown (ints_grown HI2.out HG3.out (by simp)) HG4.out (by intro y hy; cases hy; exact far b2 (by omega))) hset (by intro y hy; cases hy; simp; omega), ?_⟩
         intro y hy; cases hy
         have := hset.size
         refine ⟨⟨by show b2 ≠ B; omega, fun e => ?_⟩, by show b2 < _; omega⟩
         have := hnl e
         simp [Value.ownBlock]; omega
       · refine ⟨_, _, rfl, ints_grown (ints_grown HI3.out HG4.out (by intro y hy; cases hy; exact far b3 (by omega))) hset (by intro y hy; cases hy; simp; omega), ?_⟩
         intro y hy; cases hy
         have := hset.size
         refine ⟨⟨by show b3 ≠ B; omega, fun e => ?_⟩, by show b3 < _; omega⟩
         have := hnl e
         simp [Value.ownBlock]; omega
       · exact hset.os.trans (HG4.out.os.trans (HG3.out.os.trans (HG2.out.os.trans (HG1.out.os.trans O0.1))))
       · exact hset.tape.trans (HG4.out.tape.trans (HG3.out.tape.trans (HG2.out.tape.trans (HG1.out.tape.trans O0.2.1))))
       · exact hset.output.trans (HG4.out.output.trans (HG3.out.output.trans (HG2.out.output.trans (HG1.out.output.trans O0.2.2))))
       · have := hset.size; omega
       · intro k hk hkB hkl hkv
         exact (hset.block k (by omega) (by simpa using hkB)).trans ((HG4.out.block k (by omega) (Ne.symm hkv)).trans ((HG3.out.block k (by omega) (by simp)).trans ((HG2.out.block k (by omega) (by simp)).trans ((HG1.out.block k (by omega) (by simp)).trans (G0 k hk hkB (Ne.symm hkl))))))
      go_end0
      exact ⟨rfl, HT⟩

set_option maxRecDepth 100000 in
set_option maxHeartbeats 2000000 in
theorem take_none (B : Nat) (kv : Value) (K : Nat) (base j : Nat) (ks : List Value) (w : World) (hK : K ≤ 100) (hB : Bo w B kv K)
    (hown : w.ownsRow base 50 6 kv j ks) (hj : j ≤ 10) (hbase : base ≤ w.heap.size) (hkvB : kv.ownBlock ≠ some B) :
    Calls Tryd.prog 10 #[.pointer (some ⟨B, 0, none⟩), .slice none 0 0] w fun e w' => e = .returned (.tuple #[]) ∧ Took w w' B (.slice none 0 0) 0 kv K base j ks (-1000 - ((K : Int) + 1)) := by
  obtain ⟨c0, c1, c2, f0, f2⟩ := hB.cells
  have HB := Hid.mk' hB
  obtain ⟨m, hm⟩ : ∃ m : Int, m = -1000 - ((K : Int) + 1) := ⟨_, rfl⟩
  have hmw : -1000 - ((K : Int) + 1) = m := hm.symm
  rw [hmw]
  have HOWN := Hid.mk' hown
  have hBlt := hB.lt
  have HW : Hid (Chg B w (w.setCell ⟨B, 2, none⟩ (.int .i64 ((K : Int) + 1)))) := (Chg.refl B w).set 2 _
  clear hB hm hown
  go_enter Tryd.func10, Tryd.ntmps10
  go_wp2
  obtain ⟨W, hW⟩ : ∃ W, W = w.setCell ⟨B, 2, none⟩ (.int .i64 ((K : Int) + 1)) := ⟨_, rfl⟩
  rw [← hW] at HW
  rw [← hW]
  have HWE := Hid.mk' hW
  clear hW
  go_loopw [5] (fun i wr => i = .int .i64 0 ∧ wr = W) (fun i _ => 0)
  case atStart => exact ⟨rfl, rfl⟩
  case round =>
    obtain ⟨rfl, hwr⟩ := hrel
    have hch : W.grownBy wr none := by rw [hwr]; exact ⟨rfl, rfl, rfl, Nat.le_refl _, fun _ _ _ => rfl⟩
    clear hwr
    have HF : Hid (Full wr (.slice none 0 0) 0 (List.replicate 0 (.int .i64 m))) := ⟨rfl, .inl ⟨rfl, rfl⟩⟩
    have hownR := (HOWN.out.kept HW.out (.inr hkvB)).kept hch (Classical.em _)
    have hBoR : Bo wr B kv ((K : Int) + 1) := (by rw [HWE.out]; exact HB.out.set2 _ : Bo W B kv ((K : Int) + 1)).of (hch.block B (Nat.lt_of_lt_of_le hBlt HW.out.size) (by simp))
    have hBR := hBoR.lt
    have OSR : Hid (wr.os = w.os ∧ wr.tape = w.tape ∧ wr.output = w.output) := ⟨hch.os.trans HW.out.os, hch.tape.trans HW.out.tape, hch.output.trans HW.out.output⟩
    have FR : Hid (∀ k, k < w.heap.size → k ≠ B → some k ≠ (Value.slice none 0 0).ownBlock → wr.heap[k]? = w.heap[k]?) := fun k hk hkB _ => (hch.block k (Nat.lt_of_lt_of_le hk HW.out.size) (by simp)).trans (HW.out.block k hk (by simpa using hkB))
    have hszR : w.heap.size ≤ wr.heap.size := Nat.le_trans HW.out.size hch.size
    clear hch
    obtain ⟨b1, c1, u1, hr1, hb1, hl1, hi1, hg1⟩ := app_marks wr (.slice none 0 0) 0 m #[.int .i64 m] 1 HF.out (by omega) rfl (by omega) (by omega) 22
    obtain ⟨b2, c2, u2, hr2, hb2, hl2, hi2, hg2⟩ := app_marks u1 (.slice none 0 0) 0 m #[.int .i64 m, .int .i64 m] 2 (HF.out.grown hg1) (by omega) rfl (by omega) (by omega) 22
    obtain ⟨b3, c3, u3, hr3, hb3, hl3, hi3, hg3⟩ := app_marks u2 (.slice none 0 0) 0 m #[.int .i64 m, .int .i64 m, .int .i64 m] 3 ((HF.out.grown hg1).grown hg2) (by omega) rfl (by omega) (by omega) 22
    have HI1 := Hid.mk' hi1
    have HI2 := Hid.mk' hi2
    have HI3 := Hid.mk' hi3
    have HG1 := Hid.mk' hg1
    have HG2 := Hid.mk' hg2
    have HG3 := Hid.mk' hg3
    have HR1 := Hid.mk' hr1
    have HR2 := Hid.mk' hr2
    have HR3 := Hid.mk' hr3
    have hown3 := ((hownR.kept hg1 (Classical.em _)).kept hg2 (Classical.em _)).kept hg3 (Classical.em _)
    have hBo3 := ((hBoR.of (hg1.block B hBR (by simp))).of (hg2.block B (Nat.lt_of_lt_of_le hBR hg1.size) (by simp))).of (hg3.block B (Nat.lt_of_lt_of_le hBR (Nat.le_trans hg1.size hg2.size)) (by simp))
    have hB3 := hBo3.lt
    obtain ⟨base', hown4, hb', hnil⟩ : ∃ base', u3.ownsRow base' 50 6 kv j ks ∧ base' ≤ u3.heap.size ∧ (kv = .slice none 0 0 → base' = u3.heap.size) := by
      by_cases e : kv = .slice none 0 0
      · refine ⟨u3.heap.size, ⟨hown3.1, ?_⟩, Nat.le_refl _, fun _ => rfl⟩
        rcases hown3.2 with h | ⟨g', cap, cur, h, -⟩
        · exact .inl h
        · rw [e] at h; cases h
      · exact ⟨base, hown3, by have := hg1.size; have := hg2.size; have := hg3.size; omega, fun h => absurd h e⟩
    obtain ⟨kv', u4, hr4, ho4, hg4⟩ := app_kept u3 base' kv j ks #[(.slice none 0 0), .slice (some ⟨b1, 0, none⟩) (0 + 1) c1, .slice (some ⟨b2, 0, none⟩) (0 + 2) c2, .slice (some ⟨b3, 0, none⟩) (0 + 3) c3, .int .i64 0, .int .i64 m] hown4 rfl (by intro u hu; simp at hu; rcases hu with rfl | rfl | rfl | rfl | rfl | rfl <;> rfl) hj hb' 31
    obtain ⟨b4, c4, hkv'⟩ : ∃ b4 c4, kv' = .slice (some ⟨b4, 0, none⟩) (j + 1) c4 := by
      rcases ho4.2 with h | ⟨g', cap, cur, h, -⟩
      · have := h.2; omega
      · exact ⟨g', cap, h⟩
    subst hkv'
    have hb4 : base' ≤ b4 ∧ b4 < u4.heap.size := ho4.lt b4 rfl
    have hb4B : b4 ≠ B := by
      intro e
      have hBo : Bo u4 B kv ((K : Int) + 1) := hBo3.of (hg4.block B hB3 (Ne.symm hkvB))
      rcases ho4.2 with h | ⟨g', cap, cur, h, -, hcur, -⟩
      · cases h.1
      · cases h
        rw [e, show u4.heap[B]? = _ from hBo] at hcur
        simp at hcur
    have hBo4 : Bo u4 B kv ((K : Int) + 1) := hBo3.of (hg4.block B hB3 (Ne.symm hkvB))
    obtain ⟨d0, d1, d2, e0, e2⟩ := hBo3.cells
    obtain ⟨x0, x1, x2, y0, y2⟩ := hBo4.cells
    have HR4 := Hid.mk' hr4
    have HO4 := Hid.mk' ho4
    have HG4 := Hid.mk' hg4
    have HBo4 := Hid.mk' hBo4
    have HNIL := Hid.mk' hnil
    have HB' := Hid.mk' hb'
    clear hi1 hi2 hi3 hg1 hg2 hg3 hr1 hr2 hr3 hr4 ho4 hg4 hBo3 hBo4 hown3 hown4 hownR hBoR hnil hb'
    go_wp2_with (first
      | (at_builtin; refine wpList_append_run rfl _ _ _ rfl _ _ _ rfl rfl HR1.out ?_; clear HR1)
      | (at_builtin; refine wpList_append_run rfl _ _ _ rfl _ _ _ rfl rfl HR2.out ?_; clear HR2)
      | (at_builtin; refine wpList_append_run rfl _ _ _ rfl _ _ _ rfl rfl HR3.out ?_; clear HR3)
      | (at_builtin; refine wpList_append_run rfl _ _ _ rfl _ _ _ rfl rfl HR4.out ?_; clear HR4))
    have s1 := HG1.out.size
    have s2 := HG2.out.size
    have s3 := HG3.out.size
    have s4 := HG4.out.size
    have hset : u4.grownBy (u4.setCell ⟨B, 0, none⟩ (.slice (some ⟨b4, 0, none⟩) (j + 1) c4)) (some B) := (Chg.refl B u4).set 0 _
    have hkvlt : ∀ k, kv.ownBlock = some k → k < w.heap.size := fun k hk => (HOWN.out.lt k hk).2
    have hnl := HNIL.out
    have hbb := HB'.out
    have far : ∀ b, w.heap.size ≤ b → some b ≠ kv.ownBlock := fun b hb e => by have := hkvlt b e.symm; omega
    have HT : Took w (u4.setCell ⟨B, 0, none⟩ (.slice (some ⟨b4, 0, none⟩) (j + 1) c4)) B (.slice none 0 0) 0 kv K base j ks m := by
     have G0 : ∀ k, k < w.heap.size → k ≠ B → some k ≠ (show Value from (.slice none 0 0)).ownBlock → wr.heap[k]? = w.heap[k]? := FR.out
     have O0 := OSR.out
     refine ⟨⟨.slice (some ⟨b1, 0, none⟩) (0 + 1) c1, .slice (some ⟨b2, 0, none⟩) (0 + 2) c2, .slice (some ⟨b3, 0, none⟩) (0 + 3) c3, _, base', HBo4.out.set0 _, HO4.out.kept hset (.inr (by simp [Value.ownBlock]; omega)), by have := hset.size; omega, fun e => by have := hnl e; omega, ?_, ?_, ?_, ?_⟩, ?_, ?_, ?_, ?_, ?_⟩
     · first
       | exact ⟨none, 0, rfl, fun i hi => absurd hi (Nat.not_lt_zero i), fun y hy => by cases hy⟩
       | (
           refine ⟨_, _, rfl, ints_grown (ints_grown (ints_grown (ints_grown (ints_grown HIL.out HG1.out (by simp)) HG2.out (by simp)) HG3.out (by simp)) HG4.out (by intro y hy; cases hy; exact Ne.symm hkvg)) hset (by intro y hy; cases hy; simp; omega), ?_⟩
           intro y hy; cases hy
           have := hset.size
           refine ⟨⟨hgB, fun e => ?_⟩, by show g < _; omega⟩
           have := hnl e
           simp [Value.ownBlock]; omega)
     · refine ⟨_, _, rfl, ints_grown (ints_grown (ints_grown (ints_grown HI1.out HG2.out (by simp)) HG3.out (by simp)) HG4.out (by intro y hy; cases hy; exact far b1 (by omega))) hset (by intro y hy; cases hy; simp; omega), ?_⟩
       intro y hy; cases hy
       have := hset.size
       refine ⟨⟨by show b1 ≠ B; omega, fun e => ?_⟩, by show b1 < _; omega⟩
       have := hnl e
       simp [Value.ownBlock]; omega
     · refine ⟨_, _, rfl, ints_grown (ints_grown (ints_grown HI2.out HG3.out (by simp)) HG4.out (by intro y hy; cases hy; exact far b2 (by omega))) hset (by intro y hy; cases hy; simp; omega), ?_⟩
       intro y hy; cases hy
       have := hset.size
       refine ⟨⟨by show b2 ≠ B; omega, fun e => ?_⟩, by show b2 < _; omega⟩
       have := hnl e
       simp [Value.ownBlock]; omega
     · refine ⟨_, _, rfl, ints_grown (ints_grown HI3.out HG4.out (by intro y hy; cases hy; exact far b3 (by omega))) hset (by intro y hy; cases hy; simp; omega), ?_⟩
       intro y hy; cases hy
       have := hset.size
       refine ⟨⟨by show b3 ≠ B; omega, fun e => ?_⟩, by show b3 < _; omega⟩
       have := hnl e
       simp [Value.ownBlock]; omega
     · exact hset.os.trans (HG4.out.os.trans (HG3.out.os.trans (HG2.out.os.trans (HG1.out.os.trans O0.1))))
     · exact hset.tape.trans (HG4.out.tape.trans (HG3.out.tape.trans (HG2.out.tape.trans (HG1.out.tape.trans O0.2.1))))
     · exact hset.output.trans (HG4.out.output.trans (HG3.out.output.trans (HG2.out.output.trans (HG1.out.output.trans O0.2.2))))
     · have := hset.size; omega
     · intro k hk hkB hkl hkv
       exact (hset.block k (by omega) (by simpa using hkB)).trans ((HG4.out.block k (by omega) (Ne.symm hkv)).trans ((HG3.out.block k (by omega) (by simp)).trans ((HG2.out.block k (by omega) (by simp)).trans ((HG1.out.block k (by omega) (by simp)).trans (G0 k hk hkB (Ne.symm hkl))))))
    go_end0
    exact ⟨rfl, HT⟩
end Go.Proofs.YtlncjgnomhpjnaaDoor
