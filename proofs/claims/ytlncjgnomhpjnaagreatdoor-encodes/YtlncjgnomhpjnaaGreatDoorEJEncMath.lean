import Derived.Test.YtlncjgnomhpjnaaGreatDoorEKFrameMake
import Derived.ArgAppend
/-
  Plain mathematics for 'Sums': running sums of bytes. No dump is imported.
-/
namespace Go.Proofs.YtlncjgnomhpjnaaGreatDoor

theorem take_snoc (s : ByteArray) (k : Nat) (h : k < s.size) : s.data.toList.take (k + 1) = s.data.toList.take k ++ [s[k]] := by
  rw [List.take_succ_eq_append_getElem (by simpa using h)]; rfl

/-- one and the bytes' sum -/
def sA (l : List UInt8) : Nat := l.foldl (fun a c => a + c.toNat) 1
/-- the sum of the sums -/
def sP (l : List UInt8) : Nat × Nat := l.foldl (fun p c => (p.1 + c.toNat, p.2 + (p.1 + c.toNat))) (1, 0)
def sB (l : List UInt8) : Nat := (sP l).2
/-- the sum by weights -/
def sQ (n : Nat) (l : List UInt8) : Nat × Nat := l.foldl (fun p c => (p.1 + 1, p.2 + (n - p.1) * c.toNat)) (0, n)
def sR (n : Nat) (l : List UInt8) : Nat := (sQ n l).2

theorem sA_snoc (l : List UInt8) (c : UInt8) : sA (l ++ [c]) = sA l + c.toNat := by simp [sA, List.foldl_append]
theorem sP_snoc (l : List UInt8) (c : UInt8) : sP (l ++ [c]) = ((sP l).1 + c.toNat, (sP l).2 + ((sP l).1 + c.toNat)) := by simp [sP, List.foldl_append]
theorem sQ_snoc (n : Nat) (l : List UInt8) (c : UInt8) : sQ n (l ++ [c]) = ((sQ n l).1 + 1, (sQ n l).2 + (n - (sQ n l).1) * c.toNat) := by simp [sQ, List.foldl_append]

theorem snoc_ind {P : List UInt8 → Prop} (h0 : P []) (h1 : ∀ l c, P l → P (l ++ [c])) (l : List UInt8) : P l := by
  have h : ∀ m : List UInt8, P m.reverse := by
    intro m
    induction m with
    | nil => exact h0
    | cons c m ih => rw [List.reverse_cons]; exact h1 _ _ ih
  have := h l.reverse
  rwa [List.reverse_reverse] at this

theorem sP_fst (l : List UInt8) : (sP l).1 = sA l := by
  refine snoc_ind (P := fun l => (sP l).1 = sA l) rfl ?_ l
  intro l c ih
  rw [sP_snoc, sA_snoc, ih]
theorem sQ_fst (n : Nat) (l : List UInt8) : (sQ n l).1 = l.length := by
  refine snoc_ind (P := fun l => (sQ n l).1 = l.length) rfl ?_ l
  intro l c ih
  rw [sQ_snoc, ih]; simp
theorem sB_snoc (l : List UInt8) (c : UInt8) : sB (l ++ [c]) = sB l + sA (l ++ [c]) := by
  unfold sB; rw [sP_snoc, sA_snoc, sP_fst]
theorem sR_snoc (n : Nat) (l : List UInt8) (c : UInt8) : sR n (l ++ [c]) = sR n l + (n - l.length) * c.toNat := by
  unfold sR; rw [sQ_snoc, sQ_fst]
theorem sR_succ (n : Nat) (l : List UInt8) (h : l.length ≤ n) : sR (n + 1) l = sR n l + sA l := by
  refine snoc_ind (P := fun l => l.length ≤ n → sR (n + 1) l = sR n l + sA l) (fun _ => rfl) ?_ l h
  intro l c ih h
  simp only [List.length_append, List.length_cons, List.length_nil] at h
  rw [sR_snoc, sR_snoc, sA_snoc, ih (by omega)]
  have : n + 1 - l.length = (n - l.length) + 1 := by omega
  rw [this, Nat.succ_mul]
  omega
theorem sR_full (l : List UInt8) : sR l.length l = sB l := by
  refine snoc_ind (P := fun l => sR l.length l = sB l) rfl ?_ l
  intro l c ih
  rw [sR_snoc, sB_snoc, sA_snoc]
  simp only [List.length_append, List.length_cons, List.length_nil, Nat.zero_add]
  rw [sR_succ _ _ (Nat.le_refl _), ih]
  have : l.length + 1 - l.length = 1 := by omega
  rw [this]
  omega
end Go.Proofs.YtlncjgnomhpjnaaGreatDoor

/-
  A stream as a text: mathematics for stream.Encode and reelref.Encode.
-/
namespace Go.Proofs.YtlncjgnomhpjnaaGreatDoor
set_option linter.unusedVariables false

/-- the samples of block k -/
def blkF (F : Nat → Nat → Int) (B k i j : Nat) : Int := F i (k * B + j)
def blkN (S B k : Nat) : Nat := min B (S - k * B)
def nBlk (S B : Nat) : Nat := (S + B - 1) / B
theorem nBlk_le {S B : Nat} (hB : 1 ≤ B) : nBlk S B ≤ S := by
  unfold nBlk
  have h : (S + B - 1) / B < S + 1 := by
    rw [Nat.div_lt_iff_lt_mul (by omega), Nat.add_mul, Nat.one_mul]
    have : S ≤ S * B := Nat.le_mul_of_pos_right S hB
    omega
  omega
theorem nBlk_lt {S B k : Nat} (hB : 1 ≤ B) : k < nBlk S B ↔ k * B < S := by
  unfold nBlk
  constructor
  · intro h
    have h2 : (k + 1) * B ≤ S + B - 1 := Nat.le_trans (Nat.mul_le_mul_right B h) (Nat.div_mul_le_self _ _)
    rw [Nat.add_mul, Nat.one_mul] at h2
    omega
  · intro h
    rw [← Nat.succ_le_iff, Nat.le_div_iff_mul_le (by omega), Nat.succ_mul]
    omega
theorem blkN_bd {S B k : Nat} (hB : 1 ≤ B) (h : k < nBlk S B) : 1 ≤ blkN S B k ∧ blkN S B k ≤ B ∧ k * B + blkN S B k ≤ S := by
  have := (nBlk_lt hB).1 h
  unfold blkN
  omega
/-- the frame of block k -/
def frT (d n : Nat) (F : Nat → Nat → Int) (S B k : Nat) : List UInt8 := frameT k (blkN S B k) (modeN d n (blkF F B k) (blkN S B k)) (blockT d n (blkF F B k) (blkN S B k))
/-- the first k frames -/
def frsT (d n : Nat) (F : Nat → Nat → Int) (S B : Nat) : Nat → List UInt8
  | 0 => []
  | k + 1 => frsT d n F S B k ++ frT d n F S B k
def lnF (d n : Nat) (F : Nat → Nat → Int) (S B k : Nat) : Nat := (frT d n F S B k).length
theorem lnF_bd (d n : Nat) (F : Nat → Nat → Int) (S B k : Nat) (hd : d ≤ 12) (h1 : 1 ≤ n) (h4 : n ≤ 4) (hB : 1 ≤ B) (hB2 : B ≤ 32) (hk : k < nBlk S B) : 10 ≤ lnF d n F S B k ∧ lnF d n F S B k ≤ 222 := by
  have hb := blkN_bd hB hk
  unfold lnF frT
  rw [frameT_length]
  have := packT_bd d n (blkF F B k) (blkN S B k) hb.1 (by omega) hd h1 h4
  omega
theorem frsT_bd (d n : Nat) (F : Nat → Nat → Int) (S B : Nat) (hd : d ≤ 12) (h1 : 1 ≤ n) (h4 : n ≤ 4) (hB : 1 ≤ B) (hB2 : B ≤ 32) : ∀ k, k ≤ nBlk S B → (frsT d n F S B k).length ≤ 222 * k
  | 0, _ => by simp [frsT]
  | k + 1, h => by
    have ih := frsT_bd d n F S B hd h1 h4 hB hB2 k (by omega)
    have := (lnF_bd d n F S B k hd h1 h4 hB hB2 h).2
    unfold lnF at this
    rw [frsT, List.length_append]
    omega

/-- of frames with these lengths: the shortest, the longest, where each begins, the points -/
def leastN (ln : Nat → Nat) : Nat → Nat
  | 0 => 0
  | k + 1 => if k = 0 ∨ ln k < leastN ln k then ln k else leastN ln k
def mostN (ln : Nat → Nat) : Nat → Nat
  | 0 => 0
  | k + 1 => max (mostN ln k) (ln k)
def atN (ln : Nat → Nat) : Nat → Nat
  | 0 => 0
  | k + 1 => atN ln k + ln k
def pntN (ln : Nat → Nat) (seek : Nat) : Nat → List Nat
  | 0 => []
  | k + 1 => if 0 < seek ∧ k % seek = 0 then pntN ln seek k ++ [atN ln k] else pntN ln seek k
theorem leastN_bd {ln : Nat → Nat} {m : Nat} : ∀ k, (∀ i, i < k → ln i ≤ m) → leastN ln k ≤ m
  | 0, _ => by simp [leastN]
  | k + 1, h => by
    have ih := leastN_bd k (fun i hi => h i (by omega))
    have := h k (by omega)
    unfold leastN; split <;> omega
theorem mostN_bd {ln : Nat → Nat} {m : Nat} : ∀ k, (∀ i, i < k → ln i ≤ m) → mostN ln k ≤ m
  | 0, _ => by simp [mostN]
  | k + 1, h => by
    have ih := mostN_bd k (fun i hi => h i (by omega))
    have := h k (by omega)
    unfold mostN; omega
theorem atN_bd {ln : Nat → Nat} {m : Nat} : ∀ k, (∀ i, i < k → ln i ≤ m) → atN ln k ≤ m * k
  | 0, _ => by simp [atN]
  | k + 1, h => by
    have ih := atN_bd k (fun i hi => h i (by omega))
    have := h k (by omega)
    unfold atN; rw [Nat.mul_succ]; omega
theorem pntN_len (ln : Nat → Nat) (seek : Nat) : ∀ k, (pntN ln seek k).length ≤ k
  | 0 => by simp [pntN]
  | k + 1 => by
    have ih := pntN_len ln seek k
    unfold pntN; split
    · rw [List.length_append]; simp; omega
    · omega
theorem pntN_bd {ln : Nat → Nat} {m seek : Nat} : ∀ k, (∀ i, i < k → ln i ≤ m) → ∀ p ∈ pntN ln seek k, p ≤ m * k
  | 0, _, p, hp => by simp [pntN] at hp
  | k + 1, h, p, hp => by
    have ih := pntN_bd (seek := seek) k (fun i hi => h i (by omega))
    have ha := atN_bd k (fun i hi => h i (by omega))
    rw [Nat.mul_succ]
    unfold pntN at hp
    split at hp
    · rcases List.mem_append.1 hp with h1 | h1
      · have := ih p h1; omega
      · simp at h1; omega
    · have := ih p hp; omega

/-- the bytes of points -/
def ptsT (l : List Nat) : List UInt8 := l.foldl (fun t p => t ++ inT p 2) []
theorem ptsT_snoc (l : List Nat) (p : Nat) : ptsT (l ++ [p]) = ptsT l ++ inT p 2 := by simp [ptsT, List.foldl_append]
theorem ptsT_take (l : List Nat) (k : Nat) (h : k < l.length) : ptsT (l.take (k + 1)) = ptsT (l.take k) ++ inT l[k] 2 := by
  rw [List.take_succ_eq_append_getElem h, ptsT_snoc]
theorem ptsT_length : ∀ (l : List Nat) (k : Nat), k ≤ l.length → (ptsT (l.take k)).length = 2 * k
  | l, 0, _ => by simp [ptsT]
  | l, k + 1, h => by
    rw [ptsT_take l k (by omega), List.length_append, inT_length, ptsT_length l k (by omega)]
    omega

/-- a head's fields, and the head -/
def fieldsT (whole c0 c1 c2 c3 s c4 least most sum : Nat) : List UInt8 :=
  [82, 76] ++ inT whole 1 ++ inT c0 1 ++ inT c1 1 ++ inT c2 1 ++ inT c3 2 ++ inT s 2 ++ inT c4 1 ++ inT least 2 ++ inT most 2 ++ inT sum 4
theorem fieldsT_length (whole c0 c1 c2 c3 s c4 least most sum : Nat) : (fieldsT whole c0 c1 c2 c3 s c4 least most sum).length = 19 := by simp [fieldsT, inT_length]
def headTx (whole c0 c1 c2 c3 s c4 least most sum : Nat) (pts : List Nat) : List UInt8 := seal16 (seal8 (fieldsT whole c0 c1 c2 c3 s c4 least most sum) ++ ptsT pts)
theorem headTx_length (whole c0 c1 c2 c3 s c4 least most sum : Nat) (pts : List Nat) : (headTx whole c0 c1 c2 c3 s c4 least most sum pts).length = 22 + 2 * pts.length := by
  unfold headTx
  have := ptsT_length pts pts.length (Nat.le_refl _)
  rw [List.take_length] at this
  rw [seal16_length, List.length_append, seal8_length, fieldsT_length, this]
  omega

/-- the bytes of a sound, sample by sample -/
def smpB (v : Int) (h : Bool) : UInt8 := if h then UInt8.ofNat ((v % 65536).toNat / 256) else UInt8.ofNat ((v % 65536).toNat % 256)
def intB (n : Nat) (F : Nat → Nat → Int) (j : Nat) : UInt8 := smpB (F (j / 2 % n) (j / 2 / n)) (j % 2 == 1)
def intT (n : Nat) (F : Nat → Nat → Int) (m : Nat) : List UInt8 := (List.range m).map (intB n F)
theorem intT_length (n : Nat) (F : Nat → Nat → Int) (m : Nat) : (intT n F m).length = m := by simp [intT]
theorem intT_two (n : Nat) (F : Nat → Nat → Int) (i p : Nat) (hi : i < n) : intT n F (2 * (p * n + i) + 2) = intT n F (2 * (p * n + i)) ++ [smpB (F i p) false, smpB (F i p) true] := by
  unfold intT
  rw [show 2 * (p * n + i) + 2 = 2 * (p * n + i) + 1 + 1 from rfl, List.range_succ, List.range_succ]
  simp only [List.map_append, List.map_cons, List.map_nil, List.append_assoc, List.cons_append, List.nil_append]
  have hn : 0 < n := by omega
  have e1 : 2 * (p * n + i) / 2 = p * n + i := by omega
  have e2 : (2 * (p * n + i) + 1) / 2 = p * n + i := by omega
  have e3 : (p * n + i) % n = i := by rw [Nat.add_comm, Nat.add_mul_mod_self_right, Nat.mod_eq_of_lt hi]
  have e4 : (p * n + i) / n = p := by rw [Nat.add_comm, Nat.add_mul_div_right _ _ hn, Nat.div_eq_of_lt hi, Nat.zero_add]
  have e5 : (2 * (p * n + i) % 2 == 1) = false := by simp
  have e6 : ((2 * (p * n + i) + 1) % 2 == 1) = true := by simp
  unfold intB
  rw [e1, e2, e3, e4, e5, e6]
/-- what Sum says of bytes -/
def sumN (l : List UInt8) : Nat := 65536 * (sB l % 65521) + sA l % 65521
theorem sumN_lt (l : List UInt8) : sumN l < 4294967296 := by
  unfold sumN
  have h1 : sB l % 65521 < 65521 := Nat.mod_lt _ (by decide)
  have h2 : sA l % 65521 < 65521 := Nat.mod_lt _ (by decide)
  omega
/-- the stream of a sound -/
def streamT (d n B c3 c4 : Nat) (F : Nat → Nat → Int) (S : Nat) : List UInt8 :=
  headTx 1 n d B c3 S c4 (leastN (lnF d n F S B) (nBlk S B)) (mostN (lnF d n F S B) (nBlk S B)) (sumN (intT n F (2 * (S * n)))) (pntN (lnF d n F S B) c4 (nBlk S B)) ++ frsT d n F S B (nBlk S B)
end Go.Proofs.YtlncjgnomhpjnaaGreatDoor

/-
  Rows that grow: append.
-/
namespace Go.Proofs.YtlncjgnomhpjnaaGreatDoor
open Go.RowKit Go.Deep
set_option linter.unusedVariables false

theorem grown_tr {a b c : World} {r : Option Nat} (h : a.grownBy b r) (k : b.grownBy c r) : a.grownBy c r :=
  ⟨k.os.trans h.os, k.tape.trans h.tape, k.output.trans h.output, Nat.le_trans h.size k.size, fun j hj hne => (k.block j (Nat.lt_of_lt_of_le hj h.size) hne).trans (h.block j hj hne)⟩
theorem wpList_append_rn {P : Program} {w w' : World} {ops : Array Oper} {rest : List Oper} {o : Oper} {a : Act} {Q : Exit → Act → World → Prop}
    (hg : o.guard = none) (s x : Operand) (t : TypeId) (hop : o.op = Op.call { callee := Callee.builtin Builtin.append, args := #[s, x], argTypes := #[t, t] })
    (v b v' : Value) (hs : a.eval s = v) (hx : a.eval x = b) (hrun : (Builtin.append_ #[t, t] o.type #[v, b]).run P w = .ok v' w') (h : wpList P ops Q rest (a.put o.dst v') w') : wpList P ops Q (o :: rest) a w := by
  refine wpList_plain hg fun K hK' => ?_
  unfold Oper.wp
  simp [execOp, hop, resolve, invoke, builtin, hs, hx, hrun, Result.andThen]
  exact hK' _ _ h

/-- new cells behind a row of one's own -/
theorem app_row (t e : TypeId) (z : Value) (bytes : Nat) (ht : Tryz.prog.underlying t = some (.slice e)) (hinfo : (Tryz.prog.info? e).map (fun i => (i.zero, i.size, i.bytes)) = some (some z, 1, bytes)) (hzs : z.cells.size = 1)
    (w : World) (base : Nat) (kv : Value) (j : Nat) (ks : List Value) (arr : Array Value) (hown : w.ownsRow base e 1 kv j ks) (hk1 : 1 ≤ arr.size) (h1 : ∀ u ∈ arr.toList, u.oneCell' = true) (hm : j + arr.size ≤ maxLen) (hby : (j + arr.size) * bytes ≤ 140737488355328) (hbase : base ≤ w.heap.size) (ty : TypeId) :
    ∃ g cap w', (Builtin.append_ #[t, t] ty #[kv, .slice (some ⟨w.heap.size, 0, none⟩) arr.size arr.size]).run Tryz.prog (w.alloc (.cells arr e)) = .ok (.slice (some ⟨g, 0, none⟩) (j + arr.size) cap) w' ∧
      w'.ownsRow base e 1 (.slice (some ⟨g, 0, none⟩) (j + arr.size) cap) (j + arr.size) (ks ++ arr.toList) ∧ w.grownBy w' kv.ownBlock := by
  obtain ⟨i0, hi, hz0, hz1, hz2⟩ := info_parts hinfo
  have hnews : ∀ j u, arr.toList[j]? = some u → (w.alloc (.cells arr e)).cell? ((⟨w.heap.size, 0, none⟩ : Addr).add j) = some u := by
    intro j u hj
    have : (w.alloc (.cells arr e)).cell? ⟨w.heap.size, j, none⟩ = arr[j]? := World.cell?_alloc_new _ _ _ _
    rw [show ((⟨w.heap.size, 0, none⟩ : Addr).add j) = ⟨w.heap.size, j, none⟩ by cases j <;> simp [Addr.add], this]
    simpa using hj
  obtain ⟨v', w', hr, ho, hgr, hnil⟩ := run_append_own (P := Tryz.prog) (w.alloc (.cells arr e)) base t ty e i0 z 1 bytes ht hi hz0 hz1 hz2 hzs (by omega) kv j ks (hown.alloc _)
    ⟨w.heap.size, 0, none⟩ arr.size arr.size arr.toList (by simp) hnews h1 hm hby (by simp; omega)
  rcases ho.2 with ⟨-, h0⟩ | ⟨g, cap, cur, rfl, -⟩
  · omega
  · exact ⟨g, cap, w', hr, ho, grown_tr (World.grownBy_alloc w _ _) hgr⟩
end Go.Proofs.YtlncjgnomhpjnaaGreatDoor

/-
  Sums of bytes: sums.SumOn and reelref.Sum.
-/
namespace Go.Proofs.YtlncjgnomhpjnaaGreatDoor
open Go.RowKit Go.Deep
set_option linter.unusedVariables false

theorem sumN_parts (l : List UInt8) : ((sumN l : Nat) : Int).tmod 65536 = ((sA l % 65521 : Nat) : Int) ∧ ((sumN l : Nat) : Int).tdiv 65536 = ((sB l % 65521 : Nat) : Int) ∧ ((sumN l : Nat) : Int) % 65536 = ((sA l % 65521 : Nat) : Int) ∧ ((sumN l : Nat) : Int) / 65536 = ((sB l % 65521 : Nat) : Int) := by
  have h2 : sA l % 65521 < 65521 := Nat.mod_lt _ (by decide)
  rw [Int.tmod_eq_emod_of_nonneg (by omega), Int.tdiv_eq_ediv_of_nonneg (by omega)]
  unfold sumN
  omega

set_option maxHeartbeats 400000 in
/-- the program's sum, behind other bytes -/
theorem sumOn_any (p T : List UInt8) (w : World) (hT : T.length ≤ 2097152) :
    Calls Tryz.prog 164 #[.int .i64 (sumN p : Nat), .string (bs T)] w fun e w' => e = .returned (.int .i64 (sumN (p ++ T) : Nat)) ∧ w' = w := by
  have hz : (bs T).size = T.length := bs_size T
  have HG : Hid (∀ k (h : k < (bs T).size), (bs T)[k] = T[k]'(by rw [hz] at h; exact h)) := fun k h => bs_get T k h
  generalize bs T = S at *
  obtain ⟨q1, q2, q3, q4⟩ := sumN_parts p
  have q5 := sumN_lt p
  generalize hN : sumN p = N0 at *
  clear hN
  have hA0 : sA p % 65521 < 65521 := Nat.mod_lt _ (by decide)
  have hB0 : sB p % 65521 < 65521 := Nat.mod_lt _ (by decide)
  have HA0 : Hid (sA p % 65521 = sA (p ++ T.take 0) % 65521 ∧ sB p % 65521 = sB (p ++ T.take 0) % 65521) := ⟨by simp, by simp⟩
  generalize sA p % 65521 = A0 at *
  generalize sB p % 65521 = B0 at *
  go_enter Tryz.func164, Tryz.ntmps164
  go_wp2
  clear q1 q2 q3 q4 q5 hA0 hB0
  go_loop [5, 6, 7, 14] (fun a b _ i => ∃ k : Nat, k ≤ T.length ∧ i = .int .i64 k ∧ a = .int .i64 ((sA (p ++ T.take k) % 65521 : Nat) : Int) ∧ b = .int .i64 ((sB (p ++ T.take k) % 65521 : Nat) : Int)) (fun _ _ _ i => T.length - (intOf i).toNat)
  case atStart => exact ⟨0, Nat.zero_le _, rfl, by rw [HA0.out.1], by rw [HA0.out.2]⟩
  case round =>
    obtain ⟨k, hk, rfl, rfl, rfl⟩ := hrel
    by_cases hlt : k < T.length
    · have hkS : k < S.size := by omega
      have hc : S[k].toNat < 256 := UInt8.toNat_lt _
      have HE : Hid (p ++ T.take (k + 1) = p ++ T.take k ++ [S[k]]) := by show _ = _; rw [List.take_succ_eq_append_getElem hlt, HG.out k hkS, List.append_assoc]
      have HA : Hid (sA (p ++ T.take (k + 1)) = sA (p ++ T.take k) + S[k].toNat) := by
        show _ = _; rw [HE.out, sA_snoc]
      have HB : Hid (sB (p ++ T.take (k + 1)) = sB (p ++ T.take k) + (sA (p ++ T.take k) + S[k].toNat)) := by
        show _ = _; rw [HE.out, sB_snoc, sA_snoc]
      clear HE
      generalize sA (p ++ T.take k) = A at *
      generalize sB (p ++ T.take k) = B at *
      have h1 : A % 65521 < 65521 := Nat.mod_lt _ (by decide)
      have h2 : B % 65521 < 65521 := Nat.mod_lt _ (by decide)
      go_wp2
      go_round
      case rel => exact ⟨k + 1, by omega, by go_num, by rw [HA.out]; go_num, by rw [HB.out]; go_num⟩
      case measure => simp [intOf]; omega
    · have e : k = T.length := by omega
      subst e
      rw [List.take_length]
      have HN : Hid (((sumN (p ++ T) : Nat) : Int) = 65536 * ((sB (p ++ T) % 65521 : Nat) : Int) + ((sA (p ++ T) % 65521 : Nat) : Int)) := by show _ = _; unfold sumN; omega
      have h1 : sA (p ++ T) % 65521 < 65521 := Nat.mod_lt _ (by decide)
      have h2 : sB (p ++ T) % 65521 < 65521 := Nat.mod_lt _ (by decide)
      generalize sA (p ++ T) % 65521 = A at *
      generalize sB (p ++ T) % 65521 = B at *
      go_wp2
      go_ret
      exact ⟨ret_int HN.out.symm, rfl⟩

theorem mod_step (B n v : Nat) : (B % 65521 + n % 65521 * v) % 65521 = (B + n * v) % 65521 := by
  rw [Nat.add_mod, Nat.mod_mod, Nat.mod_mul_mod, ← Nat.add_mod]
theorem refSum_step (B n v : Nat) : ((B : Int) % 65521 + (n : Int) % 65521 * (v : Int)) % 65521 = (((B + n * v) % 65521 : Nat) : Int) := by
  rw [← mod_step]; simp

set_option maxHeartbeats 400000 in
/-- the document's sum -/
theorem refSum_any (T : List UInt8) (w : World) (hs : T.length ≤ 2097152) :
    Calls Tryz.prog 98 #[.string (bs T)] w fun e w' => e = .returned (.int .i64 (sumN T : Nat)) ∧ w' = w := by
  have hz : (bs T).size = T.length := bs_size T
  have HG : Hid (∀ k (h : k < (bs T).size), (bs T)[k] = T[k]'(by rw [hz] at h; exact h)) := fun k h => bs_get T k h
  generalize bs T = S at *
  go_enter Tryz.func98, Tryz.ntmps98
  go_wp2
  go_loop [4, 5, 6] (fun a b i => ∃ k : Nat, k ≤ T.length ∧ i = .int .i64 k ∧ a = .int .i64 ((sA (T.take k) % 65521 : Nat) : Int) ∧ b = .int .i64 ((sR T.length (T.take k) % 65521 : Nat) : Int)) (fun _ _ i => T.length - (intOf i).toNat)
  case atStart => exact ⟨0, Nat.zero_le _, rfl, rfl, rfl⟩
  case round =>
    obtain ⟨k, hk, rfl, rfl, rfl⟩ := hrel
    by_cases hlt : k < T.length
    · have hkS : k < S.size := by omega
      have hc : S[k].toNat < 256 := UInt8.toNat_lt _
      have HE : Hid (T.take (k + 1) = T.take k ++ [S[k]]) := by show _ = _; rw [List.take_succ_eq_append_getElem hlt, HG.out k hkS]
      have HA : Hid (sA (T.take (k + 1)) = sA (T.take k) + S[k].toNat) := by
        show _ = _; rw [HE.out, sA_snoc]
      have HB : Hid (sR T.length (T.take (k + 1)) = sR T.length (T.take k) + (T.length - k) * S[k].toNat) := by
        show _ = _; rw [HE.out, sR_snoc]; rw [List.length_take, Nat.min_eq_left (by omega)]
      clear HE
      generalize sA (T.take k) = A at *
      generalize sR T.length (T.take k) = B at *
      have h1 : A % 65521 < 65521 := Nat.mod_lt _ (by decide)
      have h2 : B % 65521 < 65521 := Nat.mod_lt _ (by decide)
      have h4 : ((T.length : Int) - (k : Int)) % 65521 * (S[k].toNat : Int) ≤ 16777216 := by
        have := Int.emod_lt_of_pos ((T.length : Int) - (k : Int)) (b := 65521) (by decide)
        have h0 := Int.emod_nonneg ((T.length : Int) - (k : Int)) (b := 65521) (by decide)
        have : ((T.length : Int) - (k : Int)) % 65521 * (S[k].toNat : Int) ≤ 65521 * 256 := Int.mul_le_mul (by omega) (by omega) (by omega) (by omega)
        omega
      have h5 : 0 ≤ ((T.length : Int) - (k : Int)) % 65521 * (S[k].toNat : Int) := Int.mul_nonneg (Int.emod_nonneg _ (by decide)) (by omega)
      go_wp2
      go_round
      case rel =>
        refine ⟨k + 1, by omega, by go_num, by rw [HA.out]; go_num, ?_⟩
        rw [HB.out]
        have e : ((T.length : Int) - (k : Int)) = ((T.length - k : Nat) : Int) := by omega
        rw [e, refSum_step]
      case measure => simp [intOf]; omega
    · have e : k = T.length := by omega
      subst e
      rw [List.take_length, sR_full]
      have HN : Hid (((sumN T : Nat) : Int) = 65536 * ((sB T % 65521 : Nat) : Int) + ((sA T % 65521 : Nat) : Int)) := by show _ = _; unfold sumN; omega
      have h1 : sA T % 65521 < 65521 := Nat.mod_lt _ (by decide)
      have h2 : sB T % 65521 < 65521 := Nat.mod_lt _ (by decide)
      generalize sA T % 65521 = A at *
      generalize sB T % 65521 = B at *
      go_wp2
      go_ret
      exact ⟨ret_int HN.out.symm, rfl⟩
end Go.Proofs.YtlncjgnomhpjnaaGreatDoor

