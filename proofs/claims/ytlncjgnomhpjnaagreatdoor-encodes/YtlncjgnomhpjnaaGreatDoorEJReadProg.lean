import Derived.Test.YtlncjgnomhpjnaaGreatDoorEJReader
/-
  Small parts of subframe.Read.
-/
namespace Go.Proofs.YtlncjgnomhpjnaaGreatDoor
open Go.RowKit Go.Deep
set_option linter.unusedVariables false

theorem ret_bool {a b : Bool} (h : a = b) : Ending.returned (.bool a) = .returned (.bool b) := by rw [h]

/-- the call answers whether p is so -/
def Says (e : Ending) (p : Prop) : Prop := ∃ b : Bool, e = .returned (.bool b) ∧ (b = true ↔ p)
theorem Says.yes {p : Prop} (h : p) : Says (.returned (.bool true)) p := ⟨true, rfl, by simp [h]⟩
theorem Says.no {p : Prop} (h : ¬ p) : Says (.returned (.bool false)) p := ⟨false, rfl, by simp [h]⟩
theorem Says.true_of {e : Ending} {p : Prop} (h : Says e p) (hp : p) : e = .returned (.bool true) := by
  obtain ⟨b, rfl, hb⟩ := h
  rw [hb.2 hp]
theorem Says.false_of {e : Ending} {p : Prop} (h : Says e p) (hp : ¬ p) : e = .returned (.bool false) := by
  obtain ⟨b, rfl, hb⟩ := h
  cases b
  · rfl
  · exact absurd (hb.1 rfl) hp

theorem within_any (v lo hi : Int) (w : World) :
    Calls Tryz.prog 62 #[.int .i64 v, .int .i64 lo, .int .i64 hi] w fun e w' => e = .returned (.bool (within v lo hi)) ∧ w' = w := by
  by_cases h : lo ≤ v
  · go_enter Tryz.func62, Tryz.ntmps62
    go_wp2
    go_ret
    exact ⟨ret_bool (by simp [within, h]), rfl⟩
  · have hd : decide (lo ≤ v) = false := decide_eq_false h
    go_enter Tryz.func62, Tryz.ntmps62
    go_wp2
    go_ret
    exact ⟨ret_bool (by simp [within]; omega), rfl⟩

set_option maxHeartbeats 400000 in
theorem isSample_any (d : Nat) (v : Int) (w : World) (h1 : 1 ≤ d) (h2 : d ≤ 13) :
    Calls Tryz.prog 120 #[.int .i64 d, .int .i64 v] w fun e w' => e = .returned (.bool (fitsB d v)) ∧ w' = w := by
  have hp1 := ipow_pos (d - 1)
  have hp2 := ipow_le (d - 1) 4096 (Nat.le_trans (Nat.pow_le_pow_right (by omega) (by omega : d - 1 ≤ 12)) (by decide))
  go_enter Tryz.func120, Tryz.ntmps120
  go_wp2_with (go_at_call 62; refine (within_any _ _ _ _).mono ?_; rintro e w' ⟨rfl, rfl⟩)
  go_ret
  exact ⟨rfl, rfl⟩


theorem orderOf_any (kind : Nat) (w : World) (h : 2 ≤ kind) (h7 : kind ≤ 7) :
    Calls Tryz.prog 199 #[.int .i64 kind] w fun e w' => e = .returned (.int .i64 (ord kind)) ∧ w' = w := by
  have HO : Hid (ord kind = if kind = 7 then 2 else kind - 2) := rfl
  by_cases e : kind = 7
  · have h1 : ((kind : Int) == 7) = true := by simp; omega
    go_enter Tryz.func199, Tryz.ntmps199
    go_wp2
    go_ret
    exact ⟨ret_int (by rw [HO.out, if_pos e]; rfl), rfl⟩
  · have h1 : ((kind : Int) == 7) = false := by simp; omega
    go_enter Tryz.func199, Tryz.ntmps199
    go_wp2
    go_ret
    exact ⟨ret_int (by rw [HO.out, if_neg e]; omega), rfl⟩

/-- whether n places may be cut so -/
def cutB (n o c : Nat) : Bool := decide (n / 2 ^ c * 2 ^ c = n) && decide (o < n / 2 ^ c)
set_option maxHeartbeats 400000 in
theorem partSize_any (n o c : Nat) (w : World) (hn : n ≤ 32) (ho : o ≤ 4) (hc : c ≤ 3) :
    Calls Tryz.prog 223 #[.int .i64 n, .int .i64 o, .int .i64 c] w fun e w' => e = .returned (.tuple #[.int .i64 ((n / 2 ^ c : Nat) : Int), .bool (cutB n o c)]) ∧ w' = w := by
  have HC : Hid (∀ c, cutB n o c = (decide (n / 2 ^ c * 2 ^ c = n) && decide (o < n / 2 ^ c))) := fun _ => rfl
  have e2 : ((n / 2 ^ c : Nat) : Int) = (n : Int) / 2 ^ c := by simp
  have hd1 : 0 ≤ (n : Int) / 2 ^ c := by rw [← e2]; exact Int.natCast_nonneg _
  have hd2 : (n : Int) / 2 ^ c ≤ 32 := by rw [← e2]; have := Nat.div_le_self n (2 ^ c); omega
  have hp1 := ipow_pos c
  have hp2 := ipow_le c 8 (Nat.le_trans (Nat.pow_le_pow_right (by omega) (by omega : c ≤ 3)) (by decide))
  have hm1 : 0 ≤ (n : Int) / 2 ^ c * 2 ^ c := Int.mul_nonneg hd1 (by omega)
  have hm2 : (n : Int) / 2 ^ c * 2 ^ c ≤ 256 := by
    have : (n : Int) / 2 ^ c * 2 ^ c ≤ 32 * 8 := Int.mul_le_mul hd2 hp2 (by omega) (by omega)
    omega
  have e3 : ((n / 2 ^ c * 2 ^ c : Nat) : Int) = (n : Int) / 2 ^ c * 2 ^ c := by simp
  have HE2 : Hid (((n / 2 ^ c : Nat) : Int) = (n : Int) / 2 ^ c) := e2
  by_cases h : n / 2 ^ c * 2 ^ c = n
  · have ht : ((n : Int) / 2 ^ c * 2 ^ c == (n : Int)) = true := by rw [← e3]; simp; omega
    have HH : Hid (n / 2 ^ c * 2 ^ c = n) := h
    clear h e2 e3
    go_enter Tryz.func223, Tryz.ntmps223
    go_wp2
    go_ret2
    refine ⟨?_, rfl⟩
    rw [HC.out, HE2.out]
    have h1 : decide (n / 2 ^ c * 2 ^ c = n) = true := decide_eq_true HH.out
    have h2 : decide (o < n / 2 ^ c) = decide ((o : Int) < (n : Int) / 2 ^ c) := by rw [decide_eq_decide, ← HE2.out]; omega
    rw [h1, h2]; rfl
  · have ht : ((n : Int) / 2 ^ c * 2 ^ c == (n : Int)) = false := by rw [← e3]; simp; omega
    have HH : Hid (¬ n / 2 ^ c * 2 ^ c = n) := h
    clear h e2 e3
    go_enter Tryz.func223, Tryz.ntmps223
    go_wp2
    go_ret2
    refine ⟨?_, rfl⟩
    rw [HC.out, HE2.out]
    have h1 : decide (n / 2 ^ c * 2 ^ c = n) = false := decide_eq_false HH.out
    rw [h1]; rfl

/-- the table of weights, as it is laid -/
def TabAt (w : World) (g : Nat) : Prop := ∀ r c, r < 5 → c < 4 → w.cell? ⟨g, 4 * r + c, none⟩ = some (.int .i64 (tab r c))

/-- the guesser of a kind -/
def gV (kind : Nat) (a c : Int) : Value := .agg #[.int .i64 (ord kind), .int .i64 (wt kind a c 0), .int .i64 (wt kind a c 1), .int .i64 (wt kind a c 2), .int .i64 (wt kind a c 3), .int .i64 (scl kind : Int)]

set_option maxHeartbeats 1000000 in
theorem fixed_any (kind : Nat) (a c : Int) (w : World) (h2 : 2 ≤ kind) (h6 : kind ≤ 6) (hT : TabAt w 7) (hg : 7 < w.heap.size) :
    Calls Tryz.prog 216 #[.int .i64 kind] w fun e w' => e = .returned (gV kind a c) ∧ Below w.heap.size w w' := by
  have fin : ∀ o v, Below w.heap.size w ((w.alloc o).setCell ⟨w.heap.size, 0, none⟩ v) := fun o v => ((Below.refl _ _).alloc (Nat.le_refl _) _).setCell (Nat.le_refl _) _
  have hal : ∀ o j, (w.alloc o).cell? ⟨7, j, none⟩ = w.cell? ⟨7, j, none⟩ := fun o j => World.cell?_alloc_lt w o ⟨7, j, none⟩ hg
  obtain rfl | rfl | rfl | rfl | rfl : kind = 2 ∨ kind = 3 ∨ kind = 4 ∨ kind = 5 ∨ kind = 6 := by omega
  · have t0 : w.cell? ⟨7, 0, none⟩ = some (.int .i64 0) := hT 0 0 (by omega) (by omega)
    have t1 : w.cell? ⟨7, 1, none⟩ = some (.int .i64 0) := hT 0 1 (by omega) (by omega)
    have t2 : w.cell? ⟨7, 2, none⟩ = some (.int .i64 0) := hT 0 2 (by omega) (by omega)
    have t3 : w.cell? ⟨7, 3, none⟩ = some (.int .i64 0) := hT 0 3 (by omega) (by omega)
    clear hT
    go_enter Tryz.func216, Tryz.ntmps216
    go_wp2
    refine bodyPost_ret (v := gV 2 a c) (by simp [results, Tryz.results216, go_sem, gV, ord, wt, tab, scl]) rfl ⟨rfl, ?_⟩
    exact ((Below.refl _ _).alloc (Nat.le_refl _) _)
  · have t0 : w.cell? ⟨7, 4, none⟩ = some (.int .i64 1) := hT 1 0 (by omega) (by omega)
    have t1 : w.cell? ⟨7, 5, none⟩ = some (.int .i64 0) := hT 1 1 (by omega) (by omega)
    have t2 : w.cell? ⟨7, 6, none⟩ = some (.int .i64 0) := hT 1 2 (by omega) (by omega)
    have t3 : w.cell? ⟨7, 7, none⟩ = some (.int .i64 0) := hT 1 3 (by omega) (by omega)
    clear hT
    go_enter Tryz.func216, Tryz.ntmps216
    go_wp2
    refine bodyPost_ret (v := gV 3 a c) (by simp [results, Tryz.results216, go_sem, gV, ord, wt, tab, scl]) rfl ⟨rfl, ?_⟩
    exact ((Below.refl _ _).alloc (Nat.le_refl _) _)
  · have t0 : w.cell? ⟨7, 8, none⟩ = some (.int .i64 2) := hT 2 0 (by omega) (by omega)
    have t1 : w.cell? ⟨7, 9, none⟩ = some (.int .i64 (-1)) := hT 2 1 (by omega) (by omega)
    have t2 : w.cell? ⟨7, 10, none⟩ = some (.int .i64 0) := hT 2 2 (by omega) (by omega)
    have t3 : w.cell? ⟨7, 11, none⟩ = some (.int .i64 0) := hT 2 3 (by omega) (by omega)
    clear hT
    go_enter Tryz.func216, Tryz.ntmps216
    go_wp2
    refine bodyPost_ret (v := gV 4 a c) (by simp [results, Tryz.results216, go_sem, gV, ord, wt, tab, scl]) rfl ⟨rfl, ?_⟩
    exact ((Below.refl _ _).alloc (Nat.le_refl _) _)
  · have t0 : w.cell? ⟨7, 12, none⟩ = some (.int .i64 3) := hT 3 0 (by omega) (by omega)
    have t1 : w.cell? ⟨7, 13, none⟩ = some (.int .i64 (-3)) := hT 3 1 (by omega) (by omega)
    have t2 : w.cell? ⟨7, 14, none⟩ = some (.int .i64 1) := hT 3 2 (by omega) (by omega)
    have t3 : w.cell? ⟨7, 15, none⟩ = some (.int .i64 0) := hT 3 3 (by omega) (by omega)
    clear hT
    go_enter Tryz.func216, Tryz.ntmps216
    go_wp2
    refine bodyPost_ret (v := gV 5 a c) (by simp [results, Tryz.results216, go_sem, gV, ord, wt, tab, scl]) rfl ⟨rfl, ?_⟩
    exact ((Below.refl _ _).alloc (Nat.le_refl _) _)
  · have t0 : w.cell? ⟨7, 16, none⟩ = some (.int .i64 4) := hT 4 0 (by omega) (by omega)
    have t1 : w.cell? ⟨7, 17, none⟩ = some (.int .i64 (-6)) := hT 4 1 (by omega) (by omega)
    have t2 : w.cell? ⟨7, 18, none⟩ = some (.int .i64 4) := hT 4 2 (by omega) (by omega)
    have t3 : w.cell? ⟨7, 19, none⟩ = some (.int .i64 (-1)) := hT 4 3 (by omega) (by omega)
    clear hT
    go_enter Tryz.func216, Tryz.ntmps216
    go_wp2
    refine bodyPost_ret (v := gV 6 a c) (by simp [results, Tryz.results216, go_sem, gV, ord, wt, tab, scl]) rfl ⟨rfl, ?_⟩
    exact ((Below.refl _ _).alloc (Nat.le_refl _) _)
end Go.Proofs.YtlncjgnomhpjnaaGreatDoor

/-
  readGuesser, readStill, readPlain.
-/
namespace Go.Proofs.YtlncjgnomhpjnaaGreatDoor
open Go.RowKit Go.Deep
set_option linter.unusedVariables false

theorem sizeInt' : (Tryz.prog.info? 3).map (fun i => i.size) = some 1 := by kernel_rfl

theorem Chg.setRow (u : World) (g : Nat) (cs : Array Value) : Chg g u (u.setRow g cs) :=
  ⟨rfl, rfl, rfl, by simp [World.setRow], fun j _ hne => setRow_other u g j cs (fun e => hne (by rw [e]))⟩

/-- 'append(l, v)' within the room of a row -/
theorem append_row (w : World) (g k cap : Nat) (f : Nat → Value) (z : Int) (hrow : w.rowIs g 3 cap f) (hk : k < cap) :
    ∃ w2, (∀ ty, (Builtin.append_ #[29, 29] ty #[.slice (some ⟨g, 0, none⟩) k cap, .slice (some ⟨w.heap.size, 0, none⟩) 1 1]).run Tryz.prog (w.alloc (.cells #[.int .i64 z] 3)) = .ok (.slice (some ⟨g, 0, none⟩) (k + 1) cap) w2) ∧
      w2.rowIs g 3 cap (fun i => if i = k then .int .i64 z else f i) ∧ Chg g w w2 := by
  obtain ⟨i0, hi, hz0, hz1, hz2⟩ := info_parts infoInt
  obtain ⟨cur, hg, hn, hc⟩ := hrow.alloc (.cells #[.int .i64 z] 3)
  have hsz : cur.toList.length = cap := by simpa using hn
  refine ⟨_, fun ty => run_append_room (P := Tryz.prog) (w.alloc (.cells #[.int .i64 z] 3)) 29 ty 3 i0 Tryz.underlying29 hi g k cap cur hg ⟨w.heap.size, 0, none⟩ 1 1 [.int .i64 z] (by rw [hz1]; rfl)
      (fun j u hj => by
        match j, hj with
        | 0, hj => simp at hj; subst hj; simp [Addr.add]) (by intro u hu; simp at hu; subst hu; rfl) (by omega) (by rw [hz1, hn]; simp; omega),
    ⟨_, setRow_heap _ g _ _ 3 _ hg, ?_, fun i hi' => ?_⟩, ?_⟩
  · rw [hz1]; simp [hsz]; omega
  · rw [hz1, Nat.mul_one, List.getElem?_toArray]
    by_cases e : i = k
    · subst e
      simp only [if_true]
      rw [List.append_assoc, List.getElem?_append_right (by rw [List.length_take, hsz]; omega)]
      rw [List.length_take, hsz, Nat.min_eq_left (by omega)]; simp
    · simp only [if_neg e]
      rw [← hc i hi', ← Array.getElem?_toList, List.append_assoc]
      by_cases e2 : i < k
      · rw [List.getElem?_append_left (by rw [List.length_take, hsz]; omega), List.getElem?_take_of_lt e2]
      · rw [List.getElem?_append_right (by rw [List.length_take, hsz]; omega), List.length_take, hsz, Nat.min_eq_left (by omega)]
        obtain ⟨m, hm⟩ : ∃ m, i - k = m + 1 := ⟨i - k - 1, by omega⟩
        rw [hm]
        simp only [List.singleton_append, List.getElem?_cons_succ, List.getElem?_drop, List.length_singleton]
        exact congrArg (fun q => cur.toList[q]?) (by omega)
  · exact ((Chg.refl g w).below ((Below.refl _ _).alloc (Nat.le_refl _) _)).trans (Chg.setRow _ g _)

theorem Chg.other {B g : Nat} {w wr w2 : World} (h : Chg B w wr) (k : Chg g wr w2) (hg : w.heap.size ≤ g) : Chg B w w2 :=
  ⟨k.os.trans h.os, k.tape.trans h.tape, k.output.trans h.output, Nat.le_trans h.size k.size, fun j hj hne => (k.block j (Nat.lt_of_lt_of_le hj h.size) (fun e => by cases e; omega)).trans (h.block j hj hne)⟩
theorem Chg.row {B : Nat} {w w' : World} (h : Chg B w w') {c : Nat} {t : TypeId} {n : Nat} {f : Nat → Value} (hr : w.rowIs c t n f) (hc : c ≠ B) : w'.rowIs c t n f :=
  hr.of_block (h.block c hr.lt (fun e => hc (by injection e)))
theorem Chg.rd {B : Nat} {w w' : World} (h : Chg B w w') {c : Nat} {s : ByteArray} {p : Nat} (hr : Rd w c s p) (hc : c ≠ B) : Rd w' c s p :=
  hr.of (h.block c hr.lt (fun e => hc (by injection e)))
theorem Chg.tabs {B : Nat} {w w' : World} (h : Chg B w w') {g : Nat} (hT : TabAt w g) (hg : g < w.heap.size) (hc : g ≠ B) : TabAt w' g := fun r c hr hc' =>
  (World.cell?_of_block (h.block g hg (fun e => hc (by injection e)))).trans (hT r c hr hc')

/-- the first n of a row -/
def cutI (n : Nat) (x : Nat → Int) (i : Nat) : Int := if i < n then x i else 0
def cutV (n : Nat) (x : Nat → Int) (i : Nat) : Value := .int .i64 (cutI n x i)

/-- a list was read -/
def Got (e : Ending) (w w' : World) (B : Nat) (s : ByteArray) (n cap : Nat) (x : Nat → Int) (p : Nat) : Prop :=
  ∃ g, e = .returned (.tuple #[.slice (some ⟨g, 0, none⟩) n cap, .bool true]) ∧ w.heap.size ≤ g ∧ w'.rowIs g 3 cap (cutV n x) ∧ Rd w' B s p ∧ Chg B w w'
/-- none was -/
def Not (e : Ending) (w w' : World) (B : Nat) : Prop := ∃ v, e = .returned (.tuple #[v, .bool false]) ∧ Chg B w w'

theorem cutV_step {w : World} {g : Nat} {t : TypeId} {cap k : Nat} {x : Nat → Int} {z : Int} (hz : z = x k) (h : w.rowIs g t cap (fun i => if i = k then .int .i64 z else cutV k x i)) : w.rowIs g t cap (cutV (k + 1) x) := by
  refine h.congr fun i _ => ?_
  unfold cutV cutI
  by_cases e : i = k
  · subst e; simp [hz]
  · by_cases e2 : i < k
    · simp [e, e2, Nat.lt_succ_of_lt e2]
    · have : ¬ i < k + 1 := by omega
      simp [e, e2, this]

set_option maxHeartbeats 1000000 in
theorem readStill_yes (B : Nat) (s : ByteArray) (b : Nat → Bool) (p d n : Nat) (w : World) (hs : s.size ≤ 80000) (hd1 : 1 ≤ d) (hd : d ≤ 13) (hn : n ≤ 32) (hR : Rd w B s p) (hb : Bits s b) (hle : p + d ≤ s.size) :
    Calls Tryz.prog 173 #[.pointer (some ⟨B, 0, none⟩), .int .i64 d, .int .i64 n] w fun e w' => Got e w w' B s n n (fun _ => sgn b p d) (p + d) := by
  have hmk := run_make_row' (P := Tryz.prog) 29 3 (.int .i64 0) 8 Tryz.underlying29 infoInt rfl .i64 .i64 n (by omega) (by omega)
  have HS := Hid.mk' (signed_yes B s b p d w hs hd1 (by omega) hR hle hb)
  have hlt := hR.lt
  clear hb hR
  go_enter Tryz.func173, Tryz.ntmps173
  go_wp2_with (go_at_call 198; refine HS.out.mono ?_; rintro e w1 ⟨rfl, hR1, hC1⟩)
  clear hmk
  have HR1 : Hid (Rd w1 B s (p + d)) := hR1
  have HC1 : Hid (Chg B w w1) := hC1
  have hs1 := hC1.size
  have hlt1 := hR1.lt
  clear hR1 hC1 HS
  go_loopw [11, 24] (fun _ i wr => ∃ k : Nat, k ≤ n ∧ i = .int .i64 k ∧ Hid (wr.rowIs w1.heap.size 3 n (cutV k (fun _ => sgn b p d)) ∧ Below w1.heap.size w1 wr)) (fun _ i _ => n - (intOf i).toNat)
  case atStart => exact ⟨0, Nat.zero_le _, rfl, (World.rowIs_made w1 (.int .i64 0) n 3).congr fun i _ => by simp [cutV, cutI], (Below.refl _ _).alloc (Nat.le_refl _) _⟩
  case round =>
    obtain ⟨k, hk, rfl, HRW⟩ := hrel
    by_cases hlt : k < n
    · have hc1 := HRW.out.1.cell hlt
      have hf1 := HRW.out.1.frozen k
      unfold cutV at hc1
      go_wp2
      go_roundw
      case rel => exact ⟨k + 1, by omega, by go_num, cutV_step rfl (HRW.out.1.set k _), HRW.out.2.setCell (Nat.le_refl _) _⟩
      case measure => simp [intOf]; omega
    · have e : k = n := by omega
      subst e
      go_wp2
      go_ret2
      exact ⟨w1.heap.size, rfl, hs1, HRW.out.1, HR1.out.of (HRW.out.2.block _ hlt1), HC1.out.below HRW.out.2⟩

set_option maxHeartbeats 400000 in
theorem readStill_no (B : Nat) (s : ByteArray) (p d n : Nat) (w : World) (hs : s.size ≤ 80000) (hp : p ≤ s.size) (hd : d ≤ 13) (hR : Rd w B s p) (hlt : s.size < p + d) :
    Calls Tryz.prog 173 #[.pointer (some ⟨B, 0, none⟩), .int .i64 d, .int .i64 n] w fun e w' => Not e w w' B := by
  have HS := Hid.mk' (signed_no B s p d w hs hp (by omega) hR hlt)
  clear hR
  go_enter Tryz.func173, Tryz.ntmps173
  go_wp2_with (go_at_call 198; refine HS.out.mono ?_; rintro e w1 ⟨rfl, m, rfl⟩)
  go_ret2
  exact ⟨_, rfl, (Chg.refl _ _).drewN m⟩
end Go.Proofs.YtlncjgnomhpjnaaGreatDoor

/-
  readPlain, readGuesser.
-/
namespace Go.Proofs.YtlncjgnomhpjnaaGreatDoor
open Go.RowKit Go.Deep
set_option linter.unusedVariables false

/-- where sample k stands -/
def posn (p d k : Nat) : Nat := p + k * d
theorem posn_zero (p d : Nat) : posn p d 0 = p := by simp [posn]
theorem posn_succ (p d k : Nat) : posn p d (k + 1) = posn p d k + d := by unfold posn; rw [Nat.succ_mul]; omega
theorem posn_le (p d : Nat) {k m : Nat} (h : k ≤ m) : posn p d k ≤ posn p d m := by unfold posn; have := Nat.mul_le_mul_right d h; omega

set_option maxHeartbeats 1000000 in
theorem readPlain_any (B : Nat) (s : ByteArray) (b : Nat → Bool) (p d m n : Nat) (w : World) (hs : s.size ≤ 80000) (hp : p ≤ s.size) (hd1 : 1 ≤ d) (hd : d ≤ 13) (hm : m ≤ n) (hn : n ≤ 32) (hR : Rd w B s p) (hb : Bits s b) :
    Calls Tryz.prog 174 #[.pointer (some ⟨B, 0, none⟩), .int .i64 d, .int .i64 m, .int .i64 n] w fun e w' =>
      (posn p d m ≤ s.size ∧ Got e w w' B s m n (fun i => sgn b (posn p d i) d) (posn p d m)) ∨ (s.size < posn p d m ∧ Not e w w' B) := by
  have hmk := run_make (P := Tryz.prog) (w := w) 29 3
  obtain ⟨i0, hi, hz0, hz1, hz2⟩ := info_parts infoInt
  have hmk : ∀ u : World, (Instr.makeSlice 29 (.int .i64 0) (.int .i64 (n : Int))).run Tryz.prog u = .ok (.slice (some ⟨u.heap.size, 0, none⟩) 0 n) (u.alloc (.cells (madeCells #[.int .i64 0] n) 3)) := fun u => by
    have h := run_make (P := Tryz.prog) u 29 3 i0 (.int .i64 0) Tryz.underlying29 hi hz0 .i64 .i64 0 (n : Int) (Int.le_refl _) (by omega) (by rw [hz2]; omega) (by omega)
    simpa [hz1, Value.cells] using h
  have hlt := hR.lt
  have HB := Hid.mk' hb
  have HR := Hid.mk' hR
  clear hb hR hi hz0 hz1 hz2
  go_enter Tryz.func174, Tryz.ntmps174
  go_wp2
  clear hmk
  go_loopw [10, 11, 12, 16] (fun l _ _ i wr => ∃ k : Nat, k ≤ m ∧ i = .int .i64 k ∧ l = .slice (some ⟨w.heap.size, 0, none⟩) k n ∧ Hid (posn p d k ≤ s.size ∧ wr.rowIs w.heap.size 3 n (cutV k (fun i => sgn b (posn p d i) d)) ∧ Rd wr B s (posn p d k) ∧ Chg B w wr)) (fun _ _ _ i _ => m - (intOf i).toNat)
  case atStart =>
    exact ⟨0, Nat.zero_le _, rfl, rfl, by rw [posn_zero]; exact hp, (World.rowIs_made w (.int .i64 0) n 3).congr fun i _ => by simp [cutV, cutI], by rw [posn_zero]; exact HR.out.of (blk_alloc_lt _ _ _ hlt), (Chg.refl B w).below ((Below.refl _ _).alloc (Nat.le_refl _) _)⟩
  case round =>
    clear HR
    obtain ⟨k, hk, rfl, rfl, HK⟩ := hrel
    by_cases hkm : k < m
    · by_cases hfit : posn p d k + d ≤ s.size
      · have HS := Hid.mk' (signed_yes B s b (posn p d k) d wr hs hd1 (by omega) HK.out.2.2.1 hfit HB.out)
        go_wp2_with (go_at_call 198; refine HS.out.mono ?_; rintro e w1 ⟨rfl, hR1, hC1⟩; have HR1 := Hid.mk' hR1; have HC1 := Hid.mk' hC1; clear hR1 hC1; have HR2 := Hid.mk' (HC1.out.row HK.out.2.1 (Nat.ne_of_gt hlt)); have hca := fun o => (HR2.out.alloc o).cell (i := k) (by omega); have hfa := fun o => (HR2.out.alloc o).frozen k; unfold cutV at hca)
        go_roundw
        case rel =>
          have hch : Chg w.heap.size w1 ((w1.alloc (.cells #[.int .i64 (sgn b (posn p d k) d)] 3)).setCell ⟨w.heap.size, k, none⟩ (.int .i64 (sgn b (posn p d k) d))) := ((Chg.refl _ _).below ((Below.refl _ _).alloc (Nat.le_refl _) _)).set _ _
          refine ⟨k + 1, by omega, by go_num, rfl, ?_, cutV_step rfl ((HR2.out.alloc _).set k _), ?_, ?_⟩
          · rw [posn_succ]; exact hfit
          · rw [posn_succ]; exact hch.rd HR1.out (Nat.ne_of_lt hlt)
          · exact (HK.out.2.2.2.trans HC1.out).other hch (Nat.le_refl _)
        case measure => simp [intOf]; omega
      · have HS := Hid.mk' (signed_no B s (posn p d k) d wr hs HK.out.1 (by omega) HK.out.2.2.1 (by omega))
        have hbig : s.size < posn p d m := by
          have h1 := posn_succ p d k
          have h2 := posn_le p d (show k + 1 ≤ m by omega)
          omega
        go_wp2_with (go_at_call 198; refine HS.out.mono ?_; rintro e w1 ⟨rfl, j, rfl⟩)
        go_ret2
        exact .inr ⟨hbig, _, rfl, HK.out.2.2.2.drewN j⟩
    · have e : k = m := by omega
      subst e
      go_wp2
      go_ret2
      exact .inl ⟨HK.out.1, w.heap.size, rfl, Nat.le_refl _, HK.out.2.1, HK.out.2.2.1, HK.out.2.2.2⟩

theorem leaning_any (a c : Int) (w : World) :
    Calls Tryz.prog 215 #[.int .i64 a, .int .i64 c] w fun e w' => e = .returned (gV 7 a c) ∧ Below w.heap.size w w' := by
  go_enter Tryz.func215, Tryz.ntmps215
  go_wp2
  exact bodyPost_ret (v := gV 7 a c) (by simp [results, Tryz.results215, go_sem, gV, ord, wt, scl]) rfl ⟨rfl, ((Below.refl _ _).alloc (Nat.le_refl _) _)⟩

/-- none was read -/
def NotG (e : Ending) (w w' : World) (B : Nat) : Prop := ∃ v0 v1 v2 v3 v4 v5 : Int, e = .returned (.tuple #[.agg #[.int .i64 v0, .int .i64 v1, .int .i64 v2, .int .i64 v3, .int .i64 v4, .int .i64 v5], .bool false]) ∧ Chg B w w'
/-- the guesser of a kind was read -/
def GotG (e : Ending) (w w' : World) (B : Nat) (s : ByteArray) (v : Value) (p : Nat) : Prop := e = .returned (.tuple #[v, .bool true]) ∧ Rd w' B s p ∧ Chg B w w'

set_option maxHeartbeats 1000000 in
theorem readGuesser_fixed (B : Nat) (s : ByteArray) (p kind : Nat) (w : World) (h2 : 2 ≤ kind) (h6 : kind ≤ 6) (hR : Rd w B s p) (hT : TabAt w 7) (hg : 7 < w.heap.size) :
    Calls Tryz.prog 200 #[.pointer (some ⟨B, 0, none⟩), .int .i64 kind] w fun e w' => GotG e w w' B s (gV kind 0 0) p := by
  have hlt := hR.lt
  have hbel : ∀ o, Below w.heap.size w (w.alloc o) := fun o => (Below.refl _ _).alloc (Nat.le_refl _) _
  have hT1 : ∀ o, TabAt (w.alloc o) 7 := fun o r c hr hc => (World.cell?_alloc_lt w o ⟨7, 4 * r + c, none⟩ hg).trans (hT r c hr hc)
  have HF := Hid.mk' (fun o => fixed_any kind 0 0 (w.alloc o) h2 h6 (hT1 o) (by simp; omega))
  have HR := Hid.mk' hR
  clear hT hT1 hR
  go_enter Tryz.func200, Tryz.ntmps200
  have hk7 : ((kind : Int) != 7) = true := by simp; omega
  go_wp2_with (go_at_call 216; refine (HF.out _).mono ?_; rintro e w1 ⟨rfl, hb1⟩; simp only [gV]; have hs1 := hb1.size; have hcl := fun j => hb1.cell (p := ⟨w.heap.size, j, none⟩) (by simp); have hfr := fun j => hb1.frozen (p := ⟨w.heap.size, j, none⟩) (by simp); have HB1 := Hid.mk' hb1; clear hb1)
  have h7 : ¬ kind = 7 := by omega
  have hc0 := (Chg.refl B w).below ((Below.refl _ _).alloc (Nat.le_refl _) (.cells #[.int .i64 0, .int .i64 0, .int .i64 0, .int .i64 0, .int .i64 0, .int .i64 0] 201))
  have hch := (((((((Chg.refl w.heap.size w1).set 0 (.int .i64 (ord kind))).set 1 (.int .i64 (wt kind 0 0 0))).set 2 (.int .i64 (wt kind 0 0 1))).set 3 (.int .i64 (wt kind 0 0 2))).set 4 (.int .i64 (wt kind 0 0 3))).set 5 (.int .i64 (scl kind)))
  refine bodyPost_ret (v := .tuple #[gV kind 0 0, .bool true]) (by simp [results, Tryz.results200, go_sem, gV, hcl]) rfl ⟨rfl, ?_, ?_⟩
  · exact hch.rd (HR.out.of ((HB1.out.block _ (by simp; omega)).trans (blk_alloc_lt _ _ _ hlt))) (Nat.ne_of_lt hlt)
  · exact (hc0.below HB1.out).other hch (Nat.le_refl _)

set_option maxHeartbeats 1000000 in
theorem readGuesser_seven (B : Nat) (s : ByteArray) (b : Nat → Bool) (p : Nat) (w : World) (hs : s.size ≤ 80000) (hp : p ≤ s.size) (hR : Rd w B s p) (hb : Bits s b) :
    Calls Tryz.prog 200 #[.pointer (some ⟨B, 0, none⟩), .int .i64 7] w fun e w' =>
      (p + 12 ≤ s.size ∧ GotG e w w' B s (gV 7 (sgn b p 6) (sgn b (p + 6) 6)) (p + 12)) ∨ (s.size < p + 12 ∧ NotG e w w' B) := by
  have hlt := hR.lt
  have HR := Hid.mk' hR
  have hc0 := Hid.mk' ((Chg.refl B w).below ((Below.refl _ _).alloc (Nat.le_refl _) (.cells #[.int .i64 0, .int .i64 0, .int .i64 0, .int .i64 0, .int .i64 0, .int .i64 0] 201)))
  have HR0 := Hid.mk' (hR.of (blk_alloc_lt w (.cells #[.int .i64 0, .int .i64 0, .int .i64 0, .int .i64 0, .int .i64 0, .int .i64 0] 201) _ hlt))
  have HG0 := Hid.mk' (World.rowIs_alloc w #[.int .i64 0, .int .i64 0, .int .i64 0, .int .i64 0, .int .i64 0, .int .i64 0] 201 (fun _ => .int .i64 0) (fun i hi => by
    match i, hi with
    | 0, _ => rfl
    | 1, _ => rfl
    | 2, _ => rfl
    | 3, _ => rfl
    | 4, _ => rfl
    | 5, _ => rfl))
  simp only [List.size_toArray, List.length_cons, List.length_nil, Nat.zero_add, Nat.reduceAdd] at HG0
  by_cases h6 : p + 6 ≤ s.size
  · have HS := Hid.mk' (signed_yes B s b p 6 _ hs (by omega) (by omega) HR0.out h6 hb)
    by_cases h12 : p + 12 ≤ s.size
    · have HS2 := Hid.mk' (fun (u : World) (hu : Rd u B s (p + 6)) => signed_yes B s b (p + 6) 6 u hs (by omega) (by omega) hu (by omega) hb)
      clear hb hR
      go_enter Tryz.func200, Tryz.ntmps200
      go_wp2_with (first
        | (go_at_call 198; refine HS.out.mono ?_; rintro e w1 ⟨rfl, hR1, hC1⟩; have HR1 := Hid.mk' hR1; have HC1 := Hid.mk' hC1; clear hR1 hC1; have HG1 := Hid.mk' (HC1.out.row HG0.out (Nat.ne_of_gt hlt)); have x0 := HG1.out.cell (i := 0) (by omega); have x1 := HG1.out.cell (i := 1) (by omega); have x2 := HG1.out.cell (i := 2) (by omega); have x3 := HG1.out.cell (i := 3) (by omega); have x4 := HG1.out.cell (i := 4) (by omega); have x5 := HG1.out.cell (i := 5) (by omega); have xf0 := HG1.out.frozen 0; have xf1 := HG1.out.frozen 1; have xf2 := HG1.out.frozen 2; have xf3 := HG1.out.frozen 3; have xf4 := HG1.out.frozen 4; have xf5 := HG1.out.frozen 5)
        | (go_at_call 198; refine (HS2.out _ HR1.out).mono ?_; rintro e w2 ⟨rfl, hR2, hC2⟩; have HR2 := Hid.mk' hR2; have HC2 := Hid.mk' hC2; clear hR2 hC2; have HG2 := Hid.mk' (HC2.out.row HG1.out (Nat.ne_of_gt hlt)); clear x0 x1 x2 x3 x4 x5 xf0 xf1 xf2 xf3 xf4 xf5; have y0 := HG2.out.cell (i := 0) (by omega); have y1 := HG2.out.cell (i := 1) (by omega); have y2 := HG2.out.cell (i := 2) (by omega); have y3 := HG2.out.cell (i := 3) (by omega); have y4 := HG2.out.cell (i := 4) (by omega); have y5 := HG2.out.cell (i := 5) (by omega); have yf0 := HG2.out.frozen 0; have yf1 := HG2.out.frozen 1; have yf2 := HG2.out.frozen 2; have yf3 := HG2.out.frozen 3; have yf4 := HG2.out.frozen 4; have yf5 := HG2.out.frozen 5)
        | (go_at_call 215; refine (leaning_any _ _ _).mono ?_; rintro e w3 ⟨rfl, hb3⟩; simp only [gV]; have HB3 := Hid.mk' hb3; clear hb3; have HG3 := Hid.mk' (HG2.out.of_block (HB3.out.block _ HG2.out.lt)); clear y0 y1 y2 y3 y4 y5 yf0 yf1 yf2 yf3 yf4 yf5; have z0 := HG3.out.cell (i := 0) (by omega); have z1 := HG3.out.cell (i := 1) (by omega); have z2 := HG3.out.cell (i := 2) (by omega); have z3 := HG3.out.cell (i := 3) (by omega); have z4 := HG3.out.cell (i := 4) (by omega); have z5 := HG3.out.cell (i := 5) (by omega); have zf0 := HG3.out.frozen 0; have zf1 := HG3.out.frozen 1; have zf2 := HG3.out.frozen 2; have zf3 := HG3.out.frozen 3; have zf4 := HG3.out.frozen 4; have zf5 := HG3.out.frozen 5))
      have hch := (((((((Chg.refl w.heap.size w3).set 0 (.int .i64 (ord 7))).set 1 (.int .i64 (wt 7 (sgn b p 6) (sgn b (p + 6) 6) 0))).set 2 (.int .i64 (wt 7 (sgn b p 6) (sgn b (p + 6) 6) 1))).set 3 (.int .i64 (wt 7 (sgn b p 6) (sgn b (p + 6) 6) 2))).set 4 (.int .i64 (wt 7 (sgn b p 6) (sgn b (p + 6) 6) 3))).set 5 (.int .i64 (scl 7)))
      refine bodyPost_ret (v := .tuple #[gV 7 (sgn b p 6) (sgn b (p + 6) 6), .bool true]) (by simp [results, Tryz.results200, go_sem, gV, z0, z1, z2, z3, z4, z5]) rfl (.inl ⟨h12, rfl, ?_, ?_⟩)
      · exact hch.rd (HR2.out.of (HB3.out.block _ HR2.out.lt)) (Nat.ne_of_lt hlt)
      · exact ((hc0.out.trans (HC1.out.trans HC2.out)).below HB3.out).other hch (Nat.le_refl _)
    · have HS2 := Hid.mk' (fun (u : World) (hu : Rd u B s (p + 6)) => signed_no B s (p + 6) 6 u hs h6 (by omega) hu (by omega))
      clear hb hR
      go_enter Tryz.func200, Tryz.ntmps200
      go_wp2_with (first
        | (go_at_call 198; refine HS.out.mono ?_; rintro e w1 ⟨rfl, hR1, hC1⟩; have HR1 := Hid.mk' hR1; have HC1 := Hid.mk' hC1; clear hR1 hC1; have HG1 := Hid.mk' (HC1.out.row HG0.out (Nat.ne_of_gt hlt)); have x0 := HG1.out.cell (i := 0) (by omega); have x1 := HG1.out.cell (i := 1) (by omega); have x2 := HG1.out.cell (i := 2) (by omega); have x3 := HG1.out.cell (i := 3) (by omega); have x4 := HG1.out.cell (i := 4) (by omega); have x5 := HG1.out.cell (i := 5) (by omega); have xf0 := HG1.out.frozen 0; have xf1 := HG1.out.frozen 1; have xf2 := HG1.out.frozen 2; have xf3 := HG1.out.frozen 3; have xf4 := HG1.out.frozen 4; have xf5 := HG1.out.frozen 5)
        | (go_at_call 198; refine (HS2.out _ HR1.out).mono ?_; rintro e w2 ⟨rfl, j2, rfl⟩; have HG2 := Hid.mk' HG1.out)
        | (go_at_call 215; refine (leaning_any _ _ _).mono ?_; rintro e w3 ⟨rfl, hb3⟩; simp only [gV]; have HB3 := Hid.mk' hb3; clear hb3; have HG3 := Hid.mk' (HG2.out.of_block (HB3.out.block _ HG2.out.lt)); clear x0 x1 x2 x3 x4 x5 xf0 xf1 xf2 xf3 xf4 xf5; have z0 := HG3.out.cell (i := 0) (by omega); have z1 := HG3.out.cell (i := 1) (by omega); have z2 := HG3.out.cell (i := 2) (by omega); have z3 := HG3.out.cell (i := 3) (by omega); have z4 := HG3.out.cell (i := 4) (by omega); have z5 := HG3.out.cell (i := 5) (by omega); have zf0 := HG3.out.frozen 0; have zf1 := HG3.out.frozen 1; have zf2 := HG3.out.frozen 2; have zf3 := HG3.out.frozen 3; have zf4 := HG3.out.frozen 4; have zf5 := HG3.out.frozen 5))
      have hch := (((((((Chg.refl w.heap.size w3).set 0 (.int .i64 (ord 7))).set 1 (.int .i64 (wt 7 (sgn b p 6) 0 0))).set 2 (.int .i64 (wt 7 (sgn b p 6) 0 1))).set 3 (.int .i64 (wt 7 (sgn b p 6) 0 2))).set 4 (.int .i64 (wt 7 (sgn b p 6) 0 3))).set 5 (.int .i64 (scl 7)))
      refine bodyPost_ret (v := .tuple #[gV 7 (sgn b p 6) 0, .bool false]) (by simp [results, Tryz.results200, go_sem, gV, z0, z1, z2, z3, z4, z5]) rfl (.inr ⟨by omega, _, _, _, _, _, _, rfl, ?_⟩)
      exact (((hc0.out.trans HC1.out).drewN j2).below HB3.out).other hch (Nat.le_refl _)
  · have HS := Hid.mk' (signed_no B s p 6 _ hs hp (by omega) HR0.out (by omega))
    clear hb hR
    have q0 := HG0.out.cell (i := 0) (by omega)
    go_enter Tryz.func200, Tryz.ntmps200
    go_wp2_with (go_at_call 198; refine HS.out.mono ?_; rintro e w1 ⟨rfl, j, rfl⟩)
    refine bodyPost_ret (v := .tuple #[.agg #[.int .i64 0, .int .i64 0, .int .i64 0, .int .i64 0, .int .i64 0, .int .i64 0], .bool false]) (by simp [results, Tryz.results200, go_sem]) rfl (.inr ⟨by omega, _, _, _, _, _, _, rfl, ?_⟩)
    exact (hc0.out.drewN j).other (((((((Chg.refl w.heap.size _).set 0 _).set 1 _).set 2 _).set 3 _).set 4 _).set 5 _) (Nat.le_refl _)
end Go.Proofs.YtlncjgnomhpjnaaGreatDoor

