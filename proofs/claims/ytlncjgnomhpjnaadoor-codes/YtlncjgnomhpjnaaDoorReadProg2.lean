/-
  readGuesser, readStill, readPlain.
-/
import Derived.Test.YtlncjgnomhpjnaaDoorReadProg
namespace Go.Proofs.YtlncjgnomhpjnaaDoor
open Go.RowKit Go.Deep
set_option linter.unusedVariables false

theorem sizeInt' : (Tryd.prog.info? 3).map (fun i => i.size) = some 1 := by kernel_rfl

theorem Chg.setRow (u : World) (g : Nat) (cs : Array Value) : Chg g u (u.setRow g cs) :=
  ⟨rfl, rfl, rfl, by simp [World.setRow], fun j _ hne => setRow_other u g j cs (fun e => hne (by rw [e]))⟩

/-- 'append(l, v)' within the room of a row -/
theorem append_row (w : World) (g k cap : Nat) (f : Nat → Value) (z : Int) (hrow : w.rowIs g 3 cap f) (hk : k < cap) :
    ∃ w2, (∀ ty, (Builtin.append_ #[22, 22] ty #[.slice (some ⟨g, 0, none⟩) k cap, .slice (some ⟨w.heap.size, 0, none⟩) 1 1]).run Tryd.prog (w.alloc (.cells #[.int .i64 z] 3)) = .ok (.slice (some ⟨g, 0, none⟩) (k + 1) cap) w2) ∧
      w2.rowIs g 3 cap (fun i => if i = k then .int .i64 z else f i) ∧ Chg g w w2 := by
  obtain ⟨i0, hi, hz0, hz1, hz2⟩ := info_parts infoInt
  obtain ⟨cur, hg, hn, hc⟩ := hrow.alloc (.cells #[.int .i64 z] 3)
  have hsz : cur.toList.length = cap := by simpa using hn
  refine ⟨_, fun ty => run_append_room (P := Tryd.prog) (w.alloc (.cells #[.int .i64 z] 3)) 22 ty 3 i0 Tryd.underlying22 hi g k cap cur hg ⟨w.heap.size, 0, none⟩ 1 1 [.int .i64 z] (by rw [hz1]; rfl)
      (fun j u hj => by
        match j, hj with
        | 0, hj => simp at hj; subst hj; simp [Addr.add]) (by intro u hu; simp at hu; subst hu; rfl) (by omega) (by rw [hz1, hn]; simp; omega),
    ⟨_, setRow_heap _ g _ _ 3 _ hg, ?_, fun i hi' => ?_⟩, ?_⟩
  · rw [hz1]; simp [hsz]; omega
  · rw [hz1, Nat.mul_one, List.getElem?_toArray]
    by_cases e : i = k
    · subst e
      simp only [if_true]
      rw [List.append_assoc, List.getElem?_append_right (by rw [List.length_take, hsz]; omega)]
      rw [List.length_take, hsz, Nat.min_eq_left (by omega)]; simp
    · simp only [if_neg e]
      rw [← hc i hi', ← Array.getElem?_toList, List.append_assoc]
      by_cases e2 : i < k
      · rw [List.getElem?_append_left (by rw [List.length_take, hsz]; omega), List.getElem?_take_of_lt e2]
      · rw [List.getElem?_append_right (by rw [List.length_take, hsz]; omega), List.length_take, hsz, Nat.min_eq_left (by omega)]
        obtain ⟨m, hm⟩ : ∃ m, i - k = m + 1 := ⟨i - k - 1, by omega⟩
        rw [hm]
        simp only [List.singleton_append, List.getElem?_cons_succ, List.getElem?_drop, List.length_singleton]
        exact congrArg (fun q => cur.toList[q]?) (by omega)
  · exact ((Chg.refl g w).below ((Below.refl _ _).alloc (Nat.le_refl _) _)).trans (Chg.setRow _ g _)

theorem Chg.other {B g : Nat} {w wr w2 : World} (h : Chg B w wr) (k : Chg g wr w2) (hg : w.heap.size ≤ g) : Chg B w w2 :=
  ⟨k.os.trans h.os, k.tape.trans h.tape, k.output.trans h.output, Nat.le_trans h.size k.size, fun j hj hne => (k.block j (Nat.lt_of_lt_of_le hj h.size) (fun e => by cases e; omega)).trans (h.block j hj hne)⟩
theorem Chg.row {B : Nat} {w w' : World} (h : Chg B w w') {c : Nat} {t : TypeId} {n : Nat} {f : Nat → Value} (hr : w.rowIs c t n f) (hc : c ≠ B) : w'.rowIs c t n f :=
  hr.of_block (h.block c hr.lt (fun e => hc (by injection e)))
theorem Chg.rd {B : Nat} {w w' : World} (h : Chg B w w') {c : Nat} {s : ByteArray} {p : Nat} (hr : Rd w c s p) (hc : c ≠ B) : Rd w' c s p :=
  hr.of (h.block c hr.lt (fun e => hc (by injection e)))
theorem Chg.tabs {B : Nat} {w w' : World} (h : Chg B w w') {g : Nat} (hT : TabAt w g) (hg : g < w.heap.size) (hc : g ≠ B) : TabAt w' g := fun r c hr hc' =>
  (World.cell?_of_block (h.block g hg (fun e => hc (by injection e)))).trans (hT r c hr hc')

/-- the first n of a row -/
def cutI (n : Nat) (x : Nat → Int) (i : Nat) : Int := if i < n then x i else 0
def cutV (n : Nat) (x : Nat → Int) (i : Nat) : Value := .int .i64 (cutI n x i)

/-- a list was read -/
def Got (e : Ending) (w w' : World) (B : Nat) (s : ByteArray) (n cap : Nat) (x : Nat → Int) (p : Nat) : Prop :=
  ∃ g, e = .returned (.tuple #[.slice (some ⟨g, 0, none⟩) n cap, .bool true]) ∧ w.heap.size ≤ g ∧ w'.rowIs g 3 cap (cutV n x) ∧ Rd w' B s p ∧ Chg B w w'
/-- none was -/
def Not (e : Ending) (w w' : World) (B : Nat) : Prop := ∃ v, e = .returned (.tuple #[v, .bool false]) ∧ Chg B w w'

theorem cutV_step {w : World} {g : Nat} {t : TypeId} {cap k : Nat} {x : Nat → Int} {z : Int} (hz : z = x k) (h : w.rowIs g t cap (fun i => if i = k then .int .i64 z else cutV k x i)) : w.rowIs g t cap (cutV (k + 1) x) := by
  refine h.congr fun i _ => ?_
  unfold cutV cutI
  by_cases e : i = k
  · subst e; simp [hz]
  · by_cases e2 : i < k
    · simp [e, e2, Nat.lt_succ_of_lt e2]
    · have : ¬ i < k + 1 := by omega
      simp [e, e2, this]

set_option maxHeartbeats 1000000 in
theorem readStill_yes (B : Nat) (s : ByteArray) (b : Nat → Bool) (p d n : Nat) (w : World) (hs : s.size ≤ 80000) (hd1 : 1 ≤ d) (hd : d ≤ 13) (hn : n ≤ 32) (hR : Rd w B s p) (hb : Bits s b) (hle : p + d ≤ s.size) :
    Calls Tryd.prog 49 #[.pointer (some ⟨B, 0, none⟩), .int .i64 d, .int .i64 n] w fun e w' => Got e w w' B s n n (fun _ => sgn b p d) (p + d) := by
  have hmk := run_make_row' (P := Tryd.prog) 22 3 (.int .i64 0) 8 Tryd.underlying22 infoInt rfl .i64 .i64 n (by omega) (by omega)
  have HS := Hid.mk' (signed_yes B s b p d w hs hd1 (by omega) hR hle hb)
  have hlt := hR.lt
  clear hb hR
  go_enter Tryd.func49, Tryd.ntmps49
  go_wp2_with (go_at_call 72; refine HS.out.mono ?_; rintro e w1 ⟨rfl, hR1, hC1⟩)
  clear hmk
  have HR1 : Hid (Rd w1 B s (p + d)) := hR1
  have HC1 : Hid (Chg B w w1) := hC1
  have hs1 := hC1.size
  have hlt1 := hR1.lt
  clear hR1 hC1 HS
  go_loopw [11, 24] (fun _ i wr => ∃ k : Nat, k ≤ n ∧ i = .int .i64 k ∧ Hid (wr.rowIs w1.heap.size 3 n (cutV k (fun _ => sgn b p d)) ∧ Below w1.heap.size w1 wr)) (fun _ i _ => n - (intOf i).toNat)
  case atStart => exact ⟨0, Nat.zero_le _, rfl, (World.rowIs_made w1 (.int .i64 0) n 3).congr fun i _ => by simp [cutV, cutI], (Below.refl _ _).alloc (Nat.le_refl _) _⟩
  case round =>
    obtain ⟨k, hk, rfl, HRW⟩ := hrel
    by_cases hlt : k < n
    · have hc1 := HRW.out.1.cell hlt
      have hf1 := HRW.out.1.frozen k
      unfold cutV at hc1
      go_wp2
      go_roundw
      case rel => exact ⟨k + 1, by omega, by go_num, cutV_step rfl (HRW.out.1.set k _), HRW.out.2.setCell (Nat.le_refl _) _⟩
      case measure => simp [intOf]; omega
    · have e : k = n := by omega
      subst e
      go_wp2
      go_ret2
      exact ⟨w1.heap.size, rfl, hs1, HRW.out.1, HR1.out.of (HRW.out.2.block _ hlt1), HC1.out.below HRW.out.2⟩

set_option maxHeartbeats 400000 in
theorem readStill_no (B : Nat) (s : ByteArray) (p d n : Nat) (w : World) (hs : s.size ≤ 80000) (hp : p ≤ s.size) (hd : d ≤ 13) (hR : Rd w B s p) (hlt : s.size < p + d) :
    Calls Tryd.prog 49 #[.pointer (some ⟨B, 0, none⟩), .int .i64 d, .int .i64 n] w fun e w' => Not e w w' B := by
  have HS := Hid.mk' (signed_no B s p d w hs hp (by omega) hR hlt)
  clear hR
  go_enter Tryd.func49, Tryd.ntmps49
  go_wp2_with (go_at_call 72; refine HS.out.mono ?_; rintro e w1 ⟨rfl, m, rfl⟩)
  go_ret2
  exact ⟨_, rfl, (Chg.refl _ _).drewN m⟩
end Go.Proofs.YtlncjgnomhpjnaaDoor
