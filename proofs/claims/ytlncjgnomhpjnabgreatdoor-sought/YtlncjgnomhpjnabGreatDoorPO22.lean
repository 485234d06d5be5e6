import Derived.Test.YtlncjgnomhpjnabGreatDoorPO4
import Derived.Test.YtlncjgnomhpjnabGreatDoorPO17
import Derived.Test.YtlncjgnomhpjnabGreatDoorPO18
import Derived.Deep.RegionHeld3
/-
  What is read of a text from a place on is what is read of its rest.
-/
namespace Go.Proofs.YtlncjgnomhpjnabGreatDoor
set_option linter.unusedVariables false
/-- the text from place o on -/
def shB (b : Nat → Bool) (o i : Nat) : Bool := b (o + i)
def shS (o : Nat) (s : St) : St := ⟨o + s.p, s.k, s.x⟩
theorem num_sh (b : Nat → Bool) (o p k : Nat) : num (shB b o) p k = num b (o + p) k := by
  unfold num shB
  simp only [Nat.add_assoc]
theorem sgn_sh (b : Nat → Bool) (o p k : Nat) : sgn (shB b o) p k = sgn b (o + p) k := by
  unfold sgn
  rw [num_sh]
theorem zrun_sh (b : Nat → Bool) (o : Nat) : ∀ m p, zrun (shB b o) m p = zrun b m (o + p)
  | 0, _ => rfl
  | m + 1, p => by
    have e : shB b o p = b (o + p) := rfl
    unfold zrun
    rw [e, zrun_sh b o m (p + 1), Nat.add_assoc]
theorem rice_sh {b : Nat → Bool} {o N : Nat} (ho : o ≤ N) (k p : Nat) : rice b N k (o + p) = (rice (shB b o) (N - o) k p).map fun r => (r.1, o + r.2) := by
  unfold rice
  rw [zrun_sh, num_sh, show N - o - p = N - (o + p) by omega]
  by_cases h : o + p + zrun b (N - (o + p)) (o + p) + 1 + k ≤ N
  · rw [if_pos h, if_pos (by omega)]
    simp only [Option.map_some]
    congr 2
    · congr 3; omega
    · omega
  · rw [if_neg h, if_neg (by omega)]; rfl
/-- the same job over the rest -/
def Job.sh (J : Job) (o : Nat) : Job := ⟨shB J.b o, J.N - o, J.w, J.kind, J.a, J.c, J.size⟩
theorem Job.rdK_sh {J : Job} {o : Nat} (ho : o ≤ J.N) (s : St) : J.rdK (shS o s) = ((J.sh o).rdK s).map (shS o) := by
  unfold Job.rdK Job.sh shS
  simp only [num_sh]
  by_cases h : o + s.p + 4 ≤ J.N ∧ num J.b (o + s.p) 4 ≤ 14
  · rw [if_pos h, if_pos ⟨by omega, h.2⟩]
    simp only [Option.map_some]
    rw [Nat.add_assoc]
  · rw [if_neg h, if_neg (fun hh => h ⟨by omega, hh.2⟩)]; rfl
theorem Job.plc_sh {J : Job} {o : Nat} (ho : o ≤ J.N) (i : Nat) (s : St) : J.plc i (shS o s) = ((J.sh o).plc i s).map (shS o) := by
  unfold Job.plc
  have e1 : (J.sh o).kind = J.kind := rfl
  by_cases hi : i < ord J.kind
  · rw [if_pos hi, if_pos (by rw [e1]; exact hi)]; rfl
  · rw [if_neg hi, if_neg (by rw [e1]; exact hi)]
    have e2 : rice J.b J.N (shS o s).k (shS o s).p = (rice (J.sh o).b (J.sh o).N s.k s.p).map fun r => (r.1, o + r.2) := rice_sh ho s.k s.p
    rw [e2]
    cases hr : rice (J.sh o).b (J.sh o).N s.k s.p with
    | none => rfl
    | some r =>
      obtain ⟨v, p'⟩ := r
      simp only [Option.map_some]
      show (if fitsB J.w (guessG J.kind J.a J.c s.x i + v) = true then _ else _) = Option.map _ (if fitsB J.w (guessG J.kind J.a J.c s.x i + v) = true then _ else _)
      by_cases hf : fitsB J.w (guessG J.kind J.a J.c s.x i + v) = true
      · rw [if_pos hf, if_pos hf]; rfl
      · rw [if_neg hf, if_neg hf]; rfl
theorem Job.R_sh {J : Job} {o : Nat} (ho : o ≤ J.N) (s0 : St) : ∀ i, J.R (shS o s0) i = ((J.sh o).R s0 i).map (shS o)
  | 0 => rfl
  | i + 1 => by
    unfold Job.R
    rw [Job.R_sh ho s0 i]
    cases h : (J.sh o).R s0 i with
    | none => rfl
    | some s =>
      simp only [Option.map_some, Option.bind_some]
      have e : (J.sh o).size = J.size := rfl
      rw [e]
      by_cases hm : i % J.size = 0
      · rw [if_pos hm, if_pos hm, Job.rdK_sh ho]
        cases h2 : (J.sh o).rdK s with
        | none => rfl
        | some s2 => simp only [Option.map_some, Option.bind_some]; exact Job.plc_sh ho i s2
      · rw [if_neg hm, if_neg hm]
        simp only [Option.bind_some]
        exact Job.plc_sh ho i s
theorem restsSt_sh {b : Nat → Bool} {o N : Nat} (ho : o ≤ N) (d kind : Nat) (a c : Int) (n p : Nat) (x0 : Nat → Int) : restsSt b N d kind a c n (o + p) x0 = (restsSt (shB b o) (N - o) d kind a c n p x0).map (shS o) := by
  unfold restsSt
  rw [num_sh]
  by_cases h : o + p + 2 ≤ N ∧ cutB n (ord kind) (num b (o + p) 2) = true
  · rw [if_pos h, if_pos ⟨by omega, h.2⟩]
    have e1 : (theJob b N d kind a c n (o + p)).sh o = theJob (shB b o) (N - o) d kind a c n p := by
      unfold theJob Job.sh
      simp only [num_sh]
    have e2 : (⟨o + p + 2, 0, x0⟩ : St) = shS o ⟨p + 2, 0, x0⟩ := by unfold shS; simp only [Nat.add_assoc]
    rw [e2, Job.R_sh (J := theJob b N d kind a c n (o + p)) ho, e1]
  · rw [if_neg h, if_neg (fun hh => h ⟨by omega, hh.2⟩)]; rfl
theorem posn_sh (o p d i : Nat) : posn (o + p) d i = o + posn p d i := by unfold posn; omega
theorem bodySt_sh {b : Nat → Bool} {o N : Nat} (ho : o ≤ N) (kind d n p : Nat) : bodySt b N kind d n (o + p) = (bodySt (shB b o) (N - o) kind d n p).map fun r => (r.1, o + r.2) := by
  unfold bodySt
  simp only [sgn_sh, posn_sh]
  by_cases h0 : kind = 0
  · rw [if_pos h0, if_pos h0]
    by_cases h : o + p + d ≤ N
    · rw [if_pos h, if_pos (by omega)]; simp only [Option.map_some, Nat.add_assoc]
    · rw [if_neg h, if_neg (by omega)]; rfl
  · rw [if_neg h0, if_neg h0]
    by_cases h1 : kind = 1
    · rw [if_pos h1, if_pos h1]
      by_cases h : o + posn p d n ≤ N
      · rw [if_pos h, if_pos (by omega)]; rfl
      · rw [if_neg h, if_neg (by omega)]; rfl
    · rw [if_neg h1, if_neg h1]
      by_cases h2 : 7 < kind ∨ n ≤ ord kind
      · rw [if_pos h2, if_pos h2]; rfl
      · rw [if_neg h2, if_neg h2]
        by_cases h : o + posn p d (ord kind) ≤ N
        · rw [if_pos h, if_pos (show posn p d (ord kind) ≤ N - o by omega)]
          by_cases h7 : kind = 7
          · rw [if_pos h7, if_pos h7]
            by_cases hh : o + posn p d (ord kind) + 12 ≤ N
            · rw [if_pos hh, if_pos (show posn p d (ord kind) + 12 ≤ N - o by omega), Nat.add_assoc o, Nat.add_assoc o, restsSt_sh ho]
              cases restsSt (shB b o) (N - o) d kind (sgn b (o + posn p d (ord kind)) 6) (sgn b (o + (posn p d (ord kind) + 6)) 6) n (posn p d (ord kind) + 12) (fun i => sgn b (o + posn p d i) d) <;> rfl
            · rw [if_neg hh, if_neg (show ¬ posn p d (ord kind) + 12 ≤ N - o by omega)]; rfl
          · rw [if_neg h7, if_neg h7, restsSt_sh ho]
            cases restsSt (shB b o) (N - o) d kind 0 0 n (posn p d (ord kind)) (fun i => sgn b (o + posn p d i) d) <;> rfl
        · rw [if_neg h, if_neg (show ¬ posn p d (ord kind) ≤ N - o by omega)]; rfl
/-- reading at a place of a longer text -/
def readAt (b : Nat → Bool) (N o width n : Nat) : Option ((Nat → Int) × Nat) :=
  if o + 8 ≤ N ∧ num b (o + 4) 4 < width then (bodySt b N (num b o 4) (width - num b (o + 4) 4) n (o + 8)).map fun xp => (fun i => xp.1 i * 2 ^ num b (o + 4) 4, xp.2) else none
theorem readAt_sh {b : Nat → Bool} {o N : Nat} (ho : o ≤ N) (width n : Nat) : readAt b N o width n = (readSt (shB b o) (N - o) width n).map fun r => (r.1, o + r.2) := by
  unfold readAt readSt
  rw [num_sh, num_sh, Nat.add_zero, bodySt_sh ho]
  by_cases h : o + 8 ≤ N ∧ num b (o + 4) 4 < width
  · rw [if_pos h, if_pos ⟨by omega, h.2⟩]
    cases bodySt (shB b o) (N - o) (num b o 4) (width - num b (o + 4) 4) n 8 <;> rfl
  · rw [if_neg h, if_neg (fun hh => h ⟨by omega, hh.2⟩)]; rfl
end Go.Proofs.YtlncjgnomhpjnabGreatDoor

/-
  Bytes as a number: bytenum.Value and reelref.high.
-/
namespace Go.Proofs.YtlncjgnomhpjnabGreatDoor
open Go.RowKit Go.Deep
set_option linter.unusedVariables false
/-- the number that bytes are, the highest first -/
def valN (l : List UInt8) : Nat := l.foldl (fun v c => 256 * v + c.toNat) 0
theorem valN_snoc (l : List UInt8) (c : UInt8) : valN (l ++ [c]) = 256 * valN l + c.toNat := by simp [valN, List.foldl_append]
theorem valN_lt (l : List UInt8) : ∀ k, k ≤ l.length → valN (l.take k) < 256 ^ k
  | 0, _ => by simp [valN]
  | k + 1, h => by
    have ih := valN_lt l k (by omega)
    rw [List.take_succ_eq_append_getElem (by omega), valN_snoc, Nat.pow_succ]
    have : l[k].toNat < 256 := UInt8.toNat_lt _
    omega
theorem or_i64 (v c : Nat) (hv : v < 16777216) (hc : c < 256) : bits .or .i64 ((v : Int) * 256) (c : Int) = ((256 * v + c : Nat) : Int) := by
  have h0 : ((v : Int) * 256) = ((v * 256 : Nat) : Int) := by omega
  have h1 : (BitVec.ofInt 64 ((v * 256 : Nat) : Int)).toNat = v * 256 := by
    rw [BitVec.ofInt_natCast, BitVec.toNat_ofNat]; exact Nat.mod_eq_of_lt (by omega)
  have h2 : (BitVec.ofInt 64 (c : Int)).toNat = c := by
    rw [BitVec.ofInt_natCast, BitVec.toNat_ofNat]; exact Nat.mod_eq_of_lt (by omega)
  have h3 : v * 256 ||| c = 256 * v + c := by
    have := Nat.two_pow_add_eq_or_of_lt (i := 8) (b := c) hc v
    rw [show (2 : Nat) ^ 8 = 256 from rfl] at this
    rw [Nat.mul_comm v 256]; exact this.symm
  rw [h0]
  show IntKind.i64.wrap ((BitVec.ofInt 64 ((v * 256 : Nat) : Int) ||| BitVec.ofInt 64 (c : Int)).toNat : Int) = _
  rw [BitVec.toNat_or, h1, h2, h3, IntKind.wrap_i64]
  omega
theorem byte_at (T : List UInt8) (k : Nat) (h : k < T.length) : T.take (k + 1) = T.take k ++ [T[k]] := List.take_succ_eq_append_getElem h
set_option maxHeartbeats 400000 in
theorem value_any (T : List UInt8) (w : World) (hT : T.length ≤ 4) :
    Calls Tryz.prog 203 #[.string (bs T)] w fun e w' => e = .returned (.int .i64 (valN T)) ∧ w' = w := by
  have hz : (bs T).size = T.length := bs_size T
  have HG : Hid (∀ k (h : k < (bs T).size), (bs T)[k] = T[k]'(by rw [hz] at h; exact h)) := fun k h => bs_get T k h
  generalize bs T = S at *
  go_enter Tryz.func203, Tryz.ntmps203
  go_wp2
  go_loop [3, 4, 7] (fun v _ i => ∃ k : Nat, k ≤ T.length ∧ i = .int .i64 k ∧ v = .int .i64 (valN (T.take k) : Nat)) (fun _ _ i => T.length - (intOf i).toNat)
  case atStart => exact ⟨0, Nat.zero_le _, rfl, rfl⟩
  case round =>
    obtain ⟨k, hk, rfl, rfl⟩ := hrel
    by_cases hlt : k < T.length
    · have hkS : k < S.size := by omega
      have hc : S[k].toNat < 256 := UInt8.toNat_lt _
      have HE : Hid (valN (T.take (k + 1)) = 256 * valN (T.take k) + S[k].toNat) := by show _ = _; rw [byte_at T k hlt, valN_snoc, HG.out k hkS]
      have hv : valN (T.take k) < 16777216 := by
        have h1 := valN_lt T k (by omega)
        have h2 : 256 ^ k ≤ 256 ^ 3 := Nat.pow_le_pow_right (by omega) (by omega)
        omega
      have hor := or_i64 (valN (T.take k)) S[k].toNat hv hc
      generalize valN (T.take k) = V at *
      go_wp2
      go_round
      case rel => exact ⟨k + 1, by omega, by go_num, by rw [HE.out]; go_num⟩
      case measure => simp [intOf]; omega
    · have e : k = T.length := by omega
      subst e
      rw [List.take_length]
      go_wp2
      go_ret
      exact ⟨rfl, rfl⟩
end Go.Proofs.YtlncjgnomhpjnabGreatDoor

/-
  What is sealed: sums.IsSealedByEight, sums.IsSealedBySixteen.
-/
namespace Go.Proofs.YtlncjgnomhpjnabGreatDoor
open Go.RowKit Go.Deep
set_option linter.unusedVariables false
theorem bs_takeN (T : List UInt8) (k : Nat) : (bs T).extract 0 k = bs (T.take k) := by
  apply ByteArray.ext
  have hd : ((bs T).extract 0 k).data = (bs T).data.extract 0 k := by simp
  rw [hd]
  show T.toArray.extract 0 k = (T.take k).toArray
  simp
theorem bs_inj {T U : List UInt8} (h : bs T = bs U) : T = U := by
  have := congrArg (fun s => s.data.toList) h
  simpa [bs] using this
theorem str_beq (R S : ByteArray) : (R.toList == S.toList) = true ↔ R = S := by
  rw [beq_iff_eq, ByteArray.toList_eq, ByteArray.toList_eq]
  constructor
  · intro h
    cases R; cases S
    simpa using h
  · intro h; rw [h]
set_option maxHeartbeats 400000 in
theorem isSealed8_any (T : List UInt8) (w : World) (hs : T.length ≤ 1048576) :
    Calls Tryz.prog 132 #[.string (bs T)] w fun e w' => Says e (1 ≤ T.length ∧ seal8 (T.take (T.length - 1)) = T) ∧ Below w.heap.size w w' := by
  have hz : (bs T).size = T.length := bs_size T
  by_cases h1 : 1 ≤ T.length
  · have HSE := Hid.mk' (fun u => seal8_any (T.take (T.length - 1)) u (by rw [List.length_take]; omega))
    rw [← bs_takeN] at HSE
    have HQ : Hid (bs (seal8 (T.take (T.length - 1))) = bs T ↔ (1 ≤ T.length ∧ seal8 (T.take (T.length - 1)) = T)) := ⟨fun h => ⟨h1, bs_inj h⟩, fun h => congrArg bs h.2⟩
    generalize bs (seal8 (T.take (T.length - 1))) = R at *
    generalize bs T = S at *
    generalize T.length = n at *
    have w1 : IntKind.i64.wrap ((n : Int) - 1) = ((n - 1 : Nat) : Int) := by rw [IntKind.wrap_i64]; omega
    have hle : n - 1 ≤ n := by omega
    generalize n - 1 = n1 at *
    go_enter Tryz.func132, Tryz.ntmps132
    go_wp2_with (go_at_call 197; refine (HSE.out _).mono ?_; rintro e u1 ⟨rfl, hb⟩; have HB := Hid.mk' hb; clear hb HSE)
    go_ret
    exact ⟨⟨_, rfl, (str_beq R S).trans HQ.out⟩, HB.out⟩
  · have HQ : Hid (¬ (1 ≤ T.length ∧ seal8 (T.take (T.length - 1)) = T)) := fun h => h1 h.1
    generalize bs T = S at *
    generalize T.length = n at *
    have t1 : decide ((1 : Int) ≤ (n : Int)) = false := decide_eq_false (by omega)
    have hn : ¬ (1 : Int) ≤ (n : Int) := by omega
    go_enter Tryz.func132, Tryz.ntmps132
    go_wp2
    go_ret
    exact ⟨⟨false, rfl, by simp⟩, Below.refl _ _⟩
set_option maxHeartbeats 400000 in
theorem isSealed16_any (T : List UInt8) (w : World) (hs : T.length ≤ 1048576) :
    Calls Tryz.prog 135 #[.string (bs T)] w fun e w' => Says e (2 ≤ T.length ∧ seal16 (T.take (T.length - 2)) = T) ∧ Below w.heap.size w w' := by
  have hz : (bs T).size = T.length := bs_size T
  by_cases h1 : 2 ≤ T.length
  · have HSE := Hid.mk' (fun u => seal16_any (T.take (T.length - 2)) u (by rw [List.length_take]; omega))
    rw [← bs_takeN] at HSE
    have HQ : Hid (bs (seal16 (T.take (T.length - 2))) = bs T ↔ (2 ≤ T.length ∧ seal16 (T.take (T.length - 2)) = T)) := ⟨fun h => ⟨h1, bs_inj h⟩, fun h => congrArg bs h.2⟩
    generalize bs (seal16 (T.take (T.length - 2))) = R at *
    generalize bs T = S at *
    generalize T.length = n at *
    have w1 : IntKind.i64.wrap ((n : Int) - 2) = ((n - 2 : Nat) : Int) := by rw [IntKind.wrap_i64]; omega
    have hle : n - 2 ≤ n := by omega
    generalize n - 2 = n1 at *
    go_enter Tryz.func135, Tryz.ntmps135
    go_wp2_with (go_at_call 125; refine (HSE.out _).mono ?_; rintro e u1 ⟨rfl, hb⟩; have HB := Hid.mk' hb; clear hb HSE)
    go_ret
    exact ⟨⟨_, rfl, (str_beq R S).trans HQ.out⟩, HB.out⟩
  · have HQ : Hid (¬ (2 ≤ T.length ∧ seal16 (T.take (T.length - 2)) = T)) := fun h => h1 h.1
    generalize bs T = S at *
    generalize T.length = n at *
    have t1 : decide ((2 : Int) ≤ (n : Int)) = false := decide_eq_false (by omega)
    have hn : ¬ (2 : Int) ≤ (n : Int) := by omega
    go_enter Tryz.func135, Tryz.ntmps135
    go_wp2
    go_ret
    exact ⟨⟨false, rfl, by simp⟩, Below.refl _ _⟩
end Go.Proofs.YtlncjgnomhpjnabGreatDoor

/-
  The bits of bytes: mathematics for bittext.OfBytes and reelref.spelt.
-/
namespace Go.Proofs.YtlncjgnomhpjnabGreatDoor
set_option linter.unusedVariables false
/-- the bits of the first k bytes -/
def spellTo (T : List UInt8) (k : Nat) : List UInt8 := (List.range (8 * k)).map fun j => ltr (msgBit T j)
theorem spellTo_length (T : List UInt8) (k : Nat) : (spellTo T k).length = 8 * k := by simp [spellTo]
theorem bit_dec (v p : Nat) : v.testBit p = decide ((v : Int) / 2 ^ p % 2 = 1) := by
  rw [Nat.testBit_eq_decide_div_mod_eq]
  have e : ((v / 2 ^ p % 2 : Nat) : Int) = (v : Int) / 2 ^ p % 2 := by simp
  rw [← e, decide_eq_decide]
  omega
theorem spellTo_step (T : List UInt8) (k : Nat) (hk : k < T.length) : spellTo T (k + 1) = spellTo T k ++ binT (T[k].toNat : Nat) 8 := by
  unfold spellTo binT
  rw [show 8 * (k + 1) = 8 * k + 8 by omega, List.range_add, List.map_append, List.map_map]
  congr 1
  apply List.map_congr_left
  intro x hx
  have hx8 : x < 8 := List.mem_range.1 hx
  show ltr (msgBit T (8 * k + x)) = _
  rw [msgBit_byte _ _ _ hx8, List.getD_eq_getElem?_getD, List.getElem?_eq_getElem hk, Option.getD_some, bit_dec]
end Go.Proofs.YtlncjgnomhpjnabGreatDoor

/-
  What two subframes tell, turned back: frame.unpaired.
-/
namespace Go.Proofs.YtlncjgnomhpjnabGreatDoor
open Go.RowKit Go.Deep
set_option linter.unusedVariables false
/-- left and right of what a mode tells -/
def unL (m : Nat) (a b : Int) : Int := if m = 2 then a + b else if m = 3 then a + (b + 1) / 2 else a
def unR (m : Nat) (a b : Int) : Int := if m = 1 then a - b else if m = 3 then a + (b + 1) / 2 - b else b
set_option maxHeartbeats 400000 in
theorem unpaired_any (m : Nat) (a b : Int) (w : World) (hm : m < 4) (ha : -8192 ≤ a ∧ a ≤ 8192) (hb : -8192 ≤ b ∧ b ≤ 8192) :
    Calls Tryz.prog 255 #[.int .i64 m, .int .i64 a, .int .i64 b] w fun e w' => e = .returned (.tuple #[.int .i64 (unL m a b), .int .i64 (unR m a b)]) ∧ w' = w := by
  have w1 : IntKind.i64.wrap (a - b) = a - b := by rw [IntKind.wrap_i64]; omega
  have w2 : IntKind.i64.wrap (a + b) = a + b := by rw [IntKind.wrap_i64]; omega
  have w3 : IntKind.i64.wrap (2 * a) = 2 * a := by rw [IntKind.wrap_i64]; omega
  have hand := and_one b
  have w4 : IntKind.i64.wrap (2 * a + b % 2) = 2 * a + b % 2 := by rw [IntKind.wrap_i64]; omega
  have w5 : IntKind.i64.wrap (2 * a + b % 2 + b) = 2 * a + b % 2 + b := by rw [IntKind.wrap_i64]; omega
  have w6 : IntKind.i64.wrap (2 * a + b % 2 - b) = 2 * a + b % 2 - b := by rw [IntKind.wrap_i64]; omega
  have d1 : (2 * a + b % 2 + b).tdiv 2 = a + (b + 1) / 2 := by rw [Int.tdiv_eq_ediv_of_dvd (by omega)]; omega
  have d2 : (2 * a + b % 2 - b).tdiv 2 = a + (b + 1) / 2 - b := by rw [Int.tdiv_eq_ediv_of_dvd (by omega)]; omega
  match m, hm with
  | 0, _ =>
    go_enter Tryz.func255, Tryz.ntmps255
    go_wp2
    go_ret2
    exact ⟨rfl, rfl⟩
  | 1, _ =>
    go_enter Tryz.func255, Tryz.ntmps255
    go_wp2
    go_ret2
    exact ⟨rfl, rfl⟩
  | 2, _ =>
    go_enter Tryz.func255, Tryz.ntmps255
    go_wp2
    go_ret2
    exact ⟨rfl, rfl⟩
  | 3, _ =>
    go_enter Tryz.func255, Tryz.ntmps255
    go_wp2
    go_ret2
    exact ⟨rfl, rfl⟩
end Go.Proofs.YtlncjgnomhpjnabGreatDoor

/-
  A frame's head, read: frame.readHead.
-/
namespace Go.Proofs.YtlncjgnomhpjnabGreatDoor
open Go.RowKit Go.Deep
set_option linter.unusedVariables false
/-- a piece of a text -/
def pieceT (T : List UInt8) (a b : Nat) : List UInt8 := (T.drop a).take (b - a)
theorem bs_cut (T : List UInt8) (a b : Nat) : (bs T).extract a b = bs (pieceT T a b) := by
  apply ByteArray.ext
  have hd : ((bs T).extract a b).data = (bs T).data.extract a b := by simp
  rw [hd]
  show T.toArray.extract a b = (pieceT T a b).toArray
  simp [pieceT, List.extract_toArray, List.extract_eq_take_drop]
/-- a text begins with a frame's head -/
def HeadP (T : List UInt8) : Prop := 8 ≤ T.length ∧ T.getD 0 0 = 165 ∧ seal8 (T.take 7) = T.take 8
end Go.Proofs.YtlncjgnomhpjnabGreatDoor

/-
  frame.readHead.
-/
namespace Go.Proofs.YtlncjgnomhpjnabGreatDoor
open Go.RowKit Go.Deep
set_option linter.unusedVariables false
theorem pieceT_length (T : List UInt8) (a b : Nat) (h : b ≤ T.length) (hab : a ≤ b) : (pieceT T a b).length = b - a := by
  unfold pieceT
  rw [List.length_take, List.length_drop]
  omega
/-- what a head says -/
def hNum (T : List UInt8) : Nat := valN (pieceT T 1 3)
def hLen (T : List UInt8) : Nat := valN (pieceT T 3 5)
def hCnt (T : List UInt8) : Nat := valN (pieceT T 5 6)
def hMode (T : List UInt8) : Nat := valN (pieceT T 6 7)
theorem infoFHead : (Tryz.prog.info? 203).map (·.size) = some 4 := by kernel_rfl
theorem Bx.set4 {u : World} {g : Nat} {t : TypeId} {o0 o1 o2 o3 : Value} (h : Bx u g t #[o0, o1, o2, o3]) (s0 s1 s2 s3 : Value) : Bx ((((u.drew.setCell ⟨g, 0, none⟩ s0).setCell ⟨g, 1, none⟩ s1).setCell ⟨g, 2, none⟩ s2).setCell ⟨g, 3, none⟩ s3) g t #[s0, s1, s2, s3] := by
  have h' : u.drew.heap[g]? = some (.cells #[o0, o1, o2, o3] t (0, 0)) := h
  simp [Bx, World.setCell, Array.getElem?_modify, h']
theorem res_rh (tmps : Array Value) (R : Nat) (b : Bool) (cs : Array Value) (W : World) (h : Bx W R 203 cs) (hs : cs.size = 4) (h2 : tmps.getD 2 undef = .pointer (some ⟨R, 0, none⟩)) (h3 : tmps.getD 3 undef = .bool b) :
    (results Tryz.f204 tmps).run Tryz.prog W = .ok (.tuple #[.agg cs, .bool b]) W := by
  have hl := run_loadVar_row (P := Tryz.prog) W R 203 203 cs (0, 0) _ h Tryz.underlying203 rfl (by rw [hs]; exact infoFHead)
  rw [Array.getD_eq_getD_getElem?] at h2 h3
  simp [results, Tryz.results204, asAddr, h2, h3, hl]
set_option maxHeartbeats 400000 in
theorem readHead_yes (T : List UInt8) (w : World) (hs : T.length ≤ 1048576) (h : HeadP T) :
    Calls Tryz.prog 204 #[.string (bs T)] w fun e w' => e = .returned (.tuple #[.agg #[.int .i64 (hNum T), .int .i64 (hLen T), .int .i64 ((hCnt T : Int) + 1), .int .i64 (hMode T)], .bool true]) ∧ Below w.heap.size w w' := by
  have hz : (bs T).size = T.length := bs_size T
  have h8 := h.1
  have HSE := Hid.mk' (fun u => isSealed8_any (T.take 8) u (by rw [List.length_take]; omega))
  have HP : Hid (1 ≤ (T.take 8).length ∧ seal8 ((T.take 8).take ((T.take 8).length - 1)) = T.take 8) := by
    have e : (T.take 8).length = 8 := by rw [List.length_take]; omega
    refine ⟨by omega, ?_⟩
    rw [e, List.take_take]
    exact h.2.2
  rw [← bs_takeN] at HSE
  have HV1 := Hid.mk' (fun u => value_any (pieceT T 1 3) u (by rw [pieceT_length _ _ _ (by omega) (by omega)]; omega))
  have HV2 := Hid.mk' (fun u => value_any (pieceT T 3 5) u (by rw [pieceT_length _ _ _ (by omega) (by omega)]; omega))
  have HV3 := Hid.mk' (fun u => value_any (pieceT T 5 6) u (by rw [pieceT_length _ _ _ (by omega) (by omega)]; omega))
  have HV4 := Hid.mk' (fun u => value_any (pieceT T 6 7) u (by rw [pieceT_length _ _ _ (by omega) (by omega)]; omega))
  rw [← bs_cut] at HV1 HV2 HV3 HV4
  have hb0 : ∀ h0 : 0 < (bs T).size, ((bs T)[0]'h0).toNat = 165 := fun h0 => by
    have h2 := h.2.1
    rw [List.getD_eq_getElem?_getD, List.getElem?_eq_getElem (by omega), Option.getD_some] at h2
    rw [bs_get T 0 h0, h2]; rfl
  have hcb : hCnt T < 256 := by
    have h1 := valN_lt (pieceT T 5 6) 1 (by rw [pieceT_length _ _ _ (by omega) (by omega)]; omega)
    have e : (pieceT T 5 6).take 1 = pieceT T 5 6 := List.take_of_length_le (by rw [pieceT_length _ _ _ (by omega) (by omega)]; omega)
    rw [e] at h1
    exact h1
  have wc : IntKind.i64.wrap ((hCnt T : Int) + 1) = (hCnt T : Int) + 1 := by rw [IntKind.wrap_i64]; omega
  have HN1 : Hid (valN (pieceT T 1 3) = hNum T ∧ valN (pieceT T 3 5) = hLen T ∧ valN (pieceT T 5 6) = hCnt T ∧ valN (pieceT T 6 7) = hMode T) := ⟨rfl, rfl, rfl, rfl⟩
  rw [HN1.out.1] at HV1
  rw [HN1.out.2.1] at HV2
  rw [HN1.out.2.2.1] at HV3
  rw [HN1.out.2.2.2] at HV4
  clear h
  generalize bs T = S at *
  generalize T.length = n at *
  have hb1 := hb0 (by omega)
  clear hb0
  have HB0 : Hid (Below w.heap.size w (w.alloc (.cells #[.int .i64 0, .int .i64 0, .int .i64 0, .int .i64 0] 203))) := (Below.refl _ _).alloc (Nat.le_refl _) _
  have HK0 : Hid (w.heap.size < (w.alloc (.cells #[.int .i64 0, .int .i64 0, .int .i64 0, .int .i64 0] 203)).heap.size ∧ (w.alloc (.cells #[.int .i64 0, .int .i64 0, .int .i64 0, .int .i64 0] 203)).heap[w.heap.size]? = some (.cells #[.int .i64 0, .int .i64 0, .int .i64 0, .int .i64 0] 203 (0, 0))) := ⟨by simp, blk_alloc_new w _⟩
  have b3 : (3 : Int) ≤ (n : Int) := by omega
  have b5 : (5 : Int) ≤ (n : Int) := by omega
  have b6 : (6 : Int) ≤ (n : Int) := by omega
  have b7 : (7 : Int) ≤ (n : Int) := by omega
  have n3 : 3 ≤ n := by omega
  have n5 : 5 ≤ n := by omega
  have n6 : 6 ≤ n := by omega
  have n7 : 7 ≤ n := by omega
  go_enter Tryz.func204, Tryz.ntmps204
  go_wp2_with (go_at_call 132; refine (HSE.out _).mono ?_; rintro e u1 ⟨he, hb⟩; have he := he.true_of HP.out; subst he; have hk1 := keep_blk hb HK0.out; obtain ⟨q0, q1, q2, q3, z0, z1, z2, z3⟩ := four_of_blk hk1.2; have HK1 : Hid (Bx u1 w.heap.size 203 #[.int .i64 0, .int .i64 0, .int .i64 0, .int .i64 0]) := hk1.2; have HB := Hid.mk' (HB0.out.trans (hb.mono HB0.out.size)).drew; clear hb HSE hk1)
  go_region_held3 (fun w' => True)
    (trivial)
    (first
    | (go_at_call 203; refine (HV1.out _).mono ?_; rintro e u2 ⟨rfl, hw⟩; subst u2; clear HV1)
    | (go_at_call 203; refine (HV2.out _).mono ?_; rintro e u2 ⟨rfl, hw⟩; subst u2; clear HV2)
    | (go_at_call 203; refine (HV3.out _).mono ?_; rintro e u2 ⟨rfl, hw⟩; subst u2; clear HV3)
    | (go_at_call 203; refine (HV4.out _).mono ?_; rintro e u2 ⟨rfl, hw⟩; subst u2; clear HV4))
  go_wp2
  exact bodyPost_ret (res_rh _ w.heap.size true _ _ (HK1.out.set4 _ _ _ _) rfl rfl rfl) rfl ⟨rfl, (((HB.out.setCell (p := ⟨w.heap.size, 0, none⟩) (Nat.le_refl _) _).setCell (p := ⟨w.heap.size, 1, none⟩) (Nat.le_refl _) _).setCell (p := ⟨w.heap.size, 2, none⟩) (Nat.le_refl _) _).setCell (p := ⟨w.heap.size, 3, none⟩) (Nat.le_refl _) _⟩
end Go.Proofs.YtlncjgnomhpjnabGreatDoor

/-
  frame.readHead where the text begins with no head; mayBe, modes, widthOf.
-/
namespace Go.Proofs.YtlncjgnomhpjnabGreatDoor
open Go.RowKit Go.Deep
set_option linter.unusedVariables false
theorem Bx.set4b {u : World} {g : Nat} {t : TypeId} {o0 o1 o2 o3 : Value} (h : Bx u g t #[o0, o1, o2, o3]) (s0 s1 s2 s3 : Value) : Bx ((((u.setCell ⟨g, 0, none⟩ s0).setCell ⟨g, 1, none⟩ s1).setCell ⟨g, 2, none⟩ s2).setCell ⟨g, 3, none⟩ s3) g t #[s0, s1, s2, s3] := by
  simp [Bx, World.setCell, Array.getElem?_modify, show u.heap[g]? = _ from h]
def noHead : Value := .agg #[.int .i64 0, .int .i64 0, .int .i64 0, .int .i64 0]
set_option maxHeartbeats 400000 in
theorem readHead_no (T : List UInt8) (w : World) (hs : T.length ≤ 1048576) (h : ¬ HeadP T) :
    Calls Tryz.prog 204 #[.string (bs T)] w fun e w' => e = .returned (.tuple #[noHead, .bool false]) ∧ Below w.heap.size w w' := by
  have hz : (bs T).size = T.length := bs_size T
  have HB0 : Hid (Below w.heap.size w (w.alloc (.cells #[.int .i64 0, .int .i64 0, .int .i64 0, .int .i64 0] 203))) := (Below.refl _ _).alloc (Nat.le_refl _) _
  have HK0 : Hid (w.heap.size < (w.alloc (.cells #[.int .i64 0, .int .i64 0, .int .i64 0, .int .i64 0] 203)).heap.size ∧ (w.alloc (.cells #[.int .i64 0, .int .i64 0, .int .i64 0, .int .i64 0] 203)).heap[w.heap.size]? = some (.cells #[.int .i64 0, .int .i64 0, .int .i64 0, .int .i64 0] 203 (0, 0))) := ⟨by simp, blk_alloc_new w _⟩
  have HX0 : Hid (Bx (w.alloc (.cells #[.int .i64 0, .int .i64 0, .int .i64 0, .int .i64 0] 203)) w.heap.size 203 #[.int .i64 0, .int .i64 0, .int .i64 0, .int .i64 0]) := Bx.new _ _ _
  by_cases h8 : 8 ≤ T.length
  · have hget : ∀ h0 : 0 < (bs T).size, (bs T)[0]'h0 = T.getD 0 0 := fun h0 => by
      rw [bs_get T 0 h0, List.getD_eq_getElem?_getD, List.getElem?_eq_getElem (by omega)]; rfl
    by_cases h1 : T.getD 0 0 = 165
    · have h2 : ¬ seal8 (T.take 7) = T.take 8 := fun e => h ⟨h8, h1, e⟩
      have HSE := Hid.mk' (fun u => isSealed8_any (T.take 8) u (by rw [List.length_take]; omega))
      have HP : Hid (¬ (1 ≤ (T.take 8).length ∧ seal8 ((T.take 8).take ((T.take 8).length - 1)) = T.take 8)) := by
        have e : (T.take 8).length = 8 := by rw [List.length_take]; omega
        intro hh
        have := hh.2
        rw [e, List.take_take] at this
        exact h2 this
      rw [← bs_takeN] at HSE
      have hb2 : ∀ h0 : 0 < (bs T).size, ((bs T)[0]'h0).toNat = 165 := fun h0 => by rw [hget h0, h1]; rfl
      clear h h1 h2 hget
      generalize bs T = S at *
      generalize T.length = n at *
      have hb3 := hb2 (by omega)
      clear hb2
      go_enter Tryz.func204, Tryz.ntmps204
      go_wp2_with (go_at_call 132; refine (HSE.out _).mono ?_; rintro e u1 ⟨he, hb⟩; have he := he.false_of HP.out; subst he; have hk1 := keep_blk hb HK0.out; obtain ⟨q0, q1, q2, q3, z0, z1, z2, z3⟩ := four_of_blk hk1.2; have HK1 : Hid (Bx u1 w.heap.size 203 #[.int .i64 0, .int .i64 0, .int .i64 0, .int .i64 0]) := hk1.2; have HB := Hid.mk' (HB0.out.trans (hb.mono HB0.out.size)); clear hb HSE hk1)
      exact bodyPost_ret (res_rh _ w.heap.size false _ _ (HK1.out.set4b _ _ _ _) rfl rfl rfl) rfl ⟨rfl, (((HB.out.setCell (p := ⟨w.heap.size, 0, none⟩) (Nat.le_refl _) _).setCell (p := ⟨w.heap.size, 1, none⟩) (Nat.le_refl _) _).setCell (p := ⟨w.heap.size, 2, none⟩) (Nat.le_refl _) _).setCell (p := ⟨w.heap.size, 3, none⟩) (Nat.le_refl _) _⟩
    · have hb2 : ∀ h0 : 0 < (bs T).size, ¬ ((bs T)[0]'h0).toNat = 165 := fun h0 e => h1 (by rw [← hget h0]; exact UInt8.toNat_inj.1 e)
      clear h h1 hget
      generalize bs T = S at *
      generalize T.length = n at *
      have hb3 := hb2 (by omega)
      have hb4 : (((S[0]'(by omega)).toNat : Int) != 165) = true := by simp; omega
      have hb5 : ¬ ((S[0]'(by omega)).toNat : Int) = 165 := by omega
      clear hb2
      go_enter Tryz.func204, Tryz.ntmps204
      go_wp2
      exact bodyPost_ret (res_rh _ w.heap.size false _ _ HX0.out rfl rfl rfl) rfl ⟨rfl, HB0.out⟩
  · clear h
    generalize bs T = S at *
    generalize T.length = n at *
    have t1 : decide ((n : Int) < 8) = true := decide_eq_true (by omega)
    have hn : (n : Int) < 8 := by omega
    go_enter Tryz.func204, Tryz.ntmps204
    go_wp2
    exact bodyPost_ret (res_rh _ w.heap.size false _ _ HX0.out rfl rfl rfl) rfl ⟨rfl, HB0.out⟩
end Go.Proofs.YtlncjgnomhpjnabGreatDoor

/-
  Two channels in the document: reelref.pair, reelref.width, reelref.bitsOf.
-/
namespace Go.Proofs.YtlncjgnomhpjnabGreatDoor
open Go.RowKit Go.Deep
set_option linter.unusedVariables false
def l1 (l r : Nat → Int) (m : Nat) : Nat → Int := if m ≤ 1 then l else if m = 2 then sideL l r else midL l r
def l2 (l r : Nat → Int) (m : Nat) : Nat → Int := if m = 0 ∨ m = 2 then r else sideL l r
def w1 (d m : Nat) : Nat := if m = 2 then d + 1 else d
def w2 (d m : Nat) : Nat := if m = 0 ∨ m = 2 then d else d + 1
theorem pairT_eq (d : Nat) (l r : Nat → Int) (n m : Nat) (hm : m < 4) : pairT d l r n m = subT (w1 d m) (l1 l r m) n ++ subT (w2 d m) (l2 l r m) n := by
  match m, hm with
  | 0, _ => rfl
  | 1, _ => rfl
  | 2, _ => rfl
  | 3, _ => rfl
end Go.Proofs.YtlncjgnomhpjnabGreatDoor

