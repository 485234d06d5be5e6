import Derived.Test.YtlncjgnomhpjnaaGreatDoorEJReadProg
import Derived.WalkMore
/-
  readRests.
-/
namespace Go.Proofs.YtlncjgnomhpjnaaGreatDoor
open Go.RowKit Go.Deep
set_option linter.unusedVariables false

/-- at most these blocks have turned; the rest is new -/
structure ChgS (S : Nat → Prop) (w w' : World) : Prop where
  os : w'.os = w.os
  tape : w'.tape = w.tape
  output : w'.output = w.output
  size : w.heap.size ≤ w'.heap.size
  block : ∀ k, k < w.heap.size → ¬ S k → w'.heap[k]? = w.heap[k]?
theorem ChgS.refl (S : Nat → Prop) (w : World) : ChgS S w w := ⟨rfl, rfl, rfl, Nat.le_refl _, fun _ _ _ => rfl⟩
theorem ChgS.trans {S : Nat → Prop} {a b c : World} (h : ChgS S a b) (k : ChgS S b c) : ChgS S a c :=
  ⟨k.os.trans h.os, k.tape.trans h.tape, k.output.trans h.output, Nat.le_trans h.size k.size, fun j hj hne => (k.block j (Nat.lt_of_lt_of_le hj h.size) hne).trans (h.block j hj hne)⟩
theorem ChgS.chg {S : Nat → Prop} {a b c : World} {B : Nat} (h : ChgS S a b) (k : Chg B b c) (hB : S B ∨ a.heap.size ≤ B) : ChgS S a c :=
  ⟨k.os.trans h.os, k.tape.trans h.tape, k.output.trans h.output, Nat.le_trans h.size k.size, fun j hj hne => (k.block j (Nat.lt_of_lt_of_le hj h.size) (fun e => by cases e; rcases hB with h1 | h1; exact hne h1; omega)).trans (h.block j hj hne)⟩
theorem ChgS.below {S : Nat → Prop} {a b c : World} (h : ChgS S a b) (k : Below b.heap.size b c) : ChgS S a c :=
  h.trans ⟨k.os, k.tape, k.output, k.size, fun j hj _ => k.block j hj⟩
theorem ChgS.drewN {S : Nat → Prop} {a b : World} (h : ChgS S a b) (m : Nat) : ChgS S a (b.drewN m) := ⟨h.os, h.tape, h.output, h.size, h.block⟩

/-- the guesser, boxed -/
def Gd (w : World) (G kind : Nat) (a c : Int) : Prop := w.heap[G]? = some (.cells #[.int .i64 (ord kind), .int .i64 (wt kind a c 0), .int .i64 (wt kind a c 1), .int .i64 (wt kind a c 2), .int .i64 (wt kind a c 3), .int .i64 (scl kind : Int)] 201 (0, 0))
theorem Gd.of {w w' : World} {G kind : Nat} {a c : Int} (h : Gd w G kind a c) (e : w'.heap[G]? = w.heap[G]?) : Gd w' G kind a c := e.trans h
theorem Gd.lt {w : World} {G kind : Nat} {a c : Int} (h : Gd w G kind a c) : G < w.heap.size := (Array.getElem?_eq_some_iff.1 h).1
theorem Gd.cells {w : World} {G kind : Nat} {a c : Int} (h : Gd w G kind a c) :
    w.cell? ⟨G, 0, none⟩ = some (.int .i64 (ord kind)) ∧ w.cell? ⟨G, 1, none⟩ = some (.int .i64 (wt kind a c 0)) ∧ w.cell? ⟨G, 2, none⟩ = some (.int .i64 (wt kind a c 1)) ∧ w.cell? ⟨G, 3, none⟩ = some (.int .i64 (wt kind a c 2)) ∧
      w.cell? ⟨G, 4, none⟩ = some (.int .i64 (wt kind a c 3)) ∧ w.cell? ⟨G, 5, none⟩ = some (.int .i64 (scl kind : Int)) := by
  simp [World.cell?, show w.heap[G]? = _ from h]

theorem ord_le (kind : Nat) (h2 : 2 ≤ kind) (h7 : kind ≤ 7) : ord kind ≤ 4 := by unfold ord; split <;> omega
theorem wt_bd (kind : Nat) (a c : Int) (ha : -32 ≤ a ∧ a ≤ 32) (hc : -32 ≤ c ∧ c ≤ 32) (j : Nat) : -32 ≤ wt kind a c j ∧ wt kind a c j ≤ 32 := by
  unfold wt
  split
  · split
    · exact ha
    · split
      · exact hc
      · omega
  · unfold tab; split <;> omega
theorem sel4_wt (kind : Nat) (a c : Int) (j : Nat) (hj : j < 4) : sel4 (wt kind a c 0) (wt kind a c 1) (wt kind a c 2) (wt kind a c 3) j = wt kind a c j := by
  match j, hj with
  | 0, _ => rfl
  | 1, _ => rfl
  | 2, _ => rfl
  | 3, _ => rfl
theorem sumG_congr {w w' x x' : Nat → Int} {i : Nat} : ∀ m, (∀ j, j < m → w j = w' j) → (∀ j, j < m → x (i - 1 - j) = x' (i - 1 - j)) → sumG w x i m = sumG w' x' i m
  | 0, _, _ => rfl
  | m + 1, h, hx => by simp only [sumG]; rw [sumG_congr m (fun j hj => h j (by omega)) (fun j hj => hx j (by omega)), h m (by omega), hx m (by omega)]

theorem guess_of (kind : Nat) (a c : Int) (x : Nat → Int) (n : Nat) (h2 : 2 ≤ kind) (h7 : kind ≤ 7) :
    sumG (sel4 (wt kind a c 0) (wt kind a c 1) (wt kind a c 2) (wt kind a c 3)) x n (ord kind) / 2 ^ scl kind = guessG kind a c x n := by
  unfold guessG scl
  have := ord_le kind h2 h7
  rw [sumG_congr (w' := wt kind a c) (x' := x) (ord kind) (fun j hj => sel4_wt kind a c j (by omega)) (fun _ _ => rfl)]
  split <;> rfl
theorem guessG_bd {kind : Nat} {a c : Int} {x : Nat → Int} {n : Nat} (h2 : 2 ≤ kind) (h7 : kind ≤ 7) (ha : -32 ≤ a ∧ a ≤ 32) (hc : -32 ≤ c ∧ c ≤ 32) (hx : ∀ j, j < n → -4096 ≤ x j ∧ x j ≤ 4096) (hn : 0 < n ∨ ord kind = 0) : -524288 ≤ guessG kind a c x n ∧ guessG kind a c x n ≤ 524288 := by
  have ho := ord_le kind h2 h7
  have hs : -524288 ≤ sumG (wt kind a c) x n (ord kind) ∧ sumG (wt kind a c) x n (ord kind) ≤ 524288 := by
    rcases hn with hn | hn
    · have := sumG_bd (w := wt kind a c) (x := x) (i := n) (wt_bd kind a c ha hc) hx hn (ord kind)
      omega
    · rw [hn]; simp [sumG]
  unfold guessG
  split <;> omega

/-- the guess, as the program makes it -/
theorem guessV_any (kind : Nat) (a c : Int) (g n cap : Nat) (x : Nat → Int) (w : World) (h2 : 2 ≤ kind) (h7 : kind ≤ 7) (ha : -32 ≤ a ∧ a ≤ 32) (hc : -32 ≤ c ∧ c ≤ 32) (hn : n ≤ 32) (hon : ord kind ≤ n) (hX : ∀ j, j < n → -4096 ≤ x j ∧ x j ≤ 4096)
    (hrow : w.rowIs g 3 cap (cutV n x)) (hcap : n ≤ cap) :
    Calls Tryz.prog 213 #[gV kind a c, .slice (some ⟨g, 0, none⟩) n cap] w fun e w' => e = .returned (.int .i64 (guessG kind a c x n)) ∧ Below w.heap.size w w' := by
  have hb := wt_bd kind a c ha hc
  refine (guess_any (ord kind) (scl kind) _ _ _ _ (some ⟨g, 0, none⟩) n cap x w (ord_le kind h2 h7) hon (by unfold scl; split <;> omega) hn (hb 0) (hb 1) (hb 2) (hb 3) hX (fun i hi => ⟨_, rfl, ?_⟩) (fun y hy _ => by cases hy; exact hrow.lt)).mono fun e w' h => ⟨?_, h.2⟩
  · have := hrow.cell (i := i) (by omega)
    unfold cutV cutI at this
    rw [if_pos hi] at this
    rw [← this]; cases i <;> simp [Addr.add]
  · rw [h.1, guess_of kind a c x n h2 h7]
end Go.Proofs.YtlncjgnomhpjnaaGreatDoor

/-
  readRests, walked.
-/
namespace Go.Proofs.YtlncjgnomhpjnaaGreatDoor
open Go.RowKit Go.Deep
set_option linter.unusedVariables false

/-- the job of a subframe's rests -/
def theJob (b : Nat → Bool) (N d kind : Nat) (a c : Int) (n p : Nat) : Job := ⟨b, N, d, kind, a, c, n / 2 ^ num b p 2⟩
/-- what the rests are: the state behind them -/
def restsSt (b : Nat → Bool) (N d kind : Nat) (a c : Int) (n p : Nat) (x0 : Nat → Int) : Option St :=
  if p + 2 ≤ N ∧ cutB n (ord kind) (num b p 2) = true then (theJob b N d kind a c n p).R ⟨p + 2, 0, x0⟩ n else none

def RestsOut (e : Ending) (w w' : World) (B g : Nat) (s : ByteArray) (n : Nat) : Option St → Prop
  | some st => e = .returned (.tuple #[.slice (some ⟨g, 0, none⟩) n n, .bool true]) ∧ w'.rowIs g 3 n (cutV n st.x) ∧ Rd w' B s st.p ∧ ChgS (fun k => k = B ∨ k = g) w w'
  | none => ∃ v, e = .returned (.tuple #[v, .bool false]) ∧ ChgS (fun k => k = B ∨ k = g) w w'

/-- what holds while the rests are read -/
structure Inv (w wr : World) (B g G : Nat) (s : ByteArray) (d n kind : Nat) (a c : Int) (st : St) (len : Nat) : Prop where
  row : wr.rowIs g 3 n (cutV len st.x)
  rd : Rd wr B s st.p
  gd : Gd wr G kind a c
  chg : ChgS (fun k => k = B ∨ k = g) w wr
  p : st.p ≤ s.size
  fits : ∀ j, j < len → fitsB d (st.x j) = true

theorem Inv.chgB {w wr wr' : World} {B g G : Nat} {s : ByteArray} {d n kind : Nat} {a c : Int} {st : St} {len q k' : Nat} (h : Inv w wr B g G s d n kind a c st len) (hc : Chg B wr wr') (hr : Rd wr' B s q) (hq : q ≤ s.size) (hg : g ≠ B) (hG : G ≠ B) : Inv w wr' B g G s d n kind a c ⟨q, k', st.x⟩ len :=
  ⟨hc.row h.row hg, hr, h.gd.of (hc.block G h.gd.lt (fun e => hG (by injection e))), h.chg.chg hc (.inl (.inl rfl)), hq, h.fits⟩
theorem Inv.below {w wr wr' : World} {B g G : Nat} {s : ByteArray} {d n kind : Nat} {a c : Int} {st : St} {len : Nat} (h : Inv w wr B g G s d n kind a c st len) (hb : Below wr.heap.size wr wr') : Inv w wr' B g G s d n kind a c st len :=
  ⟨h.row.of_block (hb.block _ h.row.lt), h.rd.of (hb.block _ h.rd.lt), h.gd.of (hb.block _ h.gd.lt), h.chg.below hb, h.p, h.fits⟩
theorem Inv.put {w wr : World} {B g G : Nat} {s : ByteArray} {d n kind : Nat} {a c : Int} {st : St} {len : Nat} (h : Inv w wr B g G s d n kind a c st len) (z : Int) (hz : fitsB d z = true) (hg : g ≠ B) (hG : G ≠ g) :
    Inv w (wr.setCell ⟨g, len, none⟩ (.int .i64 z)) B g G s d n kind a c ⟨st.p, st.k, updI st.x len z⟩ (len + 1) := by
  have hch : Chg g wr (wr.setCell ⟨g, len, none⟩ (.int .i64 z)) := (Chg.refl _ _).set _ _
  refine ⟨cutV_step (x := updI st.x len z) (z := z) (by simp [updI]) ((h.row.set len (.int .i64 z)).congr fun i _ => ?_), hch.rd h.rd (Ne.symm hg), h.gd.of (hch.block G h.gd.lt (fun e => hG (by injection e))), h.chg.chg hch (.inl (.inr rfl)), h.p, fun j hj => ?_⟩
  · by_cases e : i = len
    · simp [e]
    · simp only [if_neg e, cutV, cutI, updI]
  · by_cases e : j = len
    · simp [updI, e, hz]
    · simp only [updI, if_neg e]; exact h.fits j (by omega)

theorem cut_facts {n o q : Nat} (h : cutB n o q = true) : n / 2 ^ q * 2 ^ q = n ∧ o < n / 2 ^ q := by
  simpa [cutB] using h

set_option maxRecDepth 100000 in
set_option maxHeartbeats 4000000 in
theorem readRests_any (B g : Nat) (s : ByteArray) (b : Nat → Bool) (p d n kind : Nat) (a c : Int) (x0 : Nat → Int) (w : World) (hs : s.size ≤ 80000) (hp : p ≤ s.size) (hd1 : 1 ≤ d) (hd : d ≤ 13) (hn : n ≤ 32) (h2 : 2 ≤ kind) (h7 : kind ≤ 7)
    (ha : -32 ≤ a ∧ a ≤ 32) (hc : -32 ≤ c ∧ c ≤ 32) (hR : Rd w B s p) (hb : Bits s b) (hrow : w.rowIs g 3 n (cutV (ord kind) x0)) (hgB : g ≠ B) (hx0 : ∀ j, j < ord kind → fitsB d (x0 j) = true) (hon : ord kind < n) :
    Calls Tryz.prog 201 #[.pointer (some ⟨B, 0, none⟩), gV kind a c, .int .i64 d, .slice (some ⟨g, 0, none⟩) (ord kind) n, .int .i64 n] w fun e w' => RestsOut e w w' B g s n (restsSt b s.size d kind a c n p x0) := by
  have ho := ord_le kind h2 h7
  have hBlt := hR.lt
  have hglt := hrow.lt
  obtain ⟨O, hO⟩ : ∃ O, O = Obj.cells #[.int .i64 (ord kind), .int .i64 (wt kind a c 0), .int .i64 (wt kind a c 1), .int .i64 (wt kind a c 2), .int .i64 (wt kind a c 3), .int .i64 (scl kind : Int)] 201 := ⟨_, rfl⟩
  have I0 : Inv w (w.alloc O) B g w.heap.size s d n kind a c ⟨p, 0, x0⟩ (ord kind) :=
    ⟨hrow.alloc _, hR.of (blk_alloc_lt _ _ _ hBlt), by rw [hO]; exact blk_alloc_new _ _, (ChgS.refl _ w).below ((Below.refl _ _).alloc (Nat.le_refl _) _), hp, hx0⟩
  rw [hO] at I0
  have HI0 := Hid.mk' I0
  have HB := Hid.mk' hb
  by_cases hp2 : p + 2 ≤ s.size
  · have HNUM := Hid.mk' (number_yes B s b p 2 _ hs (by omega) HI0.out.rd hp2 hb)
    have hq : num b p 2 ≤ 3 := by have := num_lt b p 2; omega
    by_cases hcut : cutB n (ord kind) (num b p 2) = true
    · have HST : Hid (restsSt b s.size d kind a c n p x0 = (theJob b s.size d kind a c n p).R ⟨p + 2, 0, x0⟩ n) := by
        show _ = _; unfold restsSt; rw [if_pos ⟨hp2, hcut⟩]
      have HCF := Hid.mk' (cut_facts hcut)
      have HPS := Hid.mk' (fun u => partSize_any n (ord kind) (num b p 2) u hn ho hq)
      obtain ⟨J, hJ⟩ : ∃ J, J = theJob b s.size d kind a c n p := ⟨_, rfl⟩
      obtain ⟨sz, hsz⟩ : ∃ sz, sz = n / 2 ^ num b p 2 := ⟨_, rfl⟩
      obtain ⟨q, hqq⟩ : ∃ q, q = num b p 2 := ⟨_, rfl⟩
      have HJ : Hid (J.b = b ∧ J.N = s.size ∧ J.w = d ∧ J.kind = kind ∧ J.a = a ∧ J.c = c ∧ J.size = sz) := by rw [hJ, hsz]; exact ⟨rfl, rfl, rfl, rfl, rfl, rfl, rfl⟩
      rw [← hJ] at HST
      rw [hcut, ← hsz] at HPS
      rw [← hsz, ← hqq] at HCF
      rw [← hqq] at HNUM HPS
      have hszo : ord kind < sz := HCF.out.2
      have hszn : sz ≤ n := by
        have h1 := HCF.out.1
        have h2 : sz * 1 ≤ sz * 2 ^ q := Nat.mul_le_mul_left _ (Nat.two_pow_pos _)
        omega
      clear hJ hsz hqq hcut hq hb hR hrow hx0 I0 hO
      simp only [gV]
      go_enter Tryz.func201, Tryz.ntmps201
      go_wp2_with fail
      refine wp_scope_straight ?_
      go_wp2_with (first
        | (go_at_call 154; refine HNUM.out.mono ?_; rintro e w1 ⟨rfl, hR1, hC1⟩; have HI1 := Hid.mk' (HI0.out.chgB (k' := 0) hC1 hR1 hp2 hgB (Nat.ne_of_gt hBlt)); clear hR1 hC1; obtain ⟨gc0, gc1, gc2, gc3, gc4, gc5⟩ := HI1.out.gd.cells)
        | (go_at_call 223; refine (HPS.out _).mono ?_; rintro e w' ⟨rfl, rfl⟩))
      refine wp_label ?_
      go_wp2
      go_loopw [3, 15, 16, 17, 18, 19, 20, 21] (fun l f _ _ _ _ _ _ wr => ∃ F : Nat, ∃ len : Nat, F ≤ n ∧ f = .int .i64 F ∧ l = .slice (some ⟨g, 0, none⟩) len n ∧ Hid (len = max F (ord kind) ∧ (∃ m, F = m * sz) ∧ ∃ st, J.R ⟨p + 2, 0, x0⟩ F = some st ∧ Inv w wr B g w.heap.size s d n kind a c st len)) (fun _ f _ _ _ _ _ _ _ => n - (intOf f).toNat)
      case atStart => exact ⟨0, ord kind, Nat.zero_le _, rfl, rfl, by omega, ⟨0, by simp⟩, ⟨p + 2, 0, x0⟩, rfl, HI1.out⟩
      case round =>
        clear HI1 gc0 gc1 gc2 gc3 gc4 gc5
        obtain ⟨F, len, hF, rfl, rfl, HX⟩ := hrel
        obtain ⟨hlen, ⟨m, hm⟩, st, hst, hinv⟩ := HX.out
        have HLEN := Hid.mk' hlen
        have HM := Hid.mk' hm
        have HSTF := Hid.mk' hst
        have HINV := Hid.mk' hinv
        clear hlen hm hst hinv HX
        by_cases hFn : F < n
        · have hFs : F + sz ≤ n := by
            have h1 := HCF.out.1
            have h2 := HM.out
            have h3 : m < 2 ^ q := by
              apply Nat.lt_of_mul_lt_mul_right (a := sz)
              rw [Nat.mul_comm (2 ^ q) sz]; omega
            have h4 : (m + 1) * sz ≤ 2 ^ q * sz := Nat.mul_le_mul_right _ h3
            rw [Nat.succ_mul, Nat.mul_comm (2 ^ q) sz] at h4
            omega
          have hlenn : len < n := by have := HLEN.out; omega
          have hlen1 : F ≤ len := by have := HLEN.out; omega
          have hlen2 : len < F + sz := by have := HLEN.out; omega
          have hlen3 : ord kind ≤ len := by have := HLEN.out; omega
          obtain ⟨gc0, gc1, gc2, gc3, gc4, gc5⟩ := HINV.out.gd.cells
          have hne : ((len : Int) == (n : Int)) = false := by simp; omega
          by_cases hk4 : st.p + 4 ≤ s.size
          · have HK := Hid.mk' (number_yes B s b st.p 4 wr hs (by omega) HINV.out.rd hk4 HB.out)
            by_cases hk14 : num b st.p 4 ≤ 14
            · have hmod : F % J.size = 0 := by rw [HJ.out.2.2.2.2.2.2, HM.out]; exact Nat.mul_mod_left _ _
              have HMOD := Hid.mk' hmod
              have HU0 : Hid (J.U ⟨p + 2, 0, x0⟩ F (len - F) = some ⟨st.p + 4, num b st.p 4, st.x⟩) := by
                have h0 : J.U ⟨p + 2, 0, x0⟩ F 0 = some ⟨st.p + 4, num b st.p 4, st.x⟩ := by
                  simp only [Job.U, HSTF.out, Option.bind_some, Job.rdK]
                  rw [if_pos ⟨by rw [HJ.out.2.1]; exact hk4, by rw [HJ.out.1]; exact hk14⟩, HJ.out.1]
                show _ = _
                by_cases e : F = 0
                · have hl := HLEN.out
                  subst e
                  rw [J.U_skip _ _ (by rw [HJ.out.2.2.2.1]; omega)]; exact h0
                · have h1 := HM.out
                  have h2 : sz ≤ F := by
                    have : 1 ≤ m := by
                      rcases Nat.eq_zero_or_pos m with h | h
                      · subst h; simp at h1; omega
                      · exact h
                    have h3 := Nat.mul_le_mul_right sz this
                    omega
                  have h3 : len - F = 0 := by have := HLEN.out; omega
                  rw [h3]; exact h0
              have hkb : num b st.p 4 < 16 := num_lt b st.p 4
              clear hmod
              go_wp2_with (go_at_call 154; refine HK.out.mono ?_; rintro e w2 ⟨rfl, hR2, hC2⟩; have HI2 := Hid.mk' (HINV.out.chgB (k' := num b st.p 4) hC2 hR2 hk4 hgB (Nat.ne_of_gt hBlt)); clear hR2 hC2 gc0 gc1 gc2 gc3 gc4 gc5; obtain ⟨gc0, gc1, gc2, gc3, gc4, gc5⟩ := HI2.out.gd.cells)
              clear hne gc0 gc1 gc2 gc3 gc4 gc5 HK
              have HMAX : Hid ((max (F : Int) (ord kind : Int)) = (len : Int)) := by show _ = _; have := HLEN.out; omega
              go_loopw [3, 18, 19, 20, 21] (fun l pl _ _ _ wr => ∃ j : Nat, len ≤ j ∧ j ≤ F + sz ∧ pl = .int .i64 j ∧ l = .slice (some ⟨g, 0, none⟩) j n ∧ Hid (∃ st', J.U ⟨p + 2, 0, x0⟩ F (j - F) = some st' ∧ st'.k = num b st.p 4 ∧ Inv w wr B g w.heap.size s d n kind a c st' j)) (fun _ pl _ _ _ _ => F + sz - (intOf pl).toNat)
              case atStart => exact ⟨len, Nat.le_refl _, by omega, by rw [HMAX.out], rfl, _, HU0.out, rfl, HI2.out⟩
              case round =>
                clear HI2 HU0
                obtain ⟨j, hj1, hj2, rfl, rfl, HY⟩ := hrel
                obtain ⟨st2, hU2, hkk, hinv2⟩ := HY.out
                have HU2 := Hid.mk' hU2
                have HKK := Hid.mk' hkk
                have HV2 := Hid.mk' hinv2
                clear hU2 hkk hinv2 HY
                by_cases hjs : j < F + sz
                · obtain ⟨gc0, gc1, gc2, gc3, gc4, gc5⟩ := HV2.out.gd.cells
                  have hne : ((j : Int) == (n : Int)) = false := by simp; omega
                  have HXB : Hid (∀ i, i < j → -4096 ≤ st2.x i ∧ st2.x i ≤ 4096) := fun i hi => fits_bd (HV2.out.fits i hi) hd
                  have hgb := guessG_bd (n := j) h2 h7 ha hc HXB.out (by omega)
                  have HFAIL : Hid (J.plc j st2 = none → J.R ⟨p + 2, 0, x0⟩ n = none) := by
                    intro h
                    refine J.R_none _ (i := j + 1) ?_ (by omega)
                    have e1 : j + 1 = F + (j - F + 1) := by omega
                    rw [e1, ← J.U_eq _ F HMOD.out (j - F + 1) (by omega) (by rw [HJ.out.2.2.2.2.2.2]; omega)]
                    show (J.U ⟨p + 2, 0, x0⟩ F (j - F)).bind _ = none
                    rw [HU2.out, Option.bind_some, show F + (j - F) = j by omega]; exact h
                  have hoj : ¬ j < ord J.kind := by rw [HJ.out.2.2.2.1]; omega
                  have HOJ := Hid.mk' hoj
                  clear hoj
                  cases hrc : rice b s.size (num b st.p 4) st2.p with
                  | none =>
                    have HNONE := Hid.mk' (HFAIL.out (Job.plc_none HOJ.out (by rw [HJ.out.1, HJ.out.2.1, HKK.out]; exact hrc)))
                    have HRC := Hid.mk' (rice_no B s b st2.p (num b st.p 4) wr hs HV2.out.p (by omega) HV2.out.rd HB.out hrc)
                    clear hrc
                    go_wp2_with (first
                      | (go_at_call 224; refine HRC.out.mono ?_; rintro e w3 ⟨rfl, ⟨q3, hq3, hR3⟩, hC3⟩; have HV3 := Hid.mk' (HV2.out.chgB (k' := 0) hC3 hR3 hq3 hgB (Nat.ne_of_gt hBlt)); clear hR3 hC3 gc0 gc1 gc2 gc3 gc4 gc5; obtain ⟨gc0, gc1, gc2, gc3, gc4, gc5⟩ := HV3.out.gd.cells)
                      | (go_at_call 213; refine (guessV_any kind a c g j n st2.x _ h2 h7 ha hc (by omega) (by omega) HXB.out HV3.out.row (by omega)).mono ?_; rintro e w4 ⟨rfl, hb4⟩; have HV4 := Hid.mk' (HV3.out.below hb4); clear hb4))
                    rw [Exit.noGoto_ret]
                    go_ret2
                    rw [HST.out, HNONE.out]
                    exact ⟨_, rfl, HV4.out.chg⟩
                  | some vp =>
                    obtain ⟨v, p'⟩ := vp
                    have hvb := rice_bd hrc hs (by omega)
                    have HRC := Hid.mk' (rice_yes B s b st2.p (num b st.p 4) wr hs HV2.out.p (by omega) HV2.out.rd HB.out v p' hrc)
                    cases hfit : fitsB d (guessG kind a c st2.x j + v)
                    · have HNONE := Hid.mk' (HFAIL.out (Job.plc_no HOJ.out (by rw [HJ.out.1, HJ.out.2.1, HKK.out]; exact hrc) (by rw [HJ.out.2.2.1, HJ.out.2.2.2.1, HJ.out.2.2.2.2.1, HJ.out.2.2.2.2.2.1]; exact hfit)))
                      clear hrc
                      go_wp2_with (first
                        | (go_at_call 224; refine HRC.out.mono ?_; rintro e w3 ⟨rfl, hR3, hC3⟩; have HV3 := Hid.mk' (HV2.out.chgB (k' := 0) hC3 hR3 hvb.2.2 hgB (Nat.ne_of_gt hBlt)); clear hR3 hC3 gc0 gc1 gc2 gc3 gc4 gc5; obtain ⟨gc0, gc1, gc2, gc3, gc4, gc5⟩ := HV3.out.gd.cells)
                        | (go_at_call 213; refine (guessV_any kind a c g j n st2.x _ h2 h7 ha hc (by omega) (by omega) HXB.out HV3.out.row (by omega)).mono ?_; rintro e w4 ⟨rfl, hb4⟩; have HV4 := Hid.mk' (HV3.out.below hb4); clear hb4)
                        | (go_at_call 120; refine (isSample_any d _ _ hd1 hd).mono ?_; rintro e w5 ⟨rfl, rfl⟩))
                      rw [Exit.noGoto_ret]
                      go_ret2
                      rw [HST.out, HNONE.out]
                      exact ⟨_, rfl, HV4.out.chg⟩
                    · have HYES := Hid.mk' (Job.plc_yes (J := J) (s := st2) HOJ.out (by rw [HJ.out.1, HJ.out.2.1, HKK.out]; exact hrc) (by rw [HJ.out.2.2.1, HJ.out.2.2.2.1, HJ.out.2.2.2.2.1, HJ.out.2.2.2.2.2.1]; exact hfit))
                      clear hrc
                      go_wp2_with (first
                        | (go_at_call 224; refine HRC.out.mono ?_; rintro e w3 ⟨rfl, hR3, hC3⟩; have HV3 := Hid.mk' (HV2.out.chgB (k' := num b st.p 4) hC3 hR3 hvb.2.2 hgB (Nat.ne_of_gt hBlt)); clear hR3 hC3 gc0 gc1 gc2 gc3 gc4 gc5; obtain ⟨gc0, gc1, gc2, gc3, gc4, gc5⟩ := HV3.out.gd.cells)
                        | (go_at_call 213; refine (guessV_any kind a c g j n st2.x _ h2 h7 ha hc (by omega) (by omega) HXB.out HV3.out.row (by omega)).mono ?_; rintro e w4 ⟨rfl, hb4⟩; have HV4 := Hid.mk' (HV3.out.below hb4); clear hb4; have hca := fun o => (HV4.out.row.alloc o).cell (i := j) (by omega); have hfa := fun o => (HV4.out.row.alloc o).frozen j; unfold cutV at hca)
                        | (go_at_call 120; refine (isSample_any d _ _ hd1 hd).mono ?_; rintro e w5 ⟨rfl, rfl⟩))
                      go_roundw
                      case rel =>
                        refine ⟨j + 1, by omega, by omega, by go_num, rfl, _, ?_, ?_, (HV4.out.below ((Below.refl _ _).alloc (Nat.le_refl _) _)).put _ hfit hgB (Nat.ne_of_gt hglt)⟩
                        · rw [show j + 1 - F = (j - F) + 1 by omega]
                          show (J.U ⟨p + 2, 0, x0⟩ F (j - F)).bind _ = _
                          rw [HU2.out, Option.bind_some, show F + (j - F) = j by omega, HYES.out, HJ.out.2.2.2.1, HJ.out.2.2.2.2.1, HJ.out.2.2.2.2.2.1, HKK.out]
                        · rfl
                      case measure => simp [intOf]; omega
                · have e : j = F + sz := by omega
                  subst e
                  go_wp2
                  go_roundw
                  case rel =>
                    refine ⟨F + sz, F + sz, hFs, by go_num, rfl, by omega, ⟨m + 1, by rw [Nat.succ_mul, ← HM.out]⟩, st2, ?_, HV2.out⟩
                    rw [← J.U_eq _ F HMOD.out sz (by omega) (by rw [HJ.out.2.2.2.2.2.2]; omega)]
                    have := HU2.out
                    rwa [show F + sz - F = sz by omega] at this
                  case measure => simp [intOf]; omega
            · have HNONE : Hid (J.R ⟨p + 2, 0, x0⟩ n = none) := by
                refine J.R_none _ (i := F + 1) ?_ (by omega)
                simp only [Job.R, HSTF.out, Option.bind_some]
                have hmod : F % J.size = 0 := by rw [HJ.out.2.2.2.2.2.2, HM.out]; exact Nat.mul_mod_left _ _
                rw [if_pos hmod, Job.rdK, if_neg (fun h => hk14 (by have := h.2; rwa [HJ.out.1] at this))]; rfl
              have hkb : num b st.p 4 < 16 := num_lt b st.p 4
              go_wp2_with (go_at_call 154; refine HK.out.mono ?_; rintro e w2 ⟨rfl, hR2, hC2⟩)
              rw [Exit.noGoto_ret]
              go_ret2
              rw [HST.out, HNONE.out]
              exact ⟨_, rfl, HINV.out.chg.chg hC2 (.inl (.inl rfl))⟩
          · have HK := Hid.mk' (number_no B s st.p 4 wr hs HINV.out.p (by omega) HINV.out.rd (by omega))
            have HNONE : Hid (J.R ⟨p + 2, 0, x0⟩ n = none) := by
              refine J.R_none _ (i := F + 1) ?_ (by omega)
              simp only [Job.R, HSTF.out, Option.bind_some]
              have hmod : F % J.size = 0 := by rw [HJ.out.2.2.2.2.2.2, HM.out]; exact Nat.mul_mod_left _ _
              rw [if_pos hmod, Job.rdK, if_neg (fun h => hk4 (by have := h.1; rwa [HJ.out.2.1] at this))]; rfl
            go_wp2_with (go_at_call 154; refine HK.out.mono ?_; rintro e w2 ⟨rfl, j, rfl⟩)
            rw [Exit.noGoto_ret]
            go_ret2
            rw [HST.out, HNONE.out]
            exact ⟨_, rfl, HINV.out.chg.drewN j⟩
        · have e : F = n := by omega
          subst e
          have hl : len = F := by have := HLEN.out; omega
          subst hl
          go_wp2
          rw [Exit.noGoto_ret]
          go_ret2
          rw [HST.out, HSTF.out]
          exact ⟨rfl, HINV.out.row, HINV.out.rd, HINV.out.chg⟩
    · have HST : Hid (restsSt b s.size d kind a c n p x0 = none) := by
        show _ = _; unfold restsSt; rw [if_neg (fun h => hcut h.2)]
      have hcut0 : cutB n (ord kind) (num b p 2) = false := by simpa using hcut
      have HPS := Hid.mk' (fun u => partSize_any n (ord kind) (num b p 2) u hn ho hq)
      rw [hcut0] at HPS
      clear hcut hcut0 hb hR hrow hx0 I0 hO
      simp only [gV]
      go_enter Tryz.func201, Tryz.ntmps201
      go_wp2_with fail
      refine wp_scope_straight ?_
      go_wp2_with (first
        | (go_at_call 154; refine HNUM.out.mono ?_; rintro e w1 ⟨rfl, hR1, hC1⟩; have HI1 := Hid.mk' (HI0.out.chgB (k' := 0) hC1 hR1 hp2 hgB (Nat.ne_of_gt hBlt)); clear hR1 hC1; obtain ⟨gc0, gc1, gc2, gc3, gc4, gc5⟩ := HI1.out.gd.cells)
        | (go_at_call 223; refine (HPS.out _).mono ?_; rintro e w' ⟨rfl, rfl⟩))
      rw [Exit.noGoto_ret]
      go_ret2
      rw [HST.out]
      exact ⟨_, rfl, HI1.out.chg⟩
  · have HNUM := Hid.mk' (number_no B s p 2 _ hs hp (by omega) HI0.out.rd (by omega))
    have HST : Hid (restsSt b s.size d kind a c n p x0 = none) := by
      show _ = _; unfold restsSt; rw [if_neg (fun h => hp2 h.1)]
    clear hb hR hrow hx0 I0 hO
    simp only [gV]
    go_enter Tryz.func201, Tryz.ntmps201
    go_wp2_with fail
    refine wp_scope_straight ?_
    go_wp2_with (go_at_call 154; refine HNUM.out.mono ?_; rintro e w1 ⟨rfl, j, rfl⟩)
    rw [Exit.noGoto_ret]
    go_ret2
    rw [HST.out]
    exact ⟨_, rfl, HI0.out.chg.drewN j⟩
end Go.Proofs.YtlncjgnomhpjnaaGreatDoor

