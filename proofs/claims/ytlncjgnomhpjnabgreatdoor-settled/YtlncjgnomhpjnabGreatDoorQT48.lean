import Derived.Test.YtlncjgnomhpjnabGreatDoorQT46
import Derived.Test.YtlncjgnomhpjnabGreatDoorQT47
import Derived.Test.YtlncjgnomhpjnabGreatDoorQT44
import Derived.Lib.SliceRun
/-
  What the laws ask of a line: settle.
-/
namespace Go.Proofs.YtlncjgnomhpjnabGreatDoor
open Go.RowKit Go.Deep
set_option linter.unusedVariables false
/-- A view that was taken before. -/
def LastOf (p : Lpar) (s : Lst) (lst : Array Value) : Prop := ∃ (ps : Int) (pg pu pw pn : Nat) (p5 p6 p7 p8 p9 : Value) (pA : Option Addr) (pe pk : Nat), lst = #[.int .i64 ps, .int .i64 (pg : Nat), .int .i64 (pu : Nat), .int .i64 (pw : Nat), .int .i64 (pn : Nat), p5, p6, p7, p8, p9, .slice pA pe pk] ∧ pg ≤ s.given ∧ pu ≤ s.summed ∧ pw ≤ s.wrote ∧ pn ≤ s.writes ∧ pe ≤ (s.ended p).length
theorem LastOf.act {p : Lpar} {s : Lst} {lst : Array Value} (h : LastOf p s lst) (c : LAct) : LastOf p (s.act p c) lst := by
  obtain ⟨ps, pg, pu, pw, pn, p5, p6, p7, p8, p9, pA, pe, pk, h0, h1, h2, h3, h4, h5⟩ := h
  obtain ⟨g1, g2, g3, g4, -⟩ := act_grows (p := p) (s := s) c
  have g5 := ended_grows (p := p) (s := s) c
  exact ⟨ps, pg, pu, pw, pn, p5, p6, p7, p8, p9, pA, pe, pk, h0, by omega, by omega, by omega, by omega, by omega⟩
/-- A line on its way: the variables of settle lie in two blocks of their own. -/
structure SetI (p : Lpar) (x : Lsn) (l : Nat) (w : World) (F0 : Nat → Prop) (CF lst : Array Value) (a : Lad) (F : Nat → Prop) (s : Lst) (u : World) : Prop where
  line : RLine p a x F l s u
  run : s.stopped = false
  ed : Edit F0 w u
  own : ∀ k, F k → F0 k ∨ w.heap.size + 2 ≤ k
  low : ∀ k, F0 k → k < w.heap.size
  llt : l < w.heap.size
  cb : Bx u w.heap.size 23 CF
  lb : Bx u (w.heap.size + 1) 64 lst
  last : LastOf p s lst
theorem SetI.keep {p : Lpar} {x : Lsn} {l : Nat} {w : World} {F0 : Nat → Prop} {CF lst : Array Value} {a : Lad} {F : Nat → Prop} {s : Lst} {u v : World} (h : SetI p x l w F0 CF lst a F s u) (hb : Below u.heap.size u v) : SetI p x l w F0 CF lst a F s v :=
  ⟨h.line.keep hb, h.run, h.ed.trans (Edit.of hb), h.own, h.low, h.llt, h.cb.below hb, h.lb.below hb, h.last⟩
theorem SetI.put {p : Lpar} {x : Lsn} {l : Nat} {w : World} {F0 : Nat → Prop} {CF lst : Array Value} {a : Lad} {F : Nat → Prop} {s : Lst} {u : World} (h : SetI p x l w F0 CF lst a F s u) (ds : Array Value) (hd : LastOf p s ds) : SetI p x l w F0 CF ds a F s (u.setRow (w.heap.size + 1) ds) := by
  have hne : ∀ k, F k → k ≠ w.heap.size + 1 := fun k hk => by
    rcases h.own k hk with h1 | h1
    · have := h.low k h1; omega
    · omega
  have hl := h.llt
  exact ⟨⟨h.line.line.keep (fun k hk => setRow_other _ _ _ _ (hne k hk)) (by simp), h.line.inv, h.line.ptr.other (by omega) _, h.line.far⟩, h.run, h.ed.row (by omega) _, h.own, h.low, h.llt, h.cb.other (by omega) _, h.lb.row _, hd⟩
theorem set_step {p : Lpar} {x : Lsn} {l : Nat} {w : World} {F0 : Nat → Prop} {CF lst : Array Value} {a : Lad} {F : Nat → Prop} {s : Lst} {u : World} (h : SetI p x l w F0 CF lst a F s u) (hT : TabsF u) (hf : p.fail < 1) (h2 : s.e2 = false) (k : Nat) (hk : (k : Int) ≤ 9223372036854775807) :
    Calls Tryz.prog 51 #[ptrV l, .int .i64 k] u fun e w' => e = .returned (.tuple #[.int .i64 (pickT p s k : Nat), .int .i64 0]) ∧ ∃ a' F' s', SetI p x l w F0 CF lst a' F' s' w' ∧ s'.rem p + 1 = s.rem p := by
  refine (rStep_any h.line hT k hk h2).mono ?_
  rintro e w' ⟨rfl, c, a', F', hc, -, hO, hL, hE⟩
  have hu : w.heap.size + 2 ≤ u.heap.size := h.lb.lt
  have hst := act_runs h.line.inv hf h.run c
  obtain ⟨-, -, ht, -⟩ := pickT_ok (k := k) (h.line.able_ne h2)
  have hnF : ∀ k, w.heap.size ≤ k → k < w.heap.size + 2 → ¬ F k := fun k h1 h2 hk => by
    rcases h.own k hk with h3 | h3
    · have := h.low k h3; omega
    · omega
  refine ⟨rfl, a', F', s.act p c, ⟨hL, hst, ?_, fun k hk => ?_, h.low, h.llt, h.cb.edit hE (hnF _ (Nat.le_refl _) (by omega)), h.lb.edit hE (hnF _ (by omega) (by omega)), h.last.act c⟩, (rem_step h.line.inv ht hc).2 hst⟩
  · exact ⟨hE.os.trans h.ed.os, hE.tape.trans h.ed.tape, hE.output.trans h.ed.output, Nat.le_trans h.ed.size hE.size, fun k hk hs => (hE.block k (by omega) fun hf => by
      rcases h.own k hf with h3 | h3
      · exact hs h3
      · omega).trans (h.ed.block k hk hs)⟩
  · rcases hO.2 k hk with h3 | h3
    · exact h.own k h3
    · exact Or.inr (by omega)
theorem set_look {p : Lpar} {x : Lsn} {l : Nat} {w : World} {F0 : Nat → Prop} {CF lst : Array Value} {a : Lad} {F : Nat → Prop} {s : Lst} {u : World} (h : SetI p x l w F0 CF lst a F s u) (h2 : s.e2 = false) :
    Calls Tryz.prog 24 #[ptrV l] u fun e w' => ∃ A1 k1 A2 k2 A3 k3, e = .returned (.agg #[.int .i64 0, .int .i64 s.given, .int .i64 s.summed, .int .i64 s.wrote, .int .i64 s.writes, .int .i64 s.jobs.length, .int .i64 s.lane.length, .int .i64 s.ready.length, .slice A1 p.W k1, .slice A2 s.shelf.length k2, .slice A3 (s.ended p).length k3]) ∧ Seen p s u.heap.size (.slice A1 p.W k1) (.slice A2 s.shelf.length k2) (.slice A3 (s.ended p).length k3) w' ∧ Below u.heap.size u w' := by
  refine (rLook_any h.line).mono ?_
  rintro e w' ⟨v1, v2, v3, rfl, hs, hb⟩
  obtain ⟨A1, k1, e1, -⟩ := own_open hs.held
  obtain ⟨A2, k2, e2, -⟩ := own_open hs.shelf
  obtain ⟨A3, k3, e3, -⟩ := own_open hs.ended
  subst e1 e2 e3
  refine ⟨A1, k1, A2, k2, A3, k3, ?_, hs, hb⟩
  unfold viewC lstN
  rw [h2]
  rfl
theorem set_seen {p : Lpar} {x : Lsn} {l : Nat} {w : World} {F0 : Nat → Prop} {CF lst : Array Value} {a : Lad} {F : Nat → Prop} {s : Lst} {u u4 : World} {A1 A2 A3 : Option Addr} {k1 k2 k3 : Nat} (h : SetI p x l w F0 CF lst a F s u) (h2 : s.e2 = false) (hs : Seen p s u.heap.size (.slice A1 p.W k1) (.slice A2 s.shelf.length k2) (.slice A3 (s.ended p).length k3) u4) (hb : Below u.heap.size u u4) (c0 c1 c2 c3 c4 : Int) :
    SetI p x l w F0 CF lst a F s ((u4.alloc (.cells #[.int .i64 0, .int .i64 0, .int .i64 0, .int .i64 0, .int .i64 0, .int .i64 0, .int .i64 0, .int .i64 0, .slice none 0 0, .slice none 0 0, .slice none 0 0] 64)).setRow u4.heap.size #[.int .i64 0, .int .i64 s.given, .int .i64 s.summed, .int .i64 s.wrote, .int .i64 s.writes, .int .i64 s.jobs.length, .int .i64 s.lane.length, .int .i64 s.ready.length, .slice A1 p.W k1, .slice A2 s.shelf.length k2, .slice A3 (s.ended p).length k3]) ∧ Bx ((u4.alloc (.cells #[.int .i64 0, .int .i64 0, .int .i64 0, .int .i64 0, .int .i64 0, .int .i64 0, .int .i64 0, .int .i64 0, .slice none 0 0, .slice none 0 0, .slice none 0 0] 64)).setRow u4.heap.size #[.int .i64 0, .int .i64 s.given, .int .i64 s.summed, .int .i64 s.wrote, .int .i64 s.writes, .int .i64 s.jobs.length, .int .i64 s.lane.length, .int .i64 s.ready.length, .slice A1 p.W k1, .slice A2 s.shelf.length k2, .slice A3 (s.ended p).length k3]) u4.heap.size 64 #[.int .i64 0, .int .i64 s.given, .int .i64 s.summed, .int .i64 s.wrote, .int .i64 s.writes, .int .i64 s.jobs.length, .int .i64 s.lane.length, .int .i64 s.ready.length, .slice A1 p.W k1, .slice A2 s.shelf.length k2, .slice A3 (s.ended p).length k3] ∧ Calls Tryz.prog 49 #[.agg #[.int .i64 0, .int .i64 s.given, .int .i64 s.summed, .int .i64 s.wrote, .int .i64 s.writes, .int .i64 s.jobs.length, .int .i64 s.lane.length, .int .i64 s.ready.length, .slice A1 p.W k1, .slice A2 s.shelf.length k2, .slice A3 (s.ended p).length k3], .agg #[.int .i64 c0, .int .i64 c1, .int .i64 c2, .int .i64 c3, .int .i64 c4, .int .i64 p.W, .int .i64 p.Wd, .int .i64 p.Rm], .int .i64 p.N] ((u4.alloc (.cells #[.int .i64 0, .int .i64 0, .int .i64 0, .int .i64 0, .int .i64 0, .int .i64 0, .int .i64 0, .int .i64 0, .slice none 0 0, .slice none 0 0, .slice none 0 0] 64)).setRow u4.heap.size #[.int .i64 0, .int .i64 s.given, .int .i64 s.summed, .int .i64 s.wrote, .int .i64 s.writes, .int .i64 s.jobs.length, .int .i64 s.lane.length, .int .i64 s.ready.length, .slice A1 p.W k1, .slice A2 s.shelf.length k2, .slice A3 (s.ended p).length k3]) fun e w' => e = .returned (.bool true) ∧ Below (Go.World.heap ((u4.alloc (.cells #[.int .i64 0, .int .i64 0, .int .i64 0, .int .i64 0, .int .i64 0, .int .i64 0, .int .i64 0, .int .i64 0, .slice none 0 0, .slice none 0 0, .slice none 0 0] 64)).setRow u4.heap.size #[.int .i64 0, .int .i64 s.given, .int .i64 s.summed, .int .i64 s.wrote, .int .i64 s.writes, .int .i64 s.jobs.length, .int .i64 s.lane.length, .int .i64 s.ready.length, .slice A1 p.W k1, .slice A2 s.shelf.length k2, .slice A3 (s.ended p).length k3])).size ((u4.alloc (.cells #[.int .i64 0, .int .i64 0, .int .i64 0, .int .i64 0, .int .i64 0, .int .i64 0, .int .i64 0, .int .i64 0, .slice none 0 0, .slice none 0 0, .slice none 0 0] 64)).setRow u4.heap.size #[.int .i64 0, .int .i64 s.given, .int .i64 s.summed, .int .i64 s.wrote, .int .i64 s.writes, .int .i64 s.jobs.length, .int .i64 s.lane.length, .int .i64 s.ready.length, .slice A1 p.W k1, .slice A2 s.shelf.length k2, .slice A3 (s.ended p).length k3]) w' := by
  have e1 : Edit (fun _ => False) u4 ((u4.alloc (.cells #[.int .i64 0, .int .i64 0, .int .i64 0, .int .i64 0, .int .i64 0, .int .i64 0, .int .i64 0, .int .i64 0, .slice none 0 0, .slice none 0 0, .slice none 0 0] 64)).setRow u4.heap.size #[.int .i64 0, .int .i64 s.given, .int .i64 s.summed, .int .i64 s.wrote, .int .i64 s.writes, .int .i64 s.jobs.length, .int .i64 s.lane.length, .int .i64 s.ready.length, .slice A1 p.W k1, .slice A2 s.shelf.length k2, .slice A3 (s.ended p).length k3]) := ((Edit.refl _ u4).alloc _).row (Nat.le_refl _) _
  have hb4 : Below u4.heap.size u4 ((u4.alloc (.cells #[.int .i64 0, .int .i64 0, .int .i64 0, .int .i64 0, .int .i64 0, .int .i64 0, .int .i64 0, .int .i64 0, .slice none 0 0, .slice none 0 0, .slice none 0 0] 64)).setRow u4.heap.size #[.int .i64 0, .int .i64 s.given, .int .i64 s.summed, .int .i64 s.wrote, .int .i64 s.writes, .int .i64 s.jobs.length, .int .i64 s.lane.length, .int .i64 s.ready.length, .slice A1 p.W k1, .slice A2 s.shelf.length k2, .slice A3 (s.ended p).length k3]) := e1.below (Nat.le_refl _) fun k hk => hk.elim
  have hi := h.keep (hb.trans (hb4.mono hb.size))
  refine ⟨hi, (Bx.new u4 _ _).row _, ?_⟩
  have := look_placed hi.line.line hi.line.inv hi.run (hs.keep e1 fun k hk => hk.elim) c0 c1 c2 c3 c4
  unfold viewC lstN at this
  rw [h2] at this
  exact this
theorem set_grown {p : Lpar} {x : Lsn} {l : Nat} {w : World} {F0 : Nat → Prop} {CF lst : Array Value} {a : Lad} {F : Nat → Prop} {s : Lst} {u : World} (A1 A2 A3 : Option Addr) (k1 k2 k3 : Nat) (h : SetI p x l w F0 CF lst a F s u) :
    lst.size = 11 ∧ Calls Tryz.prog 50 #[.agg lst, .agg #[.int .i64 0, .int .i64 s.given, .int .i64 s.summed, .int .i64 s.wrote, .int .i64 s.writes, .int .i64 s.jobs.length, .int .i64 s.lane.length, .int .i64 s.ready.length, .slice A1 p.W k1, .slice A2 s.shelf.length k2, .slice A3 (s.ended p).length k3]] u fun e w' => e = .returned (.bool true) ∧ Below u.heap.size u w' := by
  obtain ⟨ps, pg, pu, pw, pn, p5, p6, p7, p8, p9, pA, pe, pk, rfl, h1, h2, h3, h4, h5⟩ := h.last
  exact ⟨rfl, grown_yes ps 0 pg pu pw pn s.given s.summed s.wrote s.writes pe pk (s.ended p).length k3 p5 p6 p7 p8 p9 _ _ _ _ _ pA A3 u h1 h2 h3 h4 h5⟩
theorem set_able {p : Lpar} {x : Lsn} {l : Nat} {w : World} {F0 : Nat → Prop} {CF lst : Array Value} {a : Lad} {F : Nat → Prop} {s : Lst} {u : World} (h : SetI p x l w F0 CF lst a F s u) (h2 : s.e2 = false) (k : Nat) :
    Calls Tryz.prog 42 #[ptrV l] u fun e w' => ∃ g cap, e = .returned (.slice (some ⟨g, 0, none⟩) (s.able p).length cap) ∧ w'.cell? ⟨g, k % (s.able p).length, none⟩ = some (.int .i64 (pickT p s k : Nat)) ∧ Below u.heap.size u w' := by
  have hne := h.line.able_ne h2
  obtain ⟨h1, h3, -⟩ := pickT_ok (k := k) hne
  refine (rAble_any h.line).mono ?_
  rintro e w' ⟨v, rfl, ho, hb⟩
  obtain ⟨A, cap, rfl, hA⟩ := own_open ho
  obtain ⟨g, rfl, -, hc⟩ := hA (by omega)
  exact ⟨g, cap, rfl, hc _ _ (by rw [List.getElem?_map, h3]; rfl), hb⟩
theorem LastOf.now {p : Lpar} {s : Lst} (A1 A2 A3 : Option Addr) (k1 k2 k3 : Nat) : LastOf p s #[.int .i64 0, .int .i64 s.given, .int .i64 s.summed, .int .i64 s.wrote, .int .i64 s.writes, .int .i64 s.jobs.length, .int .i64 s.lane.length, .int .i64 s.ready.length, .slice A1 p.W k1, .slice A2 s.shelf.length k2, .slice A3 (s.ended p).length k3] := ⟨0, s.given, s.summed, s.wrote, s.writes, _, _, _, _, _, A3, (s.ended p).length, k3, rfl, Nat.le_refl _, Nat.le_refl _, Nat.le_refl _, Nat.le_refl _, Nat.le_refl _⟩
theorem SetI.start {p : Lpar} {a : Lad} {x : Lsn} {F : Nat → Prop} {l : Nat} {s : Lst} {w : World} (h : RLine p a x F l s w) (hst : s.stopped = false) (c0 c1 c2 c3 c4 : Int) : SetI p x l w F #[.int .i64 c0, .int .i64 c1, .int .i64 c2, .int .i64 c3, .int .i64 c4, .int .i64 p.W, .int .i64 p.Wd, .int .i64 p.Rm] #[.int .i64 0, .int .i64 0, .int .i64 0, .int .i64 0, .int .i64 0, .int .i64 0, .int .i64 0, .int .i64 0, .slice none 0 0, .slice none 0 0, .slice none 0 0] a F s ((w.alloc (.cells #[.int .i64 c0, .int .i64 c1, .int .i64 c2, .int .i64 c3, .int .i64 c4, .int .i64 p.W, .int .i64 p.Wd, .int .i64 p.Rm] 23)).alloc (.cells #[.int .i64 0, .int .i64 0, .int .i64 0, .int .i64 0, .int .i64 0, .int .i64 0, .int .i64 0, .int .i64 0, .slice none 0 0, .slice none 0 0, .slice none 0 0] 64)) := by
  have hb : Below w.heap.size w ((w.alloc (.cells #[.int .i64 c0, .int .i64 c1, .int .i64 c2, .int .i64 c3, .int .i64 c4, .int .i64 p.W, .int .i64 p.Wd, .int .i64 p.Rm] 23)).alloc (.cells #[.int .i64 0, .int .i64 0, .int .i64 0, .int .i64 0, .int .i64 0, .int .i64 0, .int .i64 0, .int .i64 0, .slice none 0 0, .slice none 0 0, .slice none 0 0] 64)) := ((Below.refl _ _).alloc (Nat.le_refl _) _).alloc (by simp) _
  exact ⟨h.keep hb, hst, Edit.of hb, fun k hk => Or.inl hk, fun k hk => h.line.lt k hk, h.ptr.lt, (Bx.new w _ _).alloc _, Bx.new2 (by simp) _ _, 0, 0, 0, 0, 0, _, _, _, _, _, none, 0, 0, rfl, Nat.zero_le _, Nat.zero_le _, Nat.zero_le _, Nat.zero_le _, Nat.zero_le _⟩
set_option maxRecDepth 100000 in
set_option maxHeartbeats 8000000 in
theorem settle_any {p : Lpar} {a : Lad} {x : Lsn} {F : Nat → Prop} {l : Nat} {s : Lst} {w : World} (w0 : World) (hT : TabsF w0) (hB : Below w0.heap.size w0 w) (h : RLine p a x F l s w) (hF : ∀ k, F k → w0.heap.size ≤ k) (hst : s.stopped = false) (hf : p.fail < 1) (c0 c1 c2 c3 c4 : Int) (A : Option Addr) (m cap : Nat) (pk : Nat → Int) (hA : IntsAt w0 A m pk) (hlow : ∀ y, A = some y → 0 < m → y.block < w0.heap.size) (hpk : ∀ i, i < m → -9223372036854775808 ≤ pk i ∧ pk i ≤ 9223372036854775807) (R : Nat) (hR : R ≤ s.rem p) (hRb : R ≤ 10000) :
    Calls Tryz.prog 22 #[ptrV l, .agg #[.int .i64 c0, .int .i64 c1, .int .i64 c2, .int .i64 c3, .int .i64 c4, .int .i64 p.W, .int .i64 p.Wd, .int .i64 p.Rm], .int .i64 p.N, .slice A m cap, .int .i64 R] w fun e w' => e = .returned (.bool true) ∧ ∃ a' F' s', RLine p a' x F' l s' w' ∧ s'.stopped = false ∧ s'.rem p = s.rem p - R ∧ (∀ k, F' k → F k ∨ w.heap.size ≤ k) ∧ Edit F w w' := by
  have HI0 := Hid.mk' (SetI.start h hst c0 c1 c2 c3 c4)
  have HBL : Hid (∀ u, Edit F w u → Below w0.heap.size w0 u) := fun u hu => hB.trans (hu.below hB.size hF)
  have HTB : Hid (∀ u, Edit F w u → TabsF u) := fun u hu => hT.below (HBL.out u hu)
  have HPK : Hid (∀ q, 0 < m → ∃ g o, A = some ⟨g, o, none⟩ ∧ (-9223372036854775808 ≤ pk (q % m) ∧ pk (q % m) ≤ 9223372036854775807) ∧ ∀ u, Edit F w u → u.cell? ⟨g, o + q % m, none⟩ = some (.int .i64 (pk (q % m)))) := fun q hm => by
    obtain ⟨g, o, rfl, hc⟩ := hA.open hm
    have hq : q % m < m := Nat.mod_lt _ hm
    exact ⟨g, o, rfl, hpk _ hq, fun u hu => ((HBL.out u hu).cell (p := ⟨g, o + q % m, none⟩) (hlow ⟨g, o, none⟩ rfl hm)).trans (hc _ hq)⟩
  have HST : Hid (∀ lst a' F' s' u k, SetI p x l w F #[.int .i64 c0, .int .i64 c1, .int .i64 c2, .int .i64 c3, .int .i64 c4, .int .i64 p.W, .int .i64 p.Wd, .int .i64 p.Rm] lst a' F' s' u → s'.e2 = false → (k : Nat) ≤ 9223372036854775807 → Calls Tryz.prog 51 #[ptrV l, .int .i64 k] u fun e w' => e = .returned (.tuple #[.int .i64 (pickT p s' k : Nat), .int .i64 0]) ∧ ∃ a2 F2 s2, SetI p x l w F #[.int .i64 c0, .int .i64 c1, .int .i64 c2, .int .i64 c3, .int .i64 c4, .int .i64 p.W, .int .i64 p.Wd, .int .i64 p.Rm] lst a2 F2 s2 w' ∧ s2.rem p + 1 = s'.rem p) := fun lst a' F' s' u k hu h2 hk => set_step hu (HTB.out u hu.ed) hf h2 k (by omega)
  clear hT hB h hF hA hlow hpk hst
  obtain ⟨R0, hR0⟩ : ∃ R0, R0 = s.rem p := ⟨_, rfl⟩
  rw [← hR0] at hR
  have HR0 := Hid.mk' hR0
  clear hR0
  rw [show s.rem p = R0 from HR0.out.symm]
  unfold ptrV at *
  go_enter Tryz.func22, Tryz.ntmps22
  go_wp2_with fail
  go_loopw [12, 13, 14] (fun s12 s13 s14 wr => ∃ q : Nat, q ≤ R ∧ s12 = .int .i64 q ∧ Hid (∃ lst a' F' s', SetI p x l w F #[.int .i64 c0, .int .i64 c1, .int .i64 c2, .int .i64 c3, .int .i64 c4, .int .i64 p.W, .int .i64 p.Wd, .int .i64 p.Rm] lst a' F' s' wr ∧ s'.rem p + q = R0)) (fun s12 _ _ _ => R - (intOf s12).toNat)
  case atStart => exact ⟨0, Nat.zero_le _, rfl, _, _, _, _, HI0.out, HR0.out.symm⟩
  case round =>
    obtain ⟨q, hq, rfl, HH⟩ := hrel
    by_cases hlt : q < R
    · obtain ⟨lst, a', F', s', hI, hrem⟩ := HH.out
      have h2 : s'.e2 = false := by
        cases h2 : s'.e2 with
        | false => rfl
        | true =>
          have := (hI.line.inv.rem0 hI.run).2 h2
          omega
      have HI := Hid.mk' hI
      have H2 := Hid.mk' h2
      have HRM := Hid.mk' hrem
      have HS0 := Hid.mk' (fun k (hk : k ≤ 9223372036854775807) => HST.out lst a' F' s' wr k hI h2 hk)
      clear hI h2 hrem HH
      by_cases hm : 0 < m
      · obtain ⟨g, o, rfl, hpr, hcl⟩ := HPK.out q hm
        have hc := hcl wr HI.out.ed
        have t1 : (q : Int).tmod (m : Int) = ((q % m : Nat) : Int) := by rw [Int.tmod_eq_emod_of_nonneg (by omega)]; exact (Int.natCast_emod q _).symm
        have hqm : q % m < m := Nat.mod_lt _ hm
        have hqt : q % m ≤ 10000 := Nat.le_trans (Nat.mod_le _ _) (by omega)
        clear hcl HPK
        generalize q % m = qm at *
        generalize pk qm = pv at *
        have z1 : ((m : Int) == 0) = false := by simp; omega
        have z2 : ¬ (m : Int) = 0 := by omega
        have z3 : (0 : Int) < (m : Int) := by omega
        have z4 : (qm : Int) < (m : Int) := by omega
        have w1 : IntKind.i64.wrap (qm : Int) = (qm : Int) := by rw [IntKind.wrap_i64]; omega
        obtain ⟨hp1, hp2⟩ := hpr
        by_cases hneg : pv < 0
        · obtain ⟨k, hk⟩ : ∃ k : Nat, pv = -(k : Int) - 1 := ⟨(-pv - 1).toNat, by omega⟩
          obtain ⟨pv1, hpv1⟩ : ∃ pv1 : Int, pv1 = -(k : Int) := ⟨_, rfl⟩
          have w2 : IntKind.i64.wrap (pv + 1) = pv1 := by rw [IntKind.wrap_i64]; omega
          have w3 : IntKind.i64.wrap (-pv1) = (k : Int) := by rw [IntKind.wrap_i64]; omega
          have hkb : k ≤ 9223372036854775807 := by omega
          clear hk hpv1 hp1 hp2
          have HSK : Hid (∀ lst' u, SetI p x l w F #[.int .i64 c0, .int .i64 c1, .int .i64 c2, .int .i64 c3, .int .i64 c4, .int .i64 p.W, .int .i64 p.Wd, .int .i64 p.Rm] lst' a' F' s' u → Calls Tryz.prog 51 #[.pointer (some ⟨l, 0, none⟩), .int .i64 k] u fun e w' => e = .returned (.tuple #[.int .i64 (pickT p s' k : Nat), .int .i64 0]) ∧ ∃ a2 F2 s2, SetI p x l w F #[.int .i64 c0, .int .i64 c1, .int .i64 c2, .int .i64 c3, .int .i64 c4, .int .i64 p.W, .int .i64 p.Wd, .int .i64 p.Rm] lst' a2 F2 s2 w' ∧ s2.rem p + 1 = s'.rem p) := fun lst' u hu => HST.out lst' a' F' s' u k hu H2.out hkb
          have HAB : Hid (∀ u, SetI p x l w F #[.int .i64 c0, .int .i64 c1, .int .i64 c2, .int .i64 c3, .int .i64 c4, .int .i64 p.W, .int .i64 p.Wd, .int .i64 p.Rm] lst a' F' s' u → Calls Tryz.prog 42 #[.pointer (some ⟨l, 0, none⟩)] u fun e w' => ∃ g cap, e = .returned (.slice (some ⟨g, 0, none⟩) (s'.able p).length cap) ∧ w'.cell? ⟨g, k % (s'.able p).length, none⟩ = some (.int .i64 (pickT p s' k : Nat)) ∧ Below u.heap.size u w') := fun u hu => set_able hu H2.out k
          have HLK : Hid (Calls Tryz.prog 24 #[.pointer (some ⟨l, 0, none⟩)] wr fun e w' => ∃ A1 k1 A2 k2 A3 k3, e = .returned (.agg #[.int .i64 0, .int .i64 s'.given, .int .i64 s'.summed, .int .i64 s'.wrote, .int .i64 s'.writes, .int .i64 s'.jobs.length, .int .i64 s'.lane.length, .int .i64 s'.ready.length, .slice A1 p.W k1, .slice A2 s'.shelf.length k2, .slice A3 (s'.ended p).length k3]) ∧ Seen p s' wr.heap.size (.slice A1 p.W k1) (.slice A2 s'.shelf.length k2) (.slice A3 (s'.ended p).length k3) w' ∧ Below wr.heap.size wr w') := set_look HI.out H2.out
          have HSE := Hid.mk' (fun (u4 : World) (A1 : Option Addr) (k1 : Nat) (A2 : Option Addr) (k2 : Nat) (A3 : Option Addr) (k3 : Nat) hs hb => set_seen (u4 := u4) (A1 := A1) (A2 := A2) (A3 := A3) (k1 := k1) (k2 := k2) (k3 := k3) HI.out H2.out hs hb c0 c1 c2 c3 c4)
          have HGR : Hid (∀ u A1 A2 A3 k1 k2 k3, SetI p x l w F #[.int .i64 c0, .int .i64 c1, .int .i64 c2, .int .i64 c3, .int .i64 c4, .int .i64 p.W, .int .i64 p.Wd, .int .i64 p.Rm] lst a' F' s' u → Calls Tryz.prog 50 #[.agg lst, .agg #[.int .i64 0, .int .i64 s'.given, .int .i64 s'.summed, .int .i64 s'.wrote, .int .i64 s'.writes, .int .i64 s'.jobs.length, .int .i64 s'.lane.length, .int .i64 s'.ready.length, .slice A1 p.W k1, .slice A2 s'.shelf.length k2, .slice A3 (s'.ended p).length k3]] u fun e w' => e = .returned (.bool true) ∧ Below u.heap.size u w') := fun u A1 A2 A3 k1 k2 k3 hu => (set_grown A1 A2 A3 k1 k2 k3 hu).2
          have HPT : Hid (∀ u A1 A2 A3 k1 k2 k3, SetI p x l w F #[.int .i64 c0, .int .i64 c1, .int .i64 c2, .int .i64 c3, .int .i64 c4, .int .i64 p.W, .int .i64 p.Wd, .int .i64 p.Rm] lst a' F' s' u → SetI p x l w F #[.int .i64 c0, .int .i64 c1, .int .i64 c2, .int .i64 c3, .int .i64 c4, .int .i64 p.W, .int .i64 p.Wd, .int .i64 p.Rm] #[.int .i64 0, .int .i64 s'.given, .int .i64 s'.summed, .int .i64 s'.wrote, .int .i64 s'.writes, .int .i64 s'.jobs.length, .int .i64 s'.lane.length, .int .i64 s'.ready.length, .slice A1 p.W k1, .slice A2 s'.shelf.length k2, .slice A3 (s'.ended p).length k3] a' F' s' (u.setRow (w.heap.size + 1) #[.int .i64 0, .int .i64 s'.given, .int .i64 s'.summed, .int .i64 s'.wrote, .int .i64 s'.writes, .int .i64 s'.jobs.length, .int .i64 s'.lane.length, .int .i64 s'.ready.length, .slice A1 p.W k1, .slice A2 s'.shelf.length k2, .slice A3 (s'.ended p).length k3])) := fun u A1 A2 A3 k1 k2 k3 hu => hu.put _ (LastOf.now A1 A2 A3 k1 k2 k3)
          have HSZ : Hid (lst.size = 11) := (set_grown none none none 0 0 0 HI.out).1
          have hW8 := HI.out.line.line.W8
          have hal : (s'.able p).length ≤ 3 + p.W := by have := List.length_filter_le (fun t => (s'.next p t).isSome) (List.range (3 + p.W)); rw [List.length_range] at this; exact this
          have ha0 : 0 < (s'.able p).length := List.length_pos_iff.2 (HI.out.line.able_ne H2.out)
          have t2 : (k : Int).tmod (((s'.able p).length : Nat) : Int) = ((k % (s'.able p).length : Nat) : Int) := by rw [Int.tmod_eq_emod_of_nonneg (by omega)]; exact (Int.natCast_emod k _).symm
          have hka : k % (s'.able p).length < (s'.able p).length := Nat.mod_lt _ ha0
          have htt : pickT p s' k < 3 + p.W := (pickT_ok (HI.out.line.able_ne H2.out)).2.2.1
          clear HS0 HST HTB HBL HI0 HR0
          generalize pickT p s' k = t at *
          generalize k % (s'.able p).length = ka at *
          generalize (s'.able p).length = al at *
          have z5 : ((al : Int) == 0) = false := by simp; omega
          have z6 : ¬ (al : Int) = 0 := by omega
          have z7 : (ka : Int) < (al : Int) := by omega
          have z8 : ¬ al = 0 := by omega
          have w4 : IntKind.i64.wrap (ka : Int) = (ka : Int) := by rw [IntKind.wrap_i64]; omega
          have z9 : (0 : Int) ≤ (t : Int) := by omega
          go_wp2_with (first
            | (go_at_call 24; refine HLK.out.mono ?_; rintro e u4 ⟨A1, k1, A2, k2, A3, k3, rfl, hs, hb⟩; have HZ4 := Hid.mk' (HSE.out u4 A1 k1 A2 k2 A3 k3 hs hb); clear hs hb HLK HSE)
            | (refine wpList_storeRow rfl _ _ 64 rfl u4.heap.size 64 _ _ rfl rfl (Bx.new u4 #[.int .i64 0, .int .i64 0, .int .i64 0, .int .i64 0, .int .i64 0, .int .i64 0, .int .i64 0, .int .i64 0, .slice none 0 0, .slice none 0 0, .slice none 0 0] 64) infoView rfl rfl ?_)
            | (refine wpList_loadRow rfl _ 64 rfl u4.heap.size 64 #[.int .i64 0, .int .i64 s'.given, .int .i64 s'.summed, .int .i64 s'.wrote, .int .i64 s'.writes, .int .i64 s'.jobs.length, .int .i64 s'.lane.length, .int .i64 s'.ready.length, .slice A1 p.W k1, .slice A2 s'.shelf.length k2, .slice A3 (s'.ended p).length k3] (0, 0) _ rfl HZ4.out.2.1 Tryz.underlying64 rfl infoView ?_)
            | (refine wpList_loadRow rfl _ 23 rfl w.heap.size 23 #[.int .i64 c0, .int .i64 c1, .int .i64 c2, .int .i64 c3, .int .i64 c4, .int .i64 p.W, .int .i64 p.Wd, .int .i64 p.Rm] (0, 0) _ rfl HZ4.out.1.cb Tryz.underlying23 rfl infoCfgK ?_)
            | (go_at_call 49; refine HZ4.out.2.2.mono ?_; rintro e u5 ⟨rfl, hb⟩; have HZ5 := Hid.mk' (And.intro (HZ4.out.1.keep hb) (HZ4.out.2.1.below hb)); have HG5 := Hid.mk' (HGR.out u5 A1 A2 A3 k1 k2 k3 HZ5.out.1); clear hb HZ4 HGR)
            | (refine wpList_loadRow rfl _ 64 rfl (w.heap.size + 1) 64 lst (0, 0) _ rfl HZ5.out.1.lb Tryz.underlying64 rfl (by rw [HSZ.out]; exact infoView) ?_)
            | (refine wpList_loadRow rfl _ 64 rfl u4.heap.size 64 #[.int .i64 0, .int .i64 s'.given, .int .i64 s'.summed, .int .i64 s'.wrote, .int .i64 s'.writes, .int .i64 s'.jobs.length, .int .i64 s'.lane.length, .int .i64 s'.ready.length, .slice A1 p.W k1, .slice A2 s'.shelf.length k2, .slice A3 (s'.ended p).length k3] (0, 0) _ rfl HZ5.out.2 Tryz.underlying64 rfl infoView ?_)
            | (go_at_call 50; refine HG5.out.mono ?_; rintro e u6 ⟨rfl, hb⟩; have HZ6 := Hid.mk' (And.intro (HZ5.out.1.keep hb) (HZ5.out.2.below hb)); have HA6 := Hid.mk' (HAB.out u6 HZ6.out.1); clear hb HZ5 HG5 HAB)
            | (go_at_call 42; refine HA6.out.mono ?_; rintro e u7 ⟨ga, ca, rfl, hca, hb⟩; have HZ7 := Hid.mk' (And.intro (HZ6.out.1.keep hb) (HZ6.out.2.below hb)); have x0 := HZ7.out.2.cell 0; simp at x0; have HS8 := Hid.mk' (HSK.out _ _ (HPT.out u7 A1 A2 A3 k1 k2 k3 HZ7.out.1)); clear hb HZ6 HA6 HSK HPT)
            | (refine wpList_loadRow rfl _ 64 rfl u4.heap.size 64 #[.int .i64 0, .int .i64 s'.given, .int .i64 s'.summed, .int .i64 s'.wrote, .int .i64 s'.writes, .int .i64 s'.jobs.length, .int .i64 s'.lane.length, .int .i64 s'.ready.length, .slice A1 p.W k1, .slice A2 s'.shelf.length k2, .slice A3 (s'.ended p).length k3] (0, 0) _ rfl HZ7.out.2 Tryz.underlying64 rfl infoView ?_)
            | (refine wpList_storeRow rfl _ _ 64 rfl (w.heap.size + 1) 64 lst _ rfl rfl HZ7.out.1.lb infoView HSZ.out rfl ?_)
            | (go_at_call 51; refine HS8.out.mono ?_; rintro e u9 ⟨rfl, hz⟩; have HZ9 := Hid.mk' hz; clear hz HS8))
          go_roundw
          case rel =>
            obtain ⟨a2, F2, s2, hI2, hr2⟩ := HZ9.out
            exact ⟨q + 1, by omega, by go_num, _, a2, F2, s2, hI2, by have := HRM.out; omega⟩
          case measure => simp [intOf]; omega
        · obtain ⟨k, rfl⟩ : ∃ k : Nat, pv = (k : Int) := ⟨pv.toNat, by omega⟩
          have hkb : k ≤ 9223372036854775807 := by omega
          have HS1 : Hid (Calls Tryz.prog 51 #[.pointer (some ⟨l, 0, none⟩), .int .i64 k] wr fun e w' => e = .returned (.tuple #[.int .i64 (pickT p s' k : Nat), .int .i64 0]) ∧ ∃ a2 F2 s2, SetI p x l w F #[.int .i64 c0, .int .i64 c1, .int .i64 c2, .int .i64 c3, .int .i64 c4, .int .i64 p.W, .int .i64 p.Wd, .int .i64 p.Rm] lst a2 F2 s2 w' ∧ s2.rem p + 1 = s'.rem p) := HS0.out k hkb
          generalize pickT p s' k = t at *
          clear HS0 HST HTB HBL HI0 HR0 hp1 hp2 hkb
          go_wp2_with (go_at_call 51; refine HS1.out.mono ?_; rintro e u9 ⟨rfl, hz⟩; have HZ9 := Hid.mk' hz; clear hz HS1)
          go_roundw
          case rel =>
            obtain ⟨a2, F2, s2, hI2, hr2⟩ := HZ9.out
            exact ⟨q + 1, by omega, by go_num, _, a2, F2, s2, hI2, by have := HRM.out; omega⟩
          case measure => simp [intOf]; omega
      · have e0 : m = 0 := by omega
        subst e0
        have HS1 : Hid (Calls Tryz.prog 51 #[.pointer (some ⟨l, 0, none⟩), .int .i64 0] wr fun e w' => e = .returned (.tuple #[.int .i64 (pickT p s' 0 : Nat), .int .i64 0]) ∧ ∃ a2 F2 s2, SetI p x l w F #[.int .i64 c0, .int .i64 c1, .int .i64 c2, .int .i64 c3, .int .i64 c4, .int .i64 p.W, .int .i64 p.Wd, .int .i64 p.Rm] lst a2 F2 s2 w' ∧ s2.rem p + 1 = s'.rem p) := HS0.out 0 (by omega)
        generalize pickT p s' 0 = t at *
        clear HS0 HST HTB HBL HI0 HR0 HPK
        go_wp2_with (go_at_call 51; refine HS1.out.mono ?_; rintro e u9 ⟨rfl, hz⟩; have HZ9 := Hid.mk' hz; clear hz HS1)
        go_roundw
        case rel =>
          obtain ⟨a2, F2, s2, hI2, hr2⟩ := HZ9.out
          exact ⟨q + 1, by omega, by go_num, _, a2, F2, s2, hI2, by have := HRM.out; omega⟩
        case measure => simp [intOf]; omega
    · have e : q = R := by omega
      subst e
      go_wp2_with fail
      go_ret
      obtain ⟨lst, a', F', s', hI, hrem⟩ := HH.out
      exact ⟨rfl, a', F', s', hI.line, hI.run, by omega, fun k hk => (hI.own k hk).imp id (by omega), hI.ed⟩
end Go.Proofs.YtlncjgnomhpjnabGreatDoor

/-
  A new line: its sound is copied.
-/
namespace Go.Proofs.YtlncjgnomhpjnabGreatDoor
open Go.RowKit Go.Deep
set_option linter.unusedVariables false
def intsL (S : Nat) (f : Nat → Int) : List Value := (List.range S).map fun i => .int .i64 (f i)
set_option maxRecDepth 100000 in
theorem clone_any (ad : Addr) (S c : Nat) (f : Nat → Int) (w : World) (hI : IntsAt w (some ad) S f) (hS : S ≤ 300) :
    Calls Tryz.prog 174 #[.slice (some ad) S c] w fun e w' => ∃ g cap, e = .returned (.slice (some ⟨g, 0, none⟩) S cap) ∧ w'.ownsRow w.heap.size 3 1 (.slice (some ⟨g, 0, none⟩) S cap) S (intsL S f) ∧ Below w.heap.size w w' := by
  have HR : Hid (∃ g cap w', (Builtin.append_ #[30, 30] 30 #[.slice (some ⟨w.heap.size, 0, none⟩) 0 0, .slice (some ad) S c]).run Tryz.prog (w.alloc (.cells #[] 3)) = .ok (.slice (some ⟨g, 0, none⟩) S cap) w' ∧ w'.ownsRow w.heap.size 3 1 (.slice (some ⟨g, 0, none⟩) S cap) S (intsL S f) ∧ Below w.heap.size w w') := by
    show ∃ _, _
    obtain ⟨i0, hi0, hz0, hz1, hz2⟩ := info_int
    have e0 : Edit (fun _ => False) w (w.alloc (.cells #[] 3)) := (Edit.refl _ w).alloc _
    have hown : (w.alloc (.cells #[] 3)).ownsRow w.heap.size 3 1 (.slice (some ⟨w.heap.size, 0, none⟩) 0 0) 0 [] := ⟨rfl, Or.inr ⟨w.heap.size, 0, #[], rfl, Nat.le_refl _, Bx.new w _ _, Nat.le_refl _, Nat.zero_le _, rfl, rfl⟩⟩
    obtain ⟨v', w', hr, h2, h3, h4, h5⟩ := run_append_own_at (P := Tryz.prog) (w.alloc (.cells #[] 3)) w.heap.size 30 30 3 i0 (.int .i64 0) 1 8 Tryz.underlying30 hi0 hz0 hz1 hz2 rfl (by omega) _ 0 [] hown ad S c (intsL S f) (by simp [intsL])
      (fun j u hj => by
        have hjS : j < S := by have := (List.getElem?_eq_some_iff.1 hj).1; simpa [intsL] using this
        obtain ⟨y, hy, hc⟩ := hI j hjS
        cases hy
        have hv : u = .int .i64 (f j) := by simp [intsL, hjS] at hj; exact hj.symm
        rw [hv]
        have hl : (ad.add j).block < w.heap.size := World.block_lt_of_cell? w _ hc
        rw [World.cell?_of_block (e0.block _ hl id)]
        exact hc) (fun u hu => by simp [intsL] at hu; obtain ⟨q, -, rfl⟩ := hu; rfl) (by simp only [maxLen]; omega) (by omega) (by simp)
    rw [Nat.zero_add, List.nil_append] at h2
    have hb : Below w.heap.size w w' := ⟨h3.os, h3.tape, h3.output, Nat.le_trans e0.size h3.size, fun k hk => (h3.block k (by simp; omega) (fun hh => by cases hh; exact Nat.lt_irrefl _ hk)).trans (e0.block k hk id)⟩
    rcases h2.2 with ⟨h6, h7⟩ | ⟨g, cap, cur, h6, -⟩
    · have := h4.1 h6
      cases this.1
    · subst h6
      exact ⟨g, cap, w', hr, h2, hb⟩
  clear hI
  obtain ⟨g, cap, w', hr, ho⟩ := HR.out
  have HR1 := Hid.mk' hr
  have HO := Hid.mk' ho
  clear hr ho HR
  have heq : ∀ u, (binOp .eql 30 (.slice (some ad) S c) (.slice none 0 0)).run Tryz.prog u = .ok (.bool false) u := fun u => Lib.run_eql_slice_nil u 30 3 (some ad) S c 0 0 Tryz.underlying30
  go_enter Tryz.func174, Tryz.ntmps174
  go_wp2_with (at_builtin; refine Lib.wpList_append_run _ rfl _ _ _ _ rfl _ _ rfl rfl _ _ HR1.out ?_)
  go_ret
  exact ⟨g, cap, rfl, HO.out⟩
theorem clone_nil (w : World) : Calls Tryz.prog 174 #[.slice none 0 0] w fun e w' => e = .returned (.slice none 0 0) ∧ w' = w := by
  have heq : ∀ u, (binOp .eql 30 (.slice none 0 0) (.slice none 0 0)).run Tryz.prog u = .ok (.bool true) u := fun u => Lib.run_eql_slice_nil u 30 3 none 0 0 0 0 Tryz.underlying30
  go_enter Tryz.func174, Tryz.ntmps174
  go_wp2
  go_ret
  exact ⟨rfl, rfl⟩
theorem clone_opt (ad : Option Addr) (S c : Nat) (f : Nat → Int) (w : World) (hI : IntsAt w ad S f) (hS : S ≤ 300) (hz : ad = none → S = 0 ∧ c = 0) :
    Calls Tryz.prog 174 #[.slice ad S c] w fun e w' => ∃ a' cap, e = .returned (.slice a' S cap) ∧ w'.ownsRow w.heap.size 3 1 (.slice a' S cap) S (intsL S f) ∧ Below w.heap.size w w' := by
  cases ad with
  | none =>
    obtain ⟨rfl, rfl⟩ := hz rfl
    refine (clone_nil w).mono ?_
    rintro e w' ⟨rfl, rfl⟩
    exact ⟨none, 0, rfl, ⟨rfl, Or.inl ⟨rfl, rfl⟩⟩, Below.refl _ _⟩
  | some ad =>
    refine (clone_any ad S c f w hI hS).mono ?_
    rintro e w' ⟨g, cap, rfl, h⟩
    exact ⟨_, cap, rfl, h⟩
/-- Lists that were copied: those ahead of q. -/
structure Cops (base lg n S q : Nat) (A : Nat → Option Addr) (C : Nat → Nat) (G : Nat → Nat → Int) (w : World) : Prop where
  row : w.rowIs lg 30 n (fun i => if i < q then .slice (A i) S (C i) else .slice none 0 0)
  own : ∀ i, i < q → w.ownsRow base 3 1 (.slice (A i) S (C i)) S (intsL S (G i))
theorem Cops.keep {base lg n S q : Nat} {A : Nat → Option Addr} {C : Nat → Nat} {G : Nat → Nat → Int} {w u : World} (h : Cops base lg n S q A C G w) (hu : Below w.heap.size w u) : Cops base lg n S q A C G u := by
  obtain ⟨c, h1, h2⟩ := h.row
  exact ⟨⟨c, (hu.block lg (Array.getElem?_eq_some_iff.1 h1).1).trans h1, h2⟩, fun i hi => shOwn (h.own i hi) (Edit.of (S := fun _ => False) hu) fun _ _ => id⟩
set_option maxRecDepth 100000 in
set_option maxHeartbeats 2000000 in
theorem copied_any (b n cap S : Nat) (A : Nat → Option Addr) (C : Nat → Nat) (G : Nat → Nat → Int) (w : World) (hn4 : n ≤ 4) (hS : S ≤ 300)
    (hA : ∀ i, i < n → w.cell? ⟨b, i, none⟩ = some (.slice (A i) S (C i))) (hI : ∀ i, i < n → IntsAt w (A i) S (G i)) (hlow : ∀ i, i < n → ∀ y, A i = some y → 0 < S → y.block < w.heap.size) (hz : ∀ i, i < n → A i = none → S = 0 ∧ C i = 0) :
    Calls Tryz.prog 102 #[.slice (some ⟨b, 0, none⟩) n cap] w fun e w' => e = .returned (.slice (some ⟨w.heap.size, 0, none⟩) n n) ∧ ∃ A' C', Cops (w.heap.size + 1) w.heap.size n S n A' C' G w' ∧ Below w.heap.size w w' := by
  have HCL : Hid (∀ u, Below w.heap.size w u → ∀ i, i < n → Calls Tryz.prog 174 #[.slice (A i) S (C i)] u fun e w' => ∃ g cap, e = .returned (.slice g S cap) ∧ w'.ownsRow u.heap.size 3 1 (.slice g S cap) S (intsL S (G i)) ∧ Below u.heap.size u w') := fun u hu i hi => clone_opt (A i) S (C i) (G i) u ((hI i hi).below hu (hlow i hi)) hS (hz i hi)
  have HCE : Hid (∀ u, Below w.heap.size w u → ∀ i, i < n → u.cell? ⟨b, i, none⟩ = some (.slice (A i) S (C i))) := fun u hu i hi => by
    have h1 := hA i hi
    exact (cellOf (hu.block b (World.block_lt_of_cell? w _ h1))).trans h1
  have hmk := run_make_row' (P := Tryz.prog) 24 30 (.slice none 0 0) 24 Tryz.underlying24 infoInts rfl .i64 .i64 n (by omega) (by omega)
  have HB0 : Hid (Below w.heap.size w (w.alloc (.cells (madeCells #[.slice none 0 0] n) 30))) := (Below.refl _ _).alloc (Nat.le_refl _) _
  have HC0 : Hid (Cops (w.heap.size + 1) w.heap.size n S 0 (fun _ => none) (fun _ => 0) G (w.alloc (.cells (madeCells #[.slice none 0 0] n) 30))) := ⟨(World.rowIs_made w (.slice none 0 0) n 30).congr fun i _ => by rw [if_neg (by omega)], fun i hi => absurd hi (Nat.not_lt_zero i)⟩
  clear hA hI hlow hz
  go_enter Tryz.func102, Tryz.ntmps102
  go_wp2
  clear hmk
  go_loopw [11] (fun s11 wr => ∃ q : Nat, ∃ A' : Nat → Option Addr, ∃ C' : Nat → Nat, q ≤ n ∧ s11 = .int .i64 q ∧ Hid (Cops (w.heap.size + 1) w.heap.size n S q A' C' G wr ∧ Below w.heap.size w wr ∧ w.heap.size + 1 ≤ wr.heap.size)) (fun s11 _ => n - (intOf s11).toNat)
  case atStart => exact ⟨0, _, _, Nat.zero_le _, rfl, HC0.out, HB0.out, by simp⟩
  case round =>
    obtain ⟨q, A', C', hq, rfl, HI⟩ := hrel
    by_cases hlt : q < n
    · have c1 := HCE.out wr HI.out.2.1 q hlt
      have HA := Hid.mk' (HCL.out wr HI.out.2.1 q hlt)
      have HNX : Hid (∀ (u : World) (g : Option Addr) (cap : Nat), u.ownsRow wr.heap.size 3 1 (.slice g S cap) S (intsL S (G q)) → Below wr.heap.size wr u → u.cell? ⟨w.heap.size, q, none⟩ = some (.slice none 0 0) ∧ u.frozen? ⟨w.heap.size, q, none⟩ = false ∧
          Cops (w.heap.size + 1) w.heap.size n S (q + 1) (fun i => if i = q then g else A' i) (fun i => if i = q then cap else C' i) G (u.setCell ⟨w.heap.size, q, none⟩ (.slice g S cap)) ∧ Below w.heap.size w (u.setCell ⟨w.heap.size, q, none⟩ (.slice g S cap)) ∧ w.heap.size + 1 ≤ (u.setCell ⟨w.heap.size, q, none⟩ (.slice g S cap)).heap.size) := fun u g cap ho hb => by
        have hk := HI.out.1.keep hb
        have hsz := HI.out.2.2
        have e5 := Edit.one u w.heap.size q (.slice g S cap)
        refine ⟨?_, hk.row.frozen q, ⟨(hk.row.set q _).congr fun i _ => ?_, fun i hi => ?_⟩, (HI.out.2.1.trans (hb.mono HI.out.2.1.size)).setCell (Nat.le_refl _) _, ?_⟩
        · have := hk.row.cell hlt
          rw [if_neg (Nat.lt_irrefl q)] at this
          exact this
        · by_cases e : i = q
          · rw [if_pos e, if_pos (by omega), if_pos e, if_pos e]
          · rw [if_neg e]
            by_cases e2 : i < q
            · rw [if_pos e2, if_pos (by omega), if_neg e, if_neg e]
            · rw [if_neg e2, if_neg (by omega)]
        · by_cases e : i = q
          · subst e
            simp only [if_true]
            exact own_base (shOwn ho e5 fun g' hg' hh => by have := own_low ho g' hg'; omega) hsz
          · simp only [if_neg e]
            exact shOwn (hk.own i (by omega)) e5 fun g' hg' hh => by have := own_low (hk.own i (by omega)) g' hg'; omega
        · exact Nat.le_trans (Nat.le_trans hsz hb.size) e5.size
      go_wp2_with (go_at_call 174; refine HA.out.mono ?_; rintro e u ⟨g, cap2, rfl, ho, hb⟩; obtain ⟨z1, z2, z3⟩ := HNX.out u g cap2 ho hb; have HZ := Hid.mk' z3; clear ho hb z3 HA HNX)
      go_roundw
      case rel => exact ⟨q + 1, _, _, by omega, by go_num, HZ.out⟩
      case measure => simp [intOf]; omega
    · have e : q = n := by omega
      subst e
      go_wp2
      go_ret
      exact ⟨rfl, A', C', HI.out.1, HI.out.2.1⟩
end Go.Proofs.YtlncjgnomhpjnabGreatDoor

