import Derived.Test.YtlncjgnomhpjnabGreatDoorQC17
import Derived.Deep.RegionWith
import Derived.ProofKit
import Derived.OpenShut
import Derived.SizedLaws
import Derived.Deep.Matrix
import Derived.Test.YtlncjgnomhpjnabGreatDoorQC5
import Derived.Conc.LoneCalls
import Derived.Orders
import Derived.Deep.QuietTactic
import Derived.Conc.SmallLaws
import Derived.Conc.EventLaws
import Derived.Test.YtlncjgnomhpjnabGreatDoorQC0
namespace Go.Proofs.YtlncjgnomhpjnabGreatDoor
open Go.Value renaming int → O
open Go.IntKind renaming i64 → I
open Go.Proofs.Tryz (prog)
open Go.RowKit Go.Deep
set_option linter.unusedVariables false
structure SoundIn (w:World) (a:Option Addr) (n cap:Nat) (A:Nat->Option Addr) (L C:Nat->Nat) (F:Nat->Nat->Int):Prop where
 nil:a=none->n=0/\cap=0
 hn:n<=5864062014805
 hL:∀ i,i < n->L i<=17592186044416
 hA:ListsAt w a n A L C
 hI:∀ i,i < n->IntsAt w (A i) (L i) (F i)
 low:Low w.heap.size a n A L
 no:∀ i,i < n->A i=none->L i=0/\C i=0
 room:∀ i,i < n->L i<=C i
theorem SoundIn.below {w w':World} {a:Option Addr} {n cap:Nat} {A:Nat->Option Addr} {L C:Nat->Nat} {F:Nat->Nat->Int} (h:SoundIn w a n cap A L C F) (hb:Below w.heap.size w w'):SoundIn w' a n cap A L C F :=
 ⟨h.nil,h.hn,h.hL,h.hA.below hb h.low.1,fun i hi=>(h.hI i hi).below hb (h.low.2 i hi),⟨fun x hx h0=>Nat.lt_of_lt_of_le (h.low.1 x hx h0) hb.size,fun i hi x hx h0=>Nat.lt_of_lt_of_le (h.low.2 i hi x hx h0) hb.size⟩,h.no,h.room⟩
end Go.Proofs.YtlncjgnomhpjnabGreatDoor
namespace Go.Proofs.YtlncjgnomhpjnabGreatDoor
open Go.Value renaming int → O
open Go.IntKind renaming i64 → I
open Go.Proofs.Tryz (prog)
open Go.ChangeShapes Go.WideShapes Go.ChangeAt Go.RowKit Go.Deep
theorem y5X:Tryz.prog.cellsOf 23=8:=by kernel_rfl
theorem y1w:Tryz.prog.cellsOf 3=1:=by kernel_rfl
theorem y3Z:Tryz.prog.cellsOf 30=1:=by kernel_rfl
theorem y5Y:Tryz.prog.bytesOf 3=8:=by kernel_rfl
theorem y4a:Tryz.prog.bytesOf 30=24:=by kernel_rfl
theorem y8s {α:Type} {cs:Array α} (h:cs.size=8):∃ c0 c1 c2 c3 c4 c5 c6 c7,cs=#[c0,c1,c2,c3,c4,c5,c6,c7]:=by
 obtain ⟨l⟩:=cs
 match l,h with
 | [c0,c1,c2,c3,c4,c5,c6,c7],_=>exact ⟨c0,c1,c2,c3,c4,c5,c6,c7,rfl⟩
theorem z6b {H:Type} {P:Program} {e:TypeId} {d:DataW H}:∀ {l:List (DataW H)},d ∈ l->∀ n ∈ d.weights P e,n ∈ DataW.weightsAll P e l
 | x :: l,hd,n,hn=>by
  simp only [DataW.weightsAll,List.mem_append];cases List.mem_cons.1 hd with
  | inl h=>subst h;exact Or.inl hn
  | inr h=>exact Or.inr (z6b h n hn)
end Go.Proofs.YtlncjgnomhpjnabGreatDoor
namespace Go.Proofs.YtlncjgnomhpjnabGreatDoor
open Go.Value renaming int → O
open Go.IntKind renaming i64 → I
open Go.Proofs.Tryz (prog)
open Go.ChangeShapes Go.WideShapes Go.ChangeAt Go.RowKit Go.Deep
set_option linter.unusedVariables false
set_option maxRecDepth 100000 in
theorem y4b {H:Type} {enc:TypeId × Value->H} {W:World} {base:Nat} {v:Value} {d:DataW H} {p:List MemPlace}
 (hv:Value.okWide Tryz.prog W .any base 23 v) (h:DataW.Trod enc Tryz.prog W 0 (fun _=>true) true 23 v d p) :
 ∃ c0 c1 c2 c3 c4 c5 c6 c7:Int,v=.agg #[.int .i64 c0,.int .i64 c1,.int .i64 c2,.int .i64 c3,.int .i64 c4,.int .i64 c5,.int .i64 c6,.int .i64 c7]/\(-9223372036854775808<=c3/\c3<=9223372036854775807)/\(-9223372036854775808<=c4/\c4<=9223372036854775807):=by
 obtain ⟨cs,rfl,hsz⟩:=okWide_struct Tryz.underlying23 hv;obtain ⟨v0,v1,v2,v3,v4,v5,v6,v7,rfl⟩:=y8s (hsz.trans y5X);obtain ⟨fuel,hf⟩:=h;obtain ⟨xs,n,_,_,_,hlen,hfs⟩:=DataW.trod_struct Tryz.underlying23 hf;have hg:∀ i,i < 8->∃ y,xs[i]?=some y:=fun i hi=>⟨_,List.getElem?_eq_getElem (by rw [hlen];exact hi)⟩
 have h0:=hfs 0 _ rfl;have h1:=hfs 1 _ rfl;have h2:=hfs 2 _ rfl;have h3:=hfs 3 _ rfl;have h4:=hfs 4 _ rfl;have h5:=hfs 5 _ rfl;have h6:=hfs 6 _ rfl;have h7:=hfs 7 _ rfl;obtain ⟨y0,e0⟩:=hg 0 (by omega);obtain ⟨y1,e1⟩:=hg 1 (by omega);obtain ⟨y2,e2⟩:=hg 2 (by omega);obtain ⟨y3,e3⟩:=hg 3 (by omega);obtain ⟨y4,e4⟩:=hg 4 (by omega);obtain ⟨y5,e5⟩:=hg 5 (by omega);obtain ⟨y6,e6⟩:=hg 6 (by omega);obtain ⟨y7,e7⟩:=hg 7 (by omega);obtain ⟨c0,k0,_⟩:=DataW.trod_int Tryz.underlying3 (h0.trans e0);obtain ⟨c1,k1,_⟩:=DataW.trod_int Tryz.underlying3 (h1.trans e1);obtain ⟨c2,k2,_⟩:=DataW.trod_int Tryz.underlying3 (h2.trans e2);obtain ⟨c3,k3,_,r3⟩:=DataW.trod_int Tryz.underlying3 (h3.trans e3);obtain ⟨c4,k4,_,r4⟩:=DataW.trod_int Tryz.underlying3 (h4.trans e4);obtain ⟨c5,k5,_⟩:=DataW.trod_int Tryz.underlying3 (h5.trans e5);obtain ⟨c6,k6,_⟩:=DataW.trod_int Tryz.underlying3 (h6.trans e6);obtain ⟨c7,k7,_⟩:=DataW.trod_int Tryz.underlying3 (h7.trans e7);simp [Value.cells,y1w] at k0 k1 k2 k3 k4 k5 k6 k7;exact ⟨c0,c1,c2,c3,c4,c5,c6,c7,by rw [k0,k1,k2,k3,k4,k5,k6,k7],bounds_i64 r3,bounds_i64 r4⟩
set_option maxRecDepth 100000 in
theorem y0t {H:Type} {enc:TypeId × Value->H} {W:World} {a:Option Addr} {n cap:Nat} {d:DataW H} {p:List MemPlace}
 (h:DataW.Trod enc Tryz.prog W 0 (fun _=>true) true 24 (.slice a n cap) d p) (hw:∀ x ∈ d.weights Tryz.prog 24,x<=reachBytes) (hlt:∀ x ∈ p,x.block < W.heap.size) :
 ∃ (A:Nat->Option Addr) (L C:Nat->Nat) (F:Nat->Nat->Int),SoundIn W a n cap A L C F/\∀ i,i < n->∀ j,j < L i->-9223372036854775808<=F i j/\F i j<=9223372036854775807:=by
 obtain ⟨fuel,hf⟩:=h;rcases open_int_rows Tryz.underlying24 Tryz.underlying30 Tryz.underlying3 y3Z y1w hf with ⟨hcs,_⟩ | ⟨x,len,cp,A,L,C,Z,hcs,_,hl,_,hx,hrows⟩
 . simp [Value.cells] at hcs
   obtain ⟨rfl,rfl,rfl⟩:=hcs;exact ⟨fun _=>none,fun _=>0,fun _=>0,fun _ _=>0,⟨fun _=>⟨rfl,rfl⟩,by omega,fun i hi=>absurd hi (by omega),fun i hi=>absurd hi (by omega),fun i hi=>absurd hi (by omega),⟨fun x hx=>(by cases hx),fun i hi=>absurd hi (by omega)⟩,fun i hi=>absurd hi (by omega),fun i hi=>absurd hi (by omega)⟩,fun i hi=>absurd hi (by omega)⟩
 . simp [Value.cells] at hcs
   obtain ⟨rfl,rfl,rfl⟩:=hcs;simp only [Prod.mk.injEq] at hx;obtain ⟨rfl,rfl⟩:=hx;have hn:n<=5864062014805:=by
    have:=hw _ (by simp only [DataW.weights,Tryz.underlying24];exact List.mem_cons_self);simp only [List.length_map,List.length_range,y4a,reachBytes] at this;omega
   have hwi:∀ i,i < n->A i ≠ none->L i<=17592186044416:=fun i hi hA=>by
    obtain ⟨_,hLC,_,hZ,_⟩:=hrows i (by omega);cases hAi:A i with
    | none=>exact absurd hAi hA
    | some y =>
     have hm:(DataW.slice (lits .i64 ((Z i).take (L i))) (lits .i64 ((Z i).drop (L i))):DataW H) ∈ (List.range n).map fun r=>intRow .i64 (A r) (L r) (Z r) :=
      List.mem_map.2 ⟨i,List.mem_range.2 hi,by simp [intRow,hAi]⟩
     have:=hw (((lits (H:=H) .i64 ((Z i).take (L i))).length+(lits (H:=H) .i64 ((Z i).drop (L i))).length) * Tryz.prog.bytesOf 3) (by
      simp only [DataW.weights,Tryz.underlying24];refine List.mem_cons_of_mem _ (List.mem_append_left _ (z6b hm _ ?_));simp only [DataW.weights,Tryz.underlying30];exact List.mem_cons_self)
     simp only [lits,List.length_map,List.length_take,List.length_drop,y5Y,reachBytes] at this;omega
   refine ⟨A,L,C,fun i j=>(Z i).getD j 0,⟨fun hx=>(by cases hx),hn,fun i hi=>?_,fun i hi=>?_,fun i hi j hj=>?_,⟨fun y hy h0=>?_,fun i hi y hy h0=>?_⟩,fun i hi hA=>?_,fun i hi=>(hrows i (by omega)).2.1⟩,fun i hi j hj=>?_⟩
   . by_cases hA:A i=none
     . obtain ⟨_,hLC,_,_,_,hN,_⟩:=hrows i (by omega)
       have:=hN hA;omega
     . exact hwi i hi hA
   . exact ⟨x,rfl,(hrows i (by omega)).1⟩
   . obtain ⟨_,hLC,_,_,_,hN,hc⟩:=hrows i (by omega)
     cases hAi:A i with
     | none=>have:=hN hAi;omega
     | some y=>exact ⟨y,rfl,(hc y hAi).2 j (by omega)⟩
   . cases hy
     exact World.block_lt_of_cell? W _ (hrows 0 (by omega)).1 |> fun h=>by simpa [Addr.add] using h
   . obtain ⟨_,hLC,_,_,_,_,hc⟩:=hrows i (by omega)
     exact World.block_lt_of_cell? W _ ((hc y hy).2 0 (by omega)) |> fun h=>by simpa [Addr.add] using h
   . obtain ⟨_,hLC,_,_,_,hN,_⟩:=hrows i (by omega)
     have:=hN hA;omega
   . obtain ⟨_,hLC,_,hZ,hwf,_⟩:=hrows i (by omega)
     have hlt:j < (Z i).length:=by omega
     refine bounds_i64 (hwf _ ?_)
     show (Z i).getD j 0 ∈ Z i
     rw [List.getD_eq_getElem?_getD,List.getElem?_eq_getElem hlt];exact List.getElem_mem hlt
end Go.Proofs.YtlncjgnomhpjnabGreatDoor
namespace Go.Proofs.YtlncjgnomhpjnabGreatDoor
open Go.Value renaming int → O
open Go.IntKind renaming i64 → I
open Go.Proofs.Tryz (prog)
open Go.RowKit Go.Deep Go.Conc
set_option linter.unusedVariables false
def ords (md:Region.Mode) (ops:Array Oper):Nat->Array Bool->List (List Nat)
 | 0,_=>[[]]
 | f+1,listed=>match Region.ready md ops listed with
  | []=>[[]]
  | i :: r=>(i :: r).flatMap fun i=>(ords md ops f (listed.setIfInBounds i true)).map (i :: ·)
theorem y5Z (md:Region.Mode) (ops:Array Oper):∀ (fuel t:Nat) (listed:Array Bool),Region.linearise.go md ops fuel t listed [] ∈ ords md ops fuel listed:=by
 intro fuel
 induction fuel with
 | zero=>intro t listed;simp [Region.linearise.go,ords]
 | succ fuel ih =>
  intro t listed;simp only [Region.linearise.go]
  change (match (Region.ready md ops listed)[t % (Region.ready md ops listed).length]? with
   | some i=>Region.linearise.go md ops fuel (t / (Region.ready md ops listed).length) (listed.setIfInBounds i true) [i]
   | none=>[].reverse) ∈ _
  unfold ords;cases hr:Region.ready md ops listed with
  | nil=>simp
  | cons x xs =>
   simp only [];have hlt:t % (x :: xs).length < (x :: xs).length:=Nat.mod_lt _ (by simp);rw [List.getElem?_eq_getElem hlt];simp only [];rw [linearise_go_acc,List.reverse_singleton,List.singleton_append];exact List.mem_flatMap.2 ⟨_,List.getElem_mem hlt,List.mem_map.2 ⟨_,ih _ _,rfl⟩⟩
theorem y2t {P:Program} {main:Bool} {ops:Array Oper} {b:Frame} {a:Act} {k:List Item} {cs:List Frame} {w:World} {id:Nat} :
 stepG P main (G (b.at a (.code (.region id ops true) :: k)) cs) w =
  .go (G (b.at a (.inRegion ops (Region.schedule (P.follows .mixedOrders) ops (w.tape w.drawn (.order b.fn id))) :: k)) cs) { w with drawn:=w.drawn+1 }:=by
 simp [G,stepG,stepG.exec,Frame.at,choose,Sem.run,Question.forced,Question.cut]
theorem y4c {P:Program} (hm:P.follows .mixedOrders=true) (ops:Array Oper) (t:Nat):Region.schedule (P.follows .mixedOrders) ops t ∈ ords .any ops ops.size (Array.replicate ops.size false):=by
 simp only [Region.schedule,hm,Bool.true_or,if_true];exact y5Z .any ops ops.size t _
theorem z6c {P:Program} {Q:Goroutine->World->Prop} {ops:Array Oper} {b:Frame} {a:Act} {k:List Item} {cs:List Frame} {w:World} {id:Nat} (hm:P.follows .mixedOrders=true) (L:List (List Nat)) (hL:ords .any ops ops.size (Array.replicate ops.size false)=L)
 (h:∀ l ∈ L,LoneTo P Q (G (b.at a (.inRegion ops l :: k)) cs) { w with drawn:=w.drawn+1 }):LoneTo P Q (G (b.at a (.code (.region id ops true) :: k)) cs) w :=
 LoneTo.step (step_solo_go rfl y2t) (h _ (hL ▸ y4c hm ops _))
theorem mixed:prog.follows .mixedOrders=true:=by kernel_rfl
structure Edit (S:Nat->Prop) (w w':World):Prop where
 os:w'.os=w.os
 tape:w'.tape=w.tape
 output:w'.output=w.output
 size:w.heap.size<=w'.heap.size
 block:∀ k,k < w.heap.size->¬ S k->w'.heap[k]?=w.heap[k]?
theorem Edit.refl (S:Nat->Prop) (w:World):Edit S w w:=⟨rfl,rfl,rfl,Nat.le_refl _,fun _ _ _=>rfl⟩
theorem Edit.trans {S:Nat->Prop} {a b c:World} (h:Edit S a b) (k:Edit S b c):Edit S a c :=
 ⟨k.os.trans h.os,k.tape.trans h.tape,k.output.trans h.output,Nat.le_trans h.size k.size,fun i hi hs=>(k.block i (Nat.lt_of_lt_of_le hi h.size) hs).trans (h.block i hi hs)⟩
theorem Edit.mono {S T:Nat->Prop} {a b:World} (h:Edit S a b) (hT:∀ k,S k->T k):Edit T a b:=⟨h.os,h.tape,h.output,h.size,fun k hk hs=>h.block k hk fun hh=>hs (hT k hh)⟩
theorem Edit.of {S:Nat->Prop} {a b:World} (h:Below a.heap.size a b):Edit S a b:=⟨h.os,h.tape,h.output,h.size,fun k hk _=>h.block k hk⟩
theorem Edit.below {S:Nat->Prop} {a b:World} (h:Edit S a b) {B:Nat} (hB:B<=a.heap.size) (hS:∀ k,S k->B<=k):Below B a b:=⟨h.os,h.tape,h.output,h.size,fun k hk=>h.block k (Nat.lt_of_lt_of_le hk hB) fun hh=>absurd (hS k hh) (by omega)⟩
theorem Bx.edit {w w':World} {b:Nat} {t:TypeId} {cs:Array Value} {S:Nat->Prop} (h:Bx w b t cs) (he:Edit S w w') (hS:¬ S b):Bx w' b t cs:=h.of (he.block _ h.lt hS)
theorem Edit.chan (w:World) (c cap:Nat) (buf:Array Value) (cl:Bool) (s r:Nat) (tm:Bool):Edit (·=c) w (w.setChan c cap buf cl s r tm) :=
 ⟨rfl,rfl,rfl,by simp [World.setChan],fun k hk hs=>by simp only [World.setChan];rw [Array.getElem?_setIfInBounds_ne (fun e=>hs e.symm)]⟩
theorem Edit.row {S:Nat->Prop} {a b:World} (h:Edit S a b) {g:Nat} (hg:a.heap.size<=g) (ds:Array Value):Edit S a (b.setRow g ds):=by
 have hb:=below_setRow (B:=a.heap.size) (g:=g) (Below.refl _ b) hg ds;exact ⟨hb.os.trans h.os,hb.tape.trans h.tape,hb.output.trans h.output,Nat.le_trans h.size hb.size,fun k hk hs=>(hb.block k hk).trans (h.block k hk hs)⟩
theorem Bx.free {w:World} {b:Nat} {t:TypeId} {cs:Array Value} (h:Bx w b t cs) (j:Nat):w.frozen? ⟨b,j,none⟩=false:=by simp [World.frozen?,show w.heap[b]?=_ from h]
theorem Bx.set {w:World} {b:Nat} {t:TypeId} {cs:Array Value} (h:Bx w b t cs) (j:Nat) (v:Value):Bx (w.setCell ⟨b,j,none⟩ v) b t (cs.setIfInBounds j v):=by
 simp [Bx,World.setCell,Array.getElem?_modify,show w.heap[b]?=_ from h]
theorem Bx.past {w:World} {b g:Nat} {t:TypeId} {cs:Array Value} (h:Bx w b t cs) (hb:b ≠ g) (j:Nat) (v:Value):Bx (w.setCell ⟨g,j,none⟩ v) b t cs:=h.of (blk_setCell_other _ _ _ _ hb)
theorem Edit.cell {S:Nat->Prop} {a b:World} (h:Edit S a b) {g:Nat} (hg:S g∨a.heap.size<=g) (j:Nat) (v:Value):Edit S a (b.setCell ⟨g,j,none⟩ v) :=
 ⟨h.os,h.tape,h.output,by simpa using h.size,fun k hk hs=>(blk_setCell_other _ _ _ _ (by rintro rfl;rcases hg with hg | hg;exact hs hg;exact absurd hk (by simpa using hg))).trans (h.block k hk hs)⟩
theorem Edit.drewN {S:Nat->Prop} {a b:World} (h:Edit S a b) (n:Nat):Edit S a (b.drewN n):=⟨h.os,h.tape,h.output,h.size,h.block⟩
theorem Edit.alloc {S:Nat->Prop} {a b:World} (h:Edit S a b) (o:Obj):Edit S a (b.alloc o):=h.trans (Edit.of ((Below.refl _ b).alloc zY o))
structure QIs (w:World) (q c:Nat) (t:TypeId) (cap:Nat) (buf:Array Value) (cl:Bool):Prop where
 cells:Bx w q t #[.chan (some c),.bool cl]
 chan:∃ s r,w.heap[c]?=some (.chan cap buf cl s r false)
theorem QIs.edit {w w':World} {q c:Nat} {t:TypeId} {cap:Nat} {buf:Array Value} {cl:Bool} {S:Nat->Prop} (h:QIs w q c t cap buf cl) (he:Edit S w w') (hq:¬ S q) (hc:¬ S c):QIs w' q c t cap buf cl:=by
 obtain ⟨s,r,hch⟩:=h.chan;exact ⟨h.cells.edit he hq,s,r,(he.block _ (Array.getElem?_eq_some_iff.1 hch).1 hc).trans hch⟩
theorem QIs.row {w:World} {q c:Nat} {t:TypeId} {cap:Nat} {buf:Array Value} {cl:Bool} (h:QIs w q c t cap buf cl) {g B:Nat} (hq:q < B) (hc:c < B/\B<=g) (ds:Array Value):QIs (w.setRow g ds) q c t cap buf cl:=by
 obtain ⟨s,r,hch⟩:=h.chan;exact ⟨h.cells.other (by omega) ds,s,r,(setRow_other w g c ds (by omega)).trans hch⟩
theorem QIs.ne {w:World} {q c:Nat} {t:TypeId} {cap:Nat} {buf:Array Value} {cl:Bool} (h:QIs w q c t cap buf cl):q ≠ c:=by
 rintro rfl;obtain ⟨s,r,hch⟩:=h.chan;have:=h.cells;unfold Bx at this;rw [this] at hch;cases hch
theorem z0J {P:Program} {w:World} {o:Oper} {a:Act} {K:Act->World->Prop} (p v:Operand) (t:TypeId) (ho:o.op=.store t p v)
 (g:Nat) (tt:TypeId) (old cells:Array Value) (hp:a.eval p=.pointer (some ⟨g,0,none⟩)) (hv:a.eval v=.agg cells) (hg:w.heap[g]?=some (.cells old tt (0,0))) (hi:(P.info? t).map (·.size)=some cells.size)
 (hs:old.size=cells.size) (h1:cells.toList.all (·.oneCell')=true) (h:K (a.put o.dst undef) (w.setRow g cells)):uponK o a K ((execOp a.eval o).run P w):=by
 have hr:=run_storeVar_row (P:=P) w g tt t old cells hg hi hs (by rw [← Array.all_toList];exact h1);have e:(Instr.storeAt t (.pointer (some ⟨g,0,none⟩)) (.agg cells)).run P w=.ok () (w.setRow g cells):=by simpa [Instr.storeAt,Instr.sureAddr,asAddr] using hr
 unfold execOp;simp only [ho,hp,hv,Sem.run_bind,e,Result.andThen,Sem.run_pure];exact h
theorem z1T {P:Program} {w:World} {o:Oper} {a:Act} {K:Act->World->Prop} (p:Operand) (t:TypeId) (ho:o.op=.load t p)
 (g:Nat) (tt:TypeId) (cs:Array Value) (fr:Nat × Nat) (d:TypeDesc) (hp:a.eval p=.pointer (some ⟨g,0,none⟩)) (hg:w.heap[g]?=some (.cells cs tt fr)) (hu:P.underlying t=some d)
 (hd:(match d with | .struct _ | .array _ _=>true | _=>false)=true) (hi:(P.info? t).map (·.size)=some cs.size) (h:K (a.put o.dst (.agg cs)) w):uponK o a K ((execOp a.eval o).run P w):=by
 have hr:=run_loadVar_row (P:=P) w g tt t cs fr d hg hu hd hi;have e:(Instr.loadAt t (.pointer (some ⟨g,0,none⟩))).run P w=.ok (.agg cs) w:=by simpa [Instr.loadAt,Instr.sureAddr,asAddr] using hr
 unfold execOp;simp only [ho,hp,Sem.run_bind,e,Result.andThen,Sem.run_pure];exact h
set_option maxRecDepth 100000 in
theorem z9g (q c cap:Nat) (buf:Array Value) (b0 b1:Value) (w:World) (hq:QIs w q c 247 cap buf false) (hroom:buf.size < cap) (ho:b0.oneCell'=true/\b1.oneCell'=true) :
 Calls prog 381 #[.pointer (some ⟨q,0,none⟩),.agg #[b0,b1]] w fun e w'=>e=.returned (.tuple #[])/\QIs w' q c 247 cap (buf.push (.agg #[b0,b1])) false/\Edit (·=c) w w':=by
 refine calls_of_loneTo fun cs=>?_
 have e:Frame.enter prog 381 #[.pointer (some ⟨q,0,none⟩),.agg #[b0,b1]] .normal=(base 381).at ⟨#[.pointer (some ⟨q,0,none⟩),.agg #[b0,b1],undef,undef,undef,undef,undef,undef,undef],[]⟩ [.code (Tryz.f381.body.getD .skip)]:=by
  simp [Frame.enter,Frame.at,Tryz.func381,base,Tryz.f381]
 rw [e];clear e;refine LoneTo.goes (n:=4) ?_;simp only [Tryz.f381,Option.getD_some]
 s_c stepG_seq
 s_reg
 s_op
 s_c stepG_region_end
 s_stop
 refine z6c mixed [[0,1,2,3,4,5],[0,1,2,4,3,5],[0,1,4,2,3,5],[0,4,1,2,3,5],[4,0,1,2,3,5]] (by kernel_rfl) ?_;obtain ⟨s,r,hc⟩:=hq.chan;have hlt:=(Array.getElem?_eq_some_iff.1 hc).1;obtain ⟨w1,hw1⟩:∃ w1:World,w1={ w.alloc (.cells #[b0,b1] 145) with drawn:=w.drawn+1 }:=⟨_,rfl⟩;have he1:Edit (·=c) w w1:=by
  subst hw1;have hb:=(Below.refl w.heap.size w).alloc zY (.cells #[b0,b1] 145);exact Edit.of ⟨hb.os,hb.tape,hb.output,hb.size,hb.block⟩
 have hq1:Bx w1 q 247 #[.chan (some c),.bool false]:=hq.cells.edit he1 hq.ne;have hq10:=hq1.cell 0;have hc1:w1.heap[c]?=some (.chan cap buf false s r false):=by subst hw1;simpa [blk_alloc_lt _ _ _ hlt] using hc
 have hb1:Bx w1 w.heap.size 145 #[b0,b1]:=by subst hw1;exact Bx.new w _ _
 have hb10:=hb1.cell 0;have hb11:=hb1.cell 1;simp at hb10 hb11 hq10;rw [show ({ heap:=(w.alloc (.cells #[b0,b1] 145)).heap,tape:=(w.alloc (.cells #[b0,b1] 145)).tape,drawn:=(w.alloc (.cells #[b0,b1] 145)).drawn+1,os:=(w.alloc (.cells #[b0,b1] 145)).os,output:=(w.alloc (.cells #[b0,b1] 145)).output }:World)=w1 from hw1.symm];have HQ:=zZ hq;have HQ1:=zZ hq1;have HE1:=zZ he1;clear hw1 hq hq1 hb1 he1 hc;intro l hl;simp only [List.mem_cons,List.not_mem_nil,or_false] at hl;rcases hl with rfl | rfl | rfl | rfl | rfl
 all_goals
  refine LoneTo.goes (n:=5) ?_
  s_op
  s_op
  s_op
  s_op
  s_op
  s_stop
  refine LoneTo.step (step_lone_send_room (c:=c) (cap:=cap) (buf:=buf) (s:=s) (r:=r) (tm:=false) (stepG_comm (cases:=#[scase c (.agg #[b0,b1]) (.tuple #[])]) (blocking:=true) (shape:=.send) (w':=w1) rfl rfl (by decide) (by simp [execOp,scase,Act.eval])) hc1 hroom) ?_;rw [Frame.finish_at]
  walk_nrm
  refine LoneTo.goes (n:=2) ?_
  s_c stepG_region_end
  s_c stepG_end
  s_stop
  refine LoneTo.done ⟨.returned (.tuple #[]),_,rfl,⟨rfl,⟨HQ1.out.edit (Edit.chan _ _ _ _ _ _ _ _) HQ.out.ne,s+1,r,heap_setChan _ _ _ _ _ _ _ _ (Array.getElem?_eq_some_iff.1 hc1).1⟩,HE1.out.trans (Edit.chan _ _ _ _ _ _ _ _)⟩,rfl,rfl,rfl,rfl,_,Tryz.func381,by simp [results,Tryz.f381,Frame.at]⟩
set_option maxRecDepth 100000 in
theorem y2u (q c cap:Nat) (buf:Array Value) (b0 b1:Value) (w:World) (hq:QIs w q c 250 cap buf false) (hroom:buf.size < cap) (ho:b0.oneCell'=true/\b1.oneCell'=true) :
 Calls prog 415 #[.pointer (some ⟨q,0,none⟩),.agg #[b0,b1]] w fun e w'=>e=.returned (.tuple #[])/\QIs w' q c 250 cap (buf.push (.agg #[b0,b1])) false/\Edit (·=c) w w':=by
 refine calls_of_loneTo fun cs=>?_
 have e:Frame.enter prog 415 #[.pointer (some ⟨q,0,none⟩),.agg #[b0,b1]] .normal=(base 415).at ⟨#[.pointer (some ⟨q,0,none⟩),.agg #[b0,b1],undef,undef,undef,undef,undef,undef,undef],[]⟩ [.code (Tryz.f415.body.getD .skip)]:=by
  simp [Frame.enter,Frame.at,Tryz.func415,base,Tryz.f415]
 rw [e];clear e;refine LoneTo.goes (n:=4) ?_;simp only [Tryz.f415,Option.getD_some]
 s_c stepG_seq
 s_reg
 s_op
 s_c stepG_region_end
 s_stop
 refine z6c mixed [[0,1,2,3,4,5],[0,1,2,4,3,5],[0,1,4,2,3,5],[0,4,1,2,3,5],[4,0,1,2,3,5]] (by kernel_rfl) ?_;obtain ⟨s,r,hc⟩:=hq.chan;have hlt:=(Array.getElem?_eq_some_iff.1 hc).1;obtain ⟨w1,hw1⟩:∃ w1:World,w1={ w.alloc (.cells #[b0,b1] 149) with drawn:=w.drawn+1 }:=⟨_,rfl⟩;have he1:Edit (·=c) w w1:=by
  subst hw1;have hb:=(Below.refl w.heap.size w).alloc zY (.cells #[b0,b1] 149);exact Edit.of ⟨hb.os,hb.tape,hb.output,hb.size,hb.block⟩
 have hq1:Bx w1 q 250 #[.chan (some c),.bool false]:=hq.cells.edit he1 hq.ne;have hq10:=hq1.cell 0;have hc1:w1.heap[c]?=some (.chan cap buf false s r false):=by subst hw1;simpa [blk_alloc_lt _ _ _ hlt] using hc
 have hb1:Bx w1 w.heap.size 149 #[b0,b1]:=by subst hw1;exact Bx.new w _ _
 have hb10:=hb1.cell 0;have hb11:=hb1.cell 1;simp at hb10 hb11 hq10;rw [show ({ heap:=(w.alloc (.cells #[b0,b1] 149)).heap,tape:=(w.alloc (.cells #[b0,b1] 149)).tape,drawn:=(w.alloc (.cells #[b0,b1] 149)).drawn+1,os:=(w.alloc (.cells #[b0,b1] 149)).os,output:=(w.alloc (.cells #[b0,b1] 149)).output }:World)=w1 from hw1.symm];have HQ:=zZ hq;have HQ1:=zZ hq1;have HE1:=zZ he1;clear hw1 hq hq1 hb1 he1 hc;intro l hl;simp only [List.mem_cons,List.not_mem_nil,or_false] at hl;rcases hl with rfl | rfl | rfl | rfl | rfl
 all_goals
  refine LoneTo.goes (n:=5) ?_
  s_op
  s_op
  s_op
  s_op
  s_op
  s_stop
  refine LoneTo.step (step_lone_send_room (c:=c) (cap:=cap) (buf:=buf) (s:=s) (r:=r) (tm:=false) (stepG_comm (cases:=#[scase c (.agg #[b0,b1]) (.tuple #[])]) (blocking:=true) (shape:=.send) (w':=w1) rfl rfl (by decide) (by simp [execOp,scase,Act.eval])) hc1 hroom) ?_;rw [Frame.finish_at]
  walk_nrm
  refine LoneTo.goes (n:=2) ?_
  s_c stepG_region_end
  s_c stepG_end
  s_stop
  refine LoneTo.done ⟨.returned (.tuple #[]),_,rfl,⟨rfl,⟨HQ1.out.edit (Edit.chan _ _ _ _ _ _ _ _) HQ.out.ne,s+1,r,heap_setChan _ _ _ _ _ _ _ _ (Array.getElem?_eq_some_iff.1 hc1).1⟩,HE1.out.trans (Edit.chan _ _ _ _ _ _ _ _)⟩,rfl,rfl,rfl,rfl,_,Tryz.func415,by simp [results,Tryz.f415,Frame.at]⟩
set_option maxRecDepth 100000 in
theorem z6W (q c cap:Nat) (buf:Array Value) (cl:Bool) (b0 b1:Value) (w:World) (hq:QIs w q c 247 cap buf cl) (h0:buf[0]?=some (.agg #[b0,b1])) (ho:b0.oneCell'=true/\b1.oneCell'=true) :
 Calls prog 385 #[.pointer (some ⟨q,0,none⟩)] w fun e w'=>e=.returned (.tuple #[.agg #[b0,b1],.bool true])/\QIs w' q c 247 cap (buf.extract 1 buf.size) cl/\Edit (·=c) w w':=by
 refine calls_of_loneTo fun cs=>?_
 have e:Frame.enter prog 385 #[.pointer (some ⟨q,0,none⟩)] .normal=(base 385).at ⟨#[.pointer (some ⟨q,0,none⟩),undef,undef,undef,undef,undef,undef,undef,undef,undef,undef,undef,undef,undef,undef,undef],[]⟩ [.code (Tryz.f385.body.getD .skip)]:=by
  simp [Frame.enter,Frame.at,Tryz.func385,base,Tryz.f385]
 rw [e];clear e;obtain ⟨s,r,hc⟩:=hq.chan;have hlt:=(Array.getElem?_eq_some_iff.1 hc).1;have hltq:=hq.cells.lt;have hpos:0 < buf.size:=(Array.getElem?_eq_some_iff.1 h0).1;have hgd:buf.getD 0 undef=.agg #[b0,b1]:=by simp [Array.getD_eq_getD_getElem?,h0]
 obtain ⟨w1,hw1⟩:∃ w1:World,w1=w.alloc (.cells #[O I 0,.slice none 0 0] 145):=⟨_,rfl⟩;have he1:Edit (·=c) w w1:=by
  subst hw1;exact Edit.of ((Below.refl _ w).alloc zY _)
 have hq1:Bx w1 q 247 #[.chan (some c),.bool cl]:=hq.cells.edit he1 hq.ne;have hq10:=hq1.cell 0;have hc1:w1.heap[c]?=some (.chan cap buf cl s r false):=by subst hw1;simpa [blk_alloc_lt _ _ _ hlt] using hc
 simp at hq10;refine LoneTo.goes (n:=11) ?_;simp only [Tryz.f385,Option.getD_some]
 s_c stepG_seq
 s_reg
 s_op
 s_op
 s_c stepG_region_end
 s_c stepG_seq
 s_reg
 rw [← hw1];have HE1:=zZ he1;have HQ1:=zZ hq1;have HQ:=zZ hq;have HB1:Hid (Bx w1 w.heap.size 145 #[O I 0,.slice none 0 0]):=by rw [hw1];exact Bx.new _ _ _
 have HS1:Hid (w1.heap.size=w.heap.size+1):=zZ (by rw [hw1];simp);clear hq hq1 he1 hw1 hc
 s_op
 s_op
 s_op
 s_op
 s_stop
 refine LoneTo.step (step_lone_recv_buf true (c:=c) (z:=.agg #[O I 0,.slice none 0 0]) (stepG_comm (cases:=#[rcase c (.agg #[O I 0,.slice none 0 0])]) (blocking:=true) (shape:=.recv true) (w':=w1) rfl rfl (by decide) (by simp [go_sem,rcase])) hc1 hpos) ?_;rw [Frame.finish_at];simp only [got,hgd,if_true]
 walk_nrm
 obtain ⟨w2,hw2⟩:∃ w2:World,w2=w1.setChan c cap (buf.extract 1 buf.size) cl s (r+1) false:=⟨_,rfl⟩;rw [← hw2];have HE2:Hid (Edit (·=c) w w2):=zZ (HE1.out.trans (by rw [hw2];exact Edit.chan _ _ _ _ _ _ _ _));have hsz2:w2.heap.size=w.heap.size+1:=by rw [hw2,size_setChan,HS1.out]
 have HB2:Hid (Bx w2 w.heap.size 145 #[O I 0,.slice none 0 0]):=zZ (HB1.out.edit (S:=(·=c)) (by rw [hw2];exact Edit.chan _ _ _ _ _ _ _ _) (show ¬ (w.heap.size=c) by omega));have HC2:Hid (QIs w2 q c 247 cap (buf.extract 1 buf.size) cl):=zZ ⟨HQ.out.cells.edit HE2.out HQ.out.ne,s,r+1,by rw [hw2];exact heap_setChan _ _ _ _ _ _ _ _ (Array.getElem?_eq_some_iff.1 hc1).1⟩;clear hw2 hq10 hc1 HE1 HQ1 HQ HB1 HS1;refine LoneTo.goes (n:=4) ?_
 s_op
 s_op
 s_op
 s_op
 s_stop
 obtain ⟨w3,hw3⟩:∃ w3:World,w3=w2.alloc (.cells #[O I 0,.slice none 0 0] 145):=⟨_,rfl⟩;rw [← hw3];have HE3:Hid (Edit (·=c) w w3):=zZ (HE2.out.trans (by rw [hw3];exact Edit.of ((Below.refl _ w2).alloc zY _)));have hsz3:w3.heap.size=w.heap.size+2:=by rw [hw3,World.size_alloc,hsz2]
 have HB3:Hid (Bx w3 w.heap.size 145 #[O I 0,.slice none 0 0]):=zZ (by rw [hw3];exact HB2.out.alloc _);have HN3:Hid (Bx w3 (w.heap.size+1) 145 #[O I 0,.slice none 0 0]):=zZ (by rw [hw3];rw [← hsz2];exact Bx.new _ _ _);have HC3:Hid (QIs w3 q c 247 cap (buf.extract 1 buf.size) cl):=zZ (by rw [hw3];exact HC2.out.edit (S:=fun _=>False) (Edit.of ((Below.refl _ w2).alloc zY _)) id id);clear hw3 HE2 HB2 HC2 hsz2;refine LoneTo.goes (n:=8) ?_
 s_in
 refine goes_oper_k rfl rfl (by decide) (fun K hK=>?_);refine z0J _ _ 145 rfl (w.heap.size+1) 145 _ #[b0,b1] rfl rfl HN3.out (by kernel_rfl) rfl (by simp [ho.1,ho.2]) (hK _ _ ⟨trivial,?_⟩);clear hK K;obtain ⟨w4,hw4⟩:∃ w4:World,w4=w3.setRow (w.heap.size+1) #[b0,b1]:=⟨_,rfl⟩;have HN4:Hid (Bx w4 (w.heap.size+1) 145 #[b0,b1]):=zZ (by rw [hw4];exact HN3.out.row _);have HB4:Hid (Bx w4 w.heap.size 145 #[O I 0,.slice none 0 0]):=zZ (by rw [hw4];exact HB3.out.other (by omega) _);have HE4:Hid (Edit (·=c) w w4):=zZ (by rw [hw4];exact HE3.out.row (by omega) _);have HC4:Hid (QIs w4 q c 247 cap (buf.extract 1 buf.size) cl):=zZ (by rw [hw4];exact HC3.out.row hltq ⟨hlt,by omega⟩ _);rw [← hw4];clear hw4 HN3 HB3 HE3 HC3
 walk_nrm
 s_op
 s_c stepG_region_end
 s_c stepG_seq
 s_reg
 s_in
 refine goes_oper_k rfl rfl (by decide) (fun K hK=>?_);refine z1T _ 145 rfl (w.heap.size+1) 145 _ (0,0) _ rfl HN4.out Tryz.underlying145 rfl (by kernel_rfl) (hK _ _ ⟨trivial,?_⟩);clear hK K
 walk_nrm
 s_op
 s_in
 refine goes_oper_k rfl rfl (by decide) (fun K hK=>?_);refine z0J _ _ 145 rfl w.heap.size 145 _ #[b0,b1] rfl rfl HB4.out (by kernel_rfl) rfl (by simp [ho.1,ho.2]) (hK _ _ ⟨trivial,?_⟩);clear hK K
 walk_nrm
 s_stop
 obtain ⟨w5,hw5⟩:∃ w5:World,w5=w4.setRow w.heap.size #[b0,b1]:=⟨_,rfl⟩;have HB5:Hid (Bx w5 w.heap.size 145 #[b0,b1]):=zZ (by rw [hw5];exact HB4.out.row _);have HE5:Hid (Edit (·=c) w w5):=zZ (by rw [hw5];exact HE4.out.row (by omega) _);have HC5:Hid (QIs w5 q c 247 cap (buf.extract 1 buf.size) cl):=zZ (by rw [hw5];exact HC4.out.row hltq ⟨hlt,by omega⟩ _);rw [← hw5];clear hw5 HB4 HN4 HE4 HC4;refine LoneTo.goes (n:=3) ?_
 s_op
 s_c stepG_region_end
 s_c stepG_ret'
 s_stop
 refine LoneTo.done ⟨.returned (.tuple #[.agg #[b0,b1],.bool true]),_,rfl,⟨rfl,HC5.out,HE5.out⟩,rfl,rfl,rfl,rfl,_,Tryz.func385,?_⟩;have hl:=run_loadVar_row (P:=prog) w5 w.heap.size 145 145 #[b0,b1] (0,0) _ HB5.out Tryz.underlying145 rfl (by kernel_rfl);simp [results,Tryz.f385,Frame.at,asAddr,hl,Result.andThen]
set_option maxRecDepth 100000 in
theorem y0u (q c cap:Nat) (buf:Array Value) (cl:Bool) (b0 b1:Value) (w:World) (hq:QIs w q c 250 cap buf cl) (h0:buf[0]?=some (.agg #[b0,b1])) (ho:b0.oneCell'=true/\b1.oneCell'=true) :
 Calls prog 394 #[.pointer (some ⟨q,0,none⟩)] w fun e w'=>e=.returned (.tuple #[.agg #[b0,b1],.bool true])/\QIs w' q c 250 cap (buf.extract 1 buf.size) cl/\Edit (·=c) w w':=by
 refine calls_of_loneTo fun cs=>?_
 have e:Frame.enter prog 394 #[.pointer (some ⟨q,0,none⟩)] .normal=(base 394).at ⟨#[.pointer (some ⟨q,0,none⟩),undef,undef,undef,undef,undef,undef,undef,undef,undef,undef,undef,undef,undef,undef,undef],[]⟩ [.code (Tryz.f394.body.getD .skip)]:=by
  simp [Frame.enter,Frame.at,Tryz.func394,base,Tryz.f394]
 rw [e];clear e;obtain ⟨s,r,hc⟩:=hq.chan;have hlt:=(Array.getElem?_eq_some_iff.1 hc).1;have hltq:=hq.cells.lt;have hpos:0 < buf.size:=(Array.getElem?_eq_some_iff.1 h0).1;have hgd:buf.getD 0 undef=.agg #[b0,b1]:=by simp [Array.getD_eq_getD_getElem?,h0]
 obtain ⟨w1,hw1⟩:∃ w1:World,w1=w.alloc (.cells #[O I 0,.string ⟨#[]⟩] 149):=⟨_,rfl⟩;have he1:Edit (·=c) w w1:=by
  subst hw1;exact Edit.of ((Below.refl _ w).alloc zY _)
 have hq1:Bx w1 q 250 #[.chan (some c),.bool cl]:=hq.cells.edit he1 hq.ne;have hq10:=hq1.cell 0;have hc1:w1.heap[c]?=some (.chan cap buf cl s r false):=by subst hw1;simpa [blk_alloc_lt _ _ _ hlt] using hc
 simp at hq10;refine LoneTo.goes (n:=11) ?_;simp only [Tryz.f394,Option.getD_some]
 s_c stepG_seq
 s_reg
 s_op
 s_op
 s_c stepG_region_end
 s_c stepG_seq
 s_reg
 rw [← hw1];have HE1:=zZ he1;have HQ1:=zZ hq1;have HQ:=zZ hq;have HB1:Hid (Bx w1 w.heap.size 149 #[O I 0,.string ⟨#[]⟩]):=by rw [hw1];exact Bx.new _ _ _
 have HS1:Hid (w1.heap.size=w.heap.size+1):=zZ (by rw [hw1];simp);clear hq hq1 he1 hw1 hc
 s_op
 s_op
 s_op
 s_op
 s_stop
 refine LoneTo.step (step_lone_recv_buf true (c:=c) (z:=.agg #[O I 0,.string ⟨#[]⟩]) (stepG_comm (cases:=#[rcase c (.agg #[O I 0,.string ⟨#[]⟩])]) (blocking:=true) (shape:=.recv true) (w':=w1) rfl rfl (by decide) (by simp [go_sem,rcase])) hc1 hpos) ?_;rw [Frame.finish_at];simp only [got,hgd,if_true]
 walk_nrm
 obtain ⟨w2,hw2⟩:∃ w2:World,w2=w1.setChan c cap (buf.extract 1 buf.size) cl s (r+1) false:=⟨_,rfl⟩;rw [← hw2];have HE2:Hid (Edit (·=c) w w2):=zZ (HE1.out.trans (by rw [hw2];exact Edit.chan _ _ _ _ _ _ _ _));have hsz2:w2.heap.size=w.heap.size+1:=by rw [hw2,size_setChan,HS1.out]
 have HB2:Hid (Bx w2 w.heap.size 149 #[O I 0,.string ⟨#[]⟩]):=zZ (HB1.out.edit (S:=(·=c)) (by rw [hw2];exact Edit.chan _ _ _ _ _ _ _ _) (show ¬ (w.heap.size=c) by omega));have HC2:Hid (QIs w2 q c 250 cap (buf.extract 1 buf.size) cl):=zZ ⟨HQ.out.cells.edit HE2.out HQ.out.ne,s,r+1,by rw [hw2];exact heap_setChan _ _ _ _ _ _ _ _ (Array.getElem?_eq_some_iff.1 hc1).1⟩;clear hw2 hq10 hc1 HE1 HQ1 HQ HB1 HS1;refine LoneTo.goes (n:=4) ?_
 s_op
 s_op
 s_op
 s_op
 s_stop
 obtain ⟨w3,hw3⟩:∃ w3:World,w3=w2.alloc (.cells #[O I 0,.string ⟨#[]⟩] 149):=⟨_,rfl⟩;rw [← hw3];have HE3:Hid (Edit (·=c) w w3):=zZ (HE2.out.trans (by rw [hw3];exact Edit.of ((Below.refl _ w2).alloc zY _)));have hsz3:w3.heap.size=w.heap.size+2:=by rw [hw3,World.size_alloc,hsz2]
 have HB3:Hid (Bx w3 w.heap.size 149 #[O I 0,.string ⟨#[]⟩]):=zZ (by rw [hw3];exact HB2.out.alloc _);have HN3:Hid (Bx w3 (w.heap.size+1) 149 #[O I 0,.string ⟨#[]⟩]):=zZ (by rw [hw3];rw [← hsz2];exact Bx.new _ _ _);have HC3:Hid (QIs w3 q c 250 cap (buf.extract 1 buf.size) cl):=zZ (by rw [hw3];exact HC2.out.edit (S:=fun _=>False) (Edit.of ((Below.refl _ w2).alloc zY _)) id id);clear hw3 HE2 HB2 HC2 hsz2;refine LoneTo.goes (n:=8) ?_
 s_in
 refine goes_oper_k rfl rfl (by decide) (fun K hK=>?_);refine z0J _ _ 149 rfl (w.heap.size+1) 149 _ #[b0,b1] rfl rfl HN3.out (by kernel_rfl) rfl (by simp [ho.1,ho.2]) (hK _ _ ⟨trivial,?_⟩);clear hK K;obtain ⟨w4,hw4⟩:∃ w4:World,w4=w3.setRow (w.heap.size+1) #[b0,b1]:=⟨_,rfl⟩;have HN4:Hid (Bx w4 (w.heap.size+1) 149 #[b0,b1]):=zZ (by rw [hw4];exact HN3.out.row _);have HB4:Hid (Bx w4 w.heap.size 149 #[O I 0,.string ⟨#[]⟩]):=zZ (by rw [hw4];exact HB3.out.other (by omega) _);have HE4:Hid (Edit (·=c) w w4):=zZ (by rw [hw4];exact HE3.out.row (by omega) _);have HC4:Hid (QIs w4 q c 250 cap (buf.extract 1 buf.size) cl):=zZ (by rw [hw4];exact HC3.out.row hltq ⟨hlt,by omega⟩ _);rw [← hw4];clear hw4 HN3 HB3 HE3 HC3
 walk_nrm
 s_op
 s_c stepG_region_end
 s_c stepG_seq
 s_reg
 s_in
 refine goes_oper_k rfl rfl (by decide) (fun K hK=>?_);refine z1T _ 149 rfl (w.heap.size+1) 149 _ (0,0) _ rfl HN4.out Tryz.underlying149 rfl (by kernel_rfl) (hK _ _ ⟨trivial,?_⟩);clear hK K
 walk_nrm
 s_op
 s_in
 refine goes_oper_k rfl rfl (by decide) (fun K hK=>?_);refine z0J _ _ 149 rfl w.heap.size 149 _ #[b0,b1] rfl rfl HB4.out (by kernel_rfl) rfl (by simp [ho.1,ho.2]) (hK _ _ ⟨trivial,?_⟩);clear hK K
 walk_nrm
 s_stop
 obtain ⟨w5,hw5⟩:∃ w5:World,w5=w4.setRow w.heap.size #[b0,b1]:=⟨_,rfl⟩;have HB5:Hid (Bx w5 w.heap.size 149 #[b0,b1]):=zZ (by rw [hw5];exact HB4.out.row _);have HE5:Hid (Edit (·=c) w w5):=zZ (by rw [hw5];exact HE4.out.row (by omega) _);have HC5:Hid (QIs w5 q c 250 cap (buf.extract 1 buf.size) cl):=zZ (by rw [hw5];exact HC4.out.row hltq ⟨hlt,by omega⟩ _);rw [← hw5];clear hw5 HB4 HN4 HE4 HC4;refine LoneTo.goes (n:=3) ?_
 s_op
 s_c stepG_region_end
 s_c stepG_ret'
 s_stop
 refine LoneTo.done ⟨.returned (.tuple #[.agg #[b0,b1],.bool true]),_,rfl,⟨rfl,HC5.out,HE5.out⟩,rfl,rfl,rfl,rfl,_,Tryz.func394,?_⟩;have hl:=run_loadVar_row (P:=prog) w5 w.heap.size 149 149 #[b0,b1] (0,0) _ HB5.out Tryz.underlying149 rfl (by kernel_rfl);simp [results,Tryz.f394,Frame.at,asAddr,hl,Result.andThen]
set_option maxRecDepth 100000 in
theorem z6X (q c cap:Nat) (w:World) (hq:QIs w q c 247 cap #[] true) :
 Calls prog 385 #[.pointer (some ⟨q,0,none⟩)] w fun e w'=>e=.returned (.tuple #[.agg #[O I 0,.slice none 0 0],.bool false])/\QIs w' q c 247 cap #[] true/\Edit (·=c) w w':=by
 refine calls_of_loneTo fun cs=>?_
 have e:Frame.enter prog 385 #[.pointer (some ⟨q,0,none⟩)] .normal=(base 385).at ⟨#[.pointer (some ⟨q,0,none⟩),undef,undef,undef,undef,undef,undef,undef,undef,undef,undef,undef,undef,undef,undef,undef],[]⟩ [.code (Tryz.f385.body.getD .skip)]:=by
  simp [Frame.enter,Frame.at,Tryz.func385,base,Tryz.f385]
 rw [e];clear e;obtain ⟨s,r,hc⟩:=hq.chan;have hlt:=(Array.getElem?_eq_some_iff.1 hc).1;have hltq:=hq.cells.lt;obtain ⟨w1,hw1⟩:∃ w1:World,w1=w.alloc (.cells #[O I 0,.slice none 0 0] 145):=⟨_,rfl⟩;have he1:Edit (·=c) w w1:=by
  subst hw1;exact Edit.of ((Below.refl _ w).alloc zY _)
 have hq1:Bx w1 q 247 #[.chan (some c),.bool true]:=hq.cells.edit he1 hq.ne;have hq10:=hq1.cell 0;have hc1:w1.heap[c]?=some (.chan cap #[] true s r false):=by subst hw1;simpa [blk_alloc_lt _ _ _ hlt] using hc
 simp at hq10;refine LoneTo.goes (n:=11) ?_;simp only [Tryz.f385,Option.getD_some]
 s_c stepG_seq
 s_reg
 s_op
 s_op
 s_c stepG_region_end
 s_c stepG_seq
 s_reg
 rw [← hw1];have HE1:=zZ he1;have HQ1:=zZ hq1;have HQ:=zZ hq;have HB1:Hid (Bx w1 w.heap.size 145 #[O I 0,.slice none 0 0]):=by rw [hw1];exact Bx.new _ _ _
 have HS1:Hid (w1.heap.size=w.heap.size+1):=zZ (by rw [hw1];simp);clear hq hq1 he1 hw1 hc
 s_op
 s_op
 s_op
 s_op
 s_stop
 refine LoneTo.step (step_lone_recv_shut true (c:=c) (z:=.agg #[O I 0,.slice none 0 0]) (stepG_comm (cases:=#[rcase c (.agg #[O I 0,.slice none 0 0])]) (blocking:=true) (shape:=.recv true) (w':=w1) rfl rfl (by decide) (by simp [go_sem,rcase])) hc1) ?_;rw [Frame.finish_at];simp only [got,if_true]
 walk_nrm
 obtain ⟨w2,hw2⟩:∃ w2:World,w2=w1:=⟨_,rfl⟩;rw [← hw2];have HE2:Hid (Edit (·=c) w w2):=zZ (HE1.out.trans (by rw [hw2];exact Edit.refl _ _));have hsz2:w2.heap.size=w.heap.size+1:=by rw [hw2,HS1.out]
 have HB2:Hid (Bx w2 w.heap.size 145 #[O I 0,.slice none 0 0]):=zZ (HB1.out.edit (S:=(·=c)) (by rw [hw2];exact Edit.refl _ _) (show ¬ (w.heap.size=c) by omega));have HC2:Hid (QIs w2 q c 247 cap #[] true):=zZ ⟨HQ.out.cells.edit HE2.out HQ.out.ne,s,r,by rw [hw2];exact hc1⟩;clear hw2 hq10 hc1 HE1 HQ1 HQ HB1 HS1;refine LoneTo.goes (n:=4) ?_
 s_op
 s_op
 s_op
 s_op
 s_stop
 obtain ⟨w3,hw3⟩:∃ w3:World,w3=w2.alloc (.cells #[O I 0,.slice none 0 0] 145):=⟨_,rfl⟩;rw [← hw3];have HE3:Hid (Edit (·=c) w w3):=zZ (HE2.out.trans (by rw [hw3];exact Edit.of ((Below.refl _ w2).alloc zY _)));have hsz3:w3.heap.size=w.heap.size+2:=by rw [hw3,World.size_alloc,hsz2]
 have HB3:Hid (Bx w3 w.heap.size 145 #[O I 0,.slice none 0 0]):=zZ (by rw [hw3];exact HB2.out.alloc _);have HN3:Hid (Bx w3 (w.heap.size+1) 145 #[O I 0,.slice none 0 0]):=zZ (by rw [hw3];rw [← hsz2];exact Bx.new _ _ _);have HC3:Hid (QIs w3 q c 247 cap #[] true):=zZ (by rw [hw3];exact HC2.out.edit (S:=fun _=>False) (Edit.of ((Below.refl _ w2).alloc zY _)) id id);clear hw3 HE2 HB2 HC2 hsz2;refine LoneTo.goes (n:=8) ?_
 s_in
 refine goes_oper_k rfl rfl (by decide) (fun K hK=>?_);refine z0J _ _ 145 rfl (w.heap.size+1) 145 _ #[O I 0,.slice none 0 0] rfl rfl HN3.out (by kernel_rfl) rfl (by rfl) (hK _ _ ⟨trivial,?_⟩);clear hK K;obtain ⟨w4,hw4⟩:∃ w4:World,w4=w3.setRow (w.heap.size+1) #[O I 0,.slice none 0 0]:=⟨_,rfl⟩;have HN4:Hid (Bx w4 (w.heap.size+1) 145 #[O I 0,.slice none 0 0]):=zZ (by rw [hw4];exact HN3.out.row _);have HB4:Hid (Bx w4 w.heap.size 145 #[O I 0,.slice none 0 0]):=zZ (by rw [hw4];exact HB3.out.other (by omega) _);have HE4:Hid (Edit (·=c) w w4):=zZ (by rw [hw4];exact HE3.out.row (by omega) _);have HC4:Hid (QIs w4 q c 247 cap #[] true):=zZ (by rw [hw4];exact HC3.out.row hltq ⟨hlt,by omega⟩ _);rw [← hw4];clear hw4 HN3 HB3 HE3 HC3
 walk_nrm
 s_op
 s_c stepG_region_end
 s_c stepG_seq
 s_reg
 s_in
 refine goes_oper_k rfl rfl (by decide) (fun K hK=>?_);refine z1T _ 145 rfl (w.heap.size+1) 145 _ (0,0) _ rfl HN4.out Tryz.underlying145 rfl (by kernel_rfl) (hK _ _ ⟨trivial,?_⟩);clear hK K
 walk_nrm
 s_op
 s_in
 refine goes_oper_k rfl rfl (by decide) (fun K hK=>?_);refine z0J _ _ 145 rfl w.heap.size 145 _ #[O I 0,.slice none 0 0] rfl rfl HB4.out (by kernel_rfl) rfl (by rfl) (hK _ _ ⟨trivial,?_⟩);clear hK K
 walk_nrm
 s_stop
 obtain ⟨w5,hw5⟩:∃ w5:World,w5=w4.setRow w.heap.size #[O I 0,.slice none 0 0]:=⟨_,rfl⟩;have HB5:Hid (Bx w5 w.heap.size 145 #[O I 0,.slice none 0 0]):=zZ (by rw [hw5];exact HB4.out.row _);have HE5:Hid (Edit (·=c) w w5):=zZ (by rw [hw5];exact HE4.out.row (by omega) _);have HC5:Hid (QIs w5 q c 247 cap #[] true):=zZ (by rw [hw5];exact HC4.out.row hltq ⟨hlt,by omega⟩ _);rw [← hw5];clear hw5 HB4 HN4 HE4 HC4;refine LoneTo.goes (n:=3) ?_
 s_op
 s_c stepG_region_end
 s_c stepG_ret'
 s_stop
 refine LoneTo.done ⟨.returned (.tuple #[.agg #[O I 0,.slice none 0 0],.bool false]),_,rfl,⟨rfl,HC5.out,HE5.out⟩,rfl,rfl,rfl,rfl,_,Tryz.func385,?_⟩;have hl:=run_loadVar_row (P:=prog) w5 w.heap.size 145 145 #[O I 0,.slice none 0 0] (0,0) _ HB5.out Tryz.underlying145 rfl (by kernel_rfl);simp [results,Tryz.f385,Frame.at,asAddr,hl,Result.andThen]
set_option maxRecDepth 100000 in
theorem y0v (q c cap:Nat) (w:World) (hq:QIs w q c 250 cap #[] true) :
 Calls prog 394 #[.pointer (some ⟨q,0,none⟩)] w fun e w'=>e=.returned (.tuple #[.agg #[O I 0,.string ⟨#[]⟩],.bool false])/\QIs w' q c 250 cap #[] true/\Edit (·=c) w w':=by
 refine calls_of_loneTo fun cs=>?_
 have e:Frame.enter prog 394 #[.pointer (some ⟨q,0,none⟩)] .normal=(base 394).at ⟨#[.pointer (some ⟨q,0,none⟩),undef,undef,undef,undef,undef,undef,undef,undef,undef,undef,undef,undef,undef,undef,undef],[]⟩ [.code (Tryz.f394.body.getD .skip)]:=by
  simp [Frame.enter,Frame.at,Tryz.func394,base,Tryz.f394]
 rw [e];clear e;obtain ⟨s,r,hc⟩:=hq.chan;have hlt:=(Array.getElem?_eq_some_iff.1 hc).1;have hltq:=hq.cells.lt;obtain ⟨w1,hw1⟩:∃ w1:World,w1=w.alloc (.cells #[O I 0,.string ⟨#[]⟩] 149):=⟨_,rfl⟩;have he1:Edit (·=c) w w1:=by
  subst hw1;exact Edit.of ((Below.refl _ w).alloc zY _)
 have hq1:Bx w1 q 250 #[.chan (some c),.bool true]:=hq.cells.edit he1 hq.ne;have hq10:=hq1.cell 0;have hc1:w1.heap[c]?=some (.chan cap #[] true s r false):=by subst hw1;simpa [blk_alloc_lt _ _ _ hlt] using hc
 simp at hq10;refine LoneTo.goes (n:=11) ?_;simp only [Tryz.f394,Option.getD_some]
 s_c stepG_seq
 s_reg
 s_op
 s_op
 s_c stepG_region_end
 s_c stepG_seq
 s_reg
 rw [← hw1];have HE1:=zZ he1;have HQ1:=zZ hq1;have HQ:=zZ hq;have HB1:Hid (Bx w1 w.heap.size 149 #[O I 0,.string ⟨#[]⟩]):=by rw [hw1];exact Bx.new _ _ _
 have HS1:Hid (w1.heap.size=w.heap.size+1):=zZ (by rw [hw1];simp);clear hq hq1 he1 hw1 hc
 s_op
 s_op
 s_op
 s_op
 s_stop
 refine LoneTo.step (step_lone_recv_shut true (c:=c) (z:=.agg #[O I 0,.string ⟨#[]⟩]) (stepG_comm (cases:=#[rcase c (.agg #[O I 0,.string ⟨#[]⟩])]) (blocking:=true) (shape:=.recv true) (w':=w1) rfl rfl (by decide) (by simp [go_sem,rcase])) hc1) ?_;rw [Frame.finish_at];simp only [got,if_true]
 walk_nrm
 obtain ⟨w2,hw2⟩:∃ w2:World,w2=w1:=⟨_,rfl⟩;rw [← hw2];have HE2:Hid (Edit (·=c) w w2):=zZ (HE1.out.trans (by rw [hw2];exact Edit.refl _ _));have hsz2:w2.heap.size=w.heap.size+1:=by rw [hw2,HS1.out]
 have HB2:Hid (Bx w2 w.heap.size 149 #[O I 0,.string ⟨#[]⟩]):=zZ (HB1.out.edit (S:=(·=c)) (by rw [hw2];exact Edit.refl _ _) (show ¬ (w.heap.size=c) by omega));have HC2:Hid (QIs w2 q c 250 cap #[] true):=zZ ⟨HQ.out.cells.edit HE2.out HQ.out.ne,s,r,by rw [hw2];exact hc1⟩;clear hw2 hq10 hc1 HE1 HQ1 HQ HB1 HS1;refine LoneTo.goes (n:=4) ?_
 s_op
 s_op
 s_op
 s_op
 s_stop
 obtain ⟨w3,hw3⟩:∃ w3:World,w3=w2.alloc (.cells #[O I 0,.string ⟨#[]⟩] 149):=⟨_,rfl⟩;rw [← hw3];have HE3:Hid (Edit (·=c) w w3):=zZ (HE2.out.trans (by rw [hw3];exact Edit.of ((Below.refl _ w2).alloc zY _)));have hsz3:w3.heap.size=w.heap.size+2:=by rw [hw3,World.size_alloc,hsz2]
 have HB3:Hid (Bx w3 w.heap.size 149 #[O I 0,.string ⟨#[]⟩]):=zZ (by rw [hw3];exact HB2.out.alloc _);have HN3:Hid (Bx w3 (w.heap.size+1) 149 #[O I 0,.string ⟨#[]⟩]):=zZ (by rw [hw3];rw [← hsz2];exact Bx.new _ _ _);have HC3:Hid (QIs w3 q c 250 cap #[] true):=zZ (by rw [hw3];exact HC2.out.edit (S:=fun _=>False) (Edit.of ((Below.refl _ w2).alloc zY _)) id id);clear hw3 HE2 HB2 HC2 hsz2;refine LoneTo.goes (n:=8) ?_
 s_in
 refine goes_oper_k rfl rfl (by decide) (fun K hK=>?_);refine z0J _ _ 149 rfl (w.heap.size+1) 149 _ #[O I 0,.string ⟨#[]⟩] rfl rfl HN3.out (by kernel_rfl) rfl (by rfl) (hK _ _ ⟨trivial,?_⟩);clear hK K;obtain ⟨w4,hw4⟩:∃ w4:World,w4=w3.setRow (w.heap.size+1) #[O I 0,.string ⟨#[]⟩]:=⟨_,rfl⟩;have HN4:Hid (Bx w4 (w.heap.size+1) 149 #[O I 0,.string ⟨#[]⟩]):=zZ (by rw [hw4];exact HN3.out.row _);have HB4:Hid (Bx w4 w.heap.size 149 #[O I 0,.string ⟨#[]⟩]):=zZ (by rw [hw4];exact HB3.out.other (by omega) _);have HE4:Hid (Edit (·=c) w w4):=zZ (by rw [hw4];exact HE3.out.row (by omega) _);have HC4:Hid (QIs w4 q c 250 cap #[] true):=zZ (by rw [hw4];exact HC3.out.row hltq ⟨hlt,by omega⟩ _);rw [← hw4];clear hw4 HN3 HB3 HE3 HC3
 walk_nrm
 s_op
 s_c stepG_region_end
 s_c stepG_seq
 s_reg
 s_in
 refine goes_oper_k rfl rfl (by decide) (fun K hK=>?_);refine z1T _ 149 rfl (w.heap.size+1) 149 _ (0,0) _ rfl HN4.out Tryz.underlying149 rfl (by kernel_rfl) (hK _ _ ⟨trivial,?_⟩);clear hK K
 walk_nrm
 s_op
 s_in
 refine goes_oper_k rfl rfl (by decide) (fun K hK=>?_);refine z0J _ _ 149 rfl w.heap.size 149 _ #[O I 0,.string ⟨#[]⟩] rfl rfl HB4.out (by kernel_rfl) rfl (by rfl) (hK _ _ ⟨trivial,?_⟩);clear hK K
 walk_nrm
 s_stop
 obtain ⟨w5,hw5⟩:∃ w5:World,w5=w4.setRow w.heap.size #[O I 0,.string ⟨#[]⟩]:=⟨_,rfl⟩;have HB5:Hid (Bx w5 w.heap.size 149 #[O I 0,.string ⟨#[]⟩]):=zZ (by rw [hw5];exact HB4.out.row _);have HE5:Hid (Edit (·=c) w w5):=zZ (by rw [hw5];exact HE4.out.row (by omega) _);have HC5:Hid (QIs w5 q c 250 cap #[] true):=zZ (by rw [hw5];exact HC4.out.row hltq ⟨hlt,by omega⟩ _);rw [← hw5];clear hw5 HB4 HN4 HE4 HC4;refine LoneTo.goes (n:=3) ?_
 s_op
 s_c stepG_region_end
 s_c stepG_ret'
 s_stop
 refine LoneTo.done ⟨.returned (.tuple #[.agg #[O I 0,.string ⟨#[]⟩],.bool false]),_,rfl,⟨rfl,HC5.out,HE5.out⟩,rfl,rfl,rfl,rfl,_,Tryz.func394,?_⟩;have hl:=run_loadVar_row (P:=prog) w5 w.heap.size 149 149 #[O I 0,.string ⟨#[]⟩] (0,0) _ HB5.out Tryz.underlying149 rfl (by kernel_rfl);simp [results,Tryz.f394,Frame.at,asAddr,hl,Result.andThen]
theorem z3o (w:World) (c cap:Nat) (buf:Array Value) (cl:Bool) (s r:Nat) (h:w.heap[c]?=some (.chan cap buf cl s r false)) (t:TypeId) (d:TypeDesc) (ty:TypeId) (hu:prog.underlying t=some d) (hd:(match d with | .chan _ _=>true | _=>false)=true) :
 (Builtin.len_ #[t] ty #[.chan (some c)]).run prog w=.ok (O I buf.size) w:=by
 cases d <;> simp at hd
 simp [Builtin.len_,underlying,hu,goInt,getObj,Sem.run,h,Result.andThen]
theorem y1x (w:World) (c cap:Nat) (buf:Array Value) (cl:Bool) (s r:Nat) (h:w.heap[c]?=some (.chan cap buf cl s r false)) (t:TypeId) (d:TypeDesc) (ty:TypeId) (hu:prog.underlying t=some d) (hd:(match d with | .chan _ _=>true | _=>false)=true) :
 (Builtin.cap_ #[t] ty #[.chan (some c)]).run prog w=.ok (O I cap) w:=by
 cases d <;> simp at hd
 simp [Builtin.cap_,underlying,hu,goInt,getObj,Sem.run,h,Result.andThen]
theorem z6d (q c cap:Nat) (buf:Array Value) (cl:Bool) (w:World) (hq:QIs w q c 247 cap buf cl) :
 Calls prog 108 #[.pointer (some ⟨q,0,none⟩)] w fun e w'=>e=.returned (O I buf.size)/\w'=w:=by
 obtain ⟨s,r,hc⟩:=hq.chan;have x0:=hq.cells.cell 0;simp at x0;have hln:∀ ty,(Builtin.len_ #[245] ty #[.chan (some c)]).run prog w=.ok (O I buf.size) w:=fun ty=>z3o w c cap buf cl s r hc 245 _ ty Tryz.underlying245 rfl
 clear hq hc
 go_enter Tryz.func108,Tryz.ntmps108
 go_wp2;go_ret;exact ⟨rfl,rfl⟩
theorem z6Y (q c cap:Nat) (buf:Array Value) (cl:Bool) (w:World) (hq:QIs w q c 247 cap buf cl) :
 Calls prog 378 #[.pointer (some ⟨q,0,none⟩)] w fun e w'=>e=.returned (.bool (decide (buf.size=cap)))/\∃ m,w'=w.drewN m:=by
 obtain ⟨s,r,hc⟩:=hq.chan;have x0:=hq.cells.cell 0;simp at x0;have hln:∀ (u:World) ty,u.heap[c]?=some (.chan cap buf cl s r false)->(Builtin.len_ #[245] ty #[.chan (some c)]).run prog u=.ok (O I buf.size) u:=fun u ty h=>z3o u c cap buf cl s r h 245 _ ty Tryz.underlying245 rfl
 have hcp:∀ (u:World) ty,u.heap[c]?=some (.chan cap buf cl s r false)->(Builtin.cap_ #[245] ty #[.chan (some c)]).run prog u=.ok (O I cap) u:=fun u ty h=>y1x u c cap buf cl s r h 245 _ ty Tryz.underlying245 rfl
 clear hq
 go_enter Tryz.func378,Tryz.ntmps378
 go_wp2
 go_quiet (fail)
 go_wp2;go_ret;refine ⟨?_,nq,rfl⟩
 by_cases h:buf.size=cap
 . simp [h]
 . have h2:¬ ((buf.size:Int)=(cap:Int)):=by omega
   simp [h,h2]
theorem z4c (q c cap:Nat) (buf:Array Value) (cl:Bool) (w:World) (hq:QIs w q c 247 cap buf cl) :
 Calls prog 384 #[.pointer (some ⟨q,0,none⟩)] w fun e w'=>e=.returned (.bool (decide (0 < buf.size) || cl))/\w'=w:=by
 obtain ⟨s,r,hc⟩:=hq.chan;have x0:=hq.cells.cell 0;have x1:=hq.cells.cell 1;simp at x0 x1;have hln:∀ ty,(Builtin.len_ #[245] ty #[.chan (some c)]).run prog w=.ok (O I buf.size) w:=fun ty=>z3o w c cap buf cl s r hc 245 _ ty Tryz.underlying245 rfl
 clear hq hc
 by_cases h:0 < buf.size
 . have h1:decide ((0:Int) < (buf.size:Int))=true:=decide_eq_true (by omega)
   go_enter Tryz.func384,Tryz.ntmps384
   go_wp2;go_ret;exact ⟨by simp [h],rfl⟩
 . have h1:decide ((0:Int) < (buf.size:Int))=false:=decide_eq_false (by omega)
   go_enter Tryz.func384,Tryz.ntmps384
   go_wp2;go_ret;exact ⟨by simp [h],rfl⟩
theorem z6e (q c cap:Nat) (buf:Array Value) (w:World) (hq:QIs w q c 247 cap buf false) :
 Calls prog 371 #[.pointer (some ⟨q,0,none⟩)] w fun e w'=>e=.returned (.tuple #[])/\QIs w' q c 247 cap buf true/\Edit (fun k=>k=q∨k=c) w w':=by
 obtain ⟨s,r,hc⟩:=hq.chan;have x0:=hq.cells.cell 0;have x1:=hq.cells.cell 1;simp at x0 x1;have hf:=hq.cells.free 1;have y0:=(hq.cells.set 1 (.bool true)).cell 0;simp at y0;have hne:=hq.ne;have hc1:(w.setCell ⟨q,1,none⟩ (.bool true)).heap[c]?=some (.chan cap buf false s r false):=(blk_setCell_other _ _ _ _ (Ne.symm hne)).trans hc;have hcl:∀ ty,(Builtin.close_ #[245] ty #[.chan (some c)]).run prog (w.setCell ⟨q,1,none⟩ (.bool true))=.ok (.tuple #[]) ((w.setCell ⟨q,1,none⟩ (.bool true)).setChan c cap buf true s r false):=fun ty=>by rw [run_close_open _ ty hc1];rfl
 have HR:Hid (QIs ((w.setCell ⟨q,1,none⟩ (.bool true)).setChan c cap buf true s r false) q c 247 cap buf true/\Edit (fun k=>k=q∨k=c) w ((w.setCell ⟨q,1,none⟩ (.bool true)).setChan c cap buf true s r false)) :=
  zZ ⟨⟨(hq.cells.set 1 (.bool true)).edit (Edit.chan _ _ _ _ _ _ _ _) hne,s,r,heap_setChan _ _ _ _ _ _ _ _ (Array.getElem?_eq_some_iff.1 hc1).1⟩,((Edit.refl _ w).cell (Or.inl (Or.inl rfl)) 1 _).trans ((Edit.chan _ _ _ _ _ _ _ _).mono fun k hk=>Or.inr hk)⟩
 clear hq hc hc1 hne
 go_enter Tryz.func371,Tryz.ntmps371
 go_wp2;go_end0;exact ⟨rfl,HR.out⟩
theorem z6y (room:Nat) (hr:room<=300) (w:World) :
 Calls prog 100 #[O I room] w fun e w'=>e=.returned (.pointer (some ⟨w.heap.size+1,0,none⟩))/\QIs w' (w.heap.size+1) w.heap.size 247 room #[] false/\Below w.heap.size w w'/\w'.heap.size=w.heap.size+2:=by
 have hmk:(Instr.makeChan 245 (O I room)).run prog w=.ok (.chan (some w.heap.size)) (w.alloc (.chan room #[] false 0 0 false)):=by
  have h:(prog.info? 145).map (fun i=>decide (i.bytes<=32))=some true:=by kernel_rfl
  obtain ⟨i,hi,hb⟩:=Option.map_eq_some_iff.1 h;have hb':i.bytes<=32:=of_decide_eq_true hb;refine run_makeChan (P:=prog) (w:=w) Tryz.underlying245 hi .i64 room (by omega) ?_;have h1:(i.bytes:Int) * room<=32 * 300:=Int.mul_le_mul (by omega) (by omega) (by omega) (by omega);omega
 go_enter Tryz.func100,Tryz.ntmps100
 go_wp2;go_ret;refine ⟨by simp,⟨?_,0,0,?_⟩,((Below.refl _ w).alloc zY _).alloc (by simp) _,by simp⟩
 . have:=Bx.new (w.alloc (.chan room #[] false 0 0 false)) #[.chan (some w.heap.size),.bool false] 247
   simpa using this
 . rw [blk_alloc_lt _ _ _ (by simp)]
   exact blk_alloc_new _ _
theorem z9h (q c cap:Nat) (buf:Array Value) (cl:Bool) (w:World) (hq:QIs w q c 250 cap buf cl) :
 Calls prog 109 #[.pointer (some ⟨q,0,none⟩)] w fun e w'=>e=.returned (O I buf.size)/\w'=w:=by
 obtain ⟨s,r,hc⟩:=hq.chan;have x0:=hq.cells.cell 0;simp at x0;have hln:∀ ty,(Builtin.len_ #[248] ty #[.chan (some c)]).run prog w=.ok (O I buf.size) w:=fun ty=>z3o w c cap buf cl s r hc 248 _ ty Tryz.underlying248 rfl
 clear hq hc
 go_enter Tryz.func109,Tryz.ntmps109
 go_wp2;go_ret;exact ⟨rfl,rfl⟩
theorem y0w (q c cap:Nat) (buf:Array Value) (cl:Bool) (w:World) (hq:QIs w q c 250 cap buf cl) :
 Calls prog 413 #[.pointer (some ⟨q,0,none⟩)] w fun e w'=>e=.returned (.bool (decide (buf.size=cap)))/\∃ m,w'=w.drewN m:=by
 obtain ⟨s,r,hc⟩:=hq.chan;have x0:=hq.cells.cell 0;simp at x0;have hln:∀ (u:World) ty,u.heap[c]?=some (.chan cap buf cl s r false)->(Builtin.len_ #[248] ty #[.chan (some c)]).run prog u=.ok (O I buf.size) u:=fun u ty h=>z3o u c cap buf cl s r h 248 _ ty Tryz.underlying248 rfl
 have hcp:∀ (u:World) ty,u.heap[c]?=some (.chan cap buf cl s r false)->(Builtin.cap_ #[248] ty #[.chan (some c)]).run prog u=.ok (O I cap) u:=fun u ty h=>y1x u c cap buf cl s r h 248 _ ty Tryz.underlying248 rfl
 clear hq
 go_enter Tryz.func413,Tryz.ntmps413
 go_wp2
 go_quiet (fail)
 go_wp2;go_ret;refine ⟨?_,nq,rfl⟩
 by_cases h:buf.size=cap
 . simp [h]
 . have h2:¬ ((buf.size:Int)=(cap:Int)):=by omega
   simp [h,h2]
theorem z6z (q c cap:Nat) (buf:Array Value) (cl:Bool) (w:World) (hq:QIs w q c 250 cap buf cl) :
 Calls prog 389 #[.pointer (some ⟨q,0,none⟩)] w fun e w'=>e=.returned (.bool (decide (0 < buf.size) || cl))/\w'=w:=by
 obtain ⟨s,r,hc⟩:=hq.chan;have x0:=hq.cells.cell 0;have x1:=hq.cells.cell 1;simp at x0 x1;have hln:∀ ty,(Builtin.len_ #[248] ty #[.chan (some c)]).run prog w=.ok (O I buf.size) w:=fun ty=>z3o w c cap buf cl s r hc 248 _ ty Tryz.underlying248 rfl
 clear hq hc
 by_cases h:0 < buf.size
 . have h1:decide ((0:Int) < (buf.size:Int))=true:=decide_eq_true (by omega)
   go_enter Tryz.func389,Tryz.ntmps389
   go_wp2;go_ret;exact ⟨by simp [h],rfl⟩
 . have h1:decide ((0:Int) < (buf.size:Int))=false:=decide_eq_false (by omega)
   go_enter Tryz.func389,Tryz.ntmps389
   go_wp2;go_ret;exact ⟨by simp [h],rfl⟩
theorem z9i (q c cap:Nat) (buf:Array Value) (w:World) (hq:QIs w q c 250 cap buf false) :
 Calls prog 372 #[.pointer (some ⟨q,0,none⟩)] w fun e w'=>e=.returned (.tuple #[])/\QIs w' q c 250 cap buf true/\Edit (fun k=>k=q∨k=c) w w':=by
 obtain ⟨s,r,hc⟩:=hq.chan;have x0:=hq.cells.cell 0;have x1:=hq.cells.cell 1;simp at x0 x1;have hf:=hq.cells.free 1;have y0:=(hq.cells.set 1 (.bool true)).cell 0;simp at y0;have hne:=hq.ne;have hc1:(w.setCell ⟨q,1,none⟩ (.bool true)).heap[c]?=some (.chan cap buf false s r false):=(blk_setCell_other _ _ _ _ (Ne.symm hne)).trans hc;have hcl:∀ ty,(Builtin.close_ #[248] ty #[.chan (some c)]).run prog (w.setCell ⟨q,1,none⟩ (.bool true))=.ok (.tuple #[]) ((w.setCell ⟨q,1,none⟩ (.bool true)).setChan c cap buf true s r false):=fun ty=>by rw [run_close_open _ ty hc1];rfl
 have HR:Hid (QIs ((w.setCell ⟨q,1,none⟩ (.bool true)).setChan c cap buf true s r false) q c 250 cap buf true/\Edit (fun k=>k=q∨k=c) w ((w.setCell ⟨q,1,none⟩ (.bool true)).setChan c cap buf true s r false)) :=
  zZ ⟨⟨(hq.cells.set 1 (.bool true)).edit (Edit.chan _ _ _ _ _ _ _ _) hne,s,r,heap_setChan _ _ _ _ _ _ _ _ (Array.getElem?_eq_some_iff.1 hc1).1⟩,((Edit.refl _ w).cell (Or.inl (Or.inl rfl)) 1 _).trans ((Edit.chan _ _ _ _ _ _ _ _).mono fun k hk=>Or.inr hk)⟩
 clear hq hc hc1 hne
 go_enter Tryz.func372,Tryz.ntmps372
 go_wp2;go_end0;exact ⟨rfl,HR.out⟩
theorem z6f (room:Nat) (hr:room<=300) (w:World) :
 Calls prog 101 #[O I room] w fun e w'=>e=.returned (.pointer (some ⟨w.heap.size+1,0,none⟩))/\QIs w' (w.heap.size+1) w.heap.size 250 room #[] false/\Below w.heap.size w w'/\w'.heap.size=w.heap.size+2:=by
 have hmk:(Instr.makeChan 248 (O I room)).run prog w=.ok (.chan (some w.heap.size)) (w.alloc (.chan room #[] false 0 0 false)):=by
  have h:(prog.info? 149).map (fun i=>decide (i.bytes<=32))=some true:=by kernel_rfl
  obtain ⟨i,hi,hb⟩:=Option.map_eq_some_iff.1 h;have hb':i.bytes<=32:=of_decide_eq_true hb;refine run_makeChan (P:=prog) (w:=w) Tryz.underlying248 hi .i64 room (by omega) ?_;have h1:(i.bytes:Int) * room<=32 * 300:=Int.mul_le_mul (by omega) (by omega) (by omega) (by omega);omega
 go_enter Tryz.func101,Tryz.ntmps101
 go_wp2;go_ret;refine ⟨by simp,⟨?_,0,0,?_⟩,((Below.refl _ w).alloc zY _).alloc (by simp) _,by simp⟩
 . have:=Bx.new (w.alloc (.chan room #[] false 0 0 false)) #[.chan (some w.heap.size),.bool false] 250
   simpa using this
 . rw [blk_alloc_lt _ _ _ (by simp)]
   exact blk_alloc_new _ _
end Go.Proofs.YtlncjgnomhpjnabGreatDoor
