import Derived.Test.YtlncjgnomhpjnabGreatDoorQL4
import Derived.Conc.LoneCalls
import Derived.Orders
import Derived.Conc.SmallLaws
import Derived.Conc.EventLaws
set_option maxRecDepth 100000
namespace Go.Proofs.YtlncjgnomhpjnabGreatDoor
open Go.Value renaming int → O
open Go.IntKind renaming i64 → I
open Go.Proofs.Tryz
open Go.RowKit Go.Deep Go.Conc
set_option linter.unusedVariables false
def ords (md:Region.Mode) (ops:Array Oper):Nat->Array Bool->List (List Nat)
 | 0,_=>[[]]
 | f+1,listed=>match Region.ready md ops listed with
  | []=>[[]]
  | i :: r=>(i :: r).flatMap fun i=>(ords md ops f (listed.setIfInBounds i true)).map (i :: ·)
theorem y6p (md:Region.Mode) (ops:Array Oper):∀ (fuel t:Nat) (listed:Array Bool),Region.linearise.go md ops fuel t listed [] ∈ ords md ops fuel listed:=by
 intro fuel
 induction fuel with
 | zero=>intro t listed;simp [Region.linearise.go,ords]
 | succ fuel ih =>
  intro t listed;simp only [Region.linearise.go]
  change (match (Region.ready md ops listed)[t % (Region.ready md ops listed).length]? with
   | some i=>Region.linearise.go md ops fuel (t / (Region.ready md ops listed).length) (listed.setIfInBounds i true) [i]
   | none=>[].reverse) ∈ _
  unfold ords;cases hr:Region.ready md ops listed with
  | nil=>simp
  | cons x xs =>
   simp only [];have hlt:t % (x :: xs).length < (x :: xs).length:=Nat.mod_lt _ (by simp);rw [List.getElem?_eq_getElem hlt];simp only [];rw [linearise_go_acc,List.reverse_singleton,List.singleton_append];exact List.mem_flatMap.2 ⟨_,List.getElem_mem hlt,List.mem_map.2 ⟨_,ih _ _,rfl⟩⟩
theorem y2C {P:Program} {main:Bool} {ops:Array Oper} {b:Frame} {a:Act} {k:List Item} {cs:List Frame} {w:World} {id:Nat} :
 stepG P main (G (b.at a (.code (.region id ops true) :: k)) cs) w =
  .go (G (b.at a (.inRegion ops (Region.schedule (P.follows .mixedOrders) ops (w.tape w.drawn (.order b.fn id))) :: k)) cs) { w with drawn:=w.drawn+1 }:=by
 simp [G,stepG,stepG.exec,Frame.at,choose,Sem.run,Question.forced,Question.cut]
theorem y4B {P:Program} (hm:P.follows .mixedOrders=true) (ops:Array Oper) (t:Nat):Region.schedule (P.follows .mixedOrders) ops t ∈ ords .any ops ops.size (Array.replicate ops.size false):=by
 simp only [Region.schedule,hm,Bool.true_or,if_true];exact y6p .any ops ops.size t _
theorem z6g {P:Program} {Q:Goroutine->World->Prop} {ops:Array Oper} {b:Frame} {a:Act} {k:List Item} {cs:List Frame} {w:World} {id:Nat} (hm:P.follows .mixedOrders=true) (L:List (List Nat)) (hL:ords .any ops ops.size (Array.replicate ops.size false)=L)
 (h:∀ l ∈ L,LoneTo P Q (G (b.at a (.inRegion ops l :: k)) cs) { w with drawn:=w.drawn+1 }):LoneTo P Q (G (b.at a (.code (.region id ops true) :: k)) cs) w :=
 LoneTo.step (step_solo_go rfl y2C) (h _ (hL ▸ y4B hm ops _))
theorem y8S:prog.follows .mixedOrders=true:=zT
structure Edit (S:Nat->Prop) (w w':World):Prop where
 os:w'.os=w.os
 tape:w'.tape=w.tape
 output:w'.output=w.output
 size:w.heap.size<=w'.heap.size
 block:∀ k,k < w.heap.size->¬ S k->w'.heap[k]?=w.heap[k]?
theorem Edit.refl (S:Nat->Prop) (w:World):Edit S w w:=⟨rfl,rfl,rfl,Nat.le_refl _,fun _ _ _=>rfl⟩
theorem Edit.trans {S:Nat->Prop} {a b c:World} (h:Edit S a b) (k:Edit S b c):Edit S a c :=
 ⟨k.os.trans h.os,k.tape.trans h.tape,k.output.trans h.output,zO h.size k.size,fun i hi hs=>(k.block i (zP hi h.size) hs).trans (h.block i hi hs)⟩
theorem Edit.mono {S T:Nat->Prop} {a b:World} (h:Edit S a b) (hT:∀ k,S k->T k):Edit T a b:=⟨h.os,h.tape,h.output,h.size,fun k hk hs=>h.block k hk fun hh=>hs (hT k hh)⟩
theorem Edit.of {S:Nat->Prop} {a b:World} (h:Below a.heap.size a b):Edit S a b:=⟨h.os,h.tape,h.output,h.size,fun k hk _=>h.block k hk⟩
theorem Edit.below {S:Nat->Prop} {a b:World} (h:Edit S a b) {B:Nat} (hB:B<=a.heap.size) (hS:∀ k,S k->B<=k):Below B a b:=⟨h.os,h.tape,h.output,h.size,fun k hk=>h.block k (zP hk hB) fun hh=>absurd (hS k hh) zU⟩
theorem Bx.edit {w w':World} {b:Nat} {t:TypeId} {cs:Array Value} {S:Nat->Prop} (h:Bx w b t cs) (he:Edit S w w') (hS:¬ S b):Bx w' b t cs:=h.of (he.block _ h.lt hS)
theorem Edit.chan (w:World) (c cap:Nat) (buf:Array Value) (cl:Bool) (s r:Nat) (tm:Bool):Edit (·=c) w (w.setChan c cap buf cl s r tm) :=
 ⟨rfl,rfl,rfl,by simp [World.setChan],fun k hk hs=>by simp only [World.setChan];rw [Array.getElem?_setIfInBounds_ne (fun e=>hs e.symm)]⟩
theorem Edit.row {S:Nat->Prop} {a b:World} (h:Edit S a b) {g:Nat} (hg:a.heap.size<=g) (ds:Array Value):Edit S a (b.setRow g ds):=by
 have hb:=below_setRow (B:=a.heap.size) (g:=g) (Below.refl _ b) hg ds;exact ⟨hb.os.trans h.os,hb.tape.trans h.tape,hb.output.trans h.output,zO h.size hb.size,fun k hk hs=>(hb.block k hk).trans (h.block k hk hs)⟩
theorem Bx.free {w:World} {b:Nat} {t:TypeId} {cs:Array Value} (h:Bx w b t cs) (j:Nat):w.frozen? ⟨b,j,none⟩=false:=by simp [World.frozen?,show w.heap[b]?=_ from h]
theorem Bx.set {w:World} {b:Nat} {t:TypeId} {cs:Array Value} (h:Bx w b t cs) (j:Nat) (v:Value):Bx (w.setCell ⟨b,j,none⟩ v) b t (cs.setIfInBounds j v):=by
 simp [Bx,World.setCell,Array.getElem?_modify,show w.heap[b]?=_ from h]
theorem Bx.past {w:World} {b g:Nat} {t:TypeId} {cs:Array Value} (h:Bx w b t cs) (hb:b ≠ g) (j:Nat) (v:Value):Bx (w.setCell ⟨g,j,none⟩ v) b t cs:=h.of (blk_setCell_other _ _ _ _ hb)
theorem Edit.cell {S:Nat->Prop} {a b:World} (h:Edit S a b) {g:Nat} (hg:S g∨a.heap.size<=g) (j:Nat) (v:Value):Edit S a (b.setCell ⟨g,j,none⟩ v) :=
 ⟨h.os,h.tape,h.output,by simpa using h.size,fun k hk hs=>(blk_setCell_other _ _ _ _ (by rintro rfl;rcases hg with hg | hg;exact hs hg;exact absurd hk (by simpa using hg))).trans (h.block k hk hs)⟩
theorem Edit.drewN {S:Nat->Prop} {a b:World} (h:Edit S a b) (n:Nat):Edit S a (b.drewN n):=⟨h.os,h.tape,h.output,h.size,h.block⟩
theorem Edit.alloc {S:Nat->Prop} {a b:World} (h:Edit S a b) (o:Obj):Edit S a (b.alloc o):=h.trans (Edit.of ((Below.refl _ b).alloc zY o))
structure QIs (w:World) (q c:Nat) (t:TypeId) (cap:Nat) (buf:Array Value) (cl:Bool):Prop where
 cells:Bx w q t #[.chan (some c),.bool cl]
 chan:∃ s r,w.heap[c]?=some (.chan cap buf cl s r false)
theorem QIs.edit {w w':World} {q c:Nat} {t:TypeId} {cap:Nat} {buf:Array Value} {cl:Bool} {S:Nat->Prop} (h:QIs w q c t cap buf cl) (he:Edit S w w') (hq:¬ S q) (hc:¬ S c):QIs w' q c t cap buf cl:=by
 obtain ⟨s,r,hch⟩:=h.chan;exact ⟨h.cells.edit he hq,s,r,(he.block _ (Array.getElem?_eq_some_iff.1 hch).1 hc).trans hch⟩
theorem QIs.row {w:World} {q c:Nat} {t:TypeId} {cap:Nat} {buf:Array Value} {cl:Bool} (h:QIs w q c t cap buf cl) {g B:Nat} (hq:q < B) (hc:c < B/\B<=g) (ds:Array Value):QIs (w.setRow g ds) q c t cap buf cl:=by
 obtain ⟨s,r,hch⟩:=h.chan;exact ⟨h.cells.other zU ds,s,r,(setRow_other w g c ds zU).trans hch⟩
theorem QIs.ne {w:World} {q c:Nat} {t:TypeId} {cap:Nat} {buf:Array Value} {cl:Bool} (h:QIs w q c t cap buf cl):q ≠ c:=by
 rintro rfl;obtain ⟨s,r,hch⟩:=h.chan;have:=h.cells;unfold Bx at this;rw [this] at hch;cases hch
theorem z0R {P:Program} {w:World} {o:Oper} {a:Act} {K:Act->World->Prop} (p v:Operand) (t:TypeId) (ho:o.op=.store t p v)
 (g:Nat) (tt:TypeId) (old cells:Array Value) (hp:a.eval p=.pointer (some ⟨g,0,none⟩)) (hv:a.eval v=.agg cells) (hg:w.heap[g]?=some (.cells old tt (0,0))) (hi:(P.info? t).map (·.size)=some cells.size)
 (hs:old.size=cells.size) (h1:cells.toList.all (·.oneCell')=true) (h:K (a.put o.dst undef) (w.setRow g cells)):uponK o a K ((execOp a.eval o).run P w):=by
 have hr:=run_storeVar_row (P:=P) w g tt t old cells hg hi hs (by rw [← Array.all_toList];exact h1);have e:(Instr.storeAt t (.pointer (some ⟨g,0,none⟩)) (.agg cells)).run P w=.ok () (w.setRow g cells):=by simpa [Instr.storeAt,Instr.sureAddr,asAddr] using hr
 unfold execOp;simp only [ho,hp,hv,Sem.run_bind,e,Result.andThen,Sem.run_pure];exact h
theorem z2g {P:Program} {w:World} {o:Oper} {a:Act} {K:Act->World->Prop} (p:Operand) (t:TypeId) (ho:o.op=.load t p)
 (g:Nat) (tt:TypeId) (cs:Array Value) (fr:Nat × Nat) (d:TypeDesc) (hp:a.eval p=.pointer (some ⟨g,0,none⟩)) (hg:w.heap[g]?=some (.cells cs tt fr)) (hu:P.underlying t=some d)
 (hd:(match d with | .struct _ | .array _ _=>true | _=>false)=true) (hi:(P.info? t).map (·.size)=some cs.size) (h:K (a.put o.dst (.agg cs)) w):uponK o a K ((execOp a.eval o).run P w):=by
 have hr:=run_loadVar_row (P:=P) w g tt t cs fr d hg hu hd hi;have e:(Instr.loadAt t (.pointer (some ⟨g,0,none⟩))).run P w=.ok (.agg cs) w:=by simpa [Instr.loadAt,Instr.sureAddr,asAddr] using hr
 unfold execOp;simp only [ho,hp,Sem.run_bind,e,Result.andThen,Sem.run_pure];exact h
theorem z9d (q c cap:Nat) (buf:Array Value) (b0 b1:Value) (w:World) (hq:QIs w q c 247 cap buf false) (hroom:buf.size < cap) (ho:b0.oneCell'=true/\b1.oneCell'=true) :
 Calls prog 381 #[.pointer (some ⟨q,0,none⟩),.agg #[b0,b1]] w fun e w'=>e=.returned (.tuple #[])/\QIs w' q c 247 cap (buf.push (.agg #[b0,b1])) false/\Edit (·=c) w w':=by
 refine calls_of_loneTo fun cs=>?_
 have e:Frame.enter prog 381 #[.pointer (some ⟨q,0,none⟩),.agg #[b0,b1]] .normal=(base 381).at ⟨#[.pointer (some ⟨q,0,none⟩),.agg #[b0,b1],undef,undef,undef,undef,undef,undef,undef],[]⟩ [.code (Tryz.f381.body.getD .skip)]:=by
  simp [Frame.enter,Frame.at,func381,base,Tryz.f381]
 rw [e];clear e;refine LoneTo.goes (n:=4) ?_;simp only [Tryz.f381,Option.getD_some]
 s_c stepG_seq
 s_reg
 s_op
 s_c stepG_region_end
 s_stop
 refine z6g y8S [[0,1,2,3,4,5],[0,1,2,4,3,5],[0,1,4,2,3,5],[0,4,1,2,3,5],[4,0,1,2,3,5]] zT ?_;obtain ⟨s,r,hc⟩:=hq.chan;have hlt:=(Array.getElem?_eq_some_iff.1 hc).1;obtain ⟨w1,hw1⟩:∃ w1:World,w1={ w.alloc (.cells #[b0,b1] 145) with drawn:=w.drawn+1 }:=⟨_,rfl⟩;have he1:Edit (·=c) w w1:=by
  subst hw1;have hb:=(Below.refl w.heap.size w).alloc zY (.cells #[b0,b1] 145);exact Edit.of ⟨hb.os,hb.tape,hb.output,hb.size,hb.block⟩
 have hq1:Bx w1 q 247 #[.chan (some c),.bool false]:=hq.cells.edit he1 hq.ne;have hq10:=hq1.cell 0;have hc1:w1.heap[c]?=some (.chan cap buf false s r false):=by subst hw1;simpa [blk_alloc_lt _ _ _ hlt] using hc
 have hb1:Bx w1 w.heap.size 145 #[b0,b1]:=by subst hw1;exact Bx.new w _ _
 have hb10:=hb1.cell 0;have hb11:=hb1.cell 1;simp at hb10 hb11 hq10;rw [show ({ heap:=(w.alloc (.cells #[b0,b1] 145)).heap,tape:=(w.alloc (.cells #[b0,b1] 145)).tape,drawn:=(w.alloc (.cells #[b0,b1] 145)).drawn+1,os:=(w.alloc (.cells #[b0,b1] 145)).os,output:=(w.alloc (.cells #[b0,b1] 145)).output }:World)=w1 from hw1.symm];have HQ:=zZ hq;have HQ1:=zZ hq1;have HE1:=zZ he1;clear hw1 hq hq1 hb1 he1 hc;intro l hl;simp only [List.mem_cons,List.not_mem_nil,or_false] at hl;rcases hl with rfl | rfl | rfl | rfl | rfl
 all_goals
  refine LoneTo.goes (n:=5) ?_
  s_op
  s_op
  s_op
  s_op
  s_op
  s_stop
  refine LoneTo.step (step_lone_send_room (c:=c) (cap:=cap) (buf:=buf) (s:=s) (r:=r) (tm:=false) (stepG_comm (cases:=#[scase c (.agg #[b0,b1]) (.tuple #[])]) (blocking:=true) (shape:=.send) (w':=w1) rfl rfl zR (by simp [execOp,scase,Act.eval])) hc1 hroom) ?_;rw [Frame.finish_at]
  walk_nrm
  refine LoneTo.goes (n:=2) ?_
  s_c stepG_region_end
  s_c stepG_end
  s_stop
  refine LoneTo.done ⟨.returned (.tuple #[]),_,rfl,⟨rfl,⟨HQ1.out.edit (Edit.chan _ _ _ _ _ _ _ _) HQ.out.ne,s+1,r,heap_setChan _ _ _ _ _ _ _ _ (Array.getElem?_eq_some_iff.1 hc1).1⟩,HE1.out.trans (Edit.chan _ _ _ _ _ _ _ _)⟩,rfl,rfl,rfl,rfl,_,func381,by simp [results,Tryz.f381,Frame.at]⟩
theorem y2D (q c cap:Nat) (buf:Array Value) (b0 b1:Value) (w:World) (hq:QIs w q c 250 cap buf false) (hroom:buf.size < cap) (ho:b0.oneCell'=true/\b1.oneCell'=true) :
 Calls prog 415 #[.pointer (some ⟨q,0,none⟩),.agg #[b0,b1]] w fun e w'=>e=.returned (.tuple #[])/\QIs w' q c 250 cap (buf.push (.agg #[b0,b1])) false/\Edit (·=c) w w':=by
 refine calls_of_loneTo fun cs=>?_
 have e:Frame.enter prog 415 #[.pointer (some ⟨q,0,none⟩),.agg #[b0,b1]] .normal=(base 415).at ⟨#[.pointer (some ⟨q,0,none⟩),.agg #[b0,b1],undef,undef,undef,undef,undef,undef,undef],[]⟩ [.code (Tryz.f415.body.getD .skip)]:=by
  simp [Frame.enter,Frame.at,func415,base,Tryz.f415]
 rw [e];clear e;refine LoneTo.goes (n:=4) ?_;simp only [Tryz.f415,Option.getD_some]
 s_c stepG_seq
 s_reg
 s_op
 s_c stepG_region_end
 s_stop
 refine z6g y8S [[0,1,2,3,4,5],[0,1,2,4,3,5],[0,1,4,2,3,5],[0,4,1,2,3,5],[4,0,1,2,3,5]] zT ?_;obtain ⟨s,r,hc⟩:=hq.chan;have hlt:=(Array.getElem?_eq_some_iff.1 hc).1;obtain ⟨w1,hw1⟩:∃ w1:World,w1={ w.alloc (.cells #[b0,b1] 149) with drawn:=w.drawn+1 }:=⟨_,rfl⟩;have he1:Edit (·=c) w w1:=by
  subst hw1;have hb:=(Below.refl w.heap.size w).alloc zY (.cells #[b0,b1] 149);exact Edit.of ⟨hb.os,hb.tape,hb.output,hb.size,hb.block⟩
 have hq1:Bx w1 q 250 #[.chan (some c),.bool false]:=hq.cells.edit he1 hq.ne;have hq10:=hq1.cell 0;have hc1:w1.heap[c]?=some (.chan cap buf false s r false):=by subst hw1;simpa [blk_alloc_lt _ _ _ hlt] using hc
 have hb1:Bx w1 w.heap.size 149 #[b0,b1]:=by subst hw1;exact Bx.new w _ _
 have hb10:=hb1.cell 0;have hb11:=hb1.cell 1;simp at hb10 hb11 hq10;rw [show ({ heap:=(w.alloc (.cells #[b0,b1] 149)).heap,tape:=(w.alloc (.cells #[b0,b1] 149)).tape,drawn:=(w.alloc (.cells #[b0,b1] 149)).drawn+1,os:=(w.alloc (.cells #[b0,b1] 149)).os,output:=(w.alloc (.cells #[b0,b1] 149)).output }:World)=w1 from hw1.symm];have HQ:=zZ hq;have HQ1:=zZ hq1;have HE1:=zZ he1;clear hw1 hq hq1 hb1 he1 hc;intro l hl;simp only [List.mem_cons,List.not_mem_nil,or_false] at hl;rcases hl with rfl | rfl | rfl | rfl | rfl
 all_goals
  refine LoneTo.goes (n:=5) ?_
  s_op
  s_op
  s_op
  s_op
  s_op
  s_stop
  refine LoneTo.step (step_lone_send_room (c:=c) (cap:=cap) (buf:=buf) (s:=s) (r:=r) (tm:=false) (stepG_comm (cases:=#[scase c (.agg #[b0,b1]) (.tuple #[])]) (blocking:=true) (shape:=.send) (w':=w1) rfl rfl zR (by simp [execOp,scase,Act.eval])) hc1 hroom) ?_;rw [Frame.finish_at]
  walk_nrm
  refine LoneTo.goes (n:=2) ?_
  s_c stepG_region_end
  s_c stepG_end
  s_stop
  refine LoneTo.done ⟨.returned (.tuple #[]),_,rfl,⟨rfl,⟨HQ1.out.edit (Edit.chan _ _ _ _ _ _ _ _) HQ.out.ne,s+1,r,heap_setChan _ _ _ _ _ _ _ _ (Array.getElem?_eq_some_iff.1 hc1).1⟩,HE1.out.trans (Edit.chan _ _ _ _ _ _ _ _)⟩,rfl,rfl,rfl,rfl,_,func415,by simp [results,Tryz.f415,Frame.at]⟩
theorem z6Z (q c cap:Nat) (buf:Array Value) (cl:Bool) (b0 b1:Value) (w:World) (hq:QIs w q c 247 cap buf cl) (h0:buf[0]?=some (.agg #[b0,b1])) (ho:b0.oneCell'=true/\b1.oneCell'=true) :
 Calls prog 385 #[.pointer (some ⟨q,0,none⟩)] w fun e w'=>e=.returned (.tuple #[.agg #[b0,b1],.bool true])/\QIs w' q c 247 cap (buf.extract 1 buf.size) cl/\Edit (·=c) w w':=by
 refine calls_of_loneTo fun cs=>?_
 have e:Frame.enter prog 385 #[.pointer (some ⟨q,0,none⟩)] .normal=(base 385).at ⟨#[.pointer (some ⟨q,0,none⟩),undef,undef,undef,undef,undef,undef,undef,undef,undef,undef,undef,undef,undef,undef,undef],[]⟩ [.code (Tryz.f385.body.getD .skip)]:=by
  simp [Frame.enter,Frame.at,func385,base,Tryz.f385]
 rw [e];clear e;obtain ⟨s,r,hc⟩:=hq.chan;have hlt:=(Array.getElem?_eq_some_iff.1 hc).1;have hltq:=hq.cells.lt;have hpos:0 < buf.size:=(Array.getElem?_eq_some_iff.1 h0).1;have hgd:buf.getD 0 undef=.agg #[b0,b1]:=by simp [Array.getD_eq_getD_getElem?,h0]
 obtain ⟨w1,hw1⟩:∃ w1:World,w1=w.alloc (.cells #[O I 0,.slice none 0 0] 145):=⟨_,rfl⟩;have he1:Edit (·=c) w w1:=by
  subst hw1;exact Edit.of ((Below.refl _ w).alloc zY _)
 have hq1:Bx w1 q 247 #[.chan (some c),.bool cl]:=hq.cells.edit he1 hq.ne;have hq10:=hq1.cell 0;have hc1:w1.heap[c]?=some (.chan cap buf cl s r false):=by subst hw1;simpa [blk_alloc_lt _ _ _ hlt] using hc
 simp at hq10;refine LoneTo.goes (n:=11) ?_;simp only [Tryz.f385,Option.getD_some]
 s_c stepG_seq
 s_reg
 s_op
 s_op
 s_c stepG_region_end
 s_c stepG_seq
 s_reg
 rw [← hw1];have HE1:=zZ he1;have HQ1:=zZ hq1;have HQ:=zZ hq;have HB1:Hid (Bx w1 w.heap.size 145 #[O I 0,.slice none 0 0]):=by rw [hw1];exact Bx.new _ _ _
 have HS1:Hid (w1.heap.size=w.heap.size+1):=zZ (by rw [hw1];simp);clear hq hq1 he1 hw1 hc
 s_op
 s_op
 s_op
 s_op
 s_stop
 refine LoneTo.step (step_lone_recv_buf true (c:=c) (z:=.agg #[O I 0,.slice none 0 0]) (stepG_comm (cases:=#[rcase c (.agg #[O I 0,.slice none 0 0])]) (blocking:=true) (shape:=.recv true) (w':=w1) rfl rfl zR (by simp [go_sem,rcase])) hc1 hpos) ?_;rw [Frame.finish_at];simp only [got,hgd,if_true]
 walk_nrm
 obtain ⟨w2,hw2⟩:∃ w2:World,w2=w1.setChan c cap (buf.extract 1 buf.size) cl s (r+1) false:=⟨_,rfl⟩;rw [← hw2];have HE2:Hid (Edit (·=c) w w2):=zZ (HE1.out.trans (by rw [hw2];exact Edit.chan _ _ _ _ _ _ _ _));have hsz2:w2.heap.size=w.heap.size+1:=by rw [hw2,size_setChan,HS1.out]
 have HB2:Hid (Bx w2 w.heap.size 145 #[O I 0,.slice none 0 0]):=zZ (HB1.out.edit (S:=(·=c)) (by rw [hw2];exact Edit.chan _ _ _ _ _ _ _ _) (show ¬ (w.heap.size=c) by omega));have HC2:Hid (QIs w2 q c 247 cap (buf.extract 1 buf.size) cl):=zZ ⟨HQ.out.cells.edit HE2.out HQ.out.ne,s,r+1,by rw [hw2];exact heap_setChan _ _ _ _ _ _ _ _ (Array.getElem?_eq_some_iff.1 hc1).1⟩;clear hw2 hq10 hc1 HE1 HQ1 HQ HB1 HS1;refine LoneTo.goes (n:=4) ?_
 s_op
 s_op
 s_op
 s_op
 s_stop
 obtain ⟨w3,hw3⟩:∃ w3:World,w3=w2.alloc (.cells #[O I 0,.slice none 0 0] 145):=⟨_,rfl⟩;rw [← hw3];have HE3:Hid (Edit (·=c) w w3):=zZ (HE2.out.trans (by rw [hw3];exact Edit.of ((Below.refl _ w2).alloc zY _)));have hsz3:w3.heap.size=w.heap.size+2:=by rw [hw3,World.size_alloc,hsz2]
 have HB3:Hid (Bx w3 w.heap.size 145 #[O I 0,.slice none 0 0]):=zZ (by rw [hw3];exact HB2.out.alloc _);have HN3:Hid (Bx w3 (w.heap.size+1) 145 #[O I 0,.slice none 0 0]):=zZ (by rw [hw3];rw [← hsz2];exact Bx.new _ _ _);have HC3:Hid (QIs w3 q c 247 cap (buf.extract 1 buf.size) cl):=zZ (by rw [hw3];exact HC2.out.edit (S:=fun _=>False) (Edit.of ((Below.refl _ w2).alloc zY _)) id id);clear hw3 HE2 HB2 HC2 hsz2;refine LoneTo.goes (n:=8) ?_
 s_in
 refine goes_oper_k rfl rfl zR (fun K hK=>?_);refine z0R _ _ 145 rfl (w.heap.size+1) 145 _ #[b0,b1] rfl rfl HN3.out zT rfl (by simp [ho.1,ho.2]) (hK _ _ ⟨trivial,?_⟩);clear hK K;obtain ⟨w4,hw4⟩:∃ w4:World,w4=w3.setRow (w.heap.size+1) #[b0,b1]:=⟨_,rfl⟩;have HN4:Hid (Bx w4 (w.heap.size+1) 145 #[b0,b1]):=zZ (by rw [hw4];exact HN3.out.row _);have HB4:Hid (Bx w4 w.heap.size 145 #[O I 0,.slice none 0 0]):=zZ (by rw [hw4];exact HB3.out.other zU _);have HE4:Hid (Edit (·=c) w w4):=zZ (by rw [hw4];exact HE3.out.row zU _);have HC4:Hid (QIs w4 q c 247 cap (buf.extract 1 buf.size) cl):=zZ (by rw [hw4];exact HC3.out.row hltq ⟨hlt,zU⟩ _);rw [← hw4];clear hw4 HN3 HB3 HE3 HC3
 walk_nrm
 s_op
 s_c stepG_region_end
 s_c stepG_seq
 s_reg
 s_in
 refine goes_oper_k rfl rfl zR (fun K hK=>?_);refine z2g _ 145 rfl (w.heap.size+1) 145 _ (0,0) _ rfl HN4.out underlying145 rfl zT (hK _ _ ⟨trivial,?_⟩);clear hK K
 walk_nrm
 s_op
 s_in
 refine goes_oper_k rfl rfl zR (fun K hK=>?_);refine z0R _ _ 145 rfl w.heap.size 145 _ #[b0,b1] rfl rfl HB4.out zT rfl (by simp [ho.1,ho.2]) (hK _ _ ⟨trivial,?_⟩);clear hK K
 walk_nrm
 s_stop
 obtain ⟨w5,hw5⟩:∃ w5:World,w5=w4.setRow w.heap.size #[b0,b1]:=⟨_,rfl⟩;have HB5:Hid (Bx w5 w.heap.size 145 #[b0,b1]):=zZ (by rw [hw5];exact HB4.out.row _);have HE5:Hid (Edit (·=c) w w5):=zZ (by rw [hw5];exact HE4.out.row zU _);have HC5:Hid (QIs w5 q c 247 cap (buf.extract 1 buf.size) cl):=zZ (by rw [hw5];exact HC4.out.row hltq ⟨hlt,zU⟩ _);rw [← hw5];clear hw5 HB4 HN4 HE4 HC4;refine LoneTo.goes (n:=3) ?_
 s_op
 s_c stepG_region_end
 s_c stepG_ret'
 s_stop
 refine LoneTo.done ⟨.returned (.tuple #[.agg #[b0,b1],.bool true]),_,rfl,⟨rfl,HC5.out,HE5.out⟩,rfl,rfl,rfl,rfl,_,func385,?_⟩;have hl:=run_loadVar_row (P:=prog) w5 w.heap.size 145 145 #[b0,b1] (0,0) _ HB5.out underlying145 rfl zT;simp [results,Tryz.f385,Frame.at,asAddr,hl,Result.andThen]
theorem y0l (q c cap:Nat) (buf:Array Value) (cl:Bool) (b0 b1:Value) (w:World) (hq:QIs w q c 250 cap buf cl) (h0:buf[0]?=some (.agg #[b0,b1])) (ho:b0.oneCell'=true/\b1.oneCell'=true) :
 Calls prog 394 #[.pointer (some ⟨q,0,none⟩)] w fun e w'=>e=.returned (.tuple #[.agg #[b0,b1],.bool true])/\QIs w' q c 250 cap (buf.extract 1 buf.size) cl/\Edit (·=c) w w':=by
 refine calls_of_loneTo fun cs=>?_
 have e:Frame.enter prog 394 #[.pointer (some ⟨q,0,none⟩)] .normal=(base 394).at ⟨#[.pointer (some ⟨q,0,none⟩),undef,undef,undef,undef,undef,undef,undef,undef,undef,undef,undef,undef,undef,undef,undef],[]⟩ [.code (Tryz.f394.body.getD .skip)]:=by
  simp [Frame.enter,Frame.at,func394,base,Tryz.f394]
 rw [e];clear e;obtain ⟨s,r,hc⟩:=hq.chan;have hlt:=(Array.getElem?_eq_some_iff.1 hc).1;have hltq:=hq.cells.lt;have hpos:0 < buf.size:=(Array.getElem?_eq_some_iff.1 h0).1;have hgd:buf.getD 0 undef=.agg #[b0,b1]:=by simp [Array.getD_eq_getD_getElem?,h0]
 obtain ⟨w1,hw1⟩:∃ w1:World,w1=w.alloc (.cells #[O I 0,.string ⟨#[]⟩] 149):=⟨_,rfl⟩;have he1:Edit (·=c) w w1:=by
  subst hw1;exact Edit.of ((Below.refl _ w).alloc zY _)
 have hq1:Bx w1 q 250 #[.chan (some c),.bool cl]:=hq.cells.edit he1 hq.ne;have hq10:=hq1.cell 0;have hc1:w1.heap[c]?=some (.chan cap buf cl s r false):=by subst hw1;simpa [blk_alloc_lt _ _ _ hlt] using hc
 simp at hq10;refine LoneTo.goes (n:=11) ?_;simp only [Tryz.f394,Option.getD_some]
 s_c stepG_seq
 s_reg
 s_op
 s_op
 s_c stepG_region_end
 s_c stepG_seq
 s_reg
 rw [← hw1];have HE1:=zZ he1;have HQ1:=zZ hq1;have HQ:=zZ hq;have HB1:Hid (Bx w1 w.heap.size 149 #[O I 0,.string ⟨#[]⟩]):=by rw [hw1];exact Bx.new _ _ _
 have HS1:Hid (w1.heap.size=w.heap.size+1):=zZ (by rw [hw1];simp);clear hq hq1 he1 hw1 hc
 s_op
 s_op
 s_op
 s_op
 s_stop
 refine LoneTo.step (step_lone_recv_buf true (c:=c) (z:=.agg #[O I 0,.string ⟨#[]⟩]) (stepG_comm (cases:=#[rcase c (.agg #[O I 0,.string ⟨#[]⟩])]) (blocking:=true) (shape:=.recv true) (w':=w1) rfl rfl zR (by simp [go_sem,rcase])) hc1 hpos) ?_;rw [Frame.finish_at];simp only [got,hgd,if_true]
 walk_nrm
 obtain ⟨w2,hw2⟩:∃ w2:World,w2=w1.setChan c cap (buf.extract 1 buf.size) cl s (r+1) false:=⟨_,rfl⟩;rw [← hw2];have HE2:Hid (Edit (·=c) w w2):=zZ (HE1.out.trans (by rw [hw2];exact Edit.chan _ _ _ _ _ _ _ _));have hsz2:w2.heap.size=w.heap.size+1:=by rw [hw2,size_setChan,HS1.out]
 have HB2:Hid (Bx w2 w.heap.size 149 #[O I 0,.string ⟨#[]⟩]):=zZ (HB1.out.edit (S:=(·=c)) (by rw [hw2];exact Edit.chan _ _ _ _ _ _ _ _) (show ¬ (w.heap.size=c) by omega));have HC2:Hid (QIs w2 q c 250 cap (buf.extract 1 buf.size) cl):=zZ ⟨HQ.out.cells.edit HE2.out HQ.out.ne,s,r+1,by rw [hw2];exact heap_setChan _ _ _ _ _ _ _ _ (Array.getElem?_eq_some_iff.1 hc1).1⟩;clear hw2 hq10 hc1 HE1 HQ1 HQ HB1 HS1;refine LoneTo.goes (n:=4) ?_
 s_op
 s_op
 s_op
 s_op
 s_stop
 obtain ⟨w3,hw3⟩:∃ w3:World,w3=w2.alloc (.cells #[O I 0,.string ⟨#[]⟩] 149):=⟨_,rfl⟩;rw [← hw3];have HE3:Hid (Edit (·=c) w w3):=zZ (HE2.out.trans (by rw [hw3];exact Edit.of ((Below.refl _ w2).alloc zY _)));have hsz3:w3.heap.size=w.heap.size+2:=by rw [hw3,World.size_alloc,hsz2]
 have HB3:Hid (Bx w3 w.heap.size 149 #[O I 0,.string ⟨#[]⟩]):=zZ (by rw [hw3];exact HB2.out.alloc _);have HN3:Hid (Bx w3 (w.heap.size+1) 149 #[O I 0,.string ⟨#[]⟩]):=zZ (by rw [hw3];rw [← hsz2];exact Bx.new _ _ _);have HC3:Hid (QIs w3 q c 250 cap (buf.extract 1 buf.size) cl):=zZ (by rw [hw3];exact HC2.out.edit (S:=fun _=>False) (Edit.of ((Below.refl _ w2).alloc zY _)) id id);clear hw3 HE2 HB2 HC2 hsz2;refine LoneTo.goes (n:=8) ?_
 s_in
 refine goes_oper_k rfl rfl zR (fun K hK=>?_);refine z0R _ _ 149 rfl (w.heap.size+1) 149 _ #[b0,b1] rfl rfl HN3.out zT rfl (by simp [ho.1,ho.2]) (hK _ _ ⟨trivial,?_⟩);clear hK K;obtain ⟨w4,hw4⟩:∃ w4:World,w4=w3.setRow (w.heap.size+1) #[b0,b1]:=⟨_,rfl⟩;have HN4:Hid (Bx w4 (w.heap.size+1) 149 #[b0,b1]):=zZ (by rw [hw4];exact HN3.out.row _);have HB4:Hid (Bx w4 w.heap.size 149 #[O I 0,.string ⟨#[]⟩]):=zZ (by rw [hw4];exact HB3.out.other zU _);have HE4:Hid (Edit (·=c) w w4):=zZ (by rw [hw4];exact HE3.out.row zU _);have HC4:Hid (QIs w4 q c 250 cap (buf.extract 1 buf.size) cl):=zZ (by rw [hw4];exact HC3.out.row hltq ⟨hlt,zU⟩ _);rw [← hw4];clear hw4 HN3 HB3 HE3 HC3
 walk_nrm
 s_op
 s_c stepG_region_end
 s_c stepG_seq
 s_reg
 s_in
 refine goes_oper_k rfl rfl zR (fun K hK=>?_);refine z2g _ 149 rfl (w.heap.size+1) 149 _ (0,0) _ rfl HN4.out underlying149 rfl zT (hK _ _ ⟨trivial,?_⟩);clear hK K
 walk_nrm
 s_op
 s_in
 refine goes_oper_k rfl rfl zR (fun K hK=>?_);refine z0R _ _ 149 rfl w.heap.size 149 _ #[b0,b1] rfl rfl HB4.out zT rfl (by simp [ho.1,ho.2]) (hK _ _ ⟨trivial,?_⟩);clear hK K
 walk_nrm
 s_stop
 obtain ⟨w5,hw5⟩:∃ w5:World,w5=w4.setRow w.heap.size #[b0,b1]:=⟨_,rfl⟩;have HB5:Hid (Bx w5 w.heap.size 149 #[b0,b1]):=zZ (by rw [hw5];exact HB4.out.row _);have HE5:Hid (Edit (·=c) w w5):=zZ (by rw [hw5];exact HE4.out.row zU _);have HC5:Hid (QIs w5 q c 250 cap (buf.extract 1 buf.size) cl):=zZ (by rw [hw5];exact HC4.out.row hltq ⟨hlt,zU⟩ _);rw [← hw5];clear hw5 HB4 HN4 HE4 HC4;refine LoneTo.goes (n:=3) ?_
 s_op
 s_c stepG_region_end
 s_c stepG_ret'
 s_stop
 refine LoneTo.done ⟨.returned (.tuple #[.agg #[b0,b1],.bool true]),_,rfl,⟨rfl,HC5.out,HE5.out⟩,rfl,rfl,rfl,rfl,_,func394,?_⟩;have hl:=run_loadVar_row (P:=prog) w5 w.heap.size 149 149 #[b0,b1] (0,0) _ HB5.out underlying149 rfl zT;simp [results,Tryz.f394,Frame.at,asAddr,hl,Result.andThen]
theorem z7a (q c cap:Nat) (w:World) (hq:QIs w q c 247 cap #[] true) :
 Calls prog 385 #[.pointer (some ⟨q,0,none⟩)] w fun e w'=>e=.returned (.tuple #[.agg #[O I 0,.slice none 0 0],.bool false])/\QIs w' q c 247 cap #[] true/\Edit (·=c) w w':=by
 refine calls_of_loneTo fun cs=>?_
 have e:Frame.enter prog 385 #[.pointer (some ⟨q,0,none⟩)] .normal=(base 385).at ⟨#[.pointer (some ⟨q,0,none⟩),undef,undef,undef,undef,undef,undef,undef,undef,undef,undef,undef,undef,undef,undef,undef],[]⟩ [.code (Tryz.f385.body.getD .skip)]:=by
  simp [Frame.enter,Frame.at,func385,base,Tryz.f385]
 rw [e];clear e;obtain ⟨s,r,hc⟩:=hq.chan;have hlt:=(Array.getElem?_eq_some_iff.1 hc).1;have hltq:=hq.cells.lt;obtain ⟨w1,hw1⟩:∃ w1:World,w1=w.alloc (.cells #[O I 0,.slice none 0 0] 145):=⟨_,rfl⟩;have he1:Edit (·=c) w w1:=by
  subst hw1;exact Edit.of ((Below.refl _ w).alloc zY _)
 have hq1:Bx w1 q 247 #[.chan (some c),.bool true]:=hq.cells.edit he1 hq.ne;have hq10:=hq1.cell 0;have hc1:w1.heap[c]?=some (.chan cap #[] true s r false):=by subst hw1;simpa [blk_alloc_lt _ _ _ hlt] using hc
 simp at hq10;refine LoneTo.goes (n:=11) ?_;simp only [Tryz.f385,Option.getD_some]
 s_c stepG_seq
 s_reg
 s_op
 s_op
 s_c stepG_region_end
 s_c stepG_seq
 s_reg
 rw [← hw1];have HE1:=zZ he1;have HQ1:=zZ hq1;have HQ:=zZ hq;have HB1:Hid (Bx w1 w.heap.size 145 #[O I 0,.slice none 0 0]):=by rw [hw1];exact Bx.new _ _ _
 have HS1:Hid (w1.heap.size=w.heap.size+1):=zZ (by rw [hw1];simp);clear hq hq1 he1 hw1 hc
 s_op
 s_op
 s_op
 s_op
 s_stop
 refine LoneTo.step (step_lone_recv_shut true (c:=c) (z:=.agg #[O I 0,.slice none 0 0]) (stepG_comm (cases:=#[rcase c (.agg #[O I 0,.slice none 0 0])]) (blocking:=true) (shape:=.recv true) (w':=w1) rfl rfl zR (by simp [go_sem,rcase])) hc1) ?_;rw [Frame.finish_at];simp only [got,if_true]
 walk_nrm
 obtain ⟨w2,hw2⟩:∃ w2:World,w2=w1:=⟨_,rfl⟩;rw [← hw2];have HE2:Hid (Edit (·=c) w w2):=zZ (HE1.out.trans (by rw [hw2];exact Edit.refl _ _));have hsz2:w2.heap.size=w.heap.size+1:=by rw [hw2,HS1.out]
 have HB2:Hid (Bx w2 w.heap.size 145 #[O I 0,.slice none 0 0]):=zZ (HB1.out.edit (S:=(·=c)) (by rw [hw2];exact Edit.refl _ _) (show ¬ (w.heap.size=c) by omega));have HC2:Hid (QIs w2 q c 247 cap #[] true):=zZ ⟨HQ.out.cells.edit HE2.out HQ.out.ne,s,r,by rw [hw2];exact hc1⟩;clear hw2 hq10 hc1 HE1 HQ1 HQ HB1 HS1;refine LoneTo.goes (n:=4) ?_
 s_op
 s_op
 s_op
 s_op
 s_stop
 obtain ⟨w3,hw3⟩:∃ w3:World,w3=w2.alloc (.cells #[O I 0,.slice none 0 0] 145):=⟨_,rfl⟩;rw [← hw3];have HE3:Hid (Edit (·=c) w w3):=zZ (HE2.out.trans (by rw [hw3];exact Edit.of ((Below.refl _ w2).alloc zY _)));have hsz3:w3.heap.size=w.heap.size+2:=by rw [hw3,World.size_alloc,hsz2]
 have HB3:Hid (Bx w3 w.heap.size 145 #[O I 0,.slice none 0 0]):=zZ (by rw [hw3];exact HB2.out.alloc _);have HN3:Hid (Bx w3 (w.heap.size+1) 145 #[O I 0,.slice none 0 0]):=zZ (by rw [hw3];rw [← hsz2];exact Bx.new _ _ _);have HC3:Hid (QIs w3 q c 247 cap #[] true):=zZ (by rw [hw3];exact HC2.out.edit (S:=fun _=>False) (Edit.of ((Below.refl _ w2).alloc zY _)) id id);clear hw3 HE2 HB2 HC2 hsz2;refine LoneTo.goes (n:=8) ?_
 s_in
 refine goes_oper_k rfl rfl zR (fun K hK=>?_);refine z0R _ _ 145 rfl (w.heap.size+1) 145 _ #[O I 0,.slice none 0 0] rfl rfl HN3.out zT rfl (by rfl) (hK _ _ ⟨trivial,?_⟩);clear hK K;obtain ⟨w4,hw4⟩:∃ w4:World,w4=w3.setRow (w.heap.size+1) #[O I 0,.slice none 0 0]:=⟨_,rfl⟩;have HN4:Hid (Bx w4 (w.heap.size+1) 145 #[O I 0,.slice none 0 0]):=zZ (by rw [hw4];exact HN3.out.row _);have HB4:Hid (Bx w4 w.heap.size 145 #[O I 0,.slice none 0 0]):=zZ (by rw [hw4];exact HB3.out.other zU _);have HE4:Hid (Edit (·=c) w w4):=zZ (by rw [hw4];exact HE3.out.row zU _);have HC4:Hid (QIs w4 q c 247 cap #[] true):=zZ (by rw [hw4];exact HC3.out.row hltq ⟨hlt,zU⟩ _);rw [← hw4];clear hw4 HN3 HB3 HE3 HC3
 walk_nrm
 s_op
 s_c stepG_region_end
 s_c stepG_seq
 s_reg
 s_in
 refine goes_oper_k rfl rfl zR (fun K hK=>?_);refine z2g _ 145 rfl (w.heap.size+1) 145 _ (0,0) _ rfl HN4.out underlying145 rfl zT (hK _ _ ⟨trivial,?_⟩);clear hK K
 walk_nrm
 s_op
 s_in
 refine goes_oper_k rfl rfl zR (fun K hK=>?_);refine z0R _ _ 145 rfl w.heap.size 145 _ #[O I 0,.slice none 0 0] rfl rfl HB4.out zT rfl (by rfl) (hK _ _ ⟨trivial,?_⟩);clear hK K
 walk_nrm
 s_stop
 obtain ⟨w5,hw5⟩:∃ w5:World,w5=w4.setRow w.heap.size #[O I 0,.slice none 0 0]:=⟨_,rfl⟩;have HB5:Hid (Bx w5 w.heap.size 145 #[O I 0,.slice none 0 0]):=zZ (by rw [hw5];exact HB4.out.row _);have HE5:Hid (Edit (·=c) w w5):=zZ (by rw [hw5];exact HE4.out.row zU _);have HC5:Hid (QIs w5 q c 247 cap #[] true):=zZ (by rw [hw5];exact HC4.out.row hltq ⟨hlt,zU⟩ _);rw [← hw5];clear hw5 HB4 HN4 HE4 HC4;refine LoneTo.goes (n:=3) ?_
 s_op
 s_c stepG_region_end
 s_c stepG_ret'
 s_stop
 refine LoneTo.done ⟨.returned (.tuple #[.agg #[O I 0,.slice none 0 0],.bool false]),_,rfl,⟨rfl,HC5.out,HE5.out⟩,rfl,rfl,rfl,rfl,_,func385,?_⟩;have hl:=run_loadVar_row (P:=prog) w5 w.heap.size 145 145 #[O I 0,.slice none 0 0] (0,0) _ HB5.out underlying145 rfl zT;simp [results,Tryz.f385,Frame.at,asAddr,hl,Result.andThen]
theorem y0m (q c cap:Nat) (w:World) (hq:QIs w q c 250 cap #[] true) :
 Calls prog 394 #[.pointer (some ⟨q,0,none⟩)] w fun e w'=>e=.returned (.tuple #[.agg #[O I 0,.string ⟨#[]⟩],.bool false])/\QIs w' q c 250 cap #[] true/\Edit (·=c) w w':=by
 refine calls_of_loneTo fun cs=>?_
 have e:Frame.enter prog 394 #[.pointer (some ⟨q,0,none⟩)] .normal=(base 394).at ⟨#[.pointer (some ⟨q,0,none⟩),undef,undef,undef,undef,undef,undef,undef,undef,undef,undef,undef,undef,undef,undef,undef],[]⟩ [.code (Tryz.f394.body.getD .skip)]:=by
  simp [Frame.enter,Frame.at,func394,base,Tryz.f394]
 rw [e];clear e;obtain ⟨s,r,hc⟩:=hq.chan;have hlt:=(Array.getElem?_eq_some_iff.1 hc).1;have hltq:=hq.cells.lt;obtain ⟨w1,hw1⟩:∃ w1:World,w1=w.alloc (.cells #[O I 0,.string ⟨#[]⟩] 149):=⟨_,rfl⟩;have he1:Edit (·=c) w w1:=by
  subst hw1;exact Edit.of ((Below.refl _ w).alloc zY _)
 have hq1:Bx w1 q 250 #[.chan (some c),.bool true]:=hq.cells.edit he1 hq.ne;have hq10:=hq1.cell 0;have hc1:w1.heap[c]?=some (.chan cap #[] true s r false):=by subst hw1;simpa [blk_alloc_lt _ _ _ hlt] using hc
 simp at hq10;refine LoneTo.goes (n:=11) ?_;simp only [Tryz.f394,Option.getD_some]
 s_c stepG_seq
 s_reg
 s_op
 s_op
 s_c stepG_region_end
 s_c stepG_seq
 s_reg
 rw [← hw1];have HE1:=zZ he1;have HQ1:=zZ hq1;have HQ:=zZ hq;have HB1:Hid (Bx w1 w.heap.size 149 #[O I 0,.string ⟨#[]⟩]):=by rw [hw1];exact Bx.new _ _ _
 have HS1:Hid (w1.heap.size=w.heap.size+1):=zZ (by rw [hw1];simp);clear hq hq1 he1 hw1 hc
 s_op
 s_op
 s_op
 s_op
 s_stop
 refine LoneTo.step (step_lone_recv_shut true (c:=c) (z:=.agg #[O I 0,.string ⟨#[]⟩]) (stepG_comm (cases:=#[rcase c (.agg #[O I 0,.string ⟨#[]⟩])]) (blocking:=true) (shape:=.recv true) (w':=w1) rfl rfl zR (by simp [go_sem,rcase])) hc1) ?_;rw [Frame.finish_at];simp only [got,if_true]
 walk_nrm
 obtain ⟨w2,hw2⟩:∃ w2:World,w2=w1:=⟨_,rfl⟩;rw [← hw2];have HE2:Hid (Edit (·=c) w w2):=zZ (HE1.out.trans (by rw [hw2];exact Edit.refl _ _));have hsz2:w2.heap.size=w.heap.size+1:=by rw [hw2,HS1.out]
 have HB2:Hid (Bx w2 w.heap.size 149 #[O I 0,.string ⟨#[]⟩]):=zZ (HB1.out.edit (S:=(·=c)) (by rw [hw2];exact Edit.refl _ _) (show ¬ (w.heap.size=c) by omega));have HC2:Hid (QIs w2 q c 250 cap #[] true):=zZ ⟨HQ.out.cells.edit HE2.out HQ.out.ne,s,r,by rw [hw2];exact hc1⟩;clear hw2 hq10 hc1 HE1 HQ1 HQ HB1 HS1;refine LoneTo.goes (n:=4) ?_
 s_op
 s_op
 s_op
 s_op
 s_stop
 obtain ⟨w3,hw3⟩:∃ w3:World,w3=w2.alloc (.cells #[O I 0,.string ⟨#[]⟩] 149):=⟨_,rfl⟩;rw [← hw3];have HE3:Hid (Edit (·=c) w w3):=zZ (HE2.out.trans (by rw [hw3];exact Edit.of ((Below.refl _ w2).alloc zY _)));have hsz3:w3.heap.size=w.heap.size+2:=by rw [hw3,World.size_alloc,hsz2]
 have HB3:Hid (Bx w3 w.heap.size 149 #[O I 0,.string ⟨#[]⟩]):=zZ (by rw [hw3];exact HB2.out.alloc _);have HN3:Hid (Bx w3 (w.heap.size+1) 149 #[O I 0,.string ⟨#[]⟩]):=zZ (by rw [hw3];rw [← hsz2];exact Bx.new _ _ _);have HC3:Hid (QIs w3 q c 250 cap #[] true):=zZ (by rw [hw3];exact HC2.out.edit (S:=fun _=>False) (Edit.of ((Below.refl _ w2).alloc zY _)) id id);clear hw3 HE2 HB2 HC2 hsz2;refine LoneTo.goes (n:=8) ?_
 s_in
 refine goes_oper_k rfl rfl zR (fun K hK=>?_);refine z0R _ _ 149 rfl (w.heap.size+1) 149 _ #[O I 0,.string ⟨#[]⟩] rfl rfl HN3.out zT rfl (by rfl) (hK _ _ ⟨trivial,?_⟩);clear hK K;obtain ⟨w4,hw4⟩:∃ w4:World,w4=w3.setRow (w.heap.size+1) #[O I 0,.string ⟨#[]⟩]:=⟨_,rfl⟩;have HN4:Hid (Bx w4 (w.heap.size+1) 149 #[O I 0,.string ⟨#[]⟩]):=zZ (by rw [hw4];exact HN3.out.row _);have HB4:Hid (Bx w4 w.heap.size 149 #[O I 0,.string ⟨#[]⟩]):=zZ (by rw [hw4];exact HB3.out.other zU _);have HE4:Hid (Edit (·=c) w w4):=zZ (by rw [hw4];exact HE3.out.row zU _);have HC4:Hid (QIs w4 q c 250 cap #[] true):=zZ (by rw [hw4];exact HC3.out.row hltq ⟨hlt,zU⟩ _);rw [← hw4];clear hw4 HN3 HB3 HE3 HC3
 walk_nrm
 s_op
 s_c stepG_region_end
 s_c stepG_seq
 s_reg
 s_in
 refine goes_oper_k rfl rfl zR (fun K hK=>?_);refine z2g _ 149 rfl (w.heap.size+1) 149 _ (0,0) _ rfl HN4.out underlying149 rfl zT (hK _ _ ⟨trivial,?_⟩);clear hK K
 walk_nrm
 s_op
 s_in
 refine goes_oper_k rfl rfl zR (fun K hK=>?_);refine z0R _ _ 149 rfl w.heap.size 149 _ #[O I 0,.string ⟨#[]⟩] rfl rfl HB4.out zT rfl (by rfl) (hK _ _ ⟨trivial,?_⟩);clear hK K
 walk_nrm
 s_stop
 obtain ⟨w5,hw5⟩:∃ w5:World,w5=w4.setRow w.heap.size #[O I 0,.string ⟨#[]⟩]:=⟨_,rfl⟩;have HB5:Hid (Bx w5 w.heap.size 149 #[O I 0,.string ⟨#[]⟩]):=zZ (by rw [hw5];exact HB4.out.row _);have HE5:Hid (Edit (·=c) w w5):=zZ (by rw [hw5];exact HE4.out.row zU _);have HC5:Hid (QIs w5 q c 250 cap #[] true):=zZ (by rw [hw5];exact HC4.out.row hltq ⟨hlt,zU⟩ _);rw [← hw5];clear hw5 HB4 HN4 HE4 HC4;refine LoneTo.goes (n:=3) ?_
 s_op
 s_c stepG_region_end
 s_c stepG_ret'
 s_stop
 refine LoneTo.done ⟨.returned (.tuple #[.agg #[O I 0,.string ⟨#[]⟩],.bool false]),_,rfl,⟨rfl,HC5.out,HE5.out⟩,rfl,rfl,rfl,rfl,_,func394,?_⟩;have hl:=run_loadVar_row (P:=prog) w5 w.heap.size 149 149 #[O I 0,.string ⟨#[]⟩] (0,0) _ HB5.out underlying149 rfl zT;simp [results,Tryz.f394,Frame.at,asAddr,hl,Result.andThen]
theorem z3G (w:World) (c cap:Nat) (buf:Array Value) (cl:Bool) (s r:Nat) (h:w.heap[c]?=some (.chan cap buf cl s r false)) (t:TypeId) (d:TypeDesc) (ty:TypeId) (hu:prog.underlying t=some d) (hd:(match d with | .chan _ _=>true | _=>false)=true) :
 (Builtin.len_ #[t] ty #[.chan (some c)]).run prog w=.ok (O I buf.size) w:=by
 cases d <;> simp at hd
 simp [Builtin.len_,underlying,hu,goInt,getObj,Sem.run,h,Result.andThen]
theorem y1C (w:World) (c cap:Nat) (buf:Array Value) (cl:Bool) (s r:Nat) (h:w.heap[c]?=some (.chan cap buf cl s r false)) (t:TypeId) (d:TypeDesc) (ty:TypeId) (hu:prog.underlying t=some d) (hd:(match d with | .chan _ _=>true | _=>false)=true) :
 (Builtin.cap_ #[t] ty #[.chan (some c)]).run prog w=.ok (O I cap) w:=by
 cases d <;> simp at hd
 simp [Builtin.cap_,underlying,hu,goInt,getObj,Sem.run,h,Result.andThen]
theorem z6h (q c cap:Nat) (buf:Array Value) (cl:Bool) (w:World) (hq:QIs w q c 247 cap buf cl) :
 Calls prog 108 #[.pointer (some ⟨q,0,none⟩)] w fun e w'=>e=.returned (O I buf.size)/\w'=w:=by
 obtain ⟨s,r,hc⟩:=hq.chan;have x0:=hq.cells.cell 0;simp at x0;have hln:∀ ty,(Builtin.len_ #[245] ty #[.chan (some c)]).run prog w=.ok (O I buf.size) w:=fun ty=>z3G w c cap buf cl s r hc 245 _ ty underlying245 rfl
 clear hq hc
 go_enter func108,ntmps108
 go_wp2;go_ret;exact ⟨rfl,rfl⟩
theorem z7b (q c cap:Nat) (buf:Array Value) (cl:Bool) (w:World) (hq:QIs w q c 247 cap buf cl) :
 Calls prog 378 #[.pointer (some ⟨q,0,none⟩)] w fun e w'=>e=.returned (.bool (decide (buf.size=cap)))/\∃ m,w'=w.drewN m:=by
 obtain ⟨s,r,hc⟩:=hq.chan;have x0:=hq.cells.cell 0;simp at x0;have hln:∀ (u:World) ty,u.heap[c]?=some (.chan cap buf cl s r false)->(Builtin.len_ #[245] ty #[.chan (some c)]).run prog u=.ok (O I buf.size) u:=fun u ty h=>z3G u c cap buf cl s r h 245 _ ty underlying245 rfl
 have hcp:∀ (u:World) ty,u.heap[c]?=some (.chan cap buf cl s r false)->(Builtin.cap_ #[245] ty #[.chan (some c)]).run prog u=.ok (O I cap) u:=fun u ty h=>y1C u c cap buf cl s r h 245 _ ty underlying245 rfl
 clear hq
 go_enter func378,ntmps378
 go_wp2
 go_quiet (fail)
 go_wp2;go_ret;refine ⟨?_,nq,rfl⟩
 by_cases h:buf.size=cap
 . simp [h]
 . have h2:¬ ((buf.size:Int)=(cap:Int)):=zU
   simp [h,h2]
theorem z4s (q c cap:Nat) (buf:Array Value) (cl:Bool) (w:World) (hq:QIs w q c 247 cap buf cl) :
 Calls prog 384 #[.pointer (some ⟨q,0,none⟩)] w fun e w'=>e=.returned (.bool (decide (0 < buf.size) || cl))/\w'=w:=by
 obtain ⟨s,r,hc⟩:=hq.chan;have x0:=hq.cells.cell 0;have x1:=hq.cells.cell 1;simp at x0 x1;have hln:∀ ty,(Builtin.len_ #[245] ty #[.chan (some c)]).run prog w=.ok (O I buf.size) w:=fun ty=>z3G w c cap buf cl s r hc 245 _ ty underlying245 rfl
 clear hq hc
 by_cases h:0 < buf.size
 . have h1:decide ((0:Int) < (buf.size:Int))=true:=zL zU
   go_enter func384,ntmps384
   go_wp2;go_ret;exact ⟨by simp [h],rfl⟩
 . have h1:decide ((0:Int) < (buf.size:Int))=false:=zM zU
   go_enter func384,ntmps384
   go_wp2;go_ret;exact ⟨by simp [h],rfl⟩
theorem z6i (q c cap:Nat) (buf:Array Value) (w:World) (hq:QIs w q c 247 cap buf false) :
 Calls prog 371 #[.pointer (some ⟨q,0,none⟩)] w fun e w'=>e=.returned (.tuple #[])/\QIs w' q c 247 cap buf true/\Edit (fun k=>k=q∨k=c) w w':=by
 obtain ⟨s,r,hc⟩:=hq.chan;have x0:=hq.cells.cell 0;have x1:=hq.cells.cell 1;simp at x0 x1;have hf:=hq.cells.free 1;have y0:=(hq.cells.set 1 (.bool true)).cell 0;simp at y0;have hne:=hq.ne;have hc1:(w.setCell ⟨q,1,none⟩ (.bool true)).heap[c]?=some (.chan cap buf false s r false):=(blk_setCell_other _ _ _ _ (Ne.symm hne)).trans hc;have hcl:∀ ty,(Builtin.close_ #[245] ty #[.chan (some c)]).run prog (w.setCell ⟨q,1,none⟩ (.bool true))=.ok (.tuple #[]) ((w.setCell ⟨q,1,none⟩ (.bool true)).setChan c cap buf true s r false):=fun ty=>by rw [run_close_open _ ty hc1];rfl
 have HR:Hid (QIs ((w.setCell ⟨q,1,none⟩ (.bool true)).setChan c cap buf true s r false) q c 247 cap buf true/\Edit (fun k=>k=q∨k=c) w ((w.setCell ⟨q,1,none⟩ (.bool true)).setChan c cap buf true s r false)) :=
  zZ ⟨⟨(hq.cells.set 1 (.bool true)).edit (Edit.chan _ _ _ _ _ _ _ _) hne,s,r,heap_setChan _ _ _ _ _ _ _ _ (Array.getElem?_eq_some_iff.1 hc1).1⟩,((Edit.refl _ w).cell (Or.inl (Or.inl rfl)) 1 _).trans ((Edit.chan _ _ _ _ _ _ _ _).mono fun k hk=>Or.inr hk)⟩
 clear hq hc hc1 hne
 go_enter func371,ntmps371
 go_wp2;go_end0;exact ⟨rfl,HR.out⟩
theorem z6E (room:Nat) (hr:room<=300) (w:World) :
 Calls prog 100 #[O I room] w fun e w'=>e=.returned (.pointer (some ⟨w.heap.size+1,0,none⟩))/\QIs w' (w.heap.size+1) w.heap.size 247 room #[] false/\Below w.heap.size w w'/\w'.heap.size=w.heap.size+2:=by
 have hmk:(Instr.makeChan 245 (O I room)).run prog w=.ok (.chan (some w.heap.size)) (w.alloc (.chan room #[] false 0 0 false)):=by
  have h:(prog.info? 145).map (fun i=>decide (i.bytes<=32))=some true:=zT
  obtain ⟨i,hi,hb⟩:=Option.map_eq_some_iff.1 h;have hb':i.bytes<=32:=of_decide_eq_true hb;refine run_makeChan (P:=prog) (w:=w) underlying245 hi .i64 room zU ?_;have h1:(i.bytes:Int) * room<=32 * 300:=Int.mul_le_mul zU zU zU zU;omega
 go_enter func100,ntmps100
 go_wp2;go_ret;refine ⟨by simp,⟨?_,0,0,?_⟩,((Below.refl _ w).alloc zY _).alloc (by simp) _,by simp⟩
 . have:=Bx.new (w.alloc (.chan room #[] false 0 0 false)) #[.chan (some w.heap.size),.bool false] 247
   simpa using this
 . rw [blk_alloc_lt _ _ _ (by simp)]
   exact blk_alloc_new _ _
theorem z9e (q c cap:Nat) (buf:Array Value) (cl:Bool) (w:World) (hq:QIs w q c 250 cap buf cl) :
 Calls prog 109 #[.pointer (some ⟨q,0,none⟩)] w fun e w'=>e=.returned (O I buf.size)/\w'=w:=by
 obtain ⟨s,r,hc⟩:=hq.chan;have x0:=hq.cells.cell 0;simp at x0;have hln:∀ ty,(Builtin.len_ #[248] ty #[.chan (some c)]).run prog w=.ok (O I buf.size) w:=fun ty=>z3G w c cap buf cl s r hc 248 _ ty underlying248 rfl
 clear hq hc
 go_enter func109,ntmps109
 go_wp2;go_ret;exact ⟨rfl,rfl⟩
theorem y0n (q c cap:Nat) (buf:Array Value) (cl:Bool) (w:World) (hq:QIs w q c 250 cap buf cl) :
 Calls prog 413 #[.pointer (some ⟨q,0,none⟩)] w fun e w'=>e=.returned (.bool (decide (buf.size=cap)))/\∃ m,w'=w.drewN m:=by
 obtain ⟨s,r,hc⟩:=hq.chan;have x0:=hq.cells.cell 0;simp at x0;have hln:∀ (u:World) ty,u.heap[c]?=some (.chan cap buf cl s r false)->(Builtin.len_ #[248] ty #[.chan (some c)]).run prog u=.ok (O I buf.size) u:=fun u ty h=>z3G u c cap buf cl s r h 248 _ ty underlying248 rfl
 have hcp:∀ (u:World) ty,u.heap[c]?=some (.chan cap buf cl s r false)->(Builtin.cap_ #[248] ty #[.chan (some c)]).run prog u=.ok (O I cap) u:=fun u ty h=>y1C u c cap buf cl s r h 248 _ ty underlying248 rfl
 clear hq
 go_enter func413,ntmps413
 go_wp2
 go_quiet (fail)
 go_wp2;go_ret;refine ⟨?_,nq,rfl⟩
 by_cases h:buf.size=cap
 . simp [h]
 . have h2:¬ ((buf.size:Int)=(cap:Int)):=zU
   simp [h,h2]
theorem z6F (q c cap:Nat) (buf:Array Value) (cl:Bool) (w:World) (hq:QIs w q c 250 cap buf cl) :
 Calls prog 389 #[.pointer (some ⟨q,0,none⟩)] w fun e w'=>e=.returned (.bool (decide (0 < buf.size) || cl))/\w'=w:=by
 obtain ⟨s,r,hc⟩:=hq.chan;have x0:=hq.cells.cell 0;have x1:=hq.cells.cell 1;simp at x0 x1;have hln:∀ ty,(Builtin.len_ #[248] ty #[.chan (some c)]).run prog w=.ok (O I buf.size) w:=fun ty=>z3G w c cap buf cl s r hc 248 _ ty underlying248 rfl
 clear hq hc
 by_cases h:0 < buf.size
 . have h1:decide ((0:Int) < (buf.size:Int))=true:=zL zU
   go_enter func389,ntmps389
   go_wp2;go_ret;exact ⟨by simp [h],rfl⟩
 . have h1:decide ((0:Int) < (buf.size:Int))=false:=zM zU
   go_enter func389,ntmps389
   go_wp2;go_ret;exact ⟨by simp [h],rfl⟩
theorem z9f (q c cap:Nat) (buf:Array Value) (w:World) (hq:QIs w q c 250 cap buf false) :
 Calls prog 372 #[.pointer (some ⟨q,0,none⟩)] w fun e w'=>e=.returned (.tuple #[])/\QIs w' q c 250 cap buf true/\Edit (fun k=>k=q∨k=c) w w':=by
 obtain ⟨s,r,hc⟩:=hq.chan;have x0:=hq.cells.cell 0;have x1:=hq.cells.cell 1;simp at x0 x1;have hf:=hq.cells.free 1;have y0:=(hq.cells.set 1 (.bool true)).cell 0;simp at y0;have hne:=hq.ne;have hc1:(w.setCell ⟨q,1,none⟩ (.bool true)).heap[c]?=some (.chan cap buf false s r false):=(blk_setCell_other _ _ _ _ (Ne.symm hne)).trans hc;have hcl:∀ ty,(Builtin.close_ #[248] ty #[.chan (some c)]).run prog (w.setCell ⟨q,1,none⟩ (.bool true))=.ok (.tuple #[]) ((w.setCell ⟨q,1,none⟩ (.bool true)).setChan c cap buf true s r false):=fun ty=>by rw [run_close_open _ ty hc1];rfl
 have HR:Hid (QIs ((w.setCell ⟨q,1,none⟩ (.bool true)).setChan c cap buf true s r false) q c 250 cap buf true/\Edit (fun k=>k=q∨k=c) w ((w.setCell ⟨q,1,none⟩ (.bool true)).setChan c cap buf true s r false)) :=
  zZ ⟨⟨(hq.cells.set 1 (.bool true)).edit (Edit.chan _ _ _ _ _ _ _ _) hne,s,r,heap_setChan _ _ _ _ _ _ _ _ (Array.getElem?_eq_some_iff.1 hc1).1⟩,((Edit.refl _ w).cell (Or.inl (Or.inl rfl)) 1 _).trans ((Edit.chan _ _ _ _ _ _ _ _).mono fun k hk=>Or.inr hk)⟩
 clear hq hc hc1 hne
 go_enter func372,ntmps372
 go_wp2;go_end0;exact ⟨rfl,HR.out⟩
theorem z6j (room:Nat) (hr:room<=300) (w:World) :
 Calls prog 101 #[O I room] w fun e w'=>e=.returned (.pointer (some ⟨w.heap.size+1,0,none⟩))/\QIs w' (w.heap.size+1) w.heap.size 250 room #[] false/\Below w.heap.size w w'/\w'.heap.size=w.heap.size+2:=by
 have hmk:(Instr.makeChan 248 (O I room)).run prog w=.ok (.chan (some w.heap.size)) (w.alloc (.chan room #[] false 0 0 false)):=by
  have h:(prog.info? 149).map (fun i=>decide (i.bytes<=32))=some true:=zT
  obtain ⟨i,hi,hb⟩:=Option.map_eq_some_iff.1 h;have hb':i.bytes<=32:=of_decide_eq_true hb;refine run_makeChan (P:=prog) (w:=w) underlying248 hi .i64 room zU ?_;have h1:(i.bytes:Int) * room<=32 * 300:=Int.mul_le_mul zU zU zU zU;omega
 go_enter func101,ntmps101
 go_wp2;go_ret;refine ⟨by simp,⟨?_,0,0,?_⟩,((Below.refl _ w).alloc zY _).alloc (by simp) _,by simp⟩
 . have:=Bx.new (w.alloc (.chan room #[] false 0 0 false)) #[.chan (some w.heap.size),.bool false] 250
   simpa using this
 . rw [blk_alloc_lt _ _ _ (by simp)]
   exact blk_alloc_new _ _
end Go.Proofs.YtlncjgnomhpjnabGreatDoor
namespace Go.Proofs.YtlncjgnomhpjnabGreatDoor
open Go.Value renaming int → O
open Go.IntKind renaming i64 → I
open Go.Proofs.Tryz
open Go.RowKit Go.Deep
set_option linter.unusedVariables false
structure Lpar where
 N:Nat
 W:Nat
 Wd:Nat
 Rm:Nat
 fail:Int
structure Lst where
 given:Nat
 summed:Nat
 jobs:List Nat
 lane:List Nat
 ready:List Nat
 shelf:List Nat
 held:Nat->Option Nat
 e0:Bool
 e1:Bool
 e2:Bool
 ew:Nat->Bool
 begun:Bool
 stopped:Bool
 failed:Bool
 writes:Nat
 wrote:Nat
 hd:Nat
def Lst.init:Lst:=⟨0,0,[],[],[],[],fun _=>none,false,false,false,fun _=>false,false,false,false,0,0,0⟩
abbrev LAct:=Nat × Nat
abbrev LAct.end0:LAct:=(0,0)
abbrev LAct.give:LAct:=(1,0)
abbrev LAct.sum:LAct:=(2,0)
abbrev LAct.begin:LAct:=(3,0)
abbrev LAct.write:LAct:=(4,0)
abbrev LAct.shelve:LAct:=(5,0)
abbrev LAct.takeW (j:Nat):LAct:=(6,j)
abbrev LAct.letGo (j:Nat):LAct:=(7,j)
abbrev LAct.hand (j:Nat):LAct:=(8,j)
theorem LAct.on {P:LAct->Prop} (end0:∀ j,P (0,j)) (give:∀ j,P (1,j)) (sum:∀ j,P (2,j)) (begin:∀ j,P (3,j)) (write:∀ j,P (4,j)) (shelve:∀ j,P (5,j)) (takeW:∀ j,P (6,j)) (letGo:∀ j,P (7,j)) (hand:∀ n j,P (n+8,j)):∀ c:LAct,P c
 | (0,j)=>end0 j
 | (1,j)=>give j
 | (2,j)=>sum j
 | (3,j)=>begin j
 | (4,j)=>write j
 | (5,j)=>shelve j
 | (6,j)=>takeW j
 | (7,j)=>letGo j
 | (n+8,j)=>hand n j
def Lst.shut (p:Lpar) (s:Lst):Bool:=(List.range p.W).all s.ew
def Lst.next (p:Lpar) (s:Lst):Nat->Option LAct
 | 0=>if s.e0 then none else if s.stopped || decide (s.given=p.N) then some .end0
     else if !decide (s.jobs.length=p.Rm) && (!decide (s.lane.length=p.Rm) && decide (s.given - s.wrote < p.Wd)) then some .give else none
 | 1=>if s.e1 || !(decide (0 < s.lane.length) || s.e0) then none else some .sum
 | 2=>if s.e2 then none else if !s.begun then some .begin else if s.shelf.head?=some s.wrote then some .write
     else if decide (0 < s.ready.length) || ((decide (0 < s.ready.length) || s.shut p) && s.e1) then some .shelve else none
 | j+3=>if s.ew j then none else match s.held j with
     | none=>if decide (0 < s.jobs.length) || s.e0 then some (.takeW j) else none
     | some _=>if s.stopped then some (.letGo j) else if !decide (s.ready.length=p.Rm) then some (.hand j) else none
def Lst.halt (s:Lst):Lst:={ s with stopped:=true,shelf:=[] }
def Lst.tries (p:Lpar) (s:Lst):Lst:={ s with writes:=s.writes+1,failed:=s.failed || decide (((s.writes+1:Nat):Int)=p.fail) }
def Lst.head (p:Lpar) (s:Lst) (h:Nat):Lst:=if s.stopped then s else if (s.tries p).failed then (s.tries p).halt else { s.tries p with hd:=h }
def Lst.frame (p:Lpar) (s:Lst):Lst:=if (s.tries p).failed then (s.tries p).halt else { s.tries p with wrote:=s.wrote+1 }
def updL {α:Type} (f:Nat->α) (j:Nat) (v:α):Nat->α:=fun i=>if i=j then v else f i
def insL (k:Nat):List Nat->List Nat
 | []=>[k]
 | x :: r=>if x < k then x :: insL k r else k :: x :: r
def Lst.act (p:Lpar) (s:Lst):LAct->Lst
 | (0,_)=>{ s with e0:=true }
 | (1,_)=>{ s with jobs:=s.jobs ++ [s.given],lane:=s.lane ++ [s.given],given:=s.given+1 }
 | (2,_)=>match s.lane with
   | []=>{ s with e1:=true }
   | _ :: r=>{ s with lane:=r,summed:=s.summed+1 }
 | (3,_)=>{ s with begun:=true }.head p 1
 | (4,_)=>{ s with shelf:=s.shelf.tail }.frame p
 | (5,_)=>match s.ready with
   | []=>{ s with e2:=true }.head p 2
   | k :: r=>if s.stopped then { s with ready:=r } else { s with ready:=r,shelf:=insL k s.shelf }
 | (6,j)=>match s.jobs with
   | []=>{ s with ew:=updL s.ew j true }
   | k :: r=>{ s with jobs:=r,held:=updL s.held j (some k) }
 | (7,j)=>{ s with held:=updL s.held j none }
 | (_+8,j)=>match s.held j with
   | none=>s
   | some k=>{ s with held:=updL s.held j none,ready:=s.ready ++ [k] }
def Lst.able (p:Lpar) (s:Lst):List Nat:=(List.range (3+p.W)).filter fun t=>(s.next p t).isSome
def Lst.endedT (s:Lst):Nat->Bool
 | 0=>s.e0
 | 1=>s.e1
 | 2=>s.e2
 | j+3=>s.ew j
def Lst.ended (p:Lpar) (s:Lst):List Nat:=(List.range (3+p.W)).filter s.endedT
def Lst.heldL (p:Lpar) (s:Lst):List Nat:=(List.range p.W).filterMap s.held
def Lst.put (p:Lpar) (s:Lst):List Nat:=s.jobs ++ s.heldL p ++ s.ready ++ s.shelf
structure LInv (p:Lpar) (s:Lst):Prop where
 w1:1<=p.W
 r1:1<=p.Rm
 d1:1<=p.Wd
 given:s.given<=p.N
 jobs:∃ a,a<=s.given/\s.jobs=List.range' a (s.given - a)
 lane:s.summed<=s.given/\s.lane=List.range' s.summed (s.given - s.summed)
 jr:s.jobs.length<=p.Rm
 lr:s.lane.length<=p.Rm
 rr:s.ready.length<=p.Rm
 e0:s.e0=true->s.stopped=true∨s.given=p.N
 e1:s.e1=true->s.e0=true/\s.lane=[]
 ew:∀ j,j < p.W->s.ew j=true->s.e0=true/\s.jobs=[]/\s.held j=none
 e2:s.e2=true->s.shut p=true/\s.ready=[]/\s.e1=true/\s.begun=true/\s.shelf=[]
 sorted:s.shelf.Pairwise (· < ·)
 wrote:s.wrote<=s.given
 far:∀ j,p.W<=j->s.held j=none/\s.ew j=false
 stop:s.stopped=true->s.shelf=[]
 fail:s.failed=true->s.stopped=true
 win:s.given - s.wrote<=p.Wd
 place:(s.put p).Nodup
 ahead:∀ k,k ∈ s.put p->s.wrote<=k/\k < s.given
 all:s.stopped=false->∀ k,s.wrote<=k->k < s.given->k ∈ s.put p
 hd0:s.begun=false->s.hd=0/\s.writes=0/\s.wrote=0
 hd1:s.begun=true->s.stopped=false->s.e2=false->s.hd=1/\s.writes=s.wrote+1
 hd2:s.e2=true->s.stopped=false->s.hd=2/\s.wrote=p.N/\s.writes=p.N+2
 hds:s.stopped=true->s.hd<=1
 wf:s.stopped=false->p.fail < 1∨(s.writes:Int) < p.fail
 ff:s.failed=true->(s.writes:Int)=p.fail/\((s.writes=1/\s.wrote=0)∨s.writes=s.wrote+2)
 fc:s.stopped=true->s.failed=false->s.writes<=p.N+1/\(p.fail < 1∨(s.writes:Int) < p.fail)
 h0:s.hd=0->s.wrote=0
theorem fmC {f g:Nat->Option Nat}:∀ {l:List Nat},(∀ i,i ∈ l->f i=g i)->l.filterMap f=l.filterMap g
 | [],_=>rfl
 | i :: l,h=>by
  rw [List.filterMap_cons,List.filterMap_cons,h i (List.mem_cons_self ..),fmC (fun q hq=>h q (List.mem_cons_of_mem _ hq))]
theorem z2h (held:Nat->Option Nat) (j k:Nat) (hn:held j=none):∀ W,j < W->((List.range W).filterMap (updL held j (some k))).Perm (k :: (List.range W).filterMap held)
 | 0,h=>absurd h (Nat.not_lt_zero _)
 | W+1,h=>by
  rw [List.range_succ,List.filterMap_append,List.filterMap_append]
  by_cases e:j=W
  . subst e
    have h1:(List.range j).filterMap (updL held j (some k))=(List.range j).filterMap held:=by
     apply fmC;intro i hi;have:=List.mem_range.1 hi;simp only [updL];rw [if_neg zU]
    rw [h1];simp [updL,hn]
  . have h2:[W].filterMap (updL held j (some k))=[W].filterMap held:=by
      simp [List.filterMap,updL,show ¬ W=j by omega]
    rw [h2];exact ((z2h held j k hn W zU).append_right _)
theorem z3c (held:Nat->Option Nat) (j k:Nat) (hn:held j=some k) (W:Nat) (hj:j < W):(k :: (List.range W).filterMap (updL held j none)).Perm ((List.range W).filterMap held):=by
 have h:=z2h (updL held j none) j k (by simp [updL]) W hj;have e:updL (updL held j none) j (some k)=held:=by
  funext i
  simp only [updL];split
  . next h=>rw [h,hn]
  . rfl
 rw [e] at h;exact h.symm
theorem z4t (k:Nat):∀ l:List Nat,(insL k l).Perm (k :: l)
 | []=>List.Perm.refl _
 | x :: r=>by
  simp only [insL];split
  . exact ((z4t k r).cons x).trans (List.Perm.swap k x r)
  . exact List.Perm.refl _
theorem z6k (k:Nat):∀ l:List Nat,l.Pairwise (· < ·)->k ∉ l->(insL k l).Pairwise (· < ·)
 | [],_,_=>List.pairwise_singleton _ _
 | x :: r,h,hk=>by
  have h1:=List.pairwise_cons.1 h;simp only [List.mem_cons,not_or] at hk;simp only [insL];split
  . next hlt =>
    refine List.pairwise_cons.2 ⟨fun y hy=>?_,z6k k r h1.2 hk.2⟩;rcases List.mem_cons.1 ((z4t k r).mem_iff.1 hy) with rfl | hy
    . exact hlt
    . exact h1.1 y hy
  . next hge =>
    refine List.pairwise_cons.2 ⟨fun y hy=>?_,h⟩;rcases List.mem_cons.1 hy with rfl | hy
    . omega
    . have:=h1.1 y hy
      omega
theorem y6q {p:Lpar} {s:Lst} {c:LAct} (h:s.next p 0=some c):s.e0=false/\((c=.end0/\(s.stopped=true∨s.given=p.N))∨(c=.give/\s.stopped=false/\s.given ≠ p.N/\s.jobs.length ≠ p.Rm/\s.lane.length ≠ p.Rm/\s.given - s.wrote < p.Wd)):=by
 simp only [Lst.next] at h;cases h0:s.e0 <;> simp [h0] at h
 refine ⟨rfl,?_⟩;split at h
 . next h1=>cases h;exact Or.inl ⟨rfl,h1⟩
 . next h1 =>
   simp at h;simp at h1;exact Or.inr ⟨h.2.symm,h1.1,h1.2,h.1.1,h.1.2.1,h.1.2.2⟩
theorem y6r {p:Lpar} {s:Lst} {c:LAct} (h:s.next p 1=some c):s.e1=false/\c=.sum/\(s.lane=[]->s.e0=true):=by
 simp only [Lst.next] at h;split at h
 . cases h
 . next h1 =>
   cases h;simp at h1;exact ⟨h1.1,rfl,fun e=>by have:=h1.2;simp [e] at this;exact this⟩
theorem y6s {p:Lpar} {s:Lst} {c:LAct} (h:s.next p 2=some c):s.e2=false/\((c=.begin/\s.begun=false)∨(s.begun=true/\((c=.write/\s.shelf.head?=some s.wrote)∨(c=.shelve/\s.shelf.head? ≠ some s.wrote/\(s.ready=[]->s.shut p=true/\s.e1=true))))):=by
 simp only [Lst.next] at h;cases h0:s.e2 <;> simp [h0] at h
 refine ⟨rfl,?_⟩;cases h1:s.begun <;> simp [h1] at h
 . exact Or.inl ⟨h.symm,rfl⟩
 . refine Or.inr ⟨rfl,?_⟩
   split at h
   . next h2=>cases h;exact Or.inl ⟨rfl,h2⟩
   . next h2 =>
     simp at h;exact Or.inr ⟨h.2.symm,h2,fun e=>by have:=h.1;simp [e] at this;exact this⟩
theorem y6t {p:Lpar} {s:Lst} {c:LAct} {j:Nat} (h:s.next p (j+3)=some c):s.ew j=false/\((c=.takeW j/\s.held j=none/\(s.jobs=[]->s.e0=true))∨∃ k,s.held j=some k/\((c=.letGo j/\s.stopped=true)∨(c=.hand j/\s.stopped=false/\s.ready.length ≠ p.Rm))):=by
 simp only [Lst.next] at h;cases h0:s.ew j <;> simp [h0] at h
 refine ⟨rfl,?_⟩;cases h1:s.held j with
 | none =>
  simp [h1] at h;exact Or.inl ⟨h.2.symm,rfl,fun e=>by have:=h.1;simp [e] at this;exact this⟩
 | some k =>
  simp [h1] at h;refine Or.inr ⟨k,rfl,?_⟩;cases h2:s.stopped <;> simp [h2] at h
  . exact Or.inr ⟨h.2.symm,rfl,h.1⟩
  . exact Or.inl ⟨h.symm,rfl⟩
theorem LInv.end0 {p:Lpar} {s:Lst} (h:LInv p s) (hn:s.stopped=true∨s.given=p.N):LInv p (s.act p .end0) :=
 ⟨h.w1,h.r1,h.d1,h.given,h.jobs,h.lane,h.jr,h.lr,h.rr,fun _=>hn,fun h1=>⟨rfl,(h.e1 h1).2⟩,fun j hj h1=>⟨rfl,(h.ew j hj h1).2⟩,h.e2,h.sorted,h.wrote,h.far,h.stop,h.fail,h.win,h.place,h.ahead,h.all,h.hd0,h.hd1,h.hd2,h.hds,h.wf,h.ff,h.fc,h.h0⟩
theorem z6l {p:Lpar} {s:Lst}:((s.act p .give).put p).Perm (s.given :: s.put p):=by
 show (s.jobs ++ [s.given] ++ s.heldL p ++ s.ready ++ s.shelf).Perm (s.given :: (s.jobs ++ s.heldL p ++ s.ready ++ s.shelf))
 simp only [zI];exact List.perm_middle
theorem LInv.give {p:Lpar} {s:Lst} (h:LInv p s) (h0:s.e0=false) (hs:s.stopped=false) (hn:s.given ≠ p.N) (hj:s.jobs.length ≠ p.Rm) (hl:s.lane.length ≠ p.Rm) (hw:s.given - s.wrote < p.Wd):LInv p (s.act p .give):=by
 have hg:=h.given;have hwr:=h.wrote;have no:∀ {q:Prop},s.e0=true->q:=fun hh=>by rw [h0] at hh;cases hh
 obtain ⟨a,ha,hja⟩:=h.jobs;obtain ⟨hb,hla⟩:=h.lane;have hnot:s.given ∉ s.put p:=fun hh=>Nat.lt_irrefl _ (h.ahead _ hh).2
 refine ⟨h.w1,h.r1,h.d1,?_,⟨a,?_,?_⟩,⟨?_,?_⟩,?_,?_,h.rr,no,fun h1=>no (h.e1 h1).1,fun j hj h1=>no (h.ew j hj h1).1,fun h1=>no (h.e1 (h.e2 h1).2.2.1).1,h.sorted,?_,h.far,h.stop,h.fail,?_,?_,?_,?_,h.hd0,h.hd1,fun h1=>no (h.e1 (h.e2 h1).2.2.1).1,h.hds,h.wf,h.ff,h.fc,h.h0⟩
 . show s.given+1<=p.N;omega
 . show a<=s.given+1;omega
 . show s.jobs ++ [s.given]=List.range' a (s.given+1 - a)
   rw [show s.given+1 - a=(s.given - a)+1 by omega,List.range'_concat,hja,show a+1 * (s.given - a)=s.given by omega]
 . show s.summed<=s.given+1;omega
 . show s.lane ++ [s.given]=List.range' s.summed (s.given+1 - s.summed)
   rw [show s.given+1 - s.summed=(s.given - s.summed)+1 by omega,List.range'_concat,hla,show s.summed+1 * (s.given - s.summed)=s.given by omega]
 . show (s.jobs ++ [s.given]).length<=p.Rm;have:=h.jr;rw [zN,List.length_singleton];omega
 . show (s.lane ++ [s.given]).length<=p.Rm;have:=h.lr;rw [zN,List.length_singleton];omega
 . show s.wrote<=s.given+1;omega
 . show s.given+1 - s.wrote<=p.Wd;omega
 . exact z6l.nodup_iff.2 (List.nodup_cons.2 ⟨hnot,h.place⟩)
 . intro k hk
   show s.wrote<=k/\k < s.given+1
   rcases List.mem_cons.1 (z6l.mem_iff.1 hk) with rfl | hk
   . omega
   . have:=h.ahead k hk;omega
 . intro _ k h1 h2
   refine z6l.mem_iff.2 (List.mem_cons.2 ?_);have h2':k < s.given+1:=h2
   by_cases e:k=s.given
   . exact Or.inl e
   . exact Or.inr (h.all hs k h1 zU)
theorem LInv.sum {p:Lpar} {s:Lst} (h:LInv p s) (h0:s.e1=false) (hl:s.lane=[]->s.e0=true):LInv p (s.act p .sum):=by
 have no:∀ {q:Prop},s.e1=true->q:=fun hh=>by rw [h0] at hh;cases hh
 cases e:s.lane with
 | nil =>
  rw [show s.act p .sum={ s with e1:=true } by simp only [Lst.act,e]];exact ⟨h.w1,h.r1,h.d1,h.given,h.jobs,h.lane,h.jr,h.lr,h.rr,h.e0,fun _=>⟨hl e,e⟩,h.ew,fun h1=>no (h.e2 h1).2.2.1,h.sorted,h.wrote,h.far,h.stop,h.fail,h.win,h.place,h.ahead,h.all,h.hd0,h.hd1,h.hd2,h.hds,h.wf,h.ff,h.fc,h.h0⟩
 | cons k r =>
  rw [show s.act p .sum={ s with lane:=r,summed:=s.summed+1 } by simp only [Lst.act,e]];have h1:=h.lane;rw [e] at h1;have h2:0 < s.given - s.summed:=by
   apply Nat.pos_of_ne_zero;intro hz;rw [hz] at h1;cases h1.2
  have h3:=h.lr;rw [e,List.length_cons] at h3;have h4:r=List.range' (s.summed+1) (s.given - (s.summed+1)):=by
   have:=h1.2;rw [show s.given - s.summed=(s.given - (s.summed+1))+1 by omega,List.range'_succ] at this;exact (List.cons.inj this).2
  exact ⟨h.w1,h.r1,h.d1,h.given,h.jobs,⟨by show s.summed+1<=s.given;omega,h4⟩,h.jr,by show r.length<=p.Rm;omega,h.rr,h.e0,fun h1=>no h1,h.ew,fun h1=>no (h.e2 h1).2.2.1,h.sorted,h.wrote,h.far,h.stop,h.fail,h.win,h.place,h.ahead,h.all,h.hd0,h.hd1,h.hd2,h.hds,h.wf,h.ff,h.fc,h.h0⟩
theorem z7X {p:Lpar} {s:Lst}:∀ k,k ∈ s.halt.put p->k ∈ s.put p:=fun k hk=>by
 have e:s.halt.put p=s.jobs ++ s.heldL p ++ s.ready ++ []:=rfl;rw [e,List.append_nil] at hk;exact List.mem_append_left _ hk
theorem z5r {p:Lpar} {s:Lst}:(s.halt.put p).Sublist (s.put p):=by
 have e:s.halt.put p=s.jobs ++ s.heldL p ++ s.ready ++ []:=rfl;rw [e];exact List.Sublist.append (List.Sublist.refl _) (List.nil_sublist _)
theorem LInv.halt {p:Lpar} {s:Lst} (h:LInv p s) (h2:s.e2=false):LInv p s.halt:=by
 have no:∀ {q:Prop},s.e2=true->q:=fun hh=>by rw [h2] at hh;cases hh
 have hx:s.stopped=false->s.hd<=1/\s.writes<=p.N+1:=fun hs=>by
  cases hb:s.begun with
  | false=>have:=h.hd0 hb;omega
  | true=>have:=h.hd1 hb hs h2;have:=h.wrote;have:=h.given;omega
 refine ⟨h.w1,h.r1,h.d1,h.given,h.jobs,h.lane,h.jr,h.lr,h.rr,fun _=>Or.inl rfl,h.e1,h.ew,fun h1=>no h1,List.Pairwise.nil,h.wrote,h.far,fun _=>rfl,fun _=>rfl,h.win,h.place.sublist z5r,fun k hk=>h.ahead k (z7X k hk),fun h1=>(by cases h1),h.hd0,fun _ h1=>(by cases h1),fun h1=>no h1,fun _=>?_,fun h1=>(by cases h1),h.ff,fun _ hf=>?_,h.h0⟩
 . show s.hd<=1
   cases hs:s.stopped with
   | false=>exact (hx hs).1
   | true=>exact h.hds hs
 . show s.writes<=p.N+1/\_
   cases hs:s.stopped with
   | false=>exact ⟨(hx hs).2,h.wf hs⟩
   | true=>exact h.fc hs hf
theorem LInv.begin {p:Lpar} {s:Lst} (h:LInv p s) (h2:s.e2=false) (hb:s.begun=false):LInv p (s.act p .begin):=by
 have no:∀ {q:Prop},s.e2=true->q:=fun hh=>by rw [h2] at hh;cases hh
 have hd0:=h.hd0 hb;cases hs:s.stopped with
 | true =>
  rw [show s.act p .begin={ s with begun:=true } by simp [Lst.act,Lst.head,hs]];exact ⟨h.w1,h.r1,h.d1,h.given,h.jobs,h.lane,h.jr,h.lr,h.rr,h.e0,h.e1,h.ew,fun h1=>no h1,h.sorted,h.wrote,h.far,h.stop,h.fail,h.win,h.place,h.ahead,h.all,fun h1=>(by cases h1),fun _ h1=>(by rw [show ({ s with begun:=true }:Lst).stopped=s.stopped from rfl,hs] at h1;cases h1),h.hd2,h.hds,h.wf,h.ff,h.fc,h.h0⟩
 | false =>
  have hf:s.failed=false:=by
   cases hf:s.failed with
   | false=>rfl
   | true=>have:=h.fail hf;rw [hs] at this;cases this
  have hwf:=h.wf hs
  by_cases hx:((s.writes+1:Nat):Int)=p.fail
  . rw [show s.act p .begin=({ s with begun:=true,stopped:=true,shelf:=[],writes:=s.writes+1,failed:=true }:Lst) by simp only [Lst.act,Lst.head,Lst.tries,Lst.halt,hs,hf,zL hx];rfl]
    exact ⟨h.w1,h.r1,h.d1,h.given,h.jobs,h.lane,h.jr,h.lr,h.rr,fun _=>Or.inl rfl,h.e1,h.ew,fun h1=>no h1,List.Pairwise.nil,h.wrote,h.far,fun _=>rfl,fun _=>rfl,h.win,h.place.sublist z5r,fun k hk=>h.ahead k (z7X k hk),fun h1=>(by cases h1),fun h1=>(by cases h1),fun _ h1=>(by cases h1),fun h1=>no h1,fun _=>by show s.hd<=1;omega,fun h1=>(by cases h1),fun _=>⟨hx,Or.inl ⟨by show s.writes+1=1;omega,hd0.2.2⟩⟩,fun _ h1=>(by cases h1),fun _=>hd0.2.2⟩
  . rw [show s.act p .begin=({ s with begun:=true,writes:=s.writes+1,failed:=false,hd:=1 }:Lst) by simp only [Lst.act,Lst.head,Lst.tries,hs,hf,zM hx];rfl]
    exact ⟨h.w1,h.r1,h.d1,h.given,h.jobs,h.lane,h.jr,h.lr,h.rr,h.e0,h.e1,h.ew,fun h1=>no h1,h.sorted,h.wrote,h.far,h.stop,fun h1=>(by cases h1),h.win,h.place,h.ahead,h.all,fun h1=>(by cases h1),fun _ _ _=>⟨rfl,by show s.writes+1=s.wrote+1;omega⟩,fun h1=>no h1,fun _=>Nat.le_refl _,fun _=>by show p.fail < 1∨((s.writes+1:Nat):Int) < p.fail;omega,fun h1=>(by cases h1),fun h1=>(by rw [show ({ s with begun:=true,writes:=s.writes+1,failed:=false,hd:=1 }:Lst).stopped=s.stopped from rfl,hs] at h1;cases h1),fun h1=>(by cases h1)⟩
theorem LInv.write {p:Lpar} {s:Lst} (h:LInv p s) (h2:s.e2=false) (hb:s.begun=true) (hh:s.shelf.head?=some s.wrote):LInv p (s.act p .write):=by
 have no:∀ {q:Prop},s.e2=true->q:=fun hh=>by rw [h2] at hh;cases hh
 cases e:s.shelf with
 | nil=>rw [e] at hh;cases hh
 | cons k r =>
  rw [e] at hh;cases hh;have hs:s.stopped=false:=by
   cases hs:s.stopped with
   | false=>rfl
   | true=>have:=h.stop hs;rw [e] at this;cases this
  have hf:s.failed=false:=by
   cases hf:s.failed with
   | false=>rfl
   | true=>have:=h.fail hf;rw [hs] at this;cases this
  have hwf:=h.wf hs;have hd1:=h.hd1 hb hs h2;have hmem:s.wrote ∈ s.put p:=by unfold Lst.put;rw [e];exact List.mem_append_right _ (List.mem_cons_self ..)
  have hlt:=(h.ahead _ hmem).2
  by_cases hx:((s.writes+1:Nat):Int)=p.fail
  . rw [show s.act p .write=({ s with stopped:=true,shelf:=[],writes:=s.writes+1,failed:=true }:Lst) by simp only [Lst.act,Lst.frame,Lst.tries,Lst.halt,hf,zL hx];rfl]
    exact ⟨h.w1,h.r1,h.d1,h.given,h.jobs,h.lane,h.jr,h.lr,h.rr,fun _=>Or.inl rfl,h.e1,h.ew,fun h1=>no h1,List.Pairwise.nil,h.wrote,h.far,fun _=>rfl,fun _=>rfl,h.win,h.place.sublist z5r,fun k hk=>h.ahead k (z7X k hk),fun h1=>(by cases h1),fun h1=>(by rw [show ({ s with stopped:=true,shelf:=[],writes:=s.writes+1,failed:=true }:Lst).begun=s.begun from rfl,hb] at h1;cases h1),fun _ h1=>(by cases h1),fun h1=>no h1,fun _=>by show s.hd<=1;omega,fun h1=>(by cases h1),fun _=>⟨hx,Or.inr (by show s.writes+1=s.wrote+2;omega)⟩,fun _ h1=>(by cases h1),fun h1=>(by have:s.hd=0:=h1;omega)⟩
  . rw [show s.act p .write=({ s with shelf:=r,writes:=s.writes+1,failed:=false,wrote:=s.wrote+1 }:Lst) by simp only [Lst.act,Lst.frame,Lst.tries,hf,zM hx,e];rfl]
    have hp:(s.wrote :: ({ s with shelf:=r,writes:=s.writes+1,failed:=false,wrote:=s.wrote+1 }:Lst).put p).Perm (s.put p):=by
     show (s.wrote :: (s.jobs ++ s.heldL p ++ s.ready ++ r)).Perm (s.jobs ++ s.heldL p ++ s.ready ++ s.shelf)
     rw [e];exact List.perm_middle.symm
    have hnd:=List.nodup_cons.1 (hp.nodup_iff.2 h.place);have hst:=List.pairwise_cons.1 (e ▸ h.sorted);refine ⟨h.w1,h.r1,h.d1,h.given,h.jobs,h.lane,h.jr,h.lr,h.rr,h.e0,h.e1,h.ew,fun h1=>no h1,hst.2,hlt,h.far,fun h1=>(by rw [show ({ s with shelf:=r,writes:=s.writes+1,failed:=false,wrote:=s.wrote+1 }:Lst).stopped=s.stopped from rfl,hs] at h1;cases h1),fun h1=>(by cases h1),?_,hnd.2,fun k hk=>?_,fun _ k h1 h3=>?_,fun h1=>(by rw [show ({ s with shelf:=r,writes:=s.writes+1,failed:=false,wrote:=s.wrote+1 }:Lst).begun=s.begun from rfl,hb] at h1;cases h1),fun _ _ _=>⟨hd1.1,by show s.writes+1=s.wrote+1+1;omega⟩,fun h1=>no h1,fun _=>by show s.hd<=1;omega,fun _=>by show p.fail < 1∨((s.writes+1:Nat):Int) < p.fail;omega,fun h1=>(by cases h1),fun h1=>(by rw [show ({ s with shelf:=r,writes:=s.writes+1,failed:=false,wrote:=s.wrote+1 }:Lst).stopped=s.stopped from rfl,hs] at h1;cases h1),fun h1=>(by have:s.hd=0:=h1;omega)⟩
    . show s.given - (s.wrote+1)<=p.Wd
      have:=h.win;omega
    . have h3:=h.ahead k (hp.mem_iff.1 (List.mem_cons_of_mem _ hk))
      have h4:k ≠ s.wrote:=fun hh=>hnd.1 (hh ▸ hk)
      show s.wrote+1<=k/\k < s.given
      omega
    . have h1':s.wrote+1<=k:=h1
      rcases List.mem_cons.1 (hp.mem_iff.2 (h.all hs k zU h3)) with h4 | h4
      . omega
      . exact h4
theorem z7Y {p:Lpar} {s:Lst} (h:s.shut p=true):∀ j,j < p.W->s.ew j=true:=fun j hj=>by
 unfold Lst.shut at h;rw [List.all_eq_true] at h;exact h j (List.mem_range.2 hj)
theorem y0o {f:Nat->Option Nat} {W:Nat} (h:∀ j,j < W->f j=none):(List.range W).filterMap f=[]:=by
 rw [List.filterMap_eq_nil_iff];exact fun j hj=>h j (List.mem_range.1 hj)
theorem LInv.last {p:Lpar} {s:Lst} (h:LInv p s) (hsh:s.shut p=true) (hr:s.ready=[]) (hh:s.shelf.head? ≠ some s.wrote):s.shelf=[]/\(s.stopped=false->s.wrote=p.N):=by
 have hw:=z7Y hsh;have h1:=h.w1;have hj:s.jobs=[]:=(h.ew 0 zU (hw 0 zU)).2.1;have he0:=(h.ew 0 zU (hw 0 zU)).1;have hp:s.put p=s.shelf:=by
  unfold Lst.put Lst.heldL;rw [hj,hr,y0o fun j hj=>(h.ew j hj (hw j hj)).2.2];simp
 cases hs:s.stopped with
 | true=>exact ⟨h.stop hs,fun hh=>(by cases hh)⟩
 | false =>
  have hg:s.given=p.N:=by rcases h.e0 he0 with h3 | h3;rw [hs] at h3;cases h3;exact h3
  have hsf:s.shelf=[]:=by
   cases e:s.shelf with
   | nil=>rfl
   | cons k r =>
    have hk:=h.ahead k (by rw [hp,e];exact List.mem_cons_self ..);have hm:=h.all hs s.wrote zY zU;rw [hp,e] at hm;rcases List.mem_cons.1 hm with h4 | h4
    . rw [e,← h4] at hh
      exact absurd rfl hh
    . have:=(List.pairwise_cons.1 (e ▸ h.sorted)).1 _ h4
      omega
  refine ⟨hsf,fun _=>?_⟩
  by_cases e:s.wrote=p.N
  . exact e
  . have:=h.wrote
    have hm:=h.all hs s.wrote zY zU;rw [hp,hsf] at hm;cases hm
theorem LInv.shelve {p:Lpar} {s:Lst} (h:LInv p s) (h2:s.e2=false) (hb:s.begun=true) (hh:s.shelf.head? ≠ some s.wrote) (hr:s.ready=[]->s.shut p=true/\s.e1=true):LInv p (s.act p .shelve):=by
 have no:∀ {q:Prop},s.e2=true->q:=fun hh=>by rw [h2] at hh;cases hh
 cases e:s.ready with
 | nil =>
  obtain ⟨hsh,he1⟩:=hr e;obtain ⟨hsf,hN⟩:=h.last hsh e hh;cases hs:s.stopped with
  | true =>
   rw [show s.act p .shelve={ s with e2:=true } by simp [Lst.act,Lst.head,hs,e]];exact ⟨h.w1,h.r1,h.d1,h.given,h.jobs,h.lane,h.jr,h.lr,h.rr,h.e0,h.e1,h.ew,fun _=>⟨hsh,e,he1,hb,hsf⟩,h.sorted,h.wrote,h.far,h.stop,h.fail,h.win,h.place,h.ahead,h.all,h.hd0,fun _ _ h1=>(by cases h1),fun _ h1=>(by rw [show ({ s with e2:=true }:Lst).stopped=s.stopped from rfl,hs] at h1;cases h1),h.hds,h.wf,h.ff,h.fc,h.h0⟩
  | false =>
   have hf:s.failed=false:=by
    cases hf:s.failed with
    | false=>rfl
    | true=>have:=h.fail hf;rw [hs] at this;cases this
   have hwf:=h.wf hs;have hd1:=h.hd1 hb hs h2;have hN':=hN hs
   by_cases hx:((s.writes+1:Nat):Int)=p.fail
   . rw [show s.act p .shelve=({ s with e2:=true,stopped:=true,shelf:=[],writes:=s.writes+1,failed:=true }:Lst) by simp only [Lst.act,Lst.head,Lst.tries,Lst.halt,hs,hf,e,zL hx];rfl]
     exact ⟨h.w1,h.r1,h.d1,h.given,h.jobs,h.lane,h.jr,h.lr,h.rr,fun _=>Or.inl rfl,h.e1,h.ew,fun h1=>⟨hsh,e,he1,hb,rfl⟩,List.Pairwise.nil,h.wrote,h.far,fun _=>rfl,fun _=>rfl,h.win,h.place.sublist z5r,fun k hk=>h.ahead k (z7X k hk),fun h1=>(by cases h1),fun h1=>(by rw [show ({ s with e2:=true,stopped:=true,shelf:=[],writes:=s.writes+1,failed:=true }:Lst).begun=s.begun from rfl,hb] at h1;cases h1),fun _ h1=>(by cases h1),fun _ h1=>(by cases h1),fun _=>by show s.hd<=1;omega,fun h1=>(by cases h1),fun _=>⟨hx,Or.inr (by show s.writes+1=s.wrote+2;omega)⟩,fun _ h1=>(by cases h1),fun h1=>(by have:s.hd=0:=h1;omega)⟩
   . rw [show s.act p .shelve=({ s with e2:=true,writes:=s.writes+1,failed:=false,hd:=2 }:Lst) by simp only [Lst.act,Lst.head,Lst.tries,hs,hf,e,zM hx];rfl]
     exact ⟨h.w1,h.r1,h.d1,h.given,h.jobs,h.lane,h.jr,h.lr,h.rr,h.e0,h.e1,h.ew,fun h1=>⟨hsh,e,he1,hb,hsf⟩,h.sorted,h.wrote,h.far,h.stop,fun h1=>(by cases h1),h.win,h.place,h.ahead,h.all,fun h1=>(by rw [show ({ s with e2:=true,writes:=s.writes+1,failed:=false,hd:=2 }:Lst).begun=s.begun from rfl,hb] at h1;cases h1),fun _ _ h1=>(by cases h1),fun _ _=>⟨rfl,hN',by show s.writes+1=p.N+2;omega⟩,fun h1=>(by rw [show ({ s with e2:=true,writes:=s.writes+1,failed:=false,hd:=2 }:Lst).stopped=s.stopped from rfl,hs] at h1;cases h1),fun _=>by show p.fail < 1∨((s.writes+1:Nat):Int) < p.fail;omega,fun h1=>(by cases h1),fun h1=>(by rw [show ({ s with e2:=true,writes:=s.writes+1,failed:=false,hd:=2 }:Lst).stopped=s.stopped from rfl,hs] at h1;cases h1),fun h1=>(by cases h1)⟩
 | cons k r =>
  have hrr:=h.rr;rw [e,List.length_cons] at hrr;cases hs:s.stopped with
  | true =>
   rw [show s.act p .shelve={ s with ready:=r } by simp [Lst.act,hs,e]];have hsub:(({ s with ready:=r }:Lst).put p).Sublist (s.put p):=by
    show (s.jobs ++ s.heldL p ++ r ++ s.shelf).Sublist (s.jobs ++ s.heldL p ++ s.ready ++ s.shelf)
    rw [e];exact ((List.Sublist.refl _).append (List.sublist_cons_self k r)).append (List.Sublist.refl _)
   exact ⟨h.w1,h.r1,h.d1,h.given,h.jobs,h.lane,h.jr,h.lr,by show r.length<=p.Rm;omega,h.e0,h.e1,h.ew,fun h1=>no h1,h.sorted,h.wrote,h.far,h.stop,h.fail,h.win,h.place.sublist hsub,fun k hk=>h.ahead k (hsub.subset hk),fun h1=>(by rw [show ({ s with ready:=r }:Lst).stopped=s.stopped from rfl,hs] at h1;cases h1),h.hd0,h.hd1,h.hd2,h.hds,h.wf,h.ff,h.fc,h.h0⟩
  | false =>
   rw [show s.act p .shelve={ s with ready:=r,shelf:=insL k s.shelf } by simp [Lst.act,hs,e]];have hp:(({ s with ready:=r,shelf:=insL k s.shelf }:Lst).put p).Perm (s.put p):=by
    show (s.jobs ++ s.heldL p ++ r ++ insL k s.shelf).Perm (s.jobs ++ s.heldL p ++ s.ready ++ s.shelf)
    rw [e];simp only [zI];refine List.Perm.append_left _ (List.Perm.append_left _ ?_);exact ((z4t k s.shelf).append_left r).trans List.perm_middle
   have hk:k ∉ s.shelf:=by
    have h3:=h.place;unfold Lst.put at h3;rw [e] at h3;intro h4;exact (List.nodup_append.1 h3).2.2 k (List.mem_append_right _ (List.mem_cons_self ..)) k h4 rfl
   exact ⟨h.w1,h.r1,h.d1,h.given,h.jobs,h.lane,h.jr,h.lr,by show r.length<=p.Rm;omega,h.e0,h.e1,h.ew,fun h1=>no h1,z6k k _ h.sorted hk,h.wrote,h.far,fun h1=>(by rw [show ({ s with ready:=r,shelf:=insL k s.shelf }:Lst).stopped=s.stopped from rfl,hs] at h1;cases h1),h.fail,h.win,hp.nodup_iff.2 h.place,fun k hk=>h.ahead k (hp.mem_iff.1 hk),fun h1 k h3 h4=>hp.mem_iff.2 (h.all h1 k h3 h4),h.hd0,h.hd1,h.hd2,h.hds,h.wf,h.ff,h.fc,h.h0⟩
theorem z7Z {p:Lpar} {s:Lst} (h:LInv p s) {j:Nat} (hj:j < p.W) (hew:s.ew j=false):s.e2=true->False:=fun h1=>by
 have:=z7Y (h.e2 h1).1 j hj;rw [hew] at this;cases this
theorem LInv.takeW {p:Lpar} {s:Lst} (h:LInv p s) {j:Nat} (hj:j < p.W) (hew:s.ew j=false) (hh:s.held j=none) (he:s.jobs=[]->s.e0=true):LInv p (s.act p (.takeW j)):=by
 have no:∀ {q:Prop},s.e2=true->q:=fun h1=>(z7Z h hj hew h1).elim
 cases e:s.jobs with
 | nil =>
  rw [show s.act p (.takeW j)={ s with ew:=updL s.ew j true } by simp [Lst.act,e]];refine ⟨h.w1,h.r1,h.d1,h.given,h.jobs,h.lane,h.jr,h.lr,h.rr,h.e0,h.e1,fun i hi h1=>?_,fun h1=>no h1,h.sorted,h.wrote,fun i hi=>⟨(h.far i hi).1,?_⟩,h.stop,h.fail,h.win,h.place,h.ahead,h.all,h.hd0,h.hd1,h.hd2,h.hds,h.wf,h.ff,h.fc,h.h0⟩
  . by_cases e1:i=j
    . exact ⟨he e,e,e1 ▸ hh⟩
    . exact h.ew i hi (by simpa [updL,e1] using h1)
  . show updL s.ew j true i=false
    simp only [updL];rw [if_neg zU];exact (h.far i hi).2
 | cons k r =>
  rw [show s.act p (.takeW j)={ s with jobs:=r,held:=updL s.held j (some k) } by simp [Lst.act,e]];obtain ⟨a,ha,hja⟩:=h.jobs;rw [e] at hja;have h2:0 < s.given - a:=by
   apply Nat.pos_of_ne_zero;intro hz;rw [hz] at hja;cases hja
  rw [show s.given - a=(s.given - (a+1))+1 by omega,List.range'_succ] at hja;have hjr:=h.jr;rw [e,List.length_cons] at hjr;have hp:(({ s with jobs:=r,held:=updL s.held j (some k) }:Lst).put p).Perm (s.put p):=by
   show (r ++ (List.range p.W).filterMap (updL s.held j (some k)) ++ s.ready ++ s.shelf).Perm (s.jobs ++ (List.range p.W).filterMap s.held ++ s.ready ++ s.shelf)
   rw [e];refine List.Perm.append_right _ (List.Perm.append_right _ ?_);exact ((z2h s.held j k hh p.W hj).append_left r).trans List.perm_middle
  refine ⟨h.w1,h.r1,h.d1,h.given,⟨a+1,by show a+1<=s.given;omega,(List.cons.inj hja).2⟩,h.lane,by show r.length<=p.Rm;omega,h.lr,h.rr,h.e0,h.e1,fun i hi h1=>?_,fun h1=>no h1,h.sorted,h.wrote,fun i hi=>⟨?_,(h.far i hi).2⟩,h.stop,h.fail,h.win,hp.nodup_iff.2 h.place,fun k hk=>h.ahead k (hp.mem_iff.1 hk),fun h1 k h3 h4=>hp.mem_iff.2 (h.all h1 k h3 h4),h.hd0,h.hd1,h.hd2,h.hds,h.wf,h.ff,h.fc,h.h0⟩
  . have:=(h.ew i hi h1).2.1
    rw [e] at this;cases this
  . show updL s.held j (some k) i=none
    simp only [updL];rw [if_neg zU];exact (h.far i hi).1
theorem LInv.letGo {p:Lpar} {s:Lst} (h:LInv p s) {j k:Nat} (hj:j < p.W) (hew:s.ew j=false) (hh:s.held j=some k) (hs:s.stopped=true):LInv p (s.act p (.letGo j)):=by
 have no:∀ {q:Prop},s.e2=true->q:=fun h1=>(z7Z h hj hew h1).elim
 have hp:(k :: ((s.act p (.letGo j)).put p)).Perm (s.put p):=by
  show (k :: (s.jobs ++ (List.range p.W).filterMap (updL s.held j none) ++ s.ready ++ s.shelf)).Perm (s.jobs ++ (List.range p.W).filterMap s.held ++ s.ready ++ s.shelf)
  simp only [zI];refine List.perm_middle.symm.trans (List.Perm.append_left _ ?_);rw [← List.cons_append];exact (z3c s.held j k hh p.W hj).append_right _
 refine ⟨h.w1,h.r1,h.d1,h.given,h.jobs,h.lane,h.jr,h.lr,h.rr,h.e0,h.e1,fun i hi h1=>⟨(h.ew i hi h1).1,(h.ew i hi h1).2.1,?_⟩,fun h1=>no h1,h.sorted,h.wrote,fun i hi=>⟨?_,(h.far i hi).2⟩,h.stop,h.fail,h.win,(List.nodup_cons.1 (hp.nodup_iff.2 h.place)).2,fun k hk=>h.ahead k (hp.mem_iff.1 (List.mem_cons_of_mem _ hk)),fun h1=>(by rw [show (s.act p (.letGo j)).stopped=s.stopped from rfl,hs] at h1;cases h1),h.hd0,h.hd1,h.hd2,h.hds,h.wf,h.ff,h.fc,h.h0⟩
 . show updL s.held j none i=none
   simp only [updL];split
   . rfl
   . exact (h.ew i hi h1).2.2
 . show updL s.held j none i=none
   simp only [updL];rw [if_neg zU];exact (h.far i hi).1
theorem LInv.hand {p:Lpar} {s:Lst} (h:LInv p s) {j k:Nat} (hj:j < p.W) (hew:s.ew j=false) (hh:s.held j=some k) (hr:s.ready.length ≠ p.Rm):LInv p (s.act p (.hand j)):=by
 have no:∀ {q:Prop},s.e2=true->q:=fun h1=>(z7Z h hj hew h1).elim
 rw [show s.act p (.hand j)={ s with held:=updL s.held j none,ready:=s.ready ++ [k] } by simp [Lst.act,hh]];have hp:(({ s with held:=updL s.held j none,ready:=s.ready ++ [k] }:Lst).put p).Perm (s.put p):=by
  show (s.jobs ++ (List.range p.W).filterMap (updL s.held j none) ++ (s.ready ++ [k]) ++ s.shelf).Perm (s.jobs ++ (List.range p.W).filterMap s.held ++ s.ready ++ s.shelf)
  refine List.Perm.append_right _ ?_;simp only [zI];refine List.Perm.append_left _ ?_;have h1:((List.range p.W).filterMap (updL s.held j none) ++ (s.ready ++ [k])).Perm (k :: ((List.range p.W).filterMap (updL s.held j none) ++ s.ready)):=by
   rw [← zI];exact List.perm_append_comm (l₂:=[k])
  refine h1.trans ?_;rw [← List.cons_append];exact (z3c s.held j k hh p.W hj).append_right _
 have hrr:=h.rr;refine ⟨h.w1,h.r1,h.d1,h.given,h.jobs,h.lane,h.jr,h.lr,by show (s.ready ++ [k]).length<=p.Rm;rw [zN,List.length_singleton];omega,h.e0,h.e1,fun i hi h1=>⟨(h.ew i hi h1).1,(h.ew i hi h1).2.1,?_⟩,fun h1=>no h1,h.sorted,h.wrote,fun i hi=>⟨?_,(h.far i hi).2⟩,h.stop,h.fail,h.win,hp.nodup_iff.2 h.place,fun k hk=>h.ahead k (hp.mem_iff.1 hk),fun h1 k h3 h4=>hp.mem_iff.2 (h.all h1 k h3 h4),h.hd0,h.hd1,h.hd2,h.hds,h.wf,h.ff,h.fc,h.h0⟩
 . show updL s.held j none i=none
   simp only [updL];split
   . rfl
   . exact (h.ew i hi h1).2.2
 . show updL s.held j none i=none
   simp only [updL];rw [if_neg zU];exact (h.far i hi).1
theorem LInv.step {p:Lpar} {s:Lst} (h:LInv p s) {t:Nat} {c:LAct} (ht:t < 3+p.W) (hn:s.next p t=some c):LInv p (s.act p c):=by
 match t,hn with
 | 0,hn =>
  obtain ⟨h0,⟨rfl,h1⟩ | ⟨rfl,h1,h2,h3,h4,h5⟩⟩:=y6q hn
  . exact h.end0 h1
  . exact h.give h0 h1 h2 h3 h4 h5
 | 1,hn =>
  obtain ⟨h0,rfl,h1⟩:=y6r hn;exact h.sum h0 h1
 | 2,hn =>
  obtain ⟨h0,⟨rfl,h1⟩ | ⟨h1,⟨rfl,h2⟩ | ⟨rfl,h2,h3⟩⟩⟩:=y6s hn
  . exact h.begin h0 h1
  . exact h.write h0 h1 h2
  . exact h.shelve h0 h1 h2 h3
 | j+3,hn =>
  have hj:j < p.W:=zU
  obtain ⟨h0,⟨rfl,h1,h2⟩ | ⟨k,h1,⟨rfl,h2⟩ | ⟨rfl,h2,h3⟩⟩⟩:=y6t hn
  . exact h.takeW hj h0 h1 h2
  . exact h.letGo hj h0 h1 h2
  . exact h.hand hj h0 h1 h3
theorem LInv.init {p:Lpar} (h1:1<=p.W) (h2:1<=p.Rm) (h3:1<=p.Wd):LInv p Lst.init:=by
 have hz:Lst.init.put p=[]:=by
  show [] ++ (List.range p.W).filterMap (fun _=>none) ++ [] ++ []=([]:List Nat)
  rw [y0o fun _ _=>rfl]
  rfl
 have no:∀ {q:Prop},(false=true)->q:=fun h=>by cases h
 exact ⟨h1,h2,h3,zJ _,⟨0,Nat.le_refl _,rfl⟩,⟨Nat.le_refl _,rfl⟩,zJ _,zJ _,zJ _,no,no,fun _ _=>no,no,List.Pairwise.nil,Nat.le_refl _,fun _ _=>⟨rfl,rfl⟩,no,no,zJ _,by rw [hz];exact List.nodup_nil,fun k hk=>(by rw [hz] at hk;cases hk),fun _ k _ hk=>absurd hk (Nat.not_lt_zero k),fun _=>⟨rfl,rfl,rfl⟩,no,no,no,fun _=>by show p.fail < 1∨((0:Nat):Int) < p.fail;omega,no,no,fun _=>rfl⟩
theorem LInv.alive {p:Lpar} {s:Lst} (h:LInv p s) (h2:s.e2=false):∃ t c,t < 3+p.W/\s.next p t=some c:=by
 have hw:=h.w1;have hr1:=h.r1;have hd1:=h.d1;apply Classical.byContradiction;intro hno;have hn:∀ t,t < 3+p.W->s.next p t=none:=fun t ht=>by
  cases e:s.next p t with
  | none=>rfl
  | some c=>exact absurd ⟨t,c,ht,e⟩ hno
 have n0:=hn 0 zU;have n1:=hn 1 zU;have n2:=hn 2 zU;have n3:=fun j (hj:j < p.W)=>hn (j+3) zU
 simp only [Lst.next,h2] at n2;cases hb:s.begun with
 | false=>simp [hb] at n2
 | true =>
  by_cases hs:s.shelf.head?=some s.wrote
  . simp [hb,hs] at n2
  simp [hb,hs] at n2;have hr:s.ready=[]:=n2.1;have n3':∀ j,j < p.W->s.ew j=true∨(s.held j=none/\s.jobs=[]/\s.e0=false):=fun j hj=>by
   have:=n3 j hj;simp only [Lst.next] at this;cases hew:s.ew j with
   | true=>exact Or.inl rfl
   | false =>
    cases hh:s.held j with
    | none =>
     simp [hew,hh] at this;exact Or.inr ⟨rfl,this⟩
    | some k =>
     simp [hew,hh,hr] at this;cases hst:s.stopped <;> simp [hst] at this
     omega
  cases he0:s.e0 with
  | true =>
   have h1:s.e1=true:=by
    simp only [Lst.next] at n1;cases h1:s.e1 with
    | true=>rfl
    | false=>simp [h1,he0] at n1
   have hsh:s.shut p=true:=by
    unfold Lst.shut;rw [List.all_eq_true];intro j hj;rcases n3' j (List.mem_range.1 hj) with h3 | h3
    . exact h3
    . rw [he0] at h3;cases h3.2.2
   have:=n2.2;rw [hsh,h1] at this;simp at this
  | false =>
   have no:∀ {q:Prop},s.e0=true->q:=fun hh=>by rw [he0] at hh;cases hh
   have hh:∀ j,j < p.W->s.held j=none/\s.jobs=[]:=fun j hj=>by
    rcases n3' j hj with h3 | h3
    . exact no (h.ew j hj h3).1
    . exact ⟨h3.1,h3.2.1⟩
   have hj:=(hh 0 zU).2;have hl:s.lane=[]:=by
    simp only [Lst.next] at n1;cases h1:s.e1 with
    | true=>exact no (h.e1 h1).1
    | false =>
     simp [h1,he0] at n1;exact n1
   simp only [Lst.next,he0] at n0;cases hst:s.stopped with
   | true=>simp [hst] at n0
   | false =>
    by_cases hg:s.given=p.N
    . simp [hg] at n0
    simp [hst,hg,hj,hl] at n0;have hlt:s.wrote < s.given:=by
     omega
    have hp:s.put p=s.shelf:=by
     unfold Lst.put Lst.heldL;rw [hj,hr,y0o fun j hj=>(hh j hj).1];simp
    have hm:=h.all hst s.wrote zY hlt;rw [hp] at hm;cases e:s.shelf with
    | nil=>rw [e] at hm;cases hm
    | cons k r =>
     have hk:=h.ahead k (by rw [hp,e];exact List.mem_cons_self ..);rw [e] at hm;rcases List.mem_cons.1 hm with h4 | h4
     . rw [e,← h4] at hs
       exact absurd rfl hs
     . have:=(List.pairwise_cons.1 (e ▸ h.sorted)).1 _ h4
       omega
theorem y6u {p:Lpar} {s:Lst} {j k:Nat} (hj:j < p.W) (hh:s.held j=none):((List.range p.W).filterMap (updL s.held j (some k))).length=(s.heldL p).length+1:=(z2h s.held j k hh p.W hj).length_eq
theorem z9g {p:Lpar} {s:Lst} {j k:Nat} (hj:j < p.W) (hh:s.held j=some k):((List.range p.W).filterMap (updL s.held j none)).length+1=(s.heldL p).length:=(z3c s.held j k hh p.W hj).length_eq
theorem LInv.over {p:Lpar} {s:Lst} (h:LInv p s):s.ended p=List.range (3+p.W)↔s.e2=true:=by
 unfold Lst.ended;rw [List.filter_eq_self];constructor
 . intro h1
   exact h1 2 (List.mem_range.2 zU)
 . intro h2 t ht
   obtain ⟨a1,a2,a3,a4,a5⟩:=h.e2 h2;obtain ⟨b1,b2⟩:=h.e1 a3
   match t,ht with
   | 0,_=>exact b1
   | 1,_=>exact a3
   | 2,_=>exact h2
   | j+3,ht=>exact z7Y a1 j (by have:=List.mem_range.1 ht;omega)
theorem LInv.put_len {p:Lpar} {s:Lst} (h:LInv p s) (hs:s.stopped=false):s.jobs.length+(s.heldL p).length+s.ready.length+s.shelf.length=s.given - s.wrote:=by
 have h1:(s.put p).Perm (List.range' s.wrote (s.given - s.wrote)):=by
  rw [List.perm_ext_iff_of_nodup h.place (List.nodup_range' 1)];intro k;rw [List.mem_range'_1];constructor
  . intro hk
    have:=h.ahead k hk;omega
  . intro hk
    exact h.all hs k hk.1 zU
 have h2:=h1.length_eq;rw [List.length_range'] at h2;unfold Lst.put at h2;simp only [zN] at h2;exact h2
theorem LInv.lane_len {p:Lpar} {s:Lst} (h:LInv p s):s.lane.length=s.given - s.summed:=by rw [h.lane.2,List.length_range']
structure Tab where
 pl:Nat->Nat
 by_:Nat->Nat
 wh:Nat->Nat
 turn:Nat
def Tab.init:Tab:=⟨fun _=>0,fun _=>0,fun _=>0,0⟩
def Tab.put (b:Tab) (k v:Nat):Tab:={ b with pl:=updL b.pl k v }
def Tab.halt (b:Tab):Tab:={ b with pl:=fun i=>if b.pl i=4 then 6 else b.pl i }
structure Rel (p:Lpar) (s:Lst) (b:Tab):Prop where
 a0:∀ i,i < p.N->(b.pl i=0↔s.given<=i)
 a1:∀ i,i < p.N->(b.pl i=1↔i ∈ s.jobs)
 a2:∀ i j,i < p.N->j < p.W->((b.pl i=2/\b.by_ i=j+3)↔s.held j=some i)
 a3:∀ i,i < p.N->(b.pl i=3↔i ∈ s.ready)
 a4:∀ i,i < p.N->(b.pl i=4↔i ∈ s.shelf)
 ord:s.ready.Pairwise fun i k=>b.wh i < b.wh k
 top:∀ i,i ∈ s.ready->b.wh i < b.turn
 tot:b.turn+s.jobs.length+(s.heldL p).length<=s.given
 m6:∀ i,b.pl i<=6
 m10:∀ i,b.by_ i<=2+p.W
 mw:∀ i,b.wh i<=b.turn
def Lst.stopN (s:Lst):Nat:=if s.stopped then (if s.failed then 3 else 2) else 0
theorem z2b {p:Lpar} {s:Lst} {k:Nat}:k ∈ s.heldL p↔∃ j,j < p.W/\s.held j=some k:=by
 unfold Lst.heldL;rw [List.mem_filterMap];exact ⟨fun ⟨j,h1,h2⟩=>⟨j,List.mem_range.1 h1,h2⟩,fun ⟨j,h1,h2⟩=>⟨j,List.mem_range.2 h1,h2⟩⟩
theorem LInv.dis {p:Lpar} {s:Lst} (h:LInv p s):s.jobs.Nodup/\s.ready.Nodup/\s.shelf.Nodup/\(∀ k,k ∈ s.jobs->k ∉ s.heldL p/\k ∉ s.ready/\k ∉ s.shelf)/\(∀ k,k ∈ s.heldL p->k ∉ s.ready/\k ∉ s.shelf)/\∀ k,k ∈ s.ready->k ∉ s.shelf:=by
 have:=h.place;unfold Lst.put at this;rw [List.nodup_append,List.nodup_append,List.nodup_append] at this;obtain ⟨⟨⟨h1,h2,h3⟩,h4,h5⟩,h6,h7⟩:=this;refine ⟨h1,h4,h6,fun k hk=>⟨fun hc=>h3 k hk k hc rfl,fun hc=>h5 k ?_ k hc rfl,fun hc=>h7 k ?_ k hc rfl⟩,fun k hk=>⟨fun hc=>h5 k ?_ k hc rfl,fun hc=>h7 k ?_ k hc rfl⟩,fun k hk hc=>h7 k ?_ k hc rfl⟩
 all_goals simp [hk]
theorem LInv.inN {p:Lpar} {s:Lst} (h:LInv p s):∀ k,k ∈ s.jobs∨k ∈ s.heldL p∨k ∈ s.ready∨k ∈ s.shelf->s.wrote<=k/\k < s.given/\k < p.N:=fun k hk=>by
 have:=h.ahead k (by unfold Lst.put;simpa using hk);have:=h.given;omega
theorem z9h (k:Nat) (g:Nat->Bool) (hg:g k=false):∀ N,k < N->(List.range N).countP (fun i=>i == k || g i)=(List.range N).countP g+1
 | 0,h=>absurd h (Nat.not_lt_zero _)
 | N+1,h=>by
  rw [List.range_succ,List.countP_append,List.countP_append]
  by_cases e:k=N
  . subst e
    have:(List.range k).countP (fun i=>i == k || g i)=(List.range k).countP g:=by
     apply List.countP_congr;intro i hi;have:=List.mem_range.1 hi;simp [show ¬ i=k by omega]
    rw [this];simp [hg]
  . rw [z9h k g hg N zU]
    simp only [List.countP_singleton];simp [show ¬ N=k by omega];omega
theorem z3H (N:Nat):∀ (l:List Nat) (f:Nat->Bool),l.Nodup->(∀ k,k ∈ l->k < N)->(∀ i,i < N->(f i=true↔i ∈ l))->(List.range N).countP f=l.length
 | [],f,_,_,hf=>by
  rw [List.countP_eq_zero.2 (fun i hi=>by have:=hf i (List.mem_range.1 hi);simpa using this)]
  rfl
 | k :: r,f,hn,hl,hf=>by
  have h1:=List.nodup_cons.1 hn;have h2:=z3H N r (fun i=>decide (i ∈ r)) h1.2 (fun i hi=>hl i (List.mem_cons_of_mem _ hi)) (fun i _=>by simp);have h3:=z9h k (fun i=>decide (i ∈ r)) (by simp [h1.1]) N (hl k (List.mem_cons_self ..));rw [List.length_cons,← h2,← h3];apply List.countP_congr;intro i hi;rw [hf i (List.mem_range.1 hi)];simp
theorem Rel.cnt0 {p:Lpar} {s:Lst} {b:Tab} (h:Rel p s b) (hi:LInv p s):(List.range p.N).countP (fun i=>b.pl i == 0)=p.N - s.given:=by
 rw [z3H p.N (List.range' s.given (p.N - s.given)) _ List.nodup_range' (fun k hk=>by have:=List.mem_range'_1.1 hk;have:=hi.given;omega) (fun i hN=>by
  have:=h.a0 i hN;have:=hi.given;rw [beq_iff_eq,List.mem_range'_1];omega),List.length_range']
theorem Rel.cnt1 {p:Lpar} {s:Lst} {b:Tab} (h:Rel p s b) (hi:LInv p s):(List.range p.N).countP (fun i=>b.pl i == 1)=s.jobs.length :=
 z3H p.N s.jobs _ hi.dis.1 (fun k hk=>(hi.inN k (Or.inl hk)).2.2) fun i hN=>by rw [beq_iff_eq];exact h.a1 i hN
theorem Rel.cnt3 {p:Lpar} {s:Lst} {b:Tab} (h:Rel p s b) (hi:LInv p s):(List.range p.N).countP (fun i=>b.pl i == 3)=s.ready.length :=
 z3H p.N s.ready _ hi.dis.2.1 (fun k hk=>(hi.inN k (by simp [hk])).2.2) fun i hN=>by rw [beq_iff_eq];exact h.a3 i hN
theorem LInv.heldN {p:Lpar} {s:Lst} (h:LInv p s) {j k:Nat} (hk:s.held j=some k):j < p.W/\k < p.N:=by
 have hj:j < p.W:=Nat.lt_of_not_le fun hc=>by rw [(h.far j hc).1] at hk;cases hk
 exact ⟨hj,(h.inN k (Or.inr (Or.inl (z2b.2 ⟨j,hj,hk⟩)))).2.2⟩
theorem Rel.next {p:Lpar} {s:Lst} {b:Tab} (h:Rel p s b) (hi:LInv p s):(decide (s.wrote < p.N) && decide (b.pl s.wrote=4))=decide (s.shelf.head?=some s.wrote):=by
 rw [Bool.eq_iff_iff];simp only [Bool.and_eq_true,decide_eq_true_eq];constructor
 . rintro ⟨h1,h2⟩
   have h3:=(h.a4 _ h1).1 h2;cases hs:s.shelf with
   | nil=>rw [hs] at h3;cases h3
   | cons k r =>
    have h4:=hi.sorted;rw [hs] at h3 h4;have h5:=(hi.inN k (by simp [hs])).1;rcases List.mem_cons.1 h3 with h6 | h6
    . simp [h6]
    . have:=(List.pairwise_cons.1 h4).1 _ h6
      omega
 . intro h1
   have hm:s.wrote ∈ s.shelf:=List.mem_of_mem_head? (by rw [h1];rfl);have:=(hi.inN s.wrote (by simp [hm])).2.2;exact ⟨this,(h.a4 _ this).2 hm⟩
def oldF (b:Tab):Nat->Option Nat
 | 0=>none
 | n+1=>if b.pl n=3/\(∀ k,oldF b n=some k->b.wh n < b.wh k) then some n else oldF b n
theorem z8a (b:Tab):∀ n,(oldF b n=none/\∀ i,i < n->b.pl i ≠ 3)∨∃ k,oldF b n=some k/\k < n/\b.pl k=3/\∀ i,i < n->b.pl i=3->b.wh k<=b.wh i
 | 0=>Or.inl ⟨rfl,fun i hi=>absurd hi (Nat.not_lt_zero _)⟩
 | n+1=>by
  simp only [oldF];rcases z8a b n with ⟨h1,h2⟩ | ⟨k,h1,h2,h3,h4⟩
  . split
    . next h5 =>
      refine Or.inr ⟨n,rfl,zU,h5.1,fun i hi h6=>?_⟩
      by_cases e:i=n
      . rw [e];omega
      . exact absurd h6 (h2 i zU)
    . next h5 =>
      refine Or.inl ⟨h1,fun i hi h6=>?_⟩
      by_cases e:i=n
      . subst e;exact h5 ⟨h6,fun k hk=>by rw [h1] at hk;cases hk⟩
      . exact h2 i zU h6
  . split
    . next h5 =>
      have h7:=h5.2 k h1;refine Or.inr ⟨n,rfl,zU,h5.1,fun i hi h6=>?_⟩
      by_cases e:i=n
      . rw [e];omega
      . have:=h4 i zU h6;omega
    . next h5 =>
      refine Or.inr ⟨k,h1,zU,h3,fun i hi h6=>?_⟩
      by_cases e:i=n
      . subst e
        exact Nat.le_of_not_lt fun hc=>h5 ⟨h6,fun k' hk'=>by rw [h1] at hk';cases hk';exact hc⟩
      . exact h4 i zU h6
theorem Rel.oldest {p:Lpar} {s:Lst} {b:Tab} (h:Rel p s b) (hi:LInv p s):oldF b p.N=s.ready.head?:=by
 rcases z8a b p.N with ⟨h1,h2⟩ | ⟨k,h1,h2,h3,h4⟩
 . rw [h1]
   cases hr:s.ready with
   | nil=>rfl
   | cons k r =>
    have:=(hi.inN k (by simp [hr])).2.2;exact absurd ((h.a3 k this).2 (by simp [hr])) (h2 k this)
 . rw [h1]
   have h5:=(h.a3 k h2).1 h3;have h6:=h.ord;cases hr:s.ready with
   | nil=>rw [hr] at h5;cases h5
   | cons k0 r =>
    rw [hr] at h5 h6;have:=(hi.inN k0 (by simp [hr])).2.2;have h7:=h4 k0 this ((h.a3 k0 this).2 (by simp [hr]));rcases List.mem_cons.1 h5 with e | e
    . rw [e];rfl
    . have:=(List.pairwise_cons.1 h6).1 k e
      omega
def Tab.step (p:Lpar) (s:Lst) (b:Tab):LAct->Tab
 | (0,_)=>b
 | (1,_)=>b.put s.given 1
 | (2,_)=>b
 | (3,_)=>if (({ s with begun:=true }).head p 1).stopped=true/\s.stopped=false then b.halt else b
 | (4,_)=>if (({ s with shelf:=s.shelf.tail }).frame p).stopped=true/\s.stopped=false then b.halt else b.put s.wrote 5
 | (5,_)=>match s.ready with
   | []=>if (({ s with e2:=true }).head p 2).stopped=true/\s.stopped=false then b.halt else b
   | k :: _=>b.put k (if s.stopped then 6 else 4)
 | (6,j)=>match s.jobs with
   | []=>b
   | k :: _=>{ b.put k 2 with by_:=updL b.by_ k (j+3) }
 | (7,j)=>match s.held j with
   | none=>b
   | some k=>b.put k 6
 | (_+8,j)=>match s.held j with
   | none=>b
   | some k=>{ b.put k 3 with wh:=updL b.wh k b.turn,turn:=b.turn+1 }
theorem z0z {α:Type} (f:Nat->α) (k:Nat) (v:α):updL f k v k=v:=by simp [updL]
theorem z0s {α:Type} (f:Nat->α) {k i:Nat} (v:α) (h:i ≠ k):updL f k v i=f i:=by simp [updL,h]
theorem z3d {f:Nat->Nat} {k v m:Nat} (h:∀ i,f i<=m) (hv:v<=m) (i:Nat):updL f k v i<=m:=by
 simp only [updL];split
 . exact hv
 . exact h i
theorem Rel.same {p:Lpar} {s s':Lst} {b:Tab} (h:Rel p s b) (h1:s'.given=s.given) (h2:s'.jobs=s.jobs) (h3:s'.held=s.held) (h4:s'.ready=s.ready) (h5:s'.shelf=s.shelf):Rel p s' b:=by
 have e:s'.heldL p=s.heldL p:=by unfold Lst.heldL;rw [h3]
 exact ⟨h1 ▸ h.a0,h2 ▸ h.a1,h3 ▸ h.a2,h4 ▸ h.a3,h5 ▸ h.a4,h4 ▸ h.ord,h4 ▸ h.top,by rw [h1,h2,e];exact h.tot,h.m6,h.m10,h.mw⟩
theorem Rel.halted {p:Lpar} {s s':Lst} {b:Tab} (h:Rel p s b) (h1:s'.given=s.given) (h2:s'.jobs=s.jobs) (h3:s'.held=s.held) (h4:s'.ready=s.ready) (h5:s'.shelf=[]):Rel p s' b.halt:=by
 have e:s'.heldL p=s.heldL p:=by unfold Lst.heldL;rw [h3]
 have g:∀ i v,v ≠ 4->v ≠ 6->(b.halt.pl i=v↔b.pl i=v):=fun i v hv hw=>by
  simp only [Tab.halt];split <;> omega
 refine ⟨fun i hi=>by rw [g i 0 zU zU,h1];exact h.a0 i hi,fun i hi=>by rw [g i 1 zU zU,h2];exact h.a1 i hi,fun i j hi hj=>by rw [g i 2 zU zU,h3];exact h.a2 i j hi hj,fun i hi=>by rw [g i 3 zU zU,h4];exact h.a3 i hi,fun i hi=>?_,h4 ▸ h.ord,h4 ▸ h.top,by rw [h1,h2,e];exact h.tot,fun i=>?_,h.m10,h.mw⟩
 . rw [h5]
   simp only [Tab.halt,List.not_mem_nil,iff_false];split <;> omega
 . have:=h.m6 i
   simp only [Tab.halt];split <;> omega
theorem z3I {p:Lpar} {s:Lst} {m:Nat}:(s.stopped=true/\s.head p m=s)∨(s.stopped=false/\(s.tries p).failed=true/\s.head p m=(s.tries p).halt)∨(s.stopped=false/\(s.tries p).failed=false/\s.head p m={ s.tries p with hd:=m }):=by
 unfold Lst.head;cases h1:s.stopped
 . cases h2:(s.tries p).failed
   . exact Or.inr (Or.inr ⟨rfl,rfl,by simp⟩)
   . exact Or.inr (Or.inl ⟨rfl,rfl,by simp⟩)
 . exact Or.inl ⟨rfl,by simp⟩
theorem Rel.headed {p:Lpar} {s s1:Lst} {b:Tab} {m:Nat} (h:Rel p s b) (h0:s1.stopped=s.stopped) (h1:s1.given=s.given) (h2:s1.jobs=s.jobs) (h3:s1.held=s.held) (h4:s1.ready=s.ready) (h5:s1.shelf=s.shelf) :
 Rel p (s1.head p m) (if (s1.head p m).stopped=true/\s.stopped=false then b.halt else b):=by
 rcases z3I (p:=p) (s:=s1) (m:=m) with ⟨e1,e2⟩ | ⟨e1,e3,e2⟩ | ⟨e1,e3,e2⟩
 . rw [e2,if_neg (by rw [e1,← h0,e1];simp)]
   exact h.same h1 h2 h3 h4 h5
 . rw [e2,if_pos ⟨rfl,by rw [← h0,e1]⟩]
   exact h.halted h1 h2 h3 h4 rfl
 . rw [e2,if_neg (by show ¬ (s1.stopped=true/\_);rw [e1];simp)]
   exact h.same h1 h2 h3 h4 h5
theorem Rel.give {p:Lpar} {s:Lst} {b:Tab} (h:Rel p s b) (hi:LInv p s) (hn:s.given ≠ p.N):Rel p (s.act p .give) (b.put s.given 1):=by
 have hg:=hi.given;have hj:∀ k,k ∈ s.jobs∨k ∈ s.heldL p∨k ∈ s.ready∨k ∈ s.shelf->k < s.given:=fun k hk=>(hi.inN k hk).2.1
 have g:∀ i,i ≠ s.given->(b.put s.given 1).pl i=b.pl i:=fun i hi=>z0s _ _ hi
 have g1:(b.put s.given 1).pl s.given=1:=z0z _ _ _;refine ⟨fun i hN=>?_,fun i hN=>?_,fun i j hN hW=>?_,fun i hN=>?_,fun i hN=>?_,h.ord,h.top,?_,z3d h.m6 zU,h.m10,h.mw⟩
 . show _↔s.given+1<=i
   by_cases e:i=s.given
   . subst e;rw [g1];omega
   . rw [g i e,h.a0 i hN];omega
 . show _↔i ∈ s.jobs ++ [s.given]
   by_cases e:i=s.given
   . subst e;rw [g1];simp
   . rw [g i e,h.a1 i hN];simp [e]
 . show _↔s.held j=some i
   by_cases e:i=s.given
   . subst e;rw [g1]
     refine ⟨fun hc=>zU,fun hc=>absurd (hj _ (Or.inr (Or.inl (z2b.2 ⟨j,hW,hc⟩)))) zU⟩
   . rw [g i e];exact h.a2 i j hN hW
 . show _↔i ∈ s.ready
   by_cases e:i=s.given
   . subst e;rw [g1]
     exact ⟨fun hc=>zU,fun hc=>absurd (hj _ (Or.inr (Or.inr (Or.inl hc)))) zU⟩
   . rw [g i e];exact h.a3 i hN
 . show _↔i ∈ s.shelf
   by_cases e:i=s.given
   . subst e;rw [g1]
     exact ⟨fun hc=>zU,fun hc=>absurd (hj _ (Or.inr (Or.inr (Or.inr hc)))) zU⟩
   . rw [g i e];exact h.a4 i hN
 . show b.turn+(s.jobs ++ [s.given]).length+(s.heldL p).length<=s.given+1
   have:=h.tot;simp;omega
theorem Rel.write {p:Lpar} {s:Lst} {b:Tab} (h:Rel p s b) (hi:LInv p s) (hb:s.begun=true) (hh:s.shelf.head?=some s.wrote):Rel p (s.act p .write) (b.step p s .write):=by
 cases hs:s.shelf with
 | nil=>rw [hs] at hh;cases hh
 | cons k r =>
 rw [hs] at hh;simp only [List.head?_cons,Option.some.injEq] at hh;subst hh;have hst:s.stopped=false:=by
  cases h1:s.stopped
  . rfl
  . rw [hi.stop h1] at hs;cases hs
 have hwN:=(hi.inN s.wrote (by simp [hs])).2;obtain ⟨d1,d2,d3,d4,d5,d6⟩:=hi.dis;rw [hs] at d3 d4 d5 d6;have d3:=List.nodup_cons.1 d3
 show Rel p ((Lst.frame p { s with shelf:=s.shelf.tail })) (if ((Lst.frame p { s with shelf:=s.shelf.tail })).stopped=true/\s.stopped=false then b.halt else b.put s.wrote 5)
 unfold Lst.frame;cases hf:(Lst.tries p { s with shelf:=s.shelf.tail }).failed
 . rw [if_neg (by simp),if_neg (by show ¬ (s.stopped=true/\_);rw [hst];simp)]
   have g:∀ i,i ≠ s.wrote->(b.put s.wrote 5).pl i=b.pl i:=fun i hi=>z0s _ _ hi
   have g1:(b.put s.wrote 5).pl s.wrote=5:=z0z _ _ _;have h4:=(h.a4 _ hwN.2).2 (by rw [hs];simp);refine ⟨fun i hN=>?_,fun i hN=>?_,fun i j hN hW=>?_,fun i hN=>?_,fun i hN=>?_,h.ord,h.top,h.tot,z3d h.m6 zU,h.m10,h.mw⟩
   . show _↔s.given<=i
     by_cases e:i=s.wrote
     . subst e;rw [g1];omega
     . rw [g i e];exact h.a0 i hN
   . show _↔i ∈ s.jobs
     by_cases e:i=s.wrote
     . subst e;rw [g1];exact ⟨fun hc=>zU,fun hc=>absurd (List.mem_cons_self ..) (d4 _ hc).2.2⟩
     . rw [g i e];exact h.a1 i hN
   . show _↔s.held j=some i
     by_cases e:i=s.wrote
     . subst e;rw [g1];exact ⟨fun hc=>zU,fun hc=>absurd (List.mem_cons_self ..) (d5 _ (z2b.2 ⟨j,hW,hc⟩)).2⟩
     . rw [g i e];exact h.a2 i j hN hW
   . show _↔i ∈ s.ready
     by_cases e:i=s.wrote
     . subst e;rw [g1];exact ⟨fun hc=>zU,fun hc=>absurd (List.mem_cons_self ..) (d6 _ hc)⟩
     . rw [g i e];exact h.a3 i hN
   . show _↔i ∈ s.shelf.tail
     rw [hs]
     show _↔i ∈ r
     by_cases e:i=s.wrote
     . subst e;rw [g1];exact ⟨fun hc=>zU,fun hc=>absurd hc d3.1⟩
     . rw [g i e,h.a4 i hN,hs];simp [e]
 . rw [if_pos rfl,if_pos ⟨rfl,hst⟩]
   exact h.halted rfl rfl rfl rfl rfl
theorem Rel.shelve {p:Lpar} {s:Lst} {b:Tab} (h:Rel p s b) (hi:LInv p s):Rel p (s.act p .shelve) (b.step p s .shelve):=by
 cases hr:s.ready with
 | nil =>
  have ea:s.act p .shelve=Lst.head p { s with e2:=true } 2:=by simp only [Lst.act,hr]
  have eb:b.step p s .shelve=if (Lst.head p { s with e2:=true } 2).stopped=true/\s.stopped=false then b.halt else b:=by simp only [Tab.step,hr]
  rw [ea,eb];exact (h.headed rfl rfl rfl rfl rfl rfl)
 | cons k r =>
 have ea:s.act p .shelve=if s.stopped then { s with ready:=r } else { s with ready:=r,shelf:=insL k s.shelf }:=by simp only [Lst.act,hr]
 have eb:b.step p s .shelve=b.put k (if s.stopped then 6 else 4):=by simp only [Tab.step,hr]
 rw [ea,eb];have hwN:=(hi.inN k (by simp [hr])).2;obtain ⟨d1,d2,d3,d4,d5,d6⟩:=hi.dis;have h3:=(h.a3 k hwN.2).2 (by rw [hr];simp);have ho:=h.ord;have ht:=h.top;rw [hr] at d2 d4 d5 d6 ho ht;have d2:=List.nodup_cons.1 d2;have ho:=List.pairwise_cons.1 ho;cases hst:s.stopped
 . rw [if_neg (by simp),if_neg (by simp)]
   have g:∀ i,i ≠ k->(b.put k 4).pl i=b.pl i:=fun i hi=>z0s _ _ hi
   have g1:(b.put k 4).pl k=4:=z0z _ _ _;refine ⟨fun i hN=>?_,fun i hN=>?_,fun i j hN hW=>?_,fun i hN=>?_,fun i hN=>?_,ho.2,fun i hi=>ht i (List.mem_cons_of_mem _ hi),h.tot,z3d h.m6 zU,h.m10,h.mw⟩
   . show _↔s.given<=i
     by_cases e:i=k
     . subst e;rw [g1];omega
     . rw [g i e];exact h.a0 i hN
   . show _↔i ∈ s.jobs
     by_cases e:i=k
     . subst e;rw [g1];exact ⟨fun hc=>zU,fun hc=>absurd (List.mem_cons_self ..) (d4 _ hc).2.1⟩
     . rw [g i e];exact h.a1 i hN
   . show _↔s.held j=some i
     by_cases e:i=k
     . subst e;rw [g1];exact ⟨fun hc=>zU,fun hc=>absurd (List.mem_cons_self ..) (d5 _ (z2b.2 ⟨j,hW,hc⟩)).1⟩
     . rw [g i e];exact h.a2 i j hN hW
   . show _↔i ∈ r
     by_cases e:i=k
     . subst e;rw [g1];exact ⟨fun hc=>zU,fun hc=>absurd hc d2.1⟩
     . rw [g i e,h.a3 i hN,hr];simp [e]
   . show _↔i ∈ insL k s.shelf
     rw [(z4t k s.shelf).mem_iff,List.mem_cons]
     by_cases e:i=k
     . subst e;rw [g1];simp
     . rw [g i e,h.a4 i hN];simp [e]
 . rw [if_pos rfl,if_pos rfl]
   have g:∀ i,i ≠ k->(b.put k 6).pl i=b.pl i:=fun i hi=>z0s _ _ hi
   have g1:(b.put k 6).pl k=6:=z0z _ _ _;refine ⟨fun i hN=>?_,fun i hN=>?_,fun i j hN hW=>?_,fun i hN=>?_,fun i hN=>?_,ho.2,fun i hi=>ht i (List.mem_cons_of_mem _ hi),h.tot,z3d h.m6 zU,h.m10,h.mw⟩
   . show _↔s.given<=i
     by_cases e:i=k
     . subst e;rw [g1];omega
     . rw [g i e];exact h.a0 i hN
   . show _↔i ∈ s.jobs
     by_cases e:i=k
     . subst e;rw [g1];exact ⟨fun hc=>zU,fun hc=>absurd (List.mem_cons_self ..) (d4 _ hc).2.1⟩
     . rw [g i e];exact h.a1 i hN
   . show _↔s.held j=some i
     by_cases e:i=k
     . subst e;rw [g1];exact ⟨fun hc=>zU,fun hc=>absurd (List.mem_cons_self ..) (d5 _ (z2b.2 ⟨j,hW,hc⟩)).1⟩
     . rw [g i e];exact h.a2 i j hN hW
   . show _↔i ∈ r
     by_cases e:i=k
     . subst e;rw [g1];exact ⟨fun hc=>zU,fun hc=>absurd hc d2.1⟩
     . rw [g i e,h.a3 i hN,hr];simp [e]
   . show _↔i ∈ s.shelf
     by_cases e:i=k
     . subst e;rw [g1];exact ⟨fun hc=>zU,fun hc=>absurd hc (d6 _ (List.mem_cons_self ..))⟩
     . rw [g i e];exact h.a4 i hN
theorem Rel.takeW {p:Lpar} {s:Lst} {b:Tab} (h:Rel p s b) (hi:LInv p s) {j:Nat} (hj:j < p.W) (hh:s.held j=none):Rel p (s.act p (.takeW j)) (b.step p s (.takeW j)):=by
 cases hr:s.jobs with
 | nil =>
  have ea:s.act p (.takeW j)={ s with ew:=updL s.ew j true }:=by simp only [Lst.act,hr]
  have eb:b.step p s (.takeW j)=b:=by simp only [Tab.step,hr]
  rw [ea,eb];exact h.same rfl rfl rfl rfl rfl
 | cons k r =>
 have ea:s.act p (.takeW j)={ s with jobs:=r,held:=updL s.held j (some k) }:=by simp only [Lst.act,hr]
 have eb:b.step p s (.takeW j)={ b.put k 2 with by_:=updL b.by_ k (j+3) }:=by simp only [Tab.step,hr]
 rw [ea,eb];have hwN:=(hi.inN k (by simp [hr])).2;obtain ⟨d1,d2,d3,d4,d5,d6⟩:=hi.dis;have h3:=(h.a1 k hwN.2).2 (by rw [hr];simp);have ht:=h.tot;rw [hr] at d1 d4 ht;have d1:=List.nodup_cons.1 d1;have d4:=d4 k (List.mem_cons_self ..);dsimp only;have g:∀ i,i ≠ k->updL b.pl k 2 i=b.pl i:=fun i hi=>z0s _ _ hi
 have g1:updL b.pl k 2 k=2:=z0z _ _ _;refine ⟨fun i hN=>?_,fun i hN=>?_,fun i j' hN hW=>?_,fun i hN=>?_,fun i hN=>?_,h.ord,h.top,?_,z3d h.m6 zU,z3d h.m10 zU,h.mw⟩
 . show updL b.pl k 2 i=0↔s.given<=i
   by_cases e:i=k
   . subst e;rw [g1];omega
   . rw [g i e];exact h.a0 i hN
 . show updL b.pl k 2 i=1↔i ∈ r
   by_cases e:i=k
   . subst e;rw [g1];exact ⟨fun hc=>zU,fun hc=>absurd hc d1.1⟩
   . rw [g i e,h.a1 i hN,hr];simp [e]
 . show (updL b.pl k 2 i=2/\updL b.by_ k (j+3) i=j'+3)↔updL s.held j (some k) j'=some i
   by_cases e:i=k
   . subst e;rw [g1,z0z]
     by_cases e2:j'=j
     . subst e2;rw [z0z];simp
     . rw [z0s _ _ e2]
       refine ⟨fun hc=>zU,fun hc=>absurd (z2b.2 ⟨j',hW,hc⟩) d4.1⟩
   . rw [g i e,z0s _ _ e]
     by_cases e2:j'=j
     . subst e2;rw [z0z,h.a2 i _ hN hW,hh];simp [Ne.symm e]
     . rw [z0s _ _ e2];exact h.a2 i j' hN hW
 . show updL b.pl k 2 i=3↔i ∈ s.ready
   by_cases e:i=k
   . subst e;rw [g1];exact ⟨fun hc=>zU,fun hc=>absurd hc d4.2.1⟩
   . rw [g i e];exact h.a3 i hN
 . show updL b.pl k 2 i=4↔i ∈ s.shelf
   by_cases e:i=k
   . subst e;rw [g1];exact ⟨fun hc=>zU,fun hc=>absurd hc d4.2.2⟩
   . rw [g i e];exact h.a4 i hN
 . show b.turn+r.length+((List.range p.W).filterMap (updL s.held j (some k))).length<=s.given
   rw [y6u hj hh];simp only [List.length_cons] at ht;omega
theorem Rel.letGo {p:Lpar} {s:Lst} {b:Tab} (h:Rel p s b) (hi:LInv p s) {j k:Nat} (hj:j < p.W) (hh:s.held j=some k):Rel p (s.act p (.letGo j)) (b.put k 6):=by
 have hk:=z2b.2 ⟨j,hj,hh⟩;have hwN:=(hi.inN k (by simp [hk])).2;obtain ⟨d1,d2,d3,d4,d5,d6⟩:=hi.dis;have h2:=(h.a2 k j hwN.2 hj).2 hh;have ht:=h.tot;have hl:=z9g hj hh;have g:∀ i,i ≠ k->updL b.pl k 6 i=b.pl i:=fun i hi=>z0s _ _ hi
 have g1:updL b.pl k 6 k=6:=z0z _ _ _;refine ⟨fun i hN=>?_,fun i hN=>?_,fun i j' hN hW=>?_,fun i hN=>?_,fun i hN=>?_,h.ord,h.top,?_,z3d h.m6 zU,h.m10,h.mw⟩
 . show updL b.pl k 6 i=0↔s.given<=i
   by_cases e:i=k
   . subst e;rw [g1];omega
   . rw [g i e];exact h.a0 i hN
 . show updL b.pl k 6 i=1↔i ∈ s.jobs
   by_cases e:i=k
   . subst e;rw [g1];exact ⟨fun hc=>zU,fun hc=>absurd hk (d4 _ hc).1⟩
   . rw [g i e];exact h.a1 i hN
 . show (updL b.pl k 6 i=2/\b.by_ i=j'+3)↔updL s.held j none j'=some i
   by_cases e:i=k
   . subst e;rw [g1]
     by_cases e2:j'=j
     . subst e2;rw [z0z];simp
     . rw [z0s _ _ e2]
       refine ⟨fun hc=>zU,fun hc=>?_⟩;have:=(h.a2 i j' hN hW).2 hc;omega
   . rw [g i e]
     by_cases e2:j'=j
     . subst e2;rw [z0z,h.a2 i _ hN hW,hh];simp [Ne.symm e]
     . rw [z0s _ _ e2];exact h.a2 i j' hN hW
 . show updL b.pl k 6 i=3↔i ∈ s.ready
   by_cases e:i=k
   . subst e;rw [g1];exact ⟨fun hc=>zU,fun hc=>absurd hc (d5 _ hk).1⟩
   . rw [g i e];exact h.a3 i hN
 . show updL b.pl k 6 i=4↔i ∈ s.shelf
   by_cases e:i=k
   . subst e;rw [g1];exact ⟨fun hc=>zU,fun hc=>absurd hc (d5 _ hk).2⟩
   . rw [g i e];exact h.a4 i hN
 . show b.turn+s.jobs.length+((List.range p.W).filterMap (updL s.held j none)).length<=s.given
   omega
theorem Rel.hand {p:Lpar} {s:Lst} {b:Tab} (h:Rel p s b) (hi:LInv p s) {j k:Nat} (hj:j < p.W) (hh:s.held j=some k):Rel p (s.act p (.hand j)) { b.put k 3 with wh:=updL b.wh k b.turn,turn:=b.turn+1 }:=by
 have hk:=z2b.2 ⟨j,hj,hh⟩;have hwN:=(hi.inN k (by simp [hk])).2;obtain ⟨d1,d2,d3,d4,d5,d6⟩:=hi.dis;have h2:=(h.a2 k j hwN.2 hj).2 hh;have ht:=h.tot;have hl:=z9g hj hh;have g:∀ i,i ≠ k->updL b.pl k 3 i=b.pl i:=fun i hi=>z0s _ _ hi
 have g1:updL b.pl k 3 k=3:=z0z _ _ _;have ea:s.act p (.hand j)={ s with held:=updL s.held j none,ready:=s.ready ++ [k] }:=by simp only [Lst.act,hh]
 rw [ea];have hne:∀ i,i ∈ s.ready->i ≠ k:=fun i hi e=>(d5 _ hk).1 (e ▸ hi)
 refine ⟨fun i hN=>?_,fun i hN=>?_,fun i j' hN hW=>?_,fun i hN=>?_,fun i hN=>?_,?_,?_,?_,z3d h.m6 zU,h.m10,?_⟩
 . show updL b.pl k 3 i=0↔s.given<=i
   by_cases e:i=k
   . subst e;rw [g1];omega
   . rw [g i e];exact h.a0 i hN
 . show updL b.pl k 3 i=1↔i ∈ s.jobs
   by_cases e:i=k
   . subst e;rw [g1];exact ⟨fun hc=>zU,fun hc=>absurd hk (d4 _ hc).1⟩
   . rw [g i e];exact h.a1 i hN
 . show (updL b.pl k 3 i=2/\b.by_ i=j'+3)↔updL s.held j none j'=some i
   by_cases e:i=k
   . subst e;rw [g1]
     by_cases e2:j'=j
     . subst e2;rw [z0z];simp
     . rw [z0s _ _ e2]
       refine ⟨fun hc=>zU,fun hc=>?_⟩;have:=(h.a2 i j' hN hW).2 hc;omega
   . rw [g i e]
     by_cases e2:j'=j
     . subst e2;rw [z0z,h.a2 i _ hN hW,hh];simp [Ne.symm e]
     . rw [z0s _ _ e2];exact h.a2 i j' hN hW
 . show updL b.pl k 3 i=3↔i ∈ s.ready ++ [k]
   by_cases e:i=k
   . subst e;rw [g1];simp
   . rw [g i e,h.a3 i hN];simp [e]
 . show updL b.pl k 3 i=4↔i ∈ s.shelf
   by_cases e:i=k
   . subst e;rw [g1];exact ⟨fun hc=>zU,fun hc=>absurd hc (d5 _ hk).2⟩
   . rw [g i e];exact h.a4 i hN
 . show (s.ready ++ [k]).Pairwise fun i m=>updL b.wh k b.turn i < updL b.wh k b.turn m
   rw [List.pairwise_append];refine ⟨h.ord.imp_of_mem fun {i m} hi hm hlt=>?_,List.pairwise_singleton _ _,fun i hi m hm=>?_⟩
   . rw [z0s _ _ (hne i hi),z0s _ _ (hne m hm)];exact hlt
   . have:=List.mem_singleton.1 hm
     subst this;rw [z0s _ _ (hne i hi),z0z];exact h.top i hi
 . show ∀ i,i ∈ s.ready ++ [k]->updL b.wh k b.turn i < b.turn+1
   intro i hi;rcases List.mem_append.1 hi with hi | hi
   . rw [z0s _ _ (hne i hi)];have:=h.top i hi;omega
   . have:=List.mem_singleton.1 hi
     subst this;rw [z0z];omega
 . show b.turn+1+s.jobs.length+((List.range p.W).filterMap (updL s.held j none)).length<=s.given
   omega
 . intro i
   exact z3d (fun i=>by have:=h.mw i;omega) (Nat.le_succ _) i
theorem Rel.step {p:Lpar} {s:Lst} {b:Tab} (h:Rel p s b) (hi:LInv p s) {t:Nat} {c:LAct} (ht:t < 3+p.W) (hn:s.next p t=some c):Rel p (s.act p c) (b.step p s c):=by
 match t,ht,hn with
 | 0,_,hn =>
  obtain ⟨-,⟨rfl,-⟩ | ⟨rfl,-,h2,-⟩⟩:=y6q hn
  . exact h.same rfl rfl rfl rfl rfl
  . exact h.give hi h2
 | 1,_,hn =>
  obtain ⟨-,rfl,-⟩:=y6r hn;unfold Lst.act;cases s.lane <;> exact h.same rfl rfl rfl rfl rfl
 | 2,_,hn =>
  obtain ⟨-,⟨rfl,-⟩ | ⟨h1,⟨rfl,h2⟩ | ⟨rfl,-⟩⟩⟩:=y6s hn
  . exact h.headed rfl rfl rfl rfl rfl rfl
  . exact h.write hi h1 h2
  . exact h.shelve hi
 | j+3,ht,hn =>
  obtain ⟨-,⟨rfl,h1,-⟩ | ⟨k,h1,⟨rfl,-⟩ | ⟨rfl,-⟩⟩⟩:=y6t hn
  . exact h.takeW hi zU h1
  . have eb:b.step p s (.letGo j)=b.put k 6:=by simp only [Tab.step,h1]
    rw [eb];exact h.letGo hi zU h1
  . have eb:b.step p s (.hand j)={ b.put k 3 with wh:=updL b.wh k b.turn,turn:=b.turn+1 }:=by simp only [Tab.step,h1]
    rw [eb];exact h.hand hi zU h1
theorem Rel.init {p:Lpar}:Rel p Lst.init Tab.init:=by
 refine ⟨fun i _=>?_,fun i _=>?_,fun i j _ _=>?_,fun i _=>?_,fun i _=>?_,List.Pairwise.nil,fun i hi=>absurd hi (by simp [Lst.init]),?_,fun i=>zJ _,fun i=>zJ _,fun i=>zJ _⟩
 all_goals simp [Lst.init,Tab.init,Lst.heldL]
 all_goals (rw [List.filterMap_eq_nil_iff.2 (fun _ _=>rfl)];rfl)
theorem Rel.cancel {p:Lpar} {s:Lst} {b:Tab} (h:Rel p s b):Rel p s.halt b.halt:=h.halted rfl rfl rfl rfl rfl
end Go.Proofs.YtlncjgnomhpjnabGreatDoor
