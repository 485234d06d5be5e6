import Derived.Test.YtlncjgnomhpjnabGreatDoorQL21
namespace Go.Proofs.YtlncjgnomhpjnabGreatDoor
open Go.Value renaming int → O
open Go.IntKind renaming i64 → I
open Go.Proofs.Tryz
open Go.RowKit Go.Deep
set_option linter.unusedVariables false
theorem z1a {a b c:World} {r:Option Nat} (h:a.grownBy b r) (k:b.grownBy c r):a.grownBy c r :=
 ⟨k.os.trans h.os,k.tape.trans h.tape,k.output.trans h.output,zO h.size k.size,fun j hj hne=>(k.block j (zP hj h.size) hne).trans (h.block j hj hne)⟩
theorem y4G (w:World) (r:Option Nat):w.grownBy w r:=⟨rfl,rfl,rfl,Nat.le_refl _,fun _ _ _=>rfl⟩
theorem z2t (w:World) (a:Addr) (v:Value):w.grownBy (w.setCell a v) (some a.block) :=
 ⟨rfl,rfl,rfl,by simp,fun j hj hne=>blk_setCell_other _ _ _ _ (fun e=>hne (by rw [e]))⟩
theorem y7Y {w w':World} {r:Option Nat} (h:w.grownBy w' none):w.grownBy w' r:=⟨h.os,h.tape,h.output,h.size,fun j hj _=>h.block j hj (by simp)⟩
theorem z6n (g:Nat):∀ (vs:List Value) (q:Nat) (w:World),w.grownBy (w.setCells g q vs) (some g)
 | [],q,w=>y4G _ _
 | v :: r,q,w=>z1a (z2t w ⟨g,q,none⟩ v) (z6n g r (q+1) _)
theorem z3w (g:Nat) (e:TypeId) (N:Nat):∀ (vs:List Value) (q:Nat) (w:World) (f:Nat->Value),w.rowIs g e N f ->
 ∃ f',(w.setCells g q vs).rowIs g e N f'/\(∀ i,f' i=f i∨f' i ∈ vs)/\(∀ j (hj:j < vs.length),f' (q+j)=vs[j])/\∀ i,i < q∨q+vs.length<=i->f' i=f i
 | [],q,w,f,h=>⟨f,h,fun _=>.inl rfl,fun j hj=>absurd hj (Nat.not_lt_zero j),fun _ _=>rfl⟩
 | v :: r,q,w,f,h=>by
  obtain ⟨f',h1,h2,h3,h4⟩:=z3w g e N r (q+1) _ _ (h.set q v);refine ⟨f',h1,fun i=>?_,fun j hj=>?_,fun i hi=>?_⟩
  . rcases h2 i with e | e
    . by_cases hq:i=q
      . rw [if_pos hq] at e;exact .inr (by rw [e];simp)
      . rw [if_neg hq] at e;exact .inl e
    . exact .inr (by simp [e])
  . cases j with
    | zero =>
     have:=h4 q (.inl zU);rw [if_pos rfl] at this
     simpa using this
    | succ j =>
     have:=h3 j (by simpa using hj);rw [show q+(j+1)=q+1+j by omega,this];simp
  . have h5:(v :: r).length=r.length+1:=by simp
    have:=h4 i zU;rw [if_neg zU] at this;exact this
def LstE (e:TypeId) (w:World) (v:Value) (n:Nat) (og:Option Nat) (x:Nat->Value):Prop :=
 (v=.slice none 0 0/\n=0/\og=none)∨∃ g o c N f,og=some g/\v=.slice (some ⟨g,o,none⟩) n c/\w.rowIs g e N f/\o+c<=N/\n<=c/\∀ i,i < n->f (o+i)=x i
structure StepE (e:TypeId) (og:Option Nat) (news:List Value) (w w':World):Prop where
 gr:w.grownBy w' og
 row:∀ g,og=some g->∀ N f,w.rowIs g e N f->∃ f',w'.rowIs g e N f'/\∀ i,f' i=f i∨f' i ∈ news
theorem StepE.mono {e:TypeId} {og:Option Nat} {news news':List Value} {a b:World} (h:StepE e og news a b) (hn:∀ v ∈ news,v ∈ news'):StepE e og news' a b :=
 ⟨h.gr,fun g hg N f hr=>by
  obtain ⟨f1,h1,h2⟩:=h.row g hg N f hr;exact ⟨f1,h1,fun i=>(h2 i).imp id (hn _)⟩⟩
theorem StepE.of_gr {e:TypeId} {og:Option Nat} {news:List Value} {a b:World} (h:a.grownBy b none):StepE e og news a b :=
 ⟨y7Y h,fun g hg N f hr=>⟨f,hr.of_block (h.block g hr.lt (by simp)),fun _=>.inl rfl⟩⟩
theorem LstE.row {e:TypeId} {w:World} {v:Value} {n:Nat} {og:Option Nat} {x:Nat->Value} (h:LstE e w v n og x) {g:Nat} (hg:og=some g):∃ N f,w.rowIs g e N f:=by
 rcases h with ⟨-,-,e⟩ | ⟨g',o,c,N,f,e,-,hr,-⟩
 . rw [e] at hg;cases hg
 . rw [hg] at e;injection e with e;subst e;exact ⟨N,f,hr⟩
theorem LstE.step {e:TypeId} {w w':World} {v:Value} {n:Nat} {og:Option Nat} {x:Nat->Value} {news:List Value} (h:LstE e w v n og x) (hs:StepE e og news w w'):∃ x',LstE e w' v n og x'/\∀ i,i < n->x' i=x i∨x' i ∈ news:=by
 rcases h with h | ⟨g,o,c,N,f,e1,e2,hr,h1,h2,h3⟩
 . exact ⟨x,.inl h,fun i hi=>absurd hi zU⟩
 . obtain ⟨f',h4,h5⟩:=hs.row g e1 N f hr
   refine ⟨fun i=>f' (o+i),.inr ⟨g,o,c,N,f',e1,e2,h4,h1,h2,fun i _=>rfl⟩,fun i hi=>?_⟩;rw [← h3 i hi];exact h5 _
theorem y7Z (t e:TypeId) (z:Value) (bytes:Nat) (ht:prog.underlying t=some (.slice e)) (hinfo:(prog.info? e).map (fun i=>(i.zero,i.size,i.bytes))=some (some z,1,bytes)) (hzs:z.cells.size=1)
 (w:World) (v:Value) (n:Nat) (og:Option Nat) (x:Nat->Value) (arr:Array Value) (h:LstE e w v n og x) (hk1:1<=arr.size) (h1:∀ u ∈ arr.toList,u.oneCell'=true) (hm:n+arr.size<=1000000000) (hby:bytes<=1000) (ty:TypeId) :
 ∃ b o c w' x',(Builtin.append_ #[t,t] ty #[v,.slice (some ⟨w.heap.size,0,none⟩) arr.size arr.size]).run prog (w.alloc (.cells arr e))=.ok (.slice (some ⟨b,o,none⟩) (n+arr.size) c) w' /\
  (og=some b∨w.heap.size<=b)/\LstE e w' (.slice (some ⟨b,o,none⟩) (n+arr.size) c) (n+arr.size) (some b) x'/\(∀ i,i < n->x' i=x i)/\(∀ i (hi:i < arr.size),x' (n+i)=arr[i])/\StepE e og arr.toList w w':=by
 obtain ⟨i0,hi,hz0,hz1,hz2⟩:=info_parts hinfo;have hmx:n+arr.size<=maxLen:=by simp only [maxLen];omega
 have hbt:(n+arr.size) * bytes<=140737488355328:=by
  have:(n+arr.size) * bytes<=1000000000 * 1000:=Nat.mul_le_mul hm hby;omega
 have hnews:∀ j u,arr.toList[j]?=some u->(w.alloc (.cells arr e)).cell? ((⟨w.heap.size,0,none⟩:Addr).add j)=some u:=by
  intro j u hj;have:(w.alloc (.cells arr e)).cell? ⟨w.heap.size,j,none⟩=arr[j]?:=World.cell?_alloc_new _ _ _ _;rw [show ((⟨w.heap.size,0,none⟩:Addr).add j)=⟨w.heap.size,j,none⟩ by cases j <;> simp [Addr.add],this]
  simpa using hj
 have hal:(w.alloc (.cells arr e)).heap.size=w.heap.size+1:=by simp
 have fin:∀ (xs:List Value) (v':Value) (w':World),xs.length=n->(∀ i,i < n->xs[i]?=some (x i))->w'.ownsRow w.heap.size e 1 v' (n+arr.size) (xs ++ arr.toList)->w.grownBy w' none ->
     ∃ b o c x',v'=.slice (some ⟨b,o,none⟩) (n+arr.size) c/\(og=some b∨w.heap.size<=b)/\LstE e w' (.slice (some ⟨b,o,none⟩) (n+arr.size) c) (n+arr.size) (some b) x'/\(∀ i,i < n->x' i=x i)/\(∀ i (hi:i < arr.size),x' (n+i)=arr[i])/\StepE e og arr.toList w w':=by
  intro xs v' w' hl hx ho hg;rcases ho.2 with ⟨-,h0⟩ | ⟨b,cap,cur,rfl,hb,hcur,hcap,-,hcs,htk⟩
  . omega
  . have cells:∀ j u,(xs ++ arr.toList)[j]?=some u->cur.getD j undef=u:=fun j u hj=>by
      rw [← htk,List.getElem?_take] at hj;split at hj
      . rw [Array.getElem?_toList] at hj
        rw [Array.getD_eq_getD_getElem?,hj];rfl
      . cases hj
    refine ⟨b,0,cap,fun j=>cur.getD j undef,rfl,.inr hb,.inr ⟨b,0,cap,cap,fun j=>cur.getD j undef,rfl,rfl,⟨cur,hcur,zU,fun j hj=>?_⟩,zU,hcap,fun i _=>by rw [Nat.zero_add]⟩,fun i hi=>cells i _ ?_,fun i hi=>cells (n+i) _ ?_,StepE.of_gr hg⟩
    . have hjc:j < cur.size:=zU
      show cur[j]?=some (cur.getD j undef)
      rw [Array.getD_eq_getD_getElem?,Array.getElem?_eq_getElem hjc];rfl
    . rw [List.getElem?_append_left zU];exact hx i hi
    . rw [List.getElem?_append_right zU,hl,Nat.add_sub_cancel_left]
      simp [hi]
 rcases h with ⟨rfl,rfl,rfl⟩ | ⟨g,o,c,N,f,rfl,rfl,hr,hoc,hnc,hfx⟩
 . obtain ⟨v',w',hrun,ho,hgr,-⟩:=run_append_own (P:=prog) (w.alloc (.cells arr e)) w.heap.size t ty e i0 z 1 bytes ht hi hz0 hz1 hz2 hzs zU (.slice none 0 0) 0 [] (World.ownsRow_nil _ _ _ _)
     ⟨w.heap.size,0,none⟩ arr.size arr.size arr.toList (by simp) hnews h1 hmx hbt zU
   obtain ⟨b,o,c,x',rfl,h2⟩:=fin [] v' w' rfl (fun i hi=>absurd hi (Nat.not_lt_zero i)) ho (z1a (World.grownBy_alloc w _ none) hgr);exact ⟨b,o,c,w',x',hrun,h2⟩
 . have hra:=hr.alloc (.cells arr e)
   have hlx:((List.range n).map x).length=n:=by simp
   by_cases hroom:n+arr.size<=c
   . have hcN:∀ j,j < arr.toList.length->((w.alloc (.cells arr e)).cell? ⟨g,o+n * i0.size+j,none⟩).isSome=true:=fun j hj=>by
       rw [hz1,Nat.mul_one,hra.cell (by simp at hj;omega)];rfl
     have hrun:=run_append_room_cells (P:=prog) (w.alloc (.cells arr e)) t ty e i0 ht hi g o n c ⟨w.heap.size,0,none⟩ arr.size arr.size arr.toList (by simp [hz1]) hnews h1 hroom hcN (fun j _=>hra.frozen _);rw [hz1,Nat.mul_one] at hrun;obtain ⟨f',r1,r2,r3,r4⟩:=z3w g e N arr.toList (o+n) _ _ hra;refine ⟨g,o,c,_,fun i=>f' (o+i),hrun,.inl rfl,.inr ⟨g,o,c,N,f',rfl,rfl,r1,hoc,hroom,fun i _=>rfl⟩,fun i hi=>?_,fun i hi=>?_,⟨z1a (World.grownBy_alloc w _ _) (z6n g _ _ _),fun g2 e2 N2 f2 hr2=>?_⟩⟩
     . show f' (o+i)=x i
       rw [r4 _ (.inl zU),hfx i hi]
     . show f' (o+(n+i))=arr[i]
       rw [show o+(n+i)=o+n+i by omega,r3 i (by simpa using hi)];simp
     . injection e2 with e2
       subst e2;obtain ⟨f3,q1,q2,-⟩:=z3w g e N2 arr.toList (o+n) _ _ (hr2.alloc (.cells arr e));exact ⟨f3,q1,q2⟩
   . obtain ⟨v',w',hrun,ho,hgr⟩:=run_append_arg_grows (P:=prog) (w.alloc (.cells arr e)) t ty e i0 z 1 bytes ht hi hz0 hz1 hz2 hzs zU ⟨g,o,none⟩ n c ((List.range n).map x) (by simp)
       (fun j u hj=>by
        rw [List.getElem?_map] at hj;rcases Nat.lt_or_ge j n with hjn | hjn
        . rw [List.getElem?_range hjn] at hj
          simp only [Option.map_some,Option.some.injEq] at hj;rw [Addr.add_lit,hra.cell zU,hfx j hjn,← hj]
        . rw [List.getElem?_eq_none (by simpa using hjn)] at hj
          simp at hj)
       ⟨w.heap.size,0,none⟩ arr.size arr.size arr.toList (by simp) hnews zU hmx hbt
     have ho':w'.ownsRow w.heap.size e 1 v' (n+arr.size) ((List.range n).map x ++ arr.toList):=by
      refine ⟨ho.1,?_⟩;rcases ho.2 with h0 | ⟨g',cap,cur,e1,e2,e3⟩
      . exact .inl h0
      . exact .inr ⟨g',cap,cur,e1,zU,e3⟩
     obtain ⟨b,o',c',x',rfl,h2⟩:=fin _ v' w' hlx (fun i hi=>by rw [List.getElem?_map,List.getElem?_range hi];rfl) ho' (z1a (World.grownBy_alloc w _ none) hgr);exact ⟨b,o',c',w',x',hrun,h2⟩
theorem z0v {P:Program} {w w':World} {ops:Array Oper} {rest:List Oper} {o:Oper} {a:Act} {Q:Exit->Act->World->Prop}
 (hg:o.guard=none) (s x:Operand) (t:TypeId) (hop:o.op=Op.call { callee:=Callee.builtin Builtin.append,args:=#[s,x],argTypes:=#[t,t] })
 (v b v':Value) (hs:a.eval s=v) (hx:a.eval x=b) (hrun:(Builtin.append_ #[t,t] o.type #[v,b]).run P w=.ok v' w') (h:wpList P ops Q rest (a.put o.dst v') w'):wpList P ops Q (o :: rest) a w:=by
 refine wpList_plain hg fun K hK'=>?_
 unfold Oper.wp;simp [execOp,hop,resolve,invoke,builtin,hs,hx,hrun,Result.andThen];exact hK' _ _ h
theorem z8c (t e:TypeId) (z:Value) (size bytes:Nat) (ht:prog.underlying t=some (.slice e)) (hinfo:(prog.info? e).map (fun i=>(i.zero,i.size,i.bytes))=some (some z,size,bytes)) (hzs:z.cells.size=size) (hs1:1<=size)
 (w:World) (base:Nat) (kv:Value) (j:Nat) (ks:List Value) (arr:Array Value) (hown:w.ownsRow base e size kv j ks) (hsz:arr.size=size) (h1:∀ u ∈ arr.toList,u.oneCell'=true) (hj:j+1<=maxLen) (hby:(j+1) * bytes<=140737488355328) (hbase:base<=w.heap.size) (ty:TypeId) :
 ∃ g c w',(Builtin.append_ #[t,t] ty #[kv,.slice (some ⟨w.heap.size,0,none⟩) 1 1]).run prog (w.alloc (.cells arr e))=.ok (.slice (some ⟨g,0,none⟩) (j+1) c) w' /\
  w'.ownsRow base e size (.slice (some ⟨g,0,none⟩) (j+1) c) (j+1) (ks ++ arr.toList)/\w.grownBy w' kv.ownBlock/\(kv.ownBlock=some g∨w.heap.size<=g):=by
 obtain ⟨i0,hi,hz0,hz1,hz2⟩:=info_parts hinfo;have hnews:∀ j u,arr.toList[j]?=some u->(w.alloc (.cells arr e)).cell? ((⟨w.heap.size,0,none⟩:Addr).add j)=some u:=by
  intro j u hj;have:(w.alloc (.cells arr e)).cell? ⟨w.heap.size,j,none⟩=arr[j]?:=World.cell?_alloc_new _ _ _ _;rw [show ((⟨w.heap.size,0,none⟩:Addr).add j)=⟨w.heap.size,j,none⟩ by cases j <;> simp [Addr.add],this]
  simpa using hj
 have hal:(w.alloc (.cells arr e)).heap.size=w.heap.size+1:=by simp
 obtain ⟨v',w',hr,ho,hgr,-⟩:=run_append_own (P:=prog) (w.alloc (.cells arr e)) base t ty e i0 z size bytes ht hi hz0 hz1 hz2 hzs zU kv j ks (hown.alloc _)
  ⟨w.heap.size,0,none⟩ 1 1 arr.toList (by simp [hsz]) hnews h1 hj hby zU
 rcases ho.2 with ⟨-,h0⟩ | ⟨g,c,cur,rfl,-,hcur,-⟩
 . omega
 . refine ⟨g,c,w',hr,ho,z1a (World.grownBy_alloc w _ _) hgr,?_⟩
   rcases hown.2 with ⟨rfl,rfl⟩ | ⟨g0,cap,cur0,rfl,-,hcur0,hcap,-,hcs,htk⟩
   . obtain ⟨v2,w2,hr2,ho2,-⟩:=run_append_own (P:=prog) (w.alloc (.cells arr e)) w.heap.size t ty e i0 z size bytes ht hi hz0 hz1 hz2 hzs zU (.slice none 0 0) 0 [] (World.ownsRow_nil _ _ _ _)
       ⟨w.heap.size,0,none⟩ 1 1 arr.toList (by simp [hsz]) hnews h1 hj hby zU
     rw [hr] at hr2
     injection hr2 with e1 e2
     subst e1;exact .inr (ho2.lt g rfl).1
   . have hc0:∀ q,q < cap * size->(w.alloc (.cells arr e)).cell? ⟨g0,q,none⟩=cur0[q]?:=fun q hq=>by
       have:(w.alloc (.cells arr e)).heap[g0]?=some (.cells cur0 e (0,0)):=(blk_alloc_lt _ _ _ (Array.getElem?_eq_some_iff.1 hcur0).1).trans hcur0;simp [World.cell?,this]
     by_cases hroom:j+1<=cap
     . have hb:j * size+size<=cap * size:=by
         have:=zD size hroom;rw [Nat.add_mul,Nat.one_mul] at this;exact this
       have hr2:=run_append_room_cells (P:=prog) (w.alloc (.cells arr e)) t ty e i0 ht hi g0 0 j cap ⟨w.heap.size,0,none⟩ 1 1 arr.toList (by simp [hsz,hz1]) hnews h1 hroom
        (fun q hq=>by
         have hq2:q < size:=by simpa [hsz] using hq
         rw [hz1,Nat.zero_add,hc0 _ zU,Array.getElem?_eq_getElem zU];rfl)
        (fun q _=>by
         have:(w.alloc (.cells arr e)).heap[g0]?=some (.cells cur0 e (0,0)):=(blk_alloc_lt _ _ _ (Array.getElem?_eq_some_iff.1 hcur0).1).trans hcur0;simp [World.frozen?,this])
       rw [hr] at hr2
       injection hr2 with e1 e2
       injection e1 with e1
       injection e1 with e1
       injection e1 with e1
       subst e1;exact .inl rfl
     . obtain ⟨v2,w2,hr2,ho2,-⟩:=run_append_arg_grows (P:=prog) (w.alloc (.cells arr e)) t ty e i0 z size bytes ht hi hz0 hz1 hz2 hzs zU ⟨g0,0,none⟩ j cap ks hown.1
         (fun q u hq=>by
          have:=(hown.alloc (.cells arr e)).cells (g:=g0) rfl q u hq;exact this)
         ⟨w.heap.size,0,none⟩ 1 1 arr.toList (by simp [hsz]) hnews zU hj hby
       rw [hr] at hr2
       injection hr2 with e1 e2
       subst e1;have:=(ho2.lt g rfl).1;exact .inr zU
theorem Bx.fz {u:World} {q:Nat} {t:TypeId} {cs:Array Value} (h:Bx u q t cs) (i:Nat):u.frozen? ⟨q,i,none⟩=false:=by
 simp [World.frozen?,show u.heap[q]?=_ from h]
theorem z8d {u:World} {p q:Nat} {c0 c1:Int} {B c3 seek S:Nat} (hI:Bx u p 39 #[O I c0,O I c1,O I B,O I c3,O I seek,O I S]) (hZ:Bx u q 110 #[O I 0,O I 0,O I 0,O I 0,O I 0,O I 0,.bool false,O I 0,O I 0,O I 0,.slice none 0 0]):u.cell? ⟨p,0,none⟩=some (O I c0)/\u.cell? ⟨p,1,none⟩=some (O I c1)/\u.cell? ⟨p,2,none⟩=some (O I (B:Int))/\u.cell? ⟨p,3,none⟩=some (O I (c3:Int))/\u.cell? ⟨p,4,none⟩=some (O I (seek:Int))/\u.cell? ⟨p,5,none⟩=some (O I (S:Int))/\u.cell? ⟨q,0,none⟩=some (O I 0)/\u.cell? ⟨q,1,none⟩=some (O I 0)/\u.cell? ⟨q,2,none⟩=some (O I 0)/\u.cell? ⟨q,3,none⟩=some (O I 0)/\u.cell? ⟨q,4,none⟩=some (O I 0)/\u.cell? ⟨q,5,none⟩=some (O I 0)/\u.cell? ⟨q,6,none⟩=some (.bool false)/\u.cell? ⟨q,7,none⟩=some (O I 0)/\u.cell? ⟨q,8,none⟩=some (O I 0)/\u.cell? ⟨q,9,none⟩=some (O I 0)/\u.cell? ⟨q,10,none⟩=some (.slice none 0 0)/\u.frozen? ⟨q,0,none⟩=false/\u.frozen? ⟨q,1,none⟩=false/\u.frozen? ⟨q,2,none⟩=false/\u.frozen? ⟨q,3,none⟩=false/\u.frozen? ⟨q,4,none⟩=false/\u.frozen? ⟨q,5,none⟩=false/\u.frozen? ⟨q,6,none⟩=false/\u.frozen? ⟨q,7,none⟩=false/\u.frozen? ⟨q,8,none⟩=false/\u.frozen? ⟨q,9,none⟩=false/\u.frozen? ⟨q,10,none⟩=false :=
 ⟨hI.cell 0,hI.cell 1,hI.cell 2,hI.cell 3,hI.cell 4,hI.cell 5,hZ.cell 0,hZ.cell 1,hZ.cell 2,hZ.cell 3,hZ.cell 4,hZ.cell 5,hZ.cell 6,hZ.cell 7,hZ.cell 8,hZ.cell 9,hZ.cell 10,hZ.fz 0,hZ.fz 1,hZ.fz 2,hZ.fz 3,hZ.fz 4,hZ.fz 5,hZ.fz 6,hZ.fz 7,hZ.fz 8,hZ.fz 9,hZ.fz 10⟩
theorem Bx.set11 {u:World} {q:Nat} {t:TypeId} {o0 o1 o2 o3 o4 o5 o6 o7 o8 o9 o10:Value} (h:Bx u q t #[o0,o1,o2,o3,o4,o5,o6,o7,o8,o9,o10]) (s0 s1 s2 s3 s4 s5 s6 s7 s8 s9 s10:Value):Bx ((((((((((((u.setCell ⟨q,0,none⟩ s0).setCell ⟨q,1,none⟩ s1).setCell ⟨q,2,none⟩ s2).setCell ⟨q,3,none⟩ s3).setCell ⟨q,4,none⟩ s4).setCell ⟨q,5,none⟩ s5).setCell ⟨q,6,none⟩ s6).setCell ⟨q,7,none⟩ s7).setCell ⟨q,8,none⟩ s8).setCell ⟨q,9,none⟩ s9).setCell ⟨q,10,none⟩ s10)) q t #[s0,s1,s2,s3,s4,s5,s6,s7,s8,s9,s10]:=by
 simp [Bx,World.setCell,Array.getElem?_modify,show u.heap[q]?=_ from h]
theorem y0q {B q:Nat} {w u:World} {s0 s1 s2 s3 s4 s5 s6 s7 s8 s9 s10:Value} (h:Below B w u) (hq:B<=q):Below B w ((((((((((((u.setCell ⟨q,0,none⟩ s0).setCell ⟨q,1,none⟩ s1).setCell ⟨q,2,none⟩ s2).setCell ⟨q,3,none⟩ s3).setCell ⟨q,4,none⟩ s4).setCell ⟨q,5,none⟩ s5).setCell ⟨q,6,none⟩ s6).setCell ⟨q,7,none⟩ s7).setCell ⟨q,8,none⟩ s8).setCell ⟨q,9,none⟩ s9).setCell ⟨q,10,none⟩ s10)) :=
 ((((((((((h.setCell (p:=⟨q,0,none⟩) hq _).setCell (p:=⟨q,1,none⟩) hq _).setCell (p:=⟨q,2,none⟩) hq _).setCell (p:=⟨q,3,none⟩) hq _).setCell (p:=⟨q,4,none⟩) hq _).setCell (p:=⟨q,5,none⟩) hq _).setCell (p:=⟨q,6,none⟩) hq _).setCell (p:=⟨q,7,none⟩) hq _).setCell (p:=⟨q,8,none⟩) hq _).setCell (p:=⟨q,9,none⟩) hq _).setCell (p:=⟨q,10,none⟩) hq _
theorem y6y {q:Nat} (u:World) (s0 s1 s2 s3 s4 s5 s6 s7 s8 s9 s10:Value):u.grownBy ((((((((((((u.setCell ⟨q,0,none⟩ s0).setCell ⟨q,1,none⟩ s1).setCell ⟨q,2,none⟩ s2).setCell ⟨q,3,none⟩ s3).setCell ⟨q,4,none⟩ s4).setCell ⟨q,5,none⟩ s5).setCell ⟨q,6,none⟩ s6).setCell ⟨q,7,none⟩ s7).setCell ⟨q,8,none⟩ s8).setCell ⟨q,9,none⟩ s9).setCell ⟨q,10,none⟩ s10)) (some q) :=
 z1a (z1a (z1a (z1a (z1a (z1a (z1a (z1a (z1a (z1a (z2t _ ⟨q,0,none⟩ _) (z2t _ ⟨q,1,none⟩ _)) (z2t _ ⟨q,2,none⟩ _)) (z2t _ ⟨q,3,none⟩ _)) (z2t _ ⟨q,4,none⟩ _)) (z2t _ ⟨q,5,none⟩ _)) (z2t _ ⟨q,6,none⟩ _)) (z2t _ ⟨q,7,none⟩ _)) (z2t _ ⟨q,8,none⟩ _)) (z2t _ ⟨q,9,none⟩ _)) (z2t _ ⟨q,10,none⟩ _)
theorem y8T (tmps:Array Value) (R:Nat) (cs:Array Value) (W:World) (h:Bx W R 110 cs) (hs:cs.size=11) (h2:tmps.getD 2 undef=.pointer (some ⟨R,0,none⟩)) :
 (results Tryz.f136 tmps).run prog W=.ok (.agg cs) W:=by
 have hl:=run_loadVar_row (P:=prog) W R 110 110 cs (0,0) _ h underlying110 rfl (by rw [hs];exact y6x);rw [Array.getD_eq_getD_getElem?] at h2;simp [results,results136,asAddr,h2,hl]
set_option maxRecDepth 4000 in
set_option maxHeartbeats 2000000 in
theorem z6G (c0 c1:Int) (B c3 seek S:Nat) (w:World) (hB:1<=B) (hB2:B<=100000) (hS:S<=300) (hk:seek<=100000) :
 Calls prog 136 #[.agg #[O I c0,O I c1,O I B,O I c3,O I seek,O I S]] w fun e w'=>∃ g,e=.returned (.agg (hdC c0 c1 B c3 seek S false 0 0 0 (.slice (some ⟨g,0,none⟩) (nPts S B seek) (nPts S B seek))))/\w'.rowIs g 3 (nPts S B seek) (fun _=>O I 0)/\Below w.heap.size w w':=by
 have HB0:Hid (Below w.heap.size w (w.alloc (.cells #[O I c0,O I c1,O I B,O I c3,O I seek,O I S] 39))):=zX.alloc zY _;have HPT:=zZ (fun u=>y0p c0 c1 B c3 seek S u hB hB2 zU hk);have hN:nPts S B seek<=300:=by
  unfold nPts;split
  . omega
  . have h1:=z1K (S:=S) hB
    have h2:=z1K (S:=nBlk S B) (B:=seek) zU;omega
 generalize nPts S B seek=N at *;have hmk:=run_make_row' (P:=prog) 30 3 (O I 0) 8 underlying30 z1g rfl .i64 .i64 N zU zU
 go_enter func136,ntmps136
 have hI0:Bx ((w.alloc (.cells #[O I c0,O I c1,O I B,O I c3,O I seek,O I S] 39)).alloc (.cells #[O I 0,O I 0,O I 0,O I 0,O I 0,O I 0,.bool false,O I 0,O I 0,O I 0,.slice none 0 0] 110)) w.heap.size 39 #[O I c0,O I c1,O I B,O I c3,O I seek,O I S]:=(Bx.new w _ _).alloc _;have hZ0:Bx ((w.alloc (.cells #[O I c0,O I c1,O I B,O I c3,O I seek,O I S] 39)).alloc (.cells #[O I 0,O I 0,O I 0,O I 0,O I 0,O I 0,.bool false,O I 0,O I 0,O I 0,.slice none 0 0] 110)) (w.heap.size+1) 110 #[O I 0,O I 0,O I 0,O I 0,O I 0,O I 0,.bool false,O I 0,O I 0,O I 0,.slice none 0 0]:=Bx.new2 (by simp) _ _;have HI0:=zZ hI0;have HZ0:=zZ hZ0;have HB9:Hid (Below w.heap.size w ((w.alloc (.cells #[O I c0,O I c1,O I B,O I c3,O I seek,O I S] 39)).alloc (.cells #[O I 0,O I 0,O I 0,O I 0,O I 0,O I 0,.bool false,O I 0,O I 0,O I 0,.slice none 0 0] 110))):=HB0.out.alloc HB0.out.size _;have hS0:=z8d (u:=((w.alloc (.cells #[O I c0,O I c1,O I B,O I c3,O I seek,O I S] 39)).alloc (.cells #[O I 0,O I 0,O I 0,O I 0,O I 0,O I 0,.bool false,O I 0,O I 0,O I 0,.slice none 0 0] 110)).drew) hI0 hZ0;clear hI0 hZ0;obtain ⟨x0,x1,x2,x3,x4,x5,x6,x7,x8,x9,x10,x11,x12,x13,x14,x15,x16,x17,x18,x19,x20,x21,x22,x23,x24,x25,x26,x27⟩:=hS0;go_wp2_with fail
 go_region_with (first | (go_at_call 134;refine (HPT.out _).mono ?_;rintro e u1 ⟨rfl,hb⟩;have hI1:Bx u1 w.heap.size 39 #[O I c0,O I c1,O I B,O I c3,O I seek,O I S]:=Bx.below (w:=((w.alloc (.cells #[O I c0,O I c1,O I B,O I c3,O I seek,O I S] 39)).alloc (.cells #[O I 0,O I 0,O I 0,O I 0,O I 0,O I 0,.bool false,O I 0,O I 0,O I 0,.slice none 0 0] 110)).drew) HI0.out hb;have hZ1:Bx u1 (w.heap.size+1) 110 #[O I 0,O I 0,O I 0,O I 0,O I 0,O I 0,.bool false,O I 0,O I 0,O I 0,.slice none 0 0]:=Bx.below (w:=((w.alloc (.cells #[O I c0,O I c1,O I B,O I c3,O I seek,O I S] 39)).alloc (.cells #[O I 0,O I 0,O I 0,O I 0,O I 0,O I 0,.bool false,O I 0,O I 0,O I 0,.slice none 0 0] 110)).drew) HZ0.out hb;have hS1:=z8d hI1 hZ1;have hS2:=z8d (hI1.alloc (.cells (madeCells #[O I 0] N) 3)) (hZ1.alloc (.cells (madeCells #[O I 0] N) 3));obtain ⟨y0,y1,y2,y3,y4,y5,y6,y7,y8,y9,y10,y11,y12,y13,y14,y15,y16,y17,y18,y19,y20,y21,y22,y23,y24,y25,y26,y27⟩:=hS1;obtain ⟨z0,z1,z2,z3,z4,z5,z6,z7,z8,z9,z10,z11,z12,z13,z14,z15,z16,z17,z18,z19,z20,z21,z22,z23,z24,z25,z26,z27⟩:=hS2;have HZ1:=zZ hZ1;have HB1:Hid (Below w.heap.size w u1):=HB9.out.drew.trans (hb.mono HB9.out.size);clear HPT hb hI1 hZ1 HI0 HZ0))
 all_goals
  (
   have hne:u1.heap.size ≠ w.heap.size+1:=by have:=HZ1.out.lt;omega
   have hrow:=(World.rowIs_made u1 (O I 0) N 3);go_wp2;refine bodyPost_ret (y8T _ (w.heap.size+1) _ _ ((HZ1.out.alloc _).set11 _ _ _ _ _ _ _ _ _ _ _) rfl rfl) rfl ⟨u1.heap.size,rfl,?_,y0q (HB1.out.alloc HB1.out.size _) (Nat.le_succ _)⟩;exact (hrow.congr fun i _=>rfl).of_block ((y6y _ _ _ _ _ _ _ _ _ _ _ _).block _ (by simp) (fun e=>hne (by injection e))))
def hd0:Value:=.agg (hdC 0 0 0 0 0 0 false 0 0 0 (.slice none 0 0))
theorem y8a (c0 c1 B c3 c4 S:Nat) (h0:c0 < 256) (h1:c1 < 256) (h2:B < 256) (h3:c3 < 65536) (h4:c4 < 256) (h5:S < 65536) (np g:Nat) (u:World) (hn:np<=300) (hr:u.rowIs g 3 np (fun _=>O I 0)) :
 Calls prog 129 #[.agg #[O I c0,O I c1,O I B,O I c3,O I c4,O I S,.bool false,O I 0,O I 0,O I 0,.slice (some ⟨g,0,none⟩) np np]] u fun e w'=>e=.returned (.string (bs (z1L 0 c0 c1 B c3 S c4 0 0 0 (List.replicate np 0))))/\Below u.heap.size u w':=by
 have hl:(List.replicate np 0).length=np:=List.length_replicate;have h:=z5f false c0 c1 B c3 S c4 0 0 0 (List.replicate np 0) (some ⟨g,0,none⟩) np u h0 h1 h2 h3 h4 h5 zU zU zU zU (fun p hp=>by have:=List.eq_of_mem_replicate hp;omega)
  (by
   rw [hl];refine fun i hi=>⟨_,rfl,?_⟩
   have:=hr.cell hi;rw [z2z,Nat.zero_add,this]
   show _=some (Value.int .i64 (((List.replicate np 0).getD i 0:Nat):Int))
   rw [List.getD_eq_getElem?_getD,List.getElem?_replicate,if_pos hi]
   rfl)
  (fun x hx hp=>by injection hx with hx;subst hx;exact hr.lt)
 rw [hl] at h;exact h
def Bk (w:World) (B:Nat) (kv lv:Value) (K:Int):Prop:=w.heap[B]?=some (.cells #[kv,lv,O I K] 49 (0,0))
theorem z3J {w:World} {g N base size j:Nat} {v:Value} {e e':TypeId} {ks:List Value} {f:Nat->Value} (ho:w.ownsRow base e size v j ks) (hr:w.rowIs g e' N f) (he:e ≠ e'):v.ownBlock ≠ some g:=by
 intro e1;obtain ⟨c,hb,-⟩:=hr;rcases ho.2 with h0 | ⟨g',cap,cur,h0,-,hcur,-⟩
 . rw [h0.1] at e1;cases e1
 . rw [h0] at e1
   have e2:g'=g:=by simpa [Value.ownBlock] using e1
   rw [e2,hb] at hcur
   injection hcur with hb
   injection hb with h1 h2
   exact he h2.symm
theorem y2G {w:World} {base size j base' size' j':Nat} {v v':Value} {e e':TypeId} {ks ks':List Value} (ho:w.ownsRow base e size v j ks) (ho':w.ownsRow base' e' size' v' j' ks') (he:e ≠ e'):v.ownBlock=none∨v.ownBlock ≠ v'.ownBlock:=by
 rcases ho.2 with h0 | ⟨g,cap,cur,rfl,-,hcur,-⟩
 . rw [h0.1];exact .inl rfl
 . refine .inr fun e1=>?_
   rcases ho'.2 with h0 | ⟨g',cap',cur',rfl,-,hcur',-⟩
   . rw [h0.1] at e1;cases e1
   . have e2:g=g':=by simpa [Value.ownBlock] using e1
     rw [e2,hcur'] at hcur
     injection hcur with hb
     injection hb with h1 h2
     exact he h2.symm
def ShM (S:Nat->Prop) (w:World) (v:Value) (n:Nat) (m:Int):Prop:=∃ og,LstE 3 w v n og (fun _=>O I m)/\∀ g,og=some g->S g
def MkL (S:Nat->Prop) (w:World) (m:Int) (u:Value):Prop:=∃ h,u=.slice (some ⟨h,0,none⟩) 1 1/\S h/\w.rowIs h 3 1 (fun _=>O I m)
def ShL (S:Nat->Prop) (w:World) (v:Value) (n:Nat) (m:Int):Prop:=∃ og x,LstE 30 w v n og x/\(∀ g,og=some g->S g)/\∀ i,i < n->MkL S w m (x i)
theorem LstE.keep {e:TypeId} {w w':World} {v:Value} {n:Nat} {og:Option Nat} {x:Nat->Value} (h:LstE e w v n og x) (hb:∀ g,og=some g->w'.heap[g]?=w.heap[g]?):LstE e w' v n og x:=by
 rcases h with h | ⟨g,o,c,N,f,e1,e2,hr,h1⟩
 . exact .inl h
 . exact .inr ⟨g,o,c,N,f,e1,e2,hr.of_block (hb g e1),h1⟩
theorem LstE.lt {e:TypeId} {w:World} {v:Value} {n:Nat} {og:Option Nat} {x:Nat->Value} (h:LstE e w v n og x) {g:Nat} (hg:og=some g):g < w.heap.size:=by
 obtain ⟨N,f,hr⟩:=h.row hg;exact hr.lt
def y0r (w:World) (k:Nat):Prop:=∃ e N f,(e=3∨e=30)/\w.rowIs k e N f
theorem LstE.isRow {e:TypeId} {w:World} {v:Value} {n:Nat} {og:Option Nat} {x:Nat->Value} (h:LstE e w v n og x) (he:e=3∨e=30) {g:Nat} (hg:og=some g):y0r w g:=by
 obtain ⟨N,f,hr⟩:=h.row hg;exact ⟨e,N,f,he,hr⟩
theorem ShM.keep {S S':Nat->Prop} {w w':World} {v:Value} {n:Nat} {m:Int} (h:ShM S w v n m) (hb:∀ k,S k->y0r w k->w'.heap[k]?=w.heap[k]?) (hS:∀ k,S k->S' k):ShM S' w' v n m:=by
 obtain ⟨og,h1,h2⟩:=h;exact ⟨og,h1.keep (fun g hg=>hb g (h2 g hg) (h1.isRow (.inl rfl) hg)),fun g hg=>hS _ (h2 g hg)⟩
theorem MkL.keep {S S':Nat->Prop} {w w':World} {u:Value} {m:Int} (h:MkL S w m u) (hb:∀ k,S k->y0r w k->w'.heap[k]?=w.heap[k]?) (hS:∀ k,S k->S' k):MkL S' w' m u:=by
 obtain ⟨g,h1,h2,h3⟩:=h;exact ⟨g,h1,hS g h2,h3.of_block (hb g h2 ⟨_,_,_,.inl rfl,h3⟩)⟩
theorem ShL.keep {S S':Nat->Prop} {w w':World} {v:Value} {n:Nat} {m:Int} (h:ShL S w v n m) (hb:∀ k,S k->y0r w k->w'.heap[k]?=w.heap[k]?) (hS:∀ k,S k->S' k):ShL S' w' v n m:=by
 obtain ⟨og,x,h1,h2,h3⟩:=h;exact ⟨og,x,h1.keep (fun g hg=>hb g (h2 g hg) (h1.isRow (.inr rfl) hg)),fun g hg=>hS _ (h2 g hg),fun i hi=>(h3 i hi).keep hb hS⟩
def Ent (Sh:Value->Nat->Int->Prop) (es:List Value) (i:Nat):Prop :=
 ∃ l g1 g2 g3 n m,n<=1000000/\es[6 * i]?=some l/\es[6 * i+1]?=some g1/\es[6 * i+2]?=some g2/\es[6 * i+3]?=some g3/\es[6 * i+4]?=some (O I ((n:Nat):Int))/\es[6 * i+5]?=some (O I m) /\
  Sh l n m/\Sh g1 (n+1) m/\Sh g2 (n+2) m/\Sh g3 (n+3) m
theorem Ent.mono {Sh Sh':Value->Nat->Int->Prop} {es:List Value} {i:Nat} (h:Ent Sh es i) (hs:∀ v n m,Sh v n m->Sh' v n m):Ent Sh' es i:=by
 obtain ⟨l,g1,g2,g3,n,m,h0,e0,e1,e2,e3,e4,e5,s0,s1,s2,s3⟩:=h;exact ⟨l,g1,g2,g3,n,m,h0,e0,e1,e2,e3,e4,e5,hs _ _ _ s0,hs _ _ _ s1,hs _ _ _ s2,hs _ _ _ s3⟩
theorem Ent.app {Sh:Value->Nat->Int->Prop} {es six:List Value} {i:Nat} (h:Ent Sh es i):Ent Sh (es ++ six) i:=by
 obtain ⟨l,g1,g2,g3,n,m,h0,e0,e1,e2,e3,e4,e5,s⟩:=h;have key:∀ {j:Nat} {v:Value},es[j]?=some v->(es ++ six)[j]?=some v:=fun {j v} hj=>by
  rw [List.getElem?_append_left (List.getElem?_eq_some_iff.1 hj).1];exact hj
 exact ⟨l,g1,g2,g3,n,m,h0,key e0,key e1,key e2,key e3,key e4,key e5,s⟩
theorem Ent.last {Sh:Value->Nat->Int->Prop} {es:List Value} {j:Nat} {l g1 g2 g3:Value} {n:Nat} {m:Int} (hl:es.length=j * 6) (hn:n<=1000000) (s0:Sh l n m) (s1:Sh g1 (n+1) m) (s2:Sh g2 (n+2) m) (s3:Sh g3 (n+3) m):Ent Sh (es ++ [l,g1,g2,g3,O I ((n:Nat):Int),O I m]) j:=by
 have key:∀ q,(es ++ [l,g1,g2,g3,O I ((n:Nat):Int),O I m])[6 * j+q]?=[l,g1,g2,g3,O I ((n:Nat):Int),O I m][q]?:=fun q=>by
  rw [List.getElem?_append_right zU,show 6 * j+q - es.length=q by omega]
 exact ⟨l,g1,g2,g3,n,m,hn,key 0,key 1,key 2,key 3,key 4,key 5,s0,s1,s2,s3⟩
theorem z9j:(prog.info? 128).map (fun i=>(i.zero,i.size,i.bytes))=some (some (.agg #[.slice none 0 0,.slice none 0 0,.slice none 0 0,.slice none 0 0,O I 0,O I 0]),6,112):=zT
theorem LstE.mk {w w':World} {v:Value} {n:Nat} {m:Int} {og og2:Option Nat} {k:Nat} (h1:LstE 3 w v n og2 (fun _=>O I m)) (hs:StepE 3 og (List.replicate k (O I m)) w w'):LstE 3 w' v n og2 (fun _=>O I m):=by
 by_cases e:og2=og
 . subst e
   obtain ⟨x',h3,h4⟩:=h1.step hs;rcases h3 with h3 | ⟨g,o,c,N,f,e1,e2,hr,q1,q2,q3⟩
   . exact .inl h3
   . refine .inr ⟨g,o,c,N,f,e1,e2,hr,q1,q2,fun i hi=>?_⟩
     rw [q3 i hi];rcases h4 i hi with e | e
     . exact e
     . exact (List.mem_replicate.1 e).2
 . exact h1.keep fun g hg=>hs.gr.block g (h1.lt hg) (fun e'=>e (hg.trans e'))
theorem z7d (w:World) (v:Value) (n:Nat) (m:Int) (arr:Array Value) (k:Nat) (og:Option Nat) (h:LstE 3 w v n og (fun _=>O I m)) (hn:n<=1000000) (harr:arr.toList=List.replicate k (O I m)) (hk:k<=3) (hk1:1<=k) (ty:TypeId) :
 ∃ b o c w',(Builtin.append_ #[30,30] ty #[v,.slice (some ⟨w.heap.size,0,none⟩) k k]).run prog (w.alloc (.cells arr 3))=.ok (.slice (some ⟨b,o,none⟩) (n+k) c) w' /\
  (og=some b∨w.heap.size<=b)/\LstE 3 w' (.slice (some ⟨b,o,none⟩) (n+k) c) (n+k) (some b) (fun _=>O I m)/\StepE 3 og (List.replicate 3 (O I m)) w w':=by
 have hsz:arr.size=k:=by rw [← Array.length_toList,harr];simp
 obtain ⟨b,o,c,w',x',hr,hb,hl,h1,h2,hs⟩:=y7Z 30 3 (O I 0) 8 underlying30 z1g rfl w v n og _ arr h zU (by rw [harr];intro u hu;rw [List.mem_replicate] at hu;rw [hu.2];rfl) zU zU ty;rw [hsz] at hr hl;refine ⟨b,o,c,w',hr,hb,?_,hs.mono fun v hv=>?_⟩
 . rcases hl with ⟨h0,-⟩ | ⟨g,o',c',N,f,e1,e2,hrow,q1,q2,q3⟩
   . cases h0
   . refine .inr ⟨g,o',c',N,f,e1,e2,hrow,q1,q2,fun i hi=>?_⟩
     rw [q3 i hi];rcases Nat.lt_or_ge i n with hin | hin
     . exact h1 i hin
     . have:=h2 (i - n) zU
       rw [show n+(i - n)=i by omega] at this;rw [this];have hm:arr[i - n] ∈ arr.toList:=by simp
       rw [harr] at hm;exact (List.mem_replicate.1 hm).2
 . rw [harr] at hv
   rw [List.mem_replicate] at hv ⊢;exact ⟨zU,hv.2⟩
theorem ShM.ints {S:Nat->Prop} {w:World} {v:Value} {n:Nat} {m:Int} (h:ShM S w v n m):∃ a c,v=.slice a n c/\IntsAt w a n (fun _=>m):=by
 obtain ⟨og,h,-⟩:=h;rcases h with ⟨rfl,rfl,-⟩ | ⟨g,o,c,N,f,-,rfl,hr,h1,h2,h3⟩
 . exact ⟨none,0,rfl,fun i hi=>absurd hi (Nat.not_lt_zero i)⟩
 . exact ⟨_,c,rfl,fun i hi=>⟨_,rfl,by rw [Addr.add_lit,hr.cell zU,h3 i hi]⟩⟩
theorem ShL.lists {S:Nat->Prop} {w:World} {v:Value} {n:Nat} {m:Int} (h:ShL S w v n m):∃ a c,v=.slice a n c/\∀ i,i < n->∃ g o q,a=some ⟨g,o,none⟩/\w.cell? ⟨g,o+i,none⟩=some (.slice (some ⟨q,0,none⟩) 1 1)/\IntsAt w (some ⟨q,0,none⟩) 1 (fun _=>m):=by
 obtain ⟨og,x,h,-,hx⟩:=h;rcases h with ⟨rfl,rfl,-⟩ | ⟨g,o,c,N,f,-,rfl,hr,h1,h2,h3⟩
 . exact ⟨none,0,rfl,fun i hi=>absurd hi (Nat.not_lt_zero i)⟩
 . refine ⟨_,c,rfl,fun i hi=>?_⟩
   obtain ⟨q,e1,-,e3⟩:=hx i hi;refine ⟨g,o,q,rfl,by rw [hr.cell zU,h3 i hi,e1],fun k hk=>⟨_,rfl,?_⟩⟩;rw [Addr.add_lit,Nat.zero_add,e3.cell hk]
theorem z3e {w w':World} {a:Option Addr} {n:Nat} {f:Nat->Int} (h:IntsAt w a n f) (hg:w.grownBy w' none):IntsAt w' a n f:=by
 intro i hi;obtain ⟨y,e,hc⟩:=h i hi;exact ⟨y,e,hg.cell hc (by simp)⟩
theorem z8e (a:Option Addr) (n k c:Nat) (v:Int) (w:World) (hn:n<=2000000) (hk:k<=3) (hI:IntsAt w a (n+k) (fun _=>v)) :
 Calls prog 98 #[.slice a (n+k) c,O I ((n:Int)+(k:Int)),O I v] w fun e w'=>e=.returned (.bool true)/\w'=w:=by
 have:=z2l a (n+k) c v w zU hI
 rwa [show (((n+k:Nat)):Int)=(n:Int)+(k:Int) by omega] at this
def y1D (w:World) (a:Option Addr) (n:Nat) (m:Int):Prop:=∀ i,i < n->∃ g o q,a=some ⟨g,o,none⟩/\w.cell? ⟨g,o+i,none⟩=some (.slice (some ⟨q,0,none⟩) 1 1)/\IntsAt w (some ⟨q,0,none⟩) 1 (fun _=>m)
set_option maxHeartbeats 1000000 in
theorem z9k (a:Option Addr) (n c:Nat) (m:Int) (w:World) (hn:n<=2000000) (hI:y1D w a n m) :
 Calls prog 99 #[.slice a n c,O I n,O I m] w fun e w'=>e=.returned (.bool true)/\w'=w:=by
 have HI:=zZ hI;clear hI
 go_enter func99,ntmps99
 go_wp2
 go_loopw [6,7,8] (fun _ iv _ wr=>∃ i:Nat,i<=n/\iv=O I i/\wr=w) (fun _ iv _ _=>n - (intOf iv).toNat)
 case atStart=>exact ⟨0,zJ _,rfl,rfl⟩
 case round =>
  obtain ⟨i,hi,rfl,hwr⟩:=hrel;subst hwr
  by_cases hlt:i < n
  . obtain ⟨g,o,q,hae,hc,hq⟩:=HI.out i hlt
    have HS:=zZ (fun (u:World) (e:u=wr)=>show Calls prog 98 #[.slice (some ⟨q,0,none⟩) 1 1,O I 1,O I m] u fun e w'=>e=.returned (.bool true)/\w'=u from by rw [e];exact z2l (some ⟨q,0,none⟩) 1 1 m wr zU hq);clear hq;subst hae
    go_wp2_with (go_at_call 98;refine (HS.out _ rfl).mono ?_;rintro e w5 ⟨rfl,hw⟩;subst w5;clear HS)
    go_roundw
    case rel=>exact ⟨i+1,zU,zS,by first | rfl | trivial⟩
    case measure=>simp [intOf];omega
  . have e:i=n:=zU
    subst e;go_wp2;go_ret;exact ⟨rfl,rfl⟩
theorem z2A {w w':World} {a:Option Addr} {n:Nat} {m:Int} (h:y1D w a n m) (hg:w.grownBy w' none):y1D w' a n m:=by
 intro i hi;obtain ⟨g,o,q,e,hc,hq⟩:=h i hi;exact ⟨g,o,q,e,hg.cell hc (by simp),z3e hq hg⟩
theorem z8f (a:Option Addr) (n k c:Nat) (m:Int) (w:World) (hn:n<=1000000) (hk:k<=3) (hI:y1D w a (n+k) m) :
 Calls prog 99 #[.slice a (n+k) c,O I ((n:Int)+(k:Int)),O I m] w fun e w'=>e=.returned (.bool true)/\w'=w:=by
 have:=z9k a (n+k) c m w zU hI
 rwa [show (((n+k:Nat)):Int)=(n:Int)+(k:Int) by omega] at this
end Go.Proofs.YtlncjgnomhpjnabGreatDoor
