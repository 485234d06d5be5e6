import Derived.Test.YtlncjgnomhpjnabGreatDoorQL50
import Derived.ChangeSlices
import Derived.Deep.SlicePairs
namespace Go.Proofs.YtlncjgnomhpjnabGreatDoor.lines
open Go Go.Lib Go.ChangeShapes Go.WideShapes Go.ChangeAt Go.RowKit Go.Deep
theorem y5F:Tryz.prog.cellsOf 54=15:=by kernel_rfl
theorem y6Z:Tryz.prog.cellsOf 9=1:=by kernel_rfl
theorem y3o:Tryz.prog.cellsOf 24=1:=by kernel_rfl
theorem y9u {α:Type} {cs:List α} (h:cs.length=15):∃ c0 c1 c2 c3 c4 c5 c6 c7 c8 c9 c10 c11 c12 c13 c14,cs=[c0,c1,c2,c3,c4,c5,c6,c7,c8,c9,c10,c11,c12,c13,c14]:=by
 match cs,h with
 | [c0,c1,c2,c3,c4,c5,c6,c7,c8,c9,c10,c11,c12,c13,c14],_=>exact ⟨c0,c1,c2,c3,c4,c5,c6,c7,c8,c9,c10,c11,c12,c13,c14,rfl⟩
theorem y5G {H:Type} {enc:TypeId × Value->H} {W:World} {a:Option Addr} {n cap:Nat} {d:DataW H} {p:List MemPlace}
 (h:DataW.Trod enc Tryz.prog W 0 (fun _=>true) true 30 (.slice a n cap) d p) (hw:∀ x ∈ d.weights Tryz.prog 30,x<=reachBytes) :
 ∃ F:Nat->Int,n<=17592186044416/\IntsAt W a n F/\(∀ y,a=some y->0 < n->y.block < W.heap.size)/\(∀ i,i < n->-9223372036854775808<=F i/\F i<=9223372036854775807):=by
 obtain ⟨fuel,hf⟩:=h;rcases open_ints Tryz.underlying30 Tryz.underlying3 z5q hf with ⟨hcs,_⟩ | ⟨x,len,cp,zs,hcs,_,hl,_,hz,hx,hc,hwf⟩
 . simp [Value.cells] at hcs
   obtain ⟨rfl,rfl,rfl⟩:=hcs;exact ⟨fun _=>0,by omega,fun i hi=>absurd hi (Nat.not_lt_zero i),(fun y hy=>by cases hy),fun i hi=>absurd hi (Nat.not_lt_zero i)⟩
 . simp [Value.cells] at hcs
   obtain ⟨rfl,rfl,rfl⟩:=hcs;simp only [Prod.mk.injEq] at hx;obtain ⟨rfl,rfl⟩:=hx;simp only [if_true] at hz;have hn:n<=17592186044416:=by
    have:=hw _ (by simp only [DataW.weights,Tryz.underlying30];exact List.mem_cons_self);simp only [lits,List.length_map,List.length_take,List.length_drop,y1B,reachBytes] at this;omega
   refine ⟨fun i=>zs.getD i 0,hn,fun i hi=>⟨x,rfl,hc i (by omega)⟩,fun y hy h0=>?_,fun i hi=>bounds_i64 (hwf _ (by
    have hlt:i < zs.length:=by omega
    show zs.getD i 0 ∈ zs
    rw [List.getD_eq_getElem?_getD,List.getElem?_eq_getElem hlt];exact List.getElem_mem hlt))⟩
   cases hy;exact World.block_lt_of_cell? W _ (hc 0 (by omega)) |> fun h=>by simpa [Addr.add] using h
theorem y5H {H:Type} {enc:TypeId × Value->H} {W:World} {fuel:Nat} {v0 v1 v2 v3 v4 v5 v6 v7:Value} {y:DataW H × List MemPlace}
 (hf:DataW.trod enc Tryz.prog W 0 (fun _=>true) true fuel 23 [v0,v1,v2,v3,v4,v5,v6,v7]=some y) :
 ∃ c0 c1 c2 c3 c4 c5 c6 c7:Int,v0=.int .i64 c0/\v1=.int .i64 c1/\v2=.int .i64 c2/\v3=.int .i64 c3/\v4=.int .i64 c4/\v5=.int .i64 c5/\v6=.int .i64 c6/\v7=.int .i64 c7:=by
 obtain ⟨xs,n,_,_,_,hlen,hfs⟩:=DataW.trod_struct Tryz.underlying23 hf;have hg:∀ i,i < 8->∃ y,xs[i]?=some y:=fun i hi=>⟨_,List.getElem?_eq_getElem (by rw [hlen];exact hi)⟩
 have h0:=hfs 0 _ rfl;have h1:=hfs 1 _ rfl;have h2:=hfs 2 _ rfl;have h3:=hfs 3 _ rfl;have h4:=hfs 4 _ rfl;have h5:=hfs 5 _ rfl;have h6:=hfs 6 _ rfl;have h7:=hfs 7 _ rfl;obtain ⟨y0,e0⟩:=hg 0 (by omega);obtain ⟨y1,e1⟩:=hg 1 (by omega);obtain ⟨y2,e2⟩:=hg 2 (by omega);obtain ⟨y3,e3⟩:=hg 3 (by omega);obtain ⟨y4,e4⟩:=hg 4 (by omega);obtain ⟨y5,e5⟩:=hg 5 (by omega);obtain ⟨y6,e6⟩:=hg 6 (by omega);obtain ⟨y7,e7⟩:=hg 7 (by omega);obtain ⟨c0,k0,_⟩:=DataW.trod_int Tryz.underlying3 (h0.trans e0);obtain ⟨c1,k1,_⟩:=DataW.trod_int Tryz.underlying3 (h1.trans e1);obtain ⟨c2,k2,_⟩:=DataW.trod_int Tryz.underlying3 (h2.trans e2);obtain ⟨c3,k3,_⟩:=DataW.trod_int Tryz.underlying3 (h3.trans e3);obtain ⟨c4,k4,_⟩:=DataW.trod_int Tryz.underlying3 (h4.trans e4);obtain ⟨c5,k5,_⟩:=DataW.trod_int Tryz.underlying3 (h5.trans e5);obtain ⟨c6,k6,_⟩:=DataW.trod_int Tryz.underlying3 (h6.trans e6);obtain ⟨c7,k7,_⟩:=DataW.trod_int Tryz.underlying3 (h7.trans e7);simp [z5q] at k0 k1 k2 k3 k4 k5 k6 k7;exact ⟨c0,c1,c2,c3,c4,c5,c6,c7,k0,k1,k2,k3,k4,k5,k6,k7⟩
set_option maxRecDepth 100000 in
theorem y8C {H:Type} {enc:TypeId × Value->H} {W:World} {fuel:Nat} {cs:List Value} {d:DataW H} {p:List MemPlace}
 (hf:DataW.trod enc Tryz.prog W 0 (fun _=>true) true fuel 54 cs=some (d,p)) (hw:∀ x ∈ d.weights Tryz.prog 54,x<=reachBytes):∃ o:Opv,cs=o.arr.toList/\OpOk W o:=by
 have hlt:∀ x ∈ p,x.block < W.heap.size:=DataW.trod_lt fuel _ _ _ hf;obtain ⟨xs,n,_,hd,hcl,hlen,hfs⟩:=DataW.trod_struct Tryz.underlying54 hf;obtain ⟨v0,v1,v2,v3,v4,v5,v6,v7,v8,v9,v10,v11,v12,v13,v14,rfl⟩:=y9u (hcl.trans y5F);simp only [Prod.mk.injEq] at hd;obtain ⟨rfl,rfl⟩:=hd;have hg:∀ i,i < 8->∃ y,xs[i]?=some y:=fun i hi=>⟨_,List.getElem?_eq_getElem (by rw [hlen];exact hi)⟩
 have h0:=hfs 0 _ rfl;have h1:=hfs 1 _ rfl;have h2:=hfs 2 _ rfl;have h3:=hfs 3 _ rfl;have h4:=hfs 4 _ rfl;have h5:=hfs 5 _ rfl;have h6:=hfs 6 _ rfl;have h7:=hfs 7 _ rfl;obtain ⟨y0,e0⟩:=hg 0 (by omega);obtain ⟨y1,e1⟩:=hg 1 (by omega);obtain ⟨y2,e2⟩:=hg 2 (by omega);obtain ⟨y3,e3⟩:=hg 3 (by omega);obtain ⟨y4,e4⟩:=hg 4 (by omega);obtain ⟨y5,e5⟩:=hg 5 (by omega);obtain ⟨y6,e6⟩:=hg 6 (by omega);obtain ⟨y7,e7⟩:=hg 7 (by omega);obtain ⟨kd,k0,_⟩:=DataW.trod_int Tryz.underlying3 (h0.trans e0);obtain ⟨on,k1,_,r1⟩:=DataW.trod_int Tryz.underlying3 (h1.trans e1);obtain ⟨a,k2,_⟩:=DataW.trod_int Tryz.underlying3 (h2.trans e2);obtain ⟨b,k3,_⟩:=DataW.trod_int Tryz.underlying3 (h3.trans e3);obtain ⟨st,k5,_⟩:=DataW.trod_string Tryz.underlying9 (h5.trans e5);have g4:=h4.trans e4;have g6:=h6.trans e6;have g7:=h7.trans e7;simp [z5q,y6Z,y6o,z9c,y3o] at k0 k1 k2 k3 k5 g4 g6 g7;obtain ⟨c0,c1,c2,c3,c4,c5,c6,c7,q0,q1,q2,q3,q4,q5,q6,q7⟩:=y5H g4;obtain ⟨la,lm,lc,q13⟩:∃ la lm lc,v13=.slice la lm lc:=by
  rcases open_slice Tryz.underlying30 g6 with ⟨hcs,_⟩ | ⟨x,len,cp,m,k,D,Pl,hcs,_⟩
  . exact ⟨_,_,_,by simpa using hcs⟩
  . exact ⟨_,_,_,by simpa using hcs⟩
 obtain ⟨wa,wn,wc,q14⟩:∃ wa wn wc,v14=.slice wa wn wc:=by
  rcases open_slice Tryz.underlying24 g7 with ⟨hcs,_⟩ | ⟨x,len,cp,m,k,D,Pl,hcs,_⟩
  . exact ⟨_,_,_,by simpa using hcs⟩
  . exact ⟨_,_,_,by simpa using hcs⟩
 subst k0 k1 k2 k3 k5 q0 q1 q2 q3 q4 q5 q6 q7 q13 q14;have wts:∀ (j:Nat) (t:TypeId) (y:DataW H × List MemPlace),([3,3,3,3,23,9,30,24]:List TypeId)[j]?=some t->xs[j]?=some y->∀ x ∈ y.1.weights Tryz.prog t,x<=reachBytes:=fun j t y ht hy x hx=>by
  refine hw x ?_;simp only [DataW.weights,Tryz.underlying54];exact DataW.weights_mem_each (j:=j) (t:=t) (d:=y.1) ht (by rw [List.getElem?_map,hy];rfl) x hx
 have h6T:DataW.Trod enc Tryz.prog W 0 (fun _=>true) true 30 (.slice la lm lc) y6.1 y6.2:=⟨n,by simpa [Value.cells] using g6⟩;have h7T:DataW.Trod enc Tryz.prog W 0 (fun _=>true) true 24 (.slice wa wn wc) y7.1 y7.2:=⟨n,by simpa [Value.cells] using g7⟩;obtain ⟨pk,hm,hI,hlow,hr⟩:=y5G h6T (wts 6 _ y6 rfl e6);obtain ⟨A,L,C,F,hS,-⟩:=y0k h7T (wts 7 _ y7 rfl e7) (fun x hx=>hlt x (List.mem_flatMap.2 ⟨y7,List.mem_of_getElem? e7,hx⟩));exact ⟨⟨kd,on,a,b,c0,c1,c2,c3,c4,c5,c6,c7,st,la,lm,lc,pk,wa,wn,wc,A,L,C,F⟩,rfl,⟨bounds_i64 r1,hI,hlow,fun j hj=>(hr j hj).2,Nat.le_trans hm (by omega),hS⟩⟩
theorem y7a {H:Type} (d:DataW H):1<=Rows.uptoBulk d:=by
 cases d with
 | lit l=>cases l <;> simp [Rows.uptoBulk]
 | nil=>simp [Rows.uptoBulk]
 | ptr d=>simp [Rows.uptoBulk]
 | slice l r=>simp [Rows.uptoBulk]
 | agg l=>simp [Rows.uptoBulk]
 | iface n d=>simp [Rows.uptoBulk]
 | map e=>simp [Rows.uptoBulk]
 | held h=>simp [Rows.uptoBulk]
theorem y1R {H:Type}:∀ l:List (DataW H),l.length<=Rows.uptoBulkAll l
 | []=>Nat.zero_le _
 | d :: r=>by
  have h1:=y7a d;have h2:=y1R r;simp only [List.length_cons,Rows.uptoBulkAll];omega
set_option maxRecDepth 100000 in
theorem y0Y {H:Type} {enc:TypeId × Value->H} {W:World} {a:Option Addr} {n cap:Nat} {d:DataW H} {p:List MemPlace}
 (h:DataW.Trod enc Tryz.prog W 0 (fun _=>true) true 43 (.slice a n cap) d p) (hw:∀ x ∈ d.weights Tryz.prog 43,x<=reachBytes) (hb:Rows.uptoBulkAll [d]<=1048576) :
 ∃ ops:Nat->Opv,n<=1048576/\(∀ i,i < n->∃ g o,a=some ⟨g,o,none⟩/\g < W.heap.size/\W.rangeAt g (o+i * 15) (ops i).arr.toList)/\∀ i,i < n->OpOk W (ops i):=by
 obtain ⟨fuel,hf⟩:=h;rcases open_slice Tryz.underlying43 hf with ⟨hcs,_⟩ | ⟨x,len,cp,m,k,D,Pl,hcs,_,hl,hm,hmm,hx,hel⟩
 . simp [Value.cells] at hcs
   obtain ⟨rfl,rfl,rfl⟩:=hcs;exact ⟨fun _=>⟨0,0,0,0,0,0,0,0,0,0,0,0,ByteArray.empty,none,0,0,fun _=>0,none,0,0,fun _=>none,fun _=>0,fun _=>0,fun _ _=>0⟩,by omega,fun i hi=>absurd hi (Nat.not_lt_zero i),fun i hi=>absurd hi (Nat.not_lt_zero i)⟩
 . simp [Value.cells] at hcs
   obtain ⟨rfl,rfl,rfl⟩:=hcs;simp only [if_true] at hmm;simp only [Prod.mk.injEq] at hx;obtain ⟨rfl,rfl⟩:=hx;have hn:n<=1048576:=by
    have h1:=y1R ((List.range n).map D);simp only [List.length_map,List.length_range] at h1;simp only [Rows.uptoBulkAll,Rows.uptoBulk] at hb;omega
   have each:∀ i,i < n->∃ o:Opv,W.cells? 0 (x.add (i * 15)) 15=some o.arr.toList/\OpOk W o:=fun i hi=>by
    obtain ⟨cs',h1,h2⟩:=hel i (by omega);rw [y5F] at h1;obtain ⟨o,rfl,ho⟩:=y8C h2 (fun y hy=>hw y (by
     simp only [DataW.weights,Tryz.underlying43];exact List.mem_cons_of_mem _ (List.mem_append_left _ (z4c (List.mem_map.2 ⟨i,List.mem_range.2 hi,rfl⟩) y hy))))
    exact ⟨o,h1,ho⟩
   haveI:Inhabited Opv:=⟨⟨0,0,0,0,0,0,0,0,0,0,0,0,ByteArray.empty,none,0,0,fun _=>0,none,0,0,fun _=>none,fun _=>0,fun _=>0,fun _ _=>0⟩⟩
   obtain ⟨ops,hops⟩:=choose_lt each;refine ⟨ops,hn,fun i hi=>?_,fun i hi=>(hops i hi).2⟩;obtain ⟨b,off,sp⟩:=x;have cell:∀ j v,(ops i).arr.toList[j]?=some v->W.cell? (((⟨b,off,sp⟩:Addr).add (i * 15)).add j)=some v:=fun j v hv=>by
    obtain ⟨_,hlen,hcell⟩:=World.cells?_some (hops i hi).1;have hj:j < 15:=by rw [← hlen];exact (List.getElem?_eq_some_iff.1 hv).1
    exact (hcell j hj).trans hv
   have c0:=cell 0 (.int .i64 (ops i).kd) rfl;have hs:sp=none:=by
    obtain ⟨_,_,hcell⟩:=World.cells?_some (hops 0 (by omega)).1;have h00:W.cell? (((⟨b,off,sp⟩:Addr).add (0 * 15)).add 0)=some (.int .i64 (ops 0).kd):=(hcell 0 (by omega)).trans rfl
    simpa [Addr.add] using World.cell?_spot h00
   subst hs;refine ⟨b,off,rfl,?_,fun j v hv=>?_⟩
   . have:=World.block_lt_of_cell? W _ c0
     rw [Addr.add_mid,Addr.add_mid] at this;exact this
   . have:=cell j v hv
     rw [Addr.add_mid,Addr.add_mid] at this;exact this
end Go.Proofs.YtlncjgnomhpjnabGreatDoor.lines
