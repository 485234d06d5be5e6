import Derived.Test.YtlncjgnomhpjnabGreatDoorQC21
import Derived.Test.YtlncjgnomhpjnabGreatDoorQC16
import Derived.Test.YtlncjgnomhpjnabGreatDoorQC12
import Derived.Test.YtlncjgnomhpjnabGreatDoorQC0
namespace Go.Proofs.YtlncjgnomhpjnabGreatDoor
open Go.Value renaming int → O
open Go.IntKind renaming i64 → I
open Go.Proofs.Tryz (prog)
open Go.RowKit Go.Deep
set_option linter.unusedVariables false
structure Lpar where
 N:Nat
 W:Nat
 Wd:Nat
 Rm:Nat
 fail:Int
structure Lst where
 given:Nat
 summed:Nat
 jobs:List Nat
 lane:List Nat
 ready:List Nat
 shelf:List Nat
 held:Nat->Option Nat
 e0:Bool
 e1:Bool
 e2:Bool
 ew:Nat->Bool
 begun:Bool
 stopped:Bool
 failed:Bool
 writes:Nat
 wrote:Nat
 hd:Nat
def Lst.init:Lst:=⟨0,0,[],[],[],[],fun _=>none,false,false,false,fun _=>false,false,false,false,0,0,0⟩
abbrev LAct:=Nat × Nat
abbrev LAct.end0:LAct:=(0,0)
abbrev LAct.give:LAct:=(1,0)
abbrev LAct.sum:LAct:=(2,0)
abbrev LAct.begin:LAct:=(3,0)
abbrev LAct.write:LAct:=(4,0)
abbrev LAct.shelve:LAct:=(5,0)
abbrev LAct.takeW (j:Nat):LAct:=(6,j)
abbrev LAct.letGo (j:Nat):LAct:=(7,j)
abbrev LAct.hand (j:Nat):LAct:=(8,j)
theorem LAct.on {P:LAct->Prop} (end0:∀ j,P (0,j)) (give:∀ j,P (1,j)) (sum:∀ j,P (2,j)) (begin:∀ j,P (3,j)) (write:∀ j,P (4,j)) (shelve:∀ j,P (5,j)) (takeW:∀ j,P (6,j)) (letGo:∀ j,P (7,j)) (hand:∀ n j,P (n+8,j)):∀ c:LAct,P c
 | (0,j)=>end0 j
 | (1,j)=>give j
 | (2,j)=>sum j
 | (3,j)=>begin j
 | (4,j)=>write j
 | (5,j)=>shelve j
 | (6,j)=>takeW j
 | (7,j)=>letGo j
 | (n+8,j)=>hand n j
def Lst.shut (p:Lpar) (s:Lst):Bool:=(List.range p.W).all s.ew
def Lst.next (p:Lpar) (s:Lst):Nat->Option LAct
 | 0=>if s.e0 then none else if s.stopped || decide (s.given=p.N) then some .end0
     else if !decide (s.jobs.length=p.Rm) && (!decide (s.lane.length=p.Rm) && decide (s.given - s.wrote < p.Wd)) then some .give else none
 | 1=>if s.e1 || !(decide (0 < s.lane.length) || s.e0) then none else some .sum
 | 2=>if s.e2 then none else if !s.begun then some .begin else if s.shelf.head?=some s.wrote then some .write
     else if decide (0 < s.ready.length) || ((decide (0 < s.ready.length) || s.shut p) && s.e1) then some .shelve else none
 | j+3=>if s.ew j then none else match s.held j with
     | none=>if decide (0 < s.jobs.length) || s.e0 then some (.takeW j) else none
     | some _=>if s.stopped then some (.letGo j) else if !decide (s.ready.length=p.Rm) then some (.hand j) else none
def Lst.halt (s:Lst):Lst:={ s with stopped:=true,shelf:=[] }
def Lst.tries (p:Lpar) (s:Lst):Lst:={ s with writes:=s.writes+1,failed:=s.failed || decide (((s.writes+1:Nat):Int)=p.fail) }
def Lst.head (p:Lpar) (s:Lst) (h:Nat):Lst:=if s.stopped then s else if (s.tries p).failed then (s.tries p).halt else { s.tries p with hd:=h }
def Lst.frame (p:Lpar) (s:Lst):Lst:=if (s.tries p).failed then (s.tries p).halt else { s.tries p with wrote:=s.wrote+1 }
def updL {α:Type} (f:Nat->α) (j:Nat) (v:α):Nat->α:=fun i=>if i=j then v else f i
def insL (k:Nat):List Nat->List Nat
 | []=>[k]
 | x :: r=>if x < k then x :: insL k r else k :: x :: r
def Lst.act (p:Lpar) (s:Lst):LAct->Lst
 | (0,_)=>{ s with e0:=true }
 | (1,_)=>{ s with jobs:=s.jobs ++ [s.given],lane:=s.lane ++ [s.given],given:=s.given+1 }
 | (2,_)=>match s.lane with
   | []=>{ s with e1:=true }
   | _ :: r=>{ s with lane:=r,summed:=s.summed+1 }
 | (3,_)=>{ s with begun:=true }.head p 1
 | (4,_)=>{ s with shelf:=s.shelf.tail }.frame p
 | (5,_)=>match s.ready with
   | []=>{ s with e2:=true }.head p 2
   | k :: r=>if s.stopped then { s with ready:=r } else { s with ready:=r,shelf:=insL k s.shelf }
 | (6,j)=>match s.jobs with
   | []=>{ s with ew:=updL s.ew j true }
   | k :: r=>{ s with jobs:=r,held:=updL s.held j (some k) }
 | (7,j)=>{ s with held:=updL s.held j none }
 | (_+8,j)=>match s.held j with
   | none=>s
   | some k=>{ s with held:=updL s.held j none,ready:=s.ready ++ [k] }
def Lst.able (p:Lpar) (s:Lst):List Nat:=(List.range (3+p.W)).filter fun t=>(s.next p t).isSome
def Lst.endedT (s:Lst):Nat->Bool
 | 0=>s.e0
 | 1=>s.e1
 | 2=>s.e2
 | j+3=>s.ew j
def Lst.ended (p:Lpar) (s:Lst):List Nat:=(List.range (3+p.W)).filter s.endedT
def Lst.heldL (p:Lpar) (s:Lst):List Nat:=(List.range p.W).filterMap s.held
def Lst.put (p:Lpar) (s:Lst):List Nat:=s.jobs ++ s.heldL p ++ s.ready ++ s.shelf
structure LInv (p:Lpar) (s:Lst):Prop where
 w1:1<=p.W
 r1:1<=p.Rm
 d1:1<=p.Wd
 given:s.given<=p.N
 jobs:∃ a,a<=s.given/\s.jobs=List.range' a (s.given - a)
 lane:s.summed<=s.given/\s.lane=List.range' s.summed (s.given - s.summed)
 jr:s.jobs.length<=p.Rm
 lr:s.lane.length<=p.Rm
 rr:s.ready.length<=p.Rm
 e0:s.e0=true->s.stopped=true∨s.given=p.N
 e1:s.e1=true->s.e0=true/\s.lane=[]
 ew:∀ j,j < p.W->s.ew j=true->s.e0=true/\s.jobs=[]/\s.held j=none
 e2:s.e2=true->s.shut p=true/\s.ready=[]/\s.e1=true/\s.begun=true/\s.shelf=[]
 sorted:s.shelf.Pairwise (· < ·)
 wrote:s.wrote<=s.given
 far:∀ j,p.W<=j->s.held j=none/\s.ew j=false
 stop:s.stopped=true->s.shelf=[]
 fail:s.failed=true->s.stopped=true
 win:s.given - s.wrote<=p.Wd
 place:(s.put p).Nodup
 ahead:∀ k,k ∈ s.put p->s.wrote<=k/\k < s.given
 all:s.stopped=false->∀ k,s.wrote<=k->k < s.given->k ∈ s.put p
 hd0:s.begun=false->s.hd=0/\s.writes=0/\s.wrote=0
 hd1:s.begun=true->s.stopped=false->s.e2=false->s.hd=1/\s.writes=s.wrote+1
 hd2:s.e2=true->s.stopped=false->s.hd=2/\s.wrote=p.N/\s.writes=p.N+2
 hds:s.stopped=true->s.hd<=1
 wf:s.stopped=false->p.fail < 1∨(s.writes:Int) < p.fail
 ff:s.failed=true->(s.writes:Int)=p.fail/\((s.writes=1/\s.wrote=0)∨s.writes=s.wrote+2)
 fc:s.stopped=true->s.failed=false->s.writes<=p.N+1/\(p.fail < 1∨(s.writes:Int) < p.fail)
 h0:s.hd=0->s.wrote=0
theorem y2v (B b:Nat) (p:Value) (w:World) (hbk:w.heap[b]?=some (.cells #[p,.slice none 0 0] 278 (0,0))) :
 Calls prog 201 #[.pointer (some ⟨b,0,none⟩)] w fun e w'=>e=.returned (.string ⟨#[]⟩)/\Below B w w':=by
 have c1:w.drew.cell? ⟨b,1,none⟩=some (.slice none 0 0):=by
  have:w.drew.heap[b]?=some (.cells #[p,.slice none 0 0] 278 (0,0)):=hbk;rw [Lib.cell_of_heap this];rfl
 have hSD:(Builtin.unsafeSliceData_ #[33] 322 #[.slice none 0 0]).run prog w.drew=.ok (.pointer none) w.drew:=Lib.run_unsafeSliceData_nil _ _ _ _ _;have hUS:(Builtin.unsafeString_ #[322,3] 9 #[.pointer none,O I 0]).run prog w.drew=.ok (.string ⟨#[]⟩) w.drew:=Lib.run_unsafeString_none _ _ _ _ _;clear hbk
 go_enter Tryz.func201,Tryz.ntmps201
 go_wp2
 go_region
 all_goals (go_wp2;go_ret;exact ⟨rfl,Below.drew (Below.refl B w)⟩)
def Bld (w:World) (B b:Nat) (T:List UInt8):Prop :=
 Lib.IsBuilderF 278 5 B b (Lib.byteCells T) w/\(T=[]->w.heap[b]?=some (.cells #[.pointer none,.slice none 0 0] 278 (0,0)))
theorem Bld.lt {w:World} {B b:Nat} {T:List UInt8} (h:Bld w B b T):b < w.heap.size:=h.1.elim (fun h=>h.lt) (fun h=>h.lt)
theorem Bld.new (w:World):Bld (w.alloc (.cells #[.pointer none,.slice none 0 0] 278)) w.heap.size w.heap.size []:=⟨z5N w,fun _=>blk_alloc_new _ _⟩
theorem Bld.below {w w':World} {B b:Nat} {T:List UInt8} (h:Bld w B b T) (hb:Below w.heap.size w w'):Bld w' B b T :=
 ⟨z2A h.1 hb,fun e=>(hb.block b h.lt).trans (h.2 e)⟩
theorem y2w (B b:Nat) (T:List UInt8) (w:World) (h:Bld w B b T) :
 Calls prog 201 #[.pointer (some ⟨b,0,none⟩)] w fun e w'=>e=.returned (.string (bs T))/\Below B w w':=by
 by_cases h0:T=[]
 . have hn:=h.2 h0
   subst h0;exact y2v B b _ w hn
 . exact z4u _ B b T w h.1 h0
set_option maxHeartbeats 2000000 in
set_option maxRecDepth 100000 in
theorem z4X (T:TypeId) (hT:Lies T) (B b:Nat) (xs:List Value) (s:ByteArray) (w:World) (h:Lib.IsBuilderF T 5 B b xs w) (hs:0 < s.size) (hlen:xs.length+s.size<=140737488355328) (hBw:B<=w.heap.size) :
 Calls prog 200 #[.pointer (some ⟨b,0,none⟩),.string s] w fun e w'=>e=.returned (.tuple #[O I s.size,.nilIface])/\(Lib.BuilderAtF T 5 B b (.pointer (some ⟨b,0,none⟩)) (xs ++ Lib.strCells s) w'/\Below B w w'/\Lib.OthersKept 5 (some b) w w'):=by
 obtain ⟨i0,hi,hz0,hz1,hz2⟩:=info_parts infoByte;have HH:=zZ h;clear h
 go_enter Tryz.func200,Tryz.ntmps200
 go_wp2_with (go_at_call 251;refine (z2x T hT B b xs _ HH.out).mono ?_)
 rintro e w1 ⟨rfl,h1,hb1,hk1⟩;obtain ⟨hB,v,hbk,hown,hne⟩:=h1;have c0:w1.cell? ⟨b,0,none⟩=some (.pointer (some ⟨b,0,none⟩)):=by rw [Lib.cell_of_heap hbk];rfl
 have c1:w1.cell? ⟨b,1,none⟩=some v:=by rw [Lib.cell_of_heap hbk];rfl
 go_wp2_with (at_builtin;refine Lib.wpList_append_own_stringF _ rfl _ _ 33 9 rfl B 5 i0 Tryz.underlying33 Tryz.underlying9 hi hz0 hz1 hz2 _ _ _ rfl hown s rfl ?c3 ?c4 ?c5 ?_)
 case c3=>unfold maxLen;omega
 case c4=>omega
 case c5=>have:=hb1.size;omega
 intro v' w2 hown' hgrow _;have hlt:b < w1.heap.size:=(Array.getElem?_eq_some_iff.1 hbk).1;have hb2:w2.heap[b]?=some (.cells #[.pointer (some ⟨b,0,none⟩),v] T (0,0)):=by
  rw [hgrow.block b hlt (fun e=>hne e.symm)];exact hbk
 have d0:w2.cell? ⟨b,0,none⟩=some (.pointer (some ⟨b,0,none⟩)):=by rw [Lib.cell_of_heap hb2];rfl
 have d1:w2.cell? ⟨b,1,none⟩=some v:=by rw [Lib.cell_of_heap hb2];rfl
 have f1:w2.frozen? ⟨b,1,none⟩=false:=Lib.frozen_of_heap hb2 1;obtain ⟨g,cap,rfl⟩:∃ g cap,v'=.slice (some ⟨g,0,none⟩) (xs.length+s.size) cap:=by
  rcases hown'.2 with ⟨_,h0⟩ | ⟨g,cap,cur,fz,hv,_⟩
  . omega
  . exact ⟨g,cap,hv⟩
 go_wp2;go_ret2;refine ⟨rfl,?_,?_,(hk1.grown hgrow (Lib.ownsRowF_kind hown)).setCell ⟨b,1,none⟩ rfl _⟩
 . exact Lib.BuilderAtF.put (T:=T) (e:=5) hB hb2 (bs':=xs ++ Lib.strCells s) (by rw [List.length_append,Lib.strCells_length];exact hown') hT.2
 . exact ((hb1.grown hgrow (by have:=hb1.size;omega) (fun k hk=>(hown.lt k hk).1))).setCell (p:=⟨b,1,none⟩) hB _
theorem y4d (B b:Nat) (T U:List UInt8) (w:World) (h:Bld w B b T) (hU:U ≠ []) (hlen:T.length+U.length<=1000000) (hB:B<=w.heap.size) :
 Calls prog 200 #[.pointer (some ⟨b,0,none⟩),.string (bs U)] w fun e w'=>e=.returned (.tuple #[O I (bs U).size,.nilIface])/\Bld w' B b (T ++ U)/\Below B w w'/\Lib.OthersKept 5 (some b) w w':=by
 have hU0:0 < U.length:=List.length_pos_iff.2 hU;refine (z4X _ z4Q B b _ (bs U) w h.1 (by rw [z0e];exact hU0) (by rw [Lib.byteCells_length,z0e];omega) hB).mono ?_;rintro e w' ⟨he,hbl,hb,hok⟩;refine ⟨he,⟨.inr (by rw [← z8W,← y1s U];exact hbl),fun e=>?_⟩,hb,hok⟩;exact absurd (List.append_eq_nil_iff.1 e).2 hU
end Go.Proofs.YtlncjgnomhpjnabGreatDoor
