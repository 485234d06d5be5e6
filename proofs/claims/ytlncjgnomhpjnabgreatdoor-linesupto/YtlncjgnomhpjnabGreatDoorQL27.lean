import Derived.Test.YtlncjgnomhpjnabGreatDoorQL17
import Derived.Test.YtlncjgnomhpjnabGreatDoorQL26
import Derived.Deep.RegionHeld3
import Derived.Lib.AppendZeros
import Derived.Lib.Overlaps
import Derived.Laws.Externs
import Derived.Deep.AppendLies
import Derived.Deep.RegionLaw
set_option maxRecDepth 100000
namespace Go.Proofs.YtlncjgnomhpjnabGreatDoor
open Go.Value renaming int → O
open Go.IntKind renaming i64 → I
open Go.Proofs.Tryz
open Go.RowKit Go.Deep
set_option linter.unusedVariables false
def shC (T:Nat->ByteArray):List Nat->List Value
 | []=>[]
 | k :: r=>O I k :: .string (T k) :: shC T r
theorem z1x (T:Nat->ByteArray):∀ l:List Nat,(shC T l).length=l.length * 2
 | []=>rfl
 | k :: r=>by simp only [shC,List.length_cons,z1x T r];omega
theorem z8k (T:Nat->ByteArray) (m:List Nat):∀ l:List Nat,shC T (l ++ m)=shC T l ++ shC T m
 | []=>rfl
 | k :: r=>by simp only [shC,List.cons_append,z8k T m r]
theorem y1E (T:Nat->ByteArray):∀ (l:List Nat) (i:Nat),(shC T l).take (i * 2)=shC T (l.take i)
 | [],i=>by simp [shC]
 | k :: r,0=>by simp [shC]
 | k :: r,i+1=>by simp only [shC,Nat.add_mul,Nat.one_mul,List.take_succ_cons,y1E T r i]
theorem y1F (T:Nat->ByteArray):∀ (l:List Nat) (i:Nat),(shC T l).drop (i * 2)=shC T (l.drop i)
 | [],i=>by simp [shC]
 | k :: r,0=>by simp [shC]
 | k :: r,i+1=>by simp only [shC,Nat.add_mul,Nat.one_mul,List.drop_succ_cons,y1F T r i]
theorem y0w (T:Nat->ByteArray):∀ (l:List Nat) (i:Nat) (h:i < l.length),(shC T l)[i * 2]?=some (O I (l[i]:Nat))/\(shC T l)[i * 2+1]?=some (.string (T l[i]))
 | [],i,h=>absurd h (Nat.not_lt_zero _)
 | k :: r,0,h=>by simp [shC]
 | k :: r,i+1,h=>by
  have:=y0w T r i (by simpa using h);simp only [shC,Nat.add_mul,Nat.one_mul,List.getElem_cons_succ,show i * 2+2=(i * 2)+1+1 by omega,List.getElem?_cons_succ];exact this
theorem z8l (T:Nat->ByteArray):∀ (l:List Nat),∀ v ∈ shC T l,v.oneCell'=true
 | []=>fun v hv=>by cases hv
 | k :: r=>fun v hv=>by
  rcases List.mem_cons.1 hv with rfl | hv
  . rfl
  rcases List.mem_cons.1 hv with rfl | hv
  . rfl
  . exact z8l T r v hv
theorem y0x (x y:Int) (w:World):Calls prog 402 #[O I x,O I y] w fun e w'=>e=.returned (O I (if x < y then -1 else if y < x then 1 else 0))/\w'=w:=by
 have HN:Hid (∀ (z:Int) (u:World),Calls prog 404 #[O I z] u fun e w'=>e=.returned (.bool false)/\w'=u):=by
  intro z u
  go_enter func404,ntmps404
  go_wp2;go_ret;exact ⟨by simp,rfl⟩
 by_cases h1:x < y
 . rw [if_pos h1]
   go_enter func402,ntmps402
   go_wp2_with (go_at_call 404;refine (HN.out _ _).mono ?_;rintro e u ⟨rfl,hw⟩;subst u)
   go_ret;exact ⟨rfl,rfl⟩
 . rw [if_neg h1]
   by_cases h2:y < x
   . rw [if_pos h2]
     go_enter func402,ntmps402
     go_wp2_with (go_at_call 404;refine (HN.out _ _).mono ?_;rintro e u ⟨rfl,hw⟩;subst u)
     go_ret;exact ⟨rfl,rfl⟩
   . rw [if_neg h2]
     go_enter func402,ntmps402
     go_wp2_with (go_at_call 404;refine (HN.out _ _).mono ?_;rintro e u ⟨rfl,hw⟩;subst u)
     go_ret;exact ⟨rfl,rfl⟩
theorem y2N (x y:Int) (s t:ByteArray) (w:World):Calls prog 401 #[.agg #[O I x,.string s],.agg #[O I y,.string t]] w fun e w'=>e=.returned (O I (if x < y then -1 else if y < x then 1 else 0))/\Below w.heap.size w w':=by
 have HC:=zZ (fun u=>y0x x y u);generalize (if x < y then (-1:Int) else if y < x then 1 else 0)=c at *
 go_enter func401,ntmps401
 go_wp2_with (go_at_call 402;refine (HC.out _).mono ?_;rintro e u ⟨rfl,hw⟩;subst u)
 go_ret;exact ⟨rfl,(zX.alloc zY _).alloc (by simp) _⟩
theorem z0j {w:World} {base:Nat} {e:TypeId} {size:Nat} {v:Value} {n:Nat} {xs:List Value} (h:w.ownsRow base e size v n xs) :
 ∃ A cap,v=.slice A n cap/\(0 < n->∃ g,A=some ⟨g,0,none⟩/\g < w.heap.size/\∀ j u,xs[j]?=some u->w.cell? ⟨g,j,none⟩=some u):=by
 rcases h.2 with ⟨rfl,rfl⟩ | ⟨g,cap,cur,rfl,h1,h2,h3,h4,h5,h6⟩
 . exact ⟨none,0,rfl,fun h=>absurd h (Nat.lt_irrefl _)⟩
 . refine ⟨_,cap,rfl,fun _=>⟨g,rfl,(Array.getElem?_eq_some_iff.1 h2).1,fun j u hj=>?_⟩⟩
   rw [← h6] at hj;have hlt:j < n * size:=by
    have:=(List.getElem?_eq_some_iff.1 hj).1;simp at this;omega
   rw [List.getElem?_take_of_lt hlt] at hj;simp [World.cell?,h2,← hj]
theorem z2f {w w':World} {b i:Nat} (h:w'.heap[b]?=w.heap[b]?):w'.cell? ⟨b,i,none⟩=w.cell? ⟨b,i,none⟩:=by simp [World.cell?,h]
theorem z7i {k:Nat}:∀ {l:List Nat} {i:Nat},i<=l.length->(∀ t (h:t < l.length),t < i->l[t] < k)->(∀ t (h:t < l.length),i<=t->¬ l[t] < k)->l.countP (fun x=>decide (x < k))=i
 | [],i,hi,_,_=>by simp at hi;simp [hi]
 | a :: r,0,_,_,h2=>by
  rw [List.countP_eq_zero];intro x hx;obtain ⟨t,ht,rfl⟩:=List.getElem_of_mem hx
  simpa using h2 t ht (zJ _)
 | a :: r,i+1,hi,h1,h2=>by
  have ha:a < k:=h1 0 (by simp) (Nat.succ_pos _);rw [List.countP_cons_of_pos (by simpa using ha),z7i (by simpa using hi) (fun t ht h=>h1 (t+1) (by simpa using ht) zU) (fun t ht h=>h2 (t+1) (by simpa using ht) zU)]
set_option linter.unusedSimpArgs false in
set_option maxHeartbeats 2000000 in
theorem y2O (T:Nat->ByteArray) (l:List Nat) (k:Nat) (t:ByteArray) (base:Nat) (sv:Value) (w:World) (hsv:w.ownsRow base 149 2 sv l.length (shC T l)) (hsort:l.Pairwise (· < ·)) (hl:l.length<=1000) :
 Calls prog 400 #[sv,.agg #[O I k,.string t],.func (.func 401) #[] #[]] w fun e w'=>(∃ b,e=.returned (.tuple #[O I (l.countP (fun x=>decide (x < k)):Nat),.bool b]))/\Below w.heap.size w w':=by
 obtain ⟨A,cap,rfl,hA⟩:=z0j hsv;have HA:=zZ hA;have HLC:=zZ (fun (x:Int) (s:ByteArray) (u:World)=>y2N x k s t u);have HB0:Hid (Below w.heap.size w (w.alloc (.cells #[O I k,.string t] 149))):=zX.alloc zY _;have HX0:=zZ (Bx.new w #[O I k,.string t] 149);have HGET:=zZ (y0w T l);have HS:=zZ hsort;have HCM:=zZ (fun i=>z7i (k:=k) (l:=l) (i:=i));generalize l.countP (fun x=>decide (x < k))=cnt at *;clear hsv hA hsort
 go_enter func400,ntmps400
 go_wp2
 go_loopw [9,10] (fun s9 s10 wr=>∃ lo hi:Nat,s9=O I lo/\s10=O I hi/\lo<=hi/\hi<=l.length/\Hid (Below (w.alloc (.cells #[O I k,.string t] 149)).heap.size (w.alloc (.cells #[O I k,.string t] 149)) wr)/\Hid ((∀ q (h:q < l.length),q < lo->l[q] < k)/\(∀ q (h:q < l.length),hi<=q->¬ l[q] < k))) (fun s9 s10 _=>(intOf s10).toNat - (intOf s9).toNat)
 case atStart=>exact ⟨0,l.length,rfl,rfl,zJ _,Nat.le_refl _,Below.refl _ _,fun q h h1=>absurd h1 (Nat.not_lt_zero q),fun q h h1=>zU⟩
 case round =>
  obtain ⟨lo,hi,rfl,rfl,hlh,hhl,HB,HI⟩:=hrel
  by_cases hlt:lo < hi
  . obtain ⟨g,rfl,hg,hcell⟩:=HA.out zU
    obtain ⟨m,hm⟩:∃ m,m=(lo+hi) / 2:=⟨_,rfl⟩;have hml:m < l.length:=zU
    have HCL:Hid (∀ u,Below (w.alloc (.cells #[O I k,.string t] 149)).heap.size (w.alloc (.cells #[O I k,.string t] 149)) u->u.cell? ⟨g,m * 2,none⟩=some (O I (l[m]:Nat))/\u.cell? ⟨g,m * 2+1,none⟩=some (.string (T l[m]))/\u.cell? ⟨w.heap.size,0,none⟩=some (O I k)/\u.cell? ⟨w.heap.size,1,none⟩=some (.string t)):=fun u hu=>by
     have hb2:Below w.heap.size w u:=HB0.out.trans (hu.mono (by simp));have hgl:g < w.heap.size:=hg;refine ⟨?_,?_,(HX0.out.below hu).cell 0,(HX0.out.below hu).cell 1⟩
     . exact (z2f (hb2.block g hgl)).trans (hcell _ _ (HGET.out m hml).1)
     . exact (z2f (hb2.block g hgl)).trans (hcell _ _ (HGET.out m hml).2)
    have hS0:wr.drew.cell? ⟨g,m * 2,none⟩=some (O I (l[m]:Nat))/\wr.drew.cell? ⟨g,m * 2+1,none⟩=some (.string (T l[m]))/\wr.drew.cell? ⟨w.heap.size,0,none⟩=some (O I k)/\wr.drew.cell? ⟨w.heap.size,1,none⟩=some (.string t):=HCL.out wr HB.out;have em:((lo:Int)+(hi:Int)) / 2=(m:Int):=zU
    have HM:=zZ hm;clear hm hcell;go_wp2_with fail;clear em;generalize hy:l[m]=y at *;have HLY:=zZ (fun u=>HLC.out y (T y) u);have HY:=zZ hy;clear hy HLC
    by_cases hyk:y < k
    . rw [if_pos zU] at HLY
      have HYK:=zZ hyk;clear hyk
      go_region_held3 (fun w'=>w'.cell? ⟨g,m * 2,none⟩=some (O I (y:Nat))/\w'.cell? ⟨g,m * 2+1,none⟩=some (.string (T y))/\w'.cell? ⟨w.heap.size,0,none⟩=some (O I k)/\w'.cell? ⟨w.heap.size,1,none⟩=some (.string t)) (first | with_reducible exact hS0 | with_reducible exact hS1)
       (first
       | (go_at_call 401;refine (HLY.out _).mono ?_;rintro e u ⟨rfl,hb⟩;have hb1:Below (w.alloc (.cells #[O I k,.string t] 149)).heap.size (w.alloc (.cells #[O I k,.string t] 149)) u:=HB.out.trans (Below.mono (⟨hb.os,hb.tape,hb.output,hb.size,hb.block⟩:Below wr.heap.size wr u) HB.out.size);have hS1:=HCL.out u hb1;have HB1:=zZ hb1;clear hb hb1))
      go_wp2
      go_roundw
      case rel =>
       have hm:=HM.out;refine ⟨m+1,hi,zS,rfl,zU,hhl,HB1,fun q h h1=>?_,HI.out.2⟩;have h2:=HYK.out;rw [← HY.out] at h2
       by_cases e:q=m
       . subst e;exact h2
       . exact Nat.lt_trans (List.pairwise_iff_getElem.1 HS.out q m h hml zU) h2
      case measure=>have hm:=HM.out;simp [intOf];omega
    . have hc0:∃ c:Int,¬ c < 0/\(if ((y:Nat):Int) < ((k:Nat):Int) then (-1:Int) else if ((k:Nat):Int) < ((y:Nat):Int) then 1 else 0)=c:=⟨_,by rw [if_neg zU];split <;> omega,rfl⟩
      obtain ⟨c,hc,hce⟩:=hc0;rw [hce] at HLY;have HYK:=zZ hyk;clear hyk hce
      go_region_held3 (fun w'=>w'.cell? ⟨g,m * 2,none⟩=some (O I (y:Nat))/\w'.cell? ⟨g,m * 2+1,none⟩=some (.string (T y))/\w'.cell? ⟨w.heap.size,0,none⟩=some (O I k)/\w'.cell? ⟨w.heap.size,1,none⟩=some (.string t)) (first | with_reducible exact hS0 | with_reducible exact hS1)
       (first
       | (go_at_call 401;refine (HLY.out _).mono ?_;rintro e u ⟨rfl,hb⟩;have hb1:Below (w.alloc (.cells #[O I k,.string t] 149)).heap.size (w.alloc (.cells #[O I k,.string t] 149)) u:=HB.out.trans (Below.mono (⟨hb.os,hb.tape,hb.output,hb.size,hb.block⟩:Below wr.heap.size wr u) HB.out.size);have hS1:=HCL.out u hb1;have HB1:=zZ hb1;clear hb hb1))
      go_wp2
      go_roundw
      case rel =>
       have hm:=HM.out;refine ⟨lo,m,rfl,zS,zU,zU,HB1,HI.out.1,fun q h h1=>?_⟩;have h2:=HYK.out;rw [← HY.out] at h2
       by_cases e:q=m
       . subst e;exact h2
       . have:=List.pairwise_iff_getElem.1 HS.out m q hml h zU
         omega
      case measure=>have hm:=HM.out;simp [intOf];omega
  . have e:hi=lo:=zU
    subst e;have HCNT:Hid (cnt=hi):=HCM.out hi hhl HI.out.1 HI.out.2;have HBZ:Hid (Below w.heap.size w wr):=HB0.out.trans (HB.out.mono (by simp))
    by_cases hn:hi < l.length
    . obtain ⟨g,rfl,hg,hcell⟩:=HA.out zU
      have HCL:Hid (∀ u,Below (w.alloc (.cells #[O I k,.string t] 149)).heap.size (w.alloc (.cells #[O I k,.string t] 149)) u->u.cell? ⟨g,hi * 2,none⟩=some (O I (l[hi]:Nat))/\u.cell? ⟨g,hi * 2+1,none⟩=some (.string (T l[hi]))/\u.cell? ⟨w.heap.size,0,none⟩=some (O I k)/\u.cell? ⟨w.heap.size,1,none⟩=some (.string t)):=fun u hu=>by
       have hb2:Below w.heap.size w u:=HB0.out.trans (hu.mono (by simp));have hgl:g < w.heap.size:=hg;refine ⟨?_,?_,(HX0.out.below hu).cell 0,(HX0.out.below hu).cell 1⟩
       . exact (z2f (hb2.block g hgl)).trans (hcell _ _ (HGET.out hi hn).1)
       . exact (z2f (hb2.block g hgl)).trans (hcell _ _ (HGET.out hi hn).2)
      have hS0:wr.drew.cell? ⟨g,hi * 2,none⟩=some (O I (l[hi]:Nat))/\wr.drew.cell? ⟨g,hi * 2+1,none⟩=some (.string (T l[hi]))/\wr.drew.cell? ⟨w.heap.size,0,none⟩=some (O I k)/\wr.drew.cell? ⟨w.heap.size,1,none⟩=some (.string t):=HCL.out wr HB.out;generalize hy:l[hi]=y at *;have HLY:=zZ (fun u=>HLC.out y (T y) u);clear hy HLC hcell;generalize (if ((y:Nat):Int) < ((k:Nat):Int) then (-1:Int) else if ((k:Nat):Int) < ((y:Nat):Int) then 1 else 0)=c at *;go_wp2_with fail;refine wp_region_held_drew (S:=fun w'=>w'.cell? ⟨g,hi * 2,none⟩=some (O I (y:Nat))/\w'.cell? ⟨g,hi * 2+1,none⟩=some (.string (T y))/\w'.cell? ⟨w.heap.size,0,none⟩=some (O I k)/\w'.cell? ⟨w.heap.size,1,none⟩=some (.string t)) zT hS0 (fun _=>?_);refine tq 0 ?_
      refine tq 1 ?_;refine tq 2 ?_;refine tq 3 ?_;refine tq 4 ?_;refine tq 5 ?_;refine tq 6 ?_;refine tq 7 ?_;refine tq 8 ?_;refine tq 9 ?_;refine tq 10 ?_
      refine zQ 11 (fun K hK=>?_)
      go_simp
      go_at_call 401
      refine (HLY.out _).mono ?_;rintro e u ⟨rfl,hb⟩;have hb1:Below (w.alloc (.cells #[O I k,.string t] 149)).heap.size (w.alloc (.cells #[O I k,.string t] 149)) u:=HB.out.trans (Below.mono (⟨hb.os,hb.tape,hb.output,hb.size,hb.block⟩:Below wr.heap.size wr u) HB.out.size);have hS1:=HCL.out u hb1;have HBY:Hid (Below w.heap.size w u):=HB0.out.trans (hb1.mono (by simp));clear hb hb1;go_wp2_with fail;refine zV hK hS1 (fun _=>?_);clear hK K
      refine tq 12 ?_;refine tq 13 ?_;refine tq 14 ?_;refine tq 15 ?_
      refine wpAnyH_done zT ?_ _;go_wp2;go_ret2;have hcn:=HCNT.out;subst hcn;exact ⟨⟨_,rfl⟩,HBY.out⟩
    . have e:hi=l.length:=zU
      subst e;have hS0:True:=trivial;go_wp2_with fail;refine wp_region_held_drew (S:=fun w'=>True) zT hS0 (fun _=>?_);refine tq 0 ?_
      refine tq 1 ?_;refine tq 2 ?_;refine tq 3 ?_;refine tq 4 ?_;refine ts 5 ?_;refine ts 6 ?_;refine ts 7 ?_;refine ts 8 ?_;refine ts 9 ?_;refine ts 10 ?_;refine ts 11 ?_;refine ts 12 ?_;refine tq 13 ?_;refine tq 14 ?_;refine tq 15 ?_
      refine wpAnyH_done zT ?_ _;go_wp2;go_ret2;have hcn:=HCNT.out;subst hcn;exact ⟨⟨_,rfl⟩,HBZ.out.drew⟩
theorem y9a:(prog.info? 149).map (fun i=>(i.zero,i.size,i.bytes))=some (some (.agg #[O I 0,.string ⟨#[]⟩]),2,24):=zT
theorem z4R:∃ i,prog.info? 149=some i/\i.zero=some (.agg #[O I 0,.string ⟨#[]⟩])/\i.size=2/\i.bytes=24:=by
 have h:=y9a;cases hq:prog.info? 149 with
 | none=>rw [hq] at h;cases h
 | some i =>
  rw [hq] at h;simp only [Option.map_some,Option.some.injEq,Prod.mk.injEq] at h;exact ⟨i,rfl,h.1,h.2.1,h.2.2⟩
theorem z3m:(prog.info? 149).map (·.size)=some 2:=by
 obtain ⟨i,h,-,h2,-⟩:=z4R;rw [h,Option.map_some,h2]
theorem z9o {P:Program} (w:World) (t t' ty e e':TypeId) (i:TypeInfo) (hi:P.info? e=some i) (ht:P.underlying t=some (.slice e)) (ht':P.underlying t'=some (.slice e')) (A B:Option Addr) (n c m c':Nat):(Builtin.append_ #[t,t'] ty #[.slice A n c,.slice B m c']).run P w=(Builtin.append_ #[t,t] ty #[.slice A n c,.slice B m c']).run P w:=by
 simp [Builtin.append_,run_underlying ht,run_underlying ht',sizeOf,typeInfo,hi]
structure Laid (T:Nat->ByteArray) (base:Nat) (sv sv':Value) (l:List Nat) (w w':World):Prop where
 own:w'.ownsRow base 149 2 sv' l.length (shC T l)
 edit:Edit (fun b=>sv.ownBlock=some b) w w'
 new:∀ g,sv'.ownBlock=some g->sv.ownBlock=some g∨w.heap.size<=g
theorem y2P (T:Nat->ByteArray) (l:List Nat) (k base:Nat) (sv:Value) (w:World) (vb:Nat) (hsv:w.ownsRow base 149 2 sv l.length (shC T l)) (hbase:base<=w.heap.size) (hl:l.length<=500) (hv:Bx w vb 149 #[O I k,.string (T k)]) :
 Calls prog 403 #[sv,O I l.length,.slice (some ⟨vb,0,none⟩) 1 1] w fun e w'=>∃ sv',e=.returned sv'/\Laid T base sv sv' (l ++ [k]) w w':=by
 obtain ⟨A,cap0,rfl,-⟩:=z0j hsv;have hr:∀ ty,∃ g cap w',(Builtin.append_ #[153,152] ty #[.slice A l.length cap0,.slice (some ⟨vb,0,none⟩) 1 1]).run prog w=.ok (.slice (some ⟨g,0,none⟩) (l.length+1) cap) w'/\Laid T base (.slice A l.length cap0) (.slice (some ⟨g,0,none⟩) (l.length+1) cap) (l ++ [k]) w w':=by
  intro ty;obtain ⟨i0,hi0,hz0,hz1,hz2⟩:=z4R;obtain ⟨g,cap,w',hr,h2,h3,h4,h5⟩:=run_append_lies (P:=prog) w 153 ty base 149 i0 (.agg #[O I 0,.string ⟨#[]⟩]) 2 24 underlying153 hi0 hz0 hz1 hz2 rfl zU (.slice A l.length cap0) l.length (shC T l) hsv ⟨vb,0,none⟩ 1 1 [O I k,.string (T k)] rfl
   (fun j u hj=>by
    match j,hj with
    | 0,hj=>cases hj;exact hv.cell 0
    | 1,hj=>cases hj;exact hv.cell 1
    | j+2,hj=>cases hj) (fun u hu=>by simp at hu;rcases hu with rfl | rfl <;> rfl) zU (by simp only [maxLen];omega) zU hbase _ rfl
  refine ⟨g,cap,w',by rw [z9o w _ _ _ _ _ i0 hi0 underlying153 underlying152];exact hr,⟨?_,⟨h3.os,h3.tape,h3.output,h3.size,fun b hb hS=>h3.block b hb fun hh=>hS hh.symm⟩,fun q hq=>?_⟩⟩
  . rw [z8k,zN]
    exact h2
  . cases hq
    rcases h4 with h4 | h4
    . exact Or.inl h4
    . exact Or.inr (Nat.le_of_eq h4.symm)
 obtain ⟨g,cap1,w1,hr1,hla⟩:=hr 153;have HR:=zZ hr1;have HL:=zZ hla;clear hr hr1 hla hsv hv
 by_cases hc:cap0=l.length
 . subst hc
   go_enter func403,ntmps403
   go_wp2_with (at_builtin;refine Lib.wpList_append_run w rfl (.tmp 23) (.tmp 24) 153 152 rfl _ _ rfl rfl (.slice (some ⟨g,0,none⟩) (l.length+1) cap1) w1 HR.out ?_)
   go_ret;exact ⟨_,rfl,HL.out⟩
 . go_enter func403,ntmps403
   go_wp2_with (at_builtin;refine Lib.wpList_append_run w rfl (.tmp 23) (.tmp 24) 153 152 rfl _ _ rfl rfl (.slice (some ⟨g,0,none⟩) (l.length+1) cap1) w1 HR.out ?_)
   go_ret;exact ⟨_,rfl,HL.out⟩
theorem y1G {P:Program} {ops:Array Oper} {o:Oper} {a:Act} {w w':World} {K:Act->World->Prop} {Q:Exit->Act->World->Prop} {E:Prop}
 (hg:o.guard=none) (d s:Operand) (t t':TypeId) (hop:o.op=Op.call { callee:=Callee.builtin Builtin.copy,args:=#[d,s],argTypes:=#[t,t'] })
 (v u v':Value) (hd:a.eval d=v) (hs:a.eval s=u) (hr:(Builtin.copy_ #[t,t'] o.type #[v,u]).run P w=.ok v' w') (hK:K (a.put o.dst v') w') :
 if Region.wanted o (yielded ops a.tmps)=true then Oper.wp P o a w K Q else E:=by
 have hw:Region.wanted o (yielded ops a.tmps)=true:=by simp [Region.wanted,hg]
 rw [if_pos hw];unfold Oper.wp;simp [execOp,hop,resolve,invoke,builtin,hd,hs,hr,Result.andThen];exact hK
theorem z1W (w:World) (g:Nat) (cur cur':Array Value) (t:TypeId) (h:w.heap[g]?=some (.cells cur t (0,0))):(w.setRow g cur').heap[g]?=some (.cells cur' t (0,0)):=setRow_heap w g cur cur' t (0,0) h
theorem y1H {T:Nat->ByteArray} {l:List Nat} {cur:List Value} {i:Nat} (h:cur.take (l.length * 2)=shC T l) (hi:i<=l.length):cur.take (i * 2)=shC T (l.take i):=by
 rw [← y1E,← h,List.take_take,Nat.min_eq_left zU]
theorem z6o {T:Nat->ByteArray} {l:List Nat} {cur:List Value} (h:cur.take (l.length * 2)=shC T l) (i j:Nat) (v:Value) (hj:(shC T (l.drop i))[j]?=some v):cur[i * 2+j]?=some v:=by
 rw [← y1F,← h,List.getElem?_drop] at hj;have hlt:=(List.getElem?_eq_some_iff.1 hj).1;rw [List.length_take] at hlt;rw [List.getElem?_take_of_lt zU] at hj;exact hj
set_option maxHeartbeats 2000000 in
theorem z9p (T:Nat->ByteArray) (l:List Nat) (i k base g cap:Nat) (cur:Array Value) (w:World) (vb:Nat) (hb:base<=g) (hg:w.heap[g]?=some (.cells cur 149 (0,0))) (hcap:l.length+1<=cap) (hmx:cap<=maxLen) (hsz:cur.size=cap * 2)
 (htk:cur.toList.take (l.length * 2)=shC T l) (hi:i < l.length) (hl:l.length<=500) (hv:Bx w vb 149 #[O I k,.string (T k)]) (hne:vb ≠ g) :
 Calls prog 403 #[.slice (some ⟨g,0,none⟩) l.length cap,O I i,.slice (some ⟨vb,0,none⟩) 1 1] w fun e w'=>∃ sv',e=.returned sv'/\Laid T base (.slice (some ⟨g,0,none⟩) l.length cap) sv' (l.take i ++ k :: l.drop i) w w':=by
 have hdl:(shC T (l.drop i)).length=(l.length - i) * 2:=by rw [z1x,List.length_drop]
 obtain ⟨cur1,hc1⟩:∃ c:Array Value,c=(cur.toList.take ((i+1) * 2) ++ shC T (l.drop i) ++ cur.toList.drop ((i+1) * 2+(shC T (l.drop i)).length)).toArray:=⟨_,rfl⟩;obtain ⟨cur2,hc2⟩:∃ c:Array Value,c=(cur1.toList.take (i * 2) ++ ([O I k,.string (T k)]:List Value) ++ cur1.toList.drop (i * 2+2)).toArray:=⟨_,rfl⟩;have hov:∀ lb cb,(callFunc 405 #[.slice (some ⟨vb,0,none⟩) 1 1,.slice (some ⟨g,(i+1) * 2,none⟩) lb cb]).run prog w=.ok (.value (.bool false)) w:=fun lb cb=>by
  rw [run_callFunc_extern func405 zT zT zT (e:=Extern.SlicesOverlaps.overlaps #[152,152] #[4]) zT,
   Lib.run_overlaps_apart w 152 4 149 underlying152 2 (fun w=>by obtain ⟨i0,h0,-,h2,-⟩:=z4R;simp [sizeOf,typeInfo,h0,h2]) ⟨vb,0,none⟩ ⟨g,(i+1) * 2,none⟩ 1 1 lb cb hne 149 149 2 (cap * 2)
    (by simp [World.shape?,show w.heap[vb]?=_ from hv]) (by simp [World.shape?,hg,hsz]) zU (hv.free 0) (hv.free 2)]
  rfl
 have hcp1:∀ ty dc sc,(Builtin.copy_ #[153,153] ty #[.slice (some ⟨g,(i+1) * 2,none⟩) (l.length - i) dc,.slice (some ⟨g,i * 2,none⟩) (l.length+1 - i) sc]).run prog w.drew =   .ok (goInt ((l.length - i:Nat):Int)) (w.drew.setRow g cur1):=fun ty dc sc=>by
  have h1:=z2i (P:=prog) w.drew 153 153 ty 149 2 g ((i+1) * 2) (l.length - i) dc ⟨g,i * 2,none⟩ (l.length+1 - i) sc cur 149 (shC T (l.drop i)) underlying153 z3m hg
   (by rw [hdl,show Nat.min (l.length+1 - i) (l.length - i)=l.length - i from Nat.min_eq_right zU])
   (fun j v hj=>by
    rw [show (⟨g,i * 2,none⟩:Addr).add j=⟨g,i * 2+j,none⟩ by unfold Addr.add;split <;> simp_all]
    show w.cell? _=_
    have:=z6o htk i j v hj;simp [World.cell?,hg]
    simpa using this) (by rw [hdl,hsz];omega) (z8l T _)
  rw [← hc1,show Nat.min (l.length+1 - i) (l.length - i)=l.length - i from Nat.min_eq_right zU] at h1;exact h1
 have hz1:cur1.size=cap * 2:=by
  rw [hc1];simp [hsz,hdl];omega
 have hg1:(w.drew.setRow g cur1).heap[g]?=some (.cells cur1 149 (0,0)):=z1W w.drew g cur cur1 _ hg;have hv1:Bx (w.drew.setRow g cur1) vb 149 #[O I k,.string (T k)]:=by
  have e:Edit (·=g) w (w.drew.setRow g cur1):=⟨rfl,rfl,rfl,by simp,fun q hq hS=>by rw [setRow_other w.drew g q cur1 hS];rfl⟩;exact hv.edit e hne
 have hcp2:∀ ty dc,(Builtin.copy_ #[153,152] ty #[.slice (some ⟨g,i * 2,none⟩) (l.length+1 - i) dc,.slice (some ⟨vb,0,none⟩) 1 1]).run prog (w.drew.setRow g cur1)=.ok (goInt 1) ((w.drew.setRow g cur1).setRow g cur2):=fun ty dc=>by
  have h1:=z2i (P:=prog) (w.drew.setRow g cur1) 153 152 ty 149 2 g (i * 2) (l.length+1 - i) dc ⟨vb,0,none⟩ 1 1 cur1 149 [O I k,.string (T k)] underlying153 z3m hg1
   (by rw [show Nat.min 1 (l.length+1 - i)=1 from Nat.min_eq_left zU];rfl)
   (fun j v hj=>by
    match j,hj with
    | 0,hj=>cases hj;exact hv1.cell 0
    | 1,hj=>cases hj;exact hv1.cell 1
    | j+2,hj=>cases hj) (by rw [hz1];simp;omega) (fun u hu=>by simp at hu;rcases hu with rfl | rfl <;> rfl)
  rw [show Nat.min 1 (l.length+1 - i)=1 from Nat.min_eq_left zU] at h1;rw [hc2];exact h1
 have HL:Hid (Laid T base (.slice (some ⟨g,0,none⟩) l.length cap) (.slice (some ⟨g,0,none⟩) (l.length+1) cap) (l.take i ++ k :: l.drop i) w ((w.drew.setRow g cur1).setRow g cur2)):=by
  have hlen:(l.take i ++ k :: l.drop i).length=l.length+1:=by simp;omega
  refine ⟨⟨by rw [z1x,hlen],Or.inr ⟨g,cap,cur2,by rw [hlen],hb,z1W _ g cur1 cur2 _ hg1,by rw [hlen];exact hcap,hmx,?_,?_⟩⟩,⟨rfl,rfl,rfl,by simp,fun q hq hS=>?_⟩,fun q hq=>Or.inl hq⟩
  . rw [hc2]
    simp [hz1];omega
  . have e1:cur1.toList.take (i * 2)=shC T (l.take i):=by
      rw [hc1];simp only [zI];rw [List.take_append_of_le_length (by simp [hsz];omega),List.take_take,Nat.min_eq_left zU];exact y1H htk zU
    have e2:cur1.toList.drop (i * 2+2)=shC T (l.drop i) ++ cur.toList.drop ((i+1) * 2+(shC T (l.drop i)).length):=by
     rw [hc1];simp only [zI];rw [List.drop_append_of_le_length (by simp [hsz];omega),List.drop_of_length_le (by simp;omega),List.nil_append]
    rw [hc2,e1,e2,hlen];rw [show shC T (l.take i ++ k :: l.drop i)=shC T (l.take i) ++ [O I k,.string (T k)] ++ shC T (l.drop i) by rw [z8k];simp [shC]];rw [← zI,List.take_append_of_le_length (by simp [z1x];omega),List.take_of_length_le (by simp [z1x];omega)]
  . have:q ≠ g:=fun hh=>hS (by rw [hh];rfl)
    rw [setRow_other _ g q cur2 this,setRow_other _ g q cur1 this]
    rfl
 have HOV:=zZ hov;have HC1:=zZ hcp1;have HC2:=zZ hcp2;clear hov hcp1 hcp2 hz1 hg1 hv1 hc1 hc2 hdl hv hg htk hsz;have hw1:I.wrap ((i:Int)+1)=((i+1:Nat):Int):=by rw [zK];omega
 have hw2:I.wrap ((l.length:Int)+1)=((l.length+1:Nat):Int):=by rw [zK];omega
 have hq1:¬ (cap=i):=zU
 have hq2:¬ (cap=i+1):=zU
 have hq3:¬ ((i:Int)=(l.length:Int)):=zU
 have hq5:(0:Int)<=(i:Int)+1:=zU
 have hq6:i<=l.length:=zU
 have hq7:(i:Int)<=(l.length:Int)+1:=zU
 have hq4:l.length+1 - (i+1)=l.length - i:=zU
 go_enter func403,ntmps403
 go_wp2_with (simp only [HOV.out])
 go_region_law (first | (refine y1G rfl _ _ 153 153 rfl (.slice (some ⟨g,(i+1) * 2,none⟩) (l.length - i) (cap - (i+1))) (.slice (some ⟨g,i * 2,none⟩) (l.length+1 - i) (cap - i)) _ (by simp [Act.eval,Act.put]) (by simp [Act.eval,Act.put]) (HC1.out _ _ _) ?_))
 all_goals
  go_wp2_with (simp only [HC2.out])
  go_ret;exact ⟨_,rfl,HL.out⟩
theorem y8c (z:Array Value) (n:Nat):(Builtin.zeroCells z n).size=n * z.size:=by simp [Builtin.zeroCells]
set_option maxHeartbeats 2000000 in
theorem y0y (T:Nat->ByteArray) (l:List Nat) (i k base g:Nat) (cur:Array Value) (w:World) (vb:Nat) (hb:base<=w.heap.size) (hg:w.heap[g]?=some (.cells cur 149 (0,0))) (hsz:cur.size=l.length * 2)
 (htk:cur.toList.take (l.length * 2)=shC T l) (hi:i < l.length) (hl:l.length<=500) (hv:Bx w vb 149 #[O I k,.string (T k)]) :
 Calls prog 403 #[.slice (some ⟨g,0,none⟩) l.length l.length,O I i,.slice (some ⟨vb,0,none⟩) 1 1] w fun e w'=>∃ sv',e=.returned sv'/\Laid T base (.slice (some ⟨g,0,none⟩) l.length l.length) sv' (l.take i ++ k :: l.drop i) w w':=by
 have hdl:(shC T (l.drop i)).length=(l.length - i) * 2:=by rw [z1x,List.length_drop]
 obtain ⟨i0,hi0,hz0,hz1,hz2⟩:=z4R;obtain ⟨cp,hcp⟩:∃ c,c=grownCap w (l.length+1) l.length 149:=⟨_,rfl⟩;have hcp1:l.length+1<=cp:=by rw [hcp];exact grownCap_ge _ _ _ _
 have hcp2:cp<=maxLen:=by rw [hcp];exact grownCap_le_maxLen _ _ _ _ (by simp only [maxLen];omega)
 obtain ⟨Z,hZ⟩:∃ Z:Array Value,Z=#[O I 0,.string ⟨#[]⟩]:=⟨_,rfl⟩;have hZs:Z.size=2:=by rw [hZ];rfl
 obtain ⟨cur1,hc1⟩:∃ c:Array Value,c=(shC T (l.take i)).toArray ++ Builtin.zeroCells Z (l.length+1 - i) ++ Builtin.zeroCells Z (cp - (l.length+1)):=⟨_,rfl⟩;obtain ⟨H,hH⟩:∃ H,H=w.heap.size:=⟨_,rfl⟩;obtain ⟨W1,hW1⟩:∃ W,W=w.drew.alloc (.cells cur1 149):=⟨_,rfl⟩;have hap:∀ ty,(Builtin.append_ #[153,3] ty #[.slice (some ⟨g,0,none⟩) i l.length,O I ((l.length:Int)+1 - (i:Int))]).run prog w=.ok (.slice (some ⟨H,0,none⟩) (l.length+1) cp) W1:=fun ty=>by
  have h1:=z4Q (P:=prog) w 153 3 ty 149 i0 (.agg #[O I 0,.string ⟨#[]⟩]) .i64 .i64 underlying153 underlying3 hi0 hz0 2 hz1 g i l.length (shC T (l.take i)) (by rw [z1x,List.length_take,Nat.min_eq_left zU])
   (fun j v hj=>by
    rw [← y1H htk zU] at hj;have hlt:=(List.getElem?_eq_some_iff.1 hj).1;rw [List.length_take] at hlt;rw [List.getElem?_take_of_lt zU] at hj;simp [World.cell?,hg]
    simpa using hj) (l.length+1 - i) zU zU zU zU zU
  rw [show i+(l.length+1 - i)=l.length+1 by omega,← hcp,show (Value.agg #[O I 0,.string ⟨#[]⟩]).cells=Z by rw [hZ];rfl,← hc1,← hW1,← hH] at h1;rw [show (l.length:Int)+1 - (i:Int)=((l.length+1 - i:Nat):Int) by omega];exact h1
 have hg1:W1.heap[H]?=some (.cells cur1 149 (0,0)):=by rw [hW1,hH];exact (Bx.new w.drew cur1 149)
 have hz3:cur1.size=cp * 2:=by rw [hc1];simp [y8c,hZs,z1x];omega
 have ht1:cur1.toList.take (i * 2)=shC T (l.take i):=by
  rw [hc1];simp only [Array.toList_append,zI];rw [List.take_append_of_le_length (by simp [z1x];omega),List.take_of_length_le (by simp [z1x];omega)]
 have e1:Edit (fun _=>False) w W1:=by rw [hW1];exact ((Edit.refl _ w).drewN 1).alloc _
 have hv1:Bx W1 vb 149 #[O I k,.string (T k)]:=hv.edit e1 id;have hgl:g < w.heap.size:=(Array.getElem?_eq_some_iff.1 hg).1;have hvl:vb < w.heap.size:=hv.lt;obtain ⟨cur2,hc2⟩:∃ c:Array Value,c=(cur1.toList.take (i * 2) ++ ([O I k,.string (T k)]:List Value) ++ cur1.toList.drop (i * 2+2)).toArray:=⟨_,rfl⟩;have hcpA:∀ ty dc,(Builtin.copy_ #[153,152] ty #[.slice (some ⟨H,i * 2,none⟩) (l.length+1 - i) dc,.slice (some ⟨vb,0,none⟩) 1 1]).run prog W1=.ok (goInt 1) (W1.setRow H cur2):=fun ty dc=>by
  have h1:=z2i (P:=prog) W1 153 152 ty 149 2 H (i * 2) (l.length+1 - i) dc ⟨vb,0,none⟩ 1 1 cur1 149 [O I k,.string (T k)] underlying153 z3m hg1
   (by rw [show Nat.min 1 (l.length+1 - i)=1 from Nat.min_eq_left zU];rfl)
   (fun j v hj=>by
    match j,hj with
    | 0,hj=>cases hj;exact hv1.cell 0
    | 1,hj=>cases hj;exact hv1.cell 1
    | j+2,hj=>cases hj) (by rw [hz3];simp;omega) (fun u hu=>by simp at hu;rcases hu with rfl | rfl <;> rfl)
  rw [show Nat.min 1 (l.length+1 - i)=1 from Nat.min_eq_left zU] at h1;rw [hc2];exact h1
 have hz4:cur2.size=cp * 2:=by rw [hc2];simp [hz3];omega
 have hg2:(W1.setRow H cur2).heap[H]?=some (.cells cur2 149 (0,0)):=z1W W1 H cur1 cur2 _ hg1;have hg3:(W1.setRow H cur2).heap[g]?=some (.cells cur 149 (0,0)):=by rw [setRow_other _ _ _ _ zU,e1.block g hgl id];exact hg
 obtain ⟨cur3,hc3⟩:∃ c:Array Value,c=(cur2.toList.take ((i+1) * 2) ++ shC T (l.drop i) ++ cur2.toList.drop ((i+1) * 2+(shC T (l.drop i)).length)).toArray:=⟨_,rfl⟩;have hcpB:∀ ty dc sc,(Builtin.copy_ #[153,153] ty #[.slice (some ⟨H,(i+1) * 2,none⟩) (l.length - i) dc,.slice (some ⟨g,i * 2,none⟩) (l.length - i) sc]).run prog (W1.setRow H cur2).drew=.ok (goInt ((l.length - i:Nat):Int)) ((W1.setRow H cur2).drew.setRow H cur3):=fun ty dc sc=>by
  have h1:=z2i (P:=prog) (W1.setRow H cur2).drew 153 153 ty 149 2 H ((i+1) * 2) (l.length - i) dc ⟨g,i * 2,none⟩ (l.length - i) sc cur2 149 (shC T (l.drop i)) underlying153 z3m hg2
   (by rw [hdl,show Nat.min (l.length - i) (l.length - i)=l.length - i from Nat.min_self _])
   (fun j v hj=>by
    rw [show (⟨g,i * 2,none⟩:Addr).add j=⟨g,i * 2+j,none⟩ by unfold Addr.add;split <;> simp_all]
    show (W1.setRow H cur2).cell? _=_
    have:=z6o htk i j v hj;simp [World.cell?,hg3]
    simpa using this) (by rw [hdl,hz4];omega) (z8l T _)
  rw [← hc3,show Nat.min (l.length - i) (l.length - i)=l.length - i from Nat.min_self _] at h1;exact h1
 have HL:Hid (Laid T base (.slice (some ⟨g,0,none⟩) l.length l.length) (.slice (some ⟨H,0,none⟩) (l.length+1) cp) (l.take i ++ k :: l.drop i) w ((W1.setRow H cur2).drew.setRow H cur3)):=by
  have hlen:(l.take i ++ k :: l.drop i).length=l.length+1:=by simp;omega
  refine ⟨⟨by rw [z1x,hlen],Or.inr ⟨H,cp,cur3,by rw [hlen],zU,z1W _ H cur2 cur3 _ hg2,by rw [hlen];exact hcp1,hcp2,?_,?_⟩⟩,⟨?_,?_,?_,by simpa using e1.size,fun q hq hS=>?_⟩,fun q hq=>Or.inr (by cases hq;exact Nat.le_of_eq hH.symm)⟩
  . rw [hc3]
    simp [hz4,hdl];omega
  . have e3:cur2.toList.take ((i+1) * 2)=shC T (l.take i) ++ [O I k,.string (T k)]:=by
      rw [hc2,ht1];rw [List.take_append_of_le_length (by simp [z1x];omega),List.take_of_length_le (by simp [z1x];omega)]
    rw [hc3,e3,hlen];rw [show shC T (l.take i ++ k :: l.drop i)=shC T (l.take i) ++ [O I k,.string (T k)] ++ shC T (l.drop i) by rw [z8k];simp [shC]];rw [List.take_append_of_le_length (by simp [z1x];omega),List.take_of_length_le (by simp [z1x];omega)]
  . exact e1.os
  . exact e1.tape
  . exact e1.output
  . rw [setRow_other _ H q cur3 zU]
    show (W1.setRow H cur2).heap[q]?=_
    rw [setRow_other _ H q cur2 zU];exact e1.block q hq id
 have HAP:=zZ hap;have HC1:=zZ hcpA;have HC2:=zZ hcpB;clear hap hcpA hcpB hz0 hz1 hz2 hz3 hz4 hg1 hg2 hg3 hv1 hc1 hc2 hc3 hdl hv hg htk hsz hcp hcp2 hZ hZs hH hW1 ht1 e1 hgl hvl hi0;have hw1:I.wrap ((i:Int)+1)=((i+1:Nat):Int):=by rw [zK];omega
 have hq1:¬ (cp=i):=zU
 have hq2:¬ (cp=i+1):=zU
 have hq8:¬ (l.length=i):=zU
 have hq3:¬ ((i:Int)=(l.length:Int)):=zU
 have hq4:l.length+1 - (i+1)=l.length - i:=zU
 have hq5:(0:Int)<=(i:Int)+1:=zU
 have hq6:i<=l.length:=zU
 have hq7:(i:Int)<=(l.length:Int)+1:=zU
 go_enter func403,ntmps403
 go_wp2_with (first | (at_builtin;refine Lib.wpList_append_run w rfl (.tmp 34) (.tmp 39) 153 3 rfl _ _ rfl rfl (.slice (some ⟨H,0,none⟩) (l.length+1) cp) W1 (HAP.out _) ?_) | simp only [HC1.out])
 go_region_law (first | (refine y1G rfl _ _ 153 153 rfl (.slice (some ⟨H,(i+1) * 2,none⟩) (l.length - i) (cp - (i+1))) (.slice (some ⟨g,i * 2,none⟩) (l.length - i) (l.length - i)) _ (by simp [Act.eval,Act.put]) (by simp [Act.eval,Act.put]) (HC2.out _ _ _) ?_))
 all_goals
  go_wp2;go_ret;exact ⟨_,rfl,HL.out⟩
theorem y2Q (T:Nat->ByteArray) (l:List Nat) (i k base:Nat) (sv:Value) (w:World) (vb:Nat) (hsv:w.ownsRow base 149 2 sv l.length (shC T l)) (hbase:base<=w.heap.size) (hi:i<=l.length) (hl:l.length<=500) (hv:Bx w vb 149 #[O I k,.string (T k)]) (hne:sv.ownBlock ≠ some vb) :
 Calls prog 403 #[sv,O I i,.slice (some ⟨vb,0,none⟩) 1 1] w fun e w'=>∃ sv',e=.returned sv'/\Laid T base sv sv' (l.take i ++ k :: l.drop i) w w':=by
 by_cases e:i=l.length
 . subst e
   rw [List.take_length,List.drop_length];exact y2P T l k base sv w vb hsv hbase hl hv
 . rcases hsv.2 with ⟨-,h0⟩ | ⟨g,cap,cur,rfl,h1,h2,h3,h4,h5,h6⟩
   . omega
   . by_cases hc:l.length+1<=cap
     . exact z9p T l i k base g cap cur w vb h1 h2 hc h4 h5 h6 zU hl hv fun hh=>hne (by rw [hh];rfl)
     . have e2:cap=l.length:=zU
       subst e2;exact y0y T l i k base g cur w vb hbase h2 h5 h6 zU hl hv
theorem y9b (w:World):(zeroValue 149).run prog w=.ok (.agg #[O I 0,.string ⟨#[]⟩]) w:=by
 obtain ⟨i0,h0,h1,-,-⟩:=z4R;simp [zeroValue,typeInfo,h0,h1]
theorem z3K {P:Program} {ops:Array Oper} {o:Oper} {a:Act} {w w':World} {K:Act->World->Prop} {Q:Exit->Act->World->Prop} {E:Prop}
 (hg:o.guard=none) (s x:Operand) (t:TypeId) (hop:o.op=Op.call { callee:=Callee.builtin Builtin.append,args:=#[s,x],argTypes:=#[t,t] })
 (v b v':Value) (hs:a.eval s=v) (hx:a.eval x=b) (hrun:(Builtin.append_ #[t,t] o.type #[v,b]).run P w=.ok v' w') (hK:K (a.put o.dst v') w') :
 if Region.wanted o (yielded ops a.tmps)=true then Oper.wp P o a w K Q else E:=by
 have hw:Region.wanted o (yielded ops a.tmps)=true:=by simp [Region.wanted,hg]
 rw [if_pos hw];unfold Oper.wp;simp [execOp,hop,resolve,invoke,builtin,hs,hx,hrun,Result.andThen];exact hK
set_option maxHeartbeats 2000000 in
theorem y2R (T:Nat->ByteArray) (k:Nat) (r:List Nat) (base g cap:Nat) (cur:Array Value) (w:World) (hb:base<=g) (hg:w.heap[g]?=some (.cells cur 149 (0,0))) (hcap:r.length+1<=cap) (hmx:cap<=maxLen) (hsz:cur.size=cap * 2)
 (htk:cur.toList.take ((k :: r).length * 2)=shC T (k :: r)) (hl:r.length<=500) :
 Calls prog 398 #[.slice (some ⟨g,0,none⟩) ((r.length+1:Nat)) cap,O I 0,O I 1] w fun e w'=>e=.returned (.slice (some ⟨g,0,none⟩) r.length cap)/\Laid T base (.slice (some ⟨g,0,none⟩) (r.length+1) cap) (.slice (some ⟨g,0,none⟩) r.length cap) r w w':=by
 have hdl:=z1x T r;obtain ⟨i0,hi0,hz0,hz1,hz2⟩:=z4R;obtain ⟨cur1,hc1⟩:∃ c:Array Value,c=(cur.toList.take (0 * 2) ++ shC T r ++ cur.toList.drop (0 * 2+(shC T r).length)).toArray:=⟨_,rfl⟩;have hap:∀ ty o c,(o=2∨r=[])->(Builtin.append_ #[153,153] ty #[.slice (some ⟨g,0,none⟩) 0 cap,.slice (some ⟨g,o,none⟩) r.length c]).run prog w.drew=.ok (.slice (some ⟨g,0,none⟩) r.length cap) (w.drew.setRow g cur1):=fun ty o c ho=>by
  have h1:=z5l (P:=prog) w.drew 153 ty 149 i0 underlying153 hi0 2 hz1 g 0 cap cur hg ⟨g,o,none⟩ r.length c (shC T r) hdl
   (fun j v hj=>by
    rcases ho with rfl | rfl
    . rw [show (⟨g,2,none⟩:Addr).add j=⟨g,1 * 2+j,none⟩ by unfold Addr.add;split <;> simp_all]
      show w.cell? _=_
      have:=z6o (l:=k :: r) htk 1 j v hj;simp [World.cell?,hg]
      simpa using this
    . cases hj) (z8l T _) zU (by rw [hdl,hsz];omega)
  rw [← hc1,Nat.zero_add] at h1;exact h1
 have hz3:cur1.size=cap * 2:=by rw [hc1];simp [hsz,hdl];omega
 have hg1:(w.drew.setRow g cur1).heap[g]?=some (.cells cur1 149 (0,0)):=z1W w.drew g cur cur1 _ hg;have hZ:(Builtin.zeroCells (Value.agg #[O I 0,.string ⟨#[]⟩]).cells 1).toList=[O I 0,.string ⟨#[]⟩]:=by first | kernel_rfl | simp [Builtin.zeroCells,Value.cells]
 obtain ⟨cur2,hc2⟩:∃ c:Array Value,c=(cur1.toList.take (r.length * 2) ++ ([O I 0,.string ⟨#[]⟩]:List Value) ++ cur1.toList.drop (r.length * 2+2)).toArray:=⟨_,rfl⟩;have hcl:∀ ty c,(Builtin.clear_ #[153] ty #[.slice (some ⟨g,r.length * 2,none⟩) 1 c]).run prog (w.drew.setRow g cur1)=.ok (.tuple #[]) ((w.drew.setRow g cur1).setRow g cur2):=fun ty c=>by
  have h1:=z6H (P:=prog) (w.drew.setRow g cur1) 153 149 ty (.agg #[O I 0,.string ⟨#[]⟩]) 1 underlying153 y9b (by rw [hZ];intro u hu;simp at hu;rcases hu with rfl | rfl <;> rfl) g (r.length * 2) c cur1 zU hg1 (by rw [hZ,hz3];simp;omega);rw [hZ] at h1;rw [hc2];exact h1
 have HL:Hid (Laid T base (.slice (some ⟨g,0,none⟩) (r.length+1) cap) (.slice (some ⟨g,0,none⟩) r.length cap) r w ((w.drew.setRow g cur1).setRow g cur2)):=by
  refine ⟨⟨hdl,Or.inr ⟨g,cap,cur2,rfl,hb,z1W _ g cur1 cur2 _ hg1,zU,hmx,?_,?_⟩⟩,⟨rfl,rfl,rfl,by simp,fun q hq hS=>?_⟩,fun q hq=>Or.inl hq⟩
  . rw [hc2]
    simp [hz3];omega
  . have e1:cur1.toList.take (r.length * 2)=shC T r:=by
      rw [hc1];simp only [zI];simp [hdl]
    rw [hc2,e1,zI,List.take_append_of_le_length (by rw [hdl];exact Nat.le_refl _),List.take_of_length_le (by rw [hdl];exact Nat.le_refl _)]
  . have:q ≠ g:=fun hh=>hS (by rw [hh];rfl)
    rw [setRow_other _ g q cur2 this,setRow_other _ g q cur1 this]
    rfl
 have HAP:=zZ hap;have HCL:=zZ hcl;clear hap hcl hz0 hz1 hz2 hz3 hg1 hc1 hc2 hdl hg htk hsz hZ hi0
 by_cases hc:cap=1
 . have hr0:r=[]:=by cases r with | nil=>rfl | cons a b=>simp at hcap;omega
   subst hc hr0;have HAP1:Hid ((Builtin.append_ #[153,153] 153 #[.slice (some ⟨g,0,none⟩) 0 1,.slice (some ⟨g,0,none⟩) 0 0]).run prog w.drew=.ok (.slice (some ⟨g,0,none⟩) 0 1) (w.drew.setRow g cur1)):=HAP.out 153 0 0 (Or.inr rfl);have HCL1:Hid (∀ ty c,(Builtin.clear_ #[153] ty #[.slice (some ⟨g,0,none⟩) 1 c]).run prog (w.drew.setRow g cur1)=.ok (.tuple #[]) ((w.drew.setRow g cur1).setRow g cur2)):=fun ty c=>HCL.out ty c
   clear HAP HCL
   go_enter func398,ntmps398
   go_wp2
   go_region_law (first | (refine z3K rfl _ _ 153 rfl (.slice (some ⟨g,0,none⟩) 0 1) (.slice (some ⟨g,0,none⟩) 0 0) _ (by simp [Act.eval,Act.put]) (by simp [Act.eval,Act.put]) HAP1.out ?_))
   all_goals
    go_wp2_with (simp only [HCL1.out])
    go_ret;exact ⟨rfl,HL.out⟩
 . have hq1:(1:Int)<=(r.length:Int)+1:=zU
   have hq2:¬ (cap=r.length):=zU
   go_enter func398,ntmps398
   go_wp2
   go_region_law (first | (refine z3K rfl _ _ 153 rfl (.slice (some ⟨g,0,none⟩) 0 cap) (.slice (some ⟨g,2,none⟩) r.length (cap - 1)) _ (by simp [Act.eval,Act.put]) (by simp [Act.eval,Act.put]) (HAP.out _ 2 _ (Or.inl rfl)) ?_))
   all_goals
    go_wp2_with (simp only [HCL.out])
    go_ret;exact ⟨rfl,HL.out⟩
theorem y4L (k:Nat):∀ l:List Nat,l.Pairwise (· < ·)->insL k l=l.take (l.countP fun x=>decide (x < k)) ++ k :: l.drop (l.countP fun x=>decide (x < k))
 | [],_=>rfl
 | x :: r,h=>by
  have h1:=List.pairwise_cons.1 h
  by_cases hx:x < k
  . rw [List.countP_cons_of_pos (by simpa using hx)]
    simp only [insL,if_pos hx,List.take_succ_cons,List.drop_succ_cons,List.cons_append];rw [y4L k r h1.2]
  . have hz:(x :: r).countP (fun x=>decide (x < k))=0:=by
      rw [List.countP_eq_zero];intro y hy;rcases List.mem_cons.1 hy with rfl | hy
      . simpa using hx
      . have:=h1.1 y hy
        simp;omega
    rw [hz];simp only [insL,if_neg hx,List.take_zero,List.drop_zero,List.nil_append]
theorem z0m {w w':World} {base:Nat} {e:TypeId} {size:Nat} {v:Value} {n:Nat} {xs:List Value} {S:Nat->Prop} (h:w.ownsRow base e size v n xs) (he:Edit S w w') (hS:∀ g,v.ownBlock=some g->¬ S g):w'.ownsRow base e size v n xs:=by
 refine ⟨h.1,?_⟩;rcases h.2 with ⟨rfl,rfl⟩ | ⟨g,cap,cur,rfl,h1,h2,h3⟩
 . exact Or.inl ⟨rfl,rfl⟩
 . exact Or.inr ⟨g,cap,cur,rfl,h1,(he.block g (Array.getElem?_eq_some_iff.1 h2).1 (hS g rfl)).trans h2,h3⟩
theorem z1n {w:World} {base:Nat} {e:TypeId} {size:Nat} {v:Value} {n:Nat} {xs:List Value} (h:w.ownsRow base e size v n xs):∀ g,v.ownBlock=some g->g < w.heap.size:=by
 intro g hg;rcases h.2 with ⟨rfl,rfl⟩ | ⟨g',cap,cur,rfl,h1,h2,h3⟩
 . cases hg
 . cases hg
   exact (Array.getElem?_eq_some_iff.1 h2).1
set_option linter.unusedSimpArgs false in
set_option maxHeartbeats 2000000 in
theorem y4M (T:Nat->ByteArray) (l:List Nat) (k base lb o:Nat) (sv:Value) (w:World) (hc:w.cell? ⟨lb,o,none⟩=some sv) (hf:w.frozen? ⟨lb,o,none⟩=false) (hlb:lb < w.heap.size) (hne:sv.ownBlock ≠ some lb)
 (hsv:w.ownsRow base 149 2 sv l.length (shC T l)) (hbase:base<=w.heap.size) (hsort:l.Pairwise (· < ·)) (hl:l.length<=500) :
 Calls prog 396 #[.pointer (some ⟨lb,o,none⟩),.agg #[O I k,.string (T k)]] w fun e w'=>e=.returned (.tuple #[])/\∃ sv' u,w'=u.setCell ⟨lb,o,none⟩ sv'/\Laid T base sv sv' (insL k l) w u:=by
 have hbx:=Bx.new w #[O I k,.string (T k)] 149;have HE0:Hid (Edit (fun _=>False) w (w.alloc (.cells #[O I k,.string (T k)] 149))):=(Edit.refl _ w).alloc _;have hlt:=z1n hsv;have HOWN:Hid (∀ u,Edit (fun _=>False) w u->u.ownsRow base 149 2 sv l.length (shC T l)):=fun u he=>z0m hsv he fun _ _=>id
 have HSR:Hid (∀ u,Edit (fun _=>False) w u->Calls prog 400 #[sv,.agg #[O I k,.string (T k)],.func (.func 401) #[] #[]] u fun e w'=>(∃ b,e=.returned (.tuple #[O I (l.countP (fun x=>decide (x < k)):Nat),.bool b]))/\Below u.heap.size u w') :=
  fun u he=>y2O T l k (T k) base sv u (HOWN.out u he) hsort zU
 have HIN:Hid (∀ u vb,Edit (fun _=>False) w u->w.heap.size<=vb->Bx u vb 149 #[O I k,.string (T k)]->Calls prog 403 #[sv,O I (l.countP (fun x=>decide (x < k)):Nat),.slice (some ⟨vb,0,none⟩) 1 1] u fun e w'=>∃ sv',e=.returned sv'/\Laid T base sv sv' (insL k l) u w'):=fun u vb he hvb hb=>by
  have h1:=y2Q T l (l.countP fun x=>decide (x < k)) k base sv u vb (HOWN.out u he) (zO hbase he.size) List.countP_le_length hl hb (fun hh=>by have:=hlt vb hh;omega);rw [← y4L k l hsort] at h1;exact h1
 have HCE:Hid (∀ u,Edit (fun b=>sv.ownBlock=some b) w u->u.cell? ⟨lb,o,none⟩=some sv/\u.frozen? ⟨lb,o,none⟩=false):=fun u he=>by
  have hb:=he.block lb hlb hne;exact ⟨(z2f hb).trans hc,by simpa [World.frozen?,hb] using hf⟩
 have HBX:Hid (∀ u,Edit (fun b=>sv.ownBlock=some b) (w.alloc (.cells #[O I k,.string (T k)] 149)) u->u.cell? ⟨w.heap.size,0,none⟩=some (O I k)/\u.cell? ⟨w.heap.size,1,none⟩=some (.string (T k))):=fun u he=>by
  have h1:=hbx.edit he (fun hh=>by have:=hlt _ hh;omega);exact ⟨h1.cell 0,h1.cell 1⟩
 have hx0:(w.alloc (.cells #[O I k,.string (T k)] 149)).drew.cell? ⟨lb,o,none⟩=some sv:=(HCE.out _ ((HE0.out.mono fun _ h=>h.elim))).1;have hx1:=HBX.out (w.alloc (.cells #[O I k,.string (T k)] 149)).drew ((Edit.refl _ _).drewN 1);have HFIN:Hid (∀ u u2 sv',Edit (fun _=>False) w u->Laid T base sv sv' (insL k l) u u2->Laid T base sv sv' (insL k l) w u2):=fun u u2 sv' he h=>⟨h.own,(he.mono fun _ h=>h.elim).trans h.edit,fun g hg=>by
  rcases h.new g hg with h1 | h1
  . exact Or.inl h1
  . exact Or.inr (zO he.size h1)⟩
 obtain ⟨W0,hW0⟩:∃ W,W=w.alloc (.cells #[O I k,.string (T k)] 149):=⟨_,rfl⟩;obtain ⟨n,hn⟩:∃ n,n=w.heap.size:=⟨_,rfl⟩;rw [← hW0] at HE0 HBX hx0 hx1;rw [← hn] at HBX hx1;have HN:Hid (n=w.heap.size):=hn;have HW:Hid (W0=w.alloc (.cells #[O I k,.string (T k)] 149)):=hW0;obtain ⟨A,cap,rfl,-⟩:=z0j hsv;generalize l.countP (fun x=>decide (x < k))=i at *;generalize insL k l=l' at *;generalize hT:T k=tk at *;have hnl:¬ lb=n:=zU
 clear hsv hc hf hbx hsort hlt
 go_enter func396,ntmps396
 go_wp2_with fail;rw [← hW0,← hn];clear hW0 hn hT;have hS0:=And.intro hx0 hx1
 go_region_held3 (fun w'=>w'.cell? ⟨lb,o,none⟩=some (.slice A l.length cap)/\w'.cell? ⟨n,0,none⟩=some (O I k)/\w'.cell? ⟨n,1,none⟩=some (.string tk)) (first | with_reducible exact hS0 | with_reducible exact hS1)
  (first
  | (go_at_call 400;refine (HSR.out _ (HE0.out.drewN 1)).mono ?_;rintro e u ⟨⟨bb,rfl⟩,hb⟩;have HE1:Hid (Edit (fun _=>False) W0 u):=Edit.of (⟨hb.os,hb.tape,hb.output,hb.size,hb.block⟩:Below W0.heap.size W0 u);have hS1:=And.intro (HCE.out u ((HE0.out.trans HE1.out).mono fun _ h=>h.elim)).1 (HBX.out u (HE1.out.mono fun _ h=>h.elim));clear hb))
 have hx2:u.drew.cell? ⟨lb,o,none⟩=some (.slice A l.length cap):=hS1.1;have hS2:u.drew.cell? ⟨n,0,none⟩=some (O I k)/\u.drew.cell? ⟨n,1,none⟩=some (.string tk):=hS1.2;have HE3:Hid (Edit (fun _=>False) u (u.alloc (.cells #[O I k,.string tk] 149)).drew):=((Edit.refl _ u).alloc _).drewN 1;have hS3:=HBX.out (u.alloc (.cells #[O I k,.string tk] 149)).drew ((HE1.out.trans HE3.out).mono fun _ h=>h.elim);have hx3:=(HCE.out (u.alloc (.cells #[O I k,.string tk] 149)).drew ((HE0.out.trans (HE1.out.trans HE3.out)).mono fun _ h=>h.elim)).1;have HE2:Hid (Edit (fun _=>False) w (u.alloc (.cells #[O I k,.string tk] 149)).drew):=HE0.out.trans (HE1.out.trans HE3.out);have HU:Hid (w.heap.size<=u.heap.size):=(HE0.out.trans HE1.out).size;have HB2:Hid (Bx (u.alloc (.cells #[O I k,.string tk] 149)).drew u.heap.size 149 #[O I k,.string tk]):=(Bx.new u _ _:Bx (u.alloc _) u.heap.size 149 _);clear hx0 hx1 hS0 hS1;go_wp2_with fail;refine wp_region_held_drew (S:=fun w'=>w'.cell? ⟨n,0,none⟩=some (O I k)/\w'.cell? ⟨n,1,none⟩=some (.string tk)) zT hS2 (fun _=>?_);refine tq 0 ?_
 refine tq 1 ?_;refine tq 2 ?_;refine tq 4 ?_;refine tq 5 ?_
 refine wpAnyH_ready (rs:=[3,6]) zT (by simp) ?_;refine AllReadyH.cons rfl (fun K hK=>?_) (AllReadyH.cons rfl (fun K hK=>?_) (AllReadyH.nil))
 . go_simp
   go_wp2_with fail;refine zV hK hS2 (fun _=>?_);clear hK K
   refine zQ 6 (fun K hK=>?_)
   go_simp
   go_wp2_with fail;refine zV hK hS3 (fun _=>?_);clear hK K
   refine zQ 7 (fun K hK=>?_)
   go_simp
   go_at_call 403
   refine (HIN.out _ u.heap.size HE2.out HU.out HB2.out).mono ?_;rintro e u2 ⟨sv',rfl,hla⟩;obtain ⟨A',cap',rfl,-⟩:=z0j hla.own;have hla2:=HFIN.out _ _ _ HE2.out hla;have hc2:=HCE.out u2 hla2.edit;have hx7:=hc2.1;have hx8:=hc2.2;have hS4:=HBX.out u2 (((HE1.out.trans HE3.out).mono fun _ h=>h.elim).trans hla.edit);have hS5:(u2.setCell ⟨lb,o,none⟩ (.slice A' l'.length cap')).cell? ⟨n,0,none⟩=some (O I k)/\(u2.setCell ⟨lb,o,none⟩ (.slice A' l'.length cap')).cell? ⟨n,1,none⟩=some (.string tk):=⟨(World.cell?_setCell_far _ _ _ _ hnl).trans hS4.1,(World.cell?_setCell_far _ _ _ _ hnl).trans hS4.2⟩;have HLA:=zZ hla2;clear hla hla2 hc2;go_wp2_with fail;refine zV hK hS4 (fun _=>?_);clear hK K
   refine tq 8 ?_
   refine zQ 9 (fun K hK=>?_)
   go_simp
   go_wp2_with fail;refine zV hK hS5 (fun _=>?_);clear hK K
   refine wpAnyH_done zT ?_ _;go_wp2;go_end0;exact ⟨rfl,_,_,rfl,HLA.out⟩
 . go_simp
   go_wp2_with fail;refine zV hK hS3 (fun _=>?_);clear hK K
   refine zQ 3 (fun K hK=>?_)
   go_simp
   go_wp2_with fail;refine zV hK hS3 (fun _=>?_);clear hK K
   refine zQ 7 (fun K hK=>?_)
   go_simp
   go_at_call 403
   refine (HIN.out _ u.heap.size HE2.out HU.out HB2.out).mono ?_;rintro e u2 ⟨sv',rfl,hla⟩;obtain ⟨A',cap',rfl,-⟩:=z0j hla.own;have hla2:=HFIN.out _ _ _ HE2.out hla;have hc2:=HCE.out u2 hla2.edit;have hx7:=hc2.1;have hx8:=hc2.2;have hS4:=HBX.out u2 (((HE1.out.trans HE3.out).mono fun _ h=>h.elim).trans hla.edit);have hS5:(u2.setCell ⟨lb,o,none⟩ (.slice A' l'.length cap')).cell? ⟨n,0,none⟩=some (O I k)/\(u2.setCell ⟨lb,o,none⟩ (.slice A' l'.length cap')).cell? ⟨n,1,none⟩=some (.string tk):=⟨(World.cell?_setCell_far _ _ _ _ hnl).trans hS4.1,(World.cell?_setCell_far _ _ _ _ hnl).trans hS4.2⟩;have HLA:=zZ hla2;clear hla hla2 hc2;go_wp2_with fail;refine zV hK hS4 (fun _=>?_);clear hK K
   refine tq 8 ?_
   refine zQ 9 (fun K hK=>?_)
   go_simp
   go_wp2_with fail;refine zV hK hS5 (fun _=>?_);clear hK K
   refine wpAnyH_done zT ?_ _;go_wp2;go_end0;exact ⟨rfl,_,_,rfl,HLA.out⟩
theorem y4N (tmps:Array Value) (R:Nat) (cs:Array Value) (W:World) (h:Bx W R 149 cs) (hs:cs.size=2) (h2:tmps.getD 2 undef=.pointer (some ⟨R,0,none⟩)) :
 (results Tryz.f392 tmps).run prog W=.ok (.agg cs) W:=by
 have hl:=run_loadVar_row (P:=prog) W R 149 149 cs (0,0) _ h underlying149 rfl (by rw [hs];exact z3m);rw [Array.getD_eq_getD_getElem?] at h2;simp [results,results392,asAddr,h2,hl]
set_option maxHeartbeats 2000000 in
theorem z8m (T:Nat->ByteArray) (k:Nat) (r:List Nat) (base lb o:Nat) (t:TypeId) (cs:Array Value) (sv:Value) (w:World) (hlb:Bx w lb t cs) (hcs:cs[o]?=some sv) (hne:sv.ownBlock ≠ some lb)
 (hsv:w.ownsRow base 149 2 sv (k :: r).length (shC T (k :: r))) (hl:r.length<=500) :
 Calls prog 392 #[.pointer (some ⟨lb,o,none⟩)] w fun e w'=>e=.returned (.agg #[O I k,.string (T k)])/\∃ sv',Bx w' lb t (cs.setIfInBounds o sv')/\w'.ownsRow base 149 2 sv' r.length (shC T r)/\sv'.ownBlock=sv.ownBlock/\Edit (fun b=>sv.ownBlock=some b∨b=lb) w w':=by
 rcases hsv.2 with ⟨-,h0⟩ | ⟨g,cap,cur,rfl,h1,h2,h3,h4,h5,h6⟩
 . simp at h0
 have hgl:g < w.heap.size:=(Array.getElem?_eq_some_iff.1 h2).1;have hll:=hlb.lt;have hng:g ≠ lb:=fun hh=>hne (by rw [hh];rfl)
 have hrow:∀ u,Edit (fun _=>False) w u->u.heap[g]?=some (.cells cur 149 (0,0)):=fun u he=>(he.block g hgl id).trans h2
 have hcell:∀ u,Edit (fun _=>False) w u->u.cell? ⟨g,0,none⟩=some (O I k)/\u.cell? ⟨g,1,none⟩=some (.string (T k))/\u.cell? ⟨lb,o,none⟩=some (.slice (some ⟨g,0,none⟩) (r.length+1) cap):=fun u he=>by
  have h7:=hrow u he;have h8:=z6o (l:=k :: r) h6 0 0 _ rfl;have h9:=z6o (l:=k :: r) h6 0 1 _ rfl;refine ⟨?_,?_,(z2f (he.block lb hll id)).trans ?_⟩
  . simp [World.cell?,h7];simpa using h8
  . simp [World.cell?,h7];simpa using h9
  . simp [World.cell?,show w.heap[lb]?=_ from hlb,hcs]
 have HDE:Hid (∀ u,Edit (fun _=>False) w u->Calls prog 398 #[.slice (some ⟨g,0,none⟩) (r.length+1) cap,O I 0,O I 1] u fun e w'=>e=.returned (.slice (some ⟨g,0,none⟩) r.length cap)/\Laid T base (.slice (some ⟨g,0,none⟩) (r.length+1) cap) (.slice (some ⟨g,0,none⟩) r.length cap) r u w') :=
  fun u he=>y2R T k r base g cap cur u h1 (hrow u he) h3 h4 h5 h6 hl
 obtain ⟨n,hn⟩:∃ n,n=w.heap.size:=⟨_,rfl⟩;obtain ⟨W0,hW0⟩:∃ W,W=w.alloc (.cells #[O I 0,.string ⟨#[]⟩] 149):=⟨_,rfl⟩;have e0:Edit (fun _=>False) w W0:=by rw [hW0];exact (Edit.refl _ w).alloc _
 have hz0:W0.heap.size=n+1:=by rw [hW0,hn];simp
 have b0:Bx W0 n 149 #[O I 0,.string ⟨#[]⟩]:=by rw [hW0,hn];exact Bx.new w _ _
 obtain ⟨W1,hW1⟩:∃ W,W=(W0.alloc (.cells #[O I 0,.string ⟨#[]⟩] 149)).setRow (n+1) #[O I k,.string (T k)]:=⟨_,rfl⟩;have e1:Edit (fun _=>False) W0 W1:=by rw [hW1];exact ((Edit.refl _ W0).alloc _).row zU _
 have b1:Bx W1 n 149 #[O I 0,.string ⟨#[]⟩]:=b0.edit e1 id;have b2:Bx W1 (n+1) 149 #[O I k,.string (T k)]:=by rw [hW1,← hz0];exact (Bx.new W0 _ _).row _
 have x0:=hcell W0 e0;have x1:=hcell W1 (e0.trans e1);have HDL:=zZ (HDE.out W1 (e0.trans e1));have HFIN:Hid (∀ u,Laid T base (.slice (some ⟨g,0,none⟩) (r.length+1) cap) (.slice (some ⟨g,0,none⟩) r.length cap) r W1 u ->
     u.cell? ⟨lb,o,none⟩=some (.slice (some ⟨g,0,none⟩) (r.length+1) cap)/\u.frozen? ⟨lb,o,none⟩=false /\
     Bx (u.setCell ⟨lb,o,none⟩ (.slice (some ⟨g,0,none⟩) r.length cap)) (n+1) 149 #[O I k,.string (T k)] /\
     Bx (u.setCell ⟨lb,o,none⟩ (.slice (some ⟨g,0,none⟩) r.length cap)) n 149 #[O I 0,.string ⟨#[]⟩] /\
     ∃ sv',Bx ((u.setCell ⟨lb,o,none⟩ (.slice (some ⟨g,0,none⟩) r.length cap)).setRow n #[O I k,.string (T k)]) lb t (cs.setIfInBounds o sv')/\((u.setCell ⟨lb,o,none⟩ (.slice (some ⟨g,0,none⟩) r.length cap)).setRow n #[O I k,.string (T k)]).ownsRow base 149 2 sv' r.length (shC T r)/\sv'.ownBlock=(Value.slice (some ⟨g,0,none⟩) (k :: r).length cap).ownBlock /\
      Edit (fun b=>(Value.slice (some ⟨g,0,none⟩) (k :: r).length cap).ownBlock=some b∨b=lb) w ((u.setCell ⟨lb,o,none⟩ (.slice (some ⟨g,0,none⟩) r.length cap)).setRow n #[O I k,.string (T k)])):=by
  intro u hla;have hg1:∀ b,b ≠ g->¬ ((Value.slice (some ⟨g,0,none⟩) (r.length+1) cap).ownBlock=some b):=fun b hb hh=>hb (by cases hh;rfl)
  have hbl:Bx u lb t cs:=(hlb.edit (e0.trans e1) id).edit hla.edit (hg1 lb (Ne.symm hng));have c1:=(b2.edit hla.edit (hg1 (n+1) zU)).past (g:=lb) zU o (.slice (some ⟨g,0,none⟩) r.length cap);have c2:=(b1.edit hla.edit (hg1 n zU)).past (g:=lb) zU o (.slice (some ⟨g,0,none⟩) r.length cap);have c3:=hbl.set o (.slice (some ⟨g,0,none⟩) r.length cap);have e4:Edit (fun b=>(Value.slice (some ⟨g,0,none⟩) (k :: r).length cap).ownBlock=some b∨b=lb) w ((u.setCell ⟨lb,o,none⟩ (.slice (some ⟨g,0,none⟩) r.length cap)).setRow n #[O I k,.string (T k)]) :=
   ((((e0.trans e1).mono (T:=fun b=>(Value.slice (some ⟨g,0,none⟩) (k :: r).length cap).ownBlock=some b∨b=lb) fun _ h=>h.elim).trans (hla.edit.mono fun b hb=>Or.inl hb)).cell (g:=lb) (Or.inl (Or.inr rfl)) o _).row (g:=n) (Nat.le_of_eq hn.symm) _
  have e5:Edit (fun b=>b=lb∨b=n) u ((u.setCell ⟨lb,o,none⟩ (.slice (some ⟨g,0,none⟩) r.length cap)).setRow n #[O I k,.string (T k)]):=by
   have h7:Edit (fun b=>b=lb∨b=n) u (u.setCell ⟨lb,o,none⟩ (.slice (some ⟨g,0,none⟩) r.length cap)):=(Edit.refl _ u).cell (Or.inl (Or.inl rfl)) o _;exact h7.trans ⟨rfl,rfl,rfl,by simp,fun b hb hS=>setRow_other _ _ _ _ (fun hh=>hS (Or.inr hh))⟩
  refine ⟨(hbl.cell o).trans ?_,hbl.free o,c1,c2,.slice (some ⟨g,0,none⟩) r.length cap,?_,z0m hla.own e5 fun q hq hh=>?_,rfl,e4⟩
  . rw [hcs];rfl
  . exact c3.of (setRow_other _ _ _ _ zU)
  . cases hq
    rcases hh with hh | hh
    . exact hng hh
    . exact absurd hh (by show ¬ g=n;omega)
 obtain ⟨x00,x01,x02⟩:=x0;obtain ⟨-,-,x12⟩:=x1;generalize T k=tk at *;clear hsv h1 h2 h4 h5 h6 hlb hcs hne hcell hrow HDE e0 e1 b1;have HB1:Hid (Bx (W0.alloc (.cells #[O I 0,.string ⟨#[]⟩] 149)) (n+1) 149 #[O I 0,.string ⟨#[]⟩]):=by
  have:=Bx.new W0 #[O I 0,.string ⟨#[]⟩] 149;rw [hz0] at this;exact this
 clear b0 b2 hz0;subst hW1 hW0 hn
 go_enter func392,ntmps392
 go_wp2_with (first
  | (refine z0a rfl _ _ 149 rfl (w.heap.size+1) 149 _ _ rfl rfl HB1.out z3m rfl rfl ?_)
  | (go_at_call 398;refine HDL.out.mono ?_;rintro e u ⟨rfl,hla⟩;obtain ⟨y0,y1,y2,y3,HY⟩:=HFIN.out u hla;have HY:=zZ HY;have y20:=y2.cell 0;have y21:=y2.cell 1;simp at y20 y21;have HY3:=zZ y3;clear y2 y3 hla)
  | (refine z0a rfl _ _ 149 rfl w.heap.size 149 _ _ rfl rfl HY3.out z3m rfl rfl ?_))
 exact bodyPost_ret (y4N _ w.heap.size #[O I k,.string tk] _ (HY3.out.row _) rfl rfl) rfl ⟨rfl,HY.out⟩
theorem y4O (lb o:Nat) (v:Value) (w:World) (hc:w.cell? ⟨lb,o,none⟩=some v) (hf:w.frozen? ⟨lb,o,none⟩=false) :
 Calls prog 176 #[.pointer (some ⟨lb,o,none⟩)] w fun e w'=>e=.returned (.tuple #[])/\w'=w.setCell ⟨lb,o,none⟩ (.slice none 0 0):=by
 go_enter func176,ntmps176
 go_wp2;go_end0;exact ⟨rfl,rfl⟩
end Go.Proofs.YtlncjgnomhpjnabGreatDoor
