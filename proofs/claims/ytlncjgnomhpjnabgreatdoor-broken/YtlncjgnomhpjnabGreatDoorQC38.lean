import Derived.Test.YtlncjgnomhpjnabGreatDoorQC37
import Derived.Lib.AppendZeros
import Derived.Lib.Overlaps
import Derived.Laws.Externs
import Derived.Deep.AppendLies
import Derived.Deep.RegionLaw
import Derived.Test.YtlncjgnomhpjnabGreatDoorQC0
namespace Go.Proofs.YtlncjgnomhpjnabGreatDoor
open Go.Value renaming int → O
open Go.IntKind renaming i64 → I
open Go.Proofs.Tryz (prog)
open Go.RowKit Go.Deep
set_option linter.unusedVariables false
theorem z0n {w:World} {base:Nat} {e:TypeId} {size:Nat} {v:Value} {n:Nat} {xs:List Value} (h:w.ownsRow base e size v n xs) :
 ∃ A cap,v=.slice A n cap/\(0 < n->∃ g,A=some ⟨g,0,none⟩/\g < w.heap.size/\∀ j u,xs[j]?=some u->w.cell? ⟨g,j,none⟩=some u):=by
 rcases h.2 with ⟨rfl,rfl⟩ | ⟨g,cap,cur,rfl,h1,h2,h3,h4,h5,h6⟩
 . exact ⟨none,0,rfl,fun h=>absurd h (Nat.lt_irrefl _)⟩
 . refine ⟨_,cap,rfl,fun _=>⟨g,rfl,(Array.getElem?_eq_some_iff.1 h2).1,fun j u hj=>?_⟩⟩
   rw [← h6] at hj;have hlt:j < n * size:=by
    have:=(List.getElem?_eq_some_iff.1 hj).1;simp at this;omega
   rw [List.getElem?_take_of_lt hlt] at hj;simp [World.cell?,h2,← hj]
theorem z1m {w w':World} {b i:Nat} (h:w'.heap[b]?=w.heap[b]?):w'.cell? ⟨b,i,none⟩=w.cell? ⟨b,i,none⟩:=by simp [World.cell?,h]
theorem z7k {k:Nat}:∀ {l:List Nat} {i:Nat},i<=l.length->(∀ t (h:t < l.length),t < i->l[t] < k)->(∀ t (h:t < l.length),i<=t->¬ l[t] < k)->l.countP (fun x=>decide (x < k))=i
 | [],i,hi,_,_=>by simp at hi;simp [hi]
 | a :: r,0,_,_,h2=>by
  rw [List.countP_eq_zero];intro x hx;obtain ⟨t,ht,rfl⟩:=List.getElem_of_mem hx
  simpa using h2 t ht (Nat.zero_le _)
 | a :: r,i+1,hi,h1,h2=>by
  have ha:a < k:=h1 0 (by simp) (Nat.succ_pos _);rw [List.countP_cons_of_pos (by simpa using ha),z7k (by simpa using hi) (fun t ht h=>h1 (t+1) (by simpa using ht) (by omega)) (fun t ht h=>h2 (t+1) (by simpa using ht) (by omega))]
set_option linter.unusedSimpArgs false in
set_option maxHeartbeats 2000000 in
theorem y2H (T:Nat->ByteArray) (l:List Nat) (k:Nat) (t:ByteArray) (base:Nat) (sv:Value) (w:World) (hsv:w.ownsRow base 149 2 sv l.length (shC T l)) (hsort:l.Pairwise (· < ·)) (hl:l.length<=1000) :
 Calls prog 400 #[sv,.agg #[O I k,.string t],.func (.func 401) #[] #[]] w fun e w'=>(∃ b,e=.returned (.tuple #[O I (l.countP (fun x=>decide (x < k)):Nat),.bool b]))/\Below w.heap.size w w':=by
 obtain ⟨A,cap,rfl,hA⟩:=z0n hsv;have HA:=zZ hA;have HLC:=zZ (fun (x:Int) (s:ByteArray) (u:World)=>y2G x k s t u);have HB0:Hid (Below w.heap.size w (w.alloc (.cells #[O I k,.string t] 149))):=zX.alloc zY _;have HX0:=zZ (Bx.new w #[O I k,.string t] 149);have HGET:=zZ (y0F T l);have HS:=zZ hsort;have HCM:=zZ (fun i=>z7k (k:=k) (l:=l) (i:=i));generalize l.countP (fun x=>decide (x < k))=cnt at *;clear hsv hA hsort
 go_enter Tryz.func400,Tryz.ntmps400
 go_wp2
 go_loopw [9,10] (fun s9 s10 wr=>∃ lo hi:Nat,s9=O I lo/\s10=O I hi/\lo<=hi/\hi<=l.length/\Hid (Below (w.alloc (.cells #[O I k,.string t] 149)).heap.size (w.alloc (.cells #[O I k,.string t] 149)) wr)/\Hid ((∀ q (h:q < l.length),q < lo->l[q] < k)/\(∀ q (h:q < l.length),hi<=q->¬ l[q] < k))) (fun s9 s10 _=>(intOf s10).toNat - (intOf s9).toNat)
 case atStart=>exact ⟨0,l.length,rfl,rfl,Nat.zero_le _,Nat.le_refl _,Below.refl _ _,fun q h h1=>absurd h1 (Nat.not_lt_zero q),fun q h h1=>by omega⟩
 case round =>
  obtain ⟨lo,hi,rfl,rfl,hlh,hhl,HB,HI⟩:=hrel
  by_cases hlt:lo < hi
  . obtain ⟨g,rfl,hg,hcell⟩:=HA.out (by omega)
    obtain ⟨m,hm⟩:∃ m,m=(lo+hi) / 2:=⟨_,rfl⟩;have hml:m < l.length:=by omega
    have HCL:Hid (∀ u,Below (w.alloc (.cells #[O I k,.string t] 149)).heap.size (w.alloc (.cells #[O I k,.string t] 149)) u->u.cell? ⟨g,m * 2,none⟩=some (O I (l[m]:Nat))/\u.cell? ⟨g,m * 2+1,none⟩=some (.string (T l[m]))/\u.cell? ⟨w.heap.size,0,none⟩=some (O I k)/\u.cell? ⟨w.heap.size,1,none⟩=some (.string t)):=fun u hu=>by
     have hb2:Below w.heap.size w u:=HB0.out.trans (hu.mono (by simp));have hgl:g < w.heap.size:=hg;refine ⟨?_,?_,(HX0.out.below hu).cell 0,(HX0.out.below hu).cell 1⟩
     . exact (z1m (hb2.block g hgl)).trans (hcell _ _ (HGET.out m hml).1)
     . exact (z1m (hb2.block g hgl)).trans (hcell _ _ (HGET.out m hml).2)
    have hS0:wr.drew.cell? ⟨g,m * 2,none⟩=some (O I (l[m]:Nat))/\wr.drew.cell? ⟨g,m * 2+1,none⟩=some (.string (T l[m]))/\wr.drew.cell? ⟨w.heap.size,0,none⟩=some (O I k)/\wr.drew.cell? ⟨w.heap.size,1,none⟩=some (.string t):=HCL.out wr HB.out;have em:((lo:Int)+(hi:Int)) / 2=(m:Int):=by omega
    have HM:=zZ hm;clear hm hcell;go_wp2_with fail;clear em;generalize hy:l[m]=y at *;have HLY:=zZ (fun u=>HLC.out y (T y) u);have HY:=zZ hy;clear hy HLC
    by_cases hyk:y < k
    . rw [if_pos (by omega)] at HLY
      have HYK:=zZ hyk;clear hyk
      go_region_held3 (fun w'=>w'.cell? ⟨g,m * 2,none⟩=some (O I (y:Nat))/\w'.cell? ⟨g,m * 2+1,none⟩=some (.string (T y))/\w'.cell? ⟨w.heap.size,0,none⟩=some (O I k)/\w'.cell? ⟨w.heap.size,1,none⟩=some (.string t)) (first | with_reducible exact hS0 | with_reducible exact hS1)
       (first
       | (go_at_call 401;refine (HLY.out _).mono ?_;rintro e u ⟨rfl,hb⟩;have hb1:Below (w.alloc (.cells #[O I k,.string t] 149)).heap.size (w.alloc (.cells #[O I k,.string t] 149)) u:=HB.out.trans (Below.mono (⟨hb.os,hb.tape,hb.output,hb.size,hb.block⟩:Below wr.heap.size wr u) HB.out.size);have hS1:=HCL.out u hb1;have HB1:=zZ hb1;clear hb hb1))
      go_wp2
      go_roundw
      case rel =>
       have hm:=HM.out;refine ⟨m+1,hi,by go_num,rfl,by omega,hhl,HB1,fun q h h1=>?_,HI.out.2⟩;have h2:=HYK.out;rw [← HY.out] at h2
       by_cases e:q=m
       . subst e;exact h2
       . exact Nat.lt_trans (List.pairwise_iff_getElem.1 HS.out q m h hml (by omega)) h2
      case measure=>have hm:=HM.out;simp [intOf];omega
    . have hc0:∃ c:Int,¬ c < 0/\(if ((y:Nat):Int) < ((k:Nat):Int) then (-1:Int) else if ((k:Nat):Int) < ((y:Nat):Int) then 1 else 0)=c:=⟨_,by rw [if_neg (by omega)];split <;> omega,rfl⟩
      obtain ⟨c,hc,hce⟩:=hc0;rw [hce] at HLY;have HYK:=zZ hyk;clear hyk hce
      go_region_held3 (fun w'=>w'.cell? ⟨g,m * 2,none⟩=some (O I (y:Nat))/\w'.cell? ⟨g,m * 2+1,none⟩=some (.string (T y))/\w'.cell? ⟨w.heap.size,0,none⟩=some (O I k)/\w'.cell? ⟨w.heap.size,1,none⟩=some (.string t)) (first | with_reducible exact hS0 | with_reducible exact hS1)
       (first
       | (go_at_call 401;refine (HLY.out _).mono ?_;rintro e u ⟨rfl,hb⟩;have hb1:Below (w.alloc (.cells #[O I k,.string t] 149)).heap.size (w.alloc (.cells #[O I k,.string t] 149)) u:=HB.out.trans (Below.mono (⟨hb.os,hb.tape,hb.output,hb.size,hb.block⟩:Below wr.heap.size wr u) HB.out.size);have hS1:=HCL.out u hb1;have HB1:=zZ hb1;clear hb hb1))
      go_wp2
      go_roundw
      case rel =>
       have hm:=HM.out;refine ⟨lo,m,rfl,by go_num,by omega,by omega,HB1,HI.out.1,fun q h h1=>?_⟩;have h2:=HYK.out;rw [← HY.out] at h2
       by_cases e:q=m
       . subst e;exact h2
       . have:=List.pairwise_iff_getElem.1 HS.out m q hml h (by omega)
         omega
      case measure=>have hm:=HM.out;simp [intOf];omega
  . have e:hi=lo:=by omega
    subst e;have HCNT:Hid (cnt=hi):=HCM.out hi hhl HI.out.1 HI.out.2;have HBZ:Hid (Below w.heap.size w wr):=HB0.out.trans (HB.out.mono (by simp))
    by_cases hn:hi < l.length
    . obtain ⟨g,rfl,hg,hcell⟩:=HA.out (by omega)
      have HCL:Hid (∀ u,Below (w.alloc (.cells #[O I k,.string t] 149)).heap.size (w.alloc (.cells #[O I k,.string t] 149)) u->u.cell? ⟨g,hi * 2,none⟩=some (O I (l[hi]:Nat))/\u.cell? ⟨g,hi * 2+1,none⟩=some (.string (T l[hi]))/\u.cell? ⟨w.heap.size,0,none⟩=some (O I k)/\u.cell? ⟨w.heap.size,1,none⟩=some (.string t)):=fun u hu=>by
       have hb2:Below w.heap.size w u:=HB0.out.trans (hu.mono (by simp));have hgl:g < w.heap.size:=hg;refine ⟨?_,?_,(HX0.out.below hu).cell 0,(HX0.out.below hu).cell 1⟩
       . exact (z1m (hb2.block g hgl)).trans (hcell _ _ (HGET.out hi hn).1)
       . exact (z1m (hb2.block g hgl)).trans (hcell _ _ (HGET.out hi hn).2)
      have hS0:wr.drew.cell? ⟨g,hi * 2,none⟩=some (O I (l[hi]:Nat))/\wr.drew.cell? ⟨g,hi * 2+1,none⟩=some (.string (T l[hi]))/\wr.drew.cell? ⟨w.heap.size,0,none⟩=some (O I k)/\wr.drew.cell? ⟨w.heap.size,1,none⟩=some (.string t):=HCL.out wr HB.out;generalize hy:l[hi]=y at *;have HLY:=zZ (fun u=>HLC.out y (T y) u);clear hy HLC hcell;generalize (if ((y:Nat):Int) < ((k:Nat):Int) then (-1:Int) else if ((k:Nat):Int) < ((y:Nat):Int) then 1 else 0)=c at *;go_wp2_with fail;refine wp_region_held_drew (S:=fun w'=>w'.cell? ⟨g,hi * 2,none⟩=some (O I (y:Nat))/\w'.cell? ⟨g,hi * 2+1,none⟩=some (.string (T y))/\w'.cell? ⟨w.heap.size,0,none⟩=some (O I k)/\w'.cell? ⟨w.heap.size,1,none⟩=some (.string t)) (by kernel_rfl) hS0 (fun hHeld=>?_);refine tq (i:=0) rfl (by rfl) (by assumption) ?_;try simp only [q1,q2,q3,Act.put,q4,q5,q6]
      refine tq (i:=1) rfl (by rfl) (by assumption) ?_;try simp only [q1,q2,q3,Act.put,q4,q5,q6]
      refine tq (i:=2) rfl (by rfl) (by assumption) ?_;try simp only [q1,q2,q3,Act.put,q4,q5,q6]
      refine tq (i:=3) rfl (by rfl) (by assumption) ?_;try simp only [q1,q2,q3,Act.put,q4,q5,q6]
      refine tq (i:=4) rfl (by rfl) (by assumption) ?_;try simp only [q1,q2,q3,Act.put,q4,q5,q6]
      refine tq (i:=5) rfl (by rfl) (by assumption) ?_;try simp only [q1,q2,q3,Act.put,q4,q5,q6]
      refine tq (i:=6) rfl (by rfl) (by assumption) ?_;try simp only [q1,q2,q3,Act.put,q4,q5,q6]
      refine tq (i:=7) rfl (by rfl) (by assumption) ?_;try simp only [q1,q2,q3,Act.put,q4,q5,q6]
      refine tq (i:=8) rfl (by rfl) (by assumption) ?_;try simp only [q1,q2,q3,Act.put,q4,q5,q6]
      refine tq (i:=9) rfl (by rfl) (by assumption) ?_;try simp only [q1,q2,q3,Act.put,q4,q5,q6]
      refine tq (i:=10) rfl (by rfl) (by assumption) ?_;try simp only [q1,q2,q3,Act.put,q4,q5,q6]
      refine wpAnyH_ready (rs:=[11]) (by kernel_rfl) (by simp) ?_;refine AllReadyH.cons rfl (fun K hK=>?_) (AllReadyH.nil)
      go_simp
      go_at_call 401
      refine (HLY.out _).mono ?_;rintro e u ⟨rfl,hb⟩;have hb1:Below (w.alloc (.cells #[O I k,.string t] 149)).heap.size (w.alloc (.cells #[O I k,.string t] 149)) u:=HB.out.trans (Below.mono (⟨hb.os,hb.tape,hb.output,hb.size,hb.block⟩:Below wr.heap.size wr u) HB.out.size);have hS1:=HCL.out u hb1;have HBY:Hid (Below w.heap.size w u):=HB0.out.trans (hb1.mono (by simp));clear hb hb1;go_wp2_with fail;refine hK.out _ _ hS1 (fun hHeld=>?_);clear hK K
      try simp only [q1,q2,q3,Act.put,q4,q5,q6]
      refine tq (i:=12) rfl (by rfl) (by assumption) ?_;try simp only [q1,q2,q3,Act.put,q4,q5,q6]
      refine tq (i:=13) rfl (by rfl) (by assumption) ?_;try simp only [q1,q2,q3,Act.put,q4,q5,q6]
      refine tq (i:=14) rfl (by rfl) (by assumption) ?_;try simp only [q1,q2,q3,Act.put,q4,q5,q6]
      refine tq (i:=15) rfl (by rfl) (by assumption) ?_;try simp only [q1,q2,q3,Act.put,q4,q5,q6]
      refine wpAnyH_done (by kernel_rfl) ?_ _;go_wp2;go_ret2;have hcn:=HCNT.out;subst hcn;exact ⟨⟨_,rfl⟩,HBY.out⟩
    . have e:hi=l.length:=by omega
      subst e;have hS0:True:=trivial;go_wp2_with fail;refine wp_region_held_drew (S:=fun w'=>True) (by kernel_rfl) hS0 (fun hHeld=>?_);refine tq (i:=0) rfl (by rfl) (by assumption) ?_;try simp only [q1,q2,q3,Act.put,q4,q5,q6]
      refine tq (i:=1) rfl (by rfl) (by assumption) ?_;try simp only [q1,q2,q3,Act.put,q4,q5,q6]
      refine tq (i:=2) rfl (by rfl) (by assumption) ?_;try simp only [q1,q2,q3,Act.put,q4,q5,q6]
      refine tq (i:=3) rfl (by rfl) (by assumption) ?_;try simp only [q1,q2,q3,Act.put,q4,q5,q6]
      refine tq (i:=4) rfl (by rfl) (by assumption) ?_;try simp only [q1,q2,q3,Act.put,q4,q5,q6]
      refine tk (i:=5) (v:=undef) rfl (fun _ _ _ h=>h) (Or.inr ⟨by rfl,rfl⟩) (by assumption) ?_;try simp only [q1,q2,q3,Act.put,q4,q5,q6]
      refine tk (i:=6) (v:=undef) rfl (fun _ _ _ h=>h) (Or.inr ⟨by rfl,rfl⟩) (by assumption) ?_;try simp only [q1,q2,q3,Act.put,q4,q5,q6]
      refine tk (i:=7) (v:=undef) rfl (fun _ _ _ h=>h) (Or.inr ⟨by rfl,rfl⟩) (by assumption) ?_;try simp only [q1,q2,q3,Act.put,q4,q5,q6]
      refine tk (i:=8) (v:=undef) rfl (fun _ _ _ h=>h) (Or.inr ⟨by rfl,rfl⟩) (by assumption) ?_;try simp only [q1,q2,q3,Act.put,q4,q5,q6]
      refine tk (i:=9) (v:=undef) rfl (fun _ _ _ h=>h) (Or.inr ⟨by rfl,rfl⟩) (by assumption) ?_;try simp only [q1,q2,q3,Act.put,q4,q5,q6]
      refine tk (i:=10) (v:=undef) rfl (fun _ _ _ h=>h) (Or.inr ⟨by rfl,rfl⟩) (by assumption) ?_;try simp only [q1,q2,q3,Act.put,q4,q5,q6]
      refine tk (i:=11) (v:=undef) rfl (fun _ _ _ h=>h) (Or.inr ⟨by rfl,rfl⟩) (by assumption) ?_;try simp only [q1,q2,q3,Act.put,q4,q5,q6]
      refine tk (i:=12) (v:=undef) rfl (fun _ _ _ h=>h) (Or.inr ⟨by rfl,rfl⟩) (by assumption) ?_;try simp only [q1,q2,q3,Act.put,q4,q5,q6]
      refine tq (i:=13) rfl (by rfl) (by assumption) ?_;try simp only [q1,q2,q3,Act.put,q4,q5,q6]
      refine tq (i:=14) rfl (by rfl) (by assumption) ?_;try simp only [q1,q2,q3,Act.put,q4,q5,q6]
      refine tq (i:=15) rfl (by rfl) (by assumption) ?_;try simp only [q1,q2,q3,Act.put,q4,q5,q6]
      refine wpAnyH_done (by kernel_rfl) ?_ _;go_wp2;go_ret2;have hcn:=HCNT.out;subst hcn;exact ⟨⟨_,rfl⟩,HBZ.out.drew⟩
theorem y8C:(prog.info? 149).map (fun i=>(i.zero,i.size,i.bytes))=some (some (.agg #[O I 0,.string ⟨#[]⟩]),2,24):=by kernel_rfl
theorem z4K:∃ i,prog.info? 149=some i/\i.zero=some (.agg #[O I 0,.string ⟨#[]⟩])/\i.size=2/\i.bytes=24:=by
 have h:=y8C;cases hq:prog.info? 149 with
 | none=>rw [hq] at h;cases h
 | some i =>
  rw [hq] at h;simp only [Option.map_some,Option.some.injEq,Prod.mk.injEq] at h;exact ⟨i,rfl,h.1,h.2.1,h.2.2⟩
theorem z2M:(prog.info? 149).map (·.size)=some 2:=by
 obtain ⟨i,h,-,h2,-⟩:=z4K;rw [h,Option.map_some,h2]
theorem z9D {P:Program} (w:World) (t t' ty e e':TypeId) (i:TypeInfo) (hi:P.info? e=some i) (ht:P.underlying t=some (.slice e)) (ht':P.underlying t'=some (.slice e')) (A B:Option Addr) (n c m c':Nat):(Builtin.append_ #[t,t'] ty #[.slice A n c,.slice B m c']).run P w=(Builtin.append_ #[t,t] ty #[.slice A n c,.slice B m c']).run P w:=by
 simp [Builtin.append_,run_underlying ht,run_underlying ht',sizeOf,typeInfo,hi]
structure Laid (T:Nat->ByteArray) (base:Nat) (sv sv':Value) (l:List Nat) (w w':World):Prop where
 own:w'.ownsRow base 149 2 sv' l.length (shC T l)
 edit:Edit (fun b=>sv.ownBlock=some b) w w'
 new:∀ g,sv'.ownBlock=some g->sv.ownBlock=some g∨w.heap.size<=g
set_option maxRecDepth 100000 in
theorem y2I (T:Nat->ByteArray) (l:List Nat) (k base:Nat) (sv:Value) (w:World) (vb:Nat) (hsv:w.ownsRow base 149 2 sv l.length (shC T l)) (hbase:base<=w.heap.size) (hl:l.length<=500) (hv:Bx w vb 149 #[O I k,.string (T k)]) :
 Calls prog 403 #[sv,O I l.length,.slice (some ⟨vb,0,none⟩) 1 1] w fun e w'=>∃ sv',e=.returned sv'/\Laid T base sv sv' (l ++ [k]) w w':=by
 obtain ⟨A,cap0,rfl,-⟩:=z0n hsv;have hr:∀ ty,∃ g cap w',(Builtin.append_ #[153,152] ty #[.slice A l.length cap0,.slice (some ⟨vb,0,none⟩) 1 1]).run prog w=.ok (.slice (some ⟨g,0,none⟩) (l.length+1) cap) w'/\Laid T base (.slice A l.length cap0) (.slice (some ⟨g,0,none⟩) (l.length+1) cap) (l ++ [k]) w w':=by
  intro ty;obtain ⟨i0,hi0,hz0,hz1,hz2⟩:=z4K;obtain ⟨g,cap,w',hr,h2,h3,h4,h5⟩:=run_append_lies (P:=prog) w 153 ty base 149 i0 (.agg #[O I 0,.string ⟨#[]⟩]) 2 24 Tryz.underlying153 hi0 hz0 hz1 hz2 rfl (by omega) (.slice A l.length cap0) l.length (shC T l) hsv ⟨vb,0,none⟩ 1 1 [O I k,.string (T k)] rfl
   (fun j u hj=>by
    match j,hj with
    | 0,hj=>cases hj;exact hv.cell 0
    | 1,hj=>cases hj;exact hv.cell 1
    | j+2,hj=>cases hj) (fun u hu=>by simp at hu;rcases hu with rfl | rfl <;> rfl) (by omega) (by simp only [maxLen];omega) (by omega) hbase _ rfl
  refine ⟨g,cap,w',by rw [z9D w _ _ _ _ _ i0 hi0 Tryz.underlying153 Tryz.underlying152];exact hr,⟨?_,⟨h3.os,h3.tape,h3.output,h3.size,fun b hb hS=>h3.block b hb fun hh=>hS hh.symm⟩,fun q hq=>?_⟩⟩
  . rw [z8d,List.length_append]
    exact h2
  . cases hq
    rcases h4 with h4 | h4
    . exact Or.inl h4
    . exact Or.inr (Nat.le_of_eq h4.symm)
 obtain ⟨g,cap1,w1,hr1,hla⟩:=hr 153;have HR:=zZ hr1;have HL:=zZ hla;clear hr hr1 hla hsv hv
 by_cases hc:cap0=l.length
 . subst hc
   go_enter Tryz.func403,Tryz.ntmps403
   go_wp2_with (at_builtin;refine Lib.wpList_append_run w rfl (.tmp 23) (.tmp 24) 153 152 rfl _ _ rfl rfl (.slice (some ⟨g,0,none⟩) (l.length+1) cap1) w1 HR.out ?_)
   go_ret;exact ⟨_,rfl,HL.out⟩
 . go_enter Tryz.func403,Tryz.ntmps403
   go_wp2_with (at_builtin;refine Lib.wpList_append_run w rfl (.tmp 23) (.tmp 24) 153 152 rfl _ _ rfl rfl (.slice (some ⟨g,0,none⟩) (l.length+1) cap1) w1 HR.out ?_)
   go_ret;exact ⟨_,rfl,HL.out⟩
theorem y1N {P:Program} {ops:Array Oper} {o:Oper} {a:Act} {w w':World} {K:Act->World->Prop} {Q:Exit->Act->World->Prop} {E:Prop}
 (hg:o.guard=none) (d s:Operand) (t t':TypeId) (hop:o.op=Op.call { callee:=Callee.builtin Builtin.copy,args:=#[d,s],argTypes:=#[t,t'] })
 (v u v':Value) (hd:a.eval d=v) (hs:a.eval s=u) (hr:(Builtin.copy_ #[t,t'] o.type #[v,u]).run P w=.ok v' w') (hK:K (a.put o.dst v') w') :
 if Region.wanted o (yielded ops a.tmps)=true then Oper.wp P o a w K Q else E:=by
 have hw:Region.wanted o (yielded ops a.tmps)=true:=by simp [Region.wanted,hg]
 rw [if_pos hw];unfold Oper.wp;simp [execOp,hop,resolve,invoke,builtin,hd,hs,hr,Result.andThen];exact hK
theorem z1B (w:World) (g:Nat) (cur cur':Array Value) (t:TypeId) (h:w.heap[g]?=some (.cells cur t (0,0))):(w.setRow g cur').heap[g]?=some (.cells cur' t (0,0)):=setRow_heap w g cur cur' t (0,0) h
theorem y1O {T:Nat->ByteArray} {l:List Nat} {cur:List Value} {i:Nat} (h:cur.take (l.length * 2)=shC T l) (hi:i<=l.length):cur.take (i * 2)=shC T (l.take i):=by
 rw [← y1L,← h,List.take_take,Nat.min_eq_left (by omega)]
theorem z6o {T:Nat->ByteArray} {l:List Nat} {cur:List Value} (h:cur.take (l.length * 2)=shC T l) (i j:Nat) (v:Value) (hj:(shC T (l.drop i))[j]?=some v):cur[i * 2+j]?=some v:=by
 rw [← y1M,← h,List.getElem?_drop] at hj;have hlt:=(List.getElem?_eq_some_iff.1 hj).1;rw [List.length_take] at hlt;rw [List.getElem?_take_of_lt (by omega)] at hj;exact hj
set_option maxRecDepth 100000 in
set_option maxHeartbeats 2000000 in
theorem z9E (T:Nat->ByteArray) (l:List Nat) (i k base g cap:Nat) (cur:Array Value) (w:World) (vb:Nat) (hb:base<=g) (hg:w.heap[g]?=some (.cells cur 149 (0,0))) (hcap:l.length+1<=cap) (hmx:cap<=maxLen) (hsz:cur.size=cap * 2)
 (htk:cur.toList.take (l.length * 2)=shC T l) (hi:i < l.length) (hl:l.length<=500) (hv:Bx w vb 149 #[O I k,.string (T k)]) (hne:vb ≠ g) :
 Calls prog 403 #[.slice (some ⟨g,0,none⟩) l.length cap,O I i,.slice (some ⟨vb,0,none⟩) 1 1] w fun e w'=>∃ sv',e=.returned sv'/\Laid T base (.slice (some ⟨g,0,none⟩) l.length cap) sv' (l.take i ++ k :: l.drop i) w w':=by
 have hdl:(shC T (l.drop i)).length=(l.length - i) * 2:=by rw [z1k,List.length_drop]
 obtain ⟨cur1,hc1⟩:∃ c:Array Value,c=(cur.toList.take ((i+1) * 2) ++ shC T (l.drop i) ++ cur.toList.drop ((i+1) * 2+(shC T (l.drop i)).length)).toArray:=⟨_,rfl⟩;obtain ⟨cur2,hc2⟩:∃ c:Array Value,c=(cur1.toList.take (i * 2) ++ ([O I k,.string (T k)]:List Value) ++ cur1.toList.drop (i * 2+2)).toArray:=⟨_,rfl⟩;have hov:∀ lb cb,(callFunc 405 #[.slice (some ⟨vb,0,none⟩) 1 1,.slice (some ⟨g,(i+1) * 2,none⟩) lb cb]).run prog w=.ok (.value (.bool false)) w:=fun lb cb=>by
  rw [run_callFunc_extern Tryz.func405 (by kernel_rfl) (by kernel_rfl) (by kernel_rfl) (e:=Extern.SlicesOverlaps.overlaps #[152,152] #[4]) (by kernel_rfl),
   Lib.run_overlaps_apart w 152 4 149 Tryz.underlying152 2 (fun w=>by obtain ⟨i0,h0,-,h2,-⟩:=z4K;simp [sizeOf,typeInfo,h0,h2]) ⟨vb,0,none⟩ ⟨g,(i+1) * 2,none⟩ 1 1 lb cb hne 149 149 2 (cap * 2)
    (by simp [World.shape?,show w.heap[vb]?=_ from hv]) (by simp [World.shape?,hg,hsz]) (by omega) (hv.free 0) (hv.free 2)]
  rfl
 have hcp1:∀ ty dc sc,(Builtin.copy_ #[153,153] ty #[.slice (some ⟨g,(i+1) * 2,none⟩) (l.length - i) dc,.slice (some ⟨g,i * 2,none⟩) (l.length+1 - i) sc]).run prog w.drew =   .ok (goInt ((l.length - i:Nat):Int)) (w.drew.setRow g cur1):=fun ty dc sc=>by
  have h1:=z1W (P:=prog) w.drew 153 153 ty 149 2 g ((i+1) * 2) (l.length - i) dc ⟨g,i * 2,none⟩ (l.length+1 - i) sc cur 149 (shC T (l.drop i)) Tryz.underlying153 z2M hg
   (by rw [hdl,show Nat.min (l.length+1 - i) (l.length - i)=l.length - i from Nat.min_eq_right (by omega)])
   (fun j v hj=>by
    rw [show (⟨g,i * 2,none⟩:Addr).add j=⟨g,i * 2+j,none⟩ by unfold Addr.add;split <;> simp_all]
    show w.cell? _=_
    have:=z6o htk i j v hj;simp [World.cell?,hg]
    simpa using this) (by rw [hdl,hsz];omega) (z8e T _)
  rw [← hc1,show Nat.min (l.length+1 - i) (l.length - i)=l.length - i from Nat.min_eq_right (by omega)] at h1;exact h1
 have hz1:cur1.size=cap * 2:=by
  rw [hc1];simp [hsz,hdl];omega
 have hg1:(w.drew.setRow g cur1).heap[g]?=some (.cells cur1 149 (0,0)):=z1B w.drew g cur cur1 _ hg;have hv1:Bx (w.drew.setRow g cur1) vb 149 #[O I k,.string (T k)]:=by
  have e:Edit (·=g) w (w.drew.setRow g cur1):=⟨rfl,rfl,rfl,by simp,fun q hq hS=>by rw [setRow_other w.drew g q cur1 hS];rfl⟩;exact hv.edit e hne
 have hcp2:∀ ty dc,(Builtin.copy_ #[153,152] ty #[.slice (some ⟨g,i * 2,none⟩) (l.length+1 - i) dc,.slice (some ⟨vb,0,none⟩) 1 1]).run prog (w.drew.setRow g cur1)=.ok (goInt 1) ((w.drew.setRow g cur1).setRow g cur2):=fun ty dc=>by
  have h1:=z1W (P:=prog) (w.drew.setRow g cur1) 153 152 ty 149 2 g (i * 2) (l.length+1 - i) dc ⟨vb,0,none⟩ 1 1 cur1 149 [O I k,.string (T k)] Tryz.underlying153 z2M hg1
   (by rw [show Nat.min 1 (l.length+1 - i)=1 from Nat.min_eq_left (by omega)];rfl)
   (fun j v hj=>by
    match j,hj with
    | 0,hj=>cases hj;exact hv1.cell 0
    | 1,hj=>cases hj;exact hv1.cell 1
    | j+2,hj=>cases hj) (by rw [hz1];simp;omega) (fun u hu=>by simp at hu;rcases hu with rfl | rfl <;> rfl)
  rw [show Nat.min 1 (l.length+1 - i)=1 from Nat.min_eq_left (by omega)] at h1;rw [hc2];exact h1
 have HL:Hid (Laid T base (.slice (some ⟨g,0,none⟩) l.length cap) (.slice (some ⟨g,0,none⟩) (l.length+1) cap) (l.take i ++ k :: l.drop i) w ((w.drew.setRow g cur1).setRow g cur2)):=by
  have hlen:(l.take i ++ k :: l.drop i).length=l.length+1:=by simp;omega
  refine ⟨⟨by rw [z1k,hlen],Or.inr ⟨g,cap,cur2,by rw [hlen],hb,z1B _ g cur1 cur2 _ hg1,by rw [hlen];exact hcap,hmx,?_,?_⟩⟩,⟨rfl,rfl,rfl,by simp,fun q hq hS=>?_⟩,fun q hq=>Or.inl hq⟩
  . rw [hc2]
    simp [hz1];omega
  . have e1:cur1.toList.take (i * 2)=shC T (l.take i):=by
      rw [hc1];simp only [List.append_assoc];rw [List.take_append_of_le_length (by simp [hsz];omega),List.take_take,Nat.min_eq_left (by omega)];exact y1O htk (by omega)
    have e2:cur1.toList.drop (i * 2+2)=shC T (l.drop i) ++ cur.toList.drop ((i+1) * 2+(shC T (l.drop i)).length):=by
     rw [hc1];simp only [List.append_assoc];rw [List.drop_append_of_le_length (by simp [hsz];omega),List.drop_of_length_le (by simp;omega),List.nil_append]
    rw [hc2,e1,e2,hlen];rw [show shC T (l.take i ++ k :: l.drop i)=shC T (l.take i) ++ [O I k,.string (T k)] ++ shC T (l.drop i) by rw [z8d];simp [shC]];rw [← List.append_assoc,List.take_append_of_le_length (by simp [z1k];omega),List.take_of_length_le (by simp [z1k];omega)]
  . have:q ≠ g:=fun hh=>hS (by rw [hh];rfl)
    rw [setRow_other _ g q cur2 this,setRow_other _ g q cur1 this]
    rfl
 have HOV:=zZ hov;have HC1:=zZ hcp1;have HC2:=zZ hcp2;clear hov hcp1 hcp2 hz1 hg1 hv1 hc1 hc2 hdl hv hg htk hsz;have hw1:IntKind.i64.wrap ((i:Int)+1)=((i+1:Nat):Int):=by rw [IntKind.wrap_i64];omega
 have hw2:IntKind.i64.wrap ((l.length:Int)+1)=((l.length+1:Nat):Int):=by rw [IntKind.wrap_i64];omega
 have hq1:¬ (cap=i):=by omega
 have hq2:¬ (cap=i+1):=by omega
 have hq3:¬ ((i:Int)=(l.length:Int)):=by omega
 have hq5:(0:Int)<=(i:Int)+1:=by omega
 have hq6:i<=l.length:=by omega
 have hq7:(i:Int)<=(l.length:Int)+1:=by omega
 have hq4:l.length+1 - (i+1)=l.length - i:=by omega
 go_enter Tryz.func403,Tryz.ntmps403
 go_wp2_with (simp only [HOV.out])
 go_region_law (first | (refine y1N rfl _ _ 153 153 rfl (.slice (some ⟨g,(i+1) * 2,none⟩) (l.length - i) (cap - (i+1))) (.slice (some ⟨g,i * 2,none⟩) (l.length+1 - i) (cap - i)) _ (by simp [Act.eval,Act.put]) (by simp [Act.eval,Act.put]) (HC1.out _ _ _) ?_))
 all_goals
  go_wp2_with (simp only [HC2.out])
  go_ret;exact ⟨_,rfl,HL.out⟩
theorem y7U (z:Array Value) (n:Nat):(Builtin.zeroCells z n).size=n * z.size:=by simp [Builtin.zeroCells]
set_option maxRecDepth 100000 in
set_option maxHeartbeats 2000000 in
theorem y0H (T:Nat->ByteArray) (l:List Nat) (i k base g:Nat) (cur:Array Value) (w:World) (vb:Nat) (hb:base<=w.heap.size) (hg:w.heap[g]?=some (.cells cur 149 (0,0))) (hsz:cur.size=l.length * 2)
 (htk:cur.toList.take (l.length * 2)=shC T l) (hi:i < l.length) (hl:l.length<=500) (hv:Bx w vb 149 #[O I k,.string (T k)]) :
 Calls prog 403 #[.slice (some ⟨g,0,none⟩) l.length l.length,O I i,.slice (some ⟨vb,0,none⟩) 1 1] w fun e w'=>∃ sv',e=.returned sv'/\Laid T base (.slice (some ⟨g,0,none⟩) l.length l.length) sv' (l.take i ++ k :: l.drop i) w w':=by
 have hdl:(shC T (l.drop i)).length=(l.length - i) * 2:=by rw [z1k,List.length_drop]
 obtain ⟨i0,hi0,hz0,hz1,hz2⟩:=z4K;obtain ⟨cp,hcp⟩:∃ c,c=grownCap w (l.length+1) l.length 149:=⟨_,rfl⟩;have hcp1:l.length+1<=cp:=by rw [hcp];exact grownCap_ge _ _ _ _
 have hcp2:cp<=maxLen:=by rw [hcp];exact grownCap_le_maxLen _ _ _ _ (by simp only [maxLen];omega)
 obtain ⟨Z,hZ⟩:∃ Z:Array Value,Z=#[O I 0,.string ⟨#[]⟩]:=⟨_,rfl⟩;have hZs:Z.size=2:=by rw [hZ];rfl
 obtain ⟨cur1,hc1⟩:∃ c:Array Value,c=(shC T (l.take i)).toArray ++ Builtin.zeroCells Z (l.length+1 - i) ++ Builtin.zeroCells Z (cp - (l.length+1)):=⟨_,rfl⟩;obtain ⟨H,hH⟩:∃ H,H=w.heap.size:=⟨_,rfl⟩;obtain ⟨W1,hW1⟩:∃ W,W=w.drew.alloc (.cells cur1 149):=⟨_,rfl⟩;have hap:∀ ty,(Builtin.append_ #[153,3] ty #[.slice (some ⟨g,0,none⟩) i l.length,O I ((l.length:Int)+1 - (i:Int))]).run prog w=.ok (.slice (some ⟨H,0,none⟩) (l.length+1) cp) W1:=fun ty=>by
  have h1:=z4J (P:=prog) w 153 3 ty 149 i0 (.agg #[O I 0,.string ⟨#[]⟩]) .i64 .i64 Tryz.underlying153 Tryz.underlying3 hi0 hz0 2 hz1 g i l.length (shC T (l.take i)) (by rw [z1k,List.length_take,Nat.min_eq_left (by omega)])
   (fun j v hj=>by
    rw [← y1O htk (by omega)] at hj;have hlt:=(List.getElem?_eq_some_iff.1 hj).1;rw [List.length_take] at hlt;rw [List.getElem?_take_of_lt (by omega)] at hj;simp [World.cell?,hg]
    simpa using hj) (l.length+1 - i) (by omega) (by omega) (by omega) (by omega) (by omega)
  rw [show i+(l.length+1 - i)=l.length+1 by omega,← hcp,show (Value.agg #[O I 0,.string ⟨#[]⟩]).cells=Z by rw [hZ];rfl,← hc1,← hW1,← hH] at h1;rw [show (l.length:Int)+1 - (i:Int)=((l.length+1 - i:Nat):Int) by omega];exact h1
 have hg1:W1.heap[H]?=some (.cells cur1 149 (0,0)):=by rw [hW1,hH];exact (Bx.new w.drew cur1 149)
 have hz3:cur1.size=cp * 2:=by rw [hc1];simp [y7U,hZs,z1k];omega
 have ht1:cur1.toList.take (i * 2)=shC T (l.take i):=by
  rw [hc1];simp only [Array.toList_append,List.append_assoc];rw [List.take_append_of_le_length (by simp [z1k];omega),List.take_of_length_le (by simp [z1k];omega)]
 have e1:Edit (fun _=>False) w W1:=by rw [hW1];exact ((Edit.refl _ w).drewN 1).alloc _
 have hv1:Bx W1 vb 149 #[O I k,.string (T k)]:=hv.edit e1 id;have hgl:g < w.heap.size:=(Array.getElem?_eq_some_iff.1 hg).1;have hvl:vb < w.heap.size:=hv.lt;obtain ⟨cur2,hc2⟩:∃ c:Array Value,c=(cur1.toList.take (i * 2) ++ ([O I k,.string (T k)]:List Value) ++ cur1.toList.drop (i * 2+2)).toArray:=⟨_,rfl⟩;have hcpA:∀ ty dc,(Builtin.copy_ #[153,152] ty #[.slice (some ⟨H,i * 2,none⟩) (l.length+1 - i) dc,.slice (some ⟨vb,0,none⟩) 1 1]).run prog W1=.ok (goInt 1) (W1.setRow H cur2):=fun ty dc=>by
  have h1:=z1W (P:=prog) W1 153 152 ty 149 2 H (i * 2) (l.length+1 - i) dc ⟨vb,0,none⟩ 1 1 cur1 149 [O I k,.string (T k)] Tryz.underlying153 z2M hg1
   (by rw [show Nat.min 1 (l.length+1 - i)=1 from Nat.min_eq_left (by omega)];rfl)
   (fun j v hj=>by
    match j,hj with
    | 0,hj=>cases hj;exact hv1.cell 0
    | 1,hj=>cases hj;exact hv1.cell 1
    | j+2,hj=>cases hj) (by rw [hz3];simp;omega) (fun u hu=>by simp at hu;rcases hu with rfl | rfl <;> rfl)
  rw [show Nat.min 1 (l.length+1 - i)=1 from Nat.min_eq_left (by omega)] at h1;rw [hc2];exact h1
 have hz4:cur2.size=cp * 2:=by rw [hc2];simp [hz3];omega
 have hg2:(W1.setRow H cur2).heap[H]?=some (.cells cur2 149 (0,0)):=z1B W1 H cur1 cur2 _ hg1;have hg3:(W1.setRow H cur2).heap[g]?=some (.cells cur 149 (0,0)):=by rw [setRow_other _ _ _ _ (by omega),e1.block g hgl id];exact hg
 obtain ⟨cur3,hc3⟩:∃ c:Array Value,c=(cur2.toList.take ((i+1) * 2) ++ shC T (l.drop i) ++ cur2.toList.drop ((i+1) * 2+(shC T (l.drop i)).length)).toArray:=⟨_,rfl⟩;have hcpB:∀ ty dc sc,(Builtin.copy_ #[153,153] ty #[.slice (some ⟨H,(i+1) * 2,none⟩) (l.length - i) dc,.slice (some ⟨g,i * 2,none⟩) (l.length - i) sc]).run prog (W1.setRow H cur2).drew=.ok (goInt ((l.length - i:Nat):Int)) ((W1.setRow H cur2).drew.setRow H cur3):=fun ty dc sc=>by
  have h1:=z1W (P:=prog) (W1.setRow H cur2).drew 153 153 ty 149 2 H ((i+1) * 2) (l.length - i) dc ⟨g,i * 2,none⟩ (l.length - i) sc cur2 149 (shC T (l.drop i)) Tryz.underlying153 z2M hg2
   (by rw [hdl,show Nat.min (l.length - i) (l.length - i)=l.length - i from Nat.min_self _])
   (fun j v hj=>by
    rw [show (⟨g,i * 2,none⟩:Addr).add j=⟨g,i * 2+j,none⟩ by unfold Addr.add;split <;> simp_all]
    show (W1.setRow H cur2).cell? _=_
    have:=z6o htk i j v hj;simp [World.cell?,hg3]
    simpa using this) (by rw [hdl,hz4];omega) (z8e T _)
  rw [← hc3,show Nat.min (l.length - i) (l.length - i)=l.length - i from Nat.min_self _] at h1;exact h1
 have HL:Hid (Laid T base (.slice (some ⟨g,0,none⟩) l.length l.length) (.slice (some ⟨H,0,none⟩) (l.length+1) cp) (l.take i ++ k :: l.drop i) w ((W1.setRow H cur2).drew.setRow H cur3)):=by
  have hlen:(l.take i ++ k :: l.drop i).length=l.length+1:=by simp;omega
  refine ⟨⟨by rw [z1k,hlen],Or.inr ⟨H,cp,cur3,by rw [hlen],by omega,z1B _ H cur2 cur3 _ hg2,by rw [hlen];exact hcp1,hcp2,?_,?_⟩⟩,⟨?_,?_,?_,by simpa using e1.size,fun q hq hS=>?_⟩,fun q hq=>Or.inr (by cases hq;exact Nat.le_of_eq hH.symm)⟩
  . rw [hc3]
    simp [hz4,hdl];omega
  . have e3:cur2.toList.take ((i+1) * 2)=shC T (l.take i) ++ [O I k,.string (T k)]:=by
      rw [hc2,ht1];rw [List.take_append_of_le_length (by simp [z1k];omega),List.take_of_length_le (by simp [z1k];omega)]
    rw [hc3,e3,hlen];rw [show shC T (l.take i ++ k :: l.drop i)=shC T (l.take i) ++ [O I k,.string (T k)] ++ shC T (l.drop i) by rw [z8d];simp [shC]];rw [List.take_append_of_le_length (by simp [z1k];omega),List.take_of_length_le (by simp [z1k];omega)]
  . exact e1.os
  . exact e1.tape
  . exact e1.output
  . rw [setRow_other _ H q cur3 (by omega)]
    show (W1.setRow H cur2).heap[q]?=_
    rw [setRow_other _ H q cur2 (by omega)];exact e1.block q hq id
 have HAP:=zZ hap;have HC1:=zZ hcpA;have HC2:=zZ hcpB;clear hap hcpA hcpB hz0 hz1 hz2 hz3 hz4 hg1 hg2 hg3 hv1 hc1 hc2 hc3 hdl hv hg htk hsz hcp hcp2 hZ hZs hH hW1 ht1 e1 hgl hvl hi0;have hw1:IntKind.i64.wrap ((i:Int)+1)=((i+1:Nat):Int):=by rw [IntKind.wrap_i64];omega
 have hq1:¬ (cp=i):=by omega
 have hq2:¬ (cp=i+1):=by omega
 have hq8:¬ (l.length=i):=by omega
 have hq3:¬ ((i:Int)=(l.length:Int)):=by omega
 have hq4:l.length+1 - (i+1)=l.length - i:=by omega
 have hq5:(0:Int)<=(i:Int)+1:=by omega
 have hq6:i<=l.length:=by omega
 have hq7:(i:Int)<=(l.length:Int)+1:=by omega
 go_enter Tryz.func403,Tryz.ntmps403
 go_wp2_with (first | (at_builtin;refine Lib.wpList_append_run w rfl (.tmp 34) (.tmp 39) 153 3 rfl _ _ rfl rfl (.slice (some ⟨H,0,none⟩) (l.length+1) cp) W1 (HAP.out _) ?_) | simp only [HC1.out])
 go_region_law (first | (refine y1N rfl _ _ 153 153 rfl (.slice (some ⟨H,(i+1) * 2,none⟩) (l.length - i) (cp - (i+1))) (.slice (some ⟨g,i * 2,none⟩) (l.length - i) (l.length - i)) _ (by simp [Act.eval,Act.put]) (by simp [Act.eval,Act.put]) (HC2.out _ _ _) ?_))
 all_goals
  go_wp2;go_ret;exact ⟨_,rfl,HL.out⟩
theorem y2J (T:Nat->ByteArray) (l:List Nat) (i k base:Nat) (sv:Value) (w:World) (vb:Nat) (hsv:w.ownsRow base 149 2 sv l.length (shC T l)) (hbase:base<=w.heap.size) (hi:i<=l.length) (hl:l.length<=500) (hv:Bx w vb 149 #[O I k,.string (T k)]) (hne:sv.ownBlock ≠ some vb) :
 Calls prog 403 #[sv,O I i,.slice (some ⟨vb,0,none⟩) 1 1] w fun e w'=>∃ sv',e=.returned sv'/\Laid T base sv sv' (l.take i ++ k :: l.drop i) w w':=by
 by_cases e:i=l.length
 . subst e
   rw [List.take_length,List.drop_length];exact y2I T l k base sv w vb hsv hbase hl hv
 . rcases hsv.2 with ⟨-,h0⟩ | ⟨g,cap,cur,rfl,h1,h2,h3,h4,h5,h6⟩
   . omega
   . by_cases hc:l.length+1<=cap
     . exact z9E T l i k base g cap cur w vb h1 h2 hc h4 h5 h6 (by omega) hl hv fun hh=>hne (by rw [hh];rfl)
     . have e2:cap=l.length:=by omega
       subst e2;exact y0H T l i k base g cur w vb hbase h2 h5 h6 (by omega) hl hv
theorem y8D (w:World):(zeroValue 149).run prog w=.ok (.agg #[O I 0,.string ⟨#[]⟩]) w:=by
 obtain ⟨i0,h0,h1,-,-⟩:=z4K;simp [zeroValue,typeInfo,h0,h1]
theorem z3r {P:Program} {ops:Array Oper} {o:Oper} {a:Act} {w w':World} {K:Act->World->Prop} {Q:Exit->Act->World->Prop} {E:Prop}
 (hg:o.guard=none) (s x:Operand) (t:TypeId) (hop:o.op=Op.call { callee:=Callee.builtin Builtin.append,args:=#[s,x],argTypes:=#[t,t] })
 (v b v':Value) (hs:a.eval s=v) (hx:a.eval x=b) (hrun:(Builtin.append_ #[t,t] o.type #[v,b]).run P w=.ok v' w') (hK:K (a.put o.dst v') w') :
 if Region.wanted o (yielded ops a.tmps)=true then Oper.wp P o a w K Q else E:=by
 have hw:Region.wanted o (yielded ops a.tmps)=true:=by simp [Region.wanted,hg]
 rw [if_pos hw];unfold Oper.wp;simp [execOp,hop,resolve,invoke,builtin,hs,hx,hrun,Result.andThen];exact hK
set_option maxRecDepth 100000 in
set_option maxHeartbeats 2000000 in
theorem y2K (T:Nat->ByteArray) (k:Nat) (r:List Nat) (base g cap:Nat) (cur:Array Value) (w:World) (hb:base<=g) (hg:w.heap[g]?=some (.cells cur 149 (0,0))) (hcap:r.length+1<=cap) (hmx:cap<=maxLen) (hsz:cur.size=cap * 2)
 (htk:cur.toList.take ((k :: r).length * 2)=shC T (k :: r)) (hl:r.length<=500) :
 Calls prog 398 #[.slice (some ⟨g,0,none⟩) ((r.length+1:Nat)) cap,O I 0,O I 1] w fun e w'=>e=.returned (.slice (some ⟨g,0,none⟩) r.length cap)/\Laid T base (.slice (some ⟨g,0,none⟩) (r.length+1) cap) (.slice (some ⟨g,0,none⟩) r.length cap) r w w':=by
 have hdl:=z1k T r;obtain ⟨i0,hi0,hz0,hz1,hz2⟩:=z4K;obtain ⟨cur1,hc1⟩:∃ c:Array Value,c=(cur.toList.take (0 * 2) ++ shC T r ++ cur.toList.drop (0 * 2+(shC T r).length)).toArray:=⟨_,rfl⟩;have hap:∀ ty o c,(o=2∨r=[])->(Builtin.append_ #[153,153] ty #[.slice (some ⟨g,0,none⟩) 0 cap,.slice (some ⟨g,o,none⟩) r.length c]).run prog w.drew=.ok (.slice (some ⟨g,0,none⟩) r.length cap) (w.drew.setRow g cur1):=fun ty o c ho=>by
  have h1:=z5a (P:=prog) w.drew 153 ty 149 i0 Tryz.underlying153 hi0 2 hz1 g 0 cap cur hg ⟨g,o,none⟩ r.length c (shC T r) hdl
   (fun j v hj=>by
    rcases ho with rfl | rfl
    . rw [show (⟨g,2,none⟩:Addr).add j=⟨g,1 * 2+j,none⟩ by unfold Addr.add;split <;> simp_all]
      show w.cell? _=_
      have:=z6o (l:=k :: r) htk 1 j v hj;simp [World.cell?,hg]
      simpa using this
    . cases hj) (z8e T _) (by omega) (by rw [hdl,hsz];omega)
  rw [← hc1,Nat.zero_add] at h1;exact h1
 have hz3:cur1.size=cap * 2:=by rw [hc1];simp [hsz,hdl];omega
 have hg1:(w.drew.setRow g cur1).heap[g]?=some (.cells cur1 149 (0,0)):=z1B w.drew g cur cur1 _ hg;have hZ:(Builtin.zeroCells (Value.agg #[O I 0,.string ⟨#[]⟩]).cells 1).toList=[O I 0,.string ⟨#[]⟩]:=by first | kernel_rfl | simp [Builtin.zeroCells,Value.cells]
 obtain ⟨cur2,hc2⟩:∃ c:Array Value,c=(cur1.toList.take (r.length * 2) ++ ([O I 0,.string ⟨#[]⟩]:List Value) ++ cur1.toList.drop (r.length * 2+2)).toArray:=⟨_,rfl⟩;have hcl:∀ ty c,(Builtin.clear_ #[153] ty #[.slice (some ⟨g,r.length * 2,none⟩) 1 c]).run prog (w.drew.setRow g cur1)=.ok (.tuple #[]) ((w.drew.setRow g cur1).setRow g cur2):=fun ty c=>by
  have h1:=z6G (P:=prog) (w.drew.setRow g cur1) 153 149 ty (.agg #[O I 0,.string ⟨#[]⟩]) 1 Tryz.underlying153 y8D (by rw [hZ];intro u hu;simp at hu;rcases hu with rfl | rfl <;> rfl) g (r.length * 2) c cur1 (by omega) hg1 (by rw [hZ,hz3];simp;omega);rw [hZ] at h1;rw [hc2];exact h1
 have HL:Hid (Laid T base (.slice (some ⟨g,0,none⟩) (r.length+1) cap) (.slice (some ⟨g,0,none⟩) r.length cap) r w ((w.drew.setRow g cur1).setRow g cur2)):=by
  refine ⟨⟨hdl,Or.inr ⟨g,cap,cur2,rfl,hb,z1B _ g cur1 cur2 _ hg1,by omega,hmx,?_,?_⟩⟩,⟨rfl,rfl,rfl,by simp,fun q hq hS=>?_⟩,fun q hq=>Or.inl hq⟩
  . rw [hc2]
    simp [hz3];omega
  . have e1:cur1.toList.take (r.length * 2)=shC T r:=by
      rw [hc1];simp only [List.append_assoc];simp [hdl]
    rw [hc2,e1,List.append_assoc,List.take_append_of_le_length (by rw [hdl];exact Nat.le_refl _),List.take_of_length_le (by rw [hdl];exact Nat.le_refl _)]
  . have:q ≠ g:=fun hh=>hS (by rw [hh];rfl)
    rw [setRow_other _ g q cur2 this,setRow_other _ g q cur1 this]
    rfl
 have HAP:=zZ hap;have HCL:=zZ hcl;clear hap hcl hz0 hz1 hz2 hz3 hg1 hc1 hc2 hdl hg htk hsz hZ hi0
 by_cases hc:cap=1
 . have hr0:r=[]:=by cases r with | nil=>rfl | cons a b=>simp at hcap;omega
   subst hc hr0;have HAP1:Hid ((Builtin.append_ #[153,153] 153 #[.slice (some ⟨g,0,none⟩) 0 1,.slice (some ⟨g,0,none⟩) 0 0]).run prog w.drew=.ok (.slice (some ⟨g,0,none⟩) 0 1) (w.drew.setRow g cur1)):=HAP.out 153 0 0 (Or.inr rfl);have HCL1:Hid (∀ ty c,(Builtin.clear_ #[153] ty #[.slice (some ⟨g,0,none⟩) 1 c]).run prog (w.drew.setRow g cur1)=.ok (.tuple #[]) ((w.drew.setRow g cur1).setRow g cur2)):=fun ty c=>HCL.out ty c
   clear HAP HCL
   go_enter Tryz.func398,Tryz.ntmps398
   go_wp2
   go_region_law (first | (refine z3r rfl _ _ 153 rfl (.slice (some ⟨g,0,none⟩) 0 1) (.slice (some ⟨g,0,none⟩) 0 0) _ (by simp [Act.eval,Act.put]) (by simp [Act.eval,Act.put]) HAP1.out ?_))
   all_goals
    go_wp2_with (simp only [HCL1.out])
    go_ret;exact ⟨rfl,HL.out⟩
 . have hq1:(1:Int)<=(r.length:Int)+1:=by omega
   have hq2:¬ (cap=r.length):=by omega
   go_enter Tryz.func398,Tryz.ntmps398
   go_wp2
   go_region_law (first | (refine z3r rfl _ _ 153 rfl (.slice (some ⟨g,0,none⟩) 0 cap) (.slice (some ⟨g,2,none⟩) r.length (cap - 1)) _ (by simp [Act.eval,Act.put]) (by simp [Act.eval,Act.put]) (HAP.out _ 2 _ (Or.inl rfl)) ?_))
   all_goals
    go_wp2_with (simp only [HCL.out])
    go_ret;exact ⟨rfl,HL.out⟩
end Go.Proofs.YtlncjgnomhpjnabGreatDoor
