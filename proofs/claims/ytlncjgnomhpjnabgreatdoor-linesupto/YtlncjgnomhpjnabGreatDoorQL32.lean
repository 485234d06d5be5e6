import Derived.Test.YtlncjgnomhpjnabGreatDoorQL31
set_option maxRecDepth 100000
namespace Go.Proofs.YtlncjgnomhpjnabGreatDoor
open Go.Value renaming int → O
open Go.IntKind renaming i64 → I
open Go.Proofs.Tryz
open Go.RowKit Go.Deep
set_option linter.unusedVariables false
structure RLine (p:Lpar) (a:Lad) (x:Lsn) (F:Nat->Prop) (l:Nat) (s:Lst) (w:World):Prop where
 line:LineIs p a x F s w
 inv:LInv p s
 ptr:Bx w l 94 #[ptrV a.lb]
 far:¬ F l
theorem RLine.keep {p:Lpar} {a:Lad} {x:Lsn} {F:Nat->Prop} {l:Nat} {s:Lst} {w u:World} (h:RLine p a x F l s w) (hu:Below w.heap.size w u):RLine p a x F l s u :=
 ⟨h.line.keep (fun k hk=>hu.block k (h.line.lt k hk)) hu.size,h.inv,h.ptr.below hu,h.far⟩
section
variable {p:Lpar} {a:Lad} {x:Lsn} {F:Nat->Prop} {l:Nat} {s:Lst} {w:World}
theorem RLine.able_ne (h:RLine p a x F l s w) (h2:s.e2=false):s.able p ≠ []:=by
 obtain ⟨t,c,ht,hc⟩:=h.inv.alive h2;intro e;have:t ∈ s.able p:=by
  unfold Lst.able;rw [List.mem_filter];exact ⟨List.mem_range.2 ht,by rw [hc];rfl⟩
 rw [e] at this;cases this
theorem z9s (h:RLine p a x F l s w) :
 Calls prog 42 #[ptrV l] w fun e w'=>∃ v,e=.returned v/\w'.ownsRow w.heap.size 3 1 v (s.able p).length ((s.able p).map fun (k:Nat)=>O I (k:Int))/\Below w.heap.size w w':=by
 have HA:=zZ (y1J h.line h.inv);have y0:=h.ptr.cell 0;simp [ptrV] at y0;clear h;unfold ptrV at *
 go_enter func42,ntmps42
 go_wp2_with (go_at_call 78;refine HA.out.mono ?_;rintro e u ⟨v,rfl,hv⟩;have HV:=zZ hv;clear hv HA)
 go_ret;exact ⟨v,rfl,HV.out⟩
theorem z7k (h:RLine p a x F l s w) :
 Calls prog 25 #[ptrV l] w fun e w'=>e=.returned (.string (bs (hdT x s.hd ++ frsT x.d x.ch x.G x.S x.B s.wrote)))/\Below w.heap.size w w':=by
 have h1:=h.inv.wrote;have h2:=h.inv.given;have h3:=h.line.NB;have HA:=zZ (y2U h.line zU);have y0:=h.ptr.cell 0;simp [ptrV] at y0;clear h;generalize bs (hdT x s.hd ++ frsT x.d x.ch x.G x.S x.B s.wrote)=tx at *;unfold ptrV at *
 go_enter func25,ntmps25
 go_wp2_with (go_at_call 53;refine HA.out.mono ?_;rintro e u ⟨rfl,m,rfl⟩;clear HA)
 go_ret;exact ⟨rfl,z0W zX m⟩
theorem y4X (tmps:Array Value) (R:Nat) (cs:Array Value) (W:World) (h:Bx W R 64 cs) (hs:cs.size=11) (h2:tmps.getD 2 undef=.pointer (some ⟨R,0,none⟩)) :
 (results Tryz.f24 tmps).run prog W=.ok (.agg cs) W:=by
 have hl:=run_loadVar_row (P:=prog) W R 64 64 cs (0,0) _ h underlying64 rfl (by rw [hs];exact z0K);rw [Array.getD_eq_getD_getElem?] at h2;simp [results,results24,asAddr,h2,hl]
theorem Seen.mono {p:Lpar} {s:Lst} {base base':Nat} {v1 v2 v3:Value} {w:World} (h:Seen p s base v1 v2 v3 w) (hb:base'<=base):Seen p s base' v1 v2 v3 w:=⟨z1P h.held hb,z1P h.shelf hb,z1P h.ended hb⟩
theorem Seen.keep {p:Lpar} {s:Lst} {base:Nat} {v1 v2 v3:Value} {w u:World} {S:Nat->Prop} (h:Seen p s base v1 v2 v3 w) (he:Edit S w u) (hS:∀ k,S k->k < base):Seen p s base v1 v2 v3 u :=
 ⟨z0m h.held he fun g hg hs=>absurd (z0t h.held g hg) (by have:=hS g hs;omega),z0m h.shelf he fun g hg hs=>absurd (z0t h.shelf g hg) (by have:=hS g hs;omega),z0m h.ended he fun g hg hs=>absurd (z0t h.ended g hg) (by have:=hS g hs;omega)⟩
theorem y2V (h:RLine p a x F l s w) :
 Calls prog 24 #[ptrV l] w fun e w'=>∃ v1 v2 v3,e=.returned (.agg (z0X s v1 v2 v3))/\Seen p s w.heap.size v1 v2 v3 w'/\Below w.heap.size w w'/\Apt v1 v2 v3:=by
 have hb0:Below w.heap.size w (w.alloc (.cells #[O I 0,O I 0,O I 0,O I 0,O I 0,O I 0,O I 0,O I 0,.slice none 0 0,.slice none 0 0,.slice none 0 0] 64)):=zX.alloc zY _;have HA:=zZ (y4W (h.keep hb0).line h.inv);have y0:=(h.keep hb0).ptr.cell 0;simp [ptrV] at y0;have HX:=zZ (Bx.new w #[O I 0,O I 0,O I 0,O I 0,O I 0,O I 0,O I 0,O I 0,.slice none 0 0,.slice none 0 0,.slice none 0 0] 64);have HF:Hid (∀ u v1 v2 v3,Seen p s (w.alloc (.cells #[O I 0,O I 0,O I 0,O I 0,O I 0,O I 0,O I 0,O I 0,.slice none 0 0,.slice none 0 0,.slice none 0 0] 64)).heap.size v1 v2 v3 u->Below (w.alloc (.cells #[O I 0,O I 0,O I 0,O I 0,O I 0,O I 0,O I 0,O I 0,.slice none 0 0,.slice none 0 0,.slice none 0 0] 64)).heap.size (w.alloc (.cells #[O I 0,O I 0,O I 0,O I 0,O I 0,O I 0,O I 0,O I 0,.slice none 0 0,.slice none 0 0,.slice none 0 0] 64)) u->Bx u w.heap.size 64 #[O I 0,O I 0,O I 0,O I 0,O I 0,O I 0,O I 0,O I 0,.slice none 0 0,.slice none 0 0,.slice none 0 0]/\Seen p s w.heap.size v1 v2 v3 (u.setRow w.heap.size (z0X s v1 v2 v3))/\Below w.heap.size w (u.setRow w.heap.size (z0X s v1 v2 v3))):=fun u v1 v2 v3 hs hb=>by
  have er:Edit (·=w.heap.size) u (u.setRow w.heap.size (z0X s v1 v2 v3)):=⟨rfl,rfl,rfl,by simp,fun k hk hS=>setRow_other _ _ _ _ hS⟩;have h5:=hb0.trans (hb.mono (by simp));exact ⟨HX.out.below hb,(hs.keep er fun k hk=>by rw [hk];simp).mono (by simp),((Edit.of (S:=fun _=>False) h5).row (g:=w.heap.size) zY (z0X s v1 v2 v3)).below zY (fun k hk=>hk.elim)⟩
 clear h hb0;unfold ptrV at *
 go_enter func24,ntmps24
 go_wp2_with (first
  | (go_at_call 52;refine HA.out.mono ?_;rintro e u ⟨v1,v2,v3,rfl,hs,hb,ha⟩;have HAP:=zZ ha;have HZ:=zZ (HF.out u v1 v2 v3 hs hb);obtain ⟨A1,k1,rfl,-⟩:=z0j hs.held;obtain ⟨A2,k2,rfl,-⟩:=z0j hs.shelf;obtain ⟨A3,k3,rfl,-⟩:=z0j hs.ended;clear hs hb ha HA HF)
  | (refine z0a rfl _ _ 64 rfl w.heap.size 64 _ _ rfl rfl HZ.out.1 z0K rfl rfl ?_))
 exact bodyPost_ret (y4X _ w.heap.size _ _ (HZ.out.1.row _) rfl rfl) rfl ⟨_,_,_,rfl,HZ.out.2.1,HZ.out.2.2,HAP.out⟩
theorem y4Y (h:RLine p a x F l s w) (hT:TabsF w) (k:Nat) (hk:(k:Int)<=9223372036854775807) (h2:s.e2=false) :
 Calls prog 51 #[ptrV l,O I k] w fun e w'=>e=.returned (.tuple #[O I (z1b p s k:Nat),O I 0])/\∃ c a' F',s.next p (z1b p s k)=some c/\a'.b1=a.b1/\Own F F' w/\RLine p a' x F' l (s.act p c) w'/\Edit F w w':=by
 have HO:=zZ (z3f h.line h.inv);rw [h2] at HO;have hne:=h.able_ne h2;obtain ⟨-,-,ht,-⟩:=z3g (k:=k) hne;have HS:Hid (∀ u,Below w.heap.size w u->u.cell? ⟨l,0,none⟩=some (.pointer (some ⟨a.lb,0,none⟩))/\Calls prog 105 #[ptrV a.lb,O I k] u fun e w'=>e=.returned (O I (z1b p s k:Nat))/\∃ c a' F',s.next p (z1b p s k)=some c/\a'.b1=a.b1/\Own F F' w/\RLine p a' x F' l (s.act p c) w'/\Edit F w w'):=fun u hu=>by
  refine ⟨(h.keep hu).ptr.cell 0,(y6E (h.keep hu).line h.inv (hT.below hu) k hk hne).mono ?_⟩;rintro e w' ⟨rfl,c,hc,a',F',e1,e2,hO,hL,hE⟩;have hlu:l < u.heap.size:=(h.keep hu).ptr.lt;refine ⟨rfl,c,a',F',hc,e2,⟨hO.1,fun q hq=>(hO.2 q hq).imp id fun hq=>zO hu.size hq⟩,⟨hL,h.inv.step ht hc,?_,fun hf=>?_⟩,(Edit.of hu).trans hE⟩
  . have:=(h.keep hu).ptr.edit hE h.far
    rw [← e1] at this;exact this
  . rcases hO.2 l hf with h5 | h5
    . exact h.far h5
    . omega
 have y0:=h.ptr.cell 0;simp [ptrV] at y0;clear h hT;generalize z1b p s k=t at *;unfold ptrV at *
 go_enter func51,ntmps51
 go_wp2_with (first
  | (go_at_call 104;refine HO.out.mono ?_;rintro e u ⟨rfl,hb⟩;have z0:=(HS.out u hb).1;have HS1:=zZ (HS.out u hb).2;clear hb HO)
  | (go_at_call 105;refine HS1.out.mono ?_;rintro e u2 ⟨rfl,hz⟩;have HZ:=zZ hz;clear hz HS1))
 go_ret2;exact ⟨rfl,HZ.out⟩
theorem y2W (h:RLine p a x F l s w) (k:Int) (h2:s.e2=true) :
 Calls prog 51 #[ptrV l,O I k] w fun e w'=>e=.returned (.tuple #[O I 0,O I 9])/\Below w.heap.size w w':=by
 have HO:=zZ (z3f h.line h.inv);rw [h2] at HO;have y0:=h.ptr.cell 0;simp [ptrV] at y0;clear h;unfold ptrV at *
 go_enter func51,ntmps51
 go_wp2_with (go_at_call 104;refine HO.out.mono ?_;rintro e u ⟨rfl,hb⟩;have HB:=zZ hb;clear hb HO)
 go_ret2;exact ⟨rfl,HB.out⟩
theorem z9t (h:RLine p a x F l s w) (h2:s.e2=true) :
 Calls prog 54 #[ptrV l] w fun e w'=>e=.returned (O I 9)/\Below w.heap.size w w':=by
 have HO:=zZ (z3f h.line h.inv);rw [h2] at HO;have y0:=h.ptr.cell 0;simp [ptrV] at y0;clear h;unfold ptrV at *
 go_enter func54,ntmps54
 go_wp2_with (go_at_call 104;refine HO.out.mono ?_;rintro e u ⟨rfl,hb⟩;have HB:=zZ hb;clear hb HO)
 go_ret;exact ⟨rfl,HB.out⟩
end
structure Rad where
 rb:Nat
 ra:Nat
 ry:Nat
 rw:Nat
 re:Nat
 fv:Value
structure Rst where
 pl:Nat->Nat
 by_:Nat->Nat
 wh:Nat->Nat
 turn:Nat
 summed:Nat
 wrote:Nat
 writes:Nat
 en:Nat->Bool
 begun:Bool
 head:Bool
 whole:Bool
 stop:Nat
def rowV (b n:Nat):Value:=.slice (some ⟨b,0,none⟩) n n
def rfC (p:Lpar) (x:Lsn) (r:Rad) (z:Rst):Array Value :=
 #[O I x.ch,O I x.d,O I x.B,O I x.c3,O I x.c4,O I p.W,O I p.Wd,O I p.Rm,
  r.fv,.string (bs (hdT x 2 ++ frsT x.d x.ch x.G x.S x.B p.N)),.string (bs (hdT x 1)),rowV r.ra p.N,rowV r.ry p.N,rowV r.rw p.N,
  O I z.turn,O I z.summed,O I z.wrote,O I z.writes,O I p.fail,rowV r.re (3+p.W),.bool z.begun,.bool z.head,.bool z.whole,O I z.stop]
def Rad.own (r:Rad) (k:Nat):Prop:=k=r.rb∨k=r.ra∨k=r.ry∨k=r.rw∨k=r.re
structure RawIs (p:Lpar) (x:Lsn) (r:Rad) (z:Rst) (w:World):Prop where
 cells:Bx w r.rb 219 (rfC p x r z)
 ra:w.rowIs r.ra 3 p.N fun i=>O I (z.pl i:Nat)
 ry:w.rowIs r.ry 3 p.N fun i=>O I (z.by_ i:Nat)
 rw:w.rowIs r.rw 3 p.N fun i=>O I (z.wh i:Nat)
 re:w.rowIs r.re 4 (3+p.W) fun i=>.bool (z.en i)
 fr:w.ownsRow 0 9 1 r.fv p.N ((List.range p.N).map fun k=>.string (bs (frT x.d x.ch x.G x.S x.B k)))
 ne:r.ra ≠ r.ry/\r.ra ≠ r.rw/\r.ry ≠ r.rw
 N3:p.N<=300
 W8:p.W<=8
 fne:∀ g,r.fv.ownBlock=some g->¬ r.own g
theorem y0H {w:World} {a b n m:Nat} {s t:TypeId} {f g:Nat->Value} (h:w.rowIs a s n f) (k:w.rowIs b t m g) (hst:s ≠ t):a ≠ b:=by
 rintro rfl;obtain ⟨c,h1,-⟩:=h;obtain ⟨d,h2,-⟩:=k;rw [h1] at h2;cases h2;exact hst rfl
theorem z3x {u:World} {b g N:Nat} {t e:TypeId} {cs:Array Value} {f:Nat->Value} (h:Bx u b t cs) (hr:u.rowIs g e N f) (ht:t ≠ e):b ≠ g:=by
 rintro rfl;obtain ⟨c,h1,-⟩:=hr;rw [show u.heap[b]?=_ from h] at h1;cases h1;exact ht rfl
section
variable {p:Lpar} {x:Lsn} {r:Rad} {z:Rst} {w:World}
theorem RawIs.apart (h:RawIs p x r z w):r.rb ≠ r.ra/\r.rb ≠ r.ry/\r.rb ≠ r.rw/\r.rb ≠ r.re/\r.ra ≠ r.re/\r.ry ≠ r.re/\r.rw ≠ r.re :=
 ⟨z3x h.cells h.ra zR,z3x h.cells h.ry zR,z3x h.cells h.rw zR,z3x h.cells h.re zR,y0H h.ra h.re zR,y0H h.ry h.re zR,y0H h.rw h.re zR⟩
theorem z5t {w u:World} {base size n:Nat} {e:TypeId} {v:Value} {xs:List Value} (h:w.ownsRow base e size v n xs) (hu:u.heap=w.heap):u.ownsRow base e size v n xs:=by
 unfold World.ownsRow at *;rw [hu];exact h
theorem RawIs.heap {p:Lpar} {x:Lsn} {r:Rad} {z:Rst} {w u:World} (h:RawIs p x r z w) (e:u.heap=w.heap):RawIs p x r z u :=
 ⟨h.cells.of (by rw [e]),h.ra.of_block (by rw [e]),h.ry.of_block (by rw [e]),h.rw.of_block (by rw [e]),h.re.of_block (by rw [e]),z5t h.fr e,h.ne,h.N3,h.W8,h.fne⟩
theorem RawIs.drewN (h:RawIs p x r z w) (m:Nat):RawIs p x r z (w.drewN m):=⟨h.cells,h.ra,h.ry,h.rw,h.re,h.fr,h.ne,h.N3,h.W8,h.fne⟩
def cntN (z:Nat->Nat) (v q:Nat):Nat:=(List.range q).countP fun i=>z i == v
theorem y6I {z:Nat->Nat} {v q:Nat} (h:z q=v):cntN z v (q+1)=cntN z v q+1:=by simp [cntN,List.range_succ,List.countP_append,h]
theorem y8k {z:Nat->Nat} {v q:Nat} (h:z q ≠ v):cntN z v (q+1)=cntN z v q:=by simp [cntN,List.range_succ,List.countP_append,h]
theorem y8l (z:Nat->Nat) (v q:Nat):cntN z v q<=q:=by
 have:=List.countP_le_length (p:=fun i=>z i == v) (l:=List.range q)
 simpa [cntN] using this
theorem z1e (h:RawIs p x r z w) (v:Nat) :
 Calls prog 172 #[ptrV r.rb,O I v] w fun e w'=>e=.returned (O I (cntN z.pl v p.N:Nat))/\w'=w:=by
 have HR:=zZ h.ra;have hc:=h.cells.cell 11;have h3:=h.N3;simp [rfC,rowV] at hc;clear h;unfold ptrV;generalize hf:z.pl=f at *;generalize p.N=N at *;clear hf
 go_enter func172,ntmps172
 go_wp2
 go_loopw [5,6] (fun s5 s6 wr=>∃ q:Nat,q<=N/\s5=O I (cntN f v q:Nat)/\s6=O I q/\wr=w) (fun _ s6 _=>N - (intOf s6).toNat)
 case atStart=>exact ⟨0,zJ _,rfl,rfl,rfl⟩
 case round =>
  obtain ⟨q,hq,rfl,rfl,rfl⟩:=hrel;have hle:=y8l f v q
  by_cases hlt:q < N
  . have hd:=HR.out.cell hlt
    by_cases he:f q=v
    . have e1:=y6I he
      have e2:(((f q:Nat):Int) == (v:Int))=true:=by simp [he]
      clear he;go_wp2
      go_roundw
      case rel=>exact ⟨q+1,zU,by rw [e1];go_num,zS,trivial⟩
      case measure=>simp [intOf];omega
    . have e1:=y8k he
      have e2:(((f q:Nat):Int) == (v:Int))=false:=by simp;omega
      clear he;go_wp2
      go_roundw
      case rel=>exact ⟨q+1,zU,by rw [e1],zS,trivial⟩
      case measure=>simp [intOf];omega
  . have e:q=N:=zU
    subst e;go_wp2;go_ret;exact ⟨rfl,rfl⟩
theorem z1X (h:RawIs p x r z w) (g:Nat) (hg:cntN z.pl 0 p.N=p.N - g) (hgN:g<=p.N) :
 Calls prog 171 #[ptrV r.rb] w fun e w'=>e=.returned (O I (g:Nat))/\∃ m,w'=w.drewN m:=by
 have HC:=zZ (fun (u:World) (e:u.heap=w.heap)=>z1e (h.heap e) 0);rw [hg] at HC;have hc:=h.cells.cell 11;have h3:=h.N3;simp [rfC,rowV] at hc;clear h hg;unfold ptrV at *;generalize p.N=N at *;have e1:I.wrap ((N:Int) - ((N - g:Nat):Int))=(g:Int):=by rw [zK];omega
 go_enter func171,ntmps171
 go_wp2_with fail
 go_quiet (first | (go_at_call 172;exact Calls.quiet_of_same (HC.out _ rfl)))
 go_wp2;go_ret;exact ⟨rfl,nq,rfl⟩
def holV:Option Nat->Int
 | none=>-1
 | some k=>(k:Int)
theorem z3N (h:RawIs p x r z w) (t:Nat) (o:Option Nat) (ho:∀ i,i < p.N->((z.pl i=2/\z.by_ i=t)↔o=some i)) (hN:∀ i,o=some i->i < p.N) :
 Calls prog 173 #[ptrV r.rb,O I t] w fun e w'=>e=.returned (O I (holV o))/\w'=w:=by
 have HA:=zZ h.ra;have HY:=zZ h.ry;have hc:=h.cells.cell 11;have hy:=h.cells.cell 12;have h3:=h.N3;simp [rfC,rowV] at hc hy;have HO:=zZ ho;have HN:=zZ hN;clear h ho hN;unfold ptrV;generalize z.pl=f at *;generalize z.by_=g at *;generalize p.N=N at *;generalize hv:holV o=v;have HV:=zZ hv;clear hv
 go_enter func173,ntmps173
 go_wp2
 go_loopw [5] (fun s5 wr=>∃ q:Nat,q<=N/\(∀ i,i < q->o ≠ some i)/\s5=O I q/\wr=w) (fun s5 _=>N - (intOf s5).toNat)
 case atStart=>exact ⟨0,zJ _,fun i hi=>absurd hi (Nat.not_lt_zero _),rfl,rfl⟩
 case round =>
  obtain ⟨q,hq,hno,rfl,rfl⟩:=hrel;have HQ:=zZ hno;clear hno
  by_cases hlt:q < N
  . have hd:=HA.out.cell hlt
    have hd2:=HY.out.cell hlt;have Hh:=zZ (HO.out q hlt)
    by_cases he:f q=2
    . have e2:(((f q:Nat):Int) == 2)=true:=by simp;omega
      by_cases he2:g q=t
      . have e3:(((g q:Nat):Int) == (t:Int))=true:=by simp [he2]
        have Hv:Hid (v=(q:Int)):=zZ (by rw [← HV.out,Hh.out.1 ⟨he,he2⟩];rfl);clear he he2;go_wp2;go_ret;exact ⟨by rw [Hv.out];rfl,rfl⟩
      . have e3:(((g q:Nat):Int) == (t:Int))=false:=by simp;omega
        have Hn:=zZ (show o ≠ some q from fun hc=>he2 (Hh.out.2 hc).2);clear he he2;go_wp2
        go_roundw
        case rel=>exact ⟨q+1,zU,fun i hi=>by rcases Nat.lt_succ_iff_lt_or_eq.1 hi with h5 | h5;exact HQ.out i h5;rw [h5];exact Hn.out,zS,trivial⟩
        case measure=>simp [intOf];omega
    . have e2:(((f q:Nat):Int) == 2)=false:=by simp;omega
      have Hn:=zZ (show o ≠ some q from fun hc=>he (Hh.out.2 hc).1);clear he;go_wp2
      go_roundw
      case rel=>exact ⟨q+1,zU,fun i hi=>by rcases Nat.lt_succ_iff_lt_or_eq.1 hi with h5 | h5;exact HQ.out i h5;rw [h5];exact Hn.out,zS,trivial⟩
      case measure=>simp [intOf];omega
  . have e:q=N:=zU
    subst e;have Hv:Hid (v=-1):=zZ (by
     rw [← HV.out];cases o with
     | none=>rfl
     | some i=>exact absurd rfl (HQ.out i (HN.out i rfl)))
    go_wp2;go_ret;exact ⟨by rw [Hv.out];rfl,rfl⟩
theorem y0I (h:RawIs p x r z w) :
 Calls prog 231 #[ptrV r.rb] w fun e w'=>e=.returned (.bool ((List.range p.W).all fun j=>z.en (j+3)))/\w'=w:=by
 have HA:=zZ h.re;have hc:=h.cells.cell 19;have h3:=h.W8;simp [rfC,rowV] at hc;clear h;unfold ptrV;generalize z.en=f at *;generalize p.W=N at *;generalize hv:((List.range N).all fun j=>f (j+3))=v;have HV:=zZ hv;clear hv
 go_enter func231,ntmps231
 go_wp2
 go_loopw [3] (fun s5 wr=>∃ q:Nat,q<=N/\(∀ i,i < q->f (i+3)=true)/\s5=O I ((q+3:Nat):Int)/\wr=w) (fun s5 _=>N+3 - (intOf s5).toNat)
 case atStart=>exact ⟨0,zJ _,fun i hi=>absurd hi (Nat.not_lt_zero _),rfl,rfl⟩
 case round =>
  obtain ⟨q,hq,hno,rfl,rfl⟩:=hrel;have HQ:=zZ hno;clear hno
  by_cases hlt:q < N
  . have hd:=HA.out.cell (i:=q+3) zU
    cases he:f (q+3)
    . rw [he] at hd
      have Hv:Hid (v=false):=zZ (by
       rw [← HV.out];rw [List.all_eq_false];exact ⟨q,List.mem_range.2 hlt,by simp [he]⟩)
      clear he;go_wp2;go_ret;exact ⟨by rw [Hv.out];rfl,rfl⟩
    . rw [he] at hd
      have He:=zZ he;clear he;go_wp2
      go_roundw
      case rel=>exact ⟨q+1,zU,fun i hi=>by rcases Nat.lt_succ_iff_lt_or_eq.1 hi with h5 | h5;exact HQ.out i h5;rw [h5];exact He.out,zS,trivial⟩
      case measure=>simp [intOf];omega
  . have e:q=N:=zU
    subst e;have Hv:Hid (v=true):=zZ (by
     rw [← HV.out,List.all_eq_true];exact fun i hi=>HQ.out i (List.mem_range.1 hi))
    go_wp2;go_ret;exact ⟨by rw [Hv.out];rfl,rfl⟩
theorem z9u (h:RawIs p x r z w) :
 Calls prog 230 #[ptrV r.rb] w fun e w'=>e=.returned (.bool (decide (z.wrote < p.N) && decide (z.pl z.wrote=4)))/\∃ m,w'=w.drewN m:=by
 have hc:=h.cells.cell 11;have hy:=h.cells.cell 16;have h3:=h.N3;simp [rfC,rowV] at hc hy;have HA:=zZ h.ra;clear h;unfold ptrV;generalize z.pl=f at *;generalize z.wrote=q at *;generalize p.N=N at *
 by_cases hlt:q < N
 . have hd:=HA.out.cell hlt
   have h1:decide (q < N)=true:=zL hlt;have h2:decide ((q:Int) < (N:Int))=true:=zL zU;rw [h1,Bool.true_and]
   by_cases he:f q=4
   . rw [zL he]
     have e2:(((f q:Nat):Int) == 4)=true:=by simp;omega
     clear he
     go_enter func230,ntmps230
     go_wp2_with fail
     go_quiet (fail)
     go_wp2;go_ret;exact ⟨rfl,nq,rfl⟩
   . rw [zM he]
     have e2:(((f q:Nat):Int) == 4)=false:=by simp;omega
     clear he
     go_enter func230,ntmps230
     go_wp2_with fail
     go_quiet (fail)
     go_wp2;go_ret;exact ⟨rfl,nq,rfl⟩
 . rw [zM hlt,Bool.false_and]
   have h2:decide ((q:Int) < (N:Int))=false:=zM zU
   go_enter func230,ntmps230
   go_wp2_with fail
   go_quiet (fail)
   go_wp2;go_ret;exact ⟨rfl,nq,rfl⟩
end
section
variable {p:Lpar} {x:Lsn} {r:Rad} {z:Rst} {w:World}
theorem y0J (h:RawIs p x r z w) (b:Tab) (h1:b.pl=z.pl) (h2:b.wh=z.wh) :
 Calls prog 279 #[ptrV r.rb] w fun e w'=>e=.returned (O I (holV (oldF b p.N)))/\∃ m,w'=w.drewN m:=by
 have HA:=zZ h.ra;have HY:=zZ h.rw;have hc:=h.cells.cell 11;have hy:=h.cells.cell 13;have h3:=h.N3;simp [rfC,rowV] at hc hy;rw [← h1] at HA;rw [← h2] at HY;clear h h1 h2;unfold ptrV;generalize p.N=N at *
 go_enter func279,ntmps279
 go_wp2
 go_loopw [3,4] (fun s3 s4 wr=>∃ q:Nat,q<=N/\s3=O I (holV (oldF b q))/\s4=O I q/\∃ m,wr=w.drewN m) (fun _ s4 _=>N - (intOf s4).toNat)
 case atStart=>exact ⟨0,zJ _,rfl,rfl,0,rfl⟩
 case round =>
  obtain ⟨q,hq,rfl,rfl,m,rfl⟩:=hrel
  by_cases hlt:q < N
  . have hd:=HA.out.cell hlt
    have hd2:=HY.out.cell hlt
    by_cases he:b.pl q=3
    . have e2:(((b.pl q:Nat):Int) == 3)=true:=by simp;omega
      rcases z8a b q with ⟨o1,o2⟩ | ⟨k,o1,o2,o3,o4⟩
      . have Hn:Hid (holV (oldF b (q+1))=(q:Int)):=zZ (by
          simp only [oldF];rw [if_pos ⟨he,fun k hk=>by rw [o1] at hk;cases hk⟩]
          rfl)
        rw [show holV (oldF b q)=-1 by rw [o1];rfl];clear he o1 o2;go_wp2_with fail
        go_quiet (fail)
        go_wp2
        go_roundw
        case rel=>exact ⟨q+1,zU,by rw [Hn.out],zS,_,rfl⟩
        case measure=>simp [intOf];omega
      . have hd3:=HY.out.cell (show k < N by omega)
        rw [show holV (oldF b q)=(k:Int) by rw [o1];rfl];have f1:decide ((k:Int) < 0)=false:=zM zU
        by_cases hw:b.wh q < b.wh k
        . have f2:decide (((b.wh q:Nat):Int) < ((b.wh k:Nat):Int))=true:=zL zU
          have Hn:Hid (holV (oldF b (q+1))=(q:Int)):=zZ (by
           simp only [oldF];rw [if_pos ⟨he,fun k' hk=>by rw [o1] at hk;cases hk;exact hw⟩]
           rfl)
          clear he o1 o3 o4;go_wp2_with fail
          go_quiet (fail)
          go_wp2
          go_roundw
          case rel=>exact ⟨q+1,zU,by rw [Hn.out],zS,_,rfl⟩
          case measure=>simp [intOf];omega
        . have f2:decide (((b.wh q:Nat):Int) < ((b.wh k:Nat):Int))=false:=zM zU
          have Hn:Hid (holV (oldF b (q+1))=(k:Int)):=zZ (by
           simp only [oldF];rw [if_neg (fun hc=>hw (hc.2 k o1)),o1]
           rfl)
          clear he o1 o3 o4;go_wp2_with fail
          go_quiet (fail)
          go_wp2
          go_roundw
          case rel=>exact ⟨q+1,zU,by rw [Hn.out],zS,_,rfl⟩
          case measure=>simp [intOf];omega
    . have e2:(((b.pl q:Nat):Int) == 3)=false:=by simp;omega
      have Hn:Hid (oldF b (q+1)=oldF b q):=zZ (by
       simp only [oldF];rw [if_neg (fun hc=>he hc.1)])
      clear he;generalize hv:holV (oldF b q)=v at *;have HV:=zZ hv;clear hv;go_wp2_with fail
      go_quiet (fail)
      go_wp2
      go_roundw
      case rel=>exact ⟨q+1,zU,by rw [Hn.out,HV.out],zS,_,rfl⟩
      case measure=>simp [intOf];omega
  . have e:q=N:=zU
    subst e;go_wp2;go_ret;exact ⟨rfl,_,rfl⟩
def Rst.halt (z:Rst) (v:Nat):Rst:={ z with stop:=v,pl:=fun i=>if z.pl i=4 then 6 else z.pl i }
def Rst.hal (z:Rst) (q:Nat):Nat->Nat:=fun i=>if i < q/\z.pl i=4 then 6 else z.pl i
theorem RawIs.upd {p:Lpar} {x:Lsn} {r:Rad} {z z':Rst} {w u:World} (h:RawIs p x r z w) (he:Edit r.own w u) (c:Bx u r.rb 219 (rfC p x r z')) (h1:u.rowIs r.ra 3 p.N fun i=>O I (z'.pl i:Nat)) (h2:u.rowIs r.ry 3 p.N fun i=>O I (z'.by_ i:Nat)) (h3:u.rowIs r.rw 3 p.N fun i=>O I (z'.wh i:Nat)) (h4:u.rowIs r.re 4 (3+p.W) fun i=>.bool (z'.en i)):RawIs p x r z' u :=
 ⟨c,h1,h2,h3,h4,z0m h.fr he h.fne,h.ne,h.N3,h.W8,h.fne⟩
theorem edC {r:Rad} {w u:World} (h:Edit r.own w u) {g:Nat} (hg:r.own g) (j:Nat) (v:Value):Edit r.own w (u.setCell ⟨g,j,none⟩ v):=h.cell (Or.inl hg) j v
theorem y8m (f:Nat->Nat) (i v j:Nat):(if j=i then Value.int .i64 (v:Int) else O I (f j:Nat))=O I (updL f i v j:Nat):=by
 simp only [updL];split <;> rfl
theorem RawIs.setAt (h:RawIs p x r z w) (i v:Nat):RawIs p x r { z with pl:=updL z.pl i v } (w.setCell ⟨r.ra,i,none⟩ (O I v)):=by
 obtain ⟨a1,a2,a3,a4,a5,a6,a7⟩:=h.apart;obtain ⟨b1,b2,b3⟩:=h.ne;exact h.upd (edC (Edit.refl _ _) (by simp [Rad.own]) _ _) (h.cells.past a1 i _) ((h.ra.set i _).congr fun j hj=>y8m _ _ _ _) (h.ry.setOther (Ne.symm b1) _) (h.rw.setOther (Ne.symm b2) _) (h.re.setOther (Ne.symm a5) _)
theorem RawIs.setBy (h:RawIs p x r z w) (i v:Nat):RawIs p x r { z with by_:=updL z.by_ i v } (w.setCell ⟨r.ry,i,none⟩ (O I v)):=by
 obtain ⟨a1,a2,a3,a4,a5,a6,a7⟩:=h.apart;obtain ⟨b1,b2,b3⟩:=h.ne;exact h.upd (edC (Edit.refl _ _) (by simp [Rad.own]) _ _) (h.cells.past a2 i _) (h.ra.setOther b1 _) ((h.ry.set i _).congr fun j hj=>y8m _ _ _ _) (h.rw.setOther (Ne.symm b3) _) (h.re.setOther (Ne.symm a6) _)
theorem RawIs.setWh (h:RawIs p x r z w) (i v:Nat):RawIs p x r { z with wh:=updL z.wh i v } (w.setCell ⟨r.rw,i,none⟩ (O I v)):=by
 obtain ⟨a1,a2,a3,a4,a5,a6,a7⟩:=h.apart;obtain ⟨b1,b2,b3⟩:=h.ne;exact h.upd (edC (Edit.refl _ _) (by simp [Rad.own]) _ _) (h.cells.past a3 i _) (h.ra.setOther b2 _) (h.ry.setOther b3 _) ((h.rw.set i _).congr fun j hj=>y8m _ _ _ _) (h.re.setOther (Ne.symm a7) _)
theorem RawIs.setEn (h:RawIs p x r z w) (i:Nat) (v:Bool):RawIs p x r { z with en:=updL z.en i v } (w.setCell ⟨r.re,i,none⟩ (.bool v)):=by
 obtain ⟨a1,a2,a3,a4,a5,a6,a7⟩:=h.apart;refine h.upd (edC (Edit.refl _ _) (by simp [Rad.own]) _ _) (h.cells.past a4 i _) (h.ra.setOther a5 _) (h.ry.setOther a6 _) (h.rw.setOther a7 _) ((h.re.set i _).congr fun j hj=>?_);simp only [updL];split <;> rfl
theorem RawIs.setS {p:Lpar} {x:Lsn} {r:Rad} {z z':Rst} {w:World} (h:RawIs p x r z w) (j:Nat) (v:Value) (e:(rfC p x r z).setIfInBounds j v=rfC p x r z') (e1:z'.pl=z.pl:=by rfl) (e2:z'.by_=z.by_:=by rfl) (e3:z'.wh=z.wh:=by rfl) (e4:z'.en=z.en:=by rfl):RawIs p x r z' (w.setCell ⟨r.rb,j,none⟩ v):=by
 obtain ⟨a1,a2,a3,a4,a5,a6,a7⟩:=h.apart;refine h.upd (edC (Edit.refl _ _) (by simp [Rad.own]) _ _) (e ▸ h.cells.set j v) ?_ ?_ ?_ ?_
 . rw [e1];exact h.ra.setOther (Ne.symm a1) _
 . rw [e2];exact h.ry.setOther (Ne.symm a2) _
 . rw [e3];exact h.rw.setOther (Ne.symm a3) _
 . rw [e4];exact h.re.setOther (Ne.symm a4) _
theorem RawIs.congr (h:RawIs p x r z w) {f:Nat->Nat} (e:∀ i,i < p.N->z.pl i=f i):RawIs p x r { z with pl:=f } w :=
 h.upd (Edit.refl _ _) h.cells (h.ra.congr fun i hi=>by rw [e i hi]) h.ry h.rw h.re
theorem z9v (h:RawIs p x r z w) (v:Nat) :
 Calls prog 170 #[ptrV r.rb,O I v] w fun e w'=>e=.returned (.tuple #[])/\RawIs p x r (z.halt v) w'/\Edit r.own w w':=by
 have h1:=h.setS (z':={ z with stop:=v }) 23 (O I v) rfl;have HH:Hid (RawIs p x r { z with stop:=v,pl:=z.hal 0 } (w.setCell ⟨r.rb,23,none⟩ (O I v))/\Edit r.own w (w.setCell ⟨r.rb,23,none⟩ (O I v))):=zZ ⟨h1.congr fun i _=>by simp [Rst.hal],edC (Edit.refl _ _) (by simp [Rad.own]) _ _⟩;have hc:=h.cells.cell 23;have hf:=h.cells.free 23;have h3:=h.N3;simp [rfC] at hc;clear h h1;unfold ptrV at *
 go_enter func170,ntmps170
 go_wp2;clear hc hf
 go_loopw [4] (fun s4 wr=>∃ q:Nat,q<=p.N/\s4=O I q/\RawIs p x r { z with stop:=v,pl:=z.hal q } wr/\Edit r.own w wr) (fun s4 _=>p.N - (intOf s4).toNat)
 case atStart=>exact ⟨0,zJ _,rfl,HH.out⟩
 case round =>
  obtain ⟨q,hq,rfl,hR,hE⟩:=hrel;have HR:=zZ hR;have HE:=zZ hE;have hc:=hR.cells.cell 11;simp [rfC,rowV] at hc;clear hR hE HH
  by_cases hlt:q < p.N
  . have hd:=HR.out.ra.cell hlt
    have hf:=HR.out.ra.frozen q;have e0:z.hal q q=z.pl q:=by simp [Rst.hal]
    simp only [e0] at hd;clear e0
    by_cases he:z.pl q=4
    . have e2:(((z.pl q:Nat):Int) == 4)=true:=by simp;omega
      have HN:Hid (RawIs p x r { z with stop:=v,pl:=z.hal (q+1) } (wr.setCell ⟨r.ra,q,none⟩ (O I (6:Nat)))/\Edit r.own w (wr.setCell ⟨r.ra,q,none⟩ (O I (6:Nat)))):=zZ ⟨(HR.out.setAt q 6).congr fun i _=>by
          simp only [updL,Rst.hal]
          by_cases e:i=q
          . subst e;simp [he]
          . rw [if_neg e];simp [show i < q+1↔i < q by omega],edC HE.out (by simp [Rad.own]) _ _⟩
      clear he HR HE;go_wp2
      go_roundw
      case rel=>exact ⟨q+1,zU,zS,HN.out⟩
      case measure=>simp [intOf];omega
    . have e2:(((z.pl q:Nat):Int) == 4)=false:=by simp;omega
      have HN:Hid (RawIs p x r { z with stop:=v,pl:=z.hal (q+1) } wr/\Edit r.own w wr):=zZ ⟨HR.out.congr fun i _=>by
          simp only [Rst.hal]
          by_cases e:i=q
          . subst e;simp [he]
          . simp [show i < q+1↔i < q by omega],HE.out⟩
      clear he HR HE;go_wp2
      go_roundw
      case rel=>exact ⟨q+1,zU,zS,HN.out⟩
      case measure=>simp [intOf];omega
  . have e:q=p.N:=zU
    subst e;have HN:Hid (RawIs p x r (z.halt v) wr/\Edit r.own w wr):=zZ ⟨HR.out.congr fun i hi=>by simp [Rst.hal,hi],HE.out⟩;clear HR HE;go_wp2;go_end0;exact ⟨rfl,HN.out⟩
def Rst.fails (p:Lpar) (z:Rst):Bool:=decide (((z.writes+1:Nat):Int)=p.fail)
def Rst.wrt (p:Lpar) (z:Rst):Rst:=if z.fails p then ({ z with writes:=z.writes+1 }:Rst).halt 3 else { z with writes:=z.writes+1 }
theorem z4T (h:RawIs p x r z w) (hw:z.writes<=400) :
 Calls prog 280 #[ptrV r.rb] w fun e w'=>e=.returned (.bool (!z.fails p))/\RawIs p x r (z.wrt p) w'/\Edit r.own w w':=by
 unfold Rst.wrt Rst.fails;obtain ⟨m,hm⟩:∃ m,m=z.writes+1:=⟨_,rfl⟩;rw [← hm];have wr1:I.wrap ((z.writes:Int)+1)=(m:Int):=by rw [zK];omega
 have h1:=h.setS (z':={ z with writes:=m }) 17 (O I (m:Int)) rfl;have e1:Edit r.own w (w.setCell ⟨r.rb,17,none⟩ (O I (m:Int))):=edC (Edit.refl _ _) (by simp [Rad.own]) _ _;have hc:=h.cells.cell 17;have hf:=h.cells.free 17;simp [rfC] at hc;generalize hu:w.setCell ⟨r.rb,17,none⟩ (O I (m:Int))=u at *;have d17:=h1.cells.cell 17;have d18:=h1.cells.cell 18;simp [rfC] at d17 d18;have HH:=zZ (fun q=>z9v (h1.drewN q) 3);have H1:=zZ (fun q=>And.intro (h1.drewN q) (e1.drewN q))
 by_cases hx:(m:Int)=p.fail
 . have hb1:((m:Int) == p.fail)=true:=by rw [hx];simp
   rw [zL hx,if_pos rfl];clear h h1 e1 hx hm;unfold ptrV at *
   go_enter func280,ntmps280
   go_wp2_with fail
   go_quiet (fail)
   go_wp2_with (first | (go_at_call 170;refine (HH.out _).mono ?_;rintro e u2 ⟨rfl,h5,h6⟩;have H5:=zZ (And.intro h5 ((H1.out _).2.trans h6));clear h5 h6))
   go_ret;exact ⟨rfl,H5.out⟩
 . have hb1:((m:Int) == p.fail)=false:=by simpa using hx
   rw [zM hx,if_neg (by simp)];clear h h1 e1 hx hm;unfold ptrV at *
   go_enter func280,ntmps280
   go_wp2_with fail
   go_quiet (fail)
   go_wp2;go_ret;exact ⟨rfl,H1.out _⟩
end
theorem y1K {p:Lpar} {z:Rst}:(z.wrt p).begun=z.begun/\(z.wrt p).head=z.head/\(z.wrt p).whole=z.whole/\(z.wrt p).en=z.en/\(z.wrt p).wrote=z.wrote:=by
 unfold Rst.wrt Rst.halt;split <;> exact ⟨rfl,rfl,rfl,rfl,rfl⟩
def Rst.writer (p:Lpar) (z:Rst) (nx:Bool) (o:Option Nat):Rst :=
 if z.begun then
  if nx then (if z.fails p then z.wrt p else { z.wrt p with pl:=updL z.pl z.wrote 5,wrote:=z.wrote+1 })
  else match o with
   | some k=>{ z with pl:=updL z.pl k (if z.stop=0 then 4 else 6) }
   | none=>if z.stop=0 then { z.wrt p with whole:=!z.fails p,en:=updL z.en 2 true } else { z with en:=updL z.en 2 true }
 else if z.stop=0 then { ({ z with begun:=true }:Rst).wrt p with head:=!z.fails p } else { z with begun:=true }
theorem y0K {p:Lpar} {x:Lsn} {r:Rad} {z:Rst} {w:World} (h:RawIs p x r z w) (hw:z.writes<=400) (b:Tab) (h1:b.pl=z.pl) (h2:b.wh=z.wh) :
 Calls prog 232 #[ptrV r.rb] w fun e w'=>e=.returned (.tuple #[])/\RawIs p x r (z.writer p (decide (z.wrote < p.N) && decide (z.pl z.wrote=4)) (oldF b p.N)) w'/\Edit r.own w w':=by
 have HO:=zZ (y0J h b h1 h2);have HN:Hid (∀ m,Calls prog 230 #[ptrV r.rb] (w.drewN m) fun e w'=>e=.returned (.bool (decide (z.wrote < p.N) && decide (z.pl z.wrote=4)))/\∃ m,w'=w.drewN m):=fun m=>(z9u (h.drewN m)).mono fun e w' ⟨h5,q,h6⟩=>⟨h5,m+q,by rw [h6,World.drewN_drewN]⟩
 have h3:=h.N3;obtain ⟨nx,hnx⟩:∃ nx,nx=(decide (z.wrote < p.N) && decide (z.pl z.wrote=4)):=⟨_,rfl⟩;have hwN:nx=true->z.wrote < p.N:=fun e=>by rw [e] at hnx;have:=(Bool.and_eq_true_iff.1 hnx.symm).1;exact of_decide_eq_true this
 have hoN:∀ k,oldF b p.N=some k->k < p.N:=fun k hk=>by
  rcases z8a b p.N with ⟨o1,-⟩ | ⟨k',o1,o2,-⟩
  . rw [o1] at hk;cases hk
  . rw [o1] at hk;cases hk;exact o2
 rw [← hnx] at HN ⊢;generalize oldF b p.N=o at *;clear h1 h2 hnx;have hk:∀ m,RawIs p x r z (w.drewN m):=fun m=>h.drewN m
 have ek:∀ m,Edit r.own w (w.drewN m):=fun m=>(Edit.refl _ _).drewN m
 have c20:=h.cells.cell 20;have c23:=h.cells.cell 23;have c11:=h.cells.cell 11;have c19:=h.cells.cell 19;have f20:=h.cells.free 20;simp [rfC,rowV] at c20 c23 c11 c19;unfold Rst.writer;rcases (zH z.begun).symm with hb | hb
 . rw [if_neg (by rw [hb];simp)]
   rw [hb] at c20;have hB:∀ m,RawIs p x r { z with begun:=true } ((w.drewN m).setCell ⟨r.rb,20,none⟩ (.bool true)):=fun m=>(hk m).setS 20 (.bool true) rfl
   have eB:∀ m,Edit r.own w ((w.drewN m).setCell ⟨r.rb,20,none⟩ (.bool true)):=fun m=>edC (ek m) (by simp [Rad.own]) _ _
   by_cases hs:z.stop=0
   . rw [if_pos hs]
     have HW:=zZ (fun m=>z4T (hB m) hw);have HE:=zZ (fun m u (hE:Edit r.own ((w.drewN m).setCell ⟨r.rb,20,none⟩ (.bool true)) u) (hR:RawIs p x r (({ z with begun:=true }:Rst).wrt p) u)=>And.intro (hR.setS (z':={ ({ z with begun:=true }:Rst).wrt p with head:=!z.fails p }) 21 (.bool (!z.fails p)) rfl) (edC ((eB m).trans hE) (show r.own r.rb by simp [Rad.own]) 21 (.bool (!z.fails p))));rw [hs] at c23;have g:({ z with begun:=true }:Rst).fails p=z.fails p:=rfl;rw [g] at HW;generalize z.fails p=fl at *;clear h hk ek hB eB hwN hoN g;unfold ptrV at *
     go_enter func232,ntmps232
     go_wp2_with (first
      | (go_at_call 279;refine HO.out.mono ?_;rintro e u2 ⟨rfl,m1,rfl⟩;clear HO)
      | (go_at_call 230;refine (HN.out _).mono ?_;rintro e u2 ⟨rfl,m2,rfl⟩;clear HN)
      | (go_at_call 280;refine (HW.out _).mono ?_;rintro e u2 ⟨rfl,h5,h6⟩;have d21:=h5.cells.cell 21;have g21:=h5.cells.free 21;simp [rfC] at d21;have H5:=zZ (HE.out _ u2 h6 h5);clear h5 h6 HW HE))
     go_end0;exact ⟨rfl,H5.out⟩
   . rw [if_neg hs]
     have HB:=zZ (fun m=>And.intro (hB m) (eB m));have b1:((z.stop:Int) == 0)=false:=by simp;omega
     clear h hk ek hB eB hwN hoN hs;unfold ptrV at *
     go_enter func232,ntmps232
     go_wp2_with (first
      | (go_at_call 279;refine HO.out.mono ?_;rintro e u2 ⟨rfl,m1,rfl⟩;clear HO)
      | (go_at_call 230;refine (HN.out _).mono ?_;rintro e u2 ⟨rfl,m2,rfl⟩;clear HN))
     go_end0;exact ⟨rfl,HB.out _⟩
 . rw [if_pos hb]
   rw [hb] at c20;clear hb;cases nx with
   | true =>
    rw [if_pos rfl];have hlt:=hwN rfl;have HW:=zZ (fun m=>z4T (hk m) hw);have g0:=(y1K (p:=p) (z:=z)).2.2.2.2;cases hfl:z.fails p with
    | true =>
     rw [if_pos rfl];rw [hfl] at HW;have HE:=zZ (fun m u (hE:Edit r.own (w.drewN m) u)=>(ek m).trans hE);clear h hk ek hwN hoN hfl g0;unfold ptrV at *
     go_enter func232,ntmps232
     go_wp2_with (first
      | (go_at_call 279;refine HO.out.mono ?_;rintro e u2 ⟨rfl,m1,rfl⟩;clear HO)
      | (go_at_call 230;refine (HN.out _).mono ?_;rintro e u2 ⟨rfl,m2,rfl⟩;clear HN)
      | (go_at_call 280;refine (HW.out _).mono ?_;rintro e u2 ⟨rfl,h5,h6⟩;have H5:=zZ (And.intro h5 (HE.out _ u2 h6));clear h5 h6 HW HE))
     go_end0;exact ⟨rfl,H5.out⟩
    | false =>
     rw [if_neg (by simp)];rw [hfl] at HW;have g1:z.wrt p={ z with writes:=z.writes+1 }:=by unfold Rst.wrt;rw [hfl];simp
     rw [g1] at HW ⊢;have w1:I.wrap ((z.wrote:Int)+1)=((z.wrote+1:Nat):Int):=by rw [zK];omega
     have HE:=zZ (fun m u (hE:Edit r.own (w.drewN m) u) (hR:RawIs p x r { z with writes:=z.writes+1 } u) q=>And.intro (((hR.drewN q).setAt z.wrote 5).setS (z':={ z with writes:=z.writes+1,pl:=updL z.pl z.wrote 5,wrote:=z.wrote+1 }) 16 (O I ((z.wrote+1:Nat):Int)) rfl) (edC (edC (((ek m).trans hE).drewN q) (show r.own r.ra by simp [Rad.own]) z.wrote (O I (5:Nat))) (show r.own r.rb by simp [Rad.own]) 16 (O I ((z.wrote+1:Nat):Int))));have a1:=h.apart.1;have e5:(O I (5:Nat):Value)=O I 5:=rfl;rw [e5] at HE;generalize z.wrote+1=wn at *;clear h hk ek hwN hoN hfl g0 g1 e5;unfold ptrV at *
     go_enter func232,ntmps232
     go_wp2_with (first
      | (go_at_call 279;refine HO.out.mono ?_;rintro e u2 ⟨rfl,m1,rfl⟩;clear HO)
      | (go_at_call 230;refine (HN.out _).mono ?_;rintro e u2 ⟨rfl,m2,rfl⟩;clear HN)
      | (go_at_call 280;refine (HW.out _).mono ?_;rintro e u2 ⟨rfl,h5,h6⟩;have d11:=h5.cells.cell 11;have d16:=h5.cells.cell 16;have g16:=h5.cells.free 16;simp [rfC,rowV] at d11 d16;have d5:=h5.ra.cell hlt;have g5:=h5.ra.frozen z.wrote;have H5:=zZ (HE.out _ u2 h6 h5);clear h5 h6 HW HE))
     have hS0:u2.drew.cell? ⟨r.rb,11,none⟩=some (.slice (some ⟨r.ra,0,none⟩) p.N p.N)/\u2.drew.cell? ⟨r.rb,16,none⟩=some (O I z.wrote):=⟨d11,d16⟩;have hS1:(u2.setCell ⟨r.ra,z.wrote,none⟩ (O I 5)).drew.cell? ⟨r.rb,11,none⟩=some (.slice (some ⟨r.ra,0,none⟩) p.N p.N)/\(u2.setCell ⟨r.ra,z.wrote,none⟩ (O I 5)).drew.cell? ⟨r.rb,16,none⟩=some (O I z.wrote):=⟨(World.cell?_of_block (w:=u2) (blk_setCell_other _ _ _ _ a1)).trans d11,(World.cell?_of_block (w:=u2) (blk_setCell_other _ _ _ _ a1)).trans d16⟩
     go_region_held3 (fun w'=>w'.cell? ⟨r.rb,11,none⟩=some (.slice (some ⟨r.ra,0,none⟩) p.N p.N)/\w'.cell? ⟨r.rb,16,none⟩=some (O I z.wrote)) (with_reducible assumption) (fail)
     go_wp2;go_end0;exact ⟨rfl,H5.out 1⟩
   | false =>
    rw [if_neg (by simp)];cases o with
    | some k =>
     have hkN:=hoN k rfl;have q1:decide ((0:Int)<=(k:Int))=true:=zL zU;unfold holV at *;have c5:=h.ra.cell hkN;have f5:=h.ra.frozen k;have k23:∀ m,((w.drewN m).setCell ⟨r.ra,k,none⟩ (O I 4)).cell? ⟨r.rb,23,none⟩=some (O I z.stop):=fun m=>by
      have:=((hk m).setAt k 4).cells.cell 23
      simpa [rfC] using this
     have k11:∀ m,((w.drewN m).setCell ⟨r.ra,k,none⟩ (O I 4)).cell? ⟨r.rb,11,none⟩=some (.slice (some ⟨r.ra,0,none⟩) p.N p.N):=fun m=>by
      have:=((hk m).setAt k 4).cells.cell 11
      simpa [rfC,rowV] using this
     by_cases hs:z.stop=0
     . simp only [if_pos hs]
       have HB:=zZ (fun m=>And.intro ((hk m).setAt k 4) (edC (ek m) (show r.own r.ra by simp [Rad.own]) k (O I (4:Nat))));have b1:((z.stop:Int) != 0)=false:=by simp;omega
       clear h hk ek hwN hoN hs;unfold ptrV at *
       go_enter func232,ntmps232
       go_wp2_with (first
        | (go_at_call 279;refine HO.out.mono ?_;rintro e u2 ⟨rfl,m1,rfl⟩;clear HO)
        | (go_at_call 230;refine (HN.out _).mono ?_;rintro e u2 ⟨rfl,m2,rfl⟩;clear HN))
       go_end0;exact ⟨rfl,HB.out _⟩
     . simp only [if_neg hs]
       have HB:=zZ (fun m=>And.intro ((((hk m).setAt k 4).setAt k 6).congr (f:=updL z.pl k 6) fun i _=>by simp only [updL];split <;> rfl) (edC (edC (ek m) (show r.own r.ra by simp [Rad.own]) k (O I (4:Nat))) (show r.own r.ra by simp [Rad.own]) k (O I (6:Nat))));have b1:((z.stop:Int) != 0)=true:=by simp;omega
       have f6:=fun m=>((hk m).setAt k 4).ra.frozen k
       have c6:=fun m=>((hk m).setAt k 4).ra.cell hkN
       clear h hk ek hwN hoN hs;unfold ptrV at *
       go_enter func232,ntmps232
       go_wp2_with (first
        | (go_at_call 279;refine HO.out.mono ?_;rintro e u2 ⟨rfl,m1,rfl⟩;clear HO)
        | (go_at_call 230;refine (HN.out _).mono ?_;rintro e u2 ⟨rfl,m2,rfl⟩;clear HN))
       go_end0;exact ⟨rfl,HB.out _⟩
    | none =>
     unfold holV at *;have c2:=h.re.cell (show 2 < 3+p.W by omega);have f2:=h.re.frozen 2;have lW:¬ 3+p.W<=2:=zU
     by_cases hs:z.stop=0
     . simp only [if_pos hs]
       have HW:=zZ (fun m=>z4T (hk m) hw);have HE:=zZ (fun m u (hE:Edit r.own (w.drewN m) u) (hR:RawIs p x r (z.wrt p) u)=>And.intro ((hR.setS (z':={ z.wrt p with whole:=!z.fails p }) 22 (.bool (!z.fails p)) rfl).setEn 2 true) (edC (edC ((ek m).trans hE) (show r.own r.rb by simp [Rad.own]) 22 (.bool (!z.fails p))) (show r.own r.re by simp [Rad.own]) 2 (.bool true)));have HC:=zZ (fun u (hR:RawIs p x r (z.wrt p) u)=>let y:=hR.setS (z':={ z.wrt p with whole:=!z.fails p }) 22 (.bool (!z.fails p)) rfl;And.intro (y.cells.cell 19) (And.intro (y.re.cell (show 2 < 3+p.W by omega)) (y.re.frozen 2)));rw [hs] at c23;rw [(y1K (p:=p) (z:=z)).2.2.2.1] at HE;generalize z.fails p=fl at *;clear h hk ek hwN hoN hs;unfold ptrV at *
       go_enter func232,ntmps232
       go_wp2_with (first
        | (go_at_call 279;refine HO.out.mono ?_;rintro e u2 ⟨rfl,m1,rfl⟩;clear HO)
        | (go_at_call 230;refine (HN.out _).mono ?_;rintro e u2 ⟨rfl,m2,rfl⟩;clear HN)
        | (go_at_call 280;refine (HW.out _).mono ?_;rintro e u2 ⟨rfl,h5,h6⟩;have d22:=h5.cells.cell 22;have g22:=h5.cells.free 22;simp [rfC] at d22;obtain ⟨y1,y2,y3⟩:=HC.out u2 h5;simp [rfC,rowV] at y1;have H5:=zZ (HE.out _ u2 h6 h5);clear h5 h6 HW HE HC))
       go_end0;exact ⟨rfl,H5.out⟩
     . simp only [if_neg hs]
       have HB:=zZ (fun m=>And.intro ((hk m).setEn 2 true) (edC (ek m) (show r.own r.re by simp [Rad.own]) 2 (.bool true)));have b1:((z.stop:Int) == 0)=false:=by simp;omega
       clear h hk ek hwN hoN hs;unfold ptrV at *
       go_enter func232,ntmps232
       go_wp2_with (first
        | (go_at_call 279;refine HO.out.mono ?_;rintro e u2 ⟨rfl,m1,rfl⟩;clear HO)
        | (go_at_call 230;refine (HN.out _).mono ?_;rintro e u2 ⟨rfl,m2,rfl⟩;clear HN))
       go_end0;exact ⟨rfl,HB.out _⟩
def Rst.worker (z:Rst) (t:Nat) (o j:Option Nat):Rst :=
 match o with
 | some k=>if z.stop=0 then { z with pl:=updL z.pl k 3,wh:=updL z.wh k z.turn,turn:=z.turn+1 } else { z with pl:=updL z.pl k 6 }
 | none=>match j with
  | some k=>{ z with pl:=updL z.pl k 2,by_:=updL z.by_ k t }
  | none=>{ z with en:=updL z.en t true }
theorem y2X {f:Nat->Nat} {k a v:Nat} (i:Nat):updL (updL f k a) k v i=updL f k v i:=by
 simp only [updL];split <;> rfl
theorem y0L {p:Lpar} {x:Lsn} {r:Rad} {z:Rst} {w:World} (h:RawIs p x r z w) (t:Nat) (o j:Option Nat) (ho:∀ i,i < p.N->((z.pl i=2/\z.by_ i=t)↔o=some i)) (hoN:∀ i,o=some i->i < p.N) (ht:t < 3+p.W) (hturn:z.turn<=300)
 (hj1:∀ k,j=some k->k < p.N/\z.pl k=1/\∀ i,i < k->z.pl i ≠ 1) (hj0:j=none->∀ i,i < p.N->z.pl i ≠ 1) :
 Calls prog 233 #[ptrV r.rb,O I t] w fun e w'=>e=.returned (.tuple #[])/\RawIs p x r (z.worker t o j) w'/\Edit r.own w w':=by
 have HH:=zZ (z3N h t o ho hoN);have h3:=h.N3;have hW8:=h.W8;have c11:=h.cells.cell 11;have c12:=h.cells.cell 12;have c13:=h.cells.cell 13;have c14:=h.cells.cell 14;have c19:=h.cells.cell 19;have c23:=h.cells.cell 23;have f14:=h.cells.free 14;simp [rfC,rowV] at c11 c12 c13 c14 c19 c23;have oA:r.own r.ra:=by simp [Rad.own]
 have oB:r.own r.rb:=by simp [Rad.own]
 have oY:r.own r.ry:=by simp [Rad.own]
 have oW:r.own r.rw:=by simp [Rad.own]
 have oE:r.own r.re:=by simp [Rad.own]
 have ek:Edit r.own w w:=Edit.refl _ _;unfold Rst.worker;obtain ⟨a1,a2,a3,a4,a5,a6,a7⟩:=h.apart;obtain ⟨b1,b2,b3⟩:=h.ne;clear ho;cases o with
 | some k =>
  have hk:=hoN k rfl;have q1:decide ((0:Int)<=(k:Int))=true:=zL zU;unfold holV at *;have c5:=h.ra.cell hk;have f5:=h.ra.frozen k;have y1:=h.setAt k 6;have z11:=y1.cells.cell 11;have z23:=y1.cells.cell 23;have z5:=y1.ra.cell hk;have g5:=y1.ra.frozen k;simp [rfC,rowV] at z11 z23;have e6:(O I (6:Nat):Value)=O I 6:=rfl;rw [e6] at z5 g5 y1
  by_cases hs:z.stop=0
  . rw [hs] at z23
    simp only [if_pos hs];have y2:=y1.setAt k 3;have e3:(O I (3:Nat):Value)=O I 3:=rfl;rw [e3] at y2;have E2:=edC (edC ek oA k (O I 6)) oA k (O I 3);generalize hu1:w.setCell ⟨r.ra,k,none⟩ (O I 6)=u1 at *;generalize hu2:u1.setCell ⟨r.ra,k,none⟩ (O I 3)=u2 at *;have x13:=y2.cells.cell 13;have x14:=y2.cells.cell 14;have xw:=y2.rw.cell hk;have gw:=y2.rw.frozen k;simp [rfC,rowV] at x13 x14;have y3:=fun m=>((y2.drewN m).setWh k z.turn)
    have gx:=y2.cells.free 14;have tn:I.wrap ((z.turn:Int)+1)=((z.turn+1:Nat):Int):=by rw [zK];omega
    have HZ:=zZ (fun m=>And.intro (((y3 m).setS (z':={ z with pl:=updL (updL z.pl k 6) k 3,wh:=updL z.wh k z.turn,turn:=z.turn+1 }) 14 (O I ((z.turn+1:Nat):Int)) rfl).congr (f:=updL z.pl k 3) fun i _=>y2X i) (edC (edC (E2.drewN m) oW k (O I z.turn)) oB 14 (O I ((z.turn+1:Nat):Int))));generalize z.turn+1=tn1 at *;have hS0:u2.drew.cell? ⟨r.rb,13,none⟩=some (.slice (some ⟨r.rw,0,none⟩) p.N p.N)/\u2.drew.cell? ⟨r.rb,14,none⟩=some (O I z.turn):=⟨x13,x14⟩;have hS1:(u2.setCell ⟨r.rw,k,none⟩ (O I z.turn)).drew.cell? ⟨r.rb,13,none⟩=some (.slice (some ⟨r.rw,0,none⟩) p.N p.N)/\(u2.setCell ⟨r.rw,k,none⟩ (O I z.turn)).drew.cell? ⟨r.rb,14,none⟩=some (O I z.turn):=⟨(World.cell?_of_block (w:=u2) (blk_setCell_other _ _ _ _ a3)).trans x13,(World.cell?_of_block (w:=u2) (blk_setCell_other _ _ _ _ a3)).trans x14⟩;clear h ek y1 y2 y3 E2 hoN hj1 hj0 hs;unfold ptrV at *
    go_enter func233,ntmps233
    go_wp2_with (first | (go_at_call 173;refine HH.out.mono ?_;rintro e u ⟨rfl,hu⟩;subst u;clear HH))
    go_region_held3 (fun w'=>w'.cell? ⟨r.rb,13,none⟩=some (.slice (some ⟨r.rw,0,none⟩) p.N p.N)/\w'.cell? ⟨r.rb,14,none⟩=some (O I z.turn)) (with_reducible assumption) (fail)
    go_wp2;refine bodyPost_ret (results_none rfl _ _ _) rfl ?_;exact ⟨rfl,HZ.out 1⟩
  . have b0:((z.stop:Int) == 0)=false:=by simp;omega
    simp only [if_neg hs];have HZ:=zZ (And.intro y1 (edC ek oA k (O I 6)));clear h ek y1 hoN hj1 hj0 hs;unfold ptrV at *
    go_enter func233,ntmps233
    go_wp2_with (first | (go_at_call 173;refine HH.out.mono ?_;rintro e u ⟨rfl,hu⟩;subst u;clear HH))
    refine bodyPost_ret (results_none rfl _ _ _) rfl ?_;exact ⟨rfl,HZ.out⟩
 | none =>
  unfold holV at *;have HR:=zZ h;have HJ1:=zZ hj1;have HJ0:=zZ hj0;clear h hj1 hj0 hoN ek;unfold ptrV at *
  go_enter func233,ntmps233
  go_wp2_with (first | (go_at_call 173;refine HH.out.mono ?_;rintro e u ⟨rfl,hu⟩;subst u;clear HH))
  go_loopw [5] (fun s5 wr=>∃ q:Nat,q<=p.N/\s5=O I q/\(∀ i,i < q->z.pl i ≠ 1)/\wr=w) (fun s5 _=>p.N - (intOf s5).toNat)
  case atStart=>exact ⟨0,zJ _,rfl,fun i hi=>absurd hi (Nat.not_lt_zero _),rfl⟩
  case round =>
   obtain ⟨q,hq,rfl,hno,rfl⟩:=hrel;have HQ:=zZ hno;clear hno
   by_cases hlt:q < p.N
   . have hd:=HR.out.ra.cell hlt
     have hf:=HR.out.ra.frozen q
     by_cases he:z.pl q=1
     . have e2:(((z.pl q:Nat):Int) == 1)=true:=by simp;omega
       have hjq:j=some q:=by
        cases hj:j with
        | none=>exact absurd he (HJ0.out hj q hlt)
        | some k =>
         obtain ⟨k1,k2,k3⟩:=HJ1.out k hj;have l1:¬ q < k:=fun hc=>k3 q hc he
         have l2:¬ k < q:=fun hc=>HQ.out k hc k2
         rw [show k=q by omega]
       have y1:=HR.out.setAt q 2;have e22:(O I (2:Nat):Value)=O I 2:=rfl;rw [e22] at y1;have HZ:=zZ (And.intro (y1.setBy q t) (edC (edC (Edit.refl r.own wr) oA q (O I 2)) oY q (O I t)));generalize hu1:wr.setCell ⟨r.ra,q,none⟩ (O I 2)=u1 at *;have x12:=y1.cells.cell 12;have xy:=y1.ry.cell hlt;have gy:=y1.ry.frozen q;simp [rfC,rowV] at x12;clear he y1 HR HQ HJ0 HJ1;subst hjq;go_wp2;refine bodyPost_ret (results_none rfl _ _ _) rfl ?_;exact ⟨rfl,HZ.out⟩
     . have e2:(((z.pl q:Nat):Int) == 1)=false:=by simp;omega
       have Hn:=zZ he;clear he;go_wp2
       go_roundw
       case rel=>exact ⟨q+1,zU,zS,fun i hi=>by rcases Nat.lt_succ_iff_lt_or_eq.1 hi with h5 | h5;exact HQ.out i h5;rw [h5];exact Hn.out,trivial⟩
       case measure=>simp [intOf];omega
   . have e:q=p.N:=zU
     subst e;have hjq:j=none:=by
      cases hj:j with
      | none=>rfl
      | some k =>
       obtain ⟨k1,k2,k3⟩:=HJ1.out k hj;exact absurd k2 (HQ.out k k1)
     have HZ:=zZ (And.intro (HR.out.setEn t true) (edC (Edit.refl r.own wr) oE t (.bool true)));have xe:=HR.out.re.cell ht;have ge:=HR.out.re.frozen t;clear HR HQ HJ0 HJ1;subst hjq;go_wp2;go_end0;exact ⟨rfl,HZ.out⟩
end Go.Proofs.YtlncjgnomhpjnabGreatDoor
