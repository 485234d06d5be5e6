import Derived.Test.YtlncjgnomhpjnabGreatDoorQL17
import Derived.Test.YtlncjgnomhpjnabGreatDoorQL23
set_option maxRecDepth 100000
namespace Go.Proofs.YtlncjgnomhpjnabGreatDoor
open Go.Value renaming int → O
open Go.IntKind renaming i64 → I
open Go.Proofs.Tryz
open Go.RowKit Go.Deep
set_option linter.unusedVariables false
structure Lad where
 lb:Nat
 sp:Nat
 su:Nat
 wr:Nat
 qj:Nat
 ql:Nat
 qr:Nat
 cj:Nat
 cl:Nat
 cr:Nat
 tb:Nat
 tc:Nat
 wb:Nat
 wc:Nat
 wk:Nat->Nat
 lg:Nat
 lc:Nat
 A:Nat->Option Addr
 C:Nat->Nat
 gb:Nat->Nat
 b1:Nat
structure Lsn where
 ch:Nat
 d:Nat
 B:Nat
 c3:Nat
 c4:Nat
 S:Nat
 G:Nat->Nat->Int
def ptrV (b:Nat):Value:=.pointer (some ⟨b,0,none⟩)
def blV (a:Lad) (x:Lsn) (k:Nat):Value:=.agg #[O I k,.slice (some ⟨a.gb k,0,none⟩) x.ch x.ch]
def pkV (x:Lsn) (k:Nat):Value:=.agg #[O I k,.string (bs (frT x.d x.ch x.G x.S x.B k))]
def shlV (x:Lsn):List Nat->List Value
 | []=>[]
 | k :: r=>O I k :: .string (bs (frT x.d x.ch x.G x.S x.B k)) :: shlV x r
def frLn (x:Lsn) (k:Nat):Nat:=(frT x.d x.ch x.G x.S x.B k).length
def smN (x:Lsn) (k:Nat):Nat:=sumN (intT x.ch x.G (2 * (min (k * x.B) x.S * x.ch)))
def hdT (x:Lsn):Nat->List UInt8
 | 0=>[]
 | 1=>z1L 0 x.ch x.d x.B x.c3 x.S x.c4 0 0 0 (List.replicate (nPts x.S x.B x.c4) 0)
 | _=>z1L 1 x.ch x.d x.B x.c3 x.S x.c4 (z0P (frLn x) (nBlk x.S x.B)) (z1A (frLn x) (nBlk x.S x.B)) (sumN (intT x.ch x.G (2 * (x.S * x.ch)))) (pntN (frLn x) x.c4 (nBlk x.S x.B))
def z2E (a:Lad):Nat->Value
 | 0=>.iface 154 (ptrV a.sp)
 | 1=>.iface 155 (ptrV a.su)
 | 2=>.iface 156 (ptrV a.wr)
 | j+3=>.iface 170 (ptrV (a.wk j))
def lnC (p:Lpar) (a:Lad) (x:Lsn) (s:Lst) (sv fv:Value):Array Value :=
 #[O I x.ch,O I x.d,O I x.B,O I x.c3,O I x.c4,O I p.W,O I p.Wd,O I p.Rm,
  O I x.ch,O I x.d,O I x.B,O I x.c3,O I x.c4,O I x.S,
  ptrV a.qj,ptrV a.ql,ptrV a.qr,sv,O I p.fail,O I s.writes,.bool s.failed,.string (bs (hdT x s.hd)),fv,.bool s.stopped,
  ptrV a.sp,ptrV a.su,ptrV a.wr,.slice (some ⟨a.wb,0,none⟩) p.W a.wc,.slice (some ⟨a.tb,0,none⟩) (3+p.W) a.tc]
def heV (hv:Nat->Nat) (s:Lst) (j:Nat):Value:=match s.held j with
 | none=>.pointer none
 | some _=>ptrV (hv j)
def kn (w:World) (k:Nat):Nat:=match w.heap[k]? with
 | some (.cells _ t _)=>t+1
 | _=>0
theorem y2H {w w':World} {k:Nat} (h:w'.heap[k]?=w.heap[k]?):kn w' k=kn w k:=by unfold kn;rw [h]
theorem Bx.kn {w:World} {b:Nat} {t:TypeId} {cs:Array Value} (h:Bx w b t cs):kn w b=t+1:=by unfold Go.Proofs.YtlncjgnomhpjnabGreatDoor.kn;rw [show w.heap[b]?=_ from h]
structure LineIs (p:Lpar) (a:Lad) (x:Lsn) (F:Nat->Prop) (s:Lst) (w:World):Prop where
 kp:KP x.d x.ch x.B x.c3 x.c4 x.S x.G
 NB:p.N=nBlk x.S x.B
 W8:p.W<=8
 d16:p.Wd<=16
 R8:p.Rm<=8
 cells:∃ sv fv lv,Bx w a.lb 160 (lnC p a x s sv fv) /\
  Bx w a.wr 169 #[ptrV a.lb,.bool s.e2,.bool s.begun,lv] /\
  w.ownsRow a.b1 149 2 sv s.shelf.length (shlV x s.shelf)/\(∀ g,sv.ownBlock=some g->F g) /\
  w.ownsRow a.b1 5 1 fv (frsT x.d x.ch x.G x.S x.B s.wrote).length ((frsT x.d x.ch x.G x.S x.B s.wrote).map fun b=>.int .u8 (b.toNat:Int))/\(∀ g,fv.ownBlock=some g->F g) /\
  w.ownsRow a.b1 3 1 lv s.wrote ((List.range s.wrote).map fun k=>O I (frLn x k))/\(∀ g,lv.ownBlock=some g->F g)
 spl:Bx w a.sp 165 #[ptrV a.lb,.bool s.e0,.slice (some ⟨a.lg,0,none⟩) x.ch a.lc,O I s.given]
 sum:Bx w a.su 167 #[ptrV a.lb,.bool s.e1,O I s.summed,O I (smN x s.summed)]
 wrk:∃ hv:Nat->Nat,(∀ j,j < p.W->Bx w (a.wk j) 173 #[ptrV a.lb,.bool (s.ew j),heV hv s j]) /\
  ∀ j k,j < p.W->s.held j=some k->F (hv j)/\Bx w (hv j) 145 #[O I k,.slice (some ⟨a.gb k,0,none⟩) x.ch x.ch]
 jobs:QIs w a.qj a.cj 247 p.Rm (s.jobs.map (blV a x)).toArray s.e0
 lane:QIs w a.ql a.cl 247 p.Rm (s.lane.map (blV a x)).toArray s.e0
 ready:QIs w a.qr a.cr 250 p.Rm (s.ready.map (pkV x)).toArray (s.shut p)
 tasks:w.ownsRow 0 178 1 (.slice (some ⟨a.tb,0,none⟩) (3+p.W) a.tc) (3+p.W) ((List.range (3+p.W)).map (z2E a))
 works:w.ownsRow 0 170 1 (.slice (some ⟨a.wb,0,none⟩) p.W a.wc) p.W ((List.range p.W).map fun j=>ptrV (a.wk j))
 blocks:∀ k,k < s.given->F (a.gb k)/\w.rowIs (a.gb k) 30 x.ch (blkV a.A a.C (k * x.B) (blkN x.S x.B k) x.ch)
 lists:ListsAt w (some ⟨a.lg,0,none⟩) x.ch a.A (fun _=>x.S) a.C
 ints:∀ i,i < x.ch->IntsAt w (a.A i) x.S (x.G i)
 caps:∀ i,i < x.ch->x.S<=a.C i
 low:Low a.b1 (some ⟨a.lg,0,none⟩) x.ch a.A (fun _=>x.S)
 lowF:F a.lg/\∀ i,i < x.ch->∀ y,a.A i=some y->0 < x.S->F y.block
 own:F a.lb/\F a.sp/\F a.su/\F a.wr/\F a.qj/\F a.ql/\F a.qr/\F a.cj/\F a.cl/\F a.cr/\F a.tb/\F a.wb/\∀ j,j < p.W->F (a.wk j)
 lt:∀ k,F k->k < w.heap.size
 ne:a.qj ≠ a.ql/\a.cj ≠ a.cl/\a.cj ≠ a.cr/\a.cl ≠ a.cr/\∀ i j,i < p.W->j < p.W->a.wk i=a.wk j->i=j
 b1:a.b1<=w.heap.size
 kl:kn w a.lg=30+1
 ka:∀ i,i < x.ch->∀ y,a.A i=some y->0 < x.S->kn w y.block=3+1
def actV (a:Lad):Option LAct->Value
 | none=>.nilFunc
 | some (0,_)=>.func (.func 374) #[ptrV a.sp] #[]
 | some (1,_)=>.func (.func 380) #[ptrV a.sp] #[]
 | some (2,_)=>.func (.func 383) #[ptrV a.su] #[]
 | some (3,_)=>.func (.func 386) #[ptrV a.wr] #[]
 | some (4,_)=>.func (.func 388) #[ptrV a.wr] #[]
 | some (5,_)=>.func (.func 390) #[ptrV a.wr] #[]
 | some (6,j)=>.func (.func 411) #[ptrV (a.wk j)] #[]
 | some (7,j)=>.func (.func 412) #[ptrV (a.wk j)] #[]
 | some (_+8,j)=>.func (.func 414) #[ptrV (a.wk j)] #[]
theorem y0s {w:World} {base:Nat} {e:TypeId} {size:Nat} {v:Value} {n:Nat} {xs:List Value} (h:w.ownsRow base e size v n xs):∃ b c,v=.slice b n c:=by
 rcases h.2 with ⟨rfl,rfl⟩ | ⟨g,cap,cur,rfl,-⟩
 . exact ⟨_,_,rfl⟩
 . exact ⟨_,_,rfl⟩
theorem z1z {w w':World} {base:Nat} {e:TypeId} {size:Nat} {v:Value} {n:Nat} {xs:List Value} (h:w.ownsRow base e size v n xs) (hb:∀ g,v.ownBlock=some g->w'.heap[g]?=w.heap[g]?):w'.ownsRow base e size v n xs:=by
 refine ⟨h.1,?_⟩;rcases h.2 with ⟨rfl,rfl⟩ | ⟨g,cap,cur,rfl,h1,h2,h3⟩
 . exact Or.inl ⟨rfl,rfl⟩
 . exact Or.inr ⟨g,cap,cur,rfl,h1,(hb g rfl).trans h2,h3⟩
theorem z2B {w w':World} {g:Nat} {e:TypeId} {n:Nat} {f:Nat->Value} (h:w.rowIs g e n f) (hb:w'.heap[g]?=w.heap[g]?):w'.rowIs g e n f:=by
 obtain ⟨c,h1,h2⟩:=h;exact ⟨c,hb.trans h1,h2⟩
theorem z4O {w w':World} {y:Addr} (hb:w'.heap[y.block]?=w.heap[y.block]?):w'.cell? y=w.cell? y:=by simp [World.cell?,hb]
theorem QIs.at {w w':World} {q c:Nat} {t:TypeId} {cap:Nat} {buf:Array Value} {cl:Bool} (h:QIs w q c t cap buf cl) (hq:w'.heap[q]?=w.heap[q]?) (hc:w'.heap[c]?=w.heap[c]?):QIs w' q c t cap buf cl:=by
 obtain ⟨s,r,hch⟩:=h.chan;exact ⟨h.cells.of hq,s,r,hc.trans hch⟩
theorem LineIs.keep {p:Lpar} {a:Lad} {x:Lsn} {F:Nat->Prop} {s:Lst} {w w':World} (h:LineIs p a x F s w) (hF:∀ k,F k->w'.heap[k]?=w.heap[k]?) (hs:w.heap.size<=w'.heap.size):LineIs p a x F s w':=by
 obtain ⟨o1,o2,o3,o4,o5,o6,o7,o8,o9,o10,o11,o12,o13⟩:=h.own;obtain ⟨sv,fv,lv,c1,c2,c3,c4,c5,c6,c7,c8⟩:=h.cells;obtain ⟨hv,k1,k2⟩:=h.wrk;refine ⟨h.kp,h.NB,h.W8,h.d16,h.R8,⟨sv,fv,lv,c1.of (hF _ o1),c2.of (hF _ o4),z1z c3 fun g hg=>hF _ (c4 g hg),c4,z1z c5 fun g hg=>hF _ (c6 g hg),c6,z1z c7 fun g hg=>hF _ (c8 g hg),c8⟩,h.spl.of (hF _ o2),h.sum.of (hF _ o3),
  ⟨hv,fun j hj=>(k1 j hj).of (hF _ (o13 j hj)),fun j k hj hk=>⟨(k2 j k hj hk).1,(k2 j k hj hk).2.of (hF _ (k2 j k hj hk).1)⟩⟩,h.jobs.at (hF _ o5) (hF _ o8),h.lane.at (hF _ o6) (hF _ o9),h.ready.at (hF _ o7) (hF _ o10),
  z1z h.tasks fun g hg=>hF _ (by cases hg;exact o11),z1z h.works fun g hg=>hF _ (by cases hg;exact o12),fun k hk=>⟨(h.blocks k hk).1,z2B (h.blocks k hk).2 (hF _ (h.blocks k hk).1)⟩,
  fun i hi=>?_,fun i hi j hj=>?_,h.caps,h.low,h.lowF,h.own,fun k hk=>zP (h.lt k hk) hs,h.ne,zO h.b1 hs,(y2H (hF _ h.lowF.1)).trans h.kl,fun i hi y hy h0=>(y2H (hF _ (h.lowF.2 i hi y hy h0))).trans (h.ka i hi y hy h0)⟩
 . obtain ⟨y,hy,hc⟩:=h.lists i hi
   cases hy;exact ⟨_,rfl,(z4O (hF _ (by cases i <;> exact h.lowF.1))).trans hc⟩
 . obtain ⟨y,hy,hc⟩:=h.ints i hi j hj
   exact ⟨y,hy,(z4O (hF _ (by cases j <;> exact h.lowF.2 i hi y hy zU))).trans hc⟩
section
variable {p:Lpar} {a:Lad} {x:Lsn} {F:Nat->Prop} {s:Lst} {w:World}
theorem LineIs.drew (h:LineIs p a x F s w):LineIs p a x F s w.drew:=h.keep (fun _ _=>rfl) zY
theorem LineIs.heap {p:Lpar} {a:Lad} {x:Lsn} {F:Nat->Prop} {s:Lst} {w u:World} (h:LineIs p a x F s w) (e:u.heap=w.heap):LineIs p a x F s u:=h.keep (fun _ _=>by rw [e]) (by rw [e];exact Nat.le_refl _)
theorem z4d (h:LineIs p a x F s w) :
 Calls prog 107 #[ptrV a.wr] w fun e w'=>e=.returned (O I s.wrote)/\w'=w:=by
 obtain ⟨sv,fv,lv,hl,hw,-,-,-,-,ho,-⟩:=h.cells;obtain ⟨b,c,rfl⟩:=y0s ho;have x3:=hw.cell 3;simp at x3;clear h hl hw ho;unfold ptrV
 go_enter func107,ntmps107
 go_wp2;go_ret;exact ⟨rfl,rfl⟩
theorem z9l (h:LineIs p a x F s w) :
 Calls prog 377 #[ptrV a.lb] w fun e w'=>e=.returned (O I p.N)/\∃ m,w'=w.drewN m:=by
 obtain ⟨sv,fv,lv,hl,hw,-⟩:=h.cells;have hS0:w.drew.cell? ⟨a.lb,10,none⟩=some (O I x.B)/\w.drew.cell? ⟨a.lb,13,none⟩=some (O I x.S):=⟨hl.cell 10,hl.cell 13⟩;have HB:=zZ (fun u=>z4N x.S x.B u h.kp.B1 (by have:=h.kp.B32;omega) (by have:=h.kp.S3;omega));rw [h.NB];clear h hl hw;generalize x.B=B at *;generalize x.S=S at *;unfold ptrV
 go_enter func377,ntmps377
 go_wp2_with fail
 go_region_held3 (fun w'=>w'.cell? ⟨a.lb,10,none⟩=some (O I B)/\w'.cell? ⟨a.lb,13,none⟩=some (O I S)) (with_reducible assumption)
  (first | (go_at_call 62;refine (HB.out _).mono ?_;rintro e u2 ⟨rfl,hw⟩;subst u2;clear HB))
 go_wp2;go_ret;exact ⟨rfl,1,rfl⟩
theorem z9m (h:LineIs p a x F s w) (hi:LInv p s) :
 Calls prog 379 #[ptrV a.lb] w fun e w'=>e=.returned (O I ((s.given - s.wrote:Nat):Int))/\∃ m,w'=w.drewN m:=by
 obtain ⟨sv,fv,lv,hl,hw,-⟩:=h.cells;have HW:=zZ (z4d h.drew);have hS0:w.drew.cell? ⟨a.lb,24,none⟩=some (ptrV a.sp)/\w.drew.cell? ⟨a.lb,26,none⟩=some (ptrV a.wr)/\w.drew.cell? ⟨a.sp,3,none⟩=some (O I s.given):=⟨hl.cell 24,hl.cell 26,h.spl.cell 3⟩;have h1:=hi.wrote;have h2:=hi.given;have h3:p.N<=300:=by rw [h.NB];exact h.kp.nb
 have e1:I.wrap ((s.given:Int) - (s.wrote:Int))=((s.given - s.wrote:Nat):Int):=by rw [zK];omega
 clear h hl hw hi;generalize s.given=gv at *;generalize s.wrote=wv at *;unfold ptrV at *
 go_enter func379,ntmps379
 go_wp2_with fail
 go_region_held3 (fun w'=>w'.cell? ⟨a.lb,24,none⟩=some (.pointer (some ⟨a.sp,0,none⟩))/\w'.cell? ⟨a.lb,26,none⟩=some (.pointer (some ⟨a.wr,0,none⟩))/\w'.cell? ⟨a.sp,3,none⟩=some (O I gv)) (with_reducible assumption)
  (first | (go_at_call 107;refine HW.out.mono ?_;rintro e u2 ⟨rfl,hw⟩;subst u2;clear HW))
 go_wp2;go_ret;exact ⟨rfl,1,rfl⟩
theorem z1O {P:Program} {f:FuncId} {args:Array Value} {w:World} {k n:Nat} {v:Value}
 (h:Calls P f args (w.drewN (k+n)) fun e w'=>e=.returned v/\∃ m,w'=(w.drewN (k+n)).drewN m):Calls P f args (w.drewN (k+n)) fun e w''=>e=.returned v/\∃ m,w''=w.drewN (k+m) :=
 h.mono fun _ _ ⟨he,m,hm⟩=>⟨he,n+m,by rw [hm,World.drewN_drewN,Nat.add_assoc]⟩
theorem y9J (h:LineIs p a x F s w) :
 Calls prog 378 #[.pointer (some ⟨a.qj,0,none⟩)] w fun e w'=>e=.returned (.bool (decide (s.jobs.length=p.Rm)))/\∃ m,w'=w.drewN m:=by
 have:=z7b _ _ _ _ _ _ h.jobs
 simpa using this
theorem y9K (h:LineIs p a x F s w) :
 Calls prog 378 #[.pointer (some ⟨a.ql,0,none⟩)] w fun e w'=>e=.returned (.bool (decide (s.lane.length=p.Rm)))/\∃ m,w'=w.drewN m:=by
 have:=z7b _ _ _ _ _ _ h.lane
 simpa using this
theorem y9L (h:LineIs p a x F s w) :
 Calls prog 413 #[.pointer (some ⟨a.qr,0,none⟩)] w fun e w'=>e=.returned (.bool (decide (s.ready.length=p.Rm)))/\∃ m,w'=w.drewN m:=by
 have:=y0n _ _ _ _ _ _ h.ready
 simpa using this
theorem jAns (h:LineIs p a x F s w) :
 Calls prog 384 #[.pointer (some ⟨a.qj,0,none⟩)] w fun e w'=>e=.returned (.bool (decide (0 < s.jobs.length) || s.e0))/\w'=w:=by
 have:=z4s _ _ _ _ _ _ h.jobs
 simpa using this
theorem lAns (h:LineIs p a x F s w) :
 Calls prog 384 #[.pointer (some ⟨a.ql,0,none⟩)] w fun e w'=>e=.returned (.bool (decide (0 < s.lane.length) || s.e0))/\w'=w:=by
 have:=z4s _ _ _ _ _ _ h.lane
 simpa using this
theorem rAns (h:LineIs p a x F s w) :
 Calls prog 389 #[.pointer (some ⟨a.qr,0,none⟩)] w fun e w'=>e=.returned (.bool (decide (0 < s.ready.length) || s.shut p))/\w'=w:=by
 have:=z6F _ _ _ _ _ _ h.ready
 simpa using this
theorem y8U (h:LineIs p a x F s w) :
 Calls prog 108 #[.pointer (some ⟨a.qj,0,none⟩)] w fun e w'=>e=.returned (O I s.jobs.length)/\w'=w:=by
 have:=z6h _ _ _ _ _ _ h.jobs
 simpa using this
theorem y8V (h:LineIs p a x F s w) :
 Calls prog 108 #[.pointer (some ⟨a.ql,0,none⟩)] w fun e w'=>e=.returned (O I s.lane.length)/\w'=w:=by
 have:=z6h _ _ _ _ _ _ h.lane
 simpa using this
theorem y7q (h:LineIs p a x F s w) :
 Calls prog 109 #[.pointer (some ⟨a.qr,0,none⟩)] w fun e w'=>e=.returned (O I s.ready.length)/\w'=w:=by
 have:=z9e _ _ _ _ _ _ h.ready
 simpa using this
set_option maxHeartbeats 1000000 in
theorem z7e (h:LineIs p a x F s w) (hi:LInv p s) :
 Calls prog 376 #[ptrV a.sp] w fun e w'=>e=.returned (actV a (s.next p 0))/\∃ m,w'=w.drewN m:=by
 obtain ⟨sv,fv,lv,hl,hw,-⟩:=h.cells;have y0:=h.spl.cell 0;have y1:=h.spl.cell 1;have y3:=h.spl.cell 3;have x23:=hl.cell 23;have x14:=hl.cell 14;have x15:=hl.cell 15;have x6:=hl.cell 6;simp [lnC,ptrV] at y0 y1 y3 x23 x14 x15 x6;unfold Lst.next;have HBL:=zZ (fun (u:World) (e:u.heap=w.heap)=>z9l (h.heap e));have HFJ:=zZ (fun (u:World) (e:u.heap=w.heap)=>y9J (h.heap e));have HFL:=zZ (fun (u:World) (e:u.heap=w.heap)=>y9K (h.heap e));have HUW:=zZ (fun (u:World) (e:u.heap=w.heap)=>z9m (h.heap e) hi);clear h hi hl hw;unfold ptrV at *;cases he0:s.e0 with
 | true =>
  rw [he0] at y1;unfold actV
  go_enter func376,ntmps376
  go_wp2;go_ret;exact ⟨rfl,0,rfl⟩
 | false =>
  rw [he0] at y1;cases hst:s.stopped with
  | true =>
   rw [hst] at x23;unfold actV ptrV
   go_enter func376,ntmps376
   go_wp2_with fail
   go_quiet (fail)
   go_wp2;go_ret;exact ⟨rfl,nq,rfl⟩
  | false =>
   rw [hst] at x23
   by_cases hN:s.given=p.N
   . have d1:decide (s.given=p.N)=true:=zL hN
     rw [hN] at y3;rw [d1];clear hN d1;unfold actV ptrV
     go_enter func376,ntmps376
     go_wp2_with fail
     go_quiet (first | (go_at_call 377;exact Calls.quiet_of (HBL.out _ rfl)))
     go_wp2;go_ret;exact ⟨rfl,nq,rfl⟩
   . have d1:decide (s.given=p.N)=false:=zM hN
     have d2:((s.given:Int) == (p.N:Int))=false:=by simp;omega
     have d3:¬ (s.given:Int)=(p.N:Int):=zU
     rw [d1];clear d1;cases f1:decide (s.jobs.length=p.Rm) with
     | true =>
      rw [f1] at HFJ;unfold actV ptrV
      go_enter func376,ntmps376
      go_wp2_with fail
      go_quiet (first | (go_at_call 377;exact Calls.quiet_of (HBL.out _ rfl)))
      go_wp2_with fail
      go_quiet (first | (go_at_call 378;exact z1O (HFJ.out _ rfl)))
      go_wp2;go_ret;exact ⟨rfl,_,rfl⟩
     | false =>
      rw [f1] at HFJ;cases f2:decide (s.lane.length=p.Rm) with
      | true =>
       rw [f2] at HFL;unfold actV ptrV
       go_enter func376,ntmps376
       go_wp2_with fail
       go_quiet (first | (go_at_call 377;exact Calls.quiet_of (HBL.out _ rfl)))
       go_wp2_with fail
       go_quiet (first | (go_at_call_of 378 a.qj;exact z1O (HFJ.out _ rfl)) | (go_at_call_of 378 a.ql;exact z1O (HFL.out _ rfl)))
       go_wp2;go_ret;exact ⟨rfl,_,rfl⟩
      | false =>
       rw [f2] at HFL;cases f3:decide (s.given - s.wrote < p.Wd) with
       | true =>
        have d4:decide (((s.given - s.wrote:Nat):Int) < (p.Wd:Int))=true:=zL (by have:=of_decide_eq_true f3;omega);generalize s.given - s.wrote=un at *;unfold actV ptrV
        go_enter func376,ntmps376
        go_wp2_with fail
        go_quiet (first | (go_at_call 377;exact Calls.quiet_of (HBL.out _ rfl)))
        go_wp2_with fail
        go_quiet (first | (go_at_call_of 378 a.qj;exact z1O (HFJ.out _ rfl)) | (go_at_call_of 378 a.ql;exact z1O (HFL.out _ rfl)) | (go_at_call 379;exact z1O (HUW.out _ rfl)))
        go_wp2;go_ret;exact ⟨rfl,_,rfl⟩
       | false =>
        have d4:decide (((s.given - s.wrote:Nat):Int) < (p.Wd:Int))=false:=zM (by have:=of_decide_eq_false f3;omega);generalize s.given - s.wrote=un at *;unfold actV ptrV
        go_enter func376,ntmps376
        go_wp2_with fail
        go_quiet (first | (go_at_call 377;exact Calls.quiet_of (HBL.out _ rfl)))
        go_wp2_with fail
        go_quiet (first | (go_at_call_of 378 a.qj;exact z1O (HFJ.out _ rfl)) | (go_at_call_of 378 a.ql;exact z1O (HFL.out _ rfl)) | (go_at_call 379;exact z1O (HUW.out _ rfl)))
        go_wp2;go_ret;exact ⟨rfl,_,rfl⟩
end
theorem z2N {w:World} {base:Nat} {e:TypeId} {size:Nat} {v:Value} {n:Nat} {xs:List Value} (h:w.ownsRow base e size v n xs) (hn:0 < n) :
 ∃ g cap,v=.slice (some ⟨g,0,none⟩) n cap/\n<=cap/\base<=g/\∀ j u,xs[j]?=some u->w.cell? ⟨g,j,none⟩=some u:=by
 rcases h.2 with ⟨rfl,rfl⟩ | ⟨g,cap,cur,rfl,h1,h2,h3,h4,h5,h6⟩
 . exact absurd hn (Nat.lt_irrefl _)
 . refine ⟨g,cap,rfl,h3,h1,fun j u hu=>?_⟩
   rw [← h6,List.getElem?_take] at hu;split at hu
   . simpa [World.cell?,h2] using hu
   . cases hu
theorem y2I {x:Lsn} (base:Nat) (sv:Value) (l:List Nat) (k:Nat) (w:World) (ho:w.ownsRow base 149 2 sv l.length (shlV x l)) :
 Calls prog 373 #[sv,O I k] w fun e w'=>e=.returned (.bool (decide (l.head?=some k)))/\w'=w:=by
 cases l with
 | nil =>
  obtain ⟨b,c,rfl⟩:=y0s ho;clear ho
  go_enter func373,ntmps373
  go_wp2;go_ret;exact ⟨rfl,rfl⟩
 | cons q r =>
  obtain ⟨g,cap,rfl,hc,-,hcl⟩:=z2N ho (by simp);have x0:=hcl 0 (O I q) rfl;clear ho hcl;have hlen:(q :: r).length=r.length+1:=rfl;rw [hlen] at hc ⊢;have d0:decide ((0:Int) < ((r.length+1:Nat):Int))=true:=zL zU;have hp:0 < r.length+1:=zU
  generalize r.length+1=n at *
  by_cases h:q=k
  . subst h
    go_enter func373,ntmps373
    go_wp2;go_ret;exact ⟨by simp,rfl⟩
  . have h2:¬ (q:Int)=(k:Int):=zU
    have h3:((q:Int) == (k:Int))=false:=by simp;omega
    go_enter func373,ntmps373
    go_wp2;go_ret;exact ⟨by simp [h],rfl⟩
section
variable {p:Lpar} {a:Lad} {x:Lsn} {F:Nat->Prop} {s:Lst} {w:World}
theorem z7f (h:LineIs p a x F s w) :
 Calls prog 382 #[ptrV a.su] w fun e w'=>e=.returned (actV a (s.next p 1))/\∃ m,w'=w.drewN m:=by
 obtain ⟨sv,fv,lv,hl,hw,-⟩:=h.cells;have y0:=h.sum.cell 0;have y1:=h.sum.cell 1;have x15:=hl.cell 15;simp [lnC,ptrV] at y0 y1 x15;unfold Lst.next;have HA:=zZ (lAns h);clear h hl hw;unfold ptrV at *;cases he:s.e1 with
 | true =>
  rw [he] at y1;unfold actV
  go_enter func382,ntmps382
  go_wp2;go_ret;exact ⟨rfl,0,rfl⟩
 | false =>
  rw [he] at y1;cases hb:(decide (0 < s.lane.length) || s.e0) with
  | true =>
   rw [hb] at HA;unfold actV ptrV
   go_enter func382,ntmps382
   go_wp2_with (go_at_call 384;refine HA.out.mono ?_;rintro e u ⟨rfl,hw⟩;subst u;clear HA)
   go_ret;exact ⟨rfl,0,rfl⟩
  | false =>
   rw [hb] at HA;unfold actV
   go_enter func382,ntmps382
   go_wp2_with (go_at_call 384;refine HA.out.mono ?_;rintro e u ⟨rfl,hw⟩;subst u;clear HA)
   go_ret;exact ⟨rfl,0,rfl⟩
set_option maxHeartbeats 1000000 in
theorem z7g (h:LineIs p a x F s w) (j:Nat) (hj:j < p.W) :
 Calls prog 410 #[ptrV (a.wk j)] w fun e w'=>e=.returned (actV a (s.next p (j+3)))/\∃ m,w'=w.drewN m:=by
 obtain ⟨sv,fv,lv,hl,hw,-⟩:=h.cells;obtain ⟨hv,k1,k2⟩:=h.wrk;have y0:=(k1 j hj).cell 0;have y1:=(k1 j hj).cell 1;have y2:=(k1 j hj).cell 2;have x14:=hl.cell 14;have x16:=hl.cell 16;have x23:=hl.cell 23;simp [lnC,ptrV] at y0 y1 y2 x14 x16 x23;unfold Lst.next;have HA:=zZ (jAns h);have HR:=zZ (y9L h);clear h hl hw k1 k2;unfold ptrV at *;cases he:s.ew j with
 | true =>
  rw [he] at y1;unfold actV
  go_enter func410,ntmps410
  go_wp2;go_ret;exact ⟨by simp,0,rfl⟩
 | false =>
  rw [he] at y1;simp only [he,Bool.false_eq_true,if_false];cases hh:s.held j with
  | none =>
   simp only [heV,hh] at y2;cases hb:(decide (0 < s.jobs.length) || s.e0) with
   | true =>
    rw [hb] at HA;unfold actV ptrV
    go_enter func410,ntmps410
    go_wp2_with (go_at_call 384;refine HA.out.mono ?_;rintro e u ⟨rfl,hw⟩;subst u;clear HA)
    go_ret;exact ⟨rfl,0,rfl⟩
   | false =>
    rw [hb] at HA;unfold actV
    go_enter func410,ntmps410
    go_wp2_with (go_at_call 384;refine HA.out.mono ?_;rintro e u ⟨rfl,hw⟩;subst u;clear HA)
    go_ret;exact ⟨rfl,0,rfl⟩
  | some k =>
   simp only [heV,hh,ptrV] at y2;cases hst:s.stopped with
   | true =>
    rw [hst] at x23;unfold actV ptrV
    go_enter func410,ntmps410
    go_wp2;go_ret;exact ⟨rfl,0,rfl⟩
   | false =>
    rw [hst] at x23;cases hf:decide (s.ready.length=p.Rm) with
    | true =>
     rw [hf] at HR;unfold actV
     go_enter func410,ntmps410
     go_wp2_with (go_at_call 413;refine HR.out.mono ?_;rintro e u ⟨rfl,m,rfl⟩;clear HR)
     go_ret;exact ⟨rfl,m,rfl⟩
    | false =>
     rw [hf] at HR;unfold actV ptrV
     go_enter func410,ntmps410
     go_wp2_with (go_at_call 413;refine HR.out.mono ?_;rintro e u ⟨rfl,m,rfl⟩;clear HR)
     go_ret;exact ⟨rfl,m,rfl⟩
set_option maxHeartbeats 1000000 in
theorem z7h (h:LineIs p a x F s w) :
 Calls prog 387 #[ptrV a.wr] w fun e w'=>e=.returned (actV a (s.next p 2))/\∃ m,w'=w.drewN m:=by
 have HWR:=zZ (fun (u:World) (e:u.heap=w.heap)=>z4d (h.heap e));have HCT:=zZ (fun (u:World) (e:u.heap=w.heap)=>y7q (h.heap e));have HAN:=zZ (fun (u:World) (e:u.heap=w.heap)=>rAns (h.heap e));obtain ⟨sv,fv,lv,hl,hw,ho,-⟩:=h.cells;have HBG:Hid (∀ (u:World) (e:u.heap=w.heap),Calls prog 373 #[sv,O I s.wrote] u fun e w'=>e=.returned (.bool (decide (s.shelf.head?=some s.wrote)))/\w'=u) :=
  fun u e=>y2I a.b1 sv s.shelf s.wrote u (z1z ho fun g _=>by rw [e])
 have z1:=h.sum.cell 1;have y0:=hw.cell 0;have y1:=hw.cell 1;have y2:=hw.cell 2;have x16:=hl.cell 16;have x17:=hl.cell 17;have x25:=hl.cell 25;simp [lnC,ptrV] at z1 y0 y1 y2 x16 x17 x25;obtain ⟨sb,sc,rfl⟩:=y0s ho;clear h hl hw ho;unfold ptrV at *;cases he:s.e2 with
 | true =>
  rw [he] at y1;rw [show s.next p 2=none by simp [Lst.next,he]];unfold actV
  go_enter func387,ntmps387
  go_wp2;go_ret;exact ⟨rfl,0,rfl⟩
 | false =>
  rw [he] at y1;cases hbg:s.begun with
  | false =>
   rw [hbg] at y2;rw [show s.next p 2=some .begin by simp [Lst.next,he,hbg]];unfold actV ptrV
   go_enter func387,ntmps387
   go_wp2;go_ret;exact ⟨rfl,0,rfl⟩
  | true =>
   rw [hbg] at y2
   by_cases hh:s.shelf.head?=some s.wrote
   . rw [zL hh] at HBG
     rw [show s.next p 2=some .write by simp [Lst.next,he,hbg,hh]];unfold actV ptrV
     go_enter func387,ntmps387
     go_wp2_with fail
     go_quiet (first | (go_at_call 107;exact Calls.quiet_of_same (HWR.out _ rfl)) | (go_at_call 373;exact Calls.quiet_of_same (HBG.out _ rfl)))
     go_wp2;go_ret;exact ⟨rfl,nq,rfl⟩
   . rw [zM hh] at HBG
     by_cases hr:0 < s.ready.length
     . have d1:decide ((0:Int) < (s.ready.length:Int))=true:=zL zU
       rw [show s.next p 2=some .shelve by simp [Lst.next,he,hbg,hh,hr]];unfold actV ptrV
       go_enter func387,ntmps387
       go_wp2_with fail
       go_quiet (first | (go_at_call 107;exact Calls.quiet_of_same (HWR.out _ rfl)) | (go_at_call 373;exact Calls.quiet_of_same (HBG.out _ rfl)))
       go_wp2_with (first | (go_at_call 109;refine (HCT.out (w.drewN nq) rfl).mono ?_;rintro e u ⟨rfl,hw⟩;subst u;clear HCT) | (go_at_call 389;refine (HAN.out (w.drewN nq) rfl).mono ?_;rintro e u ⟨rfl,hw⟩;subst u;clear HAN))
       go_ret;exact ⟨rfl,nq,rfl⟩
     . have d1:decide ((0:Int) < (s.ready.length:Int))=false:=zM zU
       rw [zM hr,Bool.false_or] at HAN;cases hs:s.shut p with
       | true =>
        rw [hs] at HAN;cases h1:s.e1 with
        | true =>
         rw [h1] at z1;rw [show s.next p 2=some .shelve by simp [Lst.next,he,hbg,hh,hr,hs,h1]];unfold actV ptrV
         go_enter func387,ntmps387
         go_wp2_with fail
         go_quiet (first | (go_at_call 107;exact Calls.quiet_of_same (HWR.out _ rfl)) | (go_at_call 373;exact Calls.quiet_of_same (HBG.out _ rfl)))
         go_wp2_with (first | (go_at_call 109;refine (HCT.out (w.drewN nq) rfl).mono ?_;rintro e u ⟨rfl,hw⟩;subst u;clear HCT) | (go_at_call 389;refine (HAN.out (w.drewN nq) rfl).mono ?_;rintro e u ⟨rfl,hw⟩;subst u;clear HAN))
         go_ret;exact ⟨rfl,nq,rfl⟩
        | false =>
         rw [h1] at z1;rw [show s.next p 2=none by simp [Lst.next,he,hbg,hh,hr,hs,h1]];unfold actV
         go_enter func387,ntmps387
         go_wp2_with fail
         go_quiet (first | (go_at_call 107;exact Calls.quiet_of_same (HWR.out _ rfl)) | (go_at_call 373;exact Calls.quiet_of_same (HBG.out _ rfl)))
         go_wp2_with (first | (go_at_call 109;refine (HCT.out (w.drewN nq) rfl).mono ?_;rintro e u ⟨rfl,hw⟩;subst u;clear HCT) | (go_at_call 389;refine (HAN.out (w.drewN nq) rfl).mono ?_;rintro e u ⟨rfl,hw⟩;subst u;clear HAN))
         go_ret;exact ⟨rfl,nq,rfl⟩
       | false =>
        rw [hs] at HAN;rw [show s.next p 2=none by simp [Lst.next,he,hbg,hh,hr,hs]];unfold actV
        go_enter func387,ntmps387
        go_wp2_with fail
        go_quiet (first | (go_at_call 107;exact Calls.quiet_of_same (HWR.out _ rfl)) | (go_at_call 373;exact Calls.quiet_of_same (HBG.out _ rfl)))
        go_wp2_with (first | (go_at_call 109;refine (HCT.out (w.drewN nq) rfl).mono ?_;rintro e u ⟨rfl,hw⟩;subst u;clear HCT) | (go_at_call 389;refine (HAN.out (w.drewN nq) rfl).mono ?_;rintro e u ⟨rfl,hw⟩;subst u;clear HAN))
        go_ret;exact ⟨rfl,nq,rfl⟩
end
theorem z0l {w:World} {base:Nat} {e:TypeId} {size:Nat} {v:Value} {n:Nat} {xs:List Value} (h:w.ownsRow base e size v n xs):∀ g,v.ownBlock=some g->kn w g=e+1/\base<=g/\g < w.heap.size:=by
 intro g hg;rcases h.2 with ⟨rfl,rfl⟩ | ⟨g',cap,cur,rfl,h1,h2,h3⟩
 . cases hg
 . cases hg
   exact ⟨by unfold kn;rw [h2],h1,(Array.getElem?_eq_some_iff.1 h2).1⟩
theorem z8h {w:World} {g:Nat} {e:TypeId} {n:Nat} {f:Nat->Value} (h:w.rowIs g e n f):kn w g=e+1:=by
 obtain ⟨c,h1,h2⟩:=h;unfold kn;rw [h1]
theorem QIs.kc {w:World} {q c:Nat} {t:TypeId} {cap:Nat} {buf:Array Value} {cl:Bool} (h:QIs w q c t cap buf cl):kn w c=0:=by
 obtain ⟨s,r,hc⟩:=h.chan;unfold kn;rw [hc]
structure y9M (p:Lpar) (a:Lad) (x:Lsn) (s:Lst) (w:World):Prop where
 lb:kn w a.lb=160+1
 sp:kn w a.sp=165+1
 su:kn w a.su=167+1
 wr:kn w a.wr=169+1
 qj:kn w a.qj=247+1
 ql:kn w a.ql=247+1
 qr:kn w a.qr=250+1
 cj:kn w a.cj=0
 cl:kn w a.cl=0
 cr:kn w a.cr=0
 tb:kn w a.tb=178+1
 wb:kn w a.wb=170+1
 wk:∀ j,j < p.W->kn w (a.wk j)=173+1
 gb:∀ k,k < s.given->kn w (a.gb k)=30+1
theorem LineIs.kinds {p:Lpar} {a:Lad} {x:Lsn} {F:Nat->Prop} {s:Lst} {w:World} (h:LineIs p a x F s w):y9M p a x s w:=by
 obtain ⟨sv,fv,lv,c1,c2,-⟩:=h.cells;obtain ⟨hv,k1,-⟩:=h.wrk;exact ⟨c1.kn,h.spl.kn,h.sum.kn,c2.kn,h.jobs.cells.kn,h.lane.cells.kn,h.ready.cells.kn,h.jobs.kc,h.lane.kc,h.ready.kc,(z0l h.tasks _ rfl).1,(z0l h.works _ rfl).1,fun j hj=>(k1 j hj).kn,fun k hk=>z8h (h.blocks k hk).2⟩
def z8i (p:Lpar) (a:Lad) (x:Lsn) (F:Nat->Prop) (s:Lst) (w:World):Prop :=
 ∃ sv fv lv,Bx w a.lb 160 (lnC p a x s sv fv) /\
  Bx w a.wr 169 #[ptrV a.lb,.bool s.e2,.bool s.begun,lv] /\
  w.ownsRow a.b1 149 2 sv s.shelf.length (shlV x s.shelf)/\(∀ g,sv.ownBlock=some g->F g) /\
  w.ownsRow a.b1 5 1 fv (frsT x.d x.ch x.G x.S x.B s.wrote).length ((frsT x.d x.ch x.G x.S x.B s.wrote).map fun b=>.int .u8 (b.toNat:Int))/\(∀ g,fv.ownBlock=some g->F g) /\
  w.ownsRow a.b1 3 1 lv s.wrote ((List.range s.wrote).map fun k=>O I (frLn x k))/\(∀ g,lv.ownBlock=some g->F g)
def z9n (p:Lpar) (a:Lad) (x:Lsn) (F:Nat->Prop) (s:Lst) (w:World):Prop :=
 ∃ hv:Nat->Nat,(∀ j,j < p.W->Bx w (a.wk j) 173 #[ptrV a.lb,.bool (s.ew j),heV hv s j]) /\
  ∀ j k,j < p.W->s.held j=some k->F (hv j)/\Bx w (hv j) 145 #[O I k,.slice (some ⟨a.gb k,0,none⟩) x.ch x.ch]
def Firm (a:Lad) (w:World) (k:Nat):Prop:=kn w k=178+1∨kn w k=170+1∨kn w k=30+1∨(kn w k=3+1/\k < a.b1)
theorem LineIs.edit {p:Lpar} {a:Lad} {x:Lsn} {F F':Nat->Prop} {s s':Lst} {w w':World} {S:Nat->Prop} (h:LineIs p a x F s w) (he:Edit S w w') (hF:∀ k,F k->F' k) (hlt:∀ k,F' k->k < w'.heap.size) (hS:∀ k,S k->¬ Firm a w k)
 (hc:z8i p a x F' s' w') (hspl:Bx w' a.sp 165 #[ptrV a.lb,.bool s'.e0,.slice (some ⟨a.lg,0,none⟩) x.ch a.lc,O I s'.given])
 (hsum:Bx w' a.su 167 #[ptrV a.lb,.bool s'.e1,O I s'.summed,O I (smN x s'.summed)]) (hwk:z9n p a x F' s' w')
 (hj:QIs w' a.qj a.cj 247 p.Rm (s'.jobs.map (blV a x)).toArray s'.e0) (hl:QIs w' a.ql a.cl 247 p.Rm (s'.lane.map (blV a x)).toArray s'.e0)
 (hr:QIs w' a.qr a.cr 250 p.Rm (s'.ready.map (pkV x)).toArray (s'.shut p))
 (hg:s'.given=s.given):LineIs p a x F' s' w':=by
 have hkd:=h.kinds;have nS:∀ k,Firm a w k->¬ S k:=fun k hf hs=>hS k hs hf
 obtain ⟨o1,o2,o3,o4,o5,o6,o7,o8,o9,o10,o11,o12,o13⟩:=h.own;refine ⟨h.kp,h.NB,h.W8,h.d16,h.R8,hc,hspl,hsum,hwk,hj,hl,hr,z1z h.tasks fun g hg=>?_,z1z h.works fun g hg=>?_,fun k hk=>?_,fun i hi=>?_,fun i hi j hj=>?_,h.caps,h.low,⟨hF _ h.lowF.1,fun i hi y hy h0=>hF _ (h.lowF.2 i hi y hy h0)⟩,
  ⟨hF _ o1,hF _ o2,hF _ o3,hF _ o4,hF _ o5,hF _ o6,hF _ o7,hF _ o8,hF _ o9,hF _ o10,hF _ o11,hF _ o12,fun j hj=>hF _ (o13 j hj)⟩,hlt,h.ne,zO h.b1 he.size,?_,fun i hi y hy h0=>?_⟩
 . cases hg
   exact he.block _ (h.lt _ o11) (nS _ (Or.inl hkd.tb))
 . cases hg
   exact he.block _ (h.lt _ o12) (nS _ (Or.inr (Or.inl hkd.wb)))
 . rw [hg] at hk
   exact ⟨hF _ (h.blocks k hk).1,z2B (h.blocks k hk).2 (he.block _ (h.lt _ (h.blocks k hk).1) (nS _ (Or.inr (Or.inr (Or.inl (hkd.gb k hk))))))⟩
 . obtain ⟨y,hy,hcc⟩:=h.lists i hi
   cases hy;exact ⟨_,rfl,(z4O (by cases i <;> exact he.block _ (h.lt _ h.lowF.1) (nS _ (Or.inr (Or.inr (Or.inl h.kl)))))).trans hcc⟩
 . obtain ⟨y,hy,hcc⟩:=h.ints i hi j hj
   have h0:0 < x.S:=zU
   have hf:Firm a w y.block:=Or.inr (Or.inr (Or.inr ⟨h.ka i hi y hy h0,h.low.2 i hi y hy h0⟩));exact ⟨y,hy,(z4O (by cases j <;> exact he.block _ (h.lt _ (h.lowF.2 i hi y hy h0)) (nS _ hf))).trans hcc⟩
 . exact (y2H (he.block _ (h.lt _ h.lowF.1) (nS _ (Or.inr (Or.inr (Or.inl h.kl)))))).trans h.kl
 . have hf:Firm a w y.block:=Or.inr (Or.inr (Or.inr ⟨h.ka i hi y hy h0,h.low.2 i hi y hy h0⟩))
   exact (y2H (he.block _ (h.lt _ (h.lowF.2 i hi y hy h0)) (nS _ hf))).trans (h.ka i hi y hy h0)
theorem LineIs.cellsOk {p:Lpar} {a:Lad} {x:Lsn} {F F':Nat->Prop} {s:Lst} {w w':World} {S:Nat->Prop} (h:LineIs p a x F s w) (he:Edit S w w') (hF:∀ k,F k->F' k) (h1:¬ S a.lb) (h2:¬ S a.wr)
 (h3:∀ k,a.b1<=k->kn w k=149+1∨kn w k=5+1∨kn w k=3+1->¬ S k):z8i p a x F' s w':=by
 obtain ⟨sv,fv,lv,c1,c2,c3,c4,c5,c6,c7,c8⟩:=h.cells;refine ⟨sv,fv,lv,c1.edit he h1,c2.edit he h2,z1z c3 fun g hg=>?_,fun g hg=>hF _ (c4 g hg),z1z c5 fun g hg=>?_,fun g hg=>hF _ (c6 g hg),z1z c7 fun g hg=>?_,fun g hg=>hF _ (c8 g hg)⟩
 . exact he.block _ (z0l c3 g hg).2.2 (h3 g (z0l c3 g hg).2.1 (Or.inl (z0l c3 g hg).1))
 . exact he.block _ (z0l c5 g hg).2.2 (h3 g (z0l c5 g hg).2.1 (Or.inr (Or.inl (z0l c5 g hg).1)))
 . exact he.block _ (z0l c7 g hg).2.2 (h3 g (z0l c7 g hg).2.1 (Or.inr (Or.inr (z0l c7 g hg).1)))
theorem LineIs.workOk {p:Lpar} {a:Lad} {x:Lsn} {F F':Nat->Prop} {s:Lst} {w w':World} {S:Nat->Prop} (h:LineIs p a x F s w) (he:Edit S w w') (hF:∀ k,F k->F' k) (h1:∀ k,kn w k=173+1∨kn w k=145+1->¬ S k):z9n p a x F' s w':=by
 obtain ⟨hv,k1,k2⟩:=h.wrk;exact ⟨hv,fun j hj=>(k1 j hj).edit he (h1 _ (Or.inl (k1 j hj).kn)),fun j k hj hk=>⟨hF _ (k2 j k hj hk).1,(k2 j k hj hk).2.edit he (h1 _ (Or.inr (k2 j k hj hk).2.kn))⟩⟩
def Own (F F':Nat->Prop) (w:World):Prop:=(∀ k,F k->F' k)/\∀ k,F' k->F k∨w.heap.size<=k
theorem Own.refl (F:Nat->Prop) (w:World):Own F F w:=⟨fun _ h=>h,fun _ h=>Or.inl h⟩
theorem Edit.one (v:World) (g j:Nat) (z:Value):Edit (fun k=>k=g) v (v.setCell ⟨g,j,none⟩ z):=Edit.cell (Edit.refl (fun k=>k=g) v) (Or.inl rfl) j z
set_option maxHeartbeats 1000000 in
theorem y4H {p:Lpar} {a:Lad} {x:Lsn} {F:Nat->Prop} {s:Lst} {w:World} (h:LineIs p a x F s w) (he0:s.e0=false) :
 Calls prog 374 #[ptrV a.sp] w fun e w'=>e=.returned (.tuple #[])/\LineIs p a x F { s with e0:=true } w'/\Edit F w w':=by
 obtain ⟨sv,fv,lv,hl,hw,-⟩:=h.cells;obtain ⟨o1,o2,o3,o4,o5,o6,o7,o8,o9,o10,o11,o12,o13⟩:=h.own;obtain ⟨n1,n2,n3,n4,n5⟩:=h.ne;have hkd:=h.kinds;have kd1:=hkd.lb;have kd2:=hkd.sp;have kd3:=hkd.su;have kd4:=hkd.wr;have kd5:=hkd.qj;have kd6:=hkd.ql;have kd7:=hkd.qr;have kd8:=hkd.cj;have kd9:=hkd.cl;have kd10:=hkd.cr;have x14:=hl.cell 14;have y0:=h.spl.cell 0;simp [lnC,ptrV] at x14 y0;have hj:=h.jobs;have hla:=h.lane;rw [he0] at hj hla;have HC1:=zZ (z6i _ _ _ _ _ hj);have HC2:=zZ (fun (u:World) (hu:Edit (fun k=>k=a.qj∨k=a.cj) w u)=>z6i _ _ _ _ _ (hla.edit hu (by grind) (by grind)));have HX1:Hid (∀ (u:World) (hu:Edit (fun k=>k=a.qj∨k=a.cj) w u),Bx u a.lb 160 (lnC p a x s sv fv)/\Bx u a.sp 165 #[ptrV a.lb,.bool s.e0,.slice (some ⟨a.lg,0,none⟩) x.ch a.lc,O I s.given]) :=
  fun u hu=>⟨hl.edit hu (by grind),h.spl.edit hu (by grind)⟩
 have HD:Hid (∀ (u v:World),QIs u a.qj a.cj 247 p.Rm (s.jobs.map (blV a x)).toArray true->Edit (fun k=>k=a.qj∨k=a.cj) w u->QIs v a.ql a.cl 247 p.Rm (s.lane.map (blV a x)).toArray true->Edit (fun k=>k=a.ql∨k=a.cl) u v ->
     (Bx v a.sp 165 #[ptrV a.lb,.bool s.e0,.slice (some ⟨a.lg,0,none⟩) x.ch a.lc,O I s.given])/\LineIs p a x F { s with e0:=true } (v.setCell ⟨a.sp,1,none⟩ (.bool true))/\Edit F w (v.setCell ⟨a.sp,1,none⟩ (.bool true))):=by
  intro u v q1 e1 q2 e2;have e3:Edit (fun k=>k=a.qj∨k=a.cj∨k=a.ql∨k=a.cl∨k=a.sp) w (v.setCell ⟨a.sp,1,none⟩ (.bool true)):=((e1.mono (by grind)).trans (e2.mono (by grind))).cell (by grind) 1 _;have hsp:Bx v a.sp 165 #[ptrV a.lb,.bool s.e0,.slice (some ⟨a.lg,0,none⟩) x.ch a.lc,O I s.given]:=(h.spl.edit e1 (by grind)).edit e2 (by grind);have e4:Edit (fun k=>k=a.sp) v (v.setCell ⟨a.sp,1,none⟩ (.bool true)):=Edit.one v a.sp 1 _;refine ⟨hsp,h.edit e3 (fun _ hk=>hk) (fun k hk=>zP (h.lt k hk) e3.size) (by unfold Firm;grind) (h.cellsOk e3 (fun _ hk=>hk) (by grind) (by grind) (by grind)) (hsp.set 1 (.bool true)) (h.sum.edit e3 (by grind)) (h.workOk e3 (fun _ hk=>hk) (by grind))
   ((q1.edit e2 (by grind) (by grind)).edit e4 (by grind) (by grind)) (q2.edit e4 (by grind) (by grind)) (h.ready.edit e3 (by grind) (by grind)) rfl,e3.mono (by grind)⟩
 clear hj hla h hl hw hkd kd1 kd2 kd3 kd4 kd5 kd6 kd7 kd8 kd9 kd10 n1 n2 n3 n4 n5 o1 o2 o3 o4 o5 o6 o7 o8 o9 o10 o11 o12 o13;unfold ptrV at *
 go_enter func374,ntmps374
 go_wp2_with (first
  | (go_at_call_of 371 a.qj;refine HC1.out.mono ?_;rintro e w1 ⟨rfl,q1,e1⟩;have z0:=(HX1.out w1 e1).2.cell 0;have z15:=(HX1.out w1 e1).1.cell 15;simp [lnC,ptrV] at z0 z15;have HQ1:=zZ q1;have HE1:=zZ e1;clear HC1 q1 e1)
  | (go_at_call_of 371 a.ql;refine (HC2.out w1 HE1.out).mono ?_;rintro e w2 ⟨rfl,q2,e2⟩;have HZ:=zZ (HD.out w1 w2 HQ1.out HE1.out q2 e2);have t0:=HZ.out.1.cell 0;have t1:=HZ.out.1.cell 1;have f1:=HZ.out.1.free 1;simp at t0 t1;clear HC2 q2 e2))
 go_end0;exact ⟨rfl,HZ.out.2⟩
theorem LineIs.workOk1 {p:Lpar} {a:Lad} {x:Lsn} {F F':Nat->Prop} {s s':Lst} {w w':World} {S:Nat->Prop} (h:LineIs p a x F s w) (he:Edit S w w') (hF:∀ k,F k->F' k) (j:Nat) (hj:j < p.W)
 (h1:∀ k,kn w k=173+1->k ≠ a.wk j->¬ S k) (h2:∀ k,kn w k=145+1->¬ S k)
 (hs:∀ i,i ≠ j->s'.ew i=s.ew i/\s'.held i=s.held i) (v:Value) (hb:Bx w' (a.wk j) 173 #[ptrV a.lb,.bool (s'.ew j),v])
 (hv:(s'.held j=none/\v=.pointer none)∨∃ k g,s'.held j=some k/\v=ptrV g/\F' g/\Bx w' g 145 #[O I k,.slice (some ⟨a.gb k,0,none⟩) x.ch x.ch]):z9n p a x F' s' w':=by
 obtain ⟨hv0,k1,k2⟩:=h.wrk;have hn:=h.ne.2.2.2.2;rcases hv with ⟨hz,rfl⟩ | ⟨k,g,hz,rfl,hg,hbg⟩
 . refine ⟨hv0,fun i hi=>?_,fun i k hi hk=>?_⟩
   . by_cases e:i=j
     . subst e
       have:heV hv0 s' i=.pointer none:=by simp only [heV,hz]
       rw [this];exact hb
     . have:heV hv0 s' i=heV hv0 s i:=by simp only [heV,(hs i e).2]
       rw [this,(hs i e).1];exact (k1 i hi).edit he (h1 _ (k1 i hi).kn fun hh=>e (hn i j hi hj hh))
   . by_cases e:i=j
     . subst e
       rw [hz] at hk;cases hk
     . rw [(hs i e).2] at hk
       exact ⟨hF _ (k2 i k hi hk).1,(k2 i k hi hk).2.edit he (h2 _ (k2 i k hi hk).2.kn)⟩
 . refine ⟨fun i=>if i=j then g else hv0 i,fun i hi=>?_,fun i k' hi hk=>?_⟩
   . by_cases e:i=j
     . subst e
       have:heV (fun q=>if q=i then g else hv0 q) s' i=ptrV g:=by simp only [heV,hz,if_true]
       rw [this];exact hb
     . have:heV (fun q=>if q=j then g else hv0 q) s' i=heV hv0 s i:=by simp only [heV,(hs i e).2,if_neg e]
       rw [this,(hs i e).1];exact (k1 i hi).edit he (h1 _ (k1 i hi).kn fun hh=>e (hn i j hi hj hh))
   . by_cases e:i=j
     . subst e
       rw [hz] at hk;cases hk;simp only [if_true];exact ⟨hg,hbg⟩
     . rw [(hs i e).2] at hk
       simp only [if_neg e];exact ⟨hF _ (k2 i k' hi hk).1,(k2 i k' hi hk).2.edit he (h2 _ (k2 i k' hi hk).2.kn)⟩
section
variable {p:Lpar} {a:Lad} {x:Lsn} {F:Nat->Prop} {s:Lst} {w:World}
theorem y4I (h:LineIs p a x F s w) (j:Nat) (hj:j < p.W) :
 Calls prog 412 #[ptrV (a.wk j)] w fun e w'=>e=.returned (.tuple #[])/\LineIs p a x F { s with held:=updL s.held j none } w'/\Edit F w w':=by
 obtain ⟨hv,k1,k2⟩:=h.wrk;have hb:=k1 j hj;have y2:=hb.cell 2;have f2:=hb.free 2;simp at y2;have hkd:=h.kinds;have kd1:=hkd.lb;have kd2:=hkd.sp;have kd3:=hkd.su;have kd4:=hkd.wr;have kd5:=hkd.qj;have kd6:=hkd.ql;have kd7:=hkd.qr;have kd8:=hkd.cj;have kd9:=hkd.cl;have kd10:=hkd.cr;have kw:=hb.kn;have HD:Hid (LineIs p a x F { s with held:=updL s.held j none } (w.setCell ⟨a.wk j,2,none⟩ (.pointer none))/\Edit F w (w.setCell ⟨a.wk j,2,none⟩ (.pointer none))):=by
  have e3:=Edit.one w (a.wk j) 2 (.pointer none);refine ⟨h.edit e3 (fun _ hk=>hk) (fun k hk=>zP (h.lt k hk) e3.size) (by unfold Firm;grind) (h.cellsOk e3 (fun _ hk=>hk) (by grind) (by grind) (by grind)) (h.spl.edit e3 (by grind)) (h.sum.edit e3 (by grind))
   (h.workOk1 e3 (fun _ hk=>hk) j hj (by grind) (by grind) (fun i hi=>⟨rfl,by simp [updL,hi]⟩) (.pointer none) (hb.set 2 (.pointer none)) (Or.inl ⟨by simp [updL],rfl⟩))
   (h.jobs.edit e3 (by grind) (by grind)) (h.lane.edit e3 (by grind) (by grind)) (h.ready.edit e3 (by grind) (by grind)) rfl,e3.mono fun k hk=>hk ▸ h.own.2.2.2.2.2.2.2.2.2.2.2.2 j hj⟩
 clear h k1 k2 hb hkd kd1 kd2 kd3 kd4 kd5 kd6 kd7 kd8 kd9 kd10 kw;unfold ptrV at *
 go_enter func412,ntmps412
 go_wp2;go_end0;exact ⟨rfl,HD.out⟩
theorem z4P:(prog.info? 145).map (·.size)=some 2:=zT
theorem y0t (f:Nat->Value) (k:Nat) (r:List Nat):(((k :: r).map f).toArray).extract 1 (((k :: r).map f).toArray).size=(r.map f).toArray:=by
 simp;rw [List.take_of_length_le (by simp)]
set_option maxHeartbeats 1000000 in
theorem y2J (h:LineIs p a x F s w) (j:Nat) (hj:j < p.W) (k:Nat) (r:List Nat) (hk:s.jobs=k :: r) :
 Calls prog 411 #[ptrV (a.wk j)] w fun e w'=>e=.returned (.tuple #[])/\∃ F',Own F F' w/\LineIs p a x F' { s with jobs:=r,held:=updL s.held j (some k) } w'/\Edit F w w':=by
 obtain ⟨sv,fv,lv,hl,hw,-⟩:=h.cells;obtain ⟨hv,k1,k2⟩:=h.wrk;have hb:=k1 j hj;have x14:=hl.cell 14;have y0:=hb.cell 0;simp [lnC,ptrV] at x14 y0;have hkd:=h.kinds;have kd1:=hkd.lb;have kd2:=hkd.sp;have kd3:=hkd.su;have kd4:=hkd.wr;have kd5:=hkd.qj;have kd6:=hkd.ql;have kd7:=hkd.qr;have kd8:=hkd.cj;have kd9:=hkd.cl;have kd10:=hkd.cr;obtain ⟨n1,n2,n3,n4,n5⟩:=h.ne;have kw:=hb.kn;have hq:=h.jobs;rw [hk] at hq;have HT:=zZ (z6Z _ _ _ _ _ (O I k) (.slice (some ⟨a.gb k,0,none⟩) x.ch x.ch) w hq rfl ⟨rfl,rfl⟩);rw [y0t] at HT;have HD:Hid (∀ u:World,QIs u a.qj a.cj 247 p.Rm (r.map (blV a x)).toArray s.e0->Edit (·=a.cj) w u ->
     Bx ((u.alloc (.cells #[O I 0,.slice none 0 0] 145)).setRow u.heap.size #[O I k,.slice (some ⟨a.gb k,0,none⟩) x.ch x.ch]) (a.wk j) 173 #[ptrV a.lb,.bool (s.ew j),heV hv s j] /\
     ∃ F',Own F F' w/\LineIs p a x F' { s with jobs:=r,held:=updL s.held j (some k) } (((u.alloc (.cells #[O I 0,.slice none 0 0] 145)).setRow u.heap.size #[O I k,.slice (some ⟨a.gb k,0,none⟩) x.ch x.ch]).setCell ⟨a.wk j,2,none⟩ (ptrV u.heap.size)) /\
      Edit F w (((u.alloc (.cells #[O I 0,.slice none 0 0] 145)).setRow u.heap.size #[O I k,.slice (some ⟨a.gb k,0,none⟩) x.ch x.ch]).setCell ⟨a.wk j,2,none⟩ (ptrV u.heap.size))):=by
  intro u q1 e1;obtain ⟨v,hvv⟩:∃ v,v=(u.alloc (.cells #[O I 0,.slice none 0 0] 145)).setRow u.heap.size #[O I k,.slice (some ⟨a.gb k,0,none⟩) x.ch x.ch]:=⟨_,rfl⟩;have ev:Edit (fun _=>False) u v:=by rw [hvv];exact ((Edit.refl _ u).alloc _).row zY _
  have hbx:Bx v u.heap.size 145 #[O I k,.slice (some ⟨a.gb k,0,none⟩) x.ch x.ch]:=by rw [hvv];exact (Bx.new u _ _).row _
  have hvs:u.heap.size < v.heap.size:=hbx.lt;rw [← hvv];clear hvv;have e2:Edit (·=a.cj) w v:=e1.trans (ev.mono fun _ hh=>hh.elim);have hwv:=hb.edit e2 (by grind);have hwl:a.wk j < w.heap.size:=hb.lt;have hsz:=e1.size;have e4:=Edit.one v (a.wk j) 2 (ptrV u.heap.size);have e3:Edit (fun q=>q=a.cj∨q=a.wk j) w (v.setCell ⟨a.wk j,2,none⟩ (ptrV u.heap.size)):=(e2.mono (by grind)).trans (e4.mono (by grind));refine ⟨hwv,fun q=>F q∨q=u.heap.size,⟨fun _ hh=>Or.inl hh,fun q hh=>by rcases hh with hh | rfl;exact Or.inl hh;exact Or.inr hsz⟩,h.edit e3 (fun _ hh=>Or.inl hh) ?_ (by unfold Firm;grind) (h.cellsOk e3 (fun _ hh=>Or.inl hh) (by grind) (by grind) (by grind)) (h.spl.edit e3 (by grind)) (h.sum.edit e3 (by grind))
   (h.workOk1 e3 (fun _ hh=>Or.inl hh) j hj (by grind) (by grind) (fun i hi=>⟨rfl,by simp [updL,hi]⟩) (ptrV u.heap.size) (hwv.set 2 (ptrV u.heap.size)) (Or.inr ⟨k,u.heap.size,by simp [updL],rfl,Or.inr rfl,hbx.edit e4 (by grind)⟩))
   ((q1.edit ev id id).edit e4 (by grind) (by grind)) (h.lane.edit e3 (by grind) (by grind)) (h.ready.edit e3 (by grind) (by grind)) rfl,e3.mono fun q hq=>?_⟩
  . rintro q (hq | rfl)
    . exact zP (h.lt q hq) e3.size
    . exact zP hvs e4.size
  . rcases hq with rfl | rfl
    . exact h.own.2.2.2.2.2.2.2.1
    . exact h.own.2.2.2.2.2.2.2.2.2.2.2.2 j hj
 clear h k1 k2 hl hw hb hkd kd1 kd2 kd3 kd4 kd5 kd6 kd7 kd8 kd9 kd10 kw n1 n2 n3 n4 n5 hq;unfold ptrV at *
 go_enter func411,ntmps411
 go_wp2_with (first
  | (go_at_call 385;refine HT.out.mono ?_;rintro e w1 ⟨rfl,q1,e1⟩;have HZ:=zZ (HD.out w1 q1 e1);have t2:=HZ.out.1.cell 2;have f2:=HZ.out.1.free 2;simp at t2;clear HT q1 e1)
  | (refine z0a rfl _ _ 145 rfl w1.heap.size 145 _ _ rfl rfl (Bx.new w1 #[O I 0,.slice none 0 0] 145) z4P rfl rfl ?_))
 go_end0;exact ⟨rfl,HZ.out.2⟩
end
end Go.Proofs.YtlncjgnomhpjnabGreatDoor
