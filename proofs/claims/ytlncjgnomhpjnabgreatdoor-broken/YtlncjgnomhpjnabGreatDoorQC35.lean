import Derived.Test.YtlncjgnomhpjnabGreatDoorQC34
import Derived.Test.YtlncjgnomhpjnabGreatDoorQC0
namespace Go.Proofs.YtlncjgnomhpjnabGreatDoor
open Go.Value renaming int → O
open Go.IntKind renaming i64 → I
open Go.Proofs.Tryz (prog)
open Go.RowKit Go.Deep
set_option linter.unusedVariables false
theorem z2s {w:World} {base:Nat} {e:TypeId} {size:Nat} {v:Value} {n:Nat} {xs:List Value} (h:w.ownsRow base e size v n xs) (hn:0 < n) :
 ∃ g cap,v=.slice (some ⟨g,0,none⟩) n cap/\n<=cap/\base<=g/\∀ j u,xs[j]?=some u->w.cell? ⟨g,j,none⟩=some u:=by
 rcases h.2 with ⟨rfl,rfl⟩ | ⟨g,cap,cur,rfl,h1,h2,h3,h4,h5,h6⟩
 . exact absurd hn (Nat.lt_irrefl _)
 . refine ⟨g,cap,rfl,h3,h1,fun j u hu=>?_⟩
   rw [← h6,List.getElem?_take] at hu;split at hu
   . simpa [World.cell?,h2] using hu
   . cases hu
theorem y2B {x:Lsn} (base:Nat) (sv:Value) (l:List Nat) (k:Nat) (w:World) (ho:w.ownsRow base 149 2 sv l.length (shlV x l)) :
 Calls prog 373 #[sv,O I k] w fun e w'=>e=.returned (.bool (decide (l.head?=some k)))/\w'=w:=by
 cases l with
 | nil =>
  obtain ⟨b,c,rfl⟩:=y0B ho;clear ho
  go_enter Tryz.func373,Tryz.ntmps373
  go_wp2;go_ret;exact ⟨rfl,rfl⟩
 | cons q r =>
  obtain ⟨g,cap,rfl,hc,-,hcl⟩:=z2s ho (by simp);have x0:=hcl 0 (O I q) rfl;clear ho hcl;have hlen:(q :: r).length=r.length+1:=rfl;rw [hlen] at hc ⊢;have d0:decide ((0:Int) < ((r.length+1:Nat):Int))=true:=decide_eq_true (by omega);have hp:0 < r.length+1:=by omega
  generalize r.length+1=n at *
  by_cases h:q=k
  . subst h
    go_enter Tryz.func373,Tryz.ntmps373
    go_wp2;go_ret;exact ⟨by simp,rfl⟩
  . have h2:¬ (q:Int)=(k:Int):=by omega
    have h3:((q:Int) == (k:Int))=false:=by simp;omega
    go_enter Tryz.func373,Tryz.ntmps373
    go_wp2;go_ret;exact ⟨by simp [h],rfl⟩
section
variable {p:Lpar} {a:Lad} {x:Lsn} {F:Nat->Prop} {s:Lst} {w:World}
theorem z7g (h:LineIs p a x F s w) :
 Calls prog 382 #[ptrV a.su] w fun e w'=>e=.returned (actV a (s.next p 1))/\∃ m,w'=w.drewN m:=by
 obtain ⟨sv,fv,lv,hl,hw,-⟩:=h.cells;have y0:=h.sum.cell 0;have y1:=h.sum.cell 1;have x15:=hl.cell 15;simp [lnC,ptrV] at y0 y1 x15;unfold Lst.next;have HA:=zZ (lAns h);clear h hl hw;unfold ptrV at *;cases he:s.e1 with
 | true =>
  rw [he] at y1;unfold actV
  go_enter Tryz.func382,Tryz.ntmps382
  go_wp2;go_ret;exact ⟨rfl,0,rfl⟩
 | false =>
  rw [he] at y1;cases hb:(decide (0 < s.lane.length) || s.e0) with
  | true =>
   rw [hb] at HA;unfold actV ptrV
   go_enter Tryz.func382,Tryz.ntmps382
   go_wp2_with (go_at_call 384;refine HA.out.mono ?_;rintro e u ⟨rfl,hw⟩;subst u;clear HA)
   go_ret;exact ⟨rfl,0,rfl⟩
  | false =>
   rw [hb] at HA;unfold actV
   go_enter Tryz.func382,Tryz.ntmps382
   go_wp2_with (go_at_call 384;refine HA.out.mono ?_;rintro e u ⟨rfl,hw⟩;subst u;clear HA)
   go_ret;exact ⟨rfl,0,rfl⟩
set_option maxHeartbeats 1000000 in
theorem z7h (h:LineIs p a x F s w) (j:Nat) (hj:j < p.W) :
 Calls prog 410 #[ptrV (a.wk j)] w fun e w'=>e=.returned (actV a (s.next p (j+3)))/\∃ m,w'=w.drewN m:=by
 obtain ⟨sv,fv,lv,hl,hw,-⟩:=h.cells;obtain ⟨hv,k1,k2⟩:=h.wrk;have y0:=(k1 j hj).cell 0;have y1:=(k1 j hj).cell 1;have y2:=(k1 j hj).cell 2;have x14:=hl.cell 14;have x16:=hl.cell 16;have x23:=hl.cell 23;simp [lnC,ptrV] at y0 y1 y2 x14 x16 x23;unfold Lst.next;have HA:=zZ (jAns h);have HR:=zZ (rFull h);clear h hl hw k1 k2;unfold ptrV at *;cases he:s.ew j with
 | true =>
  rw [he] at y1;unfold actV
  go_enter Tryz.func410,Tryz.ntmps410
  go_wp2;go_ret;exact ⟨by simp,0,rfl⟩
 | false =>
  rw [he] at y1;simp only [he,Bool.false_eq_true,if_false];cases hh:s.held j with
  | none =>
   simp only [heV,hh] at y2;cases hb:(decide (0 < s.jobs.length) || s.e0) with
   | true =>
    rw [hb] at HA;unfold actV ptrV
    go_enter Tryz.func410,Tryz.ntmps410
    go_wp2_with (go_at_call 384;refine HA.out.mono ?_;rintro e u ⟨rfl,hw⟩;subst u;clear HA)
    go_ret;exact ⟨rfl,0,rfl⟩
   | false =>
    rw [hb] at HA;unfold actV
    go_enter Tryz.func410,Tryz.ntmps410
    go_wp2_with (go_at_call 384;refine HA.out.mono ?_;rintro e u ⟨rfl,hw⟩;subst u;clear HA)
    go_ret;exact ⟨rfl,0,rfl⟩
  | some k =>
   simp only [heV,hh,ptrV] at y2;cases hst:s.stopped with
   | true =>
    rw [hst] at x23;unfold actV ptrV
    go_enter Tryz.func410,Tryz.ntmps410
    go_wp2;go_ret;exact ⟨rfl,0,rfl⟩
   | false =>
    rw [hst] at x23;cases hf:decide (s.ready.length=p.Rm) with
    | true =>
     rw [hf] at HR;unfold actV
     go_enter Tryz.func410,Tryz.ntmps410
     go_wp2_with (go_at_call 413;refine HR.out.mono ?_;rintro e u ⟨rfl,m,rfl⟩;clear HR)
     go_ret;exact ⟨rfl,m,rfl⟩
    | false =>
     rw [hf] at HR;unfold actV ptrV
     go_enter Tryz.func410,Tryz.ntmps410
     go_wp2_with (go_at_call 413;refine HR.out.mono ?_;rintro e u ⟨rfl,m,rfl⟩;clear HR)
     go_ret;exact ⟨rfl,m,rfl⟩
set_option maxHeartbeats 1000000 in
theorem z7i (h:LineIs p a x F s w) :
 Calls prog 387 #[ptrV a.wr] w fun e w'=>e=.returned (actV a (s.next p 2))/\∃ m,w'=w.drewN m:=by
 have HWR:=zZ (fun (u:World) (e:u.heap=w.heap)=>z3I (h.heap e));have HCT:=zZ (fun (u:World) (e:u.heap=w.heap)=>y7k (h.heap e));have HAN:=zZ (fun (u:World) (e:u.heap=w.heap)=>rAns (h.heap e));obtain ⟨sv,fv,lv,hl,hw,ho,-⟩:=h.cells;have HBG:Hid (∀ (u:World) (e:u.heap=w.heap),Calls prog 373 #[sv,O I s.wrote] u fun e w'=>e=.returned (.bool (decide (s.shelf.head?=some s.wrote)))/\w'=u) :=
  fun u e=>y2B a.b1 sv s.shelf s.wrote u (z1u ho fun g _=>by rw [e])
 have z1:=h.sum.cell 1;have y0:=hw.cell 0;have y1:=hw.cell 1;have y2:=hw.cell 2;have x16:=hl.cell 16;have x17:=hl.cell 17;have x25:=hl.cell 25;simp [lnC,ptrV] at z1 y0 y1 y2 x16 x17 x25;obtain ⟨sb,sc,rfl⟩:=y0B ho;clear h hl hw ho;unfold ptrV at *;cases he:s.e2 with
 | true =>
  rw [he] at y1;rw [show s.next p 2=none by simp [Lst.next,he]];unfold actV
  go_enter Tryz.func387,Tryz.ntmps387
  go_wp2;go_ret;exact ⟨rfl,0,rfl⟩
 | false =>
  rw [he] at y1;cases hbg:s.begun with
  | false =>
   rw [hbg] at y2;rw [show s.next p 2=some .begin by simp [Lst.next,he,hbg]];unfold actV ptrV
   go_enter Tryz.func387,Tryz.ntmps387
   go_wp2;go_ret;exact ⟨rfl,0,rfl⟩
  | true =>
   rw [hbg] at y2
   by_cases hh:s.shelf.head?=some s.wrote
   . rw [decide_eq_true hh] at HBG
     rw [show s.next p 2=some .write by simp [Lst.next,he,hbg,hh]];unfold actV ptrV
     go_enter Tryz.func387,Tryz.ntmps387
     go_wp2_with fail
     go_quiet (first | (go_at_call 107;exact Calls.quiet_of_same (HWR.out _ rfl)) | (go_at_call 373;exact Calls.quiet_of_same (HBG.out _ rfl)))
     go_wp2;go_ret;exact ⟨rfl,nq,rfl⟩
   . rw [decide_eq_false hh] at HBG
     by_cases hr:0 < s.ready.length
     . have d1:decide ((0:Int) < (s.ready.length:Int))=true:=decide_eq_true (by omega)
       rw [show s.next p 2=some .shelve by simp [Lst.next,he,hbg,hh,hr]];unfold actV ptrV
       go_enter Tryz.func387,Tryz.ntmps387
       go_wp2_with fail
       go_quiet (first | (go_at_call 107;exact Calls.quiet_of_same (HWR.out _ rfl)) | (go_at_call 373;exact Calls.quiet_of_same (HBG.out _ rfl)))
       go_wp2_with (first | (go_at_call 109;refine (HCT.out (w.drewN nq) rfl).mono ?_;rintro e u ⟨rfl,hw⟩;subst u;clear HCT) | (go_at_call 389;refine (HAN.out (w.drewN nq) rfl).mono ?_;rintro e u ⟨rfl,hw⟩;subst u;clear HAN))
       go_ret;exact ⟨rfl,nq,rfl⟩
     . have d1:decide ((0:Int) < (s.ready.length:Int))=false:=decide_eq_false (by omega)
       rw [decide_eq_false hr,Bool.false_or] at HAN;cases hs:s.shut p with
       | true =>
        rw [hs] at HAN;cases h1:s.e1 with
        | true =>
         rw [h1] at z1;rw [show s.next p 2=some .shelve by simp [Lst.next,he,hbg,hh,hr,hs,h1]];unfold actV ptrV
         go_enter Tryz.func387,Tryz.ntmps387
         go_wp2_with fail
         go_quiet (first | (go_at_call 107;exact Calls.quiet_of_same (HWR.out _ rfl)) | (go_at_call 373;exact Calls.quiet_of_same (HBG.out _ rfl)))
         go_wp2_with (first | (go_at_call 109;refine (HCT.out (w.drewN nq) rfl).mono ?_;rintro e u ⟨rfl,hw⟩;subst u;clear HCT) | (go_at_call 389;refine (HAN.out (w.drewN nq) rfl).mono ?_;rintro e u ⟨rfl,hw⟩;subst u;clear HAN))
         go_ret;exact ⟨rfl,nq,rfl⟩
        | false =>
         rw [h1] at z1;rw [show s.next p 2=none by simp [Lst.next,he,hbg,hh,hr,hs,h1]];unfold actV
         go_enter Tryz.func387,Tryz.ntmps387
         go_wp2_with fail
         go_quiet (first | (go_at_call 107;exact Calls.quiet_of_same (HWR.out _ rfl)) | (go_at_call 373;exact Calls.quiet_of_same (HBG.out _ rfl)))
         go_wp2_with (first | (go_at_call 109;refine (HCT.out (w.drewN nq) rfl).mono ?_;rintro e u ⟨rfl,hw⟩;subst u;clear HCT) | (go_at_call 389;refine (HAN.out (w.drewN nq) rfl).mono ?_;rintro e u ⟨rfl,hw⟩;subst u;clear HAN))
         go_ret;exact ⟨rfl,nq,rfl⟩
       | false =>
        rw [hs] at HAN;rw [show s.next p 2=none by simp [Lst.next,he,hbg,hh,hr,hs]];unfold actV
        go_enter Tryz.func387,Tryz.ntmps387
        go_wp2_with fail
        go_quiet (first | (go_at_call 107;exact Calls.quiet_of_same (HWR.out _ rfl)) | (go_at_call 373;exact Calls.quiet_of_same (HBG.out _ rfl)))
        go_wp2_with (first | (go_at_call 109;refine (HCT.out (w.drewN nq) rfl).mono ?_;rintro e u ⟨rfl,hw⟩;subst u;clear HCT) | (go_at_call 389;refine (HAN.out (w.drewN nq) rfl).mono ?_;rintro e u ⟨rfl,hw⟩;subst u;clear HAN))
        go_ret;exact ⟨rfl,nq,rfl⟩
end
theorem z0m {w:World} {base:Nat} {e:TypeId} {size:Nat} {v:Value} {n:Nat} {xs:List Value} (h:w.ownsRow base e size v n xs):∀ g,v.ownBlock=some g->kn w g=e+1/\base<=g/\g < w.heap.size:=by
 intro g hg;rcases h.2 with ⟨rfl,rfl⟩ | ⟨g',cap,cur,rfl,h1,h2,h3⟩
 . cases hg
 . cases hg
   exact ⟨by unfold kn;rw [h2],h1,(Array.getElem?_eq_some_iff.1 h2).1⟩
theorem z7X {w:World} {g:Nat} {e:TypeId} {n:Nat} {f:Nat->Value} (h:w.rowIs g e n f):kn w g=e+1:=by
 obtain ⟨c,h1,h2⟩:=h;unfold kn;rw [h1]
theorem QIs.kc {w:World} {q c:Nat} {t:TypeId} {cap:Nat} {buf:Array Value} {cl:Bool} (h:QIs w q c t cap buf cl):kn w c=0:=by
 obtain ⟨s,r,hc⟩:=h.chan;unfold kn;rw [hc]
structure Kinds (p:Lpar) (a:Lad) (x:Lsn) (s:Lst) (w:World):Prop where
 lb:kn w a.lb=160+1
 sp:kn w a.sp=165+1
 su:kn w a.su=167+1
 wr:kn w a.wr=169+1
 qj:kn w a.qj=247+1
 ql:kn w a.ql=247+1
 qr:kn w a.qr=250+1
 cj:kn w a.cj=0
 cl:kn w a.cl=0
 cr:kn w a.cr=0
 tb:kn w a.tb=178+1
 wb:kn w a.wb=170+1
 wk:∀ j,j < p.W->kn w (a.wk j)=173+1
 gb:∀ k,k < s.given->kn w (a.gb k)=30+1
theorem LineIs.kinds {p:Lpar} {a:Lad} {x:Lsn} {F:Nat->Prop} {s:Lst} {w:World} (h:LineIs p a x F s w):Kinds p a x s w:=by
 obtain ⟨sv,fv,lv,c1,c2,-⟩:=h.cells;obtain ⟨hv,k1,-⟩:=h.wrk;exact ⟨c1.kn,h.spl.kn,h.sum.kn,c2.kn,h.jobs.cells.kn,h.lane.cells.kn,h.ready.cells.kn,h.jobs.kc,h.lane.kc,h.ready.kc,(z0m h.tasks _ rfl).1,(z0m h.works _ rfl).1,fun j hj=>(k1 j hj).kn,fun k hk=>z7X (h.blocks k hk).2⟩
def z7Y (p:Lpar) (a:Lad) (x:Lsn) (F:Nat->Prop) (s:Lst) (w:World):Prop :=
 ∃ sv fv lv,Bx w a.lb 160 (lnC p a x s sv fv) /\
  Bx w a.wr 169 #[ptrV a.lb,.bool s.e2,.bool s.begun,lv] /\
  w.ownsRow a.b1 149 2 sv s.shelf.length (shlV x s.shelf)/\(∀ g,sv.ownBlock=some g->F g) /\
  w.ownsRow a.b1 5 1 fv (frsT x.d x.ch x.G x.S x.B s.wrote).length ((frsT x.d x.ch x.G x.S x.B s.wrote).map fun b=>.int .u8 (b.toNat:Int))/\(∀ g,fv.ownBlock=some g->F g) /\
  w.ownsRow a.b1 3 1 lv s.wrote ((List.range s.wrote).map fun k=>O I (frLn x k))/\(∀ g,lv.ownBlock=some g->F g)
def z9A (p:Lpar) (a:Lad) (x:Lsn) (F:Nat->Prop) (s:Lst) (w:World):Prop :=
 ∃ hv:Nat->Nat,(∀ j,j < p.W->Bx w (a.wk j) 173 #[ptrV a.lb,.bool (s.ew j),heV hv s j]) /\
  ∀ j k,j < p.W->s.held j=some k->F (hv j)/\Bx w (hv j) 145 #[O I k,.slice (some ⟨a.gb k,0,none⟩) x.ch x.ch]
def Firm (a:Lad) (w:World) (k:Nat):Prop:=kn w k=178+1∨kn w k=170+1∨kn w k=30+1∨(kn w k=3+1/\k < a.b1)
theorem LineIs.edit {p:Lpar} {a:Lad} {x:Lsn} {F F':Nat->Prop} {s s':Lst} {w w':World} {S:Nat->Prop} (h:LineIs p a x F s w) (he:Edit S w w') (hF:∀ k,F k->F' k) (hlt:∀ k,F' k->k < w'.heap.size) (hS:∀ k,S k->¬ Firm a w k)
 (hc:z7Y p a x F' s' w') (hspl:Bx w' a.sp 165 #[ptrV a.lb,.bool s'.e0,.slice (some ⟨a.lg,0,none⟩) x.ch a.lc,O I s'.given])
 (hsum:Bx w' a.su 167 #[ptrV a.lb,.bool s'.e1,O I s'.summed,O I (smN x s'.summed)]) (hwk:z9A p a x F' s' w')
 (hj:QIs w' a.qj a.cj 247 p.Rm (s'.jobs.map (blV a x)).toArray s'.e0) (hl:QIs w' a.ql a.cl 247 p.Rm (s'.lane.map (blV a x)).toArray s'.e0)
 (hr:QIs w' a.qr a.cr 250 p.Rm (s'.ready.map (pkV x)).toArray (s'.shut p))
 (hg:s'.given=s.given):LineIs p a x F' s' w':=by
 have hkd:=h.kinds;have nS:∀ k,Firm a w k->¬ S k:=fun k hf hs=>hS k hs hf
 obtain ⟨o1,o2,o3,o4,o5,o6,o7,o8,o9,o10,o11,o12,o13⟩:=h.own;refine ⟨h.kp,h.NB,h.W8,h.d16,h.R8,hc,hspl,hsum,hwk,hj,hl,hr,z1u h.tasks fun g hg=>?_,z1u h.works fun g hg=>?_,fun k hk=>?_,fun i hi=>?_,fun i hi j hj=>?_,h.caps,h.low,⟨hF _ h.lowF.1,fun i hi y hy h0=>hF _ (h.lowF.2 i hi y hy h0)⟩,
  ⟨hF _ o1,hF _ o2,hF _ o3,hF _ o4,hF _ o5,hF _ o6,hF _ o7,hF _ o8,hF _ o9,hF _ o10,hF _ o11,hF _ o12,fun j hj=>hF _ (o13 j hj)⟩,hlt,h.ne,Nat.le_trans h.b1 he.size,?_,fun i hi y hy h0=>?_⟩
 . cases hg
   exact he.block _ (h.lt _ o11) (nS _ (Or.inl hkd.tb))
 . cases hg
   exact he.block _ (h.lt _ o12) (nS _ (Or.inr (Or.inl hkd.wb)))
 . rw [hg] at hk
   exact ⟨hF _ (h.blocks k hk).1,z2h (h.blocks k hk).2 (he.block _ (h.lt _ (h.blocks k hk).1) (nS _ (Or.inr (Or.inr (Or.inl (hkd.gb k hk))))))⟩
 . obtain ⟨y,hy,hcc⟩:=h.lists i hi
   cases hy;exact ⟨_,rfl,(z4H (by cases i <;> exact he.block _ (h.lt _ h.lowF.1) (nS _ (Or.inr (Or.inr (Or.inl h.kl)))))).trans hcc⟩
 . obtain ⟨y,hy,hcc⟩:=h.ints i hi j hj
   have h0:0 < x.S:=by omega
   have hf:Firm a w y.block:=Or.inr (Or.inr (Or.inr ⟨h.ka i hi y hy h0,h.low.2 i hi y hy h0⟩));exact ⟨y,hy,(z4H (by cases j <;> exact he.block _ (h.lt _ (h.lowF.2 i hi y hy h0)) (nS _ hf))).trans hcc⟩
 . exact (kn_of (he.block _ (h.lt _ h.lowF.1) (nS _ (Or.inr (Or.inr (Or.inl h.kl)))))).trans h.kl
 . have hf:Firm a w y.block:=Or.inr (Or.inr (Or.inr ⟨h.ka i hi y hy h0,h.low.2 i hi y hy h0⟩))
   exact (kn_of (he.block _ (h.lt _ (h.lowF.2 i hi y hy h0)) (nS _ hf))).trans (h.ka i hi y hy h0)
theorem LineIs.cellsOk {p:Lpar} {a:Lad} {x:Lsn} {F F':Nat->Prop} {s:Lst} {w w':World} {S:Nat->Prop} (h:LineIs p a x F s w) (he:Edit S w w') (hF:∀ k,F k->F' k) (h1:¬ S a.lb) (h2:¬ S a.wr)
 (h3:∀ k,a.b1<=k->kn w k=149+1∨kn w k=5+1∨kn w k=3+1->¬ S k):z7Y p a x F' s w':=by
 obtain ⟨sv,fv,lv,c1,c2,c3,c4,c5,c6,c7,c8⟩:=h.cells;refine ⟨sv,fv,lv,c1.edit he h1,c2.edit he h2,z1u c3 fun g hg=>?_,fun g hg=>hF _ (c4 g hg),z1u c5 fun g hg=>?_,fun g hg=>hF _ (c6 g hg),z1u c7 fun g hg=>?_,fun g hg=>hF _ (c8 g hg)⟩
 . exact he.block _ (z0m c3 g hg).2.2 (h3 g (z0m c3 g hg).2.1 (Or.inl (z0m c3 g hg).1))
 . exact he.block _ (z0m c5 g hg).2.2 (h3 g (z0m c5 g hg).2.1 (Or.inr (Or.inl (z0m c5 g hg).1)))
 . exact he.block _ (z0m c7 g hg).2.2 (h3 g (z0m c7 g hg).2.1 (Or.inr (Or.inr (z0m c7 g hg).1)))
theorem LineIs.workOk {p:Lpar} {a:Lad} {x:Lsn} {F F':Nat->Prop} {s:Lst} {w w':World} {S:Nat->Prop} (h:LineIs p a x F s w) (he:Edit S w w') (hF:∀ k,F k->F' k) (h1:∀ k,kn w k=173+1∨kn w k=145+1->¬ S k):z9A p a x F' s w':=by
 obtain ⟨hv,k1,k2⟩:=h.wrk;exact ⟨hv,fun j hj=>(k1 j hj).edit he (h1 _ (Or.inl (k1 j hj).kn)),fun j k hj hk=>⟨hF _ (k2 j k hj hk).1,(k2 j k hj hk).2.edit he (h1 _ (Or.inr (k2 j k hj hk).2.kn))⟩⟩
def Own (F F':Nat->Prop) (w:World):Prop:=(∀ k,F k->F' k)/\∀ k,F' k->F k∨w.heap.size<=k
theorem Own.refl (F:Nat->Prop) (w:World):Own F F w:=⟨fun _ h=>h,fun _ h=>Or.inl h⟩
theorem Edit.one (v:World) (g j:Nat) (z:Value):Edit (fun k=>k=g) v (v.setCell ⟨g,j,none⟩ z):=Edit.cell (Edit.refl (fun k=>k=g) v) (Or.inl rfl) j z
set_option maxHeartbeats 1000000 in
theorem y4D {p:Lpar} {a:Lad} {x:Lsn} {F:Nat->Prop} {s:Lst} {w:World} (h:LineIs p a x F s w) (he0:s.e0=false) :
 Calls prog 374 #[ptrV a.sp] w fun e w'=>e=.returned (.tuple #[])/\LineIs p a x F { s with e0:=true } w'/\Edit F w w':=by
 obtain ⟨sv,fv,lv,hl,hw,-⟩:=h.cells;obtain ⟨o1,o2,o3,o4,o5,o6,o7,o8,o9,o10,o11,o12,o13⟩:=h.own;obtain ⟨n1,n2,n3,n4,n5⟩:=h.ne;have hkd:=h.kinds;have kd1:=hkd.lb;have kd2:=hkd.sp;have kd3:=hkd.su;have kd4:=hkd.wr;have kd5:=hkd.qj;have kd6:=hkd.ql;have kd7:=hkd.qr;have kd8:=hkd.cj;have kd9:=hkd.cl;have kd10:=hkd.cr;have x14:=hl.cell 14;have y0:=h.spl.cell 0;simp [lnC,ptrV] at x14 y0;have hj:=h.jobs;have hla:=h.lane;rw [he0] at hj hla;have HC1:=zZ (z6e _ _ _ _ _ hj);have HC2:=zZ (fun (u:World) (hu:Edit (fun k=>k=a.qj∨k=a.cj) w u)=>z6e _ _ _ _ _ (hla.edit hu (by grind) (by grind)));have HX1:Hid (∀ (u:World) (hu:Edit (fun k=>k=a.qj∨k=a.cj) w u),Bx u a.lb 160 (lnC p a x s sv fv)/\Bx u a.sp 165 #[ptrV a.lb,.bool s.e0,.slice (some ⟨a.lg,0,none⟩) x.ch a.lc,O I s.given]) :=
  fun u hu=>⟨hl.edit hu (by grind),h.spl.edit hu (by grind)⟩
 have HD:Hid (∀ (u v:World),QIs u a.qj a.cj 247 p.Rm (s.jobs.map (blV a x)).toArray true->Edit (fun k=>k=a.qj∨k=a.cj) w u->QIs v a.ql a.cl 247 p.Rm (s.lane.map (blV a x)).toArray true->Edit (fun k=>k=a.ql∨k=a.cl) u v ->
     (Bx v a.sp 165 #[ptrV a.lb,.bool s.e0,.slice (some ⟨a.lg,0,none⟩) x.ch a.lc,O I s.given])/\LineIs p a x F { s with e0:=true } (v.setCell ⟨a.sp,1,none⟩ (.bool true))/\Edit F w (v.setCell ⟨a.sp,1,none⟩ (.bool true))):=by
  intro u v q1 e1 q2 e2;have e3:Edit (fun k=>k=a.qj∨k=a.cj∨k=a.ql∨k=a.cl∨k=a.sp) w (v.setCell ⟨a.sp,1,none⟩ (.bool true)):=((e1.mono (by grind)).trans (e2.mono (by grind))).cell (by grind) 1 _;have hsp:Bx v a.sp 165 #[ptrV a.lb,.bool s.e0,.slice (some ⟨a.lg,0,none⟩) x.ch a.lc,O I s.given]:=(h.spl.edit e1 (by grind)).edit e2 (by grind);have e4:Edit (fun k=>k=a.sp) v (v.setCell ⟨a.sp,1,none⟩ (.bool true)):=Edit.one v a.sp 1 _;refine ⟨hsp,h.edit e3 (fun _ hk=>hk) (fun k hk=>Nat.lt_of_lt_of_le (h.lt k hk) e3.size) (by unfold Firm;grind) (h.cellsOk e3 (fun _ hk=>hk) (by grind) (by grind) (by grind)) (hsp.set 1 (.bool true)) (h.sum.edit e3 (by grind)) (h.workOk e3 (fun _ hk=>hk) (by grind))
   ((q1.edit e2 (by grind) (by grind)).edit e4 (by grind) (by grind)) (q2.edit e4 (by grind) (by grind)) (h.ready.edit e3 (by grind) (by grind)) rfl,e3.mono (by grind)⟩
 clear hj hla h hl hw hkd kd1 kd2 kd3 kd4 kd5 kd6 kd7 kd8 kd9 kd10 n1 n2 n3 n4 n5 o1 o2 o3 o4 o5 o6 o7 o8 o9 o10 o11 o12 o13;unfold ptrV at *
 go_enter Tryz.func374,Tryz.ntmps374
 go_wp2_with (first
  | (go_at_call_of 371 a.qj;refine HC1.out.mono ?_;rintro e w1 ⟨rfl,q1,e1⟩;have z0:=(HX1.out w1 e1).2.cell 0;have z15:=(HX1.out w1 e1).1.cell 15;simp [lnC,ptrV] at z0 z15;have HQ1:=zZ q1;have HE1:=zZ e1;clear HC1 q1 e1)
  | (go_at_call_of 371 a.ql;refine (HC2.out w1 HE1.out).mono ?_;rintro e w2 ⟨rfl,q2,e2⟩;have HZ:=zZ (HD.out w1 w2 HQ1.out HE1.out q2 e2);have t0:=HZ.out.1.cell 0;have t1:=HZ.out.1.cell 1;have f1:=HZ.out.1.free 1;simp at t0 t1;clear HC2 q2 e2))
 go_end0;exact ⟨rfl,HZ.out.2⟩
theorem LineIs.workOk1 {p:Lpar} {a:Lad} {x:Lsn} {F F':Nat->Prop} {s s':Lst} {w w':World} {S:Nat->Prop} (h:LineIs p a x F s w) (he:Edit S w w') (hF:∀ k,F k->F' k) (j:Nat) (hj:j < p.W)
 (h1:∀ k,kn w k=173+1->k ≠ a.wk j->¬ S k) (h2:∀ k,kn w k=145+1->¬ S k)
 (hs:∀ i,i ≠ j->s'.ew i=s.ew i/\s'.held i=s.held i) (v:Value) (hb:Bx w' (a.wk j) 173 #[ptrV a.lb,.bool (s'.ew j),v])
 (hv:(s'.held j=none/\v=.pointer none)∨∃ k g,s'.held j=some k/\v=ptrV g/\F' g/\Bx w' g 145 #[O I k,.slice (some ⟨a.gb k,0,none⟩) x.ch x.ch]):z9A p a x F' s' w':=by
 obtain ⟨hv0,k1,k2⟩:=h.wrk;have hn:=h.ne.2.2.2.2;rcases hv with ⟨hz,rfl⟩ | ⟨k,g,hz,rfl,hg,hbg⟩
 . refine ⟨hv0,fun i hi=>?_,fun i k hi hk=>?_⟩
   . by_cases e:i=j
     . subst e
       have:heV hv0 s' i=.pointer none:=by simp only [heV,hz]
       rw [this];exact hb
     . have:heV hv0 s' i=heV hv0 s i:=by simp only [heV,(hs i e).2]
       rw [this,(hs i e).1];exact (k1 i hi).edit he (h1 _ (k1 i hi).kn fun hh=>e (hn i j hi hj hh))
   . by_cases e:i=j
     . subst e
       rw [hz] at hk;cases hk
     . rw [(hs i e).2] at hk
       exact ⟨hF _ (k2 i k hi hk).1,(k2 i k hi hk).2.edit he (h2 _ (k2 i k hi hk).2.kn)⟩
 . refine ⟨fun i=>if i=j then g else hv0 i,fun i hi=>?_,fun i k' hi hk=>?_⟩
   . by_cases e:i=j
     . subst e
       have:heV (fun q=>if q=i then g else hv0 q) s' i=ptrV g:=by simp only [heV,hz,if_true]
       rw [this];exact hb
     . have:heV (fun q=>if q=j then g else hv0 q) s' i=heV hv0 s i:=by simp only [heV,(hs i e).2,if_neg e]
       rw [this,(hs i e).1];exact (k1 i hi).edit he (h1 _ (k1 i hi).kn fun hh=>e (hn i j hi hj hh))
   . by_cases e:i=j
     . subst e
       rw [hz] at hk;cases hk;simp only [if_true];exact ⟨hg,hbg⟩
     . rw [(hs i e).2] at hk
       simp only [if_neg e];exact ⟨hF _ (k2 i k' hi hk).1,(k2 i k' hi hk).2.edit he (h2 _ (k2 i k' hi hk).2.kn)⟩
section
variable {p:Lpar} {a:Lad} {x:Lsn} {F:Nat->Prop} {s:Lst} {w:World}
theorem y4E (h:LineIs p a x F s w) (j:Nat) (hj:j < p.W) :
 Calls prog 412 #[ptrV (a.wk j)] w fun e w'=>e=.returned (.tuple #[])/\LineIs p a x F { s with held:=updL s.held j none } w'/\Edit F w w':=by
 obtain ⟨hv,k1,k2⟩:=h.wrk;have hb:=k1 j hj;have y2:=hb.cell 2;have f2:=hb.free 2;simp at y2;have hkd:=h.kinds;have kd1:=hkd.lb;have kd2:=hkd.sp;have kd3:=hkd.su;have kd4:=hkd.wr;have kd5:=hkd.qj;have kd6:=hkd.ql;have kd7:=hkd.qr;have kd8:=hkd.cj;have kd9:=hkd.cl;have kd10:=hkd.cr;have kw:=hb.kn;have HD:Hid (LineIs p a x F { s with held:=updL s.held j none } (w.setCell ⟨a.wk j,2,none⟩ (.pointer none))/\Edit F w (w.setCell ⟨a.wk j,2,none⟩ (.pointer none))):=by
  have e3:=Edit.one w (a.wk j) 2 (.pointer none);refine ⟨h.edit e3 (fun _ hk=>hk) (fun k hk=>Nat.lt_of_lt_of_le (h.lt k hk) e3.size) (by unfold Firm;grind) (h.cellsOk e3 (fun _ hk=>hk) (by grind) (by grind) (by grind)) (h.spl.edit e3 (by grind)) (h.sum.edit e3 (by grind))
   (h.workOk1 e3 (fun _ hk=>hk) j hj (by grind) (by grind) (fun i hi=>⟨rfl,by simp [updL,hi]⟩) (.pointer none) (hb.set 2 (.pointer none)) (Or.inl ⟨by simp [updL],rfl⟩))
   (h.jobs.edit e3 (by grind) (by grind)) (h.lane.edit e3 (by grind) (by grind)) (h.ready.edit e3 (by grind) (by grind)) rfl,e3.mono fun k hk=>hk ▸ h.own.2.2.2.2.2.2.2.2.2.2.2.2 j hj⟩
 clear h k1 k2 hb hkd kd1 kd2 kd3 kd4 kd5 kd6 kd7 kd8 kd9 kd10 kw;unfold ptrV at *
 go_enter Tryz.func412,Tryz.ntmps412
 go_wp2;go_end0;exact ⟨rfl,HD.out⟩
theorem z4I:(prog.info? 145).map (·.size)=some 2:=by kernel_rfl
theorem y0C (f:Nat->Value) (k:Nat) (r:List Nat):(((k :: r).map f).toArray).extract 1 (((k :: r).map f).toArray).size=(r.map f).toArray:=by
 simp;rw [List.take_of_length_le (by simp)]
set_option maxHeartbeats 1000000 in
theorem y2C (h:LineIs p a x F s w) (j:Nat) (hj:j < p.W) (k:Nat) (r:List Nat) (hk:s.jobs=k :: r) :
 Calls prog 411 #[ptrV (a.wk j)] w fun e w'=>e=.returned (.tuple #[])/\∃ F',Own F F' w/\LineIs p a x F' { s with jobs:=r,held:=updL s.held j (some k) } w'/\Edit F w w':=by
 obtain ⟨sv,fv,lv,hl,hw,-⟩:=h.cells;obtain ⟨hv,k1,k2⟩:=h.wrk;have hb:=k1 j hj;have x14:=hl.cell 14;have y0:=hb.cell 0;simp [lnC,ptrV] at x14 y0;have hkd:=h.kinds;have kd1:=hkd.lb;have kd2:=hkd.sp;have kd3:=hkd.su;have kd4:=hkd.wr;have kd5:=hkd.qj;have kd6:=hkd.ql;have kd7:=hkd.qr;have kd8:=hkd.cj;have kd9:=hkd.cl;have kd10:=hkd.cr;obtain ⟨n1,n2,n3,n4,n5⟩:=h.ne;have kw:=hb.kn;have hq:=h.jobs;rw [hk] at hq;have HT:=zZ (z6W _ _ _ _ _ (O I k) (.slice (some ⟨a.gb k,0,none⟩) x.ch x.ch) w hq rfl ⟨rfl,rfl⟩);rw [y0C] at HT;have HD:Hid (∀ u:World,QIs u a.qj a.cj 247 p.Rm (r.map (blV a x)).toArray s.e0->Edit (·=a.cj) w u ->
     Bx ((u.alloc (.cells #[O I 0,.slice none 0 0] 145)).setRow u.heap.size #[O I k,.slice (some ⟨a.gb k,0,none⟩) x.ch x.ch]) (a.wk j) 173 #[ptrV a.lb,.bool (s.ew j),heV hv s j] /\
     ∃ F',Own F F' w/\LineIs p a x F' { s with jobs:=r,held:=updL s.held j (some k) } (((u.alloc (.cells #[O I 0,.slice none 0 0] 145)).setRow u.heap.size #[O I k,.slice (some ⟨a.gb k,0,none⟩) x.ch x.ch]).setCell ⟨a.wk j,2,none⟩ (ptrV u.heap.size)) /\
      Edit F w (((u.alloc (.cells #[O I 0,.slice none 0 0] 145)).setRow u.heap.size #[O I k,.slice (some ⟨a.gb k,0,none⟩) x.ch x.ch]).setCell ⟨a.wk j,2,none⟩ (ptrV u.heap.size))):=by
  intro u q1 e1;obtain ⟨v,hvv⟩:∃ v,v=(u.alloc (.cells #[O I 0,.slice none 0 0] 145)).setRow u.heap.size #[O I k,.slice (some ⟨a.gb k,0,none⟩) x.ch x.ch]:=⟨_,rfl⟩;have ev:Edit (fun _=>False) u v:=by rw [hvv];exact ((Edit.refl _ u).alloc _).row zY _
  have hbx:Bx v u.heap.size 145 #[O I k,.slice (some ⟨a.gb k,0,none⟩) x.ch x.ch]:=by rw [hvv];exact (Bx.new u _ _).row _
  have hvs:u.heap.size < v.heap.size:=hbx.lt;rw [← hvv];clear hvv;have e2:Edit (·=a.cj) w v:=e1.trans (ev.mono fun _ hh=>hh.elim);have hwv:=hb.edit e2 (by grind);have hwl:a.wk j < w.heap.size:=hb.lt;have hsz:=e1.size;have e4:=Edit.one v (a.wk j) 2 (ptrV u.heap.size);have e3:Edit (fun q=>q=a.cj∨q=a.wk j) w (v.setCell ⟨a.wk j,2,none⟩ (ptrV u.heap.size)):=(e2.mono (by grind)).trans (e4.mono (by grind));refine ⟨hwv,fun q=>F q∨q=u.heap.size,⟨fun _ hh=>Or.inl hh,fun q hh=>by rcases hh with hh | rfl;exact Or.inl hh;exact Or.inr hsz⟩,h.edit e3 (fun _ hh=>Or.inl hh) ?_ (by unfold Firm;grind) (h.cellsOk e3 (fun _ hh=>Or.inl hh) (by grind) (by grind) (by grind)) (h.spl.edit e3 (by grind)) (h.sum.edit e3 (by grind))
   (h.workOk1 e3 (fun _ hh=>Or.inl hh) j hj (by grind) (by grind) (fun i hi=>⟨rfl,by simp [updL,hi]⟩) (ptrV u.heap.size) (hwv.set 2 (ptrV u.heap.size)) (Or.inr ⟨k,u.heap.size,by simp [updL],rfl,Or.inr rfl,hbx.edit e4 (by grind)⟩))
   ((q1.edit ev id id).edit e4 (by grind) (by grind)) (h.lane.edit e3 (by grind) (by grind)) (h.ready.edit e3 (by grind) (by grind)) rfl,e3.mono fun q hq=>?_⟩
  . rintro q (hq | rfl)
    . exact Nat.lt_of_lt_of_le (h.lt q hq) e3.size
    . exact Nat.lt_of_lt_of_le hvs e4.size
  . rcases hq with rfl | rfl
    . exact h.own.2.2.2.2.2.2.2.1
    . exact h.own.2.2.2.2.2.2.2.2.2.2.2.2 j hj
 clear h k1 k2 hl hw hb hkd kd1 kd2 kd3 kd4 kd5 kd6 kd7 kd8 kd9 kd10 kw n1 n2 n3 n4 n5 hq;unfold ptrV at *
 go_enter Tryz.func411,Tryz.ntmps411
 go_wp2_with (first
  | (go_at_call 385;refine HT.out.mono ?_;rintro e w1 ⟨rfl,q1,e1⟩;have HZ:=zZ (HD.out w1 q1 e1);have t2:=HZ.out.1.cell 2;have f2:=HZ.out.1.free 2;simp at t2;clear HT q1 e1)
  | (refine z0b rfl _ _ 145 rfl w1.heap.size 145 _ _ rfl rfl (Bx.new w1 #[O I 0,.slice none 0 0] 145) z4I rfl rfl ?_))
 go_end0;exact ⟨rfl,HZ.out.2⟩
end
end Go.Proofs.YtlncjgnomhpjnabGreatDoor
