import Derived.Test.YtlncjgnomhpjnabGreatDoorQL24
set_option maxRecDepth 100000
namespace Go.Proofs.YtlncjgnomhpjnabGreatDoor
open Go.Value renaming int → O
open Go.IntKind renaming i64 → I
open Go.Proofs.Tryz
open Go.RowKit Go.Deep
set_option linter.unusedVariables false
theorem z2O {p:Lpar} {s:Lst} {j:Nat} (hj:j < p.W) (h:s.ew j=false):s.shut p=false:=by
 unfold Lst.shut;rw [List.all_eq_false];exact ⟨j,List.mem_range.2 hj,by simp [h]⟩
theorem y4J {p:Lpar} {s:Lst} (h:∀ j,j < p.W->s.ew j=true):s.shut p=true:=by
 unfold Lst.shut;rw [List.all_eq_true];exact fun j hj=>h j (List.mem_range.1 hj)
section
variable {p:Lpar} {a:Lad} {x:Lsn} {F:Nat->Prop} {s:Lst} {w:World}
theorem y8b (h:LineIs p a x F s w) (j:Nat) (hj:j < p.W) (hh:s.held j=none) (hs:({ s with ew:=updL s.ew j true }:Lst).shut p=s.shut p) :
 LineIs p a x F { s with ew:=updL s.ew j true } (w.setCell ⟨a.wk j,1,none⟩ (.bool true))/\Edit F w (w.setCell ⟨a.wk j,1,none⟩ (.bool true)):=by
 obtain ⟨hv,k1,k2⟩:=h.wrk;have hb:=k1 j hj;have hkd:=h.kinds;have kd1:=hkd.lb;have kd2:=hkd.sp;have kd3:=hkd.su;have kd4:=hkd.wr;have kd5:=hkd.qj;have kd6:=hkd.ql;have kd7:=hkd.qr;have kd8:=hkd.cj;have kd9:=hkd.cl;have kd10:=hkd.cr;have kw:=hb.kn;have e3:=Edit.one w (a.wk j) 1 (.bool true);have hb1:Bx (w.setCell ⟨a.wk j,1,none⟩ (.bool true)) (a.wk j) 173 #[ptrV a.lb,.bool true,.pointer none]:=by
  have:=hb.set 1 (.bool true)
  simpa [heV,hh] using this
 refine ⟨h.edit e3 (fun _ hk=>hk) (fun k hk=>zP (h.lt k hk) e3.size) (by unfold Firm;grind) (h.cellsOk e3 (fun _ hk=>hk) (by grind) (by grind) (by grind)) (h.spl.edit e3 (by grind)) (h.sum.edit e3 (by grind))
  (h.workOk1 e3 (fun _ hk=>hk) j hj (by grind) (by grind) (fun i hi=>⟨by simp [updL,hi],rfl⟩) (.pointer none) (by simpa [updL] using hb1) (Or.inl ⟨hh,rfl⟩))
  (h.jobs.edit e3 (by grind) (by grind)) (h.lane.edit e3 (by grind) (by grind)) (by rw [hs];exact h.ready.edit e3 (by grind) (by grind)) rfl,e3.mono fun k hk=>hk ▸ h.own.2.2.2.2.2.2.2.2.2.2.2.2 j hj⟩
theorem y8W {p:Lpar} {a:Lad} {x:Lsn} {F:Nat->Prop} {s:Lst} {w u:World} (h:LineIs p a x F s w) (j:Nat) (hj:j < p.W) (hh:s.held j=none) (hs:({ s with ew:=updL s.ew j true }:Lst).shut p=true)
 (hq:QIs u a.qr a.cr 250 p.Rm (s.ready.map (pkV x)).toArray true) (he:Edit (fun k=>k=a.qr∨k=a.cr) (w.setCell ⟨a.wk j,1,none⟩ (.bool true)) u) :
 LineIs p a x F { s with ew:=updL s.ew j true } u/\Edit F w u:=by
 obtain ⟨hv,k1,k2⟩:=h.wrk;have hb:=k1 j hj;have hkd:=h.kinds;have kd1:=hkd.lb;have kd2:=hkd.sp;have kd3:=hkd.su;have kd4:=hkd.wr;have kd5:=hkd.qj;have kd6:=hkd.ql;have kd7:=hkd.qr;have kd8:=hkd.cj;have kd9:=hkd.cl;have kd10:=hkd.cr;obtain ⟨n1,n2,n3,n4,n5⟩:=h.ne;have kw:=hb.kn;have e0:=Edit.one w (a.wk j) 1 (.bool true);have e3:Edit (fun k=>k=a.wk j∨k=a.qr∨k=a.cr) w u:=(e0.mono (by grind)).trans (he.mono (by grind));have hb1:Bx u (a.wk j) 173 #[ptrV a.lb,.bool true,.pointer none]:=by
  have:=(hb.set 1 (.bool true)).edit he (by grind)
  simpa [heV,hh] using this
 refine ⟨h.edit e3 (fun _ hk=>hk) (fun k hk=>zP (h.lt k hk) e3.size) (by unfold Firm;grind) (h.cellsOk e3 (fun _ hk=>hk) (by grind) (by grind) (by grind)) (h.spl.edit e3 (by grind)) (h.sum.edit e3 (by grind))
  (h.workOk1 e3 (fun _ hk=>hk) j hj (by grind) (by grind) (fun i hi=>⟨by simp [updL,hi],rfl⟩) (.pointer none) (by simpa [updL] using hb1) (Or.inl ⟨hh,rfl⟩))
  (h.jobs.edit e3 (by grind) (by grind)) (h.lane.edit e3 (by grind) (by grind)) (by rw [hs];exact hq) rfl,e3.mono fun k hk=>?_⟩
 rcases hk with rfl | rfl | rfl
 . exact h.own.2.2.2.2.2.2.2.2.2.2.2.2 j hj
 . exact h.own.2.2.2.2.2.2.1
 . exact h.own.2.2.2.2.2.2.2.2.2.1
set_option maxHeartbeats 1000000 in
theorem y4K (h:LineIs p a x F s w) (j:Nat) (hj:j < p.W) (hh:s.held j=none) (hej:s.ew j=false) :
 Calls prog 409 #[ptrV (a.wk j)] w fun e w'=>e=.returned (.tuple #[])/\LineIs p a x F { s with ew:=updL s.ew j true } w'/\Edit F w w':=by
 obtain ⟨sv,fv,lv,hl,hw,-⟩:=h.cells;obtain ⟨hv,k1,k2⟩:=h.wrk;have hb:=k1 j hj;have hkd:=h.kinds;have kd1:=hkd.lb;have kd7:=hkd.qr;have kd10:=hkd.cr;have kd12:=hkd.wb;have kw:=hb.kn;have e0:=Edit.one w (a.wk j) 1 (.bool true);have t1:=hb.cell 1;have f1:=hb.free 1;have y0:=(hb.set 1 (.bool true)).cell 0;have hl1:=hl.edit e0 (by grind);have x27:=hl1.cell 27;have x16:=hl1.cell 16;simp [lnC,ptrV] at t1 y0 x27 x16;have HW:Hid (∀ q,q < p.W->(w.setCell ⟨a.wk j,1,none⟩ (.bool true)).cell? ⟨a.wb,q,none⟩=some (.pointer (some ⟨a.wk q,0,none⟩))/\(w.setCell ⟨a.wk j,1,none⟩ (.bool true)).cell? ⟨a.wk q,1,none⟩=some (.bool (updL s.ew j true q))):=by
  intro q hq;constructor
  . obtain ⟨g,cap,hg,-,-,hc⟩:=z2N (z1z h.works (w':=w.setCell ⟨a.wk j,1,none⟩ (.bool true)) fun g hg=>e0.block _ (z0l h.works g hg).2.2 (by cases hg;show ¬ (a.wb=a.wk j);grind)) zU
    cases hg;exact hc q _ (by simp [hq,ptrV])
  . by_cases e:q=j
    . subst e
      have:=(hb.set 1 (.bool true)).cell 1
      simpa [updL] using this
    . have:=((k1 q hq).edit e0 (by show ¬ (a.wk q=a.wk j);exact fun hh=>e (h.ne.2.2.2.2 q j hq hj hh))).cell 1
      simpa [updL,e] using this
 have hsh:=z2O hj hej;have HR0:Hid (∀ q,q < p.W->updL s.ew j true q=false->LineIs p a x F { s with ew:=updL s.ew j true } (w.setCell ⟨a.wk j,1,none⟩ (.bool true))/\Edit F w (w.setCell ⟨a.wk j,1,none⟩ (.bool true))) :=
  fun q hq hqe=>y8b h j hj hh (by rw [hsh];exact z2O (s:={ s with ew:=updL s.ew j true }) hq hqe)
 have HR1:Hid (∀ u,(∀ q,q < p.W->updL s.ew j true q=true)->QIs u a.qr a.cr 250 p.Rm (s.ready.map (pkV x)).toArray true->Edit (fun k=>k=a.qr∨k=a.cr) (w.setCell ⟨a.wk j,1,none⟩ (.bool true)) u->LineIs p a x F { s with ew:=updL s.ew j true } u/\Edit F w u) :=
  fun u hq h1 h2=>y8W h j hj hh (y4J (s:={ s with ew:=updL s.ew j true }) hq) h1 h2
 have hrd:=h.ready;rw [hsh] at hrd;have HCL:=zZ (z9f _ _ _ _ _ (hrd.edit e0 (by show ¬ (a.qr=a.wk j);grind) (by show ¬ (a.cr=a.wk j);grind)));have hW8:=h.W8;clear h k1 k2 hl hl1 hw hb hkd kd1 kd7 kd10 kd12 kw e0 hsh hrd hh hej;generalize updL s.ew j true=ew' at *;generalize hw1:w.setCell ⟨a.wk j,1,none⟩ (.bool true)=w1 at *;unfold ptrV at *
 go_enter func409,ntmps409
 go_wp2
 go_loopw [3,17] (fun _ iv wr=>∃ q:Nat,q<=p.W/\iv=O I q/\Hid (∀ i,i < q->ew' i=true)/\wr=w1) (fun _ iv _=>p.W - (intOf iv).toNat)
 case atStart=>exact ⟨0,zJ _,rfl,fun i hi=>absurd hi (Nat.not_lt_zero i),rfl⟩
 case round =>
  obtain ⟨q,hq,rfl,HE,rfl⟩:=hrel
  by_cases hlt:q < p.W
  . have u0:=(HW.out q hlt).1
    have u1:=(HW.out q hlt).2;cases hqe:ew' q with
    | false =>
     rw [hqe] at u1;go_wp2
     try simp only [Exit.inBlock,Exit.then]
     refine bodyPost_ret (results_none rfl _ _ _) rfl ?_;exact ⟨rfl,HR0.out q hlt hqe⟩
    | true =>
     rw [hqe] at u1;go_wp2
     go_roundw
     case rel=>exact ⟨q+1,zU,zS,fun i hi=>by by_cases e:i=q;exact e ▸ hqe;exact HE.out i zU,trivial⟩
     case measure=>simp [intOf];omega
  . have e:q=p.W:=zU
    subst e
    go_wp2_with (go_at_call 372;refine HCL.out.mono ?_;rintro e u ⟨rfl,q1,e1⟩;have HZ:=zZ (HR1.out u HE.out q1 e1);clear q1 e1 HCL)
    go_end0;exact ⟨rfl,HZ.out⟩
end
theorem y6z (n:Nat) (F:Nat->Nat->Int) (q m:Nat) (hn:0 < n):intT n F (2 * (q * n)) ++ intT n (fun i j=>F i (q+j)) (2 * (m * n))=intT n F (2 * ((q+m) * n)):=by
 unfold intT;rw [show 2 * ((q+m) * n)=2 * (q * n)+2 * (m * n) by rw [Nat.add_mul,Nat.mul_add],List.range_add,List.map_append,List.map_map]
 congr 1
 apply List.map_congr_left;intro j _
 show intB n (fun i j=>F i (q+j)) j=intB n F (2 * (q * n)+j)
 have e1:(2 * (q * n)+j) / 2=j / 2+q * n:=zU
 have e2:(2 * (q * n)+j) % 2=j % 2:=zU
 unfold intB;rw [e1,e2,Nat.add_mul_mod_self_right,Nat.add_mul_div_right _ _ hn,Nat.add_comm (j / 2 / n) q]
theorem y6A {x:Lsn} (hn:0 < x.ch) (hB:1<=x.B) {k:Nat} (hk:k < nBlk x.S x.B):sumN (intT x.ch x.G (2 * (min (k * x.B) x.S * x.ch)) ++ intT x.ch (blkF x.G x.B k) (2 * (blkN x.S x.B k * x.ch)))=smN x (k+1):=by
 have h1:=(z7N (S:=x.S) (k:=k) hB).1 hk;have e1:min (k * x.B) x.S=k * x.B:=Nat.min_eq_left zU;have e2:min ((k+1) * x.B) x.S=k * x.B+blkN x.S x.B k:=by unfold blkN;rw [Nat.add_mul,Nat.one_mul];omega
 unfold smN;rw [e1,e2,← y6z x.ch x.G (k * x.B) (blkN x.S x.B k) hn]
 rfl
section
variable {p:Lpar} {a:Lad} {x:Lsn} {F:Nat->Prop} {s:Lst} {w:World}
theorem LineIs.blk (h:LineIs p a x F s w) {k:Nat} (hk:k < s.given) (hN:k < nBlk x.S x.B) :
 ListsAt w (some ⟨a.gb k,0,none⟩) x.ch (blkA a.A (k * x.B)) (fun _=>blkN x.S x.B k) (fun i=>a.C i - k * x.B)/\(∀ i,i < x.ch->IntsAt w (blkA a.A (k * x.B) i) (blkN x.S x.B k) (blkF x.G x.B k i)) /\
  Low w.heap.size (some ⟨a.gb k,0,none⟩) x.ch (blkA a.A (k * x.B)) (fun _=>blkN x.S x.B k):=by
 have hbd:=z3u h.kp.B1 hN;refine ⟨y7X (h.blocks k hk).2,fun i hi=>y1A (h.ints i hi) hbd.2.2,fun y hy _=>?_,fun i hi y hy _=>?_⟩
 . cases hy
   exact h.lt _ (h.blocks k hk).1
 . cases hy
   have h0:0 < x.S:=zU
   have:=z4r (h.ints i hi) h0;exact h.lt (bkOf (a.A i)) (h.lowF.2 i hi _ this h0)
set_option maxHeartbeats 1000000 in
theorem y0u (h:LineIs p a x F s w) (j:Nat) (hj:j < p.W) (hk:s.jobs=[]) (he0:s.e0=true) (hh:s.held j=none) (hej:s.ew j=false) :
 Calls prog 411 #[ptrV (a.wk j)] w fun e w'=>e=.returned (.tuple #[])/\LineIs p a x F { s with ew:=updL s.ew j true } w'/\Edit F w w':=by
 obtain ⟨sv,fv,lv,hl,hw,-⟩:=h.cells;obtain ⟨hv,k1,k2⟩:=h.wrk;have hb:=k1 j hj;have x14:=hl.cell 14;have y0:=hb.cell 0;simp [lnC,ptrV] at x14 y0;have hkd:=h.kinds;have kd1:=hkd.lb;have kd2:=hkd.sp;have kd3:=hkd.su;have kd4:=hkd.wr;have kd5:=hkd.qj;have kd6:=hkd.ql;have kd7:=hkd.qr;have kd8:=hkd.cj;have kd9:=hkd.cl;have kd10:=hkd.cr;obtain ⟨n1,n2,n3,n4,n5⟩:=h.ne;have hq:=h.jobs;rw [hk,he0] at hq;have HT:=zZ (z7a _ _ _ w hq);have HD:Hid (∀ u:World,QIs u a.qj a.cj 247 p.Rm #[] true->Edit (·=a.cj) w u ->
     LineIs p a x F s ((u.alloc (.cells #[O I 0,.slice none 0 0] 145)).setRow u.heap.size #[O I 0,.slice none 0 0])/\Edit F w ((u.alloc (.cells #[O I 0,.slice none 0 0] 145)).setRow u.heap.size #[O I 0,.slice none 0 0])):=by
  intro u q1 e1;have h1:LineIs p a x F s u:=h.edit e1 (fun _ hk=>hk) (fun k hk=>zP (h.lt k hk) e1.size) (by unfold Firm;grind) (h.cellsOk e1 (fun _ hk=>hk) (by grind) (by grind) (by grind)) (h.spl.edit e1 (by grind)) (h.sum.edit e1 (by grind))
   (h.workOk e1 (fun _ hk=>hk) (by grind)) (by rw [hk,he0];exact q1) (h.lane.edit e1 (by grind) (by grind)) (h.ready.edit e1 (by grind) (by grind)) rfl
  have ev:Edit (fun _=>False) u ((u.alloc (.cells #[O I 0,.slice none 0 0] 145)).setRow u.heap.size #[O I 0,.slice none 0 0]):=((Edit.refl _ u).alloc _).row zY _;exact ⟨h1.keep (fun k hk=>ev.block k (h1.lt k hk) id) ev.size,(e1.mono fun k hk=>hk ▸ h.own.2.2.2.2.2.2.2.1).trans (ev.mono fun _ hh=>hh.elim)⟩
 clear h k1 k2 hl hw hb hkd kd1 kd2 kd3 kd4 kd5 kd6 kd7 kd8 kd9 kd10 n1 n2 n3 n4 n5 hq;have HEN:=zZ (fun (u:World) (h:LineIs p a x F s u)=>y4K h j hj hh hej);clear hh hej hk he0;unfold ptrV at *
 go_enter func411,ntmps411
 go_wp2_with (first
  | (go_at_call 385;refine HT.out.mono ?_;rintro e w1 ⟨rfl,q1,e1⟩;have HZ:=zZ (HD.out w1 q1 e1);clear HT q1 e1 HD)
  | (refine z0a rfl _ _ 145 rfl w1.heap.size 145 _ _ rfl rfl (Bx.new w1 #[O I 0,.slice none 0 0] 145) z4P rfl rfl ?_)
  | (go_at_call 409;refine (HEN.out _ HZ.out.1).mono ?_;rintro e w2 ⟨rfl,hl2,he2⟩;have HY:=zZ (And.intro hl2 (HZ.out.2.trans he2));clear hl2 he2 HZ HEN))
 try simp only [Exit.inBlock,Exit.then]
 refine bodyPost_ret (results_none rfl _ _ _) rfl ?_;exact ⟨rfl,HY.out⟩
set_option maxHeartbeats 1000000 in
theorem y0v (h:LineIs p a x F s w) (hk:s.lane=[]) (he0:s.e0=true) :
 Calls prog 383 #[ptrV a.su] w fun e w'=>e=.returned (.tuple #[])/\LineIs p a x F { s with e1:=true } w'/\Edit F w w':=by
 obtain ⟨sv,fv,lv,hl,hw,-⟩:=h.cells;have x15:=hl.cell 15;have y0:=h.sum.cell 0;simp [lnC,ptrV] at x15 y0;have hkd:=h.kinds;have kd1:=hkd.lb;have kd2:=hkd.sp;have kd3:=hkd.su;have kd4:=hkd.wr;have kd5:=hkd.qj;have kd6:=hkd.ql;have kd7:=hkd.qr;have kd8:=hkd.cj;have kd9:=hkd.cl;have kd10:=hkd.cr;obtain ⟨n1,n2,n3,n4,n5⟩:=h.ne;have hq:=h.lane;rw [hk,he0] at hq;have HT:=zZ (z7a _ _ _ w hq);have HD:Hid (∀ u:World,QIs u a.ql a.cl 247 p.Rm #[] true->Edit (·=a.cl) w u ->
     Bx ((u.alloc (.cells #[O I 0,.slice none 0 0] 145)).setRow u.heap.size #[O I 0,.slice none 0 0]) a.su 167 #[ptrV a.lb,.bool s.e1,O I s.summed,O I (smN x s.summed)] /\
     LineIs p a x F { s with e1:=true } (((u.alloc (.cells #[O I 0,.slice none 0 0] 145)).setRow u.heap.size #[O I 0,.slice none 0 0]).setCell ⟨a.su,1,none⟩ (.bool true))/\Edit F w (((u.alloc (.cells #[O I 0,.slice none 0 0] 145)).setRow u.heap.size #[O I 0,.slice none 0 0]).setCell ⟨a.su,1,none⟩ (.bool true))):=by
  intro u q1 e1;obtain ⟨v,hvv⟩:∃ v,v=((u.alloc (.cells #[O I 0,.slice none 0 0] 145)).setRow u.heap.size #[O I 0,.slice none 0 0]):=⟨_,rfl⟩;have ev:Edit (fun _=>False) u v:=by rw [hvv];exact ((Edit.refl _ u).alloc _).row zY _
  rw [← hvv];clear hvv;have e2:Edit (·=a.cl) w v:=e1.trans (ev.mono fun _ hh=>hh.elim);have hsv:=h.sum.edit e2 (by grind);have e4:=Edit.one v a.su 1 (.bool true);have e3:Edit (fun q=>q=a.cl∨q=a.su) w (v.setCell ⟨a.su,1,none⟩ (.bool true)):=(e2.mono (by grind)).trans (e4.mono (by grind));refine ⟨hsv,h.edit e3 (fun _ hh=>hh) (fun k hk=>zP (h.lt k hk) e3.size) (by unfold Firm;grind) (h.cellsOk e3 (fun _ hh=>hh) (by grind) (by grind) (by grind)) (h.spl.edit e3 (by grind)) (hsv.set 1 (.bool true)) (h.workOk e3 (fun _ hh=>hh) (by grind))
   (h.jobs.edit e3 (by grind) (by grind)) (by rw [show ({ s with e1:=true }:Lst).lane=[] from hk,show ({ s with e1:=true }:Lst).e0=true from he0];exact (q1.edit ev id id).edit e4 (by grind) (by grind)) (h.ready.edit e3 (by grind) (by grind)) rfl,e3.mono fun q hq=>?_⟩
  rcases hq with rfl | rfl
  . exact h.own.2.2.2.2.2.2.2.2.1
  . exact h.own.2.2.1
 clear h hl hw hkd kd1 kd2 kd3 kd4 kd5 kd6 kd7 kd8 kd9 kd10 n1 n2 n3 n4 n5 hq;unfold ptrV at *
 go_enter func383,ntmps383
 go_wp2_with (first
  | (go_at_call 385;refine HT.out.mono ?_;rintro e w1 ⟨rfl,q1,e1⟩;have HZ:=zZ (HD.out w1 q1 e1);have t1:=HZ.out.1.cell 1;have f1:=HZ.out.1.free 1;simp at t1;clear HT q1 e1 HD)
  | (refine z0a rfl _ _ 145 rfl w1.heap.size 145 _ _ rfl rfl (Bx.new w1 #[O I 0,.slice none 0 0] 145) z4P rfl rfl ?_))
 try simp only [Exit.inBlock,Exit.then]
 refine bodyPost_ret (results_none rfl _ _ _) rfl ?_;exact ⟨rfl,HZ.out.2⟩
end
theorem y8X {p:Lpar} {a:Lad} {x:Lsn} {F:Nat->Prop} {s:Lst} {w v:World} (h:LineIs p a x F s w) {r:List Nat} (he:Edit (·=a.cl) w v) (hq:QIs v a.ql a.cl 247 p.Rm (r.map (blV a x)).toArray s.e0) :
 LineIs p a x F { s with lane:=r } v:=by
 have hkd:=h.kinds;have kd1:=hkd.lb;have kd2:=hkd.sp;have kd3:=hkd.su;have kd4:=hkd.wr;have kd5:=hkd.qj;have kd6:=hkd.ql;have kd7:=hkd.qr;have kd8:=hkd.cj;have kd9:=hkd.cl;have kd10:=hkd.cr;obtain ⟨n1,n2,n3,n4,n5⟩:=h.ne;exact h.edit he (fun _ hh=>hh) (fun k hk=>zP (h.lt k hk) he.size) (by unfold Firm;grind) (h.cellsOk he (fun _ hh=>hh) (by grind) (by grind) (by grind)) (h.spl.edit he (by grind)) (h.sum.edit he (by grind)) (h.workOk he (fun _ hh=>hh) (by grind))
  (h.jobs.edit he (by grind) (by grind)) hq (h.ready.edit he (by grind) (by grind)) rfl
theorem y7r {p:Lpar} {a:Lad} {x:Lsn} {F:Nat->Prop} {s:Lst} {v:World} (h:LineIs p a x F s v) :
 LineIs p a x F { s with summed:=s.summed+1 } ((v.setCell ⟨a.su,3,none⟩ (O I (smN x (s.summed+1)))).setCell ⟨a.su,2,none⟩ (O I ((s.summed+1:Nat):Int))) /\
  Edit F v ((v.setCell ⟨a.su,3,none⟩ (O I (smN x (s.summed+1)))).setCell ⟨a.su,2,none⟩ (O I ((s.summed+1:Nat):Int))):=by
 have hkd:=h.kinds;have kd1:=hkd.lb;have kd2:=hkd.sp;have kd3:=hkd.su;have kd4:=hkd.wr;have kd5:=hkd.qj;have kd6:=hkd.ql;have kd7:=hkd.qr;have kd8:=hkd.cj;have kd9:=hkd.cl;have kd10:=hkd.cr;obtain ⟨n1,n2,n3,n4,n5⟩:=h.ne;have e4:=Edit.one v a.su 3 (O I (smN x (s.summed+1)));have e5:=Edit.one (v.setCell ⟨a.su,3,none⟩ (O I (smN x (s.summed+1)))) a.su 2 (O I ((s.summed+1:Nat):Int));have e3:=e4.trans e5;have hsu:=(h.sum.set 3 (O I (smN x (s.summed+1)))).set 2 (O I ((s.summed+1:Nat):Int));exact ⟨h.edit e3 (fun _ hh=>hh) (fun k hk=>zP (h.lt k hk) e3.size) (by unfold Firm;grind) (h.cellsOk e3 (fun _ hh=>hh) (by grind) (by grind) (by grind)) (h.spl.edit e3 (by grind)) hsu (h.workOk e3 (fun _ hh=>hh) (by grind))
  (h.jobs.edit e3 (by grind) (by grind)) (h.lane.edit e3 (by grind) (by grind)) (h.ready.edit e3 (by grind) (by grind)) rfl,e3.mono fun q hq=>hq ▸ h.own.2.2.1⟩
theorem y9N {p:Lpar} {a:Lad} {x:Lsn} {F:Nat->Prop} {s:Lst} {v:World} (h:LineIs p a x F s v) {k:Nat} (hkg:k < s.given) (hN:k < nBlk x.S x.B) :
 Calls prog 131 #[O I (smN x k),.slice (some ⟨a.gb k,0,none⟩) x.ch x.ch] v fun e w'=>e=.returned (O I (smN x (k+1)))/\Below v.heap.size v w':=by
 obtain ⟨h1,h2,h3⟩:=h.blk hkg hN;have hbd:=z3u h.kp.B1 hN;have hB32:=h.kp.B32;have h5:=z6D (intT x.ch x.G (2 * (min (k * x.B) x.S * x.ch))) (some ⟨a.gb k,0,none⟩) x.ch x.ch _ _ _ _ v h.kp.n1 h.kp.n4 zU h1 h2 h3;rw [y6A h.kp.n1 h.kp.B1 hN] at h5;exact h5
set_option linter.unusedSimpArgs false in
set_option maxHeartbeats 2000000 in
theorem y2K {p:Lpar} {a:Lad} {x:Lsn} {F:Nat->Prop} {s:Lst} {w:World} (h:LineIs p a x F s w) (r:List Nat) (hk:s.lane=s.summed :: r) (hkg:s.summed < s.given) (hN:s.summed < nBlk x.S x.B) :
 Calls prog 383 #[ptrV a.su] w fun e w'=>e=.returned (.tuple #[])/\LineIs p a x F { s with lane:=r,summed:=s.summed+1 } w'/\Edit F w w':=by
 obtain ⟨sv,fv,lv,hl,hw,-⟩:=h.cells;have x15:=hl.cell 15;have y0:=h.sum.cell 0;simp [lnC,ptrV] at x15 y0;have hnb:=h.kp.nb;have hsl:=h.sum.lt;have hq:=h.lane;rw [hk] at hq;have HT:=zZ (z6Z _ _ _ _ _ (O I s.summed) (.slice (some ⟨a.gb s.summed,0,none⟩) x.ch x.ch) w hq rfl ⟨rfl,rfl⟩);rw [y0t] at HT;have HD:Hid (∀ u v:World,QIs u a.ql a.cl 247 p.Rm (r.map (blV a x)).toArray s.e0->Edit (·=a.cl) w u->Edit (fun _=>False) u v ->
     Bx v a.su 167 #[ptrV a.lb,.bool s.e1,O I s.summed,O I (smN x s.summed)] /\
     LineIs p a x F { s with lane:=r,summed:=s.summed+1 } ((v.setCell ⟨a.su,3,none⟩ (O I (smN x (s.summed+1)))).setCell ⟨a.su,2,none⟩ (O I ((s.summed+1:Nat):Int))) /\
     Edit F w ((v.setCell ⟨a.su,3,none⟩ (O I (smN x (s.summed+1)))).setCell ⟨a.su,2,none⟩ (O I ((s.summed+1:Nat):Int)))):=by
  intro u v q1 e1 e2;have e3:Edit (·=a.cl) w v:=e1.trans (e2.mono fun _ hh=>hh.elim);have hm:=y8X h e3 (q1.edit e2 id id);exact ⟨hm.sum,(y7r hm).1,(e3.mono fun q hq=>hq ▸ h.own.2.2.2.2.2.2.2.2.1).trans (y7r hm).2⟩
 have HSO:Hid (∀ u v:World,QIs u a.ql a.cl 247 p.Rm (r.map (blV a x)).toArray s.e0->Edit (·=a.cl) w u->Edit (fun _=>False) u v->Calls prog 131 #[O I (smN x s.summed),.slice (some ⟨a.gb s.summed,0,none⟩) x.ch x.ch] v fun e w'=>e=.returned (O I (smN x (s.summed+1)))/\Below v.heap.size v w'):=by
  intro u v q1 e1 e2;exact y9N (y8X h (e1.trans (e2.mono fun _ hh=>hh.elim)) (q1.edit e2 id id)) hkg hN
 have wr1:I.wrap ((s.summed:Int)+1)=((s.summed+1:Nat):Int):=by rw [zK];omega
 clear h hl hw hq hk hkg hN hnb;unfold ptrV at *;generalize smN x (s.summed+1)=sm1 at *;generalize smN x s.summed=sm0 at *
 go_enter func383,ntmps383
 go_wp2_with (first
  | (go_at_call 385;refine HT.out.mono ?_;rintro e w1 ⟨rfl,q1,e1⟩;have HQ1:=zZ q1;have HE1:=zZ e1;clear HT q1 e1)
  | (refine z0a rfl _ _ 145 rfl w1.heap.size 145 _ _ rfl rfl (Bx.new w1 #[O I 0,.slice none 0 0] 145) z4P rfl rfl ?_))
 have EV:Hid (Edit (fun _=>False) w1 ((w1.alloc (.cells #[O I 0,.slice none 0 0] 145)).setRow w1.heap.size #[O I s.summed,.slice (some ⟨a.gb s.summed,0,none⟩) x.ch x.ch])):=((Edit.refl _ w1).alloc _).row zY _;have BX:Hid (Bx ((w1.alloc (.cells #[O I 0,.slice none 0 0] 145)).setRow w1.heap.size #[O I s.summed,.slice (some ⟨a.gb s.summed,0,none⟩) x.ch x.ch]) w1.heap.size 145 #[O I s.summed,.slice (some ⟨a.gb s.summed,0,none⟩) x.ch x.ch]):=(Bx.new w1 _ _).row _;generalize (w1.alloc (.cells #[O I 0,.slice none 0 0] 145)).setRow w1.heap.size #[O I s.summed,.slice (some ⟨a.gb s.summed,0,none⟩) x.ch x.ch]=v at *;have HZ0:=zZ (HD.out w1 v HQ1.out HE1.out EV.out).1;have m3:v.drew.cell? ⟨a.su,3,none⟩=some (O I sm0):=HZ0.out.cell 3;have hS0:v.drew.cell? ⟨w1.heap.size,1,none⟩=some (.slice (some ⟨a.gb s.summed,0,none⟩) x.ch x.ch):=BX.out.cell 1;refine wp_region_held_drew (S:=fun w'=>w'.cell? ⟨w1.heap.size,1,none⟩=some (.slice (some ⟨a.gb s.summed,0,none⟩) x.ch x.ch)) zT hS0 (fun _=>?_);refine tq 0 ?_
 refine tq 1 ?_;refine tq 2 ?_;refine tq 3 ?_;refine tq 5 ?_;refine tq 6 ?_
 refine zQ 4 (fun K hK=>?_)
 go_simp
 go_wp2_with fail;refine zV hK hS0 (fun _=>?_);clear hK K
 refine zQ 7 (fun K hK=>?_)
 go_simp
 go_at_call 131
 refine (HSO.out w1 v.drew HQ1.out HE1.out (EV.out.drewN 1)).mono ?_;rintro e u2 ⟨rfl,hb⟩;have HE2:=zZ (EV.out.trans (Edit.of (S:=fun _=>False) (⟨hb.os,hb.tape,hb.output,hb.size,hb.block⟩:Below v.heap.size v u2)));have hS1:u2.cell? ⟨w1.heap.size,1,none⟩=some (.slice (some ⟨a.gb s.summed,0,none⟩) x.ch x.ch):=(BX.out.below (⟨hb.os,hb.tape,hb.output,hb.size,hb.block⟩:Below v.heap.size v u2)).cell 1;have HZ1:=zZ (HD.out w1 u2 HQ1.out HE1.out HE2.out);have g3:=HZ1.out.1.cell 3;have f3:=HZ1.out.1.free 3;simp at g3;have hne:w1.heap.size ≠ a.su:=by have:=HE1.out.size;omega
 have hS2:(u2.setCell ⟨a.su,3,none⟩ (O I sm1)).cell? ⟨w1.heap.size,1,none⟩=some (.slice (some ⟨a.gb s.summed,0,none⟩) x.ch x.ch):=(World.cell?_setCell_far _ _ _ _ (Ne.symm hne)).trans hS1;have b2:=((HZ1.out.1.set 3 (O I sm1)).cell 2);have b2f:=((HZ1.out.1.set 3 (O I sm1)).free 2);simp at b2;clear hb HSO m3 hS0;go_wp2_with fail;refine zV hK hS1 (fun _=>?_);clear hK K
 refine tq 8 ?_;refine tq 9 ?_
 refine zQ 10 (fun K hK=>?_)
 go_simp
 go_wp2_with fail;refine zV hK hS2 (fun _=>?_);clear hK K
 refine wpAnyH_done zT ?_ _;go_wp2;go_end0;exact ⟨rfl,HZ1.out.2⟩
def Lad.reg (a:Lad) (k g:Nat):Lad:={ a with gb:=updL a.gb k g }
theorem z8j {a:Lad} {x:Lsn} {k g:Nat} {l:List Nat} (h:∀ i,i ∈ l->i < k):l.map (blV (a.reg k g) x)=l.map (blV a x):=by
 apply List.map_congr_left;intro i hi;have:=h i hi;simp only [blV,Lad.reg,updL,if_neg (show ¬ i=k by omega)]
theorem LInv.lt_jobs {p:Lpar} {s:Lst} (hi:LInv p s):∀ i,i ∈ s.jobs->i < s.given:=fun i h=>(hi.ahead i (by unfold Lst.put;simp only [List.mem_append];exact Or.inl (Or.inl (Or.inl h)))).2
theorem LInv.lt_lane {p:Lpar} {s:Lst} (hi:LInv p s):∀ i,i ∈ s.lane->i < s.given:=fun i h=>by
 rw [hi.lane.2,List.mem_range'_1] at h;have:=hi.lane.1;omega
theorem LInv.lt_held {p:Lpar} {s:Lst} (hi:LInv p s):∀ j k,j < p.W->s.held j=some k->k < s.given:=fun j k hj hk=>(hi.ahead k (by
 unfold Lst.put Lst.heldL;simp only [List.mem_append];exact Or.inl (Or.inl (Or.inr (List.mem_filterMap.2 ⟨j,List.mem_range.2 hj,hk⟩))))).2
theorem LineIs.reg {p:Lpar} {a:Lad} {x:Lsn} {F:Nat->Prop} {s:Lst} {w:World} (h:LineIs p a x F s w) (hi:LInv p s) (g:Nat):LineIs p (a.reg s.given g) x F s w:=by
 obtain ⟨hv,k1,k2⟩:=h.wrk;refine ⟨h.kp,h.NB,h.W8,h.d16,h.R8,h.cells,h.spl,h.sum,⟨hv,k1,fun j k hj hk=>?_⟩,?_,?_,h.ready,h.tasks,h.works,fun k hk=>?_,h.lists,h.ints,h.caps,h.low,h.lowF,h.own,h.lt,h.ne,h.b1,h.kl,h.ka⟩
 . have h1:=hi.lt_held j k hj hk
   have e:(a.reg s.given g).gb k=a.gb k:=by simp only [Lad.reg,updL,if_neg (show ¬ k=s.given by omega)]
   rw [e];exact k2 j k hj hk
 . rw [z8j hi.lt_jobs]
   exact h.jobs
 . rw [z8j hi.lt_lane]
   exact h.lane
 . have e:(a.reg s.given g).gb k=a.gb k:=by simp only [Lad.reg,updL,if_neg (show ¬ k=s.given by omega)]
   rw [e];exact h.blocks k hk
theorem LineIs.editG {p:Lpar} {a:Lad} {x:Lsn} {F F':Nat->Prop} {s s':Lst} {w w':World} {S:Nat->Prop} (h:LineIs p a x F s w) (he:Edit S w w') (hF:∀ k,F k->F' k) (hlt:∀ k,F' k->k < w'.heap.size) (hS:∀ k,S k->¬ Firm a w k)
 (hc:z8i p a x F' s' w') (hspl:Bx w' a.sp 165 #[ptrV a.lb,.bool s'.e0,.slice (some ⟨a.lg,0,none⟩) x.ch a.lc,O I s'.given])
 (hsum:Bx w' a.su 167 #[ptrV a.lb,.bool s'.e1,O I s'.summed,O I (smN x s'.summed)]) (hwk:z9n p a x F' s' w')
 (hj:QIs w' a.qj a.cj 247 p.Rm (s'.jobs.map (blV a x)).toArray s'.e0) (hl:QIs w' a.ql a.cl 247 p.Rm (s'.lane.map (blV a x)).toArray s'.e0)
 (hr:QIs w' a.qr a.cr 250 p.Rm (s'.ready.map (pkV x)).toArray (s'.shut p))
 (hg:∀ k,k < s'.given->k < s.given∨(F' (a.gb k)/\w'.rowIs (a.gb k) 30 x.ch (blkV a.A a.C (k * x.B) (blkN x.S x.B k) x.ch))):LineIs p a x F' s' w':=by
 have hkd:=h.kinds;have nS:∀ k,Firm a w k->¬ S k:=fun k hf hs=>hS k hs hf
 obtain ⟨o1,o2,o3,o4,o5,o6,o7,o8,o9,o10,o11,o12,o13⟩:=h.own;refine ⟨h.kp,h.NB,h.W8,h.d16,h.R8,hc,hspl,hsum,hwk,hj,hl,hr,z1z h.tasks fun g hg=>?_,z1z h.works fun g hg=>?_,fun k hk=>?_,fun i hi=>?_,fun i hi j hj=>?_,h.caps,h.low,⟨hF _ h.lowF.1,fun i hi y hy h0=>hF _ (h.lowF.2 i hi y hy h0)⟩,
  ⟨hF _ o1,hF _ o2,hF _ o3,hF _ o4,hF _ o5,hF _ o6,hF _ o7,hF _ o8,hF _ o9,hF _ o10,hF _ o11,hF _ o12,fun j hj=>hF _ (o13 j hj)⟩,hlt,h.ne,zO h.b1 he.size,?_,fun i hi y hy h0=>?_⟩
 . cases hg
   exact he.block _ (h.lt _ o11) (nS _ (Or.inl hkd.tb))
 . cases hg
   exact he.block _ (h.lt _ o12) (nS _ (Or.inr (Or.inl hkd.wb)))
 . rcases hg k hk with hk | hk
   . exact ⟨hF _ (h.blocks k hk).1,z2B (h.blocks k hk).2 (he.block _ (h.lt _ (h.blocks k hk).1) (nS _ (Or.inr (Or.inr (Or.inl (hkd.gb k hk))))))⟩
   . exact hk
 . obtain ⟨y,hy,hcc⟩:=h.lists i hi
   cases hy;exact ⟨_,rfl,(z4O (by cases i <;> exact he.block _ (h.lt _ h.lowF.1) (nS _ (Or.inr (Or.inr (Or.inl h.kl)))))).trans hcc⟩
 . obtain ⟨y,hy,hcc⟩:=h.ints i hi j hj
   have h0:0 < x.S:=zU
   have hf:Firm a w y.block:=Or.inr (Or.inr (Or.inr ⟨h.ka i hi y hy h0,h.low.2 i hi y hy h0⟩));exact ⟨y,hy,(z4O (by cases j <;> exact he.block _ (h.lt _ (h.lowF.2 i hi y hy h0)) (nS _ hf))).trans hcc⟩
 . exact (y2H (he.block _ (h.lt _ h.lowF.1) (nS _ (Or.inr (Or.inr (Or.inl h.kl)))))).trans h.kl
 . have hf:Firm a w y.block:=Or.inr (Or.inr (Or.inr ⟨h.ka i hi y hy h0,h.low.2 i hi y hy h0⟩))
   exact (y2H (he.block _ (h.lt _ (h.lowF.2 i hi y hy h0)) (nS _ hf))).trans (h.ka i hi y hy h0)
theorem y8Y {p:Lpar} {a:Lad} {x:Lsn} {F:Nat->Prop} {s:Lst} {w u u1 u2:World} (h:LineIs p a x F s w) (hi:LInv p s) {g:Nat} (e0:Edit (fun _=>False) w u) (hrow:u.rowIs g 30 x.ch (blkV a.A a.C (s.given * x.B) (blkN x.S x.B s.given) x.ch)) (hgw:w.heap.size<=g)
 (q1:QIs u1 a.qj a.cj 247 p.Rm ((s.jobs.map (blV a x)).toArray.push (.agg #[O I s.given,.slice (some ⟨g,0,none⟩) x.ch x.ch])) s.e0) (e1:Edit (·=a.cj) u u1)
 (q2:QIs u2 a.ql a.cl 247 p.Rm ((s.lane.map (blV a x)).toArray.push (.agg #[O I s.given,.slice (some ⟨g,0,none⟩) x.ch x.ch])) s.e0) (e2:Edit (·=a.cl) u1 u2) :
 Bx u2 a.sp 165 #[ptrV a.lb,.bool s.e0,.slice (some ⟨a.lg,0,none⟩) x.ch a.lc,O I s.given] /\
 ∃ F',Own F F' w/\LineIs p (a.reg s.given g) x F' (s.act p .give) (u2.setCell ⟨a.sp,3,none⟩ (O I ((s.given+1:Nat):Int)))/\Edit F w (u2.setCell ⟨a.sp,3,none⟩ (O I ((s.given+1:Nat):Int))):=by
 have hkd:=h.kinds;have kd1:=hkd.lb;have kd2:=hkd.sp;have kd3:=hkd.su;have kd4:=hkd.wr;have kd5:=hkd.qj;have kd6:=hkd.ql;have kd7:=hkd.qr;have kd8:=hkd.cj;have kd9:=hkd.cl;have kd10:=hkd.cr;obtain ⟨n1,n2,n3,n4,n5⟩:=h.ne;have e3:Edit (fun k=>k=a.cj∨k=a.cl) w u2:=((e0.mono fun _ h=>h.elim).trans (e1.mono (by grind))).trans (e2.mono (by grind));have hsp:=h.spl.edit e3 (by grind);have e5:=Edit.one u2 a.sp 3 (O I ((s.given+1:Nat):Int));have e4:Edit (fun k=>k=a.cj∨k=a.cl∨k=a.sp) w (u2.setCell ⟨a.sp,3,none⟩ (O I ((s.given+1:Nat):Int))):=(e3.mono (by grind)).trans (e5.mono (by grind));have hgl:g < u.heap.size:=by obtain ⟨c,h1,-⟩:=hrow;exact (Array.getElem?_eq_some_iff.1 h1).1
 have hne:g ≠ a.cj/\g ≠ a.cl/\g ≠ a.sp:=by
  have o1:=h.lt _ h.own.2.1;have o2:=h.lt _ h.own.2.2.2.2.2.2.2.1;have o3:=h.lt _ h.own.2.2.2.2.2.2.2.2.1;omega
 have hgb:(a.reg s.given g).gb s.given=g:=by simp [Lad.reg,updL]
 have hnew:blV (a.reg s.given g) x s.given=.agg #[O I s.given,.slice (some ⟨g,0,none⟩) x.ch x.ch]:=by simp only [blV,hgb]
 have hj':(s.jobs.map (blV a x)).toArray.push (.agg #[O I s.given,.slice (some ⟨g,0,none⟩) x.ch x.ch])=((s.jobs ++ [s.given]).map (blV (a.reg s.given g) x)).toArray:=by
  rw [List.map_append,z8j hi.lt_jobs,List.map_singleton,hnew];simp
 have hl':(s.lane.map (blV a x)).toArray.push (.agg #[O I s.given,.slice (some ⟨g,0,none⟩) x.ch x.ch])=((s.lane ++ [s.given]).map (blV (a.reg s.given g) x)).toArray:=by
  rw [List.map_append,z8j hi.lt_lane,List.map_singleton,hnew];simp
 rw [hj'] at q1;rw [hl'] at q2;have hR:=h.reg hi g;refine ⟨hsp,fun q=>F q∨q=g,⟨fun _ hh=>Or.inl hh,fun q hh=>by rcases hh with hh | rfl;exact Or.inl hh;exact Or.inr hgw⟩,?_,e4.mono fun q hq=>?_⟩
 . refine hR.editG (s':=s.act p .give) e4 (fun _ hh=>Or.inl hh) ?_ (by unfold Firm;grind) (hR.cellsOk (F':=fun q=>F q∨q=g) e4 (fun _ hh=>Or.inl hh) (by show ¬ _;grind [Lad.reg]) (by show ¬ _;grind [Lad.reg]) (by grind [Lad.reg])) (hsp.set 3 _) (hR.sum.edit e4 (by show ¬ _;grind [Lad.reg])) (hR.workOk (F':=fun q=>F q∨q=g) e4 (fun _ hh=>Or.inl hh) (by grind [Lad.reg]))
     ((q1.edit e2 (by show ¬ _;grind) (by show ¬ _;grind)).edit e5 (by show ¬ _;grind) (by show ¬ _;grind)) (q2.edit e5 (by show ¬ _;grind) (by show ¬ _;grind)) (hR.ready.edit e4 (by show ¬ _;grind [Lad.reg]) (by show ¬ _;grind [Lad.reg])) fun k hk=>?_
   . rintro q (hq | rfl)
     . exact zP (h.lt q hq) e4.size
     . exact zP hgl (zO (zO e1.size e2.size) e5.size)
   . by_cases e:k=s.given
     . subst e
       refine Or.inr ⟨Or.inr hgb,?_⟩;rw [hgb];have e6:Edit (fun k=>k=a.cj∨k=a.cl∨k=a.sp) u (u2.setCell ⟨a.sp,3,none⟩ (O I ((s.given+1:Nat):Int))):=((e1.mono (by grind)).trans (e2.mono (by grind))).trans (e5.mono (by grind));exact z2B hrow (e6.block g hgl (by grind))
     . have hk':k < s.given+1:=hk
       exact Or.inl zU
 . rcases hq with rfl | rfl | rfl
   . exact h.own.2.2.2.2.2.2.2.1
   . exact h.own.2.2.2.2.2.2.2.2.1
   . exact h.own.2.1
theorem z1p {P:Program} {w:World} {ops:Array Oper} {o:Oper} {a:Act} {K:Act->World->Prop} {Q:Exit->Act->World->Prop} {E:Prop} (hgd:o.guard=none) (p v:Operand) (t:TypeId) (ho:o.op=.store t p v)
 (g:Nat) (tt:TypeId) (old cells:Array Value) (hp:a.eval p=.pointer (some ⟨g,0,none⟩)) (hv:a.eval v=.agg cells) (hg:w.heap[g]?=some (.cells old tt (0,0))) (hi:(P.info? t).map (·.size)=some cells.size)
 (hs:old.size=cells.size) (h1:cells.toList.all (·.oneCell')=true) (h:K (a.put o.dst undef) (w.setRow g cells)):if Region.wanted o (yielded ops a.tmps)=true then Oper.wp P o a w K Q else E:=by
 have hw:Region.wanted o (yielded ops a.tmps)=true:=by simp [Region.wanted,hgd]
 rw [if_pos hw];have hr:=run_storeVar_row (P:=P) w g tt t old cells hg hi hs (by rw [← Array.all_toList];exact h1);unfold Oper.wp execOp;have e:(Instr.storeAt t (.pointer (some ⟨g,0,none⟩)) (.agg cells)).run P w=.ok () (w.setRow g cells):=by simpa [Instr.storeAt,Instr.sureAddr,asAddr] using hr
 simp only [ho,hp,hv,Sem.run_bind,e,Result.andThen,Sem.run_pure];rw [Oper.upon_skip];exact h
set_option linter.unusedSimpArgs false in
set_option maxHeartbeats 4000000 in
theorem y2L {p:Lpar} {a:Lad} {x:Lsn} {F:Nat->Prop} {s:Lst} {w:World} (h:LineIs p a x F s w) (hi:LInv p s) (he0:s.e0=false) (hN:s.given < nBlk x.S x.B) (hjr:s.jobs.length < p.Rm) (hlr:s.lane.length < p.Rm) :
 Calls prog 380 #[ptrV a.sp] w fun e w'=>e=.returned (.tuple #[])/\∃ g F',Own F F' w/\LineIs p (a.reg s.given g) x F' (s.act p .give) w'/\Edit F w w':=by
 obtain ⟨sv,fv,lv,hl,hw,-⟩:=h.cells;have hnb:=h.kp.nb;have hkd:=h.kinds;have kd1:=hkd.lb;have kd2:=hkd.sp;have kd5:=hkd.qj;have kd6:=hkd.ql;have kd8:=hkd.cj;have kd9:=hkd.cl;obtain ⟨n1,n2,n3,n4,n5⟩:=h.ne;have HS:Hid (∀ u,Edit (fun _=>False) w u->u.cell? ⟨a.sp,0,none⟩=some (.pointer (some ⟨a.lb,0,none⟩))/\u.cell? ⟨a.sp,2,none⟩=some (.slice (some ⟨a.lg,0,none⟩) x.ch a.lc)/\u.cell? ⟨a.sp,3,none⟩=some (O I s.given)/\u.cell? ⟨a.lb,2,none⟩=some (O I x.B)):=fun u he =>
  ⟨(h.spl.edit he id).cell 0,(h.spl.edit he id).cell 2,(h.spl.edit he id).cell 3,(hl.edit he id).cell 2⟩
 have HBL:Hid (∀ u,Edit (fun _=>False) w u->∀ G,u.heap.size=G->Calls prog 64 #[.slice (some ⟨a.lg,0,none⟩) x.ch a.lc,O I x.B,O I s.given] u fun e w' =>
     e=.returned (.slice (some ⟨G,0,none⟩) x.ch x.ch)/\w'.rowIs G 30 x.ch (blkV a.A a.C (s.given * x.B) (blkN x.S x.B s.given) x.ch)/\Below G u w'):=fun u he G hG=>by
  subst hG;have hk:=h.keep (fun k hk=>he.block k (h.lt k hk) id) he.size;have hb1:=hk.b1;exact y4v (some ⟨a.lg,0,none⟩) x.ch a.lc a.A x.S a.C x.G x.B s.given u hk.kp.n1 hk.kp.n4 hk.kp.B1 hk.kp.B32 hk.kp.S3 hN hk.lists hk.caps hk.ints ⟨fun y hy h0=>zP (hk.low.1 y hy h0) hb1,fun i hi y hy h0=>zP (hk.low.2 i hi y hy h0) hb1⟩
 have hqj:=h.jobs;have hql:=h.lane;rw [he0] at hqj hql;have HP1:Hid (∀ u g,Edit (fun _=>False) w u->Calls prog 381 #[.pointer (some ⟨a.qj,0,none⟩),.agg #[O I s.given,.slice (some ⟨g,0,none⟩) x.ch x.ch]] u fun e w'=>e=.returned (.tuple #[])/\QIs w' a.qj a.cj 247 p.Rm ((s.jobs.map (blV a x)).toArray.push (.agg #[O I s.given,.slice (some ⟨g,0,none⟩) x.ch x.ch])) false/\Edit (·=a.cj) u w') :=
  fun u g he=>z9d a.qj a.cj p.Rm (s.jobs.map (blV a x)).toArray (O I s.given) (.slice (some ⟨g,0,none⟩) x.ch x.ch) u (hqj.edit he id id) (by simpa using hjr) ⟨rfl,rfl⟩
 have HP2:Hid (∀ u g,Edit (·=a.cj) w u->Calls prog 381 #[.pointer (some ⟨a.ql,0,none⟩),.agg #[O I s.given,.slice (some ⟨g,0,none⟩) x.ch x.ch]] u fun e w'=>e=.returned (.tuple #[])/\QIs w' a.ql a.cl 247 p.Rm ((s.lane.map (blV a x)).toArray.push (.agg #[O I s.given,.slice (some ⟨g,0,none⟩) x.ch x.ch])) false/\Edit (·=a.cl) u w') :=
  fun u g he=>z9d a.ql a.cl p.Rm (s.lane.map (blV a x)).toArray (O I s.given) (.slice (some ⟨g,0,none⟩) x.ch x.ch) u (hql.edit he (by grind) (by grind)) (by simpa using hlr) ⟨rfl,rfl⟩
 have HL2:Hid (∀ u,Edit (fun k=>k=a.cj∨k=a.cl) w u->Bx u a.lb 160 (lnC p a x s sv fv)/\Bx u a.sp 165 #[ptrV a.lb,.bool s.e0,.slice (some ⟨a.lg,0,none⟩) x.ch a.lc,O I s.given]):=fun u he=>⟨hl.edit he (by grind),h.spl.edit he (by grind)⟩
 have HG:Hid (∀ u u1 u2 g,Edit (fun _=>False) w u->u.rowIs g 30 x.ch (blkV a.A a.C (s.given * x.B) (blkN x.S x.B s.given) x.ch)->w.heap.size<=g->QIs u1 a.qj a.cj 247 p.Rm ((s.jobs.map (blV a x)).toArray.push (.agg #[O I s.given,.slice (some ⟨g,0,none⟩) x.ch x.ch])) false->Edit (·=a.cj) u u1 ->
     QIs u2 a.ql a.cl 247 p.Rm ((s.lane.map (blV a x)).toArray.push (.agg #[O I s.given,.slice (some ⟨g,0,none⟩) x.ch x.ch])) false->Edit (·=a.cl) u1 u2 ->
     Bx u2 a.sp 165 #[ptrV a.lb,.bool s.e0,.slice (some ⟨a.lg,0,none⟩) x.ch a.lc,O I s.given] /\
     ∃ F',Own F F' w/\LineIs p (a.reg s.given g) x F' (s.act p .give) (u2.setCell ⟨a.sp,3,none⟩ (O I ((s.given+1:Nat):Int)))/\Edit F w (u2.setCell ⟨a.sp,3,none⟩ (O I ((s.given+1:Nat):Int)))):=fun u u1 u2 g e0 hr hg q1 e1 q2 e2 =>
  y8Y h hi e0 hr hg (by rw [he0];exact q1) e1 (by rw [he0];exact q2) e2
 have HLT:Hid (a.sp < w.heap.size/\a.lb < w.heap.size/\a.cj < w.heap.size/\a.cl < w.heap.size):=⟨h.lt _ h.own.2.1,h.lt _ h.own.1,h.lt _ h.own.2.2.2.2.2.2.2.1,h.lt _ h.own.2.2.2.2.2.2.2.2.1⟩;have wr1:I.wrap ((s.given:Int)+1)=((s.given+1:Nat):Int):=by rw [zK];omega
 have hS0:=HS.out w.drew ((Edit.refl _ w).drewN 1);clear h hi hl hw hqj hql hkd kd1 kd2 kd5 kd6 kd8 kd9 n1 n2 n3 n4 n5 hN hjr hlr hnb he0;unfold ptrV at *
 go_enter func380,ntmps380
 go_wp2_with fail
 go_cut [2] (fun s2 wx=>∃ b g:Nat,s2=.pointer (some ⟨b,0,none⟩)/\Hid (Edit (fun _=>False) w wx/\Bx wx b 145 #[O I s.given,.slice (some ⟨g,0,none⟩) x.ch x.ch]/\wx.rowIs g 30 x.ch (blkV a.A a.C (s.given * x.B) (blkN x.S x.B s.given) x.ch)/\w.heap.size<=g/\w.heap.size<=b))
 case first =>
  refine wp_region_held_drew (S:=fun w'=>w'.cell? ⟨a.sp,0,none⟩=some (.pointer (some ⟨a.lb,0,none⟩))/\w'.cell? ⟨a.sp,2,none⟩=some (.slice (some ⟨a.lg,0,none⟩) x.ch a.lc)/\w'.cell? ⟨a.sp,3,none⟩=some (O I s.given)/\w'.cell? ⟨a.lb,2,none⟩=some (O I x.B)) zT hS0 (fun _=>?_);refine tq 0 ?_
  refine tq 1 ?_;refine tq 2 ?_;refine tq 3 ?_;refine tq 4 ?_;refine tq 5 ?_;refine tq 6 ?_;refine tq 7 ?_;refine tq 8 ?_;refine tq 9 ?_;refine tq 10 ?_;refine tq 11 ?_;refine tq 12 ?_;refine tq 13 ?_;refine tq 14 ?_;refine tq 15 ?_;refine tq 16 ?_;refine tq 17 ?_;refine tq 18 ?_;refine tq 19 ?_;refine tq 20 ?_
  refine wpAnyH_ready (rs:=[21,23]) zT (by simp) ?_;refine AllReadyH.cons rfl (fun K hK=>?_) (AllReadyH.cons rfl (fun K hK=>?_) (AllReadyH.nil))
  . go_simp
    go_at_call 64
    refine (HBL.out w.drew ((Edit.refl _ w).drewN 1) w.heap.size rfl).mono ?_;rintro e u1 ⟨rfl,hrow,hb⟩;have e1:Edit (fun _=>False) w u1:=Edit.of (⟨hb.os,hb.tape,hb.output,hb.size,hb.block⟩:Below w.heap.size w u1);have hS1:=HS.out u1 e1;have hS2:=HS.out (u1.alloc (.cells #[O I 0,.slice none 0 0] 145)) (e1.alloc _);have HE3:Hid (Edit (fun _=>False) w ((u1.alloc (.cells #[O I 0,.slice none 0 0] 145)).setRow u1.heap.size #[O I s.given,.slice (some ⟨w.heap.size,0,none⟩) x.ch x.ch])):=(e1.alloc _).row e1.size _;have hS3:=HS.out _ HE3.out;have hg1:w.heap.size < u1.heap.size:=by obtain ⟨c,h1,-⟩:=hrow;exact (Array.getElem?_eq_some_iff.1 h1).1
    have HR:Hid (((u1.alloc (.cells #[O I 0,.slice none 0 0] 145)).setRow u1.heap.size #[O I s.given,.slice (some ⟨w.heap.size,0,none⟩) x.ch x.ch]).rowIs w.heap.size 30 x.ch (blkV a.A a.C (s.given * x.B) (blkN x.S x.B s.given) x.ch)):=by
     have e6:Edit (fun _=>False) u1 ((u1.alloc (.cells #[O I 0,.slice none 0 0] 145)).setRow u1.heap.size #[O I s.given,.slice (some ⟨w.heap.size,0,none⟩) x.ch x.ch]):=((Edit.refl _ u1).alloc _).row zY _;exact z2B hrow (e6.block _ hg1 id)
    have HE1:=zZ e1;clear hb e1 hrow;go_wp2_with fail;refine zV hK hS1 (fun _=>?_);clear hK K
    refine tq 22 ?_
    refine zQ 23 (fun K hK=>?_)
    go_simp
    go_wp2_with fail;refine zV hK hS2 (fun _=>?_);clear hK K
    refine zQ 24 (fun K hK=>?_);refine z1p rfl _ _ 145 rfl u1.heap.size 145 #[O I 0,.slice none 0 0] #[O I s.given,.slice (some ⟨w.heap.size,0,none⟩) x.ch x.ch] rfl rfl (Bx.new u1 _ _) z4P rfl rfl ?_;go_wp2_with fail;refine zV hK hS3 (fun _=>?_);clear hK K
    refine wpAnyH_done zT ?_ _;go_wp2
    go_meet
    case rel=>exact ⟨u1.heap.size,w.heap.size,rfl,HE3.out,(Bx.new u1 _ _).row _,HR.out,Nat.le_refl _,HE1.out.size⟩
  . go_simp
    have e1:Edit (fun _=>False) w (w.alloc (.cells #[O I 0,.slice none 0 0] 145)).drew:=((Edit.refl _ w).alloc _).drewN 1;have hS1:=HS.out _ e1;have hz:(w.alloc (.cells #[O I 0,.slice none 0 0] 145)).drew.heap.size=w.heap.size+1:=by simp
    have HBL1:=zZ (HBL.out _ e1 (w.heap.size+1) hz);have HE1:=zZ e1;have HZ:=zZ hz;clear e1 hz;go_wp2_with fail;refine zV hK hS1 (fun _=>?_);clear hK K
    refine zQ 21 (fun K hK=>?_)
    go_simp
    go_at_call 64
    refine HBL1.out.mono ?_;rintro e u1 ⟨rfl,hrow,hb⟩;have e2:Edit (fun _=>False) (w.alloc (.cells #[O I 0,.slice none 0 0] 145)) u1:=Edit.of (⟨hb.os,hb.tape,hb.output,hb.size,fun k hk=>hb.block k (by rw [← HZ.out];exact hk)⟩:Below (w.alloc (.cells #[O I 0,.slice none 0 0] 145)).heap.size (w.alloc (.cells #[O I 0,.slice none 0 0] 145)) u1);have e3:Edit (fun _=>False) w u1:=((Edit.refl _ w).alloc _).trans e2;have hbx:Bx u1 w.heap.size 145 #[O I 0,.slice none 0 0]:=(Bx.new w #[O I 0,.slice none 0 0] 145).edit e2 id;have hS2:=HS.out u1 e3;have HE3:Hid (Edit (fun _=>False) w (u1.setRow w.heap.size #[O I s.given,.slice (some ⟨w.heap.size+1,0,none⟩) x.ch x.ch])):=e3.row zY _;have hS3:=HS.out _ HE3.out;have HR:Hid ((u1.setRow w.heap.size #[O I s.given,.slice (some ⟨w.heap.size+1,0,none⟩) x.ch x.ch]).rowIs (w.heap.size+1) 30 x.ch (blkV a.A a.C (s.given * x.B) (blkN x.S x.B s.given) x.ch)):=z2B hrow (setRow_other _ _ _ _ zU);have HBX:=zZ hbx;clear hb e2 e3 hrow hbx HBL1;go_wp2_with fail;refine zV hK hS2 (fun _=>?_);clear hK K
    refine tq 22 ?_
    refine zQ 24 (fun K hK=>?_);refine z1p rfl _ _ 145 rfl w.heap.size 145 #[O I 0,.slice none 0 0] #[O I s.given,.slice (some ⟨w.heap.size+1,0,none⟩) x.ch x.ch] rfl rfl HBX.out z4P rfl rfl ?_;go_wp2_with fail;refine zV hK hS3 (fun _=>?_);clear hK K
    refine wpAnyH_done zT ?_ _;go_wp2
    go_meet
    case rel=>exact ⟨w.heap.size,w.heap.size+1,rfl,HE3.out,HBX.out.row _,HR.out,Nat.le_succ _,Nat.le_refl _⟩
 case rest =>
  obtain ⟨b,g,rfl,HC⟩:=hcut;have HSX:Hid (∀ u,Edit (fun k=>k=a.cj∨k=a.cl) wc u->u.cell? ⟨a.sp,0,none⟩=some (.pointer (some ⟨a.lb,0,none⟩))/\u.cell? ⟨a.lb,14,none⟩=some (.pointer (some ⟨a.qj,0,none⟩))/\u.cell? ⟨a.lb,15,none⟩=some (.pointer (some ⟨a.ql,0,none⟩))/\u.cell? ⟨b,0,none⟩=some (O I s.given)/\u.cell? ⟨b,1,none⟩=some (.slice (some ⟨g,0,none⟩) x.ch x.ch)):=fun u he=>by
   have e1:Edit (fun k=>k=a.cj∨k=a.cl) w u:=(HC.out.1.mono fun _ h=>h.elim).trans he;have h1:=HL2.out u e1;have h2:=HC.out.2.1.edit he (by have:=HLT.out;have:=HC.out.2.2.2.2;omega);exact ⟨h1.2.cell 0,h1.1.cell 14,h1.1.cell 15,h2.cell 0,h2.cell 1⟩
  have hS0:=HSX.out wc.drew ((Edit.refl _ wc).drewN 1);clear hS0;have hT0:=HSX.out wc.drew ((Edit.refl _ wc).drewN 1);go_wp2_with fail
  go_region_held3 (fun w'=>w'.cell? ⟨a.sp,0,none⟩=some (.pointer (some ⟨a.lb,0,none⟩))/\w'.cell? ⟨a.lb,14,none⟩=some (.pointer (some ⟨a.qj,0,none⟩))/\w'.cell? ⟨a.lb,15,none⟩=some (.pointer (some ⟨a.ql,0,none⟩))/\w'.cell? ⟨b,0,none⟩=some (O I s.given)/\w'.cell? ⟨b,1,none⟩=some (.slice (some ⟨g,0,none⟩) x.ch x.ch)) (first | with_reducible exact hT0 | with_reducible exact hT1)
   (first
   | (go_at_call 381;refine (HP1.out wc.drew g (HC.out.1.drewN 1)).mono ?_;rintro e u1 ⟨rfl,q1,e1⟩;have HE1:Hid (Edit (·=a.cj) wc u1):=⟨e1.os,e1.tape,e1.output,e1.size,e1.block⟩;have hT1:=HSX.out u1 (HE1.out.mono fun _ h=>Or.inl h);have HQ1:=zZ q1;clear q1 e1))
  have hT2:=HSX.out u1.drew ((HE1.out.mono fun _ h=>Or.inl h).drewN 1);have HP3:=zZ (HP2.out u1.drew g (((HC.out.1.mono fun _ h=>h.elim).trans HE1.out).drewN 1));clear hT0 hT1 HP1 HP2;go_wp2_with fail
  go_region_held3 (fun w'=>w'.cell? ⟨a.sp,0,none⟩=some (.pointer (some ⟨a.lb,0,none⟩))/\w'.cell? ⟨a.lb,14,none⟩=some (.pointer (some ⟨a.qj,0,none⟩))/\w'.cell? ⟨a.lb,15,none⟩=some (.pointer (some ⟨a.ql,0,none⟩))/\w'.cell? ⟨b,0,none⟩=some (O I s.given)/\w'.cell? ⟨b,1,none⟩=some (.slice (some ⟨g,0,none⟩) x.ch x.ch)) (first | with_reducible exact hT2 | with_reducible exact hT3)
   (first
   | (go_at_call 381;refine HP3.out.mono ?_;rintro e u2 ⟨rfl,q2,e2⟩;have HE2:Hid (Edit (·=a.cl) u1 u2):=⟨e2.os,e2.tape,e2.output,e2.size,e2.block⟩;have hT3:=HSX.out u2 ((HE1.out.mono fun _ h=>Or.inl h).trans (HE2.out.mono fun _ h=>Or.inr h));have HQ2:=zZ q2;clear q2 e2))
  have HZ:=zZ (HG.out wc u1 u2 g HC.out.1 HC.out.2.2.1 HC.out.2.2.2.1 HQ1.out HE1.out HQ2.out HE2.out);have t3:=HZ.out.1.cell 3;have f3:=HZ.out.1.free 3;simp at t3;clear hT2 hT3 HG;go_wp2;go_end0;exact ⟨rfl,g,HZ.out.2⟩
theorem y6B {p:Lpar} {a:Lad} {x:Lsn} {F:Nat->Prop} {s:Lst} {w u:World} (h:LineIs p a x F s w) (j k:Nat) (hj:j < p.W) (hk:s.held j=some k) (e0:Edit (·=a.cr) w u)
 (hq:QIs u a.qr a.cr 250 p.Rm ((s.ready.map (pkV x)).toArray.push (.agg #[O I k,.string (bs (frT x.d x.ch x.G x.S x.B k))])) (s.shut p)) :
 (∃ v,Bx u (a.wk j) 173 #[ptrV a.lb,.bool (s.ew j),v])/\LineIs p a x F { s with held:=updL s.held j none,ready:=s.ready ++ [k] } (u.setCell ⟨a.wk j,2,none⟩ (.pointer none))/\Edit F w (u.setCell ⟨a.wk j,2,none⟩ (.pointer none)):=by
 obtain ⟨hv,k1,k2⟩:=h.wrk;have hb:=k1 j hj;have hkd:=h.kinds;have kd1:=hkd.lb;have kd2:=hkd.sp;have kd3:=hkd.su;have kd4:=hkd.wr;have kd5:=hkd.qj;have kd6:=hkd.ql;have kd7:=hkd.qr;have kd8:=hkd.cj;have kd9:=hkd.cl;have kd10:=hkd.cr;obtain ⟨n1,n2,n3,n4,n5⟩:=h.ne;have kw:=hb.kn;have hbu:=hb.edit e0 (by grind);have e5:=Edit.one u (a.wk j) 2 (.pointer none);have e3:Edit (fun q=>q=a.cr∨q=a.wk j) w (u.setCell ⟨a.wk j,2,none⟩ (.pointer none)):=(e0.mono (by grind)).trans (e5.mono (by grind));have hq':(s.ready.map (pkV x)).toArray.push (.agg #[O I k,.string (bs (frT x.d x.ch x.G x.S x.B k))])=((s.ready ++ [k]).map (pkV x)).toArray:=by simp [pkV]
 rw [hq'] at hq;refine ⟨⟨_,hbu⟩,h.edit e3 (fun _ hh=>hh) (fun k hk=>zP (h.lt k hk) e3.size) (by unfold Firm;grind) (h.cellsOk e3 (fun _ hh=>hh) (by grind) (by grind) (by grind)) (h.spl.edit e3 (by grind)) (h.sum.edit e3 (by grind))
  (h.workOk1 e3 (fun _ hh=>hh) j hj (by grind) (by grind) (fun i hi=>⟨rfl,by simp [updL,hi]⟩) (.pointer none) (hbu.set 2 (.pointer none)) (Or.inl ⟨by simp [updL],rfl⟩))
  (h.jobs.edit e3 (by grind) (by grind)) (h.lane.edit e3 (by grind) (by grind)) (hq.edit e5 (by grind) (by grind)) rfl,e3.mono fun q hq=>?_⟩
 rcases hq with rfl | rfl
 . exact h.own.2.2.2.2.2.2.2.2.2.1
 . exact h.own.2.2.2.2.2.2.2.2.2.2.2.2 j hj
section
variable {p:Lpar} {a:Lad} {x:Lsn} {F:Nat->Prop} {s:Lst} {w:World}
theorem y8Z (h:LineIs p a x F s w) {k:Nat} (hkg:k < s.given) (hN:k < nBlk x.S x.B) (hT:TabsF w) :
 Calls prog 63 #[.agg #[O I x.ch,O I x.d,O I x.B,O I x.c3,O I x.c4,O I p.W,O I p.Wd,O I p.Rm],O I k,.slice (some ⟨a.gb k,0,none⟩) x.ch x.ch] w fun e w'=>e=.returned (.string (bs (frT x.d x.ch x.G x.S x.B k)))/\Below w.heap.size w w':=by
 obtain ⟨h1,h2,h3⟩:=h.blk hkg hN;have hbd:=z3u h.kp.B1 hN;have hB32:=h.kp.B32;have hnb:=h.kp.nb;have hd4:=h.kp.d4;exact y6i x.B x.c3 x.c4 p.W p.Wd p.Rm x.d k (some ⟨a.gb k,0,none⟩) x.ch x.ch _ _ _ _ w zU h.kp.d12 h.kp.n1 h.kp.n4 zU zU zU (h.kp.blk hN) h1 h2 h3 hT
set_option maxHeartbeats 4000000 in
theorem y2M (h:LineIs p a x F s w) (j k:Nat) (hj:j < p.W) (hk:s.held j=some k) (hej:s.ew j=false) (hkg:k < s.given) (hN:k < nBlk x.S x.B) (hr:s.ready.length < p.Rm) (hT:TabsF w) :
 Calls prog 414 #[ptrV (a.wk j)] w fun e w'=>e=.returned (.tuple #[])/\LineIs p a x F { s with held:=updL s.held j none,ready:=s.ready ++ [k] } w'/\Edit F w w':=by
 obtain ⟨sv,fv,lv,hl,hw,-⟩:=h.cells;obtain ⟨hv,k1,k2⟩:=h.wrk;have hb:=k1 j hj;have hhv:=(k2 j k hj hk).2;have hhe:heV hv s j=.pointer (some ⟨hv j,0,none⟩):=by simp only [heV,hk,ptrV]
 rw [hhe] at hb;have hkd:=h.kinds;have kd1:=hkd.lb;have kd7:=hkd.qr;have kd10:=hkd.cr;have kw:=hb.kn;have kh:=hhv.kn;have HS:Hid (∀ u,Edit (·=a.cr) w u->u.cell? ⟨a.wk j,0,none⟩=some (.pointer (some ⟨a.lb,0,none⟩))/\u.cell? ⟨a.wk j,2,none⟩=some (.pointer (some ⟨hv j,0,none⟩))/\u.cell? ⟨hv j,0,none⟩=some (O I k)/\u.cell? ⟨hv j,1,none⟩=some (.slice (some ⟨a.gb k,0,none⟩) x.ch x.ch) /\
     u.cell? ⟨a.lb,0,none⟩=some (O I x.ch)/\u.cell? ⟨a.lb,1,none⟩=some (O I x.d)/\u.cell? ⟨a.lb,2,none⟩=some (O I x.B)/\u.cell? ⟨a.lb,3,none⟩=some (O I x.c3)/\u.cell? ⟨a.lb,4,none⟩=some (O I x.c4)/\u.cell? ⟨a.lb,5,none⟩=some (O I p.W)/\u.cell? ⟨a.lb,6,none⟩=some (O I p.Wd)/\u.cell? ⟨a.lb,7,none⟩=some (O I p.Rm)/\u.cell? ⟨a.lb,16,none⟩=some (.pointer (some ⟨a.qr,0,none⟩))):=fun u he=>by
  have b1:=hb.edit he (by grind);have b2:=hhv.edit he (by grind);have b3:=hl.edit he (by grind);exact ⟨b1.cell 0,b1.cell 2,b2.cell 0,b2.cell 1,b3.cell 0,b3.cell 1,b3.cell 2,b3.cell 3,b3.cell 4,b3.cell 5,b3.cell 6,b3.cell 7,b3.cell 16⟩
 have HMK:Hid (Calls prog 63 #[.agg #[O I x.ch,O I x.d,O I x.B,O I x.c3,O I x.c4,O I p.W,O I p.Wd,O I p.Rm],O I k,.slice (some ⟨a.gb k,0,none⟩) x.ch x.ch] w.drew fun e w'=>e=.returned (.string (bs (frT x.d x.ch x.G x.S x.B k)))/\Below w.heap.size w.drew w') :=
  y8Z h.drew hkg hN (hT.below zX.drew)
 have hqr:=h.ready;rw [z2O hj hej] at hqr;have HPU:Hid (∀ u,Edit (fun _=>False) w u->Calls prog 415 #[.pointer (some ⟨a.qr,0,none⟩),.agg #[O I k,.string (bs (frT x.d x.ch x.G x.S x.B k))]] u fun e w'=>e=.returned (.tuple #[])/\QIs w' a.qr a.cr 250 p.Rm ((s.ready.map (pkV x)).toArray.push (.agg #[O I k,.string (bs (frT x.d x.ch x.G x.S x.B k))])) false/\Edit (·=a.cr) u w') :=
  fun u he=>y2D a.qr a.cr p.Rm (s.ready.map (pkV x)).toArray (O I k) (.string (bs (frT x.d x.ch x.G x.S x.B k))) u (hqr.edit he id id) (by simpa using hr) ⟨rfl,rfl⟩
 have HD:Hid (∀ u,Edit (·=a.cr) w u->QIs u a.qr a.cr 250 p.Rm ((s.ready.map (pkV x)).toArray.push (.agg #[O I k,.string (bs (frT x.d x.ch x.G x.S x.B k))])) false->(∃ v,Bx u (a.wk j) 173 #[ptrV a.lb,.bool (s.ew j),v])/\LineIs p a x F { s with held:=updL s.held j none,ready:=s.ready ++ [k] } (u.setCell ⟨a.wk j,2,none⟩ (.pointer none))/\Edit F w (u.setCell ⟨a.wk j,2,none⟩ (.pointer none))) :=
  fun u he hq=>y6B h j k hj hk he (by rw [z2O hj hej];exact hq)
 have hS0:=HS.out w.drew ((Edit.refl _ w).drewN 1);clear h hl hw hb hhv hhe k1 k2 hkd kd1 kd7 kd10 kw kh hqr hT hkg hN hr hk hej;generalize bs (frT x.d x.ch x.G x.S x.B k)=tx at *;unfold ptrV at *
 go_enter func414,ntmps414
 go_wp2_with fail
 go_region_held3 (fun w'=>w'.cell? ⟨a.wk j,0,none⟩=some (.pointer (some ⟨a.lb,0,none⟩))/\w'.cell? ⟨a.wk j,2,none⟩=some (.pointer (some ⟨hv j,0,none⟩))/\w'.cell? ⟨hv j,0,none⟩=some (O I k)/\w'.cell? ⟨hv j,1,none⟩=some (.slice (some ⟨a.gb k,0,none⟩) x.ch x.ch)/\w'.cell? ⟨a.lb,0,none⟩=some (O I x.ch)/\w'.cell? ⟨a.lb,1,none⟩=some (O I x.d)/\w'.cell? ⟨a.lb,2,none⟩=some (O I x.B)/\w'.cell? ⟨a.lb,3,none⟩=some (O I x.c3)/\w'.cell? ⟨a.lb,4,none⟩=some (O I x.c4)/\w'.cell? ⟨a.lb,5,none⟩=some (O I p.W)/\w'.cell? ⟨a.lb,6,none⟩=some (O I p.Wd)/\w'.cell? ⟨a.lb,7,none⟩=some (O I p.Rm)/\w'.cell? ⟨a.lb,16,none⟩=some (.pointer (some ⟨a.qr,0,none⟩))) (first | with_reducible exact hS0 | with_reducible exact hS1)
  (first
  | (go_at_call 63;refine HMK.out.mono ?_;rintro e u1 ⟨rfl,hb⟩;have HE1:Hid (Edit (fun _=>False) w u1):=Edit.of (⟨hb.os,hb.tape,hb.output,hb.size,hb.block⟩:Below w.heap.size w u1);have hS1:=HS.out u1 (HE1.out.mono fun _ h=>h.elim);clear hb HMK))
 have hS2:=HS.out u1.drew ((HE1.out.mono fun _ h=>h.elim).drewN 1);have HP2:=zZ (HPU.out u1.drew (HE1.out.drewN 1));clear hS0 hS1 HPU;go_wp2_with fail
 go_region_held3 (fun w'=>w'.cell? ⟨a.wk j,0,none⟩=some (.pointer (some ⟨a.lb,0,none⟩))/\w'.cell? ⟨a.wk j,2,none⟩=some (.pointer (some ⟨hv j,0,none⟩))/\w'.cell? ⟨hv j,0,none⟩=some (O I k)/\w'.cell? ⟨hv j,1,none⟩=some (.slice (some ⟨a.gb k,0,none⟩) x.ch x.ch)/\w'.cell? ⟨a.lb,0,none⟩=some (O I x.ch)/\w'.cell? ⟨a.lb,1,none⟩=some (O I x.d)/\w'.cell? ⟨a.lb,2,none⟩=some (O I x.B)/\w'.cell? ⟨a.lb,3,none⟩=some (O I x.c3)/\w'.cell? ⟨a.lb,4,none⟩=some (O I x.c4)/\w'.cell? ⟨a.lb,5,none⟩=some (O I p.W)/\w'.cell? ⟨a.lb,6,none⟩=some (O I p.Wd)/\w'.cell? ⟨a.lb,7,none⟩=some (O I p.Rm)/\w'.cell? ⟨a.lb,16,none⟩=some (.pointer (some ⟨a.qr,0,none⟩))) (first | with_reducible exact hS2 | with_reducible exact hS3)
  (first
  | (go_at_call 415;refine HP2.out.mono ?_;rintro e u2 ⟨rfl,q2,e2⟩;have HE2:Hid (Edit (·=a.cr) w u2):=(HE1.out.mono fun _ h=>h.elim).trans ⟨e2.os,e2.tape,e2.output,e2.size,e2.block⟩;have hS3:=HS.out u2 HE2.out;have HQ2:=zZ q2;clear q2 e2 HP2))
 have HZ:=zZ (HD.out u2 HE2.out HQ2.out);obtain ⟨⟨v,hbv⟩,HY⟩:=HZ.out;have HY:=zZ HY;have t2:=hbv.cell 2;have f2:=hbv.free 2;simp at t2;clear hS2 hS3 HZ HD HQ2 hbv;go_wp2;go_end0;exact ⟨rfl,HY.out⟩
end
end Go.Proofs.YtlncjgnomhpjnabGreatDoor
