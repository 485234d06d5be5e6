import Derived.Test.YtlncjgnomhpjnabGreatDoorQC36
import Derived.Test.YtlncjgnomhpjnabGreatDoorQC16
import Derived.Laws.CopyRow
import Derived.Laws.AppendOwn
import Derived.Laws.IdiomCopy
import Derived.Test.YtlncjgnomhpjnabGreatDoorQC21
import Derived.Deep.RegionHeld3
import Derived.Test.YtlncjgnomhpjnabGreatDoorQC0
namespace Go.Proofs.YtlncjgnomhpjnabGreatDoor
open Go.Value renaming int → O
open Go.IntKind renaming i64 → I
open Go.Proofs.Tryz (prog)
open Go.RowKit Go.Deep
set_option linter.unusedVariables false
theorem z6n {P:Program} {w:World} {ops:Array Oper} {o:Oper} {a:Act} {K:Act->World->Prop} {Q:Exit->Act->World->Prop} {E:Prop} (hgd:o.guard=none) (p v:Operand) (t:TypeId) (ho:o.op=.store t p v)
 (g:Nat) (tt:TypeId) (old cells:Array Value) (hp:a.eval p=.pointer (some ⟨g,0,none⟩)) (hv:a.eval v=.agg cells) (hg:w.heap[g]?=some (.cells old tt (0,0))) (hi:(P.info? t).map (·.size)=some cells.size)
 (hs:old.size=cells.size) (h1:cells.toList.all (·.oneCell')=true) (h:K (a.put o.dst undef) (w.setRow g cells)):if Region.wanted o (yielded ops a.tmps)=true then Oper.wp P o a w K Q else E:=by
 have hw:Region.wanted o (yielded ops a.tmps)=true:=by simp [Region.wanted,hgd]
 rw [if_pos hw];have hr:=run_storeVar_row (P:=P) w g tt t old cells hg hi hs (by rw [← Array.all_toList];exact h1);unfold Oper.wp execOp;have e:(Instr.storeAt t (.pointer (some ⟨g,0,none⟩)) (.agg cells)).run P w=.ok () (w.setRow g cells):=by simpa [Instr.storeAt,Instr.sureAddr,asAddr] using hr
 simp only [ho,hp,hv,Sem.run_bind,e,Result.andThen,Sem.run_pure];rw [Oper.upon_skip];exact h
set_option linter.unusedSimpArgs false in
set_option maxHeartbeats 4000000 in
set_option maxRecDepth 100000 in
theorem y2E {p:Lpar} {a:Lad} {x:Lsn} {F:Nat->Prop} {s:Lst} {w:World} (h:LineIs p a x F s w) (hi:LInv p s) (he0:s.e0=false) (hN:s.given < nBlk x.S x.B) (hjr:s.jobs.length < p.Rm) (hlr:s.lane.length < p.Rm) :
 Calls prog 380 #[ptrV a.sp] w fun e w'=>e=.returned (.tuple #[])/\∃ g F',Own F F' w/\LineIs p (a.reg s.given g) x F' (s.act p .give) w'/\Edit F w w':=by
 obtain ⟨sv,fv,lv,hl,hw,-⟩:=h.cells;have hnb:=h.kp.nb;have hkd:=h.kinds;have kd1:=hkd.lb;have kd2:=hkd.sp;have kd5:=hkd.qj;have kd6:=hkd.ql;have kd8:=hkd.cj;have kd9:=hkd.cl;obtain ⟨n1,n2,n3,n4,n5⟩:=h.ne;have HS:Hid (∀ u,Edit (fun _=>False) w u->u.cell? ⟨a.sp,0,none⟩=some (.pointer (some ⟨a.lb,0,none⟩))/\u.cell? ⟨a.sp,2,none⟩=some (.slice (some ⟨a.lg,0,none⟩) x.ch a.lc)/\u.cell? ⟨a.sp,3,none⟩=some (O I s.given)/\u.cell? ⟨a.lb,2,none⟩=some (O I x.B)):=fun u he =>
  ⟨(h.spl.edit he id).cell 0,(h.spl.edit he id).cell 2,(h.spl.edit he id).cell 3,(hl.edit he id).cell 2⟩
 have HBL:Hid (∀ u,Edit (fun _=>False) w u->∀ G,u.heap.size=G->Calls prog 64 #[.slice (some ⟨a.lg,0,none⟩) x.ch a.lc,O I x.B,O I s.given] u fun e w' =>
     e=.returned (.slice (some ⟨G,0,none⟩) x.ch x.ch)/\w'.rowIs G 30 x.ch (blkV a.A a.C (s.given * x.B) (blkN x.S x.B s.given) x.ch)/\Below G u w'):=fun u he G hG=>by
  subst hG;have hk:=h.keep (fun k hk=>he.block k (h.lt k hk) id) he.size;have hb1:=hk.b1;exact z9c (some ⟨a.lg,0,none⟩) x.ch a.lc a.A x.S a.C x.G x.B s.given u hk.kp.n1 hk.kp.n4 hk.kp.B1 hk.kp.B32 hk.kp.S3 hN hk.lists hk.caps hk.ints ⟨fun y hy h0=>Nat.lt_of_lt_of_le (hk.low.1 y hy h0) hb1,fun i hi y hy h0=>Nat.lt_of_lt_of_le (hk.low.2 i hi y hy h0) hb1⟩
 have hqj:=h.jobs;have hql:=h.lane;rw [he0] at hqj hql;have HP1:Hid (∀ u g,Edit (fun _=>False) w u->Calls prog 381 #[.pointer (some ⟨a.qj,0,none⟩),.agg #[O I s.given,.slice (some ⟨g,0,none⟩) x.ch x.ch]] u fun e w'=>e=.returned (.tuple #[])/\QIs w' a.qj a.cj 247 p.Rm ((s.jobs.map (blV a x)).toArray.push (.agg #[O I s.given,.slice (some ⟨g,0,none⟩) x.ch x.ch])) false/\Edit (·=a.cj) u w') :=
  fun u g he=>z9g a.qj a.cj p.Rm (s.jobs.map (blV a x)).toArray (O I s.given) (.slice (some ⟨g,0,none⟩) x.ch x.ch) u (hqj.edit he id id) (by simpa using hjr) ⟨rfl,rfl⟩
 have HP2:Hid (∀ u g,Edit (·=a.cj) w u->Calls prog 381 #[.pointer (some ⟨a.ql,0,none⟩),.agg #[O I s.given,.slice (some ⟨g,0,none⟩) x.ch x.ch]] u fun e w'=>e=.returned (.tuple #[])/\QIs w' a.ql a.cl 247 p.Rm ((s.lane.map (blV a x)).toArray.push (.agg #[O I s.given,.slice (some ⟨g,0,none⟩) x.ch x.ch])) false/\Edit (·=a.cl) u w') :=
  fun u g he=>z9g a.ql a.cl p.Rm (s.lane.map (blV a x)).toArray (O I s.given) (.slice (some ⟨g,0,none⟩) x.ch x.ch) u (hql.edit he (by grind) (by grind)) (by simpa using hlr) ⟨rfl,rfl⟩
 have HL2:Hid (∀ u,Edit (fun k=>k=a.cj∨k=a.cl) w u->Bx u a.lb 160 (lnC p a x s sv fv)/\Bx u a.sp 165 #[ptrV a.lb,.bool s.e0,.slice (some ⟨a.lg,0,none⟩) x.ch a.lc,O I s.given]):=fun u he=>⟨hl.edit he (by grind),h.spl.edit he (by grind)⟩
 have HG:Hid (∀ u u1 u2 g,Edit (fun _=>False) w u->u.rowIs g 30 x.ch (blkV a.A a.C (s.given * x.B) (blkN x.S x.B s.given) x.ch)->w.heap.size<=g->QIs u1 a.qj a.cj 247 p.Rm ((s.jobs.map (blV a x)).toArray.push (.agg #[O I s.given,.slice (some ⟨g,0,none⟩) x.ch x.ch])) false->Edit (·=a.cj) u u1 ->
     QIs u2 a.ql a.cl 247 p.Rm ((s.lane.map (blV a x)).toArray.push (.agg #[O I s.given,.slice (some ⟨g,0,none⟩) x.ch x.ch])) false->Edit (·=a.cl) u1 u2 ->
     Bx u2 a.sp 165 #[ptrV a.lb,.bool s.e0,.slice (some ⟨a.lg,0,none⟩) x.ch a.lc,O I s.given] /\
     ∃ F',Own F F' w/\LineIs p (a.reg s.given g) x F' (s.act p .give) (u2.setCell ⟨a.sp,3,none⟩ (O I ((s.given+1:Nat):Int)))/\Edit F w (u2.setCell ⟨a.sp,3,none⟩ (O I ((s.given+1:Nat):Int)))):=fun u u1 u2 g e0 hr hg q1 e1 q2 e2 =>
  y8A h hi e0 hr hg (by rw [he0];exact q1) e1 (by rw [he0];exact q2) e2
 have HLT:Hid (a.sp < w.heap.size/\a.lb < w.heap.size/\a.cj < w.heap.size/\a.cl < w.heap.size):=⟨h.lt _ h.own.2.1,h.lt _ h.own.1,h.lt _ h.own.2.2.2.2.2.2.2.1,h.lt _ h.own.2.2.2.2.2.2.2.2.1⟩;have wr1:IntKind.i64.wrap ((s.given:Int)+1)=((s.given+1:Nat):Int):=by rw [IntKind.wrap_i64];omega
 have hS0:=HS.out w.drew ((Edit.refl _ w).drewN 1);clear h hi hl hw hqj hql hkd kd1 kd2 kd5 kd6 kd8 kd9 n1 n2 n3 n4 n5 hN hjr hlr hnb he0;unfold ptrV at *
 go_enter Tryz.func380,Tryz.ntmps380
 go_wp2_with fail
 go_cut [2] (fun s2 wx=>∃ b g:Nat,s2=.pointer (some ⟨b,0,none⟩)/\Hid (Edit (fun _=>False) w wx/\Bx wx b 145 #[O I s.given,.slice (some ⟨g,0,none⟩) x.ch x.ch]/\wx.rowIs g 30 x.ch (blkV a.A a.C (s.given * x.B) (blkN x.S x.B s.given) x.ch)/\w.heap.size<=g/\w.heap.size<=b))
 case first =>
  refine wp_region_held_drew (S:=fun w'=>w'.cell? ⟨a.sp,0,none⟩=some (.pointer (some ⟨a.lb,0,none⟩))/\w'.cell? ⟨a.sp,2,none⟩=some (.slice (some ⟨a.lg,0,none⟩) x.ch a.lc)/\w'.cell? ⟨a.sp,3,none⟩=some (O I s.given)/\w'.cell? ⟨a.lb,2,none⟩=some (O I x.B)) (by kernel_rfl) hS0 (fun hHeld=>?_);refine tq (i:=0) rfl (by rfl) (by assumption) ?_;try simp only [q1,q2,q3,Act.put,q4,q5,q6]
  refine tq (i:=1) rfl (by rfl) (by assumption) ?_;try simp only [q1,q2,q3,Act.put,q4,q5,q6]
  refine tq (i:=2) rfl (by rfl) (by assumption) ?_;try simp only [q1,q2,q3,Act.put,q4,q5,q6]
  refine tq (i:=3) rfl (by rfl) (by assumption) ?_;try simp only [q1,q2,q3,Act.put,q4,q5,q6]
  refine tq (i:=4) rfl (by rfl) (by assumption) ?_;try simp only [q1,q2,q3,Act.put,q4,q5,q6]
  refine tq (i:=5) rfl (by rfl) (by assumption) ?_;try simp only [q1,q2,q3,Act.put,q4,q5,q6]
  refine tq (i:=6) rfl (by rfl) (by assumption) ?_;try simp only [q1,q2,q3,Act.put,q4,q5,q6]
  refine tq (i:=7) rfl (by rfl) (by assumption) ?_;try simp only [q1,q2,q3,Act.put,q4,q5,q6]
  refine tq (i:=8) rfl (by rfl) (by assumption) ?_;try simp only [q1,q2,q3,Act.put,q4,q5,q6]
  refine tq (i:=9) rfl (by rfl) (by assumption) ?_;try simp only [q1,q2,q3,Act.put,q4,q5,q6]
  refine tq (i:=10) rfl (by rfl) (by assumption) ?_;try simp only [q1,q2,q3,Act.put,q4,q5,q6]
  refine tq (i:=11) rfl (by rfl) (by assumption) ?_;try simp only [q1,q2,q3,Act.put,q4,q5,q6]
  refine tq (i:=12) rfl (by rfl) (by assumption) ?_;try simp only [q1,q2,q3,Act.put,q4,q5,q6]
  refine tq (i:=13) rfl (by rfl) (by assumption) ?_;try simp only [q1,q2,q3,Act.put,q4,q5,q6]
  refine tq (i:=14) rfl (by rfl) (by assumption) ?_;try simp only [q1,q2,q3,Act.put,q4,q5,q6]
  refine tq (i:=15) rfl (by rfl) (by assumption) ?_;try simp only [q1,q2,q3,Act.put,q4,q5,q6]
  refine tq (i:=16) rfl (by rfl) (by assumption) ?_;try simp only [q1,q2,q3,Act.put,q4,q5,q6]
  refine tq (i:=17) rfl (by rfl) (by assumption) ?_;try simp only [q1,q2,q3,Act.put,q4,q5,q6]
  refine tq (i:=18) rfl (by rfl) (by assumption) ?_;try simp only [q1,q2,q3,Act.put,q4,q5,q6]
  refine tq (i:=19) rfl (by rfl) (by assumption) ?_;try simp only [q1,q2,q3,Act.put,q4,q5,q6]
  refine tq (i:=20) rfl (by rfl) (by assumption) ?_;try simp only [q1,q2,q3,Act.put,q4,q5,q6]
  refine wpAnyH_ready (rs:=[21,23]) (by kernel_rfl) (by simp) ?_;refine AllReadyH.cons rfl (fun K hK=>?_) (AllReadyH.cons rfl (fun K hK=>?_) (AllReadyH.nil))
  . go_simp
    go_at_call 64
    refine (HBL.out w.drew ((Edit.refl _ w).drewN 1) w.heap.size rfl).mono ?_;rintro e u1 ⟨rfl,hrow,hb⟩;have e1:Edit (fun _=>False) w u1:=Edit.of (⟨hb.os,hb.tape,hb.output,hb.size,hb.block⟩:Below w.heap.size w u1);have hS1:=HS.out u1 e1;have hS2:=HS.out (u1.alloc (.cells #[O I 0,.slice none 0 0] 145)) (e1.alloc _);have HE3:Hid (Edit (fun _=>False) w ((u1.alloc (.cells #[O I 0,.slice none 0 0] 145)).setRow u1.heap.size #[O I s.given,.slice (some ⟨w.heap.size,0,none⟩) x.ch x.ch])):=(e1.alloc _).row e1.size _;have hS3:=HS.out _ HE3.out;have hg1:w.heap.size < u1.heap.size:=by obtain ⟨c,h1,-⟩:=hrow;exact (Array.getElem?_eq_some_iff.1 h1).1
    have HR:Hid (((u1.alloc (.cells #[O I 0,.slice none 0 0] 145)).setRow u1.heap.size #[O I s.given,.slice (some ⟨w.heap.size,0,none⟩) x.ch x.ch]).rowIs w.heap.size 30 x.ch (blkV a.A a.C (s.given * x.B) (blkN x.S x.B s.given) x.ch)):=by
     have e6:Edit (fun _=>False) u1 ((u1.alloc (.cells #[O I 0,.slice none 0 0] 145)).setRow u1.heap.size #[O I s.given,.slice (some ⟨w.heap.size,0,none⟩) x.ch x.ch]):=((Edit.refl _ u1).alloc _).row zY _;exact z2h hrow (e6.block _ hg1 id)
    have HE1:=zZ e1;clear hb e1 hrow;go_wp2_with fail;refine hK.out _ _ hS1 (fun hHeld=>?_);clear hK K
    try simp only [q1,q2,q3,Act.put,q4,q5,q6]
    refine tq (i:=22) rfl (by rfl) (by assumption) ?_;try simp only [q1,q2,q3,Act.put,q4,q5,q6]
    refine wpAnyH_ready (rs:=[23]) (by kernel_rfl) (by simp) ?_;refine AllReadyH.cons rfl (fun K hK=>?_) (AllReadyH.nil)
    go_simp
    go_wp2_with fail;refine hK.out _ _ hS2 (fun hHeld=>?_);clear hK K
    try simp only [q1,q2,q3,Act.put,q4,q5,q6]
    refine wpAnyH_ready (rs:=[24]) (by kernel_rfl) (by simp) ?_;refine AllReadyH.cons rfl (fun K hK=>?_) AllReadyH.nil;refine z6n rfl _ _ 145 rfl u1.heap.size 145 #[O I 0,.slice none 0 0] #[O I s.given,.slice (some ⟨w.heap.size,0,none⟩) x.ch x.ch] rfl rfl (Bx.new u1 _ _) z4I rfl rfl ?_;go_wp2_with fail;refine hK.out _ _ hS3 (fun hHeld=>?_);clear hK K
    try simp only [q1,q2,q3,Act.put,q4,q5,q6]
    refine wpAnyH_done (by kernel_rfl) ?_ _;go_wp2
    go_meet
    case rel=>exact ⟨u1.heap.size,w.heap.size,rfl,HE3.out,(Bx.new u1 _ _).row _,HR.out,Nat.le_refl _,HE1.out.size⟩
  . go_simp
    have e1:Edit (fun _=>False) w (w.alloc (.cells #[O I 0,.slice none 0 0] 145)).drew:=((Edit.refl _ w).alloc _).drewN 1;have hS1:=HS.out _ e1;have hz:(w.alloc (.cells #[O I 0,.slice none 0 0] 145)).drew.heap.size=w.heap.size+1:=by simp
    have HBL1:=zZ (HBL.out _ e1 (w.heap.size+1) hz);have HE1:=zZ e1;have HZ:=zZ hz;clear e1 hz;go_wp2_with fail;refine hK.out _ _ hS1 (fun hHeld=>?_);clear hK K
    try simp only [q1,q2,q3,Act.put,q4,q5,q6]
    refine wpAnyH_ready (rs:=[21]) (by kernel_rfl) (by simp) ?_;refine AllReadyH.cons rfl (fun K hK=>?_) (AllReadyH.nil)
    go_simp
    go_at_call 64
    refine HBL1.out.mono ?_;rintro e u1 ⟨rfl,hrow,hb⟩;have e2:Edit (fun _=>False) (w.alloc (.cells #[O I 0,.slice none 0 0] 145)) u1:=Edit.of (⟨hb.os,hb.tape,hb.output,hb.size,fun k hk=>hb.block k (by rw [← HZ.out];exact hk)⟩:Below (w.alloc (.cells #[O I 0,.slice none 0 0] 145)).heap.size (w.alloc (.cells #[O I 0,.slice none 0 0] 145)) u1);have e3:Edit (fun _=>False) w u1:=((Edit.refl _ w).alloc _).trans e2;have hbx:Bx u1 w.heap.size 145 #[O I 0,.slice none 0 0]:=(Bx.new w #[O I 0,.slice none 0 0] 145).edit e2 id;have hS2:=HS.out u1 e3;have HE3:Hid (Edit (fun _=>False) w (u1.setRow w.heap.size #[O I s.given,.slice (some ⟨w.heap.size+1,0,none⟩) x.ch x.ch])):=e3.row zY _;have hS3:=HS.out _ HE3.out;have HR:Hid ((u1.setRow w.heap.size #[O I s.given,.slice (some ⟨w.heap.size+1,0,none⟩) x.ch x.ch]).rowIs (w.heap.size+1) 30 x.ch (blkV a.A a.C (s.given * x.B) (blkN x.S x.B s.given) x.ch)):=z2h hrow (setRow_other _ _ _ _ (by omega));have HBX:=zZ hbx;clear hb e2 e3 hrow hbx HBL1;go_wp2_with fail;refine hK.out _ _ hS2 (fun hHeld=>?_);clear hK K
    try simp only [q1,q2,q3,Act.put,q4,q5,q6]
    refine tq (i:=22) rfl (by rfl) (by assumption) ?_;try simp only [q1,q2,q3,Act.put,q4,q5,q6]
    refine wpAnyH_ready (rs:=[24]) (by kernel_rfl) (by simp) ?_;refine AllReadyH.cons rfl (fun K hK=>?_) AllReadyH.nil;refine z6n rfl _ _ 145 rfl w.heap.size 145 #[O I 0,.slice none 0 0] #[O I s.given,.slice (some ⟨w.heap.size+1,0,none⟩) x.ch x.ch] rfl rfl HBX.out z4I rfl rfl ?_;go_wp2_with fail;refine hK.out _ _ hS3 (fun hHeld=>?_);clear hK K
    try simp only [q1,q2,q3,Act.put,q4,q5,q6]
    refine wpAnyH_done (by kernel_rfl) ?_ _;go_wp2
    go_meet
    case rel=>exact ⟨w.heap.size,w.heap.size+1,rfl,HE3.out,HBX.out.row _,HR.out,Nat.le_succ _,Nat.le_refl _⟩
 case rest =>
  obtain ⟨b,g,rfl,HC⟩:=hcut;have HSX:Hid (∀ u,Edit (fun k=>k=a.cj∨k=a.cl) wc u->u.cell? ⟨a.sp,0,none⟩=some (.pointer (some ⟨a.lb,0,none⟩))/\u.cell? ⟨a.lb,14,none⟩=some (.pointer (some ⟨a.qj,0,none⟩))/\u.cell? ⟨a.lb,15,none⟩=some (.pointer (some ⟨a.ql,0,none⟩))/\u.cell? ⟨b,0,none⟩=some (O I s.given)/\u.cell? ⟨b,1,none⟩=some (.slice (some ⟨g,0,none⟩) x.ch x.ch)):=fun u he=>by
   have e1:Edit (fun k=>k=a.cj∨k=a.cl) w u:=(HC.out.1.mono fun _ h=>h.elim).trans he;have h1:=HL2.out u e1;have h2:=HC.out.2.1.edit he (by have:=HLT.out;have:=HC.out.2.2.2.2;omega);exact ⟨h1.2.cell 0,h1.1.cell 14,h1.1.cell 15,h2.cell 0,h2.cell 1⟩
  have hS0:=HSX.out wc.drew ((Edit.refl _ wc).drewN 1);clear hS0;have hT0:=HSX.out wc.drew ((Edit.refl _ wc).drewN 1);go_wp2_with fail
  go_region_held3 (fun w'=>w'.cell? ⟨a.sp,0,none⟩=some (.pointer (some ⟨a.lb,0,none⟩))/\w'.cell? ⟨a.lb,14,none⟩=some (.pointer (some ⟨a.qj,0,none⟩))/\w'.cell? ⟨a.lb,15,none⟩=some (.pointer (some ⟨a.ql,0,none⟩))/\w'.cell? ⟨b,0,none⟩=some (O I s.given)/\w'.cell? ⟨b,1,none⟩=some (.slice (some ⟨g,0,none⟩) x.ch x.ch)) (first | with_reducible exact hT0 | with_reducible exact hT1)
   (first
   | (go_at_call 381;refine (HP1.out wc.drew g (HC.out.1.drewN 1)).mono ?_;rintro e u1 ⟨rfl,q1,e1⟩;have HE1:Hid (Edit (·=a.cj) wc u1):=⟨e1.os,e1.tape,e1.output,e1.size,e1.block⟩;have hT1:=HSX.out u1 (HE1.out.mono fun _ h=>Or.inl h);have HQ1:=zZ q1;clear q1 e1))
  have hT2:=HSX.out u1.drew ((HE1.out.mono fun _ h=>Or.inl h).drewN 1);have HP3:=zZ (HP2.out u1.drew g (((HC.out.1.mono fun _ h=>h.elim).trans HE1.out).drewN 1));clear hT0 hT1 HP1 HP2;go_wp2_with fail
  go_region_held3 (fun w'=>w'.cell? ⟨a.sp,0,none⟩=some (.pointer (some ⟨a.lb,0,none⟩))/\w'.cell? ⟨a.lb,14,none⟩=some (.pointer (some ⟨a.qj,0,none⟩))/\w'.cell? ⟨a.lb,15,none⟩=some (.pointer (some ⟨a.ql,0,none⟩))/\w'.cell? ⟨b,0,none⟩=some (O I s.given)/\w'.cell? ⟨b,1,none⟩=some (.slice (some ⟨g,0,none⟩) x.ch x.ch)) (first | with_reducible exact hT2 | with_reducible exact hT3)
   (first
   | (go_at_call 381;refine HP3.out.mono ?_;rintro e u2 ⟨rfl,q2,e2⟩;have HE2:Hid (Edit (·=a.cl) u1 u2):=⟨e2.os,e2.tape,e2.output,e2.size,e2.block⟩;have hT3:=HSX.out u2 ((HE1.out.mono fun _ h=>Or.inl h).trans (HE2.out.mono fun _ h=>Or.inr h));have HQ2:=zZ q2;clear q2 e2))
  have HZ:=zZ (HG.out wc u1 u2 g HC.out.1 HC.out.2.2.1 HC.out.2.2.2.1 HQ1.out HE1.out HQ2.out HE2.out);have t3:=HZ.out.1.cell 3;have f3:=HZ.out.1.free 3;simp at t3;clear hT2 hT3 HG;go_wp2;go_end0;exact ⟨rfl,g,HZ.out.2⟩
theorem y6s {p:Lpar} {a:Lad} {x:Lsn} {F:Nat->Prop} {s:Lst} {w u:World} (h:LineIs p a x F s w) (j k:Nat) (hj:j < p.W) (hk:s.held j=some k) (e0:Edit (·=a.cr) w u)
 (hq:QIs u a.qr a.cr 250 p.Rm ((s.ready.map (pkV x)).toArray.push (.agg #[O I k,.string (bs (frT x.d x.ch x.G x.S x.B k))])) (s.shut p)) :
 (∃ v,Bx u (a.wk j) 173 #[ptrV a.lb,.bool (s.ew j),v])/\LineIs p a x F { s with held:=updL s.held j none,ready:=s.ready ++ [k] } (u.setCell ⟨a.wk j,2,none⟩ (.pointer none))/\Edit F w (u.setCell ⟨a.wk j,2,none⟩ (.pointer none)):=by
 obtain ⟨hv,k1,k2⟩:=h.wrk;have hb:=k1 j hj;have hkd:=h.kinds;have kd1:=hkd.lb;have kd2:=hkd.sp;have kd3:=hkd.su;have kd4:=hkd.wr;have kd5:=hkd.qj;have kd6:=hkd.ql;have kd7:=hkd.qr;have kd8:=hkd.cj;have kd9:=hkd.cl;have kd10:=hkd.cr;obtain ⟨n1,n2,n3,n4,n5⟩:=h.ne;have kw:=hb.kn;have hbu:=hb.edit e0 (by grind);have e5:=Edit.one u (a.wk j) 2 (.pointer none);have e3:Edit (fun q=>q=a.cr∨q=a.wk j) w (u.setCell ⟨a.wk j,2,none⟩ (.pointer none)):=(e0.mono (by grind)).trans (e5.mono (by grind));have hq':(s.ready.map (pkV x)).toArray.push (.agg #[O I k,.string (bs (frT x.d x.ch x.G x.S x.B k))])=((s.ready ++ [k]).map (pkV x)).toArray:=by simp [pkV]
 rw [hq'] at hq;refine ⟨⟨_,hbu⟩,h.edit e3 (fun _ hh=>hh) (fun k hk=>Nat.lt_of_lt_of_le (h.lt k hk) e3.size) (by unfold Firm;grind) (h.cellsOk e3 (fun _ hh=>hh) (by grind) (by grind) (by grind)) (h.spl.edit e3 (by grind)) (h.sum.edit e3 (by grind))
  (h.workOk1 e3 (fun _ hh=>hh) j hj (by grind) (by grind) (fun i hi=>⟨rfl,by simp [updL,hi]⟩) (.pointer none) (hbu.set 2 (.pointer none)) (Or.inl ⟨by simp [updL],rfl⟩))
  (h.jobs.edit e3 (by grind) (by grind)) (h.lane.edit e3 (by grind) (by grind)) (hq.edit e5 (by grind) (by grind)) rfl,e3.mono fun q hq=>?_⟩
 rcases hq with rfl | rfl
 . exact h.own.2.2.2.2.2.2.2.2.2.1
 . exact h.own.2.2.2.2.2.2.2.2.2.2.2.2 j hj
section
variable {p:Lpar} {a:Lad} {x:Lsn} {F:Nat->Prop} {s:Lst} {w:World}
theorem y8B (h:LineIs p a x F s w) {k:Nat} (hkg:k < s.given) (hN:k < nBlk x.S x.B) (hT:TabsF w) :
 Calls prog 63 #[.agg #[O I x.ch,O I x.d,O I x.B,O I x.c3,O I x.c4,O I p.W,O I p.Wd,O I p.Rm],O I k,.slice (some ⟨a.gb k,0,none⟩) x.ch x.ch] w fun e w'=>e=.returned (.string (bs (frT x.d x.ch x.G x.S x.B k)))/\Below w.heap.size w w':=by
 obtain ⟨h1,h2,h3⟩:=h.blk hkg hN;have hbd:=z1r h.kp.B1 hN;have hB32:=h.kp.B32;have hnb:=h.kp.nb;have hd4:=h.kp.d4;exact z7F x.B x.c3 x.c4 p.W p.Wd p.Rm x.d k (some ⟨a.gb k,0,none⟩) x.ch x.ch _ _ _ _ w (by omega) h.kp.d12 h.kp.n1 h.kp.n4 (by omega) (by omega) (by omega) (h.kp.blk hN) h1 h2 h3 hT
set_option maxRecDepth 100000 in
set_option maxHeartbeats 4000000 in
theorem y2F (h:LineIs p a x F s w) (j k:Nat) (hj:j < p.W) (hk:s.held j=some k) (hej:s.ew j=false) (hkg:k < s.given) (hN:k < nBlk x.S x.B) (hr:s.ready.length < p.Rm) (hT:TabsF w) :
 Calls prog 414 #[ptrV (a.wk j)] w fun e w'=>e=.returned (.tuple #[])/\LineIs p a x F { s with held:=updL s.held j none,ready:=s.ready ++ [k] } w'/\Edit F w w':=by
 obtain ⟨sv,fv,lv,hl,hw,-⟩:=h.cells;obtain ⟨hv,k1,k2⟩:=h.wrk;have hb:=k1 j hj;have hhv:=(k2 j k hj hk).2;have hhe:heV hv s j=.pointer (some ⟨hv j,0,none⟩):=by simp only [heV,hk,ptrV]
 rw [hhe] at hb;have hkd:=h.kinds;have kd1:=hkd.lb;have kd7:=hkd.qr;have kd10:=hkd.cr;have kw:=hb.kn;have kh:=hhv.kn;have HS:Hid (∀ u,Edit (·=a.cr) w u->u.cell? ⟨a.wk j,0,none⟩=some (.pointer (some ⟨a.lb,0,none⟩))/\u.cell? ⟨a.wk j,2,none⟩=some (.pointer (some ⟨hv j,0,none⟩))/\u.cell? ⟨hv j,0,none⟩=some (O I k)/\u.cell? ⟨hv j,1,none⟩=some (.slice (some ⟨a.gb k,0,none⟩) x.ch x.ch) /\
     u.cell? ⟨a.lb,0,none⟩=some (O I x.ch)/\u.cell? ⟨a.lb,1,none⟩=some (O I x.d)/\u.cell? ⟨a.lb,2,none⟩=some (O I x.B)/\u.cell? ⟨a.lb,3,none⟩=some (O I x.c3)/\u.cell? ⟨a.lb,4,none⟩=some (O I x.c4)/\u.cell? ⟨a.lb,5,none⟩=some (O I p.W)/\u.cell? ⟨a.lb,6,none⟩=some (O I p.Wd)/\u.cell? ⟨a.lb,7,none⟩=some (O I p.Rm)/\u.cell? ⟨a.lb,16,none⟩=some (.pointer (some ⟨a.qr,0,none⟩))):=fun u he=>by
  have b1:=hb.edit he (by grind);have b2:=hhv.edit he (by grind);have b3:=hl.edit he (by grind);exact ⟨b1.cell 0,b1.cell 2,b2.cell 0,b2.cell 1,b3.cell 0,b3.cell 1,b3.cell 2,b3.cell 3,b3.cell 4,b3.cell 5,b3.cell 6,b3.cell 7,b3.cell 16⟩
 have HMK:Hid (Calls prog 63 #[.agg #[O I x.ch,O I x.d,O I x.B,O I x.c3,O I x.c4,O I p.W,O I p.Wd,O I p.Rm],O I k,.slice (some ⟨a.gb k,0,none⟩) x.ch x.ch] w.drew fun e w'=>e=.returned (.string (bs (frT x.d x.ch x.G x.S x.B k)))/\Below w.heap.size w.drew w') :=
  y8B h.drew hkg hN (hT.below zX.drew)
 have hqr:=h.ready;rw [z2t hj hej] at hqr;have HPU:Hid (∀ u,Edit (fun _=>False) w u->Calls prog 415 #[.pointer (some ⟨a.qr,0,none⟩),.agg #[O I k,.string (bs (frT x.d x.ch x.G x.S x.B k))]] u fun e w'=>e=.returned (.tuple #[])/\QIs w' a.qr a.cr 250 p.Rm ((s.ready.map (pkV x)).toArray.push (.agg #[O I k,.string (bs (frT x.d x.ch x.G x.S x.B k))])) false/\Edit (·=a.cr) u w') :=
  fun u he=>y2u a.qr a.cr p.Rm (s.ready.map (pkV x)).toArray (O I k) (.string (bs (frT x.d x.ch x.G x.S x.B k))) u (hqr.edit he id id) (by simpa using hr) ⟨rfl,rfl⟩
 have HD:Hid (∀ u,Edit (·=a.cr) w u->QIs u a.qr a.cr 250 p.Rm ((s.ready.map (pkV x)).toArray.push (.agg #[O I k,.string (bs (frT x.d x.ch x.G x.S x.B k))])) false->(∃ v,Bx u (a.wk j) 173 #[ptrV a.lb,.bool (s.ew j),v])/\LineIs p a x F { s with held:=updL s.held j none,ready:=s.ready ++ [k] } (u.setCell ⟨a.wk j,2,none⟩ (.pointer none))/\Edit F w (u.setCell ⟨a.wk j,2,none⟩ (.pointer none))) :=
  fun u he hq=>y6s h j k hj hk he (by rw [z2t hj hej];exact hq)
 have hS0:=HS.out w.drew ((Edit.refl _ w).drewN 1);clear h hl hw hb hhv hhe k1 k2 hkd kd1 kd7 kd10 kw kh hqr hT hkg hN hr hk hej;generalize bs (frT x.d x.ch x.G x.S x.B k)=tx at *;unfold ptrV at *
 go_enter Tryz.func414,Tryz.ntmps414
 go_wp2_with fail
 go_region_held3 (fun w'=>w'.cell? ⟨a.wk j,0,none⟩=some (.pointer (some ⟨a.lb,0,none⟩))/\w'.cell? ⟨a.wk j,2,none⟩=some (.pointer (some ⟨hv j,0,none⟩))/\w'.cell? ⟨hv j,0,none⟩=some (O I k)/\w'.cell? ⟨hv j,1,none⟩=some (.slice (some ⟨a.gb k,0,none⟩) x.ch x.ch)/\w'.cell? ⟨a.lb,0,none⟩=some (O I x.ch)/\w'.cell? ⟨a.lb,1,none⟩=some (O I x.d)/\w'.cell? ⟨a.lb,2,none⟩=some (O I x.B)/\w'.cell? ⟨a.lb,3,none⟩=some (O I x.c3)/\w'.cell? ⟨a.lb,4,none⟩=some (O I x.c4)/\w'.cell? ⟨a.lb,5,none⟩=some (O I p.W)/\w'.cell? ⟨a.lb,6,none⟩=some (O I p.Wd)/\w'.cell? ⟨a.lb,7,none⟩=some (O I p.Rm)/\w'.cell? ⟨a.lb,16,none⟩=some (.pointer (some ⟨a.qr,0,none⟩))) (first | with_reducible exact hS0 | with_reducible exact hS1)
  (first
  | (go_at_call 63;refine HMK.out.mono ?_;rintro e u1 ⟨rfl,hb⟩;have HE1:Hid (Edit (fun _=>False) w u1):=Edit.of (⟨hb.os,hb.tape,hb.output,hb.size,hb.block⟩:Below w.heap.size w u1);have hS1:=HS.out u1 (HE1.out.mono fun _ h=>h.elim);clear hb HMK))
 have hS2:=HS.out u1.drew ((HE1.out.mono fun _ h=>h.elim).drewN 1);have HP2:=zZ (HPU.out u1.drew (HE1.out.drewN 1));clear hS0 hS1 HPU;go_wp2_with fail
 go_region_held3 (fun w'=>w'.cell? ⟨a.wk j,0,none⟩=some (.pointer (some ⟨a.lb,0,none⟩))/\w'.cell? ⟨a.wk j,2,none⟩=some (.pointer (some ⟨hv j,0,none⟩))/\w'.cell? ⟨hv j,0,none⟩=some (O I k)/\w'.cell? ⟨hv j,1,none⟩=some (.slice (some ⟨a.gb k,0,none⟩) x.ch x.ch)/\w'.cell? ⟨a.lb,0,none⟩=some (O I x.ch)/\w'.cell? ⟨a.lb,1,none⟩=some (O I x.d)/\w'.cell? ⟨a.lb,2,none⟩=some (O I x.B)/\w'.cell? ⟨a.lb,3,none⟩=some (O I x.c3)/\w'.cell? ⟨a.lb,4,none⟩=some (O I x.c4)/\w'.cell? ⟨a.lb,5,none⟩=some (O I p.W)/\w'.cell? ⟨a.lb,6,none⟩=some (O I p.Wd)/\w'.cell? ⟨a.lb,7,none⟩=some (O I p.Rm)/\w'.cell? ⟨a.lb,16,none⟩=some (.pointer (some ⟨a.qr,0,none⟩))) (first | with_reducible exact hS2 | with_reducible exact hS3)
  (first
  | (go_at_call 415;refine HP2.out.mono ?_;rintro e u2 ⟨rfl,q2,e2⟩;have HE2:Hid (Edit (·=a.cr) w u2):=(HE1.out.mono fun _ h=>h.elim).trans ⟨e2.os,e2.tape,e2.output,e2.size,e2.block⟩;have hS3:=HS.out u2 HE2.out;have HQ2:=zZ q2;clear q2 e2 HP2))
 have HZ:=zZ (HD.out u2 HE2.out HQ2.out);obtain ⟨⟨v,hbv⟩,HY⟩:=HZ.out;have HY:=zZ HY;have t2:=hbv.cell 2;have f2:=hbv.free 2;simp at t2;clear hS2 hS3 HZ HD HQ2 hbv;go_wp2;go_end0;exact ⟨rfl,HY.out⟩
end
end Go.Proofs.YtlncjgnomhpjnabGreatDoor
namespace Go.Proofs.YtlncjgnomhpjnabGreatDoor
open Go.Value renaming int → O
open Go.IntKind renaming i64 → I
open Go.Proofs.Tryz (prog)
open Go
set_option linter.unusedVariables false
variable {P:Program}
theorem z1W (w:World) (dT sT ty elem:TypeId) (size g o dLen dCap:Nat) (a:Addr) (sLen sCap:Nat) (cur:Array Value) (t:TypeId) (cs:List Value)
 (hu:P.underlying dT=some (.slice elem)) (hs:(P.info? elem).map (·.size)=some size)
 (hg:w.heap[g]?=some (.cells cur t (0,0))) (hn:cs.length=Nat.min sLen dLen * size)
 (hsrc:∀ j v,cs[j]?=some v->w.cell? (a.add j)=some v) (hfit:o+cs.length<=cur.size) (h1:∀ v ∈ cs,v.oneCell'=true) :
 (Builtin.copy_ #[dT,sT] ty #[.slice (some ⟨g,o,none⟩) dLen dCap,.slice (some a) sLen sCap]).run P w =
  .ok (goInt (Nat.min sLen dLen)) (w.setRow g (cur.toList.take o ++ cs ++ cur.toList.drop (o+cs.length)).toArray):=by
 have hl:=run_loadCells_list (P:=P) w a cs hsrc;have hst:=run_storeCells_at P g o t cs 0 cur w hg (by simpa using hfit) h1;cases hq:P.info? elem with
 | none=>simp [hq] at hs
 | some i =>
  have hi:i.size=size:=by simpa [hq] using hs
  simp [Builtin.copy_,run_underlying hu,Builtin.lenOf,Builtin.firstCells,sizeOf,typeInfo,hq,hi,← hn,hl,hst]
theorem z6G (w:World) (t e ty:TypeId) (z:Value) (n:Nat) (ht:P.underlying t=some (.slice e)) (hv:∀ w,(zeroValue e).run P w=.ok z w) (h1:∀ v ∈ (Builtin.zeroCells z.cells n).toList,v.oneCell'=true) (g o c:Nat) (cur:Array Value) (hn:0 < n)
 (hg:w.heap[g]?=some (.cells cur e (0,0))) (hfit:o+(Builtin.zeroCells z.cells n).toList.length<=cur.size) :
 (Builtin.clear_ #[t] ty #[.slice (some ⟨g,o,none⟩) n c]).run P w=.ok (.tuple #[]) (w.setRow g (cur.toList.take o ++ (Builtin.zeroCells z.cells n).toList ++ cur.toList.drop (o+(Builtin.zeroCells z.cells n).toList.length)).toArray):=by
 have hst:=run_storeCells_at P g o e (Builtin.zeroCells z.cells n).toList 0 cur w hg (by simpa using hfit) h1;simp only [Nat.add_zero] at hst;obtain ⟨m,rfl⟩:∃ m,n=m+1:=⟨n - 1,by omega⟩;simp [Builtin.clear_,hst,hv,run_underlying ht]
theorem z5a (w:World) (t ty e:TypeId) (i:TypeInfo) (ht:P.underlying t=some (.slice e)) (hi:P.info? e=some i) (size:Nat) (hs:i.size=size)
 (g n cap:Nat) (cur:Array Value) (hg:w.heap[g]?=some (.cells cur e (0,0)))
 (ad:Addr) (m c:Nat) (news:List Value) (hl:news.length=m * size) (hnews:∀ j v,news[j]?=some v->w.cell? (ad.add j)=some v) (h1:∀ v ∈ news,v.oneCell'=true) (hroom:n+m<=cap) (hfit:n * size+news.length<=cur.size) :
 (Builtin.append_ #[t,t] ty #[.slice (some ⟨g,0,none⟩) n cap,.slice (some ad) m c]).run P w=.ok (.slice (some ⟨g,0,none⟩) (n+m) cap) (w.setRow g (cur.toList.take (n * size) ++ news ++ cur.toList.drop (n * size+news.length)).toArray):=by
 have hld:=run_loadCells_list (P:=P) w ad news hnews;have hadd:(⟨g,0,none⟩:Addr).add (n * size)=⟨g,n * size,none⟩:=by unfold Addr.add;split <;> simp_all
 have hst:=run_storeCells_at P g (n * size) e news 0 cur w hg (by simpa using hfit) h1;simp [Builtin.append_,run_underlying ht,sizeOf,typeInfo,hi,hs,Builtin.lenOf,Builtin.firstCells,← hl,hld,hroom,hadd,hst]
theorem z4J (w:World) (t tn ty e:TypeId) (i:TypeInfo) (z:Value) (k kn:IntKind) (ht:P.underlying t=some (.slice e)) (htn:P.underlying tn=some (.int kn)) (hi:P.info? e=some i) (hz:i.zero=some z) (size:Nat) (hs:i.size=size)
 (g q cap:Nat) (old:List Value) (hl:old.length=q * size) (hold:∀ j v,old[j]?=some v->w.cell? ⟨g,j,none⟩=some v)
 (n:Nat) (h0:0 < n) (hs0:0 < size) (hroom:cap < q+n) (h300:q+n<=600) (hby:i.bytes<=64) :
 (Builtin.append_ #[t,tn] ty #[.slice (some ⟨g,0,none⟩) q cap,.int k n]).run P w =
  .ok (.slice (some ⟨w.heap.size,0,none⟩) (q+n) (grownCap w (q+n) cap e)) (w.drew.alloc (.cells (old.toArray ++ Builtin.zeroCells z.cells n ++ Builtin.zeroCells z.cells (grownCap w (q+n) cap e - (q+n))) e)):=by
 have hn:n ≠ 0:=by omega
 have hw:IntKind.i64.wrap (n:Int)=n:=by rw [IntKind.wrap_i64];omega
 have hb:n * i.bytes<=600 * 64:=Nat.mul_le_mul (by omega) hby;have hnc:Builtin.nextslicecap (q+n) cap<=1200:=by
  unfold Builtin.nextslicecap;split
  . omega
  . split
    . omega
    . have:∀ r c,c<=600->Builtin.growBy (q+n) r c<=1200:=by
        intro r
        induction r with
        | zero=>intro c hc;simp only [Builtin.growBy];omega
        | succ r ih =>
         intro c hc;simp only [Builtin.growBy];split
         . omega
         . by_cases h2:c+(c+768) / 4<=600
           . exact ih _ h2
           . cases r with
             | zero=>simp only [Builtin.growBy];omega
             | succ r =>
              simp only [Builtin.growBy];rw [if_pos (by omega)];omega
      exact this 4 cap (by omega)
 have hb2:Builtin.nextslicecap (q+n) cap * i.bytes<=1200 * 64:=Nat.mul_le_mul hnc hby;have h48':¬ (281474976710656 < Builtin.nextslicecap (q+n) cap * i.bytes):=by omega
 have h48i:¬ (281474976710656 < (n:Int) * (i.bytes:Int)):=by
  rw [← Int.natCast_mul];omega
 have hneg:¬ ((n:Int) < 0):=by omega
 have hns:¬ (n * size=0):=Nat.mul_ne_zero hn (by omega);have h63':¬ (9223372036854775807 < (q:Int)+(n:Int)):=by omega
 have hrm:¬ (q+n<=cap):=by omega
 have hld:=run_loadCells_list (P:=P) w.drew ⟨g,0,none⟩ old (fun j v hj=>by have:=hold j v hj;rw [show (⟨g,0,none⟩:Addr).add j=⟨g,j,none⟩ by unfold Addr.add;split <;> simp_all];exact this);simp [Builtin.append_,run_underlying ht,run_underlying htn,sizeOf,typeInfo,zeroValue,hi,hz,asInt,asIntOf,hw,hneg,hns,h63',h48',h48i,hrm,hs,Question.forced,Builtin.firstCells,← hl,hld,newRow,grownCap]
end Go.Proofs.YtlncjgnomhpjnabGreatDoor
namespace Go.Proofs.YtlncjgnomhpjnabGreatDoor
open Go.Value renaming int → O
open Go.IntKind renaming i64 → I
open Go.Proofs.Tryz (prog)
open Go.RowKit Go.Deep
set_option linter.unusedVariables false
def shC (T:Nat->ByteArray):List Nat->List Value
 | []=>[]
 | k :: r=>O I k :: .string (T k) :: shC T r
theorem z1k (T:Nat->ByteArray):∀ l:List Nat,(shC T l).length=l.length * 2
 | []=>rfl
 | k :: r=>by simp only [shC,List.length_cons,z1k T r];omega
theorem z8d (T:Nat->ByteArray) (m:List Nat):∀ l:List Nat,shC T (l ++ m)=shC T l ++ shC T m
 | []=>rfl
 | k :: r=>by simp only [shC,List.cons_append,z8d T m r]
theorem y1L (T:Nat->ByteArray):∀ (l:List Nat) (i:Nat),(shC T l).take (i * 2)=shC T (l.take i)
 | [],i=>by simp [shC]
 | k :: r,0=>by simp [shC]
 | k :: r,i+1=>by simp only [shC,Nat.add_mul,Nat.one_mul,List.take_succ_cons,y1L T r i]
theorem y1M (T:Nat->ByteArray):∀ (l:List Nat) (i:Nat),(shC T l).drop (i * 2)=shC T (l.drop i)
 | [],i=>by simp [shC]
 | k :: r,0=>by simp [shC]
 | k :: r,i+1=>by simp only [shC,Nat.add_mul,Nat.one_mul,List.drop_succ_cons,y1M T r i]
theorem y0F (T:Nat->ByteArray):∀ (l:List Nat) (i:Nat) (h:i < l.length),(shC T l)[i * 2]?=some (O I (l[i]:Nat))/\(shC T l)[i * 2+1]?=some (.string (T l[i]))
 | [],i,h=>absurd h (Nat.not_lt_zero _)
 | k :: r,0,h=>by simp [shC]
 | k :: r,i+1,h=>by
  have:=y0F T r i (by simpa using h);simp only [shC,Nat.add_mul,Nat.one_mul,List.getElem_cons_succ,show i * 2+2=(i * 2)+1+1 by omega,List.getElem?_cons_succ];exact this
theorem z8e (T:Nat->ByteArray):∀ (l:List Nat),∀ v ∈ shC T l,v.oneCell'=true
 | []=>fun v hv=>by cases hv
 | k :: r=>fun v hv=>by
  rcases List.mem_cons.1 hv with rfl | hv
  . rfl
  rcases List.mem_cons.1 hv with rfl | hv
  . rfl
  . exact z8e T r v hv
theorem y0G (x y:Int) (w:World):Calls prog 402 #[O I x,O I y] w fun e w'=>e=.returned (O I (if x < y then -1 else if y < x then 1 else 0))/\w'=w:=by
 have HN:Hid (∀ (z:Int) (u:World),Calls prog 404 #[O I z] u fun e w'=>e=.returned (.bool false)/\w'=u):=by
  intro z u
  go_enter Tryz.func404,Tryz.ntmps404
  go_wp2;go_ret;exact ⟨by simp,rfl⟩
 by_cases h1:x < y
 . rw [if_pos h1]
   go_enter Tryz.func402,Tryz.ntmps402
   go_wp2_with (go_at_call 404;refine (HN.out _ _).mono ?_;rintro e u ⟨rfl,hw⟩;subst u)
   go_ret;exact ⟨rfl,rfl⟩
 . rw [if_neg h1]
   by_cases h2:y < x
   . rw [if_pos h2]
     go_enter Tryz.func402,Tryz.ntmps402
     go_wp2_with (go_at_call 404;refine (HN.out _ _).mono ?_;rintro e u ⟨rfl,hw⟩;subst u)
     go_ret;exact ⟨rfl,rfl⟩
   . rw [if_neg h2]
     go_enter Tryz.func402,Tryz.ntmps402
     go_wp2_with (go_at_call 404;refine (HN.out _ _).mono ?_;rintro e u ⟨rfl,hw⟩;subst u)
     go_ret;exact ⟨rfl,rfl⟩
theorem y2G (x y:Int) (s t:ByteArray) (w:World):Calls prog 401 #[.agg #[O I x,.string s],.agg #[O I y,.string t]] w fun e w'=>e=.returned (O I (if x < y then -1 else if y < x then 1 else 0))/\Below w.heap.size w w':=by
 have HC:=zZ (fun u=>y0G x y u);generalize (if x < y then (-1:Int) else if y < x then 1 else 0)=c at *
 go_enter Tryz.func401,Tryz.ntmps401
 go_wp2_with (go_at_call 402;refine (HC.out _).mono ?_;rintro e u ⟨rfl,hw⟩;subst u)
 go_ret;exact ⟨rfl,(zX.alloc zY _).alloc (by simp) _⟩
end Go.Proofs.YtlncjgnomhpjnabGreatDoor
