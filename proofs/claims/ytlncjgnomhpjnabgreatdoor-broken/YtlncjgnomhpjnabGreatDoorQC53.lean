import Derived.Test.YtlncjgnomhpjnabGreatDoorQC52
import Derived.Test.YtlncjgnomhpjnabGreatDoorQC0
namespace Go.Proofs.YtlncjgnomhpjnabGreatDoor
open Go.Value renaming int → O
open Go.IntKind renaming i64 → I
open Go.Proofs.Tryz (prog)
open Go.RowKit Go.Deep
set_option linter.unusedVariables false
set_option maxHeartbeats 400000 in
theorem y1Y (a:Int) (w:World) (ha:-9223372036854775808<=a/\a<=9223372036854775807) :
 Calls prog 13 #[O I a,O I 4611686018427387904] w fun e w'=>∃ k:Nat,k<=4611686018427387904/\e=.returned (O I k)/\w'=w:=by
 by_cases h:a < 0
 . have t1:decide (a < 0)=true:=decide_eq_true h
   have v1:IntKind.i64.wrap (a+1)=a+1:=by rw [IntKind.wrap_i64];omega
   have v2:IntKind.i64.wrap (-(a+1))=((-(a+1)).toNat:Int):=by rw [IntKind.wrap_i64];omega
   generalize (-(a+1)).toNat=q at *;have m1:(q:Int).tmod 4611686018427387904=((q % 4611686018427387904:Nat):Int):=by rw [Int.tmod_eq_emod_of_nonneg (by omega)];simp
   have hml:q % 4611686018427387904 < 4611686018427387904:=Nat.mod_lt _ (by omega);generalize q % 4611686018427387904=r at *;have HR:=zZ (Nat.le_of_lt hml);have w3:IntKind.i64.wrap (r:Int)=(r:Int):=by rw [IntKind.wrap_i64];omega
   go_enter Tryz.func13,Tryz.ntmps13
   go_wp2;go_ret;exact ⟨r,HR.out,rfl,rfl⟩
 . have t1:decide (a < 0)=false:=decide_eq_false h
   obtain ⟨q,rfl⟩:∃ q:Nat,a=q:=⟨a.toNat,by omega⟩;have m1:(q:Int).tmod 4611686018427387904=((q % 4611686018427387904:Nat):Int):=by rw [Int.tmod_eq_emod_of_nonneg (by omega)];simp
   have hml:q % 4611686018427387904 < 4611686018427387904:=Nat.mod_lt _ (by omega);generalize q % 4611686018427387904=r at *;have HR:=zZ (Nat.le_of_lt hml);have w3:IntKind.i64.wrap (r:Int)=(r:Int):=by rw [IntKind.wrap_i64];omega
   go_enter Tryz.func13,Tryz.ntmps13
   go_wp2;go_ret;exact ⟨r,HR.out,rfl,rfl⟩
def BrkE (q:Bpar) (w:World):Prop:=∃ a F s cut steps wn,BrkI q a F s cut steps wn w
section
variable {q:Bpar} {a:Lad} {F:Nat->Prop} {s:Lst} {cut:Bool} {steps wn:Nat} {u:World}
theorem BrkI.box1 (h:BrkI q a F s cut steps wn u) (cs:Array Value) (t:TypeId):BrkI q a F s cut steps wn (u.alloc (.cells cs t)):=h.keep (zX.alloc zY _)
set_option maxRecDepth 100000 in
set_option maxHeartbeats 4000000 in
theorem y5m (h:BrkI q a F s cut steps wn u) (kd nm:Int) (hk:-9223372036854775808<=kd/\kd<=9223372036854775807) (hp:pickV kd 4=2) :
 Calls prog 27 #[.pointer (some ⟨q.kb,0,none⟩),.agg #[O I kd,O I nm]] u fun e w'=>e=.returned (.bool true)/\BrkE q w':=by
 have HPK:=zZ (fun w=>z0U kd 4 w (by omega) (by omega) hk);rw [hp] at HPK;have HI:=zZ (h.box1 #[O I kd,O I nm] 75);have x0:=(Bx.new u #[O I kd,O I nm] 75).cell 0;simp at x0;have HSK:=zZ (y1X HI.out);clear h hk hp
 go_enter Tryz.func27,Tryz.ntmps27
 go_wp2_with (first
  | (go_at_call 13;refine (HPK.out _).mono ?_;rintro e u1 ⟨rfl,hu⟩;subst u1;clear HPK)
  | (go_at_call 29;refine HSK.out.mono ?_;rintro e u2 ⟨rfl,wn',hI⟩;have HI2:=zZ hI;clear hI HSK))
 go_ret;exact ⟨rfl,_,_,_,_,_,_,HI2.out⟩
set_option maxRecDepth 100000 in
set_option maxHeartbeats 4000000 in
theorem y5n (h:BrkI q a F s cut steps wn u) (kd nm:Int) (hk:-9223372036854775808<=kd/\kd<=9223372036854775807) (hp:pickV kd 4=3) :
 Calls prog 27 #[.pointer (some ⟨q.kb,0,none⟩),.agg #[O I kd,O I nm]] u fun e w'=>e=.returned (.bool true)/\BrkE q w':=by
 have HPK:=zZ (fun w=>z0U kd 4 w (by omega) (by omega) hk);rw [hp] at HPK;have HI:=zZ (h.box1 #[O I kd,O I nm] 75);have x0:=(Bx.new u #[O I kd,O I nm] 75).cell 0;have z0:=HI.out.brk.cell 0;simp at x0 z0;have hw1:=h.line.inv.wrote;have hw2:s.given<=q.N:=h.line.inv.given;have i1:(s.wrote:Int)<=(s.given:Int):=by omega
 have i2:(s.given:Int) < (q.N:Int)+1:=by omega
 have i3:s.given < q.N+1:=by omega
 have i4:decide ((s.wrote:Int)<=(s.given:Int))=true:=decide_eq_true i1;have i5:decide ((s.given:Int) < (q.N:Int)+1)=true:=decide_eq_true i2;have HLK:=zZ (z1X HI.out);generalize lstN s=ln at *;clear h hk hp
 go_enter Tryz.func27,Tryz.ntmps27
 go_wp2_with (first
  | (go_at_call 13;refine (HPK.out _).mono ?_;rintro e u1 ⟨rfl,hu⟩;subst u1;clear HPK)
  | (go_at_call 24;refine HLK.out.mono ?_;rintro e u2 ⟨A1,q1,A2,q2,A3,q3,rfl,hb⟩;have HZ:=zZ (z2g HI.out hb #[O I ln,O I s.given,O I s.summed,O I s.wrote,O I s.writes,O I s.jobs.length,O I s.lane.length,O I s.ready.length,.slice A1 q.k5 q1,.slice A2 s.shelf.length q2,.slice A3 (s.ended q.p).length q3]);have v1:=HZ.out.2.cell 1;have v3:=HZ.out.2.cell 3;have v8:=HZ.out.2.cell 8;have y6:=HZ.out.1.brk.cell 6;have y11:=HZ.out.1.brk.cell 11;simp at v1 v3 v8 y6 y11;clear hb HI HLK)
  | (refine z0b rfl _ _ 64 rfl u2.heap.size 64 _ _ rfl rfl (Bx.new u2 #[O I 0,O I 0,O I 0,O I 0,O I 0,O I 0,O I 0,O I 0,.slice none 0 0,.slice none 0 0,.slice none 0 0] 64) z0D rfl rfl ?_))
 go_quiet (fail)
 go_wp2_with fail;go_ret;exact ⟨rfl,_,_,_,_,_,_,HZ.out.1.keep (z0t zX nq)⟩
end
theorem BrkI.cancel {q:Bpar} {a:Lad} {F:Nat->Prop} {s:Lst} {steps wn:Nat} {u v:World} (h:BrkI q a F s false steps wn u) (hf:s.failed=false) (hL:RLine q.p a q.x F q.l s.halt v) (hE:Edit F u v):BrkI q a F s.halt true steps wn (v.setCell ⟨q.kb,13,none⟩ (.bool true))/\Bx v q.kb 72 (let cut:=false;#[.pointer (some ⟨q.l,0,none⟩),O I q.ch,O I q.d,O I q.B,O I q.k3,O I q.k4,O I q.k5,O I q.k6,O I q.k7,.slice (some ⟨q.gx,0,none⟩) q.ch q.cx,.string q.tx,.slice (some ⟨q.ga,0,none⟩) (q.N+1) q.ca,O I q.fail,.bool cut,O I (steps:Nat),O I (wn:Nat)]):=by
 have hnk:∀ k,F k->k ≠ q.kb:=fun k hk=>(h.far k hk).2
 have hB:=h.brk.edit hE fun hh=>hnk _ hh rfl
 have he:Edit (·=q.kb) v (v.setCell ⟨q.kb,13,none⟩ (.bool true)):=Edit.one v q.kb 13 _;have hr:=y6K (p:=q.p) s;have hst:=h.stp;have hL2:RLine q.p a q.x F q.l s.halt (v.setCell ⟨q.kb,13,none⟩ (.bool true)):=⟨hL.line.keep (fun k hk=>he.block k (hL.line.lt k hk) (hnk k hk)) he.size,hL.inv,hL.ptr.edit he h.fix.lk,hL.far⟩;have hE2:Edit (fun k=>F k∨k=q.kb) u (v.setCell ⟨q.kb,13,none⟩ (.bool true)):=(hE.mono fun k hk=>Or.inl hk).trans (he.mono fun k hk=>Or.inr hk);exact ⟨h.go hL2 hE2 (fun k hk=>hk.elim (fun hk=>(h.far k hk).1) (fun hk=>by have:=h.fix.kb;omega)) (hB.set 13 (.bool true)) (fun k hk=>Or.inl hk) h.wr (fun _=>⟨rfl,hf⟩) (fun hc=>by cases hc) (by omega),hB⟩
theorem y0Y {s:Lst} (h:s.e2=false):lstN s=0:=by unfold lstN;rw [h];rfl
theorem z8q {s:Lst} (h:s.e2=true):¬ lstN s=0:=by
 unfold lstN;rw [h];cases s.stopped <;> cases s.failed <;> simp
section
variable {q:Bpar} {a:Lad} {F:Nat->Prop} {s:Lst} {cut:Bool} {steps wn:Nat} {u:World}
set_option maxRecDepth 100000 in
set_option maxHeartbeats 4000000 in
theorem z9Q (h:BrkI q a F s cut steps wn u) (kd nm:Int) (hk:-9223372036854775808<=kd/\kd<=9223372036854775807) (hp:pickV kd 4=1) (h2:s.e2=true∨s.stopped=true) :
 Calls prog 27 #[.pointer (some ⟨q.kb,0,none⟩),.agg #[O I kd,O I nm]] u fun e w'=>e=.returned (.bool true)/\BrkE q w':=by
 have HPK:=zZ (fun w=>z0U kd 4 w (by omega) (by omega) hk);rw [hp] at HPK;have HI:=zZ (h.box1 #[O I kd,O I nm] 75);have x0:=(Bx.new u #[O I kd,O I nm] 75).cell 0;have z0:=HI.out.brk.cell 0;simp at x0 z0;have HLK:=zZ (z1X HI.out);have HCA:Hid (∀ u2,BrkI q a F s cut steps wn u2->Calls prog 54 #[.pointer (some ⟨q.l,0,none⟩)] u2 fun e w'=>e=.returned (O I 9)/\Below u2.heap.size u2 w'):=fun u2 hu=>by
  cases h3:s.e2 with
  | true=>exact z4T hu.line h3
  | false=>exact y2N hu.line h3 (h2.elim (fun h4=>absurd h4 (by rw [h3];decide)) id)
 have hcs:(¬ lstN s=0)∨(lstN s=0/\(cut=true∨(cut=false/\1<=q.fail/\q.fail<=(s.writes:Int)))):=by
  cases h3:s.e2 with
  | true=>exact Or.inl (z8q h3)
  | false =>
   have h4:s.stopped=true:=h2.elim (fun h4=>absurd h4 (by rw [h3];decide)) id;refine Or.inr ⟨y0Y h3,?_⟩;cases hc:cut with
   | true=>exact Or.inl rfl
   | false =>
    have h5:=h.cutF hc;obtain ⟨h6,h7⟩:=h.line.inv.ff (h5.symm.trans h4);have h8:(s.writes:Int)=q.fail:=h6;exact Or.inr ⟨rfl,by omega,by omega⟩
 generalize lstN s=ln at *;clear h hk hp h2
 go_enter Tryz.func27,Tryz.ntmps27
 go_wp2_with (first
  | (go_at_call 13;refine (HPK.out _).mono ?_;rintro e u1 ⟨rfl,hu⟩;subst u1;clear HPK)
  | (go_at_call 24;refine HLK.out.mono ?_;rintro e u2 ⟨A1,q1,A2,q2,A3,q3,rfl,hb⟩;have HZ:=zZ (z2g HI.out hb #[O I ln,O I s.given,O I s.summed,O I s.wrote,O I s.writes,O I s.jobs.length,O I s.lane.length,O I s.ready.length,.slice A1 q.k5 q1,.slice A2 s.shelf.length q2,.slice A3 (s.ended q.p).length q3]);have y0:=HZ.out.1.brk.cell 0;simp at y0;have HC1:=zZ (HCA.out _ HZ.out.1);clear hb HI HLK HCA)
  | (refine z0b rfl _ _ 64 rfl u2.heap.size 64 _ _ rfl rfl (Bx.new u2 #[O I 0,O I 0,O I 0,O I 0,O I 0,O I 0,O I 0,O I 0,.slice none 0 0,.slice none 0 0,.slice none 0 0] 64) z0D rfl rfl ?_)
  | (go_at_call 54;refine HC1.out.mono ?_;rintro e u3 ⟨rfl,hb⟩;have HI3:=zZ (HZ.out.1.keep hb);have bx:=HZ.out.2.below hb;have v0:=bx.cell 0;have v4:=bx.cell 4;have y12:=HI3.out.brk.cell 12;have y13:=HI3.out.brk.cell 13;simp at v0 v4 y12 y13;clear hb bx HZ HC1))
 rcases hcs with hc | ⟨rfl,rfl | ⟨rfl,hc1,hc2⟩⟩
 . have hc2:(ln == 0)=false:=by simpa using hc
   have hc4:(ln != 0)=true:=by simpa using hc
   go_quiet (fail)
   go_wp2_with fail;go_ret;exact ⟨rfl,_,_,_,_,_,_,HI3.out.keep (z0t zX nq)⟩
 . go_quiet (fail)
   go_wp2_with fail;go_ret;exact ⟨rfl,_,_,_,_,_,_,HI3.out.keep (z0t zX nq)⟩
 . have d1:decide ((1:Int)<=q.fail)=true:=decide_eq_true hc1
   have d2:decide (q.fail<=(s.writes:Int))=true:=decide_eq_true hc2
   go_quiet (fail)
   go_wp2_with fail;go_ret;exact ⟨rfl,_,_,_,_,_,_,HI3.out.keep (z0t zX nq)⟩
set_option maxRecDepth 100000 in
set_option maxHeartbeats 4000000 in
theorem y0Z (h:BrkI q a F s cut steps wn u) (kd nm:Int) (hk:-9223372036854775808<=kd/\kd<=9223372036854775807) (hp:pickV kd 4=1) (h2:s.e2=false) (h3:s.stopped=false) :
 Calls prog 27 #[.pointer (some ⟨q.kb,0,none⟩),.agg #[O I kd,O I nm]] u fun e w'=>e=.returned (.bool true)/\BrkE q w':=by
 have hcut:cut=false:=by
  cases hc:cut with
  | false=>rfl
  | true=>exact absurd (h.cutT hc).1 (by rw [h3];decide)
 subst hcut;have HPK:=zZ (fun w=>z0U kd 4 w (by omega) (by omega) hk);rw [hp] at HPK;have HI:=zZ (h.box1 #[O I kd,O I nm] 75);have x0:=(Bx.new u #[O I kd,O I nm] 75).cell 0;have z0:=HI.out.brk.cell 0;simp at x0 z0;have HLK:=zZ (z1X HI.out);rw [y0Y h2] at HLK;have HCA:Hid (∀ u2,BrkI q a F s false steps wn u2->Calls prog 54 #[.pointer (some ⟨q.l,0,none⟩)] u2 fun e w'=>e=.returned (O I 0)/\RLine q.p a q.x F q.l s.halt w'/\Edit F u2 w'):=fun u2 hu=>y0Q hu.line h2 h3
 have hff:s.failed=false:=(h.cutF rfl).symm.trans h3;have HCN:Hid (∀ u2 v,BrkI q a F s false steps wn u2->RLine q.p a q.x F q.l s.halt v->Edit F u2 v->BrkI q a F s.halt true steps wn (v.setCell ⟨q.kb,13,none⟩ (.bool true))/\Bx v q.kb 72 (let cut:=false;#[.pointer (some ⟨q.l,0,none⟩),O I q.ch,O I q.d,O I q.B,O I q.k3,O I q.k4,O I q.k5,O I q.k6,O I q.k7,.slice (some ⟨q.gx,0,none⟩) q.ch q.cx,.string q.tx,.slice (some ⟨q.ga,0,none⟩) (q.N+1) q.ca,O I q.fail,.bool cut,O I (steps:Nat),O I (wn:Nat)])):=fun u2 v hu hL hE=>hu.cancel hff hL hE
 have HNF:Hid (∀ u2,Below (Go.World.heap (u.alloc (.cells #[O I kd,O I nm] 75))).size (u.alloc (.cells #[O I kd,O I nm] 75)) u2->¬ F u2.heap.size):=fun u2 hb hh=>by
  have:=HI.out.line.line.lt _ hh;have:=hb.size;omega
 have hwf:q.fail < 1∨(1<=q.fail/\(s.writes:Int) < q.fail):=by
  have h5:q.fail < 1∨(s.writes:Int) < q.fail:=h.line.inv.wf h3;omega
 clear h hk hp h2 h3 hff
 go_enter Tryz.func27,Tryz.ntmps27
 go_wp2_with (first
  | (go_at_call 13;refine (HPK.out _).mono ?_;rintro e u1 ⟨rfl,hu⟩;subst u1;clear HPK)
  | (go_at_call 24;refine HLK.out.mono ?_;rintro e u2 ⟨A1,q1,A2,q2,A3,q3,rfl,hb⟩;have HZ:=zZ (z2g HI.out hb #[O I 0,O I s.given,O I s.summed,O I s.wrote,O I s.writes,O I s.jobs.length,O I s.lane.length,O I s.ready.length,.slice A1 q.k5 q1,.slice A2 s.shelf.length q2,.slice A3 (s.ended q.p).length q3]);have HNF2:=zZ (HNF.out u2 hb);have y0:=HZ.out.1.brk.cell 0;simp at y0;have HC1:=zZ (HCA.out _ HZ.out.1);clear hb HI HLK HCA HNF)
  | (refine z0b rfl _ _ 64 rfl u2.heap.size 64 _ _ rfl rfl (Bx.new u2 #[O I 0,O I 0,O I 0,O I 0,O I 0,O I 0,O I 0,O I 0,.slice none 0 0,.slice none 0 0,.slice none 0 0] 64) z0D rfl rfl ?_)
  | (go_at_call 54;refine HC1.out.mono ?_;rintro e u3 ⟨rfl,hL,hE⟩;have HL3:=zZ hL;have HE3:=zZ hE;obtain ⟨-,hB3⟩:=HCN.out _ _ HZ.out.1 hL hE;have bx:=HZ.out.2.edit hE HNF2.out;have v0:=bx.cell 0;have v4:=bx.cell 4;have y12:=hB3.cell 12;have y13:=hB3.cell 13;simp at v0 v4 y12 y13;clear hL hE bx hB3 HC1))
 rcases hwf with hc | ⟨hc1,hc2⟩
 . have d1:decide ((1:Int)<=q.fail)=false:=decide_eq_false (by omega)
   have d2:¬ ((1:Int)<=q.fail):=by omega
   go_quiet (fail)
   obtain ⟨hI4,hB4⟩:=HCN.out _ (u3.drewN nq) HZ.out.1 (HL3.out.keep (z0t zX nq)) (HE3.out.drewN nq);have HI4:=zZ hI4;have y13:=hB4.cell 13;have f13:=hB4.free 13;simp at y13;clear hI4 hB4;go_wp2_with fail;go_ret;exact ⟨rfl,_,_,_,_,_,_,HI4.out⟩
 . have d1:decide ((1:Int)<=q.fail)=true:=decide_eq_true hc1
   have d2:decide (q.fail<=(s.writes:Int))=false:=decide_eq_false (by omega);have d3:¬ (q.fail<=(s.writes:Int)):=by omega
   go_quiet (fail)
   obtain ⟨hI4,hB4⟩:=HCN.out _ (u3.drewN nq) HZ.out.1 (HL3.out.keep (z0t zX nq)) (HE3.out.drewN nq);have HI4:=zZ hI4;have y13:=hB4.cell 13;have f13:=hB4.free 13;simp at y13;clear hI4 hB4;go_wp2_with fail;go_ret;exact ⟨rfl,_,_,_,_,_,_,HI4.out⟩
end
end Go.Proofs.YtlncjgnomhpjnabGreatDoor
