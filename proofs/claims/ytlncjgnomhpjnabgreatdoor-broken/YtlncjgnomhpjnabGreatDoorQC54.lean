import Derived.Test.YtlncjgnomhpjnabGreatDoorQC53
import Derived.Test.YtlncjgnomhpjnabGreatDoorQC0
namespace Go.Proofs.YtlncjgnomhpjnabGreatDoor
open Go.Value renaming int → O
open Go.IntKind renaming i64 → I
open Go.Proofs.Tryz (prog)
open Go.RowKit Go.Deep
set_option linter.unusedVariables false
section
variable {q:Bpar} {a:Lad} {F:Nat->Prop} {s:Lst} {cut:Bool} {steps wn:Nat} {u:World}
set_option linter.unusedSimpArgs false in
set_option maxRecDepth 100000 in
set_option maxHeartbeats 4000000 in
theorem y5o (h:BrkI q a F s cut steps wn u) (kd nm:Int) (hk:-9223372036854775808<=kd/\kd<=9223372036854775807) (hm:-9223372036854775808<=nm/\nm<=9223372036854775807) (hp:pickV kd 4=0) (h2:s.e2=false) :
 Calls prog 27 #[.pointer (some ⟨q.kb,0,none⟩),.agg #[O I kd,O I nm]] u fun e w'=>e=.returned (.bool true)/\BrkE q w':=by
 have HPK:=zZ (fun w=>z0U kd 4 w (by omega) (by omega) hk);rw [hp] at HPK;have HPB:=zZ (fun w=>y1Y nm w hm);have HI:=zZ (h.box1 #[O I kd,O I nm] 75);have hM:=Bx.new u #[O I kd,O I nm] 75;have x0:=hM.cell 0;have z0:=HI.out.brk.cell 0;simp at x0 z0;have HM:=zZ hM;have hN3:q.N<=300:=h.fix.kp.nb;have hk5:=h.fix.cfg.c58;have hst:=h.stp;have HNF:Hid (¬ F u.heap.size):=fun hh=>absurd (h.line.line.lt _ hh) (Nat.lt_irrefl _)
 have HST:Hid (∀ u2 (k:Nat),BrkI q a F s cut steps wn u2->k<=4611686018427387904->Calls prog 51 #[.pointer (some ⟨q.l,0,none⟩),O I k] u2 fun e w'=>∃ t:Nat,e=.returned (.tuple #[O I t,O I 0])/\∃ a' F' s',(BrkI q a' F' s' cut steps wn w'/\s'.rem q.p+1<=s.rem q.p/\Edit F u2 w')):=fun u2 k hu hk=>y6L hu h2 k (by omega)
 have wst:IntKind.i64.wrap ((steps:Int)+1)=((steps+1:Nat):Int):=by rw [IntKind.wrap_i64];omega
 have HSP:=zZ hst;clear h hk hm hp h2 hM hst
 go_enter Tryz.func27,Tryz.ntmps27
 go_wp2_with (go_at_call 13;refine (HPK.out _).mono ?_;rintro e u1 ⟨rfl,hu⟩;subst u1;clear HPK)
 have hI1:BrkI q a F s cut steps wn (u.alloc (.cells #[O I kd,O I nm] 75)).drew:=HI.out.keep (z0t zX 1);have HI1:=zZ hI1;have hS0:(u.alloc (.cells #[O I kd,O I nm] 75)).drew.cell? ⟨q.kb,0,none⟩=some (.pointer (some ⟨q.l,0,none⟩))/\(u.alloc (.cells #[O I kd,O I nm] 75)).drew.cell? ⟨u.heap.size,1,none⟩=some (O I nm):=⟨hI1.brk.cell 0,HM.out.cell 1⟩;clear hI1 HI;refine wp_region_held_drew (S:=fun w'=>w'.cell? ⟨q.kb,0,none⟩=some (.pointer (some ⟨q.l,0,none⟩))/\w'.cell? ⟨u.heap.size,1,none⟩=some (O I nm)) (by kernel_rfl) hS0 (fun hHeld=>?_);refine tq (i:=0) rfl (by rfl) (by assumption) ?_;try simp only [q1,q2,q3,Act.put,q4,q5,q6]
 refine tq (i:=1) rfl (by rfl) (by assumption) ?_;try simp only [q1,q2,q3,Act.put,q4,q5,q6]
 refine tq (i:=2) rfl (by rfl) (by assumption) ?_;try simp only [q1,q2,q3,Act.put,q4,q5,q6]
 refine tq (i:=3) rfl (by rfl) (by assumption) ?_;try simp only [q1,q2,q3,Act.put,q4,q5,q6]
 refine tq (i:=4) rfl (by rfl) (by assumption) ?_;try simp only [q1,q2,q3,Act.put,q4,q5,q6]
 refine tq (i:=5) rfl (by rfl) (by assumption) ?_;try simp only [q1,q2,q3,Act.put,q4,q5,q6]
 refine wpAnyH_ready (rs:=[6]) (by kernel_rfl) (by simp) ?_;refine AllReadyH.cons rfl (fun K hK=>?_) (AllReadyH.nil)
 go_simp
 go_at_call 13
 refine (HPB.out _).mono ?_;rintro e u1 ⟨k,hkb,rfl,hu⟩;subst u1;have HS1:=zZ (HST.out _ k HI1.out hkb);clear HPB HST;go_wp2_with fail;refine hK.out _ _ hS0 (fun hHeld=>?_);clear hK K
 try simp only [q1,q2,q3,Act.put,q4,q5,q6]
 refine wpAnyH_ready (rs:=[7]) (by kernel_rfl) (by simp) ?_;refine AllReadyH.cons rfl (fun K hK=>?_) (AllReadyH.nil)
 go_simp
 go_at_call 51
 refine HS1.out.mono ?_;rintro e u2 ⟨t,rfl,a',F',s',hI,hr,hE⟩;have HI2:=zZ hI;have hS1:u2.cell? ⟨q.kb,0,none⟩=some (.pointer (some ⟨q.l,0,none⟩))/\u2.cell? ⟨u.heap.size,1,none⟩=some (O I nm):=⟨hI.brk.cell 0,(Bx.edit (w:=(u.alloc (.cells #[O I kd,O I nm] 75)).drew) HM.out hE HNF.out).cell 1⟩;have y14:=hI.brk.cell 14;have f14:=hI.brk.free 14;simp at y14;have HI3:=zZ (hI.put (cut':=cut) (steps':=steps+1) (wn':=wn) 14 (O I ((steps+1:Nat):Int)) (hI.brk.set 14 _) hI.wr hI.cutT hI.cutF (by have:=HSP.out;omega));clear hI hr hE HS1 hS0 HI1;go_wp2_with fail;refine hK.out _ _ hS1 (fun hHeld=>?_);clear hK K
 try simp only [q1,q2,q3,Act.put,q4,q5,q6]
 refine tq (i:=8) rfl (by rfl) (by assumption) ?_;try simp only [q1,q2,q3,Act.put,q4,q5,q6]
 refine tq (i:=9) rfl (by rfl) (by assumption) ?_;try simp only [q1,q2,q3,Act.put,q4,q5,q6]
 refine tq (i:=10) rfl (by rfl) (by assumption) ?_;try simp only [q1,q2,q3,Act.put,q4,q5,q6]
 refine tq (i:=11) rfl (by rfl) (by assumption) ?_;try simp only [q1,q2,q3,Act.put,q4,q5,q6]
 refine tq (i:=12) rfl (by rfl) (by assumption) ?_;try simp only [q1,q2,q3,Act.put,q4,q5,q6]
 refine wpAnyH_done (by kernel_rfl) ?_ _;go_wp2_with fail;go_ret;exact ⟨rfl,_,_,_,_,_,_,HI3.out⟩
set_option linter.unusedSimpArgs false in
set_option maxRecDepth 100000 in
set_option maxHeartbeats 4000000 in
theorem y5p (h:BrkI q a F s cut steps wn u) (kd nm:Int) (hk:-9223372036854775808<=kd/\kd<=9223372036854775807) (hm:-9223372036854775808<=nm/\nm<=9223372036854775807) (hp:pickV kd 4=0) (h2:s.e2=true) :
 Calls prog 27 #[.pointer (some ⟨q.kb,0,none⟩),.agg #[O I kd,O I nm]] u fun e w'=>e=.returned (.bool true)/\BrkE q w':=by
 have HPK:=zZ (fun w=>z0U kd 4 w (by omega) (by omega) hk);rw [hp] at HPK;have HPB:=zZ (fun w=>y1Y nm w hm);have HI:=zZ (h.box1 #[O I kd,O I nm] 75);have hM:=Bx.new u #[O I kd,O I nm] 75;have x0:=hM.cell 0;have z0:=HI.out.brk.cell 0;simp at x0 z0;have HM:=zZ hM;have HST:Hid (∀ u2 (k:Nat),BrkI q a F s cut steps wn u2->Calls prog 51 #[.pointer (some ⟨q.l,0,none⟩),O I k] u2 fun e w'=>e=.returned (.tuple #[O I 0,O I 9])/\Below u2.heap.size u2 w'):=fun u2 k hu=>z7m hu.line k h2
 have HLK0:=zZ (fun u (hu:BrkI q a F s cut steps wn u)=>z1X hu);have hc:=z8q h2;generalize lstN s=ln at *;have hc2:(ln == 0)=false:=by simpa using hc
 have hc4:(ln != 0)=true:=by simpa using hc
 clear h hk hm hp h2 hM
 go_enter Tryz.func27,Tryz.ntmps27
 go_wp2_with (go_at_call 13;refine (HPK.out _).mono ?_;rintro e u1 ⟨rfl,hu⟩;subst u1;clear HPK)
 have hI1:BrkI q a F s cut steps wn (u.alloc (.cells #[O I kd,O I nm] 75)).drew:=HI.out.keep (z0t zX 1);have HI1:=zZ hI1;have hS0:(u.alloc (.cells #[O I kd,O I nm] 75)).drew.cell? ⟨q.kb,0,none⟩=some (.pointer (some ⟨q.l,0,none⟩))/\(u.alloc (.cells #[O I kd,O I nm] 75)).drew.cell? ⟨u.heap.size,1,none⟩=some (O I nm):=⟨hI1.brk.cell 0,HM.out.cell 1⟩;clear hI1 HI;refine wp_region_held_drew (S:=fun w'=>w'.cell? ⟨q.kb,0,none⟩=some (.pointer (some ⟨q.l,0,none⟩))/\w'.cell? ⟨u.heap.size,1,none⟩=some (O I nm)) (by kernel_rfl) hS0 (fun hHeld=>?_);refine tq (i:=0) rfl (by rfl) (by assumption) ?_;try simp only [q1,q2,q3,Act.put,q4,q5,q6]
 refine tq (i:=1) rfl (by rfl) (by assumption) ?_;try simp only [q1,q2,q3,Act.put,q4,q5,q6]
 refine tq (i:=2) rfl (by rfl) (by assumption) ?_;try simp only [q1,q2,q3,Act.put,q4,q5,q6]
 refine tq (i:=3) rfl (by rfl) (by assumption) ?_;try simp only [q1,q2,q3,Act.put,q4,q5,q6]
 refine tq (i:=4) rfl (by rfl) (by assumption) ?_;try simp only [q1,q2,q3,Act.put,q4,q5,q6]
 refine tq (i:=5) rfl (by rfl) (by assumption) ?_;try simp only [q1,q2,q3,Act.put,q4,q5,q6]
 refine wpAnyH_ready (rs:=[6]) (by kernel_rfl) (by simp) ?_;refine AllReadyH.cons rfl (fun K hK=>?_) (AllReadyH.nil)
 go_simp
 go_at_call 13
 refine (HPB.out _).mono ?_;rintro e u1 ⟨k,hkb,rfl,hu⟩;subst u1;have HS1:=zZ (HST.out _ k HI1.out);clear HPB HST;go_wp2_with fail;refine hK.out _ _ hS0 (fun hHeld=>?_);clear hK K
 try simp only [q1,q2,q3,Act.put,q4,q5,q6]
 refine wpAnyH_ready (rs:=[7]) (by kernel_rfl) (by simp) ?_;refine AllReadyH.cons rfl (fun K hK=>?_) (AllReadyH.nil)
 go_simp
 go_at_call 51
 refine HS1.out.mono ?_;rintro e u2 ⟨rfl,hb⟩;have hI:=HI1.out.keep hb;have HI2:=zZ hI;have hS1:u2.cell? ⟨q.kb,0,none⟩=some (.pointer (some ⟨q.l,0,none⟩))/\u2.cell? ⟨u.heap.size,1,none⟩=some (O I nm):=⟨hI.brk.cell 0,(Bx.below (w:=(u.alloc (.cells #[O I kd,O I nm] 75)).drew) HM.out hb).cell 1⟩;have y0:=hI.brk.cell 0;simp at y0;have HLK:=zZ (HLK0.out u2 hI);clear hI hb HS1 hS0 HI1 HLK0;go_wp2_with fail;refine hK.out _ _ hS1 (fun hHeld=>?_);clear hK K
 try simp only [q1,q2,q3,Act.put,q4,q5,q6]
 refine tq (i:=8) rfl (by rfl) (by assumption) ?_;try simp only [q1,q2,q3,Act.put,q4,q5,q6]
 refine tq (i:=9) rfl (by rfl) (by assumption) ?_;try simp only [q1,q2,q3,Act.put,q4,q5,q6]
 refine tq (i:=10) rfl (by rfl) (by assumption) ?_;try simp only [q1,q2,q3,Act.put,q4,q5,q6]
 refine tq (i:=11) rfl (by rfl) (by assumption) ?_;try simp only [q1,q2,q3,Act.put,q4,q5,q6]
 refine tq (i:=12) rfl (by rfl) (by assumption) ?_;try simp only [q1,q2,q3,Act.put,q4,q5,q6]
 refine wpAnyH_done (by kernel_rfl) ?_ _
 go_wp2_with (first
  | (go_at_call 24;refine HLK.out.mono ?_;rintro e u3 ⟨A1,q1,A2,q2,A3,q3,rfl,hb⟩;have HZ:=zZ (z2g HI2.out hb #[O I ln,O I s.given,O I s.summed,O I s.wrote,O I s.writes,O I s.jobs.length,O I s.lane.length,O I s.ready.length,.slice A1 q.k5 q1,.slice A2 s.shelf.length q2,.slice A3 (s.ended q.p).length q3]);have v0:=HZ.out.2.cell 0;simp at v0;clear hb HI2 HLK)
  | (refine z0b rfl _ _ 64 rfl u3.heap.size 64 _ _ rfl rfl (Bx.new u3 #[O I 0,O I 0,O I 0,O I 0,O I 0,O I 0,O I 0,O I 0,.slice none 0 0,.slice none 0 0,.slice none 0 0] 64) z0D rfl rfl ?_))
 go_ret;exact ⟨rfl,_,_,_,_,_,_,HZ.out.1⟩
theorem y6M {q:Bpar} {u:World} (h:BrkE q u) (kd nm:Int) (hk:-9223372036854775808<=kd/\kd<=9223372036854775807) (hm:-9223372036854775808<=nm/\nm<=9223372036854775807) :
 Calls prog 27 #[.pointer (some ⟨q.kb,0,none⟩),.agg #[O I kd,O I nm]] u fun e w'=>e=.returned (.bool true)/\BrkE q w':=by
 obtain ⟨a,F,s,cut,steps,wn,h⟩:=h;have hlt:=z0F kd 4 (by omega)
 by_cases h0:pickV kd 4=0
 . cases h2:s.e2 with
   | false=>exact y5o h kd nm hk hm h0 h2
   | true=>exact y5p h kd nm hk hm h0 h2
 . by_cases h1:pickV kd 4=1
   . cases h2:s.e2 with
     | true=>exact z9Q h kd nm hk h1 (Or.inl h2)
     | false =>
      cases h3:s.stopped with
      | true=>exact z9Q h kd nm hk h1 (Or.inr h3)
      | false=>exact y0Z h kd nm hk h1 h2 h3
   . by_cases h4:pickV kd 4=2
     . exact y5m h kd nm hk h4
     . exact y5n h kd nm hk (by omega)
end
theorem y5q {q:Bpar} {a:Lad} {F:Nat->Prop} {s:Lst} {cut:Bool} {steps wn:Nat} {u:World} (h:BrkI q a F s cut steps wn u) (h2:s.e2=false) (k:Nat) (hk:(k:Int)<=9223372036854775807) :
 Calls prog 51 #[.pointer (some ⟨q.l,0,none⟩),O I k] u fun e w'=>∃ t:Nat,e=.returned (.tuple #[O I t,O I 0])/\∃ a' F' s',(BrkI q a' F' s' cut steps wn w'/\s'.rem q.p+1<=s.rem q.p/\Edit F u w'/\∀ k,F' k->F k∨u.heap.size<=k):=by
 refine (z9J h.line (h.fix.tf.below h.bel) k hk h2).mono ?_;rintro e w' ⟨rfl,c,a',F',hc,-,hO,hL,hE⟩;obtain ⟨-,-,ht,-⟩:=z5l (k:=k) (h.line.able_ne h2);have hr:=(y1K h.line.inv ht hc).1;have hf:=z9P h.line.inv ht hc;have hg:=z9C (p:=q.p) (s:=s) c;have hst:=h.stp;refine ⟨_,rfl,a',F',s.act q.p c,h.go hL hE (fun k hk=>(h.far k hk).1) (h.brk.edit hE fun hh=>(h.far _ hh).2 rfl) hO.2 (Nat.le_trans h.wr hg.2.2.1) (fun hc=>?_) (fun hc=>?_) (by omega),hr,hE,hO.2⟩
 . obtain ⟨h1,h3⟩:=h.cutT hc
   exact ⟨(hf.1 h1).1,(hf.1 h1).2.trans h3⟩
 . cases h1:s.stopped with
   | false=>exact hf.2 h1
   | true =>
    rw [(hf.1 h1).1,(hf.1 h1).2,← h.cutF hc,h1]
structure EndI (q:Bpar) (vb:Nat) (a:Lad) (F:Nat->Prop) (s:Lst) (cut:Bool) (steps wn:Nat) (ds:Array Value) (u:World):Prop where
 brk:BrkI q a F s cut steps wn u
 view:Bx u vb 64 ds
 size:ds.size=11
 st:ds[0]?=some (O I (lstN s))
 far:∀ k,F k->k ≠ vb
 kb:q.kb < vb
 l:q.l < vb
theorem EndI.put {q:Bpar} {vb:Nat} {a:Lad} {F:Nat->Prop} {s:Lst} {cut:Bool} {steps wn:Nat} {ds es:Array Value} {u:World} (hI:BrkI q a F s cut steps wn u) (hF:∀ k,F k->k ≠ vb) (hk:q.kb < vb) (hl:q.l < vb) (hv:Bx u vb 64 ds) (hs:es.size=11) (hn:es[0]?=some (O I (lstN s))):EndI q vb a F s cut steps wn es (u.setRow vb es):=by
 have he:Edit (·=vb) u (u.setRow vb es):=⟨rfl,rfl,rfl,by simp,fun k hk hS=>setRow_other _ _ _ _ hS⟩;have hb:=hI.fix.kb;exact ⟨hI.go ⟨hI.line.line.keep (fun k hk=>setRow_other _ _ _ _ (hF k hk)) (by simp),hI.line.inv,hI.line.ptr.other (by omega) _,hI.line.far⟩ he (fun k hk=>by omega) (hI.brk.other (by omega) _) (fun k hk=>Or.inl hk) hI.wr hI.cutT hI.cutF hI.stp,hv.row _,hs,hn,hF,hk,hl⟩
def y1a (q:Bpar) (w:World):Nat:=match w.cell? ⟨q.kb,14,none⟩ with
 | some (.int _ z)=>z.toNat
 | _=>0
theorem BrkI.steps {q:Bpar} {a:Lad} {F:Nat->Prop} {s:Lst} {cut:Bool} {steps wn:Nat} {u:World} (h:BrkI q a F s cut steps wn u):y1a q u=steps:=by
 unfold y1a;rw [h.brk.cell 14];simp
set_option linter.unusedSimpArgs false in
set_option maxRecDepth 100000 in
set_option maxHeartbeats 4000000 in
theorem y6N {q:Bpar} {a:Lad} {F:Nat->Prop} {s:Lst} {cut:Bool} {steps wn:Nat} {u:World} (h:BrkI q a F s cut steps wn u) :
 Calls prog 28 #[.pointer (some ⟨q.kb,0,none⟩)] u fun e w'=>e=.returned (.bool true)/\∃ a' F' s' steps' wn',BrkI q a' F' s' cut steps' wn' w'/\s'.e2=true:=by
 have hN3:q.N<=300:=h.fix.kp.nb;have hk5:=h.fix.cfg.c58;have w1:IntKind.i64.wrap (((q.N+1:Nat):Int) - 1)=(q.N:Int):=by rw [IntKind.wrap_i64];omega
 have w2:IntKind.i64.wrap ((q.N:Int)+1 - 1)=(q.N:Int):=by rw [IntKind.wrap_i64];omega
 have w3:IntKind.i64.wrap (q.N:Int)=(q.N:Int):=by rw [IntKind.wrap_i64];omega
 have hI0:BrkI q a F s cut steps wn u.drew:=h.keep (z0t zX 1);have HI0:=zZ hI0;have HAL:=zZ (y8d q.ch q.d q.B q.k3 q.k4 q.k6 q.k7 q.k5 q.N u.drew hk5 hN3);have hS0:Bx u.drew q.kb 72 #[.pointer (some ⟨q.l,0,none⟩),O I q.ch,O I q.d,O I q.B,O I q.k3,O I q.k4,O I q.k5,O I q.k6,O I q.k7,.slice (some ⟨q.gx,0,none⟩) q.ch q.cx,.string q.tx,.slice (some ⟨q.ga,0,none⟩) (q.N+1) q.ca,O I q.fail,.bool cut,O I (steps:Nat),O I (wn:Nat)]/\u.drew.cell? ⟨q.kb,11,none⟩=some (.slice (some ⟨q.ga,0,none⟩) (q.N+1) q.ca):=⟨hI0.brk,hI0.brk.cell 11⟩;clear hI0 h
 go_enter Tryz.func28,Tryz.ntmps28
 go_wp2_with fail;refine wp_region_held_drew (S:=fun w'=>Bx w' q.kb 72 #[.pointer (some ⟨q.l,0,none⟩),O I q.ch,O I q.d,O I q.B,O I q.k3,O I q.k4,O I q.k5,O I q.k6,O I q.k7,.slice (some ⟨q.gx,0,none⟩) q.ch q.cx,.string q.tx,.slice (some ⟨q.ga,0,none⟩) (q.N+1) q.ca,O I q.fail,.bool cut,O I (steps:Nat),O I (wn:Nat)]/\w'.cell? ⟨q.kb,11,none⟩=some (.slice (some ⟨q.ga,0,none⟩) (q.N+1) q.ca)) (by kernel_rfl) hS0 (fun hHeld=>?_);refine tq (i:=0) rfl (by rfl) (by assumption) ?_;try simp only [q1,q2,q3,Act.put,q4,q5,q6]
 refine tq (i:=1) rfl (by rfl) (by assumption) ?_;try simp only [q1,q2,q3,Act.put,q4,q5,q6]
 refine tq (i:=2) rfl (by rfl) (by assumption) ?_;try simp only [q1,q2,q3,Act.put,q4,q5,q6]
 refine tk (i:=3) (v:=?_) rfl (fun _ _ _ h=>h) (Or.inl ⟨by rfl,?_⟩) (by assumption) ?_;rotate_left
 . (intro wx hSw;refine z4U (Operand.tmp 9) 23 ?_ q.kb 1 [O I q.ch,O I q.d,O I q.B,O I q.k3,O I q.k4,O I q.k5,O I q.k6,O I q.k7] _ ?_ (y5l hSw.1) Tryz.underlying23 rfl z1h <;> rfl)
 try simp only [q1,q2,q3,Act.put,q4,q5,q6]
 refine tq (i:=4) rfl (by rfl) (by assumption) ?_;try simp only [q1,q2,q3,Act.put,q4,q5,q6]
 refine tq (i:=5) rfl (by rfl) (by assumption) ?_;try simp only [q1,q2,q3,Act.put,q4,q5,q6]
 refine tq (i:=6) rfl (by rfl) (by assumption) ?_;try simp only [q1,q2,q3,Act.put,q4,q5,q6]
 refine tq (i:=7) rfl (by rfl) (by assumption) ?_;try simp only [q1,q2,q3,Act.put,q4,q5,q6]
 refine tq (i:=8) rfl (by rfl) (by assumption) ?_;try simp only [q1,q2,q3,Act.put,q4,q5,q6]
 refine tq (i:=9) rfl (by rfl) (by assumption) ?_;try simp only [q1,q2,q3,Act.put,q4,q5,q6]
 refine wpAnyH_ready (rs:=[10]) (by kernel_rfl) (by simp) ?_;refine AllReadyH.cons rfl (fun K hK=>?_) (AllReadyH.nil)
 go_simp
 go_at_call 23
 refine HAL.out.mono ?_;rintro e wa ⟨rfl,hb⟩;have hI1:=HI0.out.keep hb;have HI1:=zZ hI1;have hS1:Bx wa q.kb 72 #[.pointer (some ⟨q.l,0,none⟩),O I q.ch,O I q.d,O I q.B,O I q.k3,O I q.k4,O I q.k5,O I q.k6,O I q.k7,.slice (some ⟨q.gx,0,none⟩) q.ch q.cx,.string q.tx,.slice (some ⟨q.ga,0,none⟩) (q.N+1) q.ca,O I q.fail,.bool cut,O I (steps:Nat),O I (wn:Nat)]/\wa.cell? ⟨q.kb,11,none⟩=some (.slice (some ⟨q.ga,0,none⟩) (q.N+1) q.ca):=⟨hI1.brk,hI1.brk.cell 11⟩;have z0:=hI1.brk.cell 0;simp at z0;have HLK:=zZ (z1X hI1);clear hb hI1 HAL HI0 hS0;obtain ⟨M,hM⟩:∃ M,M=6 * q.N+q.k5+4:=⟨_,rfl⟩;have hMb:M<=2000:=by omega
 have HM:=zZ hM;rw [← hM];clear hM;go_wp2_with fail;refine hK.out _ _ hS1 (fun hHeld=>?_);clear hK K
 try simp only [q1,q2,q3,Act.put,q4,q5,q6]
 refine tq (i:=11) rfl (by rfl) (by assumption) ?_;try simp only [q1,q2,q3,Act.put,q4,q5,q6]
 refine wpAnyH_done (by kernel_rfl) ?_ _;clear hS1
 go_wp2_with (first
  | (go_at_call 24;refine HLK.out.mono ?_;rintro e wb ⟨A1,q1,A2,q2,A3,q3,rfl,hb⟩;have HE0:Hid (EndI q wb.heap.size a F s cut steps wn #[O I (lstN s),O I s.given,O I s.summed,O I s.wrote,O I s.writes,O I s.jobs.length,O I s.lane.length,O I s.ready.length,.slice A1 q.k5 q1,.slice A2 s.shelf.length q2,.slice A3 (s.ended q.p).length q3] ((wb.alloc (.cells #[O I 0,O I 0,O I 0,O I 0,O I 0,O I 0,O I 0,O I 0,.slice none 0 0,.slice none 0 0,.slice none 0 0] 64)).setRow wb.heap.size #[O I (lstN s),O I s.given,O I s.summed,O I s.wrote,O I s.writes,O I s.jobs.length,O I s.lane.length,O I s.ready.length,.slice A1 q.k5 q1,.slice A2 s.shelf.length q2,.slice A3 (s.ended q.p).length q3])):=(by have hz:=z2g HI1.out hb #[O I (lstN s),O I s.given,O I s.summed,O I s.wrote,O I s.writes,O I s.jobs.length,O I s.lane.length,O I s.ready.length,.slice A1 q.k5 q1,.slice A2 s.shelf.length q2,.slice A3 (s.ended q.p).length q3];have hb2:=hb.size;have hlt:=HI1.out.line.line.lt;have hk:=HI1.out.brk.lt;have hl:=HI1.out.line.ptr.lt;exact ⟨hz.1,hz.2,rfl,rfl,fun k hk=>by have:=hlt k hk;omega,by omega,by omega⟩);clear hb HI1 HLK)
  | (refine z0b rfl _ _ 64 rfl wb.heap.size 64 _ _ rfl rfl (Bx.new wb #[O I 0,O I 0,O I 0,O I 0,O I 0,O I 0,O I 0,O I 0,.slice none 0 0,.slice none 0 0,.slice none 0 0] 64) z0D rfl rfl ?_))
 dsimp only [Act.put]
 go_loopw [5] (fun s5 wr=>True/\Hid (∃ a F s steps wn ds,EndI q wb.heap.size a F s cut steps wn ds wr)) (fun _ wr=>M - y1a q wr)
 case atStart=>exact ⟨trivial,_,_,_,_,_,_,HE0.out⟩
 case round =>
  obtain ⟨-,HH⟩:=hrel;obtain ⟨a1,F1,s1,st1,wn1,ds,hE⟩:=HH.out;have hse:=hE.brk.steps;have hst:=hE.brk.stp;rw [← HM.out] at hst;have v0:=(hE.view.cell 0).trans hE.st;clear HH HE0;cases h2:s1.e2 with
  | true =>
   have hln:=z8q h2;generalize lstN s1=ln at *;have hc2:(ln == 0)=false:=by simpa using hln
   have y14:=hE.brk.brk.cell 14;simp at y14;have i1:(st1:Int)<=(M:Int):=by omega
   have i2:st1<=M:=by omega
   have HB:=zZ hE.brk;have H2:=zZ h2;clear hE h2;go_wp2_with fail;go_ret;exact ⟨rfl,a1,F1,s1,st1,wn1,HB.out,H2.out⟩
  | false =>
   rw [y0Y h2] at v0;have hrem:1<=s1.rem q.p:=by
    by_cases h9:s1.rem q.p=0
    . exact absurd (hE.brk.line.inv.rem1 h9) (by rw [h2];decide)
    . omega
   have hI0:BrkI q a1 F1 s1 cut st1 wn1 wr.drew:=hE.brk.keep (z0t zX 1);have hS2:wr.drew.cell? ⟨q.kb,0,none⟩=some (.pointer (some ⟨q.l,0,none⟩))/\wr.drew.cell? ⟨q.kb,14,none⟩=some (O I st1):=⟨hI0.brk.cell 0,hI0.brk.cell 14⟩;have HST:=zZ (y5q hI0 h2 st1 (by omega));have HEE:=zZ hE;have HRM:=zZ (And.intro hrem hst);have wst:IntKind.i64.wrap ((st1:Int)+1)=((st1+1:Nat):Int):=by rw [IntKind.wrap_i64];omega
   have i1:¬ ((M:Int) < ((st1+1:Nat):Int)):=by omega
   have i2:¬ (M < st1+1):=by omega
   have i3:¬ ((M:Int) < (st1:Int)+1):=by omega
   clear hE hI0 h2 hrem hst;go_wp2_with fail;refine wp_region_held_drew (S:=fun w'=>w'.cell? ⟨q.kb,0,none⟩=some (.pointer (some ⟨q.l,0,none⟩))/\w'.cell? ⟨q.kb,14,none⟩=some (O I st1)) (by kernel_rfl) hS2 (fun hHeld=>?_);refine tq (i:=0) rfl (by rfl) (by assumption) ?_;try simp only [q1,q2,q3,Act.put,q4,q5,q6]
   refine tq (i:=1) rfl (by rfl) (by assumption) ?_;try simp only [q1,q2,q3,Act.put,q4,q5,q6]
   refine tq (i:=2) rfl (by rfl) (by assumption) ?_;try simp only [q1,q2,q3,Act.put,q4,q5,q6]
   refine tq (i:=3) rfl (by rfl) (by assumption) ?_;try simp only [q1,q2,q3,Act.put,q4,q5,q6]
   refine tq (i:=4) rfl (by rfl) (by assumption) ?_;try simp only [q1,q2,q3,Act.put,q4,q5,q6]
   refine tq (i:=5) rfl (by rfl) (by assumption) ?_;try simp only [q1,q2,q3,Act.put,q4,q5,q6]
   refine tq (i:=6) rfl (by rfl) (by assumption) ?_;try simp only [q1,q2,q3,Act.put,q4,q5,q6]
   refine tq (i:=7) rfl (by rfl) (by assumption) ?_;try simp only [q1,q2,q3,Act.put,q4,q5,q6]
   refine wpAnyH_ready (rs:=[8]) (by kernel_rfl) (by simp) ?_;refine AllReadyH.cons rfl (fun K hK=>?_) (AllReadyH.nil)
   go_simp
   go_at_call 51
   refine HST.out.mono ?_;rintro e wc ⟨t,rfl,a2,F2,s2,hI,hr,hEd,hO⟩;have hS3:wc.cell? ⟨q.kb,0,none⟩=some (.pointer (some ⟨q.l,0,none⟩))/\wc.cell? ⟨q.kb,14,none⟩=some (O I st1):=⟨hI.brk.cell 0,hI.brk.cell 14⟩;have y14:=hI.brk.cell 14;have f14:=hI.brk.free 14;simp at y14;have hI3:=hI.put (cut':=cut) (steps':=st1+1) (wn':=wn1) 14 (O I ((st1+1:Nat):Int)) (hI.brk.set 14 _) hI.wr hI.cutT hI.cutF (by have:=HRM.out;have:=HM.out;omega);have HI3:=zZ hI3;have z0:=hI3.brk.cell 0;have z14:=hI3.brk.cell 14;simp at z0 z14;have HFV:Hid (∀ k,F2 k->k ≠ wb.heap.size):=fun k hk=>by
    have h7:=HEE.out.view.lt;rcases hO k hk with h8 | h8
    . exact HEE.out.far k h8
    . have h8:wr.heap.size<=k:=h8
      omega
   have HV3:Hid (Bx (wc.setCell ⟨q.kb,14,none⟩ (O I ((st1+1:Nat):Int))) wb.heap.size 64 ds):=(Bx.edit (w:=wr.drew) HEE.out.view hEd (fun hh=>HEE.out.far _ hh rfl)).past (by have:=HEE.out.kb;omega) _ _;have HLK:=zZ (z1X hI3);clear hI hr hEd hO hI3 HST hS2;go_wp2_with fail;refine hK.out _ _ hS3 (fun hHeld=>?_);clear hK K
   try simp only [q1,q2,q3,Act.put,q4,q5,q6]
   refine tq (i:=9) rfl (by rfl) (by assumption) ?_;try simp only [q1,q2,q3,Act.put,q4,q5,q6]
   refine tq (i:=10) rfl (by rfl) (by assumption) ?_;try simp only [q1,q2,q3,Act.put,q4,q5,q6]
   refine tq (i:=11) rfl (by rfl) (by assumption) ?_;try simp only [q1,q2,q3,Act.put,q4,q5,q6]
   refine tq (i:=12) rfl (by rfl) (by assumption) ?_;try simp only [q1,q2,q3,Act.put,q4,q5,q6]
   refine tq (i:=13) rfl (by rfl) (by assumption) ?_;try simp only [q1,q2,q3,Act.put,q4,q5,q6]
   refine wpAnyH_done (by kernel_rfl) ?_ _;clear hS3
   go_wp2_with (first
    | (go_at_call 24;refine HLK.out.mono ?_;rintro e wd ⟨B1,r1,B2,r2,B3,r3,rfl,hb⟩;have HV4:=zZ (HV3.out.below hb);have HE4:Hid (EndI q wb.heap.size a2 F2 s2 cut (st1+1) wn1 #[O I (lstN s2),O I s2.given,O I s2.summed,O I s2.wrote,O I s2.writes,O I s2.jobs.length,O I s2.lane.length,O I s2.ready.length,.slice B1 q.k5 r1,.slice B2 s2.shelf.length r2,.slice B3 (s2.ended q.p).length r3] (wd.setRow wb.heap.size #[O I (lstN s2),O I s2.given,O I s2.summed,O I s2.wrote,O I s2.writes,O I s2.jobs.length,O I s2.lane.length,O I s2.ready.length,.slice B1 q.k5 r1,.slice B2 s2.shelf.length r2,.slice B3 (s2.ended q.p).length r3])):=EndI.put (HI3.out.keep hb) HFV.out HEE.out.kb HEE.out.l HV4.out rfl rfl;clear hb HLK HV3)
    | (refine z0b rfl _ _ 64 rfl wb.heap.size 64 _ _ rfl rfl HV4.out z0D HEE.out.size rfl ?_))
   dsimp only [Act.put]
   go_roundw
   case rel=>exact ⟨trivial,_,_,_,_,_,_,HE4.out⟩
   case measure =>
    have e1:=HE4.out.brk.steps;have:=HRM.out;rw [e1,hse];omega
end Go.Proofs.YtlncjgnomhpjnabGreatDoor
