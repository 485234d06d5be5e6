import Derived.Test.YtlncjgnomhpjnabGreatDoorQC51
import Derived.Test.YtlncjgnomhpjnabGreatDoorQC0
namespace Go.Proofs.YtlncjgnomhpjnabGreatDoor
open Go.Value renaming int → O
open Go.IntKind renaming i64 → I
open Go.Proofs.Tryz (prog)
open Go.RowKit Go.Deep
set_option linter.unusedVariables false
theorem y6I (q:Bpar) {k:Nat} (hk:k<=q.N):(bs (cutX q.d q.ch q.B q.k3 q.k4 q.G q.S k)).extract (q.at 0) (q.at k)=q.tx.extract (q.at 0) (q.at k):=by
 unfold Bpar.tx;rw [z3a,z3a];have e0:q.at 0=22+2 * nPts q.S q.B q.k4:=rfl;have e1:q.at k - q.at 0=(frsT q.d q.ch q.G q.S q.B k).length:=by rw [e0];unfold Bpar.at Bpar.hs;omega
 have d1:(cutX q.d q.ch q.B q.k3 q.k4 q.G q.S k).drop (q.at 0)=frsT q.d q.ch q.G q.S q.B k:=by
  rw [e0,← z4m q.d q.ch q.B q.k3 q.k4 q.S];exact List.drop_left
 have d2:(z0B q.d q.ch q.B q.k3 q.k4 q.G q.S).drop (q.at 0)=frsT q.d q.ch q.G q.S q.B q.N:=by
  rw [e0,← z8k q.d q.ch q.B q.k3 q.k4 q.S q.G];exact List.drop_left
 obtain ⟨Z,hZ⟩:=z4G q.d q.ch q.G q.S q.B k (q.N - k);rw [show k+(q.N - k)=q.N by omega] at hZ;rw [d1,d2,e1,hZ,List.take_length,List.take_left]
theorem y8f {d n B c3 c4 S k:Nat} {F:Nat->Nat->Int} (h:KP d n B c3 c4 S F) (h0:2 < (bs (cutX d n B c3 c4 F S k)).size):((bs (cutX d n B c3 c4 F S k))[2]'h0).toNat=0:=by
 have hw:=(z2E h k).wh;rw [z2J];have hl:2 < (cutX d n B c3 c4 F S k).length:=by rw [z0e] at h0;exact h0
 generalize cutX d n B c3 c4 F S k=T at *;unfold dWh fld z0d at hw;rw [show 3 - 2=1 by omega,List.drop_eq_getElem_cons hl] at hw;have hw:256 * 0+(T[2]).toNat=0:=hw;omega
theorem z4U {P:Program} {w:World} {o:Oper} {a:Act} (p:Operand) (t:TypeId) (ho:o.op=.load t p) (g off:Nat) (cs:List Value) (d:TypeDesc) (hp:a.eval p=.pointer (some ⟨g,off,none⟩)) (hc:w.rangeAt g off cs) (hu:P.underlying t=some d)
 (hd:d.isRow=true) (hi:(P.info? t).map (·.size)=some cs.length):(execOp a.eval o).run P w=.ok (.value (.agg cs.toArray)) w:=by
 unfold execOp;simp only [ho,hp,Instr.loadAt,Instr.sureAddr,Sem.run_bind,Sem.run_pure,Result.andThen_ok,run_loadVar_mid w g off t cs d hc hu hd hi]
theorem y5l {q:Bpar} {cut:Bool} {steps wn:Nat} {u:World} (h:Bx u q.kb 72 #[.pointer (some ⟨q.l,0,none⟩),O I q.ch,O I q.d,O I q.B,O I q.k3,O I q.k4,O I q.k5,O I q.k6,O I q.k7,.slice (some ⟨q.gx,0,none⟩) q.ch q.cx,.string q.tx,.slice (some ⟨q.ga,0,none⟩) (q.N+1) q.ca,O I q.fail,.bool cut,O I (steps:Nat),O I (wn:Nat)]):u.rangeAt q.kb 1 [O I q.ch,O I q.d,O I q.B,O I q.k3,O I q.k4,O I q.k5,O I q.k6,O I q.k7]:=by
 have:=World.rangeAt_of_block h 1 8
 simpa using this
structure InfoB (u v:World) (ds:Array Value):Prop where
 one:Below u.heap.size u ((v.alloc (.cells #[O I 0,O I 0,O I 0,O I 0,O I 0,O I 0] 39)).setRow v.heap.size ds)
 two:Bx ((v.alloc (.cells #[O I 0,O I 0,O I 0,O I 0,O I 0,O I 0] 39)).setRow v.heap.size ds) v.heap.size 39 ds
 three:Below v.heap.size v ((v.alloc (.cells #[O I 0,O I 0,O I 0,O I 0,O I 0,O I 0] 39)).setRow v.heap.size ds)
theorem z7n {u v:World} (hb:Below u.heap.size u v) (ds:Array Value):InfoB u v ds:=by
 have e1:Edit (fun _=>False) v ((v.alloc (.cells #[O I 0,O I 0,O I 0,O I 0,O I 0,O I 0] 39)).setRow v.heap.size ds):=((Edit.refl _ v).alloc _).row zY _;have e2:Below v.heap.size v ((v.alloc (.cells #[O I 0,O I 0,O I 0,O I 0,O I 0,O I 0] 39)).setRow v.heap.size ds):=e1.below zY fun k hk=>hk.elim
 exact ⟨hb.trans (e2.mono hb.size),(Bx.new v _ _).row _,e2⟩
set_option linter.unusedSimpArgs false in
set_option maxRecDepth 100000 in
set_option maxHeartbeats 4000000 in
theorem y6J {q:Bpar} {a:Lad} {F:Nat->Prop} {s:Lst} {cut:Bool} {steps wn:Nat} {u:World} (h:BrkI q a F s cut steps wn u) (hl:¬ lstN s=1) (h2:s.hd=1) :
 Calls prog 29 #[.pointer (some ⟨q.kb,0,none⟩)] u fun e w'=>e=.returned (.bool true)/\∃ wn',BrkI q a F s cut steps wn' w'/\Edit (·=q.kb) u w':=by
 have hwn:=h.wr;have hwN:s.wrote<=q.N:=Nat.le_trans h.line.inv.wrote h.line.inv.given;have HBY:=zZ (y5i h h2);have HLK0:=zZ (fun u (hu:BrkI q a F s cut steps wn u)=>z1X hu);have HI:=zZ h;have x0:=h.brk.cell 0;simp at x0;obtain ⟨ln,hln⟩:∃ ln,ln=lstN s:=⟨_,rfl⟩;rw [← hln] at HLK0 hl;have hl2:(ln == 1)=false:=by simpa using hl
 have hsz:(bs (cutX q.d q.ch q.B q.k3 q.k4 q.G q.S s.wrote)).size=q.at s.wrote:=by rw [z0e,z8m];rfl
 obtain ⟨tb,htb⟩:∃ tb,tb=bs (cutX q.d q.ch q.B q.k3 q.k4 q.G q.S s.wrote):=⟨_,rfl⟩;rw [← htb] at HBY hsz;have hte:tb.toList.isEmpty=false:=by
  rw [htb];rw [y1I];exact decide_eq_false (by rw [z8m];omega)
 have HTB:=zZ htb;have i1:¬ ((s.wrote:Int) < (wn:Int)):=by omega
 have i2:¬ (((q.N:Int)+1)<=(s.wrote:Int)):=by omega
 have i3:¬ (s.wrote < wn):=by omega
 have i4:¬ (q.N+1<=s.wrote):=by omega
 have hle1:q.at 0<=q.at s.wrote:=by
  unfold Bpar.at;have:=z8n q.d q.ch q.G q.S q.B 0 s.wrote;rw [Nat.zero_add] at this;omega
 have htx:q.tx.size=q.at q.N:=by
  unfold Bpar.tx;rw [z0e,z2a h.fix.kp]
  rfl
 have hle2:q.at s.wrote<=q.at q.N:=by
  unfold Bpar.at;have:=z8n q.d q.ch q.G q.S q.B s.wrote (q.N - s.wrote);rw [show s.wrote+(q.N - s.wrote)=q.N by omega] at this;omega
 have hsh:q.at q.N<=9000:=by
  have:=z3g h.fix.kp;rw [z2a h.fix.kp] at this;exact this
 have h22:22<=q.at 0:=by unfold Bpar.at Bpar.hs;omega
 have hext:tb.extract (q.at 0) (q.at s.wrote)=q.tx.extract (q.at 0) (q.at s.wrote):=by
  rw [htb];exact y6I q hwN
 have hsz2:2 < tb.size:=by omega
 have hb2:∀ h0:2 < tb.size,(tb[2]'h0).toNat=0:=fun h0=>by
  subst htb;exact y8f h.fix.kp h0
 have i7:(2:Int) < (tb.size:Int):=by omega
 have i8:2 < q.at s.wrote:=by omega
 have i9:(2:Int) < (q.at s.wrote:Int):=by omega
 have i5:(q.at 0:Int)<=(q.at s.wrote:Int):=by omega
 have i6:(q.at s.wrote:Int)<=(q.at q.N:Int):=by omega
 clear h h2 hln htb;generalize hH0:q.at 0=H0 at *;generalize hH1:q.at s.wrote=H1 at *;have HH0:=zZ hH0;have HH1:=zZ hH1;clear hH0 hH1;generalize q.at q.N=H2 at *
 go_enter Tryz.func29,Tryz.ntmps29
 go_wp2_with (first
  | (go_at_call 25;refine HBY.out.mono ?_;rintro e u1 ⟨rfl,hb⟩;have HI1:=zZ (HI.out.keep hb);have HB1:=zZ hb;have z0:=HI1.out.brk.cell 0;simp at z0;have HLK:=zZ (HLK0.out u1 HI1.out);clear hb HI HBY HLK0)
  | (go_at_call 24;refine HLK.out.mono ?_;rintro e u2 ⟨A1,q1,A2,q2,A3,q3,rfl,hb⟩;have HZ:=zZ (z2g HI1.out hb #[O I ln,O I s.given,O I s.summed,O I s.wrote,O I s.writes,O I s.jobs.length,O I s.lane.length,O I s.ready.length,.slice A1 q.k5 q1,.slice A2 s.shelf.length q2,.slice A3 (s.ended q.p).length q3]);have HB2:=zZ (HB1.out.trans ((z4O hb #[O I ln,O I s.given,O I s.summed,O I s.wrote,O I s.writes,O I s.jobs.length,O I s.lane.length,O I s.ready.length,.slice A1 q.k5 q1,.slice A2 s.shelf.length q2,.slice A3 (s.ended q.p).length q3]).mono HB1.out.size));have v0:=HZ.out.2.cell 0;have v3:=HZ.out.2.cell 3;have y15:=HZ.out.1.brk.cell 15;have f15:=HZ.out.1.brk.free 15;have y11:=HZ.out.1.brk.cell 11;simp at v0 v3 y15 y11;have HI3:=zZ (HZ.out.1.put (cut':=cut) (steps':=steps) (wn':=s.wrote) 15 (O I s.wrote) (HZ.out.1.brk.set 15 (O I s.wrote)) zY HZ.out.1.cutT HZ.out.1.cutF HZ.out.1.stp);have z11:=HI3.out.brk.cell 11;have z10:=HI3.out.brk.cell 10;have p0:=HI3.out.place (Nat.zero_le _);have pn:=HI3.out.place hwN;rw [HH0.out] at p0;rw [HH1.out] at pn;simp at z11 z10;clear hb HI1 HLK)
  | (refine z0b rfl _ _ 64 rfl u2.heap.size 64 _ _ rfl rfl (Bx.new u2 #[O I 0,O I 0,O I 0,O I 0,O I 0,O I 0,O I 0,O I 0,.slice none 0 0,.slice none 0 0,.slice none 0 0] 64) z0D rfl rfl ?_))
 go_quiet (fail)
 have HI4:=zZ (HI3.out.keep (z0t zX nq));have HE4:Hid (Edit (·=q.kb) u ((((u2.alloc (.cells #[O I 0,O I 0,O I 0,O I 0,O I 0,O I 0,O I 0,O I 0,.slice none 0 0,.slice none 0 0,.slice none 0 0] 64)).setRow u2.heap.size #[O I ln,O I s.given,O I s.summed,O I s.wrote,O I s.writes,O I s.jobs.length,O I s.lane.length,O I s.ready.length,.slice A1 q.k5 q1,.slice A2 s.shelf.length q2,.slice A3 (s.ended q.p).length q3]).setCell ⟨q.kb,15,none⟩ (O I s.wrote)).drewN nq)):=((Edit.of HB2.out).trans (Edit.one _ q.kb 15 _)).drewN nq;have HSA:Hid (Calls prog 57 #[.string tb] ((((u2.alloc (.cells #[O I 0,O I 0,O I 0,O I 0,O I 0,O I 0,O I 0,O I 0,.slice none 0 0,.slice none 0 0,.slice none 0 0] 64)).setRow u2.heap.size #[O I ln,O I s.given,O I s.summed,O I s.wrote,O I s.writes,O I s.jobs.length,O I s.lane.length,O I s.ready.length,.slice A1 q.k5 q1,.slice A2 s.shelf.length q2,.slice A3 (s.ended q.p).length q3]).setCell ⟨q.kb,15,none⟩ (O I s.wrote)).drewN nq) fun e u'=>∃ gl,e=.returned (.tuple #[.agg #[O I q.ch,O I q.d,O I q.B,O I q.k3,O I q.k4,O I q.S],.slice (some ⟨gl,0,none⟩) q.ch q.ch,O I 0])/\ViewL u' (.slice (some ⟨gl,0,none⟩) q.ch q.ch) q.ch (min (s.wrote * q.B) q.S) q.G/\Below ((((u2.alloc (.cells #[O I 0,O I 0,O I 0,O I 0,O I 0,O I 0,O I 0,O I 0,.slice none 0 0,.slice none 0 0,.slice none 0 0] 64)).setRow u2.heap.size #[O I ln,O I s.given,O I s.summed,O I s.wrote,O I s.writes,O I s.jobs.length,O I s.lane.length,O I s.ready.length,.slice A1 q.k5 q1,.slice A2 s.shelf.length q2,.slice A3 (s.ended q.p).length q3]).setCell ⟨q.kb,15,none⟩ (O I s.wrote)).drewN nq).heap.size ((((u2.alloc (.cells #[O I 0,O I 0,O I 0,O I 0,O I 0,O I 0,O I 0,O I 0,.slice none 0 0,.slice none 0 0,.slice none 0 0] 64)).setRow u2.heap.size #[O I ln,O I s.given,O I s.summed,O I s.wrote,O I s.writes,O I s.jobs.length,O I s.lane.length,O I s.ready.length,.slice A1 q.k5 q1,.slice A2 s.shelf.length q2,.slice A3 (s.ended q.p).length q3]).setCell ⟨q.kb,15,none⟩ (O I s.wrote)).drewN nq) u'):=by
  have:=y8c ((((u2.alloc (.cells #[O I 0,O I 0,O I 0,O I 0,O I 0,O I 0,O I 0,O I 0,.slice none 0 0,.slice none 0 0,.slice none 0 0] 64)).setRow u2.heap.size #[O I ln,O I s.given,O I s.summed,O I s.wrote,O I s.writes,O I s.jobs.length,O I s.lane.length,O I s.ready.length,.slice A1 q.k5 q1,.slice A2 s.shelf.length q2,.slice A3 (s.ended q.p).length q3]).setCell ⟨q.kb,15,none⟩ (O I s.wrote)).drewN nq) HI4.out.fix.kp hwN (HI4.out.fix.tu.below HI4.out.bel);rw [← HTB.out] at this;exact this
 clear HZ HI3 HB2 v0 v3 y15 f15 y11 z11 z10 p0 pn hext hb2 HH0 HH1
 go_wp2_with (first
  | (go_at_call 57;refine HSA.out.mono ?_;rintro e u5 ⟨gl,rfl,hv,hb⟩;have e5:=z7n hb #[O I q.ch,O I q.d,O I q.B,O I q.k3,O I q.k4,O I q.S];have HI5:=zZ (HI4.out.keep e5.one);have HN5:=zZ e5.two;have HE5:=zZ (HE4.out.trans (Edit.of e5.one));have HV5:=zZ (hv.below e5.three);have HDE:Hid (Calls prog 17 #[.string tb] ((u5.alloc (.cells #[O I 0,O I 0,O I 0,O I 0,O I 0,O I 0] 39)).setRow u5.heap.size #[O I q.ch,O I q.d,O I q.B,O I q.k3,O I q.k4,O I q.S]) fun e u'=>e=.returned (.tuple #[.agg #[O I 0,O I 0,O I 0,O I 0,O I 0,O I 0],.slice none 0 0,O I 7])/\Below (Go.World.heap ((u5.alloc (.cells #[O I 0,O I 0,O I 0,O I 0,O I 0,O I 0] 39)).setRow u5.heap.size #[O I q.ch,O I q.d,O I q.B,O I q.k3,O I q.k4,O I q.S])).size ((u5.alloc (.cells #[O I 0,O I 0,O I 0,O I 0,O I 0,O I 0] 39)).setRow u5.heap.size #[O I q.ch,O I q.d,O I q.B,O I q.k3,O I q.k4,O I q.S]) u'):=(by have:=y2Q ((u5.alloc (.cells #[O I 0,O I 0,O I 0,O I 0,O I 0,O I 0] 39)).setRow u5.heap.size #[O I q.ch,O I q.d,O I q.B,O I q.k3,O I q.k4,O I q.S]) HI5.out.fix.kp hwN (HI5.out.fix.tu.below HI5.out.bel);rw [← HTB.out] at this;exact this);clear hv hb e5 HSA HI4 HE4)
  | (refine z0b rfl _ _ 39 rfl u5.heap.size 39 _ _ rfl rfl (Bx.new u5 #[O I 0,O I 0,O I 0,O I 0,O I 0,O I 0] 39) z1t rfl rfl ?_)
  | (go_at_call 17;refine HDE.out.mono ?_;rintro e u6 ⟨rfl,hb⟩;have e6:=z7n hb #[O I 0,O I 0,O I 0,O I 0,O I 0,O I 0];have HI6:=zZ (HI5.out.keep e6.one);have HN6:=zZ (HN5.out.below e6.one);have HE6:=zZ (HE5.out.trans (Edit.of e6.one));have HV6:=zZ (HV5.out.below e6.one);clear hb e6 HDE HI5 HE5 HV5 HN5)
  | (refine z0b rfl _ _ 39 rfl u6.heap.size 39 _ _ rfl rfl (Bx.new u6 #[O I 0,O I 0,O I 0,O I 0,O I 0,O I 0] 39) z1t rfl rfl ?_))
 obtain ⟨nb,hnb⟩:∃ nb,nb=s.wrote * q.B:=⟨_,rfl⟩;have hnb2:nb<=100000:=by
  have h1:=HI6.out.fix.cfg.B32;have h2:q.N<=300:=HI6.out.fix.kp.nb;rw [hnb];exact Nat.le_trans (Nat.mul_le_mul (Nat.le_trans hwN h2) h1) (by omega)
 have wm:IntKind.i64.wrap ((s.wrote:Int) * (q.B:Int))=(nb:Int):=by
  have e3:(s.wrote:Int) * (q.B:Int)=(nb:Int):=by rw [hnb];simp
  rw [IntKind.wrap_i64,e3];omega
 rw [← hnb] at HV6;clear hnb;have hI7:BrkI q a F s cut steps s.wrote (((u6.alloc (.cells #[O I 0,O I 0,O I 0,O I 0,O I 0,O I 0] 39)).setRow u6.heap.size #[O I 0,O I 0,O I 0,O I 0,O I 0,O I 0]).drew):=HI6.out.keep (z0t zX 1);have HI7:=zZ hI7;have HTL:Hid (Calls prog 31 #[.agg #[O I q.ch,O I q.d,O I q.B,O I q.k3,O I q.k4,O I q.S],.agg #[O I q.ch,O I q.d,O I q.B,O I q.k3,O I q.k4,O I q.k5,O I q.k6,O I q.k7],.slice (some ⟨q.gx,0,none⟩) q.ch q.cx] (((u6.alloc (.cells #[O I 0,O I 0,O I 0,O I 0,O I 0,O I 0] 39)).setRow u6.heap.size #[O I 0,O I 0,O I 0,O I 0,O I 0,O I 0]).drew) fun e w'=>e=.returned (.bool true)/\Below (Go.World.heap (((u6.alloc (.cells #[O I 0,O I 0,O I 0,O I 0,O I 0,O I 0] 39)).setRow u6.heap.size #[O I 0,O I 0,O I 0,O I 0,O I 0,O I 0]).drew)).size (((u6.alloc (.cells #[O I 0,O I 0,O I 0,O I 0,O I 0,O I 0] 39)).setRow u6.heap.size #[O I 0,O I 0,O I 0,O I 0,O I 0,O I 0]).drew) w'):=y4Z q.ch q.d q.B q.k3 q.k4 q.S q.k5 q.k6 q.k7 _ q.ch q.S q.G _ hI7.fix.cfg.ch1 rfl (hI7.acc.view hI7.fix.cfg.ch1);have hS0:Bx (((u6.alloc (.cells #[O I 0,O I 0,O I 0,O I 0,O I 0,O I 0] 39)).setRow u6.heap.size #[O I 0,O I 0,O I 0,O I 0,O I 0,O I 0]).drew) u5.heap.size 39 #[O I q.ch,O I q.d,O I q.B,O I q.k3,O I q.k4,O I q.S]/\Bx (((u6.alloc (.cells #[O I 0,O I 0,O I 0,O I 0,O I 0,O I 0] 39)).setRow u6.heap.size #[O I 0,O I 0,O I 0,O I 0,O I 0,O I 0]).drew) q.kb 72 #[.pointer (some ⟨q.l,0,none⟩),O I q.ch,O I q.d,O I q.B,O I q.k3,O I q.k4,O I q.k5,O I q.k6,O I q.k7,.slice (some ⟨q.gx,0,none⟩) q.ch q.cx,.string q.tx,.slice (some ⟨q.ga,0,none⟩) (q.N+1) q.ca,O I q.fail,.bool cut,O I (steps:Nat),O I s.wrote]/\(((u6.alloc (.cells #[O I 0,O I 0,O I 0,O I 0,O I 0,O I 0] 39)).setRow u6.heap.size #[O I 0,O I 0,O I 0,O I 0,O I 0,O I 0]).drew).cell? ⟨q.kb,9,none⟩=some (.slice (some ⟨q.gx,0,none⟩) q.ch q.cx):=⟨HN6.out,hI7.brk,hI7.brk.cell 9⟩;clear hI7 HI6;refine wp_region_held_drew (S:=fun w'=>Bx w' u5.heap.size 39 #[O I q.ch,O I q.d,O I q.B,O I q.k3,O I q.k4,O I q.S]/\Bx w' q.kb 72 #[.pointer (some ⟨q.l,0,none⟩),O I q.ch,O I q.d,O I q.B,O I q.k3,O I q.k4,O I q.k5,O I q.k6,O I q.k7,.slice (some ⟨q.gx,0,none⟩) q.ch q.cx,.string q.tx,.slice (some ⟨q.ga,0,none⟩) (q.N+1) q.ca,O I q.fail,.bool cut,O I (steps:Nat),O I s.wrote]/\w'.cell? ⟨q.kb,9,none⟩=some (.slice (some ⟨q.gx,0,none⟩) q.ch q.cx)) (by kernel_rfl) hS0 (fun hHeld=>?_);refine tk (i:=0) (v:=?_) rfl (fun _ _ _ h=>h) (Or.inl ⟨by rfl,?_⟩) (by assumption) ?_;rotate_left
 . (intro wx hSw;refine z9O (Operand.tmp 7) 39 ?_ u5.heap.size 39 #[O I q.ch,O I q.d,O I q.B,O I q.k3,O I q.k4,O I q.S] (0,0) _ ?_ hSw.1 Tryz.underlying39 rfl z1t <;> rfl)
 try simp only [q1,q2,q3,Act.put,q4,q5,q6]
 refine tq (i:=1) rfl (by rfl) (by assumption) ?_;try simp only [q1,q2,q3,Act.put,q4,q5,q6]
 refine tq (i:=2) rfl (by rfl) (by assumption) ?_;try simp only [q1,q2,q3,Act.put,q4,q5,q6]
 refine tq (i:=3) rfl (by rfl) (by assumption) ?_;try simp only [q1,q2,q3,Act.put,q4,q5,q6]
 refine tk (i:=4) (v:=?_) rfl (fun _ _ _ h=>h) (Or.inl ⟨by rfl,?_⟩) (by assumption) ?_;rotate_left
 . (intro wx hSw;refine z4U (Operand.tmp 122) 23 ?_ q.kb 1 [O I q.ch,O I q.d,O I q.B,O I q.k3,O I q.k4,O I q.k5,O I q.k6,O I q.k7] _ ?_ (y5l hSw.2.1) Tryz.underlying23 rfl z1h <;> rfl)
 try simp only [q1,q2,q3,Act.put,q4,q5,q6]
 refine tq (i:=5) rfl (by rfl) (by assumption) ?_;try simp only [q1,q2,q3,Act.put,q4,q5,q6]
 refine tq (i:=6) rfl (by rfl) (by assumption) ?_;try simp only [q1,q2,q3,Act.put,q4,q5,q6]
 refine tq (i:=7) rfl (by rfl) (by assumption) ?_;try simp only [q1,q2,q3,Act.put,q4,q5,q6]
 refine tq (i:=8) rfl (by rfl) (by assumption) ?_;try simp only [q1,q2,q3,Act.put,q4,q5,q6]
 refine wpAnyH_ready (rs:=[9]) (by kernel_rfl) (by simp) ?_;refine AllReadyH.cons rfl (fun K hK=>?_) (AllReadyH.nil)
 go_simp
 go_at_call 31
 refine HTL.out.mono ?_;rintro e u7 ⟨rfl,hb⟩;have hI8:=HI7.out.keep hb;have HI8:=zZ hI8;have hS1:Bx u7 u5.heap.size 39 #[O I q.ch,O I q.d,O I q.B,O I q.k3,O I q.k4,O I q.S]/\Bx u7 q.kb 72 #[.pointer (some ⟨q.l,0,none⟩),O I q.ch,O I q.d,O I q.B,O I q.k3,O I q.k4,O I q.k5,O I q.k6,O I q.k7,.slice (some ⟨q.gx,0,none⟩) q.ch q.cx,.string q.tx,.slice (some ⟨q.ga,0,none⟩) (q.N+1) q.ca,O I q.fail,.bool cut,O I (steps:Nat),O I s.wrote]/\u7.cell? ⟨q.kb,9,none⟩=some (.slice (some ⟨q.gx,0,none⟩) q.ch q.cx):=⟨Bx.below (w:=((u6.alloc (.cells #[O I 0,O I 0,O I 0,O I 0,O I 0,O I 0] 39)).setRow u6.heap.size #[O I 0,O I 0,O I 0,O I 0,O I 0,O I 0]).drew) HN6.out hb,hI8.brk,hI8.brk.cell 9⟩;have HE8:Hid (Edit (·=q.kb) u u7):=(HE6.out.drewN 1).trans (Edit.of hb);have HV8:=zZ (ViewL.below (u:=((u6.alloc (.cells #[O I 0,O I 0,O I 0,O I 0,O I 0,O I 0] 39)).setRow u6.heap.size #[O I 0,O I 0,O I 0,O I 0,O I 0,O I 0]).drew) HV6.out hb);clear hb hI8 HTL hS0 HI7 HE6 HV6 HN6;go_wp2_with fail;refine hK.out _ _ hS1 (fun hHeld=>?_);clear hK K
 try simp only [q1,q2,q3,Act.put,q4,q5,q6]
 refine tq (i:=10) rfl (by rfl) (by assumption) ?_;try simp only [q1,q2,q3,Act.put,q4,q5,q6]
 refine wpAnyH_done (by kernel_rfl) ?_ _;go_wp2_with fail;have hI9:BrkI q a F s cut steps s.wrote u7.drew:=HI8.out.keep (z0t zX 1);have HPT:Hid (Calls prog 16 #[.slice (some ⟨q.gx,0,none⟩) q.ch q.cx,O I 0,O I nb] u7.drew fun e w'=>∃ g2 c2,e=.returned (.slice (some ⟨g2,0,none⟩) q.ch c2)/\ViewL w' (.slice (some ⟨g2,0,none⟩) q.ch c2) q.ch (min nb q.S) q.G/\Below u7.drew.heap.size u7.drew w'):=by
  have h1:=y1U 0 (.slice (some ⟨q.gx,0,none⟩) q.ch q.cx) q.S q.ch 0 nb q.gs q.G u7.drew hI9.fix.cfg.ch1 hI9.fix.cfg.ch4 hI9.fix.kp.S3 (by omega) hnb2 hI9.acc;refine h1.mono ?_;rintro e w' ⟨lv2,gs2,G2,rfl,ha,hg,hb⟩;rw [Nat.zero_min,Nat.sub_zero] at ha hg;obtain ⟨g2,c2,rfl,-⟩:=ha.open hI9.fix.cfg.ch1;exact ⟨g2,c2,rfl,(ha.view hI9.fix.cfg.ch1).ext fun i hi j hj=>by rw [hg i hi j hj,Nat.zero_add],hb⟩
 have HI9:=zZ hI9;have HSM:Hid (∀ u v v',ViewL u v q.ch (min nb q.S) q.G->ViewL u v' q.ch (min nb q.S) q.G->Calls prog 15 #[v,v'] u fun e w'=>e=.returned (.bool true)/\Below u.heap.size u w'):=fun u v v' h1 h2=>z9L v v' q.ch (min nb q.S) q.G u (by have:=hI9.fix.cfg.ch4;omega) (by have:=hI9.fix.kp.S3;omega) h1 h2
 have hS2:u7.drew.cell? ⟨q.kb,9,none⟩=some (.slice (some ⟨q.gx,0,none⟩) q.ch q.cx)/\u7.drew.cell? ⟨q.kb,3,none⟩=some (O I q.B):=⟨hI9.brk.cell 9,hI9.brk.cell 3⟩;clear hI9 HI8 hS1;refine wp_region_held_drew (S:=fun w'=>w'.cell? ⟨q.kb,9,none⟩=some (.slice (some ⟨q.gx,0,none⟩) q.ch q.cx)/\w'.cell? ⟨q.kb,3,none⟩=some (O I q.B)) (by kernel_rfl) hS2 (fun hHeld=>?_);refine tq (i:=0) rfl (by rfl) (by assumption) ?_;try simp only [q1,q2,q3,Act.put,q4,q5,q6]
 refine tq (i:=1) rfl (by rfl) (by assumption) ?_;try simp only [q1,q2,q3,Act.put,q4,q5,q6]
 refine tq (i:=2) rfl (by rfl) (by assumption) ?_;try simp only [q1,q2,q3,Act.put,q4,q5,q6]
 refine tq (i:=3) rfl (by rfl) (by assumption) ?_;try simp only [q1,q2,q3,Act.put,q4,q5,q6]
 refine tq (i:=4) rfl (by rfl) (by assumption) ?_;try simp only [q1,q2,q3,Act.put,q4,q5,q6]
 refine tq (i:=5) rfl (by rfl) (by assumption) ?_;try simp only [q1,q2,q3,Act.put,q4,q5,q6]
 refine tq (i:=6) rfl (by rfl) (by assumption) ?_;try simp only [q1,q2,q3,Act.put,q4,q5,q6]
 refine tq (i:=7) rfl (by rfl) (by assumption) ?_;try simp only [q1,q2,q3,Act.put,q4,q5,q6]
 refine tq (i:=8) rfl (by rfl) (by assumption) ?_;try simp only [q1,q2,q3,Act.put,q4,q5,q6]
 refine tq (i:=9) rfl (by rfl) (by assumption) ?_;try simp only [q1,q2,q3,Act.put,q4,q5,q6]
 refine tq (i:=10) rfl (by rfl) (by assumption) ?_;try simp only [q1,q2,q3,Act.put,q4,q5,q6]
 refine tq (i:=12) rfl (by rfl) (by assumption) ?_;try simp only [q1,q2,q3,Act.put,q4,q5,q6]
 refine wpAnyH_ready (rs:=[11]) (by kernel_rfl) (by simp) ?_;refine AllReadyH.cons rfl (fun K hK=>?_) (AllReadyH.nil)
 go_simp
 go_at_call 16
 refine HPT.out.mono ?_;rintro e u8 ⟨g2,c2,rfl,hv,hb⟩;have hI10:=HI9.out.keep hb;have HI10:=zZ hI10;have hS3:u8.cell? ⟨q.kb,9,none⟩=some (.slice (some ⟨q.gx,0,none⟩) q.ch q.cx)/\u8.cell? ⟨q.kb,3,none⟩=some (O I q.B):=⟨hI10.brk.cell 9,hI10.brk.cell 3⟩;have HE10:Hid (Edit (·=q.kb) u u8):=(HE8.out.drewN 1).trans (Edit.of hb);have HSA2:=zZ (HSM.out u8 _ _ hv (ViewL.below (u:=u7.drew) HV8.out hb));clear hb hv hI10 hS2 HI9 HPT HV8 HE8 HSM;go_wp2_with fail;refine hK.out _ _ hS3 (fun hHeld=>?_);clear hK K
 try simp only [q1,q2,q3,Act.put,q4,q5,q6]
 refine wpAnyH_ready (rs:=[13]) (by kernel_rfl) (by simp) ?_;refine AllReadyH.cons rfl (fun K hK=>?_) (AllReadyH.nil)
 go_simp
 go_at_call 15
 refine HSA2.out.mono ?_;rintro e u9 ⟨rfl,hb⟩;have hI11:=HI10.out.keep hb;have HI11:=zZ hI11;have hS4:u9.cell? ⟨q.kb,9,none⟩=some (.slice (some ⟨q.gx,0,none⟩) q.ch q.cx)/\u9.cell? ⟨q.kb,3,none⟩=some (O I q.B):=⟨hI11.brk.cell 9,hI11.brk.cell 3⟩;have HE11:Hid (Edit (·=q.kb) u u9):=HE10.out.trans (Edit.of hb);clear hb hI11 HI10 HE10 HSA2 hS3;go_wp2_with fail;refine hK.out _ _ hS4 (fun hHeld=>?_);clear hK K
 try simp only [q1,q2,q3,Act.put,q4,q5,q6]
 refine tq (i:=14) rfl (by rfl) (by assumption) ?_;try simp only [q1,q2,q3,Act.put,q4,q5,q6]
 refine wpAnyH_done (by kernel_rfl) ?_ _;go_wp2_with fail;go_ret;exact ⟨rfl,s.wrote,HI11.out,HE11.out⟩
theorem z9P {p:Lpar} {s:Lst} (h:LInv p s) {t:Nat} {c:LAct} (ht:t < 3+p.W) (hn:s.next p t=some c):(s.stopped=true->(s.act p c).stopped=true/\(s.act p c).failed=s.failed)/\(s.stopped=false->(s.act p c).stopped=(s.act p c).failed):=by
 have hsf:s.stopped=false->s.failed=false:=fun h1=>by
  cases h2:s.failed with
  | false=>rfl
  | true=>exact absurd (h.fail h2) (by rw [h1];decide)
 have head:∀ (s':Lst) (k:Nat),s'.stopped=s.stopped->s'.failed=s.failed->(s.stopped=true->(s'.head p k).stopped=true/\(s'.head p k).failed=s.failed)/\(s.stopped=false->(s'.head p k).stopped=(s'.head p k).failed):=fun s' k h1 h2=>by
  unfold Lst.head;refine ⟨fun h3=>?_,fun h3=>?_⟩
  . rw [h1,h3,if_pos rfl]
    exact ⟨h1.trans h3,h2⟩
  . rw [h1,h3,if_neg (by decide)]
    split
    . rename_i h4
      exact h4.symm
    . rename_i h4
      have h5:(s'.tries p).failed=false:=by cases h6:(s'.tries p).failed with | false=>rfl | true=>exact absurd h6 h4
      show s'.stopped=(s'.tries p).failed
      rw [h5,h1,h3]
 match t,ht,hn with
 | 0,ht,hn =>
  obtain ⟨-,⟨rfl,-⟩ | ⟨rfl,-⟩⟩:=next0 hn
  . exact ⟨fun h1=>⟨h1,rfl⟩,fun h1=>h1.trans (hsf h1).symm⟩
  . exact ⟨fun h1=>⟨h1,rfl⟩,fun h1=>h1.trans (hsf h1).symm⟩
 | 1,ht,hn =>
  obtain ⟨-,rfl,-⟩:=next1 hn;unfold Lst.act;cases s.lane with
  | nil=>exact ⟨fun h1=>⟨h1,rfl⟩,fun h1=>h1.trans (hsf h1).symm⟩
  | cons _ _=>exact ⟨fun h1=>⟨h1,rfl⟩,fun h1=>h1.trans (hsf h1).symm⟩
 | 2,ht,hn =>
  obtain ⟨-,⟨rfl,-⟩ | ⟨-,⟨rfl,hsh⟩ | ⟨rfl,-⟩⟩⟩:=next2 hn
  . exact head _ 1 rfl rfl
  . refine ⟨fun h1=>?_,fun h1=>?_⟩
    . rw [h.stop h1] at hsh
      cases hsh
    . show (Lst.frame p _).stopped=(Lst.frame p _).failed
      unfold Lst.frame;split
      . rename_i h4
        exact h4.symm
      . rename_i h4
        have h5:(Lst.tries p { s with shelf:=s.shelf.tail }).failed=false:=by cases h6:(Lst.tries p { s with shelf:=s.shelf.tail }).failed with | false=>rfl | true=>exact absurd h6 h4
        show s.stopped=(Lst.tries p { s with shelf:=s.shelf.tail }).failed
        rw [h5,h1]
  . show (s.stopped=true->(s.act p .shelve).stopped=true/\(s.act p .shelve).failed=s.failed)/\(s.stopped=false->(s.act p .shelve).stopped=(s.act p .shelve).failed)
    unfold Lst.act;cases s.ready with
    | nil=>exact head _ 2 rfl rfl
    | cons _ _ =>
     dsimp only;split
     . exact ⟨fun h1=>⟨h1,rfl⟩,fun h1=>h1.trans (hsf h1).symm⟩
     . exact ⟨fun h1=>⟨h1,rfl⟩,fun h1=>h1.trans (hsf h1).symm⟩
 | j+3,ht,hn =>
  obtain ⟨-,⟨rfl,-⟩ | ⟨k,hk,⟨rfl,-⟩ | ⟨rfl,-⟩⟩⟩:=next3 hn
  . unfold Lst.act
    cases s.jobs with
    | nil=>exact ⟨fun h1=>⟨h1,rfl⟩,fun h1=>h1.trans (hsf h1).symm⟩
    | cons _ _=>exact ⟨fun h1=>⟨h1,rfl⟩,fun h1=>h1.trans (hsf h1).symm⟩
  . exact ⟨fun h1=>⟨h1,rfl⟩,fun h1=>h1.trans (hsf h1).symm⟩
  . unfold Lst.act
    dsimp only;rw [hk];exact ⟨fun h1=>⟨h1,rfl⟩,fun h1=>h1.trans (hsf h1).symm⟩
theorem y6K {p:Lpar} (s:Lst):s.halt.rem p<=s.rem p:=by
 unfold Lst.halt Lst.rem Lst.heldL Lst.opened;simp only [List.length_nil];omega
section
variable {q:Bpar} {a:Lad} {F:Nat->Prop} {s:Lst} {cut:Bool} {steps wn:Nat} {u:World}
theorem y6L (h:BrkI q a F s cut steps wn u) (h2:s.e2=false) (k:Nat) (hk:(k:Int)<=9223372036854775807) :
 Calls prog 51 #[.pointer (some ⟨q.l,0,none⟩),O I k] u fun e w'=>∃ t:Nat,e=.returned (.tuple #[O I t,O I 0])/\∃ a' F' s',(BrkI q a' F' s' cut steps wn w'/\s'.rem q.p+1<=s.rem q.p/\Edit F u w'):=by
 refine (z9J h.line (h.fix.tf.below h.bel) k hk h2).mono ?_;rintro e w' ⟨rfl,c,a',F',hc,-,hO,hL,hE⟩;obtain ⟨-,-,ht,-⟩:=z5l (k:=k) (h.line.able_ne h2);have hr:=(y1K h.line.inv ht hc).1;have hf:=z9P h.line.inv ht hc;have hg:=z9C (p:=q.p) (s:=s) c;have hst:=h.stp;refine ⟨_,rfl,a',F',s.act q.p c,h.go hL hE (fun k hk=>(h.far k hk).1) (h.brk.edit hE fun hh=>(h.far _ hh).2 rfl) hO.2 (Nat.le_trans h.wr hg.2.2.1) (fun hc=>?_) (fun hc=>?_) (by omega),hr,hE⟩
 . obtain ⟨h1,h3⟩:=h.cutT hc
   exact ⟨(hf.1 h1).1,(hf.1 h1).2.trans h3⟩
 . cases h1:s.stopped with
   | false=>exact hf.2 h1
   | true =>
    rw [(hf.1 h1).1,(hf.1 h1).2,← h.cutF hc,h1]
theorem y1X (h:BrkI q a F s cut steps wn u) :
 Calls prog 29 #[.pointer (some ⟨q.kb,0,none⟩)] u fun e w'=>e=.returned (.bool true)/\∃ wn',BrkI q a F s cut steps wn' w':=by
 rcases y2X h.line.inv with ⟨h1,h2,h3⟩ | ⟨h1,⟨h2,h3⟩ | h2⟩
 . exact (y5j h h1 h2 h3).mono (by rintro e w' ⟨rfl,wn',hI,-⟩;exact ⟨rfl,wn',hI⟩)
 . exact (y5k h h1 h2 h3).mono (by rintro e w' ⟨rfl,wn',hI,-⟩;exact ⟨rfl,wn',hI⟩)
 . exact (y6J h h1 h2).mono (by rintro e w' ⟨rfl,wn',hI,-⟩;exact ⟨rfl,wn',hI⟩)
end
end Go.Proofs.YtlncjgnomhpjnabGreatDoor
