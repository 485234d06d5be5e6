import Derived.Test.YtlncjgnomhpjnabGreatDoorQC51
import Derived.Test.YtlncjgnomhpjnabGreatDoorQC0
namespace Go.Proofs.YtlncjgnomhpjnabGreatDoor
open Go.Value renaming int → O
open Go.IntKind renaming i64 → I
open Go.Proofs.Tryz (prog)
open Go.RowKit Go.Deep
set_option linter.unusedVariables false
theorem y6I (q:Bpar) {k:Nat} (hk:k<=q.N):(bs (cutX q.d q.ch q.B q.k3 q.k4 q.G q.S k)).extract (q.at 0) (q.at k)=q.tx.extract (q.at 0) (q.at k):=by
 unfold Bpar.tx;rw [z3a,z3a];have e0:q.at 0=22+2 * nPts q.S q.B q.k4:=rfl;have e1:q.at k - q.at 0=(frsT q.d q.ch q.G q.S q.B k).length:=by rw [e0];unfold Bpar.at Bpar.hs;omega
 have d1:(cutX q.d q.ch q.B q.k3 q.k4 q.G q.S k).drop (q.at 0)=frsT q.d q.ch q.G q.S q.B k:=by
  rw [e0,← z4m q.d q.ch q.B q.k3 q.k4 q.S];exact List.drop_left
 have d2:(z0B q.d q.ch q.B q.k3 q.k4 q.G q.S).drop (q.at 0)=frsT q.d q.ch q.G q.S q.B q.N:=by
  rw [e0,← z8k q.d q.ch q.B q.k3 q.k4 q.S q.G];exact List.drop_left
 obtain ⟨Z,hZ⟩:=z4G q.d q.ch q.G q.S q.B k (q.N - k);rw [show k+(q.N - k)=q.N by omega] at hZ;rw [d1,d2,e1,hZ,List.take_length,List.take_left]
theorem y8f {d n B c3 c4 S k:Nat} {F:Nat->Nat->Int} (h:KP d n B c3 c4 S F) (h0:2 < (bs (cutX d n B c3 c4 F S k)).size):((bs (cutX d n B c3 c4 F S k))[2]'h0).toNat=0:=by
 have hw:=(z2E h k).wh;rw [z2J];have hl:2 < (cutX d n B c3 c4 F S k).length:=by rw [z0e] at h0;exact h0
 generalize cutX d n B c3 c4 F S k=T at *;unfold dWh fld z0d at hw;rw [show 3 - 2=1 by omega,List.drop_eq_getElem_cons hl] at hw;have hw:256 * 0+(T[2]).toNat=0:=hw;omega
theorem z4U {P:Program} {w:World} {o:Oper} {a:Act} (p:Operand) (t:TypeId) (ho:o.op=.load t p) (g off:Nat) (cs:List Value) (d:TypeDesc) (hp:a.eval p=.pointer (some ⟨g,off,none⟩)) (hc:w.rangeAt g off cs) (hu:P.underlying t=some d)
 (hd:d.isRow=true) (hi:(P.info? t).map (·.size)=some cs.length):(execOp a.eval o).run P w=.ok (.value (.agg cs.toArray)) w:=by
 unfold execOp;simp only [ho,hp,Instr.loadAt,Instr.sureAddr,Sem.run_bind,Sem.run_pure,Result.andThen_ok,run_loadVar_mid w g off t cs d hc hu hd hi]
theorem y5l {q:Bpar} {cut:Bool} {steps wn:Nat} {u:World} (h:Bx u q.kb 72 #[.pointer (some ⟨q.l,0,none⟩),O I q.ch,O I q.d,O I q.B,O I q.k3,O I q.k4,O I q.k5,O I q.k6,O I q.k7,.slice (some ⟨q.gx,0,none⟩) q.ch q.cx,.string q.tx,.slice (some ⟨q.ga,0,none⟩) (q.N+1) q.ca,O I q.fail,.bool cut,O I (steps:Nat),O I (wn:Nat)]):u.rangeAt q.kb 1 [O I q.ch,O I q.d,O I q.B,O I q.k3,O I q.k4,O I q.k5,O I q.k6,O I q.k7]:=by
 have:=World.rangeAt_of_block h 1 8
 simpa using this
structure InfoB (u v:World) (ds:Array Value):Prop where
 one:Below u.heap.size u ((v.alloc (.cells #[O I 0,O I 0,O I 0,O I 0,O I 0,O I 0] 39)).setRow v.heap.size ds)
 two:Bx ((v.alloc (.cells #[O I 0,O I 0,O I 0,O I 0,O I 0,O I 0] 39)).setRow v.heap.size ds) v.heap.size 39 ds
 three:Below v.heap.size v ((v.alloc (.cells #[O I 0,O I 0,O I 0,O I 0,O I 0,O I 0] 39)).setRow v.heap.size ds)
theorem z7n {u v:World} (hb:Below u.heap.size u v) (ds:Array Value):InfoB u v ds:=by
 have e1:Edit (fun _=>False) v ((v.alloc (.cells #[O I 0,O I 0,O I 0,O I 0,O I 0,O I 0] 39)).setRow v.heap.size ds):=((Edit.refl _ v).alloc _).row zY _;have e2:Below v.heap.size v ((v.alloc (.cells #[O I 0,O I 0,O I 0,O I 0,O I 0,O I 0] 39)).setRow v.heap.size ds):=e1.below zY fun k hk=>hk.elim
 exact ⟨hb.trans (e2.mono hb.size),(Bx.new v _ _).row _,e2⟩
set_option linter.unusedSimpArgs false in
set_option maxRecDepth 100000 in
set_option maxHeartbeats 4000000 in
theorem y6J {q:Bpar} {a:Lad} {F:Nat->Prop} {s:Lst} {cut:Bool} {steps wn:Nat} {u:World} (h:BrkI q a F s cut steps wn u) (hl:¬ lstN s=1) (h2:s.hd=1) :
 Calls prog 29 #[.pointer (some ⟨q.kb,0,none⟩)] u fun e w'=>e=.returned (.bool true)/\∃ wn',BrkI q a F s cut steps wn' w'/\Edit (·=q.kb) u w':=by
 have hwn:=h.wr;have hwN:s.wrote<=q.N:=Nat.le_trans h.line.inv.wrote h.line.inv.given;have HBY:=zZ (y5i h h2);have HLK0:=zZ (fun u (hu:BrkI q a F s cut steps wn u)=>z1X hu);have HI:=zZ h;have x0:=h.brk.cell 0;simp at x0;obtain ⟨ln,hln⟩:∃ ln,ln=lstN s:=⟨_,rfl⟩;rw [← hln] at HLK0 hl;have hl2:(ln == 1)=false:=by simpa using hl
 have hsz:(bs (cutX q.d q.ch q.B q.k3 q.k4 q.G q.S s.wrote)).size=q.at s.wrote:=by rw [z0e,z8m];rfl
 obtain ⟨tb,htb⟩:∃ tb,tb=bs (cutX q.d q.ch q.B q.k3 q.k4 q.G q.S s.wrote):=⟨_,rfl⟩;rw [← htb] at HBY hsz;have hte:tb.toList.isEmpty=false:=by
  rw [htb];rw [y1I];exact decide_eq_false (by rw [z8m];omega)
 have HTB:=zZ htb;have i1:¬ ((s.wrote:Int) < (wn:Int)):=by omega
 have i2:¬ (((q.N:Int)+1)<=(s.wrote:Int)):=by omega
 have i3:¬ (s.wrote < wn):=by omega
 have i4:¬ (q.N+1<=s.wrote):=by omega
 have hle1:q.at 0<=q.at s.wrote:=by
  unfold Bpar.at;have:=z8n q.d q.ch q.G q.S q.B 0 s.wrote;rw [Nat.zero_add] at this;omega
 have htx:q.tx.size=q.at q.N:=by
  unfold Bpar.tx;rw [z0e,z2a h.fix.kp]
  rfl
 have hle2:q.at s.wrote<=q.at q.N:=by
  unfold Bpar.at;have:=z8n q.d q.ch q.G q.S q.B s.wrote (q.N - s.wrote);rw [show s.wrote+(q.N - s.wrote)=q.N by omega] at this;omega
 have hsh:q.at q.N<=9000:=by
  have:=z3g h.fix.kp;rw [z2a h.fix.kp] at this;exact this
 have h22:22<=q.at 0:=by unfold Bpar.at Bpar.hs;omega
 have hext:tb.extract (q.at 0) (q.at s.wrote)=q.tx.extract (q.at 0) (q.at s.wrote):=by
  rw [htb];exact y6I q hwN
 have hsz2:2 < tb.size:=by omega
 have hb2:∀ h0:2 < tb.size,(tb[2]'h0).toNat=0:=fun h0=>by
  subst htb;exact y8f h.fix.kp h0
 have i7:(2:Int) < (tb.size:Int):=by omega
 have i8:2 < q.at s.wrote:=by omega
 have i9:(2:Int) < (q.at s.wrote:Int):=by omega
 have i5:(q.at 0:Int)<=(q.at s.wrote:Int):=by omega
 have i6:(q.at s.wrote:Int)<=(q.at q.N:Int):=by omega
 clear h h2 hln htb;generalize hH0:q.at 0=H0 at *;generalize hH1:q.at s.wrote=H1 at *;have HH0:=zZ hH0;have HH1:=zZ hH1;clear hH0 hH1;generalize q.at q.N=H2 at *
 go_enter Tryz.func29,Tryz.ntmps29
 go_wp2_with (first
  | (go_at_call 25;refine HBY.out.mono ?_;rintro e u1 ⟨rfl,hb⟩;have HI1:=zZ (HI.out.keep hb);have HB1:=zZ hb;have z0:=HI1.out.brk.cell 0;simp at z0;have HLK:=zZ (HLK0.out u1 HI1.out);clear hb HI HBY HLK0)
  | (go_at_call 24;refine HLK.out.mono ?_;rintro e u2 ⟨A1,q1,A2,q2,A3,q3,rfl,hb⟩;have HZ:=zZ (z2g HI1.out hb #[O I ln,O I s.given,O I s.summed,O I s.wrote,O I s.writes,O I s.jobs.length,O I s.lane.length,O I s.ready.length,.slice A1 q.k5 q1,.slice A2 s.shelf.length q2,.slice A3 (s.ended q.p).length q3]);have HB2:=zZ (HB1.out.trans ((z4O hb #[O I ln,O I s.given,O I s.summed,O I s.wrote,O I s.writes,O I s.jobs.length,O I s.lane.length,O I s.ready.length,.slice A1 q.k5 q1,.slice A2 s.shelf.length q2,.slice A3 (s.ended q.p).length q3]).mono HB1.out.size));have v0:=HZ.out.2.cell 0;have v3:=HZ.out.2.cell 3;have y15:=HZ.out.1.brk.cell 15;have f15:=HZ.out.1.brk.free 15;have y11:=HZ.out.1.brk.cell 11;simp at v0 v3 y15 y11;have HI3:=zZ (HZ.out.1.put (cut':=cut) (steps':=steps) (wn':=s.wrote) 15 (O I s.wrote) (HZ.out.1.brk.set 15 (O I s.wrote)) zY HZ.out.1.cutT HZ.out.1.cutF HZ.out.1.stp);have z11:=HI3.out.brk.cell 11;have z10:=HI3.out.brk.cell 10;have p0:=HI3.out.place (Nat.zero_le _);have pn:=HI3.out.place hwN;rw [HH0.out] at p0;rw [HH1.out] at pn;simp at z11 z10;clear hb HI1 HLK)
  | (refine z0b rfl _ _ 64 rfl u2.heap.size 64 _ _ rfl rfl (Bx.new u2 #[O I 0,O I 0,O I 0,O I 0,O I 0,O I 0,O I 0,O I 0,.slice none 0 0,.slice none 0 0,.slice none 0 0] 64) z0D rfl rfl ?_))
 go_quiet (fail)
 have HI4:=zZ (HI3.out.keep (z0t zX nq));have HE4:Hid (Edit (·=q.kb) u ((((u2.alloc (.cells #[O I 0,O I 0,O I 0,O I 0,O I 0,O I 0,O I 0,O I 0,.slice none 0 0,.slice none 0 0,.slice none 0 0] 64)).setRow u2.heap.size #[O I ln,O I s.given,O I s.summed,O I s.wrote,O I s.writes,O I s.jobs.length,O I s.lane.length,O I s.ready.length,.slice A1 q.k5 q1,.slice A2 s.shelf.length q2,.slice A3 (s.ended q.p).length q3]).setCell ⟨q.kb,15,none⟩ (O I s.wrote)).drewN nq)):=((Edit.of HB2.out).trans (Edit.one _ q.kb 15 _)).drewN nq;have HSA:Hid (Calls prog 57 #[.string tb] ((((u2.alloc (.cells #[O I 0,O I 0,O I 0,O I 0,O I 0,O I 0,O I 0,O I 0,.slice none 0 0,.slice none 0 0,.slice none 0 0] 64)).setRow u2.heap.size #[O I ln,O I s.given,O I s.summed,O I s.wrote,O I s.writes,O I s.jobs.length,O I s.lane.length,O I s.ready.length,.slice A1 q.k5 q1,.slice A2 s.shelf.length q2,.slice A3 (s.ended q.p).length q3]).setCell ⟨q.kb,15,none⟩ (O I s.wrote)).drewN nq) fun e u'=>∃ gl,e=.returned (.tuple #[.agg #[O I q.ch,O I q.d,O I q.B,O I q.k3,O I q.k4,O I q.S],.slice (some ⟨gl,0,none⟩) q.ch q.ch,O I 0])/\ViewL u' (.slice (some ⟨gl,0,none⟩) q.ch q.ch) q.ch (min (s.wrote * q.B) q.S) q.G/\Below ((((u2.alloc (.cells #[O I 0,O I 0,O I 0,O I 0,O I 0,O I 0,O I 0,O I 0,.slice none 0 0,.slice none 0 0,.slice none 0 0] 64)).setRow u2.heap.size #[O I ln,O I s.given,O I s.summed,O I s.wrote,O I s.writes,O I s.jobs.length,O I s.lane.length,O I s.ready.length,.slice A1 q.k5 q1,.slice A2 s.shelf.length q2,.slice A3 (s.ended q.p).length q3]).setCell ⟨q.kb,15,none⟩ (O I s.wrote)).drewN nq).heap.size ((((u2.alloc (.cells #[O I 0,O I 0,O I 0,O I 0,O I 0,O I 0,O I 0,O I 0,.slice none 0 0,.slice none 0 0,.slice none 0 0] 64)).setRow u2.heap.size #[O I ln,O I s.given,O I s.summed,O I s.wrote,O I s.writes,O I s.jobs.length,O I s.lane.length,O I s.ready.length,.slice A1 q.k5 q1,.slice A2 s.shelf.length q2,.slice A3 (s.ended q.p).length q3]).setCell ⟨q.kb,15,none⟩ (O I s.wrote)).drewN nq) u'):=by
  have:=y8c ((((u2.alloc (.cells #[O I 0,O I 0,O I 0,O I 0,O I 0,O I 0,O I 0,O I 0,.slice none 0 0,.slice none 0 0,.slice none 0 0] 64)).setRow u2.heap.size #[O I ln,O I s.given,O I s.summed,O I s.wrote,O I s.writes,O I s.jobs.length,O I s.lane.length,O I s.ready.length,.slice A1 q.k5 q1,.slice A2 s.shelf.length q2,.slice A3 (s.ended q.p).length q3]).setCell ⟨q.kb,15,none⟩ (O I s.wrote)).drewN nq) HI4.out.fix.kp hwN (HI4.out.fix.tu.below HI4.out.bel);rw [← HTB.out] at this;exact this
 clear HZ HI3 HB2 v0 v3 y15 f15 y11 z11 z10 p0 pn hext hb2 HH0 HH1
 go_wp2_with (first
  | (go_at_call 57;refine HSA.out.mono ?_;rintro e u5 ⟨gl,rfl,hv,hb⟩;have e5:=z7n hb #[O I q.ch,O I q.d,O I q.B,O I q.k3,O I q.k4,O I q.S];have HI5:=zZ (HI4.out.keep e5.one);have HN5:=zZ e5.two;have HE5:=zZ (HE4.out.trans (Edit.of e5.one));have HV5:=zZ (hv.below e5.three);have HDE:Hid (Calls prog 17 #[.string tb] ((u5.alloc (.cells #[O I 0,O I 0,O I 0,O I 0,O I 0,O I 0] 39)).setRow u5.heap.size #[O I q.ch,O I q.d,O I q.B,O I q.k3,O I q.k4,O I q.S]) fun e u'=>e=.returned (.tuple #[.agg #[O I 0,O I 0,O I 0,O I 0,O I 0,O I 0],.slice none 0 0,O I 7])/\Below (Go.World.heap ((u5.alloc (.cells #[O I 0,O I 0,O I 0,O I 0,O I 0,O I 0] 39)).setRow u5.heap.size #[O I q.ch,O I q.d,O I q.B,O I q.k3,O I q.k4,O I q.S])).size ((u5.alloc (.cells #[O I 0,O I 0,O I 0,O I 0,O I 0,O I 0] 39)).setRow u5.heap.size #[O I q.ch,O I q.d,O I q.B,O I q.k3,O I q.k4,O I q.S]) u'):=(by have:=y2Q ((u5.alloc (.cells #[O I 0,O I 0,O I 0,O I 0,O I 0,O I 0] 39)).setRow u5.heap.size #[O I q.ch,O I q.d,O I q.B,O I q.k3,O I q.k4,O I q.S]) HI5.out.fix.kp hwN (HI5.out.fix.tu.below HI5.out.bel);rw [← HTB.out] at this;exact this);clear hv hb e5 HSA HI4 HE4)
  | (refine z0b rfl _ _ 39 rfl u5.heap.size 39 _ _ rfl rfl (Bx.new u5 #[O I 0,O I 0,O I 0,O I 0,O I 0,O I 0] 39) z1t rfl rfl ?_)
  | (go_at_call 17;refine HDE.out.mono ?_;rintro e u6 ⟨rfl,hb⟩;have e6:=z7n hb #[O I 0,O I 0,O I 0,O I 0,O I 0,O I 0];have HI6:=zZ (HI5.out.keep e6.one);have HN6:=zZ (HN5.out.below e6.one);have HE6:=zZ (HE5.out.trans (Edit.of e6.one));have HV6:=zZ (HV5.out.below e6.one);clear hb e6 HDE HI5 HE5 HV5 HN5)
  | (refine z0b rfl _ _ 39 rfl u6.heap.size 39 _ _ rfl rfl (Bx.new u6 #[O I 0,O I 0,O I 0,O I 0,O I 0,O I 0] 39) z1t rfl rfl ?_))
 obtain ⟨nb,hnb⟩:∃ nb,nb=s.wrote * q.B:=⟨_,rfl⟩;have hnb2:nb<=100000:=by
  have h1:=HI6.out.fix.cfg.B32;have h2:q.N<=300:=HI6.out.fix.kp.nb;rw [hnb];exact Nat.le_trans (Nat.mul_le_mul (Nat.le_trans hwN h2) h1) (by omega)
 have wm:IntKind.i64.wrap ((s.wrote:Int) * (q.B:Int))=(nb:Int):=by
  have e3:(s.wrote:Int) * (q.B:Int)=(nb:Int):=by rw [hnb];simp
  rw [IntKind.wrap_i64,e3];omega
 rw [← hnb] at HV6;clear hnb;have hI7:BrkI q a F s cut steps s.wrote (((u6.alloc (.cells #[O I 0,O I 0,O I 0,O I 0,O I 0,O I 0] 39)).setRow u6.heap.size #[O I 0,O I 0,O I 0,O I 0,O I 0,O I 0]).drew):=HI6.out.keep (z0t zX 1);have HI7:=zZ hI7;have HTL:Hid (Calls prog 31 #[.agg #[O I q.ch,O I q.d,O I q.B,O I q.k3,O I q.k4,O I q.S],.agg #[O I q.ch,O I q.d,O I q.B,O I q.k3,O I q.k4,O I q.k5,O I q.k6,O I q.k7],.slice (some ⟨q.gx,0,none⟩) q.ch q.cx] (((u6.alloc (.cells #[O I 0,O I 0,O I 0,O I 0,O I 0,O I 0] 39)).setRow u6.heap.size #[O I 0,O I 0,O I 0,O I 0,O I 0,O I 0]).drew) fun e w'=>e=.returned (.bool true)/\Below (Go.World.heap (((u6.alloc (.cells #[O I 0,O I 0,O I 0,O I 0,O I 0,O I 0] 39)).setRow u6.heap.size #[O I 0,O I 0,O I 0,O I 0,O I 0,O I 0]).drew)).size (((u6.alloc (.cells #[O I 0,O I 0,O I 0,O I 0,O I 0,O I 0] 39)).setRow u6.heap.size #[O I 0,O I 0,O I 0,O I 0,O I 0,O I 0]).drew) w'):=y4Z q.ch q.d q.B q.k3 q.k4 q.S q.k5 q.k6 q.k7 _ q.ch q.S q.G _ hI7.fix.cfg.ch1 rfl (hI7.acc.view hI7.fix.cfg.ch1);have hS0:Bx (((u6.alloc (.cells #[O I 0,O I 0,O I 0,O I 0,O I 0,O I 0] 39)).setRow u6.heap.size #[O I 0,O I 0,O I 0,O I 0,O I 0,O I 0]).drew) u5.heap.size 39 #[O I q.ch,O I q.d,O I q.B,O I q.k3,O I q.k4,O I q.S]/\Bx (((u6.alloc (.cells #[O I 0,O I 0,O I 0,O I 0,O I 0,O I 0] 39)).setRow u6.heap.size #[O I 0,O I 0,O I 0,O I 0,O I 0,O I 0]).drew) q.kb 72 #[.pointer (some ⟨q.l,0,none⟩),O I q.ch,O I q.d,O I q.B,O I q.k3,O I q.k4,O I q.k5,O I q.k6,O I q.k7,.slice (some ⟨q.gx,0,none⟩) q.ch q.cx,.string q.tx,.slice (some ⟨q.ga,0,none⟩) (q.N+1) q.ca,O I q.fail,.bool cut,O I (steps:Nat),O I s.wrote]/\(((u6.alloc (.cells #[O I 0,O I 0,O I 0,O I 0,O I 0,O I 0] 39)).setRow u6.heap.size #[O I 0,O I 0,O I 0,O I 0,O I 0,O I 0]).drew).cell? ⟨q.kb,9,none⟩=some (.slice (some ⟨q.gx,0,none⟩) q.ch q.cx):=⟨HN6.out,hI7.brk,hI7.brk.cell 9⟩;clear hI7 HI6;refine wp_region_held_drew (S:=fun w'=>Bx w' u5.heap.size 39 #[O I q.ch,O I q.d,O I q.B,O I q.k3,O I q.k4,O I q.S]/\Bx w' q.kb 72 #[.pointer (some ⟨q.l,0,none⟩),O I q.ch,O I q.d,O I q.B,O I q.k3,O I q.k4,O I q.k5,O I q.k6,O I q.k7,.slice (some ⟨q.gx,0,none⟩) q.ch q.cx,.string q.tx,.slice (some ⟨q.ga,0,none⟩) (q.N+1) q.ca,O I q.fail,.bool cut,O I (steps:Nat),O I s.wrote]/\w'.cell? ⟨q.kb,9,none⟩=some (.slice (some ⟨q.gx,0,none⟩) q.ch q.cx)) (by kernel_rfl) hS0 (fun hHeld=>?_);refine tk (i:=0) (v:=?_) rfl (fun _ _ _ h=>h) (Or.inl ⟨by rfl,?_⟩) (by assumption) ?_;rotate_left
 . (intro wx hSw;refine z9O (Operand.tmp 7) 39 ?_ u5.heap.size 39 #[O I q.ch,O I q.d,O I q.B,O I q.k3,O I q.k4,O I q.S] (0,0) _ ?_ hSw.1 Tryz.underlying39 rfl z1t <;> rfl)
 try simp only [q1,q2,q3,Act.put,q4,q5,q6]
 refine tq (i:=1) rfl (by rfl) (by assumption) ?_;try simp only [q1,q2,q3,Act.put,q4,q5,q6]
 refine tq (i:=2) rfl (by rfl) (by assumption) ?_;try simp only [q1,q2,q3,Act.put,q4,q5,q6]
 refine tq (i:=3) rfl (by rfl) (by assumption) ?_;try simp only [q1,q2,q3,Act.put,q4,q5,q6]
 refine tk (i:=4) (v:=?_) rfl (fun _ _ _ h=>h) (Or.inl ⟨by rfl,?_⟩) (by assumption) ?_;rotate_left
 . (intro wx hSw;refine z4U (Operand.tmp 122) 23 ?_ q.kb 1 [O I q.ch,O I q.d,O I q.B,O I q.k3,O I q.k4,O I q.k5,O I q.k6,O I q.k7] _ ?_ (y5l hSw.2.1) Tryz.underlying23 rfl z1h <;> rfl)
 try simp only [q1,q2,q3,Act.put,q4,q5,q6]
 refine tq (i:=5) rfl (by rfl) (by assumption) ?_;try simp only [q1,q2,q3,Act.put,q4,q5,q6]
 refine tq (i:=6) rfl (by rfl) (by assumption) ?_;try simp only [q1,q2,q3,Act.put,q4,q5,q6]
 refine tq (i:=7) rfl (by rfl) (by assumption) ?_;try simp only [q1,q2,q3,Act.put,q4,q5,q6]
 refine tq (i:=8) rfl (by rfl) (by assumption) ?_;try simp only [q1,q2,q3,Act.put,q4,q5,q6]
 refine wpAnyH_ready (rs:=[9]) (by kernel_rfl) (by simp) ?_;refine AllReadyH.cons rfl (fun K hK=>?_) (AllReadyH.nil)
 go_simp
 go_at_call 31
 refine HTL.out.mono ?_;rintro e u7 ⟨rfl,hb⟩;have hI8:=HI7.out.keep hb;have HI8:=zZ hI8;have hS1:Bx u7 u5.heap.size 39 #[O I q.ch,O I q.d,O I q.B,O I q.k3,O I q.k4,O I q.S]/\Bx u7 q.kb 72 #[.pointer (some ⟨q.l,0,none⟩),O I q.ch,O I q.d,O I q.B,O I q.k3,O I q.k4,O I q.k5,O I q.k6,O I q.k7,.slice (some ⟨q.gx,0,none⟩) q.ch q.cx,.string q.tx,.slice (some ⟨q.ga,0,none⟩) (q.N+1) q.ca,O I q.fail,.bool cut,O I (steps:Nat),O I s.wrote]/\u7.cell? ⟨q.kb,9,none⟩=some (.slice (some ⟨q.gx,0,none⟩) q.ch q.cx):=⟨Bx.below (w:=((u6.alloc (.cells #[O I 0,O I 0,O I 0,O I 0,O I 0,O I 0] 39)).setRow u6.heap.size #[O I 0,O I 0,O I 0,O I 0,O I 0,O I 0]).drew) HN6.out hb,hI8.brk,hI8.brk.cell 9⟩;have HE8:Hid (Edit (·=q.kb) u u7):=(HE6.out.drewN 1).trans (Edit.of hb);have HV8:=zZ (ViewL.below (u:=((u6.alloc (.cells #[O I 0,O I 0,O I 0,O I 0,O I 0,O I 0] 39)).setRow u6.heap.size #[O I 0,O I 0,O I 0,O I 0,O I 0,O I 0]).drew) HV6.out hb);clear hb hI8 HTL hS0 HI7 HE6 HV6 HN6;go_wp2_with fail;refine hK.out _ _ hS1 (fun hHeld=>?_);clear hK K
 try simp only [q1,q2,q3,Act.put,q4,q5,q6]
 refine tq (i:=10) rfl (by rfl) (by assumption) ?_;try simp only [q1,q2,q3,Act.put,q4,q5,q6]
 refine wpAnyH_done (by kernel_rfl) ?_ _;go_wp2_with fail;have hI9:BrkI q a F s cut steps s.wrote u7.drew:=HI8.out.keep (z0t zX 1);have HPT:Hid (Calls prog 16 #[.slice (some ⟨q.gx,0,none⟩) q.ch q.cx,O I 0,O I nb] u7.drew fun e w'=>∃ g2 c2,e=.returned (.slice (some ⟨g2,0,none⟩) q.ch c2)/\ViewL w' (.slice (some ⟨g2,0,none⟩) q.ch c2) q.ch (min nb q.S) q.G/\Below u7.drew.heap.size u7.drew w'):=by
  have h1:=y1U 0 (.slice (some ⟨q.gx,0,none⟩) q.ch q.cx) q.S q.ch 0 nb q.gs q.G u7.drew hI9.fix.cfg.ch1 hI9.fix.cfg.ch4 hI9.fix.kp.S3 (by omega) hnb2 hI9.acc;refine h1.mono ?_;rintro e w' ⟨lv2,gs2,G2,rfl,ha,hg,hb⟩;rw [Nat.zero_min,Nat.sub_zero] at ha hg;obtain ⟨g2,c2,rfl,-⟩:=ha.open hI9.fix.cfg.ch1;exact ⟨g2,c2,rfl,(ha.view hI9.fix.cfg.ch1).ext fun i hi j hj=>by rw [hg i hi j hj,Nat.zero_add],hb⟩
 have HI9:=zZ hI9;have HSM:Hid (∀ u v v',ViewL u v q.ch (min nb q.S) q.G->ViewL u v' q.ch (min nb q.S) q.G->Calls prog 15 #[v,v'] u fun e w'=>e=.returned (.bool true)/\Below u.heap.size u w'):=fun u v v' h1 h2=>z9L v v' q.ch (min nb q.S) q.G u (by have:=hI9.fix.cfg.ch4;omega) (by have:=hI9.fix.kp.S3;omega) h1 h2
 have hS2:u7.drew.cell? ⟨q.kb,9,none⟩=some (.slice (some ⟨q.gx,0,none⟩) q.ch q.cx)/\u7.drew.cell? ⟨q.kb,3,none⟩=some (O I q.B):=⟨hI9.brk.cell 9,hI9.brk.cell 3⟩;clear hI9 HI8 hS1;refine wp_region_held_drew (S:=fun w'=>w'.cell? ⟨q.kb,9,none⟩=some (.slice (some ⟨q.gx,0,none⟩) q.ch q.cx)/\w'.cell? ⟨q.kb,3,none⟩=some (O I q.B)) (by kernel_rfl) hS2 (fun hHeld=>?_);refine tq (i:=0) rfl (by rfl) (by assumption) ?_;try simp only [q1,q2,q3,Act.put,q4,q5,q6]
 refine tq (i:=1) rfl (by rfl) (by assumption) ?_;try simp only [q1,q2,q3,Act.put,q4,q5,q6]
 refine tq (i:=2) rfl (by rfl) (by assumption) ?_;try simp only [q1,q2,q3,Act.put,q4,q5,q6]
 refine tq (i:=3) rfl (by rfl) (by assumption) ?_;try simp only [q1,q2,q3,Act.put,q4,q5,q6]
 refine tq (i:=4) rfl (by rfl) (by assumption) ?_;try simp only [q1,q2,q3,Act.put,q4,q5,q6]
 refine tq (i:=5) rfl (by rfl) (by assumption) ?_;try simp only [q1,q2,q3,Act.put,q4,q5,q6]
 refine tq (i:=6) rfl (by rfl) (by assumption) ?_;try simp only [q1,q2,q3,Act.put,q4,q5,q6]
 refine tq (i:=7) rfl (by rfl) (by assumption) ?_;try simp only [q1,q2,q3,Act.put,q4,q5,q6]
 refine tq (i:=8) rfl (by rfl) (by assumption) ?_;try simp only [q1,q2,q3,Act.put,q4,q5,q6]
 refine tq (i:=9) rfl (by rfl) (by assumption) ?_;try simp only [q1,q2,q3,Act.put,q4,q5,q6]
 refine tq (i:=10) rfl (by rfl) (by assumption) ?_;try simp only [q1,q2,q3,Act.put,q4,q5,q6]
 refine tq (i:=12) rfl (by rfl) (by assumption) ?_;try simp only [q1,q2,q3,Act.put,q4,q5,q6]
 refine wpAnyH_ready (rs:=[11]) (by kernel_rfl) (by simp) ?_;refine AllReadyH.cons rfl (fun K hK=>?_) (AllReadyH.nil)
 go_simp
 go_at_call 16
 refine HPT.out.mono ?_;rintro e u8 ⟨g2,c2,rfl,hv,hb⟩;have hI10:=HI9.out.keep hb;have HI10:=zZ hI10;have hS3:u8.cell? ⟨q.kb,9,none⟩=some (.slice (some ⟨q.gx,0,none⟩) q.ch q.cx)/\u8.cell? ⟨q.kb,3,none⟩=some (O I q.B):=⟨hI10.brk.cell 9,hI10.brk.cell 3⟩;have HE10:Hid (Edit (·=q.kb) u u8):=(HE8.out.drewN 1).trans (Edit.of hb);have HSA2:=zZ (HSM.out u8 _ _ hv (ViewL.below (u:=u7.drew) HV8.out hb));clear hb hv hI10 hS2 HI9 HPT HV8 HE8 HSM;go_wp2_with fail;refine hK.out _ _ hS3 (fun hHeld=>?_);clear hK K
 try simp only [q1,q2,q3,Act.put,q4,q5,q6]
 refine wpAnyH_ready (rs:=[13]) (by kernel_rfl) (by simp) ?_;refine AllReadyH.cons rfl (fun K hK=>?_) (AllReadyH.nil)
 go_simp
 go_at_call 15
 refine HSA2.out.mono ?_;rintro e u9 ⟨rfl,hb⟩;have hI11:=HI10.out.keep hb;have HI11:=zZ hI11;have hS4:u9.cell? ⟨q.kb,9,none⟩=some (.slice (some ⟨q.gx,0,none⟩) q.ch q.cx)/\u9.cell? ⟨q.kb,3,none⟩=some (O I q.B):=⟨hI11.brk.cell 9,hI11.brk.cell 3⟩;have HE11:Hid (Edit (·=q.kb) u u9):=HE10.out.trans (Edit.of hb);clear hb hI11 HI10 HE10 HSA2 hS3;go_wp2_with fail;refine hK.out _ _ hS4 (fun hHeld=>?_);clear hK K
 try simp only [q1,q2,q3,Act.put,q4,q5,q6]
 refine tq (i:=14) rfl (by rfl) (by assumption) ?_;try simp only [q1,q2,q3,Act.put,q4,q5,q6]
 refine wpAnyH_done (by kernel_rfl) ?_ _;go_wp2_with fail;go_ret;exact ⟨rfl,s.wrote,HI11.out,HE11.out⟩
theorem z9P {p:Lpar} {s:Lst} (h:LInv p s) {t:Nat} {c:LAct} (ht:t < 3+p.W) (hn:s.next p t=some c):(s.stopped=true->(s.act p c).stopped=true/\(s.act p c).failed=s.failed)/\(s.stopped=false->(s.act p c).stopped=(s.act p c).failed):=by
 have hsf:s.stopped=false->s.failed=false:=fun h1=>by
  cases h2:s.failed with
  | false=>rfl
  | true=>exact absurd (h.fail h2) (by rw [h1];decide)
 have head:∀ (s':Lst) (k:Nat),s'.stopped=s.stopped->s'.failed=s.failed->(s.stopped=true->(s'.head p k).stopped=true/\(s'.head p k).failed=s.failed)/\(s.stopped=false->(s'.head p k).stopped=(s'.head p k).failed):=fun s' k h1 h2=>by
  unfold Lst.head;refine ⟨fun h3=>?_,fun h3=>?_⟩
  . rw [h1,h3,if_pos rfl]
    exact ⟨h1.trans h3,h2⟩
  . rw [h1,h3,if_neg (by decide)]
    split
    . rename_i h4
      exact h4.symm
    . rename_i h4
      have h5:(s'.tries p).failed=false:=by cases h6:(s'.tries p).failed with | false=>rfl | true=>exact absurd h6 h4
      show s'.stopped=(s'.tries p).failed
      rw [h5,h1,h3]
 match t,ht,hn with
 | 0,ht,hn =>
  obtain ⟨-,⟨rfl,-⟩ | ⟨rfl,-⟩⟩:=next0 hn
  . exact ⟨fun h1=>⟨h1,rfl⟩,fun h1=>h1.trans (hsf h1).symm⟩
  . exact ⟨fun h1=>⟨h1,rfl⟩,fun h1=>h1.trans (hsf h1).symm⟩
 | 1,ht,hn =>
  obtain ⟨-,rfl,-⟩:=next1 hn;unfold Lst.act;cases s.lane with
  | nil=>exact ⟨fun h1=>⟨h1,rfl⟩,fun h1=>h1.trans (hsf h1).symm⟩
  | cons _ _=>exact ⟨fun h1=>⟨h1,rfl⟩,fun h1=>h1.trans (hsf h1).symm⟩
 | 2,ht,hn =>
  obtain ⟨-,⟨rfl,-⟩ | ⟨-,⟨rfl,hsh⟩ | ⟨rfl,-⟩⟩⟩:=next2 hn
  . exact head _ 1 rfl rfl
  . refine ⟨fun h1=>?_,fun h1=>?_⟩
    . rw [h.stop h1] at hsh
      cases hsh
    . show (Lst.frame p _).stopped=(Lst.frame p _).failed
      unfold Lst.frame;split
      . rename_i h4
        exact h4.symm
      . rename_i h4
        have h5:(Lst.tries p { s with shelf:=s.shelf.tail }).failed=false:=by cases h6:(Lst.tries p { s with shelf:=s.shelf.tail }).failed with | false=>rfl | true=>exact absurd h6 h4
        show s.stopped=(Lst.tries p { s with shelf:=s.shelf.tail }).failed
        rw [h5,h1]
  . show (s.stopped=true->(s.act p .shelve).stopped=true/\(s.act p .shelve).failed=s.failed)/\(s.stopped=false->(s.act p .shelve).stopped=(s.act p .shelve).failed)
    unfold Lst.act;cases s.ready with
    | nil=>exact head _ 2 rfl rfl
    | cons _ _ =>
     dsimp only;split
     . exact ⟨fun h1=>⟨h1,rfl⟩,fun h1=>h1.trans (hsf h1).symm⟩
     . exact ⟨fun h1=>⟨h1,rfl⟩,fun h1=>h1.trans (hsf h1).symm⟩
 | j+3,ht,hn =>
  obtain ⟨-,⟨rfl,-⟩ | ⟨k,hk,⟨rfl,-⟩ | ⟨rfl,-⟩⟩⟩:=next3 hn
  . unfold Lst.act
    cases s.jobs with
    | nil=>exact ⟨fun h1=>⟨h1,rfl⟩,fun h1=>h1.trans (hsf h1).symm⟩
    | cons _ _=>exact ⟨fun h1=>⟨h1,rfl⟩,fun h1=>h1.trans (hsf h1).symm⟩
  . exact ⟨fun h1=>⟨h1,rfl⟩,fun h1=>h1.trans (hsf h1).symm⟩
  . unfold Lst.act
    dsimp only;rw [hk];exact ⟨fun h1=>⟨h1,rfl⟩,fun h1=>h1.trans (hsf h1).symm⟩
theorem y6K {p:Lpar} (s:Lst):s.halt.rem p<=s.rem p:=by
 unfold Lst.halt Lst.rem Lst.heldL Lst.opened;simp only [List.length_nil];omega
section
variable {q:Bpar} {a:Lad} {F:Nat->Prop} {s:Lst} {cut:Bool} {steps wn:Nat} {u:World}
theorem y6L (h:BrkI q a F s cut steps wn u) (h2:s.e2=false) (k:Nat) (hk:(k:Int)<=9223372036854775807) :
 Calls prog 51 #[.pointer (some ⟨q.l,0,none⟩),O I k] u fun e w'=>∃ t:Nat,e=.returned (.tuple #[O I t,O I 0])/\∃ a' F' s',(BrkI q a' F' s' cut steps wn w'/\s'.rem q.p+1<=s.rem q.p/\Edit F u w'):=by
 refine (z9J h.line (h.fix.tf.below h.bel) k hk h2).mono ?_;rintro e w' ⟨rfl,c,a',F',hc,-,hO,hL,hE⟩;obtain ⟨-,-,ht,-⟩:=z5l (k:=k) (h.line.able_ne h2);have hr:=(y1K h.line.inv ht hc).1;have hf:=z9P h.line.inv ht hc;have hg:=z9C (p:=q.p) (s:=s) c;have hst:=h.stp;refine ⟨_,rfl,a',F',s.act q.p c,h.go hL hE (fun k hk=>(h.far k hk).1) (h.brk.edit hE fun hh=>(h.far _ hh).2 rfl) hO.2 (Nat.le_trans h.wr hg.2.2.1) (fun hc=>?_) (fun hc=>?_) (by omega),hr,hE⟩
 . obtain ⟨h1,h3⟩:=h.cutT hc
   exact ⟨(hf.1 h1).1,(hf.1 h1).2.trans h3⟩
 . cases h1:s.stopped with
   | false=>exact hf.2 h1
   | true =>
    rw [(hf.1 h1).1,(hf.1 h1).2,← h.cutF hc,h1]
theorem y1X (h:BrkI q a F s cut steps wn u) :
 Calls prog 29 #[.pointer (some ⟨q.kb,0,none⟩)] u fun e w'=>e=.returned (.bool true)/\∃ wn',BrkI q a F s cut steps wn' w':=by
 rcases y2X h.line.inv with ⟨h1,h2,h3⟩ | ⟨h1,⟨h2,h3⟩ | h2⟩
 . exact (y5j h h1 h2 h3).mono (by rintro e w' ⟨rfl,wn',hI,-⟩;exact ⟨rfl,wn',hI⟩)
 . exact (y5k h h1 h2 h3).mono (by rintro e w' ⟨rfl,wn',hI,-⟩;exact ⟨rfl,wn',hI⟩)
 . exact (y6J h h1 h2).mono (by rintro e w' ⟨rfl,wn',hI,-⟩;exact ⟨rfl,wn',hI⟩)
end
end Go.Proofs.YtlncjgnomhpjnabGreatDoor
namespace Go.Proofs.YtlncjgnomhpjnabGreatDoor
open Go.Value renaming int → O
open Go.IntKind renaming i64 → I
open Go.Proofs.Tryz (prog)
open Go.RowKit Go.Deep
set_option linter.unusedVariables false
set_option maxHeartbeats 400000 in
theorem y1Y (a:Int) (w:World) (ha:-9223372036854775808<=a/\a<=9223372036854775807) :
 Calls prog 13 #[O I a,O I 4611686018427387904] w fun e w'=>∃ k:Nat,k<=4611686018427387904/\e=.returned (O I k)/\w'=w:=by
 by_cases h:a < 0
 . have t1:decide (a < 0)=true:=decide_eq_true h
   have v1:IntKind.i64.wrap (a+1)=a+1:=by rw [IntKind.wrap_i64];omega
   have v2:IntKind.i64.wrap (-(a+1))=((-(a+1)).toNat:Int):=by rw [IntKind.wrap_i64];omega
   generalize (-(a+1)).toNat=q at *;have m1:(q:Int).tmod 4611686018427387904=((q % 4611686018427387904:Nat):Int):=by rw [Int.tmod_eq_emod_of_nonneg (by omega)];simp
   have hml:q % 4611686018427387904 < 4611686018427387904:=Nat.mod_lt _ (by omega);generalize q % 4611686018427387904=r at *;have HR:=zZ (Nat.le_of_lt hml);have w3:IntKind.i64.wrap (r:Int)=(r:Int):=by rw [IntKind.wrap_i64];omega
   go_enter Tryz.func13,Tryz.ntmps13
   go_wp2;go_ret;exact ⟨r,HR.out,rfl,rfl⟩
 . have t1:decide (a < 0)=false:=decide_eq_false h
   obtain ⟨q,rfl⟩:∃ q:Nat,a=q:=⟨a.toNat,by omega⟩;have m1:(q:Int).tmod 4611686018427387904=((q % 4611686018427387904:Nat):Int):=by rw [Int.tmod_eq_emod_of_nonneg (by omega)];simp
   have hml:q % 4611686018427387904 < 4611686018427387904:=Nat.mod_lt _ (by omega);generalize q % 4611686018427387904=r at *;have HR:=zZ (Nat.le_of_lt hml);have w3:IntKind.i64.wrap (r:Int)=(r:Int):=by rw [IntKind.wrap_i64];omega
   go_enter Tryz.func13,Tryz.ntmps13
   go_wp2;go_ret;exact ⟨r,HR.out,rfl,rfl⟩
def BrkE (q:Bpar) (w:World):Prop:=∃ a F s cut steps wn,BrkI q a F s cut steps wn w
section
variable {q:Bpar} {a:Lad} {F:Nat->Prop} {s:Lst} {cut:Bool} {steps wn:Nat} {u:World}
theorem BrkI.box1 (h:BrkI q a F s cut steps wn u) (cs:Array Value) (t:TypeId):BrkI q a F s cut steps wn (u.alloc (.cells cs t)):=h.keep (zX.alloc zY _)
set_option maxRecDepth 100000 in
set_option maxHeartbeats 4000000 in
theorem y5m (h:BrkI q a F s cut steps wn u) (kd nm:Int) (hk:-9223372036854775808<=kd/\kd<=9223372036854775807) (hp:pickV kd 4=2) :
 Calls prog 27 #[.pointer (some ⟨q.kb,0,none⟩),.agg #[O I kd,O I nm]] u fun e w'=>e=.returned (.bool true)/\BrkE q w':=by
 have HPK:=zZ (fun w=>z0U kd 4 w (by omega) (by omega) hk);rw [hp] at HPK;have HI:=zZ (h.box1 #[O I kd,O I nm] 75);have x0:=(Bx.new u #[O I kd,O I nm] 75).cell 0;simp at x0;have HSK:=zZ (y1X HI.out);clear h hk hp
 go_enter Tryz.func27,Tryz.ntmps27
 go_wp2_with (first
  | (go_at_call 13;refine (HPK.out _).mono ?_;rintro e u1 ⟨rfl,hu⟩;subst u1;clear HPK)
  | (go_at_call 29;refine HSK.out.mono ?_;rintro e u2 ⟨rfl,wn',hI⟩;have HI2:=zZ hI;clear hI HSK))
 go_ret;exact ⟨rfl,_,_,_,_,_,_,HI2.out⟩
set_option maxRecDepth 100000 in
set_option maxHeartbeats 4000000 in
theorem y5n (h:BrkI q a F s cut steps wn u) (kd nm:Int) (hk:-9223372036854775808<=kd/\kd<=9223372036854775807) (hp:pickV kd 4=3) :
 Calls prog 27 #[.pointer (some ⟨q.kb,0,none⟩),.agg #[O I kd,O I nm]] u fun e w'=>e=.returned (.bool true)/\BrkE q w':=by
 have HPK:=zZ (fun w=>z0U kd 4 w (by omega) (by omega) hk);rw [hp] at HPK;have HI:=zZ (h.box1 #[O I kd,O I nm] 75);have x0:=(Bx.new u #[O I kd,O I nm] 75).cell 0;have z0:=HI.out.brk.cell 0;simp at x0 z0;have hw1:=h.line.inv.wrote;have hw2:s.given<=q.N:=h.line.inv.given;have i1:(s.wrote:Int)<=(s.given:Int):=by omega
 have i2:(s.given:Int) < (q.N:Int)+1:=by omega
 have i3:s.given < q.N+1:=by omega
 have i4:decide ((s.wrote:Int)<=(s.given:Int))=true:=decide_eq_true i1;have i5:decide ((s.given:Int) < (q.N:Int)+1)=true:=decide_eq_true i2;have HLK:=zZ (z1X HI.out);generalize lstN s=ln at *;clear h hk hp
 go_enter Tryz.func27,Tryz.ntmps27
 go_wp2_with (first
  | (go_at_call 13;refine (HPK.out _).mono ?_;rintro e u1 ⟨rfl,hu⟩;subst u1;clear HPK)
  | (go_at_call 24;refine HLK.out.mono ?_;rintro e u2 ⟨A1,q1,A2,q2,A3,q3,rfl,hb⟩;have HZ:=zZ (z2g HI.out hb #[O I ln,O I s.given,O I s.summed,O I s.wrote,O I s.writes,O I s.jobs.length,O I s.lane.length,O I s.ready.length,.slice A1 q.k5 q1,.slice A2 s.shelf.length q2,.slice A3 (s.ended q.p).length q3]);have v1:=HZ.out.2.cell 1;have v3:=HZ.out.2.cell 3;have v8:=HZ.out.2.cell 8;have y6:=HZ.out.1.brk.cell 6;have y11:=HZ.out.1.brk.cell 11;simp at v1 v3 v8 y6 y11;clear hb HI HLK)
  | (refine z0b rfl _ _ 64 rfl u2.heap.size 64 _ _ rfl rfl (Bx.new u2 #[O I 0,O I 0,O I 0,O I 0,O I 0,O I 0,O I 0,O I 0,.slice none 0 0,.slice none 0 0,.slice none 0 0] 64) z0D rfl rfl ?_))
 go_quiet (fail)
 go_wp2_with fail;go_ret;exact ⟨rfl,_,_,_,_,_,_,HZ.out.1.keep (z0t zX nq)⟩
end
theorem BrkI.cancel {q:Bpar} {a:Lad} {F:Nat->Prop} {s:Lst} {steps wn:Nat} {u v:World} (h:BrkI q a F s false steps wn u) (hf:s.failed=false) (hL:RLine q.p a q.x F q.l s.halt v) (hE:Edit F u v):BrkI q a F s.halt true steps wn (v.setCell ⟨q.kb,13,none⟩ (.bool true))/\Bx v q.kb 72 (let cut:=false;#[.pointer (some ⟨q.l,0,none⟩),O I q.ch,O I q.d,O I q.B,O I q.k3,O I q.k4,O I q.k5,O I q.k6,O I q.k7,.slice (some ⟨q.gx,0,none⟩) q.ch q.cx,.string q.tx,.slice (some ⟨q.ga,0,none⟩) (q.N+1) q.ca,O I q.fail,.bool cut,O I (steps:Nat),O I (wn:Nat)]):=by
 have hnk:∀ k,F k->k ≠ q.kb:=fun k hk=>(h.far k hk).2
 have hB:=h.brk.edit hE fun hh=>hnk _ hh rfl
 have he:Edit (·=q.kb) v (v.setCell ⟨q.kb,13,none⟩ (.bool true)):=Edit.one v q.kb 13 _;have hr:=y6K (p:=q.p) s;have hst:=h.stp;have hL2:RLine q.p a q.x F q.l s.halt (v.setCell ⟨q.kb,13,none⟩ (.bool true)):=⟨hL.line.keep (fun k hk=>he.block k (hL.line.lt k hk) (hnk k hk)) he.size,hL.inv,hL.ptr.edit he h.fix.lk,hL.far⟩;have hE2:Edit (fun k=>F k∨k=q.kb) u (v.setCell ⟨q.kb,13,none⟩ (.bool true)):=(hE.mono fun k hk=>Or.inl hk).trans (he.mono fun k hk=>Or.inr hk);exact ⟨h.go hL2 hE2 (fun k hk=>hk.elim (fun hk=>(h.far k hk).1) (fun hk=>by have:=h.fix.kb;omega)) (hB.set 13 (.bool true)) (fun k hk=>Or.inl hk) h.wr (fun _=>⟨rfl,hf⟩) (fun hc=>by cases hc) (by omega),hB⟩
theorem y0Y {s:Lst} (h:s.e2=false):lstN s=0:=by unfold lstN;rw [h];rfl
theorem z8q {s:Lst} (h:s.e2=true):¬ lstN s=0:=by
 unfold lstN;rw [h];cases s.stopped <;> cases s.failed <;> simp
section
variable {q:Bpar} {a:Lad} {F:Nat->Prop} {s:Lst} {cut:Bool} {steps wn:Nat} {u:World}
set_option maxRecDepth 100000 in
set_option maxHeartbeats 4000000 in
theorem z9Q (h:BrkI q a F s cut steps wn u) (kd nm:Int) (hk:-9223372036854775808<=kd/\kd<=9223372036854775807) (hp:pickV kd 4=1) (h2:s.e2=true∨s.stopped=true) :
 Calls prog 27 #[.pointer (some ⟨q.kb,0,none⟩),.agg #[O I kd,O I nm]] u fun e w'=>e=.returned (.bool true)/\BrkE q w':=by
 have HPK:=zZ (fun w=>z0U kd 4 w (by omega) (by omega) hk);rw [hp] at HPK;have HI:=zZ (h.box1 #[O I kd,O I nm] 75);have x0:=(Bx.new u #[O I kd,O I nm] 75).cell 0;have z0:=HI.out.brk.cell 0;simp at x0 z0;have HLK:=zZ (z1X HI.out);have HCA:Hid (∀ u2,BrkI q a F s cut steps wn u2->Calls prog 54 #[.pointer (some ⟨q.l,0,none⟩)] u2 fun e w'=>e=.returned (O I 9)/\Below u2.heap.size u2 w'):=fun u2 hu=>by
  cases h3:s.e2 with
  | true=>exact z4T hu.line h3
  | false=>exact y2N hu.line h3 (h2.elim (fun h4=>absurd h4 (by rw [h3];decide)) id)
 have hcs:(¬ lstN s=0)∨(lstN s=0/\(cut=true∨(cut=false/\1<=q.fail/\q.fail<=(s.writes:Int)))):=by
  cases h3:s.e2 with
  | true=>exact Or.inl (z8q h3)
  | false =>
   have h4:s.stopped=true:=h2.elim (fun h4=>absurd h4 (by rw [h3];decide)) id;refine Or.inr ⟨y0Y h3,?_⟩;cases hc:cut with
   | true=>exact Or.inl rfl
   | false =>
    have h5:=h.cutF hc;obtain ⟨h6,h7⟩:=h.line.inv.ff (h5.symm.trans h4);have h8:(s.writes:Int)=q.fail:=h6;exact Or.inr ⟨rfl,by omega,by omega⟩
 generalize lstN s=ln at *;clear h hk hp h2
 go_enter Tryz.func27,Tryz.ntmps27
 go_wp2_with (first
  | (go_at_call 13;refine (HPK.out _).mono ?_;rintro e u1 ⟨rfl,hu⟩;subst u1;clear HPK)
  | (go_at_call 24;refine HLK.out.mono ?_;rintro e u2 ⟨A1,q1,A2,q2,A3,q3,rfl,hb⟩;have HZ:=zZ (z2g HI.out hb #[O I ln,O I s.given,O I s.summed,O I s.wrote,O I s.writes,O I s.jobs.length,O I s.lane.length,O I s.ready.length,.slice A1 q.k5 q1,.slice A2 s.shelf.length q2,.slice A3 (s.ended q.p).length q3]);have y0:=HZ.out.1.brk.cell 0;simp at y0;have HC1:=zZ (HCA.out _ HZ.out.1);clear hb HI HLK HCA)
  | (refine z0b rfl _ _ 64 rfl u2.heap.size 64 _ _ rfl rfl (Bx.new u2 #[O I 0,O I 0,O I 0,O I 0,O I 0,O I 0,O I 0,O I 0,.slice none 0 0,.slice none 0 0,.slice none 0 0] 64) z0D rfl rfl ?_)
  | (go_at_call 54;refine HC1.out.mono ?_;rintro e u3 ⟨rfl,hb⟩;have HI3:=zZ (HZ.out.1.keep hb);have bx:=HZ.out.2.below hb;have v0:=bx.cell 0;have v4:=bx.cell 4;have y12:=HI3.out.brk.cell 12;have y13:=HI3.out.brk.cell 13;simp at v0 v4 y12 y13;clear hb bx HZ HC1))
 rcases hcs with hc | ⟨rfl,rfl | ⟨rfl,hc1,hc2⟩⟩
 . have hc2:(ln == 0)=false:=by simpa using hc
   have hc4:(ln != 0)=true:=by simpa using hc
   go_quiet (fail)
   go_wp2_with fail;go_ret;exact ⟨rfl,_,_,_,_,_,_,HI3.out.keep (z0t zX nq)⟩
 . go_quiet (fail)
   go_wp2_with fail;go_ret;exact ⟨rfl,_,_,_,_,_,_,HI3.out.keep (z0t zX nq)⟩
 . have d1:decide ((1:Int)<=q.fail)=true:=decide_eq_true hc1
   have d2:decide (q.fail<=(s.writes:Int))=true:=decide_eq_true hc2
   go_quiet (fail)
   go_wp2_with fail;go_ret;exact ⟨rfl,_,_,_,_,_,_,HI3.out.keep (z0t zX nq)⟩
set_option maxRecDepth 100000 in
set_option maxHeartbeats 4000000 in
theorem y0Z (h:BrkI q a F s cut steps wn u) (kd nm:Int) (hk:-9223372036854775808<=kd/\kd<=9223372036854775807) (hp:pickV kd 4=1) (h2:s.e2=false) (h3:s.stopped=false) :
 Calls prog 27 #[.pointer (some ⟨q.kb,0,none⟩),.agg #[O I kd,O I nm]] u fun e w'=>e=.returned (.bool true)/\BrkE q w':=by
 have hcut:cut=false:=by
  cases hc:cut with
  | false=>rfl
  | true=>exact absurd (h.cutT hc).1 (by rw [h3];decide)
 subst hcut;have HPK:=zZ (fun w=>z0U kd 4 w (by omega) (by omega) hk);rw [hp] at HPK;have HI:=zZ (h.box1 #[O I kd,O I nm] 75);have x0:=(Bx.new u #[O I kd,O I nm] 75).cell 0;have z0:=HI.out.brk.cell 0;simp at x0 z0;have HLK:=zZ (z1X HI.out);rw [y0Y h2] at HLK;have HCA:Hid (∀ u2,BrkI q a F s false steps wn u2->Calls prog 54 #[.pointer (some ⟨q.l,0,none⟩)] u2 fun e w'=>e=.returned (O I 0)/\RLine q.p a q.x F q.l s.halt w'/\Edit F u2 w'):=fun u2 hu=>y0Q hu.line h2 h3
 have hff:s.failed=false:=(h.cutF rfl).symm.trans h3;have HCN:Hid (∀ u2 v,BrkI q a F s false steps wn u2->RLine q.p a q.x F q.l s.halt v->Edit F u2 v->BrkI q a F s.halt true steps wn (v.setCell ⟨q.kb,13,none⟩ (.bool true))/\Bx v q.kb 72 (let cut:=false;#[.pointer (some ⟨q.l,0,none⟩),O I q.ch,O I q.d,O I q.B,O I q.k3,O I q.k4,O I q.k5,O I q.k6,O I q.k7,.slice (some ⟨q.gx,0,none⟩) q.ch q.cx,.string q.tx,.slice (some ⟨q.ga,0,none⟩) (q.N+1) q.ca,O I q.fail,.bool cut,O I (steps:Nat),O I (wn:Nat)])):=fun u2 v hu hL hE=>hu.cancel hff hL hE
 have HNF:Hid (∀ u2,Below (Go.World.heap (u.alloc (.cells #[O I kd,O I nm] 75))).size (u.alloc (.cells #[O I kd,O I nm] 75)) u2->¬ F u2.heap.size):=fun u2 hb hh=>by
  have:=HI.out.line.line.lt _ hh;have:=hb.size;omega
 have hwf:q.fail < 1∨(1<=q.fail/\(s.writes:Int) < q.fail):=by
  have h5:q.fail < 1∨(s.writes:Int) < q.fail:=h.line.inv.wf h3;omega
 clear h hk hp h2 h3 hff
 go_enter Tryz.func27,Tryz.ntmps27
 go_wp2_with (first
  | (go_at_call 13;refine (HPK.out _).mono ?_;rintro e u1 ⟨rfl,hu⟩;subst u1;clear HPK)
  | (go_at_call 24;refine HLK.out.mono ?_;rintro e u2 ⟨A1,q1,A2,q2,A3,q3,rfl,hb⟩;have HZ:=zZ (z2g HI.out hb #[O I 0,O I s.given,O I s.summed,O I s.wrote,O I s.writes,O I s.jobs.length,O I s.lane.length,O I s.ready.length,.slice A1 q.k5 q1,.slice A2 s.shelf.length q2,.slice A3 (s.ended q.p).length q3]);have HNF2:=zZ (HNF.out u2 hb);have y0:=HZ.out.1.brk.cell 0;simp at y0;have HC1:=zZ (HCA.out _ HZ.out.1);clear hb HI HLK HCA HNF)
  | (refine z0b rfl _ _ 64 rfl u2.heap.size 64 _ _ rfl rfl (Bx.new u2 #[O I 0,O I 0,O I 0,O I 0,O I 0,O I 0,O I 0,O I 0,.slice none 0 0,.slice none 0 0,.slice none 0 0] 64) z0D rfl rfl ?_)
  | (go_at_call 54;refine HC1.out.mono ?_;rintro e u3 ⟨rfl,hL,hE⟩;have HL3:=zZ hL;have HE3:=zZ hE;obtain ⟨-,hB3⟩:=HCN.out _ _ HZ.out.1 hL hE;have bx:=HZ.out.2.edit hE HNF2.out;have v0:=bx.cell 0;have v4:=bx.cell 4;have y12:=hB3.cell 12;have y13:=hB3.cell 13;simp at v0 v4 y12 y13;clear hL hE bx hB3 HC1))
 rcases hwf with hc | ⟨hc1,hc2⟩
 . have d1:decide ((1:Int)<=q.fail)=false:=decide_eq_false (by omega)
   have d2:¬ ((1:Int)<=q.fail):=by omega
   go_quiet (fail)
   obtain ⟨hI4,hB4⟩:=HCN.out _ (u3.drewN nq) HZ.out.1 (HL3.out.keep (z0t zX nq)) (HE3.out.drewN nq);have HI4:=zZ hI4;have y13:=hB4.cell 13;have f13:=hB4.free 13;simp at y13;clear hI4 hB4;go_wp2_with fail;go_ret;exact ⟨rfl,_,_,_,_,_,_,HI4.out⟩
 . have d1:decide ((1:Int)<=q.fail)=true:=decide_eq_true hc1
   have d2:decide (q.fail<=(s.writes:Int))=false:=decide_eq_false (by omega);have d3:¬ (q.fail<=(s.writes:Int)):=by omega
   go_quiet (fail)
   obtain ⟨hI4,hB4⟩:=HCN.out _ (u3.drewN nq) HZ.out.1 (HL3.out.keep (z0t zX nq)) (HE3.out.drewN nq);have HI4:=zZ hI4;have y13:=hB4.cell 13;have f13:=hB4.free 13;simp at y13;clear hI4 hB4;go_wp2_with fail;go_ret;exact ⟨rfl,_,_,_,_,_,_,HI4.out⟩
end
end Go.Proofs.YtlncjgnomhpjnabGreatDoor
namespace Go.Proofs.YtlncjgnomhpjnabGreatDoor
open Go.Value renaming int → O
open Go.IntKind renaming i64 → I
open Go.Proofs.Tryz (prog)
open Go.RowKit Go.Deep
set_option linter.unusedVariables false
section
variable {q:Bpar} {a:Lad} {F:Nat->Prop} {s:Lst} {cut:Bool} {steps wn:Nat} {u:World}
set_option linter.unusedSimpArgs false in
set_option maxRecDepth 100000 in
set_option maxHeartbeats 4000000 in
theorem y5o (h:BrkI q a F s cut steps wn u) (kd nm:Int) (hk:-9223372036854775808<=kd/\kd<=9223372036854775807) (hm:-9223372036854775808<=nm/\nm<=9223372036854775807) (hp:pickV kd 4=0) (h2:s.e2=false) :
 Calls prog 27 #[.pointer (some ⟨q.kb,0,none⟩),.agg #[O I kd,O I nm]] u fun e w'=>e=.returned (.bool true)/\BrkE q w':=by
 have HPK:=zZ (fun w=>z0U kd 4 w (by omega) (by omega) hk);rw [hp] at HPK;have HPB:=zZ (fun w=>y1Y nm w hm);have HI:=zZ (h.box1 #[O I kd,O I nm] 75);have hM:=Bx.new u #[O I kd,O I nm] 75;have x0:=hM.cell 0;have z0:=HI.out.brk.cell 0;simp at x0 z0;have HM:=zZ hM;have hN3:q.N<=300:=h.fix.kp.nb;have hk5:=h.fix.cfg.c58;have hst:=h.stp;have HNF:Hid (¬ F u.heap.size):=fun hh=>absurd (h.line.line.lt _ hh) (Nat.lt_irrefl _)
 have HST:Hid (∀ u2 (k:Nat),BrkI q a F s cut steps wn u2->k<=4611686018427387904->Calls prog 51 #[.pointer (some ⟨q.l,0,none⟩),O I k] u2 fun e w'=>∃ t:Nat,e=.returned (.tuple #[O I t,O I 0])/\∃ a' F' s',(BrkI q a' F' s' cut steps wn w'/\s'.rem q.p+1<=s.rem q.p/\Edit F u2 w')):=fun u2 k hu hk=>y6L hu h2 k (by omega)
 have wst:IntKind.i64.wrap ((steps:Int)+1)=((steps+1:Nat):Int):=by rw [IntKind.wrap_i64];omega
 have HSP:=zZ hst;clear h hk hm hp h2 hM hst
 go_enter Tryz.func27,Tryz.ntmps27
 go_wp2_with (go_at_call 13;refine (HPK.out _).mono ?_;rintro e u1 ⟨rfl,hu⟩;subst u1;clear HPK)
 have hI1:BrkI q a F s cut steps wn (u.alloc (.cells #[O I kd,O I nm] 75)).drew:=HI.out.keep (z0t zX 1);have HI1:=zZ hI1;have hS0:(u.alloc (.cells #[O I kd,O I nm] 75)).drew.cell? ⟨q.kb,0,none⟩=some (.pointer (some ⟨q.l,0,none⟩))/\(u.alloc (.cells #[O I kd,O I nm] 75)).drew.cell? ⟨u.heap.size,1,none⟩=some (O I nm):=⟨hI1.brk.cell 0,HM.out.cell 1⟩;clear hI1 HI;refine wp_region_held_drew (S:=fun w'=>w'.cell? ⟨q.kb,0,none⟩=some (.pointer (some ⟨q.l,0,none⟩))/\w'.cell? ⟨u.heap.size,1,none⟩=some (O I nm)) (by kernel_rfl) hS0 (fun hHeld=>?_);refine tq (i:=0) rfl (by rfl) (by assumption) ?_;try simp only [q1,q2,q3,Act.put,q4,q5,q6]
 refine tq (i:=1) rfl (by rfl) (by assumption) ?_;try simp only [q1,q2,q3,Act.put,q4,q5,q6]
 refine tq (i:=2) rfl (by rfl) (by assumption) ?_;try simp only [q1,q2,q3,Act.put,q4,q5,q6]
 refine tq (i:=3) rfl (by rfl) (by assumption) ?_;try simp only [q1,q2,q3,Act.put,q4,q5,q6]
 refine tq (i:=4) rfl (by rfl) (by assumption) ?_;try simp only [q1,q2,q3,Act.put,q4,q5,q6]
 refine tq (i:=5) rfl (by rfl) (by assumption) ?_;try simp only [q1,q2,q3,Act.put,q4,q5,q6]
 refine wpAnyH_ready (rs:=[6]) (by kernel_rfl) (by simp) ?_;refine AllReadyH.cons rfl (fun K hK=>?_) (AllReadyH.nil)
 go_simp
 go_at_call 13
 refine (HPB.out _).mono ?_;rintro e u1 ⟨k,hkb,rfl,hu⟩;subst u1;have HS1:=zZ (HST.out _ k HI1.out hkb);clear HPB HST;go_wp2_with fail;refine hK.out _ _ hS0 (fun hHeld=>?_);clear hK K
 try simp only [q1,q2,q3,Act.put,q4,q5,q6]
 refine wpAnyH_ready (rs:=[7]) (by kernel_rfl) (by simp) ?_;refine AllReadyH.cons rfl (fun K hK=>?_) (AllReadyH.nil)
 go_simp
 go_at_call 51
 refine HS1.out.mono ?_;rintro e u2 ⟨t,rfl,a',F',s',hI,hr,hE⟩;have HI2:=zZ hI;have hS1:u2.cell? ⟨q.kb,0,none⟩=some (.pointer (some ⟨q.l,0,none⟩))/\u2.cell? ⟨u.heap.size,1,none⟩=some (O I nm):=⟨hI.brk.cell 0,(Bx.edit (w:=(u.alloc (.cells #[O I kd,O I nm] 75)).drew) HM.out hE HNF.out).cell 1⟩;have y14:=hI.brk.cell 14;have f14:=hI.brk.free 14;simp at y14;have HI3:=zZ (hI.put (cut':=cut) (steps':=steps+1) (wn':=wn) 14 (O I ((steps+1:Nat):Int)) (hI.brk.set 14 _) hI.wr hI.cutT hI.cutF (by have:=HSP.out;omega));clear hI hr hE HS1 hS0 HI1;go_wp2_with fail;refine hK.out _ _ hS1 (fun hHeld=>?_);clear hK K
 try simp only [q1,q2,q3,Act.put,q4,q5,q6]
 refine tq (i:=8) rfl (by rfl) (by assumption) ?_;try simp only [q1,q2,q3,Act.put,q4,q5,q6]
 refine tq (i:=9) rfl (by rfl) (by assumption) ?_;try simp only [q1,q2,q3,Act.put,q4,q5,q6]
 refine tq (i:=10) rfl (by rfl) (by assumption) ?_;try simp only [q1,q2,q3,Act.put,q4,q5,q6]
 refine tq (i:=11) rfl (by rfl) (by assumption) ?_;try simp only [q1,q2,q3,Act.put,q4,q5,q6]
 refine tq (i:=12) rfl (by rfl) (by assumption) ?_;try simp only [q1,q2,q3,Act.put,q4,q5,q6]
 refine wpAnyH_done (by kernel_rfl) ?_ _;go_wp2_with fail;go_ret;exact ⟨rfl,_,_,_,_,_,_,HI3.out⟩
set_option linter.unusedSimpArgs false in
set_option maxRecDepth 100000 in
set_option maxHeartbeats 4000000 in
theorem y5p (h:BrkI q a F s cut steps wn u) (kd nm:Int) (hk:-9223372036854775808<=kd/\kd<=9223372036854775807) (hm:-9223372036854775808<=nm/\nm<=9223372036854775807) (hp:pickV kd 4=0) (h2:s.e2=true) :
 Calls prog 27 #[.pointer (some ⟨q.kb,0,none⟩),.agg #[O I kd,O I nm]] u fun e w'=>e=.returned (.bool true)/\BrkE q w':=by
 have HPK:=zZ (fun w=>z0U kd 4 w (by omega) (by omega) hk);rw [hp] at HPK;have HPB:=zZ (fun w=>y1Y nm w hm);have HI:=zZ (h.box1 #[O I kd,O I nm] 75);have hM:=Bx.new u #[O I kd,O I nm] 75;have x0:=hM.cell 0;have z0:=HI.out.brk.cell 0;simp at x0 z0;have HM:=zZ hM;have HST:Hid (∀ u2 (k:Nat),BrkI q a F s cut steps wn u2->Calls prog 51 #[.pointer (some ⟨q.l,0,none⟩),O I k] u2 fun e w'=>e=.returned (.tuple #[O I 0,O I 9])/\Below u2.heap.size u2 w'):=fun u2 k hu=>z7m hu.line k h2
 have HLK0:=zZ (fun u (hu:BrkI q a F s cut steps wn u)=>z1X hu);have hc:=z8q h2;generalize lstN s=ln at *;have hc2:(ln == 0)=false:=by simpa using hc
 have hc4:(ln != 0)=true:=by simpa using hc
 clear h hk hm hp h2 hM
 go_enter Tryz.func27,Tryz.ntmps27
 go_wp2_with (go_at_call 13;refine (HPK.out _).mono ?_;rintro e u1 ⟨rfl,hu⟩;subst u1;clear HPK)
 have hI1:BrkI q a F s cut steps wn (u.alloc (.cells #[O I kd,O I nm] 75)).drew:=HI.out.keep (z0t zX 1);have HI1:=zZ hI1;have hS0:(u.alloc (.cells #[O I kd,O I nm] 75)).drew.cell? ⟨q.kb,0,none⟩=some (.pointer (some ⟨q.l,0,none⟩))/\(u.alloc (.cells #[O I kd,O I nm] 75)).drew.cell? ⟨u.heap.size,1,none⟩=some (O I nm):=⟨hI1.brk.cell 0,HM.out.cell 1⟩;clear hI1 HI;refine wp_region_held_drew (S:=fun w'=>w'.cell? ⟨q.kb,0,none⟩=some (.pointer (some ⟨q.l,0,none⟩))/\w'.cell? ⟨u.heap.size,1,none⟩=some (O I nm)) (by kernel_rfl) hS0 (fun hHeld=>?_);refine tq (i:=0) rfl (by rfl) (by assumption) ?_;try simp only [q1,q2,q3,Act.put,q4,q5,q6]
 refine tq (i:=1) rfl (by rfl) (by assumption) ?_;try simp only [q1,q2,q3,Act.put,q4,q5,q6]
 refine tq (i:=2) rfl (by rfl) (by assumption) ?_;try simp only [q1,q2,q3,Act.put,q4,q5,q6]
 refine tq (i:=3) rfl (by rfl) (by assumption) ?_;try simp only [q1,q2,q3,Act.put,q4,q5,q6]
 refine tq (i:=4) rfl (by rfl) (by assumption) ?_;try simp only [q1,q2,q3,Act.put,q4,q5,q6]
 refine tq (i:=5) rfl (by rfl) (by assumption) ?_;try simp only [q1,q2,q3,Act.put,q4,q5,q6]
 refine wpAnyH_ready (rs:=[6]) (by kernel_rfl) (by simp) ?_;refine AllReadyH.cons rfl (fun K hK=>?_) (AllReadyH.nil)
 go_simp
 go_at_call 13
 refine (HPB.out _).mono ?_;rintro e u1 ⟨k,hkb,rfl,hu⟩;subst u1;have HS1:=zZ (HST.out _ k HI1.out);clear HPB HST;go_wp2_with fail;refine hK.out _ _ hS0 (fun hHeld=>?_);clear hK K
 try simp only [q1,q2,q3,Act.put,q4,q5,q6]
 refine wpAnyH_ready (rs:=[7]) (by kernel_rfl) (by simp) ?_;refine AllReadyH.cons rfl (fun K hK=>?_) (AllReadyH.nil)
 go_simp
 go_at_call 51
 refine HS1.out.mono ?_;rintro e u2 ⟨rfl,hb⟩;have hI:=HI1.out.keep hb;have HI2:=zZ hI;have hS1:u2.cell? ⟨q.kb,0,none⟩=some (.pointer (some ⟨q.l,0,none⟩))/\u2.cell? ⟨u.heap.size,1,none⟩=some (O I nm):=⟨hI.brk.cell 0,(Bx.below (w:=(u.alloc (.cells #[O I kd,O I nm] 75)).drew) HM.out hb).cell 1⟩;have y0:=hI.brk.cell 0;simp at y0;have HLK:=zZ (HLK0.out u2 hI);clear hI hb HS1 hS0 HI1 HLK0;go_wp2_with fail;refine hK.out _ _ hS1 (fun hHeld=>?_);clear hK K
 try simp only [q1,q2,q3,Act.put,q4,q5,q6]
 refine tq (i:=8) rfl (by rfl) (by assumption) ?_;try simp only [q1,q2,q3,Act.put,q4,q5,q6]
 refine tq (i:=9) rfl (by rfl) (by assumption) ?_;try simp only [q1,q2,q3,Act.put,q4,q5,q6]
 refine tq (i:=10) rfl (by rfl) (by assumption) ?_;try simp only [q1,q2,q3,Act.put,q4,q5,q6]
 refine tq (i:=11) rfl (by rfl) (by assumption) ?_;try simp only [q1,q2,q3,Act.put,q4,q5,q6]
 refine tq (i:=12) rfl (by rfl) (by assumption) ?_;try simp only [q1,q2,q3,Act.put,q4,q5,q6]
 refine wpAnyH_done (by kernel_rfl) ?_ _
 go_wp2_with (first
  | (go_at_call 24;refine HLK.out.mono ?_;rintro e u3 ⟨A1,q1,A2,q2,A3,q3,rfl,hb⟩;have HZ:=zZ (z2g HI2.out hb #[O I ln,O I s.given,O I s.summed,O I s.wrote,O I s.writes,O I s.jobs.length,O I s.lane.length,O I s.ready.length,.slice A1 q.k5 q1,.slice A2 s.shelf.length q2,.slice A3 (s.ended q.p).length q3]);have v0:=HZ.out.2.cell 0;simp at v0;clear hb HI2 HLK)
  | (refine z0b rfl _ _ 64 rfl u3.heap.size 64 _ _ rfl rfl (Bx.new u3 #[O I 0,O I 0,O I 0,O I 0,O I 0,O I 0,O I 0,O I 0,.slice none 0 0,.slice none 0 0,.slice none 0 0] 64) z0D rfl rfl ?_))
 go_ret;exact ⟨rfl,_,_,_,_,_,_,HZ.out.1⟩
theorem y6M {q:Bpar} {u:World} (h:BrkE q u) (kd nm:Int) (hk:-9223372036854775808<=kd/\kd<=9223372036854775807) (hm:-9223372036854775808<=nm/\nm<=9223372036854775807) :
 Calls prog 27 #[.pointer (some ⟨q.kb,0,none⟩),.agg #[O I kd,O I nm]] u fun e w'=>e=.returned (.bool true)/\BrkE q w':=by
 obtain ⟨a,F,s,cut,steps,wn,h⟩:=h;have hlt:=z0F kd 4 (by omega)
 by_cases h0:pickV kd 4=0
 . cases h2:s.e2 with
   | false=>exact y5o h kd nm hk hm h0 h2
   | true=>exact y5p h kd nm hk hm h0 h2
 . by_cases h1:pickV kd 4=1
   . cases h2:s.e2 with
     | true=>exact z9Q h kd nm hk h1 (Or.inl h2)
     | false =>
      cases h3:s.stopped with
      | true=>exact z9Q h kd nm hk h1 (Or.inr h3)
      | false=>exact y0Z h kd nm hk h1 h2 h3
   . by_cases h4:pickV kd 4=2
     . exact y5m h kd nm hk h4
     . exact y5n h kd nm hk (by omega)
end
theorem y5q {q:Bpar} {a:Lad} {F:Nat->Prop} {s:Lst} {cut:Bool} {steps wn:Nat} {u:World} (h:BrkI q a F s cut steps wn u) (h2:s.e2=false) (k:Nat) (hk:(k:Int)<=9223372036854775807) :
 Calls prog 51 #[.pointer (some ⟨q.l,0,none⟩),O I k] u fun e w'=>∃ t:Nat,e=.returned (.tuple #[O I t,O I 0])/\∃ a' F' s',(BrkI q a' F' s' cut steps wn w'/\s'.rem q.p+1<=s.rem q.p/\Edit F u w'/\∀ k,F' k->F k∨u.heap.size<=k):=by
 refine (z9J h.line (h.fix.tf.below h.bel) k hk h2).mono ?_;rintro e w' ⟨rfl,c,a',F',hc,-,hO,hL,hE⟩;obtain ⟨-,-,ht,-⟩:=z5l (k:=k) (h.line.able_ne h2);have hr:=(y1K h.line.inv ht hc).1;have hf:=z9P h.line.inv ht hc;have hg:=z9C (p:=q.p) (s:=s) c;have hst:=h.stp;refine ⟨_,rfl,a',F',s.act q.p c,h.go hL hE (fun k hk=>(h.far k hk).1) (h.brk.edit hE fun hh=>(h.far _ hh).2 rfl) hO.2 (Nat.le_trans h.wr hg.2.2.1) (fun hc=>?_) (fun hc=>?_) (by omega),hr,hE,hO.2⟩
 . obtain ⟨h1,h3⟩:=h.cutT hc
   exact ⟨(hf.1 h1).1,(hf.1 h1).2.trans h3⟩
 . cases h1:s.stopped with
   | false=>exact hf.2 h1
   | true =>
    rw [(hf.1 h1).1,(hf.1 h1).2,← h.cutF hc,h1]
structure EndI (q:Bpar) (vb:Nat) (a:Lad) (F:Nat->Prop) (s:Lst) (cut:Bool) (steps wn:Nat) (ds:Array Value) (u:World):Prop where
 brk:BrkI q a F s cut steps wn u
 view:Bx u vb 64 ds
 size:ds.size=11
 st:ds[0]?=some (O I (lstN s))
 far:∀ k,F k->k ≠ vb
 kb:q.kb < vb
 l:q.l < vb
theorem EndI.put {q:Bpar} {vb:Nat} {a:Lad} {F:Nat->Prop} {s:Lst} {cut:Bool} {steps wn:Nat} {ds es:Array Value} {u:World} (hI:BrkI q a F s cut steps wn u) (hF:∀ k,F k->k ≠ vb) (hk:q.kb < vb) (hl:q.l < vb) (hv:Bx u vb 64 ds) (hs:es.size=11) (hn:es[0]?=some (O I (lstN s))):EndI q vb a F s cut steps wn es (u.setRow vb es):=by
 have he:Edit (·=vb) u (u.setRow vb es):=⟨rfl,rfl,rfl,by simp,fun k hk hS=>setRow_other _ _ _ _ hS⟩;have hb:=hI.fix.kb;exact ⟨hI.go ⟨hI.line.line.keep (fun k hk=>setRow_other _ _ _ _ (hF k hk)) (by simp),hI.line.inv,hI.line.ptr.other (by omega) _,hI.line.far⟩ he (fun k hk=>by omega) (hI.brk.other (by omega) _) (fun k hk=>Or.inl hk) hI.wr hI.cutT hI.cutF hI.stp,hv.row _,hs,hn,hF,hk,hl⟩
def y1a (q:Bpar) (w:World):Nat:=match w.cell? ⟨q.kb,14,none⟩ with
 | some (.int _ z)=>z.toNat
 | _=>0
theorem BrkI.steps {q:Bpar} {a:Lad} {F:Nat->Prop} {s:Lst} {cut:Bool} {steps wn:Nat} {u:World} (h:BrkI q a F s cut steps wn u):y1a q u=steps:=by
 unfold y1a;rw [h.brk.cell 14];simp
set_option linter.unusedSimpArgs false in
set_option maxRecDepth 100000 in
set_option maxHeartbeats 4000000 in
theorem y6N {q:Bpar} {a:Lad} {F:Nat->Prop} {s:Lst} {cut:Bool} {steps wn:Nat} {u:World} (h:BrkI q a F s cut steps wn u) :
 Calls prog 28 #[.pointer (some ⟨q.kb,0,none⟩)] u fun e w'=>e=.returned (.bool true)/\∃ a' F' s' steps' wn',BrkI q a' F' s' cut steps' wn' w'/\s'.e2=true:=by
 have hN3:q.N<=300:=h.fix.kp.nb;have hk5:=h.fix.cfg.c58;have w1:IntKind.i64.wrap (((q.N+1:Nat):Int) - 1)=(q.N:Int):=by rw [IntKind.wrap_i64];omega
 have w2:IntKind.i64.wrap ((q.N:Int)+1 - 1)=(q.N:Int):=by rw [IntKind.wrap_i64];omega
 have w3:IntKind.i64.wrap (q.N:Int)=(q.N:Int):=by rw [IntKind.wrap_i64];omega
 have hI0:BrkI q a F s cut steps wn u.drew:=h.keep (z0t zX 1);have HI0:=zZ hI0;have HAL:=zZ (y8d q.ch q.d q.B q.k3 q.k4 q.k6 q.k7 q.k5 q.N u.drew hk5 hN3);have hS0:Bx u.drew q.kb 72 #[.pointer (some ⟨q.l,0,none⟩),O I q.ch,O I q.d,O I q.B,O I q.k3,O I q.k4,O I q.k5,O I q.k6,O I q.k7,.slice (some ⟨q.gx,0,none⟩) q.ch q.cx,.string q.tx,.slice (some ⟨q.ga,0,none⟩) (q.N+1) q.ca,O I q.fail,.bool cut,O I (steps:Nat),O I (wn:Nat)]/\u.drew.cell? ⟨q.kb,11,none⟩=some (.slice (some ⟨q.ga,0,none⟩) (q.N+1) q.ca):=⟨hI0.brk,hI0.brk.cell 11⟩;clear hI0 h
 go_enter Tryz.func28,Tryz.ntmps28
 go_wp2_with fail;refine wp_region_held_drew (S:=fun w'=>Bx w' q.kb 72 #[.pointer (some ⟨q.l,0,none⟩),O I q.ch,O I q.d,O I q.B,O I q.k3,O I q.k4,O I q.k5,O I q.k6,O I q.k7,.slice (some ⟨q.gx,0,none⟩) q.ch q.cx,.string q.tx,.slice (some ⟨q.ga,0,none⟩) (q.N+1) q.ca,O I q.fail,.bool cut,O I (steps:Nat),O I (wn:Nat)]/\w'.cell? ⟨q.kb,11,none⟩=some (.slice (some ⟨q.ga,0,none⟩) (q.N+1) q.ca)) (by kernel_rfl) hS0 (fun hHeld=>?_);refine tq (i:=0) rfl (by rfl) (by assumption) ?_;try simp only [q1,q2,q3,Act.put,q4,q5,q6]
 refine tq (i:=1) rfl (by rfl) (by assumption) ?_;try simp only [q1,q2,q3,Act.put,q4,q5,q6]
 refine tq (i:=2) rfl (by rfl) (by assumption) ?_;try simp only [q1,q2,q3,Act.put,q4,q5,q6]
 refine tk (i:=3) (v:=?_) rfl (fun _ _ _ h=>h) (Or.inl ⟨by rfl,?_⟩) (by assumption) ?_;rotate_left
 . (intro wx hSw;refine z4U (Operand.tmp 9) 23 ?_ q.kb 1 [O I q.ch,O I q.d,O I q.B,O I q.k3,O I q.k4,O I q.k5,O I q.k6,O I q.k7] _ ?_ (y5l hSw.1) Tryz.underlying23 rfl z1h <;> rfl)
 try simp only [q1,q2,q3,Act.put,q4,q5,q6]
 refine tq (i:=4) rfl (by rfl) (by assumption) ?_;try simp only [q1,q2,q3,Act.put,q4,q5,q6]
 refine tq (i:=5) rfl (by rfl) (by assumption) ?_;try simp only [q1,q2,q3,Act.put,q4,q5,q6]
 refine tq (i:=6) rfl (by rfl) (by assumption) ?_;try simp only [q1,q2,q3,Act.put,q4,q5,q6]
 refine tq (i:=7) rfl (by rfl) (by assumption) ?_;try simp only [q1,q2,q3,Act.put,q4,q5,q6]
 refine tq (i:=8) rfl (by rfl) (by assumption) ?_;try simp only [q1,q2,q3,Act.put,q4,q5,q6]
 refine tq (i:=9) rfl (by rfl) (by assumption) ?_;try simp only [q1,q2,q3,Act.put,q4,q5,q6]
 refine wpAnyH_ready (rs:=[10]) (by kernel_rfl) (by simp) ?_;refine AllReadyH.cons rfl (fun K hK=>?_) (AllReadyH.nil)
 go_simp
 go_at_call 23
 refine HAL.out.mono ?_;rintro e wa ⟨rfl,hb⟩;have hI1:=HI0.out.keep hb;have HI1:=zZ hI1;have hS1:Bx wa q.kb 72 #[.pointer (some ⟨q.l,0,none⟩),O I q.ch,O I q.d,O I q.B,O I q.k3,O I q.k4,O I q.k5,O I q.k6,O I q.k7,.slice (some ⟨q.gx,0,none⟩) q.ch q.cx,.string q.tx,.slice (some ⟨q.ga,0,none⟩) (q.N+1) q.ca,O I q.fail,.bool cut,O I (steps:Nat),O I (wn:Nat)]/\wa.cell? ⟨q.kb,11,none⟩=some (.slice (some ⟨q.ga,0,none⟩) (q.N+1) q.ca):=⟨hI1.brk,hI1.brk.cell 11⟩;have z0:=hI1.brk.cell 0;simp at z0;have HLK:=zZ (z1X hI1);clear hb hI1 HAL HI0 hS0;obtain ⟨M,hM⟩:∃ M,M=6 * q.N+q.k5+4:=⟨_,rfl⟩;have hMb:M<=2000:=by omega
 have HM:=zZ hM;rw [← hM];clear hM;go_wp2_with fail;refine hK.out _ _ hS1 (fun hHeld=>?_);clear hK K
 try simp only [q1,q2,q3,Act.put,q4,q5,q6]
 refine tq (i:=11) rfl (by rfl) (by assumption) ?_;try simp only [q1,q2,q3,Act.put,q4,q5,q6]
 refine wpAnyH_done (by kernel_rfl) ?_ _;clear hS1
 go_wp2_with (first
  | (go_at_call 24;refine HLK.out.mono ?_;rintro e wb ⟨A1,q1,A2,q2,A3,q3,rfl,hb⟩;have HE0:Hid (EndI q wb.heap.size a F s cut steps wn #[O I (lstN s),O I s.given,O I s.summed,O I s.wrote,O I s.writes,O I s.jobs.length,O I s.lane.length,O I s.ready.length,.slice A1 q.k5 q1,.slice A2 s.shelf.length q2,.slice A3 (s.ended q.p).length q3] ((wb.alloc (.cells #[O I 0,O I 0,O I 0,O I 0,O I 0,O I 0,O I 0,O I 0,.slice none 0 0,.slice none 0 0,.slice none 0 0] 64)).setRow wb.heap.size #[O I (lstN s),O I s.given,O I s.summed,O I s.wrote,O I s.writes,O I s.jobs.length,O I s.lane.length,O I s.ready.length,.slice A1 q.k5 q1,.slice A2 s.shelf.length q2,.slice A3 (s.ended q.p).length q3])):=(by have hz:=z2g HI1.out hb #[O I (lstN s),O I s.given,O I s.summed,O I s.wrote,O I s.writes,O I s.jobs.length,O I s.lane.length,O I s.ready.length,.slice A1 q.k5 q1,.slice A2 s.shelf.length q2,.slice A3 (s.ended q.p).length q3];have hb2:=hb.size;have hlt:=HI1.out.line.line.lt;have hk:=HI1.out.brk.lt;have hl:=HI1.out.line.ptr.lt;exact ⟨hz.1,hz.2,rfl,rfl,fun k hk=>by have:=hlt k hk;omega,by omega,by omega⟩);clear hb HI1 HLK)
  | (refine z0b rfl _ _ 64 rfl wb.heap.size 64 _ _ rfl rfl (Bx.new wb #[O I 0,O I 0,O I 0,O I 0,O I 0,O I 0,O I 0,O I 0,.slice none 0 0,.slice none 0 0,.slice none 0 0] 64) z0D rfl rfl ?_))
 dsimp only [Act.put]
 go_loopw [5] (fun s5 wr=>True/\Hid (∃ a F s steps wn ds,EndI q wb.heap.size a F s cut steps wn ds wr)) (fun _ wr=>M - y1a q wr)
 case atStart=>exact ⟨trivial,_,_,_,_,_,_,HE0.out⟩
 case round =>
  obtain ⟨-,HH⟩:=hrel;obtain ⟨a1,F1,s1,st1,wn1,ds,hE⟩:=HH.out;have hse:=hE.brk.steps;have hst:=hE.brk.stp;rw [← HM.out] at hst;have v0:=(hE.view.cell 0).trans hE.st;clear HH HE0;cases h2:s1.e2 with
  | true =>
   have hln:=z8q h2;generalize lstN s1=ln at *;have hc2:(ln == 0)=false:=by simpa using hln
   have y14:=hE.brk.brk.cell 14;simp at y14;have i1:(st1:Int)<=(M:Int):=by omega
   have i2:st1<=M:=by omega
   have HB:=zZ hE.brk;have H2:=zZ h2;clear hE h2;go_wp2_with fail;go_ret;exact ⟨rfl,a1,F1,s1,st1,wn1,HB.out,H2.out⟩
  | false =>
   rw [y0Y h2] at v0;have hrem:1<=s1.rem q.p:=by
    by_cases h9:s1.rem q.p=0
    . exact absurd (hE.brk.line.inv.rem1 h9) (by rw [h2];decide)
    . omega
   have hI0:BrkI q a1 F1 s1 cut st1 wn1 wr.drew:=hE.brk.keep (z0t zX 1);have hS2:wr.drew.cell? ⟨q.kb,0,none⟩=some (.pointer (some ⟨q.l,0,none⟩))/\wr.drew.cell? ⟨q.kb,14,none⟩=some (O I st1):=⟨hI0.brk.cell 0,hI0.brk.cell 14⟩;have HST:=zZ (y5q hI0 h2 st1 (by omega));have HEE:=zZ hE;have HRM:=zZ (And.intro hrem hst);have wst:IntKind.i64.wrap ((st1:Int)+1)=((st1+1:Nat):Int):=by rw [IntKind.wrap_i64];omega
   have i1:¬ ((M:Int) < ((st1+1:Nat):Int)):=by omega
   have i2:¬ (M < st1+1):=by omega
   have i3:¬ ((M:Int) < (st1:Int)+1):=by omega
   clear hE hI0 h2 hrem hst;go_wp2_with fail;refine wp_region_held_drew (S:=fun w'=>w'.cell? ⟨q.kb,0,none⟩=some (.pointer (some ⟨q.l,0,none⟩))/\w'.cell? ⟨q.kb,14,none⟩=some (O I st1)) (by kernel_rfl) hS2 (fun hHeld=>?_);refine tq (i:=0) rfl (by rfl) (by assumption) ?_;try simp only [q1,q2,q3,Act.put,q4,q5,q6]
   refine tq (i:=1) rfl (by rfl) (by assumption) ?_;try simp only [q1,q2,q3,Act.put,q4,q5,q6]
   refine tq (i:=2) rfl (by rfl) (by assumption) ?_;try simp only [q1,q2,q3,Act.put,q4,q5,q6]
   refine tq (i:=3) rfl (by rfl) (by assumption) ?_;try simp only [q1,q2,q3,Act.put,q4,q5,q6]
   refine tq (i:=4) rfl (by rfl) (by assumption) ?_;try simp only [q1,q2,q3,Act.put,q4,q5,q6]
   refine tq (i:=5) rfl (by rfl) (by assumption) ?_;try simp only [q1,q2,q3,Act.put,q4,q5,q6]
   refine tq (i:=6) rfl (by rfl) (by assumption) ?_;try simp only [q1,q2,q3,Act.put,q4,q5,q6]
   refine tq (i:=7) rfl (by rfl) (by assumption) ?_;try simp only [q1,q2,q3,Act.put,q4,q5,q6]
   refine wpAnyH_ready (rs:=[8]) (by kernel_rfl) (by simp) ?_;refine AllReadyH.cons rfl (fun K hK=>?_) (AllReadyH.nil)
   go_simp
   go_at_call 51
   refine HST.out.mono ?_;rintro e wc ⟨t,rfl,a2,F2,s2,hI,hr,hEd,hO⟩;have hS3:wc.cell? ⟨q.kb,0,none⟩=some (.pointer (some ⟨q.l,0,none⟩))/\wc.cell? ⟨q.kb,14,none⟩=some (O I st1):=⟨hI.brk.cell 0,hI.brk.cell 14⟩;have y14:=hI.brk.cell 14;have f14:=hI.brk.free 14;simp at y14;have hI3:=hI.put (cut':=cut) (steps':=st1+1) (wn':=wn1) 14 (O I ((st1+1:Nat):Int)) (hI.brk.set 14 _) hI.wr hI.cutT hI.cutF (by have:=HRM.out;have:=HM.out;omega);have HI3:=zZ hI3;have z0:=hI3.brk.cell 0;have z14:=hI3.brk.cell 14;simp at z0 z14;have HFV:Hid (∀ k,F2 k->k ≠ wb.heap.size):=fun k hk=>by
    have h7:=HEE.out.view.lt;rcases hO k hk with h8 | h8
    . exact HEE.out.far k h8
    . have h8:wr.heap.size<=k:=h8
      omega
   have HV3:Hid (Bx (wc.setCell ⟨q.kb,14,none⟩ (O I ((st1+1:Nat):Int))) wb.heap.size 64 ds):=(Bx.edit (w:=wr.drew) HEE.out.view hEd (fun hh=>HEE.out.far _ hh rfl)).past (by have:=HEE.out.kb;omega) _ _;have HLK:=zZ (z1X hI3);clear hI hr hEd hO hI3 HST hS2;go_wp2_with fail;refine hK.out _ _ hS3 (fun hHeld=>?_);clear hK K
   try simp only [q1,q2,q3,Act.put,q4,q5,q6]
   refine tq (i:=9) rfl (by rfl) (by assumption) ?_;try simp only [q1,q2,q3,Act.put,q4,q5,q6]
   refine tq (i:=10) rfl (by rfl) (by assumption) ?_;try simp only [q1,q2,q3,Act.put,q4,q5,q6]
   refine tq (i:=11) rfl (by rfl) (by assumption) ?_;try simp only [q1,q2,q3,Act.put,q4,q5,q6]
   refine tq (i:=12) rfl (by rfl) (by assumption) ?_;try simp only [q1,q2,q3,Act.put,q4,q5,q6]
   refine tq (i:=13) rfl (by rfl) (by assumption) ?_;try simp only [q1,q2,q3,Act.put,q4,q5,q6]
   refine wpAnyH_done (by kernel_rfl) ?_ _;clear hS3
   go_wp2_with (first
    | (go_at_call 24;refine HLK.out.mono ?_;rintro e wd ⟨B1,r1,B2,r2,B3,r3,rfl,hb⟩;have HV4:=zZ (HV3.out.below hb);have HE4:Hid (EndI q wb.heap.size a2 F2 s2 cut (st1+1) wn1 #[O I (lstN s2),O I s2.given,O I s2.summed,O I s2.wrote,O I s2.writes,O I s2.jobs.length,O I s2.lane.length,O I s2.ready.length,.slice B1 q.k5 r1,.slice B2 s2.shelf.length r2,.slice B3 (s2.ended q.p).length r3] (wd.setRow wb.heap.size #[O I (lstN s2),O I s2.given,O I s2.summed,O I s2.wrote,O I s2.writes,O I s2.jobs.length,O I s2.lane.length,O I s2.ready.length,.slice B1 q.k5 r1,.slice B2 s2.shelf.length r2,.slice B3 (s2.ended q.p).length r3])):=EndI.put (HI3.out.keep hb) HFV.out HEE.out.kb HEE.out.l HV4.out rfl rfl;clear hb HLK HV3)
    | (refine z0b rfl _ _ 64 rfl wb.heap.size 64 _ _ rfl rfl HV4.out z0D HEE.out.size rfl ?_))
   dsimp only [Act.put]
   go_roundw
   case rel=>exact ⟨trivial,_,_,_,_,_,_,HE4.out⟩
   case measure =>
    have e1:=HE4.out.brk.steps;have:=HRM.out;rw [e1,hse];omega
end Go.Proofs.YtlncjgnomhpjnabGreatDoor
namespace Go.Proofs.YtlncjgnomhpjnabGreatDoor
open Go.Value renaming int → O
open Go.IntKind renaming i64 → I
open Go.Proofs.Tryz (prog)
open Go.RowKit Go.Deep
set_option linter.unusedVariables false
theorem y5r {p:Lpar} {s:Lst} (h:LInv p s) (h2:s.e2=true) {cut:Bool} (hT:cut=true->s.stopped=true/\s.failed=false) (hF:cut=false->s.stopped=s.failed) (hf:0<=p.fail/\p.fail<=p.N+3) :
 (cut=true/\lstN s=2/\s.writes<=p.N+1/\(p.fail < 1∨(s.writes:Int) < p.fail))∨(cut=false/\1<=p.fail/\p.fail<=p.N+2/\lstN s=3/\(s.writes:Int)=p.fail/\((s.wrote:Int)=p.fail - 2∨(p.fail=1/\s.wrote=0)))∨(cut=false/\(p.fail < 1∨p.N+2 < p.fail)/\lstN s=1/\s.wrote=p.N/\s.writes=p.N+2):=by
 have hw:=h.wrote;have hg:=h.given;unfold lstN;rw [h2];cases hc:cut with
 | true =>
  obtain ⟨h3,h4⟩:=hT hc;obtain ⟨h5,h6⟩:=h.fc h3 h4;rw [h3,h4];exact Or.inl ⟨rfl,rfl,h5,h6⟩
 | false =>
  have h3:=hF hc;cases h4:s.failed with
  | true =>
   obtain ⟨h5,h6⟩:=h.ff h4;rw [h3,h4];refine Or.inr (Or.inl ⟨rfl,by omega,by omega,rfl,h5,?_⟩);omega
  | false =>
   rw [h4] at h3;obtain ⟨h5,h6,h7⟩:=h.hd2 h2 h3;have h8:=h.wf h3;rw [h3];exact Or.inr (Or.inr ⟨rfl,by omega,rfl,h6,h7⟩)
theorem y5s {ch d B k3 k4 k5 k6 k7 S fv l gx cx ga ca:Nat} {G:Nat->Nat->Int} {gs:Nat->Nat} {w w5 w6:World} {a:Lad} {F:Nat->Prop} (hc:CfgK ch d B k3 k4 k5 k6 k7) (hk:KP d ch B k3 k4 S G) (hT:TabsF w) (hU:TabsU w) (hM:Made (⟨nBlk S B,k5,k6,k7,(fv:Int)⟩:Lpar) (⟨ch,d,B,k3,k4,S,G⟩:Lsn) w5.heap.size l w6 a F) (hx:AccI 0 w5 (.slice (some ⟨gx,0,none⟩) ch cx) S ch gs G) (hat:w5.ownsRow 0 3 1 (.slice (some ⟨ga,0,none⟩) (nBlk S B+1) ca) (nBlk S B+1) (atsL d ch G S B (22+2 * nPts S B k4) (nBlk S B+1))) (hq:Bx w5 w.heap.size 23 #[O I ch,O I d,O I B,O I k3,O I k4,O I k5,O I k6,O I k7]) (hb5:Below w.heap.size w w5) (hb:Below w5.heap.size w5 w6) (hfv:fv<=1000) :
 BrkI (⟨ch,d,B,k3,k4,k5,k6,k7,S,G,(fv:Int),w,w6.heap.size,l,gx,cx,ga,ca,w5.heap.size,gs⟩:Bpar) a F Lst.init false 0 0 (w6.alloc (.cells #[.pointer (some ⟨l,0,none⟩),O I ch,O I d,O I B,O I k3,O I k4,O I k5,O I k6,O I k7,.slice (some ⟨gx,0,none⟩) ch cx,.string (bs (z0B d ch B k3 k4 G S)),.slice (some ⟨ga,0,none⟩) (nBlk S B+1) ca,O I (fv:Nat),.bool false,O I 0,O I 0] 72)):=by
 have ba:Below w6.heap.size w6 (w6.alloc (.cells #[.pointer (some ⟨l,0,none⟩),O I ch,O I d,O I B,O I k3,O I k4,O I k5,O I k6,O I k7,.slice (some ⟨gx,0,none⟩) ch cx,.string (bs (z0B d ch B k3 k4 G S)),.slice (some ⟨ga,0,none⟩) (nBlk S B+1) ca,O I (fv:Nat),.bool false,O I 0,O I 0] 72)):=zX.alloc zY _;have h7:Below w5.heap.size w5 (w6.alloc (.cells #[.pointer (some ⟨l,0,none⟩),O I ch,O I d,O I B,O I k3,O I k4,O I k5,O I k6,O I k7,.slice (some ⟨gx,0,none⟩) ch cx,.string (bs (z0B d ch B k3 k4 G S)),.slice (some ⟨ga,0,none⟩) (nBlk S B+1) ca,O I (fv:Nat),.bool false,O I 0,O I 0] 72)):=hb.trans (ba.mono hb.size);have hxo:=hx.open hc.ch1;obtain ⟨g',c',e,-,hgx,-⟩:=hxo;cases e;have hga:=y1P hat ga rfl;have hlt:=hM.line.line.lt;have hl:=hM.line.ptr.lt;have hs:=hb.size;refine ⟨⟨hc,hk,hT,hU,hq.lt,⟨hgx,hga,fun i hi=>(hx.rows i hi).lt⟩,hs,hM.base,by show l ≠ w6.heap.size;omega,by show 0<=(fv:Int)/\(fv:Int)<=1000;omega⟩,hM.line.keep ba,Bx.new w6 _ _,hx.next h7,shOwn hat (Edit.of (S:=fun _=>False) h7) (fun _ _=>id),hq.below h7,hb5.trans (h7.mono hb5.size),fun k hk=>⟨hM.far k hk,by show k ≠ w6.heap.size;have:=hlt k hk;omega⟩,Nat.le_refl _,fun h=>(by cases h),fun _=>rfl,?_⟩
 show 0+Lst.init.rem (⟨nBlk S B,k5,k6,k7,(fv:Int)⟩:Lpar)<=6 * nBlk S B+k5+4
 rw [y6r,Nat.zero_add];exact Nat.le_refl _
set_option maxRecDepth 100000 in
set_option maxHeartbeats 8000000 in
theorem y5t (c0 c1 c2 c3 c4 c5 c6 c7:Int) (a:Option Addr) (n cap:Nat) (A:Nat->Option Addr) (L C:Nat->Nat) (F:Nat->Nat->Int) (fl:Int) (sa:Option Addr) (m sc:Nat) (kd nm:Nat->Int) (w:World) (h3:-9223372036854775808<=c3/\c3<=9223372036854775807) (h4:-9223372036854775808<=c4/\c4<=9223372036854775807) (hfl:-9223372036854775808<=fl/\fl<=9223372036854775807) (h:SoundIn w a n cap A L C F)
 (hF:∀ i,i < n->∀ j,j < L i->-9223372036854775808<=F i j/\F i j<=9223372036854775807) (hm:m<=9223372036854775807) (hP:∀ i,i < m->∃ g o,sa=some ⟨g,o,none⟩/\w.cell? ⟨g,o+i * 2,none⟩=some (O I (kd i))/\w.cell? ⟨g,o+i * 2+1,none⟩=some (O I (nm i))) (hPr:∀ i,i < m->(-9223372036854775808<=kd i/\kd i<=9223372036854775807)/\(-9223372036854775808<=nm i/\nm i<=9223372036854775807)) (hT:TabsF w) (hU:TabsU w) :
 Calls prog 6 #[.agg #[O I c0,O I c1,O I c2,O I c3,O I c4,O I c5,O I c6,O I c7],.slice a n cap,O I fl,.slice sa m sc] w fun e w'=>e=.returned (.bool true)/\Below w.heap.size w w':=by
 have HQ0:=zZ (Bx.new w #[O I c0,O I c1,O I c2,O I c3,O I c4,O I c5,O I c6,O I c7] 23);have HB0:Hid (Below w.heap.size w (w.alloc (.cells #[O I c0,O I c1,O I c2,O I c3,O I c4,O I c5,O I c6,O I c7] 23))):=zX.alloc zY _;have HRT:=zZ (fun u=>y6C c0 c1 c2 c3 c4 c5 c6 c7 u h3 h4);have HSD:=zZ (fun (u:World) (hu:Below w.heap.size w u) (ch d:Nat) (k2 k3 k4 k5 k6 k7:Int) h1 h2 h3=>y0V k2 k3 k4 k5 k6 k7 ch d a n cap A L C F u h1 h2 h3 (by have:=h.hn;omega) h.hL (h.below hu).hA (h.below hu).hI hF (h.below hu).low);have HS3:Hid (sndN n L<=300):=by show _<=_;unfold sndN;split <;> omega
 have HTF:=zZ hT;have HTU:=zZ hU;have HPF:=zZ (fun (N:Nat) (hN:N<=300) u=>z0U fl (N+4) u (by omega) (by omega) hfl);have HPL:=zZ (fun (N:Nat)=>z0F fl (N+4) (by omega));have HMC:Hid (∀ i u,i < m->Below w.heap.size w u->∃ g o,sa=some ⟨g,o,none⟩/\u.cell? ⟨g,o+i * 2,none⟩=some (O I (kd i))/\u.cell? ⟨g,o+i * 2+1,none⟩=some (O I (nm i))):=fun i u hi hu=>by
  obtain ⟨g,o,rfl,h5,h6⟩:=hP i hi;have hg:g < w.heap.size:=World.block_lt_of_cell? w _ h5;exact ⟨g,o,rfl,(z1m (hu.block g hg)).trans h5,(z1m (hu.block g hg)).trans h6⟩
 have HPR:=zZ hPr;clear h hF hT hU h3 h4 hfl hP hPr;generalize sndN n L=S at *
 go_enter Tryz.func6,Tryz.ntmps6
 go_wp2_with (first
  | (refine z0f rfl _ 23 rfl w.heap.size 23 #[O I c0,O I c1,O I c2,O I c3,O I c4,O I c5,O I c6,O I c7] (0,0) _ rfl HQ0.out Tryz.underlying23 rfl z1h ?_)
  | (go_at_call 9;refine (HRT.out _).mono ?_;rintro e w1 ⟨ch,d,B,k3,k4,k5,k6,k7,rfl,hcf,hb⟩;have HCF:=zZ hcf;have HQ1:=zZ (HQ0.out.below hb);have HQ2:=zZ (HQ1.out.row #[O I ch,O I d,O I B,O I k3,O I k4,O I k5,O I k6,O I k7]);have HB2:=zZ (z3f (HB0.out.trans (hb.mono HB0.out.size)) zY #[O I ch,O I d,O I B,O I k3,O I k4,O I k5,O I k6,O I k7]);clear HRT hcf hb HQ0 HB0)
  | (refine z0b rfl _ _ 23 rfl w.heap.size 23 _ _ rfl rfl HQ1.out z1h rfl rfl ?_)
  | (refine z0f rfl _ 23 rfl w.heap.size 23 #[O I ch,O I d,O I B,O I k3,O I k4,O I k5,O I k6,O I k7] (0,0) _ rfl HQ2.out Tryz.underlying23 rfl z1h ?_)
  | (go_at_call 10;refine (HSD.out _ HB2.out ch d B k3 k4 k5 k6 k7 HCF.out.ch4 HCF.out.d4 HCF.out.d12).mono ?_;rintro e w3 ⟨xv,gs,G,rfl,hx,hG,hb⟩;have HKP:=zZ (kp_of HCF.out HS3.out hG);have HQ3:=zZ (HQ2.out.below hb);have HB3:=zZ (HB2.out.trans (hb.mono HB2.out.size));obtain ⟨gx,cx,hxv,-,-,-⟩:=hx.open HCF.out.ch1;subst hxv;have HX3:=zZ (hx.mono (Nat.zero_le _));have hN3:nBlk S B<=300:=Nat.le_trans (z1a HCF.out.B1) HS3.out;have HEN:=zZ (y6D w3 HCF.out HKP.out HX3.out (HTF.out.below HB3.out));clear hx hG hb HQ1 HQ2 HB2 HSD)
  | (refine z0f rfl _ 23 rfl w.heap.size 23 #[O I ch,O I d,O I B,O I k3,O I k4,O I k5,O I k6,O I k7] (0,0) _ rfl HQ3.out Tryz.underlying23 rfl z1h ?_)
  | (go_at_call 11;refine HEN.out.mono ?_;rintro e w4 ⟨rfl,hb⟩;have HQ4:=zZ (HQ3.out.below hb);have HB4:=zZ (HB3.out.trans (hb.mono HB3.out.size));have HX4:=zZ (HX3.out.next hb);clear hb HQ3 HB3 HX3 HEN)
  | (refine z0f rfl _ 23 rfl w.heap.size 23 #[O I ch,O I d,O I B,O I k3,O I k4,O I k5,O I k6,O I k7] (0,0) _ rfl HQ4.out Tryz.underlying23 rfl z1h ?_)
  | (go_at_call 12;refine (y2V ch d B k3 k4 k5 k6 k7 S 0 gx cx gs G _ HCF.out HKP.out HX4.out (HTF.out.below HB4.out)).mono ?_;rintro e w5 ⟨ov,rfl,ho,hb⟩;obtain ⟨ga,ca,hov⟩:=z5g ho (by omega);subst hov;have HO5:=zZ (z1G ho (Nat.zero_le _));have HQ5:=zZ (HQ4.out.below hb);have HB5:=zZ (HB4.out.trans (hb.mono HB4.out.size));have HX5:=zZ (HX4.out.next hb);have wn1:IntKind.i64.wrap (((nBlk S B+1:Nat):Int) - 1)=(nBlk S B:Int):=(by rw [IntKind.wrap_i64];omega);have wn2:IntKind.i64.wrap ((nBlk S B:Int)+1 - 1)=(nBlk S B:Int):=(by rw [IntKind.wrap_i64];omega);have wn3:IntKind.i64.wrap (nBlk S B:Int)=(nBlk S B:Int):=(by rw [IntKind.wrap_i64];omega);have wn4:IntKind.i64.wrap ((nBlk S B:Int)+4)=((nBlk S B+4:Nat):Int):=(by rw [IntKind.wrap_i64];omega);have HPI:=zZ (HPF.out (nBlk S B) hN3);have hfv:=HPL.out (nBlk S B);obtain ⟨fv,hfv0⟩:∃ fv,fv=pickV fl (nBlk S B+4):=⟨_,rfl⟩;rw [← hfv0] at HPI hfv;clear ho hb hfv0 HQ4 HB4 HX4 HPF HPL)
  | (go_at_call 13;refine (HPI.out _).mono ?_;rintro e w6 ⟨rfl,hu⟩;subst w6;clear HPI)
  | (refine z0f rfl _ 23 rfl w.heap.size 23 #[O I ch,O I d,O I B,O I k3,O I k4,O I k5,O I k6,O I k7] (0,0) _ rfl HQ5.out Tryz.underlying23 rfl z1h ?_)
  | (go_at_call 21;refine (y6H w5 HCF.out HKP.out HX5.out _).mono ?_;rintro e w6 ⟨l,a6,F6,rfl,hM,hb⟩;have HMD:=zZ (And.intro hM hb);have HQ6:=zZ (HQ5.out.below hb);unfold ptrV;clear hM hb)
  | (refine z0f rfl _ 23 rfl w.heap.size 23 #[O I ch,O I d,O I B,O I k3,O I k4,O I k5,O I k6,O I k7] (0,0) _ rfl HQ6.out Tryz.underlying23 rfl z1h ?_))
 have HI0:Hid (BrkI (⟨ch,d,B,k3,k4,k5,k6,k7,S,G,(fv:Int),w,w6.heap.size,l,gx,cx,ga,ca,w5.heap.size,gs⟩:Bpar) a6 F6 Lst.init false 0 0 (w6.alloc (.cells #[.pointer (some ⟨l,0,none⟩),O I ch,O I d,O I B,O I k3,O I k4,O I k5,O I k6,O I k7,.slice (some ⟨gx,0,none⟩) ch cx,.string (bs (z0B d ch B k3 k4 G S)),.slice (some ⟨ga,0,none⟩) (nBlk S B+1) ca,O I (fv:Nat),.bool false,O I 0,O I 0] 72))):=y5s HCF.out HKP.out HTF.out HTU.out HMD.out.1 HX5.out HO5.out HQ5.out HB5.out HMD.out.2 (by omega);have HMV:Hid (∀ u kx nx,BrkE (⟨ch,d,B,k3,k4,k5,k6,k7,S,G,(fv:Int),w,w6.heap.size,l,gx,cx,ga,ca,w5.heap.size,gs⟩:Bpar) u->(-9223372036854775808<=kx/\kx<=9223372036854775807)->(-9223372036854775808<=nx/\nx<=9223372036854775807)->Calls prog 27 #[.pointer (some ⟨w6.heap.size,0,none⟩),.agg #[O I kx,O I nx]] u fun e w'=>e=.returned (.bool true)/\BrkE (⟨ch,d,B,k3,k4,k5,k6,k7,S,G,(fv:Int),w,w6.heap.size,l,gx,cx,ga,ca,w5.heap.size,gs⟩:Bpar) w'):=fun u kx nx hu h1 h2=>y6M hu kx nx h1 h2
 have HBL:Hid (∀ u,BrkE (⟨ch,d,B,k3,k4,k5,k6,k7,S,G,(fv:Int),w,w6.heap.size,l,gx,cx,ga,ca,w5.heap.size,gs⟩:Bpar) u->Below w.heap.size w u):=fun u hu=>by
  obtain ⟨a1,F1,s1,cut,st,wn,hI⟩:=hu;exact hI.bel
 clear HQ5 HB5 HX5 HO5 HMD HQ6 HTF HTU HS3 HKP
 go_loopw [17] (fun s17 wr=>∃ i:Nat,i<=m/\s17=O I i/\Hid (BrkE (⟨ch,d,B,k3,k4,k5,k6,k7,S,G,(fv:Int),w,w6.heap.size,l,gx,cx,ga,ca,w5.heap.size,gs⟩:Bpar) wr)) (fun s17 _=>m - (intOf s17).toNat)
 case atStart=>exact ⟨0,Nat.zero_le _,rfl,_,_,_,_,_,_,HI0.out⟩
 case round =>
  obtain ⟨i,hi,rfl,HH⟩:=hrel
  by_cases hlt:i < m
  . obtain ⟨g,o,rfl,hc1,hc2⟩:=HMC.out i wr hlt (HBL.out wr HH.out)
    have HM1:=zZ (HMV.out wr (kd i) (nm i) HH.out (HPR.out i hlt).1 (HPR.out i hlt).2);generalize kd i=kx at *;generalize nm i=nx at *;have z1:(i:Int) < (m:Int):=by omega
    have ws:IntKind.i64.wrap ((i:Int)+1)=((i+1:Nat):Int):=by rw [IntKind.wrap_i64];omega
    clear HMC HPR HMV HBL HI0 HH
    go_wp2_with (go_at_call 27;refine HM1.out.mono ?_;rintro e wz ⟨rfl,hz⟩;have HZ:=zZ hz;clear hz HM1)
    go_roundw
    case rel=>exact ⟨i+1,by omega,by go_num,HZ.out⟩
    case measure=>simp [intOf];omega
  . have e:i=m:=by omega
    subst e;obtain ⟨a1,F1,s1,cut,st,wn,hI⟩:=HH.out;have HEN:Hid (Calls prog 28 #[.pointer (some ⟨w6.heap.size,0,none⟩)] wr fun e w'=>e=.returned (.bool true)/\∃ a' F' s' steps' wn',BrkI (⟨ch,d,B,k3,k4,k5,k6,k7,S,G,(fv:Int),w,w6.heap.size,l,gx,cx,ga,ca,w5.heap.size,gs⟩:Bpar) a' F' s' cut steps' wn' w'/\s'.e2=true):=y6N hI;clear hI HH HMC HPR HMV HBL HI0
    go_wp2_with (first
     | (go_at_call 28;refine HEN.out.mono ?_;rintro e wa ⟨rfl,a2,F2,s2,st2,wn2,hI,h2⟩;have H2:=zZ h2;have HSK:Hid (Calls prog 29 #[.pointer (some ⟨w6.heap.size,0,none⟩)] wa fun e w'=>e=.returned (.bool true)/\∃ wn',BrkI (⟨ch,d,B,k3,k4,k5,k6,k7,S,G,(fv:Int),w,w6.heap.size,l,gx,cx,ga,ca,w5.heap.size,gs⟩:Bpar) a2 F2 s2 cut st2 wn' w'):=y1X hI;clear hI h2 HEN)
     | (go_at_call 29;refine HSK.out.mono ?_;rintro e wb ⟨rfl,wn3,hI⟩;have HI3:=zZ hI;have HC3:Hid (Bx wb w.heap.size 23 #[O I ch,O I d,O I B,O I k3,O I k4,O I k5,O I k6,O I k7]):=hI.cb;have HOV:Hid (Calls prog 26 #[.pointer (some ⟨l,0,none⟩),.agg #[O I ch,O I d,O I B,O I k3,O I k4,O I k5,O I k6,O I k7]] wb fun e w'=>e=.returned (.bool true)/\Below wb.heap.size wb w'):=z8p hI.line H2.out ch d B k3 k4 k6 k7;clear hI HSK)
     | (refine z0f rfl _ 23 rfl w.heap.size 23 #[O I ch,O I d,O I B,O I k3,O I k4,O I k5,O I k6,O I k7] (0,0) _ rfl HC3.out Tryz.underlying23 rfl z1h ?_)
     | (go_at_call 26;refine HOV.out.mono ?_;rintro e wc ⟨rfl,hb⟩;have HI4:=zZ (HI3.out.keep hb);clear hb HOV HC3 HI3))
    have HFC:(cut=true/\lstN s2=2/\s2.writes<=nBlk S B+1/\((fv:Int) < 1∨(s2.writes:Int) < (fv:Int)))∨(cut=false/\(1:Int)<=(fv:Int)/\(fv:Int)<=(nBlk S B:Int)+2/\lstN s2=3/\(s2.writes:Int)=(fv:Int)/\((s2.wrote:Int)=(fv:Int) - 2∨((fv:Int)=1/\s2.wrote=0)))∨(cut=false/\((fv:Int) < 1∨(nBlk S B:Int)+2 < (fv:Int))/\lstN s2=1/\s2.wrote=nBlk S B/\s2.writes=nBlk S B+2):=y5r HI4.out.line.inv H2.out HI4.out.cutT HI4.out.cutF ⟨by show (0:Int)<=(fv:Int);omega,by show (fv:Int)<=(nBlk S B:Int)+3;omega⟩;have HSE:Hid (∀ ln:Int,lstN s2=ln->Calls prog 24 #[.pointer (some ⟨l,0,none⟩)] wc fun e w'=>∃ A1 q1 A2 q2 A3 q3,e=.returned (.agg #[O I ln,O I s2.given,O I s2.summed,O I s2.wrote,O I s2.writes,O I s2.jobs.length,O I s2.lane.length,O I s2.ready.length,.slice A1 k5 q1,.slice A2 s2.shelf.length q2,.slice A3 (s2.ended (⟨nBlk S B,k5,k6,k7,(fv:Int)⟩:Lpar)).length q3])/\Below wc.heap.size wc w'):=fun ln hl=>y1W HI4.out ln hl
    have HFE:Hid (∀ wd ds,Below wc.heap.size wc wd->Bx ((wd.alloc (.cells #[O I 0,O I 0,O I 0,O I 0,O I 0,O I 0,O I 0,O I 0,.slice none 0 0,.slice none 0 0,.slice none 0 0] 64)).setRow wd.heap.size ds) wd.heap.size 64 ds/\((wd.alloc (.cells #[O I 0,O I 0,O I 0,O I 0,O I 0,O I 0,O I 0,O I 0,.slice none 0 0,.slice none 0 0,.slice none 0 0] 64)).setRow wd.heap.size ds).cell? ⟨w6.heap.size,13,none⟩=some (.bool cut)/\Below w.heap.size w ((wd.alloc (.cells #[O I 0,O I 0,O I 0,O I 0,O I 0,O I 0,O I 0,O I 0,.slice none 0 0,.slice none 0 0,.slice none 0 0] 64)).setRow wd.heap.size ds)):=fun wd ds hb=>⟨(z2g HI4.out hb ds).2,(z2g HI4.out hb ds).1.brk.cell 13,(z2g HI4.out hb ds).1.bel⟩
    clear HI4 H2;have wn5:IntKind.i64.wrap ((nBlk S B:Int)+2)=((nBlk S B+2:Nat):Int):=by rw [IntKind.wrap_i64];omega
    have wn6:IntKind.i64.wrap ((nBlk S B:Int)+1)=((nBlk S B+1:Nat):Int):=by rw [IntKind.wrap_i64];omega
    have wn7:IntKind.i64.wrap ((fv:Int) - 2)=(fv:Int) - 2:=by rw [IntKind.wrap_i64];omega
    generalize (s2.ended (⟨nBlk S B,k5,k6,k7,(fv:Int)⟩:Lpar)).length=el at *;generalize nBlk S B=NB at *;generalize s2.writes=wq at *;generalize s2.wrote=wt at *;rcases HFC with ⟨rfl,hl,hw,hor⟩ | ⟨rfl,hf1,hf2,hl,hw,hor⟩ | ⟨rfl,hor,hl,hwt,hwq⟩
    . have i1:(wq:Int)<=((NB+1:Nat):Int):=by omega
      have i1':(wq:Int)<=(NB:Int)+1:=by omega
      have i1'':wq<=NB+1:=by omega
      by_cases hz:(fv:Int) < 1
      . have d1:¬ ((1:Int)<=(fv:Int)):=by omega
        have d2:¬ (1<=fv):=by omega
        clear hor;refine (HSE.out 2 hl).mono ?_;rintro e wd ⟨A1,q1,A2,q2,A3,q3,rfl,hb⟩;obtain ⟨bx,y13,hfin⟩:=HFE.out wd #[O I 2,O I s2.given,O I s2.summed,O I wt,O I wq,O I s2.jobs.length,O I s2.lane.length,O I s2.ready.length,.slice A1 k5 q1,.slice A2 s2.shelf.length q2,.slice A3 el q3] hb;have v0:=bx.cell 0;have v3:=bx.cell 3;have v4:=bx.cell 4;simp at v0 v3 v4;have HFIN:=zZ hfin;clear hb bx hfin HFE HSE
        go_wp2_with (refine z0b rfl _ _ 64 rfl wd.heap.size 64 _ _ rfl rfl (Bx.new wd #[O I 0,O I 0,O I 0,O I 0,O I 0,O I 0,O I 0,O I 0,.slice none 0 0,.slice none 0 0,.slice none 0 0] 64) z0D rfl rfl ?_)
        go_ret;exact ⟨rfl,HFIN.out⟩
      . have d1:(1:Int)<=(fv:Int):=by omega
        have d2:1<=fv:=by omega
        have d3:(wq:Int) < (fv:Int):=by omega
        have d4:wq < fv:=by omega
        by_cases hz2:(fv:Int)<=(NB:Int)+2
        . have d5:fv<=NB+2:=by omega
          have d6:(fv:Int)<=((NB+2:Nat):Int):=by omega
          clear hor;refine (HSE.out 2 hl).mono ?_;rintro e wd ⟨A1,q1,A2,q2,A3,q3,rfl,hb⟩;obtain ⟨bx,y13,hfin⟩:=HFE.out wd #[O I 2,O I s2.given,O I s2.summed,O I wt,O I wq,O I s2.jobs.length,O I s2.lane.length,O I s2.ready.length,.slice A1 k5 q1,.slice A2 s2.shelf.length q2,.slice A3 el q3] hb;have v0:=bx.cell 0;have v3:=bx.cell 3;have v4:=bx.cell 4;simp at v0 v3 v4;have HFIN:=zZ hfin;clear hb bx hfin HFE HSE
          go_wp2_with (refine z0b rfl _ _ 64 rfl wd.heap.size 64 _ _ rfl rfl (Bx.new wd #[O I 0,O I 0,O I 0,O I 0,O I 0,O I 0,O I 0,O I 0,.slice none 0 0,.slice none 0 0,.slice none 0 0] 64) z0D rfl rfl ?_)
          go_ret;exact ⟨rfl,HFIN.out⟩
        . have d5:¬ (fv<=NB+2):=by omega
          have d6:¬ ((fv:Int)<=((NB+2:Nat):Int)):=by omega
          clear hor;refine (HSE.out 2 hl).mono ?_;rintro e wd ⟨A1,q1,A2,q2,A3,q3,rfl,hb⟩;obtain ⟨bx,y13,hfin⟩:=HFE.out wd #[O I 2,O I s2.given,O I s2.summed,O I wt,O I wq,O I s2.jobs.length,O I s2.lane.length,O I s2.ready.length,.slice A1 k5 q1,.slice A2 s2.shelf.length q2,.slice A3 el q3] hb;have v0:=bx.cell 0;have v3:=bx.cell 3;have v4:=bx.cell 4;simp at v0 v3 v4;have HFIN:=zZ hfin;clear hb bx hfin HFE HSE
          go_wp2_with (refine z0b rfl _ _ 64 rfl wd.heap.size 64 _ _ rfl rfl (Bx.new wd #[O I 0,O I 0,O I 0,O I 0,O I 0,O I 0,O I 0,O I 0,.slice none 0 0,.slice none 0 0,.slice none 0 0] 64) z0D rfl rfl ?_)
          go_ret;exact ⟨rfl,HFIN.out⟩
    . have h6:((wq:Int) == (fv:Int))=true:=by rw [beq_iff_eq];exact hw
      have h6b:(wq == fv)=true:=by rw [beq_iff_eq];omega
      have d2:1<=fv:=by omega
      have d5:fv<=NB+2:=by omega
      have d6:(fv:Int)<=((NB+2:Nat):Int):=by omega
      clear hw;rcases hor with ho | ⟨ho1,ho2⟩
      . have h7:((wt:Int) == (fv:Int) - 2)=true:=by rw [beq_iff_eq];exact ho
        clear ho;refine (HSE.out 3 hl).mono ?_;rintro e wd ⟨A1,q1,A2,q2,A3,q3,rfl,hb⟩;obtain ⟨bx,y13,hfin⟩:=HFE.out wd #[O I 3,O I s2.given,O I s2.summed,O I wt,O I wq,O I s2.jobs.length,O I s2.lane.length,O I s2.ready.length,.slice A1 k5 q1,.slice A2 s2.shelf.length q2,.slice A3 el q3] hb;have v0:=bx.cell 0;have v3:=bx.cell 3;have v4:=bx.cell 4;simp at v0 v3 v4;have HFIN:=zZ hfin;clear hb bx hfin HFE HSE
        go_wp2_with (refine z0b rfl _ _ 64 rfl wd.heap.size 64 _ _ rfl rfl (Bx.new wd #[O I 0,O I 0,O I 0,O I 0,O I 0,O I 0,O I 0,O I 0,.slice none 0 0,.slice none 0 0,.slice none 0 0] 64) z0D rfl rfl ?_)
        go_ret;exact ⟨rfl,HFIN.out⟩
      . have h7:((wt:Int) == (fv:Int) - 2)=false:=by rw [beq_eq_false_iff_ne];omega
        have h8:((fv:Int) == 1)=true:=by rw [beq_iff_eq];exact ho1
        have h9:((wt:Int) == 0)=true:=by rw [beq_iff_eq];omega
        have h8b:(fv == 1)=true:=by rw [beq_iff_eq];omega
        have h9b:(wt == 0)=true:=by rw [beq_iff_eq];exact ho2
        clear ho1 ho2;refine (HSE.out 3 hl).mono ?_;rintro e wd ⟨A1,q1,A2,q2,A3,q3,rfl,hb⟩;obtain ⟨bx,y13,hfin⟩:=HFE.out wd #[O I 3,O I s2.given,O I s2.summed,O I wt,O I wq,O I s2.jobs.length,O I s2.lane.length,O I s2.ready.length,.slice A1 k5 q1,.slice A2 s2.shelf.length q2,.slice A3 el q3] hb;have v0:=bx.cell 0;have v3:=bx.cell 3;have v4:=bx.cell 4;simp at v0 v3 v4;have HFIN:=zZ hfin;clear hb bx hfin HFE HSE
        go_wp2_with (refine z0b rfl _ _ 64 rfl wd.heap.size 64 _ _ rfl rfl (Bx.new wd #[O I 0,O I 0,O I 0,O I 0,O I 0,O I 0,O I 0,O I 0,.slice none 0 0,.slice none 0 0,.slice none 0 0] 64) z0D rfl rfl ?_)
        go_ret;exact ⟨rfl,HFIN.out⟩
    . have h6:((wt:Int) == (NB:Int))=true:=by rw [beq_iff_eq];omega
      have h6b:(wt == NB)=true:=by rw [beq_iff_eq];exact hwt
      have h7:((wq:Int) == (NB:Int)+2)=true:=by rw [beq_iff_eq];omega
      have h7b:((wq:Int) == ((NB+2:Nat):Int))=true:=by rw [beq_iff_eq];omega
      have h7c:(wq == NB+2)=true:=by rw [beq_iff_eq];exact hwq
      clear hwt hwq;rcases hor with ho | ho
      . have d1:¬ ((1:Int)<=(fv:Int)):=by omega
        have d2:¬ (1<=fv):=by omega
        refine (HSE.out 1 hl).mono ?_;rintro e wd ⟨A1,q1,A2,q2,A3,q3,rfl,hb⟩;obtain ⟨bx,y13,hfin⟩:=HFE.out wd #[O I 1,O I s2.given,O I s2.summed,O I wt,O I wq,O I s2.jobs.length,O I s2.lane.length,O I s2.ready.length,.slice A1 k5 q1,.slice A2 s2.shelf.length q2,.slice A3 el q3] hb;have v0:=bx.cell 0;have v3:=bx.cell 3;have v4:=bx.cell 4;simp at v0 v3 v4;have HFIN:=zZ hfin;clear hb bx hfin HFE HSE
        go_wp2_with (refine z0b rfl _ _ 64 rfl wd.heap.size 64 _ _ rfl rfl (Bx.new wd #[O I 0,O I 0,O I 0,O I 0,O I 0,O I 0,O I 0,O I 0,.slice none 0 0,.slice none 0 0,.slice none 0 0] 64) z0D rfl rfl ?_)
        go_ret;exact ⟨rfl,HFIN.out⟩
      . have d1:(1:Int)<=(fv:Int):=by omega
        have d2:1<=fv:=by omega
        have d5:¬ (fv<=NB+2):=by omega
        have d6:¬ ((fv:Int)<=((NB+2:Nat):Int)):=by omega
        have d7:¬ ((fv:Int)<=(NB:Int)+2):=by omega
        refine (HSE.out 1 hl).mono ?_;rintro e wd ⟨A1,q1,A2,q2,A3,q3,rfl,hb⟩;obtain ⟨bx,y13,hfin⟩:=HFE.out wd #[O I 1,O I s2.given,O I s2.summed,O I wt,O I wq,O I s2.jobs.length,O I s2.lane.length,O I s2.ready.length,.slice A1 k5 q1,.slice A2 s2.shelf.length q2,.slice A3 el q3] hb;have v0:=bx.cell 0;have v3:=bx.cell 3;have v4:=bx.cell 4;simp at v0 v3 v4;have HFIN:=zZ hfin;clear hb bx hfin HFE HSE
        go_wp2_with (refine z0b rfl _ _ 64 rfl wd.heap.size 64 _ _ rfl rfl (Bx.new wd #[O I 0,O I 0,O I 0,O I 0,O I 0,O I 0,O I 0,O I 0,.slice none 0 0,.slice none 0 0,.slice none 0 0] 64) z0D rfl rfl ?_)
        go_ret;exact ⟨rfl,HFIN.out⟩
end Go.Proofs.YtlncjgnomhpjnabGreatDoor
