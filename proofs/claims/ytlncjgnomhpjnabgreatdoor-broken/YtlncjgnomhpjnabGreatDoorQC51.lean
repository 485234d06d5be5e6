import Derived.Test.YtlncjgnomhpjnabGreatDoorQC50
import Derived.Test.YtlncjgnomhpjnabGreatDoorQC47
import Derived.Test.YtlncjgnomhpjnabGreatDoorQC44
import Derived.Test.YtlncjgnomhpjnabGreatDoorQC48
import Derived.Test.YtlncjgnomhpjnabGreatDoorQC45
import Derived.Deep.MidRow
import Derived.BigQuiet
import Derived.Deep.QuietTactic
import Derived.Test.YtlncjgnomhpjnabGreatDoorQC21
import Derived.Deep.DeepCutAuto
import Derived.Test.YtlncjgnomhpjnabGreatDoorQC0
namespace Go.Proofs.YtlncjgnomhpjnabGreatDoor
open Go.Value renaming int → O
open Go.IntKind renaming i64 → I
open Go.Proofs.Tryz (prog)
open Go.RowKit Go.Deep
set_option linter.unusedVariables false
theorem y6G {ch d B c3 c4 c5 c6 c7 S:Nat} {G:Nat->Nat->Int} (h:CfgK ch d B c3 c4 c5 c6 c7) (hk:KP d ch B c3 c4 S G):encOk ch d B c3 c4 c5 c6 c7 ch (fun _=>S) G:=by
 have ha:=h.ch1;have hb:=h.ch4;have hc:=hk.S3;have b1:=h.d4;have b2:=h.d12;have b3:=h.B1;have b4:=h.B32;have b5:=h.c3b;have b6:=h.c4b;have b7:=h.c51;have b8:=h.c58;have b9:=h.c61;have b10:=h.c616;have b11:=h.c71;have b12:=h.c78;refine ⟨?_,rfl,?_,fun i hi=>⟨rfl,fun j hj=>?_⟩⟩
 . simp only [z1I,Bool.and_eq_true,z0h]
   omega
 . show z0s (S:Int) 0 300=true
   rw [z0h];omega
 . rw [Int.toNat_natCast];exact hk.fit i hi j hj
structure Made (p:Lpar) (x:Lsn) (base l:Nat) (w:World) (a:Lad) (F:Nat->Prop):Prop where
 line:RLine p a x F l Lst.init w
 far:∀ k,F k->base<=k
 base:base<=l
set_option maxRecDepth 100000 in
set_option maxHeartbeats 2000000 in
theorem y6H {base ch d B c3 c4 c5 c6 c7 S:Nat} {xv:Value} {gs:Nat->Nat} {G:Nat->Nat->Int} (u:World) (h:CfgK ch d B c3 c4 c5 c6 c7) (hk:KP d ch B c3 c4 S G) (hx:AccI base u xv S ch gs G) (fail:Int) :
 Calls prog 21 #[.agg #[O I ch,O I d,O I B,O I c3,O I c4,O I c5,O I c6,O I c7],xv,O I fail] u fun e u'=>∃ l a F,e=.returned (.tuple #[ptrV l,O I 0])/\Made ⟨nBlk S B,c5,c6,c7,fail⟩ ⟨ch,d,B,c3,c4,S,G⟩ u.heap.size l u' a F/\Below u.heap.size u u':=by
 obtain ⟨g,c,rfl,h1,h2,h3⟩:=hx.open h.ch1;have hB0:Below u.heap.size u (u.alloc (.cells #[O I ch,O I d,O I B,O I c3,O I c4,O I c5,O I c6,O I c7] 23)):=zX.alloc zY _;have HX:=zZ (Bx.new u #[O I ch,O I d,O I B,O I c3,O I c4,O I c5,O I c6,O I c7] 23);have hacc:∀ v,Below u.heap.size u v->AccI base v (.slice (some ⟨g,0,none⟩) ch c) S ch gs G:=fun v hv=>hx.next hv
 have hb4:=h.ch4;have hS3:=hk.S3;have hchk:=(z8l (y6G h hk)).2;have HCK:Hid (Calls prog 33 #[.agg #[O I ch,O I d,O I B,O I c3,O I c4,O I c5,O I c6,O I c7],.slice (some ⟨g,0,none⟩) ch c] (u.alloc (.cells #[O I ch,O I d,O I B,O I c3,O I c4,O I c5,O I c6,O I c7] 23)) fun e w'=>e=.returned (O I 0)/\Below (u.alloc (.cells #[O I ch,O I d,O I B,O I c3,O I c4,O I c5,O I c6,O I c7] 23)).heap.size (u.alloc (.cells #[O I ch,O I d,O I B,O I c3,O I c4,O I c5,O I c6,O I c7] 23)) w'):=by
  have hx0:=hacc _ hB0;obtain ⟨q1,q2,q3⟩:=hx0.lists (fun i hi=>(z1m (hB0.block g h2)).trans (h3 i hi)) (Nat.lt_of_lt_of_le h2 hB0.size);have:=z4l ch d B c3 c4 c5 c6 c7 _ ch c _ (fun _=>S) (fun _=>S) G _ (by omega) (fun i hi=>by omega) q1 q2 q3;rw [hchk] at this;exact this
 have HNW:Hid (∀ v,Below u.heap.size u v->Calls prog 48 #[.agg #[O I ch,O I d,O I B,O I c3,O I c4,O I c5,O I c6,O I c7],.slice (some ⟨g,0,none⟩) ch c,O I fail] v fun e w'=>∃ a:Lad,e=.returned (ptrV a.lb)/\LineIs ⟨nBlk S B,c5,c6,c7,fail⟩ a ⟨ch,d,B,c3,c4,S,G⟩ (fun k=>v.heap.size<=k/\k < w'.heap.size) Lst.init w'/\Below v.heap.size v w'):=fun v hv =>
  y8e ⟨nBlk S B,c5,c6,c7,fail⟩ ⟨ch,d,B,c3,c4,S,G⟩ g c (fun i=>⟨gs i,0,none⟩) (fun _=>S) v hk h.c51 h.c58 h.c616 h.c78 rfl (fun i hi=>(z1m (hv.block g h2)).trans (h3 i hi)) (fun i hi=>((hacc v hv).lists (fun i hi=>(z1m (hv.block g h2)).trans (h3 i hi)) (Nat.lt_of_lt_of_le h2 hv.size)).2.1 i hi) (fun i hi h0=>((hacc v hv).rows i hi).lt)
 have HMD:Hid (∀ (v:World) (a:Lad) (w':World),Below u.heap.size u v->LineIs ⟨nBlk S B,c5,c6,c7,fail⟩ a ⟨ch,d,B,c3,c4,S,G⟩ (fun k=>v.heap.size<=k/\k < w'.heap.size) Lst.init w'->Below v.heap.size v w'->∃ F,Made ⟨nBlk S B,c5,c6,c7,fail⟩ ⟨ch,d,B,c3,c4,S,G⟩ u.heap.size w'.heap.size (w'.alloc (.cells #[.pointer (some ⟨a.lb,0,none⟩)] 94)) a F/\Below u.heap.size u (w'.alloc (.cells #[.pointer (some ⟨a.lb,0,none⟩)] 94))):=fun v a w' hv hL hb=>by
  have ba:Below w'.heap.size w' (w'.alloc (.cells #[.pointer (some ⟨a.lb,0,none⟩)] 94)):=zX.alloc zY _;have huv:=hv.size;have hvw:=hb.size;exact ⟨_,⟨⟨hL.keep (fun k hk=>ba.block k (hL.lt k hk)) ba.size,LInv.init h.c51 h.c71 h.c61,Bx.new w' _ _,fun hh=>Nat.lt_irrefl _ hh.2⟩,fun k hk=>Nat.le_trans huv hk.1,Nat.le_trans huv hvw⟩,hv.trans ((hb.mono huv).trans (ba.mono (Nat.le_trans huv hvw)))⟩
 have HK:Hid (∀ v,Below (u.alloc (.cells #[O I ch,O I d,O I B,O I c3,O I c4,O I c5,O I c6,O I c7] 23)).heap.size (u.alloc (.cells #[O I ch,O I d,O I B,O I c3,O I c4,O I c5,O I c6,O I c7] 23)) v->Below u.heap.size u v/\Bx v u.heap.size 23 #[O I ch,O I d,O I B,O I c3,O I c4,O I c5,O I c6,O I c7]):=fun v hv=>⟨hB0.trans (hv.mono (by simp)),HX.out.below hv⟩
 have x0:=HX.out.cell 0;have x1:=HX.out.cell 1;have x2:=HX.out.cell 2;have x3:=HX.out.cell 3;have x4:=HX.out.cell 4;have x5:=HX.out.cell 5;have x6:=HX.out.cell 6;have x7:=HX.out.cell 7;simp at x0 x1 x2 x3 x4 x5 x6 x7;clear h hk hx h1 h2 h3 hB0 hacc hb4 hS3 hchk HX;unfold ptrV at *
 go_enter Tryz.func21,Tryz.ntmps21
 go_wp2_with (first
  | (go_at_call 33;refine HCK.out.mono ?_;rintro e v ⟨rfl,hb⟩;obtain ⟨hbv,hbx⟩:=HK.out v hb;have y0:=hbx.cell 0;have y1:=hbx.cell 1;have y2:=hbx.cell 2;have y3:=hbx.cell 3;have y4:=hbx.cell 4;have y5:=hbx.cell 5;have y6:=hbx.cell 6;have y7:=hbx.cell 7;simp at y0 y1 y2 y3 y4 y5 y6 y7;have HBV:=zZ hbv;have HN1:=zZ (HNW.out v hbv);clear hb hbv hbx HCK)
  | (go_at_call 48;refine HN1.out.mono ?_;rintro e w' ⟨a,rfl,hL,hb⟩;obtain ⟨F,hM⟩:=HMD.out v a w' HBV.out hL hb;have HM:=zZ hM;clear hL hb hM HN1))
 go_ret2;exact ⟨_,a,F,rfl,HM.out⟩
structure Bpar where
 ch:Nat
 d:Nat
 B:Nat
 k3:Nat
 k4:Nat
 k5:Nat
 k6:Nat
 k7:Nat
 S:Nat
 G:Nat->Nat->Int
 fail:Int
 w0:World
 kb:Nat
 l:Nat
 gx:Nat
 cx:Nat
 ga:Nat
 ca:Nat
 base:Nat
 gs:Nat->Nat
def Bpar.N (q:Bpar):Nat:=nBlk q.S q.B
def Bpar.p (q:Bpar):Lpar:=⟨q.N,q.k5,q.k6,q.k7,q.fail⟩
def Bpar.x (q:Bpar):Lsn:=⟨q.ch,q.d,q.B,q.k3,q.k4,q.S,q.G⟩
def Bpar.tx (q:Bpar):ByteArray:=bs (z0B q.d q.ch q.B q.k3 q.k4 q.G q.S)
def Bpar.hs (q:Bpar):Nat:=22+2 * nPts q.S q.B q.k4
def Bpar.at (q:Bpar) (k:Nat):Nat:=q.hs+(frsT q.d q.ch q.G q.S q.B k).length
structure Bfix (q:Bpar):Prop where
 cfg:CfgK q.ch q.d q.B q.k3 q.k4 q.k5 q.k6 q.k7
 kp:KP q.d q.ch q.B q.k3 q.k4 q.S q.G
 tf:TabsF q.w0
 tu:TabsU q.w0
 b0:q.w0.heap.size+1<=q.base
 xl:q.gx < q.base/\q.ga < q.base/\∀ i,i < q.ch->q.gs i < q.base
 kb:q.base<=q.kb
 lb:q.base<=q.l
 lk:q.l ≠ q.kb
 fl:0<=q.fail/\q.fail<=1000
structure BrkI (q:Bpar) (a:Lad) (F:Nat->Prop) (s:Lst) (cut:Bool) (steps wn:Nat) (u:World):Prop where
 fix:Bfix q
 line:RLine q.p a q.x F q.l s u
 brk:Bx u q.kb 72 #[.pointer (some ⟨q.l,0,none⟩),O I q.ch,O I q.d,O I q.B,O I q.k3,O I q.k4,O I q.k5,O I q.k6,O I q.k7,.slice (some ⟨q.gx,0,none⟩) q.ch q.cx,.string q.tx,.slice (some ⟨q.ga,0,none⟩) (q.N+1) q.ca,O I q.fail,.bool cut,O I (steps:Nat),O I (wn:Nat)]
 acc:AccI 0 u (.slice (some ⟨q.gx,0,none⟩) q.ch q.cx) q.S q.ch q.gs q.G
 ats:u.ownsRow 0 3 1 (.slice (some ⟨q.ga,0,none⟩) (q.N+1) q.ca) (q.N+1) (atsL q.d q.ch q.G q.S q.B q.hs (q.N+1))
 cb:Bx u q.w0.heap.size 23 #[O I q.ch,O I q.d,O I q.B,O I q.k3,O I q.k4,O I q.k5,O I q.k6,O I q.k7]
 bel:Below q.w0.heap.size q.w0 u
 far:∀ k,F k->q.base<=k/\k ≠ q.kb
 wr:wn<=s.wrote
 cutT:cut=true->s.stopped=true/\s.failed=false
 cutF:cut=false->s.stopped=s.failed
 stp:steps+s.rem q.p<=6 * q.N+q.k5+4
theorem AccI.edit {S:Nat->Prop} {base:Nat} {u u':World} {g cap nn i:Nat} {gs:Nat->Nat} {G:Nat->Nat->Int} (h:AccI base u (.slice (some ⟨g,0,none⟩) i cap) nn i gs G) (he:Edit S u u') (hg:¬ S g) (hgs:∀ k,k < i->¬ S (gs k)):AccI base u' (.slice (some ⟨g,0,none⟩) i cap) nn i gs G :=
 ⟨shOwn h.own he (fun g' hg'=>by cases hg';exact hg),fun k hk=>by
  obtain ⟨cs,h1,h2⟩:=h.rows k hk;exact ⟨cs,(he.block _ (Array.getElem?_eq_some_iff.1 h1).1 (hgs k hk)).trans h1,h2⟩,h.far,h.apart⟩
theorem BrkI.go {q:Bpar} {a a':Lad} {F F' T:Nat->Prop} {s s':Lst} {cut cut':Bool} {steps steps' wn wn':Nat} {u v:World} (h:BrkI q a F s cut steps wn u) (hL:RLine q.p a' q.x F' q.l s' v) (he:Edit T u v) (hT:∀ k,T k->q.base<=k) (hB:Bx v q.kb 72 (let cut:=cut';let steps:=steps';let wn:=wn';#[.pointer (some ⟨q.l,0,none⟩),O I q.ch,O I q.d,O I q.B,O I q.k3,O I q.k4,O I q.k5,O I q.k6,O I q.k7,.slice (some ⟨q.gx,0,none⟩) q.ch q.cx,.string q.tx,.slice (some ⟨q.ga,0,none⟩) (q.N+1) q.ca,O I q.fail,.bool cut,O I (steps:Nat),O I (wn:Nat)])) (hF:∀ k,F' k->F k∨u.heap.size<=k)
 (hw:wn'<=s'.wrote) (h1:cut'=true->s'.stopped=true/\s'.failed=false) (h2:cut'=false->s'.stopped=s'.failed) (h3:steps'+s'.rem q.p<=6 * q.N+q.k5+4):BrkI q a' F' s' cut' steps' wn' v:=by
 have b0:=h.fix.b0;obtain ⟨x1,x2,x3⟩:=h.fix.xl;have hk:=h.brk.lt;have hkb:=h.fix.kb;refine ⟨h.fix,hL,hB,h.acc.edit he (fun hh=>by have:=hT _ hh;omega) (fun k hk hh=>by have:=hT _ hh;have:=x3 k hk;omega),shOwn h.ats he (fun g hg hh=>by have h9:q.ga=g:=Option.some.inj hg;have:=hT _ hh;omega),h.cb.edit he (fun hh=>by have:=hT _ hh;omega),h.bel.trans (he.below h.bel.size (fun k hk=>by have:=hT k hk;omega)),fun k hk=>?_,hw,h1,h2,h3⟩;rcases hF k hk with h4 | h4
 . exact h.far k h4
 . exact ⟨by omega,by omega⟩
theorem BrkI.keep {q:Bpar} {a:Lad} {F:Nat->Prop} {s:Lst} {cut:Bool} {steps wn:Nat} {u v:World} (h:BrkI q a F s cut steps wn u) (hb:Below u.heap.size u v):BrkI q a F s cut steps wn v :=
 h.go (T:=fun _=>False) (h.line.keep hb) (Edit.of hb) (fun _ hk=>hk.elim) (h.brk.below hb) (fun k hk=>Or.inl hk) h.wr h.cutT h.cutF h.stp
theorem BrkI.put {q:Bpar} {a:Lad} {F:Nat->Prop} {s:Lst} {cut cut':Bool} {steps steps' wn wn':Nat} {u:World} (h:BrkI q a F s cut steps wn u) (j:Nat) (v:Value) (hB:Bx (u.setCell ⟨q.kb,j,none⟩ v) q.kb 72 (let cut:=cut';let steps:=steps';let wn:=wn';#[.pointer (some ⟨q.l,0,none⟩),O I q.ch,O I q.d,O I q.B,O I q.k3,O I q.k4,O I q.k5,O I q.k6,O I q.k7,.slice (some ⟨q.gx,0,none⟩) q.ch q.cx,.string q.tx,.slice (some ⟨q.ga,0,none⟩) (q.N+1) q.ca,O I q.fail,.bool cut,O I (steps:Nat),O I (wn:Nat)]))
 (hw:wn'<=s.wrote) (h1:cut'=true->s.stopped=true/\s.failed=false) (h2:cut'=false->s.stopped=s.failed) (h3:steps'+s.rem q.p<=6 * q.N+q.k5+4):BrkI q a F s cut' steps' wn' (u.setCell ⟨q.kb,j,none⟩ v):=by
 have he:Edit (·=q.kb) u (u.setCell ⟨q.kb,j,none⟩ v):=Edit.one u q.kb j v;have hnk:∀ k,F k->k ≠ q.kb:=fun k hk=>(h.far k hk).2
 exact h.go ⟨h.line.line.keep (fun k hk=>he.block k (h.line.line.lt k hk) (hnk k hk)) he.size,h.line.inv,h.line.ptr.edit he h.fix.lk,h.line.far⟩ he (fun k hk=>by have:=h.fix.kb;omega) hB (fun k hk=>Or.inl hk) hw h1 h2 h3
section
variable {q:Bpar} {a:Lad} {F:Nat->Prop} {s:Lst} {cut:Bool} {steps wn:Nat} {u:World}
theorem BrkI.place (h:BrkI q a F s cut steps wn u) {k:Nat} (hk:k<=q.N):u.cell? ⟨q.ga,k,none⟩=some (O I (q.at k:Nat)):=by
 obtain ⟨A,cap,e,hA⟩:=z0n h.ats;obtain ⟨g,e2,-,hc⟩:=hA (by omega);cases e;cases e2;refine hc k _ ?_;unfold atsL;rw [List.getElem?_map,List.getElem?_range (by omega)]
 rfl
theorem z1X (h:BrkI q a F s cut steps wn u) :
 Calls prog 24 #[.pointer (some ⟨q.l,0,none⟩)] u fun e w'=>∃ A1 q1 A2 q2 A3 q3,e=.returned (.agg #[O I (lstN s),O I s.given,O I s.summed,O I s.wrote,O I s.writes,O I s.jobs.length,O I s.lane.length,O I s.ready.length,.slice A1 q.k5 q1,.slice A2 s.shelf.length q2,.slice A3 (s.ended q.p).length q3])/\Below u.heap.size u w':=by
 refine (z9I h.line).mono ?_;rintro e w' ⟨v1,v2,v3,rfl,hs,hb⟩;obtain ⟨A1,k1,e1,-⟩:=z0n hs.held;obtain ⟨A2,k2,e2,-⟩:=z0n hs.shelf;obtain ⟨A3,k3,e3,-⟩:=z0n hs.ended;subst e1 e2 e3;exact ⟨A1,k1,A2,k2,A3,k3,rfl,hb⟩
theorem z2g {q:Bpar} {a:Lad} {F:Nat->Prop} {s:Lst} {cut:Bool} {steps wn:Nat} {u v:World} (h:BrkI q a F s cut steps wn u) (hb:Below u.heap.size u v) (ds:Array Value):BrkI q a F s cut steps wn ((v.alloc (.cells #[O I 0,O I 0,O I 0,O I 0,O I 0,O I 0,O I 0,O I 0,.slice none 0 0,.slice none 0 0,.slice none 0 0] 64)).setRow v.heap.size ds)/\Bx ((v.alloc (.cells #[O I 0,O I 0,O I 0,O I 0,O I 0,O I 0,O I 0,O I 0,.slice none 0 0,.slice none 0 0,.slice none 0 0] 64)).setRow v.heap.size ds) v.heap.size 64 ds:=by
 have e1:Edit (fun _=>False) v ((v.alloc (.cells #[O I 0,O I 0,O I 0,O I 0,O I 0,O I 0,O I 0,O I 0,.slice none 0 0,.slice none 0 0,.slice none 0 0] 64)).setRow v.heap.size ds):=((Edit.refl _ v).alloc _).row zY _;exact ⟨h.keep (hb.trans ((e1.below zY fun k hk=>hk.elim).mono hb.size)),(Bx.new v _ _).row _⟩
theorem y2X {p:Lpar} {s:Lst} (h:LInv p s):(lstN s=1/\s.e2=true/\s.stopped=false)∨(¬ lstN s=1/\((s.hd=0/\s.wrote=0)∨s.hd=1)):=by
 unfold lstN;cases h2:s.e2 with
 | true =>
  cases h3:s.stopped with
  | false=>exact Or.inl ⟨rfl,rfl,rfl⟩
  | true =>
   have:=h.hds h3;have h0:=h.h0;refine Or.inr ⟨by simp;split <;> omega,?_⟩
   by_cases hz:s.hd=0
   . exact Or.inl ⟨hz,h0 hz⟩
   . exact Or.inr (by omega)
 | false =>
  refine Or.inr ⟨by simp,?_⟩;cases hb:s.begun with
  | false=>exact Or.inl ⟨(h.hd0 hb).1,(h.hd0 hb).2.2⟩
  | true =>
   cases h3:s.stopped with
   | false=>exact Or.inr (h.hd1 hb h3 h2).1
   | true =>
    have:=h.hds h3;have h0:=h.h0
    by_cases hz:s.hd=0
    . exact Or.inl ⟨hz,h0 hz⟩
    . exact Or.inr (by omega)
end
section
variable {q:Bpar} {a:Lad} {F:Nat->Prop} {s:Lst} {cut:Bool} {steps wn:Nat} {u:World}
theorem y1W (h:BrkI q a F s cut steps wn u) (ln:Int) (hl:lstN s=ln) :
 Calls prog 24 #[.pointer (some ⟨q.l,0,none⟩)] u fun e w'=>∃ A1 q1 A2 q2 A3 q3,e=.returned (.agg #[O I ln,O I s.given,O I s.summed,O I s.wrote,O I s.writes,O I s.jobs.length,O I s.lane.length,O I s.ready.length,.slice A1 q.k5 q1,.slice A2 s.shelf.length q2,.slice A3 (s.ended q.p).length q3])/\Below u.heap.size u w':=by
 subst hl;exact z1X h
theorem z4O {u v:World} (hb:Below u.heap.size u v) (ds:Array Value):Below u.heap.size u ((v.alloc (.cells #[O I 0,O I 0,O I 0,O I 0,O I 0,O I 0,O I 0,O I 0,.slice none 0 0,.slice none 0 0,.slice none 0 0] 64)).setRow v.heap.size ds):=by
 have e1:Edit (fun _=>False) v ((v.alloc (.cells #[O I 0,O I 0,O I 0,O I 0,O I 0,O I 0,O I 0,O I 0,.slice none 0 0,.slice none 0 0,.slice none 0 0] 64)).setRow v.heap.size ds):=((Edit.refl _ v).alloc _).row zY _;exact hb.trans ((e1.below zY fun k hk=>hk.elim).mono hb.size)
theorem y2Y (h:BrkI q a F s cut steps wn u) (h2:s.e2=true) (h3:s.stopped=false) :
 Calls prog 25 #[.pointer (some ⟨q.l,0,none⟩)] u fun e w'=>e=.returned (.string q.tx)/\Below u.heap.size u w':=by
 obtain ⟨h4,h5,h6⟩:=h.line.inv.hd2 h2 h3;have:=z4M h.line;rw [h4,h5] at this;exact this
theorem y2Z (h:BrkI q a F s cut steps wn u) (h2:s.hd=0) (h3:s.wrote=0) :
 Calls prog 25 #[.pointer (some ⟨q.l,0,none⟩)] u fun e w'=>e=.returned (.string { data:=#[] })/\Below u.heap.size u w':=by
 have:=z4M h.line;rw [h2,h3] at this;exact this
theorem y5i (h:BrkI q a F s cut steps wn u) (h2:s.hd=1) :
 Calls prog 25 #[.pointer (some ⟨q.l,0,none⟩)] u fun e w'=>e=.returned (.string (bs (cutX q.d q.ch q.B q.k3 q.k4 q.G q.S s.wrote)))/\Below u.heap.size u w':=by
 have:=z4M h.line;rw [h2] at this;exact this
set_option maxRecDepth 100000 in
set_option maxHeartbeats 4000000 in
theorem y5j (h:BrkI q a F s cut steps wn u) (hl:lstN s=1) (h2:s.e2=true) (h3:s.stopped=false) :
 Calls prog 29 #[.pointer (some ⟨q.kb,0,none⟩)] u fun e w'=>e=.returned (.bool true)/\∃ wn',BrkI q a F s cut steps wn' w'/\Edit (·=q.kb) u w':=by
 have HBY:=zZ (y2Y h h2 h3);have HI:=zZ h;have HL:=zZ hl;have x0:=h.brk.cell 0;simp at x0;clear h h2 h3 hl
 go_enter Tryz.func29,Tryz.ntmps29
 go_wp2_with (first
  | (go_at_call 25;refine HBY.out.mono ?_;rintro e u1 ⟨rfl,hb⟩;have HI1:=zZ (HI.out.keep hb);have HB1:=zZ hb;have z0:=HI1.out.brk.cell 0;simp at z0;have HLK:=zZ (y1W HI1.out 1 HL.out);clear hb HI HBY)
  | (go_at_call 24;refine HLK.out.mono ?_;rintro e u2 ⟨A1,q1,A2,q2,A3,q3,rfl,hb⟩;have HZ:=zZ (z2g HI1.out hb #[O I 1,O I s.given,O I s.summed,O I s.wrote,O I s.writes,O I s.jobs.length,O I s.lane.length,O I s.ready.length,.slice A1 q.k5 q1,.slice A2 s.shelf.length q2,.slice A3 (s.ended q.p).length q3]);have HB2:=zZ (HB1.out.trans ((z4O hb #[O I 1,O I s.given,O I s.summed,O I s.wrote,O I s.writes,O I s.jobs.length,O I s.lane.length,O I s.ready.length,.slice A1 q.k5 q1,.slice A2 s.shelf.length q2,.slice A3 (s.ended q.p).length q3]).mono HB1.out.size));have v0:=HZ.out.2.cell 0;have y10:=HZ.out.1.brk.cell 10;simp at v0 y10;clear hb HI1 HLK)
  | (refine z0b rfl _ _ 64 rfl u2.heap.size 64 _ _ rfl rfl (Bx.new u2 #[O I 0,O I 0,O I 0,O I 0,O I 0,O I 0,O I 0,O I 0,.slice none 0 0,.slice none 0 0,.slice none 0 0] 64) z0D rfl rfl ?_))
 go_ret;exact ⟨rfl,wn,HZ.out.1,Edit.of HB2.out⟩
set_option maxRecDepth 100000 in
set_option maxHeartbeats 4000000 in
theorem y5k (h:BrkI q a F s cut steps wn u) (hl:¬ lstN s=1) (h2:s.hd=0) (h3:s.wrote=0) :
 Calls prog 29 #[.pointer (some ⟨q.kb,0,none⟩)] u fun e w'=>e=.returned (.bool true)/\∃ wn',BrkI q a F s cut steps wn' w'/\Edit (·=q.kb) u w':=by
 have hw:wn=0:=by have:=h.wr;omega
 subst hw;have HBY:=zZ (y2Z h h2 h3);have HLK0:Hid (∀ u,BrkI q a F s cut steps 0 u->Calls prog 24 #[.pointer (some ⟨q.l,0,none⟩)] u fun e w'=>∃ A1 q1 A2 q2 A3 q3,e=.returned (.agg #[O I (lstN s),O I s.given,O I s.summed,O I ((0:Nat):Int),O I s.writes,O I s.jobs.length,O I s.lane.length,O I s.ready.length,.slice A1 q.k5 q1,.slice A2 s.shelf.length q2,.slice A3 (s.ended q.p).length q3])/\Below u.heap.size u w'):=fun u hu=>by
  have:=z1X hu;rw [h3] at this;exact this
 have HI:=zZ h;have x0:=h.brk.cell 0;simp at x0;obtain ⟨ln,hln⟩:∃ ln,ln=lstN s:=⟨_,rfl⟩;rw [← hln] at HLK0 hl;have hl2:(ln == 1)=false:=by simpa using hl
 clear h h2 h3 hln
 go_enter Tryz.func29,Tryz.ntmps29
 go_wp2_with (first
  | (go_at_call 25;refine HBY.out.mono ?_;rintro e u1 ⟨rfl,hb⟩;have HI1:=zZ (HI.out.keep hb);have HB1:=zZ hb;have z0:=HI1.out.brk.cell 0;simp at z0;have HLK:=zZ (HLK0.out u1 HI1.out);clear hb HI HBY HLK0)
  | (go_at_call 24;refine HLK.out.mono ?_;rintro e u2 ⟨A1,q1,A2,q2,A3,q3,rfl,hb⟩;have HZ:=zZ (z2g HI1.out hb #[O I ln,O I s.given,O I s.summed,O I ((0:Nat):Int),O I s.writes,O I s.jobs.length,O I s.lane.length,O I s.ready.length,.slice A1 q.k5 q1,.slice A2 s.shelf.length q2,.slice A3 (s.ended q.p).length q3]);have HB2:=zZ (HB1.out.trans ((z4O hb #[O I ln,O I s.given,O I s.summed,O I ((0:Nat):Int),O I s.writes,O I s.jobs.length,O I s.lane.length,O I s.ready.length,.slice A1 q.k5 q1,.slice A2 s.shelf.length q2,.slice A3 (s.ended q.p).length q3]).mono HB1.out.size));have v0:=HZ.out.2.cell 0;have v3:=HZ.out.2.cell 3;have y15:=HZ.out.1.brk.cell 15;simp at v0 v3 y15;clear hb HI1 HLK)
  | (refine z0b rfl _ _ 64 rfl u2.heap.size 64 _ _ rfl rfl (Bx.new u2 #[O I 0,O I 0,O I 0,O I 0,O I 0,O I 0,O I 0,O I 0,.slice none 0 0,.slice none 0 0,.slice none 0 0] 64) z0D rfl rfl ?_))
 go_ret;exact ⟨rfl,0,HZ.out.1,Edit.of HB2.out⟩
end
theorem z9O {P:Program} {w:World} {o:Oper} {a:Act} (p:Operand) (t:TypeId) (ho:o.op=.load t p) (g:Nat) (tt:TypeId) (cs:Array Value) (fr:Nat × Nat) (d:TypeDesc) (hp:a.eval p=.pointer (some ⟨g,0,none⟩)) (hg:w.heap[g]?=some (.cells cs tt fr)) (hu:P.underlying t=some d)
 (hd:(match d with | .struct _ | .array _ _=>true | _=>false)=true) (hi:(P.info? t).map (·.size)=some cs.size):(execOp a.eval o).run P w=.ok (.value (.agg cs)) w:=by
 have hr:=run_loadVar_row (P:=P) w g tt t cs fr d hg hu hd hi;have e:(Instr.loadAt t (.pointer (some ⟨g,0,none⟩))).run P w=.ok (.agg cs) w:=by simpa [Instr.loadAt,Instr.sureAddr,asAddr] using hr
 unfold execOp;simp only [ho,hp,Sem.run_bind,e,Result.andThen,Sem.run_pure]
end Go.Proofs.YtlncjgnomhpjnabGreatDoor
