import Derived.Test.YtlncjgnomhpjnabGreatDoorQC54
import Derived.Test.YtlncjgnomhpjnabGreatDoorQC0
namespace Go.Proofs.YtlncjgnomhpjnabGreatDoor
open Go.Value renaming int → O
open Go.IntKind renaming i64 → I
open Go.Proofs.Tryz (prog)
open Go.RowKit Go.Deep
set_option linter.unusedVariables false
theorem y5r {p:Lpar} {s:Lst} (h:LInv p s) (h2:s.e2=true) {cut:Bool} (hT:cut=true->s.stopped=true/\s.failed=false) (hF:cut=false->s.stopped=s.failed) (hf:0<=p.fail/\p.fail<=p.N+3) :
 (cut=true/\lstN s=2/\s.writes<=p.N+1/\(p.fail < 1∨(s.writes:Int) < p.fail))∨(cut=false/\1<=p.fail/\p.fail<=p.N+2/\lstN s=3/\(s.writes:Int)=p.fail/\((s.wrote:Int)=p.fail - 2∨(p.fail=1/\s.wrote=0)))∨(cut=false/\(p.fail < 1∨p.N+2 < p.fail)/\lstN s=1/\s.wrote=p.N/\s.writes=p.N+2):=by
 have hw:=h.wrote;have hg:=h.given;unfold lstN;rw [h2];cases hc:cut with
 | true =>
  obtain ⟨h3,h4⟩:=hT hc;obtain ⟨h5,h6⟩:=h.fc h3 h4;rw [h3,h4];exact Or.inl ⟨rfl,rfl,h5,h6⟩
 | false =>
  have h3:=hF hc;cases h4:s.failed with
  | true =>
   obtain ⟨h5,h6⟩:=h.ff h4;rw [h3,h4];refine Or.inr (Or.inl ⟨rfl,by omega,by omega,rfl,h5,?_⟩);omega
  | false =>
   rw [h4] at h3;obtain ⟨h5,h6,h7⟩:=h.hd2 h2 h3;have h8:=h.wf h3;rw [h3];exact Or.inr (Or.inr ⟨rfl,by omega,rfl,h6,h7⟩)
theorem y5s {ch d B k3 k4 k5 k6 k7 S fv l gx cx ga ca:Nat} {G:Nat->Nat->Int} {gs:Nat->Nat} {w w5 w6:World} {a:Lad} {F:Nat->Prop} (hc:CfgK ch d B k3 k4 k5 k6 k7) (hk:KP d ch B k3 k4 S G) (hT:TabsF w) (hU:TabsU w) (hM:Made (⟨nBlk S B,k5,k6,k7,(fv:Int)⟩:Lpar) (⟨ch,d,B,k3,k4,S,G⟩:Lsn) w5.heap.size l w6 a F) (hx:AccI 0 w5 (.slice (some ⟨gx,0,none⟩) ch cx) S ch gs G) (hat:w5.ownsRow 0 3 1 (.slice (some ⟨ga,0,none⟩) (nBlk S B+1) ca) (nBlk S B+1) (atsL d ch G S B (22+2 * nPts S B k4) (nBlk S B+1))) (hq:Bx w5 w.heap.size 23 #[O I ch,O I d,O I B,O I k3,O I k4,O I k5,O I k6,O I k7]) (hb5:Below w.heap.size w w5) (hb:Below w5.heap.size w5 w6) (hfv:fv<=1000) :
 BrkI (⟨ch,d,B,k3,k4,k5,k6,k7,S,G,(fv:Int),w,w6.heap.size,l,gx,cx,ga,ca,w5.heap.size,gs⟩:Bpar) a F Lst.init false 0 0 (w6.alloc (.cells #[.pointer (some ⟨l,0,none⟩),O I ch,O I d,O I B,O I k3,O I k4,O I k5,O I k6,O I k7,.slice (some ⟨gx,0,none⟩) ch cx,.string (bs (z0B d ch B k3 k4 G S)),.slice (some ⟨ga,0,none⟩) (nBlk S B+1) ca,O I (fv:Nat),.bool false,O I 0,O I 0] 72)):=by
 have ba:Below w6.heap.size w6 (w6.alloc (.cells #[.pointer (some ⟨l,0,none⟩),O I ch,O I d,O I B,O I k3,O I k4,O I k5,O I k6,O I k7,.slice (some ⟨gx,0,none⟩) ch cx,.string (bs (z0B d ch B k3 k4 G S)),.slice (some ⟨ga,0,none⟩) (nBlk S B+1) ca,O I (fv:Nat),.bool false,O I 0,O I 0] 72)):=zX.alloc zY _;have h7:Below w5.heap.size w5 (w6.alloc (.cells #[.pointer (some ⟨l,0,none⟩),O I ch,O I d,O I B,O I k3,O I k4,O I k5,O I k6,O I k7,.slice (some ⟨gx,0,none⟩) ch cx,.string (bs (z0B d ch B k3 k4 G S)),.slice (some ⟨ga,0,none⟩) (nBlk S B+1) ca,O I (fv:Nat),.bool false,O I 0,O I 0] 72)):=hb.trans (ba.mono hb.size);have hxo:=hx.open hc.ch1;obtain ⟨g',c',e,-,hgx,-⟩:=hxo;cases e;have hga:=y1P hat ga rfl;have hlt:=hM.line.line.lt;have hl:=hM.line.ptr.lt;have hs:=hb.size;refine ⟨⟨hc,hk,hT,hU,hq.lt,⟨hgx,hga,fun i hi=>(hx.rows i hi).lt⟩,hs,hM.base,by show l ≠ w6.heap.size;omega,by show 0<=(fv:Int)/\(fv:Int)<=1000;omega⟩,hM.line.keep ba,Bx.new w6 _ _,hx.next h7,shOwn hat (Edit.of (S:=fun _=>False) h7) (fun _ _=>id),hq.below h7,hb5.trans (h7.mono hb5.size),fun k hk=>⟨hM.far k hk,by show k ≠ w6.heap.size;have:=hlt k hk;omega⟩,Nat.le_refl _,fun h=>(by cases h),fun _=>rfl,?_⟩
 show 0+Lst.init.rem (⟨nBlk S B,k5,k6,k7,(fv:Int)⟩:Lpar)<=6 * nBlk S B+k5+4
 rw [y6r,Nat.zero_add];exact Nat.le_refl _
set_option maxRecDepth 100000 in
set_option maxHeartbeats 8000000 in
theorem y5t (c0 c1 c2 c3 c4 c5 c6 c7:Int) (a:Option Addr) (n cap:Nat) (A:Nat->Option Addr) (L C:Nat->Nat) (F:Nat->Nat->Int) (fl:Int) (sa:Option Addr) (m sc:Nat) (kd nm:Nat->Int) (w:World) (h3:-9223372036854775808<=c3/\c3<=9223372036854775807) (h4:-9223372036854775808<=c4/\c4<=9223372036854775807) (hfl:-9223372036854775808<=fl/\fl<=9223372036854775807) (h:SoundIn w a n cap A L C F)
 (hF:∀ i,i < n->∀ j,j < L i->-9223372036854775808<=F i j/\F i j<=9223372036854775807) (hm:m<=9223372036854775807) (hP:∀ i,i < m->∃ g o,sa=some ⟨g,o,none⟩/\w.cell? ⟨g,o+i * 2,none⟩=some (O I (kd i))/\w.cell? ⟨g,o+i * 2+1,none⟩=some (O I (nm i))) (hPr:∀ i,i < m->(-9223372036854775808<=kd i/\kd i<=9223372036854775807)/\(-9223372036854775808<=nm i/\nm i<=9223372036854775807)) (hT:TabsF w) (hU:TabsU w) :
 Calls prog 6 #[.agg #[O I c0,O I c1,O I c2,O I c3,O I c4,O I c5,O I c6,O I c7],.slice a n cap,O I fl,.slice sa m sc] w fun e w'=>e=.returned (.bool true)/\Below w.heap.size w w':=by
 have HQ0:=zZ (Bx.new w #[O I c0,O I c1,O I c2,O I c3,O I c4,O I c5,O I c6,O I c7] 23);have HB0:Hid (Below w.heap.size w (w.alloc (.cells #[O I c0,O I c1,O I c2,O I c3,O I c4,O I c5,O I c6,O I c7] 23))):=zX.alloc zY _;have HRT:=zZ (fun u=>y6C c0 c1 c2 c3 c4 c5 c6 c7 u h3 h4);have HSD:=zZ (fun (u:World) (hu:Below w.heap.size w u) (ch d:Nat) (k2 k3 k4 k5 k6 k7:Int) h1 h2 h3=>y0V k2 k3 k4 k5 k6 k7 ch d a n cap A L C F u h1 h2 h3 (by have:=h.hn;omega) h.hL (h.below hu).hA (h.below hu).hI hF (h.below hu).low);have HS3:Hid (sndN n L<=300):=by show _<=_;unfold sndN;split <;> omega
 have HTF:=zZ hT;have HTU:=zZ hU;have HPF:=zZ (fun (N:Nat) (hN:N<=300) u=>z0U fl (N+4) u (by omega) (by omega) hfl);have HPL:=zZ (fun (N:Nat)=>z0F fl (N+4) (by omega));have HMC:Hid (∀ i u,i < m->Below w.heap.size w u->∃ g o,sa=some ⟨g,o,none⟩/\u.cell? ⟨g,o+i * 2,none⟩=some (O I (kd i))/\u.cell? ⟨g,o+i * 2+1,none⟩=some (O I (nm i))):=fun i u hi hu=>by
  obtain ⟨g,o,rfl,h5,h6⟩:=hP i hi;have hg:g < w.heap.size:=World.block_lt_of_cell? w _ h5;exact ⟨g,o,rfl,(z1m (hu.block g hg)).trans h5,(z1m (hu.block g hg)).trans h6⟩
 have HPR:=zZ hPr;clear h hF hT hU h3 h4 hfl hP hPr;generalize sndN n L=S at *
 go_enter Tryz.func6,Tryz.ntmps6
 go_wp2_with (first
  | (refine z0f rfl _ 23 rfl w.heap.size 23 #[O I c0,O I c1,O I c2,O I c3,O I c4,O I c5,O I c6,O I c7] (0,0) _ rfl HQ0.out Tryz.underlying23 rfl z1h ?_)
  | (go_at_call 9;refine (HRT.out _).mono ?_;rintro e w1 ⟨ch,d,B,k3,k4,k5,k6,k7,rfl,hcf,hb⟩;have HCF:=zZ hcf;have HQ1:=zZ (HQ0.out.below hb);have HQ2:=zZ (HQ1.out.row #[O I ch,O I d,O I B,O I k3,O I k4,O I k5,O I k6,O I k7]);have HB2:=zZ (z3f (HB0.out.trans (hb.mono HB0.out.size)) zY #[O I ch,O I d,O I B,O I k3,O I k4,O I k5,O I k6,O I k7]);clear HRT hcf hb HQ0 HB0)
  | (refine z0b rfl _ _ 23 rfl w.heap.size 23 _ _ rfl rfl HQ1.out z1h rfl rfl ?_)
  | (refine z0f rfl _ 23 rfl w.heap.size 23 #[O I ch,O I d,O I B,O I k3,O I k4,O I k5,O I k6,O I k7] (0,0) _ rfl HQ2.out Tryz.underlying23 rfl z1h ?_)
  | (go_at_call 10;refine (HSD.out _ HB2.out ch d B k3 k4 k5 k6 k7 HCF.out.ch4 HCF.out.d4 HCF.out.d12).mono ?_;rintro e w3 ⟨xv,gs,G,rfl,hx,hG,hb⟩;have HKP:=zZ (kp_of HCF.out HS3.out hG);have HQ3:=zZ (HQ2.out.below hb);have HB3:=zZ (HB2.out.trans (hb.mono HB2.out.size));obtain ⟨gx,cx,hxv,-,-,-⟩:=hx.open HCF.out.ch1;subst hxv;have HX3:=zZ (hx.mono (Nat.zero_le _));have hN3:nBlk S B<=300:=Nat.le_trans (z1a HCF.out.B1) HS3.out;have HEN:=zZ (y6D w3 HCF.out HKP.out HX3.out (HTF.out.below HB3.out));clear hx hG hb HQ1 HQ2 HB2 HSD)
  | (refine z0f rfl _ 23 rfl w.heap.size 23 #[O I ch,O I d,O I B,O I k3,O I k4,O I k5,O I k6,O I k7] (0,0) _ rfl HQ3.out Tryz.underlying23 rfl z1h ?_)
  | (go_at_call 11;refine HEN.out.mono ?_;rintro e w4 ⟨rfl,hb⟩;have HQ4:=zZ (HQ3.out.below hb);have HB4:=zZ (HB3.out.trans (hb.mono HB3.out.size));have HX4:=zZ (HX3.out.next hb);clear hb HQ3 HB3 HX3 HEN)
  | (refine z0f rfl _ 23 rfl w.heap.size 23 #[O I ch,O I d,O I B,O I k3,O I k4,O I k5,O I k6,O I k7] (0,0) _ rfl HQ4.out Tryz.underlying23 rfl z1h ?_)
  | (go_at_call 12;refine (y2V ch d B k3 k4 k5 k6 k7 S 0 gx cx gs G _ HCF.out HKP.out HX4.out (HTF.out.below HB4.out)).mono ?_;rintro e w5 ⟨ov,rfl,ho,hb⟩;obtain ⟨ga,ca,hov⟩:=z5g ho (by omega);subst hov;have HO5:=zZ (z1G ho (Nat.zero_le _));have HQ5:=zZ (HQ4.out.below hb);have HB5:=zZ (HB4.out.trans (hb.mono HB4.out.size));have HX5:=zZ (HX4.out.next hb);have wn1:IntKind.i64.wrap (((nBlk S B+1:Nat):Int) - 1)=(nBlk S B:Int):=(by rw [IntKind.wrap_i64];omega);have wn2:IntKind.i64.wrap ((nBlk S B:Int)+1 - 1)=(nBlk S B:Int):=(by rw [IntKind.wrap_i64];omega);have wn3:IntKind.i64.wrap (nBlk S B:Int)=(nBlk S B:Int):=(by rw [IntKind.wrap_i64];omega);have wn4:IntKind.i64.wrap ((nBlk S B:Int)+4)=((nBlk S B+4:Nat):Int):=(by rw [IntKind.wrap_i64];omega);have HPI:=zZ (HPF.out (nBlk S B) hN3);have hfv:=HPL.out (nBlk S B);obtain ⟨fv,hfv0⟩:∃ fv,fv=pickV fl (nBlk S B+4):=⟨_,rfl⟩;rw [← hfv0] at HPI hfv;clear ho hb hfv0 HQ4 HB4 HX4 HPF HPL)
  | (go_at_call 13;refine (HPI.out _).mono ?_;rintro e w6 ⟨rfl,hu⟩;subst w6;clear HPI)
  | (refine z0f rfl _ 23 rfl w.heap.size 23 #[O I ch,O I d,O I B,O I k3,O I k4,O I k5,O I k6,O I k7] (0,0) _ rfl HQ5.out Tryz.underlying23 rfl z1h ?_)
  | (go_at_call 21;refine (y6H w5 HCF.out HKP.out HX5.out _).mono ?_;rintro e w6 ⟨l,a6,F6,rfl,hM,hb⟩;have HMD:=zZ (And.intro hM hb);have HQ6:=zZ (HQ5.out.below hb);unfold ptrV;clear hM hb)
  | (refine z0f rfl _ 23 rfl w.heap.size 23 #[O I ch,O I d,O I B,O I k3,O I k4,O I k5,O I k6,O I k7] (0,0) _ rfl HQ6.out Tryz.underlying23 rfl z1h ?_))
 have HI0:Hid (BrkI (⟨ch,d,B,k3,k4,k5,k6,k7,S,G,(fv:Int),w,w6.heap.size,l,gx,cx,ga,ca,w5.heap.size,gs⟩:Bpar) a6 F6 Lst.init false 0 0 (w6.alloc (.cells #[.pointer (some ⟨l,0,none⟩),O I ch,O I d,O I B,O I k3,O I k4,O I k5,O I k6,O I k7,.slice (some ⟨gx,0,none⟩) ch cx,.string (bs (z0B d ch B k3 k4 G S)),.slice (some ⟨ga,0,none⟩) (nBlk S B+1) ca,O I (fv:Nat),.bool false,O I 0,O I 0] 72))):=y5s HCF.out HKP.out HTF.out HTU.out HMD.out.1 HX5.out HO5.out HQ5.out HB5.out HMD.out.2 (by omega);have HMV:Hid (∀ u kx nx,BrkE (⟨ch,d,B,k3,k4,k5,k6,k7,S,G,(fv:Int),w,w6.heap.size,l,gx,cx,ga,ca,w5.heap.size,gs⟩:Bpar) u->(-9223372036854775808<=kx/\kx<=9223372036854775807)->(-9223372036854775808<=nx/\nx<=9223372036854775807)->Calls prog 27 #[.pointer (some ⟨w6.heap.size,0,none⟩),.agg #[O I kx,O I nx]] u fun e w'=>e=.returned (.bool true)/\BrkE (⟨ch,d,B,k3,k4,k5,k6,k7,S,G,(fv:Int),w,w6.heap.size,l,gx,cx,ga,ca,w5.heap.size,gs⟩:Bpar) w'):=fun u kx nx hu h1 h2=>y6M hu kx nx h1 h2
 have HBL:Hid (∀ u,BrkE (⟨ch,d,B,k3,k4,k5,k6,k7,S,G,(fv:Int),w,w6.heap.size,l,gx,cx,ga,ca,w5.heap.size,gs⟩:Bpar) u->Below w.heap.size w u):=fun u hu=>by
  obtain ⟨a1,F1,s1,cut,st,wn,hI⟩:=hu;exact hI.bel
 clear HQ5 HB5 HX5 HO5 HMD HQ6 HTF HTU HS3 HKP
 go_loopw [17] (fun s17 wr=>∃ i:Nat,i<=m/\s17=O I i/\Hid (BrkE (⟨ch,d,B,k3,k4,k5,k6,k7,S,G,(fv:Int),w,w6.heap.size,l,gx,cx,ga,ca,w5.heap.size,gs⟩:Bpar) wr)) (fun s17 _=>m - (intOf s17).toNat)
 case atStart=>exact ⟨0,Nat.zero_le _,rfl,_,_,_,_,_,_,HI0.out⟩
 case round =>
  obtain ⟨i,hi,rfl,HH⟩:=hrel
  by_cases hlt:i < m
  . obtain ⟨g,o,rfl,hc1,hc2⟩:=HMC.out i wr hlt (HBL.out wr HH.out)
    have HM1:=zZ (HMV.out wr (kd i) (nm i) HH.out (HPR.out i hlt).1 (HPR.out i hlt).2);generalize kd i=kx at *;generalize nm i=nx at *;have z1:(i:Int) < (m:Int):=by omega
    have ws:IntKind.i64.wrap ((i:Int)+1)=((i+1:Nat):Int):=by rw [IntKind.wrap_i64];omega
    clear HMC HPR HMV HBL HI0 HH
    go_wp2_with (go_at_call 27;refine HM1.out.mono ?_;rintro e wz ⟨rfl,hz⟩;have HZ:=zZ hz;clear hz HM1)
    go_roundw
    case rel=>exact ⟨i+1,by omega,by go_num,HZ.out⟩
    case measure=>simp [intOf];omega
  . have e:i=m:=by omega
    subst e;obtain ⟨a1,F1,s1,cut,st,wn,hI⟩:=HH.out;have HEN:Hid (Calls prog 28 #[.pointer (some ⟨w6.heap.size,0,none⟩)] wr fun e w'=>e=.returned (.bool true)/\∃ a' F' s' steps' wn',BrkI (⟨ch,d,B,k3,k4,k5,k6,k7,S,G,(fv:Int),w,w6.heap.size,l,gx,cx,ga,ca,w5.heap.size,gs⟩:Bpar) a' F' s' cut steps' wn' w'/\s'.e2=true):=y6N hI;clear hI HH HMC HPR HMV HBL HI0
    go_wp2_with (first
     | (go_at_call 28;refine HEN.out.mono ?_;rintro e wa ⟨rfl,a2,F2,s2,st2,wn2,hI,h2⟩;have H2:=zZ h2;have HSK:Hid (Calls prog 29 #[.pointer (some ⟨w6.heap.size,0,none⟩)] wa fun e w'=>e=.returned (.bool true)/\∃ wn',BrkI (⟨ch,d,B,k3,k4,k5,k6,k7,S,G,(fv:Int),w,w6.heap.size,l,gx,cx,ga,ca,w5.heap.size,gs⟩:Bpar) a2 F2 s2 cut st2 wn' w'):=y1X hI;clear hI h2 HEN)
     | (go_at_call 29;refine HSK.out.mono ?_;rintro e wb ⟨rfl,wn3,hI⟩;have HI3:=zZ hI;have HC3:Hid (Bx wb w.heap.size 23 #[O I ch,O I d,O I B,O I k3,O I k4,O I k5,O I k6,O I k7]):=hI.cb;have HOV:Hid (Calls prog 26 #[.pointer (some ⟨l,0,none⟩),.agg #[O I ch,O I d,O I B,O I k3,O I k4,O I k5,O I k6,O I k7]] wb fun e w'=>e=.returned (.bool true)/\Below wb.heap.size wb w'):=z8p hI.line H2.out ch d B k3 k4 k6 k7;clear hI HSK)
     | (refine z0f rfl _ 23 rfl w.heap.size 23 #[O I ch,O I d,O I B,O I k3,O I k4,O I k5,O I k6,O I k7] (0,0) _ rfl HC3.out Tryz.underlying23 rfl z1h ?_)
     | (go_at_call 26;refine HOV.out.mono ?_;rintro e wc ⟨rfl,hb⟩;have HI4:=zZ (HI3.out.keep hb);clear hb HOV HC3 HI3))
    have HFC:(cut=true/\lstN s2=2/\s2.writes<=nBlk S B+1/\((fv:Int) < 1∨(s2.writes:Int) < (fv:Int)))∨(cut=false/\(1:Int)<=(fv:Int)/\(fv:Int)<=(nBlk S B:Int)+2/\lstN s2=3/\(s2.writes:Int)=(fv:Int)/\((s2.wrote:Int)=(fv:Int) - 2∨((fv:Int)=1/\s2.wrote=0)))∨(cut=false/\((fv:Int) < 1∨(nBlk S B:Int)+2 < (fv:Int))/\lstN s2=1/\s2.wrote=nBlk S B/\s2.writes=nBlk S B+2):=y5r HI4.out.line.inv H2.out HI4.out.cutT HI4.out.cutF ⟨by show (0:Int)<=(fv:Int);omega,by show (fv:Int)<=(nBlk S B:Int)+3;omega⟩;have HSE:Hid (∀ ln:Int,lstN s2=ln->Calls prog 24 #[.pointer (some ⟨l,0,none⟩)] wc fun e w'=>∃ A1 q1 A2 q2 A3 q3,e=.returned (.agg #[O I ln,O I s2.given,O I s2.summed,O I s2.wrote,O I s2.writes,O I s2.jobs.length,O I s2.lane.length,O I s2.ready.length,.slice A1 k5 q1,.slice A2 s2.shelf.length q2,.slice A3 (s2.ended (⟨nBlk S B,k5,k6,k7,(fv:Int)⟩:Lpar)).length q3])/\Below wc.heap.size wc w'):=fun ln hl=>y1W HI4.out ln hl
    have HFE:Hid (∀ wd ds,Below wc.heap.size wc wd->Bx ((wd.alloc (.cells #[O I 0,O I 0,O I 0,O I 0,O I 0,O I 0,O I 0,O I 0,.slice none 0 0,.slice none 0 0,.slice none 0 0] 64)).setRow wd.heap.size ds) wd.heap.size 64 ds/\((wd.alloc (.cells #[O I 0,O I 0,O I 0,O I 0,O I 0,O I 0,O I 0,O I 0,.slice none 0 0,.slice none 0 0,.slice none 0 0] 64)).setRow wd.heap.size ds).cell? ⟨w6.heap.size,13,none⟩=some (.bool cut)/\Below w.heap.size w ((wd.alloc (.cells #[O I 0,O I 0,O I 0,O I 0,O I 0,O I 0,O I 0,O I 0,.slice none 0 0,.slice none 0 0,.slice none 0 0] 64)).setRow wd.heap.size ds)):=fun wd ds hb=>⟨(z2g HI4.out hb ds).2,(z2g HI4.out hb ds).1.brk.cell 13,(z2g HI4.out hb ds).1.bel⟩
    clear HI4 H2;have wn5:IntKind.i64.wrap ((nBlk S B:Int)+2)=((nBlk S B+2:Nat):Int):=by rw [IntKind.wrap_i64];omega
    have wn6:IntKind.i64.wrap ((nBlk S B:Int)+1)=((nBlk S B+1:Nat):Int):=by rw [IntKind.wrap_i64];omega
    have wn7:IntKind.i64.wrap ((fv:Int) - 2)=(fv:Int) - 2:=by rw [IntKind.wrap_i64];omega
    generalize (s2.ended (⟨nBlk S B,k5,k6,k7,(fv:Int)⟩:Lpar)).length=el at *;generalize nBlk S B=NB at *;generalize s2.writes=wq at *;generalize s2.wrote=wt at *;rcases HFC with ⟨rfl,hl,hw,hor⟩ | ⟨rfl,hf1,hf2,hl,hw,hor⟩ | ⟨rfl,hor,hl,hwt,hwq⟩
    . have i1:(wq:Int)<=((NB+1:Nat):Int):=by omega
      have i1':(wq:Int)<=(NB:Int)+1:=by omega
      have i1'':wq<=NB+1:=by omega
      by_cases hz:(fv:Int) < 1
      . have d1:¬ ((1:Int)<=(fv:Int)):=by omega
        have d2:¬ (1<=fv):=by omega
        clear hor;refine (HSE.out 2 hl).mono ?_;rintro e wd ⟨A1,q1,A2,q2,A3,q3,rfl,hb⟩;obtain ⟨bx,y13,hfin⟩:=HFE.out wd #[O I 2,O I s2.given,O I s2.summed,O I wt,O I wq,O I s2.jobs.length,O I s2.lane.length,O I s2.ready.length,.slice A1 k5 q1,.slice A2 s2.shelf.length q2,.slice A3 el q3] hb;have v0:=bx.cell 0;have v3:=bx.cell 3;have v4:=bx.cell 4;simp at v0 v3 v4;have HFIN:=zZ hfin;clear hb bx hfin HFE HSE
        go_wp2_with (refine z0b rfl _ _ 64 rfl wd.heap.size 64 _ _ rfl rfl (Bx.new wd #[O I 0,O I 0,O I 0,O I 0,O I 0,O I 0,O I 0,O I 0,.slice none 0 0,.slice none 0 0,.slice none 0 0] 64) z0D rfl rfl ?_)
        go_ret;exact ⟨rfl,HFIN.out⟩
      . have d1:(1:Int)<=(fv:Int):=by omega
        have d2:1<=fv:=by omega
        have d3:(wq:Int) < (fv:Int):=by omega
        have d4:wq < fv:=by omega
        by_cases hz2:(fv:Int)<=(NB:Int)+2
        . have d5:fv<=NB+2:=by omega
          have d6:(fv:Int)<=((NB+2:Nat):Int):=by omega
          clear hor;refine (HSE.out 2 hl).mono ?_;rintro e wd ⟨A1,q1,A2,q2,A3,q3,rfl,hb⟩;obtain ⟨bx,y13,hfin⟩:=HFE.out wd #[O I 2,O I s2.given,O I s2.summed,O I wt,O I wq,O I s2.jobs.length,O I s2.lane.length,O I s2.ready.length,.slice A1 k5 q1,.slice A2 s2.shelf.length q2,.slice A3 el q3] hb;have v0:=bx.cell 0;have v3:=bx.cell 3;have v4:=bx.cell 4;simp at v0 v3 v4;have HFIN:=zZ hfin;clear hb bx hfin HFE HSE
          go_wp2_with (refine z0b rfl _ _ 64 rfl wd.heap.size 64 _ _ rfl rfl (Bx.new wd #[O I 0,O I 0,O I 0,O I 0,O I 0,O I 0,O I 0,O I 0,.slice none 0 0,.slice none 0 0,.slice none 0 0] 64) z0D rfl rfl ?_)
          go_ret;exact ⟨rfl,HFIN.out⟩
        . have d5:¬ (fv<=NB+2):=by omega
          have d6:¬ ((fv:Int)<=((NB+2:Nat):Int)):=by omega
          clear hor;refine (HSE.out 2 hl).mono ?_;rintro e wd ⟨A1,q1,A2,q2,A3,q3,rfl,hb⟩;obtain ⟨bx,y13,hfin⟩:=HFE.out wd #[O I 2,O I s2.given,O I s2.summed,O I wt,O I wq,O I s2.jobs.length,O I s2.lane.length,O I s2.ready.length,.slice A1 k5 q1,.slice A2 s2.shelf.length q2,.slice A3 el q3] hb;have v0:=bx.cell 0;have v3:=bx.cell 3;have v4:=bx.cell 4;simp at v0 v3 v4;have HFIN:=zZ hfin;clear hb bx hfin HFE HSE
          go_wp2_with (refine z0b rfl _ _ 64 rfl wd.heap.size 64 _ _ rfl rfl (Bx.new wd #[O I 0,O I 0,O I 0,O I 0,O I 0,O I 0,O I 0,O I 0,.slice none 0 0,.slice none 0 0,.slice none 0 0] 64) z0D rfl rfl ?_)
          go_ret;exact ⟨rfl,HFIN.out⟩
    . have h6:((wq:Int) == (fv:Int))=true:=by rw [beq_iff_eq];exact hw
      have h6b:(wq == fv)=true:=by rw [beq_iff_eq];omega
      have d2:1<=fv:=by omega
      have d5:fv<=NB+2:=by omega
      have d6:(fv:Int)<=((NB+2:Nat):Int):=by omega
      clear hw;rcases hor with ho | ⟨ho1,ho2⟩
      . have h7:((wt:Int) == (fv:Int) - 2)=true:=by rw [beq_iff_eq];exact ho
        clear ho;refine (HSE.out 3 hl).mono ?_;rintro e wd ⟨A1,q1,A2,q2,A3,q3,rfl,hb⟩;obtain ⟨bx,y13,hfin⟩:=HFE.out wd #[O I 3,O I s2.given,O I s2.summed,O I wt,O I wq,O I s2.jobs.length,O I s2.lane.length,O I s2.ready.length,.slice A1 k5 q1,.slice A2 s2.shelf.length q2,.slice A3 el q3] hb;have v0:=bx.cell 0;have v3:=bx.cell 3;have v4:=bx.cell 4;simp at v0 v3 v4;have HFIN:=zZ hfin;clear hb bx hfin HFE HSE
        go_wp2_with (refine z0b rfl _ _ 64 rfl wd.heap.size 64 _ _ rfl rfl (Bx.new wd #[O I 0,O I 0,O I 0,O I 0,O I 0,O I 0,O I 0,O I 0,.slice none 0 0,.slice none 0 0,.slice none 0 0] 64) z0D rfl rfl ?_)
        go_ret;exact ⟨rfl,HFIN.out⟩
      . have h7:((wt:Int) == (fv:Int) - 2)=false:=by rw [beq_eq_false_iff_ne];omega
        have h8:((fv:Int) == 1)=true:=by rw [beq_iff_eq];exact ho1
        have h9:((wt:Int) == 0)=true:=by rw [beq_iff_eq];omega
        have h8b:(fv == 1)=true:=by rw [beq_iff_eq];omega
        have h9b:(wt == 0)=true:=by rw [beq_iff_eq];exact ho2
        clear ho1 ho2;refine (HSE.out 3 hl).mono ?_;rintro e wd ⟨A1,q1,A2,q2,A3,q3,rfl,hb⟩;obtain ⟨bx,y13,hfin⟩:=HFE.out wd #[O I 3,O I s2.given,O I s2.summed,O I wt,O I wq,O I s2.jobs.length,O I s2.lane.length,O I s2.ready.length,.slice A1 k5 q1,.slice A2 s2.shelf.length q2,.slice A3 el q3] hb;have v0:=bx.cell 0;have v3:=bx.cell 3;have v4:=bx.cell 4;simp at v0 v3 v4;have HFIN:=zZ hfin;clear hb bx hfin HFE HSE
        go_wp2_with (refine z0b rfl _ _ 64 rfl wd.heap.size 64 _ _ rfl rfl (Bx.new wd #[O I 0,O I 0,O I 0,O I 0,O I 0,O I 0,O I 0,O I 0,.slice none 0 0,.slice none 0 0,.slice none 0 0] 64) z0D rfl rfl ?_)
        go_ret;exact ⟨rfl,HFIN.out⟩
    . have h6:((wt:Int) == (NB:Int))=true:=by rw [beq_iff_eq];omega
      have h6b:(wt == NB)=true:=by rw [beq_iff_eq];exact hwt
      have h7:((wq:Int) == (NB:Int)+2)=true:=by rw [beq_iff_eq];omega
      have h7b:((wq:Int) == ((NB+2:Nat):Int))=true:=by rw [beq_iff_eq];omega
      have h7c:(wq == NB+2)=true:=by rw [beq_iff_eq];exact hwq
      clear hwt hwq;rcases hor with ho | ho
      . have d1:¬ ((1:Int)<=(fv:Int)):=by omega
        have d2:¬ (1<=fv):=by omega
        refine (HSE.out 1 hl).mono ?_;rintro e wd ⟨A1,q1,A2,q2,A3,q3,rfl,hb⟩;obtain ⟨bx,y13,hfin⟩:=HFE.out wd #[O I 1,O I s2.given,O I s2.summed,O I wt,O I wq,O I s2.jobs.length,O I s2.lane.length,O I s2.ready.length,.slice A1 k5 q1,.slice A2 s2.shelf.length q2,.slice A3 el q3] hb;have v0:=bx.cell 0;have v3:=bx.cell 3;have v4:=bx.cell 4;simp at v0 v3 v4;have HFIN:=zZ hfin;clear hb bx hfin HFE HSE
        go_wp2_with (refine z0b rfl _ _ 64 rfl wd.heap.size 64 _ _ rfl rfl (Bx.new wd #[O I 0,O I 0,O I 0,O I 0,O I 0,O I 0,O I 0,O I 0,.slice none 0 0,.slice none 0 0,.slice none 0 0] 64) z0D rfl rfl ?_)
        go_ret;exact ⟨rfl,HFIN.out⟩
      . have d1:(1:Int)<=(fv:Int):=by omega
        have d2:1<=fv:=by omega
        have d5:¬ (fv<=NB+2):=by omega
        have d6:¬ ((fv:Int)<=((NB+2:Nat):Int)):=by omega
        have d7:¬ ((fv:Int)<=(NB:Int)+2):=by omega
        refine (HSE.out 1 hl).mono ?_;rintro e wd ⟨A1,q1,A2,q2,A3,q3,rfl,hb⟩;obtain ⟨bx,y13,hfin⟩:=HFE.out wd #[O I 1,O I s2.given,O I s2.summed,O I wt,O I wq,O I s2.jobs.length,O I s2.lane.length,O I s2.ready.length,.slice A1 k5 q1,.slice A2 s2.shelf.length q2,.slice A3 el q3] hb;have v0:=bx.cell 0;have v3:=bx.cell 3;have v4:=bx.cell 4;simp at v0 v3 v4;have HFIN:=zZ hfin;clear hb bx hfin HFE HSE
        go_wp2_with (refine z0b rfl _ _ 64 rfl wd.heap.size 64 _ _ rfl rfl (Bx.new wd #[O I 0,O I 0,O I 0,O I 0,O I 0,O I 0,O I 0,O I 0,.slice none 0 0,.slice none 0 0,.slice none 0 0] 64) z0D rfl rfl ?_)
        go_ret;exact ⟨rfl,HFIN.out⟩
end Go.Proofs.YtlncjgnomhpjnabGreatDoor
