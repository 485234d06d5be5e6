import Derived.Test.YtlncjgnomhpjnabGreatDoorQL49
import Derived.Deep.MidRow
set_option maxRecDepth 100000
namespace Go.Proofs.YtlncjgnomhpjnabGreatDoor
open Go.Value renaming int → O
open Go.IntKind renaming i64 → I
open Go.Proofs.Tryz
open Go.RowKit Go.Deep
set_option linter.unusedVariables false
theorem y3h {t:Tw} {w:World} (h:TwIs t w):∃ (e:Int) (RS:World->Prop),Calls prog 54 #[ptrV t.l] w (fun q w'=>q=.returned (O I e)/\RS w'/\Edit t.foot w w') /\
 ∀ w',RS w'->Calls prog 93 #[ptrV t.r.rb] w' fun q w2=>q=.returned (O I e)/\∃ t',Went t w t' w2:=by
 rcases (zH t.s.e2).symm with h2 | h2
 . rcases (zH t.s.stopped).symm with hs | hs
   . refine ⟨0,fun w'=>RLine t.p t.a t.x t.F t.l t.s.halt w'/\Edit t.F w w',(y0S h.one h2 hs).mono ?_,fun w' hw'=>?_⟩
     . rintro e w' ⟨rfl,h3,h4⟩
       exact ⟨rfl,⟨h3,h4⟩,h4.mono fun k hk=>Or.inl hk⟩
     . have hr:=h.raw.edit hw'.2 (fun k hk=>(h.sep k (Or.inl hk)).1) (fun g hg=>(h.sep g (Or.inr hg)).1)
       refine (y0M hr h.one.inv h2 hs).mono ?_;rintro e w2 ⟨rfl,h5,h6⟩;exact ⟨rfl,⟨t.p,t.a,t.x,t.F,t.l,t.s.halt,t.r,t.b.halt⟩,⟨hw'.1.edit h6 (fun k hk hc=>(h.sep k (Or.inl hc)).1 hk) (fun hc=>(h.sep _ (Or.inl hc)).2 rfl),h5,h.rel.cancel,h.sep⟩,(hw'.2.mono fun k hk=>Or.inl hk).trans (h6.mono fun k hk=>Or.inr (Or.inr (Or.inl hk))),fun k hk=>Or.inl hk,rfl,rfl,rfl,rfl⟩
   . refine ⟨9,fun w'=>Below w.heap.size w w',(y3g h.one h2 hs).mono ?_,fun w' hb=>(z7l (h.below hb).raw (Or.inr hs)).mono ?_⟩
     . rintro e w' ⟨rfl,hb⟩
       exact ⟨rfl,hb,Edit.of hb⟩
     . rintro e w2 ⟨rfl,rfl⟩
       exact ⟨rfl,t,Went.below h hb⟩
 . refine ⟨9,fun w'=>Below w.heap.size w w',(z9t h.one h2).mono ?_,fun w' hb=>(z7l (h.below hb).raw (Or.inl h2)).mono ?_⟩
   . rintro e w' ⟨rfl,hb⟩
     exact ⟨rfl,hb,Edit.of hb⟩
   . rintro e w2 ⟨rfl,rfl⟩
     exact ⟨rfl,t,Went.below h hb⟩
def y0U (S:Nat->Prop) (n:Nat) (tw:Nat->Tw) (w w':World):Prop:=∀ k,k < w.heap.size->¬ S k->(∀ i,i < n->¬ (tw i).foot k)->w'.heap[k]?=w.heap[k]?
def z5o (b0 B:Nat) (S:Nat->Prop) (ln:Value) (K n:Nat) (tw:Nat->Tw) (w w':World):Prop:=∃ S' tw' K',LwI b0 B S' ln K' n tw' w'/\K'<=K+3/\Below b0 w w'/\y0U S n tw w w'
theorem z4W {b0 B:Nat} {S:Nat->Prop} {ln:Value} {K n:Nat} {tw:Nat->Tw} {w u w':World} (h:LwI b0 B S ln K n tw w) (hb:b0<=w.heap.size) (hu:Below w.heap.size w u) {i:Nat} (hi:i < n) {t':Tw} (hw:Went (tw i) u t' w'):z5o b0 B S ln K n tw w w':=by
 have h1:=h.below hu;have h2:=hw.low (B:=b0) (fun k hk=>(h.bs i hi k hk).2.2) (zO hb hu.size);exact ⟨S,_,K,h1.went hi hw (zO hb hu.size),zU,(hu.mono hb).trans h2.1,fun k hk _ hf=>(hw.ed.block k (zP hk hu.size) (hf i hi)).trans (hu.block k hk)⟩
set_option maxHeartbeats 1000000 in
theorem z9B {b0 B:Nat} {S:Nat->Prop} {ln:Value} {K n:Nat} {tw:Nat->Tw} {w:World} (h:LwI b0 B S ln K n tw w) (hb:b0<=w.heap.size) {i:Nat} (hi:i < n) (o1 o2 o3 o4 o5 o6 o7 o8 o9 o10 o11 o12 o13 o14:Value) :
 Calls prog 45 #[.pointer (some ⟨B,0,none⟩),.agg #[ptrV (tw i).l,ptrV (tw i).r.rb],.agg #[O I 15,o1,o2,o3,o4,o5,o6,o7,o8,o9,o10,o11,o12,o13,o14]] w fun e w'=>e=.returned (.bool true)/\z5o b0 B S ln K n tw w w':=by
 obtain ⟨W,hW⟩:∃ W,(w.alloc (.cells #[ptrV (tw i).l,ptrV (tw i).r.rb] 87)).alloc (.cells #[O I 15,o1,o2,o3,o4,o5,o6,o7,o8,o9,o10,o11,o12,o13,o14] 54)=W:=⟨_,rfl⟩;have bW:Below w.heap.size w W:=hW ▸ (zX.alloc zY _).alloc (by simp) _;have hx:Bx W w.heap.size 87 #[ptrV (tw i).l,ptrV (tw i).r.rb]:=hW ▸ (Bx.new w _ _).alloc _;have hy:Bx W (w.heap.size+1) 54 #[O I 15,o1,o2,o3,o4,o5,o6,o7,o8,o9,o10,o11,o12,o13,o14]:=hW ▸ Bx.new2 (by simp) _ _;have ht:=(h.is i hi).below bW;obtain ⟨ev,RS,c1,c2⟩:=y3h ht;have HE:Hid (∀ u,Edit (tw i).foot W u->u.cell? ⟨w.heap.size,1,none⟩=some (ptrV (tw i).r.rb)):=fun u hu=>(hx.edit hu fun hc=>by have:=(h.is i hi).lt _ hc;omega).cell 1
 have HF:Hid (∀ t' u,Went (tw i) W t' u->z5o b0 B S ln K n tw w u):=fun t' u hw=>z4W h hb bW hi hw
 have HC1:=zZ c1;have HC2:=zZ c2;have x0:=hx.cell 0;have y0:=hy.cell 0;simp [ptrV] at x0 y0;clear h ht hx hy c1 c2 bW;unfold ptrV at *
 go_enter func45,ntmps45
 go_wp2_with (first
  | (go_at_call 54;refine HC1.out.mono ?_;rintro e u1 ⟨rfl,h1,h2⟩;have z1:=HE.out u1 h2;have HD:=zZ (HC2.out u1 h1);clear h1 h2 HC1 HC2 HE)
  | (go_at_call 93;refine HD.out.mono ?_;rintro e u2 ⟨rfl,t',h3⟩;have HL:=zZ (HF.out t' u2 h3);clear h3 HD HF)
  | (go_at_call 77;refine (y5r _ _).mono ?_;rintro e u3 ⟨rfl,hu3⟩;subst u3))
 go_ret;exact ⟨rfl,HL.out⟩
section
variable {b0 B:Nat} {S:Nat->Prop} {ln:Value} {K n:Nat} {tw:Nat->Tw} {w:World}
set_option maxHeartbeats 1000000 in
theorem y0V (h:LwI b0 B S ln K n tw w) (hb:b0<=w.heap.size) {i:Nat} (hi:i < n) (o1 o2 o3 o4 o5 o6 o7 o8 o9 o10 o11 o12 o13 o14:Value) :
 Calls prog 45 #[.pointer (some ⟨B,0,none⟩),.agg #[ptrV (tw i).l,ptrV (tw i).r.rb],.agg #[O I 17,o1,o2,o3,o4,o5,o6,o7,o8,o9,o10,o11,o12,o13,o14]] w fun e w'=>e=.returned (.bool true)/\z5o b0 B S ln K n tw w w':=by
 obtain ⟨W,hW⟩:∃ W,(w.alloc (.cells #[ptrV (tw i).l,ptrV (tw i).r.rb] 87)).alloc (.cells #[O I 17,o1,o2,o3,o4,o5,o6,o7,o8,o9,o10,o11,o12,o13,o14] 54)=W:=⟨_,rfl⟩;have bW:Below w.heap.size w W:=hW ▸ (zX.alloc zY _).alloc (by simp) _;have hx:Bx W w.heap.size 87 #[ptrV (tw i).l,ptrV (tw i).r.rb]:=hW ▸ (Bx.new w _ _).alloc _;have hy:Bx W (w.heap.size+1) 54 #[O I 17,o1,o2,o3,o4,o5,o6,o7,o8,o9,o10,o11,o12,o13,o14]:=hW ▸ Bx.new2 (by simp) _ _;have ht:=(h.is i hi).below bW;have x0:=hx.cell 0;have x1:=hx.cell 1;have y0:=hy.cell 0;have y13:=hy.cell 13;simp [ptrV] at x0 x1 y0 y13;have HC1:=zZ (z7k ht.one);have HC2:Hid (∀ u,Below W.heap.size W u->u.cell? ⟨w.heap.size,1,none⟩=some (ptrV (tw i).r.rb)/\Calls prog 97 #[ptrV (tw i).r.rb] u fun e w'=>e=.returned (.string (bs (hdT (tw i).x (tw i).s.hd ++ frsT (tw i).x.d (tw i).x.ch (tw i).x.G (tw i).x.S (tw i).x.B (tw i).s.wrote)))/\w'=u):=fun u hu=>⟨(hx.below hu).cell 1,y3d (ht.below hu).raw ht.one.inv ht.one.line.kp ht.one.line.NB⟩
 have HF:Hid (∀ u,Below W.heap.size W u->z5o b0 B S ln K n tw w u):=fun u hu=>z4W h hb bW hi (Went.below ht hu)
 generalize bs (hdT (tw i).x (tw i).s.hd ++ frsT (tw i).x.d (tw i).x.ch (tw i).x.G (tw i).x.S (tw i).x.B (tw i).s.wrote)=TX at *;clear h ht hx hy bW;unfold ptrV at *
 go_enter func45,ntmps45
 go_wp2_with (first
  | (go_at_call 25;refine HC1.out.mono ?_;rintro e u1 ⟨rfl,h2⟩;have z1:=(HC2.out u1 h2).1;have HD:=zZ (HC2.out u1 h2).2;have HL:=zZ (HF.out u1 h2);clear h2 HC1 HC2 HF)
  | (go_at_call 97;refine HD.out.mono ?_;rintro e u2 ⟨rfl,hu2⟩;subst u2;clear HD))
 go_ret;exact ⟨rfl,HL.out⟩
set_option maxHeartbeats 1000000 in
theorem z6u (h:LwI b0 B S ln K n tw w) (hb:b0<=w.heap.size) {i:Nat} (hi:i < n) (o1 o2 o3 o4 o5 o6 o7 o8 o9 o10 o11 o12 o14:Value) (w0:World) (hT:TabsF w0) (hB0:Below w0.heap.size w0 w) (hw0:b0=w0.heap.size) (pa:Option Addr) (m c:Nat) (pk:Nat->Int) (hP:IntsAt w pa m pk) (hPl:∀ y,pa=some y->0 < m->y.block < w.heap.size/\¬ (tw i).foot y.block) (hr:∀ j,j < m->pk j<=9223372036854775807) (hm:m<=9223372036854775807) :
 Calls prog 45 #[.pointer (some ⟨B,0,none⟩),.agg #[ptrV (tw i).l,ptrV (tw i).r.rb],.agg #[O I 14,o1,o2,o3,o4,o5,o6,o7,o8,o9,o10,o11,o12,.slice pa m c,o14]] w fun e w'=>e=.returned (.bool true)/\∃ t',LwI b0 B S ln K n (updL tw i t') w'/\(Below b0 w w'/\y0U S n tw w w')/\t'.l=(tw i).l/\t'.p=(tw i).p/\t'.x=(tw i).x/\t'.s=goN (tw i).p pk m (tw i).s:=by
 obtain ⟨W,hW⟩:∃ W,(w.alloc (.cells #[ptrV (tw i).l,ptrV (tw i).r.rb] 87)).alloc (.cells #[O I 14,o1,o2,o3,o4,o5,o6,o7,o8,o9,o10,o11,o12,.slice pa m c,o14] 54)=W:=⟨_,rfl⟩;have bW:Below w.heap.size w W:=hW ▸ (zX.alloc zY _).alloc (by simp) _;have hx:Bx W w.heap.size 87 #[ptrV (tw i).l,ptrV (tw i).r.rb]:=hW ▸ (Bx.new w _ _).alloc _;have hy:Bx W (w.heap.size+1) 54 #[O I 14,o1,o2,o3,o4,o5,o6,o7,o8,o9,o10,o11,o12,.slice pa m c,o14]:=hW ▸ Bx.new2 (by simp) _ _;have ht:=(h.is i hi).below bW;have x0:=hx.cell 0;have x1:=hx.cell 1;have y0:=hy.cell 0;have y13:=hy.cell 13;simp [ptrV] at x0 x1 y0 y13;have HC1:=zZ (y5t ht hT (hB0.trans (bW.mono hB0.size)) (fun k hk=>hw0 ▸ (h.bs i hi k hk).2.2) pa m c pk (hP.below bW fun y hy h0=>(hPl y hy h0).1) (fun y hy h0=>⟨zP (hPl y hy h0).1 bW.size,(hPl y hy h0).2⟩) hr hm);have HF:Hid (∀ t' u,Went (tw i) W t' u->LwI b0 B S ln K n (updL tw i t') u/\(Below b0 w u/\y0U S n tw w u)/\t'.l=(tw i).l/\t'.p=(tw i).p/\t'.x=(tw i).x):=fun t' u hw=>by
  have h2:=hw.low (B:=b0) (fun k hk=>(h.bs i hi k hk).2.2) (zO hb bW.size);exact ⟨(h.below bW).went hi hw (zO hb bW.size),⟨(bW.mono hb).trans h2.1,fun k hk _ hf=>(hw.ed.block k (zP hk bW.size) (hf i hi)).trans (bW.block k hk)⟩,hw.ptr.1,hw.ptr.2.2.1,hw.ptr.2.2.2⟩
 have HX:=zZ hx;clear h ht hx hy bW hT hB0 hP hPl hr;unfold ptrV at *
 go_enter func45,ntmps45
 go_wp2_with (first
  | (go_at_call 92;refine HC1.out.mono ?_;rintro e u2 ⟨rfl,t',h3,h4⟩;have HL:=zZ (HF.out t' u2 h3);have HS4:=zZ h4;clear h3 h4 HF HC1))
 go_ret;exact ⟨rfl,t',HL.out.1,HL.out.2.1,HL.out.2.2.1,HL.out.2.2.2.1,HL.out.2.2.2.2,HS4.out⟩
theorem y3i (h:LwI b0 B S ln K n tw w) (hb:b0<=w.heap.size) {i:Nat} (hi:i < n) (o1 o2 o3 o4 o5 o6 o7 o8 o9 o10 o11 o12 o14:Value) (w0:World) (hT:TabsF w0) (hB0:Below w0.heap.size w0 w) (hw0:b0=w0.heap.size) (pa:Option Addr) (m c:Nat) (pk:Nat->Int) (hP:IntsAt w pa m pk) (hPl:∀ y,pa=some y->0 < m->y.block < w0.heap.size) (hr:∀ j,j < m->pk j<=9223372036854775807) (hm:m<=9223372036854775807) :
 Calls prog 45 #[.pointer (some ⟨B,0,none⟩),.agg #[ptrV (tw i).l,ptrV (tw i).r.rb],.agg #[O I 14,o1,o2,o3,o4,o5,o6,o7,o8,o9,o10,o11,o12,.slice pa m c,o14]] w fun e w'=>e=.returned (.bool true)/\z5o b0 B S ln K n tw w w':=by
 refine (z6u h hb hi o1 o2 o3 o4 o5 o6 o7 o8 o9 o10 o11 o12 o14 w0 hT hB0 hw0 pa m c pk hP (fun y hy h0=>⟨zP (hPl y hy h0) hB0.size,fun hc=>by have:=(h.bs i hi _ hc).2.2;have:=hPl y hy h0;omega⟩) hr hm).mono ?_;rintro e w' ⟨rfl,t',h1,h2,-⟩;exact ⟨rfl,S,_,K,h1,zU,h2.1,h2.2⟩
set_option maxHeartbeats 1000000 in
theorem y0W {kd:Int} {b0 B:Nat} {S:Nat->Prop} {ln:Value} {K n:Nat} {tw:Nat->Tw} {w:World} (h:LwI b0 B S ln K n tw w) (hb:b0<=w.heap.size) {i:Nat} (hi:i < n) (o1 o2 o3 o4 o5 o6 o7 o8 o9 o10 o11 o12 o13 o14:Value) (h13:kd ≠ 13) (h14:kd ≠ 14) (h15:kd ≠ 15) (h16:kd ≠ 16) (h17:kd ≠ 17) :
 Calls prog 45 #[.pointer (some ⟨B,0,none⟩),.agg #[ptrV (tw i).l,ptrV (tw i).r.rb],.agg #[O I kd,o1,o2,o3,o4,o5,o6,o7,o8,o9,o10,o11,o12,o13,o14]] w fun e w'=>e=.returned (.bool true)/\z5o b0 B S ln K n tw w w':=by
 obtain ⟨W,hW⟩:∃ W,(w.alloc (.cells #[ptrV (tw i).l,ptrV (tw i).r.rb] 87)).alloc (.cells #[O I kd,o1,o2,o3,o4,o5,o6,o7,o8,o9,o10,o11,o12,o13,o14] 54)=W:=⟨_,rfl⟩;have bW:Below w.heap.size w W:=hW ▸ (zX.alloc zY _).alloc (by simp) _;have hx:Bx W w.heap.size 87 #[ptrV (tw i).l,ptrV (tw i).r.rb]:=hW ▸ (Bx.new w _ _).alloc _;have hy:Bx W (w.heap.size+1) 54 #[O I kd,o1,o2,o3,o4,o5,o6,o7,o8,o9,o10,o11,o12,o13,o14]:=hW ▸ Bx.new2 (by simp) _ _;have ht:=(h.is i hi).below bW;have x0:=hx.cell 0;have x1:=hx.cell 1;have y0:=hy.cell 0;have y13:=hy.cell 13;simp [ptrV] at x0 x1 y0 y13;have HF:=zZ (z4W h hb bW hi (Went.refl ht));have k13:(kd == 13)=false:=by simp [h13]
 have k14:(kd == 14)=false:=by simp [h14]
 have k15:(kd == 15)=false:=by simp [h15]
 have k16:(kd == 16)=false:=by simp [h16]
 have k17:(kd == 17)=false:=by simp [h17]
 clear h ht hx hy bW h13 h14 h15 h16 h17;unfold ptrV at *
 go_enter func45,ntmps45
 go_wp2;go_ret;exact ⟨rfl,HF.out⟩
end
theorem y5x {b0 B:Nat} {S:Nat->Prop} {ln:Value} {K n:Nat} {tw:Nat->Tw} {w w1:World} (h:LwI b0 B S ln K n tw w) (hb:b0<=w.heap.size) (h1:Below w.heap.size w w1) (hK:K<=1000000000000) {v:Value} {m:Nat} {xs:List Value} (hv:w1.ownsRow w.heap.size 3 1 v m xs) (hm:m<=1000000) :
 Calls prog 43 #[.pointer (some ⟨B,1,none⟩),v] w1 fun e w'=>e=.returned (.tuple #[])/\∃ S',LwI b0 B S' ln (K+1) n tw w'/\Below b0 w1 w'/\(∀ k,S' k->S k∨v.ownBlock=some k∨w1.heap.size<=k)/\Edit (fun k=>S k∨v.ownBlock=some k) w1 w':=by
 have h2:=h.below h1;obtain ⟨x,hL⟩:=y1Q hv;have hlo:=z0t hv;refine (z4z S B ln K m v.ownBlock x v w1 hm hK h2.book hL fun g hg hc=>by have:=h.book.lt g hc;have:=hlo g hg;omega).mono ?_;rintro e w' ⟨rfl,ht⟩;obtain ⟨h3,h4⟩:=h2.took ht (zO hb h1.size) fun g hg=>by
  have:=hlo g hg;exact ⟨zU,fun hc=>by have:=z1n h.rows g hc;omega,fun i hi hc=>by have:=(h.is i hi).lt g hc;omega⟩
 exact ⟨rfl,_,h3,h4,fun k hk=>hk.1,⟨ht.os,ht.tape,ht.output,ht.size,fun k hk hs=>ht.block k hk (fun hc=>hs (Or.inl hc)) (fun hc=>hs (Or.inr hc))⟩⟩
set_option maxHeartbeats 1000000 in
theorem y3j {b0 B:Nat} {S:Nat->Prop} {ln:Value} {K n:Nat} {tw:Nat->Tw} {w:World} (h:LwI b0 B S ln K n tw w) (hb:b0<=w.heap.size) {i:Nat} (hi:i < n) (o1 o2 o3 o4 o5 o6 o7 o8 o9 o10 o11 o12 o13 o14:Value) (hK:K<=1000000000000) :
 Calls prog 45 #[.pointer (some ⟨B,0,none⟩),.agg #[ptrV (tw i).l,ptrV (tw i).r.rb],.agg #[O I 13,o1,o2,o3,o4,o5,o6,o7,o8,o9,o10,o11,o12,o13,o14]] w fun e w'=>e=.returned (.bool true)/\z5o b0 B S ln K n tw w w':=by
 obtain ⟨W,hW⟩:∃ W,(w.alloc (.cells #[ptrV (tw i).l,ptrV (tw i).r.rb] 87)).alloc (.cells #[O I 13,o1,o2,o3,o4,o5,o6,o7,o8,o9,o10,o11,o12,o13,o14] 54)=W:=⟨_,rfl⟩;have bW:Below w.heap.size w W:=hW ▸ (zX.alloc zY _).alloc (by simp) _;have hx:Bx W w.heap.size 87 #[ptrV (tw i).l,ptrV (tw i).r.rb]:=hW ▸ (Bx.new w _ _).alloc _;have hy:Bx W (w.heap.size+1) 54 #[O I 13,o1,o2,o3,o4,o5,o6,o7,o8,o9,o10,o11,o12,o13,o14]:=hW ▸ Bx.new2 (by simp) _ _;have ht:=(h.is i hi).below bW;have x0:=hx.cell 0;have x1:=hx.cell 1;have y0:=hy.cell 0;have y13:=hy.cell 13;simp [ptrV] at x0 x1 y0 y13;have hW8:=ht.one.line.W8;have hal:((tw i).s.able (tw i).p).length<=11:=by have:=List.length_filter_le (fun t=>((tw i).s.next (tw i).p t).isSome) (List.range (3+(tw i).p.W));rw [List.length_range] at this;exact zO this zU
 have HC1:=zZ (z9s ht.one);have HC2:Hid (∀ u,Below W.heap.size W u->u.cell? ⟨w.heap.size,1,none⟩=some (ptrV (tw i).r.rb)/\Calls prog 90 #[ptrV (tw i).r.rb] u fun e w'=>∃ v,e=.returned v/\w'.ownsRow u.heap.size 3 1 v ((tw i).s.able (tw i).p).length (((tw i).s.able (tw i).p).map fun (k:Nat)=>O I (k:Int))/\Below u.heap.size u w'):=fun u hu=>⟨(hx.below hu).cell 1,z2u (ht.below hu).raw ht.rel ht.one.inv⟩
 generalize hab:(tw i).s.able (tw i).p=ab at *;have HS:Hid (∀ u1 u2 v1 v2,u1.ownsRow W.heap.size 3 1 v1 ab.length (ab.map fun (k:Nat)=>O I (k:Int))->Below u1.heap.size u1 u2->u2.ownsRow u1.heap.size 3 1 v2 ab.length (ab.map fun (k:Nat)=>O I (k:Int))->Calls prog 91 #[v1,v2] u2 fun e w'=>e=.returned (.bool true)/\∃ m,w'=u2.drewN m):=fun u1 u2 v1 v2 o1 hb o2=>by
  have o1':=z0m o1 (Edit.of (S:=fun _=>False) hb) fun _ _=>id
  obtain ⟨A,c,rfl,i1⟩:=z2j o1' (fun i hi=>z4V hi);obtain ⟨A',c',rfl,i2⟩:=z2j o2 (fun i hi=>z4V hi);exact z4y A A' _ c c' _ u2 zU i1 i2
 have HT:Hid (∀ u1 u2 v1 m,u1.ownsRow W.heap.size 3 1 v1 ab.length (ab.map fun (k:Nat)=>O I (k:Int))->Below W.heap.size W u1->Below u1.heap.size u1 u2->Calls prog 43 #[.pointer (some ⟨B,1,none⟩),v1] (u2.drewN m) fun e w'=>e=.returned (.tuple #[])/\z5o b0 B S ln K n tw w w'):=fun u1 u2 v1 m o1 hb1 hb2=>by
  have hb3:Below W.heap.size W (u2.drewN m):=z0W (hb1.trans (hb2.mono hb1.size)) m;have o1':(u2.drewN m).ownsRow W.heap.size 3 1 v1 ab.length (ab.map fun (k:Nat)=>O I (k:Int)):=z5t (z0m o1 (Edit.of (S:=fun _=>False) hb2) fun _ _=>id) rfl;refine (y5x (h.below bW) (zO hb bW.size) hb3 hK o1' zU).mono ?_;rintro e w' ⟨rfl,S',h5,h6,-,h7⟩;have hlo:=z0t o1';refine ⟨rfl,S',tw,K+1,h5,zU,(bW.mono hb).trans ((hb3.mono (zO hb bW.size)).trans h6),fun k hk hS hf=>?_⟩;have hk2:=zP hk bW.size;exact (h7.block k (zP hk2 hb3.size) (fun hc=>hc.elim hS fun hc=>by have:=hlo k hc;omega)).trans ((hb3.block k hk2).trans (bW.block k hk))
 clear h ht hx hy bW hW8 hab;unfold ptrV at *
 go_enter func45,ntmps45
 go_wp2_with (first
  | (go_at_call 42;refine HC1.out.mono ?_;rintro e u1 ⟨v1,rfl,o1',hb1⟩;have z1:=(HC2.out u1 hb1).1;have HD:=zZ (HC2.out u1 hb1).2;have HO1:=zZ (And.intro o1' hb1);clear o1' hb1 HC1 HC2)
  | (go_at_call 90;refine HD.out.mono ?_;rintro e u2 ⟨v2,rfl,o2',hb2⟩;have HE:=zZ (HS.out u1 u2 v1 v2 HO1.out.1 hb2 o2');have HT2:=zZ (fun m=>HT.out u1 u2 v1 m HO1.out.1 HO1.out.2 hb2);clear o2' hb2 HD HS HT)
  | (go_at_call 91;refine HE.out.mono ?_;rintro e u3 ⟨rfl,m3,rfl⟩;clear HE)
  | (go_at_call 43;refine (HT2.out _).mono ?_;rintro e u4 ⟨rfl,h4⟩;have HL:=zZ h4;clear h4 HT2))
 go_ret;exact ⟨rfl,HL.out⟩
theorem z8s {b0 B base:Nat} {S:Nat->Prop} {ln:Value} {K n:Nat} {tw:Nat->Tw} {w:World} (h:LwI b0 B S ln K n tw w) (hb:b0<=w.heap.size) (hK:K<=1000000000000) {v:Value} {m:Nat} {xs:List Value} (hv:w.ownsRow base 3 1 v m xs) (hm:m<=1000000) (ho:∀ g,v.ownBlock=some g->b0<=g/\¬ S g/\ln.ownBlock ≠ some g/\∀ i,i < n->¬ (tw i).foot g) :
 Calls prog 43 #[.pointer (some ⟨B,1,none⟩),v] w fun e w'=>e=.returned (.tuple #[])/\∃ S',LwI b0 B S' ln (K+1) n tw w'/\Below b0 w w'/\(∀ k,S' k->S k∨v.ownBlock=some k∨w.heap.size<=k)/\Edit (fun k=>S k∨v.ownBlock=some k) w w':=by
 obtain ⟨x,hL⟩:=y1Q hv;refine (z4z S B ln K m v.ownBlock x v w hm hK h.book hL fun g hg=>(ho g hg).2.1).mono ?_;rintro e w' ⟨rfl,ht⟩;obtain ⟨h3,h4⟩:=h.took ht hb fun g hg=>⟨(ho g hg).1,(ho g hg).2.2⟩
 exact ⟨rfl,_,h3,h4,fun k hk=>hk.1,⟨ht.os,ht.tape,ht.output,ht.size,fun k hk hs=>ht.block k hk (fun hc=>hs (Or.inl hc)) (fun hc=>hs (Or.inr hc))⟩⟩
set_option maxHeartbeats 1000000 in
theorem z9C {p:Lpar} {s:Lst} {b0 B:Nat} {S:Nat->Prop} {ln:Value} {K n:Nat} {tw:Nat->Tw} {w w1:World} {v1 v2 v3:Value} (h:LwI b0 B S ln K n tw w) (hb:b0<=w.heap.size) (h1:Below w.heap.size w w1) (hK:K<=900000000000) (hv:Seen p s w.heap.size v1 v2 v3 w1) (ha:Apt v1 v2 v3) (hW:p.W<=32) (hS:s.shelf.length<=32) (hE:(s.ended p).length<=32) :
 Calls prog 96 #[.pointer (some ⟨B,1,none⟩),.agg (z0X s v1 v2 v3)] w1 fun e w'=>e=.returned (.tuple #[])/\∃ S',LwI b0 B S' ln (K+3) n tw w'/\Below b0 w1 w'/\(∀ g t cs,Bx w1 g t cs->w.heap.size<=g->t ≠ 3->Bx w' g t cs)/\∀ k,k < w.heap.size->¬ S k->w'.heap[k]?=w1.heap[k]?:=by
 obtain ⟨W,hW0⟩:∃ W,w1.alloc (.cells (z0X s v1 v2 v3) 64)=W:=⟨_,rfl⟩;have bW:Below w1.heap.size w1 W:=hW0 ▸ zX.alloc zY _;have hx:Bx W w1.heap.size 64 (z0X s v1 v2 v3):=hW0 ▸ Bx.new w1 _ _;have bw:Below w.heap.size w W:=h1.trans (bW.mono h1.size);have s1:=h1.size;have s2:=bW.size;have sW:=h.book.lt;have new:∀ g,w.heap.size<=g->b0<=g/\¬ S g/\ln.ownBlock ≠ some g/\∀ i,i < n->¬ (tw i).foot g:=fun g hg=>⟨zU,fun hc=>by have:=sW g hc;omega,fun hc=>by have:=z1n h.rows g hc;omega,fun i hi hc=>by have:=(h.is i hi).lt g hc;omega⟩
 have l1:=z0t hv.held;have l2:=z0t hv.shelf;have l3:=z0t hv.ended;have t1:=z1n hv.held;have t2:=z1n hv.shelf;have t3:=z1n hv.ended;have o1:=z0m hv.held (Edit.of (S:=fun _=>False) bW) fun _ _=>id
 have o2:=z0m hv.shelf (Edit.of (S:=fun _=>False) bW) fun _ _=>id
 have o3:=z0m hv.ended (Edit.of (S:=fun _=>False) bW) fun _ _=>id
 have hLW:=h.below bw;have HT:Hid (Calls prog 43 #[.pointer (some ⟨B,1,none⟩),v1] W fun e u1=>e=.returned (.tuple #[])/\Bx u1 w1.heap.size 64 (z0X s v1 v2 v3)/\Hid (Calls prog 43 #[.pointer (some ⟨B,1,none⟩),v2] u1 fun e u2=>e=.returned (.tuple #[])/\Bx u2 w1.heap.size 64 (z0X s v1 v2 v3)/\Hid (Calls prog 43 #[.pointer (some ⟨B,1,none⟩),v3] u2 fun e u3=>e=.returned (.tuple #[])/\∃ S',LwI b0 B S' ln (K+3) n tw u3/\Below b0 w1 u3/\(∀ g t cs,Bx w1 g t cs->w.heap.size<=g->t ≠ 3->Bx u3 g t cs)/\∀ k,k < w.heap.size->¬ S k->u3.heap[k]?=w1.heap[k]?))):=by
  refine (z8s hLW zU zU o1 zU fun g hg=>new g (l1 g hg)).mono ?_;rintro e u1 ⟨rfl,S1,k1,k2,k3,k4⟩;have x1:=hx.edit k4 fun hc=>hc.elim (fun hc=>by have:=sW _ hc;omega) fun hc=>by have:=t1 _ hc;omega
  have z1:=k4.size;have p2:=z0m o2 k4 fun g hg hc=>hc.elim (fun hc=>by have:=sW _ hc;have:=l2 g hg;omega) fun hc=>((ha g).1 hc).1 hg
  have p3:=z0m o3 k4 fun g hg hc=>hc.elim (fun hc=>by have:=sW _ hc;have:=l3 g hg;omega) fun hc=>((ha g).1 hc).2 hg
  have nS1:∀ g,w.heap.size<=g->g < w1.heap.size+1->v1.ownBlock ≠ some g->¬ S1 g:=fun g h5 h6 h7 hc=>by
   rcases k3 g hc with h8 | h8 | h8
   . have:=sW g h8;omega
   . exact h7 h8
   . have:W.heap.size=w1.heap.size+1:=by rw [← hW0];simp
     omega
  refine ⟨rfl,x1,zZ ?_⟩;refine (z8s k1 zU zU p2 zU fun g hg=>?_).mono ?_
  . have q1:=l2 g hg
    have q2:=t2 g hg;exact ⟨(new g q1).1,nS1 g q1 zU (fun hc=>((ha g).1 hc).1 hg),(new g q1).2.2⟩
  rintro e u2 ⟨rfl,S2,j1,j2,j3,j4⟩;have x2:=x1.edit j4 fun hc=>hc.elim (fun hc=>nS1 _ zU zU (fun hd=>by have:=t1 _ hd;omega) hc) fun hc=>by have:=t2 _ hc;omega
  have p4:=z0m p3 j4 fun g hg hc=>hc.elim (fun hc=>nS1 g (l3 g hg) (by have:=t3 g hg;omega) (fun hd=>((ha g).1 hd).2 hg) hc) fun hc=>(ha g).2 hc hg
  have z2:=j4.size;refine ⟨rfl,x2,zZ ?_⟩;refine (z8s j1 zU zU p4 zU fun g hg=>?_).mono ?_
  . have q1:=l3 g hg
    have q2:=t3 g hg;refine ⟨(new g q1).1,fun hc=>?_,(new g q1).2.2⟩;rcases j3 g hc with h8 | h8 | h8
    . exact nS1 g q1 zU (fun hd=>((ha g).1 hd).2 hg) h8
    . exact (ha g).2 h8 hg
    . omega
  rintro e u3 ⟨rfl,S3,i1,i2,i3,i4⟩;refine ⟨rfl,S3,i1,(bW.mono zU).trans (k2.trans (j2.trans i2)),fun g t cs hg hge htt=>?_,fun k hk hS=>?_⟩;rotate_left
  . have f1:v1.ownBlock ≠ some k:=fun hc=>by have:=l1 k hc;omega
    have f2:v2.ownBlock ≠ some k:=fun hc=>by have:=l2 k hc;omega
    have f3:v3.ownBlock ≠ some k:=fun hc=>by have:=l3 k hc;omega
    have g1:¬ S1 k:=fun hc=>by
     rcases k3 k hc with h8 | h8 | h8
     . exact hS h8
     . exact f1 h8
     . omega
    have g2:¬ S2 k:=fun hc=>by
     rcases j3 k hc with h8 | h8 | h8
     . exact g1 h8
     . exact f2 h8
     . omega
    exact (i4.block k zU fun hc=>hc.elim g2 f3).trans ((j4.block k zU fun hc=>hc.elim g1 f2).trans ((k4.block k zU fun hc=>hc.elim hS f1).trans (bW.block k zU)))
  have hgl:=hg.lt;have a0:=hg.below bW;have m1:=z1m o1 a0 (Ne.symm htt);have m2:=z1m o2 a0 (Ne.symm htt);have m3:=z1m o3 a0 (Ne.symm htt);have r1:=nS1 g hge zU m1;have a1:=a0.edit k4 fun hc=>hc.elim (fun hc=>by have:=sW g hc;omega) m1
  have a2:=a1.edit j4 fun hc=>hc.elim r1 m2
  exact a2.edit i4 fun hc=>hc.elim (fun hc=>by
   rcases j3 g hc with h8 | h8 | h8
   . exact r1 h8
   . exact m2 h8
   . omega) m3
 have c8:=hx.cell 8;obtain ⟨A1,q1,e1,-⟩:=z0j o1;obtain ⟨A2,q2,e2,-⟩:=z0j o2;obtain ⟨A3,q3,e3,-⟩:=z0j o3;subst e1 e2 e3;simp [z0X] at c8;clear h h1 hv ha bW hx bw s1 s2 sW new l1 l2 l3 t1 t2 t3 o1 o2 o3 hLW;unfold z0X at *
 go_enter func96,ntmps96
 go_wp2_with (first
  | (go_at_call 43;refine HT.out.mono ?_;rintro e u1 ⟨rfl,x1,HT1⟩;have c9:=x1.cell 9;simp at c9;clear x1 HT)
  | (go_at_call 43;refine HT1.out.mono ?_;rintro e u2 ⟨rfl,x2,HT2⟩;have c10:=x2.cell 10;simp at c10;clear x2 HT1)
  | (go_at_call 43;refine HT2.out.mono ?_;rintro e u3 ⟨rfl,h5⟩;have H5:=zZ h5;clear h5 HT2))
 go_end0;exact ⟨rfl,H5.out⟩
theorem LInv.shelf16 {p:Lpar} {s:Lst} (h:LInv p s) (hW:p.Wd<=16):s.shelf.length<=32:=by
 have h1:=h.sorted;have h2:∀ k,k ∈ s.shelf->s.wrote<=k/\k < s.given:=fun k hk=>⟨(h.inN k (by simp [hk])).1,(h.inN k (by simp [hk])).2.1⟩
 have h3:=h.win;have key:∀ (l:List Nat) (a b:Nat),l.Pairwise (· < ·)->(∀ k,k ∈ l->a<=k/\k < b)->l.length<=b - a:=by
  intro l
  induction l with
  | nil=>intro a b _ _;simp
  | cons x r ih =>
   intro a b hp hm;have hp:=List.pairwise_cons.1 hp;have hx:=hm x (List.mem_cons_self ..);have:=ih (x+1) b hp.2 fun k hk=>⟨hp.1 k hk,(hm k (List.mem_cons_of_mem _ hk)).2⟩
   simp only [List.length_cons];omega
 have:=key s.shelf s.wrote s.given h1 h2;omega
set_option linter.unusedSimpArgs false in
set_option maxHeartbeats 1000000 in
theorem y3k {b0 B:Nat} {S:Nat->Prop} {ln:Value} {K n:Nat} {tw:Nat->Tw} {w:World} (h:LwI b0 B S ln K n tw w) (hb:b0<=w.heap.size) {i:Nat} (hi:i < n) (o1 o2 o3 o4 o5 o6 o7 o8 o9 o10 o11 o12 o13 o14:Value) (hK:K<=900000000000) :
 Calls prog 45 #[.pointer (some ⟨B,0,none⟩),.agg #[ptrV (tw i).l,ptrV (tw i).r.rb],.agg #[O I 16,o1,o2,o3,o4,o5,o6,o7,o8,o9,o10,o11,o12,o13,o14]] w fun e w'=>e=.returned (.bool true)/\z5o b0 B S ln K n tw w w':=by
 obtain ⟨W,hW⟩:∃ W,(w.alloc (.cells #[ptrV (tw i).l,ptrV (tw i).r.rb] 87)).alloc (.cells #[O I 16,o1,o2,o3,o4,o5,o6,o7,o8,o9,o10,o11,o12,o13,o14] 54)=W:=⟨_,rfl⟩;have bW:Below w.heap.size w W:=hW ▸ (zX.alloc zY _).alloc (by simp) _;have hx:Bx W w.heap.size 87 #[ptrV (tw i).l,ptrV (tw i).r.rb]:=hW ▸ (Bx.new w _ _).alloc _;have hy:Bx W (w.heap.size+1) 54 #[O I 16,o1,o2,o3,o4,o5,o6,o7,o8,o9,o10,o11,o12,o13,o14]:=hW ▸ Bx.new2 (by simp) _ _;have ht:=(h.is i hi).below bW;have x0:=hx.cell 0;have x1:=hx.cell 1;have y0:=hy.cell 0;have y13:=hy.cell 13;simp [ptrV] at x0 x1 y0 y13;have hW8:=ht.one.line.W8;have hSh:=ht.one.inv.shelf16 ht.one.line.d16;have hEn:((tw i).s.ended (tw i).p).length<=32:=by have:=List.length_filter_le (tw i).s.endedT (List.range (3+(tw i).p.W));rw [List.length_range] at this;exact zO this zU
 have HC1:=zZ (y2V ht.one);have HC2:Hid (∀ u,Below W.heap.size W u->u.cell? ⟨w.heap.size,1,none⟩=some (ptrV (tw i).r.rb)/\Calls prog 94 #[ptrV (tw i).r.rb] u fun e w'=>∃ v1 v2 v3,e=.returned (.agg (z0X (tw i).s v1 v2 v3))/\Seen (tw i).p (tw i).s u.heap.size v1 v2 v3 w'/\Below u.heap.size u w'):=fun u hu=>⟨(hx.below hu).cell 1,y5e (ht.below hu).raw ht.rel ht.one.inv⟩
 have HLW:=zZ (And.intro (h.below bW) (zO hb bW.size));have HBW:=zZ (bW.mono hb);generalize (tw i).p=p at *;generalize (tw i).s=s at *;have HY:Hid (∀ u1 v1 v2 v3 y,Seen p s W.heap.size v1 v2 v3 u1->Below W.heap.size W u1->(u1.alloc (.cells #[O I 0,O I 0,O I 0,O I 0,O I 0,O I 0,O I 0,O I 0,.slice none 0 0,.slice none 0 0,.slice none 0 0] 64)).setRow u1.heap.size (z0X s v1 v2 v3)=y->Below W.heap.size W y/\Bx y u1.heap.size 64 (z0X s v1 v2 v3)/\Seen p s W.heap.size v1 v2 v3 y):=fun u1 v1 v2 v3 y hs hb1 hy=>by
  have e1:Edit (fun _=>False) u1 y:=hy ▸ ((Edit.refl (fun _=>False) u1).alloc _).row zY _;exact ⟨hb1.trans ((e1.below zY fun _ hf=>hf.elim).mono hb1.size),hy ▸ (Bx.new u1 _ _).row _,hs.keep e1 fun _ hf=>hf.elim⟩
 have HZ:Hid (∀ u1 y1 u2 v1 v2 v3 x1 x2 x3 y,Below W.heap.size W y1->W.heap.size<=u1->Bx y1 u1 64 (z0X s v1 v2 v3)->Seen p s W.heap.size v1 v2 v3 y1->Apt v1 v2 v3->Seen p s y1.heap.size x1 x2 x3 u2->Below y1.heap.size y1 u2->(u2.alloc (.cells #[O I 0,O I 0,O I 0,O I 0,O I 0,O I 0,O I 0,O I 0,.slice none 0 0,.slice none 0 0,.slice none 0 0] 64)).setRow u2.heap.size (z0X s x1 x2 x3)=y->Bx y u1 64 (z0X s v1 v2 v3)/\Bx y u2.heap.size 64 (z0X s x1 x2 x3)/\Hid (Calls prog 95 #[.agg (z0X s v1 v2 v3),.agg (z0X s x1 x2 x3)] y fun e y3=>e=.returned (.bool true)/\Bx y3 u1 64 (z0X s v1 v2 v3)/\Hid (Calls prog 96 #[.pointer (some ⟨B,1,none⟩),.agg (z0X s v1 v2 v3)] y3.drew fun e y4=>e=.returned (.tuple #[])/\z5o b0 B S ln K n tw w y4/\Bx y4 u1 64 (z0X s v1 v2 v3)))):=fun u1 y1 u2 v1 v2 v3 x1 x2 x3 y hb1 hlo hx1 hs1 hap hs2 hb2 hy=>by
  have e2:Edit (fun _=>False) u2 y:=hy ▸ ((Edit.refl (fun _=>False) u2).alloc _).row zY _;have b2:Below y1.heap.size y1 y:=hb2.trans ((e2.below zY fun _ hf=>hf.elim).mono hb2.size);have g1:Seen p s W.heap.size v1 v2 v3 y:=hs1.keep (Edit.of (S:=fun _=>False) b2) fun _ hf=>hf.elim
  have g2:Seen p s y1.heap.size x1 x2 x3 y:=hs2.keep e2 fun _ hf=>hf.elim
  refine ⟨hx1.below b2,hy ▸ (Bx.new u2 _ _).row _,zZ ?_⟩;refine (z9A y g1 g2 zU hSh hEn).mono ?_;rintro e y3 ⟨rfl,b3⟩;refine ⟨rfl,(hx1.below b2).below b3,zZ ?_⟩;have b4:Below W.heap.size W y3.drew:=(hb1.trans ((b2.mono hb1.size).trans (b3.mono (zO hb1.size b2.size)))).drew;have g3:Seen p s W.heap.size v1 v2 v3 y3.drew:=hs1.keep (Edit.of (S:=fun _=>False) ((b2.trans (b3.mono b2.size)).drew)) fun _ hf=>hf.elim
  refine (z9C HLW.out.1 HLW.out.2 b4 hK g3 hap zU hSh hEn).mono ?_;rintro e y4 ⟨rfl,S',h5,h6,h7,h8⟩;have hx3:Bx y3.drew u1 64 (z0X s v1 v2 v3):=(hx1.below b2).below b3.drew;exact ⟨rfl,⟨S',tw,K+3,h5,zU,HBW.out.trans ((b4.mono HLW.out.2).trans h6),fun k hk hS _=>(h8 k (zP hk bW.size) hS).trans ((b4.block k (zP hk bW.size)).trans (bW.block k hk))⟩,h7 _ _ _ hx3 hlo zR⟩
 clear h ht hx hy bW;unfold ptrV at *
 go_enter func45,ntmps45
 go_wp2_with (first
  | (go_at_call 24;refine HC1.out.mono ?_;rintro e u1 ⟨v1,v2,v3,rfl,hs,hb1,hap⟩;obtain ⟨A1,k1,rfl,-⟩:=z0j hs.held;obtain ⟨A2,k2,rfl,-⟩:=z0j hs.shelf;obtain ⟨A3,k3,rfl,-⟩:=z0j hs.ended;have HAP:=zZ hap;have HLO:=zZ hb1.size;have HXa:=zZ (Bx.new u1 #[O I 0,O I 0,O I 0,O I 0,O I 0,O I 0,O I 0,O I 0,.slice none 0 0,.slice none 0 0,.slice none 0 0] 64);have HY1:=zZ (fun y=>HY.out u1 _ _ _ y hs hb1);clear hs hb1 hap HC1 HY)
  | (refine z0a rfl _ _ 64 rfl u1.heap.size 64 _ _ rfl rfl HXa.out z0K rfl rfl ?_;generalize hy1:(u1.alloc (.cells #[O I 0,O I 0,O I 0,O I 0,O I 0,O I 0,O I 0,O I 0,.slice none 0 0,.slice none 0 0,.slice none 0 0] 64)).setRow u1.heap.size (z0X s (.slice A1 p.W k1) (.slice A2 s.shelf.length k2) (.slice A3 (s.ended p).length k3))=y1;obtain ⟨d1,d2,d3⟩:=HY1.out y1 hy1;have z1:=(HC2.out y1 d1).1;have HD:=zZ (HC2.out y1 d1).2;have HZ1:=zZ (fun u2 x1 x2 x3 y=>HZ.out u1.heap.size y1 u2 _ _ _ x1 x2 x3 y d1 HLO.out d2 d3 HAP.out);clear hy1 d1 d2 d3 HXa HY1 HC2 HZ HAP)
  | (go_at_call 94;refine HD.out.mono ?_;rintro e u2 ⟨x1,x2,x3,rfl,hs,hb2⟩;obtain ⟨B1,m1,rfl,-⟩:=z0j hs.held;obtain ⟨B2,m2,rfl,-⟩:=z0j hs.shelf;obtain ⟨B3,m3,rfl,-⟩:=z0j hs.ended;have HXb:=zZ (Bx.new u2 #[O I 0,O I 0,O I 0,O I 0,O I 0,O I 0,O I 0,O I 0,.slice none 0 0,.slice none 0 0,.slice none 0 0] 64);have HZ2:=zZ (fun y=>HZ1.out u2 _ _ _ y hs hb2);clear hs hb2 HD HZ1)
  | (refine z0a rfl _ _ 64 rfl u2.heap.size 64 _ _ rfl rfl HXb.out z0K rfl rfl ?_;generalize hy2:(u2.alloc (.cells #[O I 0,O I 0,O I 0,O I 0,O I 0,O I 0,O I 0,O I 0,.slice none 0 0,.slice none 0 0,.slice none 0 0] 64)).setRow u2.heap.size (z0X s (.slice B1 p.W m1) (.slice B2 s.shelf.length m2) (.slice B3 (s.ended p).length m3))=y2;obtain ⟨d1,d2,HSV⟩:=HZ2.out y2 hy2;have HR1:=zZ d1;have HR2:=zZ d2;clear hy2 d1 d2 HXb HZ2)
  | (refine z0h rfl _ 64 rfl u1.heap.size 64 _ (0,0) _ rfl HR1.out underlying64 rfl z0K ?_;clear HR1)
  | (refine z0h rfl _ 64 rfl u2.heap.size 64 _ (0,0) _ rfl HR2.out underlying64 rfl z0K ?_;clear HR2)
  | (go_at_call 95;refine HSV.out.mono ?_;rintro e y3 ⟨rfl,d5,HTV⟩;have HR3:=zZ d5;clear d5 HSV))
 have HR3d:Hid (Bx y3.drew u1.heap.size 64 (z0X s (.slice A1 p.W k1) (.slice A2 s.shelf.length k2) (.slice A3 (s.ended p).length k3))):=HR3.out;refine wp_region_held_drew (S:=fun w'=>w'.heap[u1.heap.size]?=some (.cells (z0X s (.slice A1 p.W k1) (.slice A2 s.shelf.length k2) (.slice A3 (s.ended p).length k3)) 64 (0,0))) zT HR3d.out (fun _=>?_);refine tq 0 ?_
 refine tq 1 ?_;refine tq 2 ?_
 refine tk (i:=3) (v:=?_) rfl (fun _ _ _ h=>h) (Or.inl ⟨by rfl,?_⟩) (by assumption) ?_;rotate_left
 . (intro wx hSw;refine z1q (Operand.tmp 12) 64 ?_ u1.heap.size 64 (z0X s (.slice A1 p.W k1) (.slice A2 s.shelf.length k2) (.slice A3 (s.ended p).length k3)) (0,0) _ ?_ hSw underlying64 rfl z0K <;> rfl)
 try simp only [q1,q2,q3,Act.put,q4,q5,q6]
 refine zQ 4 (fun K hK=>?_)
 go_simp
 go_at_call 96
 refine HTV.out.mono ?_;rintro e y4 ⟨rfl,h6,h7⟩;have HL:=zZ h6;have HR4:=zZ h7;clear h6 h7 HTV;go_wp2_with fail;refine zV hK HR4.out (fun _=>?_);clear hK K
 refine wpAnyH_done zT ?_ _;go_wp2;go_ret;exact ⟨rfl,HL.out⟩
theorem y5y (c:Int) (n:Nat) (h1:1<=n) (hn:(n:Int)<=9223372036854775807) (hc:-9223372036854775808<=c/\c<=9223372036854775807) (w:World) :
 Calls prog 46 #[O I c,O I n] w fun e w'=>∃ m:Nat,m < n/\e=.returned (O I (m:Int))/\w'=w:=by
 have key:∀ d:Int,0<=d->∃ m:Nat,m < n/\d.tmod (n:Int)=(m:Int):=fun d hd=>by
  obtain ⟨q,rfl⟩:∃ q:Nat,d=(q:Int):=⟨d.toNat,zU⟩;refine ⟨q % n,Nat.mod_lt _ zU,?_⟩;rw [zG zU];exact (Int.natCast_emod q n).symm
 have hn0:¬ (n:Int)=0:=zU
 have hn1:((n:Int) == 0)=false:=by simp;omega
 have hn2:¬ n=0:=zU
 by_cases h0:c < 0
 . obtain ⟨m,hm,em⟩:=key (-(c+1)) zU
   have d0:decide (c < 0)=true:=zL h0;have w1:I.wrap (c+1)=c+1:=by rw [zK];omega
   have w2:I.wrap (-(c+1))=-(c+1):=by rw [zK];omega
   have w3:I.wrap (m:Int)=(m:Int):=by rw [zK];omega
   have HM:=zZ hm;clear key h0 hm
   go_enter func46,ntmps46
   go_wp2;go_ret;exact ⟨m,HM.out,rfl,rfl⟩
 . obtain ⟨m,hm,em⟩:=key c zU
   have d0:decide (c < 0)=false:=zM h0;have w3:I.wrap (m:Int)=(m:Int):=by rw [zK];omega
   have HM:=zZ hm;clear key hm
   go_enter func46,ntmps46
   go_wp2;go_ret;exact ⟨m,HM.out,rfl,rfl⟩
theorem BookW.setLn {S:Nat->Prop} {w:World} {B K:Nat} {ln:Value} (h:BookW S w B ln K) (ln':Value):BookW S (w.setCell ⟨B,0,none⟩ ln') B ln' K:=by
 obtain ⟨kv,lv,j,j2,ks,ls,h⟩:=h;have hB:BkW (w.setCell ⟨B,0,none⟩ ln') B ln' kv lv K:=by simp [BkW,World.setCell,Array.getElem?_modify,show w.heap[B]?=_ from h.blk]
 have oth:∀ k,k ≠ B->(w.setCell ⟨B,0,none⟩ ln').heap[k]?=w.heap[k]?:=fun k hk=>blk_setCell_other _ _ _ _ hk
 have e:Edit (·=B) w (w.setCell ⟨B,0,none⟩ ln'):=(Edit.refl (·=B) w).cell (Or.inl rfl) 0 ln';refine ⟨kv,lv,j,j2,ks,ls,⟨hB,h.inB,z0m h.own e fun g hg hc=>z0S h.blk h.own zR (hc ▸ hg),z0m h.own2 e fun g hg hc=>z0S h.blk h.own2 zR (hc ▸ hg),h.inK,h.inL,fun i hi=>(h.ents i hi).mono fun v n m s=>s.keep (fun k hk hr=>oth k ?_) (fun _ h=>h),fun i hi=>(h.ents2 i hi).mono fun v n m s=>s.keep (fun k hk hr=>oth k ?_) (fun _ h=>h),h.cnt,fun k hk=>by rw [szC];exact h.low k hk⟩⟩
 . obtain ⟨e2,N,f,he,hr⟩:=hr
   exact z2d h.blk hr (by rcases he with rfl | rfl <;> decide)
 . obtain ⟨e2,N,f,he,hr⟩:=hr
   exact z2d h.blk hr (by rcases he with rfl | rfl <;> decide)
theorem BookW.inB {S:Nat->Prop} {w:World} {B K:Nat} {ln:Value} (h:BookW S w B ln K):S B/\∃ kv lv,BkW w B ln kv lv K:=by
 obtain ⟨kv,lv,j,j2,ks,ls,h⟩:=h;exact ⟨h.inB,kv,lv,h.blk⟩
theorem LwI.more {b0 B:Nat} {S:Nat->Prop} {ln ln':Value} {K n:Nat} {tw:Nat->Tw} {w u v:World} {t:Tw} (h:LwI b0 B S ln K n tw w) (hb:b0<=w.heap.size) (hu:Below w.heap.size w u) (ht:TwIs t u) (hf:∀ k,t.foot k->w.heap.size<=k) (e:Edit (fun k=>ln.ownBlock=some k) u v)
 (o:v.ownsRow b0 87 2 ln' (n+1) (twL tw n ++ [ptrV t.l,ptrV t.r.rb])) (hl:∀ g,ln'.ownBlock=some g->ln.ownBlock=some g∨u.heap.size<=g):LwI b0 B S ln' K (n+1) (updL tw n t) (v.setCell ⟨B,0,none⟩ ln'):=by
 have sS:=h.book.lt;have sL:=z1n h.rows;have sT:∀ i,i < n->∀ k,(tw i).foot k->k < w.heap.size:=fun i hi=>(h.is i hi).lt
 have sF:=ht.lt;have hus:=hu.size;have hSB:=h.book.inB.1;have bk:BookW S v B ln K:=(h.below hu).book.keep (fun k hk=>e.block k (zP (sS k hk) hus) fun hc=>h.ls k hc hk) e.size;obtain ⟨-,kv,lv,hBk⟩:=bk.inB;have eB:Edit (·=B) v (v.setCell ⟨B,0,none⟩ ln'):=(Edit.refl (·=B) v).cell (Or.inl rfl) 0 ln';have hBw:=sS B hSB;have old:∀ i,i < n->updL tw n t i=tw i:=fun i hi=>z0s _ _ zU
 have new:updL tw n t n=t:=z0z _ _ _;have cases:∀ i,i < n+1->i < n∨i=n:=fun i hi=>zU
 refine ⟨bk.setLn ln',?_,fun i hi=>?_,fun i j hi hj hij k hk hc=>?_,fun i hi k hk=>?_,fun g hg hc=>?_,h.lo⟩
 . have e1:twL (updL tw n t) (n+1)=twL tw n ++ [ptrV t.l,ptrV t.r.rb]:=by
     simp only [twL];rw [z6t n fun i hi=>?_,new];rw [old i hi];exact ⟨rfl,rfl⟩
   rw [e1];exact z0m o eB fun g hg hc=>z0S hBk o zR (hc ▸ hg)
 . rcases cases i hi with h1 | h1
   . rw [old i h1]
     exact (((h.is i h1).below hu).edit e fun k hk hc=>(h.bs i h1 k hk).2.1 hc).edit eB fun k hk hc=>(h.bs i h1 k hk).1 (hc ▸ hSB)
   . rw [h1,new]
     exact (ht.edit e fun k hk hc=>by have:=hf k hk;have:=sL k hc;omega).edit eB fun k hk hc=>by have:=hf k hk;omega
 . rcases cases i hi with h1 | h1 <;> rcases cases j hj with h2 | h2
   . rw [old i h1] at hk;rw [old j h2] at hc;exact h.ap i j h1 h2 hij k hk hc
   . rw [old i h1] at hk;rw [h2,new] at hc;have:=sT i h1 k hk;have:=hf k hc;omega
   . rw [h1,new] at hk;rw [old j h2] at hc;have:=sT j h2 k hc;have:=hf k hk;omega
   . omega
 . rcases cases i hi with h1 | h1
   . rw [old i h1] at hk
     have h3:=h.bs i h1 k hk;refine ⟨h3.1,fun hc=>?_,h3.2.2⟩;rcases hl k hc with h4 | h4
     . exact h3.2.1 h4
     . have:=sT i h1 k hk;omega
   . rw [h1,new] at hk
     have h3:=hf k hk;have h5:=sF k hk;refine ⟨fun hc=>by have:=sS k hc;omega,fun hc=>?_,zU⟩;rcases hl k hc with h4 | h4
     . have:=sL k h4;omega
     . omega
 . rcases hl g hg with h4 | h4
   . exact h.ls g h4 hc
   . have:=sS g hc;omega
theorem y5z:(prog.info? 87).map (fun i=>(i.zero,i.size,i.bytes))=some (some (.agg #[.pointer none,.pointer none]),2,16):=zT
theorem Kpt.edit {NB:Nat->Nat} {n:Nat} {w u:World} (h:Kpt NB n w u):Edit (fun k=>∃ i,i < n/\k=NB i) w u :=
 ⟨h.os,h.tape,h.output,Nat.le_of_eq h.size.symm,fun k _ hs=>h.block k fun i hi e=>hs ⟨i,hi,e⟩⟩
structure y9s (b0 B:Nat) (S:Nat->Prop) (K n:Nat) (tw:Nat->Tw) (w w':World) (p:Lpar) (x:Lsn) (ln':Value) (t:Tw):Prop where
 tp:t.p=p
 tx:t.x=x
 ts:t.s=Lst.init
 is:LwI b0 B S ln' K (n+1) (updL tw n t) w'
 low:Below b0 w w'
theorem y8x {p:Lpar} {x:Lsn} {l:Nat} {a:Lad} {F:Nat->Prop} {r:Rad} {w2 w3 w4 w5:World} {NB:Nat->Nat} {n:Nat} (hM:Made p x w2.heap.size l w3 a F) (h23:Below w2.heap.size w2 w3) (hR:RawIs p x r (z0i Lst.init Tab.init) w4) (hf:∀ k,r.own k∨r.fv.ownBlock=some k->w3.heap.size<=k) (h34:Below w3.heap.size w3 w4) (hK:Kpt NB n w4 w5) (hN:∀ i,i < n->NB i < w2.heap.size) :
 TwIs ⟨p,a,x,F,l,Lst.init,r,Tab.init⟩ w5/\∀ k,Tw.foot ⟨p,a,x,F,l,Lst.init,r,Tab.init⟩ k->w2.heap.size<=k:=by
 have s23:=h23.size;have foot:∀ k,Tw.foot ⟨p,a,x,F,l,Lst.init,r,Tab.init⟩ k->w2.heap.size<=k:=fun k hk=>by
  rcases hk with hk | hk | hk
  . exact hM.far k hk
  . rw [show k=l from hk];exact hM.base
  . exact zO s23 (hf k hk)
 have h4:TwIs ⟨p,a,x,F,l,Lst.init,r,Tab.init⟩ w4:=⟨hM.line.keep h34,hR,Rel.init,fun k hk=>by
  have h1:=hf k hk;exact ⟨fun hF=>by have:=hM.line.line.lt k hF;omega,fun e=>by have h2:=hM.line.ptr.lt;have e2:k=l:=e;omega⟩⟩
 exact ⟨h4.edit hK.edit fun k hk ⟨i,hi,e⟩=>by have:=foot k hk;have:=hN i hi;omega,foot⟩
set_option maxHeartbeats 2000000 in
theorem z7q {b0 B:Nat} {S:Nat->Prop} {ln:Value} {K n:Nat} {tw:Nat->Tw} {w:World} (h:LwI b0 B S ln K n tw w) (hb:b0<=w.heap.size) (hn9:n<=1000000000000) {x:Addr} {ch d Bk k3 k4 k5 k6 k7 Sn cap:Nat} {A:Nat->Option Addr} {C:Nat->Nat} {G:Nat->Nat->Int} (hc:CfgK ch d Bk k3 k4 k5 k6 k7) (hk:KP d ch Bk k3 k4 Sn G) (fail:Int)
 (hs:SoundIn w (some x) ch cap A (fun _=>Sn) C G) (hT:z1v w 2) (hTl:2 < w.heap.size) :
 Calls prog 41 #[.pointer (some ⟨B,0,none⟩),.agg #[O I ch,O I d,O I Bk,O I k3,O I k4,O I k5,O I k6,O I k7],.slice (some x) ch cap,O I fail] w fun e w' =>
  e=.returned (.bool true)/\∃ ln' t,y9s b0 B S K n tw w w' ⟨nBlk Sn Bk,k5,k6,k7,fail⟩ ⟨ch,d,Bk,k3,k4,Sn,G⟩ ln' t:=by
 obtain ⟨W0,hW0⟩:∃ W0,W0=w.alloc (.cells #[O I ch,O I d,O I Bk,O I k3,O I k4,O I k5,O I k6,O I k7] 23):=⟨_,rfl⟩;have hb1:Below w.heap.size w W0:=by rw [hW0];exact zX.alloc zY _
 have hsz:W0.heap.size=w.heap.size+1:=by rw [hW0];simp
 have hs1:=hs.below hb1;have tab:∀ u,Below w.heap.size w u->z1v u 2:=fun u hu r c hr hc=>(hu.cell (p:=⟨2,4 * r+c,none⟩) hTl).trans (hT r c hr hc)
 have HLEND:=zZ (z5e x ch cap A (fun _=>Sn) C G W0 hs1.hn hs1.hL hs1.hA hs1.hI hs1.low hs1.no);have HNW:=zZ (fun (w2:World) (NB:Nat->Nat) (hR:Rest W0 w2 ch A (fun _=>Sn) G NB 0) =>
  y5n (c:=ch+8) w2 hc hk fail hR.lists (hR.ints fun i hi h=>(hs1.no i hi h).1) hR.low (fun i hi h0=>by
   cases hA:A i with
   | none=>exact ⟨(hs1.no i hi hA).1,by simp [z6x]⟩
   | some y=>rw [hA] at h0;simp [z4g] at h0))
 have HRF:=zZ (fun (w3:World) (hb3:Below W0.heap.size W0 w3) =>
  y6R (cap:=cap) w3 hc hk fail ((hs1.below hb3).hA) (hs1.below hb3).room (hs1.below hb3).hI (hs1.below hb3).low (tab w3 (hb1.trans (hb3.mono hb1.size))) (zP hTl (zO hb1.size hb3.size)))
 have HWHOLE:=zZ (fun (w4:World) (NB:Nat->Nat) (hR:Rest W0 w4 ch A (fun _=>Sn) G NB 0)=>z6f x ch cap A (fun _=>Sn) C NB G W0 w4 hs1.hn hs1.hL hs1.hA hs1.hI hs1.low hs1.no hR);have HEND:Hid (∀ w5 t,Below W0.heap.size W0 w5->TwIs t w5->(∀ k,t.foot k->w.heap.size<=k)->∃ g c v,(Builtin.append_ #[45,45] 45 #[ln,.slice (some ⟨w5.heap.size,0,none⟩) 1 1]).run prog (w5.alloc (.cells #[ptrV t.l,ptrV t.r.rb] 87))=.ok (.slice (some ⟨g,0,none⟩) (n+1) c) v /\
     v.cell? ⟨B,0,none⟩=some ln/\v.frozen? ⟨B,0,none⟩=false/\w5.cell? ⟨B,0,none⟩=some ln/\B < w5.heap.size/\LwI b0 B S (.slice (some ⟨g,0,none⟩) (n+1) c) K (n+1) (updL tw n t) (v.setCell ⟨B,0,none⟩ (.slice (some ⟨g,0,none⟩) (n+1) c))/\Below b0 w (v.setCell ⟨B,0,none⟩ (.slice (some ⟨g,0,none⟩) (n+1) c))):=fun w5 t h5 ht hf=>by
  have hu:Below w.heap.size w w5:=hb1.trans (h5.mono hb1.size);have h6:=h.below hu;obtain ⟨g,c,v,hr,ho,hg,hgb⟩:=z8c 45 87 _ 2 16 underlying45 y5z rfl zU w5 b0 ln n (twL tw n) #[ptrV t.l,ptrV t.r.rb] h6.rows rfl (by intro u hu;simp at hu;rcases hu with rfl | rfl <;> rfl) (by simp only [maxLen];omega) zU (zO hb hu.size) 45;have ed:Edit (fun k=>ln.ownBlock=some k) w5 v:=⟨hg.os,hg.tape,hg.output,hg.size,fun k hk hs=>hg.block k hk fun e=>hs e.symm⟩;have bkv:BookW S v B ln K:=h6.book.keep (fun k hk=>ed.block k (h6.book.lt k hk) fun hc=>h.ls k hc hk) ed.size;obtain ⟨-,kv,lv,hBv⟩:=bkv.inB;obtain ⟨hSB,kv5,lv5,hB5⟩:=h6.book.inB;have hl:∀ g',Value.ownBlock (.slice (some ⟨g,0,none⟩) (n+1) c)=some g'->ln.ownBlock=some g'∨w5.heap.size<=g':=fun g' hg'=>by
   have e:g=g':=by simpa [Value.ownBlock] using hg'
   rw [← e];exact hgb
  refine ⟨g,c,v,hr,by simp [World.cell?,show v.heap[B]?=_ from hBv],by simp [World.frozen?,show v.heap[B]?=_ from hBv],by simp [World.cell?,show w5.heap[B]?=_ from hB5],hB5.lt,h.more hb hu ht hf ed ho hl,?_⟩;have b5:Below b0 w w5:=hu.mono hb;have bv:Below b0 w5 v:=ed.below (zO hb hu.size) fun k hk=>(z0t h.rows) k hk
  exact (b5.trans bv).setCell (h.lo B hSB) _
 have HTW:Hid (∀ (w2 w3 w4 w5:World) (NB:Nat->Nat) (l:Nat) (a:Lad) (F:Nat->Prop) (r:Rad),Rest W0 w2 ch A (fun _=>Sn) G NB 0->Made ⟨nBlk Sn Bk,k5,k6,k7,fail⟩ ⟨ch,d,Bk,k3,k4,Sn,G⟩ w2.heap.size l w3 a F->Below w2.heap.size w2 w3->RawIs ⟨nBlk Sn Bk,k5,k6,k7,fail⟩ ⟨ch,d,Bk,k3,k4,Sn,G⟩ r (z0i Lst.init Tab.init) w4->(∀ k,r.own k∨r.fv.ownBlock=some k->w3.heap.size<=k)->Below w3.heap.size w3 w4->Below W0.heap.size W0 w5->Kpt NB ch w4 w5 ->
     ∃ t:Tw,t.l=l/\t.r=r/\t.p=⟨nBlk Sn Bk,k5,k6,k7,fail⟩/\t.x=⟨ch,d,Bk,k3,k4,Sn,G⟩/\t.s=Lst.init/\TwIs t w5/\(∀ k,t.foot k->w.heap.size<=k)):=fun w2 w3 w4 w5 NB l a F r hR hM h23 hRw hf h34 h5 hK=>by
  obtain ⟨h1,h2⟩:=y8x hM h23 hRw hf h34 hK fun i hi=>hR.hi i zU
  exact ⟨_,rfl,rfl,rfl,rfl,rfl,h1,fun k hk=>zO (zO hb1.size hR.below.size) (h2 k hk)⟩
 rw [hsz] at HNW HWHOLE HEND HTW;rw [hW0] at HLEND HNW HRF HWHOLE HEND HTW;have hln:Hid (b0<=w.heap.size):=hb;clear hs1 hs hk hc tab hT hTl h hb1 hsz hW0 W0 hb hn9;unfold ptrV at *
 go_enter func41,ntmps41
 go_wp2_with (first
  | (go_at_call 74;refine HLEND.out.mono ?_;rintro e w2 ⟨NB,rfl,hF⟩;have HR:=zZ hF.rest;clear hF;have hbe:=HR.out.below;have hs2:w.heap.size < w2.heap.size:=by {have:=hbe.size;simp at this;omega};obtain ⟨hcl,hfr⟩:=z2J hbe;clear hfr HLEND hbe)
  | (go_at_call 21;refine (HNW.out _ NB HR.out).mono ?_;rintro e w3 ⟨l,a3,F3,rfl,hM,hb3⟩;have hs3:w.heap.size < w3.heap.size:=zP hs2 hb3.size;obtain ⟨hcl3,hfr3⟩:=z2J hb3;have HR3:=zZ (HR.out.below' hb3);have HM:=zZ (And.intro hM hb3);clear hfr3 hb3 HNW hM)
  | (go_at_call 75;refine (HRF.out _ ?_).mono ?_;exact HR3.out.below;rintro e w4 ⟨r,rfl,hRw,hfr4,hb4⟩;have hs4:w.heap.size < w4.heap.size:=zP hs3 hb4.size;have HR4:=zZ (HR3.out.below' hb4);have HQ:=zZ (And.intro hRw (And.intro hfr4 hb4));clear hb4 HRF HR3 hRw hfr4)
  | (go_at_call 76;refine (HWHOLE.out _ NB HR4.out).mono ?_;rintro e w5 ⟨rfl,hb5,hK5⟩;obtain ⟨t,tl,tr,tp,tx,ts,hTw,hft⟩:=HTW.out w2 w3 w4 w5 NB l a3 F3 r HR.out HM.out.1 HM.out.2 HQ.out.1 HQ.out.2.1 HQ.out.2.2 hb5 hK5;obtain ⟨g,c,v,hr,z0,z1,z2,z3,hL,hLo⟩:=HEND.out w5 t hb5 hTw hft;rw [tl,tr] at hr;have HRUN:=zZ hr;have HF:Hid (y9s b0 B S K n tw w (v.setCell ⟨B,0,none⟩ (.slice (some ⟨g,0,none⟩) (n+1) c)) ⟨nBlk Sn Bk,k5,k6,k7,fail⟩ ⟨ch,d,Bk,k3,k4,Sn,G⟩ (.slice (some ⟨g,0,none⟩) (n+1) c) t):=⟨tp,tx,ts,hL,hLo⟩;clear hb5 hK5 HWHOLE HTW HEND hTw hft hL hLo hr tl tr tp tx ts HR4 HQ HM HR)
  | (go_at_call 77;refine (z7W _ _).mono ?_;rintro e w6 ⟨rfl,hw⟩;subst w6)
  | (at_builtin;refine z0v rfl _ _ _ rfl _ _ _ rfl rfl HRUN.out ?_;clear HRUN))
 go_ret;exact ⟨rfl,_,t,HF.out⟩
set_option maxHeartbeats 2000000 in
theorem y3l (b0 B:Nat) (S:Nat->Prop) (ln:Value) (K n:Nat) (tw:Nat->Tw) (w:World) (h:LwI b0 B S ln K n tw w) (hb:b0<=w.heap.size) (c0 c1 c2 c3 c4 c5 c6 c7 fail:Int) (x:Addr) (m cap:Nat) (A:Nat->Option Addr) (L C:Nat->Nat) (F:Nat->Nat->Int)
 (hs:SoundIn w (some x) m cap A L C F) (hno:¬ z6I c0 c1 c2 c3 c4 c5 c6 c7 m L F) :
 Calls prog 41 #[.pointer (some ⟨B,0,none⟩),.agg #[O I c0,O I c1,O I c2,O I c3,O I c4,O I c5,O I c6,O I c7],.slice (some x) m cap,O I fail] w fun e w' =>
  e=.returned (.bool true)/\LwI b0 B S ln K n tw w'/\Below b0 w w':=by
 obtain ⟨W0,hW0⟩:∃ W0,W0=w.alloc (.cells #[O I c0,O I c1,O I c2,O I c3,O I c4,O I c5,O I c6,O I c7] 23):=⟨_,rfl⟩;have hb1:Below w.heap.size w W0:=by rw [hW0];exact zX.alloc zY _
 have hsz:W0.heap.size=w.heap.size+1:=by rw [hW0];simp
 have hs1:=hs.below hb1;have HLEND:=zZ (z5e x m cap A L C F W0 hs1.hn hs1.hL hs1.hA hs1.hI hs1.low hs1.no);have HNW:=zZ (fun (w2:World) (NB:Nat->Nat) (hR:Rest W0 w2 m A L F NB 0) =>
  y5p c0 c1 c2 c3 c4 c5 c6 c7 fail (some ⟨W0.heap.size,0,none⟩) m (m+8) (fun i=>z4g (A i) (NB i)) L (fun i=>z6x (A i) (L i)) F w2 (zO hs1.hn zU) hs1.hL hR.lists (hR.ints fun i hi h=>(hs1.no i hi h).1) hR.low hno)
 have HRF:=zZ (fun (w3:World) (hb3:Below W0.heap.size W0 w3) =>
  y5q c0 c1 c2 c3 c4 c5 c6 c7 fail (some x) m cap A L C F w3 (zO hs1.hn zU) hs1.hL (hs1.below hb3).hA (hs1.below hb3).hI (hs1.below hb3).low hno)
 have HWHOLE:=zZ (fun (w4:World) (NB:Nat->Nat) (hR:Rest W0 w4 m A L F NB 0)=>z7Q x m cap A L C NB F W0 w4 hs1.hn hs1.hL hs1.hA hs1.hI hs1.low hs1.no hR);have HEND:Hid (∀ w5,Below W0.heap.size W0 w5->LwI b0 B S ln K n tw w5/\Below b0 w w5):=fun w5 h5=>by
  have hu:Below w.heap.size w w5:=hb1.trans (h5.mono hb1.size);exact ⟨h.below hu,hu.mono hb⟩
 rw [hsz] at HNW HWHOLE HEND;rw [hW0] at HLEND HNW HRF HWHOLE HEND;generalize encE c0 c1 c2 c3 c4 c5 c6 c7 m L F=E at *;clear hs1 hs hno h hb1 hsz hW0 W0 hb
 go_enter func41,ntmps41
 go_wp2_with (first
  | (go_at_call 74;refine HLEND.out.mono ?_;rintro e w2 ⟨NB,rfl,hF⟩;have HR:=zZ hF.rest;clear hF;have hbe:=HR.out.below;have hs2:w.heap.size < w2.heap.size:=by {have:=hbe.size;simp at this;omega};obtain ⟨hcl,hfr⟩:=z2J hbe;clear hfr HLEND hbe)
  | (go_at_call 21;refine (HNW.out _ NB HR.out).mono ?_;rintro e w3 ⟨rfl,hb3⟩;have hs3:w.heap.size < w3.heap.size:=zP hs2 hb3.size;obtain ⟨hcl3,hfr3⟩:=z2J hb3;have HR3:=zZ (HR.out.below' hb3);clear hfr3 hb3 HNW HR)
  | (go_at_call 75;refine (HRF.out _ ?_).mono ?_;exact HR3.out.below;rintro e w4 ⟨rfl,hb4⟩;have hs4:w.heap.size < w4.heap.size:=zP hs3 hb4.size;have HR4:=zZ (HR3.out.below' hb4);clear hb4 HRF HR3)
  | (go_at_call 76;refine (HWHOLE.out _ NB HR4.out).mono ?_;rintro e w5 ⟨rfl,hb5⟩;have HF:=zZ (HEND.out w5 hb5);clear hb5 HWHOLE HEND HR4)
  | (go_at_call 77;refine (z7W _ _).mono ?_;rintro e w6 ⟨rfl,hw⟩;subst w6))
 go_ret;exact ⟨rfl,HF.out⟩
set_option maxHeartbeats 2000000 in
theorem y3m (b0 B:Nat) (S:Nat->Prop) (ln:Value) (K n:Nat) (tw:Nat->Tw) (w:World) (h:LwI b0 B S ln K n tw w) (hb:b0<=w.heap.size) (c0 c1 c2 c3 c4 c5 c6 c7 fail:Int) (A:Nat->Option Addr) (L C:Nat->Nat) (F:Nat->Nat->Int) (hno:¬ z6I c0 c1 c2 c3 c4 c5 c6 c7 0 L F) :
 Calls prog 41 #[.pointer (some ⟨B,0,none⟩),.agg #[O I c0,O I c1,O I c2,O I c3,O I c4,O I c5,O I c6,O I c7],.slice none 0 0,O I fail] w fun e w' =>
  e=.returned (.bool true)/\LwI b0 B S ln K n tw w'/\Below b0 w w':=by
 have hb1:Below w.heap.size w (w.alloc (.cells #[O I c0,O I c1,O I c2,O I c3,O I c4,O I c5,O I c6,O I c7] 23)):=zX.alloc zY _;have lst:∀ u,ListsAt u none 0 A L C:=fun u i hi=>absurd hi zU
 have HNW:=zZ (fun (u:World)=>y5p c0 c1 c2 c3 c4 c5 c6 c7 fail none 0 0 A L C F u zU (fun i hi=>absurd hi zU) (lst u) (fun i hi=>absurd hi zU) ⟨fun x hx=>(by cases hx),fun i hi=>absurd hi zU⟩ hno);have HRF:=zZ (fun (u:World)=>y5q c0 c1 c2 c3 c4 c5 c6 c7 fail none 0 0 A L C F u zU (fun i hi=>absurd hi zU) (lst u) (fun i hi=>absurd hi zU) ⟨fun x hx=>(by cases hx),fun i hi=>absurd hi zU⟩ hno);have HB:=zZ hb1;have HEND:Hid (∀ w5,Below w.heap.size w w5->LwI b0 B S ln K n tw w5/\Below b0 w w5):=fun w5 hu=>⟨h.below hu,hu.mono hb⟩
 generalize encE c0 c1 c2 c3 c4 c5 c6 c7 0 L F=E at *;clear hno h hb1 hb lst
 go_enter func41,ntmps41
 go_wp2_with (first
  | (go_at_call 74;refine (z8Z _).mono ?_;rintro e w' ⟨rfl,rfl⟩)
  | (go_at_call 21;refine (HNW.out _).mono ?_;rintro e w3 ⟨rfl,hb3⟩;have hs3:w.heap.size < w3.heap.size:=by {have:=hb3.size;simp at this;omega};obtain ⟨hcl3,hfr3⟩:=z2J hb3;have HB3:=zZ (HB.out.trans (hb3.mono (by simp)));clear hfr3 hb3 HNW)
  | (go_at_call 75;refine (HRF.out _).mono ?_;rintro e w4 ⟨rfl,hb4⟩;have HF:=zZ (HEND.out w4 (HB3.out.trans (hb4.mono HB3.out.size)));clear hb4 HRF)
  | (go_at_call 76;refine (z7V _ _ _).mono ?_;rintro e w' ⟨rfl,rfl⟩)
  | (go_at_call 77;refine (z7W _ _).mono ?_;rintro e w6 ⟨rfl,hw⟩;subst w6))
 go_ret;exact ⟨rfl,HF.out⟩
theorem y0X {b0 B:Nat} {S:Nat->Prop} {ln:Value} {K n:Nat} {tw:Nat->Tw} {w:World} (h:LwI b0 B S ln K n tw w) (hb:b0<=w.heap.size) (hn9:n<=1000000000000) (c0 c1 c2 c3 c4 c5 c6 c7 fail:Int) (a:Option Addr) (m cap:Nat) (A:Nat->Option Addr) (L C:Nat->Nat) (F:Nat->Nat->Int)
 (hs:SoundIn w a m cap A L C F) (hT:z1v w 2) (hTl:2 < w.heap.size) :
 Calls prog 41 #[.pointer (some ⟨B,0,none⟩),.agg #[O I c0,O I c1,O I c2,O I c3,O I c4,O I c5,O I c6,O I c7],.slice a m cap,O I fail] w fun e w' =>
  e=.returned (.bool true)/\∃ ln' n' tw',n'<=n+1/\LwI b0 B S ln' K n' tw' w'/\Below b0 w w':=by
 by_cases hok:z6I c0 c1 c2 c3 c4 c5 c6 c7 m L F
 . obtain ⟨d,Bk,k3,k4,k5,k6,k7,rfl,rfl,rfl,rfl,rfl,rfl,rfl,rfl,hc,hk,hL⟩:=y5o hok
   cases a with
   | none=>have:=(hs.nil rfl).1;have:=hc.ch1;omega
   | some x =>
    have hs2:SoundIn w (some x) m cap A (fun _=>L 0) C F:=⟨hs.nil,hs.hn,fun i hi=>hL i hi ▸ hs.hL i hi,fun i hi=>by simpa only [hL i hi] using hs.hA i hi,fun i hi=>hL i hi ▸ hs.hI i hi,⟨hs.low.1,fun i hi x hx h0=>hs.low.2 i hi x hx (by rw [hL i hi];exact h0)⟩,fun i hi h0=>hL i hi ▸ hs.no i hi h0,fun i hi=>hL i hi ▸ hs.room i hi⟩;refine (z7q h hb hn9 hc hk fail hs2 hT hTl).mono ?_;rintro e w' ⟨rfl,ln',t,hB⟩;exact ⟨rfl,ln',n+1,_,Nat.le_refl _,hB.is,hB.low⟩
 . refine Calls.mono (R:=fun e w'=>e=.returned (.bool true)/\LwI b0 B S ln K n tw w'/\Below b0 w w') ?_ ?_
   . cases a with
     | none=>obtain ⟨rfl,rfl⟩:=hs.nil rfl;exact y3m b0 B S ln K n tw w h hb c0 c1 c2 c3 c4 c5 c6 c7 fail A L C F hok
     | some x=>exact y3l b0 B S ln K n tw w h hb c0 c1 c2 c3 c4 c5 c6 c7 fail x m cap A L C F hs hok
   . rintro e w' ⟨rfl,h1,h2⟩
     exact ⟨rfl,ln,n,tw,zU,h1,h2⟩
theorem z8t {P:Program} {w:World} {o:Oper} {a:Act} (p:Operand) (t:TypeId) (ho:o.op=.load t p) (g off:Nat) (cs:List Value) (d:TypeDesc) (hp:a.eval p=.pointer (some ⟨g,off,none⟩)) (hc:w.rangeAt g off cs) (hu:P.underlying t=some d)
 (hd:d.isRow=true) (hi:(P.info? t).map (·.size)=some cs.length):(execOp a.eval o).run P w=.ok (.value (.agg cs.toArray)) w:=by
 unfold execOp;simp only [ho,hp,Instr.loadAt,Instr.sureAddr,Sem.run_bind,Sem.run_pure,Result.andThen_ok,run_loadVar_mid w g off t cs d hc hu hd hi]
theorem y5A:(prog.info? 87).map (·.size)=some 2:=zT
theorem y5B:(prog.info? 54).map (·.size)=some 15:=zT
section
variable {b0 B:Nat} {S:Nat->Prop} {ln:Value} {K n:Nat} {tw:Nat->Tw} {w:World}
theorem LwI.open (h:LwI b0 B S ln K n tw w) (hn:1<=n):∃ g cap,ln=.slice (some ⟨g,0,none⟩) n cap/\g < w.heap.size/\¬ S g/\(∀ i,i < n->¬ (tw i).foot g) /\
 (∀ u:World,u.heap[g]?=w.heap[g]?->∀ i,i < n->u.rangeAt g (i * 2) [ptrV (tw i).l,ptrV (tw i).r.rb])/\w.cell? ⟨B,0,none⟩=some ln/\B < w.heap.size:=by
 obtain ⟨hSB,kv,lv,hBk⟩:=h.book.inB;rcases h.rows.2 with ⟨e1,e2⟩ | ⟨g,cap,cur,e1,h1,h2,h3,h4,h5,h6⟩
 . omega
 . refine ⟨g,cap,e1,(Array.getElem?_eq_some_iff.1 h2).1,h.ls g (by rw [e1];rfl),fun i hi hc=>(h.bs i hi g hc).2.1 (by rw [e1];rfl),fun u hu i hi j v hv=>?_,by simp [World.cell?,show w.heap[B]?=_ from hBk],hBk.lt⟩
   have hj:j < 2:=by
    have:=(List.getElem?_eq_some_iff.1 hv).1
    simpa using this
   have hl:=y0T tw n;have hg:=y5w tw n i hi;have hv2:(twL tw n)[i * 2+j]?=some v:=by
    rw [Nat.mul_comm i 2]
    match j,hj with
    | 0,_=>rw [Nat.add_zero,hg.1];simpa using hv
    | 1,_=>rw [hg.2];simpa using hv
   have hlt:i * 2+j < n * 2:=zU
   have hc:cur[i * 2+j]?=some v:=by
    rw [← hv2,← h6,List.getElem?_take_of_lt zU,Array.getElem?_toList]
   simp [World.cell?,hu,h2,hc]
def z6v (b0 B:Nat) (ln:Value) (K n:Nat) (Q:(Nat->Tw)->Prop) (w w':World):Prop:=∃ S' tw' K',LwI b0 B S' ln K' n tw' w'/\K'<=K+3/\Below b0 w w'/\Q tw'
set_option maxHeartbeats 2000000 in
set_option linter.unusedSimpArgs false in
theorem z9D (h:LwI b0 B S ln K n tw w) (hb:b0<=w.heap.size) (hn:1<=n) (hn9:n<=1000000000000) (kd on:Int) (o2 o3 o4 o5 o6 o7 o8 o9 o10 o11 o12 o13 o14:Value) (hk:12 < kd) (hon:-9223372036854775808<=on/\on<=9223372036854775807) (hK:K<=900000000000) (Q:(Nat->Tw)->Prop)
 (hQ:∀ u i,Below w.heap.size w u->i < n->Calls prog 45 #[.pointer (some ⟨B,0,none⟩),.agg #[ptrV (tw i).l,ptrV (tw i).r.rb],.agg #[O I kd,O I on,o2,o3,o4,o5,o6,o7,o8,o9,o10,o11,o12,o13,o14]] u fun e w'=>e=.returned (.bool true)/\z6v b0 B ln K n Q u w'/\y0U S n tw u w') :
 Calls prog 19 #[.pointer (some ⟨B,0,none⟩),.agg #[O I kd,O I on,o2,o3,o4,o5,o6,o7,o8,o9,o10,o11,o12,o13,o14]] w fun e w'=>e=.returned (.bool true)/\z6v b0 B ln K n Q w w':=by
 obtain ⟨W,hW⟩:∃ W,w.alloc (.cells #[O I kd,O I on,o2,o3,o4,o5,o6,o7,o8,o9,o10,o11,o12,o13,o14] 54)=W:=⟨_,rfl⟩;have bW:Below w.heap.size w W:=hW ▸ zX.alloc zY _;have hy:Bx W w.heap.size 54 #[O I kd,O I on,o2,o3,o4,o5,o6,o7,o8,o9,o10,o11,o12,o13,o14]:=hW ▸ Bx.new w _ _;obtain ⟨g,cap,e1,hg,hgS,hgF,hrow,hB0,hBl⟩:=h.open hn;subst e1;have bD:Below w.heap.size w W.drew:=bW.drew;have HQ:Hid (∀ i,i < n->Calls prog 45 #[.pointer (some ⟨B,0,none⟩),.agg #[ptrV (tw i).l,ptrV (tw i).r.rb],.agg #[O I kd,O I on,o2,o3,o4,o5,o6,o7,o8,o9,o10,o11,o12,o13,o14]] W.drew fun e w'=>e=.returned (.bool true)/\z6v b0 B (.slice (some ⟨g,0,none⟩) n cap) K n Q W.drew w'/\y0U S n tw W.drew w'):=fun i hi=>hQ W.drew i bD hi
 have HS:Hid (∀ w',y0U S n tw W.drew w'->z6v b0 B (.slice (some ⟨g,0,none⟩) n cap) K n Q W.drew w'->w'.cell? ⟨B,0,none⟩=some (.slice (some ⟨g,0,none⟩) n cap)/\w'.cell? ⟨w.heap.size,1,none⟩=some (O I on)/\w'.heap[w.heap.size]?=some (.cells #[O I kd,O I on,o2,o3,o4,o5,o6,o7,o8,o9,o10,o11,o12,o13,o14] 54 (0,0))/\∀ i,i < n->w'.rangeAt g (i * 2) [ptrV (tw i).l,ptrV (tw i).r.rb]):=fun w' hk2 hp=>by
  obtain ⟨S',tw',K',h1,-⟩:=hp;have hyd:Bx W.drew w.heap.size 54 #[O I kd,O I on,o2,o3,o4,o5,o6,o7,o8,o9,o10,o11,o12,o13,o14]:=hy;have hopk:w'.heap[w.heap.size]?=W.drew.heap[w.heap.size]?:=hk2 w.heap.size hyd.lt (fun hc=>by have:=h.book.lt _ hc;omega) fun i hi hc=>by have:=(h.is i hi).lt _ hc;omega
  have hgk:w'.heap[g]?=w.heap[g]?:=(hk2 g (zP hg bD.size) hgS hgF).trans (bD.block g hg);have hx:Bx w' w.heap.size 54 #[O I kd,O I on,o2,o3,o4,o5,o6,o7,o8,o9,o10,o11,o12,o13,o14]:=hopk.trans hyd;obtain ⟨-,kv,lv,hBk⟩:=h1.book.inB;exact ⟨by simp [World.cell?,show w'.heap[B]?=_ from hBk],hx.cell 1,hx,hrow w' hgk⟩
 have HS0:Hid (W.drew.cell? ⟨B,0,none⟩=some (.slice (some ⟨g,0,none⟩) n cap)/\W.drew.cell? ⟨w.heap.size,1,none⟩=some (O I on)/\W.drew.heap[w.heap.size]?=some (.cells #[O I kd,O I on,o2,o3,o4,o5,o6,o7,o8,o9,o10,o11,o12,o13,o14] 54 (0,0))/\∀ i,i < n->W.drew.rangeAt g (i * 2) [ptrV (tw i).l,ptrV (tw i).r.rb]) :=
  ⟨(bD.cell (p:=⟨B,0,none⟩) hBl).trans hB0,hy.cell 1,hy,hrow W.drew (bD.block g hg)⟩
 have HPK:=zZ (fun u=>y5y on n hn zU hon u);have HE:Hid (∀ w',z6v b0 B (.slice (some ⟨g,0,none⟩) n cap) K n Q W.drew w'->Calls prog 47 #[.pointer (some ⟨B,1,none⟩)] w' fun e w2=>e=.returned (.bool true)/\z6v b0 B (.slice (some ⟨g,0,none⟩) n cap) K n Q w w2):=fun w' hp=>by
  obtain ⟨S',tw',K',h1,h2,h3,h4⟩:=hp;refine (z3R S' B _ K' w' zU h1.book).mono ?_;rintro e w2 ⟨rfl,b2⟩;have b3:=(bD.mono hb).trans h3;exact ⟨rfl,S',tw',K',h1.below b2,h2,b3.trans (b2.mono (zO hb b3.size)),h4⟩
 have x0:W.cell? ⟨B,0,none⟩=some (.slice (some ⟨g,0,none⟩) n cap):=(bW.cell (p:=⟨B,0,none⟩) hBl).trans hB0;have y0:=hy.cell 0;simp at y0;have k1:decide (kd < 12)=false:=zM zU;have k2:(kd == 12)=false:=by simp;omega
 have k3:¬ kd=12:=zU
 have n1:decide ((n:Int) > 0)=true:=zL zU;have n2:(0:Int) < (n:Int):=zU
 have n3:0 < n:=zU
 clear h hQ bW hy hrow hB0 hgS hgF hg bD hon hb;unfold ptrV at *
 go_enter func19,ntmps19
 go_wp2_with fail
 try rw [hW]
 refine wp_region_held_drew (S:=fun w'=>w'.cell? ⟨B,0,none⟩=some (.slice (some ⟨g,0,none⟩) n cap)/\w'.cell? ⟨w.heap.size,1,none⟩=some (O I on)/\w'.heap[w.heap.size]?=some (.cells #[O I kd,O I on,o2,o3,o4,o5,o6,o7,o8,o9,o10,o11,o12,o13,o14] 54 (0,0))/\∀ i,i < n->w'.rangeAt g (i * 2) [.pointer (some ⟨(tw i).l,0,none⟩),.pointer (some ⟨(tw i).r.rb,0,none⟩)]) zT HS0.out (fun _=>?_);refine tq 0 ?_
 refine tq 1 ?_;refine tq 2 ?_;refine tq 3 ?_;refine tq 4 ?_;refine tq 5 ?_;refine tq 6 ?_;refine tq 7 ?_;refine tq 8 ?_;refine tq 9 ?_;refine tq 10 ?_;refine tq 11 ?_
 refine tk (i:=15) (v:=?_) rfl (fun _ _ _ h=>h) (Or.inl ⟨by rfl,?_⟩) (by assumption) ?_;rotate_left
 . (intro wx hSw;refine z1q (Operand.tmp 3) 54 ?_ w.heap.size 54 #[O I kd,O I on,o2,o3,o4,o5,o6,o7,o8,o9,o10,o11,o12,o13,o14] (0,0) _ ?_ hSw.2.2.1 underlying54 rfl y5B <;> rfl)
 try simp only [q1,q2,q3,Act.put,q4,q5,q6]
 refine zQ 12 (fun K hK=>?_)
 go_simp
 go_at_call 46
 refine (HPK.out _).mono ?_;rintro e u1 ⟨m,hm,rfl,hu1⟩;subst u1;have m1:(m:Int) < (n:Int):=zU
 have m2:(0:Int)<=(m:Int):=zU
 have HL:=zZ (HQ.out m hm);go_wp2_with fail;refine zV hK HS0.out (fun _=>?_);clear hK K
 refine tq 13 ?_
 refine tk (i:=14) (v:=?_) rfl (fun _ _ _ h=>h) (Or.inl ⟨by rfl,?_⟩) (by assumption) ?_;rotate_left
 . (intro wx hSw;refine z8t (Operand.tmp 43) 87 ?_ g (m * 2) _ _ ?_ (hSw.2.2.2 m hm) underlying87 rfl y5A <;> rfl)
 try simp only [q1,q2,q3,Act.put,q4,q5,q6]
 refine zQ 16 (fun K hK=>?_)
 go_simp
 go_at_call 45
 refine HL.out.mono ?_;rintro e u2 ⟨rfl,h2,h3⟩;have HS2:=zZ (HS.out u2 h3 h2);have HE2:=zZ (HE.out u2 h2);clear h2 h3 HL HE HS HQ;go_wp2_with fail;refine zV hK HS2.out (fun _=>?_);clear hK K
 refine tq 17 ?_
 refine wpAnyH_done zT ?_ _
 go_wp2_with (go_at_call 47;refine HE2.out.mono ?_;rintro e u3 ⟨rfl,h5⟩;have HF:=zZ h5;clear h5 HE2)
 go_ret;exact ⟨rfl,HF.out⟩
end
def z4X (b0 B K n:Nat) (w w':World):Prop:=∃ S' ln' tw' K' n',LwI b0 B S' ln' K' n' tw' w'/\K'<=K+3/\n'<=n+1/\Below b0 w w'
theorem y7x {b0 B K n:Nat} {w u:World} (hp:z4X b0 B K n w u) (hb:b0<=u.heap.size) (hK:K<=900000000000):Calls prog 47 #[.pointer (some ⟨B,1,none⟩)] u fun e w2=>e=.returned (.bool true)/\z4X b0 B K n w w2:=by
 obtain ⟨S',ln',tw',K',n',h1,h2,h3,h4⟩:=hp;refine (z3R S' B ln' K' u zU h1.book).mono ?_;rintro e w2 ⟨rfl,b2⟩;exact ⟨rfl,S',ln',tw',K',n',h1.below b2,h2,h3,h4.trans (b2.mono hb)⟩
section
variable {b0 B:Nat} {S:Nat->Prop} {ln:Value} {K n:Nat} {tw:Nat->Tw} {w:World}
theorem LwI.cellB (h:LwI b0 B S ln K n tw w):w.cell? ⟨B,0,none⟩=some ln/\B < w.heap.size:=by
 obtain ⟨hSB,kv,lv,hBk⟩:=h.book.inB;exact ⟨by simp [World.cell?,show w.heap[B]?=_ from hBk],hBk.lt⟩
set_option maxHeartbeats 2000000 in
theorem y5C {b0 B:Nat} {S:Nat->Prop} {ln:Value} {K:Nat} {tw:Nat->Tw} {w:World} (h:LwI b0 B S ln K 0 tw w) (hb:b0<=w.heap.size) (kd on:Int) (o2 o3 o4 o5 o6 o7 o8 o9 o10 o11 o12 o13 o14:Value) (hk:12 < kd) (hK:K<=900000000000) :
 Calls prog 19 #[.pointer (some ⟨B,0,none⟩),.agg #[O I kd,O I on,o2,o3,o4,o5,o6,o7,o8,o9,o10,o11,o12,o13,o14]] w fun e w'=>e=.returned (.bool true)/\z4X b0 B K 0 w w':=by
 obtain ⟨W,hW⟩:∃ W,w.alloc (.cells #[O I kd,O I on,o2,o3,o4,o5,o6,o7,o8,o9,o10,o11,o12,o13,o14] 54)=W:=⟨_,rfl⟩;have bW:Below w.heap.size w W:=hW ▸ zX.alloc zY _;have hy:Bx W w.heap.size 54 #[O I kd,O I on,o2,o3,o4,o5,o6,o7,o8,o9,o10,o11,o12,o13,o14]:=hW ▸ Bx.new w _ _;obtain ⟨a,cap,e1⟩:∃ a cap,ln=.slice a 0 cap:=by
  rcases h.rows.2 with ⟨e1,e2⟩ | ⟨g,cap,cur,e1,-⟩
  . exact ⟨_,_,e1⟩
  . exact ⟨_,_,e1⟩
 subst e1;have x0:W.cell? ⟨B,0,none⟩=some (.slice a 0 cap):=(bW.cell (p:=⟨B,0,none⟩) h.cellB.2).trans h.cellB.1;have HE:=zZ (y7x (b0:=b0) (B:=B) (K:=K) (n:=0) (w:=w) (u:=W) ⟨S,_,tw,K,0,h.below bW,zU,zU,bW.mono hb⟩ (zO hb bW.size) hK);have y0:=hy.cell 0;simp at y0;have k1:decide (kd < 12)=false:=zM zU;have k2:(kd == 12)=false:=by simp;omega
 have k3:¬ kd=12:=zU
 clear h bW hy hb
 go_enter func19,ntmps19
 go_wp2_with (go_at_call 47;refine HE.out.mono ?_;rintro e u3 ⟨rfl,h5⟩;have HF:=zZ h5;clear h5 HE)
 go_ret;exact ⟨rfl,HF.out⟩
set_option maxHeartbeats 2000000 in
theorem y6T (h:LwI b0 B S ln K n tw w) (hb:b0<=w.heap.size) (hn9:n<=1000000000000) (hK:K<=900000000000) (fl c0 c1 c2 c3 c4 c5 c6 c7:Int) (o1 o3 o12 o13:Value) (wa:Option Addr) (wn wc:Nat) (A:Nat->Option Addr) (L C:Nat->Nat) (F:Nat->Nat->Int)
 (hs:SoundIn w wa wn wc A L C F) (hT:z1v w 2) (hTl:2 < w.heap.size) :
 Calls prog 19 #[.pointer (some ⟨B,0,none⟩),.agg #[O I 12,o1,O I fl,o3,O I c0,O I c1,O I c2,O I c3,O I c4,O I c5,O I c6,O I c7,o12,o13,.slice wa wn wc]] w fun e w'=>e=.returned (.bool true)/\z4X b0 B K n w w':=by
 obtain ⟨W,hW⟩:∃ W,w.alloc (.cells #[O I 12,o1,O I fl,o3,O I c0,O I c1,O I c2,O I c3,O I c4,O I c5,O I c6,O I c7,o12,o13,.slice wa wn wc] 54)=W:=⟨_,rfl⟩;have bW:Below w.heap.size w W:=hW ▸ zX.alloc zY _;have hy:Bx W w.heap.size 54 #[O I 12,o1,O I fl,o3,O I c0,O I c1,O I c2,O I c3,O I c4,O I c5,O I c6,O I c7,o12,o13,.slice wa wn wc]:=hW ▸ Bx.new w _ _;have tab:z1v W 2:=fun r c hr hc=>(bW.cell (p:=⟨2,4 * r+c,none⟩) hTl).trans (hT r c hr hc)
 have HC:=zZ (y0X (h.below bW) (zO hb bW.size) hn9 c0 c1 c2 c3 c4 c5 c6 c7 fl wa wn wc A L C F (hs.below bW) tab (zP hTl bW.size));have HE:Hid (∀ ln' n' tw' u,n'<=n+1->LwI b0 B S ln' K n' tw' u->Below b0 W u->Calls prog 47 #[.pointer (some ⟨B,1,none⟩)] u fun e w2=>e=.returned (.bool true)/\z4X b0 B K n w w2):=fun ln' n' tw' u h1 h2 h3=>by
  have h4:=(bW.mono hb).trans h3;exact y7x ⟨S,ln',tw',K,n',h2,zU,h1,h4⟩ (zO hb h4.size) hK
 have HR:Hid (W.rangeAt w.heap.size 4 [O I c0,O I c1,O I c2,O I c3,O I c4,O I c5,O I c6,O I c7]):=by
  have:=World.rangeAt_of_block hy 4 8
  show W.rangeAt w.heap.size 4 [O I c0,O I c1,O I c2,O I c3,O I c4,O I c5,O I c6,O I c7]
  simpa using this
 have y0:=hy.cell 0;have y2:=hy.cell 2;have y14:=hy.cell 14;simp at y0 y2 y14;clear h bW hy hb tab hs hT hTl
 go_enter func19,ntmps19
 go_wp2_with (first
  | (refine wpList_load_mid rfl 23 _ rfl w.heap.size 4 rfl _ _ HR.out underlying23 rfl z8q ?_)
  | (go_at_call 41;refine HC.out.mono ?_;rintro e u2 ⟨rfl,ln',n',tw',h1,h2,h3⟩;have HE2:=zZ (HE.out ln' n' tw' u2 h1 h2 h3);clear h1 h2 h3 HC HE)
  | (go_at_call 47;refine HE2.out.mono ?_;rintro e u3 ⟨rfl,h5⟩;have HF:=zZ h5;clear h5 HE2))
 go_ret;exact ⟨rfl,HF.out⟩
structure Opv where
 kd:Int
 on:Int
 a:Int
 b:Int
 c0:Int
 c1:Int
 c2:Int
 c3:Int
 c4:Int
 c5:Int
 c6:Int
 c7:Int
 st:ByteArray
 la:Option Addr
 lm:Nat
 lc:Nat
 pk:Nat->Int
 wa:Option Addr
 wn:Nat
 wc:Nat
 A:Nat->Option Addr
 L:Nat->Nat
 C:Nat->Nat
 F:Nat->Nat->Int
def Opv.arr (o:Opv):Array Value:=#[O I o.kd,O I o.on,O I o.a,O I o.b,O I o.c0,O I o.c1,O I o.c2,O I o.c3,O I o.c4,O I o.c5,O I o.c6,O I o.c7,.string o.st,.slice o.la o.lm o.lc,.slice o.wa o.wn o.wc]
structure OpOk (w:World) (o:Opv):Prop where
 onR:-9223372036854775808<=o.on/\o.on<=9223372036854775807
 ints:IntsAt w o.la o.lm o.pk
 low:∀ y,o.la=some y->0 < o.lm->y.block < w.heap.size
 pkR:∀ j,j < o.lm->o.pk j<=9223372036854775807
 lmR:o.lm<=9223372036854775807
 snd:SoundIn w o.wa o.wn o.wc o.A o.L o.C o.F
theorem y5D (h:LwI b0 B S ln K n tw w) (hb:b0<=w.heap.size) {i:Nat} (hi:i < n) (w0:World) (hT:TabsF w0) (hB0:Below w0.heap.size w0 w) (hw0:b0=w0.heap.size) (o:Opv) (ok:OpOk w0 o) (hk:12 < o.kd) (hK:K<=900000000000) :
 Calls prog 45 #[.pointer (some ⟨B,0,none⟩),.agg #[ptrV (tw i).l,ptrV (tw i).r.rb],.agg o.arr] w fun e w'=>e=.returned (.bool true)/\z5o b0 B S ln K n tw w w':=by
 unfold Opv.arr
 by_cases h13:o.kd=13
 . rw [h13];exact y3j h hb hi _ _ _ _ _ _ _ _ _ _ _ _ _ _ zU
 by_cases h14:o.kd=14
 . rw [h14];exact y3i h hb hi _ _ _ _ _ _ _ _ _ _ _ _ _ w0 hT hB0 hw0 o.la o.lm o.lc o.pk (ok.ints.below hB0 ok.low) ok.low ok.pkR ok.lmR
 by_cases h15:o.kd=15
 . rw [h15];exact z9B h hb hi _ _ _ _ _ _ _ _ _ _ _ _ _ _
 by_cases h16:o.kd=16
 . rw [h16];exact y3k h hb hi _ _ _ _ _ _ _ _ _ _ _ _ _ _ hK
 by_cases h17:o.kd=17
 . rw [h17];exact y0V h hb hi _ _ _ _ _ _ _ _ _ _ _ _ _ _
 exact y0W h hb hi _ _ _ _ _ _ _ _ _ _ _ _ _ _ h13 h14 h15 h16 h17
theorem y6U (h:LwI b0 B S ln K n tw w) (w0:World) (hT:TabsF w0) (hR:z1v w0 2) (hRl:2 < w0.heap.size) (hB0:Below w0.heap.size w0 w) (hw0:b0=w0.heap.size) (o:Opv) (ok:OpOk w0 o) (hk:12<=o.kd) (hK:K<=900000000000) (hn9:n<=1000000000000) :
 Calls prog 19 #[.pointer (some ⟨B,0,none⟩),.agg o.arr] w fun e w'=>e=.returned (.bool true)/\z4X b0 B K n w w':=by
 have hb:b0<=w.heap.size:=hw0 ▸ hB0.size
 by_cases h12:o.kd=12
 . unfold Opv.arr
   rw [h12];exact y6T h hb hn9 hK o.a o.c0 o.c1 o.c2 o.c3 o.c4 o.c5 o.c6 o.c7 _ _ _ _ o.wa o.wn o.wc o.A o.L o.C o.F (ok.snd.below hB0) (fun r c hr hc=>(hB0.cell (p:=⟨2,4 * r+c,none⟩) hRl).trans (hR r c hr hc)) (zP hRl hB0.size)
 . by_cases hn:1<=n
   . have hq:∀ u i,Below w.heap.size w u->i < n->Calls prog 45 #[.pointer (some ⟨B,0,none⟩),.agg #[ptrV (tw i).l,ptrV (tw i).r.rb],.agg o.arr] u fun e w'=>e=.returned (.bool true)/\z6v b0 B ln K n (fun _=>True) u w'/\y0U S n tw u w':=fun u i hu hi=>by
       refine (y5D (h.below hu) (zO hb hu.size) hi w0 hT (hB0.trans (hu.mono hB0.size)) hw0 o ok zU hK).mono ?_;rintro e w' ⟨rfl,S',tw',K',h1,h2,h3,h4⟩;exact ⟨rfl,⟨S',tw',K',h1,h2,h3,trivial⟩,h4⟩
     unfold Opv.arr at hq ⊢;refine (z9D h hb hn hn9 o.kd o.on _ _ _ _ _ _ _ _ _ _ _ _ _ zU ok.onR hK (fun _=>True) hq).mono ?_;rintro e w' ⟨rfl,S',tw',K',h1,h2,h3,-⟩;exact ⟨rfl,S',ln,tw',K',n,h1,h2,zU,h3⟩
   . obtain rfl:n=0:=zU
     unfold Opv.arr;exact y5C h hb o.kd o.on _ _ _ _ _ _ _ _ _ _ _ _ _ zU hK
end
def exG (_ j:Nat):Int:=[6,4,1].getD j 0
def exPk (j:Nat):Int:=[0,5,2].getD j 0
theorem y9Z:CfgK 1 4 2 8 1 2 2 1:=by constructor <;> omega
theorem exKP:KP 4 1 2 8 1 3 exG:=by
 have key:∀ j:Fin 3,z0A 4 (exG 0 j.val)=true:=zR
 exact ⟨zU,zU,zU,zU,zU,zU,zU,zU,zU,fun i hi j hj=>key ⟨j,hj⟩⟩
theorem y8y:(Lst.init).able ⟨nBlk 3 2,2,2,1,0⟩=[0,2]:=zR
theorem y9t:(goN ⟨nBlk 3 2,2,2,1,0⟩ exPk 3 Lst.init).hd=1/\(goN ⟨nBlk 3 2,2,2,1,0⟩ exPk 3 Lst.init).wrote=0:=zR
theorem y8z (s:Lst) (h1:s.hd=1) (h2:s.wrote=0):(bs (hdT ⟨1,4,2,8,1,3,exG⟩ s.hd ++ frsT 4 1 exG 3 2 s.wrote)).size=26:=by
 rw [h1,h2,z0b,zN];have e:(frsT 4 1 exG 3 2 0).length=0:=rfl;rw [e]
 show (z1L 0 1 4 2 8 3 1 0 0 0 (List.replicate (nPts 3 2 1) 0)).length+0=26
 rw [z1M,List.length_replicate]
 rfl
theorem y8A (y:World):SoundIn ((y.alloc (.cells #[O I 6,O I 4,O I 1] 3)).alloc (.cells #[.slice (some ⟨y.heap.size,0,none⟩) 3 3] 30)) (some ⟨y.heap.size+1,0,none⟩) 1 1 (fun _=>some ⟨y.heap.size,0,none⟩) (fun _=>3) (fun _=>3) exG:=by
 refine ⟨fun h=>by (cases h),zU,fun _ _=>zU,fun i hi=>⟨_,rfl,?_⟩,fun i hi j hj=>⟨_,rfl,?_⟩,⟨fun x hx _=>?_,fun i hi x hx _=>?_⟩,fun i hi h=>by (cases h),fun _ _=>Nat.le_refl _⟩
 . obtain rfl:i=0:=zU
   simp [Addr.add]
 . have hx:Bx ((y.alloc (.cells #[O I 6,O I 4,O I 1] 3)).alloc (.cells #[.slice (some ⟨y.heap.size,0,none⟩) 3 3] 30)) y.heap.size 3 #[O I 6,O I 4,O I 1]:=(Bx.new y _ _).alloc _
   rw [Addr.add_lit,Nat.zero_add,hx.cell j];have key:∀ j:Fin 3,(#[Value.int .i64 6,O I 4,O I 1])[j.val]?=some (O I (exG 0 j.val)):=fun j=>match j with
    | ⟨0,_⟩=>rfl
    | ⟨1,_⟩=>rfl
    | ⟨2,_⟩=>rfl
   exact key ⟨j,hj⟩
 . cases hx;simp
 . cases hx;simp;omega
def y3n (b0 B:Nat) (w w':World):Prop:=∃ S' ln' tw' K' n',LwI b0 B S' ln' K' n' tw' w'/\K'<=4/\n'<=1/\Below b0 w w'
theorem y6V {b0 B K:Nat} {S:Nat->Prop} {ln:Value} {tw:Nat->Tw} {w u:World} {l:Nat} (h:LwI b0 B S ln K 1 tw u) (hK:K<=4) (hb:b0<=u.heap.size) (hw:Below b0 w u) (hl:(tw 0).l=l) (hx:(tw 0).x=⟨1,4,2,8,1,3,exG⟩) (hs:(tw 0).s=goN ⟨nBlk 3 2,2,2,1,0⟩ exPk 3 Lst.init) :
 Calls prog 25 #[ptrV l] u fun e u2=>∃ st:ByteArray,e=.returned (.string st)/\st.size=26/\y3n b0 B w u2:=by
 have h1:=(h.is 0 zU).one;rw [hl,hx] at h1;refine (z7k h1).mono ?_;rintro e u2 ⟨rfl,b2⟩;exact ⟨_,rfl,y8z _ (by rw [hs];exact y9t.1) (by rw [hs];exact y9t.2),S,ln,tw,K,1,h.below b2,hK,zU,hw.trans (b2.mono hb)⟩
theorem y8B {b0 B K:Nat} {S:Nat->Prop} {ln:Value} {tw:Nat->Tw} {w u w0:World} {t:Tw} (h:LwI b0 B S ln K 1 tw u) (hK:K<=1) (hT:TabsF w0) (hB0:Below w0.heap.size w0 u) (hw0:b0=w0.heap.size) (hw:Below b0 w u) (ht:tw 0=t) (hx:t.x=⟨1,4,2,8,1,3,exG⟩) (hp:t.p=⟨nBlk 3 2,2,2,1,0⟩) (hs:t.s=Lst.init) :
 Calls prog 19 #[.pointer (some ⟨B,0,none⟩),.agg #[O I 14,O I 0,O I 0,O I 0,O I 0,O I 0,O I 0,O I 0,O I 0,O I 0,O I 0,O I 0,.string ByteArray.empty,.slice (some ⟨u.heap.size,0,none⟩) 3 3,.slice none 0 0]] (u.alloc (.cells #[O I 0,O I 5,O I 2] 3)) fun e u2=>e=.returned (.bool true)/\Hid (Calls prog 25 #[ptrV t.l] u2 fun e u3=>∃ st:ByteArray,e=.returned (.string st)/\st.size=26/\y3n b0 B w u3):=by
 have bu:Below u.heap.size u (u.alloc (.cells #[O I 0,O I 5,O I 2] 3)):=zX.alloc zY _;have hxp:Bx (u.alloc (.cells #[O I 0,O I 5,O I 2] 3)) u.heap.size 3 #[O I 0,O I 5,O I 2]:=Bx.new u _ _;have hb:b0<=u.heap.size:=hw0 ▸ hB0.size;have h1:=h.below bu;have key:∀ j:Fin 3,(#[Value.int .i64 0,O I 5,O I 2])[j.val]?=some (O I (exPk j.val)):=fun j=>match j with
  | ⟨0,_⟩=>rfl
  | ⟨1,_⟩=>rfl
  | ⟨2,_⟩=>rfl
 have hnf:¬ (tw 0).foot u.heap.size:=fun hc=>by have:=(h.is 0 zU).lt _ hc;omega
 refine (z9D h1 (zO hb bu.size) zU zU 14 0 _ _ _ _ _ _ _ _ _ _ _ _ _ zU ⟨zU,zU⟩ zU (fun tw'=>(tw' 0).l=t.l/\(tw' 0).x=t.x/\(tw' 0).s=goN t.p exPk 3 t.s) fun v i hv hi=>?_).mono ?_
 . obtain rfl:i=0:=zU
   have hPv:IntsAt v (some ⟨u.heap.size,0,none⟩) 3 exPk:=fun j hj=>⟨_,rfl,by
    rw [Addr.add_lit,Nat.zero_add,(hxp.below hv).cell j];exact key ⟨j,hj⟩⟩
   refine (z6u (h1.below hv) (zO hb (zO bu.size hv.size)) zU _ _ _ _ _ _ _ _ _ _ _ _ _ w0 hT (hB0.trans ((bu.trans (hv.mono bu.size)).mono hB0.size)) hw0 (some ⟨u.heap.size,0,none⟩) 3 3 exPk hPv (fun y hy _=>?_) (fun j hj=>?_) zU).mono ?_
   . cases hy
     exact ⟨(hxp.below hv).lt,hnf⟩
   . have key2:∀ j:Fin 3,exPk j.val<=9223372036854775807:=zR
     exact key2 ⟨j,hj⟩
   . rintro e v2 ⟨rfl,t',h2,h3,h4,h5,h6,h7⟩
     refine ⟨rfl,⟨S,_,K,h2,zU,h3.1,?_⟩,h3.2⟩;have e9:updL tw 0 t' 0=t':=z0z _ _ _
     show (updL tw 0 t' 0).l=t.l/\(updL tw 0 t' 0).x=t.x/\(updL tw 0 t' 0).s=goN t.p exPk 3 t.s
     rw [e9,h4,h6,h7,ht];exact ⟨rfl,rfl,rfl⟩
 . rintro e v ⟨rfl,S',tw',K',h2,h3,h4,h5,h6,h7⟩
   refine ⟨rfl,zZ ?_⟩;have b4:=(bu.mono hb).trans h4;exact y6V h2 zU (zO hb b4.size) (hw.trans b4) h5 (h6.trans hx) (by rw [h7,hp,hs])
theorem y6W {b0 B:Nat} {S:Nat->Prop} {ln:Value} {tw:Nat->Tw} {w u w0:World} {t:Tw} (h:LwI b0 B S ln 0 1 tw u) (hT:TabsF w0) (hB0:Below w0.heap.size w0 u) (hw0:b0=w0.heap.size) (hw:Below b0 w u) (ht:tw 0=t) (hx:t.x=⟨1,4,2,8,1,3,exG⟩) (hp:t.p=⟨nBlk 3 2,2,2,1,0⟩) (hs:t.s=Lst.init) :
 Calls prog 42 #[ptrV t.l] u fun e u2=>∃ g o c,e=.returned (.slice (some ⟨g,o,none⟩) 2 c)/\u2.cell? ⟨g,o,none⟩=some (O I 0)/\u2.cell? ⟨g,o+1,none⟩=some (O I 2) /\
  Hid (Calls prog 43 #[.pointer (some ⟨B,1,none⟩),.slice (some ⟨g,o,none⟩) 2 c] u2 fun e u3=>e=.returned (.tuple #[])/\Hid (Calls prog 19 #[.pointer (some ⟨B,0,none⟩),.agg #[O I 14,O I 0,O I 0,O I 0,O I 0,O I 0,O I 0,O I 0,O I 0,O I 0,O I 0,O I 0,.string ByteArray.empty,.slice (some ⟨u3.heap.size,0,none⟩) 3 3,.slice none 0 0]] (u3.alloc (.cells #[O I 0,O I 5,O I 2] 3)) fun e u4=>e=.returned (.bool true)/\Hid (Calls prog 25 #[ptrV t.l] u4 fun e u5=>∃ st:ByteArray,e=.returned (.string st)/\st.size=26/\y3n b0 B w u5))):=by
 have h1:=(h.is 0 zU).one;rw [ht] at h1;have hb:b0<=u.heap.size:=hw0 ▸ hB0.size;refine (z9s h1).mono ?_;rintro e u2 ⟨v,rfl,o1,b2⟩;rw [hs,hp,y8y] at o1;obtain ⟨A,c,rfl,i1⟩:=z2j (f:=fun j=>[0,2].getD j 0) o1 (fun j hj=>by
  match j,hj with
  | 0,_=>rfl
  | 1,_=>rfl)
 obtain ⟨g,o,rfl,hc⟩:=i1.open zR;refine ⟨g,o,c,rfl,hc 0 zR,hc 1 zR,zZ ?_⟩;refine (y5x h hb b2 zU o1 zR).mono ?_;rintro e u3 ⟨rfl,S',h3,h4,-⟩;have b3:=(b2.mono hb).trans h4;exact ⟨rfl,zZ (y8B h3 zU hT (hB0.trans (hw0 ▸ b3)) hw0 (hw.trans b3) ht hx hp hs)⟩
set_option maxHeartbeats 2000000 in
theorem y5E {b0 B:Nat} {S:Nat->Prop} {ln:Value} {tw:Nat->Tw} {w w0:World} (h:LwI b0 B S ln 0 0 tw w) (hT:TabsF w0) (hR:z1v w0 2) (hRl:2 < w0.heap.size) (hB0:Below w0.heap.size w0 w) (hw0:b0=w0.heap.size) :
 Calls prog 18 #[.pointer (some ⟨B,0,none⟩)] w fun e w'=>e=.returned (.bool true)/\y3n b0 B w w':=by
 have hb:b0<=w.heap.size:=hw0 ▸ hB0.size;have HCF:Hid (∀ u1,Below w.heap.size w u1->∀ y,(u1.alloc (.cells #[O I 0,O I 0,O I 0,O I 0,O I 0,O I 0,O I 0,O I 0] 23)).setRow u1.heap.size #[O I 1,O I 4,O I 2,O I 8,O I 1,O I 2,O I 2,O I 1]=y->Below w.heap.size w y/\Bx y u1.heap.size 23 #[O I 1,O I 4,O I 2,O I 8,O I 1,O I 2,O I 2,O I 1]):=fun u1 hu y hy=>by
  have e1:Edit (fun _=>False) u1 y:=hy ▸ ((Edit.refl (fun _=>False) u1).alloc _).row zY _;exact ⟨hu.trans ((e1.below zY fun _ hf=>hf.elim).mono hu.size),hy ▸ (Bx.new u1 _ _).row _⟩
 have HBEG:Hid (∀ y,Below w.heap.size w y->Calls prog 41 #[.pointer (some ⟨B,0,none⟩),.agg #[O I 1,O I 4,O I 2,O I 8,O I 1,O I 2,O I 2,O I 1],.slice (some ⟨y.heap.size+1,0,none⟩) 1 1,O I 0] ((y.alloc (.cells #[O I 6,O I 4,O I 1] 3)).alloc (.cells #[.slice (some ⟨y.heap.size,0,none⟩) 3 3] 30)) fun e u2=>e=.returned (.bool true)/\∃ g cap l,u2.cell? ⟨B,0,none⟩=some (.slice (some ⟨g,0,none⟩) 1 cap)/\u2.cell? ⟨g,0,none⟩=some (.pointer (some ⟨l,0,none⟩)) /\
     Hid (Calls prog 42 #[ptrV l] u2 fun e u3=>∃ g o c,e=.returned (.slice (some ⟨g,o,none⟩) 2 c)/\u3.cell? ⟨g,o,none⟩=some (O I 0)/\u3.cell? ⟨g,o+1,none⟩=some (O I 2) /\
      Hid (Calls prog 43 #[.pointer (some ⟨B,1,none⟩),.slice (some ⟨g,o,none⟩) 2 c] u3 fun e u4=>e=.returned (.tuple #[])/\Hid (Calls prog 19 #[.pointer (some ⟨B,0,none⟩),.agg #[O I 14,O I 0,O I 0,O I 0,O I 0,O I 0,O I 0,O I 0,O I 0,O I 0,O I 0,O I 0,.string ByteArray.empty,.slice (some ⟨u4.heap.size,0,none⟩) 3 3,.slice none 0 0]] (u4.alloc (.cells #[O I 0,O I 5,O I 2] 3)) fun e u5=>e=.returned (.bool true)/\Hid (Calls prog 25 #[ptrV l] u5 fun e u6=>∃ st:ByteArray,e=.returned (.string st)/\st.size=26/\y3n b0 B w u6))))):=fun y hy=>by
  have b2:Below y.heap.size y ((y.alloc (.cells #[O I 6,O I 4,O I 1] 3)).alloc (.cells #[.slice (some ⟨y.heap.size,0,none⟩) 3 3] 30)):=(zX.alloc zY _).alloc (by simp) _;have b3:=hy.trans (b2.mono hy.size);have b4:=hB0.trans (b3.mono hB0.size);refine (z7q (h.below b3) (zO hb b3.size) zU y9Z exKP 0 (y8A y) (fun r c hr hc=>(b4.cell (p:=⟨2,4 * r+c,none⟩) hRl).trans (hR r c hr hc)) (zP hRl b4.size)).mono ?_;rintro e u2 ⟨rfl,ln',t,hG⟩;obtain ⟨g,cap,e1,hg,-,-,hrow,hcB,-⟩:=hG.is.open zU;subst e1;have hr0:=hrow u2 rfl 0 zU 0 _ rfl;have e0:updL tw 0 t 0=t:=z0z _ _ _;rw [e0] at hr0;have b5:=(b3.mono hb).trans hG.low;exact ⟨rfl,g,cap,t.l,hcB,by simpa [ptrV] using hr0,zZ (y6W hG.is hT (hB0.trans (hw0 ▸ b5)) hw0 b5 e0 hG.tx hG.tp hG.ts)⟩
 clear h hT hR hRl hB0 hw0 hb;unfold ptrV at *
 go_enter func18,ntmps18
 go_wp2_with (first
  | (go_at_call 40;refine (y0j _).mono ?_;rintro e u1 ⟨rfl,hb1⟩;have HB1:=zZ hb1;have HX1:=zZ (Bx.new u1 #[O I 0,O I 0,O I 0,O I 0,O I 0,O I 0,O I 0,O I 0] 23);clear hb1)
  | (refine z0a rfl _ _ 23 rfl u1.heap.size 23 _ _ rfl rfl HX1.out z8q rfl rfl ?_;generalize hy1:(u1.alloc (.cells #[O I 0,O I 0,O I 0,O I 0,O I 0,O I 0,O I 0,O I 0] 23)).setRow u1.heap.size #[O I 1,O I 4,O I 2,O I 8,O I 1,O I 2,O I 2,O I 1]=y1;obtain ⟨d1,d2⟩:=HCF.out u1 HB1.out y1 hy1;have HD:=zZ d2;have HBG:=zZ (HBEG.out y1 d1);clear hy1 d1 d2 HCF HBEG HB1 HX1)
  | (refine z0h rfl _ 23 rfl u1.heap.size 23 _ (0,0) _ rfl HD.out underlying23 rfl z8q ?_;clear HD)
  | (go_at_call 41;refine HBG.out.mono ?_;rintro e u2 ⟨rfl,g,cap,l,z0,z1,HA⟩;clear HBG)
  | (go_at_call 42;refine HA.out.mono ?_;rintro e u3 ⟨g3,o3,c3,rfl,z2,z3,HT⟩;clear HA)
  | (go_at_call 43;refine HT.out.mono ?_;rintro e u4 ⟨rfl,HP⟩;clear HT)
  | (go_at_call 19;refine HP.out.mono ?_;rintro e u5 ⟨rfl,HY⟩;clear HP)
  | (go_at_call 25;refine HY.out.mono ?_;rintro e u6 ⟨st,rfl,hst,h6⟩;have HF:=zZ h6;clear HY h6))
 go_ret;exact ⟨z0G (by simp),HF.out⟩
def tw0 (_:Nat):Tw:=⟨⟨0,0,0,0,0⟩,⟨0,0,0,0,0,0,0,0,0,0,0,0,0,0,fun _=>0,0,0,fun _=>none,fun _=>0,fun _=>0,0⟩,⟨0,0,0,0,0,0,fun _ _=>0⟩,fun _=>False,0,Lst.init,⟨0,0,0,0,0,.slice none 0 0⟩,Tab.init⟩
theorem y6X (w:World):LwI w.heap.size w.heap.size (·=w.heap.size) (.slice none 0 0) 0 0 tw0 (w.alloc (.cells #[.slice none 0 0,.slice none 0 0,.slice none 0 0,O I 0] 51)):=by
 have hx:Bx (w.alloc (.cells #[.slice none 0 0,.slice none 0 0,.slice none 0 0,O I 0] 51)) w.heap.size 51 #[.slice none 0 0,.slice none 0 0,.slice none 0 0,O I 0]:=Bx.new w _ _;refine ⟨⟨.slice none 0 0,.slice none 0 0,0,0,[],[],⟨hx,rfl,World.ownsRow_nil _ _ _ _,World.ownsRow_nil _ _ _ _,fun g hg=>(by cases hg),fun g hg=>(by cases hg),fun i hi=>absurd hi (Nat.not_lt_zero i),fun i hi=>absurd hi (Nat.not_lt_zero i),Nat.le_refl _,fun k hk=>?_⟩⟩,World.ownsRow_nil _ _ _ _,fun i hi=>absurd hi (Nat.not_lt_zero i),fun i j hi=>absurd hi (Nat.not_lt_zero i),fun i hi=>absurd hi (Nat.not_lt_zero i),fun g hg=>(by cases hg),fun k hk=>Nat.le_of_eq hk.symm⟩;rw [show k=w.heap.size from hk];exact hx.lt
theorem Opv.range {w:World} {g p:Nat} {o:Opv} (h:w.rangeAt g p o.arr.toList):w.cell? ⟨g,p,none⟩=some (O I o.kd):=h 0 _ rfl
set_option maxHeartbeats 2000000 in
theorem y6Y (a:Option Addr) (n cap:Nat) (ops:Nat->Opv) (w:World) (hn:n<=1048576) (hc:∀ i,i < n->∃ g o,a=some ⟨g,o,none⟩/\g < w.heap.size/\w.rangeAt g (o+i * 15) (ops i).arr.toList) (hok:∀ i,i < n->OpOk w (ops i)) (hT:TabsF w) (hR:z1v w 2) (hRl:2 < w.heap.size) :
 Calls prog 4 #[.slice a n cap] w fun e w'=>e=.returned (.bool true)/\Below w.heap.size w w':=by
 have bS:Below w.heap.size w (w.alloc (.cells #[.slice none 0 0,.slice none 0 0,.slice none 0 0,O I 0] 51)):=zX.alloc zY _;have HAW:=zZ (y5E (w0:=w) (y6X w) hT hR hRl bS rfl);have HST:Hid (∀ u,y3n w.heap.size w.heap.size (w.alloc (.cells #[.slice none 0 0,.slice none 0 0,.slice none 0 0,O I 0] 51)) u->∃ S ln K m tw,LwI w.heap.size w.heap.size S ln K m tw u/\K<=4+3 * 0/\m<=1+0/\Below w.heap.size w u):=fun u hu=>by
  obtain ⟨S,ln,tw,K,m,h1,h2,h3,h4⟩:=hu;exact ⟨S,ln,K,m,tw,h1,zU,zU,bS.trans h4⟩
 have HPL:Hid (∀ q u,q < n->12<=(ops q).kd->(∃ S ln K m tw,LwI w.heap.size w.heap.size S ln K m tw u/\K<=4+3 * q/\m<=1+q/\Below w.heap.size w u)->Calls prog 19 #[.pointer (some ⟨w.heap.size,0,none⟩),.agg (ops q).arr] u fun e u2=>e=.returned (.bool true)/\∃ S ln K m tw,LwI w.heap.size w.heap.size S ln K m tw u2/\K<=4+3 * (q+1)/\m<=1+(q+1)/\Below w.heap.size w u2):=fun q u hq hk ⟨S,ln,K,m,tw,h1,h2,h3,h4⟩=>by
  refine (y6U h1 w hT hR hRl h4 rfl (ops q) (hok q hq) hk zU zU).mono ?_;rintro e u2 ⟨rfl,S',ln',tw',K',m',k1,k2,k3,k4⟩;exact ⟨rfl,S',ln',K',m',tw',k1,zU,zU,h4.trans k4⟩
 have HC:=zZ hc;clear hT hR hRl hok bS hc
 go_enter func4,ntmps4
 go_wp2_with (go_at_call 18;refine HAW.out.mono ?_;rintro e u ⟨rfl,hA⟩;have HI:=zZ (HST.out u hA);clear hA HAW HST)
 go_loopw [4,5] (fun ok i wr=>∃ q:Nat,q<=n/\ok=.bool true/\i=O I q/\Hid (∃ S ln K m tw,LwI w.heap.size w.heap.size S ln K m tw wr/\K<=4+3 * q/\m<=1+q/\Below w.heap.size w wr)) (fun _ i _=>n - (intOf i).toNat)
 case atStart=>exact ⟨0,zJ _,rfl,rfl,HI.out⟩
 case round =>
  obtain ⟨q,hq,rfl,rfl,HG⟩:=hrel
  by_cases hlt:q < n
  . obtain ⟨g,o,e1,hg,hr⟩:=HC.out q hlt
    subst e1;have hb:=HG.out;obtain ⟨-,-,-,-,-,-,-,-,hbw⟩:=hb;have HR:Hid (wr.rangeAt g (o+q * 15) (ops q).arr.toList):=fun j v hv=>(hbw.cell (p:=⟨g,o+q * 15+j,none⟩) hg).trans (hr j v hv)
    have hk0:=Opv.range HR.out;have hil:(q:Int) < (n:Int):=zU
    have HPQ:=zZ (HPL.out q wr hlt);have HGN:Hid (∃ S ln K m tw,LwI w.heap.size w.heap.size S ln K m tw wr/\K<=4+3 * (q+1)/\m<=1+(q+1)/\Below w.heap.size w wr):=by
     obtain ⟨S,ln,K,m,tw,h1,h2,h3,h4⟩:=HG.out;exact ⟨S,ln,K,m,tw,h1,zU,zU,h4⟩
    clear hr hbw hg HPL
    by_cases hk:12<=(ops q).kd
    . have HP2:=zZ (HPQ.out hk HG.out)
      have kd1:decide (12<=(ops q).kd)=true:=zL hk;clear HPQ;generalize hkd:(ops q).kd=kd at hk0 hk kd1;clear hkd
      go_wp2_with (first
       | (refine wpList_load_mid rfl 54 _ rfl g (o+q * 15) rfl _ _ HR.out underlying54 rfl y5B ?_)
       | (go_at_call 19;refine HP2.out.mono ?_;rintro e u2 ⟨rfl,h5⟩;have HN:=zZ h5;clear h5 HP2))
      go_roundw
      case rel=>exact ⟨q+1,zU,rfl,zS,HN.out⟩
      case measure=>simp [intOf];omega
    . have kd1:decide (12<=(ops q).kd)=false:=zM hk
      clear HPQ;generalize hkd:(ops q).kd=kd at hk0 hk kd1;clear hkd;go_wp2
      go_roundw
      case rel=>exact ⟨q+1,zU,rfl,zS,HGN.out⟩
      case measure=>simp [intOf];omega
  . have e:q=n:=zU
    have hil:¬ ((q:Int) < (n:Int)):=zU
    go_wp2;go_ret;obtain ⟨S,ln,K,m,tw,-,-,-,h4⟩:=HG.out;exact ⟨rfl,h4⟩
end Go.Proofs.YtlncjgnomhpjnabGreatDoor
