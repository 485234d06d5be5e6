import Derived.Test.YtlncjgnomhpjnabGreatDoorQL48
set_option maxRecDepth 100000
namespace Go.Proofs.YtlncjgnomhpjnabGreatDoor
open Go.Value renaming int → O
open Go.IntKind renaming i64 → I
open Go.Proofs.Tryz
open Go.RowKit Go.Deep
set_option linter.unusedVariables false
set_option maxHeartbeats 2000000 in
theorem y5n {ch d B c3 c4 c5 c6 c7 S g c:Nat} {A:Nat->Option Addr} {C:Nat->Nat} {G:Nat->Nat->Int} (u:World) (h:CfgK ch d B c3 c4 c5 c6 c7) (hk:KP d ch B c3 c4 S G) (fail:Int)
 (hA:ListsAt u (some ⟨g,0,none⟩) ch A (fun _=>S) C) (hI:∀ i,i < ch->IntsAt u (A i) S (G i)) (hlow:Low u.heap.size (some ⟨g,0,none⟩) ch A (fun _=>S)) (hz:∀ i,i < ch->A i=none->S=0/\C i=0) :
 Calls prog 21 #[.agg #[O I ch,O I d,O I B,O I c3,O I c4,O I c5,O I c6,O I c7],.slice (some ⟨g,0,none⟩) ch c,O I fail] u fun e u'=>∃ l a F,e=.returned (.tuple #[ptrV l,O I 0])/\Made ⟨nBlk S B,c5,c6,c7,fail⟩ ⟨ch,d,B,c3,c4,S,G⟩ u.heap.size l u' a F/\Below u.heap.size u u':=by
 have hch1:=h.ch1;have h2:g < u.heap.size:=hlow.1 _ rfl (by omega:0 < ch);have h3:∀ i,i < ch->u.cell? ⟨g,i,none⟩=some (.slice (A i) S (C i)):=fun i hi=>by
  obtain ⟨b,off,e,hc⟩:=hA.open zU;cases e;have:=hc i hi
  rwa [Nat.zero_add] at this
 have hB0:Below u.heap.size u (u.alloc (.cells #[O I ch,O I d,O I B,O I c3,O I c4,O I c5,O I c6,O I c7] 23)):=zX.alloc zY _;have HX:=zZ (Bx.new u #[O I ch,O I d,O I B,O I c3,O I c4,O I c5,O I c6,O I c7] 23);have lowU:∀ v,Below u.heap.size u v->Low v.heap.size (some ⟨g,0,none⟩) ch A (fun _=>S):=fun v hv=>⟨fun x hx h0=>zP (hlow.1 x hx h0) hv.size,fun i hi x hx h0=>zP (hlow.2 i hi x hx h0) hv.size⟩
 have hb4:=h.ch4;have hS3:=hk.S3;have hchk:=(y5i (y1N h hk)).2;have HCK:Hid (Calls prog 33 #[.agg #[O I ch,O I d,O I B,O I c3,O I c4,O I c5,O I c6,O I c7],.slice (some ⟨g,0,none⟩) ch c] (u.alloc (.cells #[O I ch,O I d,O I B,O I c3,O I c4,O I c5,O I c6,O I c7] 23)) fun e w'=>e=.returned (O I 0)/\Below (u.alloc (.cells #[O I ch,O I d,O I B,O I c3,O I c4,O I c5,O I c6,O I c7] 23)).heap.size (u.alloc (.cells #[O I ch,O I d,O I B,O I c3,O I c4,O I c5,O I c6,O I c7] 23)) w'):=by
  have:=z4x ch d B c3 c4 c5 c6 c7 _ ch c A (fun _=>S) C G _ zU (fun i hi=>zU) (hA.below hB0 hlow.1) (fun i hi=>(hI i hi).below hB0 (hlow.2 i hi)) (lowU _ hB0);rw [hchk] at this;exact this
 have HNW:Hid (∀ v,Below u.heap.size u v->Calls prog 48 #[.agg #[O I ch,O I d,O I B,O I c3,O I c4,O I c5,O I c6,O I c7],.slice (some ⟨g,0,none⟩) ch c,O I fail] v fun e w'=>∃ a:Lad,e=.returned (ptrV a.lb)/\LineIs ⟨nBlk S B,c5,c6,c7,fail⟩ a ⟨ch,d,B,c3,c4,S,G⟩ (fun k=>v.heap.size<=k/\k < w'.heap.size) Lst.init w'/\Below v.heap.size v w'):=fun v hv =>
  y8s ⟨nBlk S B,c5,c6,c7,fail⟩ ⟨ch,d,B,c3,c4,S,G⟩ g c A C v hk h.c51 h.c58 h.c616 h.c78 rfl (fun i hi=>(z2f (hv.block g h2)).trans (h3 i hi)) (fun i hi=>(hI i hi).below hv (hlow.2 i hi)) (fun i hi y hy h0=>(lowU v hv).2 i hi y hy h0) hz
 have HMD:Hid (∀ (v:World) (a:Lad) (w':World),Below u.heap.size u v->LineIs ⟨nBlk S B,c5,c6,c7,fail⟩ a ⟨ch,d,B,c3,c4,S,G⟩ (fun k=>v.heap.size<=k/\k < w'.heap.size) Lst.init w'->Below v.heap.size v w'->∃ F,Made ⟨nBlk S B,c5,c6,c7,fail⟩ ⟨ch,d,B,c3,c4,S,G⟩ u.heap.size w'.heap.size (w'.alloc (.cells #[.pointer (some ⟨a.lb,0,none⟩)] 94)) a F/\Below u.heap.size u (w'.alloc (.cells #[.pointer (some ⟨a.lb,0,none⟩)] 94))):=fun v a w' hv hL hb=>by
  have ba:Below w'.heap.size w' (w'.alloc (.cells #[.pointer (some ⟨a.lb,0,none⟩)] 94)):=zX.alloc zY _;have huv:=hv.size;have hvw:=hb.size;exact ⟨_,⟨⟨hL.keep (fun k hk=>ba.block k (hL.lt k hk)) ba.size,LInv.init h.c51 h.c71 h.c61,Bx.new w' _ _,fun hh=>Nat.lt_irrefl _ hh.2⟩,fun k hk=>zO huv hk.1,zO huv hvw⟩,hv.trans ((hb.mono huv).trans (ba.mono (zO huv hvw)))⟩
 have HK:Hid (∀ v,Below (u.alloc (.cells #[O I ch,O I d,O I B,O I c3,O I c4,O I c5,O I c6,O I c7] 23)).heap.size (u.alloc (.cells #[O I ch,O I d,O I B,O I c3,O I c4,O I c5,O I c6,O I c7] 23)) v->Below u.heap.size u v/\Bx v u.heap.size 23 #[O I ch,O I d,O I B,O I c3,O I c4,O I c5,O I c6,O I c7]):=fun v hv=>⟨hB0.trans (hv.mono (by simp)),HX.out.below hv⟩
 have x0:=HX.out.cell 0;have x1:=HX.out.cell 1;have x2:=HX.out.cell 2;have x3:=HX.out.cell 3;have x4:=HX.out.cell 4;have x5:=HX.out.cell 5;have x6:=HX.out.cell 6;have x7:=HX.out.cell 7;simp at x0 x1 x2 x3 x4 x5 x6 x7;clear h hk h2 h3 hB0 hb4 hS3 hchk HX hA hI hlow hz lowU hch1;unfold ptrV at *
 go_enter func21,ntmps21
 go_wp2_with (first
  | (go_at_call 33;refine HCK.out.mono ?_;rintro e v ⟨rfl,hb⟩;obtain ⟨hbv,hbx⟩:=HK.out v hb;have y0:=hbx.cell 0;have y1:=hbx.cell 1;have y2:=hbx.cell 2;have y3:=hbx.cell 3;have y4:=hbx.cell 4;have y5:=hbx.cell 5;have y6:=hbx.cell 6;have y7:=hbx.cell 7;simp at y0 y1 y2 y3 y4 y5 y6 y7;have HBV:=zZ hbv;have HN1:=zZ (HNW.out v hbv);clear hb hbv hbx HCK)
  | (go_at_call 48;refine HN1.out.mono ?_;rintro e w' ⟨a,rfl,hL,hb⟩;obtain ⟨F,hM⟩:=HMD.out v a w' HBV.out hL hb;have HM:=zZ hM;clear hL hb hM HN1))
 go_ret2;exact ⟨_,a,F,rfl,HM.out⟩
theorem y5o {c0 c1 c2 c3 c4 c5 c6 c7:Int} {n:Nat} {L:Nat->Nat} {F:Nat->Nat->Int} (h:z6I c0 c1 c2 c3 c4 c5 c6 c7 n L F) :
 ∃ d B k3 k4 k5 k6 k7:Nat,c0=(n:Int)/\c1=(d:Int)/\c2=(B:Int)/\c3=(k3:Int)/\c4=(k4:Int)/\c5=(k5:Int)/\c6=(k6:Int)/\c7=(k7:Int)/\CfgK n d B k3 k4 k5 k6 k7/\KP d n B k3 k4 (L 0) F/\∀ i,i < n->L i=L 0:=by
 obtain ⟨hr,hc,hl,hf⟩:=h;simp only [z2r,Bool.and_eq_true,z0J] at hr;have hn:c0=(n:Int):=zU
 have h0:z0x (L 0:Int) 0 300=true:=hl;rw [z0J] at h0;refine ⟨c1.toNat,c2.toNat,c3.toNat,c4.toNat,c5.toNat,c6.toNat,c7.toNat,hn,zU,zU,zU,zU,zU,zU,zU,⟨zU,zU,zU,zU,zU,zU,zU,zU,zU,zU,zU,zU,zU,zU⟩,⟨zU,zU,zU,zU,zU,zU,zU,zU,zU,fun i hi j hj=>?_⟩,fun i hi=>(hf i hi).1⟩;exact (hf i hi).2 j (by rw [(hf i hi).1];exact hj)
theorem y5p (c0 c1 c2 c3 c4 c5 c6 c7 fail:Int) (a:Option Addr) (n cap:Nat) (A:Nat->Option Addr) (L C:Nat->Nat) (F:Nat->Nat->Int) (w:World) (hn:n<=17592186044416) (hL:∀ i,i < n->L i<=17592186044416)
 (hA:ListsAt w a n A L C) (hI:∀ i,i < n->IntsAt w (A i) (L i) (F i)) (hlow:Low w.heap.size a n A L) (hno:¬ z6I c0 c1 c2 c3 c4 c5 c6 c7 n L F) :
 Calls prog 21 #[.agg #[O I c0,O I c1,O I c2,O I c3,O I c4,O I c5,O I c6,O I c7],.slice a n cap,O I fail] w fun e w'=>e=.returned (.tuple #[.pointer none,O I (encE c0 c1 c2 c3 c4 c5 c6 c7 n L F)])/\Below w.heap.size w w':=by
 have hB0:Below w.heap.size w (w.alloc (.cells #[O I c0,O I c1,O I c2,O I c3,O I c4,O I c5,O I c6,O I c7] 23)):=zX.alloc zY _;have HCK:=zZ (z4x c0 c1 c2 c3 c4 c5 c6 c7 a n cap A L C F _ hn hL (hA.below hB0 hlow.1) (fun i hi=>(hI i hi).below hB0 (hlow.2 i hi)) ⟨fun x hx h0=>zP (hlow.1 x hx h0) hB0.size,fun i hi x hx h0=>zP (hlow.2 i hi x hx h0) hB0.size⟩);have HB0:=zZ hB0;have he:=y9p hno;generalize encE c0 c1 c2 c3 c4 c5 c6 c7 n L F=ev at *;have b1:(ev != 0)=true:=by simp;omega
 clear hA hI hlow hL hno he hB0
 go_enter func21,ntmps21
 go_wp2_with (go_at_call 33;refine HCK.out.mono ?_;rintro e v ⟨rfl,hb⟩;have HBV:=zZ (HB0.out.trans (hb.mono HB0.out.size));clear hb HCK)
 go_ret2;exact ⟨rfl,HBV.out⟩
theorem y5q (c0 c1 c2 c3 c4 c5 c6 c7 fail:Int) (a:Option Addr) (n cap:Nat) (A:Nat->Option Addr) (L C:Nat->Nat) (F:Nat->Nat->Int) (w:World) (hn:n<=17592186044416) (hL:∀ i,i < n->L i<=17592186044416)
 (hA:ListsAt w a n A L C) (hI:∀ i,i < n->IntsAt w (A i) (L i) (F i)) (hlow:Low w.heap.size a n A L) (hno:¬ z6I c0 c1 c2 c3 c4 c5 c6 c7 n L F) :
 Calls prog 75 #[.agg #[O I c0,O I c1,O I c2,O I c3,O I c4,O I c5,O I c6,O I c7],.slice a n cap,O I fail] w fun e w'=>e=.returned (.tuple #[.pointer none,O I (encE c0 c1 c2 c3 c4 c5 c6 c7 n L F)])/\Below w.heap.size w w':=by
 have hB0:Below w.heap.size w (w.alloc (.cells #[O I c0,O I c1,O I c2,O I c3,O I c4,O I c5,O I c6,O I c7] 23)):=zX.alloc zY _;have HCK:=zZ (z7p c0 c1 c2 c3 c4 c5 c6 c7 a n cap A L C F _ hn hL (hA.below hB0 hlow.1) (fun i hi=>(hI i hi).below hB0 (hlow.2 i hi)) ⟨fun x hx h0=>zP (hlow.1 x hx h0) hB0.size,fun i hi x hx h0=>zP (hlow.2 i hi x hx h0) hB0.size⟩);have HB0:=zZ hB0;have he:=y9p hno;generalize encE c0 c1 c2 c3 c4 c5 c6 c7 n L F=ev at *;have b1:(ev != 0)=true:=by simp;omega
 clear hA hI hlow hL hno he hB0
 go_enter func75,ntmps75
 go_wp2_with (go_at_call 141;refine HCK.out.mono ?_;rintro e v ⟨rfl,hb⟩;have HBV:=zZ (HB0.out.trans (hb.mono HB0.out.size));clear hb HCK)
 go_ret2;exact ⟨rfl,HBV.out⟩
section
variable {p:Lpar} {a:Lad} {x:Lsn} {F:Nat->Prop} {l:Nat} {s:Lst} {w:World}
theorem y3g (h:RLine p a x F l s w) (h2:s.e2=false) (hs:s.stopped=true) :
 Calls prog 54 #[ptrV l] w fun e w'=>e=.returned (O I 9)/\Below w.heap.size w w':=by
 have HO:=zZ (z3f h.line h.inv);rw [h2] at HO;have HS:Hid (∀ u,Below w.heap.size w u->u.cell? ⟨l,0,none⟩=some (.pointer (some ⟨a.lb,0,none⟩))/\Calls prog 114 #[ptrV a.lb] u fun e w'=>e=.returned (.bool true)/\w'=u):=fun u hu=>by
  have:=z6q (h.keep hu).line;rw [hs] at this;exact ⟨(h.keep hu).ptr.cell 0,this⟩
 have y0:=h.ptr.cell 0;simp [ptrV] at y0;clear h;unfold ptrV at *
 go_enter func54,ntmps54
 go_wp2_with (first
  | (go_at_call 104;refine HO.out.mono ?_;rintro e u ⟨rfl,hb⟩;have HB:=zZ hb;have z0:=(HS.out u hb).1;have HS1:=zZ (HS.out u hb).2;clear hb HO HS)
  | (go_at_call 114;refine HS1.out.mono ?_;rintro e u2 ⟨rfl,hu⟩;subst u2;clear HS1))
 go_ret;exact ⟨rfl,HB.out⟩
theorem y0S (h:RLine p a x F l s w) (h2:s.e2=false) (hs:s.stopped=false) :
 Calls prog 54 #[ptrV l] w fun e w'=>e=.returned (O I 0)/\RLine p a x F l s.halt w'/\Edit F w w':=by
 have HO:=zZ (z3f h.line h.inv);rw [h2] at HO;have HS:Hid (∀ u,Below w.heap.size w u->u.cell? ⟨l,0,none⟩=some (.pointer (some ⟨a.lb,0,none⟩))/\(Calls prog 114 #[ptrV a.lb] u fun e w'=>e=.returned (.bool false)/\w'=u)/\Calls prog 115 #[ptrV a.lb] u fun e w'=>e=.returned (.tuple #[])/\RLine p a x F l s.halt w'/\Edit F w w'):=fun u hu=>by
  have:=z6q (h.keep hu).line;rw [hs] at this;refine ⟨(h.keep hu).ptr.cell 0,this,(z8o (h.keep hu).line).mono ?_⟩;rintro e w' ⟨rfl,hL,hE⟩;exact ⟨rfl,⟨hL,h.inv.halt h2,(h.keep hu).ptr.edit hE h.far,h.far⟩,(Edit.of hu).trans hE⟩
 have y0:=h.ptr.cell 0;simp [ptrV] at y0;clear h;unfold ptrV at *
 go_enter func54,ntmps54
 go_wp2_with (first
  | (go_at_call 104;refine HO.out.mono ?_;rintro e u ⟨rfl,hb⟩;have z0:=(HS.out u hb).1;have HS1:=zZ (HS.out u hb).2;clear hb HO HS)
  | (go_at_call 114;refine HS1.out.1.mono ?_;rintro e u2 ⟨rfl,hu⟩;subst u2;have HS2:=zZ HS1.out.2;clear HS1)
  | (go_at_call 115;refine HS2.out.mono ?_;rintro e u3 ⟨rfl,hz⟩;have HZ:=zZ hz;clear hz HS2))
 go_ret;exact ⟨rfl,HZ.out⟩
end
structure Tw where
 p:Lpar
 a:Lad
 x:Lsn
 F:Nat->Prop
 l:Nat
 s:Lst
 r:Rad
 b:Tab
def Tw.two (t:Tw) (k:Nat):Prop:=t.r.own k∨t.r.fv.ownBlock=some k
def Tw.foot (t:Tw) (k:Nat):Prop:=t.F k∨k=t.l∨t.two k
structure TwIs (t:Tw) (w:World):Prop where
 one:RLine t.p t.a t.x t.F t.l t.s w
 raw:RawIs t.p t.x t.r (z0i t.s t.b) w
 rel:Rel t.p t.s t.b
 sep:∀ k,t.two k->¬ t.F k/\k ≠ t.l
theorem RLine.edit {p:Lpar} {a:Lad} {x:Lsn} {F S:Nat->Prop} {l:Nat} {s:Lst} {w u:World} (h:RLine p a x F l s w) (he:Edit S w u) (h1:∀ k,F k->¬ S k) (h2:¬ S l):RLine p a x F l s u :=
 ⟨h.line.keep (fun k hk=>he.block k (h.line.lt k hk) (h1 k hk)) he.size,h.inv,h.ptr.edit he h2,h.far⟩
theorem TwIs.edit {t:Tw} {S:Nat->Prop} {w u:World} (h:TwIs t w) (he:Edit S w u) (hS:∀ k,t.foot k->¬ S k):TwIs t u :=
 ⟨h.one.edit he (fun k hk=>hS k (Or.inl hk)) (hS _ (Or.inr (Or.inl rfl))),h.raw.edit he (fun k hk=>hS k (Or.inr (Or.inr (Or.inl hk)))) (fun g hg=>hS g (Or.inr (Or.inr (Or.inr hg)))),h.rel,h.sep⟩
theorem TwIs.below {t:Tw} {w u:World} (h:TwIs t w) (hu:Below w.heap.size w u):TwIs t u:=h.edit (Edit.of (S:=fun _=>False) hu) fun _ _=>id
theorem TwIs.lt {t:Tw} {w:World} (h:TwIs t w):∀ k,t.foot k->k < w.heap.size:=fun k hk=>by
 rcases hk with hk | hk | hk | hk
 . exact h.one.line.lt k hk
 . rw [hk];exact h.one.ptr.lt
 . simp only [Rad.own] at hk
   rcases hk with hk | hk | hk | hk | hk <;> rw [hk]
   . exact h.raw.cells.lt
   . exact h.raw.ra.lt
   . exact h.raw.ry.lt
   . exact h.raw.rw.lt
   . exact h.raw.re.lt
 . exact z1n h.raw.fr k hk
structure Went (t:Tw) (w:World) (t':Tw) (w':World):Prop where
 is:TwIs t' w'
 ed:Edit t.foot w w'
 grow:∀ k,t'.foot k->t.foot k∨w.heap.size<=k
 ptr:t'.l=t.l/\t'.r=t.r/\t'.p=t.p/\t'.x=t.x
theorem Went.refl {t:Tw} {w:World} (h:TwIs t w):Went t w t w:=⟨h,Edit.refl _ _,fun _ hk=>Or.inl hk,rfl,rfl,rfl,rfl⟩
theorem Went.below {t:Tw} {w u:World} (h:TwIs t w) (hu:Below w.heap.size w u):Went t w t u:=⟨h.below hu,Edit.of hu,fun _ hk=>Or.inl hk,rfl,rfl,rfl,rfl⟩
theorem Went.trans {t t1 t2:Tw} {w w1 w2:World} (h:Went t w t1 w1) (k:Went t1 w1 t2 w2):Went t w t2 w2:=by
 refine ⟨k.is,?_,fun q hq=>?_,k.ptr.1.trans h.ptr.1,k.ptr.2.1.trans h.ptr.2.1,k.ptr.2.2.1.trans h.ptr.2.2.1,k.ptr.2.2.2.trans h.ptr.2.2.2⟩
 . refine ⟨k.ed.os.trans h.ed.os,k.ed.tape.trans h.ed.tape,k.ed.output.trans h.ed.output,zO h.ed.size k.ed.size,fun q hq hs=>?_⟩
   refine (k.ed.block q (zP hq h.ed.size) fun hc=>?_).trans (h.ed.block q hq hs);rcases h.grow q hc with h1 | h1
   . exact hs h1
   . omega
 . rcases k.grow q hq with h1 | h1
   . exact h.grow q h1
   . exact Or.inr (zO h.ed.size h1)
theorem Went.low {t t':Tw} {w w':World} {B:Nat} (h:Went t w t' w') (hB:∀ k,t.foot k->B<=k) (hw:B<=w.heap.size):Below B w w'/\∀ k,t'.foot k->B<=k :=
 ⟨h.ed.below hw hB,fun k hk=>(h.grow k hk).elim (hB k) fun h1=>zO hw h1⟩
theorem y9r {t:Tw} {w w1 w2:World} {c c':LAct} {a':Lad} {F':Nat->Prop} {n:Nat} (h:TwIs t w) (hn:n < 3+t.p.W) (hc:t.s.next t.p n=some c) (hO:Own t.F F' w) (hL:RLine t.p a' t.x F' t.l (t.s.act t.p c) w1) (he:Edit t.F w w1) (hc':t.s.next t.p n=some c') (hR:RawIs t.p t.x t.r (z0i (t.s.act t.p c') (t.b.step t.p t.s c')) w2) (he2:Edit t.r.own w1 w2) :
 Went t w ⟨t.p,a',t.x,F',t.l,t.s.act t.p c,t.r,t.b.step t.p t.s c⟩ w2:=by
 rw [hc] at hc';cases hc';have hsep:∀ k,t.two k->¬ F' k/\k ≠ t.l:=fun k hk=>⟨fun hf=>by
  rcases hO.2 k hf with h1 | h1
  . exact (h.sep k hk).1 h1
  . have:=h.lt k (Or.inr (Or.inr hk));omega,(h.sep k hk).2⟩
 refine ⟨⟨hL.edit he2 (fun k hk hc=>(hsep k (Or.inl hc)).1 hk) (fun hc=>(hsep _ (Or.inl hc)).2 rfl),hR,h.rel.step h.one.inv hn hc,hsep⟩,(he.mono fun k hk=>Or.inl hk).trans (he2.mono fun k hk=>Or.inr (Or.inr (Or.inl hk))),fun k hk=>?_,rfl,rfl,rfl,rfl⟩;rcases hk with hk | hk | hk
 . exact (hO.2 k hk).imp Or.inl id
 . exact Or.inl (Or.inr (Or.inl hk))
 . exact Or.inl (Or.inr (Or.inr hk))
theorem y5r (e:Int) (w:World):Calls prog 77 #[O I e] w fun r w'=>r=.returned (O I e)/\w'=w:=by
 go_enter func77,ntmps77
 go_wp2;go_ret;exact ⟨rfl,rfl⟩
theorem y5s {p:Lpar} {a:Lad} {x:Lsn} {F:Nat->Prop} {l:Nat} {s:Lst} {w:World} (h:RLine p a x F l s w) (k:Int) (h2:s.e2=false) (hk:k < 0) :
 Calls prog 51 #[ptrV l,O I k] w fun e w'=>e=.returned (.tuple #[O I 0,O I 3])/\Below w.heap.size w w':=by
 have HO:=zZ (z3f h.line h.inv);rw [h2] at HO;have y0:=h.ptr.cell 0;have k0:decide (k < 0)=true:=zL hk;simp [ptrV] at y0;clear h;unfold ptrV at *
 go_enter func51,ntmps51
 go_wp2_with (go_at_call 104;refine HO.out.mono ?_;rintro e u ⟨rfl,hb⟩;have HB:=zZ hb;clear hb HO)
 go_ret2;exact ⟨rfl,HB.out⟩
theorem addB (y:Addr) (i:Nat):(y.add i).block=y.block:=by cases y;cases i <;> simp [Addr.add] <;> split <;> rfl
def goS (p:Lpar) (s:Lst) (k:Int):Lst:=if s.e2=true∨k < 0 then s else match s.next p (z1b p s k.toNat) with
 | some c=>s.act p c
 | none=>s
def goN (p:Lpar) (pk:Nat->Int):Nat->Lst->Lst
 | 0,s=>s
 | q+1,s=>goS p (goN p pk q s) (pk q)
theorem y6S {t:Tw} {w:World} (h:TwIs t w) (hT:TabsF w) (k:Int) (hk:k<=9223372036854775807):∃ (n e:Int) (RS:World->Prop),Calls prog 51 #[ptrV t.l,O I k] w (fun q w'=>q=.returned (.tuple #[O I n,O I e])/\RS w'/\Edit t.foot w w')/\(∀ w',RS w'->RS w'.drew) /\
 ∀ w',RS w'->Calls prog 169 #[ptrV t.r.rb,O I k] w' fun q w2=>q=.returned (.tuple #[O I n,O I e])/\∃ t',Went t w t' w2/\t'.s=goS t.p t.s k:=by
 rcases (zH t.s.e2).symm with h2 | h2
 . by_cases h0:k < 0
   . refine ⟨0,3,fun w'=>Below w.heap.size w w',(y5s h.one k h2 h0).mono ?_,fun w' hb=>hb.drew,fun w' hb=>(y5c (h.below hb).raw h.rel h.one.inv k h2 h0).mono ?_⟩
     . rintro e w' ⟨rfl,hb⟩
       exact ⟨rfl,hb,Edit.of hb⟩
     . rintro e w2 ⟨rfl,hb2⟩
       exact ⟨rfl,t,Went.below h (hb.trans (hb2.mono hb.size)),by rw [goS,if_pos (Or.inr h0)]⟩
   . obtain ⟨m,rfl⟩:∃ m:Nat,k=(m:Int):=⟨k.toNat,zU⟩
     have hne:=h.one.able_ne h2;obtain ⟨-,-,hlt,-⟩:=z3g (k:=m) hne;refine ⟨(z1b t.p t.s m:Nat),0,fun w'=>∃ c a' F',t.s.next t.p (z1b t.p t.s m)=some c/\Own t.F F' w/\RLine t.p a' t.x F' t.l (t.s.act t.p c) w'/\Edit t.F w w',(y4Y h.one hT m hk h2).mono ?_,fun w' hw'=>?_,fun w' hw'=>?_⟩
     . rintro e w' ⟨rfl,c,a',F',h3,-,h4,h5,h6⟩
       exact ⟨rfl,⟨c,a',F',h3,h4,h5,h6⟩,h6.mono fun k hk=>Or.inl hk⟩
     . obtain ⟨c,a',F',h3,h4,h5,h6⟩:=hw'
       exact ⟨c,a',F',h3,h4,h5.keep zX.drew,h6.drewN 1⟩
     . obtain ⟨c,a',F',h3,h4,h5,h6⟩:=hw'
       have hr:=h.raw.edit h6 (fun k hk=>(h.sep k (Or.inl hk)).1) (fun g hg=>(h.sep g (Or.inr hg)).1);refine (y5d hr h.rel h.one.inv m hk h2 hne).mono ?_;rintro e w2 ⟨rfl,c',h7,h8,h9⟩;refine ⟨rfl,_,y9r h hlt h3 h4 h5 h6 h7 h8 h9,?_⟩
       show t.s.act t.p c=goS t.p t.s (m:Int)
       rw [goS,if_neg (by rw [h2];exact fun h8=>h8.elim (fun h8=>by cases h8) fun h8=>zU),Int.toNat_natCast,h3]
 . refine ⟨0,9,fun w'=>Below w.heap.size w w',(y2W h.one k h2).mono ?_,fun w' hb=>hb.drew,fun w' hb=>(y3c (h.below hb).raw h.rel h.one.inv k h2).mono ?_⟩
   . rintro e w' ⟨rfl,hb⟩
     exact ⟨rfl,hb,Edit.of hb⟩
   . rintro e w2 ⟨rfl,hb2⟩
     exact ⟨rfl,t,Went.below h (hb.trans (hb2.mono hb.size)),by rw [goS,if_pos (Or.inl h2)]⟩
set_option maxHeartbeats 1000000 in
theorem y5t {t:Tw} {w w0:World} (h:TwIs t w) (hT:TabsF w0) (hB:Below w0.heap.size w0 w) (hf:∀ k,t.foot k->w0.heap.size<=k) (pa:Option Addr) (m c:Nat) (pk:Nat->Int) (hP:IntsAt w pa m pk) (hPl:∀ y,pa=some y->0 < m->y.block < w.heap.size/\¬ t.foot y.block) (hr:∀ i,i < m->pk i<=9223372036854775807) (hm:m<=9223372036854775807) :
 Calls prog 92 #[.agg #[ptrV t.l,ptrV t.r.rb],.slice pa m c] w fun e w'=>e=.returned (.bool true)/\∃ t',Went t w t' w'/\t'.s=goN t.p pk m t.s:=by
 obtain ⟨W,hW⟩:∃ W,W=w.alloc (.cells #[ptrV t.l,ptrV t.r.rb] 87):=⟨_,rfl⟩;obtain ⟨n0,hn0⟩:∃ n,n=w.heap.size:=⟨_,rfl⟩;have b0:Below w.heap.size w W:=hW ▸ zX.alloc zY _;have hz:W.heap.size=n0+1:=by rw [hW,hn0];simp
 have hx:Bx W n0 87 #[ptrV t.l,ptrV t.r.rb]:=by rw [hW,hn0];exact Bx.new w _ _
 have hBW:Below w0.heap.size w0 W:=hB.trans (b0.mono hB.size);have HX:Hid (∀ t' u,Went t W t' u->Below w0.heap.size w0 u/\Bx u n0 87 #[ptrV t.l,ptrV t.r.rb]/\IntsAt u pa m pk/\TwIs t' u/\TabsF u/\∀ k,t'.foot k->w0.heap.size<=k):=fun t' u hw=>by
  obtain ⟨h1,h2⟩:=hw.low hf hBW.size;have h3:=hBW.trans h1;refine ⟨h3,hx.edit hw.ed (fun hc=>?_),?_,hw.is,hT.below h3,h2⟩
  . have:=h.lt n0 hc;omega
  . have hPW:=hP.below b0 fun y hy h0=>(hPl y hy h0).1
    intro i hi;obtain ⟨y,hy,hc⟩:=hPW i hi;refine ⟨y,hy,?_⟩;have h7:=hPl y hy zU;exact (World.cell?_of_block (hw.ed.block (y.add i).block (by rw [addB];exact zP h7.1 b0.size) (by rw [addB];exact h7.2))).trans hc
 have HW0:=zZ (Went.below h b0);have HR:=zZ hr;have HPL:=zZ hPl;have HZS:Hid (w.heap.size<=W.heap.size):=b0.size;have HNF:Hid (¬ t.foot n0):=fun hc=>by have:=h.lt n0 hc;omega
 have HS:=zZ (Went.refl (h.below b0));clear h hT hB hf hP hPl hr b0 hx hBW;unfold ptrV at *;subst hn0
 go_enter func92,ntmps92
 go_wp2;rw [← hW]
 go_loopw [5,6,7,8,9] (fun s5 _ _ _ _ wr=>∃ q:Nat,q<=m/\s5=O I q/\∃ t',Hid (Went t W t' wr)/\Hid (t'.s=goN t.p pk q t.s)) (fun s5 _ _ _ _ _=>m - (intOf s5).toNat)
 case atStart=>exact ⟨0,zJ _,rfl,t,HS,zZ (show t.s=goN t.p pk 0 t.s from rfl)⟩
 case round =>
  obtain ⟨q,hq,rfl,t',HG,HGS⟩:=hrel
  by_cases hlt:q < m
  . obtain ⟨f1,f2,f3,f4,f5,f6⟩:=HX.out t' wr HG.out
    obtain ⟨g,o,epa,hcell⟩:=f3.open zU;subst epa;have bd:Below wr.heap.size wr wr.drew:=zX.drew;obtain ⟨n,ev,RS,c1,c2,c3⟩:=y6S (f4.below bd) (f5.below bd) (pk q) (HR.out q hlt);rw [HG.out.ptr.1] at c1;rw [HG.out.ptr.2.1] at c3;have HC1:=zZ c1;have HC2:=zZ c2;have HC3:=zZ c3;have HGD:=zZ (HG.out.trans (Went.below f4 bd));have hnf:¬ t'.foot w.heap.size:=fun hc=>by
     rcases HG.out.grow w.heap.size hc with h1 | h1
     . have:=HS.out.is.lt w.heap.size h1
       exact HNF.out h1
     . omega
    have HSE:Hid (∀ u,Edit t'.foot wr.drew u->u.cell? ⟨w.heap.size,0,none⟩=some (.pointer (some ⟨t.l,0,none⟩))/\u.cell? ⟨w.heap.size,1,none⟩=some (.pointer (some ⟨t.r.rb,0,none⟩))/\u.cell? ⟨g,o+q,none⟩=some (O I (pk q))):=fun u hu=>by
     have fx:Bx wr.drew w.heap.size 87 #[.pointer (some ⟨t.l,0,none⟩),.pointer (some ⟨t.r.rb,0,none⟩)]:=f2;have fy:=fx.edit hu hnf;have hg0:g < w.heap.size/\¬ t.foot g:=HPL.out _ rfl zU;have hgw:g < wr.drew.heap.size:=zP hg0.1 (zO HZS.out HG.out.ed.size);exact ⟨fy.cell 0,fy.cell 1,(World.cell?_of_block (hu.block g hgw fun hc=>by
      rcases HG.out.grow g hc with h8 | h8
      . exact hg0.2 h8
      . have:=HZS.out;omega)).trans (hcell q hlt)⟩
    have hS0:=HSE.out wr.drew (Edit.refl _ _);have hil:(q:Int) < (m:Int):=zU
    clear f1 f2 f3 f4 f5 f6 hcell bd c1 c2 c3 hnf HX HR;go_wp2_with fail
    go_region_held3 (fun w'=>w'.cell? ⟨w.heap.size,0,none⟩=some (.pointer (some ⟨t.l,0,none⟩))/\w'.cell? ⟨w.heap.size,1,none⟩=some (.pointer (some ⟨t.r.rb,0,none⟩))/\w'.cell? ⟨g,o+q,none⟩=some (O I (pk q))) (first | with_reducible exact hS0 | with_reducible exact hS1)
     (first | (go_at_call 51;refine HC1.out.mono ?_;rintro e u1 ⟨rfl,h1,h2⟩;have hS1:=HSE.out u1 h2;have hS2:=HSE.out u1.drew (h2.drewN 1);have HR1:=zZ (HC3.out u1.drew (HC2.out u1 h1));clear h1 h2 HC1 HC2 HC3))
    go_wp2_with fail
    go_region_held3 (fun w'=>w'.cell? ⟨w.heap.size,0,none⟩=some (.pointer (some ⟨t.l,0,none⟩))/\w'.cell? ⟨w.heap.size,1,none⟩=some (.pointer (some ⟨t.r.rb,0,none⟩))/\w'.cell? ⟨g,o+q,none⟩=some (O I (pk q))) (first | with_reducible exact hS2 | with_reducible exact hS3)
     (first | (go_at_call 169;refine HR1.out.mono ?_;rintro e u2 ⟨rfl,t2,h3,h3s⟩;have hS3:=HSE.out u2 h3.ed;have HT2:=zZ (HGD.out.trans h3);have HT3:=zZ (show t2.s=goN t.p pk (q+1) t.s from h3s.trans (by rw [HG.out.ptr.2.2.1,HGS.out];rfl));clear h3 h3s HR1))
    go_wp2_with (go_at_call 77;refine (y5r _ _).mono ?_;rintro e u3 ⟨rfl,hu3⟩;subst u3)
    go_roundw
    case rel=>exact ⟨q+1,zU,zS,t2,HT2,HT3⟩
    case measure=>simp [intOf];omega
  . have e:q=m:=zU
    have hil:¬ ((q:Int) < (m:Int)):=zU
    go_wp2;go_ret;exact ⟨rfl,t',HW0.out.trans HG.out,e ▸ HGS.out⟩
set_option maxHeartbeats 1000000 in
theorem z4y (a a':Option Addr) (n c c':Nat) (x:Nat->Int) (w:World) (hn:n<=1000000) (h1:IntsAt w a n x) (h2:IntsAt w a' n x) :
 Calls prog 91 #[.slice a n c,.slice a' n c'] w fun e w'=>e=.returned (.bool true)/\∃ m,w'=w.drewN m:=by
 have H1:=zZ h1;have H2:=zZ h2;clear h1 h2
 go_enter func91,ntmps91
 go_wp2
 go_loopw [5] (fun i wr=>∃ k:Nat,k<=n/\i=O I k/\∃ m,wr=w.drewN m) (fun i _=>n - (intOf i).toNat)
 case atStart=>exact ⟨0,zJ _,rfl,0,rfl⟩
 case round =>
  obtain ⟨k,hk,rfl,m,rfl⟩:=hrel
  by_cases hkn:k < n
  . obtain ⟨b1,o1,hx1,hc1⟩:=H1.out.open zU
    obtain ⟨b2,o2,hx2,hc2⟩:=H2.out.open zU;cases hx1;cases hx2;have hd1:=hc1 k hkn;have hd2:=hc2 k hkn;clear hc1 hc2;go_wp2
    go_region
    all_goals go_wp2
    go_roundw
    case rel=>exact ⟨k+1,zU,zS,_,rfl⟩
    case measure=>simp [intOf];omega
  . have e:k=n:=zU
    subst e;go_wp2;go_ret;exact ⟨rfl,_,rfl⟩
theorem z2j {w:World} {base n:Nat} {v:Value} {xs:List Value} {f:Nat->Int} (h:w.ownsRow base 3 1 v n xs) (hx:∀ i,i < n->xs[i]?=some (O I (f i))):∃ A cap,v=.slice A n cap/\IntsAt w A n f:=by
 obtain ⟨A,cap,rfl,hA⟩:=z0j h;refine ⟨A,cap,rfl,fun i hi=>?_⟩;obtain ⟨g,rfl,-,hc⟩:=hA zU;exact ⟨_,rfl,by rw [Addr.add_lit,Nat.zero_add];exact hc i _ (hx i hi)⟩
theorem z4V {l:List Nat} {i:Nat} (hi:i < l.length):(l.map fun (k:Nat)=>Value.int .i64 (k:Int))[i]?=some (O I ((l.getD i 0:Nat):Int)):=by
 simp [List.getD_eq_getElem?_getD,hi]
theorem y1O {s:Lst} {W i:Nat} (hi:i < W):((List.range W).map fun j=>Value.int .i64 (z4w s j))[i]?=some (O I (z4w s i)):=by simp [hi]
set_option maxHeartbeats 1000000 in
theorem z9A {p:Lpar} {s:Lst} {base base':Nat} {v1 v2 v3 y1 y2 y3:Value} (w:World) (h:Seen p s base v1 v2 v3 w) (k:Seen p s base' y1 y2 y3 w) (hW:p.W<=32) (hS:s.shelf.length<=32) (hE:(s.ended p).length<=32) :
 Calls prog 95 #[.agg (z0X s v1 v2 v3),.agg (z0X s y1 y2 y3)] w fun e w'=>e=.returned (.bool true)/\Below w.heap.size w w':=by
 obtain ⟨A1,k1,rfl,a1⟩:=z2j h.held (fun i hi=>y1O hi);obtain ⟨A2,k2,rfl,a2⟩:=z2j h.shelf (fun i hi=>z4V hi);obtain ⟨A3,k3,rfl,a3⟩:=z2j h.ended (fun i hi=>z4V hi);obtain ⟨B1,m1,rfl,b1⟩:=z2j k.held (fun i hi=>y1O hi);obtain ⟨B2,m2,rfl,b2⟩:=z2j k.shelf (fun i hi=>z4V hi);obtain ⟨B3,m3,rfl,b3⟩:=z2j k.ended (fun i hi=>z4V hi);have low:∀ {A:Option Addr} {n:Nat} {f:Nat->Int},IntsAt w A n f->∀ y,A=some y->0 < n->y.block < w.heap.size:=fun {A n f} hI y hy h0=>by
  obtain ⟨z,hz,hc⟩:=hI 0 h0;rw [hy] at hz;cases hz;have:=World.block_lt_of_cell? w _ hc
  rwa [addB] at this
 have HS1:Hid (∀ u,Below w.heap.size w u->Calls prog 91 #[.slice A1 p.W k1,.slice B1 p.W m1] u fun e w'=>e=.returned (.bool true)/\∃ m,w'=u.drewN m):=fun u hu=>z4y A1 B1 p.W k1 m1 _ u zU (a1.below hu (low a1)) (b1.below hu (low b1))
 have HS2:Hid (∀ u,Below w.heap.size w u->Calls prog 91 #[.slice A2 s.shelf.length k2,.slice B2 s.shelf.length m2] u fun e w'=>e=.returned (.bool true)/\∃ m,w'=u.drewN m):=fun u hu=>z4y A2 B2 s.shelf.length k2 m2 _ u zU (a2.below hu (low a2)) (b2.below hu (low b2))
 have HS3:Hid (∀ u,Below w.heap.size w u->Calls prog 91 #[.slice A3 (s.ended p).length k3,.slice B3 (s.ended p).length m3] u fun e w'=>e=.returned (.bool true)/\∃ m,w'=u.drewN m):=fun u hu=>z4y A3 B3 (s.ended p).length k3 m3 _ u zU (a3.below hu (low a3)) (b3.below hu (low b3))
 clear h k low a1 a2 a3 b1 b2 b3;unfold z0X;generalize hc:(#[O I (lstN s),O I s.given,O I s.summed,O I s.wrote,O I s.writes,O I s.jobs.length,O I s.lane.length,O I s.ready.length,.slice A1 p.W k1,.slice A2 s.shelf.length k2,.slice A3 (s.ended p).length k3]:Array Value)=ca;generalize hd:(#[O I (lstN s),O I s.given,O I s.summed,O I s.wrote,O I s.writes,O I s.jobs.length,O I s.lane.length,O I s.ready.length,.slice B1 p.W m1,.slice B2 s.shelf.length m2,.slice B3 (s.ended p).length m3]:Array Value)=cb;have hb:Below w.heap.size w ((w.alloc (.cells ca 64)).alloc (.cells cb 64)):=(zX.alloc zY _).alloc (by simp) _;have ba:=(Bx.new w ca 64).alloc (.cells cb 64);have bb:=Bx.new (w.alloc (.cells ca 64)) cb 64;have hsz:(w.alloc (.cells ca 64)).heap.size=w.heap.size+1:=by simp
 rw [hsz] at bb;obtain ⟨W,hW0⟩:∃ W,(w.alloc (.cells ca 64)).alloc (.cells cb 64)=W:=⟨_,rfl⟩;rw [hW0] at hb ba bb;subst hc hd;have HB:=zZ hb;have HA:=zZ ba;have HBB:=zZ bb;have x0:=ba.cell 0;have x1:=ba.cell 1;have x2:=ba.cell 2;have x3:=ba.cell 3;have x4:=ba.cell 4;have x5:=ba.cell 5;have x6:=ba.cell 6;have x7:=ba.cell 7;have x8:=ba.cell 8;have x9:=ba.cell 9;have xa:=ba.cell 10;have z0:=bb.cell 0;have z1:=bb.cell 1;have z2:=bb.cell 2;have z3:=bb.cell 3;have z4:=bb.cell 4;have z5:=bb.cell 5;have z6:=bb.cell 6;have z7:=bb.cell 7;have z8:=bb.cell 8;have z9:=bb.cell 9;have za:=bb.cell 10;simp at x0 x1 x2 x3 x4 x5 x6 x7 x8 x9 xa z0 z1 z2 z3 z4 z5 z6 z7 z8 z9 za;have HD:Hid (∀ m,Below w.heap.size w (W.drewN m)):=fun m=>z0W HB.out m
 clear hb ba bb hsz HA HBB
 go_enter func95,ntmps95
 go_wp2_with (first
  | (go_at_call 91;refine (HS1.out _ HB.out).mono ?_;rintro e u1 ⟨rfl,q1,rfl⟩;clear HS1)
  | (go_at_call 91;refine (HS2.out _ (HD.out _)).mono ?_;rintro e u2 ⟨rfl,q2,rfl⟩;rw [World.drewN_drewN];clear HS2)
  | (go_at_call 91;refine (HS3.out _ (HD.out _)).mono ?_;rintro e u3 ⟨rfl,q3,rfl⟩;rw [World.drewN_drewN];clear HS3))
 go_ret;exact ⟨rfl,HD.out _⟩
def BkW (w:World) (B:Nat) (ln kv lv:Value) (K:Int):Prop:=w.heap[B]?=some (.cells #[ln,kv,lv,O I K] 51 (0,0))
theorem BkW.cells {w:World} {B:Nat} {ln kv lv:Value} {K:Int} (h:BkW w B ln kv lv K):w.cell? ⟨B,1,none⟩=some kv/\w.cell? ⟨B,2,none⟩=some lv/\w.cell? ⟨B,3,none⟩=some (O I K)/\w.frozen? ⟨B,1,none⟩=false/\w.frozen? ⟨B,2,none⟩=false/\w.frozen? ⟨B,3,none⟩=false:=by
 simp [World.cell?,World.frozen?,show w.heap[B]?=_ from h]
theorem BkW.lt {w:World} {B:Nat} {ln kv lv:Value} {K:Int} (h:BkW w B ln kv lv K):B < w.heap.size:=(Array.getElem?_eq_some_iff.1 h).1
theorem BkW.of {w w':World} {B:Nat} {ln kv lv:Value} {K:Int} (h:BkW w B ln kv lv K) (e:w'.heap[B]?=w.heap[B]?):BkW w' B ln kv lv K:=e.trans h
theorem BkW.set2 {w:World} {B:Nat} {ln kv lv:Value} {K:Int} (h:BkW w B ln kv lv K) (q:Int):BkW (w.setCell ⟨B,3,none⟩ (O I q)) B ln kv lv q:=by
 simp [BkW,World.setCell,Array.getElem?_modify,show w.heap[B]?=_ from h]
theorem BkW.set0 {w:World} {B:Nat} {ln kv lv:Value} {K:Int} (h:BkW w B ln kv lv K) (v:Value):BkW (w.setCell ⟨B,1,none⟩ v) B ln v lv K:=by
 simp [BkW,World.setCell,Array.getElem?_modify,show w.heap[B]?=_ from h]
theorem z2d {w:World} {B g N:Nat} {ln kv lv:Value} {K:Int} {e:TypeId} {f:Nat->Value} (h:BkW w B ln kv lv K) (hr:w.rowIs g e N f) (he:e ≠ 51):g ≠ B:=by
 rintro rfl;obtain ⟨c,hb,-⟩:=hr;rw [show w.heap[g]?=_ from h] at hb
 injection hb with hb
 injection hb with h1 h2
 exact he h2.symm
theorem z0S {w:World} {B base size j:Nat} {ln kv lv v:Value} {K:Int} {e:TypeId} {ks:List Value} (h:BkW w B ln kv lv K) (ho:w.ownsRow base e size v j ks) (he:e ≠ 51):v.ownBlock ≠ some B:=by
 intro e1;rcases ho.2 with h0 | ⟨g',cap,cur,h0,-,hcur,-⟩
 . rw [h0.1] at e1;cases e1
 . rw [h0] at e1
   have e':g'=B:=by simpa [Value.ownBlock] using e1
   rw [e',show w.heap[B]?=_ from h] at hcur
   injection hcur with hb
   injection hb with h1 h2
   exact he h2.symm
structure y5u (S:Nat->Prop) (w:World) (B:Nat) (ln kv lv:Value) (j j2:Nat) (ks ls:List Value) (K:Nat):Prop where
 blk:BkW w B ln kv lv K
 inB:S B
 own:w.ownsRow 0 128 6 kv j ks
 own2:w.ownsRow 0 140 6 lv j2 ls
 inK:∀ g,kv.ownBlock=some g->S g
 inL:∀ g,lv.ownBlock=some g->S g
 ents:∀ i,i < j->Ent (ShM S w) ks i
 ents2:∀ i,i < j2->Ent (ShL S w) ls i
 cnt:j+j2<=K
 low:∀ k,S k->k < w.heap.size
def BookW (S:Nat->Prop) (w:World) (B:Nat) (ln:Value) (K:Nat):Prop:=∃ kv lv j j2 ks ls,y5u S w B ln kv lv j j2 ks ls K
theorem BookW.keep {S:Nat->Prop} {w w':World} {B K:Nat} {ln:Value} (h:BookW S w B ln K) (hb:∀ k,S k->w'.heap[k]?=w.heap[k]?) (hs:w.heap.size<=w'.heap.size):BookW S w' B ln K:=by
 obtain ⟨kv,lv,j,j2,ks,ls,h⟩:=h;have keepO:∀ {e:TypeId} {v:Value} {q:Nat} {xs:List Value},w.ownsRow 0 e 6 v q xs->(∀ g,v.ownBlock=some g->S g)->w'.ownsRow 0 e 6 v q xs:=fun {e v q xs} ho hS=>by
  refine ⟨ho.1,?_⟩;rcases ho.2 with h0 | ⟨g,cap,cur,rfl,h1,h2,h3⟩
  . exact .inl h0
  . exact .inr ⟨g,cap,cur,rfl,h1,(hb g (hS g rfl)).trans h2,h3⟩
 exact ⟨kv,lv,j,j2,ks,ls,h.blk.of (hb _ h.inB),h.inB,keepO h.own h.inK,keepO h.own2 h.inL,h.inK,h.inL,
  fun i hi=>(h.ents i hi).mono fun v n m s=>s.keep (fun k hk _=>hb k hk) (fun _ h=>h),fun i hi=>(h.ents2 i hi).mono fun v n m s=>s.keep (fun k hk _=>hb k hk) (fun _ h=>h),h.cnt,fun k hk=>zP (h.low k hk) hs⟩
structure y5v (S:Nat->Prop) (w w':World) (B:Nat) (ln:Value) (K:Nat) (og:Option Nat):Prop where
 book:BookW (fun k=>(S k∨og=some k∨w.heap.size<=k)/\k < w'.heap.size) w' B ln (K+1)
 os:w'.os=w.os
 tape:w'.tape=w.tape
 output:w'.output=w.output
 size:w.heap.size<=w'.heap.size
 block:∀ k,k < w.heap.size->¬ S k->og ≠ some k->w'.heap[k]?=w.heap[k]?
theorem y1P {S:Nat->Prop} {w w':World} {B K j j2 n b1 b2 b3:Nat} {ln kv lv kv' l v1 v2 v3:Value} {ks ls:List Value} {og:Option Nat} {m:Int} (hB:y5u S w B ln kv lv j j2 ks ls K) (hS:∀ g,og=some g->¬ S g) (hrow:∀ g,og=some g->y0r w g) (hn:n<=1000000)
 (F:∀ k,k < w.heap.size->k ≠ B->og ≠ some k->kv.ownBlock ≠ some k->w'.heap[k]?=w.heap[k]?) (h1:w'.os=w.os) (h2:w'.tape=w.tape) (h3:w'.output=w.output) (hs:w.heap.size<=w'.heap.size)
 (hBk:BkW w' B ln kv' lv ((K:Int)+1)) (hown:w'.ownsRow 0 128 6 kv' (j+1) (ks ++ [l,v1,v2,v3,O I ((n:Nat):Int),O I m])) (hkv':∀ g,kv'.ownBlock=some g->kv.ownBlock=some g∨w.heap.size<=g)
 (L0:LstE 3 w' l n og (fun _=>O I m)) (L1:LstE 3 w' v1 (n+1) (some b1) (fun _=>O I m)) (L2:LstE 3 w' v2 (n+2) (some b2) (fun _=>O I m)) (L3:LstE 3 w' v3 (n+3) (some b3) (fun _=>O I m))
 (hb1:og=some b1∨w.heap.size<=b1) (hb2:og=some b2∨w.heap.size<=b2) (hb3:og=some b3∨w.heap.size<=b3):y5v S w w' B ln K og:=by
 have kvB:=z0S hB.blk hB.own zR;have keepR:∀ k,S k->y0r w k->w'.heap[k]?=w.heap[k]?:=fun k hk ⟨e,N,f,he,hr⟩=>by
  refine F k hr.lt (z2d hB.blk hr (by rcases he with rfl | rfl <;> decide)) (fun e=>hS k e hk) (z3J hB.own hr (by rcases he with rfl | rfl <;> decide))
 have inS:∀ k,S k->(S k∨og=some k∨w.heap.size<=k)/\k < w'.heap.size:=fun k hk=>⟨.inl hk,zP (hB.low k hk) hs⟩
 have inN:∀ {v:Value} {q b:Nat},LstE 3 w' v q (some b) (fun _=>O I m)->(og=some b∨w.heap.size<=b)->ShM (fun k=>(S k∨og=some k∨w.heap.size<=k)/\k < w'.heap.size) w' v q m:=fun {v q b} hl hb =>
  ⟨some b,hl,fun g hg=>by injection hg with hg;subst hg;exact ⟨.inr hb,hl.lt rfl⟩⟩
 refine ⟨⟨kv',lv,j+1,j2,ks ++ [l,v1,v2,v3,O I ((n:Nat):Int),O I m],ls,?_⟩,h1,h2,h3,hs,fun k hk hnS hno=>?_⟩
 . have o2:w'.ownsRow 0 140 6 lv j2 ls:=by
     refine ⟨hB.own2.1,?_⟩;rcases hB.own2.2 with h0 | ⟨g,cap,cur,e,q1,q2,q3⟩
     . exact .inl h0
     . refine .inr ⟨g,cap,cur,e,q1,?_,q3⟩
       subst e;have hlt:=(Array.getElem?_eq_some_iff.1 q2).1;rw [F g hlt (fun e=>z0S hB.blk hB.own2 zR (by rw [e];rfl)) (fun e=>hS g e (hB.inL g rfl)) (fun e=>?_)]
       . exact q2
       . rcases y2G hB.own hB.own2 zR with h | h
         . rw [h] at e;cases e
         . exact h e
   refine ⟨by rw [show ((K+1:Nat):Int)=(K:Int)+1 by omega];exact hBk,inS _ hB.inB,hown,o2,fun g hg=>?_,fun g hg=>inS _ (hB.inL g hg),fun i hi=>?_,fun i hi=>(hB.ents2 i hi).mono fun v q mm s=>s.keep keepR inS,by have:=hB.cnt;omega,fun k hk=>hk.2⟩
   . rcases hkv' g hg with h | h
     . exact inS _ (hB.inK g h)
     . exact ⟨.inr (.inr h),(hown.lt g hg).2⟩
   . rcases Nat.lt_or_ge i j with hij | hij
     . exact ((hB.ents i hij).mono fun v q mm s=>s.keep keepR inS).app
     . have e:i=j:=zU
       subst e;refine Ent.last hB.own.1 hn ⟨og,L0,fun g hg=>⟨.inr (.inl hg),L0.lt hg⟩⟩ (inN L1 hb1) (inN L2 hb2) (inN L3 hb3)
 . exact F k hk (fun e=>hnS (e ▸ hB.inB)) hno (fun e=>hnS (hB.inK k e))
set_option maxHeartbeats 2000000 in
theorem z4z (S:Nat->Prop) (B:Nat) (ln:Value) (K n:Nat) (og:Option Nat) (x:Nat->Value) (l:Value) (w:World) (hn:n<=1000000) (hK:K<=1000000000000) (hB:BookW S w B ln K) (hL:LstE 3 w l n og x) (hS:∀ g,og=some g->¬ S g) :
 Calls prog 43 #[.pointer (some ⟨B,1,none⟩),l] w fun e w'=>e=.returned (.tuple #[])/\y5v S w w' B ln K og:=by
 obtain ⟨kv,lv,j,j2,ks,ls,hB⟩:=hB;have hj:j<=1000000000000:=by have:=hB.cnt;omega
 obtain ⟨c0,c1,c2,f0,f1,f2⟩:=hB.blk.cells;obtain ⟨m,hm⟩:∃ m:Int,m=-1000 - ((K:Int)+1):=⟨_,rfl⟩;have hmw:-1000 - ((K:Int)+1)=m:=hm.symm;have hBlt:=hB.blk.lt;have HB:=zZ hB;have HS:=zZ hS;have HRO:Hid (∀ g,og=some g->y0r w g):=fun g hg=>hL.isRow (.inl rfl) hg
 have HKO:Hid (kv.ownBlock=none∨kv.ownBlock ≠ og):=by
  rcases hL with ⟨-,-,e⟩ | ⟨g,o,c,N,f,e,-,hr,-⟩
  . rw [e];exact Classical.em _
  . rw [e];exact .inr (z3J hB.own hr zR)
 have HBO:Hid (some B ≠ og):=fun e=>hS B e.symm hB.inB
 have HW:Hid (w.grownBy (w.setCell ⟨B,3,none⟩ (O I ((K:Int)+1))) (some B)):=z2t w ⟨B,3,none⟩ _;have hkvB0:=z0S hB.blk hB.own zR;clear hB hm hS;rcases hL with ⟨rfl,rfl,rfl⟩ | ⟨g,o,c,N,f,rfl,rfl,hrow,hoc,hnc,-⟩
 . go_enter func43,ntmps43
   go_wp2;obtain ⟨W,hW⟩:∃ W,W=w.setCell ⟨B,3,none⟩ (O I ((K:Int)+1)):=⟨_,rfl⟩;rw [← hW] at HW;rw [← hW];have HWE:=zZ hW;clear hW
   go_loopw [5] (fun i wr=>i=O I 0/\wr=W) (fun i _=>0)
   case atStart=>exact ⟨rfl,rfl⟩
   case round =>
    obtain ⟨rfl,hwr⟩:=hrel;subst hwr;have HF:Hid (LstE 3 wr (.slice none 0 0) 0 none (fun _=>O I m)):=.inl ⟨rfl,rfl,rfl⟩;have hownR:=HB.out.own.kept HW.out (.inr hkvB0);have hBoR:BkW wr B ln kv lv ((K:Int)+1):=by rw [HWE.out];exact HB.out.blk.set2 _
    have hBR:=hBoR.lt;have OSR:Hid (wr.os=w.os/\wr.tape=w.tape/\wr.output=w.output):=⟨HW.out.os,HW.out.tape,HW.out.output⟩;have FR:Hid (∀ k,k < w.heap.size->k ≠ B->some k ≠ (none:Option Nat)->wr.heap[k]?=w.heap[k]?):=fun k hk hkB _=>HW.out.block k hk (by simpa using hkB)
    have hszR:w.heap.size<=wr.heap.size:=HW.out.size;obtain ⟨b1,o1,c1,u1,hr1,hb1,hl1,hs1⟩:=z7d wr (.slice none 0 0) 0 m #[O I m] 1 none HF.out hn rfl zU zU 30;obtain ⟨b2,o2,c2,u2,hr2,hb2,hl2,hs2⟩:=z7d u1 (.slice none 0 0) 0 m #[O I m,O I m] 2 none (HF.out.mk hs1) hn rfl zU zU 30;obtain ⟨b3,o3,c3,u3,hr3,hb3,hl3,hs3⟩:=z7d u2 (.slice none 0 0) 0 m #[O I m,O I m,O I m] 3 none ((HF.out.mk hs1).mk hs2) hn rfl zU zU 30;have s1:=hs1.gr.size;have s2:=hs2.gr.size;have s3:=hs3.gr.size;have hkvo:kv.ownBlock=none∨kv.ownBlock ≠ none:=HKO.out;have hown3:=((hownR.kept hs1.gr hkvo).kept hs2.gr hkvo).kept hs3.gr hkvo;have hBog:some B ≠ none:=HBO.out;have hBo3:=((hBoR.of (hs1.gr.block B hBR hBog)).of (hs2.gr.block B (zP hBR s1) hBog)).of (hs3.gr.block B (zP hBR (zO s1 s2)) hBog);have hB3:=hBo3.lt;obtain ⟨b4,c4,u4,hr4,ho4,hg4,hb4⟩:=z8c 46 128 _ 6 112 underlying46 z9j rfl zU u3 0 kv j ks #[(.slice none 0 0),.slice (some ⟨b1,o1,none⟩) (0+1) c1,.slice (some ⟨b2,o2,none⟩) (0+2) c2,.slice (some ⟨b3,o3,none⟩) (0+3) c3,O I 0,O I m] hown3 rfl (by intro u hu;simp at hu;rcases hu with rfl | rfl | rfl | rfl | rfl | rfl <;> rfl) (by simp only [maxLen];omega) zU (zJ _) 46;have s4:=hg4.size;have hkvB:=z0S hBo3 hown3 zR;have hBo4:=hBo3.of (hg4.block B hB3 (Ne.symm hkvB));obtain ⟨d0,d1,d2,e0,e1,e2⟩:=hBo3.cells;obtain ⟨x0,x1,x2,y0,y1,y2⟩:=hBo4.cells;have HR1:=zZ hr1;have HR2:=zZ hr2;have HR3:=zZ hr3;have HR4:=zZ hr4;have hset:=z2t u4 ⟨B,1,none⟩ (.slice (some ⟨b4,0,none⟩) (j+1) c4);have hb4B:b4 ≠ B:=fun e=>z0S hBo4 ho4 zR (by rw [e];rfl)
    have hsz5:(u4.setCell ⟨B,1,none⟩ (.slice (some ⟨b4,0,none⟩) (j+1) c4)).heap.size=u4.heap.size:=by simp
    have ne4:∀ {q:Nat} {N:Nat} {f:Nat->Value},u3.rowIs q 3 N f->some q ≠ kv.ownBlock:=fun {q N f} hr e=>z3J hown3 hr zR e.symm
    have toEnd:∀ {v:Value} {q:Nat} {og2:Option Nat},LstE 3 u3 v q og2 (fun _=>O I m)->LstE 3 (u4.setCell ⟨B,1,none⟩ (.slice (some ⟨b4,0,none⟩) (j+1) c4)) v q og2 (fun _=>O I m):=fun {v q og2} hl=>hl.keep fun g hg=>by
     obtain ⟨N,f,hr⟩:=hl.row hg;exact (hset.block g (zP hr.lt s4) (fun e=>z2d hBo3 hr zR (by injection e))).trans (hg4.block g hr.lt (ne4 hr))
    have HT:Hid (y5v S w (u4.setCell ⟨B,1,none⟩ (.slice (some ⟨b4,0,none⟩) (j+1) c4)) B ln K none):=by
     refine y1P (n:=0) (l:=(.slice none 0 0)) (m:=m) HB.out HS.out HRO.out hn (fun k hk hkB hko hkk=>?_) ?_ ?_ ?_ (by rw [hsz5];omega) (hBo4.set0 _) (ho4.kept hset (.inr (by simpa [Value.ownBlock] using hb4B))) (fun g hg=>?_) (toEnd (((HF.out.mk hs1).mk hs2).mk hs3)) (toEnd ((hl1.mk hs2).mk hs3)) (toEnd (hl2.mk hs3)) (toEnd hl3) (hb1.imp id (fun h=>zU)) (hb2.imp id (fun h=>zU)) (hb3.imp id (fun h=>zU))
     . exact (hset.block k zU (by simpa using hkB)).trans ((hg4.block k zU (Ne.symm hkk)).trans ((hs3.gr.block k zU (Ne.symm hko)).trans ((hs2.gr.block k zU (Ne.symm hko)).trans ((hs1.gr.block k zU (Ne.symm hko)).trans (FR.out k hk hkB (Ne.symm hko))))))
     . exact hset.os.trans (hg4.os.trans (hs3.gr.os.trans (hs2.gr.os.trans (hs1.gr.os.trans OSR.out.1))))
     . exact hset.tape.trans (hg4.tape.trans (hs3.gr.tape.trans (hs2.gr.tape.trans (hs1.gr.tape.trans OSR.out.2.1))))
     . exact hset.output.trans (hg4.output.trans (hs3.gr.output.trans (hs2.gr.output.trans (hs1.gr.output.trans OSR.out.2.2))))
     . have:b4=g:=by simpa [Value.ownBlock] using hg
       rw [← this];exact hb4.imp id (fun h=>zU)
    clear hl1 hl2 hl3 hs1 hs2 hs3 hr1 hr2 hr3 hr4 ho4 hg4 hBo3 hBo4 hown3 hownR hBoR toEnd hset hkvo ne4 hkvB hBog hb1 hb2 hb3 hb4
    go_wp2_with (first
     | (at_builtin;refine z0v rfl _ _ _ rfl _ _ _ rfl rfl HR1.out ?_;clear HR1)
     | (at_builtin;refine z0v rfl _ _ _ rfl _ _ _ rfl rfl HR2.out ?_;clear HR2)
     | (at_builtin;refine z0v rfl _ _ _ rfl _ _ _ rfl rfl HR3.out ?_;clear HR3)
     | (at_builtin;refine z0v rfl _ _ _ rfl _ _ _ rfl rfl HR4.out ?_;clear HR4))
    go_end0;exact ⟨rfl,HT.out⟩
 . have HROW:=zZ hrow
   have hgB:g ≠ B:=fun e=>HBO.out (by rw [e])
   have hglt:=hrow.lt;clear hrow
   go_enter func43,ntmps43
   go_wp2;obtain ⟨W,hW⟩:∃ W,W=w.setCell ⟨B,3,none⟩ (O I ((K:Int)+1)):=⟨_,rfl⟩;rw [← hW] at HW;rw [← hW];have HWE:=zZ hW;clear hW
   go_loopw [5] (fun i wr=>∃ k:Nat,k<=n/\i=O I k/\Hid (∃ y:Nat->Value,(∀ j,j < k->y (o+j)=O I m)/\wr.rowIs g 3 N y/\Chg g W wr)) (fun i _=>n - (intOf i).toNat)
   case atStart=>exact ⟨0,zJ _,rfl,f,fun j hj=>absurd hj zU,HROW.out.of_block (HW.out.block g hglt (by simpa using hgB)),Chg.refl _ _⟩
   case round =>
    obtain ⟨k,hk,rfl,HX⟩:=hrel;obtain ⟨y,hy,hrow,hch⟩:=HX.out
    by_cases hkn:k < n
    . have hc0:wr.cell? ⟨g,o+k,none⟩=some (y (o+k)):=hrow.cell zU
      have hf0:=hrow.frozen (o+k);have HY:=zZ hy;have HR:=zZ hrow;have HCH:=zZ hch;clear hy hrow hch HX;generalize y (o+k)=yv at *;go_wp2
      go_roundw
      case rel =>
       refine ⟨k+1,zU,zS,_,fun j hj=>?_,HR.out.set (o+k) (O I m),HCH.out.set (o+k) _⟩
       by_cases e:j=k
       . rw [e,if_pos rfl]
       . rw [if_neg zU];exact HY.out j zU
      case measure=>simp [intOf];omega
    . have e:k=n:=zU
      subst k;have HF:Hid (LstE 3 wr (.slice (some ⟨g,o,none⟩) n c) n (some g) (fun _=>O I m)):=.inr ⟨g,o,c,N,y,rfl,rfl,hrow,hoc,hnc,hy⟩;have hownR:=(HB.out.own.kept HW.out (.inr hkvB0)).kept hch HKO.out;have hBoR:BkW wr B ln kv lv ((K:Int)+1):=(by rw [HWE.out];exact HB.out.blk.set2 _:BkW W B ln kv lv ((K:Int)+1)).of (hch.block B (zP hBlt HW.out.size) (by simpa using Ne.symm hgB));have hBR:=hBoR.lt;have OSR:Hid (wr.os=w.os/\wr.tape=w.tape/\wr.output=w.output):=⟨hch.os.trans HW.out.os,hch.tape.trans HW.out.tape,hch.output.trans HW.out.output⟩;have FR:Hid (∀ k,k < w.heap.size->k ≠ B->some k ≠ some g->wr.heap[k]?=w.heap[k]?):=fun k hk hkB hkg=>(hch.block k (zP hk HW.out.size) hkg).trans (HW.out.block k hk (by simpa using hkB))
      have hszR:w.heap.size<=wr.heap.size:=zO HW.out.size hch.size;clear hy hrow hch HX;obtain ⟨b1,o1,c1,u1,hr1,hb1,hl1,hs1⟩:=z7d wr (.slice (some ⟨g,o,none⟩) n c) n m #[O I m] 1 (some g) HF.out hn rfl zU zU 30;obtain ⟨b2,o2,c2,u2,hr2,hb2,hl2,hs2⟩:=z7d u1 (.slice (some ⟨g,o,none⟩) n c) n m #[O I m,O I m] 2 (some g) (HF.out.mk hs1) hn rfl zU zU 30;obtain ⟨b3,o3,c3,u3,hr3,hb3,hl3,hs3⟩:=z7d u2 (.slice (some ⟨g,o,none⟩) n c) n m #[O I m,O I m,O I m] 3 (some g) ((HF.out.mk hs1).mk hs2) hn rfl zU zU 30;have s1:=hs1.gr.size;have s2:=hs2.gr.size;have s3:=hs3.gr.size;have hkvo:kv.ownBlock=none∨kv.ownBlock ≠ (some g):=HKO.out;have hown3:=((hownR.kept hs1.gr hkvo).kept hs2.gr hkvo).kept hs3.gr hkvo;have hBog:some B ≠ (some g):=HBO.out;have hBo3:=((hBoR.of (hs1.gr.block B hBR hBog)).of (hs2.gr.block B (zP hBR s1) hBog)).of (hs3.gr.block B (zP hBR (zO s1 s2)) hBog);have hB3:=hBo3.lt;obtain ⟨b4,c4,u4,hr4,ho4,hg4,hb4⟩:=z8c 46 128 _ 6 112 underlying46 z9j rfl zU u3 0 kv j ks #[(.slice (some ⟨g,o,none⟩) n c),.slice (some ⟨b1,o1,none⟩) (n+1) c1,.slice (some ⟨b2,o2,none⟩) (n+2) c2,.slice (some ⟨b3,o3,none⟩) (n+3) c3,O I n,O I m] hown3 rfl (by intro u hu;simp at hu;rcases hu with rfl | rfl | rfl | rfl | rfl | rfl <;> rfl) (by simp only [maxLen];omega) zU (zJ _) 46;have s4:=hg4.size;have hkvB:=z0S hBo3 hown3 zR;have hBo4:=hBo3.of (hg4.block B hB3 (Ne.symm hkvB));obtain ⟨d0,d1,d2,e0,e1,e2⟩:=hBo3.cells;obtain ⟨x0,x1,x2,y0,y1,y2⟩:=hBo4.cells;have HR1:=zZ hr1;have HR2:=zZ hr2;have HR3:=zZ hr3;have HR4:=zZ hr4;have hset:=z2t u4 ⟨B,1,none⟩ (.slice (some ⟨b4,0,none⟩) (j+1) c4);have hb4B:b4 ≠ B:=fun e=>z0S hBo4 ho4 zR (by rw [e];rfl)
      have hsz5:(u4.setCell ⟨B,1,none⟩ (.slice (some ⟨b4,0,none⟩) (j+1) c4)).heap.size=u4.heap.size:=by simp
      have ne4:∀ {q:Nat} {N:Nat} {f:Nat->Value},u3.rowIs q 3 N f->some q ≠ kv.ownBlock:=fun {q N f} hr e=>z3J hown3 hr zR e.symm
      have toEnd:∀ {v:Value} {q:Nat} {og2:Option Nat},LstE 3 u3 v q og2 (fun _=>O I m)->LstE 3 (u4.setCell ⟨B,1,none⟩ (.slice (some ⟨b4,0,none⟩) (j+1) c4)) v q og2 (fun _=>O I m):=fun {v q og2} hl=>hl.keep fun g hg=>by
       obtain ⟨N,f,hr⟩:=hl.row hg;exact (hset.block g (zP hr.lt s4) (fun e=>z2d hBo3 hr zR (by injection e))).trans (hg4.block g hr.lt (ne4 hr))
      have HT:Hid (y5v S w (u4.setCell ⟨B,1,none⟩ (.slice (some ⟨b4,0,none⟩) (j+1) c4)) B ln K (some g)):=by
       refine y1P (n:=n) (l:=(.slice (some ⟨g,o,none⟩) n c)) (m:=m) HB.out HS.out HRO.out hn (fun k hk hkB hko hkk=>?_) ?_ ?_ ?_ (by rw [hsz5];omega) (hBo4.set0 _) (ho4.kept hset (.inr (by simpa [Value.ownBlock] using hb4B))) (fun g hg=>?_) (toEnd (((HF.out.mk hs1).mk hs2).mk hs3)) (toEnd ((hl1.mk hs2).mk hs3)) (toEnd (hl2.mk hs3)) (toEnd hl3) (hb1.imp id (fun h=>zU)) (hb2.imp id (fun h=>zU)) (hb3.imp id (fun h=>zU))
       . exact (hset.block k zU (by simpa using hkB)).trans ((hg4.block k zU (Ne.symm hkk)).trans ((hs3.gr.block k zU (Ne.symm hko)).trans ((hs2.gr.block k zU (Ne.symm hko)).trans ((hs1.gr.block k zU (Ne.symm hko)).trans (FR.out k hk hkB (Ne.symm hko))))))
       . exact hset.os.trans (hg4.os.trans (hs3.gr.os.trans (hs2.gr.os.trans (hs1.gr.os.trans OSR.out.1))))
       . exact hset.tape.trans (hg4.tape.trans (hs3.gr.tape.trans (hs2.gr.tape.trans (hs1.gr.tape.trans OSR.out.2.1))))
       . exact hset.output.trans (hg4.output.trans (hs3.gr.output.trans (hs2.gr.output.trans (hs1.gr.output.trans OSR.out.2.2))))
       . have:b4=g:=by simpa [Value.ownBlock] using hg
         rw [← this];exact hb4.imp id (fun h=>zU)
      clear hl1 hl2 hl3 hs1 hs2 hs3 hr1 hr2 hr3 hr4 ho4 hg4 hBo3 hBo4 hown3 hownR hBoR toEnd hset hkvo ne4 hkvB hBog hb1 hb2 hb3 hb4
      go_wp2_with (first
       | (at_builtin;refine z0v rfl _ _ _ rfl _ _ _ rfl rfl HR1.out ?_;clear HR1)
       | (at_builtin;refine z0v rfl _ _ _ rfl _ _ _ rfl rfl HR2.out ?_;clear HR2)
       | (at_builtin;refine z0v rfl _ _ _ rfl _ _ _ rfl rfl HR3.out ?_;clear HR3)
       | (at_builtin;refine z0v rfl _ _ _ rfl _ _ _ rfl rfl HR4.out ?_;clear HR4))
      go_end0;exact ⟨rfl,HT.out⟩
set_option maxHeartbeats 2000000 in
theorem z3R (S:Nat->Prop) (B:Nat) (ln:Value) (K:Nat) (w:World) (hK:K<=1000000000000) (hBP:BookW S w B ln K) :
 Calls prog 47 #[.pointer (some ⟨B,1,none⟩)] w fun e w'=>e=.returned (.bool true)/\Below w.heap.size w w':=by
 obtain ⟨kv,lv,j,j2,ks,ls,hB⟩:=hBP;obtain ⟨x0,x1,x2,-,-,-⟩:=hB.blk.cells;have hBlt:=hB.blk.lt;have HB:=zZ hB;have hj:j<=1000000000000:=by have:=hB.cnt;omega
 have hj2:j2<=1000000000000:=by have:=hB.cnt;omega
 obtain ⟨ka,kc,hkv⟩:∃ a c,kv=.slice a j c:=by
  rcases hB.own.2 with ⟨h,h0⟩ | ⟨g,c,cur,h,-⟩
  . exact ⟨none,0,by rw [h,h0]⟩
  . exact ⟨_,c,h⟩
 obtain ⟨la,lc,hlv⟩:∃ a c,lv=.slice a j2 c:=by
  rcases hB.own2.2 with ⟨h,h0⟩ | ⟨g,c,cur,h,-⟩
  . exact ⟨none,0,by rw [h,h0]⟩
  . exact ⟨_,c,h⟩
 rw [hkv] at x0;rw [hlv] at x1;clear hB
 go_enter func47,ntmps47
 go_wp2
 go_loopw [2,3,5,6,7,8] (fun _ iv _ _ _ _ wr=>∃ i:Nat,i<=j/\iv=O I i/\Hid (w.grownBy wr none)) (fun _ iv _ _ _ _ _=>j - (intOf iv).toNat)
 case atStart=>exact ⟨0,zJ _,rfl,y4G _ _⟩
 case round =>
  obtain ⟨i,hi,rfl,HG⟩:=hrel;have z0:wr.cell? ⟨B,1,none⟩=some (.slice ka j kc):=HG.out.cell x0 (by simp);have z1:wr.cell? ⟨B,2,none⟩=some (.slice la j2 lc):=HG.out.cell x1 (by simp)
  by_cases hlt:i < j
  . obtain ⟨l,g1,g2,g3,n,m,hn,q0,q1,q2,q3,q4,q5,s0,s1,s2,s3⟩:=HB.out.ents i hlt
    obtain ⟨a0,c0,rfl,i0⟩:=s0.ints;obtain ⟨a1,c1,rfl,i1⟩:=s1.ints;obtain ⟨a2,c2,rfl,i2⟩:=s2.ints;obtain ⟨a3,c3,rfl,i3⟩:=s3.ints;obtain ⟨gk,hgk⟩:∃ gk,ka=some ⟨gk,0,none⟩:=by
     rcases HB.out.own.2 with ⟨h,h0⟩ | ⟨g,c,cur,h,-⟩
     . omega
     . rw [hkv] at h;injection h with h1;exact ⟨g,h1⟩
    have hc:∀ q u,ks[q]?=some u->wr.cell? ⟨gk,q,none⟩=some u:=fun q u hq=>by
     have:=HB.out.own.cells (g:=gk) (by rw [hkv,hgk];rfl) q u hq;rw [Addr.add_lit,Nat.zero_add] at this;exact HG.out.cell this (by simp)
    have h6:6 * i=i * 6:=zU
    rw [h6] at q0 q1 q2 q3 q4 q5;have k0:=hc _ _ q0;have k1:=hc _ _ q1;have k2:=hc _ _ q2;have k3:=hc _ _ q3;have k4:=hc _ _ q4;have k5:=hc _ _ q5;clear h6;have HS0:Hid (∀ Oqq,Calls prog 98 #[.slice a0 n c0,O I (n:Int),O I m] (wr.alloc Oqq) fun e w'=>e=.returned (.bool true)/\w'=wr.alloc Oqq):=fun Oqq=>z2l a0 n c0 m _ zU (z3e (z3e i0 HG.out) (World.grownBy_alloc wr Oqq none))
    have HS1:Hid (∀ Oqq,Calls prog 98 #[.slice a1 (n+1) c1,O I ((n:Int)+1),O I m] (wr.alloc Oqq) fun e w'=>e=.returned (.bool true)/\w'=wr.alloc Oqq):=fun Oqq=>z8e a1 n 1 c1 m _ zU zU (z3e (z3e i1 HG.out) (World.grownBy_alloc wr Oqq none))
    have HS2:Hid (∀ Oqq,Calls prog 98 #[.slice a2 (n+2) c2,O I ((n:Int)+2),O I m] (wr.alloc Oqq) fun e w'=>e=.returned (.bool true)/\w'=wr.alloc Oqq):=fun Oqq=>z8e a2 n 2 c2 m _ zU zU (z3e (z3e i2 HG.out) (World.grownBy_alloc wr Oqq none))
    have HS3:Hid (∀ Oqq,Calls prog 98 #[.slice a3 (n+3) c3,O I ((n:Int)+3),O I m] (wr.alloc Oqq) fun e w'=>e=.returned (.bool true)/\w'=wr.alloc Oqq):=fun Oqq=>z8e a3 n 3 c3 m _ zU zU (z3e (z3e i3 HG.out) (World.grownBy_alloc wr Oqq none))
    clear i0 i1 i2 i3 q0 q1 q2 q3 q4 q5 s0 s1 s2 s3 hc;subst hgk
    go_wp2_with (first
     | (go_at_call 98;refine (HS0.out _).mono ?_;rintro e u ⟨rfl,hu⟩;subst u;clear HS0)
     | (go_at_call 98;refine (HS1.out _).mono ?_;rintro e u ⟨rfl,hu⟩;subst u;clear HS1)
     | (go_at_call 98;refine (HS2.out _).mono ?_;rintro e u ⟨rfl,hu⟩;subst u;clear HS2)
     | (go_at_call 98;refine (HS3.out _).mono ?_;rintro e u ⟨rfl,hu⟩;subst u;clear HS3))
    go_roundw
    case rel=>exact ⟨i+1,zU,zS,z1a HG.out (World.grownBy_alloc wr _ none)⟩
    case measure=>simp [intOf];omega
  . have e:i=j:=zU
    subst e;go_wp2
    go_loopw [2,9,11,12,13,14] (fun _ iv _ _ _ _ wr'=>∃ q:Nat,q<=j2/\iv=O I q/\Hid (w.grownBy wr' none)) (fun _ iv _ _ _ _ _=>j2 - (intOf iv).toNat)
    case atStart=>exact ⟨0,zJ _,rfl,HG.out⟩
    case round =>
     obtain ⟨q,hq,rfl,HG2⟩:=hrel;have z2:wr.cell? ⟨B,2,none⟩=some (.slice la j2 lc):=HG2.out.cell x1 (by simp)
     by_cases hlt2:q < j2
     . obtain ⟨l,g1,g2,g3,n,m,hn,q0,q1,q2,q3,q4,q5,s0,s1,s2,s3⟩:=HB.out.ents2 q hlt2
       obtain ⟨a0,c0,rfl,i0⟩:=s0.lists;obtain ⟨a1,c1,rfl,i1⟩:=s1.lists;obtain ⟨a2,c2,rfl,i2⟩:=s2.lists;obtain ⟨a3,c3,rfl,i3⟩:=s3.lists;obtain ⟨gk,hgk⟩:∃ gk,la=some ⟨gk,0,none⟩:=by
        rcases HB.out.own2.2 with ⟨h,h0⟩ | ⟨g,c,cur,h,-⟩
        . omega
        . rw [hlv] at h;injection h with h1;exact ⟨g,h1⟩
       have hc:∀ p u,ls[p]?=some u->wr.cell? ⟨gk,p,none⟩=some u:=fun p u hp=>by
        have:=HB.out.own2.cells (g:=gk) (by rw [hlv,hgk];rfl) p u hp;rw [Addr.add_lit,Nat.zero_add] at this;exact HG2.out.cell this (by simp)
       have h6:6 * q=q * 6:=zU
       rw [h6] at q0 q1 q2 q3 q4 q5;have k0:=hc _ _ q0;have k1:=hc _ _ q1;have k2:=hc _ _ q2;have k3:=hc _ _ q3;have k4:=hc _ _ q4;have k5:=hc _ _ q5;clear h6;have HS0:Hid (∀ Oqq,Calls prog 99 #[.slice a0 n c0,O I (n:Int),O I m] (wr.alloc Oqq) fun e w'=>e=.returned (.bool true)/\w'=wr.alloc Oqq):=fun Oqq=>z9k a0 n c0 m _ zU (z2A (z2A i0 HG2.out) (World.grownBy_alloc wr Oqq none))
       have HS1:Hid (∀ Oqq,Calls prog 99 #[.slice a1 (n+1) c1,O I ((n:Int)+1),O I m] (wr.alloc Oqq) fun e w'=>e=.returned (.bool true)/\w'=wr.alloc Oqq):=fun Oqq=>z8f a1 n 1 c1 m _ zU zU (z2A (z2A i1 HG2.out) (World.grownBy_alloc wr Oqq none))
       have HS2:Hid (∀ Oqq,Calls prog 99 #[.slice a2 (n+2) c2,O I ((n:Int)+2),O I m] (wr.alloc Oqq) fun e w'=>e=.returned (.bool true)/\w'=wr.alloc Oqq):=fun Oqq=>z8f a2 n 2 c2 m _ zU zU (z2A (z2A i2 HG2.out) (World.grownBy_alloc wr Oqq none))
       have HS3:Hid (∀ Oqq,Calls prog 99 #[.slice a3 (n+3) c3,O I ((n:Int)+3),O I m] (wr.alloc Oqq) fun e w'=>e=.returned (.bool true)/\w'=wr.alloc Oqq):=fun Oqq=>z8f a3 n 3 c3 m _ zU zU (z2A (z2A i3 HG2.out) (World.grownBy_alloc wr Oqq none))
       clear i0 i1 i2 i3 q0 q1 q2 q3 q4 q5 s0 s1 s2 s3 hc;subst hgk
       go_wp2_with (first
        | (go_at_call 99;refine (HS0.out _).mono ?_;rintro e u ⟨rfl,hu⟩;subst u;clear HS0)
        | (go_at_call 99;refine (HS1.out _).mono ?_;rintro e u ⟨rfl,hu⟩;subst u;clear HS1)
        | (go_at_call 99;refine (HS2.out _).mono ?_;rintro e u ⟨rfl,hu⟩;subst u;clear HS2)
        | (go_at_call 99;refine (HS3.out _).mono ?_;rintro e u ⟨rfl,hu⟩;subst u;clear HS3))
       go_roundw
       case rel=>exact ⟨q+1,zU,zS,z1a HG2.out (World.grownBy_alloc wr _ none)⟩
       case measure=>simp [intOf];omega
     . have e:q=j2:=zU
       subst e;go_wp2;go_ret;exact ⟨rfl,HG2.out.os,HG2.out.tape,HG2.out.output,HG2.out.size,fun k hk=>HG2.out.block k hk (by simp)⟩
def twL (tw:Nat->Tw):Nat->List Value
 | 0=>[]
 | n+1=>twL tw n ++ [ptrV (tw n).l,ptrV (tw n).r.rb]
theorem y0T (tw:Nat->Tw):∀ n,(twL tw n).length=n * 2
 | 0=>rfl
 | n+1=>by simp [twL,y0T tw n];omega
theorem y5w (tw:Nat->Tw):∀ n i,i < n->(twL tw n)[2 * i]?=some (ptrV (tw i).l)/\(twL tw n)[2 * i+1]?=some (ptrV (tw i).r.rb)
 | 0,i,h=>absurd h (Nat.not_lt_zero _)
 | n+1,i,h=>by
  have hl:=y0T tw n;simp only [twL]
  by_cases e:i=n
  . subst e
    rw [List.getElem?_append_right zU,List.getElem?_append_right zU,show 2 * i - (twL tw i).length=0 by omega,show 2 * i+1 - (twL tw i).length=1 by omega];exact ⟨rfl,rfl⟩
  . rw [List.getElem?_append_left zU,List.getElem?_append_left zU]
    exact y5w tw n i zU
theorem z6t {tw tw':Nat->Tw}:∀ n,(∀ i,i < n->(tw' i).l=(tw i).l/\(tw' i).r=(tw i).r)->twL tw' n=twL tw n
 | 0,_=>rfl
 | n+1,h=>by
  have h1:=h n zU;simp only [twL];rw [z6t n fun i hi=>h i zU,h1.1,h1.2]
structure LwI (b0 B:Nat) (S:Nat->Prop) (ln:Value) (K n:Nat) (tw:Nat->Tw) (w:World):Prop where
 book:BookW S w B ln K
 rows:w.ownsRow b0 87 2 ln n (twL tw n)
 is:∀ i,i < n->TwIs (tw i) w
 ap:∀ i j,i < n->j < n->i ≠ j->∀ k,(tw i).foot k->¬ (tw j).foot k
 bs:∀ i,i < n->∀ k,(tw i).foot k->¬ S k/\ln.ownBlock ≠ some k/\b0<=k
 ls:∀ g,ln.ownBlock=some g->¬ S g
 lo:∀ k,S k->b0<=k
theorem BookW.lt {S:Nat->Prop} {w:World} {B K:Nat} {ln:Value} (h:BookW S w B ln K):∀ k,S k->k < w.heap.size:=by
 obtain ⟨kv,lv,j,j2,ks,ls,h⟩:=h;exact h.low
theorem LwI.below {b0 B:Nat} {S:Nat->Prop} {ln:Value} {K n:Nat} {tw:Nat->Tw} {w u:World} (h:LwI b0 B S ln K n tw w) (hu:Below w.heap.size w u):LwI b0 B S ln K n tw u :=
 ⟨h.book.keep (fun k hk=>hu.block k (h.book.lt k hk)) hu.size,z0m h.rows (Edit.of (S:=fun _=>False) hu) fun _ _=>id,fun i hi=>(h.is i hi).below hu,h.ap,h.bs,h.ls,h.lo⟩
theorem LwI.went {b0 B:Nat} {S:Nat->Prop} {ln:Value} {K n:Nat} {tw:Nat->Tw} {w u:World} (h:LwI b0 B S ln K n tw w) {i:Nat} (hi:i < n) {t':Tw} (hw:Went (tw i) w t' u) (hb:b0<=w.heap.size):LwI b0 B S ln K n (updL tw i t') u:=by
 have hS:∀ k,S k->¬ (tw i).foot k:=fun k hk hc=>(h.bs i hi k hc).1 hk
 have hnew:∀ k,w.heap.size<=k->¬ S k/\ln.ownBlock ≠ some k/\b0<=k/\∀ j,j < n->¬ (tw j).foot k:=fun k hk=>⟨fun hc=>by have:=h.book.lt k hc;omega,fun hc=>by have:=z1n h.rows k hc;omega,zU,fun j hj hc=>by have:=(h.is j hj).lt k hc;omega⟩
 refine ⟨h.book.keep (fun k hk=>hw.ed.block k (h.book.lt k hk) (hS k hk)) hw.ed.size,?_,fun j hj=>?_,fun a b ha hb2 hab k hk hc=>?_,fun j hj k hk=>?_,h.ls,h.lo⟩
 . rw [z6t n fun j hj=>?_]
   . exact z0m h.rows hw.ed fun g hg hc=>(h.bs i hi g hc).2.1 hg
   . by_cases e:j=i
     . subst e;rw [z0z];exact ⟨hw.ptr.1,hw.ptr.2.1⟩
     . rw [z0s _ _ e];exact ⟨rfl,rfl⟩
 . by_cases e:j=i
   . subst e;rw [z0z];exact hw.is
   . rw [z0s _ _ e];exact (h.is j hj).edit hw.ed fun k hk hc=>h.ap j i hj hi e k hk hc
 . by_cases ea:a=i
   . subst ea
     rw [z0z] at hk;rw [z0s _ _ (Ne.symm hab)] at hc;rcases hw.grow k hk with h1 | h1
     . exact h.ap a b ha hb2 hab k h1 hc
     . exact (hnew k h1).2.2.2 b hb2 hc
   . rw [z0s _ _ ea] at hk
     by_cases eb:b=i
     . subst eb
       rw [z0z] at hc;rcases hw.grow k hc with h1 | h1
       . exact h.ap a b ha hb2 hab k hk h1
       . exact (hnew k h1).2.2.2 a ha hk
     . rw [z0s _ _ eb] at hc
       exact h.ap a b ha hb2 hab k hk hc
 . by_cases e:j=i
   . subst e
     rw [z0z] at hk;rcases hw.grow k hk with h1 | h1
     . exact h.bs j hj k h1
     . exact ⟨(hnew k h1).1,(hnew k h1).2.1,(hnew k h1).2.2.1⟩
   . rw [z0s _ _ e] at hk
     exact h.bs j hj k hk
theorem LwI.took {b0 B:Nat} {S:Nat->Prop} {ln:Value} {K n:Nat} {tw:Nat->Tw} {w u:World} {og:Option Nat} (h:LwI b0 B S ln K n tw w) (ht:y5v S w u B ln K og) (hb:b0<=w.heap.size) (ho:∀ g,og=some g->b0<=g/\ln.ownBlock ≠ some g/\∀ i,i < n->¬ (tw i).foot g) :
 LwI b0 B (fun k=>(S k∨og=some k∨w.heap.size<=k)/\k < u.heap.size) ln (K+1) n tw u/\Below b0 w u:=by
 have e:Edit (fun k=>S k∨og=some k) w u:=⟨ht.os,ht.tape,ht.output,ht.size,fun k hk hs=>ht.block k hk (fun hc=>hs (Or.inl hc)) (fun hc=>hs (Or.inr hc))⟩;refine ⟨⟨ht.book,z0m h.rows e fun g hg hc=>?_,fun i hi=>(h.is i hi).edit e fun k hk hc=>?_,h.ap,fun i hi k hk=>⟨fun hc=>?_,(h.bs i hi k hk).2⟩,fun g hg hc=>?_,fun k hk=>?_⟩,e.below hb fun k hk=>?_⟩
 . rcases hc with hc | hc
   . exact h.ls g hg hc
   . exact (ho g hc).2.1 hg
 . rcases hc with hc | hc
   . exact (h.bs i hi k hk).1 hc
   . exact (ho k hc).2.2 i hi hk
 . rcases hc.1 with hc | hc | hc
   . exact (h.bs i hi k hk).1 hc
   . exact (ho k hc).2.2 i hi hk
   . have:=(h.is i hi).lt k hk;omega
 . rcases hc.1 with hc | hc | hc
   . exact h.ls g hg hc
   . exact (ho g hc).2.1 hg
   . have:=z1n h.rows g hg;omega
 . rcases hk.1 with hk | hk | hk
   . exact h.lo k hk
   . exact (ho k hk).1
   . omega
 . rcases hk with hk | hk
   . exact h.lo k hk
   . exact (ho k hk).1
theorem y1Q {w:World} {base n:Nat} {v:Value} {xs:List Value} (h:w.ownsRow base 3 1 v n xs):∃ x,LstE 3 w v n v.ownBlock x:=by
 rcases h.2 with ⟨rfl,rfl⟩ | ⟨g,cap,cur,rfl,h1,h2,h3,h4,h5,h6⟩
 . exact ⟨fun _=>O I 0,.inl ⟨rfl,rfl,rfl⟩⟩
 . refine ⟨fun i=>cur.getD i (O I 0),.inr ⟨g,0,cap,cap,fun i=>cur.getD i (O I 0),rfl,rfl,⟨cur,h2,zU,fun i hi=>?_⟩,zU,h3,fun i hi=>by rw [Nat.zero_add]⟩⟩
   show cur[i]?=some (cur.getD i (O I 0))
   rw [Array.getD_eq_getD_getElem?,Array.getElem?_eq_getElem (show i < cur.size by omega)]
   rfl
end Go.Proofs.YtlncjgnomhpjnabGreatDoor
