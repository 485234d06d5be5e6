import Derived.Test.YtlncjgnomhpjnabGreatDoorQL5
namespace Go.Proofs.YtlncjgnomhpjnabGreatDoor
open Go.Value renaming int → O
open Go.IntKind renaming i64 → I
open Go.Proofs.Tryz
open Go.RowKit Go.Deep
set_option linter.unusedVariables false
theorem y8G (w:World):Wr (w.alloc (.cells #[.pointer none,.slice none 0 0] 326)) w.heap.size w.heap.size []:=by
 refine .inl (Lib.BuilderAtF.of ⟨Nat.le_refl _,.slice none 0 0,blk_alloc_new _ _,⟨rfl,.inl ⟨rfl,rfl⟩⟩,by simp [Value.ownBlock]⟩)
theorem Wr.text_ne {T:List UInt8} (h:4<=T.length):T ≠ []:=by
 intro e;rw [e] at h;simp at h
set_option maxRecDepth 100000 in
set_option maxHeartbeats 4000000 in
theorem y7H (kind shift:Nat) (A:Option Addr) (n c width:Nat) (x:Nat->Int) (w:World) (h7:kind<=7) (hs:shift<=12) (hn1:1<=n) (hn:n<=32) (hnc:n<=c) (hw:width<=13) (hok:2<=kind->okG kind x n=true) (hS:Shorts w A n x) :
 Calls prog 264 #[O I width,O I shift,.slice A n c,.agg (z0r kind width x n)] w fun e w'=>e=.returned (.string ⟨(binT kind 4 ++ binT shift 4 ++ z1G kind width x n).toArray⟩)/\Below w.heap.size w w':=by
 obtain ⟨B,hB⟩:∃ B,B=w.heap.size+1:=⟨_,rfl⟩;obtain ⟨w0,hw0⟩:∃ w0,w0=(w.alloc (.cells (z0r kind width x n) 338)).alloc (.cells #[.pointer none,.slice none 0 0] 326):=⟨_,rfl⟩;have hb0:Below w.heap.size w w0:=by rw [hw0];exact (zX.alloc zY _).alloc (by simp) _
 have HT0:Hid (Bx w0 w.heap.size 338 (z0r kind width x n)):=by rw [hw0];exact (Bx.new _ _ _).alloc _
 have HA0:Hid (Wr w0 B B []):=by
  have:=y8G (w.alloc (.cells (z0r kind width x n) 338));rw [World.size_alloc] at this;rw [hw0,hB];exact this
 have hBw0:B<=w0.heap.size:=by rw [hw0,hB];simp
 have hTBb:w.heap.size ≠ B:=zU
 have HW00:=zZ hb0;have HII:Hid (∀ u,Below B w0 u->IntsAt u A n x):=fun u hu=>(hS.ints.belowB hb0 hS.low).belowB hu (fun y hy h0=>by have:=hS.low y hy h0;omega)
 have HLOW:Hid (∀ y,A=some y->0 < n->y.block < B):=fun y hy h0=>by have:=hS.low y hy h0;omega
 have HXX:=zZ hS.bd;have HFIN:Hid (∀ u,Below B w0 u->Below w.heap.size w u):=fun u hu=>hb0.trans (hu.mono zU)
 have HN1:=zZ (z1k B B [] (kind:Int) 4 w0 HA0.out zU (by simp) hBw0);rw [List.nil_append] at HN1;have HN2:=zZ (fun (u:World) (hu:Wr u B B (binT kind 4)) (hs':B<=u.heap.size)=>z1k B B (binT kind 4) (shift:Int) 4 u hu zU (by rw [z0e];omega) hs');have HTX:=zZ (fun (T:List UInt8) (u:World) (hu:Wr u B B (binT kind 4 ++ binT shift 4 ++ T))=>y3D B B (binT kind 4 ++ binT shift 4 ++ T) u hu (Wr.text_ne (by rw [zN,zN,z0e];omega)));obtain ⟨T2,hT2⟩:∃ T2,T2=binT kind 4 ++ binT shift 4:=⟨_,rfl⟩;have hT2l:T2.length=8:=by rw [hT2,zN,z0e,z0e]
 rw [← hT2] at HN2 HTX ⊢;have q0:=HT0.out.cell 0;rw [z0Y] at q0;clear hT2 hb0 hS;subst hw0
 by_cases hk0:kind=0
 . have HBT:Hid (z1G kind width x n=binT (x 0) width):=by show _=_;unfold z1G;rw [if_pos hk0]
   have k0:((kind:Int) == 0)=true:=by simp [hk0]
   have HNB:=zZ (fun (u:World) (hu:Wr u B B T2) (hs':B<=u.heap.size)=>z1k B B T2 (x 0) width u hu zU zU hs');rw [← HBT.out] at HNB;clear hk0 hok;subst hB
   go_enter func264,ntmps264
   go_wp2_with (first
    | (go_at_call 257;refine HN1.out.mono ?_;rintro e w1 ⟨rfl,h1,h2⟩;have HM1:=zZ (And.intro h1 h2);clear h1 h2 HN1 q0;have HTQ:=zZ (HT0.out.keptW HM1.out.2 hTBb zR);have q0:=HTQ.out.cell 0;rw [z0Y] at q0;clear HTQ)
    | (go_at_call 257;refine (HN2.out _ ?_ ?_).mono ?_;exact HM1.out.1;exact zO hBw0 HM1.out.2.1.size;rintro e w2 ⟨rfl,h1,h2⟩;have HM2:=zZ (And.intro h1 (HM1.out.2.trans h2));clear h1 h2 HN2 HM1 q0;have HTQ:=zZ (HT0.out.keptW HM2.out.2 hTBb zR);have q0:=HTQ.out.cell 0;rw [z0Y] at q0;clear HTQ;obtain ⟨bb,off,hx,hc⟩:=(HII.out w2 HM2.out.2.1).open zU;have hcz:=hc 0 zU;rw [Nat.add_zero] at hcz;clear hc;subst hx)
    | (go_at_call 257;refine (HNB.out _ ?_ ?_).mono ?_;exact HM2.out.1;exact zO hBw0 HM2.out.2.1.size;rintro e w3 ⟨rfl,h1,h2⟩;have HM3:=zZ (And.intro h1 (HM2.out.2.1.trans h2.1));clear h1 h2 HNB)
    | (go_at_call 258;refine (HTX.out (z1G kind width x n) _ ?_).mono ?_;exact HM3.out.1;rintro e w4 ⟨rfl,h1⟩;have HZ:=zZ h1;clear h1 HTX))
   go_ret;exact ⟨rfl,HFIN.out _ (HM3.out.2.trans HZ.out)⟩
 . have k0:((kind:Int) == 0)=false:=by simp [hk0]
   by_cases hk1:kind=1
   . have HBT:Hid (z1G kind width x n=z0B x width n):=by show _=_;unfold z1G;rw [if_neg hk0,if_pos hk1]
     have k1:((kind:Int) == 1)=true:=by simp [hk1]
     have HNB:=zZ (fun (u:World) (hu:Wr u B B T2) (hs':B<=u.heap.size) (hI:∀ u',KeptW B B u u'->IntsAt u' A n x)=>z3q B B T2 x A n c width u hu hn zU zU hs' hI);rw [← HBT.out] at HNB;clear hk0 hk1 hok;subst hB
     go_enter func264,ntmps264
     go_wp2_with (first
      | (go_at_call 257;refine HN1.out.mono ?_;rintro e w1 ⟨rfl,h1,h2⟩;have HM1:=zZ (And.intro h1 h2);clear h1 h2 HN1 q0;have HTQ:=zZ (HT0.out.keptW HM1.out.2 hTBb zR);have q0:=HTQ.out.cell 0;rw [z0Y] at q0;clear HTQ)
      | (go_at_call 257;refine (HN2.out _ ?_ ?_).mono ?_;exact HM1.out.1;exact zO hBw0 HM1.out.2.1.size;rintro e w2 ⟨rfl,h1,h2⟩;have HM2:=zZ (And.intro h1 (HM1.out.2.trans h2));clear h1 h2 HN2 HM1 q0;have HTQ:=zZ (HT0.out.keptW HM2.out.2 hTBb zR);have q0:=HTQ.out.cell 0;rw [z0Y] at q0;clear HTQ;skip)
      | (go_at_call 291;refine (HNB.out _ ?_ ?_ ?_).mono ?_;exact HM2.out.1;exact zO hBw0 HM2.out.2.1.size;exact (fun u' hu'=>HII.out u' (HM2.out.2.1.trans hu'.1));rintro e w3 ⟨rfl,h1,h2⟩;have HM3:=zZ (And.intro h1 (HM2.out.2.1.trans h2.1));clear h1 h2 HNB)
      | (go_at_call 258;refine (HTX.out (z1G kind width x n) _ ?_).mono ?_;exact HM3.out.1;rintro e w4 ⟨rfl,h1⟩;have HZ:=zZ h1;clear h1 HTX))
     go_ret;exact ⟨rfl,HFIN.out _ (HM3.out.2.trans HZ.out)⟩
   . have h2:2<=kind:=zU
     have HBT:Hid (z1G kind width x n=gT kind width x n):=by show _=_;unfold z1G;rw [if_neg hk0,if_neg hk1]
     have k1:((kind:Int) == 1)=false:=by simp;omega
     have HNB:=zZ (fun (u:World) (hu:Wr u B B T2) (hk':Below B ((w.alloc (.cells (z0r kind width x n) 338)).alloc (.cells #[.pointer none,.slice none 0 0] 326)) u)=>z6B B B T2 kind A n c width x u hu (zO hBw0 hk'.size) h2 h7 hn hnc hw (hok h2) zU (fun u' hu'=>HII.out u' (hk'.trans hu')) HLOW.out HXX.out);rw [← HBT.out] at HNB;clear hk0 hk1 hok;subst hB
     go_enter func264,ntmps264
     go_wp2_with (first
      | (go_at_call 257;refine HN1.out.mono ?_;rintro e w1 ⟨rfl,h1,h2⟩;have HM1:=zZ (And.intro h1 h2);clear h1 h2 HN1 q0;have HTQ:=zZ (HT0.out.keptW HM1.out.2 hTBb zR);have q0:=HTQ.out.cell 0;rw [z0Y] at q0;clear HTQ)
      | (go_at_call 257;refine (HN2.out _ ?_ ?_).mono ?_;exact HM1.out.1;exact zO hBw0 HM1.out.2.1.size;rintro e w2 ⟨rfl,h1,h2⟩;have HM2:=zZ (And.intro h1 (HM1.out.2.trans h2));clear h1 h2 HN2 HM1 q0;have HTQ:=zZ (HT0.out.keptW HM2.out.2 hTBb zR);have q0:=HTQ.out.cell 0;rw [z0Y] at q0;clear HTQ;skip)
      | (refine z0h rfl _ 338 rfl w.heap.size 338 (z0r kind width x n) (0,0) _ rfl (HT0.out.keptW HM2.out.2 hTBb zR) underlying338 rfl z0w ?_)
      | (go_at_call 292;refine (HNB.out _ ?_ ?_).mono ?_;exact HM2.out.1;exact HM2.out.2.1;rintro e w3 ⟨rfl,h1,h2⟩;have HM3:=zZ (And.intro h1 (HM2.out.2.1.trans h2));clear h1 h2 HNB)
      | (go_at_call 258;refine (HTX.out (z1G kind width x n) _ ?_).mono ?_;exact HM3.out.1;rintro e w4 ⟨rfl,h1⟩;have HZ:=zZ h1;clear h1 HTX))
     go_ret;exact ⟨rfl,HFIN.out _ (HM3.out.2.trans HZ.out)⟩
end Go.Proofs.YtlncjgnomhpjnabGreatDoor
