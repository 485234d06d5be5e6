import Derived.Test.YtlncjgnomhpjnabGreatDoorQL30
set_option maxRecDepth 100000
namespace Go.Proofs.YtlncjgnomhpjnabGreatDoor
open Go.Value renaming int → O
open Go.IntKind renaming i64 → I
open Go.Proofs.Tryz
open Go.RowKit Go.Deep
set_option linter.unusedVariables false
theorem z0K:(prog.info? 64).map (·.size)=some 11:=zT
theorem y6H (tmps:Array Value) (R:Nat) (cs:Array Value) (W:World) (h:Bx W R 64 cs) (hs:cs.size=11) (h2:tmps.getD 2 undef=.pointer (some ⟨R,0,none⟩)) :
 (results Tryz.f52 tmps).run prog W=.ok (.agg cs) W:=by
 have hl:=run_loadVar_row (P:=prog) W R 64 64 cs (0,0) _ h underlying64 rfl (by rw [hs];exact z0K);rw [Array.getD_eq_getD_getElem?] at h2;simp [results,results52,asAddr,h2,hl]
theorem z1P {w:World} {base base':Nat} {e:TypeId} {size:Nat} {v:Value} {n:Nat} {xs:List Value} (h:w.ownsRow base e size v n xs) (hb:base'<=base):w.ownsRow base' e size v n xs :=
 ⟨h.1,h.2.imp id fun ⟨g,cap,cur,h1,h2,h3⟩=>⟨g,cap,cur,h1,zO hb h2,h3⟩⟩
def Apt (v1 v2 v3:Value):Prop:=∀ k,(v1.ownBlock=some k->v2.ownBlock ≠ some k/\v3.ownBlock ≠ some k)/\(v2.ownBlock=some k->v3.ownBlock ≠ some k)
structure Seen (p:Lpar) (s:Lst) (base:Nat) (v1 v2 v3:Value) (w:World):Prop where
 held:w.ownsRow base 3 1 v1 p.W ((List.range p.W).map fun j=>O I (z4w s j))
 shelf:w.ownsRow base 3 1 v2 s.shelf.length (s.shelf.map fun (k:Nat)=>O I (k:Int))
 ended:w.ownsRow base 3 1 v3 (s.ended p).length ((s.ended p).map fun (k:Nat)=>O I (k:Int))
def z0X (s:Lst) (v1 v2 v3:Value):Array Value:=#[O I (lstN s),O I s.given,O I s.summed,O I s.wrote,O I s.writes,O I s.jobs.length,O I s.lane.length,O I s.ready.length,v1,v2,v3]
set_option linter.unusedSimpArgs false in
set_option maxHeartbeats 8000000 in
theorem y4W {p:Lpar} {a:Lad} {x:Lsn} {F:Nat->Prop} {s:Lst} {w:World} (h:LineIs p a x F s w) (hi:LInv p s) :
 Calls prog 52 #[ptrV a.lb] w fun e w'=>∃ v1 v2 v3,e=.returned (.agg (z0X s v1 v2 v3))/\Seen p s w.heap.size v1 v2 v3 w'/\Below w.heap.size w w'/\Apt v1 v2 v3:=by
 obtain ⟨sv,fv,lv,hl,hw,c3,-⟩:=h.cells;have hnb:=h.kp.nb;have hNB:=h.NB;have hsl:=hi.shelf_le;rw [z4S] at c3;obtain ⟨A,cap,rfl,-⟩:=z0j c3;have HL:Hid (∀ u,Below w.heap.size w u->LineIs p a x F s u):=fun u hu=>h.keep (fun k hk=>hu.block k (h.lt k hk)) hu.size
 have HS:Hid (∀ u,Below w.heap.size w u->u.cell? ⟨a.lb,24,none⟩=some (.pointer (some ⟨a.sp,0,none⟩))/\u.cell? ⟨a.lb,25,none⟩=some (.pointer (some ⟨a.su,0,none⟩))/\u.cell? ⟨a.lb,26,none⟩=some (.pointer (some ⟨a.wr,0,none⟩))/\u.cell? ⟨a.lb,19,none⟩=some (O I s.writes)/\u.cell? ⟨a.lb,14,none⟩=some (.pointer (some ⟨a.qj,0,none⟩))/\u.cell? ⟨a.lb,15,none⟩=some (.pointer (some ⟨a.ql,0,none⟩))/\u.cell? ⟨a.lb,16,none⟩=some (.pointer (some ⟨a.qr,0,none⟩))/\u.cell? ⟨a.lb,17,none⟩=some (.slice A s.shelf.length cap)/\u.cell? ⟨a.sp,3,none⟩=some (O I s.given)/\u.cell? ⟨a.su,2,none⟩=some (O I s.summed)):=fun u hu=>by
  have b1:=hl.below hu;have b2:=h.spl.below hu;have b3:=h.sum.below hu;exact ⟨b1.cell 24,b1.cell 25,b1.cell 26,b1.cell 19,b1.cell 14,b1.cell 15,b1.cell 16,b1.cell 17,b2.cell 3,b3.cell 2⟩
 have HST:Hid (∀ u,Below w.heap.size w u->Calls prog 106 #[ptrV a.lb] u fun e w'=>e=.returned (O I (lstN s))/\Below u.heap.size u w'):=fun u hu=>y4V (HL.out u hu) hi
 have HWR:Hid (∀ u,Below w.heap.size w u->Calls prog 107 #[ptrV a.wr] u fun e w'=>e=.returned (O I s.wrote)/\w'=u):=fun u hu=>z4d (HL.out u hu)
 have HCJ:Hid (∀ u,Below w.heap.size w u->Calls prog 108 #[.pointer (some ⟨a.qj,0,none⟩)] u fun e w'=>e=.returned (O I s.jobs.length)/\w'=u):=fun u hu=>y8U (HL.out u hu)
 have HCL:Hid (∀ u,Below w.heap.size w u->Calls prog 108 #[.pointer (some ⟨a.ql,0,none⟩)] u fun e w'=>e=.returned (O I s.lane.length)/\w'=u):=fun u hu=>y8V (HL.out u hu)
 have HCR:Hid (∀ u,Below w.heap.size w u->Calls prog 109 #[.pointer (some ⟨a.qr,0,none⟩)] u fun e w'=>e=.returned (O I s.ready.length)/\w'=u):=fun u hu=>y7q (HL.out u hu)
 have HHE:Hid (∀ u,Below w.heap.size w u->Calls prog 110 #[ptrV a.lb] u fun e w'=>∃ v,e=.returned v/\w'.ownsRow u.heap.size 3 1 v p.W ((List.range p.W).map fun j=>O I (z4w s j))/\Below u.heap.size u w'):=fun u hu=>y6D (HL.out u hu)
 have HNU:Hid (∀ u,Below w.heap.size w u->Calls prog 111 #[.slice A s.shelf.length cap] u fun e w'=>∃ v,e=.returned v/\w'.ownsRow u.heap.size 3 1 v s.shelf.length (s.shelf.map fun (k:Nat)=>O I (k:Int))/\Below u.heap.size u w'):=fun u hu=>y0z (frB x) s.shelf a.b1 _ u (z0m c3 (Edit.of (S:=fun _=>False) hu) fun _ _=>id) zU
 have HTE:Hid (∀ u,Below w.heap.size w u->Calls prog 112 #[ptrV a.lb,.func (.methodOf 178 "reel/line.hasEnded") #[] #[]] u fun e w'=>∃ v,e=.returned v/\w'.ownsRow u.heap.size 3 1 v (s.ended p).length ((s.ended p).map fun (k:Nat)=>O I (k:Int))/\Below u.heap.size u w'):=fun u hu=>z7j (HL.out u hu)
 have HB0:Hid (Below w.heap.size w (w.alloc (.cells #[O I 0,O I 0,O I 0,O I 0,O I 0,O I 0,O I 0,O I 0,.slice none 0 0,.slice none 0 0,.slice none 0 0] 64))):=zX.alloc zY _;have HX0:=zZ (Bx.new w #[O I 0,O I 0,O I 0,O I 0,O I 0,O I 0,O I 0,O I 0,.slice none 0 0,.slice none 0 0,.slice none 0 0] 64);obtain ⟨W0,hW0⟩:∃ W,W=w.alloc (.cells #[O I 0,O I 0,O I 0,O I 0,O I 0,O I 0,O I 0,O I 0,.slice none 0 0,.slice none 0 0,.slice none 0 0] 64):=⟨_,rfl⟩;obtain ⟨R,hR⟩:∃ R,R=w.heap.size:=⟨_,rfl⟩;have hz:W0.heap.size=R+1:=by rw [hW0,hR];simp
 have HZ:=zZ hz;rw [← hW0] at HB0 HX0;rw [← hR] at HX0;have HRR:=zZ hR;have HW0:=zZ hW0;have HK:Hid (∀ u,Below W0.heap.size W0 u->Below w.heap.size w u):=fun u hu=>HB0.out.trans (hu.mono (by rw [HZ.out,HRR.out];exact Nat.le_succ _))
 have HFIN:Hid (∀ u2 u3 u4 v1 v2 v3 B2 B3 B4,R+1<=B2->R+1<=B3->R+1<=B4->u2.heap.size<=B3->u3.heap.size<=B4->u2.ownsRow B2 3 1 v1 p.W ((List.range p.W).map fun j=>O I (z4w s j))->Below u2.heap.size u2 u3->u3.ownsRow B3 3 1 v2 s.shelf.length (s.shelf.map fun (k:Nat)=>O I (k:Int))->Below u3.heap.size u3 u4 ->
     u4.ownsRow B4 3 1 v3 (s.ended p).length ((s.ended p).map fun (k:Nat)=>O I (k:Int))->Below W0.heap.size W0 u4->Seen p s w.heap.size v1 v2 v3 (u4.setRow R (z0X s v1 v2 v3))/\Below w.heap.size w (u4.setRow R (z0X s v1 v2 v3))/\Apt v1 v2 v3):=by
  intro u2 u3 u4 v1 v2 v3 B2 B3 B4 h2 h3 h4 g3 g4 o1 b3 o2 b4 o3 b;have hw0:w.heap.size=R:=HRR.out.symm;have er:Edit (·=R) u4 (u4.setRow R (z0X s v1 v2 v3)):=⟨rfl,rfl,rfl,by simp,fun k hk hS=>setRow_other _ _ _ _ hS⟩;refine ⟨⟨?_,?_,?_⟩,?_,?_⟩
  . exact z1P (z0m (z0m (z0m o1 (Edit.of (S:=fun _=>False) b3) fun _ _=>id) (Edit.of (S:=fun _=>False) b4) fun _ _=>id) er fun g hg hh=>by have:=z0t o1 g hg;omega) zU
  . exact z1P (z0m (z0m o2 (Edit.of (S:=fun _=>False) b4) fun _ _=>id) er fun g hg hh=>by have:=z0t o2 g hg;omega) zU
  . exact z1P (z0m o3 er fun g hg hh=>by have:=z0t o3 g hg;omega) zU
  . have h5:=(HK.out u4 b)
    exact ((Edit.of (S:=fun _=>False) h5).row (g:=R) zU (z0X s v1 v2 v3)).below zY (fun k hk=>hk.elim)
  . have q1:=z1n o1
    have q2:=z1n o2;have q3:=b3.size;exact fun k=>⟨fun hk=>⟨fun hc=>by have:=q1 k hk;have:=z0t o2 k hc;omega,fun hc=>by have:=q1 k hk;have:=z0t o3 k hc;omega⟩,fun hk hc=>by have:=q2 k hk;have:=z0t o3 k hc;omega⟩
 have hS0:=HS.out W0.drew (HK.out _ (z0W zX 1));have HS1:Hid (∀ u,Below W0.heap.size W0 u->u.cell? ⟨a.lb,24,none⟩=some (.pointer (some ⟨a.sp,0,none⟩))/\u.cell? ⟨a.lb,25,none⟩=some (.pointer (some ⟨a.su,0,none⟩))/\u.cell? ⟨a.lb,26,none⟩=some (.pointer (some ⟨a.wr,0,none⟩))/\u.cell? ⟨a.lb,19,none⟩=some (O I s.writes)/\u.cell? ⟨a.lb,14,none⟩=some (.pointer (some ⟨a.qj,0,none⟩))/\u.cell? ⟨a.lb,15,none⟩=some (.pointer (some ⟨a.ql,0,none⟩))/\u.cell? ⟨a.lb,16,none⟩=some (.pointer (some ⟨a.qr,0,none⟩))/\u.cell? ⟨a.lb,17,none⟩=some (.slice A s.shelf.length cap)/\u.cell? ⟨a.sp,3,none⟩=some (O I s.given)/\u.cell? ⟨a.su,2,none⟩=some (O I s.summed)):=fun u hu=>HS.out u (HK.out u hu)
 have HS5:Hid (∀ u,Below w.heap.size w u->u.cell? ⟨a.lb,24,none⟩=some (.pointer (some ⟨a.sp,0,none⟩))/\u.cell? ⟨a.lb,25,none⟩=some (.pointer (some ⟨a.su,0,none⟩))/\u.cell? ⟨a.lb,26,none⟩=some (.pointer (some ⟨a.wr,0,none⟩))/\u.cell? ⟨a.lb,19,none⟩=some (O I s.writes)/\u.cell? ⟨a.lb,14,none⟩=some (.pointer (some ⟨a.qj,0,none⟩))/\u.cell? ⟨a.lb,15,none⟩=some (.pointer (some ⟨a.ql,0,none⟩))/\u.cell? ⟨a.lb,16,none⟩=some (.pointer (some ⟨a.qr,0,none⟩))/\u.cell? ⟨a.lb,17,none⟩=some (.slice A s.shelf.length cap)/\u.cell? ⟨a.sp,3,none⟩=some (O I s.given)/\u.cell? ⟨a.su,2,none⟩=some (O I s.summed)):=HS;clear h hi hl hw c3 hnb hNB hsl HL;unfold z0X at *;generalize lstN s=ls at *;unfold ptrV at *
 go_enter func52,ntmps52
 go_wp2_with fail;rw [← hW0,← hR];clear hW0 hR hz HW0;refine wp_region_held_drew (S:=fun w'=>w'.cell? ⟨a.lb,24,none⟩=some (.pointer (some ⟨a.sp,0,none⟩))/\w'.cell? ⟨a.lb,25,none⟩=some (.pointer (some ⟨a.su,0,none⟩))/\w'.cell? ⟨a.lb,26,none⟩=some (.pointer (some ⟨a.wr,0,none⟩))/\w'.cell? ⟨a.lb,19,none⟩=some (O I s.writes)/\w'.cell? ⟨a.lb,14,none⟩=some (.pointer (some ⟨a.qj,0,none⟩))/\w'.cell? ⟨a.lb,15,none⟩=some (.pointer (some ⟨a.ql,0,none⟩))/\w'.cell? ⟨a.lb,16,none⟩=some (.pointer (some ⟨a.qr,0,none⟩))/\w'.cell? ⟨a.lb,17,none⟩=some (.slice A s.shelf.length cap)/\w'.cell? ⟨a.sp,3,none⟩=some (O I s.given)/\w'.cell? ⟨a.su,2,none⟩=some (O I s.summed)) zT hS0 (fun _=>?_);refine tq 0 ?_
 refine tq 2 ?_;refine tq 3 ?_;refine tq 4 ?_;refine tq 5 ?_;refine tq 6 ?_;refine tq 7 ?_;refine tq 8 ?_;refine tq 9 ?_;refine tq 10 ?_;refine tq 11 ?_;refine tq 12 ?_;refine tq 13 ?_;refine tq 14 ?_;refine tq 15 ?_;refine tq 16 ?_;refine tq 17 ?_;refine tq 18 ?_;refine tq 19 ?_;refine tq 21 ?_;refine tq 22 ?_;refine tq 23 ?_;refine tq 24 ?_;refine tq 25 ?_;refine tq 26 ?_;refine tq 27 ?_;refine tq 28 ?_;refine tq 29 ?_;refine tq 31 ?_;refine tq 32 ?_;refine tq 33 ?_;refine tq 34 ?_;refine tq 36 ?_;refine tq 37 ?_;refine tq 38 ?_;refine tq 39 ?_;refine tq 41 ?_;refine tq 43 ?_;refine tq 44 ?_;refine tq 45 ?_;refine tq 46 ?_;refine tq 48 ?_;refine tq 49 ?_
 refine zQ 1 (fun K hK=>?_)
 go_simp
 go_at_call 106
 refine (HST.out W0.drew (HK.out _ (z0W zX 1))).mono ?_;rintro e u1 ⟨rfl,hb⟩;have hb1:Below W0.heap.size W0 u1:=⟨hb.os,hb.tape,hb.output,hb.size,hb.block⟩;have hS1:=HS1.out u1 hb1;have HB1:=zZ hb1;have HW1:=zZ (HWR.out u1 (HK.out u1 hb1));have HJ1:=zZ (HCJ.out u1 (HK.out u1 hb1));have HL1:=zZ (HCL.out u1 (HK.out u1 hb1));have HR1:=zZ (HCR.out u1 (HK.out u1 hb1));have HH1:=zZ (HHE.out u1 (HK.out u1 hb1));clear hb hb1 HST HWR HCJ HCL HCR HHE hS0;go_wp2_with fail;refine zV hK hS1 (fun _=>?_);clear hK K
 refine zQ 20 (fun K hK=>?_)
 go_simp
 go_at_call 107
 refine HW1.out.mono ?_;rintro e uu ⟨rfl,hu⟩;subst uu;go_wp2_with fail;refine zV hK hS1 (fun _=>?_);clear hK K
 refine zQ 30 (fun K hK=>?_)
 go_simp
 go_at_call 108
 refine HJ1.out.mono ?_;rintro e uu ⟨rfl,hu⟩;subst uu;go_wp2_with fail;refine zV hK hS1 (fun _=>?_);clear hK K
 refine zQ 35 (fun K hK=>?_)
 go_simp
 go_at_call 108
 refine HL1.out.mono ?_;rintro e uu ⟨rfl,hu⟩;subst uu;go_wp2_with fail;refine zV hK hS1 (fun _=>?_);clear hK K
 refine zQ 40 (fun K hK=>?_)
 go_simp
 go_at_call 109
 refine HR1.out.mono ?_;rintro e uu ⟨rfl,hu⟩;subst uu;clear HW1 HJ1 HL1 HR1;go_wp2_with fail;refine zV hK hS1 (fun _=>?_);clear hK K
 refine zQ 42 (fun K hK=>?_)
 go_simp
 go_at_call 110
 refine HH1.out.mono ?_;rintro e u2 ⟨v1,rfl,ho1,hb⟩;have hb2:Below W0.heap.size W0 u2:=HB1.out.trans (hb.mono HB1.out.size);have hS2:=HS1.out u2 hb2;have HB2:=zZ hb2;have HO1:=zZ ho1;obtain ⟨A1,cap1,rfl,-⟩:=z0j ho1;have HN2:=zZ (HNU.out u2 (HK.out u2 hb2));clear hb hb2 HH1 hS1 HNU ho1;go_wp2_with fail;refine zV hK hS2 (fun _=>?_);clear hK K
 refine zQ 47 (fun K hK=>?_)
 go_simp
 go_at_call 111
 refine HN2.out.mono ?_;rintro e u3 ⟨v2,rfl,ho2,hb⟩;have hb3:Below W0.heap.size W0 u3:=HB2.out.trans (hb.mono HB2.out.size);have hS3:=HS1.out u3 hb3;have HB3:=zZ hb3;have HO2:=zZ ho2;have HB23:=zZ hb;obtain ⟨A2,cap2,rfl,-⟩:=z0j ho2;have HT3:=zZ (HTE.out u3 (HK.out u3 hb3));clear hb hb3 HN2 hS2 HTE ho2;go_wp2_with fail;refine zV hK hS3 (fun _=>?_);clear hK K
 refine zQ 50 (fun K hK=>?_)
 go_simp
 go_at_call 112
 refine HT3.out.mono ?_;rintro e u4 ⟨v3,rfl,ho3,hb⟩;have hb4:Below W0.heap.size W0 u4:=HB3.out.trans (hb.mono HB3.out.size);have hS4:=HS1.out u4 hb4;have hF:=HFIN.out u2 u3 u4 _ _ v3 u1.heap.size u2.heap.size u3.heap.size (by rw [← HZ.out];exact HB1.out.size) (by rw [← HZ.out];exact HB2.out.size) (by rw [← HZ.out];exact HB3.out.size) zY zY HO1.out HB23.out HO2.out hb ho3 hb4;obtain ⟨A3,cap3,rfl,-⟩:=z0j ho3;have hS5:=HS5.out _ hF.2.1;have HF:=zZ hF;have HX4:=zZ (HX0.out.below hb4);clear hb hb4 HT3 hS3 ho3 hF;go_wp2_with fail;refine zV hK hS4 (fun _=>?_);clear hK K
 refine tq 51 ?_
 refine zQ 52 (fun K hK=>?_);refine z1p rfl _ _ 64 rfl R 64 _ #[O I ls,O I s.given,O I s.summed,O I s.wrote,O I s.writes,O I s.jobs.length,O I s.lane.length,O I s.ready.length,.slice A1 p.W cap1,.slice A2 s.shelf.length cap2,.slice A3 (s.ended p).length cap3] rfl rfl HX4.out z0K rfl rfl ?_;go_wp2_with fail;refine zV hK hS5 (fun _=>?_);clear hK K
 refine wpAnyH_done zT ?_ _;go_wp2;exact bodyPost_ret (y6H _ R _ _ (HX4.out.row _) rfl rfl) rfl ⟨_,_,_,rfl,HF.out⟩
end Go.Proofs.YtlncjgnomhpjnabGreatDoor
