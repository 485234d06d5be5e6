import Derived.Test.YtlncjgnomhpjnabGreatDoorQL47
set_option maxRecDepth 100000
namespace Go.Proofs.YtlncjgnomhpjnabGreatDoor
open Go.Value renaming int → O
open Go.IntKind renaming i64 → I
open Go.Proofs.Tryz
open Go.RowKit Go.Deep
set_option linter.unusedVariables false
set_option linter.unusedSimpArgs false in
set_option maxHeartbeats 8000000 in
theorem y6R {ch d B c3 c4 c5 c6 c7 S:Nat} {a:Option Addr} {cap:Nat} {A:Nat->Option Addr} {C:Nat->Nat} {G:Nat->Nat->Int} (w:World) (h:CfgK ch d B c3 c4 c5 c6 c7) (hk:KP d ch B c3 c4 S G) (fail:Int)
 (hA:ListsAt w a ch A (fun _=>S) C) (hC:∀ i,i < ch->S<=C i) (hI:∀ i,i < ch->IntsAt w (A i) S (G i)) (hlow:Low w.heap.size a ch A (fun _=>S)) (hT:z1v w 2) (hTl:2 < w.heap.size) :
 Calls prog 75 #[.agg #[O I ch,O I d,O I B,O I c3,O I c4,O I c5,O I c6,O I c7],.slice a ch cap,O I fail] w fun e w'=>∃ r,e=.returned (.tuple #[ptrV r.rb,O I 0])/\RawIs ⟨nBlk S B,c5,c6,c7,fail⟩ ⟨ch,d,B,c3,c4,S,G⟩ r (z0i Lst.init Tab.init) w'/\(∀ k,r.own k∨r.fv.ownBlock=some k->w.heap.size<=k)/\Below w.heap.size w w':=by
 obtain ⟨W0,hW0⟩:∃ W0,W0=w.alloc (.cells #[O I ch,O I d,O I B,O I c3,O I c4,O I c5,O I c6,O I c7] 23):=⟨_,rfl⟩;have b0:Below w.heap.size w W0:=hW0 ▸ zX.alloc zY _;have hz0:W0.heap.size=w.heap.size+1:=by rw [hW0];simp
 have hx0:Bx W0 w.heap.size 23 #[O I ch,O I d,O I B,O I c3,O I c4,O I c5,O I c6,O I c7]:=hW0 ▸ Bx.new w #[O I ch,O I d,O I B,O I c3,O I c4,O I c5,O I c6,O I c7] 23;obtain ⟨n0,hn0⟩:∃ n0,n0=w.heap.size:=⟨_,rfl⟩;have lift:∀ u,Below W0.heap.size W0 u->Below w.heap.size w u:=fun u hu=>b0.trans (hu.mono b0.size)
 have lowU:∀ u,Below w.heap.size w u->Low u.heap.size a ch A (fun _=>S):=fun u hu=>⟨fun x hx h0=>zP (hlow.1 x hx h0) hu.size,fun i hi x hx h0=>zP (hlow.2 i hi x hx h0) hu.size⟩
 have hAU:∀ u,Below w.heap.size w u->ListsAt u a ch A (fun _=>S) C:=fun u hu=>hA.below hu hlow.1
 have hIU:∀ u,Below w.heap.size w u->∀ i,i < ch->IntsAt u (A i) S (G i):=fun u hu i hi=>(hI i hi).below hu (hlow.2 i hi)
 have ch1:=h.ch1;have ch4:=h.ch4;have hS3:=hk.S3;have hB1:=hk.B1;have hB32:=hk.B32;have hnb:=hk.nb;have c58:=h.c58;have hchk:=(y5i (y1N h hk)).2;have HCK:Hid (Calls prog 141 #[.agg #[O I ch,O I d,O I B,O I c3,O I c4,O I c5,O I c6,O I c7],.slice a ch cap] W0 fun e w'=>e=.returned (O I 0)/\Below W0.heap.size W0 w'):=by
  have:=z7p ch d B c3 c4 c5 c6 c7 a ch cap A (fun _=>S) C G W0 zU (fun i hi=>zU) (hAU _ b0) (hIU _ b0) (lowU _ b0);rw [hchk] at this;exact this
 have HAF:Hid (∀ u,Below w.heap.size w u->Calls prog 142 #[.agg #[O I ch,O I d,O I B,O I c3,O I c4,O I c5,O I c6,O I c7],.slice a ch cap] u fun e w'=>∃ kv,e=.returned kv/\w'.ownsRow u.heap.size 9 1 kv (nBlk S B) (frsL d ch G S B (nBlk S B))/\Below u.heap.size u w'):=fun u hu =>
  z7R c3 c4 c5 c6 c7 d B a ch cap A S C G u (by have:=hk.d4;omega) hk.d12 ch1 ch4 hB1 hB32 hS3 hk.fit (hAU u hu) hC (hIU u hu) (lowU u hu) (fun r c hr hc=>(hu.cell (p:=⟨2,4 * r+c,none⟩) hTl).trans (hT r c hr hc)) (zP hTl hu.size)
 have HST:Hid (∀ u base fv,Below w.heap.size w u->u.ownsRow base 9 1 fv (nBlk S B) (frsL d ch G S B (nBlk S B))->Calls prog 143 #[.agg #[O I ch,O I d,O I B,O I c3,O I c4,O I c5,O I c6,O I c7],.slice a ch cap,fv] u fun e w'=>e=.returned (.string (bs (z4b d ch B c3 c4 G S)))/\Below u.heap.size u w'):=fun u base fv hu hf =>
  y0P c5 c6 c7 d B c3 c4 a ch cap A S C G fv u (by have:=hk.d4;omega) hk.d12 ch1 ch4 hB1 hB32 hk.c3b hk.c4b hS3 hk.fit (hAU u hu) (hIU u hu) (lowU u hu) base hf
 have HPT:Hid (∀ u,Calls prog 144 #[.agg #[O I ch,O I d,O I B,O I c3,O I c4,O I S]] u fun e w'=>e=.returned (O I (nPts S B c4))/\Below u.heap.size u w'):=fun u=>y0R ch d c3 B S c4 u hB1 zU hS3 (by have:=hk.c4b;omega)
 have HTX:Hid (∀ u g,u.rowIs g 3 (nPts S B c4) (fun _=>O I 0)->Calls prog 145 #[.agg (rhC ch d B c3 c4 S 0 0 0 0 (.slice (some ⟨g,0,none⟩) (nPts S B c4) (nPts S B c4)))] u fun e w'=>e=.returned (.string (bs (hdT ⟨ch,d,B,c3,c4,S,G⟩ 1)))/\Below u.heap.size u w'):=fun u g hg=>by
  have h3:=z3L (seek:=c4) hB1 hS3;have:=z9y 0 ch d B c3 S c4 0 0 0 (List.replicate (nPts S B c4) 0) (some ⟨g,0,none⟩) (nPts S B c4) u zU zU (by have:=hk.d12;omega) zU hk.c3b hk.c4b zU zU zU zU (by rw [List.length_replicate];exact h3) (fun p hp=>by rw [(List.mem_replicate.1 hp).2];omega) (by
   rw [List.length_replicate];intro i hi;refine ⟨⟨g,0,none⟩,rfl,?_⟩;rw [Addr.add_lit,Nat.zero_add,hg.cell hi];simp [List.getD_eq_getElem?_getD,hi]) (fun x hx h0=>by cases hx;exact hg.lt)
  rw [List.length_replicate] at this;exact this
 unfold rhC at HTX;have HLF:=zZ lift;have HB0:=zZ b0;have HX0:Hid (Bx W0 n0 23 #[O I ch,O I d,O I B,O I c3,O I c4,O I c5,O I c6,O I c7]):=hn0 ▸ hx0;have HN0:=zZ hn0;have HZ0:=zZ hz0;have HAU:=zZ hAU;obtain ⟨ab,off,ea,hcell⟩:=hA.open zU;have hc0:=hcell 0 zU;simp only [Nat.add_zero] at hc0;have hab:ab < w.heap.size:=hlow.1 _ ea (by omega:0 < ch);have HA0:Hid (∀ u,Below W0.heap.size W0 u->u.cell? ⟨ab,off,none⟩=some (.slice (A 0) S (C 0))):=fun u hu=>((lift u hu).cell (p:=⟨ab,off,none⟩) hab).trans hc0
 clear hcell hc0;subst ea;clear hAU hIU lowU lift hchk hA hC hI hlow hT b0 hx0;unfold ptrV
 go_enter func75,ntmps75
 go_wp2_with fail;rw [← hW0,← hn0];clear hW0 hn0
 go_wp2_with (go_at_call 141;refine HCK.out.mono ?_;rintro e u1 ⟨rfl,hb⟩;have HB1:=zZ hb;have HX1:=zZ (HX0.out.below hb);clear hb HCK HX0)
 have HB1d:Hid (Below W0.heap.size W0 u1.drew):=HB1.out.drew;have HX1d:Hid (Bx u1.drew n0 23 #[O I ch,O I d,O I B,O I c3,O I c4,O I c5,O I c6,O I c7]):=HX1.out;refine wp_region_held_drew (S:=fun w'=>w'.heap[n0]?=some (.cells #[O I ch,O I d,O I B,O I c3,O I c4,O I c5,O I c6,O I c7] 23 (0,0))) zT HX1d.out (fun _=>?_);refine tk (i:=0) (v:=?_) rfl (fun _ _ _ h=>h) (Or.inl ⟨by rfl,?_⟩) (by assumption) ?_;rotate_left
 . (intro wx hSw;refine z1q (Operand.tmp 3) 23 ?_ n0 23 #[O I ch,O I d,O I B,O I c3,O I c4,O I c5,O I c6,O I c7] (0,0) _ ?_ hSw underlying23 rfl z8r <;> rfl)
 try simp only [q1,q2,q3,Act.put,q4,q5,q6]
 refine tq 1 ?_
 refine tk (i:=2) (v:=?_) rfl (fun _ _ _ h=>h) (Or.inl ⟨by rfl,?_⟩) (by assumption) ?_;rotate_left
 . (intro wx hSw;refine z1q (Operand.tmp 3) 23 ?_ n0 23 #[O I ch,O I d,O I B,O I c3,O I c4,O I c5,O I c6,O I c7] (0,0) _ ?_ hSw underlying23 rfl z8r <;> rfl)
 try simp only [q1,q2,q3,Act.put,q4,q5,q6]
 refine tq 3 ?_
 refine zQ 4 (fun K hK=>?_)
 go_simp
 go_at_call 142
 refine (HAF.out _ (HLF.out _ HB1d.out)).mono ?_;rintro e u2 ⟨kv,rfl,ho,hb⟩;obtain ⟨A2,k2,rfl,-⟩:=z0j ho;have HB2:=zZ (HB1d.out.trans (hb.mono HB1d.out.size));have HX2:=zZ (HX1d.out.below hb);have HX3:=zZ (HX2.out.alloc (.cells #[O I ch,O I d,O I B,O I c3,O I c4,O I c5,O I c6,O I c7,.slice A2 (nBlk S B) k2,.string ⟨#[]⟩,.string ⟨#[]⟩,.slice none 0 0,.slice none 0 0,.slice none 0 0,O I 0,O I 0,O I 0,O I 0,O I fail,.slice none 0 0,.bool false,.bool false,.bool false,O I 0] 219));have HL3:=zZ (Bx.new u2 #[O I ch,O I d,O I B,O I c3,O I c4,O I c5,O I c6,O I c7,.slice A2 (nBlk S B) k2,.string ⟨#[]⟩,.string ⟨#[]⟩,.slice none 0 0,.slice none 0 0,.slice none 0 0,O I 0,O I 0,O I 0,O I 0,O I fail,.slice none 0 0,.bool false,.bool false,.bool false,O I 0] 219);have HB3:=zZ (HB2.out.alloc HB2.out.size (.cells #[O I ch,O I d,O I B,O I c3,O I c4,O I c5,O I c6,O I c7,.slice A2 (nBlk S B) k2,.string ⟨#[]⟩,.string ⟨#[]⟩,.slice none 0 0,.slice none 0 0,.slice none 0 0,O I 0,O I 0,O I 0,O I 0,O I fail,.slice none 0 0,.bool false,.bool false,.bool false,O I 0] 219));have HO3:=zZ (z0m (z1P ho (show w.heap.size<=u1.drew.heap.size from zO (by rw [HZ0.out];omega) HB1.out.size)) ((Edit.refl (fun _=>False) u2).alloc (.cells #[O I ch,O I d,O I B,O I c3,O I c4,O I c5,O I c6,O I c7,.slice A2 (nBlk S B) k2,.string ⟨#[]⟩,.string ⟨#[]⟩,.slice none 0 0,.slice none 0 0,.slice none 0 0,O I 0,O I 0,O I 0,O I 0,O I fail,.slice none 0 0,.bool false,.bool false,.bool false,O I 0] 219)) fun _ _=>id);have HM2:Hid (W0.heap.size<=u2.heap.size):=HB2.out.size;clear hb ho;go_wp2_with fail;refine zV hK HX2.out (fun _=>?_);clear hK K
 refine tq 5 ?_
 refine zQ 6 (fun K hK=>?_)
 go_simp
 go_wp2_with fail;refine zV hK HX3.out (fun _=>?_);clear hK K
 refine tq 7 ?_
 refine wpAnyH_done zT ?_ _;go_wp2_with fail;generalize hu3:u2.alloc (.cells #[O I ch,O I d,O I B,O I c3,O I c4,O I c5,O I c6,O I c7,.slice A2 (nBlk S B) k2,.string ⟨#[]⟩,.string ⟨#[]⟩,.slice none 0 0,.slice none 0 0,.slice none 0 0,O I 0,O I 0,O I 0,O I 0,O I fail,.slice none 0 0,.bool false,.bool false,.bool false,O I 0] 219)=u3 at *;generalize hlb:u2.heap.size=lb at *;have HB3d:Hid (Below W0.heap.size W0 u3.drew):=HB3.out.drew;have HS3:Hid (u3.drew.heap[n0]?=some (.cells #[O I ch,O I d,O I B,O I c3,O I c4,O I c5,O I c6,O I c7] 23 (0,0))/\u3.drew.cell? ⟨lb,8,none⟩=some (.slice A2 (nBlk S B) k2)):=⟨HX3.out,HL3.out.cell 8⟩;clear hu3 HB2 HX2 HB1 HX1 HB1d HX1d hlb;refine wp_region_held_drew (S:=fun w'=>w'.heap[n0]?=some (.cells #[O I ch,O I d,O I B,O I c3,O I c4,O I c5,O I c6,O I c7] 23 (0,0))/\w'.cell? ⟨lb,8,none⟩=some (.slice A2 (nBlk S B) k2)) zT HS3.out (fun _=>?_);refine tq 0 ?_
 refine tk (i:=1) (v:=?_) rfl (fun _ _ _ h=>h) (Or.inl ⟨by rfl,?_⟩) (by assumption) ?_;rotate_left
 . (intro wx hSw;refine z1q (Operand.tmp 3) 23 ?_ n0 23 #[O I ch,O I d,O I B,O I c3,O I c4,O I c5,O I c6,O I c7] (0,0) _ ?_ hSw.1 underlying23 rfl z8r <;> rfl)
 try simp only [q1,q2,q3,Act.put,q4,q5,q6]
 refine tq 2 ?_;refine tq 3 ?_;refine tq 4 ?_;refine tq 5 ?_;refine tq 6 ?_
 refine zQ 7 (fun K hK=>?_)
 go_simp
 go_at_call 143
 refine (HST.out _ _ _ (HLF.out _ HB3d.out) (z5t HO3.out rfl)).mono ?_;rintro e u4 ⟨rfl,hb⟩;have HB4:=zZ (HB3d.out.trans (hb.mono HB3d.out.size));have hx3:Bx u3.drew n0 23 #[O I ch,O I d,O I B,O I c3,O I c4,O I c5,O I c6,O I c7]:=HX3.out;have hl3:Bx u3.drew lb 219 #[O I ch,O I d,O I B,O I c3,O I c4,O I c5,O I c6,O I c7,.slice A2 (nBlk S B) k2,.string ⟨#[]⟩,.string ⟨#[]⟩,.slice none 0 0,.slice none 0 0,.slice none 0 0,O I 0,O I 0,O I 0,O I 0,O I fail,.slice none 0 0,.bool false,.bool false,.bool false,O I 0]:=HL3.out;have HX4:=zZ (hx3.below hb);have HL4:=zZ (hl3.below hb);clear hx3 hl3;have HO4:=zZ (z0m (z5t (u:=u3.drew) HO3.out rfl) (Edit.of (S:=fun _=>False) hb) fun _ _=>id);have d9:=HL4.out.cell 9;have g9:=HL4.out.free 9;simp at d9;clear hb HB3 HX3 HL3 HO3 HB3d HS3;generalize hST:bs (z4b d ch B c3 c4 G S)=ST at *;have HSTe:=zZ hST;clear hST;have HNL:Hid (¬ n0=lb):=(fun e=>by have h1:=HX4.out;rw [e] at h1;have h2:=HL4.out;unfold Bx at h1 h2;rw [h1] at h2;cases h2);have HX5:Hid (Bx (u4.setCell ⟨lb,9,none⟩ (.string ST)) n0 23 #[O I ch,O I d,O I B,O I c3,O I c4,O I c5,O I c6,O I c7]):=HX4.out.past (fun e=>by have h1:=HX4.out;rw [e] at h1;have h2:=HL4.out;unfold Bx at h1 h2;rw [h1] at h2;cases h2) 9 _;have HL5:Hid (Bx (u4.setCell ⟨lb,9,none⟩ (.string ST)) lb 219 #[O I ch,O I d,O I B,O I c3,O I c4,O I c5,O I c6,O I c7,.slice A2 (nBlk S B) k2,.string ST,.string ⟨#[]⟩,.slice none 0 0,.slice none 0 0,.slice none 0 0,O I 0,O I 0,O I 0,O I 0,O I fail,.slice none 0 0,.bool false,.bool false,.bool false,O I 0]):=HL4.out.set 9 _;have HB5:Hid (Below W0.heap.size W0 (u4.setCell ⟨lb,9,none⟩ (.string ST))):=((Edit.of (S:=fun _=>False) HB4.out).cell (Or.inr HM2.out) 9 _).below zY (fun _ hf=>hf.elim);have HO5:Hid (_):=z0m HO4.out ((Edit.refl (·=lb) u4).cell (Or.inl rfl) 9 (.string ST)) fun q hq hc=>z1m HO4.out HL4.out zR (hc ▸ hq)
 go_wp2_with fail;refine zV hK ⟨HX4.out,HL4.out.cell 8⟩ (fun _=>?_);clear hK K
 refine tq 8 ?_;refine tq 9 ?_
 refine zQ 10 (fun K hK=>?_)
 go_simp
 go_wp2_with fail;refine zV hK ⟨HX5.out,HL5.out.cell 8⟩ (fun _=>?_);clear hK K
 refine wpAnyH_done zT ?_ _;go_wp2_with fail;generalize hu5:u4.setCell ⟨lb,9,none⟩ (.string ST)=u5 at *;clear hu5 HB4 HX4 HL4 HO4 d9 g9;have HS5:Hid (∀ u,Below W0.heap.size W0 u->Bx u n0 23 #[O I ch,O I d,O I B,O I c3,O I c4,O I c5,O I c6,O I c7]->u.cell? ⟨n0,0,none⟩=some (O I ch)/\u.cell? ⟨n0,1,none⟩=some (O I d)/\u.cell? ⟨n0,2,none⟩=some (O I B)/\u.cell? ⟨n0,3,none⟩=some (O I c3)/\u.cell? ⟨n0,4,none⟩=some (O I c4)/\u.cell? ⟨ab,off,none⟩=some (.slice (A 0) S (C 0))):=fun u hu hx=>⟨hx.cell 0,hx.cell 1,hx.cell 2,hx.cell 3,hx.cell 4,HA0.out u hu⟩
 have hn02:0 < ch:=ch1;have hn03:(0:Int) < (ch:Int):=zU
 have hi6:Bx (u5.alloc (.cells #[O I 0,O I 0,O I 0,O I 0,O I 0,O I 0] 39)).drew u5.heap.size 39 #[O I 0,O I 0,O I 0,O I 0,O I 0,O I 0]:=Bx.new u5 #[O I 0,O I 0,O I 0,O I 0,O I 0,O I 0] 39;have HI6:=zZ hi6;clear hi6;have HB5a:=zZ (HB5.out.alloc HB5.out.size (.cells #[O I 0,O I 0,O I 0,O I 0,O I 0,O I 0] 39)).drew;have HX5a:Hid (Bx (u5.alloc (.cells #[O I 0,O I 0,O I 0,O I 0,O I 0,O I 0] 39)).drew n0 23 #[O I ch,O I d,O I B,O I c3,O I c4,O I c5,O I c6,O I c7]):=HX5.out.alloc _;have E6:Hid (Edit (fun _=>False) u5 ((u5.alloc (.cells #[O I 0,O I 0,O I 0,O I 0,O I 0,O I 0] 39)).drew.setRow u5.heap.size #[O I ch,O I d,O I B,O I c3,O I c4,O I S])):=(((Edit.refl (fun _=>False) u5).alloc _).drewN 1).row zY _;have HB6:=zZ (HB5.out.trans ((E6.out.below zY (fun _ hf=>hf.elim)).mono HB5.out.size));have HX6:=zZ (HX5.out.edit E6.out id);have HL6:=zZ (HL5.out.edit E6.out id);have HO6:=zZ (z0m HO5.out E6.out fun _ _=>id);have HJ6:=zZ (HI6.out.row #[O I ch,O I d,O I B,O I c3,O I c4,O I S]);have hS5d:=HS5.out u5.drew HB5.out.drew HX5.out;refine wp_region_held_drew (S:=fun w'=>w'.cell? ⟨n0,0,none⟩=some (O I ch)/\w'.cell? ⟨n0,1,none⟩=some (O I d)/\w'.cell? ⟨n0,2,none⟩=some (O I B)/\w'.cell? ⟨n0,3,none⟩=some (O I c3)/\w'.cell? ⟨n0,4,none⟩=some (O I c4)/\w'.cell? ⟨ab,off,none⟩=some (.slice (A 0) S (C 0))) zT hS5d (fun _=>?_);refine tq 0 ?_
 refine tq 1 ?_;refine tq 2 ?_;refine tq 3 ?_;refine tq 4 ?_;refine tq 5 ?_;refine tq 6 ?_;refine tq 7 ?_;refine tq 8 ?_;refine tq 9 ?_;refine tq 10 ?_;refine tq 11 ?_;refine tq 12 ?_;refine tq 13 ?_;refine tq 14 ?_
 refine zQ 15 (fun K hK=>?_)
 go_simp
 go_wp2_with fail;refine zV hK (HS5.out _ HB5a.out HX5a.out) (fun _=>?_);clear hK K
 refine zQ 16 (fun K hK=>?_);refine z1p rfl _ _ 39 rfl u5.heap.size 39 _ #[O I ch,O I d,O I B,O I c3,O I c4,O I S] rfl rfl HI6.out z8g rfl rfl ?_;go_wp2_with fail;refine zV hK (HS5.out _ HB6.out HX6.out) (fun _=>?_);clear hK K
 refine wpAnyH_done zT ?_ _;go_wp2_with fail;generalize hu6:(u5.alloc (.cells #[O I 0,O I 0,O I 0,O I 0,O I 0,O I 0] 39)).drew.setRow u5.heap.size #[O I ch,O I d,O I B,O I c3,O I c4,O I S]=u6 at *;generalize u5.heap.size=ib at *;clear hu6 HS5 HB5 HX5 HL5 HO5 HI6 HB5a HX5a E6 hS5d
 go_cut [11] (fun s11 wx=>∃ hb pb:Nat,s11=.pointer (some ⟨hb,0,none⟩)/\Hid (Below u6.heap.size u6 wx/\Bx wx hb 222 #[O I 0,O I ch,O I d,O I B,O I c3,O I c4,O I S,O I 0,O I 0,O I 0,.slice (some ⟨pb,0,none⟩) (nPts S B c4) (nPts S B c4)]/\wx.rowIs pb 3 (nPts S B c4) fun _=>O I 0))
 case first =>
  have hmp:=run_make_row' (P:=prog) 30 3 (O I 0) 8 underlying30 z1g rfl .i64 .i64 (nPts S B c4) (by have:=z3L (seek:=c4) hB1 hS3;omega) (by have:=z3L (seek:=c4) hB1 hS3;omega);have HF7:Hid (∀ (y:World) (g pb:Nat),Below u6.heap.size u6 y->Bx y g 222 #[O I 0,O I 0,O I 0,O I 0,O I 0,O I 0,O I 0,O I 0,O I 0,O I 0,.slice none 0 0]->y.rowIs pb 3 (nPts S B c4) (fun _=>O I 0)->u6.heap.size<=g->Below u6.heap.size u6 (y.setRow g #[O I 0,O I ch,O I d,O I B,O I c3,O I c4,O I S,O I 0,O I 0,O I 0,.slice (some ⟨pb,0,none⟩) (nPts S B c4) (nPts S B c4)])/\Bx (y.setRow g #[O I 0,O I ch,O I d,O I B,O I c3,O I c4,O I S,O I 0,O I 0,O I 0,.slice (some ⟨pb,0,none⟩) (nPts S B c4) (nPts S B c4)]) g 222 #[O I 0,O I ch,O I d,O I B,O I c3,O I c4,O I S,O I 0,O I 0,O I 0,.slice (some ⟨pb,0,none⟩) (nPts S B c4) (nPts S B c4)]/\(y.setRow g #[O I 0,O I ch,O I d,O I B,O I c3,O I c4,O I S,O I 0,O I 0,O I 0,.slice (some ⟨pb,0,none⟩) (nPts S B c4) (nPts S B c4)]).rowIs pb 3 (nPts S B c4) fun _=>O I 0):=fun y g pb hy hx hr hg=>⟨((Edit.of (S:=fun _=>False) hy).row hg _).below zY (fun _ hf=>hf.elim),hx.row _,hr.of_block (setRow_other _ _ _ _ (Ne.symm (z3x hx hr zR)))⟩
  have HY0:Hid (Below u6.heap.size u6 u6.drew):=zX.drew;refine wp_region_held_drew (S:=fun w'=>w'.heap[ib]?=some (.cells #[O I ch,O I d,O I B,O I c3,O I c4,O I S] 39 (0,0))) zT HJ6.out (fun _=>?_);refine tk (i:=0) (v:=?_) rfl (fun _ _ _ h=>h) (Or.inl ⟨by rfl,?_⟩) (by assumption) ?_;rotate_left
  . (intro wx hSw;refine z1q (Operand.tmp 10) 39 ?_ ib 39 #[O I ch,O I d,O I B,O I c3,O I c4,O I S] (0,0) _ ?_ hSw underlying39 rfl z8g <;> rfl)
  try simp only [q1,q2,q3,Act.put,q4,q5,q6]
  refine tk (i:=1) (v:=?_) rfl (fun _ _ _ h=>h) (Or.inl ⟨by rfl,?_⟩) (by assumption) ?_;rotate_left
  . (intro wx hSw;refine z1q (Operand.tmp 10) 39 ?_ ib 39 #[O I ch,O I d,O I B,O I c3,O I c4,O I S] (0,0) _ ?_ hSw underlying39 rfl z8g <;> rfl)
  try simp only [q1,q2,q3,Act.put,q4,q5,q6]
  refine wpAnyH_ready (rs:=[2,5]) zT (by simp) ?_;refine AllReadyH.cons rfl (fun K hK=>?_) (AllReadyH.cons rfl (fun K hK=>?_) (AllReadyH.nil))
  . go_simp
    go_at_call 144
    refine (HPT.out _).mono ?_;rintro e y2 ⟨rfl,hv2⟩;have HB2:=zZ (HY0.out.trans (hv2.mono HY0.out.size));clear hv2;go_wp2_with fail;refine zV hK (HJ6.out.below HB2.out) (fun _=>?_);clear hK K
    refine wpAnyH_ready (rs:=[3,5]) zT (by simp) ?_;refine AllReadyH.cons rfl (fun K hK=>?_) (AllReadyH.cons rfl (fun K hK=>?_) (AllReadyH.nil))
    . go_simp
      have HB8:=zZ (HB2.out.alloc HB2.out.size (.cells (madeCells #[O I 0] (nPts S B c4)) 3));have hp8:((y2).alloc (.cells (madeCells #[O I 0] (nPts S B c4)) 3)).rowIs (y2.heap.size) 3 (nPts S B c4) (fun _=>O I 0):=by have:=World.rowIs_made (y2) (O I 0) (nPts S B c4) 3;simpa using this
      have HP8:=zZ hp8;clear hp8;go_wp2_with fail;refine zV hK (HJ6.out.below HB8.out) (fun _=>?_);clear hK K
      refine tq 4 ?_
      refine zQ 5 (fun K hK=>?_)
      go_simp
      have HB25:=zZ (HB8.out.alloc HB8.out.size (.cells #[O I 0,O I 0,O I 0,O I 0,O I 0,O I 0,O I 0,O I 0,O I 0,O I 0,.slice none 0 0] 222));have HG25:Hid (Bx (((y2).alloc (.cells (madeCells #[O I 0] (nPts S B c4)) 3)).alloc (.cells #[O I 0,O I 0,O I 0,O I 0,O I 0,O I 0,O I 0,O I 0,O I 0,O I 0,.slice none 0 0] 222)) (y2.heap.size+1) 222 #[O I 0,O I 0,O I 0,O I 0,O I 0,O I 0,O I 0,O I 0,O I 0,O I 0,.slice none 0 0]):=Bx.new2 (by simp) _ _;have HP25:=zZ (HP8.out.alloc (.cells #[O I 0,O I 0,O I 0,O I 0,O I 0,O I 0,O I 0,O I 0,O I 0,O I 0,.slice none 0 0] 222));go_wp2_with fail;refine zV hK (HJ6.out.below HB25.out) (fun _=>?_);clear hK K
      refine zQ 6 (fun K hK=>?_);refine z1p rfl _ _ 222 rfl (y2.heap.size+1) 222 _ #[O I 0,O I ch,O I d,O I B,O I c3,O I c4,O I S,O I 0,O I 0,O I 0,.slice (some ⟨y2.heap.size,0,none⟩) (nPts S B c4) (nPts S B c4)] rfl rfl HG25.out z2c rfl rfl ?_;have HE25:=zZ (HF7.out _ (y2.heap.size+1) (y2.heap.size) HB25.out HG25.out HP25.out (by have:=HB8.out.size;(try simp at this);omega));go_wp2_with fail;refine zV hK (HJ6.out.below HE25.out.1) (fun _=>?_);clear hK K
      refine wpAnyH_done zT ?_ _;go_wp2
      go_meet
      case rel=>exact ⟨_,_,rfl,HE25.out⟩
    . go_simp
      have HB7:=zZ (HB2.out.alloc HB2.out.size (.cells #[O I 0,O I 0,O I 0,O I 0,O I 0,O I 0,O I 0,O I 0,O I 0,O I 0,.slice none 0 0] 222));have HG7:Hid (Bx ((y2).alloc (.cells #[O I 0,O I 0,O I 0,O I 0,O I 0,O I 0,O I 0,O I 0,O I 0,O I 0,.slice none 0 0] 222)) (y2.heap.size) 222 #[O I 0,O I 0,O I 0,O I 0,O I 0,O I 0,O I 0,O I 0,O I 0,O I 0,.slice none 0 0]):=Bx.new2 (by simp) _ _;go_wp2_with fail;refine zV hK (HJ6.out.below HB7.out) (fun _=>?_);clear hK K
      refine zQ 3 (fun K hK=>?_)
      go_simp
      have HB23:=zZ (HB7.out.alloc HB7.out.size (.cells (madeCells #[O I 0] (nPts S B c4)) 3));have hp23:(((y2).alloc (.cells #[O I 0,O I 0,O I 0,O I 0,O I 0,O I 0,O I 0,O I 0,O I 0,O I 0,.slice none 0 0] 222)).alloc (.cells (madeCells #[O I 0] (nPts S B c4)) 3)).rowIs (y2.heap.size+1) 3 (nPts S B c4) (fun _=>O I 0):=by have:=World.rowIs_made ((y2).alloc (.cells #[O I 0,O I 0,O I 0,O I 0,O I 0,O I 0,O I 0,O I 0,O I 0,O I 0,.slice none 0 0] 222)) (O I 0) (nPts S B c4) 3;simpa using this
      have HP23:=zZ hp23;clear hp23;have HG23:=zZ (HG7.out.alloc (.cells (madeCells #[O I 0] (nPts S B c4)) 3));go_wp2_with fail;refine zV hK (HJ6.out.below HB23.out) (fun _=>?_);clear hK K
      refine tq 4 ?_
      refine zQ 6 (fun K hK=>?_);refine z1p rfl _ _ 222 rfl (y2.heap.size) 222 _ #[O I 0,O I ch,O I d,O I B,O I c3,O I c4,O I S,O I 0,O I 0,O I 0,.slice (some ⟨y2.heap.size+1,0,none⟩) (nPts S B c4) (nPts S B c4)] rfl rfl HG23.out z2c rfl rfl ?_;have HE23:=zZ (HF7.out _ (y2.heap.size) (y2.heap.size+1) HB23.out HG23.out HP23.out (by have:=HB2.out.size;(try simp at this);omega));go_wp2_with fail;refine zV hK (HJ6.out.below HE23.out.1) (fun _=>?_);clear hK K
      refine wpAnyH_done zT ?_ _;go_wp2
      go_meet
      case rel=>exact ⟨_,_,rfl,HE23.out⟩
  . go_simp
    have HB1:=zZ (HY0.out.alloc HY0.out.size (.cells #[O I 0,O I 0,O I 0,O I 0,O I 0,O I 0,O I 0,O I 0,O I 0,O I 0,.slice none 0 0] 222));have HG1:Hid (Bx ((u6.drew).alloc (.cells #[O I 0,O I 0,O I 0,O I 0,O I 0,O I 0,O I 0,O I 0,O I 0,O I 0,.slice none 0 0] 222)) (u6.heap.size) 222 #[O I 0,O I 0,O I 0,O I 0,O I 0,O I 0,O I 0,O I 0,O I 0,O I 0,.slice none 0 0]):=Bx.new2 (by simp) _ _;go_wp2_with fail;refine zV hK (HJ6.out.below HB1.out) (fun _=>?_);clear hK K
    refine zQ 2 (fun K hK=>?_)
    go_simp
    go_at_call 144
    refine (HPT.out _).mono ?_;rintro e y5 ⟨rfl,hv5⟩;have HB5:=zZ (HB1.out.trans (hv5.mono HB1.out.size));have HG5:=zZ (HG1.out.below hv5);clear hv5;go_wp2_with fail;refine zV hK (HJ6.out.below HB5.out) (fun _=>?_);clear hK K
    refine zQ 3 (fun K hK=>?_)
    go_simp
    have HB17:=zZ (HB5.out.alloc HB5.out.size (.cells (madeCells #[O I 0] (nPts S B c4)) 3));have hp17:((y5).alloc (.cells (madeCells #[O I 0] (nPts S B c4)) 3)).rowIs (y5.heap.size) 3 (nPts S B c4) (fun _=>O I 0):=by have:=World.rowIs_made (y5) (O I 0) (nPts S B c4) 3;simpa using this
    have HP17:=zZ hp17;clear hp17;have HG17:=zZ (HG5.out.alloc (.cells (madeCells #[O I 0] (nPts S B c4)) 3));go_wp2_with fail;refine zV hK (HJ6.out.below HB17.out) (fun _=>?_);clear hK K
    refine tq 4 ?_
    refine zQ 6 (fun K hK=>?_);refine z1p rfl _ _ 222 rfl (u6.heap.size) 222 _ #[O I 0,O I ch,O I d,O I B,O I c3,O I c4,O I S,O I 0,O I 0,O I 0,.slice (some ⟨y5.heap.size,0,none⟩) (nPts S B c4) (nPts S B c4)] rfl rfl HG17.out z2c rfl rfl ?_;have HE17:=zZ (HF7.out _ (u6.heap.size) (y5.heap.size) HB17.out HG17.out HP17.out (by have:=HY0.out.size;(try simp at this);omega));go_wp2_with fail;refine zV hK (HJ6.out.below HE17.out.1) (fun _=>?_);clear hK K
    refine wpAnyH_done zT ?_ _;go_wp2
    go_meet
    case rel=>exact ⟨_,_,rfl,HE17.out⟩
 case rest =>
  obtain ⟨hb,pb,rfl,HC⟩:=hcut;have HB7:=zZ (HB6.out.trans (HC.out.1.mono HB6.out.size));have HX7:=zZ (HX6.out.below HC.out.1);have HL7:=zZ (HL6.out.below HC.out.1);have HO7:=zZ (z0m HO6.out (Edit.of (S:=fun _=>False) HC.out.1) fun _ _=>id);have HH7:=zZ HC.out.2.1;have HT7:=zZ (HTX.out wc pb HC.out.2.2);clear HC HB6 HX6 HL6 HO6 HJ6 HTX HPT HST HAF;generalize hTX:bs (hdT ⟨ch,d,B,c3,c4,S,G⟩ 1)=TX at *;have HTXe:=zZ hTX;clear hTX;have hmk:=run_make_row' (P:=prog) 30 3 (O I 0) 8 underlying30 z1g rfl .i64 .i64 (nBlk S B) zU zU;have hmb:∀ w:World,(Instr.makeSlice 217 (O I (3+(c5:Int))) (O I (3+(c5:Int)))).run prog w=.ok (.slice (some ⟨w.heap.size,0,none⟩) (3+c5) (3+c5)) (w.alloc (.cells (madeCells #[.bool false] (3+c5)) 4)):=fun w=>by
   rw [show (3:Int)+(c5:Int)=((3+c5:Nat):Int) by omega];exact run_make_row' (P:=prog) 217 4 (.bool false) 1 underlying217 y6Q rfl .i64 .i64 (3+c5) zU zU w
  have w5:I.wrap (3+(c5:Int))=3+(c5:Int):=by rw [zK];omega
  go_wp2_with (first
   | (refine z0h rfl _ 222 rfl hb 222 _ (0,0) _ rfl HH7.out underlying222 rfl z2c ?_;clear HH7)
   | (go_at_call 145;refine HT7.out.mono ?_;rintro e u8 ⟨rfl,hv⟩;have HB8:=zZ (HB7.out.trans (hv.mono HB7.out.size));have HX8:=zZ (HX7.out.below hv);have HL8:=zZ (HL7.out.below hv);have HO8:=zZ (z0m HO7.out (Edit.of (S:=fun _=>False) hv) fun _ _=>id);clear hv HT7 HB7 HX7 HL7 HO7;have d10:=HL8.out.cell 10;have g10:=HL8.out.free 10;simp at d10;obtain ⟨v8,v9,va,vb,vc,vd,ve,vf,vg,hW⟩:=nwW u8 lb (nBlk S B) c5 (.string TX);have HW:=zZ hW;have hF:=(hW.facts (ch:=ch) (d:=d) (B:=B) (c3:=c3) (c4:=c4) (c5:=c5) (c6:=c6) (c7:=c7) (fail:=fail) HL8.out).1;have e8:=hW.h8;have e9:=hW.h9;have ea:=hW.ha;have eb:=hW.hb;have ec:=hW.hc;have ed:=hW.hd;have ee:=hW.he;have ef:=hW.hf;have eg:=hW.hg;have x5:=(HX8.out.edit hW.edit.2 HNL.out).cell 5;simp at x5;obtain ⟨k1,k2',k3,k4,k5,k6,k7,k8,k9,k10,k11⟩:=hF;clear hW))
  go_ret2;have hL9:=HL8.out;have hW9:=HW.out;have hO9:=HO8.out;rw [← HSTe.out] at hL9;rw [← HTXe.out] at hW9;have hsz:=HZ0.out;have hbu:=HB8.out.size;have hm2:=HM2.out;obtain ⟨f1,f2⟩:=hW9.fin (c6:=c6) (c7:=c7) (fail:=fail) hk c58 hL9 hO9 zU zU;exact ⟨⟨lb,v8.heap.size,va.heap.size,vc.heap.size,ve.heap.size,.slice A2 (nBlk S B) k2⟩,rfl,f1,f2,HLF.out _ (((Edit.of (S:=fun k=>k=lb) HB8.out).trans hW9.edit.1).below zY (fun k hk=>by rw [hk];exact hm2))⟩
end Go.Proofs.YtlncjgnomhpjnabGreatDoor
