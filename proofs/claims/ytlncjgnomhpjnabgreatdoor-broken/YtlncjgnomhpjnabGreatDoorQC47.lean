import Derived.Test.YtlncjgnomhpjnabGreatDoorQC46
import Derived.Test.YtlncjgnomhpjnabGreatDoorQC44
import Derived.Test.YtlncjgnomhpjnabGreatDoorQC33
import Derived.BigQuiet
import Derived.Deep.QuietTactic
import Derived.Deep.RegionHeld3
import Derived.Deep.DeepCutAuto
import Derived.Test.YtlncjgnomhpjnabGreatDoorQC0
namespace Go.Proofs.YtlncjgnomhpjnabGreatDoor
open Go.Value renaming int → O
open Go.IntKind renaming i64 → I
open Go.Proofs.Tryz (prog)
open Go.RowKit Go.Deep
set_option linter.unusedVariables false
structure CfgK (ch d B c3 c4 c5 c6 c7:Nat):Prop where
 ch1:1<=ch
 ch4:ch<=4
 d4:4<=d
 d12:d<=12
 B1:1<=B
 B32:B<=32
 c3b:c3 < 65536
 c4b:c4 < 256
 c51:1<=c5
 c58:c5<=8
 c61:1<=c6
 c616:c6<=16
 c71:1<=c7
 c78:c7<=8
theorem y6C (c0 c1 c2 c3 c4 c5 c6 c7:Int) (w:World) (h3:-9223372036854775808<=c3/\c3<=9223372036854775807) (h4:-9223372036854775808<=c4/\c4<=9223372036854775807) :
 Calls prog 9 #[.agg #[O I c0,O I c1,O I c2,O I c3,O I c4,O I c5,O I c6,O I c7]] w fun e w'=>∃ ch d B c3 c4 c5 c6 c7:Nat,e=.returned (.agg #[O I ch,O I d,O I B,O I c3,O I c4,O I c5,O I c6,O I c7])/\CfgK ch d B c3 c4 c5 c6 c7/\Below w.heap.size w w':=by
 refine (y2O c0 c1 c2 c3 c4 c5 c6 c7 w h3 h4).mono ?_;rintro e w' ⟨rfl,hb⟩;have l0:=z0F (wr64 (c0 - 1)) 4 (by omega);have l1:=z0F (wr64 (c1 - 4)) 9 (by omega);have l2:=z0F (wr64 (c2 - 1)) 32 (by omega);have l3:=z0F c3 65536 (by omega);have l4:=z0F c4 256 (by omega);have l5:=z0F (wr64 (c5 - 1)) 8 (by omega);have l6:=z0F (wr64 (c6 - 1)) 16 (by omega);have l7:=z0F (wr64 (c7 - 1)) 8 (by omega);refine ⟨1+pickV (wr64 (c0 - 1)) 4,4+pickV (wr64 (c1 - 4)) 9,1+pickV (wr64 (c2 - 1)) 32,pickV c3 65536,pickV c4 256,1+pickV (wr64 (c5 - 1)) 8,1+pickV (wr64 (c6 - 1)) 16,1+pickV (wr64 (c7 - 1)) 8,?_,⟨by omega,by omega,by omega,by omega,by omega,by omega,l3,l4,by omega,by omega,by omega,by omega,by omega,by omega⟩,hb⟩;simp
theorem kp_of {ch d B c3 c4 c5 c6 c7 S n:Nat} {L:Nat->Nat} {F G:Nat->Nat->Int} (h:CfgK ch d B c3 c4 c5 c6 c7) (hS:S<=300) (hG:∀ i,i < ch->∀ j,j < S->G i j=sndF d n L F i j):KP d ch B c3 c4 S G :=
 ⟨h.d4,h.d12,h.ch1,h.ch4,h.B1,h.B32,h.c3b,h.c4b,hS,fun i hi j hj=>by rw [hG i hi j hj];exact y4X _ _ _ _ _ _⟩
theorem y6D {base ch d B c3 c4 c5 c6 c7 S:Nat} {xv:Value} {gs:Nat->Nat} {G:Nat->Nat->Int} (u:World) (h:CfgK ch d B c3 c4 c5 c6 c7) (hk:KP d ch B c3 c4 S G) (hx:AccI base u xv S ch gs G) (hT:TabsF u) :
 Calls prog 11 #[.agg #[O I ch,O I d,O I B,O I c3,O I c4,O I c5,O I c6,O I c7],xv] u fun e u'=>e=.returned (.tuple #[.string (bs (z0B d ch B c3 c4 G S)),O I 0])/\Below u.heap.size u u':=by
 obtain ⟨g,c,rfl,h1,h2,h3⟩:=hx.open h.ch1;obtain ⟨q1,q2,q3⟩:=hx.lists h3 h2;have ha:=h.ch1;have hb:=h.ch4;have hc:=hk.S3;have b1:=h.d4;have b2:=h.d12;have b3:=h.B1;have b4:=h.B32;have b5:=h.c3b;have b6:=h.c4b;have b7:=h.c51;have b8:=h.c58;have b9:=h.c61;have b10:=h.c616;have b11:=h.c71;have b12:=h.c78;have hok:encOk ch d B c3 c4 c5 c6 c7 ch (fun _=>S) G:=by
  refine ⟨?_,rfl,?_,fun i hi=>⟨rfl,fun j hj=>?_⟩⟩
  . simp only [z1I,Bool.and_eq_true,z0h]
    omega
  . show z0s (S:Int) 0 300=true
    rw [z0h];omega
  . rw [Int.toNat_natCast];exact hk.fit i hi j hj
 have hE:=z6H ch d B c3 c4 c5 c6 c7 _ ch c _ (fun _=>S) (fun _=>S) G u (by omega) (fun i hi=>by omega) (fun i hi=>Nat.le_refl _) q1 q2 q3 hT;rw [(z8l hok).1,(z8l hok).2] at hE;simp only [Int.toNat_natCast] at hE;exact hE
def cutH (d n B c3 c4 S:Nat):List UInt8:=z0o 0 n d B c3 S c4 0 0 0 (List.replicate (nPts S B c4) 0)
def cutX (d n B c3 c4:Nat) (F:Nat->Nat->Int) (S k:Nat):List UInt8:=cutH d n B c3 c4 S ++ frsT d n F S B k
theorem z4m (d n B c3 c4 S:Nat):(cutH d n B c3 c4 S).length=22+2 * nPts S B c4:=by
 unfold cutH;rw [z1g,List.length_replicate]
theorem z8m (d n B c3 c4:Nat) (F:Nat->Nat->Int) (S k:Nat):(cutX d n B c3 c4 F S k).length=22+2 * nPts S B c4+(frsT d n F S B k).length:=by
 unfold cutX;rw [List.length_append,z4m]
theorem z8n (d n:Nat) (F:Nat->Nat->Int) (S B k:Nat):∀ j,(frsT d n F S B k).length<=(frsT d n F S B (k+j)).length:=fun j=>by
 obtain ⟨Z,hZ⟩:=z4G d n F S B k j;rw [hZ,List.length_append];omega
theorem z9M {d n B c3 c4 S k:Nat} {F:Nat->Nat->Int} (h:KP d n B c3 c4 S F) (hk:k<=nBlk S B):(cutX d n B c3 c4 F S k).length<=9000:=by
 have h1:=z3g h;rw [z2a h] at h1;have h2:=z8n d n F S B k (nBlk S B - k);rw [show k+(nBlk S B - k)=nBlk S B by omega] at h2;rw [z8m];omega
structure CdIs (T:List UInt8) (d n B c3 c4 S:Nat):Prop where
 wh:dWh T=0
 ch:dCh T=n
 de:dDe T=d
 bl:dBl T=B
 ra:dRa T=c3
 sa:dSa T=S
 se:dSe T=c4
 le:dLe T=0
 mo:dMo T=0
 su:dSu T=0
theorem z2E {d n B c3 c4 S:Nat} {F:Nat->Nat->Int} (h:KP d n B c3 c4 S F) (k:Nat):CdIs (cutX d n B c3 c4 F S k) d n B c3 c4 S:=by
 have h1:=h.d12;have h2:=h.n4;have h3:=h.B32;have h4:=h.S3;obtain ⟨a1,a2,a3,a4,a5,a6,a7,a8,a9,a10⟩:=z7e 0 n d B c3 S c4 0 0 0 (List.replicate (nPts S B c4) 0) (frsT d n F S B k) (by omega) (by omega) (by omega) (by omega) h.c3b (by omega) h.c4b (by omega) (by omega) (by omega);exact ⟨a1,a2,a3,a4,a5,a6,a7,a8,a9,a10⟩
theorem CdIs.np {T:List UInt8} {d n B c3 c4 S:Nat} (h:CdIs T d n B c3 c4 S):dNp T=nPts S B c4:=by
 unfold dNp;rw [h.sa,h.bl,h.se]
theorem CdIs.sz {T:List UInt8} {d n B c3 c4 S:Nat} (h:CdIs T d n B c3 c4 S):dSz T=22+2 * nPts S B c4:=by
 unfold dSz;rw [h.np]
theorem y6E {d n B c3 c4 S:Nat} {F:Nat->Nat->Int} (h:KP d n B c3 c4 S F) (k:Nat):(cutX d n B c3 c4 F S k).take (dSz (cutX d n B c3 c4 F S k))=cutH d n B c3 c4 S:=by
 rw [(z2E h k).sz,← z4m d n B c3 c4 S];exact List.take_left
theorem y1V {d n B c3 c4 S:Nat} {F:Nat->Nat->Int} (h:KP d n B c3 c4 S F) (k:Nat):(cutX d n B c3 c4 F S k).drop (dSz (cutX d n B c3 c4 F S k))=gX d n F S B k 0 []:=by
 rw [(z2E h k).sz,← z4m d n B c3 c4 S,y8G,List.append_nil];exact List.drop_left
theorem y5a {d n B c3 c4 S:Nat} {F:Nat->Nat->Int} (h:KP d n B c3 c4 S F) (k:Nat):dPts (cutX d n B c3 c4 F S k)=List.replicate (nPts S B c4) 0:=by
 unfold dPts;rw [(z2E h k).np];refine List.ext_getElem (by rw [List.length_map,List.length_range,List.length_replicate]) fun i h1 h2=>?_
 rw [List.getElem_map,List.getElem_range];have hi:i < nPts S B c4:=by rw [List.length_replicate] at h2;exact h2
 have hp:(List.replicate (nPts S B c4) 0)[i] < 65536:=by rw [List.getElem_replicate];omega
 have:=z9q 0 n d B c3 S c4 0 0 0 (List.replicate (nPts S B c4) 0) i h2 hp;rw [← this];unfold fld cutX;rw [z0c _ _ _ _ (by omega) (by rw [z4m];omega)]
 rfl
theorem y5b {d n B c3 c4 S:Nat} {F:Nat->Nat->Int} (h:KP d n B c3 c4 S F) (k:Nat):HdP (cutX d n B c3 c4 F S k):=by
 have hh:=z2E h k;have hl:=z8m d n B c3 c4 F S k;have b1:=h.d4;have b2:=h.d12;have b3:=h.n1;have b4:=h.n4;have b5:=h.B1;have b6:=h.B32;have b7:=h.c3b;have b8:=h.c4b;have b9:=h.S3;refine ⟨by omega,by rw [hh.wh];omega,?_,by rw [hh.sz];omega,?_,fun _=>⟨hh.le,hh.mo,hh.su,fun p hp=>?_⟩⟩
 . rw [hh.ch,hh.de,hh.bl,hh.ra,hh.se,hh.sa]
   simp only [infoB,Bool.and_eq_true,z0h];omega
 . rw [y6E h]
   unfold dTx cutH;rw [hh.wh,hh.ch,hh.de,hh.bl,hh.ra,hh.sa,hh.se,hh.le,hh.mo,hh.su,y5a h]
 . rw [y5a h] at hp
   exact (List.mem_replicate.1 hp).2
theorem y8I {n d B S k:Nat}:¬ okF n d B S k []:=by
 rintro ⟨⟨H,hF⟩,-⟩;exact absurd hF.1.1 (by simp)
theorem y5c {B S k:Nat} (hB:1<=B) (hk:k<=nBlk S B):chN B S 0 k=min (k * B) S:=by
 by_cases hlt:k < nBlk S B
 . have h1:k * B < S:=(z1b hB).1 hlt
   have h2:=z4f (B:=B) (S:=S) (k0:=0) k (by rw [Nat.zero_add];omega);omega
 . have e:k=nBlk S B:=by omega
   have h1:=y4t (S:=S) (k0:=0) (m:=k) hB (by omega) (by omega);have h2:¬ k * B < S:=fun hh=>hlt ((z1b hB).2 hh)
   omega
theorem z4n (T:List UInt8) (w:World) (hs:T.length<=9000) (hp:HdP T) (h0:dWh T=0):Calls prog 69 #[.string (bs T)] w fun e w'=>HdOut e w w' T:=by
 obtain ⟨⟨h1,h8⟩,hf,⟨hz,h16⟩,hu⟩:=(y4n T).1 hp;exact z9s T w h1 hs h8 hf hz h16 h0 (hu h0)
set_option maxRecDepth 4000 in
set_option maxHeartbeats 2000000 in
theorem z6s (T:List UInt8) (w:World) (hl:T.length<=9000) (h0:HdP T) (hw:dWh T=0) (hT:TabsU w) :
 Calls prog 57 #[.string (bs T)] w fun e w'=>SalAns e w w' T:=by
 have hz:(bs T).size=T.length:=z0e T;have HZ0:Hid (Bx (w.alloc (.cells #[O I 0,O I 0,O I 0,O I 0,O I 0,O I 0] 39)) w.heap.size 39 #[O I 0,O I 0,O I 0,O I 0,O I 0,O I 0]):=Bx.new _ _ _;have HB0:Hid (Below w.heap.size w (w.alloc (.cells #[O I 0,O I 0,O I 0,O I 0,O I 0,O I 0] 39))):=zX.alloc zY _;have HSD:=zZ (z4h T _ hl h0 (hT.below HB0.out) (fun u=>z4n T u hl h0 hw));have HY:=zZ (And.intro hl h0);clear hT h0 hw;generalize bs T=SB at *
 go_enter Tryz.func57,Tryz.ntmps57
 go_wp2_with (first
  | (go_at_call 116;refine HSD.out.mono ?_;intro e u1 ho;obtain ⟨m,gl,hri,rfl,hrow,hb⟩:=ho.yes HY.out;have HRI:=zZ hri;have HROW:=zZ hrow;have HZ1:=zZ (HZ0.out.below hb);have HB1:=zZ (HB0.out.trans (hb.mono HB0.out.size));clear hri hrow hb HSD HZ0 HB0 ho)
  | (refine z0b rfl _ _ 39 rfl w.heap.size 39 _ _ rfl rfl HZ1.out z1t rfl rfl ?_))
 refine bodyPost_ret (y6n _ w.heap.size (.slice (some ⟨gl,0,none⟩) (dCh T) (dCh T)) 0 #[O I (dCh T),O I (dDe T),O I (dBl T),O I (dRa T),O I (dSe T),O I (dSa T)] _ (HZ1.out.row _) rfl rfl rfl rfl) rfl ⟨.inl ⟨HY.out.1,HY.out.2,m,_,HRI.out,rfl,?_⟩,z3f HB1.out zY _⟩;exact (HROW.out.grown (z1L u1 w.heap.size _) (by simp)).mono (by simp)
theorem y8c {ch d B c3 c4 S k:Nat} {G:Nat->Nat->Int} (u:World) (hk:KP d ch B c3 c4 S G) (hkb:k<=nBlk S B) (hT:TabsU u) :
 Calls prog 57 #[.string (bs (cutX d ch B c3 c4 G S k))] u fun e u'=>∃ gl,e=.returned (.tuple #[.agg #[O I ch,O I d,O I B,O I c3,O I c4,O I S],.slice (some ⟨gl,0,none⟩) ch ch,O I 0])/\ViewL u' (.slice (some ⟨gl,0,none⟩) ch ch) ch (min (k * B) S) G/\Below u.heap.size u u':=by
 have hh:=z2E hk k;have hl:=z9M hk hkb;have hr:=g_run hk hkb (Z:=[]) y8I;refine (z6s _ u hl (y5b hk k) hh.wh hT).mono ?_;intro e u' ha;obtain ⟨gl,rfl,hro,hb⟩:=ha.yesM (m:=k) ⟨hl,y5b hk k⟩ (by rw [hh.ch,hh.de,hh.bl,hh.sa,y1V hk];exact hr);rw [hh.ch,hh.de,hh.bl,hh.sa,y1V hk,y5c hk.B1 hkb] at hro;refine ⟨gl,by rw [hh.ch,hh.de,hh.bl,hh.ra,hh.se,hh.sa],?_,hb⟩;exact hro.view.ext fun c hc j hj=>g_smp hk hkb hc (by rw [y5c hk.B1 hkb];exact hj)
set_option maxRecDepth 4000 in
set_option maxHeartbeats 2000000 in
theorem z6I (T:List UInt8) (w:World) (hs:T.length<=9000) (hd:HdP T) (h0:dWh T=0) :
 Calls prog 17 #[.string (bs T)] w fun e w'=>e=.returned (.tuple #[.agg #[O I 0,O I 0,O I 0,O I 0,O I 0,O I 0],.slice none 0 0,O I 7])/\Below w.heap.size w w':=by
 have hp:¬ (HdP T/\dWh T=1):=fun h=>by rw [h0] at h;cases h.2
 have hz:(bs T).size=T.length:=z0e T;have HZ0:Hid (Bx (w.alloc (.cells #[O I 0,O I 0,O I 0,O I 0,O I 0,O I 0] 39)) w.heap.size 39 #[O I 0,O I 0,O I 0,O I 0,O I 0,O I 0]):=Bx.new _ _ _;have HB0:Hid (Below w.heap.size w (w.alloc (.cells #[O I 0,O I 0,O I 0,O I 0,O I 0,O I 0] 39))):=zX.alloc zY _;have hE:decE T=7:=by unfold decE;rw [if_pos hs,if_neg hp]
 have HSD:=zZ (z4g T (w.alloc (.cells #[O I 0,O I 0,O I 0,O I 0,O I 0,O I 0] 39)) hs hp (fun u=>z4n T u hs hd h0));have HAN:Hid (∀ e u u',y1H e u u' T->e=.returned (.tuple #[.agg #[O I 0,O I 0,O I 0,O I 0,O I 0,O I 0],.slice none 0 0,O I 7])/\Below u.heap.size u u'):=fun e u u' h=>by
  rcases h with ⟨⟨h1,-⟩ | ⟨-,h1⟩,hb⟩
  . rw [hE] at h1
    exact absurd h1 (by decide)
  . rw [hE] at h1
    exact ⟨h1,hb⟩
 clear hp hE hd h0;generalize bs T=SB at *
 go_enter Tryz.func17,Tryz.ntmps17
 go_wp2_with (first
  | (go_at_call 39;refine HSD.out.mono ?_;intro e u1 ho;obtain ⟨rfl,hb⟩:=HAN.out _ _ _ ho;have HZ1:=zZ (HZ0.out.below hb);have HB1:=zZ (HB0.out.trans (hb.mono HB0.out.size));clear hb HSD HZ0 HB0 ho)
  | (refine z0b rfl _ _ 39 rfl w.heap.size 39 _ _ rfl rfl HZ1.out z1t rfl rfl ?_))
 exact bodyPost_ret (y6m _ w.heap.size _ 7 _ _ (HZ1.out.row _) rfl rfl rfl rfl) rfl ⟨rfl,z3f HB1.out zY _⟩
theorem y2Q {ch d B c3 c4 S k:Nat} {G:Nat->Nat->Int} (u:World) (hk:KP d ch B c3 c4 S G) (hkb:k<=nBlk S B) (hT:TabsU u) :
 Calls prog 17 #[.string (bs (cutX d ch B c3 c4 G S k))] u fun e u'=>e=.returned (.tuple #[.agg #[O I 0,O I 0,O I 0,O I 0,O I 0,O I 0],.slice none 0 0,O I 7])/\Below u.heap.size u u' :=
 z6I _ u (z9M hk hkb) (y5b hk k) (z2E hk k).wh
theorem AccI.ext {base:Nat} {u:World} {lv:Value} {nn n:Nat} {gs:Nat->Nat} {G G':Nat->Nat->Int} (h:AccI base u lv nn n gs G) (he:∀ i,i < n->∀ j,j < nn->G i j=G' i j):AccI base u lv nn n gs G' :=
 ⟨h.own,fun k hk=>(h.rows k hk).congr fun j hj=>by
  unfold cutV cutI;rw [if_pos hj,if_pos hj,he k hk j hj],h.far,h.apart⟩
theorem y2R (kind w:Nat) (x:Nat->Int) (n:Nat) (hw:1<=w) (hn:1<=n):1<=bodyL kind w x n:=by
 unfold bodyL;split
 . exact hw
 . split
   . exact Nat.mul_le_mul hn hw
   . unfold gL cutL
     omega
theorem y5d (width:Nat) (l:Nat->Int) (n:Nat) (hw:1<=width) (hn:1<=n):9<=(subT width l n).length:=by
 rw [z2w];have h1:z0C l n width<=width - 1:=z2R _ _ _;have:=y2R (z2S width l n) (width - z0C l n width) (z1w l n width) n (by omega) hn;omega
theorem z9N (d n m N:Nat) (l:Nat->Nat->Int) (hd1:1<=d) (hd:d<=12) (hN:1<=N):∀ i,9 * i<=(catS d n m N l i).length
 | 0=>Nat.le_refl _
 | i+1=>by
  have ih:=z9N d n m N l hd1 hd hN i;have hw:=z3H (n:=n) (m:=m) (i:=i) hd1 hd;have h1:=y5d (widN d n m i) (l i) N hw.1 hN
  show _<=(catS d n m N l i ++ subT (widN d n m i) (l i) N).length
  rw [List.length_append];omega
theorem y2S {d n B c3 c4 S:Nat} {F:Nat->Nat->Int} (h:KP d n B c3 c4 S F) {k:Nat} (hk:k < nBlk S B):12<=(frT d n F S B k).length:=by
 have hb:=z1r h.B1 hk;unfold frT;rw [z1Q,z1e,z7d];have h1:=h.n1;have h2:=z9N d n (modeN d n (blkF F B k) (blkN S B k)) (blkN S B k) (toldL n (modeN d n (blkF F B k) (blkN S B k)) (blkF F B k)) (by have:=h.d4;omega) h.d12 hb.1 n;omega
set_option maxRecDepth 4000 in
set_option maxHeartbeats 2000000 in
theorem y0X (ch d c3 c4 c5 c6 c7:Int) (B:Nat) (lv:Value) (n S:Nat) (G:Nat->Nat->Int) (w:World) (hB:1<=B) (hB2:B<=32) (hS:S<=300) (hn:1<=n) (h:ViewL w lv n S G) :
 Calls prog 20 #[.agg #[O I ch,O I d,O I B,O I c3,O I c4,O I c5,O I c6,O I c7],lv] w fun e w'=>e=.returned (O I (nBlk S B:Nat))/\Below w.heap.size w w':=by
 have hb:Below w.heap.size w (w.alloc (.cells #[O I ch,O I d,O I B,O I c3,O I c4,O I c5,O I c6,O I c7] 23)):=zX.alloc zY _;obtain ⟨g,c,A,C,rfl,hl,hA,-,-⟩:=h.below (hb.mono zY);have h0:=hA 0 (by omega);have hle:=z1a (S:=S) hB;have w1:IntKind.i64.wrap ((S:Int)+(B:Int))=(S:Int)+(B:Int):=by rw [IntKind.wrap_i64];omega
 have w2:IntKind.i64.wrap ((S:Int)+(B:Int) - 1)=(S:Int)+(B:Int) - 1:=by rw [IntKind.wrap_i64];omega
 have d0:((S:Int)+(B:Int) - 1) / (B:Int)=((nBlk S B:Nat):Int):=by
  rw [show (S:Int)+(B:Int) - 1=((S+B - 1:Nat):Int) by omega];rfl
 have d1:((S:Int)+(B:Int) - 1).tdiv (B:Int)=((nBlk S B:Nat):Int):=by
  rw [Int.tdiv_eq_ediv_of_nonneg (by omega)];exact d0
 have w3:IntKind.i64.wrap ((nBlk S B:Nat):Int)=((nBlk S B:Nat):Int):=by rw [IntKind.wrap_i64];omega
 have hz:((B:Int) == 0)=false:=by simp;omega
 have hz2:¬ (B:Int)=0:=by omega
 have hn0:0 < n:=hn;have HB:=zZ hb;have hx:Bx (w.alloc (.cells #[O I ch,O I d,O I B,O I c3,O I c4,O I c5,O I c6,O I c7] 23)) w.heap.size 23 #[O I ch,O I d,O I B,O I c3,O I c4,O I c5,O I c6,O I c7]:=Bx.new _ _ _;have hS0:(w.alloc (.cells #[O I ch,O I d,O I B,O I c3,O I c4,O I c5,O I c6,O I c7] 23)).drew.cell? ⟨w.heap.size,2,none⟩=some (O I B)/\(w.alloc (.cells #[O I ch,O I d,O I B,O I c3,O I c4,O I c5,O I c6,O I c7] 23)).drew.cell? ⟨g,0,none⟩=some (.slice (A 0) S (C 0)):=⟨hx.cell 2,h0⟩;clear hA hb h hx;generalize A 0=A0 at *;generalize C 0=C0 at *;generalize nBlk S B=N at *
 go_enter Tryz.func20,Tryz.ntmps20
 go_wp2_with fail
 go_region
 all_goals go_wp2_with fail
 go_ret;exact ⟨rfl,HB.out.drew⟩
set_option maxRecDepth 4000 in
set_option maxHeartbeats 2000000 in
theorem z8o (ch d B c3 c5 c6 c7:Int) (c4 N:Nat) (w:World) (hc:c4 < 256) (hN:N<=300) :
 Calls prog 35 #[.agg #[O I ch,O I d,O I B,O I c3,O I c4,O I c5,O I c6,O I c7],O I N] w fun e w'=>e=.returned (O I ((22+2 * (if c4=0 then 0 else nBlk N c4):Nat):Int))/\Below w.heap.size w w':=by
 have hb:Below w.heap.size w (w.alloc (.cells #[O I ch,O I d,O I B,O I c3,O I c4,O I c5,O I c6,O I c7] 23)):=zX.alloc zY _;have HB:=zZ hb;clear hb
 by_cases h0:c4=0
 . subst h0
   rw [if_pos rfl]
   go_enter Tryz.func35,Tryz.ntmps35
   go_wp2_with fail;go_ret;exact ⟨rfl,HB.out⟩
 . rw [if_neg h0]
   have hle:=z1a (S:=N) (B:=c4) (by omega);have hx:Bx (w.alloc (.cells #[O I ch,O I d,O I B,O I c3,O I c4,O I c5,O I c6,O I c7] 23)) w.heap.size 23 #[O I ch,O I d,O I B,O I c3,O I c4,O I c5,O I c6,O I c7]:=Bx.new _ _ _;have hS0:(w.alloc (.cells #[O I ch,O I d,O I B,O I c3,O I c4,O I c5,O I c6,O I c7] 23)).drew.cell? ⟨w.heap.size,4,none⟩=some (O I c4):=hx.cell 4;have w1:IntKind.i64.wrap ((N:Int)+(c4:Int))=(N:Int)+(c4:Int):=by rw [IntKind.wrap_i64];omega
   have w2:IntKind.i64.wrap ((N:Int)+(c4:Int) - 1)=(N:Int)+(c4:Int) - 1:=by rw [IntKind.wrap_i64];omega
   have d1:((N:Int)+(c4:Int) - 1).tdiv (c4:Int)=((nBlk N c4:Nat):Int):=by
    rw [Int.tdiv_eq_ediv_of_nonneg (by omega),show (N:Int)+(c4:Int) - 1=((N+c4 - 1:Nat):Int) by omega];rfl
   have w3:IntKind.i64.wrap ((nBlk N c4:Nat):Int)=((nBlk N c4:Nat):Int):=by rw [IntKind.wrap_i64];omega
   have hz:((c4:Int) == 0)=false:=by simp;omega
   have hz2:¬ (c4:Int)=0:=by omega
   generalize nBlk N c4=M at *;obtain ⟨m2,hm2⟩:∃ m2,m2=2 * M:=⟨_,rfl⟩;obtain ⟨m3,hm3⟩:∃ m3,m3=22+m2:=⟨_,rfl⟩;have w4:IntKind.i64.wrap (2 * (M:Int))=(m2:Int):=by rw [IntKind.wrap_i64];omega
   have w5:IntKind.i64.wrap (22+(m2:Int))=(m3:Int):=by rw [IntKind.wrap_i64];omega
   rw [← hm2,← hm3];clear hm2 hm3 hx
   go_enter Tryz.func35,Tryz.ntmps35
   go_wp2_with fail;go_ret;exact ⟨rfl,HB.out⟩
theorem y2T {base ch d B c3 c4 c5 c6 c7 S k:Nat} {xv:Value} {gs:Nat->Nat} {G:Nat->Nat->Int} (u:World) (h:CfgK ch d B c3 c4 c5 c6 c7) (hk:KP d ch B c3 c4 S G) (hkb:k < nBlk S B) (hx:AccI base u xv (blkN S B k) ch gs (blkF G B k)) (hT:TabsF u) :
 Calls prog 36 #[.agg #[O I ch,O I d,O I B,O I c3,O I c4,O I c5,O I c6,O I c7],O I k,xv] u fun e u'=>e=.returned (.tuple #[.string (bs (frT d ch G S B k)),O I 0])/\Below u.heap.size u u':=by
 obtain ⟨g,c,rfl,h1,h2,h3⟩:=hx.open h.ch1;obtain ⟨q1,q2,q3⟩:=hx.lists h3 h2;have hb:=z1r hk.B1 hkb;have hnb:=hk.nb;have a1:=h.ch1;have a2:=h.ch4;have b1:=h.d4;have b2:=h.d12;have b3:=h.B1;have b4:=h.B32;have b5:=h.c3b;have b6:=h.c4b;have b7:=h.c51;have b8:=h.c58;have b9:=h.c61;have b10:=h.c616;have b11:=h.c71;have b12:=h.c78;have hok:z7N ch d B c3 c4 c5 c6 c7 k ch (fun _=>blkN S B k) (blkF G B k):=by
  refine ⟨?_,?_,rfl,?_,fun i hi=>⟨rfl,fun j hj=>?_⟩⟩
  . simp only [z1I,Bool.and_eq_true,z0h]
    omega
  . rw [z0h];omega
  . show z0s (blkN S B k:Int) 1 B=true
    rw [z0h];omega
  . rw [Int.toNat_natCast];exact hk.blk hkb i hi j hj
 have hE:=z7P ch d B c3 c4 c5 c6 c7 k _ ch c _ (fun _=>blkN S B k) (fun _=>blkN S B k) (blkF G B k) u (by omega) (fun i hi=>by omega) q1 q2 q3 hT;rw [(z6h hok).1,(z6h hok).2] at hE;simp only [Int.toNat_natCast] at hE;exact hE
theorem y2U {base:Nat} {lv:Value} {S n B k:Nat} {gs:Nat->Nat} {G:Nat->Nat->Int} (w:World) (hn1:1<=n) (hn4:n<=4) (hS:S<=300) (hB1:1<=B) (hB:B<=32) (hk:k < nBlk S B) (h:AccI base w lv S n gs G) :
 Calls prog 16 #[lv,O I (k * B:Nat),O I ((k+1) * B:Nat)] w fun e w'=>∃ lv2 gs2,e=.returned lv2/\AccI w.heap.size w' lv2 (blkN S B k) n gs2 (blkF G B k)/\Below w.heap.size w w':=by
 have hb:=z1r hB1 hk;have hkS:k * B < S:=(z1b hB1).1 hk;have e1:(k+1) * B=k * B+B:=Nat.add_one_mul _ _;have hh:min ((k+1) * B) S=k * B+blkN S B k:=by unfold blkN;omega
 have h1:=y1U base lv S n (k * B) ((k+1) * B) gs G w hn1 hn4 hS (by omega) (by omega) h;rw [hh,Nat.min_eq_left (by omega),Nat.add_sub_cancel_left] at h1;refine h1.mono ?_;rintro e w' ⟨lv2,gs2,G2,rfl,ha,hg,hb⟩;exact ⟨lv2,gs2,rfl,ha.ext hg,hb⟩
def atsL (d n:Nat) (F:Nat->Nat->Int) (S B hs k:Nat):List Value:=(List.range k).map fun j=>O I ((hs+(frsT d n F S B j).length:Nat):Int)
theorem y5e (d n:Nat) (F:Nat->Nat->Int) (S B hs k:Nat):atsL d n F S B hs (k+1)=atsL d n F S B hs k ++ [O I ((hs+(frsT d n F S B k).length:Nat):Int)]:=by
 unfold atsL;rw [List.range_succ,List.map_append]
 rfl
set_option maxRecDepth 4000 in
set_option maxHeartbeats 4000000 in
theorem y2V (ch d B c3 c4 c5 c6 c7 S:Nat) (base gx cx:Nat) (gs:Nat->Nat) (G:Nat->Nat->Int) (w:World) (hc:CfgK ch d B c3 c4 c5 c6 c7) (hk:KP d ch B c3 c4 S G) (hx:AccI base w (.slice (some ⟨gx,0,none⟩) ch cx) S ch gs G) (hT:TabsF w) :
 Calls prog 12 #[.agg #[O I ch,O I d,O I B,O I c3,O I c4,O I c5,O I c6,O I c7],.slice (some ⟨gx,0,none⟩) ch cx,.string (bs (z0B d ch B c3 c4 G S))] w fun e w'=>∃ ov,e=.returned ov/\w'.ownsRow w.heap.size 3 1 ov (nBlk S B+1) (atsL d ch G S B (22+2 * nPts S B c4) (nBlk S B+1))/\Below w.heap.size w w':=by
 have HB0:Hid (Below w.heap.size w (w.alloc (.cells #[O I ch,O I d,O I B,O I c3,O I c4,O I c5,O I c6,O I c7] 23))):=zX.alloc zY _;have HQ0:=zZ (show Bx (w.alloc (.cells #[O I ch,O I d,O I B,O I c3,O I c4,O I c5,O I c6,O I c7] 23)) w.heap.size 23 #[O I ch,O I d,O I B,O I c3,O I c4,O I c5,O I c6,O I c7] from Bx.new _ _ _);have a1:=hc.ch1;have a2:=hc.ch4;have a3:=hk.S3;have hnb:=hk.nb;have HBK:=zZ (fun (u:World) (hu:Below w.heap.size w u)=>y0X ch d c3 c4 c5 c6 c7 B _ ch S G u hc.B1 hc.B32 a3 a1 ((hx.next hu).view a1));have HHS:=zZ (fun u=>z8o ch d B c3 c5 c6 c7 c4 (nBlk S B) u hc.c4b hnb);have HPT:=zZ (fun (u:World) (hu:Below w.heap.size w u) (k:Nat) (hkb:k < nBlk S B)=>y2U u a1 a2 a3 hc.B1 hc.B32 hkb (hx.next hu));have HFR:=zZ (fun (u:World) (hu:Below w.heap.size w u) (b k:Nat) (lv:Value) (gs2:Nat->Nat) (hkb:k < nBlk S B) (ha:AccI b u lv (blkN S B k) ch gs2 (blkF G B k))=>y2T u hc hk hkb ha (hT.below hu));have hz:(bs (z0B d ch B c3 c4 G S)).size=(z0B d ch B c3 c4 G S).length:=z0e _;have e22:(22+2 * (if c4=0 then 0 else nBlk (nBlk S B) c4):Nat)=22+2 * nPts S B c4:=rfl;rw [e22] at HHS;have HTW:=zZ (fun k (hkb:k < nBlk S B)=>y2S hk hkb);have HCUT:Hid (∀ k p,k < nBlk S B->p=22+2 * nPts S B c4+(frsT d ch G S B k).length->p+(frT d ch G S B k).length<=(z0B d ch B c3 c4 G S).length/\(bs (z0B d ch B c3 c4 G S)).extract p (p+(frT d ch G S B k).length)=bs (frT d ch G S B k)):=fun k p hkb hp=>by
  have h1:=z2a hk;have hX:frsT d ch G S B (nBlk S B)=frsT d ch G S B k ++ (frT d ch G S B k ++ tlX d ch G S B (k+1)):=by
   rw [← y7R hkb];obtain ⟨Z,hZ⟩:=z4G d ch G S B k (nBlk S B - k);rw [Nat.add_sub_cancel' (Nat.le_of_lt hkb)] at hZ;unfold tlX;rw [hZ,List.drop_left]
  have hl:(frsT d ch G S B (nBlk S B)).length=(frsT d ch G S B k).length+((frT d ch G S B k).length+(tlX d ch G S B (k+1)).length):=by rw [hX,List.length_append,List.length_append]
  refine ⟨by omega,?_⟩;rw [z3a,Nat.add_sub_cancel_left]
  congr 1
  have hd:(z0B d ch B c3 c4 G S).drop p=frT d ch G S B k ++ tlX d ch G S B (k+1):=by
   have h2:=y0S hk;rw [(z6r hk).sz] at h2;rw [hp,← List.drop_drop,h2,y7S,hX,List.drop_left]
  rw [hd,List.take_left]
 have HEND:Hid (22+2 * nPts S B c4+(frsT d ch G S B (nBlk S B)).length=(z0B d ch B c3 c4 G S).length):=(z2a hk).symm;have HSH:=zZ (z3g hk);have hhb:22+2 * nPts S B c4<=700:=by have:=np_bd S B c4 hc.B1;omega
 clear e22;generalize 22+2 * nPts S B c4=hs at *;have HST:Hid (∀ k,(bs (frT d ch G S B k)).size=(frT d ch G S B k).length):=fun k=>z0e _
 generalize bs (z0B d ch B c3 c4 G S)=SB at *;generalize (z0B d ch B c3 c4 G S).length=TL at *;have hTL:TL<=9000:=HSH.out;have HKB:=zZ hc;have HBE:Hid (1<=B/\B<=32):=⟨hc.B1,hc.B32⟩;have hB1:=hc.B1;have hB2:=hc.B32;clear hc hk hx hT HSH;generalize nBlk S B=nb at *
 go_enter Tryz.func12,Tryz.ntmps12
 go_wp2_with (first
  | (refine z0f rfl _ 23 rfl w.heap.size 23 #[O I ch,O I d,O I B,O I c3,O I c4,O I c5,O I c6,O I c7] (0,0) _ rfl HQ0.out Tryz.underlying23 rfl z1h ?_)
  | (go_at_call 20;refine (HBK.out _ HB0.out).mono ?_;rintro e w1 ⟨rfl,hb⟩;have HQ1:=zZ (HQ0.out.below hb);have HB1:=zZ (HB0.out.trans (hb.mono HB0.out.size));clear HBK hb HQ0 HB0)
  | (refine z0f rfl _ 23 rfl w.heap.size 23 #[O I ch,O I d,O I B,O I c3,O I c4,O I c5,O I c6,O I c7] (0,0) _ rfl HQ1.out Tryz.underlying23 rfl z1h ?_)
  | (go_at_call 35;refine (HHS.out _).mono ?_;rintro e w2 ⟨rfl,hb⟩;have HQ2:=zZ (HQ1.out.below hb);have HB2:=zZ (HB1.out.trans (hb.mono HB1.out.size));clear HHS hb HQ1 HB1))
 have HO0:Hid ((w2.alloc (.cells #[O I hs] 3)).ownsRow (w.heap.size+1) 3 1 (.slice (some ⟨w2.heap.size,0,none⟩) 1 1) 1 (atsL d ch G S B hs 1)):=by
  refine ⟨rfl,.inr ⟨w2.heap.size,1,#[O I hs],rfl,HQ2.out.lt,blk_alloc_new _ _,Nat.le_refl _,by simp [maxLen],rfl,?_⟩⟩
  rfl
 go_loopw [6,8,9,10,11,12] (fun _ av ov kv _ _ wr=>∃ (k p:Nat) (lv:Value),k<=nb/\kv=O I k/\av=O I p/\ov=lv/\Hid (p=hs+(frsT d ch G S B k).length/\wr.ownsRow (w.heap.size+1) 3 1 lv (k+1) (atsL d ch G S B hs (k+1))/\Bx wr w.heap.size 23 #[O I ch,O I d,O I B,O I c3,O I c4,O I c5,O I c6,O I c7]/\Below w.heap.size w wr)) (fun _ _ _ kv _ _ _=>nb - (intOf kv).toNat)
 case atStart=>exact ⟨0,hs,_,Nat.zero_le _,rfl,rfl,rfl,rfl,HO0.out,HQ2.out.alloc _,HB2.out.alloc HB2.out.size _⟩
 case round =>
  obtain ⟨k,p,lv,hkn,rfl,rfl,e,HR⟩:=hrel;subst e;obtain ⟨al,cl,hlv⟩:=z1S HR.out.2.1;subst hlv
  by_cases hlt:k < nb
  . have hp:=HR.out.1
    have h12:=HTW.out k hlt;obtain ⟨hcl,hcut⟩:=HCUT.out k p hlt hp;have HCU:=zZ hcut;have e1:(k:Int) * (B:Int)=((k * B:Nat):Int):=by simp
    have e2:((k:Int)+1) * (B:Int)=(((k+1) * B:Nat):Int):=by rw [Int.natCast_mul];rfl
    have hb1:k * B<=300 * 32:=Nat.mul_le_mul (by omega) hB2;have hb2:(k+1) * B<=301 * 32:=Nat.mul_le_mul (by omega) hB2;have HPK:=zZ (fun (u:World) (hu:Below w.heap.size w u)=>HPT.out u hu k hlt);have HFK:=zZ (fun (u:World) (hu:Below w.heap.size w u) (b:Nat) (lv:Value) (gs2:Nat->Nat) ha=>HFR.out u hu b k lv gs2 hlt ha);have hsz:=HST.out k;generalize k * B=kb at *;generalize (k+1) * B=kb1 at *;have v1:IntKind.i64.wrap ((k:Int) * (B:Int))=(kb:Int):=by rw [IntKind.wrap_i64,e1];omega
    have v2:IntKind.i64.wrap (((k:Int)+1) * (B:Int))=(kb1:Int):=by rw [IntKind.wrap_i64,e2];omega
    have v3:IntKind.i64.wrap ((k:Int)+1)=(k:Int)+1:=by rw [IntKind.wrap_i64];omega
    have HP0:=zZ hp;have hLN:(frsT d ch G S B (k+1)).length=(frsT d ch G S B k).length+(frT d ch G S B k).length:=List.length_append;have HLN:=zZ hLN;generalize hFB:bs (frT d ch G S B k)=FB at *;generalize (frT d ch G S B k).length=fl at *;obtain ⟨pe,hpe⟩:∃ pe,pe=p+fl:=⟨_,rfl⟩;have v4:IntKind.i64.wrap ((TL:Int) - (p:Int))=((TL - p:Nat):Int):=by rw [IntKind.wrap_i64];omega
    have v5:IntKind.i64.wrap ((p:Int)+(fl:Int))=(pe:Int):=by rw [IntKind.wrap_i64];omega
    have hcu:=HCU.out;rw [← hpe] at hcu;have t1:fl<=TL - p:=by omega
    have t2:¬ ((TL - p:Nat):Int) < (fl:Int):=by omega
    have t3:(p:Int)<=(pe:Int):=by omega
    have t4:(pe:Int)<=(TL:Int):=by omega
    have t5:¬ (fl:Int) < 12:=by omega
    have HPE:Hid (pe=hs+(frsT d ch G S B (k+1)).length):=by show _=_;omega
    generalize TL - p=rs at *;have HBD:=zZ HR.out.2.2.2.drew;have HQD:=zZ HR.out.2.2.1;have hS0:wr.drew.cell? ⟨w.heap.size,0,none⟩=some (O I ch)/\wr.drew.cell? ⟨w.heap.size,1,none⟩=some (O I d)/\wr.drew.cell? ⟨w.heap.size,2,none⟩=some (O I B)/\wr.drew.cell? ⟨w.heap.size,3,none⟩=some (O I c3)/\wr.drew.cell? ⟨w.heap.size,4,none⟩=some (O I c4)/\wr.drew.cell? ⟨w.heap.size,5,none⟩=some (O I c5)/\wr.drew.cell? ⟨w.heap.size,6,none⟩=some (O I c6)/\wr.drew.cell? ⟨w.heap.size,7,none⟩=some (O I c7):=⟨HQD.out.cell 0,HQD.out.cell 1,HQD.out.cell 2,HQD.out.cell 3,HQD.out.cell 4,HQD.out.cell 5,HQD.out.cell 6,HQD.out.cell 7⟩;have HOD:=zZ HR.out.2.1;clear e1 e2 hp hLN HCU hFB hpe;go_wp2_with fail
    go_region_held3 (fun w'=>w'.cell? ⟨w.heap.size,0,none⟩=some (O I ch)/\w'.cell? ⟨w.heap.size,1,none⟩=some (O I d)/\w'.cell? ⟨w.heap.size,2,none⟩=some (O I B)/\w'.cell? ⟨w.heap.size,3,none⟩=some (O I c3)/\w'.cell? ⟨w.heap.size,4,none⟩=some (O I c4)/\w'.cell? ⟨w.heap.size,5,none⟩=some (O I c5)/\w'.cell? ⟨w.heap.size,6,none⟩=some (O I c6)/\w'.cell? ⟨w.heap.size,7,none⟩=some (O I c7))
     (first | with_reducible exact hS0 | with_reducible exact hS1 | with_reducible exact hS2)
     (first
     | (go_at_call 16;refine (HPK.out _ HBD.out).mono ?_;rintro e u1 ⟨pv,gs2,rfl,ha,hb⟩;have hb':Below wr.heap.size wr u1:=⟨hb.os,hb.tape,hb.output,hb.size,hb.block⟩;have HA1:=zZ ha;have HQ1:=zZ (HQD.out.below hb');have HO1:=zZ (HOD.out.kept (z5i hb' _) (Classical.em _));have HB1:=zZ (HBD.out.trans (hb.mono HBD.out.size));have hS1:u1.cell? ⟨w.heap.size,0,none⟩=some (O I ch)/\u1.cell? ⟨w.heap.size,1,none⟩=some (O I d)/\u1.cell? ⟨w.heap.size,2,none⟩=some (O I B)/\u1.cell? ⟨w.heap.size,3,none⟩=some (O I c3)/\u1.cell? ⟨w.heap.size,4,none⟩=some (O I c4)/\u1.cell? ⟨w.heap.size,5,none⟩=some (O I c5)/\u1.cell? ⟨w.heap.size,6,none⟩=some (O I c6)/\u1.cell? ⟨w.heap.size,7,none⟩=some (O I c7):=⟨HQ1.out.cell 0,HQ1.out.cell 1,HQ1.out.cell 2,HQ1.out.cell 3,HQ1.out.cell 4,HQ1.out.cell 5,HQ1.out.cell 6,HQ1.out.cell 7⟩;clear ha hb hb' HPK)
     | (go_at_call 36;refine (HFK.out _ HB1.out _ _ _ HA1.out).mono ?_;rintro e u2 ⟨rfl,hb⟩;have HQ2b:=zZ (HQ1.out.below hb);have HO2:=zZ (HO1.out.kept (z5i hb _) (Classical.em _));have HB2b:=zZ (HB1.out.trans (hb.mono HB1.out.size));have hS2:u2.cell? ⟨w.heap.size,0,none⟩=some (O I ch)/\u2.cell? ⟨w.heap.size,1,none⟩=some (O I d)/\u2.cell? ⟨w.heap.size,2,none⟩=some (O I B)/\u2.cell? ⟨w.heap.size,3,none⟩=some (O I c3)/\u2.cell? ⟨w.heap.size,4,none⟩=some (O I c4)/\u2.cell? ⟨w.heap.size,5,none⟩=some (O I c5)/\u2.cell? ⟨w.heap.size,6,none⟩=some (O I c6)/\u2.cell? ⟨w.heap.size,7,none⟩=some (O I c7):=⟨HQ2b.out.cell 0,HQ2b.out.cell 1,HQ2b.out.cell 2,HQ2b.out.cell 3,HQ2b.out.cell 4,HQ2b.out.cell 5,HQ2b.out.cell 6,HQ2b.out.cell 7⟩;clear hb HFK))
    obtain ⟨g',c',u3,hr,ho,hgr⟩:=z1A 30 3 (O I 0) 8 Tryz.underlying30 z1j rfl u2 _ (.slice al (k+1) cl) (k+1) _ #[O I pe] HO2.out (by simp) (by intro u hu;simp at hu;rw [hu];rfl) (by simp only [maxLen];simp;omega) (by simp;omega) (by have:=HQ2b.out.lt;omega) 30;have HOX:Hid (u3.ownsRow (w.heap.size+1) 3 1 (.slice (some ⟨g',0,none⟩) (k+1+1) c') (k+1+1) (atsL d ch G S B hs (k+1+1))):=by
     show World.ownsRow _ _ _ _ _ _ _
     rw [y5e,← HPE.out];exact ho
    have HQX:Hid (Bx u3 w.heap.size 23 #[O I ch,O I d,O I B,O I c3,O I c4,O I c5,O I c6,O I c7]):=HQ2b.out.of (hgr.block _ HQ2b.out.lt (fun e=>by have:=(HO2.out.lt _ e.symm).1;omega));have HBX:Hid (Below w.heap.size w u3):=HB2b.out.grown hgr HB2b.out.size (fun q hq=>by have:=(HO2.out.lt q hq).1;omega);have HAP:Hid (_=_):=hr;clear hr ho hgr hS0 hS1 hS2
    go_wp2_with (at_builtin;refine z0k rfl _ _ _ rfl _ _ _ rfl rfl HAP.out ?_;clear HAP)
    go_roundw
    case rel=>exact ⟨k+1,pe,_,by omega,by go_num,rfl,rfl,HPE.out,HOX.out,HQX.out,HBX.out⟩
    case measure=>simp [intOf];omega
  . have e:k=nb:=by omega
    subst e;have hp:p=TL:=HR.out.1.trans HEND.out;subst hp;have HOF:=zZ (z4e (base':=w.heap.size) HR.out.2.1 (Nat.le_succ w.heap.size));go_wp2_with fail;go_ret;exact ⟨.slice al (k+1) cl,rfl,HOF.out,HR.out.2.2.2⟩
theorem y5f {w:World} {base n:Nat} {v:Value} {f:Nat->Int} (h:w.ownsRow base 3 1 v n ((List.range n).map fun i=>O I (f i))):∃ A cap,v=.slice A n cap/\∀ i,i < n->∃ g,A=some ⟨g,0,none⟩/\w.cell? ⟨g,i,none⟩=some (O I (f i)):=by
 obtain ⟨A,cap,rfl,hA⟩:=z0n h;refine ⟨A,cap,rfl,fun i hi=>?_⟩;obtain ⟨g,rfl,-,hc⟩:=hA (by omega);exact ⟨g,rfl,hc i _ (by simp [hi])⟩
set_option maxRecDepth 100000 in
theorem y5g (base n:Nat) (v:Value) (w:World) (h:w.ownsRow base 3 1 v n ((List.range n).map fun (k:Nat)=>O I (k:Int))) (hn:n<=100) :
 Calls prog 55 #[v,O I n] w fun e w'=>e=.returned (.bool true)/\w'=w:=by
 obtain ⟨A,cap,rfl,hA⟩:=y5f (f:=fun k=>(k:Int)) h;have HA:=zZ hA;clear h hA
 go_enter Tryz.func55,Tryz.ntmps55
 go_wp2
 go_loopw [5] (fun s5 wr=>∃ q:Nat,q<=n/\s5=O I q/\wr=w) (fun s5 _=>n - (intOf s5).toNat)
 case atStart=>exact ⟨0,Nat.zero_le _,rfl,rfl⟩
 case round =>
  obtain ⟨q,hq,rfl,rfl⟩:=hrel
  by_cases hlt:q < n
  . obtain ⟨g,rfl,hc⟩:=HA.out q hlt
    go_wp2
    go_roundw
    case rel=>exact ⟨q+1,by omega,by go_num,trivial⟩
    case measure=>simp [intOf];omega
  . have e:q=n:=by omega
    subst e;go_wp2;go_ret;exact ⟨rfl,rfl⟩
set_option maxRecDepth 100000 in
theorem y6F (base n:Nat) (f:Nat->Int) (v:Value) (w:World) (h:w.ownsRow base 3 1 v n ((List.range n).map fun k=>O I (f k))) (hf:∀ i,i < n->f i=-1) (hn:n<=100) :
 Calls prog 56 #[v,O I n] w fun e w'=>e=.returned (.bool true)/\w'=w:=by
 obtain ⟨A,cap,rfl,hA⟩:=y5f h;have HA:=zZ hA;have HF:=zZ hf;clear h hA hf
 go_enter Tryz.func56,Tryz.ntmps56
 go_wp2
 go_loopw [5] (fun s5 wr=>∃ q:Nat,q<=n/\s5=O I q/\wr=w) (fun s5 _=>n - (intOf s5).toNat)
 case atStart=>exact ⟨0,Nat.zero_le _,rfl,rfl⟩
 case round =>
  obtain ⟨q,hq,rfl,rfl⟩:=hrel
  by_cases hlt:q < n
  . obtain ⟨g,rfl,hc⟩:=HA.out q hlt
    rw [HF.out q hlt] at hc;go_wp2
    go_roundw
    case rel=>exact ⟨q+1,by omega,by go_num,trivial⟩
    case measure=>simp [intOf];omega
  . have e:q=n:=by omega
    subst e;go_wp2;go_ret;exact ⟨rfl,rfl⟩
set_option maxRecDepth 100000 in
theorem y8d (c0 c1 c2 c3 c4 c6 c7:Int) (W n:Nat) (w:World) (hW:W<=8) (hn:n<=300) :
 Calls prog 23 #[.agg #[O I c0,O I c1,O I c2,O I c3,O I c4,O I W,O I c6,O I c7],O I n] w fun e w'=>e=.returned (O I ((6 * n+W+4:Nat):Int))/\Below w.heap.size w w':=by
 have x5:=(Bx.new w #[O I c0,O I c1,O I c2,O I c3,O I c4,O I W,O I c6,O I c7] 23).cell 5;simp at x5;have w1:IntKind.i64.wrap (6 * (n:Int))=((6 * n:Nat):Int):=by rw [IntKind.wrap_i64];omega
 have w2:IntKind.i64.wrap (((6 * n:Nat):Int)+(W:Int))=((6 * n+W:Nat):Int):=by rw [IntKind.wrap_i64];omega
 have w3:IntKind.i64.wrap (((6 * n+W:Nat):Int)+4)=((6 * n+W+4:Nat):Int):=by rw [IntKind.wrap_i64];omega
 go_enter Tryz.func23,Tryz.ntmps23
 go_wp2;go_ret;refine ⟨?_,zX.alloc zY _⟩;simp
end Go.Proofs.YtlncjgnomhpjnabGreatDoor
