import Derived.Test.YtlncjgnomhpjnabGreatDoorQL9
namespace Go.Proofs.YtlncjgnomhpjnabGreatDoor
open Go.Value renaming int → O
open Go.IntKind renaming i64 → I
open Go.Proofs.Tryz
open Go.RowKit Go.Deep
set_option linter.unusedVariables false
theorem y4b (w:World) (m q:Nat):∃ k,(w.drewN m).drewN q=w.drewN k:=⟨m+q,by simp [World.drewN,Nat.add_assoc]⟩
set_option maxHeartbeats 1000000 in
theorem y4c (a:Option Addr) (n c:Nat) (x:Nat->Int) (w:World) (hn1:1<=n) (hn:n<=32) (hI:IntsAt w a n x) :
 Calls prog 295 #[.slice a n c] w fun e w'=>e=.returned (.bool (z1c x n))/\∃ m,w'=w.drewN m:=by
 have HI:=zZ hI;clear hI
 go_enter func295,ntmps295
 go_wp2
 go_loopw [3] (fun i wr=>∃ j:Nat,1<=j/\j<=n/\i=O I j/\Hid (∀ i,i < j->x i=x 0)/\∃ m,wr=w.drewN m) (fun i _=>n - (intOf i).toNat)
 case atStart=>exact ⟨1,zU,zU,rfl,fun i hi=>by rw [show i=0 by omega],0,rfl⟩
 case round =>
  obtain ⟨j,hj1,hj,rfl,HS,m,rfl⟩:=hrel
  by_cases hlt:j < n
  . obtain ⟨bb,off,hx,hc⟩:=HI.out.open zU
    cases hx;have hcj:=hc j hlt;have hc0:=hc 0 zU;rw [Nat.add_zero] at hc0;clear hc
    by_cases hne:x j=x 0
    . have t1:(x j != x 0)=false:=by simp [hne]
      have HE:=zZ hne;clear hne;go_wp2
      go_quiet ((fail))
      go_wp2
      go_roundw
      case rel=>exact ⟨j+1,zU,zU,zS,fun i hi=>by
       by_cases e:i=j
       . subst e;exact HE.out
       . exact HS.out i zU,_,rfl⟩
      case measure=>simp [intOf];omega
    . have t1:(x j != x 0)=true:=by simp [hne]
      have HE:=zZ hne;clear hne;go_wp2
      go_quiet ((fail))
      go_wp2;go_ret;refine ⟨z0G ?_,y4b _ _ _⟩;cases e:z1c x n with
      | false=>rfl
      | true=>exact absurd ((z2V x n).1 e j hlt) HE.out
  . have e:j=n:=zU
    subst e;go_wp2;go_ret;exact ⟨z0G ((z2V x j).2 HS.out).symm,_,rfl⟩
set_option maxHeartbeats 1000000 in
theorem z3Y (a:Option Addr) (n c k:Nat) (x:Nat->Int) (w:World) (hn:n<=32) (hk:k<=2) (hX:∀ j,j < n->-4096<=x j/\x j<=4096) (hI:IntsAt w a n x) :
 Calls prog 325 #[.slice a n c,O I k] w fun e w'=>e=.returned (O I (lag x k n))/\∃ m,w'=w.drewN m:=by
 have HI:=zZ hI;have HX:=zZ hX;clear hI hX
 go_enter func325,ntmps325
 go_wp2
 go_loopw [5,6] (fun v i wr=>∃ j:Nat,k<=j/\j<=max n k/\i=O I j/\v=O I (lag x k j)/\∃ m,wr=w.drewN m) (fun _ i _=>n - (intOf i).toNat)
 case atStart=>exact ⟨k,zU,zU,rfl,by rw [z2X x k k zY],0,rfl⟩
 case round =>
  obtain ⟨j,hkj,hj,rfl,rfl,m,rfl⟩:=hrel
  by_cases hlt:j < n
  . obtain ⟨bb,off,hx,hc⟩:=HI.out.open zU
    cases hx;have hcj:=hc j hlt;have hck:=hc (j - k) zU;clear hc;have hb:=z6M x k j (fun i hi=>HX.out i zU);have hm:=z9J (a:=4096) (b:=4096) (HX.out j hlt) (HX.out (j - k) zU);have e1:((4096 * 4096:Nat):Int)=16777216:=rfl;rw [e1] at hm;have HE:Hid (lag x k (j+1)=lag x k j+x j * x (j - k)):=by show _=_;simp only [lag];rw [if_pos hkj]
    have v1:I.wrap ((j:Int) - (k:Int))=(j:Int) - (k:Int):=by rw [zK];omega
    have t1:((j:Int) - (k:Int)).toNat=j - k:=zU
    have l1:0<=(j:Int) - (k:Int):=zU
    have l2:(j:Int) - (k:Int) < (n:Int):=zU
    have v2:I.wrap (x j * x (j - k))=x j * x (j - k):=by rw [zK];omega
    have v3:I.wrap (lag x k j+x j * x (j - k))=lag x k j+x j * x (j - k):=by rw [zK];omega
    go_wp2
    go_quiet ((fail))
    go_wp2
    go_roundw
    case rel=>exact ⟨j+1,zU,zU,zS,by rw [HE.out],_,rfl⟩
    case measure=>simp [intOf];omega
  . have HE:Hid (lag x k n=lag x k j):=by
      show _=_
      by_cases e:j=n
      . rw [e]
      . rw [z2X x k j zU,z2X x k n zU]
    go_wp2;go_ret;exact ⟨z0q HE.out.symm,_,rfl⟩
set_option maxHeartbeats 400000 in
theorem z8R (v d:Int) (w:World) (hd:0 < d) (hv:-9000000000000000000<=v/\v<=9000000000000000000) :
 Calls prog 314 #[O I v,O I d] w fun e w'=>e=.returned (O I (v / d))/\w'=w:=by
 have hz:(d == 0)=false:=by simp;omega
 have hz2:¬ d=0:=zU
 have hb:-9000000000000000000<=v / d/\v / d<=9000000000000000000:=by
  constructor
  . have h1:=Int.ediv_le_ediv hd hv.1
    have h2:(-9000000000000000000:Int)<=-9000000000000000000 / d:=by
     rw [Int.le_ediv_iff_mul_le hd];have:=Int.mul_le_mul_of_nonneg_left (show 1<=d by omega) (show (0:Int)<=9000000000000000000 by omega);omega
    omega
  . by_cases h:0<=v
    . have:=Int.ediv_le_self d h;omega
    . have:=Int.ediv_neg_of_neg_of_pos (show v < 0 by omega) hd;omega
 have hcase:=y3E v d hd;have HB:=zZ hb
 by_cases hm:v.tmod d < 0
 . have t1:decide (v.tmod d < 0)=true:=zL hm
   have he:v.tdiv d=v / d+1:=zU
   have w1:I.wrap (v / d+1)=v / d+1:=by rw [zK];omega
   have w2:wrap64 (v / d)=v / d:=by unfold wrap64;omega
   clear hcase hb;generalize v / d=Q at *
   go_enter func314,ntmps314
   go_wp2;go_ret;exact ⟨z0q (by first | rfl | omega),rfl⟩
 . have t1:decide (v.tmod d < 0)=false:=zM hm
   have he:v.tdiv d=v / d:=zU
   have w1:I.wrap (v / d)=v / d:=by rw [zK];omega
   clear hcase hb;generalize v / d=Q at *
   go_enter func314,ntmps314
   go_wp2;go_ret;exact ⟨z0q (by first | rfl | omega),rfl⟩
theorem y1s (v:Int) (w:World):Calls prog 326 #[O I v] w fun e w'=>e=.returned (O I (z4i v))/\w'=w:=by
 have HC:Hid (z4i v=if v < -32 then -32 else if 31 < v then 31 else v):=rfl
 by_cases h1:v < -32
 . rw [if_pos h1] at HC
   have t1:decide (v < -32)=true:=zL h1
   go_enter func326,ntmps326
   go_wp2;go_ret;exact ⟨z0q HC.out.symm,rfl⟩
 . rw [if_neg h1] at HC
   have t1:decide (v < -32)=false:=zM h1
   by_cases h2:31 < v
   . rw [if_pos h2] at HC
     have t2:decide (31 < v)=true:=zL h2
     go_enter func326,ntmps326
     go_wp2;go_ret;exact ⟨z0q HC.out.symm,rfl⟩
   . rw [if_neg h2] at HC
     have t2:decide (31 < v)=false:=zM h2
     go_enter func326,ntmps326
     go_wp2;go_ret;exact ⟨z0q HC.out.symm,rfl⟩
set_option maxHeartbeats 1000000 in
theorem z8S (a:Option Addr) (n c:Nat) (x:Nat->Int) (w:World) (hn:n<=32) (hX:∀ j,j < n->-4096<=x j/\x j<=4096) (hI:IntsAt w a n x) :
 Calls prog 296 #[.slice a n c] w fun e w'=>(∃ A B:Int,e=.returned (.tuple #[O I A,O I B,.bool (decide (0 < z2S x n))])/\(0 < z2S x n->A=z2T x n/\B=z2U x n))/\∃ m,w'=w.drewN m:=by
 have HI:=zZ hI;have H0:=zZ (fun (u:World) (hu:IntsAt u a n x)=>z3Y a n c 0 x u hn zU hX hu);have H1:=zZ (fun (u:World) (hu:IntsAt u a n x)=>z3Y a n c 1 x u hn zU hX hu);have H2:=zZ (fun (u:World) (hu:IntsAt u a n x)=>z3Y a n c 2 x u hn zU hX hu);obtain ⟨r0,h0⟩:∃ r,r=lag x 0 n:=⟨_,rfl⟩;obtain ⟨r1,h1⟩:∃ r,r=lag x 1 n:=⟨_,rfl⟩;obtain ⟨r2,h2⟩:∃ r,r=lag x 2 n:=⟨_,rfl⟩;obtain ⟨v1,v2,v3,v4,v5,v6,v7,v8,v9,b1,b2⟩:=y1d x n hn hX r0 r1 r2 h0 h1 h2;have hD:z2S x n=r0 * r0 - r1 * r1:=by rw [h0,h1];rfl
 have HA:Hid (z2T x n=z4i (8 * r1 * (r0 - r2) / (r0 * r0 - r1 * r1))):=by show _=_;rw [h0,h1,h2];rfl
 have HB:Hid (z2U x n=z4i (8 * (r0 * r2 - r1 * r1) / (r0 * r0 - r1 * r1))):=by show _=_;rw [h0,h1,h2];rfl
 rw [← h0] at H0;rw [← h1] at H1;rw [← h2] at H2;rw [hD];clear h0 h1 h2 hI hX hD
 by_cases hd:0 < r0 * r0 - r1 * r1
 . have t1:decide (r0 * r0 - r1 * r1<=0)=false:=zM zU
   have t2:decide (0 < r0 * r0 - r1 * r1)=true:=zL hd;rw [t2];have HWA:=zZ (fun u=>z8R (8 * r1 * (r0 - r2)) (r0 * r0 - r1 * r1) u hd b1);have HWB:=zZ (fun u=>z8R (8 * (r0 * r2 - r1 * r1)) (r0 * r0 - r1 * r1) u hd b2);have HXA:=zZ (fun u=>y1s (8 * r1 * (r0 - r2) / (r0 * r0 - r1 * r1)) u);have HXB:=zZ (fun u=>y1s (8 * (r0 * r2 - r1 * r1) / (r0 * r0 - r1 * r1)) u);rw [← HA.out] at HXA;rw [← HB.out] at HXB;generalize 8 * r1 * (r0 - r2) / (r0 * r0 - r1 * r1)=qa at *;generalize 8 * (r0 * r2 - r1 * r1) / (r0 * r0 - r1 * r1)=qb at *;clear b1 b2 hd t2 HA HB
   go_enter func296,ntmps296
   go_wp2_with (first
    | (go_at_call 325;refine (H0.out _ ?_).mono ?_;exact HI.out;rintro e w1 ⟨rfl,q1,hw⟩;subst w1;clear H0)
    | (go_at_call 325;refine (H1.out _ ?_).mono ?_;exact HI.out;rintro e w1 ⟨rfl,q2,hw⟩;subst w1;clear H1)
    | (go_at_call 325;refine (H2.out _ ?_).mono ?_;exact HI.out;rintro e w1 ⟨rfl,q3,hw⟩;subst w1;clear H2)
    | (go_at_call 314;refine (HWA.out _).mono ?_;rintro e w1 ⟨rfl,hw⟩;subst w1;clear HWA)
    | (go_at_call 314;refine (HWB.out _).mono ?_;rintro e w1 ⟨rfl,hw⟩;subst w1;clear HWB)
    | (go_at_call 326;refine (HXA.out _).mono ?_;rintro e w1 ⟨rfl,hw⟩;subst w1;clear HXA)
    | (go_at_call 326;refine (HXB.out _).mono ?_;rintro e w1 ⟨rfl,hw⟩;subst w1;clear HXB))
   go_ret3
   exact ⟨⟨_,_,rfl,fun _=>⟨rfl,rfl⟩⟩,_,rfl⟩
 . have t1:decide (r0 * r0 - r1 * r1<=0)=true:=zL zU
   have t2:decide (0 < r0 * r0 - r1 * r1)=false:=zM hd;have HND:=zZ hd;rw [t2];clear b1 b2 hd t2 HA HB
   go_enter func296,ntmps296
   go_wp2_with (first
    | (go_at_call 325;refine (H0.out _ ?_).mono ?_;exact HI.out;rintro e w1 ⟨rfl,q1,hw⟩;subst w1;clear H0)
    | (go_at_call 325;refine (H1.out _ ?_).mono ?_;exact HI.out;rintro e w1 ⟨rfl,q2,hw⟩;subst w1;clear H1)
    | (go_at_call 325;refine (H2.out _ ?_).mono ?_;exact HI.out;rintro e w1 ⟨rfl,q3,hw⟩;subst w1;clear H2))
   go_ret3
   exact ⟨⟨_,_,rfl,fun h=>absurd h (Int.not_lt.2 HND.out)⟩,_,rfl⟩
structure RS (w:World) (g n W:Nat) (x:Nat->Int):Prop where
 row:w.rowIs g 3 n (cutV n x)
 bd:∀ j,j < n->-4096<=x j/\x j<=4096
 lo:∀ j,j < n->-(2 ^ W)<=x j
theorem RS.below {w u:World} {g n W:Nat} {x:Nat->Int} (h:RS w g n W x) (hb:Below w.heap.size w u):RS u g n W x:=⟨h.row.of_block (hb.block _ h.row.lt),h.bd,h.lo⟩
theorem RS.ints {w:World} {g n W:Nat} {x:Nat->Int} (h:RS w g n W x):IntsAt w (some ⟨g,0,none⟩) n x:=fun i hi=>⟨_,rfl,by
 have:=h.row.cell (i:=i) hi;unfold cutV cutI at this;rw [if_pos hi] at this;rw [z2z,Nat.zero_add];exact this⟩
theorem RS.cell {w:World} {g n W:Nat} {x:Nat->Int} (h:RS w g n W x) {i:Nat} (hi:i < n):w.cell? ⟨g,i,none⟩=some (O I (x i)):=by
 have:=h.row.cell (i:=i) hi;unfold cutV cutI at this;rw [if_pos hi] at this;exact this
set_option maxHeartbeats 1000000 in
theorem y4d (g n W:Nat) (x:Nat->Int) (w:World) (hn1:1<=n) (hn:n<=32) (hW:W<=13) (hS:RS w g n W x) :
 Calls prog 266 #[O I 0,O I W,.slice (some ⟨g,0,none⟩) n n] w fun e w'=>e=.returned (.string (if z1c x n then bs (binT (x 0) W) else ⟨#[]⟩))/\Below w.heap.size w w':=by
 have HSM:=zZ (y4c (some ⟨g,0,none⟩) n n x w hn1 hn hS.ints);have hc0:=hS.cell (i:=0) zU;have HB:=zZ (fun u=>z0U (x 0) W u zU (by have:=hS.bd 0 zU;omega) (hS.lo 0 zU));clear hS;cases hv:z1c x n with
 | true =>
  rw [hv] at HSM;rw [if_pos rfl];clear hv
  go_enter func266,ntmps266
  go_wp2_with (first
   | (go_at_call 295;refine HSM.out.mono ?_;rintro e w1 ⟨rfl,q,hw⟩;subst w1;clear HSM)
   | (go_at_call 267;refine (HB.out _).mono ?_;rintro e w2 ⟨rfl,hb2⟩;have HB2:Hid (Below w.heap.size w w2):=(⟨hb2.os,hb2.tape,hb2.output,hb2.size,hb2.block⟩:Below w.heap.size w w2);clear hb2 HB))
  go_ret;exact ⟨rfl,HB2.out⟩
 | false =>
  rw [hv] at HSM;rw [if_neg (by simp)];clear hv
  go_enter func266,ntmps266
  go_wp2_with (go_at_call 295;refine HSM.out.mono ?_;rintro e w1 ⟨rfl,q,hw⟩;subst w1;clear HSM)
  go_ret;exact ⟨rfl,below_drewN zX _⟩
set_option maxHeartbeats 1000000 in
theorem y2g (kind g n W:Nat) (x:Nat->Int) (w:World) (h2:2<=kind) (h7:kind<=7) (hon:¬ ord kind < n) :
 Calls prog 266 #[O I kind,O I W,.slice (some ⟨g,0,none⟩) n n] w fun e w'=>e=.returned (.string ⟨#[]⟩)/\Below w.heap.size w w':=by
 have HO:=zZ (fun u=>z2w kind u h2 h7);have k0:((kind:Int) == 0)=false:=by simp;omega
 have k1:decide (1 < (kind:Int))=true:=zL zU;have t1:decide ((n:Int)<=(ord kind:Int))=true:=zL zU;have t2:decide (n<=ord kind)=true:=zL zU;generalize ord kind=o at *
 go_enter func266,ntmps266
 go_wp2_with (go_at_call 273;refine (HO.out _).mono ?_;rintro e w1 ⟨rfl,hw⟩;subst w1;clear HO)
 go_ret;exact ⟨rfl,Below.refl _ _⟩
set_option maxHeartbeats 1000000 in
theorem y2h (g n W:Nat) (x:Nat->Int) (w:World) (hn:n<=32) (hW:W<=13) (hS:RS w g n W x) :
 Calls prog 266 #[O I 1,O I W,.slice (some ⟨g,0,none⟩) n n] w fun e w'=>e=.returned (.string (bs (z0B x W n)))/\Below w.heap.size w w':=by
 have HS:=zZ hS;have HB0:=zZ (Below.refl w.heap.size w);clear hS
 go_enter func266,ntmps266
 go_wp2
 go_loopw [10,11] (fun sv iv wr=>∃ i:Nat,i<=n/\iv=O I i/\sv=.string (bs (z0B x W i))/\Hid (Below w.heap.size w wr)) (fun _ iv _=>n - (intOf iv).toNat)
 case atStart=>exact ⟨0,zJ _,rfl,rfl,HB0.out⟩
 case round =>
  clear HB0;obtain ⟨i,hi,rfl,rfl,HBi⟩:=hrel
  by_cases hlt:i < n
  . have hci:=(HS.out.below HBi.out).cell (i:=i) zU
    have HBN:=zZ (fun u=>z0U (x i) W u zU (by have:=HS.out.bd i zU;omega) (HS.out.lo i zU));have hs1:(bs (z0B x W i)).size<=1000:=by
     rw [z0b,z0k];have:i * W<=32 * 13:=Nat.mul_le_mul zU hW;omega
    have hs2:(bs (binT (x i) W)).size<=13:=by rw [z0b,z0e];exact hW
    have HSTR:Hid (bs (z0B x W i) ++ bs (binT (x i) W)=bs (z0B x W (i+1))):=by show _=_;rw [z0f];rfl
    have hszi:=HBi.out.size;generalize bs (z0B x W i)=S1 at *;generalize bs (binT (x i) W)=S2 at *
    go_wp2_with (go_at_call 267;refine (HBN.out _).mono ?_;rintro e w2 ⟨rfl,hb2⟩;have HB2:=zZ (HBi.out.trans (hb2.mono hszi));clear hb2 HBN)
    go_roundw
    case rel=>exact ⟨i+1,zU,zS,by rw [HSTR.out],HB2.out⟩
    case measure=>simp [intOf];omega
  . have e:i=n:=zU
    subst e;go_wp2;go_ret;exact ⟨rfl,HBi.out⟩
theorem z6R {w:World} {b n:Nat} {t:TypeId} {f:Nat->Value} (h:w.rowIs b t n f) (m:Nat):(w.drewN m).rowIs b t n f:=h
def z3Z (o:Nat) (R:Nat->Int) (j i:Nat):Value:=O I (if o<=i/\i < j then R i else 0)
theorem z3D {w:World} {g:Nat} {t:TypeId} {cap k o:Nat} {R:Nat->Int} {z:Int} (ho:o<=k) (hz:z=R k) (h:w.rowIs g t cap (fun i=>if i=k then O I z else z3Z o R k i)):w.rowIs g t cap (z3Z o R (k+1)):=by
 refine h.congr fun i _=>?_
 unfold z3Z
 by_cases e:i=k
 . subst e;simp [hz,ho]
 . by_cases e2:i < k
   . simp [e,e2,Nat.lt_succ_of_lt e2]
   . have:¬ i < k+1:=zU
     simp [e,e2,this]
set_option maxRecDepth 100000 in
set_option maxHeartbeats 4000000 in
theorem y2i (kind g n W:Nat) (x:Nat->Int) (w:World) (h2:2<=kind) (h6:kind<=6) (hn:n<=32) (hW:W<=13) (hon:ord kind < n) (hS:RS w g n W x) (hT:z1v w 2) (hTl:2 < w.heap.size) :
 Calls prog 266 #[O I kind,O I W,.slice (some ⟨g,0,none⟩) n n] w fun e w'=>e=.returned (.string (bs (gT kind W x n)))/\Below w.heap.size w w':=by
 have h7:kind<=7:=zU
 have ho:=z3j kind h2 h7;have HO:=zZ (fun u=>z2w kind u h2 h7);have k0:((kind:Int) == 0)=false:=by simp;omega
 have k1:decide (1 < (kind:Int))=true:=zL zU;have k2:((kind:Int) == 1)=false:=by simp;omega
 have k7:((kind:Int) == 7)=false:=by simp;omega
 have t1:decide ((n:Int)<=(ord kind:Int))=false:=zM zU;have t2:decide (n<=ord kind)=false:=zM zU;have HS:=zZ hS;have HB0:=zZ (Below.refl w.heap.size w);have HTB:=zZ (fun (u:World) (hu:Below w.heap.size w u)=>(fun r c hr hc=>(hu.cell (p:=⟨2,4 * r+c,none⟩) hTl).trans (hT r c hr hc):z1v u 2));have HBD:=zZ (fun i (h1:ord kind<=i) (h3:i < n)=>z7z kind x n i h2 h7 (fun j hj=>hS.bd j zU) h1);obtain ⟨R,hR⟩:∃ R:Nat->Int,R=fun i=>x i - z0N kind (wA kind x n) (wB kind x n) x i:=⟨_,rfl⟩
 have HRE:Hid (∀ i,R i=x i - z0N kind (wA kind x n) (wB kind x n) x i):=fun i=>by rw [hR]
 have HRF:Hid ((fun i=>z1o (R i))=fR kind x n):=by rw [hR];rfl
 have hva:wA kind x n=0:=if_neg zU;have hvb:wB kind x n=0:=if_neg zU;have HTX:Hid (bs (z0B x W (ord kind)) ++ bs (cutT (fR kind x n) (ord kind) n (bC kind x n))=bs (gT kind W x n)):=by
  show _=_
  rw [z0f];unfold gT;rw [if_neg zU,List.nil_append]
 have hns:(bs (z0B x W (ord kind))).size<=1000:=by
  rw [z0b,z0k];have:ord kind * W<=4 * 13:=Nat.mul_le_mul ho hW;omega
 have hmk:=run_make_row' (P:=prog) 30 3 (O I 0) 8 underlying30 z1g rfl .i64 .i64 n zU zU;have HVA:=zZ hva;have HVB:=zZ hvb;clear hS hT hR hva hvb
 go_enter func266,ntmps266
 go_wp2_with (go_at_call 273;refine (HO.out _).mono ?_;rintro e w1 ⟨rfl,hw⟩;subst w1;clear HO)
 go_loopw [10,11] (fun sv iv wr=>∃ i:Nat,i<=(ord kind)/\iv=O I i/\sv=.string (bs (z0B x W i))/\Hid (Below w.heap.size w wr)) (fun _ iv _=>(ord kind) - (intOf iv).toNat)
 case atStart=>exact ⟨0,zJ _,rfl,rfl,HB0.out⟩
 case round =>
  clear HB0;obtain ⟨i,hi,rfl,rfl,HBi⟩:=hrel
  by_cases hlt:i < (ord kind)
  . have hci:=(HS.out.below HBi.out).cell (i:=i) zU
    have HBN:=zZ (fun u=>z0U (x i) W u zU (by have:=HS.out.bd i zU;omega) (HS.out.lo i zU));have hs1:(bs (z0B x W i)).size<=1000:=by
     rw [z0b,z0k];have:i * W<=32 * 13:=Nat.mul_le_mul zU hW;omega
    have hs2:(bs (binT (x i) W)).size<=13:=by rw [z0b,z0e];exact hW
    have HSTR:Hid (bs (z0B x W i) ++ bs (binT (x i) W)=bs (z0B x W (i+1))):=by show _=_;rw [z0f];rfl
    have hszi:=HBi.out.size;generalize bs (z0B x W i)=S1 at *;generalize bs (binT (x i) W)=S2 at *
    go_wp2_with (go_at_call 267;refine (HBN.out _).mono ?_;rintro e w2 ⟨rfl,hb2⟩;have HB2:=zZ (HBi.out.trans (hb2.mono hszi));clear hb2 HBN)
    go_roundw
    case rel=>exact ⟨i+1,zU,zS,by rw [HSTR.out],HB2.out⟩
    case measure=>simp [intOf];omega
  . have e:i=(ord kind):=zU
    rw [e];have HB0:=zZ HBi.out;clear HBi hlt hi e;go_wp2;obtain ⟨G,hG⟩:∃ G,G=wr.heap.size:=⟨_,rfl⟩;have hGw:w.heap.size<=G:=by rw [hG];exact HB0.out.size
    have HG0:Hid ((wr.alloc (.cells (madeCells #[O I 0] n) 3)).rowIs G 3 n (z3Z (ord kind) R (ord kind))/\Below w.heap.size w (wr.alloc (.cells (madeCells #[O I 0] n) 3))):=by
     rw [hG];exact ⟨(World.rowIs_made wr (O I 0) n 3).congr fun i _=>by unfold z3Z;rw [if_neg zU],HB0.out.alloc HB0.out.size _⟩
    rw [← hG];clear hG HB0 hmk
    go_loopw [16] (fun iv wi=>∃ j:Nat,ord kind<=j/\j<=n/\iv=O I j/\Hid (wi.rowIs G 3 n (z3Z (ord kind) R j)/\Below w.heap.size w wi)) (fun iv _=>n - (intOf iv).toNat)
    case atStart=>exact ⟨ord kind,zU,zU,rfl,HG0.out.1,HG0.out.2⟩
    case round =>
     clear HG0;obtain ⟨j,hoj,hj,rfl,HJ⟩:=hrel
     by_cases hlt:j < n
     . have hcj:=(HS.out.below HJ.out.2).cell (i:=j) hlt
       have hc1:=HJ.out.1.cell hlt;have hf1:=HJ.out.1.frozen j;unfold z3Z at hc1;have HGU:=zZ (z6K kind (wA kind x n) (wB kind x n) g n j n x wr.drew h2 h7 (by have:=y1W kind x n;omega) (by have:=y1X kind x n;omega) hn hlt hoj (fun i hi=>HS.out.bd i zU) (HS.out.below HJ.out.2).row zU (HTB.out _ HJ.out.2.drew));have hbd:=(HBD.out j hoj hlt).1;have HRJ:=zZ (HRE.out j);obtain ⟨gv,hgv⟩:∃ v,v=z0N kind (wA kind x n) (wB kind x n) x j:=⟨_,rfl⟩;rw [← hgv] at HGU hbd HRJ;rw [HVA.out,HVB.out] at HGU;have v5:I.wrap (x j - gv)=x j - gv:=by rw [zK];omega
       generalize hov:(if ord kind<=j/\j < j then R j else 0)=ov at hc1;clear hgv hbd hov;go_wp2
       go_region_with (go_at_call 297;refine HGU.out.mono ?_;rintro e w1 ⟨rfl,q,hw⟩;subst w1;clear HGU)
       all_goals go_wp2
       all_goals go_roundw
       all_goals first
        | exact ⟨j+1,zU,zU,zS,z3D hoj HRJ.out.symm (HJ.out.1.set j _),HJ.out.2.setCell hGw _⟩
        | exact ⟨j+1,zU,zU,zS,z3D hoj HRJ.out.symm ((z6R HJ.out.1 (1+q)).set j _),(below_drewN HJ.out.2 (1+q)).setCell hGw _⟩
        | (simp [intOf];omega)
     . have e:j=n:=zU
       subst e;have HCU:=zZ (fun (u:World) (hu:u.rowIs G 3 j (z3Z (ord kind) R j))=>y1r (ord kind) G j j R u hn ho hon zY (fun i h1 h2=>by rw [HRE.out];exact (HBD.out i h1 h2).1) (fun i h1 h2=>by
        have:=hu.cell (i:=i) h2;unfold z3Z at this;rw [if_pos ⟨h1,h2⟩] at this;exact this) hu.lt)
       have hszj:=HJ.out.2.size;rw [HRF.out] at HCU;have hcs:(bs (cutT (fR kind x j) (ord kind) j (bC kind x j))).size<=1000000000:=by
        rw [z0b,z1U];exact z3V (fR kind x j) (ord kind) j (bC kind x j) hn (z2x _ _ _ _) (z2y _ _ _ hon _) (fun i h1 h2=>(HBD.out i h1 h2).2)
       have hbb:z0o (fR kind x j) (ord kind) j 3=bC kind x j:=rfl;rw [hbb] at HCU;have HSTR:=zZ HTX.out;generalize bs (cutT (fR kind x j) (ord kind) j (bC kind x j))=S9 at *;clear hbb
       go_wp2_with (go_at_call 298;refine (HCU.out _ ?_).mono ?_;exact HJ.out.1;rintro e w3 ⟨rfl,hb3⟩;have HB3:=zZ (HJ.out.2.trans (hb3.mono hszj));clear hb3 HCU)
       go_ret;exact ⟨by rw [← HSTR.out];rfl,HB3.out⟩
set_option maxRecDepth 100000 in
set_option maxHeartbeats 4000000 in
theorem y2j (kind g n W:Nat) (x:Nat->Int) (w:World) (hk7:kind=7) (hn:n<=32) (hW:W<=13) (hon:ord kind < n) (hD:0 < z2S x n) (hS:RS w g n W x) (hT:z1v w 2) (hTl:2 < w.heap.size) :
 Calls prog 266 #[O I kind,O I W,.slice (some ⟨g,0,none⟩) n n] w fun e w'=>e=.returned (.string (bs (gT kind W x n)))/\Below w.heap.size w w':=by
 have h2:2<=kind:=zU
 have h7:kind<=7:=zU
 have ho:=z3j kind h2 h7;have HO:=zZ (fun u=>z2w kind u h2 h7);have k0:((kind:Int) == 0)=false:=by simp;omega
 have k1:decide (1 < (kind:Int))=true:=zL zU;have k2:((kind:Int) == 1)=false:=by simp;omega
 have k7:((kind:Int) == 7)=true:=by simp;omega
 have t1:decide ((n:Int)<=(ord kind:Int))=false:=zM zU;have t2:decide (n<=ord kind)=false:=zM zU;have HS:=zZ hS;have HB0:=zZ (Below.refl w.heap.size w);have HTB:=zZ (fun (u:World) (hu:Below w.heap.size w u)=>(fun r c hr hc=>(hu.cell (p:=⟨2,4 * r+c,none⟩) hTl).trans (hT r c hr hc):z1v u 2));have HBD:=zZ (fun i (h1:ord kind<=i) (h3:i < n)=>z7z kind x n i h2 h7 (fun j hj=>hS.bd j zU) h1);obtain ⟨R,hR⟩:∃ R:Nat->Int,R=fun i=>x i - z0N kind (wA kind x n) (wB kind x n) x i:=⟨_,rfl⟩
 have HRE:Hid (∀ i,R i=x i - z0N kind (wA kind x n) (wB kind x n) x i):=fun i=>by rw [hR]
 have HRF:Hid ((fun i=>z1o (R i))=fR kind x n):=by rw [hR];rfl
 have hva:wA kind x n=z2T x n:=if_pos hk7;have hvb:wB kind x n=z2U x n:=if_pos hk7;have HLN:=zZ (fun (u:World) (hu:Below w.heap.size w u)=>z8S (some ⟨g,0,none⟩) n n x u hn hS.bd (hS.below hu).ints);rw [zL hD] at HLN;have HDD:=zZ hD;have HBA:=zZ (fun u=>z0U (z2T x n) 6 u zU (by have:=z3z (8 * lag x 1 n * (lag x 0 n - lag x 2 n) / z2S x n);unfold z2T;omega) (by have:=z3z (8 * lag x 1 n * (lag x 0 n - lag x 2 n) / z2S x n);unfold z2T;omega));have HBB:=zZ (fun u=>z0U (z2U x n) 6 u zU (by have:=z3z (8 * (lag x 0 n * lag x 2 n - lag x 1 n * lag x 1 n) / z2S x n);unfold z2U;omega) (by have:=z3z (8 * (lag x 0 n * lag x 2 n - lag x 1 n * lag x 1 n) / z2S x n);unfold z2U;omega));have hsA:(bs (binT (z2T x n) 6)).size<=6:=by rw [z0b,z0e];omega
 have hsB:(bs (binT (z2U x n) 6)).size<=6:=by rw [z0b,z0e];omega
 have HTX:Hid (bs (z0B x W (ord kind)) ++ bs (binT (z2T x n) 6) ++ bs (binT (z2U x n) 6) ++ bs (cutT (fR kind x n) (ord kind) n (bC kind x n))=bs (gT kind W x n)):=by
  show _=_
  rw [z0f,z0f,z0f];unfold gT;rw [if_pos hk7];simp [List.append_assoc]
 have hns:(bs (z0B x W (ord kind))).size<=1000:=by
  rw [z0b,z0k];have:ord kind * W<=4 * 13:=Nat.mul_le_mul ho hW;omega
 have hmk:=run_make_row' (P:=prog) 30 3 (O I 0) 8 underlying30 z1g rfl .i64 .i64 n zU zU;have HVA:=zZ hva;have HVB:=zZ hvb;clear hS hT hR hva hvb hk7 hD
 go_enter func266,ntmps266
 go_wp2_with (go_at_call 273;refine (HO.out _).mono ?_;rintro e w1 ⟨rfl,hw⟩;subst w1;clear HO)
 go_loopw [10,11] (fun sv iv wr=>∃ i:Nat,i<=(ord kind)/\iv=O I i/\sv=.string (bs (z0B x W i))/\Hid (Below w.heap.size w wr)) (fun _ iv _=>(ord kind) - (intOf iv).toNat)
 case atStart=>exact ⟨0,zJ _,rfl,rfl,HB0.out⟩
 case round =>
  clear HB0;obtain ⟨i,hi,rfl,rfl,HBi⟩:=hrel
  by_cases hlt:i < (ord kind)
  . have hci:=(HS.out.below HBi.out).cell (i:=i) zU
    have HBN:=zZ (fun u=>z0U (x i) W u zU (by have:=HS.out.bd i zU;omega) (HS.out.lo i zU));have hs1:(bs (z0B x W i)).size<=1000:=by
     rw [z0b,z0k];have:i * W<=32 * 13:=Nat.mul_le_mul zU hW;omega
    have hs2:(bs (binT (x i) W)).size<=13:=by rw [z0b,z0e];exact hW
    have HSTR:Hid (bs (z0B x W i) ++ bs (binT (x i) W)=bs (z0B x W (i+1))):=by show _=_;rw [z0f];rfl
    have hszi:=HBi.out.size;generalize bs (z0B x W i)=S1 at *;generalize bs (binT (x i) W)=S2 at *
    go_wp2_with (go_at_call 267;refine (HBN.out _).mono ?_;rintro e w2 ⟨rfl,hb2⟩;have HB2:=zZ (HBi.out.trans (hb2.mono hszi));clear hb2 HBN)
    go_roundw
    case rel=>exact ⟨i+1,zU,zS,by rw [HSTR.out],HB2.out⟩
    case measure=>simp [intOf];omega
  . have e:i=(ord kind):=zU
    rw [e];have HB0:=zZ HBi.out;clear HBi hlt hi e;have hszb:=HB0.out.size;generalize bs (z0B x W (ord kind))=S0 at *;generalize bs (binT (z2T x n) 6)=SA at *;generalize bs (binT (z2U x n) 6)=SB at *
    go_wp2_with (first
     | (go_at_call 296;refine (HLN.out _ ?_).mono ?_;exact HB0.out;rintro e w1 ⟨⟨va,vb,rfl,hab⟩,q,hq⟩;obtain ⟨rfl,rfl⟩:=hab HDD.out;have HBa:Hid (Below w.heap.size w w1):=(by rw [hq];exact below_drewN HB0.out q);have hsza:=HBa.out.size;clear hq hab HLN HB0)
     | (go_at_call 267;refine (HBA.out _).mono ?_;rintro e w2 ⟨rfl,hb2⟩;have HBb:=zZ (HBa.out.trans (hb2.mono hsza));have hszbb:=HBb.out.size;clear hb2 HBA)
     | (go_at_call 267;refine (HBB.out _).mono ?_;rintro e w3 ⟨rfl,hb3⟩;have HB0:=zZ (HBb.out.trans (hb3.mono hszbb));clear hb3 HBB))
    obtain ⟨G,hG⟩:∃ G,G=w3.heap.size:=⟨_,rfl⟩;have hGw:w.heap.size<=G:=by rw [hG];exact HB0.out.size
    have HG0:Hid ((w3.alloc (.cells (madeCells #[O I 0] n) 3)).rowIs G 3 n (z3Z (ord kind) R (ord kind))/\Below w.heap.size w (w3.alloc (.cells (madeCells #[O I 0] n) 3))):=by
     rw [hG];exact ⟨(World.rowIs_made w3 (O I 0) n 3).congr fun i _=>by unfold z3Z;rw [if_neg zU],HB0.out.alloc HB0.out.size _⟩
    rw [← hG];clear hG HB0 hmk
    go_loopw [16] (fun iv wi=>∃ j:Nat,ord kind<=j/\j<=n/\iv=O I j/\Hid (wi.rowIs G 3 n (z3Z (ord kind) R j)/\Below w.heap.size w wi)) (fun iv _=>n - (intOf iv).toNat)
    case atStart=>exact ⟨ord kind,zU,zU,rfl,HG0.out.1,HG0.out.2⟩
    case round =>
     clear HG0;obtain ⟨j,hoj,hj,rfl,HJ⟩:=hrel
     by_cases hlt:j < n
     . have hcj:=(HS.out.below HJ.out.2).cell (i:=j) hlt
       have hc1:=HJ.out.1.cell hlt;have hf1:=HJ.out.1.frozen j;unfold z3Z at hc1;have HGU:=zZ (z6K kind (wA kind x n) (wB kind x n) g n j n x wr.drew h2 h7 (by have:=y1W kind x n;omega) (by have:=y1X kind x n;omega) hn hlt hoj (fun i hi=>HS.out.bd i zU) (HS.out.below HJ.out.2).row zU (HTB.out _ HJ.out.2.drew));have hbd:=(HBD.out j hoj hlt).1;have HRJ:=zZ (HRE.out j);obtain ⟨gv,hgv⟩:∃ v,v=z0N kind (wA kind x n) (wB kind x n) x j:=⟨_,rfl⟩;rw [← hgv] at HGU hbd HRJ;rw [HVA.out,HVB.out] at HGU;have v5:I.wrap (x j - gv)=x j - gv:=by rw [zK];omega
       generalize hov:(if ord kind<=j/\j < j then R j else 0)=ov at hc1;clear hgv hbd hov;go_wp2
       go_region_with (go_at_call 297;refine HGU.out.mono ?_;rintro e w1 ⟨rfl,q,hw⟩;subst w1;clear HGU)
       all_goals go_wp2
       all_goals go_roundw
       all_goals first
        | exact ⟨j+1,zU,zU,zS,z3D hoj HRJ.out.symm (HJ.out.1.set j _),HJ.out.2.setCell hGw _⟩
        | exact ⟨j+1,zU,zU,zS,z3D hoj HRJ.out.symm ((z6R HJ.out.1 (1+q)).set j _),(below_drewN HJ.out.2 (1+q)).setCell hGw _⟩
        | (simp [intOf];omega)
     . have e:j=n:=zU
       subst e;have HCU:=zZ (fun (u:World) (hu:u.rowIs G 3 j (z3Z (ord kind) R j))=>y1r (ord kind) G j j R u hn ho hon zY (fun i h1 h2=>by rw [HRE.out];exact (HBD.out i h1 h2).1) (fun i h1 h2=>by
        have:=hu.cell (i:=i) h2;unfold z3Z at this;rw [if_pos ⟨h1,h2⟩] at this;exact this) hu.lt)
       have hszj:=HJ.out.2.size;rw [HRF.out] at HCU;have hcs:(bs (cutT (fR kind x j) (ord kind) j (bC kind x j))).size<=1000000000:=by
        rw [z0b,z1U];exact z3V (fR kind x j) (ord kind) j (bC kind x j) hn (z2x _ _ _ _) (z2y _ _ _ hon _) (fun i h1 h2=>(HBD.out i h1 h2).2)
       have hbb:z0o (fR kind x j) (ord kind) j 3=bC kind x j:=rfl;rw [hbb] at HCU;have HSTR:=zZ HTX.out;generalize bs (cutT (fR kind x j) (ord kind) j (bC kind x j))=S9 at *;clear hbb
       go_wp2_with (go_at_call 298;refine (HCU.out _ ?_).mono ?_;exact HJ.out.1;rintro e w3 ⟨rfl,hb3⟩;have HB3:=zZ (HJ.out.2.trans (hb3.mono hszj));clear hb3 HCU)
       go_ret;exact ⟨by rw [← HSTR.out];rfl,HB3.out⟩
set_option maxHeartbeats 1000000 in
theorem y5Z (kind g n W:Nat) (x:Nat->Int) (w:World) (hk7:kind=7) (hn:n<=32) (hW:W<=13) (hon:ord kind < n) (hD:¬ 0 < z2S x n) (hS:RS w g n W x) :
 Calls prog 266 #[O I kind,O I W,.slice (some ⟨g,0,none⟩) n n] w fun e w'=>e=.returned (.string ⟨#[]⟩)/\Below w.heap.size w w':=by
 have h2:2<=kind:=zU
 have h7:kind<=7:=zU
 have ho:=z3j kind h2 h7;have HO:=zZ (fun u=>z2w kind u h2 h7);have k0:((kind:Int) == 0)=false:=by simp;omega
 have k1:decide (1 < (kind:Int))=true:=zL zU;have k2:((kind:Int) == 1)=false:=by simp;omega
 have k7:((kind:Int) == 7)=true:=by simp;omega
 have t1:decide ((n:Int)<=(ord kind:Int))=false:=zM zU;have t2:decide (n<=ord kind)=false:=zM zU;have HS:=zZ hS;have HB0:=zZ (Below.refl w.heap.size w);have HLN:=zZ (fun (u:World) (hu:Below w.heap.size w u)=>z8S (some ⟨g,0,none⟩) n n x u hn hS.bd (hS.below hu).ints);rw [zM hD] at HLN;clear hS hk7 hD
 go_enter func266,ntmps266
 go_wp2_with (go_at_call 273;refine (HO.out _).mono ?_;rintro e w1 ⟨rfl,hw⟩;subst w1;clear HO)
 go_loopw [10,11] (fun sv iv wr=>∃ i:Nat,i<=(ord kind)/\iv=O I i/\sv=.string (bs (z0B x W i))/\Hid (Below w.heap.size w wr)) (fun _ iv _=>(ord kind) - (intOf iv).toNat)
 case atStart=>exact ⟨0,zJ _,rfl,rfl,HB0.out⟩
 case round =>
  clear HB0;obtain ⟨i,hi,rfl,rfl,HBi⟩:=hrel
  by_cases hlt:i < (ord kind)
  . have hci:=(HS.out.below HBi.out).cell (i:=i) zU
    have HBN:=zZ (fun u=>z0U (x i) W u zU (by have:=HS.out.bd i zU;omega) (HS.out.lo i zU));have hs1:(bs (z0B x W i)).size<=1000:=by
     rw [z0b,z0k];have:i * W<=32 * 13:=Nat.mul_le_mul zU hW;omega
    have hs2:(bs (binT (x i) W)).size<=13:=by rw [z0b,z0e];exact hW
    have HSTR:Hid (bs (z0B x W i) ++ bs (binT (x i) W)=bs (z0B x W (i+1))):=by show _=_;rw [z0f];rfl
    have hszi:=HBi.out.size;generalize bs (z0B x W i)=S1 at *;generalize bs (binT (x i) W)=S2 at *
    go_wp2_with (go_at_call 267;refine (HBN.out _).mono ?_;rintro e w2 ⟨rfl,hb2⟩;have HB2:=zZ (HBi.out.trans (hb2.mono hszi));clear hb2 HBN)
    go_roundw
    case rel=>exact ⟨i+1,zU,zS,by rw [HSTR.out],HB2.out⟩
    case measure=>simp [intOf];omega
  . have e:i=(ord kind):=zU
    rw [e];have HB0:=zZ HBi.out;clear HBi hlt hi e
    go_wp2_with (go_at_call 296;refine (HLN.out _ ?_).mono ?_;exact HB0.out;rintro e w1 ⟨⟨va,vb,rfl,hab⟩,q,hq⟩;subst w1;clear hab HLN)
    go_ret;exact ⟨rfl,below_drewN HB0.out _⟩
def okK (kind:Nat) (x:Nat->Int) (n:Nat):Bool:=if kind=0 then z1c x n else if kind=1 then true else okG kind x n
theorem y6a (kind g n W:Nat) (x:Nat->Int) (w:World) (h7:kind<=7) (hn1:1<=n) (hn:n<=32) (hW:W<=13) (hS:RS w g n W x) (hT:z1v w 2) (hTl:2 < w.heap.size) :
 Calls prog 266 #[O I kind,O I W,.slice (some ⟨g,0,none⟩) n n] w fun e w'=>e=.returned (.string (if okK kind x n then bs (z1G kind W x n) else ⟨#[]⟩))/\Below w.heap.size w w':=by
 unfold okK z1G
 by_cases h0:kind=0
 . subst h0
   exact y4d g n W x w hn1 hn hW hS
 . rw [if_neg h0,if_neg h0]
   by_cases h1:kind=1
   . subst h1
     exact y2h g n W x w hn hW hS
   . rw [if_neg h1,if_neg h1]
     have h2:2<=kind:=zU
     by_cases hon:ord kind < n
     . by_cases hk:kind=7
       . by_cases hD:0 < z2S x n
         . rw [if_pos (by simp [okG,hon,hD])]
           exact y2j kind g n W x w hk hn hW hon hD hS hT hTl
         . rw [if_neg (by simp [okG,hk,hD])]
           exact y5Z kind g n W x w hk hn hW hon hD hS
       . rw [if_pos (by simp [okG,hon,hk])]
         exact y2i kind g n W x w h2 zU hn hW hon hS hT hTl
     . rw [if_neg (by simp [okG,hon])]
       exact y2g kind g n W x w h2 h7 hon
def z2I (s W:Nat) (x:Nat->Int) (n:Nat):Nat->ByteArray
 | 0=>⟨#[]⟩
 | k+1=>if (k=0/\z1c x n=false) then ⟨#[]⟩ else bs (binT (z0H W x n (k - 1)) 4 ++ (binT s 4 ++ z1G (z0H W x n (k - 1)) W x n))
theorem z1F (s W:Nat) (x:Nat->Int) (n k:Nat):z2I s W x n (k+1)=if (k=0/\z1c x n=false) then ⟨#[]⟩ else bs (binT (z0H W x n (k - 1)) 4 ++ (binT s 4 ++ z1G (z0H W x n (k - 1)) W x n)):=rfl
theorem y1t (k:Nat) (x:Nat->Int) (n:Nat):okK (k+2) x n=okG (k+2) x n:=by unfold okK;rw [if_neg zU,if_neg zU]
theorem z1y (s W:Nat) (x:Nat->Int) (n k:Nat):z2I s W x n (k+2)=bs (binT (z0H W x n k) 4 ++ (binT s 4 ++ z1G (z0H W x n k) W x n)):=by
 rw [show k+2=(k+1)+1 from rfl,z1F,if_neg zU,Nat.add_sub_cancel]
theorem z3P (s W:Nat) (x:Nat->Int) (n k:Nat):(z2I s W x n (k+2)).size=8+z1j (z0H W x n k) W x n:=by
 rw [z1y,z0b,zN,zN,z0e,z0e,z1B];omega
theorem y6b (s W:Nat) (x:Nat->Int) (n:Nat):∀ k,okK k x n=false->z2I s W x n (k+1)=z2I s W x n k
 | 0,h=>by
  have h':z1c x n=false:=h;rw [z1F,if_pos ⟨rfl,h'⟩];rfl
 | 1,h=>by cases h
 | k+2,h=>by
  rw [y1t] at h;rw [show k+2+1=(k+1)+2 by omega,z1y,z1y,show z0H W x n (k+1)=z0H W x n k from if_neg (by rw [h];simp)]
theorem y4e (s W:Nat) (x:Nat->Int) (n:Nat) (hn1:1<=n):∀ k,okK k x n=true->(z2I s W x n k=⟨#[]⟩∨z1j k W x n+8 < (z2I s W x n k).size)->z2I s W x n (k+1)=bs (binT k 4 ++ (binT s 4 ++ z1G k W x n))
 | 0,h,_=>by
  have h':z1c x n=true:=h;rw [z1F,if_neg (by rw [h'];simp),show z0H W x n (0 - 1)=0 from by unfold z0H;rw [h'];rfl]
 | 1,h,hc=>by
  cases ha:z1c x n with
  | false=>rw [show (1+1)=0+2 from rfl,z1y,show z0H W x n 0=1 from by unfold z0H;rw [ha];rfl]
  | true =>
   exfalso
   have e:z2I s W x n 1=bs (binT 0 4 ++ (binT s 4 ++ z1G 0 W x n)):=by
    rw [show (1:Nat)=0+1 from rfl,z1F,if_neg (by rw [ha];simp),show z0H W x n (0 - 1)=0 from by unfold z0H;rw [ha];rfl];rfl
   rw [e] at hc;rcases hc with hc | hc
   . exact y8J (by rw [zN,z0e];omega) hc
   . rw [z0b,zN,zN,z0e,z0e,z1B] at hc
     have h0:z1j 0 W x n=W:=rfl;have h1:z1j 1 W x n=n * W:=rfl;have h2:1 * W<=n * W:=zD _ hn1;omega
 | k+2,h,hc=>by
  rw [y1t] at h;have hlt:z1j (k+2) W x n < z1j (z0H W x n k) W x n:=by
   rcases hc with hc | hc
   . rw [z1y] at hc
     exact absurd hc (y8J (by rw [zN,z0e];omega))
   . rw [z3P] at hc;omega
  rw [show k+2+1=(k+1)+2 by omega,z1y,show z0H W x n (k+1)=k+2 from if_pos ⟨h,hlt⟩]
theorem y4f (s W:Nat) (x:Nat->Int) (n:Nat) (hn1:1<=n):∀ k,okK k x n=true->¬ z2I s W x n k=⟨#[]⟩->¬ z1j k W x n+8 < (z2I s W x n k).size->z2I s W x n (k+1)=z2I s W x n k
 | 0,_,hne,_=>absurd rfl hne
 | 1,h,hne,_=>by
  cases ha:z1c x n with
  | false =>
   exfalso;apply hne
   rw [show (1:Nat)=0+1 from rfl,z1F,if_pos ⟨rfl,ha⟩]
  | true =>
   rw [show (1+1)=0+2 from rfl,z1y,show z0H W x n 0=0 from by unfold z0H;rw [ha];rfl];rw [z1F,if_neg (by rw [ha];simp),show z0H W x n (0 - 1)=0 from by unfold z0H;rw [ha];rfl]
 | k+2,h,_,hge=>by
  rw [y1t] at h;rw [z3P] at hge;rw [show k+2+1=(k+1)+2 by omega,z1y,z1y,show z0H W x n (k+1)=z0H W x n k from if_neg (fun hh=>by have:=hh.2;omega)]
theorem z7F (s W:Nat) (x:Nat->Int) (n k:Nat):z2I s W x n k=⟨#[]⟩∨1<=(z2I s W x n k).size:=by
 cases k with
 | zero=>exact .inl rfl
 | succ k =>
  rw [z1F]
  by_cases h:(k=0/\z1c x n=false)
  . left;rw [if_pos h]
  . right
    rw [if_neg h,z0b,zN,z0e];omega
theorem z9V (l:Nat->Int) (n k:Nat):z1S l (n+1) k=(z1S l n k && decide (l n % 2 ^ k=0)):=by simp [z1S,List.range_succ]
theorem y2k (l:Nat->Int) (n:Nat):z3T l (n+1)=(z3T l n || decide (l n ≠ 0)):=by simp [z3T,List.range_succ]
theorem y6c (l:Nat->Int) (n width j:Nat) (hw1:1<=width) (hj:z0A width (l j)=true):-(2 ^ (width - z0D l n width))<=z1Z l n width j:=by
 unfold z0A at hj;rw [z0J] at hj;have hs:z0D l n width<=width - 1:=z4l _ _ _;unfold z1Z;rw [Int.le_ediv_iff_mul_le (z2m _)];have e:(2:Int) ^ (width - z0D l n width) * 2 ^ z0D l n width=2 ^ width:=by rw [← Int.pow_add];congr 1;omega
 have e2:(2:Int) ^ width=2 * 2 ^ (width - 1):=by
  obtain ⟨m,rfl⟩:∃ m,width=m+1:=⟨width - 1,zU⟩;rw [Int.pow_succ];simp [Int.mul_comm]
 have hp:=z2m (width - 1);rw [Int.neg_mul,e,e2];omega
theorem y6d (v:Int) (k:Nat):(v.tmod ((2 ^ k:Nat):Int) == 0)=decide (v % 2 ^ k=0):=by
 have h:v.tmod ((2 ^ k:Nat):Int)=0↔v % 2 ^ k=0:=by
  rw [← ip2];constructor
  . intro h;exact Int.emod_eq_zero_of_dvd (Int.dvd_of_tmod_eq_zero h)
  . intro h;exact Int.tmod_eq_zero_of_dvd (Int.dvd_of_emod_eq_zero h)
 by_cases e:v % 2 ^ k=0
 . rw [zL e];simpa using h.2 e
 . rw [zM e]
   have:¬ v.tmod ((2 ^ k:Nat):Int)=0:=fun x=>e (h.1 x)
   simpa using this
theorem y4g (kind W:Nat) (x:Nat->Int) (n:Nat) (hW:1<=W) (hn:1<=n):1<=z1j kind W x n:=by
 unfold z1j;split
 . exact hW
 . split
   . exact Nat.mul_pos hn hW
   . unfold gL cutL;omega
theorem z7G (s W:Nat) (x:Nat->Int) (n:Nat) (hn1:1<=n) (hn:n<=32) (hW:W<=13) (hX:∀ j,j < n->-4096<=x j/\x j<=4096) (k:Nat) (hk:k<=8):(z2I s W x n k).size<=2100000000:=by
 cases k with
 | zero=>show (⟨#[]⟩:ByteArray).size<=_;exact zJ _
 | succ k =>
  rw [z1F]
  by_cases h:(k=0/\z1c x n=false)
  . rw [if_pos h];exact zJ _
  . rw [if_neg h,z0b,zN,zN,z0e,z0e,z1B]
    have hl:=z4j W x n (k - 1);have:=z3B (z0H W x n (k - 1)) W x n zU hn hW hX (z4k W x n (k - 1));omega
set_option maxRecDepth 100000 in
set_option maxHeartbeats 4000000 in
theorem z7H (A:Option Addr) (n c width:Nat) (l:Nat->Int) (w:World) (hn1:1<=n) (hn:n<=32) (hw1:1<=width) (hw:width<=13) (hl:∀ j,j < n->z0A width (l j)=true) (hI:IntsAt w A n l) (hlow:∀ y,A=some y->0 < n->y.block < w.heap.size)
 (hT:z1v w 2) (hTl:2 < w.heap.size) :
 Calls prog 223 #[O I width,.slice A n c] w fun e w'=>e=.returned (.string (bs (subT width l n)))/\Below w.heap.size w w':=by
 have HI:=zZ (fun u (h:Below w.heap.size w u)=>hI.belowB h hlow);have HBD:=zZ (fun j (hj:j < n)=>z3S (hl j hj) hw);have HLO:=zZ (fun j (hj:j < n)=>y6c l n width j hw1 (hl j hj));have HTB:=zZ (fun (u:World) (hu:Below w.heap.size w u)=>(fun r c hr hc=>(hu.cell (p:=⟨2,4 * r+c,none⟩) hTl).trans (hT r c hr hc):z1v u 2));have hmk:=run_make_row' (P:=prog) 30 3 (O I 0) 8 underlying30 z1g rfl .i64 .i64 n zU zU;have HSH:Hid (z0D l n width=z1C l n (width - 1)):=rfl;clear hI hlow hl hT
 go_enter func223,ntmps223
 go_wp2
 go_loopw [5,6] (fun sv kv wr=>∃ k:Nat,1<=k/\k<=width/\kv=O I k/\sv=O I (z1C l n (k - 1))/\∃ m,wr=w.drewN m) (fun _ kv _=>width - (intOf kv).toNat)
 case atStart=>exact ⟨1,zU,zU,rfl,rfl,0,rfl⟩
 case round =>
  obtain ⟨k,hk1,hkw,rfl,rfl,m,rfl⟩:=hrel;have hmn:min k 64=k:=zU
  have hP1:1<=2 ^ k:=Nat.two_pow_pos k;have hP2:2 ^ k<=8192:=zO (zE zU (by omega:k<=13)) zR;have vP:I.wrap ((2:Int) ^ k)=((2 ^ k:Nat):Int):=by rw [← ip2,zK];omega
  have nP:¬ ((2 ^ k:Nat):Int)=0:=zU
  by_cases hkl:k < width
  . have t0:decide ((k:Int) < (width:Int))=true:=zL zU
    have t0':decide (k < width)=true:=zL hkl;obtain ⟨s0,hs0⟩:∃ s0,s0=z1C l n (k - 1):=⟨_,rfl⟩;have HST:Hid (z1C l n k=if (z1S l n k && z3T l n)=true then k else s0):=by
     show _=_
     obtain ⟨k',rfl⟩:∃ k',k=k'+1:=⟨k - 1,zU⟩;rw [hs0];rfl
    rw [← hs0];have HTM:=zZ (fun v=>y6d v k);have HDV:=zZ (fun j=>z9V l j k);clear hs0;generalize hPP:2 ^ k=P at *;clear hPP;go_wp2
    go_loopw [7,8,9] (fun av bv iv wi=>∃ j:Nat,j<=n/\iv=O I j/\av=.bool (z1S l j k)/\bv=.bool (z3T l j)/\∃ m,wi=w.drewN m) (fun _ _ iv _=>n - (intOf iv).toNat)
    case atStart=>exact ⟨0,zU,rfl,rfl,rfl,_,rfl⟩
    case round =>
     obtain ⟨j,hj,rfl,rfl,rfl,m',rfl⟩:=hrel
     by_cases hlt:j < n
     . obtain ⟨bb,off,hx,hc⟩:=(HI.out w zX).open zU
       cases hx;have hcj:=hc j hlt;clear hc;have HD:=zZ (HDV.out j);have HN:=zZ (y2k l j);have htm:=HTM.out (l j);generalize hdd:decide (l j % 2 ^ k=0)=dd at *;have hnz:(l j != 0)=decide (l j ≠ 0):=by by_cases h:l j=0 <;> simp [h]
       generalize hzz:decide (l j ≠ 0)=zz at *;clear hdd hzz;generalize z1S l j k=a0 at *;generalize z3T l j=b0 at *;cases a0 <;> cases b0
       . go_wp2
         go_quiet ((fail))
         go_wp2
         go_roundw
         case rel=>exact ⟨j+1,zU,zS,by rw [HD.out];first | rfl | simp,by rw [HN.out];first | rfl | simp,_,rfl⟩
         case measure=>simp [intOf];omega
       . go_wp2
         go_quiet ((fail))
         go_wp2
         go_roundw
         case rel=>exact ⟨j+1,zU,zS,by rw [HD.out];first | rfl | simp,by rw [HN.out];first | rfl | simp,_,rfl⟩
         case measure=>simp [intOf];omega
       . go_wp2
         go_quiet ((fail))
         go_wp2
         go_roundw
         case rel=>exact ⟨j+1,zU,zS,by rw [HD.out];first | rfl | simp,by rw [HN.out];first | rfl | simp,_,rfl⟩
         case measure=>simp [intOf];omega
       . go_wp2
         go_quiet ((fail))
         go_wp2
         go_roundw
         case rel=>exact ⟨j+1,zU,zS,by rw [HD.out];first | rfl | simp,by rw [HN.out];first | rfl | simp,_,rfl⟩
         case measure=>simp [intOf];omega
     . have e:j=n:=zU
       subst e;generalize z1S l j k=a0 at *;generalize z3T l j=b0 at *;cases a0 <;> cases b0
       . have HSV:Hid (z1C l j k=s0):=HST.out.trans (by first | exact if_pos rfl | exact if_neg (by simp))
         go_wp2;exact ⟨⟨k+1,zU,zU,zS,by rw [Nat.add_sub_cancel,HSV.out],_,rfl⟩,by simp [intOf];omega⟩
       . have HSV:Hid (z1C l j k=s0):=HST.out.trans (by first | exact if_pos rfl | exact if_neg (by simp))
         go_wp2;exact ⟨⟨k+1,zU,zU,zS,by rw [Nat.add_sub_cancel,HSV.out],_,rfl⟩,by simp [intOf];omega⟩
       . have HSV:Hid (z1C l j k=s0):=HST.out.trans (by first | exact if_pos rfl | exact if_neg (by simp))
         go_wp2;exact ⟨⟨k+1,zU,zU,zS,by rw [Nat.add_sub_cancel,HSV.out],_,rfl⟩,by simp [intOf];omega⟩
       . have HSV:Hid (z1C l j k=k):=HST.out.trans (by first | exact if_pos rfl | exact if_neg (by simp))
         go_wp2;exact ⟨⟨k+1,zU,zU,zS,by rw [Nat.add_sub_cancel,HSV.out],_,rfl⟩,by simp [intOf];omega⟩
  . have e:k=width:=zU
    subst e;have t0:decide ((k:Int) < (k:Int))=false:=zM zU;have hsl:z0D l n k<=k - 1:=z4l _ _ _;have HDIV:=zZ (fun i (hi:i < n)=>z6N l n (k - 1) i hi);rw [← HSH.out] at HDIV ⊢;have HXE:Hid (∀ i,l i / 2 ^ z0D l n k=z1Z l n k i):=fun i=>rfl
    have HSBD:=zZ (fun j (hj:j < n)=>y1g l n k j (HBD.out j hj));have HTX:Hid (bs (subT k l n)=z2I (z0D l n k) (k - z0D l n k) (z1Z l n k) n 8):=by
     show _=_
     rw [show (8:Nat)=6+2 from rfl,z1y];rfl
    generalize z1Z l n k=x at *;generalize z0D l n k=sh at *;have hmn2:min sh 64=sh:=zU
    have hQ1:1<=2 ^ sh:=Nat.two_pow_pos sh;have hQ2:2 ^ sh<=8192:=zO (zE zU (by omega:sh<=13)) zR;have vQ:I.wrap ((2:Int) ^ sh)=((2 ^ sh:Nat):Int):=by rw [← ip2,zK];omega
    have nQ:¬ ((2 ^ sh:Nat):Int)=0:=zU
    have HDX:Hid (∀ i,i < n->(l i).tdiv ((2 ^ sh:Nat):Int)=x i):=fun i hi=>by
     rw [← HXE.out i,ip2];exact Int.tdiv_eq_ediv_of_dvd (Int.dvd_of_emod_eq_zero (HDIV.out i hi))
    clear vP nP hP1 hP2 hmn HDIV HXE HSH;generalize hQQ:2 ^ sh=Q at *;clear hQQ;have HB0:Hid (Below w.heap.size w (w.drewN m)):=below_drewN zX m;go_wp2
    go_loopw [11] (fun iv wi=>∃ j:Nat,j<=n/\iv=O I j/\Hid (wi.rowIs w.heap.size 3 n (cutV j x)/\Below w.heap.size w wi)) (fun iv _=>n - (intOf iv).toNat)
    case atStart=>exact ⟨0,zJ _,rfl,(World.rowIs_made (w.drewN m) (O I 0) n 3).congr (fun i _=>by simp [cutV,cutI]),HB0.out.alloc zY _⟩
    case round =>
     obtain ⟨j,hj,rfl,HR⟩:=hrel
     by_cases hlt:j < n
     . obtain ⟨bb,off,hx,hc⟩:=(HI.out wr HR.out.2).open zU
       cases hx;have hcj:=hc j hlt;clear hc;have hdx:=HDX.out j hlt;have hxb:=HSBD.out j hlt;have vx:I.wrap (x j)=x j:=by rw [zK];omega
       have vx2:wrap64 (x j)=x j:=by unfold wrap64;omega
       have hc1:=HR.out.1.cell hlt;have hf1:=HR.out.1.frozen j;unfold cutV at hc1;go_wp2
       go_region
       all_goals go_wp2
       all_goals go_roundw
       all_goals first
        | exact ⟨j+1,zU,zS,z2F rfl (HR.out.1.set j _),(HR.out.2.drew).setCell zY _⟩
        | (simp [intOf];omega)
     . have e:j=n:=zU
       subst e;have HRS:Hid (RS wr w.heap.size j (k - sh) x):=⟨HR.out.1,HSBD.out,HLO.out⟩;have vW:I.wrap ((k:Int) - (sh:Int))=((k - sh:Nat):Int):=by rw [zK];omega
       have HRU:=zZ (fun (u:World) (hu:Below wr.heap.size wr u)=>HRS.out.below hu);have HWX:=zZ (fun (u:World) (hu:Below wr.heap.size wr u)=>HR.out.2.trans (hu.mono HR.out.2.size));have HBB:=zZ HSBD.out;clear hmk HDX HSBD HLO HBD HRS;generalize hW9:k - sh=W at *;have hW1:1<=W:=zU
       have hW13:W<=13:=zU
       clear hW9;go_wp2
       go_loopw [12,13] (fun sv kv wi=>∃ kd:Nat,kd<=8/\kv=O I kd/\sv=.string (z2I sh W x j kd)/\Hid (Below wr.heap.size wr wi)) (fun _ kv _=>8 - (intOf kv).toNat)
       case atStart=>exact ⟨0,zU,rfl,rfl,Below.refl _ _⟩
       case round =>
        obtain ⟨kd,hkd8,rfl,rfl,HBi⟩:=hrel
        by_cases hkd:kd<=7
        . have t8:decide ((kd:Int)<=7)=true:=zL zU
          have HLY:=zZ (y6a kd w.heap.size j W x wr hkd hn1 hn hW13 (HRU.out _ HBi.out) (HTB.out _ (HWX.out _ HBi.out)) (zP hTl (HWX.out _ HBi.out).size));have hszi:=HBi.out.size;cases hok:okK kd x j with
          | false =>
           rw [hok,if_neg (by simp)] at HLY;have HNO:=zZ (y6b sh W x j kd hok);generalize z2I sh W x j kd=BT at *;clear hok
           go_wp2_with (go_at_call 266;refine HLY.out.mono ?_;rintro e w2 ⟨rfl,hb2⟩;have HB2:=zZ (HBi.out.trans (hb2.mono hszi));clear hb2 HLY)
           exact ⟨⟨kd+1,zU,zS,by rw [HNO.out],HB2.out⟩,by simp [intOf];omega⟩
          | true =>
           rw [hok,if_pos rfl] at HLY;have HNEW:=zZ (y4e sh W x j hn1 kd hok);have HOLD:=zZ (y4f sh W x j hn1 kd hok);have hbl:=z3B kd W x j hkd hn hW13 HBB.out (fun h=>by
            obtain ⟨k',rfl⟩:∃ k',kd=k'+2:=⟨kd - 2,zU⟩;rw [← y1t];exact hok)
           have hbp:=y4g kd W x j hW1 hn1;have hs1:(bs (z1G kd W x j)).size=z1j kd W x j:=by rw [z0b,z1B]
           have hne1:¬ (bs (z1G kd W x j)).toList=[]:=z5d (by rw [z1B];exact hbp);have hie1:(bs (z1G kd W x j)).toList.isEmpty=false:=by
            cases h:(bs (z1G kd W x j)).toList with
            | nil=>exact absurd h hne1
            | cons a b=>rfl
           have hbs:=z7G sh W x j hn1 hn hW13 HBB.out kd zU;have HA1:=zZ (fun u=>z0U (kd:Int) 4 u zU zU (by have:=z2m 4;omega));have HA2:=zZ (fun u=>z0U (sh:Int) 4 u zU zU (by have:=z2m 4;omega));have hq1:(bs (binT (kd:Int) 4)).size<=4:=by rw [z0b,z0e];omega
           have hq2:(bs (binT (sh:Int) 4)).size<=4:=by rw [z0b,z0e];omega
           have HST9:Hid (bs (binT (kd:Int) 4) ++ bs (binT (sh:Int) 4) ++ bs (z1G kd W x j)=bs (binT (kd:Int) 4 ++ (binT (sh:Int) 4 ++ z1G kd W x j))):=by
            show _=_
            rw [z0f,z0f,zI]
           generalize bs (z1G kd W x j)=S1 at *;generalize bs (binT (kd:Int) 4)=Q1 at *;generalize bs (binT (sh:Int) 4)=Q2 at *;have hcases:=z7F sh W x j kd;generalize hBTe:z2I sh W x j kd=BT at *;clear hBTe hok;generalize z1j kd W x j=L1 at *;rcases hcases with hBT | hBT
           . have HNW:=zZ (HNEW.out (.inl hBT))
             subst hBT
             go_wp2_with (first
              | (go_at_call 266;refine HLY.out.mono ?_;rintro e w2 ⟨rfl,hb2⟩;have HB2:=zZ (HBi.out.trans (hb2.mono hszi));have hsz2:=HB2.out.size;clear hb2 HLY)
              | (go_at_call 267;refine (HA1.out _).mono ?_;rintro e w3 ⟨rfl,hb3⟩;have HB3:=zZ (HB2.out.trans (hb3.mono hsz2));have hsz3:=HB3.out.size;clear hb3 HA1)
              | (go_at_call 267;refine (HA2.out _).mono ?_;rintro e w4 ⟨rfl,hb4⟩;have HB4:=zZ (HB3.out.trans (hb4.mono hsz3));clear hb4 HA2))
             exact ⟨⟨kd+1,zU,zS,by rw [HNW.out,HST9.out],HB4.out⟩,by simp [intOf];omega⟩
           . have hneB:¬ BT.toList=[]:=by
               intro h;rw [ByteArray.toList_eq] at h;have:BT.data.toList.length=0:=by rw [h];rfl
               have h2:BT.size=BT.data.toList.length:=Array.length_toList.symm;omega
             have hieB:BT.toList.isEmpty=false:=by
              cases h:BT.toList with
              | nil=>exact absurd h hneB
              | cons a b=>rfl
             have hneE:¬ BT=⟨#[]⟩:=fun h=>by rw [h] at hBT;exact absurd hBT zR
             obtain ⟨L2,hL2⟩:∃ L2,BT.size=L2:=⟨_,rfl⟩;rw [hL2] at HNEW HOLD hbs hBT
             by_cases hcmp:L1+8 < L2
             . have HNW:=zZ (HNEW.out (.inr hcmp))
               have u1:decide ((L1:Int)+8 < (L2:Int))=true:=zL zU;have u2:decide (L1+8 < L2)=true:=zL hcmp;clear hcmp hneE
               go_wp2_with (first
                | (go_at_call 266;refine HLY.out.mono ?_;rintro e w2 ⟨rfl,hb2⟩;have HB2:=zZ (HBi.out.trans (hb2.mono hszi));have hsz2:=HB2.out.size;clear hb2 HLY)
                | (go_at_call 267;refine (HA1.out _).mono ?_;rintro e w3 ⟨rfl,hb3⟩;have HB3:=zZ (HB2.out.trans (hb3.mono hsz2));have hsz3:=HB3.out.size;clear hb3 HA1)
                | (go_at_call 267;refine (HA2.out _).mono ?_;rintro e w4 ⟨rfl,hb4⟩;have HB4:=zZ (HB3.out.trans (hb4.mono hsz3));clear hb4 HA2))
               exact ⟨⟨kd+1,zU,zS,by rw [HNW.out,HST9.out],HB4.out⟩,by simp [intOf];omega⟩
             . have HOW:=zZ (HOLD.out hneE hcmp)
               have u1:decide ((L1:Int)+8 < (L2:Int))=false:=zM zU;have u2:decide (L1+8 < L2)=false:=zM hcmp;clear hneE
               go_wp2_with (go_at_call 266;refine HLY.out.mono ?_;rintro e w2 ⟨rfl,hb2⟩;have HB2:=zZ (HBi.out.trans (hb2.mono hszi));clear hb2 HLY)
               exact ⟨⟨kd+1,zU,zS,by rw [HOW.out],HB2.out⟩,by simp [intOf];omega⟩
        . have e:kd=8:=zU
          subst e;go_wp2;go_ret;exact ⟨by rw [HTX.out];rfl,HWX.out _ HBi.out⟩
end Go.Proofs.YtlncjgnomhpjnabGreatDoor
