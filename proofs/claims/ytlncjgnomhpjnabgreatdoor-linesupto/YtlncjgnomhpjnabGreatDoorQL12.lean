import Derived.Test.YtlncjgnomhpjnabGreatDoorQL11
import Derived.ArgAppend
namespace Go.Proofs.YtlncjgnomhpjnabGreatDoor
open Go.Value renaming int → O
open Go.IntKind renaming i64 → I
open Go.Proofs.Tryz
open Go.RowKit Go.Deep
set_option linter.unusedVariables false
theorem z0g {u u':World} {b o:Nat} {v:Value} (h:Below u.heap.size u u') (hb:b < u.heap.size) (hc:u.cell? ⟨b,o,none⟩=some v):u'.cell? ⟨b,o,none⟩=some v :=
 (h.cell (p:=⟨b,o,none⟩) hb).trans hc
theorem y2q {u u':World} {b:Nat} {v0 v1 v2 v3:Value} (hb:Below u.heap.size u u') (h:b < u.heap.size/\u.cell? ⟨b,0,none⟩=some v0/\u.cell? ⟨b,1,none⟩=some v1/\u.cell? ⟨b,2,none⟩=some v2/\u.cell? ⟨b,3,none⟩=some v3) :
 b < u'.heap.size/\u'.cell? ⟨b,0,none⟩=some v0/\u'.cell? ⟨b,1,none⟩=some v1/\u'.cell? ⟨b,2,none⟩=some v2/\u'.cell? ⟨b,3,none⟩=some v3 :=
 ⟨zP h.1 hb.size,z0g hb h.1 h.2.1,z0g hb h.1 h.2.2.1,z0g hb h.1 h.2.2.2.1,z0g hb h.1 h.2.2.2.2⟩
set_option maxHeartbeats 1000000 in
theorem y0b (number len n mode:Nat) (w:World) (h1:number < 65536) (h2:len < 65536) (h3:1<=n) (h4:n<=256) (h5:mode < 256) :
 Calls prog 126 #[.agg #[O I number,O I len,O I n,O I mode]] w fun e w'=>e=.returned (.string (bs (z1f (z2p number len n mode))))/\Below w.heap.size w w':=by
 have HI1:Hid (∀ u,Calls prog 195 #[O I 165,O I 1] u fun e w'=>e=.returned (.string (bs (inT 165 1)))/\Below u.heap.size u w'):=fun u=>z1T 165 1 u zU zU
 have HI2:Hid (∀ u,Calls prog 195 #[O I number,O I 2] u fun e w'=>e=.returned (.string (bs (inT number 2)))/\Below u.heap.size u w'):=fun u=>z1T number 2 u zU zU
 have HI3:Hid (∀ u,Calls prog 195 #[O I len,O I 2] u fun e w'=>e=.returned (.string (bs (inT len 2)))/\Below u.heap.size u w'):=fun u=>z1T len 2 u zU zU
 have HI4:Hid (∀ u,Calls prog 195 #[O I ((n - 1:Nat):Int),O I 1] u fun e w'=>e=.returned (.string (bs (inT (n - 1) 1)))/\Below u.heap.size u w'):=fun u=>z1T (n - 1) 1 u zU zU
 have HI5:Hid (∀ u,Calls prog 195 #[O I mode,O I 1] u fun e w'=>e=.returned (.string (bs (inT mode 1)))/\Below u.heap.size u w'):=fun u=>z1T mode 1 u zU zU
 have HS:=zZ (fun u=>z8T (z2p number len n mode) u (by rw [z1E];omega));have HTX:Hid (bs (inT 165 1) ++ bs (inT number 2) ++ bs (inT len 2) ++ bs (inT (n - 1) 1) ++ bs (inT mode 1)=bs (z2p number len n mode)):=by
  show _=_;rw [z0f,z0f,z0f,z0f];rfl
 have wn:I.wrap ((n:Int) - 1)=((n - 1:Nat):Int):=by rw [zK];omega
 have z1:(bs (inT 165 1)).size=1:=by rw [z0b,z0d]
 have z2:(bs (inT number 2)).size=2:=by rw [z0b,z0d]
 have z3:(bs (inT len 2)).size=2:=by rw [z0b,z0d]
 have z4:(bs (inT (n - 1) 1)).size=1:=by rw [z0b,z0d]
 have z5:(bs (inT mode 1)).size=1:=by rw [z0b,z0d]
 rw [← HTX.out] at HS;generalize z1f (z2p number len n mode)=R at *;generalize bs (inT 165 1)=X1 at *;generalize bs (inT number 2)=X2 at *;generalize bs (inT len 2)=X3 at *;generalize bs (inT (n - 1) 1)=X4 at *;generalize bs (inT mode 1)=X5 at *;generalize n - 1=n1 at *;clear HTX;have hb0:Below w.heap.size w (w.alloc (.cells #[O I number,O I len,O I n,O I mode] 203)):=zX.alloc zY _;have HB0:=zZ hb0;clear hb0;have hS0:w.heap.size < (w.alloc (.cells #[O I number,O I len,O I n,O I mode] 203)).drew.heap.size/\(w.alloc (.cells #[O I number,O I len,O I n,O I mode] 203)).drew.cell? ⟨w.heap.size,0,none⟩=some (O I number)/\(w.alloc (.cells #[O I number,O I len,O I n,O I mode] 203)).drew.cell? ⟨w.heap.size,1,none⟩=some (O I len)/\(w.alloc (.cells #[O I number,O I len,O I n,O I mode] 203)).drew.cell? ⟨w.heap.size,2,none⟩=some (O I n)/\(w.alloc (.cells #[O I number,O I len,O I n,O I mode] 203)).drew.cell? ⟨w.heap.size,3,none⟩=some (O I mode):=by simp
 go_enter func126,ntmps126
 go_wp2
 go_region_held3 (fun w'=>w.heap.size < w'.heap.size/\w'.cell? ⟨w.heap.size,0,none⟩=some (O I number)/\w'.cell? ⟨w.heap.size,1,none⟩=some (O I len)/\w'.cell? ⟨w.heap.size,2,none⟩=some (O I n)/\w'.cell? ⟨w.heap.size,3,none⟩=some (O I mode))
  (assumption)
  (first
  | (go_at_call 195;refine (HI1.out _).mono ?_;rintro e u1 ⟨rfl,hb1⟩;have hS1:=y2q hb1 hS0;have HB1:=zZ (HB0.out.drew.trans (hb1.mono (by simp)));clear HI1 HB0)
  | (go_at_call 195;refine (HI2.out _).mono ?_;rintro e u2 ⟨rfl,hb2⟩;have hS2:=y2q hb2 hS1;have HB2:=zZ (HB1.out.trans (hb2.mono HB1.out.size));clear HI2 HB1)
  | (go_at_call 195;refine (HI3.out _).mono ?_;rintro e u3 ⟨rfl,hb3⟩;have hS3:=y2q hb3 hS2;have HB3:=zZ (HB2.out.trans (hb3.mono HB2.out.size));clear HI3 HB2)
  | (go_at_call 195;refine (HI4.out _).mono ?_;rintro e u4 ⟨rfl,hb4⟩;have hS4:=y2q hb4 hS3;have HB4:=zZ (HB3.out.trans (hb4.mono HB3.out.size));clear HI4 HB3)
  | (go_at_call 195;refine (HI5.out _).mono ?_;rintro e u5 ⟨rfl,hb5⟩;have hS5:=y2q hb5 hS4;have HB5:=zZ (HB4.out.trans (hb5.mono HB4.out.size));clear HI5 HB4)
  | (go_at_call 197;refine (HS.out _).mono ?_;rintro e u6 ⟨rfl,hb6⟩;have hS6:=y2q hb6 hS5;have HB6:=zZ (HB5.out.trans (hb6.mono HB5.out.size));clear HS HB5))
 go_wp2;go_ret;exact ⟨rfl,HB6.out⟩
theorem y9H (a b:Nat) (ha:a < 256) (hb:b < 256):bits .or .u8 (a:Int) (b:Int)=((a ||| b:Nat):Int):=by
 have hx:a ||| b < 2 ^ 8:=Nat.or_lt_two_pow zU zU;have h1:(BitVec.ofInt 8 (a:Int)).toNat=a:=by
  rw [BitVec.ofInt_natCast,BitVec.toNat_ofNat];exact Nat.mod_eq_of_lt zU
 have h2:(BitVec.ofInt 8 (b:Int)).toNat=b:=by
  rw [BitVec.ofInt_natCast,BitVec.toNat_ofNat];exact Nat.mod_eq_of_lt zU
 show IntKind.u8.wrap ((BitVec.ofInt 8 (a:Int) ||| BitVec.ofInt 8 (b:Int)).toNat:Int)=_
 rw [BitVec.toNat_or,h1,h2,IntKind.wrap_u8];omega
set_option maxHeartbeats 1000000 in
theorem y4o (T:List UInt8) (w:World) (hT:AllB T) (hs:T.length<=100000) :
 Calls prog 124 #[.string (bs T)] w fun e w'=>e=.returned (.string (bs (z0L T)))/\Below w.heap.size w w':=by
 obtain ⟨S,hS⟩:∃ S,S=bs T:=⟨_,rfl⟩;have hz:S.size=T.length:=by rw [hS,z0b]
 have hmk:=run_make_row' (P:=prog) 33 5 (.int .u8 0) 1 underlying33 z1s rfl .i64 .i64 ((T.length+7) / 8) zU zU;have hq:((S.size:Int)+8 - 1).tdiv 8=(((T.length+7) / 8:Nat):Int):=by rw [zF zU,hz];omega
 have w1:I.wrap ((S.size:Int)+8)=(S.size:Int)+8:=by rw [zK];omega
 have w2:I.wrap ((S.size:Int)+8 - 1)=(S.size:Int)+8 - 1:=by rw [zK];omega
 have HG:Hid (∀ j (h:j < S.size),S[j]=ltr (tbit T j)):=by
  show ∀ j (h:j < S.size),S[j]=ltr (tbit T j)
  subst hS;intro j h;rw [y1i];exact y1m hT j (by rw [z0b] at h;exact h)
 have HZ:=zZ hz;have HST:Hid (z3p (pkB T) ((T.length+7) / 8)=bs (z0L T)):=z6Q T;rw [← hS];clear hS hz hT;generalize hR:bs (z0L T)=R at *;clear hR;obtain ⟨M,hM⟩:∃ M,M=(T.length+7) / 8:=⟨_,rfl⟩;have hMb:M<=12501:=zU
 rw [← hM] at hmk hq HST;have HM:=zZ hM;clear hM
 go_enter func124,ntmps124
 go_wp2;clear hmk hq w1 w2;have HCV:=zZ (fun (u:World) h=>z0F (P:=prog) u 33 9 5 w.heap.size 0 M M (pkB T) underlying33 underlying5 underlying9 h)
 go_loopw [4,13] (fun _ i wr=>∃ k:Nat,k<=S.size/\i=O I k/\Hid (wr.rowIs w.heap.size 5 M (fun j=>.int .u8 (pkN T k j:Nat))/\Below w.heap.size w wr)) (fun _ i _=>S.size - (intOf i).toNat)
 case atStart=>exact ⟨0,zJ _,rfl,(World.rowIs_made w (.int .u8 0) M 5).congr fun i _=>by rw [y5X];rfl,zX.alloc zY _⟩
 case round =>
  obtain ⟨m,hm,rfl,HR⟩:=hrel
  by_cases hlt:m < S.size
  . have hdm:m / 8 < M:=by have:=HM.out;have:=HZ.out;omega
    have hc1:=HR.out.1.cell hdm;have hf1:=HR.out.1.frozen (m / 8);have hb:=HG.out m hlt;have hbn:(S[m].toNat:Int)=48+((tbit T m).toNat:Int):=by rw [hb,z7r];omega
    have hb2:(tbit T m).toNat<=1:=Bool.toNat_le _;have hp:=y1n T m (m / 8);have hp2:(tbit T m).toNat * 2 ^ (7 - m % 8) < 256:=by
     have:2 ^ (7 - m % 8)<=2 ^ 7:=zE zU zU;have:=Nat.mul_le_mul hb2 this;omega
    have hor:=y9H _ _ hp hp2;rw [y5Y] at hor;have hset:(wr.setCell ⟨w.heap.size,m / 8,none⟩ (.int .u8 (pkN T (m+1) (m / 8):Nat))).rowIs w.heap.size 5 M (fun j=>.int .u8 (pkN T (m+1) j:Nat)) :=
     (HR.out.1.set (m / 8) _).congr fun j _=>by
      by_cases e:j=m / 8
      . rw [if_pos e,e]
      . rw [if_neg e,y3Y T m j e]
    have HSET:=zZ hset;have HB:=zZ hb;generalize pkN T (m+1) (m / 8)=P2 at *;generalize pkN T m (m / 8)=P1 at *;have td:(m:Int).tdiv 8=((m / 8:Nat):Int):=by rw [zF zU];omega
    have tm:(m:Int).tmod 8=((m % 8:Nat):Int):=by rw [zG zU];omega
    have hm8:m % 8 < 8:=Nat.mod_lt _ zU;have hval:bits .or .u8 (P1:Int) ((48+((tbit T m).toNat:Int) - 48) * 2 ^ (7 - m % 8) % 256)=(P2:Int):=by
     rw [← hor];congr 1;have e2:(((tbit T m).toNat * 2 ^ (7 - m % 8):Nat):Int)=((tbit T m).toNat:Int) * 2 ^ (7 - m % 8):=by simp
     rw [show (48+((tbit T m).toNat:Int) - 48)=((tbit T m).toNat:Int) by omega,← e2];omega
    clear hset hb;go_wp2
    go_region
    all_goals go_wp2
    go_roundw
    case rel=>exact ⟨m+1,zU,zS,HSET.out,by exact (HR.out.2.setCell zY _).drew⟩
    case measure=>simp [intOf];omega
  . have e:m=S.size:=zU
    have hcv:=HCV.out wr (fun i hi=>by
     have:=HR.out.1.cell (i:=i) hi;rw [e,HZ.out] at this;rw [Nat.zero_add,this,y3X])
    rw [HST.out] at hcv;subst e;clear HCV;go_wp2;go_ret;exact ⟨rfl,HR.out.2⟩
set_option maxHeartbeats 1000000 in
theorem y2r (T:List UInt8) (w:World) (hT:AllB T) (hs:T.length<=100000) :
 Calls prog 260 #[.string (bs T)] w fun e w'=>e=.returned (.string (bs (z0L T)))/\Below w.heap.size w w':=by
 obtain ⟨S,hS⟩:∃ S,S=bs T:=⟨_,rfl⟩;have hz:S.size=T.length:=by rw [hS,z0b]
 have hmk:=run_make_row' (P:=prog) 33 5 (.int .u8 0) 1 underlying33 z1s rfl .i64 .i64 ((T.length+7) / 8) zU zU;have hq:((S.size:Int)+7).tdiv 8=(((T.length+7) / 8:Nat):Int):=by rw [zF zU,hz];omega
 have w1:I.wrap ((S.size:Int)+7)=(S.size:Int)+7:=by rw [zK];omega
 have HG:Hid (∀ j (h:j < S.size),S[j]=ltr (tbit T j)):=by
  show ∀ j (h:j < S.size),S[j]=ltr (tbit T j)
  subst hS;intro j h;rw [y1i];exact y1m hT j (by rw [z0b] at h;exact h)
 have HZ:=zZ hz;have HST:Hid (z3p (pkB T) ((T.length+7) / 8)=bs (z0L T)):=z6Q T;rw [← hS];clear hS hz hT;generalize hR:bs (z0L T)=R at *;clear hR;obtain ⟨M,hM⟩:∃ M,M=(T.length+7) / 8:=⟨_,rfl⟩;have hMb:M<=12501:=zU
 rw [← hM] at hmk hq HST;have HM:=zZ hM;clear hM;have HCV:=zZ (fun (u:World) h=>z0F (P:=prog) u 33 9 5 w.heap.size 0 M M (pkB T) underlying33 underlying5 underlying9 h)
 go_enter func260,ntmps260
 go_wp2;clear hmk hq w1
 go_loopw [4] (fun i wr=>∃ k:Nat,k<=M/\i=O I k/\Hid (wr.rowIs w.heap.size 5 M (fun j=>.int .u8 (if j < k then ((pkN T T.length j:Nat):Int) else 0))/\Below w.heap.size w wr)) (fun i _=>M - (intOf i).toNat)
 case atStart=>exact ⟨0,zJ _,rfl,(World.rowIs_made w (.int .u8 0) M 5).congr fun i _=>by rw [if_neg zU],zX.alloc zY _⟩
 case round =>
  obtain ⟨k,hk,rfl,HR⟩:=hrel
  by_cases hlt:k < M
  . have hc1:=HR.out.1.cell hlt
    have hf1:=HR.out.1.frozen k;have h8:8 * k < S.size:=by have:=HM.out;have:=HZ.out;omega
    have hset:(wr.setCell ⟨w.heap.size,k,none⟩ (.int .u8 ((pkN T T.length k:Nat):Int))).rowIs w.heap.size 5 M (fun j=>.int .u8 (if j < k+1 then ((pkN T T.length j:Nat):Int) else 0)) :=
     (HR.out.1.set k _).congr fun j _=>by
      by_cases e:j=k
      . rw [if_pos e,e,if_pos zU]
      . rw [if_neg e]
        by_cases e2:j < k
        . rw [if_pos e2,if_pos zU]
        . rw [if_neg e2,if_neg zU]
    have HSET:=zZ hset;have hpl:=y1n T T.length k
    by_cases hg:8 < S.size - 8 * k
    . have hd:=y3Z T k 8 zU (.inl rfl) (by have:=HZ.out;omega)
      have hx:((S.extract (8 * k) S.size).extract 0 8).size=8:=by simp [ByteArray.size_extract];omega
      have HN:=zZ (fun u=>z4C ((S.extract (8 * k) S.size).extract 0 8) u zU (fun j=>tbit T (8 * k+j)) (fun j h=>by
       rw [ByteArray.getElem_extract,ByteArray.getElem_extract];have:=HG.out (8 * k+j) zU
       simpa using this))
      rw [hx] at HN;have hd2:(z0C (fun j=>tbit T (8 * k+j)) 8:Int)=(pkN T T.length k:Nat):=by rw [← hd];simp
      rw [hd2] at HN;generalize pkN T T.length k=P at *;have v4:IntKind.u8.wrap (P:Int)=(P:Int):=by rw [IntKind.wrap_u8];omega
      clear hset hd hd2;have w8:I.wrap (8 * (k:Int))=8 * (k:Int):=by rw [zK];omega
      have t8:(8 * (k:Int)).toNat=8 * k:=zU
      have le8:8 * (k:Int)<=(S.size:Int):=zU
      have ge8:0<=8 * (k:Int):=zU
      have hsz0:(S.extract (8 * k) S.size).size=S.size - 8 * k:=by simp [ByteArray.size_extract]
      have td:decide ((8:Int) < ((S.size - 8 * k:Nat):Int))=true:=zL zU;generalize hck:(if k < k then (P:Int) else 0)=oldv at hc1;clear hck;clear HG HST HCV
      go_wp2_with (go_at_call 261;refine (HN.out _).mono ?_;rintro e w1 ⟨rfl,hw⟩;subst w1;clear HN)
      go_roundw
      case rel=>exact ⟨k+1,zU,zS,HSET.out,HR.out.2.setCell zY _⟩
      case measure=>simp [intOf];omega
    . have hd:=y3Z T k (S.size - 8 * k) zU (.inr (by have:=HZ.out;omega)) (by have:=HZ.out;omega)
      have HN:=zZ (fun u=>z4C (S.extract (8 * k) S.size) u (by simp [ByteArray.size_extract];omega) (fun j=>tbit T (8 * k+j)) (fun j h=>by
       rw [ByteArray.getElem_extract];rw [ByteArray.size_extract] at h;exact HG.out (8 * k+j) zU))
      have hbl:=z2k (fun j=>tbit T (8 * k+j)) (S.size - 8 * k);have hp8:2 ^ (S.size - 8 * k)<=2 ^ 8:=zE zU zU;have hd3:(z0C (fun j=>tbit T (8 * k+j)) (S.size - 8 * k):Int) * 2 ^ (8 - (S.size - 8 * k))=(pkN T T.length k:Nat):=by rw [← hd];simp
      clear hset hd;generalize pkN T T.length k=P at *;have w8:I.wrap (8 * (k:Int))=8 * (k:Int):=by rw [zK];omega
      have t8:(8 * (k:Int)).toNat=8 * k:=zU
      have le8:8 * (k:Int)<=(S.size:Int):=zU
      have ge8:0<=8 * (k:Int):=zU
      have hsz0:(S.extract (8 * k) S.size).size=S.size - 8 * k:=by simp [ByteArray.size_extract]
      have td:decide ((8:Int) < ((S.size - 8 * k:Nat):Int))=false:=zM zU;generalize hck:(if k < k then (P:Int) else 0)=oldv at hc1;clear hck;rw [hsz0] at HN;generalize z0C (fun j=>tbit T (8 * k+j)) (S.size - 8 * k)=Q at *;have v4:IntKind.u8.wrap (P:Int)=(P:Int):=by rw [IntKind.wrap_u8];omega
      obtain ⟨c,hc⟩:∃ c,c=S.size - 8 * k:=⟨_,rfl⟩;rw [← hc] at hsz0 td hd3 hp8 hbl;have hc8:c<=8:=zU
      have HC:=zZ hc;have HH:=zZ (And.intro hp8 hbl);clear HG HST HCV hc hg hp8 hbl;have s8:I.wrap ((8:Int) - (c:Int))=((8 - c:Nat):Int):=by rw [zK];omega
      have g8:(0:Int)<=((8 - c:Nat):Int):=zU
      have m8:min (8 - c) 64=8 - c:=zU
      have p1:I.wrap ((2:Int) ^ (8 - c))=2 ^ (8 - c):=by
       have h1:(2:Nat) ^ (8 - c)<=2 ^ 8:=zE zU zU;have h2:((2 ^ (8 - c):Nat):Int)=2 ^ (8 - c):=by simp
       have h3:=Nat.two_pow_pos (8 - c);rw [zK];omega
      have p2:I.wrap ((Q:Int) * 2 ^ (8 - c))=(P:Int):=by rw [hd3,zK];omega
      generalize 8 - c=e8 at *
      go_wp2_with (go_at_call 261;refine (HN.out _).mono ?_;rintro e w1 ⟨rfl,hw⟩;subst w1;clear HN)
      go_roundw
      case rel=>exact ⟨k+1,zU,zS,HSET.out,HR.out.2.setCell zY _⟩
      case measure=>simp [intOf];omega
  . have e:k=M:=zU
    have hcv:=HCV.out wr (fun i hi=>by
     have:=HR.out.1.cell (i:=i) hi;rw [if_pos zU] at this;rw [Nat.zero_add,this,y3X])
    rw [HST.out] at hcv;subst e;clear HCV;go_wp2;go_ret;exact ⟨rfl,HR.out.2⟩
theorem y1x (d n:Nat) (F:Nat->Nat->Int) (N:Nat) (hn1:1<=N) (hn:N<=32) (hd:d<=12) (h1:1<=n) (h4:n<=4):(z0L (z0y d n F N)).length<=212:=by
 rw [z5a];have:=z5P d n F N hn1 hn hd h1 h4;omega
set_option maxHeartbeats 2000000 in
theorem y6i (c2 c3 c4 c5 c6 c7:Int) (d number:Nat) (a:Option Addr) (n cap:Nat) (A:Nat->Option Addr) (N:Nat) (C:Nat->Nat) (F:Nat->Nat->Int) (w:World) (hd1:1<=d) (hd:d<=12) (hn1:1<=n) (hn4:n<=4) (hN1:1<=N) (hN:N<=32) (hnum:number < 65536)
 (hf:∀ i,i < n->∀ j,j < N->z0A d (F i j)=true) (hA:ListsAt w a n A (fun _=>N) C) (hI:∀ i,i < n->IntsAt w (A i) N (F i)) (hlow:Low w.heap.size a n A (fun _=>N)) (hT:TabsF w) :
 Calls prog 63 #[.agg #[O I n,O I d,O I c2,O I c3,O I c4,O I c5,O I c6,O I c7],O I number,.slice a n cap] w fun e w' =>
  e=.returned (.string (bs (z5c number N (z1R d n F N) (z0y d n F N))))/\Below w.heap.size w w':=by
 have hb0:Below w.heap.size w (w.alloc (.cells #[O I n,O I d,O I c2,O I c3,O I c4,O I c5,O I c6,O I c7] 23)):=zX.alloc zY _;have HSM:=zZ (z5h d a n cap A N C F _ hd1 hd hn1 hn4 hN1 hN hf (hA.below hb0 hlow.1) (fun i hi=>(hI i hi).below hb0 (hlow.2 i hi)) ⟨fun x hx h0=>zP (hlow.1 x hx h0) hb0.size,fun i hi x hx h0=>zP (hlow.2 i hi x hx h0) hb0.size⟩ (hT.below hb0));have HBY:=zZ (fun u=>y4o (z0y d n F N) u (z5O d n F N) (by have:=z5P d n F N hN1 hN hd hn1 hn4;omega));have hpk:=y1x d n F N hN1 hN hd hn1 hn4;have hmd:=y1p d n F N;have HHL:=zZ (fun u=>y0b number ((z0L (z0y d n F N)).length+10) N (z1R d n F N) u hnum zU hN1 zU zU);have HSE:=zZ (fun u=>z6T (z1f (z2p number ((z0L (z0y d n F N)).length+10) N (z1R d n F N)) ++ z0L (z0y d n F N)) u (by rw [zN,z0Z,z1E];omega));have HAP:Hid (bs (z1f (z2p number ((z0L (z0y d n F N)).length+10) N (z1R d n F N)) ++ z0L (z0y d n F N))=bs (z1f (z2p number ((z0L (z0y d n F N)).length+10) N (z1R d n F N))) ++ bs (z0L (z0y d n F N))):=(z0f _ _).symm;have HFR:Hid (z5b (z1f (z2p number ((z0L (z0y d n F N)).length+10) N (z1R d n F N)) ++ z0L (z0y d n F N))=z5c number N (z1R d n F N) (z0y d n F N)):=rfl;rw [HFR.out,HAP.out] at HSE;have hz1:(bs (z0L (z0y d n F N))).size=(z0L (z0y d n F N)).length:=z0b _;have hz2:(bs (z1f (z2p number ((z0L (z0y d n F N)).length+10) N (z1R d n F N)))).size=8:=by rw [z0b,z0Z,z1E]
 obtain ⟨b,off,rfl,hcell⟩:=hA.open zU;have hc0:=hcell 0 zU;have hbl:b < w.heap.size:=hlow.1 _ rfl (by omega:0 < n);simp only [Nat.add_zero] at hc0;have HB0:=zZ hb0;clear HFR HAP hf hA hI hlow hT hcell hb0;generalize z5c number N (z1R d n F N) (z0y d n F N)=R at *;generalize bs (z1f (z2p number ((z0L (z0y d n F N)).length+10) N (z1R d n F N)))=H at *;generalize bs (z0L (z0y d n F N))=P at *;generalize (z0L (z0y d n F N)).length=pl at *;generalize z1R d n F N=mode at *;generalize bs (z0y d n F N)=T at *;have e10:((pl+10:Nat):Int)=8+(pl:Int)+2:=zU
 rw [e10] at HHL;clear e10
 go_enter func63,ntmps63
 go_wp2_with (first
  | (go_at_call 123;refine HSM.out.mono ?_;rintro e u1 ⟨rfl,hb⟩;obtain ⟨hc1,hf1⟩:=z2J hb;have hs1:w.heap.size < u1.heap.size:=by {have:=hb.size;simp at this;omega};have HB1:=zZ (HB0.out.trans (hb.mono (by simp)));clear hb hf1 HSM HB0)
  | (go_at_call 124;refine (HBY.out _).mono ?_;rintro e u2 ⟨rfl,hb⟩;obtain ⟨hc2,hf2⟩:=z2J hb;have hs2:w.heap.size < u2.heap.size:=zP hs1 hb.size;have HB2:=zZ (HB1.out.trans (hb.mono (Nat.le_of_lt hs1)));have hq2:u2.cell? ⟨b,off,none⟩=some (.slice (A 0) N (C 0)):=(HB2.out.cell (p:=⟨b,off,none⟩) hbl).trans hc0;clear hb hf2 HBY HB1)
  | (go_at_call 126;refine (HHL.out _).mono ?_;rintro e u3 ⟨rfl,hb⟩;have HB3:=zZ ((HB2.out.alloc HB2.out.size _).trans (hb.mono (by have:=hs2;simp;omega)));have hs3:w.heap.size < u3.heap.size:=by {have:=hb.size;simp at this;omega};clear hb HHL HB2)
  | (go_at_call 125;refine (HSE.out _).mono ?_;rintro e u4 ⟨rfl,hb⟩;have HB4:=zZ (HB3.out.trans (hb.mono (Nat.le_of_lt hs3)));clear hb HSE HB3))
 go_ret;exact ⟨rfl,HB4.out⟩
def sA (l:List UInt8):Nat:=l.foldl (fun a c=>a+c.toNat) 1
def sP (l:List UInt8):Nat × Nat:=l.foldl (fun p c=>(p.1+c.toNat,p.2+(p.1+c.toNat))) (1,0)
def sB (l:List UInt8):Nat:=(sP l).2
def sQ (n:Nat) (l:List UInt8):Nat × Nat:=l.foldl (fun p c=>(p.1+1,p.2+(n - p.1) * c.toNat)) (0,n)
def sR (n:Nat) (l:List UInt8):Nat:=(sQ n l).2
theorem z4a (l:List UInt8) (c:UInt8):sA (l ++ [c])=sA l+c.toNat:=by simp [sA,List.foldl_append]
theorem y4p (l:List UInt8) (c:UInt8):sP (l ++ [c])=((sP l).1+c.toNat,(sP l).2+((sP l).1+c.toNat)):=by simp [sP,List.foldl_append]
theorem y4q (n:Nat) (l:List UInt8) (c:UInt8):sQ n (l ++ [c])=((sQ n l).1+1,(sQ n l).2+(n - (sQ n l).1) * c.toNat):=by simp [sQ,List.foldl_append]
theorem z5p {P:List UInt8->Prop} (h0:P []) (h1:∀ l c,P l->P (l ++ [c])) (l:List UInt8):P l:=by
 have h:∀ m:List UInt8,P m.reverse:=by
  intro m
  induction m with
  | nil=>exact h0
  | cons c m ih=>rw [List.reverse_cons];exact h1 _ _ ih
 have:=h l.reverse
 rwa [List.reverse_reverse] at this
theorem y8M (l:List UInt8):(sP l).1=sA l:=by
 refine z5p (P:=fun l=>(sP l).1=sA l) rfl ?_ l;intro l c ih;rw [y4p,z4a,ih]
theorem y8N (n:Nat) (l:List UInt8):(sQ n l).1=l.length:=by
 refine z5p (P:=fun l=>(sQ n l).1=l.length) rfl ?_ l;intro l c ih;rw [y4q,ih];simp
theorem y4r (l:List UInt8) (c:UInt8):sB (l ++ [c])=sB l+sA (l ++ [c]):=by
 unfold sB;rw [y4p,z4a,y8M]
theorem z7M (n:Nat) (l:List UInt8) (c:UInt8):sR n (l ++ [c])=sR n l+(n - l.length) * c.toNat:=by
 unfold sR;rw [y4q,y8N]
theorem y7O (n:Nat) (l:List UInt8) (h:l.length<=n):sR (n+1) l=sR n l+sA l:=by
 refine z5p (P:=fun l=>l.length<=n->sR (n+1) l=sR n l+sA l) (fun _=>rfl) ?_ l h;intro l c ih h;simp only [zN,List.length_cons,List.length_nil] at h;rw [z7M,z7M,z4a,ih zU];have:n+1 - l.length=(n - l.length)+1:=zU
 rw [this,Nat.succ_mul];omega
theorem y7P (l:List UInt8):sR l.length l=sB l:=by
 refine z5p (P:=fun l=>sR l.length l=sB l) rfl ?_ l;intro l c ih;rw [z7M,y4r,z4a];simp only [zN,List.length_cons,List.length_nil,Nat.zero_add];rw [y7O _ _ zY,ih];have:l.length+1 - l.length=1:=zU
 rw [this];omega
def blkF (F:Nat->Nat->Int) (B k i j:Nat):Int:=F i (k * B+j)
def blkN (S B k:Nat):Nat:=min B (S - k * B)
def nBlk (S B:Nat):Nat:=(S+B - 1) / B
theorem z1K {S B:Nat} (hB:1<=B):nBlk S B<=S:=by
 unfold nBlk;have h:(S+B - 1) / B < S+1:=by
  rw [Nat.div_lt_iff_lt_mul zU,Nat.add_mul,Nat.one_mul];have:S<=S * B:=Nat.le_mul_of_pos_right S hB;omega
 omega
theorem z7N {S B k:Nat} (hB:1<=B):k < nBlk S B↔k * B < S:=by
 unfold nBlk;constructor
 . intro h
   have h2:(k+1) * B<=S+B - 1:=zO (zD B h) (Nat.div_mul_le_self _ _);rw [Nat.add_mul,Nat.one_mul] at h2;omega
 . intro h
   rw [← Nat.succ_le_iff,Nat.le_div_iff_mul_le zU,Nat.succ_mul];omega
theorem z3u {S B k:Nat} (hB:1<=B) (h:k < nBlk S B):1<=blkN S B k/\blkN S B k<=B/\k * B+blkN S B k<=S:=by
 have:=(z7N hB).1 h;unfold blkN;omega
def frT (d n:Nat) (F:Nat->Nat->Int) (S B k:Nat):List UInt8:=z5c k (blkN S B k) (z1R d n (blkF F B k) (blkN S B k)) (z0y d n (blkF F B k) (blkN S B k))
def frsT (d n:Nat) (F:Nat->Nat->Int) (S B:Nat):Nat->List UInt8
 | 0=>[]
 | k+1=>frsT d n F S B k ++ frT d n F S B k
def lnF (d n:Nat) (F:Nat->Nat->Int) (S B k:Nat):Nat:=(frT d n F S B k).length
theorem z6b (d n:Nat) (F:Nat->Nat->Int) (S B k:Nat) (hd:d<=12) (h1:1<=n) (h4:n<=4) (hB:1<=B) (hB2:B<=32) (hk:k < nBlk S B):10<=lnF d n F S B k/\lnF d n F S B k<=222:=by
 have hb:=z3u hB hk;unfold lnF frT;rw [z7D];have:=y1x d n (blkF F B k) (blkN S B k) hb.1 zU hd h1 h4;omega
theorem z6c (d n:Nat) (F:Nat->Nat->Int) (S B:Nat) (hd:d<=12) (h1:1<=n) (h4:n<=4) (hB:1<=B) (hB2:B<=32):∀ k,k<=nBlk S B->(frsT d n F S B k).length<=222 * k
 | 0,_=>by simp [frsT]
 | k+1,h=>by
  have ih:=z6c d n F S B hd h1 h4 hB hB2 k zU;have:=(z6b d n F S B k hd h1 h4 hB hB2 h).2;unfold lnF at this;rw [frsT,zN];omega
def z0P (ln:Nat->Nat):Nat->Nat
 | 0=>0
 | k+1=>if k=0∨ln k < z0P ln k then ln k else z0P ln k
def z1A (ln:Nat->Nat):Nat->Nat
 | 0=>0
 | k+1=>max (z1A ln k) (ln k)
def atN (ln:Nat->Nat):Nat->Nat
 | 0=>0
 | k+1=>atN ln k+ln k
def pntN (ln:Nat->Nat) (seek:Nat):Nat->List Nat
 | 0=>[]
 | k+1=>if 0 < seek/\k % seek=0 then pntN ln seek k ++ [atN ln k] else pntN ln seek k
theorem z3v {ln:Nat->Nat} {m:Nat}:∀ k,(∀ i,i < k->ln i<=m)->z0P ln k<=m
 | 0,_=>by simp [z0P]
 | k+1,h=>by
  have ih:=z3v k (fun i hi=>h i zU);have:=h k zU;unfold z0P;split <;> omega
theorem z4p {ln:Nat->Nat} {m:Nat}:∀ k,(∀ i,i < k->ln i<=m)->z1A ln k<=m
 | 0,_=>by simp [z1A]
 | k+1,h=>by
  have ih:=z4p k (fun i hi=>h i zU);have:=h k zU;unfold z1A;omega
theorem y1y {ln:Nat->Nat} {m:Nat}:∀ k,(∀ i,i < k->ln i<=m)->atN ln k<=m * k
 | 0,_=>by simp [atN]
 | k+1,h=>by
  have ih:=y1y k (fun i hi=>h i zU);have:=h k zU;unfold atN;rw [Nat.mul_succ];omega
theorem z3E (ln:Nat->Nat) (seek:Nat):∀ k,(pntN ln seek k).length<=k
 | 0=>by simp [pntN]
 | k+1=>by
  have ih:=z3E ln seek k;unfold pntN;split
  . rw [zN];simp;omega
  . omega
theorem y0c {ln:Nat->Nat} {m seek:Nat}:∀ k,(∀ i,i < k->ln i<=m)->∀ p ∈ pntN ln seek k,p<=m * k
 | 0,_,p,hp=>by simp [pntN] at hp
 | k+1,h,p,hp=>by
  have ih:=y0c (seek:=seek) k (fun i hi=>h i zU);have ha:=y1y k (fun i hi=>h i zU);rw [Nat.mul_succ];unfold pntN at hp;split at hp
  . rcases List.mem_append.1 hp with h1 | h1
    . have:=ih p h1;omega
    . simp at h1;omega
  . have:=ih p hp;omega
def ptsT (l:List Nat):List UInt8:=l.foldl (fun t p=>t ++ inT p 2) []
theorem y4s (l:List Nat) (p:Nat):ptsT (l ++ [p])=ptsT l ++ inT p 2:=by simp [ptsT,List.foldl_append]
theorem z6d (l:List Nat) (k:Nat) (h:k < l.length):ptsT (l.take (k+1))=ptsT (l.take k) ++ inT l[k] 2:=by
 rw [List.take_succ_eq_append_getElem h,y4s]
theorem z2s:∀ (l:List Nat) (k:Nat),k<=l.length->(ptsT (l.take k)).length=2 * k
 | l,0,_=>by simp [ptsT]
 | l,k+1,h=>by
  rw [z6d l k zU,zN,z0d,z2s l k zU];omega
def z0n (whole c0 c1 c2 c3 s c4 least most sum:Nat):List UInt8 :=
 [82,76] ++ inT whole 1 ++ inT c0 1 ++ inT c1 1 ++ inT c2 1 ++ inT c3 2 ++ inT s 2 ++ inT c4 1 ++ inT least 2 ++ inT most 2 ++ inT sum 4
theorem z0Q (whole c0 c1 c2 c3 s c4 least most sum:Nat):(z0n whole c0 c1 c2 c3 s c4 least most sum).length=19:=by simp [z0n,z0d]
def z1L (whole c0 c1 c2 c3 s c4 least most sum:Nat) (pts:List Nat):List UInt8:=z5b (z1f (z0n whole c0 c1 c2 c3 s c4 least most sum) ++ ptsT pts)
theorem z1M (whole c0 c1 c2 c3 s c4 least most sum:Nat) (pts:List Nat):(z1L whole c0 c1 c2 c3 s c4 least most sum pts).length=22+2 * pts.length:=by
 unfold z1L;have:=z2s pts pts.length zY;rw [List.take_length] at this;rw [z4o,zN,z0Z,z0Q,this];omega
def smpB (v:Int) (h:Bool):UInt8:=if h then UInt8.ofNat ((v % 65536).toNat / 256) else UInt8.ofNat ((v % 65536).toNat % 256)
def intB (n:Nat) (F:Nat->Nat->Int) (j:Nat):UInt8:=smpB (F (j / 2 % n) (j / 2 / n)) (j % 2 == 1)
def intT (n:Nat) (F:Nat->Nat->Int) (m:Nat):List UInt8:=(List.range m).map (intB n F)
theorem z6e (n:Nat) (F:Nat->Nat->Int) (m:Nat):(intT n F m).length=m:=by simp [intT]
theorem y6j (n:Nat) (F:Nat->Nat->Int) (i p:Nat) (hi:i < n):intT n F (2 * (p * n+i)+2)=intT n F (2 * (p * n+i)) ++ [smpB (F i p) false,smpB (F i p) true]:=by
 unfold intT;rw [show 2 * (p * n+i)+2=2 * (p * n+i)+1+1 from rfl,List.range_succ,List.range_succ];simp only [List.map_append,List.map_cons,List.map_nil,zI,List.cons_append,List.nil_append];have hn:0 < n:=zU
 have e1:2 * (p * n+i) / 2=p * n+i:=zU
 have e2:(2 * (p * n+i)+1) / 2=p * n+i:=zU
 have e3:(p * n+i) % n=i:=by rw [Nat.add_comm,Nat.add_mul_mod_self_right,Nat.mod_eq_of_lt hi]
 have e4:(p * n+i) / n=p:=by rw [Nat.add_comm,Nat.add_mul_div_right _ _ hn,Nat.div_eq_of_lt hi,Nat.zero_add]
 have e5:(2 * (p * n+i) % 2 == 1)=false:=by simp
 have e6:((2 * (p * n+i)+1) % 2 == 1)=true:=by simp
 unfold intB;rw [e1,e2,e3,e4,e5,e6]
def sumN (l:List UInt8):Nat:=65536 * (sB l % 65521)+sA l % 65521
theorem y0d (l:List UInt8):sumN l < 4294967296:=by
 unfold sumN;have h1:sB l % 65521 < 65521:=Nat.mod_lt _ zR;have h2:sA l % 65521 < 65521:=Nat.mod_lt _ zR;omega
def z4b (d n B c3 c4:Nat) (F:Nat->Nat->Int) (S:Nat):List UInt8 :=
 z1L 1 n d B c3 S c4 (z0P (lnF d n F S B) (nBlk S B)) (z1A (lnF d n F S B) (nBlk S B)) (sumN (intT n F (2 * (S * n)))) (pntN (lnF d n F S B) c4 (nBlk S B)) ++ frsT d n F S B (nBlk S B)
theorem z1N {a b c:World} {r:Option Nat} (h:a.grownBy b r) (k:b.grownBy c r):a.grownBy c r :=
 ⟨k.os.trans h.os,k.tape.trans h.tape,k.output.trans h.output,zO h.size k.size,fun j hj hne=>(k.block j (zP hj h.size) hne).trans (h.block j hj hne)⟩
theorem z0c {P:Program} {w w':World} {ops:Array Oper} {rest:List Oper} {o:Oper} {a:Act} {Q:Exit->Act->World->Prop}
 (hg:o.guard=none) (s x:Operand) (t:TypeId) (hop:o.op=Op.call { callee:=Callee.builtin Builtin.append,args:=#[s,x],argTypes:=#[t,t] })
 (v b v':Value) (hs:a.eval s=v) (hx:a.eval x=b) (hrun:(Builtin.append_ #[t,t] o.type #[v,b]).run P w=.ok v' w') (h:wpList P ops Q rest (a.put o.dst v') w'):wpList P ops Q (o :: rest) a w:=by
 refine wpList_plain hg fun K hK'=>?_
 unfold Oper.wp;simp [execOp,hop,resolve,invoke,builtin,hs,hx,hrun,Result.andThen];exact hK' _ _ h
theorem z3b (t e:TypeId) (z:Value) (bytes:Nat) (ht:prog.underlying t=some (.slice e)) (hinfo:(prog.info? e).map (fun i=>(i.zero,i.size,i.bytes))=some (some z,1,bytes)) (hzs:z.cells.size=1)
 (w:World) (base:Nat) (kv:Value) (j:Nat) (ks:List Value) (arr:Array Value) (hown:w.ownsRow base e 1 kv j ks) (hk1:1<=arr.size) (h1:∀ u ∈ arr.toList,u.oneCell'=true) (hm:j+arr.size<=maxLen) (hby:(j+arr.size) * bytes<=140737488355328) (hbase:base<=w.heap.size) (ty:TypeId) :
 ∃ g cap w',(Builtin.append_ #[t,t] ty #[kv,.slice (some ⟨w.heap.size,0,none⟩) arr.size arr.size]).run prog (w.alloc (.cells arr e))=.ok (.slice (some ⟨g,0,none⟩) (j+arr.size) cap) w' /\
  w'.ownsRow base e 1 (.slice (some ⟨g,0,none⟩) (j+arr.size) cap) (j+arr.size) (ks ++ arr.toList)/\w.grownBy w' kv.ownBlock:=by
 obtain ⟨i0,hi,hz0,hz1,hz2⟩:=info_parts hinfo;have hnews:∀ j u,arr.toList[j]?=some u->(w.alloc (.cells arr e)).cell? ((⟨w.heap.size,0,none⟩:Addr).add j)=some u:=by
  intro j u hj;have:(w.alloc (.cells arr e)).cell? ⟨w.heap.size,j,none⟩=arr[j]?:=World.cell?_alloc_new _ _ _ _;rw [show ((⟨w.heap.size,0,none⟩:Addr).add j)=⟨w.heap.size,j,none⟩ by cases j <;> simp [Addr.add],this]
  simpa using hj
 obtain ⟨v',w',hr,ho,hgr,hnil⟩:=run_append_own (P:=prog) (w.alloc (.cells arr e)) base t ty e i0 z 1 bytes ht hi hz0 hz1 hz2 hzs zU kv j ks (hown.alloc _)
  ⟨w.heap.size,0,none⟩ arr.size arr.size arr.toList (by simp) hnews h1 hm hby (by simp;omega)
 rcases ho.2 with ⟨-,h0⟩ | ⟨g,cap,cur,rfl,-⟩
 . omega
 . exact ⟨g,cap,w',hr,ho,z1N (World.grownBy_alloc w _ _) hgr⟩
theorem z7O:(prog.info? 110).map (·.size)=some 11:=zT
def hdC (c0 c1 c2 c3 c4 s:Int) (f:Bool) (least most sum:Int) (pv:Value):Array Value :=
 #[O I c0,O I c1,O I c2,O I c3,O I c4,O I s,.bool f,O I least,O I most,O I sum,pv]
theorem Bx.hd7 {w:World} {b:Nat} {t:TypeId} {c0 c1 c2 c3 c4 s:Int} {f:Bool} {least most sum:Int} {pv:Value} (h:Bx w b t (hdC c0 c1 c2 c3 c4 s f least most sum pv)) (x:Int):Bx (w.setCell ⟨b,7,none⟩ (O I x)) b t (hdC c0 c1 c2 c3 c4 s f x most sum pv):=by
 simp [Bx,World.setCell,Array.getElem?_modify,show w.heap[b]?=_ from h,hdC]
theorem Bx.hd8 {w:World} {b:Nat} {t:TypeId} {c0 c1 c2 c3 c4 s:Int} {f:Bool} {least most sum:Int} {pv:Value} (h:Bx w b t (hdC c0 c1 c2 c3 c4 s f least most sum pv)) (x:Int):Bx (w.setCell ⟨b,8,none⟩ (O I x)) b t (hdC c0 c1 c2 c3 c4 s f least x sum pv):=by
 simp [Bx,World.setCell,Array.getElem?_modify,show w.heap[b]?=_ from h,hdC]
theorem Bx.hd10 {w:World} {b:Nat} {t:TypeId} {c0 c1 c2 c3 c4 s:Int} {f:Bool} {least most sum:Int} {pv:Value} (h:Bx w b t (hdC c0 c1 c2 c3 c4 s f least most sum pv)) (x:Value):Bx (w.setCell ⟨b,10,none⟩ x) b t (hdC c0 c1 c2 c3 c4 s f least most sum x):=by
 simp [Bx,World.setCell,Array.getElem?_modify,show w.heap[b]?=_ from h,hdC]
theorem Bx.hcells {w:World} {b:Nat} {t:TypeId} {c0 c1 c2 c3 c4 s:Int} {f:Bool} {least most sum:Int} {pv:Value} (h:Bx w b t (hdC c0 c1 c2 c3 c4 s f least most sum pv)) :
 w.cell? ⟨b,7,none⟩=some (O I least)/\w.cell? ⟨b,8,none⟩=some (O I most)/\w.cell? ⟨b,10,none⟩=some pv/\w.frozen? ⟨b,7,none⟩=false/\w.frozen? ⟨b,8,none⟩=false/\w.frozen? ⟨b,10,none⟩=false:=by
 simp [World.cell?,World.frozen?,show w.heap[b]?=_ from h,hdC]
theorem z0V (w:World) (p:Addr) (v:Value):w.grownBy (w.setCell p v) (some p.block) :=
 ⟨rfl,rfl,rfl,by simp [World.setCell],fun k hk hne=>by
  have:p.block ≠ k:=fun e=>hne (by rw [e])
  simp [World.setCell,Array.getElem?_modify,this]⟩
theorem Bx.new2 {u:World} {k:Nat} (h:u.heap.size=k) (cs:Array Value) (t:TypeId):Bx (u.alloc (.cells cs t)) k t cs:=h ▸ Bx.new u cs t
theorem y7Q (tmps:Array Value) (R:Nat) (cs:Array Value) (W:World) (h:Bx W R 110 cs) (hs:cs.size=11) (h6:tmps.getD 6 undef=.pointer (some ⟨R,0,none⟩)) :
 (results Tryz.f128 tmps).run prog W=.ok (.agg cs) W:=by
 have hl:=run_loadVar_row (P:=prog) W R 110 110 cs (0,0) _ h underlying110 rfl (by rw [hs];exact z7O);rw [Array.getD_eq_getD_getElem?] at h6;simp [results,results128,asAddr,h6,hl]
theorem z8X (w:World) (g:Nat) (cs:Array Value):w.grownBy (w.setRow g cs) (some g) :=
 ⟨rfl,rfl,rfl,by simp [World.setRow],fun k hk hne=>setRow_other w g k cs (fun e=>hne (by rw [e]))⟩
theorem z4q {w:World} {base base':Nat} {e:TypeId} {size:Nat} {v:Value} {n:Nat} {xs:List Value} (h:w.ownsRow base e size v n xs) (hb:base'<=base):w.ownsRow base' e size v n xs :=
 ⟨h.1,h.2.imp id fun ⟨g,cap,cur,h1,h2,h3⟩=>⟨g,cap,cur,h1,zO hb h2,h3⟩⟩
theorem z7P (u:World) (p:Addr) (v:Value):(u.setCell p v).heap.size=u.heap.size:=by simp [World.setCell]
structure FinI (w wr:World) (c0 c1 c2 c3 c4 s:Int) (least most sum:Int) (pv:Value) (m:Nat) (ps:List Value):Prop where
 info:wr.cell? ⟨w.heap.size,4,none⟩=some (O I c4)
 hd:Bx wr (w.heap.size+1+1) 110 (hdC c0 c1 c2 c3 c4 s true least most sum pv)
 res:Bx wr (w.heap.size+1) 110 (hdC 0 0 0 0 0 0 false 0 0 0 (.slice none 0 0))
 own:wr.ownsRow (w.heap.size+1+1+1) 3 1 pv m ps
 below:Below w.heap.size w wr
 size:w.heap.size+1+1+1<=wr.heap.size
theorem FinI.ne {w wr:World} {c0 c1 c2 c3 c4 s:Int} {least most sum:Int} {pv:Value} {m:Nat} {ps:List Value} (h:FinI w wr c0 c1 c2 c3 c4 s least most sum pv m ps):∀ k,k < w.heap.size+1+1+1->pv.ownBlock ≠ some k:=fun k hk e=>by have:=(h.own.lt k e).1;omega
theorem FinI.set {w wr:World} {c0 c1 c2 c3 c4 s:Int} {least most sum:Int} {pv:Value} {m:Nat} {ps:List Value} (h:FinI w wr c0 c1 c2 c3 c4 s least most sum pv m ps) (j:Nat) (v:Value) {least' most':Int}
 (hd:Bx (wr.setCell ⟨w.heap.size+1+1,j,none⟩ v) (w.heap.size+1+1) 110 (hdC c0 c1 c2 c3 c4 s true least' most' sum pv)):FinI w (wr.setCell ⟨w.heap.size+1+1,j,none⟩ v) c0 c1 c2 c3 c4 s least' most' sum pv m ps :=
 have hg:=z0V wr ⟨w.heap.size+1+1,j,none⟩ v
 ⟨hg.cell h.info (by simp;omega),hd,h.res.of (hg.block _ (by have:=h.size;omega) (by simp)),h.own.kept hg (.inr (h.ne _ (by show w.heap.size+1+1 < _;omega))),h.below.setCell (p:=⟨w.heap.size+1+1,j,none⟩) (by show w.heap.size<=w.heap.size+1+1;omega) _,by have:=h.size;have:=hg.size;omega⟩
theorem FinI.point {w wr u:World} {c0 c1 c2 c3 c4 s:Int} {least most sum:Int} {pv:Value} {m:Nat} {ps:List Value} (h:FinI w wr c0 c1 c2 c3 c4 s least most sum pv m ps) {g cap:Nat} {x:Value}
 (ho:u.ownsRow (w.heap.size+1+1+1) 3 1 (.slice (some ⟨g,0,none⟩) (m+1) cap) (m+1) (ps ++ [x])) (hg:wr.grownBy u pv.ownBlock) :
 FinI w (u.setCell ⟨w.heap.size+1+1,10,none⟩ (.slice (some ⟨g,0,none⟩) (m+1) cap)) c0 c1 c2 c3 c4 s least most sum (.slice (some ⟨g,0,none⟩) (m+1) cap) (m+1) (ps ++ [x]) :=
 have hs:=h.size;have hd:Bx u (w.heap.size+1+1) 110 (hdC c0 c1 c2 c3 c4 s true least most sum pv):=h.hd.of (hg.block _ zU (fun e=>h.ne _ (by show w.heap.size+1+1 < _;omega) e.symm));have hg2:=z0V u ⟨w.heap.size+1+1,10,none⟩ (.slice (some ⟨g,0,none⟩) (m+1) cap);have hgl:=(ho.lt g rfl).1
 ⟨hg2.cell (hg.cell h.info (fun e=>h.ne w.heap.size zU e.symm)) (by simp;omega),hd.hd10 _,(h.res.of (hg.block _ zU (fun e=>h.ne (w.heap.size+1) zU e.symm))).of (hg2.block _ (by have:=hg.size;omega) (by simp)),ho.kept hg2 (.inr (by simp [Value.ownBlock];omega)),(h.below.grown hg h.below.size (fun k hk=>by have:=(h.own.lt k hk).1;omega)).setCell (p:=⟨w.heap.size+1+1,10,none⟩) (by show w.heap.size<=w.heap.size+1+1;omega) _,by have:=hg.size;have:=hg2.size;omega⟩
def pntV (l:List Nat):List Value:=l.map fun p:Nat=>Value.int .i64 (p:Int)
theorem z0u (l:List Nat) (p:Nat):pntV (l ++ [p])=pntV l ++ [Value.int .i64 (p:Int)]:=by simp [pntV]
set_option maxRecDepth 4000 in
set_option maxHeartbeats 1000000 in
theorem z8Y (c0 c1 c2 c3 s:Int) (c4 sum:Nat) (a:Option Addr) (k cap:Nat) (ln:Nat->Nat) (w:World) (hk:k<=300) (hc4:c4<=255) (hln:∀ i,i < k->ln i<=222)
 (hI:IntsAt w a k (fun i=>(ln i:Int))) (hlow:∀ x,a=some x->0 < k->x.block < w.heap.size) :
 Calls prog 128 #[.agg #[O I c0,O I c1,O I c2,O I c3,O I c4,O I s],.slice a k cap,O I sum] w fun e w' =>
  ∃ pv,e=.returned (.agg (hdC c0 c1 c2 c3 c4 s true (z0P ln k) (z1A ln k) sum pv))/\w'.ownsRow w.heap.size 3 1 pv (pntN ln c4 k).length (pntV (pntN ln c4 k))/\Below w.heap.size w w':=by
 have HI:=zZ hI;have HLOW:=zZ hlow;have HLN:=zZ hln;have HLB:=zZ (fun i (hi:i<=k)=>z3v (ln:=ln) (m:=222) i (fun j hj=>hln j zU));have HMB:=zZ (fun i (hi:i<=k)=>z4p (ln:=ln) (m:=222) i (fun j hj=>hln j zU));have HAB:=zZ (fun i (hi:i<=k)=>y1y (ln:=ln) (m:=222) i (fun j hj=>hln j zU));clear hI hlow hln
 go_enter func128,ntmps128
 go_wp2
 go_loopw [8,9,10,16] (fun av _ _ iv wr=>∃ i:Nat,∃ pv:Value,i<=k/\iv=O I i/\av=O I (atN ln i:Nat)/\Hid (FinI w wr c0 c1 c2 c3 c4 s (z0P ln i:Nat) (z1A ln i:Nat) sum pv (pntN ln c4 i).length (pntV (pntN ln c4 i)))) (fun _ _ _ iv _=>k - (intOf iv).toNat)
 case atStart =>
  refine ⟨0,.slice none 0 0,zJ _,rfl,rfl,⟨?_,?_,?_,World.ownsRow_nil _ _ _ _,((zX.alloc zY _).alloc (by simp) _).alloc (by simp;omega) _,by simp⟩⟩
  . exact (((Bx.new w _ _).alloc _).alloc _).cell 4
  . exact Bx.new2 (by simp) _ _
  . exact (Bx.new2 (by simp) _ _).alloc _
 case round =>
  obtain ⟨i,pv,hi,rfl,rfl,HR⟩:=hrel
  by_cases hlt:i < k
  . obtain ⟨gi,oi,hAi,hci⟩:=HI.out.open zU
    subst hAi;have hgl:gi < w.heap.size:=HLOW.out _ rfl zU;have hcv:wr.cell? ⟨gi,oi+i,none⟩=some (O I (ln i:Int)):=(HR.out.below.cell (p:=⟨gi,oi+i,none⟩) hgl).trans (hci i hlt);obtain ⟨x7,x8,x10,y7,y8,y10⟩:=HR.out.hd.hcells;have xi:=HR.out.info;have HAT:Hid (atN ln (i+1)=atN ln i+ln i):=rfl;have HMO:Hid (((z1A ln (i+1):Nat):Int)=max ((z1A ln i:Nat):Int) (ln i:Int)):=by show ((max (z1A ln i) (ln i):Nat):Int)=_;omega
    have HLE:Hid (z0P ln (i+1)=if i=0∨ln i < z0P ln i then ln i else z0P ln i):=rfl;have HPT:Hid (pntN ln c4 (i+1)=if 0 < c4/\i % c4=0 then pntN ln c4 i ++ [atN ln i] else pntN ln c4 i):=rfl;have hL:=HLN.out i hlt;have hle:=HLB.out i hi;have hmo:=HMB.out i hi;have hah:atN ln i<=66600:=zO (HAB.out i hi) zU;have hpl:=z3E ln c4 i;generalize pntN ln c4 i=P at *;generalize z0P ln i=le at *;generalize z1A ln i=mo at *;generalize atN ln i=ah at *;generalize ln i=L at *;clear hci;have F2:Hid (FinI w ((wr.setCell ⟨w.heap.size+1+1,7,none⟩ (O I (L:Int))).setCell ⟨w.heap.size+1+1,8,none⟩ (O I (max (mo:Int) (L:Int)))) c0 c1 c2 c3 c4 s (L:Int) (max (mo:Int) (L:Int)) sum pv P.length (pntV P)) :=
     (HR.out.set 7 _ (HR.out.hd.hd7 _)).set 8 _ ((HR.out.set 7 _ (HR.out.hd.hd7 _)).hd.hd8 _)
    have F1:Hid (FinI w (wr.setCell ⟨w.heap.size+1+1,8,none⟩ (O I (max (mo:Int) (L:Int)))) c0 c1 c2 c3 c4 s (le:Int) (max (mo:Int) (L:Int)) sum pv P.length (pntV P)) :=
     HR.out.set 8 _ (HR.out.hd.hd8 _)
    have HNX:Hid (I.wrap ((ah:Int)+(L:Int))=(ah:Int)+(L:Int)):=by show _=_;rw [zK];omega
    by_cases hp:0 < c4/\i % c4=0
    . rw [if_pos hp] at HPT
      have s1:decide ((0:Int) < (c4:Int))=true:=zL zU;have s2:(0:Int) < (c4:Int):=zU
      have s3:¬ (c4:Int)=0:=zU
      have s4:¬ c4=0:=zU
      have s5:((i:Int)).tmod (c4:Int)=0:=by rw [zG zU];have:=hp.2;omega
      have s6:(i:Int) % (c4:Int)=0:=by have:=hp.2;omega
      clear hp
      by_cases h0:i=0
      . rw [if_pos (.inl h0)] at HLE
        have t0:((i:Int) == 0)=true:=by simp;omega
        clear h0;have hF:=F2.out;obtain ⟨g',c',u',hr,ho,hg⟩:=z3b 30 3 (O I 0) 8 underlying30 z1g rfl _ _ pv _ _ #[O I (ah:Int)] hF.own (by simp) (by intro u hu;simp at hu;rw [hu];rfl) (by simp only [maxLen];simp;omega) (by simp;omega) hF.size 30;have HN:=zZ (hF.point ho hg);have hd':=hF.hd.of (hg.block _ (by have:=hF.size;omega) (fun e=>hF.ne _ (by show w.heap.size+1+1 < _;omega) e.symm));obtain ⟨-,-,z10,-,-,v10⟩:=hd'.hcells;simp only [z7P] at hr;have HAP:Hid (_=_):=hr;clear hr ho hg hd' hF
        go_wp2_with (at_builtin;refine z0c rfl _ _ _ rfl _ _ _ rfl rfl HAP.out ?_;clear HAP)
        go_roundw
        case rel=>exact ⟨i+1,_,zU,zS,by rw [HAT.out];go_num,by rw [HLE.out,HMO.out,HPT.out,zN,z0u];exact HN.out⟩
        case measure=>simp [intOf];omega
      . have t0:((i:Int) == 0)=false:=by simp;omega
        by_cases hl:L < le
        . rw [if_pos (.inr hl)] at HLE
          clear h0;have hF:=F2.out;obtain ⟨g',c',u',hr,ho,hg⟩:=z3b 30 3 (O I 0) 8 underlying30 z1g rfl _ _ pv _ _ #[O I (ah:Int)] hF.own (by simp) (by intro u hu;simp at hu;rw [hu];rfl) (by simp only [maxLen];simp;omega) (by simp;omega) hF.size 30;have HN:=zZ (hF.point ho hg);have hd':=hF.hd.of (hg.block _ (by have:=hF.size;omega) (fun e=>hF.ne _ (by show w.heap.size+1+1 < _;omega) e.symm));obtain ⟨-,-,z10,-,-,v10⟩:=hd'.hcells;simp only [z7P] at hr;have HAP:Hid (_=_):=hr;clear hr ho hg hd' hF
          go_wp2_with (at_builtin;refine z0c rfl _ _ _ rfl _ _ _ rfl rfl HAP.out ?_;clear HAP)
          go_roundw
          case rel=>exact ⟨i+1,_,zU,zS,by rw [HAT.out];go_num,by rw [HLE.out,HMO.out,HPT.out,zN,z0u];exact HN.out⟩
          case measure=>simp [intOf];omega
        . rw [if_neg (fun h=>h.elim h0 hl)] at HLE
          clear h0;have hF:=F1.out;obtain ⟨g',c',u',hr,ho,hg⟩:=z3b 30 3 (O I 0) 8 underlying30 z1g rfl _ _ pv _ _ #[O I (ah:Int)] hF.own (by simp) (by intro u hu;simp at hu;rw [hu];rfl) (by simp only [maxLen];simp;omega) (by simp;omega) hF.size 30;have HN:=zZ (hF.point ho hg);have hd':=hF.hd.of (hg.block _ (by have:=hF.size;omega) (fun e=>hF.ne _ (by show w.heap.size+1+1 < _;omega) e.symm));obtain ⟨-,-,z10,-,-,v10⟩:=hd'.hcells;simp only [z7P] at hr;have HAP:Hid (_=_):=hr;clear hr ho hg hd' hF
          go_wp2_with (at_builtin;refine z0c rfl _ _ _ rfl _ _ _ rfl rfl HAP.out ?_;clear HAP)
          go_roundw
          case rel=>exact ⟨i+1,_,zU,zS,by rw [HAT.out];go_num,by rw [HLE.out,HMO.out,HPT.out,zN,z0u];exact HN.out⟩
          case measure=>simp [intOf];omega
    . rw [if_neg hp] at HPT
      by_cases hc:c4=0
      . have s1:decide ((0:Int) < (c4:Int))=false:=zM zU
        have s2:¬ (0:Int) < (c4:Int):=zU
        clear hp hc
        by_cases h0:i=0
        . rw [if_pos (.inl h0)] at HLE
          have t0:((i:Int) == 0)=true:=by simp;omega
          clear h0;have HN:=zZ F2.out;go_wp2
          go_roundw
          case rel=>exact ⟨i+1,pv,zU,zS,by rw [HAT.out];go_num,by rw [HLE.out,HMO.out,HPT.out];exact HN.out⟩
          case measure=>simp [intOf];omega
        . have t0:((i:Int) == 0)=false:=by simp;omega
          by_cases hl:L < le
          . rw [if_pos (.inr hl)] at HLE
            clear h0;have HN:=zZ F2.out;go_wp2
            go_roundw
            case rel=>exact ⟨i+1,pv,zU,zS,by rw [HAT.out];go_num,by rw [HLE.out,HMO.out,HPT.out];exact HN.out⟩
            case measure=>simp [intOf];omega
          . rw [if_neg (fun h=>h.elim h0 hl)] at HLE
            clear h0;have HN:=zZ F1.out;go_wp2
            go_roundw
            case rel=>exact ⟨i+1,pv,zU,zS,by rw [HAT.out];go_num,by rw [HLE.out,HMO.out,HPT.out];exact HN.out⟩
            case measure=>simp [intOf];omega
      . have s1:decide ((0:Int) < (c4:Int))=true:=zL zU
        have s2:(0:Int) < (c4:Int):=zU
        have s3:¬ (c4:Int)=0:=zU
        have hr:¬ i % c4=0:=fun e=>hp ⟨zU,e⟩
        have e6:(i:Int) % (c4:Int)=((i % c4:Nat):Int):=rfl;have s5:((i:Int).tmod (c4:Int) == 0)=false:=by rw [zG zU,e6];simp;omega
        have s6:((i:Int) % (c4:Int) == 0)=false:=by rw [e6];simp;omega
        have s7:¬ (i:Int).tmod (c4:Int)=0:=by rw [zG zU,e6];omega
        clear hp hr e6
        by_cases h0:i=0
        . exact absurd (by rw [h0];simp) s7
        . have t0:((i:Int) == 0)=false:=by simp;omega
          by_cases hl:L < le
          . rw [if_pos (.inr hl)] at HLE
            clear h0;have HN:=zZ F2.out;go_wp2
            go_roundw
            case rel=>exact ⟨i+1,pv,zU,zS,by rw [HAT.out];go_num,by rw [HLE.out,HMO.out,HPT.out];exact HN.out⟩
            case measure=>simp [intOf];omega
          . rw [if_neg (fun h=>h.elim h0 hl)] at HLE
            clear h0;have HN:=zZ F1.out;go_wp2
            go_roundw
            case rel=>exact ⟨i+1,pv,zU,zS,by rw [HAT.out];go_num,by rw [HLE.out,HMO.out,HPT.out];exact HN.out⟩
            case measure=>simp [intOf];omega
  . have e:i=k:=zU
    subst e;have H1:Hid ((hdC c0 c1 c2 c3 c4 s true (z0P ln i:Nat) (z1A ln i:Nat) sum pv).toList.all (·.oneCell')=true):=by
     rcases HR.out.own.2 with ⟨e,-⟩ | ⟨g,c,cur,e,-⟩ <;> (show _=_;rw [e];rfl)
    go_wp2_with (first | (refine z0h rfl _ 110 rfl _ _ _ _ _ rfl HR.out.hd underlying110 rfl z7O ?_) | (refine z0a rfl _ _ 110 rfl (w.heap.size+1) 110 _ _ rfl rfl HR.out.res z7O rfl H1.out ?_))
    exact bodyPost_ret (y7Q _ (w.heap.size+1) (hdC c0 c1 c2 c3 c4 s true (z0P ln i:Nat) (z1A ln i:Nat) sum pv) _ (HR.out.res.row _) rfl rfl) rfl ⟨pv,rfl,z4q (HR.out.own.kept (z8X wr (w.heap.size+1) _) (.inr (HR.out.ne (w.heap.size+1) zU))) zU,below_setRow HR.out.below zU _⟩
def CfS (q b off:Nat) (c0 c1 c2 c3 c4 c5 c6 c7:Int) (v:Value) (u:World):Prop :=
 q < u.heap.size/\u.cell? ⟨q,0,none⟩=some (O I c0)/\u.cell? ⟨q,1,none⟩=some (O I c1)/\u.cell? ⟨q,2,none⟩=some (O I c2)/\u.cell? ⟨q,3,none⟩=some (O I c3)/\u.cell? ⟨q,4,none⟩=some (O I c4)/\u.cell? ⟨q,5,none⟩=some (O I c5)/\u.cell? ⟨q,6,none⟩=some (O I c6)/\u.cell? ⟨q,7,none⟩=some (O I c7)/\u.cell? ⟨b,off,none⟩=some v
theorem y9I {q b off:Nat} {c0 c1 c2 c3 c4 c5 c6 c7:Int} {v:Value} {u u':World} (hb:Below u.heap.size u u') (hbl:b < u.heap.size) (h:CfS q b off c0 c1 c2 c3 c4 c5 c6 c7 v u):CfS q b off c0 c1 c2 c3 c4 c5 c6 c7 v u' :=
 ⟨zP h.1 hb.size,z0g hb h.1 h.2.1,z0g hb h.1 h.2.2.1,z0g hb h.1 h.2.2.2.1,z0g hb h.1 h.2.2.2.2.1,z0g hb h.1 h.2.2.2.2.2.1,z0g hb h.1 h.2.2.2.2.2.2.1,z0g hb h.1 h.2.2.2.2.2.2.2.1,z0g hb h.1 h.2.2.2.2.2.2.2.2.1,z0g hb hbl h.2.2.2.2.2.2.2.2.2⟩
theorem Bx.cfS {w:World} {q b off:Nat} {c0 c1 c2 c3 c4 c5 c6 c7:Int} {v:Value} (h:Bx w q 23 #[O I c0,O I c1,O I c2,O I c3,O I c4,O I c5,O I c6,O I c7]) (hv:w.cell? ⟨b,off,none⟩=some v):CfS q b off c0 c1 c2 c3 c4 c5 c6 c7 v w :=
 ⟨h.lt,h.cell 0,h.cell 1,h.cell 2,h.cell 3,h.cell 4,h.cell 5,h.cell 6,h.cell 7,hv⟩
theorem y1z {q b off:Nat} {c0 c1 c2 c3 c4 c5 c6 c7:Int} {v:Value} {u u':World} (hb:Below u.heap.size u u') (hbl:b < u.heap.size) (h:q < u.heap.size/\u.cell? ⟨q,0,none⟩=some (O I c0)/\u.cell? ⟨q,1,none⟩=some (O I c1)/\u.cell? ⟨q,2,none⟩=some (O I c2)/\u.cell? ⟨q,3,none⟩=some (O I c3)/\u.cell? ⟨q,4,none⟩=some (O I c4)/\u.cell? ⟨q,5,none⟩=some (O I c5)/\u.cell? ⟨q,6,none⟩=some (O I c6)/\u.cell? ⟨q,7,none⟩=some (O I c7)/\u.cell? ⟨b,off,none⟩=some v):q < u'.heap.size/\u'.cell? ⟨q,0,none⟩=some (O I c0)/\u'.cell? ⟨q,1,none⟩=some (O I c1)/\u'.cell? ⟨q,2,none⟩=some (O I c2)/\u'.cell? ⟨q,3,none⟩=some (O I c3)/\u'.cell? ⟨q,4,none⟩=some (O I c4)/\u'.cell? ⟨q,5,none⟩=some (O I c5)/\u'.cell? ⟨q,6,none⟩=some (O I c6)/\u'.cell? ⟨q,7,none⟩=some (O I c7)/\u'.cell? ⟨b,off,none⟩=some v :=
 y9I hb hbl h
set_option maxHeartbeats 400000 in
theorem y2s (n B:Nat) (g:Nat->Value) (v:Int) (w:World) (hn:n<=17592186044416) (hrow:w.rowIs B 3 (n+8) g) :
 Calls prog 147 #[.slice (some ⟨B,0,none⟩) n (n+8),O I v] w fun e w'=>e=.returned (.tuple #[])/\w'.rowIs B 3 (n+8) (fun _=>O I v)/\Only B w w':=by
 have hnil:=fun u:World=>Lib.run_eql_slice_nil (P:=prog) u 30 3 (some ⟨B,0,none⟩) n (n+8) 0 0 underlying30
 go_enter func147,ntmps147
 go_wp2;clear hnil
 go_loopw [5] (fun i wr=>∃ k:Nat,k<=n+8/\i=O I k/\wr.rowIs B 3 (n+8) (z4A g v k)/\Only B w wr) (fun i _=>n+8 - (intOf i).toNat)
 case atStart=>exact ⟨0,zJ _,rfl,hrow.congr fun i _=>by simp [z4A],Only.refl _ _⟩
 case round =>
  clear hrow;obtain ⟨k,hk,rfl,hrow,hon⟩:=hrel
  by_cases hlt:k < n+8
  . have hc1:=hrow.cell hlt
    have hf1:=hrow.frozen k;go_wp2
    go_roundw
    case rel=>exact ⟨k+1,zU,zS,z8x hrow,hon.set _ _⟩
    case measure=>simp [intOf];omega
  . have e:k=n+8:=zU
    subst e;go_wp2;go_end0;exact ⟨rfl,hrow.congr fun i hi=>by simp [z4A,hi],hon⟩
set_option maxHeartbeats 400000 in
theorem z6V (v:Int) (w:World) :
 Calls prog 147 #[.slice none 0 0,O I v] w fun e w'=>e=.returned (.tuple #[])/\w'=w:=by
 have hnil:=fun u:World=>Lib.run_eql_slice_nil (P:=prog) u 30 3 none 0 0 0 0 underlying30
 go_enter func147,ntmps147
 go_wp2;exact bodyPost_ret (v:=.tuple #[]) (by simp [results,results147,go_sem]) rfl ⟨rfl,rfl⟩
end Go.Proofs.YtlncjgnomhpjnabGreatDoor
