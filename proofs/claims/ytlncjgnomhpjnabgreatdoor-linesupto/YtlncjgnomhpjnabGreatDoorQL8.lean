import Derived.Test.YtlncjgnomhpjnabGreatDoorQL6
import Derived.Test.YtlncjgnomhpjnabGreatDoorQL7
namespace Go.Proofs.YtlncjgnomhpjnabGreatDoor
open Go.Value renaming int → O
open Go.IntKind renaming i64 → I
open Go.Proofs.Tryz
open Go.RowKit Go.Deep
set_option linter.unusedVariables false
theorem y1g (l:Nat->Int) (n width i:Nat) (h:-4096<=l i/\l i<=4096):-4096<=z1Z l n width i/\z1Z l n width i<=4096:=by
 unfold z1Z;have hp:=z2m (z0D l n width);constructor
 . rw [Int.le_ediv_iff_mul_le hp]
   have:=Int.mul_le_mul_of_nonneg_left (show (1:Int)<=2 ^ z0D l n width by omega) (show (0:Int)<=4096 by omega);omega
 . by_cases h0:0<=l i
   . have:=Int.ediv_le_self (2 ^ z0D l n width) h0;omega
   . have:=Int.ediv_neg_of_neg_of_pos (show l i < 0 by omega) hp;omega
structure Tabs (w:World):Prop where
 fixed:z1v w 5
 fixedLt:5 < w.heap.size
 tz:TzAt w 4
 tzLt:4 < w.heap.size
theorem Tabs.below {w u:World} (h:Tabs w) (hb:Below w.heap.size w u):Tabs u :=
 ⟨fun r c hr hc=>(hb.cell (p:=⟨5,4 * r+c,none⟩) h.fixedLt).trans (h.fixed r c hr hc),zP h.fixedLt hb.size,
  fun t ht=>(hb.cell (p:=⟨4,_,none⟩) h.tzLt).trans (h.tz t ht),zP h.tzLt hb.size⟩
set_option maxRecDepth 100000 in
set_option maxHeartbeats 2000000 in
theorem z2n (A:Option Addr) (n c width:Nat) (l:Nat->Int) (w:World) (hn1:1<=n) (hn:n<=32) (hw1:1<=width) (hw:width<=13) (hl:∀ j,j < n->z0A width (l j)=true) (hI:IntsAt w A n l) (hlow:∀ y,A=some y->0 < n->y.block < w.heap.size) (hT:Tabs w) :
 Calls prog 221 #[O I width,.slice A n c] w fun e w'=>e=.returned (.string (bs (subT width l n)))/\Below w.heap.size w w':=by
 have hsl:z0D l n width<=width - 1:=z4l _ _ _;have HCS:=zZ (z5D A n c width l w hn hw1 hw hl hI hT.tz);have HSH:=zZ (fun m=>z9O A n c (z0D l n width) l (w.drewN m) hn zU hI hlow);have HTX:Hid (bs (subT width l n)=⟨(binT (z0H (width - z0D l n width) (z1Z l n width) n 6:Nat) 4 ++ binT (z0D l n width) 4 ++ z1G (z0H (width - z0D l n width) (z1Z l n width) n 6) (width - z0D l n width) (z1Z l n width) n).toArray⟩):=by
  show _=_
  unfold subT z5z bs;rw [zI]
 have hbd:=fun j (hj:j < n)=>y1g l n width j (z3S (hl j hj) hw)
 have HXE:Hid ((fun i=>l i / 2 ^ z0D l n width)=z1Z l n width):=rfl;rw [HXE.out] at HSH;generalize z1Z l n width=x at *;generalize z0D l n width=s at *;have HSHORT:=zZ (fun (u:World) (G:Nat) (h:u.rowIs G 3 n (cutV n x))=>(⟨fun i hi=>⟨_,rfl,by
     have:=h.cell (i:=i) hi;unfold cutV cutI at this;rw [if_pos hi] at this;rw [← this];cases i <;> simp [Addr.add]⟩,fun y hy _=>by cases hy;exact h.lt,hbd⟩:Shorts u (some ⟨G,0,none⟩) n x))
 have HSB:=zZ (fun (G:Nat) (u:World) (hu:Shorts u (some ⟨G,0,none⟩) n x) (ht:Tabs u)=>z5g (some ⟨G,0,none⟩) n n (width - s) x u hn1 hn zY zU zU hu ht.fixed ht.fixedLt);have HLY:=zZ (fun (G:Nat) (u:World) (hu:Shorts u (some ⟨G,0,none⟩) n x)=>y7H (z0H (width - s) x n 6) s (some ⟨G,0,none⟩) n n (width - s) x u (z4j _ _ _ _) zU hn1 hn zY zU (z4k _ _ _ _) hu);have HTT:=zZ hT;have vW:I.wrap ((width:Int) - (s:Int))=((width - s:Nat):Int):=by rw [zK];omega
 rw [HTX.out];generalize hws:width - s=ws at *;clear hl hI hlow hT hbd HXE HTX hws;simp only [y5P] at HSB
 go_enter func221,ntmps221
 go_wp2_with (first
  | (go_at_call 262;refine HCS.out.mono ?_;rintro e w1 ⟨rfl,m,hm⟩;subst w1;clear HCS)
  | (go_at_call 263;refine (HSH.out m).mono ?_;rintro e w2 ⟨rfl,hrow,hb2⟩;have HR2:=zZ hrow;have HW2:Hid (Below w.heap.size w w2):=(⟨hb2.os,hb2.tape,hb2.output,hb2.size,hb2.block⟩:Below w.heap.size w w2);clear hrow hb2 HSH)
  | (go_at_call 265;refine (HSB.out _ _ ?_ ?_).mono ?_;exact HSHORT.out _ _ HR2.out;exact HTT.out.below HW2.out;rintro e w3 ⟨rfl,hb3⟩;have HR3:=zZ (HR2.out.of_block (hb3.block _ HR2.out.lt));have HW3:=zZ (HW2.out.trans (hb3.mono HW2.out.size));clear hb3 HSB HR2 HW2)
  | (go_at_call 264;refine (HLY.out _ _ ?_).mono ?_;exact HSHORT.out _ _ HR3.out;rintro e w4 ⟨rfl,hb4⟩;have HW4:=zZ (HW3.out.trans (hb4.mono HW3.out.size));clear hb4 HLY))
 go_ret;exact ⟨rfl,HW4.out⟩
def y1h (d:Nat) (f:Nat->Int) (n:Nat):Bool:=(List.range n).all fun i=>z0A d (f i)
theorem z4J (d:Nat) (f:Nat->Int) (n:Nat):y1h d f n=true↔∀ i,i < n->z0A d (f i)=true:=by simp [y1h]
set_option maxHeartbeats 1000000 in
theorem y5R (d:Nat) (a:Option Addr) (n c:Nat) (f:Nat->Int) (w:World) (h1:1<=d) (h2:d<=13) (hn:n<=17592186044416) (hI:IntsAt w a n f) :
 Calls prog 192 #[O I d,.slice a n c] w fun e w'=>e=.returned (.bool (y1h d f n))/\w'=w:=by
 have HI:Hid (IntsAt w a n f):=hI;clear hI
 go_enter func192,ntmps192
 go_wp2
 go_loop [6,9] (fun _ i=>∃ k:Nat,k<=n/\i=O I k/\Hid (∀ i,i < k->z0A d (f i)=true)) (fun _ i=>n - (intOf i).toNat)
 case atStart=>exact ⟨0,zJ _,rfl,fun i hi=>absurd hi zU⟩
 case round =>
  obtain ⟨k,hk,rfl,HA⟩:=hrel
  by_cases hlt:k < n
  . obtain ⟨b,off,hx,hc⟩:=HI.out.open zU
    cases hx;have hc1:=hc k hlt;clear hc;cases hf:z0A d (f k)
    . go_wp2_with (go_at_call 246;refine (z4Y _ _ _ h1 h2).mono ?_;rintro e w' ⟨rfl,rfl⟩)
      go_ret;refine ⟨z0G ?_,rfl⟩;cases e:y1h d f n with
      | false=>rfl
      | true=>rw [(z4J d f n).1 e k hlt] at hf;cases hf
    . go_wp2_with (go_at_call 246;refine (z4Y _ _ _ h1 h2).mono ?_;rintro e w' ⟨rfl,rfl⟩)
      go_round
      case rel =>
       refine ⟨k+1,zU,zS,fun i hi=>?_⟩
       by_cases e:i=k
       . subst e;exact hf
       . exact HA.out i zU
      case measure=>simp [intOf];omega
  . have e:k=n:=zU
    subst e;go_wp2;go_ret;exact ⟨z0G ((z4J d f k).2 HA.out).symm,rfl⟩
def AllB (T:List UInt8):Prop:=∀ c ∈ T,c=48∨c=49
theorem AllB.append {T U:List UInt8} (h:AllB T) (k:AllB U):AllB (T ++ U):=fun c hc=>by
 rcases List.mem_append.1 hc with h1 | h1
 . exact h c h1
 . exact k c h1
theorem y7I (b:Bool):ltr b=48∨ltr b=49:=by cases b <;> simp [ltr]
theorem z1J (v:Int) (k:Nat):AllB (binT v k):=fun c hc=>by
 unfold binT at hc;obtain ⟨i,_,rfl⟩:=List.mem_map.1 hc;exact y7I _
theorem y2b (f k:Nat):AllB (z7u f k):=by
 unfold z7u;refine AllB.append (AllB.append (fun c hc=>?_) (fun c hc=>?_)) (z1J _ _)
 . exact .inl (List.eq_of_mem_replicate hc)
 . exact .inr (by simpa using hc)
theorem z5H (f:Nat->Nat) (k lo:Nat):∀ m,AllB (z0I f k lo m)
 | 0=>fun c hc=>by cases hc
 | m+1=>(z5H f k lo m).append (y2b _ _)
theorem z5I (f:Nat->Nat) (o sz:Nat):∀ m,AllB (z0p f o sz m)
 | 0=>fun c hc=>by cases hc
 | m+1=>(z5I f o sz m).append ((z1J _ _).append (z5H _ _ _ _))
theorem z4K (x:Nat->Int) (w:Nat):∀ m,AllB (z0B x w m)
 | 0=>fun c hc=>by cases hc
 | m+1=>(z4K x w m).append (z1J _ _)
theorem y2c (kind w:Nat) (x:Nat->Int) (n:Nat):AllB (z1G kind w x n):=by
 unfold z1G;split
 . exact z1J _ _
 . split
   . exact z4K _ _ _
   . unfold gT cutT
     refine (z4K _ _ _).append (AllB.append ?_ ((z1J _ _).append (z5I _ _ _ _)));split
     . exact (z1J _ _).append (z1J _ _)
     . exact fun c hc=>by cases hc
theorem z2o (width:Nat) (l:Nat->Int) (n:Nat):AllB (subT width l n):=(z1J _ _).append ((z1J _ _).append (y2c _ _ _ _))
theorem y1i (T:List UInt8) (j:Nat) (h:j < (bs T).size):(bs T)[j]=T[j]'(by rw [z0b] at h;exact h):=rfl
def z0O (l:List UInt8) (j:Nat):Bool:=(l.getD (j / 8) 0).toNat.testBit (7 - j % 8)
def acc (k D:Nat) (m:Nat->Bool):Nat->Nat->Bool
 | 0,_=>false
 | i+1,j=>acc k D m i j ^^ ((m i ^^ acc k D m i i) && (decide (i<=j) && decide (j<=i+k) && D.testBit (k - (j - i))))
theorem z9S (k D:Nat) (m:Nat->Bool):∀ i j,i+k<=j->acc k D m i j=false
 | 0,_,_=>rfl
 | i+1,j,h=>by
  have h1:=z9S k D m i j zU;have h2:decide (j<=i+k)=false:=by simp;omega
  simp [acc,h1,h2]
def Good (k D:Nat) (m:Nat->Bool) (i e R:Nat):Prop :=
 R < 2 ^ k/\∀ p,p < k->R.testBit p=(acc k D m i (i+(k - 1 - p)) ^^ (decide (i+(k - 1 - p) < e) && m (i+(k - 1 - p))))
theorem z8K (k D:Nat) (m:Nat->Bool):Good k D m 0 0 0 :=
 ⟨Nat.two_pow_pos _,fun p _=>by simp [acc]⟩
theorem y5S {k D:Nat} {m:Nat->Bool} {i e R S:Nat} (h:Good k D m i e R) (g:Good k D m i e S):R=S:=by
 refine Nat.eq_of_testBit_eq fun p=>?_
 by_cases hp:p < k
 . rw [h.2 p hp,g.2 p hp]
 . have e1:R.testBit p=false:=Nat.testBit_lt_two_pow (zP h.1 (zE zU zU))
   have e2:S.testBit p=false:=Nat.testBit_lt_two_pow (zP g.1 (zE zU zU));rw [e1,e2]
theorem z6P {k D:Nat} {m:Nat->Bool} {i R c:Nat} (hk:8<=k) (hc:c < 256) (hm:∀ x,x < 8->m (i+x)=c.testBit (7 - x))
 (h:Good k D m i i R):Good k D m i (i+8) (R ^^^ c * 2 ^ (k - 8)):=by
 have hb:c * 2 ^ (k - 8) < 2 ^ k:=by
  have e:2 ^ k=256 * 2 ^ (k - 8):=by
   have:k=8+(k - 8):=zU
   rw [this,Nat.pow_add];simp
  rw [e];exact Nat.mul_lt_mul_of_pos_right hc (Nat.two_pow_pos _)
 refine ⟨Nat.xor_lt_two_pow h.1 hb,fun p hp=>?_⟩;rw [Nat.testBit_xor,h.2 p hp,Nat.mul_comm,Nat.testBit_two_pow_mul]
 by_cases hq:k - 8<=p
 . have e1:i+(k - 1 - p) < i+8:=zU
   have e2:decide (i+(k - 1 - p) < i)=false:=zM zU;have e3:=hm (k - 1 - p) zU;have e4:7 - (k - 1 - p)=p - (k - 8):=zU
   rw [e4] at e3;simp [e1,e2,e3,hq]
 . have e1:¬ i+(k - 1 - p) < i+8:=zU
   have e2:decide (i+(k - 1 - p) < i)=false:=zM zU;simp [e1,e2,hq]
theorem y3O {k R:Nat} (hk:1<=k) (h:R < 2 ^ k):(R * 2 / 2 ^ k=1)↔R.testBit (k - 1)=true:=by
 have e:2 ^ k=2 * 2 ^ (k - 1):=by
  have:k=(k - 1)+1:=zU
  rw [this,Nat.pow_succ];simp [Nat.mul_comm]
 have e2:R * 2 / 2 ^ k=R / 2 ^ (k - 1):=by
  rw [e,Nat.mul_comm R 2,Nat.mul_div_mul_left _ _ zR]
 rw [e2,Nat.testBit_eq_decide_div_mod_eq];have lt:R / 2 ^ (k - 1) < 2:=by
  rw [Nat.div_lt_iff_lt_mul (Nat.two_pow_pos _)];omega
 have:R / 2 ^ (k - 1) % 2=R / 2 ^ (k - 1):=Nat.mod_eq_of_lt lt;rw [this];simp
theorem z7A (R p:Nat):(R * 2).testBit p=(decide (1<=p) && R.testBit (p - 1)):=by
 have:=Nat.testBit_two_pow_mul (i:=1) (a:=R) (j:=p);rw [Nat.mul_comm];simpa using this
theorem y1j {k D:Nat} {m:Nat->Bool} {i e R:Nat} (hk:8<=k) (hD:D < 2 ^ (k+1)) (hD1:D.testBit k=true) (hi:i < e) (he:e<=i+8)
 (h:Good k D m i e R) (ht:R * 2 / 2 ^ k=1):Good k D m (i+1) e ((R * 2) ^^^ D):=by
 have top:R.testBit (k - 1)=true:=(y3O zU h.1).1 ht;have t2:=h.2 (k - 1) zU;rw [top] at t2;have z:k - 1 - (k - 1)=0:=zU
 rw [z,Nat.add_zero] at t2;have t3:(m i ^^ acc k D m i i)=true:=by
  rw [t2];simp [hi,Bool.xor_comm]
 constructor
 . have b1:(R * 2) ^^^ D < 2 ^ (k+1):=Nat.xor_lt_two_pow (by rw [Nat.pow_succ];have:=h.1;omega) hD
   apply Nat.lt_pow_two_of_testBit;intro p hp
   by_cases e:p=k
   . subst e
     rw [Nat.testBit_xor,hD1,z7A,top];simp;omega
   . exact Nat.testBit_lt_two_pow (zP b1 (zE zU zU))
 . intro p hp
   have e1:i+1+(k - 1 - p)=i+(k - p):=zU
   rw [Nat.testBit_xor,z7A,e1];have e2:acc k D m (i+1) (i+(k - p))=(acc k D m i (i+(k - p)) ^^ D.testBit p):=by
    have a1:i<=i+(k - p):=zU
    have a2:i+(k - p)<=i+k:=zU
    have a3:k - (i+(k - p) - i)=p:=zU
    simp only [acc,t3,a3];simp
   rw [e2]
   by_cases hp0:1<=p
   . have e3:=h.2 (p - 1) zU
     have e4:k - 1 - (p - 1)=k - p:=zU
     rw [e4] at e3;rw [e3];simp only [hp0,decide_true,Bool.true_and];cases acc k D m i (i+(k - p)) <;> cases D.testBit p <;> cases (decide (i+(k - p) < e) && m (i+(k - p))) <;> rfl
   . have e3:p=0:=zU
     subst e3;have e4:acc k D m i (i+(k - 0))=false:=z9S _ _ _ _ _ zU;have e5:decide (i+(k - 0) < e)=false:=zM zU;rw [e4,e5];simp
theorem y3P {k D:Nat} {m:Nat->Bool} {i e R:Nat} (hk:8<=k) (hi:i < e) (he:e<=i+8)
 (h:Good k D m i e R) (ht:¬ R * 2 / 2 ^ k=1):Good k D m (i+1) e (R * 2):=by
 have top:R.testBit (k - 1)=false:=by
  cases hh:R.testBit (k - 1) with
  | false=>rfl
  | true=>exact absurd ((y3O zU h.1).2 hh) ht
 have t2:=h.2 (k - 1) zU;rw [top] at t2;have z:k - 1 - (k - 1)=0:=zU
 rw [z,Nat.add_zero] at t2;have t3:(m i ^^ acc k D m i i)=false:=by
  rw [t2];simp [hi,Bool.xor_comm]
 constructor
 . have b1:R * 2 < 2 ^ (k+1):=by rw [Nat.pow_succ];have:=h.1;omega
   apply Nat.lt_pow_two_of_testBit;intro p hp
   by_cases e:p=k
   . subst e
     rw [z7A,top];simp
   . exact Nat.testBit_lt_two_pow (zP b1 (zE zU zU))
 . intro p hp
   have e1:i+1+(k - 1 - p)=i+(k - p):=zU
   rw [z7A,e1];have e2:acc k D m (i+1) (i+(k - p))=acc k D m i (i+(k - p)):=by
    simp only [acc,t3];simp
   rw [e2]
   by_cases hp0:1<=p
   . have e3:=h.2 (p - 1) zU
     have e4:k - 1 - (p - 1)=k - p:=zU
     rw [e4] at e3;rw [e3];simp [hp0]
   . have e3:p=0:=zU
     subst e3;have e4:acc k D m i (i+(k - 0))=false:=z9S _ _ _ _ _ zU;have e5:decide (i+(k - 0) < e)=false:=zM zU;rw [e4,e5];simp
theorem z5J (l:List UInt8) (k x:Nat) (hx:x < 8):z0O l (8 * k+x)=(l.getD k 0).toNat.testBit (7 - x):=by
 unfold z0O;have h1:(8 * k+x) / 8=k:=zU
 have h2:(8 * k+x) % 8=x:=zU
 rw [h1,h2]
theorem z3W (l:List UInt8) (j:Nat) (h:8 * l.length<=j):z0O l j=false:=by
 unfold z0O;have:l.getD (j / 8) 0=0:=by
  rw [List.getD_eq_getElem?_getD,List.getElem?_eq_none zU];rfl
 rw [this];simp
theorem z3X (f:Nat->Bool):∀ n p,p < n->(z0C f n).testBit p=f (n - 1 - p)
 | 0,_,h=>absurd h zU
 | n+1,0,_=>by
  simp only [z0C,Nat.testBit_zero];cases h:f n <;> simp [h] <;> omega
 | n+1,p+1,h=>by
  have ih:=z3X f n p zU;have e:(2 * z0C f n+(f n).toNat) / 2=z0C f n:=by
   have:(f n).toNat<=1:=Bool.toNat_le _;omega
  simp only [z0C,Nat.testBit_succ,e,ih]
  congr 1;omega
theorem z8L {k D:Nat} {m:Nat->Bool} {L:Nat} (hm:∀ j,L<=j->m j=false):Good k D m L L (z0C (fun x=>m (L+x) ^^ acc k D m L (L+x)) k):=by
 refine ⟨z2k _ _,fun p hp=>?_⟩;rw [z3X _ _ _ hp];have:=hm (L+(k - 1 - p)) zU;simp [this]
open Go.RowKit
theorem z7B (a b:Nat) (ha:a < 4294967296) (hb:b < 4294967296):bits .xor .i64 (a:Int) (b:Int)=((a ^^^ b:Nat):Int):=by
 have hx:a ^^^ b < 2 ^ 32:=Nat.xor_lt_two_pow zU zU;have h1:(BitVec.ofInt 64 (a:Int)).toNat=a:=by
  rw [BitVec.ofInt_natCast,BitVec.toNat_ofNat];exact Nat.mod_eq_of_lt zU
 have h2:(BitVec.ofInt 64 (b:Int)).toNat=b:=by
  rw [BitVec.ofInt_natCast,BitVec.toNat_ofNat];exact Nat.mod_eq_of_lt zU
 show I.wrap ((BitVec.ofInt 64 (a:Int) ^^^ BitVec.ofInt 64 (b:Int)).toNat:Int)=_
 rw [BitVec.toNat_xor,h1,h2,zK];omega
theorem z5K (s:ByteArray) (k:Nat) (h:k < s.size):s.data.toList.getD k 0=s[k]:=by
 rw [List.getD_eq_getElem?_getD,List.getElem?_eq_getElem (by simpa using h)];rfl
set_option maxHeartbeats 400000 in
theorem y5T (s:ByteArray) (w:World) (hs:s.size<=2097152) :
 Calls prog 250 #[.string s,O I 8,O I 263] w fun e w'=>∃ R:Nat,e=.returned (O I R)/\Good 8 263 (z0O s.data.toList) (8 * s.size) (8 * s.size) R/\w'=w:=by
 go_enter func250,ntmps250
 go_wp2
 go_loop [7,11] (fun n i=>∃ k:Nat,∃ R:Nat,k<=s.size/\i=O I k/\n=O I R/\Good 8 263 (z0O s.data.toList) (8 * k) (8 * k) R) (fun _ i=>s.size - (intOf i).toNat)
 case atStart=>exact ⟨0,0,zJ _,rfl,rfl,z8K _ _ _⟩
 case round =>
  obtain ⟨k,R,hk,rfl,rfl,hG⟩:=hrel
  by_cases hlt:k < s.size
  . have hc:s[k].toNat < 256:=UInt8.toNat_lt _
    have hR:R < 256:=hG.1;have HG:Hid (Good 8 263 (z0O s.data.toList) (8 * k) (8 * k+8) (R ^^^ s[k].toNat)):=by
     have:=z6P (c:=s[k].toNat) zR hc (fun x hx=>by rw [z5J _ _ _ hx,z5K s k hlt]) hG
     show Good _ _ _ _ _ _
     simpa using this
    clear hG;have hx:=z7B R s[k].toNat zU zU;go_wp2
    go_loop [7,23] (fun n i=>∃ t:Nat,∃ R:Nat,t<=8/\i=O I t/\n=O I R/\Good 8 263 (z0O s.data.toList) (8 * k+t) (8 * k+8) R) (fun _ i=>8 - (intOf i).toNat)
    case atStart=>exact ⟨0,_,zJ _,rfl,rfl,HG.out⟩
    case round =>
     obtain ⟨t,Q,ht,rfl,rfl,hQ⟩:=hrel;clear hx HG
     by_cases hlt8:t < 8
     . have hQb:Q < 256:=hQ.1
       have hx2:=z7B (Q * 2) 263 zU zU;have HQ:Hid (Good 8 263 (z0O s.data.toList) (8 * k+t) (8 * k+8) Q):=hQ;clear hQ;go_wp2
       . have hh:((Q:Int) * 2 / 256 == 1)=true:=by assumption
         go_round
         case rel =>
          refine ⟨t+1,_,zU,zS,by simp only [Int.natCast_mul] at hx2;exact congrArg _ hx2,y1j (i:=8 * k+t) zR zR zR zU zU HQ.out ?_⟩;simp at hh;omega
         case measure=>simp [intOf];omega
       . have hh:((Q:Int) * 2 / 256 == 1)=false:=by assumption
         go_round
         case rel =>
          refine ⟨t+1,Q * 2,zU,zS,zS,y3P (i:=8 * k+t) zR zU zU HQ.out ?_⟩;simp at hh;omega
         case measure=>simp [intOf];omega
     . have e:t=8:=zU
       subst e;have HQ:Hid (Good 8 263 (z0O s.data.toList) (8 * k+8) (8 * k+8) Q):=hQ;clear hQ;go_wp2
       go_round
       case rel=>exact ⟨k+1,Q,zU,zS,rfl,HQ.out⟩
       case measure=>simp [intOf];omega
  . have e:k=s.size:=zU
    subst e;have HG:Hid (Good 8 263 (z0O s.data.toList) (8 * s.size) (8 * s.size) R):=hG;clear hG;go_wp2;go_ret;exact ⟨R,rfl,HG.out,rfl⟩
set_option maxHeartbeats 400000 in
theorem y3Q (s:ByteArray) (w:World) (hs:s.size<=2097152) :
 Calls prog 250 #[.string s,O I 16,O I 98309] w fun e w'=>∃ R:Nat,e=.returned (O I R)/\Good 16 98309 (z0O s.data.toList) (8 * s.size) (8 * s.size) R/\w'=w:=by
 go_enter func250,ntmps250
 go_wp2
 go_loop [7,11] (fun n i=>∃ k:Nat,∃ R:Nat,k<=s.size/\i=O I k/\n=O I R/\Good 16 98309 (z0O s.data.toList) (8 * k) (8 * k) R) (fun _ i=>s.size - (intOf i).toNat)
 case atStart=>exact ⟨0,0,zJ _,rfl,rfl,z8K _ _ _⟩
 case round =>
  obtain ⟨k,R,hk,rfl,rfl,hG⟩:=hrel
  by_cases hlt:k < s.size
  . have hc:s[k].toNat < 256:=UInt8.toNat_lt _
    have hR:R < 65536:=hG.1;have HG:Hid (Good 16 98309 (z0O s.data.toList) (8 * k) (8 * k+8) (R ^^^ s[k].toNat * 256)):=by
     have:=z6P (c:=s[k].toNat) zR hc (fun x hx=>by rw [z5J _ _ _ hx,z5K s k hlt]) hG
     show Good _ _ _ _ _ _
     simpa using this
    clear hG;have hx:=z7B R (s[k].toNat * 256) zU zU;go_wp2
    go_loop [7,23] (fun n i=>∃ t:Nat,∃ R:Nat,t<=8/\i=O I t/\n=O I R/\Good 16 98309 (z0O s.data.toList) (8 * k+t) (8 * k+8) R) (fun _ i=>8 - (intOf i).toNat)
    case atStart =>
     refine ⟨0,_,zJ _,rfl,?_,HG.out⟩;simp only [Int.natCast_mul] at hx;exact congrArg _ hx
    case round =>
     obtain ⟨t,Q,ht,rfl,rfl,hQ⟩:=hrel;clear hx HG
     by_cases hlt8:t < 8
     . have hQb:Q < 65536:=hQ.1
       have hx2:=z7B (Q * 2) 98309 zU zU;have HQ:Hid (Good 16 98309 (z0O s.data.toList) (8 * k+t) (8 * k+8) Q):=hQ;clear hQ;go_wp2
       . have hh:((Q:Int) * 2 / 65536 == 1)=true:=by assumption
         go_round
         case rel =>
          refine ⟨t+1,_,zU,zS,by simp only [Int.natCast_mul] at hx2;exact congrArg _ hx2,y1j (i:=8 * k+t) zR zR zR zU zU HQ.out ?_⟩;simp at hh;omega
         case measure=>simp [intOf];omega
       . have hh:((Q:Int) * 2 / 65536 == 1)=false:=by assumption
         go_round
         case rel =>
          refine ⟨t+1,Q * 2,zU,zS,zS,y3P (i:=8 * k+t) zR zU zU HQ.out ?_⟩;simp at hh;omega
         case measure=>simp [intOf];omega
     . have e:t=8:=zU
       subst e;have HQ:Hid (Good 16 98309 (z0O s.data.toList) (8 * k+8) (8 * k+8) Q):=hQ;clear hQ;go_wp2
       go_round
       case rel=>exact ⟨k+1,Q,zU,zS,rfl,HQ.out⟩
       case measure=>simp [intOf];omega
  . have e:k=s.size:=zU
    subst e;have HG:Hid (Good 16 98309 (z0O s.data.toList) (8 * s.size) (8 * s.size) R):=hG;clear hG;go_wp2;go_ret;exact ⟨R,rfl,HG.out,rfl⟩
theorem y8H:(prog.info? 5).map (fun i=>(i.zero,i.size,i.bytes))=some (some (.int .u8 0),1,1):=zT
def lv (b:Bool):Int:=if b then 49 else 48
theorem y9B (b:Bool):48<=lv b:=by cases b <;> decide
theorem y9C (b:Bool):lv b<=49:=by cases b <;> decide
theorem y3R (b:Bool):lv b=((ltr b).toNat:Int):=by cases b <;> rfl
theorem y8I (b:Bool):97 - lv b=lv (!b):=by cases b <;> rfl
def z1D (m:Nat->Bool) (i j:Nat):Int:=if j < i then lv (m j) else 0
theorem z5L (m:Nat->Bool) (k:Nat):z1D m (k+1) k=lv (m k):=by unfold z1D;rw [if_pos zU]
theorem z3t (m:Nat->Bool) (k j:Nat) (h:j ≠ k):z1D m (k+1) j=z1D m k j:=by
 unfold z1D
 by_cases e:j < k
 . rw [if_pos e,if_pos zU]
 . rw [if_neg e,if_neg zU]
theorem RowB.one {w:World} {b n k:Nat} {m:Nat->Bool} (h:RowB w b n (z1D m k)) (hk:k < n) (hm:m k=true) :
 RowB ((w.setCell ⟨b,k,none⟩ (.int .u8 48)).setCell ⟨b,k,none⟩ (.int .u8 49)) b n (z1D m (k+1)):=by
 have h1:RowB (w.setCell ⟨b,k,none⟩ (.int .u8 48)) b n (fun j=>if j=k then 48 else z1D m k j) :=
  h.set k 48 hk (by simp) (fun j _ hj=>by simp [hj])
 refine h1.set k 49 hk (by rw [z5L,hm];rfl) (fun j _ hj=>?_);rw [z3t _ _ _ hj];simp [hj]
theorem RowB.nought {w:World} {b n k:Nat} {m:Nat->Bool} (h:RowB w b n (z1D m k)) (hk:k < n) (hm:m k=false) :
 RowB (w.setCell ⟨b,k,none⟩ (.int .u8 48)) b n (z1D m (k+1)) :=
 h.set k 48 hk (by rw [z5L,hm];rfl) (fun j _ hj=>z3t _ _ _ hj)
set_option maxRecDepth 4000 in
set_option maxHeartbeats 1000000 in
theorem z8M (s:ByteArray) (w:World) (hs:s.size<=2097152) :
 Calls prog 217 #[.string s] w fun e w'=>e=.returned (.string (z3p (fun j=>ltr (z0O s.data.toList j)) (8 * s.size)))/\Up w w':=by
 obtain ⟨i0,hi,hz0,hz1,hz2⟩:=info_parts y8H;have hmk:∀ u:World,(Instr.makeSlice 33 (O I (8 * (s.size:Int))) (O I (8 * (s.size:Int)))).run prog u =
     .ok (.slice (some ⟨u.heap.size,0,none⟩) (8 * s.size) (8 * s.size)) (u.alloc (.cells (madeCells #[.int .u8 0] (8 * s.size)) 5)):=fun u=>by
  have h:=run_make (P:=prog) u 33 5 i0 (.int .u8 0) underlying33 hi hz0 .i64 .i64 (8 * (s.size:Int)) (8 * (s.size:Int)) zU (Int.le_refl _) (by rw [hz2];omega) zU;have e:(8 * (s.size:Int)).toNat=8 * s.size:=zU
  rw [e] at h
  simpa [hz1,Value.cells] using h
 go_enter func217,ntmps217
 go_wp2;clear hmk
 go_loopw [4] (fun i wr=>∃ k:Nat,k<=8 * s.size/\i=O I k/\Up w wr/\w.heap.size < wr.heap.size/\RowB wr w.heap.size (8 * s.size) (z1D (z0O s.data.toList) k)) (fun i _=>8 * s.size - (intOf i).toNat)
 case atStart =>
  refine ⟨0,zJ _,rfl,(Up.refl _).alloc _ _,by simp,?_⟩;exact RowB.made w _ _
 case round =>
  obtain ⟨k,hk,rfl,hup,hsz,hrow⟩:=hrel
  by_cases hlt:k < 8 * s.size
  . have hc1:wr.cell? ⟨w.heap.size,k,none⟩=some (.int .u8 (z1D (z0O s.data.toList) k k)):=hrow k hlt
    have hf1:wr.frozen? ⟨w.heap.size,k,none⟩=false:=hup.free zY;have hq0:0<=(k:Int) / 8:=zU
    have hq1:(k:Int) / 8 < (s.size:Int):=zU
    have hq2:I.wrap ((k:Int) / 8)=(k:Int) / 8:=by rw [zK];omega
    have hq3:k / 8 < s.size:=zU
    have hq4:s[k / 8].toNat < 256:=UInt8.toNat_lt _;have hq5:(1:Int)<=2 ^ (7 - k % 8):=by have:0 < 2 ^ (7 - k % 8):=Nat.two_pow_pos _;exact_mod_cast this
    have hq6:(2:Int) ^ (7 - k % 8)<=128:=by have:2 ^ (7 - k % 8)<=2 ^ 7:=zE zU zU;exact_mod_cast this
    have hq7:0<=(s[k / 8].toNat:Int) / 2 ^ (7 - k % 8):=Int.ediv_nonneg zU zU;have hq8:(s[k / 8].toNat:Int) / 2 ^ (7 - k % 8)<=255:=Int.le_trans (Int.ediv_le_self _ zU) zU;have hbit:((s[k / 8].toNat:Int) / 2 ^ (7 - k % 8) % 2 == 1)=z0O s.data.toList k:=by
     unfold z0O;rw [z5K s _ hq3,Nat.testBit_eq_decide_div_mod_eq,Bool.eq_iff_iff];simp only [beq_iff_eq,decide_eq_true_eq];constructor
     . intro h;exact_mod_cast h
     . intro h;exact_mod_cast h
    by_cases hb:z0O s.data.toList k=true
    . rw [hb] at hbit
      go_wp2
      go_region
      all_goals go_wp2
      all_goals go_roundw
      case rel=>exact ⟨k+1,zU,zS,((hup.setCell zY _).setCell zY _).drew,by simpa using hsz,(hrow.one hlt hb).drew⟩
      case measure=>simp [intOf];omega
    . have hb':z0O s.data.toList k=false:=by simpa using hb
      rw [hb'] at hbit;go_wp2
      go_region
      all_goals go_wp2
      all_goals go_roundw
      case rel=>exact ⟨k+1,zU,zS,(hup.setCell zY _).drew,by simpa using hsz,(hrow.nought hlt hb').drew⟩
      case measure=>simp [intOf];omega
  . have hcv:=z0F (P:=prog) wr 33 9 5 w.heap.size 0 (8 * s.size) (8 * s.size) (fun j=>ltr (z0O s.data.toList j)) underlying33 underlying5 underlying9 (fun j hj=>by
      rw [Nat.zero_add,hrow j hj];unfold z1D;rw [if_pos zU,y3R])
    go_wp2;go_ret;exact ⟨rfl,hup⟩
def z2e (K D:Nat) (m:Nat->Bool) (i x:Nat):Int:=lv (m x ^^ acc K D m i x)
def z4L (K D:Nat) (m:Nat->Bool) (L x:Nat):Bool:=m (L+x) ^^ acc K D m L (L+x)
def z3o (K D:Nat) (m:Nat->Bool) (i j x:Nat):Int:=lv (m x ^^ acc K D m i x ^^ (decide (i<=x) && decide (x < i+j) && D.testBit (K - (x - i))))
theorem y2d (K D:Nat) (m:Nat->Bool) (i x:Nat):z3o K D m i 0 x=z2e K D m i x:=by
 unfold z3o z2e;have:(decide (i<=x) && decide (x < i+0))=false:=by simp
 rw [this];simp
theorem z5M (K D:Nat) (m:Nat->Bool) (i j x:Nat) (h:x ≠ i+j):z3o K D m i (j+1) x=z3o K D m i j x:=by
 unfold z3o;have:decide (x < i+(j+1))=decide (x < i+j):=by rw [decide_eq_decide];omega
 rw [this]
theorem y3S (K D:Nat) (m:Nat->Bool) (i j:Nat) (h:D.testBit (K - j)=true):z3o K D m i (j+1) (i+j)=97 - z3o K D m i j (i+j):=by
 unfold z3o;have a:i+j - i=j:=zU
 rw [y8I,a,h];have b:decide (i+j < i+(j+1))=true:=zL zU;have c:decide (i+j < i+j)=false:=zM zU;have d:decide (i<=i+j)=true:=zL zU;rw [b,c,d];cases m (i+j) <;> cases acc K D m i (i+j) <;> rfl
theorem y5U (K D:Nat) (m:Nat->Bool) (i j x:Nat) (h:D.testBit (K - j)=false):z3o K D m i (j+1) x=z3o K D m i j x:=by
 by_cases e:x=i+j
 . subst e
   unfold z3o;have a:i+j - i=j:=zU
   rw [a,h];simp
 . exact z5M K D m i j x e
theorem y2e (K D:Nat) (m:Nat->Bool) (i x:Nat) (h:(m i ^^ acc K D m i i)=true):z3o K D m i (K+1) x=z2e K D m (i+1) x:=by
 unfold z3o z2e;simp only [acc,h];have:decide (x < i+(K+1))=decide (x<=i+K):=by rw [decide_eq_decide];omega
 rw [this];simp
theorem y3T (K D:Nat) (m:Nat->Bool) (i x:Nat) (h:(m i ^^ acc K D m i i)=false):z2e K D m (i+1) x=z2e K D m i x:=by
 unfold z2e;simp only [acc,h];simp
theorem z9T (K D:Nat) (m:Nat->Bool) (x n:Nat) (h:x < n):z2e K D m 0 x=z1D m n x:=by
 unfold z2e z1D;rw [if_pos h];simp [acc]
theorem RowB.congr {w:World} {b n:Nat} {f g:Nat->Int} (h:RowB w b n f) (e:∀ j,j < n->g j=f j):RowB w b n g :=
 fun j hj=>by rw [h j hj,e j hj]
theorem RowB.put {w:World} {b n k:Nat} {m:Nat->Bool} {v:Int} (h:RowB w b n (z1D m k)) (hk:k < n) (hv:v=lv (m k)) :
 RowB ((w.setCell ⟨b,k,none⟩ (.int .u8 48)).setCell ⟨b,k,none⟩ (.int .u8 v)) b n (z1D m (k+1)):=by
 have h1:RowB (w.setCell ⟨b,k,none⟩ (.int .u8 48)) b n (fun j=>if j=k then 48 else z1D m k j) :=
  h.set k 48 hk (by simp) (fun j _ hj=>by simp [hj])
 refine h1.set k v hk (by rw [z5L,hv]) (fun j _ hj=>?_);rw [z3t _ _ _ hj];simp [hj]
theorem y7k (b:Bool):((ltr b).toNat:Int)=lv b:=(y3R b).symm
theorem y3U (b:Bool):(lv b == 49)=b:=by cases b <;> rfl
set_option maxRecDepth 4000 in
set_option maxHeartbeats 2000000 in
theorem y1k (t by':ByteArray) (w:World) (K D:Nat) (m:Nat->Bool) (ht:t.size<=16777216) (hK0:1<=K) (hK:K<=16) (hby:by'.size=K+1)
 (htm:∀ j (h:j < t.size),t[j]=ltr (m j)) (hm:∀ j,t.size<=j->m j=false) (hbm:∀ j (h:j < by'.size),by'[j]=ltr (D.testBit (K - j))) :
 Calls prog 218 #[.string t,.string by'] w fun e w'=>e=.returned (O I (z0C (z4L K D m t.size) K))/\Up w w':=by
 obtain ⟨i0,hi,hz0,hz1,hz2⟩:=info_parts y8H;have hmk:∀ u:World,(Instr.makeSlice 33 (O I ((t.size:Int)+(K:Int))) (O I ((t.size:Int)+(K:Int)))).run prog u =
     .ok (.slice (some ⟨u.heap.size,0,none⟩) (t.size+K) (t.size+K)) (u.alloc (.cells (madeCells #[.int .u8 0] (t.size+K)) 5)):=fun u=>by
  have h:=run_make (P:=prog) u 33 5 i0 (.int .u8 0) underlying33 hi hz0 .i64 .i64 ((t.size:Int)+(K:Int)) ((t.size:Int)+(K:Int)) zU (Int.le_refl _) (by rw [hz2];omega) zU;have e:((t.size:Int)+(K:Int)).toNat=t.size+K:=zU
  rw [e] at h
  simpa [hz1,Value.cells] using h
 have hk1:(by'.size:Int) - 1=(K:Int):=zU
 have HBY:Hid (by'.size=K+1):=hby;have HTM:Hid (∀ j (h:j < t.size),t[j]=ltr (m j)):=htm;have HBM:Hid (∀ j (h:j < by'.size),by'[j]=ltr (D.testBit (K - j))):=hbm;have HM:Hid (∀ j,t.size<=j->m j=false):=hm;clear hby hi hz0 hz1 hz2 htm hbm hm
 go_enter func218,ntmps218
 go_wp2;clear hmk
 go_loopw [7] (fun i wr=>∃ k:Nat,k<=t.size+K/\i=O I k/\Up w wr/\w.heap.size < wr.heap.size/\RowB wr w.heap.size (t.size+K) (z1D m k)) (fun i _=>t.size+K - (intOf i).toNat)
 case atStart =>
  refine ⟨0,zJ _,rfl,(Up.refl _).alloc _ _,by simp,?_⟩;exact RowB.made w _ _
 case round =>
  obtain ⟨k,hk,rfl,hup,hsz,hrow⟩:=hrel
  by_cases hlt:k < t.size+K
  . have hc1:wr.cell? ⟨w.heap.size,k,none⟩=some (.int .u8 (z1D m k k)):=hrow k hlt
    have hf1:wr.frozen? ⟨w.heap.size,k,none⟩=false:=hup.free zY
    by_cases hkt:k < t.size
    . have HV:Hid ((t[k].toNat:Int)=lv (m k)):=by show _=_;rw [HTM.out k hkt,y7k]
      go_wp2
      go_roundw
      case rel=>exact ⟨k+1,zU,zS,((hup.setCell zY _).setCell zY _),by simpa using hsz,hrow.put hlt HV.out⟩
      case measure=>simp [intOf];omega
    . have HM1:Hid (m k=false):=HM.out k zU
      go_wp2
      go_roundw
      case rel=>exact ⟨k+1,zU,zS,hup.setCell zY _,by simpa using hsz,hrow.nought hlt HM1.out⟩
      case measure=>simp [intOf];omega
  . have e:k=t.size+K:=zU
    subst e;have HR:Hid (RowB wr w.heap.size (t.size+K) (z2e K D m 0)):=hrow.congr fun j hj=>z9T K D m j _ hj
    clear hrow;clear hk hlt;go_wp2
    go_loopw [8] (fun i wr=>∃ k:Nat,k<=t.size/\i=O I k/\Up w wr/\w.heap.size < wr.heap.size/\RowB wr w.heap.size (t.size+K) (z2e K D m k)) (fun i _=>t.size - (intOf i).toNat)
    case atStart=>exact ⟨0,zJ _,rfl,hup,hsz,HR.out⟩
    case round =>
     clear HR hup hsz;obtain ⟨i,hit,rfl,hup,hsz,hrow⟩:=hrel
     by_cases hlt:i < t.size
     . have hc1:wr.cell? ⟨w.heap.size,i,none⟩=some (.int .u8 (z2e K D m i i)):=hrow i zU
       have HB:Hid ((z2e K D m i i == 49)=(m i ^^ acc K D m i i)):=y3U _
       by_cases hb:(m i ^^ acc K D m i i)=true
       . have hb1:(z2e K D m i i == 49)=true:=by rw [HB.out,hb]
         have HI:Hid (RowB wr w.heap.size (t.size+K) (z3o K D m i 0)):=hrow.congr fun j _=>y2d K D m i j
         clear hrow;go_wp2
         go_loopw [9] (fun i' wr=>∃ j:Nat,j<=K+1/\i'=O I j/\Up w wr/\w.heap.size < wr.heap.size/\RowB wr w.heap.size (t.size+K) (z3o K D m i j)) (fun i' _=>K+1 - (intOf i').toNat)
         case atStart=>exact ⟨0,zJ _,rfl,hup,hsz,HI.out⟩
         case round =>
          clear HI hup hsz hc1 hb1;obtain ⟨j,hj,rfl,hup,hsz,hrow⟩:=hrel
          by_cases hjk:j<=K
          . have hjb:j < by'.size:=by rw [HBY.out];omega
            have HT:Hid (((by'[j].toNat:Int) == 49)=D.testBit (K - j)):=by show _=_;rw [HBM.out j hjb,y7k,y3U]
            have hc1:wr.cell? ⟨w.heap.size,i+j,none⟩=some (.int .u8 (z3o K D m i j (i+j))):=hrow (i+j) zU;have hf1:wr.frozen? ⟨w.heap.size,i+j,none⟩=false:=hup.free zY;have hl1:48<=z3o K D m i j (i+j):=y9B _;have hl2:z3o K D m i j (i+j)<=49:=y9C _
            by_cases hd:D.testBit (K - j)=true
            . have ht1:((by'[j].toNat:Int) == 49)=true:=by rw [HT.out,hd]
              go_wp2
              go_roundw
              case rel=>exact ⟨j+1,zU,zS,hup.setCell zY _,by simpa using hsz,hrow.set (i+j) _ zU (y3S K D m i j hd) (fun x _ hx=>z5M K D m i j x hx)⟩
              case measure=>simp [intOf];omega
            . have hd0:D.testBit (K - j)=false:=by simpa using hd
              have ht1:((by'[j].toNat:Int) == 49)=false:=by rw [HT.out,hd0]
              go_wp2
              go_roundw
              case rel=>exact ⟨j+1,zU,zS,hup,hsz,hrow.congr fun x _=>y5U K D m i j x hd0⟩
              case measure=>simp [intOf];omega
          . have e:j=K+1:=zU
            subst e;go_wp2
            go_roundw
            case rel=>exact ⟨i+1,zU,zS,hup,hsz,hrow.congr fun x _=>(y2e K D m i x hb).symm⟩
            case measure=>simp [intOf];omega
       . have hb0:(m i ^^ acc K D m i i)=false:=by simpa using hb
         have hb1:(z2e K D m i i == 49)=false:=by rw [HB.out,hb0]
         go_wp2
         go_roundw
         case rel=>exact ⟨i+1,zU,zS,hup,hsz,hrow.congr fun j _=>y3T K D m i j hb0⟩
         case measure=>simp [intOf];omega
     . have e:i=t.size:=zU
       subst e;have hcv:=z0F (P:=prog) wr 33 9 5 w.heap.size t.size K K (fun x=>ltr (z4L K D m t.size x)) underlying33 underlying5 underlying9 (fun j hj=>by
        rw [hrow _ zU];unfold z2e z4L;rw [y3R])
       have hnum:=fun u=>z4C (z3p (fun x=>ltr (z4L K D m t.size x)) K) u (by rw [z1r];omega) (z4L K D m t.size) (fun j h=>by rw [z5u])
       rw [z1r] at hnum
       go_wp2_with (go_at_call 261;refine (hnum _).mono ?_;rintro e w' ⟨rfl,rfl⟩)
       go_ret;exact ⟨rfl,hup⟩
def crc (k D:Nat) (l:List UInt8):Nat:=z0C (z4L k D (z0O l) (8 * l.length)) k
theorem y5V (k D:Nat) (l:List UInt8):Good k D (z0O l) (8 * l.length) (8 * l.length) (crc k D l) :=
 z8L fun j h=>z3W l j h
theorem y7l {k D R:Nat} {s:ByteArray} (h:Good k D (z0O s.data.toList) (8 * s.size) (8 * s.size) R):R=crc k D s.data.toList:=by
 have e:s.data.toList.length=s.size:=by simp
 rw [← e] at h;exact y5S h (y5V k D _)
theorem y3V (s:ByteArray) (w:World) (hs:s.size<=2097152) :
 Calls prog 216 #[.string s] w fun e w'=>e=.returned (O I (crc 8 263 s.data.toList))/\w'=w:=by
 go_enter func216,ntmps216
 go_wp2_with (go_at_call 250;refine (y5T _ _ hs).mono ?_;rintro e w' ⟨R,rfl,hG,rfl⟩)
 go_ret;exact ⟨z0q (by rw [y7l hG]),rfl⟩
theorem z9U (s:ByteArray) (w:World) (hs:s.size<=2097152) :
 Calls prog 196 #[.string s] w fun e w'=>e=.returned (O I (crc 16 98309 s.data.toList))/\w'=w:=by
 go_enter func196,ntmps196
 go_wp2_with (go_at_call 250;refine (y3Q _ _ hs).mono ?_;rintro e w' ⟨R,rfl,hG,rfl⟩)
 go_ret;exact ⟨z0q (by rw [y7l hG]),rfl⟩
theorem div8:∀ j (h:j < (ByteArray.mk #[49,48,48,48,48,48,49,49,49]).size),(ByteArray.mk #[49,48,48,48,48,48,49,49,49])[j]=ltr (Nat.testBit 263 (8 - j)):=zR
theorem y9D:∀ j (h:j < (ByteArray.mk #[49,49,48,48,48,48,48,48,48,48,48,48,48,48,49,48,49]).size),(ByteArray.mk #[49,49,48,48,48,48,48,48,48,48,48,48,48,48,49,48,49])[j]=ltr (Nat.testBit 98309 (16 - j)):=zR
theorem y5W (s:ByteArray) (w:World) (hs:s.size<=2097152) :
 Calls prog 150 #[.string s] w fun e w'=>e=.returned (O I (crc 8 263 s.data.toList))/\Up w w':=by
 have hl:=fun u=>y1k (z3p (fun j=>ltr (z0O s.data.toList j)) (8 * s.size)) ⟨#[49,48,48,48,48,48,49,49,49]⟩ u 8 263 (z0O s.data.toList)
  (by rw [z1r];omega) zR zR rfl (fun j h=>by rw [z5u]) (fun j h=>by rw [z1r] at h;exact z3W _ _ (by simpa using h)) div8
 rw [z1r] at hl;have HE:Hid (8 * s.size=8 * s.data.toList.length):=by show _=_;simp
 go_enter func150,ntmps150
 go_wp2_with (first | (go_at_call 217;refine (z8M _ _ hs).mono ?_;rintro e w1 ⟨rfl,hu1⟩) | (go_at_call 218;refine (hl _).mono ?_;rintro e w2 ⟨rfl,hu2⟩))
 go_ret;exact ⟨z0q (by unfold crc;rw [HE.out]),hu1.trans hu2⟩
theorem y3W (s:ByteArray) (w:World) (hs:s.size<=2097152) :
 Calls prog 152 #[.string s] w fun e w'=>e=.returned (O I (crc 16 98309 s.data.toList))/\Up w w':=by
 have hl:=fun u=>y1k (z3p (fun j=>ltr (z0O s.data.toList j)) (8 * s.size)) ⟨#[49,49,48,48,48,48,48,48,48,48,48,48,48,48,49,48,49]⟩ u 16 98309 (z0O s.data.toList)
  (by rw [z1r];omega) zR zR rfl (fun j h=>by rw [z5u]) (fun j h=>by rw [z1r] at h;exact z3W _ _ (by simpa using h)) y9D
 rw [z1r] at hl;have HE:Hid (8 * s.size=8 * s.data.toList.length):=by show _=_;simp
 go_enter func152,ntmps152
 go_wp2_with (first | (go_at_call 217;refine (z8M _ _ hs).mono ?_;rintro e w1 ⟨rfl,hu1⟩) | (go_at_call 218;refine (hl _).mono ?_;rintro e w2 ⟨rfl,hu2⟩))
 go_ret;exact ⟨z0q (by unfold crc;rw [HE.out]),hu1.trans hu2⟩
def inB (v k i:Nat):UInt8:=UInt8.ofNat (v / 256 ^ (k - 1 - i) % 256)
def inT (v k:Nat):List UInt8:=(List.range k).map (inB v k)
theorem z0d (v k:Nat):(inT v k).length=k:=by simp [inT]
theorem y1l (v k:Nat):z3p (inB v k) k=bs (inT v k):=rfl
theorem y7J (v k i:Nat):(inB v k i).toNat=v / 256 ^ (k - 1 - i) % 256:=by
 unfold inB;rw [UInt8.toNat_ofNat'];exact Nat.mod_eq_of_lt (zP (Nat.mod_lt _ zR) zR)
def tbit (t:List UInt8) (i:Nat):Bool:=t.getD i 48 == 49
theorem z8N (t:List UInt8) (i:Nat) (h:t.length<=i):tbit t i=false:=by
 unfold tbit;rw [List.getD_eq_getElem?_getD,List.getElem?_eq_none h];rfl
theorem y1m {t:List UInt8} (h:AllB t) (i:Nat) (hi:i < t.length):t[i]=ltr (tbit t i):=by
 unfold tbit;rw [List.getD_eq_getElem?_getD,List.getElem?_eq_getElem hi];rcases h _ (List.getElem_mem hi) with e | e <;> rw [Option.getD_some,e] <;> rfl
def pkN (t:List UInt8) (m k:Nat):Nat:=z0C (fun j=>decide (8 * k+j < m) && tbit t (8 * k+j)) 8
def pkB (t:List UInt8) (k:Nat):UInt8:=UInt8.ofNat (pkN t t.length k)
def z0L (t:List UInt8):List UInt8:=(List.range ((t.length+7) / 8)).map (pkB t)
theorem z5a (t:List UInt8):(z0L t).length=(t.length+7) / 8:=by simp [z0L]
theorem z6Q (t:List UInt8):z3p (pkB t) ((t.length+7) / 8)=bs (z0L t):=rfl
theorem y1n (t:List UInt8) (m k:Nat):pkN t m k < 256:=z2k _ 8
theorem y3X (t:List UInt8) (k:Nat):(pkB t k).toNat=pkN t t.length k:=by
 unfold pkB;rw [UInt8.toNat_ofNat'];exact Nat.mod_eq_of_lt (y1n _ _ _)
theorem y5X (t:List UInt8) (k:Nat):pkN t 0 k=0:=by
 unfold pkN;simp [z0C]
theorem z7C (t:List UInt8) (m k p:Nat):(pkN t m k).testBit p=(decide (p < 8) && (decide (8 * k+(7 - p) < m) && tbit t (8 * k+(7 - p)))):=by
 by_cases hp:p < 8
 . unfold pkN
   rw [z3X _ _ _ hp];have e:8 - 1 - p=7 - p:=rfl;rw [e];simp [hp]
 . rw [Nat.testBit_lt_two_pow (zP (y1n t m k) (zO (by decide:256<=2 ^ 8) (zE zU zU)))]
   simp [hp]
theorem y7K (b:Bool) (s p:Nat):(b.toNat * 2 ^ s).testBit p=(decide (p=s) && b):=by
 rw [Nat.mul_comm,Nat.testBit_two_pow_mul];cases b
 . simp
 . by_cases e:p=s
   . subst e;simp
   . by_cases h:s<=p
     . have:p - s=(p - s - 1)+1:=zU
       simp [h,e];rw [this,Nat.testBit_succ];simp
     . simp [h,e]
theorem y5Y (t:List UInt8) (m:Nat):pkN t m (m / 8) ||| (tbit t m).toNat * 2 ^ (7 - m % 8)=pkN t (m+1) (m / 8):=by
 apply Nat.eq_of_testBit_eq;intro p;rw [Nat.testBit_or,z7C,z7C,y7K]
 by_cases hp:p < 8
 . by_cases e:p=7 - m % 8
   . have e1:8 * (m / 8)+(7 - p)=m:=zU
     rw [e1];simp [e];intro h;omega
   . have e2:decide (8 * (m / 8)+(7 - p) < m+1)=decide (8 * (m / 8)+(7 - p) < m):=by rw [decide_eq_decide];omega
     rw [e2];simp [e]
 . have e:¬ p=7 - m % 8:=zU
   simp [hp,e]
theorem y3Y (t:List UInt8) (m k:Nat) (h:k ≠ m / 8):pkN t (m+1) k=pkN t m k:=by
 apply Nat.eq_of_testBit_eq;intro p;rw [z7C,z7C]
 by_cases hp:p < 8
 . have e2:decide (8 * k+(7 - p) < m+1)=decide (8 * k+(7 - p) < m):=by rw [decide_eq_decide];omega
   rw [e2]
 . simp [hp]
theorem z5N (f:Nat->Bool) (n:Nat):∀ m,(∀ i,n<=i->f i=false)->z0C f (n+m)=z0C f n * 2 ^ m
 | 0,_=>by simp
 | m+1,h=>by
  have e:=z5N f n m h;rw [← Nat.add_assoc,z0C,e,h (n+m) zU,Nat.pow_succ];simp [Nat.mul_comm,Nat.mul_assoc]
theorem y3Z (t:List UInt8) (k c:Nat) (hc:c<=8) (h:c=8∨t.length=8 * k+c) (h2:8 * k+c<=t.length):z0C (fun j=>tbit t (8 * k+j)) c * 2 ^ (8 - c)=pkN t t.length k:=by
 have e:pkN t t.length k=z0C (fun j=>tbit t (8 * k+j)) 8:=by
  unfold pkN
  congr 1
  funext j
  by_cases hj:8 * k+j < t.length
  . simp [hj]
  . rw [z8N _ _ zU];simp [hj]
 rw [e];rcases h with rfl | h
 . simp
 . have:=z5N (fun j=>tbit t (8 * k+j)) c (8 - c) (fun i hi=>z8N _ _ zU)
   rw [← this];congr 1;omega
def z2p (number len n mode:Nat):List UInt8:=inT 165 1 ++ inT number 2 ++ inT len 2 ++ inT (n - 1) 1 ++ inT mode 1
theorem z1E (number len n mode:Nat):(z2p number len n mode).length=7:=by simp [z2p,z0d]
def z1f (s:List UInt8):List UInt8:=s ++ inT (crc 8 263 s) 1
def z5b (s:List UInt8):List UInt8:=s ++ inT (crc 16 98309 s) 2
theorem z0Z (s:List UInt8):(z1f s).length=s.length+1:=by simp [z1f,z0d]
theorem z4o (s:List UInt8):(z5b s).length=s.length+2:=by simp [z5b,z0d]
def z5c (number n mode:Nat) (bits:List UInt8):List UInt8:=z5b (z1f (z2p number ((z0L bits).length+10) n mode) ++ z0L bits)
theorem z7D (number n mode:Nat) (bits:List UInt8):(z5c number n mode bits).length=(z0L bits).length+10:=by
 simp [z5c,z4o,z0Z,z1E];omega
def z2q (l r:Nat->Int) (j:Nat):Int:=l j - r j
def midL (l r:Nat->Int) (j:Nat):Int:=(l j+r j) / 2
def z2D (d:Nat) (l r:Nat->Int) (n m:Nat):List UInt8 :=
 if m=0 then subT d l n ++ subT d r n else if m=1 then subT d l n ++ subT (d+1) (z2q l r) n
 else if m=2 then subT (d+1) (z2q l r) n ++ subT d r n else subT d (midL l r) n ++ subT (d+1) (z2q l r) n
def z1w (T:Nat->List UInt8):Nat->Nat
 | 0=>0
 | m+1=>if m=0∨(T m).length < (T (z1w T m)).length then m else z1w T m
theorem y1o (T:Nat->List UInt8):∀ m,1<=m->z1w T m < m
 | 0,h=>absurd h zU
 | m+1,_=>by
  unfold z1w;split
  . omega
  . have:=y1o T m zU;omega
def allT (d:Nat) (F:Nat->Nat->Int) (N:Nat):Nat->List UInt8
 | 0=>[]
 | i+1=>allT d F N i ++ subT d (F i) N
def z1R (d n:Nat) (F:Nat->Nat->Int) (N:Nat):Nat:=if n=2 then z1w (z2D d (F 0) (F 1) N) 4 else 0
def z0y (d n:Nat) (F:Nat->Nat->Int) (N:Nat):List UInt8:=if n=2 then z2D d (F 0) (F 1) N (z1R d n F N) else allT d F N n
theorem y1p (d n:Nat) (F:Nat->Nat->Int) (N:Nat):z1R d n F N < 4:=by
 unfold z1R;split
 . exact y1o _ 4 zU
 . omega
theorem z3C (width:Nat) (l:Nat->Int) (n:Nat):8<=(subT width l n).length:=by rw [z5B];omega
theorem z1t (width:Nat) (l:Nat->Int) (n:Nat) (hn1:1<=n) (hn:n<=32) (hw:width<=13):(subT width l n).length<=424:=by
 have:=y7C width l n hn1;have h2:n * width<=32 * 13:=Nat.mul_le_mul hn hw;omega
theorem z7E (d:Nat) (l r:Nat->Int) (n m:Nat) (hn1:1<=n) (hn:n<=32) (hd:d<=12):16<=(z2D d l r n m).length/\(z2D d l r n m).length<=848:=by
 have a1:=z3C d l n;have a2:=z3C d r n;have a3:=z3C (d+1) (z2q l r) n;have a4:=z3C d (midL l r) n;have b1:=z1t d l n hn1 hn zU;have b2:=z1t d r n hn1 hn zU;have b3:=z1t (d+1) (z2q l r) n hn1 hn zU;have b4:=z1t d (midL l r) n hn1 hn zU;unfold z2D;split
 . rw [zN];omega
 . split
   . rw [zN];omega
   . split <;> (rw [zN];omega)
theorem y2f (d:Nat) (l r:Nat->Int) (n m:Nat):AllB (z2D d l r n m):=by
 unfold z2D;split
 . exact (z2o _ _ _).append (z2o _ _ _)
 . split
   . exact (z2o _ _ _).append (z2o _ _ _)
   . split <;> exact (z2o _ _ _).append (z2o _ _ _)
theorem z4M (d:Nat) (F:Nat->Nat->Int) (N:Nat) (hn1:1<=N) (hn:N<=32) (hd:d<=12):∀ i,8 * i<=(allT d F N i).length/\(allT d F N i).length<=424 * i
 | 0=>by simp [allT]
 | i+1=>by
  have:=z4M d F N hn1 hn hd i;have a1:=z3C d (F i) N;have b1:=z1t d (F i) N hn1 hn zU;simp only [allT,zN];omega
theorem z8O (d:Nat) (F:Nat->Nat->Int) (N:Nat):∀ i,AllB (allT d F N i)
 | 0=>fun c hc=>by cases hc
 | i+1=>(z8O d F N i).append (z2o _ _ _)
theorem z5O (d n:Nat) (F:Nat->Nat->Int) (N:Nat):AllB (z0y d n F N):=by
 unfold z0y;split
 . exact y2f _ _ _ _ _
 . exact z8O _ _ _ _
theorem z5P (d n:Nat) (F:Nat->Nat->Int) (N:Nat) (hn1:1<=N) (hn:N<=32) (hd:d<=12) (h1:1<=n) (h4:n<=4):8<=(z0y d n F N).length/\(z0y d n F N).length<=1696:=by
 unfold z0y;split
 . have:=z7E d (F 0) (F 1) N (z1R d n F N) hn1 hn hd;omega
 . have:=z4M d F N hn1 hn hd n;omega
theorem z5Q {d:Nat} {a b:Int} (hd:1<=d) (ha:z0A d a=true) (hb:z0A d b=true):z0A (d+1) (a - b)=true:=by
 unfold z0A at *;rw [z0J] at *;have e:(2:Int) ^ (d+1 - 1)=2 * 2 ^ (d - 1):=by
  have:d+1 - 1=(d - 1)+1:=zU
  rw [this,Int.pow_succ];omega
 rw [e];omega
theorem y1q {d:Nat} {a b:Int} (ha:z0A d a=true) (hb:z0A d b=true):z0A d ((a+b) / 2)=true:=by
 unfold z0A at *;rw [z0J] at *;omega
set_option maxHeartbeats 2000000 in
theorem z8P (A:Option Addr) (n c lo:Nat) (R:Nat->Int) (w:World) (hn:n<=32) (hR:∀ i,i < n->-1000000<=R (lo+i)/\R (lo+i)<=1000000) (hI:IntsAt w A n (fun i=>R (lo+i))) :
 Calls prog 327 #[.slice A n c] w fun e w'=>e=.returned (O I (parK (fun i=>z1o (R i)) lo n))/\∃ m,w'=w.drewN m:=by
 have HI:=zZ hI;have HR:=zZ hR;clear hI hR;have HPK:Hid (parK (fun i=>z1o (R i)) lo n=z1u (fun k=>plen (fun i=>z1o (R i)) k lo n) 14):=rfl;obtain ⟨F,hF⟩:∃ F:Nat->Nat,F=fun i=>z1o (R i):=⟨_,rfl⟩
 have HFE:Hid (∀ i,z1o (R i)=F i):=fun i=>by rw [hF]
 rw [← hF] at HPK ⊢;have HFB:Hid (∀ i,i < n->F (lo+i)<=2000000):=fun i hi=>by rw [← HFE.out];exact z3y _ 1000000 (HR.out i hi)
 clear hF;have HB:=zZ (fun (k:Nat) (hk:k<=14) (j:Nat) (hj:j<=n)=>zO (z2C F k lo 2000000 hk j (fun i hi=>HFB.out i zU)) (zD _ (show j<=32 by omega)))
 go_enter func327,ntmps327
 go_wp2
 go_loopw [3,4,5] (fun b s i wr=>∃ k:Nat,∃ bv sv:Int,k<=15/\i=O I k/\b=O I bv/\s=O I sv/\Hid ((k=0->sv=-1/\bv=0)/\∀ d,k=d+1->bv=(z1u (fun k=>plen F k lo n) d:Nat)/\sv=(plen F (z1u (fun k=>plen F k lo n) d) lo n:Nat))/\∃ m,wr=w.drewN m) (fun _ _ i _=>15 - (intOf i).toNat)
 case atStart=>exact ⟨0,0,-1,zU,rfl,rfl,rfl,⟨fun _=>⟨rfl,rfl⟩,fun d h=>absurd h zU⟩,0,rfl⟩
 case round =>
  obtain ⟨k,bv,sv,hk,rfl,rfl,rfl,HS,m,rfl⟩:=hrel
  by_cases hk14:k<=14
  . have t0:decide ((k:Int)<=14)=true:=zL zU
    go_wp2
    go_loopw [6,7] (fun v i wr=>∃ j:Nat,j<=n/\i=O I j/\v=O I (plen F k lo j)/\∃ m,wr=w.drewN m) (fun _ i _=>n - (intOf i).toNat)
    case atStart=>exact ⟨0,zU,rfl,rfl,_,rfl⟩
    case round =>
     obtain ⟨j,hj,rfl,rfl,m',rfl⟩:=hrel
     by_cases hlt:j < n
     . obtain ⟨bb,off,hx,hc⟩:=HI.out.open zU
       cases hx;have hcj:=hc j hlt;clear hc;have HF:=zZ (fun u=>z8I (R (lo+j)) u (HR.out j hlt));rw [HFE.out] at HF;have hfl:=HFB.out j hlt;have hpb:=HB.out k hk14 j zU;have HE:Hid (plen F k lo (j+1)=plen F k lo j+(F (lo+j) / 2 ^ k+1+k)):=rfl;have hmn:min k 64=k:=zU
       generalize F (lo+j)=f at *;have hq:f / 2 ^ k<=f:=Nat.div_le_self _ _;have hqi:(f:Int) / 2 ^ k=((f / 2 ^ k:Nat):Int):=by simp
       generalize f / 2 ^ k=q at *
       go_wp2_with (go_at_call 341;refine (HF.out _).mono ?_;rintro e w1 ⟨rfl,hw⟩;subst w1;clear HF)
       go_roundw
       case rel=>exact ⟨j+1,zU,zS,by rw [HE.out];go_num,_,rfl⟩
       case measure=>simp [intOf];omega
     . have e:j=n:=zU
       subst e;have hpb:=HB.out k hk14 j zU;rcases Nat.eq_zero_or_pos k with hk0 | hk0
       . obtain ⟨rfl,rfl⟩:=HS.out.1 hk0
         have HN:Hid (∀ L:Nat,L=plen F k lo j->((0:Nat)=0/\L=plen F (z1u (fun k=>plen F k lo j) 0) lo j)):=fun L h=>⟨rfl,by rw [h,hk0];rfl⟩
         generalize hL:plen F k lo j=L at *;have HL:=zZ hL;have HK0:=zZ hk0;clear hL hk0 HS;go_wp2;exact ⟨⟨k+1,(k:Int),(L:Int),zU,zS,rfl,rfl,⟨fun h=>absurd h zU,fun d h=>by
          have hd:d=0:=by have:=HK0.out;omega
          subst hd;exact ⟨by rw [HK0.out];rfl,by rw [← HL.out,HK0.out];rfl⟩⟩,_,rfl⟩,by simp [intOf];omega⟩
       . obtain ⟨d,rfl⟩:∃ d,k=d+1:=⟨k - 1,zU⟩
         obtain ⟨rfl,rfl⟩:=HS.out.2 d rfl;have hda:=z4h (fun k=>plen F k lo j) d;have hpb2:=HB.out (z1u (fun k=>plen F k lo j) d) zU j zU;have HAE:Hid (z1u (fun k=>plen F k lo j) (d+1)=if plen F (d+1) lo j < plen F (z1u (fun k=>plen F k lo j) d) lo j then d+1 else z1u (fun k=>plen F k lo j) d):=rfl;generalize z1u (fun k=>plen F k lo j) d=a at *;obtain ⟨L1,hL1⟩:∃ L,L=plen F (d+1) lo j:=⟨_,rfl⟩;obtain ⟨L2,hL2⟩:∃ L,L=plen F a lo j:=⟨_,rfl⟩;have HL1:=zZ hL1;have HL2:=zZ hL2;rw [← hL1] at hpb HAE ⊢;rw [← hL2] at hpb2 HAE ⊢;clear hL1 hL2 HS hk0
         by_cases hd:L1 < L2
         . rw [if_pos hd] at HAE
           have t1:decide ((L1:Int) < (L2:Int))=true:=zL zU;have t2:decide (L1 < L2)=true:=zL hd;clear hd;go_wp2;exact ⟨⟨d+1+1,((d+1:Nat):Int),(L1:Int),zU,zS,rfl,rfl,⟨fun h=>absurd h zU,fun d' h=>by
            have hd:d'=d+1:=zU
            subst hd;rw [HAE.out];exact ⟨rfl,by rw [HL1.out]⟩⟩,_,rfl⟩,by simp [intOf];omega⟩
         . rw [if_neg hd] at HAE
           have t1:decide ((L1:Int) < (L2:Int))=false:=zM zU;have t2:decide (L1 < L2)=false:=zM hd;clear hd;go_wp2;exact ⟨⟨d+1+1,(a:Int),(L2:Int),zU,zS,rfl,rfl,⟨fun h=>absurd h zU,fun d' h=>by
            have hd:d'=d+1:=zU
            subst hd;rw [HAE.out];exact ⟨rfl,by rw [HL2.out]⟩⟩,_,rfl⟩,by simp [intOf];omega⟩
  . have e:k=15:=zU
    subst e;obtain ⟨rfl,rfl⟩:=HS.out.2 14 rfl;rw [← HPK.out];go_wp2;go_ret;exact ⟨rfl,_,rfl⟩
end Go.Proofs.YtlncjgnomhpjnabGreatDoor
