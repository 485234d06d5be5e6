import Derived.Test.YtlncjgnomhpjnabGreatDoorQC8
import Derived.Test.YtlncjgnomhpjnabGreatDoorQC9
import Derived.Test.YtlncjgnomhpjnabGreatDoorQC2
import Derived.Test.YtlncjgnomhpjnabGreatDoorQC1
import Derived.Test.YtlncjgnomhpjnabGreatDoorQC0
namespace Go.Proofs.YtlncjgnomhpjnabGreatDoor
open Go.Value renaming int → O
open Go.IntKind renaming i64 → I
open Go.Proofs.Tryz (prog)
open Go.RowKit Go.Deep
set_option linter.unusedVariables false
theorem y5J (l:Nat->Int) (n width i:Nat) (h:-4096<=l i/\l i<=4096):-4096<=z1w l n width i/\z1w l n width i<=4096:=by
 unfold z1w;have hp:=y3m (z0C l n width);constructor
 . rw [Int.le_ediv_iff_mul_le hp]
   have:=Int.mul_le_mul_of_nonneg_left (show (1:Int)<=2 ^ z0C l n width by omega) (show (0:Int)<=4096 by omega);omega
 . by_cases h0:0<=l i
   . have:=Int.ediv_le_self (2 ^ z0C l n width) h0;omega
   . have:=Int.ediv_neg_of_neg_of_pos (show l i < 0 by omega) hp;omega
structure Tabs (w:World):Prop where
 fixed:TabAt w 5
 fixedLt:5 < w.heap.size
 tz:TzAt w 4
 tzLt:4 < w.heap.size
theorem Tabs.below {w u:World} (h:Tabs w) (hb:Below w.heap.size w u):Tabs u :=
 ⟨fun r c hr hc=>(hb.cell (p:=⟨5,4 * r+c,none⟩) h.fixedLt).trans (h.fixed r c hr hc),Nat.lt_of_lt_of_le h.fixedLt hb.size,
  fun t ht=>(hb.cell (p:=⟨4,_,none⟩) h.tzLt).trans (h.tz t ht),Nat.lt_of_lt_of_le h.tzLt hb.size⟩
set_option maxRecDepth 100000 in
set_option maxHeartbeats 2000000 in
theorem z2c (A:Option Addr) (n c width:Nat) (l:Nat->Int) (w:World) (hn1:1<=n) (hn:n<=32) (hw1:1<=width) (hw:width<=13) (hl:∀ j,j < n->fitsB width (l j)=true) (hI:IntsAt w A n l) (hlow:∀ y,A=some y->0 < n->y.block < w.heap.size) (hT:Tabs w) :
 Calls prog 221 #[O I width,.slice A n c] w fun e w'=>e=.returned (.string (bs (subT width l n)))/\Below w.heap.size w w':=by
 have hsl:z0C l n width<=width - 1:=z2R _ _ _;have HCS:=zZ (z5z A n c width l w hn hw1 hw hl hI hT.tz);have HSH:=zZ (fun m=>y0c A n c (z0C l n width) l (w.drewN m) hn (by omega) hI hlow);have HTX:Hid (bs (subT width l n)=⟨(binT (bestK (width - z0C l n width) (z1w l n width) n 6:Nat) 4 ++ binT (z0C l n width) 4 ++ bodyT (bestK (width - z0C l n width) (z1w l n width) n 6) (width - z0C l n width) (z1w l n width) n).toArray⟩):=by
  show _=_
  unfold subT z2S bs;rw [List.append_assoc]
 have hbd:=fun j (hj:j < n)=>y5J l n width j (z4o (hl j hj) hw)
 have HXE:Hid ((fun i=>l i / 2 ^ z0C l n width)=z1w l n width):=rfl;rw [HXE.out] at HSH;generalize z1w l n width=x at *;generalize z0C l n width=s at *;have HSHORT:=zZ (fun (u:World) (G:Nat) (h:u.rowIs G 3 n (cutV n x))=>(⟨fun i hi=>⟨_,rfl,by
     have:=h.cell (i:=i) hi;unfold cutV cutI at this;rw [if_pos hi] at this;rw [← this];cases i <;> simp [Addr.add]⟩,fun y hy _=>by cases hy;exact h.lt,hbd⟩:Shorts u (some ⟨G,0,none⟩) n x))
 have HSB:=zZ (fun (G:Nat) (u:World) (hu:Shorts u (some ⟨G,0,none⟩) n x) (ht:Tabs u)=>z4V (some ⟨G,0,none⟩) n n (width - s) x u hn1 hn zY (by omega) (by omega) hu ht.fixed ht.fixedLt);have HLY:=zZ (fun (G:Nat) (u:World) (hu:Shorts u (some ⟨G,0,none⟩) n x)=>y7D (bestK (width - s) x n 6) s (some ⟨G,0,none⟩) n n (width - s) x u (z3Q _ _ _ _) (by omega) hn1 hn zY (by omega) (z3R _ _ _ _) hu);have HTT:=zZ hT;have vW:IntKind.i64.wrap ((width:Int) - (s:Int))=((width - s:Nat):Int):=by rw [IntKind.wrap_i64];omega
 rw [HTX.out];generalize hws:width - s=ws at *;clear hl hI hlow hT hbd HXE HTX hws;simp only [y5I] at HSB
 go_enter Tryz.func221,Tryz.ntmps221
 go_wp2_with (first
  | (go_at_call 262;refine HCS.out.mono ?_;rintro e w1 ⟨rfl,m,hm⟩;subst w1;clear HCS)
  | (go_at_call 263;refine (HSH.out m).mono ?_;rintro e w2 ⟨rfl,hrow,hb2⟩;have HR2:=zZ hrow;have HW2:Hid (Below w.heap.size w w2):=(⟨hb2.os,hb2.tape,hb2.output,hb2.size,hb2.block⟩:Below w.heap.size w w2);clear hrow hb2 HSH)
  | (go_at_call 265;refine (HSB.out _ _ ?_ ?_).mono ?_;exact HSHORT.out _ _ HR2.out;exact HTT.out.below HW2.out;rintro e w3 ⟨rfl,hb3⟩;have HR3:=zZ (HR2.out.of_block (hb3.block _ HR2.out.lt));have HW3:=zZ (HW2.out.trans (hb3.mono HW2.out.size));clear hb3 HSB HR2 HW2)
  | (go_at_call 264;refine (HLY.out _ _ ?_).mono ?_;exact HSHORT.out _ _ HR3.out;rintro e w4 ⟨rfl,hb4⟩;have HW4:=zZ (HW3.out.trans (hb4.mono HW3.out.size));clear hb4 HLY))
 go_ret;exact ⟨rfl,HW4.out⟩
def y1l (d:Nat) (f:Nat->Int) (n:Nat):Bool:=(List.range n).all fun i=>fitsB d (f i)
theorem z4A (d:Nat) (f:Nat->Int) (n:Nat):y1l d f n=true↔∀ i,i < n->fitsB d (f i)=true:=by simp [y1l]
set_option maxHeartbeats 1000000 in
theorem y5K (d:Nat) (a:Option Addr) (n c:Nat) (f:Nat->Int) (w:World) (h1:1<=d) (h2:d<=13) (hn:n<=17592186044416) (hI:IntsAt w a n f) :
 Calls prog 192 #[O I d,.slice a n c] w fun e w'=>e=.returned (.bool (y1l d f n))/\w'=w:=by
 have HI:Hid (IntsAt w a n f):=hI;clear hI
 go_enter Tryz.func192,Tryz.ntmps192
 go_wp2
 go_loop [6,9] (fun _ i=>∃ k:Nat,k<=n/\i=O I k/\Hid (∀ i,i < k->fitsB d (f i)=true)) (fun _ i=>n - (intOf i).toNat)
 case atStart=>exact ⟨0,Nat.zero_le _,rfl,fun i hi=>absurd hi (by omega)⟩
 case round =>
  obtain ⟨k,hk,rfl,HA⟩:=hrel
  by_cases hlt:k < n
  . obtain ⟨b,off,hx,hc⟩:=HI.out.open (by omega)
    cases hx;have hc1:=hc k hlt;clear hc;cases hf:fitsB d (f k)
    . go_wp2_with (go_at_call 246;refine (z1H _ _ _ h1 h2).mono ?_;rintro e w' ⟨rfl,rfl⟩)
      go_ret;refine ⟨z0T ?_,rfl⟩;cases e:y1l d f n with
      | false=>rfl
      | true=>rw [(z4A d f n).1 e k hlt] at hf;cases hf
    . go_wp2_with (go_at_call 246;refine (z1H _ _ _ h1 h2).mono ?_;rintro e w' ⟨rfl,rfl⟩)
      go_round
      case rel =>
       refine ⟨k+1,by omega,by go_num,fun i hi=>?_⟩
       by_cases e:i=k
       . subst e;exact hf
       . exact HA.out i (by omega)
      case measure=>simp [intOf];omega
  . have e:k=n:=by omega
    subst e;go_wp2;go_ret;exact ⟨z0T ((z4A d f k).2 HA.out).symm,rfl⟩
def AllB (T:List UInt8):Prop:=∀ c ∈ T,c=48∨c=49
theorem AllB.append {T U:List UInt8} (h:AllB T) (k:AllB U):AllB (T ++ U):=fun c hc=>by
 rcases List.mem_append.1 hc with h1 | h1
 . exact h c h1
 . exact k c h1
theorem y7E (b:Bool):ltr b=48∨ltr b=49:=by cases b <;> simp [ltr]
theorem z1p (v:Int) (k:Nat):AllB (binT v k):=fun c hc=>by
 unfold binT at hc;obtain ⟨i,_,rfl⟩:=List.mem_map.1 hc;exact y7E _
theorem y2k (f k:Nat):AllB (riceT f k):=by
 unfold riceT;refine AllB.append (AllB.append (fun c hc=>?_) (fun c hc=>?_)) (z1p _ _)
 . exact .inl (List.eq_of_mem_replicate hc)
 . exact .inr (by simpa using hc)
theorem z5D (f:Nat->Nat) (k lo:Nat):∀ m,AllB (z1i f k lo m)
 | 0=>fun c hc=>by cases hc
 | m+1=>(z5D f k lo m).append (y2k _ _)
theorem z5E (f:Nat->Nat) (o sz:Nat):∀ m,AllB (z0K f o sz m)
 | 0=>fun c hc=>by cases hc
 | m+1=>(z5E f o sz m).append ((z1p _ _).append (z5D _ _ _ _))
theorem z4B (x:Nat->Int) (w:Nat):∀ m,AllB (numsT x w m)
 | 0=>fun c hc=>by cases hc
 | m+1=>(z4B x w m).append (z1p _ _)
theorem y2l (kind w:Nat) (x:Nat->Int) (n:Nat):AllB (bodyT kind w x n):=by
 unfold bodyT;split
 . exact z1p _ _
 . split
   . exact z4B _ _ _
   . unfold gT cutT
     refine (z4B _ _ _).append (AllB.append ?_ ((z1p _ _).append (z5E _ _ _ _)));split
     . exact (z1p _ _).append (z1p _ _)
     . exact fun c hc=>by cases hc
theorem z2d (width:Nat) (l:Nat->Int) (n:Nat):AllB (subT width l n):=(z1p _ _).append ((z1p _ _).append (y2l _ _ _ _))
theorem z2J (T:List UInt8) (j:Nat) (h:j < (bs T).size):(bs T)[j]=T[j]'(by rw [z0e] at h;exact h):=rfl
def pickV (a:Int) (n:Nat):Nat:=(if a < 0 then (-(a+1)).toNat else a.toNat) % n
theorem z0F (a:Int) (n:Nat) (h:1<=n):pickV a n < n:=Nat.mod_lt _ h
set_option maxHeartbeats 400000 in
theorem z0U (a:Int) (n:Nat) (w:World) (hn:1<=n) (hn2:n<=100000) (ha:-9223372036854775808<=a/\a<=9223372036854775807) :
 Calls prog 13 #[O I a,O I n] w fun e w'=>e=.returned (O I (pickV a n))/\w'=w:=by
 have nz:¬ (n:Int)=0:=by omega
 by_cases h:a < 0
 . have t1:decide (a < 0)=true:=decide_eq_true h
   have HV:Hid (pickV a n=(-(a+1)).toNat % n):=by show _=_;unfold pickV;rw [if_pos h]
   have v1:IntKind.i64.wrap (a+1)=a+1:=by rw [IntKind.wrap_i64];omega
   have v2:IntKind.i64.wrap (-(a+1))=((-(a+1)).toNat:Int):=by rw [IntKind.wrap_i64];omega
   generalize (-(a+1)).toNat=q at *;have m1:(q:Int).tmod (n:Int)=((q % n:Nat):Int):=by rw [Int.tmod_eq_emod_of_nonneg (by omega)];simp
   have hml:q % n < n:=Nat.mod_lt _ hn;have HV2:=zZ HV.out;generalize q % n=r at *
   go_enter Tryz.func13,Tryz.ntmps13
   go_wp2;go_ret;exact ⟨z0V (by rw [HV2.out]),rfl⟩
 . have t1:decide (a < 0)=false:=decide_eq_false h
   have HV:Hid (pickV a n=a.toNat % n):=by show _=_;unfold pickV;rw [if_neg h]
   obtain ⟨q,rfl⟩:∃ q:Nat,a=q:=⟨a.toNat,by omega⟩;rw [Int.toNat_natCast] at HV;have m1:(q:Int).tmod (n:Int)=((q % n:Nat):Int):=by rw [Int.tmod_eq_emod_of_nonneg (by omega)];simp
   have hml:q % n < n:=Nat.mod_lt _ hn;have HV2:=zZ HV.out;generalize q % n=r at *
   go_enter Tryz.func13,Tryz.ntmps13
   go_wp2;go_ret;exact ⟨z0V (by rw [HV2.out]),rfl⟩
def z0w (l:List UInt8) (j:Nat):Bool:=(l.getD (j / 8) 0).toNat.testBit (7 - j % 8)
def acc (k D:Nat) (m:Nat->Bool):Nat->Nat->Bool
 | 0,_=>false
 | i+1,j=>acc k D m i j ^^ ((m i ^^ acc k D m i i) && (decide (i<=j) && decide (j<=i+k) && D.testBit (k - (j - i))))
theorem y0g (k D:Nat) (m:Nat->Bool):∀ i j,i+k<=j->acc k D m i j=false
 | 0,_,_=>rfl
 | i+1,j,h=>by
  have h1:=y0g k D m i j (by omega);have h2:decide (j<=i+k)=false:=by simp;omega
  simp [acc,h1,h2]
def Good (k D:Nat) (m:Nat->Bool) (i e R:Nat):Prop :=
 R < 2 ^ k/\∀ p,p < k->R.testBit p=(acc k D m i (i+(k - 1 - p)) ^^ (decide (i+(k - 1 - p) < e) && m (i+(k - 1 - p))))
theorem z8P (k D:Nat) (m:Nat->Bool):Good k D m 0 0 0 :=
 ⟨Nat.two_pow_pos _,fun p _=>by simp [acc]⟩
theorem y5L {k D:Nat} {m:Nat->Bool} {i e R S:Nat} (h:Good k D m i e R) (g:Good k D m i e S):R=S:=by
 refine Nat.eq_of_testBit_eq fun p=>?_
 by_cases hp:p < k
 . rw [h.2 p hp,g.2 p hp]
 . have e1:R.testBit p=false:=Nat.testBit_lt_two_pow (Nat.lt_of_lt_of_le h.1 (Nat.pow_le_pow_right (by omega) (by omega)))
   have e2:S.testBit p=false:=Nat.testBit_lt_two_pow (Nat.lt_of_lt_of_le g.1 (Nat.pow_le_pow_right (by omega) (by omega)));rw [e1,e2]
theorem z6Q {k D:Nat} {m:Nat->Bool} {i R c:Nat} (hk:8<=k) (hc:c < 256) (hm:∀ x,x < 8->m (i+x)=c.testBit (7 - x))
 (h:Good k D m i i R):Good k D m i (i+8) (R ^^^ c * 2 ^ (k - 8)):=by
 have hb:c * 2 ^ (k - 8) < 2 ^ k:=by
  have e:2 ^ k=256 * 2 ^ (k - 8):=by
   have:k=8+(k - 8):=by omega
   rw [this,Nat.pow_add];simp
  rw [e];exact Nat.mul_lt_mul_of_pos_right hc (Nat.two_pow_pos _)
 refine ⟨Nat.xor_lt_two_pow h.1 hb,fun p hp=>?_⟩;rw [Nat.testBit_xor,h.2 p hp,Nat.mul_comm,Nat.testBit_two_pow_mul]
 by_cases hq:k - 8<=p
 . have e1:i+(k - 1 - p) < i+8:=by omega
   have e2:decide (i+(k - 1 - p) < i)=false:=decide_eq_false (by omega);have e3:=hm (k - 1 - p) (by omega);have e4:7 - (k - 1 - p)=p - (k - 8):=by omega
   rw [e4] at e3;simp [e1,e2,e3,hq]
 . have e1:¬ i+(k - 1 - p) < i+8:=by omega
   have e2:decide (i+(k - 1 - p) < i)=false:=decide_eq_false (by omega);simp [e1,e2,hq]
theorem y3w {k R:Nat} (hk:1<=k) (h:R < 2 ^ k):(R * 2 / 2 ^ k=1)↔R.testBit (k - 1)=true:=by
 have e:2 ^ k=2 * 2 ^ (k - 1):=by
  have:k=(k - 1)+1:=by omega
  rw [this,Nat.pow_succ];simp [Nat.mul_comm]
 have e2:R * 2 / 2 ^ k=R / 2 ^ (k - 1):=by
  rw [e,Nat.mul_comm R 2,Nat.mul_div_mul_left _ _ (by decide)]
 rw [e2,Nat.testBit_eq_decide_div_mod_eq];have lt:R / 2 ^ (k - 1) < 2:=by
  rw [Nat.div_lt_iff_lt_mul (Nat.two_pow_pos _)];omega
 have:R / 2 ^ (k - 1) % 2=R / 2 ^ (k - 1):=Nat.mod_eq_of_lt lt;rw [this];simp
theorem z7v (R p:Nat):(R * 2).testBit p=(decide (1<=p) && R.testBit (p - 1)):=by
 have:=Nat.testBit_two_pow_mul (i:=1) (a:=R) (j:=p);rw [Nat.mul_comm];simpa using this
theorem y1m {k D:Nat} {m:Nat->Bool} {i e R:Nat} (hk:8<=k) (hD:D < 2 ^ (k+1)) (hD1:D.testBit k=true) (hi:i < e) (he:e<=i+8)
 (h:Good k D m i e R) (ht:R * 2 / 2 ^ k=1):Good k D m (i+1) e ((R * 2) ^^^ D):=by
 have top:R.testBit (k - 1)=true:=(y3w (by omega) h.1).1 ht;have t2:=h.2 (k - 1) (by omega);rw [top] at t2;have z:k - 1 - (k - 1)=0:=by omega
 rw [z,Nat.add_zero] at t2;have t3:(m i ^^ acc k D m i i)=true:=by
  rw [t2];simp [hi,Bool.xor_comm]
 constructor
 . have b1:(R * 2) ^^^ D < 2 ^ (k+1):=Nat.xor_lt_two_pow (by rw [Nat.pow_succ];have:=h.1;omega) hD
   apply Nat.lt_pow_two_of_testBit;intro p hp
   by_cases e:p=k
   . subst e
     rw [Nat.testBit_xor,hD1,z7v,top];simp;omega
   . exact Nat.testBit_lt_two_pow (Nat.lt_of_lt_of_le b1 (Nat.pow_le_pow_right (by omega) (by omega)))
 . intro p hp
   have e1:i+1+(k - 1 - p)=i+(k - p):=by omega
   rw [Nat.testBit_xor,z7v,e1];have e2:acc k D m (i+1) (i+(k - p))=(acc k D m i (i+(k - p)) ^^ D.testBit p):=by
    have a1:i<=i+(k - p):=by omega
    have a2:i+(k - p)<=i+k:=by omega
    have a3:k - (i+(k - p) - i)=p:=by omega
    simp only [acc,t3,a3];simp
   rw [e2]
   by_cases hp0:1<=p
   . have e3:=h.2 (p - 1) (by omega)
     have e4:k - 1 - (p - 1)=k - p:=by omega
     rw [e4] at e3;rw [e3];simp only [hp0,decide_true,Bool.true_and];cases acc k D m i (i+(k - p)) <;> cases D.testBit p <;> cases (decide (i+(k - p) < e) && m (i+(k - p))) <;> rfl
   . have e3:p=0:=by omega
     subst e3;have e4:acc k D m i (i+(k - 0))=false:=y0g _ _ _ _ _ (by omega);have e5:decide (i+(k - 0) < e)=false:=decide_eq_false (by omega);rw [e4,e5];simp
theorem y3x {k D:Nat} {m:Nat->Bool} {i e R:Nat} (hk:8<=k) (hi:i < e) (he:e<=i+8)
 (h:Good k D m i e R) (ht:¬ R * 2 / 2 ^ k=1):Good k D m (i+1) e (R * 2):=by
 have top:R.testBit (k - 1)=false:=by
  cases hh:R.testBit (k - 1) with
  | false=>rfl
  | true=>exact absurd ((y3w (by omega) h.1).2 hh) ht
 have t2:=h.2 (k - 1) (by omega);rw [top] at t2;have z:k - 1 - (k - 1)=0:=by omega
 rw [z,Nat.add_zero] at t2;have t3:(m i ^^ acc k D m i i)=false:=by
  rw [t2];simp [hi,Bool.xor_comm]
 constructor
 . have b1:R * 2 < 2 ^ (k+1):=by rw [Nat.pow_succ];have:=h.1;omega
   apply Nat.lt_pow_two_of_testBit;intro p hp
   by_cases e:p=k
   . subst e
     rw [z7v,top];simp
   . exact Nat.testBit_lt_two_pow (Nat.lt_of_lt_of_le b1 (Nat.pow_le_pow_right (by omega) (by omega)))
 . intro p hp
   have e1:i+1+(k - 1 - p)=i+(k - p):=by omega
   rw [z7v,e1];have e2:acc k D m (i+1) (i+(k - p))=acc k D m i (i+(k - p)):=by
    simp only [acc,t3];simp
   rw [e2]
   by_cases hp0:1<=p
   . have e3:=h.2 (p - 1) (by omega)
     have e4:k - 1 - (p - 1)=k - p:=by omega
     rw [e4] at e3;rw [e3];simp [hp0]
   . have e3:p=0:=by omega
     subst e3;have e4:acc k D m i (i+(k - 0))=false:=y0g _ _ _ _ _ (by omega);have e5:decide (i+(k - 0) < e)=false:=decide_eq_false (by omega);rw [e4,e5];simp
theorem z3E (l:List UInt8) (k x:Nat) (hx:x < 8):z0w l (8 * k+x)=(l.getD k 0).toNat.testBit (7 - x):=by
 unfold z0w;have h1:(8 * k+x) / 8=k:=by omega
 have h2:(8 * k+x) % 8=x:=by omega
 rw [h1,h2]
theorem y0h (l:List UInt8) (j:Nat) (h:8 * l.length<=j):z0w l j=false:=by
 unfold z0w;have:l.getD (j / 8) 0=0:=by
  rw [List.getD_eq_getElem?_getD,List.getElem?_eq_none (by omega)];rfl
 rw [this];simp
theorem z3F (f:Nat->Bool):∀ n p,p < n->(z0I f n).testBit p=f (n - 1 - p)
 | 0,_,h=>absurd h (by omega)
 | n+1,0,_=>by
  simp only [z0I,Nat.testBit_zero];cases h:f n <;> simp [h] <;> omega
 | n+1,p+1,h=>by
  have ih:=z3F f n p (by omega);have e:(2 * z0I f n+(f n).toNat) / 2=z0I f n:=by
   have:(f n).toNat<=1:=Bool.toNat_le _;omega
  simp only [z0I,Nat.testBit_succ,e,ih]
  congr 1;omega
theorem z8Q {k D:Nat} {m:Nat->Bool} {L:Nat} (hm:∀ j,L<=j->m j=false):Good k D m L L (z0I (fun x=>m (L+x) ^^ acc k D m L (L+x)) k):=by
 refine ⟨z1Y _ _,fun p hp=>?_⟩;rw [z3F _ _ _ hp];have:=hm (L+(k - 1 - p)) (by omega);simp [this]
open Go.RowKit
theorem z7w (a b:Nat) (ha:a < 4294967296) (hb:b < 4294967296):bits .xor .i64 (a:Int) (b:Int)=((a ^^^ b:Nat):Int):=by
 have hx:a ^^^ b < 2 ^ 32:=Nat.xor_lt_two_pow (by omega) (by omega);have h1:(BitVec.ofInt 64 (a:Int)).toNat=a:=by
  rw [BitVec.ofInt_natCast,BitVec.toNat_ofNat];exact Nat.mod_eq_of_lt (by omega)
 have h2:(BitVec.ofInt 64 (b:Int)).toNat=b:=by
  rw [BitVec.ofInt_natCast,BitVec.toNat_ofNat];exact Nat.mod_eq_of_lt (by omega)
 show IntKind.i64.wrap ((BitVec.ofInt 64 (a:Int) ^^^ BitVec.ofInt 64 (b:Int)).toNat:Int)=_
 rw [BitVec.toNat_xor,h1,h2,IntKind.wrap_i64];omega
theorem z8R (s:ByteArray) (k:Nat) (h:k < s.size):s.data.toList.getD k 0=s[k]:=by
 rw [List.getD_eq_getElem?_getD,List.getElem?_eq_getElem (by simpa using h)];rfl
set_option maxHeartbeats 400000 in
theorem y5M (s:ByteArray) (w:World) (hs:s.size<=2097152) :
 Calls prog 250 #[.string s,O I 8,O I 263] w fun e w'=>∃ R:Nat,e=.returned (O I R)/\Good 8 263 (z0w s.data.toList) (8 * s.size) (8 * s.size) R/\w'=w:=by
 go_enter Tryz.func250,Tryz.ntmps250
 go_wp2
 go_loop [7,11] (fun n i=>∃ k:Nat,∃ R:Nat,k<=s.size/\i=O I k/\n=O I R/\Good 8 263 (z0w s.data.toList) (8 * k) (8 * k) R) (fun _ i=>s.size - (intOf i).toNat)
 case atStart=>exact ⟨0,0,Nat.zero_le _,rfl,rfl,z8P _ _ _⟩
 case round =>
  obtain ⟨k,R,hk,rfl,rfl,hG⟩:=hrel
  by_cases hlt:k < s.size
  . have hc:s[k].toNat < 256:=UInt8.toNat_lt _
    have hR:R < 256:=hG.1;have HG:Hid (Good 8 263 (z0w s.data.toList) (8 * k) (8 * k+8) (R ^^^ s[k].toNat)):=by
     have:=z6Q (c:=s[k].toNat) (by decide) hc (fun x hx=>by rw [z3E _ _ _ hx,z8R s k hlt]) hG
     show Good _ _ _ _ _ _
     simpa using this
    clear hG;have hx:=z7w R s[k].toNat (by omega) (by omega);go_wp2
    go_loop [7,23] (fun n i=>∃ t:Nat,∃ R:Nat,t<=8/\i=O I t/\n=O I R/\Good 8 263 (z0w s.data.toList) (8 * k+t) (8 * k+8) R) (fun _ i=>8 - (intOf i).toNat)
    case atStart=>exact ⟨0,_,Nat.zero_le _,rfl,rfl,HG.out⟩
    case round =>
     obtain ⟨t,Q,ht,rfl,rfl,hQ⟩:=hrel;clear hx HG
     by_cases hlt8:t < 8
     . have hQb:Q < 256:=hQ.1
       have hx2:=z7w (Q * 2) 263 (by omega) (by omega);have HQ:Hid (Good 8 263 (z0w s.data.toList) (8 * k+t) (8 * k+8) Q):=hQ;clear hQ;go_wp2
       . have hh:((Q:Int) * 2 / 256 == 1)=true:=by assumption
         go_round
         case rel =>
          refine ⟨t+1,_,by omega,by go_num,by simp only [Int.natCast_mul] at hx2;exact congrArg _ hx2,y1m (i:=8 * k+t) (by decide) (by decide) (by decide) (by omega) (by omega) HQ.out ?_⟩;simp at hh;omega
         case measure=>simp [intOf];omega
       . have hh:((Q:Int) * 2 / 256 == 1)=false:=by assumption
         go_round
         case rel =>
          refine ⟨t+1,Q * 2,by omega,by go_num,by go_num,y3x (i:=8 * k+t) (by decide) (by omega) (by omega) HQ.out ?_⟩;simp at hh;omega
         case measure=>simp [intOf];omega
     . have e:t=8:=by omega
       subst e;have HQ:Hid (Good 8 263 (z0w s.data.toList) (8 * k+8) (8 * k+8) Q):=hQ;clear hQ;go_wp2
       go_round
       case rel=>exact ⟨k+1,Q,by omega,by go_num,rfl,HQ.out⟩
       case measure=>simp [intOf];omega
  . have e:k=s.size:=by omega
    subst e;have HG:Hid (Good 8 263 (z0w s.data.toList) (8 * s.size) (8 * s.size) R):=hG;clear hG;go_wp2;go_ret;exact ⟨R,rfl,HG.out,rfl⟩
set_option maxHeartbeats 400000 in
theorem y3y (s:ByteArray) (w:World) (hs:s.size<=2097152) :
 Calls prog 250 #[.string s,O I 16,O I 98309] w fun e w'=>∃ R:Nat,e=.returned (O I R)/\Good 16 98309 (z0w s.data.toList) (8 * s.size) (8 * s.size) R/\w'=w:=by
 go_enter Tryz.func250,Tryz.ntmps250
 go_wp2
 go_loop [7,11] (fun n i=>∃ k:Nat,∃ R:Nat,k<=s.size/\i=O I k/\n=O I R/\Good 16 98309 (z0w s.data.toList) (8 * k) (8 * k) R) (fun _ i=>s.size - (intOf i).toNat)
 case atStart=>exact ⟨0,0,Nat.zero_le _,rfl,rfl,z8P _ _ _⟩
 case round =>
  obtain ⟨k,R,hk,rfl,rfl,hG⟩:=hrel
  by_cases hlt:k < s.size
  . have hc:s[k].toNat < 256:=UInt8.toNat_lt _
    have hR:R < 65536:=hG.1;have HG:Hid (Good 16 98309 (z0w s.data.toList) (8 * k) (8 * k+8) (R ^^^ s[k].toNat * 256)):=by
     have:=z6Q (c:=s[k].toNat) (by decide) hc (fun x hx=>by rw [z3E _ _ _ hx,z8R s k hlt]) hG
     show Good _ _ _ _ _ _
     simpa using this
    clear hG;have hx:=z7w R (s[k].toNat * 256) (by omega) (by omega);go_wp2
    go_loop [7,23] (fun n i=>∃ t:Nat,∃ R:Nat,t<=8/\i=O I t/\n=O I R/\Good 16 98309 (z0w s.data.toList) (8 * k+t) (8 * k+8) R) (fun _ i=>8 - (intOf i).toNat)
    case atStart =>
     refine ⟨0,_,Nat.zero_le _,rfl,?_,HG.out⟩;simp only [Int.natCast_mul] at hx;exact congrArg _ hx
    case round =>
     obtain ⟨t,Q,ht,rfl,rfl,hQ⟩:=hrel;clear hx HG
     by_cases hlt8:t < 8
     . have hQb:Q < 65536:=hQ.1
       have hx2:=z7w (Q * 2) 98309 (by omega) (by omega);have HQ:Hid (Good 16 98309 (z0w s.data.toList) (8 * k+t) (8 * k+8) Q):=hQ;clear hQ;go_wp2
       . have hh:((Q:Int) * 2 / 65536 == 1)=true:=by assumption
         go_round
         case rel =>
          refine ⟨t+1,_,by omega,by go_num,by simp only [Int.natCast_mul] at hx2;exact congrArg _ hx2,y1m (i:=8 * k+t) (by decide) (by decide) (by decide) (by omega) (by omega) HQ.out ?_⟩;simp at hh;omega
         case measure=>simp [intOf];omega
       . have hh:((Q:Int) * 2 / 65536 == 1)=false:=by assumption
         go_round
         case rel =>
          refine ⟨t+1,Q * 2,by omega,by go_num,by go_num,y3x (i:=8 * k+t) (by decide) (by omega) (by omega) HQ.out ?_⟩;simp at hh;omega
         case measure=>simp [intOf];omega
     . have e:t=8:=by omega
       subst e;have HQ:Hid (Good 16 98309 (z0w s.data.toList) (8 * k+8) (8 * k+8) Q):=hQ;clear hQ;go_wp2
       go_round
       case rel=>exact ⟨k+1,Q,by omega,by go_num,rfl,HQ.out⟩
       case measure=>simp [intOf];omega
  . have e:k=s.size:=by omega
    subst e;have HG:Hid (Good 16 98309 (z0w s.data.toList) (8 * s.size) (8 * s.size) R):=hG;clear hG;go_wp2;go_ret;exact ⟨R,rfl,HG.out,rfl⟩
def lv (b:Bool):Int:=if b then 49 else 48
def y7F (K D:Nat) (m:Nat->Bool) (L x:Nat):Bool:=m (L+x) ^^ acc K D m L (L+x)
def crc (k D:Nat) (l:List UInt8):Nat:=z0I (y7F k D (z0w l) (8 * l.length)) k
theorem y5N (k D:Nat) (l:List UInt8):Good k D (z0w l) (8 * l.length) (8 * l.length) (crc k D l) :=
 z8Q fun j h=>y0h l j h
theorem y6Y {k D R:Nat} {s:ByteArray} (h:Good k D (z0w s.data.toList) (8 * s.size) (8 * s.size) R):R=crc k D s.data.toList:=by
 have e:s.data.toList.length=s.size:=by simp
 rw [← e] at h;exact y5L h (y5N k D _)
theorem y3z (s:ByteArray) (w:World) (hs:s.size<=2097152) :
 Calls prog 216 #[.string s] w fun e w'=>e=.returned (O I (crc 8 263 s.data.toList))/\w'=w:=by
 go_enter Tryz.func216,Tryz.ntmps216
 go_wp2_with (go_at_call 250;refine (y5M _ _ hs).mono ?_;rintro e w' ⟨R,rfl,hG,rfl⟩)
 go_ret;exact ⟨z0V (by rw [y6Y hG]),rfl⟩
theorem y0i (s:ByteArray) (w:World) (hs:s.size<=2097152) :
 Calls prog 196 #[.string s] w fun e w'=>e=.returned (O I (crc 16 98309 s.data.toList))/\w'=w:=by
 go_enter Tryz.func196,Tryz.ntmps196
 go_wp2_with (go_at_call 250;refine (y3y _ _ hs).mono ?_;rintro e w' ⟨R,rfl,hG,rfl⟩)
 go_ret;exact ⟨z0V (by rw [y6Y hG]),rfl⟩
def inB (v k i:Nat):UInt8:=UInt8.ofNat (v / 256 ^ (k - 1 - i) % 256)
def inT (v k:Nat):List UInt8:=(List.range k).map (inB v k)
theorem z0a (v k:Nat):(inT v k).length=k:=by simp [inT]
theorem y1n (v k:Nat):strOf (inB v k) k=bs (inT v k):=rfl
theorem z7x (v k i:Nat):(inB v k i).toNat=v / 256 ^ (k - 1 - i) % 256:=by
 unfold inB;rw [UInt8.toNat_ofNat'];exact Nat.mod_eq_of_lt (Nat.lt_of_lt_of_le (Nat.mod_lt _ (by decide)) (by decide))
def tbit (t:List UInt8) (i:Nat):Bool:=t.getD i 48 == 49
theorem y1o {t:List UInt8} (h:AllB t) (i:Nat) (hi:i < t.length):t[i]=ltr (tbit t i):=by
 unfold tbit;rw [List.getD_eq_getElem?_getD,List.getElem?_eq_getElem hi];rcases h _ (List.getElem_mem hi) with e | e <;> rw [Option.getD_some,e] <;> rfl
def pkN (t:List UInt8) (m k:Nat):Nat:=z0I (fun j=>decide (8 * k+j < m) && tbit t (8 * k+j)) 8
def pkB (t:List UInt8) (k:Nat):UInt8:=UInt8.ofNat (pkN t t.length k)
def packT (t:List UInt8):List UInt8:=(List.range ((t.length+7) / 8)).map (pkB t)
theorem z1e (t:List UInt8):(packT t).length=(t.length+7) / 8:=by simp [packT]
theorem y2m (t:List UInt8):strOf (pkB t) ((t.length+7) / 8)=bs (packT t):=rfl
theorem y3A (t:List UInt8) (m k:Nat):pkN t m k < 256:=z1Y _ 8
theorem y3B (t:List UInt8) (k:Nat):(pkB t k).toNat=pkN t t.length k:=by
 unfold pkB;rw [UInt8.toNat_ofNat'];exact Nat.mod_eq_of_lt (y3A _ _ _)
theorem y5O (t:List UInt8) (k:Nat):pkN t 0 k=0:=by
 unfold pkN;simp [z0I]
theorem z5F (t:List UInt8) (m k p:Nat):(pkN t m k).testBit p=(decide (p < 8) && (decide (8 * k+(7 - p) < m) && tbit t (8 * k+(7 - p)))):=by
 by_cases hp:p < 8
 . unfold pkN
   rw [z3F _ _ _ hp];have e:8 - 1 - p=7 - p:=rfl;rw [e];simp [hp]
 . rw [Nat.testBit_lt_two_pow (Nat.lt_of_lt_of_le (y3A t m k) (Nat.le_trans (by decide:256<=2 ^ 8) (Nat.pow_le_pow_right (by omega) (by omega))))]
   simp [hp]
theorem y7G (b:Bool) (s p:Nat):(b.toNat * 2 ^ s).testBit p=(decide (p=s) && b):=by
 rw [Nat.mul_comm,Nat.testBit_two_pow_mul];cases b
 . simp
 . by_cases e:p=s
   . subst e;simp
   . by_cases h:s<=p
     . have:p - s=(p - s - 1)+1:=by omega
       simp [h,e];rw [this,Nat.testBit_succ];simp
     . simp [h,e]
theorem y5P (t:List UInt8) (m:Nat):pkN t m (m / 8) ||| (tbit t m).toNat * 2 ^ (7 - m % 8)=pkN t (m+1) (m / 8):=by
 apply Nat.eq_of_testBit_eq;intro p;rw [Nat.testBit_or,z5F,z5F,y7G]
 by_cases hp:p < 8
 . by_cases e:p=7 - m % 8
   . have e1:8 * (m / 8)+(7 - p)=m:=by omega
     rw [e1];simp [e];intro h;omega
   . have e2:decide (8 * (m / 8)+(7 - p) < m+1)=decide (8 * (m / 8)+(7 - p) < m):=by rw [decide_eq_decide];omega
     rw [e2];simp [e]
 . have e:¬ p=7 - m % 8:=by omega
   simp [hp,e]
theorem y3C (t:List UInt8) (m k:Nat) (h:k ≠ m / 8):pkN t (m+1) k=pkN t m k:=by
 apply Nat.eq_of_testBit_eq;intro p;rw [z5F,z5F]
 by_cases hp:p < 8
 . have e2:decide (8 * k+(7 - p) < m+1)=decide (8 * k+(7 - p) < m):=by rw [decide_eq_decide];omega
   rw [e2]
 . simp [hp]
def headT (number len n mode:Nat):List UInt8:=inT 165 1 ++ inT number 2 ++ inT len 2 ++ inT (n - 1) 1 ++ inT mode 1
theorem z1l (number len n mode:Nat):(headT number len n mode).length=7:=by simp [headT,z0a]
def seal8 (s:List UInt8):List UInt8:=s ++ inT (crc 8 263 s) 1
def z0H (s:List UInt8):List UInt8:=s ++ inT (crc 16 98309 s) 2
theorem z0x (s:List UInt8):(seal8 s).length=s.length+1:=by simp [seal8,z0a]
theorem z3T (s:List UInt8):(z0H s).length=s.length+2:=by simp [z0H,z0a]
def z1f (number n mode:Nat) (bits:List UInt8):List UInt8:=z0H (seal8 (headT number ((packT bits).length+10) n mode) ++ packT bits)
theorem z1Q (number n mode:Nat) (bits:List UInt8):(z1f number n mode bits).length=(packT bits).length+10:=by
 simp [z1f,z3T,z0x,z1l];omega
def sideL (l r:Nat->Int) (j:Nat):Int:=l j - r j
def midL (l r:Nat->Int) (j:Nat):Int:=(l j+r j) / 2
def pairT (d:Nat) (l r:Nat->Int) (n m:Nat):List UInt8 :=
 if m=0 then subT d l n ++ subT d r n else if m=1 then subT d l n ++ subT (d+1) (sideL l r) n
 else if m=2 then subT (d+1) (sideL l r) n ++ subT d r n else subT d (midL l r) n ++ subT (d+1) (sideL l r) n
def bestM (T:Nat->List UInt8):Nat->Nat
 | 0=>0
 | m+1=>if m=0∨(T m).length < (T (bestM T m)).length then m else bestM T m
theorem y1p (T:Nat->List UInt8):∀ m,1<=m->bestM T m < m
 | 0,h=>absurd h (by omega)
 | m+1,_=>by
  unfold bestM;split
  . omega
  . have:=y1p T m (by omega);omega
def allT (d:Nat) (F:Nat->Nat->Int) (N:Nat):Nat->List UInt8
 | 0=>[]
 | i+1=>allT d F N i ++ subT d (F i) N
def modeN (d n:Nat) (F:Nat->Nat->Int) (N:Nat):Nat:=if n=2 then bestM (pairT d (F 0) (F 1) N) 4 else 0
def z0j (d n:Nat) (F:Nat->Nat->Int) (N:Nat):List UInt8:=if n=2 then pairT d (F 0) (F 1) N (modeN d n F N) else allT d F N n
theorem z5f (d n:Nat) (F:Nat->Nat->Int) (N:Nat):modeN d n F N < 4:=by
 unfold modeN;split
 . exact y1p _ 4 (by omega)
 . omega
theorem z3l (width:Nat) (l:Nat->Int) (n:Nat):8<=(subT width l n).length:=by rw [z2w];omega
theorem z1C (width:Nat) (l:Nat->Int) (n:Nat) (hn1:1<=n) (hn:n<=32) (hw:width<=13):(subT width l n).length<=424:=by
 have:=z7t width l n hn1;have h2:n * width<=32 * 13:=Nat.mul_le_mul hn hw;omega
theorem y1q (d:Nat) (l r:Nat->Int) (n m:Nat) (hn1:1<=n) (hn:n<=32) (hd:d<=12):16<=(pairT d l r n m).length/\(pairT d l r n m).length<=848:=by
 have a1:=z3l d l n;have a2:=z3l d r n;have a3:=z3l (d+1) (sideL l r) n;have a4:=z3l d (midL l r) n;have b1:=z1C d l n hn1 hn (by omega);have b2:=z1C d r n hn1 hn (by omega);have b3:=z1C (d+1) (sideL l r) n hn1 hn (by omega);have b4:=z1C d (midL l r) n hn1 hn (by omega);unfold pairT;split
 . rw [List.length_append];omega
 . split
   . rw [List.length_append];omega
   . split <;> (rw [List.length_append];omega)
theorem y2n (d:Nat) (l r:Nat->Int) (n m:Nat):AllB (pairT d l r n m):=by
 unfold pairT;split
 . exact (z2d _ _ _).append (z2d _ _ _)
 . split
   . exact (z2d _ _ _).append (z2d _ _ _)
   . split <;> exact (z2d _ _ _).append (z2d _ _ _)
theorem z7y (d:Nat) (F:Nat->Nat->Int) (N:Nat) (hn1:1<=N) (hn:N<=32) (hd:d<=12):∀ i,8 * i<=(allT d F N i).length/\(allT d F N i).length<=424 * i
 | 0=>by simp [allT]
 | i+1=>by
  have:=z7y d F N hn1 hn hd i;have a1:=z3l d (F i) N;have b1:=z1C d (F i) N hn1 hn (by omega);simp only [allT,List.length_append];omega
theorem z8S (d:Nat) (F:Nat->Nat->Int) (N:Nat):∀ i,AllB (allT d F N i)
 | 0=>fun c hc=>by cases hc
 | i+1=>(z8S d F N i).append (z2d _ _ _)
theorem z5G (d n:Nat) (F:Nat->Nat->Int) (N:Nat):AllB (z0j d n F N):=by
 unfold z0j;split
 . exact y2n _ _ _ _ _
 . exact z8S _ _ _ _
theorem z5H (d n:Nat) (F:Nat->Nat->Int) (N:Nat) (hn1:1<=N) (hn:N<=32) (hd:d<=12) (h1:1<=n) (h4:n<=4):8<=(z0j d n F N).length/\(z0j d n F N).length<=1696:=by
 unfold z0j;split
 . have:=y1q d (F 0) (F 1) N (modeN d n F N) hn1 hn hd;omega
 . have:=z7y d F N hn1 hn hd n;omega
theorem z8T {d:Nat} {a b:Int} (hd:1<=d) (ha:fitsB d a=true) (hb:fitsB d b=true):fitsB (d+1) (a - b)=true:=by
 unfold fitsB at *;rw [z0h] at *;have e:(2:Int) ^ (d+1 - 1)=2 * 2 ^ (d - 1):=by
  have:d+1 - 1=(d - 1)+1:=by omega
  rw [this,Int.pow_succ];omega
 rw [e];omega
theorem y1r {d:Nat} {a b:Int} (ha:fitsB d a=true) (hb:fitsB d b=true):fitsB d ((a+b) / 2)=true:=by
 unfold fitsB at *;rw [z0h] at *;omega
end Go.Proofs.YtlncjgnomhpjnabGreatDoor
