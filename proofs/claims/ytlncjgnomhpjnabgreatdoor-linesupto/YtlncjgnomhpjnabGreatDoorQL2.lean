import Derived.Test.YtlncjgnomhpjnabGreatDoorQL1
import Derived.Lib.Builder
import Derived.Lib.FrozenHead2
import Derived.Lib.OthersKept
import Derived.Deep.RegionWith
namespace Go.Proofs.YtlncjgnomhpjnabGreatDoor
open Go.Value renaming int → O
open Go.IntKind renaming i64 → I
open Go.Proofs.Tryz
open Go.RowKit Go.Deep
set_option linter.unusedVariables false
set_option maxHeartbeats 400000 in
theorem z4C (t:ByteArray) (w:World) (hs:t.size<=32) (f:Nat->Bool) (hf:∀ j (h:j < t.size),t[j]=ltr (f j)) :
 Calls prog 261 #[.string t] w fun e w'=>e=.returned (O I (z0C f t.size))/\w'=w:=by
 go_enter func261,ntmps261
 go_wp2
 go_loop [3,4] (fun n i=>∃ k:Nat,k<=t.size/\i=O I k/\n=O I (z0C f k)) (fun _ i=>t.size - (intOf i).toNat)
 case atStart=>exact ⟨0,zJ _,rfl,rfl⟩
 case round =>
  obtain ⟨k,hk,rfl,rfl⟩:=hrel
  by_cases hlt:k < t.size
  . have HF:Hid (z0C f (k+1)=2 * z0C f k+(f k).toNat):=rfl
    have h1:=z2k f k;have h2:2 ^ k<=2 ^ 32:=zE zU zU;have HT:Hid (t[k].toNat=48+(f k).toNat):=by show _=_;rw [hf k hlt,z7r]
    have h3:48<=t[k].toNat:=by rw [HT.out];omega
    have h4:t[k].toNat<=49:=by rw [HT.out];have:=Bool.toNat_le (f k);omega
    have h5:z0C f k<=4294967296:=zU
    clear hf h1 h2;go_wp2
    go_round
    case rel=>exact ⟨k+1,zU,zS,by rw [HF.out];have:=HT.out;go_num⟩
    case measure=>simp [intOf];omega
  . have e:k=t.size:=zU
    subst e;go_wp2;go_ret;exact ⟨rfl,rfl⟩
theorem z2w (kind:Nat) (w:World) (h:2<=kind) (h7:kind<=7) :
 Calls prog 273 #[O I kind] w fun e w'=>e=.returned (O I (ord kind))/\w'=w:=by
 have HO:Hid (ord kind=if kind=7 then 2 else kind - 2):=rfl
 by_cases e:kind=7
 . have h1:((kind:Int) == 7)=true:=by simp;omega
   go_enter func273,ntmps273
   go_wp2;go_ret;exact ⟨z0q (by rw [HO.out,if_pos e];rfl),rfl⟩
 . have h1:((kind:Int) == 7)=false:=by simp;omega
   go_enter func273,ntmps273
   go_wp2;go_ret;exact ⟨z0q (by rw [HO.out,if_neg e];omega),rfl⟩
set_option maxHeartbeats 400000 in
theorem z8A (d:Nat) (v:Int) (w:World) (h1:1<=d) (h2:d<=13) :
 Calls prog 222 #[O I v,O I d] w fun e w'=>e=.returned (.bool (z0A d v))/\w'=w:=by
 have hp1:(1:Int)<=2 ^ (d - 1):=by have:0 < 2 ^ (d - 1):=Nat.two_pow_pos _;exact_mod_cast this
 have hp2:(2:Int) ^ (d - 1)<=4096:=z9F (d - 1) 4096 (zO (zE zU (by omega:d - 1<=12)) zR)
 by_cases h:-(2 ^ (d - 1))<=v
 . have hd:decide (-(2 ^ (d - 1))<=v)=true:=zL h
   go_enter func222,ntmps222
   go_wp2;go_ret;refine ⟨z0G ?_,rfl⟩;unfold z0A z0x;rw [hd];simp;omega
 . have hd:decide (-(2 ^ (d - 1))<=v)=false:=zM h
   go_enter func222,ntmps222
   go_wp2;go_ret;refine ⟨z0G ?_,rfl⟩;unfold z0A z0x;rw [hd];simp
theorem y9z (a:Int):(a.tdiv 8=a / 8/\0<=a.tmod 8)∨(a.tdiv 8=a / 8+1/\a.tmod 8 < 0):=by
 have e:=Int.tmod_add_mul_tdiv a 8
 by_cases h:0<=a
 . left
   have h1:=zF (b:=8) h;omega
 . have h1:a.tdiv 8=-((-a) / 8):=by
     rw [← zF (a:=-a) (b:=8) zU,Int.neg_tdiv,Int.neg_neg]
   omega
theorem y3A (a:Int) (w:World) (h:-2000000<=a/\a<=2000000) :
 Calls prog 314 #[O I a,O I 8] w fun e w'=>e=.returned (O I (a / 8))/\w'=w:=by
 have ht:=y9z a
 by_cases hm:a.tmod 8 < 0
 . have hd:decide (a.tmod 8 < 0)=true:=zL hm
   have he:a.tdiv 8=a / 8+1:=zU
   clear ht
   go_enter func314,ntmps314
   go_wp2;go_ret;exact ⟨z0q rfl,rfl⟩
 . have hd:decide (a.tmod 8 < 0)=false:=zM hm
   have he:a.tdiv 8=a / 8:=zU
   clear ht
   go_enter func314,ntmps314
   go_wp2;go_ret;exact ⟨z0q rfl,rfl⟩
set_option maxHeartbeats 1000000 in
theorem z9H (a c:Int) (g n i len:Nat) (x:Nat->Int) (w:World) (ha:-32<=a/\a<=32) (hc:-32<=c/\c<=32) (hn:n<=32) (hi:i < n) (h2i:2<=i) (hX:∀ j,j < i->-4096<=x j/\x j<=4096)
 (hrow:w.rowIs g 3 n (cutV len x)) (hil:i<=len) :
 Calls prog 297 #[O I 7,O I a,O I c,.slice (some ⟨g,0,none⟩) n n,O I i] w fun e w'=>e=.returned (O I (z0N 7 a c x i))/\∃ m,w'=w.drewN m:=by
 have HG:Hid (z0N 7 a c x i=(a * x (i - 1)+c * x (i - 2)) / 8):=by
  show _=_;simp [z0N,ord,sumG,wt];congr 3
 have c1:w.cell? ⟨g,i - 1,none⟩=some (O I (x (i - 1))):=by
  have:=hrow.cell (i:=i - 1) zU;simpa [cutV,cutI,show i - 1 < len by omega] using this
 have c2:w.cell? ⟨g,i - 2,none⟩=some (O I (x (i - 2))):=by
  have:=hrow.cell (i:=i - 2) zU;simpa [cutV,cutI,show i - 2 < len by omega] using this
 have b1:=z8y ha (hX (i - 1) zU);have b2:=z8y hc (hX (i - 2) zU);generalize x (i - 1)=x1 at *;generalize x (i - 2)=x2 at *;clear hX hrow;have v1:I.wrap ((i:Int) - 1)=(i:Int) - 1:=by rw [zK];omega
 have v2:I.wrap ((i:Int) - 2)=(i:Int) - 2:=by rw [zK];omega
 have t1:((i:Int) - 1).toNat=i - 1:=zU
 have t2:((i:Int) - 2).toNat=i - 2:=zU
 have l1:0<=(i:Int) - 1:=zU
 have l2:0<=(i:Int) - 2:=zU
 have l3:(i:Int) - 1 < (n:Int):=zU
 have l4:(i:Int) - 2 < (n:Int):=zU
 have v3:I.wrap (a * x1)=a * x1:=by rw [zK];omega
 have v4:I.wrap (c * x2)=c * x2:=by rw [zK];omega
 have v5:I.wrap (a * x1+c * x2)=a * x1+c * x2:=by rw [zK];omega
 have HD:=zZ (fun u=>y3A (a * x1+c * x2) u zU)
 go_enter func297,ntmps297
 go_wp2
 go_quiet ((go_at_call 314;exact (HD.out _).mono fun _ _ h=>⟨h.1,_,h.2⟩))
 go_wp2;go_ret;exact ⟨z0q HG.out.symm,_,rfl⟩
set_option maxHeartbeats 1000000 in
theorem z9I (kind:Nat) (a c:Int) (g n i len:Nat) (x:Nat->Int) (w:World) (h2:2<=kind) (h6:kind<=6) (hn:n<=32) (hi:i < n) (hoi:kind - 2<=i) (hX:∀ j,j < i->-4096<=x j/\x j<=4096)
 (hrow:w.rowIs g 3 n (cutV len x)) (hil:i<=len) (hT:z1v w 2) :
 Calls prog 297 #[O I kind,O I a,O I c,.slice (some ⟨g,0,none⟩) n n,O I i] w fun e w'=>e=.returned (O I (z0N kind a c x i))/\∃ m,w'=w.drewN m:=by
 obtain ⟨r,rfl⟩:∃ r,kind=r+2:=⟨kind - 2,zU⟩;have HG:Hid (z0N (r+2) a c x i=sumG (tab r) x i r):=by
  show _=_
  have e7:¬ r+2=7:=zU
  unfold z0N;rw [if_neg e7,Int.ediv_one,show ord (r+2)=r by unfold ord;rw [if_neg e7];omega];exact z4B r (fun j _=>by unfold wt;rw [if_neg e7];rfl) (fun _ _=>rfl)
 have HX:=zZ hX;have HROW:=zZ hrow;have HT:=zZ hT;clear hX hrow hT
 go_enter func297,ntmps297
 have r1:I.wrap ((r:Int)+2 - 2)=(r:Int):=by rw [zK];omega
 go_wp2
 go_loopw [11,12] (fun v jj wr=>∃ j:Nat,j<=r/\jj=O I j/\v=O I (sumG (tab r) x i j)/\∃ m,wr=w.drewN m) (fun _ jj _=>r - (intOf jj).toNat)
 case atStart=>exact ⟨0,zJ _,rfl,rfl,0,rfl⟩
 case round =>
  obtain ⟨j,hj,rfl,rfl,m,rfl⟩:=hrel
  by_cases hlt:j < r
  . have c1:w.cell? ⟨g,i - 1 - j,none⟩=some (O I (x (i - 1 - j))):=by
      have:=HROW.out.cell (i:=i - 1 - j) zU;simpa [cutV,cutI,show i - 1 - j < len by omega] using this
    have c2:w.cell? ⟨2,4 * r+j,none⟩=some (O I (tab r j)):=HT.out r j zU zU;have c3:w.cell? ⟨2,r * 4+j,none⟩=some (O I (tab r j)):=by rw [Nat.mul_comm];exact c2
    have htb:-32<=tab r j/\tab r j<=32:=by unfold tab;split <;> omega
    have hmb:=z8y htb (HX.out (i - 1 - j) zU);have hsb:=z7s (w:=tab r) (x:=x) (i:=i) (fun j=>by unfold tab;split <;> omega) HX.out zU j;have HE:Hid (sumG (tab r) x i (j+1)=sumG (tab r) x i j+tab r j * x (i - 1 - j)):=rfl;have v1:I.wrap ((i:Int) - 1)=(i:Int) - 1:=by rw [zK];omega
    have v2:I.wrap ((i:Int) - 1 - (j:Int))=(i:Int) - 1 - (j:Int):=by rw [zK];omega
    have t2:((i:Int) - 1 - (j:Int)).toNat=i - 1 - j:=zU
    have l1:0<=(i:Int) - 1 - (j:Int):=zU
    have l2:(i:Int) - 1 - (j:Int) < (n:Int):=zU
    have v3:I.wrap (tab r j * x (i - 1 - j))=tab r j * x (i - 1 - j):=by rw [zK];omega
    have v4:I.wrap (sumG (tab r) x i j+tab r j * x (i - 1 - j))=sumG (tab r) x i j+tab r j * x (i - 1 - j):=by rw [zK];omega
    go_wp2
    go_quiet ((fail))
    go_wp2
    go_roundw
    case rel=>exact ⟨j+1,zU,zS,by rw [HE.out],_,rfl⟩
    case measure=>simp [intOf];omega
  . have e:j=r:=zU
    subst e;go_wp2;go_ret;exact ⟨z0q HG.out.symm,_,rfl⟩
theorem z6K (kind:Nat) (a c:Int) (g n i len:Nat) (x:Nat->Int) (w:World) (h2:2<=kind) (h7:kind<=7) (ha:-32<=a/\a<=32) (hc:-32<=c/\c<=32) (hn:n<=32) (hi:i < n) (hoi:ord kind<=i) (hX:∀ j,j < i->-4096<=x j/\x j<=4096)
 (hrow:w.rowIs g 3 n (cutV len x)) (hil:i<=len) (hT:z1v w 2) :
 Calls prog 297 #[O I kind,O I a,O I c,.slice (some ⟨g,0,none⟩) n n,O I i] w fun e w'=>e=.returned (O I (z0N kind a c x i))/\∃ m,w'=w.drewN m:=by
 by_cases h:kind=7
 . subst h
   exact z9H a c g n i len x w ha hc hn hi hoi hX hrow hil
 . refine z9I kind a c g n i len x w h2 zU hn hi ?_ hX hrow hil hT
   unfold ord at hoi;rw [if_neg h] at hoi;exact hoi
def binT (v:Int) (k:Nat):List UInt8:=(List.range k).map fun i=>ltr (decide (v / 2 ^ (k - 1 - i) % 2=1))
theorem z0e (v:Int) (k:Nat):(binT v k).length=k:=by simp [binT]
def z1o (v:Int):Nat:=if 0<=v then (2 * v).toNat else (-2 * v - 1).toNat
theorem z5w (v:Int):(z1o v:Int)=if 0<=v then 2 * v else -2 * v - 1:=by
 unfold z1o;split <;> omega
theorem z3y (v:Int) (m:Nat) (h:-(m:Int)<=v/\v<=m):z1o v<=2 * m:=by
 have:=z5w v;split at this <;> omega
def z7u (f k:Nat):List UInt8:=List.replicate (f / 2 ^ k) 48 ++ [49] ++ binT f k
def z7v (f k:Nat):Nat:=f / 2 ^ k+1+k
theorem z8B (f k:Nat):(z7u f k).length=z7v f k:=by simp [z7u,z7v,z0e];omega
def z0I (f:Nat->Nat) (k lo:Nat):Nat->List UInt8
 | 0=>[]
 | m+1=>z0I f k lo m ++ z7u (f (lo+m)) k
def plen (f:Nat->Nat) (k lo:Nat):Nat->Nat
 | 0=>0
 | m+1=>plen f k lo m+z7v (f (lo+m)) k
theorem z1h (f:Nat->Nat) (k lo:Nat):∀ m,(z0I f k lo m).length=plen f k lo m
 | 0=>rfl
 | m+1=>by simp [z0I,plen,z1h f k lo m,z8B]
theorem y1a (f k M:Nat) (h:f<=M) (hk:k<=14):z7v f k<=M+15:=by
 have:f / 2 ^ k<=f:=Nat.div_le_self _ _;unfold z7v;omega
theorem z2C (f:Nat->Nat) (k lo M:Nat) (hk:k<=14):∀ m,(∀ i,i < m->f (lo+i)<=M)->plen f k lo m<=m * (M+15)
 | 0,_=>by simp [plen]
 | m+1,h=>by
  have h1:=z2C f k lo M hk m (fun i hi=>h i zU);have h2:=y1a (f (lo+m)) k M (h m zU) hk;simp only [plen];rw [Nat.succ_mul];omega
def z1u (g:Nat->Nat):Nat->Nat
 | 0=>0
 | k+1=>if g (k+1) < g (z1u g k) then k+1 else z1u g k
theorem z4h (g:Nat->Nat):∀ k,z1u g k<=k
 | 0=>Nat.le_refl _
 | k+1=>by
  have:=z4h g k;unfold z1u;split <;> omega
def parK (f:Nat->Nat) (lo m:Nat):Nat:=z1u (fun k=>plen f k lo m) 14
theorem z5x (f:Nat->Nat) (lo m:Nat):parK f lo m<=14:=z4h _ _
def ploN (o sz i:Nat):Nat:=max (i * sz) o
def pcnt (o sz i:Nat):Nat:=(i+1) * sz - ploN o sz i
def parN (f:Nat->Nat) (o sz i:Nat):Nat:=parK f (ploN o sz i) (pcnt o sz i)
def z0p (f:Nat->Nat) (o sz:Nat):Nat->List UInt8
 | 0=>[]
 | i+1=>z0p f o sz i ++ (binT (parN f o sz i) 4 ++ z0I f (parN f o sz i) (ploN o sz i) (pcnt o sz i))
def z1I (f:Nat->Nat) (o sz:Nat):Nat->Nat
 | 0=>0
 | i+1=>z1I f o sz i+(4+plen f (parN f o sz i) (ploN o sz i) (pcnt o sz i))
theorem z1i (f:Nat->Nat) (o sz:Nat):∀ i,(z0p f o sz i).length=z1I f o sz i
 | 0=>rfl
 | i+1=>by simp [z0p,z1I,z1i f o sz i,z1h,z0e]
theorem z5y (f:Nat->Nat) (o sz:Nat) {i:Nat}:∀ {j:Nat},i<=j->z1I f o sz i<=z1I f o sz j
 | 0,h=>by
              have:i=0:=zU
              subst this;exact Nat.le_refl _
 | j+1,h=>by
  by_cases e:i=j+1
  . subst e;exact Nat.le_refl _
  . have:=z5y f o sz (i:=i) (j:=j) zU
    simp only [z1I];omega
def okC (n o c:Nat):Bool:=decide (n / 2 ^ c * 2 ^ c=n) && decide (o < n / 2 ^ c)
theorem z7w {n o:Nat} (h:o < n):okC n o 0=true:=by simp [okC,h]
theorem y5K {n o c:Nat} (h:okC n o (c+1)=true):okC n o c=true:=by
 simp only [okC,Bool.and_eq_true,decide_eq_true_eq] at h ⊢;obtain ⟨h1,h2⟩:=h;have e:n / 2 ^ (c+1)=n / 2 ^ c / 2:=by rw [Nat.pow_succ,Nat.div_div_eq_div_mul]
 have e2:2 ^ (c+1)=2 * 2 ^ c:=by rw [Nat.pow_succ,Nat.mul_comm]
 refine ⟨?_,?_⟩
 . have hd:2 ^ c ∣ n:=by
     refine ⟨n / 2 ^ (c+1) * 2,?_⟩;rw [← Nat.mul_assoc,Nat.mul_comm (2 ^ c),Nat.mul_assoc,Nat.mul_comm (2 ^ c) 2,← e2];exact h1.symm
   exact Nat.div_mul_cancel hd
 . rw [e] at h2
   have:=Nat.div_le_self (n / 2 ^ c) 2;omega
theorem z8C {n o c:Nat} (h:okC n o c=false):∀ {d:Nat},c<=d->okC n o d=false
 | 0,hd=>by
               have:c=0:=zU
               subst this;exact h
 | d+1,hd=>by
  by_cases e:c=d+1
  . subst e;exact h
  . have:=z8C h (d:=d) zU
    cases hx:okC n o (d+1) with
    | false=>rfl
    | true=>rw [y5K hx] at this;cases this
def cutL (f:Nat->Nat) (o n c:Nat):Nat:=2+z1I f o (n / 2 ^ c) (2 ^ c)
def cutT (f:Nat->Nat) (o n c:Nat):List UInt8:=binT c 2 ++ z0p f o (n / 2 ^ c) (2 ^ c)
theorem z1U (f:Nat->Nat) (o n c:Nat):(cutT f o n c).length=cutL f o n c:=by simp [cutT,cutL,z0e,z1i]
def z0o (f:Nat->Nat) (o n:Nat):Nat->Nat
 | 0=>0
 | c+1=>if okC n o (c+1)=true/\cutL f o n (c+1) < cutL f o n (z0o f o n c) then c+1 else z0o f o n c
theorem z2x (f:Nat->Nat) (o n:Nat):∀ c,z0o f o n c<=c
 | 0=>Nat.le_refl _
 | c+1=>by
  have:=z2x f o n c;unfold z0o;split <;> omega
theorem z6L (f:Nat->Nat) (o n:Nat) {c:Nat} (h:okC n o (c+1)=false):∀ {d:Nat},c<=d->z0o f o n d=z0o f o n c
 | 0,hd=>by
               have:c=0:=zU
               subst this;rfl
 | d+1,hd=>by
  by_cases e:c=d+1
  . subst e;rfl
  . have h2:=z8C h (d:=d+1) zU
    rw [z0o,if_neg (by rw [h2];simp)];exact z6L f o n h zU
theorem z2y (f:Nat->Nat) (o n:Nat) (h:o < n):∀ c,okC n o (z0o f o n c)=true
 | 0=>z7w h
 | c+1=>by
  unfold z0o;split
  . rename_i hh;exact hh.1
  . exact z2y f o n h c
def lag (x:Nat->Int) (k:Nat):Nat->Int
 | 0=>0
 | m+1=>lag x k m+(if k<=m then x m * x (m - k) else 0)
theorem z9J {u v:Int} {a b:Nat} (hu:-(a:Int)<=u/\u<=a) (hv:-(b:Int)<=v/\v<=b):-((a * b:Nat):Int)<=u * v/\u * v<=((a * b:Nat):Int):=by
 have h:=Int.natAbs_mul u v;have h1:u.natAbs<=a:=zU
 have h2:v.natAbs<=b:=zU
 have h3:u.natAbs * v.natAbs<=a * b:=Nat.mul_le_mul h1 h2;omega
theorem z6M (x:Nat->Int) (k:Nat):∀ m:Nat,(∀ i,i < m->-4096<=x i/\x i<=4096)->-16777216 * (m:Int)<=lag x k m/\lag x k m<=16777216 * (m:Int)
 | 0,_=>by simp [lag]
 | m+1,h=>by
  have h1:=z6M x k m (fun i hi=>h i zU);simp only [lag];split
  . have h2:=z9J (a:=4096) (b:=4096) (h m zU) (h (m - k) zU)
    have e:((4096 * 4096:Nat):Int)=16777216:=rfl;rw [e] at h2;omega
  . omega
def z2S (x:Nat->Int) (n:Nat):Int:=lag x 0 n * lag x 0 n - lag x 1 n * lag x 1 n
def z4i (v:Int):Int:=if v < -32 then -32 else if 31 < v then 31 else v
theorem z3z (v:Int):-32<=z4i v/\z4i v<=31:=by unfold z4i;split <;> (try split) <;> omega
def z2T (x:Nat->Int) (n:Nat):Int:=z4i (8 * lag x 1 n * (lag x 0 n - lag x 2 n) / z2S x n)
def z2U (x:Nat->Int) (n:Nat):Int:=z4i (8 * (lag x 0 n * lag x 2 n - lag x 1 n * lag x 1 n) / z2S x n)
def z0B (x:Nat->Int) (w:Nat):Nat->List UInt8
 | 0=>[]
 | m+1=>z0B x w m ++ binT (x m) w
theorem z0k (x:Nat->Int) (w:Nat):∀ m,(z0B x w m).length=m * w
 | 0=>by simp [z0B]
 | m+1=>by simp [z0B,z0k x w m,z0e,Nat.succ_mul]
def wA (kind:Nat) (x:Nat->Int) (n:Nat):Int:=if kind=7 then z2T x n else 0
def wB (kind:Nat) (x:Nat->Int) (n:Nat):Int:=if kind=7 then z2U x n else 0
theorem y1W (kind:Nat) (x:Nat->Int) (n:Nat):-32<=wA kind x n/\wA kind x n<=31:=by
 unfold wA;split
 . exact z3z _
 . omega
theorem y1X (kind:Nat) (x:Nat->Int) (n:Nat):-32<=wB kind x n/\wB kind x n<=31:=by
 unfold wB;split
 . exact z3z _
 . omega
def fR (kind:Nat) (x:Nat->Int) (n i:Nat):Nat:=z1o (x i - z0N kind (wA kind x n) (wB kind x n) x i)
def bC (kind:Nat) (x:Nat->Int) (n:Nat):Nat:=z0o (fR kind x n) (ord kind) n 3
def gT (kind w:Nat) (x:Nat->Int) (n:Nat):List UInt8 :=
 z0B x w (ord kind) ++ ((if kind=7 then binT (z2T x n) 6 ++ binT (z2U x n) 6 else []) ++ cutT (fR kind x n) (ord kind) n (bC kind x n))
def gL (kind w:Nat) (x:Nat->Int) (n:Nat):Nat:=ord kind * w+(if kind=7 then 12 else 0)+cutL (fR kind x n) (ord kind) n (bC kind x n)
theorem y3B (kind w:Nat) (x:Nat->Int) (n:Nat):(gT kind w x n).length=gL kind w x n:=by
 unfold gT gL;simp only [zN,z0k,z1U];split <;> simp [z0e] <;> omega
def z1c (x:Nat->Int) (n:Nat):Bool:=(List.range n).all fun i=>decide (x i=x 0)
theorem z2V (x:Nat->Int) (n:Nat):z1c x n=true↔∀ i,i < n->x i=x 0:=by simp [z1c]
def okG (kind:Nat) (x:Nat->Int) (n:Nat):Bool:=decide (ord kind < n) && (decide (kind ≠ 7) || decide (0 < z2S x n))
def z1G (kind w:Nat) (x:Nat->Int) (n:Nat):List UInt8:=if kind=0 then binT (x 0) w else if kind=1 then z0B x w n else gT kind w x n
def z1j (kind w:Nat) (x:Nat->Int) (n:Nat):Nat:=if kind=0 then w else if kind=1 then n * w else gL kind w x n
theorem z1B (kind w:Nat) (x:Nat->Int) (n:Nat):(z1G kind w x n).length=z1j kind w x n:=by
 unfold z1G z1j;split
 . exact z0e _ _
 . split
   . exact z0k _ _ _
   . exact y3B _ _ _ _
def z0H (w:Nat) (x:Nat->Int) (n:Nat):Nat->Nat
 | 0=>if z1c x n then 0 else 1
 | j+1=>if okG (j+2) x n=true/\z1j (j+2) w x n < z1j (z0H w x n j) w x n then j+2 else z0H w x n j
theorem z4j (w:Nat) (x:Nat->Int) (n:Nat):∀ j,z0H w x n j<=j+1
 | 0=>by unfold z0H;split <;> omega
 | j+1=>by
  have:=z4j w x n j;unfold z0H;split <;> omega
theorem z4k (w:Nat) (x:Nat->Int) (n:Nat):∀ j,2<=z0H w x n j->okG (z0H w x n j) x n=true
 | 0,h=>by unfold z0H at h;split at h <;> omega
 | j+1,h=>by
  unfold z0H at h ⊢;split
  . rename_i hh;exact hh.1
  . rename_i hh;rw [if_neg hh] at h;exact z4k w x n j h
def z1S (l:Nat->Int) (n k:Nat):Bool:=(List.range n).all fun i=>decide (l i % 2 ^ k=0)
def z3T (l:Nat->Int) (n:Nat):Bool:=(List.range n).any fun i=>decide (l i ≠ 0)
def z1C (l:Nat->Int) (n:Nat):Nat->Nat
 | 0=>0
 | k+1=>if (z1S l n (k+1) && z3T l n)=true then k+1 else z1C l n k
theorem z4l (l:Nat->Int) (n:Nat):∀ k,z1C l n k<=k
 | 0=>Nat.le_refl _
 | k+1=>by
  have:=z4l l n k;unfold z1C;split <;> omega
theorem z3A (l:Nat->Int) (n k:Nat):z1S l n k=true↔∀ i,i < n->l i % 2 ^ k=0:=by simp [z1S]
theorem z6N (l:Nat->Int) (n:Nat):∀ k i,i < n->l i % 2 ^ (z1C l n k)=0
 | 0,i,hi=>by simp [z1C,Int.emod_one]
 | k+1,i,hi=>by
  unfold z1C;split
  . rename_i h
    rw [Bool.and_eq_true] at h;exact (z3A l n (k+1)).1 h.1 i hi
  . exact z6N l n k i hi
def z0D (l:Nat->Int) (n width:Nat):Nat:=z1C l n (width - 1)
def z1Z (l:Nat->Int) (n width:Nat) (i:Nat):Int:=l i / 2 ^ (z0D l n width)
def z5z (width:Nat) (l:Nat->Int) (n:Nat):Nat:=z0H (width - z0D l n width) (z1Z l n width) n 6
def subT (width:Nat) (l:Nat->Int) (n:Nat):List UInt8 :=
 binT (z5z width l n) 4 ++ (binT (z0D l n width) 4 ++ z1G (z5z width l n) (width - z0D l n width) (z1Z l n width) n)
open Go.RowKit
theorem ip2 (k:Nat):((2 ^ k:Nat):Int)=(2:Int) ^ k:=by simp
theorem z2m (k:Nat):(0:Int) < 2 ^ k:=by rw [← ip2];exact Int.ofNat_lt.2 (Nat.two_pow_pos k)
theorem z7x {k m:Nat} (h:k<=m):(2:Int) ^ k ∣ 2 ^ m:=by
 refine ⟨2 ^ (m - k),?_⟩;rw [← Int.pow_add];congr 1;omega
theorem z8D (a:Int) (k:Nat) (hk:k<=64):a % 2 ^ k=0↔(BitVec.ofInt 64 a).toNat % 2 ^ k=0:=by
 have e:((BitVec.ofInt 64 a).toNat:Int)=a % 2 ^ 64:=by
  rw [BitVec.toNat_ofInt];have:0<=a % ((2 ^ 64:Nat):Int):=Int.emod_nonneg _ zR;rw [Int.toNat_of_nonneg this];simp
 have h1:(((BitVec.ofInt 64 a).toNat % 2 ^ k:Nat):Int)=a % 2 ^ k:=by
  rw [Int.natCast_emod,e,ip2,Int.emod_emod_of_dvd _ (z7x hk)]
 omega
theorem y5L (v:Int) (k:Nat) (hk:k<=64):I.wrap v % 2 ^ k=v % 2 ^ k:=by
 have h:∃ q:Int,I.wrap v=v+q * 2 ^ 64:=by
  rw [zK];refine ⟨-((v+9223372036854775808) / 18446744073709551616),?_⟩;have e:(2:Int) ^ 64=18446744073709551616:=rfl;rw [e];omega
 obtain ⟨q,hq⟩:=h;obtain ⟨r,hr⟩:=z7x hk;rw [hq,hr,Int.mul_left_comm,Int.add_mul_emod_self_left]
theorem y7A (a b:Int) (k:Nat) (hk:k<=64):bits .or .i64 a b % 2 ^ k=0↔a % 2 ^ k=0/\b % 2 ^ k=0:=by
 have e:bits .or .i64 a b=I.wrap (((BitVec.ofInt 64 a ||| BitVec.ofInt 64 b).toNat:Nat):Int):=rfl;rw [e,y5L _ _ hk,BitVec.toNat_or,z8D a k hk,z8D b k hk];generalize (BitVec.ofInt 64 a).toNat=A;generalize (BitVec.ofInt 64 b).toNat=B;rw [← ip2,← Int.natCast_emod,Nat.or_mod_two_pow];have:∀ x y:Nat,((x ||| y:Nat):Int)=0↔x=0/\y=0:=fun x y=>by
  constructor
  . intro h
    have h':x ||| y=0:=zU
    exact ⟨Nat.eq_zero_of_le_zero (h' ▸ Nat.left_le_or),Nat.eq_zero_of_le_zero (h' ▸ Nat.right_le_or)⟩
  . rintro ⟨rfl,rfl⟩;rfl
 exact this _ _
def OrOf (l:Nat->Int) (i:Nat) (v:Int):Prop:=(∀ k,k<=64->(v % 2 ^ k=0↔∀ j,j < i->l j % 2 ^ k=0))/\-9223372036854775808<=v/\v<=9223372036854775807
theorem OrOf.zero (l:Nat->Int):OrOf l 0 0:=⟨fun k _=>by simp,zU,zU⟩
theorem OrOf.step {l:Nat->Int} {i:Nat} {v:Int} (h:OrOf l i v):OrOf l (i+1) (bits .or .i64 v (l i)):=by
 refine ⟨fun k hk=>?_,?_⟩
 . rw [y7A _ _ _ hk,h.1 k hk]
   constructor
   . rintro ⟨h1,h2⟩ j hj
     by_cases e:j=i
     . subst e;exact h2
     . exact h1 j zU
   . intro h1;exact ⟨fun j hj=>h1 j zU,h1 i zU⟩
 . have e:∃ z:Int,bits .or .i64 v (l i)=I.wrap z:=⟨_,rfl⟩
   obtain ⟨z,hz⟩:=e;rw [hz,zK];omega
theorem OrOf.nz {l:Nat->Int} {i:Nat} {v:Int} (h:OrOf l i v) (hl:∀ j,j < i->-4096<=l j/\l j<=4096):v=0↔z3T l i=false:=by
 have h64:=h.1 64 zY;have e:(2:Int) ^ 64=18446744073709551616:=rfl;rw [e] at h64;have hv:v=0↔v % 18446744073709551616=0:=by have:=h.2;omega
 rw [hv,h64];simp only [z3T,List.any_eq_false,List.mem_range,decide_eq_true_eq,ne_eq,Decidable.not_not];constructor
 . intro hh j hj;have:=hh j hj;have:=hl j hj;omega
 . intro hh j hj;rw [hh j hj];rfl
theorem z9K {l:Nat->Int} {n k m:Nat} (h:z1S l n m=true) (hk:k<=m):z1S l n k=true:=by
 rw [z3A] at h ⊢;intro i hi;have h1:=Int.dvd_of_emod_eq_zero (h i hi);exact Int.emod_eq_zero_of_dvd (Int.dvd_trans (z7x hk) h1)
theorem z8E {l:Nat->Int} {n t:Nat} (h1:z1S l n t=true) (h2:z1S l n (t+1)=false) (h3:z3T l n=true):∀ K,t<=K->z1C l n K=t
 | 0,h=>by
              have:t=0:=zU
              subst this;rfl
 | K+1,h=>by
  by_cases e:t=K+1
  . subst e;rw [z1C,if_pos (by rw [h1,h3];rfl)]
  . rw [z1C,if_neg,z8E h1 h2 h3 K zU]
    intro hc;rw [Bool.and_eq_true] at hc;rw [z9K hc.1 (by omega:t+1<=K+1)] at h2;cases h2
theorem z5A {l:Nat->Int} {n:Nat} (h3:z3T l n=false):∀ K,z1C l n K=0
 | 0=>rfl
 | K+1=>by rw [z1C,if_neg (by rw [h3];simp),z5A h3 K]
theorem y1b:∀ (B u:Nat),u<=B->0 < u->∃ t m,u=2 ^ t * (2 * m+1)
 | 0,u,h,h0=>absurd h0 zU
 | B+1,u,h,h0=>by
  by_cases e:u % 2=1
  . exact ⟨0,u / 2,by simp;omega⟩
  . obtain ⟨t,m,hm⟩:=y1b B (u / 2) zU zU
    refine ⟨t+1,m,?_⟩;rw [Nat.pow_succ,Nat.mul_comm (2 ^ t) 2,Nat.mul_assoc,← hm];omega
theorem z9L (m s:Nat) (hs:0 < s) (h:2 * m < 2 ^ s):(2 * m+1) &&& (2 ^ s - (2 * m+1))=1:=by
 apply Nat.eq_of_testBit_eq;intro i;rw [Nat.testBit_and,Nat.testBit_two_pow_sub_succ h];cases i with
 | zero =>
  simp [hs]
 | succ i =>
  have e1:Nat.testBit (2 * m+1) (i+1)=Nat.testBit m i:=by
   rw [Nat.testBit_succ];congr 1;omega
  have e2:Nat.testBit (2 * m) (i+1)=Nat.testBit m i:=by
   rw [Nat.testBit_succ];congr 1;omega
  have e3:Nat.testBit 1 (i+1)=false:=by rw [Nat.testBit_succ];simp
  rw [e1,e2,e3];cases Nat.testBit m i <;> simp
theorem y7B (t m:Nat) (ht:t < 64) (h:2 ^ t * (2 * m+1) < 2 ^ 64):bits .and .u64 ((2 ^ t * (2 * m+1):Nat):Int) (IntKind.u64.wrap (-((2 ^ t * (2 * m+1):Nat):Int)))=((2 ^ t:Nat):Int):=by
 generalize hu:2 ^ t * (2 * m+1)=u at *;have hu0:0 < u:=by rw [← hu];exact Nat.mul_pos (Nat.two_pow_pos t) zU
 have e0:bits .and .u64 (u:Int) (IntKind.u64.wrap (-(u:Int)))=IntKind.u64.wrap (((BitVec.ofInt 64 (u:Int) &&& BitVec.ofInt 64 (IntKind.u64.wrap (-(u:Int)))).toNat:Nat):Int):=rfl;have e64:(2:Nat) ^ 64=18446744073709551616:=rfl;rw [e64] at h;have e1:(BitVec.ofInt 64 (u:Int)).toNat=u:=by
  rw [BitVec.toNat_ofInt,e64];omega
 have e2:(BitVec.ofInt 64 (IntKind.u64.wrap (-(u:Int)))).toNat=2 ^ 64 - u:=by
  rw [BitVec.toNat_ofInt,e64,IntKind.wrap_u64];omega
 have e3:u &&& (2 ^ 64 - u)=2 ^ t:=by
  have f1:u=(2 * m+1) <<< t:=by rw [Nat.shiftLeft_eq,Nat.mul_comm];exact hu.symm
  have f3:2 ^ 64=2 ^ t * 2 ^ (64 - t):=by rw [← Nat.pow_add];congr 1;omega
  have f2:2 ^ 64 - u=(2 ^ (64 - t) - (2 * m+1)) <<< t:=by
   rw [Nat.shiftLeft_eq,Nat.mul_comm,Nat.mul_sub,← f3,hu]
  have f4:2 * m < 2 ^ (64 - t):=by
   rw [← e64,f3,← hu] at h;have:=Nat.lt_of_mul_lt_mul_left h;omega
  rw [f2,f1,← Nat.shiftLeft_and_distrib,z9L m (64 - t) zU f4,Nat.shiftLeft_eq,Nat.one_mul]
 rw [e0,BitVec.toNat_and,e1,e2,e3,IntKind.wrap_u64];have:2 ^ t<=u:=by rw [← hu];exact Nat.le_mul_of_pos_right _ zU
 omega
theorem OrOf.tz {l:Nat->Int} {n width:Nat} {v:Int} (h:OrOf l n v) (hw1:1<=width) (hw:width<=13) (hl:∀ j,j < n->z0A width (l j)=true) (hv:v ≠ 0) :
 ∃ m,(IntKind.u64.wrap v)=((2 ^ (z0D l n width) * (2 * m+1):Nat):Int)/\2 ^ (z0D l n width) * (2 * m+1) < 2 ^ 64/\z0D l n width<=12:=by
 have hl':∀ j,j < n->-4096<=l j/\l j<=4096:=fun j hj=>z3S (hl j hj) hw
 have hr:=h.2;obtain ⟨u,hu⟩:∃ u:Nat,IntKind.u64.wrap v=u:=⟨(v % 18446744073709551616).toNat,by rw [IntKind.wrap_u64];omega⟩;have hu0:0 < u/\u < 18446744073709551616:=by rw [IntKind.wrap_u64] at hu;omega
 obtain ⟨t,m,htm⟩:=y1b u u zY hu0.1;have hmod:∀ k,k<=64->((u % 2 ^ k=0)↔z1S l n k=true):=fun k hk=>by
  rw [z3A,← h.1 k hk];obtain ⟨q,hq⟩:∃ q:Int,v=u+q * 2 ^ 64:=⟨v / 18446744073709551616,by
   have e:(2:Int) ^ 64=18446744073709551616:=rfl;rw [IntKind.wrap_u64] at hu;rw [e];omega⟩
  obtain ⟨r,hr⟩:=z7x hk;rw [hq,hr,Int.mul_left_comm,Int.add_mul_emod_self_left,← ip2,← Int.natCast_emod];omega
 have hnz:z3T l n=true:=by
  cases e:z3T l n with
  | true=>rfl
  | false=>exact absurd ((h.nz hl').2 e) hv
 have ht64:t < 64:=by
  by_cases e:t < 64
  . exact e
  . have h1:2 ^ 64<=2 ^ t:=zE zU zU
    have h2:2 ^ t<=u:=by rw [htm];exact Nat.le_mul_of_pos_right _ zU
    have e64:(2:Nat) ^ 64=18446744073709551616:=rfl;omega
 have d1:z1S l n t=true:=(hmod t zU).1 (by rw [htm];exact Nat.mul_mod_right _ _);have d2:z1S l n (t+1)=false:=by
  cases e:z1S l n (t+1) with
  | false=>rfl
  | true =>
   have h4:=(hmod (t+1) zU).2 e;rw [htm,Nat.pow_succ,Nat.mul_mod_mul_left,show (2 * m+1) % 2=1 by omega,Nat.mul_one] at h4;exact absurd h4 (Nat.ne_of_gt (Nat.two_pow_pos t))
 have hlt:t<=width - 1:=by
  simp only [z3T,List.any_eq_true,List.mem_range,decide_eq_true_eq] at hnz;obtain ⟨j,hj,hz⟩:=hnz;have hd:=Int.dvd_of_emod_eq_zero ((z3A l n t).1 d1 j hj);have hf:=hl j hj;unfold z0A at hf;rw [z0J] at hf;have h1:=Int.natAbs_dvd_natAbs.2 hd;have h2:=Nat.le_of_dvd zU h1;rw [← ip2,Int.natAbs_natCast] at h2;have hf2:(l j).natAbs<=2 ^ (width - 1):=by
   rw [← ip2] at hf;omega
  exact (Nat.pow_le_pow_iff_right zU).1 (zO h2 hf2)
 have es:z0D l n width=t:=z8E d1 d2 hnz _ hlt;rw [es];have e64:(2:Nat) ^ 64=18446744073709551616:=rfl;exact ⟨m,by rw [← htm];exact hu,by rw [← htm,e64];exact hu0.2,zU⟩
theorem OrOf.shift0 {l:Nat->Int} {n width:Nat} {v:Int} (h:OrOf l n v) (hw:width<=13) (hl:∀ j,j < n->z0A width (l j)=true) (hv:v=0):z0D l n width=0 :=
 z5A ((h.nz fun j hj=>z3S (hl j hj) hw).1 hv) _
theorem z5B (width:Nat) (l:Nat->Int) (n:Nat):(subT width l n).length=8+z1j (z5z width l n) (width - z0D l n width) (z1Z l n width) n:=by
 unfold subT;rw [zN,zN,z0e,z0e,z1B];omega
theorem z5C (w:Nat) (x:Nat->Int) (n:Nat) (hn1:1<=n):∀ j,z1j (z0H w x n j) w x n<=n * w
 | 0=>by
  unfold z0H;split
  . show w<=n * w
    exact Nat.le_mul_of_pos_left _ hn1
  . exact Nat.le_refl _
 | j+1=>by
  have ih:=z5C w x n hn1 j;unfold z0H;split
  . rename_i h;omega
  . exact ih
theorem y7C (width:Nat) (l:Nat->Int) (n:Nat) (hn1:1<=n):(subT width l n).length<=8+n * width:=by
 rw [z5B];have h:=z5C (width - z0D l n width) (z1Z l n width) n hn1 6;have h2:n * (width - z0D l n width)<=n * width:=Nat.mul_le_mul_left _ zU;unfold z5z;omega
theorem z9M:(prog.info? 278).map (·.size)=some 2:=zT
theorem z1s:(prog.info? 5).map (fun i=>(i.zero,i.size,i.bytes))=some (some (.int .u8 0),1,1):=zT
theorem z8F:prog.cellsOf 5=1:=zT
def Lies (T:TypeId):Prop:=liesAt prog prog.depth T (2 / prog.cellsOf T) 0 278 1=true/\T ≠ 5
theorem z9N:Lies 326:=⟨zT,zR⟩
theorem z4Z:Lies 278:=⟨zT,zR⟩
set_option maxHeartbeats 1000000 in
set_option maxRecDepth 100000 in
theorem z2W (T:TypeId) (hT:Lies T) (B b:Nat) (bs:List Value) (w:World) (h:Lib.IsBuilderF T 5 B b bs w) :
 Calls prog 251 #[.pointer (some ⟨b,0,none⟩)] w fun e w'=>e=.returned (.tuple #[])/\(Lib.BuilderAtF T 5 B b (.pointer (some ⟨b,0,none⟩)) bs w'/\Below B w w'/\Lib.OthersKept 5 (some b) w w'):=by
 obtain ⟨j,hj,hjs⟩:=Option.map_eq_some_iff.1 z9M;rcases h with h | h
 . have h0:=h.cell0
   have hsh:=h.shape;have hfz:=h.frozen0;have HH:=zZ h;clear h
   go_enter func251,ntmps251
   go_wp2;rw [Lib.run_to_unsafe w ⟨b,0,none⟩ underlying276 underlying261 hj (by rw [hjs];decide) hsh (Nat.zero_lt_succ 1)];simp only [Result.andThen];rw [Oper.upon_value];go_wp2;rw [run_callFunc_extern func284 zT zT zT (e:=Extern.AbiNoEscape.same) zT];rw [Lib.run_noEscape];simp only [Result.andThen];rw [Oper.upon_value];go_wp2;rw [Lib.run_from_unsafe w ⟨b,0,none⟩ underlying261 underlying276 hj hsh hT.1];simp only [Result.andThen];rw [Oper.upon_value];go_wp2;go_end0;exact ⟨rfl,HH.out.used _,(Below.refl B w).setCell (p:=⟨b,0,none⟩) HH.out.1 _,(Lib.OthersKept.refl _ _ w).setCell ⟨b,0,none⟩ rfl _⟩
 . have h0:=h.cell0
   have HH:=zZ h;clear h;have hne:=fun u:World=>Lib.run_neq_ptr_same (P:=prog) (w:=u) (j:=j) (⟨b,0,none⟩:Addr) underlying276 hj
   go_enter func251,ntmps251
   go_wp2;go_end0;exact ⟨rfl,HH.out,Below.refl B _,Lib.OthersKept.refl _ _ _⟩
set_option maxHeartbeats 2000000 in
set_option maxRecDepth 100000 in
theorem z7y (T:TypeId) (hT:Lies T) (B b:Nat) (bs:List Value) (c:Int) (w:World) (h:Lib.IsBuilderF T 5 B b bs w) (hlen:bs.length+1<=140737488355328) (hBw:B<=w.heap.size) :
 Calls prog 287 #[.pointer (some ⟨b,0,none⟩),.int .u8 c] w fun e w'=>e=.returned .nilIface/\(Lib.BuilderAtF T 5 B b (.pointer (some ⟨b,0,none⟩)) (bs ++ [.int .u8 c]) w'/\Below B w w'/\Lib.OthersKept 5 (some b) w w'):=by
 obtain ⟨i0,hi,hz0,hz1,hz2⟩:=info_parts z1s;have HH:=zZ h;clear h
 go_enter func287,ntmps287
 go_wp2_with (go_at_call 251;refine (z2W T hT B b bs _ HH.out).mono ?_)
 rintro e w1 ⟨rfl,h1,hb1,hk1⟩;obtain ⟨hB,v,hbk,hown,hne⟩:=h1;have c0:w1.cell? ⟨b,0,none⟩=some (.pointer (some ⟨b,0,none⟩)):=by rw [Lib.cell_of_heap hbk];rfl
 have c1:w1.cell? ⟨b,1,none⟩=some v:=by rw [Lib.cell_of_heap hbk];rfl
 go_wp2_with (at_builtin;refine wpList_append_ownF _ rfl _ _ 33 rfl B 5 i0 (.int .u8 0) 1 1 underlying33 hi hz0 hz1 hz2 rfl zR _ _ _ rfl (hown.alloc _) ⟨w1.heap.size,0,none⟩ 1 1 [.int .u8 c] rfl rfl ?c1 ?c2 ?c3 ?c4 ?c5 ?_)
 case c1 =>
  intro j u hj
  match j,hj with
  | 0,hj=>simp at hj;subst hj;simp [Addr.add]
 case c2=>intro u hu;simp at hu;subst hu;rfl
 case c3=>unfold maxLen;omega
 case c4=>omega
 case c5=>have:=hb1.size;simp;omega
 intro v' w2 hown' hgrow _;have hlt:b < w1.heap.size:=(Array.getElem?_eq_some_iff.1 hbk).1;have hb2:w2.heap[b]?=some (.cells #[.pointer (some ⟨b,0,none⟩),v] T (0,0)):=by
  rw [hgrow.block b (by simp;omega) (fun e=>hne e.symm),Lib.alloc_old w1 _ b hlt];exact hbk
 have d0:w2.cell? ⟨b,0,none⟩=some (.pointer (some ⟨b,0,none⟩)):=by rw [Lib.cell_of_heap hb2];rfl
 have d1:w2.cell? ⟨b,1,none⟩=some v:=by rw [Lib.cell_of_heap hb2];rfl
 have f1:w2.frozen? ⟨b,1,none⟩=false:=Lib.frozen_of_heap hb2 1;obtain ⟨g,cap,rfl⟩:∃ g cap,v'=.slice (some ⟨g,0,none⟩) (bs.length+1) cap:=by
  rcases hown'.2 with ⟨_,h0⟩ | ⟨g,cap,cur,fz,hv,_⟩
  . omega
  . exact ⟨g,cap,hv⟩
 go_wp2;go_ret;refine ⟨rfl,?_,?_,((hk1.alloc _).grown hgrow (Lib.ownsRowF_kind (hown.alloc _))).setCell ⟨b,1,none⟩ rfl _⟩
 . exact Lib.BuilderAtF.put (T:=T) (e:=5) hB hb2 (bs':=bs ++ [.int .u8 c]) (by simpa using hown') hT.2
 . exact ((hb1.alloc (by have:=hb1.size;omega) _).grown hgrow (by have:=hb1.size;simp;omega) (fun k hk=>(hown.lt k hk).1)).setCell (p:=⟨b,1,none⟩) hB _
set_option maxHeartbeats 2000000 in
set_option maxRecDepth 100000 in
theorem z4D (T:TypeId) (B b:Nat) (l:List UInt8) (w:World) (h:Lib.IsBuilderF T 5 B b (Lib.byteCells l) w) (h0:l ≠ []) :
 Calls prog 201 #[.pointer (some ⟨b,0,none⟩)] w fun e w'=>e=.returned (.string ⟨l.toArray⟩)/\Below B w w':=by
 obtain ⟨p,hAt⟩:∃ p,Lib.BuilderAtF T 5 B b p (Lib.byteCells l) w:=by
  rcases h with h | h
  . exact ⟨_,h⟩
  . exact ⟨_,h⟩
 obtain ⟨hB,v,hbk,hown,hne⟩:=hAt;have hl0:l.length ≠ 0:=by simpa using h0
 rw [Lib.byteCells_length] at hown;obtain ⟨g,cap,cur,fz,rfl,hbg,hg,hfz,hnc,hcm,hcs,htake⟩:∃ g cap cur fz,v=.slice (some ⟨g,0,none⟩) l.length cap/\B<=g/\w.heap[g]?=some (.cells cur 5 fz)/\fz.2<=l.length * 1/\l.length<=cap/\cap<=maxLen/\cur.size=cap * 1/\cur.toList.take (l.length * 1)=Lib.byteCells l:=by
  rcases hown.2 with ⟨_,hz⟩ | ⟨g,cap,cur,fz,hv,r⟩
  . exact absurd hz hl0
  . exact ⟨g,cap,cur,fz,hv,r⟩
 have c1:w.drew.cell? ⟨b,1,none⟩=some (.slice (some ⟨g,0,none⟩) l.length cap):=by
  have:w.drew.heap[b]?=some (.cells #[p,.slice (some ⟨g,0,none⟩) l.length cap] T (0,0)):=hbk;rw [Lib.cell_of_heap this];rfl
 have hSD:(Builtin.unsafeSliceData_ #[33] 322 #[.slice (some ⟨g,0,none⟩) l.length cap]).run prog w.drew=.ok (.pointer (some ⟨g,0,none⟩)) w.drew :=
  Lib.run_unsafeSliceData_row _ _ _ _ _ _ zU
 have hUS:(Builtin.unsafeString_ #[322,3] 9 #[.pointer (some ⟨g,0,none⟩),O I l.length]).run prog w.drew=.ok (.string ⟨l.toArray⟩) (w.drew.freeze ⟨g,0,none⟩ l.length):=by
  refine Lib.run_unsafeString_row w.drew 322 3 9 5 underlying322 z8F g cur.size (by have hg':w.drew.heap[g]?=some (.cells cur 5 fz):=hg;simp [World.shape?,hg']) l h0 zU (by unfold maxLen at hcm;omega) ?_;intro j x hx;have:=hown.cells (g:=g) rfl j (.int .u8 x.toNat) (by simp [Lib.byteCells,hx]);exact this
 clear hown hg htake hbk
 go_enter func201,ntmps201
 go_wp2
 go_region
 all_goals (go_wp2;go_ret;exact ⟨rfl,Lib.below_freeze (Below.drew (Below.refl B w)) (p:=⟨g,0,none⟩) hbg _⟩)
def Wr (w:World) (B b:Nat) (T:List UInt8):Prop:=Lib.IsBuilderF 326 5 B b (Lib.byteCells T) w
def KeptW (B b:Nat) (w w':World):Prop:=Below B w w'/\Lib.OthersKept 5 (some b) w w'
theorem KeptW.refl (B b:Nat) (w:World):KeptW B b w w:=⟨Below.refl _ _,Lib.OthersKept.refl _ _ _⟩
theorem KeptW.trans {B b:Nat} {w w' w'':World} (h:KeptW B b w w') (k:KeptW B b w' w''):KeptW B b w w'':=⟨h.1.trans k.1,h.2.trans k.2⟩
theorem Wr.drew {w:World} {B b:Nat} {T:List UInt8} (h:Wr w B b T):Wr w.drew B b T:=h
theorem KeptW.drew {B b:Nat} {w w':World} (h:KeptW B b w w'):KeptW B b w w'.drew:=⟨h.1.drew,h.2.drew⟩
theorem z4E (B b:Nat) (T:List UInt8) (c:UInt8) (w:World) (h:Wr w B b T) (hlen:T.length+1<=140737488355328) (hBw:B<=w.heap.size) :
 Calls prog 287 #[.pointer (some ⟨b,0,none⟩),.int .u8 (c.toNat:Int)] w fun e w'=>e=.returned .nilIface/\Wr w' B b (T ++ [c])/\KeptW B b w w':=by
 refine (z7y 326 z9N B b _ (c.toNat:Int) w h (by rw [Lib.byteCells_length];exact hlen) hBw).mono ?_;rintro e w' ⟨rfl,h1,h2,h3⟩;refine ⟨rfl,.inr ?_,h2,h3⟩;have:Lib.byteCells (T ++ [c])=Lib.byteCells T ++ [.int .u8 (c.toNat:Int)]:=by simp [Lib.byteCells]
 rw [this];exact h1
theorem y7D (x:Int):bits .and .i64 x 1=x % 2:=by
 have e:bits .and .i64 x 1=I.wrap (((BitVec.ofInt 64 x &&& BitVec.ofInt 64 1).toNat:Nat):Int):=rfl;have e1:(BitVec.ofInt 64 1).toNat=1:=zR
 have e2:((BitVec.ofInt 64 x).toNat:Int)=x % 18446744073709551616:=by
  rw [BitVec.toNat_ofInt];have e64:((2 ^ 64:Nat):Int)=18446744073709551616:=rfl;rw [e64];omega
 rw [e,BitVec.toNat_and,e1,Nat.and_one_is_mod,zK];omega
theorem y5M (v:Int) (i:Nat):IntKind.u8.wrap (48+IntKind.u8.wrap (bits .and .i64 (v / 2 ^ i) 1))=((ltr (decide (v / 2 ^ i % 2=1))).toNat:Int):=by
 rw [y7D,z7r];generalize v / 2 ^ i=y;rw [IntKind.wrap_u8,IntKind.wrap_u8]
 by_cases h:y % 2=1
 . simp [h]
 . have h0:y % 2=0:=zU
   simp [h0]
def binP (v:Int) (k j:Nat):List UInt8:=(List.range j).map fun i=>ltr (decide (v / 2 ^ (k - 1 - i) % 2=1))
theorem y3C (v:Int) (k j:Nat):binP v k (j+1)=binP v k j ++ [ltr (decide (v / 2 ^ (k - 1 - j) % 2=1))]:=by
 simp [binP,List.range_succ]
theorem y5N (v:Int) (k j:Nat):(binP v k j).length=j:=by simp [binP]
set_option maxHeartbeats 1000000 in
theorem z1k (B b:Nat) (T:List UInt8) (v:Int) (k:Nat) (w:World) (h:Wr w B b T) (hk:k<=16) (hlen:T.length<=100000000000) (hBw:B<=w.heap.size) :
 Calls prog 257 #[.pointer (some ⟨b,0,none⟩),O I v,O I k] w fun e w'=>e=.returned (.tuple #[])/\Wr w' B b (T ++ binT v k)/\KeptW B b w w':=by
 have HH:=zZ h;clear h;have v1:I.wrap ((k:Int) - 1)=(k:Int) - 1:=by rw [zK];omega
 go_enter func257,ntmps257
 go_wp2
 go_loopw [6] (fun iv wr=>∃ j:Nat,j<=k/\iv=O I ((k:Int) - 1 - j)/\Hid (Wr wr B b (T ++ binP v k j)/\KeptW B b w wr)) (fun iv _=>(intOf iv+1).toNat)
 case atStart=>exact ⟨0,zU,by simp,by simpa [binP] using HH.out,KeptW.refl _ _ _⟩
 case round =>
  obtain ⟨j,hj,rfl,HI⟩:=hrel
  by_cases hlt:j < k
  . have HW:=zZ (z4E B b (T ++ binP v k j) (ltr (decide (v / 2 ^ (k - 1 - j) % 2=1))) wr.drew HI.out.1.drew (by rw [zN,y5N];omega) (zO hBw HI.out.2.1.size))
    have hb:=y5M v (k - 1 - j);have t1:((k:Int) - 1 - (j:Int)).toNat=k - 1 - j:=zU
    have t2:decide (0<=(k:Int) - 1 - (j:Int))=true:=zL zU;have v2:I.wrap ((k:Int) - 1 - (j:Int) - 1)=(k:Int) - 1 - (j:Int) - 1:=by rw [zK];omega
    have HJ:=zZ (y3C v k j);go_wp2
    go_region_with (go_at_call 287;refine (HW.out).mono ?_;rintro e w1 ⟨rfl,h1,h2⟩;have H1:=zZ h1;have H2:=zZ h2;clear h1 h2 HW)
    go_wp2
    go_roundw
    case rel=>exact ⟨j+1,zU,by congr 1;omega,by rw [HJ.out,← zI];exact H1.out,HI.out.2.drew.trans H2.out⟩
    case measure=>simp [intOf];omega
  . have e:j=k:=zU
    subst e;have t2:decide (0<=(j:Int) - 1 - (j:Int))=false:=zM zU;go_wp2;go_end0;exact ⟨rfl,HI.out.1,HI.out.2⟩
set_option maxHeartbeats 1000000 in
theorem z3q (B b:Nat) (T:List UInt8) (x:Nat->Int) (a:Option Addr) (n c k:Nat) (w:World) (h:Wr w B b T) (hn:n<=32) (hk:k<=16) (hlen:T.length<=10000000000) (hBw:B<=w.heap.size)
 (hI:∀ u,KeptW B b w u->IntsAt u a n x) :
 Calls prog 291 #[.pointer (some ⟨b,0,none⟩),.slice a n c,O I k] w fun e w'=>e=.returned (.tuple #[])/\Wr w' B b (T ++ z0B x k n)/\KeptW B b w w':=by
 have HH:=zZ h;have HI:=zZ hI;clear h hI
 go_enter func291,ntmps291
 go_wp2
 go_loopw [10] (fun iv wr=>∃ j:Nat,j<=n/\iv=O I j/\Hid (Wr wr B b (T ++ z0B x k j)/\KeptW B b w wr)) (fun iv _=>n - (intOf iv).toNat)
 case atStart=>exact ⟨0,zU,rfl,by simpa [z0B] using HH.out,KeptW.refl _ _ _⟩
 case round =>
  obtain ⟨j,hj,rfl,HR⟩:=hrel
  by_cases hlt:j < n
  . obtain ⟨bb,off,hx,hc⟩:=(HI.out wr HR.out.2).open zU
    cases hx;have hcj:=hc j hlt;have hl:(T ++ z0B x k j).length<=100000000000:=by
     rw [zN,z0k];have:j * k<=32 * 16:=Nat.mul_le_mul zU hk;omega
    have HW:=zZ (fun u (hu:Wr u B b (T ++ z0B x k j)) (hs:B<=u.heap.size)=>z1k B b (T ++ z0B x k j) (x j) k u hu hk hl hs);have HJ:=zZ (show z0B x k (j+1)=z0B x k j ++ binT (x j) k from rfl);have hBr:=zO hBw HR.out.2.1.size;clear hc
    go_wp2_with (go_at_call 257;refine (HW.out _ ?_ ?_).mono ?_;exact HR.out.1;exact hBr;rintro e w1 ⟨rfl,h1,h2⟩;have H1:=zZ h1;have H2:=zZ h2;clear h1 h2 HW)
    go_roundw
    case rel=>exact ⟨j+1,zU,zS,by rw [HJ.out,← zI];exact H1.out,HR.out.2.trans H2.out⟩
    case measure=>simp [intOf];omega
  . have e:j=n:=zU
    subst e;go_wp2;go_end0;exact ⟨rfl,HR.out.1,HR.out.2⟩
theorem y1c (v:Int) (w:World) (h:-1000000<=v/\v<=1000000) :
 Calls prog 336 #[O I v] w fun e w'=>e=.returned (O I (z1o v))/\w'=w:=by
 have hf:=z5w v
 by_cases h0:0<=v
 . rw [if_pos h0] at hf
   have HF:=zZ hf;clear hf
   go_enter func336,ntmps336
   go_wp2;go_ret;exact ⟨z0q (by rw [HF.out]),rfl⟩
 . rw [if_neg h0] at hf
   have HF:=zZ hf;clear hf
   go_enter func336,ntmps336
   go_wp2;go_ret;exact ⟨z0q (by rw [HF.out]),rfl⟩
set_option maxHeartbeats 1000000 in
theorem z8G (B b:Nat) (T:List UInt8) (v:Int) (k:Nat) (w:World) (h:Wr w B b T) (hv:-1000000<=v/\v<=1000000) (hk:k<=14) (hlen:T.length<=10000000000) (hBw:B<=w.heap.size) :
 Calls prog 317 #[.pointer (some ⟨b,0,none⟩),O I v,O I k] w fun e w'=>e=.returned (.tuple #[])/\Wr w' B b (T ++ z7u (z1o v) k)/\KeptW B b w w':=by
 have HH:=zZ h;have HF:=zZ (fun u=>y1c v u hv);have hfl:=z3y v 1000000 hv;clear h hv;have HRT:Hid (z7u (z1o v) k=List.replicate (z1o v / 2 ^ k) 48 ++ [49] ++ binT (z1o v) k):=rfl;generalize hf:z1o v=f at *;have hm:min k 64=k:=zU
 obtain ⟨q,hq⟩:∃ q:Nat,q=f / 2 ^ k:=⟨_,rfl⟩;have hqi:(f:Int) / 2 ^ k=(q:Int):=by rw [hq];simp
 have hqf:q<=f:=by rw [hq];exact Nat.div_le_self _ _
 rw [← hq] at HRT;have HWN:=zZ (fun u (hu:Wr u B b (T ++ List.replicate q 48 ++ [49])) (hs:B<=u.heap.size)=>z1k B b (T ++ List.replicate q 48 ++ [49]) (f:Int) k u hu zU (by simp;omega) hs);have HW1:=zZ (fun u (hu:Wr u B b (T ++ List.replicate q 48)) (hs:B<=u.heap.size)=>z4E B b (T ++ List.replicate q 48) 49 u hu (by simp;omega) hs);have HQ:=zZ hq;clear hq hf
 go_enter func317,ntmps317
 go_wp2_with (go_at_call 336;refine (HF.out _).mono ?_;rintro e w1 ⟨rfl,hw⟩;subst w1;clear HF)
 go_loopw [12] (fun iv wr=>∃ j:Nat,j<=q/\iv=O I j/\Hid (Wr wr B b (T ++ List.replicate j 48)/\KeptW B b w wr)) (fun iv _=>q - (intOf iv).toNat)
 case atStart=>exact ⟨0,zU,rfl,by simpa using HH.out,KeptW.refl _ _ _⟩
 case round =>
  obtain ⟨j,hj,rfl,HR⟩:=hrel;have hBr:=zO hBw HR.out.2.1.size
  by_cases hlt:j < q
  . have HW:=zZ (fun u (hu:Wr u B b (T ++ List.replicate j 48)) (hs:B<=u.heap.size)=>z4E B b (T ++ List.replicate j 48) 48 u hu (by simp;omega) hs)
    clear HWN HW1
    go_wp2_with (go_at_call 287;refine (HW.out _ ?_ ?_).mono ?_;exact HR.out.1;exact hBr;rintro e w1 ⟨rfl,h1,h2⟩;have H1:=zZ h1;have H2:=zZ h2;clear h1 h2 HW)
    go_roundw
    case rel=>exact ⟨j+1,zU,zS,by rw [List.replicate_succ',← zI];exact H1.out,HR.out.2.trans H2.out⟩
    case measure=>simp [intOf];omega
  . have e:j=q:=zU
    subst e
    go_wp2_with (first
     | (go_at_call 287;refine (HW1.out _ ?_ ?_).mono ?_;exact HR.out.1;exact hBr;rintro e w1 ⟨rfl,h1,h2⟩;have H1:=zZ h1;have H2:=zZ h2;clear h1 h2 HW1)
     | (go_at_call 257;refine (HWN.out _ ?_ ?_).mono ?_;exact H1.out;exact zO hBr H2.out.1.size;rintro e w2 ⟨rfl,h1,h2⟩;have H3:=zZ h1;have H4:=zZ h2;clear h1 h2 HWN))
    go_end0;refine ⟨rfl,?_,HR.out.2.trans (H2.out.trans H4.out)⟩;rw [HRT.out,← zI,← zI];exact H3.out
set_option maxHeartbeats 400000 in
theorem y3D (B b:Nat) (T:List UInt8) (w:World) (h:Wr w B b T) (h0:T ≠ []) :
 Calls prog 258 #[.pointer (some ⟨b,0,none⟩)] w fun e w'=>e=.returned (.string ⟨T.toArray⟩)/\Below B w w':=by
 have HS:=zZ (fun u (hu:Wr u B b T)=>z4D 326 B b T u hu h0);have HH:=zZ h;clear h
 go_enter func258,ntmps258
 go_wp2_with (go_at_call 201;refine (HS.out _ ?_).mono ?_;exact HH.out;rintro e w1 ⟨rfl,h1⟩;have H1:=zZ h1;clear h1 HS)
 go_ret;exact ⟨rfl,H1.out⟩
theorem IntsAt.belowB {w w':World} {B:Nat} {a:Option Addr} {n:Nat} {f:Nat->Int} (h:IntsAt w a n f) (hb:Below B w w') (hl:∀ x,a=some x->0 < n->x.block < B):IntsAt w' a n f:=fun i hi=>by
 obtain ⟨x,hx,hc⟩:=h i hi;refine ⟨x,hx,?_⟩;rw [hb.cell (by have:=hl x hx zU;cases i <;> simpa [Addr.add] using this),hc]
def TzAt (w:World) (g:Nat):Prop:=∀ t:Nat,t<=12->w.cell? ⟨g,285870213051353865 * 2 ^ t % 18446744073709551616 / 288230376151711744,none⟩=some (.int .u8 (t:Int))
set_option maxHeartbeats 1000000 in
theorem y5O (U:Nat) (w:World) (p M:Int) (Iqq t:Nat) (hU:((U:Int) == 0)=false) (hA:bits .and .u64 (U:Int) (IntKind.u64.wrap (-(U:Int)))=p) (hM:IntKind.u64.wrap (p * 285870213051353865)=M)
 (hI:M / 288230376151711744=Iqq) (hI64:Iqq < 64) (ht:t<=12) (hc:w.cell? ⟨4,Iqq,none⟩=some (.int .u8 (t:Int))) :
 Calls prog 316 #[.int .u64 U] w fun e w'=>e=.returned (O I t)/\∃ m,w'=w.drewN m:=by
 go_enter func316,ntmps316
 go_wp2;go_ret;exact ⟨rfl,0,rfl⟩
theorem y7E (m t:Nat) (w:World) (ht:t<=12) (hU:2 ^ t * (2 * m+1) < 2 ^ 64) (hT:TzAt w 4) :
 Calls prog 316 #[.int .u64 ((2 ^ t * (2 * m+1):Nat):Int)] w fun e w'=>e=.returned (O I t)/\∃ m,w'=w.drewN m:=by
 have hA:=y7B t m zU hU;have h0:0 < 2 ^ t * (2 * m+1):=Nat.mul_pos (Nat.two_pow_pos t) zU;have hz:∀ U:Nat,0 < U->((U:Int) == 0)=false:=fun U h=>by simp;omega
 refine y5O _ w _ _ _ t (hz _ h0) hA rfl ?_ ?_ ht (hT t ht)
 . rw [IntKind.wrap_u64]
   have e:((2 ^ t:Nat):Int) * 285870213051353865=((285870213051353865 * 2 ^ t:Nat):Int):=by rw [Nat.mul_comm];rfl
   rw [e];omega
 . omega
set_option maxHeartbeats 1000000 in
theorem y9A (m t:Nat) (w:World) (ht:t<=12) (hU:2 ^ t * (2 * m+1) < 2 ^ 64) (hT:TzAt w 4) :
 Calls prog 290 #[.int .u64 ((2 ^ t * (2 * m+1):Nat):Int)] w fun e w'=>e=.returned (O I t)/\∃ m,w'=w.drewN m:=by
 have HT:=zZ (fun u (h:TzAt u 4)=>y7E m t u ht hU h);have HTT:=zZ hT;clear hT hU;generalize 2 ^ t * (2 * m+1)=U at *
 go_enter func290,ntmps290
 go_wp2_with (go_at_call 316;refine (HT.out _ ?_).mono ?_;exact HTT.out;rintro e w1 ⟨rfl,q,hw⟩;subst w1;clear HT)
 go_ret;exact ⟨rfl,_,rfl⟩
set_option maxHeartbeats 1000000 in
theorem z5D (a:Option Addr) (n c width:Nat) (l:Nat->Int) (w:World) (hn:n<=32) (hw1:1<=width) (hw:width<=13) (hl:∀ j,j < n->z0A width (l j)=true) (hI:IntsAt w a n l) (hT:TzAt w 4) :
 Calls prog 262 #[.slice a n c] w fun e w'=>e=.returned (O I (z0D l n width))/\∃ m,w'=w.drewN m:=by
 have HI:=zZ hI;have HT:=zZ hT;have HL:=zZ hl;clear hI hT hl
 go_enter func262,ntmps262
 go_wp2
 go_loopw [3,8] (fun v i wr=>∃ j:Nat,∃ z:Int,j<=n/\i=O I j/\v=O I z/\Hid (OrOf l j z)/\∃ m,wr=w.drewN m) (fun _ i _=>n - (intOf i).toNat)
 case atStart=>exact ⟨0,0,zU,rfl,rfl,OrOf.zero l,0,rfl⟩
 case round =>
  obtain ⟨j,z,hj,rfl,rfl,HO,m,rfl⟩:=hrel
  by_cases hlt:j < n
  . obtain ⟨bb,off,hx,hc⟩:=HI.out.open zU
    cases hx;have hcj:=hc j hlt;clear hc;go_wp2
    go_roundw
    case rel=>exact ⟨j+1,_,zU,zS,rfl,HO.out.step,_,rfl⟩
    case measure=>simp [intOf];omega
  . have e:j=n:=zU
    subst e
    by_cases hz:z=0
    . have tz:(z == 0)=true:=by simp [hz]
      have HS:=zZ (HO.out.shift0 hw HL.out hz);go_wp2;go_ret;exact ⟨z0q (by rw [HS.out];rfl),_,rfl⟩
    . have tz:(z == 0)=false:=by simp [hz]
      obtain ⟨q,h1,h2,h3⟩:=HO.out.tz hw1 hw HL.out hz;have HTZ:=zZ (fun u (h:TzAt u 4)=>y9A q (z0D l j width) u h3 h2 h);clear h2 h3;generalize 2 ^ (z0D l j width) * (2 * q+1)=U at *
      go_wp2_with (go_at_call 290;refine (HTZ.out _ ?_).mono ?_;exact HT.out;rintro e w1 ⟨rfl,r,hw⟩;subst w1;clear HTZ)
      go_ret;exact ⟨rfl,_,rfl⟩
set_option maxHeartbeats 1000000 in
theorem z9O (a:Option Addr) (n c k:Nat) (l:Nat->Int) (w:World) (hn:n<=32) (hk:k<=12) (hI:IntsAt w a n l) (hlow:∀ y,a=some y->0 < n->y.block < w.heap.size) :
 Calls prog 263 #[.slice a n c,O I k] w fun e w'=>e=.returned (.slice (some ⟨w.heap.size,0,none⟩) n n)/\w'.rowIs w.heap.size 3 n (cutV n (fun i=>l i / 2 ^ k))/\Below w.heap.size w w':=by
 have hmk:=run_make_row' (P:=prog) 30 3 (O I 0) 8 underlying30 z1g rfl .i64 .i64 n zU zU;have hm:min k 64=k:=zU
 have HI:=zZ (fun u (h:Below w.heap.size w u)=>hI.belowB h hlow);clear hI hlow
 go_enter func263,ntmps263
 go_wp2;clear hmk
 go_loopw [13] (fun i wr=>∃ j:Nat,j<=n/\i=O I j/\Hid (wr.rowIs w.heap.size 3 n (cutV j (fun i=>l i / 2 ^ k))/\Below w.heap.size w wr)) (fun i _=>n - (intOf i).toNat)
 case atStart=>exact ⟨0,zJ _,rfl,(World.rowIs_made w (O I 0) n 3).congr fun i _=>by simp [cutV,cutI],zX.alloc zY _⟩
 case round =>
  obtain ⟨j,hj,rfl,HR⟩:=hrel
  by_cases hlt:j < n
  . obtain ⟨bb,off,hx,hc⟩:=(HI.out wr HR.out.2).open zU
    cases hx;have hcj:=hc j hlt;have hc1:=HR.out.1.cell hlt;have hf1:=HR.out.1.frozen j;unfold cutV at hc1;clear hc;go_wp2
    go_roundw
    case rel=>exact ⟨j+1,zU,zS,z2F rfl (HR.out.1.set j _),HR.out.2.setCell zY _⟩
    case measure=>simp [intOf];omega
  . have e:j=n:=zU
    subst e;go_wp2;go_ret;exact ⟨rfl,HR.out.1,HR.out.2⟩
set_option maxHeartbeats 1000000 in
theorem z9P (a:Option Addr) (n c:Nat) (x:Nat->Int) (w:World) (hn:n<=32) (hI:IntsAt w a n x) :
 Calls prog 293 #[.slice a n c] w fun e w'=>e=.returned (.bool (z1c x n))/\∃ m,w'=w.drewN m:=by
 have HI:=zZ hI;clear hI
 go_enter func293,ntmps293
 go_wp2
 go_loopw [7] (fun i wr=>∃ j:Nat,j<=n/\i=O I j/\Hid (∀ i,i < j->x i=x 0)/\∃ m,wr=w.drewN m) (fun i _=>n - (intOf i).toNat)
 case atStart=>exact ⟨0,zU,rfl,fun i hi=>absurd hi (Nat.not_lt_zero i),0,rfl⟩
 case round =>
  obtain ⟨j,hj,rfl,HS,m,rfl⟩:=hrel
  by_cases hlt:j < n
  . obtain ⟨bb,off,hx,hc⟩:=HI.out.open zU
    cases hx;have hcj:=hc j hlt;have hc0:=hc 0 zU;rw [Nat.add_zero] at hc0;clear hc
    by_cases hne:x j=x 0
    . have t1:(x j != x 0)=false:=by simp [hne]
      have HE:=zZ hne;clear hne;go_wp2
      go_roundw
      case rel=>exact ⟨j+1,zU,zS,fun i hi=>by
       by_cases e:i=j
       . subst e;exact HE.out
       . exact HS.out i zU,_,rfl⟩
      case measure=>simp [intOf];omega
    . have t1:(x j != x 0)=true:=by simp [hne]
      have HE:=zZ hne;clear hne;go_wp2;go_ret;refine ⟨z0G ?_,_,rfl⟩;cases e:z1c x n with
      | false=>rfl
      | true=>exact absurd ((z2V x n).1 e j hlt) HE.out
  . have e:j=n:=zU
    subst e;go_wp2;go_ret;exact ⟨z0G ((z2V x j).2 HS.out).symm,_,rfl⟩
theorem z2X (x:Nat->Int) (k:Nat):∀ m,m<=k->lag x k m=0
 | 0,_=>rfl
 | m+1,h=>by simp only [lag];rw [z2X x k m zU,if_neg zU];rfl
set_option maxHeartbeats 1000000 in
theorem z2Y (a:Option Addr) (n c k:Nat) (x:Nat->Int) (w:World) (hn:n<=32) (hk:k<=2) (hX:∀ j,j < n->-4096<=x j/\x j<=4096) (hI:IntsAt w a n x) :
 Calls prog 337 #[.slice a n c,O I k] w fun e w'=>e=.returned (O I (lag x k n))/\∃ m,w'=w.drewN m:=by
 have HI:=zZ hI;have HX:=zZ hX;clear hI hX
 go_enter func337,ntmps337
 go_wp2
 go_loopw [5,6] (fun v i wr=>∃ j:Nat,k<=j/\j<=max n k/\i=O I j/\v=O I (lag x k j)/\∃ m,wr=w.drewN m) (fun _ i _=>n - (intOf i).toNat)
 case atStart=>exact ⟨k,zU,zU,rfl,by rw [z2X x k k zY],0,rfl⟩
 case round =>
  obtain ⟨j,hkj,hj,rfl,rfl,m,rfl⟩:=hrel
  by_cases hlt:j < n
  . obtain ⟨bb,off,hx,hc⟩:=HI.out.open zU
    cases hx;have hcj:=hc j hlt;have hck:=hc (j - k) zU;clear hc;have hb:=z6M x k j (fun i hi=>HX.out i zU);have hm:=z9J (a:=4096) (b:=4096) (HX.out j hlt) (HX.out (j - k) zU);have e1:((4096 * 4096:Nat):Int)=16777216:=rfl;rw [e1] at hm;have HE:Hid (lag x k (j+1)=lag x k j+x j * x (j - k)):=by show _=_;simp only [lag];rw [if_pos hkj]
    have v1:I.wrap ((j:Int) - (k:Int))=(j:Int) - (k:Int):=by rw [zK];omega
    have t1:((j:Int) - (k:Int)).toNat=j - k:=zU
    have l1:0<=(j:Int) - (k:Int):=zU
    have l2:(j:Int) - (k:Int) < (n:Int):=zU
    have v2:I.wrap (x j * x (j - k))=x j * x (j - k):=by rw [zK];omega
    have v3:I.wrap (lag x k j+x j * x (j - k))=lag x k j+x j * x (j - k):=by rw [zK];omega
    go_wp2
    go_quiet ((fail))
    go_wp2
    go_roundw
    case rel=>exact ⟨j+1,zU,zU,zS,by rw [HE.out],_,rfl⟩
    case measure=>simp [intOf];omega
  . have HE:Hid (lag x k n=lag x k j):=by
      show _=_
      by_cases e:j=n
      . rw [e]
      . rw [z2X x k j zU,z2X x k n zU]
    go_wp2;go_ret;exact ⟨z0q HE.out.symm,_,rfl⟩
theorem y3E (a d:Int) (hd:0 < d):(a.tdiv d=a / d/\0<=a.tmod d)∨(a.tdiv d=a / d+1/\a.tmod d < 0):=by
 by_cases h:0<=a
 . left
   exact ⟨zF h,Int.tmod_nonneg _ h⟩
 . have e:=Int.tmod_add_mul_tdiv a d
   have e2:=Int.emod_add_mul_ediv a d;have m1:=Int.emod_nonneg a (Int.ne_of_gt hd);have m2:=Int.emod_lt_of_pos a hd;have h1:a.tdiv d=-((-a) / d):=by
    rw [← zF (a:=-a) (b:=d) zU,Int.neg_tdiv,Int.neg_neg]
   by_cases hz:a % d=0
   . left
     have hdv:d ∣ a:=Int.dvd_of_emod_eq_zero hz;have:(-a) / d=-(a / d):=Int.neg_ediv_of_dvd hdv;have h2:a.tdiv d=a / d:=by rw [h1,this,Int.neg_neg]
     refine ⟨h2,?_⟩;rw [h2] at e;omega
   . right
     have h3:(-a) / d=-(a / d) - 1:=by
      have e3:=Int.emod_add_mul_ediv (-a) d;have m3:=Int.emod_nonneg (-a) (Int.ne_of_gt hd);have m4:=Int.emod_lt_of_pos (-a) hd;have hx:d * ((-a) / d+a / d)=-((-a) % d) - a % d:=by rw [Int.mul_add];omega
      have h5:d * ((-a) / d+a / d+1)=d - ((-a) % d) - a % d:=by rw [Int.mul_add,hx];omega
      have hq:∀ q:Int,d * q=d - ((-a) % d) - a % d->q=0:=fun q hq=>by
       rcases Int.lt_trichotomy q 0 with h | h | h
       . have:=Int.mul_le_mul_of_nonneg_left (show q<=-1 by omega) (Int.le_of_lt hd)
         omega
       . exact h
       . have:=Int.mul_le_mul_of_nonneg_left (show 1<=q by omega) (Int.le_of_lt hd)
         omega
      have:=hq _ h5;omega
     have h4:a.tdiv d=a / d+1:=by rw [h1,h3];omega
     refine ⟨h4,?_⟩;rw [h4,Int.mul_add] at e;omega
set_option maxHeartbeats 400000 in
theorem z6y (v d:Int) (w:World) (hd:0 < d) (hv:-9000000000000000000<=v/\v<=9000000000000000000) :
 Calls prog 346 #[O I v,O I d] w fun e w'=>e=.returned (O I (v / d))/\w'=w:=by
 have hz:(d == 0)=false:=by simp;omega
 have hz2:¬ d=0:=zU
 have hb:-9000000000000000000<=v / d/\v / d<=9000000000000000000:=by
  constructor
  . have h1:=Int.ediv_le_ediv hd hv.1
    have h2:(-9000000000000000000:Int)<=-9000000000000000000 / d:=by
     rw [Int.le_ediv_iff_mul_le hd];have:=Int.mul_le_mul_of_nonneg_left (show 1<=d by omega) (show (0:Int)<=9000000000000000000 by omega);omega
    omega
  . by_cases h:0<=v
    . have:=Int.ediv_le_self d h;omega
    . have:=Int.ediv_neg_of_neg_of_pos (show v < 0 by omega) hd;omega
 have hcase:=y3E v d hd;have HB:=zZ hb
 by_cases hm:v.tmod d < 0
 . have t1:decide (v.tmod d < 0)=true:=zL hm
   have he:v.tdiv d=v / d+1:=zU
   have w1:I.wrap (v / d+1)=v / d+1:=by rw [zK];omega
   have w2:wrap64 (v / d)=v / d:=by unfold wrap64;omega
   clear hcase hb;generalize v / d=Q at *
   go_enter func346,ntmps346
   go_wp2;go_ret;exact ⟨z0q (by first | rfl | omega),rfl⟩
 . have t1:decide (v.tmod d < 0)=false:=zM hm
   have he:v.tdiv d=v / d:=zU
   have w1:I.wrap (v / d)=v / d:=by rw [zK];omega
   clear hcase hb;generalize v / d=Q at *
   go_enter func346,ntmps346
   go_wp2;go_ret;exact ⟨z0q (by first | rfl | omega),rfl⟩
theorem y3F (q:Int):min (max q (-32)) 31=z4i q:=by
 unfold z4i;split
 . omega
 . split <;> omega
set_option maxHeartbeats 400000 in
theorem z6O (v d:Int) (w:World) (hd:0 < d) (hv:-9000000000000000000<=v/\v<=9000000000000000000) :
 Calls prog 338 #[O I v,O I d] w fun e w'=>e=.returned (O I (z4i (v / d)))/\∃ m,w'=w.drewN m:=by
 have HD:=zZ (fun u=>z6y v d u hd hv);have HC:=zZ (y3F (v / d));clear hv;generalize v / d=Q at *
 go_enter func338,ntmps338
 go_wp2_with (go_at_call 346;refine (HD.out _).mono ?_;rintro e w1 ⟨rfl,hw⟩;subst w1;clear HD)
 go_ret;exact ⟨z0q HC.out,0,rfl⟩
set_option maxHeartbeats 400000 in
theorem z6z (f k:Nat) (w:World) (hk:k<=14) (hf:f<=2000000) :
 Calls prog 353 #[O I f,O I k] w fun e w'=>e=.returned (O I (z7v f k))/\w'=w:=by
 have hm:min k 64=k:=zU
 have HR:Hid (z7v f k=f / 2 ^ k+1+k):=rfl;have hq:f / 2 ^ k<=f:=Nat.div_le_self _ _;have hqi:(f:Int) / 2 ^ k=((f / 2 ^ k:Nat):Int):=by simp
 generalize f / 2 ^ k=q at *
 go_enter func353,ntmps353
 go_wp2;go_ret;exact ⟨z0q (by rw [HR.out];go_num),rfl⟩
set_option maxHeartbeats 1000000 in
theorem z6A (a:Option Addr) (n c k lo:Nat) (F:Nat->Nat) (w:World) (hn:n<=32) (hk:k<=14) (hF:∀ i,i < n->F (lo+i)<=2000000) (hI:IntsAt w a n (fun i=>(F (lo+i):Int))) :
 Calls prog 347 #[.slice a n c,O I k] w fun e w'=>e=.returned (O I (plen F k lo n))/\∃ m,w'=w.drewN m:=by
 have HI:=zZ hI;have HF:=zZ hF;clear hI hF
 go_enter func347,ntmps347
 go_wp2
 go_loopw [5,10] (fun v i wr=>∃ j:Nat,j<=n/\i=O I j/\v=O I (plen F k lo j)/\∃ m,wr=w.drewN m) (fun _ i _=>n - (intOf i).toNat)
 case atStart=>exact ⟨0,zU,rfl,rfl,0,rfl⟩
 case round =>
  obtain ⟨j,hj,rfl,rfl,m,rfl⟩:=hrel
  by_cases hlt:j < n
  . obtain ⟨bb,off,hx,hc⟩:=HI.out.open zU
    cases hx;have hcj:=hc j hlt;clear hc;have hfj:=HF.out j hlt;have HL:=zZ (fun u=>z6z (F (lo+j)) k u hk hfj);have hr:=y1a (F (lo+j)) k 2000000 hfj hk;have hp:=z2C F k lo 2000000 hk j (fun i hi=>HF.out i zU);have hp2:j * (2000000+15)<=32 * (2000000+15):=zD _ zU;have hp3:plen F k lo j<=64000480:=zU
    have HE:Hid (plen F k lo (j+1)=plen F k lo j+z7v (F (lo+j)) k):=rfl;clear hp hp2;generalize z7v (F (lo+j)) k=R at *
    go_wp2_with (go_at_call 353;refine (HL.out _).mono ?_;rintro e w1 ⟨rfl,hw⟩;subst w1;clear HL)
    go_roundw
    case rel=>exact ⟨j+1,zU,zS,by rw [HE.out];go_num,_,rfl⟩
    case measure=>simp [intOf];omega
  . have e:j=n:=zU
    subst e;go_wp2;go_ret;exact ⟨rfl,_,rfl⟩
set_option maxHeartbeats 1000000 in
theorem z3r (a:Option Addr) (n c lo:Nat) (F:Nat->Nat) (w:World) (hn:n<=32) (hF:∀ i,i < n->F (lo+i)<=2000000) (hI:IntsAt w a n (fun i=>(F (lo+i):Int))) :
 Calls prog 340 #[.slice a n c] w fun e w'=>e=.returned (.tuple #[O I (parK F lo n),O I (plen F (parK F lo n) lo n)])/\∃ m,w'=w.drewN m:=by
 have HI:=zZ hI;have HF:=zZ hF;clear hI hF;have HP:=zZ (fun (k:Nat) (hk:k<=14) (u:World) (hu:IntsAt u a n (fun i=>(F (lo+i):Int)))=>z6A a n c k lo F u hn hk HF.out hu);have HP0:=zZ (fun (u:World) (hu:IntsAt u a n (fun i=>(F (lo+i):Int)))=>HP.out 0 zU u hu);have HPK:Hid (parK F lo n=z1u (fun k=>plen F k lo n) 14):=rfl;have HB:=zZ (fun (k:Nat) (hk:k<=14)=>zO (z2C F k lo 2000000 hk n HF.out) (zD _ hn))
 go_enter func340,ntmps340
 go_wp2_with (go_at_call 347;refine (HP0.out _ ?_).mono ?_;exact HI.out;rintro e w1 ⟨rfl,q,hw⟩;subst w1;clear HP0)
 go_loopw [4,5,6] (fun b l i wr=>∃ k:Nat,k<=14/\i=O I ((k:Int)+1)/\b=O I (z1u (fun k=>plen F k lo n) k)/\l=O I (plen F (z1u (fun k=>plen F k lo n) k) lo n)/\∃ m,wr=w.drewN m) (fun _ _ i _=>15 - (intOf i).toNat)
 case atStart=>exact ⟨0,zU,rfl,rfl,rfl,_,rfl⟩
 case round =>
  obtain ⟨k,hk,rfl,rfl,rfl,m,rfl⟩:=hrel
  by_cases hlt:k < 14
  . have HC:Hid (∀ u:World,IntsAt u a n (fun i=>(F (lo+i):Int))->Calls prog 347 #[.slice a n c,O I ((k:Int)+1)] u fun e w'=>e=.returned (O I (plen F (k+1) lo n))/\∃ m,w'=u.drewN m):=HP.out (k+1) zU
    have ha:=z4h (fun k=>plen F k lo n) k;have hb1:=HB.out (z1u (fun k=>plen F k lo n) k) zU;have hb2:=HB.out (k+1) zU;have HE:Hid (z1u (fun k=>plen F k lo n) (k+1)=if plen F (k+1) lo n < plen F (z1u (fun k=>plen F k lo n) k) lo n then k+1 else z1u (fun k=>plen F k lo n) k):=rfl;generalize z1u (fun k=>plen F k lo n) k=A at *;obtain ⟨L1,hL1⟩:∃ L,L=plen F (k+1) lo n:=⟨_,rfl⟩;obtain ⟨L2,hL2⟩:∃ L,L=plen F A lo n:=⟨_,rfl⟩;rw [← hL1] at hb2 HE HC;rw [← hL2] at hb1 HE;have HL1:=zZ hL1;rw [← hL2];have HL2:=zZ hL2;clear hL1 hL2
    by_cases hd:L1 < L2
    . have t1:decide ((L1:Int) < (L2:Int))=true:=zL zU
      have t2:decide (L1 < L2)=true:=zL hd;rw [if_pos hd] at HE;clear hd
      go_wp2_with (go_at_call 347;refine (HC.out _ ?_).mono ?_;exact HI.out;rintro e w1 ⟨rfl,q,hw⟩;subst w1;clear HC)
      go_roundw
      case rel=>exact ⟨k+1,zU,zS,by rw [HE.out];rfl,by rw [HE.out,HL1.out],_,rfl⟩
      case measure=>simp [intOf];omega
    . have t1:decide ((L1:Int) < (L2:Int))=false:=zM zU
      have t2:decide (L1 < L2)=false:=zM hd;rw [if_neg hd] at HE;clear hd
      go_wp2_with (go_at_call 347;refine (HC.out _ ?_).mono ?_;exact HI.out;rintro e w1 ⟨rfl,q,hw⟩;subst w1;clear HC)
      go_roundw
      case rel=>exact ⟨k+1,zU,zS,by rw [HE.out],by rw [HE.out,HL2.out],_,rfl⟩
      case measure=>simp [intOf];omega
  . have e:k=14:=zU
    subst e;rw [← HPK.out];go_wp2;go_ret2;exact ⟨rfl,_,rfl⟩
end Go.Proofs.YtlncjgnomhpjnabGreatDoor
