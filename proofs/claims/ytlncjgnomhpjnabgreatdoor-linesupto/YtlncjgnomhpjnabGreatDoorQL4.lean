import Derived.Test.YtlncjgnomhpjnabGreatDoorQL3
import Derived.Laws.Rows
import Derived.Laws.Tables
import Derived.Laws.AppendOwn
namespace Go.Proofs.YtlncjgnomhpjnabGreatDoor
open Go.Value renaming int → O
open Go.IntKind renaming i64 → I
open Go.Proofs.Tryz
open Go.RowKit Go.Deep
set_option linter.unusedVariables false
def tvI (F:Nat->Nat) (o n c i j:Nat):Int:=if j=0 then (c:Int) else if j=9 then ((2+z1I F o (n / 2 ^ c) i:Nat):Int) else if j - 1 < i then (parN F o (n / 2 ^ c) (j - 1):Int) else 0
def tv (F:Nat->Nat) (o n c i j:Nat):Value:=O I (tvI F o n c i j)
def pvI (F:Nat->Nat) (o n c j:Nat):Int:=tvI F o n c (2 ^ c) j
def z3n (F:Nat->Nat) (o n c j:Nat):Value:=O I (if c=0 then 0 else pvI F o n (z0o F o n (c - 1)) j)
theorem y7F (F:Nat->Nat) (o n c j:Nat) (hj:j < 10):tv F o n c 0 j=O I (if j=0 then (c:Int) else if j=9 then 2 else 0):=by
 unfold tv tvI z1I;split
 . rfl
 . split <;> simp
theorem y3G {w:World} {g:Nat} {t:TypeId} {F:Nat->Nat} {o n c i:Nat} {z y:Int} (hi:i < 8) (hz:z=parN F o (n / 2 ^ c) i) (hy:y=((2+z1I F o (n / 2 ^ c) (i+1):Nat):Int))
 (h:w.rowIs g t 10 (fun j=>if j=9 then O I y else if j=1+i then O I z else tv F o n c i j)):w.rowIs g t 10 (tv F o n c (i+1)):=by
 refine h.congr fun j hj=>?_
 unfold tv tvI
 by_cases e9:j=9
 . subst e9;simp [hy]
 . by_cases e0:j=0
   . subst e0;rw [if_neg e9,if_neg zU];rfl
   . by_cases e:j=1+i
     . subst e
       rw [if_neg e9,if_pos rfl,if_neg e0,if_neg e9,if_pos zU,hz,show 1+i - 1=i by omega]
     . simp only [e9,e0,e,if_false]
       by_cases h1:j - 1 < i
       . rw [if_pos h1,if_pos zU]
       . rw [if_neg h1,if_neg zU]
structure PInv (w wr:World) (G n c o:Nat) (F:Nat->Nat):Prop where
 best:wr.rowIs (w.heap.size+1) 336 10 (z3n F o n c)
 out:wr.rowIs w.heap.size 336 10 (fun _=>O I 0)
 folds:wr.rowIs G 3 n (z4m o F n)
 below:Below w.heap.size w wr
theorem y7j (F:Nat->Nat) (o n i:Nat) (hi:i < 10):(#[O I 0,O I 0,O I 0,O I 0,O I 0,O I 0,O I 0,O I 0,O I 0,O I 0]:Array Value)[i]?=some (z3n F o n 0 i):=by
 match i,hi with
 | 0,_=>rfl
 | 1,_=>rfl
 | 2,_=>rfl
 | 3,_=>rfl
 | 4,_=>rfl
 | 5,_=>rfl
 | 6,_=>rfl
 | 7,_=>rfl
 | 8,_=>rfl
 | 9,_=>rfl
theorem PInv.drewN {w wr:World} {G n c o:Nat} {F:Nat->Nat} (h:PInv w wr G n c o F) (m:Nat):PInv w (wr.drewN m) G n c o F :=
 ⟨h.best,h.out,h.folds,⟨h.below.os,h.below.tape,h.below.output,h.below.size,h.below.block⟩⟩
theorem PInv.setT {w wr:World} {G n c o TR:Nat} {F:Nat->Nat} (h:PInv w wr G n c o F) (h1:w.heap.size+1 < TR) (hG:G < w.heap.size) (i:Nat) (v:Value):PInv w (wr.setCell ⟨TR,i,none⟩ v) G n c o F :=
 ⟨h.best.setOther (by simp;omega) _,h.out.setOther (by simp;omega) _,h.folds.setOther (by simp;omega) _,h.below.setCell (by simp;omega) _⟩
theorem PInv.turn {w wr:World} {G n c d o:Nat} {F:Nat->Nat} (h:PInv w wr G n c o F) (e:∀ j,z3n F o n d j=z3n F o n c j):PInv w wr G n d o F :=
 ⟨h.best.congr fun j _=>(e j).symm,h.out,h.folds,h.below⟩
def y7G (w:World) (g:Nat) (v:Nat->Value):World :=
 (((((((((w.setCell ⟨g,0,none⟩ (v 0)).setCell ⟨g,1,none⟩ (v 1)).setCell ⟨g,2,none⟩ (v 2)).setCell ⟨g,3,none⟩ (v 3)).setCell ⟨g,4,none⟩ (v 4)).setCell ⟨g,5,none⟩ (v 5)).setCell ⟨g,6,none⟩ (v 6)).setCell ⟨g,7,none⟩ (v 7)).setCell ⟨g,8,none⟩ (v 8)).setCell ⟨g,9,none⟩ (v 9)
theorem y3H {w:World} {g:Nat} {t:TypeId} {f:Nat->Value} (h:w.rowIs g t 10 f) (v:Nat->Value):(y7G w g v).rowIs g t 10 v:=by
 refine ((((((((((h.set 0 _).set 1 _).set 2 _).set 3 _).set 4 _).set 5 _).set 6 _).set 7 _).set 8 _).set 9 _).congr fun i hi=>?_
 match i,hi with
 | 0,_=>rfl
 | 1,_=>rfl
 | 2,_=>rfl
 | 3,_=>rfl
 | 4,_=>rfl
 | 5,_=>rfl
 | 6,_=>rfl
 | 7,_=>rfl
 | 8,_=>rfl
 | 9,_=>rfl
theorem z5E {w:World} {g b n:Nat} {t:TypeId} {f:Nat->Value} (h:w.rowIs b t n f) (hb:b ≠ g) (v:Nat->Value):(y7G w g v).rowIs b t n f :=
 (((((((((h.setOther hb _).setOther hb _).setOther hb _).setOther hb _).setOther hb _).setOther hb _).setOther hb _).setOther hb _).setOther hb _).setOther hb _
theorem z3U {w w':World} {g B:Nat} (h:Below B w w') (hb:B<=g) (v:Nat->Value):Below B w (y7G w' g v) :=
 (((((((((h.setCell hb _).setCell hb _).setCell hb _).setCell hb _).setCell hb _).setCell hb _).setCell hb _).setCell hb _).setCell hb _).setCell hb _
theorem y1Z {F:Nat->Nat} {o n c:Nat} (hc:0 < c) (h:cutL F o n (z0o F o n (c - 1))<=cutL F o n c) (j:Nat):z3n F o n (c+1) j=z3n F o n c j:=by
 obtain ⟨d,rfl⟩:∃ d,c=d+1:=⟨c - 1,zU⟩;unfold z3n;rw [if_neg zU,if_neg zU,show d+1+1 - 1=d+1 by omega,show d+1 - 1=d by omega];rw [show z0o F o n (d+1)=z0o F o n d from if_neg (fun hh=>by have:=hh.2;simp only [Nat.add_sub_cancel] at h;omega)]
theorem y3I {F:Nat->Nat} {o n c:Nat} (hok:okC n o c=true) (h:0 < c->cutL F o n c < cutL F o n (z0o F o n (c - 1))) (j:Nat):z3n F o n (c+1) j=tv F o n c (2 ^ c) j:=by
 have e:z0o F o n c=c:=by
  cases c with
  | zero=>rfl
  | succ d=>exact if_pos ⟨hok,h zU⟩
 unfold z3n tv;rw [if_neg zU,Nat.add_sub_cancel,e];rfl
theorem y2a {F:Nat->Nat} {o n c:Nat} (hc:0 < c):z3n F o n c 9=O I ((cutL F o n (z0o F o n (c - 1)):Nat):Int):=by
 unfold z3n;rw [if_neg zU];rfl
theorem z2G (F:Nat->Nat) (o sz P n:Nat) (hn:n<=32) (hP:sz * P=n) (ho:o < sz) (hF:∀ i,o<=i->i < n->F i<=2000000):∀ i,i<=P->z1I F o sz i<=i * 64000484
 | 0,_=>by simp [z1I]
 | i+1,h=>by
  have ih:=z2G F o sz P n hn hP ho hF i zU;have h1:(i+1) * sz<=P * sz:=zD _ h;rw [Nat.mul_comm P,hP] at h1;have hlo:o<=ploN o sz i:=by unfold ploN;omega
  have h2:=z2C F (parN F o sz i) (ploN o sz i) 2000000 (z5x _ _ _) (pcnt o sz i) (fun j hj=>hF _ zU (by unfold pcnt at hj;omega));have h3:pcnt o sz i * (2000000+15)<=32 * (2000000+15):=zD _ (by unfold pcnt;omega);simp only [z1I];rw [Nat.succ_mul];omega
set_option maxRecDepth 100000 in
set_option maxHeartbeats 4000000 in
theorem z2H (o G n:Nat) (F:Nat->Nat) (w:World) (hn:n<=32) (ho:o<=4) (hon:o < n) (hF:∀ i,o<=i->i < n->F i<=2000000) (hrow:w.rowIs G 3 n (z4m o F n)) :
 Calls prog 323 #[O I o,.slice (some ⟨G,0,none⟩) n n] w fun e w' =>
  e=.returned (.agg #[O I (pvI F o n (z0o F o n 3) 0),O I (pvI F o n (z0o F o n 3) 1),O I (pvI F o n (z0o F o n 3) 2),O I (pvI F o n (z0o F o n 3) 3),O I (pvI F o n (z0o F o n 3) 4),
   O I (pvI F o n (z0o F o n 3) 5),O I (pvI F o n (z0o F o n 3) 6),O I (pvI F o n (z0o F o n 3) 7),O I (pvI F o n (z0o F o n 3) 8),O I (pvI F o n (z0o F o n 3) 9)])/\Below w.heap.size w w':=by
 have hG:=hrow.lt;have HF:=zZ hF;have HROW:=zZ hrow;have HPS:=zZ (fun c (hc:c<=3) u=>z8z n o c u hn ho hc);clear hF hrow
 go_enter func323,ntmps323
 go_wp2_with fail;refine wp_scope_straight ?_;go_wp2;refine wp_label ?_;go_wp2
 go_loopw [6,7] (fun fv cv wr=>∃ c:Nat,∃ fb:Bool,c<=4/\cv=O I c/\fv=.bool fb/\Hid (fb=decide (0 < c)/\(c=4->True)/\PInv w wr G n c o F)) (fun _ cv _=>4 - (intOf cv).toNat)
 case atStart =>
  refine ⟨0,false,zU,rfl,rfl,rfl,fun _=>trivial,?_,?_,?_,?_⟩
  . have:=World.rowIs_alloc (w.alloc (Obj.cells #[O I 0,O I 0,O I 0,O I 0,O I 0,O I 0,O I 0,O I 0,O I 0,O I 0] 336)) #[O I 0,O I 0,O I 0,O I 0,O I 0,O I 0,O I 0,O I 0,O I 0,O I 0] 336 (z3n F o n 0) (y7j F o n)
    rw [World.size_alloc] at this;exact this
  . exact (World.rowIs_alloc w #[O I 0,O I 0,O I 0,O I 0,O I 0,O I 0,O I 0,O I 0,O I 0,O I 0] 336 (fun _=>O I 0) (y7j F o n)).alloc _
  . exact (HROW.out.alloc _).alloc _
  . exact (zX.alloc zY _).alloc (by simp) _
 case round =>
  obtain ⟨c,fb,hc4,rfl,rfl,HI⟩:=hrel;have hR1:=HI.out.2.2.best.lt
  by_cases hc:c<=3
  . have HPC:=zZ (HPS.out c hc)
    by_cases hok:okC n o c=true
    . have hok':cutB n o c=true:=hok
      rw [hok'] at HPC;have hP1:1<=2 ^ c:=Nat.two_pow_pos c;have hP8:2 ^ c<=8:=zO (zE zU hc) zR;have hcf:=z5v hok';have HTV:Hid (∀ i,tv F o n c i=fun j=>O I (tvI F o n c i j)):=fun i=>rfl
      have HCL:Hid (cutL F o n c=2+z1I F o (n / 2 ^ c) (2 ^ c)):=rfl;have hsh:(1:Int) * 2 ^ c=((2 ^ c:Nat):Int):=by simp
      have hm:min c 64=c:=zU
      obtain ⟨P,hP⟩:∃ P,P=2 ^ c:=⟨_,rfl⟩;obtain ⟨sz,hsz⟩:∃ sz,sz=n / 2 ^ c:=⟨_,rfl⟩;rw [← hsz] at HPC hcf HCL;rw [← hP] at hP1 hP8 hcf HCL;have hpw:I.wrap ((2:Int) ^ c)=(P:Int):=by rw [show ((2:Int) ^ c)=(P:Int) by rw [hP];simp,zK];omega
      have HSZ:=zZ hsz;have HP:=zZ hP;have hszP:=hcf.1;have hosz:=hcf.2;have hokk:=zZ hok;clear hsz hP hok hok' hcf hsh hP1
      go_wp2_with (go_at_call 339;refine (HPC.out _).mono ?_;rintro e w1 ⟨rfl,hw⟩;subst w1;clear HPC)
      have HTR:Hid ((wr.alloc (Obj.cells #[O I c,O I 0,O I 0,O I 0,O I 0,O I 0,O I 0,O I 0,O I 0,O I 2] 336)).rowIs wr.heap.size 336 10 (tv F o n c 0)) :=
       World.rowIs_alloc wr #[O I c,O I 0,O I 0,O I 0,O I 0,O I 0,O I 0,O I 0,O I 0,O I 2] 336 (tv F o n c 0) (fun i hi=>by
        rw [y7F F o n c i hi]
        match i,hi with
        | 0,_=>rfl
        | 1,_=>rfl
        | 2,_=>rfl
        | 3,_=>rfl
        | 4,_=>rfl
        | 5,_=>rfl
        | 6,_=>rfl
        | 7,_=>rfl
        | 8,_=>rfl
        | 9,_=>rfl)
      obtain ⟨TR,hTR⟩:∃ TR,TR=wr.heap.size:=⟨_,rfl⟩;have hTRR:w.heap.size+1 < TR:=by rw [hTR];exact hR1
      have HINV:Hid (PInv w (wr.alloc (Obj.cells #[O I c,O I 0,O I 0,O I 0,O I 0,O I 0,O I 0,O I 0,O I 0,O I 2] 336)) G n c o F):=⟨HI.out.2.2.best.alloc _,HI.out.2.2.out.alloc _,HI.out.2.2.folds.alloc _,HI.out.2.2.below.alloc HI.out.2.2.below.size _⟩;have HFB:=zZ HI.out.1;rw [← hTR] at HTR;rw [← hTR];clear hTR hR1 HI;have tn1:¬ TR=w.heap.size+1:=zU
      have tn2:¬ w.heap.size+1=TR:=zU
      go_loopw [34] (fun iv wi=>∃ i:Nat,i<=P/\iv=O I i/\Hid (PInv w wi G n c o F/\wi.rowIs TR 336 10 (tv F o n c i)/\(0 < c->0 < i->2+z1I F o sz i < cutL F o n (z0o F o n (c - 1))))) (fun iv _=>P - (intOf iv).toNat)
      case atStart=>exact ⟨0,zJ _,rfl,HINV.out,HTR.out,fun _ h=>absurd h zU⟩
      case round =>
       clear HTR HINV;obtain ⟨i,hiP,rfl,HJ⟩:=hrel
       by_cases hlt:i < P
       . have hi1:(i+1) * sz<=n:=by
           have h1:(i+1) * sz<=P * sz:=zD _ hlt;rw [Nat.mul_comm P,hszP] at h1;exact h1
         obtain ⟨fr,hfr⟩:∃ fr,fr=i * sz:=⟨_,rfl⟩;obtain ⟨lo,hlo⟩:∃ lo,lo=ploN o sz i:=⟨_,rfl⟩;obtain ⟨ct,hct⟩:∃ ct,ct=pcnt o sz i:=⟨_,rfl⟩;have hfr1:fr+sz<=n:=by rw [Nat.succ_mul,← hfr] at hi1;exact hi1
         have hloM:lo=max fr o:=by rw [hlo,hfr];rfl
         have hctE:ct=fr+sz - lo:=by rw [hct,hfr,hlo];unfold pcnt;rw [Nat.succ_mul]
         have hol:o<=lo:=zU
         have hfo:fr=0∨o < fr:=by
          rcases Nat.eq_zero_or_pos i with h | h
          . left;rw [hfr,h];simp
          . right
            have:1 * sz<=i * sz:=zD _ h;omega
         have hlh:lo<=fr+sz:=zU
         have v1:I.wrap ((i:Int) * (sz:Int))=(fr:Int):=by
          rw [show (i:Int) * (sz:Int)=((i * sz:Nat):Int) by simp,← hfr,zK];omega
         have v2:max (fr:Int) (o:Int)=(lo:Int):=zU
         have HSP:=zZ (fun (u:World) (hu:u.rowIs G 3 n (z4m o F n))=>z3r (some ⟨G,lo,none⟩) ct (n - lo) lo F u zU (fun k hk=>HF.out _ zU zU) (fun k hk=>⟨_,rfl,by
          have:=hu.cell (i:=lo+k) zU;unfold z4m at this;rw [if_pos ⟨zU,zU⟩] at this;rw [← this];cases k <;> simp [Addr.add]⟩))
         have HPN:Hid (parN F o sz i=parK F lo ct):=by rw [hlo,hct];rfl
         have HPL:Hid (z1I F o sz (i+1)=z1I F o sz i+(4+plen F (parK F lo ct) lo ct)):=by rw [hlo,hct];rfl
         have hb1:=z2G F o sz P n hn hszP hosz HF.out i zU;have hb2:=z2G F o sz P n hn hszP hosz HF.out (i+1) zU;rw [HPL.out] at hb2;have hctn:fr+sz - lo=ct:=hctE.symm;have x9:=HJ.out.2.1.cell (i:=9) zU;have xi:=HJ.out.2.1.cell (i:=1+i) zU;have f9:=HJ.out.2.1.frozen 9;have fi:=HJ.out.2.1.frozen (1+i);rw [show tv F o n c i 9=O I ((2+z1I F o sz i:Nat):Int) by rw [HSZ.out];rfl] at x9;unfold tv at xi;have y9:=HJ.out.1.best.cell (i:=9) zU;generalize hpk:parK F lo ct=K at *;generalize hpl:plen F K lo ct=L at *;generalize hPi:z1I F o sz i=Pi at *;have v3:I.wrap ((fr:Int)+(sz:Int))=(fr:Int)+(sz:Int):=by rw [zK];omega
         have HCT:=zZ hctE;clear hfr hlo hct hloM hctE hfo hszP hpk hpl hPi hi1;cases fb with
         | false =>
          go_wp2_with (go_at_call 340;refine (HSP.out _ ?_).mono ?_;exact HJ.out.1.folds;rintro e w1 ⟨rfl,q,hw⟩;subst w1;clear HSP)
          go_roundw
          case rel=>exact ⟨i+1,zU,zS,((HJ.out.1.drewN q).setT hTRR hG _ _).setT hTRR hG _ _,y3G zU (by rw [← HSZ.out,HPN.out]) (by rw [← HSZ.out,HPL.out];simp;omega) (((show (wr.drewN q).rowIs TR 336 10 (tv F o n c i) from HJ.out.2.1).set (1+i) _).set 9 _),fun h=>absurd HFB.out (by simp [h])⟩
          case measure=>simp [intOf];omega
         | true =>
          have hc0:0 < c:=by have:=HFB.out;simpa using this.symm
          rw [y2a hc0] at y9;generalize hCB:cutL F o n (z0o F o n (c - 1))=CB at *;have HCB:=zZ hCB;clear hCB
          by_cases hge:CB<=2+Pi+(4+L)
          . have t1:decide ((CB:Int)<=2+(Pi:Int)+(4+(L:Int)))=true:=zL zU
            have HK:Hid (∀ j,z3n F o n (c+1) j=z3n F o n c j):=fun j=>y1Z hc0 (by
             rw [HCB.out,HCL.out];have h1:=z5y F o sz (i:=i+1) (j:=P) hlt;rw [HPL.out] at h1;omega) j
            clear hge
            go_wp2_with (go_at_call 340;refine (HSP.out _ ?_).mono ?_;exact HJ.out.1.folds;rintro e w1 ⟨rfl,q,hw⟩;subst w1;clear HSP)
            exact ⟨⟨c+1,true,zU,zS,rfl,by simp,fun _=>trivial,(((HJ.out.1.drewN q).setT hTRR hG _ _).setT hTRR hG _ _).turn HK.out⟩,by simp [intOf];omega⟩
          . have t1:decide ((CB:Int)<=2+(Pi:Int)+(4+(L:Int)))=false:=zM zU
            have HLT:=zZ hge;clear hge
            go_wp2_with (go_at_call 340;refine (HSP.out _ ?_).mono ?_;exact HJ.out.1.folds;rintro e w1 ⟨rfl,q,hw⟩;subst w1;clear HSP)
            go_roundw
            case rel=>exact ⟨i+1,zU,zS,((HJ.out.1.drewN q).setT hTRR hG _ _).setT hTRR hG _ _,y3G zU (by rw [← HSZ.out,HPN.out]) (by rw [← HSZ.out,HPL.out];simp;omega) (((show (wr.drewN q).rowIs TR 336 10 (tv F o n c i) from HJ.out.2.1).set (1+i) _).set 9 _),fun _ _=>by rw [HPL.out];have:=HLT.out;omega⟩
            case measure=>simp [intOf];omega
       . have e:i=P:=zU
         subst e;have HOK:=zZ hokk.out;have x0:=HJ.out.2.1.cell (i:=0) zU;have x1:=HJ.out.2.1.cell (i:=1) zU;have x2:=HJ.out.2.1.cell (i:=2) zU;have x3:=HJ.out.2.1.cell (i:=3) zU;have x4:=HJ.out.2.1.cell (i:=4) zU;have x5:=HJ.out.2.1.cell (i:=5) zU;have x6:=HJ.out.2.1.cell (i:=6) zU;have x7:=HJ.out.2.1.cell (i:=7) zU;have x8:=HJ.out.2.1.cell (i:=8) zU;have x9:=HJ.out.2.1.cell (i:=9) zU;unfold tv at x0 x1 x2 x3 x4 x5 x6 x7 x8 x9;obtain ⟨oy0,y0⟩:∃ v,wr.cell? ⟨w.heap.size+1,0,none⟩=some v:=⟨_,HJ.out.1.best.cell (i:=0) zU⟩;obtain ⟨oy1,y1⟩:∃ v,wr.cell? ⟨w.heap.size+1,1,none⟩=some v:=⟨_,HJ.out.1.best.cell (i:=1) zU⟩;obtain ⟨oy2,y2⟩:∃ v,wr.cell? ⟨w.heap.size+1,2,none⟩=some v:=⟨_,HJ.out.1.best.cell (i:=2) zU⟩;obtain ⟨oy3,y3⟩:∃ v,wr.cell? ⟨w.heap.size+1,3,none⟩=some v:=⟨_,HJ.out.1.best.cell (i:=3) zU⟩;obtain ⟨oy4,y4⟩:∃ v,wr.cell? ⟨w.heap.size+1,4,none⟩=some v:=⟨_,HJ.out.1.best.cell (i:=4) zU⟩;obtain ⟨oy5,y5⟩:∃ v,wr.cell? ⟨w.heap.size+1,5,none⟩=some v:=⟨_,HJ.out.1.best.cell (i:=5) zU⟩;obtain ⟨oy6,y6⟩:∃ v,wr.cell? ⟨w.heap.size+1,6,none⟩=some v:=⟨_,HJ.out.1.best.cell (i:=6) zU⟩;obtain ⟨oy7,y7⟩:∃ v,wr.cell? ⟨w.heap.size+1,7,none⟩=some v:=⟨_,HJ.out.1.best.cell (i:=7) zU⟩;obtain ⟨oy8,y8⟩:∃ v,wr.cell? ⟨w.heap.size+1,8,none⟩=some v:=⟨_,HJ.out.1.best.cell (i:=8) zU⟩;obtain ⟨oy9,y9⟩:∃ v,wr.cell? ⟨w.heap.size+1,9,none⟩=some v:=⟨_,HJ.out.1.best.cell (i:=9) zU⟩;have yf0:=HJ.out.1.best.frozen 0;have yf1:=HJ.out.1.best.frozen 1;have yf2:=HJ.out.1.best.frozen 2;have yf3:=HJ.out.1.best.frozen 3;have yf4:=HJ.out.1.best.frozen 4;have yf5:=HJ.out.1.best.frozen 5;have yf6:=HJ.out.1.best.frozen 6;have yf7:=HJ.out.1.best.frozen 7;have yf8:=HJ.out.1.best.frozen 8;have yf9:=HJ.out.1.best.frozen 9;have HN:Hid (∀ j,z3n F o n (c+1) j=tv F o n c i j):=fun j=>by
          rw [HP.out];refine y3I HOK.out (fun h=>?_) j;rw [HCL.out];exact HJ.out.2.2 h (by rw [HP.out];exact Nat.two_pow_pos c)
         go_wp2;refine ⟨⟨c+1,true,zU,zS,rfl,by simp,fun _=>trivial,?_⟩,by simp [intOf];omega⟩;exact ⟨(y3H HJ.out.1.best (tv F o n c i)).congr fun j _=>(HN.out j).symm,z5E HJ.out.1.out zU (tv F o n c i),z5E HJ.out.1.folds zU (tv F o n c i),z3U HJ.out.1.below zU (tv F o n c i)⟩
    . have hc1:0 < c:=by
        rcases Nat.eq_zero_or_pos c with h | h
        . subst h;exact absurd (z7w hon) hok
        . exact h
      have hokf:cutB n o c=false:=by
                                           have h:okC n o c=false:=by simpa using hok
                                           exact h
      rw [hokf] at HPC;have HBE:Hid (∀ j,z3n F o n c j=O I (pvI F o n (z0o F o n 3) j)):=fun j=>by
       unfold z3n;rw [if_neg zU,z6L F o n (c:=c - 1) (d:=3) (by rw [Nat.sub_add_cancel hc1];exact hokf) zU]
      have z0:=HI.out.2.2.best.cell (i:=0) zU;have z1:=HI.out.2.2.best.cell (i:=1) zU;have z2:=HI.out.2.2.best.cell (i:=2) zU;have z3:=HI.out.2.2.best.cell (i:=3) zU;have z4:=HI.out.2.2.best.cell (i:=4) zU;have z5:=HI.out.2.2.best.cell (i:=5) zU;have z6:=HI.out.2.2.best.cell (i:=6) zU;have z7:=HI.out.2.2.best.cell (i:=7) zU;have z8:=HI.out.2.2.best.cell (i:=8) zU;have z9:=HI.out.2.2.best.cell (i:=9) zU;have zf0:=HI.out.2.2.out.frozen 0;have zf1:=HI.out.2.2.out.frozen 1;have zf2:=HI.out.2.2.out.frozen 2;have zf3:=HI.out.2.2.out.frozen 3;have zf4:=HI.out.2.2.out.frozen 4;have zf5:=HI.out.2.2.out.frozen 5;have zf6:=HI.out.2.2.out.frozen 6;have zf7:=HI.out.2.2.out.frozen 7;have zf8:=HI.out.2.2.out.frozen 8;have zf9:=HI.out.2.2.out.frozen 9;obtain ⟨ou0,u0⟩:∃ v,wr.cell? ⟨w.heap.size,0,none⟩=some v:=⟨_,HI.out.2.2.out.cell (i:=0) zU⟩;obtain ⟨ou1,u1⟩:∃ v,wr.cell? ⟨w.heap.size,1,none⟩=some v:=⟨_,HI.out.2.2.out.cell (i:=1) zU⟩;obtain ⟨ou2,u2⟩:∃ v,wr.cell? ⟨w.heap.size,2,none⟩=some v:=⟨_,HI.out.2.2.out.cell (i:=2) zU⟩;obtain ⟨ou3,u3⟩:∃ v,wr.cell? ⟨w.heap.size,3,none⟩=some v:=⟨_,HI.out.2.2.out.cell (i:=3) zU⟩;obtain ⟨ou4,u4⟩:∃ v,wr.cell? ⟨w.heap.size,4,none⟩=some v:=⟨_,HI.out.2.2.out.cell (i:=4) zU⟩;obtain ⟨ou5,u5⟩:∃ v,wr.cell? ⟨w.heap.size,5,none⟩=some v:=⟨_,HI.out.2.2.out.cell (i:=5) zU⟩;obtain ⟨ou6,u6⟩:∃ v,wr.cell? ⟨w.heap.size,6,none⟩=some v:=⟨_,HI.out.2.2.out.cell (i:=6) zU⟩;obtain ⟨ou7,u7⟩:∃ v,wr.cell? ⟨w.heap.size,7,none⟩=some v:=⟨_,HI.out.2.2.out.cell (i:=7) zU⟩;obtain ⟨ou8,u8⟩:∃ v,wr.cell? ⟨w.heap.size,8,none⟩=some v:=⟨_,HI.out.2.2.out.cell (i:=8) zU⟩;obtain ⟨ou9,u9⟩:∃ v,wr.cell? ⟨w.heap.size,9,none⟩=some v:=⟨_,HI.out.2.2.out.cell (i:=9) zU⟩;rw [HBE.out] at z0 z1 z2 z3 z4 z5 z6 z7 z8 z9
      go_wp2_with (go_at_call 339;refine (HPC.out _).mono ?_;rintro e w1 ⟨rfl,hw⟩;subst w1;clear HPC)
      try simp only [Exit.noGoto]
      refine bodyPost_ret (v:=.agg #[O I (pvI F o n (z0o F o n 3) 0),O I (pvI F o n (z0o F o n 3) 1),O I (pvI F o n (z0o F o n 3) 2),O I (pvI F o n (z0o F o n 3) 3),O I (pvI F o n (z0o F o n 3) 4),O I (pvI F o n (z0o F o n 3) 5),O I (pvI F o n (z0o F o n 3) 6),O I (pvI F o n (z0o F o n 3) 7),O I (pvI F o n (z0o F o n 3) 8),O I (pvI F o n (z0o F o n 3) 9)]) (by simp [results,results323,go_sem,u0,u1,u2,u3,u4,u5,u6,u7,u8,u9]) rfl ⟨rfl,z3U HI.out.2.2.below zY (fun j=>O I (pvI F o n (z0o F o n 3) j))⟩
  . have e:c=4:=zU
    subst e;have HBE:Hid (∀ j,z3n F o n 4 j=O I (pvI F o n (z0o F o n 3) j)):=fun j=>rfl
    have z0:=HI.out.2.2.best.cell (i:=0) zU;have z1:=HI.out.2.2.best.cell (i:=1) zU;have z2:=HI.out.2.2.best.cell (i:=2) zU;have z3:=HI.out.2.2.best.cell (i:=3) zU;have z4:=HI.out.2.2.best.cell (i:=4) zU;have z5:=HI.out.2.2.best.cell (i:=5) zU;have z6:=HI.out.2.2.best.cell (i:=6) zU;have z7:=HI.out.2.2.best.cell (i:=7) zU;have z8:=HI.out.2.2.best.cell (i:=8) zU;have z9:=HI.out.2.2.best.cell (i:=9) zU;have zf0:=HI.out.2.2.out.frozen 0;have zf1:=HI.out.2.2.out.frozen 1;have zf2:=HI.out.2.2.out.frozen 2;have zf3:=HI.out.2.2.out.frozen 3;have zf4:=HI.out.2.2.out.frozen 4;have zf5:=HI.out.2.2.out.frozen 5;have zf6:=HI.out.2.2.out.frozen 6;have zf7:=HI.out.2.2.out.frozen 7;have zf8:=HI.out.2.2.out.frozen 8;have zf9:=HI.out.2.2.out.frozen 9;obtain ⟨ou0,u0⟩:∃ v,wr.cell? ⟨w.heap.size,0,none⟩=some v:=⟨_,HI.out.2.2.out.cell (i:=0) zU⟩;obtain ⟨ou1,u1⟩:∃ v,wr.cell? ⟨w.heap.size,1,none⟩=some v:=⟨_,HI.out.2.2.out.cell (i:=1) zU⟩;obtain ⟨ou2,u2⟩:∃ v,wr.cell? ⟨w.heap.size,2,none⟩=some v:=⟨_,HI.out.2.2.out.cell (i:=2) zU⟩;obtain ⟨ou3,u3⟩:∃ v,wr.cell? ⟨w.heap.size,3,none⟩=some v:=⟨_,HI.out.2.2.out.cell (i:=3) zU⟩;obtain ⟨ou4,u4⟩:∃ v,wr.cell? ⟨w.heap.size,4,none⟩=some v:=⟨_,HI.out.2.2.out.cell (i:=4) zU⟩;obtain ⟨ou5,u5⟩:∃ v,wr.cell? ⟨w.heap.size,5,none⟩=some v:=⟨_,HI.out.2.2.out.cell (i:=5) zU⟩;obtain ⟨ou6,u6⟩:∃ v,wr.cell? ⟨w.heap.size,6,none⟩=some v:=⟨_,HI.out.2.2.out.cell (i:=6) zU⟩;obtain ⟨ou7,u7⟩:∃ v,wr.cell? ⟨w.heap.size,7,none⟩=some v:=⟨_,HI.out.2.2.out.cell (i:=7) zU⟩;obtain ⟨ou8,u8⟩:∃ v,wr.cell? ⟨w.heap.size,8,none⟩=some v:=⟨_,HI.out.2.2.out.cell (i:=8) zU⟩;obtain ⟨ou9,u9⟩:∃ v,wr.cell? ⟨w.heap.size,9,none⟩=some v:=⟨_,HI.out.2.2.out.cell (i:=9) zU⟩;rw [HBE.out] at z0 z1 z2 z3 z4 z5 z6 z7 z8 z9;go_wp2
    try simp only [Exit.noGoto]
    refine bodyPost_ret (v:=.agg #[O I (pvI F o n (z0o F o n 3) 0),O I (pvI F o n (z0o F o n 3) 1),O I (pvI F o n (z0o F o n 3) 2),O I (pvI F o n (z0o F o n 3) 3),O I (pvI F o n (z0o F o n 3) 4),O I (pvI F o n (z0o F o n 3) 5),O I (pvI F o n (z0o F o n 3) 6),O I (pvI F o n (z0o F o n 3) 7),O I (pvI F o n (z0o F o n 3) 8),O I (pvI F o n (z0o F o n 3) 9)]) (by simp [results,results323,go_sem,u0,u1,u2,u3,u4,u5,u6,u7,u8,u9]) rfl ⟨rfl,z3U HI.out.2.2.below zY (fun j=>O I (pvI F o n (z0o F o n 3) j))⟩
open Go.RowKit
theorem z0h {P:Program} {w:World} {ops:Array Oper} {rest:List Oper} {o:Oper} {a:Act} {Q:Exit->Act->World->Prop} (hgd:o.guard=none) (p:Operand) (t:TypeId) (ho:o.op=.load t p)
 (g:Nat) (tt:TypeId) (cs:Array Value) (fr:Nat × Nat) (d:TypeDesc) (hp:a.eval p=.pointer (some ⟨g,0,none⟩)) (hg:w.heap[g]?=some (.cells cs tt fr)) (hu:P.underlying t=some d)
 (hd:(match d with | .struct _ | .array _ _=>true | _=>false)=true) (hi:(P.info? t).map (·.size)=some cs.size) (h:wpList P ops Q rest (a.put o.dst (.agg cs)) w):wpList P ops Q (o :: rest) a w:=by
 have hr:=run_loadVar_row (P:=P) w g tt t cs fr d hg hu hd hi;refine wpList_plain hgd fun _ hK=>?_
 unfold Oper.wp execOp;have e:(Instr.loadAt t (.pointer (some ⟨g,0,none⟩))).run P w=.ok (.agg cs) w:=by simpa [Instr.loadAt,Instr.sureAddr,asAddr] using hr
 simp only [ho,hp,Sem.run_bind,e,Result.andThen,Sem.run_pure];rw [Oper.upon_value];exact hK _ _ h
theorem z0a {P:Program} {w:World} {ops:Array Oper} {rest:List Oper} {o:Oper} {a:Act} {Q:Exit->Act->World->Prop} (hgd:o.guard=none) (p v:Operand) (t:TypeId) (ho:o.op=.store t p v)
 (g:Nat) (tt:TypeId) (old cells:Array Value) (hp:a.eval p=.pointer (some ⟨g,0,none⟩)) (hv:a.eval v=.agg cells) (hg:w.heap[g]?=some (.cells old tt (0,0))) (hi:(P.info? t).map (·.size)=some cells.size)
 (hs:old.size=cells.size) (h1:cells.toList.all (·.oneCell')=true) (h:wpList P ops Q rest (a.put o.dst undef) (w.setRow g cells)):wpList P ops Q (o :: rest) a w:=by
 have hr:=run_storeVar_row (P:=P) w g tt t old cells hg hi hs (by rw [← Array.all_toList];exact h1);refine wpList_plain hgd fun _ hK=>?_
 unfold Oper.wp execOp;have e:(Instr.storeAt t (.pointer (some ⟨g,0,none⟩)) (.agg cells)).run P w=.ok () (w.setRow g cells):=by simpa [Instr.storeAt,Instr.sureAddr,asAddr] using hr
 simp only [ho,hp,hv,Sem.run_bind,e,Result.andThen,Sem.run_pure];rw [Oper.upon_skip];exact hK _ _ h
def bG (kind:Nat) (x:Nat->Int) (n j:Nat):Int :=
 if kind < 2 then 0 else if j=0 then ord kind else if j=5 then scl kind else wt kind (wA kind x n) (wB kind x n) (j - 1)
def bP (kind:Nat) (x:Nat->Int) (n j:Nat):Int:=if kind < 2 then 0 else pvI (fR kind x n) (ord kind) n (bC kind x n) j
def y8F (kind w:Nat) (x:Nat->Int) (n:Nat):Value :=
 .agg #[O I (kind:Int),O I (bG kind x n 0),O I (bG kind x n 1),O I (bG kind x n 2),O I (bG kind x n 3),O I (bG kind x n 4),O I (bG kind x n 5),O I (bP kind x n 0),O I (bP kind x n 1),O I (bP kind x n 2),O I (bP kind x n 3),O I (bP kind x n 4),O I (bP kind x n 5),O I (bP kind x n 6),O I (bP kind x n 7),O I (bP kind x n 8),O I (bP kind x n 9),O I (z1j kind w x n:Int)]
theorem z3V (F:Nat->Nat) (o n c:Nat) (hn:n<=32) (hc:c<=3) (hok:okC n o c=true) (hF:∀ i,o<=i->i < n->F i<=2000000):cutL F o n c<=1000000000:=by
 have h:=z5v (show cutB n o c=true from hok);have h1:=z2G F o (n / 2 ^ c) (2 ^ c) n hn h.1 h.2 hF (2 ^ c) zY;have h2:2 ^ c<=8:=zO (zE zU hc) zR;have h3:2 ^ c * 64000484<=8 * 64000484:=zD _ h2;unfold cutL;omega
structure Shorts (w:World) (A:Option Addr) (n:Nat) (x:Nat->Int):Prop where
 ints:IntsAt w A n x
 low:∀ y,A=some y->0 < n->y.block < w.heap.size
 bd:∀ j,j < n->-4096<=x j/\x j<=4096
theorem Shorts.below {w u:World} {A:Option Addr} {n:Nat} {x:Nat->Int} (h:Shorts w A n x) (hb:Below w.heap.size w u):Shorts u A n x :=
 ⟨h.ints.belowB hb h.low,fun y hy h0=>zP (h.low y hy h0) hb.size,h.bd⟩
theorem z0w:(prog.info? 338).map (·.size)=some 18:=zT
def Bx (w:World) (b:Nat) (t:TypeId) (cs:Array Value):Prop:=w.heap[b]?=some (.cells cs t (0,0))
theorem Bx.lt {w:World} {b:Nat} {t:TypeId} {cs:Array Value} (h:Bx w b t cs):b < w.heap.size:=(Array.getElem?_eq_some_iff.1 h).1
theorem Bx.of {w w':World} {b:Nat} {t:TypeId} {cs:Array Value} (h:Bx w b t cs) (e:w'.heap[b]?=w.heap[b]?):Bx w' b t cs:=e.trans h
theorem Bx.alloc {w:World} {b:Nat} {t:TypeId} {cs:Array Value} (h:Bx w b t cs) (o:Obj):Bx (w.alloc o) b t cs:=h.of (blk_alloc_lt _ _ _ h.lt)
theorem Bx.new (w:World) (cs:Array Value) (t:TypeId):Bx (w.alloc (.cells cs t)) w.heap.size t cs:=blk_alloc_new _ _
theorem Bx.below {w w':World} {b:Nat} {t:TypeId} {cs:Array Value} (h:Bx w b t cs) (hb:Below w.heap.size w w'):Bx w' b t cs:=h.of (hb.block _ h.lt)
theorem Bx.row {w:World} {b:Nat} {t:TypeId} {cs:Array Value} (h:Bx w b t cs) (ds:Array Value):Bx (w.setRow b ds) b t ds:=setRow_heap w b cs ds t (0,0) h
theorem Bx.other {w:World} {b g:Nat} {t:TypeId} {cs:Array Value} (h:Bx w b t cs) (hb:b ≠ g) (ds:Array Value):Bx (w.setRow g ds) b t cs:=h.of (setRow_other w g b ds hb)
theorem Bx.cell {w:World} {b:Nat} {t:TypeId} {cs:Array Value} (h:Bx w b t cs) (j:Nat):w.cell? ⟨b,j,none⟩=cs[j]?:=by simp [World.cell?,show w.heap[b]?=_ from h]
def z0r (kind w:Nat) (x:Nat->Int) (n:Nat):Array Value :=
 #[O I (kind:Int),O I (bG kind x n 0),O I (bG kind x n 1),O I (bG kind x n 2),O I (bG kind x n 3),O I (bG kind x n 4),O I (bG kind x n 5),O I (bP kind x n 0),O I (bP kind x n 1),O I (bP kind x n 2),O I (bP kind x n 3),O I (bP kind x n 4),O I (bP kind x n 5),O I (bP kind x n 6),O I (bP kind x n 7),O I (bP kind x n 8),O I (bP kind x n 9),O I (z1j kind w x n:Int)]
theorem y5P (kind w:Nat) (x:Nat->Int) (n:Nat):y8F kind w x n=.agg (z0r kind w x n):=rfl
def z3k:Array Value:=#[O I 0,O I 0,O I 0,O I 0,O I 0,O I 0,O I 0,O I 0,O I 0,O I 0,O I 0,O I 0,O I 0,O I 0,O I 0,O I 0,O I 0,O I 0]
theorem z1V:(prog.info? 333).map (·.size)=some 6:=zT
theorem z4n:(prog.info? 336).map (·.size)=some 10:=zT
theorem y1e (tmps:Array Value) (R:Nat) (b:Bool) (cs:Array Value) (W:World) (h:Bx W R 338 cs) (hs:cs.size=18) (h6:tmps.getD 6 undef=.pointer (some ⟨R,0,none⟩)) (h7:tmps.getD 7 undef=.bool b) :
 (results Tryz.f294 tmps).run prog W=.ok (.tuple #[.agg cs,.bool b]) W:=by
 have hl:=run_loadVar_row (P:=prog) W R 338 338 cs (0,0) _ h underlying338 rfl (by rw [hs];exact z0w);rw [Array.getD_eq_getD_getElem?] at h6 h7;simp [results,results294,asAddr,h6,h7,hl]
set_option maxRecDepth 100000 in
set_option maxHeartbeats 4000000 in
theorem z4G (kind:Nat) (A:Option Addr) (n c width:Nat) (x:Nat->Int) (w:World) (h2:2<=kind) (h6:kind<=6) (hn:n<=32) (hnc:n<=c) (hw:width<=13) (hon:ord kind < n) (hS:Shorts w A n x)
 (hT:z1v w 5) (hg:5 < w.heap.size) :
 Calls prog 294 #[O I kind,O I width,.slice A n c] w fun e w'=>e=.returned (.tuple #[.agg (z0r kind width x n),.bool true])/\Below w.heap.size w w':=by
 have hk7':kind<=7:=zU
 have ho:=z3j kind h2 hk7';have h7:((kind:Int) == 7)=false:=by simp;omega
 have hm:I.wrap ((ord kind:Int) * (width:Int))=((ord kind * width:Nat):Int):=by
  have h1:ord kind * width<=4 * 13:=Nat.mul_le_mul ho hw;rw [show (ord kind:Int) * (width:Int)=((ord kind * width:Nat):Int) by simp,zK];omega
 have hmb:ord kind * width<=52:=Nat.mul_le_mul ho hw;have HO:=zZ (fun u=>z2Q kind u h2 hk7');have HF:=zZ (fun u (hu:Below w.heap.size w u)=>y3w kind (wA kind x n) (wB kind x n) u h2 h6 (fun r c hr hc=>(hu.cell (p:=⟨5,4 * r+c,none⟩) hg).trans (hT r c hr hc)) (zP hg hu.size));have HFR:=zZ (fun (u:World) (hu:Below w.heap.size w u)=>z3s kind A n c x u h2 hk7' hn hon hS.bd (hS.below hu).ints (hS.below hu).low hnc);have HSP:=zZ (fun (G:Nat) (u:World) (hu:u.rowIs G 3 n (z4m (ord kind) (fR kind x n) n))=>z2H (ord kind) G n (fR kind x n) u hn ho hon (fun i hi hin=>(z7z kind x n i h2 hk7' (fun j hj=>hS.bd j zU) hi).2) hu);have hcl:=z3V (fR kind x n) (ord kind) n (bC kind x n) hn (z2x _ _ _ _) (z2y _ _ _ hon _) (fun i hi hin=>(z7z kind x n i h2 hk7' (fun j hj=>hS.bd j zU) hi).2);have hp9:pvI (fR kind x n) (ord kind) n (bC kind x n) 9=(cutL (fR kind x n) (ord kind) n (bC kind x n):Int):=rfl;have HBL:Hid ((z1j kind width x n:Int)=((ord kind * width:Nat):Int)+(cutL (fR kind x n) (ord kind) n (bC kind x n):Int)):=by
  show _=_
  unfold z1j gL;rw [if_neg zU,if_neg zU,if_neg zU];simp
 have HBV:Hid (z0r kind width x n=#[O I kind,O I (ord kind),O I (wt kind (wA kind x n) (wB kind x n) 0),O I (wt kind (wA kind x n) (wB kind x n) 1),O I (wt kind (wA kind x n) (wB kind x n) 2),O I (wt kind (wA kind x n) (wB kind x n) 3),O I (scl kind:Int),O I (pvI (fR kind x n) (ord kind) n (bC kind x n) 0),O I (pvI (fR kind x n) (ord kind) n (bC kind x n) 1),O I (pvI (fR kind x n) (ord kind) n (bC kind x n) 2),O I (pvI (fR kind x n) (ord kind) n (bC kind x n) 3),O I (pvI (fR kind x n) (ord kind) n (bC kind x n) 4),O I (pvI (fR kind x n) (ord kind) n (bC kind x n) 5),O I (pvI (fR kind x n) (ord kind) n (bC kind x n) 6),O I (pvI (fR kind x n) (ord kind) n (bC kind x n) 7),O I (pvI (fR kind x n) (ord kind) n (bC kind x n) 8),O I (pvI (fR kind x n) (ord kind) n (bC kind x n) 9),O I (((ord kind * width:Nat):Int)+(cutL (fR kind x n) (ord kind) n (bC kind x n):Int))]):=by
  show _=_
  rw [← HBL.out];unfold z0r bG bP;simp only [if_neg (show ¬ kind < 2 by omega)]
  rfl
 obtain ⟨cl,hcle⟩:∃ cl,cl=cutL (fR kind x n) (ord kind) n (bC kind x n):=⟨_,rfl⟩;obtain ⟨ow,howe⟩:∃ ow,ow=ord kind * width:=⟨_,rfl⟩;obtain ⟨pv,hpve⟩:∃ pv,pv=pvI (fR kind x n) (ord kind) n (bC kind x n):=⟨_,rfl⟩;have hbCe:z0o (fR kind x n) (ord kind) n 3=bC kind x n:=rfl;rw [hbCe] at HSP;rw [← hcle] at hcl hp9 HBV;rw [← hpve] at hp9 HBV HSP;rw [← howe] at hm hmb HBV;have v1:I.wrap ((ow:Int)+pv 9)=(ow:Int)+(cl:Int):=by rw [hp9,zK];omega
 clear hp9;have HR0:Hid (Bx ((w.alloc (.cells #[O I 0,O I 0,O I 0,O I 0,O I 0,O I 0,O I 0,O I 0,O I 0,O I 0,O I 0,O I 0,O I 0,O I 0,O I 0,O I 0,O I 0,O I 0] 338)).alloc (.cells #[O I 0,O I 0,O I 0,O I 0,O I 0,O I 0] 333)) w.heap.size 338 #[O I 0,O I 0,O I 0,O I 0,O I 0,O I 0,O I 0,O I 0,O I 0,O I 0,O I 0,O I 0,O I 0,O I 0,O I 0,O I 0,O I 0,O I 0]):=(Bx.new w _ _).alloc _;have HB0:Hid (Bx ((w.alloc (.cells #[O I 0,O I 0,O I 0,O I 0,O I 0,O I 0,O I 0,O I 0,O I 0,O I 0,O I 0,O I 0,O I 0,O I 0,O I 0,O I 0,O I 0,O I 0] 338)).alloc (.cells #[O I 0,O I 0,O I 0,O I 0,O I 0,O I 0] 333)) (w.heap.size+1) 333 #[O I 0,O I 0,O I 0,O I 0,O I 0,O I 0]):=by
  have:=Bx.new (w.alloc (.cells #[O I 0,O I 0,O I 0,O I 0,O I 0,O I 0,O I 0,O I 0,O I 0,O I 0,O I 0,O I 0,O I 0,O I 0,O I 0,O I 0,O I 0,O I 0] 338)) #[O I 0,O I 0,O I 0,O I 0,O I 0,O I 0] 333;rw [World.size_alloc] at this;exact this
 have HW0:Hid (Below w.heap.size w ((w.alloc (.cells #[O I 0,O I 0,O I 0,O I 0,O I 0,O I 0,O I 0,O I 0,O I 0,O I 0,O I 0,O I 0,O I 0,O I 0,O I 0,O I 0,O I 0,O I 0] 338)).alloc (.cells #[O I 0,O I 0,O I 0,O I 0,O I 0,O I 0] 333))):=((Below.refl w.heap.size w).alloc zY _).alloc (by simp) _;have t1:decide ((n:Int)<=(ord kind:Int))=false:=zM zU;have t2:decide (n<=ord kind)=false:=zM zU;rw [HBV.out];clear hT hS hcle howe hpve hbCe HBL HBV hmb hcl;unfold gV at HF HFR;generalize hwt:wt kind (wA kind x n) (wB kind x n)=wv at *;clear hwt;generalize ord kind=o at *;generalize scl kind=sc at *
 go_enter func294,ntmps294
 go_wp2_with (first
  | (go_at_call 319;refine (HO.out _).mono ?_;rintro e w1 ⟨rfl,hw⟩;subst w1;clear HO)
  | (go_at_call 322;refine (HF.out _ ?_).mono ?_;exact HW0.out;rintro e w2 ⟨rfl,hb2⟩;have HR2:=zZ (HR0.out.below hb2);have HB2:=zZ (HB0.out.below hb2);have HW2:=zZ (HW0.out.trans (hb2.mono HW0.out.size));clear hb2 HR0 HB0 HW0;clear HF)
  | (refine z0a rfl _ _ 333 rfl (w.heap.size+1) 333 _ _ rfl rfl HB2.out z1V rfl rfl ?_;have HR3:=zZ (HR2.out.other (g:=w.heap.size+1) zU #[O I (o:Int),O I (wv 0),O I (wv 1),O I (wv 2),O I (wv 3),O I (sc:Int)]);have HB3:=zZ (HB2.out.row #[O I (o:Int),O I (wv 0),O I (wv 1),O I (wv 2),O I (wv 3),O I (sc:Int)]);have HW3:=zZ (below_setRow (g:=w.heap.size+1) HW2.out zU #[O I (o:Int),O I (wv 0),O I (wv 1),O I (wv 2),O I (wv 3),O I (sc:Int)]);clear HR2 HB2 HW2)
  | (refine z0h rfl _ 333 rfl (w.heap.size+1) 333 #[O I (o:Int),O I (wv 0),O I (wv 1),O I (wv 2),O I (wv 3),O I (sc:Int)] (0,0) _ rfl HB3.out underlying333 rfl z1V ?_)
  | (go_at_call 324;refine (HFR.out _ ?_).mono ?_;exact HW3.out;rintro e w4 ⟨G,hG,rfl,hrow,hb4⟩;have HG:=zZ hrow;have HR4:=zZ (HR3.out.below hb4);have HB4:=zZ (HB3.out.below hb4);have HW4:=zZ (HW3.out.trans (hb4.mono HW3.out.size));clear hb4 HR3 HB3 HW3;clear hrow HFR)
  | (go_at_call 323;refine (HSP.out G _ ?_).mono ?_;exact HG.out;rintro e w5 ⟨rfl,hb5⟩;have HR5:=zZ (HR4.out.below hb5);have HB5:=zZ (HB4.out.below hb5);have HW5:=zZ (HW4.out.trans (hb5.mono HW4.out.size));clear hb5 HR4 HB4 HW4;have hs5:=HB5.out.lt;clear HSP HG)
  | (refine z0a rfl _ _ 336 rfl w5.heap.size 336 _ _ rfl rfl (Bx.new w5 #[O I 0,O I 0,O I 0,O I 0,O I 0,O I 0,O I 0,O I 0,O I 0,O I 0] 336) z4n rfl rfl ?_;have HP6:=zZ ((Bx.new w5 #[O I 0,O I 0,O I 0,O I 0,O I 0,O I 0,O I 0,O I 0,O I 0,O I 0] 336).row #[O I (pv 0),O I (pv 1),O I (pv 2),O I (pv 3),O I (pv 4),O I (pv 5),O I (pv 6),O I (pv 7),O I (pv 8),O I (pv 9)]);have HR6:=zZ ((HR5.out.alloc (.cells #[O I 0,O I 0,O I 0,O I 0,O I 0,O I 0,O I 0,O I 0,O I 0,O I 0] 336)).other (g:=w5.heap.size) zU #[O I (pv 0),O I (pv 1),O I (pv 2),O I (pv 3),O I (pv 4),O I (pv 5),O I (pv 6),O I (pv 7),O I (pv 8),O I (pv 9)]);have HB6:=zZ ((HB5.out.alloc (.cells #[O I 0,O I 0,O I 0,O I 0,O I 0,O I 0,O I 0,O I 0,O I 0,O I 0] 336)).other (g:=w5.heap.size) zU #[O I (pv 0),O I (pv 1),O I (pv 2),O I (pv 3),O I (pv 4),O I (pv 5),O I (pv 6),O I (pv 7),O I (pv 8),O I (pv 9)]);have HW6:=zZ (below_setRow (g:=w5.heap.size) (HW5.out.alloc HW5.out.size (.cells #[O I 0,O I 0,O I 0,O I 0,O I 0,O I 0,O I 0,O I 0,O I 0,O I 0] 336)) zU #[O I (pv 0),O I (pv 1),O I (pv 2),O I (pv 3),O I (pv 4),O I (pv 5),O I (pv 6),O I (pv 7),O I (pv 8),O I (pv 9)]);have x9:=HP6.out.cell 9;simp at x9;clear HR5 HB5 HW5)
  | (refine z0h rfl _ 333 rfl (w.heap.size+1) 333 #[O I (o:Int),O I (wv 0),O I (wv 1),O I (wv 2),O I (wv 3),O I (sc:Int)] (0,0) _ rfl HB6.out underlying333 rfl z1V ?_)
  | (refine z0h rfl _ 336 rfl w5.heap.size 336 #[O I (pv 0),O I (pv 1),O I (pv 2),O I (pv 3),O I (pv 4),O I (pv 5),O I (pv 6),O I (pv 7),O I (pv 8),O I (pv 9)] (0,0) _ rfl HP6.out underlying336 rfl z4n ?_)
  | (refine z0a rfl _ _ 338 rfl w.heap.size 338 _ _ rfl rfl HR6.out z0w rfl rfl ?_))
 exact bodyPost_ret (y1e _ w.heap.size true _ _ (HR6.out.row _) rfl rfl rfl) rfl ⟨rfl,below_setRow HW6.out zY _⟩
set_option maxRecDepth 100000 in
set_option maxHeartbeats 4000000 in
theorem z4H (kind:Nat) (A:Option Addr) (n c width:Nat) (x:Nat->Int) (w:World) (hk7:kind=7) (hn:n<=32) (hnc:n<=c) (hw:width<=13) (hon:ord kind < n) (hD:0 < z2S x n) (hS:Shorts w A n x) :
 Calls prog 294 #[O I kind,O I width,.slice A n c] w fun e w'=>e=.returned (.tuple #[.agg (z0r kind width x n),.bool true])/\Below w.heap.size w w':=by
 have h2:2<=kind:=zU
 have hk7':kind<=7:=zU
 have ho:=z3j kind h2 hk7';have h7:((kind:Int) == 7)=true:=by simp;omega
 have hm:I.wrap ((ord kind:Int) * (width:Int))=((ord kind * width:Nat):Int):=by
  have h1:ord kind * width<=4 * 13:=Nat.mul_le_mul ho hw;rw [show (ord kind:Int) * (width:Int)=((ord kind * width:Nat):Int) by simp,zK];omega
 have hmb:ord kind * width<=52:=Nat.mul_le_mul ho hw;have HO:=zZ (fun u=>z2Q kind u h2 hk7');have HF:Hid (∀ u:World,Calls prog 321 #[O I (z2T x n),O I (z2U x n)] u fun e w'=>e=.returned (gV kind (wA kind x n) (wB kind x n))/\Below u.heap.size u w'):=fun u=>by
  have ea:wA kind x n=z2T x n:=if_pos hk7;have eb:wB kind x n=z2U x n:=if_pos hk7;rw [ea,eb,hk7];exact z9G (z2T x n) (z2U x n) u
 have HWF:=zZ (fun (u:World) (hu:Below w.heap.size w u)=>z3O A n c x u hn hS.bd (hS.below hu).ints);rw [zL hD] at HWF;have HFR:=zZ (fun (u:World) (hu:Below w.heap.size w u)=>z3s kind A n c x u h2 hk7' hn hon hS.bd (hS.below hu).ints (hS.below hu).low hnc);have HSP:=zZ (fun (G:Nat) (u:World) (hu:u.rowIs G 3 n (z4m (ord kind) (fR kind x n) n))=>z2H (ord kind) G n (fR kind x n) u hn ho hon (fun i hi hin=>(z7z kind x n i h2 hk7' (fun j hj=>hS.bd j zU) hi).2) hu);have hcl:=z3V (fR kind x n) (ord kind) n (bC kind x n) hn (z2x _ _ _ _) (z2y _ _ _ hon _) (fun i hi hin=>(z7z kind x n i h2 hk7' (fun j hj=>hS.bd j zU) hi).2);have hp9:pvI (fR kind x n) (ord kind) n (bC kind x n) 9=(cutL (fR kind x n) (ord kind) n (bC kind x n):Int):=rfl;have HBL:Hid ((z1j kind width x n:Int)=((ord kind * width:Nat):Int)+12+(cutL (fR kind x n) (ord kind) n (bC kind x n):Int)):=by
  show _=_
  unfold z1j gL;rw [if_neg zU,if_neg zU,if_pos hk7];simp
 have HBV:Hid (z0r kind width x n=#[O I kind,O I (ord kind),O I (wt kind (wA kind x n) (wB kind x n) 0),O I (wt kind (wA kind x n) (wB kind x n) 1),O I (wt kind (wA kind x n) (wB kind x n) 2),O I (wt kind (wA kind x n) (wB kind x n) 3),O I (scl kind:Int),O I (pvI (fR kind x n) (ord kind) n (bC kind x n) 0),O I (pvI (fR kind x n) (ord kind) n (bC kind x n) 1),O I (pvI (fR kind x n) (ord kind) n (bC kind x n) 2),O I (pvI (fR kind x n) (ord kind) n (bC kind x n) 3),O I (pvI (fR kind x n) (ord kind) n (bC kind x n) 4),O I (pvI (fR kind x n) (ord kind) n (bC kind x n) 5),O I (pvI (fR kind x n) (ord kind) n (bC kind x n) 6),O I (pvI (fR kind x n) (ord kind) n (bC kind x n) 7),O I (pvI (fR kind x n) (ord kind) n (bC kind x n) 8),O I (pvI (fR kind x n) (ord kind) n (bC kind x n) 9),O I (((ord kind * width:Nat):Int)+12+(cutL (fR kind x n) (ord kind) n (bC kind x n):Int))]):=by
  show _=_
  rw [← HBL.out];unfold z0r bG bP;simp only [if_neg (show ¬ kind < 2 by omega)]
  rfl
 obtain ⟨cl,hcle⟩:∃ cl,cl=cutL (fR kind x n) (ord kind) n (bC kind x n):=⟨_,rfl⟩;obtain ⟨ow,howe⟩:∃ ow,ow=ord kind * width:=⟨_,rfl⟩;obtain ⟨pv,hpve⟩:∃ pv,pv=pvI (fR kind x n) (ord kind) n (bC kind x n):=⟨_,rfl⟩;have hbCe:z0o (fR kind x n) (ord kind) n 3=bC kind x n:=rfl;rw [hbCe] at HSP;rw [← hcle] at hcl hp9 HBV;rw [← hpve] at hp9 HBV HSP;rw [← howe] at hm hmb HBV;have v1:I.wrap ((ow:Int)+12+pv 9)=(ow:Int)+12+(cl:Int):=by rw [hp9,zK];omega
 have v0:I.wrap ((ow:Int)+12)=(ow:Int)+12:=by rw [zK];omega
 clear hp9;have HR0:Hid (Bx ((w.alloc (.cells #[O I 0,O I 0,O I 0,O I 0,O I 0,O I 0,O I 0,O I 0,O I 0,O I 0,O I 0,O I 0,O I 0,O I 0,O I 0,O I 0,O I 0,O I 0] 338)).alloc (.cells #[O I 0,O I 0,O I 0,O I 0,O I 0,O I 0] 333)) w.heap.size 338 #[O I 0,O I 0,O I 0,O I 0,O I 0,O I 0,O I 0,O I 0,O I 0,O I 0,O I 0,O I 0,O I 0,O I 0,O I 0,O I 0,O I 0,O I 0]):=(Bx.new w _ _).alloc _;have HB0:Hid (Bx ((w.alloc (.cells #[O I 0,O I 0,O I 0,O I 0,O I 0,O I 0,O I 0,O I 0,O I 0,O I 0,O I 0,O I 0,O I 0,O I 0,O I 0,O I 0,O I 0,O I 0] 338)).alloc (.cells #[O I 0,O I 0,O I 0,O I 0,O I 0,O I 0] 333)) (w.heap.size+1) 333 #[O I 0,O I 0,O I 0,O I 0,O I 0,O I 0]):=by
  have:=Bx.new (w.alloc (.cells #[O I 0,O I 0,O I 0,O I 0,O I 0,O I 0,O I 0,O I 0,O I 0,O I 0,O I 0,O I 0,O I 0,O I 0,O I 0,O I 0,O I 0,O I 0] 338)) #[O I 0,O I 0,O I 0,O I 0,O I 0,O I 0] 333;rw [World.size_alloc] at this;exact this
 have HW0:Hid (Below w.heap.size w ((w.alloc (.cells #[O I 0,O I 0,O I 0,O I 0,O I 0,O I 0,O I 0,O I 0,O I 0,O I 0,O I 0,O I 0,O I 0,O I 0,O I 0,O I 0,O I 0,O I 0] 338)).alloc (.cells #[O I 0,O I 0,O I 0,O I 0,O I 0,O I 0] 333))):=((Below.refl w.heap.size w).alloc zY _).alloc (by simp) _;have t1:decide ((n:Int)<=(ord kind:Int))=false:=zM zU;have t2:decide (n<=ord kind)=false:=zM zU;rw [HBV.out];have HD:=zZ hD;clear hk7 hD hS hcle howe hpve hbCe HBL HBV hmb hcl;unfold gV at HF HFR;generalize hwt:wt kind (wA kind x n) (wB kind x n)=wv at *;clear hwt;generalize ord kind=o at *;generalize scl kind=sc at *
 go_enter func294,ntmps294
 go_wp2_with (first
  | (go_at_call 319;refine (HO.out _).mono ?_;rintro e w1 ⟨rfl,hw⟩;subst w1;clear HO)
  | (go_at_call 320;refine (HWF.out _ ?_).mono ?_;exact HW0.out;rintro e w1 ⟨⟨va,vb,rfl,hab⟩,q,hq⟩;obtain ⟨rfl,rfl⟩:=hab HD.out;have HR1:Hid (Bx w1 w.heap.size 338 #[O I 0,O I 0,O I 0,O I 0,O I 0,O I 0,O I 0,O I 0,O I 0,O I 0,O I 0,O I 0,O I 0,O I 0,O I 0,O I 0,O I 0,O I 0]):=(by rw [hq];exact HR0.out);have HB1:Hid (Bx w1 (w.heap.size+1) 333 #[O I 0,O I 0,O I 0,O I 0,O I 0,O I 0]):=(by rw [hq];exact HB0.out);have HW1:Hid (Below w.heap.size w w1):=(by rw [hq];exact ⟨HW0.out.os,HW0.out.tape,HW0.out.output,HW0.out.size,HW0.out.block⟩);clear hq hab HWF HR0 HB0 HW0)
  | (go_at_call 321;refine (HF.out _).mono ?_;rintro e w2 ⟨rfl,hb2⟩;have HR2:=zZ (HR1.out.below hb2);have HB2:=zZ (HB1.out.below hb2);have HW2:=zZ (HW1.out.trans (hb2.mono HW1.out.size));clear hb2 HR1 HB1 HW1;clear HF)
  | (refine z0a rfl _ _ 333 rfl (w.heap.size+1) 333 _ _ rfl rfl HB2.out z1V rfl rfl ?_;have HR3:=zZ (HR2.out.other (g:=w.heap.size+1) zU #[O I (o:Int),O I (wv 0),O I (wv 1),O I (wv 2),O I (wv 3),O I (sc:Int)]);have HB3:=zZ (HB2.out.row #[O I (o:Int),O I (wv 0),O I (wv 1),O I (wv 2),O I (wv 3),O I (sc:Int)]);have HW3:=zZ (below_setRow (g:=w.heap.size+1) HW2.out zU #[O I (o:Int),O I (wv 0),O I (wv 1),O I (wv 2),O I (wv 3),O I (sc:Int)]);clear HR2 HB2 HW2)
  | (refine z0h rfl _ 333 rfl (w.heap.size+1) 333 #[O I (o:Int),O I (wv 0),O I (wv 1),O I (wv 2),O I (wv 3),O I (sc:Int)] (0,0) _ rfl HB3.out underlying333 rfl z1V ?_)
  | (go_at_call 324;refine (HFR.out _ ?_).mono ?_;exact HW3.out;rintro e w4 ⟨G,hG,rfl,hrow,hb4⟩;have HG:=zZ hrow;have HR4:=zZ (HR3.out.below hb4);have HB4:=zZ (HB3.out.below hb4);have HW4:=zZ (HW3.out.trans (hb4.mono HW3.out.size));clear hb4 HR3 HB3 HW3;clear hrow HFR)
  | (go_at_call 323;refine (HSP.out G _ ?_).mono ?_;exact HG.out;rintro e w5 ⟨rfl,hb5⟩;have HR5:=zZ (HR4.out.below hb5);have HB5:=zZ (HB4.out.below hb5);have HW5:=zZ (HW4.out.trans (hb5.mono HW4.out.size));clear hb5 HR4 HB4 HW4;have hs5:=HB5.out.lt;clear HSP HG)
  | (refine z0a rfl _ _ 336 rfl w5.heap.size 336 _ _ rfl rfl (Bx.new w5 #[O I 0,O I 0,O I 0,O I 0,O I 0,O I 0,O I 0,O I 0,O I 0,O I 0] 336) z4n rfl rfl ?_;have HP6:=zZ ((Bx.new w5 #[O I 0,O I 0,O I 0,O I 0,O I 0,O I 0,O I 0,O I 0,O I 0,O I 0] 336).row #[O I (pv 0),O I (pv 1),O I (pv 2),O I (pv 3),O I (pv 4),O I (pv 5),O I (pv 6),O I (pv 7),O I (pv 8),O I (pv 9)]);have HR6:=zZ ((HR5.out.alloc (.cells #[O I 0,O I 0,O I 0,O I 0,O I 0,O I 0,O I 0,O I 0,O I 0,O I 0] 336)).other (g:=w5.heap.size) zU #[O I (pv 0),O I (pv 1),O I (pv 2),O I (pv 3),O I (pv 4),O I (pv 5),O I (pv 6),O I (pv 7),O I (pv 8),O I (pv 9)]);have HB6:=zZ ((HB5.out.alloc (.cells #[O I 0,O I 0,O I 0,O I 0,O I 0,O I 0,O I 0,O I 0,O I 0,O I 0] 336)).other (g:=w5.heap.size) zU #[O I (pv 0),O I (pv 1),O I (pv 2),O I (pv 3),O I (pv 4),O I (pv 5),O I (pv 6),O I (pv 7),O I (pv 8),O I (pv 9)]);have HW6:=zZ (below_setRow (g:=w5.heap.size) (HW5.out.alloc HW5.out.size (.cells #[O I 0,O I 0,O I 0,O I 0,O I 0,O I 0,O I 0,O I 0,O I 0,O I 0] 336)) zU #[O I (pv 0),O I (pv 1),O I (pv 2),O I (pv 3),O I (pv 4),O I (pv 5),O I (pv 6),O I (pv 7),O I (pv 8),O I (pv 9)]);have x9:=HP6.out.cell 9;simp at x9;clear HR5 HB5 HW5)
  | (refine z0h rfl _ 333 rfl (w.heap.size+1) 333 #[O I (o:Int),O I (wv 0),O I (wv 1),O I (wv 2),O I (wv 3),O I (sc:Int)] (0,0) _ rfl HB6.out underlying333 rfl z1V ?_)
  | (refine z0h rfl _ 336 rfl w5.heap.size 336 #[O I (pv 0),O I (pv 1),O I (pv 2),O I (pv 3),O I (pv 4),O I (pv 5),O I (pv 6),O I (pv 7),O I (pv 8),O I (pv 9)] (0,0) _ rfl HP6.out underlying336 rfl z4n ?_)
  | (refine z0a rfl _ _ 338 rfl w.heap.size 338 _ _ rfl rfl HR6.out z0w rfl rfl ?_))
 exact bodyPost_ret (y1e _ w.heap.size true _ _ (HR6.out.row _) rfl rfl rfl) rfl ⟨rfl,below_setRow HW6.out zY _⟩
set_option maxRecDepth 100000 in
set_option maxHeartbeats 4000000 in
theorem z4I (kind:Nat) (A:Option Addr) (n c width:Nat) (w:World) (h2:2<=kind) (h7:kind<=7) (hon:¬ ord kind < n) :
 Calls prog 294 #[O I kind,O I width,.slice A n c] w fun e w'=>e=.returned (.tuple #[.agg z3k,.bool false])/\Below w.heap.size w w':=by
 have HO:=zZ (fun u=>z2Q kind u h2 h7);have HR0:Hid (Bx (w.alloc (.cells #[O I 0,O I 0,O I 0,O I 0,O I 0,O I 0,O I 0,O I 0,O I 0,O I 0,O I 0,O I 0,O I 0,O I 0,O I 0,O I 0,O I 0,O I 0] 338)) w.heap.size 338 #[O I 0,O I 0,O I 0,O I 0,O I 0,O I 0,O I 0,O I 0,O I 0,O I 0,O I 0,O I 0,O I 0,O I 0,O I 0,O I 0,O I 0,O I 0]):=Bx.new w _ _;have HW0:Hid (Below w.heap.size w (w.alloc (.cells #[O I 0,O I 0,O I 0,O I 0,O I 0,O I 0,O I 0,O I 0,O I 0,O I 0,O I 0,O I 0,O I 0,O I 0,O I 0,O I 0,O I 0,O I 0] 338))):=(Below.refl w.heap.size w).alloc zY _;have t1:decide ((n:Int)<=(ord kind:Int))=true:=zL zU;have t2:decide (n<=ord kind)=true:=zL zU;generalize ord kind=o at *
 go_enter func294,ntmps294
 go_wp2_with (first
  | (go_at_call 319;refine (HO.out _).mono ?_;rintro e w1 ⟨rfl,hw⟩;subst w1;clear HO)
  | (refine z0a rfl _ _ 338 rfl w.heap.size 338 _ _ rfl rfl HR0.out z0w rfl rfl ?_))
 exact bodyPost_ret (y1e _ w.heap.size false _ _ (HR0.out.row _) rfl rfl rfl) rfl ⟨rfl,below_setRow HW0.out zY _⟩
set_option maxRecDepth 100000 in
set_option maxHeartbeats 4000000 in
theorem z5F (kind:Nat) (A:Option Addr) (n c width:Nat) (x:Nat->Int) (w:World) (hk7:kind=7) (hn:n<=32) (hw:width<=13) (hon:ord kind < n) (hD:¬ 0 < z2S x n) (hS:Shorts w A n x) :
 Calls prog 294 #[O I kind,O I width,.slice A n c] w fun e w'=>e=.returned (.tuple #[.agg z3k,.bool false])/\Below w.heap.size w w':=by
 have h2:2<=kind:=zU
 have ho:=z3j kind h2 zU;have h7:((kind:Int) == 7)=true:=by simp;omega
 have hm:I.wrap ((ord kind:Int) * (width:Int))=((ord kind * width:Nat):Int):=by
  have h1:ord kind * width<=4 * 13:=Nat.mul_le_mul ho hw;rw [show (ord kind:Int) * (width:Int)=((ord kind * width:Nat):Int) by simp,zK];omega
 have HO:=zZ (fun u=>z2Q kind u h2 zU);have HWF:=zZ (fun (u:World) (hu:Below w.heap.size w u)=>z3O A n c x u hn hS.bd (hS.below hu).ints);rw [zM hD] at HWF;have HR0:Hid (Bx ((w.alloc (.cells #[O I 0,O I 0,O I 0,O I 0,O I 0,O I 0,O I 0,O I 0,O I 0,O I 0,O I 0,O I 0,O I 0,O I 0,O I 0,O I 0,O I 0,O I 0] 338)).alloc (.cells #[O I 0,O I 0,O I 0,O I 0,O I 0,O I 0] 333)) w.heap.size 338 #[O I 0,O I 0,O I 0,O I 0,O I 0,O I 0,O I 0,O I 0,O I 0,O I 0,O I 0,O I 0,O I 0,O I 0,O I 0,O I 0,O I 0,O I 0]):=(Bx.new w _ _).alloc _;have HW0:Hid (Below w.heap.size w ((w.alloc (.cells #[O I 0,O I 0,O I 0,O I 0,O I 0,O I 0,O I 0,O I 0,O I 0,O I 0,O I 0,O I 0,O I 0,O I 0,O I 0,O I 0,O I 0,O I 0] 338)).alloc (.cells #[O I 0,O I 0,O I 0,O I 0,O I 0,O I 0] 333))):=((Below.refl w.heap.size w).alloc zY _).alloc (by simp) _;have t1:decide ((n:Int)<=(ord kind:Int))=false:=zM zU;have t2:decide (n<=ord kind)=false:=zM zU;clear hk7 hS hD;generalize ord kind * width=ow at *;generalize ord kind=o at *
 go_enter func294,ntmps294
 go_wp2_with (first
  | (go_at_call 319;refine (HO.out _).mono ?_;rintro e w1 ⟨rfl,hw⟩;subst w1;clear HO)
  | (go_at_call 320;refine (HWF.out _ ?_).mono ?_;exact HW0.out;rintro e w1 ⟨⟨va,vb,rfl,hab⟩,q,hq⟩;have HR1:Hid (Bx w1 w.heap.size 338 #[O I 0,O I 0,O I 0,O I 0,O I 0,O I 0,O I 0,O I 0,O I 0,O I 0,O I 0,O I 0,O I 0,O I 0,O I 0,O I 0,O I 0,O I 0]):=(by rw [hq];exact HR0.out);have HW1:Hid (Below w.heap.size w w1):=(by rw [hq];exact ⟨HW0.out.os,HW0.out.tape,HW0.out.output,HW0.out.size,HW0.out.block⟩);clear hq hab HWF HR0 HW0)
  | (refine z0a rfl _ _ 338 rfl w.heap.size 338 _ _ rfl rfl HR1.out z0w rfl rfl ?_))
 exact bodyPost_ret (y1e _ w.heap.size false _ _ (HR1.out.row _) rfl rfl rfl) rfl ⟨rfl,below_setRow HW1.out zY _⟩
def GB (e:Ending) (kind width:Nat) (x:Nat->Int) (n:Nat):Prop :=
 (okG kind x n=true/\e=.returned (.tuple #[.agg (z0r kind width x n),.bool true]))∨(okG kind x n=false/\e=.returned (.tuple #[.agg z3k,.bool false]))
theorem GB.yes {e:Ending} {kind width n:Nat} {x:Nat->Int} (h:GB e kind width x n) (hok:okG kind x n=true):e=.returned (.tuple #[.agg (z0r kind width x n),.bool true]):=by
 rcases h with h | h
 . exact h.2
 . rw [hok] at h;exact absurd h.1 (by simp)
theorem GB.no {e:Ending} {kind width n:Nat} {x:Nat->Int} (h:GB e kind width x n) (hok:okG kind x n=false):e=.returned (.tuple #[.agg z3k,.bool false]):=by
 rcases h with h | h
 . rw [hok] at h;exact absurd h.1 (by simp)
 . exact h.2
theorem z5G (kind:Nat) (A:Option Addr) (n c width:Nat) (x:Nat->Int) (w:World) (h2:2<=kind) (h7:kind<=7) (hn:n<=32) (hnc:n<=c) (hw:width<=13) (hS:Shorts w A n x)
 (hT:z1v w 5) (hg:5 < w.heap.size) :
 Calls prog 294 #[O I kind,O I width,.slice A n c] w fun e w'=>GB e kind width x n/\Below w.heap.size w w':=by
 by_cases hon:ord kind < n
 . by_cases hk:kind=7
   . by_cases hD:0 < z2S x n
     . exact (z4H kind A n c width x w hk hn hnc hw hon hD hS).mono fun e w' h=>⟨.inl ⟨by simp [okG,hon,hD],h.1⟩,h.2⟩
     . exact (z5F kind A n c width x w hk hn hw hon hD hS).mono fun e w' h=>⟨.inr ⟨by simp [okG,hk,hD],h.1⟩,h.2⟩
   . exact (z4G kind A n c width x w h2 zU hn hnc hw hon hS hT hg).mono fun e w' h=>⟨.inl ⟨by simp [okG,hon,hk],h.1⟩,h.2⟩
 . exact (z4I kind A n c width w h2 h7 hon).mono fun e w' h=>⟨.inr ⟨by simp [okG,hon],h.1⟩,h.2⟩
theorem z3B (kind w:Nat) (x:Nat->Int) (n:Nat) (h7:kind<=7) (hn:n<=32) (hw:w<=13) (hX:∀ j,j < n->-4096<=x j/\x j<=4096) (hok:2<=kind->okG kind x n=true):z1j kind w x n<=2000000000:=by
 unfold z1j;split
 . omega
 . split
   . have:n * w<=32 * 13:=Nat.mul_le_mul hn hw
     omega
   . have h2:2<=kind:=zU
     have hok:=hok h2;unfold okG at hok;rw [Bool.and_eq_true,decide_eq_true_eq] at hok;have ho:=z3j kind h2 h7;have hcl:=z3V (fR kind x n) (ord kind) n (bC kind x n) hn (z2x _ _ _ _) (z2y _ _ _ hok.1 _) (fun i hi hin=>(z7z kind x n i h2 h7 (fun j hj=>hX j zU) hi).2);have hm:ord kind * w<=4 * 13:=Nat.mul_le_mul ho hw;unfold gL;split <;> omega
theorem y1f (tmps:Array Value) (R:Nat) (cs:Array Value) (W:World) (h:Bx W R 338 cs) (hs:cs.size=18) (h4:tmps.getD 4 undef=.pointer (some ⟨R,0,none⟩)) :
 (results Tryz.f265 tmps).run prog W=.ok (.agg cs) W:=by
 have hl:=run_loadVar_row (P:=prog) W R 338 338 cs (0,0) _ h underlying338 rfl (by rw [hs];exact z0w);rw [Array.getD_eq_getD_getElem?] at h4;simp [results,results265,asAddr,h4,hl]
set_option maxRecDepth 100000 in
set_option maxHeartbeats 8000000 in
theorem z5g (A:Option Addr) (n c width:Nat) (x:Nat->Int) (w:World) (hn1:1<=n) (hn:n<=32) (hnc:n<=c) (hw1:1<=width) (hw:width<=13) (hS:Shorts w A n x)
 (hT:z1v w 5) (hg:5 < w.heap.size) :
 Calls prog 265 #[O I width,.slice A n c] w fun e w'=>e=.returned (y8F (z0H width x n 6) width x n)/\Below w.heap.size w w':=by
 have HH:=zZ (fun (kind:Nat) (h2:2<=kind) (h7:kind<=7) (u:World) (hu:Shorts u A n x) (hT:z1v u 5) (hg:5 < u.heap.size)=>z5G kind A n c width x u h2 h7 hn hnc hw hu hT hg);have HS:=zZ hS;have HT:=zZ hT;have HSA:=zZ (fun (u:World) (hu:Below w.heap.size w u)=>z9P A n c x u hn (hS.below hu).ints);have hmb:width * n<=13 * 32:=Nat.mul_le_mul hw hn;have hmg:width<=width * n:=Nat.le_mul_of_pos_right _ hn1;have hm:I.wrap ((width:Int) * (n:Int))=((width * n:Nat):Int):=by
  rw [show (width:Int) * (n:Int)=((width * n:Nat):Int) by simp,zK];omega
 obtain ⟨wn,hwn⟩:∃ wn,wn=width * n:=⟨_,rfl⟩;have HL1:Hid ((z1j 1 width x n:Int)=(wn:Int)):=by show _=_;rw [hwn];unfold z1j;rw [if_neg zU,if_pos rfl,Nat.mul_comm]
 rw [← hwn] at hmb hmg hm;clear hwn hS hT;have t1:decide ((width:Int)<=(wn:Int))=true:=zL zU;have t2:decide (width<=wn)=true:=zL hmg;have HZ:Hid (Bx ((w.alloc (.cells #[O I 0,O I 0,O I 0,O I 0,O I 0,O I 0,O I 0,O I 0,O I 0,O I 0,O I 0,O I 0,O I 0,O I 0,O I 0,O I 0,O I 0,O I 0] 338)).alloc (.cells #[O I 0,O I 0,O I 0,O I 0,O I 0,O I 0,O I 0,O I 0,O I 0,O I 0,O I 0,O I 0,O I 0,O I 0,O I 0,O I 0,O I 0,O I 0] 338)) (w.heap.size+1) 338 #[O I 0,O I 0,O I 0,O I 0,O I 0,O I 0,O I 0,O I 0,O I 0,O I 0,O I 0,O I 0,O I 0,O I 0,O I 0,O I 0,O I 0,O I 0]):=by
  have:=Bx.new (w.alloc (.cells #[O I 0,O I 0,O I 0,O I 0,O I 0,O I 0,O I 0,O I 0,O I 0,O I 0,O I 0,O I 0,O I 0,O I 0,O I 0,O I 0,O I 0,O I 0] 338)) #[O I 0,O I 0,O I 0,O I 0,O I 0,O I 0,O I 0,O I 0,O I 0,O I 0,O I 0,O I 0,O I 0,O I 0,O I 0,O I 0,O I 0,O I 0] 338;rw [World.size_alloc] at this;exact this
 have HW0:Hid (Below w.heap.size w (((w.alloc (.cells #[O I 0,O I 0,O I 0,O I 0,O I 0,O I 0,O I 0,O I 0,O I 0,O I 0,O I 0,O I 0,O I 0,O I 0,O I 0,O I 0,O I 0,O I 0] 338)).alloc (.cells #[O I 0,O I 0,O I 0,O I 0,O I 0,O I 0,O I 0,O I 0,O I 0,O I 0,O I 0,O I 0,O I 0,O I 0,O I 0,O I 0,O I 0,O I 0] 338)).setRow (w.heap.size+1) #[O I 1,O I 0,O I 0,O I 0,O I 0,O I 0,O I 0,O I 0,O I 0,O I 0,O I 0,O I 0,O I 0,O I 0,O I 0,O I 0,O I 0,O I (wn:Int)])):=below_setRow (((Below.refl w.heap.size w).alloc zY _).alloc (by simp) _) zU _;have HR0:Hid (Bx (((w.alloc (.cells #[O I 0,O I 0,O I 0,O I 0,O I 0,O I 0,O I 0,O I 0,O I 0,O I 0,O I 0,O I 0,O I 0,O I 0,O I 0,O I 0,O I 0,O I 0] 338)).alloc (.cells #[O I 0,O I 0,O I 0,O I 0,O I 0,O I 0,O I 0,O I 0,O I 0,O I 0,O I 0,O I 0,O I 0,O I 0,O I 0,O I 0,O I 0,O I 0] 338)).setRow (w.heap.size+1) #[O I 1,O I 0,O I 0,O I 0,O I 0,O I 0,O I 0,O I 0,O I 0,O I 0,O I 0,O I 0,O I 0,O I 0,O I 0,O I 0,O I 0,O I (wn:Int)]) w.heap.size 338 #[O I 0,O I 0,O I 0,O I 0,O I 0,O I 0,O I 0,O I 0,O I 0,O I 0,O I 0,O I 0,O I 0,O I 0,O I 0,O I 0,O I 0,O I 0]):=Bx.other ((Bx.new w _ _).alloc _) zU _;have HB0:Hid (Bx (((w.alloc (.cells #[O I 0,O I 0,O I 0,O I 0,O I 0,O I 0,O I 0,O I 0,O I 0,O I 0,O I 0,O I 0,O I 0,O I 0,O I 0,O I 0,O I 0,O I 0] 338)).alloc (.cells #[O I 0,O I 0,O I 0,O I 0,O I 0,O I 0,O I 0,O I 0,O I 0,O I 0,O I 0,O I 0,O I 0,O I 0,O I 0,O I 0,O I 0,O I 0] 338)).setRow (w.heap.size+1) #[O I 1,O I 0,O I 0,O I 0,O I 0,O I 0,O I 0,O I 0,O I 0,O I 0,O I 0,O I 0,O I 0,O I 0,O I 0,O I 0,O I 0,O I (wn:Int)]) (w.heap.size+1) 338 #[O I 1,O I 0,O I 0,O I 0,O I 0,O I 0,O I 0,O I 0,O I 0,O I 0,O I 0,O I 0,O I 0,O I 0,O I 0,O I 0,O I 0,O I (wn:Int)]):=HZ.out.row _;have HE1:Hid (#[O I 1,O I 0,O I 0,O I 0,O I 0,O I 0,O I 0,O I 0,O I 0,O I 0,O I 0,O I 0,O I 0,O I 0,O I 0,O I 0,O I 0,O I (wn:Int)]=z0r 1 width x n):=by show _=_;unfold z0r;rw [HL1.out];rfl
 have HE0:Hid (#[O I 0,O I 0,O I 0,O I 0,O I 0,O I 0,O I 0,O I 0,O I 0,O I 0,O I 0,O I 0,O I 0,O I 0,O I 0,O I 0,O I 0,O I (width:Int)]=z0r 0 width x n):=rfl;have HK0:Hid (z0H width x n 0=if z1c x n then 0 else 1):=rfl
 go_enter func265,ntmps265
 generalize hvs:z1c x n=vs at *;cases vs with
 | true =>
  go_wp2_with (first
   | (go_at_call 293;refine (HSA.out _ ?_).mono ?_;exact HW0.out;rintro e w1 ⟨rfl,q,hq⟩;have HW1:Hid (Below w.heap.size w w1):=(by rw [hq];exact ⟨HW0.out.os,HW0.out.tape,HW0.out.output,HW0.out.size,HW0.out.block⟩);have HR1:Hid (Bx w1 w.heap.size 338 #[O I 0,O I 0,O I 0,O I 0,O I 0,O I 0,O I 0,O I 0,O I 0,O I 0,O I 0,O I 0,O I 0,O I 0,O I 0,O I 0,O I 0,O I 0]):=(by rw [hq];exact HR0.out);have HB1:Hid (Bx w1 (w.heap.size+1) 338 #[O I 1,O I 0,O I 0,O I 0,O I 0,O I 0,O I 0,O I 0,O I 0,O I 0,O I 0,O I 0,O I 0,O I 0,O I 0,O I 0,O I 0,O I (wn:Int)]):=(by rw [hq];exact HB0.out);have y17:=HB1.out.cell 17;simp at y17;clear hq HW0 HR0 HB0 HSA HZ)
   | (refine z0a rfl _ _ 338 rfl (w.heap.size+1) 338 _ _ rfl rfl HZ.out z0w rfl rfl ?_)
   | (refine z0a rfl _ _ 338 rfl (w.heap.size+1) 338 _ _ rfl rfl HB1.out z0w rfl rfl ?_))
  have HINV:Hid (Bx (w1.setRow (w.heap.size+1) #[O I 0,O I 0,O I 0,O I 0,O I 0,O I 0,O I 0,O I 0,O I 0,O I 0,O I 0,O I 0,O I 0,O I 0,O I 0,O I 0,O I 0,O I (width:Int)]) (w.heap.size+1) 338 (z0r (z0H width x n 0) width x n)/\Bx (w1.setRow (w.heap.size+1) #[O I 0,O I 0,O I 0,O I 0,O I 0,O I 0,O I 0,O I 0,O I 0,O I 0,O I 0,O I 0,O I 0,O I 0,O I 0,O I 0,O I 0,O I (width:Int)]) w.heap.size 338 #[O I 0,O I 0,O I 0,O I 0,O I 0,O I 0,O I 0,O I 0,O I 0,O I 0,O I 0,O I 0,O I 0,O I 0,O I 0,O I 0,O I 0,O I 0]/\Below w.heap.size w (w1.setRow (w.heap.size+1) #[O I 0,O I 0,O I 0,O I 0,O I 0,O I 0,O I 0,O I 0,O I 0,O I 0,O I 0,O I 0,O I 0,O I 0,O I 0,O I 0,O I 0,O I (width:Int)])):=by
   rw [HK0.out,if_pos (by trivial),← HE0.out];exact ⟨HB1.out.row _,HR1.out.other zU _,below_setRow HW1.out zU _⟩
  clear HB1 HR1 HW1 y17
  go_loopw [6] (fun kv wr=>∃ k:Nat,2<=k/\k<=8/\kv=O I k/\Hid (Bx wr (w.heap.size+1) 338 (z0r (z0H width x n (k - 2)) width x n)/\Bx wr w.heap.size 338 #[O I 0,O I 0,O I 0,O I 0,O I 0,O I 0,O I 0,O I 0,O I 0,O I 0,O I 0,O I 0,O I 0,O I 0,O I 0,O I 0,O I 0,O I 0]/\Below w.heap.size w wr)) (fun kv _=>8 - (intOf kv).toNat)
  case atStart=>exact ⟨2,zU,zU,rfl,HINV.out⟩
  case round =>
   clear HINV;obtain ⟨k,hk2,hk8,rfl,HI⟩:=hrel
   by_cases hk7:k<=7
   . have HG:=zZ (HH.out k hk2 hk7 wr (HS.out.below HI.out.2.2) (fun r c hr hc=>(HI.out.2.2.cell (p:=⟨5,4 * r+c,none⟩) hg).trans (HT.out r c hr hc)) (zP hg HI.out.2.2.size))
     obtain ⟨K0,hK0⟩:∃ K,K=z0H width x n (k - 2):=⟨_,rfl⟩;have hK0l:=z4j width x n (k - 2);rw [← hK0] at HI hK0l;have hbL:=z3B K0 width x n zU hn hw HS.out.bd (fun h=>by rw [hK0];exact z4k width x n (k - 2) (by rw [← hK0];exact h));have HKN:Hid (z0H width x n (k+1 - 2)=if okG k x n=true/\z1j k width x n < z1j K0 width x n then k else K0):=by
      show _=_
      obtain ⟨d,rfl⟩:∃ d,k=d+2:=⟨k - 2,zU⟩;rw [hK0];rfl
     have hsz:=HI.out.2.2.size;have hR1:=HI.out.1.lt;clear hK0 hK0l
     by_cases hok:okG k x n=true
     . have hbk:=z3B k width x n zU hn hw HS.out.bd (fun _=>hok)
       have HGA:Hid (Calls prog 294 #[O I k,O I width,.slice A n c] wr fun e w'=>e=.returned (.tuple #[.agg (z0r k width x n),.bool true])/\Below wr.heap.size wr w'):=HG.out.mono fun e w' h=>⟨h.1.yes hok,h.2⟩
       have eLk:(z0r k width x n)[17]?=some (O I (z1j k width x n:Int)):=rfl;have eL0:(z0r K0 width x n)[17]?=some (O I (z1j K0 width x n:Int)):=rfl;generalize hLk:z1j k width x n=Lk at *;generalize hL0:z1j K0 width x n=L0 at *;clear HG hLk hL0
       by_cases hlt:Lk < L0
       . rw [if_pos ⟨hok,hlt⟩] at HKN
         have u1:decide ((Lk:Int) < (L0:Int))=true:=zL zU;have u2:decide (Lk < L0)=true:=zL hlt;clear hok hlt
         go_wp2_with (first
          | (go_at_call 294;refine HGA.out.mono ?_;rintro e w2 ⟨rfl,hb2⟩;have HI2:=zZ (And.intro (HI.out.1.below hb2) (And.intro (HI.out.2.1.below hb2) (HI.out.2.2.trans (hb2.mono hsz))));have hsz2:=hb2.size;have tn1:¬ w.heap.size+1=w2.heap.size:=zU;have tn2:¬ w2.heap.size=w.heap.size+1:=zU;clear hb2 HGA)
          | (refine z0a rfl _ _ 338 rfl w2.heap.size 338 _ _ rfl rfl (Bx.new w2 #[O I 0,O I 0,O I 0,O I 0,O I 0,O I 0,O I 0,O I 0,O I 0,O I 0,O I 0,O I 0,O I 0,O I 0,O I 0,O I 0,O I 0,O I 0] 338) z0w rfl rfl ?_;have HT2:=zZ ((Bx.new w2 #[O I 0,O I 0,O I 0,O I 0,O I 0,O I 0,O I 0,O I 0,O I 0,O I 0,O I 0,O I 0,O I 0,O I 0,O I 0,O I 0,O I 0,O I 0] 338).row (z0r k width x n));have HI3:=zZ (And.intro ((HI2.out.1.alloc (.cells #[O I 0,O I 0,O I 0,O I 0,O I 0,O I 0,O I 0,O I 0,O I 0,O I 0,O I 0,O I 0,O I 0,O I 0,O I 0,O I 0,O I 0,O I 0] 338)).other tn1 (z0r k width x n)) (And.intro ((HI2.out.2.1.alloc (.cells #[O I 0,O I 0,O I 0,O I 0,O I 0,O I 0,O I 0,O I 0,O I 0,O I 0,O I 0,O I 0,O I 0,O I 0,O I 0,O I 0,O I 0,O I 0] 338)).other (g:=w2.heap.size) zU (z0r k width x n)) (below_setRow (g:=w2.heap.size) (HI2.out.2.2.alloc HI2.out.2.2.size (.cells #[O I 0,O I 0,O I 0,O I 0,O I 0,O I 0,O I 0,O I 0,O I 0,O I 0,O I 0,O I 0,O I 0,O I 0,O I 0,O I 0,O I 0,O I 0] 338)) zU (z0r k width x n))));have x17:=HT2.out.cell 17;have y17:=HI3.out.1.cell 17;rw [eLk] at x17;rw [eL0] at y17;clear HI2)
          | (refine z0h rfl _ 338 rfl w2.heap.size 338 (z0r k width x n) (0,0) _ rfl HT2.out underlying338 rfl z0w ?_)
          | (refine z0a rfl _ _ 338 rfl (w.heap.size+1) 338 _ _ rfl rfl HI3.out.1 z0w rfl rfl ?_))
         go_roundw
         case rel=>exact ⟨k+1,zU,zU,zS,by rw [HKN.out];exact ⟨HI3.out.1.row _,HI3.out.2.1.other zU _,below_setRow HI3.out.2.2 zU _⟩⟩
         case measure=>simp [intOf];omega
       . rw [if_neg (fun h=>hlt h.2)] at HKN
         have u1:decide ((Lk:Int) < (L0:Int))=false:=zM zU;have u2:decide (Lk < L0)=false:=zM hlt;clear hok hlt
         go_wp2_with (first
          | (go_at_call 294;refine HGA.out.mono ?_;rintro e w2 ⟨rfl,hb2⟩;have HI2:=zZ (And.intro (HI.out.1.below hb2) (And.intro (HI.out.2.1.below hb2) (HI.out.2.2.trans (hb2.mono hsz))));have hsz2:=hb2.size;have tn1:¬ w.heap.size+1=w2.heap.size:=zU;have tn2:¬ w2.heap.size=w.heap.size+1:=zU;clear hb2 HGA)
          | (refine z0a rfl _ _ 338 rfl w2.heap.size 338 _ _ rfl rfl (Bx.new w2 #[O I 0,O I 0,O I 0,O I 0,O I 0,O I 0,O I 0,O I 0,O I 0,O I 0,O I 0,O I 0,O I 0,O I 0,O I 0,O I 0,O I 0,O I 0] 338) z0w rfl rfl ?_;have HT2:=zZ ((Bx.new w2 #[O I 0,O I 0,O I 0,O I 0,O I 0,O I 0,O I 0,O I 0,O I 0,O I 0,O I 0,O I 0,O I 0,O I 0,O I 0,O I 0,O I 0,O I 0] 338).row (z0r k width x n));have HI3:=zZ (And.intro ((HI2.out.1.alloc (.cells #[O I 0,O I 0,O I 0,O I 0,O I 0,O I 0,O I 0,O I 0,O I 0,O I 0,O I 0,O I 0,O I 0,O I 0,O I 0,O I 0,O I 0,O I 0] 338)).other tn1 (z0r k width x n)) (And.intro ((HI2.out.2.1.alloc (.cells #[O I 0,O I 0,O I 0,O I 0,O I 0,O I 0,O I 0,O I 0,O I 0,O I 0,O I 0,O I 0,O I 0,O I 0,O I 0,O I 0,O I 0,O I 0] 338)).other (g:=w2.heap.size) zU (z0r k width x n)) (below_setRow (g:=w2.heap.size) (HI2.out.2.2.alloc HI2.out.2.2.size (.cells #[O I 0,O I 0,O I 0,O I 0,O I 0,O I 0,O I 0,O I 0,O I 0,O I 0,O I 0,O I 0,O I 0,O I 0,O I 0,O I 0,O I 0,O I 0] 338)) zU (z0r k width x n))));have x17:=HT2.out.cell 17;have y17:=HI3.out.1.cell 17;rw [eLk] at x17;rw [eL0] at y17;clear HI2))
         go_roundw
         case rel=>exact ⟨k+1,zU,zU,zS,by rw [HKN.out];exact HI3.out⟩
         case measure=>simp [intOf];omega
     . have hokf:okG k x n=false:=by simpa using hok
       rw [if_neg (fun h=>hok h.1)] at HKN;have HGA:Hid (Calls prog 294 #[O I k,O I width,.slice A n c] wr fun e w'=>e=.returned (.tuple #[.agg z3k,.bool false])/\Below wr.heap.size wr w'):=HG.out.mono fun e w' h=>⟨h.1.no hokf,h.2⟩
       clear HG hok hokf
       go_wp2_with (first
        | (go_at_call 294;refine HGA.out.mono ?_;rintro e w2 ⟨rfl,hb2⟩;have HI2:=zZ (And.intro (HI.out.1.below hb2) (And.intro (HI.out.2.1.below hb2) (HI.out.2.2.trans (hb2.mono hsz))));have hsz2:=hb2.size;have tn1:¬ w.heap.size+1=w2.heap.size:=zU;clear hb2 HGA)
        | (refine z0a rfl _ _ 338 rfl w2.heap.size 338 _ _ rfl rfl (Bx.new w2 #[O I 0,O I 0,O I 0,O I 0,O I 0,O I 0,O I 0,O I 0,O I 0,O I 0,O I 0,O I 0,O I 0,O I 0,O I 0,O I 0,O I 0,O I 0] 338) z0w rfl rfl ?_;have HI3:=zZ (And.intro ((HI2.out.1.alloc (.cells #[O I 0,O I 0,O I 0,O I 0,O I 0,O I 0,O I 0,O I 0,O I 0,O I 0,O I 0,O I 0,O I 0,O I 0,O I 0,O I 0,O I 0,O I 0] 338)).other tn1 z3k) (And.intro ((HI2.out.2.1.alloc (.cells #[O I 0,O I 0,O I 0,O I 0,O I 0,O I 0,O I 0,O I 0,O I 0,O I 0,O I 0,O I 0,O I 0,O I 0,O I 0,O I 0,O I 0,O I 0] 338)).other (g:=w2.heap.size) zU z3k) (below_setRow (g:=w2.heap.size) (HI2.out.2.2.alloc HI2.out.2.2.size (.cells #[O I 0,O I 0,O I 0,O I 0,O I 0,O I 0,O I 0,O I 0,O I 0,O I 0,O I 0,O I 0,O I 0,O I 0,O I 0,O I 0,O I 0,O I 0] 338)) zU z3k)));clear HI2))
       go_roundw
       case rel=>exact ⟨k+1,zU,zU,zS,by rw [HKN.out];exact HI3.out⟩
       case measure=>simp [intOf];omega
   . have e:k=8:=zU
     subst e
     go_wp2_with (first
      | (refine z0h rfl _ 338 rfl (w.heap.size+1) 338 (z0r (z0H width x n 6) width x n) (0,0) _ rfl HI.out.1 underlying338 rfl z0w ?_)
      | (refine z0a rfl _ _ 338 rfl w.heap.size 338 _ _ rfl rfl HI.out.2.1 z0w rfl rfl ?_))
     exact bodyPost_ret (y1f _ w.heap.size (z0r (z0H width x n 6) width x n) _ (HI.out.2.1.row _) rfl rfl) rfl ⟨rfl,below_setRow HI.out.2.2 zY _⟩
 | false =>
  go_wp2_with (first
   | (go_at_call 293;refine (HSA.out _ ?_).mono ?_;exact HW0.out;rintro e w1 ⟨rfl,q,hq⟩;have HW1:Hid (Below w.heap.size w w1):=(by rw [hq];exact ⟨HW0.out.os,HW0.out.tape,HW0.out.output,HW0.out.size,HW0.out.block⟩);have HR1:Hid (Bx w1 w.heap.size 338 #[O I 0,O I 0,O I 0,O I 0,O I 0,O I 0,O I 0,O I 0,O I 0,O I 0,O I 0,O I 0,O I 0,O I 0,O I 0,O I 0,O I 0,O I 0]):=(by rw [hq];exact HR0.out);have HB1:Hid (Bx w1 (w.heap.size+1) 338 #[O I 1,O I 0,O I 0,O I 0,O I 0,O I 0,O I 0,O I 0,O I 0,O I 0,O I 0,O I 0,O I 0,O I 0,O I 0,O I 0,O I 0,O I (wn:Int)]):=(by rw [hq];exact HB0.out);clear hq HW0 HR0 HB0 HSA HZ)
   | (refine z0a rfl _ _ 338 rfl (w.heap.size+1) 338 _ _ rfl rfl HZ.out z0w rfl rfl ?_))
  have HINV:Hid (Bx w1 (w.heap.size+1) 338 (z0r (z0H width x n 0) width x n)/\Bx w1 w.heap.size 338 #[O I 0,O I 0,O I 0,O I 0,O I 0,O I 0,O I 0,O I 0,O I 0,O I 0,O I 0,O I 0,O I 0,O I 0,O I 0,O I 0,O I 0,O I 0]/\Below w.heap.size w w1):=by
   rw [HK0.out,if_neg (by simp),← HE1.out];exact ⟨HB1.out,HR1.out,HW1.out⟩
  clear HB1 HR1 HW1
  go_loopw [6] (fun kv wr=>∃ k:Nat,2<=k/\k<=8/\kv=O I k/\Hid (Bx wr (w.heap.size+1) 338 (z0r (z0H width x n (k - 2)) width x n)/\Bx wr w.heap.size 338 #[O I 0,O I 0,O I 0,O I 0,O I 0,O I 0,O I 0,O I 0,O I 0,O I 0,O I 0,O I 0,O I 0,O I 0,O I 0,O I 0,O I 0,O I 0]/\Below w.heap.size w wr)) (fun kv _=>8 - (intOf kv).toNat)
  case atStart=>exact ⟨2,zU,zU,rfl,HINV.out⟩
  case round =>
   clear HINV;obtain ⟨k,hk2,hk8,rfl,HI⟩:=hrel
   by_cases hk7:k<=7
   . have HG:=zZ (HH.out k hk2 hk7 wr (HS.out.below HI.out.2.2) (fun r c hr hc=>(HI.out.2.2.cell (p:=⟨5,4 * r+c,none⟩) hg).trans (HT.out r c hr hc)) (zP hg HI.out.2.2.size))
     obtain ⟨K0,hK0⟩:∃ K,K=z0H width x n (k - 2):=⟨_,rfl⟩;have hK0l:=z4j width x n (k - 2);rw [← hK0] at HI hK0l;have hbL:=z3B K0 width x n zU hn hw HS.out.bd (fun h=>by rw [hK0];exact z4k width x n (k - 2) (by rw [← hK0];exact h));have HKN:Hid (z0H width x n (k+1 - 2)=if okG k x n=true/\z1j k width x n < z1j K0 width x n then k else K0):=by
      show _=_
      obtain ⟨d,rfl⟩:∃ d,k=d+2:=⟨k - 2,zU⟩;rw [hK0];rfl
     have hsz:=HI.out.2.2.size;have hR1:=HI.out.1.lt;clear hK0 hK0l
     by_cases hok:okG k x n=true
     . have hbk:=z3B k width x n zU hn hw HS.out.bd (fun _=>hok)
       have HGA:Hid (Calls prog 294 #[O I k,O I width,.slice A n c] wr fun e w'=>e=.returned (.tuple #[.agg (z0r k width x n),.bool true])/\Below wr.heap.size wr w'):=HG.out.mono fun e w' h=>⟨h.1.yes hok,h.2⟩
       have eLk:(z0r k width x n)[17]?=some (O I (z1j k width x n:Int)):=rfl;have eL0:(z0r K0 width x n)[17]?=some (O I (z1j K0 width x n:Int)):=rfl;generalize hLk:z1j k width x n=Lk at *;generalize hL0:z1j K0 width x n=L0 at *;clear HG hLk hL0
       by_cases hlt:Lk < L0
       . rw [if_pos ⟨hok,hlt⟩] at HKN
         have u1:decide ((Lk:Int) < (L0:Int))=true:=zL zU;have u2:decide (Lk < L0)=true:=zL hlt;clear hok hlt
         go_wp2_with (first
          | (go_at_call 294;refine HGA.out.mono ?_;rintro e w2 ⟨rfl,hb2⟩;have HI2:=zZ (And.intro (HI.out.1.below hb2) (And.intro (HI.out.2.1.below hb2) (HI.out.2.2.trans (hb2.mono hsz))));have hsz2:=hb2.size;have tn1:¬ w.heap.size+1=w2.heap.size:=zU;have tn2:¬ w2.heap.size=w.heap.size+1:=zU;clear hb2 HGA)
          | (refine z0a rfl _ _ 338 rfl w2.heap.size 338 _ _ rfl rfl (Bx.new w2 #[O I 0,O I 0,O I 0,O I 0,O I 0,O I 0,O I 0,O I 0,O I 0,O I 0,O I 0,O I 0,O I 0,O I 0,O I 0,O I 0,O I 0,O I 0] 338) z0w rfl rfl ?_;have HT2:=zZ ((Bx.new w2 #[O I 0,O I 0,O I 0,O I 0,O I 0,O I 0,O I 0,O I 0,O I 0,O I 0,O I 0,O I 0,O I 0,O I 0,O I 0,O I 0,O I 0,O I 0] 338).row (z0r k width x n));have HI3:=zZ (And.intro ((HI2.out.1.alloc (.cells #[O I 0,O I 0,O I 0,O I 0,O I 0,O I 0,O I 0,O I 0,O I 0,O I 0,O I 0,O I 0,O I 0,O I 0,O I 0,O I 0,O I 0,O I 0] 338)).other tn1 (z0r k width x n)) (And.intro ((HI2.out.2.1.alloc (.cells #[O I 0,O I 0,O I 0,O I 0,O I 0,O I 0,O I 0,O I 0,O I 0,O I 0,O I 0,O I 0,O I 0,O I 0,O I 0,O I 0,O I 0,O I 0] 338)).other (g:=w2.heap.size) zU (z0r k width x n)) (below_setRow (g:=w2.heap.size) (HI2.out.2.2.alloc HI2.out.2.2.size (.cells #[O I 0,O I 0,O I 0,O I 0,O I 0,O I 0,O I 0,O I 0,O I 0,O I 0,O I 0,O I 0,O I 0,O I 0,O I 0,O I 0,O I 0,O I 0] 338)) zU (z0r k width x n))));have x17:=HT2.out.cell 17;have y17:=HI3.out.1.cell 17;rw [eLk] at x17;rw [eL0] at y17;clear HI2)
          | (refine z0h rfl _ 338 rfl w2.heap.size 338 (z0r k width x n) (0,0) _ rfl HT2.out underlying338 rfl z0w ?_)
          | (refine z0a rfl _ _ 338 rfl (w.heap.size+1) 338 _ _ rfl rfl HI3.out.1 z0w rfl rfl ?_))
         go_roundw
         case rel=>exact ⟨k+1,zU,zU,zS,by rw [HKN.out];exact ⟨HI3.out.1.row _,HI3.out.2.1.other zU _,below_setRow HI3.out.2.2 zU _⟩⟩
         case measure=>simp [intOf];omega
       . rw [if_neg (fun h=>hlt h.2)] at HKN
         have u1:decide ((Lk:Int) < (L0:Int))=false:=zM zU;have u2:decide (Lk < L0)=false:=zM hlt;clear hok hlt
         go_wp2_with (first
          | (go_at_call 294;refine HGA.out.mono ?_;rintro e w2 ⟨rfl,hb2⟩;have HI2:=zZ (And.intro (HI.out.1.below hb2) (And.intro (HI.out.2.1.below hb2) (HI.out.2.2.trans (hb2.mono hsz))));have hsz2:=hb2.size;have tn1:¬ w.heap.size+1=w2.heap.size:=zU;have tn2:¬ w2.heap.size=w.heap.size+1:=zU;clear hb2 HGA)
          | (refine z0a rfl _ _ 338 rfl w2.heap.size 338 _ _ rfl rfl (Bx.new w2 #[O I 0,O I 0,O I 0,O I 0,O I 0,O I 0,O I 0,O I 0,O I 0,O I 0,O I 0,O I 0,O I 0,O I 0,O I 0,O I 0,O I 0,O I 0] 338) z0w rfl rfl ?_;have HT2:=zZ ((Bx.new w2 #[O I 0,O I 0,O I 0,O I 0,O I 0,O I 0,O I 0,O I 0,O I 0,O I 0,O I 0,O I 0,O I 0,O I 0,O I 0,O I 0,O I 0,O I 0] 338).row (z0r k width x n));have HI3:=zZ (And.intro ((HI2.out.1.alloc (.cells #[O I 0,O I 0,O I 0,O I 0,O I 0,O I 0,O I 0,O I 0,O I 0,O I 0,O I 0,O I 0,O I 0,O I 0,O I 0,O I 0,O I 0,O I 0] 338)).other tn1 (z0r k width x n)) (And.intro ((HI2.out.2.1.alloc (.cells #[O I 0,O I 0,O I 0,O I 0,O I 0,O I 0,O I 0,O I 0,O I 0,O I 0,O I 0,O I 0,O I 0,O I 0,O I 0,O I 0,O I 0,O I 0] 338)).other (g:=w2.heap.size) zU (z0r k width x n)) (below_setRow (g:=w2.heap.size) (HI2.out.2.2.alloc HI2.out.2.2.size (.cells #[O I 0,O I 0,O I 0,O I 0,O I 0,O I 0,O I 0,O I 0,O I 0,O I 0,O I 0,O I 0,O I 0,O I 0,O I 0,O I 0,O I 0,O I 0] 338)) zU (z0r k width x n))));have x17:=HT2.out.cell 17;have y17:=HI3.out.1.cell 17;rw [eLk] at x17;rw [eL0] at y17;clear HI2))
         go_roundw
         case rel=>exact ⟨k+1,zU,zU,zS,by rw [HKN.out];exact HI3.out⟩
         case measure=>simp [intOf];omega
     . have hokf:okG k x n=false:=by simpa using hok
       rw [if_neg (fun h=>hok h.1)] at HKN;have HGA:Hid (Calls prog 294 #[O I k,O I width,.slice A n c] wr fun e w'=>e=.returned (.tuple #[.agg z3k,.bool false])/\Below wr.heap.size wr w'):=HG.out.mono fun e w' h=>⟨h.1.no hokf,h.2⟩
       clear HG hok hokf
       go_wp2_with (first
        | (go_at_call 294;refine HGA.out.mono ?_;rintro e w2 ⟨rfl,hb2⟩;have HI2:=zZ (And.intro (HI.out.1.below hb2) (And.intro (HI.out.2.1.below hb2) (HI.out.2.2.trans (hb2.mono hsz))));have hsz2:=hb2.size;have tn1:¬ w.heap.size+1=w2.heap.size:=zU;clear hb2 HGA)
        | (refine z0a rfl _ _ 338 rfl w2.heap.size 338 _ _ rfl rfl (Bx.new w2 #[O I 0,O I 0,O I 0,O I 0,O I 0,O I 0,O I 0,O I 0,O I 0,O I 0,O I 0,O I 0,O I 0,O I 0,O I 0,O I 0,O I 0,O I 0] 338) z0w rfl rfl ?_;have HI3:=zZ (And.intro ((HI2.out.1.alloc (.cells #[O I 0,O I 0,O I 0,O I 0,O I 0,O I 0,O I 0,O I 0,O I 0,O I 0,O I 0,O I 0,O I 0,O I 0,O I 0,O I 0,O I 0,O I 0] 338)).other tn1 z3k) (And.intro ((HI2.out.2.1.alloc (.cells #[O I 0,O I 0,O I 0,O I 0,O I 0,O I 0,O I 0,O I 0,O I 0,O I 0,O I 0,O I 0,O I 0,O I 0,O I 0,O I 0,O I 0,O I 0] 338)).other (g:=w2.heap.size) zU z3k) (below_setRow (g:=w2.heap.size) (HI2.out.2.2.alloc HI2.out.2.2.size (.cells #[O I 0,O I 0,O I 0,O I 0,O I 0,O I 0,O I 0,O I 0,O I 0,O I 0,O I 0,O I 0,O I 0,O I 0,O I 0,O I 0,O I 0,O I 0] 338)) zU z3k)));clear HI2))
       go_roundw
       case rel=>exact ⟨k+1,zU,zU,zS,by rw [HKN.out];exact HI3.out⟩
       case measure=>simp [intOf];omega
   . have e:k=8:=zU
     subst e
     go_wp2_with (first
      | (refine z0h rfl _ 338 rfl (w.heap.size+1) 338 (z0r (z0H width x n 6) width x n) (0,0) _ rfl HI.out.1 underlying338 rfl z0w ?_)
      | (refine z0a rfl _ _ 338 rfl w.heap.size 338 _ _ rfl rfl HI.out.2.1 z0w rfl rfl ?_))
     exact bodyPost_ret (y1f _ w.heap.size (z0r (z0H width x n 6) width x n) _ (HI.out.2.1.row _) rfl rfl) rfl ⟨rfl,below_setRow HI.out.2.2 zY _⟩
end Go.Proofs.YtlncjgnomhpjnabGreatDoor
