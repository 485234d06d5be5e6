import Derived.Test.YtlncjgnomhpjnabGreatDoorQC1
import Derived.WalkMore
import Derived.WalkKit
import Derived.Lib.Builder
import Derived.Lib.FrozenHead2
import Derived.Lib.OthersKept
import Derived.Test.YtlncjgnomhpjnabGreatDoorQC0
set_option maxHeartbeats 8000000
namespace Go.Proofs.YtlncjgnomhpjnabGreatDoor
open Go.Value renaming int → O
open Go.IntKind renaming i64 → I
open Go.Proofs.Tryz (prog)
open Go.RowKit Go.Deep
set_option linter.unusedVariables false
def z1O (b:Nat->Bool) (N d kind:Nat) (a c:Int) (n p:Nat):Job:=⟨b,N,d,kind,a,c,n / 2 ^ num b p 2⟩
def z0G (b:Nat->Bool) (N d kind:Nat) (a c:Int) (n p:Nat) (x0:Nat->Int):Option St :=
 if p+2<=N/\cutB n (ord kind) (num b p 2)=true then (z1O b N d kind a c n p).R ⟨p+2,0,x0⟩ n else none
def RestsOut (e:Ending) (w w':World) (B g:Nat) (s:ByteArray) (n:Nat):Option St->Prop
 | some st=>e=.returned (.tuple #[.slice (some ⟨g,0,none⟩) n n,.bool true])/\w'.rowIs g 3 n (cutV n st.x)/\Rd w' B s st.p/\ChgS (fun k=>k=B∨k=g) w w'
 | none=>∃ v,e=.returned (.tuple #[v,.bool false])/\ChgS (fun k=>k=B∨k=g) w w'
structure Inv (w wr:World) (B g G:Nat) (s:ByteArray) (d n kind:Nat) (a c:Int) (st:St) (len:Nat):Prop where
 row:wr.rowIs g 3 n (cutV len st.x)
 rd:Rd wr B s st.p
 gd:Gd wr G kind a c
 chg:ChgS (fun k=>k=B∨k=g) w wr
 p:st.p<=s.size
 fits:∀ j,j < len->fitsB d (st.x j)=true
theorem Inv.chgB {w wr wr':World} {B g G:Nat} {s:ByteArray} {d n kind:Nat} {a c:Int} {st:St} {len q k':Nat} (h:Inv w wr B g G s d n kind a c st len) (hc:Chg B wr wr') (hr:Rd wr' B s q) (hq:q<=s.size) (hg:g ≠ B) (hG:G ≠ B):Inv w wr' B g G s d n kind a c ⟨q,k',st.x⟩ len :=
 ⟨hc.row h.row hg,hr,h.gd.of (hc.block G h.gd.lt (fun e=>hG (by injection e))),h.chg.chg hc (.inl (.inl rfl)),hq,h.fits⟩
theorem Inv.below {w wr wr':World} {B g G:Nat} {s:ByteArray} {d n kind:Nat} {a c:Int} {st:St} {len:Nat} (h:Inv w wr B g G s d n kind a c st len) (hb:Below wr.heap.size wr wr'):Inv w wr' B g G s d n kind a c st len :=
 ⟨h.row.of_block (hb.block _ h.row.lt),h.rd.of (hb.block _ h.rd.lt),h.gd.of (hb.block _ h.gd.lt),h.chg.below hb,h.p,h.fits⟩
theorem Inv.put {w wr:World} {B g G:Nat} {s:ByteArray} {d n kind:Nat} {a c:Int} {st:St} {len:Nat} (h:Inv w wr B g G s d n kind a c st len) (z:Int) (hz:fitsB d z=true) (hg:g ≠ B) (hG:G ≠ g) :
 Inv w (wr.setCell ⟨g,len,none⟩ (O I z)) B g G s d n kind a c ⟨st.p,st.k,updI st.x len z⟩ (len+1):=by
 have hch:Chg g wr (wr.setCell ⟨g,len,none⟩ (O I z)):=(Chg.refl _ _).set _ _;refine ⟨z2b (x:=updI st.x len z) (z:=z) (by simp [updI]) ((h.row.set len (O I z)).congr fun i _=>?_),hch.rd h.rd (Ne.symm hg),h.gd.of (hch.block G h.gd.lt (fun e=>hG (by injection e))),h.chg.chg hch (.inl (.inr rfl)),h.p,fun j hj=>?_⟩
 . by_cases e:i=len
   . simp [e]
   . simp only [if_neg e,cutV,cutI,updI]
 . by_cases e:j=len
   . simp [updI,e,hz]
   . simp only [updI,if_neg e];exact h.fits j (by omega)
theorem z2O {n o q:Nat} (h:cutB n o q=true):n / 2 ^ q * 2 ^ q=n/\o < n / 2 ^ q:=by
 simpa [cutB] using h
set_option maxRecDepth 100000 in
theorem z3P (B g:Nat) (s:ByteArray) (b:Nat->Bool) (p d n kind:Nat) (a c:Int) (x0:Nat->Int) (w:World) (hs:s.size<=80000) (hp:p<=s.size) (hd1:1<=d) (hd:d<=13) (hn:n<=32) (h2:2<=kind) (h7:kind<=7)
 (ha:-32<=a/\a<=32) (hc:-32<=c/\c<=32) (hR:Rd w B s p) (hb:Bits s b) (hrow:w.rowIs g 3 n (cutV (ord kind) x0)) (hgB:g ≠ B) (hx0:∀ j,j < ord kind->fitsB d (x0 j)=true) (hon:ord kind < n) :
 Calls prog 331 #[.pointer (some ⟨B,0,none⟩),gV kind a c,O I d,.slice (some ⟨g,0,none⟩) (ord kind) n,O I n] w fun e w'=>RestsOut e w w' B g s n (z0G b s.size d kind a c n p x0):=by
 have ho:=z2F kind h2 h7;have hBlt:=hR.lt;have hglt:=hrow.lt;obtain ⟨Oqq,hO⟩:∃ Oqq,Oqq=Obj.cells #[O I (ord kind),O I (wt kind a c 0),O I (wt kind a c 1),O I (wt kind a c 2),O I (wt kind a c 3),O I (scl kind:Int)] 333:=⟨_,rfl⟩;have I0:Inv w (w.alloc Oqq) B g w.heap.size s d n kind a c ⟨p,0,x0⟩ (ord kind) :=
  ⟨hrow.alloc _,hR.of (blk_alloc_lt _ _ _ hBlt),by rw [hO];exact blk_alloc_new _ _,(ChgS.refl _ w).below (zX.alloc zY _),hp,hx0⟩
 rw [hO] at I0;have HI0:=zZ I0;have HB:=zZ hb
 by_cases hp2:p+2<=s.size
 . have HNUM:=zZ (z0W B s b p 2 _ hs (by omega) HI0.out.rd hp2 hb)
   have hq:num b p 2<=3:=by have:=z3J b p 2;omega
   by_cases hcut:cutB n (ord kind) (num b p 2)=true
   . have HST:Hid (z0G b s.size d kind a c n p x0=(z1O b s.size d kind a c n p).R ⟨p+2,0,x0⟩ n):=by
       show _=_;unfold z0G;rw [if_pos ⟨hp2,hcut⟩]
     have HCF:=zZ (z2O hcut);have HPS:=zZ (fun u=>z2N n (ord kind) (num b p 2) u hn ho hq);obtain ⟨J,hJ⟩:∃ J,J=z1O b s.size d kind a c n p:=⟨_,rfl⟩;obtain ⟨sz,hsz⟩:∃ sz,sz=n / 2 ^ num b p 2:=⟨_,rfl⟩;obtain ⟨q,hqq⟩:∃ q,q=num b p 2:=⟨_,rfl⟩;have HJ:Hid (J.b=b/\J.N=s.size/\J.w=d/\J.kind=kind/\J.a=a/\J.c=c/\J.size=sz):=by rw [hJ,hsz];exact ⟨rfl,rfl,rfl,rfl,rfl,rfl,rfl⟩
     rw [← hJ] at HST;rw [hcut,← hsz] at HPS;rw [← hsz,← hqq] at HCF;rw [← hqq] at HNUM HPS;have hszo:ord kind < sz:=HCF.out.2;have hszn:sz<=n:=by
      have h1:=HCF.out.1;have h2:sz * 1<=sz * 2 ^ q:=Nat.mul_le_mul_left _ (Nat.two_pow_pos _);omega
     clear hJ hsz hqq hcut hq hb hR hrow hx0 I0 hO;simp only [gV]
     go_enter Tryz.func331,Tryz.ntmps331
     go_wp2_with fail;refine wp_scope_straight ?_
     go_wp2_with (first
      | (go_at_call 269;refine HNUM.out.mono ?_;rintro e w1 ⟨rfl,hR1,hC1⟩;have HI1:=zZ (HI0.out.chgB (k':=0) hC1 hR1 hp2 hgB (Nat.ne_of_gt hBlt));clear hR1 hC1;obtain ⟨gc0,gc1,gc2,gc3,gc4,gc5⟩:=HI1.out.gd.cells)
      | (go_at_call 339;refine (HPS.out _).mono ?_;rintro e w' ⟨rfl,rfl⟩))
     refine wp_label ?_;go_wp2
     go_loopw [3,15,16,17,18,19,20,21] (fun l f _ _ _ _ _ _ wr=>∃ F:Nat,∃ len:Nat,F<=n/\f=O I F/\l=.slice (some ⟨g,0,none⟩) len n/\Hid (len=max F (ord kind)/\(∃ m,F=m * sz)/\∃ st,J.R ⟨p+2,0,x0⟩ F=some st/\Inv w wr B g w.heap.size s d n kind a c st len)) (fun _ f _ _ _ _ _ _ _=>n - (intOf f).toNat)
     case atStart=>exact ⟨0,ord kind,Nat.zero_le _,rfl,rfl,by omega,⟨0,by simp⟩,⟨p+2,0,x0⟩,rfl,HI1.out⟩
     case round =>
      clear HI1 gc0 gc1 gc2 gc3 gc4 gc5;obtain ⟨F,len,hF,rfl,rfl,HX⟩:=hrel;obtain ⟨hlen,⟨m,hm⟩,st,hst,hinv⟩:=HX.out;have HLEN:=zZ hlen;have HM:=zZ hm;have HSTF:=zZ hst;have HINV:=zZ hinv;clear hlen hm hst hinv HX
      by_cases hFn:F < n
      . have hFs:F+sz<=n:=by
          have h1:=HCF.out.1;have h2:=HM.out;have h3:m < 2 ^ q:=by
           apply Nat.lt_of_mul_lt_mul_right (a:=sz);rw [Nat.mul_comm (2 ^ q) sz];omega
          have h4:(m+1) * sz<=2 ^ q * sz:=Nat.mul_le_mul_right _ h3;rw [Nat.succ_mul,Nat.mul_comm (2 ^ q) sz] at h4;omega
        have hlenn:len < n:=by have:=HLEN.out;omega
        have hlen1:F<=len:=by have:=HLEN.out;omega
        have hlen2:len < F+sz:=by have:=HLEN.out;omega
        have hlen3:ord kind<=len:=by have:=HLEN.out;omega
        obtain ⟨gc0,gc1,gc2,gc3,gc4,gc5⟩:=HINV.out.gd.cells;have hne:((len:Int) == (n:Int))=false:=by simp;omega
        by_cases hk4:st.p+4<=s.size
        . have HK:=zZ (z0W B s b st.p 4 wr hs (by omega) HINV.out.rd hk4 HB.out)
          by_cases hk14:num b st.p 4<=14
          . have hmod:F % J.size=0:=by rw [HJ.out.2.2.2.2.2.2,HM.out];exact Nat.mul_mod_left _ _
            have HMOD:=zZ hmod;have HU0:Hid (J.U ⟨p+2,0,x0⟩ F (len - F)=some ⟨st.p+4,num b st.p 4,st.x⟩):=by
             have h0:J.U ⟨p+2,0,x0⟩ F 0=some ⟨st.p+4,num b st.p 4,st.x⟩:=by
              simp only [Job.U,HSTF.out,Option.bind_some,Job.rdK];rw [if_pos ⟨by rw [HJ.out.2.1];exact hk4,by rw [HJ.out.1];exact hk14⟩,HJ.out.1]
             show _=_
             by_cases e:F=0
             . have hl:=HLEN.out
               subst e;rw [J.U_skip _ _ (by rw [HJ.out.2.2.2.1];omega)];exact h0
             . have h1:=HM.out
               have h2:sz<=F:=by
                have:1<=m:=by
                 rcases Nat.eq_zero_or_pos m with h | h
                 . subst h;simp at h1;omega
                 . exact h
                have h3:=Nat.mul_le_mul_right sz this;omega
               have h3:len - F=0:=by have:=HLEN.out;omega
               rw [h3];exact h0
            have hkb:num b st.p 4 < 16:=z3J b st.p 4;clear hmod
            go_wp2_with (go_at_call 269;refine HK.out.mono ?_;rintro e w2 ⟨rfl,hR2,hC2⟩;have HI2:=zZ (HINV.out.chgB (k':=num b st.p 4) hC2 hR2 hk4 hgB (Nat.ne_of_gt hBlt));clear hR2 hC2 gc0 gc1 gc2 gc3 gc4 gc5;obtain ⟨gc0,gc1,gc2,gc3,gc4,gc5⟩:=HI2.out.gd.cells)
            clear hne gc0 gc1 gc2 gc3 gc4 gc5 HK;have HMAX:Hid ((max (F:Int) (ord kind:Int))=(len:Int)):=by show _=_;have:=HLEN.out;omega
            go_loopw [3,18,19,20,21] (fun l pl _ _ _ wr=>∃ j:Nat,len<=j/\j<=F+sz/\pl=O I j/\l=.slice (some ⟨g,0,none⟩) j n/\Hid (∃ st',J.U ⟨p+2,0,x0⟩ F (j - F)=some st'/\st'.k=num b st.p 4/\Inv w wr B g w.heap.size s d n kind a c st' j)) (fun _ pl _ _ _ _=>F+sz - (intOf pl).toNat)
            case atStart=>exact ⟨len,Nat.le_refl _,by omega,by rw [HMAX.out],rfl,_,HU0.out,rfl,HI2.out⟩
            case round =>
             clear HI2 HU0;obtain ⟨j,hj1,hj2,rfl,rfl,HY⟩:=hrel;obtain ⟨st2,hU2,hkk,hinv2⟩:=HY.out;have HU2:=zZ hU2;have HKK:=zZ hkk;have HV2:=zZ hinv2;clear hU2 hkk hinv2 HY
             by_cases hjs:j < F+sz
             . obtain ⟨gc0,gc1,gc2,gc3,gc4,gc5⟩:=HV2.out.gd.cells
               have hne:((j:Int) == (n:Int))=false:=by simp;omega
               have HXB:Hid (∀ i,i < j->-4096<=st2.x i/\st2.x i<=4096):=fun i hi=>z4o (HV2.out.fits i hi) hd
               have hgb:=z8A (n:=j) h2 h7 ha hc HXB.out (by omega);have HFAIL:Hid (J.plc j st2=none->J.R ⟨p+2,0,x0⟩ n=none):=by
                intro h;refine J.R_none _ (i:=j+1) ?_ (by omega);have e1:j+1=F+(j - F+1):=by omega
                rw [e1,← J.U_eq _ F HMOD.out (j - F+1) (by omega) (by rw [HJ.out.2.2.2.2.2.2];omega)]
                show (J.U ⟨p+2,0,x0⟩ F (j - F)).bind _=none
                rw [HU2.out,Option.bind_some,show F+(j - F)=j by omega];exact h
               have hoj:¬ j < ord J.kind:=by rw [HJ.out.2.2.2.1];omega
               have HOJ:=zZ hoj;clear hoj;cases hrc:rice b s.size (num b st.p 4) st2.p with
               | none =>
                have HNONE:=zZ (HFAIL.out (Job.plc_none HOJ.out (by rw [HJ.out.1,HJ.out.2.1,HKK.out];exact hrc)));have HRC:=zZ (y7t B s b st2.p (num b st.p 4) wr hs HV2.out.p (by omega) HV2.out.rd HB.out hrc);clear hrc
                go_wp2_with (first
                 | (go_at_call 342;refine HRC.out.mono ?_;rintro e w3 ⟨rfl,⟨q3,hq3,hR3⟩,hC3⟩;have HV3:=zZ (HV2.out.chgB (k':=0) hC3 hR3 hq3 hgB (Nat.ne_of_gt hBlt));clear hR3 hC3 gc0 gc1 gc2 gc3 gc4 gc5;obtain ⟨gc0,gc1,gc2,gc3,gc4,gc5⟩:=HV3.out.gd.cells)
                 | (go_at_call 318;refine (z4s kind a c g j n st2.x _ h2 h7 ha hc (by omega) (by omega) HXB.out HV3.out.row (by omega)).mono ?_;rintro e w4 ⟨rfl,hb4⟩;have HV4:=zZ (HV3.out.below hb4);clear hb4))
                rw [Exit.noGoto_ret];go_ret2;rw [HST.out,HNONE.out];exact ⟨_,rfl,HV4.out.chg⟩
               | some vp =>
                obtain ⟨v,p'⟩:=vp;have hvb:=y7s hrc hs (by omega);have HRC:=zZ (y5w B s b st2.p (num b st.p 4) wr hs HV2.out.p (by omega) HV2.out.rd HB.out v p' hrc);cases hfit:fitsB d (z0z kind a c st2.x j+v)
                . have HNONE:=zZ (HFAIL.out (Job.plc_no HOJ.out (by rw [HJ.out.1,HJ.out.2.1,HKK.out];exact hrc) (by rw [HJ.out.2.2.1,HJ.out.2.2.2.1,HJ.out.2.2.2.2.1,HJ.out.2.2.2.2.2.1];exact hfit)))
                  clear hrc
                  go_wp2_with (first
                   | (go_at_call 342;refine HRC.out.mono ?_;rintro e w3 ⟨rfl,hR3,hC3⟩;have HV3:=zZ (HV2.out.chgB (k':=0) hC3 hR3 hvb.2.2 hgB (Nat.ne_of_gt hBlt));clear hR3 hC3 gc0 gc1 gc2 gc3 gc4 gc5;obtain ⟨gc0,gc1,gc2,gc3,gc4,gc5⟩:=HV3.out.gd.cells)
                   | (go_at_call 318;refine (z4s kind a c g j n st2.x _ h2 h7 ha hc (by omega) (by omega) HXB.out HV3.out.row (by omega)).mono ?_;rintro e w4 ⟨rfl,hb4⟩;have HV4:=zZ (HV3.out.below hb4);clear hb4)
                   | (go_at_call 246;refine (z1H d _ _ hd1 hd).mono ?_;rintro e w5 ⟨rfl,rfl⟩))
                  rw [Exit.noGoto_ret];go_ret2;rw [HST.out,HNONE.out];exact ⟨_,rfl,HV4.out.chg⟩
                . have HYES:=zZ (Job.plc_yes (J:=J) (s:=st2) HOJ.out (by rw [HJ.out.1,HJ.out.2.1,HKK.out];exact hrc) (by rw [HJ.out.2.2.1,HJ.out.2.2.2.1,HJ.out.2.2.2.2.1,HJ.out.2.2.2.2.2.1];exact hfit))
                  clear hrc
                  go_wp2_with (first
                   | (go_at_call 342;refine HRC.out.mono ?_;rintro e w3 ⟨rfl,hR3,hC3⟩;have HV3:=zZ (HV2.out.chgB (k':=num b st.p 4) hC3 hR3 hvb.2.2 hgB (Nat.ne_of_gt hBlt));clear hR3 hC3 gc0 gc1 gc2 gc3 gc4 gc5;obtain ⟨gc0,gc1,gc2,gc3,gc4,gc5⟩:=HV3.out.gd.cells)
                   | (go_at_call 318;refine (z4s kind a c g j n st2.x _ h2 h7 ha hc (by omega) (by omega) HXB.out HV3.out.row (by omega)).mono ?_;rintro e w4 ⟨rfl,hb4⟩;have HV4:=zZ (HV3.out.below hb4);clear hb4;have hca:=fun o=>(HV4.out.row.alloc o).cell (i:=j) (by omega);have hfa:=fun o=>(HV4.out.row.alloc o).frozen j;unfold cutV at hca)
                   | (go_at_call 246;refine (z1H d _ _ hd1 hd).mono ?_;rintro e w5 ⟨rfl,rfl⟩))
                  go_roundw
                  case rel =>
                   refine ⟨j+1,by omega,by omega,by go_num,rfl,_,?_,?_,(HV4.out.below (zX.alloc zY _)).put _ hfit hgB (Nat.ne_of_gt hglt)⟩
                   . rw [show j+1 - F=(j - F)+1 by omega]
                     show (J.U ⟨p+2,0,x0⟩ F (j - F)).bind _=_
                     rw [HU2.out,Option.bind_some,show F+(j - F)=j by omega,HYES.out,HJ.out.2.2.2.1,HJ.out.2.2.2.2.1,HJ.out.2.2.2.2.2.1,HKK.out]
                   . rfl
                  case measure=>simp [intOf];omega
             . have e:j=F+sz:=by omega
               subst e;go_wp2
               go_roundw
               case rel =>
                refine ⟨F+sz,F+sz,hFs,by go_num,rfl,by omega,⟨m+1,by rw [Nat.succ_mul,← HM.out]⟩,st2,?_,HV2.out⟩;rw [← J.U_eq _ F HMOD.out sz (by omega) (by rw [HJ.out.2.2.2.2.2.2];omega)];have:=HU2.out
                rwa [show F+sz - F=sz by omega] at this
               case measure=>simp [intOf];omega
          . have HNONE:Hid (J.R ⟨p+2,0,x0⟩ n=none):=by
              refine J.R_none _ (i:=F+1) ?_ (by omega);simp only [Job.R,HSTF.out,Option.bind_some];have hmod:F % J.size=0:=by rw [HJ.out.2.2.2.2.2.2,HM.out];exact Nat.mul_mod_left _ _
              rw [if_pos hmod,Job.rdK,if_neg (fun h=>hk14 (by have:=h.2;rwa [HJ.out.1] at this))];rfl
            have hkb:num b st.p 4 < 16:=z3J b st.p 4
            go_wp2_with (go_at_call 269;refine HK.out.mono ?_;rintro e w2 ⟨rfl,hR2,hC2⟩)
            rw [Exit.noGoto_ret];go_ret2;rw [HST.out,HNONE.out];exact ⟨_,rfl,HINV.out.chg.chg hC2 (.inl (.inl rfl))⟩
        . have HK:=zZ (z2l B s st.p 4 wr hs HINV.out.p (by omega) HINV.out.rd (by omega))
          have HNONE:Hid (J.R ⟨p+2,0,x0⟩ n=none):=by
           refine J.R_none _ (i:=F+1) ?_ (by omega);simp only [Job.R,HSTF.out,Option.bind_some];have hmod:F % J.size=0:=by rw [HJ.out.2.2.2.2.2.2,HM.out];exact Nat.mul_mod_left _ _
           rw [if_pos hmod,Job.rdK,if_neg (fun h=>hk4 (by have:=h.1;rwa [HJ.out.2.1] at this))];rfl
          go_wp2_with (go_at_call 269;refine HK.out.mono ?_;rintro e w2 ⟨rfl,j,rfl⟩)
          rw [Exit.noGoto_ret];go_ret2;rw [HST.out,HNONE.out];exact ⟨_,rfl,HINV.out.chg.drewN j⟩
      . have e:F=n:=by omega
        subst e;have hl:len=F:=by have:=HLEN.out;omega
        subst hl;go_wp2;rw [Exit.noGoto_ret];go_ret2;rw [HST.out,HSTF.out];exact ⟨rfl,HINV.out.row,HINV.out.rd,HINV.out.chg⟩
   . have HST:Hid (z0G b s.size d kind a c n p x0=none):=by
       show _=_;unfold z0G;rw [if_neg (fun h=>hcut h.2)]
     have hcut0:cutB n (ord kind) (num b p 2)=false:=by simpa using hcut
     have HPS:=zZ (fun u=>z2N n (ord kind) (num b p 2) u hn ho hq);rw [hcut0] at HPS;clear hcut hcut0 hb hR hrow hx0 I0 hO;simp only [gV]
     go_enter Tryz.func331,Tryz.ntmps331
     go_wp2_with fail;refine wp_scope_straight ?_
     go_wp2_with (first
      | (go_at_call 269;refine HNUM.out.mono ?_;rintro e w1 ⟨rfl,hR1,hC1⟩;have HI1:=zZ (HI0.out.chgB (k':=0) hC1 hR1 hp2 hgB (Nat.ne_of_gt hBlt));clear hR1 hC1;obtain ⟨gc0,gc1,gc2,gc3,gc4,gc5⟩:=HI1.out.gd.cells)
      | (go_at_call 339;refine (HPS.out _).mono ?_;rintro e w' ⟨rfl,rfl⟩))
     rw [Exit.noGoto_ret];go_ret2;rw [HST.out];exact ⟨_,rfl,HI1.out.chg⟩
 . have HNUM:=zZ (z2l B s p 2 _ hs hp (by omega) HI0.out.rd (by omega))
   have HST:Hid (z0G b s.size d kind a c n p x0=none):=by
    show _=_;unfold z0G;rw [if_neg (fun h=>hp2 h.1)]
   clear hb hR hrow hx0 I0 hO;simp only [gV]
   go_enter Tryz.func331,Tryz.ntmps331
   go_wp2_with fail;refine wp_scope_straight ?_
   go_wp2_with (go_at_call 269;refine HNUM.out.mono ?_;rintro e w1 ⟨rfl,j,rfl⟩)
   rw [Exit.noGoto_ret];go_ret2;rw [HST.out];exact ⟨_,rfl,HI0.out.chg.drewN j⟩
def z0E (b:Nat->Bool) (N kind d n p:Nat):Option ((Nat->Int) × Nat) :=
 if kind=0 then (if p+d<=N then some (fun _=>sgn b p d,p+d) else none)
 else if kind=1 then (if posn p d n<=N then some (fun i=>sgn b (posn p d i) d,posn p d n) else none)
 else if 7 < kind∨n<=ord kind then none
 else if posn p d (ord kind)<=N then
  (if kind=7 then
   (if posn p d (ord kind)+12<=N then (z0G b N d kind (sgn b (posn p d (ord kind)) 6) (sgn b (posn p d (ord kind)+6) 6) n (posn p d (ord kind)+12) (fun i=>sgn b (posn p d i) d)).map fun st=>(st.x,st.p) else none)
  else (z0G b N d kind 0 0 n (posn p d (ord kind)) (fun i=>sgn b (posn p d i) d)).map fun st=>(st.x,st.p))
 else none
def Out (e:Ending) (w w':World) (B:Nat) (s:ByteArray) (n:Nat):Option ((Nat->Int) × Nat)->Prop
 | some xp=>Got e w w' B s n n xp.1 xp.2
 | none=>Not e w w' B
theorem sgn6 (b:Nat->Bool) (p:Nat):-32<=sgn b p 6/\sgn b p 6<=32:=by
 have h:=z2u b p (d:=6) (by omega);unfold fitsB at h;rw [z0h] at h;have e:(2:Int) ^ (6 - 1)=32:=rfl;omega
theorem ChgS.toChg {B g:Nat} {w w1 w':World} (h1:Chg B w w1) (h:ChgS (fun k=>k=B∨k=g) w1 w') (hg:w.heap.size<=g):Chg B w w' :=
 ⟨h.os.trans h1.os,h.tape.trans h1.tape,h.output.trans h1.output,Nat.le_trans h1.size h.size,fun j hj hne=>(h.block j (Nat.lt_of_lt_of_le hj h1.size) (fun e=>by rcases e with e | e;exact hne (by rw [e]);omega)).trans (h1.block j hj hne)⟩
theorem z4P {e:Ending} {w w1 w':World} {B g:Nat} {s:ByteArray} {n:Nat} {o:Option St} (h1:Chg B w w1) (hg:w.heap.size<=g) (h:RestsOut e w1 w' B g s n o):Out e w w' B s n (o.map fun st=>(st.x,st.p)):=by
 cases o with
 | none=>obtain ⟨v,he,hc⟩:=h;exact ⟨v,he,ChgS.toChg h1 hc hg⟩
 | some st=>obtain ⟨he,hr,hd,hc⟩:=h;exact ⟨g,he,hg,hr,hd,ChgS.toChg h1 hc hg⟩
theorem RestsOut.form {e:Ending} {w w':World} {B g:Nat} {s:ByteArray} {n:Nat} {o:Option St} (h:RestsOut e w w' B g s n o):∃ u c,e=.returned (.tuple #[u,.bool c]):=by
 cases o with
 | none=>obtain ⟨v,he,_⟩:=h;exact ⟨v,false,he⟩
 | some st=>exact ⟨_,true,h.1⟩
theorem Out.form {e:Ending} {w w':World} {B:Nat} {s:ByteArray} {n:Nat} {o:Option ((Nat->Int) × Nat)} (h:Out e w w' B s n o):∃ u c,e=.returned (.tuple #[u,.bool c]):=by
 cases o with
 | none=>obtain ⟨v,he,_⟩:=h;exact ⟨v,false,he⟩
 | some st=>obtain ⟨g,he,_⟩:=h;exact ⟨_,true,he⟩
set_option maxRecDepth 100000 in
theorem z5o (B:Nat) (s:ByteArray) (b:Nat->Bool) (p d n kind:Nat) (w:World) (hs:s.size<=80000) (hp:p<=s.size) (hd1:1<=d) (hd:d<=13) (hn:n<=32) (h2:2<=kind) (h7:kind<=7) (hR:Rd w B s p) (hb:Bits s b) (hT:TabAt w 5) (hT2:5 < w.heap.size) (hB2:B ≠ 5) :
 Calls prog 301 #[.pointer (some ⟨B,0,none⟩),O I kind,O I d,O I n] w fun e w'=>Out e w w' B s n (z0E b s.size kind d n p):=by
 have ho:=z2F kind h2 h7;have hk0:¬ kind=0:=by omega
 have hk1:¬ kind=1:=by omega
 by_cases hno:n<=ord kind
 . have HO:Hid (z0E b s.size kind d n p=none):=by
     show _=_;unfold z0E;rw [if_neg hk0,if_neg hk1,if_pos (.inr hno)]
   clear hb hR hT
   go_enter Tryz.func301,Tryz.ntmps301
   go_wp2_with (go_at_call 319;refine (z0X kind _ h2 h7).mono ?_;rintro e w' ⟨rfl,rfl⟩)
   go_ret2;rw [HO.out];exact ⟨_,rfl,Chg.refl _ _⟩
 . have HPL:=zZ (z3O B s b p d (ord kind) n w hs hp hd1 hd (by omega) hn hR hb)
   have HBO:Hid (z0E b s.size kind d n p=if posn p d (ord kind)<=s.size then
       (if kind=7 then
        (if posn p d (ord kind)+12<=s.size then (z0G b s.size d kind (sgn b (posn p d (ord kind)) 6) (sgn b (posn p d (ord kind)+6) 6) n (posn p d (ord kind)+12) (fun i=>sgn b (posn p d i) d)).map fun st=>(st.x,st.p) else none)
       else (z0G b s.size d kind 0 0 n (posn p d (ord kind)) (fun i=>sgn b (posn p d i) d)).map fun st=>(st.x,st.p))
       else none):=by
    show _=_;unfold z0E;rw [if_neg hk0,if_neg hk1,if_neg (by omega)]
   by_cases hfi:posn p d (ord kind)<=s.size
   . have HP1:Hid (Calls prog 300 #[.pointer (some ⟨B,0,none⟩),O I d,O I (ord kind),O I n] w fun e w'=>Got e w w' B s (ord kind) n (fun i=>sgn b (posn p d i) d) (posn p d (ord kind))) :=
       HPL.out.mono fun e w' h=>by
        rcases h with h | h
        . exact h.2
        . have:=h.1;omega
     have HT:=zZ hT;have HB:=zZ hb;have hBlt:=hR.lt;clear HPL hb hR hT
     by_cases h7':kind=7
     . subst h7'
       by_cases h12:posn p d (ord 7)+12<=s.size
       . have HO:Hid (z0E b s.size 7 d n p=(z0G b s.size d 7 (sgn b (posn p d (ord 7)) 6) (sgn b (posn p d (ord 7)+6) 6) n (posn p d (ord 7)+12) (fun i=>sgn b (posn p d i) d)).map fun st=>(st.x,st.p)):=by
           show _=_;rw [HBO.out,if_pos hfi,if_pos rfl,if_pos h12]
         have HG:Hid (∀ u:World,Rd u B s (posn p d (ord 7))->Calls prog 330 #[.pointer (some ⟨B,0,none⟩),O I 7] u fun e w'=>GotG e u w' B s (gV 7 (sgn b (posn p d (ord 7)) 6) (sgn b (posn p d (ord 7)+6) 6)) (posn p d (ord 7)+12)):=fun u hu =>
          (z2m B s b _ u hs hfi hu HB.out).mono fun e w' h=>by
           rcases h with h | h
           . exact h.2
           . have:=h.1;omega
         go_enter Tryz.func301,Tryz.ntmps301
         go_wp2_with (first
          | (go_at_call 319;refine (z0X 7 _ h2 h7).mono ?_;rintro e w' ⟨rfl,rfl⟩)
          | (go_at_call 300;refine HP1.out.mono ?_;rintro e w1 ⟨g,rfl,hg1,hrow1,hR1,hC1⟩;have HROW1:=zZ hrow1;have HR1:=zZ hR1;have HC1:=zZ hC1;clear hrow1 hR1 hC1)
          | (go_at_call 330;refine (HG.out _ HR1.out).mono ?_;rintro e w2 ⟨rfl,hR2,hC2⟩;have HR2:=zZ hR2;have HC2:=zZ hC2;clear hR2 hC2;simp only [gV])
          | (go_at_call 331;refine (z3P B g s b (posn p d (ord 7)+12) d n 7 (sgn b (posn p d (ord 7)) 6) (sgn b (posn p d (ord 7)+6) 6) (fun i=>sgn b (posn p d i) d) _ hs h12 hd1 hd hn h2 h7 (sgn6 _ _) (sgn6 _ _) (HR2.out.of (blk_alloc_lt _ _ _ HR2.out.lt)) HB.out ((HC2.out.row HROW1.out (by omega)).alloc _) (by omega) (fun j _=>z2u b _ hd1) (by omega)).mono ?_;rintro e w3 h3;obtain ⟨u,cc,rfl⟩:=h3.form;have H3:=zZ h3;clear h3))
         go_ret2;rw [HO.out];exact z4P ((HC1.out.trans HC2.out).below (zX.alloc zY _)) hg1 H3.out
       . have HO:Hid (z0E b s.size 7 d n p=none):=by
           show _=_;rw [HBO.out,if_pos hfi,if_pos rfl,if_neg h12]
         have HG:Hid (∀ u:World,Rd u B s (posn p d (ord 7))->Calls prog 330 #[.pointer (some ⟨B,0,none⟩),O I 7] u fun e w'=>NotG e u w' B):=fun u hu =>
          (z2m B s b _ u hs hfi hu HB.out).mono fun e w' h=>by
           rcases h with h | h
           . exact absurd h.1 h12
           . exact h.2
         go_enter Tryz.func301,Tryz.ntmps301
         go_wp2_with (first
          | (go_at_call 319;refine (z0X 7 _ h2 h7).mono ?_;rintro e w' ⟨rfl,rfl⟩)
          | (go_at_call 300;refine HP1.out.mono ?_;rintro e w1 ⟨g,rfl,hg1,hrow1,hR1,hC1⟩;have HROW1:=zZ hrow1;have HR1:=zZ hR1;have HC1:=zZ hC1;clear hrow1 hR1 hC1)
          | (go_at_call 330;refine (HG.out _ HR1.out).mono ?_;rintro e w2 ⟨v0,v1,v2,v3,v4,v5,rfl,hC2⟩;have HC2:=zZ hC2;clear hC2))
         go_ret2;rw [HO.out];exact ⟨_,rfl,(HC1.out.trans HC2.out).below (zX.alloc zY _)⟩
     . have HG:Hid (∀ u:World,Rd u B s (posn p d (ord kind))->TabAt u 5->5 < u.heap.size->Calls prog 330 #[.pointer (some ⟨B,0,none⟩),O I kind] u fun e w'=>GotG e u w' B s (gV kind 0 0) (posn p d (ord kind))):=fun u hu hTu hu2 =>
         z4q B s _ kind u h2 (by omega) hu hTu hu2
       go_enter Tryz.func301,Tryz.ntmps301
       go_wp2_with (first
        | (go_at_call 319;refine (z0X kind _ h2 h7).mono ?_;rintro e w' ⟨rfl,rfl⟩)
        | (go_at_call 300;refine HP1.out.mono ?_;rintro e w1 ⟨g,rfl,hg1,hrow1,hR1,hC1⟩;have HROW1:=zZ hrow1;have HR1:=zZ hR1;have HC1:=zZ hC1;clear hrow1 hR1 hC1)
        | (go_at_call 330;refine (HG.out _ HR1.out (HC1.out.tabs HT.out hT2 (Ne.symm hB2)) (Nat.lt_of_lt_of_le hT2 HC1.out.size)).mono ?_;rintro e w2 ⟨rfl,hR2,hC2⟩;have HR2:=zZ hR2;have HC2:=zZ hC2;clear hR2 hC2;simp only [gV])
        | (go_at_call 331;refine (z3P B g s b (posn p d (ord kind)) d n kind 0 0 (fun i=>sgn b (posn p d i) d) _ hs hfi hd1 hd hn h2 h7 (by omega) (by omega) (HR2.out.of (blk_alloc_lt _ _ _ HR2.out.lt)) HB.out ((HC2.out.row HROW1.out (by omega)).alloc _) (by omega) (fun j _=>z2u b _ hd1) (by omega)).mono ?_;rintro e w3 h3;obtain ⟨u,cc,rfl⟩:=h3.form;have H3:=zZ h3;clear h3))
       go_ret2;rw [HBO.out,if_pos hfi,if_neg h7'];exact z4P ((HC1.out.trans HC2.out).below (zX.alloc zY _)) hg1 H3.out
   . have HP1:Hid (Calls prog 300 #[.pointer (some ⟨B,0,none⟩),O I d,O I (ord kind),O I n] w fun e w'=>Not e w w' B) :=
       HPL.out.mono fun e w' h=>by
        rcases h with h | h
        . exact absurd h.1 hfi
        . exact h.2
     have HO:Hid (z0E b s.size kind d n p=none):=by show _=_;rw [HBO.out,if_neg hfi]
     clear HPL hb hR hT
     go_enter Tryz.func301,Tryz.ntmps301
     go_wp2_with (first
      | (go_at_call 319;refine (z0X kind _ h2 h7).mono ?_;rintro e w' ⟨rfl,rfl⟩)
      | (go_at_call 300;refine HP1.out.mono ?_;rintro e w1 ⟨v,rfl,hC1⟩))
     go_ret2;rw [HO.out];exact ⟨_,rfl,hC1⟩
theorem z6J {b:Nat->Bool} {N d kind n p:Nat} {a c:Int} {x0:Nat->Int} {st:St} (h:z0G b N d kind a c n p x0=some st) (h0:∀ j,j < ord kind->fitsB d (x0 j)=true):∀ j,j < n->fitsB d (st.x j)=true:=by
 unfold z0G at h;split at h
 . intro j hj
   exact (z1O b N d kind a c n p).R_fits ⟨p+2,0,x0⟩ h0 n st h j (by omega)
 . cases h
theorem z8B {b:Nat->Bool} {N kind d n p:Nat} {xp:(Nat->Int) × Nat} (hd:1<=d) (h:z0E b N kind d n p=some xp):∀ j,j < n->fitsB d (xp.1 j)=true:=by
 unfold z0E at h;intro j hj;split at h
 . split at h
   . cases h;exact z2u b _ hd
   . cases h
 . split at h
   . split at h
     . cases h;exact z2u b _ hd
     . cases h
   . split at h
     . cases h
     . split at h
       . split at h
         . split at h
           . simp only [Option.map_eq_some_iff] at h
             obtain ⟨st,hst,rfl⟩:=h;exact z6J hst (fun j _=>z2u b _ hd) j hj
           . cases h
         . simp only [Option.map_eq_some_iff] at h
           obtain ⟨st,hst,rfl⟩:=h;exact z6J hst (fun j _=>z2u b _ hd) j hj
       . cases h
theorem z8C (B:Nat) (s:ByteArray) (b:Nat->Bool) (p d n kind:Nat) (w:World) (hs:s.size<=80000) (hp:p<=s.size) (hd1:1<=d) (hd:d<=13) (hn:n<=32) (hk:kind<=15) (hR:Rd w B s p) (hb:Bits s b) (hT:TabAt w 5) (hT2:5 < w.heap.size) (hB2:B ≠ 5) :
 Calls prog 270 #[.pointer (some ⟨B,0,none⟩),O I kind,O I d,O I n] w fun e w'=>Out e w w' B s n (z0E b s.size kind d n p):=by
 by_cases k0:kind=0
 . subst k0
   by_cases h:p+d<=s.size
   . have HO:Hid (z0E b s.size 0 d n p=some (fun _=>sgn b p d,p+d)):=by show _=_;unfold z0E;rw [if_pos rfl,if_pos h]
     have HC:=zZ (z7q B s b p d n w hs hd1 hd hn hR hb h);clear hb hR hT
     go_enter Tryz.func270,Tryz.ntmps270
     go_wp2_with (go_at_call 299;refine HC.out.mono ?_;rintro e w1 ⟨g,rfl,h1⟩;have H1:=zZ h1;clear h1)
     go_ret2;rw [HO.out];exact ⟨g,rfl,H1.out⟩
   . have HO:Hid (z0E b s.size 0 d n p=none):=by show _=_;unfold z0E;rw [if_pos rfl,if_neg h]
     have HC:=zZ (z8y B s p d n w hs hp hd hR (by omega));clear hb hR hT
     go_enter Tryz.func270,Tryz.ntmps270
     go_wp2_with (go_at_call 299;refine HC.out.mono ?_;rintro e w1 ⟨v,rfl,h1⟩;have H1:=zZ h1;clear h1)
     go_ret2;rw [HO.out];exact ⟨v,rfl,H1.out⟩
 . have t0:((kind:Int) == 0)=false:=by simp;omega
   by_cases k1:kind=1
   . subst k1
     have HO:Hid (z0E b s.size 1 d n p=if posn p d n<=s.size then some (fun i=>sgn b (posn p d i) d,posn p d n) else none):=by show _=_;unfold z0E;rw [if_neg (by omega),if_pos rfl]
     have HC:Hid (Calls prog 300 #[.pointer (some ⟨B,0,none⟩),O I d,O I n,O I n] w fun e w'=>Out e w w' B s n (z0E b s.size 1 d n p)) :=
      (z3O B s b p d n n w hs hp hd1 hd zY hn hR hb).mono fun e w' h=>by
       rw [HO.out];rcases h with h | h
       . rw [if_pos h.1];exact h.2
       . rw [if_neg (by omega)];exact h.2
     clear hb hR hT HO
     go_enter Tryz.func270,Tryz.ntmps270
     go_wp2_with (go_at_call 300;refine HC.out.mono ?_;rintro e w1 h1;obtain ⟨u,cc,rfl⟩:=h1.form;have H1:=zZ h1;clear h1)
     go_ret2;exact H1.out
   . have t1:((kind:Int) == 1)=false:=by simp;omega
     by_cases k7:kind<=7
     . have HC:=zZ (z5o B s b p d n kind w hs hp hd1 hd hn (by omega) k7 hR hb hT hT2 hB2)
       clear hb hR hT
       go_enter Tryz.func270,Tryz.ntmps270
       go_wp2_with (go_at_call 301;refine HC.out.mono ?_;rintro e w1 h1;obtain ⟨u,cc,rfl⟩:=h1.form;have H1:=zZ h1;clear h1)
       go_ret2;exact H1.out
     . have HO:Hid (z0E b s.size kind d n p=none):=by show _=_;unfold z0E;rw [if_neg k0,if_neg k1,if_pos (.inl (by omega))]
       clear hb hR hT
       go_enter Tryz.func270,Tryz.ntmps270
       go_wp2;go_ret2;rw [HO.out];exact ⟨_,rfl,Chg.refl _ _⟩
def z1c (b:Nat->Bool) (N width n:Nat):Option ((Nat->Int) × Nat) :=
 if 8<=N/\num b 4 4 < width then (z0E b N (num b 0 4) (width - num b 4 4) n 8).map fun xp=>(fun i=>xp.1 i * 2 ^ num b 4 4,xp.2) else none
def Out3 (e:Ending) (w w':World) (n:Nat):Option ((Nat->Int) × Nat)->Prop
 | some xp=>∃ g,e=.returned (.tuple #[.slice (some ⟨g,0,none⟩) n n,O I xp.2,.bool true])/\w.heap.size<=g/\w'.rowIs g 3 n (cutV n xp.1)/\Below w.heap.size w w'
 | none=>e=.returned (.tuple #[.slice none 0 0,O I 0,.bool false])/\Below w.heap.size w w'
def shV (n:Nat) (x:Nat->Int) (q k i:Nat):Value:=if i < k then cutV n (fun i=>x i * 2 ^ q) i else cutV n x i
theorem y5x {w:World} {g:Nat} {t:TypeId} {n k q:Nat} {x:Nat->Int} (hk:k < n) (h:w.rowIs g t n (shV n x q k)):(w.setCell ⟨g,k,none⟩ (O I (x k * 2 ^ q))).rowIs g t n (shV n x q (k+1)):=by
 refine (h.set k _).congr fun i _=>?_
 unfold shV
 by_cases e:i=k
 . subst e;simp [cutV,cutI,hk]
 . by_cases e2:i < k
   . simp [e,e2,Nat.lt_succ_of_lt e2]
   . have:¬ i < k+1:=by omega
     simp [e,e2,this]
theorem y6W {d:Nat} {v:Int} {q width:Nat} (h:fitsB d v=true) (hd1:1<=d) (hq:d+q<=13):-4096<=v * 2 ^ q/\v * 2 ^ q<=4096:=by
 unfold fitsB at h;rw [z0h] at h;have e:(2:Int) ^ (d - 1) * 2 ^ q=2 ^ (d - 1+q):=by rw [Int.pow_add]
 have hp:(2:Int) ^ (d - 1+q)<=4096:=z4p (d - 1+q) 4096 (Nat.le_trans (Nat.pow_le_pow_right (by omega) (by omega:d - 1+q<=12)) (by decide));have hpos:=z2v q;have h1:v * 2 ^ q<=2 ^ (d - 1) * 2 ^ q:=Int.mul_le_mul_of_nonneg_right (by omega) (by omega);have h2:-(2 ^ (d - 1)) * 2 ^ q<=v * 2 ^ q:=Int.mul_le_mul_of_nonneg_right h.1 (by omega);rw [Int.neg_mul] at h2;omega
set_option maxRecDepth 100000 in
theorem z5p (s:ByteArray) (b:Nat->Bool) (width n:Nat) (w:World) (hs:s.size<=80000) (hw1:1<=width) (hw:width<=13) (hn:n<=32) (hb:Bits s b) (hT:TabAt w 5) (hT2:5 < w.heap.size) :
 Calls prog 225 #[O I width,O I n,.string s] w fun e w'=>Out3 e w w' n (z1c b s.size width n):=by
 have HB:=zZ hb;have HT:=zZ hT;clear hb hT;have k16:num b 0 4 < 16:=z3J b 0 4;have q16:num b 4 4 < 16:=z3J b 4 4
 by_cases h4:4<=s.size
 . by_cases h8:8<=s.size
   . by_cases hq:num b 4 4 < width
     . have HO:Hid (z1c b s.size width n=(z0E b s.size (num b 0 4) (width - num b 4 4) n 8).map fun xp=>(fun i=>xp.1 i * 2 ^ num b 4 4,xp.2)):=by show _=_;unfold z1c;rw [if_pos ⟨h8,hq⟩]
       have hcast:((width - num b 4 4:Nat):Int)=(width:Int) - (num b 4 4:Int):=by omega
       have HBODY:Hid (∀ u:World,Rd u w.heap.size s 8->TabAt u 5->5 < u.heap.size->Calls prog 270 #[.pointer (some ⟨w.heap.size,0,none⟩),O I (num b 0 4),O I ((width:Int) - (num b 4 4:Int)),O I n] u fun e w'=>Out e u w' w.heap.size s n (z0E b s.size (num b 0 4) (width - num b 4 4) n 8)):=fun u hu hTu hu2=>by
        rw [← hcast];exact z8C w.heap.size s b 8 (width - num b 4 4) n (num b 0 4) u hs h8 (by omega) (by omega) hn (by omega) hu HB.out hTu hu2 (by omega)
       clear hcast;cases hbody:z0E b s.size (num b 0 4) (width - num b 4 4) n 8 with
       | none =>
        rw [hbody] at HBODY HO
        go_enter Tryz.func225,Tryz.ntmps225
        go_wp2_with (first
         | (go_at_call 268;refine (z1n _ _).mono ?_;rintro e w1 ⟨rfl,hR1,hb1⟩;have HR1:=zZ hR1;have HB1:=zZ hb1;clear hR1 hb1)
         | (go_at_call 269;refine (z0W w.heap.size s b 0 4 _ hs (by omega) HR1.out (by omega) HB.out).mono ?_;rintro e w2 ⟨rfl,hR2,hC2⟩;have HR2:=zZ hR2;have HC2:=zZ hC2;clear hR2 hC2)
         | (go_at_call 269;refine (z0W w.heap.size s b 4 4 _ hs (by omega) HR2.out (by omega) HB.out).mono ?_;rintro e w3 ⟨rfl,hR3,hC3⟩;have HR3:=zZ hR3;have HC3:=zZ hC3;clear hR3 hC3;have HB3:=zZ (HB1.out.trans ((HC2.out.trans HC3.out).toBelow zY (Nat.le_of_lt HR1.out.lt))))
         | (go_at_call 270;refine (HBODY.out _ HR3.out (fun r c hr hc=>(HB3.out.cell (p:=⟨5,4 * r+c,none⟩) hT2).trans (HT.out r c hr hc)) (Nat.lt_of_lt_of_le hT2 HB3.out.size)).mono ?_;rintro e w4 ⟨v4,rfl,hC4⟩;have HC4:=zZ hC4;clear hC4))
        go_ret3
        rw [HO.out];exact ⟨rfl,HB3.out.trans (HC4.out.toBelow zY (Nat.le_of_lt (Nat.lt_of_lt_of_le HR1.out.lt (HC2.out.trans HC3.out).size)))⟩
       | some xp =>
        rw [hbody] at HBODY HO;have HF:=zZ (z8B (by omega) hbody);clear hbody
        go_enter Tryz.func225,Tryz.ntmps225
        go_wp2_with (first
         | (go_at_call 268;refine (z1n _ _).mono ?_;rintro e w1 ⟨rfl,hR1,hb1⟩;have HR1:=zZ hR1;have HB1:=zZ hb1;clear hR1 hb1)
         | (go_at_call 269;refine (z0W w.heap.size s b 0 4 _ hs (by omega) HR1.out (by omega) HB.out).mono ?_;rintro e w2 ⟨rfl,hR2,hC2⟩;have HR2:=zZ hR2;have HC2:=zZ hC2;clear hR2 hC2)
         | (go_at_call 269;refine (z0W w.heap.size s b 4 4 _ hs (by omega) HR2.out (by omega) HB.out).mono ?_;rintro e w3 ⟨rfl,hR3,hC3⟩;have HR3:=zZ hR3;have HC3:=zZ hC3;clear hR3 hC3;have HB3:=zZ (HB1.out.trans ((HC2.out.trans HC3.out).toBelow zY (Nat.le_of_lt HR1.out.lt))))
         | (go_at_call 270;refine (HBODY.out _ HR3.out (fun r c hr hc=>(HB3.out.cell (p:=⟨5,4 * r+c,none⟩) hT2).trans (HT.out r c hr hc)) (Nat.lt_of_lt_of_le hT2 HB3.out.size)).mono ?_;rintro e w4 ⟨g,rfl,hg4,hrow4,hR4,hC4⟩;have HROW4:=zZ hrow4;have HR4:=zZ hR4;have HC4:=zZ hC4;clear hrow4 hR4 hC4))
        have HBE:Hid (Below w.heap.size w w4):=HB3.out.trans (HC4.out.toBelow zY (Nat.le_of_lt (Nat.lt_of_lt_of_le HR1.out.lt (HC2.out.trans HC3.out).size)));have hgw:w.heap.size < g:=by have:=HR3.out.lt;omega
        have hp2:=z2v (num b 4 4);clear HB3 HC4 HR3 HR2 HR1 HC2 HC3 HB1 HBODY
        go_loopw [14,50] (fun _ i wr=>∃ k:Nat,k<=n/\i=O I k/\Hid (wr.rowIs g 3 n (shV n xp.1 (num b 4 4) k)/\Rd wr w.heap.size s xp.2/\Below w.heap.size w wr)) (fun _ i _=>n - (intOf i).toNat)
        case atStart=>exact ⟨0,Nat.zero_le _,rfl,HROW4.out.congr fun i _=>by simp [shV],HR4.out,HBE.out⟩
        case round =>
         clear HROW4 HR4 HBE;obtain ⟨k,hk,rfl,HX⟩:=hrel
         by_cases hkn:k < n
         . have hc1:=HX.out.1.cell hkn
           have hf1:=HX.out.1.frozen k;unfold shV cutV cutI at hc1;rw [if_neg (Nat.lt_irrefl k),if_pos hkn] at hc1;have hmb:=y6W (width:=width) (q:=num b 4 4) (HF.out k hkn) (by omega) (by omega);go_wp2
           go_roundw
           case rel =>
            refine ⟨k+1,by omega,by go_num,y5x hkn HX.out.1,?_,HX.out.2.2.setCell (Nat.le_of_lt hgw) _⟩;exact ((Chg.refl g wr).set k _).rd HX.out.2.1 (by omega)
           case measure=>simp [intOf];omega
         . have e:k=n:=by omega
           subst e
           go_wp2_with (go_at_call 271;refine (y3c _ s _ _ HX.out.2.1).mono ?_;rintro e w' ⟨rfl,rfl⟩)
           go_ret3
           rw [HO.out];exact ⟨g,rfl,Nat.le_of_lt hgw,HX.out.1.congr fun i hi=>by simp [shV,hi],HX.out.2.2⟩
     . have HO:Hid (z1c b s.size width n=none):=by show _=_;unfold z1c;rw [if_neg (fun h=>hq h.2)]
       go_enter Tryz.func225,Tryz.ntmps225
       go_wp2_with (first
        | (go_at_call 268;refine (z1n _ _).mono ?_;rintro e w1 ⟨rfl,hR1,hb1⟩;have HR1:=zZ hR1;have HB1:=zZ hb1;clear hR1 hb1)
        | (go_at_call 269;refine (z0W w.heap.size s b 0 4 _ hs (by omega) HR1.out (by omega) HB.out).mono ?_;rintro e w2 ⟨rfl,hR2,hC2⟩;have HR2:=zZ hR2;have HC2:=zZ hC2;clear hR2 hC2)
        | (go_at_call 269;refine (z0W w.heap.size s b 4 4 _ hs (by omega) HR2.out (by omega) HB.out).mono ?_;rintro e w3 ⟨rfl,hR3,hC3⟩;have HR3:=zZ hR3;have HC3:=zZ hC3;clear hR3 hC3;have HB3:=zZ (HB1.out.trans ((HC2.out.trans HC3.out).toBelow zY (Nat.le_of_lt HR1.out.lt)))))
       go_ret3
       rw [HO.out];exact ⟨rfl,HB3.out⟩
   . have HO:Hid (z1c b s.size width n=none):=by show _=_;unfold z1c;rw [if_neg (fun h=>h8 h.1)]
     go_enter Tryz.func225,Tryz.ntmps225
     go_wp2_with (first
      | (go_at_call 268;refine (z1n _ _).mono ?_;rintro e w1 ⟨rfl,hR1,hb1⟩;have HR1:=zZ hR1;have HB1:=zZ hb1;clear hR1 hb1)
      | (go_at_call 269;refine (z0W w.heap.size s b 0 4 _ hs (by omega) HR1.out (by omega) HB.out).mono ?_;rintro e w2 ⟨rfl,hR2,hC2⟩;have HR2:=zZ hR2;have HC2:=zZ hC2;clear hR2 hC2)
      | (go_at_call 269;refine (z2l w.heap.size s 4 4 _ hs (by omega) (by omega) HR2.out (by omega)).mono ?_;rintro e w3 ⟨rfl,j,rfl⟩))
     go_ret3
     rw [HO.out];exact ⟨rfl,HB1.out.trans ((HC2.out.drewN j).toBelow zY (Nat.le_of_lt HR1.out.lt))⟩
 . have HO:Hid (z1c b s.size width n=none):=by show _=_;unfold z1c;rw [if_neg (fun h=>h4 (by omega))]
   go_enter Tryz.func225,Tryz.ntmps225
   go_wp2_with (first
    | (go_at_call 268;refine (z1n _ _).mono ?_;rintro e w1 ⟨rfl,hR1,hb1⟩;have HR1:=zZ hR1;have HB1:=zZ hb1;clear hR1 hb1)
    | (go_at_call 269;refine (z2l w.heap.size s 0 4 _ hs (by omega) (by omega) HR1.out (by omega)).mono ?_;rintro e w2 ⟨rfl,j,rfl⟩))
   go_ret3
   rw [HO.out];exact ⟨rfl,HB1.out.trans (((Chg.refl w.heap.size _).drewN j).toBelow zY (Nat.le_of_lt HR1.out.lt))⟩
def shB (b:Nat->Bool) (o i:Nat):Bool:=b (o+i)
def shS (o:Nat) (s:St):St:=⟨o+s.p,s.k,s.x⟩
theorem z5q (b:Nat->Bool) (o p k:Nat):num (shB b o) p k=num b (o+p) k:=by
 unfold num shB;simp only [Nat.add_assoc]
theorem y8i (b:Nat->Bool) (o p k:Nat):sgn (shB b o) p k=sgn b (o+p) k:=by
 unfold sgn;rw [z5q]
theorem y3h (b:Nat->Bool) (o:Nat):∀ m p,zrun (shB b o) m p=zrun b m (o+p)
 | 0,_=>rfl
 | m+1,p=>by
  have e:shB b o p=b (o+p):=rfl;unfold zrun;rw [e,y3h b o m (p+1),Nat.add_assoc]
theorem y7w {b:Nat->Bool} {o N:Nat} (ho:o<=N) (k p:Nat):rice b N k (o+p)=(rice (shB b o) (N - o) k p).map fun r=>(r.1,o+r.2):=by
 unfold rice;rw [y3h,z5q,show N - o - p=N - (o+p) by omega]
 by_cases h:o+p+zrun b (N - (o+p)) (o+p)+1+k<=N
 . rw [if_pos h,if_pos (by omega)]
   simp only [Option.map_some]
   congr 2
   . congr 3;omega
   . omega
 . rw [if_neg h,if_neg (by omega)];rfl
def Job.sh (J:Job) (o:Nat):Job:=⟨shB J.b o,J.N - o,J.w,J.kind,J.a,J.c,J.size⟩
theorem Job.rdK_sh {J:Job} {o:Nat} (ho:o<=J.N) (s:St):J.rdK (shS o s)=((J.sh o).rdK s).map (shS o):=by
 unfold Job.rdK Job.sh shS;simp only [z5q]
 by_cases h:o+s.p+4<=J.N/\num J.b (o+s.p) 4<=14
 . rw [if_pos h,if_pos ⟨by omega,h.2⟩]
   simp only [Option.map_some];rw [Nat.add_assoc]
 . rw [if_neg h,if_neg (fun hh=>h ⟨by omega,hh.2⟩)];rfl
theorem Job.plc_sh {J:Job} {o:Nat} (ho:o<=J.N) (i:Nat) (s:St):J.plc i (shS o s)=((J.sh o).plc i s).map (shS o):=by
 unfold Job.plc;have e1:(J.sh o).kind=J.kind:=rfl
 by_cases hi:i < ord J.kind
 . rw [if_pos hi,if_pos (by rw [e1];exact hi)];rfl
 . rw [if_neg hi,if_neg (by rw [e1];exact hi)]
   have e2:rice J.b J.N (shS o s).k (shS o s).p=(rice (J.sh o).b (J.sh o).N s.k s.p).map fun r=>(r.1,o+r.2):=y7w ho s.k s.p
   rw [e2];cases hr:rice (J.sh o).b (J.sh o).N s.k s.p with
   | none=>rfl
   | some r =>
    obtain ⟨v,p'⟩:=r;simp only [Option.map_some]
    show (if fitsB J.w (z0z J.kind J.a J.c s.x i+v)=true then _ else _)=Option.map _ (if fitsB J.w (z0z J.kind J.a J.c s.x i+v)=true then _ else _)
    by_cases hf:fitsB J.w (z0z J.kind J.a J.c s.x i+v)=true
    . rw [if_pos hf,if_pos hf];rfl
    . rw [if_neg hf,if_neg hf];rfl
theorem Job.R_sh {J:Job} {o:Nat} (ho:o<=J.N) (s0:St):∀ i,J.R (shS o s0) i=((J.sh o).R s0 i).map (shS o)
 | 0=>rfl
 | i+1=>by
  unfold Job.R;rw [Job.R_sh ho s0 i];cases h:(J.sh o).R s0 i with
  | none=>rfl
  | some s =>
   simp only [Option.map_some,Option.bind_some];have e:(J.sh o).size=J.size:=rfl;rw [e]
   by_cases hm:i % J.size=0
   . rw [if_pos hm,if_pos hm,Job.rdK_sh ho]
     cases h2:(J.sh o).rdK s with
     | none=>rfl
     | some s2=>simp only [Option.map_some,Option.bind_some];exact Job.plc_sh ho i s2
   . rw [if_neg hm,if_neg hm]
     simp only [Option.bind_some];exact Job.plc_sh ho i s
theorem z6K {b:Nat->Bool} {o N:Nat} (ho:o<=N) (d kind:Nat) (a c:Int) (n p:Nat) (x0:Nat->Int):z0G b N d kind a c n (o+p) x0=(z0G (shB b o) (N - o) d kind a c n p x0).map (shS o):=by
 unfold z0G;rw [z5q]
 by_cases h:o+p+2<=N/\cutB n (ord kind) (num b (o+p) 2)=true
 . rw [if_pos h,if_pos ⟨by omega,h.2⟩]
   have e1:(z1O b N d kind a c n (o+p)).sh o=z1O (shB b o) (N - o) d kind a c n p:=by
    unfold z1O Job.sh;simp only [z5q]
   have e2:(⟨o+p+2,0,x0⟩:St)=shS o ⟨p+2,0,x0⟩:=by unfold shS;simp only [Nat.add_assoc]
   rw [e2,Job.R_sh (J:=z1O b N d kind a c n (o+p)) ho,e1]
 . rw [if_neg h,if_neg (fun hh=>h ⟨by omega,hh.2⟩)];rfl
theorem y7x (o p d i:Nat):posn (o+p) d i=o+posn p d i:=by unfold posn;omega
theorem y3i {b:Nat->Bool} {o N:Nat} (ho:o<=N) (kind d n p:Nat):z0E b N kind d n (o+p)=(z0E (shB b o) (N - o) kind d n p).map fun r=>(r.1,o+r.2):=by
 unfold z0E;simp only [y8i,y7x]
 by_cases h0:kind=0
 . rw [if_pos h0,if_pos h0]
   by_cases h:o+p+d<=N
   . rw [if_pos h,if_pos (by omega)];simp only [Option.map_some,Nat.add_assoc]
   . rw [if_neg h,if_neg (by omega)];rfl
 . rw [if_neg h0,if_neg h0]
   by_cases h1:kind=1
   . rw [if_pos h1,if_pos h1]
     by_cases h:o+posn p d n<=N
     . rw [if_pos h,if_pos (by omega)];rfl
     . rw [if_neg h,if_neg (by omega)];rfl
   . rw [if_neg h1,if_neg h1]
     by_cases h2:7 < kind∨n<=ord kind
     . rw [if_pos h2,if_pos h2];rfl
     . rw [if_neg h2,if_neg h2]
       by_cases h:o+posn p d (ord kind)<=N
       . rw [if_pos h,if_pos (show posn p d (ord kind)<=N - o by omega)]
         by_cases h7:kind=7
         . rw [if_pos h7,if_pos h7]
           by_cases hh:o+posn p d (ord kind)+12<=N
           . rw [if_pos hh,if_pos (show posn p d (ord kind)+12<=N - o by omega),Nat.add_assoc o,Nat.add_assoc o,z6K ho]
             cases z0G (shB b o) (N - o) d kind (sgn b (o+posn p d (ord kind)) 6) (sgn b (o+(posn p d (ord kind)+6)) 6) n (posn p d (ord kind)+12) (fun i=>sgn b (o+posn p d i) d) <;> rfl
           . rw [if_neg hh,if_neg (show ¬ posn p d (ord kind)+12<=N - o by omega)];rfl
         . rw [if_neg h7,if_neg h7,z6K ho]
           cases z0G (shB b o) (N - o) d kind 0 0 n (posn p d (ord kind)) (fun i=>sgn b (o+posn p d i) d) <;> rfl
       . rw [if_neg h,if_neg (show ¬ posn p d (ord kind)<=N - o by omega)];rfl
def z2G (b:Nat->Bool) (N o width n:Nat):Option ((Nat->Int) × Nat) :=
 if o+8<=N/\num b (o+4) 4 < width then (z0E b N (num b o 4) (width - num b (o+4) 4) n (o+8)).map fun xp=>(fun i=>xp.1 i * 2 ^ num b (o+4) 4,xp.2) else none
theorem z2P {b:Nat->Bool} {o N:Nat} (ho:o<=N) (width n:Nat):z2G b N o width n=(z1c (shB b o) (N - o) width n).map fun r=>(r.1,o+r.2):=by
 unfold z2G z1c;rw [z5q,z5q,Nat.add_zero,y3i ho]
 by_cases h:o+8<=N/\num b (o+4) 4 < width
 . rw [if_pos h,if_pos ⟨by omega,h.2⟩]
   cases z0E (shB b o) (N - o) (num b o 4) (width - num b (o+4) 4) n 8 <;> rfl
 . rw [if_neg h,if_neg (fun hh=>h ⟨by omega,hh.2⟩)];rfl
def binT (v:Int) (k:Nat):List UInt8:=(List.range k).map fun i=>ltr (decide (v / 2 ^ (k - 1 - i) % 2=1))
theorem z0i (v:Int) (k:Nat):(binT v k).length=k:=by simp [binT]
def foldN (v:Int):Nat:=if 0<=v then (2 * v).toNat else (-2 * v - 1).toNat
theorem z5r (v:Int):(foldN v:Int)=if 0<=v then 2 * v else -2 * v - 1:=by
 unfold foldN;split <;> omega
theorem y1c (v:Int) (m:Nat) (h:-(m:Int)<=v/\v<=m):foldN v<=2 * m:=by
 have:=z5r v;split at this <;> omega
def riceT (f k:Nat):List UInt8:=List.replicate (f / 2 ^ k) 48 ++ [49] ++ binT f k
def riceL (f k:Nat):Nat:=f / 2 ^ k+1+k
theorem z8D (f k:Nat):(riceT f k).length=riceL f k:=by simp [riceT,riceL,z0i];omega
def z1i (f:Nat->Nat) (k lo:Nat):Nat->List UInt8
 | 0=>[]
 | m+1=>z1i f k lo m ++ riceT (f (lo+m)) k
def plen (f:Nat->Nat) (k lo:Nat):Nat->Nat
 | 0=>0
 | m+1=>plen f k lo m+riceL (f (lo+m)) k
theorem z1o (f:Nat->Nat) (k lo:Nat):∀ m,(z1i f k lo m).length=plen f k lo m
 | 0=>rfl
 | m+1=>by simp [z1i,plen,z1o f k lo m,z8D]
theorem y1d (f k M:Nat) (h:f<=M) (hk:k<=14):riceL f k<=M+15:=by
 have:f / 2 ^ k<=f:=Nat.div_le_self _ _;unfold riceL;omega
theorem z4t (f:Nat->Nat) (k lo M:Nat) (hk:k<=14):∀ m,(∀ i,i < m->f (lo+i)<=M)->plen f k lo m<=m * (M+15)
 | 0,_=>by simp [plen]
 | m+1,h=>by
  have h1:=z4t f k lo M hk m (fun i hi=>h i (by omega));have h2:=y1d (f (lo+m)) k M (h m (by omega)) hk;simp only [plen];rw [Nat.succ_mul];omega
def z2n (g:Nat->Nat):Nat->Nat
 | 0=>0
 | k+1=>if g (k+1) < g (z2n g k) then k+1 else z2n g k
theorem z5s (g:Nat->Nat):∀ k,z2n g k<=k
 | 0=>Nat.le_refl _
 | k+1=>by
  have:=z5s g k;unfold z2n;split <;> omega
def parK (f:Nat->Nat) (lo m:Nat):Nat:=z2n (fun k=>plen f k lo m) 14
theorem z7r (f:Nat->Nat) (lo m:Nat):parK f lo m<=14:=z5s _ _
def ploN (o sz i:Nat):Nat:=max (i * sz) o
def pcnt (o sz i:Nat):Nat:=(i+1) * sz - ploN o sz i
def parN (f:Nat->Nat) (o sz i:Nat):Nat:=parK f (ploN o sz i) (pcnt o sz i)
def z0K (f:Nat->Nat) (o sz:Nat):Nat->List UInt8
 | 0=>[]
 | i+1=>z0K f o sz i ++ (binT (parN f o sz i) 4 ++ z1i f (parN f o sz i) (ploN o sz i) (pcnt o sz i))
def z0L (f:Nat->Nat) (o sz:Nat):Nat->Nat
 | 0=>0
 | i+1=>z0L f o sz i+(4+plen f (parN f o sz i) (ploN o sz i) (pcnt o sz i))
theorem z0Y (f:Nat->Nat) (o sz:Nat):∀ i,(z0K f o sz i).length=z0L f o sz i
 | 0=>rfl
 | i+1=>by simp [z0K,z0L,z0Y f o sz i,z1o,z0i]
theorem z3A (f:Nat->Nat) (o sz:Nat) {i:Nat}:∀ {j:Nat},i<=j->z0L f o sz i<=z0L f o sz j
 | 0,h=>by
              have:i=0:=by omega
              subst this;exact Nat.le_refl _
 | j+1,h=>by
  by_cases e:i=j+1
  . subst e;exact Nat.le_refl _
  . have:=z3A f o sz (i:=i) (j:=j) (by omega)
    simp only [z0L];omega
def okC (n o c:Nat):Bool:=decide (n / 2 ^ c * 2 ^ c=n) && decide (o < n / 2 ^ c)
theorem y1e {n o:Nat} (h:o < n):okC n o 0=true:=by simp [okC,h]
theorem y5y {n o c:Nat} (h:okC n o (c+1)=true):okC n o c=true:=by
 simp only [okC,Bool.and_eq_true,decide_eq_true_eq] at h ⊢;obtain ⟨h1,h2⟩:=h;have e:n / 2 ^ (c+1)=n / 2 ^ c / 2:=by rw [Nat.pow_succ,Nat.div_div_eq_div_mul]
 have e2:2 ^ (c+1)=2 * 2 ^ c:=by rw [Nat.pow_succ,Nat.mul_comm]
 refine ⟨?_,?_⟩
 . have hd:2 ^ c ∣ n:=by
     refine ⟨n / 2 ^ (c+1) * 2,?_⟩;rw [← Nat.mul_assoc,Nat.mul_comm (2 ^ c),Nat.mul_assoc,Nat.mul_comm (2 ^ c) 2,← e2];exact h1.symm
   exact Nat.div_mul_cancel hd
 . rw [e] at h2
   have:=Nat.div_le_self (n / 2 ^ c) 2;omega
theorem z8E {n o c:Nat} (h:okC n o c=false):∀ {d:Nat},c<=d->okC n o d=false
 | 0,hd=>by
               have:c=0:=by omega
               subst this;exact h
 | d+1,hd=>by
  by_cases e:c=d+1
  . subst e;exact h
  . have:=z8E h (d:=d) (by omega)
    cases hx:okC n o (d+1) with
    | false=>rfl
    | true=>rw [y5y hx] at this;cases this
def cutL (f:Nat->Nat) (o n c:Nat):Nat:=2+z0L f o (n / 2 ^ c) (2 ^ c)
def cutT (f:Nat->Nat) (o n c:Nat):List UInt8:=binT c 2 ++ z0K f o (n / 2 ^ c) (2 ^ c)
theorem z9U (f:Nat->Nat) (o n c:Nat):(cutT f o n c).length=cutL f o n c:=by simp [cutT,cutL,z0i,z0Y]
def bestC (f:Nat->Nat) (o n:Nat):Nat->Nat
 | 0=>0
 | c+1=>if okC n o (c+1)=true/\cutL f o n (c+1) < cutL f o n (bestC f o n c) then c+1 else bestC f o n c
theorem z3i (f:Nat->Nat) (o n:Nat):∀ c,bestC f o n c<=c
 | 0=>Nat.le_refl _
 | c+1=>by
  have:=z3i f o n c;unfold bestC;split <;> omega
theorem z6L (f:Nat->Nat) (o n:Nat) {c:Nat} (h:okC n o (c+1)=false):∀ {d:Nat},c<=d->bestC f o n d=bestC f o n c
 | 0,hd=>by
               have:c=0:=by omega
               subst this;rfl
 | d+1,hd=>by
  by_cases e:c=d+1
  . subst e;rfl
  . have h2:=z8E h (d:=d+1) (by omega)
    rw [bestC,if_neg (by rw [h2];simp)];exact z6L f o n h (by omega)
theorem z3j (f:Nat->Nat) (o n:Nat) (h:o < n):∀ c,okC n o (bestC f o n c)=true
 | 0=>y1e h
 | c+1=>by
  unfold bestC;split
  . rename_i hh;exact hh.1
  . exact z3j f o n h c
def lag (x:Nat->Int) (k:Nat):Nat->Int
 | 0=>0
 | m+1=>lag x k m+(if k<=m then x m * x (m - k) else 0)
theorem mulBd {u v:Int} {a b:Nat} (hu:-(a:Int)<=u/\u<=a) (hv:-(b:Int)<=v/\v<=b):-((a * b:Nat):Int)<=u * v/\u * v<=((a * b:Nat):Int):=by
 have h:=Int.natAbs_mul u v;have h1:u.natAbs<=a:=by omega
 have h2:v.natAbs<=b:=by omega
 have h3:u.natAbs * v.natAbs<=a * b:=Nat.mul_le_mul h1 h2;omega
theorem z8F (x:Nat->Int) (k:Nat):∀ m:Nat,(∀ i,i < m->-4096<=x i/\x i<=4096)->-16777216 * (m:Int)<=lag x k m/\lag x k m<=16777216 * (m:Int)
 | 0,_=>by simp [lag]
 | m+1,h=>by
  have h1:=z8F x k m (fun i hi=>h i (by omega));simp only [lag];split
  . have h2:=mulBd (a:=4096) (b:=4096) (h m (by omega)) (h (m - k) (by omega))
    have e:((4096 * 4096:Nat):Int)=16777216:=rfl;rw [e] at h2;omega
  . omega
def leanD (x:Nat->Int) (n:Nat):Int:=lag x 0 n * lag x 0 n - lag x 1 n * lag x 1 n
def clamp (v:Int):Int:=if v < -32 then -32 else if 31 < v then 31 else v
theorem z5b (v:Int):-32<=clamp v/\clamp v<=31:=by unfold clamp;split <;> (try split) <;> omega
def leanA (x:Nat->Int) (n:Nat):Int:=clamp (8 * lag x 1 n * (lag x 0 n - lag x 2 n) / leanD x n)
def leanB (x:Nat->Int) (n:Nat):Int:=clamp (8 * (lag x 0 n * lag x 2 n - lag x 1 n * lag x 1 n) / leanD x n)
def numsT (x:Nat->Int) (w:Nat):Nat->List UInt8
 | 0=>[]
 | m+1=>numsT x w m ++ binT (x m) w
theorem z0v (x:Nat->Int) (w:Nat):∀ m,(numsT x w m).length=m * w
 | 0=>by simp [numsT]
 | m+1=>by simp [numsT,z0v x w m,z0i,Nat.succ_mul]
def wA (kind:Nat) (x:Nat->Int) (n:Nat):Int:=if kind=7 then leanA x n else 0
def wB (kind:Nat) (x:Nat->Int) (n:Nat):Int:=if kind=7 then leanB x n else 0
theorem wA_bd (kind:Nat) (x:Nat->Int) (n:Nat):-32<=wA kind x n/\wA kind x n<=31:=by
 unfold wA;split
 . exact z5b _
 . omega
theorem wB_bd (kind:Nat) (x:Nat->Int) (n:Nat):-32<=wB kind x n/\wB kind x n<=31:=by
 unfold wB;split
 . exact z5b _
 . omega
def fR (kind:Nat) (x:Nat->Int) (n i:Nat):Nat:=foldN (x i - z0z kind (wA kind x n) (wB kind x n) x i)
def bC (kind:Nat) (x:Nat->Int) (n:Nat):Nat:=bestC (fR kind x n) (ord kind) n 3
def gT (kind w:Nat) (x:Nat->Int) (n:Nat):List UInt8 :=
 numsT x w (ord kind) ++ ((if kind=7 then binT (leanA x n) 6 ++ binT (leanB x n) 6 else []) ++ cutT (fR kind x n) (ord kind) n (bC kind x n))
def gL (kind w:Nat) (x:Nat->Int) (n:Nat):Nat:=ord kind * w+(if kind=7 then 12 else 0)+cutL (fR kind x n) (ord kind) n (bC kind x n)
theorem y3j (kind w:Nat) (x:Nat->Int) (n:Nat):(gT kind w x n).length=gL kind w x n:=by
 unfold gT gL;simp only [List.length_append,z0v,z9U];split <;> simp [z0i] <;> omega
def z2i (x:Nat->Int) (n:Nat):Bool:=(List.range n).all fun i=>decide (x i=x 0)
theorem z3B (x:Nat->Int) (n:Nat):z2i x n=true↔∀ i,i < n->x i=x 0:=by simp [z2i]
def okG (kind:Nat) (x:Nat->Int) (n:Nat):Bool:=decide (ord kind < n) && (decide (kind ≠ 7) || decide (0 < leanD x n))
def bodyT (kind w:Nat) (x:Nat->Int) (n:Nat):List UInt8:=if kind=0 then binT (x 0) w else if kind=1 then numsT x w n else gT kind w x n
def bodyL (kind w:Nat) (x:Nat->Int) (n:Nat):Nat:=if kind=0 then w else if kind=1 then n * w else gL kind w x n
theorem z8G (kind w:Nat) (x:Nat->Int) (n:Nat):(bodyT kind w x n).length=bodyL kind w x n:=by
 unfold bodyT bodyL;split
 . exact z0i _ _
 . split
   . exact z0v _ _ _
   . exact y3j _ _ _ _
def bestK (w:Nat) (x:Nat->Int) (n:Nat):Nat->Nat
 | 0=>if z2i x n then 0 else 1
 | j+1=>if okG (j+2) x n=true/\bodyL (j+2) w x n < bodyL (bestK w x n j) w x n then j+2 else bestK w x n j
theorem z3Q (w:Nat) (x:Nat->Int) (n:Nat):∀ j,bestK w x n j<=j+1
 | 0=>by unfold bestK;split <;> omega
 | j+1=>by
  have:=z3Q w x n j;unfold bestK;split <;> omega
theorem z3R (w:Nat) (x:Nat->Int) (n:Nat):∀ j,2<=bestK w x n j->okG (bestK w x n j) x n=true
 | 0,h=>by unfold bestK at h;split at h <;> omega
 | j+1,h=>by
  unfold bestK at h ⊢;split
  . rename_i hh;exact hh.1
  . rename_i hh;rw [if_neg hh] at h;exact z3R w x n j h
def z2Q (l:Nat->Int) (n k:Nat):Bool:=(List.range n).all fun i=>decide (l i % 2 ^ k=0)
def anyNz (l:Nat->Int) (n:Nat):Bool:=(List.range n).any fun i=>decide (l i ≠ 0)
def z2H (l:Nat->Int) (n:Nat):Nat->Nat
 | 0=>0
 | k+1=>if (z2Q l n (k+1) && anyNz l n)=true then k+1 else z2H l n k
theorem z2R (l:Nat->Int) (n:Nat):∀ k,z2H l n k<=k
 | 0=>Nat.le_refl _
 | k+1=>by
  have:=z2R l n k;unfold z2H;split <;> omega
theorem z3k (l:Nat->Int) (n k:Nat):z2Q l n k=true↔∀ i,i < n->l i % 2 ^ k=0:=by simp [z2Q]
theorem z6M (l:Nat->Int) (n:Nat):∀ k i,i < n->l i % 2 ^ (z2H l n k)=0
 | 0,i,hi=>by simp [z2H,Int.emod_one]
 | k+1,i,hi=>by
  unfold z2H;split
  . rename_i h
    rw [Bool.and_eq_true] at h;exact (z3k l n (k+1)).1 h.1 i hi
  . exact z6M l n k i hi
def z0C (l:Nat->Int) (n width:Nat):Nat:=z2H l n (width - 1)
def z1w (l:Nat->Int) (n width:Nat) (i:Nat):Int:=l i / 2 ^ (z0C l n width)
def z2S (width:Nat) (l:Nat->Int) (n:Nat):Nat:=bestK (width - z0C l n width) (z1w l n width) n 6
def subT (width:Nat) (l:Nat->Int) (n:Nat):List UInt8 :=
 binT (z2S width l n) 4 ++ (binT (z0C l n width) 4 ++ bodyT (z2S width l n) (width - z0C l n width) (z1w l n width) n)
def Agree (b b':Nat->Bool) (N:Nat):Prop:=∀ i,i < N->b i=b' i
theorem z5t {f g:Nat->Bool}:∀ n,(∀ i,i < n->f i=g i)->z0I f n=z0I g n
 | 0,_=>rfl
 | n+1,h=>by simp only [z0I];rw [z5t n (fun i hi=>h i (by omega)),h n (by omega)]
theorem z3C {b b':Nat->Bool} {N p k:Nat} (h:Agree b b' N) (hp:p+k<=N):num b p k=num b' p k :=
 z5t k (fun i hi=>h (p+i) (by omega))
theorem z9V {b b':Nat->Bool} {N p k:Nat} (h:Agree b b' N) (hp:p+k<=N):sgn b p k=sgn b' p k:=by
 unfold sgn;rw [z3C h hp]
theorem y5z {b b':Nat->Bool} {N M k p:Nat} {r:Int × Nat} (h:Agree b b' N) (hNM:N<=M) (hr:rice b N k p=some r):rice b' M k p=some r/\r.2<=N/\p<=r.2:=by
 unfold rice at hr;split at hr
 . rename_i hle
   simp only [Option.some.injEq] at hr;have hz:zrun b' (M - p) p=zrun b (N - p) p:=by
    have h1:=z5m b (N - p) p;have hlt:zrun b (N - p) p < N - p:=by omega
    refine y3b b' (M - p) p _ (by omega) (fun i hi=>?_) (fun _=>?_)
    . rw [← h (p+i) (by omega)];exact z5n b (N - p) p i hi
    . rw [← h (p+zrun b (N - p) p) (by omega)];exact z7o b (N - p) p hlt
   unfold rice;rw [hz,if_pos (by omega),← z3C h (p:=p+zrun b (N - p) p+1) (k:=k) (by omega)];subst hr;exact ⟨rfl,hle,by simp only;omega⟩
 . cases hr
structure JobExt (J K:Job):Prop where
 ag:Agree J.b K.b J.N
 le:J.N<=K.N
 w:K.w=J.w
 kind:K.kind=J.kind
 a:K.a=J.a
 c:K.c=J.c
 size:K.size=J.size
theorem JobExt.rdK {J K:Job} (h:JobExt J K) {s t:St} (hr:J.rdK s=some t):K.rdK s=some t/\t.p<=J.N:=by
 unfold Job.rdK at hr;split at hr
 . rename_i hh
   simp only [Option.some.injEq] at hr;subst hr;have e:=z3C h.ag (p:=s.p) (k:=4) hh.1;unfold Job.rdK;have hle:=h.le;rw [← e,if_pos ⟨by omega,hh.2⟩];exact ⟨rfl,hh.1⟩
 . cases hr
structure Sim (m:Nat) (s t:St):Prop where
 p:t.p=s.p
 k:t.k=s.k
 x:∀ j,j < m->t.x j=s.x j
theorem z6N {kind:Nat} {a c:Int} {x y:Nat->Int} {i:Nat} (h:∀ j,j < i->y j=x j) (ho:ord kind<=i):z0z kind a c y i=z0z kind a c x i:=by
 unfold z0z;rw [z4r (ord kind) (fun _ _=>rfl) (fun j hj=>h (i - 1 - j) (by omega))]
theorem JobExt.rdK' {J K:Job} (h:JobExt J K) {m:Nat} {s t s':St} (hs:Sim m s t) (hr:J.rdK s=some s'):∃ t',K.rdK t=some t'/\Sim m s' t'/\s'.p<=J.N:=by
 unfold Job.rdK at hr;split at hr
 . rename_i hh
   simp only [Option.some.injEq] at hr;subst hr;have e:=z3C h.ag (p:=s.p) (k:=4) hh.1;have hle:=h.le;refine ⟨⟨s.p+4,num J.b s.p 4,t.x⟩,?_,⟨rfl,rfl,hs.x⟩,hh.1⟩;unfold Job.rdK;rw [hs.p,← e,if_pos ⟨by omega,hh.2⟩]
 . cases hr
theorem JobExt.plc {J K:Job} (h:JobExt J K) {i:Nat} {s t s':St} (hs:Sim (max i (ord J.kind)) s t) (hp:s.p<=J.N) (hr:J.plc i s=some s'):∃ t',K.plc i t=some t'/\Sim (max (i+1) (ord J.kind)) s' t'/\s'.p<=J.N:=by
 unfold Job.plc at hr ⊢;rw [h.kind,h.a,h.c,h.w,hs.p,hs.k];split at hr
 . rename_i hi
   simp only [Option.some.injEq] at hr;subst hr;rw [if_pos hi];exact ⟨t,rfl,⟨hs.p,hs.k,fun j hj=>hs.x j (by omega)⟩,hp⟩
 . rename_i hi
   rw [if_neg hi,z6N (x:=s.x) (fun j hj=>hs.x j (by omega)) (by omega)];cases hx:rice J.b J.N s.k s.p with
   | none=>rw [hx] at hr;cases hr
   | some r =>
    obtain ⟨v,p'⟩:=r;obtain ⟨h1,h2,_⟩:=y5z h.ag h.le hx;rw [hx] at hr;rw [h1];simp only at hr ⊢;split at hr
    . rename_i hf
      simp only [Option.some.injEq] at hr;subst hr;rw [if_pos hf];refine ⟨_,rfl,⟨rfl,rfl,fun j hj=>?_⟩,h2⟩;simp only [updI]
      by_cases e:j=i
      . rw [if_pos e,if_pos e]
      . rw [if_neg e,if_neg e];exact hs.x j (by omega)
    . cases hr
theorem JobExt.R {J K:Job} (h:JobExt J K) {s0 t0:St} (h0:Sim (ord J.kind) s0 t0) (hp:s0.p<=J.N):∀ i s,J.R s0 i=some s->∃ t,K.R t0 i=some t/\Sim (max i (ord J.kind)) s t/\s.p<=J.N
 | 0,s,hr=>by
  simp only [Job.R,Option.some.injEq] at hr ⊢;subst hr;exact ⟨t0,rfl,⟨h0.p,h0.k,fun j hj=>h0.x j (by omega)⟩,hp⟩
 | i+1,s',hr=>by
  simp only [Job.R] at hr ⊢;cases h1:J.R s0 i with
  | none=>rw [h1] at hr;cases hr
  | some s =>
   obtain ⟨t,e1,m1,p1⟩:=h.R h0 hp i s h1;rw [h1,Option.bind_some] at hr;rw [e1,Option.bind_some,h.size]
   by_cases hm:i % J.size=0
   . rw [if_pos hm] at hr ⊢
     cases h2:J.rdK s with
     | none=>rw [h2] at hr;cases hr
     | some s2 =>
      obtain ⟨t2,e2,m2,p2⟩:=h.rdK' m1 h2;rw [h2,Option.bind_some] at hr;rw [e2,Option.bind_some];exact h.plc m2 p2 hr
   . rw [if_neg hm,Option.bind_some] at hr ⊢
     exact h.plc m1 p1 hr
theorem z5u {b b':Nat->Bool} {N M d kind:Nat} {a c:Int} {n p:Nat} {x0 y0:Nat->Int} {s:St} (h:Agree b b' N) (hNM:N<=M) (hxy:∀ j,j < ord kind->y0 j=x0 j) (hr:z0G b N d kind a c n p x0=some s) :
 ∃ t,z0G b' M d kind a c n p y0=some t/\Sim (max n (ord kind)) s t/\s.p<=N:=by
 unfold z0G at hr;split at hr
 . rename_i hh
   have e:=z3C h (p:=p) (k:=2) hh.1;unfold z0G;rw [← e,if_pos ⟨by omega,hh.2⟩];exact JobExt.R (J:=z1O b N d kind a c n p) (K:=z1O b' M d kind a c n p) ⟨h,hNM,rfl,rfl,rfl,rfl,by unfold z1O;rw [e]⟩ (s0:=⟨p+2,0,x0⟩) (t0:=⟨p+2,0,y0⟩) ⟨rfl,rfl,hxy⟩ (show p+2<=N from hh.1) n s hr
 . cases hr
theorem y2d {b b':Nat->Bool} {N M kind d n p:Nat} {r:(Nat->Int) × Nat} (h:Agree b b' N) (hNM:N<=M) (hr:z0E b N kind d n p=some r):∃ r',z0E b' M kind d n p=some r'/\r'.2=r.2/\r.2<=N:=by
 unfold z0E at hr ⊢
 by_cases h0:kind=0
 . rw [if_pos h0] at hr ⊢
   split at hr
   . rename_i hh
     simp only [Option.some.injEq] at hr;subst hr;rw [if_pos (by omega)];exact ⟨_,rfl,rfl,hh⟩
   . cases hr
 . rw [if_neg h0] at hr ⊢
   by_cases h1:kind=1
   . rw [if_pos h1] at hr ⊢
     split at hr
     . rename_i hh
       simp only [Option.some.injEq] at hr;subst hr;rw [if_pos (by omega)];exact ⟨_,rfl,rfl,hh⟩
     . cases hr
   . rw [if_neg h1] at hr ⊢
     split at hr
     . cases hr
     . rename_i h2
       rw [if_neg h2];split at hr
       . rename_i h3
         rw [if_pos (by omega)];have hx:∀ i,i < ord kind->sgn b' (posn p d i) d=sgn b (posn p d i) d:=fun i hi=>(z9V h (by
          have:=y3g p d (show i+1<=ord kind from hi);rw [z3N] at this;omega)).symm
         by_cases h7:kind=7
         . rw [if_pos h7] at hr ⊢
           split at hr
           . rename_i h4
             rw [if_pos (by omega),← z9V h (p:=posn p d (ord kind)) (k:=6) (by omega),← z9V h (p:=posn p d (ord kind)+6) (k:=6) (by omega)];obtain ⟨s,hs,rfl⟩:=Option.map_eq_some_iff.1 hr;obtain ⟨t,ht,hsim,hsp⟩:=z5u h hNM hx hs;exact ⟨(t.x,t.p),by rw [ht];rfl,hsim.p,hsp⟩
           . cases hr
         . rw [if_neg h7] at hr ⊢
           obtain ⟨s,hs,rfl⟩:=Option.map_eq_some_iff.1 hr;obtain ⟨t,ht,hsim,hsp⟩:=z5u h hNM hx hs;exact ⟨(t.x,t.p),by rw [ht];rfl,hsim.p,hsp⟩
       . cases hr
theorem y2e {b b':Nat->Bool} {N M width n:Nat} {r:(Nat->Int) × Nat} (h:Agree b b' N) (hNM:N<=M) (hr:z1c b N width n=some r):∃ r',z1c b' M width n=some r'/\r'.2=r.2/\r.2<=N:=by
 unfold z1c at hr;split at hr
 . rename_i hh
   obtain ⟨s,hs,rfl⟩:=Option.map_eq_some_iff.1 hr;have e0:=z3C h (p:=0) (k:=4) (by omega);have e4:=z3C h (p:=4) (k:=4) (by omega);obtain ⟨t,ht,h1,h2⟩:=y2d h hNM hs;unfold z1c;rw [← e0,← e4,if_pos ⟨by omega,hh.2⟩,ht];exact ⟨_,rfl,h1,h2⟩
 . cases hr
def SaysT (b:Nat->Bool) (p:Nat) (T:List UInt8):Prop:=∀ i (h:i < T.length),T[i]=ltr (b (p+i))
theorem SaysT.left {b:Nat->Bool} {p:Nat} {T U:List UInt8} (h:SaysT b p (T ++ U)):SaysT b p T:=fun i hi=>by
 have:=h i (by rw [List.length_append];omega);rw [List.getElem_append_left hi] at this;exact this
theorem SaysT.right {b:Nat->Bool} {p:Nat} {T U:List UInt8} (h:SaysT b p (T ++ U)):SaysT b (p+T.length) U:=fun i hi=>by
 have:=h (T.length+i) (by rw [List.length_append];omega);rw [List.getElem_append_right (by omega)] at this;simp only [Nat.add_sub_cancel_left] at this;rw [this,Nat.add_assoc]
theorem z9W {a b:Bool} (h:ltr a=ltr b):a=b:=by cases a <;> cases b <;> first | rfl | (exact absurd h (by decide))
theorem y5A {b:Nat->Bool} {p:Nat} {v:Int} {k:Nat} (h:SaysT b p (binT v k)) (i:Nat) (hi:i < k):b (p+i)=decide (v / 2 ^ (k - 1 - i) % 2=1):=by
 have:=h i (by rw [z0i];exact hi);unfold binT at this;simp only [List.getElem_map,List.getElem_range] at this;exact (z9W this).symm
theorem z8H (v:Int) (k:Nat):v % (2 * 2 ^ k)=v % 2+2 * (v / 2 % 2 ^ k):=by
 have hp:(0:Int) < 2 ^ k:=by
  have h:0 < 2 ^ k:=Nat.two_pow_pos k;have e:((2 ^ k:Nat):Int)=(2:Int) ^ k:=by simp
  omega
 have h1:=Int.emod_add_mul_ediv v 2;have h2:=Int.emod_add_mul_ediv (v / 2) (2 ^ k);have h3:=Int.emod_nonneg (v / 2) (Int.ne_of_gt hp);have h4:=Int.emod_lt_of_pos (v / 2) hp;have e:v=(v % 2+2 * (v / 2 % 2 ^ k))+(2 * 2 ^ k) * (v / 2 / 2 ^ k):=by
  rw [Int.mul_assoc];omega
 have h5:(v % 2+2 * (v / 2 % 2 ^ k)) % (2 * 2 ^ k)=v % 2+2 * (v / 2 % 2 ^ k):=Int.emod_eq_of_lt (by omega) (by omega)
 calc v % (2 * 2 ^ k)=((v % 2+2 * (v / 2 % 2 ^ k))+(2 * 2 ^ k) * (v / 2 / 2 ^ k)) % (2 * 2 ^ k):=by rw [← e]
  _=(v % 2+2 * (v / 2 % 2 ^ k)) % (2 * 2 ^ k):=Int.add_mul_emod_self_left _ _ _
  _=_:=h5
theorem z5v (v:Int):∀ k (f:Nat->Bool),(∀ i,i < k->f i=decide (v / 2 ^ (k - 1 - i) % 2=1))->(z0I f k:Int)=v % 2 ^ k
 | 0,f,_=>by simp [z0I,Int.emod_one]
 | k+1,f,h=>by
  have ih:=z5v (v / 2) k f (fun i hi=>by
   rw [h i (by omega)]
   congr 2
   have e:k+1 - 1 - i=(k - 1 - i)+1:=by omega
   rw [e,Int.pow_succ,Int.mul_comm,← Int.ediv_ediv_of_nonneg (by omega)])
  have hl:=h k (by omega);simp only [Nat.add_sub_cancel,Nat.sub_self,Int.pow_zero,Int.ediv_one] at hl;simp only [z0I];rw [hl];have e2:(2:Int) ^ (k+1)=2 * 2 ^ k:=by rw [Int.pow_succ,Int.mul_comm]
  have e3:v % (2 * 2 ^ k)=v % 2+2 * (v / 2 % 2 ^ k):=z8H v k;rw [e2,e3,← ih]
  by_cases h1:v % 2=1
  . simp [h1];omega
  . have h0:v % 2=0:=by omega
    simp [h0]
theorem z9X {b:Nat->Bool} {p:Nat} {v:Int} {k:Nat} (h:SaysT b p (binT v k)):(num b p k:Int)=v % 2 ^ k:=z5v v k _ (fun i hi=>y5A h i hi)
theorem z5c {b:Nat->Bool} {p v k:Nat} (h:SaysT b p (binT v k)) (hv:v < 2 ^ k):num b p k=v:=by
 have e:=z9X h;have e2:((2 ^ k:Nat):Int)=(2:Int) ^ k:=by simp
 rw [Int.emod_eq_of_lt (by omega) (by rw [← e2];omega)] at e;omega
theorem z5w {b:Nat->Bool} {p:Nat} {v:Int} {k:Nat} (h:SaysT b p (binT v k)) (hk:1<=k) (hf:fitsB k v=true):sgn b p k=v:=by
 have e:=z9X h;unfold fitsB at hf;rw [z0h] at hf;obtain ⟨m,rfl⟩:∃ m,k=m+1:=⟨k - 1,by omega⟩;have e2:((2 ^ m:Nat):Int)=(2:Int) ^ m:=by simp
 have hp:0 < 2 ^ m:=Nat.two_pow_pos m;have e3:(2:Int) ^ (m+1)=2 * 2 ^ m:=by rw [Int.pow_succ,Int.mul_comm]
 unfold sgn;simp only [Nat.add_sub_cancel] at hf ⊢;rw [e3] at e ⊢;rw [← e2] at e hf ⊢;generalize 2 ^ m=q at *
 by_cases h0:0<=v
 . rw [Int.emod_eq_of_lt h0 (by omega)] at e
   rw [if_neg (by omega)];exact e
 . have e4:v % (2 * (q:Int))=v+2 * q:=by
     rw [← Int.add_mul_emod_self_left v (2 * (q:Int)) 1,Int.mul_one];exact Int.emod_eq_of_lt (by omega) (by omega)
   rw [e4] at e;rw [if_pos (by omega)];omega
theorem y5B (v:Int):unf (foldN v)=v:=by
 have h:=z5r v;unfold unf;split at h
 . rw [if_pos (by omega)];omega
 . rw [if_neg (by omega)];omega
theorem y3k {b:Nat->Bool} {N p f k:Nat} (h:SaysT b p (riceT f k)) (hN:p+riceL f k<=N):rice b N k p=some (unf f,p+riceL f k):=by
 unfold riceT at h;have h1:=h.left.left;have h2:=h.left.right;have h3:=h.right;rw [List.length_replicate] at h2;rw [List.length_append,List.length_replicate] at h3;unfold riceL at hN;have hz:zrun b (N - p) p=f / 2 ^ k:=by
  refine y3b b (N - p) p _ (by omega) (fun i hi=>?_) (fun _=>?_)
  . have:=h1 i (by rw [List.length_replicate];exact hi)
    rw [List.getElem_replicate] at this;exact (z9W (show ltr false=_ from this)).symm
  . have:=h2 0 (by simp)
    rw [Nat.add_zero] at this;exact (z9W (show ltr true=_ from this)).symm
 have hn:num b (p+f / 2 ^ k+1) k=f % 2 ^ k:=by
  have e:=z9X (b:=b) (p:=p+f / 2 ^ k+1) (v:=(f:Int)) (k:=k) (by rw [Nat.add_assoc];exact h3);have e2:((2 ^ k:Nat):Int)=(2:Int) ^ k:=by simp
  rw [← e2] at e;omega
 unfold rice;rw [hz,if_pos (by omega),hn]
 congr 2
 . congr 1
   have:=Nat.div_add_mod f (2 ^ k);rw [Nat.mul_comm] at this;exact this
 . unfold riceL;omega
theorem y1f {b:Nat->Bool} {p k lo:Nat} {f:Nat->Nat}:∀ {m j:Nat},SaysT b p (z1i f k lo m)->j < m->SaysT b (p+plen f k lo j) (riceT (f (lo+j)) k)
 | 0,j,_,hj=>absurd hj (Nat.not_lt_zero j)
 | m+1,j,h,hj=>by
  simp only [z1i] at h
  by_cases e:j=m
  . subst e
    have:=h.right;rw [z1o] at this;exact this
  . exact y1f h.left (by omega)
theorem y1g {b:Nat->Bool} {p o sz:Nat} {f:Nat->Nat}:∀ {m q:Nat},SaysT b p (z0K f o sz m)->q < m->SaysT b (p+z0L f o sz q) (binT (parN f o sz q) 4 ++ z1i f (parN f o sz q) (ploN o sz q) (pcnt o sz q))
 | 0,q,_,hq=>absurd hq (Nat.not_lt_zero q)
 | m+1,q,h,hq=>by
  simp only [z0K] at h
  by_cases e:q=m
  . subst e
    have:=h.right;rw [z0Y] at this;exact this
  . exact y1g h.left (by omega)
theorem z8I (f:Nat->Nat) (k lo:Nat) {i:Nat}:∀ {j:Nat},i<=j->plen f k lo i<=plen f k lo j
 | 0,h=>by
              have:i=0:=by omega
              subst this;exact Nat.le_refl _
 | j+1,h=>by
  by_cases e:i=j+1
  . subst e;exact Nat.le_refl _
  . have:=z8I f k lo (i:=i) (j:=j) (by omega)
    simp only [plen];omega
structure At (s:St) (p m:Nat) (x:Nat->Int):Prop where
 p:s.p=p
 x:∀ j,j < m->s.x j=x j
section
variable (J:Job) (x:Nat->Int) (n P p0:Nat) (f:Nat->Nat)
variable (hN:n=J.size * P) (ho:ord J.kind < J.size) (hfit:∀ j,j < n->fitsB J.w (x j)=true) (hf:∀ i,f i=foldN (x i - z0z J.kind J.a J.c x i))
variable (hT:SaysT J.b p0 (z0K f (ord J.kind) J.size P)) (hL:p0+z0L f (ord J.kind) J.size P<=J.N)
theorem y3l (s0 s:St) (q:Nat) (hq:q < P) (hR:J.R s0 (q * J.size)=some s) (hs:At s (p0+z0L f (ord J.kind) J.size q) (max (q * J.size) (ord J.kind)) x)
 (hfit:∀ j,j < n->fitsB J.w (x j)=true) (hN:n=J.size * P) (hf:∀ i,f i=foldN (x i - z0z J.kind J.a J.c x i)) (hT:SaysT J.b p0 (z0K f (ord J.kind) J.size P)) (hL:p0+z0L f (ord J.kind) J.size P<=J.N) (ho:ord J.kind < J.size) :
 ∀ t,t<=J.size->∃ s',J.U s0 (q * J.size) t=some s'/\s'.k=parN f (ord J.kind) J.size q /\
  At s' (p0+z0L f (ord J.kind) J.size q+4+plen f (parN f (ord J.kind) J.size q) (ploN (ord J.kind) J.size q) (q * J.size+t - ploN (ord J.kind) J.size q)) (max (q * J.size+t) (ord J.kind)) x:=by
 have hpart:=y1g hT hq;have hK:=hpart.left;have hC:=hpart.right;rw [z0i] at hC;have hK14:parN f (ord J.kind) J.size q<=14:=z7r _ _ _;have hmono:=z3A f (ord J.kind) J.size (i:=q+1) (j:=P) hq;have hsucc:z0L f (ord J.kind) J.size (q+1)=z0L f (ord J.kind) J.size q+(4+plen f (parN f (ord J.kind) J.size q) (ploN (ord J.kind) J.size q) (pcnt (ord J.kind) J.size q)):=rfl;have hqn:(q+1) * J.size<=n:=by
  rw [hN,Nat.mul_comm J.size P];exact Nat.mul_le_mul_right _ hq
 have hq1:(q+1) * J.size=q * J.size+J.size:=Nat.succ_mul _ _;have hpc:pcnt (ord J.kind) J.size q=q * J.size+J.size - ploN (ord J.kind) J.size q:=by unfold pcnt;rw [hq1]
 have hlo:ploN (ord J.kind) J.size q=max (q * J.size) (ord J.kind):=rfl;generalize parN f (ord J.kind) J.size q=K at *;generalize ploN (ord J.kind) J.size q=lo at *;generalize z0L f (ord J.kind) J.size q=L0 at *;intro t
 induction t with
 | zero =>
  intro _;refine ⟨⟨s.p+4,K,s.x⟩,?_,rfl,⟨?_,hs.x⟩⟩
  . simp only [Job.U]
    rw [hR,Option.bind_some];unfold Job.rdK;have hn:num J.b s.p 4=K:=by rw [hs.p];exact z5c hK (by omega)
    rw [hn,if_pos ⟨by rw [hs.p];omega,hK14⟩]
  . show s.p+4=_
    rw [hs.p,show q * J.size+0 - lo=0 by omega];rfl
 | succ t ih =>
  intro ht;obtain ⟨s',hU,hk,hat⟩:=ih (by omega);simp only [Job.U];rw [hU,Option.bind_some]
  by_cases hi:q * J.size+t < ord J.kind
  . refine ⟨s',?_,hk,⟨?_,fun j hj=>hat.x j (by omega)⟩⟩
    . unfold Job.plc;rw [if_pos hi]
    . rw [hat.p];congr 2;omega
  . have hin:q * J.size+t < n:=by omega
    have e1:lo+(q * J.size+t - lo)=q * J.size+t:=by omega
    have hrs:=y1f hC (j:=q * J.size+t - lo) (by omega);rw [e1] at hrs;have hpl:plen f K lo (q * J.size+(t+1) - lo)=plen f K lo (q * J.size+t - lo)+riceL (f (q * J.size+t)) K:=by
     rw [show q * J.size+(t+1) - lo=(q * J.size+t - lo)+1 by omega];simp only [plen];rw [e1]
    have hple:=z8I f K lo (i:=q * J.size+(t+1) - lo) (j:=pcnt (ord J.kind) J.size q) (by omega);have hrice:rice J.b J.N s'.k s'.p=some (unf (f (q * J.size+t)),s'.p+riceL (f (q * J.size+t)) K):=by
     rw [hk,hat.p];exact y3k hrs (by omega)
    have hg:z0z J.kind J.a J.c s'.x (q * J.size+t)=z0z J.kind J.a J.c x (q * J.size+t):=z6N (fun j hj=>hat.x j (by omega)) (by omega);have hv:z0z J.kind J.a J.c s'.x (q * J.size+t)+unf (f (q * J.size+t))=x (q * J.size+t):=by
     rw [hg,hf,y5B];omega
    refine ⟨⟨s'.p+riceL (f (q * J.size+t)) K,s'.k,updI s'.x (q * J.size+t) (x (q * J.size+t))⟩,?_,hk,⟨?_,fun j hj=>?_⟩⟩
    . rw [Job.plc_yes hi hrice (by rw [hv];exact hfit _ hin),hv]
    . show s'.p+_=_
      rw [hat.p,hpl];omega
    . show updI _ _ _ j=x j
      unfold updI
      by_cases e:j=q * J.size+t
      . rw [if_pos e,e]
      . rw [if_neg e];exact hat.x j (by omega)
theorem y2f (s0:St) (h0:At s0 p0 (ord J.kind) x) (hN:n=J.size * P) (ho:ord J.kind < J.size) (hfit:∀ j,j < n->fitsB J.w (x j)=true) (hf:∀ i,f i=foldN (x i - z0z J.kind J.a J.c x i))
 (hT:SaysT J.b p0 (z0K f (ord J.kind) J.size P)) (hL:p0+z0L f (ord J.kind) J.size P<=J.N) :
 ∀ q,q<=P->∃ s,J.R s0 (q * J.size)=some s/\At s (p0+z0L f (ord J.kind) J.size q) (max (q * J.size) (ord J.kind)) x:=by
 intro q
 induction q with
 | zero =>
  intro _;refine ⟨s0,by rw [Nat.zero_mul];rfl,⟨h0.p,fun j hj=>h0.x j (by omega)⟩⟩
 | succ q ih =>
  intro hq;obtain ⟨s,hR,hs⟩:=ih (by omega);obtain ⟨s',hU,_,hat⟩:=y3l J x n P p0 f s0 s q (by omega) hR hs hfit hN hf hT hL ho J.size zY;rw [J.U_eq s0 (q * J.size) (Nat.mul_mod_left _ _) J.size (by omega) zY] at hU;have e:(q+1) * J.size=q * J.size+J.size:=Nat.succ_mul _ _;refine ⟨s',by rw [e];exact hU,⟨?_,fun j hj=>hat.x j (by omega)⟩⟩;rw [hat.p];have hsucc:z0L f (ord J.kind) J.size (q+1)=z0L f (ord J.kind) J.size q+(4+plen f (parN f (ord J.kind) J.size q) (ploN (ord J.kind) J.size q) (pcnt (ord J.kind) J.size q)):=rfl;have hpc:pcnt (ord J.kind) J.size q=q * J.size+J.size - ploN (ord J.kind) J.size q:=by unfold pcnt;rw [e]
  rw [hsucc,hpc];omega
end
open Go.RowKit
theorem ip2 (k:Nat):((2 ^ k:Nat):Int)=(2:Int) ^ k:=by simp
theorem y3m (k:Nat):(0:Int) < 2 ^ k:=by rw [← ip2];exact Int.ofNat_lt.2 (Nat.two_pow_pos k)
theorem z7s {k m:Nat} (h:k<=m):(2:Int) ^ k ∣ 2 ^ m:=by
 refine ⟨2 ^ (m - k),?_⟩;rw [← Int.pow_add];congr 1;omega
theorem z8J (a:Int) (k:Nat) (hk:k<=64):a % 2 ^ k=0↔(BitVec.ofInt 64 a).toNat % 2 ^ k=0:=by
 have e:((BitVec.ofInt 64 a).toNat:Int)=a % 2 ^ 64:=by
  rw [BitVec.toNat_ofInt];have:0<=a % ((2 ^ 64:Nat):Int):=Int.emod_nonneg _ (by decide);rw [Int.toNat_of_nonneg this];simp
 have h1:(((BitVec.ofInt 64 a).toNat % 2 ^ k:Nat):Int)=a % 2 ^ k:=by
  rw [Int.natCast_emod,e,ip2,Int.emod_emod_of_dvd _ (z7s hk)]
 omega
theorem y5C (v:Int) (k:Nat) (hk:k<=64):IntKind.i64.wrap v % 2 ^ k=v % 2 ^ k:=by
 have h:∃ q:Int,IntKind.i64.wrap v=v+q * 2 ^ 64:=by
  rw [IntKind.wrap_i64];refine ⟨-((v+9223372036854775808) / 18446744073709551616),?_⟩;have e:(2:Int) ^ 64=18446744073709551616:=rfl;rw [e];omega
 obtain ⟨q,hq⟩:=h;obtain ⟨r,hr⟩:=z7s hk;rw [hq,hr,Int.mul_left_comm,Int.add_mul_emod_self_left]
theorem y7y (a b:Int) (k:Nat) (hk:k<=64):bits .or .i64 a b % 2 ^ k=0↔a % 2 ^ k=0/\b % 2 ^ k=0:=by
 have e:bits .or .i64 a b=IntKind.i64.wrap (((BitVec.ofInt 64 a ||| BitVec.ofInt 64 b).toNat:Nat):Int):=rfl;rw [e,y5C _ _ hk,BitVec.toNat_or,z8J a k hk,z8J b k hk];generalize (BitVec.ofInt 64 a).toNat=A;generalize (BitVec.ofInt 64 b).toNat=B;rw [← ip2,← Int.natCast_emod,Nat.or_mod_two_pow];have:∀ x y:Nat,((x ||| y:Nat):Int)=0↔x=0/\y=0:=fun x y=>by
  constructor
  . intro h
    have h':x ||| y=0:=by omega
    exact ⟨Nat.eq_zero_of_le_zero (h' ▸ Nat.left_le_or),Nat.eq_zero_of_le_zero (h' ▸ Nat.right_le_or)⟩
  . rintro ⟨rfl,rfl⟩;rfl
 exact this _ _
def OrOf (l:Nat->Int) (i:Nat) (v:Int):Prop:=(∀ k,k<=64->(v % 2 ^ k=0↔∀ j,j < i->l j % 2 ^ k=0))/\-9223372036854775808<=v/\v<=9223372036854775807
theorem OrOf.zero (l:Nat->Int):OrOf l 0 0:=⟨fun k _=>by simp,by omega,by omega⟩
theorem OrOf.step {l:Nat->Int} {i:Nat} {v:Int} (h:OrOf l i v):OrOf l (i+1) (bits .or .i64 v (l i)):=by
 refine ⟨fun k hk=>?_,?_⟩
 . rw [y7y _ _ _ hk,h.1 k hk]
   constructor
   . rintro ⟨h1,h2⟩ j hj
     by_cases e:j=i
     . subst e;exact h2
     . exact h1 j (by omega)
   . intro h1;exact ⟨fun j hj=>h1 j (by omega),h1 i (by omega)⟩
 . have e:∃ z:Int,bits .or .i64 v (l i)=IntKind.i64.wrap z:=⟨_,rfl⟩
   obtain ⟨z,hz⟩:=e;rw [hz,IntKind.wrap_i64];omega
theorem OrOf.nz {l:Nat->Int} {i:Nat} {v:Int} (h:OrOf l i v) (hl:∀ j,j < i->-4096<=l j/\l j<=4096):v=0↔anyNz l i=false:=by
 have h64:=h.1 64 zY;have e:(2:Int) ^ 64=18446744073709551616:=rfl;rw [e] at h64;have hv:v=0↔v % 18446744073709551616=0:=by have:=h.2;omega
 rw [hv,h64];simp only [anyNz,List.any_eq_false,List.mem_range,decide_eq_true_eq,ne_eq,Decidable.not_not];constructor
 . intro hh j hj;have:=hh j hj;have:=hl j hj;omega
 . intro hh j hj;rw [hh j hj];rfl
theorem z9Y {l:Nat->Int} {n k m:Nat} (h:z2Q l n m=true) (hk:k<=m):z2Q l n k=true:=by
 rw [z3k] at h ⊢;intro i hi;have h1:=Int.dvd_of_emod_eq_zero (h i hi);exact Int.emod_eq_zero_of_dvd (Int.dvd_trans (z7s hk) h1)
theorem z8K {l:Nat->Int} {n t:Nat} (h1:z2Q l n t=true) (h2:z2Q l n (t+1)=false) (h3:anyNz l n=true):∀ K,t<=K->z2H l n K=t
 | 0,h=>by
              have:t=0:=by omega
              subst this;rfl
 | K+1,h=>by
  by_cases e:t=K+1
  . subst e;rw [z2H,if_pos (by rw [h1,h3];rfl)]
  . rw [z2H,if_neg,z8K h1 h2 h3 K (by omega)]
    intro hc;rw [Bool.and_eq_true] at hc;rw [z9Y hc.1 (by omega:t+1<=K+1)] at h2;cases h2
theorem z5x {l:Nat->Int} {n:Nat} (h3:anyNz l n=false):∀ K,z2H l n K=0
 | 0=>rfl
 | K+1=>by rw [z2H,if_neg (by rw [h3];simp),z5x h3 K]
theorem y1h:∀ (B u:Nat),u<=B->0 < u->∃ t m,u=2 ^ t * (2 * m+1)
 | 0,u,h,h0=>absurd h0 (by omega)
 | B+1,u,h,h0=>by
  by_cases e:u % 2=1
  . exact ⟨0,u / 2,by simp;omega⟩
  . obtain ⟨t,m,hm⟩:=y1h B (u / 2) (by omega) (by omega)
    refine ⟨t+1,m,?_⟩;rw [Nat.pow_succ,Nat.mul_comm (2 ^ t) 2,Nat.mul_assoc,← hm];omega
theorem z9Z (m s:Nat) (hs:0 < s) (h:2 * m < 2 ^ s):(2 * m+1) &&& (2 ^ s - (2 * m+1))=1:=by
 apply Nat.eq_of_testBit_eq;intro i;rw [Nat.testBit_and,Nat.testBit_two_pow_sub_succ h];cases i with
 | zero =>
  simp [hs]
 | succ i =>
  have e1:Nat.testBit (2 * m+1) (i+1)=Nat.testBit m i:=by
   rw [Nat.testBit_succ];congr 1;omega
  have e2:Nat.testBit (2 * m) (i+1)=Nat.testBit m i:=by
   rw [Nat.testBit_succ];congr 1;omega
  have e3:Nat.testBit 1 (i+1)=false:=by rw [Nat.testBit_succ];simp
  rw [e1,e2,e3];cases Nat.testBit m i <;> simp
theorem y7z (t m:Nat) (ht:t < 64) (h:2 ^ t * (2 * m+1) < 2 ^ 64):bits .and .u64 ((2 ^ t * (2 * m+1):Nat):Int) (IntKind.u64.wrap (-((2 ^ t * (2 * m+1):Nat):Int)))=((2 ^ t:Nat):Int):=by
 generalize hu:2 ^ t * (2 * m+1)=u at *;have hu0:0 < u:=by rw [← hu];exact Nat.mul_pos (Nat.two_pow_pos t) (by omega)
 have e0:bits .and .u64 (u:Int) (IntKind.u64.wrap (-(u:Int)))=IntKind.u64.wrap (((BitVec.ofInt 64 (u:Int) &&& BitVec.ofInt 64 (IntKind.u64.wrap (-(u:Int)))).toNat:Nat):Int):=rfl;have e64:(2:Nat) ^ 64=18446744073709551616:=rfl;rw [e64] at h;have e1:(BitVec.ofInt 64 (u:Int)).toNat=u:=by
  rw [BitVec.toNat_ofInt,e64];omega
 have e2:(BitVec.ofInt 64 (IntKind.u64.wrap (-(u:Int)))).toNat=2 ^ 64 - u:=by
  rw [BitVec.toNat_ofInt,e64,IntKind.wrap_u64];omega
 have e3:u &&& (2 ^ 64 - u)=2 ^ t:=by
  have f1:u=(2 * m+1) <<< t:=by rw [Nat.shiftLeft_eq,Nat.mul_comm];exact hu.symm
  have f3:2 ^ 64=2 ^ t * 2 ^ (64 - t):=by rw [← Nat.pow_add];congr 1;omega
  have f2:2 ^ 64 - u=(2 ^ (64 - t) - (2 * m+1)) <<< t:=by
   rw [Nat.shiftLeft_eq,Nat.mul_comm,Nat.mul_sub,← f3,hu]
  have f4:2 * m < 2 ^ (64 - t):=by
   rw [← e64,f3,← hu] at h;have:=Nat.lt_of_mul_lt_mul_left h;omega
  rw [f2,f1,← Nat.shiftLeft_and_distrib,z9Z m (64 - t) (by omega) f4,Nat.shiftLeft_eq,Nat.one_mul]
 rw [e0,BitVec.toNat_and,e1,e2,e3,IntKind.wrap_u64];have:2 ^ t<=u:=by rw [← hu];exact Nat.le_mul_of_pos_right _ (by omega)
 omega
theorem OrOf.tz {l:Nat->Int} {n width:Nat} {v:Int} (h:OrOf l n v) (hw1:1<=width) (hw:width<=13) (hl:∀ j,j < n->fitsB width (l j)=true) (hv:v ≠ 0) :
 ∃ m,(IntKind.u64.wrap v)=((2 ^ (z0C l n width) * (2 * m+1):Nat):Int)/\2 ^ (z0C l n width) * (2 * m+1) < 2 ^ 64/\z0C l n width<=12:=by
 have hl':∀ j,j < n->-4096<=l j/\l j<=4096:=fun j hj=>z4o (hl j hj) hw
 have hr:=h.2;obtain ⟨u,hu⟩:∃ u:Nat,IntKind.u64.wrap v=u:=⟨(v % 18446744073709551616).toNat,by rw [IntKind.wrap_u64];omega⟩;have hu0:0 < u/\u < 18446744073709551616:=by rw [IntKind.wrap_u64] at hu;omega
 obtain ⟨t,m,htm⟩:=y1h u u zY hu0.1;have hmod:∀ k,k<=64->((u % 2 ^ k=0)↔z2Q l n k=true):=fun k hk=>by
  rw [z3k,← h.1 k hk];obtain ⟨q,hq⟩:∃ q:Int,v=u+q * 2 ^ 64:=⟨v / 18446744073709551616,by
   have e:(2:Int) ^ 64=18446744073709551616:=rfl;rw [IntKind.wrap_u64] at hu;rw [e];omega⟩
  obtain ⟨r,hr⟩:=z7s hk;rw [hq,hr,Int.mul_left_comm,Int.add_mul_emod_self_left,← ip2,← Int.natCast_emod];omega
 have hnz:anyNz l n=true:=by
  cases e:anyNz l n with
  | true=>rfl
  | false=>exact absurd ((h.nz hl').2 e) hv
 have ht64:t < 64:=by
  by_cases e:t < 64
  . exact e
  . have h1:2 ^ 64<=2 ^ t:=Nat.pow_le_pow_right (by omega) (by omega)
    have h2:2 ^ t<=u:=by rw [htm];exact Nat.le_mul_of_pos_right _ (by omega)
    have e64:(2:Nat) ^ 64=18446744073709551616:=rfl;omega
 have d1:z2Q l n t=true:=(hmod t (by omega)).1 (by rw [htm];exact Nat.mul_mod_right _ _);have d2:z2Q l n (t+1)=false:=by
  cases e:z2Q l n (t+1) with
  | false=>rfl
  | true =>
   have h4:=(hmod (t+1) (by omega)).2 e;rw [htm,Nat.pow_succ,Nat.mul_mod_mul_left,show (2 * m+1) % 2=1 by omega,Nat.mul_one] at h4;exact absurd h4 (Nat.ne_of_gt (Nat.two_pow_pos t))
 have hlt:t<=width - 1:=by
  simp only [anyNz,List.any_eq_true,List.mem_range,decide_eq_true_eq] at hnz;obtain ⟨j,hj,hz⟩:=hnz;have hd:=Int.dvd_of_emod_eq_zero ((z3k l n t).1 d1 j hj);have hf:=hl j hj;unfold fitsB at hf;rw [z0h] at hf;have h1:=Int.natAbs_dvd_natAbs.2 hd;have h2:=Nat.le_of_dvd (by omega) h1;rw [← ip2,Int.natAbs_natCast] at h2;have hf2:(l j).natAbs<=2 ^ (width - 1):=by
   rw [← ip2] at hf;omega
  exact (Nat.pow_le_pow_iff_right (by omega)).1 (Nat.le_trans h2 hf2)
 have es:z0C l n width=t:=z8K d1 d2 hnz _ hlt;rw [es];have e64:(2:Nat) ^ 64=18446744073709551616:=rfl;exact ⟨m,by rw [← htm];exact hu,by rw [← htm,e64];exact hu0.2,by omega⟩
theorem OrOf.shift0 {l:Nat->Int} {n width:Nat} {v:Int} (h:OrOf l n v) (hw:width<=13) (hl:∀ j,j < n->fitsB width (l j)=true) (hv:v=0):z0C l n width=0 :=
 z5x ((h.nz fun j hj=>z4o (hl j hj) hw).1 hv) _
theorem y0a {b:Nat->Bool} {p w:Nat} {x:Nat->Int}:∀ {m j:Nat},SaysT b p (numsT x w m)->j < m->SaysT b (posn p w j) (binT (x j) w)
 | 0,j,_,hj=>absurd hj (Nat.not_lt_zero j)
 | m+1,j,h,hj=>by
  simp only [numsT] at h
  by_cases e:j=m
  . subst e
    have:=h.right;rw [z0v] at this;exact this
  . exact y0a h.left (by omega)
theorem z6O (w:Nat) (x:Nat->Int) (n:Nat):∀ j,bestK w x n j=0->z2i x n=true
 | 0,h=>by
  unfold bestK at h;cases e:z2i x n with
  | true=>rfl
  | false=>rw [e] at h;simp at h
 | j+1,h=>by
  unfold bestK at h;split at h
  . omega
  . exact z6O w x n j h
theorem z8L (l:Nat->Int) (n width j:Nat) (hj:j < n):z1w l n width j * 2 ^ z0C l n width=l j :=
 Int.ediv_mul_cancel (Int.dvd_of_emod_eq_zero (z6M l n (width - 1) j hj))
theorem y2g (l:Nat->Int) (n width j:Nat) (hw1:1<=width) (hj:j < n) (hf:fitsB width (l j)=true):fitsB (width - z0C l n width) (z1w l n width j)=true:=by
 have hs:z0C l n width<=width - 1:=z2R _ _ _;have hm:=z8L l n width j hj;unfold fitsB at hf ⊢;rw [z0h] at hf ⊢;generalize z1w l n width j=x at *;generalize z0C l n width=s at *;have e:(2:Int) ^ (width - 1)=2 ^ (width - s - 1) * 2 ^ s:=by rw [← Int.pow_add];congr 1;omega
 have hp:=y3m s;rw [e,← hm] at hf;generalize (2:Int) ^ (width - s - 1)=q at *;generalize (2:Int) ^ s=r at *;constructor
 . have h1:-q * r<=x * r:=by rw [Int.neg_mul];exact hf.1
   exact Int.le_of_mul_le_mul_right h1 hp
 . have h1:x * r < q * r:=by omega
   have:=Int.lt_of_mul_lt_mul_right h1 (Int.le_of_lt hp);omega
theorem y3n {b:Nat->Bool} {N kind W n p:Nat} {x:Nat->Int} (h7:kind<=7) (hn1:1<=n) (hW1:1<=W) (hW:W<=13) (hfit:∀ j,j < n->fitsB W (x j)=true) (h0:kind=0->z2i x n=true) (hok:2<=kind->okG kind x n=true)
 (hT:SaysT b p (bodyT kind W x n)) (hL:p+bodyL kind W x n<=N):∃ r,z0E b N kind W n p=some r/\r.2=p+bodyL kind W x n/\∀ j,j < n->r.1 j=x j:=by
 unfold z0E;unfold bodyT at hT;unfold bodyL at hL ⊢
 by_cases k0:kind=0
 . rw [if_pos k0] at hT hL ⊢
   rw [if_pos k0,if_pos hL];refine ⟨_,rfl,rfl,fun j hj=>?_⟩
   show sgn b p W=x j
   rw [z5w hT hW1 (hfit 0 (by omega)),(z3B x n).1 (h0 k0) j hj]
 . rw [if_neg k0] at hT hL ⊢
   rw [if_neg k0]
   by_cases k1:kind=1
   . rw [if_pos k1] at hT hL ⊢
     rw [if_pos k1,if_pos (show posn p W n<=N from hL)];exact ⟨_,rfl,rfl,fun j hj=>z5w (y0a hT hj) hW1 (hfit j hj)⟩
   . rw [if_neg k1] at hT hL ⊢
     have h2:2<=kind:=by omega
     have hg:=hok h2;have hon:ord kind < n:=by unfold okG at hg;rw [Bool.and_eq_true,decide_eq_true_eq] at hg;exact hg.1
     rw [if_neg k1,if_neg (by omega)];unfold gT at hT;unfold gL at hL ⊢;have hx:=hT.left;have hr:=hT.right;rw [z0v] at hr;rw [if_pos (show posn p W (ord kind)<=N by unfold posn;omega)];have hxs:∀ j,j < ord kind->sgn b (posn p W j) W=x j:=fun j hj=>z5w (y0a hx hj) hW1 (hfit j (by omega))
     have hbc:=z3i (fR kind x n) (ord kind) n 3;have hcok:=z3j (fR kind x n) (ord kind) n hon 3;have key:∀ (a c:Int) (p2:Nat),a=wA kind x n->c=wB kind x n->SaysT b p2 (cutT (fR kind x n) (ord kind) n (bC kind x n))->p2+cutL (fR kind x n) (ord kind) n (bC kind x n)<=N ->
         ∃ st,z0G b N W kind a c n p2 (fun i=>sgn b (posn p W i) W)=some st/\st.p=p2+cutL (fR kind x n) (ord kind) n (bC kind x n)/\∀ j,j < n->st.x j=x j:=by
      intro a c p2 ha hc hcut hcl;unfold cutT at hcut;unfold cutL at hcl ⊢;have hb2:=hcut.left;have hpt:=hcut.right;rw [z0i] at hpt;have hnum:num b p2 2=bC kind x n:=z5c hb2 (show bestC (fR kind x n) (ord kind) n 3 < 2 ^ 2 from Nat.lt_of_le_of_lt hbc (by decide));have hcf:=z2O (show cutB n (ord kind) (bC kind x n)=true from hcok);unfold z0G;rw [hnum,if_pos ⟨by omega,hcok⟩];have hJs:(z1O b N W kind a c n p2).size=n / 2 ^ bC kind x n:=by show n / 2 ^ num b p2 2=_;rw [hnum]
      obtain ⟨st,hst,hat⟩:=y2f (z1O b N W kind a c n p2) x n (2 ^ bC kind x n) (p2+2) (fR kind x n) ⟨p2+2,0,fun i=>sgn b (posn p W i) W⟩ ⟨rfl,hxs⟩
       (by rw [hJs];exact hcf.1.symm) (by rw [hJs];exact hcf.2) hfit (fun i=>by show fR kind x n i=foldN (x i - z0z kind a c x i);rw [ha,hc];rfl) (by rw [hJs];exact hpt) (by rw [hJs];show _<=N;simp only [z1O];omega) (2 ^ bC kind x n) zY
      rw [hJs] at hst hat;have e:2 ^ bC kind x n * (n / 2 ^ bC kind x n)=n:=by rw [Nat.mul_comm];exact hcf.1
      rw [e] at hst hat;exact ⟨st,hst,by rw [hat.p];simp only [z1O];omega,fun j hj=>hat.x j (by simp only [z1O];omega)⟩
     by_cases k7:kind=7
     . rw [if_pos k7] at hr hL ⊢
       rw [if_pos k7,if_pos (by unfold posn;omega)];have ha:=hr.left.left;have hb:=hr.left.right;have hc:=hr.right;rw [z0i] at hb;rw [List.length_append,z0i,z0i] at hc;have hab:=z5b (8 * lag x 1 n * (lag x 0 n - lag x 2 n) / leanD x n);have hbb:=z5b (8 * (lag x 0 n * lag x 2 n - lag x 1 n * lag x 1 n) / leanD x n);have fa:fitsB 6 (leanA x n)=true:=by unfold fitsB leanA;rw [z0h];omega
       have fb:fitsB 6 (leanB x n)=true:=by unfold fitsB leanB;rw [z0h];omega
       obtain ⟨st,hst,hp,hxx⟩:=key (sgn b (posn p W (ord kind)) 6) (sgn b (posn p W (ord kind)+6) 6) (posn p W (ord kind)+12)
        (by rw [show wA kind x n=leanA x n from if_pos k7];exact z5w ha (by omega) fa) (by rw [show wB kind x n=leanB x n from if_pos k7];exact z5w hb (by omega) fb) hc (by unfold posn;omega)
       rw [hst];exact ⟨_,rfl,by show st.p=_;rw [hp];unfold posn;omega,hxx⟩
     . rw [if_neg k7] at hr hL ⊢
       rw [if_neg k7];rw [List.nil_append] at hr;obtain ⟨st,hst,hp,hxx⟩:=key 0 0 (posn p W (ord kind)) (if_neg k7).symm (if_neg k7).symm hr (by unfold posn;omega);rw [hst];exact ⟨_,rfl,by show st.p=_;rw [hp];unfold posn;omega,hxx⟩
theorem z2w (width:Nat) (l:Nat->Int) (n:Nat):(subT width l n).length=8+bodyL (z2S width l n) (width - z0C l n width) (z1w l n width) n:=by
 unfold subT;rw [List.length_append,List.length_append,z0i,z0i,z8G];omega
theorem y5D {b:Nat->Bool} {N width n:Nat} {l:Nat->Int} (hn1:1<=n) (hw1:1<=width) (hw:width<=13) (hfit:∀ j,j < n->fitsB width (l j)=true) (hT:SaysT b 0 (subT width l n)) (hL:(subT width l n).length<=N) :
 ∃ r,z1c b N width n=some r/\r.2=(subT width l n).length/\∀ j,j < n->r.1 j=l j:=by
 have hs:z0C l n width<=width - 1:=z2R _ _ _;have hk:=z3Q (width - z0C l n width) (z1w l n width) n 6;rw [z2w] at hL ⊢;unfold subT at hT;have t1:=hT.left;have t2:=hT.right.left;have t3:=hT.right.right;rw [z0i] at t2 t3;rw [z0i] at t3;have e1:num b 0 4=z2S width l n:=z5c t1 (Nat.lt_of_le_of_lt hk (by decide));have e2:num b 4 4=z0C l n width:=z5c t2 (by omega);obtain ⟨r,h1,h2,h3⟩:=y3n (b:=b) (N:=N) (kind:=z2S width l n) (W:=width - z0C l n width) (n:=n) (p:=8) (x:=z1w l n width) hk hn1 (by omega) (by omega) (fun j hj=>y2g l n width j hw1 hj (hfit j hj)) (fun h=>z6O _ _ _ _ h) (fun h=>z3R _ _ _ _ h) t3 hL;unfold z1c;rw [e1,e2,if_pos ⟨by omega,by omega⟩,h1];exact ⟨_,rfl,h2,fun j hj=>by show r.1 j * 2 ^ _=l j;rw [h3 j hj];exact z8L l n width j hj⟩
theorem z5y (w:Nat) (x:Nat->Int) (n:Nat) (hn1:1<=n):∀ j,bodyL (bestK w x n j) w x n<=n * w
 | 0=>by
  unfold bestK;split
  . show w<=n * w
    exact Nat.le_mul_of_pos_left _ hn1
  . exact Nat.le_refl _
 | j+1=>by
  have ih:=z5y w x n hn1 j;unfold bestK;split
  . rename_i h;omega
  . exact ih
theorem z7t (width:Nat) (l:Nat->Int) (n:Nat) (hn1:1<=n):(subT width l n).length<=8+n * width:=by
 rw [z2w];have h:=z5y (width - z0C l n width) (z1w l n width) n hn1 6;have h2:n * (width - z0C l n width)<=n * width:=Nat.mul_le_mul_left _ (by omega);unfold z2S;omega
theorem sizeBuilder:(prog.info? 278).map (·.size)=some 2:=by kernel_rfl
theorem infoByte:(prog.info? 5).map (fun i=>(i.zero,i.size,i.bytes))=some (some (.int .u8 0),1,1):=by kernel_rfl
theorem cellsByte:prog.cellsOf 5=1:=by kernel_rfl
def Lies (T:TypeId):Prop:=liesAt prog prog.depth T (2 / prog.cellsOf T) 0 278 1=true/\T ≠ 5
theorem y0b:Lies 326:=⟨by kernel_rfl,by decide⟩
theorem z4Q:Lies 278:=⟨by kernel_rfl,by decide⟩
set_option maxRecDepth 100000 in
theorem z2x (T:TypeId) (hT:Lies T) (B b:Nat) (bs:List Value) (w:World) (h:Lib.IsBuilderF T 5 B b bs w) :
 Calls prog 251 #[.pointer (some ⟨b,0,none⟩)] w fun e w'=>e=.returned (.tuple #[])/\(Lib.BuilderAtF T 5 B b (.pointer (some ⟨b,0,none⟩)) bs w'/\Below B w w'/\Lib.OthersKept 5 (some b) w w'):=by
 obtain ⟨j,hj,hjs⟩:=Option.map_eq_some_iff.1 sizeBuilder;rcases h with h | h
 . have h0:=h.cell0
   have hsh:=h.shape;have hfz:=h.frozen0;have HH:=zZ h;clear h
   go_enter Tryz.func251,Tryz.ntmps251
   go_wp2;rw [Lib.run_to_unsafe w ⟨b,0,none⟩ Tryz.underlying276 Tryz.underlying261 hj (by rw [hjs];decide) hsh (Nat.zero_lt_succ 1)];simp only [Result.andThen];rw [Oper.upon_value];go_wp2;rw [run_callFunc_extern Tryz.func284 (by kernel_rfl) (by kernel_rfl) (by kernel_rfl) (e:=Extern.AbiNoEscape.same) (by kernel_rfl)];rw [Lib.run_noEscape];simp only [Result.andThen];rw [Oper.upon_value];go_wp2;rw [Lib.run_from_unsafe w ⟨b,0,none⟩ Tryz.underlying261 Tryz.underlying276 hj hsh hT.1];simp only [Result.andThen];rw [Oper.upon_value];go_wp2;go_end0;exact ⟨rfl,HH.out.used _,(Below.refl B w).setCell (p:=⟨b,0,none⟩) HH.out.1 _,(Lib.OthersKept.refl _ _ w).setCell ⟨b,0,none⟩ rfl _⟩
 . have h0:=h.cell0
   have HH:=zZ h;clear h;have hne:=fun u:World=>Lib.run_neq_ptr_same (P:=prog) (w:=u) (j:=j) (⟨b,0,none⟩:Addr) Tryz.underlying276 hj
   go_enter Tryz.func251,Tryz.ntmps251
   go_wp2;go_end0;exact ⟨rfl,HH.out,Below.refl B _,Lib.OthersKept.refl _ _ _⟩
set_option maxRecDepth 100000 in
theorem z7u (T:TypeId) (hT:Lies T) (B b:Nat) (bs:List Value) (c:Int) (w:World) (h:Lib.IsBuilderF T 5 B b bs w) (hlen:bs.length+1<=140737488355328) (hBw:B<=w.heap.size) :
 Calls prog 287 #[.pointer (some ⟨b,0,none⟩),.int .u8 c] w fun e w'=>e=.returned .nilIface/\(Lib.BuilderAtF T 5 B b (.pointer (some ⟨b,0,none⟩)) (bs ++ [.int .u8 c]) w'/\Below B w w'/\Lib.OthersKept 5 (some b) w w'):=by
 obtain ⟨i0,hi,hz0,hz1,hz2⟩:=info_parts infoByte;have HH:=zZ h;clear h
 go_enter Tryz.func287,Tryz.ntmps287
 go_wp2_with (go_at_call 251;refine (z2x T hT B b bs _ HH.out).mono ?_)
 rintro e w1 ⟨rfl,h1,hb1,hk1⟩;obtain ⟨hB,v,hbk,hown,hne⟩:=h1;have c0:w1.cell? ⟨b,0,none⟩=some (.pointer (some ⟨b,0,none⟩)):=by rw [Lib.cell_of_heap hbk];rfl
 have c1:w1.cell? ⟨b,1,none⟩=some v:=by rw [Lib.cell_of_heap hbk];rfl
 go_wp2_with (at_builtin;refine wpList_append_ownF _ rfl _ _ 33 rfl B 5 i0 (.int .u8 0) 1 1 Tryz.underlying33 hi hz0 hz1 hz2 rfl (by decide) _ _ _ rfl (hown.alloc _) ⟨w1.heap.size,0,none⟩ 1 1 [.int .u8 c] rfl rfl ?c1 ?c2 ?c3 ?c4 ?c5 ?_)
 case c1 =>
  intro j u hj
  match j,hj with
  | 0,hj=>simp at hj;subst hj;simp [Addr.add]
 case c2=>intro u hu;simp at hu;subst hu;rfl
 case c3=>unfold maxLen;omega
 case c4=>omega
 case c5=>have:=hb1.size;simp;omega
 intro v' w2 hown' hgrow _;have hlt:b < w1.heap.size:=(Array.getElem?_eq_some_iff.1 hbk).1;have hb2:w2.heap[b]?=some (.cells #[.pointer (some ⟨b,0,none⟩),v] T (0,0)):=by
  rw [hgrow.block b (by simp;omega) (fun e=>hne e.symm),Lib.alloc_old w1 _ b hlt];exact hbk
 have d0:w2.cell? ⟨b,0,none⟩=some (.pointer (some ⟨b,0,none⟩)):=by rw [Lib.cell_of_heap hb2];rfl
 have d1:w2.cell? ⟨b,1,none⟩=some v:=by rw [Lib.cell_of_heap hb2];rfl
 have f1:w2.frozen? ⟨b,1,none⟩=false:=Lib.frozen_of_heap hb2 1;obtain ⟨g,cap,rfl⟩:∃ g cap,v'=.slice (some ⟨g,0,none⟩) (bs.length+1) cap:=by
  rcases hown'.2 with ⟨_,h0⟩ | ⟨g,cap,cur,fz,hv,_⟩
  . omega
  . exact ⟨g,cap,hv⟩
 go_wp2;go_ret;refine ⟨rfl,?_,?_,((hk1.alloc _).grown hgrow (Lib.ownsRowF_kind (hown.alloc _))).setCell ⟨b,1,none⟩ rfl _⟩
 . exact Lib.BuilderAtF.put (T:=T) (e:=5) hB hb2 (bs':=bs ++ [.int .u8 c]) (by simpa using hown') hT.2
 . exact ((hb1.alloc (by have:=hb1.size;omega) _).grown hgrow (by have:=hb1.size;simp;omega) (fun k hk=>(hown.lt k hk).1)).setCell (p:=⟨b,1,none⟩) hB _
set_option maxRecDepth 100000 in
theorem z4u (T:TypeId) (B b:Nat) (l:List UInt8) (w:World) (h:Lib.IsBuilderF T 5 B b (Lib.byteCells l) w) (h0:l ≠ []) :
 Calls prog 201 #[.pointer (some ⟨b,0,none⟩)] w fun e w'=>e=.returned (.string ⟨l.toArray⟩)/\Below B w w':=by
 obtain ⟨p,hAt⟩:∃ p,Lib.BuilderAtF T 5 B b p (Lib.byteCells l) w:=by
  rcases h with h | h
  . exact ⟨_,h⟩
  . exact ⟨_,h⟩
 obtain ⟨hB,v,hbk,hown,hne⟩:=hAt;have hl0:l.length ≠ 0:=by simpa using h0
 rw [Lib.byteCells_length] at hown;obtain ⟨g,cap,cur,fz,rfl,hbg,hg,hfz,hnc,hcm,hcs,htake⟩:∃ g cap cur fz,v=.slice (some ⟨g,0,none⟩) l.length cap/\B<=g/\w.heap[g]?=some (.cells cur 5 fz)/\fz.2<=l.length * 1/\l.length<=cap/\cap<=maxLen/\cur.size=cap * 1/\cur.toList.take (l.length * 1)=Lib.byteCells l:=by
  rcases hown.2 with ⟨_,hz⟩ | ⟨g,cap,cur,fz,hv,r⟩
  . exact absurd hz hl0
  . exact ⟨g,cap,cur,fz,hv,r⟩
 have c1:w.drew.cell? ⟨b,1,none⟩=some (.slice (some ⟨g,0,none⟩) l.length cap):=by
  have:w.drew.heap[b]?=some (.cells #[p,.slice (some ⟨g,0,none⟩) l.length cap] T (0,0)):=hbk;rw [Lib.cell_of_heap this];rfl
 have hSD:(Builtin.unsafeSliceData_ #[33] 322 #[.slice (some ⟨g,0,none⟩) l.length cap]).run prog w.drew=.ok (.pointer (some ⟨g,0,none⟩)) w.drew :=
  Lib.run_unsafeSliceData_row _ _ _ _ _ _ (by omega)
 have hUS:(Builtin.unsafeString_ #[322,3] 9 #[.pointer (some ⟨g,0,none⟩),O I l.length]).run prog w.drew=.ok (.string ⟨l.toArray⟩) (w.drew.freeze ⟨g,0,none⟩ l.length):=by
  refine Lib.run_unsafeString_row w.drew 322 3 9 5 Tryz.underlying322 cellsByte g cur.size (by have hg':w.drew.heap[g]?=some (.cells cur 5 fz):=hg;simp [World.shape?,hg']) l h0 (by omega) (by unfold maxLen at hcm;omega) ?_;intro j x hx;have:=hown.cells (g:=g) rfl j (.int .u8 x.toNat) (by simp [Lib.byteCells,hx]);exact this
 clear hown hg htake hbk
 go_enter Tryz.func201,Tryz.ntmps201
 go_wp2
 go_region
 all_goals (go_wp2;go_ret;exact ⟨rfl,Lib.below_freeze (Below.drew (Below.refl B w)) (p:=⟨g,0,none⟩) hbg _⟩)
end Go.Proofs.YtlncjgnomhpjnabGreatDoor
