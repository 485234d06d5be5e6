import Derived.Test.YtlncjgnomhpjnabGreatDoorQL8
namespace Go.Proofs.YtlncjgnomhpjnabGreatDoor
open Go.Value renaming int → O
open Go.IntKind renaming i64 → I
open Go.Proofs.Tryz
open Go.RowKit Go.Deep
set_option linter.unusedVariables false
theorem y4a (T:List UInt8):(bs T).toList=T:=ByteArray.toList_mk T
theorem z5d {T:List UInt8} (h:1<=T.length):¬ (bs T).toList=[]:=fun e=>by
 rw [y4a] at e;rw [e] at h;simp at h
theorem y8J {T:List UInt8} (h:1<=T.length):¬ bs T=⟨#[]⟩:=fun e=>by
 have:=congrArg ByteArray.size e;rw [z0b] at this;have h0:(⟨#[]⟩:ByteArray).size=0:=rfl;omega
theorem z2z (g a k:Nat):(⟨g,a,none⟩:Addr).add k=⟨g,a+k,none⟩:=by cases k <;> simp [Addr.add]
theorem z8Q {F:Nat->Nat} {o n d e:Nat} {S:ByteArray} (hon:o < n) (h:(d=0->S=⟨#[]⟩)/\∀ e,d=e+1->S=bs (cutT F o n (z0o F o n e))) (hok:okC n o d=false) (he:e=d):S=bs (cutT F o n (z0o F o n e)):=by
 subst he;cases e with
 | zero=>rw [z7w hon] at hok;cases hok
 | succ f=>rw [h.2 f rfl,show z0o F o n (f+1)=z0o F o n f from if_neg (by rw [hok];simp)]
set_option maxRecDepth 100000 in
set_option maxHeartbeats 4000000 in
theorem y1r (o G n c:Nat) (R:Nat->Int) (w:World) (hn:n<=32) (ho:o<=4) (hon:o < n) (hnc:n<=c) (hR:∀ i,o<=i->i < n->-1000000<=R i/\R i<=1000000) (hI:∀ i,o<=i->i < n->w.cell? ⟨G,i,none⟩=some (O I (R i))) (hlow:G < w.heap.size) :
 Calls prog 298 #[.slice (some ⟨G,0,none⟩) n c,O I o] w fun e w'=>e=.returned (.string (bs (cutT (fun i=>z1o (R i)) o n (z0o (fun i=>z1o (R i)) o n 3))))/\Below w.heap.size w w':=by
 have HI:=zZ (fun u (h:Below w.heap.size w u) i (h1:o<=i) (h2:i < n)=>(h.cell (p:=⟨G,i,none⟩) hlow).trans (hI i h1 h2));have HR:=zZ hR;obtain ⟨F,hF⟩:∃ F:Nat->Nat,F=fun i=>z1o (R i):=⟨_,rfl⟩
 have HFE:Hid ((fun i=>z1o (R i))=F):=hF.symm;have HFB:Hid (∀ i,o<=i->i < n->F i<=2000000):=fun i h1 h2=>by rw [hF];exact z3y _ 1000000 (hR i h1 h2)
 rw [← hF];clear hF hI hR
 go_enter func298,ntmps298
 go_wp2
 go_loopw [5,6] (fun sv cv wr=>∃ d:Nat,∃ S:ByteArray,d<=4/\cv=O I d/\sv=.string S/\Hid ((d=0->S=⟨#[]⟩)/\∀ e,d=e+1->S=bs (cutT F o n (z0o F o n e)))/\Hid (Below w.heap.size w wr)) (fun _ cv _=>4 - (intOf cv).toNat)
 case atStart=>exact ⟨0,_,zU,rfl,rfl,⟨fun _=>rfl,fun e h=>absurd h zU⟩,Below.refl _ _⟩
 case round =>
  obtain ⟨d,S,hd4,rfl,rfl,HS,HB⟩:=hrel
  by_cases hd:d<=3
  . have t0:decide ((d:Int)<=3)=true:=zL zU
    have hmn:min d 64=d:=zU
    have hP8:2 ^ d<=8:=zO (zE zU hd) zR;have hP1:1<=2 ^ d:=Nat.two_pow_pos d;have HOKD:Hid (okC n o d=(decide (n / 2 ^ d * 2 ^ d=n) && decide (o < n / 2 ^ d))):=rfl;have HCT:Hid (cutT F o n d=binT d 2 ++ z0p F o (n / 2 ^ d) (2 ^ d)):=rfl;obtain ⟨P,hP⟩:∃ P,P=2 ^ d:=⟨_,rfl⟩;obtain ⟨sz,hsz⟩:∃ sz,sz=n / P:=⟨_,rfl⟩;rw [← hP,← hsz] at HOKD HCT;rw [← hP] at hP8 hP1;have hpw:I.wrap ((2:Int) ^ d)=(P:Int):=by rw [show ((2:Int) ^ d)=(P:Int) by rw [hP];simp,zK];omega
    have hdv:(n:Int).tdiv (P:Int)=(sz:Int):=by rw [zF zU,hsz];simp
    have hszn:sz<=n:=by rw [hsz];exact Nat.div_le_self _ _
    have hP0:¬ (P:Int)=0:=zU
    have hmul:sz * P<=n:=by rw [hsz];exact Nat.div_mul_le_self n P
    have hmw:I.wrap ((sz:Int) * (P:Int))=((sz * P:Nat):Int):=by rw [show (sz:Int) * (P:Int)=((sz * P:Nat):Int) by simp,zK];omega
    have HSZ:=zZ hsz;have HP:=zZ hP;clear hP hsz
    by_cases hm:sz * P=n
    . have tm:(((sz * P:Nat):Int) != (n:Int))=false:=by simp;omega
      by_cases hlo:o < sz
      . have tl:decide ((sz:Int)<=(o:Int))=false:=zM zU
        have hok:okC n o d=true:=by rw [HOKD.out,zL hm,zL hlo];rfl
        have HOK:=zZ hok;have HM:=zZ hm;have HBN:=zZ (fun u=>z0U (d:Int) 2 u zU zU (by have:=z2m 2;omega));have hszB:=HB.out.size;clear hok hm HOKD;obtain ⟨szP,hszP⟩:∃ szP,szP=sz * P:=⟨_,rfl⟩;rw [← hszP] at hmw tm;clear hszP hmul
        go_wp2_with (go_at_call 267;refine (HBN.out _).mono ?_;rintro e w1 ⟨rfl,hb1⟩;have HB1:=zZ (HB.out.trans (hb1.mono hszB));clear hb1 HBN)
        go_loopw [9,10] (fun sv iv wi=>∃ i:Nat,i<=P/\iv=O I i/\sv=.string (bs (binT d 2 ++ z0p F o sz i))/\Hid (Below w.heap.size w wi)) (fun _ iv _=>P - (intOf iv).toNat)
        case atStart=>exact ⟨0,zJ _,rfl,by simp [z0p],HB1.out⟩
        case round =>
         clear HB1;obtain ⟨i,hiP,rfl,rfl,HBi⟩:=hrel
         by_cases hlt:i < P
         . have hi1:(i+1) * sz<=n:=by
             have h1:(i+1) * sz<=P * sz:=zD _ hlt;rw [Nat.mul_comm P,HM.out] at h1;exact h1
           obtain ⟨fr,hfr⟩:∃ fr,fr=i * sz:=⟨_,rfl⟩;obtain ⟨hi,hhi⟩:∃ hi,hi=fr+sz:=⟨_,rfl⟩;have hhn:hi<=n:=by rw [Nat.succ_mul,← hfr,← hhi] at hi1;exact hi1
           have v1:I.wrap ((i:Int) * (sz:Int))=(fr:Int):=by
            rw [show (i:Int) * (sz:Int)=((i * sz:Nat):Int) by simp,← hfr,zK];omega
           have v3:I.wrap ((i:Int)+1)=(i:Int)+1:=by rw [zK];omega
           have v4:I.wrap (((i:Int)+1) * (sz:Int))=(hi:Int):=by
            rw [show ((i:Int)+1) * (sz:Int)=(((i+1) * sz:Nat):Int) by simp,Nat.succ_mul,← hfr,← hhi,zK];omega
           have hpl:(bs (binT d 2 ++ z0p F o sz i)).size<=1000000000:=by
            rw [z0b,zN,z0e,z1i];have h1:=z2G F o sz P n hn HM.out hlo HFB.out i hiP;have h2:i * 64000484<=8 * 64000484:=zD _ zU;omega
           have hszi:=HBi.out.size
           by_cases hi0:i=0
           . have ti:((i:Int) == 0)=true:=by simp [hi0]
             have hploE:ploN o sz i=o:=by rw [hi0];unfold ploN;simp
             have hfr0:fr=0:=by rw [hfr,hi0];simp
             clear hi0;obtain ⟨ct,hct⟩:∃ ct,ct=hi - o:=⟨_,rfl⟩;have hpcE:pcnt o sz i=ct:=by unfold pcnt;rw [hploE,Nat.succ_mul,← hfr,← hhi,hct]
             have hlh:o<=hi:=zU
             have hlc:o+ct=hi:=zU
             obtain ⟨K,hK⟩:∃ K,K=parN F o sz i:=⟨_,rfl⟩;have hK14:K<=14:=by rw [hK];exact z5x _ _ _
             have hKE:parK F o ct=K:=by rw [hK];unfold parN;rw [hploE,hpcE]
             have HPT:Hid (z0p F o sz (i+1)=z0p F o sz i ++ (binT K 4 ++ z0I F K o ct)):=by
              have e:z0p F o sz (i+1)=z0p F o sz i ++ (binT (parN F o sz i) 4 ++ z0I F (parN F o sz i) (ploN o sz i) (pcnt o sz i)):=rfl;rw [hploE,hpcE,← hK] at e;exact e
             have HIN:=zZ (fun (u:World) (hu:Below w.heap.size w u)=>(fun k hk=>by
              have hc:=HI.out u hu (o+k) zU zU;refine ⟨⟨G,o,none⟩,rfl,?_⟩;rw [z2z];exact hc:IntsAt u (some ⟨G,o,none⟩) ct (fun k=>R (o+k))))
             have HLE:=zZ (fun (u:World) (hu:Below w.heap.size w u)=>z8P (some ⟨G,o,none⟩) ct (c - o) o R u zU (fun k hk=>HR.out _ zU zU) (HIN.out u hu));have HCO:=zZ (fun (u:World) (hu:Below w.heap.size w u)=>z8J (some ⟨G,o,none⟩) ct (c - o) K o R u zU hK14 (fun k hk=>HR.out _ zU zU) (HIN.out u hu) (fun y hy _=>by cases hy;exact zP hlow hu.size));have HBI:=zZ (fun u=>z0U (K:Int) 4 u zU zU (by have:=z2m 4;omega));rw [HFE.out] at HLE HCO;rw [hKE] at HLE;have hctn:hi - o=ct:=hct.symm;have hcl:o < c:=zU
             have hcn:¬ c=o:=zU
             have hcds:(bs (z0I F K o ct)).size<=100000000:=by
              rw [z0b,z1h];have h1:=z2C F K o 2000000 hK14 ct (fun k hk=>HFB.out _ zU zU);have h2:ct * (2000000+15)<=32 * (2000000+15):=zD _ zU;omega
             have hbns:(bs (binT (K:Int) 4)).size<=4:=by rw [z0b,z0e];omega
             generalize hS1:bs (binT d 2 ++ z0p F o sz i)=S1 at *;generalize hS2:bs (binT (K:Int) 4)=S2 at *;generalize hS3:bs (z0I F K o ct)=S3 at *;have HSTR:Hid (S1 ++ S2 ++ S3=bs (binT d 2 ++ z0p F o sz (i+1))):=by
              show _=_
              rw [HPT.out,← hS1,← hS2,← hS3,z0f,z0f];simp [List.append_assoc]
             clear hS1 hS2 hS3 hct hpcE hlc hK hKE hploE hfr hhi HPT hi1 hlo
             try clear hofr
             try clear hfr0
             go_wp2_with (go_at_call 327;refine (HLE.out _ ?_).mono ?_;exact HBi.out;rintro e w1 ⟨rfl,q,hw⟩;subst w1;clear HLE)
             go_region_with (first
              | (go_at_call 267;refine (HBI.out _).mono ?_;rintro e w2 ⟨rfl,hb2⟩;have HB2:Hid (Below w.heap.size w w2):=(⟨HBi.out.os,HBi.out.tape,HBi.out.output,HBi.out.size,HBi.out.block⟩:Below w.heap.size w ((wr.drewN q).drew)).trans (hb2.mono hszi);clear hb2 HBI)
              | (go_at_call 328;refine (HCO.out _ ?_).mono ?_;exact HB2.out;rintro e w3 ⟨rfl,hb3⟩;have HB3:=zZ (HB2.out.trans (hb3.mono HB2.out.size));clear hb3 HCO))
             all_goals go_wp2
             all_goals exact ⟨⟨i+1,zU,zS,by rw [HSTR.out],HB3.out⟩,by simp [intOf];omega⟩
           . have ti:((i:Int) == 0)=false:=by simp;omega
             have hofr:o < fr:=by
              have:1 * sz<=i * sz:=zD _ zU;omega
             have hploE:ploN o sz i=fr:=by unfold ploN;rw [← hfr];omega
             clear hi0;obtain ⟨ct,hct⟩:∃ ct,ct=hi - fr:=⟨_,rfl⟩;have hpcE:pcnt o sz i=ct:=by unfold pcnt;rw [hploE,Nat.succ_mul,← hfr,← hhi,hct]
             have hlh:fr<=hi:=zU
             have hlc:fr+ct=hi:=zU
             obtain ⟨K,hK⟩:∃ K,K=parN F o sz i:=⟨_,rfl⟩;have hK14:K<=14:=by rw [hK];exact z5x _ _ _
             have hKE:parK F fr ct=K:=by rw [hK];unfold parN;rw [hploE,hpcE]
             have HPT:Hid (z0p F o sz (i+1)=z0p F o sz i ++ (binT K 4 ++ z0I F K fr ct)):=by
              have e:z0p F o sz (i+1)=z0p F o sz i ++ (binT (parN F o sz i) 4 ++ z0I F (parN F o sz i) (ploN o sz i) (pcnt o sz i)):=rfl;rw [hploE,hpcE,← hK] at e;exact e
             have HIN:=zZ (fun (u:World) (hu:Below w.heap.size w u)=>(fun k hk=>by
              have hc:=HI.out u hu (fr+k) zU zU;refine ⟨⟨G,fr,none⟩,rfl,?_⟩;rw [z2z];exact hc:IntsAt u (some ⟨G,fr,none⟩) ct (fun k=>R (fr+k))))
             have HLE:=zZ (fun (u:World) (hu:Below w.heap.size w u)=>z8P (some ⟨G,fr,none⟩) ct (c - fr) fr R u zU (fun k hk=>HR.out _ zU zU) (HIN.out u hu));have HCO:=zZ (fun (u:World) (hu:Below w.heap.size w u)=>z8J (some ⟨G,fr,none⟩) ct (c - fr) K fr R u zU hK14 (fun k hk=>HR.out _ zU zU) (HIN.out u hu) (fun y hy _=>by cases hy;exact zP hlow hu.size));have HBI:=zZ (fun u=>z0U (K:Int) 4 u zU zU (by have:=z2m 4;omega));rw [HFE.out] at HLE HCO;rw [hKE] at HLE;have hctn:hi - fr=ct:=hct.symm;have hcl:fr < c:=zU
             have hcn:¬ c=fr:=zU
             have hcds:(bs (z0I F K fr ct)).size<=100000000:=by
              rw [z0b,z1h];have h1:=z2C F K fr 2000000 hK14 ct (fun k hk=>HFB.out _ zU zU);have h2:ct * (2000000+15)<=32 * (2000000+15):=zD _ zU;omega
             have hbns:(bs (binT (K:Int) 4)).size<=4:=by rw [z0b,z0e];omega
             generalize hS1:bs (binT d 2 ++ z0p F o sz i)=S1 at *;generalize hS2:bs (binT (K:Int) 4)=S2 at *;generalize hS3:bs (z0I F K fr ct)=S3 at *;have HSTR:Hid (S1 ++ S2 ++ S3=bs (binT d 2 ++ z0p F o sz (i+1))):=by
              show _=_
              rw [HPT.out,← hS1,← hS2,← hS3,z0f,z0f];simp [List.append_assoc]
             clear hS1 hS2 hS3 hct hpcE hlc hK hKE hploE hfr hhi HPT hi1 hlo
             try clear hofr
             try clear hfr0
             go_wp2_with (go_at_call 327;refine (HLE.out _ ?_).mono ?_;exact HBi.out;rintro e w1 ⟨rfl,q,hw⟩;subst w1;clear HLE)
             go_region_with (first
              | (go_at_call 267;refine (HBI.out _).mono ?_;rintro e w2 ⟨rfl,hb2⟩;have HB2:Hid (Below w.heap.size w w2):=(⟨HBi.out.os,HBi.out.tape,HBi.out.output,HBi.out.size,HBi.out.block⟩:Below w.heap.size w ((wr.drewN q).drew)).trans (hb2.mono hszi);clear hb2 HBI)
              | (go_at_call 328;refine (HCO.out _ ?_).mono ?_;exact HB2.out;rintro e w3 ⟨rfl,hb3⟩;have HB3:=zZ (HB2.out.trans (hb3.mono HB2.out.size));clear hb3 HCO))
             all_goals go_wp2
             all_goals exact ⟨⟨i+1,zU,zS,by rw [HSTR.out],HB3.out⟩,by simp [intOf];omega⟩
         . have e:i=P:=zU
           subst e;have HSE:Hid (bs (binT d 2 ++ z0p F o sz i)=bs (cutT F o n d)):=by show _=_;rw [HCT.out]
           have hs1:(bs (binT d 2 ++ z0p F o sz i)).size=cutL F o n d:=by rw [HSE.out,z0b,z1U]
           generalize bs (binT d 2 ++ z0p F o sz i)=S1 at *;have hcd:=z3V F o n d hn hd HOK.out HFB.out;rcases Nat.eq_zero_or_pos d with hd0 | hd0
           . have hS0:=HS.out.1 hd0
             subst hS0;have HD0:=zZ hd0;generalize cutL F o n d=L1 at *;clear hd0 HS;go_wp2;exact ⟨⟨d+1,S1,zU,zS,rfl,⟨fun h=>absurd h zU,fun e h=>by
              have he:e=0:=by have:=HD0.out;omega
              subst he;rw [HSE.out,HD0.out];rfl⟩,HBi.out⟩,by simp [intOf];omega⟩
           . obtain ⟨e,rfl⟩:∃ e,d=e+1:=⟨d - 1,zU⟩
             have hS0:=HS.out.2 e rfl;have hbo:=z2y F o n hon e;have hbl:=z2x F o n e;have hcb:=z3V F o n (z0o F o n e) hn zU hbo HFB.out;have HBE:Hid (z0o F o n (e+1)=if okC n o (e+1)=true/\cutL F o n (e+1) < cutL F o n (z0o F o n e) then e+1 else z0o F o n e):=rfl;have hs2:S.size=cutL F o n (z0o F o n e):=by rw [hS0,z0b,z1U]
             have hne:¬ S.toList=[]:=by rw [hS0];exact z5d (by rw [z1U];unfold cutL;omega)
             have hie:S.toList.isEmpty=false:=by cases h:S.toList with | nil=>exact absurd h hne | cons a b=>rfl
             have HS0:=zZ hS0;generalize cutL F o n (z0o F o n e)=L2 at *;generalize cutL F o n (e+1)=L1 at *;clear hS0 HS hd0 hbo hbl
             by_cases hlt2:L1 < L2
             . rw [if_pos ⟨HOK.out,hlt2⟩] at HBE
               have t1:decide ((L1:Int) < (L2:Int))=true:=zL zU;have t2:decide (L1 < L2)=true:=zL hlt2;clear hlt2;go_wp2;exact ⟨⟨e+1+1,S1,zU,zS,rfl,⟨fun h=>absurd h zU,fun e' h=>by
                have he:e'=e+1:=zU
                subst he;rw [HSE.out,HBE.out]⟩,HBi.out⟩,by simp [intOf];omega⟩
             . rw [if_neg (fun h=>hlt2 h.2)] at HBE
               have t1:decide ((L1:Int) < (L2:Int))=false:=zM zU;have t2:decide (L1 < L2)=false:=zM hlt2;have hle2:L2<=L1:=zU
               clear hlt2;go_wp2;exact ⟨⟨e+1+1,S,zU,zS,rfl,⟨fun h=>absurd h zU,fun e' h=>by
                have he:e'=e+1:=zU
                subst he;rw [HS0.out,HBE.out]⟩,HBi.out⟩,by simp [intOf];omega⟩
      . have tl:decide ((sz:Int)<=(o:Int))=true:=zL zU
        have hokf:okC n o d=false:=by rw [HOKD.out,zM hlo];simp
        have HOKF:=zZ hokf;clear hokf HOKD hm;obtain ⟨szP,hszP⟩:∃ szP,szP=sz * P:=⟨_,rfl⟩;rw [← hszP] at hmw tm;clear hszP hmul;go_wp2;exact ⟨⟨d+1,S,zU,zS,rfl,⟨fun h=>absurd h zU,fun e h=>z8Q hon HS.out HOKF.out zU⟩,HB.out⟩,by simp [intOf];omega⟩
    . have tm:(((sz * P:Nat):Int) != (n:Int))=true:=by simp;omega
      have hokf:okC n o d=false:=by rw [HOKD.out,zM hm];rfl
      have HOKF:=zZ hokf;clear hokf HOKD hm;obtain ⟨szP,hszP⟩:∃ szP,szP=sz * P:=⟨_,rfl⟩;rw [← hszP] at hmw tm;clear hszP hmul;go_wp2;exact ⟨⟨d+1,S,zU,zS,rfl,⟨fun h=>absurd h zU,fun e h=>z8Q hon HS.out HOKF.out zU⟩,HB.out⟩,by simp [intOf];omega⟩
  . have e:d=4:=zU
    subst e;have HS4:=zZ (HS.out.2 3 rfl);go_wp2;go_ret;exact ⟨by rw [HS4.out];rfl,HB.out⟩
end Go.Proofs.YtlncjgnomhpjnabGreatDoor
