import Derived.Test.YtlncjgnomhpjnabGreatDoorQC31
import Derived.Deep.RegionLaw
import Derived.Test.YtlncjgnomhpjnabGreatDoorQC0
namespace Go.Proofs.YtlncjgnomhpjnabGreatDoor
open Go.Value renaming int → O
open Go.IntKind renaming i64 → I
open Go.Proofs.Tryz (prog)
open Go.RowKit Go.Deep
set_option linter.unusedVariables false
theorem y1I (T:List UInt8):(bs T).toList.isEmpty=decide (T.length=0):=by
 rw [y3D];cases T <;> simp
set_option maxRecDepth 4000 in
set_option maxHeartbeats 1000000 in
theorem z6F (n d B c3 c4 S k0:Nat) (X:List UInt8) (w:World) (hd1:4<=d) (hd:d<=12) (hn1:1<=n) (hn4:n<=4) (hB:1<=B) (hB2:B<=32) (hS:S<=300) (hk:k0<=nBlk S B) (hX:X.length<=9000) (hT:TabsU w) :
 Calls prog 72 #[.agg #[O I n,O I d,O I B,O I c3,O I c4,O I S],O I k0,.string (bs X)] w fun e w'=>FrsOut e w w' n d B S k0 X:=by
 have HBK:=zZ (fun u=>z2q S B u (by omega) (by omega) (by omega));have hmk:=run_make_row' (P:=prog) 24 30 (.slice none 0 0) 24 Tryz.underlying24 z1E rfl .i64 .i64 n (by omega) (by omega);have HFR:=zZ (fun (u:World) (hu:Below w.heap.size w u) (j q:Nat)=>z7T B 0 0 0 0 0 n d q (atX X j) u hd1 hd hn1 hn4 (by omega) (by show (X.drop _).length<=9000;rw [List.length_drop];omega) (hT.below hu));have HNB:=zZ (z1a (S:=S) (B:=B) hB);clear hT
 go_enter Tryz.func72,Tryz.ntmps72
 go_wp2_with fail;refine wp_scope_straight ?_
 go_wp2_with (first
  | (go_at_call 62;refine (HBK.out _).mono ?_;rintro e u2 ⟨rfl,hw⟩;subst u2))
 refine wp_label ?_;go_wp2_with fail;clear hmk
 go_loopw [1,2,10,11,12,13,14] (fun nv sv _ _ _ _ _ wr=>∃ (j q:Nat) (vs:Nat->Value) (la:Option Addr) (lc:Nat),q=k0+j/\q<=nBlk S B/\nv=O I q/\sv=.string (bs (atX X j))/\Hid ((∀ j',j' < j->okF n d B S (k0+j') (atX X j'))/\RnI w wr n #[O I n,O I d,O I B,O I c3,O I c4,O I S] #[O I n,O I d,O I B,O I 0,O I 0,O I 0,O I 0,O I 0] vs (fun c=>chL n d B S k0 X c j) (.slice la j lc) (lnL (lnX X) j))) (fun nv _ _ _ _ _ _ _=>nBlk S B - (intOf nv).toNat)
 case atStart =>
  refine ⟨0,k0,fun _=>.slice none 0 0,none,0,by omega,hk,rfl,rfl,fun j' h=>absurd h (Nat.not_lt_zero _),RnI.start w n _ _⟩
 case round =>
  obtain ⟨j,q,vs,la,lc,hq,hqn,rfl,rfl,HR⟩:=hrel;have hoff:=y4s HR.out.1 j zY
  by_cases hlt:q < nBlk S B
  . have c0:=HR.out.2.cfg.cell 0
    have c1:=HR.out.2.cfg.cell 1;have c2:=HR.out.2.cfg.cell 2;have c3':=HR.out.2.cfg.cell 3;have c4':=HR.out.2.cfg.cell 4;have c5:=HR.out.2.cfg.cell 5;have c6:=HR.out.2.cfg.cell 6;have c7:=HR.out.2.cfg.cell 7;have HNQ:Hid (¬ (q:Int)=(nBlk S B:Int)):=by show ¬ _;omega
    by_cases hok:okF n d B S q (atX X j)
    . have hq3:q < 300:=by have:=HNB.out;omega
      obtain ⟨⟨H,hI⟩,hcn⟩:=hok;have hH:=y4r hI;have HI:=zZ hI;have hbd:=z1r hB hlt;have HQ:=zZ hq;have HBS:=zZ (fun u=>z1N S B q u (Nat.le_of_lt ((z1b hB).1 hlt)) (by omega) (by omega));have HF1:=zZ (fun u hu=>HFR.out u hu j q);have HOK:Hid (okF n d B S (k0+j) (atX X j)):=by show okF _ _ _ _ _ _;rw [← hq];exact ⟨⟨H,hI⟩,hcn⟩
      have hzz:(bs (atX X j)).size=(atX X j).length:=z0e _;have hlen:=HOK.out.len;have eS:(bs (atX X j)).extract (hLen (atX X j)) (atX X j).length=bs (atX X (j+1)):=by
       rw [z3a,← y1E,List.take_of_length_le (by rw [List.length_drop];exact Nat.le_refl _)]
       rfl
      have l1:((hLen (atX X j):Nat):Int)<=((atX X j).length:Int):=by omega
      have HCH:Hid (∀ i,(lsI n d B S k0 X j i i).length+blkN S B q<=100000):=fun i=>by
       rw [y1G,z4E];have:=y7j (B:=B) (S:=S) (k0:=k0) (m:=j) hB (by omega);omega
      have HST:=zZ (fun i=>y6j n d B S k0 X j i (hCnt (atX X j)+1) H (by rw [← hq];exact hcn) (by rw [← hq];exact hH));have hLJ:Hid (hLen (atX X j)=lnX X j):=rfl;have hjn:Hid (j<=300):=by have:=HNB.out;show _<=_;omega
      rw [← hcn] at HBS HCH hbd;clear hq HFR hH hI hcn hoff;obtain ⟨nn,hnn⟩:∃ nn,nn=hCnt (atX X j)+1:=⟨_,rfl⟩;have HNN:=zZ hnn;rw [← hnn] at HBS HCH hbd HST;clear hnn;have HIU:=zZ (fun H' (h:FrmP (atX X j) n d B q H')=>z9t h HI.out);generalize hSN:bs (atX X (j+1))=SN at *;have HSN:=zZ hSN;clear hSN;generalize bs (atX X j)=SJ at *;generalize (atX X j).length=zz at *
      go_wp2_with (first
       | (go_at_call 138;refine (HF1.out _ HR.out.2.below).mono ?_;intro e u2 hfo;obtain ⟨H',g,c,rfl,hI',hro,hb⟩:=hfo.yes HI.out;have eH:=HIU.out H' hI';subst eH;rw [← HNN.out] at hro;have HR2:=zZ (HR.out.2.next hb);obtain ⟨gs,hbk⟩:=HR.out.2.blk hro;have HBK2:=zZ hbk;clear HF1 hfo hb c0 c1 c2 c3' c4' c5 c6 c7 hro hbk hI' HIU))
      have HOKS:=zZ HR.out.1;clear HR
      go_loopw [13,14,48] (fun _ _ iv wx=>∃ (i:Nat) (vs':Nat->Value),i<=n/\iv=O I i/\Hid (RnI w wx n #[O I n,O I d,O I B,O I c3,O I c4,O I S] #[O I n,O I d,O I B,O I 0,O I 0,O I 0,O I 0,O I 0] vs' (lsI n d B S k0 X j i) (.slice la j lc) (lnL (lnX X) j)/\BkI w wx n nn g gs H' vs')) (fun _ _ iv _=>n - (intOf iv).toNat)
      case atStart=>exact ⟨0,vs,Nat.zero_le _,rfl,by rw [y6i];exact HR2.out,HBK2.out⟩
      case round =>
       clear HR2 HBK2;obtain ⟨i,vs',hi,rfl,HX⟩:=hrel
       by_cases hin:i < n
       . have b1:=HX.out.2.cell i hin
         have i5:=HX.out.1.inf.cell 5;have i2:=HX.out.1.inf.cell 2;obtain ⟨gq,cq,u3,hrun,e1,e2,e3,hR3,hB3⟩:=HX.out.1.drew.app HX.out.2.drew i hin (by omega) (HCH.out i) 30;have HAP:=zZ hrun;have HX3:=zZ (And.intro hR3 hB3);have s00:wr.drew.cell? ⟨w.heap.size+1+1+1+1,0,none⟩=some (.slice (some ⟨w.heap.size+1+1+1,0,none⟩) n n):=HX.out.1.run.cell 0;have s01:wr.drew.cell? ⟨w.heap.size+1+1+1,i,none⟩=some (vs' i):=HX.out.1.row.cell hin;clear hrun hR3 hB3;generalize (lsI n d B S k0 X j i i).length=ll at *;have i0:(0:Int)<=(i:Int):=by omega
         have i1:(i:Int) < (n:Int):=by omega
         go_wp2_with (first
          | (go_at_call 127;refine (HBS.out _).mono ?_;rintro e u4 ⟨rfl,hw⟩;subst u4;clear HBS))
         go_region_law (first | (refine z3d rfl _ _ _ rfl _ _ _ rfl rfl HAP.out ?_))
         all_goals go_wp2_with fail
         all_goals go_roundw
         all_goals first
          | (case rel=>exact ⟨i+1,_,by omega,by go_num,by rw [← HST.out];exact HX3.out.1,HX3.out.2⟩)
          | (case measure=>simp [intOf];omega)
       . have e:i=n:=by omega
         subst e;obtain ⟨gq,cq,u3,hrun,e1,e2,hR3⟩:=HX.out.1.len (hLen (atX X j)) (by rw [z4F];have:=hjn.out;omega) 30;rw [z4F] at hrun hR3;have HLN:=zZ hrun;have HX3:=zZ hR3;have r1:=HX.out.1.run.cell 1;clear hrun hR3
         go_wp2_with (first
          | (at_builtin;refine z0k rfl _ _ _ rfl _ _ _ rfl rfl HLN.out ?_;clear HLN))
         refine ⟨⟨j+1,q+1,vs',some ⟨gq,0,none⟩,cq,by rw [HQ.out];omega,by omega,by go_num,by rw [HSN.out],fun j' hj'=>?_,?_⟩,by simp [intOf];omega⟩
         . by_cases e:j'=j
           . rw [e];exact HOK.out
           . exact HOKS.out j' (by omega)
         . rw [y1z,← hLJ.out]
           exact RnI.congr HX3.out fun c hc=>y6k hc
    . have HRUN:Hid (RunIs n d B S k0 X j):=⟨.inl (by omega),HR.out.1,fun _=>by rw [← hq];exact hok⟩
      have HDEC:Hid (false=decide (k0+j=nBlk S B/\offX X j=X.length)):=(decide_eq_false (fun h=>by omega)).symm
      by_cases hI:∃ H,FrmP (atX X j) n d B q H
      . obtain ⟨H,hI⟩:=hI
        have HI:=zZ hI;have hcn:¬ hCnt (atX X j)+1=blkN S B q:=fun h=>hok ⟨⟨H,hI⟩,h⟩
        have HQ:=zZ hq;have HBS:=zZ (fun u=>z1N S B q u (Nat.le_of_lt ((z1b hB).1 hlt)) (by omega) (by omega));have HF1:=zZ (fun u hu=>HFR.out u hu j q);have hn0:(0:Int) < (n:Int):=by omega
        have hn0':0 < n:=by omega
        have hnq:=HNQ.out;clear hok hI hoff hq HFR;generalize bs (atX X j)=SJ at *
        go_wp2_with (first
         | (go_at_call 138;refine (HF1.out _ HR.out.2.below).mono ?_;intro e u2 hfo;obtain ⟨H',g,c,rfl,hI',hro,hb⟩:=hfo.yes HI.out;have HR2:=zZ (HR.out.2.next hb);obtain ⟨gs,hbk⟩:=HR.out.2.blk hro;have HBK2:=zZ hbk;clear HF1 hfo hb HR c0 c1 c2 c3' c4' c5 c6 c7 hro hbk hI'))
        go_loopw [13,14,48] (fun _ _ iv wx=>iv=O I 0/\wx=u2) (fun _ _ _ _=>0)
        case atStart=>exact ⟨rfl,rfl⟩
        case round =>
         obtain ⟨rfl,hwx⟩:=hrel;subst hwx;have k0':=HBK2.out.cell 0 hn0';obtain ⟨x0,x1,x2,z2,y0,y1,y2,zy0,zy1,zy2⟩:=HR2.out.ends;have i5:=HR2.out.inf.cell 5;have i2:=HR2.out.inf.cell 2;have m1:¬ ((hCnt (atX X j)+1:Nat):Int)=((blkN S B q:Nat):Int):=by omega
         have HM1:=zZ m1;generalize hCnt (atX X j)+1=nn at *;generalize hCnt (atX X j)=nn' at *;generalize blkN S B q=bk at *
         go_wp2_with (first
          | (go_at_call 127;refine (HBS.out _).mono ?_;rintro e u3 ⟨rfl,hw⟩;subst u3;clear HBS))
         have HD:=zZ (HR2.out.done HRUN.out false HDEC.out);rw [Exit.noGoto_ret];exact bodyPost_ret (y4w _ (w.heap.size+1) _ _ HD.out.1 rfl rfl) rfl HD.out.2
      . have HI:Hid (∀ H,¬ FrmP (atX X j) n d B q H):=fun H h=>hI ⟨H,h⟩
        have HQ:=zZ hq;clear hok hI hoff hq;have hnq:=HNQ.out;have HF1:=zZ (fun u hu=>HFR.out u hu j q);clear HFR;generalize bs (atX X j)=SJ at *
        go_wp2_with (first
         | (go_at_call 138;refine (HF1.out _ HR.out.2.below).mono ?_;intro e u2 hfo;obtain ⟨rfl,hb⟩:=hfo.nothing HI.out;have HR2:=zZ (HR.out.2.next hb);obtain ⟨x0,x1,x2,z2,y0,y1,y2,zy0,zy1,zy2⟩:=HR2.out.ends;clear HF1 hfo hb HR c0 c1 c2 c3' c4' c5 c6 c7))
        have HD:=zZ (HR2.out.done HRUN.out false HDEC.out);rw [Exit.noGoto_ret];exact bodyPost_ret (y4w _ (w.heap.size+1) _ _ HD.out.1 rfl rfl) rfl HD.out.2
  . have e:q=nBlk S B:=by omega
    subst e;have HRUN:Hid (RunIs n d B S k0 X j):=⟨.inl (by omega),HR.out.1,fun h=>by omega⟩;have HDEC:Hid ((bs (atX X j)).toList.isEmpty=decide (k0+j=nBlk S B/\offX X j=X.length)):=by
     have e1:(atX X j).length=X.length - offX X j:=List.length_drop;have e2:(bs (atX X j)).toList.isEmpty=decide ((atX X j).length=0):=by
      rw [y1I]
     show _=_
     rw [e2];exact decide_eq_decide.2 ⟨fun h=>⟨by omega,by omega⟩,fun h=>by omega⟩
    obtain ⟨x0,x1,x2,z2,y0,y1,y2,zy0,zy1,zy2⟩:=HR.out.2.ends;clear hoff hq;generalize bs (atX X j)=SJ at *;go_wp2_with fail;have HD:=zZ (HR.out.2.done HRUN.out _ HDEC.out);rw [Exit.noGoto_ret];exact bodyPost_ret (y4w _ (w.heap.size+1) _ _ HD.out.1 rfl rfl) rfl HD.out.2
theorem HdOut.yes {e:Ending} {w w':World} {T:List UInt8} (h:HdOut e w w' T) (hp:HdP T) {b:Bool} (hb:decide (dWh T=1)=b):∃ a c,e=.returned (.tuple #[.agg #[O I (dCh T),O I (dDe T),O I (dBl T),O I (dRa T),O I (dSe T),O I (dSa T),.bool b,O I (dLe T),O I (dMo T),O I (dSu T),.slice a (dNp T) c],O I (dSz T),.bool true])/\w'.ownsRow w.heap.size 3 1 (.slice a (dNp T) c) (dPts T).length (pntV (dPts T))/\Below w.heap.size w w':=by
 subst hb;rcases h with ⟨⟨-,pv,rfl,ho⟩ | ⟨hno,-⟩,hb⟩
 . obtain ⟨a,c,rfl⟩:=z1S ho
   exact ⟨a,c,rfl,by rw [z6i];exact ho,hb⟩
 . exact absurd hp hno
theorem HdOut.nothing {e:Ending} {w w':World} {T:List UInt8} (h:HdOut e w w' T) (hp:¬ HdP T):e=.returned (.tuple #[.agg #[O I 0,O I 0,O I 0,O I 0,O I 0,O I 0,.bool false,O I 0,O I 0,O I 0,.slice none 0 0],O I 0,.bool false])/\Below w.heap.size w w':=by
 rcases h with ⟨⟨hy,-⟩ | ⟨-,he⟩,hb⟩
 . exact absurd hy hp
 . exact ⟨he,hb⟩
theorem z1t:(prog.info? 39).map (·.size)=some 6:=by kernel_rfl
theorem y4x (tmps:Array Value) (R:Nat) (v:Value) (k:Int) (cs:Array Value) (W:World) (h:Bx W R 39 cs) (hs:cs.size=6) (h2:tmps.getD 2 undef=.pointer (some ⟨R,0,none⟩)) (h3:tmps.getD 3 undef=v) (h4:tmps.getD 4 undef=O I k) :
 (results Tryz.f39 tmps).run prog W=.ok (.tuple #[.agg cs,v,O I k]) W:=by
 have hl:=run_loadVar_row (P:=prog) W R 39 39 cs (0,0) _ h Tryz.underlying39 rfl (by rw [hs];exact z1t);rw [Array.getD_eq_getD_getElem?] at h2 h3 h4;simp [results,Tryz.results39,asAddr,h2,h3,h4,hl]
theorem y7P {w w':World} {T:List UInt8} (E:Int) (h0:E ≠ 0) (hE:decE T=E) (hb:Below w.heap.size w w'):y1H (.returned (.tuple #[info0,.slice none 0 0,O I E])) w w' T:=⟨.inr ⟨by rw [hE];exact h0,by rw [hE]⟩,hb⟩
theorem z3f {w u:World} {g:Nat} (h:Below w.heap.size w u) (hg:w.heap.size<=g) (cs:Array Value):Below w.heap.size w (u.setRow g cs):=below_setRow h hg cs
set_option maxRecDepth 4000 in
set_option maxHeartbeats 2000000 in
theorem z4g (T:List UInt8) (w:World) (hs:T.length<=9000) (hp:¬ (HdP T/\dWh T=1)) (HR:∀ u,Calls prog 69 #[.string (bs T)] u fun e w'=>HdOut e u w' T) :
 Calls prog 39 #[.string (bs T)] w fun e w'=>y1H e w w' T:=by
 have HHR:=zZ HR;have HBAD:Hid (∀ w',Below w.heap.size w w'->y1H (.returned (.tuple #[info0,.slice none 0 0,O I 7])) w w' T):=fun w' hb=>y7P 7 (by omega) (by unfold decE;rw [if_pos hs,if_neg hp]) hb
 have HZ0:Hid (Bx (w.alloc (.cells #[O I 0,O I 0,O I 0,O I 0,O I 0,O I 0] 39)) w.heap.size 39 #[O I 0,O I 0,O I 0,O I 0,O I 0,O I 0]):=Bx.new _ _ _;have HB0:Hid (Below w.heap.size w (w.alloc (.cells #[O I 0,O I 0,O I 0,O I 0,O I 0,O I 0] 39))):=zX.alloc zY _
 by_cases hy:HdP T
 . have HY:=zZ hy
   have hw0:decide (dWh T=1)=false:=decide_eq_false (fun h=>hp ⟨hy,h⟩);have HW:=zZ hw0;clear hp hy hw0;generalize bs T=SB at *
   go_enter Tryz.func39,Tryz.ntmps39
   go_wp2_with (first
    | (go_at_call 69;refine (HHR.out _).mono ?_;intro e u1 ho;obtain ⟨pa,pc,rfl,hown,hb⟩:=ho.yes HY.out HW.out;have HZ1:=zZ (HZ0.out.below hb);have HB1:=zZ (HB0.out.trans (hb.mono HB0.out.size));clear HHR ho hb HZ0 HB0 hown)
    | (refine z0b rfl _ _ 39 rfl w.heap.size 39 _ _ rfl rfl (HZ1.out.alloc _) z1t rfl rfl ?_))
   exact bodyPost_ret (y4x _ w.heap.size _ 7 _ _ ((HZ1.out.alloc _).row _) rfl rfl rfl rfl) rfl (HBAD.out _ (z3f (HB1.out.alloc HB1.out.size _) zY _))
 . have HY:=zZ hy
   clear hp hy;generalize bs T=SB at *
   go_enter Tryz.func39,Tryz.ntmps39
   go_wp2_with (first
    | (go_at_call 69;refine (HHR.out _).mono ?_;intro e u1 ho;obtain ⟨rfl,hb⟩:=ho.nothing HY.out;have HZ1:=zZ (HZ0.out.below hb);have HB1:=zZ (HB0.out.trans (hb.mono HB0.out.size));clear HHR ho hb HZ0 HB0)
    | (refine z0b rfl _ _ 39 rfl w.heap.size 39 _ _ rfl rfl (HZ1.out.alloc _) z1t rfl rfl ?_))
   exact bodyPost_ret (y4x _ w.heap.size _ 7 _ _ ((HZ1.out.alloc _).row _) rfl rfl rfl rfl) rfl (HBAD.out _ (z3f (HB1.out.alloc HB1.out.size _) zY _))
end Go.Proofs.YtlncjgnomhpjnabGreatDoor
