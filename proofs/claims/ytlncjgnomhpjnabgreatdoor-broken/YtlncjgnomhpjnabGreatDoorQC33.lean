import Derived.Test.YtlncjgnomhpjnabGreatDoorQC32
import Derived.Deep.DeepCutAuto
import Derived.Deep.RegionHeld3
import Derived.Test.YtlncjgnomhpjnabGreatDoorQC10
import Derived.Test.YtlncjgnomhpjnabGreatDoorQC0
namespace Go.Proofs.YtlncjgnomhpjnabGreatDoor
open Go.Value renaming int → O
open Go.IntKind renaming i64 → I
open Go.Proofs.Tryz (prog)
open Go.RowKit Go.Deep
set_option linter.unusedVariables false
theorem hd_bd {T:List UInt8} (h:HdP T):1<=dCh T/\dCh T<=4/\4<=dDe T/\dDe T<=12/\1<=dBl T/\dBl T<=32/\dSa T<=300/\dSe T<=255/\dNp T<=300/\22<=dSz T/\dSz T<=T.length:=by
 have h4:=h.2.2.2.1;have hin:=h.2.2.1;have h0:22<=dSz T:=by unfold dSz;omega
 have hse:dSe T < 256:=y7i T 10 11 (by omega) (by have:=h.1;omega);simp only [infoB,Bool.and_eq_true,z0h] at hin;have hNP:dNp T<=300:=by
  unfold dNp nPts;split
  . omega
  . have h1:=z1a (S:=dSa T) (B:=dBl T) (by omega)
    have h2:=z1a (S:=nBlk (dSa T) (dBl T)) (B:=dSe T) (by omega);omega
 omega
theorem RowsL.grown {base:Nat} {u u':World} {v:Value} {n nn g:Nat} {H:Nat->Nat->Int} (h:RowsL base u v n nn H) (hg:u.grownBy u' (some g)) (hb:g < base):RowsL base u' v n nn H:=by
 obtain ⟨q,vs,ogs,h1,h2,h3,h4,h5⟩:=h;exact ⟨q,vs,ogs,h1,h2,z1U h3 (hg.block _ h3.lt (by simp;omega)),fun c hc=>⟨(h4 c hc).1.keep fun k hk=>hg.block _ ((h4 c hc).1.lt hk) (by have:=(h4 c hc).2 k hk;simp;omega),(h4 c hc).2⟩,h5⟩
theorem FrsOut.all {e:Ending} {w w':World} {n d B S k0:Nat} {X:List UInt8} (h:FrsOut e w w' n d B S k0 X):∃ (m gl:Nat) (la:Option Addr) (lc:Nat) (bf:Bool),e=.returned (.agg #[.slice (some ⟨gl,0,none⟩) n n,.slice la m lc,.bool bf])/\(bf=true↔(k0+m=nBlk S B/\offX X m=X.length))/\RunIs n d B S k0 X m/\RowsL w.heap.size w' (.slice (some ⟨gl,0,none⟩) n n) n (chN B S k0 m) (smpL n d B S k0 X m) /\
 w'.ownsRow w.heap.size 3 1 (.slice la m lc) m (lnL (lnX X) m)/\Below w.heap.size w w':=by
 obtain ⟨m,v,lv,hr,rfl,hrow,hl,hb⟩:=h.rows;obtain ⟨la,lc,rfl⟩:=z1S hl;obtain ⟨g,A,C,rfl,-⟩:=hrow.open;exact ⟨m,g,la,lc,_,rfl,decide_eq_true_iff,hr,hrow,hl,hb⟩
theorem y8v {b:Nat->Bool} {N o width n:Nat} {l:Nat->Int} (hn1:1<=n) (hw1:1<=width) (hw:width<=13) (hfit:∀ j,j < n->fitsB width (l j)=true) (hT:SaysT b o (subT width l n)) (hL:o+(subT width l n).length<=N) :
 ∃ x,z2G b N o width n=some (x,o+(subT width l n).length)/\∀ j,j < n->x j=l j:=by
 obtain ⟨r,h1,h2,h3⟩:=y5D (b:=shB b o) (N:=N - o) hn1 hw1 hw hfit (fun i hi=>by
  have:=hT i hi;rw [this];unfold shB;rw [Nat.zero_add]) (by omega)
 refine ⟨r.1,?_,h3⟩;rw [z2P (by omega),h1,← h2]
 rfl
def catS (d n m N:Nat) (l:Nat->Nat->Int):Nat->List UInt8
 | 0=>[]
 | i+1=>catS d n m N l i ++ subT (widN d n m i) (l i) N
theorem z9v {b:Nat->Bool} {M d n m N:Nat} {l:Nat->Nat->Int} (hN:1<=N) (hd1:1<=d) (hd:d<=12):∀ i,(∀ k,k < i->∀ j,j < N->fitsB (widN d n m k) (l k j)=true)->SaysT b 0 (catS d n m N l i)->(catS d n m N l i).length<=M ->
 ∃ G,z1d b M d n m N i=some (G,(catS d n m N l i).length)/\∀ k,k < i->∀ j,j < N->G k j=l k j
 | 0,_,_,_=>⟨_,rfl,fun k hk=>absurd hk (Nat.not_lt_zero k)⟩
 | i+1,hf,hT,hM=>by
  have hM':(catS d n m N l i).length+(subT (widN d n m i) (l i) N).length<=M:=by
   have:(catS d n m N l (i+1)).length=(catS d n m N l i).length+(subT (widN d n m i) (l i) N).length:=List.length_append;omega
  obtain ⟨G,h1,h2⟩:=z9v (b:=b) (M:=M) (n:=n) (m:=m) (l:=l) hN hd1 hd i (fun k hk=>hf k (by omega)) hT.left (by omega);have hw:=z3H (n:=n) (m:=m) (i:=i) hd1 hd;have hR:SaysT b (catS d n m N l i).length (subT (widN d n m i) (l i) N):=by
   have:=SaysT.right (T:=catS d n m N l i) hT
   rwa [Nat.zero_add] at this
  obtain ⟨x,h3,h4⟩:=y8v hN hw.1 hw.2 (hf i (by omega)) hR hM';refine ⟨upd2 G i x,?_,fun k hk j hj=>?_⟩
  . unfold z1d
    rw [h1]
    show Option.map _ (z2G b M (catS d n m N l i).length (widN d n m i) N)=_
    rw [h3];have e:(catS d n m N l (i+1)).length=(catS d n m N l i).length+(subT (widN d n m i) (l i) N).length:=List.length_append;rw [e]
    rfl
  . unfold upd2
    by_cases e:k=i
    . rw [if_pos e,e];exact h4 j hj
    . rw [if_neg e];exact h2 k (by omega) j hj
def toldL (n m:Nat) (F:Nat->Nat->Int) (i:Nat):Nat->Int:=if n=2 then (if i=0 then l1 (F 0) (F 1) m else l2 (F 0) (F 1) m) else F i
theorem y1J {d n m N:Nat} {F:Nat->Nat->Int} (hn:n ≠ 2):∀ i,catS d n m N (toldL n m F) i=allT d F N i
 | 0=>rfl
 | i+1=>by
  show catS d n m N (toldL n m F) i ++ _=allT d F N i ++ _
  rw [y1J hn i];unfold widN toldL;rw [if_neg hn,if_neg hn]
theorem z7d (d n:Nat) (F:Nat->Nat->Int) (N:Nat):z0j d n F N=catS d n (modeN d n F N) N (toldL n (modeN d n F N) F) n:=by
 unfold z0j
 by_cases h:n=2
 . rw [if_pos h,y5S _ _ _ _ _ (z5f d n F N)]
   generalize modeN d n F N=m;subst h
   rfl
 . rw [if_neg h,y1J h]
theorem y4y {d n m N:Nat} {F:Nat->Nat->Int} (hd1:1<=d) (hm:m < 4) (hn:n<=4) (hF:∀ i,i < n->∀ j,j < N->fitsB d (F i j)=true):∀ i,i < n->∀ j,j < N->fitsB (widN d n m i) (toldL n m F i j)=true:=fun i hi j hj=>by
 unfold widN toldL
 by_cases h:n=2
 . subst h
   have f0:=hF 0 (by omega) j hj;have f1:=hF 1 (by omega) j hj;have fs:=z8T hd1 f0 f1;have fm:=y1r f0 f1;rw [if_pos rfl,if_pos rfl]
   by_cases e:i=0
   . rw [if_pos e,if_pos e]
     match m,hm with
     | 0,_=>exact f0
     | 1,_=>exact f0
     | 2,_=>exact fs
     | 3,_=>exact fm
   . rw [if_neg e,if_neg e]
     match m,hm with
     | 0,_=>exact f1
     | 1,_=>exact fs
     | 2,_=>exact f1
     | 3,_=>exact fs
 . rw [if_neg h,if_neg h]
   exact hF i hi j hj
theorem y0A {n m:Nat} {F G:Nat->Nat->Int} {i j:Nat} (hm:m < 4) (hi:i < n) (hG:∀ k,k < n->G k j=toldL n m F k j):unG n m G i j=F i j:=by
 unfold unG
 by_cases h:n=2
 . subst h
   have e0:=hG 0 (by omega);have e1:=hG 1 (by omega);unfold toldL at e0 e1;rw [if_pos rfl,if_pos rfl] at e0;rw [if_pos rfl,if_neg (by omega)] at e1;have hii:i=0∨i=1:=by omega
   rw [if_pos rfl,e0,e1]
   match m,hm with
   | 0,_=>rcases hii with rfl | rfl <;> rfl
   | 1,_ =>
    rcases hii with rfl | rfl
    . rfl
    . show F 0 j - (F 0 j - F 1 j)=_;omega
   | 2,_ =>
    rcases hii with rfl | rfl
    . show F 0 j - F 1 j+F 1 j=_;omega
    . rfl
   | 3,_ =>
    rcases hii with rfl | rfl
    . show (F 0 j+F 1 j) / 2+(F 0 j - F 1 j+1) / 2=_;omega
    . show (F 0 j+F 1 j) / 2+(F 0 j - F 1 j+1) / 2 - (F 0 j - F 1 j)=_;omega
 . rw [if_neg h]
   have:=hG i hi;unfold toldL at this
   rwa [if_neg h] at this
theorem z6k (t:List UInt8) (j:Nat):z0w (packT t) j=(decide (j < t.length) && tbit t j):=by
 unfold z0w;have hdm:8 * (j / 8)+j % 8=j:=by omega
 by_cases h:j / 8 < (t.length+7) / 8
 . have e:(packT t).getD (j / 8) 0=pkB t (j / 8):=by
     unfold packT;rw [List.getD_eq_getElem?_getD,List.getElem?_map,List.getElem?_range h]
     rfl
   rw [e,y3B,z5F];have e2:8 * (j / 8)+(7 - (7 - j % 8))=j:=by omega
   rw [e2,decide_eq_true (show 7 - j % 8 < 8 by omega),Bool.true_and]
 . have e:(packT t).getD (j / 8) 0=0:=by
     rw [List.getD_eq_getElem?_getD,List.getElem?_eq_none (by rw [z1e];omega)]
     rfl
   rw [e,decide_eq_false (show ¬ j < t.length by omega)];simp
theorem y4z {t:List UInt8} (h:AllB t):SaysT (z0w (packT t)) 0 t:=fun i hi=>by
 rw [Nat.zero_add,z6k,decide_eq_true hi,Bool.true_and];exact y1o h i hi
theorem y6l {d n N:Nat} {F:Nat->Nat->Int} (hN:1<=N) (hd1:1<=d) (hd:d<=12) (hn:n<=4) (hF:∀ i,i < n->∀ j,j < N->fitsB d (F i j)=true) :
 ∃ H,InsP (z0u (packT (z0j d n F N)) (packT (z0j d n F N)).length) (z0w (packT (z0j d n F N))) d n (modeN d n F N) N H/\∀ i,i < n->∀ j,j < N->H i j=F i j:=by
 have hm:=z5f d n F N;have hbt:=z7d d n F N;have hsl:(z0u (packT (z0j d n F N)) (packT (z0j d n F N)).length).length=8 * (((z0j d n F N).length+7) / 8):=by
  unfold z0u;rw [List.length_map,List.length_range,z1e]
 have hsays:SaysT (z0w (packT (z0j d n F N))) 0 (z0j d n F N):=y4z (z5G d n F N);obtain ⟨G,h1,h2⟩:=z9v (b:=z0w (packT (z0j d n F N))) (M:=8 * (((z0j d n F N).length+7) / 8)) (m:=modeN d n F N) (l:=toldL n (modeN d n F N) F) hN hd1 hd n (y4y hd1 hm hn hF) (by rw [← hbt];exact hsays) (by rw [← hbt];omega);rw [← hbt] at h1;refine ⟨unG n (modeN d n F N) G,⟨G,(z0j d n F N).length,by rw [hsl];exact h1,⟨?_,fun j hj=>?_⟩,fun h=>?_,rfl⟩,fun i hi j hj=>y0A hm hi (fun k hk=>h2 k hk j hj)⟩
 . rw [List.length_drop,hsl];omega
 . have hj2:(z0j d n F N).length+j < 8 * (packT (z0j d n F N)).length:=by
     rw [List.length_drop,hsl] at hj;rw [z1e];omega
   rw [List.getD_eq_getElem?_getD,List.getElem?_drop];unfold z0u;rw [List.getElem?_map,List.getElem?_range hj2]
   show ltr (z0w _ _)=48
   rw [z6k,decide_eq_false (by omega)]
   rfl
 . subst h
   intro j hj;have e0:=y0A (F:=F) (i:=0) (j:=j) hm (by omega) (fun k hk=>h2 k hk j hj);have e1:=y0A (F:=F) (i:=1) (j:=j) hm (by omega) (fun k hk=>h2 k hk j hj);unfold unG at e0 e1;rw [if_pos rfl,if_pos rfl] at e0;rw [if_pos rfl,if_neg (by omega)] at e1;rw [e0,e1];exact ⟨hF 0 (by omega) j hj,hF 1 (by omega) j hj⟩
theorem z9w (number len n mode:Nat) (R:List UInt8) (h1:number < 65536) (h2:len < 65536) (h3:n - 1 < 256) (h4:mode < 256) :
 hNum (headT number len n mode ++ R)=number/\hLen (headT number len n mode ++ R)=len/\hCnt (headT number len n mode ++ R)=n - 1/\hMode (headT number len n mode ++ R)=mode:=by
 have hl:=z1l number len n mode;unfold hNum hLen hCnt hMode;rw [z0c _ _ 1 3 (by omega) (by omega),z0c _ _ 3 5 (by omega) (by omega),z0c _ _ 5 6 (by omega) (by omega),z0c _ _ 6 7 (by omega) (by omega)];unfold headT;refine ⟨?_,?_,?_,?_⟩
 . rw [z0c _ _ 1 3 (by omega) (by simp [z0a]),z0c _ _ 1 3 (by omega) (by simp [z0a]),z0c _ _ 1 3 (by omega) (by simp [z0a]),z0q _ _ 1 3 (by simp [z0a]),z0a,z0r _ _ (by rw [z0a]),z0P 2 _ (by omega)]
 . rw [z0c _ _ 3 5 (by omega) (by simp [z0a]),z0c _ _ 3 5 (by omega) (by simp [z0a]),z0q _ _ 3 5 (by simp [z0a]),List.length_append,z0a,z0a,z0r _ _ (by rw [z0a]),z0P 2 _ (by omega)]
 . rw [z0c _ _ 5 6 (by omega) (by simp [z0a]),z0q _ _ 5 6 (by simp [z0a]),List.length_append,List.length_append,z0a,z0a,z0a,z0r _ _ (by rw [z0a]),z0P 1 _ (by omega)]
 . rw [z0q _ _ 6 7 (by simp [z0a]),List.length_append,List.length_append,List.length_append,z0a,z0a,z0a,z0a,z0r _ _ (by rw [z0a]),z0P 1 _ (by omega)]
theorem y2A {d n N B number:Nat} {F:Nat->Nat->Int} (R:List UInt8) (hN:1<=N) (hNB:N<=B) (hB:B<=32) (hd1:1<=d) (hd:d<=12) (hn1:1<=n) (hn:n<=4) (hnum:number < 65536) (hF:∀ i,i < n->∀ j,j < N->fitsB d (F i j)=true) :
 ∃ H,FrmP (z1f number N (modeN d n F N) (z0j d n F N) ++ R) n d B number H/\hCnt (z1f number N (modeN d n F N) (z0j d n F N) ++ R)+1=N/\hLen (z1f number N (modeN d n F N) (z0j d n F N) ++ R)=(z1f number N (modeN d n F N) (z0j d n F N)).length/\∀ i,i < n->∀ j,j < N->H i j=F i j:=by
 have hm:=z5f d n F N;have hbd:=z5H d n F N hN (by omega) hd hn1 hn;obtain ⟨H,hI,hH⟩:=y6l hN hd1 hd hn hF;have hm2:(modeN d n F N:Int) < z2L n:=by
  unfold z2L
  by_cases h:n=2
  . rw [if_pos (by omega)];omega
  . rw [if_neg (by omega)]
    unfold modeN;rw [if_neg h]
    decide
 have hpl:=z1e (z0j d n F N);have hfl:=z1Q number N (modeN d n F N) (z0j d n F N);generalize modeN d n F N=m at *;generalize z0j d n F N=bits at *;generalize hP:packT bits=P at *;have hhl:=z1l number (P.length+10) N m;have hT:z1f number N m bits ++ R=headT number (P.length+10) N m ++ (inT (crc 8 263 (headT number (P.length+10) N m)) 1 ++ (P ++ (inT (crc 16 98309 (seal8 (headT number (P.length+10) N m) ++ P)) 2 ++ R))):=by
  unfold z1f;rw [hP];unfold z0H;rw [List.append_assoc,List.append_assoc];unfold seal8;rw [List.append_assoc]
 obtain ⟨p1,p2,p3,p4⟩:=z9w number (P.length+10) N m (inT (crc 8 263 (headT number (P.length+10) N m)) 1 ++ (P ++ (inT (crc 16 98309 (seal8 (headT number (P.length+10) N m) ++ P)) 2 ++ R))) hnum (by omega) (by omega) (by omega);rw [← hT] at p1 p2 p3 p4;have t7:(z1f number N m bits ++ R).take 7=headT number (P.length+10) N m:=by
  rw [hT,List.take_append_of_le_length (by omega)];exact List.take_of_length_le (by omega)
 have t8:(z1f number N m bits ++ R).take 8=seal8 (headT number (P.length+10) N m):=by
  rw [hT,← List.append_assoc];rw [List.take_append_of_le_length (by rw [List.length_append,hhl,z0a];omega)];exact List.take_of_length_le (by rw [List.length_append,hhl,z0a];omega)
 have tp:(z1f number N m bits ++ R).take (P.length+8)=seal8 (headT number (P.length+10) N m) ++ P:=by
  rw [hT,← List.append_assoc,← List.append_assoc];rw [List.take_append_of_le_length (by simp only [List.length_append,hhl,z0a];omega)];exact List.take_of_length_le (by simp only [List.length_append,hhl,z0a];omega)
 have tl:(z1f number N m bits ++ R).take (P.length+10)=z1f number N m bits:=by
  rw [List.take_append_of_le_length (by omega)];exact List.take_of_length_le (by omega)
 have hins:insT (z1f number N m bits ++ R)=P:=by
  unfold insT;rw [p2,hT,← List.append_assoc,z0q _ _ _ _ (by rw [List.length_append,hhl,z0a];omega)];rw [List.length_append,hhl,z0a,z0c _ _ _ _ (by omega) (by omega)];exact z0r _ _ (by omega)
 refine ⟨H,⟨⟨?_,?_,by rw [t7,t8]⟩,by rw [p1],⟨⟨?_,?_⟩,?_,?_⟩,?_,?_⟩,?_,?_,hH⟩
 . rw [List.length_append];omega
 . have e:(z1f number N m bits ++ R).getD 0 0=(headT number (P.length+10) N m).getD 0 0:=by
     rw [← t7,List.getD_eq_getElem?_getD,List.getD_eq_getElem?_getD,List.getElem?_take_of_lt (by omega)]
   rw [e]
   rfl
 . rw [p2];omega
 . rw [p2,List.length_append];omega
 . rw [p3];omega
 . rw [p4];exact hm2
 . rw [p2,show P.length+10 - 2=P.length+8 by omega,tp,tl]
   unfold z1f;rw [hP]
 . rw [hins,p4,p3,Nat.sub_add_cancel hN]
   exact hI
 . rw [p3];omega
 . rw [p2];omega
theorem y6m (tmps:Array Value) (R:Nat) (v:Value) (k:Int) (cs:Array Value) (W:World) (h:Bx W R 39 cs) (hs:cs.size=6) (h2:tmps.getD 2 undef=.pointer (some ⟨R,0,none⟩)) (h3:tmps.getD 3 undef=v) (h4:tmps.getD 4 undef=O I k) :
 (results Tryz.f17 tmps).run prog W=.ok (.tuple #[.agg cs,v,O I k]) W:=by
 have hl:=run_loadVar_row (P:=prog) W R 39 39 cs (0,0) _ h Tryz.underlying39 rfl (by rw [hs];exact z1t);rw [Array.getD_eq_getD_getElem?] at h2 h3 h4;simp [results,Tryz.results17,asAddr,h2,h3,h4,hl]
def SalAns (e:Ending) (w w':World) (T:List UInt8):Prop :=
 (
  (T.length<=9000/\HdP T/\∃ m v,RunIs (dCh T) (dDe T) (dBl T) (dSa T) 0 (T.drop (dSz T)) m/\e=.returned (.tuple #[dInfo T,v,O I 0])/\RowsL w.heap.size w' v (dCh T) (chN (dBl T) (dSa T) 0 m) (smpL (dCh T) (dDe T) (dBl T) (dSa T) 0 (T.drop (dSz T)) m))
  ∨ (¬ (T.length<=9000/\HdP T)/\e=.returned (.tuple #[info0,.slice none 0 0,O I (if T.length<=9000 then 7 else 4)])))/\Below w.heap.size w w'
theorem y7Q (tmps:Array Value) (R:Nat) (v:Value) (k:Int) (cs:Array Value) (W:World) (h:Bx W R 39 cs) (hs:cs.size=6) (h2:tmps.getD 2 undef=.pointer (some ⟨R,0,none⟩)) (h3:tmps.getD 3 undef=v) (h4:tmps.getD 4 undef=O I k) :
 (results Tryz.f116 tmps).run prog W=.ok (.tuple #[.agg cs,v,O I k]) W:=by
 have hl:=run_loadVar_row (P:=prog) W R 39 39 cs (0,0) _ h Tryz.underlying39 rfl (by rw [hs];exact z1t);rw [Array.getD_eq_getD_getElem?] at h2 h3 h4;simp [results,Tryz.results116,asAddr,h2,h3,h4,hl]
theorem y4A (a b c:Value) (u:World):Sem.run prog (Instr.field 117 (.agg #[a,b,c]) 0) u=.ok a u:=by kernel_rfl
theorem y8w {g q:Nat} {c0 c1 c2 c3 c4 c5:Int} {s0 s1 s2 s3 s4 s5:Value} {u:World} (hq:g ≠ q) (h:g < u.heap.size/\u.cell? ⟨g,0,none⟩=some (O I c0)/\u.cell? ⟨g,1,none⟩=some (O I c1)/\u.cell? ⟨g,2,none⟩=some (O I c2)/\u.cell? ⟨g,3,none⟩=some (O I c3)/\u.cell? ⟨g,4,none⟩=some (O I c4)/\u.cell? ⟨g,5,none⟩=some (O I c5)):g < ((((((u.setCell ⟨q,0,none⟩ s0).setCell ⟨q,1,none⟩ s1).setCell ⟨q,2,none⟩ s2).setCell ⟨q,3,none⟩ s3).setCell ⟨q,4,none⟩ s4).setCell ⟨q,5,none⟩ s5).heap.size/\((((((u.setCell ⟨q,0,none⟩ s0).setCell ⟨q,1,none⟩ s1).setCell ⟨q,2,none⟩ s2).setCell ⟨q,3,none⟩ s3).setCell ⟨q,4,none⟩ s4).setCell ⟨q,5,none⟩ s5).cell? ⟨g,0,none⟩=some (O I c0)/\((((((u.setCell ⟨q,0,none⟩ s0).setCell ⟨q,1,none⟩ s1).setCell ⟨q,2,none⟩ s2).setCell ⟨q,3,none⟩ s3).setCell ⟨q,4,none⟩ s4).setCell ⟨q,5,none⟩ s5).cell? ⟨g,1,none⟩=some (O I c1)/\((((((u.setCell ⟨q,0,none⟩ s0).setCell ⟨q,1,none⟩ s1).setCell ⟨q,2,none⟩ s2).setCell ⟨q,3,none⟩ s3).setCell ⟨q,4,none⟩ s4).setCell ⟨q,5,none⟩ s5).cell? ⟨g,2,none⟩=some (O I c2)/\((((((u.setCell ⟨q,0,none⟩ s0).setCell ⟨q,1,none⟩ s1).setCell ⟨q,2,none⟩ s2).setCell ⟨q,3,none⟩ s3).setCell ⟨q,4,none⟩ s4).setCell ⟨q,5,none⟩ s5).cell? ⟨g,3,none⟩=some (O I c3)/\((((((u.setCell ⟨q,0,none⟩ s0).setCell ⟨q,1,none⟩ s1).setCell ⟨q,2,none⟩ s2).setCell ⟨q,3,none⟩ s3).setCell ⟨q,4,none⟩ s4).setCell ⟨q,5,none⟩ s5).cell? ⟨g,4,none⟩=some (O I c4)/\((((((u.setCell ⟨q,0,none⟩ s0).setCell ⟨q,1,none⟩ s1).setCell ⟨q,2,none⟩ s2).setCell ⟨q,3,none⟩ s3).setCell ⟨q,4,none⟩ s4).setCell ⟨q,5,none⟩ s5).cell? ⟨g,5,none⟩=some (O I c5):=by
 have hg:=z3n u q s0 s1 s2 s3 s4 s5;have e1:∀ j v,u.cell? ⟨g,j,none⟩=some v->((((((u.setCell ⟨q,0,none⟩ s0).setCell ⟨q,1,none⟩ s1).setCell ⟨q,2,none⟩ s2).setCell ⟨q,3,none⟩ s3).setCell ⟨q,4,none⟩ s4).setCell ⟨q,5,none⟩ s5).cell? ⟨g,j,none⟩=some v:=fun j v hv=>hg.cell hv (by simpa using hq)
 exact ⟨Nat.lt_of_lt_of_le h.1 hg.size,e1 _ _ h.2.1,e1 _ _ h.2.2.1,e1 _ _ h.2.2.2.1,e1 _ _ h.2.2.2.2.1,e1 _ _ h.2.2.2.2.2.1,e1 _ _ h.2.2.2.2.2.2⟩
set_option maxRecDepth 4000 in
set_option maxHeartbeats 2000000 in
theorem z4h (T:List UInt8) (w:World) (hs:T.length<=9000) (hp:HdP T) (hT:TabsU w) (HR:∀ u,Calls prog 69 #[.string (bs T)] u fun e w'=>HdOut e u w' T) :
 Calls prog 116 #[.string (bs T)] w fun e w'=>SalAns e w w' T:=by
 obtain ⟨b1,b2,b3,b4,b5,b6,b7,b8,b9,b10,b11⟩:=hd_bd hp;have HHR:=zZ HR;have HFR:=zZ (fun (u:World) (hu:Below w.heap.size w u)=>z6F (dCh T) (dDe T) (dBl T) (dRa T) (dSe T) (dSa T) 0 (T.drop (dSz T)) u b3 b4 b1 b2 b5 b6 b7 (Nat.zero_le _) (by rw [List.length_drop];omega) (hT.below hu));have HZ0:Hid (Bx (w.alloc (.cells #[O I 0,O I 0,O I 0,O I 0,O I 0,O I 0] 39)) w.heap.size 39 #[O I 0,O I 0,O I 0,O I 0,O I 0,O I 0]):=Bx.new _ _ _;have HB0:Hid (Below w.heap.size w (w.alloc (.cells #[O I 0,O I 0,O I 0,O I 0,O I 0,O I 0] 39))):=zX.alloc zY _;have HY:=zZ hp;obtain ⟨bw,hbw⟩:∃ b,decide (dWh T=1)=b:=⟨_,rfl⟩;have HBW:=zZ hbw;clear hbw;have hz:(bs T).size=T.length:=z0e T;have eS:(bs T).extract (dSz T) T.length=bs (T.drop (dSz T)):=by
  rw [z3a,List.take_of_length_le (by rw [List.length_drop];exact Nat.le_refl _)]
 have i1:((dSz T:Nat):Int)<=(T.length:Int):=by omega
 clear hp hT;generalize bs (T.drop (dSz T))=SX at *;generalize bs T=SB at *
 go_enter Tryz.func116,Tryz.ntmps116
 go_wp2_with (first
  | (go_at_call 69;refine (HHR.out _).mono ?_;intro e u1 ho;obtain ⟨pa,pc,rfl,hown,hb⟩:=ho.yes HY.out HBW.out;have HZ1:=zZ (HZ0.out.below hb);have HB1:=zZ (HB0.out.trans (hb.mono HB0.out.size));clear HHR ho hb HZ0 HB0 hown))
 have HZU:=zZ (HZ1.out.alloc (.cells #[O I (dCh T),O I (dDe T),O I (dBl T),O I (dRa T),O I (dSe T),O I (dSa T),.bool bw,O I (dLe T),O I (dMo T),O I (dSu T),.slice pa (dNp T) pc] 110));have HHU:=zZ (Bx.new u1 #[O I (dCh T),O I (dDe T),O I (dBl T),O I (dRa T),O I (dSe T),O I (dSa T),.bool bw,O I (dLe T),O I (dMo T),O I (dSu T),.slice pa (dNp T) pc] 110);have HBU:=zZ (HB1.out.alloc HB1.out.size (.cells #[O I (dCh T),O I (dDe T),O I (dBl T),O I (dRa T),O I (dSe T),O I (dSa T),.bool bw,O I (dLe T),O I (dMo T),O I (dSu T),.slice pa (dNp T) pc] 110));have hHn:u1.heap.size ≠ w.heap.size:=Nat.ne_of_gt HZ1.out.lt;clear HZ1 HB1;generalize hU:u1.alloc (.cells #[O I (dCh T),O I (dDe T),O I (dBl T),O I (dRa T),O I (dSe T),O I (dSa T),.bool bw,O I (dLe T),O I (dMo T),O I (dSu T),.slice pa (dNp T) pc] 110)=U at *;clear hU;generalize u1.heap.size=H at *;have hrl:=fun (a b c:Value) (u:World)=>y4A a b c u
 have hS0:H < U.drew.heap.size/\U.drew.cell? ⟨H,0,none⟩=some (O I (dCh T))/\U.drew.cell? ⟨H,1,none⟩=some (O I (dDe T))/\U.drew.cell? ⟨H,2,none⟩=some (O I (dBl T))/\U.drew.cell? ⟨H,3,none⟩=some (O I (dRa T))/\U.drew.cell? ⟨H,4,none⟩=some (O I (dSe T))/\U.drew.cell? ⟨H,5,none⟩=some (O I (dSa T)):=⟨HHU.out.lt,HHU.out.cell 0,HHU.out.cell 1,HHU.out.cell 2,HHU.out.cell 3,HHU.out.cell 4,HHU.out.cell 5⟩
 go_region_held3 (fun w'=>H < w'.heap.size/\w'.cell? ⟨H,0,none⟩=some (O I (dCh T))/\w'.cell? ⟨H,1,none⟩=some (O I (dDe T))/\w'.cell? ⟨H,2,none⟩=some (O I (dBl T))/\w'.cell? ⟨H,3,none⟩=some (O I (dRa T))/\w'.cell? ⟨H,4,none⟩=some (O I (dSe T))/\w'.cell? ⟨H,5,none⟩=some (O I (dSa T))) (first | with_reducible exact hS0 | with_reducible exact hS1 | with_reducible exact y8w hHn hS1)
  (first
  | (go_at_call 72;refine (HFR.out _ HBU.out.drew).mono ?_;intro e u2 ho;obtain ⟨m,gl,la,lc,bf,rfl,hfl,hri,hrow,hl,hb⟩:=ho.all;have hb2:Below U.heap.size U u2:=⟨hb.os,hb.tape,hb.output,hb.size,hb.block⟩;have hS1:H < u2.heap.size/\u2.cell? ⟨H,0,none⟩=some (O I (dCh T))/\u2.cell? ⟨H,1,none⟩=some (O I (dDe T))/\u2.cell? ⟨H,2,none⟩=some (O I (dBl T))/\u2.cell? ⟨H,3,none⟩=some (O I (dRa T))/\u2.cell? ⟨H,4,none⟩=some (O I (dSe T))/\u2.cell? ⟨H,5,none⟩=some (O I (dSa T)):=z7M hb hS0;have HROW:=zZ (hrow.mono (show w.heap.size+1<=_ from HZU.out.lt));have HRI:=zZ hri;have HZ2:=zZ (HZU.out.below hb2);have HB2:=zZ (HBU.out.trans (hb2.mono HBU.out.size));obtain ⟨q0,q1,q2,q3,q4,q5,z0,z1,z2,z3,z4,z5⟩:=z6V HZ2.out;clear HFR ho hb hb2 hfl hri hrow hl hS0))
 go_wp2_with fail;have HL:=zZ (And.intro hs HY.out);refine bodyPost_ret (y7Q _ w.heap.size (.slice (some ⟨gl,0,none⟩) (dCh T) (dCh T)) 0 #[O I (dCh T),O I (dDe T),O I (dBl T),O I (dRa T),O I (dSe T),O I (dSa T)] _ (HZ2.out.set6 _ _ _ _ _ _) rfl rfl rfl rfl) rfl ⟨.inl ⟨HL.out.1,HL.out.2,m,_,HRI.out,rfl,?_⟩,z6U HB2.out zY⟩;exact (HROW.out.grown (z3n u2 w.heap.size _ _ _ _ _ _) (Nat.lt_succ_self _)).mono (Nat.le_succ _)
theorem SalAns.yes {e:Ending} {w w':World} {T:List UInt8} (h:SalAns e w w' T) (hy:T.length<=9000/\HdP T):∃ m gl,RunIs (dCh T) (dDe T) (dBl T) (dSa T) 0 (T.drop (dSz T)) m/\e=.returned (.tuple #[.agg #[O I (dCh T),O I (dDe T),O I (dBl T),O I (dRa T),O I (dSe T),O I (dSa T)],.slice (some ⟨gl,0,none⟩) (dCh T) (dCh T),O I 0])/\RowsL w.heap.size w' (.slice (some ⟨gl,0,none⟩) (dCh T) (dCh T)) (dCh T) (chN (dBl T) (dSa T) 0 m) (smpL (dCh T) (dDe T) (dBl T) (dSa T) 0 (T.drop (dSz T)) m)/\Below w.heap.size w w':=by
 rcases h with ⟨⟨-,-,m,v,h1,rfl,h3⟩ | ⟨hno,-⟩,hb⟩
 . obtain ⟨g,A,C,rfl,-⟩:=h3.open
   exact ⟨m,g,h1,rfl,h3,hb⟩
 . exact absurd hy hno
theorem y6n (tmps:Array Value) (R:Nat) (v:Value) (k:Int) (cs:Array Value) (W:World) (h:Bx W R 39 cs) (hs:cs.size=6) (h2:tmps.getD 2 undef=.pointer (some ⟨R,0,none⟩)) (h3:tmps.getD 3 undef=v) (h4:tmps.getD 4 undef=O I k) :
 (results Tryz.f57 tmps).run prog W=.ok (.tuple #[.agg cs,v,O I k]) W:=by
 have hl:=run_loadVar_row (P:=prog) W R 39 39 cs (0,0) _ h Tryz.underlying39 rfl (by rw [hs];exact z1t);rw [Array.getD_eq_getD_getElem?] at h2 h3 h4;simp [results,Tryz.results57,asAddr,h2,h3,h4,hl]
theorem SalAns.yesM {e:Ending} {w w':World} {T:List UInt8} {m:Nat} (h:SalAns e w w' T) (hy:T.length<=9000/\HdP T) (hm:RunIs (dCh T) (dDe T) (dBl T) (dSa T) 0 (T.drop (dSz T)) m):∃ gl,e=.returned (.tuple #[.agg #[O I (dCh T),O I (dDe T),O I (dBl T),O I (dRa T),O I (dSe T),O I (dSa T)],.slice (some ⟨gl,0,none⟩) (dCh T) (dCh T),O I 0])/\RowsL w.heap.size w' (.slice (some ⟨gl,0,none⟩) (dCh T) (dCh T)) (dCh T) (chN (dBl T) (dSa T) 0 m) (smpL (dCh T) (dDe T) (dBl T) (dSa T) 0 (T.drop (dSz T)) m)/\Below w.heap.size w w':=by
 obtain ⟨m',gl,h1,h2,h3,h4⟩:=h.yes hy;have e:=hm.uniq h1;subst e;exact ⟨gl,h2,h3,h4⟩
end Go.Proofs.YtlncjgnomhpjnabGreatDoor
