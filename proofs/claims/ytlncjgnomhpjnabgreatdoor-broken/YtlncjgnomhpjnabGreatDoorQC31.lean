import Derived.Test.YtlncjgnomhpjnabGreatDoorQC30
import Derived.Test.YtlncjgnomhpjnabGreatDoorQC26
import Derived.Test.YtlncjgnomhpjnabGreatDoorQC28
import Derived.Test.YtlncjgnomhpjnabGreatDoorQC24
import Derived.Deep.AppendLies
import Derived.Test.YtlncjgnomhpjnabGreatDoorQC18
import Derived.Test.YtlncjgnomhpjnabGreatDoorQC17
import Derived.Test.YtlncjgnomhpjnabGreatDoorQC1
import Derived.Test.YtlncjgnomhpjnabGreatDoorQC0
namespace Go.Proofs.YtlncjgnomhpjnabGreatDoor
open Go.Value renaming int → O
open Go.IntKind renaming i64 → I
open Go.Proofs.Tryz (prog)
open Go.RowKit Go.Deep
set_option linter.unusedVariables false
theorem y4o (c0 c1 B c3 c4 S:Nat) (h0:c0 < 256) (h1:c1 < 256) (h2:B < 256) (h3:c3 < 65536) (h4:c4 < 256) (h5:S < 65536) (np g:Nat) (u:World) (hn:np<=300) (hr:u.rowIs g 3 np (fun _=>O I 0)) :
 Calls prog 129 #[.agg #[O I c0,O I c1,O I B,O I c3,O I c4,O I S,.bool false,O I 0,O I 0,O I 0,.slice (some ⟨g,0,none⟩) np np]] u fun e w'=>e=.returned (.string (bs (z0o 0 c0 c1 B c3 S c4 0 0 0 (List.replicate np 0))))/\Below u.heap.size u w':=by
 have hl:(List.replicate np 0).length=np:=List.length_replicate;have h:=z3c false c0 c1 B c3 S c4 0 0 0 (List.replicate np 0) (some ⟨g,0,none⟩) np u h0 h1 h2 h3 h4 h5 (by omega) (by omega) (by omega) (by omega) (fun p hp=>by have:=List.eq_of_mem_replicate hp;omega)
  (by
   rw [hl];refine fun i hi=>⟨_,rfl,?_⟩
   have:=hr.cell hi;rw [z3U,Nat.zero_add,this]
   show _=some (Value.int .i64 (((List.replicate np 0).getD i 0:Nat):Int))
   rw [List.getD_eq_getElem?_getD,List.getElem?_replicate,if_pos hi]
   rfl)
  (fun x hx hp=>by injection hx with hx;subst hx;exact hr.lt)
 rw [hl] at h;exact h
theorem y4p {u:World} {q:Nat} {o0 o1 o2 o3 o4 o5 o6 o7 o8 o9 o10:Value} (h:Bx u q 110 #[o0,o1,o2,o3,o4,o5,o6,o7,o8,o9,o10]):q < u.heap.size/\u.cell? ⟨q,0,none⟩=some o0/\u.cell? ⟨q,1,none⟩=some o1/\u.cell? ⟨q,2,none⟩=some o2/\u.cell? ⟨q,3,none⟩=some o3/\u.cell? ⟨q,4,none⟩=some o4/\u.cell? ⟨q,5,none⟩=some o5/\u.cell? ⟨q,6,none⟩=some o6 :=
 ⟨h.lt,h.cell 0,h.cell 1,h.cell 2,h.cell 3,h.cell 4,h.cell 5,h.cell 6⟩
theorem Bx.b2 {w w':World} {b:Nat} {t:TypeId} {cs:Array Value} (hb:Below w.heap.size w w') (h:Bx w b t cs):Bx w' b t cs:=h.below hb
theorem y1D {w u w':World} (hb:Below u.heap.size u w') (h:Below w.heap.size w u):Below w.heap.size w w':=h.trans (hb.mono h.size)
set_option maxRecDepth 4000 in
set_option maxHeartbeats 2000000 in
theorem z9s (T:List UInt8) (w:World) (hs:20<=T.length) (hs2:T.length<=9000) (h8:seal8 (T.take 19)=T.take 20) (hf:T.take 2=[82,76]/\dWh T<=1/\infoB (dCh T) (dDe T) (dBl T) (dRa T) (dSe T) (dSa T)=true) (hz2:dSz T<=T.length) (h16:z0H (T.take (dSz T - 2))=T.take (dSz T)) (hw:dWh T=0) (hu:T.take (dSz T)=z0o 0 (dCh T) (dDe T) (dBl T) (dRa T) (dSa T) (dSe T) 0 0 0 (List.replicate (dNp T) 0)):Calls prog 69 #[.string (bs T)] w fun e w'=>HdOut e w w' T:=by
 have hz:(bs T).size=T.length:=z0e T;have HB0:Hid (Below w.heap.size w (w.alloc (.cells #[O I 0,O I 0,O I 0,O I 0,O I 0,O I 0,.bool false,O I 0,O I 0,O I 0,.slice none 0 0] 110))):=zX.alloc zY _;have HZ0:Hid (Bx (w.alloc (.cells #[O I 0,O I 0,O I 0,O I 0,O I 0,O I 0,.bool false,O I 0,O I 0,O I 0,.slice none 0 0] 110)) w.heap.size 110 #[O I 0,O I 0,O I 0,O I 0,O I 0,O I 0,.bool false,O I 0,O I 0,O I 0,.slice none 0 0]):=Bx.new w _ _;have HYES:Hid (HdP T):=(y4n T).2 ⟨⟨hs,h8⟩,hf,⟨hz2,h16⟩,fun _=>hu⟩;have HRF:=zZ (fun u=>z6E T u hs hs2);have hF:(decide (T.take 2=[82,76]) && (decide (dWh T<=1) && infoB (dCh T) (dDe T) (dBl T) (dRa T) (dSe T) (dSa T)))=true:=by
  simpa using hf
 rw [hF] at HRF;unfold hdC at HRF;have hin:=hf.2.2;simp only [infoB,Bool.and_eq_true,z0h] at hin;have HPT:Hid (∀ u,Calls prog 134 #[.agg #[O I (dCh T),O I (dDe T),O I (dBl T),O I (dRa T),O I (dSe T),O I (dSa T)]] u fun e w'=>e=.returned (O I (dNp T))/\Below u.heap.size u w'):=fun u=>z6j (dCh T) (dDe T) (dBl T) (dRa T) (dSe T) (dSa T) u (by omega) (by omega) (by omega) (by omega)
 have hNP:dNp T<=300:=by
  unfold dNp nPts;split
  . omega
  . have h1:=z1a (S:=dSa T) (B:=dBl T) (by omega)
    have h2:=z1a (S:=nBlk (dSa T) (dBl T)) (B:=dSe T) (by omega);omega
 obtain ⟨d2,hd2⟩:∃ d,d=2 * dNp T:=⟨_,rfl⟩;obtain ⟨pe,hpe⟩:∃ d,d=20+2 * dNp T:=⟨_,rfl⟩;obtain ⟨sz,hsz⟩:∃ d,d=dSz T:=⟨_,rfl⟩;have hsz1:sz=22+2 * dNp T:=hsz;have w1:IntKind.i64.wrap (2 * (dNp T:Int))=(d2:Int):=by rw [IntKind.wrap_i64];omega
 have w2:IntKind.i64.wrap (20+(d2:Int))=(pe:Int):=by rw [IntKind.wrap_i64];omega
 have w3:IntKind.i64.wrap ((pe:Int)+2)=(sz:Int):=by rw [IntKind.wrap_i64];omega
 clear hF;have hwb:decide (dWh T=1)=false:=by exact decide_eq_false (by omega)
 rw [hwb] at HRF;clear hwb;have c4:¬ (T.length:Int) < (sz:Int):=by omega
 have c4d:decide ((T.length:Int) < (sz:Int))=false:=decide_eq_false c4;have i4:(sz:Int)<=(T.length:Int):=by omega
 have n4:sz<=T.length:=by omega
 have eS:(bs T).extract 0 sz=bs (T.take sz):=z1q T _;have hSSz:(bs (T.take sz)).size=sz:=by rw [z0e,List.length_take];omega
 have HS16:=zZ (fun u=>z1D (T.take sz) u (by rw [List.length_take];omega));have HQ16:Hid ((2<=(T.take sz).length/\z0H ((T.take sz).take ((T.take sz).length - 2))=T.take sz)↔z0H (T.take (dSz T - 2))=T.take (dSz T)):=by
  have e:(T.take sz).length=sz:=by rw [List.length_take];omega
  show _↔_
  rw [e,List.take_take,Nat.min_eq_left (by omega),hsz];exact ⟨fun h=>h.2,fun h=>⟨by omega,h⟩⟩
 have c1:¬ (T.length:Int) < 20:=by omega
 have c1d:decide ((T.length:Int) < 20)=false:=decide_eq_false c1;have i20:(20:Int)<=(T.length:Int):=by omega
 have n20:20<=T.length:=by omega
 have e20:(bs T).extract 0 20=bs (T.take 20):=z1q T 20;have HS8:=zZ (fun u=>z2z (T.take 20) u (by rw [List.length_take];omega));have HQ8:Hid ((1<=(T.take 20).length/\seal8 ((T.take 20).take ((T.take 20).length - 1))=T.take 20)↔seal8 (T.take 19)=T.take 20):=by
  have e:(T.take 20).length=20:=by rw [List.length_take];omega
  show _↔_
  rw [e,List.take_take];exact ⟨fun h=>h.2,fun h=>⟨by omega,h⟩⟩
 generalize bs (T.take 20)=S20 at *;have HY8:=zZ (HQ8.out.2 h8);have HY16:=zZ (HQ16.out.2 h16);have eP:(bs T).extract 20 pe=bs (z0d T 20 pe):=z2e T 20 pe;have p0:(20:Int)<=(pe:Int):=by omega
 have p1:(pe:Int)<=(T.length:Int):=by omega
 have q0:20<=pe:=by omega
 have q1:pe<=T.length:=by omega
 have HRP:=zZ (fun u=>y6g T pe hpe u (by omega) hNP);have HW:Hid (decide (dWh T=1)=false):=decide_eq_false (by omega);have HSZ:Hid (sz=dSz T):=hsz;have HNP:Hid (dNp T=dNp T):=rfl;have HUN:=zZ (fun u=>z3x (dCh T) (dDe T) (dBl T) (dRa T) (dSe T) (dSa T) u (by omega) (by omega) (by omega) (by omega));rw [show nPts (dSa T) (dBl T) (dSe T)=dNp T from rfl] at HUN;unfold hdC at HUN;have HLA:=zZ (fun g u (h:World.rowIs u g 3 (dNp T) (fun _=>O I 0))=>y4o (dCh T) (dDe T) (dBl T) (dRa T) (dSe T) (dSa T) (by omega) (by omega) (by omega) (by omega) (by omega) (by omega) (dNp T) g u hNP h);have hXX:((bs (T.take sz)).toList == (bs (z0o 0 (dCh T) (dDe T) (dBl T) (dRa T) (dSa T) (dSe T) 0 0 0 (List.replicate (dNp T) 0))).toList)=true:=(z5L _ _).2 (by rw [hsz,hu]);have hYY:bs (T.take sz)=bs (z0o 0 (dCh T) (dDe T) (dBl T) (dRa T) (dSa T) (dSe T) 0 0 0 (List.replicate (dNp T) 0)):=by rw [hsz,hu]
 generalize bs (z0o 0 (dCh T) (dDe T) (dBl T) (dRa T) (dSa T) (dSe T) 0 0 0 (List.replicate (dNp T) 0))=UT at *;have HXX:=zZ hXX;clear hu hXX hYY;clear h8 HQ8 hf hin hz2 h16 HQ16 hd2 hpe hsz hsz1 hw;generalize bs (z0d T 20 pe)=SP at *;generalize bs (T.take sz)=SS at *;generalize hPQ:dPts T=ps at *;generalize hNQ:dNp T=np at *;have HPQ:=zZ hPQ;have HNQ:=zZ hNQ;clear hPQ hNQ;generalize hE3:dCh T=v3 at *;generalize hE4:dDe T=v4 at *;generalize hE5:dBl T=v5 at *;generalize hE6:dRa T=v6 at *;generalize hE8:dSa T=v8 at *;generalize hE10:dSe T=v10 at *;generalize hE11:dLe T=v11 at *;generalize hE13:dMo T=v13 at *;generalize hE15:dSu T=v15 at *;have HE:=zZ (And.intro hE3 (And.intro hE4 (And.intro hE5 (And.intro hE6 (And.intro hE8 (And.intro hE10 (And.intro hE11 (And.intro hE13 hE15))))))));clear hE3 hE4 hE5 hE6 hE8 hE10 hE11 hE13 hE15;generalize bs T=SB at *;generalize T.length=nT at *
 go_enter Tryz.func69,Tryz.ntmps69
 go_wp2_with (first
  | (go_at_call 132;refine (HS8.out _).mono ?_;rintro e u1 ⟨he,hb⟩;have he:=he.true_of HY8.out;subst he;have HZ1:=zZ (HZ0.out.below hb);have HB1:=zZ (HB0.out.trans (hb.mono HB0.out.size));clear HS8 hb HZ0 HB0)
  | (go_at_call 133;refine (HRF.out _).mono ?_;rintro e u2 ⟨rfl,hb⟩;have HZ2:=zZ (HZ1.out.below hb);have HB2:=zZ (HB1.out.trans (hb.mono HB1.out.size));clear HRF hb HZ1 HB1)
  | (go_at_call 134;refine (HPT.out _).mono ?_;rintro e u3 ⟨rfl,hb⟩;have HZ3:=zZ ((HZ2.out.alloc _).below hb);have HH3:Hid (Bx u3 u2.heap.size 110 #[O I v3,O I v4,O I v5,O I v6,O I v10,O I v8,.bool false,O I v11,O I v13,O I v15,.slice none 0 0]):=(Bx.new u2 _ _).below hb;have HB3:=zZ ((HB2.out.alloc HB2.out.size _).trans (hb.mono (HB2.out.alloc HB2.out.size _).size));have HLT:=zZ (show w.heap.size < u2.heap.size from HZ2.out.lt);clear HPT hb HZ2 HB2)
  | (go_at_call 135;refine (HS16.out _).mono ?_;rintro e u4 ⟨he,hb⟩;have he:=he.true_of HY16.out;subst he;have HZ4:=zZ (HZ3.out.below hb);have HH4:=zZ (HH3.out.below hb);have HB4:=zZ (HB3.out.trans (hb.mono HB3.out.size));have f0:=HH4.out.cell 0;have f1:=HH4.out.cell 1;have f2:=HH4.out.cell 2;have f3:=HH4.out.cell 3;have f4:=HH4.out.cell 4;have f5:=HH4.out.cell 5;have f6:=HH4.out.cell 6;clear HS16 hb HZ3 HB3 HH3))
 have kU:=y4p (show Bx u4.drew u2.heap.size 110 _ from HH4.out);have hXX:=HXX.out;clear f0 f1 f2 f3 f4 f5 f6
 go_region_held3 (fun w'=>u2.heap.size < w'.heap.size/\w'.cell? ⟨u2.heap.size,0,none⟩=some (O I v3)/\w'.cell? ⟨u2.heap.size,1,none⟩=some (O I v4)/\w'.cell? ⟨u2.heap.size,2,none⟩=some (O I v5)/\w'.cell? ⟨u2.heap.size,3,none⟩=some (O I v6)/\w'.cell? ⟨u2.heap.size,4,none⟩=some (O I v10)/\w'.cell? ⟨u2.heap.size,5,none⟩=some (O I v8)/\w'.cell? ⟨u2.heap.size,6,none⟩=some (.bool false))
  (with_reducible assumption)
  (first
  | (go_at_call 136;refine (HUN.out _).mono ?_;rintro e u5 ⟨g,rfl,hr,hb⟩;have HR5:=zZ hr;have HH5:=zZ (Bx.b2 hb HH4.out);have HZ5:=zZ (Bx.b2 hb HZ4.out);have HB5:=zZ (y1D hb HB4.out.drew);have kU1:=y4p HH5.out;clear HUN hr hb HH4 HZ4 HB4)
  | (go_at_call 129;refine (HLA.out _ _ HR5.out).mono ?_;rintro e u6 ⟨rfl,hb⟩;have HH6:=zZ (Bx.b2 hb HH5.out);have HZ6:=zZ (Bx.b2 hb HZ5.out);have HB6:=zZ (y1D hb HB5.out);have kU2:=y4p HH6.out;clear HLA hb HH5 HZ5 HB5 HR5))
 go_wp2_with (first
  | (go_at_call 137;refine (HRP.out _).mono ?_;rintro e u9 ⟨pv,rfl,ho,hb⟩;obtain ⟨pa,pc,rfl⟩:=z1S ho;have HO9:=zZ ho;have HGT:=zZ HH6.out.lt;have HZ9:=zZ (HZ6.out.below hb);have HH9:=zZ (HH6.out.below hb);have HB9:=zZ (HB6.out.trans (hb.mono HB6.out.size));have g10:=HH9.out.cell 10;have z10:=HH9.out.fz 10;clear HRP hb ho HZ6 HH6 HB6)
  | (refine z0f rfl _ 110 rfl u2.heap.size 110 #[O I v3,O I v4,O I v5,O I v6,O I v10,O I v8,.bool false,O I v11,O I v13,O I v15,.slice pa np pc] (0,0) _ rfl ((show Bx u9 u2.heap.size 110 (hdC v3 v4 v5 v6 v10 v8 false v11 v13 v15 (.slice none 0 0)) from HH9.out).hd10 (.slice pa np pc)) Tryz.underlying110 rfl z1s ?_)
  | (refine z0b rfl _ _ 110 rfl w.heap.size 110 _ _ rfl rfl (HZ9.out.of ((z0p u9 ⟨u2.heap.size,10,none⟩ _).block _ HZ9.out.lt (by have:=HLT.out;simp;omega))) z1s rfl rfl ?_))
 obtain ⟨HE3,HE4,HE5,HE6,HE8,HE10,HE11,HE13,HE15⟩:=HE.out;have hd:=y7O HZ9.out (#[O I v3,O I v4,O I v5,O I v6,O I v10,O I v8,.bool false,O I v11,O I v13,O I v15,.slice pa np pc]) HB9.out HLT.out HGT.out HO9.out;exact bodyPost_ret (y8u _ w.heap.size sz true _ _ hd.1 rfl rfl rfl rfl) rfl ⟨.inl ⟨HYES.out,_,by rw [HE3,HE4,HE5,HE6,HE8,HE10,HE11,HE13,HE15,HW.out,← HSZ.out];rfl,by rw [HNQ.out,HPQ.out];exact hd.2.1⟩,hd.2.2⟩
theorem y4q {BT:List UInt8} {b:Nat->Bool} {d n m nn:Nat} {H H':Nat->Nat->Int} (h:InsP BT b d n m nn H) (h':InsP BT b d n m nn H'):H=H':=by
 obtain ⟨G,o,h1,-,-,rfl⟩:=h;obtain ⟨G',o',h1',-,-,rfl⟩:=h';rw [h1] at h1'
 injection h1' with e
 injection e with e1 e2
 rw [e1]
theorem z9t {T:List UInt8} {n d:Nat} {c2 number:Int} {H H':Nat->Nat->Int} (h:FrmP T n d c2 number H) (h':FrmP T n d c2 number H'):H=H':=y4q h.2.2.2.2 h'.2.2.2.2
def okF (n d B S k:Nat) (X:List UInt8):Prop:=(∃ H,FrmP X n d B k H)/\hCnt X+1=blkN S B k
open Classical in
noncomputable def smpF (n d B k:Nat) (X:List UInt8):Nat->Nat->Int:=if h:∃ H,FrmP X n d B k H then h.choose else fun _ _=>0
theorem y4r {n d B k:Nat} {X:List UInt8} {H:Nat->Nat->Int} (h:FrmP X n d B k H):smpF n d B k X=H:=by
 have he:∃ H,FrmP X n d B k H:=⟨H,h⟩;unfold smpF;rw [dif_pos he];exact z9t he.choose_spec h
def offX (X:List UInt8):Nat->Nat
 | 0=>0
 | j+1=>offX X j+hLen (X.drop (offX X j))
def atX (X:List UInt8) (j:Nat):List UInt8:=X.drop (offX X j)
def lnX (X:List UInt8) (j:Nat):Nat:=hLen (atX X j)
noncomputable def chL (n d B S k0:Nat) (X:List UInt8) (c:Nat):Nat->List Int
 | 0=>[]
 | j+1=>chL n d B S k0 X c j ++ (List.range (blkN S B (k0+j))).map (smpF n d B (k0+j) (atX X j) c)
def chN (B S k0:Nat):Nat->Nat
 | 0=>0
 | j+1=>chN B S k0 j+blkN S B (k0+j)
theorem z4E (n d B S k0:Nat) (X:List UInt8) (c:Nat):∀ j,(chL n d B S k0 X c j).length=chN B S k0 j
 | 0=>rfl
 | j+1=>by simp [chL,chN,z4E n d B S k0 X c j]
structure RunIs (n d B S k0:Nat) (X:List UInt8) (m:Nat):Prop where
 le:k0+m<=nBlk S B∨m=0
 ok:∀ j,j < m->okF n d B S (k0+j) (atX X j)
 no:k0+m < nBlk S B->¬ okF n d B S (k0+m) (atX X m)
theorem RunIs.uniq {n d B S k0:Nat} {X:List UInt8} {m m':Nat} (h:RunIs n d B S k0 X m) (h':RunIs n d B S k0 X m'):m=m':=by
 rcases Nat.lt_trichotomy m m' with hl | rfl | hl
 . exact absurd (h'.ok m hl) (h.no (by rcases h'.le with e | e <;> omega))
 . rfl
 . exact absurd (h.ok m' hl) (h'.no (by rcases h.le with e | e <;> omega))
theorem okF.len {n d B S k:Nat} {X:List UInt8} (h:okF n d B S k X):10<=hLen X/\hLen X<=X.length:=by
 obtain ⟨⟨H,hH⟩,-⟩:=h;exact hH.2.2.1.1
theorem y4s {n d B S k0:Nat} {X:List UInt8} {m:Nat} (h:∀ j,j < m->okF n d B S (k0+j) (atX X j)):∀ j,j<=m->offX X j<=X.length
 | 0,_=>Nat.zero_le _
 | j+1,hj=>by
  have ih:=y4s h j (by omega);have h1:=(h j (by omega)).len.2;have e:(atX X j).length=X.length - offX X j:=List.length_drop
  show offX X j+hLen (atX X j)<=_
  omega
theorem y1E (X:List UInt8) (j:Nat):(atX X j).drop (lnX X j)=atX X (j+1):=by
 show (X.drop (offX X j)).drop (hLen (X.drop (offX X j)))=X.drop (offX X j+hLen (X.drop (offX X j)))
 rw [List.drop_drop]
theorem z4f {B S k0:Nat}:∀ j,(k0+j) * B<=S->chN B S k0 j=j * B
 | 0,_=>by simp [chN]
 | j+1,h=>by
  have e:(k0+(j+1)) * B=(k0+j) * B+B:=by rw [← Nat.add_assoc,Nat.add_one_mul]
  have ih:=z4f (B:=B) (S:=S) (k0:=k0) j (by omega);have e2:(j+1) * B=j * B+B:=Nat.add_one_mul _ _;unfold chN blkN;rw [ih];omega
theorem y7j {B S k0 m:Nat} (hB:1<=B) (h:k0+m<=nBlk S B):chN B S k0 m<=S:=by
 cases m with
 | zero=>exact Nat.zero_le _
 | succ j =>
  have hl:(k0+j) * B < S:=(z1b hB).1 (by omega);have h1:=z4f (B:=B) (S:=S) (k0:=k0) j (by omega);have e:(k0+j) * B=k0 * B+j * B:=Nat.add_mul _ _ _;unfold chN blkN;rw [h1];omega
theorem y4t {B S k0 m:Nat} (hB:1<=B) (hm:k0+m=nBlk S B) (hk:k0 * B<=S):chN B S k0 m=S - k0 * B:=by
 cases m with
 | zero =>
  have h:¬ k0 < nBlk S B:=by omega
  rw [z1b hB] at h
  show 0=_
  omega
 | succ j =>
  have hl:(k0+j) * B < S:=(z1b hB).1 (by omega);have h2:¬ (k0+j+1) * B < S:=fun h=>by have:=(z1b hB).2 h;omega
  have h1:=z4f (B:=B) (S:=S) (k0:=k0) j (by omega);have e:(k0+j) * B=k0 * B+j * B:=Nat.add_mul _ _ _;have e2:(k0+j+1) * B=(k0+j) * B+B:=Nat.add_one_mul _ _;unfold chN blkN;rw [h1];omega
def intL (l:List Int):List Value:=l.map fun x=>Value.int .i64 x
theorem y0z (l:List Int):(intL l).length=l.length:=by simp [intL]
theorem y6h (a b:List Int):intL (a ++ b)=intL a ++ intL b:=by simp [intL]
def updV {α:Type} (f:Nat->α) (i:Nat) (v:α):Nat->α:=fun c=>if c=i then v else f c
theorem z1M {α:Type} (f:Nat->α) (i:Nat) (v:α):updV f i v i=v:=if_pos rfl
theorem z2k {α:Type} (f:Nat->α) {i c:Nat} (v:α) (h:c ≠ i):updV f i v c=f c:=if_neg h
structure RnI (w wr:World) (n:Nat) (is cs:Array Value) (vs:Nat->Value) (ls:Nat->List Int) (lv:Value) (lns:List Value):Prop where
 inf:Bx wr w.heap.size 39 is
 res:Bx wr (w.heap.size+1) 117 #[.slice none 0 0,.slice none 0 0,.bool false]
 cfg:Bx wr (w.heap.size+1+1) 23 cs
 row:wr.rowIs (w.heap.size+1+1+1) 30 n vs
 run:Bx wr (w.heap.size+1+1+1+1) 117 #[.slice (some ⟨w.heap.size+1+1+1,0,none⟩) n n,lv,.bool false]
 own:∀ c,c < n->wr.ownsRow (w.heap.size+5) 3 1 (vs c) (ls c).length (intL (ls c))
 apart:∀ c c',c < n->c' < n->c ≠ c'->(vs c).ownBlock=none∨(vs c).ownBlock ≠ (vs c').ownBlock
 lens:wr.ownsRow (w.heap.size+5) 3 1 lv lns.length lns
 alone:∀ c,c < n->(vs c).ownBlock=none∨(vs c).ownBlock ≠ lv.ownBlock
 below:Below w.heap.size w wr
 size:w.heap.size+5<=wr.heap.size
theorem RnI.drew {w wr:World} {n:Nat} {is cs:Array Value} {vs:Nat->Value} {ls:Nat->List Int} {lv:Value} {lns:List Value} (h:RnI w wr n is cs vs ls lv lns):RnI w wr.drew n is cs vs ls lv lns :=
 ⟨h.inf,h.res,h.cfg,h.row,h.run,h.own,h.apart,h.lens,h.alone,h.below.drew,h.size⟩
theorem z5i {w u:World} (hu:Below w.heap.size w u) (r:Option Nat):w.grownBy u r:=⟨hu.os,hu.tape,hu.output,hu.size,fun j hj _=>hu.block j hj⟩
theorem z1U {w u:World} {b n:Nat} {t:TypeId} {f:Nat->Value} (h:w.rowIs b t n f) (e:u.heap[b]?=w.heap[b]?):u.rowIs b t n f:=by
 obtain ⟨c,h1,h2⟩:=h;exact ⟨c,e.trans h1,h2⟩
theorem RnI.next {w wr u:World} {n:Nat} {is cs:Array Value} {vs:Nat->Value} {ls:Nat->List Int} {lv:Value} {lns:List Value} (h:RnI w wr n is cs vs ls lv lns) (hb:Below wr.heap.size wr u):RnI w u n is cs vs ls lv lns :=
 ⟨h.inf.below hb,h.res.below hb,h.cfg.below hb,z1U h.row (hb.block _ h.row.lt),h.run.below hb,fun c hc=>(h.own c hc).kept (z5i hb _) (Classical.em _),h.apart,h.lens.kept (z5i hb _) (Classical.em _),h.alone,h.below.trans (hb.mono h.below.size),Nat.le_trans h.size hb.size⟩
theorem RnI.ne {w wr:World} {n:Nat} {is cs:Array Value} {vs:Nat->Value} {ls:Nat->List Int} {lv:Value} {lns:List Value} (h:RnI w wr n is cs vs ls lv lns) {c:Nat} (hc:c < n):∀ k,k < w.heap.size+5->(vs c).ownBlock ≠ some k:=fun k hk e=>by have:=((h.own c hc).lt k e).1;omega
theorem RnI.lne {w wr:World} {n:Nat} {is cs:Array Value} {vs:Nat->Value} {ls:Nat->List Int} {lv:Value} {lns:List Value} (h:RnI w wr n is cs vs ls lv lns):∀ k,k < w.heap.size+5->lv.ownBlock ≠ some k:=fun k hk e=>by have:=(h.lens.lt k e).1;omega
structure BkI (w wr:World) (n nn gb:Nat) (gs:Nat->Nat) (H:Nat->Nat->Int) (vs:Nat->Value):Prop where
 cell:∀ c,c < n->wr.cell? ⟨gb,c,none⟩=some (.slice (some ⟨gs c,0,none⟩) nn nn)
 rows:∀ c,c < n->wr.rowIs (gs c) 3 nn (cutV nn (H c))
 lt:gb < wr.heap.size
 low:w.heap.size+5<=gb
 glow:∀ c,c < n->w.heap.size+5<=gs c
 ne:∀ c,c < n->(vs c).ownBlock ≠ some gb
 gne:∀ c c',c < n->c' < n->(vs c).ownBlock ≠ some (gs c')
theorem y1F:(prog.info? 3).map (fun i=>(i.zero,i.size,i.bytes))=some (some (O I 0),1,8):=by kernel_rfl
theorem z9u {w:World} {base:Nat} {v:Value} {n:Nat} {xs:List Value} (h:w.ownsRow base 3 1 v n xs) {k:Nat} (e:v.ownBlock=some k):k < w.heap.size:=(h.lt k e).2
theorem RnI.app {w wr:World} {n nn gb:Nat} {gs:Nat->Nat} {H:Nat->Nat->Int} {is cs:Array Value} {vs:Nat->Value} {ls:Nat->List Int} {lv:Value} {lns:List Value} (h:RnI w wr n is cs vs ls lv lns) (hk:BkI w wr n nn gb gs H vs) (i:Nat) (hi:i < n) (hnn:1<=nn) (hl:(ls i).length+nn<=100000) (ty:TypeId) :
 ∃ g cap u,(Builtin.append_ #[30,30] ty #[vs i,.slice (some ⟨gs i,0,none⟩) nn nn]).run prog wr=.ok (.slice (some ⟨g,0,none⟩) ((ls i).length+nn) cap) u /\
  u.cell? ⟨w.heap.size+1+1+1,i,none⟩=some (vs i)/\u.frozen? ⟨w.heap.size+1+1+1,i,none⟩=false/\u.cell? ⟨w.heap.size+1+1+1+1,0,none⟩=some (.slice (some ⟨w.heap.size+1+1+1,0,none⟩) n n) /\
  RnI w (u.setCell ⟨w.heap.size+1+1+1,i,none⟩ (.slice (some ⟨g,0,none⟩) ((ls i).length+nn) cap)) n is cs (updV vs i (.slice (some ⟨g,0,none⟩) ((ls i).length+nn) cap)) (updV ls i (ls i ++ (List.range nn).map (H i))) lv lns /\
  BkI w (u.setCell ⟨w.heap.size+1+1+1,i,none⟩ (.slice (some ⟨g,0,none⟩) ((ls i).length+nn) cap)) n nn gb gs H (updV vs i (.slice (some ⟨g,0,none⟩) ((ls i).length+nn) cap)):=by
 obtain ⟨i0,hi0,hz0,hz1,hz2⟩:=info_parts y1F;have hsz:=h.size;obtain ⟨g,cap,u,hr,ho,hg,hat,hlt⟩:=run_append_lies (P:=prog) wr 30 ty (w.heap.size+5) 3 i0 (O I 0) 1 8 Tryz.underlying30 hi0 hz0 hz1 hz2 rfl (by omega) (vs i) (ls i).length (intL (ls i)) (h.own i hi)
  ⟨gs i,0,none⟩ nn nn (intL ((List.range nn).map (H i))) (by simp [intL]) (fun j x hj=>by
   have hjn:j < nn:=by
    have:=(List.getElem?_eq_some_iff.1 hj).1
    simpa [intL] using this
   have hc:=(hk.rows i hi).cell hjn;rw [Addr.add_lit,Nat.zero_add,hc];simp [intL,hjn] at hj;rw [← hj];simp [cutV,cutI,hjn]) (fun x hx=>by simp [intL] at hx;obtain ⟨a,-,rfl⟩:=hx;rfl) (by omega) (by simp only [maxLen];omega) (by omega) hsz wr.heap.size rfl
 have hgb:w.heap.size+5<=g:=(ho.lt g rfl).1;have hgn:∀ k,k < wr.heap.size->(vs i).ownBlock ≠ some k->k ≠ g:=by
  intro k hk1 hk2 e;subst e;rcases hat with e | e
  . exact hk2 e
  . omega
 have hblk:∀ k,k < wr.heap.size->(vs i).ownBlock ≠ some k->u.heap[k]?=wr.heap[k]?:=fun k hk1 hk2=>hg.block _ hk1 (fun e=>hk2 e.symm)
 have n0:=h.ne hi;have hrow:=z1U h.row (hblk _ h.row.lt (n0 _ (by omega)));have hrun:Bx u _ _ _:=h.run.of (hblk _ (by omega) (n0 _ (by omega)));have hg2:=z0p u ⟨w.heap.size+1+1+1,i,none⟩ (.slice (some ⟨g,0,none⟩) ((ls i).length+nn) cap);have hus:=hg.size;have hset:∀ k,k < u.heap.size->k ≠ w.heap.size+1+1+1->(u.setCell ⟨w.heap.size+1+1+1,i,none⟩ (.slice (some ⟨g,0,none⟩) ((ls i).length+nn) cap)).heap[k]?=u.heap[k]?:=fun k hk1 hk2=>hg2.block _ hk1 (by simp;omega)
 have hof:∀ k,k < wr.heap.size->(vs i).ownBlock ≠ some k->k ≠ w.heap.size+1+1+1->(u.setCell ⟨w.heap.size+1+1+1,i,none⟩ (.slice (some ⟨g,0,none⟩) ((ls i).length+nn) cap)).heap[k]?=wr.heap[k]?:=fun k h1 h2 h3=>(hset k (by omega) h3).trans (hblk k h1 h2)
 refine ⟨g,cap,u,hr,hrow.cell hi,hrow.frozen i,hrun.cell 0,⟨?_,?_,?_,?_,?_,?_,?_,?_,?_,?_,?_⟩,⟨?_,?_,?_,hk.low,hk.glow,?_,?_⟩⟩
 . exact h.inf.of (hof _ (by omega) (n0 _ (by omega)) (by omega))
 . exact h.res.of (hof _ (by omega) (n0 _ (by omega)) (by omega))
 . exact h.cfg.of (hof _ (by omega) (n0 _ (by omega)) (by omega))
 . exact (hrow.set i _).congr fun c _=>by unfold updV;rfl
 . exact hrun.of (hset _ (by omega) (by omega))
 . intro c hc
   by_cases e:c=i
   . subst e
     rw [z1M,z1M,y6h,List.length_append,List.length_map,List.length_range];exact ho.kept hg2 (.inr (by simp [Value.ownBlock];omega))
   . rw [z2k _ _ e,z2k _ _ e]
     have h1:=(h.own c hc).kept hg (by
      rcases h.apart c i hc hi e with e1 | e1
      . exact .inl e1
      . exact .inr e1)
     exact h1.kept hg2 (.inr (h.ne hc _ (by show w.heap.size+1+1+1 < _;omega)))
 . intro c c' hc hc' hne
   by_cases e:c=i
   . subst e
     rw [z1M,z2k _ _ (Ne.symm hne)]
     right
     intro e2;have e3:(vs c').ownBlock=some g:=e2.symm;rcases hat with e4 | e4
     . rcases h.apart c c' hc hc' hne with e5 | e5
       . rw [e5] at e4;cases e4
       . exact e5 (e4.trans e3.symm)
     . have:=z9u (h.own c' hc') e3;omega
   . by_cases e':c'=i
     . subst e'
       rw [z1M,z2k _ _ e]
       by_cases e3:(vs c).ownBlock=some g
       . rcases hat with e4 | e4
         . rcases h.apart c c' hc hc' hne with e5 | e5
           . exact .inl e5
           . exact absurd (e3.trans e4.symm) e5
         . have:=z9u (h.own c hc) e3;omega
       . exact .inr e3
     . rw [z2k _ _ e,z2k _ _ e']
       exact h.apart c c' hc hc' hne
 . exact (h.lens.kept hg (by
     by_cases e:lv.ownBlock=none
     . exact .inl e
     . right
       intro e2;rcases h.alone i hi with e3 | e3
       . exact e (e2.trans e3)
       . exact e3 e2.symm)).kept hg2 (.inr (h.lne _ (by show w.heap.size+1+1+1 < _;omega)))
 . intro c hc
   by_cases e:c=i
   . subst e
     rw [z1M]
     right
     intro e2;have e3:lv.ownBlock=some g:=e2.symm;rcases hat with e4 | e4
     . rcases h.alone c hc with e5 | e5
       . rw [e5] at e4;cases e4
       . exact e5 (e4.trans e3.symm)
     . have:=z9u h.lens e3;omega
   . rw [z2k _ _ e]
     exact h.alone c hc
 . exact (h.below.grown hg h.below.size (fun k hk=>by have:=((h.own i hi).lt k hk).1;omega)).setCell (p:=⟨w.heap.size+1+1+1,i,none⟩) (by show w.heap.size<=w.heap.size+1+1+1;omega) _
 . have:=hg2.size;omega
 . intro c hc
   have:=hof gb hk.lt (hk.ne i hi) (by have:=hk.low;omega);have hx:=hk.cell c hc;unfold World.cell? at hx ⊢;simp only at hx ⊢;rw [this];exact hx
 . intro c hc
   exact z1U (hk.rows c hc) (hof _ (hk.rows c hc).lt (hk.gne i c hi hc) (by have:=hk.glow c hc;omega))
 . have:=hg2.size;have:=hk.lt;omega
 . intro c hc
   by_cases e:c=i
   . subst e
     rw [z1M];intro e2;have e3:g=gb:=by simpa [Value.ownBlock] using e2
     exact hgn gb hk.lt (hk.ne c hc) e3.symm
   . rw [z2k _ _ e];exact hk.ne c hc
 . intro c c' hc hc'
   by_cases e:c=i
   . subst e
     rw [z1M];intro e2;have e3:g=gs c':=by simpa [Value.ownBlock] using e2
     exact hgn (gs c') (hk.rows c' hc').lt (hk.gne c c' hc hc') e3.symm
   . rw [z2k _ _ e];exact hk.gne c c' hc hc'
theorem RnI.len {w wr:World} {n:Nat} {is cs:Array Value} {vs:Nat->Value} {ls:Nat->List Int} {lv:Value} {lns:List Value} (h:RnI w wr n is cs vs ls lv lns) (L:Nat) (hl:lns.length+1<=100000) (ty:TypeId) :
 ∃ g cap u,(Builtin.append_ #[30,30] ty #[lv,.slice (some ⟨wr.heap.size,0,none⟩) 1 1]).run prog (wr.alloc (.cells #[O I L] 3))=.ok (.slice (some ⟨g,0,none⟩) (lns.length+1) cap) u /\
  u.cell? ⟨w.heap.size+1+1+1+1,1,none⟩=some lv/\u.frozen? ⟨w.heap.size+1+1+1+1,1,none⟩=false /\
  RnI w (u.setCell ⟨w.heap.size+1+1+1+1,1,none⟩ (.slice (some ⟨g,0,none⟩) (lns.length+1) cap)) n is cs vs ls (.slice (some ⟨g,0,none⟩) (lns.length+1) cap) (lns ++ [O I L]):=by
 obtain ⟨i0,hi0,hz0,hz1,hz2⟩:=info_parts y1F;have hsz:=h.size;have ha:(wr.alloc (.cells #[O I L] 3)).heap.size=wr.heap.size+1:=by simp
 obtain ⟨g,cap,u,hr,ho,hg,hat,hlt⟩:=run_append_lies (P:=prog) (wr.alloc (.cells #[O I L] 3)) 30 ty (w.heap.size+5) 3 i0 (O I 0) 1 8 Tryz.underlying30 hi0 hz0 hz1 hz2 rfl (by omega) lv lns.length lns (h.lens.alloc _)
  ⟨wr.heap.size,0,none⟩ 1 1 [O I L] rfl (fun j x hj=>by
   have:(wr.alloc (.cells #[O I L] 3)).cell? ⟨wr.heap.size,j,none⟩=(#[O I L]:Array Value)[j]?:=World.cell?_alloc_new _ _ _ _;rw [Addr.add_lit,Nat.zero_add,this]
   simpa using hj) (fun x hx=>by simp at hx;rw [hx];rfl) (by omega) (by simp only [maxLen];omega) (by omega) (by omega) (wr.heap.size+1) ha
 have hus:=hg.size;have hgb:w.heap.size+5<=g:=(ho.lt g rfl).1;have hblk:∀ k,k < wr.heap.size->lv.ownBlock ≠ some k->u.heap[k]?=wr.heap[k]?:=fun k hk1 hk2=>(hg.block _ (by omega) (fun e=>hk2 e.symm)).trans (blk_alloc_lt _ _ _ hk1)
 have n0:=h.lne;have hrun:Bx u _ _ _:=h.run.of (hblk _ (by omega) (n0 _ (by omega)));have hg2:=z0p u ⟨w.heap.size+1+1+1+1,1,none⟩ (.slice (some ⟨g,0,none⟩) (lns.length+1) cap);have hof:∀ k,k < wr.heap.size->lv.ownBlock ≠ some k->k ≠ w.heap.size+1+1+1+1->(u.setCell ⟨w.heap.size+1+1+1+1,1,none⟩ (.slice (some ⟨g,0,none⟩) (lns.length+1) cap)).heap[k]?=wr.heap[k]?:=fun k h1 h2 h3=>(hg2.block _ (by omega) (by simp;omega)).trans (hblk k h1 h2)
 have hown:∀ c,c < n->(vs c).ownBlock ≠ some g:=by
  intro c hc e;rcases hat with e4 | e4
  . rcases h.alone c hc with e5 | e5
    . rw [e5] at e;cases e
    . exact e5 (e.trans e4.symm)
  . have:=z9u (h.own c hc) e;omega
 refine ⟨g,cap,u,hr,hrun.cell 1,hrun.fz 1,⟨?_,?_,?_,?_,?_,?_,h.apart,?_,?_,?_,?_⟩⟩
 . exact h.inf.of (hof _ (by omega) (n0 _ (by omega)) (by omega))
 . exact h.res.of (hof _ (by omega) (n0 _ (by omega)) (by omega))
 . exact h.cfg.of (hof _ (by omega) (n0 _ (by omega)) (by omega))
 . exact z1U h.row (hof _ h.row.lt (n0 _ (by omega)) (by omega))
 . simp [Bx,World.setCell,Array.getElem?_modify,show u.heap[w.heap.size+1+1+1+1]?=_ from hrun]
 . intro c hc
   have h1:u.ownsRow (w.heap.size+5) 3 1 (vs c) (ls c).length (intL (ls c)):=((h.own c hc).alloc _).kept hg (h.alone c hc);exact h1.kept hg2 (.inr (h.ne hc _ (by show w.heap.size+1+1+1+1 < _;omega)))
 . rw [List.length_append]
   exact ho.kept hg2 (.inr (by simp [Value.ownBlock];omega))
 . intro c hc
   right
   exact fun e=>hown c hc e
 . exact (((h.below.alloc h.below.size _).grown hg (h.below.alloc h.below.size _).size (fun k hk=>by have:=(h.lens.lt k hk).1;omega))).setCell (p:=⟨w.heap.size+1+1+1+1,1,none⟩) (by show w.heap.size<=w.heap.size+1+1+1+1;omega) _
 . have:=hg2.size;omega
theorem y4u {w:World} {base n nn gb cb:Nat} {gs:Nat->Nat} (h:w.ownsRow base 30 1 (.slice (some ⟨gb,0,none⟩) n cb) n (rowL nn gs n)):∀ c,c < n->w.cell? ⟨gb,c,none⟩=some (.slice (some ⟨gs c,0,none⟩) nn nn):=by
 intro c hc;have:=World.ownsRow.cells h (g:=gb) rfl c (.slice (some ⟨gs c,0,none⟩) nn nn) (by simp [rowL,hc]);rw [Addr.add_lit,Nat.zero_add] at this;exact this
theorem RnI.start (w:World) (n:Nat) (is cs:Array Value):RnI w (((((w.alloc (.cells is 39)).alloc (.cells #[.slice none 0 0,.slice none 0 0,.bool false] 117)).alloc (.cells cs 23)).alloc (.cells (madeCells #[.slice none 0 0] n) 30)).alloc (.cells #[.slice (some ⟨w.heap.size+1+1+1,0,none⟩) n n,.slice none 0 0,.bool false] 117)) n is cs (fun _=>.slice none 0 0) (fun _=>[]) (.slice none 0 0) []:=by
 refine ⟨?_,?_,?_,?_,?_,fun c _=>World.ownsRow_nil _ _ _ _,fun c c' _ _ _=>.inl rfl,World.ownsRow_nil _ _ _ _,fun c _=>.inl rfl,?_,?_⟩
 . exact ((((Bx.new w _ _).alloc _).alloc _).alloc _).alloc _
 . exact (((Bx.new2 (by simp) _ _).alloc _).alloc _).alloc _
 . exact ((Bx.new2 (by simp) _ _).alloc _).alloc _
 . have h:=(World.rowIs_made (((w.alloc (.cells is 39)).alloc (.cells #[.slice none 0 0,.slice none 0 0,.bool false] 117)).alloc (.cells cs 23)) (.slice none 0 0) n 30).alloc (.cells #[.slice (some ⟨w.heap.size+1+1+1,0,none⟩) n n,.slice none 0 0,.bool false] 117)
   rw [World.size_alloc,World.size_alloc,World.size_alloc] at h;exact h
 . exact Bx.new2 (by simp) _ _
 . exact ((((zX.alloc zY _).alloc (by simp) _).alloc (by simp;omega) _).alloc (by simp;omega) _).alloc (by simp;omega) _
 . simp
theorem RnI.ends {w wr:World} {n:Nat} {is cs:Array Value} {vs:Nat->Value} {ls:Nat->List Int} {lv:Value} {lns:List Value} (h:RnI w wr n is cs vs ls lv lns) :
 wr.cell? ⟨w.heap.size+1+1+1+1,0,none⟩=some (.slice (some ⟨w.heap.size+1+1+1,0,none⟩) n n)/\wr.cell? ⟨w.heap.size+1+1+1+1,1,none⟩=some lv/\wr.cell? ⟨w.heap.size+1+1+1+1,2,none⟩=some (.bool false)/\wr.frozen? ⟨w.heap.size+1+1+1+1,2,none⟩=false /\
 wr.cell? ⟨w.heap.size+1,0,none⟩=some (.slice none 0 0)/\wr.cell? ⟨w.heap.size+1,1,none⟩=some (.slice none 0 0)/\wr.cell? ⟨w.heap.size+1,2,none⟩=some (.bool false)/\wr.frozen? ⟨w.heap.size+1,0,none⟩=false/\wr.frozen? ⟨w.heap.size+1,1,none⟩=false/\wr.frozen? ⟨w.heap.size+1,2,none⟩=false :=
 ⟨h.run.cell 0,h.run.cell 1,h.run.cell 2,h.run.fz 2,h.res.cell 0,h.res.cell 1,h.res.cell 2,h.res.fz 0,h.res.fz 1,h.res.fz 2⟩
def FrsOut (e:Ending) (w w':World) (n d B S k0:Nat) (X:List UInt8):Prop :=
 ∃ (m g:Nat) (vs:Nat->Value) (lv:Value),RunIs n d B S k0 X m/\e=.returned (.agg #[.slice (some ⟨g,0,none⟩) n n,lv,.bool (decide (k0+m=nBlk S B/\offX X m=X.length))])/\w.heap.size<=g/\w'.rowIs g 30 n vs /\
  (∀ c,c < n->w'.ownsRow w.heap.size 3 1 (vs c) (chN B S k0 m) (intL (chL n d B S k0 X c m)))/\(∀ c c',c < n->c' < n->c ≠ c'->(vs c).ownBlock=none∨(vs c).ownBlock ≠ (vs c').ownBlock) /\
  w'.ownsRow w.heap.size 3 1 lv m (lnL (lnX X) m)/\Below w.heap.size w w'
theorem y4v:(prog.info? 117).map (·.size)=some 3:=by kernel_rfl
theorem y4w (tmps:Array Value) (R:Nat) (cs:Array Value) (W:World) (h:Bx W R 117 cs) (hs:cs.size=3) (h6:tmps.getD 6 undef=.pointer (some ⟨R,0,none⟩)) :
 (results Tryz.f72 tmps).run prog W=.ok (.agg cs) W:=by
 have hl:=run_loadVar_row (P:=prog) W R 117 117 cs (0,0) _ h Tryz.underlying117 rfl (by rw [hs];exact y4v);rw [Array.getD_eq_getD_getElem?] at h6;simp [results,Tryz.results72,asAddr,h6,hl]
theorem z4F (ln:Nat->Nat) (k:Nat):(lnL ln k).length=k:=by simp [lnL]
theorem Bx.set3 {u:World} {q:Nat} {t:TypeId} {o0 o1 o2:Value} (h:Bx u q t #[o0,o1,o2]) (s0 s1 s2:Value):Bx (((u.setCell ⟨q,0,none⟩ s0).setCell ⟨q,1,none⟩ s1).setCell ⟨q,2,none⟩ s2) q t #[s0,s1,s2]:=by
 simp [Bx,World.setCell,Array.getElem?_modify,show u.heap[q]?=_ from h]
theorem RnI.done {w wr:World} {n d B S k0 m:Nat} {X:List UInt8} {is cs:Array Value} {vs:Nat->Value} {la:Option Addr} {lc:Nat} (h:RnI w wr n is cs vs (fun c=>chL n d B S k0 X c m) (.slice la m lc) (lnL (lnX X) m)) (hr:RunIs n d B S k0 X m) (b:Bool) (hb:b=decide (k0+m=nBlk S B/\offX X m=X.length)) :
 Bx ((((wr.setCell ⟨w.heap.size+1+1+1+1,2,none⟩ (.bool b)).setCell ⟨w.heap.size+1,0,none⟩ (.slice (some ⟨w.heap.size+1+1+1,0,none⟩) n n)).setCell ⟨w.heap.size+1,1,none⟩ (.slice la m lc)).setCell ⟨w.heap.size+1,2,none⟩ (.bool b)) (w.heap.size+1) 117 #[.slice (some ⟨w.heap.size+1+1+1,0,none⟩) n n,.slice la m lc,.bool b] /\
 FrsOut (.returned (.agg #[.slice (some ⟨w.heap.size+1+1+1,0,none⟩) n n,.slice la m lc,.bool b])) w ((((wr.setCell ⟨w.heap.size+1+1+1+1,2,none⟩ (.bool b)).setCell ⟨w.heap.size+1,0,none⟩ (.slice (some ⟨w.heap.size+1+1+1,0,none⟩) n n)).setCell ⟨w.heap.size+1,1,none⟩ (.slice la m lc)).setCell ⟨w.heap.size+1,2,none⟩ (.bool b)) n d B S k0 X:=by
 have hsz:=h.size;have g1:=z0p wr ⟨w.heap.size+1+1+1+1,2,none⟩ (.bool b);have hR:Bx (wr.setCell ⟨w.heap.size+1+1+1+1,2,none⟩ (.bool b)) (w.heap.size+1) 117 _:=h.res.of (g1.block _ (by omega) (by simp));have B1:Below w.heap.size w (wr.setCell ⟨w.heap.size+1+1+1+1,2,none⟩ (.bool b)):=h.below.setCell (p:=⟨w.heap.size+1+1+1+1,2,none⟩) (by show w.heap.size<=w.heap.size+1+1+1+1;omega) _;have hs1:(wr.setCell ⟨w.heap.size+1+1+1+1,2,none⟩ (.bool b)).heap.size=wr.heap.size:=z4a _ _ _;generalize hW:wr.setCell ⟨w.heap.size+1+1+1+1,2,none⟩ (.bool b)=W1 at *;have B2:Below w.heap.size w (((W1.setCell ⟨w.heap.size+1,0,none⟩ (.slice (some ⟨w.heap.size+1+1+1,0,none⟩) n n)).setCell ⟨w.heap.size+1,1,none⟩ (.slice la m lc)).setCell ⟨w.heap.size+1,2,none⟩ (.bool b)) :=
  ((B1.setCell (p:=⟨w.heap.size+1,0,none⟩) (by show w.heap.size<=w.heap.size+1;omega) _).setCell (p:=⟨w.heap.size+1,1,none⟩) (by show w.heap.size<=w.heap.size+1;omega) _).setCell (p:=⟨w.heap.size+1,2,none⟩) (by show w.heap.size<=w.heap.size+1;omega) _
 have k1:∀ {t:TypeId} {v:Value} {k:Nat} {xs:List Value},(∀ j,j < w.heap.size+5->v.ownBlock ≠ some j)->wr.ownsRow (w.heap.size+5) t 1 v k xs->(((W1.setCell ⟨w.heap.size+1,0,none⟩ (.slice (some ⟨w.heap.size+1+1+1,0,none⟩) n n)).setCell ⟨w.heap.size+1,1,none⟩ (.slice la m lc)).setCell ⟨w.heap.size+1,2,none⟩ (.bool b)).ownsRow w.heap.size t 1 v k xs:=by
  intro t v k xs hne ho;exact z4e ((((ho.kept g1 (.inr (hne _ (by show w.heap.size+1+1+1+1 < _;omega)))).kept (z0p _ _ _) (.inr (hne _ (by show w.heap.size+1 < _;omega)))).kept (z0p _ _ _) (.inr (hne _ (by show w.heap.size+1 < _;omega)))).kept (z0p _ _ _) (.inr (hne _ (by show w.heap.size+1 < _;omega)))) (by omega)
 refine ⟨hR.set3 _ _ _,m,w.heap.size+1+1+1,vs,.slice la m lc,hr,by rw [hb],by omega,?_,?_,h.apart,?_,B2⟩
 . have r1:=z1U h.row (g1.block _ (by omega) (by simp))
   have r2:=z1U r1 ((z0p W1 ⟨w.heap.size+1,0,none⟩ (.slice (some ⟨w.heap.size+1+1+1,0,none⟩) n n)).block _ r1.lt (by simp;omega));have r3:=z1U r2 ((z0p _ ⟨w.heap.size+1,1,none⟩ (.slice la m lc)).block _ r2.lt (by simp;omega));exact z1U r3 ((z0p _ ⟨w.heap.size+1,2,none⟩ (.bool b)).block _ r3.lt (by simp;omega))
 . intro c hc
   have h1:=k1 (h.ne hc) (h.own c hc);rw [z4E] at h1;exact h1
 . have h1:=k1 h.lne h.lens
   rw [z4F] at h1;exact h1
theorem RnI.blk {w wr u:World} {n nn g c:Nat} {H:Nat->Nat->Int} {is cs:Array Value} {vs:Nat->Value} {ls:Nat->List Int} {lv:Value} {lns:List Value} (h:RnI w wr n is cs vs ls lv lns) (hro:y4j wr u (.slice (some ⟨g,0,none⟩) n c) n nn H):∃ gs,BkI w u n nn g gs H vs:=by
 obtain ⟨g',c',gs,e,ho,hr,-⟩:=hro
 injection e with e1 e2 e3
 injection e1 with e1
 injection e1 with e1
 subst e1;subst e3;have hs:=h.size;have hl:=ho.lt g rfl;have hv:∀ c,c < n->∀ k,wr.heap.size<=k->(vs c).ownBlock ≠ some k:=fun c hc k hk e=>by have:=z9u (h.own c hc) e;omega
 exact ⟨gs,y4u ho,fun c hc=>(hr c hc).1,hl.2,by omega,fun c hc=>by have:=(hr c hc).2;omega,fun c hc=>hv c hc _ hl.1,fun c c' hc hc'=>hv c hc _ (hr c' hc').2⟩
noncomputable def lsI (n d B S k0:Nat) (X:List UInt8) (j i:Nat) (c:Nat):List Int:=chL n d B S k0 X c (if c < i then j+1 else j)
theorem y6i (n d B S k0:Nat) (X:List UInt8) (j:Nat):lsI n d B S k0 X j 0=fun c=>chL n d B S k0 X c j:=by
 funext c
 unfold lsI;rw [if_neg (by omega)]
theorem y1G (n d B S k0:Nat) (X:List UInt8) (j i:Nat):lsI n d B S k0 X j i i=chL n d B S k0 X i j:=by
 unfold lsI;rw [if_neg (by omega)]
theorem y6j (n d B S k0:Nat) (X:List UInt8) (j i nn:Nat) (H:Nat->Nat->Int) (hn:nn=blkN S B (k0+j)) (hH:smpF n d B (k0+j) (atX X j)=H):updV (lsI n d B S k0 X j i) i (lsI n d B S k0 X j i i ++ (List.range nn).map (H i))=lsI n d B S k0 X j (i+1):=by
 funext c
 by_cases e:c=i
 . subst e
   rw [z1M,y1G];unfold lsI;rw [if_pos (by omega),hn,← hH]
   rfl
 . rw [z2k _ _ e]
   unfold lsI
   by_cases e2:c < i
   . rw [if_pos e2,if_pos (by omega)]
   . rw [if_neg e2,if_neg (by omega)]
theorem RnI.congr {w wr:World} {n:Nat} {is cs:Array Value} {vs:Nat->Value} {ls ls':Nat->List Int} {lv:Value} {lns:List Value} (h:RnI w wr n is cs vs ls lv lns) (he:∀ c,c < n->ls c=ls' c):RnI w wr n is cs vs ls' lv lns :=
 ⟨h.inf,h.res,h.cfg,h.row,h.run,fun c hc=>by rw [← he c hc];exact h.own c hc,h.apart,h.lens,h.alone,h.below,h.size⟩
theorem y6k {n d B S k0:Nat} {X:List UInt8} {j c:Nat} (hc:c < n):lsI n d B S k0 X j n c=chL n d B S k0 X c (j+1):=by
 unfold lsI;rw [if_pos hc]
theorem BkI.drew {w wr:World} {n nn gb:Nat} {gs:Nat->Nat} {H:Nat->Nat->Int} {vs:Nat->Value} (h:BkI w wr n nn gb gs H vs):BkI w wr.drew n nn gb gs H vs:=⟨h.cell,h.rows,h.lt,h.low,h.glow,h.ne,h.gne⟩
theorem LstE.keep {e:TypeId} {w w':World} {v:Value} {n:Nat} {og:Option Nat} {x:Nat->Value} (h:LstE e w v n og x) (hb:∀ g,og=some g->w'.heap[g]?=w.heap[g]?):LstE e w' v n og x:=by
 rcases h with h | ⟨g,o,c,N,f,e1,e2,hr,h1⟩
 . exact .inl h
 . exact .inr ⟨g,o,c,N,f,e1,e2,hr.of_block (hb g e1),h1⟩
theorem LstE.lt {e:TypeId} {w:World} {v:Value} {n:Nat} {og:Option Nat} {x:Nat->Value} (h:LstE e w v n og x) {g:Nat} (hg:og=some g):g < w.heap.size:=by
 obtain ⟨N,f,hr⟩:=h.row hg;exact hr.lt
def RowsL (base:Nat) (u:World) (v:Value) (n nn:Nat) (H:Nat->Nat->Int):Prop :=
 ∃ (g:Nat) (vs:Nat->Value) (ogs:Nat->Option Nat),v=.slice (some ⟨g,0,none⟩) n n/\base<=g/\u.rowIs g 30 n vs /\
  (∀ c,c < n->LstE 3 u (vs c) nn (ogs c) (fun j=>.int .i64 (H c j))/\∀ q,ogs c=some q->base<=q) /\
  ∀ c c',c < n->c' < n->c ≠ c'->∀ q,ogs c=some q->ogs c' ≠ some q
theorem y2z {w:World} {base n:Nat} {v:Value} {l:List Int} {H:Nat->Int} (h:w.ownsRow base 3 1 v n (intL l)) (hH:∀ j,j < n->l.getD j 0=H j):LstE 3 w v n v.ownBlock (fun j=>.int .i64 (H j))/\∀ q,v.ownBlock=some q->base<=q:=by
 refine ⟨?_,fun q hq=>(h.lt q hq).1⟩;have hlen:=h.1;rw [y0z] at hlen;rcases h.2 with ⟨rfl,rfl⟩ | ⟨g,cap,cur,rfl,hb,hcur,h1,h2,h3,h4⟩
 . exact .inl ⟨rfl,rfl,rfl⟩
 . refine .inr ⟨g,0,cap,cap,fun i=>cur.getD i undef,rfl,rfl,⟨cur,hcur,by omega,fun j hj=>?_⟩,by omega,h1,fun i hi=>?_⟩
   . have hjc:j < cur.size:=by omega
     show cur[j]?=some (cur.getD j undef)
     rw [Array.getD_eq_getD_getElem?,Array.getElem?_eq_getElem hjc];rfl
   . have hi2:i < l.length:=by omega
     have e:(intL l)[i]?=some (.int .i64 (H i)):=by
      rw [← hH i hi];unfold intL;rw [List.getElem?_map,List.getElem?_eq_getElem hi2,List.getD_eq_getElem?_getD,List.getElem?_eq_getElem hi2];rfl
     rw [← h4,List.getElem?_take,if_pos (by omega),Array.getElem?_toList] at e
     show cur.getD (0+i) undef=_
     rw [Nat.zero_add,Array.getD_eq_getD_getElem?,e];rfl
theorem LstE.ints {w:World} {v:Value} {n:Nat} {og:Option Nat} {H:Nat->Int} (h:LstE 3 w v n og (fun j=>.int .i64 (H j))):∃ a c,v=.slice a n c/\IntsAt w a n H/\∀ x,a=some x->x.block < w.heap.size:=by
 rcases h with ⟨rfl,rfl,-⟩ | ⟨g,o,c,N,f,-,rfl,hr,h1,h2,h3⟩
 . exact ⟨none,0,rfl,fun i hi=>absurd hi (Nat.not_lt_zero i),fun x hx=>by cases hx⟩
 . refine ⟨_,c,rfl,fun i hi=>⟨_,rfl,?_⟩,fun x hx=>by cases hx;exact hr.lt⟩
   have:=hr.cell (i:=o+i) (by omega);rw [h3 i hi] at this;rw [Addr.add_lit];exact this
theorem RowsL.mono {base base':Nat} {u:World} {v:Value} {n nn:Nat} {H:Nat->Nat->Int} (h:RowsL base u v n nn H) (hb:base'<=base):RowsL base' u v n nn H:=by
 obtain ⟨g,vs,ogs,h1,h2,h3,h4,h5⟩:=h;exact ⟨g,vs,ogs,h1,Nat.le_trans hb h2,h3,fun c hc=>⟨(h4 c hc).1,fun q hq=>Nat.le_trans hb ((h4 c hc).2 q hq)⟩,h5⟩
theorem RowsL.open {base:Nat} {u:World} {v:Value} {n nn:Nat} {H:Nat->Nat->Int} (h:RowsL base u v n nn H):∃ g A C,v=.slice (some ⟨g,0,none⟩) n n/\g < u.heap.size/\ListsAt u (some ⟨g,0,none⟩) n A (fun _=>nn) C/\(∀ i,i < n->IntsAt u (A i) nn (H i))/\Low u.heap.size (some ⟨g,0,none⟩) n A (fun _=>nn):=by
 obtain ⟨g,vs,ogs,h1,h2,h3,h4,h5⟩:=h;have hex:∀ c,∃ p:Option Addr × Nat,c < n->vs c=.slice p.1 nn p.2/\IntsAt u p.1 nn (H c)/\∀ x,p.1=some x->x.block < u.heap.size:=fun c=>by
  by_cases hc:c < n
  . obtain ⟨a,q,e1,e2,e3⟩:=(h4 c hc).1.ints
    exact ⟨(a,q),fun _=>⟨e1,e2,e3⟩⟩
  . exact ⟨(none,0),fun h=>absurd h hc⟩
 refine ⟨g,fun c=>(hex c).choose.1,fun c=>(hex c).choose.2,h1,h3.lt,fun i hi=>⟨_,rfl,?_⟩,fun i hi=>((hex i).choose_spec hi).2.1,fun x hx _=>by cases hx;exact h3.lt,fun i hi x hx _=>((hex i).choose_spec hi).2.2 x hx⟩;have:=h3.cell hi;rw [Addr.add_lit,Nat.zero_add,this,((hex i).choose_spec hi).1]
noncomputable def smpL (n d B S k0:Nat) (X:List UInt8) (m c j:Nat):Int:=(chL n d B S k0 X c m).getD j 0
theorem FrsOut.rows {e:Ending} {w w':World} {n d B S k0:Nat} {X:List UInt8} (h:FrsOut e w w' n d B S k0 X):∃ (m:Nat) (v lv:Value),RunIs n d B S k0 X m/\e=.returned (.agg #[v,lv,.bool (decide (k0+m=nBlk S B/\offX X m=X.length))])/\RowsL w.heap.size w' v n (chN B S k0 m) (smpL n d B S k0 X m) /\
 w'.ownsRow w.heap.size 3 1 lv m (lnL (lnX X) m)/\Below w.heap.size w w':=by
 obtain ⟨m,g,vs,lv,hr,rfl,hg,hrow,hown,hap,hl,hb⟩:=h;refine ⟨m,_,lv,hr,rfl,⟨g,vs,fun c=>(vs c).ownBlock,rfl,hg,hrow,fun c hc=>y2z (hown c hc) (fun j _=>rfl),fun c c' hc hc' hne q h1 h2=>?_⟩,hl,hb⟩;rcases hap c c' hc hc' hne with h3 | h3
 . have h1':(vs c).ownBlock=some q:=h1
   rw [h3] at h1';cases h1'
 . exact h3 (h1.trans h2.symm)
def SaysP (T X:List UInt8) (m:Nat):Prop:=dLe T=z0O (lnX X) m/\dMo T=mostN (lnX X) m/\dPts T=pntN (lnX X) (dSe T) m
def AllP (T:List UInt8):Prop:=∃ m,RunIs (dCh T) (dDe T) (dBl T) (dSa T) 0 (T.drop (dSz T)) m/\m=nBlk (dSa T) (dBl T)/\offX (T.drop (dSz T)) m=(T.drop (dSz T)).length/\SaysP T (T.drop (dSz T)) m
noncomputable def dSmp (T:List UInt8):Nat->Nat->Int:=smpL (dCh T) (dDe T) (dBl T) (dSa T) 0 (T.drop (dSz T)) (nBlk (dSa T) (dBl T))
def SumP (T:List UInt8):Prop:=dSu T=sumN (intT (dCh T) (dSmp T) (2 * (dSa T * dCh T)))
open Classical in
noncomputable def decE (T:List UInt8):Int :=
 if T.length<=9000 then (if HdP T/\dWh T=1 then (if AllP T then (if SumP T then 0 else 8) else 6) else 7) else 4
def info0:Value:=.agg #[.int .i64 0,.int .i64 0,.int .i64 0,.int .i64 0,.int .i64 0,.int .i64 0]
def dInfo (T:List UInt8):Value:=.agg #[.int .i64 (dCh T),.int .i64 (dDe T),.int .i64 (dBl T),.int .i64 (dRa T),.int .i64 (dSe T),.int .i64 (dSa T)]
def y1H (e:Ending) (w w':World) (T:List UInt8):Prop :=
 (
  (decE T=0/\∃ v,e=.returned (.tuple #[dInfo T,v,.int .i64 0])/\RowsL w.heap.size w' v (dCh T) (dSa T) (dSmp T))
  ∨ (decE T ≠ 0/\e=.returned (.tuple #[info0,.slice none 0 0,.int .i64 (decE T)])))/\Below w.heap.size w w'
end Go.Proofs.YtlncjgnomhpjnabGreatDoor
