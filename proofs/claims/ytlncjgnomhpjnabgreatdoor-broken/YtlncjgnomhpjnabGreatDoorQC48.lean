import Derived.Test.YtlncjgnomhpjnabGreatDoorQC47
import Derived.Test.YtlncjgnomhpjnabGreatDoorQC0
namespace Go.Proofs.YtlncjgnomhpjnabGreatDoor
open Go.Value renaming int → O
open Go.IntKind renaming i64 → I
open Go.Proofs.Tryz (prog)
open Go.RowKit Go.Deep
set_option linter.unusedVariables false
theorem LInv.done {p:Lpar} {s:Lst} (h:LInv p s) (h2:s.e2=true):s.jobs=[]/\s.lane=[]/\s.ready=[]/\s.shelf=[]/\(∀ j,j < p.W->s.held j=none)/\s.ended p=List.range (3+p.W):=by
 obtain ⟨a1,a2,a3,a4,a5⟩:=h.e2 h2;obtain ⟨b1,b2⟩:=h.e1 a3;have hw:=z4j a1;have h1:=h.w1;exact ⟨(h.ew 0 (by omega) (hw 0 (by omega))).2.1,b2,a2,a5,fun j hj=>(h.ew j hj (hw j hj)).2.2,h.over.2 h2⟩
set_option maxRecDepth 100000 in
set_option maxHeartbeats 4000000 in
theorem z8p {p:Lpar} {a:Lad} {x:Lsn} {F:Nat->Prop} {l:Nat} {s:Lst} {w:World} (h:RLine p a x F l s w) (h2:s.e2=true) (c0 c1 c2 c3 c4 c6 c7:Int) :
 Calls prog 26 #[ptrV l,.agg #[O I c0,O I c1,O I c2,O I c3,O I c4,O I p.W,O I c6,O I c7]] w fun e w'=>e=.returned (.bool true)/\Below w.heap.size w w':=by
 obtain ⟨d1,d2,d3,d4,d5,d6⟩:=h.inv.done h2;have hab:=y4S h.inv h2;have hW8:=h.line.W8;have HX:=zZ (Bx.new w #[O I c0,O I c1,O I c2,O I c3,O I c4,O I p.W,O I c6,O I c7] 23);have hB0:Below w.heap.size w (w.alloc (.cells #[O I c0,O I c1,O I c2,O I c3,O I c4,O I p.W,O I c6,O I c7] 23)):=zX.alloc zY _;obtain ⟨W0,hW0⟩:∃ W,W=w.alloc (.cells #[O I c0,O I c1,O I c2,O I c3,O I c4,O I p.W,O I c6,O I c7] 23):=⟨_,rfl⟩;have HWE:=zZ hW0;rw [← hW0] at HX hB0;have hz0:w.heap.size+1=W0.heap.size:=by rw [hW0];simp
 have HK:Hid (∀ u,Below W0.heap.size W0 u->Below w.heap.size w u):=fun u hu=>hB0.trans (hu.mono (by omega))
 have HRL:Hid (∀ u,Below W0.heap.size W0 u->RLine p a x F l s u):=fun u hu=>h.keep (HK.out u hu)
 have HAB:Hid (Calls prog 42 #[ptrV l] W0 fun e w'=>∃ A cap,e=.returned (.slice A 0 cap)/\Below W0.heap.size W0 w'):=by
  refine (y4T (HRL.out W0 zX)).mono ?_;rintro e w' ⟨v,rfl,ho,hb⟩;rw [hab] at ho;obtain ⟨A,cap,rfl,-⟩:=z0n ho;exact ⟨A,cap,rfl,hb⟩
 have HST:Hid (∀ u,Below W0.heap.size W0 u->Calls prog 51 #[ptrV l,O I 0] u fun e w'=>e=.returned (.tuple #[O I 0,O I 9])/\Below W0.heap.size W0 w'):=fun u hu=>(z7m (HRL.out u hu) 0 h2).mono (by rintro e w' ⟨rfl,hb⟩;exact ⟨rfl,hu.trans (hb.mono hu.size)⟩)
 have HCA:Hid (∀ u,Below W0.heap.size W0 u->Calls prog 54 #[ptrV l] u fun e w'=>e=.returned (O I 9)/\Below W0.heap.size W0 w'):=fun u hu=>(z4T (HRL.out u hu) h2).mono (by rintro e w' ⟨rfl,hb⟩;exact ⟨rfl,hu.trans (hb.mono hu.size)⟩)
 have HLK:Hid (∀ u,Below W0.heap.size W0 u->Calls prog 24 #[ptrV l] u fun e w'=>∃ A1 k1 A2 k2 A3 k3,e=.returned (.agg #[O I (lstN s),O I s.given,O I s.summed,O I s.wrote,O I s.writes,O I 0,O I 0,O I 0,.slice A1 p.W k1,.slice A2 0 k2,.slice A3 (3+p.W) k3])/\Seen p s u.heap.size (.slice A1 p.W k1) (.slice A2 0 k2) (.slice A3 (3+p.W) k3) w'/\Below W0.heap.size W0 w'):=fun u hu=>by
  refine (z9I (HRL.out u hu)).mono ?_;rintro e w' ⟨v1,v2,v3,rfl,hs,hb⟩;obtain ⟨A1,k1,e1,-⟩:=z0n hs.held;obtain ⟨A2,k2,e2,-⟩:=z0n hs.shelf;obtain ⟨A3,k3,e3,-⟩:=z0n hs.ended;subst e1 e2 e3;refine ⟨A1,k1,A2,k2,A3,k3,?_,?_,hu.trans (hb.mono hu.size)⟩
  . unfold viewC
    rw [d1,d2,d3,d4,d6,List.length_range]
    rfl
  . rw [d4,d6,List.length_range] at hs
    exact hs
 have HTY:Hid (∀ u B A1 k1 A2 k2 A3 k3,Seen p s B (.slice A1 p.W k1) (.slice A2 0 k2) (.slice A3 (3+p.W) k3) u->(Calls prog 55 #[.slice A3 (3+p.W) k3,O I ((3+p.W:Nat):Int)] u fun e w'=>e=.returned (.bool true)/\w'=u)/\(Calls prog 56 #[.slice A1 p.W k1,O I p.W] u fun e w'=>e=.returned (.bool true)/\w'=u)):=fun u B A1 k1 A2 k2 A3 k3 hs=>by
  have ho:=hs.ended;rw [d6,List.length_range] at ho;exact ⟨y5g B (3+p.W) _ u ho (by omega),y6F B p.W (heldI s) _ u hs.held (fun i hi=>by unfold heldI;rw [d5 i hi]) (by omega)⟩
 clear h d1 d2 d3 d4 d5 d6 hab h2;generalize lstN s=ls at *;have w1:IntKind.i64.wrap (3+(p.W:Int))=((3+p.W:Nat):Int):=by rw [IntKind.wrap_i64];omega
 have HLV:Hid (∀ (u3 u4:World) (A1:Option Addr) (k1:Nat) (A2:Option Addr) (k2:Nat) (A3:Option Addr) (k3:Nat),Seen p s u3.heap.size (.slice A1 p.W k1) (.slice A2 0 k2) (.slice A3 (3+p.W) k3) u4->Below W0.heap.size W0 u4->Bx ((u4.alloc (.cells #[O I 0,O I 0,O I 0,O I 0,O I 0,O I 0,O I 0,O I 0,.slice none 0 0,.slice none 0 0,.slice none 0 0] 64)).setRow u4.heap.size #[O I ls,O I s.given,O I s.summed,O I s.wrote,O I s.writes,O I 0,O I 0,O I 0,.slice A1 p.W k1,.slice A2 0 k2,.slice A3 (3+p.W) k3]) u4.heap.size 64 #[O I ls,O I s.given,O I s.summed,O I s.wrote,O I s.writes,O I 0,O I 0,O I 0,.slice A1 p.W k1,.slice A2 0 k2,.slice A3 (3+p.W) k3]/\((u4.alloc (.cells #[O I 0,O I 0,O I 0,O I 0,O I 0,O I 0,O I 0,O I 0,.slice none 0 0,.slice none 0 0,.slice none 0 0] 64)).setRow u4.heap.size #[O I ls,O I s.given,O I s.summed,O I s.wrote,O I s.writes,O I 0,O I 0,O I 0,.slice A1 p.W k1,.slice A2 0 k2,.slice A3 (3+p.W) k3]).cell? ⟨w.heap.size,5,none⟩=some (O I p.W)/\(∃ B,Seen p s B (.slice A1 p.W k1) (.slice A2 0 k2) (.slice A3 (3+p.W) k3) ((u4.alloc (.cells #[O I 0,O I 0,O I 0,O I 0,O I 0,O I 0,O I 0,O I 0,.slice none 0 0,.slice none 0 0,.slice none 0 0] 64)).setRow u4.heap.size #[O I ls,O I s.given,O I s.summed,O I s.wrote,O I s.writes,O I 0,O I 0,O I 0,.slice A1 p.W k1,.slice A2 0 k2,.slice A3 (3+p.W) k3]))/\Below W0.heap.size W0 ((u4.alloc (.cells #[O I 0,O I 0,O I 0,O I 0,O I 0,O I 0,O I 0,O I 0,.slice none 0 0,.slice none 0 0,.slice none 0 0] 64)).setRow u4.heap.size #[O I ls,O I s.given,O I s.summed,O I s.wrote,O I s.writes,O I 0,O I 0,O I 0,.slice A1 p.W k1,.slice A2 0 k2,.slice A3 (3+p.W) k3])):=fun u3 u4 A1 k1 A2 k2 A3 k3 hs hb=>by
  have e1:Edit (fun _=>False) u4 ((u4.alloc (.cells #[O I 0,O I 0,O I 0,O I 0,O I 0,O I 0,O I 0,O I 0,.slice none 0 0,.slice none 0 0,.slice none 0 0] 64)).setRow u4.heap.size #[O I ls,O I s.given,O I s.summed,O I s.wrote,O I s.writes,O I 0,O I 0,O I 0,.slice A1 p.W k1,.slice A2 0 k2,.slice A3 (3+p.W) k3]):=((Edit.refl _ u4).alloc _).row zY _;have hb2:Below W0.heap.size W0 ((u4.alloc (.cells #[O I 0,O I 0,O I 0,O I 0,O I 0,O I 0,O I 0,O I 0,.slice none 0 0,.slice none 0 0,.slice none 0 0] 64)).setRow u4.heap.size #[O I ls,O I s.given,O I s.summed,O I s.wrote,O I s.writes,O I 0,O I 0,O I 0,.slice A1 p.W k1,.slice A2 0 k2,.slice A3 (3+p.W) k3]):=hb.trans (e1.below hb.size fun k hk=>hk.elim);exact ⟨(Bx.new u4 _ _).row _,(HX.out.below hb2).cell 5,⟨_,hs.keep e1 fun k hk=>hk.elim⟩,hb2⟩
 have HFI:Hid (∀ u,Below W0.heap.size W0 u->Below w.heap.size w u):=HK;clear HX hB0 hz0 HK HRL HWE;subst hW0;unfold ptrV at *
 go_enter Tryz.func26,Tryz.ntmps26
 go_wp2_with (first
  | (go_at_call 42;refine HAB.out.mono ?_;rintro e u1 ⟨A0,k0,rfl,hb⟩;have HS1:=zZ (HST.out u1 hb);clear hb HAB HST)
  | (go_at_call 51;refine HS1.out.mono ?_;rintro e u2 ⟨rfl,hb⟩;have HC1:=zZ (HCA.out u2 hb);clear hb HS1 HCA)
  | (go_at_call 54;refine HC1.out.mono ?_;rintro e u3 ⟨rfl,hb⟩;have HL1:=zZ (HLK.out u3 hb);clear hb HC1 HLK)
  | (go_at_call 24;refine HL1.out.mono ?_;rintro e u4 ⟨A1,k1,A2,k2,A3,k3,rfl,hs,hb⟩;obtain ⟨bx,cx,⟨B,hs2⟩,hb2⟩:=HLV.out u3 u4 A1 k1 A2 k2 A3 k3 hs hb;have HTI:=zZ (HTY.out _ B A1 k1 A2 k2 A3 k3 hs2);have HB2:=zZ (HFI.out _ hb2);have v5:=bx.cell 5;have v6:=bx.cell 6;have v7:=bx.cell 7;have v8:=bx.cell 8;have v9:=bx.cell 9;have v10:=bx.cell 10;simp at v5 v6 v7 v8 v9 v10;clear hs hb bx hs2 hb2 HL1 HLV HTY)
  | (refine z0b rfl _ _ 64 rfl u4.heap.size 64 _ _ rfl rfl (Bx.new u4 #[O I 0,O I 0,O I 0,O I 0,O I 0,O I 0,O I 0,O I 0,.slice none 0 0,.slice none 0 0,.slice none 0 0] 64) z0D rfl rfl ?_)
  | (go_at_call 55;refine HTI.out.1.mono ?_;rintro e u5 ⟨rfl,hu⟩;subst u5)
  | (go_at_call 56;refine HTI.out.2.mono ?_;rintro e u5 ⟨rfl,hu⟩;subst u5))
 go_ret;exact ⟨rfl,HB2.out⟩
def hI (H:Nat->Option Nat) (i:Nat):Int:=match H i with
 | none=>-1
 | some k=>k
end Go.Proofs.YtlncjgnomhpjnabGreatDoor
