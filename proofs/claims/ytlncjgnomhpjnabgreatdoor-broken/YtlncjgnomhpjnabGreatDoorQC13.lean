import Derived.Test.YtlncjgnomhpjnabGreatDoorQC12
import Derived.Deep.RegionHeld3
import Derived.Deep.DeepCutAuto
import Derived.Test.YtlncjgnomhpjnabGreatDoorQC0
namespace Go.Proofs.YtlncjgnomhpjnabGreatDoor
open Go.Value renaming int → O
open Go.IntKind renaming i64 → I
open Go.Proofs.Tryz (prog)
open Go.RowKit Go.Deep
set_option linter.unusedVariables false
def pairV (r c:Nat):Int:=([[0,1],[0,2],[2,1],[3,2]].getD r []).getD c 0
def z7B (w:World):Prop:=∀ r c,r < 4->c < 2->w.cell? ⟨0,2 * r+c,none⟩=some (O I (pairV r c))
structure TabsF (w:World):Prop where
 tabs:Tabs w
 pairs:z7B w
 pairsLt:0 < w.heap.size
theorem TabsF.below {w u:World} (h:TabsF w) (hb:Below w.heap.size w u):TabsF u :=
 ⟨h.tabs.below hb,fun r c hr hc=>(hb.cell (p:=⟨0,2 * r+c,none⟩) h.pairsLt).trans (h.pairs r c hr hc),Nat.lt_of_lt_of_le h.pairsLt hb.size⟩
theorem z8Y {w:World} {B n:Nat} {f:Nat->Int} (h:w.rowIs B 3 n (cutV n f)):IntsAt w (some ⟨B,0,none⟩) n f:=fun i hi=>⟨_,rfl,by
 have:=h.cell (i:=i) hi;rw [z3U,Nat.zero_add,this];simp [cutV,cutI,hi]⟩
theorem z1R {u u':World} {b:Nat} {o:Obj} (h:Below u.heap.size u u') (hk:b < u.heap.size/\u.heap[b]?=some o):b < u'.heap.size/\u'.heap[b]?=some o :=
 ⟨Nat.lt_of_lt_of_le hk.1 h.size,(h.block b hk.1).trans hk.2⟩
theorem z7C (d:Nat) (w:World) (hd:d<=12):Calls prog 247 #[O I d] w fun e w'=>e=.returned (O I ((d+1:Nat):Int))/\w'=w:=by
 have wd:IntKind.i64.wrap ((d:Int)+1)=((d+1:Nat):Int):=by rw [IntKind.wrap_i64];omega
 go_enter Tryz.func247,Tryz.ntmps247
 go_wp2;go_ret;exact ⟨rfl,rfl⟩
theorem y0m {u:World} {b o1 o2:Nat} {v0 v1:Value} {o:Obj} (hb:b < u.heap.size) (h:u.cell? ⟨b,o1,none⟩=some v0/\u.cell? ⟨b,o2,none⟩=some v1):(u.alloc o).cell? ⟨b,o1,none⟩=some v0/\(u.alloc o).cell? ⟨b,o2,none⟩=some v1:=by
 have hB:Below u.heap.size u (u.alloc o):=zX.alloc zY _;exact ⟨(hB.cell (p:=⟨b,o1,none⟩) hb).trans h.1,(hB.cell (p:=⟨b,o2,none⟩) hb).trans h.2⟩
theorem y3G {u:World} {b g o1 o2:Nat} {v0 v1 s0 s1 s2 s3:Value} (hne:b ≠ g) (h:u.cell? ⟨b,o1,none⟩=some v0/\u.cell? ⟨b,o2,none⟩=some v1) :
 ((((u.setCell ⟨g,0,none⟩ s0).setCell ⟨g,1,none⟩ s1).setCell ⟨g,2,none⟩ s2).setCell ⟨g,3,none⟩ s3).cell? ⟨b,o1,none⟩=some v0/\((((u.setCell ⟨g,0,none⟩ s0).setCell ⟨g,1,none⟩ s1).setCell ⟨g,2,none⟩ s2).setCell ⟨g,3,none⟩ s3).cell? ⟨b,o2,none⟩=some v1:=by
 have ne:∀ {i j:Nat},(⟨g,i,none⟩:Addr) ≠ ⟨b,j,none⟩:=fun e=>hne (by injection e with e1;exact e1.symm)
 have ne':∀ {i j:Nat},(⟨b,j,none⟩:Addr) ≠ ⟨g,i,none⟩:=fun e=>hne (by injection e)
 constructor
 . first
     | rw [World.cell?_setCell_other _ _ _ _ ne,World.cell?_setCell_other _ _ _ _ ne,World.cell?_setCell_other _ _ _ _ ne,World.cell?_setCell_other _ _ _ _ ne];exact h.1
     | rw [World.cell?_setCell_other _ _ _ _ ne',World.cell?_setCell_other _ _ _ _ ne',World.cell?_setCell_other _ _ _ _ ne',World.cell?_setCell_other _ _ _ _ ne'];exact h.1
 . first
     | rw [World.cell?_setCell_other _ _ _ _ ne,World.cell?_setCell_other _ _ _ _ ne,World.cell?_setCell_other _ _ _ _ ne,World.cell?_setCell_other _ _ _ _ ne];exact h.2
     | rw [World.cell?_setCell_other _ _ _ _ ne',World.cell?_setCell_other _ _ _ _ ne',World.cell?_setCell_other _ _ _ _ ne',World.cell?_setCell_other _ _ _ _ ne'];exact h.2
theorem y3H {u:World} {b o1 o2:Nat} {v0 v1 s0 s1 s2 s3:Value} {o:Obj} (hb:b < u.heap.size) (h:u.cell? ⟨b,o1,none⟩=some v0/\u.cell? ⟨b,o2,none⟩=some v1) :
 (((((u.alloc o).setCell ⟨u.heap.size,0,none⟩ s0).setCell ⟨u.heap.size,1,none⟩ s1).setCell ⟨u.heap.size,2,none⟩ s2).setCell ⟨u.heap.size,3,none⟩ s3).cell? ⟨b,o1,none⟩=some v0/\(((((u.alloc o).setCell ⟨u.heap.size,0,none⟩ s0).setCell ⟨u.heap.size,1,none⟩ s1).setCell ⟨u.heap.size,2,none⟩ s2).setCell ⟨u.heap.size,3,none⟩ s3).cell? ⟨b,o2,none⟩=some v1 :=
 y3G (Nat.ne_of_lt hb) (y0m hb h)
theorem z3G {u:World} {b:Nat} {s:Value} {T:TypeId} (h:u.heap[b]?=some (.cells #[s,s,s,s] T (0,0))) :
 u.cell? ⟨b,0,none⟩=some s/\u.cell? ⟨b,1,none⟩=some s/\u.cell? ⟨b,2,none⟩=some s/\u.cell? ⟨b,3,none⟩=some s/\u.frozen? ⟨b,0,none⟩=false/\u.frozen? ⟨b,1,none⟩=false/\u.frozen? ⟨b,2,none⟩=false/\u.frozen? ⟨b,3,none⟩=false :=
 ⟨Lib.cell_of_heap h 0,Lib.cell_of_heap h 1,Lib.cell_of_heap h 2,Lib.cell_of_heap h 3,Lib.frozen_of_heap h 0,Lib.frozen_of_heap h 1,Lib.frozen_of_heap h 2,Lib.frozen_of_heap h 3⟩
theorem z6R {u:World} {b:Nat} {o0 o1 o2 o3:Value} (q0:u.cell? ⟨b,0,none⟩=some o0) (q1:u.cell? ⟨b,1,none⟩=some o1) (q2:u.cell? ⟨b,2,none⟩=some o2) (q3:u.cell? ⟨b,3,none⟩=some o3) (v0 v1 v2 v3:Value) :
 ((((u.setCell ⟨b,0,none⟩ v0).setCell ⟨b,1,none⟩ v1).setCell ⟨b,2,none⟩ v2).setCell ⟨b,3,none⟩ v3).cell? ⟨b,0,none⟩=some v0 /\
 ((((u.setCell ⟨b,0,none⟩ v0).setCell ⟨b,1,none⟩ v1).setCell ⟨b,2,none⟩ v2).setCell ⟨b,3,none⟩ v3).cell? ⟨b,1,none⟩=some v1 /\
 ((((u.setCell ⟨b,0,none⟩ v0).setCell ⟨b,1,none⟩ v1).setCell ⟨b,2,none⟩ v2).setCell ⟨b,3,none⟩ v3).cell? ⟨b,2,none⟩=some v2 /\
 ((((u.setCell ⟨b,0,none⟩ v0).setCell ⟨b,1,none⟩ v1).setCell ⟨b,2,none⟩ v2).setCell ⟨b,3,none⟩ v3).cell? ⟨b,3,none⟩=some v3:=by
 have ne:∀ {i j:Nat},i ≠ j->(⟨b,i,none⟩:Addr) ≠ ⟨b,j,none⟩:=fun h e=>h (by injection e)
 refine ⟨?_,?_,?_,?_⟩
 . rw [World.cell?_setCell_other _ _ _ _ (ne (by decide)),World.cell?_setCell_other _ _ _ _ (ne (by decide)),World.cell?_setCell_other _ _ _ _ (ne (by decide)),World.cell?_setCell_same _ _ _ q0]
 . rw [World.cell?_setCell_other _ _ _ _ (ne (by decide)),World.cell?_setCell_other _ _ _ _ (ne (by decide)),World.cell?_setCell_same _ _ _ (by rw [World.cell?_setCell_other _ _ _ _ (ne (by decide))];exact q1)]
 . rw [World.cell?_setCell_other _ _ _ _ (ne (by decide)),World.cell?_setCell_same _ _ _ (by rw [World.cell?_setCell_other _ _ _ _ (ne (by decide)),World.cell?_setCell_other _ _ _ _ (ne (by decide))];exact q2)]
 . rw [World.cell?_setCell_same _ _ _ (by rw [World.cell?_setCell_other _ _ _ _ (ne (by decide)),World.cell?_setCell_other _ _ _ _ (ne (by decide)),World.cell?_setCell_other _ _ _ _ (ne (by decide))];exact q3)]
set_option maxHeartbeats 1000000 in
theorem z8Z (d:Nat) (a b:Option Addr) (n c c':Nat) (l r:Nat->Int) (w:World) (hd1:1<=d) (hd:d<=12) (hn1:1<=n) (hn:n<=32) (hl:∀ j,j < n->fitsB d (l j)=true) (hr:∀ j,j < n->fitsB d (r j)=true) (hI:IntsAt w a n l) (hJ:IntsAt w b n r)
 (hlow:∀ y,a=some y->0 < n->y.block < w.heap.size) (hlow2:∀ y,b=some y->0 < n->y.block < w.heap.size) (hT:Tabs w) :
 Calls prog 194 #[O I d,.slice a n c,.slice b n c'] w fun e w' =>
  e=.returned (.agg #[.string (bs (subT d l n)),.string (bs (subT d r n)),.string (bs (subT (d+1) (sideL l r) n)),.string (bs (subT d (midL l r) n))])/\Below w.heap.size w w':=by
 have bl:∀ j,j < n->-4096<=l j/\l j<=4096:=fun j hj=>z4o (hl j hj) (by omega)
 have br:∀ j,j < n->-4096<=r j/\r j<=4096:=fun j hj=>z4o (hr j hj) (by omega)
 have lw:∀ {x:Option Addr} {u:World},(∀ y,x=some y->0 < n->y.block < w.heap.size)->Below w.heap.size w u->(∀ y,x=some y->0 < n->y.block < u.heap.size):=fun h hu y hy h0=>Nat.lt_of_lt_of_le (h y hy h0) hu.size
 have HL:=zZ (fun (u:World) (hu:Below w.heap.size w u)=>z2c a n c d l u hn1 hn hd1 (by omega) hl (hI.below hu hlow) (lw hlow hu) (hT.below hu));have HR:=zZ (fun (u:World) (hu:Below w.heap.size w u)=>z2c b n c' d r u hn1 hn hd1 (by omega) hr (hJ.below hu hlow2) (lw hlow2 hu) (hT.below hu));have HSO:=zZ (fun (u:World) (hu:Below w.heap.size w u)=>y2p a b n c c' l r u hn bl br (hI.below hu hlow) (hJ.below hu hlow2) (lw hlow hu) (lw hlow2 hu));have HMO:=zZ (fun (u:World) (hu:Below w.heap.size w u)=>z8X a b n c c' l r u hn bl br (hI.below hu hlow) (hJ.below hu hlow2) (lw hlow hu) (lw hlow2 hu));have HS:=zZ (fun (u:World) (hu:Below w.heap.size w u) (g:Nat) (hg:u.rowIs g 3 n (cutV n (sideL l r)))=>z2c (some ⟨g,0,none⟩) n n (d+1) (sideL l r) u hn1 hn (by omega) (by omega) (fun j hj=>z8T hd1 (hl j hj) (hr j hj)) (z8Y hg) (fun y hy _=>by cases hy;exact hg.lt) (hT.below hu));have HM:=zZ (fun (u:World) (hu:Below w.heap.size w u) (g:Nat) (hg:u.rowIs g 3 n (cutV n (midL l r)))=>z2c (some ⟨g,0,none⟩) n n d (midL l r) u hn1 hn hd1 (by omega) (fun j hj=>y1r (hl j hj) (hr j hj)) (z8Y hg) (fun y hy _=>by cases hy;exact hg.lt) (hT.below hu));clear hI hJ hlow hlow2 hT lw bl br hl hr;generalize bs (subT d l n)=XL at *;generalize bs (subT d r n)=XR at *;generalize bs (subT (d+1) (sideL l r) n)=XS at *;generalize bs (subT d (midL l r) n)=XM at *;have hb0:Below w.heap.size w (w.alloc (.cells #[.string ⟨#[]⟩,.string ⟨#[]⟩,.string ⟨#[]⟩,.string ⟨#[]⟩] 270)):=zX.alloc zY _;have HB0:=zZ hb0;clear hb0;have hk0:w.heap.size < (w.alloc (.cells #[.string ⟨#[]⟩,.string ⟨#[]⟩,.string ⟨#[]⟩,.string ⟨#[]⟩] 270)).heap.size/\(w.alloc (.cells #[.string ⟨#[]⟩,.string ⟨#[]⟩,.string ⟨#[]⟩,.string ⟨#[]⟩] 270)).heap[w.heap.size]?=some (.cells #[.string ⟨#[]⟩,.string ⟨#[]⟩,.string ⟨#[]⟩,.string ⟨#[]⟩] 270 (0,0)):=⟨by simp,blk_alloc_new _ _⟩;have HK0:=zZ hk0;clear hk0;have HW:=zZ (fun u=>z7C d u hd)
 go_enter Tryz.func194,Tryz.ntmps194
 go_wp2_with (first
  | (go_at_call 221;refine (HL.out _ ?_).mono ?_;exact HB0.out;rintro e u1 ⟨rfl,hb1⟩;have HK1:=zZ (z1R hb1 HK0.out);have HB1:=zZ (HB0.out.trans (hb1.mono HB0.out.size));clear hb1 HL HB0 HK0)
  | (go_at_call 221;refine (HR.out _ ?_).mono ?_;exact HB1.out;rintro e u2 ⟨rfl,hb2⟩;have HK2:=zZ (z1R hb2 HK1.out);have HB2:=zZ (HB1.out.trans (hb2.mono HB1.out.size));clear hb2 HR HB1 HK1)
  | (go_at_call 247;refine (HW.out _).mono ?_;rintro e w9 ⟨rfl,hw⟩;subst w9;clear HW)
  | (go_at_call 248;refine (HSO.out _ ?_).mono ?_;exact HB2.out;rintro e u3 ⟨rfl,hr3,hb3⟩;have HR3:=zZ hr3;have HK3:=zZ (z1R hb3 HK2.out);have HB3:=zZ (HB2.out.trans (hb3.mono HB2.out.size));clear hb3 hr3 HSO HB2 HK2)
  | (go_at_call 221;refine (HS.out _ ?_ _ ?_).mono ?_;exact HB3.out;exact HR3.out;rintro e u4 ⟨rfl,hb4⟩;have HK4:=zZ (z1R hb4 HK3.out);have HB4:=zZ (HB3.out.trans (hb4.mono HB3.out.size));clear hb4 HS HB3 HK3 HR3)
  | (go_at_call 249;refine (HMO.out _ ?_).mono ?_;exact HB4.out;rintro e u5 ⟨rfl,hr5,hb5⟩;have HR5:=zZ hr5;have HK5:=zZ (z1R hb5 HK4.out);have HB5:=zZ (HB4.out.trans (hb5.mono HB4.out.size));clear hb5 hr5 HMO HB4 HK4)
  | (go_at_call 221;refine (HM.out _ ?_ _ ?_).mono ?_;exact HB5.out;exact HR5.out;rintro e u6 ⟨rfl,hb6⟩;have hk6:=z1R hb6 HK5.out;have q0:=Lib.cell_of_heap hk6.2 0;have q1:=Lib.cell_of_heap hk6.2 1;have q2:=Lib.cell_of_heap hk6.2 2;have q3:=Lib.cell_of_heap hk6.2 3;have z0:=Lib.frozen_of_heap hk6.2 0;have z1:=Lib.frozen_of_heap hk6.2 1;have z2:=Lib.frozen_of_heap hk6.2 2;have z3:=Lib.frozen_of_heap hk6.2 3;simp at q0 q1 q2 q3;have HB6:=zZ (HB5.out.trans (hb6.mono HB5.out.size));clear hb6 HM HB5 HK5 HR5 hk6))
 have fc:=z6R q0 q1 q2 q3 (.string XL) (.string XR) (.string XS) (.string XM);refine bodyPost_ret (v:=.agg #[.string XL,.string XR,.string XS,.string XM]) (by simp [results,Tryz.results194,go_sem,fc.1,fc.2.1,fc.2.2.1,fc.2.2.2]) rfl ?_;exact ⟨rfl,(((HB6.out.setCell zY _).setCell zY _).setCell zY _).setCell zY _⟩
def pxF (XL XR XS XM:ByteArray) (k:Nat):ByteArray:=if k=0 then XL ++ XR else if k=1 then XL ++ XS else if k=2 then XS ++ XR else XM ++ XS
theorem y5R (d:Nat) (l r:Nat->Int) (n k:Nat):bs (pairT d l r n k)=pxF (bs (subT d l n)) (bs (subT d r n)) (bs (subT (d+1) (sideL l r) n)) (bs (subT d (midL l r) n)) k:=by
 unfold pairT pxF;rw [z0N,z0N,z0N,z0N];split
 . rfl
 . split
   . rfl
   . split <;> rfl
theorem px0 (XL XR XS XM:ByteArray):pxF XL XR XS XM 0=XL ++ XR:=by unfold pxF;rw [if_pos rfl]
theorem px1 (XL XR XS XM:ByteArray):pxF XL XR XS XM 1=XL ++ XS:=by unfold pxF;rw [if_neg (by decide),if_pos rfl]
theorem px2 (XL XR XS XM:ByteArray):pxF XL XR XS XM 2=XS ++ XR:=by unfold pxF;rw [if_neg (by decide),if_neg (by decide),if_pos rfl]
theorem px3 (XL XR XS XM:ByteArray):pxF XL XR XS XM 3=XM ++ XS:=by unfold pxF;rw [if_neg (by decide),if_neg (by decide),if_neg (by decide)]
def bestX (XL XR XS XM:ByteArray) (T:Nat->List UInt8) (m:Nat):ByteArray:=if m=0 then ⟨#[]⟩ else pxF XL XR XS XM (bestM T m)
def CodesAt (w:World) (g:Nat) (XL XR XS XM:ByteArray):Prop:=g < w.heap.size/\w.cell? ⟨g,0,none⟩=some (.string XL)/\w.cell? ⟨g,1,none⟩=some (.string XR)/\w.cell? ⟨g,2,none⟩=some (.string XS)/\w.cell? ⟨g,3,none⟩=some (.string XM)
theorem CodesAt.alloc {w:World} {g:Nat} {XL XR XS XM:ByteArray} (h:CodesAt w g XL XR XS XM) (o:Obj):CodesAt (w.alloc o) g XL XR XS XM:=by
 have hB:Below w.heap.size w (w.alloc o):=zX.alloc zY _;exact ⟨Nat.lt_of_lt_of_le h.1 hB.size,(hB.cell (p:=⟨g,0,none⟩) h.1).trans h.2.1,(hB.cell (p:=⟨g,1,none⟩) h.1).trans h.2.2.1,(hB.cell (p:=⟨g,2,none⟩) h.1).trans h.2.2.2.1,(hB.cell (p:=⟨g,3,none⟩) h.1).trans h.2.2.2.2⟩
theorem z5O {T:Nat->List UInt8} {m:Nat} (h:m=0∨(T m).length < (T (bestM T m)).length):bestM T (m+1)=m:=by rw [bestM,if_pos h]
theorem y3I {T:Nat->List UInt8} {m:Nat} (h:¬ (m=0∨(T m).length < (T (bestM T m)).length)):bestM T (m+1)=bestM T m:=by rw [bestM,if_neg h]
theorem z1J {XL XR XS XM:ByteArray} {T:Nat->List UInt8} {m:Nat} (h:m ≠ 0):bestX XL XR XS XM T m=pxF XL XR XS XM (bestM T m):=by unfold bestX;rw [if_neg h]
theorem z5P {XL XR XS XM:ByteArray} {T:Nat->List UInt8} (h:∀ k,bs (T k)=pxF XL XR XS XM k) (k:Nat):(pxF XL XR XS XM k).size=(T k).length:=by rw [← h k,z0e]
theorem z5Q {XL XR XS XM P:ByteArray} {T:Nat->List UInt8} {m:Nat} (hm:m ≠ 0) (h:∀ k,bs (T k)=pxF XL XR XS XM k) (hp:pxF XL XR XS XM m=P) (hl:P.size < (bestX XL XR XS XM T m).size):bestX XL XR XS XM T (m+1)=P/\bestM T (m+1)=m:=by
 rw [z1J hm,z5P h,← hp,z5P h] at hl;have e:=z5O (T:=T) (m:=m) (.inr hl);exact ⟨by rw [z1J (by omega),e,hp],e⟩
theorem z5R {XL XR XS XM P:ByteArray} {T:Nat->List UInt8} {m:Nat} (hm:m ≠ 0) (h:∀ k,bs (T k)=pxF XL XR XS XM k) (hp:pxF XL XR XS XM m=P) (hl:¬ P.size < (bestX XL XR XS XM T m).size):bestX XL XR XS XM T (m+1)=bestX XL XR XS XM T m/\bestM T (m+1)=bestM T m:=by
 rw [z1J hm,z5P h,← hp,z5P h] at hl;have e:=y3I (T:=T) (m:=m) (fun hh=>hh.elim hm hl);exact ⟨by rw [z1J (by omega),z1J hm,e],e⟩
theorem z7D {XL XR XS XM:ByteArray} {T:Nat->List UInt8} {m:Nat} (hm:m ≠ 0) (h:∀ k,bs (T k)=pxF XL XR XS XM k) (hb:∀ k,16<=(T k).length/\(T k).length<=848):(bestX XL XR XS XM T m).size<=848:=by
 rw [z1J hm,z5P h];exact (hb _).2
theorem y8l (u:World):(Instr.index 273 (.agg #[O I 0,O I 1,O I 0,O I 2,O I 2,O I 1,O I 3,O I 2]) (O I 0)).run prog u=.ok (.agg #[O I 0,O I 1]) u:=by kernel_rfl
theorem y7a (u:World):(Instr.index 273 (.agg #[O I 0,O I 1,O I 0,O I 2,O I 2,O I 1,O I 3,O I 2]) (O I 1)).run prog u=.ok (.agg #[O I 0,O I 2]) u:=by kernel_rfl
theorem y7b (u:World):(Instr.index 273 (.agg #[O I 0,O I 1,O I 0,O I 2,O I 2,O I 1,O I 3,O I 2]) (O I 2)).run prog u=.ok (.agg #[O I 2,O I 1]) u:=by kernel_rfl
theorem y7c (u:World):(Instr.index 273 (.agg #[O I 0,O I 1,O I 0,O I 2,O I 2,O I 1,O I 3,O I 2]) (O I 3)).run prog u=.ok (.agg #[O I 3,O I 2]) u:=by kernel_rfl
set_option maxRecDepth 8000 in
set_option maxHeartbeats 1000000 in
theorem z4W (d:Nat) (a:Option Addr) (n cap:Nat) (A:Nat->Option Addr) (N:Nat) (C:Nat->Nat) (F:Nat->Nat->Int) (w:World) (hd1:1<=d) (hd:d<=12) (hn1:1<=n) (hn4:n<=4) (hN1:1<=N) (hN:N<=32)
 (hf:∀ i,i < n->∀ j,j < N->fitsB d (F i j)=true) (hA:ListsAt w a n A (fun _=>N) C) (hI:∀ i,i < n->IntsAt w (A i) N (F i)) (hlow:Low w.heap.size a n A (fun _=>N)) (hT:TabsF w) :
 Calls prog 123 #[O I d,.slice a n cap] w fun e w'=>e=.returned (.tuple #[O I (modeN d n F N),.string (bs (z0j d n F N))])/\Below w.heap.size w w':=by
 by_cases h2:n=2
 . subst h2
   have HCP:=zZ (fun (u:World) (hu:Below w.heap.size w u)=>z8Z d (A 0) (A 1) N (C 0) (C 1) (F 0) (F 1) u hd1 hd hN1 hN (hf 0 (by omega)) (hf 1 (by omega)) ((hI 0 (by omega)).below hu (hlow.2 0 (by omega))) ((hI 1 (by omega)).below hu (hlow.2 1 (by omega))) (fun y hy h0=>Nat.lt_of_lt_of_le (hlow.2 0 (by omega) y hy h0) hu.size) (fun y hy h0=>Nat.lt_of_lt_of_le (hlow.2 1 (by omega) y hy h0) hu.size) (hT.below hu).tabs);have HTF:=zZ (fun (u:World) (hu:Below w.heap.size w u)=>hT.below hu);obtain ⟨b,off,rfl,hcell⟩:=hA.open (by omega);have hc0:=hcell 0 (by omega);have hc1:=hcell 1 (by omega);have hbl:b < w.heap.size:=hlow.1 _ rfl (by omega:0 < 2);simp only [Nat.add_zero] at hc0;have HCP2:=zZ (fun (u:World) (hu:Below w.heap.size w u)=>(HCP.out u hu).mono fun e w' h=>(⟨h.1,h.2,hu.trans (h.2.mono hu.size),((hu.trans (h.2.mono hu.size)).cell (p:=⟨b,off,none⟩) hbl).trans hc0,((hu.trans (h.2.mono hu.size)).cell (p:=⟨b,off+1,none⟩) hbl).trans hc1⟩ :
    e=.returned (.agg #[.string (bs (subT d (F 0) N)),.string (bs (subT d (F 1) N)),.string (bs (subT (d+1) (sideL (F 0) (F 1)) N)),.string (bs (subT d (midL (F 0) (F 1)) N))])/\Below u.heap.size u w'/\Below w.heap.size w w'/\w'.cell? ⟨b,off,none⟩=some (.slice (A 0) N (C 0))/\w'.cell? ⟨b,off+1,none⟩=some (.slice (A 1) N (C 1))))
   clear HCP;have p0:=hT.pairs 0 0 (by omega) (by omega);have p1:=hT.pairs 0 1 (by omega) (by omega);have p2:=hT.pairs 1 0 (by omega) (by omega);have p3:=hT.pairs 1 1 (by omega) (by omega);have p4:=hT.pairs 2 0 (by omega) (by omega);have p5:=hT.pairs 2 1 (by omega) (by omega);have p6:=hT.pairs 3 0 (by omega) (by omega);have p7:=hT.pairs 3 1 (by omega) (by omega);clear hf hA hI hlow hcell;have HK0:Hid (w.heap.size < (w.alloc (.cells #[.string ⟨#[]⟩,.string ⟨#[]⟩,.string ⟨#[]⟩,.string ⟨#[]⟩] 270)).drew.heap.size/\(w.alloc (.cells #[.string ⟨#[]⟩,.string ⟨#[]⟩,.string ⟨#[]⟩,.string ⟨#[]⟩] 270)).drew.heap[w.heap.size]?=some (.cells #[.string ⟨#[]⟩,.string ⟨#[]⟩,.string ⟨#[]⟩,.string ⟨#[]⟩] 270 (0,0))):=⟨by show w.heap.size < (w.alloc _).heap.size;simp,blk_alloc_new w _⟩;have hS0:w.drew.cell? ⟨b,off,none⟩=some (.slice (A 0) N (C 0))/\w.drew.cell? ⟨b,off+1,none⟩=some (.slice (A 1) N (C 1)):=⟨hc0,hc1⟩;have hSA:(w.alloc (.cells #[.string ⟨#[]⟩,.string ⟨#[]⟩,.string ⟨#[]⟩,.string ⟨#[]⟩] 270)).drew.cell? ⟨b,off,none⟩=some (.slice (A 0) N (C 0))/\(w.alloc (.cells #[.string ⟨#[]⟩,.string ⟨#[]⟩,.string ⟨#[]⟩,.string ⟨#[]⟩] 270)).drew.cell? ⟨b,off+1,none⟩=some (.slice (A 1) N (C 1)):=y0m (u:=w) hbl ⟨hc0,hc1⟩;have HPX:Hid (∀ k,bs (pairT d (F 0) (F 1) N k)=pxF (bs (subT d (F 0) N)) (bs (subT d (F 1) N)) (bs (subT (d+1) (sideL (F 0) (F 1)) N)) (bs (subT d (midL (F 0) (F 1)) N)) k):=fun k=>y5R d (F 0) (F 1) N k
   have HPL:Hid (∀ k,16<=(pairT d (F 0) (F 1) N k).length/\(pairT d (F 0) (F 1) N k).length<=848):=fun k=>y1q d (F 0) (F 1) N k hN1 hN hd
   have hmode:modeN d 2 F N=bestM (pairT d (F 0) (F 1) N) 4:=by unfold modeN;rw [if_pos rfl]
   have hblk:z0j d 2 F N=pairT d (F 0) (F 1) N (modeN d 2 F N):=by unfold z0j;rw [if_pos rfl]
   rw [hblk,hmode,HPX.out];clear hblk hmode;generalize pairT d (F 0) (F 1) N=TT at *;have zl:(bs (subT d (F 0) N)).size<=424:=by rw [z0e];exact z1C d (F 0) N hN1 hN (by omega)
   have zr:(bs (subT d (F 1) N)).size<=424:=by rw [z0e];exact z1C d (F 1) N hN1 hN (by omega)
   have zs:(bs (subT (d+1) (sideL (F 0) (F 1)) N)).size<=424:=by rw [z0e];exact z1C (d+1) _ N hN1 hN (by omega)
   have zm:(bs (subT d (midL (F 0) (F 1)) N)).size<=424:=by rw [z0e];exact z1C d _ N hN1 hN (by omega)
   generalize bs (subT d (F 0) N)=XL at *;generalize bs (subT d (F 1) N)=XR at *;generalize bs (subT (d+1) (sideL (F 0) (F 1)) N)=XS at *;generalize bs (subT d (midL (F 0) (F 1)) N)=XM at *
   go_enter Tryz.func123,Tryz.ntmps123
   go_wp2_with fail
   go_cut [6] (fun s6 wx=>∃ g:Nat,s6=.pointer (some ⟨g,0,none⟩)/\Hid (w.heap.size<=g/\g < wx.heap.size/\Below w.heap.size w wx/\wx.cell? ⟨g,0,none⟩=some (.string XL)/\wx.cell? ⟨g,1,none⟩=some (.string XR)/\wx.cell? ⟨g,2,none⟩=some (.string XS)/\wx.cell? ⟨g,3,none⟩=some (.string XM)))
   case first =>
    go_region_held3 (fun w'=>w'.cell? ⟨b,off,none⟩=some (.slice (A 0) N (C 0))/\w'.cell? ⟨b,off+1,none⟩=some (.slice (A 1) N (C 1)))
     (first | with_reducible exact hS0 | with_reducible exact hSA | with_reducible exact hS1 | with_reducible exact y0m (Nat.lt_of_lt_of_le hbl HB1.size) hS1 | with_reducible exact y3G (Nat.ne_of_lt hbl) hS1 | with_reducible exact y3H (Nat.lt_of_lt_of_le hbl HB1.size) hS1)
     (first
     | (go_at_call 194;refine (HCP2.out _ ?_).mono ?_;(first | exact zX.drew | exact (zX.alloc zY _).drew);rintro e u1 ⟨rfl,hb1,HB1,hS1⟩;(first | (guard_hyp hb1:Below (w.alloc (.cells #[.string ⟨#[]⟩,.string ⟨#[]⟩,.string ⟨#[]⟩,.string ⟨#[]⟩] 270)).drew.heap.size (w.alloc (.cells #[.string ⟨#[]⟩,.string ⟨#[]⟩,.string ⟨#[]⟩,.string ⟨#[]⟩] 270)).drew u1;have hk6:=z1R hb1 HK0.out;obtain ⟨q0,q1,q2,q3,z0,z1,z2,z3⟩:=z3G hk6.2;have HK6:=zZ hk6;clear hk6) | skip)))
    . go_wp2
      go_meet
      case rel=>exact ⟨u1.heap.size,rfl,HB1.size,by simp,HB1.alloc HB1.size _,by simp,by simp,by simp,by simp⟩
    . go_wp2
      go_meet
      case rel=>exact ⟨w.heap.size,rfl,Nat.le_refl _,by simp only [World.size_setCell];exact HK6.out.1,(((HB1.setCell (p:=⟨w.heap.size,0,none⟩) zY _).setCell (p:=⟨w.heap.size,1,none⟩) zY _).setCell (p:=⟨w.heap.size,2,none⟩) zY _).setCell (p:=⟨w.heap.size,3,none⟩) zY _,z6R q0 q1 q2 q3 _ _ _ _⟩
   case rest =>
    obtain ⟨g,rfl,HC⟩:=hcut;have HTW:=zZ (HTF.out wc HC.out.2.2.1);have e0:wc.cell? ⟨0,0,none⟩=some (O I 0):=HTW.out.pairs 0 0 (by omega) (by omega);have e1:wc.cell? ⟨0,1,none⟩=some (O I 1):=HTW.out.pairs 0 1 (by omega) (by omega);have e2:wc.cell? ⟨0,2,none⟩=some (O I 0):=HTW.out.pairs 1 0 (by omega) (by omega);have e3:wc.cell? ⟨0,3,none⟩=some (O I 2):=HTW.out.pairs 1 1 (by omega) (by omega);have e4:wc.cell? ⟨0,4,none⟩=some (O I 2):=HTW.out.pairs 2 0 (by omega) (by omega);have e5:wc.cell? ⟨0,5,none⟩=some (O I 1):=HTW.out.pairs 2 1 (by omega) (by omega);have e6:wc.cell? ⟨0,6,none⟩=some (O I 3):=HTW.out.pairs 3 0 (by omega) (by omega);have e7:wc.cell? ⟨0,7,none⟩=some (O I 2):=HTW.out.pairs 3 1 (by omega) (by omega);clear p0 p1 p2 p3 p4 p5 p6 p7 hS0 hSA HK0 HCP2;go_wp2
    go_loopw [7,8,27] (fun bv tv iv wr=>∃ m:Nat,m<=4/\iv=O I m/\bv=O I (bestM TT m:Nat)/\tv=.string (bestX XL XR XS XM TT m)/\Hid (Below w.heap.size w wr/\CodesAt wr g XL XR XS XM)) (fun _ _ iv _=>4 - (intOf iv).toNat)
    case atStart=>exact ⟨0,by omega,rfl,rfl,rfl,HC.out.2.2.1,HC.out.2.1,HC.out.2.2.2⟩
    case round =>
     clear e0 e1 e2 e3 e4 e5 e6 e7 hc0 hc1;obtain ⟨m,hm,rfl,rfl,rfl,HR⟩:=hrel
     match m,hm with
     | 0,_ =>
      obtain ⟨cg,k0,k1,k2,k3⟩:=HR.out.2;have HB:=zZ HR.out.1;have HCA:=zZ HR.out.2;have HEX:Hid (bestX XL XR XS XM TT 1=XL ++ XR/\bestM TT 1=0):=⟨by rw [z1J (by decide),z5O (.inl rfl),px0],z5O (.inl rfl)⟩;generalize bestX XL XR XS XM TT 0=BX at *;generalize bestM TT 0=bm at *;have hix:=y8l;go_wp2
      go_quiet ((fail))
      go_wp2
      go_roundw
      case rel=>exact ⟨1,by omega,by go_num,by rw [HEX.out.2],by rw [HEX.out.1],below_drewN (HB.out.alloc HB.out.size _) _,HCA.out.alloc _⟩
      case measure=>simp [intOf]
     | 1,_ =>
      obtain ⟨cg,k0,k1,k2,k3⟩:=HR.out.2;have HB:=zZ HR.out.1;have HCA:=zZ HR.out.2;have hsz:(XL ++ XS).size=XL.size+XS.size:=ByteArray.size_append;have hbx:=z7D (m:=1) (by decide) HPX.out HPL.out
      by_cases hlt:(XL ++ XS).size < (bestX XL XR XS XM TT 1).size
      . have HEX:=zZ (z5Q (m:=1) (by decide) HPX.out (px1 XL XR XS XM) hlt)
        generalize bestX XL XR XS XM TT 1=BX at *;generalize bestM TT 1=bm at *;have tds:decide (((XL ++ XS).size:Int) < (BX.size:Int))=true:=decide_eq_true (Int.ofNat_lt.2 hlt);have tdt:decide ((XL.size:Int)+(XS.size:Int) < (BX.size:Int))=true:=decide_eq_true (by omega);clear hsz;have hix:=y7a;clear hlt;go_wp2
        go_quiet ((fail))
        go_wp2
        go_roundw
        case rel=>exact ⟨1+1,by omega,by go_num,by rw [HEX.out.2],by rw [HEX.out.1],below_drewN (HB.out.alloc HB.out.size _) _,HCA.out.alloc _⟩
        case measure=>simp [intOf]
      . have HEX:=zZ (z5R (m:=1) (by decide) HPX.out (px1 XL XR XS XM) hlt)
        generalize bestX XL XR XS XM TT 1=BX at *;generalize bestM TT 1=bm at *;have tds:decide (((XL ++ XS).size:Int) < (BX.size:Int))=false:=decide_eq_false (fun hh=>hlt (Int.ofNat_lt.1 hh));have tdt:decide ((XL.size:Int)+(XS.size:Int) < (BX.size:Int))=false:=decide_eq_false (by omega);clear hsz;have hix:=y7a;clear hlt;go_wp2
        go_quiet ((fail))
        go_wp2
        go_roundw
        case rel=>exact ⟨1+1,by omega,by go_num,by rw [HEX.out.2],by rw [HEX.out.1],below_drewN (HB.out.alloc HB.out.size _) _,HCA.out.alloc _⟩
        case measure=>simp [intOf]
     | 2,_ =>
      obtain ⟨cg,k0,k1,k2,k3⟩:=HR.out.2;have HB:=zZ HR.out.1;have HCA:=zZ HR.out.2;have hsz:(XS ++ XR).size=XS.size+XR.size:=ByteArray.size_append;have hbx:=z7D (m:=2) (by decide) HPX.out HPL.out
      by_cases hlt:(XS ++ XR).size < (bestX XL XR XS XM TT 2).size
      . have HEX:=zZ (z5Q (m:=2) (by decide) HPX.out (px2 XL XR XS XM) hlt)
        generalize bestX XL XR XS XM TT 2=BX at *;generalize bestM TT 2=bm at *;have tds:decide (((XS ++ XR).size:Int) < (BX.size:Int))=true:=decide_eq_true (Int.ofNat_lt.2 hlt);have tdt:decide ((XS.size:Int)+(XR.size:Int) < (BX.size:Int))=true:=decide_eq_true (by omega);clear hsz;have hix:=y7b;clear hlt;go_wp2
        go_quiet ((fail))
        go_wp2
        go_roundw
        case rel=>exact ⟨2+1,by omega,by go_num,by rw [HEX.out.2],by rw [HEX.out.1],below_drewN (HB.out.alloc HB.out.size _) _,HCA.out.alloc _⟩
        case measure=>simp [intOf]
      . have HEX:=zZ (z5R (m:=2) (by decide) HPX.out (px2 XL XR XS XM) hlt)
        generalize bestX XL XR XS XM TT 2=BX at *;generalize bestM TT 2=bm at *;have tds:decide (((XS ++ XR).size:Int) < (BX.size:Int))=false:=decide_eq_false (fun hh=>hlt (Int.ofNat_lt.1 hh));have tdt:decide ((XS.size:Int)+(XR.size:Int) < (BX.size:Int))=false:=decide_eq_false (by omega);clear hsz;have hix:=y7b;clear hlt;go_wp2
        go_quiet ((fail))
        go_wp2
        go_roundw
        case rel=>exact ⟨2+1,by omega,by go_num,by rw [HEX.out.2],by rw [HEX.out.1],below_drewN (HB.out.alloc HB.out.size _) _,HCA.out.alloc _⟩
        case measure=>simp [intOf]
     | 3,_ =>
      obtain ⟨cg,k0,k1,k2,k3⟩:=HR.out.2;have HB:=zZ HR.out.1;have HCA:=zZ HR.out.2;have hsz:(XM ++ XS).size=XM.size+XS.size:=ByteArray.size_append;have hbx:=z7D (m:=3) (by decide) HPX.out HPL.out
      by_cases hlt:(XM ++ XS).size < (bestX XL XR XS XM TT 3).size
      . have HEX:=zZ (z5Q (m:=3) (by decide) HPX.out (px3 XL XR XS XM) hlt)
        generalize bestX XL XR XS XM TT 3=BX at *;generalize bestM TT 3=bm at *;have tds:decide (((XM ++ XS).size:Int) < (BX.size:Int))=true:=decide_eq_true (Int.ofNat_lt.2 hlt);have tdt:decide ((XM.size:Int)+(XS.size:Int) < (BX.size:Int))=true:=decide_eq_true (by omega);clear hsz;have hix:=y7c;clear hlt;go_wp2
        go_quiet ((fail))
        go_wp2
        go_roundw
        case rel=>exact ⟨3+1,by omega,by go_num,by rw [HEX.out.2],by rw [HEX.out.1],below_drewN (HB.out.alloc HB.out.size _) _,HCA.out.alloc _⟩
        case measure=>simp [intOf]
      . have HEX:=zZ (z5R (m:=3) (by decide) HPX.out (px3 XL XR XS XM) hlt)
        generalize bestX XL XR XS XM TT 3=BX at *;generalize bestM TT 3=bm at *;have tds:decide (((XM ++ XS).size:Int) < (BX.size:Int))=false:=decide_eq_false (fun hh=>hlt (Int.ofNat_lt.1 hh));have tdt:decide ((XM.size:Int)+(XS.size:Int) < (BX.size:Int))=false:=decide_eq_false (by omega);clear hsz;have hix:=y7c;clear hlt;go_wp2
        go_quiet ((fail))
        go_wp2
        go_roundw
        case rel=>exact ⟨3+1,by omega,by go_num,by rw [HEX.out.2],by rw [HEX.out.1],below_drewN (HB.out.alloc HB.out.size _) _,HCA.out.alloc _⟩
        case measure=>simp [intOf]
     | 4,_ =>
      have HEX:Hid (bestX XL XR XS XM TT 4=pxF XL XR XS XM (bestM TT 4)):=z1J (by decide);go_wp2;go_ret2;refine ⟨?_,HR.out.1⟩
      show Ending.returned (.tuple #[O I (bestM TT 4:Nat),.string (bestX XL XR XS XM TT 4)])=_
      rw [HEX.out]
 . have e1:modeN d n F N=0:=by unfold modeN;rw [if_neg h2]
   have e2:z0j d n F N=allT d F N n:=by unfold z0j;rw [if_neg h2]
   have HCA:=zZ (y0l d a n cap A N C F w hd1 hd hn1 hn4 hN1 hN hf hA hI hlow hT.tabs);rw [e1,e2];have hne:((n:Int) != 2)=true:=by simp;omega
   clear hf hA hI hlow hT e1 e2 h2;generalize bs (allT d F N n)=R at *
   go_enter Tryz.func123,Tryz.ntmps123
   go_wp2_with (go_at_call 193;refine HCA.out.mono ?_;rintro e u1 ⟨rfl,hb1⟩;have HB1:=zZ hb1;clear hb1 HCA)
   go_ret2;exact ⟨rfl,HB1.out⟩
theorem z0l (T:List UInt8) (a b:Nat) (h:b<=T.length) (hab:a<=b):(z0d T a b).length=b - a:=by
 unfold z0d;rw [List.length_take,List.length_drop];omega
def hNum (T:List UInt8):Nat:=valN (z0d T 1 3)
def hLen (T:List UInt8):Nat:=valN (z0d T 3 5)
def hCnt (T:List UInt8):Nat:=valN (z0d T 5 6)
def hMode (T:List UInt8):Nat:=valN (z0d T 6 7)
theorem y3J:(prog.info? 203).map (·.size)=some 4:=by kernel_rfl
theorem Bx.set4 {u:World} {g:Nat} {t:TypeId} {o0 o1 o2 o3:Value} (h:Bx u g t #[o0,o1,o2,o3]) (s0 s1 s2 s3:Value):Bx ((((u.drew.setCell ⟨g,0,none⟩ s0).setCell ⟨g,1,none⟩ s1).setCell ⟨g,2,none⟩ s2).setCell ⟨g,3,none⟩ s3) g t #[s0,s1,s2,s3]:=by
 have h':u.drew.heap[g]?=some (.cells #[o0,o1,o2,o3] t (0,0)):=h;simp [Bx,World.setCell,Array.getElem?_modify,h']
theorem y1t (tmps:Array Value) (R:Nat) (b:Bool) (cs:Array Value) (W:World) (h:Bx W R 203 cs) (hs:cs.size=4) (h2:tmps.getD 2 undef=.pointer (some ⟨R,0,none⟩)) (h3:tmps.getD 3 undef=.bool b) :
 (results Tryz.f204 tmps).run prog W=.ok (.tuple #[.agg cs,.bool b]) W:=by
 have hl:=run_loadVar_row (P:=prog) W R 203 203 cs (0,0) _ h Tryz.underlying203 rfl (by rw [hs];exact y3J);rw [Array.getD_eq_getD_getElem?] at h2 h3;simp [results,Tryz.results204,asAddr,h2,h3,hl]
set_option maxHeartbeats 400000 in
theorem z1K (T:List UInt8) (w:World) (hs:T.length<=1048576) (h:HeadP T) :
 Calls prog 204 #[.string (bs T)] w fun e w'=>e=.returned (.tuple #[.agg #[O I (hNum T),O I (hLen T),O I ((hCnt T:Int)+1),O I (hMode T)],.bool true])/\Below w.heap.size w w':=by
 have hz:(bs T).size=T.length:=z0e T;have h8:=h.1;have HSE:=zZ (fun u=>z2z (T.take 8) u (by rw [List.length_take];omega));have HP:Hid (1<=(T.take 8).length/\seal8 ((T.take 8).take ((T.take 8).length - 1))=T.take 8):=by
  have e:(T.take 8).length=8:=by rw [List.length_take];omega
  refine ⟨by omega,?_⟩;rw [e,List.take_take];exact h.2.2
 rw [← z1q] at HSE;have HV1:=zZ (fun u=>z2p (z0d T 1 3) u (by rw [z0l _ _ _ (by omega) (by omega)];omega));have HV2:=zZ (fun u=>z2p (z0d T 3 5) u (by rw [z0l _ _ _ (by omega) (by omega)];omega));have HV3:=zZ (fun u=>z2p (z0d T 5 6) u (by rw [z0l _ _ _ (by omega) (by omega)];omega));have HV4:=zZ (fun u=>z2p (z0d T 6 7) u (by rw [z0l _ _ _ (by omega) (by omega)];omega));rw [← z2e] at HV1 HV2 HV3 HV4;have hb0:∀ h0:0 < (bs T).size,((bs T)[0]'h0).toNat=165:=fun h0=>by
  have h2:=h.2.1;rw [List.getD_eq_getElem?_getD,List.getElem?_eq_getElem (by omega),Option.getD_some] at h2;rw [z2J T 0 h0,h2];rfl
 have hcb:hCnt T < 256:=by
  have h1:=z5K (z0d T 5 6) 1 (by rw [z0l _ _ _ (by omega) (by omega)];omega);have e:(z0d T 5 6).take 1=z0d T 5 6:=List.take_of_length_le (by rw [z0l _ _ _ (by omega) (by omega)];omega);rw [e] at h1;exact h1
 have wc:IntKind.i64.wrap ((hCnt T:Int)+1)=(hCnt T:Int)+1:=by rw [IntKind.wrap_i64];omega
 have HN1:Hid (valN (z0d T 1 3)=hNum T/\valN (z0d T 3 5)=hLen T/\valN (z0d T 5 6)=hCnt T/\valN (z0d T 6 7)=hMode T):=⟨rfl,rfl,rfl,rfl⟩;rw [HN1.out.1] at HV1;rw [HN1.out.2.1] at HV2;rw [HN1.out.2.2.1] at HV3;rw [HN1.out.2.2.2] at HV4;clear h;generalize bs T=S at *;generalize T.length=n at *;have hb1:=hb0 (by omega);clear hb0;have HB0:Hid (Below w.heap.size w (w.alloc (.cells #[O I 0,O I 0,O I 0,O I 0] 203))):=zX.alloc zY _;have HK0:Hid (w.heap.size < (w.alloc (.cells #[O I 0,O I 0,O I 0,O I 0] 203)).heap.size/\(w.alloc (.cells #[O I 0,O I 0,O I 0,O I 0] 203)).heap[w.heap.size]?=some (.cells #[O I 0,O I 0,O I 0,O I 0] 203 (0,0))):=⟨by simp,blk_alloc_new w _⟩;have b3:(3:Int)<=(n:Int):=by omega
 have b5:(5:Int)<=(n:Int):=by omega
 have b6:(6:Int)<=(n:Int):=by omega
 have b7:(7:Int)<=(n:Int):=by omega
 have n3:3<=n:=by omega
 have n5:5<=n:=by omega
 have n6:6<=n:=by omega
 have n7:7<=n:=by omega
 go_enter Tryz.func204,Tryz.ntmps204
 go_wp2_with (go_at_call 132;refine (HSE.out _).mono ?_;rintro e u1 ⟨he,hb⟩;have he:=he.true_of HP.out;subst he;have hk1:=z1R hb HK0.out;obtain ⟨q0,q1,q2,q3,z0,z1,z2,z3⟩:=z3G hk1.2;have HK1:Hid (Bx u1 w.heap.size 203 #[O I 0,O I 0,O I 0,O I 0]):=hk1.2;have HB:=zZ (HB0.out.trans (hb.mono HB0.out.size)).drew;clear hb HSE hk1)
 go_region_held3 (fun w'=>True)
  (trivial)
  (first
  | (go_at_call 203;refine (HV1.out _).mono ?_;rintro e u2 ⟨rfl,hw⟩;subst u2;clear HV1)
  | (go_at_call 203;refine (HV2.out _).mono ?_;rintro e u2 ⟨rfl,hw⟩;subst u2;clear HV2)
  | (go_at_call 203;refine (HV3.out _).mono ?_;rintro e u2 ⟨rfl,hw⟩;subst u2;clear HV3)
  | (go_at_call 203;refine (HV4.out _).mono ?_;rintro e u2 ⟨rfl,hw⟩;subst u2;clear HV4))
 go_wp2;exact bodyPost_ret (y1t _ w.heap.size true _ _ (HK1.out.set4 _ _ _ _) rfl rfl rfl) rfl ⟨rfl,(((HB.out.setCell (p:=⟨w.heap.size,0,none⟩) zY _).setCell (p:=⟨w.heap.size,1,none⟩) zY _).setCell (p:=⟨w.heap.size,2,none⟩) zY _).setCell (p:=⟨w.heap.size,3,none⟩) zY _⟩
theorem Bx.set4b {u:World} {g:Nat} {t:TypeId} {o0 o1 o2 o3:Value} (h:Bx u g t #[o0,o1,o2,o3]) (s0 s1 s2 s3:Value):Bx ((((u.setCell ⟨g,0,none⟩ s0).setCell ⟨g,1,none⟩ s1).setCell ⟨g,2,none⟩ s2).setCell ⟨g,3,none⟩ s3) g t #[s0,s1,s2,s3]:=by
 simp [Bx,World.setCell,Array.getElem?_modify,show u.heap[g]?=_ from h]
def y7d:Value:=.agg #[O I 0,O I 0,O I 0,O I 0]
set_option maxHeartbeats 400000 in
theorem y0n (T:List UInt8) (w:World) (hs:T.length<=1048576) (h:¬ HeadP T) :
 Calls prog 204 #[.string (bs T)] w fun e w'=>e=.returned (.tuple #[y7d,.bool false])/\Below w.heap.size w w':=by
 have hz:(bs T).size=T.length:=z0e T;have HB0:Hid (Below w.heap.size w (w.alloc (.cells #[O I 0,O I 0,O I 0,O I 0] 203))):=zX.alloc zY _;have HK0:Hid (w.heap.size < (w.alloc (.cells #[O I 0,O I 0,O I 0,O I 0] 203)).heap.size/\(w.alloc (.cells #[O I 0,O I 0,O I 0,O I 0] 203)).heap[w.heap.size]?=some (.cells #[O I 0,O I 0,O I 0,O I 0] 203 (0,0))):=⟨by simp,blk_alloc_new w _⟩;have HX0:Hid (Bx (w.alloc (.cells #[O I 0,O I 0,O I 0,O I 0] 203)) w.heap.size 203 #[O I 0,O I 0,O I 0,O I 0]):=Bx.new _ _ _
 by_cases h8:8<=T.length
 . have hget:∀ h0:0 < (bs T).size,(bs T)[0]'h0=T.getD 0 0:=fun h0=>by
     rw [z2J T 0 h0,List.getD_eq_getElem?_getD,List.getElem?_eq_getElem (by omega)];rfl
   by_cases h1:T.getD 0 0=165
   . have h2:¬ seal8 (T.take 7)=T.take 8:=fun e=>h ⟨h8,h1,e⟩
     have HSE:=zZ (fun u=>z2z (T.take 8) u (by rw [List.length_take];omega));have HP:Hid (¬ (1<=(T.take 8).length/\seal8 ((T.take 8).take ((T.take 8).length - 1))=T.take 8)):=by
      have e:(T.take 8).length=8:=by rw [List.length_take];omega
      intro hh;have:=hh.2;rw [e,List.take_take] at this;exact h2 this
     rw [← z1q] at HSE;have hb2:∀ h0:0 < (bs T).size,((bs T)[0]'h0).toNat=165:=fun h0=>by rw [hget h0,h1];rfl
     clear h h1 h2 hget;generalize bs T=S at *;generalize T.length=n at *;have hb3:=hb2 (by omega);clear hb2
     go_enter Tryz.func204,Tryz.ntmps204
     go_wp2_with (go_at_call 132;refine (HSE.out _).mono ?_;rintro e u1 ⟨he,hb⟩;have he:=he.false_of HP.out;subst he;have hk1:=z1R hb HK0.out;obtain ⟨q0,q1,q2,q3,z0,z1,z2,z3⟩:=z3G hk1.2;have HK1:Hid (Bx u1 w.heap.size 203 #[O I 0,O I 0,O I 0,O I 0]):=hk1.2;have HB:=zZ (HB0.out.trans (hb.mono HB0.out.size));clear hb HSE hk1)
     exact bodyPost_ret (y1t _ w.heap.size false _ _ (HK1.out.set4b _ _ _ _) rfl rfl rfl) rfl ⟨rfl,(((HB.out.setCell (p:=⟨w.heap.size,0,none⟩) zY _).setCell (p:=⟨w.heap.size,1,none⟩) zY _).setCell (p:=⟨w.heap.size,2,none⟩) zY _).setCell (p:=⟨w.heap.size,3,none⟩) zY _⟩
   . have hb2:∀ h0:0 < (bs T).size,¬ ((bs T)[0]'h0).toNat=165:=fun h0 e=>h1 (by rw [← hget h0];exact UInt8.toNat_inj.1 e)
     clear h h1 hget;generalize bs T=S at *;generalize T.length=n at *;have hb3:=hb2 (by omega);have hb4:(((S[0]'(by omega)).toNat:Int) != 165)=true:=by simp;omega
     have hb5:¬ ((S[0]'(by omega)).toNat:Int)=165:=by omega
     clear hb2
     go_enter Tryz.func204,Tryz.ntmps204
     go_wp2;exact bodyPost_ret (y1t _ w.heap.size false _ _ HX0.out rfl rfl rfl) rfl ⟨rfl,HB0.out⟩
 . clear h
   generalize bs T=S at *;generalize T.length=n at *;have t1:decide ((n:Int) < 8)=true:=decide_eq_true (by omega);have hn:(n:Int) < 8:=by omega
   go_enter Tryz.func204,Tryz.ntmps204
   go_wp2;exact bodyPost_ret (y1t _ w.heap.size false _ _ HX0.out rfl rfl rfl) rfl ⟨rfl,HB0.out⟩
end Go.Proofs.YtlncjgnomhpjnabGreatDoor
