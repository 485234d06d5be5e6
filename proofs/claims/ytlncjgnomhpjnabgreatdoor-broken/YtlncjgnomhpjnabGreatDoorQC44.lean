import Derived.Test.YtlncjgnomhpjnabGreatDoorQC43
import Derived.Test.YtlncjgnomhpjnabGreatDoorQC34
import Derived.Test.YtlncjgnomhpjnabGreatDoorQC24
import Derived.Test.YtlncjgnomhpjnabGreatDoorQC28
import Derived.Test.YtlncjgnomhpjnabGreatDoorQC0
namespace Go.Proofs.YtlncjgnomhpjnabGreatDoor
open Go.Value renaming int → O
open Go.IntKind renaming i64 → I
open Go.Proofs.Tryz (prog)
open Go.RowKit Go.Deep
set_option linter.unusedVariables false
structure RLine (p:Lpar) (a:Lad) (x:Lsn) (F:Nat->Prop) (l:Nat) (s:Lst) (w:World):Prop where
 line:LineIs p a x F s w
 inv:LInv p s
 ptr:Bx w l 94 #[ptrV a.lb]
 far:¬ F l
theorem RLine.keep {p:Lpar} {a:Lad} {x:Lsn} {F:Nat->Prop} {l:Nat} {s:Lst} {w u:World} (h:RLine p a x F l s w) (hu:Below w.heap.size w u):RLine p a x F l s u :=
 ⟨h.line.keep (fun k hk=>hu.block k (h.line.lt k hk)) hu.size,h.inv,h.ptr.below hu,h.far⟩
section
variable {p:Lpar} {a:Lad} {x:Lsn} {F:Nat->Prop} {l:Nat} {s:Lst} {w:World}
theorem RLine.able_ne (h:RLine p a x F l s w) (h2:s.e2=false):s.able p ≠ []:=by
 obtain ⟨t,c,ht,hc⟩:=h.inv.alive h2;intro e;have:t ∈ s.able p:=by
  unfold Lst.able;rw [List.mem_filter];exact ⟨List.mem_range.2 ht,by rw [hc];rfl⟩
 rw [e] at this;cases this
theorem y4S {p:Lpar} {s:Lst} (h:LInv p s) (h2:s.e2=true):s.able p=[]:=by
 obtain ⟨a1,a2,a3,a4,a5⟩:=h.e2 h2;obtain ⟨b1,b2⟩:=h.e1 a3;unfold Lst.able;rw [List.filter_eq_nil_iff];intro t ht
 match t,ht with
 | 0,_=>simp [Lst.next,b1]
 | 1,_=>simp [Lst.next,a3]
 | 2,_=>simp [Lst.next,h2]
 | j+3,ht=>simp [Lst.next,z4j a1 j (by have:=List.mem_range.1 ht;omega)]
theorem y4T (h:RLine p a x F l s w) :
 Calls prog 42 #[ptrV l] w fun e w'=>∃ v,e=.returned v/\w'.ownsRow w.heap.size 3 1 v (s.able p).length ((s.able p).map fun (k:Nat)=>O I (k:Int))/\Below w.heap.size w w':=by
 have HA:=zZ (y1S h.line h.inv);have y0:=h.ptr.cell 0;simp [ptrV] at y0;clear h;unfold ptrV at *
 go_enter Tryz.func42,Tryz.ntmps42
 go_wp2_with (go_at_call 78;refine HA.out.mono ?_;rintro e u ⟨v,rfl,hv⟩;have HV:=zZ hv;clear hv HA)
 go_ret;exact ⟨v,rfl,HV.out⟩
theorem z4M (h:RLine p a x F l s w) :
 Calls prog 25 #[ptrV l] w fun e w'=>e=.returned (.string (bs (hdT x s.hd ++ frsT x.d x.ch x.G x.S x.B s.wrote)))/\Below w.heap.size w w':=by
 have h1:=h.inv.wrote;have h2:=h.inv.given;have h3:=h.line.NB;have HA:=zZ (y2M h.line (by omega));have y0:=h.ptr.cell 0;simp [ptrV] at y0;clear h;generalize bs (hdT x s.hd ++ frsT x.d x.ch x.G x.S x.B s.wrote)=tx at *;unfold ptrV at *
 go_enter Tryz.func25,Tryz.ntmps25
 go_wp2_with (go_at_call 53;refine HA.out.mono ?_;rintro e u ⟨rfl,m,rfl⟩;clear HA)
 go_ret;exact ⟨rfl,z0t zX m⟩
theorem y4U (tmps:Array Value) (R:Nat) (cs:Array Value) (W:World) (h:Bx W R 64 cs) (hs:cs.size=11) (h2:tmps.getD 2 undef=.pointer (some ⟨R,0,none⟩)) :
 (results Tryz.f24 tmps).run prog W=.ok (.agg cs) W:=by
 have hl:=run_loadVar_row (P:=prog) W R 64 64 cs (0,0) _ h Tryz.underlying64 rfl (by rw [hs];exact z0D);rw [Array.getD_eq_getD_getElem?] at h2;simp [results,Tryz.results24,asAddr,h2,hl]
theorem Seen.mono {p:Lpar} {s:Lst} {base base':Nat} {v1 v2 v3:Value} {w:World} (h:Seen p s base v1 v2 v3 w) (hb:base'<=base):Seen p s base' v1 v2 v3 w:=⟨z1G h.held hb,z1G h.shelf hb,z1G h.ended hb⟩
theorem Seen.keep {p:Lpar} {s:Lst} {base:Nat} {v1 v2 v3:Value} {w u:World} {S:Nat->Prop} (h:Seen p s base v1 v2 v3 w) (he:Edit S w u) (hS:∀ k,S k->k < base):Seen p s base v1 v2 v3 u :=
 ⟨shOwn h.held he fun g hg hs=>absurd (z0S h.held g hg) (by have:=hS g hs;omega),shOwn h.shelf he fun g hg hs=>absurd (z0S h.shelf g hg) (by have:=hS g hs;omega),shOwn h.ended he fun g hg hs=>absurd (z0S h.ended g hg) (by have:=hS g hs;omega)⟩
set_option maxRecDepth 100000 in
theorem z9I (h:RLine p a x F l s w) :
 Calls prog 24 #[ptrV l] w fun e w'=>∃ v1 v2 v3,e=.returned (.agg (viewC s v1 v2 v3))/\Seen p s w.heap.size v1 v2 v3 w'/\Below w.heap.size w w':=by
 have hb0:Below w.heap.size w (w.alloc (.cells #[O I 0,O I 0,O I 0,O I 0,O I 0,O I 0,O I 0,O I 0,.slice none 0 0,.slice none 0 0,.slice none 0 0] 64)):=zX.alloc zY _;have HA:=zZ (y6z (h.keep hb0).line h.inv);have y0:=(h.keep hb0).ptr.cell 0;simp [ptrV] at y0;have HX:=zZ (Bx.new w #[O I 0,O I 0,O I 0,O I 0,O I 0,O I 0,O I 0,O I 0,.slice none 0 0,.slice none 0 0,.slice none 0 0] 64);have HF:Hid (∀ u v1 v2 v3,Seen p s (w.alloc (.cells #[O I 0,O I 0,O I 0,O I 0,O I 0,O I 0,O I 0,O I 0,.slice none 0 0,.slice none 0 0,.slice none 0 0] 64)).heap.size v1 v2 v3 u->Below (w.alloc (.cells #[O I 0,O I 0,O I 0,O I 0,O I 0,O I 0,O I 0,O I 0,.slice none 0 0,.slice none 0 0,.slice none 0 0] 64)).heap.size (w.alloc (.cells #[O I 0,O I 0,O I 0,O I 0,O I 0,O I 0,O I 0,O I 0,.slice none 0 0,.slice none 0 0,.slice none 0 0] 64)) u->Bx u w.heap.size 64 #[O I 0,O I 0,O I 0,O I 0,O I 0,O I 0,O I 0,O I 0,.slice none 0 0,.slice none 0 0,.slice none 0 0]/\Seen p s w.heap.size v1 v2 v3 (u.setRow w.heap.size (viewC s v1 v2 v3))/\Below w.heap.size w (u.setRow w.heap.size (viewC s v1 v2 v3))):=fun u v1 v2 v3 hs hb=>by
  have er:Edit (·=w.heap.size) u (u.setRow w.heap.size (viewC s v1 v2 v3)):=⟨rfl,rfl,rfl,by simp,fun k hk hS=>setRow_other _ _ _ _ hS⟩;have h5:=hb0.trans (hb.mono (by simp));exact ⟨HX.out.below hb,(hs.keep er fun k hk=>by rw [hk];simp).mono (by simp),((Edit.of (S:=fun _=>False) h5).row (g:=w.heap.size) zY (viewC s v1 v2 v3)).below zY (fun k hk=>hk.elim)⟩
 clear h hb0;unfold ptrV at *
 go_enter Tryz.func24,Tryz.ntmps24
 go_wp2_with (first
  | (go_at_call 52;refine HA.out.mono ?_;rintro e u ⟨v1,v2,v3,rfl,hs,hb⟩;have HZ:=zZ (HF.out u v1 v2 v3 hs hb);obtain ⟨A1,k1,rfl,-⟩:=z0n hs.held;obtain ⟨A2,k2,rfl,-⟩:=z0n hs.shelf;obtain ⟨A3,k3,rfl,-⟩:=z0n hs.ended;clear hs hb HA HF)
  | (refine z0b rfl _ _ 64 rfl w.heap.size 64 _ _ rfl rfl HZ.out.1 z0D rfl rfl ?_))
 exact bodyPost_ret (y4U _ w.heap.size _ _ (HZ.out.1.row _) rfl rfl) rfl ⟨_,_,_,rfl,HZ.out.2⟩
set_option maxRecDepth 100000 in
theorem z9J (h:RLine p a x F l s w) (hT:TabsF w) (k:Nat) (hk:(k:Int)<=9223372036854775807) (h2:s.e2=false) :
 Calls prog 51 #[ptrV l,O I k] w fun e w'=>e=.returned (.tuple #[O I (pickT p s k:Nat),O I 0])/\∃ c a' F',s.next p (pickT p s k)=some c/\a'.b1=a.b1/\Own F F' w/\RLine p a' x F' l (s.act p c) w'/\Edit F w w':=by
 have HO:=zZ (z3t h.line h.inv);rw [h2] at HO;have hne:=h.able_ne h2;obtain ⟨-,-,ht,-⟩:=z5l (k:=k) hne;have HS:Hid (∀ u,Below w.heap.size w u->u.cell? ⟨l,0,none⟩=some (.pointer (some ⟨a.lb,0,none⟩))/\Calls prog 105 #[ptrV a.lb,O I k] u fun e w'=>e=.returned (O I (pickT p s k:Nat))/\∃ c a' F',s.next p (pickT p s k)=some c/\a'.b1=a.b1/\Own F F' w/\RLine p a' x F' l (s.act p c) w'/\Edit F w w'):=fun u hu=>by
  refine ⟨(h.keep hu).ptr.cell 0,(y6v (h.keep hu).line h.inv (hT.below hu) k hk hne).mono ?_⟩;rintro e w' ⟨rfl,c,hc,a',F',e1,e2,hO,hL,hE⟩;have hlu:l < u.heap.size:=(h.keep hu).ptr.lt;refine ⟨rfl,c,a',F',hc,e2,⟨hO.1,fun q hq=>(hO.2 q hq).imp id fun hq=>Nat.le_trans hu.size hq⟩,⟨hL,h.inv.step ht hc,?_,fun hf=>?_⟩,(Edit.of hu).trans hE⟩
  . have:=(h.keep hu).ptr.edit hE h.far
    rw [← e1] at this;exact this
  . rcases hO.2 l hf with h5 | h5
    . exact h.far h5
    . omega
 have y0:=h.ptr.cell 0;simp [ptrV] at y0;clear h hT;generalize pickT p s k=t at *;unfold ptrV at *
 go_enter Tryz.func51,Tryz.ntmps51
 go_wp2_with (first
  | (go_at_call 104;refine HO.out.mono ?_;rintro e u ⟨rfl,hb⟩;have z0:=(HS.out u hb).1;have HS1:=zZ (HS.out u hb).2;clear hb HO)
  | (go_at_call 105;refine HS1.out.mono ?_;rintro e u2 ⟨rfl,hz⟩;have HZ:=zZ hz;clear hz HS1))
 go_ret2;exact ⟨rfl,HZ.out⟩
set_option maxRecDepth 100000 in
theorem z7m (h:RLine p a x F l s w) (k:Int) (h2:s.e2=true) :
 Calls prog 51 #[ptrV l,O I k] w fun e w'=>e=.returned (.tuple #[O I 0,O I 9])/\Below w.heap.size w w':=by
 have HO:=zZ (z3t h.line h.inv);rw [h2] at HO;have y0:=h.ptr.cell 0;simp [ptrV] at y0;clear h;unfold ptrV at *
 go_enter Tryz.func51,Tryz.ntmps51
 go_wp2_with (go_at_call 104;refine HO.out.mono ?_;rintro e u ⟨rfl,hb⟩;have HB:=zZ hb;clear hb HO)
 go_ret2;exact ⟨rfl,HB.out⟩
set_option maxRecDepth 100000 in
theorem z4T (h:RLine p a x F l s w) (h2:s.e2=true) :
 Calls prog 54 #[ptrV l] w fun e w'=>e=.returned (O I 9)/\Below w.heap.size w w':=by
 have HO:=zZ (z3t h.line h.inv);rw [h2] at HO;have y0:=h.ptr.cell 0;simp [ptrV] at y0;clear h;unfold ptrV at *
 go_enter Tryz.func54,Tryz.ntmps54
 go_wp2_with (go_at_call 104;refine HO.out.mono ?_;rintro e u ⟨rfl,hb⟩;have HB:=zZ hb;clear hb HO)
 go_ret;exact ⟨rfl,HB.out⟩
end
section
variable {p:Lpar} {a:Lad} {x:Lsn} {F:Nat->Prop} {l:Nat} {s:Lst} {w:World}
set_option maxRecDepth 100000 in
theorem y2N (h:RLine p a x F l s w) (h2:s.e2=false) (hs:s.stopped=true) :
 Calls prog 54 #[ptrV l] w fun e w'=>e=.returned (O I 9)/\Below w.heap.size w w':=by
 have HO:=zZ (z3t h.line h.inv);rw [h2] at HO;have HS:Hid (∀ u,Below w.heap.size w u->u.cell? ⟨l,0,none⟩=some (.pointer (some ⟨a.lb,0,none⟩))/\Calls prog 114 #[ptrV a.lb] u fun e w'=>e=.returned (.bool true)/\w'=u):=fun u hu=>by
  have:=z6q (h.keep hu).line;rw [hs] at this;exact ⟨(h.keep hu).ptr.cell 0,this⟩
 have y0:=h.ptr.cell 0;simp [ptrV] at y0;clear h;unfold ptrV at *
 go_enter Tryz.func54,Tryz.ntmps54
 go_wp2_with (first
  | (go_at_call 104;refine HO.out.mono ?_;rintro e u ⟨rfl,hb⟩;have HB:=zZ hb;have z0:=(HS.out u hb).1;have HS1:=zZ (HS.out u hb).2;clear hb HO HS)
  | (go_at_call 114;refine HS1.out.mono ?_;rintro e u2 ⟨rfl,hu⟩;subst u2;clear HS1))
 go_ret;exact ⟨rfl,HB.out⟩
set_option maxRecDepth 100000 in
theorem y0Q (h:RLine p a x F l s w) (h2:s.e2=false) (hs:s.stopped=false) :
 Calls prog 54 #[ptrV l] w fun e w'=>e=.returned (O I 0)/\RLine p a x F l s.halt w'/\Edit F w w':=by
 have HO:=zZ (z3t h.line h.inv);rw [h2] at HO;have HS:Hid (∀ u,Below w.heap.size w u->u.cell? ⟨l,0,none⟩=some (.pointer (some ⟨a.lb,0,none⟩))/\(Calls prog 114 #[ptrV a.lb] u fun e w'=>e=.returned (.bool false)/\w'=u)/\Calls prog 115 #[ptrV a.lb] u fun e w'=>e=.returned (.tuple #[])/\RLine p a x F l s.halt w'/\Edit F w w'):=fun u hu=>by
  have:=z6q (h.keep hu).line;rw [hs] at this;refine ⟨(h.keep hu).ptr.cell 0,this,(z8h (h.keep hu).line).mono ?_⟩;rintro e w' ⟨rfl,hL,hE⟩;exact ⟨rfl,⟨hL,h.inv.halt h2,(h.keep hu).ptr.edit hE h.far,h.far⟩,(Edit.of hu).trans hE⟩
 have y0:=h.ptr.cell 0;simp [ptrV] at y0;clear h;unfold ptrV at *
 go_enter Tryz.func54,Tryz.ntmps54
 go_wp2_with (first
  | (go_at_call 104;refine HO.out.mono ?_;rintro e u ⟨rfl,hb⟩;have z0:=(HS.out u hb).1;have HS1:=zZ (HS.out u hb).2;clear hb HO HS)
  | (go_at_call 114;refine HS1.out.1.mono ?_;rintro e u2 ⟨rfl,hu⟩;subst u2;have HS2:=zZ HS1.out.2;clear HS1)
  | (go_at_call 115;refine HS2.out.mono ?_;rintro e u3 ⟨rfl,hz⟩;have HZ:=zZ hz;clear hz HS2))
 go_ret;exact ⟨rfl,HZ.out⟩
end
theorem z9K (d:Nat) (F:Nat->Nat->Int) (N:Nat) (hN:1<=N):∀ i,(allT d F N i).length<=i * (8+N * d)
 | 0=>by simp [allT]
 | i+1=>by
  have ih:=z9K d F N hN i;have h1:=z7t d (F i) N hN
  show (allT d F N i ++ subT d (F i) N).length<=_
  rw [List.length_append,Nat.add_one_mul];omega
theorem z8j (T:Nat->List UInt8):∀ m j,j < m->(T (bestM T m)).length<=(T j).length
 | 0,j,h=>absurd h (Nat.not_lt_zero j)
 | m+1,j,h=>by
  unfold bestM
  by_cases e:m=0∨(T m).length < (T (bestM T m)).length
  . rw [if_pos e]
    by_cases ej:j=m
    . rw [ej];exact Nat.le_refl _
    . have:=z8j T m j (by omega)
      rcases e with e | e
      . omega
      . omega
  . rw [if_neg e]
    by_cases ej:j=m
    . rw [ej];omega
    . exact z8j T m j (by omega)
theorem y0R (d n:Nat) (F:Nat->Nat->Int) (N:Nat) (hN:1<=N):(z0j d n F N).length<=n * (8+N * d):=by
 unfold z0j
 by_cases h:n=2
 . rw [if_pos h]
   have h1:=z8j (pairT d (F 0) (F 1) N) 4 0 (by omega);have h2:(pairT d (F 0) (F 1) N 0).length<=2 * (8+N * d):=by
    show (subT d (F 0) N ++ subT d (F 1) N).length<=_
    have h3:=z7t d (F 0) N hN;have h4:=z7t d (F 1) N hN;rw [List.length_append];omega
   unfold modeN;rw [if_pos h];rw [h];omega
 . rw [if_neg h]
   exact z9K d F N hN n
theorem y6A {d n B c3 c4 S:Nat} {F:Nat->Nat->Int} (h:KP d n B c3 c4 S F) {k:Nat} (hk:k < nBlk S B):lnF d n F S B k<=14+6 * blkN S B k:=by
 have hb:=z1r h.B1 hk;have h1:=y0R d n (blkF F B k) (blkN S B k) hb.1;unfold lnF frT;rw [z1Q,z1e];generalize (z0j d n (blkF F B k) (blkN S B k)).length=L at *;generalize blkN S B k=N at *;have h2:N * d<=N * 12:=Nat.mul_le_mul_left _ h.d12;have h3:n * (8+N * d)<=4 * (8+N * d):=Nat.mul_le_mul_right _ h.n4;omega
theorem y1T {d n B c3 c4 S:Nat} {F:Nat->Nat->Int} (h:KP d n B c3 c4 S F):∀ k,k<=nBlk S B->atN (lnF d n F S B) k<=14 * k+6 * chN B S 0 k
 | 0,_=>by simp [atN]
 | k+1,hk=>by
  have ih:=y1T h k (by omega);have h1:=y6A h (k:=k) (by omega)
  show atN (lnF d n F S B) k+lnF d n F S B k<=14 * (k+1)+6 * (chN B S 0 k+blkN S B (0+k))
  rw [Nat.zero_add];omega
theorem at_bd {d n B c3 c4 S:Nat} {F:Nat->Nat->Int} (h:KP d n B c3 c4 S F) {k:Nat} (hk:k<=nBlk S B):atN (lnF d n F S B) k<=6000:=by
 have h1:=y1T h k hk;have h2:=y7j (B:=B) (S:=S) (k0:=0) (m:=k) h.B1 (by omega);have h3:=h.nb;have h4:=h.S3;omega
theorem ln_bd {d n B c3 c4 S:Nat} {F:Nat->Nat->Int} (h:KP d n B c3 c4 S F) {k:Nat} (hk:k < nBlk S B):lnF d n F S B k<=222:=(z6T d n F S B k h.d12 h.n1 h.n4 h.B1 h.B32 hk).2
theorem np_bd (S B s:Nat) (hB:1<=B):nPts S B s<=nBlk S B:=by
 unfold nPts
 by_cases h:s=0
 . rw [if_pos h];exact Nat.zero_le _
 . rw [if_neg h];exact z1a (by omega)
structure HdIs (T:List UInt8) (d n B c3 c4 S:Nat) (F:Nat->Nat->Int):Prop where
 wh:dWh T=1
 ch:dCh T=n
 de:dDe T=d
 bl:dBl T=B
 ra:dRa T=c3
 sa:dSa T=S
 se:dSe T=c4
 le:dLe T=z0O (lnF d n F S B) (nBlk S B)
 mo:dMo T=mostN (lnF d n F S B) (nBlk S B)
 su:dSu T=sumN (intT n F (2 * (S * n)))
theorem z6r {d n B c3 c4 S:Nat} {F:Nat->Nat->Int} (h:KP d n B c3 c4 S F):HdIs (z0B d n B c3 c4 F S) d n B c3 c4 S F:=by
 have h1:=h.d12;have h2:=h.n4;have h3:=h.B32;have h4:=h.S3;have hle:=z3b (ln:=lnF d n F S B) (m:=222) (nBlk S B) (fun i hi=>ln_bd h hi);have hmo:=z3Y (ln:=lnF d n F S B) (m:=222) (nBlk S B) (fun i hi=>ln_bd h hi);obtain ⟨a1,a2,a3,a4,a5,a6,a7,a8,a9,a10⟩:=z7e 1 n d B c3 S c4 (z0O (lnF d n F S B) (nBlk S B)) (mostN (lnF d n F S B) (nBlk S B)) (sumN (intT n F (2 * (S * n)))) (pntN (lnF d n F S B) c4 (nBlk S B)) (frsT d n F S B (nBlk S B)) (by omega) (by omega) (by omega) (by omega) h.c3b (by omega) h.c4b (by omega) (by omega) (z7I _);exact ⟨a1,a2,a3,a4,a5,a6,a7,a8,a9,a10⟩
theorem HdIs.np {T:List UInt8} {d n B c3 c4 S:Nat} {F:Nat->Nat->Int} (h:HdIs T d n B c3 c4 S F):dNp T=nPts S B c4:=by
 unfold dNp;rw [h.sa,h.bl,h.se]
theorem HdIs.sz {T:List UInt8} {d n B c3 c4 S:Nat} {F:Nat->Nat->Int} (h:HdIs T d n B c3 c4 S F):dSz T=22+2 * nPts S B c4:=by
 unfold dSz;rw [h.np]
theorem z8k (d n B c3 c4 S:Nat) (F:Nat->Nat->Int):(z0o 1 n d B c3 S c4 (z0O (lnF d n F S B) (nBlk S B)) (mostN (lnF d n F S B) (nBlk S B)) (sumN (intT n F (2 * (S * n)))) (pntN (lnF d n F S B) c4 (nBlk S B))).length=22+2 * nPts S B c4:=by
 rw [z1g,y4B]
theorem y0S {d n B c3 c4 S:Nat} {F:Nat->Nat->Int} (h:KP d n B c3 c4 S F):(z0B d n B c3 c4 F S).drop (dSz (z0B d n B c3 c4 F S))=tlX d n F S B 0:=by
 rw [(z6r h).sz,← z8k d n B c3 c4 S F];exact List.drop_left
theorem z2a {d n B c3 c4 S:Nat} {F:Nat->Nat->Int} (h:KP d n B c3 c4 S F):(z0B d n B c3 c4 F S).length=22+2 * nPts S B c4+(frsT d n F S B (nBlk S B)).length:=by
 unfold z0B;rw [List.length_append,z8k]
theorem z3g {d n B c3 c4 S:Nat} {F:Nat->Nat->Int} (h:KP d n B c3 c4 S F):(z0B d n B c3 c4 F S).length<=9000:=by
 rw [z2a h,← y4C];have h1:=at_bd h (Nat.le_refl (nBlk S B));have h2:=np_bd S B c4 h.B1;have h3:=h.nb;omega
def gX (d n:Nat) (F:Nat->Nat->Int) (S B k j:Nat) (Z:List UInt8):List UInt8:=(frsT d n F S B k).drop (frsT d n F S B j).length ++ Z
theorem g_end (d n:Nat) (F:Nat->Nat->Int) (S B k:Nat) (Z:List UInt8):gX d n F S B k k Z=Z:=by
 unfold gX;rw [List.drop_length,List.nil_append]
theorem y8G (d n:Nat) (F:Nat->Nat->Int) (S B k:Nat) (Z:List UInt8):gX d n F S B k 0 Z=frsT d n F S B k ++ Z:=rfl
theorem y7q {d n:Nat} {F:Nat->Nat->Int} {S B k j:Nat} {Z:List UInt8} (hj:j < k):gX d n F S B k j Z=frT d n F S B j ++ gX d n F S B k (j+1) Z:=by
 obtain ⟨Y,hY⟩:=z4G d n F S B (j+1) (k - (j+1));rw [Nat.add_sub_cancel' hj] at hY;have e:frsT d n F S B (j+1)=frsT d n F S B j ++ frT d n F S B j:=rfl;unfold gX;rw [hY,List.drop_left,e,List.append_assoc,List.drop_left,List.append_assoc]
theorem y0T {d n B c3 c4 S:Nat} {F:Nat->Nat->Int} (h:KP d n B c3 c4 S F) {k j:Nat} {Z:List UInt8} (hk:k<=nBlk S B) (hj:j < k) :
 okF n d B S j (gX d n F S B k j Z)/\hLen (gX d n F S B k j Z)=lnF d n F S B j/\∀ c,c < n->∀ q,q < blkN S B j->smpF n d B j (gX d n F S B k j Z) c q=F c (j * B+q):=by
 have hb:=z1r h.B1 (show j < nBlk S B by omega);have hnb:=h.nb;have h1:=h.d4;have h2:=h.B32;obtain ⟨H,hF,hc,hl,hH⟩:=y2A (B:=B) (number:=j) (gX d n F S B k (j+1) Z) hb.1 hb.2.1 h2 (by omega) h.d12 h.n1 h.n4 (by omega) (h.blk (show j < nBlk S B by omega));rw [y7q hj];refine ⟨⟨⟨H,hF⟩,hc⟩,hl,fun c hc2 q hq=>?_⟩;have e:smpF n d B j (frT d n F S B j ++ gX d n F S B k (j+1) Z)=H:=y4r hF;rw [e,hH c hc2 q hq]
 rfl
theorem g_at {d n B c3 c4 S:Nat} {F:Nat->Nat->Int} (h:KP d n B c3 c4 S F) {k:Nat} {Z:List UInt8} (hk:k<=nBlk S B):∀ j,j<=k->atX (gX d n F S B k 0 Z) j=gX d n F S B k j Z
 | 0,_=>by
  show List.drop 0 _=_
  rw [List.drop_zero]
 | j+1,hj=>by
  have ih:=g_at h hk (Z:=Z) j (by omega);rw [← y1E];unfold lnX;rw [ih,(y0T h (Z:=Z) hk (show j < k by omega)).2.1,y7q (show j < k by omega)]
  show List.drop (frT d n F S B j).length _=_
  rw [List.drop_left]
theorem g_run {d n B c3 c4 S:Nat} {F:Nat->Nat->Int} (h:KP d n B c3 c4 S F) {k:Nat} {Z:List UInt8} (hk:k<=nBlk S B) (hZ:¬ okF n d B S k Z):RunIs n d B S 0 (gX d n F S B k 0 Z) k :=
 ⟨.inl (by omega),fun j hj=>by rw [g_at h hk j (by omega),Nat.zero_add];exact (y0T h hk hj).1,fun _=>by rw [g_at h hk k zY,g_end,Nat.zero_add];exact hZ⟩
theorem g_chL {d n B c3 c4 S:Nat} {F:Nat->Nat->Int} (h:KP d n B c3 c4 S F) {k c:Nat} {Z:List UInt8} (hk:k<=nBlk S B) (hc:c < n):∀ m,m<=k->chL n d B S 0 (gX d n F S B k 0 Z) c m=(List.range (chN B S 0 m)).map fun j=>F c j
 | 0,_=>rfl
 | m+1,hm=>by
  have hlt:m * B < S:=(z1b h.B1).1 (by omega);have e1:=z4f (B:=B) (S:=S) (k0:=0) m (by rw [Nat.zero_add];omega);unfold chL chN;rw [g_chL h hk hc m (by omega),g_at h hk m (by omega),List.range_add,List.map_append,List.map_map]
  congr 1
  refine List.map_congr_left fun i hi=>?_
  rw [List.mem_range,Nat.zero_add] at hi
  show smpF n d B (0+m) (gX d n F S B k m Z) c i=F c (chN B S 0 m+i)
  rw [Nat.zero_add,(y0T h (Z:=Z) hk (show m < k by omega)).2.2 c hc i hi,e1]
theorem g_smp {d n B c3 c4 S:Nat} {F:Nat->Nat->Int} (h:KP d n B c3 c4 S F) {k c j:Nat} {Z:List UInt8} (hk:k<=nBlk S B) (hc:c < n) (hj:j < chN B S 0 k):smpL n d B S 0 (gX d n F S B k 0 Z) k c j=F c j:=by
 unfold smpL;rw [g_chL h hk hc k zY,List.getD_eq_getElem?_getD,List.getElem?_map,List.getElem?_range hj]
 rfl
end Go.Proofs.YtlncjgnomhpjnabGreatDoor
