import Derived.Test.YtlncjgnomhpjnabGreatDoorQC45
import Derived.Test.YtlncjgnomhpjnabGreatDoorQC18
import Derived.Test.YtlncjgnomhpjnabGreatDoorQC33
import Derived.Test.YtlncjgnomhpjnabGreatDoorQC24
import Derived.Test.YtlncjgnomhpjnabGreatDoorQC0
namespace Go.Proofs.YtlncjgnomhpjnabGreatDoor
open Go.Value renaming int → O
open Go.IntKind renaming i64 → I
open Go.Proofs.Tryz (prog)
open Go.RowKit Go.Deep
set_option linter.unusedVariables false
theorem AccI.open {base:Nat} {u:World} {lv:Value} {nn n:Nat} {gs:Nat->Nat} {G:Nat->Nat->Int} (h:AccI base u lv nn n gs G) (hn:1<=n):∃ g c,lv=.slice (some ⟨g,0,none⟩) n c/\base<=g/\g < u.heap.size/\∀ i,i < n->u.cell? ⟨g,i,none⟩=some (.slice (some ⟨gs i,0,none⟩) nn nn):=by
 rcases h.own.2 with ⟨-,h0⟩ | ⟨g,c,cur,rfl,hg,hcur,hcap,-,hcs,htk⟩
 . omega
 . refine ⟨g,c,rfl,hg,(Array.getElem?_eq_some_iff.1 hcur).1,fun i hi=>?_⟩
   have h1:(rowL nn gs n)[i]?=some (.slice (some ⟨gs i,0,none⟩) nn nn):=by unfold rowL;rw [List.getElem?_map,List.getElem?_range hi];rfl
   rw [← htk,List.getElem?_take,if_pos (by omega),Array.getElem?_toList] at h1;simp [World.cell?,hcur,h1]
theorem y0W {u:World} {g nn:Nat} {x:Nat->Int} (h:u.rowIs g 3 nn (cutV nn x)):IntsAt u (some ⟨g,0,none⟩) nn x:=fun i hi=>⟨_,rfl,by
 have:=h.cell hi;rw [Addr.add_lit,Nat.zero_add,this];unfold cutV cutI;rw [if_pos hi]⟩
theorem AccI.lists {base:Nat} {u:World} {g c nn n:Nat} {gs:Nat->Nat} {G:Nat->Nat->Int} (h:AccI base u (.slice (some ⟨g,0,none⟩) n c) nn n gs G) (hc:∀ i,i < n->u.cell? ⟨g,i,none⟩=some (.slice (some ⟨gs i,0,none⟩) nn nn)) (hg:g < u.heap.size) :
 ListsAt u (some ⟨g,0,none⟩) n (fun i=>some ⟨gs i,0,none⟩) (fun _=>nn) (fun _=>nn)/\(∀ i,i < n->IntsAt u (some ⟨gs i,0,none⟩) nn (G i))/\Low u.heap.size (some ⟨g,0,none⟩) n (fun i=>some ⟨gs i,0,none⟩) (fun _=>nn) :=
 ⟨fun i hi=>⟨_,rfl,by rw [Addr.add_lit,Nat.zero_add];exact hc i hi⟩,fun i hi=>y0W (h.rows i hi),fun x hx _=>by cases hx;exact hg,fun i hi x hx _=>by cases hx;exact (h.rows i hi).lt⟩
theorem y4Y (x:Addr) (n c:Nat) (f:Nat->Int) (w0 w:World) (g:Nat) (hI:IntsAt w (some x) n f)
 (hblk:w.heap[g]?=some (.cells (List.replicate n (Value.int .i64 0)).toArray 3 (0,0))) (hb:Below w0.heap.size w0 w) (hg:w0.heap.size<=g) :
 ∃ w2,(∀ ty,(Builtin.copy_ #[30,30] ty #[.slice (some ⟨g,0,none⟩) n n,.slice (some x) n c]).run prog w=.ok (goInt n) w2) /\
  w2.rowIs g 3 n (cutV n f)/\Below w0.heap.size w0 w2/\w.grownBy w2 (some g):=by
 by_cases h0:n=0
 . subst h0
   refine ⟨w,fun ty=>?_,⟨_,hblk,by simp,fun i hi=>absurd hi (Nat.not_lt_zero i)⟩,hb,⟨rfl,rfl,rfl,Nat.le_refl _,fun j hj _=>rfl⟩⟩;exact run_copy_none (P:=prog) w 30 30 ty 3 _ _ _ _ _ _ Tryz.underlying30 y3d (by simp [Nat.min])
 . have hlen:((List.range n).map fun i=>Value.int .i64 (f i)).length=n:=by simp
   refine ⟨w.setRow g ((List.range n).map fun i=>Value.int .i64 (f i)).toArray,fun ty=>?_,⟨_,setRow_heap w g _ _ 3 _ hblk,by simp,fun i hi=>?_⟩,below_setRow hb hg _,z1L _ _ _⟩
   . have h:=run_copy_row (P:=prog) w 30 30 ty 3 g 0 n n x n c _ 3 ((List.range n).map fun i=>O I (f i)) Tryz.underlying30 y3d hblk
       (by rw [hlen];simp [Nat.min])
       (fun j v hj=>by
        have hj2:j < n:=by have:=(List.getElem?_eq_some_iff.1 hj).1;simpa using this
        obtain ⟨y,hy,hc⟩:=hI j hj2;cases hy;rw [hc,← hj];simp [hj2])
       (by rw [hlen];simp) (by intro v hv;obtain ⟨i,_,rfl⟩:=List.mem_map.1 hv;rfl)
     rw [hlen] at h;rw [h];simp
   . unfold cutV cutI
     rw [if_pos hi];simp [hi]
set_option maxRecDepth 4000 in
set_option maxHeartbeats 2000000 in
theorem y1U (base:Nat) (lv:Value) (S n lo hi:Nat) (gs:Nat->Nat) (G:Nat->Nat->Int) (w:World) (hn1:1<=n) (hn4:n<=4) (hS:S<=300) (hlo:lo<=100000) (hhi:hi<=100000) (h:AccI base w lv S n gs G) :
 Calls prog 16 #[lv,O I lo,O I hi] w fun e w'=>∃ lv2 gs2 G2,e=.returned lv2/\AccI w.heap.size w' lv2 (min hi S - min lo (min hi S)) n gs2 G2/\(∀ i,i < n->∀ j,j < min hi S - min lo (min hi S)->G2 i j=G i (min lo (min hi S)+j))/\Below w.heap.size w w':=by
 obtain ⟨g,c,rfl,hg,hgl,hcell⟩:=h.open hn1;have hc0:=hcell 0 (by omega);have HC:=zZ hcell;have HI:=zZ (fun i (hi:i < n)=>y0W (h.rows i hi));have HLT:=zZ (fun i (hi:i < n)=>(h.rows i hi).lt);clear h hcell;obtain ⟨h1,hh1⟩:∃ x,x=min hi S:=⟨_,rfl⟩;obtain ⟨l1,hl1⟩:∃ x,x=min lo h1:=⟨_,rfl⟩;rw [← hh1,← hl1];obtain ⟨nn,hnn⟩:∃ nn,nn=h1 - l1:=⟨_,rfl⟩;rw [← hnn];have HNN:=zZ hnn;have HH:=zZ hh1;have HLL:=zZ hl1;have hhS:h1<=S:=by omega
 have hlh:l1<=h1:=by omega
 have w1:IntKind.i64.wrap ((h1:Int) - (l1:Int))=(nn:Int):=by rw [IntKind.wrap_i64];omega
 have hnb:nn<=300:=by omega
 clear hh1 hl1 hnn
 go_enter Tryz.func16,Tryz.ntmps16
 go_upto_if 15 with fail
 go_cut [2] (fun s wx=>s=O I h1/\wx=w)
 case first =>
  have hs:=HH.out
  by_cases h0:S < hi
  . have e:h1=S:=by omega
    go_wp2_with fail
    go_meet
    case rel=>exact ⟨by rw [e],rfl⟩
  . have e:h1=hi:=by omega
    go_wp2_with fail
    go_meet
    case rel=>exact ⟨by rw [e],rfl⟩
 case rest =>
  obtain ⟨rfl,hwx⟩:=hcut;subst hwx
  go_upto_if 22 with fail
  go_cut [1] (fun s wx=>s=O I l1/\wx=wc)
  case first =>
   have hs:=HLL.out
   by_cases h0:h1 < lo
   . have e:l1=h1:=by omega
     go_wp2_with fail
     go_meet
     case rel=>exact ⟨by rw [e],rfl⟩
   . have e:l1=lo:=by omega
     go_wp2_with fail
     go_meet
     case rel=>exact ⟨by rw [e],rfl⟩
  case rest =>
   obtain ⟨rfl,hwx⟩:=hcut;subst hwx;clear HH HLL;have hmk:=run_make_row' (P:=prog) 30 3 (O I 0) 8 Tryz.underlying30 z1j rfl .i64 .i64 nn (by omega) (by omega);go_wp2_with fail
   go_loopw [7,8,9] (fun ov iv _ wr=>∃ (i:Nat) (lv:Value) (gs2:Nat->Nat) (G2:Nat->Nat->Int),i<=n/\iv=O I i/\ov=lv/\Hid (AccI wc.heap.size wr lv nn i gs2 G2/\(∀ k,k < i->∀ j,j < nn->G2 k j=G k (l1+j))/\Below wc.heap.size wc wr)) (fun _ iv _ _=>n - (intOf iv).toNat)
   case atStart=>exact ⟨0,.slice none 0 0,fun _=>0,fun _ _=>0,Nat.zero_le _,rfl,rfl,AccI.start _ _ _ _ _,fun k hk=>absurd hk (Nat.not_lt_zero k),Below.refl _ _⟩
   case round =>
    obtain ⟨i,lv,gs2,G2,hi,rfl,e,HR⟩:=hrel;subst e;obtain ⟨al,cl,hlv⟩:=z1S HR.out.1.own;subst hlv
    by_cases hlt:i < n
    . have hcl:(wr.alloc (.cells (madeCells #[O I 0] nn) 3)).cell? ⟨g,i,none⟩=some (.slice (some ⟨gs i,0,none⟩) S S):=((HR.out.2.2.alloc HR.out.2.2.size _).cell (p:=⟨g,i,none⟩) hgl).trans (HC.out i hlt)
      have hblk:(wr.alloc (.cells (madeCells #[O I 0] nn) 3)).heap[wr.heap.size]?=some (.cells (List.replicate nn (Value.int .i64 0)).toArray 3 (0,0)):=by
       rw [← toList_madeCells_one];exact blk_alloc_new _ _
      have hI2:∀ o,(o=l1∨nn=0)->IntsAt (wr.alloc (.cells (madeCells #[O I 0] nn) 3)) (some ⟨gs i,o,none⟩) nn (fun j=>G i (l1+j)):=fun o ho j hj=>by
       rcases ho with rfl | ho
       . refine ⟨_,rfl,?_⟩
         obtain ⟨y,hy,hc⟩:=HI.out i hlt (o+j) (by have:=HNN.out;omega);cases hy;rw [Addr.add_lit,Nat.zero_add] at hc;rw [Addr.add_lit];exact ((HR.out.2.2.alloc HR.out.2.2.size _).cell (p:=⟨gs i,o+j,none⟩) (HLT.out i hlt)).trans hc
       . omega
      have hkey:∃ o,(if S=l1 then (some ⟨gs i,0,none⟩:Option Addr) else some ⟨gs i,l1,none⟩)=some ⟨gs i,o,none⟩/\(o=l1∨nn=0):=by
       by_cases e:S=l1
       . exact ⟨0,by rw [if_pos e],.inr (by have:=HNN.out;omega)⟩
       . exact ⟨l1,by rw [if_neg e],.inl rfl⟩
      obtain ⟨o,ho1,ho2⟩:=hkey;obtain ⟨w2,hcp,hrow,hbel,hgr0⟩:=y4Y ⟨gs i,o,none⟩ nn (S - l1) (fun j=>G i (l1+j)) wr _ wr.heap.size (hI2 o ho2) hblk (zX.alloc zY _) zY;have hA2:=HR.out.1.next hbel;obtain ⟨g',c',u3,hr,hO,hgr⟩:=z1A 24 30 (.slice none 0 0) 24 Tryz.underlying24 z1E rfl w2 _ (.slice al i cl) i _ #[.slice (some ⟨wr.heap.size,0,none⟩) nn nn] hA2.own (by simp) (by intro u hu;simp at hu;rw [hu];rfl) (by simp only [maxLen];simp;omega) (by simp;omega) (Nat.le_trans HR.out.2.2.size hbel.size) 24;have HA3:=zZ (hA2.more hrow HR.out.2.2.size (fun k hk e=>by have:=(HR.out.1.rows k hk).lt;omega) hO hgr);have HB3:Hid (Below wc.heap.size wc u3):=(HR.out.2.2.trans (hbel.mono HR.out.2.2.size)).grown hgr (Nat.le_trans HR.out.2.2.size hbel.size) (fun q hq=>(hA2.own.lt q hq).1);have HG3:Hid (∀ k,k < i+1->∀ q,q < nn->upd2 G2 i (fun j=>G i (l1+j)) k q=G k (l1+q)):=fun k hk q hq=>by
       unfold upd2
       by_cases e:k=i
       . rw [if_pos e,e]
       . rw [if_neg e];exact HR.out.2.1 k (by omega) q hq
      have HAP:Hid (_=_):=hr;have hnn2:h1 - l1=nn:=HNN.out.symm;clear hA2 hr hO hgr hrow hbel hgr0 hI2 hblk
      go_wp2_with (first
       | (at_builtin;refine z0k rfl _ _ _ rfl _ _ _ rfl rfl HAP.out ?_;clear HAP))
      go_roundw
      case rel=>exact ⟨i+1,_,updN gs2 i wr.heap.size,upd2 G2 i (fun j=>G i (l1+j)),by omega,by go_num,rfl,HA3.out,HG3.out,HB3.out⟩
      case measure=>simp [intOf];omega
    . have e:i=n:=by omega
      subst e;go_wp2_with fail;go_ret;exact ⟨_,gs2,G2,rfl,HR.out.1,HR.out.2.1,HR.out.2.2⟩
theorem y6B {B:Nat} {a b:World} (h:Below B a b) (n:Nat):Below B a (b.drewN n):=⟨h.os,h.tape,h.output,h.size,h.block⟩
def ViewL (u:World) (v:Value) (n nn:Nat) (H:Nat->Nat->Int):Prop :=
 ∃ (g c:Nat) (A:Nat->Option Addr) (C:Nat->Nat),v=.slice (some ⟨g,0,none⟩) n c/\g < u.heap.size/\(∀ i,i < n->u.cell? ⟨g,i,none⟩=some (.slice (A i) nn (C i)))/\(∀ i,i < n->IntsAt u (A i) nn (H i))/\∀ i,i < n->∀ x,A i=some x->0 < nn->x.block < u.heap.size
theorem ViewL.below {u u':World} {v:Value} {n nn:Nat} {H:Nat->Nat->Int} (h:ViewL u v n nn H) (hb:Below u.heap.size u u'):ViewL u' v n nn H:=by
 obtain ⟨g,c,A,C,h1,h2,h3,h4,h5⟩:=h;exact ⟨g,c,A,C,h1,Nat.lt_of_lt_of_le h2 hb.size,fun i hi=>(hb.cell (p:=⟨g,i,none⟩) h2).trans (h3 i hi),fun i hi=>(h4 i hi).below hb (h5 i hi),fun i hi x hx h0=>Nat.lt_of_lt_of_le (h5 i hi x hx h0) hb.size⟩
theorem ViewL.ext {u:World} {v:Value} {n nn:Nat} {H H':Nat->Nat->Int} (h:ViewL u v n nn H) (he:∀ i,i < n->∀ j,j < nn->H i j=H' i j):ViewL u v n nn H':=by
 obtain ⟨g,c,A,C,h1,h2,h3,h4,h5⟩:=h;refine ⟨g,c,A,C,h1,h2,h3,fun i hi j hj=>?_,h5⟩;obtain ⟨x,hx,hc⟩:=h4 i hi j hj;exact ⟨x,hx,by rw [hc,he i hi j hj]⟩
theorem RowsL.view {base:Nat} {u:World} {v:Value} {n nn:Nat} {H:Nat->Nat->Int} (h:RowsL base u v n nn H):ViewL u v n nn H:=by
 obtain ⟨g,A,C,h1,h2,h3,h4,h5⟩:=h.open;refine ⟨g,n,A,C,h1,h2,fun i hi=>?_,h4,h5.2⟩;obtain ⟨x,hx,hc⟩:=h3 i hi;cases hx;rw [Addr.add_lit,Nat.zero_add] at hc;exact hc
theorem AccI.view {base:Nat} {u:World} {lv:Value} {nn n:Nat} {gs:Nat->Nat} {G:Nat->Nat->Int} (h:AccI base u lv nn n gs G) (hn:1<=n):ViewL u lv n nn G:=by
 obtain ⟨g,c,rfl,h1,h2,h3⟩:=h.open hn;exact ⟨g,c,fun i=>some ⟨gs i,0,none⟩,fun _=>nn,rfl,h2,h3,fun i hi=>y0W (h.rows i hi),fun i hi x hx _=>by cases hx;exact (h.rows i hi).lt⟩
set_option maxHeartbeats 1000000 in
theorem y2P (a a':Option Addr) (n c c':Nat) (x:Nat->Int) (w:World) (hn:n<=1000000) (h1:IntsAt w a n x) (h2:IntsAt w a' n x) :
 Calls prog 38 #[.slice a n c,.slice a' n c'] w fun e w'=>e=.returned (.bool true)/\∃ m,w'=w.drewN m:=by
 have H1:=zZ h1;have H2:=zZ h2;clear h1 h2
 go_enter Tryz.func38,Tryz.ntmps38
 go_wp2
 go_loopw [5] (fun i wr=>∃ k:Nat,k<=n/\i=O I k/\∃ m,wr=w.drewN m) (fun i _=>n - (intOf i).toNat)
 case atStart=>exact ⟨0,Nat.zero_le _,rfl,0,rfl⟩
 case round =>
  obtain ⟨k,hk,rfl,m,rfl⟩:=hrel
  by_cases hkn:k < n
  . obtain ⟨b1,o1,hx1,hc1⟩:=H1.out.open (by omega)
    obtain ⟨b2,o2,hx2,hc2⟩:=H2.out.open (by omega);cases hx1;cases hx2;have hd1:=hc1 k hkn;have hd2:=hc2 k hkn;clear hc1 hc2;go_wp2
    go_region
    all_goals go_wp2
    go_roundw
    case rel=>exact ⟨k+1,by omega,by go_num,_,rfl⟩
    case measure=>simp [intOf];omega
  . have e:k=n:=by omega
    subst e;go_wp2;go_ret;exact ⟨rfl,_,rfl⟩
set_option maxHeartbeats 1000000 in
theorem z9L (v v':Value) (n nn:Nat) (H:Nat->Nat->Int) (w:World) (hn:n<=1000000) (hnn:nn<=1000000) (h:ViewL w v n nn H) (h':ViewL w v' n nn H) :
 Calls prog 15 #[v,v'] w fun e w'=>e=.returned (.bool true)/\Below w.heap.size w w':=by
 obtain ⟨g,c,A,C,rfl,hl,hA,hI,hlow⟩:=h;obtain ⟨g',c',A',C',rfl,hl',hA',hI',hlow'⟩:=h';have HC:=zZ hA;have HC':=zZ hA';have HR:=zZ (And.intro hI hlow);have HR':=zZ (And.intro hI' hlow');clear hA hA' hI hI' hlow hlow'
 go_enter Tryz.func15,Tryz.ntmps15
 go_wp2
 go_loopw [4,5,6] (fun _ iv _ wr=>∃ i:Nat,i<=n/\iv=O I i/\Hid (Below w.heap.size w wr)) (fun _ iv _ _=>n - (intOf iv).toNat)
 case atStart=>exact ⟨0,Nat.zero_le _,rfl,Below.refl _ _⟩
 case round =>
  obtain ⟨i,hi,rfl,HB⟩:=hrel
  by_cases hlt:i < n
  . have k0:wr.cell? ⟨g,i,none⟩=some (.slice (A i) nn (C i)):=(HB.out.cell (p:=⟨g,i,none⟩) hl).trans (HC.out i hlt)
    have k1:wr.cell? ⟨g',i,none⟩=some (.slice (A' i) nn (C' i)):=(HB.out.cell (p:=⟨g',i,none⟩) hl').trans (HC'.out i hlt);have hS0:wr.drew.cell? ⟨g,i,none⟩=some (.slice (A i) nn (C i))/\wr.drew.cell? ⟨g',i,none⟩=some (.slice (A' i) nn (C' i)):=⟨k0,k1⟩;have HSM:=zZ (y2P (A i) (A' i) nn (C i) (C' i) (H i) wr.drew hnn ((HR.out.1 i hlt).below HB.out.drew (HR.out.2 i hlt)) ((HR'.out.1 i hlt).below HB.out.drew (HR'.out.2 i hlt)));go_wp2_with fail
    go_region_held3 (fun w'=>w'.cell? ⟨g,i,none⟩=some (.slice (A i) nn (C i))/\w'.cell? ⟨g',i,none⟩=some (.slice (A' i) nn (C' i)))
     (with_reducible assumption)
     (first
     | (go_at_call 38;refine HSM.out.mono ?_;rintro e u1 ⟨rfl,m,hu⟩;have hS1:u1.cell? ⟨g,i,none⟩=some (.slice (A i) nn (C i))/\u1.cell? ⟨g',i,none⟩=some (.slice (A' i) nn (C' i)):=(by rw [hu];exact ⟨k0,k1⟩);have HB1:Hid (Below w.heap.size w u1):=(by rw [hu];exact y6B HB.out.drew m);clear HSM hu hS0))
    clear hS1;go_wp2
    go_roundw
    case rel=>exact ⟨i+1,by omega,by go_num,HB1.out⟩
    case measure=>simp [intOf];omega
  . have e:i=n:=by omega
    subst e;go_wp2;go_ret;exact ⟨rfl,HB.out⟩
set_option maxRecDepth 4000 in
set_option maxHeartbeats 2000000 in
theorem y4Z (n d B c3 c4 S c5 c6 c7:Int) (lv:Value) (nl nn:Nat) (H:Nat->Nat->Int) (w:World) (hn:1<=nl) (hS:S=nn) (h:ViewL w lv nl nn H) :
 Calls prog 31 #[.agg #[O I n,O I d,O I B,O I c3,O I c4,O I S],.agg #[O I n,O I d,O I B,O I c3,O I c4,O I c5,O I c6,O I c7],lv] w fun e w'=>e=.returned (.bool true)/\Below w.heap.size w w':=by
 subst hS;have hb:Below w.heap.size w ((w.alloc (.cells #[O I n,O I d,O I B,O I c3,O I c4,O I (nn:Int)] 39)).alloc (.cells #[O I n,O I d,O I B,O I c3,O I c4,O I c5,O I c6,O I c7] 23)):=(zX.alloc zY _).alloc (by simp) _;have hv:=h.below (hb.mono zY);obtain ⟨g,c,A,C,rfl,hl,hA,-,-⟩:=hv;have h0:=hA 0 (by omega);have HB:=zZ hb;have hx1:Bx ((w.alloc (.cells #[O I n,O I d,O I B,O I c3,O I c4,O I (nn:Int)] 39)).alloc (.cells #[O I n,O I d,O I B,O I c3,O I c4,O I c5,O I c6,O I c7] 23)) w.heap.size 39 #[O I n,O I d,O I B,O I c3,O I c4,O I (nn:Int)]:=(Bx.new w _ _).alloc _;have hx2:Bx ((w.alloc (.cells #[O I n,O I d,O I B,O I c3,O I c4,O I (nn:Int)] 39)).alloc (.cells #[O I n,O I d,O I B,O I c3,O I c4,O I c5,O I c6,O I c7] 23)) (w.heap.size+1) 23 #[O I n,O I d,O I B,O I c3,O I c4,O I c5,O I c6,O I c7]:=Bx.new2 (by simp) _ _;have hS0:((w.alloc (.cells #[O I n,O I d,O I B,O I c3,O I c4,O I (nn:Int)] 39)).alloc (.cells #[O I n,O I d,O I B,O I c3,O I c4,O I c5,O I c6,O I c7] 23)).drew.cell? ⟨w.heap.size,0,none⟩=some (O I n)/\((w.alloc (.cells #[O I n,O I d,O I B,O I c3,O I c4,O I (nn:Int)] 39)).alloc (.cells #[O I n,O I d,O I B,O I c3,O I c4,O I c5,O I c6,O I c7] 23)).drew.cell? ⟨w.heap.size,1,none⟩=some (O I d)/\((w.alloc (.cells #[O I n,O I d,O I B,O I c3,O I c4,O I (nn:Int)] 39)).alloc (.cells #[O I n,O I d,O I B,O I c3,O I c4,O I c5,O I c6,O I c7] 23)).drew.cell? ⟨w.heap.size,2,none⟩=some (O I B)/\((w.alloc (.cells #[O I n,O I d,O I B,O I c3,O I c4,O I (nn:Int)] 39)).alloc (.cells #[O I n,O I d,O I B,O I c3,O I c4,O I c5,O I c6,O I c7] 23)).drew.cell? ⟨w.heap.size,3,none⟩=some (O I c3)/\((w.alloc (.cells #[O I n,O I d,O I B,O I c3,O I c4,O I (nn:Int)] 39)).alloc (.cells #[O I n,O I d,O I B,O I c3,O I c4,O I c5,O I c6,O I c7] 23)).drew.cell? ⟨w.heap.size,4,none⟩=some (O I c4)/\((w.alloc (.cells #[O I n,O I d,O I B,O I c3,O I c4,O I (nn:Int)] 39)).alloc (.cells #[O I n,O I d,O I B,O I c3,O I c4,O I c5,O I c6,O I c7] 23)).drew.cell? ⟨w.heap.size,5,none⟩=some (O I (nn:Int))/\((w.alloc (.cells #[O I n,O I d,O I B,O I c3,O I c4,O I (nn:Int)] 39)).alloc (.cells #[O I n,O I d,O I B,O I c3,O I c4,O I c5,O I c6,O I c7] 23)).drew.cell? ⟨w.heap.size+1,0,none⟩=some (O I n)/\((w.alloc (.cells #[O I n,O I d,O I B,O I c3,O I c4,O I (nn:Int)] 39)).alloc (.cells #[O I n,O I d,O I B,O I c3,O I c4,O I c5,O I c6,O I c7] 23)).drew.cell? ⟨w.heap.size+1,1,none⟩=some (O I d)/\((w.alloc (.cells #[O I n,O I d,O I B,O I c3,O I c4,O I (nn:Int)] 39)).alloc (.cells #[O I n,O I d,O I B,O I c3,O I c4,O I c5,O I c6,O I c7] 23)).drew.cell? ⟨w.heap.size+1,2,none⟩=some (O I B)/\((w.alloc (.cells #[O I n,O I d,O I B,O I c3,O I c4,O I (nn:Int)] 39)).alloc (.cells #[O I n,O I d,O I B,O I c3,O I c4,O I c5,O I c6,O I c7] 23)).drew.cell? ⟨w.heap.size+1,3,none⟩=some (O I c3)/\((w.alloc (.cells #[O I n,O I d,O I B,O I c3,O I c4,O I (nn:Int)] 39)).alloc (.cells #[O I n,O I d,O I B,O I c3,O I c4,O I c5,O I c6,O I c7] 23)).drew.cell? ⟨w.heap.size+1,4,none⟩=some (O I c4)/\((w.alloc (.cells #[O I n,O I d,O I B,O I c3,O I c4,O I (nn:Int)] 39)).alloc (.cells #[O I n,O I d,O I B,O I c3,O I c4,O I c5,O I c6,O I c7] 23)).drew.cell? ⟨g,0,none⟩=some (.slice (A 0) nn (C 0)):=⟨hx1.cell 0,hx1.cell 1,hx1.cell 2,hx1.cell 3,hx1.cell 4,hx1.cell 5,hx2.cell 0,hx2.cell 1,hx2.cell 2,hx2.cell 3,hx2.cell 4,h0⟩;clear hA hb h hx1 hx2;generalize A 0=A0 at *;generalize C 0=C0 at *;have hn0:0 < nl:=hn;have hn2:(0:Int) < (nl:Int):=by omega
 go_enter Tryz.func31,Tryz.ntmps31
 go_wp2_with fail
 go_region_held3 (fun w'=>w'.cell? ⟨w.heap.size,0,none⟩=some (O I n)/\w'.cell? ⟨w.heap.size,1,none⟩=some (O I d)/\w'.cell? ⟨w.heap.size,2,none⟩=some (O I B)/\w'.cell? ⟨w.heap.size,3,none⟩=some (O I c3)/\w'.cell? ⟨w.heap.size,4,none⟩=some (O I c4)/\w'.cell? ⟨w.heap.size,5,none⟩=some (O I (nn:Int))/\w'.cell? ⟨w.heap.size+1,0,none⟩=some (O I n)/\w'.cell? ⟨w.heap.size+1,1,none⟩=some (O I d)/\w'.cell? ⟨w.heap.size+1,2,none⟩=some (O I B)/\w'.cell? ⟨w.heap.size+1,3,none⟩=some (O I c3)/\w'.cell? ⟨w.heap.size+1,4,none⟩=some (O I c4)/\w'.cell? ⟨g,0,none⟩=some (.slice A0 nn C0)) (with_reducible exact hS0) (fail)
 go_wp2_with fail;go_ret;exact ⟨rfl,HB.out.drew⟩
def encOk (c0 c1 c2 c3 c4 c5 c6 c7:Int) (n:Nat) (L:Nat->Nat) (F:Nat->Nat->Int):Prop :=
 z1I c0 c1 c2 c3 c4 c5 c6 c7=true/\ChanP c0 c1.toNat n 0 300 L F
open Classical in
noncomputable def encE (c0 c1 c2 c3 c4 c5 c6 c7:Int) (n:Nat) (L:Nat->Nat) (F:Nat->Nat->Int):Int :=
 if z1I c0 c1 c2 c3 c4 c5 c6 c7=true then (if ChanP c0 c1.toNat n 0 300 L F then 0 else 2) else 1
open Classical in
noncomputable def encS (c0 c1 c2 c3 c4 c5 c6 c7:Int) (n:Nat) (L:Nat->Nat) (F:Nat->Nat->Int):ByteArray :=
 if encOk c0 c1 c2 c3 c4 c5 c6 c7 n L F then bs (z0B c1.toNat n c2.toNat c3.toNat c4.toNat F (L 0)) else ⟨#[]⟩
theorem y8H {c0 c1 c2 c3 c4 c5 c6 c7:Int} {n:Nat} {L:Nat->Nat} {F:Nat->Nat->Int} (h:¬ encOk c0 c1 c2 c3 c4 c5 c6 c7 n L F):encS c0 c1 c2 c3 c4 c5 c6 c7 n L F=⟨#[]⟩:=by
 unfold encS;rw [if_neg h]
theorem z8l {c0 c1 c2 c3 c4 c5 c6 c7:Int} {n:Nat} {L:Nat->Nat} {F:Nat->Nat->Int} (h:encOk c0 c1 c2 c3 c4 c5 c6 c7 n L F) :
 encS c0 c1 c2 c3 c4 c5 c6 c7 n L F=bs (z0B c1.toNat n c2.toNat c3.toNat c4.toNat F (L 0))/\encE c0 c1 c2 c3 c4 c5 c6 c7 n L F=0:=by
 unfold encS encE;rw [if_pos h,if_pos h.1,if_pos h.2];exact ⟨rfl,rfl⟩
theorem enc_e {c0 c1 c2 c3 c4 c5 c6 c7:Int} {n:Nat} {L:Nat->Nat} {F:Nat->Nat->Int} (h:¬ encOk c0 c1 c2 c3 c4 c5 c6 c7 n L F):encE c0 c1 c2 c3 c4 c5 c6 c7 n L F=1∨encE c0 c1 c2 c3 c4 c5 c6 c7 n L F=2:=by
 unfold encE
 by_cases h1:z1I c0 c1 c2 c3 c4 c5 c6 c7=true
 . rw [if_pos h1,if_neg (fun h2=>h ⟨h1,h2⟩)];exact .inr rfl
 . rw [if_neg h1];exact .inl rfl
set_option maxHeartbeats 1000000 in
theorem z4l (c0 c1 c2 c3 c4 c5 c6 c7:Int) (a:Option Addr) (n cap:Nat) (A:Nat->Option Addr) (L C:Nat->Nat) (F:Nat->Nat->Int) (w:World) (hn:n<=17592186044416) (hL:∀ i,i < n->L i<=17592186044416)
 (hA:ListsAt w a n A L C) (hI:∀ i,i < n->IntsAt w (A i) (L i) (F i)) (hlow:Low w.heap.size a n A L) :
 Calls prog 33 #[.agg #[O I c0,O I c1,O I c2,O I c3,O I c4,O I c5,O I c6,O I c7],.slice a n cap] w fun e w' =>
  e=.returned (O I (encE c0 c1 c2 c3 c4 c5 c6 c7 n L F))/\Below w.heap.size w w':=by
 have hb0:Below w.heap.size w (w.alloc (.cells #[O I c0,O I c1,O I c2,O I c3,O I c4,O I c5,O I c6,O I c7] 23)):=zX.alloc zY _;have HB0:=zZ hb0;have HRC:=zZ (fun u=>z2X c0 c1 c2 c3 c4 c5 c6 c7 u);clear hb0;unfold encE;cases hr:z1I c0 c1 c2 c3 c4 c5 c6 c7 with
 | false =>
  rw [hr] at HRC;rw [if_neg (by simp)];clear hr hA hI hlow hL
  go_enter Tryz.func33,Tryz.ntmps33
  go_wp2_with (go_at_call 59;refine (HRC.out _).mono ?_;rintro e u1 ⟨rfl,hb⟩;have HB1:=zZ (HB0.out.trans (hb.mono (by simp)));clear hb HRC HB0)
  go_ret;exact ⟨rfl,HB1.out⟩
 | true =>
  rw [hr] at HRC;rw [if_pos rfl];obtain ⟨hc0,hc4,hc2,d,rfl,h1,h2⟩:=z7z hr;have lowU:∀ u,Below w.heap.size w u->Low u.heap.size a n A L:=fun u hu=>⟨fun x hx h0=>Nat.lt_of_lt_of_le (hlow.1 x hx h0) hu.size,fun i hi x hx h0=>Nat.lt_of_lt_of_le (hlow.2 i hi x hx h0) hu.size⟩
  have HIB:=zZ (fun (u:World) (hu:Below w.heap.size w u)=>y0k c0 c2 c3 c4 c5 c6 c7 d a n cap A L C F u hc0 (by omega) (by omega) hn hL (hA.below hu hlow.1) (fun i hi=>(hI i hi).below hu (hlow.2 i hi)) (lowU u hu));rw [Int.toNat_natCast];clear hA hI hlow hL lowU hr
  by_cases hs:ChanP c0 d n 0 300 L F
  . rw [if_pos hs]
    have HS:=zZ hs;clear hs
    go_enter Tryz.func33,Tryz.ntmps33
    go_wp2_with (first
     | (go_at_call 59;refine (HRC.out _).mono ?_;rintro e u1 ⟨rfl,hb⟩;obtain ⟨hc1,hf1⟩:=bcell hb;have hs1:w.heap.size < u1.heap.size:=by {have:=hb.size;simp at this;omega};have HB1:=zZ (HB0.out.trans (hb.mono (by simp)));clear hb hf1 HRC HB0)
     | (go_at_call 60;refine (HIB.out _ ?_).mono ?_;exact HB1.out;rintro e u2 ⟨he,hb⟩;have he:=he.true_of HS.out;subst he;have HB2:=zZ (HB1.out.trans (hb.mono HB1.out.size));clear hb HIB HB1))
    go_ret;exact ⟨rfl,HB2.out⟩
  . rw [if_neg hs]
    have HS:=zZ hs;clear hs
    go_enter Tryz.func33,Tryz.ntmps33
    go_wp2_with (first
     | (go_at_call 59;refine (HRC.out _).mono ?_;rintro e u1 ⟨rfl,hb⟩;obtain ⟨hc1,hf1⟩:=bcell hb;have hs1:w.heap.size < u1.heap.size:=by {have:=hb.size;simp at this;omega};have HB1:=zZ (HB0.out.trans (hb.mono (by simp)));clear hb hf1 HRC HB0)
     | (go_at_call 60;refine (HIB.out _ ?_).mono ?_;exact HB1.out;rintro e u2 ⟨he,hb⟩;have he:=he.false_of HS.out;subst he;have HB2:=zZ (HB1.out.trans (hb.mono HB1.out.size));clear hb HIB HB1))
    go_ret;exact ⟨rfl,HB2.out⟩
set_option maxHeartbeats 2000000 in
theorem z6H (c0 c1 c2 c3 c4 c5 c6 c7:Int) (a:Option Addr) (n cap:Nat) (A:Nat->Option Addr) (L C:Nat->Nat) (F:Nat->Nat->Int) (w:World) (hn:n<=17592186044416) (hL:∀ i,i < n->L i<=17592186044416) (hC:∀ i,i < n->L i<=C i)
 (hA:ListsAt w a n A L C) (hI:∀ i,i < n->IntsAt w (A i) (L i) (F i)) (hlow:Low w.heap.size a n A L) (hT:TabsF w) :
 Calls prog 11 #[.agg #[O I c0,O I c1,O I c2,O I c3,O I c4,O I c5,O I c6,O I c7],.slice a n cap] w fun e w' =>
  e=.returned (.tuple #[.string (encS c0 c1 c2 c3 c4 c5 c6 c7 n L F),O I (encE c0 c1 c2 c3 c4 c5 c6 c7 n L F)])/\Below w.heap.size w w':=by
 have hb0:Below w.heap.size w (w.alloc (.cells #[O I c0,O I c1,O I c2,O I c3,O I c4,O I c5,O I c6,O I c7] 23)):=zX.alloc zY _;have HB0:=zZ hb0;have lowU:∀ u,Below w.heap.size w u->Low u.heap.size a n A L:=fun u hu=>⟨fun x hx h0=>Nat.lt_of_lt_of_le (hlow.1 x hx h0) hu.size,fun i hi x hx h0=>Nat.lt_of_lt_of_le (hlow.2 i hi x hx h0) hu.size⟩
 have HCK:=zZ (fun (u:World) (hu:Below w.heap.size w u)=>z4l c0 c1 c2 c3 c4 c5 c6 c7 a n cap A L C F u hn hL (hA.below hu hlow.1) (fun i hi=>(hI i hi).below hu (hlow.2 i hi)) (lowU u hu))
 by_cases hok:encOk c0 c1 c2 c3 c4 c5 c6 c7 n L F
 . obtain ⟨eS,eE⟩:=z8l hok
   rw [eE] at HCK;rw [eS,eE];obtain ⟨hr,hs⟩:=hok;obtain ⟨hc0,hc4,hc2,d,rfl,h1,h2⟩:=z7z hr;have hri:0<=c3/\c3<=65535/\0<=c4/\c4<=255:=by
    rw [z5I] at hr;simp [infoB,z0h] at hr;omega
   obtain ⟨hnc,hL0,hall⟩:=hs;subst hnc;rw [z0h] at hL0;obtain ⟨B,rfl⟩:∃ B:Nat,c2=(B:Int):=⟨c2.toNat,by omega⟩;obtain ⟨r,rfl⟩:∃ r:Nat,c3=(r:Int):=⟨c3.toNat,by omega⟩;obtain ⟨k,rfl⟩:∃ k:Nat,c4=(k:Int):=⟨c4.toNat,by omega⟩;simp only [Int.toNat_natCast] at *;have hA2:ListsAt w a n A (fun _=>L 0) C:=fun i hi=>by
    obtain ⟨x,hx,hc⟩:=hA i hi;rw [(hall i hi).1] at hc;exact ⟨x,hx,hc⟩
   have hI2:∀ i,i < n->IntsAt w (A i) (L 0) (F i):=fun i hi=>by have:=hI i hi;rw [(hall i hi).1] at this;exact this
   have hlow2:Low w.heap.size a n A (fun _=>L 0):=⟨hlow.1,fun i hi x hx h0=>hlow.2 i hi x hx (by rw [(hall i hi).1];exact h0)⟩;have HMK:=zZ (fun (u:World) (hu:Below w.heap.size w u)=>z4Y c5 c6 c7 d B r k a n cap A (L 0) C F u (by omega) h2 (by omega) (by omega) (by omega) (by omega) (by omega) (by omega) (by omega) (fun i hi j hj=>(hall i hi).2 j (by rw [(hall i hi).1];exact hj)) (hA2.below hu hlow2.1) (fun i hi=>by have:=hC i hi;rw [(hall i hi).1] at this;exact this) (fun i hi=>(hI2 i hi).below hu (hlow2.2 i hi))
    ⟨fun x hx h0=>Nat.lt_of_lt_of_le (hlow2.1 x hx h0) hu.size,fun i hi x hx h0=>Nat.lt_of_lt_of_le (hlow2.2 i hi x hx h0) hu.size⟩ (hT.below hu))
   clear hA hI hlow hT lowU hall hA2 hI2 hlow2 hr hb0 hL hC eS eE;generalize bs (z0B d n B r k F (L 0))=R at *
   go_enter Tryz.func11,Tryz.ntmps11
   go_wp2_with (first
    | (go_at_call 33;refine (HCK.out _ ?_).mono ?_;exact HB0.out;rintro e u1 ⟨rfl,hb⟩;obtain ⟨hc1,hf1⟩:=bcell hb;have hs1:w.heap.size < u1.heap.size:=by {have:=hb.size;simp at this;omega};have HB1:=zZ (HB0.out.trans (hb.mono (by simp)));clear hb hf1 HCK HB0)
    | (go_at_call 34;refine (HMK.out _ ?_).mono ?_;exact HB1.out;rintro e u3 ⟨rfl,hb⟩;have HB3:=zZ (HB1.out.trans (hb.mono (Nat.le_of_lt hs1)));clear hb HMK HB1))
   go_ret2;exact ⟨rfl,HB3.out⟩
 . have hS:=y8H hok
   rw [hS];have hE:=enc_e hok;clear hA hI hlow hT lowU hb0 hL hC hS hok;generalize encE c0 c1 c2 c3 c4 c5 c6 c7 n L F=E at *;have tE:(E != 0)=true:=by rcases hE with h | h <;> rw [h] <;> rfl
   have tE2:¬ E=0:=by omega
   clear hE
   go_enter Tryz.func11,Tryz.ntmps11
   go_wp2_with (go_at_call 33;refine (HCK.out _ ?_).mono ?_;exact HB0.out;rintro e u1 ⟨rfl,hb⟩;have HB1:=zZ (HB0.out.trans (hb.mono (by simp)));clear hb HCK HB0)
   go_ret2;exact ⟨rfl,HB1.out⟩
end Go.Proofs.YtlncjgnomhpjnabGreatDoor
