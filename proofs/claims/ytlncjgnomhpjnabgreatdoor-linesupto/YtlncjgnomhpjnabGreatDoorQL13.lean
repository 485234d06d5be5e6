import Derived.Test.YtlncjgnomhpjnabGreatDoorQL12
namespace Go.Proofs.YtlncjgnomhpjnabGreatDoor
open Go.Value renaming int → O
open Go.IntKind renaming i64 → I
open Go.Proofs.Tryz
open Go.RowKit Go.Deep
theorem z3F:(prog.info? 30).map (fun i=>(i.zero,i.size,i.bytes))=some (some (.slice none 0 0),1,24):=zT
structure Kept2 (b m:Nat) (w w':World):Prop where
 os:w'.os=w.os
 tape:w'.tape=w.tape
 output:w'.output=w.output
 size:w.heap.size<=w'.heap.size
 block:∀ k,k < w.heap.size->k ≠ b->k ≠ m->w'.heap[k]?=w.heap[k]?
theorem Kept2.refl (b m:Nat) (w:World):Kept2 b m w w:=⟨rfl,rfl,rfl,Nat.le_refl _,fun _ _ _ _=>rfl⟩
theorem Kept2.below {b m:Nat} {w w' w'':World} (h:Kept2 b m w w') (hb:Below w'.heap.size w' w''):Kept2 b m w w'' :=
 ⟨hb.os.trans h.os,hb.tape.trans h.tape,hb.output.trans h.output,zO h.size hb.size,fun k hk h1 h2=>(hb.block k (zP hk h.size)).trans (h.block k hk h1 h2)⟩
theorem Kept2.alloc {b m:Nat} {w w':World} (h:Kept2 b m w w') (o:Obj):Kept2 b m w (w'.alloc o) :=
 h.below (zX.alloc zY _)
theorem Kept2.set1 {b m:Nat} {w w':World} (h:Kept2 b m w w') (i:Nat) (v:Value):Kept2 b m w (w'.setCell ⟨b,i,none⟩ v) :=
 ⟨h.os,h.tape,h.output,by rw [World.size_setCell];exact h.size,fun k hk h1 h2=>(blk_setCell_other _ _ _ _ (by simpa using h1)).trans (h.block k hk h1 h2)⟩
theorem Kept2.set2 {b m:Nat} {w w':World} (h:Kept2 b m w w') (i:Nat) (v:Value):Kept2 b m w (w'.setCell ⟨m,i,none⟩ v) :=
 ⟨h.os,h.tape,h.output,by rw [World.size_setCell];exact h.size,fun k hk h1 h2=>(blk_setCell_other _ _ _ _ (by simpa using h2)).trans (h.block k hk h1 h2)⟩
def z5i (a:Option Addr) (n b:Nat):Value:=.slice (z4g a b) n (z6x a n)
def outV (n:Nat) (A:Nat->Option Addr) (L NB:Nat->Nat) (i:Nat):Value:=if i < n then z5i (A i) (L i) (NB i) else .slice (some ⟨NB i,0,none⟩) 1 1
def nilV:Value:=.slice none 0 0
structure Fam (w wr:World) (n:Nat) (A:Nat->Option Addr) (L:Nat->Nat) (F:Nat->Nat->Int) (NB:Nat->Nat) (k:Nat):Prop where
 below:Below w.heap.size w wr
 out:wr.rowIs w.heap.size 30 (n+8) (fun i=>if i < k then outV n A L NB i else nilV)
 mine:wr.rowIs (w.heap.size+1) 30 n (fun i=>if i < k then z5i (A i) (L i) (NB i) else nilV)
 lo:∀ i,i < k->w.heap.size+2<=NB i
 hi:∀ i,i < k->NB i < wr.heap.size
 row:∀ i,i < k->i < n->∀ x,A i=some x->wr.rowIs (NB i) 3 (L i+8) (z1H (L i) (F i))
 far:∀ i,i < k->n<=i->wr.rowIs (NB i) 3 1 (fun _=>O I 77)
 ne:∀ i j,i < j->j < k->NB i ≠ NB j
def upd (NB:Nat->Nat) (k b:Nat) (i:Nat):Nat:=if i=k then b else NB i
theorem Fam.step {w wr wr':World} {n:Nat} {A:Nat->Option Addr} {L:Nat->Nat} {F:Nat->Nat->Int} {NB:Nat->Nat} {k b:Nat}
 (h:Fam w wr n A L F NB k) (hk:Kept2 w.heap.size (w.heap.size+1) wr wr')
 (hout:wr'.rowIs w.heap.size 30 (n+8) (fun i=>if i=k then outV n A L (upd NB k b) k else if i < k then outV n A L NB i else nilV))
 (hmine:wr'.rowIs (w.heap.size+1) 30 n (fun i=>if i=k then z5i (A k) (L k) b else if i < k then z5i (A i) (L i) (NB i) else nilV))
 (hb1:wr.heap.size<=b) (hb2:b < wr'.heap.size) (hrow:k < n->∀ x,A k=some x->wr'.rowIs b 3 (L k+8) (z1H (L k) (F k))) (hfar:n<=k->wr'.rowIs b 3 1 (fun _=>O I 77)) :
 Fam w wr' n A L F (upd NB k b) (k+1):=by
 have hsz:=h.out.lt;have hsz2:=h.mine.lt;refine ⟨⟨hk.os.trans h.below.os,hk.tape.trans h.below.tape,hk.output.trans h.below.output,zO h.below.size hk.size,fun j hj=>(hk.block j zU zU zU).trans (h.below.block j hj)⟩,
  hout.congr fun i _=>?_,hmine.congr fun i _=>?_,fun i hi=>?_,fun i hi=>?_,fun i hi hin x hx=>?_,fun i hi hin=>?_,fun i j hij hj=>?_⟩
 . by_cases e:i=k
   . subst e;simp
   . by_cases e2:i < k
     . simp [e,e2,outV,upd,Nat.lt_succ_of_lt e2]
     . simp [e,e2];omega
 . by_cases e:i=k
   . subst e;simp [upd]
   . by_cases e2:i < k
     . simp [e,e2,upd,Nat.lt_succ_of_lt e2]
     . simp [e,e2];omega
 . by_cases e:i=k
   . simp only [upd,if_pos e];omega
   . simp only [upd,if_neg e];exact h.lo i zU
 . by_cases e:i=k
   . simp only [upd,if_pos e];exact hb2
   . simp only [upd,if_neg e];exact zP (h.hi i zU) hk.size
 . by_cases e:i=k
   . subst e;simp only [upd];exact hrow hin x hx
   . simp only [upd,if_neg e]
     have:=h.lo i zU;exact (h.row i zU hin x hx).of_block (hk.block _ (h.hi i zU) zU zU)
 . by_cases e:i=k
   . subst e;simp only [upd];exact hfar hin
   . simp only [upd,if_neg e]
     have:=h.lo i zU;exact (h.far i zU hin).of_block (hk.block _ (h.hi i zU) zU zU)
 . have e:i ≠ k:=zU
   by_cases e2:j=k
   . simp only [upd,if_neg e,if_pos e2]
     have:=h.hi i zU;omega
   . simp only [upd,if_neg e,if_neg e2];exact h.ne i j hij zU
theorem Fam.start (w:World) (n:Nat) (A:Nat->Option Addr) (L:Nat->Nat) (F:Nat->Nat->Int) (NB:Nat->Nat) :
 Fam w ((w.alloc (.cells (madeCells #[nilV] (n+8)) 30)).alloc (.cells (madeCells #[nilV] n) 30)) n A L F NB 0:=by
 refine ⟨(zX.alloc zY _).alloc (by simp) _,?_,?_,fun i hi=>absurd hi zU,fun i hi=>absurd hi zU,fun i hi=>absurd hi zU,fun i hi=>absurd hi zU,fun i j _ hj=>absurd hj zU⟩
 . exact ((World.rowIs_made w nilV (n+8) 30).alloc _).congr fun i _=>by simp
 . have:=World.rowIs_made (w.alloc (.cells (madeCells #[nilV] (n+8)) 30)) nilV n 30
   rw [World.size_alloc] at this;exact this.congr fun i _=>by simp
theorem Fam.stepFar {w wr:World} {n:Nat} {A:Nat->Option Addr} {L:Nat->Nat} {F:Nat->Nat->Int} {NB:Nat->Nat} {k:Nat} (h:Fam w wr n A L F NB k) (hk:n<=k) :
 Fam w ((wr.alloc (.cells #[O I 77] 3)).setCell ⟨w.heap.size,k,none⟩ (.slice (some ⟨wr.heap.size,0,none⟩) 1 1)) n A L F (upd NB k wr.heap.size) (k+1):=by
 have hsz:=h.mine.lt;refine h.step (((Kept2.refl _ _ _).alloc _).set1 _ _) (((h.out.alloc _).set k _).congr fun i _=>?_) (((h.mine.alloc _).setOther (by simp) _).congr fun i hi=>?_) zY (by simp) (fun h1=>absurd h1 zU) (fun _=>?_)
 . by_cases e:i=k
   . simp [e,outV,upd];omega
   . simp [e]
 . simp [show i ≠ k by omega]
 . refine World.rowIs.setOther ?_ (by simp;omega) _
   exact (World.rowIs_alloc wr #[O I 77] 3 (fun _=>O I 77) (fun i hi=>by simp at hi;subst hi;rfl))
theorem Fam.stepNil {w wr:World} {n:Nat} {A:Nat->Option Addr} {L:Nat->Nat} {F:Nat->Nat->Int} {NB:Nat->Nat} {k:Nat} (h:Fam w wr n A L F NB k) (hk:k < n) (hA:A k=none) (hL:L k=0) :
 Fam w ((((wr.alloc (.cells #[O I 77] 3)).setCell ⟨w.heap.size,k,none⟩ (.slice (some ⟨wr.heap.size,0,none⟩) 1 1)).setCell ⟨w.heap.size+1,k,none⟩ (.slice none 0 0)).setCell ⟨w.heap.size,k,none⟩ (.slice none 0 0)) n A L F (upd NB k wr.heap.size) (k+1):=by
 refine h.step (((((Kept2.refl _ _ _).alloc _).set1 _ _).set2 _ _).set1 _ _) ((((((h.out.alloc _).set k _).setOther (by simp) _)).set k _).congr fun i _=>?_) (((((h.mine.alloc _).setOther (by simp) _).set k _).setOther (by simp) _).congr fun i hi=>?_) zY (by simp) (fun _ x hx=>by rw [hA] at hx;cases hx) (fun h1=>absurd h1 zU)
 . by_cases e:i=k
   . simp [e,outV,hk,z5i,z4g,z6x,hA,hL]
   . simp [e]
 . by_cases e:i=k
   . simp [e,z5i,z4g,z6x,hA,hL]
   . simp [e]
theorem Fam.stepOne {w wr w2:World} {n:Nat} {A:Nat->Option Addr} {L:Nat->Nat} {F:Nat->Nat->Int} {NB:Nat->Nat} {k:Nat} {x:Addr} (h:Fam w wr n A L F NB k) (hk:k < n) (hA:A k=some x)
 (hb:Below (wr.heap.size+1) ((wr.alloc (.cells #[O I 77] 3)).setCell ⟨w.heap.size,k,none⟩ (.slice (some ⟨wr.heap.size,0,none⟩) 1 1)) w2) (hrow:w2.rowIs (wr.heap.size+1) 3 (L k+8) (z1H (L k) (F k))) :
 Fam w ((w2.setCell ⟨w.heap.size+1,k,none⟩ (.slice (some ⟨wr.heap.size+1,0,none⟩) (L k) (L k+8))).setCell ⟨w.heap.size,k,none⟩ (.slice (some ⟨wr.heap.size+1,0,none⟩) (L k) (L k+8))) n A L F (upd NB k (wr.heap.size+1)) (k+1):=by
 have hs1:=h.out.lt;have hs2:=h.mine.lt;have hs3:=hrow.lt;have o1:w2.rowIs w.heap.size 30 (n+8) _:=((h.out.alloc (.cells #[O I 77] 3)).set k (.slice (some ⟨wr.heap.size,0,none⟩) 1 1)).of_block (hb.block _ zU);have m1:w2.rowIs (w.heap.size+1) 30 n _:=((h.mine.alloc (.cells #[O I 77] 3)).setOther (a:=⟨w.heap.size,k,none⟩) (by simp) (.slice (some ⟨wr.heap.size,0,none⟩) 1 1)).of_block (hb.block _ zU);refine h.step (((((Kept2.refl _ _ _).alloc _).set1 _ _).below (hb.mono (by simp))).set2 _ _ |>.set1 _ _) (((o1.setOther (by simp) _).set k _).congr fun i _=>?_) (((m1.set k _).setOther (by simp) _).congr fun i hi=>?_) zU (by simpa using hs3) (fun _ y _=>((hrow.setOther (by simp;omega) _).setOther (by simp;omega) _)) (fun h1=>absurd h1 zU)
 . by_cases e:i=k
   . simp [e,outV,hk,z5i,z4g,z6x,hA,upd]
   . simp [e]
 . by_cases e:i=k
   . simp [e,z5i,z4g,z6x,hA]
   . simp [e]
def Lent (e:Ending) (w w':World) (n:Nat) (A:Nat->Option Addr) (L:Nat->Nat) (F:Nat->Nat->Int):Prop :=
 ∃ NB,e=.returned (.tuple #[.slice (some ⟨w.heap.size,0,none⟩) n (n+8),.slice (some ⟨w.heap.size+1,0,none⟩) n n])/\Fam w w' n A L F NB (n+8)
set_option maxHeartbeats 1000000 in
theorem z5e (x:Addr) (n cap:Nat) (A:Nat->Option Addr) (L C:Nat->Nat) (F:Nat->Nat->Int) (w:World) (hn:n<=5864062014805) (hL:∀ i,i < n->L i<=17592186044416)
 (hA:ListsAt w (some x) n A L C) (hI:∀ i,i < n->IntsAt w (A i) (L i) (F i)) (hlow:Low w.heap.size (some x) n A L) (hnil:∀ i,i < n->A i=none->L i=0/\C i=0) :
 Calls prog 74 #[.slice (some x) n cap] w fun e w'=>Lent e w w' n A L F:=by
 have hmk1:=run_make_row' (P:=prog) 24 30 (.slice none 0 0) 24 underlying24 z3F rfl .i64 .i64 (n+8) zU zU;have ec:((n+8:Nat):Int)=(n:Int)+8:=zU
 rw [ec] at hmk1;have hmk2:=run_make_row' (P:=prog) 24 30 (.slice none 0 0) 24 underlying24 z3F rfl .i64 .i64 n zU zU;have hnl:=fun u:World=>Lib.run_eql_slice_nil (P:=prog) u 24 30 (some x) n cap 0 0 underlying24
 have HF:Hid (Fam w ((w.alloc (.cells (madeCells #[nilV] (n+8)) 30)).alloc (.cells (madeCells #[nilV] n) 30)) n A L F (fun _=>0) 0):=Fam.start w n A L F _;have HA:Hid (ListsAt w (some x) n A L C):=hA;have HI:Hid (∀ i,i < n->IntsAt w (A i) (L i) (F i)):=hI;have HL:Hid (∀ i,i < n->L i<=17592186044416):=hL;have HN:Hid (∀ i,i < n->A i=none->L i=0/\C i=0):=hnil;have HW:Hid (Low w.heap.size (some x) n A L):=hlow;clear hA hI hL hnil hlow
 go_enter func74,ntmps74
 go_wp2;clear hmk1 hmk2 hnl
 go_loopw [7] (fun i wr=>∃ k:Nat,k<=n+8/\i=O I k/\Hid (∃ NB,Fam w wr n A L F NB k)) (fun i _=>n+8 - (intOf i).toNat)
 case atStart=>exact ⟨0,zJ _,rfl,⟨_,HF.out⟩⟩
 case round =>
  clear HF;obtain ⟨k,hk,rfl,HR⟩:=hrel;obtain ⟨NB,hF⟩:=HR.out;clear HR;have hs2:w.heap.size+1 < wr.heap.size:=hF.mine.lt
  by_cases hlt:k < n+8
  . obtain ⟨v1,hc1⟩:∃ v,wr.cell? ⟨w.heap.size,k,none⟩=some v:=⟨_,hF.out.cell hlt⟩
    have hf1:wr.frozen? ⟨w.heap.size,k,none⟩=false:=hF.out.frozen k;obtain ⟨hcl,hfr⟩:=z2J (show Below wr.heap.size wr (wr.alloc (.cells #[O I 77] 3)) from zX.alloc zY _);have hc1a:=(hcl w.heap.size k zU).trans hc1;have hf1a:=(hfr w.heap.size k zU).trans hf1
    by_cases hkn:k < n
    . obtain ⟨v2,hc2⟩:∃ v,wr.cell? ⟨w.heap.size+1,k,none⟩=some v:=⟨_,hF.mine.cell hkn⟩
      have hf2:wr.frozen? ⟨w.heap.size+1,k,none⟩=false:=hF.mine.frozen k;have hc2a:=(hcl (w.heap.size+1) k zU).trans hc2;have hf2a:=(hfr (w.heap.size+1) k zU).trans hf2;obtain ⟨b,off,hx,hck⟩:=HA.out.open zU;cases hx;have hbl:b < w.heap.size:=HW.out.1 _ rfl zU;have hc3:wr.cell? ⟨b,off+k,none⟩=some (.slice (A k) (L k) (C k)):=(hF.below.cell hbl).trans (hck k hkn);clear hck;have HFF:Hid (Fam w wr n A L F NB k):=hF;clear hF;cases hAk:A k with
      | none =>
       obtain ⟨hL0,hC0⟩:=HN.out k hkn hAk;rw [hAk,hL0,hC0] at hc3;have hc3a:=(hcl b (off+k) zU).trans hc3;clear hcl hfr hc1 hc2 hc3 hf1 hf2;have HE:Hid (A k=none/\L k=0):=⟨hAk,hL0⟩;clear hAk hL0 hC0
       go_wp2_with (go_at_call 140;refine (y3s _).mono ?_;rintro e w' ⟨rfl,rfl⟩)
       go_roundw
       case rel=>exact ⟨k+1,zU,zS,⟨_,HFF.out.stepNil hkn HE.out.1 HE.out.2⟩⟩
       case measure=>simp [intOf];omega
      | some y =>
       rw [hAk] at hc3;have HE:Hid (A k=some y):=hAk;have hI1:IntsAt wr (some y) (L k) (F k):=by
        have h:=(HI.out k hkn).below HFF.out.below (HW.out.2 k hkn);rw [hAk] at h;exact h
       have hyl:0 < L k->y.block < w.heap.size:=fun h=>HW.out.2 k hkn y hAk h
       have hLk:=HL.out k hkn;have hc3a:=(hcl b (off+k) zU).trans hc3;have hbe:Below w.heap.size wr ((wr.alloc (.cells #[O I 77] 3)).setCell ⟨w.heap.size,k,none⟩ (.slice (some ⟨wr.heap.size,0,none⟩) 1 1)):=(zX.alloc (show w.heap.size<=wr.heap.size by omega) _).setCell zY _;have hlend:=y3r y (L k) (C k) (F k) ((wr.alloc (.cells #[O I 77] 3)).setCell ⟨w.heap.size,k,none⟩ (.slice (some ⟨wr.heap.size,0,none⟩) 1 1)) hLk (hI1.below hbe fun x hx h=>by cases hx;exact hyl h) (fun h=>by have:=hyl h;simp;omega);simp only [World.size_setCell,World.size_alloc] at hlend;have hlend2:=hlend.mono (R':=fun e w2=>(e=.returned (.slice (some ⟨wr.heap.size+1,0,none⟩) (L k) (L k+8))/\w2.rowIs (wr.heap.size+1) 3 (L k+8) (z1H (L k) (F k))/\Below (wr.heap.size+1) _ w2) /\
           w2.cell? ⟨w.heap.size,k,none⟩=some (.slice (some ⟨wr.heap.size,0,none⟩) 1 1)/\w2.frozen? ⟨w.heap.size,k,none⟩=false/\w2.cell? ⟨w.heap.size+1,k,none⟩=some v2/\w2.frozen? ⟨w.heap.size+1,k,none⟩=false) (fun e w2 h=>⟨h,
        (h.2.2.cell (by simp;omega)).trans (World.cell?_setCell_same _ _ _ hc1a),(h.2.2.frozen (by simp;omega)).trans ((World.frozen?_setCell _ _ _ _).trans hf1a),
        (h.2.2.cell (by simp;omega)).trans ((World.cell?_setCell_other _ _ _ _ (by simp)).trans hc2a),(h.2.2.frozen (by simp;omega)).trans ((World.frozen?_setCell _ _ _ _).trans hf2a)⟩)
       clear hAk hcl hfr hc1 hc2 hc3 hf1 hf2 hI1 hyl hbe hlend
       go_wp2_with (go_at_call 140;refine hlend2.mono ?_;rintro e w2 ⟨⟨rfl,hrow,hb2⟩,d1,d2,d3,d4⟩)
       go_roundw
       case rel=>exact ⟨k+1,zU,zS,⟨_,HFF.out.stepOne hkn HE.out hb2 hrow⟩⟩
       case measure=>simp [intOf];omega
    . have HFF:Hid (Fam w wr n A L F NB k):=hF
      clear hF hcl hfr hc1 hf1;go_wp2
      go_roundw
      case rel=>exact ⟨k+1,zU,zS,⟨_,HFF.out.stepFar zU⟩⟩
      case measure=>simp [intOf];omega
  . have e:k=n+8:=zU
    subst e;have HFF:Hid (Fam w wr n A L F NB (n+8)):=hF;clear hF;go_wp2;go_ret2;exact ⟨NB,rfl,HFF.out⟩
set_option maxHeartbeats 400000 in
theorem z8Z (w:World) :
 Calls prog 74 #[.slice none 0 0] w fun e w'=>e=.returned (.tuple #[.slice none 0 0,.slice none 0 0])/\w'=w:=by
 have hnl:=fun u:World=>Lib.run_eql_slice_nil (P:=prog) u 24 30 none 0 0 0 0 underlying24
 go_enter func74,ntmps74
 go_wp2;go_ret2;exact ⟨rfl,rfl⟩
structure Rest (w wr:World) (n:Nat) (A:Nat->Option Addr) (L:Nat->Nat) (F:Nat->Nat->Int) (NB:Nat->Nat) (k:Nat):Prop where
 below:Below w.heap.size w wr
 out:wr.rowIs w.heap.size 30 (n+8) (outV n A L NB)
 mine:wr.rowIs (w.heap.size+1) 30 n (fun i=>z5i (A i) (L i) (NB i))
 lo:∀ i,i < n+8->w.heap.size+2<=NB i
 hi:∀ i,i < n+8->NB i < wr.heap.size
 row:∀ i,k<=i->i < n->∀ x,A i=some x->wr.rowIs (NB i) 3 (L i+8) (z1H (L i) (F i))
 far:∀ i,n<=i->i < n+8->wr.rowIs (NB i) 3 1 (fun _=>O I 77)
 ne:∀ i j,i < j->j < n+8->NB i ≠ NB j
theorem Fam.rest {w wr:World} {n:Nat} {A:Nat->Option Addr} {L:Nat->Nat} {F:Nat->Nat->Int} {NB:Nat->Nat} (h:Fam w wr n A L F NB (n+8)):Rest w wr n A L F NB 0 :=
 ⟨h.below,h.out.congr fun i hi=>by simp [hi],h.mine.congr fun i hi=>by simp [Nat.lt_of_lt_of_le hi (Nat.le_add_right n 8)],h.lo,h.hi,fun i _ hi=>h.row i zU hi,fun i h1 h2=>h.far i h2 h1,h.ne⟩
theorem Rest.later {w wr wr':World} {n:Nat} {A:Nat->Option Addr} {L:Nat->Nat} {F:Nat->Nat->Int} {NB:Nat->Nat} {k:Nat} (h:Rest w wr n A L F NB k) (ho:Only (NB k) wr wr') (hk:k < n):Rest w wr' n A L F NB (k+1):=by
 have hl:=h.lo k zU;refine ⟨h.below.trans (ho.below zU),ho.row h.out zU,ho.row h.mine zU,h.lo,fun i hi=>by rw [ho.size];exact h.hi i hi,fun i h1 h2 x hx=>ho.row (h.row i zU h2 x hx) ?_,fun i h1 h2=>ho.row (h.far i h1 h2) ?_,h.ne⟩
 . exact fun e=>h.ne k i zU zU e.symm
 . exact fun e=>h.ne k i zU zU e.symm
theorem Rest.skip {w wr:World} {n:Nat} {A:Nat->Option Addr} {L:Nat->Nat} {F:Nat->Nat->Int} {NB:Nat->Nat} {k:Nat} (h:Rest w wr n A L F NB k):Rest w wr n A L F NB (k+1) :=
 ⟨h.below,h.out,h.mine,h.lo,h.hi,fun i h1=>h.row i zU,h.far,h.ne⟩
theorem Rest.drewN {w wr:World} {n:Nat} {A:Nat->Option Addr} {L:Nat->Nat} {F:Nat->Nat->Int} {NB:Nat->Nat} {k:Nat} (h:Rest w wr n A L F NB k) (m:Nat):Rest w (wr.drewN m) n A L F NB k :=
 ⟨⟨h.below.os,h.below.tape,h.below.output,h.below.size,h.below.block⟩,h.out,h.mine,h.lo,h.hi,h.row,h.far,h.ne⟩
theorem Only.drewN {b:Nat} {w w':World} (h:Only b w w') (m:Nat):Only b w (w'.drewN m):=⟨h.os,h.tape,h.output,h.size,h.block⟩
theorem Only.trans {b:Nat} {w w' w'':World} (h:Only b w w') (k:Only b w' w''):Only b w w'' :=
 ⟨k.os.trans h.os,k.tape.trans h.tape,k.output.trans h.output,k.size.trans h.size,fun j hj=>(k.block j hj).trans (h.block j hj)⟩
structure One (wr u:World) (b off B1 B2 B k l c:Nat) (y:Addr) (g:Nat->Value):Prop where
 c1:u.cell? ⟨B1,k,none⟩=some (.slice (some ⟨B,0,none⟩) l (l+8))
 c2:u.cell? ⟨B2,k,none⟩=some (.slice (some ⟨B,0,none⟩) l (l+8))
 c3:u.cell? ⟨b,off+k,none⟩=some (.slice (some y) l c)
 row:u.rowIs B 3 (l+8) g
 only:Only B wr u
theorem One.drewN {wr u:World} {b off B1 B2 B k l c:Nat} {y:Addr} {g:Nat->Value} (h:One wr u b off B1 B2 B k l c y g) (m:Nat):One wr (u.drewN m) b off B1 B2 B k l c y g :=
 ⟨h.c1,h.c2,h.c3,h.row,h.only.drewN m⟩
theorem One.next {wr u u':World} {b off B1 B2 B k l c:Nat} {y:Addr} {g g':Nat->Value} (h:One wr u b off B1 B2 B k l c y g) (hr:u'.rowIs B 3 (l+8) g') (ho:Only B u u') (h1:B1 ≠ B) (h2:B2 ≠ B) (h3:b ≠ B):One wr u' b off B1 B2 B k l c y g' :=
 ⟨(World.cell?_of_block (ho.block _ h1)).trans h.c1,(World.cell?_of_block (ho.block _ h2)).trans h.c2,(World.cell?_of_block (ho.block _ h3)).trans h.c3,hr,h.only.trans ho⟩
theorem One.ints {wr u:World} {b off B1 B2 B k l c:Nat} {y:Addr} {v:Int} (h:One wr u b off B1 B2 B k l c y (fun _=>O I v)):IntsAt u (some ⟨B,0,none⟩) l (fun _=>v):=fun i hi =>
 ⟨_,rfl,by rw [← h.row.cell (i:=i) zU];cases i <;> simp [Addr.add]⟩
theorem y4t {wr u:World} {b off B1 B2 B k l c:Nat} {y:Addr} {g:Nat->Value} (h:One wr u b off B1 B2 B k l c y g) (v:Int) (hl:l<=17592186044416) (h1:B1 ≠ B) (h2:B2 ≠ B) (h3:b ≠ B) :
 Calls prog 147 #[.slice (some ⟨B,0,none⟩) l (l+8),O I v] u fun e u'=>e=.returned (.tuple #[])/\One wr u' b off B1 B2 B k l c y (fun _=>O I v) :=
 (y2s l B g v u hl h.row).mono fun _ _ ⟨he,hr,ho⟩=>⟨he,h.next hr ho h1 h2 h3⟩
theorem z6W {wr u:World} {b off B1 B2 B k l c:Nat} {y:Addr} {g:Nat->Value} (h:One wr u b off B1 B2 B k l c y g) (v:Int) (m:Nat) (hl:l<=17592186044416) (h1:B1 ≠ B) (h2:B2 ≠ B) (h3:b ≠ B) :
 Calls prog 147 #[.slice (some ⟨B,0,none⟩) l (l+8),O I v] (u.drewN m) fun e u'=>e=.returned (.tuple #[])/\One wr u' b off B1 B2 B k l c y (fun _=>O I v) :=
 y4t (h.drewN m) v hl h1 h2 h3
theorem y0e (x:Addr) (n c B:Nat) (f:Nat->Int) (w:World) (m:Nat) (hn:n<=17592186044416) (hI:IntsAt w (some x) n f) (hrow:w.rowIs B 3 (n+8) (z1H n f)) :
 Calls prog 146 #[.slice (some ⟨B,0,none⟩) n (n+8),.slice (some x) n c] (w.drewN m) fun e w'=>e=.returned (.bool true)/\w'=w.drewN m :=
 y1S x n c B f (w.drewN m) hn hI hrow
theorem z6X (a:Option Addr) (n c:Nat) (v:Int) (w:World) (m:Nat) (hn:n<=17592186044416) (hI:IntsAt w a n (fun _=>v)) :
 Calls prog 98 #[.slice a n c,O I n,O I v] (w.drewN m) fun e w'=>e=.returned (.bool true)/\w'=w.drewN m :=
 z2l a n c v (w.drewN m) hn hI
structure Kpt (NB:Nat->Nat) (n:Nat) (w w':World):Prop where
 os:w'.os=w.os
 tape:w'.tape=w.tape
 output:w'.output=w.output
 size:w'.heap.size=w.heap.size
 block:∀ k,(∀ i,i < n->k ≠ NB i)->w'.heap[k]?=w.heap[k]?
theorem Kpt.only {NB:Nat->Nat} {n k:Nat} {w u v:World} (h:Kpt NB n w u) (ho:Only (NB k) u v) (hk:k < n):Kpt NB n w v :=
 ⟨ho.os.trans h.os,ho.tape.trans h.tape,ho.output.trans h.output,ho.size.trans h.size,fun j hj=>(ho.block j (hj k hk)).trans (h.block j hj)⟩
theorem Kpt.drewN {NB:Nat->Nat} {n:Nat} {w u:World} (h:Kpt NB n w u) (m:Nat):Kpt NB n w (u.drewN m):=⟨h.os,h.tape,h.output,h.size,h.block⟩
set_option maxRecDepth 100000 in
set_option maxHeartbeats 2000000 in
theorem z6f (x:Addr) (n cap:Nat) (A:Nat->Option Addr) (L C NB:Nat->Nat) (F:Nat->Nat->Int) (w0 w:World) (hn:n<=5864062014805) (hL:∀ i,i < n->L i<=17592186044416)
 (hA:ListsAt w0 (some x) n A L C) (hI:∀ i,i < n->IntsAt w0 (A i) (L i) (F i)) (hlow:Low w0.heap.size (some x) n A L) (hnil:∀ i,i < n->A i=none->L i=0/\C i=0)
 (hR:Rest w0 w n A L F NB 0) :
 Calls prog 76 #[.slice (some ⟨w0.heap.size,0,none⟩) n (n+8),.slice (some ⟨w0.heap.size+1,0,none⟩) n n,.slice (some x) n cap] w fun e w'=>e=.returned (.bool true)/\Below w0.heap.size w0 w'/\Kpt NB n w w':=by
 have hnl:=fun u:World=>Lib.run_eql_slice_nil (P:=prog) u 24 30 (some x) n cap 0 0 underlying24
 have HA:Hid (ListsAt w0 (some x) n A L C):=hA;have HI:Hid (∀ i,i < n->IntsAt w0 (A i) (L i) (F i)):=hI;have HL:Hid (∀ i,i < n->L i<=17592186044416):=hL;have HN:Hid (∀ i,i < n->A i=none->L i=0/\C i=0):=hnil;have HW:Hid (Low w0.heap.size (some x) n A L):=hlow;have HR:Hid (Rest w0 w n A L F NB 0):=hR;clear hA hI hL hnil hlow hR
 go_enter func76,ntmps76
 go_wp2;clear hnl
 go_loopw [9,10,11,12,13,14] (fun ok i _ _ _ _ wr=>∃ k:Nat,k<=n+8/\i=O I k/\ok=.bool true/\Hid (Rest w0 wr n A L F NB k)/\Hid (Kpt NB n w wr)) (fun _ i _ _ _ _ _=>n+8 - (intOf i).toNat)
 case atStart=>exact ⟨0,zJ _,rfl,rfl,HR.out,rfl,rfl,rfl,rfl,fun _ _=>rfl⟩
 case round =>
  clear HR;obtain ⟨k,hk,rfl,rfl,HR,HKP⟩:=hrel
  by_cases hlt:k < n+8
  . by_cases hkn:k < n
    . obtain ⟨b,off,hx,hck⟩:=HA.out.open zU
      cases hx;have hbl:b < w0.heap.size:=HW.out.1 _ rfl zU;have hlo:=HR.out.lo k zU;have hc1:=HR.out.out.cell hlt;have hc2:=HR.out.mine.cell hkn;have hc3:=(HR.out.below.cell (p:=⟨b,off+k,none⟩) hbl).trans (hck k hkn);rw [outV,if_pos hkn] at hc1;have hLk:=HL.out k hkn;clear hck;cases hAk:A k with
      | none =>
       obtain ⟨hL0,hC0⟩:=HN.out k hkn hAk;rw [hAk,hL0,hC0] at hc3;rw [hAk,hL0] at hc1 hc2;simp only [z5i,z4g,z6x,Option.map_none,Option.isNone_none,if_true] at hc1 hc2;have HZ:Hid (∀ (u:World) v,IntsAt u none 0 (fun _=>v)):=fun u v i hi=>absurd hi zU
       clear hAk hL0 hC0 hLk;go_wp2
       go_quiet ((go_at_call 146;exact (y1T _ _).mono fun _ _ h=>⟨h.1,_,h.2⟩))
       go_wp2_with (go_at_call 147;refine (z6V _ _).mono ?_;rintro e w' ⟨rfl,rfl⟩)
       go_quiet ((go_at_call 98;exact (z2l none 0 _ _ _ zU (HZ.out _ _)).mono fun _ _ h=>⟨h.1,_,h.2⟩))
       go_wp2_with (go_at_call 147;refine (z6V _ _).mono ?_;rintro e w' ⟨rfl,rfl⟩)
       go_quiet ((go_at_call 98;exact (z2l none 0 _ _ _ zU (HZ.out _ _)).mono fun _ _ h=>⟨h.1,_,h.2⟩))
       go_wp2
       go_roundw
       case rel=>exact ⟨k+1,zU,zS,rfl,HR.out.skip.drewN _,HKP.out.drewN _⟩
       case measure=>simp [intOf];omega
      | some y =>
       rw [hAk] at hc1 hc2 hc3;simp only [z5i,z4g,z6x,Option.map_some,Option.isNone_some,Bool.false_eq_true,if_false] at hc1 hc2;have HY:Hid (IntsAt wr (some y) (L k) (F k)):=by
        have h:=(HI.out k hkn).below HR.out.below (HW.out.2 k hkn);rw [hAk] at h;exact h
       have H0:Hid (One wr wr b off w0.heap.size (w0.heap.size+1) (NB k) k (L k) (C k) y (z1H (L k) (F k))):=⟨hc1,hc2,hc3,HR.out.row k zY hkn y hAk,Only.refl _ _⟩;have hd1:w0.heap.size ≠ NB k:=zU
       have hd2:w0.heap.size+1 ≠ NB k:=zU
       have hd3:b ≠ NB k:=zU
       clear hAk;go_wp2
       go_quiet ((go_at_call 146;exact (y0e y (L k) (C k) (NB k) (F k) _ _ hLk HY.out H0.out.row).mono fun _ _ h=>⟨h.1,_,h.2⟩))
       go_wp2_with (go_at_call 147;refine (z6W H0.out _ _ hLk hd1 hd2 hd3).mono ?_;rintro e u1 ⟨rfl,H1⟩;have e1:=H1.c1;have e2:=H1.c2;have e3:=H1.c3;have HH1:=zZ H1;clear H1)
       go_quiet ((go_at_call 98;exact (z6X _ (L k) _ _ _ _ hLk HH1.out.ints).mono fun _ _ h=>⟨h.1,_,h.2⟩))
       go_wp2_with (go_at_call 147;refine (z6W HH1.out _ _ hLk hd1 hd2 hd3).mono ?_;rintro e u2 ⟨rfl,H2⟩;have g1:=H2.c1;have g2:=H2.c2;have g3:=H2.c3;have HH2:=zZ H2;clear H2)
       go_quiet ((go_at_call 98;exact (z6X _ (L k) _ _ _ _ hLk HH2.out.ints).mono fun _ _ h=>⟨h.1,_,h.2⟩))
       go_wp2
       go_roundw
       case rel=>exact ⟨k+1,zU,zS,rfl,HR.out.later (HH2.out.only.drewN _) hkn,HKP.out.only (HH2.out.only.drewN _) hkn⟩
       case measure=>simp [intOf];omega
    . have hc1:=HR.out.out.cell hlt
      rw [outV,if_neg hkn] at hc1;have HI77:Hid (IntsAt wr (some ⟨NB k,0,none⟩) 1 (fun _=>77)):=fun i hi=>⟨_,rfl,by rw [← (HR.out.far k zU hlt).cell hi];cases i <;> simp [Addr.add]⟩
      go_wp2_with (go_at_call 98;refine (z2l _ 1 _ _ _ zU HI77.out).mono ?_;rintro e w' ⟨rfl,rfl⟩)
      go_roundw
      case rel=>exact ⟨k+1,zU,zS,rfl,HR.out.skip,HKP.out⟩
      case measure=>simp [intOf];omega
  . go_wp2
    go_ret;exact ⟨rfl,HR.out.below,HKP.out⟩
theorem z7Q (x:Addr) (n cap:Nat) (A:Nat->Option Addr) (L C NB:Nat->Nat) (F:Nat->Nat->Int) (w0 w:World) (hn:n<=5864062014805) (hL:∀ i,i < n->L i<=17592186044416)
 (hA:ListsAt w0 (some x) n A L C) (hI:∀ i,i < n->IntsAt w0 (A i) (L i) (F i)) (hlow:Low w0.heap.size (some x) n A L) (hnil:∀ i,i < n->A i=none->L i=0/\C i=0)
 (hR:Rest w0 w n A L F NB 0) :
 Calls prog 76 #[.slice (some ⟨w0.heap.size,0,none⟩) n (n+8),.slice (some ⟨w0.heap.size+1,0,none⟩) n n,.slice (some x) n cap] w fun e w'=>e=.returned (.bool true)/\Below w0.heap.size w0 w' :=
 (z6f x n cap A L C NB F w0 w hn hL hA hI hlow hnil hR).mono fun _ _ h=>⟨h.1,h.2.1⟩
set_option linter.unusedVariables false
theorem z4N (S B:Nat) (w:World) (hB:1<=B) (hB2:B<=100000) (hS:S<=100000) :
 Calls prog 62 #[O I S,O I B] w fun e w'=>e=.returned (O I (nBlk S B:Nat))/\w'=w:=by
 have hle:=z1K (S:=S) hB;have w1:I.wrap ((S:Int)+(B:Int))=(S:Int)+(B:Int):=by rw [zK];omega
 have w2:I.wrap ((S:Int)+(B:Int) - 1)=(S:Int)+(B:Int) - 1:=by rw [zK];omega
 have d0:((S:Int)+(B:Int) - 1) / (B:Int)=((nBlk S B:Nat):Int):=by
  rw [show (S:Int)+(B:Int) - 1=((S+B - 1:Nat):Int) by omega];rfl
 have d1:((S:Int)+(B:Int) - 1).tdiv (B:Int)=((nBlk S B:Nat):Int):=by
  rw [zF zU];exact d0
 have w3:I.wrap ((nBlk S B:Nat):Int)=((nBlk S B:Nat):Int):=by rw [zK];omega
 have hz:((B:Int) == 0)=false:=by simp;omega
 have hz2:¬ (B:Int)=0:=zU
 generalize nBlk S B=N at *
 go_enter func62,ntmps62
 go_wp2;go_ret;exact ⟨rfl,rfl⟩
theorem z5j (S B k:Nat) (w:World) (hk:k * B<=S) (hB2:B<=100000) (hS:S<=100000) :
 Calls prog 127 #[O I S,O I B,O I k] w fun e w'=>e=.returned (O I (blkN S B k:Nat))/\w'=w:=by
 have e1:(k:Int) * (B:Int)=((k * B:Nat):Int):=by simp
 have w1:I.wrap ((k:Int) * (B:Int))=((k * B:Nat):Int):=by rw [zK,e1];omega
 have w2:I.wrap ((S:Int) - ((k * B:Nat):Int))=((S - k * B:Nat):Int):=by rw [zK];omega
 have HM:Hid (((blkN S B k:Nat):Int)=min (B:Int) ((S - k * B:Nat):Int)):=by show _=_;unfold blkN;omega
 rw [HM.out];clear e1;generalize k * B=q at *;generalize S - q=r at *
 go_enter func127,ntmps127
 go_wp2;go_ret;exact ⟨rfl,rfl⟩
def bkOf:Option Addr->Nat
 | some x=>x.block
 | none=>0
def ofOf:Option Addr->Nat
 | some x=>x.off
 | none=>0
def blkA (A:Nat->Option Addr) (q i:Nat):Option Addr:=some ⟨bkOf (A i),ofOf (A i)+q,none⟩
theorem z4r {w:World} {a:Option Addr} {n:Nat} {f:Nat->Int} (h:IntsAt w a n f) (hn:0 < n):a=some ⟨bkOf a,ofOf a,none⟩:=by
 obtain ⟨b,off,rfl,-⟩:=h.open hn
 rfl
theorem y1A {w:World} {A:Nat->Option Addr} {i n q m:Nat} {f:Nat->Int} (h:IntsAt w (A i) n f) (hm:q+m<=n):IntsAt w (blkA A q i) m (fun j=>f (q+j)):=fun j hj=>by
 obtain ⟨b,off,ha,hc⟩:=h.open zU;refine ⟨_,rfl,?_⟩;have:=hc (q+j) zU;rw [ha]
 show w.cell? (Addr.add ⟨b,off+q,none⟩ j)=_
 rw [show Addr.add ⟨b,off+q,none⟩ j=⟨b,off+(q+j),none⟩ by cases j <;> simp [Addr.add] <;> omega];exact this
def blkV (A:Nat->Option Addr) (C:Nat->Nat) (q m j i:Nat):Value:=if i < j then .slice (blkA A q i) m (C i - q) else .slice none 0 0
theorem y4u {wr:World} {g n q m j:Nat} {A:Nat->Option Addr} {C:Nat->Nat} (h:wr.rowIs g 30 n (blkV A C q m j)) :
 (wr.setCell ⟨g,j,none⟩ (.slice (blkA A q j) m (C j - q))).rowIs g 30 n (blkV A C q m (j+1)) :=
 (h.set j _).congr fun i _=>by
  unfold blkV
  by_cases e:i=j
  . rw [if_pos e,if_pos zU,e]
  . rw [if_neg e]
    by_cases e2:i < j
    . rw [if_pos e2,if_pos zU]
    . rw [if_neg e2,if_neg zU]
set_option maxHeartbeats 1000000 in
theorem y4v (a:Option Addr) (n cap:Nat) (A:Nat->Option Addr) (S:Nat) (C:Nat->Nat) (F:Nat->Nat->Int) (B k:Nat) (w:World) (hn1:1<=n) (hn4:n<=4) (hB:1<=B) (hB2:B<=32) (hS:S<=300) (hk:k < nBlk S B)
 (hA:ListsAt w a n A (fun _=>S) C) (hC:∀ i,i < n->S<=C i) (hI:∀ i,i < n->IntsAt w (A i) S (F i)) (hlow:Low w.heap.size a n A (fun _=>S)) :
 Calls prog 64 #[.slice a n cap,O I B,O I k] w fun e w' =>
  e=.returned (.slice (some ⟨w.heap.size,0,none⟩) n n)/\w'.rowIs w.heap.size 30 n (blkV A C (k * B) (blkN S B k) n)/\Below w.heap.size w w':=by
 have hbd:=z3u hB hk;have HAD:=zZ (fun i (hi:i < n)=>z4r (hI i hi) zU);have HBS:=zZ (fun u=>z5j S B k u zU zU zU);have HC:=zZ hC;have hmk:=run_make_row' (P:=prog) 24 30 (.slice none 0 0) 24 underlying24 z3F rfl .i64 .i64 n zU zU;obtain ⟨b,off,rfl,hcell⟩:=hA.open zU;have HCL:=zZ hcell;have HBL:Hid (b < w.heap.size):=by
  have:=hlow.1 _ rfl (by omega:0 < n);exact this
 have e1:(k:Int) * (B:Int)=((k * B:Nat):Int):=by simp
 have w1:I.wrap ((k:Int) * (B:Int))=((k * B:Nat):Int):=by rw [zK,e1];omega
 have hbl:=HBL.out;clear hA hI hlow hcell hC e1;generalize blkN S B k=m at *;generalize k * B=q at *;have w2:I.wrap ((q:Int)+(m:Int))=((q+m:Nat):Int):=by rw [zK];omega
 have hb0:Below w.heap.size w (w.alloc (.cells (madeCells #[.slice none 0 0] n) 30)):=zX.alloc zY _;have HB0:=zZ hb0;clear hb0
 go_enter func64,ntmps64
 go_wp2;clear hmk
 go_loopw [8,9,10,16] (fun _ _ _ iv wr=>∃ i:Nat,i<=n/\iv=O I i/\Hid (wr.rowIs w.heap.size 30 n (blkV A C q m i)/\Below w.heap.size w wr)) (fun _ _ _ iv _=>n - (intOf iv).toNat)
 case atStart=>exact ⟨0,zJ _,rfl,(World.rowIs_made w (.slice none 0 0) n 30).congr fun i _=>by unfold blkV;rw [if_neg zU],HB0.out⟩
 case round =>
  obtain ⟨i,hi,rfl,HR⟩:=hrel
  by_cases hlt:i < n
  . have hcb:wr.cell? ⟨b,off+i,none⟩=some (.slice (some ⟨bkOf (A i),ofOf (A i),none⟩) S (C i)):=by
      have:=(HR.out.2.cell (p:=⟨b,off+i,none⟩) hbl).trans (HCL.out i hlt);rw [HAD.out i hlt] at this;exact this
    have hCi:=HC.out i hlt;have hc1:=HR.out.1.cell hlt;have hf1:=HR.out.1.frozen i;have HZ:=zZ (y4u HR.out.1);unfold blkA at HZ;generalize bkOf (A i)=gi at *;generalize ofOf (A i)=oi at *;generalize C i=ci at *;generalize blkV A C q m i i=old at *;have t1:(((q+m:Nat):Int) - (q:Int)).toNat=m:=zU
    go_wp2_with (go_at_call 127;refine (HBS.out _).mono ?_;rintro e u1 ⟨rfl,hw⟩;subst u1)
    go_roundw
    case rel=>exact ⟨i+1,zU,zS,HZ.out,HR.out.2.setCell zY _⟩
    case measure=>simp [intOf];omega
  . have e:i=n:=zU
    subst e;go_wp2;go_ret;exact ⟨rfl,HR.out⟩
def blkL (A:Nat->Option Addr) (C:Nat->Nat) (q m j:Nat):List Value:=(List.range j).map fun i=>Value.slice (blkA A q i) m (C i - q)
theorem y4w (A:Nat->Option Addr) (C:Nat->Nat) (q m j:Nat):blkL A C q m (j+1)=blkL A C q m j ++ [Value.slice (blkA A q j) m (C j - q)]:=by
 unfold blkL;rw [List.range_succ,List.map_append];rfl
set_option maxRecDepth 4000 in
set_option maxHeartbeats 1000000 in
theorem y2t (a:Option Addr) (n cap:Nat) (A:Nat->Option Addr) (S:Nat) (C:Nat->Nat) (F:Nat->Nat->Int) (B k:Nat) (w:World) (hn1:1<=n) (hn4:n<=4) (hB:1<=B) (hB2:B<=32) (hS:S<=300) (hk:k < nBlk S B)
 (hA:ListsAt w a n A (fun _=>S) C) (hC:∀ i,i < n->S<=C i) (hI:∀ i,i < n->IntsAt w (A i) S (F i)) (hlow:Low w.heap.size a n A (fun _=>S)) :
 Calls prog 211 #[O I B,.slice a n cap,O I k] w fun e w' =>
  ∃ kv,e=.returned kv/\w'.ownsRow w.heap.size 30 1 kv n (blkL A C (k * B) (blkN S B k) n)/\Below w.heap.size w w':=by
 have hbd:=z3u hB hk;have hbn:blkN S B k=if B < S - k * B then B else S - k * B:=by unfold blkN;split <;> omega
 have HAD:=zZ (fun i (hi:i < n)=>z4r (hI i hi) zU);have HC:=zZ hC;obtain ⟨b,off,rfl,hcell⟩:=hA.open zU;have HCL:=zZ hcell;have hbl:b < w.heap.size:=by
  have:=hlow.1 _ rfl (by omega:0 < n);exact this
 have e1:(k:Int) * (B:Int)=((k * B:Nat):Int):=by simp
 have w1:I.wrap ((k:Int) * (B:Int))=((k * B:Nat):Int):=by rw [zK,e1];omega
 clear hA hI hlow hcell hC e1;generalize blkN S B k=m at *;generalize k * B=q at *
 go_enter func211,ntmps211
 go_wp2
 go_loopw [7,8,9] (fun kv iv _ wr=>∃ i:Nat,∃ ov:Value,i<=n/\iv=O I i/\ov=kv/\Hid (wr.ownsRow w.heap.size 30 1 ov i (blkL A C q m i)/\Below w.heap.size w wr)) (fun _ iv _ _=>n - (intOf iv).toNat)
 case atStart=>exact ⟨0,_,zJ _,rfl,rfl,World.ownsRow_nil _ _ _ _,Below.refl _ _⟩
 case round =>
  obtain ⟨i,kv,hi,rfl,e,HR⟩:=hrel;subst e
  by_cases hlt:i < n
  . have hcb:wr.cell? ⟨b,off+i,none⟩=some (.slice (some ⟨bkOf (A i),ofOf (A i),none⟩) S (C i)):=by
      have:=(HR.out.2.cell (p:=⟨b,off+i,none⟩) hbl).trans (HCL.out i hlt);rw [HAD.out i hlt] at this;exact this
    have hCi:=HC.out i hlt;have HBA:Hid (blkL A C q m (i+1)=blkL A C q m i ++ [Value.slice (some ⟨bkOf (A i),ofOf (A i)+q,none⟩) m (C i - q)]):=y4w A C q m i;generalize bkOf (A i)=gi at *;generalize ofOf (A i)=oi at *;generalize C i=ci at *;have t1:((S:Int) - (q:Int)).toNat=S - q:=zU
    have hqS:(q:Int)<=(S:Int):=zU
    have hSc:(S:Int)<=(ci:Int):=zU
    by_cases hb:B < S - q
    . rw [if_pos hb] at hbn
      have tb:decide ((B:Int) < ((S - q:Nat):Int))=true:=zL zU;have hbc:(B:Int)<=((ci - q:Nat):Int):=zU
      subst hbn;obtain ⟨g',c',u',hr,ho,hg⟩:=z3b 24 30 (.slice none 0 0) 24 underlying24 z3F rfl wr w.heap.size kv i _ #[.slice (some ⟨gi,oi+q,none⟩) m (ci - q)] HR.out.1 (by simp) (by intro u hu;simp at hu;rw [hu];rfl) (by simp only [maxLen];simp;omega) (by simp;omega) HR.out.2.size 24;have HN:Hid (u'.ownsRow w.heap.size 30 1 (.slice (some ⟨g',0,none⟩) (i+1) c') (i+1) (blkL A C q m (i+1))/\Below w.heap.size w u'):=by
       refine ⟨?_,HR.out.2.grown hg HR.out.2.size (fun k hk=>(HR.out.1.lt k hk).1)⟩;rw [HBA.out];exact ho
      have HAP:Hid (_=_):=hr;clear hr ho hg
      go_wp2_with (at_builtin;refine z0c rfl _ _ _ rfl _ _ _ rfl rfl HAP.out ?_;clear HAP)
      go_roundw
      case rel=>exact ⟨i+1,_,zU,zS,rfl,HN.out⟩
      case measure=>simp [intOf];omega
    . rw [if_neg hb] at hbn
      have tb:decide ((B:Int) < ((S - q:Nat):Int))=false:=zM zU;subst hbn;obtain ⟨g',c',u',hr,ho,hg⟩:=z3b 24 30 (.slice none 0 0) 24 underlying24 z3F rfl wr w.heap.size kv i _ #[.slice (some ⟨gi,oi+q,none⟩) (S - q) (ci - q)] HR.out.1 (by simp) (by intro u hu;simp at hu;rw [hu];rfl) (by simp only [maxLen];simp;omega) (by simp;omega) HR.out.2.size 24;have HN:Hid (u'.ownsRow w.heap.size 30 1 (.slice (some ⟨g',0,none⟩) (i+1) c') (i+1) (blkL A C q (S - q) (i+1))/\Below w.heap.size w u'):=by
       refine ⟨?_,HR.out.2.grown hg HR.out.2.size (fun k hk=>(HR.out.1.lt k hk).1)⟩;rw [HBA.out];exact ho
      have HAP:Hid (_=_):=hr;clear hr ho hg
      go_wp2_with (at_builtin;refine z0c rfl _ _ _ rfl _ _ _ rfl rfl HAP.out ?_;clear HAP)
      go_roundw
      case rel=>exact ⟨i+1,_,zU,zS,rfl,HN.out⟩
      case measure=>simp [intOf];omega
  . have e:i=n:=zU
    subst e;go_wp2;go_ret;exact ⟨kv,rfl,HR.out⟩
set_option maxRecDepth 4000 in
set_option maxHeartbeats 1000000 in
theorem z9a (c2 c3 c4 c5 c6 c7:Int) (d m:Nat) (b off cap:Nat) (A:Nat->Option Addr) (N:Nat) (C:Nat->Nat) (F:Nat->Nat->Int) (w:World) (hm:m < 4) (hd1:1<=d) (hd:d<=12) (hN1:1<=N) (hN:N<=32)
 (hf:∀ i,i < 2->∀ j,j < N->z0A d (F i j)=true) (hc0:w.cell? ⟨b,off,none⟩=some (.slice (A 0) N (C 0))) (hc1:w.cell? ⟨b,off+1,none⟩=some (.slice (A 1) N (C 1))) (hbl:b < w.heap.size) (hI:∀ i,i < 2->IntsAt w (A i) N (F i)) (hlow:∀ i,i < 2->∀ x,A i=some x->0 < N->x.block < w.heap.size) (hT:z1v w 2) (hTl:2 < w.heap.size) :
 Calls prog 259 #[.agg #[O I 2,O I d,O I c2,O I c3,O I c4,O I c5,O I c6,O I c7],O I m,.slice (some ⟨b,off,none⟩) 2 cap] w fun e w' =>
  e=.returned (.string (bs (z2D d (F 0) (F 1) N m)))/\Below w.heap.size w w':=by
 have bl:∀ i,i < 2->∀ j,j < N->-4096<=F i j/\F i j<=4096:=fun i hi j hj=>z3S (hf i hi j hj) zU
 have tb:∀ u,Below w.heap.size w u->z1v u 2:=fun u hu r c hr hc=>(hu.cell (p:=⟨2,4 * r+c,none⟩) hTl).trans (hT r c hr hc)
 have HPR:=zZ (fun (u:World) (hu:Below w.heap.size w u)=>y6h m (A 0) (A 1) N (C 0) (C 1) (F 0) (F 1) u hm hN (bl 0 zU) (bl 1 zU) ((hI 0 zU).below hu (hlow 0 zU)) ((hI 1 zU).below hu (hlow 1 zU)) (fun y hy h0=>zP (hlow 0 zU y hy h0) hu.size) (fun y hy h0=>zP (hlow 1 zU y hy h0) hu.size));have hw1:=y9E d m hd1 hd;have hw2:=y9F d m hd1 hd;have HS1:=zZ (fun (u:World) (hu:Below w.heap.size w u) (x:Option Addr) (c:Nat) (hx:IntsAt u x N (l1 (F 0) (F 1) m)) (hl:∀ z,x=some z->0 < N->z.block < u.heap.size)=>z7H x N c (w1 d m) (l1 (F 0) (F 1) m) u hN1 hN hw1.1 hw1.2 (y7M hd1 m (hf 0 zU) (hf 1 zU)) hx hl (tb u hu) (zP hTl hu.size));have HS2:=zZ (fun (u:World) (hu:Below w.heap.size w u) (x:Option Addr) (c:Nat) (hx:IntsAt u x N (l2 (F 0) (F 1) m)) (hl:∀ z,x=some z->0 < N->z.block < u.heap.size)=>z7H x N c (w2 d m) (l2 (F 0) (F 1) m) u hN1 hN hw2.1 hw2.2 (y7N hd1 m (hf 0 zU) (hf 1 zU)) hx hl (tb u hu) (zP hTl hu.size));have HW0:=zZ (fun u=>y2n d m u hd hm);have HW1:=zZ (fun u=>y2o d m u hd hm);have HTX:Hid (bs (subT (w1 d m) (l1 (F 0) (F 1) m) N) ++ bs (subT (w2 d m) (l2 (F 0) (F 1) m) N)=bs (z2D d (F 0) (F 1) N m)):=by show _=_;rw [z0f,y6g _ _ _ _ _ hm]
 have z1:(bs (subT (w1 d m) (l1 (F 0) (F 1) m) N)).size<=424:=by rw [z0b];exact z1t _ _ N hN1 hN hw1.2
 have z2:(bs (subT (w2 d m) (l2 (F 0) (F 1) m) N)).size<=424:=by rw [z0b];exact z1t _ _ N hN1 hN hw2.2
 rw [← HTX.out];clear hf hI hlow hT bl tb HTX hw1 hw2;generalize bs (subT (w1 d m) (l1 (F 0) (F 1) m) N)=X1 at *;generalize bs (subT (w2 d m) (l2 (F 0) (F 1) m) N)=X2 at *;generalize w1 d m=W1 at *;generalize w2 d m=W2 at *;have hb0:Below w.heap.size w (w.alloc (.cells #[O I 2,O I d,O I c2,O I c3,O I c4,O I c5,O I c6,O I c7] 23)):=zX.alloc zY _;have HB0:=zZ hb0;clear hb0;have hS0:(w.alloc (.cells #[O I 2,O I d,O I c2,O I c3,O I c4,O I c5,O I c6,O I c7] 23)).drew.cell? ⟨b,off,none⟩=some (.slice (A 0) N (C 0))/\(w.alloc (.cells #[O I 2,O I d,O I c2,O I c3,O I c4,O I c5,O I c6,O I c7] 23)).drew.cell? ⟨b,off+1,none⟩=some (.slice (A 1) N (C 1)):=z7K (u:=w) hbl ⟨hc0,hc1⟩;have HD0:Hid ((w.alloc (.cells #[O I 2,O I d,O I c2,O I c3,O I c4,O I c5,O I c6,O I c7] 23)).drew.cell? ⟨w.heap.size,1,none⟩=some (O I d)/\w.heap.size < (w.alloc (.cells #[O I 2,O I d,O I c2,O I c3,O I c4,O I c5,O I c6,O I c7] 23)).drew.heap.size):=by
  refine ⟨?_,?_⟩
  . show (w.alloc (.cells #[O I 2,O I d,O I c2,O I c3,O I c4,O I c5,O I c6,O I c7] 23)).cell? _=_
    simp
  . show w.heap.size < (w.alloc (.cells #[O I 2,O I d,O I c2,O I c3,O I c4,O I c5,O I c6,O I c7] 23)).heap.size
    simp
 have HKS:=zZ (fun (u:World) (hu:Below w.heap.size w u)=>And.intro ((hu.cell (p:=⟨b,off,none⟩) hbl).trans hc0) ((hu.cell (p:=⟨b,off+1,none⟩) hbl).trans hc1))
 go_enter func259,ntmps259
 go_wp2_with fail
 go_region_held3 (fun w'=>w'.cell? ⟨b,off,none⟩=some (.slice (A 0) N (C 0))/\w'.cell? ⟨b,off+1,none⟩=some (.slice (A 1) N (C 1)))
  (first | with_reducible exact hS0 | with_reducible exact hS1)
  (first
  | (go_at_call 288;refine (HPR.out _ ?_).mono ?_;exact HB0.out.drew;rintro e u1 ⟨⟨x,y,cx,cy,rfl,hx,hy,lx,ly⟩,hb1⟩;have HB1:=zZ (HB0.out.drew.trans (hb1.mono HB0.out.size));have hS1:=HKS.out _ HB1.out;have hd1:u1.cell? ⟨w.heap.size,1,none⟩=some (O I d):=(hb1.cell (p:=⟨w.heap.size,1,none⟩) HD0.out.2).trans HD0.out.1;have hs1:w.heap.size < u1.heap.size:=zP HD0.out.2 hb1.size;have HX:=zZ (And.intro hx lx);have HY:=zZ (And.intro hy ly);clear hx hy lx ly hb1 HPR HB0))
 go_wp2_with (first
  | (go_at_call 289;refine (HW0.out _).mono ?_;rintro e w9 ⟨rfl,hw⟩;subst w9;clear HW0)
  | (go_at_call 289;refine (HW1.out _).mono ?_;rintro e w9 ⟨rfl,hw⟩;subst w9;clear HW1)
  | (go_at_call 223;refine (HS1.out _ ?_ _ _ ?_ ?_).mono ?_;exact HB1.out;exact HX.out.1;exact HX.out.2;rintro e u2 ⟨rfl,hb2⟩;have hd2:u2.cell? ⟨w.heap.size,1,none⟩=some (O I d):=(hb2.cell (p:=⟨w.heap.size,1,none⟩) hs1).trans hd1;have hs2:w.heap.size < u2.heap.size:=zP hs1 hb2.size;have HB2:=zZ (HB1.out.trans (hb2.mono HB1.out.size));have HY2:=zZ (And.intro (HY.out.1.belowB hb2 HY.out.2) (fun z hz h0=>zP (HY.out.2 z hz h0) hb2.size));clear hb2 HS1 HB1 HX HY)
  | (go_at_call 223;refine (HS2.out _ ?_ _ _ ?_ ?_).mono ?_;exact HB2.out;exact HY2.out.1;exact HY2.out.2;rintro e u3 ⟨rfl,hb3⟩;have HB3:=zZ (HB2.out.trans (hb3.mono HB2.out.size));clear hb3 HS2 HB2 HY2))
 go_ret;exact ⟨rfl,HB3.out⟩
set_option maxRecDepth 4000 in
set_option maxHeartbeats 1000000 in
theorem y0f (c2 c3 c4 c5 c6 c7:Int) (d:Nat) (b off n cap:Nat) (A:Nat->Option Addr) (N:Nat) (C:Nat->Nat) (F:Nat->Nat->Int) (w:World) (hn2:n ≠ 2) (hn4:n<=4) (hd1:1<=d) (hd:d<=12) (hN1:1<=N) (hN:N<=32)
 (hf:∀ i,i < n->∀ j,j < N->z0A d (F i j)=true) (hc:∀ i,i < n->w.cell? ⟨b,off+i,none⟩=some (.slice (A i) N (C i))) (hbl:b < w.heap.size) (hI:∀ i,i < n->IntsAt w (A i) N (F i)) (hlow:∀ i,i < n->∀ x,A i=some x->0 < N->x.block < w.heap.size) (hT:z1v w 2) (hTl:2 < w.heap.size) :
 Calls prog 259 #[.agg #[O I n,O I d,O I c2,O I c3,O I c4,O I c5,O I c6,O I c7],O I 0,.slice (some ⟨b,off,none⟩) n cap] w fun e w' =>
  e=.returned (.string (bs (allT d F N n)))/\Below w.heap.size w w':=by
 have HSB:=zZ (fun (u:World) (hu:Below w.heap.size w u) i (hi:i < n)=>z7H (A i) N (C i) d (F i) u hN1 hN hd1 zU (hf i hi) ((hI i hi).below hu (hlow i hi)) (fun y hy h0=>zP (hlow i hi y hy h0) hu.size) (fun r c hr hc=>(hu.cell (p:=⟨2,4 * r+c,none⟩) hTl).trans (hT r c hr hc)) (zP hTl hu.size));have HCL:=zZ (fun (u:World) (hu:Below w.heap.size w u) i (hi:i < n)=>(hu.cell (p:=⟨b,off+i,none⟩) hbl).trans (hc i hi));have HBD:=zZ (z4M d F N hN1 hN hd);have HSL:=zZ (fun i=>z1t d (F i) N hN1 hN zU);have hb0:Below w.heap.size w (w.alloc (.cells #[O I n,O I d,O I c2,O I c3,O I c4,O I c5,O I c6,O I c7] 23)):=zX.alloc zY _;have HD0:Hid (Below w.heap.size w (w.alloc (.cells #[O I n,O I d,O I c2,O I c3,O I c4,O I c5,O I c6,O I c7] 23))/\(w.alloc (.cells #[O I n,O I d,O I c2,O I c3,O I c4,O I c5,O I c6,O I c7] 23)).cell? ⟨w.heap.size,1,none⟩=some (O I d)/\w.heap.size < (w.alloc (.cells #[O I n,O I d,O I c2,O I c3,O I c4,O I c5,O I c6,O I c7] 23)).heap.size):=⟨hb0,by simp,by simp⟩;have hne:((n:Int) == 2)=false:=by simp;omega
 clear hf hI hlow hT hc hb0
 go_enter func259,ntmps259
 go_wp2
 go_loopw [11,12] (fun sv iv wr=>∃ i:Nat,i<=n/\iv=O I i/\sv=.string (bs (allT d F N i))/\Hid (Below w.heap.size w wr/\wr.cell? ⟨w.heap.size,1,none⟩=some (O I d)/\w.heap.size < wr.heap.size)) (fun _ iv _=>n - (intOf iv).toNat)
 case atStart=>exact ⟨0,zJ _,rfl,rfl,HD0.out⟩
 case round =>
  obtain ⟨i,hi,rfl,rfl,HR⟩:=hrel
  by_cases hlt:i < n
  . have hk1:=HCL.out wr HR.out.1 i hlt
    have hk2:=HR.out.2.1;have hS0:wr.drew.cell? ⟨w.heap.size,1,none⟩=some (O I d)/\wr.drew.cell? ⟨b,off+i,none⟩=some (.slice (A i) N (C i)):=⟨hk2,hk1⟩;have HS1:=zZ (fun (u:World) (hu:Below wr.heap.size wr u)=>(HSB.out u (HR.out.1.trans (hu.mono HR.out.1.size)) i hlt).mono fun e w' h=>(⟨h.1,HR.out.1.trans ((hu.trans (h.2.mono hu.size)).mono HR.out.1.size),((hu.trans (h.2.mono hu.size)).cell (p:=⟨w.heap.size,1,none⟩) HR.out.2.2).trans hk2,HCL.out w' (HR.out.1.trans ((hu.trans (h.2.mono hu.size)).mono HR.out.1.size)) i hlt,zP HR.out.2.2 (hu.trans (h.2.mono hu.size)).size⟩ :
     e=.returned (.string (bs (subT d (F i) N)))/\Below w.heap.size w w'/\w'.cell? ⟨w.heap.size,1,none⟩=some (O I d)/\w'.cell? ⟨b,off+i,none⟩=some (.slice (A i) N (C i))/\w.heap.size < w'.heap.size))
    have HTX:Hid (bs (allT d F N i) ++ bs (subT d (F i) N)=bs (allT d F N (i+1))):=by show _=_;rw [z0f];rfl
    have z1:(bs (allT d F N i)).size<=1696:=by rw [z0b];have:=(HBD.out i).2;omega
    have z2:(bs (subT d (F i) N)).size<=424:=by rw [z0b];exact HSL.out i
    generalize bs (allT d F N i)=X1 at *;generalize bs (subT d (F i) N)=X2 at *;go_wp2_with fail
    go_region_with (first
     | (go_at_call 223;refine (HS1.out _ ?_).mono ?_;exact zX.drew;rintro e u1 ⟨rfl,hb1,hn1,hn2,hn3⟩;have hSn:=And.intro hn1 hn2;have HN:=zZ (And.intro hb1 (And.intro hn1 hn3));clear hb1 hn1 hn2 hn3 HS1))
    all_goals go_wp2
    all_goals
     (
      go_roundw
      case rel=>exact ⟨i+1,zU,zS,by rw [HTX.out],HN.out⟩
      case measure=>simp [intOf];omega)
  . have e:i=n:=zU
    subst e;go_wp2;go_ret;exact ⟨rfl,HR.out.1⟩
def tryT (d n:Nat) (F:Nat->Nat->Int) (N m:Nat):List UInt8:=if n=2 then z2D d (F 0) (F 1) N m else allT d F N n
def z1l (d n:Nat) (F:Nat->Nat->Int) (N k:Nat):Nat:=if n=2 then z1w (z2D d (F 0) (F 1) N) k else 0
def z0E (d n:Nat) (F:Nat->Nat->Int) (N k:Nat):List UInt8:=if k=0 then [] else tryT d n F N (z1l d n F N k)
theorem y7R (d n:Nat) (F:Nat->Nat->Int) (N m:Nat) (hn1:1<=N) (hn:N<=32) (hd:d<=12) (h1:1<=n) (h4:n<=4):8<=(tryT d n F N m).length/\(tryT d n F N m).length<=1696:=by
 unfold tryT;split
 . have:=z7E d (F 0) (F 1) N m hn1 hn hd;omega
 . have:=z4M d F N hn1 hn hd n;omega
theorem z6Y (d n:Nat) (F:Nat->Nat->Int) (N:Nat):z0E d n F N 4=z0y d n F N/\z1l d n F N 4=z1R d n F N:=by
 unfold z0E tryT z1l z0y z1R
 by_cases h:n=2
 . simp [h]
 . simp [h]
theorem y0g (d n:Nat) (F:Nat->Nat->Int) (N:Nat):z1l d n F N 1=0/\z0E d n F N 1=tryT d n F N 0:=by
 have e:z1l d n F N 1=0:=by unfold z1l z1w;simp
 refine ⟨e,?_⟩;unfold z0E;rw [if_neg zU,e]
theorem y2u (d n:Nat) (F:Nat->Nat->Int) (N k:Nat) (h:n ≠ 2) (hk:1<=k):z1l d n F N (k+1)=z1l d n F N k/\z0E d n F N (k+1)=z0E d n F N k:=by
 unfold z0E z1l;rw [if_neg h,if_neg h,if_neg zU,if_neg zU];exact ⟨rfl,rfl⟩
theorem y2v (d n:Nat) (F:Nat->Nat->Int) (N k:Nat) (h:n=2) (hk:1<=k) (hl:(tryT d n F N k).length < (z0E d n F N k).length):z1l d n F N (k+1)=k/\z0E d n F N (k+1)=tryT d n F N k:=by
 have e:z1l d n F N (k+1)=k:=by
  unfold z0E tryT z1l at hl;rw [if_pos h,if_neg zU,if_pos h,if_pos h] at hl;unfold z1l;rw [if_pos h,z1w,if_pos (.inr hl)]
 refine ⟨e,?_⟩;unfold z0E;rw [if_neg zU,e]
theorem y2w (d n:Nat) (F:Nat->Nat->Int) (N k:Nat) (h:n=2) (hk:1<=k) (hl:¬ (tryT d n F N k).length < (z0E d n F N k).length):z1l d n F N (k+1)=z1l d n F N k/\z0E d n F N (k+1)=z0E d n F N k:=by
 have e:z1l d n F N (k+1)=z1l d n F N k:=by
  unfold z0E tryT z1l at hl;rw [if_pos h,if_neg zU,if_pos h,if_pos h] at hl;unfold z1l;rw [if_pos h,if_pos h,z1w,if_neg (fun hh=>hh.elim (fun h0=>zU) hl)]
 refine ⟨e,?_⟩;unfold z0E;rw [if_neg zU,if_neg zU,e]
theorem y6k {X:ByteArray} (h:0 < X.size):¬ X.toList=[]:=fun e=>by
 rw [ByteArray.toList_eq] at e;have h1:X.data.toList.length=X.size:=by simp
 rw [e] at h1;simp at h1;omega
structure CfgAt (w u:World) (cs:Array Value):Prop where
 below:Below w.heap.size w u
 blk:u.heap[w.heap.size]?=some (.cells cs 23 (0,0))
theorem CfgAt.next {w u u':World} {cs:Array Value} (h:CfgAt w u cs) (hb:Below u.heap.size u u'):CfgAt w u' cs :=
 ⟨h.below.trans (hb.mono h.below.size),(hb.block _ (Array.getElem?_eq_some_iff.1 h.blk).1).trans h.blk⟩
theorem CfgAt.cells {w u:World} {v0 v1 v2 v3 v4 v5 v6 v7:Value} (h:CfgAt w u #[v0,v1,v2,v3,v4,v5,v6,v7]) :
 u.cell? ⟨w.heap.size,0,none⟩=some v0/\u.cell? ⟨w.heap.size,1,none⟩=some v1/\u.cell? ⟨w.heap.size,2,none⟩=some v2/\u.cell? ⟨w.heap.size,3,none⟩=some v3/\u.cell? ⟨w.heap.size,4,none⟩=some v4/\u.cell? ⟨w.heap.size,5,none⟩=some v5/\u.cell? ⟨w.heap.size,6,none⟩=some v6/\u.cell? ⟨w.heap.size,7,none⟩=some v7 :=
 ⟨Lib.cell_of_heap h.blk 0,Lib.cell_of_heap h.blk 1,Lib.cell_of_heap h.blk 2,Lib.cell_of_heap h.blk 3,Lib.cell_of_heap h.blk 4,Lib.cell_of_heap h.blk 5,Lib.cell_of_heap h.blk 6,Lib.cell_of_heap h.blk 7⟩
structure Tail (TT:List UInt8) (mode N number:Nat) (X1 X2 X3 X4 X5 H X8 Bd S16 X16 R:ByteArray) (C8 C16 pl:Nat):Prop where
 pk:∀ u:World,Calls prog 260 #[.string (bs TT)] u fun e w'=>e=.returned (.string Bd)/\Below u.heap.size u w'
 l1:∀ u:World,Calls prog 215 #[O I 165,O I 1] u fun e w'=>e=.returned (.string X1)/\Below u.heap.size u w'
 l2:∀ u:World,Calls prog 215 #[O I number,O I 2] u fun e w'=>e=.returned (.string X2)/\Below u.heap.size u w'
 l3:∀ u:World,Calls prog 215 #[O I ((pl:Int)+10),O I 2] u fun e w'=>e=.returned (.string X3)/\Below u.heap.size u w'
 l4:∀ u:World,Calls prog 215 #[O I ((N:Int) - 1),O I 1] u fun e w'=>e=.returned (.string X4)/\Below u.heap.size u w'
 l5:∀ u:World,Calls prog 215 #[O I mode,O I 1] u fun e w'=>e=.returned (.string X5)/\Below u.heap.size u w'
 e8:∀ u:World,Calls prog 150 #[.string (X1 ++ X2 ++ X3 ++ X4 ++ X5)] u fun e w'=>e=.returned (O I C8)/\Below u.heap.size u w'
 l8:∀ u:World,Calls prog 215 #[O I C8,O I 1] u fun e w'=>e=.returned (.string X8)/\Below u.heap.size u w'
 e16:∀ u:World,Calls prog 152 #[.string (X1 ++ X2 ++ X3 ++ X4 ++ X5 ++ X8 ++ Bd)] u fun e w'=>e=.returned (O I C16)/\Below u.heap.size u w'
 l16:∀ u:World,Calls prog 215 #[O I C16,O I 2] u fun e w'=>e=.returned (.string X16)/\Below u.heap.size u w'
 fin:X1 ++ X2 ++ X3 ++ X4 ++ X5 ++ X8 ++ Bd ++ X16=R
 z1:X1.size=1
 z2:X2.size=2
 z3:X3.size=2
 z4:X4.size=1
 z5:X5.size=1
 z8:X8.size=1
 zb:Bd.size=pl
 z16:X16.size=2
 plb:pl<=212
theorem y2x (d n:Nat) (F:Nat->Nat->Int) (N number:Nat) (hN1:1<=N) (hN:N<=32) (hd:d<=12) (hn1:1<=n) (hn4:n<=4) (hnum:number < 65536) :
 ∃ X1 X2 X3 X4 X5 H X8 Bd S16 X16 C8 C16 pl,Tail (z0y d n F N) (z1R d n F N) N number X1 X2 X3 X4 X5 H X8 Bd S16 X16 (bs (z5c number N (z1R d n F N) (z0y d n F N))) C8 C16 pl:=by
 have hb:=z5P d n F N hN1 hN hd hn1 hn4;have hbb:=z5O d n F N;have hm:=y1p d n F N;generalize z0y d n F N=TT at *;generalize z1R d n F N=mode at *;have hp:(z0L TT).length<=212:=by rw [z5a];omega
 have e1:bs (inT 165 1) ++ bs (inT number 2) ++ bs (inT ((z0L TT).length+10) 2) ++ bs (inT (N - 1) 1) ++ bs (inT mode 1)=bs (z2p number ((z0L TT).length+10) N mode):=by
  rw [z0f,z0f,z0f,z0f];rfl
 have hc8:=z6S 8 263 (z2p number ((z0L TT).length+10) N mode);have hc16:=z6S 16 98309 (z1f (z2p number ((z0L TT).length+10) N mode) ++ z0L TT);have e2:bs (z2p number ((z0L TT).length+10) N mode) ++ bs (inT (crc 8 263 (z2p number ((z0L TT).length+10) N mode)) 1) ++ bs (z0L TT)=bs (z1f (z2p number ((z0L TT).length+10) N mode) ++ z0L TT):=by
  rw [z0f,z0f];rfl
 refine ⟨bs (inT 165 1),bs (inT number 2),bs (inT ((z0L TT).length+10) 2),bs (inT (N - 1) 1),bs (inT mode 1),⟨#[]⟩,bs (inT (crc 8 263 (z2p number ((z0L TT).length+10) N mode)) 1),bs (z0L TT),⟨#[]⟩,bs (inT (crc 16 98309 (z1f (z2p number ((z0L TT).length+10) N mode) ++ z0L TT)) 2),crc 8 263 (z2p number ((z0L TT).length+10) N mode),crc 16 98309 (z1f (z2p number ((z0L TT).length+10) N mode) ++ z0L TT),(z0L TT).length,
  ⟨fun u=>y2r TT u hbb zU,fun u=>z1d 165 1 u zU zU,fun u=>z1d number 2 u zU zU,fun u=>?_,fun u=>?_,fun u=>z1d mode 1 u zU zU,fun u=>?_,fun u=>z1d _ 1 u zU zU,fun u=>?_,fun u=>z1d _ 2 u zU zU,?_,by rw [z0b,z0d],by rw [z0b,z0d],by rw [z0b,z0d],by rw [z0b,z0d],by rw [z0b,z0d],by rw [z0b,z0d],z0b _,by rw [z0b,z0d],hp⟩⟩
 . have:=z1d ((z0L TT).length+10) 2 u zU zU
   rwa [show (((z0L TT).length+10:Nat):Int)=((z0L TT).length:Int)+10 by omega] at this
 . have:=z1d (N - 1) 1 u zU zU
   rwa [show ((N - 1:Nat):Int)=(N:Int) - 1 by omega] at this
 . rw [e1];exact y4i _ u (by rw [z1E];omega)
 . rw [e1,e2];exact y1v _ u (by rw [zN,z0Z,z1E];omega)
 . rw [e1,e2,z0f];rfl
set_option maxRecDepth 4000 in
set_option maxHeartbeats 1000000 in
theorem y2y (c2 c3 c4 c5 c6 c7:Int) (d number:Nat) (b off n cap:Nat) (A:Nat->Option Addr) (N:Nat) (C:Nat->Nat) (F:Nat->Nat->Int) (w:World) (hd1:1<=d) (hd:d<=12) (hn1:1<=n) (hn4:n<=4) (hN1:1<=N) (hN:N<=32) (hnum:number < 65536)
 (hf:∀ i,i < n->∀ j,j < N->z0A d (F i j)=true) (hc:∀ i,i < n->w.cell? ⟨b,off+i,none⟩=some (.slice (A i) N (C i))) (hbl:b < w.heap.size) (hI:∀ i,i < n->IntsAt w (A i) N (F i)) (hlow:∀ i,i < n->∀ x,A i=some x->0 < N->x.block < w.heap.size) (hT:z1v w 2) (hTl:2 < w.heap.size) :
 Calls prog 210 #[.agg #[O I n,O I d,O I c2,O I c3,O I c4,O I c5,O I c6,O I c7],O I number,.slice (some ⟨b,off,none⟩) n cap] w fun e w' =>
  e=.returned (.string (bs (z5c number N (z1R d n F N) (z0y d n F N))))/\Below w.heap.size w w':=by
 have HBO:Hid (∀ (u:World),Below w.heap.size w u->∀ m:Nat,m < 4->(m=0∨n=2)->Calls prog 259 #[.agg #[O I n,O I d,O I c2,O I c3,O I c4,O I c5,O I c6,O I c7],O I m,.slice (some ⟨b,off,none⟩) n cap] u fun e w'=>e=.returned (.string (bs (tryT d n F N m)))/\Below u.heap.size u w'):=by
  intro u hu m hm hmn;have tb:z1v u 2:=fun r c hr hc=>(hu.cell (p:=⟨2,4 * r+c,none⟩) hTl).trans (hT r c hr hc)
  by_cases h2:n=2
  . subst h2
    have e:tryT d 2 F N m=z2D d (F 0) (F 1) N m:=by unfold tryT;rw [if_pos rfl]
    rw [e];exact z9a c2 c3 c4 c5 c6 c7 d m b off cap A N C F u hm hd1 hd hN1 hN hf ((hu.cell (p:=⟨b,off,none⟩) hbl).trans (hc 0 zU)) ((hu.cell (p:=⟨b,off+1,none⟩) hbl).trans (hc 1 zU)) (zP hbl hu.size) (fun i hi=>(hI i hi).below hu (hlow i hi)) (fun i hi x hx h0=>zP (hlow i hi x hx h0) hu.size) tb (zP hTl hu.size)
  . have hm0:m=0:=hmn.elim id (fun h=>absurd h h2)
    subst hm0;have e:tryT d n F N 0=allT d F N n:=by unfold tryT;rw [if_neg h2]
    rw [e];exact y0f c2 c3 c4 c5 c6 c7 d b off n cap A N C F u h2 hn4 hd1 hd hN1 hN hf (fun i hi=>(hu.cell (p:=⟨b,off+i,none⟩) hbl).trans (hc i hi)) (zP hbl hu.size) (fun i hi=>(hI i hi).below hu (hlow i hi)) (fun i hi x hx h0=>zP (hlow i hi x hx h0) hu.size) tb (zP hTl hu.size)
 have HTB:=zZ (fun m=>y7R d n F N m hN1 hN hd hn1 hn4);have hb0:Below w.heap.size w (w.alloc (.cells #[O I n,O I d,O I c2,O I c3,O I c4,O I c5,O I c6,O I c7] 23)):=zX.alloc zY _;have HD0:Hid (CfgAt w (w.alloc (.cells #[O I n,O I d,O I c2,O I c3,O I c4,O I c5,O I c6,O I c7] 23)) #[O I n,O I d,O I c2,O I c3,O I c4,O I c5,O I c6,O I c7]):=⟨hb0,blk_alloc_new _ _⟩;have HC0:=zZ (fun (u:World) (hu:Below w.heap.size w u)=>(hu.cell (p:=⟨b,off,none⟩) hbl).trans (hc 0 zU));clear hf hI hlow hT hc hb0
 go_enter func210,ntmps210
 go_wp2
 go_loopw [7,8,9] (fun sv mv iv wr=>∃ k:Nat,k<=4/\iv=O I k/\sv=.string (bs (z0E d n F N k))/\mv=O I (z1l d n F N k:Nat)/\Hid (CfgAt w wr (#[O I n,O I d,O I c2,O I c3,O I c4,O I c5,O I c6,O I c7]))) (fun _ _ iv _=>4 - (intOf iv).toNat)
 case atStart=>exact ⟨0,zU,rfl,by unfold z0E;rw [if_pos rfl];rfl,by unfold z1l;split <;> rfl,HD0.out⟩
 case round =>
  obtain ⟨k,hk,rfl,rfl,rfl,HR⟩:=hrel
  by_cases hlt:k < 4
  . obtain ⟨q0,q1,q2,q3,q4,q5,q6,q7⟩:=HR.out.cells
    by_cases hk0:k=0
    . subst hk0
      have e1:bs (z0E d n F N 0)=⟨#[]⟩:=by unfold z0E;rw [if_pos rfl];rfl
      rw [e1];have HE:=zZ (y0g d n F N);have HCB:=zZ (HBO.out wr HR.out.below 0 zU (.inl rfl));generalize z1l d n F N 0=rm at *;clear e1
      go_wp2_with (go_at_call 259;refine HCB.out.mono ?_;rintro e u1 ⟨rfl,hb1⟩;have HN:=zZ (HR.out.next hb1);clear hb1 HCB)
      go_roundw
      case rel=>exact ⟨1,zU,zS,by rw [HE.out.2],by rw [HE.out.1];rfl,HN.out⟩
      case measure=>simp [intOf]
    . have tk0:((k:Int) == 0)=false:=by simp;omega
      by_cases h2:n=2
      . have HCB:=zZ (HBO.out wr HR.out.below k hlt (.inr h2))
        have hX:(bs (z0E d n F N k)).size=(z0E d n F N k).length:=z0b _;have hY:(bs (tryT d n F N k)).size=(tryT d n F N k).length:=z0b _;have hbt:z0E d n F N k=tryT d n F N (z1l d n F N k):=by unfold z0E;rw [if_neg hk0]
        have hXl:8<=(z0E d n F N k).length/\(z0E d n F N k).length<=1696:=by rw [hbt];exact HTB.out _
        have hYl:=HTB.out k;have hle:¬ (bs (z0E d n F N k)).toList=[]:=y6k (by rw [hX];omega);have hle2:(bs (z0E d n F N k)).toList.isEmpty=false:=by
         cases h:(bs (z0E d n F N k)).toList.isEmpty with
         | false=>rfl
         | true=>exact absurd (List.isEmpty_iff.1 h) hle
        by_cases hl:(tryT d n F N k).length < (z0E d n F N k).length
        . have HE0:=y2v d n F N k h2 zU hl
          have HE:=zZ (And.intro (congrArg bs HE0.2) HE0.1);clear HE0;have td:decide (((bs (tryT d n F N k)).size:Int) < ((bs (z0E d n F N k)).size:Int))=true:=zL zU;rw [hX,hY] at td;have HH:=zZ (And.intro hbt h2);clear hbt h2;generalize bs (z0E d n F N k)=X at *;generalize bs (tryT d n F N k)=Y at *;generalize (z0E d n F N k).length=xl at *;generalize (tryT d n F N k).length=yl at *;generalize z1l d n F N k=rm at *;have q0':((n:Int) == 2)=true:=by have:=HH.out.2;simp;omega
          go_wp2_with (go_at_call 259;refine HCB.out.mono ?_;rintro e u1 ⟨rfl,hb1⟩;have HN:=zZ (HR.out.next hb1);clear hb1 HCB)
          go_roundw
          case rel=>exact ⟨k+1,zU,zS,by rw [HE.out.1],by rw [HE.out.2],HN.out⟩
          case measure=>simp [intOf];omega
        . have HE0:=y2w d n F N k h2 zU hl
          have HE:=zZ (And.intro (congrArg bs HE0.2) HE0.1);clear HE0;have td:decide (((bs (tryT d n F N k)).size:Int) < ((bs (z0E d n F N k)).size:Int))=false:=zM zU;rw [hX,hY] at td;have HH:=zZ (And.intro hbt h2);clear hbt h2;generalize bs (z0E d n F N k)=X at *;generalize bs (tryT d n F N k)=Y at *;generalize (z0E d n F N k).length=xl at *;generalize (tryT d n F N k).length=yl at *;generalize z1l d n F N k=rm at *;have q0':((n:Int) == 2)=true:=by have:=HH.out.2;simp;omega
          go_wp2_with (go_at_call 259;refine HCB.out.mono ?_;rintro e u1 ⟨rfl,hb1⟩;have HN:=zZ (HR.out.next hb1);clear hb1 HCB)
          go_roundw
          case rel=>exact ⟨k+1,zU,zS,by rw [HE.out.1],by rw [HE.out.2],HN.out⟩
          case measure=>simp [intOf];omega
      . have HE:=zZ (y2u d n F N k h2 zU)
        have q0':((n:Int) == 2)=false:=by simp;omega
        clear h2;go_wp2
        go_roundw
        case rel=>exact ⟨k+1,zU,zS,by rw [HE.out.2],by rw [HE.out.1],HR.out⟩
        case measure=>simp [intOf];omega
  . have e:k=4:=zU
    subst e;rw [(z6Y d n F N).1,(z6Y d n F N).2];have HK1:=zZ (HC0.out wr HR.out.below);have HRB:=zZ HR.out.below;have HKC:=HC0;clear HBO HTB HD0 HR;obtain ⟨X1,X2,X3,X4,X5,H,X8,Bd,S16,X16,C8,C16,pl,HT⟩:=y2x d n F N number hN1 hN hd hn1 hn4 hnum;have HTT:=zZ HT;have z1:=HT.z1;have z2:=HT.z2;have z3:=HT.z3;have z4:=HT.z4;have z5:=HT.z5;have z8:=HT.z8;have zb:=HT.zb;have z16:=HT.z16;have plb:=HT.plb;have HL1:=zZ HT.l1;have HL2:=zZ HT.l2;have HL3:=zZ HT.l3;have HL4:=zZ HT.l4;have HL5:=zZ HT.l5;clear HT;have hk1:=HK1.out;have wp10:I.wrap ((pl:Int)+10)=(pl:Int)+10:=by rw [zK];omega
    have wn1:I.wrap ((N:Int) - 1)=(N:Int) - 1:=by rw [zK];omega
    go_wp2_with (go_at_call 260;refine (HTT.out.pk _).mono ?_;rintro e u1 ⟨rfl,hb1⟩;have HB1:=zZ (HRB.out.trans (hb1.mono HRB.out.size));have hk2:=HKC.out _ HB1.out;clear hb1)
    have hS0:u1.drew.cell? ⟨b,off,none⟩=some (.slice (A 0) N (C 0)):=hk2;have hn0:(0:Int) < (n:Int):=zU
    have hn0a:0 < n:=zU
    have hn0b:¬ n=0:=zU
    have hn0c:¬ (n:Int)<=0:=zU
    have hn0d:¬ n<=0:=zU
    go_region_held3 (fun w'=>w'.cell? ⟨b,off,none⟩=some (.slice (A 0) N (C 0)))
     (first | with_reducible exact hS0 | with_reducible exact hS1 | with_reducible exact hS2 | with_reducible exact hS3 | with_reducible exact hS4 | with_reducible exact hS5)
     (first
     | (go_at_call 215;refine (HL1.out _).mono ?_;rintro e v1 ⟨rfl,hb⟩;have HV1:=zZ (HB1.out.drew.trans (hb.mono HB1.out.size));have hS1:=HKC.out _ HV1.out;clear hb HL1)
     | (go_at_call 215;refine (HL2.out _).mono ?_;rintro e v2 ⟨rfl,hb⟩;have HV2:=zZ (HV1.out.trans (hb.mono HV1.out.size));have hS2:=HKC.out _ HV2.out;clear hb HL2)
     | (go_at_call 215;refine (HL3.out _).mono ?_;rintro e v3 ⟨rfl,hb⟩;have HV3:=zZ (HV2.out.trans (hb.mono HV2.out.size));have hS3:=HKC.out _ HV3.out;clear hb HL3)
     | (go_at_call 215;refine (HL4.out _).mono ?_;rintro e v4 ⟨rfl,hb⟩;have HV4:=zZ (HV3.out.trans (hb.mono HV3.out.size));have hS4:=HKC.out _ HV4.out;clear hb HL4)
     | (go_at_call 215;refine (HL5.out _).mono ?_;rintro e v5 ⟨rfl,hb⟩;have HV5:=zZ (HV4.out.trans (hb.mono HV4.out.size));have hS5:=HKC.out _ HV5.out;clear hb HL5))
    have HE8:=zZ HTT.out.e8;have HL8:=zZ HTT.out.l8;have HE16:=zZ HTT.out.e16;have HL16:=zZ HTT.out.l16
    go_wp2_with (first
     | (go_at_call 150;refine (HE8.out _).mono ?_;rintro e v6 ⟨rfl,hb⟩;have HV6:=zZ (HV5.out.trans (hb.mono HV5.out.size));clear hb HE8)
     | (go_at_call 215;refine (HL8.out _).mono ?_;rintro e v7 ⟨rfl,hb⟩;have HV7:=zZ (HV6.out.trans (hb.mono HV6.out.size));clear hb HL8)
     | (go_at_call 152;refine (HE16.out _).mono ?_;rintro e v8 ⟨rfl,hb⟩;have HV8:=zZ (HV7.out.trans (hb.mono HV7.out.size));clear hb HE16)
     | (go_at_call 215;refine (HL16.out _).mono ?_;rintro e v9 ⟨rfl,hb⟩;have HV9:=zZ (HV8.out.trans (hb.mono HV8.out.size));clear hb HL16))
    go_ret;exact ⟨by rw [HTT.out.fin];rfl,HV9.out⟩
theorem y7S:(prog.info? 9).map (fun i=>(i.zero,i.size,i.bytes))=some (some (.string ⟨#[]⟩),1,16):=zT
def frsL (d n:Nat) (F:Nat->Nat->Int) (S B k:Nat):List Value:=(List.range k).map fun j=>Value.string (bs (frT d n F S B j))
theorem y4x (d n:Nat) (F:Nat->Nat->Int) (S B k:Nat):frsL d n F S B (k+1)=frsL d n F S B k ++ [Value.string (bs (frT d n F S B k))]:=by
 unfold frsL;rw [List.range_succ,List.map_append];rfl
structure AllI (w wr:World) (cs:Array Value) (kv:Value) (k:Nat) (ls:List Value):Prop where
 cfg:Bx wr w.heap.size 23 cs
 own:wr.ownsRow (w.heap.size+1) 9 1 kv k ls
 below:Below w.heap.size w wr
 size:w.heap.size+1<=wr.heap.size
theorem AllI.next {w wr u:World} {cs:Array Value} {kv:Value} {k:Nat} {ls:List Value} (h:AllI w wr cs kv k ls) (hb:Below wr.heap.size wr u):AllI w u cs kv k ls :=
 ⟨h.cfg.below hb,h.own.kept ⟨hb.os,hb.tape,hb.output,hb.size,fun j hj _=>hb.block j hj⟩ (Classical.em _),h.below.trans (hb.mono h.below.size),zO h.size hb.size⟩
theorem AllI.grew {w wr u:World} {cs:Array Value} {kv kv':Value} {k:Nat} {ls ls':List Value} (h:AllI w wr cs kv k ls) (ho:u.ownsRow (w.heap.size+1) 9 1 kv' (k+1) ls') (hg:wr.grownBy u kv.ownBlock):AllI w u cs kv' (k+1) ls' :=
 ⟨h.cfg.of (hg.block _ (by have:=h.size;omega) (fun e=>by have:=(h.own.lt _ e.symm).1;omega)),ho,h.below.grown hg h.below.size (fun j hj=>by have:=(h.own.lt j hj).1;omega),zO h.size hg.size⟩
theorem y6l {w:World} {base:Nat} {t:TypeId} {v:Value} {n:Nat} {xs:List Value} (h:w.ownsRow base t 1 v n xs) (hn:1<=n):∃ g c,v=.slice (some ⟨g,0,none⟩) n c:=by
 rcases h.2 with ⟨-,h0⟩ | ⟨g,c,cur,e,-⟩
 . omega
 . exact ⟨g,c,e⟩
theorem y6m {A:Nat->Option Addr} {C:Nat->Nat} {q m n i:Nat} (hi:i < n):(blkL A C q m n)[i]?=some (Value.slice (blkA A q i) m (C i - q)):=by
 unfold blkL;rw [List.getElem?_map,List.getElem?_range hi];rfl
set_option maxRecDepth 4000 in
set_option maxHeartbeats 2000000 in
theorem z7R (c3 c4 c5 c6 c7:Int) (d B:Nat) (a:Option Addr) (n cap:Nat) (A:Nat->Option Addr) (S:Nat) (C:Nat->Nat) (F:Nat->Nat->Int) (w:World) (hd1:1<=d) (hd:d<=12) (hn1:1<=n) (hn4:n<=4) (hB1:1<=B) (hB2:B<=32) (hS:S<=300)
 (hf:∀ i,i < n->∀ j,j < S->z0A d (F i j)=true) (hA:ListsAt w a n A (fun _=>S) C) (hC:∀ i,i < n->S<=C i) (hI:∀ i,i < n->IntsAt w (A i) S (F i)) (hlow:Low w.heap.size a n A (fun _=>S)) (hT:z1v w 2) (hTl:2 < w.heap.size) :
 Calls prog 142 #[.agg #[O I n,O I d,O I B,O I c3,O I c4,O I c5,O I c6,O I c7],.slice a n cap] w fun e w' =>
  ∃ kv,e=.returned kv/\w'.ownsRow w.heap.size 9 1 kv (nBlk S B) (frsL d n F S B (nBlk S B))/\Below w.heap.size w w':=by
 have HSL:=zZ (fun (u:World) (hu:Below w.heap.size w u) k (hk:k < nBlk S B)=>y2t a n cap A S C F B k u hn1 hn4 hB1 hB2 hS hk (hA.below hu hlow.1) hC (fun i hi=>(hI i hi).below hu (hlow.2 i hi)) ⟨fun x hx h0=>zP (hlow.1 x hx h0) hu.size,fun i hi x hx h0=>zP (hlow.2 i hi x hx h0) hu.size⟩);have HFR:=zZ (fun (u:World) (hu:Below w.heap.size w u) (k g c:Nat) (hk:k < nBlk S B) (hg:u.ownsRow w.heap.size 30 1 (.slice (some ⟨g,0,none⟩) n c) n (blkL A C (k * B) (blkN S B k) n)) =>
  have hbd:=z3u hB1 hk
  y2y B c3 c4 c5 c6 c7 d k g 0 n c (blkA A (k * B)) (blkN S B k) (fun i=>C i - k * B) (blkF F B k) u hd1 hd hn1 hn4 hbd.1 zU (by have:=z1K (S:=S) hB1;omega)
   (fun i hi j hj=>hf i hi (k * B+j) zU) (fun i hi=>by
    have:=hg.cells (g:=g) rfl i _ (y6m hi);rw [Addr.add_lit] at this;exact this) ((hg.lt g rfl).2) (fun i hi=>y1A ((hI i hi).below hu (hlow.2 i hi)) zU) (fun i hi x hx h0=>by
    have h1:=z4r (hI i hi) zU;have h2:=hlow.2 i hi _ h1 (by show 0 < S;omega);cases hx;exact zP h2 hu.size) (fun r c hr hc=>(hu.cell (p:=⟨2,4 * r+c,none⟩) hTl).trans (hT r c hr hc)) (zP hTl hu.size))
 have HNL:Hid (∀ k,k < nBlk S B↔k * B < S):=fun k=>z7N hB1
 have HNB:=zZ (z1K (S:=S) hB1);obtain ⟨b,off,rfl,hcell⟩:=hA.open zU;have hc0:=hcell 0 zU;simp only [Nat.add_zero] at hc0;have hbl:b < w.heap.size:=hlow.1 _ rfl (by omega:0 < n);have hn02:0 < n:=hn1;have hn03:(0:Int) < (n:Int):=zU
 clear hf hA hC hI hlow hT hcell
 go_enter func142,ntmps142
 go_wp2
 go_loopw [5,6,7] (fun ov kv _ wr=>∃ k:Nat,∃ lv:Value,k<=nBlk S B/\kv=O I k/\lv=ov/\Hid (AllI w wr #[O I n,O I d,O I B,O I c3,O I c4,O I c5,O I c6,O I c7] lv k (frsL d n F S B k))) (fun _ kv _ _=>nBlk S B - (intOf kv).toNat)
 case atStart=>exact ⟨0,.slice none 0 0,zJ _,rfl,rfl,Bx.new _ _ _,World.ownsRow_nil _ _ _ _,zX.alloc zY _,by simp⟩
 case round =>
  obtain ⟨k,lv,hk,rfl,e,HR⟩:=hrel;subst e;have HBW:=zZ HR.out.below;have hS3:=HR.out.cfg.cfS ((HR.out.below.cell (p:=⟨b,off,none⟩) hbl).trans hc0);unfold CfS at hS3;have hkb:k * B<=9600:=by
   have h1:k * B<=300 * 32:=Nat.mul_le_mul (by have:=HNB.out;omega) hB2;omega
  have e1:(k:Int) * (B:Int)=((k * B:Nat):Int):=by simp
  have w1:I.wrap ((k:Int) * (B:Int))=((k * B:Nat):Int):=by rw [zK,e1];omega
  clear e1
  by_cases hlt:k < nBlk S B
  . have hq:=(HNL.out k).1 hlt
    have HSL1:=zZ (fun (u:World) (hu:Below w.heap.size w u)=>HSL.out u hu k hlt);have HFR1:Hid (∀ (u:World) (hu:Below w.heap.size w u) (g c:Nat) (hg:u.ownsRow w.heap.size 30 1 (.slice (some ⟨g,0,none⟩) n c) n (blkL A C (k * B) (blkN S B k) n)),Calls prog 210 #[.agg #[O I n,O I d,O I B,O I c3,O I c4,O I c5,O I c6,O I c7],O I k,.slice (some ⟨g,0,none⟩) n c] u fun e w'=>e=.returned (.string (bs (frT d n F S B k)))/\Below u.heap.size u w'):=fun u hu g c hg=>HFR.out u hu k g c hlt hg
    have hbr:b < wr.heap.size:=zP hbl HBW.out.size;have HFL:=zZ (y4x d n F S B k);have hnb:=HNB.out;generalize bs (frT d n F S B k)=X at *;generalize blkN S B k=m at *;generalize k * B=q at *;have tq:decide ((q:Int) < (S:Int))=true:=zL zU;have hSa:=hS3;obtain ⟨-,-,-,xB,-,-,-,-,-,xL⟩:=hS3;go_wp2_with fail
    go_region
    clear xB xL;have hS4:w.heap.size < wr.drew.drew.heap.size/\wr.drew.drew.cell? ⟨w.heap.size,0,none⟩=some (O I n)/\wr.drew.drew.cell? ⟨w.heap.size,1,none⟩=some (O I d)/\wr.drew.drew.cell? ⟨w.heap.size,2,none⟩=some (O I B)/\wr.drew.drew.cell? ⟨w.heap.size,3,none⟩=some (O I c3)/\wr.drew.drew.cell? ⟨w.heap.size,4,none⟩=some (O I c4)/\wr.drew.drew.cell? ⟨w.heap.size,5,none⟩=some (O I c5)/\wr.drew.drew.cell? ⟨w.heap.size,6,none⟩=some (O I c6)/\wr.drew.drew.cell? ⟨w.heap.size,7,none⟩=some (O I c7)/\wr.drew.drew.cell? ⟨b,off,none⟩=some (.slice (A 0) S (C 0)):=hSa;clear hSa;go_wp2_with fail
    go_region_held3 (fun w'=>w.heap.size < w'.heap.size/\w'.cell? ⟨w.heap.size,0,none⟩=some (O I n)/\w'.cell? ⟨w.heap.size,1,none⟩=some (O I d)/\w'.cell? ⟨w.heap.size,2,none⟩=some (O I B)/\w'.cell? ⟨w.heap.size,3,none⟩=some (O I c3)/\w'.cell? ⟨w.heap.size,4,none⟩=some (O I c4)/\w'.cell? ⟨w.heap.size,5,none⟩=some (O I c5)/\w'.cell? ⟨w.heap.size,6,none⟩=some (O I c6)/\w'.cell? ⟨w.heap.size,7,none⟩=some (O I c7)/\w'.cell? ⟨b,off,none⟩=some (.slice (A 0) S (C 0)))
     (with_reducible assumption)
     (first
     | (go_at_call 211;refine (HSL1.out _ HBW.out.drew.drew).mono ?_;rintro e u1 ⟨kv,rfl,hown,hb1⟩;obtain ⟨gs,cs,rfl⟩:=y6l hown hn1;have HOW:=zZ (z4q hown (HBW.out.size));have hS5:=y1z hb1 hbr hS4;have HB1:Hid (Below wr.heap.size wr u1):=(⟨hb1.os,hb1.tape,hb1.output,hb1.size,hb1.block⟩:Below wr.heap.size wr u1);have hbr1:=zP hbr HB1.out.size;clear HSL1 hS4 hown hb1)
     | (go_at_call 210;refine (HFR1.out _ (HBW.out.trans (HB1.out.mono HBW.out.size)) _ _ HOW.out).mono ?_;rintro e u2 ⟨rfl,hb2⟩;have hS6:=y1z hb2 hbr1 hS5;have HB2:Hid (Below wr.heap.size wr u2):=HB1.out.trans (hb2.mono HB1.out.size);clear HFR1 hS5 hb2 HB1 HOW))
    have hA2:=HR.out.next HB2.out;obtain ⟨g',c',u3,hr,ho,hgr⟩:=z3b 104 9 (.string ⟨#[]⟩) 16 underlying104 y7S rfl u2 _ lv _ _ #[.string X] hA2.own (by simp) (by intro u hu;simp at hu;rw [hu];rfl) (by simp only [maxLen];simp;omega) (by simp;omega) hA2.size 104;have HA3:=zZ (hA2.grew ho hgr);have HAP:Hid (_=_):=hr;clear hA2 hr ho hgr hS6
    go_wp2_with (at_builtin;refine z0c rfl _ _ _ rfl _ _ _ rfl rfl HAP.out ?_;clear HAP)
    go_roundw
    case rel=>exact ⟨k+1,_,zU,zS,rfl,by rw [HFL.out];exact HA3.out⟩
    case measure=>simp [intOf];omega
  . have e:k=nBlk S B:=zU
    subst e;have hq:¬ nBlk S B * B < S:=fun h=>hlt ((HNL.out _).2 h)
    have HO:=zZ (z4q HR.out.own (Nat.le_succ _));generalize nBlk S B * B=q at *;have tq:decide ((q:Int) < (S:Int))=false:=zM zU;obtain ⟨-,-,-,xB,-,-,-,-,-,xL⟩:=hS3;go_wp2_with fail
    go_region
    go_wp2;go_ret;exact ⟨lv,rfl,HO.out,HBW.out.drew⟩
end Go.Proofs.YtlncjgnomhpjnabGreatDoor
