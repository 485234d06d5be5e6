import Derived.Test.YtlncjgnomhpjnabGreatDoorQC28
import Derived.Test.YtlncjgnomhpjnabGreatDoorQC29
import Derived.Test.YtlncjgnomhpjnabGreatDoorQC1
import Derived.ArgAppend
import Derived.Deep.OwnRows
import Derived.Test.YtlncjgnomhpjnabGreatDoorQC23
import Derived.Test.YtlncjgnomhpjnabGreatDoorQC0
namespace Go.Proofs.YtlncjgnomhpjnabGreatDoor
open Go.Value renaming int → O
open Go.IntKind renaming i64 → I
open Go.Proofs.Tryz (prog)
open Go.RowKit Go.Deep
set_option linter.unusedVariables false
theorem z0c (A B:List UInt8) (a b:Nat) (hab:a<=b) (hb:b<=A.length):z0d (A ++ B) a b=z0d A a b:=by
 unfold z0d;rw [List.drop_append_of_le_length (by omega),List.take_append_of_le_length (by rw [List.length_drop];omega)]
theorem z0q (A B:List UInt8) (a b:Nat) (ha:A.length<=a):z0d (A ++ B) a b=z0d B (a - A.length) (b - A.length):=by
 unfold z0d;rw [List.drop_append,List.drop_eq_nil_of_le ha,List.nil_append]
 congr 1;omega
theorem z0r (A:List UInt8) (b:Nat) (hb:b=A.length):z0d A 0 b=A:=by
 unfold z0d;rw [List.drop_zero];exact List.take_of_length_le (by omega)
theorem z3q (T:List UInt8) (n a b:Nat) (hb:b<=n):z0d (T.take n) a b=z0d T a b:=by
 unfold z0d;rw [List.drop_take,List.take_take,Nat.min_eq_left (by omega)]
theorem z7c (wh c0 c1 c2 c3 s c4 le mo su:Nat) (ps:List Nat) (hle:le < 65536) (hmo:mo < 65536) (hsu:su < 4294967296) :
 fld (z0o wh c0 c1 c2 c3 s c4 le mo su ps) 11 13=le/\fld (z0o wh c0 c1 c2 c3 s c4 le mo su ps) 13 15=mo/\fld (z0o wh c0 c1 c2 c3 s c4 le mo su ps) 15 19=su:=by
 have hF:∀ a b,a<=b->b<=19->z0d (z0o wh c0 c1 c2 c3 s c4 le mo su ps) a b=z0d (z0Z wh c0 c1 c2 c3 s c4 le mo su) a b:=fun a b h1 h2=>by
  have hl:=z0R wh c0 c1 c2 c3 s c4 le mo su;unfold z0o z0H;rw [z0c _ _ a b h1 (by rw [List.length_append,z0x];omega),z0c _ _ a b h1 (by rw [z0x];omega)];unfold seal8;rw [z0c _ _ a b h1 (by omega)]
 have hA:([82,76] ++ inT wh 1 ++ inT c0 1 ++ inT c1 1 ++ inT c2 1 ++ inT c3 2 ++ inT s 2 ++ inT c4 1:List UInt8).length=11:=by simp [z0a]
 unfold fld;rw [hF 11 13 (by omega) (by omega),hF 13 15 (by omega) (by omega),hF 15 19 (by omega) (by omega)];unfold z0Z;refine ⟨?_,?_,?_⟩
 . rw [z0c _ _ 11 13 (by omega) (by simp [z0a]),z0c _ _ 11 13 (by omega) (by simp [z0a]),z0q _ _ 11 13 (by simp [z0a]),hA,z0r _ _ (by rw [z0a]),z0P 2 le (by omega)]
 . rw [z0c _ _ 13 15 (by omega) (by simp [z0a]),z0q _ _ 13 15 (by simp [z0a]),List.length_append,hA,z0a,z0r _ _ (by rw [z0a]),z0P 2 mo (by omega)]
 . rw [z0q _ _ 15 19 (by simp [z0a]),List.length_append,List.length_append,hA,z0a,z0a,z0r _ _ (by rw [z0a]),z0P 4 su (by omega)]
theorem y4m (b:List Nat):∀ t,b.foldl (fun t p=>t ++ inT p 2) t=t ++ ptsT b:=by
 induction b with
 | nil=>intro t;simp [ptsT]
 | cons x r ih =>
  intro t;have e:ptsT (x :: r)=inT x 2 ++ ptsT r:=by
   show List.foldl _ ([] ++ inT x 2) r=_
   rw [ih];simp
  rw [List.foldl_cons,ih,e,List.append_assoc]
theorem y6e (a b:List Nat):ptsT (a ++ b)=ptsT a ++ ptsT b:=by
 unfold ptsT;rw [List.foldl_append];exact y4m b _
theorem z9q (wh c0 c1 c2 c3 s c4 le mo su:Nat) (ps:List Nat) (k:Nat) (hk:k < ps.length) (hp:ps[k] < 65536):fld (z0o wh c0 c1 c2 c3 s c4 le mo su ps) (20+2 * k) (22+2 * k)=ps[k]:=by
 have hl:=z0R wh c0 c1 c2 c3 s c4 le mo su;have hpl:(ptsT ps).length=2 * ps.length:=by have:=z1z ps ps.length zY;rwa [List.take_length] at this
 have h8:(seal8 (z0Z wh c0 c1 c2 c3 s c4 le mo su)).length=20:=by rw [z0x,hl]
 unfold fld z0o z0H;rw [z0c _ _ _ _ (by omega) (by rw [List.length_append,h8,hpl];omega),z0q _ _ _ _ (by omega),h8,show 20+2 * k - 20=2 * k by omega,show 22+2 * k - 20=2 * k+2 by omega];have e:ptsT ps=ptsT (ps.take k) ++ (inT ps[k] 2 ++ ptsT (ps.drop (k+1))):=by
  rw [← List.append_assoc,← z5W ps k hk,← y6e,List.take_append_drop]
 have hlk:=z1z ps k (by omega);rw [e,z0q _ _ _ _ (by omega),hlk,Nat.sub_self,show 2 * k+2 - 2 * k=2 by omega,z0c _ _ _ _ (by omega) (by rw [z0a];exact Nat.le_refl _),z0r _ _ (by rw [z0a]),z0P 2 _ (by omega)]
theorem z9r (T:List UInt8) (hw:dWh T=0) (hsz:dSz T<=T.length) (hTx:dTx T=T.take (dSz T)) :
 T.take (dSz T)=z0o 0 (dCh T) (dDe T) (dBl T) (dRa T) (dSa T) (dSe T) 0 0 0 (List.replicate (dNp T) 0)↔dLe T=0/\dMo T=0/\dSu T=0/\∀ p ∈ dPts T,p=0:=by
 have hd:22<=dSz T:=by unfold dSz;omega
 constructor
 . intro h
   have hf:=z7c 0 (dCh T) (dDe T) (dBl T) (dRa T) (dSa T) (dSe T) 0 0 0 (List.replicate (dNp T) 0) (by omega) (by omega) (by omega);rw [← h] at hf;unfold fld at hf;rw [z3q _ _ _ _ (by omega),z3q _ _ _ _ (by omega),z3q _ _ _ _ (by omega)] at hf;refine ⟨hf.1,hf.2.1,hf.2.2,fun p hp=>?_⟩;unfold dPts at hp;obtain ⟨k,hk,rfl⟩:=List.mem_map.1 hp;have hk:=List.mem_range.1 hk;have h1:=z9q 0 (dCh T) (dDe T) (dBl T) (dRa T) (dSa T) (dSe T) 0 0 0 (List.replicate (dNp T) 0) k (by simpa using hk) (by simp);rw [← h] at h1;unfold fld at h1;rw [z3q _ _ _ _ (by unfold dSz;omega)] at h1
   simpa [fld] using h1
 . rintro ⟨h1,h2,h3,h4⟩
   have hp:dPts T=List.replicate (dNp T) 0:=by
    rw [List.eq_replicate_iff];exact ⟨z6i T,h4⟩
   rw [← hTx];unfold dTx;rw [hw,h1,h2,h3,hp]
theorem y4n (T:List UInt8):HdP T↔(20<=T.length/\seal8 (T.take 19)=T.take 20)/\(T.take 2=[82,76]/\dWh T<=1/\infoB (dCh T) (dDe T) (dBl T) (dRa T) (dSe T) (dSa T)=true)/\(dSz T<=T.length/\z0H (T.take (dSz T - 2))=T.take (dSz T))/\(dWh T=0->T.take (dSz T)=z0o 0 (dCh T) (dDe T) (dBl T) (dRa T) (dSa T) (dSe T) 0 0 0 (List.replicate (dNp T) 0)):=by
 have hd:22<=dSz T:=by unfold dSz;omega
 constructor
 . rintro ⟨h1,h2,h3,h4,h5,h6⟩
   obtain ⟨g1,g2,g3⟩:=(y4k T h1 h4).1 h5;exact ⟨⟨by omega,g2⟩,⟨g1,h2,h3⟩,⟨h4,g3⟩,fun hw=>(z9r T hw h4 h5).2 (h6 hw)⟩
 . rintro ⟨⟨h1,h2⟩,⟨h3,h4,h5⟩,⟨h6,h7⟩,h8⟩
   have hTx:=(y4k T (by omega) h6).2 ⟨h3,h2,h7⟩;exact ⟨by omega,h4,h5,h6,hTx,fun hw=>(z9r T hw h6 hTx).1 (h8 hw)⟩
theorem z1F {a b c:World} {r:Option Nat} (h:a.grownBy b r) (k:b.grownBy c r):a.grownBy c r :=
 ⟨k.os.trans h.os,k.tape.trans h.tape,k.output.trans h.output,Nat.le_trans h.size k.size,fun j hj hne=>(k.block j (Nat.lt_of_lt_of_le hj h.size) hne).trans (h.block j hj hne)⟩
theorem z3e (w:World) (a:Addr) (v:Value):w.grownBy (w.setCell a v) (some a.block) :=
 ⟨rfl,rfl,rfl,by simp,fun j hj hne=>blk_setCell_other _ _ _ _ (fun e=>hne (by rw [e]))⟩
def LstE (e:TypeId) (w:World) (v:Value) (n:Nat) (og:Option Nat) (x:Nat->Value):Prop :=
 (v=.slice none 0 0/\n=0/\og=none)∨∃ g o c N f,og=some g/\v=.slice (some ⟨g,o,none⟩) n c/\w.rowIs g e N f/\o+c<=N/\n<=c/\∀ i,i < n->f (o+i)=x i
theorem LstE.row {e:TypeId} {w:World} {v:Value} {n:Nat} {og:Option Nat} {x:Nat->Value} (h:LstE e w v n og x) {g:Nat} (hg:og=some g):∃ N f,w.rowIs g e N f:=by
 rcases h with ⟨-,-,e⟩ | ⟨g',o,c,N,f,e,-,hr,-⟩
 . rw [e] at hg;cases hg
 . rw [hg] at e;injection e with e;subst e;exact ⟨N,f,hr⟩
theorem Bx.fz {u:World} {q:Nat} {t:TypeId} {cs:Array Value} (h:Bx u q t cs) (i:Nat):u.frozen? ⟨q,i,none⟩=false:=by
 simp [World.frozen?,show u.heap[q]?=_ from h]
theorem z7U {u:World} {p q:Nat} {c0 c1:Int} {B c3 seek S:Nat} (hI:Bx u p 39 #[O I c0,O I c1,O I B,O I c3,O I seek,O I S]) (hZ:Bx u q 110 #[O I 0,O I 0,O I 0,O I 0,O I 0,O I 0,.bool false,O I 0,O I 0,O I 0,.slice none 0 0]):u.cell? ⟨p,0,none⟩=some (O I c0)/\u.cell? ⟨p,1,none⟩=some (O I c1)/\u.cell? ⟨p,2,none⟩=some (O I (B:Int))/\u.cell? ⟨p,3,none⟩=some (O I (c3:Int))/\u.cell? ⟨p,4,none⟩=some (O I (seek:Int))/\u.cell? ⟨p,5,none⟩=some (O I (S:Int))/\u.cell? ⟨q,0,none⟩=some (O I 0)/\u.cell? ⟨q,1,none⟩=some (O I 0)/\u.cell? ⟨q,2,none⟩=some (O I 0)/\u.cell? ⟨q,3,none⟩=some (O I 0)/\u.cell? ⟨q,4,none⟩=some (O I 0)/\u.cell? ⟨q,5,none⟩=some (O I 0)/\u.cell? ⟨q,6,none⟩=some (.bool false)/\u.cell? ⟨q,7,none⟩=some (O I 0)/\u.cell? ⟨q,8,none⟩=some (O I 0)/\u.cell? ⟨q,9,none⟩=some (O I 0)/\u.cell? ⟨q,10,none⟩=some (.slice none 0 0)/\u.frozen? ⟨q,0,none⟩=false/\u.frozen? ⟨q,1,none⟩=false/\u.frozen? ⟨q,2,none⟩=false/\u.frozen? ⟨q,3,none⟩=false/\u.frozen? ⟨q,4,none⟩=false/\u.frozen? ⟨q,5,none⟩=false/\u.frozen? ⟨q,6,none⟩=false/\u.frozen? ⟨q,7,none⟩=false/\u.frozen? ⟨q,8,none⟩=false/\u.frozen? ⟨q,9,none⟩=false/\u.frozen? ⟨q,10,none⟩=false :=
 ⟨hI.cell 0,hI.cell 1,hI.cell 2,hI.cell 3,hI.cell 4,hI.cell 5,hZ.cell 0,hZ.cell 1,hZ.cell 2,hZ.cell 3,hZ.cell 4,hZ.cell 5,hZ.cell 6,hZ.cell 7,hZ.cell 8,hZ.cell 9,hZ.cell 10,hZ.fz 0,hZ.fz 1,hZ.fz 2,hZ.fz 3,hZ.fz 4,hZ.fz 5,hZ.fz 6,hZ.fz 7,hZ.fz 8,hZ.fz 9,hZ.fz 10⟩
theorem Bx.set11 {u:World} {q:Nat} {t:TypeId} {o0 o1 o2 o3 o4 o5 o6 o7 o8 o9 o10:Value} (h:Bx u q t #[o0,o1,o2,o3,o4,o5,o6,o7,o8,o9,o10]) (s0 s1 s2 s3 s4 s5 s6 s7 s8 s9 s10:Value):Bx ((((((((((((u.setCell ⟨q,0,none⟩ s0).setCell ⟨q,1,none⟩ s1).setCell ⟨q,2,none⟩ s2).setCell ⟨q,3,none⟩ s3).setCell ⟨q,4,none⟩ s4).setCell ⟨q,5,none⟩ s5).setCell ⟨q,6,none⟩ s6).setCell ⟨q,7,none⟩ s7).setCell ⟨q,8,none⟩ s8).setCell ⟨q,9,none⟩ s9).setCell ⟨q,10,none⟩ s10)) q t #[s0,s1,s2,s3,s4,s5,s6,s7,s8,s9,s10]:=by
 simp [Bx,World.setCell,Array.getElem?_modify,show u.heap[q]?=_ from h]
theorem y0y {B q:Nat} {w u:World} {s0 s1 s2 s3 s4 s5 s6 s7 s8 s9 s10:Value} (h:Below B w u) (hq:B<=q):Below B w ((((((((((((u.setCell ⟨q,0,none⟩ s0).setCell ⟨q,1,none⟩ s1).setCell ⟨q,2,none⟩ s2).setCell ⟨q,3,none⟩ s3).setCell ⟨q,4,none⟩ s4).setCell ⟨q,5,none⟩ s5).setCell ⟨q,6,none⟩ s6).setCell ⟨q,7,none⟩ s7).setCell ⟨q,8,none⟩ s8).setCell ⟨q,9,none⟩ s9).setCell ⟨q,10,none⟩ s10)) :=
 ((((((((((h.setCell (p:=⟨q,0,none⟩) hq _).setCell (p:=⟨q,1,none⟩) hq _).setCell (p:=⟨q,2,none⟩) hq _).setCell (p:=⟨q,3,none⟩) hq _).setCell (p:=⟨q,4,none⟩) hq _).setCell (p:=⟨q,5,none⟩) hq _).setCell (p:=⟨q,6,none⟩) hq _).setCell (p:=⟨q,7,none⟩) hq _).setCell (p:=⟨q,8,none⟩) hq _).setCell (p:=⟨q,9,none⟩) hq _).setCell (p:=⟨q,10,none⟩) hq _
theorem y6f {q:Nat} (u:World) (s0 s1 s2 s3 s4 s5 s6 s7 s8 s9 s10:Value):u.grownBy ((((((((((((u.setCell ⟨q,0,none⟩ s0).setCell ⟨q,1,none⟩ s1).setCell ⟨q,2,none⟩ s2).setCell ⟨q,3,none⟩ s3).setCell ⟨q,4,none⟩ s4).setCell ⟨q,5,none⟩ s5).setCell ⟨q,6,none⟩ s6).setCell ⟨q,7,none⟩ s7).setCell ⟨q,8,none⟩ s8).setCell ⟨q,9,none⟩ s9).setCell ⟨q,10,none⟩ s10)) (some q) :=
 z1F (z1F (z1F (z1F (z1F (z1F (z1F (z1F (z1F (z1F (z3e _ ⟨q,0,none⟩ _) (z3e _ ⟨q,1,none⟩ _)) (z3e _ ⟨q,2,none⟩ _)) (z3e _ ⟨q,3,none⟩ _)) (z3e _ ⟨q,4,none⟩ _)) (z3e _ ⟨q,5,none⟩ _)) (z3e _ ⟨q,6,none⟩ _)) (z3e _ ⟨q,7,none⟩ _)) (z3e _ ⟨q,8,none⟩ _)) (z3e _ ⟨q,9,none⟩ _)) (z3e _ ⟨q,10,none⟩ _)
theorem y8t (tmps:Array Value) (R:Nat) (cs:Array Value) (W:World) (h:Bx W R 110 cs) (hs:cs.size=11) (h2:tmps.getD 2 undef=.pointer (some ⟨R,0,none⟩)) :
 (results Tryz.f136 tmps).run prog W=.ok (.agg cs) W:=by
 have hl:=run_loadVar_row (P:=prog) W R 110 110 cs (0,0) _ h Tryz.underlying110 rfl (by rw [hs];exact z1s);rw [Array.getD_eq_getD_getElem?] at h2;simp [results,Tryz.results136,asAddr,h2,hl]
set_option maxRecDepth 4000 in
set_option maxHeartbeats 2000000 in
theorem z3x (c0 c1:Int) (B c3 seek S:Nat) (w:World) (hB:1<=B) (hB2:B<=100000) (hS:S<=300) (hk:seek<=100000) :
 Calls prog 136 #[.agg #[O I c0,O I c1,O I B,O I c3,O I seek,O I S]] w fun e w'=>∃ g,e=.returned (.agg (hdC c0 c1 B c3 seek S false 0 0 0 (.slice (some ⟨g,0,none⟩) (nPts S B seek) (nPts S B seek))))/\w'.rowIs g 3 (nPts S B seek) (fun _=>O I 0)/\Below w.heap.size w w':=by
 have HB0:Hid (Below w.heap.size w (w.alloc (.cells #[O I c0,O I c1,O I B,O I c3,O I seek,O I S] 39))):=zX.alloc zY _;have HPT:=zZ (fun u=>z6j c0 c1 B c3 seek S u hB hB2 (by omega) hk);have hN:nPts S B seek<=300:=by
  unfold nPts;split
  . omega
  . have h1:=z1a (S:=S) hB
    have h2:=z1a (S:=nBlk S B) (B:=seek) (by omega);omega
 generalize nPts S B seek=N at *;have hmk:=run_make_row' (P:=prog) 30 3 (O I 0) 8 Tryz.underlying30 z1j rfl .i64 .i64 N (by omega) (by omega)
 go_enter Tryz.func136,Tryz.ntmps136
 have hI0:Bx ((w.alloc (.cells #[O I c0,O I c1,O I B,O I c3,O I seek,O I S] 39)).alloc (.cells #[O I 0,O I 0,O I 0,O I 0,O I 0,O I 0,.bool false,O I 0,O I 0,O I 0,.slice none 0 0] 110)) w.heap.size 39 #[O I c0,O I c1,O I B,O I c3,O I seek,O I S]:=(Bx.new w _ _).alloc _;have hZ0:Bx ((w.alloc (.cells #[O I c0,O I c1,O I B,O I c3,O I seek,O I S] 39)).alloc (.cells #[O I 0,O I 0,O I 0,O I 0,O I 0,O I 0,.bool false,O I 0,O I 0,O I 0,.slice none 0 0] 110)) (w.heap.size+1) 110 #[O I 0,O I 0,O I 0,O I 0,O I 0,O I 0,.bool false,O I 0,O I 0,O I 0,.slice none 0 0]:=Bx.new2 (by simp) _ _;have HI0:=zZ hI0;have HZ0:=zZ hZ0;have HB9:Hid (Below w.heap.size w ((w.alloc (.cells #[O I c0,O I c1,O I B,O I c3,O I seek,O I S] 39)).alloc (.cells #[O I 0,O I 0,O I 0,O I 0,O I 0,O I 0,.bool false,O I 0,O I 0,O I 0,.slice none 0 0] 110))):=HB0.out.alloc HB0.out.size _;have hS0:=z7U (u:=((w.alloc (.cells #[O I c0,O I c1,O I B,O I c3,O I seek,O I S] 39)).alloc (.cells #[O I 0,O I 0,O I 0,O I 0,O I 0,O I 0,.bool false,O I 0,O I 0,O I 0,.slice none 0 0] 110)).drew) hI0 hZ0;clear hI0 hZ0;obtain ⟨x0,x1,x2,x3,x4,x5,x6,x7,x8,x9,x10,x11,x12,x13,x14,x15,x16,x17,x18,x19,x20,x21,x22,x23,x24,x25,x26,x27⟩:=hS0;go_wp2_with fail
 go_region_with (first | (go_at_call 134;refine (HPT.out _).mono ?_;rintro e u1 ⟨rfl,hb⟩;have hI1:Bx u1 w.heap.size 39 #[O I c0,O I c1,O I B,O I c3,O I seek,O I S]:=Bx.below (w:=((w.alloc (.cells #[O I c0,O I c1,O I B,O I c3,O I seek,O I S] 39)).alloc (.cells #[O I 0,O I 0,O I 0,O I 0,O I 0,O I 0,.bool false,O I 0,O I 0,O I 0,.slice none 0 0] 110)).drew) HI0.out hb;have hZ1:Bx u1 (w.heap.size+1) 110 #[O I 0,O I 0,O I 0,O I 0,O I 0,O I 0,.bool false,O I 0,O I 0,O I 0,.slice none 0 0]:=Bx.below (w:=((w.alloc (.cells #[O I c0,O I c1,O I B,O I c3,O I seek,O I S] 39)).alloc (.cells #[O I 0,O I 0,O I 0,O I 0,O I 0,O I 0,.bool false,O I 0,O I 0,O I 0,.slice none 0 0] 110)).drew) HZ0.out hb;have hS1:=z7U hI1 hZ1;have hS2:=z7U (hI1.alloc (.cells (madeCells #[O I 0] N) 3)) (hZ1.alloc (.cells (madeCells #[O I 0] N) 3));obtain ⟨y0,y1,y2,y3,y4,y5,y6,y7,y8,y9,y10,y11,y12,y13,y14,y15,y16,y17,y18,y19,y20,y21,y22,y23,y24,y25,y26,y27⟩:=hS1;obtain ⟨z0,z1,z2,z3,z4,z5,z6,z7,z8,z9,z10,z11,z12,z13,z14,z15,z16,z17,z18,z19,z20,z21,z22,z23,z24,z25,z26,z27⟩:=hS2;have HZ1:=zZ hZ1;have HB1:Hid (Below w.heap.size w u1):=HB9.out.drew.trans (hb.mono HB9.out.size);clear HPT hb hI1 hZ1 HI0 HZ0))
 all_goals
  (
   have hne:u1.heap.size ≠ w.heap.size+1:=by have:=HZ1.out.lt;omega
   have hrow:=(World.rowIs_made u1 (O I 0) N 3);go_wp2;refine bodyPost_ret (y8t _ (w.heap.size+1) _ _ ((HZ1.out.alloc _).set11 _ _ _ _ _ _ _ _ _ _ _) rfl rfl) rfl ⟨u1.heap.size,rfl,?_,y0y (HB1.out.alloc HB1.out.size _) (Nat.le_succ _)⟩;exact (hrow.congr fun i _=>rfl).of_block ((y6f _ _ _ _ _ _ _ _ _ _ _ _).block _ (by simp) (fun e=>hne (by injection e))))
def hd0:Value:=.agg (hdC 0 0 0 0 0 0 false 0 0 0 (.slice none 0 0))
def HdOut (e:Ending) (w w':World) (T:List UInt8):Prop :=
 (
  (HdP T/\∃ pv,e=.returned (.tuple #[.agg (hdC (dCh T) (dDe T) (dBl T) (dRa T) (dSe T) (dSa T) (decide (dWh T=1)) (dLe T) (dMo T) (dSu T) pv),O I (dSz T),.bool true])/\w'.ownsRow w.heap.size 3 1 pv (dNp T) (pntV (dPts T)))
  ∨ (¬ HdP T/\e=.returned (.tuple #[hd0,O I 0,.bool false])))/\Below w.heap.size w w'
theorem y8u (tmps:Array Value) (R:Nat) (k:Int) (b:Bool) (cs:Array Value) (W:World) (h:Bx W R 110 cs) (hs:cs.size=11) (h2:tmps.getD 2 undef=.pointer (some ⟨R,0,none⟩)) (h3:tmps.getD 3 undef=O I k) (h4:tmps.getD 4 undef=.bool b) :
 (results Tryz.f69 tmps).run prog W=.ok (.tuple #[.agg cs,O I k,.bool b]) W:=by
 have hl:=run_loadVar_row (P:=prog) W R 110 110 cs (0,0) _ h Tryz.underlying110 rfl (by rw [hs];exact z1s);rw [Array.getD_eq_getD_getElem?] at h2 h3 h4;simp [results,Tryz.results69,asAddr,h2,h3,h4,hl]
theorem y7O {w u:World} {g B:Nat} {pv:Value} {n:Nat} {xs:List Value} {cs:Array Value} (hZ:Bx u w.heap.size 110 cs) (ds:Array Value) (hB:Below w.heap.size w u) (hg:w.heap.size < g) (hBg:g < B) (ho:u.ownsRow B 3 1 pv n xs) :
 Bx ((u.setCell ⟨g,10,none⟩ pv).setRow w.heap.size ds) w.heap.size 110 ds/\((u.setCell ⟨g,10,none⟩ pv).setRow w.heap.size ds).ownsRow w.heap.size 3 1 pv n xs/\Below w.heap.size w ((u.setCell ⟨g,10,none⟩ pv).setRow w.heap.size ds):=by
 have hne:∀ k,k < B->pv.ownBlock ≠ some k:=fun k hk e=>by have:=(ho.lt k e).1;omega
 have hg1:=z0p u ⟨g,10,none⟩ pv;have hlt:=hZ.lt;have hZ1:Bx (u.setCell ⟨g,10,none⟩ pv) w.heap.size 110 cs:=hZ.of (hg1.block _ hlt (by simp;omega));have hB1:Below w.heap.size w (u.setCell ⟨g,10,none⟩ pv):=hB.setCell (p:=⟨g,10,none⟩) (by show w.heap.size<=g;omega) _;exact ⟨hZ1.row _,z4e ((ho.kept hg1 (.inr (hne _ hBg))).kept (z1L _ _ _) (.inr (hne _ (by omega)))) (by omega),hB1.grown (z1L _ _ _) hB1.size (fun j hj=>by injection hj with hj;omega)⟩
theorem y6g (T:List UInt8) (pe:Nat) (hpe:pe=20+2 * dNp T) (w:World) (hp:pe<=T.length) (hN:dNp T<=300) :
 Calls prog 137 #[.string (bs (z0d T 20 pe))] w fun e w'=>∃ v,e=.returned v/\w'.ownsRow w.heap.size 3 1 v (dNp T) (pntV (dPts T))/\Below w.heap.size w w':=by
 have h:=z6D (z0d T 20 pe) (dNp T) w (by rw [z0l _ _ _ hp (by omega)];omega) (by omega);have e:((List.range (dNp T)).map fun k=>Value.int .i64 ((fld (z0d T 20 pe) (2 * k) (2 * k+2):Nat):Int))=pntV (dPts T):=by
  unfold pntV dPts;rw [List.map_map];refine List.map_congr_left fun k hk=>?_
  have hk:k < dNp T:=List.mem_range.1 hk
  show Value.int .i64 _=Value.int .i64 _
  congr 2
  unfold fld z0d;rw [List.drop_take,List.take_take,List.drop_drop]
  congr 2
  omega
 rw [e] at h;exact h
end Go.Proofs.YtlncjgnomhpjnabGreatDoor
