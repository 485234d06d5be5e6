import Derived.Test.YtlncjgnomhpjnabGreatDoorQC27
import Derived.Test.YtlncjgnomhpjnabGreatDoorQC16
import Derived.Test.YtlncjgnomhpjnabGreatDoorQC18
import Derived.Test.YtlncjgnomhpjnabGreatDoorQC24
import Derived.Deep.RegionHeld3
import Derived.Test.YtlncjgnomhpjnabGreatDoorQC0
namespace Go.Proofs.YtlncjgnomhpjnabGreatDoor
open Go.Value renaming int → O
open Go.IntKind renaming i64 → I
open Go.Proofs.Tryz (prog)
open Go.RowKit Go.Deep
set_option linter.unusedVariables false
theorem y6c (v k:Nat):inT v (k+1)=inT (v / 256) k ++ [inB v (k+1) k]:=by
 unfold inT;rw [List.range_succ,List.map_append]
 congr 1
 refine List.map_congr_left fun i hi=>?_
 have hik:i < k:=List.mem_range.1 hi;refine UInt8.toNat.inj ?_;rw [z7x,z7x,Nat.div_div_eq_div_mul,show k+1 - 1 - i=(k - 1 - i)+1 by omega,Nat.pow_succ,Nat.mul_comm]
theorem z0P:∀ (k v:Nat),v < 256 ^ k->valN (inT v k)=v
 | 0,v,h=>by
  have:v=0:=by simpa using h
  subst this;rfl
 | k+1,v,h=>by
  rw [y6c,z2Z,z0P k (v / 256) (by rw [Nat.pow_succ] at h;exact Nat.div_lt_of_lt_mul (by rw [Nat.mul_comm];exact h)),z7x];simp;omega
theorem y6d (l:List UInt8) (k:Nat) (h:l.length=k):inT (valN l) k=l:=by
 refine y1C k _ _ (z0a _ _) h ?_;refine z0P k _ ?_;have:=z5K l k (by omega)
 rwa [List.take_of_length_le (by omega)] at this
def fld (T:List UInt8) (a b:Nat):Nat:=valN (z0d T a b)
theorem y7i (T:List UInt8) (a b:Nat) (hab:a<=b) (hb:b<=T.length):fld T a b < 256 ^ (b - a):=by
 have:=z5K (z0d T a b) (b - a) (by rw [z0l _ _ _ hb hab];exact Nat.le_refl _)
 rwa [List.take_of_length_le (by rw [z0l _ _ _ hb hab];exact Nat.le_refl _)] at this
theorem z2f (T:List UInt8) (a b k:Nat) (hab:a<=b) (hb:b<=T.length) (hk:b - a=k):inT (fld T a b) k=z0d T a b:=y6d _ _ (by rw [z0l _ _ _ hb hab];exact hk)
def dWh (T:List UInt8):Nat:=fld T 2 3
def dCh (T:List UInt8):Nat:=fld T 3 4
def dDe (T:List UInt8):Nat:=fld T 4 5
def dBl (T:List UInt8):Nat:=fld T 5 6
def dRa (T:List UInt8):Nat:=fld T 6 8
def dSa (T:List UInt8):Nat:=fld T 8 10
def dSe (T:List UInt8):Nat:=fld T 10 11
def dLe (T:List UInt8):Nat:=fld T 11 13
def dMo (T:List UInt8):Nat:=fld T 13 15
def dSu (T:List UInt8):Nat:=fld T 15 19
def nPts (S B seek:Nat):Nat:=if seek=0 then 0 else nBlk (nBlk S B) seek
def dNp (T:List UInt8):Nat:=nPts (dSa T) (dBl T) (dSe T)
def dPts (T:List UInt8):List Nat:=(List.range (dNp T)).map fun k=>fld T (20+2 * k) (22+2 * k)
def dSz (T:List UInt8):Nat:=22+2 * dNp T
def dTx (T:List UInt8):List UInt8:=z0o (dWh T) (dCh T) (dDe T) (dBl T) (dRa T) (dSa T) (dSe T) (dLe T) (dMo T) (dSu T) (dPts T)
def HdP (T:List UInt8):Prop :=
 22<=T.length/\dWh T<=1/\infoB (dCh T) (dDe T) (dBl T) (dRa T) (dSe T) (dSa T)=true/\dSz T<=T.length/\dTx T=T.take (dSz T)/\(dWh T=0->dLe T=0/\dMo T=0/\dSu T=0/\∀ p ∈ dPts T,p=0)
theorem y0x (T:List UInt8) (h:19<=T.length):z0Z (dWh T) (dCh T) (dDe T) (dBl T) (dRa T) (dSa T) (dSe T) (dLe T) (dMo T) (dSu T)=[82,76] ++ z0d T 2 19:=by
 unfold z0Z dWh dCh dDe dBl dRa dSa dSe dLe dMo dSu;rw [z2f T 2 3 1 (by omega) (by omega) rfl,z2f T 3 4 1 (by omega) (by omega) rfl,z2f T 4 5 1 (by omega) (by omega) rfl,z2f T 5 6 1 (by omega) (by omega) rfl,z2f T 6 8 2 (by omega) (by omega) rfl,z2f T 8 10 2 (by omega) (by omega) rfl,z2f T 10 11 1 (by omega) (by omega) rfl,z2f T 11 13 2 (by omega) (by omega) rfl,z2f T 13 15 2 (by omega) (by omega) rfl,z2f T 15 19 4 (by omega) (by omega) rfl];have step:∀ a b c,a<=b->b<=c->z0d T a b ++ z0d T b c=z0d T a c:=fun a b c h1 h2=>by
  unfold z0d;rw [show c - a=(b - a)+(c - b) by omega,List.take_add,List.drop_drop,show a+(b - a)=b by omega]
 simp only [List.append_assoc];rw [step 13 15 19 (by omega) (by omega),step 11 13 19 (by omega) (by omega),step 10 11 19 (by omega) (by omega),step 8 10 19 (by omega) (by omega),step 6 8 19 (by omega) (by omega),step 5 6 19 (by omega) (by omega),step 4 5 19 (by omega) (by omega),step 3 4 19 (by omega) (by omega),step 2 3 19 (by omega) (by omega)]
theorem y2x (T:List UInt8) (a b c:Nat) (h1:a<=b) (h2:b<=c):z0d T a b ++ z0d T b c=z0d T a c:=by
 unfold z0d;rw [show c - a=(b - a)+(c - b) by omega,List.take_add,List.drop_drop,show a+(b - a)=b by omega]
theorem z9p (T:List UInt8):∀ k,20+2 * k<=T.length->ptsT ((List.range k).map fun k=>fld T (20+2 * k) (22+2 * k))=z0d T 20 (20+2 * k)
 | 0,_=>by simp [ptsT,z0d]
 | k+1,h=>by
  rw [List.range_succ,List.map_append,List.map_cons,List.map_nil,z9b,z9p T k (by omega),z2f T (20+2 * k) (22+2 * k) 2 (by omega) (by omega) (by omega),y2x T 20 (20+2 * k) (22+2 * k) (by omega) (by omega)]
  congr 1;omega
theorem y2y (T:List UInt8) (h:dSz T<=T.length):ptsT (dPts T)=z0d T 20 (dSz T - 2):=by
 unfold dPts;unfold dSz at h ⊢;rw [z9p T (dNp T) (by omega)]
 congr 1;omega
theorem z6i (T:List UInt8):(dPts T).length=dNp T:=by simp [dPts]
theorem z2C {α:Type} {T X Y:List α} {n k:Nat} (h:X ++ Y=T.take n) (hk:k=X.length) (hn:n<=T.length):T.take k=X:=by
 have hl:X.length+Y.length=n:=by
  have:=congrArg List.length h;rw [List.length_append,List.length_take] at this;omega
 have:=congrArg (List.take k) h;rw [List.take_take,Nat.min_eq_left (by omega),hk,List.take_left] at this;rw [hk];exact this.symm
theorem y4k (T:List UInt8) (h22:22<=T.length) (hsz:dSz T<=T.length):dTx T=T.take (dSz T)↔T.take 2=[82,76]/\seal8 (T.take 19)=T.take 20/\z0H (T.take (dSz T - 2))=T.take (dSz T):=by
 have hd:22<=dSz T:=by unfold dSz;omega
 have hF:=y0x T (by omega);have hP:=y2y T hsz;have hlp:(z0d T 20 (dSz T - 2)).length=dSz T - 22:=by rw [z0l _ _ _ (by omega) (by omega)];omega
 have hl2:(z0d T 2 19).length=17:=by rw [z0l _ _ _ (by omega) (by omega)]
 unfold dTx z0o;rw [hF,hP];constructor
 . intro h
   have h1:T.take (dSz T - 2)=seal8 ([82,76] ++ z0d T 2 19) ++ z0d T 20 (dSz T - 2):=by
    refine z2C (n:=dSz T) (Y:=inT (crc 16 98309 (seal8 ([82,76] ++ z0d T 2 19) ++ z0d T 20 (dSz T - 2))) 2) h ?_ hsz;rw [List.length_append,z0x,List.length_append,hl2,hlp];simp;omega
   have h2:T.take 20=seal8 ([82,76] ++ z0d T 2 19):=by
    refine z2C (n:=dSz T - 2) (Y:=z0d T 20 (dSz T - 2)) h1.symm ?_ (by omega);rw [z0x,List.length_append,hl2];rfl
   have h3:T.take 19=[82,76] ++ z0d T 2 19:=by
    refine z2C (n:=20) (Y:=inT (crc 8 263 ([82,76] ++ z0d T 2 19)) 1) h2.symm ?_ (by omega);rw [List.length_append,hl2];rfl
   have h4:T.take 2=[82,76]:=z2C (n:=19) (Y:=z0d T 2 19) h3.symm rfl (by omega);refine ⟨h4,by rw [h3,h2],by rw [h1];exact h⟩
 . rintro ⟨h1,h2,h3⟩
   have h4:T.take 19=[82,76] ++ z0d T 2 19:=by rw [z7b T 2 19 (by omega) (by omega),h1]
   rw [← h4,h2,← z7b T 20 (dSz T - 2) (by omega) (by omega)];exact h3
set_option maxHeartbeats 1000000 in
theorem z6j (c0 c1:Int) (B c3 seek S:Nat) (w:World) (hB:1<=B) (hB2:B<=100000) (hS:S<=100000) (hk:seek<=100000) :
 Calls prog 134 #[.agg #[O I c0,O I c1,O I B,O I c3,O I seek,O I S]] w fun e w'=>e=.returned (O I (nPts S B seek))/\Below w.heap.size w w':=by
 have HB0:Hid (Below w.heap.size w (w.alloc (.cells #[O I c0,O I c1,O I B,O I c3,O I seek,O I S] 39))):=zX.alloc zY _
 by_cases h0:seek=0
 . subst h0
   rw [show nPts S B 0=0 from rfl]
   go_enter Tryz.func134,Tryz.ntmps134
   go_wp2_with fail;go_ret;exact ⟨rfl,HB0.out⟩
 . rw [show nPts S B seek=nBlk (nBlk S B) seek by unfold nPts;rw [if_neg h0]]
   have t0:((seek:Int) == 0)=false:=by simp;omega
   have hle:=z1a (S:=S) hB;have H1:=zZ (fun u=>z2q S B u hB hB2 hS);have H2:=zZ (fun u=>z2q (nBlk S B) seek u (by omega) (by omega) (by omega));generalize nBlk (nBlk S B) seek=N2 at *;generalize nBlk S B=N1 at *;have hS0:(w.alloc (.cells #[O I c0,O I c1,O I B,O I c3,O I seek,O I S] 39)).drew.cell? ⟨w.heap.size,5,none⟩=some (O I S)/\(w.alloc (.cells #[O I c0,O I c1,O I B,O I c3,O I seek,O I S] 39)).drew.cell? ⟨w.heap.size,2,none⟩=some (O I B)/\(w.alloc (.cells #[O I c0,O I c1,O I B,O I c3,O I seek,O I S] 39)).drew.cell? ⟨w.heap.size,4,none⟩=some (O I seek):=⟨(Bx.new w _ _).cell 5,(Bx.new w _ _).cell 2,(Bx.new w _ _).cell 4⟩
   go_enter Tryz.func134,Tryz.ntmps134
   go_wp2_with fail
   go_region_held3 (fun w'=>w'.cell? ⟨w.heap.size,5,none⟩=some (O I S)/\w'.cell? ⟨w.heap.size,2,none⟩=some (O I B)/\w'.cell? ⟨w.heap.size,4,none⟩=some (O I seek))
    (with_reducible assumption)
    (first
    | (go_at_call 62;refine (H1.out _).mono ?_;rintro e u2 ⟨rfl,hw⟩;subst u2;clear H1)
    | (go_at_call 62;refine (H2.out _).mono ?_;rintro e u2 ⟨rfl,hw⟩;subst u2;clear H2))
   go_wp2;go_ret;exact ⟨rfl,HB0.out.drew⟩
set_option maxRecDepth 4000 in
set_option maxHeartbeats 2000000 in
theorem z6D (T:List UInt8) (N:Nat) (w:World) (hT:T.length=2 * N) (hN:N<=4000) :
 Calls prog 137 #[.string (bs T)] w fun e w'=>∃ v,e=.returned v/\w'.ownsRow w.heap.size 3 1 v N ((List.range N).map fun k=>Value.int .i64 ((fld T (2 * k) (2 * k+2):Nat):Int))/\Below w.heap.size w w':=by
 have hz:(bs T).size=2 * N:=by rw [z0e,hT]
 have HV:Hid (∀ k,k < N->∀ u,Calls prog 203 #[.string (bs (z0d T (2 * k) (2 * k+2)))] u fun e w'=>e=.returned (O I (fld T (2 * k) (2 * k+2)))/\w'=u):=fun k hk u=>z2p (z0d T (2 * k) (2 * k+2)) u (by rw [z0l _ _ _ (by omega) (by omega)];omega)
 have HC:Hid (∀ k,(bs T).extract (2 * k) (2 * k+2)=bs (z0d T (2 * k) (2 * k+2))):=fun k=>z2e T _ _
 have HF:Hid (∀ k,k < N->fld T (2 * k) (2 * k+2) < 65536):=fun k hk=>by
  have:=y7i T (2 * k) (2 * k+2) (by omega) (by omega);rw [show 2 * k+2 - 2 * k=2 by omega] at this;exact this
 go_enter Tryz.func137,Tryz.ntmps137
 go_wp2
 go_loopw [3,4] (fun lv iv wr=>∃ k:Nat,∃ ov:Value,k<=N/\iv=O I ((2 * k:Nat):Int)/\ov=lv/\Hid (wr.ownsRow w.heap.size 3 1 ov k ((List.range k).map fun k=>Value.int .i64 ((fld T (2 * k) (2 * k+2):Nat):Int))/\Below w.heap.size w wr)) (fun _ iv _=>2 * N - (intOf iv).toNat)
 case atStart=>exact ⟨0,.slice none 0 0,Nat.zero_le _,rfl,rfl,World.ownsRow_nil _ _ _ _,Below.refl _ _⟩
 case round =>
  obtain ⟨k,kv,hk,rfl,e,HR⟩:=hrel;subst e
  by_cases hlt:k < N
  . have c1:((2 * k:Nat):Int) < ((2 * N:Nat):Int):=by omega
    have w2:IntKind.i64.wrap (((2 * k:Nat):Int)+2)=((2 * k+2:Nat):Int):=by rw [IntKind.wrap_i64];omega
    have c2:((2 * k:Nat):Int)<=((2 * k+2:Nat):Int):=by omega
    have c3:((2 * k+2:Nat):Int)<=((2 * N:Nat):Int):=by omega
    have hcut:=HC.out k;have HV1:=zZ (HV.out k hlt);have HRN:Hid ((List.range (k+1)).map (fun k=>Value.int .i64 ((fld T (2 * k) (2 * k+2):Nat):Int))=(List.range k).map (fun k=>Value.int .i64 ((fld T (2 * k) (2 * k+2):Nat):Int)) ++ [Value.int .i64 ((fld T (2 * k) (2 * k+2):Nat):Int)]):=by show _=_;rw [List.range_succ,List.map_append];rfl
    generalize hfv:fld T (2 * k) (2 * k+2)=fv at *;clear hfv;generalize bs (z0d T (2 * k) (2 * k+2))=PS at *;have HK2:Hid (((2 * k+2:Nat):Int)=((2 * (k+1):Nat):Int)):=by show _=_;omega
    have hBW:=HR.out.2.size;obtain ⟨g',c',u4,hr,ho,hgr⟩:=z1A 30 3 (O I 0) 8 Tryz.underlying30 z1j rfl wr _ kv _ _ #[O I (fv:Int)] HR.out.1 (by simp) (by intro u hu;simp at hu;rw [hu];rfl) (by simp only [maxLen];simp;omega) (by simp;omega) hBW 30;have HE4:Hid (u4.ownsRow w.heap.size 3 1 (.slice (some ⟨g',0,none⟩) (k+1) c') (k+1) ((List.range (k+1)).map fun k=>Value.int .i64 ((fld T (2 * k) (2 * k+2):Nat):Int))/\Below w.heap.size w u4):=⟨by rw [HRN.out];exact ho,HR.out.2.grown hgr HR.out.2.size (fun j hj=>(HR.out.1.lt j hj).1)⟩;have HAP:Hid (_=_):=hr;clear hr ho hgr
    go_wp2_with (first
     | (go_at_call 203;refine (HV1.out _).mono ?_;rintro e u2 ⟨rfl,hw⟩;subst u2;clear HV1)
     | (at_builtin;refine z0k rfl _ _ _ rfl _ _ _ rfl rfl HAP.out ?_;clear HAP))
    go_roundw
    case rel=>exact ⟨k+1,_,by omega,by go_num,rfl,HE4.out⟩
    case measure=>simp [intOf];omega
  . have e:k=N:=by omega
    subst e;obtain ⟨a,c,hkv⟩:∃ a c,kv=.slice a k c:=z1S HR.out.1;subst hkv;go_wp2;go_ret;exact ⟨_,rfl,HR.out.1,HR.out.2⟩
end Go.Proofs.YtlncjgnomhpjnabGreatDoor
