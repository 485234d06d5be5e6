import Derived.Test.YtlncjgnomhpjnabGreatDoorQC16
import Derived.Test.YtlncjgnomhpjnabGreatDoorQC17
import Derived.Test.YtlncjgnomhpjnabGreatDoorQC14
import Derived.Deep.RegionHeld3
import Derived.Deep.DeepCutAuto
import Derived.Test.YtlncjgnomhpjnabGreatDoorQC0
namespace Go.Proofs.YtlncjgnomhpjnabGreatDoor
open Go.Value renaming int → O
open Go.IntKind renaming i64 → I
open Go.Proofs.Tryz (prog)
open Go.RowKit Go.Deep
set_option linter.unusedVariables false
theorem z2q (S B:Nat) (w:World) (hB:1<=B) (hB2:B<=100000) (hS:S<=100000) :
 Calls prog 62 #[O I S,O I B] w fun e w'=>e=.returned (O I (nBlk S B:Nat))/\w'=w:=by
 have hle:=z1a (S:=S) hB;have w1:IntKind.i64.wrap ((S:Int)+(B:Int))=(S:Int)+(B:Int):=by rw [IntKind.wrap_i64];omega
 have w2:IntKind.i64.wrap ((S:Int)+(B:Int) - 1)=(S:Int)+(B:Int) - 1:=by rw [IntKind.wrap_i64];omega
 have d0:((S:Int)+(B:Int) - 1) / (B:Int)=((nBlk S B:Nat):Int):=by
  rw [show (S:Int)+(B:Int) - 1=((S+B - 1:Nat):Int) by omega];rfl
 have d1:((S:Int)+(B:Int) - 1).tdiv (B:Int)=((nBlk S B:Nat):Int):=by
  rw [Int.tdiv_eq_ediv_of_nonneg (by omega)];exact d0
 have w3:IntKind.i64.wrap ((nBlk S B:Nat):Int)=((nBlk S B:Nat):Int):=by rw [IntKind.wrap_i64];omega
 have hz:((B:Int) == 0)=false:=by simp;omega
 have hz2:¬ (B:Int)=0:=by omega
 generalize nBlk S B=N at *
 go_enter Tryz.func62,Tryz.ntmps62
 go_wp2;go_ret;exact ⟨rfl,rfl⟩
theorem z1N (S B k:Nat) (w:World) (hk:k * B<=S) (hB2:B<=100000) (hS:S<=100000) :
 Calls prog 127 #[O I S,O I B,O I k] w fun e w'=>e=.returned (O I (blkN S B k:Nat))/\w'=w:=by
 have e1:(k:Int) * (B:Int)=((k * B:Nat):Int):=by simp
 have w1:IntKind.i64.wrap ((k:Int) * (B:Int))=((k * B:Nat):Int):=by rw [IntKind.wrap_i64,e1];omega
 have w2:IntKind.i64.wrap ((S:Int) - ((k * B:Nat):Int))=((S - k * B:Nat):Int):=by rw [IntKind.wrap_i64];omega
 have HM:Hid (((blkN S B k:Nat):Int)=min (B:Int) ((S - k * B:Nat):Int)):=by show _=_;unfold blkN;omega
 rw [HM.out];clear e1;generalize k * B=q at *;generalize S - q=r at *
 go_enter Tryz.func127,Tryz.ntmps127
 go_wp2;go_ret;exact ⟨rfl,rfl⟩
def bkOf:Option Addr->Nat
 | some x=>x.block
 | none=>0
def ofOf:Option Addr->Nat
 | some x=>x.off
 | none=>0
def blkA (A:Nat->Option Addr) (q i:Nat):Option Addr:=some ⟨bkOf (A i),ofOf (A i)+q,none⟩
theorem z5Z {w:World} {a:Option Addr} {n:Nat} {f:Nat->Int} (h:IntsAt w a n f) (hn:0 < n):a=some ⟨bkOf a,ofOf a,none⟩:=by
 obtain ⟨b,off,rfl,-⟩:=h.open hn
 rfl
theorem y1v {w:World} {A:Nat->Option Addr} {i n q m:Nat} {f:Nat->Int} (h:IntsAt w (A i) n f) (hm:q+m<=n):IntsAt w (blkA A q i) m (fun j=>f (q+j)):=fun j hj=>by
 obtain ⟨b,off,ha,hc⟩:=h.open (by omega);refine ⟨_,rfl,?_⟩;have:=hc (q+j) (by omega);rw [ha]
 show w.cell? (Addr.add ⟨b,off+q,none⟩ j)=_
 rw [show Addr.add ⟨b,off+q,none⟩ j=⟨b,off+(q+j),none⟩ by cases j <;> simp [Addr.add] <;> omega];exact this
def blkV (A:Nat->Option Addr) (C:Nat->Nat) (q m j i:Nat):Value:=if i < j then .slice (blkA A q i) m (C i - q) else .slice none 0 0
theorem y3U {wr:World} {g n q m j:Nat} {A:Nat->Option Addr} {C:Nat->Nat} (h:wr.rowIs g 30 n (blkV A C q m j)) :
 (wr.setCell ⟨g,j,none⟩ (.slice (blkA A q j) m (C j - q))).rowIs g 30 n (blkV A C q m (j+1)) :=
 (h.set j _).congr fun i _=>by
  unfold blkV
  by_cases e:i=j
  . rw [if_pos e,if_pos (by omega),e]
  . rw [if_neg e]
    by_cases e2:i < j
    . rw [if_pos e2,if_pos (by omega)]
    . rw [if_neg e2,if_neg (by omega)]
set_option maxHeartbeats 1000000 in
theorem z9c (a:Option Addr) (n cap:Nat) (A:Nat->Option Addr) (S:Nat) (C:Nat->Nat) (F:Nat->Nat->Int) (B k:Nat) (w:World) (hn1:1<=n) (hn4:n<=4) (hB:1<=B) (hB2:B<=32) (hS:S<=300) (hk:k < nBlk S B)
 (hA:ListsAt w a n A (fun _=>S) C) (hC:∀ i,i < n->S<=C i) (hI:∀ i,i < n->IntsAt w (A i) S (F i)) (hlow:Low w.heap.size a n A (fun _=>S)) :
 Calls prog 64 #[.slice a n cap,O I B,O I k] w fun e w' =>
  e=.returned (.slice (some ⟨w.heap.size,0,none⟩) n n)/\w'.rowIs w.heap.size 30 n (blkV A C (k * B) (blkN S B k) n)/\Below w.heap.size w w':=by
 have hbd:=z1r hB hk;have HAD:=zZ (fun i (hi:i < n)=>z5Z (hI i hi) (by omega));have HBS:=zZ (fun u=>z1N S B k u (by omega) (by omega) (by omega));have HC:=zZ hC;have hmk:=run_make_row' (P:=prog) 24 30 (.slice none 0 0) 24 Tryz.underlying24 z1E rfl .i64 .i64 n (by omega) (by omega);obtain ⟨b,off,rfl,hcell⟩:=hA.open (by omega);have HCL:=zZ hcell;have HBL:Hid (b < w.heap.size):=by
  have:=hlow.1 _ rfl (by omega:0 < n);exact this
 have e1:(k:Int) * (B:Int)=((k * B:Nat):Int):=by simp
 have w1:IntKind.i64.wrap ((k:Int) * (B:Int))=((k * B:Nat):Int):=by rw [IntKind.wrap_i64,e1];omega
 have hbl:=HBL.out;clear hA hI hlow hcell hC e1;generalize blkN S B k=m at *;generalize k * B=q at *;have w2:IntKind.i64.wrap ((q:Int)+(m:Int))=((q+m:Nat):Int):=by rw [IntKind.wrap_i64];omega
 have hb0:Below w.heap.size w (w.alloc (.cells (madeCells #[.slice none 0 0] n) 30)):=zX.alloc zY _;have HB0:=zZ hb0;clear hb0
 go_enter Tryz.func64,Tryz.ntmps64
 go_wp2;clear hmk
 go_loopw [8,9,10,16] (fun _ _ _ iv wr=>∃ i:Nat,i<=n/\iv=O I i/\Hid (wr.rowIs w.heap.size 30 n (blkV A C q m i)/\Below w.heap.size w wr)) (fun _ _ _ iv _=>n - (intOf iv).toNat)
 case atStart=>exact ⟨0,Nat.zero_le _,rfl,(World.rowIs_made w (.slice none 0 0) n 30).congr fun i _=>by unfold blkV;rw [if_neg (by omega)],HB0.out⟩
 case round =>
  obtain ⟨i,hi,rfl,HR⟩:=hrel
  by_cases hlt:i < n
  . have hcb:wr.cell? ⟨b,off+i,none⟩=some (.slice (some ⟨bkOf (A i),ofOf (A i),none⟩) S (C i)):=by
      have:=(HR.out.2.cell (p:=⟨b,off+i,none⟩) hbl).trans (HCL.out i hlt);rw [HAD.out i hlt] at this;exact this
    have hCi:=HC.out i hlt;have hc1:=HR.out.1.cell hlt;have hf1:=HR.out.1.frozen i;have HZ:=zZ (y3U HR.out.1);unfold blkA at HZ;generalize bkOf (A i)=gi at *;generalize ofOf (A i)=oi at *;generalize C i=ci at *;generalize blkV A C q m i i=old at *;have t1:(((q+m:Nat):Int) - (q:Int)).toNat=m:=by omega
    go_wp2_with (go_at_call 127;refine (HBS.out _).mono ?_;rintro e u1 ⟨rfl,hw⟩;subst u1)
    go_roundw
    case rel=>exact ⟨i+1,by omega,by go_num,HZ.out,HR.out.2.setCell zY _⟩
    case measure=>simp [intOf];omega
  . have e:i=n:=by omega
    subst e;go_wp2;go_ret;exact ⟨rfl,HR.out⟩
theorem z5g {w:World} {base:Nat} {t:TypeId} {v:Value} {n:Nat} {xs:List Value} (h:w.ownsRow base t 1 v n xs) (hn:1<=n):∃ g c,v=.slice (some ⟨g,0,none⟩) n c:=by
 rcases h.2 with ⟨-,h0⟩ | ⟨g,c,cur,e,-⟩
 . omega
 . exact ⟨g,c,e⟩
theorem y2r (l:List UInt8):((sumN l:Nat):Int).tmod 65536=((sA l % 65521:Nat):Int)/\((sumN l:Nat):Int).tdiv 65536=((sB l % 65521:Nat):Int)/\((sumN l:Nat):Int) % 65536=((sA l % 65521:Nat):Int)/\((sumN l:Nat):Int) / 65536=((sB l % 65521:Nat):Int):=by
 have h2:sA l % 65521 < 65521:=Nat.mod_lt _ (by decide);rw [Int.tmod_eq_emod_of_nonneg (by omega),Int.tdiv_eq_ediv_of_nonneg (by omega)];unfold sumN;omega
set_option maxHeartbeats 400000 in
theorem y3V (p T:List UInt8) (w:World) (hT:T.length<=2097152) :
 Calls prog 202 #[O I (sumN p:Nat),.string (bs T)] w fun e w'=>e=.returned (O I (sumN (p ++ T):Nat))/\w'=w:=by
 have hz:(bs T).size=T.length:=z0e T;have HG:Hid (∀ k (h:k < (bs T).size),(bs T)[k]=T[k]'(by rw [hz] at h;exact h)):=fun k h=>z2J T k h
 generalize bs T=S at *;obtain ⟨q1,q2,q3,q4⟩:=y2r p;have q5:=z7I p;generalize hN:sumN p=N0 at *;clear hN;have hA0:sA p % 65521 < 65521:=Nat.mod_lt _ (by decide);have hB0:sB p % 65521 < 65521:=Nat.mod_lt _ (by decide);have HA0:Hid (sA p % 65521=sA (p ++ T.take 0) % 65521/\sB p % 65521=sB (p ++ T.take 0) % 65521):=⟨by simp,by simp⟩;generalize sA p % 65521=A0 at *;generalize sB p % 65521=B0 at *
 go_enter Tryz.func202,Tryz.ntmps202
 go_wp2;clear q1 q2 q3 q4 q5 hA0 hB0
 go_loop [5,6,7,14] (fun a b _ i=>∃ k:Nat,k<=T.length/\i=O I k/\a=O I ((sA (p ++ T.take k) % 65521:Nat):Int)/\b=O I ((sB (p ++ T.take k) % 65521:Nat):Int)) (fun _ _ _ i=>T.length - (intOf i).toNat)
 case atStart=>exact ⟨0,Nat.zero_le _,rfl,by rw [HA0.out.1],by rw [HA0.out.2]⟩
 case round =>
  obtain ⟨k,hk,rfl,rfl,rfl⟩:=hrel
  by_cases hlt:k < T.length
  . have hkS:k < S.size:=by omega
    have hc:S[k].toNat < 256:=UInt8.toNat_lt _;have HE:Hid (p ++ T.take (k+1)=p ++ T.take k ++ [S[k]]):=by show _=_;rw [List.take_succ_eq_append_getElem hlt,HG.out k hkS,List.append_assoc]
    have HA:Hid (sA (p ++ T.take (k+1))=sA (p ++ T.take k)+S[k].toNat):=by
     show _=_;rw [HE.out,z7G]
    have HB:Hid (sB (p ++ T.take (k+1))=sB (p ++ T.take k)+(sA (p ++ T.take k)+S[k].toNat)):=by
     show _=_;rw [HE.out,y7J,z7G]
    clear HE;generalize sA (p ++ T.take k)=A at *;generalize sB (p ++ T.take k)=B at *;have h1:A % 65521 < 65521:=Nat.mod_lt _ (by decide);have h2:B % 65521 < 65521:=Nat.mod_lt _ (by decide);go_wp2
    go_round
    case rel=>exact ⟨k+1,by omega,by go_num,by rw [HA.out];go_num,by rw [HB.out];go_num⟩
    case measure=>simp [intOf];omega
  . have e:k=T.length:=by omega
    subst e;rw [List.take_length];have HN:Hid (((sumN (p ++ T):Nat):Int)=65536 * ((sB (p ++ T) % 65521:Nat):Int)+((sA (p ++ T) % 65521:Nat):Int)):=by show _=_;unfold sumN;omega
    have h1:sA (p ++ T) % 65521 < 65521:=Nat.mod_lt _ (by decide);have h2:sB (p ++ T) % 65521 < 65521:=Nat.mod_lt _ (by decide);generalize sA (p ++ T) % 65521=A at *;generalize sB (p ++ T) % 65521=B at *;go_wp2;go_ret;exact ⟨z0V HN.out.symm,rfl⟩
theorem y8o (v:Int):v % 256=((smpB v false).toNat:Int):=by
 have e:(smpB v false).toNat=(v % 65536).toNat % 256:=by
  show (UInt8.ofNat ((v % 65536).toNat % 256)).toNat=_
  rw [UInt8.toNat_ofNat'];omega
 rw [e];omega
theorem y8p (v:Int):v / 256 % 256=((smpB v true).toNat:Int):=by
 have e:(smpB v true).toNat=(v % 65536).toNat / 256:=by
  show (UInt8.ofNat ((v % 65536).toNat / 256)).toNat=_
  rw [UInt8.toNat_ofNat'];omega
 rw [e];omega
theorem y3W (n:Nat) (F:Nat->Nat->Int) (m:Nat):strOf (intB n F) m=bs (intT n F m):=rfl
theorem y3X (n:Nat) (F:Nat->Nat->Int) (i p m:Nat) (hi:i < n) (hm:m=2 * (p * n+i)):Lib.byteCells (intT n F m) ++ [Value.int .u8 (F i p % 256),Value.int .u8 (F i p / 256 % 256)]=Lib.byteCells (intT n F (m+2)):=by
 rw [hm,y5W n F i p hi,Lib.byteCells_append,y8o,y8p]
 rfl
theorem z2B (t e:TypeId) (z:Value) (bytes:Nat) (ht:prog.underlying t=some (.slice e)) (hinfo:(prog.info? e).map (fun i=>(i.zero,i.size,i.bytes))=some (some z,1,bytes)) (hz1:z.cells=#[z]) (c:Nat) (hb:bytes * c<=281474976710656) (h63:c<=9223372036854775807) (w:World) :
 (Instr.makeSlice t (O I 0) (O I (c:Int))).run prog w=.ok (.slice (some ⟨w.heap.size,0,none⟩) 0 c) (w.alloc (.cells (madeCells #[z] c) e)):=by
 obtain ⟨i,hi,hz0,hz2,hz3⟩:=info_parts hinfo;have h:(i.bytes:Int) * (c:Int)<=281474976710656:=by
  rw [hz3];have:((bytes * c:Nat):Int)<=281474976710656:=by omega
  rwa [Int.natCast_mul] at this
 have:=run_make (P:=prog) w t e i z ht hi hz0 .i64 .i64 0 c (Int.le_refl _) (by omega) h (by omega);rw [hz1,hz2] at this
 simpa using this
set_option maxHeartbeats 1000000 in
theorem z3w (p0:List UInt8) (a:Option Addr) (n cap:Nat) (A:Nat->Option Addr) (S:Nat) (C:Nat->Nat) (F:Nat->Nat->Int) (w:World) (hn1:1<=n) (hn4:n<=4) (hS:S<=300)
 (hA:ListsAt w a n A (fun _=>S) C) (hI:∀ i,i < n->IntsAt w (A i) S (F i)) (hlow:Low w.heap.size a n A (fun _=>S)) :
 Calls prog 131 #[O I (sumN p0:Nat),.slice a n cap] w fun e w'=>e=.returned (O I (sumN (p0 ++ intT n F (2 * (S * n))):Nat))/\Below w.heap.size w w':=by
 have HSO:=zZ (fun u=>y3V p0 (intT n F (2 * (S * n))) u (by rw [y0q];have:S * n<=300 * 4:=Nat.mul_le_mul hS hn4;omega));have hSn:S * n<=1200:=Nat.mul_le_mul hS hn4;have hmk:=z2B 33 5 (.int .u8 0) 1 Tryz.underlying33 infoByte rfl (2 * (n * S)) (by rw [Nat.mul_comm n S];omega) (by rw [Nat.mul_comm n S];omega);have e1:IntKind.i64.wrap (2 * (n:Int))=((2 * n:Nat):Int):=by rw [IntKind.wrap_i64];omega
 have e2:IntKind.i64.wrap (((2 * n:Nat):Int) * (S:Int))=((2 * (n * S):Nat):Int):=by
  have h1:((2 * n:Nat):Int) * (S:Int)=((2 * (n * S):Nat):Int):=by simp [Int.mul_assoc]
  have h2:n * S<=1200:=by rw [Nat.mul_comm];exact hSn
  rw [h1,IntKind.wrap_i64];omega
 have HI:=zZ hI;have HLOW:=zZ hlow;obtain ⟨b,off,rfl,hcell⟩:=hA.open (by omega);have HCL:=zZ hcell;have HBL:Hid (b < w.heap.size):=by
  have:=hlow.1 _ rfl (by omega:0 < n);exact this
 have hc0:=hcell 0 (by omega);simp only [Nat.add_zero] at hc0;clear hA hI hlow hcell;generalize hK:2 * (n * S)=K at *;have HK:=zZ hK;clear hK;generalize 2 * n=N2 at *;have hbl:=HBL.out;have HST:Hid (∀ (u:World) (g c:Nat),u.ownsRow w.heap.size 5 1 (.slice (some ⟨g,0,none⟩) (2 * (S * n)) c) (2 * (S * n)) (Lib.byteCells (intT n F (2 * (S * n))))->_):=fun u g c (h:u.ownsRow w.heap.size 5 1 (.slice (some ⟨g,0,none⟩) (2 * (S * n)) c) (2 * (S * n)) (Lib.byteCells (intT n F (2 * (S * n))))) =>
  z1P (P:=prog) u 33 9 5 g 0 (2 * (S * n)) c (intB n F) Tryz.underlying33 Tryz.underlying5 Tryz.underlying9 (fun i hi=>by
   have:=h.cells (g:=g) rfl i (.int .u8 (intB n F i).toNat) (by simp [Lib.byteCells,intT,List.getElem?_range hi]);rw [Addr.add_lit] at this;exact this)
 rw [y3W] at HST;generalize sumN p0=N0 at *
 go_enter Tryz.func131,Tryz.ntmps131
 go_wp2;clear hmk e1 e2 hc0
 go_loopw [5,6,8,9,23] (fun ov _ _ _ pv wr=>∃ p g c m:Nat,p<=S/\pv=O I p/\ov=.slice (some ⟨g,0,none⟩) m c/\Hid (m=2 * (p * n)/\wr.ownsRow w.heap.size 5 1 (.slice (some ⟨g,0,none⟩) m c) m (Lib.byteCells (intT n F m))/\Below w.heap.size w wr)) (fun _ _ _ _ pv _=>S - (intOf pv).toNat)
 case atStart =>
  refine ⟨0,w.heap.size,K,0,Nat.zero_le _,rfl,rfl,by simp,?_,zX.alloc zY _⟩;exact World.ownsRow_made w _ K zY (by have:=HK.out;rw [Nat.mul_comm n S] at this;simp only [maxLen];omega) (by simp [size_madeCells])
 case round =>
  obtain ⟨p,g,c,m,hp,rfl,rfl,HR⟩:=hrel
  by_cases hlt:p < S
  . go_wp2
    go_loopw [5,8,9,28] (fun ov _ _ iv wr=>∃ i g c m:Nat,i<=n/\iv=O I i/\ov=.slice (some ⟨g,0,none⟩) m c/\Hid (m=2 * (p * n+i)/\wr.ownsRow w.heap.size 5 1 (.slice (some ⟨g,0,none⟩) m c) m (Lib.byteCells (intT n F m))/\Below w.heap.size w wr)) (fun _ _ _ iv _=>n - (intOf iv).toNat)
    case atStart=>exact ⟨0,g,c,m,by omega,rfl,rfl,by have:=HR.out.1;omega,HR.out.2⟩
    case round =>
     clear HR;obtain ⟨i,g,c,m,hi,rfl,rfl,HR⟩:=hrel
     by_cases hin:i < n
     . obtain ⟨gi,oi,hAi,hci⟩:=(HI.out i hin).open (by omega)
       have hcb:wr.cell? ⟨b,off+i,none⟩=some (.slice (some ⟨gi,oi,none⟩) S (C i)):=by
        have:=(HR.out.2.2.cell (p:=⟨b,off+i,none⟩) hbl).trans (HCL.out i hin);rw [hAi] at this;exact this
       have hgl:gi < w.heap.size:=by have:=HLOW.out.2 i hin _ hAi (by show 0 < S;omega);exact this
       have hcv:wr.cell? ⟨gi,oi+p,none⟩=some (O I (F i p)):=(HR.out.2.2.cell (p:=⟨gi,oi+p,none⟩) hgl).trans (hci p hlt);have hpn:p * n+i<=1200:=by
        have h1:p * n<=299 * n:=Nat.mul_le_mul_right n (by omega);omega
       have hm2:=HR.out.1;obtain ⟨g',c',u',hr,ho,hg⟩:=z1A 33 5 (.int .u8 0) 1 Tryz.underlying33 infoByte rfl wr w.heap.size (.slice (some ⟨g,0,none⟩) m c) m _ #[.int .u8 (F i p % 256),.int .u8 (F i p / 256 % 256)] HR.out.2.1 (by simp) (by intro u hu;simp at hu;rcases hu with rfl | rfl <;> rfl) (by simp only [maxLen];simp;omega) (by simp;omega) HR.out.2.2.size 33;have HN:Hid (u'.ownsRow w.heap.size 5 1 (.slice (some ⟨g',0,none⟩) (m+2) c') (m+2) (Lib.byteCells (intT n F (m+2)))/\Below w.heap.size w u'):=by
        refine ⟨?_,HR.out.2.2.grown hg HR.out.2.2.size (fun k hk=>(HR.out.2.1.lt k hk).1)⟩;rw [← y3X n F i p m hin hm2];exact ho
       have HAP:Hid (_=_):=hr;generalize F i p=V at *;clear hci hr ho hg hpn;have HM2:=zZ hm2;clear hm2
       go_wp2_with (at_builtin;refine z0k rfl _ _ _ rfl _ _ _ rfl rfl HAP.out ?_;clear HAP)
       go_roundw
       case rel=>exact ⟨i+1,g',c',m+2,by omega,by go_num,rfl,by rw [HM2.out];omega,HN.out⟩
       case measure=>simp [intOf];omega
     . have e:i=n:=by omega
       subst e;go_wp2
       go_roundw
       case rel=>exact ⟨p+1,g,c,m,by omega,by go_num,rfl,by rw [HR.out.1,Nat.add_mul,Nat.one_mul],HR.out.2⟩
       case measure=>simp [intOf];omega
  . have e:p=S:=by omega
    subst e;obtain ⟨hm,ho,hb⟩:=HR.out;subst hm;have hcv:=HST.out wr g c ho;have HB:=zZ hb;clear ho hb HR HST;generalize bs (intT n F (2 * (p * n)))=T at *;generalize hm:2 * (p * n)=m at *;have HM:=zZ hm;clear hm
    go_wp2_with (go_at_call 202;refine (HSO.out _).mono ?_;rintro e u1 ⟨rfl,hw⟩;subst u1)
    go_ret;exact ⟨by rw [HM.out];rfl,HB.out⟩
theorem z9d {BT:List UInt8} {b:Nat->Bool} {o:Nat} (h:Bits (bs BT) b):Bits (bs (BT.drop o)) (shB b o):=by
 intro j hj;have h1:j < (BT.drop o).length:=by rw [z0e] at hj;exact hj
 have h2:o+j < BT.length:=by rw [List.length_drop] at h1;omega
 have:=h (o+j) (by rw [z0e];exact h2);rw [z2J] at this;rw [z2J,List.getElem_drop,this]
 rfl
structure TabsU (w:World):Prop where
 fix:TabAt w 5
 fixLt:5 < w.heap.size
 pairs:z7B w
 pairsLt:0 < w.heap.size
theorem TabsU.below {w u:World} (h:TabsU w) (hb:Below w.heap.size w u):TabsU u :=
 ⟨fun r c hr hc=>(hb.cell (p:=⟨5,4 * r+c,none⟩) h.fixLt).trans (h.fix r c hr hc),Nat.lt_of_lt_of_le h.fixLt hb.size,
  fun r c hr hc=>(hb.cell (p:=⟨0,2 * r+c,none⟩) h.pairsLt).trans (h.pairs r c hr hc),Nat.lt_of_lt_of_le h.pairsLt hb.size⟩
def rowL (nn:Nat) (gs:Nat->Nat) (i:Nat):List Value:=(List.range i).map fun k=>Value.slice (some ⟨gs k,0,none⟩) nn nn
def updN (gs:Nat->Nat) (i g k:Nat):Nat:=if k=i then g else gs k
theorem z9e (nn:Nat) (gs:Nat->Nat) (i g:Nat):rowL nn (updN gs i g) (i+1)=rowL nn gs i ++ [Value.slice (some ⟨g,0,none⟩) nn nn]:=by
 unfold rowL;rw [List.range_succ,List.map_append]
 congr 1
 . apply List.map_congr_left
   intro k hk;have:k < i:=List.mem_range.1 hk;unfold updN;rw [if_neg (by omega)]
 . simp [updN]
structure SubI (w wr:World) (cs hs:Array Value) (lv:Value) (nn i:Nat) (gs:Nat->Nat) (G:Nat->Nat->Int):Prop where
 cfg:Bx wr w.heap.size 23 cs
 hdr:Bx wr (w.heap.size+1) 203 hs
 own:wr.ownsRow (w.heap.size+2) 30 1 lv i (rowL nn gs i)
 rows:∀ k,k < i->wr.rowIs (gs k) 3 nn (cutV nn (G k))
 far:∀ k,k < i->w.heap.size+2<=gs k
 apart:∀ k l,k < i->l < i->k ≠ l->gs k ≠ gs l
 below:Below w.heap.size w wr
 size:w.heap.size+2<=wr.heap.size
theorem z9f {w w':World} {g n:Nat} {t:TypeId} {f:Nat->Value} (h:w.rowIs g t n f) (hb:Below w.heap.size w w'):w'.rowIs g t n f:=by
 obtain ⟨cs,h1,h2⟩:=h;exact ⟨cs,(hb.block g (Array.getElem?_eq_some_iff.1 h1).1).trans h1,h2⟩
theorem SubI.next {w wr u:World} {cs hs:Array Value} {lv:Value} {nn i:Nat} {gs:Nat->Nat} {G:Nat->Nat->Int} (h:SubI w wr cs hs lv nn i gs G) (hb:Below wr.heap.size wr u):SubI w u cs hs lv nn i gs G :=
 ⟨h.cfg.below hb,h.hdr.below hb,h.own.kept ⟨hb.os,hb.tape,hb.output,hb.size,fun j hj _=>hb.block j hj⟩ (Classical.em _),fun k hk=>z9f (h.rows k hk) hb,h.far,h.apart,h.below.trans (hb.mono h.below.size),Nat.le_trans h.size hb.size⟩
theorem z1S {w:World} {base:Nat} {t:TypeId} {v:Value} {n:Nat} {xs:List Value} (h:w.ownsRow base t 1 v n xs):∃ a c,v=.slice a n c:=by
 rcases h.2 with ⟨rfl,rfl⟩ | ⟨g,c,cur,rfl,-⟩
 . exact ⟨none,0,rfl⟩
 . exact ⟨_,c,rfl⟩
theorem SubI.more {w wr u:World} {cs hs:Array Value} {lv lv':Value} {nn i g:Nat} {gs:Nat->Nat} {G:Nat->Nat->Int} {x:Nat->Int} (h:SubI w wr cs hs lv nn i gs G) (hrow:wr.rowIs g 3 nn (cutV nn x)) (hg:w.heap.size+2<=g) (hnew:∀ k,k < i->gs k ≠ g)
 (ho:u.ownsRow (w.heap.size+2) 30 1 lv' (i+1) (rowL nn gs i ++ [Value.slice (some ⟨g,0,none⟩) nn nn])) (hgr:wr.grownBy u lv.ownBlock):SubI w u cs hs lv' nn (i+1) (updN gs i g) (upd2 G i x) :=
 have ne:∀ j,j < w.heap.size+2->some j ≠ lv.ownBlock:=fun j hj e=>by have:=(h.own.lt j e.symm).1;omega
 have keep:∀ {k:Nat} {f:Nat->Value},wr.rowIs k 3 nn f->u.rowIs k 3 nn f:=fun {k f} hk=>by
  obtain ⟨c0,h1,h2⟩:=hk;refine ⟨c0,(hgr.block k (Array.getElem?_eq_some_iff.1 h1).1 ?_).trans h1,h2⟩;intro e;rcases h.own.2 with ⟨rfl,-⟩ | ⟨g2,cap2,cur2,rfl,-,h5,-⟩
  . simp [Value.ownBlock] at e
  . simp [Value.ownBlock] at e
    subst e;rw [h1] at h5
    injection h5 with h5
    injection h5 with _ h6
    exact absurd h6 (by decide)
 ⟨h.cfg.of (hgr.block _ (by have:=h.size;omega) (ne _ (by omega))),h.hdr.of (hgr.block _ (by have:=h.size;omega) (ne _ (by omega))),by rw [z9e];exact ho,
  fun k hk=>by
   unfold updN upd2
   by_cases e:k=i
   . rw [if_pos e,if_pos e];exact keep hrow
   . rw [if_neg e,if_neg e];exact keep (h.rows k (by omega)),
  fun k hk=>by
   unfold updN
   by_cases e:k=i
   . rw [if_pos e];exact hg
   . rw [if_neg e];exact h.far k (by omega),
  fun k l hk hl hkl=>by
   unfold updN
   by_cases e:k=i
   . rw [if_pos e,if_neg (by omega)];exact Ne.symm (hnew l (by omega))
   . rw [if_neg e]
     by_cases e2:l=i
     . rw [if_pos e2];exact hnew k (by omega)
     . rw [if_neg e2];exact h.apart k l (by omega) (by omega) hkl,
  h.below.grown hgr h.below.size (fun j hj=>by have:=(h.own.lt j hj).1;omega),Nat.le_trans h.size hgr.size⟩
def SubsOut (e:Ending) (w w':World) (BT:List UInt8) (b:Nat->Bool) (d n m nn:Nat):Prop :=
 (
  (∃ H g c gs,InsP BT b d n m nn H/\e=.returned (.tuple #[.slice (some ⟨g,0,none⟩) n c,.bool true])/\w'.ownsRow w.heap.size 30 1 (.slice (some ⟨g,0,none⟩) n c) n (rowL nn gs n)/\(∀ k,k < n->w'.rowIs (gs k) 3 nn (cutV nn (H k))/\w.heap.size<=gs k)/\∀ k l,k < n->l < n->k ≠ l->gs k ≠ gs l)
  ∨ (∃ v,(∀ H,¬ InsP BT b d n m nn H)/\e=.returned (.tuple #[v,.bool false])))/\Below w.heap.size w w'
theorem z5h {q:Nat} {v0 v1 v2 v3:Value} {u u':World} (hb:Below u.heap.size u u') (h:q+1 < u.heap.size/\u.cell? ⟨q,0,none⟩=some v0/\u.cell? ⟨q,1,none⟩=some v1/\u.cell? ⟨q+1,2,none⟩=some v2/\u.cell? ⟨q+1,3,none⟩=some v3):q+1 < u'.heap.size/\u'.cell? ⟨q,0,none⟩=some v0/\u'.cell? ⟨q,1,none⟩=some v1/\u'.cell? ⟨q+1,2,none⟩=some v2/\u'.cell? ⟨q+1,3,none⟩=some v3 :=
 have h1:q < u.heap.size:=by have:=h.1;omega
 ⟨Nat.lt_of_lt_of_le h.1 hb.size,z0g hb h1 h.2.1,z0g hb h1 h.2.2.1,z0g hb h.1 h.2.2.2.1,z0g hb h.1 h.2.2.2.2⟩
set_option maxRecDepth 4000 in
set_option maxHeartbeats 2000000 in
theorem y0r (c2 c3 c4 c5 c6 c7:Int) (num len d n m nn:Nat) (BT:List UInt8) (b:Nat->Bool) (w:World) (hd1:1<=d) (hd:d<=12) (hn1:1<=n) (hn4:n<=4) (hm:m < 4) (hnn:nn<=32) (hBT:BT.length<=80000) (hb:Bits (bs BT) b) (hT:TabsU w) (h2:n ≠ 2) :
 Calls prog 206 #[.agg #[O I n,O I d,O I c2,O I c3,O I c4,O I c5,O I c6,O I c7],.agg #[O I num,O I len,O I nn,O I m],.string (bs BT)] w fun e w'=>SubsOut e w w' BT b d n m nn:=by
 have hmk:=z2B 24 30 (.slice none 0 0) 24 Tryz.underlying24 z1E rfl n (by omega) (by omega);have HWI:=zZ (fun (u:World) (hu:Below w.heap.size w u) i (hi:i < n)=>z5S d n m i u hd hm hi hn4 (hT.below hu).pairs);have HRD:=zZ (fun (u:World) (hu:Below w.heap.size w u) o i=>z5p (bs (BT.drop o)) (shB b o) (widN d n m i) nn u (by rw [z0e,List.length_drop];omega) (z3H hd1 hd).1 (z3H hd1 hd).2 hnn (z9d hb) (hT.below hu).fix (hT.below hu).fixLt);have HSZ:Hid (∀ o,(bs (BT.drop o)).size=BT.length - o):=fun o=>by rw [z0e,List.length_drop]
 have HCUT:Hid (∀ o t,o+t<=BT.length->(bs (BT.drop o)).extract t (BT.length - o)=bs (BT.drop (o+t))):=fun o t h=>by
  rw [z3a,List.drop_drop,List.take_of_length_le (by rw [List.length_drop];omega)]
 have HSL:Hid (∀ (i:Nat) (r:(Nat->Nat->Int) × Nat),z1d b BT.length d n m nn i=some r->r.2<=BT.length):=fun i r h=>(z3X hd1 hd h).1
 have HB0:Hid (Below w.heap.size w ((w.alloc (.cells #[O I n,O I d,O I c2,O I c3,O I c4,O I c5,O I c6,O I c7] 23)).alloc (.cells #[O I num,O I len,O I nn,O I m] 203))):=(zX.alloc zY _).alloc (by simp) _;clear hb hT
 go_enter Tryz.func206,Tryz.ntmps206
 go_wp2_with fail;refine wp_scope_straight ?_;go_wp2_with fail;refine wp_label ?_;go_wp2_with fail;clear hmk
 go_loopw [2,8,9,10,11,12,13,14,15,16,22] (fun bv lv _ _ _ _ _ _ _ _ iv wr=>∃ i o:Nat,∃ ov:Value,∃ gs:Nat->Nat,∃ G:Nat->Nat->Int,i<=n/\iv=O I i/\ov=lv/\bv=.string (bs (BT.drop o))/\Hid (z1d b BT.length d n m nn i=some (G,o)/\SubI w wr #[O I n,O I d,O I c2,O I c3,O I c4,O I c5,O I c6,O I c7] #[O I num,O I len,O I nn,O I m] ov nn i gs G)) (fun _ _ _ _ _ _ _ _ _ _ iv _=>n - (intOf iv).toNat)
 case atStart =>
  refine ⟨0,0,.slice (some ⟨w.heap.size+1+1,0,none⟩) 0 n,fun _=>0,fun _ _=>0,Nat.zero_le _,rfl,rfl,rfl,rfl,?_⟩;refine ⟨((Bx.new w _ _).alloc _).alloc _,(Bx.new2 (by simp) _ _).alloc _,?_,fun k hk=>absurd hk (Nat.not_lt_zero k),fun k hk=>absurd hk (Nat.not_lt_zero k),fun k l hk=>absurd hk (Nat.not_lt_zero k),HB0.out.alloc HB0.out.size _,by simp⟩;have:=World.ownsRow_made (base:=w.heap.size+2) (e:=30) (size:=1) ((w.alloc (.cells #[O I n,O I d,O I c2,O I c3,O I c4,O I c5,O I c6,O I c7] 23)).alloc (.cells #[O I num,O I len,O I nn,O I m] 203)) (madeCells #[.slice none 0 0] n) n (by simp) (by simp only [maxLen];omega) (by simp [size_madeCells]);rw [show rowL nn (fun _=>0) 0=[] from rfl]
  simpa using this
 case round =>
  obtain ⟨i,o,lv,gs,G,hi,rfl,e,rfl,HR⟩:=hrel;subst e;have hoN:=HSL.out _ _ HR.out.1;obtain ⟨al,cl,hlv⟩:=z1S HR.out.2.own;subst hlv;have hsz:=HSZ.out o;have HBW:=zZ HR.out.2.below
  by_cases hlt:i < n
  . have hS0:w.heap.size+1 < wr.drew.heap.size/\wr.drew.cell? ⟨w.heap.size,0,none⟩=some (O I n)/\wr.drew.cell? ⟨w.heap.size,1,none⟩=some (O I d)/\wr.drew.cell? ⟨w.heap.size+1,2,none⟩=some (O I nn)/\wr.drew.cell? ⟨w.heap.size+1,3,none⟩=some (O I m):=⟨by have:=HR.out.2.size;show _ < wr.heap.size;omega,HR.out.2.cfg.cell 0,HR.out.2.cfg.cell 1,HR.out.2.hdr.cell 2,HR.out.2.hdr.cell 3⟩
    have HWI1:=zZ (fun (u:World) (hu:Below w.heap.size w u)=>HWI.out u hu i hlt);have HRD1:=zZ (fun (u:World) (hu:Below w.heap.size w u)=>HRD.out u hu o i);have HRS:=zZ (z2P (b:=b) hoN (widN d n m i) nn);rw [hsz] at HRD1;cases hrd:z1c (shB b o) (BT.length - o) (widN d n m i) nn with
    | none =>
     rw [hrd] at HRD1 HRS;go_wp2_with fail
     go_region_held3 (fun w'=>w.heap.size+1 < w'.heap.size/\w'.cell? ⟨w.heap.size,0,none⟩=some (O I n)/\w'.cell? ⟨w.heap.size,1,none⟩=some (O I d)/\w'.cell? ⟨w.heap.size+1,2,none⟩=some (O I nn)/\w'.cell? ⟨w.heap.size+1,3,none⟩=some (O I m))
      (with_reducible assumption)
      (first
      | (go_at_call 254;refine (HWI1.out _ HBW.out.drew).mono ?_;rintro e u1 ⟨rfl,hw1⟩;subst u1;clear HWI1)
      | (go_at_call 225;refine (HRD1.out _ HBW.out.drew).mono ?_;rintro e u2 ⟨rfl,hb2⟩;have hS1:=z5h hb2 hS0;have HB2:Hid (Below wr.heap.size wr u2):=(⟨hb2.os,hb2.tape,hb2.output,hb2.size,hb2.block⟩:Below wr.heap.size wr u2);clear HRD1 hb2))
     have x0:=hS1.2.1;have t1:((i:Int) == (n:Int))=false:=by simp;omega
     have HNO:Hid (∀ H,¬ InsP BT b d n m nn H):=fun H ⟨G',o',h1,_⟩=>by
      have:z1d b BT.length d n m nn (i+1)=none:=by
       unfold z1d;rw [HR.out.1,Option.bind_some]
       show Option.map _ (z2G b BT.length o (widN d n m i) nn)=none
       rw [HRS.out];rfl
      rw [z5V this (by omega)] at h1;cases h1
     clear hS1 hS0;go_wp2;rw [Exit.noGoto_ret];go_ret2;exact ⟨.inr ⟨_,HNO.out,rfl⟩,HBW.out.trans (HB2.out.mono HBW.out.size)⟩
    | some xp =>
     rw [hrd] at HRD1 HRS;have HXL:=zZ (z5U hrd);clear hrd;go_wp2_with fail
     go_region_held3 (fun w'=>w.heap.size+1 < w'.heap.size/\w'.cell? ⟨w.heap.size,0,none⟩=some (O I n)/\w'.cell? ⟨w.heap.size,1,none⟩=some (O I d)/\w'.cell? ⟨w.heap.size+1,2,none⟩=some (O I nn)/\w'.cell? ⟨w.heap.size+1,3,none⟩=some (O I m))
      (with_reducible assumption)
      (first
      | (go_at_call 254;refine (HWI1.out _ HBW.out.drew).mono ?_;rintro e u1 ⟨rfl,hw1⟩;subst u1;clear HWI1)
      | (go_at_call 225;refine (HRD1.out _ HBW.out.drew).mono ?_;rintro e u2 ⟨gx,rfl,hgx,hrow,hb2⟩;have HRW:=zZ hrow;have hS1:=z5h hb2 hS0;have HB2:Hid (Below wr.heap.size wr u2):=(⟨hb2.os,hb2.tape,hb2.output,hb2.size,hb2.block⟩:Below wr.heap.size wr u2);clear HRD1 hb2 hrow))
     have hx:=HXL.out;have HCU:=zZ (HCUT.out o xp.2 (by omega));have hA2:=HR.out.2.next HB2.out;have hgx2:wr.heap.size<=gx:=hgx;obtain ⟨g',c',u3,hr,ho,hgr⟩:=z1A 24 30 (.slice none 0 0) 24 Tryz.underlying24 z1E rfl u2 _ (.slice al i cl) i _ #[.slice (some ⟨gx,0,none⟩) nn nn] hA2.own (by simp) (by intro u hu;simp at hu;rw [hu];rfl) (by simp only [maxLen];simp;omega) (by simp;omega) hA2.size 24;have HA3:=zZ (hA2.more HRW.out (by have:=HR.out.2.size;omega) (fun k hk e=>by
      have h1:=(HR.out.2.rows k hk).lt;omega) ho hgr)
     have HAP:Hid (_=_):=hr;have HSU:Hid (z1d b BT.length d n m nn (i+1)=some (upd2 G i xp.1,o+xp.2)):=by
      show _=_
      unfold z1d;rw [HR.out.1,Option.bind_some]
      show Option.map _ (z2G b BT.length o (widN d n m i) nn)=_
      rw [HRS.out];rfl
     have x0:=hS1.2.1;have t2:((n:Int) == 2)=false:=by simp;omega
     clear hA2 hr ho hgr hS1 hS0;generalize xp.2=tk at *;generalize hY:bs (BT.drop (o+tk))=Y at *;have HY:=zZ hY;clear hY;generalize bs (BT.drop o)=Z at *;have b1:(tk:Int)<=((BT.length - o:Nat):Int):=by omega
     have hcu:=HCU.out
     go_wp2_with (at_builtin;refine z0k rfl _ _ _ rfl _ _ _ rfl rfl HAP.out ?_;clear HAP)
     go_roundw
     case rel=>exact ⟨i+1,o+tk,_,updN gs i gx,upd2 G i xp.1,by omega,by go_num,rfl,by rw [HY.out],HSU.out,HA3.out⟩
     case measure=>simp [intOf];omega
  . have e:i=n:=by omega
    subst e;have x0:=HR.out.2.cfg.cell 0;have HFL:=zZ (fun u=>z6S (BT.drop o) u (by rw [List.length_drop];omega));have hEX:unG i m G=G:=by funext k j;unfold unG;rw [if_neg h2]
    obtain ⟨gl,cl',hal⟩:=z5g HR.out.2.own hn1
    injection hal with e1 e2 e3
    subst e1 e3
    by_cases hF:FillP (BT.drop o)
    . have HF:=zZ hF
      have HIN:Hid (InsP BT b d i m nn G):=⟨G,o,HR.out.1,hF,fun e=>absurd e h2,hEX.symm⟩;clear hF hEX
      go_wp2_with (go_at_call 256;refine (HFL.out _).mono ?_;rintro e u1 ⟨he,hb1⟩;have he:=he.true_of HF.out;subst he;have HA:=zZ (HR.out.2.next hb1);clear hb1 HFL)
      rw [Exit.noGoto_ret];go_ret2;exact ⟨.inl ⟨G,gl,_,gs,HIN.out,rfl,z5X HA.out.own (Nat.le_add_right _ 2),fun k hk=>⟨HA.out.rows k hk,by have:=HA.out.far k hk;omega⟩,HA.out.apart⟩,HA.out.below⟩
    . have HF:=zZ hF
      have HNO:Hid (∀ H,¬ InsP BT b d i m nn H):=fun H ⟨G',o',h1,h2,_⟩=>by
       rw [HR.out.1] at h1
       injection h1 with h1
       injection h1 with _ h1
       rw [← h1] at h2;exact hF h2
      clear hF hEX
      go_wp2_with (go_at_call 256;refine (HFL.out _).mono ?_;rintro e u1 ⟨he,hb1⟩;have he:=he.false_of HF.out;subst he;have HA:=zZ (HR.out.2.next hb1);clear hb1 HFL)
      rw [Exit.noGoto_ret];go_ret2;exact ⟨.inr ⟨_,HNO.out,rfl⟩,HA.out.below⟩
end Go.Proofs.YtlncjgnomhpjnabGreatDoor
