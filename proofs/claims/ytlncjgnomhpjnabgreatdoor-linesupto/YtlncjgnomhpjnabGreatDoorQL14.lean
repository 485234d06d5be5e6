import Derived.Test.YtlncjgnomhpjnabGreatDoorQL13
namespace Go.Proofs.YtlncjgnomhpjnabGreatDoor
open Go.Value renaming int → O
open Go.IntKind renaming i64 → I
open Go.Proofs.Tryz
open Go.RowKit Go.Deep
set_option linter.unusedVariables false
theorem y2z (l:List UInt8):((sumN l:Nat):Int).tmod 65536=((sA l % 65521:Nat):Int)/\((sumN l:Nat):Int).tdiv 65536=((sB l % 65521:Nat):Int)/\((sumN l:Nat):Int) % 65536=((sA l % 65521:Nat):Int)/\((sumN l:Nat):Int) / 65536=((sB l % 65521:Nat):Int):=by
 have h2:sA l % 65521 < 65521:=Nat.mod_lt _ zR;rw [zG zU,zF zU];unfold sumN;omega
set_option maxHeartbeats 400000 in
theorem y4y (p T:List UInt8) (w:World) (hT:T.length<=2097152) :
 Calls prog 202 #[O I (sumN p:Nat),.string (bs T)] w fun e w'=>e=.returned (O I (sumN (p ++ T):Nat))/\w'=w:=by
 have hz:(bs T).size=T.length:=z0b T;have HG:Hid (∀ k (h:k < (bs T).size),(bs T)[k]=T[k]'(by rw [hz] at h;exact h)):=fun k h=>y1i T k h
 generalize bs T=S at *;obtain ⟨q1,q2,q3,q4⟩:=y2z p;have q5:=y0d p;generalize hN:sumN p=N0 at *;clear hN;have hA0:sA p % 65521 < 65521:=Nat.mod_lt _ zR;have hB0:sB p % 65521 < 65521:=Nat.mod_lt _ zR;have HA0:Hid (sA p % 65521=sA (p ++ T.take 0) % 65521/\sB p % 65521=sB (p ++ T.take 0) % 65521):=⟨by simp,by simp⟩;generalize sA p % 65521=A0 at *;generalize sB p % 65521=B0 at *
 go_enter func202,ntmps202
 go_wp2;clear q1 q2 q3 q4 q5 hA0 hB0
 go_loop [5,6,7,14] (fun a b _ i=>∃ k:Nat,k<=T.length/\i=O I k/\a=O I ((sA (p ++ T.take k) % 65521:Nat):Int)/\b=O I ((sB (p ++ T.take k) % 65521:Nat):Int)) (fun _ _ _ i=>T.length - (intOf i).toNat)
 case atStart=>exact ⟨0,zJ _,rfl,by rw [HA0.out.1],by rw [HA0.out.2]⟩
 case round =>
  obtain ⟨k,hk,rfl,rfl,rfl⟩:=hrel
  by_cases hlt:k < T.length
  . have hkS:k < S.size:=zU
    have hc:S[k].toNat < 256:=UInt8.toNat_lt _;have HE:Hid (p ++ T.take (k+1)=p ++ T.take k ++ [S[k]]):=by show _=_;rw [List.take_succ_eq_append_getElem hlt,HG.out k hkS,zI]
    have HA:Hid (sA (p ++ T.take (k+1))=sA (p ++ T.take k)+S[k].toNat):=by
     show _=_;rw [HE.out,z4a]
    have HB:Hid (sB (p ++ T.take (k+1))=sB (p ++ T.take k)+(sA (p ++ T.take k)+S[k].toNat)):=by
     show _=_;rw [HE.out,y4r,z4a]
    clear HE;generalize sA (p ++ T.take k)=A at *;generalize sB (p ++ T.take k)=B at *;have h1:A % 65521 < 65521:=Nat.mod_lt _ zR;have h2:B % 65521 < 65521:=Nat.mod_lt _ zR;go_wp2
    go_round
    case rel=>exact ⟨k+1,zU,zS,by rw [HA.out];go_num,by rw [HB.out];go_num⟩
    case measure=>simp [intOf];omega
  . have e:k=T.length:=zU
    subst e;rw [List.take_length];have HN:Hid (((sumN (p ++ T):Nat):Int)=65536 * ((sB (p ++ T) % 65521:Nat):Int)+((sA (p ++ T) % 65521:Nat):Int)):=by show _=_;unfold sumN;omega
    have h1:sA (p ++ T) % 65521 < 65521:=Nat.mod_lt _ zR;have h2:sB (p ++ T) % 65521 < 65521:=Nat.mod_lt _ zR;generalize sA (p ++ T) % 65521=A at *;generalize sB (p ++ T) % 65521=B at *;go_wp2;go_ret;exact ⟨z0q HN.out.symm,rfl⟩
theorem y6n (B n v:Nat):(B % 65521+n % 65521 * v) % 65521=(B+n * v) % 65521:=by
 rw [Nat.add_mod,Nat.mod_mod,Nat.mod_mul_mod,← Nat.add_mod]
theorem y0h (B n v:Nat):((B:Int) % 65521+(n:Int) % 65521 * (v:Int)) % 65521=(((B+n * v) % 65521:Nat):Int):=by
 rw [← y6n];simp
set_option maxHeartbeats 400000 in
theorem y2A (T:List UInt8) (w:World) (hs:T.length<=2097152) :
 Calls prog 154 #[.string (bs T)] w fun e w'=>e=.returned (O I (sumN T:Nat))/\w'=w:=by
 have hz:(bs T).size=T.length:=z0b T;have HG:Hid (∀ k (h:k < (bs T).size),(bs T)[k]=T[k]'(by rw [hz] at h;exact h)):=fun k h=>y1i T k h
 generalize bs T=S at *
 go_enter func154,ntmps154
 go_wp2
 go_loop [4,5,6] (fun a b i=>∃ k:Nat,k<=T.length/\i=O I k/\a=O I ((sA (T.take k) % 65521:Nat):Int)/\b=O I ((sR T.length (T.take k) % 65521:Nat):Int)) (fun _ _ i=>T.length - (intOf i).toNat)
 case atStart=>exact ⟨0,zJ _,rfl,rfl,rfl⟩
 case round =>
  obtain ⟨k,hk,rfl,rfl,rfl⟩:=hrel
  by_cases hlt:k < T.length
  . have hkS:k < S.size:=zU
    have hc:S[k].toNat < 256:=UInt8.toNat_lt _;have HE:Hid (T.take (k+1)=T.take k ++ [S[k]]):=by show _=_;rw [List.take_succ_eq_append_getElem hlt,HG.out k hkS]
    have HA:Hid (sA (T.take (k+1))=sA (T.take k)+S[k].toNat):=by
     show _=_;rw [HE.out,z4a]
    have HB:Hid (sR T.length (T.take (k+1))=sR T.length (T.take k)+(T.length - k) * S[k].toNat):=by
     show _=_;rw [HE.out,z7M];rw [List.length_take,Nat.min_eq_left zU]
    clear HE;generalize sA (T.take k)=A at *;generalize sR T.length (T.take k)=B at *;have h1:A % 65521 < 65521:=Nat.mod_lt _ zR;have h2:B % 65521 < 65521:=Nat.mod_lt _ zR;have h4:((T.length:Int) - (k:Int)) % 65521 * (S[k].toNat:Int)<=16777216:=by
     have:=Int.emod_lt_of_pos ((T.length:Int) - (k:Int)) (b:=65521) zR;have h0:=Int.emod_nonneg ((T.length:Int) - (k:Int)) (b:=65521) zR;have:((T.length:Int) - (k:Int)) % 65521 * (S[k].toNat:Int)<=65521 * 256:=Int.mul_le_mul zU zU zU zU;omega
    have h5:0<=((T.length:Int) - (k:Int)) % 65521 * (S[k].toNat:Int):=Int.mul_nonneg (Int.emod_nonneg _ zR) zU;go_wp2
    go_round
    case rel =>
     refine ⟨k+1,zU,zS,by rw [HA.out];go_num,?_⟩;rw [HB.out];have e:((T.length:Int) - (k:Int))=((T.length - k:Nat):Int):=zU
     rw [e,y0h]
    case measure=>simp [intOf];omega
  . have e:k=T.length:=zU
    subst e;rw [List.take_length,y7P];have HN:Hid (((sumN T:Nat):Int)=65536 * ((sB T % 65521:Nat):Int)+((sA T % 65521:Nat):Int)):=by show _=_;unfold sumN;omega
    have h1:sA T % 65521 < 65521:=Nat.mod_lt _ zR;have h2:sB T % 65521 < 65521:=Nat.mod_lt _ zR;generalize sA T % 65521=A at *;generalize sB T % 65521=B at *;go_wp2;go_ret;exact ⟨z0q HN.out.symm,rfl⟩
theorem y8O (v:Int):v % 256=((smpB v false).toNat:Int):=by
 have e:(smpB v false).toNat=(v % 65536).toNat % 256:=by
  show (UInt8.ofNat ((v % 65536).toNat % 256)).toNat=_
  rw [UInt8.toNat_ofNat'];omega
 rw [e];omega
theorem y8P (v:Int):v / 256 % 256=((smpB v true).toNat:Int):=by
 have e:(smpB v true).toNat=(v % 65536).toNat / 256:=by
  show (UInt8.ofNat ((v % 65536).toNat / 256)).toNat=_
  rw [UInt8.toNat_ofNat'];omega
 rw [e];omega
theorem z9b (n:Nat) (F:Nat->Nat->Int) (m:Nat):z3p (intB n F) m=bs (intT n F m):=rfl
theorem y4z (n:Nat) (F:Nat->Nat->Int) (i p m:Nat) (hi:i < n) (hm:m=2 * (p * n+i)):Lib.byteCells (intT n F m) ++ [Value.int .u8 (F i p % 256),Value.int .u8 (F i p / 256 % 256)]=Lib.byteCells (intT n F (m+2)):=by
 rw [hm,y6j n F i p hi,Lib.byteCells_append,y8O,y8P]
 rfl
theorem z7S (t e:TypeId) (z:Value) (bytes:Nat) (ht:prog.underlying t=some (.slice e)) (hinfo:(prog.info? e).map (fun i=>(i.zero,i.size,i.bytes))=some (some z,1,bytes)) (hz1:z.cells=#[z]) (c:Nat) (hb:bytes * c<=281474976710656) (h63:c<=9223372036854775807) (w:World) :
 (Instr.makeSlice t (O I 0) (O I (c:Int))).run prog w=.ok (.slice (some ⟨w.heap.size,0,none⟩) 0 c) (w.alloc (.cells (madeCells #[z] c) e)):=by
 obtain ⟨i,hi,hz0,hz2,hz3⟩:=info_parts hinfo;have h:(i.bytes:Int) * (c:Int)<=281474976710656:=by
  rw [hz3];have:((bytes * c:Nat):Int)<=281474976710656:=zU
  rwa [Int.natCast_mul] at this
 have:=run_make (P:=prog) w t e i z ht hi hz0 .i64 .i64 0 c (Int.le_refl _) zU h zU;rw [hz1,hz2] at this
 simpa using this
set_option maxHeartbeats 1000000 in
theorem z6D (p0:List UInt8) (a:Option Addr) (n cap:Nat) (A:Nat->Option Addr) (S:Nat) (C:Nat->Nat) (F:Nat->Nat->Int) (w:World) (hn1:1<=n) (hn4:n<=4) (hS:S<=300)
 (hA:ListsAt w a n A (fun _=>S) C) (hI:∀ i,i < n->IntsAt w (A i) S (F i)) (hlow:Low w.heap.size a n A (fun _=>S)) :
 Calls prog 131 #[O I (sumN p0:Nat),.slice a n cap] w fun e w'=>e=.returned (O I (sumN (p0 ++ intT n F (2 * (S * n))):Nat))/\Below w.heap.size w w':=by
 have HSO:=zZ (fun u=>y4y p0 (intT n F (2 * (S * n))) u (by rw [z6e];have:S * n<=300 * 4:=Nat.mul_le_mul hS hn4;omega));have hSn:S * n<=1200:=Nat.mul_le_mul hS hn4;have hmk:=z7S 33 5 (.int .u8 0) 1 underlying33 z1s rfl (2 * (n * S)) (by rw [Nat.mul_comm n S];omega) (by rw [Nat.mul_comm n S];omega);have e1:I.wrap (2 * (n:Int))=((2 * n:Nat):Int):=by rw [zK];omega
 have e2:I.wrap (((2 * n:Nat):Int) * (S:Int))=((2 * (n * S):Nat):Int):=by
  have h1:((2 * n:Nat):Int) * (S:Int)=((2 * (n * S):Nat):Int):=by simp [Int.mul_assoc]
  have h2:n * S<=1200:=by rw [Nat.mul_comm];exact hSn
  rw [h1,zK];omega
 have HI:=zZ hI;have HLOW:=zZ hlow;obtain ⟨b,off,rfl,hcell⟩:=hA.open zU;have HCL:=zZ hcell;have HBL:Hid (b < w.heap.size):=by
  have:=hlow.1 _ rfl (by omega:0 < n);exact this
 have hc0:=hcell 0 zU;simp only [Nat.add_zero] at hc0;clear hA hI hlow hcell;generalize hK:2 * (n * S)=K at *;have HK:=zZ hK;clear hK;generalize 2 * n=N2 at *;have hbl:=HBL.out;have HST:Hid (∀ (u:World) (g c:Nat),u.ownsRow w.heap.size 5 1 (.slice (some ⟨g,0,none⟩) (2 * (S * n)) c) (2 * (S * n)) (Lib.byteCells (intT n F (2 * (S * n))))->_):=fun u g c (h:u.ownsRow w.heap.size 5 1 (.slice (some ⟨g,0,none⟩) (2 * (S * n)) c) (2 * (S * n)) (Lib.byteCells (intT n F (2 * (S * n))))) =>
  z0F (P:=prog) u 33 9 5 g 0 (2 * (S * n)) c (intB n F) underlying33 underlying5 underlying9 (fun i hi=>by
   have:=h.cells (g:=g) rfl i (.int .u8 (intB n F i).toNat) (by simp [Lib.byteCells,intT,List.getElem?_range hi]);rw [Addr.add_lit] at this;exact this)
 rw [z9b] at HST;generalize sumN p0=N0 at *
 go_enter func131,ntmps131
 go_wp2;clear hmk e1 e2 hc0
 go_loopw [5,6,8,9,23] (fun ov _ _ _ pv wr=>∃ p g c m:Nat,p<=S/\pv=O I p/\ov=.slice (some ⟨g,0,none⟩) m c/\Hid (m=2 * (p * n)/\wr.ownsRow w.heap.size 5 1 (.slice (some ⟨g,0,none⟩) m c) m (Lib.byteCells (intT n F m))/\Below w.heap.size w wr)) (fun _ _ _ _ pv _=>S - (intOf pv).toNat)
 case atStart =>
  refine ⟨0,w.heap.size,K,0,zJ _,rfl,rfl,by simp,?_,zX.alloc zY _⟩;exact World.ownsRow_made w _ K zY (by have:=HK.out;rw [Nat.mul_comm n S] at this;simp only [maxLen];omega) (by simp [size_madeCells])
 case round =>
  obtain ⟨p,g,c,m,hp,rfl,rfl,HR⟩:=hrel
  by_cases hlt:p < S
  . go_wp2
    go_loopw [5,8,9,28] (fun ov _ _ iv wr=>∃ i g c m:Nat,i<=n/\iv=O I i/\ov=.slice (some ⟨g,0,none⟩) m c/\Hid (m=2 * (p * n+i)/\wr.ownsRow w.heap.size 5 1 (.slice (some ⟨g,0,none⟩) m c) m (Lib.byteCells (intT n F m))/\Below w.heap.size w wr)) (fun _ _ _ iv _=>n - (intOf iv).toNat)
    case atStart=>exact ⟨0,g,c,m,zU,rfl,rfl,by have:=HR.out.1;omega,HR.out.2⟩
    case round =>
     clear HR;obtain ⟨i,g,c,m,hi,rfl,rfl,HR⟩:=hrel
     by_cases hin:i < n
     . obtain ⟨gi,oi,hAi,hci⟩:=(HI.out i hin).open zU
       have hcb:wr.cell? ⟨b,off+i,none⟩=some (.slice (some ⟨gi,oi,none⟩) S (C i)):=by
        have:=(HR.out.2.2.cell (p:=⟨b,off+i,none⟩) hbl).trans (HCL.out i hin);rw [hAi] at this;exact this
       have hgl:gi < w.heap.size:=by have:=HLOW.out.2 i hin _ hAi (by show 0 < S;omega);exact this
       have hcv:wr.cell? ⟨gi,oi+p,none⟩=some (O I (F i p)):=(HR.out.2.2.cell (p:=⟨gi,oi+p,none⟩) hgl).trans (hci p hlt);have hpn:p * n+i<=1200:=by
        have h1:p * n<=299 * n:=zD n zU;omega
       have hm2:=HR.out.1;obtain ⟨g',c',u',hr,ho,hg⟩:=z3b 33 5 (.int .u8 0) 1 underlying33 z1s rfl wr w.heap.size (.slice (some ⟨g,0,none⟩) m c) m _ #[.int .u8 (F i p % 256),.int .u8 (F i p / 256 % 256)] HR.out.2.1 (by simp) (by intro u hu;simp at hu;rcases hu with rfl | rfl <;> rfl) (by simp only [maxLen];simp;omega) (by simp;omega) HR.out.2.2.size 33;have HN:Hid (u'.ownsRow w.heap.size 5 1 (.slice (some ⟨g',0,none⟩) (m+2) c') (m+2) (Lib.byteCells (intT n F (m+2)))/\Below w.heap.size w u'):=by
        refine ⟨?_,HR.out.2.2.grown hg HR.out.2.2.size (fun k hk=>(HR.out.2.1.lt k hk).1)⟩;rw [← y4z n F i p m hin hm2];exact ho
       have HAP:Hid (_=_):=hr;generalize F i p=V at *;clear hci hr ho hg hpn;have HM2:=zZ hm2;clear hm2
       go_wp2_with (at_builtin;refine z0c rfl _ _ _ rfl _ _ _ rfl rfl HAP.out ?_;clear HAP)
       go_roundw
       case rel=>exact ⟨i+1,g',c',m+2,zU,zS,rfl,by rw [HM2.out];omega,HN.out⟩
       case measure=>simp [intOf];omega
     . have e:i=n:=zU
       subst e;go_wp2
       go_roundw
       case rel=>exact ⟨p+1,g,c,m,zU,zS,rfl,by rw [HR.out.1,Nat.add_mul,Nat.one_mul],HR.out.2⟩
       case measure=>simp [intOf];omega
  . have e:p=S:=zU
    subst e;obtain ⟨hm,ho,hb⟩:=HR.out;subst hm;have hcv:=HST.out wr g c ho;have HB:=zZ hb;clear ho hb HR HST;generalize bs (intT n F (2 * (p * n)))=T at *;generalize hm:2 * (p * n)=m at *;have HM:=zZ hm;clear hm
    go_wp2_with (go_at_call 202;refine (HSO.out _).mono ?_;rintro e u1 ⟨rfl,hw⟩;subst u1)
    go_ret;exact ⟨by rw [HM.out];rfl,HB.out⟩
end Go.Proofs.YtlncjgnomhpjnabGreatDoor
namespace Go.Proofs.YtlncjgnomhpjnabGreatDoor
open Go.Value renaming int → O
open Go.IntKind renaming i64 → I
open Go.Proofs.Tryz
open Go Go.Lib
set_option linter.unusedVariables false
def z32:List Int:=[0,1,28,2,29,14,24,3,30,22,20,15,25,17,4,8,31,27,13,23,21,19,16,7,26,12,18,6,11,5,10,9]
def z64:List Int:=[0,1,56,2,57,49,28,3,61,58,42,50,38,29,17,4,62,47,59,36,45,43,51,22,53,39,33,30,24,18,12,5,63,55,48,27,60,41,37,16,46,35,44,21,52,32,23,11,54,26,40,15,34,20,31,10,25,14,19,9,13,8,7,6]
theorem y8Q:∀ t:Fin 13,z64[285870213051353865 * 2 ^ t.val % 18446744073709551616 / 288230376151711744]?=some (t.val:Int):=by decide +kernel
theorem g64:Tryz.prog.globalNamed "math/bits.deBruijn64tab" = some 4:=by kernel_rfl
theorem y7T:(Tryz.prog.globals[4]?).map (·.type)=some 396:=by kernel_rfl
theorem y7U:Tryz.prog.cellsOf 396=64:=by kernel_rfl
theorem z7T {w:World} {g i:Nat} {v:Value} (h:w.cell? ⟨g,i,none⟩=some v):g < w.heap.size:=by
 by_cases hg:g < w.heap.size
 . exact hg
 . have hn:w.heap[g]?=none:=Array.getElem?_eq_none (by omega)
   simp [World.cell?,hn] at h
def z7U:List (List Int):=[[0,1],[0,2],[2,1],[3,2]]
theorem y7p:Tryz.prog.globalNamed "reel/frame.pairs" = some 0:=by kernel_rfl
theorem y2B:(Tryz.prog.globals[0]?).map (·.type)=some 273:=by kernel_rfl
theorem y7V:Tryz.prog.cellsOf 273=4 * 2:=by kernel_rfl
theorem y8R:Tryz.prog.cellsOf 272=2:=by kernel_rfl
theorem y0i (r c:Nat) (hr:r < 4) (hc:c < 2):∃ zs,z7U[r]?=some zs/\zs[c]?=some (y7L r c):=by
 have h:∀ r:Fin 4,∀ c:Fin 2,(z7U[r.val]?.bind fun zs=>zs[c.val]?)=some (y7L r.val c.val):=by decide
 have:=h ⟨r,hr⟩ ⟨c,hc⟩;exact Option.bind_eq_some_iff.1 this
theorem y7W {W:World} (h:laidMetH Tryz.prog Rows.linesUptoRow.laid W):TabsF W/\z1v W 2/\2 < W.heap.size:=by
 have h':laidMet Tryz.prog [("math/bits.deBruijn32tab",tabData .u8 z32),("math/bits.deBruijn64tab",tabData .u8 z64),("reel/reelref.taken",.agg (z7t.map (tabData .i64))),("unicode/utf8.acceptRanges",Rows.laid_unicode_utf8_acceptRanges),("reel/subframe.fixedWeights",.agg (z7t.map (tabData .i64))),("reel/frame.pairs",.agg (z7U.map (tabData .i64))),("unicode/utf8.first",Rows.laid_unicode_utf8_first)] W:=h;obtain ⟨ps,⟨g0,t0,cs0,fuel0,p0,q0,hg0,ht0,hvar0,hd0,⟨gb,tb,csb,fuelb,pb,qb,hgb,htb,hvarb,hdb,⟨gk,tk,csk,fuelk,pk,qk,hgk,htk,hvark,hdk,⟨g1,t1,cs1,fuel1,p1,q1,hg1,ht1,hvar1,hd1,⟨g2,t2,cs2,fuel2,p2,q2,hg2,ht2,hvar2,hd2,⟨g3,t3,cs3,fuel3,p3,q3,hg3,ht3,hvar3,hd3,_,_⟩,_⟩,_⟩,_⟩,_⟩,_⟩,_⟩:=h';obtain rfl:=Option.some.inj (y7g.symm.trans hgk);obtain rfl:=Option.some.inj (y1U.symm.trans htk);obtain rfl:=Option.some.inj (y7p.symm.trans hg3);obtain rfl:=Option.some.inj (y2B.symm.trans ht3);obtain rfl:=Option.some.inj (y7h.symm.trans hg2);obtain rfl:=Option.some.inj (y1V.symm.trans ht2);obtain rfl:=Option.some.inj (g64.symm.trans hgb);obtain rfl:=Option.some.inj (y7T.symm.trans htb);have hF:z1v W 5:=by
  intro r c hr hc;obtain ⟨zs,hz1,hz2⟩:=z6J r c hr hc;have:=z2R Tryz.underlying387 Tryz.underlying331 Tryz.underlying3 y3y y7i y3x hd2 r zs hz1 c _ hc hz2;have h2:=World.var?_cell y7h hvar2 (r * 4+c);rw [Nat.mul_comm 4 r,h2]
  simpa using this
 have hK:z1v W 2:=by
  intro r c hr hc;obtain ⟨zs,hz1,hz2⟩:=z6J r c hr hc;have:=z2R Tryz.underlying387 Tryz.underlying331 Tryz.underlying3 y3y y7i y3x hdk r zs hz1 c _ hc hz2;have h2:=World.var?_cell y7g hvark (r * 4+c);rw [Nat.mul_comm 4 r,h2]
  simpa using this
 have hZ:TzAt W 4:=by
  intro t ht;have e:=cells_of_tab Tryz.underlying396 Tryz.underlying5 z8F y7U hdb;have h2:=World.var?_cell g64 hvarb (285870213051353865 * 2 ^ t % 18446744073709551616 / 288230376151711744);rw [h2];have h3:=y8Q ⟨t,by omega⟩;have h4:csb.toList[285870213051353865 * 2 ^ t % 18446744073709551616 / 288230376151711744]?=some (.int .u8 (t:Int)):=by
   rw [e,List.getElem?_map,h3];rfl
  simpa using h4
 have hP:y4j W:=by
  intro r c hr hc;obtain ⟨zs,hz1,hz2⟩:=y0i r c hr hc;have:=z2R Tryz.underlying273 Tryz.underlying272 Tryz.underlying3 y3y y8R y7V hd3 r zs hz1 c _ hc hz2;have h2:=World.var?_cell y7p hvar3 (r * 2+c);rw [Nat.mul_comm 2 r,h2]
  simpa using this
 exact ⟨⟨⟨hF,z7T (hF 0 0 (by omega) (by omega)),hZ,z7T (hZ 0 (by omega))⟩,hP,z7T (hP 0 0 (by omega) (by omega))⟩,hK,z7T (hK 0 0 (by omega) (by omega))⟩
end Go.Proofs.YtlncjgnomhpjnabGreatDoor
