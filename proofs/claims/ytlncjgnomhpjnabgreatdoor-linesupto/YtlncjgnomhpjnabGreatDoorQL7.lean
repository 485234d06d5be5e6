import Derived.Test.YtlncjgnomhpjnabGreatDoorQL4
namespace Go.Proofs.YtlncjgnomhpjnabGreatDoor
open Go.Value renaming int → O
open Go.IntKind renaming i64 → I
open Go.Proofs.Tryz
open Go.RowKit Go.Deep
set_option linter.unusedVariables false
def bs (T:List UInt8):ByteArray:=⟨T.toArray⟩
theorem z0f (a b:List UInt8):bs a ++ bs b=bs (a ++ b):=by
 apply ByteArray.ext;simp [bs]
theorem z0b (a:List UInt8):(bs a).size=a.length:=by simp [bs,ByteArray.size]
theorem y3L (v:Int) (k:Nat):z3p (fun i=>ltr (decide (v / 2 ^ (k - 1 - i) % 2=1))) k=bs (binT v k):=rfl
theorem z9R (k:Nat):z3p (fun _=>48) k=bs (List.replicate k 48):=by
 unfold z3p bs
 congr 2
 apply List.ext_getElem
 . simp
 . intro i h1 h2;simp
theorem y3M (v:Int) (V j k:Nat) (hj:j < k) (hV:(V:Int)=if v < 0 then v+2 ^ k else v):((V / 2 ^ j % 2:Nat):Int)=v / 2 ^ j % 2:=by
 have e:((V / 2 ^ j % 2:Nat):Int)=(V:Int) / 2 ^ j % 2:=by simp
 rw [e,hV];split
 . obtain ⟨d,rfl⟩:∃ d,k=j+(d+1):=⟨k - j - 1,zU⟩
   have e2:(2:Int) ^ (j+(d+1))=(2 ^ d * 2) * 2 ^ j:=by rw [Int.pow_add,Int.pow_succ,Int.mul_comm]
   rw [e2,Int.add_mul_ediv_right _ _ (Int.ne_of_gt (z2m j)),Int.add_mul_emod_self_right]
 . rfl
set_option maxHeartbeats 1000000 in
theorem z0U (v:Int) (k:Nat) (w:World) (hk:k<=16) (hv:v < 4294967296) (hv0:-(2 ^ k)<=v) :
 Calls prog 267 #[O I v,O I k] w fun e w'=>e=.returned (.string (bs (binT v k)))/\Below w.heap.size w w':=by
 have hmk:=run_make_row' (P:=prog) 33 5 (.int .u8 0) 1 underlying33 z1s rfl .i64 .i64 k zU zU;have hp:(1:Int)<=2 ^ k:=by have:=z2m k;omega
 have hp2:(2:Int) ^ k<=65536:=by rw [← ip2];exact Int.ofNat_le.2 (zO (zE zU hk) zR)
 have hmn:min k 64=k:=zU
 obtain ⟨V,hV⟩:∃ V:Nat,(V:Int)=if v < 0 then v+2 ^ k else v:=⟨(if v < 0 then v+2 ^ k else v).toNat,by split <;> omega⟩
 have HBIT:=zZ (fun j (hj:j < k)=>y3M v V j k hj hV);have hVb:V < 4294967296:=by split at hV <;> omega
 have w1:v < 0->I.wrap (v+2 ^ k)=(V:Int):=fun h=>by rw [if_pos h] at hV;rw [← hV,zK];omega
 have w1b:I.wrap ((2:Int) ^ k)=2 ^ k:=by rw [zK];omega
 have w2:I.wrap ((k:Int) - 1)=(k:Int) - 1:=by rw [zK];omega
 have HS:=zZ (y3L v k);have HCV:=zZ (fun (u:World) h=>z0F (P:=prog) u 33 9 5 w.heap.size 0 k k (fun i=>ltr (decide (v / 2 ^ (k - 1 - i) % 2=1))) underlying33 underlying5 underlying9 h);have key:∀ (wr:World) (j:Nat),wr.rowIs w.heap.size 5 k (fun i=>.int .u8 (if k - 1 - i < j then ((ltr (decide (v / 2 ^ (k - 1 - i) % 2=1))).toNat:Int) else 0))->j < k ->
     (wr.setCell ⟨w.heap.size,k - 1 - j,none⟩ (.int .u8 ((48+V / 2 ^ j % 2:Nat):Int))).rowIs w.heap.size 5 k (fun i=>.int .u8 (if k - 1 - i < j+1 then ((ltr (decide (v / 2 ^ (k - 1 - i) % 2=1))).toNat:Int) else 0)):=fun wr j h hj=>by
  refine (h.set (k - 1 - j) _).congr fun i hi=>?_
  by_cases e:i=k - 1 - j
  . subst e
    rw [if_pos rfl,if_pos zU,show k - 1 - (k - 1 - j)=j by omega,z7r,← HBIT.out j hj]
    congr 1
    have:V / 2 ^ j % 2 < 2:=Nat.mod_lt _ zU;have hd:decide (((V / 2 ^ j % 2:Nat):Int)=1)=decide (V / 2 ^ j % 2=1):=by congr 1;exact propext zU
    rw [hd];rcases Nat.lt_or_ge (V / 2 ^ j % 2) 1 with h0 | h1
    . have:V / 2 ^ j % 2=0:=zU
      rw [this];rfl
    . have:V / 2 ^ j % 2=1:=zU
      rw [this];rfl
  . rw [if_neg e]
    by_cases e2:k - 1 - i < j
    . rw [if_pos e2,if_pos zU]
    . rw [if_neg e2,if_neg zU]
 have KEY:=zZ key;clear key
 by_cases hneg:v < 0
 . have t0:decide (v < 0)=true:=zL hneg
   have w1':=w1 hneg;have HVV:=zZ (show V=V from rfl);clear w1 hV
   go_enter func267,ntmps267
   go_wp2;clear hmk hp hp2 w1b hmn hv hv0
   go_loopw [0,6] (fun vv iv wr=>∃ j:Nat,j<=k/\iv=O I ((k:Int) - 1 - j)/\vv=O I ((V / 2 ^ j:Nat):Int)/\Hid (wr.rowIs w.heap.size 5 k (fun i=>.int .u8 (if k - 1 - i < j then ((ltr (decide (v / 2 ^ (k - 1 - i) % 2=1))).toNat:Int) else 0))/\Below w.heap.size w wr)) (fun _ iv _=>(intOf iv+1).toNat)
   case atStart=>exact ⟨0,zU,by simp,by rw [show ((V / 2 ^ 0:Nat):Int)=(V:Int) by simp];try rw [HVV.out],(World.rowIs_made w (.int .u8 0) k 5).congr fun i _=>by rw [if_neg zU],zX.alloc zY _⟩
   case round =>
    obtain ⟨j,hj,rfl,rfl,HR⟩:=hrel
    by_cases hlt:j < k
    . have hc1:=HR.out.1.cell (i:=k - 1 - j) zU
      have hf1:=HR.out.1.frozen (k - 1 - j);have hq:V / 2 ^ j<=V:=Nat.div_le_self _ _;have HQ:Hid (V / 2 ^ (j+1)=V / 2 ^ j / 2):=by show _=_;rw [Nat.pow_succ,Nat.div_div_eq_div_mul]
      have HK:=zZ (KEY.out wr j HR.out.1 hlt);generalize V / 2 ^ j=q at *;have t1:((k:Int) - 1 - (j:Int)).toNat=k - 1 - j:=zU
      have t2:decide (0<=(k:Int) - 1 - (j:Int))=true:=zL zU;have l1:0<=(k:Int) - 1 - (j:Int):=zU
      have l2:(k:Int) - 1 - (j:Int) < (k:Int):=zU
      have v2:I.wrap ((k:Int) - 1 - (j:Int) - 1)=(k:Int) - 1 - (j:Int) - 1:=by rw [zK];omega
      have m1:((q:Int)).tmod 2=((q % 2:Nat):Int):=by rw [zG zU];omega
      have m2:((q:Int)).tdiv 2=((q / 2:Nat):Int):=by rw [zF zU];omega
      have hq3:q / 2<=q:=Nat.div_le_self _ _;have HV6:Hid (wrap64 ((q / 2:Nat):Int)=((q / 2:Nat):Int)):=by show _=_;unfold wrap64;omega
      have hq2:q % 2 < 2:=Nat.mod_lt _ zU;generalize q % 2=r at *;generalize q / 2=q' at *;have v3:I.wrap (48+(r:Int))=48+(r:Int):=by rw [zK];omega
      have v4:IntKind.u8.wrap (48+(r:Int))=((48+r:Nat):Int):=by rw [IntKind.wrap_u8];omega
      generalize hcv:(if k - 1 - (k - 1 - j) < j then ((ltr (decide (v / 2 ^ (k - 1 - (k - 1 - j)) % 2=1))).toNat:Int) else 0)=oldv at hc1;clear hcv HBIT;go_wp2
      go_roundw
      case rel=>exact ⟨j+1,zU,by congr 1;omega,by rw [HQ.out],HK.out,HR.out.2.setCell zY _⟩
      case measure=>simp [intOf];omega
    . have e:j=k:=zU
      subst e;have e1:(j:Int) - 1 - (j:Int)=-1:=zU
      rw [e1];clear e1;have hcv:=HCV.out wr (fun i hi=>by
       have:=HR.out.1.cell (i:=i) hi;rw [if_pos zU] at this
       simpa using this)
      rw [HS.out] at hcv;generalize V / 2 ^ j=q0 at *;clear HBIT KEY HCV;go_wp2;go_ret;exact ⟨rfl,HR.out.2⟩
 . have t0:decide (v < 0)=false:=zM hneg
   rw [if_neg hneg] at hV;have HVV:=zZ hV;clear w1 hV
   go_enter func267,ntmps267
   go_wp2;clear hmk hp hp2 w1b hmn hv hv0
   go_loopw [0,6] (fun vv iv wr=>∃ j:Nat,j<=k/\iv=O I ((k:Int) - 1 - j)/\vv=O I ((V / 2 ^ j:Nat):Int)/\Hid (wr.rowIs w.heap.size 5 k (fun i=>.int .u8 (if k - 1 - i < j then ((ltr (decide (v / 2 ^ (k - 1 - i) % 2=1))).toNat:Int) else 0))/\Below w.heap.size w wr)) (fun _ iv _=>(intOf iv+1).toNat)
   case atStart=>exact ⟨0,zU,by simp,by rw [show ((V / 2 ^ 0:Nat):Int)=(V:Int) by simp];try rw [HVV.out],(World.rowIs_made w (.int .u8 0) k 5).congr fun i _=>by rw [if_neg zU],zX.alloc zY _⟩
   case round =>
    obtain ⟨j,hj,rfl,rfl,HR⟩:=hrel
    by_cases hlt:j < k
    . have hc1:=HR.out.1.cell (i:=k - 1 - j) zU
      have hf1:=HR.out.1.frozen (k - 1 - j);have hq:V / 2 ^ j<=V:=Nat.div_le_self _ _;have HQ:Hid (V / 2 ^ (j+1)=V / 2 ^ j / 2):=by show _=_;rw [Nat.pow_succ,Nat.div_div_eq_div_mul]
      have HK:=zZ (KEY.out wr j HR.out.1 hlt);generalize V / 2 ^ j=q at *;have t1:((k:Int) - 1 - (j:Int)).toNat=k - 1 - j:=zU
      have t2:decide (0<=(k:Int) - 1 - (j:Int))=true:=zL zU;have l1:0<=(k:Int) - 1 - (j:Int):=zU
      have l2:(k:Int) - 1 - (j:Int) < (k:Int):=zU
      have v2:I.wrap ((k:Int) - 1 - (j:Int) - 1)=(k:Int) - 1 - (j:Int) - 1:=by rw [zK];omega
      have m1:((q:Int)).tmod 2=((q % 2:Nat):Int):=by rw [zG zU];omega
      have m2:((q:Int)).tdiv 2=((q / 2:Nat):Int):=by rw [zF zU];omega
      have hq3:q / 2<=q:=Nat.div_le_self _ _;have HV6:Hid (wrap64 ((q / 2:Nat):Int)=((q / 2:Nat):Int)):=by show _=_;unfold wrap64;omega
      have hq2:q % 2 < 2:=Nat.mod_lt _ zU;generalize q % 2=r at *;generalize q / 2=q' at *;have v3:I.wrap (48+(r:Int))=48+(r:Int):=by rw [zK];omega
      have v4:IntKind.u8.wrap (48+(r:Int))=((48+r:Nat):Int):=by rw [IntKind.wrap_u8];omega
      generalize hcv:(if k - 1 - (k - 1 - j) < j then ((ltr (decide (v / 2 ^ (k - 1 - (k - 1 - j)) % 2=1))).toNat:Int) else 0)=oldv at hc1;clear hcv HBIT;go_wp2
      go_roundw
      case rel=>exact ⟨j+1,zU,by congr 1;omega,by rw [HQ.out],HK.out,HR.out.2.setCell zY _⟩
      case measure=>simp [intOf];omega
    . have e:j=k:=zU
      subst e;have e1:(j:Int) - 1 - (j:Int)=-1:=zU
      rw [e1];clear e1;have hcv:=HCV.out wr (fun i hi=>by
       have:=HR.out.1.cell (i:=i) hi;rw [if_pos zU] at this
       simpa using this)
      rw [HS.out] at hcv;generalize V / 2 ^ j=q0 at *;clear HBIT KEY HCV;go_wp2;go_ret;exact ⟨rfl,HR.out.2⟩
set_option maxHeartbeats 1000000 in
theorem y3N (k:Nat) (w:World) (hk:k<=3000000) :
 Calls prog 305 #[O I k] w fun e w'=>e=.returned (.string (bs (List.replicate k 48)))/\Below w.heap.size w w':=by
 have hmk:=run_make_row' (P:=prog) 33 5 (.int .u8 0) 1 underlying33 z1s rfl .i64 .i64 k zU zU;have HS:=zZ (z9R k);have HCV:=zZ (fun (u:World) h=>z0F (P:=prog) u 33 9 5 w.heap.size 0 k k (fun _=>48) underlying33 underlying5 underlying9 h)
 go_enter func305,ntmps305
 go_wp2;clear hmk
 go_loopw [4] (fun iv wr=>∃ j:Nat,j<=k/\iv=O I j/\Hid (wr.rowIs w.heap.size 5 k (fun i=>.int .u8 (if i < j then 48 else 0))/\Below w.heap.size w wr)) (fun iv _=>k - (intOf iv).toNat)
 case atStart=>exact ⟨0,zU,rfl,(World.rowIs_made w (.int .u8 0) k 5).congr fun i _=>by rw [if_neg zU],zX.alloc zY _⟩
 case round =>
  obtain ⟨j,hj,rfl,HR⟩:=hrel
  by_cases hlt:j < k
  . have hc1:=HR.out.1.cell (i:=j) hlt
    have hf1:=HR.out.1.frozen j;generalize hcv:(if j < j then (48:Int) else 0)=oldv at hc1;clear hcv;go_wp2
    go_roundw
    case rel=>exact ⟨j+1,zU,zS,(HR.out.1.set j _).congr (fun i _=>by
     by_cases e:i=j
     . subst e;rw [if_pos rfl,if_pos zU]
     . rw [if_neg e]
       by_cases e2:i < j
       . rw [if_pos e2,if_pos zU]
       . rw [if_neg e2,if_neg zU]),HR.out.2.setCell zY _⟩
    case measure=>simp [intOf];omega
  . have e:j=k:=zU
    subst e;have hcv:=HCV.out wr (fun i hi=>by
     have:=HR.out.1.cell (i:=i) hi;rw [if_pos hi] at this
     simpa using this)
    rw [HS.out] at hcv;go_wp2;go_ret;exact ⟨rfl,HR.out.2⟩
theorem z8I (v:Int) (w:World) (h:-1000000<=v/\v<=1000000) :
 Calls prog 341 #[O I v] w fun e w'=>e=.returned (O I (z1o v))/\w'=w:=by
 have hf:=z5w v
 by_cases h0:0<=v
 . rw [if_pos h0] at hf
   have HF:=zZ hf;clear hf
   go_enter func341,ntmps341
   go_wp2;go_ret;exact ⟨z0q (by rw [HF.out]),rfl⟩
 . rw [if_neg h0] at hf
   have HF:=zZ hf;clear hf
   go_enter func341,ntmps341
   go_wp2;go_ret;exact ⟨z0q (by rw [HF.out]),rfl⟩
theorem y5Q (f k:Nat):binT ((f % 2 ^ k:Nat):Int) k=binT (f:Int) k:=by
 unfold binT;apply List.map_congr_left;intro i hi;rw [List.mem_range] at hi
 congr 1
 have e:((f % 2 ^ k:Nat):Int) / 2 ^ (k - 1 - i) % 2=(f:Int) / 2 ^ (k - 1 - i) % 2:=by
  have h1:∀ a:Nat,(a:Int) / 2 ^ (k - 1 - i) % 2=((a / 2 ^ (k - 1 - i) % 2:Nat):Int):=fun a=>by simp
  rw [h1,h1]
  congr 1
  have hk:2 ^ k=2 ^ (k - 1 - i) * (2 * 2 ^ i):=by rw [← Nat.pow_succ',← Nat.pow_add];congr 1;omega
  rw [hk,Nat.mod_mul_right_div_self,Nat.mod_mul_right_mod]
 rw [e]
set_option maxHeartbeats 1000000 in
theorem z8J (A:Option Addr) (n c k lo:Nat) (R:Nat->Int) (w:World) (hn:n<=32) (hk:k<=14) (hR:∀ i,i < n->-1000000<=R (lo+i)/\R (lo+i)<=1000000) (hI:IntsAt w A n (fun i=>R (lo+i))) (hlow:∀ y,A=some y->0 < n->y.block < w.heap.size) :
 Calls prog 328 #[.slice A n c,O I k] w fun e w'=>e=.returned (.string (bs (z0I (fun i=>z1o (R i)) k lo n)))/\Below w.heap.size w w':=by
 have HI:=zZ (fun u (h:Below w.heap.size w u)=>hI.belowB h hlow);have HR:=zZ hR;have hmn:min k 64=k:=zU
 have hp2:2 ^ k<=16384:=zO (zE zU hk) zR;have hp1:1<=2 ^ k:=Nat.two_pow_pos k;clear hI hlow hR
 go_enter func328,ntmps328
 go_wp2
 go_loopw [5,6] (fun sv iv wr=>∃ j:Nat,j<=n/\iv=O I j/\sv=.string (bs (z0I (fun i=>z1o (R i)) k lo j))/\Hid (Below w.heap.size w wr)) (fun _ iv _=>n - (intOf iv).toNat)
 case atStart=>exact ⟨0,zU,rfl,rfl,Below.refl _ _⟩
 case round =>
  obtain ⟨j,hj,rfl,rfl,HB⟩:=hrel
  by_cases hlt:j < n
  . obtain ⟨bb,off,hx,hc⟩:=(HI.out wr HB.out).open zU
    cases hx;have hcj:=hc j hlt;clear hc;have HF:=zZ (fun u=>z8I (R (lo+j)) u (HR.out j hlt));have hfl:=z3y (R (lo+j)) 1000000 (HR.out j hlt);have HCD:Hid (z0I (fun i=>z1o (R i)) k lo (j+1)=z0I (fun i=>z1o (R i)) k lo j ++ (List.replicate (z1o (R (lo+j)) / 2 ^ k) 48 ++ [49] ++ binT (z1o (R (lo+j))) k)):=rfl;have hcl:(z0I (fun i=>z1o (R i)) k lo j).length<=100000000:=by
     rw [z1h];have h1:=z2C (fun i=>z1o (R i)) k lo 2000000 hk j (fun i hi=>z3y _ 1000000 (HR.out i zU));have h2:j * (2000000+15)<=32 * (2000000+15):=zD _ zU;omega
    have hss:(bs (z0I (fun i=>z1o (R i)) k lo j)).size<=100000000:=by rw [z0b];exact hcl
    generalize z1o (R (lo+j))=f at *;have hq:f / 2 ^ k<=f:=Nat.div_le_self _ _;have hqi:(f:Int) / 2 ^ k=((f / 2 ^ k:Nat):Int):=by simp
    have HZ:=zZ (fun u=>y3N (f / 2 ^ k) u zU);have HBN:=zZ (fun u=>z0U ((f % 2 ^ k:Nat):Int) k u zU (by have:=Nat.mod_lt f hp1;omega) (by have:=z2m k;omega));rw [y5Q] at HBN;have hmd:(f:Int).tmod ((2 ^ k:Nat):Int)=((f % 2 ^ k:Nat):Int):=by rw [zG zU];simp
    have hzs:(bs (List.replicate (f / 2 ^ k) 48)).size<=3000000:=by rw [z0b];simp;omega
    have hbs:(bs (binT (f:Int) k)).size<=14:=by rw [z0b,z0e];exact hk
    have vP:I.wrap ((2:Int) ^ k)=((2 ^ k:Nat):Int):=by rw [← ip2,zK];omega
    have nP:¬ ((2 ^ k:Nat):Int)=0:=zU
    have hsz:=HB.out.size;generalize f / 2 ^ k=q at *;generalize f % 2 ^ k=r at *;generalize 2 ^ k=P at *;generalize hS:bs (z0I (fun i=>z1o (R i)) k lo j)=S at *;generalize hZs:bs (List.replicate q 48)=Z at *;generalize hBs:bs (binT (f:Int) k)=Bn at *;have HSTR:Hid (S ++ Z ++ ⟨#[49]⟩ ++ Bn=bs (z0I (fun i=>z1o (R i)) k lo (j+1))):=by
     show _=_
     rw [HCD.out,← hS,← hZs,← hBs,show (⟨#[49]⟩:ByteArray)=bs [49] from rfl,z0f,z0f,z0f];simp [List.append_assoc]
    clear hS hZs hBs HCD
    go_wp2_with (go_at_call 341;refine (HF.out _).mono ?_;rintro e w1 ⟨rfl,hw⟩;subst w1;clear HF)
    go_region_with (first
     | (go_at_call 305;refine (HZ.out _).mono ?_;rintro e w1 ⟨rfl,hb1⟩;have HB1:=zZ (HB.out.drew.trans (hb1.mono hsz));have hsz1:=HB1.out.size;clear hb1 HZ)
     | (go_at_call 267;refine (HBN.out _).mono ?_;rintro e w2 ⟨rfl,hb2⟩;have HB2:=zZ (HB1.out.trans (hb2.mono hsz1));clear hb2 HBN))
    all_goals go_wp2
    all_goals exact ⟨⟨j+1,zU,zS,by rw [HSTR.out],HB2.out⟩,by simp [intOf];omega⟩
  . have e:j=n:=zU
    subst e;go_wp2;go_ret;exact ⟨rfl,HB.out⟩
end Go.Proofs.YtlncjgnomhpjnabGreatDoor
