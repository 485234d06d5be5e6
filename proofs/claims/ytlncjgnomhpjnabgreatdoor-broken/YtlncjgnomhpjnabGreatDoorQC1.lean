import Derived.Test.YtlncjgnomhpjnabGreatDoorChecked
import GoSem.Claim
import GoSem.ClaimJoined
import GoSem.ClaimMapViews
import Derived.JoinedTies
import Derived.KernelRfl
import Derived.RowKit
import Derived.WalkKit
import Derived.WalkSpells
import Derived.WalkLawsBesides
import Derived.Laws.IdiomStrings
import Derived.Deep.OwnRows
import Derived.Deep.QuietTactic
import Derived.BigQuiet
import Derived.Lib.Bytealg
import Derived.Lib.Strings
import Derived.Lib.Walk
import Derived.Laws.CopyOwn
import Derived.Test.YtlncjgnomhpjnabGreatDoorRows
import Derived.Lib.LaidTab
import Derived.Test.YtlncjgnomhpjnabGreatDoorQC0
set_option maxHeartbeats 8000000
namespace Go.Proofs.YtlncjgnomhpjnabGreatDoor
open Go.Value renaming int → O
open Go.IntKind renaming i64 → I
open Go.Proofs.Tryz (prog)
open Go.RowKit
def strOf (f:Nat->UInt8) (n:Nat):ByteArray:=⟨((List.range n).map f).toArray⟩
theorem z8s:∀ (l:List UInt8) (s:ByteArray),l.foldl (fun r n=>r.push n) s=⟨s.data ++ l.toArray⟩
 | [],s=>by simp
 | c :: l,s=>by
  rw [List.foldl_cons,z8s l]
  congr 1
  simp [ByteArray.push]
theorem z1P {P:Program} (w:World) (src dst e:TypeId) (b o n c:Nat) (f:Nat->UInt8)
 (hs:P.underlying src=some (.slice e)) (he:P.underlying e=some (.int .u8)) (hd:P.underlying dst=some .string)
 (h:∀ j,j < n->w.cell? ⟨b,o+j,none⟩=some (.int .u8 ((f j).toNat:Int))) :
 (convert src dst (.slice (some ⟨b,o,none⟩) n c)).run P w=.ok (.string (strOf f n)) w:=by
 rw [run_convert_bytes_string w src dst e _ _ _ hs he hd];have hl:=run_loadCells (P:=P) w ⟨b,o,none⟩ n (fun j=>.int .u8 ((f j).toNat:Int)) (fun j hj=>by rw [← h j hj];cases j <;> simp [Addr.add]);have e1:((List.range n).map fun j=>Value.int .u8 ((f j).toNat:Int))=((List.range n).map fun j=>((f j).toNat:Int)).map (Value.int .u8):=by simp
 rw [e1] at hl;rw [run_bytesToString w ⟨b,o,none⟩ n c _ hl]
 congr 2
 have e2:∀ (l:List Nat) (s:ByteArray),(l.map fun j=>((f j).toNat:Int)).foldl (fun r n=>r.push (UInt8.ofNat n.toNat)) s=(l.map f).foldl (fun r n=>r.push n) s:=by
  intro l
  induction l with
  | nil=>intro s;rfl
  | cons x l ih=>intro s;simp only [List.map_cons,List.foldl_cons];rw [ih];simp
 rw [e2,z8s];simp [strOf]
def z0I (f:Nat->Bool):Nat->Nat
 | 0=>0
 | n+1=>2 * z0I f n+(f n).toNat
theorem z1Y (f:Nat->Bool):∀ n,z0I f n < 2 ^ n
 | 0=>by simp [z0I]
 | n+1=>by
  have:=z1Y f n;have h:(f n).toNat<=1:=Bool.toNat_le _;simp only [z0I,Nat.pow_succ];omega
def num (b:Nat->Bool) (p k:Nat):Nat:=z0I (fun i=>b (p+i)) k
theorem z3J (b:Nat->Bool) (p k:Nat):num b p k < 2 ^ k:=z1Y _ _
def sgn (b:Nat->Bool) (p k:Nat):Int:=if 2 ^ (k - 1)<=num b p k then (num b p k:Int) - 2 ^ k else num b p k
def zrun (b:Nat->Bool):Nat->Nat->Nat
 | 0,_=>0
 | m+1,p=>if b p then 0 else zrun b m (p+1)+1
theorem z5m (b:Nat->Bool):∀ m p,zrun b m p<=m
 | 0,_=>Nat.le_refl _
 | m+1,p=>by
  unfold zrun;have:=z5m b m (p+1);split <;> omega
theorem z5n (b:Nat->Bool):∀ m p i,i < zrun b m p->b (p+i)=false
 | 0,_,i,h=>absurd h (by simp [zrun])
 | m+1,p,i,h=>by
  unfold zrun at h
  by_cases e:b p=true
  . simp [e] at h
  . simp only [e] at h
    cases i with
    | zero=>simpa using e
    | succ i =>
     have:=z5n b m (p+1) i (by simp at h;omega);rw [← this];congr 1;omega
theorem z7o (b:Nat->Bool):∀ m p,zrun b m p < m->b (p+zrun b m p)=true
 | 0,_,h=>absurd h (by omega)
 | m+1,p,h=>by
  unfold zrun at h ⊢
  by_cases e:b p=true
  . simp [e]
  . simp only [e] at h ⊢
    simp at h ⊢;have:=z7o b m (p+1) (by omega);rw [← this];congr 1;omega
theorem y3b (b:Nat->Bool) (m p q:Nat) (hq:q<=m) (h0:∀ i,i < q->b (p+i)=false) (h1:q < m->b (p+q)=true):zrun b m p=q:=by
 have hle:=z5m b m p
 by_cases h:zrun b m p < q
 . have:=z7o b m p (by omega)
   rw [h0 _ h] at this;cases this
 . by_cases h2:q < zrun b m p
   . have:=z5n b m p q h2
     rw [h1 (by omega)] at this;cases this
   . omega
def ltr (b:Bool):UInt8:=if b then 49 else 48
theorem z9R (b:Bool):(ltr b).toNat=48+b.toNat:=by cases b <;> rfl
def Bits (s:ByteArray) (b:Nat->Bool):Prop:=∀ j (h:j < s.size),s[j]=ltr (b j)
def unf (f:Nat):Int:=if f % 2=0 then (f:Int) / 2 else -(((f:Int)+1) / 2)
def rice (b:Nat->Bool) (N k p:Nat):Option (Int × Nat) :=
 if p+zrun b (N - p) p+1+k<=N then some (unf (zrun b (N - p) p * 2 ^ k+num b (p+zrun b (N - p) p+1) k),p+zrun b (N - p) p+1+k) else none
theorem y8g (f:Nat):-(f:Int) - 1<=unf f/\unf f<=f:=by
 unfold unf;split <;> omega
theorem y7s {b:Nat->Bool} {N k p p':Nat} {v:Int} (h:rice b N k p=some (v,p')) (hN:N<=80000) (hk:k<=14):(-1400000000<=v/\v<=1400000000)/\p<=p'/\p'<=N:=by
 unfold rice at h;split at h
 . rename_i hle
   simp only [Option.some.injEq,Prod.mk.injEq] at h;obtain ⟨rfl,rfl⟩:=h;have h2:2 ^ k<=16384:=Nat.le_trans (Nat.pow_le_pow_right (by omega) hk) (by decide);have h3:=z3J b (p+zrun b (N - p) p+1) k;have h4:zrun b (N - p) p * 2 ^ k<=80000 * 16384:=Nat.mul_le_mul (by omega) h2;have h5:=y8g (zrun b (N - p) p * 2 ^ k+num b (p+zrun b (N - p) p+1) k);refine ⟨⟨by omega,by omega⟩,by omega,hle⟩
 . cases h
def tab (r c:Nat):Int :=
 match r,c with
 | 1,0=>1
 | 2,0=>2
 | 2,1=>-1
 | 3,0=>3
 | 3,1=>-3
 | 3,2=>1
 | 4,0=>4
 | 4,1=>-6
 | 4,2=>4
 | 4,3=>-1
 | _,_=>0
def ord (kind:Nat):Nat:=if kind=7 then 2 else kind - 2
def scl (kind:Nat):Nat:=if kind=7 then 3 else 0
def wt (kind:Nat) (a c:Int) (j:Nat):Int:=if kind=7 then (if j=0 then a else if j=1 then c else 0) else tab (kind - 2) j
def sumG (w:Nat->Int) (x:Nat->Int) (i:Nat):Nat->Int
 | 0=>0
 | m+1=>sumG w x i m+w m * x (i - 1 - m)
def z0z (kind:Nat) (a c:Int) (x:Nat->Int) (i:Nat):Int:=sumG (wt kind a c) x i (ord kind) / (if kind=7 then 8 else 1)
def z0s (v lo hi:Int):Bool:=decide (lo<=v) && decide (v<=hi)
theorem z0h (v lo hi:Int):z0s v lo hi=true↔lo<=v/\v<=hi:=by simp [z0s]
def fitsB (d:Nat) (v:Int):Bool:=z0s v (-(2 ^ (d - 1))) (2 ^ (d - 1) - 1)
theorem pow12 {d:Nat} (h:d<=13):(2:Int) ^ (d - 1)<=4096:=by
 have h1:2 ^ (d - 1)<=4096:=Nat.le_trans (Nat.pow_le_pow_right (by omega) (by omega:d - 1<=12)) (by decide);have e:((2 ^ (d - 1):Nat):Int)=(2:Int) ^ (d - 1):=by simp
 rw [← e];exact Int.ofNat_le.2 h1
theorem z4o {d:Nat} {v:Int} (h:fitsB d v=true) (hd:d<=13):-4096<=v/\v<=4096:=by
 unfold fitsB at h;rw [z0h] at h;have:=pow12 hd;omega
theorem z2u (b:Nat->Bool) (p:Nat) {d:Nat} (h1:1<=d):fitsB d (sgn b p d)=true:=by
 unfold fitsB sgn;rw [z0h];have h2:=z3J b p d;have e0:2 ^ d=2 * 2 ^ (d - 1):=by
  obtain ⟨m,rfl⟩:∃ m,d=m+1:=⟨d - 1,by omega⟩;rw [Nat.pow_succ];simp [Nat.mul_comm]
 have e1:(2:Int) ^ d=2 * 2 ^ (d - 1):=by
  obtain ⟨m,rfl⟩:∃ m,d=m+1:=⟨d - 1,by omega⟩;rw [Int.pow_succ];simp [Int.mul_comm]
 have e2:((2 ^ (d - 1):Nat):Int)=(2:Int) ^ (d - 1):=by simp
 rw [e0] at h2;generalize hq:2 ^ (d - 1)=q at *;rw [e1,← e2];split <;> omega
structure St where
 p:Nat
 k:Nat
 x:Nat->Int
def updI (x:Nat->Int) (i:Nat) (v:Int) (j:Nat):Int:=if j=i then v else x j
structure Job where
 b:Nat->Bool
 N:Nat
 w:Nat
 kind:Nat
 a:Int
 c:Int
 size:Nat
def Job.rdK (J:Job) (s:St):Option St:=if s.p+4<=J.N/\num J.b s.p 4<=14 then some ⟨s.p+4,num J.b s.p 4,s.x⟩ else none
def Job.plc (J:Job) (i:Nat) (s:St):Option St :=
 if i < ord J.kind then some s else
  match rice J.b J.N s.k s.p with
  | none=>none
  | some (v,p')=>if fitsB J.w (z0z J.kind J.a J.c s.x i+v) then some ⟨p',s.k,updI s.x i (z0z J.kind J.a J.c s.x i+v)⟩ else none
theorem Job.plc_none {J:Job} {i:Nat} {s:St} (hi:¬ i < ord J.kind) (h:rice J.b J.N s.k s.p=none):J.plc i s=none:=by
 unfold Job.plc;rw [if_neg hi,h]
theorem Job.plc_no {J:Job} {i:Nat} {s:St} {v:Int} {p':Nat} (hi:¬ i < ord J.kind) (h:rice J.b J.N s.k s.p=some (v,p')) (hf:fitsB J.w (z0z J.kind J.a J.c s.x i+v)=false):J.plc i s=none:=by
 unfold Job.plc;rw [if_neg hi,h];simp only [hf];rfl
theorem Job.plc_yes {J:Job} {i:Nat} {s:St} {v:Int} {p':Nat} (hi:¬ i < ord J.kind) (h:rice J.b J.N s.k s.p=some (v,p')) (hf:fitsB J.w (z0z J.kind J.a J.c s.x i+v)=true) :
 J.plc i s=some ⟨p',s.k,updI s.x i (z0z J.kind J.a J.c s.x i+v)⟩:=by
 unfold Job.plc;rw [if_neg hi,h];simp only [hf];rfl
def Job.R (J:Job) (s0:St):Nat->Option St
 | 0=>some s0
 | i+1=>(J.R s0 i).bind fun s=>(if i % J.size=0 then J.rdK s else some s).bind (J.plc i)
def Job.U (J:Job) (s0:St) (from':Nat):Nat->Option St
 | 0=>(J.R s0 from').bind J.rdK
 | t+1=>(J.U s0 from' t).bind (J.plc (from'+t))
theorem Job.U_eq (J:Job) (s0:St) (f:Nat) (hf:f % J.size=0):∀ t,1<=t->t<=J.size->J.U s0 f t=J.R s0 (f+t)
 | 0,h,_=>absurd h (by omega)
 | 1,_,_=>by
  show (J.U s0 f 0).bind _=J.R s0 (f+1)
  simp only [Job.U,Job.R,hf,if_true,Nat.add_zero];cases J.R s0 f <;> rfl
 | t+2,_,h=>by
  have ih:=J.U_eq s0 f hf (t+1) (by omega) (by omega);have hne:¬ (f+(t+1)) % J.size=0:=by
   rw [Nat.add_mod,hf,Nat.zero_add,Nat.mod_mod,Nat.mod_eq_of_lt (by omega)];omega
  show (J.U s0 f (t+1)).bind _=J.R s0 (f+(t+1)+1)
  rw [ih];simp only [Job.R,if_neg hne];cases J.R s0 (f+(t+1)) <;> rfl
theorem Job.U_skip (J:Job) (s0:St):∀ t,t<=ord J.kind->J.U s0 0 t=J.U s0 0 0
 | 0,_=>rfl
 | t+1,h=>by
  have ih:=J.U_skip s0 t (by omega)
  show (J.U s0 0 t).bind _=_
  rw [ih];have:∀ s,J.plc (0+t) s=some s:=fun s=>by unfold Job.plc;rw [if_pos (by omega)]
  cases h0:J.U s0 0 0 with
  | none=>rfl
  | some s=>exact this s
theorem Job.R_none (J:Job) (s0:St) {i j:Nat} (h:J.R s0 i=none) (hij:i<=j):J.R s0 j=none:=by
 induction j with
 | zero =>
           have:i=0:=by omega
           subst this;exact h
 | succ j ih =>
  by_cases e:i=j+1
  . subst e;exact h
  . simp only [Job.R,ih (by omega)];rfl
theorem Job.R_fits (J:Job) (s0:St) (h0:∀ j,j < ord J.kind->fitsB J.w (s0.x j)=true):∀ i st,J.R s0 i=some st->∀ j,j < max i (ord J.kind)->fitsB J.w (st.x j)=true
 | 0,st,h,j,hj=>by
  simp only [Job.R,Option.some.injEq] at h;subst h;exact h0 j (by omega)
 | i+1,st,h,j,hj=>by
  simp only [Job.R] at h;cases hR:J.R s0 i with
  | none=>rw [hR] at h;simp at h
  | some s =>
   have ih:=J.R_fits s0 h0 i s hR;rw [hR,Option.bind_some] at h;have hx:∃ s',(if i % J.size=0 then J.rdK s else some s)=some s'/\s'.x=s.x:=by
    cases hs:(if i % J.size=0 then J.rdK s else some s) with
    | none=>rw [hs] at h;simp at h
    | some s' =>
     refine ⟨s',rfl,?_⟩;split at hs
     . unfold Job.rdK at hs
       split at hs
       . simp only [Option.some.injEq] at hs;subst hs;rfl
       . cases hs
     . simp only [Option.some.injEq] at hs;subst hs;rfl
   obtain ⟨s',hs',hxx⟩:=hx;rw [hs',Option.bind_some] at h;unfold Job.plc at h;split at h
   . rename_i hi
     simp only [Option.some.injEq] at h;subst h;rw [hxx];exact ih j (by omega)
   . rename_i hi
     split at h
     . cases h
     . split at h
       . rename_i hf
         simp only [Option.some.injEq] at h;subst h;simp only [updI];split
         . exact hf
         . rw [hxx];exact ih j (by omega)
       . cases h
open Go.RowKit Go.Deep
set_option linter.unusedVariables false
theorem z0V {k:IntKind} {a b:Int} (h:a=b):Ending.returned (.int k a)=.returned (.int k b):=by rw [h]
theorem Hid.mk' {p:Prop} (h:p):Hid p:=h
def Rd (w:World) (B:Nat) (s:ByteArray) (p:Nat):Prop:=w.heap[B]?=some (.cells #[.string s,O I p] 368 (0,0))
theorem Rd.c0 {w:World} {B:Nat} {s:ByteArray} {p:Nat} (h:Rd w B s p):w.cell? ⟨B,0,none⟩=some (.string s):=by simp [World.cell?,show w.heap[B]?=_ from h]
theorem Rd.c1 {w:World} {B:Nat} {s:ByteArray} {p:Nat} (h:Rd w B s p):w.cell? ⟨B,1,none⟩=some (O I p):=by simp [World.cell?,show w.heap[B]?=_ from h]
theorem Rd.f1 {w:World} {B:Nat} {s:ByteArray} {p:Nat} (h:Rd w B s p):w.frozen? ⟨B,1,none⟩=false:=by simp [World.frozen?,show w.heap[B]?=_ from h]
theorem Rd.lt {w:World} {B:Nat} {s:ByteArray} {p:Nat} (h:Rd w B s p):B < w.heap.size:=(Array.getElem?_eq_some_iff.1 h).1
theorem Rd.set {w:World} {B:Nat} {s:ByteArray} {p q:Nat} (h:Rd w B s p) {v:Value} (hv:v=O I q):Rd (w.setCell ⟨B,1,none⟩ v) B s q:=by
 subst hv;simp [Rd,World.setCell,Array.getElem?_modify,show w.heap[B]?=_ from h]
theorem Rd.of {w w':World} {B:Nat} {s:ByteArray} {p:Nat} (h:Rd w B s p) (e:w'.heap[B]?=w.heap[B]?):Rd w' B s p:=e.trans h
def Chg (B:Nat) (w w':World):Prop:=w.grownBy w' (some B)
theorem Chg.refl (B:Nat) (w:World):Chg B w w:=⟨rfl,rfl,rfl,Nat.le_refl _,fun _ _ _=>rfl⟩
theorem Chg.trans {B:Nat} {a b c:World} (h:Chg B a b) (k:Chg B b c):Chg B a c :=
 ⟨k.os.trans h.os,k.tape.trans h.tape,k.output.trans h.output,Nat.le_trans h.size k.size,fun j hj hne=>(k.block j (Nat.lt_of_lt_of_le hj h.size) hne).trans (h.block j hj hne)⟩
theorem Chg.drewN {B:Nat} {w w':World} (h:Chg B w w') (m:Nat):Chg B w (w'.drewN m):=⟨h.os,h.tape,h.output,h.size,h.block⟩
theorem Chg.below {B:Nat} {w w' w'':World} (h:Chg B w w') (k:Below w'.heap.size w' w''):Chg B w w'' :=
 h.trans ⟨k.os,k.tape,k.output,k.size,fun j hj _=>k.block j hj⟩
theorem Chg.set {B:Nat} {w w':World} (h:Chg B w w') (i:Nat) (v:Value):Chg B w (w'.setCell ⟨B,i,none⟩ v) :=
 h.trans ⟨rfl,rfl,rfl,by rw [World.size_setCell];exact Nat.le_refl _,fun j _ hne=>blk_setCell_other _ _ _ _ (fun e=>hne (by rw [e]))⟩
theorem Chg.toBelow {B A:Nat} {w w':World} (h:Chg B w w') (hA:A<=B) (hs:A<=w.heap.size):Below A w w' :=
 ⟨h.os,h.tape,h.output,h.size,fun k hk=>h.block k (by omega) (fun e=>by cases e;omega)⟩
theorem y1Z (s:ByteArray) (b:Nat->Bool) (p k c x y i:Nat) (w:World) (t:TypeId) (hb:Bits s b) (hle:p+k<=s.size) (hi:i < k) :
 (w.alloc (.cells (bytesRow (s.extract p (p+k)) c) t (x,y))).cell? ⟨w.heap.size,i,none⟩=some (.int .u8 ((48+(b (p+i)).toNat:Nat):Int)):=by
 have h1:(w.alloc (.cells (bytesRow (s.extract p (p+k)) c) t (x,y))).heap[w.heap.size]?=some (.cells (bytesRow (s.extract p (p+k)) c) t (x,y)):=blk_alloc_new _ _;have hd:(s.extract p (p+k)).data=s.data.extract p (p+k):=by simp
 have hsz:i < (s.extract p (p+k)).data.size:=by
  rw [hd,Array.size_extract];have:s.data.size=s.size:=rfl;omega
 simp only [World.cell?,h1];rw [bytesRow_at _ _ _ hsz];have e:(s.extract p (p+k)).data[i]=s[p+i]'(by omega):=by
  simp only [hd];rw [Array.getElem_extract];rfl
 rw [e,hb,z9R];simp
theorem z2l (B:Nat) (s:ByteArray) (p k:Nat) (w:World) (hs:s.size<=80000) (hp:p<=s.size) (hk:k<=16) (hR:Rd w B s p) (hlt:s.size < p+k) :
 Calls prog 269 #[.pointer (some ⟨B,0,none⟩),O I k] w fun e w'=>e=.returned (.tuple #[O I 0,.bool false])/\∃ m,w'=w.drewN m:=by
 have h0:=hR.c0;have h1:=hR.c1
 go_enter Tryz.func269,Tryz.ntmps269
 go_wp2
 go_region
 all_goals go_wp2
 go_ret2;exact ⟨rfl,1,rfl⟩
theorem z0W (B:Nat) (s:ByteArray) (b:Nat->Bool) (p k:Nat) (w:World) (hs:s.size<=80000) (hk:k<=16) (hR:Rd w B s p) (hle:p+k<=s.size) (hb:Bits s b) :
 Calls prog 269 #[.pointer (some ⟨B,0,none⟩),O I k] w fun e w'=>e=.returned (.tuple #[O I (num b p k),.bool true])/\Rd w' B s (p+k)/\Chg B w w':=by
 have h0:=hR.c0;have h1:=hR.c1;have HB:Hid (Bits s b):=hb;clear hb;have hcv:=fun u:World=>run_bytes_of_string (P:=prog) u 9 33 5 (s.extract p (p+k)) Tryz.underlying9 Tryz.underlying33 Tryz.underlying5
 have hcell:∀ c x y i,i < k->(w.alloc (.cells (bytesRow (s.extract p (p+k)) c) 5 (x,y))).cell? ⟨w.heap.size,i,none⟩=some (.int .u8 ((48+(b (p+i)).toNat:Nat):Int)):=fun c x y i hi =>
  y1Z s b p k c x y i w 5 HB.out hle hi
 have ha1:∀ o,(w.alloc o).cell? ⟨B,1,none⟩=some (O I p):=fun o=>(World.cell?_alloc_lt w o ⟨B,1,none⟩ hR.lt).trans h1
 have hf1:∀ o,(w.alloc o).frozen? ⟨B,1,none⟩=false:=fun o=>(World.frozen?_alloc_old w o ⟨B,1,none⟩ (Nat.ne_of_lt hR.lt)).trans hR.f1
 go_enter Tryz.func269,Tryz.ntmps269
 go_wp2
 go_region
 all_goals go_wp2
 go_region
 all_goals go_wp2
 clear hcv
 go_loop [6,8,38] (fun v _ i=>∃ j:Nat,j<=k/\i=O I j/\v=O I (z0I (fun i=>b (p+i)) j)) (fun _ _ i=>k - (intOf i).toNat)
 case atStart=>exact ⟨0,Nat.zero_le _,rfl,rfl⟩
 case round =>
  obtain ⟨j,hj,rfl,rfl⟩:=hrel
  by_cases hlt:j < k
  . have hcj:=fun c x y=>hcell c x y j hlt
    have HF:Hid (z0I (fun i=>b (p+i)) (j+1)=2 * z0I (fun i=>b (p+i)) j+(b (p+j)).toNat):=rfl;have h3:=z1Y (fun i=>b (p+i)) j;have h4:2 ^ j<=65536:=Nat.le_trans (Nat.pow_le_pow_right (by omega) (by omega:j<=16)) (by decide);have h5:z0I (fun i=>b (p+i)) j < 65536:=by omega
    have h6:(b (p+j)).toNat<=1:=Bool.toNat_le _;clear h3 h4;go_wp2
    go_round
    case rel=>exact ⟨j+1,by omega,by go_num,by rw [HF.out];go_num⟩
    case measure=>simp [intOf];omega
  . have e:j=k:=by omega
    subst e;go_wp2;go_ret2;refine ⟨rfl,Rd.set (Rd.of hR (blk_alloc_lt _ _ _ hR.lt)) (by go_num),?_⟩;exact ((((Chg.refl B w).below (zX.alloc zY _)).set 1 _).drewN 3)
theorem z3y (b:Nat->Bool):∀ m p,Lib.indexByte ((List.range m).map fun i=>ltr (b (p+i))) 49=if zrun b m p < m then (zrun b m p:Int) else -1
 | 0,p=>by simp [Lib.indexByte,zrun]
 | m+1,p=>by
  have ih:=z3y b m (p+1);rw [List.range_succ_eq_map,List.map_cons,List.map_map];have e:((fun i=>ltr (b (p+i))) ∘ Nat.succ)=fun i=>ltr (b (p+1+i)):=by
   funext i;simp only [Function.comp];congr 2;omega
  rw [e,Lib.indexByte,ih];have hz:=z5m b m (p+1);rw [Nat.add_zero];cases hb:b p
  . have h1:(ltr false == 49)=false:=rfl
    rw [h1,zrun,hb]
    by_cases h:zrun b m (p+1) < m
    . have h2:((zrun b m (p+1):Int) == -1)=false:=by simp
      have h3:zrun b m (p+1)+1 < m+1:=by omega
      simp [h,h2]
    . have h3:¬ zrun b m (p+1)+1 < m+1:=by omega
      simp [h]
  . have h1:(ltr true == 49)=true:=rfl
    rw [h1,zrun,hb];simp
theorem z3K (s:ByteArray) (b:Nat->Bool) (p:Nat) (hb:Bits s b) (hp:p<=s.size):(s.extract p s.size).data.toList=(List.range (s.size - p)).map fun i=>ltr (b (p+i)):=by
 have hd:(s.extract p s.size).data=s.data.extract p s.size:=by simp
 have hs:s.data.size=s.size:=rfl;rw [hd];apply List.ext_getElem
 . simp
 . intro i h1 h2
   rw [Array.getElem_toList,Array.getElem_extract];simp only [List.getElem_map,List.getElem_range];have hi:i < s.size - p:=by simpa using h2
   exact hb (p+i) (by omega)
set_option maxRecDepth 100000 in
theorem z7p (s:ByteArray) (c:Int) (w:World) :
 Calls prog 354 #[.string s,.int .u8 c] w fun e w'=>e=.returned (O I (Lib.indexByte s.data.toList c.toNat.toUInt8))/\w'=w:=by
 go_enter Tryz.func354,Tryz.ntmps354
 go_wp2;rw [run_callFunc_extern Tryz.func355 (by kernel_rfl) (by kernel_rfl) (by kernel_rfl) (e:=Extern.BytealgIndexByte.indexByte) (by kernel_rfl),Lib.run_indexByteString];simp only [Result.andThen];rw [Oper.upon_value];go_wp2;go_ret;exact ⟨rfl,rfl⟩
theorem z8t (s:ByteArray) (c:Int) (w:World) :
 Calls prog 348 #[.string s,.int .u8 c] w fun e w'=>e=.returned (O I (Lib.indexByte s.data.toList c.toNat.toUInt8))/\w'=w:=by
 go_enter Tryz.func348,Tryz.ntmps348
 go_wp2_with (go_at_call 354;refine (z7p _ _ _).mono ?_;rintro e w' ⟨rfl,rfl⟩)
 go_ret;exact ⟨rfl,rfl⟩
theorem z4p (d m:Nat) (h:2 ^ d<=m):(2:Int) ^ d<=(m:Int):=by
 have e:((2 ^ d:Nat):Int)=(2:Int) ^ d:=by simp
 rw [← e];exact Int.ofNat_le.2 h
theorem z2v (d:Nat):(1:Int)<=2 ^ d:=by have:0 < 2 ^ d:=Nat.two_pow_pos _;exact_mod_cast this
theorem z8u (d:Nat):((2 ^ d:Nat):Int)=(2:Int) ^ d:=by simp
theorem z3L (B:Nat) (s:ByteArray) (p k:Nat) (w:World) (hs:s.size<=80000) (hp:p<=s.size) (hk:k<=16) (hR:Rd w B s p) (hlt:s.size < p+k) :
 Calls prog 329 #[.pointer (some ⟨B,0,none⟩),O I k] w fun e w'=>e=.returned (.tuple #[O I 0,.bool false])/\∃ m,w'=w.drewN m:=by
 go_enter Tryz.func329,Tryz.ntmps329
 go_wp2_with (go_at_call 269;refine (z2l B s p k _ hs hp hk hR hlt).mono ?_;rintro e w' ⟨rfl,m,rfl⟩)
 go_ret2;exact ⟨rfl,m,rfl⟩
theorem z3h (B:Nat) (s:ByteArray) (b:Nat->Bool) (p k:Nat) (w:World) (hs:s.size<=80000) (hk1:1<=k) (hk:k<=16) (hR:Rd w B s p) (hle:p+k<=s.size) (hb:Bits s b) :
 Calls prog 329 #[.pointer (some ⟨B,0,none⟩),O I k] w fun e w'=>e=.returned (.tuple #[O I (sgn b p k),.bool true])/\Rd w' B s (p+k)/\Chg B w w':=by
 have hN:=z0W B s b p k w hs hk hR hle hb;have q1:=z2v (k - 1);have q2:=z4p (k - 1) 32768 (Nat.le_trans (Nat.pow_le_pow_right (by omega) (by omega:k - 1<=15)) (by decide));have q3:=z2v k;have q4:=z4p k 65536 (Nat.le_trans (Nat.pow_le_pow_right (by omega) (by omega:k<=16)) (by decide));have q5:num b p k < 65536:=Nat.lt_of_lt_of_le (z3J b p k) (Nat.le_trans (Nat.pow_le_pow_right (by omega) (by omega:k<=16)) (by decide));have HS:Hid (sgn b p k=if 2 ^ (k - 1)<=num b p k then (num b p k:Int) - 2 ^ k else num b p k):=rfl;clear hb
 by_cases h:2 ^ (k - 1)<=num b p k
 . have h1:(2:Int) ^ (k - 1)<=(num b p k:Int):=by rw [← z8u];exact Int.ofNat_le.2 h
   go_enter Tryz.func329,Tryz.ntmps329
   go_wp2_with (go_at_call 269;refine hN.mono ?_;rintro e w' ⟨rfl,hR',hC⟩)
   go_ret2;exact ⟨by rw [HS.out,if_pos h];rfl,hR',hC⟩
 . have h1:(num b p k:Int) < (2:Int) ^ (k - 1):=by rw [← z8u];exact Int.ofNat_lt.2 (by omega)
   go_enter Tryz.func329,Tryz.ntmps329
   go_wp2_with (go_at_call 269;refine hN.mono ?_;rintro e w' ⟨rfl,hR',hC⟩)
   go_ret2;exact ⟨by rw [HS.out,if_neg h];rfl,hR',hC⟩
theorem y3c (B:Nat) (s:ByteArray) (p:Nat) (w:World) (hR:Rd w B s p) :
 Calls prog 271 #[.pointer (some ⟨B,0,none⟩)] w fun e w'=>e=.returned (O I p)/\w'=w:=by
 have h1:=hR.c1
 go_enter Tryz.func271,Tryz.ntmps271
 go_wp2;go_ret;exact ⟨rfl,rfl⟩
theorem z1n (s:ByteArray) (w:World) :
 Calls prog 268 #[.string s] w fun e w'=>e=.returned (.pointer (some ⟨w.heap.size,0,none⟩))/\Rd w' w.heap.size s 0/\Below w.heap.size w w':=by
 go_enter Tryz.func268,Tryz.ntmps268
 go_wp2;go_ret;exact ⟨rfl,blk_alloc_new _ _,zX.alloc zY _⟩
theorem y2a (f:Nat) (w:World) (hf:f<=4294967296) :
 Calls prog 349 #[O I f] w fun e w'=>e=.returned (O I (unf f))/\w'=w:=by
 have HU:Hid (unf f=if f % 2=0 then (f:Int) / 2 else -(((f:Int)+1) / 2)):=rfl
 by_cases h:f % 2=0
 . have h1:((f:Int) % 2 == 0)=true:=by simp;omega
   go_enter Tryz.func349,Tryz.ntmps349
   go_wp2;go_ret;exact ⟨z0V (by rw [HU.out,if_pos h]),rfl⟩
 . have h1:((f:Int) % 2 == 0)=false:=by simp;omega
   go_enter Tryz.func349,Tryz.ntmps349
   go_wp2;go_ret;refine ⟨z0V ?_,rfl⟩;rw [HU.out,if_neg h,Int.tdiv_eq_ediv_of_nonneg (by omega)];exact IntWalk.wrap64_in _ ⟨by omega,by omega⟩
theorem z8v (s:ByteArray) (b:Nat->Bool) (p q:Nat) (w:World) (hb:Bits s b) (hp:p<=s.size) (hq:zrun b (s.size - p) p=q) (h:q < s.size - p) :
 Calls prog 348 #[.string (s.extract p s.size),.int .u8 49] w fun e w'=>e=.returned (O I (q:Int))/\w'=w:=by
 refine (z8t _ _ w).mono fun e w' h'=>⟨h'.1.trans (z0V ?_),h'.2⟩
 rw [z3K s b p hb hp];refine (z3y b _ p).trans ?_;rw [hq,if_pos h]
theorem y5v (s:ByteArray) (b:Nat->Bool) (p:Nat) (w:World) (hb:Bits s b) (hp:p<=s.size) (h:¬ zrun b (s.size - p) p < s.size - p) :
 Calls prog 348 #[.string (s.extract p s.size),.int .u8 49] w fun e w'=>e=.returned (O I (-1))/\w'=w:=by
 refine (z8t _ _ w).mono fun e w' h'=>⟨h'.1.trans (z0V ?_),h'.2⟩
 rw [z3K s b p hb hp];refine (z3y b _ p).trans ?_;rw [if_neg h]
theorem y7t (B:Nat) (s:ByteArray) (b:Nat->Bool) (p k:Nat) (w:World) (hs:s.size<=80000) (hp:p<=s.size) (hk:k<=14) (hR:Rd w B s p) (hb:Bits s b) (hno:rice b s.size k p=none) :
 Calls prog 342 #[.pointer (some ⟨B,0,none⟩),O I k] w fun e w'=>e=.returned (.tuple #[O I 0,.bool false])/\(∃ q,q<=s.size/\Rd w' B s q)/\Chg B w w':=by
 have hno':¬ p+zrun b (s.size - p) p+1+k<=s.size:=by
  intro h;simp [rice,h] at hno
 clear hno;have h0:=hR.c0;have h1:=hR.c1;have f1:=hR.f1
 by_cases hfound:zrun b (s.size - p) p < s.size - p
 . have HIX:=fun u=>z8v s b p _ u hb hp rfl hfound
   generalize zrun b (s.size - p) p=q at *;have HN:Hid (∀ m,Calls prog 269 #[.pointer (some ⟨B,0,none⟩),O I k] ((w.drewN m).setCell ⟨B,1,none⟩ (O I ((p:Int)+((q:Int)+1)))) fun e w'=>e=.returned (.tuple #[O I 0,.bool false])/\∃ j,w'=((w.drewN m).setCell ⟨B,1,none⟩ (O I ((p:Int)+((q:Int)+1)))).drewN j):=fun m =>
    z2l B s (p+(q+1)) k _ hs (by omega) (by omega) (Rd.set (Rd.of hR rfl) (by go_num)) (by omega)
   have HC:Hid (∀ m j,Rd (((w.drewN m).setCell ⟨B,1,none⟩ (O I ((p:Int)+((q:Int)+1)))).drewN j) B s (p+(q+1))/\Chg B w (((w.drewN m).setCell ⟨B,1,none⟩ (O I ((p:Int)+((q:Int)+1)))).drewN j)):=fun m j =>
    ⟨Rd.set (Rd.of hR rfl) (by go_num),(((Chg.refl B w).drewN m).set 1 _).drewN j⟩
   have HIXX:Hid _:=HIX;clear HIX hb hR
   go_enter Tryz.func342,Tryz.ntmps342
   go_wp2
   go_quiet ((go_at_call 348;exact Calls.quiet_of_same (HIXX.out _)))
   go_wp2_with (go_at_call 269;refine (HN.out _).mono ?_;rintro e w' ⟨rfl,j,rfl⟩)
   go_ret2;exact ⟨rfl,⟨_,by omega,(HC.out _ _).1⟩,(HC.out _ _).2⟩
 . have HIXX:Hid _:=fun u=>y5v s b p u hb hp hfound
   go_enter Tryz.func342,Tryz.ntmps342
   go_wp2
   go_quiet ((go_at_call 348;exact Calls.quiet_of_same (HIXX.out _)))
   go_wp2;go_ret2;exact ⟨rfl,⟨p,hp,hR⟩,(Chg.refl _ _).drewN _⟩
theorem y5w (B:Nat) (s:ByteArray) (b:Nat->Bool) (p k:Nat) (w:World) (hs:s.size<=80000) (hp:p<=s.size) (hk:k<=14) (hR:Rd w B s p) (hb:Bits s b) (v:Int) (p':Nat) (hyes:rice b s.size k p=some (v,p')) :
 Calls prog 342 #[.pointer (some ⟨B,0,none⟩),O I k] w fun e w'=>e=.returned (.tuple #[O I v,.bool true])/\Rd w' B s p'/\Chg B w w':=by
 have hz:=z5m b (s.size - p) p;have hle:p+zrun b (s.size - p) p+1+k<=s.size:=by
  by_cases h:p+zrun b (s.size - p) p+1+k<=s.size
  . exact h
  . simp [rice,h] at hyes
 simp only [rice,if_pos hle,Option.some.injEq,Prod.mk.injEq] at hyes;obtain ⟨rfl,rfl⟩:=hyes;have h0:=hR.c0;have h1:=hR.c1;have f1:=hR.f1;have HIX:=fun u=>z8v s b p _ u hb hp rfl (show zrun b (s.size - p) p < s.size - p by omega)
 generalize zrun b (s.size - p) p=q at *;have e1:p+q+1=p+(q+1):=by omega
 rw [e1] at hle;have HN:Hid (∀ m,Calls prog 269 #[.pointer (some ⟨B,0,none⟩),O I k] ((w.drewN m).setCell ⟨B,1,none⟩ (O I ((p:Int)+((q:Int)+1)))) fun e w'=>e=.returned (.tuple #[O I (num b (p+(q+1)) k),.bool true])/\Rd w' B s (p+(q+1)+k)/\Chg B w w'):=fun m =>
  (z0W B s b (p+(q+1)) k ((w.drewN m).setCell ⟨B,1,none⟩ (O I ((p:Int)+((q:Int)+1)))) hs (by omega) (Rd.set (Rd.of hR rfl) (by go_num)) hle hb).mono fun e w' h=>⟨h.1,h.2.1,(((Chg.refl B w).drewN m).set 1 _).trans h.2.2⟩
 have HIXX:Hid _:=HIX;have q4:=z4p k 16384 (Nat.le_trans (Nat.pow_le_pow_right (by omega) (by omega:k<=14)) (by decide));have q3:=z2v k;have q5:num b (p+(q+1)) k < 16384:=Nat.lt_of_lt_of_le (z3J b _ k) (Nat.le_trans (Nat.pow_le_pow_right (by omega) (by omega:k<=14)) (by decide));have q6:(q:Int) * 2 ^ k<=80000 * 16384:=Int.mul_le_mul (by omega) q4 (by omega) (by omega);have q7:0<=(q:Int) * 2 ^ k:=Int.mul_nonneg (by omega) (by omega);have HU:Hid (∀ u,Calls prog 349 #[O I ((q:Int) * 2 ^ k+(num b (p+(q+1)) k:Int))] u fun e w'=>e=.returned (O I (unf (q * 2 ^ k+num b (p+(q+1)) k)))/\w'=u):=fun u=>by
  have e:((q:Int) * 2 ^ k+(num b (p+(q+1)) k:Int))=((q * 2 ^ k+num b (p+(q+1)) k:Nat):Int):=by simp
  rw [e];refine y2a _ u ?_;have:q * 2 ^ k<=80000 * 16384:=Nat.mul_le_mul (by omega) (Nat.le_trans (Nat.pow_le_pow_right (by omega) (by omega:k<=14)) (by decide));omega
 rw [e1];clear HIX hb hR
 go_enter Tryz.func342,Tryz.ntmps342
 go_wp2
 go_quiet ((go_at_call 348;exact Calls.quiet_of_same (HIXX.out _)))
 go_wp2_with (first
  | (go_at_call 269;refine (HN.out _).mono ?_;rintro e w' ⟨rfl,hR',hC⟩)
  | (go_at_call 349;refine (HU.out _).mono ?_;rintro e w' ⟨rfl,rfl⟩))
 go_ret2;exact ⟨rfl,hR',hC⟩
theorem z1j:(prog.info? 3).map (fun i=>(i.zero,i.size,i.bytes))=some (some (O I 0),1,8):=by kernel_rfl
theorem y3d:(prog.info? 3).map (·.size)=some 1:=by kernel_rfl
def IntsAt (w:World) (a:Option Addr) (n:Nat) (f:Nat->Int):Prop:=∀ i,i < n->∃ x,a=some x/\w.cell? (x.add i)=some (O I (f i))
theorem IntsAt.open {w:World} {a:Option Addr} {n:Nat} {f:Nat->Int} (h:IntsAt w a n f) (hn:0 < n) :
 ∃ b off,a=some ⟨b,off,none⟩/\∀ i,i < n->w.cell? ⟨b,off+i,none⟩=some (O I (f i)):=by
 obtain ⟨⟨b,off,sp⟩,rfl,hc⟩:=h 0 hn;have hs:sp=none:=by simpa [Addr.add] using World.cell?_spot hc
 subst hs;refine ⟨b,off,rfl,fun i hi=>?_⟩;obtain ⟨x,hx,hc⟩:=h i hi;cases hx;rw [← hc];cases i <;> simp [Addr.add]
structure Only (b:Nat) (w w':World):Prop where
 os:w'.os=w.os
 tape:w'.tape=w.tape
 output:w'.output=w.output
 size:w'.heap.size=w.heap.size
 block:∀ k,k ≠ b->w'.heap[k]?=w.heap[k]?
def sel4 (w0 w1 w2 w3:Int) (j:Nat):Int:=if j=0 then w0 else if j=1 then w1 else if j=2 then w2 else if j=3 then w3 else 0
theorem y3e (o sc w0 w1 w2 w3:Int) (w:World) (t:TypeId) (i:Nat) (hi:i < 4) :
 (w.alloc (.cells #[O I o,O I w0,O I w1,O I w2,O I w3,O I sc] t)).cell? ⟨w.heap.size,1+i,none⟩=some (O I (sel4 w0 w1 w2 w3 i)):=by
 rw [World.cell?_alloc_new]
 match i,hi with
 | 0,_=>rfl
 | 1,_=>rfl
 | 2,_=>rfl
 | 3,_=>rfl
theorem y3f {w0 w1 w2 w3:Int} (h0:-32<=w0/\w0<=32) (h1:-32<=w1/\w1<=32) (h2:-32<=w2/\w2<=32) (h3:-32<=w3/\w3<=32) (j:Nat):-32<=sel4 w0 w1 w2 w3 j/\sel4 w0 w1 w2 w3 j<=32:=by
 unfold sel4;split
 . exact h0
 . split
   . exact h1
   . split
     . exact h2
     . split
       . exact h3
       . omega
theorem y6T {u v:Int} (hu:-32<=u/\u<=32) (hv:-4096<=v/\v<=4096):-131072<=u * v/\u * v<=131072:=by
 have h:=Int.natAbs_mul u v;have h1:u.natAbs<=32:=by omega
 have h2:v.natAbs<=4096:=by omega
 have h3:u.natAbs * v.natAbs<=32 * 4096:=Nat.mul_le_mul h1 h2;omega
theorem z9S {w x:Nat->Int} {i:Nat} (hw:∀ j,-32<=w j/\w j<=32) (hx:∀ j,j < i->-4096<=x j/\x j<=4096) (hi:0 < i):∀ m:Nat,-131072 * (m:Int)<=sumG w x i m/\sumG w x i m<=131072 * (m:Int)
 | 0=>by simp [sumG]
 | m+1=>by
  have:=z9S hw hx hi m;have h:=y6T (hw m) (hx (i - 1 - m) (by omega));simp only [sumG];omega
theorem z8w (o sc:Nat) (w0 w1 w2 w3:Int) (a:Option Addr) (n c:Nat) (x:Nat->Int) (w:World) (ho:o<=4) (hon:o<=n) (hsc:sc<=3) (hn:n<=32)
 (k0:-32<=w0/\w0<=32) (k1:-32<=w1/\w1<=32) (k2:-32<=w2/\w2<=32) (k3:-32<=w3/\w3<=32) (hX:∀ j,j < n->-4096<=x j/\x j<=4096)
 (hI:IntsAt w a n x) (hlow:∀ y,a=some y->0 < n->y.block < w.heap.size) :
 Calls prog 318 #[.agg #[O I o,O I w0,O I w1,O I w2,O I w3,O I sc],.slice a n c] w fun e w' =>
  e=.returned (O I (sumG (sel4 w0 w1 w2 w3) x n o / 2 ^ sc))/\Below w.heap.size w w':=by
 obtain ⟨W,hWe⟩:∃ W,W=w.alloc (.cells #[O I o,O I w0,O I w1,O I w2,O I w3,O I sc] 333):=⟨_,rfl⟩;have hb:Below w.heap.size w W:=by rw [hWe];exact zX.alloc zY _
 have HB:Hid (∀ m,Below w.heap.size w (World.drewN (w.alloc (.cells #[O I o,O I w0,O I w1,O I w2,O I w3,O I sc] 333)) m)):=fun m=>by
  rw [← hWe];exact ⟨hb.os,hb.tape,hb.output,hb.size,hb.block⟩
 have HI:Hid (IntsAt (w.alloc (.cells #[O I o,O I w0,O I w1,O I w2,O I w3,O I sc] 333)) a n x):=by
  intro i hi;obtain ⟨y,hy,hc⟩:=hI i hi;refine ⟨y,hy,?_⟩;rw [← hWe,hb.cell (by have:=hlow y hy (by omega);cases i <;> simpa [Addr.add] using this),hc]
 clear hWe hb hI hlow;have HS:=z9S (w:=sel4 w0 w1 w2 w3) (x:=x) (i:=n) (y3f k0 k1 k2 k3);have HX:Hid (∀ j,j < n->-4096<=x j/\x j<=4096):=hX;have HM:Hid (∀ j,-32<=sel4 w0 w1 w2 w3 j/\sel4 w0 w1 w2 w3 j<=32):=y3f k0 k1 k2 k3;clear hX k0 k1 k2 k3;have hHS:Hid _:=HS;clear HS
 go_enter Tryz.func318,Tryz.ntmps318
 go_wp2
 go_loopw [5,6,9] (fun v _ i wr=>∃ j:Nat,j<=o/\i=O I j/\v=O I (sumG (sel4 w0 w1 w2 w3) x n j)/\∃ m,wr=World.drewN (w.alloc (.cells #[O I o,O I w0,O I w1,O I w2,O I w3,O I sc] 333)) m) (fun _ _ i _=>o - (intOf i).toNat)
 case atStart=>exact ⟨0,Nat.zero_le _,rfl,rfl,0,rfl⟩
 case round =>
  obtain ⟨j,hj,rfl,rfl,m,rfl⟩:=hrel
  by_cases hlt:j < o
  . obtain ⟨b,off,hx,hc⟩:=HI.out.open (by omega)
    cases hx;have hc1:=hc (n - 1 - j) (by omega);have hc2:=y3e (o:Int) (sc:Int) w0 w1 w2 w3 w 333 j (by omega);have hmb:=y6T (HM.out j) (HX.out (n - 1 - j) (by omega));have hsb:=hHS.out HX.out (by omega) j;have HE:Hid (sumG (sel4 w0 w1 w2 w3) x n (j+1)=sumG (sel4 w0 w1 w2 w3) x n j+sel4 w0 w1 w2 w3 j * x (n - 1 - j)):=rfl;clear hc;go_wp2
    go_region
    all_goals go_wp2
    go_roundw
    case rel=>exact ⟨j+1,by omega,by go_num,by rw [HE.out],_,rfl⟩
    case measure=>simp [intOf];omega
  . have e:j=o:=by omega
    subst e;go_wp2;go_ret;exact ⟨z0V rfl,HB.out _⟩
theorem z0T {a b:Bool} (h:a=b):Ending.returned (.bool a)=.returned (.bool b):=by rw [h]
def Says (e:Ending) (p:Prop):Prop:=∃ b:Bool,e=.returned (.bool b)/\(b=true↔p)
theorem Says.yes {p:Prop} (h:p):Says (.returned (.bool true)) p:=⟨true,rfl,by simp [h]⟩
theorem Says.no {p:Prop} (h:¬ p):Says (.returned (.bool false)) p:=⟨false,rfl,by simp [h]⟩
theorem Says.true_of {e:Ending} {p:Prop} (h:Says e p) (hp:p):e=.returned (.bool true):=by
 obtain ⟨b,rfl,hb⟩:=h;rw [hb.2 hp]
theorem Says.false_of {e:Ending} {p:Prop} (h:Says e p) (hp:¬ p):e=.returned (.bool false):=by
 obtain ⟨b,rfl,hb⟩:=h;cases b
 . rfl
 . exact absurd (hb.1 rfl) hp
theorem z0A (v lo hi:Int) (w:World) :
 Calls prog 70 #[O I v,O I lo,O I hi] w fun e w'=>e=.returned (.bool (z0s v lo hi))/\w'=w:=by
 by_cases h:lo<=v
 . go_enter Tryz.func70,Tryz.ntmps70
   go_wp2;go_ret;exact ⟨z0T (by simp [z0s,h]),rfl⟩
 . have hd:decide (lo<=v)=false:=decide_eq_false h
   go_enter Tryz.func70,Tryz.ntmps70
   go_wp2;go_ret;exact ⟨z0T (by simp [z0s];omega),rfl⟩
theorem z1H (d:Nat) (v:Int) (w:World) (h1:1<=d) (h2:d<=13) :
 Calls prog 246 #[O I d,O I v] w fun e w'=>e=.returned (.bool (fitsB d v))/\w'=w:=by
 have hp1:=z2v (d - 1);have hp2:=z4p (d - 1) 4096 (Nat.le_trans (Nat.pow_le_pow_right (by omega) (by omega:d - 1<=12)) (by decide))
 go_enter Tryz.func246,Tryz.ntmps246
 go_wp2_with (go_at_call 70;refine (z0A _ _ _ _).mono ?_;rintro e w' ⟨rfl,rfl⟩)
 go_ret;exact ⟨rfl,rfl⟩
theorem z0X (kind:Nat) (w:World) (h:2<=kind) (h7:kind<=7) :
 Calls prog 319 #[O I kind] w fun e w'=>e=.returned (O I (ord kind))/\w'=w:=by
 have HO:Hid (ord kind=if kind=7 then 2 else kind - 2):=rfl
 by_cases e:kind=7
 . have h1:((kind:Int) == 7)=true:=by simp;omega
   go_enter Tryz.func319,Tryz.ntmps319
   go_wp2;go_ret;exact ⟨z0V (by rw [HO.out,if_pos e];rfl),rfl⟩
 . have h1:((kind:Int) == 7)=false:=by simp;omega
   go_enter Tryz.func319,Tryz.ntmps319
   go_wp2;go_ret;exact ⟨z0V (by rw [HO.out,if_neg e];omega),rfl⟩
def cutB (n o c:Nat):Bool:=decide (n / 2 ^ c * 2 ^ c=n) && decide (o < n / 2 ^ c)
theorem z2N (n o c:Nat) (w:World) (hn:n<=32) (ho:o<=4) (hc:c<=3) :
 Calls prog 339 #[O I n,O I o,O I c] w fun e w'=>e=.returned (.tuple #[O I ((n / 2 ^ c:Nat):Int),.bool (cutB n o c)])/\w'=w:=by
 have HC:Hid (∀ c,cutB n o c=(decide (n / 2 ^ c * 2 ^ c=n) && decide (o < n / 2 ^ c))):=fun _=>rfl
 have e2:((n / 2 ^ c:Nat):Int)=(n:Int) / 2 ^ c:=by simp
 have hd1:0<=(n:Int) / 2 ^ c:=by rw [← e2];exact Int.natCast_nonneg _
 have hd2:(n:Int) / 2 ^ c<=32:=by rw [← e2];have:=Nat.div_le_self n (2 ^ c);omega
 have hp1:=z2v c;have hp2:=z4p c 8 (Nat.le_trans (Nat.pow_le_pow_right (by omega) (by omega:c<=3)) (by decide));have hm1:0<=(n:Int) / 2 ^ c * 2 ^ c:=Int.mul_nonneg hd1 (by omega);have hm2:(n:Int) / 2 ^ c * 2 ^ c<=256:=by
  have:(n:Int) / 2 ^ c * 2 ^ c<=32 * 8:=Int.mul_le_mul hd2 hp2 (by omega) (by omega);omega
 have e3:((n / 2 ^ c * 2 ^ c:Nat):Int)=(n:Int) / 2 ^ c * 2 ^ c:=by simp
 have HE2:Hid (((n / 2 ^ c:Nat):Int)=(n:Int) / 2 ^ c):=e2
 by_cases h:n / 2 ^ c * 2 ^ c=n
 . have ht:((n:Int) / 2 ^ c * 2 ^ c == (n:Int))=true:=by rw [← e3];simp;omega
   have HH:Hid (n / 2 ^ c * 2 ^ c=n):=h;clear h e2 e3
   go_enter Tryz.func339,Tryz.ntmps339
   go_wp2;go_ret2;refine ⟨?_,rfl⟩;rw [HC.out,HE2.out];have h1:decide (n / 2 ^ c * 2 ^ c=n)=true:=decide_eq_true HH.out;have h2:decide (o < n / 2 ^ c)=decide ((o:Int) < (n:Int) / 2 ^ c):=by rw [decide_eq_decide,← HE2.out];omega
   rw [h1,h2];rfl
 . have ht:((n:Int) / 2 ^ c * 2 ^ c == (n:Int))=false:=by rw [← e3];simp;omega
   have HH:Hid (¬ n / 2 ^ c * 2 ^ c=n):=h;clear h e2 e3
   go_enter Tryz.func339,Tryz.ntmps339
   go_wp2;go_ret2;refine ⟨?_,rfl⟩;rw [HC.out,HE2.out];have h1:decide (n / 2 ^ c * 2 ^ c=n)=false:=decide_eq_false HH.out;rw [h1];rfl
def TabAt (w:World) (g:Nat):Prop:=∀ r c,r < 5->c < 4->w.cell? ⟨g,4 * r+c,none⟩=some (O I (tab r c))
def gV (kind:Nat) (a c:Int):Value:=.agg #[O I (ord kind),O I (wt kind a c 0),O I (wt kind a c 1),O I (wt kind a c 2),O I (wt kind a c 3),O I (scl kind:Int)]
theorem z8x (kind:Nat) (a c:Int) (w:World) (h2:2<=kind) (h6:kind<=6) (hT:TabAt w 5) (hg:5 < w.heap.size) :
 Calls prog 322 #[O I kind] w fun e w'=>e=.returned (gV kind a c)/\Below w.heap.size w w':=by
 have fin:∀ o v,Below w.heap.size w ((w.alloc o).setCell ⟨w.heap.size,0,none⟩ v):=fun o v=>(zX.alloc zY _).setCell zY _
 have hal:∀ o j,(w.alloc o).cell? ⟨5,j,none⟩=w.cell? ⟨5,j,none⟩:=fun o j=>World.cell?_alloc_lt w o ⟨5,j,none⟩ hg
 obtain rfl | rfl | rfl | rfl | rfl:kind=2∨kind=3∨kind=4∨kind=5∨kind=6:=by omega
 . have t0:w.cell? ⟨5,0,none⟩=some (O I 0):=hT 0 0 (by omega) (by omega)
   have t1:w.cell? ⟨5,1,none⟩=some (O I 0):=hT 0 1 (by omega) (by omega);have t2:w.cell? ⟨5,2,none⟩=some (O I 0):=hT 0 2 (by omega) (by omega);have t3:w.cell? ⟨5,3,none⟩=some (O I 0):=hT 0 3 (by omega) (by omega);clear hT
   go_enter Tryz.func322,Tryz.ntmps322
   go_wp2;refine bodyPost_ret (v:=gV 2 a c) (by simp [results,Tryz.results322,go_sem,gV,ord,wt,tab,scl]) rfl ⟨rfl,?_⟩;exact (zX.alloc zY _)
 . have t0:w.cell? ⟨5,4,none⟩=some (O I 1):=hT 1 0 (by omega) (by omega)
   have t1:w.cell? ⟨5,5,none⟩=some (O I 0):=hT 1 1 (by omega) (by omega);have t2:w.cell? ⟨5,6,none⟩=some (O I 0):=hT 1 2 (by omega) (by omega);have t3:w.cell? ⟨5,7,none⟩=some (O I 0):=hT 1 3 (by omega) (by omega);clear hT
   go_enter Tryz.func322,Tryz.ntmps322
   go_wp2;refine bodyPost_ret (v:=gV 3 a c) (by simp [results,Tryz.results322,go_sem,gV,ord,wt,tab,scl]) rfl ⟨rfl,?_⟩;exact (zX.alloc zY _)
 . have t0:w.cell? ⟨5,8,none⟩=some (O I 2):=hT 2 0 (by omega) (by omega)
   have t1:w.cell? ⟨5,9,none⟩=some (O I (-1)):=hT 2 1 (by omega) (by omega);have t2:w.cell? ⟨5,10,none⟩=some (O I 0):=hT 2 2 (by omega) (by omega);have t3:w.cell? ⟨5,11,none⟩=some (O I 0):=hT 2 3 (by omega) (by omega);clear hT
   go_enter Tryz.func322,Tryz.ntmps322
   go_wp2;refine bodyPost_ret (v:=gV 4 a c) (by simp [results,Tryz.results322,go_sem,gV,ord,wt,tab,scl]) rfl ⟨rfl,?_⟩;exact (zX.alloc zY _)
 . have t0:w.cell? ⟨5,12,none⟩=some (O I 3):=hT 3 0 (by omega) (by omega)
   have t1:w.cell? ⟨5,13,none⟩=some (O I (-3)):=hT 3 1 (by omega) (by omega);have t2:w.cell? ⟨5,14,none⟩=some (O I 1):=hT 3 2 (by omega) (by omega);have t3:w.cell? ⟨5,15,none⟩=some (O I 0):=hT 3 3 (by omega) (by omega);clear hT
   go_enter Tryz.func322,Tryz.ntmps322
   go_wp2;refine bodyPost_ret (v:=gV 5 a c) (by simp [results,Tryz.results322,go_sem,gV,ord,wt,tab,scl]) rfl ⟨rfl,?_⟩;exact (zX.alloc zY _)
 . have t0:w.cell? ⟨5,16,none⟩=some (O I 4):=hT 4 0 (by omega) (by omega)
   have t1:w.cell? ⟨5,17,none⟩=some (O I (-6)):=hT 4 1 (by omega) (by omega);have t2:w.cell? ⟨5,18,none⟩=some (O I 4):=hT 4 2 (by omega) (by omega);have t3:w.cell? ⟨5,19,none⟩=some (O I (-1)):=hT 4 3 (by omega) (by omega);clear hT
   go_enter Tryz.func322,Tryz.ntmps322
   go_wp2;refine bodyPost_ret (v:=gV 6 a c) (by simp [results,Tryz.results322,go_sem,gV,ord,wt,tab,scl]) rfl ⟨rfl,?_⟩;exact (zX.alloc zY _)
end Go.Proofs.YtlncjgnomhpjnabGreatDoor
namespace Go.Proofs.YtlncjgnomhpjnabGreatDoor
open Go.Value renaming int → O
open Go.IntKind renaming i64 → I
open Go.Proofs.Tryz (prog)
open Go Go.Lib
set_option linter.unusedVariables false
theorem z3M {H:Type} {enc:TypeId × Value->H} {P:Program} {w:World} {base:Nat} {sp:Nat->Bool} {held:Bool} {fuel:Nat} {t e1 e:TypeId} {n m:Nat} {k:IntKind} {cs:List Value} {zss:List (List Int)} {p:List MemPlace}
 (ht:P.underlying t=some (.array n e1)) (h1:P.underlying e1=some (.array m e)) (he:P.underlying e=some (.int k)) (hce:P.cellsOf e=1) (hc1:P.cellsOf e1=m) (hct:P.cellsOf t=n * m)
 (h:DataW.trod enc P w base sp held fuel t cs=some (.agg (zss.map (tabData k)),p)) :
 ∀ r zs,zss[r]?=some zs->∀ c z,c < m->zs[c]?=some z->cs[r * m+c]?=some (Value.int k z):=by
 cases fuel with
 | zero=>simp [DataW.trod] at h
 | succ fuel =>
  simp only [DataW.trod,ht,hc1,hct] at h;split at h
  . rename_i hl
    obtain ⟨xs,hm,hx⟩:=Option.map_eq_some_iff.1 h;have hxs:xs.map (·.1)=zss.map (tabData (H:=H) k):=by
     have:=congrArg Prod.fst hx
     simpa using this
    have hxl:xs.length=n:=by simpa using mapM_length hm
    have hzl:zss.length=n:=by
     have:=congrArg List.length hxs;simp at this;omega
    intro r zs hr c z hc hz;have hrn:r < n:=by rw [← hzl];exact (List.getElem?_eq_some_iff.1 hr).1
    obtain ⟨b,hb,hf⟩:=mapM_at hm r r (by simp [hrn]);have h2:(xs.map (·.1))[r]?=some b.1:=by simp [hb]
    rw [hxs,List.getElem?_map,hr] at h2;have h3:b.1=tabData k zs:=by simpa using h2.symm
    obtain ⟨b1,b2⟩:=b;simp only at h3;subst h3;have h4:=cells_of_tab h1 he hce hc1 hf;have h5:=congrArg (·[c]?) h4;simp [List.getElem?_drop,hc,hz] at h5;exact h5
  . cases h
def z9T:List (List Int):=[[0,0,0,0],[1,0,0,0],[2,-1,0,0],[3,-3,1,0],[4,-6,4,-1]]
theorem y2b (r c:Nat) (hr:r < 5) (hc:c < 4):∃ zs,z9T[r]?=some zs/\zs[c]?=some (tab r c):=by
 have h:∀ r:Fin 5,∀ c:Fin 4,(z9T[r.val]?.bind fun zs=>zs[c.val]?)=some (tab r.val c.val):=by decide
 have:=h ⟨r,hr⟩ ⟨c,hc⟩;exact Option.bind_eq_some_iff.1 this
theorem y6U:Tryz.prog.globalNamed "reel/subframe.fixedWeights" = some 5:=by kernel_rfl
theorem y2c:(Tryz.prog.globals[5]?).map (·.type)=some 387:=by kernel_rfl
theorem y7u:Tryz.prog.cellsOf 387=5 * 4:=by kernel_rfl
theorem y8h:Tryz.prog.cellsOf 331=4:=by kernel_rfl
theorem y6V:Tryz.prog.cellsOf 3=1:=by kernel_rfl
end Go.Proofs.YtlncjgnomhpjnabGreatDoor
namespace Go.Proofs.YtlncjgnomhpjnabGreatDoor
open Go.Value renaming int → O
open Go.IntKind renaming i64 → I
open Go.Proofs.Tryz (prog)
open Go.RowKit Go.Deep
set_option linter.unusedVariables false
theorem Chg.other {B g:Nat} {w wr w2:World} (h:Chg B w wr) (k:Chg g wr w2) (hg:w.heap.size<=g):Chg B w w2 :=
 ⟨k.os.trans h.os,k.tape.trans h.tape,k.output.trans h.output,Nat.le_trans h.size k.size,fun j hj hne=>(k.block j (Nat.lt_of_lt_of_le hj h.size) (fun e=>by cases e;omega)).trans (h.block j hj hne)⟩
theorem Chg.row {B:Nat} {w w':World} (h:Chg B w w') {c:Nat} {t:TypeId} {n:Nat} {f:Nat->Value} (hr:w.rowIs c t n f) (hc:c ≠ B):w'.rowIs c t n f :=
 hr.of_block (h.block c hr.lt (fun e=>hc (by injection e)))
theorem Chg.rd {B:Nat} {w w':World} (h:Chg B w w') {c:Nat} {s:ByteArray} {p:Nat} (hr:Rd w c s p) (hc:c ≠ B):Rd w' c s p :=
 hr.of (h.block c hr.lt (fun e=>hc (by injection e)))
theorem Chg.tabs {B:Nat} {w w':World} (h:Chg B w w') {g:Nat} (hT:TabAt w g) (hg:g < w.heap.size) (hc:g ≠ B):TabAt w' g:=fun r c hr hc' =>
 (World.cell?_of_block (h.block g hg (fun e=>hc (by injection e)))).trans (hT r c hr hc')
def cutI (n:Nat) (x:Nat->Int) (i:Nat):Int:=if i < n then x i else 0
def cutV (n:Nat) (x:Nat->Int) (i:Nat):Value:=O I (cutI n x i)
def Got (e:Ending) (w w':World) (B:Nat) (s:ByteArray) (n cap:Nat) (x:Nat->Int) (p:Nat):Prop :=
 ∃ g,e=.returned (.tuple #[.slice (some ⟨g,0,none⟩) n cap,.bool true])/\w.heap.size<=g/\w'.rowIs g 3 cap (cutV n x)/\Rd w' B s p/\Chg B w w'
def Not (e:Ending) (w w':World) (B:Nat):Prop:=∃ v,e=.returned (.tuple #[v,.bool false])/\Chg B w w'
theorem z2b {w:World} {g:Nat} {t:TypeId} {cap k:Nat} {x:Nat->Int} {z:Int} (hz:z=x k) (h:w.rowIs g t cap (fun i=>if i=k then O I z else cutV k x i)):w.rowIs g t cap (cutV (k+1) x):=by
 refine h.congr fun i _=>?_
 unfold cutV cutI
 by_cases e:i=k
 . subst e;simp [hz]
 . by_cases e2:i < k
   . simp [e,e2,Nat.lt_succ_of_lt e2]
   . have:¬ i < k+1:=by omega
     simp [e,e2,this]
theorem z7q (B:Nat) (s:ByteArray) (b:Nat->Bool) (p d n:Nat) (w:World) (hs:s.size<=80000) (hd1:1<=d) (hd:d<=13) (hn:n<=32) (hR:Rd w B s p) (hb:Bits s b) (hle:p+d<=s.size) :
 Calls prog 299 #[.pointer (some ⟨B,0,none⟩),O I d,O I n] w fun e w'=>Got e w w' B s n n (fun _=>sgn b p d) (p+d):=by
 have hmk:=run_make_row' (P:=prog) 30 3 (O I 0) 8 Tryz.underlying30 z1j rfl .i64 .i64 n (by omega) (by omega);have HS:=zZ (z3h B s b p d w hs hd1 (by omega) hR hle hb);have hlt:=hR.lt;clear hb hR
 go_enter Tryz.func299,Tryz.ntmps299
 go_wp2_with (go_at_call 329;refine HS.out.mono ?_;rintro e w1 ⟨rfl,hR1,hC1⟩)
 clear hmk;have HR1:Hid (Rd w1 B s (p+d)):=hR1;have HC1:Hid (Chg B w w1):=hC1;have hs1:=hC1.size;have hlt1:=hR1.lt;clear hR1 hC1 HS
 go_loopw [11,24] (fun _ i wr=>∃ k:Nat,k<=n/\i=O I k/\Hid (wr.rowIs w1.heap.size 3 n (cutV k (fun _=>sgn b p d))/\Below w1.heap.size w1 wr)) (fun _ i _=>n - (intOf i).toNat)
 case atStart=>exact ⟨0,Nat.zero_le _,rfl,(World.rowIs_made w1 (O I 0) n 3).congr fun i _=>by simp [cutV,cutI],zX.alloc zY _⟩
 case round =>
  obtain ⟨k,hk,rfl,HRW⟩:=hrel
  by_cases hlt:k < n
  . have hc1:=HRW.out.1.cell hlt
    have hf1:=HRW.out.1.frozen k;unfold cutV at hc1;go_wp2
    go_roundw
    case rel=>exact ⟨k+1,by omega,by go_num,z2b rfl (HRW.out.1.set k _),HRW.out.2.setCell zY _⟩
    case measure=>simp [intOf];omega
  . have e:k=n:=by omega
    subst e;go_wp2;go_ret2;exact ⟨w1.heap.size,rfl,hs1,HRW.out.1,HR1.out.of (HRW.out.2.block _ hlt1),HC1.out.below HRW.out.2⟩
theorem z8y (B:Nat) (s:ByteArray) (p d n:Nat) (w:World) (hs:s.size<=80000) (hp:p<=s.size) (hd:d<=13) (hR:Rd w B s p) (hlt:s.size < p+d) :
 Calls prog 299 #[.pointer (some ⟨B,0,none⟩),O I d,O I n] w fun e w'=>Not e w w' B:=by
 have HS:=zZ (z3L B s p d w hs hp (by omega) hR hlt);clear hR
 go_enter Tryz.func299,Tryz.ntmps299
 go_wp2_with (go_at_call 329;refine HS.out.mono ?_;rintro e w1 ⟨rfl,m,rfl⟩)
 go_ret2;exact ⟨_,rfl,(Chg.refl _ _).drewN m⟩
def posn (p d k:Nat):Nat:=p+k * d
theorem z8z (p d:Nat):posn p d 0=p:=by simp [posn]
theorem z3N (p d k:Nat):posn p d (k+1)=posn p d k+d:=by unfold posn;rw [Nat.succ_mul];omega
theorem y3g (p d:Nat) {k m:Nat} (h:k<=m):posn p d k<=posn p d m:=by unfold posn;have:=Nat.mul_le_mul_right d h;omega
theorem z3O (B:Nat) (s:ByteArray) (b:Nat->Bool) (p d m n:Nat) (w:World) (hs:s.size<=80000) (hp:p<=s.size) (hd1:1<=d) (hd:d<=13) (hm:m<=n) (hn:n<=32) (hR:Rd w B s p) (hb:Bits s b) :
 Calls prog 300 #[.pointer (some ⟨B,0,none⟩),O I d,O I m,O I n] w fun e w' =>
  (posn p d m<=s.size/\Got e w w' B s m n (fun i=>sgn b (posn p d i) d) (posn p d m))∨(s.size < posn p d m/\Not e w w' B):=by
 have hmk:=run_make (P:=prog) (w:=w) 30 3;obtain ⟨i0,hi,hz0,hz1,hz2⟩:=info_parts z1j;have hmk:∀ u:World,(Instr.makeSlice 30 (O I 0) (O I (n:Int))).run prog u=.ok (.slice (some ⟨u.heap.size,0,none⟩) 0 n) (u.alloc (.cells (madeCells #[O I 0] n) 3)):=fun u=>by
  have h:=run_make (P:=prog) u 30 3 i0 (O I 0) Tryz.underlying30 hi hz0 .i64 .i64 0 (n:Int) (Int.le_refl _) (by omega) (by rw [hz2];omega) (by omega)
  simpa [hz1,Value.cells] using h
 have hlt:=hR.lt;have HB:=zZ hb;have HR:=zZ hR;clear hb hR hi hz0 hz1 hz2
 go_enter Tryz.func300,Tryz.ntmps300
 go_wp2;clear hmk
 go_loopw [10,11,12,16] (fun l _ _ i wr=>∃ k:Nat,k<=m/\i=O I k/\l=.slice (some ⟨w.heap.size,0,none⟩) k n/\Hid (posn p d k<=s.size/\wr.rowIs w.heap.size 3 n (cutV k (fun i=>sgn b (posn p d i) d))/\Rd wr B s (posn p d k)/\Chg B w wr)) (fun _ _ _ i _=>m - (intOf i).toNat)
 case atStart =>
  exact ⟨0,Nat.zero_le _,rfl,rfl,by rw [z8z];exact hp,(World.rowIs_made w (O I 0) n 3).congr fun i _=>by simp [cutV,cutI],by rw [z8z];exact HR.out.of (blk_alloc_lt _ _ _ hlt),(Chg.refl B w).below (zX.alloc zY _)⟩
 case round =>
  clear HR;obtain ⟨k,hk,rfl,rfl,HK⟩:=hrel
  by_cases hkm:k < m
  . by_cases hfit:posn p d k+d<=s.size
    . have HS:=zZ (z3h B s b (posn p d k) d wr hs hd1 (by omega) HK.out.2.2.1 hfit HB.out)
      go_wp2_with (go_at_call 329;refine HS.out.mono ?_;rintro e w1 ⟨rfl,hR1,hC1⟩;have HR1:=zZ hR1;have HC1:=zZ hC1;clear hR1 hC1;have HR2:=zZ (HC1.out.row HK.out.2.1 (Nat.ne_of_gt hlt));have hca:=fun o=>(HR2.out.alloc o).cell (i:=k) (by omega);have hfa:=fun o=>(HR2.out.alloc o).frozen k;unfold cutV at hca)
      go_roundw
      case rel =>
       have hch:Chg w.heap.size w1 ((w1.alloc (.cells #[O I (sgn b (posn p d k) d)] 3)).setCell ⟨w.heap.size,k,none⟩ (O I (sgn b (posn p d k) d))):=((Chg.refl _ _).below (zX.alloc zY _)).set _ _;refine ⟨k+1,by omega,by go_num,rfl,?_,z2b rfl ((HR2.out.alloc _).set k _),?_,?_⟩
       . rw [z3N];exact hfit
       . rw [z3N];exact hch.rd HR1.out (Nat.ne_of_lt hlt)
       . exact (HK.out.2.2.2.trans HC1.out).other hch zY
      case measure=>simp [intOf];omega
    . have HS:=zZ (z3L B s (posn p d k) d wr hs HK.out.1 (by omega) HK.out.2.2.1 (by omega))
      have hbig:s.size < posn p d m:=by
       have h1:=z3N p d k;have h2:=y3g p d (show k+1<=m by omega);omega
      go_wp2_with (go_at_call 329;refine HS.out.mono ?_;rintro e w1 ⟨rfl,j,rfl⟩)
      go_ret2;exact .inr ⟨hbig,_,rfl,HK.out.2.2.2.drewN j⟩
  . have e:k=m:=by omega
    subst e;go_wp2;go_ret2;exact .inl ⟨HK.out.1,w.heap.size,rfl,Nat.le_refl _,HK.out.2.1,HK.out.2.2.1,HK.out.2.2.2⟩
theorem z3z (a c:Int) (w:World) :
 Calls prog 321 #[O I a,O I c] w fun e w'=>e=.returned (gV 7 a c)/\Below w.heap.size w w':=by
 go_enter Tryz.func321,Tryz.ntmps321
 go_wp2;exact bodyPost_ret (v:=gV 7 a c) (by simp [results,Tryz.results321,go_sem,gV,ord,wt,scl]) rfl ⟨rfl,(zX.alloc zY _)⟩
def NotG (e:Ending) (w w':World) (B:Nat):Prop:=∃ v0 v1 v2 v3 v4 v5:Int,e=.returned (.tuple #[.agg #[O I v0,O I v1,O I v2,O I v3,O I v4,O I v5],.bool false])/\Chg B w w'
def GotG (e:Ending) (w w':World) (B:Nat) (s:ByteArray) (v:Value) (p:Nat):Prop:=e=.returned (.tuple #[v,.bool true])/\Rd w' B s p/\Chg B w w'
theorem z4q (B:Nat) (s:ByteArray) (p kind:Nat) (w:World) (h2:2<=kind) (h6:kind<=6) (hR:Rd w B s p) (hT:TabAt w 5) (hg:5 < w.heap.size) :
 Calls prog 330 #[.pointer (some ⟨B,0,none⟩),O I kind] w fun e w'=>GotG e w w' B s (gV kind 0 0) p:=by
 have hlt:=hR.lt;have hbel:∀ o,Below w.heap.size w (w.alloc o):=fun o=>zX.alloc zY _
 have hT1:∀ o,TabAt (w.alloc o) 5:=fun o r c hr hc=>(World.cell?_alloc_lt w o ⟨5,4 * r+c,none⟩ hg).trans (hT r c hr hc)
 have HF:=zZ (fun o=>z8x kind 0 0 (w.alloc o) h2 h6 (hT1 o) (by simp;omega));have HR:=zZ hR;clear hT hT1 hR
 go_enter Tryz.func330,Tryz.ntmps330
 have hk7:((kind:Int) != 7)=true:=by simp;omega
 go_wp2_with (go_at_call 322;refine (HF.out _).mono ?_;rintro e w1 ⟨rfl,hb1⟩;simp only [gV];have hs1:=hb1.size;have hcl:=fun j=>hb1.cell (p:=⟨w.heap.size,j,none⟩) (by simp);have hfr:=fun j=>hb1.frozen (p:=⟨w.heap.size,j,none⟩) (by simp);have HB1:=zZ hb1;clear hb1)
 have h7:¬ kind=7:=by omega
 have hc0:=(Chg.refl B w).below (zX.alloc zY (.cells #[O I 0,O I 0,O I 0,O I 0,O I 0,O I 0] 333));have hch:=(((((((Chg.refl w.heap.size w1).set 0 (O I (ord kind))).set 1 (O I (wt kind 0 0 0))).set 2 (O I (wt kind 0 0 1))).set 3 (O I (wt kind 0 0 2))).set 4 (O I (wt kind 0 0 3))).set 5 (O I (scl kind)));refine bodyPost_ret (v:=.tuple #[gV kind 0 0,.bool true]) (by simp [results,Tryz.results330,go_sem,gV,hcl]) rfl ⟨rfl,?_,?_⟩
 . exact hch.rd (HR.out.of ((HB1.out.block _ (by simp;omega)).trans (blk_alloc_lt _ _ _ hlt))) (Nat.ne_of_lt hlt)
 . exact (hc0.below HB1.out).other hch zY
theorem z2m (B:Nat) (s:ByteArray) (b:Nat->Bool) (p:Nat) (w:World) (hs:s.size<=80000) (hp:p<=s.size) (hR:Rd w B s p) (hb:Bits s b) :
 Calls prog 330 #[.pointer (some ⟨B,0,none⟩),O I 7] w fun e w' =>
  (p+12<=s.size/\GotG e w w' B s (gV 7 (sgn b p 6) (sgn b (p+6) 6)) (p+12))∨(s.size < p+12/\NotG e w w' B):=by
 have hlt:=hR.lt;have HR:=zZ hR;have hc0:=zZ ((Chg.refl B w).below (zX.alloc zY (.cells #[O I 0,O I 0,O I 0,O I 0,O I 0,O I 0] 333)));have HR0:=zZ (hR.of (blk_alloc_lt w (.cells #[O I 0,O I 0,O I 0,O I 0,O I 0,O I 0] 333) _ hlt));have HG0:=zZ (World.rowIs_alloc w #[O I 0,O I 0,O I 0,O I 0,O I 0,O I 0] 333 (fun _=>O I 0) (fun i hi=>by
  match i,hi with
  | 0,_=>rfl
  | 1,_=>rfl
  | 2,_=>rfl
  | 3,_=>rfl
  | 4,_=>rfl
  | 5,_=>rfl))
 simp only [List.size_toArray,List.length_cons,List.length_nil,Nat.zero_add,Nat.reduceAdd] at HG0
 by_cases h6:p+6<=s.size
 . have HS:=zZ (z3h B s b p 6 _ hs (by omega) (by omega) HR0.out h6 hb)
   by_cases h12:p+12<=s.size
   . have HS2:=zZ (fun (u:World) (hu:Rd u B s (p+6))=>z3h B s b (p+6) 6 u hs (by omega) (by omega) hu (by omega) hb)
     clear hb hR
     go_enter Tryz.func330,Tryz.ntmps330
     go_wp2_with (first
      | (go_at_call 329;refine HS.out.mono ?_;rintro e w1 ⟨rfl,hR1,hC1⟩;have HR1:=zZ hR1;have HC1:=zZ hC1;clear hR1 hC1;have HG1:=zZ (HC1.out.row HG0.out (Nat.ne_of_gt hlt));have x0:=HG1.out.cell (i:=0) (by omega);have x1:=HG1.out.cell (i:=1) (by omega);have x2:=HG1.out.cell (i:=2) (by omega);have x3:=HG1.out.cell (i:=3) (by omega);have x4:=HG1.out.cell (i:=4) (by omega);have x5:=HG1.out.cell (i:=5) (by omega);have xf0:=HG1.out.frozen 0;have xf1:=HG1.out.frozen 1;have xf2:=HG1.out.frozen 2;have xf3:=HG1.out.frozen 3;have xf4:=HG1.out.frozen 4;have xf5:=HG1.out.frozen 5)
      | (go_at_call 329;refine (HS2.out _ HR1.out).mono ?_;rintro e w2 ⟨rfl,hR2,hC2⟩;have HR2:=zZ hR2;have HC2:=zZ hC2;clear hR2 hC2;have HG2:=zZ (HC2.out.row HG1.out (Nat.ne_of_gt hlt));clear x0 x1 x2 x3 x4 x5 xf0 xf1 xf2 xf3 xf4 xf5;have y0:=HG2.out.cell (i:=0) (by omega);have y1:=HG2.out.cell (i:=1) (by omega);have y2:=HG2.out.cell (i:=2) (by omega);have y3:=HG2.out.cell (i:=3) (by omega);have y4:=HG2.out.cell (i:=4) (by omega);have y5:=HG2.out.cell (i:=5) (by omega);have yf0:=HG2.out.frozen 0;have yf1:=HG2.out.frozen 1;have yf2:=HG2.out.frozen 2;have yf3:=HG2.out.frozen 3;have yf4:=HG2.out.frozen 4;have yf5:=HG2.out.frozen 5)
      | (go_at_call 321;refine (z3z _ _ _).mono ?_;rintro e w3 ⟨rfl,hb3⟩;simp only [gV];have HB3:=zZ hb3;clear hb3;have HG3:=zZ (HG2.out.of_block (HB3.out.block _ HG2.out.lt));clear y0 y1 y2 y3 y4 y5 yf0 yf1 yf2 yf3 yf4 yf5;have z0:=HG3.out.cell (i:=0) (by omega);have z1:=HG3.out.cell (i:=1) (by omega);have z2:=HG3.out.cell (i:=2) (by omega);have z3:=HG3.out.cell (i:=3) (by omega);have z4:=HG3.out.cell (i:=4) (by omega);have z5:=HG3.out.cell (i:=5) (by omega);have zf0:=HG3.out.frozen 0;have zf1:=HG3.out.frozen 1;have zf2:=HG3.out.frozen 2;have zf3:=HG3.out.frozen 3;have zf4:=HG3.out.frozen 4;have zf5:=HG3.out.frozen 5))
     have hch:=(((((((Chg.refl w.heap.size w3).set 0 (O I (ord 7))).set 1 (O I (wt 7 (sgn b p 6) (sgn b (p+6) 6) 0))).set 2 (O I (wt 7 (sgn b p 6) (sgn b (p+6) 6) 1))).set 3 (O I (wt 7 (sgn b p 6) (sgn b (p+6) 6) 2))).set 4 (O I (wt 7 (sgn b p 6) (sgn b (p+6) 6) 3))).set 5 (O I (scl 7)));refine bodyPost_ret (v:=.tuple #[gV 7 (sgn b p 6) (sgn b (p+6) 6),.bool true]) (by simp [results,Tryz.results330,go_sem,gV,z0,z1,z2,z3,z4,z5]) rfl (.inl ⟨h12,rfl,?_,?_⟩)
     . exact hch.rd (HR2.out.of (HB3.out.block _ HR2.out.lt)) (Nat.ne_of_lt hlt)
     . exact ((hc0.out.trans (HC1.out.trans HC2.out)).below HB3.out).other hch zY
   . have HS2:=zZ (fun (u:World) (hu:Rd u B s (p+6))=>z3L B s (p+6) 6 u hs h6 (by omega) hu (by omega))
     clear hb hR
     go_enter Tryz.func330,Tryz.ntmps330
     go_wp2_with (first
      | (go_at_call 329;refine HS.out.mono ?_;rintro e w1 ⟨rfl,hR1,hC1⟩;have HR1:=zZ hR1;have HC1:=zZ hC1;clear hR1 hC1;have HG1:=zZ (HC1.out.row HG0.out (Nat.ne_of_gt hlt));have x0:=HG1.out.cell (i:=0) (by omega);have x1:=HG1.out.cell (i:=1) (by omega);have x2:=HG1.out.cell (i:=2) (by omega);have x3:=HG1.out.cell (i:=3) (by omega);have x4:=HG1.out.cell (i:=4) (by omega);have x5:=HG1.out.cell (i:=5) (by omega);have xf0:=HG1.out.frozen 0;have xf1:=HG1.out.frozen 1;have xf2:=HG1.out.frozen 2;have xf3:=HG1.out.frozen 3;have xf4:=HG1.out.frozen 4;have xf5:=HG1.out.frozen 5)
      | (go_at_call 329;refine (HS2.out _ HR1.out).mono ?_;rintro e w2 ⟨rfl,j2,rfl⟩;have HG2:=zZ HG1.out)
      | (go_at_call 321;refine (z3z _ _ _).mono ?_;rintro e w3 ⟨rfl,hb3⟩;simp only [gV];have HB3:=zZ hb3;clear hb3;have HG3:=zZ (HG2.out.of_block (HB3.out.block _ HG2.out.lt));clear x0 x1 x2 x3 x4 x5 xf0 xf1 xf2 xf3 xf4 xf5;have z0:=HG3.out.cell (i:=0) (by omega);have z1:=HG3.out.cell (i:=1) (by omega);have z2:=HG3.out.cell (i:=2) (by omega);have z3:=HG3.out.cell (i:=3) (by omega);have z4:=HG3.out.cell (i:=4) (by omega);have z5:=HG3.out.cell (i:=5) (by omega);have zf0:=HG3.out.frozen 0;have zf1:=HG3.out.frozen 1;have zf2:=HG3.out.frozen 2;have zf3:=HG3.out.frozen 3;have zf4:=HG3.out.frozen 4;have zf5:=HG3.out.frozen 5))
     have hch:=(((((((Chg.refl w.heap.size w3).set 0 (O I (ord 7))).set 1 (O I (wt 7 (sgn b p 6) 0 0))).set 2 (O I (wt 7 (sgn b p 6) 0 1))).set 3 (O I (wt 7 (sgn b p 6) 0 2))).set 4 (O I (wt 7 (sgn b p 6) 0 3))).set 5 (O I (scl 7)));refine bodyPost_ret (v:=.tuple #[gV 7 (sgn b p 6) 0,.bool false]) (by simp [results,Tryz.results330,go_sem,gV,z0,z1,z2,z3,z4,z5]) rfl (.inr ⟨by omega,_,_,_,_,_,_,rfl,?_⟩);exact (((hc0.out.trans HC1.out).drewN j2).below HB3.out).other hch zY
 . have HS:=zZ (z3L B s p 6 _ hs hp (by omega) HR0.out (by omega))
   clear hb hR;have q0:=HG0.out.cell (i:=0) (by omega)
   go_enter Tryz.func330,Tryz.ntmps330
   go_wp2_with (go_at_call 329;refine HS.out.mono ?_;rintro e w1 ⟨rfl,j,rfl⟩)
   refine bodyPost_ret (v:=.tuple #[.agg #[O I 0,O I 0,O I 0,O I 0,O I 0,O I 0],.bool false]) (by simp [results,Tryz.results330,go_sem]) rfl (.inr ⟨by omega,_,_,_,_,_,_,rfl,?_⟩);exact (hc0.out.drewN j).other (((((((Chg.refl w.heap.size _).set 0 _).set 1 _).set 2 _).set 3 _).set 4 _).set 5 _) zY
structure ChgS (S:Nat->Prop) (w w':World):Prop where
 os:w'.os=w.os
 tape:w'.tape=w.tape
 output:w'.output=w.output
 size:w.heap.size<=w'.heap.size
 block:∀ k,k < w.heap.size->¬ S k->w'.heap[k]?=w.heap[k]?
theorem ChgS.refl (S:Nat->Prop) (w:World):ChgS S w w:=⟨rfl,rfl,rfl,Nat.le_refl _,fun _ _ _=>rfl⟩
theorem ChgS.trans {S:Nat->Prop} {a b c:World} (h:ChgS S a b) (k:ChgS S b c):ChgS S a c :=
 ⟨k.os.trans h.os,k.tape.trans h.tape,k.output.trans h.output,Nat.le_trans h.size k.size,fun j hj hne=>(k.block j (Nat.lt_of_lt_of_le hj h.size) hne).trans (h.block j hj hne)⟩
theorem ChgS.chg {S:Nat->Prop} {a b c:World} {B:Nat} (h:ChgS S a b) (k:Chg B b c) (hB:S B∨a.heap.size<=B):ChgS S a c :=
 ⟨k.os.trans h.os,k.tape.trans h.tape,k.output.trans h.output,Nat.le_trans h.size k.size,fun j hj hne=>(k.block j (Nat.lt_of_lt_of_le hj h.size) (fun e=>by cases e;rcases hB with h1 | h1;exact hne h1;omega)).trans (h.block j hj hne)⟩
theorem ChgS.below {S:Nat->Prop} {a b c:World} (h:ChgS S a b) (k:Below b.heap.size b c):ChgS S a c :=
 h.trans ⟨k.os,k.tape,k.output,k.size,fun j hj _=>k.block j hj⟩
theorem ChgS.drewN {S:Nat->Prop} {a b:World} (h:ChgS S a b) (m:Nat):ChgS S a (b.drewN m):=⟨h.os,h.tape,h.output,h.size,h.block⟩
def Gd (w:World) (G kind:Nat) (a c:Int):Prop:=w.heap[G]?=some (.cells #[O I (ord kind),O I (wt kind a c 0),O I (wt kind a c 1),O I (wt kind a c 2),O I (wt kind a c 3),O I (scl kind:Int)] 333 (0,0))
theorem Gd.of {w w':World} {G kind:Nat} {a c:Int} (h:Gd w G kind a c) (e:w'.heap[G]?=w.heap[G]?):Gd w' G kind a c:=e.trans h
theorem Gd.lt {w:World} {G kind:Nat} {a c:Int} (h:Gd w G kind a c):G < w.heap.size:=(Array.getElem?_eq_some_iff.1 h).1
theorem Gd.cells {w:World} {G kind:Nat} {a c:Int} (h:Gd w G kind a c) :
 w.cell? ⟨G,0,none⟩=some (O I (ord kind))/\w.cell? ⟨G,1,none⟩=some (O I (wt kind a c 0))/\w.cell? ⟨G,2,none⟩=some (O I (wt kind a c 1))/\w.cell? ⟨G,3,none⟩=some (O I (wt kind a c 2)) /\
  w.cell? ⟨G,4,none⟩=some (O I (wt kind a c 3))/\w.cell? ⟨G,5,none⟩=some (O I (scl kind:Int)):=by
 simp [World.cell?,show w.heap[G]?=_ from h]
theorem z2F (kind:Nat) (h2:2<=kind) (h7:kind<=7):ord kind<=4:=by unfold ord;split <;> omega
theorem wt_bd (kind:Nat) (a c:Int) (ha:-32<=a/\a<=32) (hc:-32<=c/\c<=32) (j:Nat):-32<=wt kind a c j/\wt kind a c j<=32:=by
 unfold wt;split
 . split
   . exact ha
   . split
     . exact hc
     . omega
 . unfold tab;split <;> omega
theorem y7v (kind:Nat) (a c:Int) (j:Nat) (hj:j < 4):sel4 (wt kind a c 0) (wt kind a c 1) (wt kind a c 2) (wt kind a c 3) j=wt kind a c j:=by
 match j,hj with
 | 0,_=>rfl
 | 1,_=>rfl
 | 2,_=>rfl
 | 3,_=>rfl
theorem z4r {w w' x x':Nat->Int} {i:Nat}:∀ m,(∀ j,j < m->w j=w' j)->(∀ j,j < m->x (i - 1 - j)=x' (i - 1 - j))->sumG w x i m=sumG w' x' i m
 | 0,_,_=>rfl
 | m+1,h,hx=>by simp only [sumG];rw [z4r m (fun j hj=>h j (by omega)) (fun j hj=>hx j (by omega)),h m (by omega),hx m (by omega)]
theorem y1b (kind:Nat) (a c:Int) (x:Nat->Int) (n:Nat) (h2:2<=kind) (h7:kind<=7) :
 sumG (sel4 (wt kind a c 0) (wt kind a c 1) (wt kind a c 2) (wt kind a c 3)) x n (ord kind) / 2 ^ scl kind=z0z kind a c x n:=by
 unfold z0z scl;have:=z2F kind h2 h7;rw [z4r (w':=wt kind a c) (x':=x) (ord kind) (fun j hj=>y7v kind a c j (by omega)) (fun _ _=>rfl)];split <;> rfl
theorem z8A {kind:Nat} {a c:Int} {x:Nat->Int} {n:Nat} (h2:2<=kind) (h7:kind<=7) (ha:-32<=a/\a<=32) (hc:-32<=c/\c<=32) (hx:∀ j,j < n->-4096<=x j/\x j<=4096) (hn:0 < n∨ord kind=0):-524288<=z0z kind a c x n/\z0z kind a c x n<=524288:=by
 have ho:=z2F kind h2 h7;have hs:-524288<=sumG (wt kind a c) x n (ord kind)/\sumG (wt kind a c) x n (ord kind)<=524288:=by
  rcases hn with hn | hn
  . have:=z9S (w:=wt kind a c) (x:=x) (i:=n) (wt_bd kind a c ha hc) hx hn (ord kind)
    omega
  . rw [hn];simp [sumG]
 unfold z0z;split <;> omega
theorem z4s (kind:Nat) (a c:Int) (g n cap:Nat) (x:Nat->Int) (w:World) (h2:2<=kind) (h7:kind<=7) (ha:-32<=a/\a<=32) (hc:-32<=c/\c<=32) (hn:n<=32) (hon:ord kind<=n) (hX:∀ j,j < n->-4096<=x j/\x j<=4096)
 (hrow:w.rowIs g 3 cap (cutV n x)) (hcap:n<=cap) :
 Calls prog 318 #[gV kind a c,.slice (some ⟨g,0,none⟩) n cap] w fun e w'=>e=.returned (O I (z0z kind a c x n))/\Below w.heap.size w w':=by
 have hb:=wt_bd kind a c ha hc;refine (z8w (ord kind) (scl kind) _ _ _ _ (some ⟨g,0,none⟩) n cap x w (z2F kind h2 h7) hon (by unfold scl;split <;> omega) hn (hb 0) (hb 1) (hb 2) (hb 3) hX (fun i hi=>⟨_,rfl,?_⟩) (fun y hy _=>by cases hy;exact hrow.lt)).mono fun e w' h=>⟨?_,h.2⟩
 . have:=hrow.cell (i:=i) (by omega)
   unfold cutV cutI at this;rw [if_pos hi] at this;rw [← this];cases i <;> simp [Addr.add]
 . rw [h.1,y1b kind a c x n h2 h7]
end Go.Proofs.YtlncjgnomhpjnabGreatDoor
