import Derived.Test.YtlncjgnomhpjnabGreatDoorChecked
import GoSem.Claim
import GoSem.ClaimJoined
import GoSem.ClaimMapViews
import Derived.JoinedTies
import Derived.KernelRfl
import Derived.RowKit
import Derived.WalkKit
import Derived.WalkSpells
import Derived.WalkLawsBesides
import Derived.Laws.IdiomStrings
import Derived.Deep.OwnRows
import Derived.Deep.QuietTactic
import Derived.BigQuiet
import Derived.Lib.Bytealg
import Derived.Lib.Strings
import Derived.Lib.Walk
import Derived.Laws.CopyOwn
import Derived.Test.YtlncjgnomhpjnabGreatDoorRows
import Derived.Lib.LaidTab
import Derived.WalkMore
import Derived.Test.YtlncjgnomhpjnabGreatDoorQL0
namespace Go.Proofs.YtlncjgnomhpjnabGreatDoor
open Go.Value renaming int → O
open Go.IntKind renaming i64 → I
open Go.Proofs.Tryz
open Go.RowKit
def Up (w w':World):Prop:=Below w.heap.size w w'/\∀ a,w'.frozen? a=w.frozen? a
theorem Up.refl (w:World):Up w w:=⟨Below.refl _ _,fun _=>rfl⟩
theorem Up.trans {a b c:World} (h:Up a b) (k:Up b c):Up a c :=
 ⟨h.1.trans (k.1.mono h.1.size),fun x=>(k.2 x).trans (h.2 x)⟩
theorem Up.drew {a b:World} (h:Up a b):Up a b.drew:=⟨h.1.drew,h.2⟩
theorem Up.alloc {a b:World} (h:Up a b) (c:Array Value) (t:TypeId):Up a (b.alloc (.cells c t)) :=
 ⟨h.1.alloc h.1.size _,fun x=>(frozen?_alloc_cells b c t x).trans (h.2 x)⟩
theorem Up.setCell {a b:World} (h:Up a b) {p:Addr} (hp:a.heap.size<=p.block) (v:Value):Up a (b.setCell p v) :=
 ⟨h.1.setCell hp v,fun x=>by rw [World.frozen?_setCell];exact h.2 x⟩
theorem z9E (w:World) {a:Addr} (h:w.heap.size<=a.block):w.frozen? a=false:=by
 simp [World.frozen?,Array.getElem?_eq_none h]
theorem Up.free {a b:World} (h:Up a b) {p:Addr} (hp:a.heap.size<=p.block):b.frozen? p=false:=(h.2 p).trans (z9E a hp)
def RowB (w:World) (b n:Nat) (f:Nat->Int):Prop:=∀ j,j < n->w.cell? ⟨b,j,none⟩=some (.int .u8 (f j))
theorem RowB.drew {w:World} {b n:Nat} {f:Nat->Int} (h:RowB w b n f):RowB w.drew b n f:=h
theorem RowB.set {w:World} {b n:Nat} {f g:Nat->Int} (h:RowB w b n f) (i:Nat) (v:Int) (hi:i < n) (hv:g i=v) (hg:∀ j,j < n->j ≠ i->g j=f j) :
 RowB (w.setCell ⟨b,i,none⟩ (.int .u8 v)) b n g:=by
 intro j hj
 by_cases e:j=i
 . subst e;rw [World.cell?_setCell_same _ _ _ (h j hj),hv]
 . rw [World.cell?_setCell_other _ _ _ _ (by intro x;injection x;omega),h j hj,hg j hj e]
theorem RowB.made (w:World) (n:Nat) (t:TypeId):RowB (w.alloc (.cells (madeCells #[.int .u8 0] n) t)) w.heap.size n (fun _=>0):=by
 intro j hj;rw [World.cell?_alloc_new];simp [madeCells,hj,Nat.mod_one]
def z3p (f:Nat->UInt8) (n:Nat):ByteArray:=⟨((List.range n).map f).toArray⟩
theorem z1r (f:Nat->UInt8) (n:Nat):(z3p f n).size=n:=by
 show ((List.range n).map f).toArray.size=n;simp
theorem z5u (f:Nat->UInt8) (n j:Nat) (h:j < (z3p f n).size):(z3p f n)[j]=f j:=by
 have h':j < n:=by rw [z1r] at h;exact h
 show ((List.range n).map f)[j]'(by simpa using h')=f j
 simp
theorem z8u:∀ (l:List UInt8) (s:ByteArray),l.foldl (fun r n=>r.push n) s=⟨s.data ++ l.toArray⟩
 | [],s=>by simp
 | c :: l,s=>by
  rw [List.foldl_cons,z8u l]
  congr 1
  simp [ByteArray.push]
theorem z0F {P:Program} (w:World) (src dst e:TypeId) (b o n c:Nat) (f:Nat->UInt8)
 (hs:P.underlying src=some (.slice e)) (he:P.underlying e=some (.int .u8)) (hd:P.underlying dst=some .string)
 (h:∀ j,j < n->w.cell? ⟨b,o+j,none⟩=some (.int .u8 ((f j).toNat:Int))) :
 (convert src dst (.slice (some ⟨b,o,none⟩) n c)).run P w=.ok (.string (z3p f n)) w:=by
 rw [run_convert_bytes_string w src dst e _ _ _ hs he hd];have hl:=run_loadCells (P:=P) w ⟨b,o,none⟩ n (fun j=>.int .u8 ((f j).toNat:Int)) (fun j hj=>by rw [← h j hj];cases j <;> simp [Addr.add]);have e1:((List.range n).map fun j=>Value.int .u8 ((f j).toNat:Int))=((List.range n).map fun j=>((f j).toNat:Int)).map (Value.int .u8):=by simp
 rw [e1] at hl;rw [run_bytesToString w ⟨b,o,none⟩ n c _ hl]
 congr 2
 have e2:∀ (l:List Nat) (s:ByteArray),(l.map fun j=>((f j).toNat:Int)).foldl (fun r n=>r.push (UInt8.ofNat n.toNat)) s=(l.map f).foldl (fun r n=>r.push n) s:=by
  intro l
  induction l with
  | nil=>intro s;rfl
  | cons x l ih=>intro s;simp only [List.map_cons,List.foldl_cons];rw [ih];simp
 rw [e2,z8u];simp [z3p]
def z0C (f:Nat->Bool):Nat->Nat
 | 0=>0
 | n+1=>2 * z0C f n+(f n).toNat
theorem z2k (f:Nat->Bool):∀ n,z0C f n < 2 ^ n
 | 0=>by simp [z0C]
 | n+1=>by
  have:=z2k f n;have h:(f n).toNat<=1:=Bool.toNat_le _;simp only [z0C,Nat.pow_succ];omega
def ltr (b:Bool):UInt8:=if b then 49 else 48
theorem z7r (b:Bool):(ltr b).toNat=48+b.toNat:=by cases b <;> rfl
def tab (r c:Nat):Int :=
 match r,c with
 | 1,0=>1
 | 2,0=>2
 | 2,1=>-1
 | 3,0=>3
 | 3,1=>-3
 | 3,2=>1
 | 4,0=>4
 | 4,1=>-6
 | 4,2=>4
 | 4,3=>-1
 | _,_=>0
def ord (kind:Nat):Nat:=if kind=7 then 2 else kind - 2
def scl (kind:Nat):Nat:=if kind=7 then 3 else 0
def wt (kind:Nat) (a c:Int) (j:Nat):Int:=if kind=7 then (if j=0 then a else if j=1 then c else 0) else tab (kind - 2) j
def sumG (w:Nat->Int) (x:Nat->Int) (i:Nat):Nat->Int
 | 0=>0
 | m+1=>sumG w x i m+w m * x (i - 1 - m)
def z0N (kind:Nat) (a c:Int) (x:Nat->Int) (i:Nat):Int:=sumG (wt kind a c) x i (ord kind) / (if kind=7 then 8 else 1)
def z0x (v lo hi:Int):Bool:=decide (lo<=v) && decide (v<=hi)
theorem z0J (v lo hi:Int):z0x v lo hi=true↔lo<=v/\v<=hi:=by simp [z0x]
def z0A (d:Nat) (v:Int):Bool:=z0x v (-(2 ^ (d - 1))) (2 ^ (d - 1) - 1)
theorem y9y {d:Nat} (h:d<=13):(2:Int) ^ (d - 1)<=4096:=by
 have h1:2 ^ (d - 1)<=4096:=zO (zE zU (by omega:d - 1<=12)) zR;have e:((2 ^ (d - 1):Nat):Int)=(2:Int) ^ (d - 1):=by simp
 rw [← e];exact Int.ofNat_le.2 h1
theorem z3S {d:Nat} {v:Int} (h:z0A d v=true) (hd:d<=13):-4096<=v/\v<=4096:=by
 unfold z0A at h;rw [z0J] at h;have:=y9y hd;omega
structure St where
 p:Nat
 k:Nat
 x:Nat->Int
open Go.RowKit Go.Deep
set_option linter.unusedVariables false
theorem z0q {k:IntKind} {a b:Int} (h:a=b):Ending.returned (.int k a)=.returned (.int k b):=by rw [h]
theorem Hid.mk' {p:Prop} (h:p):Hid p:=h
def Chg (B:Nat) (w w':World):Prop:=w.grownBy w' (some B)
theorem Chg.refl (B:Nat) (w:World):Chg B w w:=⟨rfl,rfl,rfl,Nat.le_refl _,fun _ _ _=>rfl⟩
theorem Chg.trans {B:Nat} {a b c:World} (h:Chg B a b) (k:Chg B b c):Chg B a c :=
 ⟨k.os.trans h.os,k.tape.trans h.tape,k.output.trans h.output,zO h.size k.size,fun j hj hne=>(k.block j (zP hj h.size) hne).trans (h.block j hj hne)⟩
theorem Chg.set {B:Nat} {w w':World} (h:Chg B w w') (i:Nat) (v:Value):Chg B w (w'.setCell ⟨B,i,none⟩ v) :=
 h.trans ⟨rfl,rfl,rfl,by rw [World.size_setCell];exact Nat.le_refl _,fun j _ hne=>blk_setCell_other _ _ _ _ (fun e=>hne (by rw [e]))⟩
theorem z9F (d m:Nat) (h:2 ^ d<=m):(2:Int) ^ d<=(m:Int):=by
 have e:((2 ^ d:Nat):Int)=(2:Int) ^ d:=by simp
 rw [← e];exact Int.ofNat_le.2 h
theorem y0Z (d:Nat):(1:Int)<=2 ^ d:=by have:0 < 2 ^ d:=Nat.two_pow_pos _;exact_mod_cast this
theorem z1g:(prog.info? 3).map (fun i=>(i.zero,i.size,i.bytes))=some (some (O I 0),1,8):=zT
theorem y3p:(prog.info? 3).map (·.size)=some 1:=zT
def IntsAt (w:World) (a:Option Addr) (n:Nat) (f:Nat->Int):Prop:=∀ i,i < n->∃ x,a=some x/\w.cell? (x.add i)=some (O I (f i))
theorem IntsAt.open {w:World} {a:Option Addr} {n:Nat} {f:Nat->Int} (h:IntsAt w a n f) (hn:0 < n) :
 ∃ b off,a=some ⟨b,off,none⟩/\∀ i,i < n->w.cell? ⟨b,off+i,none⟩=some (O I (f i)):=by
 obtain ⟨⟨b,off,sp⟩,rfl,hc⟩:=h 0 hn;have hs:sp=none:=by simpa [Addr.add] using World.cell?_spot hc
 subst hs;refine ⟨b,off,rfl,fun i hi=>?_⟩;obtain ⟨x,hx,hc⟩:=h i hi;cases hx;rw [← hc];cases i <;> simp [Addr.add]
def z1H (n:Nat) (f:Nat->Int) (i:Nat):Value:=O I (if i < n then f i else 77)
def z2P (n:Nat) (f:Nat->Int) (k i:Nat):Value:=O I (if i < n then f i else if i < k then 77 else 0)
theorem z8v (n:Nat) (f:Nat->Int) (i:Nat) (h:i < n+8):z2P n f (n+8) i=z1H n f i:=by
 unfold z2P z1H
 by_cases e:i < n
 . simp [e]
 . simp [e,h]
theorem z8w {w:World} {b:Nat} {t:TypeId} {n k:Nat} {f:Nat->Int} (hk:n<=k) (h:w.rowIs b t (n+8) (z2P n f k)) :
 (w.setCell ⟨b,k,none⟩ (O I 77)).rowIs b t (n+8) (z2P n f (k+1)):=by
 refine (h.set k (O I 77)).congr fun i _=>?_
 unfold z2P
 by_cases e:i=k
 . subst e;simp;omega
 . simp only [if_neg e]
   by_cases e1:i < n
   . simp [e1]
   . by_cases e2:i < k
     . simp [e2];omega
     . simp [e1,e2];omega
theorem z4f {w:World} {b:Nat} {t:TypeId} {n:Nat} {f:Nat->Int}
 (h:w.heap[b]?=some (.cells (splice (List.replicate (n+8) (Value.int .i64 0)) 0 ((List.range n).map fun i=>O I (f i))).toArray t (0,0))) :
 w.rowIs b t (n+8) (z2P n f n):=by
 refine ⟨_,h,?_,fun i hi=>?_⟩
 . simp [splice]
 . simp only [splice,List.take_zero,List.nil_append,List.getElem?_toArray,Nat.zero_add,List.length_map,List.length_range]
   unfold z2P
   by_cases e:i < n
   . rw [List.getElem?_append_left (by simpa using e)];simp [e]
   . rw [List.getElem?_append_right (by simp;omega)]
     rw [List.drop_replicate,List.getElem?_replicate];simp [e];omega
def z4g (a:Option Addr) (b:Nat):Option Addr:=a.map fun _=>⟨b,0,none⟩
def z6x (a:Option Addr) (n:Nat):Nat:=if a.isNone then 0 else n+8
theorem y3q (x:Addr) (n c:Nat) (f:Nat->Int) (w0 w:World) (g:Nat) (hI:IntsAt w (some x) n f)
 (hblk:w.heap[g]?=some (.cells (List.replicate (n+8) (Value.int .i64 0)).toArray 3 (0,0))) (hb:Below w0.heap.size w0 w) (hg:w0.heap.size<=g) :
 ∃ w2,(∀ ty,(Builtin.copy_ #[30,30] ty #[.slice (some ⟨g,0,none⟩) (n+8) (n+8),.slice (some x) n c]).run prog w=.ok (goInt n) w2) /\
  w2.rowIs g 3 (n+8) (z2P n f n)/\Below w0.heap.size w0 w2:=by
 by_cases h0:n=0
 . subst h0
   refine ⟨w,fun ty=>?_,z4f (by simpa [splice] using hblk),hb⟩;exact run_copy_none (P:=prog) w 30 30 ty 3 _ _ _ _ _ _ underlying30 y3p (by simp [Nat.min])
 . have hlen:((List.range n).map fun i=>Value.int .i64 (f i)).length=n:=by simp
   refine ⟨_,fun ty=>?_,z4f (w:=w.setRow g _) (n:=n) (f:=f) (setRow_heap w g _ _ 3 _ hblk),below_setRow hb hg _⟩;have h:=run_copy_row (P:=prog) w 30 30 ty 3 g 0 (n+8) (n+8) x n c _ 3 ((List.range n).map fun i=>O I (f i)) underlying30 y3p hblk
    (by rw [hlen];simp [Nat.min])
    (fun j v hj=>by
     have hj2:j < n:=by have:=(List.getElem?_eq_some_iff.1 hj).1;simpa using this
     obtain ⟨y,hy,hc⟩:=hI j hj2;cases hy;rw [hc,← hj];simp [hj2])
    (by rw [hlen];simp) (by intro v hv;obtain ⟨i,_,rfl⟩:=List.mem_map.1 hv;rfl)
   rw [hlen] at h;rw [h];simp [splice]
set_option maxHeartbeats 400000 in
theorem y3r (x:Addr) (n c:Nat) (f:Nat->Int) (w:World) (hn:n<=17592186044416) (hI:IntsAt w (some x) n f) (hx:0 < n->x.block < w.heap.size) :
 Calls prog 140 #[.slice (some x) n c] w fun e w'=>e=.returned (.slice (some ⟨w.heap.size,0,none⟩) n (n+8))/\w'.rowIs w.heap.size 3 (n+8) (z1H n f)/\Below w.heap.size w w':=by
 have hmk:=run_make_row' (P:=prog) 30 3 (O I 0) 8 underlying30 z1g rfl .i64 .i64 (n+8) zU zU;have ec:((n+8:Nat):Int)=(n:Int)+8:=zU
 rw [ec] at hmk;have hb0:Below w.heap.size w (w.alloc (.cells (madeCells #[O I 0] (n+8)) 3)):=zX.alloc zY _;have hblk:(w.alloc (.cells (madeCells #[O I 0] (n+8)) 3)).heap[w.heap.size]?=some (.cells (List.replicate (n+8) (Value.int .i64 0)).toArray 3 (0,0)):=by
  rw [← toList_madeCells_one];exact blk_alloc_new _ _
 have hI2:IntsAt (w.alloc (.cells (madeCells #[O I 0] (n+8)) 3)) (some x) n f:=fun i hi=>by
  obtain ⟨y,hy,hc⟩:=hI i hi;cases hy;refine ⟨x,rfl,?_⟩;rw [hb0.cell (by have:=hx zU;cases i <;> simpa [Addr.add] using this),hc]
 obtain ⟨w2,hcp,hrow,hbel⟩:=y3q x n c f w _ w.heap.size hI2 hblk hb0 zY;have hnil:=fun u:World=>Lib.run_eql_slice_nil (P:=prog) u 30 3 (some x) n c 0 0 underlying30
 clear hblk hI2 hb0 hI hx ec
 go_enter func140,ntmps140
 go_wp2;clear hmk hcp hnil
 go_loopw [5] (fun i wr=>∃ k:Nat,n<=k/\k<=n+8/\i=O I k/\wr.rowIs w.heap.size 3 (n+8) (z2P n f k)/\Below w.heap.size w wr) (fun i _=>n+8 - (intOf i).toNat)
 case atStart=>exact ⟨n,Nat.le_refl _,zU,rfl,hrow,hbel⟩
 case round =>
  clear hrow hbel;obtain ⟨k,hk1,hk2,rfl,hrow,hbel⟩:=hrel
  by_cases hlt:k < n+8
  . have hc1:=hrow.cell hlt
    have hf1:=hrow.frozen k;go_wp2
    go_roundw
    case rel=>exact ⟨k+1,zU,zU,zS,z8w hk1 hrow,hbel.setCell zY _⟩
    case measure=>simp [intOf];omega
  . have e:k=n+8:=zU
    subst e;go_wp2;go_ret;exact ⟨rfl,hrow.congr fun i hi=>z8v n f i hi,hbel⟩
set_option maxHeartbeats 400000 in
theorem y3s (w:World) :
 Calls prog 140 #[.slice none 0 0] w fun e w'=>e=.returned (.slice none 0 0)/\w'=w:=by
 have hnil:=fun u:World=>Lib.run_eql_slice_nil (P:=prog) u 30 3 none 0 0 0 0 underlying30
 go_enter func140,ntmps140
 go_wp2;go_ret;exact ⟨rfl,rfl⟩
set_option maxHeartbeats 400000 in
theorem y1S (x:Addr) (n c B:Nat) (f:Nat->Int) (w:World) (hn:n<=17592186044416) (hI:IntsAt w (some x) n f) (hrow:w.rowIs B 3 (n+8) (z1H n f)) :
 Calls prog 146 #[.slice (some ⟨B,0,none⟩) n (n+8),.slice (some x) n c] w fun e w'=>e=.returned (.bool true)/\w'=w:=by
 have hnil:=fun u:World=>Lib.run_eql_slice_nil (P:=prog) u 30 3 (some x) n c 0 0 underlying30
 have HI:Hid (IntsAt w (some x) n f):=hI;clear hI
 go_enter func146,ntmps146
 go_wp2;clear hnil
 go_loop [7,8] (fun i _=>∃ k:Nat,k<=n+8/\i=O I k) (fun i _=>n+8 - (intOf i).toNat)
 case atStart=>exact ⟨0,zJ _,rfl⟩
 case round =>
  obtain ⟨k,hk,rfl⟩:=hrel
  by_cases hlt:k < n+8
  . by_cases hkn:k < n
    . obtain ⟨b,off,hx,hc⟩:=HI.out.open zU
      cases hx;have hc1:=hc k hkn;have hc2:=hrow.cell hlt;unfold z1H at hc2;rw [if_pos hkn] at hc2;clear hc;go_wp2
      go_round
      case rel=>exact ⟨k+1,zU,zS⟩
      case measure=>simp [intOf];omega
    . have hc2:=hrow.cell hlt
      unfold z1H at hc2;rw [if_neg hkn] at hc2;go_wp2
      go_round
      case rel=>exact ⟨k+1,zU,zS⟩
      case measure=>simp [intOf];omega
  . go_wp2
    go_ret;exact ⟨rfl,rfl⟩
set_option maxHeartbeats 400000 in
theorem y1T (v:Value) (w:World) :
 Calls prog 146 #[v,.slice none 0 0] w fun e w'=>e=.returned (.bool true)/\w'=w:=by
 have hnil:=fun u:World=>Lib.run_eql_slice_nil (P:=prog) u 30 3 none 0 0 0 0 underlying30
 go_enter func146,ntmps146
 go_wp2;go_ret;exact ⟨rfl,rfl⟩
def z4A (g:Nat->Value) (v:Int) (k i:Nat):Value:=if i < k then O I v else g i
theorem z8x {w:World} {b:Nat} {t:TypeId} {n k:Nat} {g:Nat->Value} {v:Int} (h:w.rowIs b t n (z4A g v k)) :
 (w.setCell ⟨b,k,none⟩ (O I v)).rowIs b t n (z4A g v (k+1)):=by
 refine (h.set k (O I v)).congr fun i _=>?_
 unfold z4A
 by_cases e:i=k
 . subst e;simp
 . simp only [if_neg e]
   by_cases e2:i < k
   . rw [if_pos e2,if_pos zU]
   . rw [if_neg e2,if_neg zU]
structure Only (b:Nat) (w w':World):Prop where
 os:w'.os=w.os
 tape:w'.tape=w.tape
 output:w'.output=w.output
 size:w'.heap.size=w.heap.size
 block:∀ k,k ≠ b->w'.heap[k]?=w.heap[k]?
theorem Only.refl (b:Nat) (w:World):Only b w w:=⟨rfl,rfl,rfl,rfl,fun _ _=>rfl⟩
theorem Only.set {b:Nat} {w w':World} (h:Only b w w') (i:Nat) (v:Value):Only b w (w'.setCell ⟨b,i,none⟩ v) :=
 ⟨h.os,h.tape,h.output,by rw [World.size_setCell];exact h.size,fun k hk=>(blk_setCell_other _ _ _ _ (by simpa using hk)).trans (h.block k hk)⟩
theorem Only.below {b B:Nat} {w w':World} (h:Only b w w') (hb:B<=b):Below B w w' :=
 ⟨h.os,h.tape,h.output,Nat.le_of_eq h.size.symm,fun k hk=>h.block k zU⟩
theorem Only.row {b:Nat} {w w':World} (h:Only b w w') {c:Nat} {t:TypeId} {n:Nat} {f:Nat->Value} (hr:w.rowIs c t n f) (hc:c ≠ b):w'.rowIs c t n f :=
 hr.of_block (h.block c hc)
set_option maxHeartbeats 400000 in
theorem z2l (a:Option Addr) (n c:Nat) (v:Int) (w:World) (hn:n<=17592186044416) (hI:IntsAt w a n (fun _=>v)) :
 Calls prog 98 #[.slice a n c,O I n,O I v] w fun e w'=>e=.returned (.bool true)/\w'=w:=by
 have HI:Hid (IntsAt w a n (fun _=>v)):=hI;clear hI
 go_enter func98,ntmps98
 go_wp2
 go_loop [7] (fun i=>∃ k:Nat,k<=n/\i=O I k) (fun i=>n - (intOf i).toNat)
 case atStart=>exact ⟨0,zJ _,rfl⟩
 case round =>
  obtain ⟨k,hk,rfl⟩:=hrel
  by_cases hlt:k < n
  . obtain ⟨b,off,hx,hc⟩:=HI.out.open zU
    cases hx;have hc1:=hc k hlt;clear hc;go_wp2
    go_round
    case rel=>exact ⟨k+1,zU,zS⟩
    case measure=>simp [intOf];omega
  . go_wp2
    go_ret;exact ⟨rfl,rfl⟩
def sel4 (w0 w1 w2 w3:Int) (j:Nat):Int:=if j=0 then w0 else if j=1 then w1 else if j=2 then w2 else if j=3 then w3 else 0
theorem y3t (o sc w0 w1 w2 w3:Int) (w:World) (t:TypeId) (i:Nat) (hi:i < 4) :
 (w.alloc (.cells #[O I o,O I w0,O I w1,O I w2,O I w3,O I sc] t)).cell? ⟨w.heap.size,1+i,none⟩=some (O I (sel4 w0 w1 w2 w3 i)):=by
 rw [World.cell?_alloc_new]
 match i,hi with
 | 0,_=>rfl
 | 1,_=>rfl
 | 2,_=>rfl
 | 3,_=>rfl
theorem y3u {w0 w1 w2 w3:Int} (h0:-32<=w0/\w0<=32) (h1:-32<=w1/\w1<=32) (h2:-32<=w2/\w2<=32) (h3:-32<=w3/\w3<=32) (j:Nat):-32<=sel4 w0 w1 w2 w3 j/\sel4 w0 w1 w2 w3 j<=32:=by
 unfold sel4;split
 . exact h0
 . split
   . exact h1
   . split
     . exact h2
     . split
       . exact h3
       . omega
theorem z8y {u v:Int} (hu:-32<=u/\u<=32) (hv:-4096<=v/\v<=4096):-131072<=u * v/\u * v<=131072:=by
 have h:=Int.natAbs_mul u v;have h1:u.natAbs<=32:=zU
 have h2:v.natAbs<=4096:=zU
 have h3:u.natAbs * v.natAbs<=32 * 4096:=Nat.mul_le_mul h1 h2;omega
theorem z7s {w x:Nat->Int} {i:Nat} (hw:∀ j,-32<=w j/\w j<=32) (hx:∀ j,j < i->-4096<=x j/\x j<=4096) (hi:0 < i):∀ m:Nat,-131072 * (m:Int)<=sumG w x i m/\sumG w x i m<=131072 * (m:Int)
 | 0=>by simp [sumG]
 | m+1=>by
  have:=z7s hw hx hi m;have h:=z8y (hw m) (hx (i - 1 - m) zU);simp only [sumG];omega
set_option maxHeartbeats 1000000 in
theorem y3v (o sc:Nat) (w0 w1 w2 w3:Int) (a:Option Addr) (n c:Nat) (x:Nat->Int) (w:World) (ho:o<=4) (hon:o<=n) (hsc:sc<=3) (hn:n<=32)
 (k0:-32<=w0/\w0<=32) (k1:-32<=w1/\w1<=32) (k2:-32<=w2/\w2<=32) (k3:-32<=w3/\w3<=32) (hX:∀ j,j < n->-4096<=x j/\x j<=4096)
 (hI:IntsAt w a n x) (hlow:∀ y,a=some y->0 < n->y.block < w.heap.size) :
 Calls prog 318 #[.agg #[O I o,O I w0,O I w1,O I w2,O I w3,O I sc],.slice a n c] w fun e w' =>
  e=.returned (O I (sumG (sel4 w0 w1 w2 w3) x n o / 2 ^ sc))/\Below w.heap.size w w':=by
 obtain ⟨W,hWe⟩:∃ W,W=w.alloc (.cells #[O I o,O I w0,O I w1,O I w2,O I w3,O I sc] 333):=⟨_,rfl⟩;have hb:Below w.heap.size w W:=by rw [hWe];exact zX.alloc zY _
 have HB:Hid (∀ m,Below w.heap.size w (World.drewN (w.alloc (.cells #[O I o,O I w0,O I w1,O I w2,O I w3,O I sc] 333)) m)):=fun m=>by
  rw [← hWe];exact ⟨hb.os,hb.tape,hb.output,hb.size,hb.block⟩
 have HI:Hid (IntsAt (w.alloc (.cells #[O I o,O I w0,O I w1,O I w2,O I w3,O I sc] 333)) a n x):=by
  intro i hi;obtain ⟨y,hy,hc⟩:=hI i hi;refine ⟨y,hy,?_⟩;rw [← hWe,hb.cell (by have:=hlow y hy zU;cases i <;> simpa [Addr.add] using this),hc]
 clear hWe hb hI hlow;have HS:=z7s (w:=sel4 w0 w1 w2 w3) (x:=x) (i:=n) (y3u k0 k1 k2 k3);have HX:Hid (∀ j,j < n->-4096<=x j/\x j<=4096):=hX;have HM:Hid (∀ j,-32<=sel4 w0 w1 w2 w3 j/\sel4 w0 w1 w2 w3 j<=32):=y3u k0 k1 k2 k3;clear hX k0 k1 k2 k3;have hHS:Hid _:=HS;clear HS
 go_enter func318,ntmps318
 go_wp2
 go_loopw [5,6,9] (fun v _ i wr=>∃ j:Nat,j<=o/\i=O I j/\v=O I (sumG (sel4 w0 w1 w2 w3) x n j)/\∃ m,wr=World.drewN (w.alloc (.cells #[O I o,O I w0,O I w1,O I w2,O I w3,O I sc] 333)) m) (fun _ _ i _=>o - (intOf i).toNat)
 case atStart=>exact ⟨0,zJ _,rfl,rfl,0,rfl⟩
 case round =>
  obtain ⟨j,hj,rfl,rfl,m,rfl⟩:=hrel
  by_cases hlt:j < o
  . obtain ⟨b,off,hx,hc⟩:=HI.out.open zU
    cases hx;have hc1:=hc (n - 1 - j) zU;have hc2:=y3t (o:Int) (sc:Int) w0 w1 w2 w3 w 333 j zU;have hmb:=z8y (HM.out j) (HX.out (n - 1 - j) zU);have hsb:=hHS.out HX.out zU j;have HE:Hid (sumG (sel4 w0 w1 w2 w3) x n (j+1)=sumG (sel4 w0 w1 w2 w3) x n j+sel4 w0 w1 w2 w3 j * x (n - 1 - j)):=rfl;clear hc;go_wp2
    go_region
    all_goals go_wp2
    go_roundw
    case rel=>exact ⟨j+1,zU,zS,by rw [HE.out],_,rfl⟩
    case measure=>simp [intOf];omega
  . have e:j=o:=zU
    subst e;go_wp2;go_ret;exact ⟨z0q rfl,HB.out _⟩
theorem z0G {a b:Bool} (h:a=b):Ending.returned (.bool a)=.returned (.bool b):=by rw [h]
def Says (e:Ending) (p:Prop):Prop:=∃ b:Bool,e=.returned (.bool b)/\(b=true↔p)
theorem Says.yes {p:Prop} (h:p):Says (.returned (.bool true)) p:=⟨true,rfl,by simp [h]⟩
theorem Says.no {p:Prop} (h:¬ p):Says (.returned (.bool false)) p:=⟨false,rfl,by simp [h]⟩
theorem Says.true_of {e:Ending} {p:Prop} (h:Says e p) (hp:p):e=.returned (.bool true):=by
 obtain ⟨b,rfl,hb⟩:=h;rw [hb.2 hp]
theorem Says.false_of {e:Ending} {p:Prop} (h:Says e p) (hp:¬ p):e=.returned (.bool false):=by
 obtain ⟨b,rfl,hb⟩:=h;cases b
 . rfl
 . exact absurd (hb.1 rfl) hp
theorem z0T (v lo hi:Int) (w:World) :
 Calls prog 70 #[O I v,O I lo,O I hi] w fun e w'=>e=.returned (.bool (z0x v lo hi))/\w'=w:=by
 by_cases h:lo<=v
 . go_enter func70,ntmps70
   go_wp2;go_ret;exact ⟨z0G (by simp [z0x,h]),rfl⟩
 . have hd:decide (lo<=v)=false:=zM h
   go_enter func70,ntmps70
   go_wp2;go_ret;exact ⟨z0G (by simp [z0x];omega),rfl⟩
set_option maxHeartbeats 400000 in
theorem z4Y (d:Nat) (v:Int) (w:World) (h1:1<=d) (h2:d<=13) :
 Calls prog 246 #[O I d,O I v] w fun e w'=>e=.returned (.bool (z0A d v))/\w'=w:=by
 have hp1:=y0Z (d - 1);have hp2:=z9F (d - 1) 4096 (zO (zE zU (by omega:d - 1<=12)) zR)
 go_enter func246,ntmps246
 go_wp2_with (go_at_call 70;refine (z0T _ _ _ _).mono ?_;rintro e w' ⟨rfl,rfl⟩)
 go_ret;exact ⟨rfl,rfl⟩
theorem z2Q (kind:Nat) (w:World) (h:2<=kind) (h7:kind<=7) :
 Calls prog 319 #[O I kind] w fun e w'=>e=.returned (O I (ord kind))/\w'=w:=by
 have HO:Hid (ord kind=if kind=7 then 2 else kind - 2):=rfl
 by_cases e:kind=7
 . have h1:((kind:Int) == 7)=true:=by simp;omega
   go_enter func319,ntmps319
   go_wp2;go_ret;exact ⟨z0q (by rw [HO.out,if_pos e];rfl),rfl⟩
 . have h1:((kind:Int) == 7)=false:=by simp;omega
   go_enter func319,ntmps319
   go_wp2;go_ret;exact ⟨z0q (by rw [HO.out,if_neg e];omega),rfl⟩
def cutB (n o c:Nat):Bool:=decide (n / 2 ^ c * 2 ^ c=n) && decide (o < n / 2 ^ c)
set_option maxHeartbeats 400000 in
theorem z8z (n o c:Nat) (w:World) (hn:n<=32) (ho:o<=4) (hc:c<=3) :
 Calls prog 339 #[O I n,O I o,O I c] w fun e w'=>e=.returned (.tuple #[O I ((n / 2 ^ c:Nat):Int),.bool (cutB n o c)])/\w'=w:=by
 have HC:Hid (∀ c,cutB n o c=(decide (n / 2 ^ c * 2 ^ c=n) && decide (o < n / 2 ^ c))):=fun _=>rfl
 have e2:((n / 2 ^ c:Nat):Int)=(n:Int) / 2 ^ c:=by simp
 have hd1:0<=(n:Int) / 2 ^ c:=by rw [← e2];exact Int.natCast_nonneg _
 have hd2:(n:Int) / 2 ^ c<=32:=by rw [← e2];have:=Nat.div_le_self n (2 ^ c);omega
 have hp1:=y0Z c;have hp2:=z9F c 8 (zO (zE zU (by omega:c<=3)) zR);have hm1:0<=(n:Int) / 2 ^ c * 2 ^ c:=Int.mul_nonneg hd1 zU;have hm2:(n:Int) / 2 ^ c * 2 ^ c<=256:=by
  have:(n:Int) / 2 ^ c * 2 ^ c<=32 * 8:=Int.mul_le_mul hd2 hp2 zU zU;omega
 have e3:((n / 2 ^ c * 2 ^ c:Nat):Int)=(n:Int) / 2 ^ c * 2 ^ c:=by simp
 have HE2:Hid (((n / 2 ^ c:Nat):Int)=(n:Int) / 2 ^ c):=e2
 by_cases h:n / 2 ^ c * 2 ^ c=n
 . have ht:((n:Int) / 2 ^ c * 2 ^ c == (n:Int))=true:=by rw [← e3];simp;omega
   have HH:Hid (n / 2 ^ c * 2 ^ c=n):=h;clear h e2 e3
   go_enter func339,ntmps339
   go_wp2;go_ret2;refine ⟨?_,rfl⟩;rw [HC.out,HE2.out];have h1:decide (n / 2 ^ c * 2 ^ c=n)=true:=zL HH.out;have h2:decide (o < n / 2 ^ c)=decide ((o:Int) < (n:Int) / 2 ^ c):=by rw [decide_eq_decide,← HE2.out];omega
   rw [h1,h2];rfl
 . have ht:((n:Int) / 2 ^ c * 2 ^ c == (n:Int))=false:=by rw [← e3];simp;omega
   have HH:Hid (¬ n / 2 ^ c * 2 ^ c=n):=h;clear h e2 e3
   go_enter func339,ntmps339
   go_wp2;go_ret2;refine ⟨?_,rfl⟩;rw [HC.out,HE2.out];have h1:decide (n / 2 ^ c * 2 ^ c=n)=false:=zM HH.out;rw [h1];rfl
def z1v (w:World) (g:Nat):Prop:=∀ r c,r < 5->c < 4->w.cell? ⟨g,4 * r+c,none⟩=some (O I (tab r c))
def gV (kind:Nat) (a c:Int):Value:=.agg #[O I (ord kind),O I (wt kind a c 0),O I (wt kind a c 1),O I (wt kind a c 2),O I (wt kind a c 3),O I (scl kind:Int)]
set_option maxHeartbeats 1000000 in
theorem y3w (kind:Nat) (a c:Int) (w:World) (h2:2<=kind) (h6:kind<=6) (hT:z1v w 5) (hg:5 < w.heap.size) :
 Calls prog 322 #[O I kind] w fun e w'=>e=.returned (gV kind a c)/\Below w.heap.size w w':=by
 have fin:∀ o v,Below w.heap.size w ((w.alloc o).setCell ⟨w.heap.size,0,none⟩ v):=fun o v=>(zX.alloc zY _).setCell zY _
 have hal:∀ o j,(w.alloc o).cell? ⟨5,j,none⟩=w.cell? ⟨5,j,none⟩:=fun o j=>World.cell?_alloc_lt w o ⟨5,j,none⟩ hg
 obtain rfl | rfl | rfl | rfl | rfl:kind=2∨kind=3∨kind=4∨kind=5∨kind=6:=zU
 . have t0:w.cell? ⟨5,0,none⟩=some (O I 0):=hT 0 0 zU zU
   have t1:w.cell? ⟨5,1,none⟩=some (O I 0):=hT 0 1 zU zU;have t2:w.cell? ⟨5,2,none⟩=some (O I 0):=hT 0 2 zU zU;have t3:w.cell? ⟨5,3,none⟩=some (O I 0):=hT 0 3 zU zU;clear hT
   go_enter func322,ntmps322
   go_wp2;refine bodyPost_ret (v:=gV 2 a c) (by simp [results,results322,go_sem,gV,ord,wt,tab,scl]) rfl ⟨rfl,?_⟩;exact (zX.alloc zY _)
 . have t0:w.cell? ⟨5,4,none⟩=some (O I 1):=hT 1 0 zU zU
   have t1:w.cell? ⟨5,5,none⟩=some (O I 0):=hT 1 1 zU zU;have t2:w.cell? ⟨5,6,none⟩=some (O I 0):=hT 1 2 zU zU;have t3:w.cell? ⟨5,7,none⟩=some (O I 0):=hT 1 3 zU zU;clear hT
   go_enter func322,ntmps322
   go_wp2;refine bodyPost_ret (v:=gV 3 a c) (by simp [results,results322,go_sem,gV,ord,wt,tab,scl]) rfl ⟨rfl,?_⟩;exact (zX.alloc zY _)
 . have t0:w.cell? ⟨5,8,none⟩=some (O I 2):=hT 2 0 zU zU
   have t1:w.cell? ⟨5,9,none⟩=some (O I (-1)):=hT 2 1 zU zU;have t2:w.cell? ⟨5,10,none⟩=some (O I 0):=hT 2 2 zU zU;have t3:w.cell? ⟨5,11,none⟩=some (O I 0):=hT 2 3 zU zU;clear hT
   go_enter func322,ntmps322
   go_wp2;refine bodyPost_ret (v:=gV 4 a c) (by simp [results,results322,go_sem,gV,ord,wt,tab,scl]) rfl ⟨rfl,?_⟩;exact (zX.alloc zY _)
 . have t0:w.cell? ⟨5,12,none⟩=some (O I 3):=hT 3 0 zU zU
   have t1:w.cell? ⟨5,13,none⟩=some (O I (-3)):=hT 3 1 zU zU;have t2:w.cell? ⟨5,14,none⟩=some (O I 1):=hT 3 2 zU zU;have t3:w.cell? ⟨5,15,none⟩=some (O I 0):=hT 3 3 zU zU;clear hT
   go_enter func322,ntmps322
   go_wp2;refine bodyPost_ret (v:=gV 5 a c) (by simp [results,results322,go_sem,gV,ord,wt,tab,scl]) rfl ⟨rfl,?_⟩;exact (zX.alloc zY _)
 . have t0:w.cell? ⟨5,16,none⟩=some (O I 4):=hT 4 0 zU zU
   have t1:w.cell? ⟨5,17,none⟩=some (O I (-6)):=hT 4 1 zU zU;have t2:w.cell? ⟨5,18,none⟩=some (O I 4):=hT 4 2 zU zU;have t3:w.cell? ⟨5,19,none⟩=some (O I (-1)):=hT 4 3 zU zU;clear hT
   go_enter func322,ntmps322
   go_wp2;refine bodyPost_ret (v:=gV 6 a c) (by simp [results,results322,go_sem,gV,ord,wt,tab,scl]) rfl ⟨rfl,?_⟩;exact (zX.alloc zY _)
end Go.Proofs.YtlncjgnomhpjnabGreatDoor
namespace Go.Proofs.YtlncjgnomhpjnabGreatDoor
open Go.Value renaming int → O
open Go.IntKind renaming i64 → I
open Go.Proofs.Tryz
open Go Go.Lib
set_option linter.unusedVariables false
theorem z2R {H:Type} {enc:TypeId × Value->H} {P:Program} {w:World} {base:Nat} {sp:Nat->Bool} {held:Bool} {fuel:Nat} {t e1 e:TypeId} {n m:Nat} {k:IntKind} {cs:List Value} {zss:List (List Int)} {p:List MemPlace}
 (ht:P.underlying t=some (.array n e1)) (h1:P.underlying e1=some (.array m e)) (he:P.underlying e=some (.int k)) (hce:P.cellsOf e=1) (hc1:P.cellsOf e1=m) (hct:P.cellsOf t=n * m)
 (h:DataW.trod enc P w base sp held fuel t cs=some (.agg (zss.map (tabData k)),p)) :
 ∀ r zs,zss[r]?=some zs->∀ c z,c < m->zs[c]?=some z->cs[r * m+c]?=some (Value.int k z):=by
 cases fuel with
 | zero=>simp [DataW.trod] at h
 | succ fuel =>
  simp only [DataW.trod,ht,hc1,hct] at h;split at h
  . rename_i hl
    obtain ⟨xs,hm,hx⟩:=Option.map_eq_some_iff.1 h;have hxs:xs.map (·.1)=zss.map (tabData (H:=H) k):=by
     have:=congrArg Prod.fst hx
     simpa using this
    have hxl:xs.length=n:=by simpa using mapM_length hm
    have hzl:zss.length=n:=by
     have:=congrArg List.length hxs;simp at this;omega
    intro r zs hr c z hc hz;have hrn:r < n:=by rw [← hzl];exact (List.getElem?_eq_some_iff.1 hr).1
    obtain ⟨b,hb,hf⟩:=mapM_at hm r r (by simp [hrn]);have h2:(xs.map (·.1))[r]?=some b.1:=by simp [hb]
    rw [hxs,List.getElem?_map,hr] at h2;have h3:b.1=tabData k zs:=by simpa using h2.symm
    obtain ⟨b1,b2⟩:=b;simp only at h3;subst h3;have h4:=cells_of_tab h1 he hce hc1 hf;have h5:=congrArg (·[c]?) h4;simp [List.getElem?_drop,hc,hz] at h5;exact h5
  . cases h
def z7t:List (List Int):=[[0,0,0,0],[1,0,0,0],[2,-1,0,0],[3,-3,1,0],[4,-6,4,-1]]
theorem z6J (r c:Nat) (hr:r < 5) (hc:c < 4):∃ zs,z7t[r]?=some zs/\zs[c]?=some (tab r c):=by
 have h:∀ r:Fin 5,∀ c:Fin 4,(z7t[r.val]?.bind fun zs=>zs[c.val]?)=some (tab r.val c.val):=by decide
 have:=h ⟨r,hr⟩ ⟨c,hc⟩;exact Option.bind_eq_some_iff.1 this
theorem y7g:Tryz.prog.globalNamed "reel/reelref.taken" = some 2:=by kernel_rfl
theorem y1U:(Tryz.prog.globals[2]?).map (·.type)=some 387:=by kernel_rfl
theorem y7h:Tryz.prog.globalNamed "reel/subframe.fixedWeights" = some 5:=by kernel_rfl
theorem y1V:(Tryz.prog.globals[5]?).map (·.type)=some 387:=by kernel_rfl
theorem y3x:Tryz.prog.cellsOf 387=5 * 4:=by kernel_rfl
theorem y7i:Tryz.prog.cellsOf 331=4:=by kernel_rfl
theorem y3y:Tryz.prog.cellsOf 3=1:=by kernel_rfl
end Go.Proofs.YtlncjgnomhpjnabGreatDoor
namespace Go.Proofs.YtlncjgnomhpjnabGreatDoor
open Go.Value renaming int → O
open Go.IntKind renaming i64 → I
open Go.Proofs.Tryz
open Go.RowKit Go.Deep
set_option linter.unusedVariables false
def cutI (n:Nat) (x:Nat->Int) (i:Nat):Int:=if i < n then x i else 0
def cutV (n:Nat) (x:Nat->Int) (i:Nat):Value:=O I (cutI n x i)
theorem z2F {w:World} {g:Nat} {t:TypeId} {cap k:Nat} {x:Nat->Int} {z:Int} (hz:z=x k) (h:w.rowIs g t cap (fun i=>if i=k then O I z else cutV k x i)):w.rowIs g t cap (cutV (k+1) x):=by
 refine h.congr fun i _=>?_
 unfold cutV cutI
 by_cases e:i=k
 . subst e;simp [hz]
 . by_cases e2:i < k
   . simp [e,e2,Nat.lt_succ_of_lt e2]
   . have:¬ i < k+1:=zU
     simp [e,e2,this]
theorem z9G (a c:Int) (w:World) :
 Calls prog 321 #[O I a,O I c] w fun e w'=>e=.returned (gV 7 a c)/\Below w.heap.size w w':=by
 go_enter func321,ntmps321
 go_wp2;exact bodyPost_ret (v:=gV 7 a c) (by simp [results,results321,go_sem,gV,ord,wt,scl]) rfl ⟨rfl,(zX.alloc zY _)⟩
def Gd (w:World) (G kind:Nat) (a c:Int):Prop:=w.heap[G]?=some (.cells #[O I (ord kind),O I (wt kind a c 0),O I (wt kind a c 1),O I (wt kind a c 2),O I (wt kind a c 3),O I (scl kind:Int)] 333 (0,0))
theorem Gd.of {w w':World} {G kind:Nat} {a c:Int} (h:Gd w G kind a c) (e:w'.heap[G]?=w.heap[G]?):Gd w' G kind a c:=e.trans h
theorem Gd.cells {w:World} {G kind:Nat} {a c:Int} (h:Gd w G kind a c) :
 w.cell? ⟨G,0,none⟩=some (O I (ord kind))/\w.cell? ⟨G,1,none⟩=some (O I (wt kind a c 0))/\w.cell? ⟨G,2,none⟩=some (O I (wt kind a c 1))/\w.cell? ⟨G,3,none⟩=some (O I (wt kind a c 2)) /\
  w.cell? ⟨G,4,none⟩=some (O I (wt kind a c 3))/\w.cell? ⟨G,5,none⟩=some (O I (scl kind:Int)):=by
 simp [World.cell?,show w.heap[G]?=_ from h]
theorem z3j (kind:Nat) (h2:2<=kind) (h7:kind<=7):ord kind<=4:=by unfold ord;split <;> omega
theorem y8E (kind:Nat) (a c:Int) (ha:-32<=a/\a<=32) (hc:-32<=c/\c<=32) (j:Nat):-32<=wt kind a c j/\wt kind a c j<=32:=by
 unfold wt;split
 . split
   . exact ha
   . split
     . exact hc
     . omega
 . unfold tab;split <;> omega
theorem y7z (kind:Nat) (a c:Int) (j:Nat) (hj:j < 4):sel4 (wt kind a c 0) (wt kind a c 1) (wt kind a c 2) (wt kind a c 3) j=wt kind a c j:=by
 match j,hj with
 | 0,_=>rfl
 | 1,_=>rfl
 | 2,_=>rfl
 | 3,_=>rfl
theorem z4B {w w' x x':Nat->Int} {i:Nat}:∀ m,(∀ j,j < m->w j=w' j)->(∀ j,j < m->x (i - 1 - j)=x' (i - 1 - j))->sumG w x i m=sumG w' x' i m
 | 0,_,_=>rfl
 | m+1,h,hx=>by simp only [sumG];rw [z4B m (fun j hj=>h j zU) (fun j hj=>hx j zU),h m zU,hx m zU]
theorem y5J (kind:Nat) (a c:Int) (x:Nat->Int) (n:Nat) (h2:2<=kind) (h7:kind<=7) :
 sumG (sel4 (wt kind a c 0) (wt kind a c 1) (wt kind a c 2) (wt kind a c 3)) x n (ord kind) / 2 ^ scl kind=z0N kind a c x n:=by
 unfold z0N scl;have:=z3j kind h2 h7;rw [z4B (w':=wt kind a c) (x':=x) (ord kind) (fun j hj=>y7z kind a c j zU) (fun _ _=>rfl)];split <;> rfl
theorem y3z {kind:Nat} {a c:Int} {x:Nat->Int} {n:Nat} (h2:2<=kind) (h7:kind<=7) (ha:-32<=a/\a<=32) (hc:-32<=c/\c<=32) (hx:∀ j,j < n->-4096<=x j/\x j<=4096) (hn:0 < n∨ord kind=0):-524288<=z0N kind a c x n/\z0N kind a c x n<=524288:=by
 have ho:=z3j kind h2 h7;have hs:-524288<=sumG (wt kind a c) x n (ord kind)/\sumG (wt kind a c) x n (ord kind)<=524288:=by
  rcases hn with hn | hn
  . have:=z7s (w:=wt kind a c) (x:=x) (i:=n) (y8E kind a c ha hc) hx hn (ord kind)
    omega
  . rw [hn];simp [sumG]
 unfold z0N;split <;> omega
theorem z5v {n o q:Nat} (h:cutB n o q=true):n / 2 ^ q * 2 ^ q=n/\o < n / 2 ^ q:=by
 simpa [cutB] using h
end Go.Proofs.YtlncjgnomhpjnabGreatDoor
