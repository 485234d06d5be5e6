import Derived.Test.YtlncjgnomhpjnabGreatDoorQC33
import Derived.BigQuiet
import Derived.Deep.QuietTactic
import Derived.Test.YtlncjgnomhpjnabGreatDoorQC22
import Derived.Test.YtlncjgnomhpjnabGreatDoorQC24
import Derived.Test.YtlncjgnomhpjnabGreatDoorQC17
import Derived.Test.YtlncjgnomhpjnabGreatDoorQC30
import Derived.Test.YtlncjgnomhpjnabGreatDoorQC18
import Derived.Deep.RegionHeld3
import Derived.Test.YtlncjgnomhpjnabGreatDoorQC0
namespace Go.Proofs.YtlncjgnomhpjnabGreatDoor
open Go.Value renaming int → O
open Go.IntKind renaming i64 → I
open Go.Proofs.Tryz (prog)
open Go.RowKit Go.Deep
set_option linter.unusedVariables false
structure KP (d n B c3 c4 S:Nat) (F:Nat->Nat->Int):Prop where
 d4:4<=d
 d12:d<=12
 n1:1<=n
 n4:n<=4
 B1:1<=B
 B32:B<=32
 c3b:c3 < 65536
 c4b:c4 < 256
 S3:S<=300
 fit:∀ i,i < n->∀ j,j < S->fitsB d (F i j)=true
theorem KP.blk {d n B c3 c4 S:Nat} {F:Nat->Nat->Int} (h:KP d n B c3 c4 S F) {k:Nat} (hk:k < nBlk S B):∀ i,i < n->∀ j,j < blkN S B k->fitsB d (blkF F B k i j)=true:=fun i hi j hj=>by
 have:=z1r h.B1 hk;exact h.fit i hi (k * B+j) (by omega)
theorem KP.nb {d n B c3 c4 S:Nat} {F:Nat->Nat->Int} (h:KP d n B c3 c4 S F):nBlk S B<=300:=Nat.le_trans (z1a h.B1) h.S3
def tlX (d n:Nat) (F:Nat->Nat->Int) (S B k:Nat):List UInt8:=(frsT d n F S B (nBlk S B)).drop (frsT d n F S B k).length
theorem z4G (d n:Nat) (F:Nat->Nat->Int) (S B k:Nat):∀ j,∃ Z,frsT d n F S B (k+j)=frsT d n F S B k ++ Z
 | 0=>⟨[],by rw [List.append_nil];rfl⟩
 | j+1=>by
  obtain ⟨Z,hZ⟩:=z4G d n F S B k j;exact ⟨Z ++ frT d n F S B (k+j),by show frsT d n F S B (k+j) ++ frT d n F S B (k+j)=_;rw [hZ,List.append_assoc]⟩
theorem y7R {d n:Nat} {F:Nat->Nat->Int} {S B k:Nat} (hk:k < nBlk S B):tlX d n F S B k=frT d n F S B k ++ tlX d n F S B (k+1):=by
 obtain ⟨Z,hZ⟩:=z4G d n F S B (k+1) (nBlk S B - (k+1));rw [Nat.add_sub_cancel' hk] at hZ;have e:frsT d n F S B (k+1)=frsT d n F S B k ++ frT d n F S B k:=rfl;unfold tlX;rw [hZ,List.drop_left,e,List.append_assoc,List.drop_left]
theorem y7S (d n:Nat) (F:Nat->Nat->Int) (S B:Nat):tlX d n F S B 0=frsT d n F S B (nBlk S B):=rfl
theorem z7V {a b:Nat} (h:∀ j,j < a↔j < b):a=b:=by
 have h1:=h a;have h2:=h b;omega
theorem z7W (ln:Nat->Nat) {s:Nat} (hs:1<=s):∀ k,pntN ln s k=(List.range (nBlk k s)).map fun i=>atN ln (i * s)
 | 0=>by
  have e:nBlk 0 s=0:=z7V fun j=>by rw [z1b hs];omega
  rw [e];rfl
 | k+1=>by
  unfold pntN
  by_cases h:k % s=0
  . have hq:k / s * s=k:=Nat.div_mul_cancel (Nat.dvd_of_mod_eq_zero h)
    generalize k / s=q at hq;have e1:nBlk k s=q:=z7V fun j=>by rw [z1b hs,← hq];exact Nat.mul_lt_mul_right hs
    have e2:nBlk (k+1) s=q+1:=z7V fun j=>by
     rw [z1b hs,← hq,Nat.lt_succ_iff,Nat.lt_succ_iff];exact Nat.mul_le_mul_right_iff hs
    rw [if_pos ⟨hs,h⟩,z7W ln hs k,e1,e2,List.range_succ,List.map_append,List.map_cons,List.map_nil,hq]
  . have e1:nBlk (k+1) s=nBlk k s:=z7V fun j=>by
      rw [z1b hs,z1b hs];have:j * s ≠ k:=fun e=>h (by rw [← e];exact Nat.mul_mod_left _ _)
      omega
    rw [if_neg (fun hh=>h hh.2),z7W ln hs k,e1]
theorem z9x (ln:Nat->Nat):∀ k,pntN ln 0 k=[]
 | 0=>rfl
 | k+1=>by
  unfold pntN;rw [if_neg (fun h=>by omega)];exact z9x ln k
theorem y4B (ln:Nat->Nat) (S B s:Nat):(pntN ln s (nBlk S B)).length=nPts S B s:=by
 unfold nPts
 by_cases h:s=0
 . rw [if_pos h,h,z9x];rfl
 . rw [if_neg h,z7W ln (by omega),List.length_map,List.length_range]
theorem y4C (d n:Nat) (F:Nat->Nat->Int) (S B:Nat):∀ k,atN (lnF d n F S B) k=(frsT d n F S B k).length
 | 0=>rfl
 | k+1=>by
  show atN (lnF d n F S B) k+_=(frsT d n F S B k ++ frT d n F S B k).length
  rw [y4C d n F S B k,List.length_append]
  rfl
theorem z7e (wh c0 c1 c2 c3 s c4 le mo su:Nat) (ps:List Nat) (R:List UInt8) (h0:wh < 256) (h1:c0 < 256) (h2:c1 < 256) (h3:c2 < 256) (h4:c3 < 65536) (h5:s < 65536) (h6:c4 < 256) (hle:le < 65536) (hmo:mo < 65536) (hsu:su < 4294967296) :
 dWh (z0o wh c0 c1 c2 c3 s c4 le mo su ps ++ R)=wh/\dCh (z0o wh c0 c1 c2 c3 s c4 le mo su ps ++ R)=c0/\dDe (z0o wh c0 c1 c2 c3 s c4 le mo su ps ++ R)=c1/\dBl (z0o wh c0 c1 c2 c3 s c4 le mo su ps ++ R)=c2/\dRa (z0o wh c0 c1 c2 c3 s c4 le mo su ps ++ R)=c3/\dSa (z0o wh c0 c1 c2 c3 s c4 le mo su ps ++ R)=s/\dSe (z0o wh c0 c1 c2 c3 s c4 le mo su ps ++ R)=c4/\dLe (z0o wh c0 c1 c2 c3 s c4 le mo su ps ++ R)=le/\dMo (z0o wh c0 c1 c2 c3 s c4 le mo su ps ++ R)=mo/\dSu (z0o wh c0 c1 c2 c3 s c4 le mo su ps ++ R)=su:=by
 have hhl:=z1g wh c0 c1 c2 c3 s c4 le mo su ps;have hF:∀ a b,a<=b->b<=19->z0d (z0o wh c0 c1 c2 c3 s c4 le mo su ps ++ R) a b=z0d (z0Z wh c0 c1 c2 c3 s c4 le mo su) a b:=fun a b h1 h2=>by
  have hl:=z0R wh c0 c1 c2 c3 s c4 le mo su;rw [z0c _ _ a b h1 (by omega)];unfold z0o z0H;rw [z0c _ _ a b h1 (by rw [List.length_append,z0x];omega),z0c _ _ a b h1 (by rw [z0x];omega)];unfold seal8;rw [z0c _ _ a b h1 (by omega)]
 obtain ⟨f1,f2,f3⟩:=z7c wh c0 c1 c2 c3 s c4 le mo su ps hle hmo hsu;have hG:∀ a b,a<=b->b<=19->fld (z0o wh c0 c1 c2 c3 s c4 le mo su ps ++ R) a b=fld (z0o wh c0 c1 c2 c3 s c4 le mo su ps) a b:=fun a b h1 h2=>by
  unfold fld;rw [z0c _ _ a b h1 (by omega)]
 have hq:∀ a b x,a<=b->b<=19->valN (z0d (z0Z wh c0 c1 c2 c3 s c4 le mo su) a b)=x->fld (z0o wh c0 c1 c2 c3 s c4 le mo su ps ++ R) a b=x:=fun a b x h1 h2 h3=>by
  unfold fld;rw [hF a b h1 h2];exact h3
 refine ⟨hq 2 3 _ (by omega) (by omega) ?_,hq 3 4 _ (by omega) (by omega) ?_,hq 4 5 _ (by omega) (by omega) ?_,hq 5 6 _ (by omega) (by omega) ?_,hq 6 8 _ (by omega) (by omega) ?_,hq 8 10 _ (by omega) (by omega) ?_,hq 10 11 _ (by omega) (by omega) ?_,(hG 11 13 (by omega) (by omega)).trans f1,(hG 13 15 (by omega) (by omega)).trans f2,(hG 15 19 (by omega) (by omega)).trans f3⟩
 all_goals unfold z0Z
 . rw [z0c _ _ 2 3 (by omega) (by simp [z0a]),z0c _ _ 2 3 (by omega) (by simp [z0a]),z0c _ _ 2 3 (by omega) (by simp [z0a]),z0c _ _ 2 3 (by omega) (by simp [z0a]),z0c _ _ 2 3 (by omega) (by simp [z0a]),z0c _ _ 2 3 (by omega) (by simp [z0a]),z0c _ _ 2 3 (by omega) (by simp [z0a]),z0c _ _ 2 3 (by omega) (by simp [z0a]),z0c _ _ 2 3 (by omega) (by simp [z0a]),z0q _ _ 2 3 (by simp)]
   exact (congrArg valN (z0r _ _ (by rw [z0a];rfl))).trans (z0P 1 _ (by omega))
 . rw [z0c _ _ 3 4 (by omega) (by simp [z0a]),z0c _ _ 3 4 (by omega) (by simp [z0a]),z0c _ _ 3 4 (by omega) (by simp [z0a]),z0c _ _ 3 4 (by omega) (by simp [z0a]),z0c _ _ 3 4 (by omega) (by simp [z0a]),z0c _ _ 3 4 (by omega) (by simp [z0a]),z0c _ _ 3 4 (by omega) (by simp [z0a]),z0c _ _ 3 4 (by omega) (by simp [z0a]),z0q _ _ 3 4 (by simp [z0a])]
   simp only [List.length_append,z0a,List.length_cons,List.length_nil];exact (congrArg valN (z0r _ _ (by rw [z0a]))).trans (z0P 1 _ (by omega))
 . rw [z0c _ _ 4 5 (by omega) (by simp [z0a]),z0c _ _ 4 5 (by omega) (by simp [z0a]),z0c _ _ 4 5 (by omega) (by simp [z0a]),z0c _ _ 4 5 (by omega) (by simp [z0a]),z0c _ _ 4 5 (by omega) (by simp [z0a]),z0c _ _ 4 5 (by omega) (by simp [z0a]),z0c _ _ 4 5 (by omega) (by simp [z0a]),z0q _ _ 4 5 (by simp [z0a])]
   simp only [List.length_append,z0a,List.length_cons,List.length_nil];exact (congrArg valN (z0r _ _ (by rw [z0a]))).trans (z0P 1 _ (by omega))
 . rw [z0c _ _ 5 6 (by omega) (by simp [z0a]),z0c _ _ 5 6 (by omega) (by simp [z0a]),z0c _ _ 5 6 (by omega) (by simp [z0a]),z0c _ _ 5 6 (by omega) (by simp [z0a]),z0c _ _ 5 6 (by omega) (by simp [z0a]),z0c _ _ 5 6 (by omega) (by simp [z0a]),z0q _ _ 5 6 (by simp [z0a])]
   simp only [List.length_append,z0a,List.length_cons,List.length_nil];exact (congrArg valN (z0r _ _ (by rw [z0a]))).trans (z0P 1 _ (by omega))
 . rw [z0c _ _ 6 8 (by omega) (by simp [z0a]),z0c _ _ 6 8 (by omega) (by simp [z0a]),z0c _ _ 6 8 (by omega) (by simp [z0a]),z0c _ _ 6 8 (by omega) (by simp [z0a]),z0c _ _ 6 8 (by omega) (by simp [z0a]),z0q _ _ 6 8 (by simp [z0a])]
   simp only [List.length_append,z0a,List.length_cons,List.length_nil];exact (congrArg valN (z0r _ _ (by rw [z0a]))).trans (z0P 2 _ (by omega))
 . rw [z0c _ _ 8 10 (by omega) (by simp [z0a]),z0c _ _ 8 10 (by omega) (by simp [z0a]),z0c _ _ 8 10 (by omega) (by simp [z0a]),z0c _ _ 8 10 (by omega) (by simp [z0a]),z0q _ _ 8 10 (by simp [z0a])]
   simp only [List.length_append,z0a,List.length_cons,List.length_nil];exact (congrArg valN (z0r _ _ (by rw [z0a]))).trans (z0P 2 _ (by omega))
 . rw [z0c _ _ 10 11 (by omega) (by simp [z0a]),z0c _ _ 10 11 (by omega) (by simp [z0a]),z0c _ _ 10 11 (by omega) (by simp [z0a]),z0q _ _ 10 11 (by simp [z0a])]
   simp only [List.length_append,z0a,List.length_cons,List.length_nil];exact (congrArg valN (z0r _ _ (by rw [z0a]))).trans (z0P 1 _ (by omega))
structure Lad where
 lb:Nat
 sp:Nat
 su:Nat
 wr:Nat
 qj:Nat
 ql:Nat
 qr:Nat
 cj:Nat
 cl:Nat
 cr:Nat
 tb:Nat
 tc:Nat
 wb:Nat
 wc:Nat
 wk:Nat->Nat
 lg:Nat
 lc:Nat
 A:Nat->Option Addr
 C:Nat->Nat
 gb:Nat->Nat
 b1:Nat
structure Lsn where
 ch:Nat
 d:Nat
 B:Nat
 c3:Nat
 c4:Nat
 S:Nat
 G:Nat->Nat->Int
def ptrV (b:Nat):Value:=.pointer (some ⟨b,0,none⟩)
def blV (a:Lad) (x:Lsn) (k:Nat):Value:=.agg #[O I k,.slice (some ⟨a.gb k,0,none⟩) x.ch x.ch]
def pkV (x:Lsn) (k:Nat):Value:=.agg #[O I k,.string (bs (frT x.d x.ch x.G x.S x.B k))]
def shlV (x:Lsn):List Nat->List Value
 | []=>[]
 | k :: r=>O I k :: .string (bs (frT x.d x.ch x.G x.S x.B k)) :: shlV x r
def frLn (x:Lsn) (k:Nat):Nat:=(frT x.d x.ch x.G x.S x.B k).length
def smN (x:Lsn) (k:Nat):Nat:=sumN (intT x.ch x.G (2 * (min (k * x.B) x.S * x.ch)))
def hdT (x:Lsn):Nat->List UInt8
 | 0=>[]
 | 1=>z0o 0 x.ch x.d x.B x.c3 x.S x.c4 0 0 0 (List.replicate (nPts x.S x.B x.c4) 0)
 | _=>z0o 1 x.ch x.d x.B x.c3 x.S x.c4 (z0O (frLn x) (nBlk x.S x.B)) (mostN (frLn x) (nBlk x.S x.B)) (sumN (intT x.ch x.G (2 * (x.S * x.ch)))) (pntN (frLn x) x.c4 (nBlk x.S x.B))
def taskV (a:Lad):Nat->Value
 | 0=>.iface 154 (ptrV a.sp)
 | 1=>.iface 155 (ptrV a.su)
 | 2=>.iface 156 (ptrV a.wr)
 | j+3=>.iface 170 (ptrV (a.wk j))
def lnC (p:Lpar) (a:Lad) (x:Lsn) (s:Lst) (sv fv:Value):Array Value :=
 #[O I x.ch,O I x.d,O I x.B,O I x.c3,O I x.c4,O I p.W,O I p.Wd,O I p.Rm,
  O I x.ch,O I x.d,O I x.B,O I x.c3,O I x.c4,O I x.S,
  ptrV a.qj,ptrV a.ql,ptrV a.qr,sv,O I p.fail,O I s.writes,.bool s.failed,.string (bs (hdT x s.hd)),fv,.bool s.stopped,
  ptrV a.sp,ptrV a.su,ptrV a.wr,.slice (some ⟨a.wb,0,none⟩) p.W a.wc,.slice (some ⟨a.tb,0,none⟩) (3+p.W) a.tc]
def heV (hv:Nat->Nat) (s:Lst) (j:Nat):Value:=match s.held j with
 | none=>.pointer none
 | some _=>ptrV (hv j)
def kn (w:World) (k:Nat):Nat:=match w.heap[k]? with
 | some (.cells _ t _)=>t+1
 | _=>0
theorem kn_of {w w':World} {k:Nat} (h:w'.heap[k]?=w.heap[k]?):kn w' k=kn w k:=by unfold kn;rw [h]
theorem Bx.kn {w:World} {b:Nat} {t:TypeId} {cs:Array Value} (h:Bx w b t cs):kn w b=t+1:=by unfold Go.Proofs.YtlncjgnomhpjnabGreatDoor.kn;rw [show w.heap[b]?=_ from h]
structure LineIs (p:Lpar) (a:Lad) (x:Lsn) (F:Nat->Prop) (s:Lst) (w:World):Prop where
 kp:KP x.d x.ch x.B x.c3 x.c4 x.S x.G
 NB:p.N=nBlk x.S x.B
 W8:p.W<=8
 d16:p.Wd<=16
 R8:p.Rm<=8
 cells:∃ sv fv lv,Bx w a.lb 160 (lnC p a x s sv fv) /\
  Bx w a.wr 169 #[ptrV a.lb,.bool s.e2,.bool s.begun,lv] /\
  w.ownsRow a.b1 149 2 sv s.shelf.length (shlV x s.shelf)/\(∀ g,sv.ownBlock=some g->F g) /\
  w.ownsRow a.b1 5 1 fv (frsT x.d x.ch x.G x.S x.B s.wrote).length ((frsT x.d x.ch x.G x.S x.B s.wrote).map fun b=>.int .u8 (b.toNat:Int))/\(∀ g,fv.ownBlock=some g->F g) /\
  w.ownsRow a.b1 3 1 lv s.wrote ((List.range s.wrote).map fun k=>O I (frLn x k))/\(∀ g,lv.ownBlock=some g->F g)
 spl:Bx w a.sp 165 #[ptrV a.lb,.bool s.e0,.slice (some ⟨a.lg,0,none⟩) x.ch a.lc,O I s.given]
 sum:Bx w a.su 167 #[ptrV a.lb,.bool s.e1,O I s.summed,O I (smN x s.summed)]
 wrk:∃ hv:Nat->Nat,(∀ j,j < p.W->Bx w (a.wk j) 173 #[ptrV a.lb,.bool (s.ew j),heV hv s j]) /\
  ∀ j k,j < p.W->s.held j=some k->F (hv j)/\Bx w (hv j) 145 #[O I k,.slice (some ⟨a.gb k,0,none⟩) x.ch x.ch]
 jobs:QIs w a.qj a.cj 247 p.Rm (s.jobs.map (blV a x)).toArray s.e0
 lane:QIs w a.ql a.cl 247 p.Rm (s.lane.map (blV a x)).toArray s.e0
 ready:QIs w a.qr a.cr 250 p.Rm (s.ready.map (pkV x)).toArray (s.shut p)
 tasks:w.ownsRow 0 178 1 (.slice (some ⟨a.tb,0,none⟩) (3+p.W) a.tc) (3+p.W) ((List.range (3+p.W)).map (taskV a))
 works:w.ownsRow 0 170 1 (.slice (some ⟨a.wb,0,none⟩) p.W a.wc) p.W ((List.range p.W).map fun j=>ptrV (a.wk j))
 blocks:∀ k,k < s.given->F (a.gb k)/\w.rowIs (a.gb k) 30 x.ch (blkV a.A a.C (k * x.B) (blkN x.S x.B k) x.ch)
 lists:ListsAt w (some ⟨a.lg,0,none⟩) x.ch a.A (fun _=>x.S) a.C
 ints:∀ i,i < x.ch->IntsAt w (a.A i) x.S (x.G i)
 caps:∀ i,i < x.ch->x.S<=a.C i
 low:Low a.b1 (some ⟨a.lg,0,none⟩) x.ch a.A (fun _=>x.S)
 lowF:F a.lg/\∀ i,i < x.ch->∀ y,a.A i=some y->0 < x.S->F y.block
 own:F a.lb/\F a.sp/\F a.su/\F a.wr/\F a.qj/\F a.ql/\F a.qr/\F a.cj/\F a.cl/\F a.cr/\F a.tb/\F a.wb/\∀ j,j < p.W->F (a.wk j)
 lt:∀ k,F k->k < w.heap.size
 ne:a.qj ≠ a.ql/\a.cj ≠ a.cl/\a.cj ≠ a.cr/\a.cl ≠ a.cr/\∀ i j,i < p.W->j < p.W->a.wk i=a.wk j->i=j
 b1:a.b1<=w.heap.size
 kl:kn w a.lg=30+1
 ka:∀ i,i < x.ch->∀ y,a.A i=some y->0 < x.S->kn w y.block=3+1
def actV (a:Lad):Option LAct->Value
 | none=>.nilFunc
 | some (0,_)=>.func (.func 374) #[ptrV a.sp] #[]
 | some (1,_)=>.func (.func 380) #[ptrV a.sp] #[]
 | some (2,_)=>.func (.func 383) #[ptrV a.su] #[]
 | some (3,_)=>.func (.func 386) #[ptrV a.wr] #[]
 | some (4,_)=>.func (.func 388) #[ptrV a.wr] #[]
 | some (5,_)=>.func (.func 390) #[ptrV a.wr] #[]
 | some (6,j)=>.func (.func 411) #[ptrV (a.wk j)] #[]
 | some (7,j)=>.func (.func 412) #[ptrV (a.wk j)] #[]
 | some (_+8,j)=>.func (.func 414) #[ptrV (a.wk j)] #[]
theorem y0B {w:World} {base:Nat} {e:TypeId} {size:Nat} {v:Value} {n:Nat} {xs:List Value} (h:w.ownsRow base e size v n xs):∃ b c,v=.slice b n c:=by
 rcases h.2 with ⟨rfl,rfl⟩ | ⟨g,cap,cur,rfl,-⟩
 . exact ⟨_,_,rfl⟩
 . exact ⟨_,_,rfl⟩
theorem z1u {w w':World} {base:Nat} {e:TypeId} {size:Nat} {v:Value} {n:Nat} {xs:List Value} (h:w.ownsRow base e size v n xs) (hb:∀ g,v.ownBlock=some g->w'.heap[g]?=w.heap[g]?):w'.ownsRow base e size v n xs:=by
 refine ⟨h.1,?_⟩;rcases h.2 with ⟨rfl,rfl⟩ | ⟨g,cap,cur,rfl,h1,h2,h3⟩
 . exact Or.inl ⟨rfl,rfl⟩
 . exact Or.inr ⟨g,cap,cur,rfl,h1,(hb g rfl).trans h2,h3⟩
theorem z2h {w w':World} {g:Nat} {e:TypeId} {n:Nat} {f:Nat->Value} (h:w.rowIs g e n f) (hb:w'.heap[g]?=w.heap[g]?):w'.rowIs g e n f:=by
 obtain ⟨c,h1,h2⟩:=h;exact ⟨c,hb.trans h1,h2⟩
theorem z4H {w w':World} {y:Addr} (hb:w'.heap[y.block]?=w.heap[y.block]?):w'.cell? y=w.cell? y:=by simp [World.cell?,hb]
theorem QIs.at {w w':World} {q c:Nat} {t:TypeId} {cap:Nat} {buf:Array Value} {cl:Bool} (h:QIs w q c t cap buf cl) (hq:w'.heap[q]?=w.heap[q]?) (hc:w'.heap[c]?=w.heap[c]?):QIs w' q c t cap buf cl:=by
 obtain ⟨s,r,hch⟩:=h.chan;exact ⟨h.cells.of hq,s,r,hc.trans hch⟩
theorem LineIs.keep {p:Lpar} {a:Lad} {x:Lsn} {F:Nat->Prop} {s:Lst} {w w':World} (h:LineIs p a x F s w) (hF:∀ k,F k->w'.heap[k]?=w.heap[k]?) (hs:w.heap.size<=w'.heap.size):LineIs p a x F s w':=by
 obtain ⟨o1,o2,o3,o4,o5,o6,o7,o8,o9,o10,o11,o12,o13⟩:=h.own;obtain ⟨sv,fv,lv,c1,c2,c3,c4,c5,c6,c7,c8⟩:=h.cells;obtain ⟨hv,k1,k2⟩:=h.wrk;refine ⟨h.kp,h.NB,h.W8,h.d16,h.R8,⟨sv,fv,lv,c1.of (hF _ o1),c2.of (hF _ o4),z1u c3 fun g hg=>hF _ (c4 g hg),c4,z1u c5 fun g hg=>hF _ (c6 g hg),c6,z1u c7 fun g hg=>hF _ (c8 g hg),c8⟩,h.spl.of (hF _ o2),h.sum.of (hF _ o3),
  ⟨hv,fun j hj=>(k1 j hj).of (hF _ (o13 j hj)),fun j k hj hk=>⟨(k2 j k hj hk).1,(k2 j k hj hk).2.of (hF _ (k2 j k hj hk).1)⟩⟩,h.jobs.at (hF _ o5) (hF _ o8),h.lane.at (hF _ o6) (hF _ o9),h.ready.at (hF _ o7) (hF _ o10),
  z1u h.tasks fun g hg=>hF _ (by cases hg;exact o11),z1u h.works fun g hg=>hF _ (by cases hg;exact o12),fun k hk=>⟨(h.blocks k hk).1,z2h (h.blocks k hk).2 (hF _ (h.blocks k hk).1)⟩,
  fun i hi=>?_,fun i hi j hj=>?_,h.caps,h.low,h.lowF,h.own,fun k hk=>Nat.lt_of_lt_of_le (h.lt k hk) hs,h.ne,Nat.le_trans h.b1 hs,(kn_of (hF _ h.lowF.1)).trans h.kl,fun i hi y hy h0=>(kn_of (hF _ (h.lowF.2 i hi y hy h0))).trans (h.ka i hi y hy h0)⟩
 . obtain ⟨y,hy,hc⟩:=h.lists i hi
   cases hy;exact ⟨_,rfl,(z4H (hF _ (by cases i <;> exact h.lowF.1))).trans hc⟩
 . obtain ⟨y,hy,hc⟩:=h.ints i hi j hj
   exact ⟨y,hy,(z4H (hF _ (by cases j <;> exact h.lowF.2 i hi y hy (by omega)))).trans hc⟩
section
variable {p:Lpar} {a:Lad} {x:Lsn} {F:Nat->Prop} {s:Lst} {w:World}
theorem LineIs.drew (h:LineIs p a x F s w):LineIs p a x F s w.drew:=h.keep (fun _ _=>rfl) zY
theorem LineIs.heap {p:Lpar} {a:Lad} {x:Lsn} {F:Nat->Prop} {s:Lst} {w u:World} (h:LineIs p a x F s w) (e:u.heap=w.heap):LineIs p a x F s u:=h.keep (fun _ _=>by rw [e]) (by rw [e];exact Nat.le_refl _)
theorem z3I (h:LineIs p a x F s w) :
 Calls prog 107 #[ptrV a.wr] w fun e w'=>e=.returned (O I s.wrote)/\w'=w:=by
 obtain ⟨sv,fv,lv,hl,hw,-,-,-,-,ho,-⟩:=h.cells;obtain ⟨b,c,rfl⟩:=y0B ho;have x3:=hw.cell 3;simp at x3;clear h hl hw ho;unfold ptrV
 go_enter Tryz.func107,Tryz.ntmps107
 go_wp2;go_ret;exact ⟨rfl,rfl⟩
theorem z9y (h:LineIs p a x F s w) :
 Calls prog 377 #[ptrV a.lb] w fun e w'=>e=.returned (O I p.N)/\∃ m,w'=w.drewN m:=by
 obtain ⟨sv,fv,lv,hl,hw,-⟩:=h.cells;have hS0:w.drew.cell? ⟨a.lb,10,none⟩=some (O I x.B)/\w.drew.cell? ⟨a.lb,13,none⟩=some (O I x.S):=⟨hl.cell 10,hl.cell 13⟩;have HB:=zZ (fun u=>z2q x.S x.B u h.kp.B1 (by have:=h.kp.B32;omega) (by have:=h.kp.S3;omega));rw [h.NB];clear h hl hw;generalize x.B=B at *;generalize x.S=S at *;unfold ptrV
 go_enter Tryz.func377,Tryz.ntmps377
 go_wp2_with fail
 go_region_held3 (fun w'=>w'.cell? ⟨a.lb,10,none⟩=some (O I B)/\w'.cell? ⟨a.lb,13,none⟩=some (O I S)) (with_reducible assumption)
  (first | (go_at_call 62;refine (HB.out _).mono ?_;rintro e u2 ⟨rfl,hw⟩;subst u2;clear HB))
 go_wp2;go_ret;exact ⟨rfl,1,rfl⟩
theorem z9z (h:LineIs p a x F s w) (hi:LInv p s) :
 Calls prog 379 #[ptrV a.lb] w fun e w'=>e=.returned (O I ((s.given - s.wrote:Nat):Int))/\∃ m,w'=w.drewN m:=by
 obtain ⟨sv,fv,lv,hl,hw,-⟩:=h.cells;have HW:=zZ (z3I h.drew);have hS0:w.drew.cell? ⟨a.lb,24,none⟩=some (ptrV a.sp)/\w.drew.cell? ⟨a.lb,26,none⟩=some (ptrV a.wr)/\w.drew.cell? ⟨a.sp,3,none⟩=some (O I s.given):=⟨hl.cell 24,hl.cell 26,h.spl.cell 3⟩;have h1:=hi.wrote;have h2:=hi.given;have h3:p.N<=300:=by rw [h.NB];exact h.kp.nb
 have e1:IntKind.i64.wrap ((s.given:Int) - (s.wrote:Int))=((s.given - s.wrote:Nat):Int):=by rw [IntKind.wrap_i64];omega
 clear h hl hw hi;generalize s.given=gv at *;generalize s.wrote=wv at *;unfold ptrV at *
 go_enter Tryz.func379,Tryz.ntmps379
 go_wp2_with fail
 go_region_held3 (fun w'=>w'.cell? ⟨a.lb,24,none⟩=some (.pointer (some ⟨a.sp,0,none⟩))/\w'.cell? ⟨a.lb,26,none⟩=some (.pointer (some ⟨a.wr,0,none⟩))/\w'.cell? ⟨a.sp,3,none⟩=some (O I gv)) (with_reducible assumption)
  (first | (go_at_call 107;refine HW.out.mono ?_;rintro e u2 ⟨rfl,hw⟩;subst u2;clear HW))
 go_wp2;go_ret;exact ⟨rfl,1,rfl⟩
theorem z1v {P:Program} {f:FuncId} {args:Array Value} {w:World} {k n:Nat} {v:Value}
 (h:Calls P f args (w.drewN (k+n)) fun e w'=>e=.returned v/\∃ m,w'=(w.drewN (k+n)).drewN m):Calls P f args (w.drewN (k+n)) fun e w''=>e=.returned v/\∃ m,w''=w.drewN (k+m) :=
 h.mono fun _ _ ⟨he,m,hm⟩=>⟨he,n+m,by rw [hm,World.drewN_drewN,Nat.add_assoc]⟩
theorem jFull (h:LineIs p a x F s w) :
 Calls prog 378 #[.pointer (some ⟨a.qj,0,none⟩)] w fun e w'=>e=.returned (.bool (decide (s.jobs.length=p.Rm)))/\∃ m,w'=w.drewN m:=by
 have:=z6Y _ _ _ _ _ _ h.jobs
 simpa using this
theorem lFull (h:LineIs p a x F s w) :
 Calls prog 378 #[.pointer (some ⟨a.ql,0,none⟩)] w fun e w'=>e=.returned (.bool (decide (s.lane.length=p.Rm)))/\∃ m,w'=w.drewN m:=by
 have:=z6Y _ _ _ _ _ _ h.lane
 simpa using this
theorem rFull (h:LineIs p a x F s w) :
 Calls prog 413 #[.pointer (some ⟨a.qr,0,none⟩)] w fun e w'=>e=.returned (.bool (decide (s.ready.length=p.Rm)))/\∃ m,w'=w.drewN m:=by
 have:=y0w _ _ _ _ _ _ h.ready
 simpa using this
theorem jAns (h:LineIs p a x F s w) :
 Calls prog 384 #[.pointer (some ⟨a.qj,0,none⟩)] w fun e w'=>e=.returned (.bool (decide (0 < s.jobs.length) || s.e0))/\w'=w:=by
 have:=z4c _ _ _ _ _ _ h.jobs
 simpa using this
theorem lAns (h:LineIs p a x F s w) :
 Calls prog 384 #[.pointer (some ⟨a.ql,0,none⟩)] w fun e w'=>e=.returned (.bool (decide (0 < s.lane.length) || s.e0))/\w'=w:=by
 have:=z4c _ _ _ _ _ _ h.lane
 simpa using this
theorem rAns (h:LineIs p a x F s w) :
 Calls prog 389 #[.pointer (some ⟨a.qr,0,none⟩)] w fun e w'=>e=.returned (.bool (decide (0 < s.ready.length) || s.shut p))/\w'=w:=by
 have:=z6z _ _ _ _ _ _ h.ready
 simpa using this
theorem y8x (h:LineIs p a x F s w) :
 Calls prog 108 #[.pointer (some ⟨a.qj,0,none⟩)] w fun e w'=>e=.returned (O I s.jobs.length)/\w'=w:=by
 have:=z6d _ _ _ _ _ _ h.jobs
 simpa using this
theorem y8y (h:LineIs p a x F s w) :
 Calls prog 108 #[.pointer (some ⟨a.ql,0,none⟩)] w fun e w'=>e=.returned (O I s.lane.length)/\w'=w:=by
 have:=z6d _ _ _ _ _ _ h.lane
 simpa using this
theorem y7k (h:LineIs p a x F s w) :
 Calls prog 109 #[.pointer (some ⟨a.qr,0,none⟩)] w fun e w'=>e=.returned (O I s.ready.length)/\w'=w:=by
 have:=z9h _ _ _ _ _ _ h.ready
 simpa using this
set_option maxHeartbeats 1000000 in
theorem z7f (h:LineIs p a x F s w) (hi:LInv p s) :
 Calls prog 376 #[ptrV a.sp] w fun e w'=>e=.returned (actV a (s.next p 0))/\∃ m,w'=w.drewN m:=by
 obtain ⟨sv,fv,lv,hl,hw,-⟩:=h.cells;have y0:=h.spl.cell 0;have y1:=h.spl.cell 1;have y3:=h.spl.cell 3;have x23:=hl.cell 23;have x14:=hl.cell 14;have x15:=hl.cell 15;have x6:=hl.cell 6;simp [lnC,ptrV] at y0 y1 y3 x23 x14 x15 x6;unfold Lst.next;have HBL:=zZ (fun (u:World) (e:u.heap=w.heap)=>z9y (h.heap e));have HFJ:=zZ (fun (u:World) (e:u.heap=w.heap)=>jFull (h.heap e));have HFL:=zZ (fun (u:World) (e:u.heap=w.heap)=>lFull (h.heap e));have HUW:=zZ (fun (u:World) (e:u.heap=w.heap)=>z9z (h.heap e) hi);clear h hi hl hw;unfold ptrV at *;cases he0:s.e0 with
 | true =>
  rw [he0] at y1;unfold actV
  go_enter Tryz.func376,Tryz.ntmps376
  go_wp2;go_ret;exact ⟨rfl,0,rfl⟩
 | false =>
  rw [he0] at y1;cases hst:s.stopped with
  | true =>
   rw [hst] at x23;unfold actV ptrV
   go_enter Tryz.func376,Tryz.ntmps376
   go_wp2_with fail
   go_quiet (fail)
   go_wp2;go_ret;exact ⟨rfl,nq,rfl⟩
  | false =>
   rw [hst] at x23
   by_cases hN:s.given=p.N
   . have d1:decide (s.given=p.N)=true:=decide_eq_true hN
     rw [hN] at y3;rw [d1];clear hN d1;unfold actV ptrV
     go_enter Tryz.func376,Tryz.ntmps376
     go_wp2_with fail
     go_quiet (first | (go_at_call 377;exact Calls.quiet_of (HBL.out _ rfl)))
     go_wp2;go_ret;exact ⟨rfl,nq,rfl⟩
   . have d1:decide (s.given=p.N)=false:=decide_eq_false hN
     have d2:((s.given:Int) == (p.N:Int))=false:=by simp;omega
     have d3:¬ (s.given:Int)=(p.N:Int):=by omega
     rw [d1];clear d1;cases f1:decide (s.jobs.length=p.Rm) with
     | true =>
      rw [f1] at HFJ;unfold actV ptrV
      go_enter Tryz.func376,Tryz.ntmps376
      go_wp2_with fail
      go_quiet (first | (go_at_call 377;exact Calls.quiet_of (HBL.out _ rfl)))
      go_wp2_with fail
      go_quiet (first | (go_at_call 378;exact z1v (HFJ.out _ rfl)))
      go_wp2;go_ret;exact ⟨rfl,_,rfl⟩
     | false =>
      rw [f1] at HFJ;cases f2:decide (s.lane.length=p.Rm) with
      | true =>
       rw [f2] at HFL;unfold actV ptrV
       go_enter Tryz.func376,Tryz.ntmps376
       go_wp2_with fail
       go_quiet (first | (go_at_call 377;exact Calls.quiet_of (HBL.out _ rfl)))
       go_wp2_with fail
       go_quiet (first | (go_at_call_of 378 a.qj;exact z1v (HFJ.out _ rfl)) | (go_at_call_of 378 a.ql;exact z1v (HFL.out _ rfl)))
       go_wp2;go_ret;exact ⟨rfl,_,rfl⟩
      | false =>
       rw [f2] at HFL;cases f3:decide (s.given - s.wrote < p.Wd) with
       | true =>
        have d4:decide (((s.given - s.wrote:Nat):Int) < (p.Wd:Int))=true:=decide_eq_true (by have:=of_decide_eq_true f3;omega);generalize s.given - s.wrote=un at *;unfold actV ptrV
        go_enter Tryz.func376,Tryz.ntmps376
        go_wp2_with fail
        go_quiet (first | (go_at_call 377;exact Calls.quiet_of (HBL.out _ rfl)))
        go_wp2_with fail
        go_quiet (first | (go_at_call_of 378 a.qj;exact z1v (HFJ.out _ rfl)) | (go_at_call_of 378 a.ql;exact z1v (HFL.out _ rfl)) | (go_at_call 379;exact z1v (HUW.out _ rfl)))
        go_wp2;go_ret;exact ⟨rfl,_,rfl⟩
       | false =>
        have d4:decide (((s.given - s.wrote:Nat):Int) < (p.Wd:Int))=false:=decide_eq_false (by have:=of_decide_eq_false f3;omega);generalize s.given - s.wrote=un at *;unfold actV ptrV
        go_enter Tryz.func376,Tryz.ntmps376
        go_wp2_with fail
        go_quiet (first | (go_at_call 377;exact Calls.quiet_of (HBL.out _ rfl)))
        go_wp2_with fail
        go_quiet (first | (go_at_call_of 378 a.qj;exact z1v (HFJ.out _ rfl)) | (go_at_call_of 378 a.ql;exact z1v (HFL.out _ rfl)) | (go_at_call 379;exact z1v (HUW.out _ rfl)))
        go_wp2;go_ret;exact ⟨rfl,_,rfl⟩
end
end Go.Proofs.YtlncjgnomhpjnabGreatDoor
