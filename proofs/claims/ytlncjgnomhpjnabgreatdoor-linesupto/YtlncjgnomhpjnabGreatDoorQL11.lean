import Derived.Test.YtlncjgnomhpjnabGreatDoorQL10
import Derived.Deep.RegionHeld3
import Derived.Deep.DeepCutAuto
namespace Go.Proofs.YtlncjgnomhpjnabGreatDoor
open Go.Value renaming int → O
open Go.IntKind renaming i64 → I
open Go.Proofs.Tryz
open Go.RowKit Go.Deep
set_option linter.unusedVariables false
theorem z2J {W w1:World} (hb:Below W.heap.size W w1):(∀ b o,b < W.heap.size->w1.cell? ⟨b,o,none⟩=W.cell? ⟨b,o,none⟩)/\(∀ b o,b < W.heap.size->w1.frozen? ⟨b,o,none⟩=W.frozen? ⟨b,o,none⟩) :=
 ⟨fun b o h=>hb.cell (p:=⟨b,o,none⟩) h,fun b o h=>hb.frozen (p:=⟨b,o,none⟩) h⟩
def z2r (c0 c1 c2 c3 c4 c5 c6 c7:Int):Bool :=
 z0x c0 1 4 && (z0x c1 4 12 && (z0x c2 1 32 && (z0x c3 0 65535 && (z0x c4 0 255 && (z0x c5 1 8 && (z0x c6 1 16 && z0x c7 1 8))))))
def z6C (c0 c1 c2 c3 c4 s:Int):Bool :=
 z0x c0 1 4 && (z0x c1 4 12 && (z0x c2 1 32 && (z0x c3 0 65535 && (z0x c4 0 255 && z0x s 0 300))))
set_option maxHeartbeats 1000000 in
theorem z2K (c0 c1 c2 c3 c4 c5 c6 c7 s:Int) (w:World) :
 Calls prog 61 #[.agg #[O I c0,O I c1,O I c2,O I c3,O I c4,O I c5,O I c6,O I c7],O I s] w fun e w' =>
  e=.returned (.agg #[O I c0,O I c1,O I c2,O I c3,O I c4,O I s])/\Below w.heap.size w w':=by
 go_enter func61,ntmps61
 go_wp2;exact bodyPost_ret (v:=.agg #[O I c0,O I c1,O I c2,O I c3,O I c4,O I s]) (by simp [results,results61,go_sem]) rfl ⟨rfl,(zX.alloc zY _).alloc (by simp) _⟩
set_option maxHeartbeats 1000000 in
theorem z7I (c0 c1 c2 c3 c4 s:Int) (w:World) :
 Calls prog 121 #[.agg #[O I c0,O I c1,O I c2,O I c3,O I c4,O I s]] w fun e w' =>
  e=.returned (.bool (z6C c0 c1 c2 c3 c4 s))/\Below w.heap.size w w':=by
 have fin:∀ o,Below w.heap.size w (w.alloc o):=fun o=>zX.alloc zY _
 cases h0:z0x c0 1 4
 . go_enter func121,ntmps121
   go_wp2_with (go_at_call 70;refine (z0T _ _ _ _).mono ?_;rintro e w' ⟨rfl,rfl⟩)
   go_ret;exact ⟨z0G (by simp [z6C,h0]),fin _⟩
 cases h1:z0x c1 4 12
 . go_enter func121,ntmps121
   go_wp2_with (go_at_call 70;refine (z0T _ _ _ _).mono ?_;rintro e w' ⟨rfl,rfl⟩)
   go_ret;exact ⟨z0G (by simp [z6C,h0,h1]),fin _⟩
 cases h2:z0x c2 1 32
 . go_enter func121,ntmps121
   go_wp2_with (go_at_call 70;refine (z0T _ _ _ _).mono ?_;rintro e w' ⟨rfl,rfl⟩)
   go_ret;exact ⟨z0G (by simp [z6C,h0,h1,h2]),fin _⟩
 cases h3:z0x c3 0 65535
 . go_enter func121,ntmps121
   go_wp2_with (go_at_call 70;refine (z0T _ _ _ _).mono ?_;rintro e w' ⟨rfl,rfl⟩)
   go_ret;exact ⟨z0G (by simp [z6C,h0,h1,h2,h3]),fin _⟩
 cases h4:z0x c4 0 255
 . go_enter func121,ntmps121
   go_wp2_with (go_at_call 70;refine (z0T _ _ _ _).mono ?_;rintro e w' ⟨rfl,rfl⟩)
   go_ret;exact ⟨z0G (by simp [z6C,h0,h1,h2,h3,h4]),fin _⟩
 go_enter func121,ntmps121
 go_wp2_with (go_at_call 70;refine (z0T _ _ _ _).mono ?_;rintro e w' ⟨rfl,rfl⟩)
 go_ret;exact ⟨z0G (by simp [z6C,h0,h1,h2,h3,h4]),fin _⟩
theorem z9W (c0 c1 c2 c3 c4 c5 c6 c7:Int):z2r c0 c1 c2 c3 c4 c5 c6 c7=(z6C c0 c1 c2 c3 c4 0 && (z0x c5 1 8 && (z0x c6 1 16 && z0x c7 1 8))):=by
 simp only [z2r,z6C,Bool.and_assoc];have:z0x 0 0 300=true:=zR
 rw [this];simp
set_option maxHeartbeats 1000000 in
theorem z5R (c0 c1 c2 c3 c4 c5 c6 c7:Int) (w:World) :
 Calls prog 59 #[.agg #[O I c0,O I c1,O I c2,O I c3,O I c4,O I c5,O I c6,O I c7]] w fun e w' =>
  e=.returned (.bool (z2r c0 c1 c2 c3 c4 c5 c6 c7))/\Below w.heap.size w w':=by
 rw [z9W];have hb:Below w.heap.size w (w.alloc (.cells #[O I c0,O I c1,O I c2,O I c3,O I c4,O I c5,O I c6,O I c7] 23)):=zX.alloc zY _;have HB:=zZ hb;clear hb;have HR:=zZ (fun u=>z7I c0 c1 c2 c3 c4 0 u);cases h0:z6C c0 c1 c2 c3 c4 0
 . rw [h0] at HR
   go_enter func59,ntmps59
   go_wp2_with (first
    | (go_at_call 61;refine (z2K _ _ _ _ _ _ _ _ _ _).mono ?_;rintro e w1 ⟨rfl,hb1⟩;obtain ⟨hcl1,hfr1⟩:=z2J hb1;have HB1:=zZ (HB.out.trans (hb1.mono (by simp)));have hs1:w.heap.size < w1.heap.size:=by {have:=hb1.size;simp at this;omega};clear hb1 HB hfr1)
    | (go_at_call 121;refine (HR.out _).mono ?_;rintro e w2 ⟨rfl,hb2⟩;obtain ⟨hcl2,hfr2⟩:=z2J hb2;have HB2:=zZ (HB1.out.trans (hb2.mono HB1.out.size));have hs2:w.heap.size < w2.heap.size:=zP hs1 hb2.size;clear hb2 hfr2)
    | (go_at_call 70;refine (z0T _ _ _ _).mono ?_;rintro e w' ⟨rfl,rfl⟩))
   go_ret;exact ⟨z0G (by simp),HB2.out⟩
 rw [h0] at HR;cases h1:z0x c5 1 8
 . go_enter func59,ntmps59
   go_wp2_with (first
    | (go_at_call 61;refine (z2K _ _ _ _ _ _ _ _ _ _).mono ?_;rintro e w1 ⟨rfl,hb1⟩;obtain ⟨hcl1,hfr1⟩:=z2J hb1;have HB1:=zZ (HB.out.trans (hb1.mono (by simp)));have hs1:w.heap.size < w1.heap.size:=by {have:=hb1.size;simp at this;omega};clear hb1 HB hfr1)
    | (go_at_call 121;refine (HR.out _).mono ?_;rintro e w2 ⟨rfl,hb2⟩;obtain ⟨hcl2,hfr2⟩:=z2J hb2;have HB2:=zZ (HB1.out.trans (hb2.mono HB1.out.size));have hs2:w.heap.size < w2.heap.size:=zP hs1 hb2.size;clear hb2 hfr2)
    | (go_at_call 70;refine (z0T _ _ _ _).mono ?_;rintro e w' ⟨rfl,rfl⟩))
   go_ret;exact ⟨z0G (by simp),HB2.out⟩
 cases h2:z0x c6 1 16
 . go_enter func59,ntmps59
   go_wp2_with (first
    | (go_at_call 61;refine (z2K _ _ _ _ _ _ _ _ _ _).mono ?_;rintro e w1 ⟨rfl,hb1⟩;obtain ⟨hcl1,hfr1⟩:=z2J hb1;have HB1:=zZ (HB.out.trans (hb1.mono (by simp)));have hs1:w.heap.size < w1.heap.size:=by {have:=hb1.size;simp at this;omega};clear hb1 HB hfr1)
    | (go_at_call 121;refine (HR.out _).mono ?_;rintro e w2 ⟨rfl,hb2⟩;obtain ⟨hcl2,hfr2⟩:=z2J hb2;have HB2:=zZ (HB1.out.trans (hb2.mono HB1.out.size));have hs2:w.heap.size < w2.heap.size:=zP hs1 hb2.size;clear hb2 hfr2)
    | (go_at_call 70;refine (z0T _ _ _ _).mono ?_;rintro e w' ⟨rfl,rfl⟩))
   go_ret;exact ⟨z0G (by simp),HB2.out⟩
 go_enter func59,ntmps59
 go_wp2_with (first
  | (go_at_call 61;refine (z2K _ _ _ _ _ _ _ _ _ _).mono ?_;rintro e w1 ⟨rfl,hb1⟩;obtain ⟨hcl1,hfr1⟩:=z2J hb1;have HB1:=zZ (HB.out.trans (hb1.mono (by simp)));have hs1:w.heap.size < w1.heap.size:=by {have:=hb1.size;simp at this;omega};clear hb1 HB hfr1)
  | (go_at_call 121;refine (HR.out _).mono ?_;rintro e w2 ⟨rfl,hb2⟩;obtain ⟨hcl2,hfr2⟩:=z2J hb2;have HB2:=zZ (HB1.out.trans (hb2.mono HB1.out.size));have hs2:w.heap.size < w2.heap.size:=zP hs1 hb2.size;clear hb2 hfr2)
  | (go_at_call 70;refine (z0T _ _ _ _).mono ?_;rintro e w' ⟨rfl,rfl⟩))
 go_ret;exact ⟨z0G (by simp),HB2.out⟩
def ListsAt (w:World) (a:Option Addr) (n:Nat) (A:Nat->Option Addr) (L C:Nat->Nat):Prop:=∀ i,i < n->∃ x,a=some x/\w.cell? (x.add i)=some (.slice (A i) (L i) (C i))
theorem ListsAt.open {w:World} {a:Option Addr} {n:Nat} {A:Nat->Option Addr} {L C:Nat->Nat} (h:ListsAt w a n A L C) (hn:0 < n) :
 ∃ b off,a=some ⟨b,off,none⟩/\∀ i,i < n->w.cell? ⟨b,off+i,none⟩=some (.slice (A i) (L i) (C i)):=by
 obtain ⟨⟨b,off,sp⟩,rfl,hc⟩:=h 0 hn;have hs:sp=none:=by simpa [Addr.add] using World.cell?_spot hc
 subst hs;refine ⟨b,off,rfl,fun i hi=>?_⟩;obtain ⟨x,hx,hc⟩:=h i hi;cases hx;rw [← hc];cases i <;> simp [Addr.add]
def Low (B:Nat) (a:Option Addr) (n:Nat) (A:Nat->Option Addr) (L:Nat->Nat):Prop:=(∀ x,a=some x->0 < n->x.block < B)/\∀ i,i < n->∀ x,A i=some x->0 < L i->x.block < B
theorem IntsAt.below {w w':World} {B:Nat} {a:Option Addr} {n:Nat} {f:Nat->Int} (h:IntsAt w a n f) (hb:Below B w w') (hl:∀ x,a=some x->0 < n->x.block < B):IntsAt w' a n f:=fun i hi=>by
 obtain ⟨x,hx,hc⟩:=h i hi;refine ⟨x,hx,?_⟩;rw [hb.cell (by have:=hl x hx zU;cases i <;> simpa [Addr.add] using this),hc]
theorem ListsAt.below {w w':World} {B:Nat} {a:Option Addr} {n:Nat} {A:Nat->Option Addr} {L C:Nat->Nat} (h:ListsAt w a n A L C) (hb:Below B w w') (hl:∀ x,a=some x->0 < n->x.block < B):ListsAt w' a n A L C:=fun i hi=>by
 obtain ⟨x,hx,hc⟩:=h i hi;refine ⟨x,hx,?_⟩;rw [hb.cell (by have:=hl x hx zU;cases i <;> simpa [Addr.add] using this),hc]
theorem z3Q (d:Nat) (a:Option Addr) (n c:Nat) (f:Nat->Int) (w:World) (h1:1<=d) (h2:d<=13) (hn:n<=17592186044416) (hI:IntsAt w a n f) :
 Calls prog 192 #[O I d,.slice a n c] w fun e w'=>Says e (∀ i,i < n->z0A d (f i)=true)/\w'=w :=
 (y5R d a n c f w h1 h2 hn hI).mono fun e w' h=>⟨⟨_,h.1,z4J d f n⟩,h.2⟩
def z9X (c0:Int) (d n:Nat) (lo hi:Int) (L:Nat->Nat) (F:Nat->Nat->Int):Prop :=
 (n:Int)=c0/\z0x (L 0:Int) lo hi=true/\∀ i,i < n->L i=L 0/\∀ j,j < L i->z0A d (F i j)=true
set_option maxHeartbeats 1000000 in
theorem z5S (lo hi:Int) (c0 c2 c3 c4 c5 c6 c7:Int) (d:Nat) (a:Option Addr) (n cap:Nat) (A:Nat->Option Addr) (L C:Nat->Nat) (F:Nat->Nat->Int) (w:World) (hc0:1<=c0) (h1:1<=d) (h2:d<=13) (hn:n<=17592186044416) (hL:∀ i,i < n->L i<=17592186044416)
 (hA:ListsAt w a n A L C) (hI:∀ i,i < n->IntsAt w (A i) (L i) (F i)) (hlow:Low w.heap.size a n A L) :
 Calls prog 122 #[.agg #[O I c0,O I d,O I c2,O I c3,O I c4,O I c5,O I c6,O I c7],.slice a n cap,O I lo,O I hi] w fun e w' =>
  Says e (z9X c0 d n lo hi L F)/\Below w.heap.size w w':=by
 obtain ⟨o,ho⟩:∃ o,o=Obj.cells #[O I c0,O I d,O I c2,O I c3,O I c4,O I c5,O I c6,O I c7] 23:=⟨_,rfl⟩;have hb:Below w.heap.size w (w.alloc o):=zX.alloc zY _;rw [ho] at hb
 by_cases hnc:(n:Int)=c0
 . subst hnc
   have hA1:=hA.below hb hlow.1;have hI1:∀ i,i < n->IntsAt _ (A i) (L i) (F i):=fun i hi=>(hI i hi).below hb (hlow.2 i hi)
   obtain ⟨b,off,rfl,hc⟩:=hA1.open zU;clear hA hI hA1 ho hlow;have HI:Hid (∀ i,i < n->IntsAt _ (A i) (L i) (F i)):=hI1;have HL:Hid (∀ i,i < n->L i<=17592186044416):=hL;have hL0:=hL 0 zU;have HC:=hc;have hc00:_=some (Value.slice (A 0) (L 0) (C 0)):=hc 0 zU;simp only [Nat.add_zero] at hc00;clear hI1 hL hc;cases h300:z0x (L 0:Int) lo hi;rotate_left
   . go_enter func122,ntmps122
     go_wp2_with (go_at_call 70;refine (z0T _ _ _ _).mono ?_;rintro e w' ⟨rfl,rfl⟩)
     go_loop [11,28] (fun _ i=>∃ k:Nat,k<=n/\i=O I k/\Hid (∀ i,i < k->L i=L 0/\∀ j,j < L i->z0A d (F i j)=true)) (fun _ i=>n - (intOf i).toNat)
     case atStart=>exact ⟨0,zJ _,rfl,fun i hi=>absurd hi zU⟩
     case round =>
      obtain ⟨k,hk,rfl,HK⟩:=hrel
      by_cases hlt:k < n
      . have hck:=HC k hlt
        have hLk:=HL.out k hlt;have hIk:=HI.out k hlt;clear HC
        by_cases hLe:L k=L 0
        . have HE:Hid (L k=L 0):=hLe
          have ht:((L k:Int) != (L 0:Int))=false:=by simp [hLe]
          clear hLe
          by_cases hall:∀ j,j < L k->z0A d (F k j)=true
          . have HALL:Hid (∀ j,j < L k->z0A d (F k j)=true):=hall
            clear hall
            go_wp2_with (go_at_call 192;refine (z3Q _ _ _ _ _ _ h1 h2 hLk hIk).mono ?_;rintro e w' ⟨he,rfl⟩;have he:=he.true_of HALL.out;subst he)
            go_round
            case rel =>
             refine ⟨k+1,zU,zS,fun i hi=>?_⟩
             by_cases e:i=k
             . subst e;exact ⟨HE.out,HALL.out⟩
             . exact HK.out i zU
            case measure=>simp [intOf];omega
          . have HALL:Hid (¬ ∀ j,j < L k->z0A d (F k j)=true):=hall
            clear hall
            go_wp2_with (go_at_call 192;refine (z3Q _ _ _ _ _ _ h1 h2 hLk hIk).mono ?_;rintro e w' ⟨he,rfl⟩;have he:=he.false_of HALL.out;subst he)
            go_ret;exact ⟨Says.no (fun h=>HALL.out (h.2.2 k hlt).2),hb⟩
        . have HE:Hid (¬ L k=L 0):=hLe
          have ht:((L k:Int) != (L 0:Int))=true:=by simp;omega
          clear hLe;go_wp2;go_ret;exact ⟨Says.no (fun h=>HE.out (h.2.2 k hlt).1),hb⟩
      . have e:k=n:=zU
        subst e;go_wp2;go_ret;exact ⟨Says.yes ⟨rfl,h300,HK.out⟩,hb⟩
   . go_enter func122,ntmps122
     go_wp2_with (go_at_call 70;refine (z0T _ _ _ _).mono ?_;rintro e w' ⟨rfl,rfl⟩)
     go_ret;exact ⟨Says.no (fun h=>by rw [h.2.1] at h300;cases h300),hb⟩
 . have hne:((n:Int) != c0)=true:=by simpa using hnc
   go_enter func122,ntmps122
   go_wp2;go_ret;exact ⟨Says.no (fun h=>hnc h.1),hb⟩
set_option maxHeartbeats 1000000 in
theorem z9Y (c0 c2 c3 c4 c5 c6 c7:Int) (d:Nat) (a:Option Addr) (n cap:Nat) (A:Nat->Option Addr) (L C:Nat->Nat) (F:Nat->Nat->Int) (w:World) (hc0:1<=c0) (h1:1<=d) (h2:d<=13) (hn:n<=17592186044416) (hL:∀ i,i < n->L i<=17592186044416)
 (hA:ListsAt w a n A L C) (hI:∀ i,i < n->IntsAt w (A i) (L i) (F i)) (hlow:Low w.heap.size a n A L) :
 Calls prog 60 #[.agg #[O I c0,O I d,O I c2,O I c3,O I c4,O I c5,O I c6,O I c7],.slice a n cap] w fun e w' =>
  Says e (z9X c0 d n 0 300 L F)/\Below w.heap.size w w':=by
 have hb:Below w.heap.size w (w.alloc (.cells #[O I c0,O I d,O I c2,O I c3,O I c4,O I c5,O I c6,O I c7] 23)):=zX.alloc zY _;have HCC:=zZ (z5S 0 300 c0 c2 c3 c4 c5 c6 c7 d a n cap A L C F (w.alloc (.cells #[O I c0,O I d,O I c2,O I c3,O I c4,O I c5,O I c6,O I c7] 23)) hc0 h1 h2 hn hL (hA.below hb hlow.1) (fun i hi=>(hI i hi).below hb (hlow.2 i hi)) ⟨fun x hx h0=>zP (hlow.1 x hx h0) (by simp),fun i hi x hx h0=>zP (hlow.2 i hi x hx h0) (by simp)⟩);have HB:=zZ hb;clear hA hI hlow hb hL
 go_enter func60,ntmps60
 go_wp2_with (go_at_call 122;refine HCC.out.mono ?_;rintro e w1 ⟨⟨r,rfl,hr⟩,hb1⟩;have HB1:=zZ (HB.out.trans (hb1.mono (by simp)));have HR:=zZ hr;clear hb1 hr HCC)
 go_ret;exact ⟨⟨r,rfl,HR.out⟩,HB1.out⟩
theorem y1u {c0 c1 c2 c3 c4 c5 c6 c7:Int} (h:z2r c0 c1 c2 c3 c4 c5 c6 c7=true):1<=c0/\c0<=4/\(1<=c2/\c2<=32)/\∃ d:Nat,c1=(d:Int)/\4<=d/\d<=12:=by
 simp only [z2r,Bool.and_eq_true,z0J] at h;exact ⟨h.1.1,h.1.2,h.2.2.1,c1.toNat,zU,zU,zU⟩
theorem y4h {w wr:World} {B v k j:Nat} (h:wr.rowIs B 5 k (fun i=>.int .u8 (if k - 1 - i < j then ((inB v k i).toNat:Int) else 0))) (hj:j < k) :
 (wr.setCell ⟨B,k - 1 - j,none⟩ (.int .u8 ((v / 256 ^ j % 256:Nat):Int))).rowIs B 5 k (fun i=>.int .u8 (if k - 1 - i < j+1 then ((inB v k i).toNat:Int) else 0)):=by
 refine (h.set (k - 1 - j) _).congr fun i hi=>?_
 by_cases e:i=k - 1 - j
 . subst e
   rw [if_pos rfl,if_pos zU,y7J,show k - 1 - (k - 1 - j)=j by omega]
 . rw [if_neg e]
   by_cases e2:k - 1 - i < j
   . rw [if_pos e2,if_pos zU]
   . rw [if_neg e2,if_neg zU]
set_option maxHeartbeats 1000000 in
theorem z1d (v k:Nat) (w:World) (hk:k<=8) (hv:v < 4294967296) :
 Calls prog 215 #[O I v,O I k] w fun e w'=>e=.returned (.string (bs (inT v k)))/\Below w.heap.size w w':=by
 have hmk:=run_make_row' (P:=prog) 33 5 (.int .u8 0) 1 underlying33 z1s rfl .i64 .i64 k zU zU;have w2:I.wrap ((k:Int) - 1)=(k:Int) - 1:=by rw [zK];omega
 have HS:=zZ (y1l v k);have HCV:=zZ (fun (u:World) h=>z0F (P:=prog) u 33 9 5 w.heap.size 0 k k (inB v k) underlying33 underlying5 underlying9 h)
 go_enter func215,ntmps215
 go_wp2;clear hmk w2
 go_loopw [0,6] (fun vv iv wr=>∃ j:Nat,j<=k/\iv=O I ((k:Int) - 1 - j)/\vv=O I ((v / 256 ^ j:Nat):Int)/\Hid (wr.rowIs w.heap.size 5 k (fun i=>.int .u8 (if k - 1 - i < j then ((inB v k i).toNat:Int) else 0))/\Below w.heap.size w wr)) (fun _ iv _=>(intOf iv+1).toNat)
 case atStart=>exact ⟨0,zU,by simp,by simp,(World.rowIs_made w (.int .u8 0) k 5).congr fun i _=>by rw [if_neg zU],zX.alloc zY _⟩
 case round =>
  obtain ⟨j,hj,rfl,rfl,HR⟩:=hrel
  by_cases hlt:j < k
  . have hc1:=HR.out.1.cell (i:=k - 1 - j) zU
    have hf1:=HR.out.1.frozen (k - 1 - j);have hq:v / 256 ^ j<=v:=Nat.div_le_self _ _;have HQ:Hid (v / 256 ^ (j+1)=v / 256 ^ j / 256):=by show _=_;rw [Nat.pow_succ,Nat.div_div_eq_div_mul]
    have HK:=zZ (y4h (w:=w) HR.out.1 hlt);generalize v / 256 ^ j=q at *;have t1:((k:Int) - 1 - (j:Int)).toNat=k - 1 - j:=zU
    have t2:decide (0<=(k:Int) - 1 - (j:Int))=true:=zL zU;have l1:0<=(k:Int) - 1 - (j:Int):=zU
    have l2:(k:Int) - 1 - (j:Int) < (k:Int):=zU
    have v2:I.wrap ((k:Int) - 1 - (j:Int) - 1)=(k:Int) - 1 - (j:Int) - 1:=by rw [zK];omega
    have m1:((q:Int)).tmod 256=((q % 256:Nat):Int):=by rw [zG zU];omega
    have m2:((q:Int)).tdiv 256=((q / 256:Nat):Int):=by rw [zF zU];omega
    have m3:((q:Int)) / 256=((q / 256:Nat):Int):=zU
    have hq3:q / 256<=q:=Nat.div_le_self _ _;have HV6:Hid (wrap64 ((q / 256:Nat):Int)=((q / 256:Nat):Int)):=by show _=_;unfold wrap64;omega
    have hq2:q % 256 < 256:=Nat.mod_lt _ zU;have v4:IntKind.u8.wrap (q:Int)=((q % 256:Nat):Int):=by rw [IntKind.wrap_u8];omega
    generalize q % 256=r at *;generalize q / 256=q' at *;have v5:IntKind.u8.wrap (r:Int)=(r:Int):=by rw [IntKind.wrap_u8];omega
    generalize hcv:(if k - 1 - (k - 1 - j) < j then ((inB v k (k - 1 - j)).toNat:Int) else 0)=oldv at hc1;clear hcv;go_wp2
    go_roundw
    case rel=>exact ⟨j+1,zU,by congr 1;omega,by rw [HQ.out],HK.out,HR.out.2.setCell zY _⟩
    case measure=>simp [intOf];omega
  . have e:j=k:=zU
    subst e;have e1:(j:Int) - 1 - (j:Int)=-1:=zU
    rw [e1];clear e1;have hcv:=HCV.out wr (fun i hi=>by
     have:=HR.out.1.cell (i:=i) hi;rw [if_pos zU] at this
     simpa using this)
    rw [HS.out] at hcv;generalize v / 256 ^ j=q0 at *;clear HCV;go_wp2;go_ret;exact ⟨rfl,HR.out.2⟩
set_option maxHeartbeats 1000000 in
theorem z1T (v k:Nat) (w:World) (hk:k<=8) (hv:v < 4294967296) :
 Calls prog 195 #[O I v,O I k] w fun e w'=>e=.returned (.string (bs (inT v k)))/\Below w.heap.size w w':=by
 have hmk:=run_make_row' (P:=prog) 33 5 (.int .u8 0) 1 underlying33 z1s rfl .i64 .i64 k zU zU;have w2:I.wrap ((k:Int) - 1)=(k:Int) - 1:=by rw [zK];omega
 have HS:=zZ (y1l v k);have HCV:=zZ (fun (u:World) h=>z0F (P:=prog) u 33 9 5 w.heap.size 0 k k (inB v k) underlying33 underlying5 underlying9 h)
 go_enter func195,ntmps195
 go_wp2;clear hmk w2
 go_loopw [0,6] (fun vv iv wr=>∃ j:Nat,j<=k/\iv=O I ((k:Int) - 1 - j)/\vv=O I ((v / 256 ^ j:Nat):Int)/\Hid (wr.rowIs w.heap.size 5 k (fun i=>.int .u8 (if k - 1 - i < j then ((inB v k i).toNat:Int) else 0))/\Below w.heap.size w wr)) (fun _ iv _=>(intOf iv+1).toNat)
 case atStart=>exact ⟨0,zU,by simp,by simp,(World.rowIs_made w (.int .u8 0) k 5).congr fun i _=>by rw [if_neg zU],zX.alloc zY _⟩
 case round =>
  obtain ⟨j,hj,rfl,rfl,HR⟩:=hrel
  by_cases hlt:j < k
  . have hc1:=HR.out.1.cell (i:=k - 1 - j) zU
    have hf1:=HR.out.1.frozen (k - 1 - j);have hq:v / 256 ^ j<=v:=Nat.div_le_self _ _;have HQ:Hid (v / 256 ^ (j+1)=v / 256 ^ j / 256):=by show _=_;rw [Nat.pow_succ,Nat.div_div_eq_div_mul]
    have HK:=zZ (y4h (w:=w) HR.out.1 hlt);generalize v / 256 ^ j=q at *;have t1:((k:Int) - 1 - (j:Int)).toNat=k - 1 - j:=zU
    have t2:decide (0<=(k:Int) - 1 - (j:Int))=true:=zL zU;have l1:0<=(k:Int) - 1 - (j:Int):=zU
    have l2:(k:Int) - 1 - (j:Int) < (k:Int):=zU
    have v2:I.wrap ((k:Int) - 1 - (j:Int) - 1)=(k:Int) - 1 - (j:Int) - 1:=by rw [zK];omega
    have m1:((q:Int)).tmod 256=((q % 256:Nat):Int):=by rw [zG zU];omega
    have m2:((q:Int)).tdiv 256=((q / 256:Nat):Int):=by rw [zF zU];omega
    have m3:((q:Int)) / 256=((q / 256:Nat):Int):=zU
    have hq3:q / 256<=q:=Nat.div_le_self _ _;have HV6:Hid (wrap64 ((q / 256:Nat):Int)=((q / 256:Nat):Int)):=by show _=_;unfold wrap64;omega
    have hq2:q % 256 < 256:=Nat.mod_lt _ zU;have v4:IntKind.u8.wrap (q:Int)=((q % 256:Nat):Int):=by rw [IntKind.wrap_u8];omega
    generalize q % 256=r at *;generalize q / 256=q' at *;have v5:IntKind.u8.wrap (r:Int)=(r:Int):=by rw [IntKind.wrap_u8];omega
    generalize hcv:(if k - 1 - (k - 1 - j) < j then ((inB v k (k - 1 - j)).toNat:Int) else 0)=oldv at hc1;clear hcv;go_wp2
    go_roundw
    case rel=>exact ⟨j+1,zU,by congr 1;omega,by rw [HQ.out],HK.out,HR.out.2.setCell zY _⟩
    case measure=>simp [intOf];omega
  . have e:j=k:=zU
    subst e;have e1:(j:Int) - 1 - (j:Int)=-1:=zU
    rw [e1];clear e1;have hcv:=HCV.out wr (fun i hi=>by
     have:=HR.out.1.cell (i:=i) hi;rw [if_pos zU] at this
     simpa using this)
    rw [HS.out] at hcv;generalize v / 256 ^ j=q0 at *;clear HCV;go_wp2;go_ret;exact ⟨rfl,HR.out.2⟩
theorem z6S (k D:Nat) (l:List UInt8):crc k D l < 2 ^ k:=z2k _ _
theorem z5T (T:List UInt8):(bs T).data.toList=T:=by simp [bs]
theorem y6e (T:List UInt8) (w:World) (hs:T.length<=2097152) :
 Calls prog 216 #[.string (bs T)] w fun e w'=>e=.returned (O I (crc 8 263 T))/\w'=w:=by
 have:=y3V (bs T) w (by rw [z0b];exact hs)
 rwa [z5T] at this
theorem y2l (T:List UInt8) (w:World) (hs:T.length<=2097152) :
 Calls prog 196 #[.string (bs T)] w fun e w'=>e=.returned (O I (crc 16 98309 T))/\w'=w:=by
 have:=z9U (bs T) w (by rw [z0b];exact hs)
 rwa [z5T] at this
theorem y4i (T:List UInt8) (w:World) (hs:T.length<=2097152) :
 Calls prog 150 #[.string (bs T)] w fun e w'=>e=.returned (O I (crc 8 263 T))/\Below w.heap.size w w':=by
 have:=y5W (bs T) w (by rw [z0b];exact hs);rw [z5T] at this;exact this.mono fun e w' h=>⟨h.1,h.2.1⟩
theorem y1v (T:List UInt8) (w:World) (hs:T.length<=2097152) :
 Calls prog 152 #[.string (bs T)] w fun e w'=>e=.returned (O I (crc 16 98309 T))/\Below w.heap.size w w':=by
 have:=y3W (bs T) w (by rw [z0b];exact hs);rw [z5T] at this;exact this.mono fun e w' h=>⟨h.1,h.2.1⟩
set_option maxHeartbeats 400000 in
theorem z8T (T:List UInt8) (w:World) (hs:T.length<=1048576) :
 Calls prog 197 #[.string (bs T)] w fun e w'=>e=.returned (.string (bs (z1f T)))/\Below w.heap.size w w':=by
 have hc:crc 8 263 T < 256:=z6S 8 263 T;have HE:=zZ (fun u=>y6e T u zU);have HIN:=zZ (fun u=>z1T (crc 8 263 T) 1 u zU zU);have HS:Hid (bs T ++ bs (inT (crc 8 263 T) 1)=bs (z1f T)):=z0f _ _;have hz1:(bs T).size<=1048576:=by rw [z0b];exact hs
 have hz2:(bs (inT (crc 8 263 T) 1)).size<=1:=by rw [z0b,z0d];omega
 generalize crc 8 263 T=C at *;rw [← HS.out];generalize bs (inT C 1)=X at *;generalize bs T=S at *;clear HS
 go_enter func197,ntmps197
 go_wp2_with (first
  | (go_at_call 216;refine (HE.out _).mono ?_;rintro e w1 ⟨rfl,hw⟩;subst w1;clear HE)
  | (go_at_call 195;refine (HIN.out _).mono ?_;rintro e w2 ⟨rfl,hb2⟩;have HB2:=zZ hb2;clear hb2 HIN))
 go_ret;exact ⟨rfl,HB2.out⟩
set_option maxHeartbeats 400000 in
theorem z6T (T:List UInt8) (w:World) (hs:T.length<=1048576) :
 Calls prog 125 #[.string (bs T)] w fun e w'=>e=.returned (.string (bs (z5b T)))/\Below w.heap.size w w':=by
 have hc:crc 16 98309 T < 65536:=z6S 16 98309 T;have HE:=zZ (fun u=>y2l T u zU);have HIN:=zZ (fun u=>z1T (crc 16 98309 T) 2 u zU zU);have HS:Hid (bs T ++ bs (inT (crc 16 98309 T) 2)=bs (z5b T)):=z0f _ _;have hz1:(bs T).size<=1048576:=by rw [z0b];exact hs
 have hz2:(bs (inT (crc 16 98309 T) 2)).size<=2:=by rw [z0b,z0d];omega
 generalize crc 16 98309 T=C at *;rw [← HS.out];generalize bs (inT C 2)=X at *;generalize bs T=S at *;clear HS
 go_enter func125,ntmps125
 go_wp2_with (first
  | (go_at_call 196;refine (HE.out _).mono ?_;rintro e w1 ⟨rfl,hw⟩;subst w1;clear HE)
  | (go_at_call 195;refine (HIN.out _).mono ?_;rintro e w2 ⟨rfl,hb2⟩;have HB2:=zZ hb2;clear hb2 HIN))
 go_ret;exact ⟨rfl,HB2.out⟩
theorem z3l {T e:TypeId} {B b:Nat} {p:Value} {xs:List Value} {w w':World} (h:Lib.BuilderAtF T e B b p xs w) (hb:Below w.heap.size w w'):Lib.BuilderAtF T e B b p xs w':=by
 have hlt:=h.lt;obtain ⟨hB,v,hbk,hown,hne⟩:=h;refine ⟨hB,v,(hb.block b hlt).trans hbk,?_,hne⟩;obtain ⟨hl,hr⟩:=hown;refine ⟨hl,?_⟩;rcases hr with h0 | ⟨g,cap,cur,fz,h1,h2,h3,h4⟩
 . exact .inl h0
 . exact .inr ⟨g,cap,cur,fz,h1,h2,(hb.block g (Array.getElem?_eq_some_iff.1 h3).1).trans h3,h4⟩
theorem z2Z {T e:TypeId} {B b:Nat} {xs:List Value} {w w':World} (h:Lib.IsBuilderF T e B b xs w) (hb:Below w.heap.size w w'):Lib.IsBuilderF T e B b xs w' :=
 h.elim (fun h=>.inl (z3l h hb)) (fun h=>.inr (z3l h hb))
set_option maxHeartbeats 2000000 in
set_option maxRecDepth 100000 in
theorem z5U (T:TypeId) (hT:Lies T) (B b:Nat) (xs:List Value) (s:ByteArray) (w:World) (h:Lib.IsBuilderF T 5 B b xs w) (hs:0 < s.size) (hlen:xs.length+s.size<=140737488355328) (hBw:B<=w.heap.size) :
 Calls prog 200 #[.pointer (some ⟨b,0,none⟩),.string s] w fun e w'=>e=.returned (.tuple #[O I s.size,.nilIface])/\(Lib.BuilderAtF T 5 B b (.pointer (some ⟨b,0,none⟩)) (xs ++ Lib.strCells s) w'/\Below B w w'):=by
 obtain ⟨i0,hi,hz0,hz1,hz2⟩:=info_parts z1s;have HH:=zZ h;clear h
 go_enter func200,ntmps200
 go_wp2_with (go_at_call 251;refine (z2W T hT B b xs _ HH.out).mono ?_)
 rintro e w1 ⟨rfl,h1,hb1,hk1⟩;obtain ⟨hB,v,hbk,hown,hne⟩:=h1;have c0:w1.cell? ⟨b,0,none⟩=some (.pointer (some ⟨b,0,none⟩)):=by rw [Lib.cell_of_heap hbk];rfl
 have c1:w1.cell? ⟨b,1,none⟩=some v:=by rw [Lib.cell_of_heap hbk];rfl
 go_wp2_with (at_builtin;refine Lib.wpList_append_own_stringF _ rfl _ _ 33 9 rfl B 5 i0 underlying33 underlying9 hi hz0 hz1 hz2 _ _ _ rfl hown s rfl ?c3 ?c4 ?c5 ?_)
 case c3=>unfold maxLen;omega
 case c4=>omega
 case c5=>have:=hb1.size;omega
 intro v' w2 hown' hgrow _;have hlt:b < w1.heap.size:=(Array.getElem?_eq_some_iff.1 hbk).1;have hb2:w2.heap[b]?=some (.cells #[.pointer (some ⟨b,0,none⟩),v] T (0,0)):=by
  rw [hgrow.block b hlt (fun e=>hne e.symm)];exact hbk
 have d0:w2.cell? ⟨b,0,none⟩=some (.pointer (some ⟨b,0,none⟩)):=by rw [Lib.cell_of_heap hb2];rfl
 have d1:w2.cell? ⟨b,1,none⟩=some v:=by rw [Lib.cell_of_heap hb2];rfl
 have f1:w2.frozen? ⟨b,1,none⟩=false:=Lib.frozen_of_heap hb2 1;obtain ⟨g,cap,rfl⟩:∃ g cap,v'=.slice (some ⟨g,0,none⟩) (xs.length+s.size) cap:=by
  rcases hown'.2 with ⟨_,h0⟩ | ⟨g,cap,cur,fz,hv,_⟩
  . omega
  . exact ⟨g,cap,hv⟩
 go_wp2;go_ret2;refine ⟨rfl,?_,?_⟩
 . exact Lib.BuilderAtF.put (T:=T) (e:=5) hB hb2 (bs':=xs ++ Lib.strCells s) (by rw [zN,Lib.strCells_length];exact hown') hT.2
 . exact ((hb1.grown hgrow (by have:=hb1.size;omega) (fun k hk=>(hown.lt k hk).1))).setCell (p:=⟨b,1,none⟩) hB _
theorem y1w (T:List UInt8):Lib.strCells (bs T)=Lib.byteCells T:=by
 unfold Lib.strCells Lib.byteCells;rw [z5T]
theorem z8U (T U:List UInt8):Lib.byteCells T ++ Lib.byteCells U=Lib.byteCells (T ++ U):=by simp [Lib.byteCells]
theorem z5V (w:World):Lib.IsBuilderF 278 5 w.heap.size w.heap.size (Lib.byteCells []) (w.alloc (.cells #[.pointer none,.slice none 0 0] 278)) :=
 .inl ⟨Nat.le_refl _,.slice none 0 0,blk_alloc_new _ _,⟨rfl,.inl ⟨rfl,rfl⟩⟩,by simp [Value.ownBlock]⟩
set_option maxHeartbeats 2000000 in
theorem z9Z (d:Nat) (a:Option Addr) (n cap:Nat) (A:Nat->Option Addr) (N:Nat) (C:Nat->Nat) (F:Nat->Nat->Int) (w:World) (hd1:1<=d) (hd:d<=12) (hn1:1<=n) (hn4:n<=4) (hN1:1<=N) (hN:N<=32)
 (hf:∀ i,i < n->∀ j,j < N->z0A d (F i j)=true) (hA:ListsAt w a n A (fun _=>N) C) (hI:∀ i,i < n->IntsAt w (A i) N (F i)) (hlow:Low w.heap.size a n A (fun _=>N)) (hT:Tabs w) :
 Calls prog 193 #[O I d,.slice a n cap] w fun e w'=>e=.returned (.string (bs (allT d F N n)))/\Below w.heap.size w w':=by
 have HC:=zZ (fun (u:World) (hu:Below w.heap.size w u) i (hi:i < n)=>z2n (A i) N (C i) d (F i) u hN1 hN hd1 zU (hf i hi) ((hI i hi).below hu (hlow.2 i hi)) (fun y hy h0=>zP (hlow.2 i hi y hy h0) hu.size) (hT.below hu));have HA:=zZ (fun (u:World) (hu:Below w.heap.size w u)=>hA.below hu hlow.1);have HBD:=zZ (z4M d F N hN1 hN hd);have HSB:=zZ (fun i=>z1t d (F i) N hN1 hN zU);have HNE:Hid (allT d F N n ≠ []):=fun h=>by
  have:=(z4M d F N hN1 hN hd n).1;rw [h] at this;simp at this;omega
 obtain ⟨b,off,rfl,hcell⟩:=hA.open zU;have HCL:=zZ hcell;have HBL:Hid (b < w.heap.size):=by
  have:=hlow.1 _ rfl (by omega:0 < n);exact this
 clear hf hA hI hlow hT hcell
 go_enter func193,ntmps193
 go_wp2
 go_loopw [7,10] (fun _ iv wr=>∃ i:Nat,i<=n/\iv=O I i/\Hid (Lib.IsBuilderF 278 5 w.heap.size w.heap.size (Lib.byteCells (allT d F N i)) wr/\Below w.heap.size w wr/\w.heap.size < wr.heap.size)) (fun _ iv _=>n - (intOf iv).toNat)
 case atStart=>exact ⟨0,zJ _,rfl,z5V w,zX.alloc zY _,by simp⟩
 case round =>
  obtain ⟨i,hi,rfl,HR⟩:=hrel
  by_cases hlt:i < n
  . have hc1:wr.cell? ⟨b,off+i,none⟩=some (.slice (A i) N (C i)):=(HR.out.2.1.cell (p:=⟨b,off+i,none⟩) HBL.out).trans (HCL.out i hlt)
    have HC1:=zZ (fun (u:World) (hu:Below wr.heap.size wr u)=>HC.out u (HR.out.2.1.trans (hu.mono HR.out.2.1.size)) i hlt);have HW:=zZ (fun (u:World) (hu:Below wr.heap.size wr u)=>z5U 278 z4Z w.heap.size w.heap.size _ (bs (subT d (F i) N)) u (z2Z HR.out.1 hu) (by rw [z0b];have:=z3C d (F i) N;omega) (by rw [Lib.byteCells_length,z0b];have:=HSB.out i;have:=(HBD.out i).2;omega) (zO HR.out.2.1.size hu.size));have HE:Hid (Lib.byteCells (allT d F N i) ++ Lib.strCells (bs (subT d (F i) N))=Lib.byteCells (allT d F N (i+1))):=by show _=_;rw [y1w,z8U];rfl
    have hz:(bs (subT d (F i) N)).size<=424:=by rw [z0b];exact HSB.out i
    generalize bs (subT d (F i) N)=S at *
    go_wp2_with (first
     | (go_at_call 221;refine (HC1.out _ ?_).mono ?_;(first | exact Below.refl _ _ | exact zX.drew);rintro e w1 ⟨rfl,hb1⟩;have HB1:Hid (Below wr.heap.size wr w1):=(⟨hb1.os,hb1.tape,hb1.output,hb1.size,hb1.block⟩:Below wr.heap.size wr w1);clear hb1 HC1)
     | (go_at_call 200;refine (HW.out _ ?_).mono ?_;exact HB1.out;rintro e w2 ⟨rfl,hbl2,hb2⟩;have HB2:Hid (Lib.IsBuilderF 278 5 w.heap.size w.heap.size (Lib.byteCells (allT d F N (i+1))) w2/\Below w.heap.size w w2/\w.heap.size < w2.heap.size):=⟨.inr (by rw [← HE.out];exact hbl2),HR.out.2.1.trans ((HB1.out.mono HR.out.2.1.size).trans hb2),zP HR.out.2.2 (zO HB1.out.size hb2.size)⟩;clear hbl2 hb2 HW))
    go_roundw
    case rel=>exact ⟨i+1,zU,zS,HB2.out⟩
    case measure=>simp [intOf];omega
  . have e:i=n:=zU
    subst e;have HST:=zZ (fun (u:World) (hu:Below wr.heap.size wr u)=>z4D 278 w.heap.size w.heap.size (allT d F N i) u (z2Z HR.out.1 hu) HNE.out)
    go_wp2_with (go_at_call 201;refine (HST.out _ ?_).mono ?_;(first | exact Below.refl _ _ | exact zX.drew);rintro e w1 ⟨rfl,hb1⟩;have HB1:Hid (Below w.heap.size w w1):=HR.out.2.1.trans ⟨hb1.os,hb1.tape,hb1.output,hb1.size,hb1.block⟩;clear hb1 HST)
    go_ret;exact ⟨rfl,HB1.out⟩
set_option maxHeartbeats 1000000 in
theorem y2m (a b:Option Addr) (n c c':Nat) (l r:Nat->Int) (w:World) (hn:n<=32) (hbl:∀ j,j < n->-4096<=l j/\l j<=4096) (hbr:∀ j,j < n->-4096<=r j/\r j<=4096) (hI:IntsAt w a n l) (hJ:IntsAt w b n r)
 (hlow:∀ y,a=some y->0 < n->y.block < w.heap.size) (hlow2:∀ y,b=some y->0 < n->y.block < w.heap.size) :
 Calls prog 248 #[.slice a n c,.slice b n c'] w fun e w'=>e=.returned (.slice (some ⟨w.heap.size,0,none⟩) n n)/\w'.rowIs w.heap.size 3 n (cutV n (z2q l r))/\Below w.heap.size w w':=by
 have hmk:=run_make_row' (P:=prog) 30 3 (O I 0) 8 underlying30 z1g rfl .i64 .i64 n zU zU;have HI:=zZ (fun u (h:Below w.heap.size w u)=>hI.belowB h hlow);have HJ:=zZ (fun u (h:Below w.heap.size w u)=>hJ.belowB h hlow2);have HBL:=zZ hbl;have HBR:=zZ hbr;clear hI hlow hJ hlow2 hbl hbr
 go_enter func248,ntmps248
 go_wp2;clear hmk
 go_loopw [6,12] (fun _ i wr=>∃ j:Nat,j<=n/\i=O I j/\Hid (wr.rowIs w.heap.size 3 n (cutV j (z2q l r))/\Below w.heap.size w wr)) (fun _ i _=>n - (intOf i).toNat)
 case atStart=>exact ⟨0,zJ _,rfl,(World.rowIs_made w (O I 0) n 3).congr fun i _=>by simp [cutV,cutI],zX.alloc zY _⟩
 case round =>
  obtain ⟨j,hj,rfl,HR⟩:=hrel
  by_cases hlt:j < n
  . obtain ⟨bb,off,hx,hc⟩:=(HI.out wr HR.out.2).open zU
    obtain ⟨bb2,off2,hx2,hc2⟩:=(HJ.out wr HR.out.2).open zU;have hcj:=hc j hlt;have hcj2:=hc2 j hlt;have hc1:=HR.out.1.cell hlt;have hf1:=HR.out.1.frozen j;unfold cutV at hc1;have b1:=HBL.out j hlt;have b2:=HBR.out j hlt;have HSD:Hid (z2q l r j=l j - r j):=rfl;have wf:I.wrap (l j - r j)=l j - r j:=by rw [zK];omega
    clear hc hc2;subst hx hx2;go_wp2
    go_region
    all_goals go_wp2
    go_roundw
    case rel=>exact ⟨j+1,zU,zS,z2F rfl (HR.out.1.set j _),(HR.out.2.setCell (p:=⟨w.heap.size,j,none⟩) zY _).drew⟩
    case measure=>simp [intOf];omega
  . have e:j=n:=zU
    subst e;go_wp2;go_ret;exact ⟨rfl,HR.out.1,HR.out.2⟩
set_option maxHeartbeats 1000000 in
theorem z8V (a b:Option Addr) (n c c':Nat) (l r:Nat->Int) (w:World) (hn:n<=32) (hbl:∀ j,j < n->-4096<=l j/\l j<=4096) (hbr:∀ j,j < n->-4096<=r j/\r j<=4096) (hI:IntsAt w a n l) (hJ:IntsAt w b n r)
 (hlow:∀ y,a=some y->0 < n->y.block < w.heap.size) (hlow2:∀ y,b=some y->0 < n->y.block < w.heap.size) :
 Calls prog 249 #[.slice a n c,.slice b n c'] w fun e w'=>e=.returned (.slice (some ⟨w.heap.size,0,none⟩) n n)/\w'.rowIs w.heap.size 3 n (cutV n (midL l r))/\Below w.heap.size w w':=by
 have hmk:=run_make_row' (P:=prog) 30 3 (O I 0) 8 underlying30 z1g rfl .i64 .i64 n zU zU;have HI:=zZ (fun u (h:Below w.heap.size w u)=>hI.belowB h hlow);have HJ:=zZ (fun u (h:Below w.heap.size w u)=>hJ.belowB h hlow2);have HBL:=zZ hbl;have HBR:=zZ hbr;clear hI hlow hJ hlow2 hbl hbr
 go_enter func249,ntmps249
 go_wp2;clear hmk
 go_loopw [6,12] (fun _ i wr=>∃ j:Nat,j<=n/\i=O I j/\Hid (wr.rowIs w.heap.size 3 n (cutV j (midL l r))/\Below w.heap.size w wr)) (fun _ i _=>n - (intOf i).toNat)
 case atStart=>exact ⟨0,zJ _,rfl,(World.rowIs_made w (O I 0) n 3).congr fun i _=>by simp [cutV,cutI],zX.alloc zY _⟩
 case round =>
  obtain ⟨j,hj,rfl,HR⟩:=hrel
  by_cases hlt:j < n
  . obtain ⟨bb,off,hx,hc⟩:=(HI.out wr HR.out.2).open zU
    obtain ⟨bb2,off2,hx2,hc2⟩:=(HJ.out wr HR.out.2).open zU;have hcj:=hc j hlt;have hcj2:=hc2 j hlt;have hc1:=HR.out.1.cell hlt;have hf1:=HR.out.1.frozen j;unfold cutV at hc1;have b1:=HBL.out j hlt;have b2:=HBR.out j hlt;have wf:I.wrap (l j+r j)=l j+r j:=by rw [zK];omega
    clear hc hc2;subst hx hx2;go_wp2
    go_region
    all_goals go_wp2
    go_roundw
    case rel=>exact ⟨j+1,zU,zS,z2F rfl (HR.out.1.set j _),(HR.out.2.setCell (p:=⟨w.heap.size,j,none⟩) zY _).drew⟩
    case measure=>simp [intOf];omega
  . have e:j=n:=zU
    subst e;go_wp2;go_ret;exact ⟨rfl,HR.out.1,HR.out.2⟩
def y7L (r c:Nat):Int:=([[0,1],[0,2],[2,1],[3,2]].getD r []).getD c 0
def y4j (w:World):Prop:=∀ r c,r < 4->c < 2->w.cell? ⟨0,2 * r+c,none⟩=some (O I (y7L r c))
structure TabsF (w:World):Prop where
 tabs:Tabs w
 pairs:y4j w
 pairsLt:0 < w.heap.size
theorem TabsF.below {w u:World} (h:TabsF w) (hb:Below w.heap.size w u):TabsF u :=
 ⟨h.tabs.below hb,fun r c hr hc=>(hb.cell (p:=⟨0,2 * r+c,none⟩) h.pairsLt).trans (h.pairs r c hr hc),zP h.pairsLt hb.size⟩
theorem z2L {w:World} {B n:Nat} {f:Nat->Int} (h:w.rowIs B 3 n (cutV n f)):IntsAt w (some ⟨B,0,none⟩) n f:=fun i hi=>⟨_,rfl,by
 have:=h.cell (i:=i) hi;rw [z2z,Nat.zero_add,this];simp [cutV,cutI,hi]⟩
theorem z3a {u u':World} {b:Nat} {o:Obj} (h:Below u.heap.size u u') (hk:b < u.heap.size/\u.heap[b]?=some o):b < u'.heap.size/\u'.heap[b]?=some o :=
 ⟨zP hk.1 h.size,(h.block b hk.1).trans hk.2⟩
theorem z7J (d:Nat) (w:World) (hd:d<=12):Calls prog 247 #[O I d] w fun e w'=>e=.returned (O I ((d+1:Nat):Int))/\w'=w:=by
 have wd:I.wrap ((d:Int)+1)=((d+1:Nat):Int):=by rw [zK];omega
 go_enter func247,ntmps247
 go_wp2;go_ret;exact ⟨rfl,rfl⟩
theorem z7K {u:World} {b o1 o2:Nat} {v0 v1:Value} {o:Obj} (hb:b < u.heap.size) (h:u.cell? ⟨b,o1,none⟩=some v0/\u.cell? ⟨b,o2,none⟩=some v1):(u.alloc o).cell? ⟨b,o1,none⟩=some v0/\(u.alloc o).cell? ⟨b,o2,none⟩=some v1:=by
 have hB:Below u.heap.size u (u.alloc o):=zX.alloc zY _;exact ⟨(hB.cell (p:=⟨b,o1,none⟩) hb).trans h.1,(hB.cell (p:=⟨b,o2,none⟩) hb).trans h.2⟩
theorem y4k {u:World} {b g o1 o2:Nat} {v0 v1 s0 s1 s2 s3:Value} (hne:b ≠ g) (h:u.cell? ⟨b,o1,none⟩=some v0/\u.cell? ⟨b,o2,none⟩=some v1) :
 ((((u.setCell ⟨g,0,none⟩ s0).setCell ⟨g,1,none⟩ s1).setCell ⟨g,2,none⟩ s2).setCell ⟨g,3,none⟩ s3).cell? ⟨b,o1,none⟩=some v0/\((((u.setCell ⟨g,0,none⟩ s0).setCell ⟨g,1,none⟩ s1).setCell ⟨g,2,none⟩ s2).setCell ⟨g,3,none⟩ s3).cell? ⟨b,o2,none⟩=some v1:=by
 have ne:∀ {i j:Nat},(⟨g,i,none⟩:Addr) ≠ ⟨b,j,none⟩:=fun e=>hne (by injection e with e1;exact e1.symm)
 have ne':∀ {i j:Nat},(⟨b,j,none⟩:Addr) ≠ ⟨g,i,none⟩:=fun e=>hne (by injection e)
 constructor
 . first
     | rw [World.cell?_setCell_other _ _ _ _ ne,World.cell?_setCell_other _ _ _ _ ne,World.cell?_setCell_other _ _ _ _ ne,World.cell?_setCell_other _ _ _ _ ne];exact h.1
     | rw [World.cell?_setCell_other _ _ _ _ ne',World.cell?_setCell_other _ _ _ _ ne',World.cell?_setCell_other _ _ _ _ ne',World.cell?_setCell_other _ _ _ _ ne'];exact h.1
 . first
     | rw [World.cell?_setCell_other _ _ _ _ ne,World.cell?_setCell_other _ _ _ _ ne,World.cell?_setCell_other _ _ _ _ ne,World.cell?_setCell_other _ _ _ _ ne];exact h.2
     | rw [World.cell?_setCell_other _ _ _ _ ne',World.cell?_setCell_other _ _ _ _ ne',World.cell?_setCell_other _ _ _ _ ne',World.cell?_setCell_other _ _ _ _ ne'];exact h.2
theorem y4l {u:World} {b o1 o2:Nat} {v0 v1 s0 s1 s2 s3:Value} {o:Obj} (hb:b < u.heap.size) (h:u.cell? ⟨b,o1,none⟩=some v0/\u.cell? ⟨b,o2,none⟩=some v1) :
 (((((u.alloc o).setCell ⟨u.heap.size,0,none⟩ s0).setCell ⟨u.heap.size,1,none⟩ s1).setCell ⟨u.heap.size,2,none⟩ s2).setCell ⟨u.heap.size,3,none⟩ s3).cell? ⟨b,o1,none⟩=some v0/\(((((u.alloc o).setCell ⟨u.heap.size,0,none⟩ s0).setCell ⟨u.heap.size,1,none⟩ s1).setCell ⟨u.heap.size,2,none⟩ s2).setCell ⟨u.heap.size,3,none⟩ s3).cell? ⟨b,o2,none⟩=some v1 :=
 y4k (Nat.ne_of_lt hb) (z7K hb h)
theorem y0a {u:World} {b:Nat} {s:Value} {T:TypeId} (h:u.heap[b]?=some (.cells #[s,s,s,s] T (0,0))) :
 u.cell? ⟨b,0,none⟩=some s/\u.cell? ⟨b,1,none⟩=some s/\u.cell? ⟨b,2,none⟩=some s/\u.cell? ⟨b,3,none⟩=some s/\u.frozen? ⟨b,0,none⟩=false/\u.frozen? ⟨b,1,none⟩=false/\u.frozen? ⟨b,2,none⟩=false/\u.frozen? ⟨b,3,none⟩=false :=
 ⟨Lib.cell_of_heap h 0,Lib.cell_of_heap h 1,Lib.cell_of_heap h 2,Lib.cell_of_heap h 3,Lib.frozen_of_heap h 0,Lib.frozen_of_heap h 1,Lib.frozen_of_heap h 2,Lib.frozen_of_heap h 3⟩
theorem z6U {u:World} {b:Nat} {o0 o1 o2 o3:Value} (q0:u.cell? ⟨b,0,none⟩=some o0) (q1:u.cell? ⟨b,1,none⟩=some o1) (q2:u.cell? ⟨b,2,none⟩=some o2) (q3:u.cell? ⟨b,3,none⟩=some o3) (v0 v1 v2 v3:Value) :
 ((((u.setCell ⟨b,0,none⟩ v0).setCell ⟨b,1,none⟩ v1).setCell ⟨b,2,none⟩ v2).setCell ⟨b,3,none⟩ v3).cell? ⟨b,0,none⟩=some v0 /\
 ((((u.setCell ⟨b,0,none⟩ v0).setCell ⟨b,1,none⟩ v1).setCell ⟨b,2,none⟩ v2).setCell ⟨b,3,none⟩ v3).cell? ⟨b,1,none⟩=some v1 /\
 ((((u.setCell ⟨b,0,none⟩ v0).setCell ⟨b,1,none⟩ v1).setCell ⟨b,2,none⟩ v2).setCell ⟨b,3,none⟩ v3).cell? ⟨b,2,none⟩=some v2 /\
 ((((u.setCell ⟨b,0,none⟩ v0).setCell ⟨b,1,none⟩ v1).setCell ⟨b,2,none⟩ v2).setCell ⟨b,3,none⟩ v3).cell? ⟨b,3,none⟩=some v3:=by
 have ne:∀ {i j:Nat},i ≠ j->(⟨b,i,none⟩:Addr) ≠ ⟨b,j,none⟩:=fun h e=>h (by injection e)
 refine ⟨?_,?_,?_,?_⟩
 . rw [World.cell?_setCell_other _ _ _ _ (ne zR),World.cell?_setCell_other _ _ _ _ (ne zR),World.cell?_setCell_other _ _ _ _ (ne zR),World.cell?_setCell_same _ _ _ q0]
 . rw [World.cell?_setCell_other _ _ _ _ (ne zR),World.cell?_setCell_other _ _ _ _ (ne zR),World.cell?_setCell_same _ _ _ (by rw [World.cell?_setCell_other _ _ _ _ (ne zR)];exact q1)]
 . rw [World.cell?_setCell_other _ _ _ _ (ne zR),World.cell?_setCell_same _ _ _ (by rw [World.cell?_setCell_other _ _ _ _ (ne zR),World.cell?_setCell_other _ _ _ _ (ne zR)];exact q2)]
 . rw [World.cell?_setCell_same _ _ _ (by rw [World.cell?_setCell_other _ _ _ _ (ne zR),World.cell?_setCell_other _ _ _ _ (ne zR),World.cell?_setCell_other _ _ _ _ (ne zR)];exact q3)]
set_option maxHeartbeats 1000000 in
theorem z8W (d:Nat) (a b:Option Addr) (n c c':Nat) (l r:Nat->Int) (w:World) (hd1:1<=d) (hd:d<=12) (hn1:1<=n) (hn:n<=32) (hl:∀ j,j < n->z0A d (l j)=true) (hr:∀ j,j < n->z0A d (r j)=true) (hI:IntsAt w a n l) (hJ:IntsAt w b n r)
 (hlow:∀ y,a=some y->0 < n->y.block < w.heap.size) (hlow2:∀ y,b=some y->0 < n->y.block < w.heap.size) (hT:Tabs w) :
 Calls prog 194 #[O I d,.slice a n c,.slice b n c'] w fun e w' =>
  e=.returned (.agg #[.string (bs (subT d l n)),.string (bs (subT d r n)),.string (bs (subT (d+1) (z2q l r) n)),.string (bs (subT d (midL l r) n))])/\Below w.heap.size w w':=by
 have bl:∀ j,j < n->-4096<=l j/\l j<=4096:=fun j hj=>z3S (hl j hj) zU
 have br:∀ j,j < n->-4096<=r j/\r j<=4096:=fun j hj=>z3S (hr j hj) zU
 have lw:∀ {x:Option Addr} {u:World},(∀ y,x=some y->0 < n->y.block < w.heap.size)->Below w.heap.size w u->(∀ y,x=some y->0 < n->y.block < u.heap.size):=fun h hu y hy h0=>zP (h y hy h0) hu.size
 have HL:=zZ (fun (u:World) (hu:Below w.heap.size w u)=>z2n a n c d l u hn1 hn hd1 zU hl (hI.below hu hlow) (lw hlow hu) (hT.below hu));have HR:=zZ (fun (u:World) (hu:Below w.heap.size w u)=>z2n b n c' d r u hn1 hn hd1 zU hr (hJ.below hu hlow2) (lw hlow2 hu) (hT.below hu));have HSO:=zZ (fun (u:World) (hu:Below w.heap.size w u)=>y2m a b n c c' l r u hn bl br (hI.below hu hlow) (hJ.below hu hlow2) (lw hlow hu) (lw hlow2 hu));have HMO:=zZ (fun (u:World) (hu:Below w.heap.size w u)=>z8V a b n c c' l r u hn bl br (hI.below hu hlow) (hJ.below hu hlow2) (lw hlow hu) (lw hlow2 hu));have HS:=zZ (fun (u:World) (hu:Below w.heap.size w u) (g:Nat) (hg:u.rowIs g 3 n (cutV n (z2q l r)))=>z2n (some ⟨g,0,none⟩) n n (d+1) (z2q l r) u hn1 hn zU zU (fun j hj=>z5Q hd1 (hl j hj) (hr j hj)) (z2L hg) (fun y hy _=>by cases hy;exact hg.lt) (hT.below hu));have HM:=zZ (fun (u:World) (hu:Below w.heap.size w u) (g:Nat) (hg:u.rowIs g 3 n (cutV n (midL l r)))=>z2n (some ⟨g,0,none⟩) n n d (midL l r) u hn1 hn hd1 zU (fun j hj=>y1q (hl j hj) (hr j hj)) (z2L hg) (fun y hy _=>by cases hy;exact hg.lt) (hT.below hu));clear hI hJ hlow hlow2 hT lw bl br hl hr;generalize bs (subT d l n)=XL at *;generalize bs (subT d r n)=XR at *;generalize bs (subT (d+1) (z2q l r) n)=XS at *;generalize bs (subT d (midL l r) n)=XM at *;have hb0:Below w.heap.size w (w.alloc (.cells #[.string ⟨#[]⟩,.string ⟨#[]⟩,.string ⟨#[]⟩,.string ⟨#[]⟩] 270)):=zX.alloc zY _;have HB0:=zZ hb0;clear hb0;have hk0:w.heap.size < (w.alloc (.cells #[.string ⟨#[]⟩,.string ⟨#[]⟩,.string ⟨#[]⟩,.string ⟨#[]⟩] 270)).heap.size/\(w.alloc (.cells #[.string ⟨#[]⟩,.string ⟨#[]⟩,.string ⟨#[]⟩,.string ⟨#[]⟩] 270)).heap[w.heap.size]?=some (.cells #[.string ⟨#[]⟩,.string ⟨#[]⟩,.string ⟨#[]⟩,.string ⟨#[]⟩] 270 (0,0)):=⟨by simp,blk_alloc_new _ _⟩;have HK0:=zZ hk0;clear hk0;have HW:=zZ (fun u=>z7J d u hd)
 go_enter func194,ntmps194
 go_wp2_with (first
  | (go_at_call 221;refine (HL.out _ ?_).mono ?_;exact HB0.out;rintro e u1 ⟨rfl,hb1⟩;have HK1:=zZ (z3a hb1 HK0.out);have HB1:=zZ (HB0.out.trans (hb1.mono HB0.out.size));clear hb1 HL HB0 HK0)
  | (go_at_call 221;refine (HR.out _ ?_).mono ?_;exact HB1.out;rintro e u2 ⟨rfl,hb2⟩;have HK2:=zZ (z3a hb2 HK1.out);have HB2:=zZ (HB1.out.trans (hb2.mono HB1.out.size));clear hb2 HR HB1 HK1)
  | (go_at_call 247;refine (HW.out _).mono ?_;rintro e w9 ⟨rfl,hw⟩;subst w9;clear HW)
  | (go_at_call 248;refine (HSO.out _ ?_).mono ?_;exact HB2.out;rintro e u3 ⟨rfl,hr3,hb3⟩;have HR3:=zZ hr3;have HK3:=zZ (z3a hb3 HK2.out);have HB3:=zZ (HB2.out.trans (hb3.mono HB2.out.size));clear hb3 hr3 HSO HB2 HK2)
  | (go_at_call 221;refine (HS.out _ ?_ _ ?_).mono ?_;exact HB3.out;exact HR3.out;rintro e u4 ⟨rfl,hb4⟩;have HK4:=zZ (z3a hb4 HK3.out);have HB4:=zZ (HB3.out.trans (hb4.mono HB3.out.size));clear hb4 HS HB3 HK3 HR3)
  | (go_at_call 249;refine (HMO.out _ ?_).mono ?_;exact HB4.out;rintro e u5 ⟨rfl,hr5,hb5⟩;have HR5:=zZ hr5;have HK5:=zZ (z3a hb5 HK4.out);have HB5:=zZ (HB4.out.trans (hb5.mono HB4.out.size));clear hb5 hr5 HMO HB4 HK4)
  | (go_at_call 221;refine (HM.out _ ?_ _ ?_).mono ?_;exact HB5.out;exact HR5.out;rintro e u6 ⟨rfl,hb6⟩;have hk6:=z3a hb6 HK5.out;have q0:=Lib.cell_of_heap hk6.2 0;have q1:=Lib.cell_of_heap hk6.2 1;have q2:=Lib.cell_of_heap hk6.2 2;have q3:=Lib.cell_of_heap hk6.2 3;have z0:=Lib.frozen_of_heap hk6.2 0;have z1:=Lib.frozen_of_heap hk6.2 1;have z2:=Lib.frozen_of_heap hk6.2 2;have z3:=Lib.frozen_of_heap hk6.2 3;simp at q0 q1 q2 q3;have HB6:=zZ (HB5.out.trans (hb6.mono HB5.out.size));clear hb6 HM HB5 HK5 HR5 hk6))
 have fc:=z6U q0 q1 q2 q3 (.string XL) (.string XR) (.string XS) (.string XM);refine bodyPost_ret (v:=.agg #[.string XL,.string XR,.string XS,.string XM]) (by simp [results,results194,go_sem,fc.1,fc.2.1,fc.2.2.1,fc.2.2.2]) rfl ?_;exact ⟨rfl,(((HB6.out.setCell zY _).setCell zY _).setCell zY _).setCell zY _⟩
def pxF (XL XR XS XM:ByteArray) (k:Nat):ByteArray:=if k=0 then XL ++ XR else if k=1 then XL ++ XS else if k=2 then XS ++ XR else XM ++ XS
theorem y6f (d:Nat) (l r:Nat->Int) (n k:Nat):bs (z2D d l r n k)=pxF (bs (subT d l n)) (bs (subT d r n)) (bs (subT (d+1) (z2q l r) n)) (bs (subT d (midL l r) n)) k:=by
 unfold z2D pxF;rw [z0f,z0f,z0f,z0f];split
 . rfl
 . split
   . rfl
   . split <;> rfl
theorem px0 (XL XR XS XM:ByteArray):pxF XL XR XS XM 0=XL ++ XR:=by unfold pxF;rw [if_pos rfl]
theorem px1 (XL XR XS XM:ByteArray):pxF XL XR XS XM 1=XL ++ XS:=by unfold pxF;rw [if_neg zR,if_pos rfl]
theorem px2 (XL XR XS XM:ByteArray):pxF XL XR XS XM 2=XS ++ XR:=by unfold pxF;rw [if_neg zR,if_neg zR,if_pos rfl]
theorem px3 (XL XR XS XM:ByteArray):pxF XL XR XS XM 3=XM ++ XS:=by unfold pxF;rw [if_neg zR,if_neg zR,if_neg zR]
def z2v (XL XR XS XM:ByteArray) (T:Nat->List UInt8) (m:Nat):ByteArray:=if m=0 then ⟨#[]⟩ else pxF XL XR XS XM (z1w T m)
def CodesAt (w:World) (g:Nat) (XL XR XS XM:ByteArray):Prop:=g < w.heap.size/\w.cell? ⟨g,0,none⟩=some (.string XL)/\w.cell? ⟨g,1,none⟩=some (.string XR)/\w.cell? ⟨g,2,none⟩=some (.string XS)/\w.cell? ⟨g,3,none⟩=some (.string XM)
theorem CodesAt.alloc {w:World} {g:Nat} {XL XR XS XM:ByteArray} (h:CodesAt w g XL XR XS XM) (o:Obj):CodesAt (w.alloc o) g XL XR XS XM:=by
 have hB:Below w.heap.size w (w.alloc o):=zX.alloc zY _;exact ⟨zP h.1 hB.size,(hB.cell (p:=⟨g,0,none⟩) h.1).trans h.2.1,(hB.cell (p:=⟨g,1,none⟩) h.1).trans h.2.2.1,(hB.cell (p:=⟨g,2,none⟩) h.1).trans h.2.2.2.1,(hB.cell (p:=⟨g,3,none⟩) h.1).trans h.2.2.2.2⟩
theorem z5W {T:Nat->List UInt8} {m:Nat} (h:m=0∨(T m).length < (T (z1w T m)).length):z1w T (m+1)=m:=by rw [z1w,if_pos h]
theorem y4m {T:Nat->List UInt8} {m:Nat} (h:¬ (m=0∨(T m).length < (T (z1w T m)).length)):z1w T (m+1)=z1w T m:=by rw [z1w,if_neg h]
theorem z2a {XL XR XS XM:ByteArray} {T:Nat->List UInt8} {m:Nat} (h:m ≠ 0):z2v XL XR XS XM T m=pxF XL XR XS XM (z1w T m):=by unfold z2v;rw [if_neg h]
theorem z5X {XL XR XS XM:ByteArray} {T:Nat->List UInt8} (h:∀ k,bs (T k)=pxF XL XR XS XM k) (k:Nat):(pxF XL XR XS XM k).size=(T k).length:=by rw [← h k,z0b]
theorem z5Y {XL XR XS XM P:ByteArray} {T:Nat->List UInt8} {m:Nat} (hm:m ≠ 0) (h:∀ k,bs (T k)=pxF XL XR XS XM k) (hp:pxF XL XR XS XM m=P) (hl:P.size < (z2v XL XR XS XM T m).size):z2v XL XR XS XM T (m+1)=P/\z1w T (m+1)=m:=by
 rw [z2a hm,z5X h,← hp,z5X h] at hl;have e:=z5W (T:=T) (m:=m) (.inr hl);exact ⟨by rw [z2a zU,e,hp],e⟩
theorem z5Z {XL XR XS XM P:ByteArray} {T:Nat->List UInt8} {m:Nat} (hm:m ≠ 0) (h:∀ k,bs (T k)=pxF XL XR XS XM k) (hp:pxF XL XR XS XM m=P) (hl:¬ P.size < (z2v XL XR XS XM T m).size):z2v XL XR XS XM T (m+1)=z2v XL XR XS XM T m/\z1w T (m+1)=z1w T m:=by
 rw [z2a hm,z5X h,← hp,z5X h] at hl;have e:=y4m (T:=T) (m:=m) (fun hh=>hh.elim hm hl);exact ⟨by rw [z2a zU,z2a hm,e],e⟩
theorem z7L {XL XR XS XM:ByteArray} {T:Nat->List UInt8} {m:Nat} (hm:m ≠ 0) (h:∀ k,bs (T k)=pxF XL XR XS XM k) (hb:∀ k,16<=(T k).length/\(T k).length<=848):(z2v XL XR XS XM T m).size<=848:=by
 rw [z2a hm,z5X h];exact (hb _).2
theorem y8K (u:World):(Instr.index 273 (.agg #[O I 0,O I 1,O I 0,O I 2,O I 2,O I 1,O I 3,O I 2]) (O I 0)).run prog u=.ok (.agg #[O I 0,O I 1]) u:=zT
theorem y7m (u:World):(Instr.index 273 (.agg #[O I 0,O I 1,O I 0,O I 2,O I 2,O I 1,O I 3,O I 2]) (O I 1)).run prog u=.ok (.agg #[O I 0,O I 2]) u:=zT
theorem y7n (u:World):(Instr.index 273 (.agg #[O I 0,O I 1,O I 0,O I 2,O I 2,O I 1,O I 3,O I 2]) (O I 2)).run prog u=.ok (.agg #[O I 2,O I 1]) u:=zT
theorem y7o (u:World):(Instr.index 273 (.agg #[O I 0,O I 1,O I 0,O I 2,O I 2,O I 1,O I 3,O I 2]) (O I 3)).run prog u=.ok (.agg #[O I 3,O I 2]) u:=zT
set_option maxRecDepth 8000 in
set_option maxHeartbeats 1000000 in
theorem z5h (d:Nat) (a:Option Addr) (n cap:Nat) (A:Nat->Option Addr) (N:Nat) (C:Nat->Nat) (F:Nat->Nat->Int) (w:World) (hd1:1<=d) (hd:d<=12) (hn1:1<=n) (hn4:n<=4) (hN1:1<=N) (hN:N<=32)
 (hf:∀ i,i < n->∀ j,j < N->z0A d (F i j)=true) (hA:ListsAt w a n A (fun _=>N) C) (hI:∀ i,i < n->IntsAt w (A i) N (F i)) (hlow:Low w.heap.size a n A (fun _=>N)) (hT:TabsF w) :
 Calls prog 123 #[O I d,.slice a n cap] w fun e w'=>e=.returned (.tuple #[O I (z1R d n F N),.string (bs (z0y d n F N))])/\Below w.heap.size w w':=by
 by_cases h2:n=2
 . subst h2
   have HCP:=zZ (fun (u:World) (hu:Below w.heap.size w u)=>z8W d (A 0) (A 1) N (C 0) (C 1) (F 0) (F 1) u hd1 hd hN1 hN (hf 0 zU) (hf 1 zU) ((hI 0 zU).below hu (hlow.2 0 zU)) ((hI 1 zU).below hu (hlow.2 1 zU)) (fun y hy h0=>zP (hlow.2 0 zU y hy h0) hu.size) (fun y hy h0=>zP (hlow.2 1 zU y hy h0) hu.size) (hT.below hu).tabs);have HTF:=zZ (fun (u:World) (hu:Below w.heap.size w u)=>hT.below hu);obtain ⟨b,off,rfl,hcell⟩:=hA.open zU;have hc0:=hcell 0 zU;have hc1:=hcell 1 zU;have hbl:b < w.heap.size:=hlow.1 _ rfl (by omega:0 < 2);simp only [Nat.add_zero] at hc0;have HCP2:=zZ (fun (u:World) (hu:Below w.heap.size w u)=>(HCP.out u hu).mono fun e w' h=>(⟨h.1,h.2,hu.trans (h.2.mono hu.size),((hu.trans (h.2.mono hu.size)).cell (p:=⟨b,off,none⟩) hbl).trans hc0,((hu.trans (h.2.mono hu.size)).cell (p:=⟨b,off+1,none⟩) hbl).trans hc1⟩ :
    e=.returned (.agg #[.string (bs (subT d (F 0) N)),.string (bs (subT d (F 1) N)),.string (bs (subT (d+1) (z2q (F 0) (F 1)) N)),.string (bs (subT d (midL (F 0) (F 1)) N))])/\Below u.heap.size u w'/\Below w.heap.size w w'/\w'.cell? ⟨b,off,none⟩=some (.slice (A 0) N (C 0))/\w'.cell? ⟨b,off+1,none⟩=some (.slice (A 1) N (C 1))))
   clear HCP;have p0:=hT.pairs 0 0 zU zU;have p1:=hT.pairs 0 1 zU zU;have p2:=hT.pairs 1 0 zU zU;have p3:=hT.pairs 1 1 zU zU;have p4:=hT.pairs 2 0 zU zU;have p5:=hT.pairs 2 1 zU zU;have p6:=hT.pairs 3 0 zU zU;have p7:=hT.pairs 3 1 zU zU;clear hf hA hI hlow hcell;have HK0:Hid (w.heap.size < (w.alloc (.cells #[.string ⟨#[]⟩,.string ⟨#[]⟩,.string ⟨#[]⟩,.string ⟨#[]⟩] 270)).drew.heap.size/\(w.alloc (.cells #[.string ⟨#[]⟩,.string ⟨#[]⟩,.string ⟨#[]⟩,.string ⟨#[]⟩] 270)).drew.heap[w.heap.size]?=some (.cells #[.string ⟨#[]⟩,.string ⟨#[]⟩,.string ⟨#[]⟩,.string ⟨#[]⟩] 270 (0,0))):=⟨by show w.heap.size < (w.alloc _).heap.size;simp,blk_alloc_new w _⟩;have hS0:w.drew.cell? ⟨b,off,none⟩=some (.slice (A 0) N (C 0))/\w.drew.cell? ⟨b,off+1,none⟩=some (.slice (A 1) N (C 1)):=⟨hc0,hc1⟩;have hSA:(w.alloc (.cells #[.string ⟨#[]⟩,.string ⟨#[]⟩,.string ⟨#[]⟩,.string ⟨#[]⟩] 270)).drew.cell? ⟨b,off,none⟩=some (.slice (A 0) N (C 0))/\(w.alloc (.cells #[.string ⟨#[]⟩,.string ⟨#[]⟩,.string ⟨#[]⟩,.string ⟨#[]⟩] 270)).drew.cell? ⟨b,off+1,none⟩=some (.slice (A 1) N (C 1)):=z7K (u:=w) hbl ⟨hc0,hc1⟩;have HPX:Hid (∀ k,bs (z2D d (F 0) (F 1) N k)=pxF (bs (subT d (F 0) N)) (bs (subT d (F 1) N)) (bs (subT (d+1) (z2q (F 0) (F 1)) N)) (bs (subT d (midL (F 0) (F 1)) N)) k):=fun k=>y6f d (F 0) (F 1) N k
   have HPL:Hid (∀ k,16<=(z2D d (F 0) (F 1) N k).length/\(z2D d (F 0) (F 1) N k).length<=848):=fun k=>z7E d (F 0) (F 1) N k hN1 hN hd
   have hmode:z1R d 2 F N=z1w (z2D d (F 0) (F 1) N) 4:=by unfold z1R;rw [if_pos rfl]
   have hblk:z0y d 2 F N=z2D d (F 0) (F 1) N (z1R d 2 F N):=by unfold z0y;rw [if_pos rfl]
   rw [hblk,hmode,HPX.out];clear hblk hmode;generalize z2D d (F 0) (F 1) N=TT at *;have zl:(bs (subT d (F 0) N)).size<=424:=by rw [z0b];exact z1t d (F 0) N hN1 hN zU
   have zr:(bs (subT d (F 1) N)).size<=424:=by rw [z0b];exact z1t d (F 1) N hN1 hN zU
   have zs:(bs (subT (d+1) (z2q (F 0) (F 1)) N)).size<=424:=by rw [z0b];exact z1t (d+1) _ N hN1 hN zU
   have zm:(bs (subT d (midL (F 0) (F 1)) N)).size<=424:=by rw [z0b];exact z1t d _ N hN1 hN zU
   generalize bs (subT d (F 0) N)=XL at *;generalize bs (subT d (F 1) N)=XR at *;generalize bs (subT (d+1) (z2q (F 0) (F 1)) N)=XS at *;generalize bs (subT d (midL (F 0) (F 1)) N)=XM at *
   go_enter func123,ntmps123
   go_wp2_with fail
   go_cut [6] (fun s6 wx=>∃ g:Nat,s6=.pointer (some ⟨g,0,none⟩)/\Hid (w.heap.size<=g/\g < wx.heap.size/\Below w.heap.size w wx/\wx.cell? ⟨g,0,none⟩=some (.string XL)/\wx.cell? ⟨g,1,none⟩=some (.string XR)/\wx.cell? ⟨g,2,none⟩=some (.string XS)/\wx.cell? ⟨g,3,none⟩=some (.string XM)))
   case first =>
    go_region_held3 (fun w'=>w'.cell? ⟨b,off,none⟩=some (.slice (A 0) N (C 0))/\w'.cell? ⟨b,off+1,none⟩=some (.slice (A 1) N (C 1)))
     (first | with_reducible exact hS0 | with_reducible exact hSA | with_reducible exact hS1 | with_reducible exact z7K (zP hbl HB1.size) hS1 | with_reducible exact y4k (Nat.ne_of_lt hbl) hS1 | with_reducible exact y4l (zP hbl HB1.size) hS1)
     (first
     | (go_at_call 194;refine (HCP2.out _ ?_).mono ?_;(first | exact zX.drew | exact (zX.alloc zY _).drew);rintro e u1 ⟨rfl,hb1,HB1,hS1⟩;(first | (guard_hyp hb1:Below (w.alloc (.cells #[.string ⟨#[]⟩,.string ⟨#[]⟩,.string ⟨#[]⟩,.string ⟨#[]⟩] 270)).drew.heap.size (w.alloc (.cells #[.string ⟨#[]⟩,.string ⟨#[]⟩,.string ⟨#[]⟩,.string ⟨#[]⟩] 270)).drew u1;have hk6:=z3a hb1 HK0.out;obtain ⟨q0,q1,q2,q3,z0,z1,z2,z3⟩:=y0a hk6.2;have HK6:=zZ hk6;clear hk6) | skip)))
    . go_wp2
      go_meet
      case rel=>exact ⟨u1.heap.size,rfl,HB1.size,by simp,HB1.alloc HB1.size _,by simp,by simp,by simp,by simp⟩
    . go_wp2
      go_meet
      case rel=>exact ⟨w.heap.size,rfl,Nat.le_refl _,by simp only [World.size_setCell];exact HK6.out.1,(((HB1.setCell (p:=⟨w.heap.size,0,none⟩) zY _).setCell (p:=⟨w.heap.size,1,none⟩) zY _).setCell (p:=⟨w.heap.size,2,none⟩) zY _).setCell (p:=⟨w.heap.size,3,none⟩) zY _,z6U q0 q1 q2 q3 _ _ _ _⟩
   case rest =>
    obtain ⟨g,rfl,HC⟩:=hcut;have HTW:=zZ (HTF.out wc HC.out.2.2.1);have e0:wc.cell? ⟨0,0,none⟩=some (O I 0):=HTW.out.pairs 0 0 zU zU;have e1:wc.cell? ⟨0,1,none⟩=some (O I 1):=HTW.out.pairs 0 1 zU zU;have e2:wc.cell? ⟨0,2,none⟩=some (O I 0):=HTW.out.pairs 1 0 zU zU;have e3:wc.cell? ⟨0,3,none⟩=some (O I 2):=HTW.out.pairs 1 1 zU zU;have e4:wc.cell? ⟨0,4,none⟩=some (O I 2):=HTW.out.pairs 2 0 zU zU;have e5:wc.cell? ⟨0,5,none⟩=some (O I 1):=HTW.out.pairs 2 1 zU zU;have e6:wc.cell? ⟨0,6,none⟩=some (O I 3):=HTW.out.pairs 3 0 zU zU;have e7:wc.cell? ⟨0,7,none⟩=some (O I 2):=HTW.out.pairs 3 1 zU zU;clear p0 p1 p2 p3 p4 p5 p6 p7 hS0 hSA HK0 HCP2;go_wp2
    go_loopw [7,8,27] (fun bv tv iv wr=>∃ m:Nat,m<=4/\iv=O I m/\bv=O I (z1w TT m:Nat)/\tv=.string (z2v XL XR XS XM TT m)/\Hid (Below w.heap.size w wr/\CodesAt wr g XL XR XS XM)) (fun _ _ iv _=>4 - (intOf iv).toNat)
    case atStart=>exact ⟨0,zU,rfl,rfl,rfl,HC.out.2.2.1,HC.out.2.1,HC.out.2.2.2⟩
    case round =>
     clear e0 e1 e2 e3 e4 e5 e6 e7 hc0 hc1;obtain ⟨m,hm,rfl,rfl,rfl,HR⟩:=hrel
     match m,hm with
     | 0,_ =>
      obtain ⟨cg,k0,k1,k2,k3⟩:=HR.out.2;have HB:=zZ HR.out.1;have HCA:=zZ HR.out.2;have HEX:Hid (z2v XL XR XS XM TT 1=XL ++ XR/\z1w TT 1=0):=⟨by rw [z2a zR,z5W (.inl rfl),px0],z5W (.inl rfl)⟩;generalize z2v XL XR XS XM TT 0=BX at *;generalize z1w TT 0=bm at *;have hix:=y8K;go_wp2
      go_quiet ((fail))
      go_wp2
      go_roundw
      case rel=>exact ⟨1,zU,zS,by rw [HEX.out.2],by rw [HEX.out.1],below_drewN (HB.out.alloc HB.out.size _) _,HCA.out.alloc _⟩
      case measure=>simp [intOf]
     | 1,_ =>
      obtain ⟨cg,k0,k1,k2,k3⟩:=HR.out.2;have HB:=zZ HR.out.1;have HCA:=zZ HR.out.2;have hsz:(XL ++ XS).size=XL.size+XS.size:=ByteArray.size_append;have hbx:=z7L (m:=1) zR HPX.out HPL.out
      by_cases hlt:(XL ++ XS).size < (z2v XL XR XS XM TT 1).size
      . have HEX:=zZ (z5Y (m:=1) zR HPX.out (px1 XL XR XS XM) hlt)
        generalize z2v XL XR XS XM TT 1=BX at *;generalize z1w TT 1=bm at *;have tds:decide (((XL ++ XS).size:Int) < (BX.size:Int))=true:=zL (Int.ofNat_lt.2 hlt);have tdt:decide ((XL.size:Int)+(XS.size:Int) < (BX.size:Int))=true:=zL zU;clear hsz;have hix:=y7m;clear hlt;go_wp2
        go_quiet ((fail))
        go_wp2
        go_roundw
        case rel=>exact ⟨1+1,zU,zS,by rw [HEX.out.2],by rw [HEX.out.1],below_drewN (HB.out.alloc HB.out.size _) _,HCA.out.alloc _⟩
        case measure=>simp [intOf]
      . have HEX:=zZ (z5Z (m:=1) zR HPX.out (px1 XL XR XS XM) hlt)
        generalize z2v XL XR XS XM TT 1=BX at *;generalize z1w TT 1=bm at *;have tds:decide (((XL ++ XS).size:Int) < (BX.size:Int))=false:=zM (fun hh=>hlt (Int.ofNat_lt.1 hh));have tdt:decide ((XL.size:Int)+(XS.size:Int) < (BX.size:Int))=false:=zM zU;clear hsz;have hix:=y7m;clear hlt;go_wp2
        go_quiet ((fail))
        go_wp2
        go_roundw
        case rel=>exact ⟨1+1,zU,zS,by rw [HEX.out.2],by rw [HEX.out.1],below_drewN (HB.out.alloc HB.out.size _) _,HCA.out.alloc _⟩
        case measure=>simp [intOf]
     | 2,_ =>
      obtain ⟨cg,k0,k1,k2,k3⟩:=HR.out.2;have HB:=zZ HR.out.1;have HCA:=zZ HR.out.2;have hsz:(XS ++ XR).size=XS.size+XR.size:=ByteArray.size_append;have hbx:=z7L (m:=2) zR HPX.out HPL.out
      by_cases hlt:(XS ++ XR).size < (z2v XL XR XS XM TT 2).size
      . have HEX:=zZ (z5Y (m:=2) zR HPX.out (px2 XL XR XS XM) hlt)
        generalize z2v XL XR XS XM TT 2=BX at *;generalize z1w TT 2=bm at *;have tds:decide (((XS ++ XR).size:Int) < (BX.size:Int))=true:=zL (Int.ofNat_lt.2 hlt);have tdt:decide ((XS.size:Int)+(XR.size:Int) < (BX.size:Int))=true:=zL zU;clear hsz;have hix:=y7n;clear hlt;go_wp2
        go_quiet ((fail))
        go_wp2
        go_roundw
        case rel=>exact ⟨2+1,zU,zS,by rw [HEX.out.2],by rw [HEX.out.1],below_drewN (HB.out.alloc HB.out.size _) _,HCA.out.alloc _⟩
        case measure=>simp [intOf]
      . have HEX:=zZ (z5Z (m:=2) zR HPX.out (px2 XL XR XS XM) hlt)
        generalize z2v XL XR XS XM TT 2=BX at *;generalize z1w TT 2=bm at *;have tds:decide (((XS ++ XR).size:Int) < (BX.size:Int))=false:=zM (fun hh=>hlt (Int.ofNat_lt.1 hh));have tdt:decide ((XS.size:Int)+(XR.size:Int) < (BX.size:Int))=false:=zM zU;clear hsz;have hix:=y7n;clear hlt;go_wp2
        go_quiet ((fail))
        go_wp2
        go_roundw
        case rel=>exact ⟨2+1,zU,zS,by rw [HEX.out.2],by rw [HEX.out.1],below_drewN (HB.out.alloc HB.out.size _) _,HCA.out.alloc _⟩
        case measure=>simp [intOf]
     | 3,_ =>
      obtain ⟨cg,k0,k1,k2,k3⟩:=HR.out.2;have HB:=zZ HR.out.1;have HCA:=zZ HR.out.2;have hsz:(XM ++ XS).size=XM.size+XS.size:=ByteArray.size_append;have hbx:=z7L (m:=3) zR HPX.out HPL.out
      by_cases hlt:(XM ++ XS).size < (z2v XL XR XS XM TT 3).size
      . have HEX:=zZ (z5Y (m:=3) zR HPX.out (px3 XL XR XS XM) hlt)
        generalize z2v XL XR XS XM TT 3=BX at *;generalize z1w TT 3=bm at *;have tds:decide (((XM ++ XS).size:Int) < (BX.size:Int))=true:=zL (Int.ofNat_lt.2 hlt);have tdt:decide ((XM.size:Int)+(XS.size:Int) < (BX.size:Int))=true:=zL zU;clear hsz;have hix:=y7o;clear hlt;go_wp2
        go_quiet ((fail))
        go_wp2
        go_roundw
        case rel=>exact ⟨3+1,zU,zS,by rw [HEX.out.2],by rw [HEX.out.1],below_drewN (HB.out.alloc HB.out.size _) _,HCA.out.alloc _⟩
        case measure=>simp [intOf]
      . have HEX:=zZ (z5Z (m:=3) zR HPX.out (px3 XL XR XS XM) hlt)
        generalize z2v XL XR XS XM TT 3=BX at *;generalize z1w TT 3=bm at *;have tds:decide (((XM ++ XS).size:Int) < (BX.size:Int))=false:=zM (fun hh=>hlt (Int.ofNat_lt.1 hh));have tdt:decide ((XM.size:Int)+(XS.size:Int) < (BX.size:Int))=false:=zM zU;clear hsz;have hix:=y7o;clear hlt;go_wp2
        go_quiet ((fail))
        go_wp2
        go_roundw
        case rel=>exact ⟨3+1,zU,zS,by rw [HEX.out.2],by rw [HEX.out.1],below_drewN (HB.out.alloc HB.out.size _) _,HCA.out.alloc _⟩
        case measure=>simp [intOf]
     | 4,_ =>
      have HEX:Hid (z2v XL XR XS XM TT 4=pxF XL XR XS XM (z1w TT 4)):=z2a zR;go_wp2;go_ret2;refine ⟨?_,HR.out.1⟩
      show Ending.returned (.tuple #[O I (z1w TT 4:Nat),.string (z2v XL XR XS XM TT 4)])=_
      rw [HEX.out]
 . have e1:z1R d n F N=0:=by unfold z1R;rw [if_neg h2]
   have e2:z0y d n F N=allT d F N n:=by unfold z0y;rw [if_neg h2]
   have HCA:=zZ (z9Z d a n cap A N C F w hd1 hd hn1 hn4 hN1 hN hf hA hI hlow hT.tabs);rw [e1,e2];have hne:((n:Int) != 2)=true:=by simp;omega
   clear hf hA hI hlow hT e1 e2 h2;generalize bs (allT d F N n)=R at *
   go_enter func123,ntmps123
   go_wp2_with (go_at_call 193;refine HCA.out.mono ?_;rintro e u1 ⟨rfl,hb1⟩;have HB1:=zZ hb1;clear hb1 HCA)
   go_ret2;exact ⟨rfl,HB1.out⟩
def l1 (l r:Nat->Int) (m:Nat):Nat->Int:=if m<=1 then l else if m=2 then z2q l r else midL l r
def l2 (l r:Nat->Int) (m:Nat):Nat->Int:=if m=0∨m=2 then r else z2q l r
def w1 (d m:Nat):Nat:=if m=2 then d+1 else d
def w2 (d m:Nat):Nat:=if m=0∨m=2 then d else d+1
theorem y6g (d:Nat) (l r:Nat->Int) (n m:Nat) (hm:m < 4):z2D d l r n m=subT (w1 d m) (l1 l r m) n ++ subT (w2 d m) (l2 l r m) n:=by
 match m,hm with
 | 0,_=>rfl
 | 1,_=>rfl
 | 2,_=>rfl
 | 3,_=>rfl
theorem y7M {d:Nat} {l r:Nat->Int} {n:Nat} (hd:1<=d) (m:Nat) (hl:∀ j,j < n->z0A d (l j)=true) (hr:∀ j,j < n->z0A d (r j)=true):∀ j,j < n->z0A (w1 d m) (l1 l r m j)=true:=fun j hj=>by
 unfold w1 l1
 by_cases h1:m<=1
 . rw [if_pos h1,if_neg zU];exact hl j hj
 . rw [if_neg h1]
   by_cases h2:m=2
   . rw [if_pos h2,if_pos h2];exact z5Q hd (hl j hj) (hr j hj)
   . rw [if_neg h2,if_neg h2];exact y1q (hl j hj) (hr j hj)
theorem y7N {d:Nat} {l r:Nat->Int} {n:Nat} (hd:1<=d) (m:Nat) (hl:∀ j,j < n->z0A d (l j)=true) (hr:∀ j,j < n->z0A d (r j)=true):∀ j,j < n->z0A (w2 d m) (l2 l r m j)=true:=fun j hj=>by
 unfold w2 l2
 by_cases h1:m=0∨m=2
 . rw [if_pos h1,if_pos h1];exact hr j hj
 . rw [if_neg h1,if_neg h1];exact z5Q hd (hl j hj) (hr j hj)
theorem y9E (d m:Nat) (hd1:1<=d) (hd:d<=12):1<=w1 d m/\w1 d m<=13:=by unfold w1;split <;> omega
theorem y9F (d m:Nat) (hd1:1<=d) (hd:d<=12):1<=w2 d m/\w2 d m<=13:=by unfold w2;split <;> omega
structure y8L (e:Ending) (w w':World) (n m:Nat) (l r:Nat->Int):Prop where
 out:∃ x y:Option Addr,∃ c c':Nat,e=.returned (.tuple #[.slice x n c,.slice y n c'])/\IntsAt w' x n (l1 l r m)/\IntsAt w' y n (l2 l r m) /\
  (∀ z,x=some z->0 < n->z.block < w'.heap.size)/\(∀ z,y=some z->0 < n->z.block < w'.heap.size)
 below:Below w.heap.size w w'
theorem y2n (d m:Nat) (w:World) (hd:d<=12) (hm:m < 4):Calls prog 289 #[O I d,O I m,O I 0] w fun e w'=>e=.returned (O I (w1 d m))/\w'=w:=by
 match m,hm with
 | 0,_=>go_enter func289,ntmps289;go_wp2;go_ret;exact ⟨rfl,rfl⟩
 | 1,_=>go_enter func289,ntmps289;go_wp2;go_ret;exact ⟨rfl,rfl⟩
 | 2,_=>go_enter func289,ntmps289;go_wp2;go_ret;exact ⟨rfl,rfl⟩
 | 3,_=>go_enter func289,ntmps289;go_wp2;go_ret;exact ⟨rfl,rfl⟩
theorem y2o (d m:Nat) (w:World) (hd:d<=12) (hm:m < 4):Calls prog 289 #[O I d,O I m,O I 1] w fun e w'=>e=.returned (O I (w2 d m))/\w'=w:=by
 match m,hm with
 | 0,_=>go_enter func289,ntmps289;go_wp2;go_ret;exact ⟨rfl,rfl⟩
 | 1,_=>go_enter func289,ntmps289;go_wp2;go_ret;exact ⟨rfl,rfl⟩
 | 2,_=>go_enter func289,ntmps289;go_wp2;go_ret;exact ⟨rfl,rfl⟩
 | 3,_=>go_enter func289,ntmps289;go_wp2;go_ret;exact ⟨rfl,rfl⟩
theorem y9G (a:Int):(a.tmod 2 < 0->a.tdiv 2=a / 2+1)/\(¬ a.tmod 2 < 0->a.tdiv 2=a / 2):=by
 have h0:=Int.mul_tdiv_add_tmod a 2;have h1:=Int.tmod_lt_of_pos a (show (0:Int) < 2 by decide);have h2:-2 < a.tmod 2:=by have:=Int.lt_tmod_of_pos a (show (0:Int) < 2 by decide);omega
 omega
theorem y4n (a:Int) (w:World) (h:-2000000<=a/\a<=2000000) :
 Calls prog 314 #[O I a,O I 2] w fun e w'=>e=.returned (O I (a / 2))/\w'=w:=by
 have ht:=y9G a
 by_cases hm:a.tmod 2 < 0
 . have hd:decide (a.tmod 2 < 0)=true:=zL hm
   have he:a.tdiv 2=a / 2+1:=ht.1 hm;clear ht
   go_enter func314,ntmps314
   go_wp2;go_ret;exact ⟨z0q rfl,rfl⟩
 . have hd:decide (a.tmod 2 < 0)=false:=zM hm
   have he:a.tdiv 2=a / 2:=ht.2 hm;clear ht
   go_enter func314,ntmps314
   go_wp2;go_ret;exact ⟨z0q rfl,rfl⟩
theorem y2p (w:World) (n:Nat) (l r:Nat->Int) :
 ((w.alloc (.cells (madeCells #[O I 0] n) 3)).alloc (.cells (madeCells #[O I 0] n) 3)).rowIs w.heap.size 3 n (cutV 0 (z2q l r))/\((w.alloc (.cells (madeCells #[O I 0] n) 3)).alloc (.cells (madeCells #[O I 0] n) 3)).rowIs (w.heap.size+1) 3 n (cutV 0 (midL l r))/\Below w.heap.size w ((w.alloc (.cells (madeCells #[O I 0] n) 3)).alloc (.cells (madeCells #[O I 0] n) 3)):=by
 refine ⟨(((World.rowIs_made w (O I 0) n 3).alloc _).congr fun i _=>by simp [cutV,cutI]),?_,(zX.alloc zY _).alloc (by simp) _⟩;have:=World.rowIs_made (w.alloc (.cells (madeCells #[O I 0] n) 3)) (O I 0) n 3;rw [World.size_alloc] at this;exact this.congr fun i _=>by simp [cutV,cutI]
theorem z6a {w wr:World} {n j:Nat} {l r:Nat->Int} (h:wr.rowIs w.heap.size 3 n (cutV j (z2q l r))/\wr.rowIs (w.heap.size+1) 3 n (cutV j (midL l r))/\Below w.heap.size w wr) :
 ((wr.setCell ⟨w.heap.size,j,none⟩ (O I (l j - r j))).setCell ⟨w.heap.size+1,j,none⟩ (O I ((l j+r j) / 2))).rowIs w.heap.size 3 n (cutV (j+1) (z2q l r)) /\
 ((wr.setCell ⟨w.heap.size,j,none⟩ (O I (l j - r j))).setCell ⟨w.heap.size+1,j,none⟩ (O I ((l j+r j) / 2))).rowIs (w.heap.size+1) 3 n (cutV (j+1) (midL l r)) /\
 Below w.heap.size w ((wr.setCell ⟨w.heap.size,j,none⟩ (O I (l j - r j))).setCell ⟨w.heap.size+1,j,none⟩ (O I ((l j+r j) / 2))):=by
 refine ⟨?_,?_,(h.2.2.setCell (p:=⟨w.heap.size,j,none⟩) zY _).setCell (p:=⟨w.heap.size+1,j,none⟩) (Nat.le_succ _) _⟩
 . exact (z2F rfl (h.1.set j _)).of_block (blk_setCell_other _ _ _ _ (by show w.heap.size ≠ w.heap.size+1;omega))
 . exact z2F rfl ((h.2.1.of_block (blk_setCell_other _ _ _ _ (by show w.heap.size+1 ≠ w.heap.size;omega))).set j _)
set_option maxHeartbeats 1000000 in
theorem y6h (m:Nat) (a b:Option Addr) (n c c':Nat) (l r:Nat->Int) (w:World) (hm:m < 4) (hn:n<=32) (hbl:∀ j,j < n->-4096<=l j/\l j<=4096) (hbr:∀ j,j < n->-4096<=r j/\r j<=4096) (hI:IntsAt w a n l) (hJ:IntsAt w b n r)
 (hlow:∀ y,a=some y->0 < n->y.block < w.heap.size) (hlow2:∀ y,b=some y->0 < n->y.block < w.heap.size) :
 Calls prog 288 #[O I m,.slice a n c,.slice b n c'] w fun e w'=>y8L e w w' n m l r:=by
 have hmk:=run_make_row' (P:=prog) 30 3 (O I 0) 8 underlying30 z1g rfl .i64 .i64 n zU zU;have HI:=zZ (fun u (h:Below w.heap.size w u)=>hI.belowB h hlow);have HJ:=zZ (fun u (h:Below w.heap.size w u)=>hJ.belowB h hlow2);have HBL:=zZ hbl;have HBR:=zZ hbr;have HST:=zZ (y2p w n l r);have HLO:=zZ (And.intro hlow hlow2);clear hI hlow hJ hlow2 hbl hbr
 go_enter func288,ntmps288
 go_wp2;clear hmk
 go_loopw [10] (fun i wr=>∃ j:Nat,j<=n/\i=O I j/\Hid (wr.rowIs w.heap.size 3 n (cutV j (z2q l r))/\wr.rowIs (w.heap.size+1) 3 n (cutV j (midL l r))/\Below w.heap.size w wr)) (fun i _=>n - (intOf i).toNat)
 case atStart=>exact ⟨0,zJ _,rfl,HST.out⟩
 case round =>
  obtain ⟨j,hj,rfl,HR⟩:=hrel
  by_cases hlt:j < n
  . obtain ⟨bb,off,hx,hc⟩:=(HI.out wr HR.out.2.2).open zU
    obtain ⟨bb2,off2,hx2,hc2⟩:=(HJ.out wr HR.out.2.2).open zU;have hcj:=hc j hlt;have hcj2:=hc2 j hlt;have hn1:bb < w.heap.size:=HLO.out.1 _ hx zU;have hn2:bb2 < w.heap.size:=HLO.out.2 _ hx2 zU;have hcs:=HR.out.1.cell hlt;have hfs:=HR.out.1.frozen j;have hcm:=HR.out.2.1.cell hlt;have hfm:=HR.out.2.1.frozen j;unfold cutV at hcs hcm;have b1:=HBL.out j hlt;have b2:=HBR.out j hlt;have wf:I.wrap (l j - r j)=l j - r j:=by rw [zK];omega
    have wf2:I.wrap (l j+r j)=l j+r j:=by rw [zK];omega
    have HD:=zZ (fun u=>y4n (l j+r j) u zU);clear hc hc2;subst hx hx2;go_wp2
    go_region
    all_goals go_wp2
    go_region_with (go_at_call 314;refine (HD.out _).mono ?_;rintro e w5 ⟨rfl,hw⟩;subst w5)
    all_goals go_wp2
    all_goals
     (
      go_roundw
      case rel=>exact ⟨j+1,zU,zS,(z6a HR.out).1,(z6a HR.out).2.1,(z6a HR.out).2.2.drew.drew⟩
      case measure=>simp [intOf];omega)
  . have e:j=n:=zU
    subst e;have HL1:=zZ (HI.out wr HR.out.2.2);have HL2:=zZ (HJ.out wr HR.out.2.2);have HZ1:Hid (∀ z,a=some z->0 < j->z.block < wr.heap.size):=fun z hz h0=>zP (HLO.out.1 z hz h0) HR.out.2.2.size
    have HZ2:Hid (∀ z,b=some z->0 < j->z.block < wr.heap.size):=fun z hz h0=>zP (HLO.out.2 z hz h0) HR.out.2.2.size
    have HZ3:Hid (∀ z,some (⟨w.heap.size,0,none⟩:Addr)=some z->0 < j->z.block < wr.heap.size):=fun z hz _=>by cases hz;exact HR.out.1.lt
    have HZ4:Hid (∀ z,some (⟨w.heap.size+1,0,none⟩:Addr)=some z->0 < j->z.block < wr.heap.size):=fun z hz _=>by cases hz;exact HR.out.2.1.lt
    rcases (show m=0∨m=1∨m=2∨m=3 by omega) with e | e | e | e <;> subst e
    . go_wp2
      go_ret2;exact ⟨⟨a,b,c,c',rfl,HL1.out,HL2.out,HZ1.out,HZ2.out⟩,HR.out.2.2⟩
    . go_wp2
      go_ret2;exact ⟨⟨a,_,c,_,rfl,HL1.out,z2L HR.out.1,HZ1.out,HZ3.out⟩,HR.out.2.2⟩
    . go_wp2
      go_ret2;exact ⟨⟨_,b,_,c',rfl,z2L HR.out.1,HL2.out,HZ3.out,HZ2.out⟩,HR.out.2.2⟩
    . go_wp2
      go_ret2;exact ⟨⟨_,_,_,_,rfl,z2L HR.out.2.1,z2L HR.out.1,HZ4.out,HZ3.out⟩,HR.out.2.2⟩
end Go.Proofs.YtlncjgnomhpjnabGreatDoor
