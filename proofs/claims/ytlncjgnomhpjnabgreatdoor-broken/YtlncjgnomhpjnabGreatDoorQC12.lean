import Derived.Test.YtlncjgnomhpjnabGreatDoorQC11
import Derived.Test.YtlncjgnomhpjnabGreatDoorQC9
import Derived.Test.YtlncjgnomhpjnabGreatDoorQC2
import Derived.Test.YtlncjgnomhpjnabGreatDoorQC10
import Derived.Test.YtlncjgnomhpjnabGreatDoorQC0
namespace Go.Proofs.YtlncjgnomhpjnabGreatDoor
open Go.Value renaming int → O
open Go.IntKind renaming i64 → I
open Go.Proofs.Tryz (prog)
open Go.RowKit Go.Deep
set_option linter.unusedVariables false
theorem bcell {W w1:World} (hb:Below W.heap.size W w1):(∀ b o,b < W.heap.size->w1.cell? ⟨b,o,none⟩=W.cell? ⟨b,o,none⟩)/\(∀ b o,b < W.heap.size->w1.frozen? ⟨b,o,none⟩=W.frozen? ⟨b,o,none⟩) :=
 ⟨fun b o h=>hb.cell (p:=⟨b,o,none⟩) h,fun b o h=>hb.frozen (p:=⟨b,o,none⟩) h⟩
def z1I (c0 c1 c2 c3 c4 c5 c6 c7:Int):Bool :=
 z0s c0 1 4 && (z0s c1 4 12 && (z0s c2 1 32 && (z0s c3 0 65535 && (z0s c4 0 255 && (z0s c5 1 8 && (z0s c6 1 16 && z0s c7 1 8))))))
def infoB (c0 c1 c2 c3 c4 s:Int):Bool :=
 z0s c0 1 4 && (z0s c1 4 12 && (z0s c2 1 32 && (z0s c3 0 65535 && (z0s c4 0 255 && z0s s 0 300))))
set_option maxHeartbeats 1000000 in
theorem z1Z (c0 c1 c2 c3 c4 c5 c6 c7 s:Int) (w:World) :
 Calls prog 61 #[.agg #[O I c0,O I c1,O I c2,O I c3,O I c4,O I c5,O I c6,O I c7],O I s] w fun e w' =>
  e=.returned (.agg #[O I c0,O I c1,O I c2,O I c3,O I c4,O I s])/\Below w.heap.size w w':=by
 go_enter Tryz.func61,Tryz.ntmps61
 go_wp2;exact bodyPost_ret (v:=.agg #[O I c0,O I c1,O I c2,O I c3,O I c4,O I s]) (by simp [results,Tryz.results61,go_sem]) rfl ⟨rfl,(zX.alloc zY _).alloc (by simp) _⟩
set_option maxHeartbeats 1000000 in
theorem z3V (c0 c1 c2 c3 c4 s:Int) (w:World) :
 Calls prog 121 #[.agg #[O I c0,O I c1,O I c2,O I c3,O I c4,O I s]] w fun e w' =>
  e=.returned (.bool (infoB c0 c1 c2 c3 c4 s))/\Below w.heap.size w w':=by
 have fin:∀ o,Below w.heap.size w (w.alloc o):=fun o=>zX.alloc zY _
 cases h0:z0s c0 1 4
 . go_enter Tryz.func121,Tryz.ntmps121
   go_wp2_with (go_at_call 70;refine (z0A _ _ _ _).mono ?_;rintro e w' ⟨rfl,rfl⟩)
   go_ret;exact ⟨z0T (by simp [infoB,h0]),fin _⟩
 cases h1:z0s c1 4 12
 . go_enter Tryz.func121,Tryz.ntmps121
   go_wp2_with (go_at_call 70;refine (z0A _ _ _ _).mono ?_;rintro e w' ⟨rfl,rfl⟩)
   go_ret;exact ⟨z0T (by simp [infoB,h0,h1]),fin _⟩
 cases h2:z0s c2 1 32
 . go_enter Tryz.func121,Tryz.ntmps121
   go_wp2_with (go_at_call 70;refine (z0A _ _ _ _).mono ?_;rintro e w' ⟨rfl,rfl⟩)
   go_ret;exact ⟨z0T (by simp [infoB,h0,h1,h2]),fin _⟩
 cases h3:z0s c3 0 65535
 . go_enter Tryz.func121,Tryz.ntmps121
   go_wp2_with (go_at_call 70;refine (z0A _ _ _ _).mono ?_;rintro e w' ⟨rfl,rfl⟩)
   go_ret;exact ⟨z0T (by simp [infoB,h0,h1,h2,h3]),fin _⟩
 cases h4:z0s c4 0 255
 . go_enter Tryz.func121,Tryz.ntmps121
   go_wp2_with (go_at_call 70;refine (z0A _ _ _ _).mono ?_;rintro e w' ⟨rfl,rfl⟩)
   go_ret;exact ⟨z0T (by simp [infoB,h0,h1,h2,h3,h4]),fin _⟩
 go_enter Tryz.func121,Tryz.ntmps121
 go_wp2_with (go_at_call 70;refine (z0A _ _ _ _).mono ?_;rintro e w' ⟨rfl,rfl⟩)
 go_ret;exact ⟨z0T (by simp [infoB,h0,h1,h2,h3,h4]),fin _⟩
theorem z5I (c0 c1 c2 c3 c4 c5 c6 c7:Int):z1I c0 c1 c2 c3 c4 c5 c6 c7=(infoB c0 c1 c2 c3 c4 0 && (z0s c5 1 8 && (z0s c6 1 16 && z0s c7 1 8))):=by
 simp only [z1I,infoB,Bool.and_assoc];have:z0s 0 0 300=true:=by decide
 rw [this];simp
set_option maxHeartbeats 1000000 in
theorem z2X (c0 c1 c2 c3 c4 c5 c6 c7:Int) (w:World) :
 Calls prog 59 #[.agg #[O I c0,O I c1,O I c2,O I c3,O I c4,O I c5,O I c6,O I c7]] w fun e w' =>
  e=.returned (.bool (z1I c0 c1 c2 c3 c4 c5 c6 c7))/\Below w.heap.size w w':=by
 rw [z5I];have hb:Below w.heap.size w (w.alloc (.cells #[O I c0,O I c1,O I c2,O I c3,O I c4,O I c5,O I c6,O I c7] 23)):=zX.alloc zY _;have HB:=zZ hb;clear hb;have HR:=zZ (fun u=>z3V c0 c1 c2 c3 c4 0 u);cases h0:infoB c0 c1 c2 c3 c4 0
 . rw [h0] at HR
   go_enter Tryz.func59,Tryz.ntmps59
   go_wp2_with (first
    | (go_at_call 61;refine (z1Z _ _ _ _ _ _ _ _ _ _).mono ?_;rintro e w1 ⟨rfl,hb1⟩;obtain ⟨hcl1,hfr1⟩:=bcell hb1;have HB1:=zZ (HB.out.trans (hb1.mono (by simp)));have hs1:w.heap.size < w1.heap.size:=by {have:=hb1.size;simp at this;omega};clear hb1 HB hfr1)
    | (go_at_call 121;refine (HR.out _).mono ?_;rintro e w2 ⟨rfl,hb2⟩;obtain ⟨hcl2,hfr2⟩:=bcell hb2;have HB2:=zZ (HB1.out.trans (hb2.mono HB1.out.size));have hs2:w.heap.size < w2.heap.size:=Nat.lt_of_lt_of_le hs1 hb2.size;clear hb2 hfr2)
    | (go_at_call 70;refine (z0A _ _ _ _).mono ?_;rintro e w' ⟨rfl,rfl⟩))
   go_ret;exact ⟨z0T (by simp),HB2.out⟩
 rw [h0] at HR;cases h1:z0s c5 1 8
 . go_enter Tryz.func59,Tryz.ntmps59
   go_wp2_with (first
    | (go_at_call 61;refine (z1Z _ _ _ _ _ _ _ _ _ _).mono ?_;rintro e w1 ⟨rfl,hb1⟩;obtain ⟨hcl1,hfr1⟩:=bcell hb1;have HB1:=zZ (HB.out.trans (hb1.mono (by simp)));have hs1:w.heap.size < w1.heap.size:=by {have:=hb1.size;simp at this;omega};clear hb1 HB hfr1)
    | (go_at_call 121;refine (HR.out _).mono ?_;rintro e w2 ⟨rfl,hb2⟩;obtain ⟨hcl2,hfr2⟩:=bcell hb2;have HB2:=zZ (HB1.out.trans (hb2.mono HB1.out.size));have hs2:w.heap.size < w2.heap.size:=Nat.lt_of_lt_of_le hs1 hb2.size;clear hb2 hfr2)
    | (go_at_call 70;refine (z0A _ _ _ _).mono ?_;rintro e w' ⟨rfl,rfl⟩))
   go_ret;exact ⟨z0T (by simp),HB2.out⟩
 cases h2:z0s c6 1 16
 . go_enter Tryz.func59,Tryz.ntmps59
   go_wp2_with (first
    | (go_at_call 61;refine (z1Z _ _ _ _ _ _ _ _ _ _).mono ?_;rintro e w1 ⟨rfl,hb1⟩;obtain ⟨hcl1,hfr1⟩:=bcell hb1;have HB1:=zZ (HB.out.trans (hb1.mono (by simp)));have hs1:w.heap.size < w1.heap.size:=by {have:=hb1.size;simp at this;omega};clear hb1 HB hfr1)
    | (go_at_call 121;refine (HR.out _).mono ?_;rintro e w2 ⟨rfl,hb2⟩;obtain ⟨hcl2,hfr2⟩:=bcell hb2;have HB2:=zZ (HB1.out.trans (hb2.mono HB1.out.size));have hs2:w.heap.size < w2.heap.size:=Nat.lt_of_lt_of_le hs1 hb2.size;clear hb2 hfr2)
    | (go_at_call 70;refine (z0A _ _ _ _).mono ?_;rintro e w' ⟨rfl,rfl⟩))
   go_ret;exact ⟨z0T (by simp),HB2.out⟩
 go_enter Tryz.func59,Tryz.ntmps59
 go_wp2_with (first
  | (go_at_call 61;refine (z1Z _ _ _ _ _ _ _ _ _ _).mono ?_;rintro e w1 ⟨rfl,hb1⟩;obtain ⟨hcl1,hfr1⟩:=bcell hb1;have HB1:=zZ (HB.out.trans (hb1.mono (by simp)));have hs1:w.heap.size < w1.heap.size:=by {have:=hb1.size;simp at this;omega};clear hb1 HB hfr1)
  | (go_at_call 121;refine (HR.out _).mono ?_;rintro e w2 ⟨rfl,hb2⟩;obtain ⟨hcl2,hfr2⟩:=bcell hb2;have HB2:=zZ (HB1.out.trans (hb2.mono HB1.out.size));have hs2:w.heap.size < w2.heap.size:=Nat.lt_of_lt_of_le hs1 hb2.size;clear hb2 hfr2)
  | (go_at_call 70;refine (z0A _ _ _ _).mono ?_;rintro e w' ⟨rfl,rfl⟩))
 go_ret;exact ⟨z0T (by simp),HB2.out⟩
def ListsAt (w:World) (a:Option Addr) (n:Nat) (A:Nat->Option Addr) (L C:Nat->Nat):Prop:=∀ i,i < n->∃ x,a=some x/\w.cell? (x.add i)=some (.slice (A i) (L i) (C i))
theorem ListsAt.open {w:World} {a:Option Addr} {n:Nat} {A:Nat->Option Addr} {L C:Nat->Nat} (h:ListsAt w a n A L C) (hn:0 < n) :
 ∃ b off,a=some ⟨b,off,none⟩/\∀ i,i < n->w.cell? ⟨b,off+i,none⟩=some (.slice (A i) (L i) (C i)):=by
 obtain ⟨⟨b,off,sp⟩,rfl,hc⟩:=h 0 hn;have hs:sp=none:=by simpa [Addr.add] using World.cell?_spot hc
 subst hs;refine ⟨b,off,rfl,fun i hi=>?_⟩;obtain ⟨x,hx,hc⟩:=h i hi;cases hx;rw [← hc];cases i <;> simp [Addr.add]
def Low (B:Nat) (a:Option Addr) (n:Nat) (A:Nat->Option Addr) (L:Nat->Nat):Prop:=(∀ x,a=some x->0 < n->x.block < B)/\∀ i,i < n->∀ x,A i=some x->0 < L i->x.block < B
theorem IntsAt.below {w w':World} {B:Nat} {a:Option Addr} {n:Nat} {f:Nat->Int} (h:IntsAt w a n f) (hb:Below B w w') (hl:∀ x,a=some x->0 < n->x.block < B):IntsAt w' a n f:=fun i hi=>by
 obtain ⟨x,hx,hc⟩:=h i hi;refine ⟨x,hx,?_⟩;rw [hb.cell (by have:=hl x hx (by omega);cases i <;> simpa [Addr.add] using this),hc]
theorem ListsAt.below {w w':World} {B:Nat} {a:Option Addr} {n:Nat} {A:Nat->Option Addr} {L C:Nat->Nat} (h:ListsAt w a n A L C) (hb:Below B w w') (hl:∀ x,a=some x->0 < n->x.block < B):ListsAt w' a n A L C:=fun i hi=>by
 obtain ⟨x,hx,hc⟩:=h i hi;refine ⟨x,hx,?_⟩;rw [hb.cell (by have:=hl x hx (by omega);cases i <;> simpa [Addr.add] using this),hc]
theorem z3v (d:Nat) (a:Option Addr) (n c:Nat) (f:Nat->Int) (w:World) (h1:1<=d) (h2:d<=13) (hn:n<=17592186044416) (hI:IntsAt w a n f) :
 Calls prog 192 #[O I d,.slice a n c] w fun e w'=>Says e (∀ i,i < n->fitsB d (f i)=true)/\w'=w :=
 (y5K d a n c f w h1 h2 hn hI).mono fun e w' h=>⟨⟨_,h.1,z4A d f n⟩,h.2⟩
def ChanP (c0:Int) (d n:Nat) (lo hi:Int) (L:Nat->Nat) (F:Nat->Nat->Int):Prop :=
 (n:Int)=c0/\z0s (L 0:Int) lo hi=true/\∀ i,i < n->L i=L 0/\∀ j,j < L i->fitsB d (F i j)=true
set_option maxHeartbeats 1000000 in
theorem z2Y (lo hi:Int) (c0 c2 c3 c4 c5 c6 c7:Int) (d:Nat) (a:Option Addr) (n cap:Nat) (A:Nat->Option Addr) (L C:Nat->Nat) (F:Nat->Nat->Int) (w:World) (hc0:1<=c0) (h1:1<=d) (h2:d<=13) (hn:n<=17592186044416) (hL:∀ i,i < n->L i<=17592186044416)
 (hA:ListsAt w a n A L C) (hI:∀ i,i < n->IntsAt w (A i) (L i) (F i)) (hlow:Low w.heap.size a n A L) :
 Calls prog 122 #[.agg #[O I c0,O I d,O I c2,O I c3,O I c4,O I c5,O I c6,O I c7],.slice a n cap,O I lo,O I hi] w fun e w' =>
  Says e (ChanP c0 d n lo hi L F)/\Below w.heap.size w w':=by
 obtain ⟨o,ho⟩:∃ o,o=Obj.cells #[O I c0,O I d,O I c2,O I c3,O I c4,O I c5,O I c6,O I c7] 23:=⟨_,rfl⟩;have hb:Below w.heap.size w (w.alloc o):=zX.alloc zY _;rw [ho] at hb
 by_cases hnc:(n:Int)=c0
 . subst hnc
   have hA1:=hA.below hb hlow.1;have hI1:∀ i,i < n->IntsAt _ (A i) (L i) (F i):=fun i hi=>(hI i hi).below hb (hlow.2 i hi)
   obtain ⟨b,off,rfl,hc⟩:=hA1.open (by omega);clear hA hI hA1 ho hlow;have HI:Hid (∀ i,i < n->IntsAt _ (A i) (L i) (F i)):=hI1;have HL:Hid (∀ i,i < n->L i<=17592186044416):=hL;have hL0:=hL 0 (by omega);have HC:=hc;have hc00:_=some (Value.slice (A 0) (L 0) (C 0)):=hc 0 (by omega);simp only [Nat.add_zero] at hc00;clear hI1 hL hc;cases h300:z0s (L 0:Int) lo hi;rotate_left
   . go_enter Tryz.func122,Tryz.ntmps122
     go_wp2_with (go_at_call 70;refine (z0A _ _ _ _).mono ?_;rintro e w' ⟨rfl,rfl⟩)
     go_loop [11,28] (fun _ i=>∃ k:Nat,k<=n/\i=O I k/\Hid (∀ i,i < k->L i=L 0/\∀ j,j < L i->fitsB d (F i j)=true)) (fun _ i=>n - (intOf i).toNat)
     case atStart=>exact ⟨0,Nat.zero_le _,rfl,fun i hi=>absurd hi (by omega)⟩
     case round =>
      obtain ⟨k,hk,rfl,HK⟩:=hrel
      by_cases hlt:k < n
      . have hck:=HC k hlt
        have hLk:=HL.out k hlt;have hIk:=HI.out k hlt;clear HC
        by_cases hLe:L k=L 0
        . have HE:Hid (L k=L 0):=hLe
          have ht:((L k:Int) != (L 0:Int))=false:=by simp [hLe]
          clear hLe
          by_cases hall:∀ j,j < L k->fitsB d (F k j)=true
          . have HALL:Hid (∀ j,j < L k->fitsB d (F k j)=true):=hall
            clear hall
            go_wp2_with (go_at_call 192;refine (z3v _ _ _ _ _ _ h1 h2 hLk hIk).mono ?_;rintro e w' ⟨he,rfl⟩;have he:=he.true_of HALL.out;subst he)
            go_round
            case rel =>
             refine ⟨k+1,by omega,by go_num,fun i hi=>?_⟩
             by_cases e:i=k
             . subst e;exact ⟨HE.out,HALL.out⟩
             . exact HK.out i (by omega)
            case measure=>simp [intOf];omega
          . have HALL:Hid (¬ ∀ j,j < L k->fitsB d (F k j)=true):=hall
            clear hall
            go_wp2_with (go_at_call 192;refine (z3v _ _ _ _ _ _ h1 h2 hLk hIk).mono ?_;rintro e w' ⟨he,rfl⟩;have he:=he.false_of HALL.out;subst he)
            go_ret;exact ⟨Says.no (fun h=>HALL.out (h.2.2 k hlt).2),hb⟩
        . have HE:Hid (¬ L k=L 0):=hLe
          have ht:((L k:Int) != (L 0:Int))=true:=by simp;omega
          clear hLe;go_wp2;go_ret;exact ⟨Says.no (fun h=>HE.out (h.2.2 k hlt).1),hb⟩
      . have e:k=n:=by omega
        subst e;go_wp2;go_ret;exact ⟨Says.yes ⟨rfl,h300,HK.out⟩,hb⟩
   . go_enter Tryz.func122,Tryz.ntmps122
     go_wp2_with (go_at_call 70;refine (z0A _ _ _ _).mono ?_;rintro e w' ⟨rfl,rfl⟩)
     go_ret;exact ⟨Says.no (fun h=>by rw [h.2.1] at h300;cases h300),hb⟩
 . have hne:((n:Int) != c0)=true:=by simpa using hnc
   go_enter Tryz.func122,Tryz.ntmps122
   go_wp2;go_ret;exact ⟨Says.no (fun h=>hnc h.1),hb⟩
set_option maxHeartbeats 1000000 in
theorem y0j (c0 c2 c3 c4 c5 c6 c7:Int) (d:Nat) (a:Option Addr) (n cap:Nat) (A:Nat->Option Addr) (L C:Nat->Nat) (F:Nat->Nat->Int) (w:World) (hc0:1<=c0) (h1:1<=d) (h2:d<=13) (hn:n<=17592186044416) (hL:∀ i,i < n->L i<=17592186044416)
 (hA:ListsAt w a n A L C) (hI:∀ i,i < n->IntsAt w (A i) (L i) (F i)) (hlow:Low w.heap.size a n A L) :
 Calls prog 68 #[.agg #[O I c0,O I d,O I c2,O I c3,O I c4,O I c5,O I c6,O I c7],.slice a n cap] w fun e w' =>
  Says e (ChanP c0 d n 1 c2 L F)/\Below w.heap.size w w':=by
 have hb:Below w.heap.size w (w.alloc (.cells #[O I c0,O I d,O I c2,O I c3,O I c4,O I c5,O I c6,O I c7] 23)):=zX.alloc zY _;have HCC:=zZ (z2Y 1 c2 c0 c2 c3 c4 c5 c6 c7 d a n cap A L C F (w.alloc (.cells #[O I c0,O I d,O I c2,O I c3,O I c4,O I c5,O I c6,O I c7] 23)) hc0 h1 h2 hn hL (hA.below hb hlow.1) (fun i hi=>(hI i hi).below hb (hlow.2 i hi)) ⟨fun x hx h0=>Nat.lt_of_lt_of_le (hlow.1 x hx h0) (by simp),fun i hi x hx h0=>Nat.lt_of_lt_of_le (hlow.2 i hi x hx h0) (by simp)⟩);have HB:=zZ hb;clear hA hI hlow hb hL
 go_enter Tryz.func68,Tryz.ntmps68
 go_wp2_with (go_at_call 122;refine HCC.out.mono ?_;rintro e w1 ⟨⟨r,rfl,hr⟩,hb1⟩;have HB1:=zZ (HB.out.trans (hb1.mono (by simp)));have HR:=zZ hr;clear hb1 hr HCC)
 go_ret;exact ⟨⟨r,rfl,HR.out⟩,HB1.out⟩
set_option maxHeartbeats 1000000 in
theorem y0k (c0 c2 c3 c4 c5 c6 c7:Int) (d:Nat) (a:Option Addr) (n cap:Nat) (A:Nat->Option Addr) (L C:Nat->Nat) (F:Nat->Nat->Int) (w:World) (hc0:1<=c0) (h1:1<=d) (h2:d<=13) (hn:n<=17592186044416) (hL:∀ i,i < n->L i<=17592186044416)
 (hA:ListsAt w a n A L C) (hI:∀ i,i < n->IntsAt w (A i) (L i) (F i)) (hlow:Low w.heap.size a n A L) :
 Calls prog 60 #[.agg #[O I c0,O I d,O I c2,O I c3,O I c4,O I c5,O I c6,O I c7],.slice a n cap] w fun e w' =>
  Says e (ChanP c0 d n 0 300 L F)/\Below w.heap.size w w':=by
 have hb:Below w.heap.size w (w.alloc (.cells #[O I c0,O I d,O I c2,O I c3,O I c4,O I c5,O I c6,O I c7] 23)):=zX.alloc zY _;have HCC:=zZ (z2Y 0 300 c0 c2 c3 c4 c5 c6 c7 d a n cap A L C F (w.alloc (.cells #[O I c0,O I d,O I c2,O I c3,O I c4,O I c5,O I c6,O I c7] 23)) hc0 h1 h2 hn hL (hA.below hb hlow.1) (fun i hi=>(hI i hi).below hb (hlow.2 i hi)) ⟨fun x hx h0=>Nat.lt_of_lt_of_le (hlow.1 x hx h0) (by simp),fun i hi x hx h0=>Nat.lt_of_lt_of_le (hlow.2 i hi x hx h0) (by simp)⟩);have HB:=zZ hb;clear hA hI hlow hb hL
 go_enter Tryz.func60,Tryz.ntmps60
 go_wp2_with (go_at_call 122;refine HCC.out.mono ?_;rintro e w1 ⟨⟨r,rfl,hr⟩,hb1⟩;have HB1:=zZ (HB.out.trans (hb1.mono (by simp)));have HR:=zZ hr;clear hb1 hr HCC)
 go_ret;exact ⟨⟨r,rfl,HR.out⟩,HB1.out⟩
theorem z7z {c0 c1 c2 c3 c4 c5 c6 c7:Int} (h:z1I c0 c1 c2 c3 c4 c5 c6 c7=true):1<=c0/\c0<=4/\(1<=c2/\c2<=32)/\∃ d:Nat,c1=(d:Int)/\4<=d/\d<=12:=by
 simp only [z1I,Bool.and_eq_true,z0h] at h;exact ⟨h.1.1,h.1.2,h.2.2.1,c1.toNat,by omega,by omega,by omega⟩
theorem y3E {w wr:World} {B v k j:Nat} (h:wr.rowIs B 5 k (fun i=>.int .u8 (if k - 1 - i < j then ((inB v k i).toNat:Int) else 0))) (hj:j < k) :
 (wr.setCell ⟨B,k - 1 - j,none⟩ (.int .u8 ((v / 256 ^ j % 256:Nat):Int))).rowIs B 5 k (fun i=>.int .u8 (if k - 1 - i < j+1 then ((inB v k i).toNat:Int) else 0)):=by
 refine (h.set (k - 1 - j) _).congr fun i hi=>?_
 by_cases e:i=k - 1 - j
 . subst e
   rw [if_pos rfl,if_pos (by omega),z7x,show k - 1 - (k - 1 - j)=j by omega]
 . rw [if_neg e]
   by_cases e2:k - 1 - i < j
   . rw [if_pos e2,if_pos (by omega)]
   . rw [if_neg e2,if_neg (by omega)]
set_option maxHeartbeats 1000000 in
theorem y8O (v k:Nat) (w:World) (hk:k<=8) (hv:v < 4294967296) :
 Calls prog 215 #[O I v,O I k] w fun e w'=>e=.returned (.string (bs (inT v k)))/\Below w.heap.size w w':=by
 have hmk:=run_make_row' (P:=prog) 33 5 (.int .u8 0) 1 Tryz.underlying33 infoByte rfl .i64 .i64 k (by omega) (by omega);have w2:IntKind.i64.wrap ((k:Int) - 1)=(k:Int) - 1:=by rw [IntKind.wrap_i64];omega
 have HS:=zZ (y1n v k);have HCV:=zZ (fun (u:World) h=>z1P (P:=prog) u 33 9 5 w.heap.size 0 k k (inB v k) Tryz.underlying33 Tryz.underlying5 Tryz.underlying9 h)
 go_enter Tryz.func215,Tryz.ntmps215
 go_wp2;clear hmk w2
 go_loopw [0,6] (fun vv iv wr=>∃ j:Nat,j<=k/\iv=O I ((k:Int) - 1 - j)/\vv=O I ((v / 256 ^ j:Nat):Int)/\Hid (wr.rowIs w.heap.size 5 k (fun i=>.int .u8 (if k - 1 - i < j then ((inB v k i).toNat:Int) else 0))/\Below w.heap.size w wr)) (fun _ iv _=>(intOf iv+1).toNat)
 case atStart=>exact ⟨0,by omega,by simp,by simp,(World.rowIs_made w (.int .u8 0) k 5).congr fun i _=>by rw [if_neg (by omega)],zX.alloc zY _⟩
 case round =>
  obtain ⟨j,hj,rfl,rfl,HR⟩:=hrel
  by_cases hlt:j < k
  . have hc1:=HR.out.1.cell (i:=k - 1 - j) (by omega)
    have hf1:=HR.out.1.frozen (k - 1 - j);have hq:v / 256 ^ j<=v:=Nat.div_le_self _ _;have HQ:Hid (v / 256 ^ (j+1)=v / 256 ^ j / 256):=by show _=_;rw [Nat.pow_succ,Nat.div_div_eq_div_mul]
    have HK:=zZ (y3E (w:=w) HR.out.1 hlt);generalize v / 256 ^ j=q at *;have t1:((k:Int) - 1 - (j:Int)).toNat=k - 1 - j:=by omega
    have t2:decide (0<=(k:Int) - 1 - (j:Int))=true:=decide_eq_true (by omega);have l1:0<=(k:Int) - 1 - (j:Int):=by omega
    have l2:(k:Int) - 1 - (j:Int) < (k:Int):=by omega
    have v2:IntKind.i64.wrap ((k:Int) - 1 - (j:Int) - 1)=(k:Int) - 1 - (j:Int) - 1:=by rw [IntKind.wrap_i64];omega
    have m1:((q:Int)).tmod 256=((q % 256:Nat):Int):=by rw [Int.tmod_eq_emod_of_nonneg (by omega)];omega
    have m2:((q:Int)).tdiv 256=((q / 256:Nat):Int):=by rw [Int.tdiv_eq_ediv_of_nonneg (by omega)];omega
    have m3:((q:Int)) / 256=((q / 256:Nat):Int):=by omega
    have hq3:q / 256<=q:=Nat.div_le_self _ _;have HV6:Hid (wrap64 ((q / 256:Nat):Int)=((q / 256:Nat):Int)):=by show _=_;unfold wrap64;omega
    have hq2:q % 256 < 256:=Nat.mod_lt _ (by omega);have v4:IntKind.u8.wrap (q:Int)=((q % 256:Nat):Int):=by rw [IntKind.wrap_u8];omega
    generalize q % 256=r at *;generalize q / 256=q' at *;have v5:IntKind.u8.wrap (r:Int)=(r:Int):=by rw [IntKind.wrap_u8];omega
    generalize hcv:(if k - 1 - (k - 1 - j) < j then ((inB v k (k - 1 - j)).toNat:Int) else 0)=oldv at hc1;clear hcv;go_wp2
    go_roundw
    case rel=>exact ⟨j+1,by omega,by congr 1;omega,by rw [HQ.out],HK.out,HR.out.2.setCell zY _⟩
    case measure=>simp [intOf];omega
  . have e:j=k:=by omega
    subst e;have e1:(j:Int) - 1 - (j:Int)=-1:=by omega
    rw [e1];clear e1;have hcv:=HCV.out wr (fun i hi=>by
     have:=HR.out.1.cell (i:=i) hi;rw [if_pos (by omega)] at this
     simpa using this)
    rw [HS.out] at hcv;generalize v / 256 ^ j=q0 at *;clear HCV;go_wp2;go_ret;exact ⟨rfl,HR.out.2⟩
set_option maxHeartbeats 1000000 in
theorem z1x (v k:Nat) (w:World) (hk:k<=8) (hv:v < 4294967296) :
 Calls prog 195 #[O I v,O I k] w fun e w'=>e=.returned (.string (bs (inT v k)))/\Below w.heap.size w w':=by
 have hmk:=run_make_row' (P:=prog) 33 5 (.int .u8 0) 1 Tryz.underlying33 infoByte rfl .i64 .i64 k (by omega) (by omega);have w2:IntKind.i64.wrap ((k:Int) - 1)=(k:Int) - 1:=by rw [IntKind.wrap_i64];omega
 have HS:=zZ (y1n v k);have HCV:=zZ (fun (u:World) h=>z1P (P:=prog) u 33 9 5 w.heap.size 0 k k (inB v k) Tryz.underlying33 Tryz.underlying5 Tryz.underlying9 h)
 go_enter Tryz.func195,Tryz.ntmps195
 go_wp2;clear hmk w2
 go_loopw [0,6] (fun vv iv wr=>∃ j:Nat,j<=k/\iv=O I ((k:Int) - 1 - j)/\vv=O I ((v / 256 ^ j:Nat):Int)/\Hid (wr.rowIs w.heap.size 5 k (fun i=>.int .u8 (if k - 1 - i < j then ((inB v k i).toNat:Int) else 0))/\Below w.heap.size w wr)) (fun _ iv _=>(intOf iv+1).toNat)
 case atStart=>exact ⟨0,by omega,by simp,by simp,(World.rowIs_made w (.int .u8 0) k 5).congr fun i _=>by rw [if_neg (by omega)],zX.alloc zY _⟩
 case round =>
  obtain ⟨j,hj,rfl,rfl,HR⟩:=hrel
  by_cases hlt:j < k
  . have hc1:=HR.out.1.cell (i:=k - 1 - j) (by omega)
    have hf1:=HR.out.1.frozen (k - 1 - j);have hq:v / 256 ^ j<=v:=Nat.div_le_self _ _;have HQ:Hid (v / 256 ^ (j+1)=v / 256 ^ j / 256):=by show _=_;rw [Nat.pow_succ,Nat.div_div_eq_div_mul]
    have HK:=zZ (y3E (w:=w) HR.out.1 hlt);generalize v / 256 ^ j=q at *;have t1:((k:Int) - 1 - (j:Int)).toNat=k - 1 - j:=by omega
    have t2:decide (0<=(k:Int) - 1 - (j:Int))=true:=decide_eq_true (by omega);have l1:0<=(k:Int) - 1 - (j:Int):=by omega
    have l2:(k:Int) - 1 - (j:Int) < (k:Int):=by omega
    have v2:IntKind.i64.wrap ((k:Int) - 1 - (j:Int) - 1)=(k:Int) - 1 - (j:Int) - 1:=by rw [IntKind.wrap_i64];omega
    have m1:((q:Int)).tmod 256=((q % 256:Nat):Int):=by rw [Int.tmod_eq_emod_of_nonneg (by omega)];omega
    have m2:((q:Int)).tdiv 256=((q / 256:Nat):Int):=by rw [Int.tdiv_eq_ediv_of_nonneg (by omega)];omega
    have m3:((q:Int)) / 256=((q / 256:Nat):Int):=by omega
    have hq3:q / 256<=q:=Nat.div_le_self _ _;have HV6:Hid (wrap64 ((q / 256:Nat):Int)=((q / 256:Nat):Int)):=by show _=_;unfold wrap64;omega
    have hq2:q % 256 < 256:=Nat.mod_lt _ (by omega);have v4:IntKind.u8.wrap (q:Int)=((q % 256:Nat):Int):=by rw [IntKind.wrap_u8];omega
    generalize q % 256=r at *;generalize q / 256=q' at *;have v5:IntKind.u8.wrap (r:Int)=(r:Int):=by rw [IntKind.wrap_u8];omega
    generalize hcv:(if k - 1 - (k - 1 - j) < j then ((inB v k (k - 1 - j)).toNat:Int) else 0)=oldv at hc1;clear hcv;go_wp2
    go_roundw
    case rel=>exact ⟨j+1,by omega,by congr 1;omega,by rw [HQ.out],HK.out,HR.out.2.setCell zY _⟩
    case measure=>simp [intOf];omega
  . have e:j=k:=by omega
    subst e;have e1:(j:Int) - 1 - (j:Int)=-1:=by omega
    rw [e1];clear e1;have hcv:=HCV.out wr (fun i hi=>by
     have:=HR.out.1.cell (i:=i) hi;rw [if_pos (by omega)] at this
     simpa using this)
    rw [HS.out] at hcv;generalize v / 256 ^ j=q0 at *;clear HCV;go_wp2;go_ret;exact ⟨rfl,HR.out.2⟩
theorem y6Z (k D:Nat) (l:List UInt8):crc k D l < 2 ^ k:=z1Y _ _
theorem z7A (T:List UInt8):(bs T).data.toList=T:=by simp [bs]
theorem y5Q (T:List UInt8) (w:World) (hs:T.length<=2097152) :
 Calls prog 216 #[.string (bs T)] w fun e w'=>e=.returned (O I (crc 8 263 T))/\w'=w:=by
 have:=y3z (bs T) w (by rw [z0e];exact hs)
 rwa [z7A] at this
theorem y2o (T:List UInt8) (w:World) (hs:T.length<=2097152) :
 Calls prog 196 #[.string (bs T)] w fun e w'=>e=.returned (O I (crc 16 98309 T))/\w'=w:=by
 have:=y0i (bs T) w (by rw [z0e];exact hs)
 rwa [z7A] at this
set_option maxHeartbeats 400000 in
theorem z5J (T:List UInt8) (w:World) (hs:T.length<=1048576) :
 Calls prog 197 #[.string (bs T)] w fun e w'=>e=.returned (.string (bs (seal8 T)))/\Below w.heap.size w w':=by
 have hc:crc 8 263 T < 256:=y6Z 8 263 T;have HE:=zZ (fun u=>y5Q T u (by omega));have HIN:=zZ (fun u=>z1x (crc 8 263 T) 1 u (by omega) (by omega));have HS:Hid (bs T ++ bs (inT (crc 8 263 T) 1)=bs (seal8 T)):=z0N _ _;have hz1:(bs T).size<=1048576:=by rw [z0e];exact hs
 have hz2:(bs (inT (crc 8 263 T) 1)).size<=1:=by rw [z0e,z0a];omega
 generalize crc 8 263 T=C at *;rw [← HS.out];generalize bs (inT C 1)=X at *;generalize bs T=S at *;clear HS
 go_enter Tryz.func197,Tryz.ntmps197
 go_wp2_with (first
  | (go_at_call 216;refine (HE.out _).mono ?_;rintro e w1 ⟨rfl,hw⟩;subst w1;clear HE)
  | (go_at_call 195;refine (HIN.out _).mono ?_;rintro e w2 ⟨rfl,hb2⟩;have HB2:=zZ hb2;clear hb2 HIN))
 go_ret;exact ⟨rfl,HB2.out⟩
set_option maxHeartbeats 400000 in
theorem z4C (T:List UInt8) (w:World) (hs:T.length<=1048576) :
 Calls prog 125 #[.string (bs T)] w fun e w'=>e=.returned (.string (bs (z0H T)))/\Below w.heap.size w w':=by
 have hc:crc 16 98309 T < 65536:=y6Z 16 98309 T;have HE:=zZ (fun u=>y2o T u (by omega));have HIN:=zZ (fun u=>z1x (crc 16 98309 T) 2 u (by omega) (by omega));have HS:Hid (bs T ++ bs (inT (crc 16 98309 T) 2)=bs (z0H T)):=z0N _ _;have hz1:(bs T).size<=1048576:=by rw [z0e];exact hs
 have hz2:(bs (inT (crc 16 98309 T) 2)).size<=2:=by rw [z0e,z0a];omega
 generalize crc 16 98309 T=C at *;rw [← HS.out];generalize bs (inT C 2)=X at *;generalize bs T=S at *;clear HS
 go_enter Tryz.func125,Tryz.ntmps125
 go_wp2_with (first
  | (go_at_call 196;refine (HE.out _).mono ?_;rintro e w1 ⟨rfl,hw⟩;subst w1;clear HE)
  | (go_at_call 195;refine (HIN.out _).mono ?_;rintro e w2 ⟨rfl,hb2⟩;have HB2:=zZ hb2;clear hb2 HIN))
 go_ret;exact ⟨rfl,HB2.out⟩
def valN (l:List UInt8):Nat:=l.foldl (fun v c=>256 * v+c.toNat) 0
theorem z2Z (l:List UInt8) (c:UInt8):valN (l ++ [c])=256 * valN l+c.toNat:=by simp [valN,List.foldl_append]
theorem z5K (l:List UInt8):∀ k,k<=l.length->valN (l.take k) < 256 ^ k
 | 0,_=>by simp [valN]
 | k+1,h=>by
  have ih:=z5K l k (by omega);rw [List.take_succ_eq_append_getElem (by omega),z2Z,Nat.pow_succ];have:l[k].toNat < 256:=UInt8.toNat_lt _;omega
theorem y8k (v c:Nat) (hv:v < 16777216) (hc:c < 256):bits .or .i64 ((v:Int) * 256) (c:Int)=((256 * v+c:Nat):Int):=by
 have h0:((v:Int) * 256)=((v * 256:Nat):Int):=by omega
 have h1:(BitVec.ofInt 64 ((v * 256:Nat):Int)).toNat=v * 256:=by
  rw [BitVec.ofInt_natCast,BitVec.toNat_ofNat];exact Nat.mod_eq_of_lt (by omega)
 have h2:(BitVec.ofInt 64 (c:Int)).toNat=c:=by
  rw [BitVec.ofInt_natCast,BitVec.toNat_ofNat];exact Nat.mod_eq_of_lt (by omega)
 have h3:v * 256 ||| c=256 * v+c:=by
  have:=Nat.two_pow_add_eq_or_of_lt (i:=8) (b:=c) hc v;rw [show (2:Nat) ^ 8=256 from rfl] at this;rw [Nat.mul_comm v 256];exact this.symm
 rw [h0]
 show IntKind.i64.wrap ((BitVec.ofInt 64 ((v * 256:Nat):Int) ||| BitVec.ofInt 64 (c:Int)).toNat:Int)=_
 rw [BitVec.toNat_or,h1,h2,h3,IntKind.wrap_i64];omega
theorem y7H (T:List UInt8) (k:Nat) (h:k < T.length):T.take (k+1)=T.take k ++ [T[k]]:=List.take_succ_eq_append_getElem h
set_option maxHeartbeats 400000 in
theorem z2p (T:List UInt8) (w:World) (hT:T.length<=4) :
 Calls prog 203 #[.string (bs T)] w fun e w'=>e=.returned (O I (valN T))/\w'=w:=by
 have hz:(bs T).size=T.length:=z0e T;have HG:Hid (∀ k (h:k < (bs T).size),(bs T)[k]=T[k]'(by rw [hz] at h;exact h)):=fun k h=>z2J T k h
 generalize bs T=S at *
 go_enter Tryz.func203,Tryz.ntmps203
 go_wp2
 go_loop [3,4,7] (fun v _ i=>∃ k:Nat,k<=T.length/\i=O I k/\v=O I (valN (T.take k):Nat)) (fun _ _ i=>T.length - (intOf i).toNat)
 case atStart=>exact ⟨0,Nat.zero_le _,rfl,rfl⟩
 case round =>
  obtain ⟨k,hk,rfl,rfl⟩:=hrel
  by_cases hlt:k < T.length
  . have hkS:k < S.size:=by omega
    have hc:S[k].toNat < 256:=UInt8.toNat_lt _;have HE:Hid (valN (T.take (k+1))=256 * valN (T.take k)+S[k].toNat):=by show _=_;rw [y7H T k hlt,z2Z,HG.out k hkS]
    have hv:valN (T.take k) < 16777216:=by
     have h1:=z5K T k (by omega);have h2:256 ^ k<=256 ^ 3:=Nat.pow_le_pow_right (by omega) (by omega);omega
    have hor:=y8k (valN (T.take k)) S[k].toNat hv hc;generalize valN (T.take k)=V at *;go_wp2
    go_round
    case rel=>exact ⟨k+1,by omega,by go_num,by rw [HE.out];go_num⟩
    case measure=>simp [intOf];omega
  . have e:k=T.length:=by omega
    subst e;rw [List.take_length];go_wp2;go_ret;exact ⟨rfl,rfl⟩
theorem z1q (T:List UInt8) (k:Nat):(bs T).extract 0 k=bs (T.take k):=by
 apply ByteArray.ext;have hd:((bs T).extract 0 k).data=(bs T).data.extract 0 k:=by simp
 rw [hd]
 show T.toArray.extract 0 k=(T.take k).toArray
 simp
theorem y3F {T U:List UInt8} (h:bs T=bs U):T=U:=by
 have:=congrArg (fun s=>s.data.toList) h
 simpa [bs] using this
theorem z5L (R S:ByteArray):(R.toList == S.toList)=true↔R=S:=by
 rw [beq_iff_eq,ByteArray.toList_eq,ByteArray.toList_eq];constructor
 . intro h
   cases R;cases S
   simpa using h
 . intro h;rw [h]
set_option maxHeartbeats 400000 in
theorem z2z (T:List UInt8) (w:World) (hs:T.length<=1048576) :
 Calls prog 132 #[.string (bs T)] w fun e w'=>Says e (1<=T.length/\seal8 (T.take (T.length - 1))=T)/\Below w.heap.size w w':=by
 have hz:(bs T).size=T.length:=z0e T
 by_cases h1:1<=T.length
 . have HSE:=zZ (fun u=>z5J (T.take (T.length - 1)) u (by rw [List.length_take];omega))
   rw [← z1q] at HSE;have HQ:Hid (bs (seal8 (T.take (T.length - 1)))=bs T↔(1<=T.length/\seal8 (T.take (T.length - 1))=T)):=⟨fun h=>⟨h1,y3F h⟩,fun h=>congrArg bs h.2⟩;generalize bs (seal8 (T.take (T.length - 1)))=R at *;generalize bs T=S at *;generalize T.length=n at *;have w1:IntKind.i64.wrap ((n:Int) - 1)=((n - 1:Nat):Int):=by rw [IntKind.wrap_i64];omega
   have hle:n - 1<=n:=by omega
   generalize n - 1=n1 at *
   go_enter Tryz.func132,Tryz.ntmps132
   go_wp2_with (go_at_call 197;refine (HSE.out _).mono ?_;rintro e u1 ⟨rfl,hb⟩;have HB:=zZ hb;clear hb HSE)
   go_ret;exact ⟨⟨_,rfl,(z5L R S).trans HQ.out⟩,HB.out⟩
 . have HQ:Hid (¬ (1<=T.length/\seal8 (T.take (T.length - 1))=T)):=fun h=>h1 h.1
   generalize bs T=S at *;generalize T.length=n at *;have t1:decide ((1:Int)<=(n:Int))=false:=decide_eq_false (by omega);have hn:¬ (1:Int)<=(n:Int):=by omega
   go_enter Tryz.func132,Tryz.ntmps132
   go_wp2;go_ret;exact ⟨⟨false,rfl,by simp⟩,Below.refl _ _⟩
set_option maxHeartbeats 400000 in
theorem z1D (T:List UInt8) (w:World) (hs:T.length<=1048576) :
 Calls prog 135 #[.string (bs T)] w fun e w'=>Says e (2<=T.length/\z0H (T.take (T.length - 2))=T)/\Below w.heap.size w w':=by
 have hz:(bs T).size=T.length:=z0e T
 by_cases h1:2<=T.length
 . have HSE:=zZ (fun u=>z4C (T.take (T.length - 2)) u (by rw [List.length_take];omega))
   rw [← z1q] at HSE;have HQ:Hid (bs (z0H (T.take (T.length - 2)))=bs T↔(2<=T.length/\z0H (T.take (T.length - 2))=T)):=⟨fun h=>⟨h1,y3F h⟩,fun h=>congrArg bs h.2⟩;generalize bs (z0H (T.take (T.length - 2)))=R at *;generalize bs T=S at *;generalize T.length=n at *;have w1:IntKind.i64.wrap ((n:Int) - 2)=((n - 2:Nat):Int):=by rw [IntKind.wrap_i64];omega
   have hle:n - 2<=n:=by omega
   generalize n - 2=n1 at *
   go_enter Tryz.func135,Tryz.ntmps135
   go_wp2_with (go_at_call 125;refine (HSE.out _).mono ?_;rintro e u1 ⟨rfl,hb⟩;have HB:=zZ hb;clear hb HSE)
   go_ret;exact ⟨⟨_,rfl,(z5L R S).trans HQ.out⟩,HB.out⟩
 . have HQ:Hid (¬ (2<=T.length/\z0H (T.take (T.length - 2))=T)):=fun h=>h1 h.1
   generalize bs T=S at *;generalize T.length=n at *;have t1:decide ((2:Int)<=(n:Int))=false:=decide_eq_false (by omega);have hn:¬ (2:Int)<=(n:Int):=by omega
   go_enter Tryz.func135,Tryz.ntmps135
   go_wp2;go_ret;exact ⟨⟨false,rfl,by simp⟩,Below.refl _ _⟩
def z0u (T:List UInt8) (k:Nat):List UInt8:=(List.range (8 * k)).map fun j=>ltr (z0w T j)
theorem z2j (T:List UInt8) (k:Nat):(z0u T k).length=8 * k:=by simp [z0u]
theorem y7I (v p:Nat):v.testBit p=decide ((v:Int) / 2 ^ p % 2=1):=by
 rw [Nat.testBit_eq_decide_div_mod_eq];have e:((v / 2 ^ p % 2:Nat):Int)=(v:Int) / 2 ^ p % 2:=by simp
 rw [← e,decide_eq_decide];omega
theorem z8U (T:List UInt8) (k:Nat) (hk:k < T.length):z0u T (k+1)=z0u T k ++ binT (T[k].toNat:Nat) 8:=by
 unfold z0u binT;rw [show 8 * (k+1)=8 * k+8 by omega,List.range_add,List.map_append,List.map_map]
 congr 1
 apply List.map_congr_left;intro x hx;have hx8:x < 8:=List.mem_range.1 hx
 show ltr (z0w T (8 * k+x))=_
 rw [z3E _ _ _ hx8,List.getD_eq_getElem?_getD,List.getElem?_eq_getElem hk,Option.getD_some,y7I]
def unL (m:Nat) (a b:Int):Int:=if m=2 then a+b else if m=3 then a+(b+1) / 2 else a
def unR (m:Nat) (a b:Int):Int:=if m=1 then a - b else if m=3 then a+(b+1) / 2 - b else b
set_option maxHeartbeats 400000 in
theorem z8V (m:Nat) (a b:Int) (w:World) (hm:m < 4) (ha:-8192<=a/\a<=8192) (hb:-8192<=b/\b<=8192) :
 Calls prog 255 #[O I m,O I a,O I b] w fun e w'=>e=.returned (.tuple #[O I (unL m a b),O I (unR m a b)])/\w'=w:=by
 have w1:IntKind.i64.wrap (a - b)=a - b:=by rw [IntKind.wrap_i64];omega
 have w2:IntKind.i64.wrap (a+b)=a+b:=by rw [IntKind.wrap_i64];omega
 have w3:IntKind.i64.wrap (2 * a)=2 * a:=by rw [IntKind.wrap_i64];omega
 have hand:=y3o b;have w4:IntKind.i64.wrap (2 * a+b % 2)=2 * a+b % 2:=by rw [IntKind.wrap_i64];omega
 have w5:IntKind.i64.wrap (2 * a+b % 2+b)=2 * a+b % 2+b:=by rw [IntKind.wrap_i64];omega
 have w6:IntKind.i64.wrap (2 * a+b % 2 - b)=2 * a+b % 2 - b:=by rw [IntKind.wrap_i64];omega
 have d1:(2 * a+b % 2+b).tdiv 2=a+(b+1) / 2:=by rw [Int.tdiv_eq_ediv_of_dvd (by omega)];omega
 have d2:(2 * a+b % 2 - b).tdiv 2=a+(b+1) / 2 - b:=by rw [Int.tdiv_eq_ediv_of_dvd (by omega)];omega
 match m,hm with
 | 0,_ =>
  go_enter Tryz.func255,Tryz.ntmps255
  go_wp2;go_ret2;exact ⟨rfl,rfl⟩
 | 1,_ =>
  go_enter Tryz.func255,Tryz.ntmps255
  go_wp2;go_ret2;exact ⟨rfl,rfl⟩
 | 2,_ =>
  go_enter Tryz.func255,Tryz.ntmps255
  go_wp2;go_ret2;exact ⟨rfl,rfl⟩
 | 3,_ =>
  go_enter Tryz.func255,Tryz.ntmps255
  go_wp2;go_ret2;exact ⟨rfl,rfl⟩
def z0d (T:List UInt8) (a b:Nat):List UInt8:=(T.drop a).take (b - a)
theorem z2e (T:List UInt8) (a b:Nat):(bs T).extract a b=bs (z0d T a b):=by
 apply ByteArray.ext;have hd:((bs T).extract a b).data=(bs T).data.extract a b:=by simp
 rw [hd]
 show T.toArray.extract a b=(z0d T a b).toArray
 simp [z0d,List.extract_toArray,List.extract_eq_take_drop]
def HeadP (T:List UInt8):Prop:=8<=T.length/\T.getD 0 0=165/\seal8 (T.take 7)=T.take 8
theorem z2K {T e:TypeId} {B b:Nat} {p:Value} {xs:List Value} {w w':World} (h:Lib.BuilderAtF T e B b p xs w) (hb:Below w.heap.size w w'):Lib.BuilderAtF T e B b p xs w':=by
 have hlt:=h.lt;obtain ⟨hB,v,hbk,hown,hne⟩:=h;refine ⟨hB,v,(hb.block b hlt).trans hbk,?_,hne⟩;obtain ⟨hl,hr⟩:=hown;refine ⟨hl,?_⟩;rcases hr with h0 | ⟨g,cap,cur,fz,h1,h2,h3,h4⟩
 . exact .inl h0
 . exact .inr ⟨g,cap,cur,fz,h1,h2,(hb.block g (Array.getElem?_eq_some_iff.1 h3).1).trans h3,h4⟩
theorem z2A {T e:TypeId} {B b:Nat} {xs:List Value} {w w':World} (h:Lib.IsBuilderF T e B b xs w) (hb:Below w.heap.size w w'):Lib.IsBuilderF T e B b xs w' :=
 h.elim (fun h=>.inl (z2K h hb)) (fun h=>.inr (z2K h hb))
set_option maxHeartbeats 2000000 in
set_option maxRecDepth 100000 in
theorem z5M (T:TypeId) (hT:Lies T) (B b:Nat) (xs:List Value) (s:ByteArray) (w:World) (h:Lib.IsBuilderF T 5 B b xs w) (hs:0 < s.size) (hlen:xs.length+s.size<=140737488355328) (hBw:B<=w.heap.size) :
 Calls prog 200 #[.pointer (some ⟨b,0,none⟩),.string s] w fun e w'=>e=.returned (.tuple #[O I s.size,.nilIface])/\(Lib.BuilderAtF T 5 B b (.pointer (some ⟨b,0,none⟩)) (xs ++ Lib.strCells s) w'/\Below B w w'):=by
 obtain ⟨i0,hi,hz0,hz1,hz2⟩:=info_parts infoByte;have HH:=zZ h;clear h
 go_enter Tryz.func200,Tryz.ntmps200
 go_wp2_with (go_at_call 251;refine (z2x T hT B b xs _ HH.out).mono ?_)
 rintro e w1 ⟨rfl,h1,hb1,hk1⟩;obtain ⟨hB,v,hbk,hown,hne⟩:=h1;have c0:w1.cell? ⟨b,0,none⟩=some (.pointer (some ⟨b,0,none⟩)):=by rw [Lib.cell_of_heap hbk];rfl
 have c1:w1.cell? ⟨b,1,none⟩=some v:=by rw [Lib.cell_of_heap hbk];rfl
 go_wp2_with (at_builtin;refine Lib.wpList_append_own_stringF _ rfl _ _ 33 9 rfl B 5 i0 Tryz.underlying33 Tryz.underlying9 hi hz0 hz1 hz2 _ _ _ rfl hown s rfl ?c3 ?c4 ?c5 ?_)
 case c3=>unfold maxLen;omega
 case c4=>omega
 case c5=>have:=hb1.size;omega
 intro v' w2 hown' hgrow _;have hlt:b < w1.heap.size:=(Array.getElem?_eq_some_iff.1 hbk).1;have hb2:w2.heap[b]?=some (.cells #[.pointer (some ⟨b,0,none⟩),v] T (0,0)):=by
  rw [hgrow.block b hlt (fun e=>hne e.symm)];exact hbk
 have d0:w2.cell? ⟨b,0,none⟩=some (.pointer (some ⟨b,0,none⟩)):=by rw [Lib.cell_of_heap hb2];rfl
 have d1:w2.cell? ⟨b,1,none⟩=some v:=by rw [Lib.cell_of_heap hb2];rfl
 have f1:w2.frozen? ⟨b,1,none⟩=false:=Lib.frozen_of_heap hb2 1;obtain ⟨g,cap,rfl⟩:∃ g cap,v'=.slice (some ⟨g,0,none⟩) (xs.length+s.size) cap:=by
  rcases hown'.2 with ⟨_,h0⟩ | ⟨g,cap,cur,fz,hv,_⟩
  . omega
  . exact ⟨g,cap,hv⟩
 go_wp2;go_ret2;refine ⟨rfl,?_,?_⟩
 . exact Lib.BuilderAtF.put (T:=T) (e:=5) hB hb2 (bs':=xs ++ Lib.strCells s) (by rw [List.length_append,Lib.strCells_length];exact hown') hT.2
 . exact ((hb1.grown hgrow (by have:=hb1.size;omega) (fun k hk=>(hown.lt k hk).1))).setCell (p:=⟨b,1,none⟩) hB _
theorem y1s (T:List UInt8):Lib.strCells (bs T)=Lib.byteCells T:=by
 unfold Lib.strCells Lib.byteCells;rw [z7A]
theorem z8W (T U:List UInt8):Lib.byteCells T ++ Lib.byteCells U=Lib.byteCells (T ++ U):=by simp [Lib.byteCells]
theorem z5N (w:World):Lib.IsBuilderF 278 5 w.heap.size w.heap.size (Lib.byteCells []) (w.alloc (.cells #[.pointer none,.slice none 0 0] 278)) :=
 .inl ⟨Nat.le_refl _,.slice none 0 0,blk_alloc_new _ _,⟨rfl,.inl ⟨rfl,rfl⟩⟩,by simp [Value.ownBlock]⟩
set_option maxHeartbeats 2000000 in
theorem y0l (d:Nat) (a:Option Addr) (n cap:Nat) (A:Nat->Option Addr) (N:Nat) (C:Nat->Nat) (F:Nat->Nat->Int) (w:World) (hd1:1<=d) (hd:d<=12) (hn1:1<=n) (hn4:n<=4) (hN1:1<=N) (hN:N<=32)
 (hf:∀ i,i < n->∀ j,j < N->fitsB d (F i j)=true) (hA:ListsAt w a n A (fun _=>N) C) (hI:∀ i,i < n->IntsAt w (A i) N (F i)) (hlow:Low w.heap.size a n A (fun _=>N)) (hT:Tabs w) :
 Calls prog 193 #[O I d,.slice a n cap] w fun e w'=>e=.returned (.string (bs (allT d F N n)))/\Below w.heap.size w w':=by
 have HC:=zZ (fun (u:World) (hu:Below w.heap.size w u) i (hi:i < n)=>z2c (A i) N (C i) d (F i) u hN1 hN hd1 (by omega) (hf i hi) ((hI i hi).below hu (hlow.2 i hi)) (fun y hy h0=>Nat.lt_of_lt_of_le (hlow.2 i hi y hy h0) hu.size) (hT.below hu));have HA:=zZ (fun (u:World) (hu:Below w.heap.size w u)=>hA.below hu hlow.1);have HBD:=zZ (z7y d F N hN1 hN hd);have HSB:=zZ (fun i=>z1C d (F i) N hN1 hN (by omega));have HNE:Hid (allT d F N n ≠ []):=fun h=>by
  have:=(z7y d F N hN1 hN hd n).1;rw [h] at this;simp at this;omega
 obtain ⟨b,off,rfl,hcell⟩:=hA.open (by omega);have HCL:=zZ hcell;have HBL:Hid (b < w.heap.size):=by
  have:=hlow.1 _ rfl (by omega:0 < n);exact this
 clear hf hA hI hlow hT hcell
 go_enter Tryz.func193,Tryz.ntmps193
 go_wp2
 go_loopw [7,10] (fun _ iv wr=>∃ i:Nat,i<=n/\iv=O I i/\Hid (Lib.IsBuilderF 278 5 w.heap.size w.heap.size (Lib.byteCells (allT d F N i)) wr/\Below w.heap.size w wr/\w.heap.size < wr.heap.size)) (fun _ iv _=>n - (intOf iv).toNat)
 case atStart=>exact ⟨0,Nat.zero_le _,rfl,z5N w,zX.alloc zY _,by simp⟩
 case round =>
  obtain ⟨i,hi,rfl,HR⟩:=hrel
  by_cases hlt:i < n
  . have hc1:wr.cell? ⟨b,off+i,none⟩=some (.slice (A i) N (C i)):=(HR.out.2.1.cell (p:=⟨b,off+i,none⟩) HBL.out).trans (HCL.out i hlt)
    have HC1:=zZ (fun (u:World) (hu:Below wr.heap.size wr u)=>HC.out u (HR.out.2.1.trans (hu.mono HR.out.2.1.size)) i hlt);have HW:=zZ (fun (u:World) (hu:Below wr.heap.size wr u)=>z5M 278 z4Q w.heap.size w.heap.size _ (bs (subT d (F i) N)) u (z2A HR.out.1 hu) (by rw [z0e];have:=z3l d (F i) N;omega) (by rw [Lib.byteCells_length,z0e];have:=HSB.out i;have:=(HBD.out i).2;omega) (Nat.le_trans HR.out.2.1.size hu.size));have HE:Hid (Lib.byteCells (allT d F N i) ++ Lib.strCells (bs (subT d (F i) N))=Lib.byteCells (allT d F N (i+1))):=by show _=_;rw [y1s,z8W];rfl
    have hz:(bs (subT d (F i) N)).size<=424:=by rw [z0e];exact HSB.out i
    generalize bs (subT d (F i) N)=S at *
    go_wp2_with (first
     | (go_at_call 221;refine (HC1.out _ ?_).mono ?_;(first | exact Below.refl _ _ | exact zX.drew);rintro e w1 ⟨rfl,hb1⟩;have HB1:Hid (Below wr.heap.size wr w1):=(⟨hb1.os,hb1.tape,hb1.output,hb1.size,hb1.block⟩:Below wr.heap.size wr w1);clear hb1 HC1)
     | (go_at_call 200;refine (HW.out _ ?_).mono ?_;exact HB1.out;rintro e w2 ⟨rfl,hbl2,hb2⟩;have HB2:Hid (Lib.IsBuilderF 278 5 w.heap.size w.heap.size (Lib.byteCells (allT d F N (i+1))) w2/\Below w.heap.size w w2/\w.heap.size < w2.heap.size):=⟨.inr (by rw [← HE.out];exact hbl2),HR.out.2.1.trans ((HB1.out.mono HR.out.2.1.size).trans hb2),Nat.lt_of_lt_of_le HR.out.2.2 (Nat.le_trans HB1.out.size hb2.size)⟩;clear hbl2 hb2 HW))
    go_roundw
    case rel=>exact ⟨i+1,by omega,by go_num,HB2.out⟩
    case measure=>simp [intOf];omega
  . have e:i=n:=by omega
    subst e;have HST:=zZ (fun (u:World) (hu:Below wr.heap.size wr u)=>z4u 278 w.heap.size w.heap.size (allT d F N i) u (z2A HR.out.1 hu) HNE.out)
    go_wp2_with (go_at_call 201;refine (HST.out _ ?_).mono ?_;(first | exact Below.refl _ _ | exact zX.drew);rintro e w1 ⟨rfl,hb1⟩;have HB1:Hid (Below w.heap.size w w1):=HR.out.2.1.trans ⟨hb1.os,hb1.tape,hb1.output,hb1.size,hb1.block⟩;clear hb1 HST)
    go_ret;exact ⟨rfl,HB1.out⟩
set_option maxHeartbeats 1000000 in
theorem y2p (a b:Option Addr) (n c c':Nat) (l r:Nat->Int) (w:World) (hn:n<=32) (hbl:∀ j,j < n->-4096<=l j/\l j<=4096) (hbr:∀ j,j < n->-4096<=r j/\r j<=4096) (hI:IntsAt w a n l) (hJ:IntsAt w b n r)
 (hlow:∀ y,a=some y->0 < n->y.block < w.heap.size) (hlow2:∀ y,b=some y->0 < n->y.block < w.heap.size) :
 Calls prog 248 #[.slice a n c,.slice b n c'] w fun e w'=>e=.returned (.slice (some ⟨w.heap.size,0,none⟩) n n)/\w'.rowIs w.heap.size 3 n (cutV n (sideL l r))/\Below w.heap.size w w':=by
 have hmk:=run_make_row' (P:=prog) 30 3 (O I 0) 8 Tryz.underlying30 z1j rfl .i64 .i64 n (by omega) (by omega);have HI:=zZ (fun u (h:Below w.heap.size w u)=>hI.belowB h hlow);have HJ:=zZ (fun u (h:Below w.heap.size w u)=>hJ.belowB h hlow2);have HBL:=zZ hbl;have HBR:=zZ hbr;clear hI hlow hJ hlow2 hbl hbr
 go_enter Tryz.func248,Tryz.ntmps248
 go_wp2;clear hmk
 go_loopw [6,12] (fun _ i wr=>∃ j:Nat,j<=n/\i=O I j/\Hid (wr.rowIs w.heap.size 3 n (cutV j (sideL l r))/\Below w.heap.size w wr)) (fun _ i _=>n - (intOf i).toNat)
 case atStart=>exact ⟨0,Nat.zero_le _,rfl,(World.rowIs_made w (O I 0) n 3).congr fun i _=>by simp [cutV,cutI],zX.alloc zY _⟩
 case round =>
  obtain ⟨j,hj,rfl,HR⟩:=hrel
  by_cases hlt:j < n
  . obtain ⟨bb,off,hx,hc⟩:=(HI.out wr HR.out.2).open (by omega)
    obtain ⟨bb2,off2,hx2,hc2⟩:=(HJ.out wr HR.out.2).open (by omega);have hcj:=hc j hlt;have hcj2:=hc2 j hlt;have hc1:=HR.out.1.cell hlt;have hf1:=HR.out.1.frozen j;unfold cutV at hc1;have b1:=HBL.out j hlt;have b2:=HBR.out j hlt;have HSD:Hid (sideL l r j=l j - r j):=rfl;have wf:IntKind.i64.wrap (l j - r j)=l j - r j:=by rw [IntKind.wrap_i64];omega
    clear hc hc2;subst hx hx2;go_wp2
    go_region
    all_goals go_wp2
    go_roundw
    case rel=>exact ⟨j+1,by omega,by go_num,z2b rfl (HR.out.1.set j _),(HR.out.2.setCell (p:=⟨w.heap.size,j,none⟩) zY _).drew⟩
    case measure=>simp [intOf];omega
  . have e:j=n:=by omega
    subst e;go_wp2;go_ret;exact ⟨rfl,HR.out.1,HR.out.2⟩
set_option maxHeartbeats 1000000 in
theorem z8X (a b:Option Addr) (n c c':Nat) (l r:Nat->Int) (w:World) (hn:n<=32) (hbl:∀ j,j < n->-4096<=l j/\l j<=4096) (hbr:∀ j,j < n->-4096<=r j/\r j<=4096) (hI:IntsAt w a n l) (hJ:IntsAt w b n r)
 (hlow:∀ y,a=some y->0 < n->y.block < w.heap.size) (hlow2:∀ y,b=some y->0 < n->y.block < w.heap.size) :
 Calls prog 249 #[.slice a n c,.slice b n c'] w fun e w'=>e=.returned (.slice (some ⟨w.heap.size,0,none⟩) n n)/\w'.rowIs w.heap.size 3 n (cutV n (midL l r))/\Below w.heap.size w w':=by
 have hmk:=run_make_row' (P:=prog) 30 3 (O I 0) 8 Tryz.underlying30 z1j rfl .i64 .i64 n (by omega) (by omega);have HI:=zZ (fun u (h:Below w.heap.size w u)=>hI.belowB h hlow);have HJ:=zZ (fun u (h:Below w.heap.size w u)=>hJ.belowB h hlow2);have HBL:=zZ hbl;have HBR:=zZ hbr;clear hI hlow hJ hlow2 hbl hbr
 go_enter Tryz.func249,Tryz.ntmps249
 go_wp2;clear hmk
 go_loopw [6,12] (fun _ i wr=>∃ j:Nat,j<=n/\i=O I j/\Hid (wr.rowIs w.heap.size 3 n (cutV j (midL l r))/\Below w.heap.size w wr)) (fun _ i _=>n - (intOf i).toNat)
 case atStart=>exact ⟨0,Nat.zero_le _,rfl,(World.rowIs_made w (O I 0) n 3).congr fun i _=>by simp [cutV,cutI],zX.alloc zY _⟩
 case round =>
  obtain ⟨j,hj,rfl,HR⟩:=hrel
  by_cases hlt:j < n
  . obtain ⟨bb,off,hx,hc⟩:=(HI.out wr HR.out.2).open (by omega)
    obtain ⟨bb2,off2,hx2,hc2⟩:=(HJ.out wr HR.out.2).open (by omega);have hcj:=hc j hlt;have hcj2:=hc2 j hlt;have hc1:=HR.out.1.cell hlt;have hf1:=HR.out.1.frozen j;unfold cutV at hc1;have b1:=HBL.out j hlt;have b2:=HBR.out j hlt;have wf:IntKind.i64.wrap (l j+r j)=l j+r j:=by rw [IntKind.wrap_i64];omega
    clear hc hc2;subst hx hx2;go_wp2
    go_region
    all_goals go_wp2
    go_roundw
    case rel=>exact ⟨j+1,by omega,by go_num,z2b rfl (HR.out.1.set j _),(HR.out.2.setCell (p:=⟨w.heap.size,j,none⟩) zY _).drew⟩
    case measure=>simp [intOf];omega
  . have e:j=n:=by omega
    subst e;go_wp2;go_ret;exact ⟨rfl,HR.out.1,HR.out.2⟩
end Go.Proofs.YtlncjgnomhpjnabGreatDoor
