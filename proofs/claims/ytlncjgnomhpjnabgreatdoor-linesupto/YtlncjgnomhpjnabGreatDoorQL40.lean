import Derived.Test.YtlncjgnomhpjnabGreatDoorQL37
import Derived.Test.YtlncjgnomhpjnabGreatDoorQL23
namespace Go.Proofs.YtlncjgnomhpjnabGreatDoor
open Go.Value renaming int → O
open Go.IntKind renaming i64 → I
open Go.Proofs.Tryz
open Go.RowKit Go.Deep
set_option linter.unusedVariables false
def z6I (c0 c1 c2 c3 c4 c5 c6 c7:Int) (n:Nat) (L:Nat->Nat) (F:Nat->Nat->Int):Prop :=
 z2r c0 c1 c2 c3 c4 c5 c6 c7=true/\z9X c0 c1.toNat n 0 300 L F
open Classical in
noncomputable def encE (c0 c1 c2 c3 c4 c5 c6 c7:Int) (n:Nat) (L:Nat->Nat) (F:Nat->Nat->Int):Int :=
 if z2r c0 c1 c2 c3 c4 c5 c6 c7=true then (if z9X c0 c1.toNat n 0 300 L F then 0 else 2) else 1
open Classical in
noncomputable def encS (c0 c1 c2 c3 c4 c5 c6 c7:Int) (n:Nat) (L:Nat->Nat) (F:Nat->Nat->Int):ByteArray :=
 if z6I c0 c1 c2 c3 c4 c5 c6 c7 n L F then bs (z4b c1.toNat n c2.toNat c3.toNat c4.toNat F (L 0)) else ⟨#[]⟩
theorem y5i {c0 c1 c2 c3 c4 c5 c6 c7:Int} {n:Nat} {L:Nat->Nat} {F:Nat->Nat->Int} (h:z6I c0 c1 c2 c3 c4 c5 c6 c7 n L F) :
 encS c0 c1 c2 c3 c4 c5 c6 c7 n L F=bs (z4b c1.toNat n c2.toNat c3.toNat c4.toNat F (L 0))/\encE c0 c1 c2 c3 c4 c5 c6 c7 n L F=0:=by
 unfold encS encE;rw [if_pos h,if_pos h.1,if_pos h.2];exact ⟨rfl,rfl⟩
theorem y9p {c0 c1 c2 c3 c4 c5 c6 c7:Int} {n:Nat} {L:Nat->Nat} {F:Nat->Nat->Int} (h:¬ z6I c0 c1 c2 c3 c4 c5 c6 c7 n L F):encE c0 c1 c2 c3 c4 c5 c6 c7 n L F=1∨encE c0 c1 c2 c3 c4 c5 c6 c7 n L F=2:=by
 unfold encE
 by_cases h1:z2r c0 c1 c2 c3 c4 c5 c6 c7=true
 . rw [if_pos h1,if_neg (fun h2=>h ⟨h1,h2⟩)];exact .inr rfl
 . rw [if_neg h1];exact .inl rfl
set_option maxHeartbeats 1000000 in
theorem z4x (c0 c1 c2 c3 c4 c5 c6 c7:Int) (a:Option Addr) (n cap:Nat) (A:Nat->Option Addr) (L C:Nat->Nat) (F:Nat->Nat->Int) (w:World) (hn:n<=17592186044416) (hL:∀ i,i < n->L i<=17592186044416)
 (hA:ListsAt w a n A L C) (hI:∀ i,i < n->IntsAt w (A i) (L i) (F i)) (hlow:Low w.heap.size a n A L) :
 Calls prog 33 #[.agg #[O I c0,O I c1,O I c2,O I c3,O I c4,O I c5,O I c6,O I c7],.slice a n cap] w fun e w' =>
  e=.returned (O I (encE c0 c1 c2 c3 c4 c5 c6 c7 n L F))/\Below w.heap.size w w':=by
 have hb0:Below w.heap.size w (w.alloc (.cells #[O I c0,O I c1,O I c2,O I c3,O I c4,O I c5,O I c6,O I c7] 23)):=zX.alloc zY _;have HB0:=zZ hb0;have HRC:=zZ (fun u=>z5R c0 c1 c2 c3 c4 c5 c6 c7 u);clear hb0;unfold encE;cases hr:z2r c0 c1 c2 c3 c4 c5 c6 c7 with
 | false =>
  rw [hr] at HRC;rw [if_neg (by simp)];clear hr hA hI hlow hL
  go_enter func33,ntmps33
  go_wp2_with (go_at_call 59;refine (HRC.out _).mono ?_;rintro e u1 ⟨rfl,hb⟩;have HB1:=zZ (HB0.out.trans (hb.mono (by simp)));clear hb HRC HB0)
  go_ret;exact ⟨rfl,HB1.out⟩
 | true =>
  rw [hr] at HRC;rw [if_pos rfl];obtain ⟨hc0,hc4,hc2,d,rfl,h1,h2⟩:=y1u hr;have lowU:∀ u,Below w.heap.size w u->Low u.heap.size a n A L:=fun u hu=>⟨fun x hx h0=>zP (hlow.1 x hx h0) hu.size,fun i hi x hx h0=>zP (hlow.2 i hi x hx h0) hu.size⟩
  have HIB:=zZ (fun (u:World) (hu:Below w.heap.size w u)=>z9Y c0 c2 c3 c4 c5 c6 c7 d a n cap A L C F u hc0 zU zU hn hL (hA.below hu hlow.1) (fun i hi=>(hI i hi).below hu (hlow.2 i hi)) (lowU u hu));rw [Int.toNat_natCast];clear hA hI hlow hL lowU hr
  by_cases hs:z9X c0 d n 0 300 L F
  . rw [if_pos hs]
    have HS:=zZ hs;clear hs
    go_enter func33,ntmps33
    go_wp2_with (first
     | (go_at_call 59;refine (HRC.out _).mono ?_;rintro e u1 ⟨rfl,hb⟩;obtain ⟨hc1,hf1⟩:=z2J hb;have hs1:w.heap.size < u1.heap.size:=by {have:=hb.size;simp at this;omega};have HB1:=zZ (HB0.out.trans (hb.mono (by simp)));clear hb hf1 HRC HB0)
     | (go_at_call 60;refine (HIB.out _ ?_).mono ?_;exact HB1.out;rintro e u2 ⟨he,hb⟩;have he:=he.true_of HS.out;subst he;have HB2:=zZ (HB1.out.trans (hb.mono HB1.out.size));clear hb HIB HB1))
    go_ret;exact ⟨rfl,HB2.out⟩
  . rw [if_neg hs]
    have HS:=zZ hs;clear hs
    go_enter func33,ntmps33
    go_wp2_with (first
     | (go_at_call 59;refine (HRC.out _).mono ?_;rintro e u1 ⟨rfl,hb⟩;obtain ⟨hc1,hf1⟩:=z2J hb;have hs1:w.heap.size < u1.heap.size:=by {have:=hb.size;simp at this;omega};have HB1:=zZ (HB0.out.trans (hb.mono (by simp)));clear hb hf1 HRC HB0)
     | (go_at_call 60;refine (HIB.out _ ?_).mono ?_;exact HB1.out;rintro e u2 ⟨he,hb⟩;have he:=he.false_of HS.out;subst he;have HB2:=zZ (HB1.out.trans (hb.mono HB1.out.size));clear hb HIB HB1))
    go_ret;exact ⟨rfl,HB2.out⟩
structure CfgK (ch d B c3 c4 c5 c6 c7:Nat):Prop where
 ch1:1<=ch
 ch4:ch<=4
 d4:4<=d
 d12:d<=12
 B1:1<=B
 B32:B<=32
 c3b:c3 < 65536
 c4b:c4 < 256
 c51:1<=c5
 c58:c5<=8
 c61:1<=c6
 c616:c6<=16
 c71:1<=c7
 c78:c7<=8
end Go.Proofs.YtlncjgnomhpjnabGreatDoor
