import Derived.Test.YtlncjgnomhpjnabGreatDoorQL45
namespace Go.Proofs.YtlncjgnomhpjnabGreatDoor
open Go.Value renaming int → O
open Go.IntKind renaming i64 → I
open Go.Proofs.Tryz
open Go.RowKit Go.Deep
set_option linter.unusedVariables false
set_option maxHeartbeats 1000000 in
theorem z7p (c0 c1 c2 c3 c4 c5 c6 c7:Int) (a:Option Addr) (n cap:Nat) (A:Nat->Option Addr) (L C:Nat->Nat) (F:Nat->Nat->Int) (w:World) (hn:n<=17592186044416) (hL:∀ i,i < n->L i<=17592186044416)
 (hA:ListsAt w a n A L C) (hI:∀ i,i < n->IntsAt w (A i) (L i) (F i)) (hlow:Low w.heap.size a n A L) :
 Calls prog 141 #[.agg #[O I c0,O I c1,O I c2,O I c3,O I c4,O I c5,O I c6,O I c7],.slice a n cap] w fun e w' =>
  e=.returned (O I (encE c0 c1 c2 c3 c4 c5 c6 c7 n L F))/\Below w.heap.size w w':=by
 have hb0:Below w.heap.size w (w.alloc (.cells #[O I c0,O I c1,O I c2,O I c3,O I c4,O I c5,O I c6,O I c7] 23)):=zX.alloc zY _;have HB0:=zZ hb0;have HRI:=zZ (fun u=>y5j c0 c1 c2 c3 c4 c5 c6 c7 u);clear hb0;unfold encE
 by_cases hr:z2r c0 c1 c2 c3 c4 c5 c6 c7=true
 . rw [if_pos hr]
   have HR:=zZ hr;obtain ⟨hc0,hc4,hc2,d,rfl,h1,h2⟩:=y1u hr;have lowU:∀ u,Below w.heap.size w u->Low u.heap.size a n A L:=fun u hu=>⟨fun x hx h0=>zP (hlow.1 x hx h0) hu.size,fun i hi x hx h0=>zP (hlow.2 i hi x hx h0) hu.size⟩
   have HEV:=zZ (fun (u:World) (hu:Below w.heap.size w u)=>y6L 0 300 c0 c2 c3 c4 c5 c6 c7 d a n cap A L C F u hc0 zU zU hn hL (hA.below hu hlow.1) (fun i hi=>(hI i hi).below hu (hlow.2 i hi)) (lowU u hu));rw [Int.toNat_natCast];clear hA hI hlow hL lowU hr
   by_cases hs:z9X c0 d n 0 300 L F
   . rw [if_pos hs]
     have HS:=zZ hs;clear hs
     go_enter func141,ntmps141
     go_wp2_with (first
      | (go_at_call 208;refine (HRI.out _).mono ?_;rintro e u1 ⟨he,hb⟩;have he:=he.true_of HR.out;subst he;obtain ⟨hc1,hf1⟩:=z2J hb;have hs1:w.heap.size < u1.heap.size:=by {have:=hb.size;simp at this;omega};have HB1:=zZ (HB0.out.trans (hb.mono (by simp)));clear hb hf1 HRI HB0)
      | (go_at_call 209;refine (HEV.out _ ?_).mono ?_;exact HB1.out;rintro e u2 ⟨he,hb⟩;have he:=he.true_of HS.out;subst he;have HB2:=zZ (HB1.out.trans (hb.mono HB1.out.size));clear hb HEV HB1))
     go_ret;exact ⟨rfl,HB2.out⟩
   . rw [if_neg hs]
     have HS:=zZ hs;clear hs
     go_enter func141,ntmps141
     go_wp2_with (first
      | (go_at_call 208;refine (HRI.out _).mono ?_;rintro e u1 ⟨he,hb⟩;have he:=he.true_of HR.out;subst he;obtain ⟨hc1,hf1⟩:=z2J hb;have hs1:w.heap.size < u1.heap.size:=by {have:=hb.size;simp at this;omega};have HB1:=zZ (HB0.out.trans (hb.mono (by simp)));clear hb hf1 HRI HB0)
      | (go_at_call 209;refine (HEV.out _ ?_).mono ?_;exact HB1.out;rintro e u2 ⟨he,hb⟩;have he:=he.false_of HS.out;subst he;have HB2:=zZ (HB1.out.trans (hb.mono HB1.out.size));clear hb HEV HB1))
     go_ret;exact ⟨rfl,HB2.out⟩
 . rw [if_neg hr]
   have HR:=zZ hr;clear hr hA hI hlow hL
   go_enter func141,ntmps141
   go_wp2_with (go_at_call 208;refine (HRI.out _).mono ?_;rintro e u1 ⟨he,hb⟩;have he:=he.false_of HR.out;subst he;have HB1:=zZ (HB0.out.trans (hb.mono (by simp)));clear hb HRI HB0)
   go_ret;exact ⟨rfl,HB1.out⟩
theorem y5l (s:Nat) (hs:1<=s):nBlk 0 s=0:=by
 unfold nBlk;exact Nat.div_eq_of_lt zU
theorem y6O {k s:Nat} (hs:1<=s) (h:k % s=0):nBlk (k+1) s=nBlk k s+1:=by
 unfold nBlk;have e:=Nat.div_add_mod k s;rw [h,Nat.add_zero] at e;rw [show k+1+s - 1=k+s by omega,Nat.add_div_right _ zU,show k+s - 1=s * (k / s)+(s - 1) by omega,Nat.mul_add_div zU,Nat.div_eq_of_lt (show s - 1 < s by omega)]
theorem y8u {k s:Nat} (hs:1<=s) (h:¬ k % s=0):nBlk (k+1) s=nBlk k s:=by
 unfold nBlk;have e:=Nat.div_add_mod k s;have hm:=Nat.mod_lt k (show s > 0 by omega);rw [show k+1+s - 1=k+s by omega,Nat.add_div_right _ zU,show k+s - 1=s * (k / s)+(k % s - 1+s) by omega,Nat.mul_add_div zU,Nat.add_div_right _ zU,Nat.div_eq_of_lt (show k % s - 1 < s by omega)]
def pntC (seek k:Nat):Nat:=if seek=0 then 0 else nBlk k seek
theorem y5m (seek:Nat):pntC seek 0=0:=by
 unfold pntC;split
 . rfl
 . exact y5l _ zU
theorem y6P {seek k:Nat} (h0:¬ seek=0) (h:k % seek=0):pntC seek (k+1)=pntC seek k+1:=by
 unfold pntC;rw [if_neg h0,if_neg h0,y6O zU h]
theorem y8v {seek k:Nat} (h:¬ k % seek=0):pntC seek (k+1)=pntC seek k:=by
 unfold pntC;split
 . rfl
 . exact y8u zU h
theorem z9z {k:Nat}:pntC 0 k=0:=if_pos rfl
theorem y8w (seek k:Nat):pntC seek k<=k:=by
 unfold pntC;split
 . omega
 . exact z1K zU
set_option maxHeartbeats 400000 in
theorem y0Q (c0 c1 c3 c4:Int) (B S:Nat) (w:World) (hB:1<=B) (hB2:B<=100000) (hS:S<=100000) :
 Calls prog 214 #[.agg #[O I c0,O I c1,O I B,O I c3,O I c4,O I S]] w fun e w'=>e=.returned (O I (nBlk S B))/\Below w.heap.size w w':=by
 obtain ⟨x,hx⟩:∃ x,x=S+B:=⟨_,rfl⟩;have e1:I.wrap ((S:Int)+(B:Int))=(x:Int):=by rw [zK];omega
 obtain ⟨y,hy⟩:∃ y,y=S+B - 1:=⟨_,rfl⟩;have e2:I.wrap ((x:Int) - 1)=(y:Int):=by rw [zK];omega
 have hq:y / B<=200000:=zO (Nat.div_le_self _ _) zU;have e3:((y:Int)).tdiv (B:Int)=((y / B:Nat):Int):=by rw [zF zU];rfl
 have e0:¬ (B:Int)=0:=zU
 have HQ:Hid (y / B=nBlk S B):=by show _=_;unfold nBlk;rw [hy]
 generalize y / B=q at *;have e4:I.wrap (q:Int)=(q:Int):=by rw [zK];omega
 clear hx hy
 go_enter func214,ntmps214
 go_wp2;go_ret;exact ⟨by rw [← HQ.out];rfl,zX.alloc zY _⟩
theorem z8r:(prog.info? 23).map (·.size)=some 8:=zT
set_option maxRecDepth 4000 in
set_option maxHeartbeats 1000000 in
theorem y0R (c0 c1 c3:Int) (B S seek:Nat) (w:World) (hB:1<=B) (hB2:B<=100000) (hS:S<=300) (hk:seek<=100000) :
 Calls prog 144 #[.agg #[O I c0,O I c1,O I B,O I c3,O I seek,O I S]] w fun e w'=>e=.returned (O I (nPts S B seek))/\Below w.heap.size w w':=by
 have HBL:=zZ (fun u=>y0Q c0 c1 c3 seek B S u hB hB2 zU);have HNB:=zZ (z1K (S:=S) (B:=B) hB)
 go_enter func144,ntmps144
 go_wp2
 go_loopw [3,4] (fun nv kv wr=>∃ k:Nat,k<=nBlk S B/\kv=O I k/\nv=O I (pntC seek k)/\Hid (Below w.heap.size w wr/\Bx wr w.heap.size 39 #[O I c0,O I c1,O I B,O I c3,O I seek,O I S])) (fun _ kv _=>nBlk S B - (intOf kv).toNat)
 case atStart=>exact ⟨0,zJ _,rfl,by rw [y5m];rfl,zX.alloc zY _,Bx.new _ _ _⟩
 case round =>
  obtain ⟨k,hk,rfl,rfl,HR⟩:=hrel;have x0:=HR.out.2.cell 0;have x1:=HR.out.2.cell 1;have x2:=HR.out.2.cell 2;have x3:=HR.out.2.cell 3;have x4:=HR.out.2.cell 4;have x5:=HR.out.2.cell 5;have hnb:=HNB.out
  by_cases hlt:k < nBlk S B
  . have hpc:=y8w seek k
    by_cases hs:seek=0
    . have HP:Hid (pntC seek (k+1)=pntC seek k):=by show _=_;rw [hs,z9z,z9z]
      have d0:decide ((0:Int) < (seek:Int))=false:=zM zU;have d1:¬ (0:Int) < (seek:Int):=zU
      clear hs;generalize pntC seek k=pc at *
      go_wp2_with (first
       | (go_at_call 214;refine (HBL.out _).mono ?_;rintro e u1 ⟨rfl,hb⟩;have HR1:=zZ (And.intro (HR.out.1.trans (hb.mono HR.out.1.size)) (HR.out.2.below hb));have y4:=HR1.out.2.cell 4;clear hb))
      go_roundw
      case rel=>exact ⟨k+1,zU,zS,by rw [HP.out],HR1.out.1,HR1.out.2⟩
      case measure=>simp [intOf];omega
    . have s2:(0:Int) < (seek:Int):=zU
      have s3:¬ (seek:Int)=0:=zU
      by_cases hm:k % seek=0
      . have HP:=zZ (y6P hs hm)
        have s5:((k:Int)).tmod (seek:Int)=0:=by rw [zG zU];omega
        have s6:(k:Int) % (seek:Int)=0:=zU
        clear hs hm;generalize pntC seek k=pc at *
        go_wp2_with (first
        | (go_at_call 214;refine (HBL.out _).mono ?_;rintro e u1 ⟨rfl,hb⟩;have HR1:=zZ (And.intro (HR.out.1.trans (hb.mono HR.out.1.size)) (HR.out.2.below hb));have y4:=HR1.out.2.cell 4;clear hb))
        go_roundw
        case rel=>exact ⟨k+1,zU,zS,by rw [HP.out];go_num,HR1.out.1,HR1.out.2⟩
        case measure=>simp [intOf];omega
      . have HP:=zZ (y8v (seek:=seek) hm)
        have e6:(k:Int) % (seek:Int)=((k % seek:Nat):Int):=rfl;have s5:((k:Int).tmod (seek:Int) == 0)=false:=by rw [zG zU,e6];simp;omega
        have s6:((k:Int) % (seek:Int) == 0)=false:=by rw [e6];simp;omega
        have s7:¬ (k:Int).tmod (seek:Int)=0:=by rw [zG zU,e6];omega
        clear hs hm e6;generalize pntC seek k=pc at *
        go_wp2_with (first
        | (go_at_call 214;refine (HBL.out _).mono ?_;rintro e u1 ⟨rfl,hb⟩;have HR1:=zZ (And.intro (HR.out.1.trans (hb.mono HR.out.1.size)) (HR.out.2.below hb));have y4:=HR1.out.2.cell 4;clear hb))
        go_roundw
        case rel=>exact ⟨k+1,zU,zS,by rw [HP.out],HR1.out.1,HR1.out.2⟩
        case measure=>simp [intOf];omega
  . have e:k=nBlk S B:=zU
    subst e;have HNP:Hid (pntC seek (nBlk S B)=nPts S B seek):=rfl;generalize pntC seek (nBlk S B)=np at *
    go_wp2_with (first
     | (go_at_call 214;refine (HBL.out _).mono ?_;rintro e u1 ⟨rfl,hb⟩;have HR1:=zZ (And.intro (HR.out.1.trans (hb.mono HR.out.1.size)) (HR.out.2.below hb));clear hb))
    go_ret;exact ⟨by rw [← HNP.out];rfl,HR1.out.1⟩
end Go.Proofs.YtlncjgnomhpjnabGreatDoor
