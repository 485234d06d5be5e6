import Derived.Test.YtlncjgnomhpjnabGreatDoorQC12
import Derived.Test.YtlncjgnomhpjnabGreatDoorQC3
import Derived.Deep.RegionHeld3
import Derived.Test.YtlncjgnomhpjnabGreatDoorQC2
import Derived.Test.YtlncjgnomhpjnabGreatDoorQC15
import Derived.WalkMore
import Derived.Test.YtlncjgnomhpjnabGreatDoorQC10
import Derived.Test.YtlncjgnomhpjnabGreatDoorQC13
import Derived.ArgAppend
import Derived.Test.YtlncjgnomhpjnabGreatDoorQC0
namespace Go.Proofs.YtlncjgnomhpjnabGreatDoor
open Go.Value renaming int → O
open Go.IntKind renaming i64 → I
open Go.Proofs.Tryz (prog)
open Go.RowKit Go.Deep
set_option linter.unusedVariables false
theorem y2q (T:TypeId) (B b:Nat) (p:Value) (w:World) (hbk:w.heap[b]?=some (.cells #[p,.slice none 0 0] T (0,0))) :
 Calls prog 201 #[.pointer (some ⟨b,0,none⟩)] w fun e w'=>e=.returned (.string ⟨#[]⟩)/\Below B w w':=by
 have c1:w.drew.cell? ⟨b,1,none⟩=some (.slice none 0 0):=by
  have:w.drew.heap[b]?=some (.cells #[p,.slice none 0 0] T (0,0)):=hbk;rw [Lib.cell_of_heap this];rfl
 have hSD:(Builtin.unsafeSliceData_ #[33] 322 #[.slice none 0 0]).run prog w.drew=.ok (.pointer none) w.drew:=Lib.run_unsafeSliceData_nil _ _ _ _ _;have hUS:(Builtin.unsafeString_ #[322,3] 9 #[.pointer none,O I 0]).run prog w.drew=.ok (.string ⟨#[]⟩) w.drew:=Lib.run_unsafeString_none _ _ _ _ _;clear hbk
 go_enter Tryz.func201,Tryz.ntmps201
 go_wp2
 go_region
 all_goals (go_wp2;go_ret;exact ⟨rfl,Below.drew (Below.refl B w)⟩)
theorem y3L (B b:Nat) (p:Value) (w:World) (hbk:w.heap[b]?=some (.cells #[p,.slice none 0 0] 326 (0,0))) :
 Calls prog 258 #[.pointer (some ⟨b,0,none⟩)] w fun e w'=>e=.returned (.string ⟨#[]⟩)/\Below B w w':=by
 have HS:=zZ (y2q 326 B b p w hbk);clear hbk
 go_enter Tryz.func258,Tryz.ntmps258
 go_wp2_with (go_at_call 201;refine HS.out.mono ?_;rintro e w1 ⟨rfl,hb⟩;have HB:=zZ hb;clear hb HS)
 go_ret;exact ⟨rfl,HB.out⟩
def WrN (w:World) (B b:Nat) (T:List UInt8):Prop:=Wr w B b T/\(T=[]->w.heap[b]?=some (.cells #[.pointer none,.slice none 0 0] 326 (0,0)))
theorem y8m (B b:Nat) (T:List UInt8) (w:World) (h:WrN w B b T) :
 Calls prog 258 #[.pointer (some ⟨b,0,none⟩)] w fun e w'=>e=.returned (.string (bs T))/\Below B w w':=by
 by_cases h0:T=[]
 . have hn:=h.2 h0
   subst h0;exact y3L B b _ w hn
 . exact z8N B b T w h.1 h0
set_option maxRecDepth 4000 in
set_option maxHeartbeats 1000000 in
theorem z5T (T:List UInt8) (w:World) (hT:T.length<=100000) :
 Calls prog 207 #[.string (bs T)] w fun e w'=>e=.returned (.string (bs (z0u T T.length)))/\Below w.heap.size w w':=by
 have hz:(bs T).size=T.length:=z0e T;have HG:Hid (∀ k (h:k < (bs T).size),(bs T)[k]=T[k]'(by rw [hz] at h;exact h)):=fun k h=>z2J T k h
 have HSL:=zZ (z2j T);have HSS:=zZ (z8U T);generalize bs T=S at *;have HB0:Hid (WrN (w.alloc (.cells #[.pointer none,.slice none 0 0] 326)) w.heap.size w.heap.size []/\Below w.heap.size w (w.alloc (.cells #[.pointer none,.slice none 0 0] 326))) :=
  ⟨⟨.inl ⟨Nat.le_refl _,.slice none 0 0,blk_alloc_new _ _,⟨rfl,.inl ⟨rfl,rfl⟩⟩,by simp [Value.ownBlock]⟩,fun _=>blk_alloc_new _ _⟩,zX.alloc zY _⟩
 go_enter Tryz.func207,Tryz.ntmps207
 go_wp2
 go_loopw [4,7] (fun _ i wr=>∃ k:Nat,k<=T.length/\i=O I k/\Hid (WrN wr w.heap.size w.heap.size (z0u T k)/\Below w.heap.size w wr)) (fun _ i _=>T.length - (intOf i).toNat)
 case atStart=>exact ⟨0,Nat.zero_le _,rfl,HB0.out⟩
 case round =>
  obtain ⟨k,hk,rfl,HR⟩:=hrel
  by_cases hlt:k < T.length
  . have hkS:k < S.size:=by omega
    have hc:S[k].toNat < 256:=UInt8.toNat_lt _;have HE:Hid (z0u T (k+1)=z0u T k ++ binT (S[k].toNat:Nat) 8):=by show _=_;rw [HSS.out k hlt,HG.out k hkS]
    have HL:=zZ (HSL.out k);generalize hc0:S[k].toNat=c at *;have HW:=zZ (fun (u:World) (hu:Wr u w.heap.size w.heap.size (z0u T k)) (hs:w.heap.size<=u.heap.size)=>z0Q w.heap.size w.heap.size (z0u T k) (c:Int) 8 u hu (by decide) (by rw [HL.out];omega) hs);have e8:((8:Nat):Int)=8:=rfl;rw [e8] at HW
    go_wp2_with (go_at_call 257;refine (HW.out _ HR.out.1.1 HR.out.2.size).mono ?_;rintro e u1 ⟨rfl,hw1,hk1⟩;have HN:Hid (WrN u1 w.heap.size w.heap.size (z0u T (k+1))/\Below w.heap.size w u1):=⟨⟨by rw [HE.out];exact hw1,fun e=>by have:=HSL.out (k+1);rw [e] at this;simp at this⟩,HR.out.2.trans hk1.1⟩;clear hw1 hk1 HW)
    go_roundw
    case rel=>exact ⟨k+1,by omega,by go_num,HN.out⟩
    case measure=>simp [intOf];omega
  . have e:k=T.length:=by omega
    subst e;have HTX:=zZ (y8m w.heap.size w.heap.size (z0u T T.length) wr HR.out.1)
    go_wp2_with (go_at_call 258;refine HTX.out.mono ?_;rintro e u1 ⟨rfl,hb1⟩;have HB1:=zZ (HR.out.2.trans hb1);clear hb1 HTX)
    go_ret;exact ⟨rfl,HB1.out⟩
theorem z3a (T:List UInt8) (a b:Nat):(bs T).extract a b=bs ((T.drop a).take (b - a)):=by
 apply ByteArray.ext;have hd:((bs T).extract a b).data=(bs T).data.extract a b:=by simp
 rw [hd]
 show T.toArray.extract a b=((T.drop a).take (b - a)).toArray
 simp [List.extract_toArray,List.extract_eq_take_drop]
set_option maxHeartbeats 400000 in
theorem z7E (T:List UInt8) (c:UInt8) (w:World) (hT:T.length<=100000) :
 Calls prog 308 #[.string (bs T),.int .u8 c.toNat] w fun e w'=>∃ k,k<=T.length/\e=.returned (.string (bs (T.take k)))/\(∀ j,k<=j->j < T.length->T.getD j 0=c)/\(k=0∨T.getD (k - 1) 0 ≠ c)/\w'=w:=by
 have HG:Hid (∀ k,k<=T.length->∀ j (h:j < (bs (T.take k)).size),(bs (T.take k))[j]=T.getD j 0):=fun k hk j h=>by
  have h2:j < (T.take k).length:=by rw [z0e] at h;exact h
  have h3:j < T.length:=by rw [List.length_take] at h2;omega
  rw [z2J,List.getD_eq_getElem?_getD,List.getElem?_eq_getElem h3,Option.getD_some,List.getElem_take]
 have HZ:Hid (∀ k,k<=T.length->(bs (T.take k)).size=k):=fun k hk=>by rw [z0e,List.length_take];omega
 have HX:Hid (∀ k,k+1<=T.length->(bs (T.take (k+1))).extract 0 k=bs (T.take k)):=fun k hk=>by rw [z1q,List.take_take];congr 2;omega
 have HT:Hid (bs T=bs (T.take T.length)):=by show _=_;rw [List.take_length]
 rw [HT.out];generalize hTT:(fun k=>bs (T.take k))=TT at *;have eT:∀ k,bs (T.take k)=TT k:=fun k=>by rw [← hTT]
 rw [eT];have HG2:Hid (∀ k,k<=T.length->∀ j (h:j < (TT k).size),(TT k)[j]=T.getD j 0):=by rw [← hTT];exact HG
 have HZ2:Hid (∀ k,k<=T.length->(TT k).size=k):=by rw [← hTT];exact HZ
 have HX2:Hid (∀ k,k+1<=T.length->(TT (k+1)).extract 0 k=TT k):=by rw [← hTT];exact HX
 have HFI:Hid (∀ k,bs (T.take k)=TT k):=eT;clear hTT eT HT HG HZ HX
 go_enter Tryz.func308,Tryz.ntmps308
 go_wp2
 go_loop [0] (fun sv=>∃ k:Nat,k<=T.length/\sv=.string (TT k)/\Hid (∀ j,k<=j->j < T.length->T.getD j 0=c)) (fun sv=>match sv with | .string s=>s.size | _=>0)
 case atStart=>exact ⟨T.length,Nat.le_refl _,rfl,fun j h1 h2=>absurd h2 (by omega)⟩
 case round =>
  obtain ⟨k,hk,rfl,HK⟩:=hrel;have hz:=HZ2.out k hk
  match k,hk with
  | 0,_ =>
   have HN:Hid (bs (T.take 0)=TT 0):=HFI.out 0;generalize TT 0=S at *;go_wp2;go_ret;exact ⟨0,Nat.zero_le _,by rw [HN.out];rfl,HK.out,.inl rfl,rfl⟩
  | k+1,hk =>
   have hx:=HX2.out k hk;have hg:=HG2.out (k+1) hk k (by omega);have HN:Hid (bs (T.take (k+1))=TT (k+1)):=HFI.out (k+1);have w1:IntKind.i64.wrap ((k+1:Nat):Int)=((k+1:Nat):Int):=by rw [IntKind.wrap_i64];omega
   have w2:IntKind.i64.wrap (((k+1:Nat):Int) - 1)=(k:Int):=by rw [IntKind.wrap_i64];omega
   by_cases hc:T.getD k 0=c
   . have hb:(((TT (k+1))[k]'(by omega)).toNat:Int)=(c.toNat:Int):=by rw [hg,hc]
     have hb2:((TT (k+1))[k]'(by omega)).toNat=c.toNat:=by rw [hg,hc]
     have HK2:Hid (∀ j,k<=j->j < T.length->T.getD j 0=c):=fun j h1 h2=>by
      by_cases e:j=k
      . rw [e];exact hc
      . exact HK.out j (by omega) h2
     clear hg hc;go_wp2
     go_round
     case rel=>exact ⟨k,by omega,rfl,HK2.out⟩
     case measure =>
      show (TT k).size < (TT (k+1)).size
      rw [HZ2.out k (by omega),hz];omega
   . have hb2:¬ ((TT (k+1))[k]'(by omega)).toNat=c.toNat:=fun e=>hc (by rw [← hg];exact UInt8.toNat_inj.1 e)
     have hb:((((TT (k+1))[k]'(by omega)).toNat:Int) == (c.toNat:Int))=false:=by simp;omega
     have HC:=zZ hc;clear hg hc;go_wp2;go_ret;exact ⟨k+1,hk,by rw [HN.out];rfl,HK.out,.inr (by simpa using HC.out),rfl⟩
set_option maxHeartbeats 400000 in
theorem z9a (T:List UInt8) (c:UInt8) (w:World) (hT:T.length<=100000) :
 Calls prog 307 #[.string (bs T),.int .u8 c.toNat] w fun e w'=>∃ k,k<=T.length/\e=.returned (.string (bs (T.drop k)))/\(∀ j,j < k->T.getD j 0=c)/\(k=T.length∨T.getD k 0 ≠ c)/\w'=w:=by
 have HG:Hid (∀ k,k < T.length->∀ (h:0 < (bs (T.drop k)).size),(bs (T.drop k))[0]=T.getD k 0):=fun k hk h=>by
  rw [z2J,List.getD_eq_getElem?_getD,List.getElem?_eq_getElem hk,Option.getD_some,List.getElem_drop];simp
 have HZ:Hid (∀ k,k<=T.length->(bs (T.drop k)).size=T.length - k):=fun k hk=>by rw [z0e,List.length_drop]
 have HX:Hid (∀ k,k < T.length->(bs (T.drop k)).extract 1 (T.length - k)=bs (T.drop (k+1))):=fun k hk=>by
  rw [z3a]
  congr 1
  rw [List.drop_drop,List.take_of_length_le (by rw [List.length_drop];omega)]
 have HT:Hid (bs T=bs (T.drop 0)):=by show _=_;rw [List.drop_zero]
 rw [HT.out];generalize hTT:(fun k=>bs (T.drop k))=TT at *;have eT:∀ k,bs (T.drop k)=TT k:=fun k=>by rw [← hTT]
 rw [eT];have HG2:Hid (∀ k,k < T.length->∀ (h:0 < (TT k).size),(TT k)[0]=T.getD k 0):=by rw [← hTT];exact HG
 have HZ2:Hid (∀ k,k<=T.length->(TT k).size=T.length - k):=by rw [← hTT];exact HZ
 have HX2:Hid (∀ k,k < T.length->(TT k).extract 1 (T.length - k)=TT (k+1)):=by rw [← hTT];exact HX
 have HFI:Hid (∀ k,bs (T.drop k)=TT k):=eT;clear hTT eT HT HG HZ HX;generalize hn:T.length=n at *;have HN:=zZ hn;clear hn
 go_enter Tryz.func307,Tryz.ntmps307
 go_wp2
 go_loop [0] (fun sv=>∃ k:Nat,k<=n/\sv=.string (TT k)/\Hid (∀ j,j < k->T.getD j 0=c)) (fun sv=>match sv with | .string s=>s.size | _=>0)
 case atStart=>exact ⟨0,Nat.zero_le _,rfl,fun j h1=>absurd h1 (by omega)⟩
 case round =>
  obtain ⟨k,hk,rfl,HK⟩:=hrel;have hz:=HZ2.out k hk;have HFK:=zZ (HFI.out k)
  by_cases hlt:k < n
  . have hx:=HX2.out k hlt
    have hz1:=HZ2.out (k+1) hlt;generalize hr:n - k=r at *;have hr1:1<=r:=by omega
    have hg:=HG2.out k hlt (by omega);have hr2:n - (k+1) < r:=by omega
    have hr3:r<=100000:=by omega
    by_cases hc:T.getD k 0=c
    . have hb2:((TT k)[0]'(by omega)).toNat=c.toNat:=by rw [hg,hc]
      have HK2:Hid (∀ j,j < k+1->T.getD j 0=c):=fun j h1=>by
       by_cases e:j=k
       . rw [e];exact hc
       . exact HK.out j (by omega)
      clear hg hc hr;go_wp2
      go_round
      case rel=>exact ⟨k+1,by omega,rfl,HK2.out⟩
      case measure =>
       show (TT (k+1)).size < (TT k).size
       rw [hz1,hz];exact hr2
    . have hb2:¬ ((TT k)[0]'(by omega)).toNat=c.toNat:=fun e=>hc (by rw [← hg];exact UInt8.toNat_inj.1 e)
      have hb:((((TT k)[0]'(by omega)).toNat:Int) == (c.toNat:Int))=false:=by simp;omega
      have HC:=zZ hc;clear hg hc hr;go_wp2;go_ret;exact ⟨k,hk,by rw [HFK.out];rfl,HK.out,.inr HC.out,rfl⟩
  . have hz0:(TT k).size=0:=by omega
    clear hz;go_wp2;go_ret;exact ⟨k,hk,by rw [HFK.out];rfl,HK.out,.inl (by omega),rfl⟩
theorem y3M {X:ByteArray} (h:0 < X.size):¬ X.toList=[]:=fun e=>by
 rw [ByteArray.toList_eq] at e;have h1:X.data.toList.length=X.size:=by simp
 rw [e] at h1;simp at h1;omega
def FillP (T:List UInt8):Prop:=T.length < 8/\∀ j,j < T.length->T.getD j 0=48
theorem y3N {T:List UInt8} {k m:Nat} (h0:0 < T.length) (hk:k<=T.length) (h1:∀ j,k<=j->j < T.length->T.getD j 0=48) (h2:k=0∨T.getD (k - 1) 0 ≠ 48) (hm:m<=(T.take k).length) (h3:∀ j,j < m->(T.take k).getD j 0=48) (h4:m=(T.take k).length∨(T.take k).getD m 0 ≠ 48) :
 ((T.take k).drop m=[]↔∀ j,j < T.length->T.getD j 0=48):=by
 have hl:(T.take k).length=k:=by rw [List.length_take];omega
 have hg:∀ j,j < k->(T.take k).getD j 0=T.getD j 0:=fun j hj=>by
  rw [List.getD_eq_getElem?_getD,List.getD_eq_getElem?_getD,List.getElem?_take,if_pos hj]
 rw [hl] at hm h4;constructor
 . intro h j hj
   have hlen:=congrArg List.length h;rw [List.length_drop,hl] at hlen;simp at hlen
   by_cases hjk:j < k
   . rw [← hg j hjk];exact h3 j (by omega)
   . exact h1 j (by omega) hj
 . intro h
   have hk0:k=0:=by
    rcases h2 with e | e
    . exact e
    . by_cases hk0:k=0
      . exact hk0
      . exact absurd (h (k - 1) (by omega)) e
   subst hk0;simp
set_option maxRecDepth 4000 in
set_option maxHeartbeats 400000 in
theorem y5T (w:World):Calls prog 286 #[.string ⟨#[]⟩,.string ⟨#[48]⟩] w fun e w'=>e=.returned (.string ⟨#[]⟩)/\w'=w:=by
 go_enter Tryz.func286,Tryz.ntmps286
 go_wp2;go_ret;exact ⟨rfl,rfl⟩
set_option maxRecDepth 4000 in
set_option maxHeartbeats 400000 in
theorem y5U (T:List UInt8) (w:World) (hT:T.length<=100000) :
 Calls prog 286 #[.string (bs T),.string ⟨#[48]⟩] w fun e w'=>∃ U,e=.returned (.string (bs U))/\(U=[]↔∀ j,j < T.length->T.getD j 0=48)/\(w'=w∨w'=w.drew):=by
 by_cases hT0:T=[]
 . subst hT0
   exact (y5T w).mono fun e w' ⟨he,hw⟩=>⟨[],he,⟨fun _ j hj=>absurd hj (Nat.not_lt_zero j),fun _=>rfl⟩,.inl hw⟩
 . have hlen:0 < T.length:=List.length_pos_iff.2 hT0
   have hne:¬ (bs T).toList=[]:=y3M (by rw [z0e];exact hlen);have hne2:(bs T).toList.isEmpty=false:=by
    cases h:(bs T).toList.isEmpty with
    | false=>rfl
    | true=>exact absurd (List.isEmpty_iff.1 h) hne
   have HR:=zZ (z7E T 48 w.drew hT);have HL:=zZ (fun k (hk:k<=T.length)=>z9a (T.take k) 48 w.drew (by rw [List.length_take];omega));have HLen:=zZ hlen;have e48:(((48:UInt8).toNat:Nat):Int)=48:=rfl;rw [e48] at HR;simp only [e48] at HL;clear hT0 e48 hlen;generalize hS:bs T=S at *;clear hS
   go_enter Tryz.func286,Tryz.ntmps286
   go_wp2_with fail
   go_region_held3 (fun w'=>True)
    (trivial)
    (first
    | (go_at_call 308;refine HR.out.mono ?_;rintro e u1 ⟨k,hk,rfl,h1,h2,hw⟩;subst u1;have HL1:=zZ (HL.out k hk);have H1:=zZ h1;have H2:=zZ h2;clear h1 h2 HR)
    | (go_at_call 307;refine HL1.out.mono ?_;rintro e u2 ⟨m,hm,rfl,h3,h4,hw⟩;subst u2;have H3:=zZ h3;have H4:=zZ h4;have HMM:=zZ hm;clear h3 h4 HL1 hm))
   all_goals (go_wp2;go_ret;exact ⟨_,rfl,y3N HLen.out hk H1.out H2.out HMM.out H3.out H4.out,.inr rfl⟩)
set_option maxRecDepth 4000 in
set_option maxHeartbeats 400000 in
theorem z6S (T:List UInt8) (w:World) (hT:T.length<=100000) :
 Calls prog 256 #[.string (bs T)] w fun e w'=>Says e (FillP T)/\Below w.heap.size w w':=by
 have hz:(bs T).size=T.length:=z0e T;have HTR:=zZ (fun u=>y5U T u hT)
 by_cases h8:T.length < 8
 . have t1:decide ((T.length:Int) < 8)=true:=decide_eq_true (by omega)
   have HF:Hid ((∀ j,j < T.length->T.getD j 0=48)↔FillP T):=⟨fun h=>⟨h8,h⟩,fun h=>h.2⟩;generalize bs T=S at *;generalize hn:T.length=n at *;clear hn
   go_enter Tryz.func256,Tryz.ntmps256
   go_wp2_with (go_at_call 286;refine (HTR.out _).mono ?_;rintro e u1 ⟨U,rfl,hU,hw⟩;have HU:=zZ hU;have HB:Hid (Below w.heap.size w u1):=(by rcases hw with e | e <;> rw [e];exact Below.refl _ _;exact zX.drew);clear hU hw HTR)
   go_ret;exact ⟨⟨_,rfl,by rw [List.isEmpty_iff,ByteArray.toList_eq,z7A];exact HU.out.trans HF.out⟩,HB.out⟩
 . have t1:decide ((T.length:Int) < 8)=false:=decide_eq_false (by omega)
   have HF:Hid (¬ FillP T):=fun h=>h8 h.1
   generalize bs T=S at *;generalize hn:T.length=n at *;clear hn HTR
   go_enter Tryz.func256,Tryz.ntmps256
   go_wp2;go_ret;exact ⟨Says.no HF.out,Below.refl _ _⟩
theorem z5U {b:Nat->Bool} {N width n:Nat} {r:(Nat->Int) × Nat} (h:z1c b N width n=some r):r.2<=N:=by
 obtain ⟨_,-,-,h3⟩:=y2e (b:=b) (b':=b) (N:=N) (M:=N) (fun _ _=>rfl) zY h;exact h3
theorem y3O {b:Nat->Bool} {N width n:Nat} {r:(Nat->Int) × Nat} (hw:width<=13) (h:z1c b N width n=some r):∀ j,j < n->-4096<=r.1 j/\r.1 j<=4096:=by
 intro j hj;unfold z1c at h;split at h
 . rename_i hc
   cases hb:z0E b N (num b 0 4) (width - num b 4 4) n 8 with
   | none=>rw [hb] at h;cases h
   | some xp =>
    rw [hb] at h;simp only [Option.map_some,Option.some.injEq] at h;rw [← h];exact y6W (width:=width) (z8B (by omega) hb j hj) (by omega) (by omega)
 . cases h
def upd2 (G:Nat->Nat->Int) (i:Nat) (x:Nat->Int) (j:Nat):Nat->Int:=if j=i then x else G j
def z1d (b:Nat->Bool) (N d n m nn:Nat):Nat->Option ((Nat->Nat->Int) × Nat)
 | 0=>some (fun _ _=>0,0)
 | i+1=>(z1d b N d n m nn i).bind fun r=>(z2G b N r.2 (widN d n m i) nn).map fun xp=>(upd2 r.1 i xp.1,xp.2)
theorem z3H {d n m i:Nat} (hd1:1<=d) (hd:d<=12):1<=widN d n m i/\widN d n m i<=13:=by
 unfold widN w1 w2;split
 . split
   . split <;> omega
   . split <;> omega
 . omega
theorem y3P {b:Nat->Bool} {N o width n:Nat} {r:(Nat->Int) × Nat} (ho:o<=N) (h:z2G b N o width n=some r):r.2<=N/\o<=r.2:=by
 rw [z2P ho] at h;cases hr:z1c (shB b o) (N - o) width n with
 | none=>rw [hr] at h;cases h
 | some x =>
  rw [hr] at h;simp only [Option.map_some,Option.some.injEq] at h;have:=z5U hr;rw [← h];exact ⟨by show o+x.2<=N;omega,by show o<=o+x.2;omega⟩
theorem y3Q {b:Nat->Bool} {N o width n:Nat} {r:(Nat->Int) × Nat} (ho:o<=N) (hw:width<=13) (h:z2G b N o width n=some r):∀ j,j < n->-4096<=r.1 j/\r.1 j<=4096:=by
 rw [z2P ho] at h;cases hr:z1c (shB b o) (N - o) width n with
 | none=>rw [hr] at h;cases h
 | some x =>
  rw [hr] at h;simp only [Option.map_some,Option.some.injEq] at h;intro j hj;rw [← h];exact y3O (b:=shB b o) (N:=N - o) (r:=x) hw hr j hj
theorem z3X {b:Nat->Bool} {N d n m nn:Nat} (hd1:1<=d) (hd:d<=12):∀ {i:Nat} {r:(Nat->Nat->Int) × Nat},z1d b N d n m nn i=some r->r.2<=N/\∀ k,k < i->∀ j,j < nn->-4096<=r.1 k j/\r.1 k j<=4096
 | 0,r,h=>by
  cases h;exact ⟨Nat.zero_le _,fun k hk=>absurd hk (Nat.not_lt_zero k)⟩
 | i+1,r,h=>by
  unfold z1d at h;cases hs:z1d b N d n m nn i with
  | none=>rw [hs] at h;cases h
  | some q =>
   rw [hs,Option.bind_some] at h;obtain ⟨ih1,ih2⟩:=z3X hd1 hd hs;cases hr:z2G b N q.2 (widN d n m i) nn with
   | none=>rw [hr] at h;cases h
   | some x =>
    rw [hr] at h;simp only [Option.map_some,Option.some.injEq] at h;rw [← h];refine ⟨(y3P ih1 hr).1,fun k hk j hj=>?_⟩
    show -4096<=upd2 q.1 i x.1 k j/\upd2 q.1 i x.1 k j<=4096
    unfold upd2
    by_cases e:k=i
    . rw [if_pos e];exact y3Q ih1 (z3H hd1 hd).2 hr j hj
    . rw [if_neg e];exact ih2 k (by omega) j hj
theorem z5V {b:Nat->Bool} {N d n m nn i k:Nat} (h:z1d b N d n m nn i=none) (hk:i<=k):z1d b N d n m nn k=none:=by
 induction k with
 | zero =>
           have:i=0:=by omega
           subst this;exact h
 | succ k ih =>
  by_cases e:i=k+1
  . rw [← e];exact h
  . unfold z1d
    rw [ih (by omega)];rfl
def sampP (d m nn:Nat) (G:Nat->Nat->Int):Prop:=∀ j,j < nn->fitsB d (unL m (G 0 j) (G 1 j))=true/\fitsB d (unR m (G 0 j) (G 1 j))=true
def unG (n m:Nat) (G:Nat->Nat->Int) (i j:Nat):Int:=if n=2 then (if i=0 then unL m (G 0 j) (G 1 j) else unR m (G 0 j) (G 1 j)) else G i j
def InsP (BT:List UInt8) (b:Nat->Bool) (d n m nn:Nat) (H:Nat->Nat->Int):Prop :=
 ∃ G o,z1d b BT.length d n m nn n=some (G,o)/\FillP (BT.drop o)/\(n=2->sampP d m nn G)/\H=unG n m G
theorem z0g {u u':World} {b o:Nat} {v:Value} (h:Below u.heap.size u u') (hb:b < u.heap.size) (hc:u.cell? ⟨b,o,none⟩=some v):u'.cell? ⟨b,o,none⟩=some v :=
 (h.cell (p:=⟨b,o,none⟩) hb).trans hc
theorem keep4 {u u':World} {b:Nat} {v0 v1 v2 v3:Value} (hb:Below u.heap.size u u') (h:b < u.heap.size/\u.cell? ⟨b,0,none⟩=some v0/\u.cell? ⟨b,1,none⟩=some v1/\u.cell? ⟨b,2,none⟩=some v2/\u.cell? ⟨b,3,none⟩=some v3) :
 b < u'.heap.size/\u'.cell? ⟨b,0,none⟩=some v0/\u'.cell? ⟨b,1,none⟩=some v1/\u'.cell? ⟨b,2,none⟩=some v2/\u'.cell? ⟨b,3,none⟩=some v3 :=
 ⟨Nat.lt_of_lt_of_le h.1 hb.size,z0g hb h.1 h.2.1,z0g hb h.1 h.2.2.1,z0g hb h.1 h.2.2.2.1,z0g hb h.1 h.2.2.2.2⟩
set_option maxHeartbeats 1000000 in
theorem y0o (number len n mode:Nat) (w:World) (h1:number < 65536) (h2:len < 65536) (h3:1<=n) (h4:n<=256) (h5:mode < 256) :
 Calls prog 126 #[.agg #[O I number,O I len,O I n,O I mode]] w fun e w'=>e=.returned (.string (bs (seal8 (headT number len n mode))))/\Below w.heap.size w w':=by
 have HI1:Hid (∀ u,Calls prog 195 #[O I 165,O I 1] u fun e w'=>e=.returned (.string (bs (inT 165 1)))/\Below u.heap.size u w'):=fun u=>z1x 165 1 u (by omega) (by omega)
 have HI2:Hid (∀ u,Calls prog 195 #[O I number,O I 2] u fun e w'=>e=.returned (.string (bs (inT number 2)))/\Below u.heap.size u w'):=fun u=>z1x number 2 u (by omega) (by omega)
 have HI3:Hid (∀ u,Calls prog 195 #[O I len,O I 2] u fun e w'=>e=.returned (.string (bs (inT len 2)))/\Below u.heap.size u w'):=fun u=>z1x len 2 u (by omega) (by omega)
 have HI4:Hid (∀ u,Calls prog 195 #[O I ((n - 1:Nat):Int),O I 1] u fun e w'=>e=.returned (.string (bs (inT (n - 1) 1)))/\Below u.heap.size u w'):=fun u=>z1x (n - 1) 1 u (by omega) (by omega)
 have HI5:Hid (∀ u,Calls prog 195 #[O I mode,O I 1] u fun e w'=>e=.returned (.string (bs (inT mode 1)))/\Below u.heap.size u w'):=fun u=>z1x mode 1 u (by omega) (by omega)
 have HS:=zZ (fun u=>z5J (headT number len n mode) u (by rw [z1l];omega));have HTX:Hid (bs (inT 165 1) ++ bs (inT number 2) ++ bs (inT len 2) ++ bs (inT (n - 1) 1) ++ bs (inT mode 1)=bs (headT number len n mode)):=by
  show _=_;rw [z0N,z0N,z0N,z0N];rfl
 have wn:IntKind.i64.wrap ((n:Int) - 1)=((n - 1:Nat):Int):=by rw [IntKind.wrap_i64];omega
 have z1:(bs (inT 165 1)).size=1:=by rw [z0e,z0a]
 have z2:(bs (inT number 2)).size=2:=by rw [z0e,z0a]
 have z3:(bs (inT len 2)).size=2:=by rw [z0e,z0a]
 have z4:(bs (inT (n - 1) 1)).size=1:=by rw [z0e,z0a]
 have z5:(bs (inT mode 1)).size=1:=by rw [z0e,z0a]
 rw [← HTX.out] at HS;generalize seal8 (headT number len n mode)=R at *;generalize bs (inT 165 1)=X1 at *;generalize bs (inT number 2)=X2 at *;generalize bs (inT len 2)=X3 at *;generalize bs (inT (n - 1) 1)=X4 at *;generalize bs (inT mode 1)=X5 at *;generalize n - 1=n1 at *;clear HTX;have hb0:Below w.heap.size w (w.alloc (.cells #[O I number,O I len,O I n,O I mode] 203)):=zX.alloc zY _;have HB0:=zZ hb0;clear hb0;have hS0:w.heap.size < (w.alloc (.cells #[O I number,O I len,O I n,O I mode] 203)).drew.heap.size/\(w.alloc (.cells #[O I number,O I len,O I n,O I mode] 203)).drew.cell? ⟨w.heap.size,0,none⟩=some (O I number)/\(w.alloc (.cells #[O I number,O I len,O I n,O I mode] 203)).drew.cell? ⟨w.heap.size,1,none⟩=some (O I len)/\(w.alloc (.cells #[O I number,O I len,O I n,O I mode] 203)).drew.cell? ⟨w.heap.size,2,none⟩=some (O I n)/\(w.alloc (.cells #[O I number,O I len,O I n,O I mode] 203)).drew.cell? ⟨w.heap.size,3,none⟩=some (O I mode):=by simp
 go_enter Tryz.func126,Tryz.ntmps126
 go_wp2
 go_region_held3 (fun w'=>w.heap.size < w'.heap.size/\w'.cell? ⟨w.heap.size,0,none⟩=some (O I number)/\w'.cell? ⟨w.heap.size,1,none⟩=some (O I len)/\w'.cell? ⟨w.heap.size,2,none⟩=some (O I n)/\w'.cell? ⟨w.heap.size,3,none⟩=some (O I mode))
  (assumption)
  (first
  | (go_at_call 195;refine (HI1.out _).mono ?_;rintro e u1 ⟨rfl,hb1⟩;have hS1:=keep4 hb1 hS0;have HB1:=zZ (HB0.out.drew.trans (hb1.mono (by simp)));clear HI1 HB0)
  | (go_at_call 195;refine (HI2.out _).mono ?_;rintro e u2 ⟨rfl,hb2⟩;have hS2:=keep4 hb2 hS1;have HB2:=zZ (HB1.out.trans (hb2.mono HB1.out.size));clear HI2 HB1)
  | (go_at_call 195;refine (HI3.out _).mono ?_;rintro e u3 ⟨rfl,hb3⟩;have hS3:=keep4 hb3 hS2;have HB3:=zZ (HB2.out.trans (hb3.mono HB2.out.size));clear HI3 HB2)
  | (go_at_call 195;refine (HI4.out _).mono ?_;rintro e u4 ⟨rfl,hb4⟩;have hS4:=keep4 hb4 hS3;have HB4:=zZ (HB3.out.trans (hb4.mono HB3.out.size));clear HI4 HB3)
  | (go_at_call 195;refine (HI5.out _).mono ?_;rintro e u5 ⟨rfl,hb5⟩;have hS5:=keep4 hb5 hS4;have HB5:=zZ (HB4.out.trans (hb5.mono HB4.out.size));clear HI5 HB4)
  | (go_at_call 197;refine (HS.out _).mono ?_;rintro e u6 ⟨rfl,hb6⟩;have hS6:=keep4 hb6 hS5;have HB6:=zZ (HB5.out.trans (hb6.mono HB5.out.size));clear HS HB5))
 go_wp2;go_ret;exact ⟨rfl,HB6.out⟩
theorem or_u8 (a b:Nat) (ha:a < 256) (hb:b < 256):bits .or .u8 (a:Int) (b:Int)=((a ||| b:Nat):Int):=by
 have hx:a ||| b < 2 ^ 8:=Nat.or_lt_two_pow (by omega) (by omega);have h1:(BitVec.ofInt 8 (a:Int)).toNat=a:=by
  rw [BitVec.ofInt_natCast,BitVec.toNat_ofNat];exact Nat.mod_eq_of_lt (by omega)
 have h2:(BitVec.ofInt 8 (b:Int)).toNat=b:=by
  rw [BitVec.ofInt_natCast,BitVec.toNat_ofNat];exact Nat.mod_eq_of_lt (by omega)
 show IntKind.u8.wrap ((BitVec.ofInt 8 (a:Int) ||| BitVec.ofInt 8 (b:Int)).toNat:Int)=_
 rw [BitVec.toNat_or,h1,h2,IntKind.wrap_u8];omega
set_option maxHeartbeats 1000000 in
theorem y3R (T:List UInt8) (w:World) (hT:AllB T) (hs:T.length<=100000) :
 Calls prog 124 #[.string (bs T)] w fun e w'=>e=.returned (.string (bs (packT T)))/\Below w.heap.size w w':=by
 obtain ⟨S,hS⟩:∃ S,S=bs T:=⟨_,rfl⟩;have hz:S.size=T.length:=by rw [hS,z0e]
 have hmk:=run_make_row' (P:=prog) 33 5 (.int .u8 0) 1 Tryz.underlying33 infoByte rfl .i64 .i64 ((T.length+7) / 8) (by omega) (by omega);have hq:((S.size:Int)+8 - 1).tdiv 8=(((T.length+7) / 8:Nat):Int):=by rw [Int.tdiv_eq_ediv_of_nonneg (by omega),hz];omega
 have w1:IntKind.i64.wrap ((S.size:Int)+8)=(S.size:Int)+8:=by rw [IntKind.wrap_i64];omega
 have w2:IntKind.i64.wrap ((S.size:Int)+8 - 1)=(S.size:Int)+8 - 1:=by rw [IntKind.wrap_i64];omega
 have HG:Hid (∀ j (h:j < S.size),S[j]=ltr (tbit T j)):=by
  show ∀ j (h:j < S.size),S[j]=ltr (tbit T j)
  subst hS;intro j h;rw [z2J];exact y1o hT j (by rw [z0e] at h;exact h)
 have HZ:=zZ hz;have HST:Hid (strOf (pkB T) ((T.length+7) / 8)=bs (packT T)):=y2m T;rw [← hS];clear hS hz hT;generalize hR:bs (packT T)=R at *;clear hR;obtain ⟨M,hM⟩:∃ M,M=(T.length+7) / 8:=⟨_,rfl⟩;have hMb:M<=12501:=by omega
 rw [← hM] at hmk hq HST;have HM:=zZ hM;clear hM
 go_enter Tryz.func124,Tryz.ntmps124
 go_wp2;clear hmk hq w1 w2;have HCV:=zZ (fun (u:World) h=>z1P (P:=prog) u 33 9 5 w.heap.size 0 M M (pkB T) Tryz.underlying33 Tryz.underlying5 Tryz.underlying9 h)
 go_loopw [4,13] (fun _ i wr=>∃ k:Nat,k<=S.size/\i=O I k/\Hid (wr.rowIs w.heap.size 5 M (fun j=>.int .u8 (pkN T k j:Nat))/\Below w.heap.size w wr)) (fun _ i _=>S.size - (intOf i).toNat)
 case atStart=>exact ⟨0,Nat.zero_le _,rfl,(World.rowIs_made w (.int .u8 0) M 5).congr fun i _=>by rw [y5O];rfl,zX.alloc zY _⟩
 case round =>
  obtain ⟨m,hm,rfl,HR⟩:=hrel
  by_cases hlt:m < S.size
  . have hdm:m / 8 < M:=by have:=HM.out;have:=HZ.out;omega
    have hc1:=HR.out.1.cell hdm;have hf1:=HR.out.1.frozen (m / 8);have hb:=HG.out m hlt;have hbn:(S[m].toNat:Int)=48+((tbit T m).toNat:Int):=by rw [hb,z9R];omega
    have hb2:(tbit T m).toNat<=1:=Bool.toNat_le _;have hp:=y3A T m (m / 8);have hp2:(tbit T m).toNat * 2 ^ (7 - m % 8) < 256:=by
     have:2 ^ (7 - m % 8)<=2 ^ 7:=Nat.pow_le_pow_right (by omega) (by omega);have:=Nat.mul_le_mul hb2 this;omega
    have hor:=or_u8 _ _ hp hp2;rw [y5P] at hor;have hset:(wr.setCell ⟨w.heap.size,m / 8,none⟩ (.int .u8 (pkN T (m+1) (m / 8):Nat))).rowIs w.heap.size 5 M (fun j=>.int .u8 (pkN T (m+1) j:Nat)) :=
     (HR.out.1.set (m / 8) _).congr fun j _=>by
      by_cases e:j=m / 8
      . rw [if_pos e,e]
      . rw [if_neg e,y3C T m j e]
    have HSET:=zZ hset;have HB:=zZ hb;generalize pkN T (m+1) (m / 8)=P2 at *;generalize pkN T m (m / 8)=P1 at *;have td:(m:Int).tdiv 8=((m / 8:Nat):Int):=by rw [Int.tdiv_eq_ediv_of_nonneg (by omega)];omega
    have tm:(m:Int).tmod 8=((m % 8:Nat):Int):=by rw [Int.tmod_eq_emod_of_nonneg (by omega)];omega
    have hm8:m % 8 < 8:=Nat.mod_lt _ (by omega);have hval:bits .or .u8 (P1:Int) ((48+((tbit T m).toNat:Int) - 48) * 2 ^ (7 - m % 8) % 256)=(P2:Int):=by
     rw [← hor];congr 1;have e2:(((tbit T m).toNat * 2 ^ (7 - m % 8):Nat):Int)=((tbit T m).toNat:Int) * 2 ^ (7 - m % 8):=by simp
     rw [show (48+((tbit T m).toNat:Int) - 48)=((tbit T m).toNat:Int) by omega,← e2];omega
    clear hset hb;go_wp2
    go_region
    all_goals go_wp2
    go_roundw
    case rel=>exact ⟨m+1,by omega,by go_num,HSET.out,by exact (HR.out.2.setCell zY _).drew⟩
    case measure=>simp [intOf];omega
  . have e:m=S.size:=by omega
    have hcv:=HCV.out wr (fun i hi=>by
     have:=HR.out.1.cell (i:=i) hi;rw [e,HZ.out] at this;rw [Nat.zero_add,this,y3B])
    rw [HST.out] at hcv;subst e;clear HCV;go_wp2;go_ret;exact ⟨rfl,HR.out.2⟩
theorem y1u (d n:Nat) (F:Nat->Nat->Int) (N:Nat) (hn1:1<=N) (hn:N<=32) (hd:d<=12) (h1:1<=n) (h4:n<=4):(packT (z0j d n F N)).length<=212:=by
 rw [z1e];have:=z5H d n F N hn1 hn hd h1 h4;omega
set_option maxHeartbeats 2000000 in
theorem z7F (c2 c3 c4 c5 c6 c7:Int) (d number:Nat) (a:Option Addr) (n cap:Nat) (A:Nat->Option Addr) (N:Nat) (C:Nat->Nat) (F:Nat->Nat->Int) (w:World) (hd1:1<=d) (hd:d<=12) (hn1:1<=n) (hn4:n<=4) (hN1:1<=N) (hN:N<=32) (hnum:number < 65536)
 (hf:∀ i,i < n->∀ j,j < N->fitsB d (F i j)=true) (hA:ListsAt w a n A (fun _=>N) C) (hI:∀ i,i < n->IntsAt w (A i) N (F i)) (hlow:Low w.heap.size a n A (fun _=>N)) (hT:TabsF w) :
 Calls prog 63 #[.agg #[O I n,O I d,O I c2,O I c3,O I c4,O I c5,O I c6,O I c7],O I number,.slice a n cap] w fun e w' =>
  e=.returned (.string (bs (z1f number N (modeN d n F N) (z0j d n F N))))/\Below w.heap.size w w':=by
 have hb0:Below w.heap.size w (w.alloc (.cells #[O I n,O I d,O I c2,O I c3,O I c4,O I c5,O I c6,O I c7] 23)):=zX.alloc zY _;have HSM:=zZ (z4W d a n cap A N C F _ hd1 hd hn1 hn4 hN1 hN hf (hA.below hb0 hlow.1) (fun i hi=>(hI i hi).below hb0 (hlow.2 i hi)) ⟨fun x hx h0=>Nat.lt_of_lt_of_le (hlow.1 x hx h0) hb0.size,fun i hi x hx h0=>Nat.lt_of_lt_of_le (hlow.2 i hi x hx h0) hb0.size⟩ (hT.below hb0));have HBY:=zZ (fun u=>y3R (z0j d n F N) u (z5G d n F N) (by have:=z5H d n F N hN1 hN hd hn1 hn4;omega));have hpk:=y1u d n F N hN1 hN hd hn1 hn4;have hmd:=z5f d n F N;have HHL:=zZ (fun u=>y0o number ((packT (z0j d n F N)).length+10) N (modeN d n F N) u hnum (by omega) hN1 (by omega) (by omega));have HSE:=zZ (fun u=>z4C (seal8 (headT number ((packT (z0j d n F N)).length+10) N (modeN d n F N)) ++ packT (z0j d n F N)) u (by rw [List.length_append,z0x,z1l];omega));have HAP:Hid (bs (seal8 (headT number ((packT (z0j d n F N)).length+10) N (modeN d n F N)) ++ packT (z0j d n F N))=bs (seal8 (headT number ((packT (z0j d n F N)).length+10) N (modeN d n F N))) ++ bs (packT (z0j d n F N))):=(z0N _ _).symm;have HFR:Hid (z0H (seal8 (headT number ((packT (z0j d n F N)).length+10) N (modeN d n F N)) ++ packT (z0j d n F N))=z1f number N (modeN d n F N) (z0j d n F N)):=rfl;rw [HFR.out,HAP.out] at HSE;have hz1:(bs (packT (z0j d n F N))).size=(packT (z0j d n F N)).length:=z0e _;have hz2:(bs (seal8 (headT number ((packT (z0j d n F N)).length+10) N (modeN d n F N)))).size=8:=by rw [z0e,z0x,z1l]
 obtain ⟨b,off,rfl,hcell⟩:=hA.open (by omega);have hc0:=hcell 0 (by omega);have hbl:b < w.heap.size:=hlow.1 _ rfl (by omega:0 < n);simp only [Nat.add_zero] at hc0;have HB0:=zZ hb0;clear HFR HAP hf hA hI hlow hT hcell hb0;generalize z1f number N (modeN d n F N) (z0j d n F N)=R at *;generalize bs (seal8 (headT number ((packT (z0j d n F N)).length+10) N (modeN d n F N)))=H at *;generalize bs (packT (z0j d n F N))=P at *;generalize (packT (z0j d n F N)).length=pl at *;generalize modeN d n F N=mode at *;generalize bs (z0j d n F N)=T at *;have e10:((pl+10:Nat):Int)=8+(pl:Int)+2:=by omega
 rw [e10] at HHL;clear e10
 go_enter Tryz.func63,Tryz.ntmps63
 go_wp2_with (first
  | (go_at_call 123;refine HSM.out.mono ?_;rintro e u1 ⟨rfl,hb⟩;obtain ⟨hc1,hf1⟩:=bcell hb;have hs1:w.heap.size < u1.heap.size:=by {have:=hb.size;simp at this;omega};have HB1:=zZ (HB0.out.trans (hb.mono (by simp)));clear hb hf1 HSM HB0)
  | (go_at_call 124;refine (HBY.out _).mono ?_;rintro e u2 ⟨rfl,hb⟩;obtain ⟨hc2,hf2⟩:=bcell hb;have hs2:w.heap.size < u2.heap.size:=Nat.lt_of_lt_of_le hs1 hb.size;have HB2:=zZ (HB1.out.trans (hb.mono (Nat.le_of_lt hs1)));have hq2:u2.cell? ⟨b,off,none⟩=some (.slice (A 0) N (C 0)):=(HB2.out.cell (p:=⟨b,off,none⟩) hbl).trans hc0;clear hb hf2 HBY HB1)
  | (go_at_call 126;refine (HHL.out _).mono ?_;rintro e u3 ⟨rfl,hb⟩;have HB3:=zZ ((HB2.out.alloc HB2.out.size _).trans (hb.mono (by have:=hs2;simp;omega)));have hs3:w.heap.size < u3.heap.size:=by {have:=hb.size;simp at this;omega};clear hb HHL HB2)
  | (go_at_call 125;refine (HSE.out _).mono ?_;rintro e u4 ⟨rfl,hb⟩;have HB4:=zZ (HB3.out.trans (hb.mono (Nat.le_of_lt hs3)));clear hb HSE HB3))
 go_ret;exact ⟨rfl,HB4.out⟩
def sA (l:List UInt8):Nat:=l.foldl (fun a c=>a+c.toNat) 1
def sP (l:List UInt8):Nat × Nat:=l.foldl (fun p c=>(p.1+c.toNat,p.2+(p.1+c.toNat))) (1,0)
def sB (l:List UInt8):Nat:=(sP l).2
theorem z7G (l:List UInt8) (c:UInt8):sA (l ++ [c])=sA l+c.toNat:=by simp [sA,List.foldl_append]
theorem y3S (l:List UInt8) (c:UInt8):sP (l ++ [c])=((sP l).1+c.toNat,(sP l).2+((sP l).1+c.toNat)):=by simp [sP,List.foldl_append]
theorem y5V {P:List UInt8->Prop} (h0:P []) (h1:∀ l c,P l->P (l ++ [c])) (l:List UInt8):P l:=by
 have h:∀ m:List UInt8,P m.reverse:=by
  intro m
  induction m with
  | nil=>exact h0
  | cons c m ih=>rw [List.reverse_cons];exact h1 _ _ ih
 have:=h l.reverse
 rwa [List.reverse_reverse] at this
theorem y8n (l:List UInt8):(sP l).1=sA l:=by
 refine y5V (P:=fun l=>(sP l).1=sA l) rfl ?_ l;intro l c ih;rw [y3S,z7G,ih]
theorem y7J (l:List UInt8) (c:UInt8):sB (l ++ [c])=sB l+sA (l ++ [c]):=by
 unfold sB;rw [y3S,z7G,y8n]
def blkF (F:Nat->Nat->Int) (B k i j:Nat):Int:=F i (k * B+j)
def blkN (S B k:Nat):Nat:=min B (S - k * B)
def nBlk (S B:Nat):Nat:=(S+B - 1) / B
theorem z1a {S B:Nat} (hB:1<=B):nBlk S B<=S:=by
 unfold nBlk;have h:(S+B - 1) / B < S+1:=by
  rw [Nat.div_lt_iff_lt_mul (by omega),Nat.add_mul,Nat.one_mul];have:S<=S * B:=Nat.le_mul_of_pos_right S hB;omega
 omega
theorem z1b {S B k:Nat} (hB:1<=B):k < nBlk S B↔k * B < S:=by
 unfold nBlk;constructor
 . intro h
   have h2:(k+1) * B<=S+B - 1:=Nat.le_trans (Nat.mul_le_mul_right B h) (Nat.div_mul_le_self _ _);rw [Nat.add_mul,Nat.one_mul] at h2;omega
 . intro h
   rw [← Nat.succ_le_iff,Nat.le_div_iff_mul_le (by omega),Nat.succ_mul];omega
theorem z1r {S B k:Nat} (hB:1<=B) (h:k < nBlk S B):1<=blkN S B k/\blkN S B k<=B/\k * B+blkN S B k<=S:=by
 have:=(z1b hB).1 h;unfold blkN;omega
def frT (d n:Nat) (F:Nat->Nat->Int) (S B k:Nat):List UInt8:=z1f k (blkN S B k) (modeN d n (blkF F B k) (blkN S B k)) (z0j d n (blkF F B k) (blkN S B k))
def frsT (d n:Nat) (F:Nat->Nat->Int) (S B:Nat):Nat->List UInt8
 | 0=>[]
 | k+1=>frsT d n F S B k ++ frT d n F S B k
def lnF (d n:Nat) (F:Nat->Nat->Int) (S B k:Nat):Nat:=(frT d n F S B k).length
theorem z6T (d n:Nat) (F:Nat->Nat->Int) (S B k:Nat) (hd:d<=12) (h1:1<=n) (h4:n<=4) (hB:1<=B) (hB2:B<=32) (hk:k < nBlk S B):10<=lnF d n F S B k/\lnF d n F S B k<=222:=by
 have hb:=z1r hB hk;unfold lnF frT;rw [z1Q];have:=y1u d n (blkF F B k) (blkN S B k) hb.1 (by omega) hd h1 h4;omega
theorem z7H (d n:Nat) (F:Nat->Nat->Int) (S B:Nat) (hd:d<=12) (h1:1<=n) (h4:n<=4) (hB:1<=B) (hB2:B<=32):∀ k,k<=nBlk S B->(frsT d n F S B k).length<=222 * k
 | 0,_=>by simp [frsT]
 | k+1,h=>by
  have ih:=z7H d n F S B hd h1 h4 hB hB2 k (by omega);have:=(z6T d n F S B k hd h1 h4 hB hB2 h).2;unfold lnF at this;rw [frsT,List.length_append];omega
def z0O (ln:Nat->Nat):Nat->Nat
 | 0=>0
 | k+1=>if k=0∨ln k < z0O ln k then ln k else z0O ln k
def mostN (ln:Nat->Nat):Nat->Nat
 | 0=>0
 | k+1=>max (mostN ln k) (ln k)
def atN (ln:Nat->Nat):Nat->Nat
 | 0=>0
 | k+1=>atN ln k+ln k
def pntN (ln:Nat->Nat) (seek:Nat):Nat->List Nat
 | 0=>[]
 | k+1=>if 0 < seek/\k % seek=0 then pntN ln seek k ++ [atN ln k] else pntN ln seek k
theorem z3b {ln:Nat->Nat} {m:Nat}:∀ k,(∀ i,i < k->ln i<=m)->z0O ln k<=m
 | 0,_=>by simp [z0O]
 | k+1,h=>by
  have ih:=z3b k (fun i hi=>h i (by omega));have:=h k (by omega);unfold z0O;split <;> omega
theorem z3Y {ln:Nat->Nat} {m:Nat}:∀ k,(∀ i,i < k->ln i<=m)->mostN ln k<=m
 | 0,_=>by simp [mostN]
 | k+1,h=>by
  have ih:=z3Y k (fun i hi=>h i (by omega));have:=h k (by omega);unfold mostN;omega
theorem y3T {ln:Nat->Nat} {m:Nat}:∀ k,(∀ i,i < k->ln i<=m)->atN ln k<=m * k
 | 0,_=>by simp [atN]
 | k+1,h=>by
  have ih:=y3T k (fun i hi=>h i (by omega));have:=h k (by omega);unfold atN;rw [Nat.mul_succ];omega
theorem z3Z (ln:Nat->Nat) (seek:Nat):∀ k,(pntN ln seek k).length<=k
 | 0=>by simp [pntN]
 | k+1=>by
  have ih:=z3Z ln seek k;unfold pntN;split
  . rw [List.length_append];simp;omega
  . omega
theorem y0p {ln:Nat->Nat} {m seek:Nat}:∀ k,(∀ i,i < k->ln i<=m)->∀ p ∈ pntN ln seek k,p<=m * k
 | 0,_,p,hp=>by simp [pntN] at hp
 | k+1,h,p,hp=>by
  have ih:=y0p (seek:=seek) k (fun i hi=>h i (by omega));have ha:=y3T k (fun i hi=>h i (by omega));rw [Nat.mul_succ];unfold pntN at hp;split at hp
  . rcases List.mem_append.1 hp with h1 | h1
    . have:=ih p h1;omega
    . simp at h1;omega
  . have:=ih p hp;omega
def ptsT (l:List Nat):List UInt8:=l.foldl (fun t p=>t ++ inT p 2) []
theorem z9b (l:List Nat) (p:Nat):ptsT (l ++ [p])=ptsT l ++ inT p 2:=by simp [ptsT,List.foldl_append]
theorem z5W (l:List Nat) (k:Nat) (h:k < l.length):ptsT (l.take (k+1))=ptsT (l.take k) ++ inT l[k] 2:=by
 rw [List.take_succ_eq_append_getElem h,z9b]
theorem z1z:∀ (l:List Nat) (k:Nat),k<=l.length->(ptsT (l.take k)).length=2 * k
 | l,0,_=>by simp [ptsT]
 | l,k+1,h=>by
  rw [z5W l k (by omega),List.length_append,z0a,z1z l k (by omega)];omega
def z0Z (whole c0 c1 c2 c3 s c4 least most sum:Nat):List UInt8 :=
 [82,76] ++ inT whole 1 ++ inT c0 1 ++ inT c1 1 ++ inT c2 1 ++ inT c3 2 ++ inT s 2 ++ inT c4 1 ++ inT least 2 ++ inT most 2 ++ inT sum 4
theorem z0R (whole c0 c1 c2 c3 s c4 least most sum:Nat):(z0Z whole c0 c1 c2 c3 s c4 least most sum).length=19:=by simp [z0Z,z0a]
def z0o (whole c0 c1 c2 c3 s c4 least most sum:Nat) (pts:List Nat):List UInt8:=z0H (seal8 (z0Z whole c0 c1 c2 c3 s c4 least most sum) ++ ptsT pts)
theorem z1g (whole c0 c1 c2 c3 s c4 least most sum:Nat) (pts:List Nat):(z0o whole c0 c1 c2 c3 s c4 least most sum pts).length=22+2 * pts.length:=by
 unfold z0o;have:=z1z pts pts.length zY;rw [List.take_length] at this;rw [z3T,List.length_append,z0x,z0R,this];omega
def smpB (v:Int) (h:Bool):UInt8:=if h then UInt8.ofNat ((v % 65536).toNat / 256) else UInt8.ofNat ((v % 65536).toNat % 256)
def intB (n:Nat) (F:Nat->Nat->Int) (j:Nat):UInt8:=smpB (F (j / 2 % n) (j / 2 / n)) (j % 2 == 1)
def intT (n:Nat) (F:Nat->Nat->Int) (m:Nat):List UInt8:=(List.range m).map (intB n F)
theorem y0q (n:Nat) (F:Nat->Nat->Int) (m:Nat):(intT n F m).length=m:=by simp [intT]
theorem y5W (n:Nat) (F:Nat->Nat->Int) (i p:Nat) (hi:i < n):intT n F (2 * (p * n+i)+2)=intT n F (2 * (p * n+i)) ++ [smpB (F i p) false,smpB (F i p) true]:=by
 unfold intT;rw [show 2 * (p * n+i)+2=2 * (p * n+i)+1+1 from rfl,List.range_succ,List.range_succ];simp only [List.map_append,List.map_cons,List.map_nil,List.append_assoc,List.cons_append,List.nil_append];have hn:0 < n:=by omega
 have e1:2 * (p * n+i) / 2=p * n+i:=by omega
 have e2:(2 * (p * n+i)+1) / 2=p * n+i:=by omega
 have e3:(p * n+i) % n=i:=by rw [Nat.add_comm,Nat.add_mul_mod_self_right,Nat.mod_eq_of_lt hi]
 have e4:(p * n+i) / n=p:=by rw [Nat.add_comm,Nat.add_mul_div_right _ _ hn,Nat.div_eq_of_lt hi,Nat.zero_add]
 have e5:(2 * (p * n+i) % 2 == 1)=false:=by simp
 have e6:((2 * (p * n+i)+1) % 2 == 1)=true:=by simp
 unfold intB;rw [e1,e2,e3,e4,e5,e6]
def sumN (l:List UInt8):Nat:=65536 * (sB l % 65521)+sA l % 65521
theorem z7I (l:List UInt8):sumN l < 4294967296:=by
 unfold sumN;have h1:sB l % 65521 < 65521:=Nat.mod_lt _ (by decide);have h2:sA l % 65521 < 65521:=Nat.mod_lt _ (by decide);omega
def z0B (d n B c3 c4:Nat) (F:Nat->Nat->Int) (S:Nat):List UInt8 :=
 z0o 1 n d B c3 S c4 (z0O (lnF d n F S B) (nBlk S B)) (mostN (lnF d n F S B) (nBlk S B)) (sumN (intT n F (2 * (S * n)))) (pntN (lnF d n F S B) c4 (nBlk S B)) ++ frsT d n F S B (nBlk S B)
theorem z3m {a b c:World} {r:Option Nat} (h:a.grownBy b r) (k:b.grownBy c r):a.grownBy c r :=
 ⟨k.os.trans h.os,k.tape.trans h.tape,k.output.trans h.output,Nat.le_trans h.size k.size,fun j hj hne=>(k.block j (Nat.lt_of_lt_of_le hj h.size) hne).trans (h.block j hj hne)⟩
theorem z0k {P:Program} {w w':World} {ops:Array Oper} {rest:List Oper} {o:Oper} {a:Act} {Q:Exit->Act->World->Prop}
 (hg:o.guard=none) (s x:Operand) (t:TypeId) (hop:o.op=Op.call { callee:=Callee.builtin Builtin.append,args:=#[s,x],argTypes:=#[t,t] })
 (v b v':Value) (hs:a.eval s=v) (hx:a.eval x=b) (hrun:(Builtin.append_ #[t,t] o.type #[v,b]).run P w=.ok v' w') (h:wpList P ops Q rest (a.put o.dst v') w'):wpList P ops Q (o :: rest) a w:=by
 refine wpList_plain hg fun K hK'=>?_
 unfold Oper.wp;simp [execOp,hop,resolve,invoke,builtin,hs,hx,hrun,Result.andThen];exact hK' _ _ h
theorem z1A (t e:TypeId) (z:Value) (bytes:Nat) (ht:prog.underlying t=some (.slice e)) (hinfo:(prog.info? e).map (fun i=>(i.zero,i.size,i.bytes))=some (some z,1,bytes)) (hzs:z.cells.size=1)
 (w:World) (base:Nat) (kv:Value) (j:Nat) (ks:List Value) (arr:Array Value) (hown:w.ownsRow base e 1 kv j ks) (hk1:1<=arr.size) (h1:∀ u ∈ arr.toList,u.oneCell'=true) (hm:j+arr.size<=maxLen) (hby:(j+arr.size) * bytes<=140737488355328) (hbase:base<=w.heap.size) (ty:TypeId) :
 ∃ g cap w',(Builtin.append_ #[t,t] ty #[kv,.slice (some ⟨w.heap.size,0,none⟩) arr.size arr.size]).run prog (w.alloc (.cells arr e))=.ok (.slice (some ⟨g,0,none⟩) (j+arr.size) cap) w' /\
  w'.ownsRow base e 1 (.slice (some ⟨g,0,none⟩) (j+arr.size) cap) (j+arr.size) (ks ++ arr.toList)/\w.grownBy w' kv.ownBlock:=by
 obtain ⟨i0,hi,hz0,hz1,hz2⟩:=info_parts hinfo;have hnews:∀ j u,arr.toList[j]?=some u->(w.alloc (.cells arr e)).cell? ((⟨w.heap.size,0,none⟩:Addr).add j)=some u:=by
  intro j u hj;have:(w.alloc (.cells arr e)).cell? ⟨w.heap.size,j,none⟩=arr[j]?:=World.cell?_alloc_new _ _ _ _;rw [show ((⟨w.heap.size,0,none⟩:Addr).add j)=⟨w.heap.size,j,none⟩ by cases j <;> simp [Addr.add],this]
  simpa using hj
 obtain ⟨v',w',hr,ho,hgr,hnil⟩:=run_append_own (P:=prog) (w.alloc (.cells arr e)) base t ty e i0 z 1 bytes ht hi hz0 hz1 hz2 hzs (by omega) kv j ks (hown.alloc _)
  ⟨w.heap.size,0,none⟩ arr.size arr.size arr.toList (by simp) hnews h1 hm hby (by simp;omega)
 rcases ho.2 with ⟨-,h0⟩ | ⟨g,cap,cur,rfl,-⟩
 . omega
 . exact ⟨g,cap,w',hr,ho,z3m (World.grownBy_alloc w _ _) hgr⟩
end Go.Proofs.YtlncjgnomhpjnabGreatDoor
