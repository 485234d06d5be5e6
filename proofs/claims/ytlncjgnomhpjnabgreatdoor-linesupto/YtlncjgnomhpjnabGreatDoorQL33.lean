import Derived.Test.YtlncjgnomhpjnabGreatDoorQL32
set_option maxRecDepth 100000
namespace Go.Proofs.YtlncjgnomhpjnabGreatDoor
open Go.Value renaming int → O
open Go.IntKind renaming i64 → I
open Go.Proofs.Tryz
open Go.RowKit Go.Deep
set_option linter.unusedVariables false
def z0i (s:Lst) (b:Tab):Rst:=⟨b.pl,b.by_,b.wh,b.turn,s.summed,s.wrote,s.writes,s.endedT,s.begun,decide (1<=s.hd),decide (s.hd=2),s.stopN⟩
theorem z1Q {s:Lst} (h:s.stopped=false):s.stopN=0:=by simp [Lst.stopN,h]
theorem z3h {s:Lst} (h:s.stopped=true):s.stopN ≠ 0:=by simp only [Lst.stopN,h];cases s.failed <;> simp
theorem y9f {p:Lpar} {x:Lsn} {r:Rad} {s:Lst} {b:Tab} {w:World} (h:RawIs p x r (z0i s b) w) (hr:Rel p s b) (hi:LInv p s) :
 Calls prog 168 #[ptrV r.rb,O I 0] w fun e w'=>e=.returned (.bool (s.next p 0).isSome)/\∃ m,w'=w.drewN m:=by
 have HG:=zZ (z1X h s.given (hr.cnt0 hi) hi.given);have HJ:Hid (∀ m,Calls prog 172 #[ptrV r.rb,O I 1] (w.drewN m) fun e w'=>e=.returned (O I (s.jobs.length:Nat))/\w'=w.drewN m):=fun m=>by
  have:=z1e (h.drewN m) 1;rw [show cntN (z0i s b).pl 1 p.N=s.jobs.length from hr.cnt1 hi] at this;exact this
 have HR:Hid (∀ m,Calls prog 172 #[ptrV r.rb,O I 3] (w.drewN m) fun e w'=>e=.returned (O I (s.ready.length:Nat))/\w'=w.drewN m):=fun m=>by
  have:=z1e (h.drewN m) 3;rw [show cntN (z0i s b).pl 3 p.N=s.ready.length from hr.cnt3 hi] at this;exact this
 have i1:=hi.given;have i2:=h.N3;have i3:=hi.wrote;have i4:=hi.lane.1;have i5:=hi.lane_len;have i6:=hi.jr;have i7:=hi.lr;have i8:=hi.rr;have i9:=h.W8;have c6:=h.cells.cell 6;have c7:=h.cells.cell 7;have c11:=h.cells.cell 11;have c15:=h.cells.cell 15;have c16:=h.cells.cell 16;have c19:=h.cells.cell 19;have c20:=h.cells.cell 20;have c23:=h.cells.cell 23;have ce0:w.cell? ⟨r.re,0,none⟩=some (.bool s.e0):=h.re.cell zU;have ce1:w.cell? ⟨r.re,1,none⟩=some (.bool s.e1):=h.re.cell zU;have ce2:w.cell? ⟨r.re,2,none⟩=some (.bool s.e2):=h.re.cell zU;have lW:(0:Nat) < 3+p.W:=zU
 have lW1:(1:Nat) < 3+p.W:=zU
 have lW2:(2:Nat) < 3+p.W:=zU
 simp [rfC,rowV,z0i] at c6 c7 c11 c15 c16 c19 c20 c23;clear h;cases h0:s.e0 with
 | true =>
  rw [h0] at ce0;rw [show (s.next p 0).isSome=false by simp [Lst.next,h0]];clear hr hi;unfold ptrV at *
  go_enter func168,ntmps168
  go_wp2_with (first
   | (go_at_call 171;refine HG.out.mono ?_;rintro e u2 ⟨rfl,m1,rfl⟩;clear HG)
   | (go_at_call 172;refine (HJ.out _).mono ?_;rintro e u2 ⟨rfl,hu⟩;subst u2;clear HJ)
   | (go_at_call 172;refine (HR.out _).mono ?_;rintro e u2 ⟨rfl,hu⟩;subst u2;clear HR))
  go_ret;exact ⟨rfl,0,rfl⟩
 | false =>
  rw [h0] at ce0;cases hs:s.stopped with
  | true =>
   rw [show (s.next p 0).isSome=true by simp [Lst.next,h0,hs]];have b0:((s.stopN:Int) != 0)=true:=by have:=z3h hs;simp;omega
   clear hr hi hs;unfold ptrV at *
   go_enter func168,ntmps168
   go_wp2_with (first
    | (go_at_call 171;refine HG.out.mono ?_;rintro e u2 ⟨rfl,m1,rfl⟩;clear HG)
    | (go_at_call 172;refine (HJ.out _).mono ?_;rintro e u2 ⟨rfl,hu⟩;subst u2;clear HJ)
    | (go_at_call 172;refine (HR.out _).mono ?_;rintro e u2 ⟨rfl,hu⟩;subst u2;clear HR))
   go_ret;exact ⟨rfl,_,rfl⟩
  | false =>
   rw [z1Q hs] at c23
   by_cases hN:s.given=p.N
   . rw [show (s.next p 0).isSome=true by simp [Lst.next,h0,hs,hN]]
     have b1:((s.given:Int) == (p.N:Int))=true:=by simp;omega
     clear hr hi hs hN;unfold ptrV at *
     go_enter func168,ntmps168
     go_wp2_with (first
      | (go_at_call 171;refine HG.out.mono ?_;rintro e u2 ⟨rfl,m1,rfl⟩;clear HG)
      | (go_at_call 172;refine (HJ.out _).mono ?_;rintro e u2 ⟨rfl,hu⟩;subst u2;clear HJ)
      | (go_at_call 172;refine (HR.out _).mono ?_;rintro e u2 ⟨rfl,hu⟩;subst u2;clear HR))
     go_ret;exact ⟨rfl,_,rfl⟩
   . have b1:((s.given:Int) == (p.N:Int))=false:=by simp;omega
     have w1:I.wrap ((s.given:Int) - (s.summed:Int))=((s.given - s.summed:Nat):Int):=by rw [zK];omega
     have w2:I.wrap ((s.given:Int) - (s.wrote:Int))=((s.given - s.wrote:Nat):Int):=by rw [zK];omega
     have hx:(s.next p 0).isSome=(decide (s.jobs.length < p.Rm) && (decide (s.given - s.summed < p.Rm) && decide (s.given - s.wrote < p.Wd))):=by
      have l1:decide (s.jobs.length < p.Rm)=!decide (s.jobs.length=p.Rm):=by rw [← decide_not];apply decide_eq_decide.2;omega
      have l2:decide (s.given - s.summed < p.Rm)=!decide (s.lane.length=p.Rm):=by rw [← decide_not];apply decide_eq_decide.2;omega
      rw [l1,l2];simp only [Lst.next,h0,hs,hN,decide_false,Bool.or_self,Bool.false_eq_true,if_false];split
      . next h5=>rw [h5];rfl
      . next h5=>rw [Bool.eq_false_iff.2 h5];rfl
     clear hr hi hs;rw [hx];clear hx;generalize s.given - s.summed=n1 at *;generalize s.given - s.wrote=n2 at *;generalize s.jobs.length=n0 at *
     by_cases k1:n0 < p.Rm
     . have k1':decide ((n0:Int) < (p.Rm:Int))=true:=zL zU
       rw [zL k1,Bool.true_and]
       by_cases k2:n1 < p.Rm
       . have k2':decide ((n1:Int) < (p.Rm:Int))=true:=zL zU
         rw [zL k2,Bool.true_and]
         by_cases k3:n2 < p.Wd
         . have k3':decide ((n2:Int) < (p.Wd:Int))=true:=zL zU
           rw [zL k3];unfold ptrV at *
           go_enter func168,ntmps168
           go_wp2_with (first
            | (go_at_call 171;refine HG.out.mono ?_;rintro e u2 ⟨rfl,m1,rfl⟩;clear HG)
            | (go_at_call 172;refine (HJ.out _).mono ?_;rintro e u2 ⟨rfl,hu⟩;subst u2;clear HJ)
            | (go_at_call 172;refine (HR.out _).mono ?_;rintro e u2 ⟨rfl,hu⟩;subst u2;clear HR))
           go_quiet (fail)
           go_wp2;go_ret;exact ⟨rfl,m1+nq,World.drewN_drewN ..⟩
         . have k3':decide ((n2:Int) < (p.Wd:Int))=false:=zM zU
           rw [zM k3];unfold ptrV at *
           go_enter func168,ntmps168
           go_wp2_with (first
            | (go_at_call 171;refine HG.out.mono ?_;rintro e u2 ⟨rfl,m1,rfl⟩;clear HG)
            | (go_at_call 172;refine (HJ.out _).mono ?_;rintro e u2 ⟨rfl,hu⟩;subst u2;clear HJ)
            | (go_at_call 172;refine (HR.out _).mono ?_;rintro e u2 ⟨rfl,hu⟩;subst u2;clear HR))
           go_quiet (fail)
           go_wp2;go_ret;exact ⟨rfl,m1+nq,World.drewN_drewN ..⟩
       . have k2':decide ((n1:Int) < (p.Rm:Int))=false:=zM zU
         rw [zM k2,Bool.false_and];unfold ptrV at *
         go_enter func168,ntmps168
         go_wp2_with (first
          | (go_at_call 171;refine HG.out.mono ?_;rintro e u2 ⟨rfl,m1,rfl⟩;clear HG)
          | (go_at_call 172;refine (HJ.out _).mono ?_;rintro e u2 ⟨rfl,hu⟩;subst u2;clear HJ)
          | (go_at_call 172;refine (HR.out _).mono ?_;rintro e u2 ⟨rfl,hu⟩;subst u2;clear HR))
         go_quiet (fail)
         go_wp2;go_ret;exact ⟨rfl,m1+nq,World.drewN_drewN ..⟩
     . have k1':decide ((n0:Int) < (p.Rm:Int))=false:=zM zU
       rw [zM k1,Bool.false_and];unfold ptrV at *
       go_enter func168,ntmps168
       go_wp2_with (first
        | (go_at_call 171;refine HG.out.mono ?_;rintro e u2 ⟨rfl,m1,rfl⟩;clear HG)
        | (go_at_call 172;refine (HJ.out _).mono ?_;rintro e u2 ⟨rfl,hu⟩;subst u2;clear HJ)
        | (go_at_call 172;refine (HR.out _).mono ?_;rintro e u2 ⟨rfl,hu⟩;subst u2;clear HR))
       go_quiet (fail)
       go_wp2;go_ret;exact ⟨rfl,m1+nq,World.drewN_drewN ..⟩
theorem y9g {p:Lpar} {x:Lsn} {r:Rad} {s:Lst} {b:Tab} {w:World} (h:RawIs p x r (z0i s b) w) (hr:Rel p s b) (hi:LInv p s) :
 Calls prog 168 #[ptrV r.rb,O I 1] w fun e w'=>e=.returned (.bool (s.next p 1).isSome)/\∃ m,w'=w.drewN m:=by
 have HG:=zZ (z1X h s.given (hr.cnt0 hi) hi.given);have HJ:Hid (∀ m,Calls prog 172 #[ptrV r.rb,O I 1] (w.drewN m) fun e w'=>e=.returned (O I (s.jobs.length:Nat))/\w'=w.drewN m):=fun m=>by
  have:=z1e (h.drewN m) 1;rw [show cntN (z0i s b).pl 1 p.N=s.jobs.length from hr.cnt1 hi] at this;exact this
 have HR:Hid (∀ m,Calls prog 172 #[ptrV r.rb,O I 3] (w.drewN m) fun e w'=>e=.returned (O I (s.ready.length:Nat))/\w'=w.drewN m):=fun m=>by
  have:=z1e (h.drewN m) 3;rw [show cntN (z0i s b).pl 3 p.N=s.ready.length from hr.cnt3 hi] at this;exact this
 have i1:=hi.given;have i2:=h.N3;have i3:=hi.wrote;have i4:=hi.lane.1;have i5:=hi.lane_len;have i6:=hi.jr;have i7:=hi.lr;have i8:=hi.rr;have i9:=h.W8;have c6:=h.cells.cell 6;have c7:=h.cells.cell 7;have c11:=h.cells.cell 11;have c15:=h.cells.cell 15;have c16:=h.cells.cell 16;have c19:=h.cells.cell 19;have c20:=h.cells.cell 20;have c23:=h.cells.cell 23;have ce0:w.cell? ⟨r.re,0,none⟩=some (.bool s.e0):=h.re.cell zU;have ce1:w.cell? ⟨r.re,1,none⟩=some (.bool s.e1):=h.re.cell zU;have ce2:w.cell? ⟨r.re,2,none⟩=some (.bool s.e2):=h.re.cell zU;have lW:(0:Nat) < 3+p.W:=zU
 have lW1:(1:Nat) < 3+p.W:=zU
 have lW2:(2:Nat) < 3+p.W:=zU
 simp [rfC,rowV,z0i] at c6 c7 c11 c15 c16 c19 c20 c23;clear h;cases h0:s.e1 with
 | true =>
  rw [h0] at ce1;rw [show (s.next p 1).isSome=false by simp [Lst.next,h0]];clear hr hi;unfold ptrV at *
  go_enter func168,ntmps168
  go_wp2_with (first
   | (go_at_call 171;refine HG.out.mono ?_;rintro e u2 ⟨rfl,m1,rfl⟩;clear HG)
   | (go_at_call 172;refine (HJ.out _).mono ?_;rintro e u2 ⟨rfl,hu⟩;subst u2;clear HJ)
   | (go_at_call 172;refine (HR.out _).mono ?_;rintro e u2 ⟨rfl,hu⟩;subst u2;clear HR))
  go_ret;exact ⟨rfl,0,rfl⟩
 | false =>
  rw [h0] at ce1
  by_cases hN:s.summed < s.given
  . rw [show (s.next p 1).isSome=true by simp [Lst.next,h0,i5];omega]
    have b1:decide ((s.summed:Int) < (s.given:Int))=true:=zL zU;clear hr hi;unfold ptrV at *
    go_enter func168,ntmps168
    go_wp2_with (first
     | (go_at_call 171;refine HG.out.mono ?_;rintro e u2 ⟨rfl,m1,rfl⟩;clear HG)
     | (go_at_call 172;refine (HJ.out _).mono ?_;rintro e u2 ⟨rfl,hu⟩;subst u2;clear HJ)
     | (go_at_call 172;refine (HR.out _).mono ?_;rintro e u2 ⟨rfl,hu⟩;subst u2;clear HR))
    go_ret;exact ⟨rfl,_,rfl⟩
  . have b1:decide ((s.summed:Int) < (s.given:Int))=false:=zM zU
    have z0:s.given - s.summed=0:=zU
    rw [show (s.next p 1).isSome=s.e0 by simp [Lst.next,h0,i5,z0];cases s.e0 <;> rfl];clear hr hi;unfold ptrV at *
    go_enter func168,ntmps168
    go_wp2_with (first
     | (go_at_call 171;refine HG.out.mono ?_;rintro e u2 ⟨rfl,m1,rfl⟩;clear HG)
     | (go_at_call 172;refine (HJ.out _).mono ?_;rintro e u2 ⟨rfl,hu⟩;subst u2;clear HJ)
     | (go_at_call 172;refine (HR.out _).mono ?_;rintro e u2 ⟨rfl,hu⟩;subst u2;clear HR))
    go_ret;exact ⟨rfl,_,rfl⟩
theorem y9h {p:Lpar} {x:Lsn} {r:Rad} {s:Lst} {b:Tab} {w:World} (h:RawIs p x r (z0i s b) w) (hr:Rel p s b) (hi:LInv p s) :
 Calls prog 168 #[ptrV r.rb,O I 2] w fun e w'=>e=.returned (.bool (s.next p 2).isSome)/\∃ m,w'=w.drewN m:=by
 have HG:=zZ (z1X h s.given (hr.cnt0 hi) hi.given);have HJ:Hid (∀ m,Calls prog 172 #[ptrV r.rb,O I 1] (w.drewN m) fun e w'=>e=.returned (O I (s.jobs.length:Nat))/\w'=w.drewN m):=fun m=>by
  have:=z1e (h.drewN m) 1;rw [show cntN (z0i s b).pl 1 p.N=s.jobs.length from hr.cnt1 hi] at this;exact this
 have HR:Hid (∀ m,Calls prog 172 #[ptrV r.rb,O I 3] (w.drewN m) fun e w'=>e=.returned (O I (s.ready.length:Nat))/\w'=w.drewN m):=fun m=>by
  have:=z1e (h.drewN m) 3;rw [show cntN (z0i s b).pl 3 p.N=s.ready.length from hr.cnt3 hi] at this;exact this
 have i1:=hi.given;have i2:=h.N3;have i3:=hi.wrote;have i4:=hi.lane.1;have i5:=hi.lane_len;have i6:=hi.jr;have i7:=hi.lr;have i8:=hi.rr;have i9:=h.W8;have c6:=h.cells.cell 6;have c7:=h.cells.cell 7;have c11:=h.cells.cell 11;have c15:=h.cells.cell 15;have c16:=h.cells.cell 16;have c19:=h.cells.cell 19;have c20:=h.cells.cell 20;have c23:=h.cells.cell 23;have ce0:w.cell? ⟨r.re,0,none⟩=some (.bool s.e0):=h.re.cell zU;have ce1:w.cell? ⟨r.re,1,none⟩=some (.bool s.e1):=h.re.cell zU;have ce2:w.cell? ⟨r.re,2,none⟩=some (.bool s.e2):=h.re.cell zU;have lW:(0:Nat) < 3+p.W:=zU
 have lW1:(1:Nat) < 3+p.W:=zU
 have lW2:(2:Nat) < 3+p.W:=zU
 simp [rfC,rowV,z0i] at c6 c7 c11 c15 c16 c19 c20 c23;have HN:Hid (∀ m,Calls prog 230 #[ptrV r.rb] (w.drewN m) fun e w'=>e=.returned (.bool (decide (s.shelf.head?=some s.wrote)))/\∃ m,w'=w.drewN m):=fun m=>(z9u (h.drewN m)).mono fun e w' ⟨h5,q,h6⟩=>⟨by rw [h5];exact congrArg (fun y=>Ending.returned (.bool y)) (hr.next hi),m+q,by rw [h6,World.drewN_drewN]⟩
 have HC:Hid (∀ m,Calls prog 231 #[ptrV r.rb] (w.drewN m) fun e w'=>e=.returned (.bool (s.shut p))/\w'=w.drewN m):=fun m=>y0I (h.drewN m)
 clear h;cases h0:s.e2 with
 | true =>
  rw [h0] at ce2;rw [show (s.next p 2).isSome=false by simp [Lst.next,h0]];clear hr hi;unfold ptrV at *
  go_enter func168,ntmps168
  go_wp2_with (first
   | (go_at_call 171;refine HG.out.mono ?_;rintro e u2 ⟨rfl,m1,rfl⟩;clear HG)
   | (go_at_call 172;refine (HJ.out _).mono ?_;rintro e u2 ⟨rfl,hu⟩;subst u2;clear HJ)
   | (go_at_call 172;refine (HR.out _).mono ?_;rintro e u2 ⟨rfl,hu⟩;subst u2;clear HR)
   | (go_at_call 230;refine (HN.out _).mono ?_;rintro e u2 ⟨rfl,m2,rfl⟩;clear HN)
   | (go_at_call 231;refine (HC.out _).mono ?_;rintro e u2 ⟨rfl,hu⟩;subst u2;clear HC))
  go_ret;exact ⟨rfl,0,rfl⟩
 | false =>
  rw [h0] at ce2;cases hb:s.begun with
  | false =>
   rw [hb] at c20;rw [show (s.next p 2).isSome=true by simp [Lst.next,h0,hb]];clear hr hi;unfold ptrV at *
   go_enter func168,ntmps168
   go_wp2_with (first
    | (go_at_call 171;refine HG.out.mono ?_;rintro e u2 ⟨rfl,m1,rfl⟩;clear HG)
    | (go_at_call 172;refine (HJ.out _).mono ?_;rintro e u2 ⟨rfl,hu⟩;subst u2;clear HJ)
    | (go_at_call 172;refine (HR.out _).mono ?_;rintro e u2 ⟨rfl,hu⟩;subst u2;clear HR)
    | (go_at_call 230;refine (HN.out _).mono ?_;rintro e u2 ⟨rfl,m2,rfl⟩;clear HN)
    | (go_at_call 231;refine (HC.out _).mono ?_;rintro e u2 ⟨rfl,hu⟩;subst u2;clear HC))
   go_ret;exact ⟨rfl,_,rfl⟩
  | true =>
   rw [hb] at c20
   by_cases hx:s.shelf.head?=some s.wrote
   . rw [show (s.next p 2).isSome=true by simp [Lst.next,h0,hb,hx]]
     rw [zL hx] at HN;clear hr hi hx;unfold ptrV at *
     go_enter func168,ntmps168
     go_wp2_with (first
      | (go_at_call 171;refine HG.out.mono ?_;rintro e u2 ⟨rfl,m1,rfl⟩;clear HG)
      | (go_at_call 172;refine (HJ.out _).mono ?_;rintro e u2 ⟨rfl,hu⟩;subst u2;clear HJ)
      | (go_at_call 172;refine (HR.out _).mono ?_;rintro e u2 ⟨rfl,hu⟩;subst u2;clear HR)
      | (go_at_call 230;refine (HN.out _).mono ?_;rintro e u2 ⟨rfl,m2,rfl⟩;clear HN)
      | (go_at_call 231;refine (HC.out _).mono ?_;rintro e u2 ⟨rfl,hu⟩;subst u2;clear HC))
     go_ret;exact ⟨rfl,_,rfl⟩
   . rw [zM hx] at HN
     by_cases hy:0 < s.ready.length
     . rw [show (s.next p 2).isSome=true by simp [Lst.next,h0,hb,hx,hy]]
       have b1:decide ((0:Int) < (s.ready.length:Int))=true:=zL zU;generalize s.ready.length=n0 at *;clear hr hi hx;unfold ptrV at *
       go_enter func168,ntmps168
       go_wp2_with (first
        | (go_at_call 171;refine HG.out.mono ?_;rintro e u2 ⟨rfl,m1,rfl⟩;clear HG)
        | (go_at_call 172;refine (HJ.out _).mono ?_;rintro e u2 ⟨rfl,hu⟩;subst u2;clear HJ)
        | (go_at_call 172;refine (HR.out _).mono ?_;rintro e u2 ⟨rfl,hu⟩;subst u2;clear HR)
        | (go_at_call 230;refine (HN.out _).mono ?_;rintro e u2 ⟨rfl,m2,rfl⟩;clear HN)
        | (go_at_call 231;refine (HC.out _).mono ?_;rintro e u2 ⟨rfl,hu⟩;subst u2;clear HC))
       go_ret;exact ⟨rfl,_,rfl⟩
     . have b1:decide ((0:Int) < (s.ready.length:Int))=false:=zM zU
       rw [show (s.next p 2).isSome=(s.shut p && s.e1) by simp [Lst.next,h0,hb,hx,hy];cases s.shut p <;> cases s.e1 <;> simp];generalize s.ready.length=n0 at *;clear hr hi hx;cases hz:s.shut p with
       | true =>
        rw [hz] at HC;rw [Bool.true_and];clear hz;unfold ptrV at *
        go_enter func168,ntmps168
        go_wp2_with (first
         | (go_at_call 171;refine HG.out.mono ?_;rintro e u2 ⟨rfl,m1,rfl⟩;clear HG)
         | (go_at_call 172;refine (HJ.out _).mono ?_;rintro e u2 ⟨rfl,hu⟩;subst u2;clear HJ)
         | (go_at_call 172;refine (HR.out _).mono ?_;rintro e u2 ⟨rfl,hu⟩;subst u2;clear HR)
         | (go_at_call 230;refine (HN.out _).mono ?_;rintro e u2 ⟨rfl,m2,rfl⟩;clear HN)
         | (go_at_call 231;refine (HC.out _).mono ?_;rintro e u2 ⟨rfl,hu⟩;subst u2;clear HC))
        go_ret;exact ⟨rfl,_,rfl⟩
       | false =>
        rw [hz] at HC;rw [Bool.false_and];clear hz;unfold ptrV at *
        go_enter func168,ntmps168
        go_wp2_with (first
         | (go_at_call 171;refine HG.out.mono ?_;rintro e u2 ⟨rfl,m1,rfl⟩;clear HG)
         | (go_at_call 172;refine (HJ.out _).mono ?_;rintro e u2 ⟨rfl,hu⟩;subst u2;clear HJ)
         | (go_at_call 172;refine (HR.out _).mono ?_;rintro e u2 ⟨rfl,hu⟩;subst u2;clear HR)
         | (go_at_call 230;refine (HN.out _).mono ?_;rintro e u2 ⟨rfl,m2,rfl⟩;clear HN)
         | (go_at_call 231;refine (HC.out _).mono ?_;rintro e u2 ⟨rfl,hu⟩;subst u2;clear HC))
        go_ret;exact ⟨rfl,_,rfl⟩
theorem y9i {p:Lpar} {x:Lsn} {r:Rad} {s:Lst} {b:Tab} {w:World} (h:RawIs p x r (z0i s b) w) (hr:Rel p s b) (hi:LInv p s) (j:Nat) (hj:j < p.W) :
 Calls prog 168 #[ptrV r.rb,O I ((j+3:Nat):Int)] w fun e w'=>e=.returned (.bool (s.next p (j+3)).isSome)/\∃ m,w'=w.drewN m:=by
 have HG:=zZ (z1X h s.given (hr.cnt0 hi) hi.given);have HJ:Hid (∀ m,Calls prog 172 #[ptrV r.rb,O I 1] (w.drewN m) fun e w'=>e=.returned (O I (s.jobs.length:Nat))/\w'=w.drewN m):=fun m=>by
  have:=z1e (h.drewN m) 1;rw [show cntN (z0i s b).pl 1 p.N=s.jobs.length from hr.cnt1 hi] at this;exact this
 have HR:Hid (∀ m,Calls prog 172 #[ptrV r.rb,O I 3] (w.drewN m) fun e w'=>e=.returned (O I (s.ready.length:Nat))/\w'=w.drewN m):=fun m=>by
  have:=z1e (h.drewN m) 3;rw [show cntN (z0i s b).pl 3 p.N=s.ready.length from hr.cnt3 hi] at this;exact this
 have i1:=hi.given;have i2:=h.N3;have i3:=hi.wrote;have i4:=hi.lane.1;have i5:=hi.lane_len;have i6:=hi.jr;have i7:=hi.lr;have i8:=hi.rr;have i9:=h.W8;have c6:=h.cells.cell 6;have c7:=h.cells.cell 7;have c11:=h.cells.cell 11;have c15:=h.cells.cell 15;have c16:=h.cells.cell 16;have c19:=h.cells.cell 19;have c20:=h.cells.cell 20;have c23:=h.cells.cell 23;have ce0:w.cell? ⟨r.re,0,none⟩=some (.bool s.e0):=h.re.cell zU;have ce1:w.cell? ⟨r.re,1,none⟩=some (.bool s.e1):=h.re.cell zU;have ce2:w.cell? ⟨r.re,2,none⟩=some (.bool s.e2):=h.re.cell zU;have lW:(0:Nat) < 3+p.W:=zU
 have lW1:(1:Nat) < 3+p.W:=zU
 have lW2:(2:Nat) < 3+p.W:=zU
 simp [rfC,rowV,z0i] at c6 c7 c11 c15 c16 c19 c20 c23;have HH:Hid (∀ m,Calls prog 173 #[ptrV r.rb,O I ((j+3:Nat):Int)] (w.drewN m) fun e w'=>e=.returned (O I (holV (s.held j)))/\w'=w.drewN m):=fun m=>z3N (h.drewN m) (j+3) (s.held j) (fun i hN=>hr.a2 i j hN hj) (fun i hN=>(hi.heldN hN).2)
 have ct:w.cell? ⟨r.re,j+3,none⟩=some (.bool (s.ew j)):=h.re.cell zU;obtain ⟨t,ht⟩:∃ t,t=j+3:=⟨_,rfl⟩;have lt1:t < 3+p.W:=zU
 have t0:((t:Int) == 0)=false:=by simp;omega
 have t1:((t:Int) == 1)=false:=by simp;omega
 have t2:((t:Int) == 2)=false:=by simp;omega
 have hnx:(s.next p (j+3)).isSome=(!s.ew j && (match s.held j with | none=>(decide (0 < s.jobs.length) || s.e0) | some _=>(s.stopped || decide (s.ready.length < p.Rm)))):=by
  have l1:decide (s.ready.length < p.Rm)=!decide (s.ready.length=p.Rm):=by rw [← decide_not];apply decide_eq_decide.2;omega
  rw [l1];simp only [Lst.next];cases s.ew j
  . cases s.held j with
    | none=>simp only [Bool.false_eq_true,if_false,Bool.not_false,Bool.true_and];split <;> simp_all
    | some k=>simp only [Bool.false_eq_true,if_false,Bool.not_false,Bool.true_and];cases s.stopped <;> simp <;> split <;> simp_all
  . simp
 rw [hnx];rw [← ht] at HH ct ⊢;clear h hr hi hnx ht;cases h0:s.ew j with
 | true =>
  rw [h0] at ct;rw [Bool.not_true,Bool.false_and];unfold ptrV at *
  go_enter func168,ntmps168
  go_wp2_with (first
   | (go_at_call 171;refine HG.out.mono ?_;rintro e u2 ⟨rfl,m1,rfl⟩;clear HG)
   | (go_at_call 172;refine (HJ.out _).mono ?_;rintro e u2 ⟨rfl,hu⟩;subst u2;clear HJ)
   | (go_at_call 172;refine (HR.out _).mono ?_;rintro e u2 ⟨rfl,hu⟩;subst u2;clear HR)
   | (go_at_call 173;refine (HH.out _).mono ?_;rintro e u2 ⟨rfl,hu⟩;subst u2;clear HH))
  go_ret;exact ⟨rfl,0,rfl⟩
 | false =>
  rw [h0] at ct;rw [Bool.not_false,Bool.true_and];cases hh:s.held j with
  | none =>
   rw [hh] at HH;unfold holV at *;clear hh;generalize s.jobs.length=n0 at *
   by_cases k1:0 < n0
   . have b1:decide ((0:Int) < (n0:Int))=true:=zL zU
     rw [zL k1,Bool.true_or];unfold ptrV at *
     go_enter func168,ntmps168
     go_wp2_with (first
      | (go_at_call 171;refine HG.out.mono ?_;rintro e u2 ⟨rfl,m1,rfl⟩;clear HG)
      | (go_at_call 172;refine (HJ.out _).mono ?_;rintro e u2 ⟨rfl,hu⟩;subst u2;clear HJ)
      | (go_at_call 172;refine (HR.out _).mono ?_;rintro e u2 ⟨rfl,hu⟩;subst u2;clear HR)
      | (go_at_call 173;refine (HH.out _).mono ?_;rintro e u2 ⟨rfl,hu⟩;subst u2;clear HH))
     go_ret;exact ⟨rfl,_,rfl⟩
   . have b1:decide ((0:Int) < (n0:Int))=false:=zM zU
     rw [zM k1,Bool.false_or];unfold ptrV at *
     go_enter func168,ntmps168
     go_wp2_with (first
      | (go_at_call 171;refine HG.out.mono ?_;rintro e u2 ⟨rfl,m1,rfl⟩;clear HG)
      | (go_at_call 172;refine (HJ.out _).mono ?_;rintro e u2 ⟨rfl,hu⟩;subst u2;clear HJ)
      | (go_at_call 172;refine (HR.out _).mono ?_;rintro e u2 ⟨rfl,hu⟩;subst u2;clear HR)
      | (go_at_call 173;refine (HH.out _).mono ?_;rintro e u2 ⟨rfl,hu⟩;subst u2;clear HH))
     go_ret;exact ⟨rfl,_,rfl⟩
  | some k =>
   rw [hh] at HH;unfold holV at *;have b1:decide ((k:Int) < 0)=false:=zM zU;clear hh;generalize s.ready.length=n0 at *;cases hs:s.stopped with
   | true =>
    rw [Bool.true_or];have b0:((s.stopN:Int) != 0)=true:=by have:=z3h hs;simp;omega
    clear hs;unfold ptrV at *
    go_enter func168,ntmps168
    go_wp2_with (first
     | (go_at_call 171;refine HG.out.mono ?_;rintro e u2 ⟨rfl,m1,rfl⟩;clear HG)
     | (go_at_call 172;refine (HJ.out _).mono ?_;rintro e u2 ⟨rfl,hu⟩;subst u2;clear HJ)
     | (go_at_call 172;refine (HR.out _).mono ?_;rintro e u2 ⟨rfl,hu⟩;subst u2;clear HR)
     | (go_at_call 173;refine (HH.out _).mono ?_;rintro e u2 ⟨rfl,hu⟩;subst u2;clear HH))
    go_ret;exact ⟨rfl,_,rfl⟩
   | false =>
    rw [z1Q hs] at c23;rw [Bool.false_or];clear hs
    by_cases k1:n0 < p.Rm
    . have b2:decide ((n0:Int) < (p.Rm:Int))=true:=zL zU
      rw [zL k1];unfold ptrV at *
      go_enter func168,ntmps168
      go_wp2_with (first
       | (go_at_call 171;refine HG.out.mono ?_;rintro e u2 ⟨rfl,m1,rfl⟩;clear HG)
       | (go_at_call 172;refine (HJ.out _).mono ?_;rintro e u2 ⟨rfl,hu⟩;subst u2;clear HJ)
       | (go_at_call 172;refine (HR.out _).mono ?_;rintro e u2 ⟨rfl,hu⟩;subst u2;clear HR)
       | (go_at_call 173;refine (HH.out _).mono ?_;rintro e u2 ⟨rfl,hu⟩;subst u2;clear HH))
      go_ret;exact ⟨rfl,_,rfl⟩
    . have b2:decide ((n0:Int) < (p.Rm:Int))=false:=zM zU
      rw [zM k1];unfold ptrV at *
      go_enter func168,ntmps168
      go_wp2_with (first
       | (go_at_call 171;refine HG.out.mono ?_;rintro e u2 ⟨rfl,m1,rfl⟩;clear HG)
       | (go_at_call 172;refine (HJ.out _).mono ?_;rintro e u2 ⟨rfl,hu⟩;subst u2;clear HJ)
       | (go_at_call 172;refine (HR.out _).mono ?_;rintro e u2 ⟨rfl,hu⟩;subst u2;clear HR)
       | (go_at_call 173;refine (HH.out _).mono ?_;rintro e u2 ⟨rfl,hu⟩;subst u2;clear HH))
      go_ret;exact ⟨rfl,_,rfl⟩
theorem y2Y {p:Lpar} {x:Lsn} {r:Rad} {s:Lst} {b:Tab} {w:World} (h:RawIs p x r (z0i s b) w) (hr:Rel p s b) (hi:LInv p s):∀ t,t < 3+p.W ->
 Calls prog 168 #[ptrV r.rb,O I (t:Nat)] w fun e w'=>e=.returned (.bool (s.next p t).isSome)/\∃ m,w'=w.drewN m
 | 0,_=>y9f h hr hi
 | 1,_=>y9g h hr hi
 | 2,_=>y9h h hr hi
 | j+3,ht=>y9i h hr hi j zU
theorem y8n (s:Lst):({ s with e0:=true }:Lst).endedT=updL s.endedT 0 true:=by
 funext t
 match t with
 | 0=>rfl
 | 1=>rfl
 | 2=>rfl
 | j+3=>simp [Lst.endedT,updL]
theorem y8o (s:Lst):({ s with e1:=true }:Lst).endedT=updL s.endedT 1 true:=by
 funext t
 match t with
 | 0=>rfl
 | 1=>rfl
 | 2=>rfl
 | j+3=>simp [Lst.endedT,updL]
theorem y4Z (s:Lst):({ s with e2:=true }:Lst).endedT=updL s.endedT 2 true:=by
 funext t
 match t with
 | 0=>rfl
 | 1=>rfl
 | 2=>rfl
 | j+3=>simp [Lst.endedT,updL]
theorem y8p (s:Lst) (j:Nat):({ s with ew:=updL s.ew j true }:Lst).endedT=updL s.endedT (j+3) true:=by
 funext t
 match t with
 | 0=>simp [Lst.endedT,updL]
 | 1=>simp [Lst.endedT,updL]
 | 2=>simp [Lst.endedT,updL]
 | i+3=>simp [Lst.endedT,updL]
theorem y6J (p:Lpar) (s:Lst) (b:Tab):z0i (s.act p .end0) (b.step p s .end0)={ z0i s b with en:=updL (z0i s b).en 0 true }:=by
 show Rst.mk _ _ _ _ _ _ _ (Lst.endedT _) _ _ _ _=_
 exact congrArg (fun e=>{ z0i s b with en:=e }) (y8n s)
theorem y6K (p:Lpar) (s:Lst) (b:Tab):z0i (s.act p .give) (b.step p s .give)={ z0i s b with pl:=updL (z0i s b).pl s.given 1 }:=rfl
theorem y5a (p:Lpar) (s:Lst) (b:Tab):z0i (s.act p .sum) (b.step p s .sum)=if 0 < s.lane.length then { z0i s b with summed:=s.summed+1 } else { z0i s b with en:=updL (z0i s b).en 1 true }:=by
 unfold Lst.act;cases h:s.lane with
 | nil=>exact congrArg (fun e=>{ z0i s b with en:=e }) (y8o s)
 | cons k r=>simp;rfl
theorem LInv.noFail {p:Lpar} {s:Lst} (h:LInv p s) (hs:s.stopped=false):s.failed=false:=by
 cases hf:s.failed
 . rfl
 . rw [h.fail hf] at hs;cases hs
theorem z0M {s s':Lst} (h0:s'.e0=s.e0) (h1:s'.e1=s.e1) (h2:s'.e2=s.e2) (h3:s'.ew=s.ew):s'.endedT=s.endedT:=by
 funext t
 match t with
 | 0=>exact h0
 | 1=>exact h1
 | 2=>exact h2
 | j+3=>exact congrFun h3 j
theorem y1L (p:Lpar) (s:Lst) (b:Tab):(z0i s b).fails p=decide (((s.writes+1:Nat):Int)=p.fail):=rfl
theorem y5b {s:Lst} (h:s.stopped=true) (hf:s.failed=true):s.stopN=3:=by simp [Lst.stopN,h,hf]
theorem y8q {s:Lst} (h:s.stopped=true) (hf:s.failed=false):s.stopN=2:=by simp [Lst.stopN,h,hf]
theorem y1M {p:Lpar} {s s1:Lst} {b:Tab} (hs:s.stopped=false) (hf:s.failed=false) (h0:s1.stopped=s.stopped) (h2:s1.failed=s.failed) (h3:s1.writes=s.writes) (h4:s1.summed=s.summed) (h5:s1.wrote=s.wrote) (h6:s1.hd=s.hd) (m:Nat) :
 z0i (s1.head p m) (if (s1.head p m).stopped=true/\s.stopped=false then b.halt else b) =
  if (z0i s b).fails p then { ({ z0i s b with writes:=s.writes+1 }:Rst).halt 3 with begun:=s1.begun,en:=s1.endedT } else { z0i s b with writes:=s.writes+1,begun:=s1.begun,en:=s1.endedT,head:=decide (1<=m),whole:=decide (m=2) }:=by
 have ht:(s1.tries p).failed=(z0i s b).fails p:=by simp only [Lst.tries];rw [h2,hf,Bool.false_or,y1L,h3]
 rcases z3I (p:=p) (s:=s1) (m:=m) with ⟨y1,y2⟩ | ⟨y1,y3,y2⟩ | ⟨y1,y3,y2⟩
 . rw [h0,hs] at y1;cases y1
 . rw [if_pos (⟨by rw [y2];rfl,hs⟩:(s1.head p m).stopped=true/\s.stopped=false),← ht,y3,y2,if_pos rfl]
   have e:=z0M (s:=s1) (s':=(s1.tries p).halt) rfl rfl rfl rfl;simp only [z0i,e];have f:(s1.tries p).halt.stopN=3:=y5b rfl y3;rw [f];simp only [Lst.halt,Lst.tries,h3,h4,h5,h6,Rst.halt,Tab.halt]
 . have g1:(s1.head p m).stopped=false:=by rw [y2];exact y1
   rw [if_neg (by rw [g1];simp:¬ ((s1.head p m).stopped=true/\s.stopped=false)),← ht,y3,y2,if_neg (by simp)];have e:=z0M (s:=s1) (s':={ s1.tries p with hd:=m }) rfl rfl rfl rfl;simp only [z0i,e];have f:({ s1.tries p with hd:=m }:Lst).stopN=s.stopN:=(z1Q (s:={ s1.tries p with hd:=m }) y1).trans (z1Q hs).symm;rw [f];simp only [Lst.tries,h3,h4,h5]
theorem y2Z {p:Lpar} {s:Lst} {b:Tab} (hi:LInv p s) {c:LAct} (hn:s.next p 2=some c):(z0i s b).writer p (decide (s.shelf.head?=some s.wrote)) s.ready.head?=z0i (s.act p c) (b.step p s c):=by
 obtain ⟨he2,⟨rfl,hb⟩ | ⟨hb,⟨rfl,hh⟩ | ⟨rfl,hh,-⟩⟩⟩:=y6s hn
 . have hd:=(hi.hd0 hb).1
   unfold Rst.writer;rw [if_neg (by show ¬ s.begun=true;rw [hb];simp)]
   show _=z0i (Lst.head p { s with begun:=true } 1) (if (Lst.head p { s with begun:=true } 1).stopped=true/\s.stopped=false then b.halt else b)
   rcases (zH s.stopped).symm with hs | hs
   . rw [y1M (s:=s) (s1:={ s with begun:=true }) hs (hi.noFail hs) rfl rfl rfl rfl rfl rfl 1,if_pos (show (z0i s b).stop=0 from z1Q hs),Rst.wrt]
     rw [show ({ z0i s b with begun:=true }:Rst).fails p=(z0i s b).fails p from rfl];rw [show ({ s with begun:=true }:Lst).endedT=s.endedT from z0M rfl rfl rfl rfl];cases (z0i s b).fails p
     . simp [z0i,hd]
     . simp [z0i,Rst.halt,hd]
   . rw [if_neg (show ¬ (z0i s b).stop=0 from z3h hs)]
     rcases z3I (p:=p) (s:={ s with begun:=true }) (m:=1) with ⟨y1,y2⟩ | ⟨y1,-,y2⟩ | ⟨y1,-,y2⟩
     . rw [y2,if_neg (by rw [hs];simp)]
       simp only [z0i];rw [show ({ s with begun:=true }:Lst).endedT=s.endedT from z0M rfl rfl rfl rfl]
       rfl
     . rw [show ({ s with begun:=true }:Lst).stopped=s.stopped from rfl,hs] at y1;cases y1
     . rw [show ({ s with begun:=true }:Lst).stopped=s.stopped from rfl,hs] at y1;cases y1
 . have hst:s.stopped=false:=by
     cases h1:s.stopped
     . rfl
     . rw [hi.stop h1] at hh;cases hh
   unfold Rst.writer;rw [if_pos (show (z0i s b).begun=true from hb),if_pos (zL hh)]
   show _=z0i (Lst.frame p { s with shelf:=s.shelf.tail }) (if (Lst.frame p { s with shelf:=s.shelf.tail }).stopped=true/\s.stopped=false then b.halt else b.put s.wrote 5)
   have ht:(Lst.tries p { s with shelf:=s.shelf.tail }).failed=(z0i s b).fails p:=by simp only [Lst.tries];rw [hi.noFail hst,Bool.false_or,y1L]
   unfold Lst.frame Rst.wrt;rw [ht];rcases (zH ((z0i s b).fails p)).symm with hx | hx
   . rw [hx,if_neg (by simp),if_neg (by simp),if_neg (by simp),if_neg (by show ¬ (s.stopped=true/\_);rw [hst];simp)]
     simp only [z0i];rw [show ({ Lst.tries p { s with shelf:=s.shelf.tail } with wrote:=s.wrote+1 }:Lst).endedT=s.endedT from z0M rfl rfl rfl rfl];have f:({ Lst.tries p { s with shelf:=s.shelf.tail } with wrote:=s.wrote+1 }:Lst).stopN=s.stopN:=(z1Q (s:={ Lst.tries p { s with shelf:=s.shelf.tail } with wrote:=s.wrote+1 }) hst).trans (z1Q hst).symm;rw [f]
     rfl
   . rw [hx,if_pos rfl,if_pos rfl,if_pos rfl,if_pos ⟨rfl,hst⟩]
     simp only [z0i];rw [show (Lst.tries p { s with shelf:=s.shelf.tail }).halt.endedT=s.endedT from z0M rfl rfl rfl rfl];have f:(Lst.tries p { s with shelf:=s.shelf.tail }).halt.stopN=3:=y5b rfl (ht.trans hx);rw [f]
     rfl
 . unfold Rst.writer
   rw [if_pos (show (z0i s b).begun=true from hb),if_neg (by rw [zM hh];simp)];cases hr:s.ready with
   | nil =>
    have ea:s.act p .shelve=Lst.head p { s with e2:=true } 2:=by simp only [Lst.act,hr]
    have eb:b.step p s .shelve=if (Lst.head p { s with e2:=true } 2).stopped=true/\s.stopped=false then b.halt else b:=by simp only [Tab.step,hr]
    rw [ea,eb];simp only [List.head?_nil];rcases (zH s.stopped).symm with hs | hs
    . rw [y1M (s:=s) (s1:={ s with e2:=true }) hs (hi.noFail hs) rfl rfl rfl rfl rfl rfl 2,if_pos (show (z0i s b).stop=0 from z1Q hs),Rst.wrt,y4Z]
      have h1:=(hi.hd1 hb hs he2).1;cases (z0i s b).fails p
      . simp [z0i,h1]
      . simp [z0i,Rst.halt,h1]
    . rw [if_neg (show ¬ (z0i s b).stop=0 from z3h hs)]
      rcases z3I (p:=p) (s:={ s with e2:=true }) (m:=2) with ⟨y1,y2⟩ | ⟨y1,-,y2⟩ | ⟨y1,-,y2⟩
      . rw [y2,if_neg (by rw [hs];simp)]
        simp only [z0i];rw [y4Z]
        rfl
      . rw [show ({ s with e2:=true }:Lst).stopped=s.stopped from rfl,hs] at y1;cases y1
      . rw [show ({ s with e2:=true }:Lst).stopped=s.stopped from rfl,hs] at y1;cases y1
   | cons k r =>
    have ea:s.act p .shelve=if s.stopped then { s with ready:=r } else { s with ready:=r,shelf:=insL k s.shelf }:=by simp only [Lst.act,hr]
    have eb:b.step p s .shelve=b.put k (if s.stopped then 6 else 4):=by simp only [Tab.step,hr]
    rw [ea,eb];simp only [List.head?_cons];rcases (zH s.stopped).symm with hs | hs
    . have hns:¬ s.stopped=true:=by rw [hs];simp
      rw [if_pos (show (z0i s b).stop=0 from z1Q hs),if_neg hns,if_neg hns];simp only [z0i];rw [show ({ s with ready:=r,shelf:=insL k s.shelf }:Lst).endedT=s.endedT from z0M rfl rfl rfl rfl]
      rfl
    . rw [if_neg (show ¬ (z0i s b).stop=0 from z3h hs),if_pos hs,if_pos hs]
      simp only [z0i];rw [show ({ s with ready:=r }:Lst).endedT=s.endedT from z0M rfl rfl rfl rfl]
      rfl
theorem y3a {p:Lpar} {s:Lst} {b:Tab} {j:Nat} {c:LAct} (hn:s.next p (j+3)=some c):(z0i s b).worker (j+3) (s.held j) s.jobs.head?=z0i (s.act p c) (b.step p s c):=by
 unfold Rst.worker;obtain ⟨-,⟨rfl,h1,-⟩ | ⟨k,h1,⟨rfl,hs⟩ | ⟨rfl,hs,-⟩⟩⟩:=y6t hn
 . rw [h1]
   cases hr:s.jobs with
   | nil =>
    have ea:s.act p (.takeW j)={ s with ew:=updL s.ew j true }:=by simp only [Lst.act,hr]
    have eb:b.step p s (.takeW j)=b:=by simp only [Tab.step,hr]
    rw [ea,eb];simp only [z0i,List.head?_nil];rw [y8p]
    rfl
   | cons k r =>
    have ea:s.act p (.takeW j)={ s with jobs:=r,held:=updL s.held j (some k) }:=by simp only [Lst.act,hr]
    have eb:b.step p s (.takeW j)={ b.put k 2 with by_:=updL b.by_ k (j+3) }:=by simp only [Tab.step,hr]
    rw [ea,eb];simp only [z0i,List.head?_cons];rw [show ({ s with jobs:=r,held:=updL s.held j (some k) }:Lst).endedT=s.endedT from z0M rfl rfl rfl rfl]
    rfl
 . rw [h1]
   have eb:b.step p s (.letGo j)=b.put k 6:=by simp only [Tab.step,h1]
   rw [eb];simp only [];rw [if_neg (show ¬ (z0i s b).stop=0 from z3h hs)];simp only [z0i];rw [show (s.act p (.letGo j)).endedT=s.endedT from z0M rfl rfl rfl rfl]
   rfl
 . rw [h1]
   have ea:s.act p (.hand j)={ s with held:=updL s.held j none,ready:=s.ready ++ [k] }:=by simp only [Lst.act,h1]
   have eb:b.step p s (.hand j)={ b.put k 3 with wh:=updL b.wh k b.turn,turn:=b.turn+1 }:=by simp only [Tab.step,h1]
   rw [ea,eb];simp only [];rw [if_pos (show (z0i s b).stop=0 from z1Q hs)];simp only [z0i];rw [show ({ s with held:=updL s.held j none,ready:=s.ready ++ [k] }:Lst).endedT=s.endedT from z0M rfl rfl rfl rfl]
   rfl
theorem y3b {p:Lpar} {s:Lst} {b:Tab} (hi:LInv p s) (hs:s.stopped=false):z0i s.halt b.halt=(z0i s b).halt 2:=by
 simp only [z0i,Rst.halt];rw [show s.halt.endedT=s.endedT from z0M rfl rfl rfl rfl];have f:s.halt.stopN=2:=y8q rfl (hi.noFail hs);rw [f]
 rfl
theorem LInv.writesN {p:Lpar} {s:Lst} (h:LInv p s):s.writes<=p.N+2:=by
 have h1:=h.wrote;have h2:=h.given;rcases (zH s.stopped).symm with hs | hs
 . rcases (zH s.begun).symm with hb | hb
   . have:=(h.hd0 hb).2.1;omega
   . rcases (zH s.e2).symm with he | he
     . have:=(h.hd1 hb hs he).2;omega
     . have:=(h.hd2 he hs).2.2;omega
 . rcases (zH s.failed).symm with hf | hf
   . have:=(h.fc hs hf).1;omega
   . have:=(h.ff hf).2;omega
theorem RawIs.edit {p:Lpar} {x:Lsn} {r:Rad} {z:Rst} {w u:World} {S:Nat->Prop} (h:RawIs p x r z w) (he:Edit S w u) (h1:∀ k,r.own k->¬ S k) (h2:∀ g,r.fv.ownBlock=some g->¬ S g):RawIs p x r z u :=
 ⟨h.cells.edit he (h1 _ (by simp [Rad.own])),h.ra.of_block (he.block _ h.ra.lt (h1 _ (by simp [Rad.own]))),h.ry.of_block (he.block _ h.ry.lt (h1 _ (by simp [Rad.own]))),h.rw.of_block (he.block _ h.rw.lt (h1 _ (by simp [Rad.own]))),h.re.of_block (he.block _ h.re.lt (h1 _ (by simp [Rad.own]))),z0m h.fr he h2,h.ne,h.N3,h.W8,h.fne⟩
theorem RawIs.below {p:Lpar} {x:Lsn} {r:Rad} {z:Rst} {w u:World} (h:RawIs p x r z w) (hu:Below w.heap.size w u):RawIs p x r z u:=h.edit (Edit.of (S:=fun _=>False) hu) (fun _ _=>id) (fun _ _=>id)
theorem z2u {p:Lpar} {x:Lsn} {r:Rad} {s:Lst} {b:Tab} {w:World} (h:RawIs p x r (z0i s b) w) (hr:Rel p s b) (hi:LInv p s) :
 Calls prog 90 #[ptrV r.rb] w fun e w'=>∃ v,e=.returned v/\w'.ownsRow w.heap.size 3 1 v (s.able p).length ((s.able p).map fun (k:Nat)=>O I (k:Int))/\Below w.heap.size w w':=by
 have hW:=h.W8;have HAB:Hid (∀ u,Below w.heap.size w u->u.cell? ⟨r.rb,19,none⟩=some (.slice (some ⟨r.re,0,none⟩) (3+p.W) (3+p.W))/\∀ q,q < 3+p.W->Calls prog 168 #[ptrV r.rb,O I (q:Nat)] u fun e w'=>e=.returned (.bool (s.next p q).isSome)/\∃ m,w'=u.drewN m):=fun u hu=>⟨(h.below hu).cells.cell 19,fun q hq=>y2Y (h.below hu) hr hi q hq⟩
 unfold Lst.able;have hlen:∀ q,((List.range q).filter fun t=>(s.next p t).isSome).length<=q:=fun q=>by have:=List.length_filter_le (fun t=>(s.next p t).isSome) (List.range q);rw [List.length_range] at this;exact this
 have HLN:=zZ hlen;clear h hi hr hlen;generalize hff:(fun t=>(s.next p t).isSome)=ff at *;have HFF:Hid (∀ q,(s.next p q).isSome=ff q):=fun q=>by rw [← hff]
 clear hff;have HFI:=zZ (z4e ff);unfold ptrV at *
 go_enter func90,ntmps90
 go_wp2
 go_loopw [3,4,5] (fun s3 s4 _ wr=>∃ q:Nat,∃ v3:Value,v3=s3/\q<=3+p.W/\s4=O I q/\Hid (wr.ownsRow w.heap.size 3 1 v3 ((List.range q).filter ff).length (((List.range q).filter ff).map fun (k:Nat)=>O I (k:Int))/\Below w.heap.size w wr)) (fun _ s4 _ _=>3+p.W - (intOf s4).toNat)
 case atStart=>exact ⟨0,_,rfl,zJ _,rfl,⟨rfl,Or.inl ⟨rfl,rfl⟩⟩,Below.refl _ _⟩
 case round =>
  obtain ⟨q,v3,hv3,hq,rfl,HI⟩:=hrel;subst hv3;have t0:=(HAB.out wr HI.out.2).1
  by_cases hlt:q < 3+p.W
  . have HA:=zZ ((HAB.out wr HI.out.2).2 q hlt)
    rw [HFF.out q] at HA;have hfi:=HFI.out q;have hil:(q:Int) < 3+(p.W:Int):=zU
    cases hfq:ff q with
    | false =>
     rw [hfq] at HA hfi;simp only [Bool.false_eq_true,if_false,List.append_nil] at hfi
     go_wp2_with (go_at_call 168;refine HA.out.mono ?_;rintro e u ⟨rfl,m,rfl⟩;clear HA)
     go_roundw
     case rel=>exact ⟨q+1,_,rfl,zU,zS,by rw [hfi];exact ⟨z1z HI.out.1 fun _ _=>rfl,z0W HI.out.2 m⟩⟩
     case measure=>simp [intOf];omega
    | true =>
     rw [hfq] at HA hfi;simp only [if_true] at hfi;have hsz:=HI.out.2.size;have hlq:=HLN.out q;have HRM:Hid (∀ m,∃ g cap w',(Builtin.append_ #[30,30] 30 #[v3,.slice (some ⟨wr.heap.size,0,none⟩) 1 1]).run prog ((wr.drewN m).alloc (.cells #[O I (q:Int)] 3))=.ok (.slice (some ⟨g,0,none⟩) (((List.range q).filter ff).length+1) cap) w'/\w'.ownsRow w.heap.size 3 1 (.slice (some ⟨g,0,none⟩) (((List.range q).filter ff).length+1) cap) ((List.range (q+1)).filter ff).length (((List.range (q+1)).filter ff).map fun (k:Nat)=>O I (k:Int))/\Below w.heap.size w w'):=fun m=>by
      obtain ⟨g',cap',w',hr,ho,he,-⟩:=z6p (wr.drewN m) w.heap.size _ ((List.range q).filter ff).length _ (q:Int) 30 (z1z HI.out.1 fun _ _=>rfl) hsz zU;refine ⟨g',cap',w',hr,?_,?_⟩
      . rw [hfi,List.map_append,zN]
        exact ho
      . have h1:=he.below (B:=w.heap.size) hsz fun b hb=>z0t HI.out.1 b hb
        exact (z0W HI.out.2 m).trans h1
     go_wp2_with (first
      | (go_at_call 168;refine HA.out.mono ?_;rintro e u ⟨rfl,m,rfl⟩;obtain ⟨g',cap',w',hr,ho⟩:=HRM.out m;have HR:=zZ hr;have HO:=zZ ho;clear HA HRM hr ho)
      | (at_builtin;refine Lib.wpList_append_run _ rfl _ _ _ _ rfl _ _ rfl rfl _ _ HR.out ?_))
     go_roundw
     case rel=>exact ⟨q+1,_,rfl,zU,zS,HO⟩
     case measure=>simp [intOf];omega
  . have e:q=3+p.W:=zU
    have hil:¬ ((q:Int) < 3+(p.W:Int)):=zU
    go_wp2;go_ret;have h1:=HI.out;rw [e] at h1;exact ⟨_,rfl,h1⟩
theorem y0M {p:Lpar} {x:Lsn} {r:Rad} {s:Lst} {b:Tab} {w:World} (h:RawIs p x r (z0i s b) w) (hi:LInv p s) (h2:s.e2=false) (hs:s.stopped=false) :
 Calls prog 93 #[ptrV r.rb] w fun e w'=>e=.returned (O I 0)/\RawIs p x r (z0i s.halt b.halt) w'/\Edit r.own w w':=by
 have c19:=h.cells.cell 19;have c23:=h.cells.cell 23;have ce2:w.cell? ⟨r.re,2,none⟩=some (.bool s.e2):=h.re.cell zU;have lW2:(2:Nat) < 3+p.W:=zU
 have HH:=zZ (z9v h 2);simp [rfC,rowV,z0i] at c19 c23;rw [h2] at ce2;rw [y3b (b:=b) hi hs];rw [z1Q hs] at c23;clear h hi;unfold ptrV at *
 go_enter func93,ntmps93
 go_wp2_with (go_at_call 170;refine HH.out.mono ?_;rintro e u ⟨rfl,h5⟩;have H5:=zZ h5;clear HH h5)
 go_ret;exact ⟨rfl,H5.out⟩
theorem z7l {p:Lpar} {x:Lsn} {r:Rad} {s:Lst} {b:Tab} {w:World} (h:RawIs p x r (z0i s b) w) (h2:s.e2=true∨s.stopped=true) :
 Calls prog 93 #[ptrV r.rb] w fun e w'=>e=.returned (O I 9)/\w'=w:=by
 have c19:=h.cells.cell 19;have c23:=h.cells.cell 23;have ce2:w.cell? ⟨r.re,2,none⟩=some (.bool s.e2):=h.re.cell zU;have lW2:(2:Nat) < 3+p.W:=zU
 simp [rfC,rowV,z0i] at c19 c23;clear h;unfold ptrV at *;rcases (zH s.e2).symm with h3 | h3
 . rw [h3] at ce2
   have hs:s.stopped=true:=h2.resolve_left (by rw [h3];simp);have b0:((s.stopN:Int) != 0)=true:=by have:=z3h hs;simp;omega
   go_enter func93,ntmps93
   go_wp2;go_ret;exact ⟨rfl,rfl⟩
 . rw [h3] at ce2
   go_enter func93,ntmps93
   go_wp2;go_ret;exact ⟨rfl,rfl⟩
end Go.Proofs.YtlncjgnomhpjnabGreatDoor
