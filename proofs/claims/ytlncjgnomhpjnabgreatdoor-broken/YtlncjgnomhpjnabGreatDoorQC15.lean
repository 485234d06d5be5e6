import Derived.Test.YtlncjgnomhpjnabGreatDoorQC13
import Derived.Test.YtlncjgnomhpjnabGreatDoorQC14
import Derived.Test.YtlncjgnomhpjnabGreatDoorQC0
namespace Go.Proofs.YtlncjgnomhpjnabGreatDoor
open Go.Value renaming int → O
open Go.IntKind renaming i64 → I
open Go.Proofs.Tryz (prog)
open Go.RowKit Go.Deep
set_option linter.unusedVariables false
def z2L (c0:Int):Int:=if c0=2 then 4 else 1
theorem y3K (c0:Int) (w:World):Calls prog 253 #[O I c0] w fun e w'=>e=.returned (O I (z2L c0))/\w'=w:=by
 unfold z2L
 by_cases h:c0=2
 . rw [if_pos h]
   have t1:(c0 == 2)=true:=by simp [h]
   go_enter Tryz.func253,Tryz.ntmps253
   go_wp2;go_ret;exact ⟨rfl,rfl⟩
 . rw [if_neg h]
   have t1:(c0 == 2)=false:=by simp [h]
   go_enter Tryz.func253,Tryz.ntmps253
   go_wp2;go_ret;exact ⟨rfl,rfl⟩
def widN (d n m i:Nat):Nat:=if n=2 then (if i=0 then w1 d m else w2 d m) else d
set_option maxHeartbeats 400000 in
theorem z5S (d n m i:Nat) (w:World) (hd:d<=12) (hm:m < 4) (hi:i < n) (hn:n<=4) (hP:z7B w) :
 Calls prog 254 #[O I d,O I n,O I m,O I i] w fun e w'=>e=.returned (O I (widN d n m i))/\w'=w:=by
 by_cases h2:n=2
 . subst h2
   have HP:=zZ hP;clear hP
   match m,hm,i,hi with
   | 0,_,0,_ =>
    have hc:=HP.out 0 0 (by omega) (by omega);rw [show pairV 0 0=0 by decide] at hc
    go_enter Tryz.func254,Tryz.ntmps254
    go_wp2;go_ret;exact ⟨rfl,rfl⟩
   | 0,_,1,_ =>
    have hc:=HP.out 0 1 (by omega) (by omega);rw [show pairV 0 1=1 by decide] at hc
    go_enter Tryz.func254,Tryz.ntmps254
    go_wp2;go_ret;exact ⟨rfl,rfl⟩
   | 1,_,0,_ =>
    have hc:=HP.out 1 0 (by omega) (by omega);rw [show pairV 1 0=0 by decide] at hc
    go_enter Tryz.func254,Tryz.ntmps254
    go_wp2;go_ret;exact ⟨rfl,rfl⟩
   | 1,_,1,_ =>
    have hc:=HP.out 1 1 (by omega) (by omega);rw [show pairV 1 1=2 by decide] at hc
    go_enter Tryz.func254,Tryz.ntmps254
    go_wp2;go_ret;exact ⟨rfl,rfl⟩
   | 2,_,0,_ =>
    have hc:=HP.out 2 0 (by omega) (by omega);rw [show pairV 2 0=2 by decide] at hc
    go_enter Tryz.func254,Tryz.ntmps254
    go_wp2;go_ret;exact ⟨rfl,rfl⟩
   | 2,_,1,_ =>
    have hc:=HP.out 2 1 (by omega) (by omega);rw [show pairV 2 1=1 by decide] at hc
    go_enter Tryz.func254,Tryz.ntmps254
    go_wp2;go_ret;exact ⟨rfl,rfl⟩
   | 3,_,0,_ =>
    have hc:=HP.out 3 0 (by omega) (by omega);rw [show pairV 3 0=3 by decide] at hc
    go_enter Tryz.func254,Tryz.ntmps254
    go_wp2;go_ret;exact ⟨rfl,rfl⟩
   | 3,_,1,_ =>
    have hc:=HP.out 3 1 (by omega) (by omega);rw [show pairV 3 1=2 by decide] at hc
    go_enter Tryz.func254,Tryz.ntmps254
    go_wp2;go_ret;exact ⟨rfl,rfl⟩
 . have t1:((n:Int) == 2)=false:=by simp;omega
   have e:widN d n m i=d:=by unfold widN;rw [if_neg h2]
   rw [e];clear hP e
   go_enter Tryz.func254,Tryz.ntmps254
   go_wp2;go_ret;exact ⟨rfl,rfl⟩
def MayP (c0 c2:Int) (len n mode:Nat) (bytes:Nat):Prop:=(10<=len/\len<=bytes)/\(n:Int)<=c2/\(mode:Int) < z2L c0
set_option maxHeartbeats 4000000 in
theorem z3W (num len n mode bytes:Nat) (c0 c1 c2 c3 c4 c5 c6 c7:Int) (w:World) (hby:bytes<=1048576) :
 Calls prog 205 #[.agg #[O I num,O I len,O I n,O I mode],.agg #[O I c0,O I c1,O I c2,O I c3,O I c4,O I c5,O I c6,O I c7],O I bytes] w fun e w'=>Says e (MayP c0 c2 len n mode bytes)/\Below w.heap.size w w':=by
 have HB:Hid (Below w.heap.size w ((w.alloc (.cells #[O I num,O I len,O I n,O I mode] 203)).alloc (.cells #[O I c0,O I c1,O I c2,O I c3,O I c4,O I c5,O I c6,O I c7] 23))):=(zX.alloc zY _).alloc (by simp) _;have HWI:=zZ (fun u=>z0A (len:Int) 10 bytes u);have HMO:=zZ (fun u=>y3K c0 u)
 by_cases h1:10<=len/\len<=bytes
 . have e1:z0s (len:Int) 10 bytes=true:=(z0h _ _ _).2 (by omega)
   rw [e1] at HWI
   by_cases h2:(n:Int)<=c2
   . have t2:decide ((n:Int)<=c2)=true:=decide_eq_true h2
     have hS0:((w.alloc (.cells #[O I num,O I len,O I n,O I mode] 203)).alloc (.cells #[O I c0,O I c1,O I c2,O I c3,O I c4,O I c5,O I c6,O I c7] 23)).drew.cell? ⟨w.heap.size,1,none⟩=some (O I len)/\((w.alloc (.cells #[O I num,O I len,O I n,O I mode] 203)).alloc (.cells #[O I c0,O I c1,O I c2,O I c3,O I c4,O I c5,O I c6,O I c7] 23)).drew.cell? ⟨w.heap.size,2,none⟩=some (O I n)/\((w.alloc (.cells #[O I num,O I len,O I n,O I mode] 203)).alloc (.cells #[O I c0,O I c1,O I c2,O I c3,O I c4,O I c5,O I c6,O I c7] 23)).drew.cell? ⟨w.heap.size,3,none⟩=some (O I mode)/\((w.alloc (.cells #[O I num,O I len,O I n,O I mode] 203)).alloc (.cells #[O I c0,O I c1,O I c2,O I c3,O I c4,O I c5,O I c6,O I c7] 23)).drew.cell? ⟨w.heap.size+1,0,none⟩=some (O I c0)/\((w.alloc (.cells #[O I num,O I len,O I n,O I mode] 203)).alloc (.cells #[O I c0,O I c1,O I c2,O I c3,O I c4,O I c5,O I c6,O I c7] 23)).drew.cell? ⟨w.heap.size+1,2,none⟩=some (O I c2):=by simp
     by_cases h3:(mode:Int) < z2L c0
     . have HS:Hid (MayP c0 c2 len n mode bytes):=⟨h1,h2,h3⟩
       have t3:decide ((mode:Int) < z2L c0)=true:=decide_eq_true h3;clear h1 e1;generalize z2L c0=M at *
       go_enter Tryz.func205,Tryz.ntmps205
       go_wp2
       go_region_held3 (fun w'=>w'.cell? ⟨w.heap.size,1,none⟩=some (O I len)/\w'.cell? ⟨w.heap.size,2,none⟩=some (O I n)/\w'.cell? ⟨w.heap.size,3,none⟩=some (O I mode)/\w'.cell? ⟨w.heap.size+1,0,none⟩=some (O I c0)/\w'.cell? ⟨w.heap.size+1,2,none⟩=some (O I c2))
        (with_reducible assumption)
        (first
        | (go_at_call 70;refine (HWI.out _).mono ?_;rintro e u2 ⟨rfl,hw⟩;subst u2;clear HWI)
        | (go_at_call 253;refine (HMO.out _).mono ?_;rintro e u2 ⟨rfl,hw⟩;subst u2;clear HMO))
       go_wp2;go_ret;exact ⟨Says.yes HS.out,HB.out.drew⟩
     . have HS:Hid (¬ MayP c0 c2 len n mode bytes):=fun h=>h3 h.2.2
       have t3:decide ((mode:Int) < z2L c0)=false:=decide_eq_false h3;clear h1 e1;generalize z2L c0=M at *
       go_enter Tryz.func205,Tryz.ntmps205
       go_wp2
       go_region_held3 (fun w'=>w'.cell? ⟨w.heap.size,1,none⟩=some (O I len)/\w'.cell? ⟨w.heap.size,2,none⟩=some (O I n)/\w'.cell? ⟨w.heap.size,3,none⟩=some (O I mode)/\w'.cell? ⟨w.heap.size+1,0,none⟩=some (O I c0)/\w'.cell? ⟨w.heap.size+1,2,none⟩=some (O I c2))
        (with_reducible assumption)
        (first
        | (go_at_call 70;refine (HWI.out _).mono ?_;rintro e u2 ⟨rfl,hw⟩;subst u2;clear HWI)
        | (go_at_call 253;refine (HMO.out _).mono ?_;rintro e u2 ⟨rfl,hw⟩;subst u2;clear HMO))
       go_wp2;go_ret;exact ⟨Says.no HS.out,HB.out.drew⟩
   . have HS:Hid (¬ MayP c0 c2 len n mode bytes):=fun h=>h2 h.2.1
     have t2:decide ((n:Int)<=c2)=false:=decide_eq_false h2;clear h1 e1 HMO
     go_enter Tryz.func205,Tryz.ntmps205
     go_wp2
     first
     | (go_region_with (first | (go_at_call 70;refine (HWI.out _).mono ?_;rintro e u2 ⟨rfl,hw⟩;subst u2)))
     | fail
     all_goals (go_wp2;go_ret;exact ⟨Says.no HS.out,HB.out.drew⟩)
 . have HS:Hid (¬ MayP c0 c2 len n mode bytes):=fun h=>h1 h.1
   have e1:z0s (len:Int) 10 bytes=false:=by
    cases h:z0s (len:Int) 10 bytes with
    | false=>rfl
    | true=>have:=(z0h _ _ _).1 h;omega
   rw [e1] at HWI;clear h1 e1 HMO
   go_enter Tryz.func205,Tryz.ntmps205
   go_wp2
   first
   | (go_region_with (first | (go_at_call 70;refine (HWI.out _).mono ?_;rintro e u2 ⟨rfl,hw⟩;subst u2)))
   | fail
   all_goals (go_wp2;go_ret;exact ⟨Says.no HS.out,HB.out.drew⟩)
end Go.Proofs.YtlncjgnomhpjnabGreatDoor
