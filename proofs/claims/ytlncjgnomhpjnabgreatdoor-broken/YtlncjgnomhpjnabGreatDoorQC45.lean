import Derived.Test.YtlncjgnomhpjnabGreatDoorQC10
import Derived.Test.YtlncjgnomhpjnabGreatDoorQC12
import Derived.Test.YtlncjgnomhpjnabGreatDoorQC17
import Derived.Deep.RegionHeld3
import Derived.Test.YtlncjgnomhpjnabGreatDoorQC26
import Derived.Deep.DeepCutAuto
import Derived.Test.YtlncjgnomhpjnabGreatDoorQC0
namespace Go.Proofs.YtlncjgnomhpjnabGreatDoor
open Go.Value renaming int → O
open Go.IntKind renaming i64 → I
open Go.Proofs.Tryz (prog)
open Go.RowKit Go.Deep
set_option linter.unusedVariables false
def wr64 (a:Int):Int:=IntKind.i64.wrap a
theorem z4N (a:Int):-9223372036854775808<=wr64 a/\wr64 a<=9223372036854775807:=by
 unfold wr64;rw [IntKind.wrap_i64];omega
theorem z1h:(prog.info? 23).map (·.size)=some 8:=by kernel_rfl
theorem y4V (tmps:Array Value) (R:Nat) (cs:Array Value) (W:World) (h:Bx W R 23 cs) (hs:cs.size=8) (h2:tmps.getD 2 undef=.pointer (some ⟨R,0,none⟩)) :
 (results Tryz.f9 tmps).run prog W=.ok (.agg cs) W:=by
 have hl:=run_loadVar_row (P:=prog) W R 23 23 cs (0,0) _ h Tryz.underlying23 rfl (by rw [hs];exact z1h);rw [Array.getD_eq_getD_getElem?] at h2;simp [results,Tryz.results9,asAddr,h2,hl]
set_option maxRecDepth 4000 in
set_option maxHeartbeats 2000000 in
theorem y2O (c0 c1 c2 c3 c4 c5 c6 c7:Int) (w:World) (h3:-9223372036854775808<=c3/\c3<=9223372036854775807) (h4:-9223372036854775808<=c4/\c4<=9223372036854775807) :
 Calls prog 9 #[.agg #[O I c0,O I c1,O I c2,O I c3,O I c4,O I c5,O I c6,O I c7]] w fun e w' =>
  e=.returned (.agg #[O I (1+(pickV (wr64 (c0 - 1)) 4:Nat)),O I (4+(pickV (wr64 (c1 - 4)) 9:Nat)),O I (1+(pickV (wr64 (c2 - 1)) 32:Nat)),O I (pickV c3 65536:Nat),O I (pickV c4 256:Nat),O I (1+(pickV (wr64 (c5 - 1)) 8:Nat)),O I (1+(pickV (wr64 (c6 - 1)) 16:Nat)),O I (1+(pickV (wr64 (c7 - 1)) 8:Nat))])/\Below w.heap.size w w':=by
 have HP0:=zZ (fun u=>z0U (wr64 (c0 - 1)) 4 u (by omega) (by omega) (z4N _));have HP1:=zZ (fun u=>z0U (wr64 (c1 - 4)) 9 u (by omega) (by omega) (z4N _));have HP2:=zZ (fun u=>z0U (wr64 (c2 - 1)) 32 u (by omega) (by omega) (z4N _));have HP3:=zZ (fun u=>z0U c3 65536 u (by omega) (by omega) h3);have HP4:=zZ (fun u=>z0U c4 256 u (by omega) (by omega) h4);have HP5:=zZ (fun u=>z0U (wr64 (c5 - 1)) 8 u (by omega) (by omega) (z4N _));have HP6:=zZ (fun u=>z0U (wr64 (c6 - 1)) 16 u (by omega) (by omega) (z4N _));have HP7:=zZ (fun u=>z0U (wr64 (c7 - 1)) 8 u (by omega) (by omega) (z4N _));have e0:IntKind.i64.wrap (c0 - 1)=wr64 (c0 - 1):=rfl;have e1:IntKind.i64.wrap (c1 - 4)=wr64 (c1 - 4):=rfl;have e2:IntKind.i64.wrap (c2 - 1)=wr64 (c2 - 1):=rfl;have e5:IntKind.i64.wrap (c5 - 1)=wr64 (c5 - 1):=rfl;have e6:IntKind.i64.wrap (c6 - 1)=wr64 (c6 - 1):=rfl;have e7:IntKind.i64.wrap (c7 - 1)=wr64 (c7 - 1):=rfl;generalize wr64 (c0 - 1)=r0 at *;generalize wr64 (c1 - 4)=r1 at *;generalize wr64 (c2 - 1)=r2 at *;generalize wr64 (c5 - 1)=r5 at *;generalize wr64 (c6 - 1)=r6 at *;generalize wr64 (c7 - 1)=r7 at *;have l0:=z0F r0 4 (by omega);have l1:=z0F r1 9 (by omega);have l2:=z0F r2 32 (by omega);have l3:=z0F c3 65536 (by omega);have l4:=z0F c4 256 (by omega);have l5:=z0F r5 8 (by omega);have l6:=z0F r6 16 (by omega);have l7:=z0F r7 8 (by omega);clear h3 h4;generalize pickV r0 4=p0 at *;generalize pickV r1 9=p1 at *;generalize pickV r2 32=p2 at *;generalize pickV c3 65536=p3 at *;generalize pickV c4 256=p4 at *;generalize pickV r5 8=p5 at *;generalize pickV r6 16=p6 at *;generalize pickV r7 8=p7 at *;have v0:IntKind.i64.wrap (1+(p0:Int))=1+(p0:Int):=by rw [IntKind.wrap_i64];omega
 have v1:IntKind.i64.wrap (4+(p1:Int))=4+(p1:Int):=by rw [IntKind.wrap_i64];omega
 have v2:IntKind.i64.wrap (1+(p2:Int))=1+(p2:Int):=by rw [IntKind.wrap_i64];omega
 have v5:IntKind.i64.wrap (1+(p5:Int))=1+(p5:Int):=by rw [IntKind.wrap_i64];omega
 have v6:IntKind.i64.wrap (1+(p6:Int))=1+(p6:Int):=by rw [IntKind.wrap_i64];omega
 have v7:IntKind.i64.wrap (1+(p7:Int))=1+(p7:Int):=by rw [IntKind.wrap_i64];omega
 have hS0:∀ o,((w.alloc (.cells #[O I c0,O I c1,O I c2,O I c3,O I c4,O I c5,O I c6,O I c7] 23)).alloc o).drew.cell? ⟨w.heap.size,0,none⟩=some (O I c0)/\((w.alloc (.cells #[O I c0,O I c1,O I c2,O I c3,O I c4,O I c5,O I c6,O I c7] 23)).alloc o).drew.cell? ⟨w.heap.size,1,none⟩=some (O I c1)/\((w.alloc (.cells #[O I c0,O I c1,O I c2,O I c3,O I c4,O I c5,O I c6,O I c7] 23)).alloc o).drew.cell? ⟨w.heap.size,2,none⟩=some (O I c2)/\((w.alloc (.cells #[O I c0,O I c1,O I c2,O I c3,O I c4,O I c5,O I c6,O I c7] 23)).alloc o).drew.cell? ⟨w.heap.size,3,none⟩=some (O I c3)/\((w.alloc (.cells #[O I c0,O I c1,O I c2,O I c3,O I c4,O I c5,O I c6,O I c7] 23)).alloc o).drew.cell? ⟨w.heap.size,4,none⟩=some (O I c4)/\((w.alloc (.cells #[O I c0,O I c1,O I c2,O I c3,O I c4,O I c5,O I c6,O I c7] 23)).alloc o).drew.cell? ⟨w.heap.size,5,none⟩=some (O I c5)/\((w.alloc (.cells #[O I c0,O I c1,O I c2,O I c3,O I c4,O I c5,O I c6,O I c7] 23)).alloc o).drew.cell? ⟨w.heap.size,6,none⟩=some (O I c6)/\((w.alloc (.cells #[O I c0,O I c1,O I c2,O I c3,O I c4,O I c5,O I c6,O I c7] 23)).alloc o).drew.cell? ⟨w.heap.size,7,none⟩=some (O I c7):=fun o=>by
  have hc:Bx ((w.alloc (.cells #[O I c0,O I c1,O I c2,O I c3,O I c4,O I c5,O I c6,O I c7] 23)).alloc o) w.heap.size 23 #[O I c0,O I c1,O I c2,O I c3,O I c4,O I c5,O I c6,O I c7]:=(Bx.new w _ _).alloc _;exact ⟨hc.cell 0,hc.cell 1,hc.cell 2,hc.cell 3,hc.cell 4,hc.cell 5,hc.cell 6,hc.cell 7⟩
 have HBE:Hid (∀ o,Below w.heap.size w ((w.alloc (.cells #[O I c0,O I c1,O I c2,O I c3,O I c4,O I c5,O I c6,O I c7] 23)).alloc o).drew):=fun o=>((zX.alloc zY _).alloc (by simp) _).drew
 go_enter Tryz.func9,Tryz.ntmps9
 go_wp2_with fail
 go_region_held3 (fun w'=>w'.cell? ⟨w.heap.size,0,none⟩=some (O I c0)/\w'.cell? ⟨w.heap.size,1,none⟩=some (O I c1)/\w'.cell? ⟨w.heap.size,2,none⟩=some (O I c2)/\w'.cell? ⟨w.heap.size,3,none⟩=some (O I c3)/\w'.cell? ⟨w.heap.size,4,none⟩=some (O I c4)/\w'.cell? ⟨w.heap.size,5,none⟩=some (O I c5)/\w'.cell? ⟨w.heap.size,6,none⟩=some (O I c6)/\w'.cell? ⟨w.heap.size,7,none⟩=some (O I c7))
  (with_reducible exact hS0 _)
  (first
   | (go_at_call 13;refine (HP0.out _).mono ?_;rintro e w' ⟨rfl,hw⟩;subst hw;clear HP0)
   | (go_at_call 13;refine (HP1.out _).mono ?_;rintro e w' ⟨rfl,hw⟩;subst hw;clear HP1)
   | (go_at_call 13;refine (HP2.out _).mono ?_;rintro e w' ⟨rfl,hw⟩;subst hw;clear HP2)
   | (go_at_call 13;refine (HP3.out _).mono ?_;rintro e w' ⟨rfl,hw⟩;subst hw;clear HP3)
   | (go_at_call 13;refine (HP4.out _).mono ?_;rintro e w' ⟨rfl,hw⟩;subst hw;clear HP4)
   | (go_at_call 13;refine (HP5.out _).mono ?_;rintro e w' ⟨rfl,hw⟩;subst hw;clear HP5)
   | (go_at_call 13;refine (HP6.out _).mono ?_;rintro e w' ⟨rfl,hw⟩;subst hw;clear HP6)
   | (go_at_call 13;refine (HP7.out _).mono ?_;rintro e w' ⟨rfl,hw⟩;subst hw;clear HP7))
 go_wp2_with fail;refine bodyPost_ret (y4V _ (w.heap.size+1) #[O I (1+(p0:Int)),O I (4+(p1:Int)),O I (1+(p2:Int)),O I (p3:Int),O I (p4:Int),O I (1+(p5:Int)),O I (1+(p6:Int)),O I (1+(p7:Int))] _ ?_ rfl rfl) rfl ⟨rfl,HBE.out _⟩;exact Bx.new2 (by simp) _ _
def smpK (d:Nat) (v:Int):Int:=if -(2 ^ (d - 1))<=v/\v < 2 ^ (d - 1) then v else (pickV v (2 * 2 ^ (d - 1)):Int) - 2 ^ (d - 1)
theorem y4W (d:Nat) (v:Int):fitsB d (smpK d v)=true:=by
 unfold smpK fitsB;rw [z0h];have hp:=Nat.two_pow_pos (d - 1);have e:(2:Int) ^ (d - 1)=((2 ^ (d - 1):Nat):Int):=by rw [Int.natCast_pow];rfl
 rw [e];generalize 2 ^ (d - 1)=h at *
 by_cases h0:-(h:Int)<=v/\v < (h:Int)
 . rw [if_pos h0];omega
 . rw [if_neg h0]
   have h1:=z0F v (2 * h) (by omega);omega
set_option maxRecDepth 4000 in
set_option maxHeartbeats 2000000 in
theorem y0U (v:Int) (d:Nat) (w:World) (hd1:4<=d) (hd:d<=12) (hv:-9223372036854775808<=v/\v<=9223372036854775807) :
 Calls prog 32 #[O I v,O I d] w fun e w'=>e=.returned (O I (smpK d v))/\w'=w:=by
 obtain ⟨h,hh⟩:∃ h:Nat,h=2 ^ (d - 1):=⟨_,rfl⟩;have hh2:h<=2048:=by rw [hh];exact Nat.pow_le_pow_right (n:=2) (by omega) (show d - 1<=11 by omega)
 have hh1:1<=h:=by rw [hh];exact Nat.two_pow_pos _
 have e0:(2:Int) ^ (d - 1)=(h:Int):=by rw [hh,Int.natCast_pow];rfl
 have HSM:Hid (smpK d v=if -(h:Int)<=v/\v < (h:Int) then v else (pickV v (2 * h):Int) - (h:Int)):=by
  show _=_
  unfold smpK;rw [e0,hh]
 have e2:((2 * h:Nat):Int)=2 * (h:Int):=by omega
 have HPK:Hid (∀ u,Calls prog 13 #[O I v,O I (2 * (h:Int))] u fun e w'=>e=.returned (O I (pickV v (2 * h)))/\w'=u):=fun u=>by
  have:=z0U v (2 * h) u (by omega) (by omega) hv
  rwa [e2] at this
 have hpl:=z0F v (2 * h) (by omega);have w1:IntKind.i64.wrap ((d:Int) - 1)=((d - 1:Nat):Int):=by rw [IntKind.wrap_i64];omega
 have s1:(1:Int) * 2 ^ (d - 1)=(h:Int):=by rw [e0,Int.one_mul]
 clear hh e0 e2
 by_cases h1:-(h:Int)<=v
 . by_cases h2:v < (h:Int)
   . have HV:Hid (smpK d v=v):=by show _=_;rw [HSM.out,if_pos ⟨h1,h2⟩]
     have d1:decide (v < (h:Int))=true:=decide_eq_true h2;rw [HV.out];clear HV HSM hpl HPK
     go_enter Tryz.func32,Tryz.ntmps32
     go_wp2_with fail;go_ret;exact ⟨rfl,rfl⟩
   . have HV:Hid (smpK d v=(pickV v (2 * h):Int) - (h:Int)):=by show _=_;rw [HSM.out,if_neg (fun hh=>h2 hh.2)]
     have d1:decide (v < (h:Int))=false:=decide_eq_false h2;rw [HV.out];clear HV HSM;generalize pickV v (2 * h)=p at *;have w2:IntKind.i64.wrap ((p:Int) - (h:Int))=(p:Int) - (h:Int):=by rw [IntKind.wrap_i64];omega
     go_enter Tryz.func32,Tryz.ntmps32
     go_wp2_with (first
      | (go_at_call 13;refine (HPK.out _).mono ?_;rintro e w' ⟨rfl,hw⟩;subst hw;clear HPK))
     go_ret;exact ⟨rfl,rfl⟩
 . have HV:Hid (smpK d v=(pickV v (2 * h):Int) - (h:Int)):=by show _=_;rw [HSM.out,if_neg (fun hh=>h1 hh.1)]
   have d1:decide (-(h:Int)<=v)=false:=decide_eq_false h1;rw [HV.out];clear HV HSM;generalize pickV v (2 * h)=p at *;have w2:IntKind.i64.wrap ((p:Int) - (h:Int))=(p:Int) - (h:Int):=by rw [IntKind.wrap_i64];omega
   go_enter Tryz.func32,Tryz.ntmps32
   go_wp2_with (first
    | (go_at_call 13;refine (HPK.out _).mono ?_;rintro e w' ⟨rfl,hw⟩;subst hw;clear HPK))
   go_ret;exact ⟨rfl,rfl⟩
structure AccI (base:Nat) (u:World) (lv:Value) (nn i:Nat) (gs:Nat->Nat) (G:Nat->Nat->Int):Prop where
 own:u.ownsRow base 30 1 lv i (rowL nn gs i)
 rows:∀ k,k < i->u.rowIs (gs k) 3 nn (cutV nn (G k))
 far:∀ k,k < i->base<=gs k
 apart:∀ k l,k < i->l < i->k ≠ l->gs k ≠ gs l
theorem AccI.next {base:Nat} {u u':World} {lv:Value} {nn i:Nat} {gs:Nat->Nat} {G:Nat->Nat->Int} (h:AccI base u lv nn i gs G) (hb:Below u.heap.size u u'):AccI base u' lv nn i gs G :=
 ⟨h.own.kept ⟨hb.os,hb.tape,hb.output,hb.size,fun j hj _=>hb.block j hj⟩ (Classical.em _),fun k hk=>z9f (h.rows k hk) hb,h.far,h.apart⟩
theorem AccI.start (base:Nat) (u:World) (nn:Nat) (gs:Nat->Nat) (G:Nat->Nat->Int):AccI base u (.slice none 0 0) nn 0 gs G :=
 ⟨World.ownsRow_nil _ _ _ _,fun k hk=>absurd hk (Nat.not_lt_zero k),fun k hk=>absurd hk (Nat.not_lt_zero k),fun k l hk=>absurd hk (Nat.not_lt_zero k)⟩
theorem AccI.mono {base base':Nat} {u:World} {lv:Value} {nn i:Nat} {gs:Nat->Nat} {G:Nat->Nat->Int} (h:AccI base u lv nn i gs G) (hb:base'<=base):AccI base' u lv nn i gs G :=
 ⟨z4e h.own hb,h.rows,fun k hk=>Nat.le_trans hb (h.far k hk),h.apart⟩
theorem AccI.put {base:Nat} {u:World} {lv:Value} {nn i:Nat} {gs:Nat->Nat} {G:Nat->Nat->Int} (h:AccI base u lv nn i gs G) {a:Addr} (v:Value) (h1:lv.ownBlock ≠ some a.block) (h2:∀ k,k < i->gs k ≠ a.block):AccI base (u.setCell a v) lv nn i gs G :=
 ⟨h.own.kept (z0p u a v) (.inr h1),fun k hk=>(h.rows k hk).setOther (h2 k hk) v,h.far,h.apart⟩
theorem AccI.more {base:Nat} {u u':World} {lv lv':Value} {nn i g:Nat} {gs:Nat->Nat} {G:Nat->Nat->Int} {x:Nat->Int} (h:AccI base u lv nn i gs G) (hrow:u.rowIs g 3 nn (cutV nn x)) (hg:base<=g) (hnew:∀ k,k < i->gs k ≠ g)
 (ho:u'.ownsRow base 30 1 lv' (i+1) (rowL nn gs i ++ [Value.slice (some ⟨g,0,none⟩) nn nn])) (hgr:u.grownBy u' lv.ownBlock):AccI base u' lv' nn (i+1) (updN gs i g) (upd2 G i x) :=
 have keep:∀ {k:Nat} {f:Nat->Value},u.rowIs k 3 nn f->u'.rowIs k 3 nn f:=fun {k f} hk=>by
  obtain ⟨c0,h1,h2⟩:=hk;refine ⟨c0,(hgr.block k (Array.getElem?_eq_some_iff.1 h1).1 ?_).trans h1,h2⟩;intro e;rcases h.own.2 with ⟨rfl,-⟩ | ⟨g2,cap2,cur2,rfl,-,h5,-⟩
  . simp [Value.ownBlock] at e
  . simp [Value.ownBlock] at e
    subst e;rw [h1] at h5
    injection h5 with h5
    injection h5 with _ h6
    exact absurd h6 (by decide)
 ⟨by rw [z9e];exact ho,
  fun k hk=>by
   unfold updN upd2
   by_cases e:k=i
   . rw [if_pos e,if_pos e];exact keep hrow
   . rw [if_neg e,if_neg e];exact keep (h.rows k (by omega)),
  fun k hk=>by
   unfold updN
   by_cases e:k=i
   . rw [if_pos e];exact hg
   . rw [if_neg e];exact h.far k (by omega),
  fun k l hk hl hkl=>by
   unfold updN
   by_cases e:k=i
   . rw [if_pos e,if_neg (by omega)];exact Ne.symm (hnew l (by omega))
   . rw [if_neg e]
     by_cases e2:l=i
     . rw [if_pos e2];exact hnew k (by omega)
     . rw [if_neg e2];exact h.apart k l (by omega) (by omega) hkl⟩
def sndN (n:Nat) (L:Nat->Nat):Nat:=if 0 < n then min 300 (L 0) else 0
def sndF (d n:Nat) (L:Nat->Nat) (F:Nat->Nat->Int) (i j:Nat):Int:=if i < n/\j < L i then smpK d (F i j) else 0
theorem y4X (d n:Nat) (L:Nat->Nat) (F:Nat->Nat->Int) (i j:Nat):fitsB d (sndF d n L F i j)=true:=by
 unfold sndF
 by_cases h:i < n/\j < L i
 . rw [if_pos h];exact y4W _ _
 . rw [if_neg h]
   unfold fitsB;rw [z0h];have hp:=Nat.two_pow_pos (d - 1);have e:(2:Int) ^ (d - 1)=((2 ^ (d - 1):Nat):Int):=by rw [Int.natCast_pow];rfl
   omega
set_option maxRecDepth 4000 in
set_option maxHeartbeats 2000000 in
theorem y0V (c2 c3 c4 c5 c6 c7:Int) (ch d:Nat) (a:Option Addr) (n cap:Nat) (A:Nat->Option Addr) (L C:Nat->Nat) (F:Nat->Nat->Int) (w:World) (hc4:ch<=4) (hd1:4<=d) (hd:d<=12) (hn:n<=17592186044416) (hL:∀ i,i < n->L i<=17592186044416)
 (hA:ListsAt w a n A L C) (hI:∀ i,i < n->IntsAt w (A i) (L i) (F i)) (hF:∀ i,i < n->∀ j,j < L i->-9223372036854775808<=F i j/\F i j<=9223372036854775807) (hlow:Low w.heap.size a n A L) :
 Calls prog 10 #[.agg #[O I ch,O I d,O I c2,O I c3,O I c4,O I c5,O I c6,O I c7],.slice a n cap] w fun e w'=>∃ lv gs G,e=.returned lv/\AccI w.heap.size w' lv (sndN n L) ch gs G/\(∀ i,i < ch->∀ j,j < sndN n L->G i j=sndF d n L F i j)/\Below w.heap.size w w':=by
 have HU:=zZ (show Bx (w.alloc (.cells #[O I ch,O I d,O I c2,O I c3,O I c4,O I c5,O I c6,O I c7] 23)) w.heap.size 23 #[O I ch,O I d,O I c2,O I c3,O I c4,O I c5,O I c6,O I c7] from Bx.new _ _ _);have HB0:Hid (Below w.heap.size w (w.alloc (.cells #[O I ch,O I d,O I c2,O I c3,O I c4,O I c5,O I c6,O I c7] 23))):=zX.alloc zY _;have HA:=zZ hA;have HI:=zZ hI;have HLOW:=zZ hlow;have HF:=zZ hF;have HL:=zZ hL;clear hA hI hlow hF hL;obtain ⟨S,hS⟩:∃ S,S=sndN n L:=⟨_,rfl⟩;rw [← hS];have hS3:S<=300:=by rw [hS];unfold sndN;split <;> omega
 have HS:=zZ hS;clear hS
 go_enter Tryz.func10,Tryz.ntmps10
 go_upto_if 12 with fail
 go_cut [5] (fun s wx=>s=O I ((if 0 < n then L 0 else 0:Nat):Int)/\wx=w.alloc (.cells #[O I ch,O I d,O I c2,O I c3,O I c4,O I c5,O I c6,O I c7] 23))
 case first =>
  by_cases h0:0 < n
  . obtain ⟨b,off,rfl,hc⟩:=HA.out.open h0
    have hc0:(w.alloc (.cells #[O I ch,O I d,O I c2,O I c3,O I c4,O I c5,O I c6,O I c7] 23)).cell? ⟨b,off,none⟩=some (.slice (A 0) (L 0) (C 0)):=(HB0.out.cell (p:=⟨b,off,none⟩) (HLOW.out.1 _ rfl h0)).trans (hc 0 h0);have hL0:=HL.out 0 h0;clear hc;go_wp2_with fail
    go_meet
    case rel=>exact ⟨by rw [if_pos h0],rfl⟩
  . have e:n=0:=by omega
    subst e;go_wp2_with fail
    go_meet
    case rel=>exact ⟨rfl,rfl⟩
 case rest =>
  obtain ⟨rfl,hwx⟩:=hcut;subst hwx;have HS2:Hid (S=min 300 (if 0 < n then L 0 else 0)):=by
   show _=_
   rw [HS.out];unfold sndN;split <;> omega
  have hbn:(if 0 < n then L 0 else 0:Nat)<=17592186044416:=by
   split
   . exact HL.out 0 (by assumption)
   . omega
  generalize (if 0 < n then L 0 else 0:Nat)=n1 at *
  go_upto_if 18 with fail
  go_cut [5] (fun s wx=>s=O I S/\wx=w.alloc (.cells #[O I ch,O I d,O I c2,O I c3,O I c4,O I c5,O I c6,O I c7] 23))
  case first =>
   have hs:=HS2.out
   by_cases h0:300 < n1
   . go_wp2_with fail
     go_meet
     case rel=>exact ⟨by rw [hs];congr 1;omega,rfl⟩
   . go_wp2_with fail
     go_meet
     case rel=>exact ⟨by rw [hs];congr 1;omega,rfl⟩
  case rest =>
   obtain ⟨rfl,hwx⟩:=hcut;subst hwx;have hmk:=run_make_row' (P:=prog) 30 3 (O I 0) 8 Tryz.underlying30 z1j rfl .i64 .i64 S (by omega) (by omega);go_wp2_with fail
   go_loopw [6,7,8,9] (fun ov iv _ _ wr=>∃ (i:Nat) (lv:Value) (gs:Nat->Nat) (G:Nat->Nat->Int),i<=ch/\iv=O I i/\ov=lv/\Hid (AccI (w.heap.size+1) wr lv S i gs G/\(∀ k,k < i->∀ j,j < S->G k j=sndF d n L F k j)/\Bx wr w.heap.size 23 #[O I ch,O I d,O I c2,O I c3,O I c4,O I c5,O I c6,O I c7]/\Below w.heap.size w wr)) (fun _ iv _ _ _=>ch - (intOf iv).toNat)
   case atStart=>exact ⟨0,.slice none 0 0,fun _=>0,fun _ _=>0,Nat.zero_le _,rfl,rfl,AccI.start _ _ _ _ _,fun k hk=>absurd hk (Nat.not_lt_zero k),HU.out,HB0.out⟩
   case round =>
    obtain ⟨i,lv,gs,G,hi,rfl,e,HR⟩:=hrel;subst e;have x0:=HR.out.2.2.1.cell 0;obtain ⟨al,cl,hlv⟩:=z1S HR.out.1.own;subst hlv
    by_cases hlt:i < ch
    . obtain ⟨wo,hwo⟩:∃ x,x=wr:=⟨_,rfl⟩
      subst hwo;go_wp2_with fail
      go_loopw [9] (fun jv wr=>∃ j:Nat,j<=S/\jv=O I j/\Hid (wr.rowIs wo.heap.size 3 S (cutV j (sndF d n L F i))/\AccI (w.heap.size+1) wr (.slice al i cl) S i gs G/\Bx wr w.heap.size 23 #[O I ch,O I d,O I c2,O I c3,O I c4,O I c5,O I c6,O I c7]/\Below w.heap.size w wr)) (fun jv _=>S - (intOf jv).toNat)
      case atStart=>exact ⟨0,Nat.zero_le _,rfl,(World.rowIs_made wo (O I 0) S 3).congr (fun q _=>by unfold cutV cutI;rw [if_neg (Nat.not_lt_zero q)]),HR.out.1.next (zX.alloc zY _),HR.out.2.2.1.alloc _,HR.out.2.2.2.alloc HR.out.2.2.2.size _⟩
      case round =>
       obtain ⟨j,hj,rfl,HJ⟩:=hrel
       by_cases hjl:j < S
       . by_cases hin:i < n/\j < L i
         . obtain ⟨hi1,hj1⟩:=hin
           obtain ⟨b,off,ha,hc⟩:=HA.out.open (Nat.lt_of_le_of_lt (Nat.zero_le _) hi1);have hcl:wr.cell? ⟨b,off+i,none⟩=some (.slice (A i) (L i) (C i)):=(HJ.out.2.2.2.cell (p:=⟨b,off+i,none⟩) (show b < w.heap.size from HLOW.out.1 _ ha (by omega))).trans (hc i hi1);obtain ⟨b2,o2,ha2,hc2⟩:=(HI.out i hi1).open (Nat.lt_of_le_of_lt (Nat.zero_le _) hj1);have hcv:wr.cell? ⟨b2,o2+j,none⟩=some (O I (F i j)):=(HJ.out.2.2.2.cell (p:=⟨b2,o2+j,none⟩) (show b2 < w.heap.size from HLOW.out.2 i hi1 _ ha2 (by omega))).trans (hc2 j hj1);rw [ha2] at hcl;clear hc hc2;have hLi:=HL.out i hi1;have HSP:=zZ (fun u=>y0U (F i j) d u hd1 hd (HF.out i hi1 j hj1));have xd:=HJ.out.2.2.1.cell 1;have xj:=HJ.out.1.cell hjl;have fj:=HJ.out.1.frozen j;have HX:Hid (sndF d n L F i j=smpK d (F i j)):=by show _=_;unfold sndF;rw [if_pos ⟨hi1,hj1⟩]
           have hne:b ≠ wo.heap.size/\b2 ≠ wo.heap.size/\w.heap.size ≠ wo.heap.size:=by
            have h1:b < w.heap.size:=HLOW.out.1 _ ha (by omega);have h2:b2 < w.heap.size:=HLOW.out.2 i hi1 _ ha2 (by omega);have h3:=HR.out.2.2.1.lt;omega
           have hold:∃ old,cutV j (sndF d n L F i) j=old:=⟨_,rfl⟩;obtain ⟨old,hold⟩:=hold;rw [hold] at xj;clear hold;subst ha;obtain ⟨Li,hLi0⟩:∃ x,L i=x:=⟨_,rfl⟩;obtain ⟨Ci,hCi0⟩:∃ x,C i=x:=⟨_,rfl⟩;obtain ⟨v,hv0⟩:∃ x,F i j=x:=⟨_,rfl⟩;rw [hLi0,hCi0] at hcl;rw [hLi0] at hLi hj1;rw [hv0] at hcv HSP HX;clear hLi0 hCi0 hv0;have hS0:wr.drew.cell? ⟨b,off+i,none⟩=some (.slice (some ⟨b2,o2,none⟩) Li Ci)/\wr.drew.cell? ⟨b2,o2+j,none⟩=some (O I v)/\wr.drew.cell? ⟨w.heap.size,1,none⟩=some (O I d):=⟨hcl,hcv,xd⟩;have hS1:∀ x,(wr.setCell ⟨wo.heap.size,j,none⟩ x).drew.cell? ⟨b,off+i,none⟩=some (.slice (some ⟨b2,o2,none⟩) Li Ci)/\(wr.setCell ⟨wo.heap.size,j,none⟩ x).drew.cell? ⟨b2,o2+j,none⟩=some (O I v)/\(wr.setCell ⟨wo.heap.size,j,none⟩ x).drew.cell? ⟨w.heap.size,1,none⟩=some (O I d):=fun x=>⟨((z0p wr _ x).cell hcl (fun e=>hne.1 (by injection e))),((z0p wr _ x).cell hcv (fun e=>hne.2.1 (by injection e))),((z0p wr _ x).cell xd (fun e=>hne.2.2 (by injection e)))⟩
           have HST:=zZ (HJ.out.1.set j (O I (sndF d n L F i j)));rw [HX.out] at HST;go_wp2_with fail
           go_region_held3 (fun w'=>w'.cell? ⟨b,off+i,none⟩=some (.slice (some ⟨b2,o2,none⟩) Li Ci)/\w'.cell? ⟨b2,o2+j,none⟩=some (O I v)/\w'.cell? ⟨w.heap.size,1,none⟩=some (O I d))
            (first | with_reducible exact hS0 | with_reducible exact hS1 _)
            (first
            | (go_at_call 32;refine (HSP.out _).mono ?_;rintro e u1 ⟨rfl,hw⟩;subst hw;clear HSP))
           have hb1:Below w.heap.size w (wr.setCell ⟨wo.heap.size,j,none⟩ (O I (smpK d v))):=HJ.out.2.2.2.setCell (by have:=HR.out.2.2.1.lt;show w.heap.size<=wo.heap.size;omega) _;have HB1:=zZ hb1.drew;have HX1:Hid (Bx (wr.setCell ⟨wo.heap.size,j,none⟩ (O I (smpK d v))) w.heap.size 23 #[O I ch,O I d,O I c2,O I c3,O I c4,O I c5,O I c6,O I c7]):=HJ.out.2.2.1.of (blk_setCell_other _ _ _ _ hne.2.2);have HA1:=zZ ((HJ.out.2.1.put (a:=⟨wo.heap.size,j,none⟩) (O I (smpK d v)) (fun e=>by have:=(HR.out.1.own.lt _ e).2;exact Nat.lt_irrefl _ this) (fun k hk e=>by have h1:=(HR.out.1.rows k hk).lt;have e':gs k=wo.heap.size:=e;omega)).next zX.drew);have HR1:=zZ (z2b HX.out.symm HST.out);clear hb1 hS0 hS1;go_wp2_with fail
           go_roundw
           case rel=>exact ⟨j+1,by omega,by go_num,HR1.out,HA1.out,HX1.out,HB1.out⟩
           case measure=>simp [intOf];omega
         . have HX:Hid (sndF d n L F i j=0):=by show _=_;unfold sndF;rw [if_neg hin]
           have HR1:Hid (wr.rowIs wo.heap.size 3 S (cutV (j+1) (sndF d n L F i))):=HJ.out.1.congr fun q _=>by
            unfold cutV cutI
            by_cases e:q=j
            . rw [e,if_neg (by omega),if_pos (by omega),HX.out]
            . by_cases e2:q < j
              . rw [if_pos e2,if_pos (by omega)]
              . rw [if_neg e2,if_neg (by omega)]
           by_cases hi1:i < n
           . have hj1:¬ j < L i:=fun h=>hin ⟨hi1,h⟩
             obtain ⟨b,off,ha,hc⟩:=HA.out.open (Nat.lt_of_le_of_lt (Nat.zero_le _) hi1);have hcl:wr.cell? ⟨b,off+i,none⟩=some (.slice (A i) (L i) (C i)):=(HJ.out.2.2.2.cell (p:=⟨b,off+i,none⟩) (show b < w.heap.size from HLOW.out.1 _ ha (by omega))).trans (hc i hi1);have hLi:=HL.out i hi1;have hd1:decide (j < L i)=false:=decide_eq_false hj1;have hd2:decide ((j:Int) < (L i:Int))=false:=decide_eq_false (by omega);clear hc hin;subst ha;go_wp2_with fail
             go_roundw
             case rel=>exact ⟨j+1,by omega,by go_num,HR1.out,HJ.out.2.1,HJ.out.2.2.1,HJ.out.2.2.2⟩
             case measure=>simp [intOf];omega
           . have hd1:decide (i < n)=false:=decide_eq_false hi1
             have hd2:decide ((i:Int) < (n:Int))=false:=decide_eq_false (by omega);clear hin;go_wp2_with fail
             go_roundw
             case rel=>exact ⟨j+1,by omega,by go_num,HR1.out,HJ.out.2.1,HJ.out.2.2.1,HJ.out.2.2.2⟩
             case measure=>simp [intOf];omega
       . have e:j=S:=by omega
         subst e;have hA2:=HJ.out.2.1;obtain ⟨g',c',u3,hr,ho,hgr⟩:=z1A 24 30 (.slice none 0 0) 24 Tryz.underlying24 z1E rfl wr _ (.slice al i cl) i _ #[.slice (some ⟨wo.heap.size,0,none⟩) j j] hA2.own (by simp) (by intro u hu;simp at hu;rw [hu];rfl) (by simp only [maxLen];simp;omega) (by simp;omega) (by have:=HJ.out.2.2.1.lt;omega) 24;have HA3:=zZ (hA2.more HJ.out.1 (by have:=HR.out.2.2.1.lt;omega) (fun k hk e=>by have:=(HR.out.1.rows k hk).lt;omega) ho hgr);have HC3:Hid (Bx u3 w.heap.size 23 #[O I ch,O I d,O I c2,O I c3,O I c4,O I c5,O I c6,O I c7]):=HJ.out.2.2.1.of (hgr.block _ HJ.out.2.2.1.lt (fun e=>by have:=(hA2.own.lt _ e.symm).1;omega));have HB3:Hid (Below w.heap.size w u3):=HJ.out.2.2.2.grown hgr HJ.out.2.2.2.size (fun q hq=>by have:=(hA2.own.lt q hq).1;omega);have HG3:Hid (∀ k,k < i+1->∀ q,q < j->upd2 G i (sndF d n L F i) k q=sndF d n L F k q):=fun k hk q hq=>by
          unfold upd2
          by_cases e:k=i
          . rw [if_pos e,e]
          . rw [if_neg e];exact HR.out.2.1 k (by omega) q hq
         have HAP:Hid (_=_):=hr;clear hA2 hr ho hgr
         go_wp2_with (at_builtin;refine z0k rfl _ _ _ rfl _ _ _ rfl rfl HAP.out ?_;clear HAP)
         go_roundw
         case rel=>exact ⟨i+1,_,updN gs i wo.heap.size,upd2 G i (sndF d n L F i),by omega,by go_num,rfl,HA3.out,HG3.out,HC3.out,HB3.out⟩
         case measure=>simp [intOf];omega
    . have e:i=ch:=by omega
      subst e;go_wp2_with fail;go_ret;exact ⟨_,gs,G,rfl,HR.out.1.mono (by omega),HR.out.2.1,HR.out.2.2.2⟩
end Go.Proofs.YtlncjgnomhpjnabGreatDoor
