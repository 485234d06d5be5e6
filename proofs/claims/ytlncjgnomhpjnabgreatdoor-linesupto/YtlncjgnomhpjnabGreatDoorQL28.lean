import Derived.Test.YtlncjgnomhpjnabGreatDoorQL27
import Derived.Test.YtlncjgnomhpjnabGreatDoorQL25
import Derived.Lib.AppendStr
set_option maxRecDepth 100000
namespace Go.Proofs.YtlncjgnomhpjnabGreatDoor
open Go.Value renaming int → O
open Go.IntKind renaming i64 → I
open Go.Proofs.Tryz
open Go.RowKit Go.Deep
set_option linter.unusedVariables false
theorem y1I:∃ i,prog.info? 3=some i/\i.zero=some (O I 0)/\i.size=1/\i.bytes=8:=by
 have h:=z1g;cases hq:prog.info? 3 with
 | none=>rw [hq] at h;cases h
 | some i =>
  rw [hq] at h;simp only [Option.map_some,Option.some.injEq,Prod.mk.injEq] at h;exact ⟨i,rfl,h.1,h.2.1,h.2.2⟩
theorem z6p (wr:World) (base:Nat) (v:Value) (q:Nat) (xs:List Value) (y:Int) (ty:TypeId) (h:wr.ownsRow base 3 1 v q xs) (hb:base<=wr.heap.size) (hq:q<=1000) :
 ∃ g cap w',(Builtin.append_ #[30,30] ty #[v,.slice (some ⟨wr.heap.size,0,none⟩) 1 1]).run prog (wr.alloc (.cells #[O I y] 3))=.ok (.slice (some ⟨g,0,none⟩) (q+1) cap) w' /\
  w'.ownsRow base 3 1 (.slice (some ⟨g,0,none⟩) (q+1) cap) (q+1) (xs ++ [O I y])/\Edit (fun b=>v.ownBlock=some b) wr w'/\(v.ownBlock=some g∨wr.heap.size<=g):=by
 obtain ⟨i0,hi0,hz0,hz1,hz2⟩:=y1I;have ha:(wr.alloc (.cells #[O I y] 3)).heap.size=wr.heap.size+1:=by simp
 have e0:Edit (fun b=>v.ownBlock=some b) wr (wr.alloc (.cells #[O I y] 3)):=(Edit.refl _ wr).alloc _;obtain ⟨g,cap,u,hr,ho,hg,hat,hlt⟩:=run_append_lies (P:=prog) (wr.alloc (.cells #[O I y] 3)) 30 ty base 3 i0 (O I 0) 1 8 underlying30 hi0 hz0 hz1 hz2 rfl zU v q xs (z0m h ((Edit.refl (fun _=>False) wr).alloc _) fun _ _=>id)
  ⟨wr.heap.size,0,none⟩ 1 1 [O I y] rfl (fun j x hj=>by
   have:(wr.alloc (.cells #[O I y] 3)).cell? ⟨wr.heap.size,j,none⟩=(#[O I y]:Array Value)[j]?:=World.cell?_alloc_new _ _ _ _;rw [Addr.add_lit,Nat.zero_add,this]
   simpa using hj) (fun x hx=>by simp at hx;rw [hx];rfl) zU (by simp only [maxLen];omega) zU zU (wr.heap.size+1) ha
 refine ⟨g,cap,u,hr,ho,e0.trans ⟨hg.os,hg.tape,hg.output,hg.size,fun b hb hS=>hg.block b hb fun hh=>hS hh.symm⟩,?_⟩;rcases hat with h1 | h1
 . exact Or.inl h1
 . exact Or.inr zU
theorem z0t {w:World} {base:Nat} {e:TypeId} {size:Nat} {v:Value} {n:Nat} {xs:List Value} (h:w.ownsRow base e size v n xs):∀ g,v.ownBlock=some g->base<=g:=by
 intro g hg;rcases h.2 with ⟨rfl,rfl⟩ | ⟨g',cap,cur,rfl,h1,h2,h3⟩
 . cases hg
 . cases hg
   exact h1
set_option maxHeartbeats 2000000 in
theorem y0z (T:Nat->ByteArray) (l:List Nat) (base:Nat) (sv:Value) (w:World) (hsv:w.ownsRow base 149 2 sv l.length (shC T l)) (hl:l.length<=500) :
 Calls prog 111 #[sv] w fun e w'=>∃ v,e=.returned v/\w'.ownsRow w.heap.size 3 1 v l.length (l.map fun (k:Nat)=>O I (k:Int))/\Below w.heap.size w w':=by
 obtain ⟨A,cap,rfl,hA⟩:=z0j hsv;have HA:=zZ hA;have HGET:=zZ (y0w T l);clear hsv hA
 go_enter func111,ntmps111
 go_wp2
 go_loopw [3,8] (fun s3 s8 wr=>∃ q:Nat,q<=l.length/\s8=O I q/\Hid (wr.ownsRow w.heap.size 3 1 s3 q ((l.take q).map fun (k:Nat)=>O I (k:Int))/\Below w.heap.size w wr)) (fun _ s8 _=>l.length - (intOf s8).toNat)
 case atStart=>exact ⟨0,zJ _,rfl,⟨rfl,Or.inl ⟨rfl,rfl⟩⟩,Below.refl _ _⟩
 case round =>
  obtain ⟨q,hq,rfl,HI⟩:=hrel
  by_cases hlt:q < l.length
  . obtain ⟨g,rfl,hg,hcell⟩:=HA.out zU
    have c0:wr.cell? ⟨g,q * 2,none⟩=some (O I (l[q]:Nat)):=(z2f (HI.out.2.block g hg)).trans (hcell _ _ (HGET.out q hlt).1);have c1:wr.cell? ⟨g,q * 2+1,none⟩=some (.string (T l[q])):=(z2f (HI.out.2.block g hg)).trans (hcell _ _ (HGET.out q hlt).2);have hsz:=HI.out.2.size;have HTK:Hid (l.take (q+1)=l.take q ++ [l[q]]):=by show _=_;rw [List.take_add_one,List.getElem?_eq_getElem hlt];rfl
    generalize l[q]=y at *;have HB1:Hid (Bx (wr.alloc (.cells #[O I 0,.string ⟨#[]⟩] 149)) wr.heap.size 149 #[O I 0,.string ⟨#[]⟩]):=Bx.new wr _ _;have HB2:Hid (Edit (fun _=>False) wr ((wr.alloc (.cells #[O I 0,.string ⟨#[]⟩] 149)).setRow wr.heap.size #[O I y,.string (T y)])):=((Edit.refl _ wr).alloc _).row zY _;have hys:((wr.alloc (.cells #[O I 0,.string ⟨#[]⟩] 149)).setRow wr.heap.size #[O I y,.string (T y)]).heap.size=wr.heap.size+1:=by simp
    have hy0:((wr.alloc (.cells #[O I 0,.string ⟨#[]⟩] 149)).setRow wr.heap.size #[O I y,.string (T y)]).cell? ⟨wr.heap.size,0,none⟩=some (O I (y:Nat)):=(HB1.out.row _).cell 0;obtain ⟨g',cap',w',hr,ho,he,-⟩:=z6p _ w.heap.size _ q _ (y:Nat) 30 (z0m HI.out.1 HB2.out fun _ _=>id) (zO hsz HB2.out.size) zU;rw [hys] at hr;have HR:=zZ hr;have HO:Hid (w'.ownsRow w.heap.size 3 1 (.slice (some ⟨g',0,none⟩) (q+1) cap') (q+1) ((l.take (q+1)).map fun (k:Nat)=>O I (k:Int))/\Below w.heap.size w w'):=by
     refine ⟨by rw [HTK.out,List.map_append];exact ho,HI.out.2.trans ?_⟩;exact ((HB2.out.mono fun _ h=>h.elim).trans he).below hsz (fun b hb=>z0t HI.out.1 b hb)
    clear hr ho he hcell hys HTK
    go_wp2_with (first
     | (refine z0a rfl _ _ 149 rfl wr.heap.size 149 _ _ rfl rfl HB1.out z3m rfl rfl ?_)
     | (at_builtin;refine Lib.wpList_append_run _ rfl _ _ _ _ rfl _ _ rfl rfl _ _ HR.out ?_))
    go_roundw
    case rel=>exact ⟨q+1,zU,zS,HO⟩
    case measure=>simp [intOf];omega
  . have e:q=l.length:=zU
    subst e;go_wp2;go_ret;have h1:=HI.out;rw [List.take_length] at h1;exact ⟨_,rfl,h1⟩
theorem Bx.drewN {w:World} {b:Nat} {t:TypeId} {cs:Array Value} (h:Bx w b t cs) (n:Nat):Bx (w.drewN n) b t cs:=h
set_option maxHeartbeats 2000000 in
theorem y4P {p:Lpar} {a:Lad} {x:Lsn} {s:Lst} {sv fv:Value} {w:World} (hl:Bx w a.lb 160 (lnC p a x s sv fv)) (hwr:s.writes<=1000) :
 Calls prog 399 #[.pointer (some ⟨a.lb,18,none⟩)] w fun e w'=>e=.returned (.bool (!(s.tries p).failed))/\Bx w' a.lb 160 (lnC p a x (s.tries p) sv fv)/\Edit (·=a.lb) w w':=by
 have c19:=hl.cell 19;have f19:=hl.free 19;simp [lnC] at c19;obtain ⟨m,hm⟩:∃ m,m=s.writes+1:=⟨_,rfl⟩;have wr1:I.wrap ((s.writes:Int)+1)=(m:Int):=by rw [zK];omega
 have h1:Bx (w.setCell ⟨a.lb,19,none⟩ (O I (m:Int))) a.lb 160 (lnC p a x { s with writes:=m } sv fv):=hl.set 19 _;have e1:=Edit.one w a.lb 19 (O I (m:Int));generalize hu:w.setCell ⟨a.lb,19,none⟩ (O I (m:Int))=u at *;have d19:=h1.cell 19;have d18:=h1.cell 18;have d20:=h1.cell 20;have g20:=h1.free 20;simp [lnC] at d18 d19 d20
 by_cases hx:(m:Int)=p.fail
 . have ht:s.tries p={ s with writes:=m,failed:=true }:=by simp only [Lst.tries,← hm,zL hx,Bool.or_true]
   rw [ht];have HD:Hid (∀ q,Bx ((u.drewN q).setCell ⟨a.lb,20,none⟩ (.bool true)) a.lb 160 (lnC p a x { s with writes:=m,failed:=true } sv fv)/\Edit (·=a.lb) w ((u.drewN q).setCell ⟨a.lb,20,none⟩ (.bool true))):=fun q=>⟨(h1.drewN q).set 20 _,(e1.drewN q).cell (Or.inl rfl) 20 _⟩
   have hb1:((m:Int) == p.fail)=true:=by rw [hx];simp
   clear hl h1 e1 ht hx hm
   go_enter func399,ntmps399
   go_wp2_with fail
   go_quiet (fail)
   go_wp2;go_ret;exact ⟨rfl,HD.out _⟩
 . have ht:s.tries p={ s with writes:=m }:=by simp only [Lst.tries,← hm,zM hx,Bool.or_false]
   rw [ht];have HD:Hid (∀ q,Bx (u.drewN q) a.lb 160 (lnC p a x { s with writes:=m } sv fv)/\Edit (·=a.lb) w (u.drewN q)):=fun q=>⟨h1.drewN q,e1.drewN q⟩
   have hb1:((m:Int) == p.fail)=false:=by simpa using hx
   clear hl h1 e1 ht hx hm
   go_enter func399,ntmps399
   go_wp2_with fail
   go_quiet (fail)
   go_wp2;go_ret;exact ⟨rfl,HD.out _⟩
def Lst.setHd (p:Lpar) (s:Lst) (q:Nat):Lst:=if (s.tries p).failed then s.tries p else { s.tries p with hd:=q }
theorem y0A {p:Lpar} {a:Lad} {x:Lsn} {s:Lst} {sv fv:Value} {w:World} (hl:Bx w a.lb 160 (lnC p a x s sv fv)) (hwr:s.writes<=1000) (q:Nat) :
 Calls prog 397 #[.pointer (some ⟨a.lb,18,none⟩),.string (bs (hdT x q))] w fun e w'=>e=.returned (.bool (!(s.tries p).failed))/\Bx w' a.lb 160 (lnC p a x (s.setHd p q) sv fv)/\Edit (·=a.lb) w w':=by
 have HT:=zZ (y4P hl hwr);clear hl;unfold Lst.setHd;generalize hS:s.tries p=s1 at *;clear hS;cases hf:s1.failed with
 | true =>
  rw [hf] at HT;rw [if_pos rfl]
  go_enter func397,ntmps397
  go_wp2_with (go_at_call 399;refine HT.out.mono ?_;rintro e u ⟨rfl,hb,he⟩;have HB:=zZ (And.intro hb he);clear hb he HT)
  go_ret;exact ⟨rfl,HB.out⟩
 | false =>
  rw [hf] at HT;rw [if_neg (by simp)];have HD:Hid (∀ u,Bx u a.lb 160 (lnC p a x s1 sv fv)->Edit (·=a.lb) w u->Bx (u.setCell ⟨a.lb,21,none⟩ (.string (bs (hdT x q)))) a.lb 160 (lnC p a x { s1 with hd:=q } sv fv)/\Edit (·=a.lb) w (u.setCell ⟨a.lb,21,none⟩ (.string (bs (hdT x q))))):=fun u hb he=>⟨hb.set 21 _,he.cell (Or.inl rfl) 21 _⟩
  generalize bs (hdT x q)=tx at *
  go_enter func397,ntmps397
  go_wp2_with (go_at_call 399;refine HT.out.mono ?_;rintro e u ⟨rfl,hb,he⟩;have HB:=zZ (HD.out u hb he);have c21:=hb.cell 21;have f21:=hb.free 21;simp [lnC] at c21;clear hb he HT)
  go_ret;exact ⟨rfl,HB.out⟩
theorem bytV (T:List UInt8):Lib.strCells (bs T)=T.map fun b=>.int .u8 (b.toNat:Int):=by
 simp [Lib.strCells,bs]
theorem y8d:∃ i,prog.info? 5=some i/\i.zero=some (.int .u8 0)/\i.size=1/\i.bytes=1:=by
 have h:=z1s;cases hq:prog.info? 5 with
 | none=>rw [hq] at h;cases h
 | some i =>
  rw [hq] at h;simp only [Option.map_some,Option.some.injEq,Prod.mk.injEq] at h;exact ⟨i,rfl,h.1,h.2.1,h.2.2⟩
theorem y9c (w:World) (base:Nat) (v:Value) (n:Nat) (xs:List Value) (s:ByteArray) (ty:TypeId) (h:w.ownsRow base 5 1 v n xs) (hb:base<=w.heap.size) (hn:n+s.size<=1000000) (hs:0 < s.size) :
 ∃ g cap w',(Builtin.append_ #[33,9] ty #[v,.string s]).run prog w=.ok (.slice (some ⟨g,0,none⟩) (n+s.size) cap) w' /\
  w'.ownsRow base 5 1 (.slice (some ⟨g,0,none⟩) (n+s.size) cap) (n+s.size) (xs ++ Lib.strCells s)/\Edit (fun b=>v.ownBlock=some b) w w'/\(v.ownBlock=some g∨w.heap.size<=g):=by
 obtain ⟨i0,hi0,hz0,hz1,hz2⟩:=y8d;obtain ⟨v',w',hr,h2,h3,-⟩:=Lib.run_append_own_string (P:=prog) w base 33 9 ty 5 i0 underlying33 underlying9 hi0 hz0 hz1 hz2 v n xs h s (by simp only [maxLen];omega) zU hb;have e3:Edit (fun b=>v.ownBlock=some b) w w':=⟨h3.os,h3.tape,h3.output,h3.size,fun b hb hS=>h3.block b hb fun hh=>hS hh.symm⟩;obtain ⟨g,cap,rfl,-,-⟩:=h2.form zU;refine ⟨g,cap,w',hr,h2,e3,?_⟩;rcases h.2 with ⟨rfl,rfl⟩ | ⟨g',cap',cur,rfl,hbg,hg,hnc,hcm,hcs,htake⟩
 . have hr2:=run_append_nil_string (P:=prog) w 33 9 ty 5 i0 (.int .u8 0) underlying33 underlying9 hi0 hz0 s hs zU (by rw [hz2];omega)
   rw [hr2] at hr
   injection hr with h5 h6
   injection h5 with h7 h8 h9
   injection h7 with h10
   injection h10 with h11
   exact Or.inr (Nat.le_of_eq h11)
 . by_cases hroom:n+s.size<=cap'
   . have hr2:=Lib.run_append_room_string (P:=prog) w 33 9 ty 5 i0 underlying33 underlying9 hi0 hz1 g' n cap' cur hg s hroom zU
     rw [hr2] at hr
     injection hr with h5 h6
     injection h5 with h7 h8 h9
     injection h7 with h10
     injection h10 with h11
     exact Or.inl (by rw [h11];rfl)
   . have hr2:=Lib.run_append_grow_string (P:=prog) w 33 9 ty 5 i0 (.int .u8 0) underlying33 underlying9 hi0 hz0 ⟨g',0,none⟩ n cap' xs (by rw [hz1];exact h.1) (h.cells (g:=g') rfl) s zU zU (by rw [hz2];exact growslice_fits zU zU)
     rw [hr2] at hr
     injection hr with h5 h6
     injection h5 with h7 h8 h9
     injection h7 with h10
     injection h10 with h11
     exact Or.inr (Nat.le_of_eq h11)
structure y2S (p:Lpar) (a:Lad) (x:Lsn) (s:Lst) (sv fv fv':Value) (n:Nat) (xs:List Value) (T:List UInt8) (w w':World):Prop where
 bx:Bx w' a.lb 160 (lnC p a x (s.tries p) sv fv')
 edit:Edit (fun b=>b=a.lb∨fv.ownBlock=some b) w w'
 bad:(s.tries p).failed=true->fv'=fv/\Edit (·=a.lb) w w'
 good:(s.tries p).failed=false->w'.ownsRow a.b1 5 1 fv' (n+T.length) (xs ++ T.map fun b=>.int .u8 (b.toNat:Int))/\∀ g,fv'.ownBlock=some g->fv.ownBlock=some g∨w.heap.size<=g
set_option maxHeartbeats 2000000 in
theorem z9q {p:Lpar} {a:Lad} {x:Lsn} {s:Lst} {sv fv:Value} {w:World} (hl:Bx w a.lb 160 (lnC p a x s sv fv)) (hwr:s.writes<=1000) {n:Nat} {xs:List Value} (hfv:w.ownsRow a.b1 5 1 fv n xs) (hb1:a.b1<=w.heap.size) (hne:fv.ownBlock ≠ some a.lb) (T:List UInt8) (hT:n+T.length<=1000000) (hT0:0 < T.length) :
 Calls prog 393 #[.pointer (some ⟨a.lb,18,none⟩),.string (bs T)] w fun e w'=>e=.returned (.bool (!(s.tries p).failed))/\∃ fv',y2S p a x s sv fv fv' n xs T w w':=by
 have HT:=zZ (y4P hl hwr);cases hf:(s.tries p).failed with
 | true =>
  rw [hf] at HT;clear hl hfv
  go_enter func393,ntmps393
  go_wp2_with (go_at_call 399;refine HT.out.mono ?_;rintro e u ⟨rfl,hb,he⟩;have HB:=zZ (And.intro hb he);clear hb he HT)
  go_ret;exact ⟨rfl,fv,HB.out.1,HB.out.2.mono fun _ h=>Or.inl h,fun _=>⟨rfl,HB.out.2⟩,fun h=>(by rw [hf] at h;cases h)⟩
 | false =>
  rw [hf] at HT;have hsz:(bs T).size=T.length:=by simp [bs,ByteArray.size]
  have HA:Hid (∀ u,Bx u a.lb 160 (lnC p a x (s.tries p) sv fv)->Edit (·=a.lb) w u->∃ g cap w',(Builtin.append_ #[33,9] 33 #[fv,.string (bs T)]).run prog u=.ok (.slice (some ⟨g,0,none⟩) (n+T.length) cap) w' /\
      w'.cell? ⟨a.lb,22,none⟩=some fv/\w'.frozen? ⟨a.lb,22,none⟩=false/\y2S p a x s sv fv (.slice (some ⟨g,0,none⟩) (n+T.length) cap) n xs T w (w'.setCell ⟨a.lb,22,none⟩ (.slice (some ⟨g,0,none⟩) (n+T.length) cap))):=fun u hb he=>by
   obtain ⟨g,cap,w',hr,ho,h2,h3⟩:=y9c u a.b1 fv n xs (bs T) 33 (z0m hfv he fun g hg hh=>hne (by rw [hg,hh])) (zO hb1 he.size) (by rw [hsz];exact hT) (by rw [hsz];exact hT0);rw [hsz] at hr ho;rw [bytV] at ho;have hbu:=hb.edit h2 hne;have hgl:g ≠ a.lb:=by
    rcases h3 with h3 | h3
    . exact fun hh=>hne (by rw [h3,hh])
    . have:=hb.lt
      omega
   refine ⟨g,cap,w',hr,(hbu.cell 22).trans rfl,hbu.free 22,hbu.set 22 _,((he.mono fun _ h=>Or.inl h).trans (h2.mono fun _ h=>Or.inr h)).cell (Or.inl (Or.inl rfl)) 22 _,fun h=>(by rw [hf] at h;cases h),fun _=>⟨z0m ho (Edit.one w' a.lb 22 _) fun q hq hh=>?_,fun q hq=>?_⟩⟩
   . cases hq
     exact hgl hh
   . cases hq
     rcases h3 with h3 | h3
     . exact Or.inl h3
     . exact Or.inr (zO he.size h3)
  clear hl hfv hsz;generalize bs T=tx at *
  go_enter func393,ntmps393
  go_wp2_with (first
   | (go_at_call 399;refine HT.out.mono ?_;rintro e u ⟨rfl,hb,he⟩;obtain ⟨g,cap,w',hr,c1,c2,c3⟩:=HA.out u hb he;have HR:=zZ hr;have HC:=zZ c3;have c22:=hb.cell 22;simp [lnC] at c22;clear hb he HT HA hr c3)
   | (at_builtin;refine Lib.wpList_append_run _ rfl _ _ _ _ rfl _ _ rfl rfl _ _ HR.out ?_))
  go_ret;exact ⟨rfl,_,HC.out⟩
def z8n (s s':Lst):Prop:=s'.given=s.given/\s'.summed=s.summed/\s'.jobs=s.jobs/\s'.lane=s.lane/\s'.ready=s.ready/\s'.held=s.held/\s'.e0=s.e0/\s'.e1=s.e1/\s'.ew=s.ew
def z5m (a:Lad) (w:World) (k:Nat):Prop:=k=a.lb∨k=a.wr∨(a.b1<=k/\(kn w k=149+1∨kn w k=5+1∨kn w k=3+1))
theorem LineIs.upd {p:Lpar} {a:Lad} {x:Lsn} {F F':Nat->Prop} {s s':Lst} {w w':World} {S:Nat->Prop} (h:LineIs p a x F s w) (he:Edit S w w') (hS:∀ k,S k->z5m a w k) (hF:∀ k,F k->F' k) (hlt:∀ k,F' k->k < w'.heap.size)
 (hc:z8i p a x F' s' w') (hs:z8n s s'):LineIs p a x F' s' w':=by
 have hkd:=h.kinds;have kd1:=hkd.lb;have kd2:=hkd.sp;have kd3:=hkd.su;have kd4:=hkd.wr;have kd5:=hkd.qj;have kd6:=hkd.ql;have kd7:=hkd.qr;have kd8:=hkd.cj;have kd9:=hkd.cl;have kd10:=hkd.cr;obtain ⟨s1,s2,s3,s4,s5,s6,s7,s8,s9⟩:=hs;have hsh:s'.shut p=s.shut p:=by unfold Lst.shut;rw [s9]
 have nS:∀ k,¬ z5m a w k->¬ S k:=fun k hk hs=>hk (hS k hs)
 have hw:z9n p a x F' s' w':=by
  obtain ⟨hv,k1,k2⟩:=h.workOk he hF (fun k hk=>nS k (by unfold z5m;grind));refine ⟨hv,fun j hj=>?_,fun j k hj hk=>k2 j k hj (s6 ▸ hk)⟩;have e:heV hv s' j=heV hv s j:=by simp only [heV,s6]
  rw [e,s9];exact k1 j hj
 refine h.edit he hF hlt (fun k hk=>?_) hc ?_ ?_ hw ?_ ?_ ?_ s1
 . have:=hS k hk
   unfold z5m at this;unfold Firm
   grind
 . rw [s7,s1]
   exact h.spl.edit he (nS _ (by unfold z5m;grind))
 . rw [s8,s2]
   exact h.sum.edit he (nS _ (by unfold z5m;grind))
 . rw [s3,s7]
   exact h.jobs.edit he (nS _ (by unfold z5m;grind)) (nS _ (by unfold z5m;grind))
 . rw [s4,s7]
   exact h.lane.edit he (nS _ (by unfold z5m;grind)) (nS _ (by unfold z5m;grind))
 . rw [s5,hsh]
   exact h.ready.edit he (nS _ (by unfold z5m;grind)) (nS _ (by unfold z5m;grind))
theorem LineIs.ownCells {p:Lpar} {a:Lad} {x:Lsn} {F:Nat->Prop} {s s':Lst} {w w':World} (h:LineIs p a x F s w) (he:Edit (·=a.lb) w w') (hb:∀ sv fv,Bx w a.lb 160 (lnC p a x s sv fv)->∃ sv',Bx w' a.lb 160 (lnC p a x s' sv' fv)/\((sv'=sv/\s'.shelf=s.shelf)∨(sv'=.slice none 0 0/\s'.shelf=[])))
 (hs:z8n s s') (h2:s'.e2=s.e2/\s'.begun=s.begun/\s'.wrote=s.wrote):LineIs p a x F s' w'/\Edit F w w':=by
 have hkd:=h.kinds;have kd1:=hkd.lb;have kd4:=hkd.wr;obtain ⟨sv,fv,lv,c1,c2,c3,c4,c5,c6,c7,c8⟩:=h.cells;obtain ⟨sv1,b1,b2⟩:=hb sv fv c1;have hn:∀ g,kn w g ≠ 160+1->¬ g=a.lb:=fun g hg hh=>hg (hh ▸ kd1)
 refine ⟨h.upd he (fun k hk=>Or.inl hk) (fun _ hh=>hh) (fun k hk=>zP (h.lt k hk) he.size) ⟨sv1,fv,lv,b1,?_,?_,?_,?_,c6,?_,c8⟩ hs,he.mono fun k hk=>hk ▸ h.own.1⟩
 . rw [h2.1,h2.2.1]
   exact c2.edit he (by grind)
 . rcases b2 with ⟨rfl,e⟩ | ⟨rfl,e⟩
   . rw [e]
     exact z0m c3 he fun g hg=>hn g (by rw [(z0l c3 g hg).1];decide)
   . rw [e]
     exact ⟨rfl,Or.inl ⟨rfl,rfl⟩⟩
 . rcases b2 with ⟨rfl,e⟩ | ⟨rfl,e⟩
   . exact c4
   . intro g hg
     cases hg
 . rw [h2.2.2]
   exact z0m c5 he fun g hg=>hn g (by rw [(z0l c5 g hg).1];decide)
 . rw [h2.2.2]
   exact z0m c7 he fun g hg=>hn g (by rw [(z0l c7 g hg).1];decide)
theorem z8o {p:Lpar} {a:Lad} {x:Lsn} {F:Nat->Prop} {s:Lst} {w:World} (h:LineIs p a x F s w) :
 Calls prog 115 #[ptrV a.lb] w fun e w'=>e=.returned (.tuple #[])/\LineIs p a x F s.halt w'/\Edit F w w':=by
 obtain ⟨sv,fv,lv,hl,-⟩:=h.cells;have c23:=hl.cell 23;have f23:=hl.free 23;have h1:=hl.set 23 (.bool true);have c17:=h1.cell 17;have f17:=h1.free 17;simp [lnC] at c23 c17;have HCL:=zZ (y4O a.lb 17 sv (w.setCell ⟨a.lb,23,none⟩ (.bool true)) c17 f17);have HD:Hid (LineIs p a x F s.halt ((w.setCell ⟨a.lb,23,none⟩ (.bool true)).setCell ⟨a.lb,17,none⟩ (.slice none 0 0))/\Edit F w ((w.setCell ⟨a.lb,23,none⟩ (.bool true)).setCell ⟨a.lb,17,none⟩ (.slice none 0 0))) :=
  h.ownCells ((Edit.one w a.lb 23 (.bool true)).trans (Edit.one _ a.lb 17 _)) (fun sv fv hb=>⟨.slice none 0 0,(hb.set 23 (.bool true)).set 17 (.slice none 0 0),Or.inr ⟨rfl,rfl⟩⟩) ⟨rfl,rfl,rfl,rfl,rfl,rfl,rfl,rfl,rfl⟩ ⟨rfl,rfl,rfl⟩
 clear h hl h1 c17 f17;unfold ptrV at *
 go_enter func115,ntmps115
 go_wp2_with (go_at_call 176;refine HCL.out.mono ?_;rintro e u ⟨rfl,hu⟩;subst u)
 go_end0;exact ⟨rfl,HD.out⟩
section
variable {p:Lpar} {a:Lad} {x:Lsn} {F:Nat->Prop} {s:Lst} {w:World}
theorem LineIs.setHd (h:LineIs p a x F s w) (hwr:s.writes<=1000) (q:Nat) :
 Calls prog 397 #[.pointer (some ⟨a.lb,18,none⟩),.string (bs (hdT x q))] w fun e w'=>e=.returned (.bool (!(s.tries p).failed))/\LineIs p a x F (s.setHd p q) w'/\Edit F w w':=by
 obtain ⟨sv,fv,lv,hl,-⟩:=h.cells;refine (y0A hl hwr q).mono ?_;rintro e w' ⟨rfl,hb,he⟩;have hs:z8n s (s.setHd p q)/\(s.setHd p q).shelf=s.shelf/\(s.setHd p q).e2=s.e2/\(s.setHd p q).begun=s.begun/\(s.setHd p q).wrote=s.wrote:=by
  unfold Lst.setHd;split
  . exact ⟨⟨rfl,rfl,rfl,rfl,rfl,rfl,rfl,rfl,rfl⟩,rfl,rfl,rfl,rfl⟩
  . exact ⟨⟨rfl,rfl,rfl,rfl,rfl,rfl,rfl,rfl,rfl⟩,rfl,rfl,rfl,rfl⟩
 refine ⟨rfl,h.ownCells he (fun sv1 fv1 hb1=>?_) hs.1 hs.2.2⟩;have e1:lnC p a x s sv1 fv1=lnC p a x s sv fv:=by
  have h1:w.heap[a.lb]?=_:=hb1;have h2:w.heap[a.lb]?=_:=hl;rw [h2] at h1
  injection h1 with h1
  injection h1 with h1
  exact h1.symm
 have e2:sv1=sv:=by
  have:=congrArg (fun c=>c[17]?) e1
  simpa [lnC] using this
 have e3:fv1=fv:=by
  have:=congrArg (fun c=>c[22]?) e1
  simpa [lnC] using this
 subst e2 e3;exact ⟨sv1,hb,Or.inl ⟨rfl,hs.2.1⟩⟩
theorem y4Q {p:Lpar} {s:Lst} {q:Nat} (hs:s.stopped=false) (hf:(s.tries p).failed=true):s.head p q=(s.setHd p q).halt:=by
 unfold Lst.head Lst.setHd;rw [hs,if_pos hf,if_pos hf]
 rfl
theorem y8e {p:Lpar} {s:Lst} {q:Nat} (hs:s.stopped=false) (hf:(s.tries p).failed=false):s.head p q=s.setHd p q:=by
 unfold Lst.head Lst.setHd;rw [hs,hf]
 rfl
set_option linter.unusedSimpArgs false in
set_option maxHeartbeats 4000000 in
theorem z4v (h:LineIs p a x F s w) (hwr:s.writes<=1000) (q:Nat) (c0 c1 c2 c3 c4 c5:Int) (f:Bool) (least most sum:Int) (pv:Value)
 (HLay:s.stopped=false->∀ u,Edit (fun _=>False) w u->Calls prog 129 #[.agg (hdC c0 c1 c2 c3 c4 c5 f least most sum pv)] u fun e w'=>e=.returned (.string (bs (hdT x q)))/\Below u.heap.size u w') :
 Calls prog 391 #[ptrV a.wr,.agg (hdC c0 c1 c2 c3 c4 c5 f least most sum pv)] w fun e w'=>e=.returned (.tuple #[])/\LineIs p a x F (s.head p q) w'/\Edit F w w':=by
 obtain ⟨sv,fv,lv,hl,hw,-⟩:=h.cells;have HE0:Hid (Edit (fun _=>False) w (w.alloc (.cells (hdC c0 c1 c2 c3 c4 c5 f least most sum pv) 110))):=(Edit.refl _ w).alloc _;have HX0:=zZ (Bx.new w (hdC c0 c1 c2 c3 c4 c5 f least most sum pv) 110);have HL:Hid (∀ u,Edit (fun _=>False) w u->LineIs p a x F s u):=fun u he=>h.keep (fun k hk=>he.block k (h.lt k hk) id) he.size
 have HC:Hid (∀ u,Edit (fun _=>False) w u->u.cell? ⟨a.wr,0,none⟩=some (.pointer (some ⟨a.lb,0,none⟩))/\u.cell? ⟨a.lb,23,none⟩=some (.bool s.stopped)):=fun u he=>⟨(hw.edit he id).cell 0,(hl.edit he id).cell 23⟩
 have HLA:=zZ HLay;have hwl:=h.lt _ h.own.2.2.2.1;have hll:=h.lt _ h.own.1;cases hs:s.stopped with
 | true =>
  have e1:s.head p q=s:=by unfold Lst.head;rw [hs];rfl
  rw [e1];have HFIN:Hid (∀ u,Edit (fun _=>False) w u->LineIs p a x F s u/\Edit F w u):=fun u he=>⟨HL.out u he,he.mono fun _ h=>h.elim⟩
  have hS0:=HC.out (w.alloc (.cells (hdC c0 c1 c2 c3 c4 c5 f least most sum pv) 110)).drew (HE0.out.drewN 1);rw [hs] at hS0;have HE1:Hid (Edit (fun _=>False) w (w.alloc (.cells (hdC c0 c1 c2 c3 c4 c5 f least most sum pv) 110)).drew):=HE0.out.drewN 1;clear h hl hw HLA HLay HC HL e1;unfold ptrV at *
  go_enter func391,ntmps391
  go_wp2_with fail;refine wp_region_held_drew (S:=fun w'=>w'.cell? ⟨a.wr,0,none⟩=some (.pointer (some ⟨a.lb,0,none⟩))/\w'.cell? ⟨a.lb,23,none⟩=some (.bool true)) zT hS0 (fun _=>?_);refine tq 0 ?_
  refine tq 1 ?_;refine tq 2 ?_;refine tq 3 ?_;refine tq 4 ?_;refine tq 5 ?_;refine tq 6 ?_;refine tq 7 ?_;refine tq 8 ?_;refine tq 9 ?_;refine ts 10 ?_;refine ts 11 ?_;refine ts 12 ?_;refine ts 13 ?_;refine ts 14 ?_;refine ts 15 ?_;refine ts 16 ?_;refine ts 17 ?_;refine ts 18 ?_;refine ts 19 ?_;refine ts 20 ?_;refine tq 21 ?_
  refine wpAnyH_done zT ?_ _;go_wp2;go_end0;exact ⟨rfl,HFIN.out _ HE1.out⟩
 | false =>
  have hfb:¬ F w.heap.size:=fun hh=>Nat.lt_irrefl _ (h.lt _ hh)
  have hst:(s.setHd p q).stopped=false:=by unfold Lst.setHd;split <;> exact hs
  obtain ⟨n,hn⟩:∃ n,n=w.heap.size:=⟨_,rfl⟩;rw [← hn] at HX0 hfb;obtain ⟨W0,hW0⟩:∃ W,W=w.alloc (.cells (hdC c0 c1 c2 c3 c4 c5 f least most sum pv) 110):=⟨_,rfl⟩;rw [← hW0] at HE0 HX0;have HK:Hid (∀ u,Edit (fun _=>False) W0 u->u.cell? ⟨a.wr,0,none⟩=some (.pointer (some ⟨a.lb,0,none⟩))/\u.cell? ⟨a.lb,23,none⟩=some (.bool false)/\u.cell? ⟨n,0,none⟩=some (O I c0)/\u.cell? ⟨n,1,none⟩=some (O I c1)/\u.cell? ⟨n,2,none⟩=some (O I c2)/\u.cell? ⟨n,3,none⟩=some (O I c3)/\u.cell? ⟨n,4,none⟩=some (O I c4)/\u.cell? ⟨n,5,none⟩=some (O I c5)/\u.cell? ⟨n,6,none⟩=some (.bool f)/\u.cell? ⟨n,7,none⟩=some (O I least)/\u.cell? ⟨n,8,none⟩=some (O I most)/\u.cell? ⟨n,9,none⟩=some (O I sum)/\u.cell? ⟨n,10,none⟩=some pv):=fun u he=>by
   have b:=HX0.out.edit he id;have c:=HC.out u (HE0.out.trans he);rw [hs] at c;exact ⟨c.1,c.2,b.cell 0,b.cell 1,b.cell 2,b.cell 3,b.cell 4,b.cell 5,b.cell 6,b.cell 7,b.cell 8,b.cell 9,b.cell 10⟩
  have HK2:Hid (∀ u1 u,Edit (fun _=>False) W0 u1->LineIs p a x F (s.setHd p q) u->Edit F u1 u->u.cell? ⟨a.wr,0,none⟩=some (.pointer (some ⟨a.lb,0,none⟩))/\u.cell? ⟨a.lb,23,none⟩=some (.bool false)/\u.cell? ⟨n,0,none⟩=some (O I c0)/\u.cell? ⟨n,1,none⟩=some (O I c1)/\u.cell? ⟨n,2,none⟩=some (O I c2)/\u.cell? ⟨n,3,none⟩=some (O I c3)/\u.cell? ⟨n,4,none⟩=some (O I c4)/\u.cell? ⟨n,5,none⟩=some (O I c5)/\u.cell? ⟨n,6,none⟩=some (.bool f)/\u.cell? ⟨n,7,none⟩=some (O I least)/\u.cell? ⟨n,8,none⟩=some (O I most)/\u.cell? ⟨n,9,none⟩=some (O I sum)/\u.cell? ⟨n,10,none⟩=some pv):=fun u1 u he hL h2=>by
   have b:=(HX0.out.edit he id).edit h2 hfb;obtain ⟨sv,fv,lv,hl,hw,-⟩:=hL.cells;have c23:=hl.cell 23;simp [lnC,hst] at c23;exact ⟨hw.cell 0,c23,b.cell 0,b.cell 1,b.cell 2,b.cell 3,b.cell 4,b.cell 5,b.cell 6,b.cell 7,b.cell 8,b.cell 9,b.cell 10⟩
  have hS0:=HK.out W0.drew ((Edit.refl _ W0).drewN 1);have HLY:=zZ (HLA.out hs W0.drew (HE0.out.drewN 1));have HSE:Hid (∀ u,Edit (fun _=>False) w u->Calls prog 397 #[.pointer (some ⟨a.lb,18,none⟩),.string (bs (hdT x q))] u fun e w'=>e=.returned (.bool (!(s.tries p).failed))/\LineIs p a x F (s.setHd p q) w'/\Edit F u w'):=fun u he=>(HL.out u he).setHd hwr q
  have HW0:=zZ hW0;have hh1:(s.tries p).failed=true->s.head p q=(s.setHd p q).halt:=fun hf=>y4Q hs hf
  have hh2:(s.tries p).failed=false->s.head p q=s.setHd p q:=fun hf=>y8e hs hf
  clear h hl hw HLA HLay HC HL hs hst hfb;generalize bs (hdT x q)=tx at *;generalize s.head p q=s2 at *;generalize s.setHd p q=s1 at *;generalize (s.tries p).failed=fl at *;unfold ptrV at *
  go_enter func391,ntmps391
  go_wp2_with fail;rw [← hW0,← hn];clear hn hW0 HW0 hwl hll HX0;refine wp_region_held_drew (S:=fun w'=>w'.cell? ⟨a.wr,0,none⟩=some (.pointer (some ⟨a.lb,0,none⟩))/\w'.cell? ⟨a.lb,23,none⟩=some (.bool false)/\w'.cell? ⟨n,0,none⟩=some (O I c0)/\w'.cell? ⟨n,1,none⟩=some (O I c1)/\w'.cell? ⟨n,2,none⟩=some (O I c2)/\w'.cell? ⟨n,3,none⟩=some (O I c3)/\w'.cell? ⟨n,4,none⟩=some (O I c4)/\w'.cell? ⟨n,5,none⟩=some (O I c5)/\w'.cell? ⟨n,6,none⟩=some (.bool f)/\w'.cell? ⟨n,7,none⟩=some (O I least)/\w'.cell? ⟨n,8,none⟩=some (O I most)/\w'.cell? ⟨n,9,none⟩=some (O I sum)/\w'.cell? ⟨n,10,none⟩=some pv) zT hS0 (fun _=>?_);refine tq 0 ?_
  refine tq 1 ?_;refine tq 2 ?_;refine tq 3 ?_;refine tq 4 ?_;refine tq 5 ?_;refine tq 6 ?_;refine tq 7 ?_;refine tq 8 ?_;refine tq 9 ?_;refine tq 10 ?_;refine tq 11 ?_;refine tq 12 ?_;refine tq 13 ?_;refine tq 14 ?_;refine tq 15 ?_;refine tq 16 ?_;refine tq 17 ?_
  refine zQ 18 (fun K hK=>?_)
  go_simp
  go_at_call 129
  refine HLY.out.mono ?_;rintro e u1 ⟨rfl,hb⟩;have HE1:Hid (Edit (fun _=>False) W0 u1):=Edit.of (⟨hb.os,hb.tape,hb.output,hb.size,hb.block⟩:Below W0.heap.size W0 u1);have hS1:=HK.out u1 HE1.out;have HS1:=zZ (HSE.out u1 (HE0.out.trans HE1.out));clear hb HLY HSE;go_wp2_with fail;refine zV hK hS1 (fun _=>?_);clear hK K
  refine zQ 19 (fun K hK=>?_)
  go_simp
  go_at_call 397
  refine HS1.out.mono ?_;rintro e u2 ⟨rfl,hL,he⟩;have hS2:=HK2.out u1 u2 HE1.out hL he;have HLI:=zZ hL;have HED:Hid (Edit F w u2):=((HE0.out.trans HE1.out).mono fun _ h=>h.elim).trans he;clear hL he HS1 hS1 hS0;go_wp2_with fail;refine zV hK hS2 (fun _=>?_);clear hK K
  refine tq 20 ?_;refine tq 21 ?_
  refine wpAnyH_done zT ?_ _;cases fl with
  | true =>
   have hh:=hh1 rfl;subst hh;have HST:=zZ (z8o HLI.out);have y0:=hS2.1;unfold ptrV at HST;clear hS2
   go_wp2_with (go_at_call 115;refine HST.out.mono ?_;rintro e u3 ⟨rfl,hL,he⟩;have HZ:=zZ (And.intro hL (HED.out.trans he));clear hL he HST)
   go_end0;exact ⟨rfl,HZ.out⟩
  | false =>
   have hh:=hh2 rfl;subst hh;clear hS2;go_wp2;go_end0;exact ⟨rfl,HLI.out,HED.out⟩
end
theorem z3L {S B seek:Nat} (hB:1<=B) (hS:S<=300):nPts S B seek<=300:=by
 unfold nPts;split
 . omega
 . have h1:=z1K (S:=S) hB
   have h2:=z1K (S:=nBlk S B) (B:=seek) zU;omega
theorem LineIs.wrCells {p:Lpar} {a:Lad} {x:Lsn} {F:Nat->Prop} {s:Lst} {w w':World} (h:LineIs p a x F s w) (he:Edit (·=a.wr) w w') (e2 begun:Bool) (hb:∀ lv,Bx w a.wr 169 #[ptrV a.lb,.bool s.e2,.bool s.begun,lv]->Bx w' a.wr 169 #[ptrV a.lb,.bool e2,.bool begun,lv]) :
 LineIs p a x F { s with e2:=e2,begun:=begun } w'/\Edit F w w':=by
 have hkd:=h.kinds;have kd1:=hkd.lb;have kd4:=hkd.wr;obtain ⟨sv,fv,lv,c1,c2,c3,c4,c5,c6,c7,c8⟩:=h.cells;have hn:∀ g,kn w g ≠ 169+1->¬ g=a.wr:=fun g hg hh=>hg (hh ▸ kd4)
 refine ⟨h.upd he (fun k hk=>Or.inr (Or.inl hk)) (fun _ hh=>hh) (fun k hk=>zP (h.lt k hk) he.size) ⟨sv,fv,lv,c1.edit he (hn _ (by rw [kd1];decide)),hb lv c2,?_,c4,?_,c6,?_,c8⟩ ⟨rfl,rfl,rfl,rfl,rfl,rfl,rfl,rfl,rfl⟩,he.mono fun k hk=>hk ▸ h.own.2.2.2.1⟩
 . exact z0m c3 he fun g hg=>hn g (by rw [(z0l c3 g hg).1];decide)
 . exact z0m c5 he fun g hg=>hn g (by rw [(z0l c5 g hg).1];decide)
 . exact z0m c7 he fun g hg=>hn g (by rw [(z0l c7 g hg).1];decide)
section
variable {p:Lpar} {a:Lad} {x:Lsn} {F:Nat->Prop} {s:Lst} {w:World}
set_option maxHeartbeats 2000000 in
theorem y0B (h:LineIs p a x F s w) (hwr:s.writes<=1000) :
 Calls prog 386 #[ptrV a.wr] w fun e w'=>e=.returned (.tuple #[])/\LineIs p a x F (s.act p .begin) w'/\Edit F w w':=by
 obtain ⟨sv,fv,lv,hl,hw,-⟩:=h.cells;have hm:=h.wrCells (Edit.one w a.wr 2 (.bool true)) s.e2 true (fun lv hb=>hb.set 2 (.bool true));have c2:=hw.cell 2;have f2:=hw.free 2;simp at c2;obtain ⟨sv1,fv1,lv1,hl1,hw1,-⟩:=hm.1.cells;have y0:=hw1.cell 0;have x8:=hl1.cell 8;have x9:=hl1.cell 9;have x10:=hl1.cell 10;have x11:=hl1.cell 11;have x12:=hl1.cell 12;have x13:=hl1.cell 13;simp [lnC,ptrV] at y0 x8 x9 x10 x11 x12 x13;have hB32:=h.kp.B32;have hc4:=h.kp.c4b;have HUN:=zZ (z6G x.ch x.d x.B x.c3 x.c4 x.S (w.setCell ⟨a.wr,2,none⟩ (.bool true)) h.kp.B1 zU h.kp.S3 zU);have HWH:Hid (∀ u g,Below (w.setCell ⟨a.wr,2,none⟩ (.bool true)).heap.size (w.setCell ⟨a.wr,2,none⟩ (.bool true)) u->u.rowIs g 3 (nPts x.S x.B x.c4) (fun _=>O I 0) ->
     Calls prog 391 #[ptrV a.wr,.agg (hdC x.ch x.d x.B x.c3 x.c4 x.S false 0 0 0 (.slice (some ⟨g,0,none⟩) (nPts x.S x.B x.c4) (nPts x.S x.B x.c4)))] u fun e w'=>e=.returned (.tuple #[])/\LineIs p a x F (s.act p .begin) w'/\Edit F w w'):=fun u g hb hr=>by
  have eu:Edit (fun _=>False) (w.setCell ⟨a.wr,2,none⟩ (.bool true)) u:=Edit.of hb;have hk:=hm.1.keep (fun k hk=>eu.block k (hm.1.lt k hk) id) eu.size;have hgl:g < u.heap.size:=by obtain ⟨c,h1,-⟩:=hr;exact (Array.getElem?_eq_some_iff.1 h1).1
  refine (z4v hk hwr 1 x.ch x.d x.B x.c3 x.c4 x.S false 0 0 0 _ fun _ v ev=>?_).mono ?_
  . have hv:v.rowIs g 3 (nPts x.S x.B x.c4) (fun _=>O I 0):=z2B hr (ev.block g hgl id)
    have hn4:=h.kp.n4;have hd12:=h.kp.d12;have hS3:=h.kp.S3;exact y8a x.ch x.d x.B x.c3 x.c4 x.S zU zU zU h.kp.c3b hc4 zU (nPts x.S x.B x.c4) g v (z3L h.kp.B1 hS3) hv
  . rintro e w' ⟨rfl,h1,h2⟩
    exact ⟨rfl,h1,hm.2.trans ((eu.mono fun _ h=>h.elim).trans h2)⟩
 clear h hl hw hm hl1 hw1;unfold ptrV at *
 go_enter func386,ntmps386
 go_wp2_with (first
  | (go_at_call 136;refine HUN.out.mono ?_;rintro e u ⟨g,rfl,hr,hb⟩;have HW:=zZ (HWH.out u g hb hr);clear hr hb HUN HWH)
  | (go_at_call 391;refine HW.out.mono ?_;rintro e u2 ⟨rfl,hz⟩;have HZ:=zZ hz;clear hz HW))
 go_end0;exact ⟨rfl,HZ.out⟩
theorem y8f {x:Lsn} (hB:1<=x.B):smN x (nBlk x.S x.B)=sumN (intT x.ch x.G (2 * (x.S * x.ch))):=by
 have h1:¬ nBlk x.S x.B * x.B < x.S:=fun hh=>Nat.lt_irrefl _ ((z7N (S:=x.S) (k:=nBlk x.S x.B) hB).2 hh)
 unfold smN;rw [Nat.min_eq_right zU]
theorem y0C {a:Lad} {x:Lsn} {w:World} {lv:Value} {k:Nat} (h:w.ownsRow a.b1 3 1 lv k ((List.range k).map fun k=>O I (frLn x k))) :
 ∃ A cap,lv=.slice A k cap/\IntsAt w A k (fun i=>(frLn x i:Int))/\∀ y,A=some y->0 < k->y.block < w.heap.size:=by
 obtain ⟨A,cap,rfl,hA⟩:=z0j h;refine ⟨A,cap,rfl,fun i hi=>?_,fun y hy h0=>?_⟩
 . obtain ⟨g,rfl,h1,h2⟩:=hA zU
   refine ⟨_,rfl,?_⟩;rw [z2z,Nat.zero_add];exact h2 i _ (by simp [hi])
 . obtain ⟨g,rfl,h1,h2⟩:=hA h0
   cases hy;exact h1
theorem y0D {p:Lpar} {s:Lst} {q:Nat}:(s.head p q).summed=s.summed:=by
 unfold Lst.head;split
 . rfl
 . split <;> rfl
set_option linter.unusedSimpArgs false in
set_option maxHeartbeats 4000000 in
theorem y4R (h:LineIs p a x F s w) (hwr:s.writes<=1000) (hk:s.wrote<=nBlk x.S x.B) (hN:s.stopped=false->s.wrote=nBlk x.S x.B/\s.summed=nBlk x.S x.B) :
 Calls prog 395 #[ptrV a.wr] w fun e w'=>e=.returned (.tuple #[])/\LineIs p a x F ({ s with e2:=true }.head p 2) w'/\Edit F w w':=by
 obtain ⟨sv,fv,lv,hl,hw,-⟩:=h.cells;have hm:=h.wrCells (Edit.one w a.wr 1 (.bool true)) true s.begun (fun lv hb=>hb.set 1 (.bool true));have c1:=hw.cell 1;have f1:=hw.free 1;simp at c1;have hnb:=h.kp.nb;have hB32:=h.kp.B32;have hc4:=h.kp.c4b;have hn4:=h.kp.n4;have hd12:=h.kp.d12;have hS3:=h.kp.S3;have hln:∀ i,i < s.wrote->frLn x i<=222:=fun i hi=>(z6b x.d x.ch x.G x.S x.B i h.kp.d12 h.kp.n1 h.kp.n4 h.kp.B1 h.kp.B32 zU).2
 generalize hW:w.setCell ⟨a.wr,1,none⟩ (.bool true)=W at *;obtain ⟨hL,hE⟩:=hm;obtain ⟨sv1,fv1,lv1,k1,k2,k3,k4,k5,k6,k7,k8⟩:=hL.cells;obtain ⟨A,cap,rfl,hI,hlow⟩:=y0C k7;have HS:Hid (∀ u s',LineIs p a x F s' u->s'.summed=s.summed->u.cell? ⟨a.wr,0,none⟩=some (.pointer (some ⟨a.lb,0,none⟩))/\u.cell? ⟨a.lb,8,none⟩=some (O I x.ch)/\u.cell? ⟨a.lb,9,none⟩=some (O I x.d)/\u.cell? ⟨a.lb,10,none⟩=some (O I x.B)/\u.cell? ⟨a.lb,11,none⟩=some (O I x.c3)/\u.cell? ⟨a.lb,12,none⟩=some (O I x.c4)/\u.cell? ⟨a.lb,13,none⟩=some (O I x.S)/\u.cell? ⟨a.lb,25,none⟩=some (.pointer (some ⟨a.su,0,none⟩))/\u.cell? ⟨a.su,3,none⟩=some (O I (smN x s.summed))):=fun u s' hu hsm=>by
  obtain ⟨sv,fv,lv,hl,hw,-⟩:=hu.cells;have h3:=hu.sum.cell 3;rw [hsm] at h3;exact ⟨hw.cell 0,hl.cell 8,hl.cell 9,hl.cell 10,hl.cell 11,hl.cell 12,hl.cell 13,hl.cell 25,h3⟩
 have HKP:Hid (∀ u,Edit (fun _=>False) W u->LineIs p a x F { s with e2:=true } u):=fun u he=>hL.keep (fun k hk=>he.block k (hL.lt k hk) id) he.size
 have e0:Edit (fun _=>False) W W.drew:=(Edit.refl _ W).drewN 1;have y3:W.drew.cell? ⟨a.wr,3,none⟩=some (.slice A s.wrote cap):=k2.cell 3;have HFI:=zZ (z8Y x.ch x.d x.B x.c3 x.S x.c4 (smN x s.summed) A s.wrote cap (frLn x) W.drew zU zU hln hI hlow);have HWH:Hid (∀ u pv,Below W.heap.size W u->u.ownsRow W.heap.size 3 1 pv (pntN (frLn x) x.c4 s.wrote).length (pntV (pntN (frLn x) x.c4 s.wrote)) ->
     Calls prog 391 #[ptrV a.wr,.agg (hdC x.ch x.d x.B x.c3 x.c4 x.S true (z0P (frLn x) s.wrote:Nat) (z1A (frLn x) s.wrote:Nat) (smN x s.summed) pv)] u fun e w'=>e=.returned (.tuple #[])/\LineIs p a x F ({ s with e2:=true }.head p 2) w'/\Edit F w w'):=fun u pv hb hr=>by
  have eu:Edit (fun _=>False) W u:=Edit.of hb;refine (z4v (HKP.out u eu) hwr 2 x.ch x.d x.B x.c3 x.c4 x.S true _ _ _ _ fun hst v ev=>?_).mono ?_
  . obtain ⟨n1,n2⟩:=hN hst
    obtain ⟨A',cap',rfl,hI',hl'⟩:=z9i (z0m hr ev fun _ _=>id);have hle:=z3v (ln:=frLn x) (m:=222) s.wrote hln;have hmo:=z4p (ln:=frLn x) (m:=222) s.wrote hln;have hpl:=z3E (frLn x) x.c4 s.wrote;have h9:=z5f true x.ch x.d x.B x.c3 x.S x.c4 (z0P (frLn x) s.wrote) (z1A (frLn x) s.wrote) (smN x s.summed) (pntN (frLn x) x.c4 s.wrote) A' cap' v zU zU zU h.kp.c3b hc4 zU zU zU (y0d _) zU
     (fun q hq=>by have:=y0c (ln:=frLn x) (m:=222) s.wrote hln q hq;have:222 * s.wrote<=222 * 300:=Nat.mul_le_mul_left _ zU;omega) hI' hl'
    have e9:hdT x 2=z1L true.toNat x.ch x.d x.B x.c3 x.S x.c4 (z0P (frLn x) s.wrote) (z1A (frLn x) s.wrote) (smN x s.summed) (pntN (frLn x) x.c4 s.wrote):=by
     rw [n1,n2,y8f h.kp.B1]
     rfl
    rw [e9];exact h9
  . rintro e w' ⟨rfl,h1,h2⟩
    exact ⟨rfl,h1,hE.trans ((eu.mono fun _ h=>h.elim).trans h2)⟩
 have hS0:=HS.out W.drew { s with e2:=true } (HKP.out _ e0) rfl;have HKS:Hid (∀ u,Edit (fun _=>False) W u->u.cell? ⟨a.wr,0,none⟩=some (.pointer (some ⟨a.lb,0,none⟩))/\u.cell? ⟨a.lb,8,none⟩=some (O I x.ch)/\u.cell? ⟨a.lb,9,none⟩=some (O I x.d)/\u.cell? ⟨a.lb,10,none⟩=some (O I x.B)/\u.cell? ⟨a.lb,11,none⟩=some (O I x.c3)/\u.cell? ⟨a.lb,12,none⟩=some (O I x.c4)/\u.cell? ⟨a.lb,13,none⟩=some (O I x.S)/\u.cell? ⟨a.lb,25,none⟩=some (.pointer (some ⟨a.su,0,none⟩))/\u.cell? ⟨a.su,3,none⟩=some (O I (smN x s.summed))):=fun u he=>HS.out u { s with e2:=true } (HKP.out u he) rfl
 have HKZ:Hid (∀ u,LineIs p a x F ({ s with e2:=true }.head p 2) u->u.cell? ⟨a.wr,0,none⟩=some (.pointer (some ⟨a.lb,0,none⟩))/\u.cell? ⟨a.lb,8,none⟩=some (O I x.ch)/\u.cell? ⟨a.lb,9,none⟩=some (O I x.d)/\u.cell? ⟨a.lb,10,none⟩=some (O I x.B)/\u.cell? ⟨a.lb,11,none⟩=some (O I x.c3)/\u.cell? ⟨a.lb,12,none⟩=some (O I x.c4)/\u.cell? ⟨a.lb,13,none⟩=some (O I x.S)/\u.cell? ⟨a.lb,25,none⟩=some (.pointer (some ⟨a.su,0,none⟩))/\u.cell? ⟨a.su,3,none⟩=some (O I (smN x s.summed))):=fun u hu=>HS.out u _ hu y0D
 clear h hl hw hI hlow k1 k2 k3 k4 k5 k6 k7 k8 hN hln hL hE HKP HS e0;generalize ({ s with e2:=true }:Lst).head p 2=s2 at *;generalize (smN x s.summed)=sm at *;generalize (z0P (frLn x) s.wrote)=le at *;generalize (z1A (frLn x) s.wrote)=mo at *;unfold ptrV at *
 go_enter func395,ntmps395
 go_wp2_with fail;refine wp_region_held_drew (S:=fun w'=>w'.cell? ⟨a.wr,0,none⟩=some (.pointer (some ⟨a.lb,0,none⟩))/\w'.cell? ⟨a.lb,8,none⟩=some (O I x.ch)/\w'.cell? ⟨a.lb,9,none⟩=some (O I x.d)/\w'.cell? ⟨a.lb,10,none⟩=some (O I x.B)/\w'.cell? ⟨a.lb,11,none⟩=some (O I x.c3)/\w'.cell? ⟨a.lb,12,none⟩=some (O I x.c4)/\w'.cell? ⟨a.lb,13,none⟩=some (O I x.S)/\w'.cell? ⟨a.lb,25,none⟩=some (.pointer (some ⟨a.su,0,none⟩))/\w'.cell? ⟨a.su,3,none⟩=some (O I sm)) zT hS0 (fun _=>?_);refine tq 0 ?_
 refine tq 1 ?_;refine tq 2 ?_;refine tq 3 ?_;refine tq 4 ?_;refine tq 5 ?_;refine tq 6 ?_;refine tq 7 ?_;refine tq 8 ?_;refine tq 9 ?_;refine tq 10 ?_;refine tq 11 ?_;refine tq 13 ?_;refine tq 14 ?_;refine tq 15 ?_;refine tq 16 ?_;refine tq 17 ?_;refine tq 18 ?_;refine tq 19 ?_;refine tq 20 ?_;refine tq 21 ?_;refine tq 22 ?_;refine tq 23 ?_
 refine zQ 12 (fun K hK=>?_)
 go_simp
 go_wp2_with fail;refine zV hK hS0 (fun _=>?_);clear hK K
 refine zQ 24 (fun K hK=>?_)
 go_simp
 go_at_call 128
 refine HFI.out.mono ?_;rintro e u1 ⟨pv,rfl,hr,hb⟩;have hb1:Below W.heap.size W u1:=⟨hb.os,hb.tape,hb.output,hb.size,hb.block⟩;have hS1:=HKS.out u1 (Edit.of hb1);have HW1:=zZ (HWH.out u1 pv hb1 hr);clear hb hb1 hr HFI HWH;go_wp2_with fail;refine zV hK hS1 (fun _=>?_);clear hK K
 refine zQ 25 (fun K hK=>?_)
 go_simp
 go_at_call 391
 refine HW1.out.mono ?_;rintro e u2 ⟨rfl,hz1,hz2⟩;have hS2:=HKZ.out u2 hz1;have HZ:=zZ (And.intro hz1 hz2);clear hz1 hz2 HW1 hS1 hS0;go_wp2_with fail;refine zV hK hS2 (fun _=>?_);clear hK K
 refine wpAnyH_done zT ?_ _;go_wp2;go_end0;exact ⟨rfl,HZ.out⟩
end
def frB (x:Lsn) (k:Nat):ByteArray:=bs (frT x.d x.ch x.G x.S x.B k)
theorem z4S (x:Lsn):∀ l:List Nat,shlV x l=shC (frB x) l
 | []=>rfl
 | k :: r=>by simp only [shlV,shC,z4S x r];rfl
theorem LineIs.took {p:Lpar} {a:Lad} {x:Lsn} {F:Nat->Prop} {s:Lst} {w u:World} {sv fv sv':Value} {r:List Nat} (h:LineIs p a x F s w) (hl:Bx w a.lb 160 (lnC p a x s sv fv))
 (hb:Bx u a.lb 160 (lnC p a x s sv' fv)) (ho:u.ownsRow a.b1 149 2 sv' r.length (shC (frB x) r)) (hob:sv'.ownBlock=sv.ownBlock) (he:Edit (fun b=>sv.ownBlock=some b∨b=a.lb) w u):LineIs p a x F { s with shelf:=r } u/\Edit F w u:=by
 have hkd:=h.kinds;have kd1:=hkd.lb;have kd4:=hkd.wr;obtain ⟨sv1,fv1,lv1,c1,c2,c3,c4,c5,c6,c7,c8⟩:=h.cells;have e1:lnC p a x s sv1 fv1=lnC p a x s sv fv:=by
  have h1:w.heap[a.lb]?=_:=c1;have h2:w.heap[a.lb]?=_:=hl;rw [h2] at h1
  injection h1 with h1
  injection h1 with h1
  exact h1.symm
 have e2:sv1=sv:=by
  have:=congrArg (fun c=>c[17]?) e1
  simpa [lnC] using this
 have e3:fv1=fv:=by
  have:=congrArg (fun c=>c[22]?) e1
  simpa [lnC] using this
 subst e2 e3;have hn:∀ g,kn w g ≠ 160+1->kn w g ≠ 149+1->¬ (sv1.ownBlock=some g∨g=a.lb):=fun g h1 h2 hh=>by
  rcases hh with hh | hh
  . exact h2 (z0l c3 g hh).1
  . exact h1 (hh ▸ kd1)
 refine ⟨h.upd he (fun k hk=>?_) (fun _ hh=>hh) (fun k hk=>zP (h.lt k hk) he.size) ⟨sv',fv1,lv1,hb,c2.edit he (hn _ (by rw [kd4];decide) (by rw [kd4];decide)),by rw [z4S];exact ho,fun g hg=>c4 g (by rw [← hob];exact hg),?_,c6,?_,c8⟩ ⟨rfl,rfl,rfl,rfl,rfl,rfl,rfl,rfl,rfl⟩,he.mono fun k hk=>?_⟩
 . rcases hk with hk | hk
   . exact Or.inr (Or.inr ⟨(z0l c3 k hk).2.1,Or.inl (z0l c3 k hk).1⟩)
   . exact Or.inl hk
 . exact z0m c5 he fun g hg=>hn g (by rw [(z0l c5 g hg).1];decide) (by rw [(z0l c5 g hg).1];decide)
 . exact z0m c7 he fun g hg=>hn g (by rw [(z0l c7 g hg).1];decide) (by rw [(z0l c7 g hg).1];decide)
 . rcases hk with hk | hk
   . exact c4 k hk
   . exact hk ▸ h.own.1
theorem LineIs.wrote {p:Lpar} {a:Lad} {x:Lsn} {F:Nat->Prop} {s:Lst} {w u z:World} {sv fv lv fv' lv':Value} (h:LineIs p a x F s w) (hf:(s.tries p).failed=false)
 (c1:Bx w a.lb 160 (lnC p a x s sv fv)) (c2:Bx w a.wr 169 #[ptrV a.lb,.bool s.e2,.bool s.begun,lv]) (c3:w.ownsRow a.b1 149 2 sv s.shelf.length (shlV x s.shelf)) (c4:∀ g,sv.ownBlock=some g->F g)
 (c5:w.ownsRow a.b1 5 1 fv (frsT x.d x.ch x.G x.S x.B s.wrote).length ((frsT x.d x.ch x.G x.S x.B s.wrote).map fun b=>.int .u8 (b.toNat:Int))) (c6:∀ g,fv.ownBlock=some g->F g)
 (c7:w.ownsRow a.b1 3 1 lv s.wrote ((List.range s.wrote).map fun k=>O I (frLn x k))) (c8:∀ g,lv.ownBlock=some g->F g)
 (hA:y2S p a x s sv fv fv' (frsT x.d x.ch x.G x.S x.B s.wrote).length ((frsT x.d x.ch x.G x.S x.B s.wrote).map fun b=>.int .u8 (b.toNat:Int)) (frT x.d x.ch x.G x.S x.B s.wrote) w u)
 (hz:z.ownsRow a.b1 3 1 lv' (s.wrote+1) (((List.range s.wrote).map fun k=>O I (frLn x k)) ++ [O I (frLn x s.wrote)])) (ez:Edit (fun b=>lv.ownBlock=some b) u z) (hzn:∀ g,lv'.ownBlock=some g->lv.ownBlock=some g∨u.heap.size<=g) :
 Bx z a.wr 169 #[ptrV a.lb,.bool s.e2,.bool s.begun,lv]/\∃ F',Own F F' w/\LineIs p a x F' { s.tries p with wrote:=s.wrote+1 } (z.setCell ⟨a.wr,3,none⟩ lv')/\Edit F w (z.setCell ⟨a.wr,3,none⟩ lv'):=by
 have hkd:=h.kinds;have kd1:=hkd.lb;have kd4:=hkd.wr;obtain ⟨g1,g2⟩:=hA.good hf;have hsz:=hA.edit.size;have ez5:=Edit.one z a.wr 3 lv'
 -- kinds in w
 have ks:=z0l c3;have kf:=z0l c5;have kl:=z0l c7;have hwrl:a.wr < w.heap.size:=h.lt _ h.own.2.2.2.1;have hlbl:a.lb < w.heap.size:=h.lt _ h.own.1;have nf:∀ g,kn w g ≠ 160+1->kn w g ≠ 5+1->¬ (g=a.lb∨fv.ownBlock=some g):=fun g h1 h2 hh=>by
  rcases hh with hh | hh
  . exact h1 (hh ▸ kd1)
  . exact h2 (kf g hh).1
 have nl:∀ g,kn w g ≠ 3+1->¬ lv.ownBlock=some g:=fun g h1 hh=>h1 (kl g hh).1
 have wu:Bx u a.wr 169 #[ptrV a.lb,.bool s.e2,.bool s.begun,lv]:=c2.edit hA.edit (nf _ (by rw [kd4];decide) (by rw [kd4];decide));have wz:=wu.edit ez (nl _ (by rw [kd4];decide));have e4:Edit (fun b=>b=a.lb∨fv.ownBlock=some b∨lv.ownBlock=some b∨b=a.wr) w (z.setCell ⟨a.wr,3,none⟩ lv'):=((hA.edit.mono (by grind)).trans (ez.mono (by grind))).trans (ez5.mono (by grind));have hu8:=z0l g1;have hni:∀ g,fv'.ownBlock=some g->¬ lv.ownBlock=some g:=fun g hg hl=>by
  have h1:=(kl g hl);rcases g2 g hg with h2 | h2
  . have:=(kf g h2).1
    rw [h1.1] at this;exact absurd this zR
  . omega
 have hnw:∀ g,fv'.ownBlock=some g->¬ g=a.wr:=fun g hg hl=>by
  rcases g2 g hg with h2 | h2
  . have:=(kf g h2).1
    rw [hl,kd4] at this;exact absurd this zR
  . omega
 have hzl:∀ g,lv'.ownBlock=some g->¬ g=a.wr:=fun g hg hl=>by
  rcases hzn g hg with h2 | h2
  . have:=(kl g h2).1
    rw [hl,kd4] at this;exact absurd this zR
  . omega
 refine ⟨wz,fun k=>F k∨(w.heap.size<=k/\k < (z.setCell ⟨a.wr,3,none⟩ lv').heap.size),⟨fun _ hh=>Or.inl hh,fun k hh=>hh.imp id fun hh=>hh.1⟩,h.upd (s':={ s.tries p with wrote:=s.wrote+1 }) e4 (fun k hk=>?_) (fun _ hh=>Or.inl hh) (fun k hk=>?_) ⟨sv,fv',lv',?_,wz.set 3 lv',?_,fun g hg=>Or.inl (c4 g hg),?_,fun g hg=>?_,?_,fun g hg=>?_⟩ ⟨rfl,rfl,rfl,rfl,rfl,rfl,rfl,rfl,rfl⟩,e4.mono fun k hk=>?_⟩
 . rcases hk with hk | hk | hk | hk
   . exact Or.inl hk
   . exact Or.inr (Or.inr ⟨(kf k hk).2.1,Or.inr (Or.inl (kf k hk).1)⟩)
   . exact Or.inr (Or.inr ⟨(kl k hk).2.1,Or.inr (Or.inr (kl k hk).1)⟩)
   . exact Or.inr (Or.inl hk)
 . rcases hk with hk | hk
   . exact zP (h.lt k hk) e4.size
   . exact hk.2
 . exact (hA.bx.edit ez (nl _ (by rw [kd1];decide))).past (fun hh=>by rw [hh,kd4] at kd1;exact absurd kd1 zR) 3 lv'
 . exact z0m c3 e4 fun g hg hh=>by
     have k3:=(ks g hg).1;rcases hh with hh | hh | hh | hh
     . rw [hh,kd1] at k3;exact absurd k3 zR
     . rw [(kf g hh).1] at k3;exact absurd k3 zR
     . rw [(kl g hh).1] at k3;exact absurd k3 zR
     . rw [hh,kd4] at k3;exact absurd k3 zR
 . have e6:Edit (fun b=>lv.ownBlock=some b∨b=a.wr) u (z.setCell ⟨a.wr,3,none⟩ lv'):=(ez.mono (by grind)).trans (ez5.mono (by grind))
   have h8:=z0m g1 e6 fun g hg hh=>by
    rcases hh with hh | hh
    . exact hni g hg hh
    . exact hnw g hg hh
   rw [← zN,← List.map_append] at h8;exact h8
 . have hlt:=(z0l g1 g hg).2.2
   rcases g2 g hg with h2 | h2
   . exact Or.inl (c6 g h2)
   . exact Or.inr ⟨h2,zP hlt (zO ez.size ez5.size)⟩
 . have h8:=z0m hz ez5 fun g hg=>hzl g hg
   rw [show ((List.range s.wrote).map fun k=>Value.int .i64 (frLn x k)) ++ [O I (frLn x s.wrote)]=(List.range (s.wrote+1)).map fun k=>O I (frLn x k) by rw [List.range_succ,List.map_append];rfl] at h8;exact h8
 . have hlt:=(z0l hz g hg).2.2
   rcases hzn g hg with h2 | h2
   . exact Or.inl (c8 g h2)
   . exact Or.inr ⟨zO hsz h2,zP hlt ez5.size⟩
 . rcases hk with hk | hk | hk | hk
   . exact hk ▸ h.own.1
   . exact c6 k hk
   . exact c8 k hk
   . exact hk ▸ h.own.2.2.2.1
end Go.Proofs.YtlncjgnomhpjnabGreatDoor
