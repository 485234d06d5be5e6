import Derived.Test.YtlncjgnomhpjnabGreatDoorRows
import Derived.Test.YtlncjgnomhpjnabGreatDoorQC19
import Derived.Test.YtlncjgnomhpjnabGreatDoorQC20
import Derived.Test.YtlncjgnomhpjnabGreatDoorQC21
import Derived.Test.YtlncjgnomhpjnabGreatDoorQD52
import Derived.Test.YtlncjgnomhpjnabGreatDoorCards
import Derived.Test.YtlncjgnomhpjnabGreatDoorTie
import Derived.WalkKit
import Derived.ProofKit
import Derived.OpenShut
import Derived.SizedLaws
import Derived.ChangeSlices
import Derived.Deep.DeepHandedRow
import Derived.Deep.SlicePairs
import Derived.Test.YtlncjgnomhpjnabGreatDoorQC0
namespace Go.Proofs.YtlncjgnomhpjnabGreatDoor.broken
open Go Go.Lib Go.ChangeShapes Go.WideShapes Go.ChangeAt Go.RowKit Go.Deep
theorem own:ownKnob Tryz.prog.godebug=none:=by kernel_rfl
theorem z8r:laidOutB Tryz.prog=true:=by kernel_rfl
theorem y3a {H:Type} {enc:TypeId × Value->H} {W:World} {a:Option Addr} {n cap:Nat} {d:DataW H} {p:List MemPlace}
 (h:DataW.Trod enc Tryz.prog W 0 (fun _=>true) true 69 (.slice a n cap) d p) :
 ∃ kd nm:Nat->Int,n<=9223372036854775807/\(∀ i,i < n->∃ g o,a=some ⟨g,o,none⟩/\W.cell? ⟨g,o+i * 2,none⟩=some (.int .i64 (kd i))/\W.cell? ⟨g,o+i * 2+1,none⟩=some (.int .i64 (nm i)))/\(∀ i,i < n->(-9223372036854775808<=kd i/\kd i<=9223372036854775807)/\(-9223372036854775808<=nm i/\nm i<=9223372036854775807)):=by
 obtain ⟨fuel,hf⟩:=h;rcases open_slice_pairs Tryz.underlying69 Tryz.underlying75 (by kernel_rfl) rfl rfl (by kernel_rfl) (by kernel_rfl) hf with ⟨hcs,_⟩ | ⟨x,len,cp,m,k,V0,V1,D0,D1,P0,P1,hcs,_,hl,hm,hmm,_,hx⟩
 . simp [Value.cells] at hcs
   obtain ⟨rfl,rfl,rfl⟩:=hcs;exact ⟨fun _=>0,fun _=>0,by omega,fun i hi=>absurd hi (Nat.not_lt_zero i),fun i hi=>absurd hi (Nat.not_lt_zero i)⟩
 . simp [Value.cells] at hcs
   obtain ⟨rfl,rfl,rfl⟩:=hcs;have hmb:maxLen=9223372036854775807:=by decide
   simp only [if_true] at hmm;have each:∀ i,i < n->∃ z:Int × Int,V0 i=.int .i64 z.1/\V1 i=.int .i64 z.2/\(Lit.int .i64 z.1).wf=true/\(Lit.int .i64 z.2).wf=true:=fun i hi=>by
    obtain ⟨-,-,g0,g1⟩:=hx i (by omega);obtain ⟨z0,e0,-,w0⟩:=DataW.trod_int Tryz.underlying3 g0;obtain ⟨z1,e1,-,w1⟩:=DataW.trod_int Tryz.underlying3 g1;exact ⟨(z0,z1),by simpa using e0,by simpa using e1,w0,w1⟩
   obtain ⟨z,hz⟩:=choose_lt each;refine ⟨fun i=>(z i).1,fun i=>(z i).2,by omega,fun i hi=>?_,fun i hi=>⟨bounds_i64 (hz i hi).2.2.1,bounds_i64 (hz i hi).2.2.2⟩⟩;obtain ⟨h0,h1,-,-⟩:=hx i (by omega);obtain ⟨b,off,sp⟩:=x;have hs:sp=none:=by
    obtain ⟨h00,-,-,-⟩:=hx 0 (by omega)
    simpa [Addr.add] using World.cell?_spot h00
   subst hs;rw [(hz i hi).1] at h0;rw [(hz i hi).2.1] at h1;rw [Addr.add_mid] at h0 h1;exact ⟨b,off,rfl,h0,h1⟩
set_option maxRecDepth 100000 in
theorem y6O (H:Type) (enc:TypeId × Value->H) (W:World) (base:Nat) (args:Array Value) (ds gs:List (DataW H)) (before:List MemPlace)
 (hval:∀ (j:Nat) t v,Tryz.f6.params[j]?=some t->args[j]?=some v->Value.okWide Tryz.prog W .any base t v)
 (hW:DataW.Whole enc Tryz.prog Tryz.f6.params.toList Rows.brokenSpec.vars false W args.toList ds gs before) (hsz:(DataW.weightsEach Tryz.prog (Tryz.f6.params.toList ++ (OpenSpec.ofChange Rows.brokenSpec).bare.plain.varTypes Tryz.prog) (ds ++ gs)).all (·<=reachBytes)=true) (hL:laidMetH Tryz.prog Rows.brokenRow.laid W) :
 Calls Tryz.prog 6 args W fun e W'=>∃ v,e=.returned v/\Rows.brokenSpec.post enc Tryz.prog Tryz.f6 false true false false W args v W':=by
 have hW':=hW;obtain ⟨p,q,hA0,hV,rfl,hfz,hnd⟩:=hW;have hA:DataW.TrodAll enc Tryz.prog W 0 (fun _=>true) true Tryz.f6.params.toList args.toList ds p:=hA0;rw [Tryz.params6] at hA hval hsz;obtain ⟨v0,vs0,d0,ds0,p0,q0,hargs,rfl,rfl,h0,r0⟩:=trodAll_cons hA;obtain ⟨v1,vs1,d1,ds1,p1,q1,rfl,rfl,rfl,h1,r1⟩:=trodAll_cons r0;obtain ⟨v2,vs2,d2,ds2,p2,q2,rfl,rfl,rfl,h2,r2⟩:=trodAll_cons r1;obtain ⟨v3,vs3,d3,ds3,p3,q3,rfl,rfl,rfl,h3,r3⟩:=trodAll_cons r2;obtain ⟨rfl,rfl,rfl⟩:=trodAll_nil r3;obtain rfl:args=#[v0,v1,v2,v3]:=by cases args;simp_all
 obtain ⟨rfl,rfl⟩:=trodVars_none hV;have k0:=h0;have k1:=h1;have k2:=h2;have k3:=h3;have lt0:∀ x ∈ p0,x.block < W.heap.size:=by obtain ⟨m,hm⟩:=k0;exact DataW.trod_lt m _ _ _ hm
 have lt1:∀ x ∈ p1,x.block < W.heap.size:=by obtain ⟨m,hm⟩:=k1;exact DataW.trod_lt m _ _ _ hm
 have lt2:∀ x ∈ p2,x.block < W.heap.size:=by obtain ⟨m,hm⟩:=k2;exact DataW.trod_lt m _ _ _ hm
 have lt3:∀ x ∈ p3,x.block < W.heap.size:=by obtain ⟨m,hm⟩:=k3;exact DataW.trod_lt m _ _ _ hm
 obtain ⟨b2,rfl,rfl,rfl,wb2⟩:=open_int Tryz.underlying3 (hval 2 3 v2 rfl rfl) h2;obtain ⟨sa,m,sc,rfl⟩:=okWide_slice Tryz.underlying69 (hval 3 69 v3 rfl rfl);obtain ⟨kd,nm,hm,hmv,hmr⟩:=y3a h3;obtain ⟨c0,c1,c2,c3,c4,c5,c6,c7,rfl,hr3,hr4⟩:=y4b (hval 0 23 v0 rfl rfl) h0;obtain ⟨a,n,cap,rfl⟩:=okWide_slice Tryz.underlying24 (hval 1 24 v1 rfl rfl);obtain ⟨A,L,C,F,hS,hR⟩:=y0t h1 (fun x hx=>of_decide_eq_true (List.all_eq_true.1 hsz x (DataW.weights_mem_each (j:=1) (t:=24) (d:=d1) rfl rfl x hx))) lt1;clear hA0 hsz;refine (y5t c0 c1 c2 c3 c4 c5 c6 c7 a n cap A L C F b2 sa m sc kd nm W hr3 hr4 (bounds_i64 wb2) hS hR hm hmv hmr (y3Y (show laidMetH Tryz.prog Rows.brokenRow.laid W from hL)).1 (y3Y (show laidMetH Tryz.prog Rows.brokenRow.laid W from hL)).2).mono fun e W' ⟨he,bel⟩=>?_
 subst he;exact ⟨_,rfl,_,_,_,[],_,[],hW',trodAll_mk1 (shut_bool Tryz.underlying4 _),(trodAll_cons_mk (Below.trod z8r (by kernel_rfl) (of_decide_eq_true (by kernel_rfl)) k0 bel lt0) (trodAll_cons_mk (Below.trod z8r (by kernel_rfl) (of_decide_eq_true (by kernel_rfl)) k1 bel lt1) (trodAll_cons_mk (Below.trod z8r (by kernel_rfl) (of_decide_eq_true (by kernel_rfl)) k2 bel lt2) (trodAll_cons_mk (Below.trod z8r (by kernel_rfl) (of_decide_eq_true (by kernel_rfl)) k3 bel lt3) trodAll_mk0)))),rfl,bel.frame _,fun h=>by cases h⟩
def y6P:Array Value:=#[.int .i64 0,.int .i64 0,.int .i64 0,.int .i64 0,.int .i64 1,.int .i64 0,.int .i64 0,.int .i64 0,.int .i64 2,.int .i64 (-1),.int .i64 0,.int .i64 0,.int .i64 3,.int .i64 (-3),.int .i64 1,.int .i64 0,.int .i64 4,.int .i64 (-6),.int .i64 4,.int .i64 (-1)]
def y8L:Obj->Obj
 | .cells _ t frozen=>.cells y6P t frozen
 | o=>o
def lay32:Obj->Obj
 | .cells _ t frozen=>.cells ((z32.map fun z=>Value.int .u8 z).toArray) t frozen
 | o=>o
def lay64:Obj->Obj
 | .cells _ t frozen=>.cells ((z64.map fun z=>Value.int .u8 z).toArray) t frozen
 | o=>o
def y6Q:Obj->Obj
 | .cells _ t frozen=>.cells #[.int .i64 0,.int .i64 1,.int .i64 0,.int .i64 2,.int .i64 2,.int .i64 1,.int .i64 3,.int .i64 2] t frozen
 | o=>o
def litV:DataW Unit->Value
 | .lit (.int k z)=>.int k z
 | _=>undef
def flatV:DataW Unit->List Value
 | .agg l=>l.map litV
 | d=>[litV d]
def y6R:Obj->Obj
 | .cells _ t frozen=>.cells (flatV Rows.laid_unicode_utf8_first).toArray t frozen
 | o=>o
def y5u:Obj->Obj
 | .cells _ t frozen=>.cells ((match (Rows.laid_unicode_utf8_acceptRanges:DataW Unit) with | .agg l=>(l.map flatV).flatten | _=>[]).toArray) t frozen
 | o=>o
noncomputable def z6t (os:Os):World :=
 { World.holding Tryz.prog os ⟨#[],#[],[]⟩ with heap:=((((((World.holding Tryz.prog os ⟨#[],#[],[]⟩).heap.modify 5 y8L).modify 3 lay32).modify 4 lay64).modify 0 y6Q).modify 6 y6R).modify 7 y5u }
theorem y6S (os:Os):laidMet Tryz.prog Rows.brokenRow.laid ((z6t os).forCall (fun _ _=>0) ⟨#[],#[.agg #[.int .i64 0,.int .i64 0,.int .i64 0,.int .i64 0,.int .i64 0,.int .i64 0,.int .i64 0,.int .i64 0],.slice none 0 0,.int .i64 0,.slice none 0 0],[]⟩).memory :=
 laidMet_of_run' 8 (by kernel_rfl) (by kernel_rfl)
theorem y8M (os:Os) {H:Type} (enc:TypeId × Value->H):∃ places,DataW.whole enc Tryz.prog ((z6t os).forCall (fun _ _=>0) ⟨#[],#[.agg #[.int .i64 0,.int .i64 0,.int .i64 0,.int .i64 0,.int .i64 0,.int .i64 0,.int .i64 0,.int .i64 0],.slice none 0 0,.int .i64 0,.slice none 0 0],[]⟩).memory Tryz.f6.params.toList Rows.brokenSpec.vars false #[Value.agg #[.int .i64 0,.int .i64 0,.int .i64 0,.int .i64 0,.int .i64 0,.int .i64 0,.int .i64 0,.int .i64 0],.slice none 0 0,.int .i64 0,.slice none 0 0].toList 8=some ([.agg [.lit (.int .i64 0),.lit (.int .i64 0),.lit (.int .i64 0),.lit (.int .i64 0),.lit (.int .i64 0),.lit (.int .i64 0),.lit (.int .i64 0),.lit (.int .i64 0)],.nil,.lit (.int .i64 0),.nil],[],places) :=
 ⟨[],by kernel_rfl⟩
set_option maxRecDepth 100000 in
theorem y8N (os:Os) (started:os.Started) (H:Type) (enc:TypeId × Value->H) (F:Stop.Interp) :
 ReturnsInHanded {} Tryz.checked os 6 .any ((OpenSpec.ofChange Rows.brokenSpec).preRow enc Tryz.prog Tryz.f6 Rows.brokenRow.domain false Rows.brokenRow.laid) (((OpenSpec.ofChange Rows.brokenSpec).at F).post enc Tryz.prog Tryz.f6 false true false false):=by
 obtain ⟨places,hx⟩:=y8M os enc;refine returnsInHanded_of_row (C:=Tryz.checked) (s:=OpenSpec.ofChange Rows.brokenSpec) own started (by kernel_rfl) Tryz.func6
  (witness_row_at (enc:=enc) (C:=Tryz.checked) false (z6t os) #[.agg #[.int .i64 0,.int .i64 0,.int .i64 0,.int .i64 0,.int .i64 0,.int .i64 0,.int .i64 0,.int .i64 0],.slice none 0 0,.int .i64 0,.slice none 0 0] rfl (by kernel_rfl) (by kernel_rfl) (by kernel_rfl)
   (OpenSpec.preRow_of_cond 8 hx (by kernel_rfl) (fun k hk=>by cases hk) (by kernel_rfl) (y6S os))) ?_
 intro W base args ds gs before hval hW _ _ hsz hL _ _;exact y6O H enc W base args ds gs before hval hW hsz hL
theorem said:Rows.BrokenSaid :=
 OpenClaim.holds_of_cond 6 Tryz.f6 rfl rfl rfl rfl rfl rfl rfl ⟨rfl,rfl,rfl,rfl,rfl⟩ rfl rfl rfl rfl rfl j6 Tryz.func6 closed
  (of_decide_eq_true (by kernel_rfl)) (by unfold Func.isWrapper;first | (rw [if_pos (by decide +kernel)];kernel_rfl) | (rw [if_neg (by decide +kernel)];exact ⟨rfl,rfl⟩))
  (fun os started H enc _ F=>by rw [OpenClaim.pre_eq_preRow];exact y8N os started H enc F)
theorem plain (f:FuncId) (fn:Func) (hf:Tryz.pinned.checked.prog.funcNamed "reel/reelkeep.Broken" = some f) (hfn:Tryz.pinned.checked.prog.funcs[f]?=some fn) :
 false=Tryz.pinned.checked.prog.looks []/\∀ (j:Nat) t,fn.params[j]?=some t->Tryz.pinned.checked.prog.wantsStandIn t=false:=by
 obtain rfl:f=6:=Option.some.inj ((show Tryz.prog.funcNamed "reel/reelkeep.Broken" = some 6 by kernel_rfl).symm.trans hf) |>.symm;obtain rfl:fn=Tryz.f6:=(Option.some.inj (Tryz.func6.symm.trans hfn)).symm;refine ⟨by kernel_rfl,fun j t ht=>?_⟩;rw [Tryz.params6] at ht;have hm:=Array.mem_of_getElem? ht;simp at hm;rcases hm with rfl | rfl | rfl | rfl
 . exact (show Tryz.prog.wantsStandIn 23=false by kernel_rfl)
 . exact (show Tryz.prog.wantsStandIn 24=false by kernel_rfl)
 . exact (show Tryz.prog.wantsStandIn 3=false by kernel_rfl)
 . exact (show Tryz.prog.wantsStandIn 69=false by kernel_rfl)
end Go.Proofs.YtlncjgnomhpjnabGreatDoor.broken
namespace Go.Proofs.YtlncjgnomhpjnabGreatDoor
theorem brokenCard_holds:Rows.BrokenCardSaid :=
 ⟨Claim7.tied_new_at .later [.data,.data,.data,.data,.data,.pinned] true (Claim7.new_of_sixth broken.said Rows.brokenCard.stood.harness false rfl ⟨rfl,rfl⟩ (by kernel_rfl) rfl broken.plain) (by kernel_rfl),(fun _ h=>by cases h),broken_row_tie,(fun h=>by cases h),(by kernel_rfl)⟩
#print axioms brokenCard_holds
end Go.Proofs.YtlncjgnomhpjnabGreatDoor
