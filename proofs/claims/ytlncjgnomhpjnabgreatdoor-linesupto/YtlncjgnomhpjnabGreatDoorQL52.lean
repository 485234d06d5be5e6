import Derived.Test.YtlncjgnomhpjnabGreatDoorQL15
import Derived.Test.YtlncjgnomhpjnabGreatDoorQL51
import Derived.Test.YtlncjgnomhpjnabGreatDoorCards
import Derived.Test.YtlncjgnomhpjnabGreatDoorTie
import Derived.Deep.DeepHandedRow
namespace Go.Proofs.YtlncjgnomhpjnabGreatDoor.lines
open Go Go.Lib Go.ChangeShapes Go.WideShapes Go.ChangeAt Go.RowKit Go.Deep
theorem own:ownKnob Tryz.prog.godebug=none:=by kernel_rfl
theorem y8D:laidOutB Tryz.prog=true:=by kernel_rfl
set_option maxRecDepth 100000 in
theorem y7b (H:Type) (enc:TypeId × Value->H) (W:World) (base:Nat) (args:Array Value) (ds gs:List (DataW H)) (before:List MemPlace)
 (hval:∀ (j:Nat) t v,Tryz.f4.params[j]?=some t->args[j]?=some v->Value.okWide Tryz.prog W .any base t v)
 (hW:DataW.Whole enc Tryz.prog Tryz.f4.params.toList Rows.linesSpec.vars false W args.toList ds gs before) (hsz:(DataW.weightsEach Tryz.prog (Tryz.f4.params.toList ++ (Rows.OpenSpec.upto Rows.linesSpec).bare.plain.varTypes Tryz.prog) (ds ++ gs)).all (·<=reachBytes)=true) (hL:laidMetH Tryz.prog Rows.linesUptoRow.laid W) (hk:Rows.uptoSmall H (ds ++ gs)=true) :
 Calls Tryz.prog 4 args W fun e W'=>∃ v,e=.returned v/\Rows.linesSpec.post enc Tryz.prog Tryz.f4 false true false false W args v W':=by
 have hW':=hW;obtain ⟨p,q,hA0,hV,rfl,hfz,hnd⟩:=hW;have hA:DataW.TrodAll enc Tryz.prog W 0 (fun _=>true) true Tryz.f4.params.toList args.toList ds p:=hA0;rw [Tryz.params4] at hA hval hsz;obtain ⟨v0,vs0,d0,ds0,p0,q0,hargs,rfl,rfl,h0,r0⟩:=trodAll_cons hA;obtain ⟨rfl,rfl,rfl⟩:=trodAll_nil r0;obtain rfl:args=#[v0]:=by cases args;simp_all
 obtain ⟨rfl,rfl⟩:=trodVars_none hV;have k0:=h0;have lt0:∀ x ∈ p0,x.block < W.heap.size:=by obtain ⟨m,hm⟩:=k0;exact DataW.trod_lt m _ _ _ hm
 obtain ⟨a,n,cap,rfl⟩:=okWide_slice Tryz.underlying43 (hval 0 43 v0 rfl rfl);simp only [List.append_nil] at hk;obtain ⟨ops,hn,hc,hok⟩:=y0Y h0 (fun x hx=>of_decide_eq_true (List.all_eq_true.1 hsz x (DataW.weights_mem_each (j:=0) (t:=43) (d:=d0) rfl rfl x hx))) (of_decide_eq_true hk);clear hA0 hsz;obtain ⟨hT,hR,hRl⟩:=y7W (show laidMetH Tryz.prog Rows.linesUptoRow.laid W from hL);refine (y6Y a n cap ops W hn hc hok hT hR hRl).mono fun e W' ⟨he,bel⟩=>?_
 subst he;exact ⟨_,rfl,_,_,_,[],_,[],hW',trodAll_mk1 (shut_bool Tryz.underlying4 _),(trodAll_cons_mk (Below.trod y8D (by kernel_rfl) (of_decide_eq_true (by kernel_rfl)) k0 bel lt0) trodAll_mk0),rfl,bel.frame _,fun h=>by cases h⟩
def y7c:Array Value:=#[.int .i64 0,.int .i64 0,.int .i64 0,.int .i64 0,.int .i64 1,.int .i64 0,.int .i64 0,.int .i64 0,.int .i64 2,.int .i64 (-1),.int .i64 0,.int .i64 0,.int .i64 3,.int .i64 (-3),.int .i64 1,.int .i64 0,.int .i64 4,.int .i64 (-6),.int .i64 4,.int .i64 (-1)]
def y7y:Obj->Obj
 | .cells _ t frozen=>.cells y7c t frozen
 | o=>o
def x0a:Obj->Obj
 | .cells _ t frozen=>.cells ((z32.map fun z=>Value.int .u8 z).toArray) t frozen
 | o=>o
def x0b:Obj->Obj
 | .cells _ t frozen=>.cells ((z64.map fun z=>Value.int .u8 z).toArray) t frozen
 | o=>o
def y7d:Obj->Obj
 | .cells _ t frozen=>.cells #[.int .i64 0,.int .i64 1,.int .i64 0,.int .i64 2,.int .i64 2,.int .i64 1,.int .i64 3,.int .i64 2] t frozen
 | o=>o
def litV:DataW Unit->Value
 | .lit (.int k z)=>.int k z
 | _=>undef
def y9v:DataW Unit->List Value
 | .agg l=>l.map litV
 | d=>[litV d]
def y7e:Obj->Obj
 | .cells _ t frozen=>.cells (y9v Rows.laid_unicode_utf8_first).toArray t frozen
 | o=>o
def y5I:Obj->Obj
 | .cells _ t frozen=>.cells ((match (Rows.laid_unicode_utf8_acceptRanges:DataW Unit) with | .agg l=>(l.map y9v).flatten | _=>[]).toArray) t frozen
 | o=>o
noncomputable def z6w (os:Os):World :=
 { World.holding Tryz.prog os ⟨#[],#[],[]⟩ with heap:=(((((((World.holding Tryz.prog os ⟨#[],#[],[]⟩).heap.modify 5 y7y).modify 2 y7y).modify 3 x0a).modify 4 x0b).modify 0 y7d).modify 6 y7e).modify 7 y5I }
theorem y7f (os:Os):laidMet Tryz.prog Rows.linesUptoRow.laid ((z6w os).forCall (fun _ _=>0) ⟨#[],#[.slice none 0 0],[]⟩).memory :=
 laidMet_of_run' 8 (by kernel_rfl) (by kernel_rfl)
theorem y9w (os:Os) {H:Type} (enc:TypeId × Value->H):∃ places,DataW.whole enc Tryz.prog ((z6w os).forCall (fun _ _=>0) ⟨#[],#[.slice none 0 0],[]⟩).memory Tryz.f4.params.toList Rows.linesSpec.vars false #[Value.slice none 0 0].toList 8=some ([.nil],[],places) :=
 ⟨[],by kernel_rfl⟩
set_option maxRecDepth 100000 in
theorem y9x (os:Os) (started:os.Started) (H:Type) (enc:TypeId × Value->H) (F:Stop.Interp) :
 ReturnsInHanded {} Tryz.checked os 4 .any ((Rows.OpenSpec.upto Rows.linesSpec).preRow enc Tryz.prog Tryz.f4 Rows.linesUptoRow.domain false Rows.linesUptoRow.laid) (((Rows.OpenSpec.upto Rows.linesSpec).at F).post enc Tryz.prog Tryz.f4 false true false false):=by
 obtain ⟨places,hx⟩:=y9w os enc;refine returnsInHanded_of_row (C:=Tryz.checked) (s:=Rows.OpenSpec.upto Rows.linesSpec) own started (by kernel_rfl) Tryz.func4
  (witness_row_at (enc:=enc) (C:=Tryz.checked) false (z6w os) #[.slice none 0 0] rfl (by kernel_rfl) (by kernel_rfl) (by kernel_rfl)
   (OpenSpec.preRow_of_cond 8 hx (by kernel_rfl) (fun k hk=>by cases hk;kernel_rfl) (by kernel_rfl) (y7f os))) ?_
 intro W base args ds gs before hval hW _ hk hsz hL _ _;exact y7b H enc W base args ds gs before hval hW hsz hL (hk _ rfl)
theorem said:Rows.LinesUptoSaid :=
 OpenClaim.holds_of_cond 4 Tryz.f4 rfl rfl rfl rfl rfl rfl rfl ⟨rfl,rfl,rfl,rfl,rfl⟩ rfl rfl rfl rfl rfl j6 Tryz.func4 closed
  (of_decide_eq_true (by kernel_rfl)) (by unfold Func.isWrapper;first | (rw [if_pos (by decide +kernel)];kernel_rfl) | (rw [if_neg (by decide +kernel)];exact ⟨rfl,rfl⟩))
  (fun os started H enc _ F=>by rw [OpenClaim.pre_eq_preRow];exact y9x os started H enc F)
theorem plain (f:FuncId) (fn:Func) (hf:Tryz.pinned.checked.prog.funcNamed "reel/reellaw.Lines" = some f) (hfn:Tryz.pinned.checked.prog.funcs[f]?=some fn) :
 false=Tryz.pinned.checked.prog.looks []/\∀ (j:Nat) t,fn.params[j]?=some t->Tryz.pinned.checked.prog.wantsStandIn t=false:=by
 obtain rfl:f=4:=Option.some.inj ((show Tryz.prog.funcNamed "reel/reellaw.Lines" = some 4 by kernel_rfl).symm.trans hf) |>.symm;obtain rfl:fn=Tryz.f4:=(Option.some.inj (Tryz.func4.symm.trans hfn)).symm;refine ⟨by kernel_rfl,fun j t ht=>?_⟩;rw [Tryz.params4] at ht;have hm:=Array.mem_of_getElem? ht;simp at hm;subst hm;exact (show Tryz.prog.wantsStandIn 43=false by kernel_rfl)
end Go.Proofs.YtlncjgnomhpjnabGreatDoor.lines
namespace Go.Proofs.YtlncjgnomhpjnabGreatDoor
theorem linesUptoCard_holds:Rows.LinesUptoCardSaid :=
 ⟨Claim7.tied_new_at .later [.data,.data,.data,.data,.data,.data,.pinned] true (Claim7.new_of_sixth lines.said Rows.linesUptoCard.stood.harness false rfl ⟨rfl,rfl⟩ (by kernel_rfl) rfl lines.plain) (by kernel_rfl),(fun _ h=>by cases h),linesUpto_row_tie,(fun h=>by cases h),(by kernel_rfl)⟩
#print axioms linesUptoCard_holds
end Go.Proofs.YtlncjgnomhpjnabGreatDoor
