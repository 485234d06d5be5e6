import Derived.Test.YtlncjgnomhpjnabGreatDoorQL13
import Derived.ProofKit
import Derived.OpenShut
import Derived.SizedLaws
import Derived.Deep.Matrix
namespace Go.Proofs.YtlncjgnomhpjnabGreatDoor
open Go.Value renaming int → O
open Go.IntKind renaming i64 → I
open Go.Proofs.Tryz
open Go.RowKit Go.Deep
set_option linter.unusedVariables false
set_option maxHeartbeats 400000 in
theorem z7V (v u:Value) (w:World) :
 Calls prog 76 #[v,u,.slice none 0 0] w fun e w'=>e=.returned (.bool true)/\w'=w:=by
 have hnl:=fun u:World=>Lib.run_eql_slice_nil (P:=prog) u 24 30 none 0 0 0 0 underlying24
 go_enter func76,ntmps76
 go_wp2;go_ret;exact ⟨rfl,rfl⟩
theorem z7W (c:Int) (w:World):Calls prog 77 #[O I c] w fun e w'=>e=.returned (O I c)/\w'=w:=by
 go_enter func77,ntmps77
 go_wp2;go_ret;exact ⟨rfl,rfl⟩
theorem Rest.below' {w wr wr':World} {n:Nat} {A:Nat->Option Addr} {L:Nat->Nat} {F:Nat->Nat->Int} {NB:Nat->Nat} {k:Nat} (h:Rest w wr n A L F NB k) (hb:Below wr.heap.size wr wr'):Rest w wr' n A L F NB k:=by
 have hs:=h.below.size;refine ⟨h.below.trans (hb.mono hs),h.out.of_block (hb.block _ h.out.lt),h.mine.of_block (hb.block _ h.mine.lt),h.lo,fun i hi=>zP (h.hi i hi) hb.size,
  fun i h1 h2 x hx=>(h.row i h1 h2 x hx).of_block (hb.block _ (h.hi i zU)),fun i h1 h2=>(h.far i h1 h2).of_block (hb.block _ (h.hi i h2)),h.ne⟩
theorem Rest.lists {w wr:World} {n:Nat} {A:Nat->Option Addr} {L:Nat->Nat} {F:Nat->Nat->Int} {NB:Nat->Nat} {k:Nat} (h:Rest w wr n A L F NB k) :
 ListsAt wr (some ⟨w.heap.size,0,none⟩) n (fun i=>z4g (A i) (NB i)) L (fun i=>z6x (A i) (L i)):=fun i hi=>by
 refine ⟨_,rfl,?_⟩;have:=h.out.cell (i:=i) zU;rw [outV,if_pos hi] at this;rw [← z5i,← this];cases i <;> simp [Addr.add]
theorem Rest.ints {w wr:World} {n:Nat} {A:Nat->Option Addr} {L:Nat->Nat} {F:Nat->Nat->Int} {NB:Nat->Nat} (h:Rest w wr n A L F NB 0) (hnil:∀ i,i < n->A i=none->L i=0) :
 ∀ i,i < n->IntsAt wr (z4g (A i) (NB i)) (L i) (F i):=fun i hi j hj=>by
 cases hA:A i with
 | none=>rw [hnil i hi hA] at hj;exact absurd hj zU
 | some x =>
  refine ⟨⟨NB i,0,none⟩,rfl,?_⟩;have:=(h.row i zU hi x hA).cell (i:=j) zU;rw [z1H,if_pos hj] at this;rw [← this];cases j <;> simp [Addr.add]
theorem Rest.low {w wr:World} {n:Nat} {A:Nat->Option Addr} {L:Nat->Nat} {F:Nat->Nat->Int} {NB:Nat->Nat} {k:Nat} (h:Rest w wr n A L F NB k) :
 Low wr.heap.size (some ⟨w.heap.size,0,none⟩) n (fun i=>z4g (A i) (NB i)) L:=by
 refine ⟨fun x hx _=>?_,fun i hi x hx _=>?_⟩
 . cases hx;exact h.out.lt
 . cases hA:A i with
   | none=>simp [z4g,hA] at hx
   | some y=>simp [z4g,hA] at hx;subst hx;exact h.hi i zU
theorem y0j (w:World):Calls prog 40 #[] w fun e w'=>e=.returned (.agg #[O I 1,O I 4,O I 2,O I 8,O I 1,O I 2,O I 2,O I 1])/\Below w.heap.size w w':=by
 go_enter func40,ntmps40
 go_wp2;exact bodyPost_ret (v:=.agg #[O I 1,O I 4,O I 2,O I 8,O I 1,O I 2,O I 2,O I 1]) (by simp [results,results40,go_sem]) rfl ⟨rfl,zX.alloc zY _⟩
structure SoundIn (w:World) (a:Option Addr) (n cap:Nat) (A:Nat->Option Addr) (L C:Nat->Nat) (F:Nat->Nat->Int):Prop where
 nil:a=none->n=0/\cap=0
 hn:n<=5864062014805
 hL:∀ i,i < n->L i<=17592186044416
 hA:ListsAt w a n A L C
 hI:∀ i,i < n->IntsAt w (A i) (L i) (F i)
 low:Low w.heap.size a n A L
 no:∀ i,i < n->A i=none->L i=0/\C i=0
 room:∀ i,i < n->L i<=C i
theorem SoundIn.below {w w':World} {a:Option Addr} {n cap:Nat} {A:Nat->Option Addr} {L C:Nat->Nat} {F:Nat->Nat->Int} (h:SoundIn w a n cap A L C F) (hb:Below w.heap.size w w'):SoundIn w' a n cap A L C F :=
 ⟨h.nil,h.hn,h.hL,h.hA.below hb h.low.1,fun i hi=>(h.hI i hi).below hb (h.low.2 i hi),⟨fun x hx h0=>zP (h.low.1 x hx h0) hb.size,fun i hi x hx h0=>zP (h.low.2 i hi x hx h0) hb.size⟩,h.no,h.room⟩
end Go.Proofs.YtlncjgnomhpjnabGreatDoor
namespace Go.Proofs.YtlncjgnomhpjnabGreatDoor
open Go.Value renaming int → O
open Go.IntKind renaming i64 → I
open Go.Proofs.Tryz
open Go.ChangeShapes Go.WideShapes Go.ChangeAt Go.RowKit Go.Deep
theorem y6o:Tryz.prog.cellsOf 23=8:=by kernel_rfl
theorem z5q:Tryz.prog.cellsOf 3=1:=by kernel_rfl
theorem z9c:Tryz.prog.cellsOf 30=1:=by kernel_rfl
theorem y1B:Tryz.prog.bytesOf 3=8:=by kernel_rfl
theorem y4A:Tryz.prog.bytesOf 30=24:=by kernel_rfl
theorem z4c {H:Type} {P:Program} {e:TypeId} {d:DataW H}:∀ {l:List (DataW H)},d ∈ l->∀ n ∈ d.weights P e,n ∈ DataW.weightsAll P e l
 | x :: l,hd,n,hn=>by
  simp only [DataW.weightsAll,List.mem_append];cases List.mem_cons.1 hd with
  | inl h=>subst h;exact Or.inl hn
  | inr h=>exact Or.inr (z4c h n hn)
end Go.Proofs.YtlncjgnomhpjnabGreatDoor
namespace Go.Proofs.YtlncjgnomhpjnabGreatDoor
open Go.Value renaming int → O
open Go.IntKind renaming i64 → I
open Go.Proofs.Tryz
open Go.ChangeShapes Go.WideShapes Go.ChangeAt Go.RowKit Go.Deep
set_option linter.unusedVariables false
set_option maxRecDepth 100000 in
theorem y0k {H:Type} {enc:TypeId × Value->H} {W:World} {a:Option Addr} {n cap:Nat} {d:DataW H} {p:List MemPlace}
 (h:DataW.Trod enc Tryz.prog W 0 (fun _=>true) true 24 (.slice a n cap) d p) (hw:∀ x ∈ d.weights Tryz.prog 24,x<=reachBytes) (hlt:∀ x ∈ p,x.block < W.heap.size) :
 ∃ (A:Nat->Option Addr) (L C:Nat->Nat) (F:Nat->Nat->Int),SoundIn W a n cap A L C F/\∀ i,i < n->∀ j,j < L i->-9223372036854775808<=F i j/\F i j<=9223372036854775807:=by
 obtain ⟨fuel,hf⟩:=h;rcases open_int_rows Tryz.underlying24 Tryz.underlying30 Tryz.underlying3 z9c z5q hf with ⟨hcs,_⟩ | ⟨x,len,cp,A,L,C,Z,hcs,_,hl,_,hx,hrows⟩
 . simp [Value.cells] at hcs
   obtain ⟨rfl,rfl,rfl⟩:=hcs;exact ⟨fun _=>none,fun _=>0,fun _=>0,fun _ _=>0,⟨fun _=>⟨rfl,rfl⟩,by omega,fun i hi=>absurd hi (by omega),fun i hi=>absurd hi (by omega),fun i hi=>absurd hi (by omega),⟨fun x hx=>(by cases hx),fun i hi=>absurd hi (by omega)⟩,fun i hi=>absurd hi (by omega),fun i hi=>absurd hi (by omega)⟩,fun i hi=>absurd hi (by omega)⟩
 . simp [Value.cells] at hcs
   obtain ⟨rfl,rfl,rfl⟩:=hcs;simp only [Prod.mk.injEq] at hx;obtain ⟨rfl,rfl⟩:=hx;have hn:n<=5864062014805:=by
    have:=hw _ (by simp only [DataW.weights,Tryz.underlying24];exact List.mem_cons_self);simp only [List.length_map,List.length_range,y4A,reachBytes] at this;omega
   have hwi:∀ i,i < n->A i ≠ none->L i<=17592186044416:=fun i hi hA=>by
    obtain ⟨_,hLC,_,hZ,_⟩:=hrows i (by omega);cases hAi:A i with
    | none=>exact absurd hAi hA
    | some y =>
     have hm:(DataW.slice (lits .i64 ((Z i).take (L i))) (lits .i64 ((Z i).drop (L i))):DataW H) ∈ (List.range n).map fun r=>intRow .i64 (A r) (L r) (Z r) :=
      List.mem_map.2 ⟨i,List.mem_range.2 hi,by simp [intRow,hAi]⟩
     have:=hw (((lits (H:=H) .i64 ((Z i).take (L i))).length+(lits (H:=H) .i64 ((Z i).drop (L i))).length) * Tryz.prog.bytesOf 3) (by
      simp only [DataW.weights,Tryz.underlying24];refine List.mem_cons_of_mem _ (List.mem_append_left _ (z4c hm _ ?_));simp only [DataW.weights,Tryz.underlying30];exact List.mem_cons_self)
     simp only [lits,List.length_map,List.length_take,List.length_drop,y1B,reachBytes] at this;omega
   refine ⟨A,L,C,fun i j=>(Z i).getD j 0,⟨fun hx=>(by cases hx),hn,fun i hi=>?_,fun i hi=>?_,fun i hi j hj=>?_,⟨fun y hy h0=>?_,fun i hi y hy h0=>?_⟩,fun i hi hA=>?_,fun i hi=>(hrows i (by omega)).2.1⟩,fun i hi j hj=>?_⟩
   . by_cases hA:A i=none
     . obtain ⟨_,hLC,_,_,_,hN,_⟩:=hrows i (by omega)
       have:=hN hA;omega
     . exact hwi i hi hA
   . exact ⟨x,rfl,(hrows i (by omega)).1⟩
   . obtain ⟨_,hLC,_,_,_,hN,hc⟩:=hrows i (by omega)
     cases hAi:A i with
     | none=>have:=hN hAi;omega
     | some y=>exact ⟨y,rfl,(hc y hAi).2 j (by omega)⟩
   . cases hy
     exact World.block_lt_of_cell? W _ (hrows 0 (by omega)).1 |> fun h=>by simpa [Addr.add] using h
   . obtain ⟨_,hLC,_,_,_,_,hc⟩:=hrows i (by omega)
     exact World.block_lt_of_cell? W _ ((hc y hy).2 0 (by omega)) |> fun h=>by simpa [Addr.add] using h
   . obtain ⟨_,hLC,_,_,_,hN,_⟩:=hrows i (by omega)
     have:=hN hA;omega
   . obtain ⟨_,hLC,_,hZ,hwf,_⟩:=hrows i (by omega)
     have hlt:j < (Z i).length:=by omega
     refine bounds_i64 (hwf _ ?_)
     show (Z i).getD j 0 ∈ Z i
     rw [List.getD_eq_getElem?_getD,List.getElem?_eq_getElem hlt];exact List.getElem_mem hlt
end Go.Proofs.YtlncjgnomhpjnabGreatDoor
