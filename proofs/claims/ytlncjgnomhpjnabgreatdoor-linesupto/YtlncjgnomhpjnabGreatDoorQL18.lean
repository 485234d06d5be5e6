import Derived.Test.YtlncjgnomhpjnabGreatDoorQL12
namespace Go.Proofs.YtlncjgnomhpjnabGreatDoor
open Go.Value renaming int → O
open Go.IntKind renaming i64 → I
open Go.Proofs.Tryz
open Go.RowKit Go.Deep
set_option linter.unusedVariables false
theorem y2E (B b:Nat) (p:Value) (w:World) (hbk:w.heap[b]?=some (.cells #[p,.slice none 0 0] 278 (0,0))) :
 Calls prog 201 #[.pointer (some ⟨b,0,none⟩)] w fun e w'=>e=.returned (.string ⟨#[]⟩)/\Below B w w':=by
 have c1:w.drew.cell? ⟨b,1,none⟩=some (.slice none 0 0):=by
  have:w.drew.heap[b]?=some (.cells #[p,.slice none 0 0] 278 (0,0)):=hbk;rw [Lib.cell_of_heap this];rfl
 have hSD:(Builtin.unsafeSliceData_ #[33] 322 #[.slice none 0 0]).run prog w.drew=.ok (.pointer none) w.drew:=Lib.run_unsafeSliceData_nil _ _ _ _ _;have hUS:(Builtin.unsafeString_ #[322,3] 9 #[.pointer none,O I 0]).run prog w.drew=.ok (.string ⟨#[]⟩) w.drew:=Lib.run_unsafeString_none _ _ _ _ _;clear hbk
 go_enter func201,ntmps201
 go_wp2
 go_region
 all_goals (go_wp2;go_ret;exact ⟨rfl,Below.drew (Below.refl B w)⟩)
def Bld (w:World) (B b:Nat) (T:List UInt8):Prop :=
 Lib.IsBuilderF 278 5 B b (Lib.byteCells T) w/\(T=[]->w.heap[b]?=some (.cells #[.pointer none,.slice none 0 0] 278 (0,0)))
theorem Bld.lt {w:World} {B b:Nat} {T:List UInt8} (h:Bld w B b T):b < w.heap.size:=h.1.elim (fun h=>h.lt) (fun h=>h.lt)
theorem Bld.new (w:World):Bld (w.alloc (.cells #[.pointer none,.slice none 0 0] 278)) w.heap.size w.heap.size []:=⟨z5V w,fun _=>blk_alloc_new _ _⟩
theorem Bld.below {w w':World} {B b:Nat} {T:List UInt8} (h:Bld w B b T) (hb:Below w.heap.size w w'):Bld w' B b T :=
 ⟨z2Z h.1 hb,fun e=>(hb.block b h.lt).trans (h.2 e)⟩
theorem y2F (B b:Nat) (T:List UInt8) (w:World) (h:Bld w B b T) :
 Calls prog 201 #[.pointer (some ⟨b,0,none⟩)] w fun e w'=>e=.returned (.string (bs T))/\Below B w w':=by
 by_cases h0:T=[]
 . have hn:=h.2 h0
   subst h0;exact y2E B b _ w hn
 . exact z4D _ B b T w h.1 h0
set_option maxHeartbeats 2000000 in
set_option maxRecDepth 100000 in
theorem z5k (T:TypeId) (hT:Lies T) (B b:Nat) (xs:List Value) (s:ByteArray) (w:World) (h:Lib.IsBuilderF T 5 B b xs w) (hs:0 < s.size) (hlen:xs.length+s.size<=140737488355328) (hBw:B<=w.heap.size) :
 Calls prog 200 #[.pointer (some ⟨b,0,none⟩),.string s] w fun e w'=>e=.returned (.tuple #[O I s.size,.nilIface])/\(Lib.BuilderAtF T 5 B b (.pointer (some ⟨b,0,none⟩)) (xs ++ Lib.strCells s) w'/\Below B w w'/\Lib.OthersKept 5 (some b) w w'):=by
 obtain ⟨i0,hi,hz0,hz1,hz2⟩:=info_parts z1s;have HH:=zZ h;clear h
 go_enter func200,ntmps200
 go_wp2_with (go_at_call 251;refine (z2W T hT B b xs _ HH.out).mono ?_)
 rintro e w1 ⟨rfl,h1,hb1,hk1⟩;obtain ⟨hB,v,hbk,hown,hne⟩:=h1;have c0:w1.cell? ⟨b,0,none⟩=some (.pointer (some ⟨b,0,none⟩)):=by rw [Lib.cell_of_heap hbk];rfl
 have c1:w1.cell? ⟨b,1,none⟩=some v:=by rw [Lib.cell_of_heap hbk];rfl
 go_wp2_with (at_builtin;refine Lib.wpList_append_own_stringF _ rfl _ _ 33 9 rfl B 5 i0 underlying33 underlying9 hi hz0 hz1 hz2 _ _ _ rfl hown s rfl ?c3 ?c4 ?c5 ?_)
 case c3=>unfold maxLen;omega
 case c4=>omega
 case c5=>have:=hb1.size;omega
 intro v' w2 hown' hgrow _;have hlt:b < w1.heap.size:=(Array.getElem?_eq_some_iff.1 hbk).1;have hb2:w2.heap[b]?=some (.cells #[.pointer (some ⟨b,0,none⟩),v] T (0,0)):=by
  rw [hgrow.block b hlt (fun e=>hne e.symm)];exact hbk
 have d0:w2.cell? ⟨b,0,none⟩=some (.pointer (some ⟨b,0,none⟩)):=by rw [Lib.cell_of_heap hb2];rfl
 have d1:w2.cell? ⟨b,1,none⟩=some v:=by rw [Lib.cell_of_heap hb2];rfl
 have f1:w2.frozen? ⟨b,1,none⟩=false:=Lib.frozen_of_heap hb2 1;obtain ⟨g,cap,rfl⟩:∃ g cap,v'=.slice (some ⟨g,0,none⟩) (xs.length+s.size) cap:=by
  rcases hown'.2 with ⟨_,h0⟩ | ⟨g,cap,cur,fz,hv,_⟩
  . omega
  . exact ⟨g,cap,hv⟩
 go_wp2;go_ret2;refine ⟨rfl,?_,?_,(hk1.grown hgrow (Lib.ownsRowF_kind hown)).setCell ⟨b,1,none⟩ rfl _⟩
 . exact Lib.BuilderAtF.put (T:=T) (e:=5) hB hb2 (bs':=xs ++ Lib.strCells s) (by rw [zN,Lib.strCells_length];exact hown') hT.2
 . exact ((hb1.grown hgrow (by have:=hb1.size;omega) (fun k hk=>(hown.lt k hk).1))).setCell (p:=⟨b,1,none⟩) hB _
theorem y4C (B b:Nat) (T U:List UInt8) (w:World) (h:Bld w B b T) (hU:U ≠ []) (hlen:T.length+U.length<=1000000) (hB:B<=w.heap.size) :
 Calls prog 200 #[.pointer (some ⟨b,0,none⟩),.string (bs U)] w fun e w'=>e=.returned (.tuple #[O I (bs U).size,.nilIface])/\Bld w' B b (T ++ U)/\Below B w w'/\Lib.OthersKept 5 (some b) w w':=by
 have hU0:0 < U.length:=List.length_pos_iff.2 hU;refine (z5k _ z4Z B b _ (bs U) w h.1 (by rw [z0b];exact hU0) (by rw [Lib.byteCells_length,z0b];omega) hB).mono ?_;rintro e w' ⟨he,hbl,hb,hok⟩;refine ⟨he,⟨.inr (by rw [← z8U,← y1w U];exact hbl),fun e=>?_⟩,hb,hok⟩;exact absurd (List.append_eq_nil_iff.1 e).2 hU
end Go.Proofs.YtlncjgnomhpjnabGreatDoor
