import Derived.Test.YtlncjgnomhpjnabGreatDoorRows
import Derived.Test.YtlncjgnomhpjnabGreatDoorQC1
import Derived.Test.YtlncjgnomhpjnabGreatDoorQC18
import Derived.Test.YtlncjgnomhpjnabGreatDoorQC13
import Derived.Test.YtlncjgnomhpjnabGreatDoorQC0
namespace Go.Proofs.YtlncjgnomhpjnabGreatDoor
open Go Go.Lib
set_option linter.unusedVariables false
def z32:List Int:=[0,1,28,2,29,14,24,3,30,22,20,15,25,17,4,8,31,27,13,23,21,19,16,7,26,12,18,6,11,5,10,9]
def z64:List Int:=[0,1,56,2,57,49,28,3,61,58,42,50,38,29,17,4,62,47,59,36,45,43,51,22,53,39,33,30,24,18,12,5,63,55,48,27,60,41,37,16,46,35,44,21,52,32,23,11,54,26,40,15,34,20,31,10,25,14,19,9,13,8,7,6]
theorem y8q:∀ t:Fin 13,z64[285870213051353865 * 2 ^ t.val % 18446744073709551616 / 288230376151711744]?=some (t.val:Int):=by decide +kernel
theorem g64:Tryz.prog.globalNamed "math/bits.deBruijn64tab" = some 4:=by kernel_rfl
theorem y7L:(Tryz.prog.globals[4]?).map (·.type)=some 396:=by kernel_rfl
theorem y7M:Tryz.prog.cellsOf 396=64:=by kernel_rfl
theorem z6a {w:World} {g i:Nat} {v:Value} (h:w.cell? ⟨g,i,none⟩=some v):g < w.heap.size:=by
 by_cases hg:g < w.heap.size
 . exact hg
 . have hn:w.heap[g]?=none:=Array.getElem?_eq_none (by omega)
   simp [World.cell?,hn] at h
def z7K:List (List Int):=[[0,1],[0,2],[2,1],[3,2]]
theorem y7e:Tryz.prog.globalNamed "reel/frame.pairs" = some 0:=by kernel_rfl
theorem y2s:(Tryz.prog.globals[0]?).map (·.type)=some 273:=by kernel_rfl
theorem y7N:Tryz.prog.cellsOf 273=4 * 2:=by kernel_rfl
theorem y8r:Tryz.prog.cellsOf 272=2:=by kernel_rfl
theorem y0s (r c:Nat) (hr:r < 4) (hc:c < 2):∃ zs,z7K[r]?=some zs/\zs[c]?=some (pairV r c):=by
 have h:∀ r:Fin 4,∀ c:Fin 2,(z7K[r.val]?.bind fun zs=>zs[c.val]?)=some (pairV r.val c.val):=by decide
 have:=h ⟨r,hr⟩ ⟨c,hc⟩;exact Option.bind_eq_some_iff.1 this
theorem y3Y {W:World} (h:laidMetH Tryz.prog Rows.brokenRow.laid W):TabsF W/\TabsU W:=by
 have h':laidMet Tryz.prog [("math/bits.deBruijn32tab",tabData .u8 z32),("math/bits.deBruijn64tab",tabData .u8 z64),("unicode/utf8.acceptRanges",Rows.laid_unicode_utf8_acceptRanges),("reel/subframe.fixedWeights",.agg (z9T.map (tabData .i64))),("reel/frame.pairs",.agg (z7K.map (tabData .i64))),("unicode/utf8.first",Rows.laid_unicode_utf8_first)] W:=h;obtain ⟨ps,⟨g0,t0,cs0,fuel0,p0,q0,hg0,ht0,hvar0,hd0,⟨gb,tb,csb,fuelb,pb,qb,hgb,htb,hvarb,hdb,⟨g1,t1,cs1,fuel1,p1,q1,hg1,ht1,hvar1,hd1,⟨g2,t2,cs2,fuel2,p2,q2,hg2,ht2,hvar2,hd2,⟨g3,t3,cs3,fuel3,p3,q3,hg3,ht3,hvar3,hd3,_,_⟩,_⟩,_⟩,_⟩,_⟩,_⟩:=h';obtain rfl:=Option.some.inj (y7e.symm.trans hg3);obtain rfl:=Option.some.inj (y2s.symm.trans ht3);obtain rfl:=Option.some.inj (y6U.symm.trans hg2);obtain rfl:=Option.some.inj (y2c.symm.trans ht2);obtain rfl:=Option.some.inj (g64.symm.trans hgb);obtain rfl:=Option.some.inj (y7L.symm.trans htb);have hF:TabAt W 5:=by
  intro r c hr hc;obtain ⟨zs,hz1,hz2⟩:=y2b r c hr hc;have:=z3M Tryz.underlying387 Tryz.underlying331 Tryz.underlying3 y6V y8h y7u hd2 r zs hz1 c _ hc hz2;have h2:=World.var?_cell y6U hvar2 (r * 4+c);rw [Nat.mul_comm 4 r,h2]
  simpa using this
 have hZ:TzAt W 4:=by
  intro t ht;have e:=cells_of_tab Tryz.underlying396 Tryz.underlying5 cellsByte y7M hdb;have h2:=World.var?_cell g64 hvarb (285870213051353865 * 2 ^ t % 18446744073709551616 / 288230376151711744);rw [h2];have h3:=y8q ⟨t,by omega⟩;have h4:csb.toList[285870213051353865 * 2 ^ t % 18446744073709551616 / 288230376151711744]?=some (.int .u8 (t:Int)):=by
   rw [e,List.getElem?_map,h3];rfl
  simpa using h4
 have hP:z7B W:=by
  intro r c hr hc;obtain ⟨zs,hz1,hz2⟩:=y0s r c hr hc;have:=z3M Tryz.underlying273 Tryz.underlying272 Tryz.underlying3 y6V y8r y7N hd3 r zs hz1 c _ hc hz2;have h2:=World.var?_cell y7e hvar3 (r * 2+c);rw [Nat.mul_comm 2 r,h2]
  simpa using this
 exact ⟨⟨⟨hF,z6a (hF 0 0 (by omega) (by omega)),hZ,z6a (hZ 0 (by omega))⟩,hP,z6a (hP 0 0 (by omega) (by omega))⟩,⟨hF,z6a (hF 0 0 (by omega) (by omega)),hP,z6a (hP 0 0 (by omega) (by omega))⟩⟩
end Go.Proofs.YtlncjgnomhpjnabGreatDoor
