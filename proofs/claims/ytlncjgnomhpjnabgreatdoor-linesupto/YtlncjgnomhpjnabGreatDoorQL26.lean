import Derived.Laws.CopyRow
import Derived.Laws.AppendOwn
import Derived.Laws.IdiomCopy
import Derived.Test.YtlncjgnomhpjnabGreatDoorQL0
namespace Go.Proofs.YtlncjgnomhpjnabGreatDoor
open Go.Value renaming int → O
open Go.IntKind renaming i64 → I
open Go
set_option linter.unusedVariables false
variable {P:Program}
theorem z2i (w:World) (dT sT ty elem:TypeId) (size g o dLen dCap:Nat) (a:Addr) (sLen sCap:Nat) (cur:Array Value) (t:TypeId) (cs:List Value)
 (hu:P.underlying dT=some (.slice elem)) (hs:(P.info? elem).map (·.size)=some size)
 (hg:w.heap[g]?=some (.cells cur t (0,0))) (hn:cs.length=Nat.min sLen dLen * size)
 (hsrc:∀ j v,cs[j]?=some v->w.cell? (a.add j)=some v) (hfit:o+cs.length<=cur.size) (h1:∀ v ∈ cs,v.oneCell'=true) :
 (Builtin.copy_ #[dT,sT] ty #[.slice (some ⟨g,o,none⟩) dLen dCap,.slice (some a) sLen sCap]).run P w =
  .ok (goInt (Nat.min sLen dLen)) (w.setRow g (cur.toList.take o ++ cs ++ cur.toList.drop (o+cs.length)).toArray):=by
 have hl:=run_loadCells_list (P:=P) w a cs hsrc;have hst:=run_storeCells_at P g o t cs 0 cur w hg (by simpa using hfit) h1;cases hq:P.info? elem with
 | none=>simp [hq] at hs
 | some i =>
  have hi:i.size=size:=by simpa [hq] using hs
  simp [Builtin.copy_,run_underlying hu,Builtin.lenOf,Builtin.firstCells,sizeOf,typeInfo,hq,hi,← hn,hl,hst]
theorem z6H (w:World) (t e ty:TypeId) (z:Value) (n:Nat) (ht:P.underlying t=some (.slice e)) (hv:∀ w,(zeroValue e).run P w=.ok z w) (h1:∀ v ∈ (Builtin.zeroCells z.cells n).toList,v.oneCell'=true) (g o c:Nat) (cur:Array Value) (hn:0 < n)
 (hg:w.heap[g]?=some (.cells cur e (0,0))) (hfit:o+(Builtin.zeroCells z.cells n).toList.length<=cur.size) :
 (Builtin.clear_ #[t] ty #[.slice (some ⟨g,o,none⟩) n c]).run P w=.ok (.tuple #[]) (w.setRow g (cur.toList.take o ++ (Builtin.zeroCells z.cells n).toList ++ cur.toList.drop (o+(Builtin.zeroCells z.cells n).toList.length)).toArray):=by
 have hst:=run_storeCells_at P g o e (Builtin.zeroCells z.cells n).toList 0 cur w hg (by simpa using hfit) h1;simp only [Nat.add_zero] at hst;obtain ⟨m,rfl⟩:∃ m,n=m+1:=⟨n - 1,zU⟩;simp [Builtin.clear_,hst,hv,run_underlying ht]
theorem z5l (w:World) (t ty e:TypeId) (i:TypeInfo) (ht:P.underlying t=some (.slice e)) (hi:P.info? e=some i) (size:Nat) (hs:i.size=size)
 (g n cap:Nat) (cur:Array Value) (hg:w.heap[g]?=some (.cells cur e (0,0)))
 (ad:Addr) (m c:Nat) (news:List Value) (hl:news.length=m * size) (hnews:∀ j v,news[j]?=some v->w.cell? (ad.add j)=some v) (h1:∀ v ∈ news,v.oneCell'=true) (hroom:n+m<=cap) (hfit:n * size+news.length<=cur.size) :
 (Builtin.append_ #[t,t] ty #[.slice (some ⟨g,0,none⟩) n cap,.slice (some ad) m c]).run P w=.ok (.slice (some ⟨g,0,none⟩) (n+m) cap) (w.setRow g (cur.toList.take (n * size) ++ news ++ cur.toList.drop (n * size+news.length)).toArray):=by
 have hld:=run_loadCells_list (P:=P) w ad news hnews;have hadd:(⟨g,0,none⟩:Addr).add (n * size)=⟨g,n * size,none⟩:=by unfold Addr.add;split <;> simp_all
 have hst:=run_storeCells_at P g (n * size) e news 0 cur w hg (by simpa using hfit) h1;simp [Builtin.append_,run_underlying ht,sizeOf,typeInfo,hi,hs,Builtin.lenOf,Builtin.firstCells,← hl,hld,hroom,hadd,hst]
theorem z4Q (w:World) (t tn ty e:TypeId) (i:TypeInfo) (z:Value) (k kn:IntKind) (ht:P.underlying t=some (.slice e)) (htn:P.underlying tn=some (.int kn)) (hi:P.info? e=some i) (hz:i.zero=some z) (size:Nat) (hs:i.size=size)
 (g q cap:Nat) (old:List Value) (hl:old.length=q * size) (hold:∀ j v,old[j]?=some v->w.cell? ⟨g,j,none⟩=some v)
 (n:Nat) (h0:0 < n) (hs0:0 < size) (hroom:cap < q+n) (h300:q+n<=600) (hby:i.bytes<=64) :
 (Builtin.append_ #[t,tn] ty #[.slice (some ⟨g,0,none⟩) q cap,.int k n]).run P w =
  .ok (.slice (some ⟨w.heap.size,0,none⟩) (q+n) (grownCap w (q+n) cap e)) (w.drew.alloc (.cells (old.toArray ++ Builtin.zeroCells z.cells n ++ Builtin.zeroCells z.cells (grownCap w (q+n) cap e - (q+n))) e)):=by
 have hn:n ≠ 0:=zU
 have hw:I.wrap (n:Int)=n:=by rw [zK];omega
 have hb:n * i.bytes<=600 * 64:=Nat.mul_le_mul zU hby;have hnc:Builtin.nextslicecap (q+n) cap<=1200:=by
  unfold Builtin.nextslicecap;split
  . omega
  . split
    . omega
    . have:∀ r c,c<=600->Builtin.growBy (q+n) r c<=1200:=by
        intro r
        induction r with
        | zero=>intro c hc;simp only [Builtin.growBy];omega
        | succ r ih =>
         intro c hc;simp only [Builtin.growBy];split
         . omega
         . by_cases h2:c+(c+768) / 4<=600
           . exact ih _ h2
           . cases r with
             | zero=>simp only [Builtin.growBy];omega
             | succ r =>
              simp only [Builtin.growBy];rw [if_pos zU];omega
      exact this 4 cap zU
 have hb2:Builtin.nextslicecap (q+n) cap * i.bytes<=1200 * 64:=Nat.mul_le_mul hnc hby;have h48':¬ (281474976710656 < Builtin.nextslicecap (q+n) cap * i.bytes):=zU
 have h48i:¬ (281474976710656 < (n:Int) * (i.bytes:Int)):=by
  rw [← Int.natCast_mul];omega
 have hneg:¬ ((n:Int) < 0):=zU
 have hns:¬ (n * size=0):=Nat.mul_ne_zero hn zU;have h63':¬ (9223372036854775807 < (q:Int)+(n:Int)):=zU
 have hrm:¬ (q+n<=cap):=zU
 have hld:=run_loadCells_list (P:=P) w.drew ⟨g,0,none⟩ old (fun j v hj=>by have:=hold j v hj;rw [show (⟨g,0,none⟩:Addr).add j=⟨g,j,none⟩ by unfold Addr.add;split <;> simp_all];exact this);simp [Builtin.append_,run_underlying ht,run_underlying htn,sizeOf,typeInfo,zeroValue,hi,hz,asInt,asIntOf,hw,hneg,hns,h63',h48',h48i,hrm,hs,Question.forced,Builtin.firstCells,← hl,hld,newRow,grownCap]
end Go.Proofs.YtlncjgnomhpjnabGreatDoor
