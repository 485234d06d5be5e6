import Derived.Test.YtlncjgnomhpjnabGreatDoorQL39
import Derived.Test.YtlncjgnomhpjnabGreatDoorQL40
set_option maxRecDepth 100000
namespace Go.Proofs.YtlncjgnomhpjnabGreatDoor
open Go.RowKit Go.Deep
set_option linter.unusedVariables false
theorem y1N {ch d B c3 c4 c5 c6 c7 S:Nat} {G:Nat->Nat->Int} (h:CfgK ch d B c3 c4 c5 c6 c7) (hk:KP d ch B c3 c4 S G):z6I ch d B c3 c4 c5 c6 c7 ch (fun _=>S) G:=by
 have ha:=h.ch1;have hb:=h.ch4;have hc:=hk.S3;have b1:=h.d4;have b2:=h.d12;have b3:=h.B1;have b4:=h.B32;have b5:=h.c3b;have b6:=h.c4b;have b7:=h.c51;have b8:=h.c58;have b9:=h.c61;have b10:=h.c616;have b11:=h.c71;have b12:=h.c78;refine ⟨?_,rfl,?_,fun i hi=>⟨rfl,fun j hj=>?_⟩⟩
 . simp only [z2r,Bool.and_eq_true,z0J]
   omega
 . show z0x (S:Int) 0 300=true
   rw [z0J];omega
 . rw [Int.toNat_natCast];exact hk.fit i hi j hj
structure Made (p:Lpar) (x:Lsn) (base l:Nat) (w:World) (a:Lad) (F:Nat->Prop):Prop where
 line:RLine p a x F l Lst.init w
 far:∀ k,F k->base<=k
 base:base<=l
end Go.Proofs.YtlncjgnomhpjnabGreatDoor
