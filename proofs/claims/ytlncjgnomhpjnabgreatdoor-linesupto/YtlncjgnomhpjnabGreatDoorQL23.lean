import Derived.Test.YtlncjgnomhpjnabGreatDoorQL22
import Derived.Deep.AppendLies
import Derived.Deep.RegionLaw
namespace Go.Proofs.YtlncjgnomhpjnabGreatDoor
open Go.Proofs.Tryz
open Go.RowKit Go.Deep
set_option linter.unusedVariables false
theorem z8g:(prog.info? 39).map (·.size)=some 6:=zT
structure KP (d n B c3 c4 S:Nat) (F:Nat->Nat->Int):Prop where
 d4:4<=d
 d12:d<=12
 n1:1<=n
 n4:n<=4
 B1:1<=B
 B32:B<=32
 c3b:c3 < 65536
 c4b:c4 < 256
 S3:S<=300
 fit:∀ i,i < n->∀ j,j < S->z0A d (F i j)=true
theorem KP.blk {d n B c3 c4 S:Nat} {F:Nat->Nat->Int} (h:KP d n B c3 c4 S F) {k:Nat} (hk:k < nBlk S B):∀ i,i < n->∀ j,j < blkN S B k->z0A d (blkF F B k i j)=true:=fun i hi j hj=>by
 have:=z3u h.B1 hk;exact h.fit i hi (k * B+j) zU
theorem KP.nb {d n B c3 c4 S:Nat} {F:Nat->Nat->Int} (h:KP d n B c3 c4 S F):nBlk S B<=300:=zO (z1K h.B1) h.S3
end Go.Proofs.YtlncjgnomhpjnabGreatDoor
