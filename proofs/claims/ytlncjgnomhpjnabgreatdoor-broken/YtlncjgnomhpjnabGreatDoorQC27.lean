import Derived.Test.YtlncjgnomhpjnabGreatDoorQC16
import Derived.Test.YtlncjgnomhpjnabGreatDoorQC14
import Derived.Test.YtlncjgnomhpjnabGreatDoorQC9
import Derived.Test.YtlncjgnomhpjnabGreatDoorQC2
import Derived.Test.YtlncjgnomhpjnabGreatDoorQC26
import Derived.BigQuiet
import Derived.Deep.QuietTactic
import Derived.Deep.RegionHeld3
import Derived.WalkMore
import Derived.Test.YtlncjgnomhpjnabGreatDoorQC0
namespace Go.Proofs.YtlncjgnomhpjnabGreatDoor
open Go.RowKit Go.Deep
set_option linter.unusedVariables false
theorem y1C:∀ (k:Nat) (l l':List UInt8),l.length=k->l'.length=k->valN l=valN l'->l=l'
 | 0,l,l',h,h',_=>by rw [List.length_eq_zero_iff.1 h,List.length_eq_zero_iff.1 h']
 | k+1,l,l',h,h',e=>by
  rcases List.eq_nil_or_concat l with hl | ⟨a,x,hl⟩
  . rw [hl] at h;simp at h
  . rcases List.eq_nil_or_concat l' with hl' | ⟨a',x',hl'⟩
    . rw [hl'] at h';simp at h'
    . subst hl hl'
      simp only [List.concat_eq_append,List.length_append,List.length_cons,List.length_nil] at h h' e ⊢;rw [z2Z,z2Z] at e;have h1:=x.toNat_lt;have h2:=x'.toNat_lt;have e1:valN a=valN a':=by omega
      have e2:x.toNat=x'.toNat:=by omega
      rw [y1C k a a' (by omega) (by omega) e1,UInt8.toNat.inj e2]
theorem z7b (T:List UInt8) (a b:Nat) (h:a<=b) (hb:b<=T.length):T.take b=T.take a ++ z0d T a b:=by
 unfold z0d;rw [← List.take_add,show a+(b - a)=b by omega]
end Go.Proofs.YtlncjgnomhpjnabGreatDoor
