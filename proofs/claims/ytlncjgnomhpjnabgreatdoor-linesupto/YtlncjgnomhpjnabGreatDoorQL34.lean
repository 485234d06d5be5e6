import Derived.Test.YtlncjgnomhpjnabGreatDoorQL33
set_option maxRecDepth 100000
namespace Go.Proofs.YtlncjgnomhpjnabGreatDoor
open Go.Value renaming int → O
open Go.IntKind renaming i64 → I
open Go.Proofs.Tryz
open Go.RowKit Go.Deep
set_option linter.unusedVariables false
theorem y3c {p:Lpar} {x:Lsn} {r:Rad} {s:Lst} {b:Tab} {w:World} (h:RawIs p x r (z0i s b) w) (hr:Rel p s b) (hi:LInv p s) (k:Int) (h2:s.e2=true) :
 Calls prog 169 #[ptrV r.rb,O I k] w fun e w'=>e=.returned (.tuple #[O I 0,O I 9])/\Below w.heap.size w w':=by
 have HA:=zZ (z2u h hr hi);have lW2:(2:Nat) < 3+p.W:=zU
 have HU:Hid (∀ u,Below w.heap.size w u->u.cell? ⟨r.rb,19,none⟩=some (.slice (some ⟨r.re,0,none⟩) (3+p.W) (3+p.W))/\u.cell? ⟨r.re,2,none⟩=some (.bool true)):=fun u hu=>⟨(h.below hu).cells.cell 19,h2 ▸ (h.below hu).re.cell zU⟩
 clear h hr hi h2;unfold ptrV at *
 go_enter func169,ntmps169
 go_wp2_with (go_at_call 90;refine HA.out.mono ?_;rintro e u ⟨v,rfl,ho,hb⟩;have HB:=zZ hb;obtain ⟨y1,y2⟩:=HU.out u hb;clear HA ho hb)
 go_ret2;exact ⟨rfl,HB.out⟩
theorem y5c {p:Lpar} {x:Lsn} {r:Rad} {s:Lst} {b:Tab} {w:World} (h:RawIs p x r (z0i s b) w) (hr:Rel p s b) (hi:LInv p s) (k:Int) (h2:s.e2=false) (hk:k < 0) :
 Calls prog 169 #[ptrV r.rb,O I k] w fun e w'=>e=.returned (.tuple #[O I 0,O I 3])/\Below w.heap.size w w':=by
 have HA:=zZ (z2u h hr hi);have lW2:(2:Nat) < 3+p.W:=zU
 have k0:decide (k < 0)=true:=zL hk;have HU:Hid (∀ u,Below w.heap.size w u->u.cell? ⟨r.rb,19,none⟩=some (.slice (some ⟨r.re,0,none⟩) (3+p.W) (3+p.W))/\u.cell? ⟨r.re,2,none⟩=some (.bool false)):=fun u hu=>⟨(h.below hu).cells.cell 19,h2 ▸ (h.below hu).re.cell zU⟩
 clear h hr hi h2;unfold ptrV at *
 go_enter func169,ntmps169
 go_wp2_with (go_at_call 90;refine HA.out.mono ?_;rintro e u ⟨v,rfl,ho,hb⟩;have HB:=zZ hb;obtain ⟨y1,y2⟩:=HU.out u hb;clear HA ho hb)
 go_ret2;exact ⟨rfl,HB.out⟩
def z6r (p:Lpar) (x:Lsn) (r:Rad) (s:Lst) (b:Tab) (t:Nat) (w w':World):Prop:=∃ c,s.next p t=some c/\RawIs p x r (z0i (s.act p c) (b.step p s c)) w'/\Edit r.own w w'
theorem y9j {p:Lpar} {x:Lsn} {r:Rad} {s:Lst} {b:Tab} {w:World} (h:RawIs p x r (z0i s b) w) (hr:Rel p s b) (hi:LInv p s) (k:Nat) (hk:(k:Int)<=9223372036854775807) (h2:s.e2=false) (ha:s.able p ≠ []) (ht:z1b p s k=0) :
 Calls prog 169 #[ptrV r.rb,O I k] w fun e w'=>e=.returned (.tuple #[O I (z1b p s k:Nat),O I 0])/\z6r p x r s b (z1b p s k) w w':=by
 have i2:=h.N3;have i9:=h.W8;have hW:=h.W8;have HA:=zZ (z2u h hr hi);obtain ⟨h1,h2',h3,c,h4⟩:=z3g (k:=k) ha;have hal:(s.able p).length<=3+p.W:=by have:=List.length_filter_le (fun t=>(s.next p t).isSome) (List.range (3+p.W));rw [List.length_range] at this;exact this
 have h0:0 < (s.able p).length:=List.length_pos_iff.2 ha;have hmod:((k:Int)).tmod (((s.able p).length:Nat):Int)=((k % (s.able p).length:Nat):Int):=by rw [zG zU];exact (Int.natCast_emod k _).symm
 have HG:Hid (∀ (u:World) (v:Value),u.ownsRow w.heap.size 3 1 v (s.able p).length ((s.able p).map fun (k:Nat)=>O I (k:Int))->∃ g cap,v=.slice (some ⟨g,0,none⟩) (s.able p).length cap/\u.cell? ⟨g,k % (s.able p).length,none⟩=some (O I (z1b p s k:Nat))):=fun u v ho=>by
  obtain ⟨A,cap,rfl,hA⟩:=z0j ho;obtain ⟨g,rfl,-,hc⟩:=hA h0;exact ⟨g,cap,rfl,hc _ _ (by rw [List.getElem?_map,h2'];rfl)⟩
 have l0:(((s.able p).length:Int) == 0)=false:=by simp;omega
 have l00:¬ (s.able p).length=0:=zU
 have lW0:(0:Nat) < 3+p.W:=zU
 have lW1:(1:Nat) < 3+p.W:=zU
 have lW2:(2:Nat) < 3+p.W:=zU
 have k0:decide ((k:Int) < 0)=false:=zM zU;have HU:Hid (∀ u,Below w.heap.size w u->u.cell? ⟨r.rb,19,none⟩=some (.slice (some ⟨r.re,0,none⟩) (3+p.W) (3+p.W))/\u.cell? ⟨r.re,2,none⟩=some (.bool false)/\RawIs p x r (z0i s b) u):=fun u hu=>⟨(h.below hu).cells.cell 19,h2 ▸ (h.below hu).re.cell zU,h.below hu⟩
 rw [ht] at h4 HG ⊢;have HGV:Hid (∀ u,Below w.heap.size w u->Calls prog 171 #[ptrV r.rb] u fun e w'=>e=.returned (O I (s.given:Nat))/\∃ m,w'=u.drewN m):=fun u hu=>z1X (h.below hu) s.given (hr.cnt0 hi) hi.given
 have i1:=hi.given;obtain ⟨he0,⟨rfl,hc⟩ | ⟨rfl,hs,hN,-⟩⟩:=y6q h4
 . have HD:Hid (∀ u m,Below w.heap.size w u->z6r p x r s b 0 w ((u.drewN m).setCell ⟨r.re,0,none⟩ (.bool true))):=fun u m hu=>⟨_,h4,by rw [y6J];exact ((h.below hu).drewN m).setEn 0 true,edC ((Edit.of hu).drewN m) (by simp [Rad.own]) 0 _⟩
   have b1:((s.stopN:Int) != 0)=s.stopped:=by
    rcases (zH s.stopped).symm with hs | hs
    . rw [z1Q hs,hs];rfl
    . have:=z3h hs;rw [hs];simp;omega
   have b2:s.stopped=false->((s.given:Int) == (p.N:Int))=true:=fun hs=>by
    have:=hc.resolve_left (by rw [hs];simp);simp;omega
   clear h hr hi h2' h4 ha h2 hc;unfold ptrV at *;rcases (zH s.stopped).symm with hs | hs
   . have b3:=b2 hs
     rw [hs] at b1;clear b2 hs
     go_enter func169,ntmps169
     go_wp2_with (first
      | (go_at_call 90;refine HA.out.mono ?_;rintro e u ⟨v,rfl,ho,hb⟩;obtain ⟨g,cap,rfl,y0⟩:=HG.out u v ho;obtain ⟨y1,y2,y3⟩:=HU.out u hb;have c11:=y3.cells.cell 11;have c23:=y3.cells.cell 23;have ce0:=y3.re.cell lW0;have fe0:=y3.re.frozen 0;simp [rfC,rowV,z0i] at c11 c23;have HV:=zZ (HGV.out u hb);have HD1:=zZ (fun m=>HD.out u m hb);clear y3 hb HGV HD;clear HA ho HG HU)
      | (go_at_call 171;refine HV.out.mono ?_;rintro e u2 ⟨rfl,m1,rfl⟩;clear HV))
     go_ret2;exact ⟨rfl,HD1.out _⟩
   . rw [hs] at b1
     clear b2 hs
     go_enter func169,ntmps169
     go_wp2_with (first
      | (go_at_call 90;refine HA.out.mono ?_;rintro e u ⟨v,rfl,ho,hb⟩;obtain ⟨g,cap,rfl,y0⟩:=HG.out u v ho;obtain ⟨y1,y2,y3⟩:=HU.out u hb;have c11:=y3.cells.cell 11;have c23:=y3.cells.cell 23;have ce0:=y3.re.cell lW0;have fe0:=y3.re.frozen 0;simp [rfC,rowV,z0i] at c11 c23;have HV:=zZ (HGV.out u hb);have HD1:=zZ (fun m=>HD.out u m hb);clear y3 hb HGV HD;clear HA ho HG HU)
      | (go_at_call 171;refine HV.out.mono ?_;rintro e u2 ⟨rfl,m1,rfl⟩;clear HV))
     go_ret2;exact ⟨rfl,HD1.out _⟩
 . have HD:Hid (∀ u m,Below w.heap.size w u->z6r p x r s b 0 w ((u.drewN m).setCell ⟨r.ra,s.given,none⟩ (O I 1))):=fun u m hu=>⟨_,h4,by rw [y6K];exact ((h.below hu).drewN m).setAt s.given 1,edC ((Edit.of hu).drewN m) (by simp [Rad.own]) s.given _⟩
   have b1:((s.given:Int) == (p.N:Int))=false:=by simp;omega
   have hgN:s.given < p.N:=zU
   have hsN:=z1Q hs;clear h hr hi h2' h4 ha h2 hs hN;unfold ptrV at *
   go_enter func169,ntmps169
   go_wp2_with (first
    | (go_at_call 90;refine HA.out.mono ?_;rintro e u ⟨v,rfl,ho,hb⟩;obtain ⟨g,cap,rfl,y0⟩:=HG.out u v ho;obtain ⟨y1,y2,y3⟩:=HU.out u hb;have c11:=y3.cells.cell 11;have c23:=y3.cells.cell 23;have cg:=y3.ra.cell hgN;have fg:=y3.ra.frozen s.given;simp [rfC,rowV,z0i,hsN] at c11 c23;have HV:=zZ (HGV.out u hb);have HD1:=zZ (fun m=>HD.out u m hb);clear y3 hb HGV HD;clear HA ho HG HU)
    | (go_at_call 171;refine HV.out.mono ?_;rintro e u2 ⟨rfl,m1,rfl⟩;clear HV))
   go_ret2;exact ⟨rfl,HD1.out _⟩
theorem y9k {p:Lpar} {x:Lsn} {r:Rad} {s:Lst} {b:Tab} {w:World} (h:RawIs p x r (z0i s b) w) (hr:Rel p s b) (hi:LInv p s) (k:Nat) (hk:(k:Int)<=9223372036854775807) (h2:s.e2=false) (ha:s.able p ≠ []) (ht:z1b p s k=1) :
 Calls prog 169 #[ptrV r.rb,O I k] w fun e w'=>e=.returned (.tuple #[O I (z1b p s k:Nat),O I 0])/\z6r p x r s b (z1b p s k) w w':=by
 have i2:=h.N3;have i9:=h.W8;have hW:=h.W8;have HA:=zZ (z2u h hr hi);obtain ⟨h1,h2',h3,c,h4⟩:=z3g (k:=k) ha;have hal:(s.able p).length<=3+p.W:=by have:=List.length_filter_le (fun t=>(s.next p t).isSome) (List.range (3+p.W));rw [List.length_range] at this;exact this
 have h0:0 < (s.able p).length:=List.length_pos_iff.2 ha;have hmod:((k:Int)).tmod (((s.able p).length:Nat):Int)=((k % (s.able p).length:Nat):Int):=by rw [zG zU];exact (Int.natCast_emod k _).symm
 have HG:Hid (∀ (u:World) (v:Value),u.ownsRow w.heap.size 3 1 v (s.able p).length ((s.able p).map fun (k:Nat)=>O I (k:Int))->∃ g cap,v=.slice (some ⟨g,0,none⟩) (s.able p).length cap/\u.cell? ⟨g,k % (s.able p).length,none⟩=some (O I (z1b p s k:Nat))):=fun u v ho=>by
  obtain ⟨A,cap,rfl,hA⟩:=z0j ho;obtain ⟨g,rfl,-,hc⟩:=hA h0;exact ⟨g,cap,rfl,hc _ _ (by rw [List.getElem?_map,h2'];rfl)⟩
 have l0:(((s.able p).length:Int) == 0)=false:=by simp;omega
 have l00:¬ (s.able p).length=0:=zU
 have lW0:(0:Nat) < 3+p.W:=zU
 have lW1:(1:Nat) < 3+p.W:=zU
 have lW2:(2:Nat) < 3+p.W:=zU
 have k0:decide ((k:Int) < 0)=false:=zM zU;have HU:Hid (∀ u,Below w.heap.size w u->u.cell? ⟨r.rb,19,none⟩=some (.slice (some ⟨r.re,0,none⟩) (3+p.W) (3+p.W))/\u.cell? ⟨r.re,2,none⟩=some (.bool false)/\RawIs p x r (z0i s b) u):=fun u hu=>⟨(h.below hu).cells.cell 19,h2 ▸ (h.below hu).re.cell zU,h.below hu⟩
 rw [ht] at h4 HG ⊢;have HGV:Hid (∀ u,RawIs p x r (z0i s b) u->Calls prog 171 #[ptrV r.rb] u fun e w'=>e=.returned (O I (s.given:Nat))/\∃ m,w'=u.drewN m):=fun u hu=>z1X hu s.given (hr.cnt0 hi) hi.given
 have i1:=hi.given;have i3:=hi.lane.1;have i5:=hi.lane_len;obtain ⟨he0,rfl,hc⟩:=y6r h4
 by_cases hl:s.summed < s.given
 . have HD:Hid (∀ u m,Below w.heap.size w u->z6r p x r s b 1 w ((u.drewN m).setCell ⟨r.rb,15,none⟩ (O I ((s.summed+1:Nat):Int)))):=fun u m hu=>⟨_,h4,by rw [y5a,if_pos zU];exact ((h.below hu).drewN m).setS 15 _ rfl,edC ((Edit.of hu).drewN m) (by simp [Rad.own]) 15 _⟩
   have b1:decide ((s.summed:Int) < (s.given:Int))=true:=zL zU;have w1:I.wrap ((s.summed:Int)+1)=((s.summed+1:Nat):Int):=by rw [zK];omega
   generalize s.summed+1=sm1 at *;clear h hr hi h2' h4 ha h2 hc;unfold ptrV at *
   go_enter func169,ntmps169
   go_wp2_with (first
    | (go_at_call 90;refine HA.out.mono ?_;rintro e u ⟨v,rfl,ho,hb⟩;obtain ⟨g,cap,rfl,y0⟩:=HG.out u v ho;obtain ⟨y1,y2,y3⟩:=HU.out u hb;have c15:=y3.cells.cell 15;have f15:=y3.cells.free 15;simp [rfC,rowV,z0i] at c15;have HV:=zZ (fun u2 (e:u2.heap=u.heap)=>HGV.out u2 (y3.heap e));have HD1:=zZ (fun m=>HD.out u m hb);clear y3 hb HGV HD;clear HA ho HG HU))
   go_quiet (first | (go_at_call 171;exact Calls.quiet_of (HV.out _ rfl)))
   go_wp2;go_ret2;exact ⟨rfl,HD1.out _⟩
 . have HD:Hid (∀ u m,Below w.heap.size w u->z6r p x r s b 1 w ((u.drewN m).setCell ⟨r.re,1,none⟩ (.bool true))):=fun u m hu=>⟨_,h4,by rw [y5a,if_neg zU];exact ((h.below hu).drewN m).setEn 1 true,edC ((Edit.of hu).drewN m) (by simp [Rad.own]) 1 _⟩
   have b1:decide ((s.summed:Int) < (s.given:Int))=false:=zM zU;clear h hr hi h2' h4 ha h2 hc;unfold ptrV at *
   go_enter func169,ntmps169
   go_wp2_with (first
    | (go_at_call 90;refine HA.out.mono ?_;rintro e u ⟨v,rfl,ho,hb⟩;obtain ⟨g,cap,rfl,y0⟩:=HG.out u v ho;obtain ⟨y1,y2,y3⟩:=HU.out u hb;have c15:=y3.cells.cell 15;have c19:=y3.cells.cell 19;have ce1:=y3.re.cell lW1;have fe1:=y3.re.frozen 1;simp [rfC,rowV,z0i] at c15 c19;have HV:=zZ (fun u2 (e:u2.heap=u.heap)=>HGV.out u2 (y3.heap e));have HD1:=zZ (fun m=>HD.out u m hb);clear y3 hb HGV HD;clear HA ho HG HU))
   go_quiet (first | (go_at_call 171;exact Calls.quiet_of (HV.out _ rfl)))
   go_wp2;go_ret2;exact ⟨rfl,HD1.out _⟩
theorem y9l {p:Lpar} {x:Lsn} {r:Rad} {s:Lst} {b:Tab} {w:World} (h:RawIs p x r (z0i s b) w) (hr:Rel p s b) (hi:LInv p s) (k:Nat) (hk:(k:Int)<=9223372036854775807) (h2:s.e2=false) (ha:s.able p ≠ []) (ht:z1b p s k=2) :
 Calls prog 169 #[ptrV r.rb,O I k] w fun e w'=>e=.returned (.tuple #[O I (z1b p s k:Nat),O I 0])/\z6r p x r s b (z1b p s k) w w':=by
 have i2:=h.N3;have i9:=h.W8;have hW:=h.W8;have HA:=zZ (z2u h hr hi);obtain ⟨h1,h2',h3,c,h4⟩:=z3g (k:=k) ha;have hal:(s.able p).length<=3+p.W:=by have:=List.length_filter_le (fun t=>(s.next p t).isSome) (List.range (3+p.W));rw [List.length_range] at this;exact this
 have h0:0 < (s.able p).length:=List.length_pos_iff.2 ha;have hmod:((k:Int)).tmod (((s.able p).length:Nat):Int)=((k % (s.able p).length:Nat):Int):=by rw [zG zU];exact (Int.natCast_emod k _).symm
 have HG:Hid (∀ (u:World) (v:Value),u.ownsRow w.heap.size 3 1 v (s.able p).length ((s.able p).map fun (k:Nat)=>O I (k:Int))->∃ g cap,v=.slice (some ⟨g,0,none⟩) (s.able p).length cap/\u.cell? ⟨g,k % (s.able p).length,none⟩=some (O I (z1b p s k:Nat))):=fun u v ho=>by
  obtain ⟨A,cap,rfl,hA⟩:=z0j ho;obtain ⟨g,rfl,-,hc⟩:=hA h0;exact ⟨g,cap,rfl,hc _ _ (by rw [List.getElem?_map,h2'];rfl)⟩
 have l0:(((s.able p).length:Int) == 0)=false:=by simp;omega
 have l00:¬ (s.able p).length=0:=zU
 have lW0:(0:Nat) < 3+p.W:=zU
 have lW1:(1:Nat) < 3+p.W:=zU
 have lW2:(2:Nat) < 3+p.W:=zU
 have k0:decide ((k:Int) < 0)=false:=zM zU;have HU:Hid (∀ u,Below w.heap.size w u->u.cell? ⟨r.rb,19,none⟩=some (.slice (some ⟨r.re,0,none⟩) (3+p.W) (3+p.W))/\u.cell? ⟨r.re,2,none⟩=some (.bool false)/\RawIs p x r (z0i s b) u):=fun u hu=>⟨(h.below hu).cells.cell 19,h2 ▸ (h.below hu).re.cell zU,h.below hu⟩
 rw [ht] at h4 HG ⊢;have HWR:Hid (∀ u,Below w.heap.size w u->Calls prog 232 #[ptrV r.rb] u fun e w'=>e=.returned (.tuple #[])/\z6r p x r s b 2 w w'):=fun u hu=>by
  have h5:=h.below hu;refine (y0K h5 (by have:=hi.writesN;show s.writes<=400;omega) b rfl rfl).mono ?_;rintro e w' ⟨rfl,h6,h7⟩;refine ⟨rfl,c,h4,?_,(Edit.of hu).trans h7⟩;rw [← y2Z hi h4,← hr.next hi,← hr.oldest hi];exact h6
 clear h hr hi h2' h4 ha h2;unfold ptrV at *
 go_enter func169,ntmps169
 go_wp2_with (first
  | (go_at_call 90;refine HA.out.mono ?_;rintro e u ⟨v,rfl,ho,hb⟩;obtain ⟨g,cap,rfl,y0⟩:=HG.out u v ho;obtain ⟨y1,y2,y3⟩:=HU.out u hb;have HV:=zZ (HWR.out u hb);clear y3 hb HWR;clear HA ho HG HU)
  | (go_at_call 232;refine HV.out.mono ?_;rintro e u2 ⟨rfl,h7⟩;have H7:=zZ h7;clear HV h7))
 go_ret2;exact ⟨rfl,H7.out⟩
theorem y9m {p:Lpar} {x:Lsn} {r:Rad} {s:Lst} {b:Tab} {w:World} (h:RawIs p x r (z0i s b) w) (hr:Rel p s b) (hi:LInv p s) (k:Nat) (hk:(k:Int)<=9223372036854775807) (h2:s.e2=false) (ha:s.able p ≠ []) (j:Nat) (ht:z1b p s k=j+3) :
 Calls prog 169 #[ptrV r.rb,O I k] w fun e w'=>e=.returned (.tuple #[O I (z1b p s k:Nat),O I 0])/\z6r p x r s b (z1b p s k) w w':=by
 have i2:=h.N3;have i9:=h.W8;have hW:=h.W8;have HA:=zZ (z2u h hr hi);obtain ⟨h1,h2',h3,c,h4⟩:=z3g (k:=k) ha;have hal:(s.able p).length<=3+p.W:=by have:=List.length_filter_le (fun t=>(s.next p t).isSome) (List.range (3+p.W));rw [List.length_range] at this;exact this
 have h0:0 < (s.able p).length:=List.length_pos_iff.2 ha;have hmod:((k:Int)).tmod (((s.able p).length:Nat):Int)=((k % (s.able p).length:Nat):Int):=by rw [zG zU];exact (Int.natCast_emod k _).symm
 have HG:Hid (∀ (u:World) (v:Value),u.ownsRow w.heap.size 3 1 v (s.able p).length ((s.able p).map fun (k:Nat)=>O I (k:Int))->∃ g cap,v=.slice (some ⟨g,0,none⟩) (s.able p).length cap/\u.cell? ⟨g,k % (s.able p).length,none⟩=some (O I (z1b p s k:Nat))):=fun u v ho=>by
  obtain ⟨A,cap,rfl,hA⟩:=z0j ho;obtain ⟨g,rfl,-,hc⟩:=hA h0;exact ⟨g,cap,rfl,hc _ _ (by rw [List.getElem?_map,h2'];rfl)⟩
 have l0:(((s.able p).length:Int) == 0)=false:=by simp;omega
 have l00:¬ (s.able p).length=0:=zU
 have lW0:(0:Nat) < 3+p.W:=zU
 have lW1:(1:Nat) < 3+p.W:=zU
 have lW2:(2:Nat) < 3+p.W:=zU
 have k0:decide ((k:Int) < 0)=false:=zM zU;have HU:Hid (∀ u,Below w.heap.size w u->u.cell? ⟨r.rb,19,none⟩=some (.slice (some ⟨r.re,0,none⟩) (3+p.W) (3+p.W))/\u.cell? ⟨r.re,2,none⟩=some (.bool false)/\RawIs p x r (z0i s b) u):=fun u hu=>⟨(h.below hu).cells.cell 19,h2 ▸ (h.below hu).re.cell zU,h.below hu⟩
 rw [ht] at h4 HG h3 ⊢;have hj:j < p.W:=zU
 have HWR:Hid (∀ u,Below w.heap.size w u->Calls prog 233 #[ptrV r.rb,O I ((j+3:Nat):Int)] u fun e w'=>e=.returned (.tuple #[])/\z6r p x r s b (j+3) w w'):=fun u hu=>by
  have h5:=h.below hu;have i1:=hi.given;have i3:=hr.tot;refine (y0L h5 (j+3) (s.held j) s.jobs.head? (fun i hN=>hr.a2 i j hN hj) (fun i hN=>(hi.heldN hN).2) zU (by show b.turn<=300;omega) (fun q hq=>?_) (fun hq i hN=>?_)).mono ?_
  . obtain ⟨a0,ha0,ea0⟩:=hi.jobs
    have hm:q ∈ s.jobs:=List.mem_of_mem_head? (by rw [hq];rfl);have hqN:=(hi.inN q (Or.inl hm)).2.2;refine ⟨hqN,(hr.a1 q hqN).2 hm,fun i hi1 hc=>?_⟩;have hmi:=(hr.a1 i zU).1 hc;rw [ea0] at hq hmi;cases hn:s.given - a0 with
    | zero=>rw [hn] at hq;cases hq
    | succ n =>
     rw [hn,List.range'_succ] at hq;simp only [List.head?_cons,Option.some.injEq] at hq;have:=List.mem_range'_1.1 hmi;omega
  . intro hc
    have hm:=(hr.a1 i hN).1 hc;cases hjj:s.jobs with
    | nil=>rw [hjj] at hm;cases hm
    | cons q l=>rw [hjj] at hq;cases hq
  . rintro e w' ⟨rfl,h6,h7⟩
    refine ⟨rfl,c,h4,?_,(Edit.of hu).trans h7⟩;rw [← y3a h4];exact h6
 have t0:(((j+3:Nat):Int) == 0)=false:=by simp;omega
 have t1:(((j+3:Nat):Int) == 1)=false:=by simp;omega
 have t2:(((j+3:Nat):Int) == 2)=false:=by simp;omega
 generalize j+3=t at *;clear h hr hi h2' h4 ha h2;unfold ptrV at *
 go_enter func169,ntmps169
 go_wp2_with (first
  | (go_at_call 90;refine HA.out.mono ?_;rintro e u ⟨v,rfl,ho,hb⟩;obtain ⟨g,cap,rfl,y0⟩:=HG.out u v ho;obtain ⟨y1,y2,y3⟩:=HU.out u hb;have HV:=zZ (HWR.out u hb);clear y3 hb HWR;clear HA ho HG HU)
  | (go_at_call 233;refine HV.out.mono ?_;rintro e u2 ⟨rfl,h7⟩;have H7:=zZ h7;clear HV h7))
 go_ret2;exact ⟨rfl,H7.out⟩
theorem y5d {p:Lpar} {x:Lsn} {r:Rad} {s:Lst} {b:Tab} {w:World} (h:RawIs p x r (z0i s b) w) (hr:Rel p s b) (hi:LInv p s) (k:Nat) (hk:(k:Int)<=9223372036854775807) (h2:s.e2=false) (ha:s.able p ≠ []) :
 Calls prog 169 #[ptrV r.rb,O I k] w fun e w'=>e=.returned (.tuple #[O I (z1b p s k:Nat),O I 0])/\z6r p x r s b (z1b p s k) w w':=by
 cases ht:z1b p s k with
 | zero=>exact ht ▸ y9j h hr hi k hk h2 ha ht
 | succ n =>
  cases n with
  | zero=>exact ht ▸ y9k h hr hi k hk h2 ha ht
  | succ n =>
   cases n with
   | zero=>exact ht ▸ y9l h hr hi k hk h2 ha ht
   | succ j=>exact ht ▸ y9m h hr hi k hk h2 ha j ht
theorem LInv.two {p:Lpar} {s:Lst} (h:LInv p s) (h2:s.hd=2):s.wrote=p.N:=by
 rcases (zH s.stopped).symm with hs | hs
 . rcases (zH s.begun).symm with hb | hb
   . have:=(h.hd0 hb).1;omega
   . rcases (zH s.e2).symm with he | he
     . have:=(h.hd1 hb hs he).1;omega
     . exact (h.hd2 he hs).2.1
 . have:=h.hds hs;omega
theorem LInv.hd3 {p:Lpar} {s:Lst} (h:LInv p s):s.hd<=2:=by
 rcases (zH s.stopped).symm with hs | hs
 . rcases (zH s.begun).symm with hb | hb
   . have:=(h.hd0 hb).1;omega
   . rcases (zH s.e2).symm with he | he
     . have:=(h.hd1 hb hs he).1;omega
     . have:=(h.hd2 he hs).1;omega
 . have:=h.hds hs;omega
theorem y3d {p:Lpar} {x:Lsn} {r:Rad} {s:Lst} {b:Tab} {w:World} (h:RawIs p x r (z0i s b) w) (hi:LInv p s) (hk:KP x.d x.ch x.B x.c3 x.c4 x.S x.G) (hN:p.N=nBlk x.S x.B) :
 Calls prog 97 #[ptrV r.rb] w fun e w'=>e=.returned (.string (bs (hdT x s.hd ++ frsT x.d x.ch x.G x.S x.B s.wrote)))/\w'=w:=by
 have c8:=h.cells.cell 8;have c9:=h.cells.cell 9;have c10:=h.cells.cell 10;have c16:=h.cells.cell 16;have c21:=h.cells.cell 21;have c22:=h.cells.cell 22;simp [rfC,rowV,z0i] at c8 c9 c10 c16 c21 c22;have i1:=hi.wrote;have i2:=hi.given;have i3:=h.N3;have h3:=hi.hd3
 by_cases e2:s.hd=2
 . rw [e2,hi.two e2]
   have d1:decide (s.hd=2)=true:=zL e2;rw [d1] at c22;generalize bs (hdT x 2 ++ frsT x.d x.ch x.G x.S x.B p.N)=X at *;clear h hi;unfold ptrV at *
   go_enter func97,ntmps97
   go_wp2;go_ret;exact ⟨rfl,rfl⟩
 . have d1:decide (s.hd=2)=false:=zM e2
   rw [d1] at c22
   by_cases e0:s.hd=0
   . have d2:decide (1<=s.hd)=false:=zM zU
     rw [d2] at c21;rw [e0,hi.h0 e0];clear h hi;unfold ptrV at *
     go_enter func97,ntmps97
     go_wp2;go_ret;exact ⟨rfl,rfl⟩
   . have d2:decide (1<=s.hd)=true:=zL zU
     rw [d2] at c21;rw [show s.hd=1 by omega];have hl0:(hdT x 1).length<=700:=by
      show (z1L ..).length<=700
      rw [z1M,List.length_replicate];have:=z3L (seek:=x.c4) hk.B1 hk.S3;omega
     have HFB:=zZ (z6c x.d x.ch x.G x.S x.B hk.d12 hk.n1 hk.n4 hk.B1 hk.B32);have HLB:=zZ (fun k (hq:k < nBlk x.S x.B)=>z6b x.d x.ch x.G x.S x.B k hk.d12 hk.n1 hk.n4 hk.B1 hk.B32 hq);have HCF:Hid (∃ af capf,r.fv=.slice af p.N capf/\∀ j,j < p.N->∃ gf,af=some ⟨gf,0,none⟩/\w.cell? ⟨gf,j,none⟩=some (.string (bs (frT x.d x.ch x.G x.S x.B j)))):=by
      obtain ⟨A,cap,e,hA⟩:=z0j h.fr;refine ⟨A,cap,e,fun j hj=>?_⟩;obtain ⟨g,rfl,-,hc⟩:=hA zU;exact ⟨g,rfl,hc j _ (by simp [hj])⟩
     obtain ⟨af,capf,efv,hcf⟩:=HCF.out;rw [efv] at c8;have HC2:=zZ hcf;clear h hi HCF efv hcf hk;generalize hH:hdT x 1=H at *;have HH:=zZ hH;clear hH;unfold ptrV at *
     go_enter func97,ntmps97
     go_wp2
     go_loopw [3,4] (fun s3 s4 wr=>∃ q:Nat,q<=s.wrote/\s3=.string (bs (H ++ frsT x.d x.ch x.G x.S x.B q))/\s4=O I q/\wr=w) (fun _ s4 _=>s.wrote - (intOf s4).toNat)
     case atStart=>exact ⟨0,zJ _,by show _=Value.string (bs (H ++ []));rw [List.append_nil],rfl,rfl⟩
     case round =>
      obtain ⟨q,hq,rfl,rfl,rfl⟩:=hrel
      by_cases hlt:q < s.wrote
      . have hqN:q < p.N:=zU
        obtain ⟨gf,rfl,hcv⟩:=HC2.out q hqN;have hzf:(bs (frT x.d x.ch x.G x.S x.B q)).size=lnF x.d x.ch x.G x.S x.B q:=z0b _;have hzs:(bs (H ++ frsT x.d x.ch x.G x.S x.B q)).size=(H ++ frsT x.d x.ch x.G x.S x.B q).length:=z0b _;have hsl:(H ++ frsT x.d x.ch x.G x.S x.B q).length<=700+222 * 300:=by
         have:=HFB.out q zU;rw [zN];omega
        have hzl:=(HLB.out q zU).2;have HFS:Hid (bs (H ++ frsT x.d x.ch x.G x.S x.B (q+1))=bs (H ++ frsT x.d x.ch x.G x.S x.B q) ++ bs (frT x.d x.ch x.G x.S x.B q)):=by show bs (H ++ (frsT x.d x.ch x.G x.S x.B q ++ frT x.d x.ch x.G x.S x.B q))=_;rw [← zI,z0f]
        generalize (H ++ frsT x.d x.ch x.G x.S x.B q).length=sl at *;generalize bs (H ++ frsT x.d x.ch x.G x.S x.B q)=Y at *;generalize bs (frT x.d x.ch x.G x.S x.B q)=X at *;generalize lnF x.d x.ch x.G x.S x.B q=ln at *;go_wp2
        go_roundw
        case rel=>exact ⟨q+1,zU,by rw [HFS.out],zS,trivial⟩
        case measure=>simp [intOf];omega
      . have e:q=s.wrote:=zU
        go_wp2;go_ret;exact ⟨by rw [← e];rfl,rfl⟩
def vwC (s:Lst) (st:Int) (v:Nat->Value):Array Value:=#[O I st,O I s.given,O I s.summed,O I s.wrote,O I s.writes,O I s.jobs.length,O I s.lane.length,O I s.ready.length,v 0,v 1,v 2]
structure ViewI (s:Lst) (st:Int) (w wr:World) (g:Nat) (v:Nat->Value) (l:Nat->List Value):Prop where
 bel:Below w.heap.size w wr
 res:Bx wr w.heap.size 64 #[O I 0,O I 0,O I 0,O I 0,O I 0,O I 0,O I 0,O I 0,.slice none 0 0,.slice none 0 0,.slice none 0 0]
 blk:Bx wr g 64 (vwC s st v)
 lo:w.heap.size < g
 own:∀ i,i < 3->wr.ownsRow w.heap.size 3 1 (v i) (l i).length (l i)
 apart:∀ i j,i < 3->j < 3->i ≠ j->∀ k,(v i).ownBlock=some k->(v j).ownBlock ≠ some k
theorem ViewI.congr {s:Lst} {st:Int} {w wr:World} {g:Nat} {v:Nat->Value} {l l':Nat->List Value} (h:ViewI s st w wr g v l) (e:∀ i,i < 3->l i=l' i):ViewI s st w wr g v l' :=
 ⟨h.bel,h.res,h.blk,h.lo,fun i hi=>e i hi ▸ h.own i hi,h.apart⟩
theorem y8r {s:Lst} {st:Int} {v:Nat->Value} (i:Nat) (hi:i < 3) (y:Value):(vwC s st v).setIfInBounds (8+i) y=vwC s st (updL v i y):=by
 match i,hi with
 | 0,_=>rfl
 | 1,_=>rfl
 | 2,_=>rfl
theorem z4U {s:Lst} {st:Int} {v:Nat->Value} (i:Nat) (hi:i < 3):(vwC s st v)[8+i]?=some (v i):=by
 match i,hi with
 | 0,_=>rfl
 | 1,_=>rfl
 | 2,_=>rfl
theorem z1m {w:World} {b base size n:Nat} {v:Value} {e t:TypeId} {xs:List Value} {cs:Array Value} (h:w.ownsRow base e size v n xs) (hb:Bx w b t cs) (ht:e ≠ t):v.ownBlock ≠ some b:=by
 intro e1;rcases h.2 with ⟨rfl,-⟩ | ⟨g,cap,cur,rfl,-,h1,-⟩
 . cases e1
 . cases e1
   rw [show w.heap[g]?=_ from hb] at h1;cases h1;exact ht rfl
theorem ViewI.app {s:Lst} {st:Int} {w wr:World} {g:Nat} {v:Nat->Value} {l:Nat->List Value} (h:ViewI s st w wr g v l) (i:Nat) (hi:i < 3) (y:Int) (hl:(l i).length<=1000) :
 ∃ g' cap w',(Builtin.append_ #[30,30] 30 #[v i,.slice (some ⟨wr.heap.size,0,none⟩) 1 1]).run prog (wr.alloc (.cells #[O I y] 3))=.ok (.slice (some ⟨g',0,none⟩) ((l i).length+1) cap) w'/\w'.cell? ⟨g,8+i,none⟩=some (v i)/\w'.frozen? ⟨g,8+i,none⟩=false /\
  ViewI s st w (w'.setCell ⟨g,8+i,none⟩ (.slice (some ⟨g',0,none⟩) ((l i).length+1) cap)) g (updL v i (.slice (some ⟨g',0,none⟩) ((l i).length+1) cap)) (updL l i (l i ++ [O I y])):=by
 have hsz:=h.bel.size;obtain ⟨g',cap,w',hr,ho,he,hat⟩:=z6p wr w.heap.size _ _ _ y 30 (h.own i hi) hsz hl;have hg:∀ j,j < 3->(v j).ownBlock ≠ some g:=fun j hj=>z1m (h.own j hj) h.blk zR
 have hR:∀ j,j < 3->(v j).ownBlock ≠ some w.heap.size:=fun j hj=>z1m (h.own j hj) h.res zR
 have hblk:=h.blk.edit he (hg i hi);have hres:=h.res.edit he (hR i hi);have hgg:g' ≠ g:=fun e=>z1m ho hblk zR (by rw [e];rfl)
 have hgR:w.heap.size ≠ g:=by have:=h.lo;omega
 refine ⟨g',cap,w',hr,by rw [hblk.cell (8+i),z4U i hi],hblk.free _,⟨?_,hres.past hgR _ _,?_,h.lo,fun j hj=>?_,fun j k hj hk hjk q hq=>?_⟩⟩
 . exact ((Edit.of (S:=fun _=>False) (h.bel.trans (he.below (B:=w.heap.size) hsz fun q hq=>z0t (h.own i hi) q hq))).cell (Or.inr (Nat.le_of_lt h.lo)) _ _).below zY (fun _ hf=>hf.elim)
 . rw [← y8r i hi]
   exact hblk.set _ _
 . have e1:Edit (·=g) w' (w'.setCell ⟨g,8+i,none⟩ (.slice (some ⟨g',0,none⟩) ((l i).length+1) cap)):=(Edit.refl (·=g) w').cell (Or.inl rfl) _ _
   by_cases e:j=i
   . subst e
     rw [z0z,z0z,zN];exact z0m ho e1 fun q hq hc=>hgg (by rw [← hc];injection hq)
   . rw [z0s _ _ e,z0s _ _ e]
     exact z0m (z0m (h.own j hj) he fun q hq hc=>h.apart i j hi hj (Ne.symm e) q hc hq) e1 fun q hq hc=>hg j hj (by rw [hq,hc])
 . have lt:∀ m,m < 3->∀ q,(v m).ownBlock=some q->q < wr.heap.size:=fun m hm q hq=>z1n (h.own m hm) q hq
   by_cases ej:j=i
   . subst ej
     rw [z0z] at hq;rw [z0s _ _ (Ne.symm hjk)];have:g'=q:=by injection hq
     subst this;rcases hat with h1 | h1
     . exact h.apart j k hj hk hjk _ h1
     . intro hc;have:=lt k hk _ hc;omega
   . rw [z0s _ _ ej] at hq
     by_cases ek:k=i
     . subst ek
       rw [z0z];intro hc;have:g'=q:=by injection hc
       subst this;rcases hat with h1 | h1
       . exact h.apart j k hj hk hjk _ hq h1
       . have:=lt j hj _ hq;omega
     . rw [z0s _ _ ek]
       exact h.apart j k hj hk hjk q hq
end Go.Proofs.YtlncjgnomhpjnabGreatDoor
