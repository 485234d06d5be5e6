import Derived.Test.YtlncjgnomhpjnabGreatDoorQL34
set_option maxRecDepth 100000
namespace Go.Proofs.YtlncjgnomhpjnabGreatDoor
open Go.Value renaming int → O
open Go.IntKind renaming i64 → I
open Go.Proofs.Tryz
open Go.RowKit Go.Deep
set_option linter.unusedVariables false
theorem z7m:∀ {a b:List Nat},a.Pairwise (· < ·)->b.Pairwise (· < ·)->(∀ k,k ∈ a↔k ∈ b)->a=b
 | [],[],_,_,_=>rfl
 | [],y :: _,_,_,h=>absurd ((h y).2 (List.mem_cons_self ..)) (by simp)
 | x :: _,[],_,_,h=>absurd ((h x).1 (List.mem_cons_self ..)) (by simp)
 | x :: a,y :: b,ha,hb,h=>by
  have h1:=List.pairwise_cons.1 ha;have h2:=List.pairwise_cons.1 hb;have e:x=y:=by
   rcases List.mem_cons.1 ((h x).1 (List.mem_cons_self ..)) with e | e
   . exact e
   . rcases List.mem_cons.1 ((h y).2 (List.mem_cons_self ..)) with e2 | e2
     . exact e2.symm
     . have:=h1.1 y e2
       have:=h2.1 x e;omega
  subst e;rw [z7m h1.2 h2.2 fun k=>?_];have:=h k;simp only [List.mem_cons] at this;constructor
  . intro hk
    rcases this.1 (Or.inr hk) with e | e
    . subst e;exact absurd (h1.1 k hk) (Nat.lt_irrefl _)
    . exact e
  . intro hk
    rcases this.2 (Or.inr hk) with e | e
    . subst e;exact absurd (h2.1 k hk) (Nat.lt_irrefl _)
    . exact e
theorem Rel.shelfQ {p:Lpar} {s:Lst} {b:Tab} (h:Rel p s b) (hi:LInv p s):((List.range p.N).filter fun i=>b.pl i == 4)=s.shelf:=by
 refine z7m (List.Pairwise.filter _ List.pairwise_lt_range) hi.sorted fun k=>?_
 rw [List.mem_filter,List.mem_range,beq_iff_eq];constructor
 . rintro ⟨h1,h2⟩;exact (h.a4 k h1).1 h2
 . intro h1
   have:=(hi.inN k (by simp [h1])).2.2;exact ⟨this,(h.a4 k this).2 h1⟩
theorem z9w (s:Lst) (j:Nat):z4w s j=holV (s.held j):=by unfold z4w holV;cases s.held j <;> rfl
def vwL (s:Lst) (b:Tab) (q n:Nat) (i:Nat):List Value:=if i=0 then (List.range (q - 3)).map fun j=>O I (z4w s j) else if i=1 then ((List.range n).filter fun i=>b.pl i == 4).map fun (k:Nat)=>O I (k:Int) else ((List.range q).filter s.endedT).map fun (k:Nat)=>O I (k:Int)
theorem z9x (s:Lst) (b:Tab) (q n i:Nat) (hq:q<=300) (hn:n<=300):(vwL s b q n i).length<=1000:=by
 unfold vwL;split
 . simp;omega
 . split
   . have:=List.length_filter_le (fun i=>b.pl i == 4) (List.range n);simp at this ⊢;omega
   . have:=List.length_filter_le s.endedT (List.range q);simp at this ⊢;omega
theorem z6s (tmps:Array Value) (R:Nat) (cs:Array Value) (W:World) (h:Bx W R 64 cs) (hs:cs.size=11) (h2:tmps.getD 2 undef=.pointer (some ⟨R,0,none⟩)) :
 (results Tryz.f94 tmps).run prog W=.ok (.agg cs) W:=by
 have hl:=run_loadVar_row (P:=prog) W R 64 64 cs (0,0) _ h underlying64 rfl (by rw [hs];exact z0K);rw [Array.getD_eq_getD_getElem?] at h2;simp [results,results94,asAddr,h2,hl]
theorem ViewI.lane {s:Lst} {w wr:World} {g:Nat} {n:Int} (hb:Below w.heap.size w wr) (hr:Bx wr w.heap.size 64 #[O I 0,O I 0,O I 0,O I 0,O I 0,O I 0,O I 0,O I 0,.slice none 0 0,.slice none 0 0,.slice none 0 0]) (h:Bx wr g 64 #[O I 0,O I s.given,O I s.summed,O I s.wrote,O I s.writes,O I s.jobs.length,O I 0,O I s.ready.length,.slice none 0 0,.slice none 0 0,.slice none 0 0]) (hg:w.heap.size < g) (hn:n=s.lane.length) (b:Tab):ViewI s 0 w (wr.setCell ⟨g,6,none⟩ (O I n)) g (fun _=>.slice none 0 0) (vwL s b 0 0):=by
 subst hn;refine ⟨((Edit.of (S:=fun _=>False) hb).cell (Or.inr (Nat.le_of_lt hg)) _ _).below zY (fun _ hf=>hf.elim),hr.past zU _ _,h.set 6 _,hg,fun i hi=>?_,fun i j _ _ _ k hk=>by cases hk⟩
 match i,hi with
 | 0,_=>exact ⟨rfl,Or.inl ⟨rfl,rfl⟩⟩
 | 1,_=>exact ⟨rfl,Or.inl ⟨rfl,rfl⟩⟩
 | 2,_=>exact ⟨rfl,Or.inl ⟨rfl,rfl⟩⟩
theorem ViewI.st {s:Lst} {st:Int} {w wr:World} {g:Nat} {v:Nat->Value} {l:Nat->List Value} (h:ViewI s st w wr g v l) (y:Int):ViewI s y w (wr.setCell ⟨g,0,none⟩ (O I y)) g v l:=by
 have hl:=h.lo;have e1:Edit (·=g) wr (wr.setCell ⟨g,0,none⟩ (O I y)):=(Edit.refl (·=g) wr).cell (Or.inl rfl) _ _;exact ⟨((Edit.of (S:=fun _=>False) h.bel).cell (Or.inr (Nat.le_of_lt h.lo)) _ _).below zY (fun _ hf=>hf.elim),h.res.past zU _ _,h.blk.set 0 _,h.lo,fun i hi=>z0m (h.own i hi) e1 fun q hq hc=>z1m (h.own i hi) h.blk zR (hc ▸ hq),h.apart⟩
theorem ViewI.fin {p:Lpar} {s:Lst} {b:Tab} {st:Int} {w wr:World} {g:Nat} {v:Nat->Value} (h:ViewI s st w wr g v (vwL s b (3+p.W) p.N)) (hr:Rel p s b) (hi:LInv p s) (hst:st=lstN s):∃ A1 k1 A2 k2 A3 k3,Bx wr g 64 (z0X s (.slice A1 p.W k1) (.slice A2 s.shelf.length k2) (.slice A3 (s.ended p).length k3))/\Bx wr w.heap.size 64 #[O I 0,O I 0,O I 0,O I 0,O I 0,O I 0,O I 0,O I 0,.slice none 0 0,.slice none 0 0,.slice none 0 0]/\Seen p s w.heap.size (.slice A1 p.W k1) (.slice A2 s.shelf.length k2) (.slice A3 (s.ended p).length k3) (wr.setRow w.heap.size (z0X s (.slice A1 p.W k1) (.slice A2 s.shelf.length k2) (.slice A3 (s.ended p).length k3)))/\Below w.heap.size w (wr.setRow w.heap.size (z0X s (.slice A1 p.W k1) (.slice A2 s.shelf.length k2) (.slice A3 (s.ended p).length k3))):=by
 subst hst;have o0:wr.ownsRow w.heap.size 3 1 (v 0) p.W ((List.range p.W).map fun j=>O I (z4w s j)):=by
  have:=h.own 0 zU
  simpa [vwL,show 3+p.W - 3=p.W by omega] using this
 have o1:wr.ownsRow w.heap.size 3 1 (v 1) s.shelf.length (s.shelf.map fun (k:Nat)=>O I (k:Int)):=by
  have:=h.own 1 zU;simp only [vwL,hr.shelfQ hi] at this
  simpa using this
 have o2:wr.ownsRow w.heap.size 3 1 (v 2) (s.ended p).length ((s.ended p).map fun (k:Nat)=>O I (k:Int)):=by
  have:=h.own 2 zU
  simpa [vwL,Lst.ended] using this
 have hb:=h.blk;have eR:∀ cs,Edit (·=w.heap.size) wr (wr.setRow w.heap.size cs):=fun cs=>⟨rfl,rfl,rfl,by simp,fun k hk hS=>setRow_other _ _ _ _ hS⟩
 have n0:=z1m o0 h.res zR;have n1:=z1m o1 h.res zR;have n2:=z1m o2 h.res zR;obtain ⟨A1,k1,e0,-⟩:=z0j o0;obtain ⟨A2,k2,e1,-⟩:=z0j o1;obtain ⟨A3,k3,e2,-⟩:=z0j o2;unfold vwC at hb;rw [e0,e1,e2] at hb;rw [e0] at o0 n0;rw [e1] at o1 n1;rw [e2] at o2 n2;exact ⟨A1,k1,A2,k2,A3,k3,hb,h.res,⟨z0m o0 (eR _) fun q hq hc=>n0 (hc ▸ hq),z0m o1 (eR _) fun q hq hc=>n1 (hc ▸ hq),z0m o2 (eR _) fun q hq hc=>n2 (hc ▸ hq)⟩,((Edit.of (S:=fun _=>False) h.bel).row (g:=w.heap.size) zY _).below zY (fun _ hf=>hf.elim)⟩
set_option linter.unusedSimpArgs false in
set_option maxHeartbeats 2000000 in
theorem y5e {p:Lpar} {x:Lsn} {r:Rad} {s:Lst} {b:Tab} {w:World} (h:RawIs p x r (z0i s b) w) (hr:Rel p s b) (hi:LInv p s) :
 Calls prog 94 #[ptrV r.rb] w fun e w'=>∃ v1 v2 v3,e=.returned (.agg (z0X s v1 v2 v3))/\Seen p s w.heap.size v1 v2 v3 w'/\Below w.heap.size w w':=by
 obtain ⟨W0,hW0⟩:∃ W0,W0=(w.alloc (.cells #[O I 0,O I 0,O I 0,O I 0,O I 0,O I 0,O I 0,O I 0,.slice none 0 0,.slice none 0 0,.slice none 0 0] 64)):=⟨_,rfl⟩;have b0:Below w.heap.size w W0:=hW0 ▸ zX.alloc zY _;have hz0:w.heap.size < W0.heap.size:=by rw [hW0];simp
 have hr0:Bx W0 w.heap.size 64 #[O I 0,O I 0,O I 0,O I 0,O I 0,O I 0,O I 0,O I 0,.slice none 0 0,.slice none 0 0,.slice none 0 0]:=hW0 ▸ Bx.new w #[O I 0,O I 0,O I 0,O I 0,O I 0,O I 0,O I 0,O I 0,.slice none 0 0,.slice none 0 0,.slice none 0 0] 64;have lift:∀ u,Below W0.heap.size W0 u->Below w.heap.size w u:=fun u hu=>b0.trans (hu.mono b0.size)
 have HL:=zZ lift;have HG:Hid (∀ u,Below W0.heap.size W0 u->Calls prog 171 #[ptrV r.rb] u fun e w'=>e=.returned (O I (s.given:Nat))/\∃ m,w'=u.drewN m):=fun u hu=>z1X (h.below (lift u hu)) s.given (hr.cnt0 hi) hi.given
 have HJ:Hid (∀ u,Below W0.heap.size W0 u->Calls prog 172 #[ptrV r.rb,O I 1] u fun e w'=>e=.returned (O I (s.jobs.length:Nat))/\w'=u):=fun u hu=>by
  have:=z1e (h.below (lift u hu)) 1;rw [show cntN (z0i s b).pl 1 p.N=s.jobs.length from hr.cnt1 hi] at this;exact this
 have HQ:Hid (∀ u,Below W0.heap.size W0 u->Calls prog 172 #[ptrV r.rb,O I 3] u fun e w'=>e=.returned (O I (s.ready.length:Nat))/\w'=u):=fun u hu=>by
  have:=z1e (h.below (lift u hu)) 3;rw [show cntN (z0i s b).pl 3 p.N=s.ready.length from hr.cnt3 hi] at this;exact this
 have HS:Hid (∀ u,Below W0.heap.size W0 u->u.cell? ⟨r.rb,15,none⟩=some (O I s.summed)/\u.cell? ⟨r.rb,16,none⟩=some (O I s.wrote)/\u.cell? ⟨r.rb,17,none⟩=some (O I s.writes)):=fun u hu=>let y:=h.below (lift u hu);⟨y.cells.cell 15,y.cells.cell 16,y.cells.cell 17⟩
 have HFIN:Hid (∀ u g,Below W0.heap.size W0 u->Bx u g 64 #[O I 0,O I 0,O I 0,O I 0,O I 0,O I 0,O I 0,O I 0,.slice none 0 0,.slice none 0 0,.slice none 0 0]->w.heap.size < g->W0.heap.size<=g->Below W0.heap.size W0 (u.setRow g #[O I 0,O I s.given,O I s.summed,O I s.wrote,O I s.writes,O I s.jobs.length,O I 0,O I s.ready.length,.slice none 0 0,.slice none 0 0,.slice none 0 0])/\w.heap.size < g/\Bx (u.setRow g #[O I 0,O I s.given,O I s.summed,O I s.wrote,O I s.writes,O I s.jobs.length,O I 0,O I s.ready.length,.slice none 0 0,.slice none 0 0,.slice none 0 0]) w.heap.size 64 #[O I 0,O I 0,O I 0,O I 0,O I 0,O I 0,O I 0,O I 0,.slice none 0 0,.slice none 0 0,.slice none 0 0]/\Bx (u.setRow g #[O I 0,O I s.given,O I s.summed,O I s.wrote,O I s.writes,O I s.jobs.length,O I 0,O I s.ready.length,.slice none 0 0,.slice none 0 0,.slice none 0 0]) g 64 #[O I 0,O I s.given,O I s.summed,O I s.wrote,O I s.writes,O I s.jobs.length,O I 0,O I s.ready.length,.slice none 0 0,.slice none 0 0,.slice none 0 0]):=fun u g hu hx hg hg0=>⟨((Edit.of (S:=fun _=>False) hu).row hg0 _).below zY (fun _ hf=>hf.elim),hg,(hr0.below hu).other zU _,hx.row _⟩
 have i1:=hi.given;have i2:=h.N3;have i3:=hi.lane.1;have i4:=hi.lane_len;have HLN:Hid (I.wrap ((s.given:Int) - (s.summed:Int))=s.lane.length):=by show _=_;rw [zK];omega
 have HZ:=zZ (And.intro hz0 hr0);have HRW:=zZ h;have HB0:Hid (Below W0.heap.size W0 W0.drew):=z0W zX 1;clear h lift b0 hz0 hr0;unfold ptrV at *
 go_enter func94,ntmps94
 go_wp2_with fail;rw [← hW0];clear hW0
 go_cut [3] (fun s3 wx=>∃ g:Nat,s3=.pointer (some ⟨g,0,none⟩)/\Hid (Below W0.heap.size W0 wx/\w.heap.size < g/\Bx wx w.heap.size 64 #[O I 0,O I 0,O I 0,O I 0,O I 0,O I 0,O I 0,O I 0,.slice none 0 0,.slice none 0 0,.slice none 0 0]/\Bx wx g 64 #[O I 0,O I s.given,O I s.summed,O I s.wrote,O I s.writes,O I s.jobs.length,O I 0,O I s.ready.length,.slice none 0 0,.slice none 0 0,.slice none 0 0]))
 case first =>
  refine wp_region_held_drew (S:=fun w'=>w'.cell? ⟨r.rb,15,none⟩=some (O I s.summed)/\w'.cell? ⟨r.rb,16,none⟩=some (O I s.wrote)/\w'.cell? ⟨r.rb,17,none⟩=some (O I s.writes)) zT (HS.out _ HB0.out) (fun _=>?_);refine tq 0 ?_
  refine tq 2 ?_;refine tq 3 ?_;refine tq 4 ?_;refine tq 5 ?_;refine tq 6 ?_;refine tq 7 ?_;refine tq 8 ?_;refine tq 9 ?_;refine tq 10 ?_;refine tq 11 ?_;refine tq 12 ?_;refine tq 13 ?_;refine tq 14 ?_;refine tq 16 ?_
  refine wpAnyH_ready (rs:=[1,19]) zT (by simp) ?_;refine AllReadyH.cons rfl (fun K hK=>?_) (AllReadyH.cons rfl (fun K hK=>?_) (AllReadyH.nil))
  . go_simp
    go_at_call 171
    refine (HG.out _ HB0.out).mono ?_;rintro e u2 ⟨rfl,m2,hu2⟩;have hv2:Below (W0.drew).heap.size (W0.drew) u2:=hu2 ▸ z0W zX m2;have HB2:=zZ (HB0.out.trans (hv2.mono HB0.out.size));clear hv2 hu2;go_wp2_with fail;refine zV hK (HS.out _ HB2.out) (fun _=>?_);clear hK K
    refine wpAnyH_ready (rs:=[15,19]) zT (by simp) ?_;refine AllReadyH.cons rfl (fun K hK=>?_) (AllReadyH.cons rfl (fun K hK=>?_) (AllReadyH.nil))
    . go_simp
      go_at_call 172
      refine (HJ.out _ HB2.out).mono ?_;rintro e u8 ⟨rfl,hu8⟩;subst u8;go_wp2_with fail;refine zV hK (HS.out _ HB2.out) (fun _=>?_);clear hK K
      refine wpAnyH_ready (rs:=[17,19]) zT (by simp) ?_;refine AllReadyH.cons rfl (fun K hK=>?_) (AllReadyH.cons rfl (fun K hK=>?_) (AllReadyH.nil))
      . go_simp
        go_at_call 172
        refine (HQ.out _ HB2.out).mono ?_;rintro e u26 ⟨rfl,hu26⟩;subst u26;go_wp2_with fail;refine zV hK (HS.out _ HB2.out) (fun _=>?_);clear hK K
        refine tq 18 ?_
        refine zQ 19 (fun K hK=>?_)
        go_simp
        have HB79:=zZ (HB2.out.alloc HB2.out.size (.cells #[O I 0,O I 0,O I 0,O I 0,O I 0,O I 0,O I 0,O I 0,.slice none 0 0,.slice none 0 0,.slice none 0 0] 64));have HX79:=zZ (Bx.new (u2) #[O I 0,O I 0,O I 0,O I 0,O I 0,O I 0,O I 0,O I 0,.slice none 0 0,.slice none 0 0,.slice none 0 0] 64);go_wp2_with fail;refine zV hK (HS.out _ HB79.out) (fun _=>?_);clear hK K
        refine zQ 20 (fun K hK=>?_);refine z1p rfl _ _ 64 rfl ((u2).heap.size) 64 _ #[O I 0,O I s.given,O I s.summed,O I s.wrote,O I s.writes,O I s.jobs.length,O I 0,O I s.ready.length,.slice none 0 0,.slice none 0 0,.slice none 0 0] rfl rfl HX79.out z0K rfl rfl ?_;have HE79:=zZ (HFIN.out _ _ HB79.out HX79.out (zP HZ.out.1 HB2.out.size) HB2.out.size);go_wp2_with fail;refine zV hK (HS.out _ HE79.out.1) (fun _=>?_);clear hK K
        refine wpAnyH_done zT ?_ _;go_wp2
        go_meet
        case rel=>exact ⟨_,rfl,HE79.out⟩
      . go_simp
        have HB25:=zZ (HB2.out.alloc HB2.out.size (.cells #[O I 0,O I 0,O I 0,O I 0,O I 0,O I 0,O I 0,O I 0,.slice none 0 0,.slice none 0 0,.slice none 0 0] 64));have HX25:=zZ (Bx.new (u2) #[O I 0,O I 0,O I 0,O I 0,O I 0,O I 0,O I 0,O I 0,.slice none 0 0,.slice none 0 0,.slice none 0 0] 64);go_wp2_with fail;refine zV hK (HS.out _ HB25.out) (fun _=>?_);clear hK K
        refine zQ 17 (fun K hK=>?_)
        go_simp
        go_at_call 172
        refine (HQ.out _ HB25.out).mono ?_;rintro e u77 ⟨rfl,hu77⟩;subst u77;go_wp2_with fail;refine zV hK (HS.out _ HB25.out) (fun _=>?_);clear hK K
        refine tq 18 ?_
        refine zQ 20 (fun K hK=>?_);refine z1p rfl _ _ 64 rfl ((u2).heap.size) 64 _ #[O I 0,O I s.given,O I s.summed,O I s.wrote,O I s.writes,O I s.jobs.length,O I 0,O I s.ready.length,.slice none 0 0,.slice none 0 0,.slice none 0 0] rfl rfl HX25.out z0K rfl rfl ?_;have HE77:=zZ (HFIN.out _ _ HB25.out HX25.out (zP HZ.out.1 HB2.out.size) HB2.out.size);go_wp2_with fail;refine zV hK (HS.out _ HE77.out.1) (fun _=>?_);clear hK K
        refine wpAnyH_done zT ?_ _;go_wp2
        go_meet
        case rel=>exact ⟨_,rfl,HE77.out⟩
    . go_simp
      have HB7:=zZ (HB2.out.alloc HB2.out.size (.cells #[O I 0,O I 0,O I 0,O I 0,O I 0,O I 0,O I 0,O I 0,.slice none 0 0,.slice none 0 0,.slice none 0 0] 64));have HX7:=zZ (Bx.new (u2) #[O I 0,O I 0,O I 0,O I 0,O I 0,O I 0,O I 0,O I 0,.slice none 0 0,.slice none 0 0,.slice none 0 0] 64);go_wp2_with fail;refine zV hK (HS.out _ HB7.out) (fun _=>?_);clear hK K
      refine zQ 15 (fun K hK=>?_)
      go_simp
      go_at_call 172
      refine (HJ.out _ HB7.out).mono ?_;rintro e u23 ⟨rfl,hu23⟩;subst u23;go_wp2_with fail;refine zV hK (HS.out _ HB7.out) (fun _=>?_);clear hK K
      refine zQ 17 (fun K hK=>?_)
      go_simp
      go_at_call 172
      refine (HQ.out _ HB7.out).mono ?_;rintro e u71 ⟨rfl,hu71⟩;subst u71;go_wp2_with fail;refine zV hK (HS.out _ HB7.out) (fun _=>?_);clear hK K
      refine tq 18 ?_
      refine zQ 20 (fun K hK=>?_);refine z1p rfl _ _ 64 rfl ((u2).heap.size) 64 _ #[O I 0,O I s.given,O I s.summed,O I s.wrote,O I s.writes,O I s.jobs.length,O I 0,O I s.ready.length,.slice none 0 0,.slice none 0 0,.slice none 0 0] rfl rfl HX7.out z0K rfl rfl ?_;have HE71:=zZ (HFIN.out _ _ HB7.out HX7.out (zP HZ.out.1 HB2.out.size) HB2.out.size);go_wp2_with fail;refine zV hK (HS.out _ HE71.out.1) (fun _=>?_);clear hK K
      refine wpAnyH_done zT ?_ _;go_wp2
      go_meet
      case rel=>exact ⟨_,rfl,HE71.out⟩
  . go_simp
    have HB1:=zZ (HB0.out.alloc HB0.out.size (.cells #[O I 0,O I 0,O I 0,O I 0,O I 0,O I 0,O I 0,O I 0,.slice none 0 0,.slice none 0 0,.slice none 0 0] 64));have HX1:=zZ (Bx.new (W0.drew) #[O I 0,O I 0,O I 0,O I 0,O I 0,O I 0,O I 0,O I 0,.slice none 0 0,.slice none 0 0,.slice none 0 0] 64);go_wp2_with fail;refine zV hK (HS.out _ HB1.out) (fun _=>?_);clear hK K
    refine zQ 1 (fun K hK=>?_)
    go_simp
    go_at_call 171
    refine (HG.out _ HB1.out).mono ?_;rintro e u5 ⟨rfl,m5,hu5⟩;have hv5:Below ((W0.drew).alloc (.cells #[O I 0,O I 0,O I 0,O I 0,O I 0,O I 0,O I 0,O I 0,.slice none 0 0,.slice none 0 0,.slice none 0 0] 64)).heap.size ((W0.drew).alloc (.cells #[O I 0,O I 0,O I 0,O I 0,O I 0,O I 0,O I 0,O I 0,.slice none 0 0,.slice none 0 0,.slice none 0 0] 64)) u5:=hu5 ▸ z0W zX m5;have HB5:=zZ (HB1.out.trans (hv5.mono HB1.out.size));have HX5:=zZ (HX1.out.below hv5);clear hv5 hu5;go_wp2_with fail;refine zV hK (HS.out _ HB5.out) (fun _=>?_);clear hK K
    refine zQ 15 (fun K hK=>?_)
    go_simp
    go_at_call 172
    refine (HJ.out _ HB5.out).mono ?_;rintro e u17 ⟨rfl,hu17⟩;subst u17;go_wp2_with fail;refine zV hK (HS.out _ HB5.out) (fun _=>?_);clear hK K
    refine zQ 17 (fun K hK=>?_)
    go_simp
    go_at_call 172
    refine (HQ.out _ HB5.out).mono ?_;rintro e u53 ⟨rfl,hu53⟩;subst u53;go_wp2_with fail;refine zV hK (HS.out _ HB5.out) (fun _=>?_);clear hK K
    refine tq 18 ?_
    refine zQ 20 (fun K hK=>?_);refine z1p rfl _ _ 64 rfl ((W0.drew).heap.size) 64 _ #[O I 0,O I s.given,O I s.summed,O I s.wrote,O I s.writes,O I s.jobs.length,O I 0,O I s.ready.length,.slice none 0 0,.slice none 0 0,.slice none 0 0] rfl rfl HX5.out z0K rfl rfl ?_;have HE53:=zZ (HFIN.out _ _ HB5.out HX5.out (zP HZ.out.1 HB0.out.size) HB0.out.size);go_wp2_with fail;refine zV hK (HS.out _ HE53.out.1) (fun _=>?_);clear hK K
    refine wpAnyH_done zT ?_ _;go_wp2
    go_meet
    case rel=>exact ⟨_,rfl,HE53.out⟩
 case rest =>
  obtain ⟨g,rfl,HC⟩:=hcut;have g1:=HC.out.2.2.2.cell 1;have g2:=HC.out.2.2.2.cell 2;have g6:=HC.out.2.2.2.cell 6;have f6:=HC.out.2.2.2.free 6;simp at g1 g2 g6;have HV:=zZ (ViewI.lane (n:=((s.given - s.summed:Nat):Int)) (HL.out _ HC.out.1) HC.out.2.2.1 HC.out.2.2.2 HC.out.2.1 (by rw [i4]) b);have w6:I.wrap ((s.given:Int) - (s.summed:Int))=((s.given - s.summed:Nat):Int):=by rw [zK];omega
  have hW8:=HRW.out.W8;clear HG HJ HQ HS HFIN HB0 HC HLN HZ;go_wp2;clear g1 g2 g6 f6 w6
  go_loopw [4,5] (fun s4 _ wr=>∃ q:Nat,q<=3+p.W/\s4=O I q/\∃ v,Hid (ViewI s 0 w wr g v (vwL s b q 0))) (fun s4 _ _=>3+p.W - (intOf s4).toNat)
  case atStart=>exact ⟨0,zJ _,rfl,_,HV⟩
  case round =>
   obtain ⟨q,hq,rfl,v,HV⟩:=hrel
   by_cases hlt:q < 3+p.W
   . have hil:(q:Int) < 3+(p.W:Int):=zU
     by_cases h3:3<=q
     . rcases (zH (s.endedT q)).symm with hen | hen
       . have hR0:=HRW.out.below HV.out.bel
         have c19:=hR0.cells.cell 19;simp [rfC,rowV] at c19;have ce:=hR0.re.cell hlt;simp only [z0i] at ce;have HH:=zZ (z3N hR0 q (s.held (q - 3)) (fun i hN=>by have:=hr.a2 i (q - 3) hN zU;rw [show q - 3+3=q by omega] at this;exact this) (fun i hN=>(hi.heldN hN).2));have c8:wr.cell? ⟨g,8,none⟩=some (v 0):=(HV.out.blk.cell 8).trans (z4U 0 zU);obtain ⟨g1,k1,w1,r1,x1,y1,hV1⟩:=HV.out.app 0 zU (holV (s.held (q - 3))) (z9x s b q 0 0 zU zU);have HR1:=zZ r1;generalize hz1:w1.setCell ⟨g,8+0,none⟩ (.slice (some ⟨g1,0,none⟩) ((vwL s b q 0 0).length+1) k1)=z1 at *;simp only [Nat.add_zero] at hz1 x1 y1;have hR1:=HRW.out.below hV1.bel;have d19:=hR1.cells.cell 19;simp [rfC,rowV] at d19;have de:=hR1.re.cell hlt;simp only [z0i] at de;have HN:=zZ (hV1.congr (l':=vwL s b (q+1) 0) fun i hi3=>by
          match i,hi3 with
          | 0,_ =>
           have e:q+1 - 3=q - 3+1:=zU
           simp [updL,vwL,e,List.range_succ,z9w]
          | 1,_=>simp [updL,vwL]
          | 2,_=>simp [updL,vwL,List.range_succ,hen])
         rw [hen] at ce de;clear hR0 r1 hV1 hR1 HV hen;have t3:decide ((3:Int)<=(q:Int))=true:=zL zU;generalize holV (s.held (q - 3))=hv at *
         go_wp2_with (first
          | (go_at_call 173;refine HH.out.mono ?_;rintro e u ⟨rfl,hu⟩;subst u;clear HH)
          | (at_builtin;refine Lib.wpList_append_run _ rfl _ _ _ _ rfl _ _ rfl rfl _ _ HR1.out ?_;clear HR1))
         go_roundw
         case rel=>exact ⟨q+1,zU,zS,_,HN⟩
         case measure=>simp [intOf];omega
       . have hR0:=HRW.out.below HV.out.bel
         have c19:=hR0.cells.cell 19;simp [rfC,rowV] at c19;have ce:=hR0.re.cell hlt;simp only [z0i] at ce;have HH:=zZ (z3N hR0 q (s.held (q - 3)) (fun i hN=>by have:=hr.a2 i (q - 3) hN zU;rw [show q - 3+3=q by omega] at this;exact this) (fun i hN=>(hi.heldN hN).2));have c8:wr.cell? ⟨g,8,none⟩=some (v 0):=(HV.out.blk.cell 8).trans (z4U 0 zU);obtain ⟨g1,k1,w1,r1,x1,y1,hV1⟩:=HV.out.app 0 zU (holV (s.held (q - 3))) (z9x s b q 0 0 zU zU);have HR1:=zZ r1;generalize hz1:w1.setCell ⟨g,8+0,none⟩ (.slice (some ⟨g1,0,none⟩) ((vwL s b q 0 0).length+1) k1)=z1 at *;simp only [Nat.add_zero] at hz1 x1 y1;have hR1:=HRW.out.below hV1.bel;have d19:=hR1.cells.cell 19;simp [rfC,rowV] at d19;have de:=hR1.re.cell hlt;simp only [z0i] at de;have c10:z1.cell? ⟨g,10,none⟩=some (v 2):=(hV1.blk.cell 10).trans (z4U 2 zU);obtain ⟨g2,k2,w2,r2,x2,y2,hV2⟩:=hV1.app 2 zU (q:Int) (by rw [z0s _ _ zU];exact z9x s b q 0 2 zU zU);simp only [z0s (f:=v) _ (show (2:Nat) ≠ 0 by omega),z0s (f:=vwL s b q 0) _ (show (2:Nat) ≠ 0 by omega)] at r2 x2 hV2;have HR2:=zZ r2;generalize hz2:w2.setCell ⟨g,8+2,none⟩ (.slice (some ⟨g2,0,none⟩) ((vwL s b q 0 2).length+1) k2)=z2 at *;simp only [show 8+2=10 from rfl] at hz2 x2 y2;have HN:=zZ (hV2.congr (l':=vwL s b (q+1) 0) fun i hi3=>by
          match i,hi3 with
          | 0,_ =>
           have e:q+1 - 3=q - 3+1:=zU
           simp [updL,vwL,e,List.range_succ,z9w]
          | 1,_=>simp [updL,vwL]
          | 2,_=>simp [updL,vwL,List.range_succ,hen])
         rw [hen] at ce de;clear hR0 r1 r2 hV1 hV2 hR1 HV hen;have t3:decide ((3:Int)<=(q:Int))=true:=zL zU;generalize holV (s.held (q - 3))=hv at *
         go_wp2_with (first
          | (go_at_call 173;refine HH.out.mono ?_;rintro e u ⟨rfl,hu⟩;subst u;clear HH)
          | (at_builtin;refine Lib.wpList_append_run _ rfl _ _ _ _ rfl _ _ rfl rfl _ _ HR1.out ?_;clear HR1)
          | (at_builtin;refine Lib.wpList_append_run _ rfl _ _ _ _ rfl _ _ rfl rfl _ _ HR2.out ?_;clear HR2))
         go_roundw
         case rel=>exact ⟨q+1,zU,zS,_,HN⟩
         case measure=>simp [intOf];omega
     . rcases (zH (s.endedT q)).symm with hen | hen
       . have hR0:=HRW.out.below HV.out.bel
         have c19:=hR0.cells.cell 19;simp [rfC,rowV] at c19;have ce:=hR0.re.cell hlt;simp only [z0i] at ce;have HN:=zZ (HV.out.congr (l':=vwL s b (q+1) 0) fun i hi3=>by
          match i,hi3 with
          | 0,_ =>
           have e:q+1 - 3=q - 3:=zU
           simp [updL,vwL,e]
          | 1,_=>simp [updL,vwL]
          | 2,_=>simp [updL,vwL,List.range_succ,hen])
         rw [hen] at ce;clear hR0 HV hen;have t3:decide ((3:Int)<=(q:Int))=false:=zM zU;go_wp2
         go_roundw
         case rel=>exact ⟨q+1,zU,zS,_,HN⟩
         case measure=>simp [intOf];omega
       . have hR0:=HRW.out.below HV.out.bel
         have c19:=hR0.cells.cell 19;simp [rfC,rowV] at c19;have ce:=hR0.re.cell hlt;simp only [z0i] at ce;have c10:wr.cell? ⟨g,10,none⟩=some (v 2):=(HV.out.blk.cell 10).trans (z4U 2 zU);obtain ⟨g2,k2,w2,r2,x2,y2,hV2⟩:=HV.out.app 2 zU (q:Int) (by exact z9x s b q 0 2 zU zU);have HR2:=zZ r2;generalize hz2:w2.setCell ⟨g,8+2,none⟩ (.slice (some ⟨g2,0,none⟩) ((vwL s b q 0 2).length+1) k2)=z2 at *;simp only [show 8+2=10 from rfl] at hz2 x2 y2;have HN:=zZ (hV2.congr (l':=vwL s b (q+1) 0) fun i hi3=>by
          match i,hi3 with
          | 0,_ =>
           have e:q+1 - 3=q - 3:=zU
           simp [updL,vwL,e]
          | 1,_=>simp [updL,vwL]
          | 2,_=>simp [updL,vwL,List.range_succ,hen])
         rw [hen] at ce;clear hR0 r2 hV2 HV hen;have t3:decide ((3:Int)<=(q:Int))=false:=zM zU
         go_wp2_with (first
          | (at_builtin;refine Lib.wpList_append_run _ rfl _ _ _ _ rfl _ _ rfl rfl _ _ HR2.out ?_;clear HR2))
         go_roundw
         case rel=>exact ⟨q+1,zU,zS,_,HN⟩
         case measure=>simp [intOf];omega
   . have e:q=3+p.W:=zU
     have hil:¬ ((q:Int) < 3+(p.W:Int)):=zU
     have hR0:=HRW.out.below HV.out.bel;have c19:=hR0.cells.cell 19;simp [rfC,rowV] at c19;rw [e] at HV;clear hR0 e;go_wp2;clear c19
     go_loopw [6] (fun s6 wr=>∃ n:Nat,n<=p.N/\s6=O I n/\∃ v,Hid (ViewI s 0 w wr g v (vwL s b (3+p.W) n))) (fun s6 _=>p.N - (intOf s6).toNat)
     case atStart=>exact ⟨0,zJ _,rfl,_,HV⟩
     case round =>
      clear HV;obtain ⟨n,hn,rfl,v,HV⟩:=hrel;have hR0:=HRW.out.below HV.out.bel;have c11:=hR0.cells.cell 11;simp [rfC,rowV] at c11
      by_cases hlt2:n < p.N
      . have ca:=hR0.ra.cell hlt2
        simp only [z0i] at ca
        by_cases h4:b.pl n=4
        . have e4:(((b.pl n:Nat):Int) == 4)=true:=by simp;omega
          have c9:wr.cell? ⟨g,9,none⟩=some (v 1):=(HV.out.blk.cell 9).trans (z4U 1 zU);obtain ⟨g1,k1,w1,r1,x1,y1,hV1⟩:=HV.out.app 1 zU (n:Int) (z9x s b (3+p.W) n 1 zU zU);have HR1:=zZ r1;generalize hz1:w1.setCell ⟨g,8+1,none⟩ (.slice (some ⟨g1,0,none⟩) ((vwL s b (3+p.W) n 1).length+1) k1)=z1 at *;simp only [show 8+1=9 from rfl] at hz1 x1 y1;have HN:=zZ (hV1.congr (l':=vwL s b (3+p.W) (n+1)) fun i hi3=>by
           match i,hi3 with
           | 0,_=>simp [updL,vwL]
           | 1,_=>simp [updL,vwL,List.range_succ,h4]
           | 2,_=>simp [updL,vwL])
          clear hR0 r1 hV1 HV h4
          go_wp2_with (at_builtin;refine Lib.wpList_append_run _ rfl _ _ _ _ rfl _ _ rfl rfl _ _ HR1.out ?_;clear HR1)
          go_roundw
          case rel=>exact ⟨n+1,zU,zS,_,HN⟩
          case measure=>simp [intOf];omega
        . have e4:(((b.pl n:Nat):Int) == 4)=false:=by simp;omega
          have HN:=zZ (HV.out.congr (l':=vwL s b (3+p.W) (n+1)) fun i hi3=>by
           match i,hi3 with
           | 0,_=>simp [vwL]
           | 1,_=>simp [vwL,List.range_succ,h4]
           | 2,_=>simp [vwL])
          clear hR0 HV h4;go_wp2
          go_roundw
          case rel=>exact ⟨n+1,zU,zS,_,HN⟩
          case measure=>simp [intOf];omega
      . have e:n=p.N:=zU
        subst e;have d19:=hR0.cells.cell 19;have d23:=hR0.cells.cell 23;have ce2:wr.cell? ⟨r.re,2,none⟩=some (.bool s.e2):=hR0.re.cell zU;have lW2:(2:Nat) < 3+p.W:=zU
        simp [rfC,rowV,z0i] at d19 d23;have g0:=HV.out.blk.cell 0;have f0:=HV.out.blk.free 0;simp [vwC] at g0;rcases (zH s.e2).symm with h2 | h2
        . rw [h2] at ce2
          obtain ⟨A1,k1,A2,k2,A3,k3,z1,z2,z3⟩:=HV.out.fin hr hi (by simp [lstN,h2]);have HB:=zZ z1;have HX:=zZ z2;have HS:=zZ z3;clear z1 z2 z3 hR0 HV HRW hr hi;unfold z0X at *
          go_wp2_with (first
           | (refine z0h rfl _ 64 rfl g 64 _ (0,0) _ rfl HB.out underlying64 rfl z0K ?_)
           | (refine z0a rfl _ _ 64 rfl w.heap.size 64 _ _ rfl rfl HX.out z0K rfl rfl ?_))
          exact bodyPost_ret (z6s _ w.heap.size _ _ (HX.out.row _) rfl rfl) rfl ⟨_,_,_,rfl,HS.out⟩
        . rw [h2] at ce2
          have hV1:=HV.out.st 1;generalize hz1:wr.setCell ⟨g,0,none⟩ (O I 1)=z1 at *;have b23:=(HRW.out.below hV1.bel).cells.cell 23;simp [rfC,z0i] at b23;rcases (zH s.stopped).symm with hs | hs
          . rw [z1Q hs] at b23
            obtain ⟨A1,k1,A2,k2,A3,k3,q1,q2,q3⟩:=hV1.fin hr hi (by simp [lstN,h2,hs]);have HB:=zZ q1;have HX:=zZ q2;have HS:=zZ q3;clear q1 q2 q3 hV1 hR0 HV HRW hr hi;unfold z0X at *
            go_wp2_with (first
             | (refine z0h rfl _ 64 rfl g 64 _ (0,0) _ rfl HB.out underlying64 rfl z0K ?_)
             | (refine z0a rfl _ _ 64 rfl w.heap.size 64 _ _ rfl rfl HX.out z0K rfl rfl ?_))
            exact bodyPost_ret (z6s _ w.heap.size _ _ (HX.out.row _) rfl rfl) rfl ⟨_,_,_,rfl,HS.out⟩
          . have b0:((s.stopN:Int) != 0)=true:=by have:=z3h hs;simp;omega
            have hV2:=hV1.st s.stopN;have h0:=hV1.blk.cell 0;have h00:=hV1.blk.free 0;simp [vwC] at h0;generalize hz2:z1.setCell ⟨g,0,none⟩ (O I s.stopN)=z2 at *;obtain ⟨A1,k1,A2,k2,A3,k3,q1,q2,q3⟩:=hV2.fin hr hi (by simp [lstN,h2,hs,Lst.stopN];split <;> rfl);have HB:=zZ q1;have HX:=zZ q2;have HS:=zZ q3;clear q1 q2 q3 hV1 hV2 hs hR0 HV HRW hr hi;unfold z0X at *
            go_wp2_with (first
             | (refine z0h rfl _ 64 rfl g 64 _ (0,0) _ rfl HB.out underlying64 rfl z0K ?_)
             | (refine z0a rfl _ _ 64 rfl w.heap.size 64 _ _ rfl rfl HX.out z0K rfl rfl ?_))
            exact bodyPost_ret (z6s _ w.heap.size _ _ (HX.out.row _) rfl rfl) rfl ⟨_,_,_,rfl,HS.out⟩
end Go.Proofs.YtlncjgnomhpjnabGreatDoor
