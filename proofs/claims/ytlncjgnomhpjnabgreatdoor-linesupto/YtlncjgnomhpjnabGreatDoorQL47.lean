import Derived.Test.YtlncjgnomhpjnabGreatDoorQL35
import Derived.Test.YtlncjgnomhpjnabGreatDoorQL42
import Derived.Test.YtlncjgnomhpjnabGreatDoorQL46
set_option maxRecDepth 100000
namespace Go.Proofs.YtlncjgnomhpjnabGreatDoor
open Go.Value renaming int → O
open Go.IntKind renaming i64 → I
open Go.Proofs.Tryz
open Go.RowKit Go.Deep
set_option linter.unusedVariables false
theorem y6Q:(prog.info? 4).map (fun i=>(i.zero,i.size,i.bytes))=some (some (.bool false),1,1):=zT
def nwC (ch d B c3 c4 c5 c6 c7:Nat) (fail:Int) (fv sv tv av bv cv ev:Value):Array Value :=
 #[O I ch,O I d,O I B,O I c3,O I c4,O I c5,O I c6,O I c7,fv,sv,tv,av,bv,cv,O I 0,O I 0,O I 0,O I 0,O I fail,ev,.bool false,.bool false,.bool false,O I 0]
structure NwW (u v8 v9 va vb vc vd ve vf vg:World) (lb N W:Nat) (tv:Value):Prop where
 h8:u.setCell ⟨lb,10,none⟩ tv=v8
 h9:v8.alloc (.cells (madeCells #[O I 0] N) 3)=v9
 ha:v9.setCell ⟨lb,11,none⟩ (.slice (some ⟨v8.heap.size,0,none⟩) N N)=va
 hb:va.alloc (.cells (madeCells #[O I 0] N) 3)=vb
 hc:vb.setCell ⟨lb,12,none⟩ (.slice (some ⟨va.heap.size,0,none⟩) N N)=vc
 hd:vc.alloc (.cells (madeCells #[O I 0] N) 3)=vd
 he:vd.setCell ⟨lb,13,none⟩ (.slice (some ⟨vc.heap.size,0,none⟩) N N)=ve
 hf:ve.alloc (.cells (madeCells #[.bool false] (3+W)) 4)=vf
 hg:vf.setCell ⟨lb,19,none⟩ (.slice (some ⟨ve.heap.size,0,none⟩) (3+W) (3+W))=vg
theorem nwW (u:World) (lb N W:Nat) (tv:Value):∃ v8 v9 va vb vc vd ve vf vg,NwW u v8 v9 va vb vc vd ve vf vg lb N W tv:=⟨_,_,_,_,_,_,_,_,_,rfl,rfl,rfl,rfl,rfl,rfl,rfl,rfl,rfl⟩
theorem szC (w:World) (a:Addr) (v:Value):(w.setCell a v).heap.size=w.heap.size:=by simp
theorem szA (w:World) (o:Obj):(w.alloc o).heap.size=w.heap.size+1:=by simp
structure NwF (v8 v9 va vb vc vd ve vf:World) (lb:Nat) (fv:Value):Prop where
 a8:v8.cell? ⟨lb,8,none⟩=some fv
 aa:va.cell? ⟨lb,8,none⟩=some fv
 ac:vc.cell? ⟨lb,8,none⟩=some fv
 o9:v9.cell? ⟨lb,11,none⟩=some (.slice none 0 0)
 f9:v9.frozen? ⟨lb,11,none⟩=false
 ob:vb.cell? ⟨lb,12,none⟩=some (.slice none 0 0)
 fb:vb.frozen? ⟨lb,12,none⟩=false
 od:vd.cell? ⟨lb,13,none⟩=some (.slice none 0 0)
 fd:vd.frozen? ⟨lb,13,none⟩=false
 of:vf.cell? ⟨lb,19,none⟩=some (.slice none 0 0)
 ff:vf.frozen? ⟨lb,19,none⟩=false
theorem NwW.facts {ch d B c3 c4 c5 c6 c7 N W lb:Nat} {fail:Int} {fv sv tv tv0:Value} {u v8 v9 va vb vc vd ve vf vg:World} (h:NwW u v8 v9 va vb vc vd ve vf vg lb N W tv) (hL:Bx u lb 219 (nwC ch d B c3 c4 c5 c6 c7 fail fv sv tv0 (.slice none 0 0) (.slice none 0 0) (.slice none 0 0) (.slice none 0 0))) :
 NwF v8 v9 va vb vc vd ve vf lb fv/\Bx vg lb 219 (nwC ch d B c3 c4 c5 c6 c7 fail fv sv tv (.slice (some ⟨v8.heap.size,0,none⟩) N N) (.slice (some ⟨va.heap.size,0,none⟩) N N) (.slice (some ⟨vc.heap.size,0,none⟩) N N) (.slice (some ⟨ve.heap.size,0,none⟩) (3+W) (3+W))):=by
 have b8:Bx v8 lb 219 (nwC ch d B c3 c4 c5 c6 c7 fail fv sv tv (.slice none 0 0) (.slice none 0 0) (.slice none 0 0) (.slice none 0 0)):=h.h8 ▸ hL.set 10 tv;have b9:=b8.alloc (.cells (madeCells #[O I 0] N) 3);rw [h.h9] at b9;have ba:Bx va lb 219 (nwC ch d B c3 c4 c5 c6 c7 fail fv sv tv (.slice (some ⟨v8.heap.size,0,none⟩) N N) (.slice none 0 0) (.slice none 0 0) (.slice none 0 0)):=h.ha ▸ b9.set 11 _;have bb:=ba.alloc (.cells (madeCells #[O I 0] N) 3);rw [h.hb] at bb;have bc:Bx vc lb 219 (nwC ch d B c3 c4 c5 c6 c7 fail fv sv tv (.slice (some ⟨v8.heap.size,0,none⟩) N N) (.slice (some ⟨va.heap.size,0,none⟩) N N) (.slice none 0 0) (.slice none 0 0)):=h.hc ▸ bb.set 12 _;have bd:=bc.alloc (.cells (madeCells #[O I 0] N) 3);rw [h.hd] at bd;have be:Bx ve lb 219 (nwC ch d B c3 c4 c5 c6 c7 fail fv sv tv (.slice (some ⟨v8.heap.size,0,none⟩) N N) (.slice (some ⟨va.heap.size,0,none⟩) N N) (.slice (some ⟨vc.heap.size,0,none⟩) N N) (.slice none 0 0)):=h.he ▸ bd.set 13 _;have bf:=be.alloc (.cells (madeCells #[.bool false] (3+W)) 4);rw [h.hf] at bf;exact ⟨⟨b8.cell 8,ba.cell 8,bc.cell 8,b9.cell 11,b9.free 11,bb.cell 12,bb.free 12,bd.cell 13,bd.free 13,bf.cell 19,bf.free 19⟩,h.hg ▸ bf.set 19 _⟩
theorem NwW.edit {N W lb:Nat} {tv:Value} {u v8 v9 va vb vc vd ve vf vg:World} (h:NwW u v8 v9 va vb vc vd ve vf vg lb N W tv):Edit (·=lb) u vg/\Edit (·=lb) u ve:=by
 have e8:Edit (·=lb) u v8:=h.h8 ▸ (Edit.refl (·=lb) u).cell (Or.inl rfl) 10 tv;have e9:Edit (·=lb) u v9:=h.h9 ▸ e8.alloc _;have ea:Edit (·=lb) u va:=h.ha ▸ e9.cell (Or.inl rfl) 11 _;have eb:Edit (·=lb) u vb:=h.hb ▸ ea.alloc _;have ec:Edit (·=lb) u vc:=h.hc ▸ eb.cell (Or.inl rfl) 12 _;have ed:Edit (·=lb) u vd:=h.hd ▸ ec.alloc _;have ee:Edit (·=lb) u ve:=h.he ▸ ed.cell (Or.inl rfl) 13 _;have ef:Edit (·=lb) u vf:=h.hf ▸ ee.alloc _;exact ⟨h.hg ▸ ef.cell (Or.inl rfl) 19 _,ee⟩
theorem NwW.rows {N W lb:Nat} {tv:Value} {u v8 v9 va vb vc vd ve vf vg:World} (h:NwW u v8 v9 va vb vc vd ve vf vg lb N W tv) (hl:lb < u.heap.size) :
 vg.rowIs v8.heap.size 3 N (fun _=>O I 0)/\vg.rowIs va.heap.size 3 N (fun _=>O I 0)/\vg.rowIs vc.heap.size 3 N (fun _=>O I 0)/\vg.rowIs ve.heap.size 4 (3+W) (fun _=>.bool false)/\u.heap.size=v8.heap.size/\va.heap.size=v8.heap.size+1/\vc.heap.size=v8.heap.size+2/\ve.heap.size=v8.heap.size+3:=by
 have s8:v8.heap.size=u.heap.size:=h.h8 ▸ szC _ _ _;have s9:v9.heap.size=v8.heap.size+1:=h.h9 ▸ szA _ _;have sa:va.heap.size=v9.heap.size:=h.ha ▸ szC _ _ _;have sb:vb.heap.size=va.heap.size+1:=h.hb ▸ szA _ _;have sc:vc.heap.size=vb.heap.size:=h.hc ▸ szC _ _ _;have sd:vd.heap.size=vc.heap.size+1:=h.hd ▸ szA _ _;have se:ve.heap.size=vd.heap.size:=h.he ▸ szC _ _ _;have r1:v9.rowIs v8.heap.size 3 N (fun _=>O I 0):=h.h9 ▸ World.rowIs_made v8 (O I 0) N 3;have r1a:va.rowIs v8.heap.size 3 N (fun _=>O I 0):=h.ha ▸ r1.setOther (by show v8.heap.size ≠ lb;omega) _;have r1b:vb.rowIs v8.heap.size 3 N (fun _=>O I 0):=h.hb ▸ r1a.alloc _;have r2:vb.rowIs va.heap.size 3 N (fun _=>O I 0):=h.hb ▸ World.rowIs_made va (O I 0) N 3;have r1c:vc.rowIs v8.heap.size 3 N (fun _=>O I 0):=h.hc ▸ r1b.setOther (by show v8.heap.size ≠ lb;omega) _;have r2c:vc.rowIs va.heap.size 3 N (fun _=>O I 0):=h.hc ▸ r2.setOther (by show va.heap.size ≠ lb;omega) _;have r1d:vd.rowIs v8.heap.size 3 N (fun _=>O I 0):=h.hd ▸ r1c.alloc _;have r2d:vd.rowIs va.heap.size 3 N (fun _=>O I 0):=h.hd ▸ r2c.alloc _;have r3:vd.rowIs vc.heap.size 3 N (fun _=>O I 0):=h.hd ▸ World.rowIs_made vc (O I 0) N 3;have r1e:ve.rowIs v8.heap.size 3 N (fun _=>O I 0):=h.he ▸ r1d.setOther (by show v8.heap.size ≠ lb;omega) _;have r2e:ve.rowIs va.heap.size 3 N (fun _=>O I 0):=h.he ▸ r2d.setOther (by show va.heap.size ≠ lb;omega) _;have r3e:ve.rowIs vc.heap.size 3 N (fun _=>O I 0):=h.he ▸ r3.setOther (by show vc.heap.size ≠ lb;omega) _;have r1f:vf.rowIs v8.heap.size 3 N (fun _=>O I 0):=h.hf ▸ r1e.alloc _;have r2f:vf.rowIs va.heap.size 3 N (fun _=>O I 0):=h.hf ▸ r2e.alloc _;have r3f:vf.rowIs vc.heap.size 3 N (fun _=>O I 0):=h.hf ▸ r3e.alloc _;have r4:vf.rowIs ve.heap.size 4 (3+W) (fun _=>.bool false):=h.hf ▸ World.rowIs_made ve (.bool false) (3+W) 4;exact ⟨h.hg ▸ r1f.setOther (by show v8.heap.size ≠ lb;omega) _,h.hg ▸ r2f.setOther (by show va.heap.size ≠ lb;omega) _,h.hg ▸ r3f.setOther (by show vc.heap.size ≠ lb;omega) _,h.hg ▸ r4.setOther (by show ve.heap.size ≠ lb;omega) _,s8.symm,zU,zU,zU⟩
theorem NwW.fin {ch d B c3 c4 c5 c6 c7 S lb base:Nat} {fail:Int} {fv tv0:Value} {G:Nat->Nat->Int} {u v8 v9 va vb vc vd ve vf vg:World} (hk:KP d ch B c3 c4 S G) (c58:c5<=8)
 (h:NwW u v8 v9 va vb vc vd ve vf vg lb (nBlk S B) c5 (.string (bs (hdT ⟨ch,d,B,c3,c4,S,G⟩ 1)))) (hL:Bx u lb 219 (nwC ch d B c3 c4 c5 c6 c7 fail fv (.string (bs (z4b d ch B c3 c4 G S))) tv0 (.slice none 0 0) (.slice none 0 0) (.slice none 0 0) (.slice none 0 0)))
 (hO:u.ownsRow base 9 1 fv (nBlk S B) (frsL d ch G S B (nBlk S B))) (hb:base<=lb) (hbu:base<=u.heap.size) :
 RawIs ⟨nBlk S B,c5,c6,c7,fail⟩ ⟨ch,d,B,c3,c4,S,G⟩ ⟨lb,v8.heap.size,va.heap.size,vc.heap.size,ve.heap.size,fv⟩ (z0i Lst.init Tab.init) vg/\∀ k,(Rad.mk lb v8.heap.size va.heap.size vc.heap.size ve.heap.size fv).own k∨fv.ownBlock=some k->base<=k:=by
 obtain ⟨r1,r2,r3,r4,s1,s2,s3,s4⟩:=h.rows hL.lt;have hlt:=z1n hO;have hlo:=z0t hO;have hnl:fv.ownBlock ≠ some lb:=z1m hO hL zR;have o2:=z0m hO h.edit.1 fun q hq hc=>hnl (hc ▸ hq)
 have hbl:=hL.lt;refine ⟨⟨(h.facts hL).2,r1,r2,r3,r4.congr fun i hi=>?_,z1P o2 (zJ _),⟨by show v8.heap.size ≠ va.heap.size;omega,by show v8.heap.size ≠ vc.heap.size;omega,by show va.heap.size ≠ vc.heap.size;omega⟩,hk.nb,c58,fun g hg hc=>?_⟩,fun k hk=>?_⟩
 . match i with
   | 0=>rfl
   | 1=>rfl
   | 2=>rfl
   | j+3=>rfl
 . have:=hlt g hg
   simp only [Rad.own] at hc;rcases hc with hc | hc | hc | hc | hc
   . exact hnl (hc ▸ hg)
   all_goals omega
 . rcases hk with hc | hc
   . simp only [Rad.own] at hc
     omega
   . exact hlo k hc
end Go.Proofs.YtlncjgnomhpjnabGreatDoor
