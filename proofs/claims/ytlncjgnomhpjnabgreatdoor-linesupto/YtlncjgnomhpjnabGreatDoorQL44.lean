import Derived.Test.YtlncjgnomhpjnabGreatDoorQL43
namespace Go.Proofs.YtlncjgnomhpjnabGreatDoor
open Go.Value renaming int → O
open Go.IntKind renaming i64 → I
open Go.Proofs.Tryz
open Go.RowKit Go.Deep
set_option linter.unusedVariables false
theorem z1Y {q:Nat} {wh c0 c1 c2 c3 c4 s least most sum:Int} {pv:Value} {u u':World} (hb:Below u.heap.size u u') (h:q+1 < u.heap.size/\u.cell? ⟨q,0,none⟩=some (O I wh)/\u.cell? ⟨q,7,none⟩=some (O I least)/\u.cell? ⟨q,8,none⟩=some (O I most)/\u.cell? ⟨q,9,none⟩=some (O I sum)/\u.cell? ⟨q,10,none⟩=some pv/\u.cell? ⟨q+1,0,none⟩=some (O I c0)/\u.cell? ⟨q+1,1,none⟩=some (O I c1)/\u.cell? ⟨q+1,2,none⟩=some (O I c2)/\u.cell? ⟨q+1,3,none⟩=some (O I c3)/\u.cell? ⟨q+1,4,none⟩=some (O I c4)/\u.cell? ⟨q+1,5,none⟩=some (O I s)):q+1 < u'.heap.size/\u'.cell? ⟨q,0,none⟩=some (O I wh)/\u'.cell? ⟨q,7,none⟩=some (O I least)/\u'.cell? ⟨q,8,none⟩=some (O I most)/\u'.cell? ⟨q,9,none⟩=some (O I sum)/\u'.cell? ⟨q,10,none⟩=some pv/\u'.cell? ⟨q+1,0,none⟩=some (O I c0)/\u'.cell? ⟨q+1,1,none⟩=some (O I c1)/\u'.cell? ⟨q+1,2,none⟩=some (O I c2)/\u'.cell? ⟨q+1,3,none⟩=some (O I c3)/\u'.cell? ⟨q+1,4,none⟩=some (O I c4)/\u'.cell? ⟨q+1,5,none⟩=some (O I s) :=
 have h1:q < u.heap.size:=by have:=h.1;omega
 ⟨zP h.1 hb.size,z0g hb h1 h.2.1,z0g hb h1 h.2.2.1,z0g hb h1 h.2.2.2.1,z0g hb h1 h.2.2.2.2.1,z0g hb h1 h.2.2.2.2.2.1,z0g hb h.1 h.2.2.2.2.2.2.1,z0g hb h.1 h.2.2.2.2.2.2.2.1,z0g hb h.1 h.2.2.2.2.2.2.2.2.1,z0g hb h.1 h.2.2.2.2.2.2.2.2.2.1,z0g hb h.1 h.2.2.2.2.2.2.2.2.2.2.1,z0g hb h.1 h.2.2.2.2.2.2.2.2.2.2.2⟩
set_option maxRecDepth 20000 in
set_option maxHeartbeats 4000000 in
theorem z9y (wh c0 c1 c2 c3 s c4 least most sum:Nat) (ps:List Nat) (a:Option Addr) (cap:Nat) (w:World) (hwh:wh < 256) (h0:c0 < 256) (h1:c1 < 256) (h2:c2 < 256) (h3:c3 < 65536) (h4:c4 < 256) (h5:s < 65536) (h6:least < 65536) (h7:most < 65536) (h8:sum < 4294967296)
 (hl:ps.length<=300) (hp:∀ p ∈ ps,p < 4294967296) (hI:IntsAt w a ps.length (fun i=>((ps.getD i 0:Nat):Int))) (hlow:∀ x,a=some x->0 < ps.length->x.block < w.heap.size) :
 Calls prog 145 #[.agg (rhC c0 c1 c2 c3 c4 s wh least most sum (.slice a ps.length cap))] w fun e w'=>e=.returned (.string (bs (z1L wh c0 c1 c2 c3 s c4 least most sum ps)))/\Below w.heap.size w w':=by
 have HC8:=zZ (fun u=>y4i (z0n wh c0 c1 c2 c3 s c4 least most sum) u (by rw [z0Q];omega));have hpl:∀ k,k<=ps.length->(ptsT (ps.take k)).length=2 * k:=z2s ps;have HC16:=zZ (fun u=>y1v (z1f (z0n wh c0 c1 c2 c3 s c4 least most sum) ++ ptsT ps) u (by rw [zN,z0Z,z0Q];have:=hpl ps.length zY;rw [List.take_length] at this;omega));have hc8:=z6S 8 263 (z0n wh c0 c1 c2 c3 s c4 least most sum);have hc16:=z6S 16 98309 (z1f (z0n wh c0 c1 c2 c3 s c4 least most sum) ++ ptsT ps);have HLA:=zZ (fun u=>z1d (crc 8 263 (z0n wh c0 c1 c2 c3 s c4 least most sum)) 1 u zU zU);have HLB:=zZ (fun u=>z1d (crc 16 98309 (z1f (z0n wh c0 c1 c2 c3 s c4 least most sum) ++ ptsT ps)) 2 u zU zU);have HL1:=zZ (fun u=>z1d wh 1 u zU zU);have HL2:=zZ (fun u=>z1d c0 1 u zU zU);have HL3:=zZ (fun u=>z1d c1 1 u zU zU);have HL4:=zZ (fun u=>z1d c2 1 u zU zU);have HL5:=zZ (fun u=>z1d c3 2 u zU zU);have HL6:=zZ (fun u=>z1d s 2 u zU zU);have HL7:=zZ (fun u=>z1d c4 1 u zU zU);have HL8:=zZ (fun u=>z1d least 2 u zU zU);have HL9:=zZ (fun u=>z1d most 2 u zU zU);have HL10:=zZ (fun u=>z1d sum 4 u zU zU);have HTX:Hid (ByteArray.mk #[82,76] ++ bs (inT wh 1) ++ bs (inT c0 1) ++ bs (inT c1 1) ++ bs (inT c2 1) ++ bs (inT c3 2) ++ bs (inT s 2) ++ bs (inT c4 1) ++ bs (inT least 2) ++ bs (inT most 2) ++ bs (inT sum 4)=bs (z0n wh c0 c1 c2 c3 s c4 least most sum)):=by
  show _=_
  rw [show ByteArray.mk #[82,76]=bs [82,76] from rfl];simp only [z0f];rfl
 have HT8:Hid (bs (z0n wh c0 c1 c2 c3 s c4 least most sum) ++ bs (inT (crc 8 263 (z0n wh c0 c1 c2 c3 s c4 least most sum)) 1)=bs (z1f (z0n wh c0 c1 c2 c3 s c4 least most sum) ++ ptsT (ps.take 0))):=by
  show _=_
  rw [z0f];simp [ptsT,z1f]
 have HTK:Hid (∀ k,k < ps.length->bs (z1f (z0n wh c0 c1 c2 c3 s c4 least most sum) ++ ptsT (ps.take (k+1)))=bs (z1f (z0n wh c0 c1 c2 c3 s c4 least most sum) ++ ptsT (ps.take k)) ++ bs (inT (ps.getD k 0) 2)):=fun k hk=>by
  rw [z6d ps k hk,z0f,zI,List.getD_eq_getElem?_getD,List.getElem?_eq_getElem hk];rfl
 have HTE:Hid (bs (z1f (z0n wh c0 c1 c2 c3 s c4 least most sum) ++ ptsT ps) ++ bs (inT (crc 16 98309 (z1f (z0n wh c0 c1 c2 c3 s c4 least most sum) ++ ptsT ps)) 2)=bs (z1L wh c0 c1 c2 c3 s c4 least most sum ps)):=by
  show _=_
  rw [z0f];rfl
 have HSZ:Hid (∀ k,k<=ps.length->(bs (z1f (z0n wh c0 c1 c2 c3 s c4 least most sum) ++ ptsT (ps.take k))).size=20+2 * k):=fun k hk=>by
  rw [z0b,zN,z0Z,z0Q,hpl k hk]
 have HPB:Hid (∀ k,k < ps.length->ps.getD k 0 < 4294967296):=fun i hi=>by
  rw [List.getD_eq_getElem?_getD,List.getElem?_eq_getElem hi];exact hp _ (List.getElem_mem hi)
 have HI:=zZ hI;have HLOW:=zZ hlow;have z1:(bs (inT wh 1)).size=1:=by rw [z0b,z0d]
 have z2:(bs (inT c0 1)).size=1:=by rw [z0b,z0d]
 have z3:(bs (inT c1 1)).size=1:=by rw [z0b,z0d]
 have z4:(bs (inT c2 1)).size=1:=by rw [z0b,z0d]
 have z5:(bs (inT c3 2)).size=2:=by rw [z0b,z0d]
 have z6:(bs (inT s 2)).size=2:=by rw [z0b,z0d]
 have z7:(bs (inT c4 1)).size=1:=by rw [z0b,z0d]
 have z8:(bs (inT least 2)).size=2:=by rw [z0b,z0d]
 have z9:(bs (inT most 2)).size=2:=by rw [z0b,z0d]
 have z10:(bs (inT sum 4)).size=4:=by rw [z0b,z0d]
 have zf:(bs (z0n wh c0 c1 c2 c3 s c4 least most sum)).size=19:=by rw [z0b,z0Q]
 have za:(bs (inT (crc 8 263 (z0n wh c0 c1 c2 c3 s c4 least most sum)) 1)).size=1:=by rw [z0b,z0d]
 have zb:(bs (inT (crc 16 98309 (z1f (z0n wh c0 c1 c2 c3 s c4 least most sum) ++ ptsT ps)) 2)).size=2:=by rw [z0b,z0d]
 clear hp hI hlow hpl hc8 hc16;generalize crc 8 263 (z0n wh c0 c1 c2 c3 s c4 least most sum)=C8 at *;generalize crc 16 98309 (z1f (z0n wh c0 c1 c2 c3 s c4 least most sum) ++ ptsT ps)=C16 at *;generalize bs (z1L wh c0 c1 c2 c3 s c4 least most sum ps)=R at *;rw [← HTX.out] at HC8 HT8 zf;have HFE:Hid (bs (z1f (z0n wh c0 c1 c2 c3 s c4 least most sum) ++ ptsT ps)=bs (z1f (z0n wh c0 c1 c2 c3 s c4 least most sum) ++ ptsT (ps.take ps.length))):=by show _=_;rw [List.take_length]
 rw [HFE.out] at HC16 HTE;clear HFE HTX;generalize hTT:(fun k=>bs (z1f (z0n wh c0 c1 c2 c3 s c4 least most sum) ++ ptsT (ps.take k)))=TT at *;have eT:∀ k,bs (z1f (z0n wh c0 c1 c2 c3 s c4 least most sum) ++ ptsT (ps.take k))=TT k:=fun k=>by rw [← hTT]
 simp only [eT] at HC16 HT8 HTK HTE HSZ;clear hTT eT;generalize bs (inT wh 1)=X1 at *;generalize bs (inT c0 1)=X2 at *;generalize bs (inT c1 1)=X3 at *;generalize bs (inT c2 1)=X4 at *;generalize bs (inT c3 2)=X5 at *;generalize bs (inT s 2)=X6 at *;generalize bs (inT c4 1)=X7 at *;generalize bs (inT least 2)=X8 at *;generalize bs (inT most 2)=X9 at *;generalize bs (inT sum 4)=X10 at *;generalize bs (inT C8 1)=XA at *;generalize bs (inT C16 2)=XB at *;generalize hnn:ps.length=n at *;clear hnn;unfold rhC;have hb0:Below w.heap.size w ((w.alloc (.cells #[O I wh,O I c0,O I c1,O I c2,O I c3,O I c4,O I s,O I least,O I most,O I sum,.slice a n cap] 222)).alloc (.cells #[O I c0,O I c1,O I c2,O I c3,O I c4,O I s] 39)):=(zX.alloc zY _).alloc (by simp) _;have HB0:=zZ hb0;clear hb0;have hS0:w.heap.size+1 < ((w.alloc (.cells #[O I wh,O I c0,O I c1,O I c2,O I c3,O I c4,O I s,O I least,O I most,O I sum,.slice a n cap] 222)).alloc (.cells #[O I c0,O I c1,O I c2,O I c3,O I c4,O I s] 39)).drew.heap.size/\((w.alloc (.cells #[O I wh,O I c0,O I c1,O I c2,O I c3,O I c4,O I s,O I least,O I most,O I sum,.slice a n cap] 222)).alloc (.cells #[O I c0,O I c1,O I c2,O I c3,O I c4,O I s] 39)).drew.cell? ⟨w.heap.size,0,none⟩=some (O I wh)/\((w.alloc (.cells #[O I wh,O I c0,O I c1,O I c2,O I c3,O I c4,O I s,O I least,O I most,O I sum,.slice a n cap] 222)).alloc (.cells #[O I c0,O I c1,O I c2,O I c3,O I c4,O I s] 39)).drew.cell? ⟨w.heap.size,7,none⟩=some (O I least)/\((w.alloc (.cells #[O I wh,O I c0,O I c1,O I c2,O I c3,O I c4,O I s,O I least,O I most,O I sum,.slice a n cap] 222)).alloc (.cells #[O I c0,O I c1,O I c2,O I c3,O I c4,O I s] 39)).drew.cell? ⟨w.heap.size,8,none⟩=some (O I most)/\((w.alloc (.cells #[O I wh,O I c0,O I c1,O I c2,O I c3,O I c4,O I s,O I least,O I most,O I sum,.slice a n cap] 222)).alloc (.cells #[O I c0,O I c1,O I c2,O I c3,O I c4,O I s] 39)).drew.cell? ⟨w.heap.size,9,none⟩=some (O I sum)/\((w.alloc (.cells #[O I wh,O I c0,O I c1,O I c2,O I c3,O I c4,O I s,O I least,O I most,O I sum,.slice a n cap] 222)).alloc (.cells #[O I c0,O I c1,O I c2,O I c3,O I c4,O I s] 39)).drew.cell? ⟨w.heap.size,10,none⟩=some (.slice a n cap)/\((w.alloc (.cells #[O I wh,O I c0,O I c1,O I c2,O I c3,O I c4,O I s,O I least,O I most,O I sum,.slice a n cap] 222)).alloc (.cells #[O I c0,O I c1,O I c2,O I c3,O I c4,O I s] 39)).drew.cell? ⟨w.heap.size+1,0,none⟩=some (O I c0)/\((w.alloc (.cells #[O I wh,O I c0,O I c1,O I c2,O I c3,O I c4,O I s,O I least,O I most,O I sum,.slice a n cap] 222)).alloc (.cells #[O I c0,O I c1,O I c2,O I c3,O I c4,O I s] 39)).drew.cell? ⟨w.heap.size+1,1,none⟩=some (O I c1)/\((w.alloc (.cells #[O I wh,O I c0,O I c1,O I c2,O I c3,O I c4,O I s,O I least,O I most,O I sum,.slice a n cap] 222)).alloc (.cells #[O I c0,O I c1,O I c2,O I c3,O I c4,O I s] 39)).drew.cell? ⟨w.heap.size+1,2,none⟩=some (O I c2)/\((w.alloc (.cells #[O I wh,O I c0,O I c1,O I c2,O I c3,O I c4,O I s,O I least,O I most,O I sum,.slice a n cap] 222)).alloc (.cells #[O I c0,O I c1,O I c2,O I c3,O I c4,O I s] 39)).drew.cell? ⟨w.heap.size+1,3,none⟩=some (O I c3)/\((w.alloc (.cells #[O I wh,O I c0,O I c1,O I c2,O I c3,O I c4,O I s,O I least,O I most,O I sum,.slice a n cap] 222)).alloc (.cells #[O I c0,O I c1,O I c2,O I c3,O I c4,O I s] 39)).drew.cell? ⟨w.heap.size+1,4,none⟩=some (O I c4)/\((w.alloc (.cells #[O I wh,O I c0,O I c1,O I c2,O I c3,O I c4,O I s,O I least,O I most,O I sum,.slice a n cap] 222)).alloc (.cells #[O I c0,O I c1,O I c2,O I c3,O I c4,O I s] 39)).drew.cell? ⟨w.heap.size+1,5,none⟩=some (O I s):=by simp
 go_enter func145,ntmps145
 go_wp2
 go_region_held3 (fun w'=>w.heap.size+1 < w'.heap.size/\w'.cell? ⟨w.heap.size,0,none⟩=some (O I wh)/\w'.cell? ⟨w.heap.size,7,none⟩=some (O I least)/\w'.cell? ⟨w.heap.size,8,none⟩=some (O I most)/\w'.cell? ⟨w.heap.size,9,none⟩=some (O I sum)/\w'.cell? ⟨w.heap.size,10,none⟩=some (.slice a n cap)/\w'.cell? ⟨w.heap.size+1,0,none⟩=some (O I c0)/\w'.cell? ⟨w.heap.size+1,1,none⟩=some (O I c1)/\w'.cell? ⟨w.heap.size+1,2,none⟩=some (O I c2)/\w'.cell? ⟨w.heap.size+1,3,none⟩=some (O I c3)/\w'.cell? ⟨w.heap.size+1,4,none⟩=some (O I c4)/\w'.cell? ⟨w.heap.size+1,5,none⟩=some (O I s))
  (with_reducible assumption)
  (first
  | (go_at_call 215;refine (HL1.out _).mono ?_;rintro e u1 ⟨rfl,hb1⟩;have hS1:=z1Y hb1 hS0;have HB1:=zZ (HB0.out.drew.trans (hb1.mono (by simp;omega)));clear HL1 HB0 hS0 hb1)
  | (go_at_call 215;refine (HL2.out _).mono ?_;rintro e u2 ⟨rfl,hb2⟩;have hS2:=z1Y hb2 hS1;have HB2:=zZ (HB1.out.trans (hb2.mono HB1.out.size));clear HL2 HB1 hS1 hb2)
  | (go_at_call 215;refine (HL3.out _).mono ?_;rintro e u3 ⟨rfl,hb3⟩;have hS3:=z1Y hb3 hS2;have HB3:=zZ (HB2.out.trans (hb3.mono HB2.out.size));clear HL3 HB2 hS2 hb3)
  | (go_at_call 215;refine (HL4.out _).mono ?_;rintro e u4 ⟨rfl,hb4⟩;have hS4:=z1Y hb4 hS3;have HB4:=zZ (HB3.out.trans (hb4.mono HB3.out.size));clear HL4 HB3 hS3 hb4)
  | (go_at_call 215;refine (HL5.out _).mono ?_;rintro e u5 ⟨rfl,hb5⟩;have hS5:=z1Y hb5 hS4;have HB5:=zZ (HB4.out.trans (hb5.mono HB4.out.size));clear HL5 HB4 hS4 hb5)
  | (go_at_call 215;refine (HL6.out _).mono ?_;rintro e u6 ⟨rfl,hb6⟩;have hS6:=z1Y hb6 hS5;have HB6:=zZ (HB5.out.trans (hb6.mono HB5.out.size));clear HL6 HB5 hS5 hb6)
  | (go_at_call 215;refine (HL7.out _).mono ?_;rintro e u7 ⟨rfl,hb7⟩;have hS7:=z1Y hb7 hS6;have HB7:=zZ (HB6.out.trans (hb7.mono HB6.out.size));clear HL7 HB6 hS6 hb7)
  | (go_at_call 215;refine (HL8.out _).mono ?_;rintro e u8 ⟨rfl,hb8⟩;have hS8:=z1Y hb8 hS7;have HB8:=zZ (HB7.out.trans (hb8.mono HB7.out.size));clear HL8 HB7 hS7 hb8)
  | (go_at_call 215;refine (HL9.out _).mono ?_;rintro e u9 ⟨rfl,hb9⟩;have hS9:=z1Y hb9 hS8;have HB9:=zZ (HB8.out.trans (hb9.mono HB8.out.size));clear HL9 HB8 hS8 hb9)
  | (go_at_call 215;refine (HL10.out _).mono ?_;rintro e u10 ⟨rfl,hb10⟩;have hS10:=z1Y hb10 hS9;have HB10:=zZ (HB9.out.trans (hb10.mono HB9.out.size));clear HL10 HB9 hS9 hb10))
 have HX10:Hid (w.heap.size < u10.heap.size/\u10.cell? ⟨w.heap.size,10,none⟩=some (.slice a n cap)):=⟨by have:=hS10.1;omega,hS10.2.2.2.2.2.1⟩;clear hS10
 go_wp2_with (first
  | (go_at_call 150;refine (HC8.out _).mono ?_;rintro e v1 ⟨rfl,hv1⟩;have HY1:Hid (w.heap.size < v1.heap.size/\v1.cell? ⟨w.heap.size,10,none⟩=some (.slice a n cap)):=⟨zP HX10.out.1 hv1.size,(hv1.cell (p:=⟨w.heap.size,10,none⟩) HX10.out.1).trans HX10.out.2⟩;have HV1:=zZ (HB10.out.trans (hv1.mono HB10.out.size));clear HC8 HX10 hv1 HB10)
  | (go_at_call 215;refine (HLA.out _).mono ?_;rintro e v2 ⟨rfl,hv2⟩;have HY2:Hid (w.heap.size < v2.heap.size/\v2.cell? ⟨w.heap.size,10,none⟩=some (.slice a n cap)):=⟨zP HY1.out.1 hv2.size,(hv2.cell (p:=⟨w.heap.size,10,none⟩) HY1.out.1).trans HY1.out.2⟩;have HV2:=zZ (HV1.out.trans (hv2.mono HV1.out.size));clear HLA HY1 hv2 HV1))
 go_loopw [4,5] (fun sv kv wr=>∃ k:Nat,k<=n/\kv=O I k/\sv=.string (TT k)/\Hid (w.heap.size < wr.heap.size/\wr.cell? ⟨w.heap.size,10,none⟩=some (.slice a n cap)/\Below w.heap.size w wr)) (fun _ kv _=>n - (intOf kv).toNat)
 case atStart=>exact ⟨0,zJ _,rfl,by rw [← HT8.out],HY2.out.1,HY2.out.2,HV2.out⟩
 case round =>
  clear HY2 HV2 z1 z2 z3 z4 z5 z6 z7 z8 z9 z10 zf HT8;obtain ⟨k,hk,rfl,rfl,HR⟩:=hrel;have x10:=HR.out.2.1;have hzk:=HSZ.out k hk
  by_cases hlt:k < n
  . obtain ⟨gi,oi,hAi,hci⟩:=HI.out.open zU
    subst hAi;have hgl:gi < w.heap.size:=HLOW.out _ rfl zU;have hcv:wr.cell? ⟨gi,oi+k,none⟩=some (O I ((ps.getD k 0:Nat):Int)):=(HR.out.2.2.cell (p:=⟨gi,oi+k,none⟩) hgl).trans (hci k hlt);have hpb:=HPB.out k hlt;have HT:=zZ (HTK.out k hlt);generalize ps.getD k 0=q at *;clear hci;have HLQ:=zZ (fun u=>z1d q 2 u zU zU);have hzq:(bs (inT q 2)).size=2:=by rw [z0b,z0d]
    generalize bs (inT q 2)=XQ at *
    go_wp2_with (go_at_call 215;refine (HLQ.out _).mono ?_;rintro e v1 ⟨rfl,hv1⟩;have HY1:Hid (w.heap.size < v1.heap.size/\v1.cell? ⟨w.heap.size,10,none⟩=some (.slice (some ⟨gi,oi,none⟩) n cap)/\Below w.heap.size w v1):=⟨zP HR.out.1 hv1.size,(hv1.cell (p:=⟨w.heap.size,10,none⟩) HR.out.1).trans HR.out.2.1,HR.out.2.2.trans (hv1.mono HR.out.2.2.size)⟩;clear HLQ hv1)
    go_roundw
    case rel=>exact ⟨k+1,zU,zS,by rw [HT.out],HY1.out⟩
    case measure=>simp [intOf];omega
  . have e:k=n:=zU
    subst e
    go_wp2_with (first
     | (go_at_call 152;refine (HC16.out _).mono ?_;rintro e v1 ⟨rfl,hv1⟩;have HV1:=zZ (HR.out.2.2.trans (hv1.mono HR.out.2.2.size));clear HC16 hv1)
     | (go_at_call 215;refine (HLB.out _).mono ?_;rintro e v2 ⟨rfl,hv2⟩;have HV2:=zZ (HV1.out.trans (hv2.mono HV1.out.size));clear HLB hv2 HV1))
    go_ret;exact ⟨by rw [← HTE.out];rfl,HV2.out⟩
theorem y0O (c0 c1 c2 c3 s c4 least most sum:Nat) (ps:List Nat) (a:Option Addr) (cap:Nat) (w:World) (h0:c0 < 256) (h1:c1 < 256) (h2:c2 < 256) (h3:c3 < 65536) (h4:c4 < 256) (h5:s < 65536) (h6:least < 65536) (h7:most < 65536) (h8:sum < 4294967296)
 (hl:ps.length<=300) (hp:∀ p ∈ ps,p < 4294967296) (hI:IntsAt w a ps.length (fun i=>((ps.getD i 0:Nat):Int))) (hlow:∀ x,a=some x->0 < ps.length->x.block < w.heap.size) :
 Calls prog 145 #[.agg (rhC c0 c1 c2 c3 c4 s 1 least most sum (.slice a ps.length cap))] w fun e w'=>e=.returned (.string (bs (z1L 1 c0 c1 c2 c3 s c4 least most sum ps)))/\Below w.heap.size w w' :=
 z9y 1 c0 c1 c2 c3 s c4 least most sum ps a cap w zU h0 h1 h2 h3 h4 h5 h6 h7 h8 hl hp hI hlow
theorem z7n (c0 c1 c2 c3 c4 c5 c6 c7:Int):z2r c0 c1 c2 c3 c4 c5 c6 c7=true ↔
 (1<=c0/\c0<=4)/\(4<=c1/\c1<=12)/\(1<=c2/\c2<=32)/\(0<=c3/\c3<=65535)/\(0<=c4/\c4<=255)/\(1<=c5/\c5<=8)/\(1<=c6/\c6<=16)/\(1<=c7/\c7<=8):=by
 simp only [z2r,Bool.and_eq_true,z0J]
set_option maxHeartbeats 4000000 in
theorem y5j (c0 c1 c2 c3 c4 c5 c6 c7:Int) (w:World) :
 Calls prog 208 #[.agg #[O I c0,O I c1,O I c2,O I c3,O I c4,O I c5,O I c6,O I c7]] w fun e w' =>
  Says e (z2r c0 c1 c2 c3 c4 c5 c6 c7=true)/\Below w.heap.size w w':=by
 have fin:∀ o,Below w.heap.size w (w.alloc o):=fun o=>zX.alloc zY _
 go_enter func208,ntmps208
 go_wp2
 all_goals go_ret
 all_goals first
  | exact ⟨Says.no (fun h=>by rw [z7n] at h;omega),fin _⟩
  | exact ⟨⟨_,rfl,by rw [z7n];simp;omega⟩,fin _⟩
set_option maxHeartbeats 1000000 in
theorem y6L (lo hi:Int) (c0 c2 c3 c4 c5 c6 c7:Int) (d:Nat) (a:Option Addr) (n cap:Nat) (A:Nat->Option Addr) (L C:Nat->Nat) (F:Nat->Nat->Int) (w:World) (hc0:1<=c0) (h1:1<=d) (h2:d<=13) (hn:n<=17592186044416) (hL:∀ i,i < n->L i<=17592186044416)
 (hA:ListsAt w a n A L C) (hI:∀ i,i < n->IntsAt w (A i) (L i) (F i)) (hlow:Low w.heap.size a n A L) :
 Calls prog 209 #[.agg #[O I c0,O I d,O I c2,O I c3,O I c4,O I c5,O I c6,O I c7],.slice a n cap,O I lo,O I hi] w fun e w' =>
  Says e (z9X c0 d n lo hi L F)/\Below w.heap.size w w':=by
 have hb:Below w.heap.size w (w.alloc (.cells #[O I c0,O I d,O I c2,O I c3,O I c4,O I c5,O I c6,O I c7] 23)):=zX.alloc zY _
 by_cases hnc:(n:Int)=c0
 . subst hnc
   have hbN:∀ m,Below w.heap.size w (World.drewN (w.alloc (.cells #[O I n,O I d,O I c2,O I c3,O I c4,O I c5,O I c6,O I c7] 23)) m):=fun m=>⟨hb.os,hb.tape,hb.output,hb.size,hb.block⟩
   have hA1:=hA.below hb hlow.1;have hI1:∀ i,i < n->IntsAt _ (A i) (L i) (F i):=fun i hi=>(hI i hi).below hb (hlow.2 i hi)
   obtain ⟨b,off,rfl,hc⟩:=hA1.open zU;clear hA hI hA1 hlow;have HI:Hid (∀ i,i < n->IntsAt _ (A i) (L i) (F i)):=hI1;have HL:Hid (∀ i,i < n->L i<=17592186044416):=hL;have hL0:=hL 0 zU;have HC:Hid _:=hc;have hc00:_=some (Value.slice (A 0) (L 0) (C 0)):=hc 0 zU;simp only [Nat.add_zero] at hc00;clear hI1 hL hc
   by_cases h300:lo<=(L 0:Int)/\(L 0:Int)<=hi
   . have HW:=zZ ((z0J (L 0:Int) lo hi).2 h300)
     have td1:decide ((L 0:Int) < lo)=false:=zM zU;have td2:decide (hi < (L 0:Int))=false:=zM zU;clear h300
     go_enter func209,ntmps209
     go_wp2
     go_loopw [9,10,11] (fun i _ _ wr=>∃ k:Nat,k<=n/\i=O I k/\Hid (∀ i,i < k->L i=L 0/\∀ j,j < L i->z0A d (F i j)=true)/\∃ m,wr=World.drewN (w.alloc (.cells #[O I n,O I d,O I c2,O I c3,O I c4,O I c5,O I c6,O I c7] 23)) m) (fun i _ _ _=>n - (intOf i).toNat)
     case atStart=>exact ⟨0,zJ _,rfl,fun i hi=>absurd hi zU,0,rfl⟩
     case round =>
      obtain ⟨k,hk,rfl,HK,m,rfl⟩:=hrel
      by_cases hlt:k < n
      . have hck:=HC.out k hlt
        have hLk:=HL.out k hlt;have hIk:=HI.out k hlt
        by_cases hLe:L k=L 0
        . have HE:Hid (L k=L 0):=hLe
          have ht:((L k:Int) != (L 0:Int))=false:=by simp [hLe]
          clear hLe;go_wp2
          go_region
          all_goals go_wp2
          go_loopw [8,10,11] (fun _ i _ wr=>∃ j:Nat,j<=L k/\i=O I j/\Hid (∀ i,i < j->z0A d (F k i)=true)/\∃ m,wr=World.drewN (w.alloc (.cells #[O I n,O I d,O I c2,O I c3,O I c4,O I c5,O I c6,O I c7] 23)) m) (fun _ i _ _=>L k - (intOf i).toNat)
          case atStart=>exact ⟨0,zJ _,rfl,fun i hi=>absurd hi zU,m+1,rfl⟩
          case round =>
           obtain ⟨j,hj,rfl,HJ,m2,rfl⟩:=hrel
           by_cases hjl:j < L k
           . obtain ⟨b2,off2,hx,hc2⟩:=hIk.open zU
             have hcj:=hc2 j hjl;rw [hx] at hck;clear hc2 hIk;cases hf:z0A d (F k j)
             . go_wp2
               go_quiet ((go_at_call 222;exact (z8A _ _ _ h1 h2).mono fun _ _ h=>⟨h.1,_,h.2⟩))
               go_wp2;go_ret;exact ⟨Says.no (fun h=>by rw [(h.2.2 k hlt).2 j hjl] at hf;cases hf),hbN _⟩
             . go_wp2
               go_quiet ((go_at_call 222;exact (z8A _ _ _ h1 h2).mono fun _ _ h=>⟨h.1,_,h.2⟩))
               go_wp2
               go_roundw
               case rel =>
                refine ⟨j+1,zU,zS,fun i hi=>?_,_,rfl⟩
                by_cases e:i=j
                . subst e;exact hf
                . exact HJ.out i zU
               case measure=>simp [intOf];omega
           . have e:j=L k:=zU
             subst e;go_wp2
             go_roundw
             case rel =>
              refine ⟨k+1,zU,zS,fun i hi=>?_,_,rfl⟩
              by_cases e:i=k
              . subst e;exact ⟨HE.out,HJ.out⟩
              . exact HK.out i zU
             case measure=>simp [intOf];omega
        . have HE:Hid (¬ L k=L 0):=hLe
          have ht:((L k:Int) != (L 0:Int))=true:=by simp;omega
          clear hLe;go_wp2
          go_region
          all_goals go_wp2
          go_ret;exact ⟨Says.no (fun h=>HE.out (h.2.2 k hlt).1),hbN _⟩
      . have e:k=n:=zU
        subst e;go_wp2;go_ret;exact ⟨Says.yes ⟨rfl,HW.out,HK.out⟩,hbN _⟩
   . have HW:Hid (¬ z0x (L 0:Int) lo hi=true):=fun h=>h300 ((z0J _ _ _).1 h)
     by_cases hlo:(L 0:Int) < lo
     . have td1:decide ((L 0:Int) < lo)=true:=zL hlo
       clear h300 hlo
       go_enter func209,ntmps209
       go_wp2;go_ret;exact ⟨Says.no (fun h=>HW.out h.2.1),hb⟩
     . have td1:decide ((L 0:Int) < lo)=false:=zM hlo
       have td2:decide (hi < (L 0:Int))=true:=zL zU;clear h300 hlo
       go_enter func209,ntmps209
       go_wp2;go_ret;exact ⟨Says.no (fun h=>HW.out h.2.1),hb⟩
 . have hne:((n:Int) != c0)=true:=by simpa using hnc
   go_enter func209,ntmps209
   go_wp2;go_ret;exact ⟨Says.no (fun h=>hnc h.1),hb⟩
end Go.Proofs.YtlncjgnomhpjnabGreatDoor
