import Derived.Test.YtlncjgnomhpjnabGreatDoorQL19
import Derived.Test.YtlncjgnomhpjnabGreatDoorQL14
import Derived.Ground.NamesProg
import Derived.Shelf.Lay
import Derived.Shelf.Strings.OnBuilder
namespace Go.Proofs.YtlncjgnomhpjnabGreatDoor
open Go.Value renaming int → O
open Go.IntKind renaming i64 → I
open Go.Proofs.Tryz
open Go.RowKit Go.Deep
set_option linter.unusedVariables false
def lnL (ln:Nat->Nat) (k:Nat):List Value:=(List.range k).map fun j=>Value.int .i64 ((ln j:Nat):Int)
theorem y6v (ln:Nat->Nat) (k:Nat):lnL ln (k+1)=lnL ln k ++ [Value.int .i64 ((ln k:Nat):Int)]:=by
 unfold lnL;rw [List.range_succ,List.map_append];rfl
theorem z4u {g:Nat} {c0 c1 c2 c3 c4 s:Int} {u u':World} (hb:Below u.heap.size u u') (h:g < u.heap.size/\u.cell? ⟨g,0,none⟩=some (O I c0)/\u.cell? ⟨g,1,none⟩=some (O I c1)/\u.cell? ⟨g,2,none⟩=some (O I c2)/\u.cell? ⟨g,3,none⟩=some (O I c3)/\u.cell? ⟨g,4,none⟩=some (O I c4)/\u.cell? ⟨g,5,none⟩=some (O I s)):g < u'.heap.size/\u'.cell? ⟨g,0,none⟩=some (O I c0)/\u'.cell? ⟨g,1,none⟩=some (O I c1)/\u'.cell? ⟨g,2,none⟩=some (O I c2)/\u'.cell? ⟨g,3,none⟩=some (O I c3)/\u'.cell? ⟨g,4,none⟩=some (O I c4)/\u'.cell? ⟨g,5,none⟩=some (O I s) :=
 ⟨zP h.1 hb.size,z0g hb h.1 h.2.1,z0g hb h.1 h.2.2.1,z0g hb h.1 h.2.2.2.1,z0g hb h.1 h.2.2.2.2.1,z0g hb h.1 h.2.2.2.2.2.1,z0g hb h.1 h.2.2.2.2.2.2⟩
theorem z7c {w:World} {base m:Nat} {v:Value} {f:Nat->Int} {ls:List Value} (h:w.ownsRow base 3 1 v m ls) (hf:∀ i,i < m->ls[i]?=some (O I (f i))):∃ a cap,v=.slice a m cap/\IntsAt w a m f/\∀ x,a=some x->0 < m->x.block < w.heap.size:=by
 rcases h.2 with ⟨rfl,rfl⟩ | ⟨g,cap,cur,rfl,-⟩
 . exact ⟨none,0,rfl,fun i hi=>absurd hi zU,fun x hx=>by cases hx⟩
 . refine ⟨_,cap,rfl,fun i hi=>⟨_,rfl,h.cells (g:=g) rfl i _ (hf i hi)⟩,fun x hx h0=>?_⟩
   cases hx;exact (h.lt g rfl).2
theorem y4D {w:World} {base k:Nat} {ln:Nat->Nat} {v:Value} (h:w.ownsRow base 3 1 v k (lnL ln k)):∃ a cap,v=.slice a k cap/\IntsAt w a k (fun i=>((ln i:Nat):Int))/\∀ x,a=some x->0 < k->x.block < w.heap.size :=
 z7c h fun i hi=>by unfold lnL;rw [List.getElem?_map,List.getElem?_range hi];rfl
theorem z9i {w:World} {base:Nat} {ps:List Nat} {v:Value} (h:w.ownsRow base 3 1 v ps.length (pntV ps)):∃ a cap,v=.slice a ps.length cap/\IntsAt w a ps.length (fun i=>((ps.getD i 0:Nat):Int))/\∀ x,a=some x->0 < ps.length->x.block < w.heap.size :=
 z7c h fun i hi=>by unfold pntV;rw [List.getElem?_map,List.getElem?_eq_getElem hi,List.getD_eq_getElem?_getD,List.getElem?_eq_getElem hi];rfl
theorem y4E (n:Nat) (F:Nat->Nat->Int) (k:Nat) (h:k % 2=0):((intB n F k).toNat:Int)=(((F (k / 2 % n) (k / 2 / n)) % 65536).toNat % 256:Nat):=by
 unfold intB;rw [h]
 show ((UInt8.ofNat _).toNat:Int)=_
 rw [UInt8.toNat_ofNat'];omega
theorem y6w (n:Nat) (F:Nat->Nat->Int) (k:Nat) (h:k % 2=1):((intB n F k).toNat:Int)=(((F (k / 2 % n) (k / 2 / n)) % 65536).toNat / 256:Nat):=by
 unfold intB;rw [h]
 show ((UInt8.ofNat _).toNat:Int)=_
 rw [UInt8.toNat_ofNat'];omega
def intV (n:Nat) (F:Nat->Nat->Int) (k j:Nat):Value:=.int .u8 (if j < k then ((intB n F j).toNat:Int) else 0)
theorem y4F {wr:World} {g M n k:Nat} {F:Nat->Nat->Int} {z:Int} (h:wr.rowIs g 5 M (intV n F k)) (hz:z=((intB n F k).toNat:Int)) :
 (wr.setCell ⟨g,k,none⟩ (.int .u8 z)).rowIs g 5 M (intV n F (k+1)) :=
 (h.set k _).congr fun i _=>by
  unfold intV
  by_cases e:i=k
  . rw [if_pos e,if_pos zU,e,hz]
  . rw [if_neg e]
    by_cases e2:i < k
    . rw [if_pos e2,if_pos zU]
    . rw [if_neg e2,if_neg zU]
set_option maxHeartbeats 1000000 in
theorem z6m (a:Option Addr) (n cap:Nat) (A:Nat->Option Addr) (S:Nat) (C:Nat->Nat) (F:Nat->Nat->Int) (w:World) (hn1:1<=n) (hn4:n<=4) (hS:S<=300) (hf:∀ i,i < n->∀ j,j < S->-65536<=F i j/\F i j < 65536)
 (hA:ListsAt w a n A (fun _=>S) C) (hI:∀ i,i < n->IntsAt w (A i) S (F i)) (hlow:Low w.heap.size a n A (fun _=>S)) :
 Calls prog 213 #[.slice a n cap] w fun e w'=>e=.returned (.string (bs (intT n F (2 * (S * n)))))/\Below w.heap.size w w':=by
 have hSn:S * n<=1200:=Nat.mul_le_mul hS hn4;have hmk:=run_make_row' (P:=prog) 33 5 (.int .u8 0) 1 underlying33 z1s rfl .i64 .i64 (2 * (S * n)) zU zU;have e1:I.wrap (2 * (n:Int))=((2 * n:Nat):Int):=by rw [zK];omega
 have e2:I.wrap (((2 * n:Nat):Int) * (S:Int))=((2 * (S * n):Nat):Int):=by
  have h1:((2 * n:Nat):Int) * (S:Int)=((2 * (S * n):Nat):Int):=by rw [← Int.natCast_mul,Nat.mul_assoc,Nat.mul_comm n S]
  rw [h1,zK];omega
 have HCV:=zZ (fun (u:World) h=>z0F (P:=prog) u 33 9 5 w.heap.size 0 (2 * (S * n)) (2 * (S * n)) (intB n F) underlying33 underlying5 underlying9 h);rw [z9b] at HCV;have HF:=zZ hf;have HI:=zZ hI;have HLOW:=zZ hlow;have HDV:Hid (∀ k,k < 2 * (S * n)->k / 2 / n < S/\k / 2 % n < n):=fun k hk=>⟨by
  rw [Nat.div_lt_iff_lt_mul zU];omega,Nat.mod_lt _ zU⟩
 obtain ⟨b,off,rfl,hcell⟩:=hA.open zU;have HCL:=zZ hcell;have hbl:b < w.heap.size:=by
  have:=hlow.1 _ rfl (by omega:0 < n);exact this
 have hc0:=hcell 0 zU;simp only [Nat.add_zero] at hc0;have hn0:((n:Int) == 0)=false:=by simp;omega
 have hn00:¬ (n:Int)=0:=zU
 have hn01:¬ n=0:=zU
 have hM2:2 * (S * n)<=2400:=zU
 clear hA hI hlow hcell hf;generalize 2 * n=N2 at *;generalize hM:bs (intT n F (2 * (S * n)))=R at *;clear hM;generalize 2 * (S * n)=M at *
 go_enter func213,ntmps213
 go_wp2;clear hmk e1 e2 hc0
 go_loopw [5,6] (fun iv _ wr=>∃ k:Nat,k<=M/\iv=O I k/\Hid (wr.rowIs w.heap.size 5 M (intV n F k)/\Below w.heap.size w wr)) (fun iv _ _=>M - (intOf iv).toNat)
 case atStart=>exact ⟨0,zJ _,rfl,(World.rowIs_made w (.int .u8 0) M 5).congr fun i _=>by unfold intV;rw [if_neg zU],zX.alloc zY _⟩
 case round =>
  obtain ⟨k,hk,rfl,HR⟩:=hrel
  by_cases hlt:k < M
  . obtain ⟨hq,hr⟩:=HDV.out k hlt
    obtain ⟨gi,oi,hAi,hci⟩:=(HI.out _ hr).open (Nat.lt_of_le_of_lt (zJ _) hq);have hcb:wr.cell? ⟨b,off+k / 2 % n,none⟩=some (.slice (some ⟨gi,oi,none⟩) S (C (k / 2 % n))):=by
     have:=(HR.out.2.cell (p:=⟨b,off+k / 2 % n,none⟩) hbl).trans (HCL.out _ hr);rw [hAi] at this;exact this
    have hgl:gi < w.heap.size:=by have:=HLOW.out.2 _ hr _ hAi (Nat.lt_of_le_of_lt (zJ _) hq);exact this
    have hcv:wr.cell? ⟨gi,oi+k / 2 / n,none⟩=some (O I (F (k / 2 % n) (k / 2 / n))):=(HR.out.2.cell (p:=⟨gi,oi+k / 2 / n,none⟩) hgl).trans (hci _ hq);have hV:=HF.out _ hr _ hq;have hc1:=HR.out.1.cell hlt;have hf1:=HR.out.1.frozen k;have HST:=zZ (fun z (hz:z=((intB n F k).toNat:Int))=>y4F HR.out.1 hz);have HEV:=zZ (y4E n F k);have HOD:=zZ (y6w n F k);have d1:((k:Int)).tdiv 2=((k / 2:Nat):Int):=by rw [zF zU];omega
    have d2:(k:Int) / 2=((k / 2:Nat):Int):=zU
    have d3:((k / 2:Nat):Int).tmod (n:Int)=((k / 2 % n:Nat):Int):=by rw [zG zU];rfl
    have d4:((k / 2:Nat):Int) % (n:Int)=((k / 2 % n:Nat):Int):=rfl;have d5:((k / 2:Nat):Int).tdiv (n:Int)=((k / 2 / n:Nat):Int):=by rw [zF zU];rfl
    have d6:((k / 2:Nat):Int) / (n:Int)=((k / 2 / n:Nat):Int):=rfl;have hk2:k / 2<=1200:=zU
    have wk:I.wrap ((k / 2:Nat):Int)=((k / 2:Nat):Int):=by rw [zK];omega
    clear hci;generalize F (k / 2 % n) (k / 2 / n)=V at *;generalize hK2:k / 2=K2 at *;have HK2:=zZ hK2;clear hK2;generalize K2 % n=r at *;generalize K2 / n=q at *;have v1:I.wrap (V+65536)=V+65536:=by rw [zK];omega
    have v2:(V+65536).tmod 65536=(((V % 65536).toNat:Nat):Int):=by rw [zG zU];omega
    have v3:(V+65536) % 65536=(((V % 65536).toNat:Nat):Int):=zU
    have v4:(V % 65536).toNat < 65536:=zU
    generalize (V % 65536).toNat=X at *;generalize hcv0:(if k < k then ((intB n F k).toNat:Int) else 0)=old at *;rcases Nat.mod_two_eq_zero_or_one k with hp | hp
    . have HZ:=zZ (HST.out ((X:Int) % 256) (by rw [HEV.out hp];omega))
      have t1:((k:Int).tmod 2 == 1)=false:=by rw [zG zU];simp;omega
      have t2:((k:Int) % 2 == 1)=false:=by simp;omega
      clear HST HEV HOD hp;go_wp2
      go_region
      go_wp2
      go_roundw
      case rel=>exact ⟨k+1,zU,zS,HZ.out,(HR.out.2.setCell (p:=⟨w.heap.size,k,none⟩) zY _).drew⟩
      case measure=>simp [intOf];omega
    . have HZ:=zZ (HST.out ((X:Int) / 256 % 256) (by rw [HOD.out hp];omega))
      have t1:((k:Int).tmod 2 == 1)=true:=by rw [zG zU];simp;omega
      have t2:((k:Int) % 2 == 1)=true:=by simp;omega
      clear HST HEV HOD hp;go_wp2
      go_region
      go_wp2
      go_roundw
      case rel=>exact ⟨k+1,zU,zS,HZ.out,(HR.out.2.setCell (p:=⟨w.heap.size,k,none⟩) zY _).drew⟩
      case measure=>simp [intOf];omega
  . have e:k=M:=zU
    subst e;have hcv:=HCV.out wr (fun i hi=>by
     have:=HR.out.1.cell (i:=i) hi;unfold intV at this;rw [if_pos hi] at this
     simpa using this)
    clear HCV;go_wp2;go_ret;exact ⟨rfl,HR.out.2⟩
theorem y7X {u:World} {g n q m:Nat} {A:Nat->Option Addr} {C:Nat->Nat} (h:u.rowIs g 30 n (blkV A C q m n)):ListsAt u (some ⟨g,0,none⟩) n (blkA A q) (fun _=>m) (fun i=>C i - q):=fun i hi=>⟨_,rfl,by
 have:=h.cell hi;unfold blkV at this;rw [if_pos hi] at this;rw [Addr.add_lit,Nat.zero_add];exact this⟩
def nPts (S B seek:Nat):Nat:=if seek=0 then 0 else nBlk (nBlk S B) seek
set_option maxHeartbeats 1000000 in
theorem y0p (c0 c1:Int) (B c3 seek S:Nat) (w:World) (hB:1<=B) (hB2:B<=100000) (hS:S<=100000) (hk:seek<=100000) :
 Calls prog 134 #[.agg #[O I c0,O I c1,O I B,O I c3,O I seek,O I S]] w fun e w'=>e=.returned (O I (nPts S B seek))/\Below w.heap.size w w':=by
 have HB0:Hid (Below w.heap.size w (w.alloc (.cells #[O I c0,O I c1,O I B,O I c3,O I seek,O I S] 39))):=zX.alloc zY _
 by_cases h0:seek=0
 . subst h0
   rw [show nPts S B 0=0 from rfl]
   go_enter func134,ntmps134
   go_wp2_with fail;go_ret;exact ⟨rfl,HB0.out⟩
 . rw [show nPts S B seek=nBlk (nBlk S B) seek by unfold nPts;rw [if_neg h0]]
   have t0:((seek:Int) == 0)=false:=by simp;omega
   have hle:=z1K (S:=S) hB;have H1:=zZ (fun u=>z4N S B u hB hB2 hS);have H2:=zZ (fun u=>z4N (nBlk S B) seek u zU zU zU);generalize nBlk (nBlk S B) seek=N2 at *;generalize nBlk S B=N1 at *;have hS0:(w.alloc (.cells #[O I c0,O I c1,O I B,O I c3,O I seek,O I S] 39)).drew.cell? ⟨w.heap.size,5,none⟩=some (O I S)/\(w.alloc (.cells #[O I c0,O I c1,O I B,O I c3,O I seek,O I S] 39)).drew.cell? ⟨w.heap.size,2,none⟩=some (O I B)/\(w.alloc (.cells #[O I c0,O I c1,O I B,O I c3,O I seek,O I S] 39)).drew.cell? ⟨w.heap.size,4,none⟩=some (O I seek):=⟨(Bx.new w _ _).cell 5,(Bx.new w _ _).cell 2,(Bx.new w _ _).cell 4⟩
   go_enter func134,ntmps134
   go_wp2_with fail
   go_region_held3 (fun w'=>w'.cell? ⟨w.heap.size,5,none⟩=some (O I S)/\w'.cell? ⟨w.heap.size,2,none⟩=some (O I B)/\w'.cell? ⟨w.heap.size,4,none⟩=some (O I seek))
    (with_reducible assumption)
    (first
    | (go_at_call 62;refine (H1.out _).mono ?_;rintro e u2 ⟨rfl,hw⟩;subst u2;clear H1)
    | (go_at_call 62;refine (H2.out _).mono ?_;rintro e u2 ⟨rfl,hw⟩;subst u2;clear H2))
   go_wp2;go_ret;exact ⟨rfl,HB0.out.drew⟩
end Go.Proofs.YtlncjgnomhpjnabGreatDoor
