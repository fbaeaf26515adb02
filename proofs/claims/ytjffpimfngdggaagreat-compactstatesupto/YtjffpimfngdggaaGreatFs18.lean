/- ONr LRChk LSome LOwn LOwn2 OPk Shs PHa LPick -/
import Derived.Test.YtjffpimfngdggaaGreatTk
import Derived.Test.YtjffpimfngdggaaGreatFs17
import Derived.Test.YtjffpimfngdggaaGreatFs10
import Derived.Lib.MinMax
import Derived.Deep.CutRange
import Derived.Test.YtjffpimfngdggaaGreatFs16
import Derived.Lib.OthersKept
import Derived.Maps.AppendAt
import Derived.Shelf.SlicesQ.IndexFunc
import Derived.Test.YtjffpimfngdggaaGreatProg
import Derived.Test.YtjffpimfngdggaaGreatFs03
import Derived.Test.YtjffpimfngdggaaGreatFs08
set_option maxRecDepth 100000
set_option maxHeartbeats 3200000
namespace Go.Proofs.YtjffpimfngdggaaGreat
open Go.RowKit
attribute [local go_sem ↓] zr zq qh qg
attribute [local go_sem] zi zk
variable {w w' w2 W W' : World} {g : Nat}

def NrA (w w':World) (e:Ending) (p:Pv) (d:Rn):Prop:=∃ (q:Pv) (i:Nat),e = .returned (PV q)/\PSrc w' q/\FirstAt p.P.cloud d p.cn i/\q.P=⟨p.P.vec,(p.P.cloud.drop i).take 1⟩/\Below w.heap.size w w'
theorem zfX {ad:Addr} {n c i:Nat} {L:List Sn} (h:SSrc w (some ad) n c L) (hi:i < n) (c':Nat) (hc:1 <= c'):SSrc w (some (ad.add (i * 3))) 1 c' ((L.drop i).take 1):=by
 have hl:=h.len;refine ⟨by rw [List.length_take,List.length_drop];omega,fun e=>(by cases e),fun ad' e t ht=>?_,by omega,hc⟩;obtain rfl:=Option.some.inj e
 obtain rfl:t=0:=by omega
 have A:=h.cell ad rfl i hi
 have e1:((L.drop i).take 1).getD 0 sn0=L.getD i sn0:=by
  rw [List.getD_eq_getElem?_getD,List.getElem?_take,if_pos (by omega),List.getElem?_drop,Nat.add_zero,List.getD_eq_getElem?_getD]
 rw [e1,Nat.zero_mul,add_zero];exact A
theorem wT {L:List Sn} {n c i:Nat} {ao:Option Addr} (hl:L.length=n) (hi:n <= i) (hn:ao=none -> c=0):SSrc w ao 0 c ((L.drop i).take 1):=by
 have e:(L.drop i).take 1=[]:=by rw [List.drop_eq_nil_of_le (by omega)];rfl
 rw [e];exact ⟨rfl,fun h=>⟨rfl,hn h⟩,fun ad h t ht=>(by omega),by omega,Nat.zero_le _⟩
theorem zgm (p:Pv) (d:Rn) (w:World) (hS:PSrc w p) (hm:∀ a b,a <= b -> b < p.cn -> nrC (p.P.cloud.getD b sn0) d < 0 -> nrC (p.P.cloud.getD a sn0) d < 0):Calls Tryz.prog 146 #[PV p,RV d] w fun e w'=>NrA w w' e p d:=by
 have b1:=ze w (.cells (PC p) 26);have x1:=zm w p;have s1:=World.size_alloc w (.cells (PC p) 26);obtain ⟨w1,hw1⟩:∃ w1,w.alloc (.cells (PC p) 26)=w1:=⟨_,rfl⟩;obtain ⟨g1,hg1⟩:∃ g1,w.heap.size=g1:=⟨_,rfl⟩;rw [hw1] at b1 x1 s1;rw [hg1] at x1 s1;have b2:=ze w1 (.cells (RC d) 48);have x2:=qe w1 48 d;have s2:=World.size_alloc w1 (.cells (RC d) 48);obtain ⟨w2,hw2⟩:∃ w2,w1.alloc (.cells (RC d) 48)=w2:=⟨_,rfl⟩;rw [hw2] at b2 x2 s2;rw [s1] at x2 s2;have b3:=ze w2 (.cells #[.slice none 0 0,.slice none 0 0] 26);have x3:PBox (w2.alloc (.cells #[.slice none 0 0,.slice none 0 0] 26)) w2.heap.size pv0:=zm w2 pv0;obtain ⟨w3,hw3⟩:∃ w3,w2.alloc (.cells #[.slice none 0 0,.slice none 0 0] 26)=w3:=⟨_,rfl⟩;rw [hw3] at b3 x3;rw [s2] at x3;have b13:=b1.trans ((b2.trans (b3.mono b2.size)).mono b1.size)
 have hX1:=(x1.below b2).below b3;have HX:Hid (PBox w3 g1 p/\PBox w3 (g1+1+1) pv0/\PSrc w3 p/\Below w.heap.size w w3/\w.heap.size=g1):=⟨hX1,x3,hS.below b13,b13,hg1⟩
 have ld:=qm (x2.below b3).at
 obtain ⟨y0,y1⟩:=hX1.nums;have HBs:=hide (ziv p.co p.cn p.cc p.P.cloud d w3 HX.out.2.2.1.cloud hm);have HS:=hide hS;clear b1 b2 b3 x1 x2 x3 b13 hX1 hS hm;go_enter Tryz.func146,Tryz.ntmps146;go_wp2_with fail;clear hw1 hw2 hw3 s1 s2 hg1 ld y0 y1;refine HBs.out.mono ?_;rintro e w4 ⟨i,fb,rfl,hF,b4⟩;have HF:=hide hF;have hin:i <= p.cn:=hF.1;have hnb:p.cn <= 5864062014805:=HX.out.2.2.1.cloud.big;have HB4:=hide (HX.out.2.2.2.1.trans (b4.mono HX.out.2.2.2.1.size));have HX4:Hid (PBox w4 g1 p/\PBox w4 (g1+1+1) pv0/\PSrc w4 p):=⟨HX.out.1.below b4,HX.out.2.1.below b4,HX.out.2.2.1.below b4⟩
 have HSt:Hid (∀ (W:World) co cn cc,W.heap[g1]? = w4.heap[g1]? -> p.co=co -> p.cn=cn -> p.cc=cc -> W.cell? ⟨g1,0,none⟩=some (.slice p.vo p.vn p.vc)/\W.cell? ⟨g1,1,none⟩=some (.slice co cn cc)):=fun W co cn cc hW h1 h2 h3=>by rw [<- h1,<- h2,<- h3];exact PBox.nums (show PBox W g1 p from hW.trans HX4.out.1)
 have HEn:Hid (∀ (q:Pv),PSrc w q -> q.P=⟨p.P.vec,(p.P.cloud.drop i).take 1⟩ -> (stP (.pointer (some ⟨g1+1+1,0,none⟩)) (PV q)).run Tryz.prog w4.drew = .ok () (w4.drew.setRow (g1+1+1) (PC q))/\PBox (w4.drew.setRow (g1+1+1) (PC q)) (g1+1+1) q/\NrA w (w4.drew.setRow (g1+1+1) (PC q)) (.returned (PV q)) p d):=fun q hq hP=>by
  have hb:Below w.heap.size w (w4.drew.setRow (g1+1+1) (PC q)):=zh (HB4.out.trans ((zf w4).mono HB4.out.size)) (by have:=HX.out.2.2.2.2;omega);have hX:PBox w4.drew (g1+1+1) pv0:=HX4.out.2.1.below (zf w4);exact ⟨qV (p':=q) hX,setRow_heap _ _ _ _ _ _ hX,q,i,rfl,hq.below hb,HF.out,hP,hb⟩
 obtain ⟨u,hu⟩:∃ u:Nat,i+1=u:=⟨_,rfl⟩
 have eu:(i:Int)+1=(u:Int):=by omega
 have ew:IntKind.i64.wrap (u:Int)=(u:Int):=by rw [IntKind.wrap_i64];omega
 clear hF b4 HBs;by_cases hlt:i < p.cn
 ·have emin:min (u:Int) (p.cn:Int)=(u:Int):=by omega
  obtain ⟨ad,hco,-⟩:=HS.out.cloud.at i hlt;have hcap:=HS.out.cloud.cap
  have hci:¬ p.cc=i:=by omega
  have h1:(u:Int) <= (p.cc:Int):=by omega
  have h2:i <= u:=by omega
  have h3:u <= p.cc:=by omega
  obtain ⟨t8,x8,hE⟩:=HEn.out ⟨p.vo,p.vn,p.vc,some (ad.add (i * 3)),u - i,p.cc - i,⟨p.P.vec,(p.P.cloud.drop i).take 1⟩⟩ ⟨HS.out.vec,by rw [show u - i=1 by omega];exact zfX (hco ▸ HS.out.cloud) hlt (p.cc - i) (show 1 <= p.cc - i by omega),HS.out.big⟩ rfl;replace t8:(stP (.pointer (some ⟨g1+1+1,0,none⟩)) (.agg #[.slice p.vo p.vn p.vc,.slice (some (ad.add (i * 3))) (u - i) (p.cc - i)])).run Tryz.prog w4.drew = .ok () (w4.drew.setRow (g1+1+1) (PC ⟨p.vo,p.vn,p.vc,some (ad.add (i * 3)),u - i,p.cc - i,⟨p.P.vec,(p.P.cloud.drop i).take 1⟩⟩)):=t8;have HX8:=hide x8;have HE:=hide hE;clear x8 hE;go_upto_region 2 with fail;refine wp_region_held_drew (S:=fun W=>W.cell? ⟨g1,0,none⟩=some (.slice p.vo p.vn p.vc)/\W.cell? ⟨g1,1,none⟩=some (.slice (some ad) p.cn p.cc)) (by kernel_rfl) (HSt.out _ _ _ _ rfl hco rfl rfl) (fun hHeld=>?_);refine wU 0 ?_
  refine wU 1 ?_;refine wU 2 ?_;refine wU 3 ?_;refine wU 4 ?_;refine wU 5 ?_;refine wU 6 ?_;refine wU 7 ?_;refine wU 8 ?_;refine wU 9 ?_;refine wU 10 ?_;refine wpAnyH_take (i:=11) (oi:=⟨some 25,.slice 24 (.tmp 17) (some (.tmp 18)) (some (.tmp 24)) none,24, "picks.go:87",#[⟨3,.data⟩,⟨4,.data⟩,⟨10,.data⟩],none⟩) (v:=.slice (some (ad.add (i * 3))) (u - i) (p.cc - i)) rfl (by kernel_rfl) (by kernel_rfl) (by kernel_rfl) (fun _ _ _ h=>h) (Or.inl ⟨by rfl,?_⟩) (by assumption) ?_
  skip
  ·(intro w hSw;(try dsimp only at hSw);go_simp);first | done | with_reducible rfl
  simp only [Act.put,List.setIfInBounds_toArray,List.set_cons_zero,List.set_cons_succ];refine wU 12 ?_;refine wpAnyH_ready (rs:=[13]) (by kernel_rfl) (by simp) (.cons rfl (fun K hK=>?_) .nil);go_simp;refine hK.out _ _ (HSt.out _ _ _ _ ?_ hco rfl rfl) (fun hHeld=>?_)
  ·exact setRow_other _ _ _ _ (by omega)
  clear hK K t8;refine wpAnyH_done (by kernel_rfl) ?_ _;clear hHeld;go_wp2_with fail;refine bodyPost_ret (resP rfl rfl HX8.out) rfl ?_;exact HE.out
 ·obtain rfl:i=p.cn:=by omega
  have emin:min (u:Int) (p.cn:Int)=(p.cn:Int):=by omega
  have hl:=HS.out.cloud.len
  cases hco:p.co with
  | none =>
   obtain ⟨hn0,hc0⟩:=HS.out.cloud.nil hco
   have hn0i:(p.cn:Int)=0:=by omega
   have emin0:min (1:Int) 0=0:=by decide
   have ew1:IntKind.i64.wrap (1:Int)=1:=by rw [IntKind.wrap_i64];decide
   obtain ⟨t8,x8,hE⟩:=HEn.out ⟨p.vo,p.vn,p.vc,none,0,0,⟨p.P.vec,(p.P.cloud.drop p.cn).take 1⟩⟩ ⟨HS.out.vec,wT hl (Nat.le_refl _) (fun _=>rfl),HS.out.big⟩ rfl;replace t8:(stP (.pointer (some ⟨g1+1+1,0,none⟩)) (.agg #[.slice p.vo p.vn p.vc,.slice none 0 0])).run Tryz.prog w4.drew = .ok () (w4.drew.setRow (g1+1+1) (PC ⟨p.vo,p.vn,p.vc,none,0,0,⟨p.P.vec,(p.P.cloud.drop p.cn).take 1⟩⟩)):=t8;have HX8:=hide x8;have HE:=hide hE;clear x8 hE;go_upto_region 2 with fail;refine wp_region_held_drew (S:=fun W=>W.cell? ⟨g1,0,none⟩=some (.slice p.vo p.vn p.vc)/\W.cell? ⟨g1,1,none⟩=some (.slice none 0 0)) (by kernel_rfl) (HSt.out _ _ _ _ rfl hco hn0 hc0) (fun hHeld=>?_);refine wU 0 ?_;refine wU 1 ?_;refine wU 2 ?_;refine wU 3 ?_;refine wU 4 ?_;refine wU 5 ?_;refine wU 6 ?_;refine wU 7 ?_;refine wU 8 ?_;refine wU 9 ?_;refine wU 10 ?_
   refine wpAnyH_take (i:=11) (oi:=⟨some 25,.slice 24 (.tmp 17) (some (.tmp 18)) (some (.tmp 24)) none,24, "picks.go:87",#[⟨3,.data⟩,⟨4,.data⟩,⟨10,.data⟩],none⟩) (v:=.slice none 0 0) rfl (by kernel_rfl) (by kernel_rfl) (by kernel_rfl) (fun _ _ _ h=>h) (Or.inl ⟨by rfl,?_⟩) (by assumption) ?_
   skip
   ·(intro w hSw;(try dsimp only at hSw);go_simp);first | done | with_reducible rfl
   simp only [Act.put,List.setIfInBounds_toArray,List.set_cons_zero,List.set_cons_succ];refine wU 12 ?_;refine wpAnyH_ready (rs:=[13]) (by kernel_rfl) (by simp) (.cons rfl (fun K hK=>?_) .nil);go_simp;refine hK.out _ _ (HSt.out _ _ _ _ ?_ hco hn0 hc0) (fun hHeld=>?_)
   ·exact setRow_other _ _ _ _ (by omega)
   clear hK K t8;refine wpAnyH_done (by kernel_rfl) ?_ _;clear hHeld;go_wp2_with fail;refine bodyPost_ret (resP rfl rfl HX8.out) rfl ?_;exact HE.out
  | some ad =>
   have hcap:=HS.out.cloud.cap;by_cases hcc:p.cc=p.cn
   ·obtain ⟨t8,x8,hE⟩:=HEn.out ⟨p.vo,p.vn,p.vc,some ad,0,0,⟨p.P.vec,(p.P.cloud.drop p.cn).take 1⟩⟩ ⟨HS.out.vec,wT hl (Nat.le_refl _) (fun h=>by cases h),HS.out.big⟩ rfl;replace t8:(stP (.pointer (some ⟨g1+1+1,0,none⟩)) (.agg #[.slice p.vo p.vn p.vc,.slice (some ad) 0 0])).run Tryz.prog w4.drew = .ok () (w4.drew.setRow (g1+1+1) (PC ⟨p.vo,p.vn,p.vc,some ad,0,0,⟨p.P.vec,(p.P.cloud.drop p.cn).take 1⟩⟩)):=t8;have HX8:=hide x8;have HE:=hide hE;clear x8 hE;go_upto_region 2 with fail;refine wp_region_held_drew (S:=fun W=>W.cell? ⟨g1,0,none⟩=some (.slice p.vo p.vn p.vc)/\W.cell? ⟨g1,1,none⟩=some (.slice (some ad) p.cn p.cn)) (by kernel_rfl) (HSt.out _ _ _ _ rfl hco rfl hcc) (fun hHeld=>?_);refine wU 0 ?_;refine wU 1 ?_;refine wU 2 ?_;refine wU 3 ?_;refine wU 4 ?_;refine wU 5 ?_;refine wU 6 ?_;refine wU 7 ?_;refine wU 8 ?_
    refine wU 9 ?_;refine wU 10 ?_;refine wpAnyH_take (i:=11) (oi:=⟨some 25,.slice 24 (.tmp 17) (some (.tmp 18)) (some (.tmp 24)) none,24, "picks.go:87",#[⟨3,.data⟩,⟨4,.data⟩,⟨10,.data⟩],none⟩) (v:=.slice (some ad) 0 0) rfl (by kernel_rfl) (by kernel_rfl) (by kernel_rfl) (fun _ _ _ h=>h) (Or.inl ⟨by rfl,?_⟩) (by assumption) ?_
    skip
    ·(intro w hSw;(try dsimp only at hSw);go_simp);first | done | with_reducible rfl
    simp only [Act.put,List.setIfInBounds_toArray,List.set_cons_zero,List.set_cons_succ];refine wU 12 ?_;refine wpAnyH_ready (rs:=[13]) (by kernel_rfl) (by simp) (.cons rfl (fun K hK=>?_) .nil);go_simp;refine hK.out _ _ (HSt.out _ _ _ _ ?_ hco rfl hcc) (fun hHeld=>?_)
    ·exact setRow_other _ _ _ _ (by omega)
    clear hK K t8;refine wpAnyH_done (by kernel_rfl) ?_ _;clear hHeld;go_wp2_with fail;refine bodyPost_ret (resP rfl rfl HX8.out) rfl ?_;exact HE.out
   ·obtain ⟨t8,x8,hE⟩:=HEn.out ⟨p.vo,p.vn,p.vc,some (ad.add (p.cn * 3)),0,p.cc - p.cn,⟨p.P.vec,(p.P.cloud.drop p.cn).take 1⟩⟩ ⟨HS.out.vec,wT hl (Nat.le_refl _) (fun h=>by cases h),HS.out.big⟩ rfl;replace t8:(stP (.pointer (some ⟨g1+1+1,0,none⟩)) (.agg #[.slice p.vo p.vn p.vc,.slice (some (ad.add (p.cn * 3))) 0 (p.cc - p.cn)])).run Tryz.prog w4.drew = .ok () (w4.drew.setRow (g1+1+1) (PC ⟨p.vo,p.vn,p.vc,some (ad.add (p.cn * 3)),0,p.cc - p.cn,⟨p.P.vec,(p.P.cloud.drop p.cn).take 1⟩⟩)):=t8;have HX8:=hide x8;have HE:=hide hE;clear x8 hE;go_upto_region 2 with fail;refine wp_region_held_drew (S:=fun W=>W.cell? ⟨g1,0,none⟩=some (.slice p.vo p.vn p.vc)/\W.cell? ⟨g1,1,none⟩=some (.slice (some ad) p.cn p.cc)) (by kernel_rfl) (HSt.out _ _ _ _ rfl hco rfl rfl) (fun hHeld=>?_);refine wU 0 ?_;refine wU 1 ?_;refine wU 2 ?_;refine wU 3 ?_
    refine wU 4 ?_;refine wU 5 ?_;refine wU 6 ?_;refine wU 7 ?_;refine wU 8 ?_;refine wU 9 ?_;refine wU 10 ?_;refine wpAnyH_take (i:=11) (oi:=⟨some 25,.slice 24 (.tmp 17) (some (.tmp 18)) (some (.tmp 24)) none,24, "picks.go:87",#[⟨3,.data⟩,⟨4,.data⟩,⟨10,.data⟩],none⟩) (v:=.slice (some (ad.add (p.cn * 3))) 0 (p.cc - p.cn)) rfl (by kernel_rfl) (by kernel_rfl) (by kernel_rfl) (fun _ _ _ h=>h) (Or.inl ⟨by rfl,?_⟩) (by assumption) ?_
    skip
    ·(intro w hSw;(try dsimp only at hSw);go_simp);first | done | with_reducible rfl
    simp only [Act.put,List.setIfInBounds_toArray,List.set_cons_zero,List.set_cons_succ];refine wU 12 ?_;refine wpAnyH_ready (rs:=[13]) (by kernel_rfl) (by simp) (.cons rfl (fun K hK=>?_) .nil);go_simp;refine hK.out _ _ (HSt.out _ _ _ _ ?_ hco rfl rfl) (fun hHeld=>?_)
    ·exact setRow_other _ _ _ _ (by omega)
    clear hK K t8;refine wpAnyH_done (by kernel_rfl) ?_ _;clear hHeld;go_wp2_with fail;refine bodyPost_ret (resP rfl rfl HX8.out) rfl ?_;exact HE.out
end Go.Proofs.YtjffpimfngdggaaGreat
namespace Go.Proofs.YtjffpimfngdggaaGreat.K
section
open Go.RowKit
attribute [local go_sem ↓] zy zx
attribute [local go_sem] zJ zu
def DC (e:En):Array Value:=#[.int .i64 e.rep,.int .i64 e.num]
def ld26 (v:Value):Sem Value:=Instr.loadAt 48 v
theorem xI (v:Value):Instr.loadAt 48 v=ld26 v:=rfl
attribute [local go_sem ↓] xI
theorem size26:(Tryz.prog.info? 48).map (·.size)=some 2:=by kernel_rfl
theorem jc {w:World} {p:Addr} {e:En} (A:EnAt w p e):(ld26 (.pointer (some p))).run Tryz.prog w = .ok (.agg (DC e)) w:=by
 have hl:=run_loadCells_list (P:=Tryz.prog) (w:=w) p (DC e).toList (fun j v hv=>by
  match j,hv with
  | 0,hv=>cases hv;rw [add_zero];exact A.c0
  | 1,hv=>cases hv;exact A.c1
  | j+2,hv=>simp [DC] at hv)
 unfold ld26;simp only [Instr.loadAt,Instr.sureAddr,Sem.run_bind,Sem.run_pure,Result.andThen]
 cases hq:Tryz.prog.info? 48 with
 | none=>have:=size26;simp [hq] at this
 | some x =>
  have hs:x.size=2:=by have:=size26;simpa [hq] using this
  have hagg:(isAgg 48).run Tryz.prog w = .ok true w:=by
   unfold isAgg;rw [Sem.run_bind,run_underlying Tryz.underlying48 w];rfl
  have e4:(DC e).toList.length=2:=rfl;rw [e4] at hl;simp [loadVar,Sem.run_bind,hagg,sizeOf,typeInfo,hq,hs,hl]

end
section
open Go.RowKit

abbrev bA:ByteArray:=⟨#[65]⟩
abbrev bB:ByteArray:=⟨#[66]⟩
def someL:List En:=[⟨0,3,bA,5⟩,⟨1,1,bB,2⟩,⟨1,4,bA,1⟩]
def GivesE (w w':World) (e:Ending) (L:List En):Prop:=∃ ao n c,e = .returned (.slice ao n c)/\ESrc w' ao n c L/\Below w.heap.size w w'/\∀ ad,ao=some ad -> w.heap.size <= ad.block
end
section
open Go.RowKit

def ecs (L:List En):List Value:=(L.map (fun e=>(EC e).toList)).flatten
theorem y8 (L R:List En):ecs (L++R)=ecs L++ecs R:=by simp [ecs]
theorem zie (e:En):ecs [e]=(EC e).toList:=by simp [ecs]
theorem ju (L:List En):(ecs L).length=L.length * 4:=by
 induction L with
 | nil=>rfl
 | cons a L ih=>have:ecs (a :: L)=(EC a).toList++ecs L:=rfl;rw [this,List.length_append,ih];simp [EC];omega
theorem zc6 (L:List En) (t j:Nat) (ht:t < L.length) (hj:j < 4):(ecs L)[t * 4+j]? = (EC (L.getD t en0)).toList[j]?:=by
 induction L generalizing t with
 | nil=>simp at ht
 | cons a L ih =>
  have e:ecs (a :: L)=(EC a).toList++ecs L:=rfl
  cases t with
  | zero=>rw [e,List.getElem?_append_left (by simp [EC];omega)];simp [List.getD]
  | succ t =>
   rw [e,List.getElem?_append_right (by simp [EC];omega)];have h:=ih t (by simpa using ht)
   have e4:(t+1) * 4+j - (EC a).toList.length=t * 4+j:=by simp [EC];omega
   rw [e4,h];simp [List.getD]
theorem info28:(Tryz.prog.info? 50).map (fun i=>(i.zero,i.size,i.bytes))=some (some (.agg #[.int .i64 0,.int .i64 0,.string ⟨#[]⟩,.int .i64 0]),4,40):=by kernel_rfl

structure OwnE (B0 B:Nat) (w w':World) (ao:Option Addr) (cap:Nat) (acc:List En):Prop where
 own:w'.ownsRow B 50 4 (.slice ao acc.length cap) acc.length (ecs acc)
 below:Below B0 w w'
 hB:B <= w'.heap.size
 hB0:B0 <= B
theorem OwnE.nil {B0 B:Nat} {w w':World} (hb:Below B0 w w') (hB:B <= w'.heap.size) (h0:B0 <= B):OwnE B0 B w w' none 0 []:=
 ⟨World.ownsRow_nil _ _ _ _,hb,hB,h0⟩
theorem OwnE.append {B0 B:Nat} {w w':World} {ao:Option Addr} {cap:Nat} {acc:List En} (O:OwnE B0 B w w' ao cap acc) (e:En) (C:Array Value) (hC:C=EC e) (hlen:acc.length < 3518437208883)
  {ops:Array Oper} {rest:List Oper} {o:Oper} {a:Act} {Q:Exit -> Act -> World -> Prop} (hgd:o.guard=none) (s x:Operand) (ho:o.op = .call { callee:=.builtin .append,args:=#[s,x],argTypes:=#[22,22] })
  (n:Nat) (hn:acc.length=n) (hs:a.eval s = .slice ao n cap) (hx:a.eval x = .slice (some ⟨w'.heap.size,0,none⟩) 1 1)
  (hK:∀ (g cap2:Nat) (w2:World),OwnE B0 B w w2 (some ⟨g,0,none⟩) cap2 (acc++[e]) -> (∀ k,k < B -> w2.heap[k]? = w'.heap[k]?) -> wpList Tryz.prog ops Q rest (a.put o.dst (.slice (some ⟨g,0,none⟩) (n+1) cap2)) w2) :
  wpList Tryz.prog ops Q (o :: rest) a (w'.alloc (.cells C 50)):=by
 subst hn hC;obtain ⟨i0,hi,hz0,hz1,hz2⟩:=info_parts info28;have hB:=O.hB;have hB0:=O.hB0;refine wpList_append_own _ hgd s x 22 ho B 50 i0 (.agg #[.int .i64 0,.int .i64 0,.string ⟨#[]⟩,.int .i64 0]) 4 40 Tryz.underlying22 hi hz0 hz1 hz2 rfl (by decide) _ acc.length (ecs acc) hs (O.own.alloc _) ⟨w'.heap.size,0,none⟩ 1 1 (EC e).toList hx (by simp [EC]) ?_ ?_ (by unfold maxLen;omega) (by omega) (by simp;omega) ?_
 ·intro j u hj;rw [Addr.add_lit,Nat.zero_add,World.cell?_alloc_new];simpa using hj
 ·intro u hu;exact bu e u hu
 ·intro v' w2 hown hgrow _;rcases hown.2 with ⟨h0,h00⟩ | ⟨g,cap2,cur,hv,hbg,hgg,hnc,hcm,hcsz,htake⟩
  ·omega
  ·subst hv;have hrow:∀ k,(Value.slice ao acc.length cap).ownBlock=some k -> B <= k:=fun k hk=>(O.own.lt k hk).1;have hsz:=hgrow.size;rw [World.size_alloc] at hsz;refine hK g cap2 w2 ⟨?_,(O.below.alloc (by omega) _).grown hgrow (by simp;omega) (fun k hk=>by have:=hrow k hk;omega),by omega,hB0⟩ (fun k hk=>?_)
   ·rw [List.length_append,y8,zie];exact hown
   ·rw [hgrow.block k (by simp;omega) (fun e=>by have:=hrow k e.symm;omega)];exact Below.heap_alloc _ _ _ (by omega)
theorem OwnE.later {B0 B:Nat} {w w' w2:World} {ao:Option Addr} {cap:Nat} {acc:List En} (O:OwnE B0 B w w' ao cap acc) (hb:Below w'.heap.size w' w2):OwnE B0 B w w2 ao cap acc:=by
 refine ⟨⟨O.own.1,?_⟩,O.below.trans (hb.mono (Nat.le_trans O.hB0 O.hB)),Nat.le_trans O.hB hb.size,O.hB0⟩;rcases O.own.2 with h | ⟨g,cap2,cur,hv,hbg,hgg,r⟩
 ·exact Or.inl h
 ·exact Or.inr ⟨g,cap2,cur,hv,hbg,(hb.block g (Array.getElem?_eq_some_iff.1 hgg).1).trans hgg,r⟩
theorem OwnE.src {B0 B:Nat} {w w':World} {ao:Option Addr} {cap:Nat} {acc:List En} (O:OwnE B0 B w w' ao cap acc) (hs:∀ e∈acc,e.sku.size <= maxLen) (hl:acc.length <= 3518437208883):ESrc w' ao acc.length cap acc/\∀ ad,ao=some ad -> B <= ad.block:=by
 rcases O.own.2 with ⟨h0,h00⟩ | ⟨g,cap2,cur,hv,hbg,hgg,hnc,hcm,hcsz,htake⟩
 ·simp only [Value.slice.injEq] at h0;obtain ⟨rfl,e0,rfl⟩:=h0;exact ⟨⟨rfl,fun _=>⟨h00,rfl⟩,fun ad h=>(by cases h),hs,hl⟩,fun ad h=>(by cases h)⟩
 ·simp only [Value.slice.injEq,true_and] at hv;obtain ⟨rfl,rfl⟩:=hv
  have cell:∀ t j,t < acc.length -> j < 4 -> w'.cell? ⟨g,t * 4+j,none⟩=(EC (acc.getD t en0)).toList[j]?:=fun t j ht hj=>by
   rw [O.own.cellAt (t * 4+j) (by omega),zc6 _ t j ht hj]
  refine ⟨⟨rfl,fun h=>(by cases h),fun ad h t ht=>?_,hs,hl⟩,fun ad h=>by obtain rfl:=Option.some.inj h;exact hbg⟩;obtain rfl:=Option.some.inj h;refine ⟨?_,?_,?_,?_⟩
  ·rw [Addr.add_lit,Nat.zero_add];exact cell t 0 ht (by omega)
  ·rw [Addr.add_lit,Addr.add_lit,Nat.zero_add];exact cell t 1 ht (by omega)
  ·rw [Addr.add_lit,Addr.add_lit,Nat.zero_add];exact cell t 2 ht (by omega)
  ·rw [Addr.add_lit,Addr.add_lit,Nat.zero_add];exact cell t 3 ht (by omega)
end
section
open Go.RowKit

theorem xz (e:En):Array.foldl (fun cs x=>cs.setIfInBounds x.snd x.fst) (EC en0) (EC e).zipIdx 0 4=EC e:=rfl
theorem jr (L:List En) (k:Nat) (h:k < L.length):L.take (k+1)=L.take k++[L.getD k en0]:=by
 rw [List.take_succ_eq_append_getElem h];simp [List.getD,h]
theorem vt {w w2:World} {a:Addr} (h:w2.heap[a.block]? = w.heap[a.block]?):w2.cell? a=w.cell? a:=by
 unfold World.cell?;rw [h]
theorem ESrc.kept {w w2:World} {ao:Option Addr} {m c:Nat} {L:List En} (h:ESrc w ao m c L) (hk:∀ ad,ao=some ad -> w2.heap[ad.block]? = w.heap[ad.block]?):ESrc w2 ao m c L:=by
 refine ⟨h.1,h.2.1,fun ad ha t ht=>?_,h.2.2.2⟩;have A:=h.2.2.1 ad ha t ht;have hb:∀ j,w2.cell? ((ad.add (t * 4)).add j)=w.cell? ((ad.add (t * 4)).add j):=fun j=>vt (by rw [zs,zs];exact hk ad ha);have hb0:w2.cell? (ad.add (t * 4))=w.cell? (ad.add (t * 4)):=vt (by rw [zs];exact hk ad ha);exact ⟨hb0.trans A.c0,(hb 1).trans A.c1,(hb 2).trans A.c2,(hb 3).trans A.c3⟩
end
section
open Go.RowKit
attribute [local go_sem ↓] zy zx
attribute [local go_sem] zJ zu zH
attribute [local go_sem] xz
theorem zdB (ao:Option Addr) (n cap:Nat) (L:List En) (b c2:Nat) (p:En -> Bool) (w:World) (hS:ESrc w ao n cap L)
  (hp:∀ W,Below w.heap.size w W -> ∀ e,Calls Tryz.prog 145 #[EV e,.pointer (some ⟨b,0,none⟩),.pointer (some ⟨c2,0,none⟩)] W fun x w'=>x = .returned (.bool (p e))/\Below W.heap.size W w') :
  Calls Tryz.prog 87 #[.slice ao n cap,.func (.func 145) #[] #[.pointer (some ⟨b,0,none⟩),.pointer (some ⟨c2,0,none⟩)]] w fun x w'=>GivesE w w' x (L.filter p):=by
 have HS:=hide hS;have hn:=hS.2.2.2.2;have HL:Hid (L.length=n):=hS.1;have HP:=hide hp;clear hS hp;go_enter Tryz.func87,Tryz.ntmps87;go_wp2_with fail;go_loopw [5,10] (fun v i wr=>∃ (k:Nat) (ap:Option Addr) (c:Nat),k <= n/\v = .slice ap ((L.take k).filter p).length c/\i = .int .i64 k/\Hid (OwnE w.heap.size w.heap.size w wr ap c ((L.take k).filter p))) (fun _ i _=>n - (intOf i).toNat)
 case atStart=>exact ⟨0,none,0,Nat.zero_le _,rfl,rfl,OwnE.nil (Below.refl _ _) (Nat.le_refl _) (Nat.le_refl _)⟩
 case round =>
  obtain ⟨k,ap,c,hk,rfl,rfl,HO⟩:=hrel;obtain ⟨acc,Hacc⟩:∃ acc,Hid ((L.take k).filter p=acc):=⟨_,rfl⟩
  have hal:acc.length <= k:=by
   rw [<- Hacc.out];have h1:=List.length_filter_le p (L.take k);have h2:=List.length_take_le k L;omega
  rw [Hacc.out] at HO ⊢;by_cases hlt:k < n
  ·obtain ⟨ad,rfl,A0⟩:=(HS.out.below HO.out.below).at k hlt;have hld:=zN A0;obtain ⟨e,He⟩:∃ e,Hid (L.getD k en0=e):=⟨_,rfl⟩;rw [He.out] at hld A0;have HT:=hide (jr L k (by rw [HL.out];exact hlt));rw [He.out] at HT;obtain ⟨w1,hst,X1,B1,Z1⟩:=made wr e wr.heap.size rfl;have HX:=hide X1;have O1:=hide (HO.out.later B1)
   have lx:=zN X1.at
   have HC:=hide (HP.out w1 O1.out.below e);clear X1 B1 A0;obtain ⟨q,Hq⟩:∃ q,Hid (p e=q):=⟨_,rfl⟩;rw [Hq.out] at HC
   cases q with
   | false =>
    have HN:Hid ((L.take (k+1)).filter p=acc):=by show _=_;rw [HT.out,List.filter_append,Hacc.out];simp [Hq.out]
    go_wp2_with fail;refine HC.out.mono ?_;rintro x w2 ⟨rfl,b2⟩;have O2:=hide (O1.out.later b2);clear b2;go_wp2_with fail;go_roundw
    case rel=>exact ⟨k+1,ap,c,by omega,by rw [HN.out],by go_num,by rw [HN.out];exact O2⟩
    case measure=>simp [intOf];omega
   | true =>
    have HN:Hid ((L.take (k+1)).filter p=acc++[e]):=by show _=_;rw [HT.out,List.filter_append,Hacc.out];simp [Hq.out]
    go_wp2_with fail;refine HC.out.mono ?_;rintro x w2 ⟨rfl,b2⟩;have O2:=O1.out.later b2
    have l2:=zN (HX.out.below b2).at
    clear b2 lx;go_wp2_with (at_builtin;refine O2.append e _ rfl (by omega) rfl (.tmp 17) (.tmp 19) rfl acc.length rfl rfl rfl ?_;intro g4 c4 w4 O4 hk4);go_roundw
    case rel=>exact ⟨k+1,some ⟨g4,0,none⟩,c4,by omega,by rw [HN.out];simp,by go_num,by rw [HN.out];exact O4⟩
    case measure=>simp [intOf];omega
  ·obtain rfl:k=n:=by omega
   have HF:Hid (L.filter p=acc):=by show _=_;rw [<- Hacc.out,List.take_of_length_le (by rw [HL.out];exact Nat.le_refl _)]
   have hs:∀ e∈acc,e.sku.size <= maxLen:=by
    intro e he;rw [<- HF.out] at he;exact HS.out.2.2.2.1 e ((List.mem_filter.1 he).1)
   obtain ⟨S1,F1⟩:=HO.out.src hs (by omega);have HS1:=hide S1;have HF1:=hide F1;clear S1 F1 hs;go_wp2_with fail;go_ret;exact ⟨_,_,_,rfl,by rw [HF.out];exact HS1.out,HO.out.below,HF1.out⟩
end
end Go.Proofs.YtjffpimfngdggaaGreat.K
namespace Go.Proofs
open Go.Shelf
def Tryz.conS_ren:Go.Shelf.Ren:=⟨fun | 8=>63 | 6=>110 | n=>n,fun | 22=>24 | 23=>104 | 25=>117 | 4=>4 | 3=>3 | 0=>0 | n=>n,fun | n=>n⟩
theorem Tryz.conS:Go.Proofs.SlLaysH0.n8 Tryz.prog Tryz.conS_ren:={
 mixed:=by kernel_rfl
 f6:=⟨Tryz.f110.name,by decide,Tryz.func110.trans (congrArg some (by kernel_rfl))⟩
 f8:=⟨Tryz.f63.name,by decide,Tryz.func63.trans (congrArg some (by kernel_rfl))⟩
 t0:=Tryz.underlying0
 a0:=Tryz.isAgg0
 z0:=Tryz.sizeOf0
 v0:=Tryz.zeroValue0
 t3:=Tryz.underlying3
 a3:=Tryz.isAgg3
 z3:=Tryz.sizeOf3
 v3:=Tryz.zeroValue3
 t4:=Tryz.underlying4
 a4:=Tryz.isAgg4
 z4:=Tryz.sizeOf4
 v4:=Tryz.zeroValue4
 t22:=Tryz.underlying24
 a22:=Tryz.isAgg24
 z22:=Tryz.sizeOf24
 v22:=Tryz.zeroValue24
 t25:=Tryz.underlying117
 a25:=Tryz.isAgg117
 z25:=Tryz.sizeOf117
 v25:=Tryz.zeroValue117 }
end Go.Proofs
namespace Go.Proofs.YtjffpimfngdggaaGreat
open Go.RowKit
attribute [local go_sem ↓] zr zq qh qg ji jG
attribute [local go_sem] zE zi qq zk zF zQ qJ xw
theorem yZ (d:Rn) (w:World):Calls Tryz.prog 61 #[RV d] w fun e w'=>e = .returned (.bool (V.isR d.lo && (decide (1 <= d.hi) && decide (d.hi <= 1000000000))))/\Below w.heap.size w w':=by
 have HB:=hide (ze w (.cells (RC d) 48));have X1:=qe w 48 d;have c0:=X1.at.c0;have c1:(w.alloc (.cells (RC d) 48)).cell? ⟨w.heap.size,1,none⟩=some (.int .i64 d.hi):=X1.at.c1;clear X1;obtain ⟨r,n⟩:=d;dsimp only at c0 c1 ⊢;obtain ⟨x,Hx⟩:∃ x,Hid (V.isR r=x):=⟨_,rfl⟩;rw [Hx.out]
 cases x with
 | false =>
  have HF:Hid ((false && (decide (1 <= n) && decide (n <= 1000000000)))=false):=rfl;go_enter Tryz.func61,Tryz.ntmps61;go_wp2_with (go_at_call 108;refine (zM r _).mono ?_;rintro e w' ⟨rfl,rfl⟩;rw [Hx.out]);go_ret;exact ⟨zt HF.out.symm,HB.out⟩
 | true =>
  by_cases h1:1 <= n
  ·have HF:Hid ((true && (decide (1 <= n) && decide (n <= 1000000000)))=decide (n <= 1000000000)):=by show _=_;simp [h1]
   rw [HF.out];go_enter Tryz.func61,Tryz.ntmps61;go_wp2_with (go_at_call 108;refine (zM r _).mono ?_;rintro e w' ⟨rfl,rfl⟩;rw [Hx.out]);go_ret;exact ⟨rfl,HB.out⟩
  ·have HF:Hid ((true && (decide (1 <= n) && decide (n <= 1000000000)))=false):=by show _=_;simp [h1]
   rw [HF.out];go_enter Tryz.func61,Tryz.ntmps61;go_wp2_with (go_at_call 108;refine (zM r _).mono ?_;rintro e w' ⟨rfl,rfl⟩;rw [Hx.out]);go_ret;exact ⟨rfl,HB.out⟩
theorem zgz (ao:Option Addr) (c:Nat) (v:Value) (w:World):Calls Tryz.prog 110 #[.slice ao 0 c,v] w fun e w'=>e = .returned (.int .i64 (-1))/\w'=w:=by
 go_enter Tryz.func110,Tryz.ntmps110;go_wp2_with fail;go_loopw [5,8] (fun _ i wr=>i = .int .i64 0/\wr=w) (fun _ _ _=>0)
 case atStart=>exact ⟨rfl,rfl⟩
 case round =>
  obtain ⟨rfl,rfl⟩:=hrel;go_wp2_with fail;go_ret;exact ⟨rfl,rfl⟩
theorem zc9 (ao:Option Addr) (c:Nat) (v:Value) (w:World):Calls Tryz.prog 63 #[.slice ao 0 c,v] w fun e w'=>e = .returned (.bool false)/\w'=w:=by
 go_enter Tryz.func63,Tryz.ntmps63;go_wp2_with (go_at_call 110;refine (zgz _ _ _ _).mono ?_;rintro e w' ⟨rfl,rfl⟩);go_ret;exact ⟨rfl,rfl⟩
def inSp (d:Rn) (c:Sn):Bool:=decide (c.rep=d.lo) && (decide (c.lo <= d.hi) && decide (d.hi <= c.hi))
theorem zgr (p:Nat) (c:Sn) (d:Rn) (w:World) (hd:Box w p 48 d):Calls Tryz.prog 64 #[SV c,.pointer (some ⟨p,0,none⟩)] w fun e w'=>e = .returned (.bool (inSp d c))/\Below w.heap.size w w':=by
 have HB:=hide (ze w (.cells (SC c) 104))
 obtain ⟨c0,c1,c2⟩:=(qP w c).at
 have X1:=hd.below HB.out;have d0:=X1.at.c0;have d1:(w.alloc (.cells (SC c) 104)).cell? ⟨p,1,none⟩=some (.int .i64 d.hi):=X1.at.c1;clear X1 hd;obtain ⟨rp,lo,hi⟩:=c;obtain ⟨r,n⟩:=d;dsimp only at c0 c1 c2 d0 d1 ⊢;by_cases h1:rp=r
 ·by_cases h2:lo <= n
  ·have HF:Hid (inSp ⟨r,n⟩ ⟨rp,lo,hi⟩=decide (n <= hi)):=by show _=_;simp [inSp,h1,h2]
   have h1':(rp == r)=true:=by simp [h1]
   clear h1;go_enter Tryz.func64,Tryz.ntmps64;go_wp2_with fail;go_ret;exact ⟨zt HF.out.symm,HB.out⟩
  ·have HF:Hid (inSp ⟨r,n⟩ ⟨rp,lo,hi⟩=false):=by show _=_;simp [inSp,h2]
   have h1':(rp == r)=true:=by simp [h1]
   clear h1;go_enter Tryz.func64,Tryz.ntmps64;go_wp2_with fail;go_ret;exact ⟨zt HF.out.symm,HB.out⟩
 ·have HF:Hid (inSp ⟨r,n⟩ ⟨rp,lo,hi⟩=false):=by show _=_;simp [inSp,h1]
  have h1':(rp == r)=false:=by simp [h1]
  clear h1;go_enter Tryz.func64,Tryz.ntmps64;go_wp2_with fail;go_ret;exact ⟨zt HF.out.symm,HB.out⟩
def encSn (s:Sn):List Value:=(SC s).toList
theorem zgU (ao:Option Addr) (n cap:Nat) (L:List Sn) (p:Nat) (d:Rn) (w:World) (hS:SSrc w ao n cap L) (hd:Box w p 48 d) :
  Calls Tryz.prog 63 #[.slice ao n cap,.func (.func 64) #[] #[.pointer (some ⟨p,0,none⟩)]] w fun e w'=>e = .returned (.bool (L.any (inSp d)))/\Below w.heap.size w w':=by
 by_cases hn:n=0
 ·subst hn;have e:=List.eq_nil_of_length_eq_zero hS.len;subst e;refine (zc9 ao cap _ w).mono ?_;rintro e w' ⟨rfl,rfl⟩;exact ⟨rfl,Below.refl _ _⟩
 ·obtain ⟨ad,rfl,A0⟩:=hS.at 0 (by omega);obtain ⟨b,o,rfl⟩:=hS.spot (by omega);have eg:∀ args w,(callFunc 64 args).run Tryz.prog w = .ok (.enter 64 args) w:=enters_of Tryz.func64 (by kernel_rfl) rfl;have h0:=World.block_lt_of_cell? _ _ A0.c0;rw [zs] at h0;have hp:=hd.lt
  have h:=AnyQ.slices_ContainsFunc Tryz.conS 3 Tryz.isAgg104 Tryz.sizeOf104 encSn (fun _=>rfl) (inSp d) 64 #[.pointer (some ⟨p,0,none⟩)] eg b o n cap L w
   (fun W r hb=>(zgr p r d W (hd.below hb)).mono fun e w' ⟨he,hb'⟩=>⟨he,hb.trans (hb'.mono hb.size)⟩)
   (by rw [hS.len];exact Nat.le_refl _) (by have:=hS.big;omega) h0
   (fun j hj i v hv=>by
    have A:=hS.cell _ rfl j (by rw [<- hS.len];exact hj)
    have e:L[j]! = L.getD j sn0:=by rw [getElem!_pos L j hj];simp [List.getD,hj]
    rw [e] at hv;have q0:=A.c0;have q1:=A.c1;have q2:=A.c2;rw [Addr.add_lit] at q0 q1 q2;rw [Addr.add_lit] at q1 q2
    match i,hv with
    | 0,hv=>rw [<- hv];exact q0
    | 1,hv=>rw [<- hv];exact q1
    | 2,hv=>rw [<- hv];exact q2
    | i+3,hv=>simp [encSn,SC] at hv)
  rw [List.take_of_length_le (by rw [hS.len];exact Nat.le_refl _)] at h;exact h
theorem zgC (P:Pst) (r:Nat) (hr:r < 16) (n:Int) (h1:1 <= n) (h2:n <= 1000000000):V.hasD P.vec (r:Int) n=decide (n <= P.vec.getD r 0):=by
 unfold V.hasD V.atI;rw [if_pos (by simp [V.isR];omega),Int.toNat_natCast];unfold V.at' V.clamp;rw [if_pos hr];generalize P.vec.getD r 0=z;rw [decide_eq_true h1,Bool.true_and];apply Bool.eq_iff_iff.2;rw [decide_eq_true_iff,decide_eq_true_iff]
 split
 ·omega
 ·split <;> omega
theorem zb4 (p:Pv) (d:Rn) (w:World) (hS:PSrc w p):Calls Tryz.prog 32 #[PV p,RV d] w fun e w'=>GivB w w' e (dotIn p.P d):=by
 have b1:=ze w (.cells (PC p) 26);have b2:=ze (w.alloc (.cells (PC p) 26)) (.cells (RC d) 48);obtain ⟨n0,n1⟩:=((zm w p).below b2).nums;have X1:=qe (w.alloc (.cells (PC p) 26)) 48 d;rw [World.size_alloc] at X1;have HX:=hide X1;have HBK:=hide (b1.trans (b2.mono b1.size));have HSP:=hide (hS.below HBK.out)
 have l0:=qm X1.at
 clear hS b1 b2 X1;obtain ⟨wk,hwk⟩:∃ wk,(w.alloc (.cells (PC p) 26)).alloc (.cells (RC d) 48)=wk:=⟨_,rfl⟩;rw [hwk] at n0 n1 HBK HSP HX l0;go_enter Tryz.func32,Tryz.ntmps32;go_wp2_with fail;clear hwk;refine (yZ d _).mono ?_;rintro e w1 ⟨rfl,b3⟩;have HB1:=wTr HBK b3;have HX1:=hide (HX.out.below b3);have HSP1:=hide (HSP.out.below b3);have m0:=(b3.cell (World.block_lt_of_cell? _ _ n0)).trans n0;have m1:=(b3.cell (World.block_lt_of_cell? _ _ n1)).trans n1
 have l1:=qm HX1.out.at
 clear n0 n1 l0 HX HSP HBK b3;by_cases hd:V.isR d.lo=true/\1 <= d.hi/\d.hi <= 1000000000
 ·rw [show (V.isR d.lo && (decide (1 <= d.hi) && decide (d.hi <= 1000000000)))=true by simp [hd]]
  have hr:0 <= d.lo/\d.lo < 16:=by have:=hd.1;simp [V.isR] at this;exact this
  obtain ⟨k,hk⟩:∃ k:Nat,d.lo=k:=⟨d.lo.toNat,by omega⟩
  have HVD:Hid (V.hasD p.P.vec d.lo d.hi=true↔d.hi <= p.P.vec.getD d.lo.toNat 0):=by
   show _↔_
   rw [hk,zgC p.P k (by omega) _ hd.2.1 hd.2.2,Int.toNat_natCast];exact decide_eq_true_iff
  have HIF:=hide (qX p.P d);have HD:=hide (And.intro hr hd);clear hk hd hr;go_wp2_with fail;refine (V.zh9 _ _ _ p.P.vec d.lo d.hi _ HSP1.out.vec).mono ?_;rintro e w2 ⟨rfl,b4⟩;have HB2:=wTr HB1 b4;have HX2:=hide (HX1.out.below b4);have HSC2:=hide (HSP1.out.below b4).cloud;have m2:=(b4.cell (World.block_lt_of_cell? _ _ m1)).trans m1;clear m0 m1 l1 HX1 HSP1 b4;obtain ⟨x,Hx⟩:∃ x,Hid (V.hasD p.P.vec d.lo d.hi=x):=⟨_,rfl⟩;rw [Hx.out]
  cases x with
  | true =>
   have HY:Hid (dotIn p.P d):=HIF.out.2 ⟨HD.out.1.1,HD.out.1.2,HD.out.2.2.1,HD.out.2.2.2,Or.inl (HVD.out.1 Hx.out)⟩;go_wp2_with fail;go_ret;exact ⟨true,rfl,BIf.yes HY.out,HB2.out⟩
  | false =>
   go_wp2_with fail;refine (zgU _ _ _ p.P.cloud _ d _ HSC2.out HX2.out).mono ?_;rintro e w3 ⟨rfl,b5⟩;have HB3:=wTr HB2 b5
   have HA:Hid (BIf (p.P.cloud.any (inSp d)) (dotIn p.P d)):=by
    show _↔_
    rw [HIF.out,List.any_eq_true];constructor
    ·rintro ⟨c,hc,e⟩;simp [inSp] at e;exact ⟨HD.out.1.1,HD.out.1.2,HD.out.2.2.1,HD.out.2.2.2,Or.inr ⟨c,hc,e⟩⟩
    ·rintro ⟨_,_,_,_,h | ⟨c,hc,e⟩⟩
     ·have:=HVD.out.2 h;rw [Hx.out] at this
      cases this
     ·exact ⟨c,hc,by simp [inSp,e]⟩
   generalize p.P.cloud.any (inSp d)=y at HA ⊢;clear b5 m2;go_wp2_with fail;go_ret;exact ⟨y,rfl,HA.out,HB3.out⟩
 ·rw [show (V.isR d.lo && (decide (1 <= d.hi) && decide (d.hi <= 1000000000)))=false by
   cases h:(V.isR d.lo && (decide (1 <= d.hi) && decide (d.hi <= 1000000000))) with
   | false=>rfl
   | true=>simp at h;exact absurd ⟨h.1,h.2.1,h.2.2⟩ hd]
  have HN:Hid (¬ dotIn p.P d):=fun h=>hd ⟨h.1,by have:=(qX _ _).1 h;omega,by have:=(qX _ _).1 h;omega⟩;clear hd;go_wp2_with fail;go_ret;exact ⟨false,rfl,BIf.no HN.out,HB1.out⟩
end Go.Proofs.YtjffpimfngdggaaGreat
namespace Go.Proofs.YtjffpimfngdggaaGreat.K
open Go.RowKit
attribute [local go_sem ↓] zy zx
attribute [local go_sem] zJ zu zH
attribute [local go_sem] xz
end Go.Proofs.YtjffpimfngdggaaGreat.K
