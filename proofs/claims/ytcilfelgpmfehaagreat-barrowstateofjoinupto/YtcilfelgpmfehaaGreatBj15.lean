/- OBs ONr LOwn LOwn2 -/
import Derived.Test.YtcilfelgpmfehaaGreatBj14
import Derived.Deep.CutRange
import Derived.Lib.MinMax
import Derived.Lib.OthersKept
import Derived.Maps.AppendAt
set_option maxRecDepth 100000
set_option maxHeartbeats 3200000
namespace Go.Proofs.YtcilfelgpmfehaaGreat
section
open Go.RowKit
attribute [local go_sem ↓] qX xu qg qf
attribute [local go_sem] qS qi qy
variable {w w' w2 W W' : World} {g : Nat}

def fF (L:List Sn) (d:Rn) (n i:Nat):Prop:=i <= n/\(∀ j,j < i -> nrC (L.getD j sn0) d < 0)/\(i < n -> 0 <= nrC (L.getD i sn0) d)
def BsA (w w':World) (e:Ending) (L:List Sn) (d:Rn) (n:Nat):Prop:=∃ (i:Nat) (b:Bool),e = .returned (.tuple #[.int .i64 (i:Int),.bool b])/\fF L d n i/\Below w.heap.size w w'
theorem zgh (ao:Option Addr) (n cap:Nat) (L:List Sn) (d:Rn) (w:World) (hS:cJ w ao n cap L) (hm:∀ a b,a <= b -> b < n -> nrC (L.getD b sn0) d < 0 -> nrC (L.getD a sn0) d < 0) :
  Calls Tryz.prog 147 #[.slice ao n cap,RV d,.func (.func 148) #[] #[]] w fun e w'=>BsA w w' e L d n:=by
 have IL:∀ (args:Array Value) (w:World),(callFunc 148 args).run Tryz.prog w = .ok (.enter 148 args) w:=fun _ _=>rfl;have b1:=ze w (.cells (RC d) 64);have x1:=qx w 64 d;obtain ⟨w1,dH⟩:∃ w1,w.alloc (.cells (RC d) 64)=w1:=⟨_,rfl⟩;obtain ⟨g1,dx⟩:∃ g1,w.heap.size=g1:=⟨_,rfl⟩;rw [dH] at b1 x1;rw [dx] at x1;have aW:=hide b1;have HX:Hid (Box w1 g1 64 d/\cJ w1 ao n cap L):=⟨x1,hS.below b1⟩;have Av:n <= 5864062014805:=hS.big;have HM:=hide hm;clear b1 x1 hS hm;go_enter Tryz.func147,Tryz.ntmps147;go_wp2_with fail;clear dH dx;go_loopw [9,10] (fun a b wr=>∃ (lo hi:Nat),a = .int .i64 (lo:Int)/\b = .int .i64 (hi:Int)/\lo <= hi/\hi <= n/\Hid (Below w1.heap.size w1 wr/\(∀ j,j < lo -> nrC (L.getD j sn0) d < 0)/\(hi < n -> 0 <= nrC (L.getD hi sn0) d))) (fun a b _=>(intOf b).toNat - (intOf a).toNat)
 case atStart=>exact ⟨0,n,rfl,rfl,Nat.zero_le _,Nat.le_refl _,Below.refl _ _,(fun j hj=>by omega),fun h=>by omega⟩
 case round =>
  obtain ⟨lo,hi,rfl,rfl,Mc,sW,HI⟩:=hrel
  rename World=>wr
  by_cases aq:lo < hi
  ·have dl:(lo:Int) < (hi:Int):=by omega
   obtain ⟨h,hh⟩:∃ h:Nat,(lo+hi) / 2=h:=⟨_,rfl⟩
   have Dp:lo <= 5864062014805:=by omega
   have M6:hi <= 5864062014805:=by omega
   obtain ⟨t,ht⟩:∃ t:Nat,lo+hi=t:=⟨_,rfl⟩
   have et:(lo:Int)+(hi:Int)=(t:Int):=by omega
   have e2:(t:Int) / 2=(h:Int):=by omega
   have e3:t / 2=h:=by omega
   have HH:Hid (lo <= h/\h < hi/\h < n):=⟨by omega,by omega,by omega⟩
   have Lc:t <= 20000000000000:=by omega
   obtain ⟨ad,rfl,A0⟩:=(HX.out.2.below HI.out.1).at h HH.out.2.2;obtain ⟨s,Hs⟩:∃ s,Hid (L.getD h sn0=s):=⟨_,rfl⟩
   have aw:Hid (∀ W,Below wr.heap.size wr W -> (ldS (.pointer (some (ad.add (h * 3))))).run Tryz.prog W = .ok (SV s) W/\(ldD (.pointer (some ⟨g1,0,none⟩))).run Tryz.prog W = .ok (RV d) W):=fun W hW=>by
    obtain ⟨ad',e',A1⟩:=((HX.out.2.below HI.out.1).below hW).at h HH.out.2.2;obtain rfl:=Option.some.inj e';rw [Hs.out] at A1;exact ⟨zS A1,qw ((HX.out.1.below HI.out.1).below hW).at⟩
   have KM:(h:Int) < (n:Int):=by have:=HH.out;omega
   clear A0 hh ht;go_upto_region 5 with fail;clear et e2 e3;refine wp_region_held_drew (S:=fun W=>(ldS (.pointer (some (ad.add (h * 3))))).run Tryz.prog W = .ok (SV s) W/\(ldD (.pointer (some ⟨g1,0,none⟩))).run Tryz.prog W = .ok (RV d) W) (by kernel_rfl) (aw.out _ (zd wr)) (fun hHeld=>?_);refine wU 0 ?_;refine wU 1 ?_;refine wU 2 ?_;refine wU 3 ?_;refine wU 4 ?_;refine wU 5 ?_;refine wR 6 fun K hK=>?_;go_simp;go_wp2_with fail;refine (zc0 s d _).mono ?_;rintro e w3 ⟨rfl,b3⟩;have gW:Below wr.heap.size wr w3:=(zd wr).trans b3;have aN:=hide (HI.out.1.trans (gW.mono HI.out.1.size));refine hK.out _ _ (aw.out _ gW) (fun hHeld=>?_);clear hK K b3 gW;obtain ⟨z,hz⟩:∃ z,nrC s d=z:=⟨_,rfl⟩;rw [hz];refine wU 7 ?_;refine wD ?_ _;clear hHeld
   by_cases dn:z < 0
   ·have HN:Hid (∀ j,j < h+1 -> nrC (L.getD j sn0) d < 0):=fun j hj=>HM.out j h (by omega) HH.out.2.2 (by rw [Hs.out,hz];exact dn);clear hz;go_wp2_with fail;go_roundw
    case rel=>exact ⟨h+1,hi,by simp,rfl,by have:=HH.out;omega,sW,aN.out,HN.out,HI.out.2.2⟩
    case measure=>simp [intOf];have:=HH.out;omega
   ·have HN:Hid (h < n -> 0 <= nrC (L.getD h sn0) d):=fun _=>by rw [Hs.out,hz];omega
    clear hz;go_wp2_with fail;go_roundw
    case rel=>exact ⟨lo,h,rfl,rfl,HH.out.1,by have:=HH.out;omega,aN.out,HI.out.2.1,HN.out⟩
    case measure=>simp [intOf];have:=HH.out;omega
  ·have dl:¬ (lo:Int) < (hi:Int):=by omega
   obtain rfl:lo=hi:=by omega
   have HF:Hid (fF L d n lo):=⟨sW,HI.out.2.1,HI.out.2.2⟩;have eK:=wTr aW HI.out.1;by_cases ou:lo < n
   ·have ub:(lo:Int) < (n:Int):=by omega
    obtain ⟨ad,rfl,A0⟩:=(HX.out.2.below HI.out.1).at lo ou;obtain ⟨s,Hs⟩:∃ s,Hid (L.getD lo sn0=s):=⟨_,rfl⟩
    have aw:Hid (∀ W,Below wr.heap.size wr W -> (ldS (.pointer (some (ad.add (lo * 3))))).run Tryz.prog W = .ok (SV s) W/\(ldD (.pointer (some ⟨g1,0,none⟩))).run Tryz.prog W = .ok (RV d) W):=fun W hW=>by
     obtain ⟨ad',e',A1⟩:=((HX.out.2.below HI.out.1).below hW).at lo ou;obtain rfl:=Option.some.inj e';rw [Hs.out] at A1;exact ⟨zS A1,qw ((HX.out.1.below HI.out.1).below hW).at⟩
    clear A0;go_upto_region 8 with fail;refine wp_region_held_drew (S:=fun W=>(ldS (.pointer (some (ad.add (lo * 3))))).run Tryz.prog W = .ok (SV s) W/\(ldD (.pointer (some ⟨g1,0,none⟩))).run Tryz.prog W = .ok (RV d) W) (by kernel_rfl) (aw.out _ (zd wr)) (fun hHeld=>?_);refine wU 0 ?_;refine wU 1 ?_;refine wU 2 ?_;refine wU 3 ?_;refine wU 4 ?_;refine wU 5 ?_;refine wU 6 ?_;refine wU 7 ?_;refine wU 8 ?_;refine wU 9 ?_;refine wU 10 ?_;refine wR 11 fun K hK=>?_;go_simp;go_wp2_with fail;refine (zc0 s d _).mono ?_;rintro e w3 ⟨rfl,b3⟩;have gW:Below wr.heap.size wr w3:=(zd wr).trans b3;have aN:=wTr eK gW;refine hK.out _ _ (aw.out _ gW) (fun hHeld=>?_);clear hK K b3 gW;obtain ⟨z,hz⟩:∃ z,nrC s d=z:=⟨_,rfl⟩;rw [hz];clear hz;refine wU 14 ?_;refine wU 12 ?_
    refine wU 13 ?_;refine wU 15 ?_;refine wD ?_ _;clear hHeld;go_wp2_with fail;go_ret2;exact ⟨lo,_,rfl,HF.out,aN.out⟩
   ·have ub:¬ (lo:Int) < (n:Int):=by omega
    go_upto_region 8 with fail;refine wp_region_held_drew (S:=fun _=>True) (by kernel_rfl) (trivial) (fun hHeld=>?_);refine wU 0 ?_;refine wU 1 ?_;refine wU 2 ?_;refine wU 3 ?_;refine wU 4 ?_;refine wV 5 ?_;refine wV 6 ?_;refine wV 7 ?_;refine wV 8 ?_;refine wV 9 ?_;refine wV 10 ?_;refine wV 11 ?_;refine wV 12 ?_;refine wU 14 ?_;refine wU 13 ?_;refine wU 15 ?_;refine wD ?_ _;clear hHeld;go_wp2_with fail;go_ret2;exact ⟨lo,_,rfl,HF.out,eK.out.trans ((zd wr).mono eK.out.size)⟩
end
section
open Go.RowKit
attribute [local go_sem ↓] zl zk qg qf
attribute [local go_sem] zf zh
variable {w w' w2 W W' : World} {g : Nat}

def NrA (w w':World) (e:Ending) (p:Pv) (d:Rn):Prop:=∃ (q:Pv) (i:Nat),e = .returned (PV q)/\ak w' q/\fF p.P.cloud d p.cn i/\q.P=⟨p.P.vec,(p.P.cloud.drop i).take 1⟩/\Below w.heap.size w w'
theorem zd2 {ad:Addr} {n c i:Nat} {L:List Sn} (h:cJ w (some ad) n c L) (hi:i < n) (c':Nat) (hc:1 <= c'):cJ w (some (ad.add (i * 3))) 1 c' ((L.drop i).take 1):=by
 have hl:=h.len;refine ⟨by rw [List.length_take,List.length_drop];omega,fun e=>(by cases e),fun ad' e t ht=>?_,by omega,hc⟩;obtain rfl:=Option.some.inj e
 obtain rfl:t=0:=by omega
 have A:=h.cell ad rfl i hi
 have e1:((L.drop i).take 1).getD 0 sn0=L.getD i sn0:=by
  rw [List.getD_eq_getElem?_getD,List.getElem?_take,if_pos (by omega),List.getElem?_drop,Nat.add_zero,List.getD_eq_getElem?_getD]
 rw [e1,Nat.zero_mul,add_zero];exact A
theorem vG {L:List Sn} {n c i:Nat} {ao:Option Addr} (hl:L.length=n) (hi:n <= i) (hn:ao=none -> c=0):cJ w ao 0 c ((L.drop i).take 1):=by
 have e:(L.drop i).take 1=[]:=by rw [List.drop_eq_nil_of_le (by omega)];rfl
 rw [e];exact ⟨rfl,fun h=>⟨rfl,hn h⟩,fun ad h t ht=>(by omega),by omega,Nat.zero_le _⟩
theorem zel (p:Pv) (d:Rn) (w:World) (hS:ak w p) (hm:∀ a b,a <= b -> b < p.cn -> nrC (p.P.cloud.getD b sn0) d < 0 -> nrC (p.P.cloud.getD a sn0) d < 0):Calls Tryz.prog 115 #[PV p,RV d] w fun e w'=>NrA w w' e p d:=by
 have b1:=ze w (.cells (PC p) 26);have x1:=zq w p;have s1:=World.size_alloc w (.cells (PC p) 26);obtain ⟨w1,dH⟩:∃ w1,w.alloc (.cells (PC p) 26)=w1:=⟨_,rfl⟩;obtain ⟨g1,dx⟩:∃ g1,w.heap.size=g1:=⟨_,rfl⟩;rw [dH] at b1 x1 s1;rw [dx] at x1 s1;have b2:=ze w1 (.cells (RC d) 64);have x2:=qx w1 64 d;have s2:=World.size_alloc w1 (.cells (RC d) 64);obtain ⟨w2,eZ⟩:∃ w2,w1.alloc (.cells (RC d) 64)=w2:=⟨_,rfl⟩;rw [eZ] at b2 x2 s2;rw [s1] at x2 s2;have b3:=ze w2 (.cells #[.slice none 0 0,.slice none 0 0] 26);have x3:aE (w2.alloc (.cells #[.slice none 0 0,.slice none 0 0] 26)) w2.heap.size pv0:=zq w2 pv0;obtain ⟨w3,oZ⟩:∃ w3,w2.alloc (.cells #[.slice none 0 0,.slice none 0 0] 26)=w3:=⟨_,rfl⟩;rw [oZ] at b3 x3;rw [s2] at x3;have b13:=b1.trans ((b2.trans (b3.mono b2.size)).mono b1.size)
 have tq:=(x1.below b2).below b3;have HX:Hid (aE w3 g1 p/\aE w3 (g1+1+1) pv0/\ak w3 p/\Below w.heap.size w w3/\w.heap.size=g1):=⟨tq,x3,hS.below b13,b13,dx⟩
 have ld:=qw (x2.below b3).at
 obtain ⟨y0,y1⟩:=tq.nums;have E8:=hide (zgh p.co p.cn p.cc p.P.cloud d w3 HX.out.2.2.1.cloud hm);have HS:=hide hS;clear b1 b2 b3 x1 x2 x3 b13 tq hS hm;go_enter Tryz.func115,Tryz.ntmps115;go_wp2_with fail;clear dH eZ oZ s1 s2 dx ld y0 y1;refine E8.out.mono ?_;rintro e w4 ⟨i,fb,rfl,hF,b4⟩;have HF:=hide hF;have C0:i <= p.cn:=hF.1;have Av:p.cn <= 5864062014805:=HX.out.2.2.1.cloud.big;have aR:=hide (HX.out.2.2.2.1.trans (b4.mono HX.out.2.2.2.1.size));have eC:Hid (aE w4 g1 p/\aE w4 (g1+1+1) pv0/\ak w4 p):=⟨HX.out.1.below b4,HX.out.2.1.below b4,HX.out.2.2.1.below b4⟩
 have aw:Hid (∀ (W:World) co cn cc,W.heap[g1]? = w4.heap[g1]? -> p.co=co -> p.cn=cn -> p.cc=cc -> W.cell? ⟨g1,0,none⟩=some (.slice p.vo p.vn p.vc)/\W.cell? ⟨g1,1,none⟩=some (.slice co cn cc)):=fun W co cn cc hW h1 h2 h3=>by rw [<- h1,<- h2,<- h3];exact aE.nums (show aE W g1 p from hW.trans eC.out.1)
 have Et:Hid (∀ (q:Pv),ak w q -> q.P=⟨p.P.vec,(p.P.cloud.drop i).take 1⟩ -> (stP (.pointer (some ⟨g1+1+1,0,none⟩)) (PV q)).run Tryz.prog w4.drew = .ok () (w4.drew.setRow (g1+1+1) (PC q))/\aE (w4.drew.setRow (g1+1+1) (PC q)) (g1+1+1) q/\NrA w (w4.drew.setRow (g1+1+1) (PC q)) (.returned (PV q)) p d):=fun q hq hP=>by
  have hb:Below w.heap.size w (w4.drew.setRow (g1+1+1) (PC q)):=zg (aR.out.trans ((zd w4).mono aR.out.size)) (by have:=HX.out.2.2.2.2;omega);have hX:aE w4.drew (g1+1+1) pv0:=eC.out.2.1.below (zd w4);exact ⟨qJ (p':=q) hX,setRow_heap _ _ _ _ _ _ hX,q,i,rfl,hq.below hb,HF.out,hP,hb⟩
 obtain ⟨u,hu⟩:∃ u:Nat,i+1=u:=⟨_,rfl⟩
 have eu:(i:Int)+1=(u:Int):=by omega
 have ew:IntKind.i64.wrap (u:Int)=(u:Int):=by rw [IntKind.wrap_i64];omega
 clear hF b4 E8;by_cases aq:i < p.cn
 ·have emin:min (u:Int) (p.cn:Int)=(u:Int):=by omega
  obtain ⟨ad,hco,-⟩:=HS.out.cloud.at i aq;have nM:=HS.out.cloud.cap
  have Eh:¬ p.cc=i:=by omega
  have h1:(u:Int) <= (p.cc:Int):=by omega
  have h2:i <= u:=by omega
  have h3:u <= p.cc:=by omega
  obtain ⟨t8,x8,hE⟩:=Et.out ⟨p.vo,p.vn,p.vc,some (ad.add (i * 3)),u - i,p.cc - i,⟨p.P.vec,(p.P.cloud.drop i).take 1⟩⟩ ⟨HS.out.vec,by rw [show u - i=1 by omega];exact zd2 (hco ▸ HS.out.cloud) aq (p.cc - i) (show 1 <= p.cc - i by omega),HS.out.big⟩ rfl;replace t8:(stP (.pointer (some ⟨g1+1+1,0,none⟩)) (.agg #[.slice p.vo p.vn p.vc,.slice (some (ad.add (i * 3))) (u - i) (p.cc - i)])).run Tryz.prog w4.drew = .ok () (w4.drew.setRow (g1+1+1) (PC ⟨p.vo,p.vn,p.vc,some (ad.add (i * 3)),u - i,p.cc - i,⟨p.P.vec,(p.P.cloud.drop i).take 1⟩⟩)):=t8;have iF:=hide x8;have HE:=hide hE;clear x8 hE;go_upto_region 2 with fail;refine wp_region_held_drew (S:=fun W=>W.cell? ⟨g1,0,none⟩=some (.slice p.vo p.vn p.vc)/\W.cell? ⟨g1,1,none⟩=some (.slice (some ad) p.cn p.cc)) (by kernel_rfl) (aw.out _ _ _ _ rfl hco rfl rfl) (fun hHeld=>?_);refine wU 0 ?_
  refine wU 1 ?_;refine wU 2 ?_;refine wU 3 ?_;refine wU 4 ?_;refine wU 5 ?_;refine wU 6 ?_;refine wU 7 ?_;refine wU 8 ?_;refine wU 9 ?_;refine wU 10 ?_;refine wpAnyH_take (i:=11) (oi:=⟨some 25,.slice 24 (.tmp 17) (some (.tmp 18)) (some (.tmp 24)) none,24, "picks.go:87",#[⟨3,.data⟩,⟨4,.data⟩,⟨10,.data⟩],none⟩) (v:=.slice (some (ad.add (i * 3))) (u - i) (p.cc - i)) rfl (by kernel_rfl) (by kernel_rfl) (by kernel_rfl) (fun _ _ _ h=>h) (Or.inl ⟨by rfl,?_⟩) (by assumption) ?_
  skip
  ·(intro w hSw;(try dsimp only at hSw);go_simp);first | done | with_reducible rfl
  simp only [Act.put,List.setIfInBounds_toArray,List.set_cons_zero,List.set_cons_succ];refine wU 12 ?_;refine wR 13 fun K hK=>?_;go_simp;refine hK.out _ _ (aw.out _ _ _ _ ?_ hco rfl rfl) (fun hHeld=>?_)
  ·exact setRow_other _ _ _ _ (by omega)
  clear hK K t8;refine wD ?_ _;clear hHeld;go_wp2_with fail;refine bodyPost_ret (eQ rfl rfl iF.out) rfl ?_;exact HE.out
 ·obtain rfl:i=p.cn:=by omega
  have emin:min (u:Int) (p.cn:Int)=(p.cn:Int):=by omega
  have hl:=HS.out.cloud.len
  cases hco:p.co with
  | none =>
   obtain ⟨Aw,us⟩:=HS.out.cloud.nil hco
   have LW:(p.cn:Int)=0:=by omega
   have emin0:min (1:Int) 0=0:=by decide
   have ew1:IntKind.i64.wrap (1:Int)=1:=by rw [IntKind.wrap_i64];decide
   obtain ⟨t8,x8,hE⟩:=Et.out ⟨p.vo,p.vn,p.vc,none,0,0,⟨p.P.vec,(p.P.cloud.drop p.cn).take 1⟩⟩ ⟨HS.out.vec,vG hl (Nat.le_refl _) (fun _=>rfl),HS.out.big⟩ rfl;replace t8:(stP (.pointer (some ⟨g1+1+1,0,none⟩)) (.agg #[.slice p.vo p.vn p.vc,.slice none 0 0])).run Tryz.prog w4.drew = .ok () (w4.drew.setRow (g1+1+1) (PC ⟨p.vo,p.vn,p.vc,none,0,0,⟨p.P.vec,(p.P.cloud.drop p.cn).take 1⟩⟩)):=t8;have iF:=hide x8;have HE:=hide hE;clear x8 hE;go_upto_region 2 with fail;refine wp_region_held_drew (S:=fun W=>W.cell? ⟨g1,0,none⟩=some (.slice p.vo p.vn p.vc)/\W.cell? ⟨g1,1,none⟩=some (.slice none 0 0)) (by kernel_rfl) (aw.out _ _ _ _ rfl hco Aw us) (fun hHeld=>?_);refine wU 0 ?_;refine wU 1 ?_;refine wU 2 ?_;refine wU 3 ?_;refine wU 4 ?_;refine wU 5 ?_;refine wU 6 ?_;refine wU 7 ?_;refine wU 8 ?_;refine wU 9 ?_;refine wU 10 ?_
   refine wpAnyH_take (i:=11) (oi:=⟨some 25,.slice 24 (.tmp 17) (some (.tmp 18)) (some (.tmp 24)) none,24, "picks.go:87",#[⟨3,.data⟩,⟨4,.data⟩,⟨10,.data⟩],none⟩) (v:=.slice none 0 0) rfl (by kernel_rfl) (by kernel_rfl) (by kernel_rfl) (fun _ _ _ h=>h) (Or.inl ⟨by rfl,?_⟩) (by assumption) ?_
   skip
   ·(intro w hSw;(try dsimp only at hSw);go_simp);first | done | with_reducible rfl
   simp only [Act.put,List.setIfInBounds_toArray,List.set_cons_zero,List.set_cons_succ];refine wU 12 ?_;refine wR 13 fun K hK=>?_;go_simp;refine hK.out _ _ (aw.out _ _ _ _ ?_ hco Aw us) (fun hHeld=>?_)
   ·exact setRow_other _ _ _ _ (by omega)
   clear hK K t8;refine wD ?_ _;clear hHeld;go_wp2_with fail;refine bodyPost_ret (eQ rfl rfl iF.out) rfl ?_;exact HE.out
  | some ad =>
   have nM:=HS.out.cloud.cap;by_cases hcc:p.cc=p.cn
   ·obtain ⟨t8,x8,hE⟩:=Et.out ⟨p.vo,p.vn,p.vc,some ad,0,0,⟨p.P.vec,(p.P.cloud.drop p.cn).take 1⟩⟩ ⟨HS.out.vec,vG hl (Nat.le_refl _) (fun h=>by cases h),HS.out.big⟩ rfl;replace t8:(stP (.pointer (some ⟨g1+1+1,0,none⟩)) (.agg #[.slice p.vo p.vn p.vc,.slice (some ad) 0 0])).run Tryz.prog w4.drew = .ok () (w4.drew.setRow (g1+1+1) (PC ⟨p.vo,p.vn,p.vc,some ad,0,0,⟨p.P.vec,(p.P.cloud.drop p.cn).take 1⟩⟩)):=t8;have iF:=hide x8;have HE:=hide hE;clear x8 hE;go_upto_region 2 with fail;refine wp_region_held_drew (S:=fun W=>W.cell? ⟨g1,0,none⟩=some (.slice p.vo p.vn p.vc)/\W.cell? ⟨g1,1,none⟩=some (.slice (some ad) p.cn p.cn)) (by kernel_rfl) (aw.out _ _ _ _ rfl hco rfl hcc) (fun hHeld=>?_);refine wU 0 ?_;refine wU 1 ?_;refine wU 2 ?_;refine wU 3 ?_;refine wU 4 ?_;refine wU 5 ?_;refine wU 6 ?_;refine wU 7 ?_;refine wU 8 ?_
    refine wU 9 ?_;refine wU 10 ?_;refine wpAnyH_take (i:=11) (oi:=⟨some 25,.slice 24 (.tmp 17) (some (.tmp 18)) (some (.tmp 24)) none,24, "picks.go:87",#[⟨3,.data⟩,⟨4,.data⟩,⟨10,.data⟩],none⟩) (v:=.slice (some ad) 0 0) rfl (by kernel_rfl) (by kernel_rfl) (by kernel_rfl) (fun _ _ _ h=>h) (Or.inl ⟨by rfl,?_⟩) (by assumption) ?_
    skip
    ·(intro w hSw;(try dsimp only at hSw);go_simp);first | done | with_reducible rfl
    simp only [Act.put,List.setIfInBounds_toArray,List.set_cons_zero,List.set_cons_succ];refine wU 12 ?_;refine wR 13 fun K hK=>?_;go_simp;refine hK.out _ _ (aw.out _ _ _ _ ?_ hco rfl hcc) (fun hHeld=>?_)
    ·exact setRow_other _ _ _ _ (by omega)
    clear hK K t8;refine wD ?_ _;clear hHeld;go_wp2_with fail;refine bodyPost_ret (eQ rfl rfl iF.out) rfl ?_;exact HE.out
   ·obtain ⟨t8,x8,hE⟩:=Et.out ⟨p.vo,p.vn,p.vc,some (ad.add (p.cn * 3)),0,p.cc - p.cn,⟨p.P.vec,(p.P.cloud.drop p.cn).take 1⟩⟩ ⟨HS.out.vec,vG hl (Nat.le_refl _) (fun h=>by cases h),HS.out.big⟩ rfl;replace t8:(stP (.pointer (some ⟨g1+1+1,0,none⟩)) (.agg #[.slice p.vo p.vn p.vc,.slice (some (ad.add (p.cn * 3))) 0 (p.cc - p.cn)])).run Tryz.prog w4.drew = .ok () (w4.drew.setRow (g1+1+1) (PC ⟨p.vo,p.vn,p.vc,some (ad.add (p.cn * 3)),0,p.cc - p.cn,⟨p.P.vec,(p.P.cloud.drop p.cn).take 1⟩⟩)):=t8;have iF:=hide x8;have HE:=hide hE;clear x8 hE;go_upto_region 2 with fail;refine wp_region_held_drew (S:=fun W=>W.cell? ⟨g1,0,none⟩=some (.slice p.vo p.vn p.vc)/\W.cell? ⟨g1,1,none⟩=some (.slice (some ad) p.cn p.cc)) (by kernel_rfl) (aw.out _ _ _ _ rfl hco rfl rfl) (fun hHeld=>?_);refine wU 0 ?_;refine wU 1 ?_;refine wU 2 ?_;refine wU 3 ?_
    refine wU 4 ?_;refine wU 5 ?_;refine wU 6 ?_;refine wU 7 ?_;refine wU 8 ?_;refine wU 9 ?_;refine wU 10 ?_;refine wpAnyH_take (i:=11) (oi:=⟨some 25,.slice 24 (.tmp 17) (some (.tmp 18)) (some (.tmp 24)) none,24, "picks.go:87",#[⟨3,.data⟩,⟨4,.data⟩,⟨10,.data⟩],none⟩) (v:=.slice (some (ad.add (p.cn * 3))) 0 (p.cc - p.cn)) rfl (by kernel_rfl) (by kernel_rfl) (by kernel_rfl) (fun _ _ _ h=>h) (Or.inl ⟨by rfl,?_⟩) (by assumption) ?_
    skip
    ·(intro w hSw;(try dsimp only at hSw);go_simp);first | done | with_reducible rfl
    simp only [Act.put,List.setIfInBounds_toArray,List.set_cons_zero,List.set_cons_succ];refine wU 12 ?_;refine wR 13 fun K hK=>?_;go_simp;refine hK.out _ _ (aw.out _ _ _ _ ?_ hco rfl rfl) (fun hHeld=>?_)
    ·exact setRow_other _ _ _ _ (by omega)
    clear hK K t8;refine wD ?_ _;clear hHeld;go_wp2_with fail;refine bodyPost_ret (eQ rfl rfl iF.out) rfl ?_;exact HE.out
end
end Go.Proofs.YtcilfelgpmfehaaGreat
namespace Go.Proofs.YtcilfelgpmfehaaGreat.K
section
open Go.RowKit

def ecs (L:List En):List Value:=(L.map (fun e=>(EC e).toList)).flatten
theorem kI (L R:List En):ecs (L++R)=ecs L++ecs R:=by simp [ecs]
theorem zf4 (e:En):ecs [e]=(EC e).toList:=by simp [ecs]
theorem xC (L:List En):(ecs L).length=L.length * 4:=by
 induction L with
 | nil=>rfl
 | cons a L ih=>have:ecs (a :: L)=(EC a).toList++ecs L:=rfl;rw [this,List.length_append,ih];simp [EC];omega
theorem zbD (L:List En) (t j:Nat) (ht:t < L.length) (hj:j < 4):(ecs L)[t * 4+j]? = (EC (L.getD t en0)).toList[j]?:=by
 induction L generalizing t with
 | nil=>simp at ht
 | cons a L ih =>
  have e:ecs (a :: L)=(EC a).toList++ecs L:=rfl
  cases t with
  | zero=>rw [e,List.getElem?_append_left (by simp [EC];omega)];simp [List.getD]
  | succ t =>
   rw [e,List.getElem?_append_right (by simp [EC];omega)];have h:=ih t (by simpa using ht)
   have e4:(t+1) * 4+j - (EC a).toList.length=t * 4+j:=by simp [EC];omega
   rw [e4,h];simp [List.getD]
theorem iu:(Tryz.prog.info? 66).map (fun i=>(i.zero,i.size,i.bytes))=some (some (.agg #[.int .i64 0,.int .i64 0,.string ⟨#[]⟩,.int .i64 0]),4,40):=by kernel_rfl

structure cY (B0 B:Nat) (w w':World) (ao:Option Addr) (cap:Nat) (acc:List En):Prop where
 own:w'.ownsRow B 66 4 (.slice ao acc.length cap) acc.length (ecs acc)
 below:Below B0 w w'
 hB:B <= w'.heap.size
 hB0:B0 <= B
theorem cY.nil {B0 B:Nat} {w w':World} (hb:Below B0 w w') (hB:B <= w'.heap.size) (h0:B0 <= B):cY B0 B w w' none 0 []:=
 ⟨World.ownsRow_nil _ _ _ _,hb,hB,h0⟩
theorem cY.append {B0 B:Nat} {w w':World} {ao:Option Addr} {cap:Nat} {acc:List En} (O:cY B0 B w w' ao cap acc) (e:En) (C:Array Value) (hC:C=EC e) (cP:acc.length < 3518437208883)
  {ops:Array Oper} {rest:List Oper} {o:Oper} {a:Act} {Q:Exit -> Act -> World -> Prop} (hgd:o.guard=none) (s x:Operand) (ho:o.op = .call { callee:=.builtin .append,args:=#[s,x],argTypes:=#[22,22] })
  (n:Nat) (hn:acc.length=n) (hs:a.eval s = .slice ao n cap) (hx:a.eval x = .slice (some ⟨w'.heap.size,0,none⟩) 1 1)
  (hK:∀ (g cap2:Nat) (w2:World),cY B0 B w w2 (some ⟨g,0,none⟩) cap2 (acc++[e]) -> (∀ k,k < B -> w2.heap[k]? = w'.heap[k]?) -> wpList Tryz.prog ops Q rest (a.put o.dst (.slice (some ⟨g,0,none⟩) (n+1) cap2)) w2) :
  wpList Tryz.prog ops Q (o :: rest) a (w'.alloc (.cells C 66)):=by
 subst hn hC;obtain ⟨i0,hi,dn,dm,ef⟩:=info_parts iu;have hB:=O.hB;have hB0:=O.hB0;refine wpList_append_own _ hgd s x 22 ho B 66 i0 (.agg #[.int .i64 0,.int .i64 0,.string ⟨#[]⟩,.int .i64 0]) 4 40 Tryz.underlying22 hi dn dm ef rfl (by decide) _ acc.length (ecs acc) hs (O.own.alloc _) ⟨w'.heap.size,0,none⟩ 1 1 (EC e).toList hx (by simp [EC]) ?_ ?_ (by unfold maxLen;omega) (by omega) (by simp;omega) ?_
 ·intro j u hj;rw [Addr.add_lit,Nat.zero_add,World.cell?_alloc_new];simpa using hj
 ·intro u hu;exact yv e u hu
 ·intro v' w2 cp aC _;rcases cp.2 with ⟨h0,eU⟩ | ⟨g,cap2,cur,hv,dV,dB,hnc,fw,hcsz,htake⟩
  ·omega
  ·subst hv;have dv:∀ k,(Value.slice ao acc.length cap).ownBlock=some k -> B <= k:=fun k hk=>(O.own.lt k hk).1;have eE:=aC.size;rw [World.size_alloc] at eE;refine hK g cap2 w2 ⟨?_,(O.below.alloc (by omega) _).grown aC (by simp;omega) (fun k hk=>by have:=dv k hk;omega),by omega,hB0⟩ (fun k hk=>?_)
   ·rw [List.length_append,kI,zf4];exact cp
   ·rw [aC.block k (by simp;omega) (fun e=>by have:=dv k e.symm;omega)];exact Below.heap_alloc _ _ _ (by omega)
theorem cY.later {B0 B:Nat} {w w' w2:World} {ao:Option Addr} {cap:Nat} {acc:List En} (O:cY B0 B w w' ao cap acc) (hb:Below w'.heap.size w' w2):cY B0 B w w2 ao cap acc:=by
 refine ⟨⟨O.own.1,?_⟩,O.below.trans (hb.mono (Nat.le_trans O.hB0 O.hB)),Nat.le_trans O.hB hb.size,O.hB0⟩;rcases O.own.2 with h | ⟨g,cap2,cur,hv,dV,dB,r⟩
 ·exact Or.inl h
 ·exact Or.inr ⟨g,cap2,cur,hv,dV,(hb.block g (Array.getElem?_eq_some_iff.1 dB).1).trans dB,r⟩
theorem cY.src {B0 B:Nat} {w w':World} {ao:Option Addr} {cap:Nat} {acc:List En} (O:cY B0 B w w' ao cap acc) (hs:∀ e∈acc,e.sku.size <= maxLen) (hl:acc.length <= 3518437208883):aF w' ao acc.length cap acc/\∀ ad,ao=some ad -> B <= ad.block:=by
 rcases O.own.2 with ⟨h0,eU⟩ | ⟨g,cap2,cur,hv,dV,dB,hnc,fw,hcsz,htake⟩
 ·simp only [Value.slice.injEq] at h0;obtain ⟨rfl,e0,rfl⟩:=h0;exact ⟨⟨rfl,fun _=>⟨eU,rfl⟩,fun ad h=>(by cases h),hs,hl⟩,fun ad h=>(by cases h)⟩
 ·simp only [Value.slice.injEq,true_and] at hv;obtain ⟨rfl,rfl⟩:=hv
  have cell:∀ t j,t < acc.length -> j < 4 -> w'.cell? ⟨g,t * 4+j,none⟩=(EC (acc.getD t en0)).toList[j]?:=fun t j ht hj=>by
   rw [O.own.cellAt (t * 4+j) (by omega),zbD _ t j ht hj]
  refine ⟨⟨rfl,fun h=>(by cases h),fun ad h t ht=>?_,hs,hl⟩,fun ad h=>by obtain rfl:=Option.some.inj h;exact dV⟩;obtain rfl:=Option.some.inj h;refine ⟨?_,?_,?_,?_⟩
  ·rw [Addr.add_lit,Nat.zero_add];exact cell t 0 ht (by omega)
  ·rw [Addr.add_lit,Addr.add_lit,Nat.zero_add];exact cell t 1 ht (by omega)
  ·rw [Addr.add_lit,Addr.add_lit,Nat.zero_add];exact cell t 2 ht (by omega)
  ·rw [Addr.add_lit,Addr.add_lit,Nat.zero_add];exact cell t 3 ht (by omega)
end
section
open Go.RowKit

theorem xX (e:En):Array.foldl (fun cs x=>cs.setIfInBounds x.snd x.fst) (EC en0) (EC e).zipIdx 0 4=EC e:=rfl
theorem xE (L:List En) (k:Nat) (h:k < L.length):L.take (k+1)=L.take k++[L.getD k en0]:=by
 rw [List.take_succ_eq_append_getElem h];simp [List.getD,h]
theorem ky {w w2:World} {a:Addr} (h:w2.heap[a.block]? = w.heap[a.block]?):w2.cell? a=w.cell? a:=by
 unfold World.cell?;rw [h]
theorem aF.kept {w w2:World} {ao:Option Addr} {m c:Nat} {L:List En} (h:aF w ao m c L) (hk:∀ ad,ao=some ad -> w2.heap[ad.block]? = w.heap[ad.block]?):aF w2 ao m c L:=by
 refine ⟨h.1,h.2.1,fun ad ha t ht=>?_,h.2.2.2⟩;have A:=h.2.2.1 ad ha t ht;have hb:∀ j,w2.cell? ((ad.add (t * 4)).add j)=w.cell? ((ad.add (t * 4)).add j):=fun j=>ky (by rw [zp,zp];exact hk ad ha);have K2:w2.cell? (ad.add (t * 4))=w.cell? (ad.add (t * 4)):=ky (by rw [zp];exact hk ad ha);exact ⟨K2.trans A.c0,(hb 1).trans A.c1,(hb 2).trans A.c2,(hb 3).trans A.c3⟩
end
end Go.Proofs.YtcilfelgpmfehaaGreat.K
