/- YFe GBs GRe YFt LSame YFo PRg PTw PBk -/
import Derived.Test.YtjffpimfngdggaaGreatTk
import Derived.Test.YtjffpimfngdggaaGreatFe14
import Derived.Test.YtjffpimfngdggaaGreatFe16
import Derived.Test.YtjffpimfngdggaaGreatFe00
import Derived.Deep.MidRow
import Derived.Test.YtjffpimfngdggaaGreatFe15
import Derived.Laws.StructEq
import Derived.RegionTactic
import Derived.Test.YtjffpimfngdggaaGreatFe09
import Derived.Test.YtjffpimfngdggaaGreatFe10
set_option maxRecDepth 100000
set_option maxHeartbeats 3200000
namespace Go.Proofs.YtjffpimfngdggaaGreat
section
open Go.RowKit
section

theorem zcE (s:Sn) (d:Rn) (w:World):Calls Tryz.prog 136 #[SV s,RV d] w fun e w'=>e = .returned (.int .i64 (nrC s d))/\Below w.heap.size w w':=by
 have b1:=ze w (.cells (SC s) 104);have x1:=qH w s;have s1:=World.size_alloc w (.cells (SC s) 104);obtain ⟨w1,cR⟩:∃ w1,w.alloc (.cells (SC s) 104)=w1:=⟨_,rfl⟩;obtain ⟨g1,cT⟩:∃ g1,w.heap.size=g1:=⟨_,rfl⟩;rw [cR] at b1 x1 s1;rw [cT] at x1 s1;have b2:=ze w1 (.cells (RC d) 48);have x2:=zT w1 48 d;obtain ⟨w2,fi⟩:∃ w2,w1.alloc (.cells (RC d) 48)=w2:=⟨_,rfl⟩;rw [fi] at b2 x2;rw [s1] at x2;have HB:=hide (b1.trans (b2.mono b1.size));have HX:Hid (dr w2 g1 s/\Box w2 (g1+1) 48 d):=⟨x1.below b2,x2⟩
 have aG:Hid (∀ W,Below w2.heap.size w2 W -> W.cell? ⟨g1,0,none⟩=some (.int .i64 s.rep)/\W.cell? ⟨g1,2,none⟩=some (.int .i64 s.hi)/\W.cell? ⟨g1+1,0,none⟩=some (.int .i64 d.lo)/\W.cell? ⟨g1+1,1,none⟩=some (.int .i64 d.hi)):=fun W hW=>by
  obtain ⟨c0,-,c2⟩:=(HX.out.1.below hW).at
  have hd:=(HX.out.2.below hW).at
  exact ⟨c0,c2,hd.c0,hd.c1⟩
 obtain ⟨p,Hp⟩:∃ p,Hid (au s.rep d.lo=p):=⟨_,rfl⟩;obtain ⟨q,Hq⟩:∃ q,Hid (au s.hi d.hi=q):=⟨_,rfl⟩
 have HR:Hid (nrC s d=or2 p q):=by show _=_;unfold nrC;rw [Hp.out,Hq.out]
 clear b1 b2 x1 x2;go_enter Tryz.func136,Tryz.ntmps136;go_wp2_with fail;clear cR fi s1 cT;refine wp_region_held_drew (S:=fun W=>W.cell? ⟨g1,0,none⟩=some (.int .i64 s.rep)/\W.cell? ⟨g1,2,none⟩=some (.int .i64 s.hi)/\W.cell? ⟨g1+1,0,none⟩=some (.int .i64 d.lo)/\W.cell? ⟨g1+1,1,none⟩=some (.int .i64 d.hi)) (by kernel_rfl) (aG.out _ (zg w2)) (fun hHeld=>?_);refine wU 0 ?_;refine wU 1 ?_;refine wU 2 ?_;refine wU 3 ?_;refine wU 5 ?_;refine wU 6 ?_;refine wU 7 ?_;refine wU 8 ?_;refine wpAnyH_ready (rs:=[4]) (by kernel_rfl) (by simp) (.cons rfl (fun K hK=>?_) .nil);go_simp;go_wp2_with fail;refine (qA s.rep d.lo _).mono ?_;rintro e w' ⟨rfl,rfl⟩;rw [Hp.out];refine hK.out _ _ (aG.out _ (zg w2)) (fun hHeld=>?_);clear hK K;refine wpAnyH_ready (rs:=[9]) (by kernel_rfl) (by simp) (.cons rfl (fun K hK=>?_) .nil);go_simp
 go_wp2_with fail;refine (qA s.hi d.hi _).mono ?_;rintro e w' ⟨rfl,rfl⟩;rw [Hq.out];refine hK.out _ _ (aG.out _ (zg w2)) (fun hHeld=>?_);clear hK K;have aB:=hide ((zg w2).trans (ze w2.drew (.cells #[.int .i64 p,.int .i64 q] 3)));have HO:=hide (wZ p q w2.drew w2.heap.size rfl);refine wpAnyH_ready (rs:=[10]) (by kernel_rfl) (by simp) (.cons rfl (fun K hK=>?_) .nil);go_simp;refine hK.out _ _ (aG.out _ aB.out) (fun hHeld=>?_);clear hK K;refine wpAnyH_ready (rs:=[11]) (by kernel_rfl) (by simp) (.cons rfl (fun K hK=>?_) .nil);go_simp;go_wp2_with fail;refine HO.out.mono ?_;rintro e w' ⟨rfl,rfl⟩;refine hK.out _ _ (aG.out _ aB.out) (fun hHeld=>?_);clear hK K;refine wU 12 ?_;refine wpAnyH_done (by kernel_rfl) ?_ _;clear hHeld;go_wp2_with fail;go_ret;exact ⟨zH HR.out.symm,HB.out.trans (aB.out.mono HB.out.size)⟩
end
section
attribute [local go_sem ↓] xT jn zV zU
attribute [local go_sem] xN qB qY
variable {w w' w2 W W' : World} {g : Nat}

theorem zhb (ao:Option Addr) (n cap:Nat) (L:List Sn) (d:Rn) (w:World) (hS:cN w ao n cap L) (hm:∀ a b,a <= b -> b < n -> nrC (L.getD b sn0) d < 0 -> nrC (L.getD a sn0) d < 0) :
  Calls Tryz.prog 135 #[.slice ao n cap,RV d,.func (.func 136) #[] #[]] w fun e w'=>BsA w w' e L d n:=by
 have C3:∀ (args:Array Value) (w:World),(callFunc 136 args).run Tryz.prog w = .ok (.enter 136 args) w:=fun _ _=>rfl;have b1:=ze w (.cells (RC d) 48);have x1:=zT w 48 d;obtain ⟨w1,cR⟩:∃ w1,w.alloc (.cells (RC d) 48)=w1:=⟨_,rfl⟩;obtain ⟨g1,cT⟩:∃ g1,w.heap.size=g1:=⟨_,rfl⟩;rw [cR] at b1 x1;rw [cT] at x1;have aN:=hide b1;have HX:Hid (Box w1 g1 48 d/\cN w1 ao n cap L):=⟨x1,hS.below b1⟩;have pF:n <= 5864062014805:=hS.big;have HM:=hide hm;clear b1 x1 hS hm;go_enter Tryz.func135,Tryz.ntmps135;go_wp2_with fail;clear cR cT;go_loopw [9,10] (fun a b wr=>∃ (lo hi:Nat),a = .int .i64 (lo:Int)/\b = .int .i64 (hi:Int)/\lo <= hi/\hi <= n/\Hid (Below w1.heap.size w1 wr/\(∀ j,j < lo -> nrC (L.getD j sn0) d < 0)/\(hi < n -> 0 <= nrC (L.getD hi sn0) d))) (fun a b _=>(intOf b).toNat - (intOf a).toNat)
 case atStart=>exact ⟨0,n,rfl,rfl,Nat.zero_le _,Nat.le_refl _,Below.refl _ _,(fun j hj=>by omega),fun h=>by omega⟩
 case round =>
  obtain ⟨lo,hi,rfl,rfl,Fr,mt,HI⟩:=hrel
  rename World=>wr
  by_cases ak:lo < hi
  ·have cL:(lo:Int) < (hi:Int):=by omega
   obtain ⟨h,hh⟩:∃ h:Nat,(lo+hi) / 2=h:=⟨_,rfl⟩
   have uG:lo <= 5864062014805:=by omega
   have FB:hi <= 5864062014805:=by omega
   obtain ⟨t,ht⟩:∃ t:Nat,lo+hi=t:=⟨_,rfl⟩
   have et:(lo:Int)+(hi:Int)=(t:Int):=by omega
   have e2:(t:Int) / 2=(h:Int):=by omega
   have e3:t / 2=h:=by omega
   have HH:Hid (lo <= h/\h < hi/\h < n):=⟨by omega,by omega,by omega⟩
   have Fg:t <= 20000000000000:=by omega
   obtain ⟨ad,rfl,A0⟩:=(HX.out.2.below HI.out.1).at h HH.out.2.2;obtain ⟨s,Hs⟩:∃ s,Hid (L.getD h sn0=s):=⟨_,rfl⟩
   have aG:Hid (∀ W,Below wr.heap.size wr W -> (ldS (.pointer (some (ad.add (h * 3))))).run Tryz.prog W = .ok (SV s) W/\(ldD (.pointer (some ⟨g1,0,none⟩))).run Tryz.prog W = .ok (RV d) W):=fun W hW=>by
    obtain ⟨ad',e',A1⟩:=((HX.out.2.below HI.out.1).below hW).at h HH.out.2.2;obtain rfl:=Option.some.inj e';rw [Hs.out] at A1;exact ⟨qk A1,zG ((HX.out.1.below HI.out.1).below hW).at⟩
   have ug:(h:Int) < (n:Int):=by have:=HH.out;omega
   clear A0 hh ht;go_upto_region 5 with fail;clear et e2 e3;refine wp_region_held_drew (S:=fun W=>(ldS (.pointer (some (ad.add (h * 3))))).run Tryz.prog W = .ok (SV s) W/\(ldD (.pointer (some ⟨g1,0,none⟩))).run Tryz.prog W = .ok (RV d) W) (by kernel_rfl) (aG.out _ (zg wr)) (fun hHeld=>?_);refine wU 0 ?_;refine wU 1 ?_;refine wU 2 ?_;refine wU 3 ?_;refine wU 4 ?_;refine wU 5 ?_;refine wpAnyH_ready (rs:=[6]) (by kernel_rfl) (by simp) (.cons rfl (fun K hK=>?_) .nil);go_simp;go_wp2_with fail;refine (zcE s d _).mono ?_;rintro e w3 ⟨rfl,b3⟩;have dZ:Below wr.heap.size wr w3:=(zg wr).trans b3;have aB:=hide (HI.out.1.trans (dZ.mono HI.out.1.size));refine hK.out _ _ (aG.out _ dZ) (fun hHeld=>?_);clear hK K b3 dZ;obtain ⟨z,hz⟩:∃ z,nrC s d=z:=⟨_,rfl⟩;rw [hz];refine wU 7 ?_;refine wpAnyH_done (by kernel_rfl) ?_ _;clear hHeld
   by_cases dg:z < 0
   ·have HN:Hid (∀ j,j < h+1 -> nrC (L.getD j sn0) d < 0):=fun j hj=>HM.out j h (by omega) HH.out.2.2 (by rw [Hs.out,hz];exact dg);clear hz;go_wp2_with fail;go_roundw
    case rel=>exact ⟨h+1,hi,by simp,rfl,by have:=HH.out;omega,mt,aB.out,HN.out,HI.out.2.2⟩
    case measure=>simp [intOf];have:=HH.out;omega
   ·have HN:Hid (h < n -> 0 <= nrC (L.getD h sn0) d):=fun _=>by rw [Hs.out,hz];omega
    clear hz;go_wp2_with fail;go_roundw
    case rel=>exact ⟨lo,h,rfl,rfl,HH.out.1,by have:=HH.out;omega,aB.out,HI.out.2.1,HN.out⟩
    case measure=>simp [intOf];have:=HH.out;omega
  ·have cL:¬ (lo:Int) < (hi:Int):=by omega
   obtain rfl:lo=hi:=by omega
   have HF:Hid (eT L d n lo):=⟨mt,HI.out.2.1,HI.out.2.2⟩;have fR:=wTr aN HI.out.1;by_cases ic:lo < n
   ·have lP:(lo:Int) < (n:Int):=by omega
    obtain ⟨ad,rfl,A0⟩:=(HX.out.2.below HI.out.1).at lo ic;obtain ⟨s,Hs⟩:∃ s,Hid (L.getD lo sn0=s):=⟨_,rfl⟩
    have aG:Hid (∀ W,Below wr.heap.size wr W -> (ldS (.pointer (some (ad.add (lo * 3))))).run Tryz.prog W = .ok (SV s) W/\(ldD (.pointer (some ⟨g1,0,none⟩))).run Tryz.prog W = .ok (RV d) W):=fun W hW=>by
     obtain ⟨ad',e',A1⟩:=((HX.out.2.below HI.out.1).below hW).at lo ic;obtain rfl:=Option.some.inj e';rw [Hs.out] at A1;exact ⟨qk A1,zG ((HX.out.1.below HI.out.1).below hW).at⟩
    clear A0;go_upto_region 8 with fail;refine wp_region_held_drew (S:=fun W=>(ldS (.pointer (some (ad.add (lo * 3))))).run Tryz.prog W = .ok (SV s) W/\(ldD (.pointer (some ⟨g1,0,none⟩))).run Tryz.prog W = .ok (RV d) W) (by kernel_rfl) (aG.out _ (zg wr)) (fun hHeld=>?_);refine wU 0 ?_;refine wU 1 ?_;refine wU 2 ?_;refine wU 3 ?_;refine wU 4 ?_;refine wU 5 ?_;refine wU 6 ?_;refine wU 7 ?_;refine wU 8 ?_;refine wU 9 ?_;refine wU 10 ?_;refine wpAnyH_ready (rs:=[11]) (by kernel_rfl) (by simp) (.cons rfl (fun K hK=>?_) .nil);go_simp;go_wp2_with fail;refine (zcE s d _).mono ?_;rintro e w3 ⟨rfl,b3⟩;have dZ:Below wr.heap.size wr w3:=(zg wr).trans b3;have aB:=wTr fR dZ;refine hK.out _ _ (aG.out _ dZ) (fun hHeld=>?_);clear hK K b3 dZ;obtain ⟨z,hz⟩:∃ z,nrC s d=z:=⟨_,rfl⟩;rw [hz];clear hz;refine wU 14 ?_;refine wU 12 ?_
    refine wU 13 ?_;refine wU 15 ?_;refine wpAnyH_done (by kernel_rfl) ?_ _;clear hHeld;go_wp2_with fail;go_ret2;exact ⟨lo,_,rfl,HF.out,aB.out⟩
   ·have lP:¬ (lo:Int) < (n:Int):=by omega
    go_upto_region 8 with fail;refine wp_region_held_drew (S:=fun _=>True) (by kernel_rfl) (trivial) (fun hHeld=>?_);refine wU 0 ?_;refine wU 1 ?_;refine wU 2 ?_;refine wU 3 ?_;refine wU 4 ?_;refine wV 5 ?_;refine wV 6 ?_;refine wV 7 ?_;refine wV 8 ?_;refine wV 9 ?_;refine wV 10 ?_;refine wV 11 ?_;refine wV 12 ?_;refine wU 14 ?_;refine wU 13 ?_;refine wU 15 ?_;refine wpAnyH_done (by kernel_rfl) ?_ _;clear hHeld;go_wp2_with fail;go_ret2;exact ⟨lo,_,rfl,HF.out,fR.out.trans ((zg wr).mono fR.out.size)⟩
end
section
attribute [local go_sem ↓] zq zp zV zU
attribute [local go_sem] zi zj
variable {w w' w2 W W' : World} {g : Nat}

theorem zba (p:Pv) (d:Rn) (w:World) (hS:am w p) (hm:∀ a b,a <= b -> b < p.cn -> nrC (p.P.cloud.getD b sn0) d < 0 -> nrC (p.P.cloud.getD a sn0) d < 0):Calls Tryz.prog 85 #[PV p,RV d] w fun e w'=>NrA w w' e p d:=by
 have b1:=ze w (.cells (PC p) 26);have x1:=zr w p;have s1:=World.size_alloc w (.cells (PC p) 26);obtain ⟨w1,cR⟩:∃ w1,w.alloc (.cells (PC p) 26)=w1:=⟨_,rfl⟩;obtain ⟨g1,cT⟩:∃ g1,w.heap.size=g1:=⟨_,rfl⟩;rw [cR] at b1 x1 s1;rw [cT] at x1 s1;have b2:=ze w1 (.cells (RC d) 48);have x2:=zT w1 48 d;have s2:=World.size_alloc w1 (.cells (RC d) 48);obtain ⟨w2,fi⟩:∃ w2,w1.alloc (.cells (RC d) 48)=w2:=⟨_,rfl⟩;rw [fi] at b2 x2 s2;rw [s1] at x2 s2;have b3:=ze w2 (.cells #[.slice none 0 0,.slice none 0 0] 26);have x3:aA (w2.alloc (.cells #[.slice none 0 0,.slice none 0 0] 26)) w2.heap.size pv0:=zr w2 pv0;obtain ⟨w3,Da⟩:∃ w3,w2.alloc (.cells #[.slice none 0 0,.slice none 0 0] 26)=w3:=⟨_,rfl⟩;rw [Da] at b3 x3;rw [s2] at x3;have b13:=b1.trans ((b2.trans (b3.mono b2.size)).mono b1.size)
 have pr:=(x1.below b2).below b3;have HX:Hid (aA w3 g1 p/\aA w3 (g1+1+1) pv0/\am w3 p/\Below w.heap.size w w3/\w.heap.size=g1):=⟨pr,x3,hS.below b13,b13,cT⟩
 have ld:=zG (x2.below b3).at
 obtain ⟨y0,y1⟩:=pr.nums;have CB:=hide (zhb p.co p.cn p.cc p.P.cloud d w3 HX.out.2.2.1.cloud hm);have HS:=hide hS;clear b1 b2 b3 x1 x2 x3 b13 pr hS hm;go_enter Tryz.func85,Tryz.ntmps85;go_wp2_with fail;clear cR fi Da s1 s2 cT ld y0 y1;refine CB.out.mono ?_;rintro e w4 ⟨i,fb,rfl,hF,b4⟩;have HF:=hide hF;have lJ:i <= p.cn:=hF.1;have pF:p.cn <= 5864062014805:=HX.out.2.2.1.cloud.big;have aQ:=hide (HX.out.2.2.2.1.trans (b4.mono HX.out.2.2.2.1.size));have iv:Hid (aA w4 g1 p/\aA w4 (g1+1+1) pv0/\am w4 p):=⟨HX.out.1.below b4,HX.out.2.1.below b4,HX.out.2.2.1.below b4⟩
 have aG:Hid (∀ (W:World) co cn cc,W.heap[g1]? = w4.heap[g1]? -> p.co=co -> p.cn=cn -> p.cc=cc -> W.cell? ⟨g1,0,none⟩=some (.slice p.vo p.vn p.vc)/\W.cell? ⟨g1,1,none⟩=some (.slice co cn cc)):=fun W co cn cc hW h1 h2 h3=>by rw [<- h1,<- h2,<- h3];exact aA.nums (show aA W g1 p from hW.trans iv.out.1)
 have sP:Hid (∀ (q:Pv),am w q -> q.P=⟨p.P.vec,(p.P.cloud.drop i).take 1⟩ -> (stP (.pointer (some ⟨g1+1+1,0,none⟩)) (PV q)).run Tryz.prog w4.drew = .ok () (w4.drew.setRow (g1+1+1) (PC q))/\aA (w4.drew.setRow (g1+1+1) (PC q)) (g1+1+1) q/\NrA w (w4.drew.setRow (g1+1+1) (PC q)) (.returned (PV q)) p d):=fun q hq hP=>by
  have hb:Below w.heap.size w (w4.drew.setRow (g1+1+1) (PC q)):=zh (aQ.out.trans ((zg w4).mono aQ.out.size)) (by have:=HX.out.2.2.2.2;omega);have hX:aA w4.drew (g1+1+1) pv0:=iv.out.2.1.below (zg w4);exact ⟨qQ (p':=q) hX,setRow_heap _ _ _ _ _ _ hX,q,i,rfl,hq.below hb,HF.out,hP,hb⟩
 obtain ⟨u,hu⟩:∃ u:Nat,i+1=u:=⟨_,rfl⟩
 have eu:(i:Int)+1=(u:Int):=by omega
 have ew:IntKind.i64.wrap (u:Int)=(u:Int):=by rw [IntKind.wrap_i64];omega
 clear hF b4 CB;by_cases ak:i < p.cn
 ·have emin:min (u:Int) (p.cn:Int)=(u:Int):=by omega
  obtain ⟨ad,hco,-⟩:=HS.out.cloud.at i ak;have mE:=HS.out.cloud.cap
  have D8:¬ p.cc=i:=by omega
  have h1:(u:Int) <= (p.cc:Int):=by omega
  have h2:i <= u:=by omega
  have h3:u <= p.cc:=by omega
  obtain ⟨t8,x8,hE⟩:=sP.out ⟨p.vo,p.vn,p.vc,some (ad.add (i * 3)),u - i,p.cc - i,⟨p.P.vec,(p.P.cloud.drop i).take 1⟩⟩ ⟨HS.out.vec,by rw [show u - i=1 by omega];exact zcs (hco ▸ HS.out.cloud) ak (p.cc - i) (show 1 <= p.cc - i by omega),HS.out.big⟩ rfl;replace t8:(stP (.pointer (some ⟨g1+1+1,0,none⟩)) (.agg #[.slice p.vo p.vn p.vc,.slice (some (ad.add (i * 3))) (u - i) (p.cc - i)])).run Tryz.prog w4.drew = .ok () (w4.drew.setRow (g1+1+1) (PC ⟨p.vo,p.vn,p.vc,some (ad.add (i * 3)),u - i,p.cc - i,⟨p.P.vec,(p.P.cloud.drop i).take 1⟩⟩)):=t8;have fM:=hide x8;have HE:=hide hE;clear x8 hE;go_upto_region 2 with fail;refine wp_region_held_drew (S:=fun W=>W.cell? ⟨g1,0,none⟩=some (.slice p.vo p.vn p.vc)/\W.cell? ⟨g1,1,none⟩=some (.slice (some ad) p.cn p.cc)) (by kernel_rfl) (aG.out _ _ _ _ rfl hco rfl rfl) (fun hHeld=>?_);refine wU 0 ?_
  refine wU 1 ?_;refine wU 2 ?_;refine wU 3 ?_;refine wU 4 ?_;refine wU 5 ?_;refine wU 6 ?_;refine wU 7 ?_;refine wU 8 ?_;refine wU 9 ?_;refine wU 10 ?_;refine wpAnyH_take (i:=11) (oi:=⟨some 25,.slice 24 (.tmp 17) (some (.tmp 18)) (some (.tmp 24)) none,24, "fate.go:79",#[⟨3,.data⟩,⟨4,.data⟩,⟨10,.data⟩],none⟩) (v:=.slice (some (ad.add (i * 3))) (u - i) (p.cc - i)) rfl (by kernel_rfl) (by kernel_rfl) (by kernel_rfl) (fun _ _ _ h=>h) (Or.inl ⟨by rfl,?_⟩) (by assumption) ?_
  skip
  ·(intro w hSw;(try dsimp only at hSw);go_simp);first | done | with_reducible rfl
  simp only [Act.put,List.setIfInBounds_toArray,List.set_cons_zero,List.set_cons_succ];refine wU 12 ?_;refine wpAnyH_ready (rs:=[13]) (by kernel_rfl) (by simp) (.cons rfl (fun K hK=>?_) .nil);go_simp;refine hK.out _ _ (aG.out _ _ _ _ ?_ hco rfl rfl) (fun hHeld=>?_)
  ·exact setRow_other _ _ _ _ (by omega)
  clear hK K t8;refine wpAnyH_done (by kernel_rfl) ?_ _;clear hHeld;go_wp2_with fail;refine bodyPost_ret (eS rfl rfl fM.out) rfl ?_;exact HE.out
 ·obtain rfl:i=p.cn:=by omega
  have emin:min (u:Int) (p.cn:Int)=(p.cn:Int):=by omega
  have hl:=HS.out.cloud.len
  cases hco:p.co with
  | none =>
   obtain ⟨oW,Ec⟩:=HS.out.cloud.nil hco
   have FZ:(p.cn:Int)=0:=by omega
   have emin0:min (1:Int) 0=0:=by decide
   have ew1:IntKind.i64.wrap (1:Int)=1:=by rw [IntKind.wrap_i64];decide
   obtain ⟨t8,x8,hE⟩:=sP.out ⟨p.vo,p.vn,p.vc,none,0,0,⟨p.P.vec,(p.P.cloud.drop p.cn).take 1⟩⟩ ⟨HS.out.vec,jo hl (Nat.le_refl _) (fun _=>rfl),HS.out.big⟩ rfl;replace t8:(stP (.pointer (some ⟨g1+1+1,0,none⟩)) (.agg #[.slice p.vo p.vn p.vc,.slice none 0 0])).run Tryz.prog w4.drew = .ok () (w4.drew.setRow (g1+1+1) (PC ⟨p.vo,p.vn,p.vc,none,0,0,⟨p.P.vec,(p.P.cloud.drop p.cn).take 1⟩⟩)):=t8;have fM:=hide x8;have HE:=hide hE;clear x8 hE;go_upto_region 2 with fail;refine wp_region_held_drew (S:=fun W=>W.cell? ⟨g1,0,none⟩=some (.slice p.vo p.vn p.vc)/\W.cell? ⟨g1,1,none⟩=some (.slice none 0 0)) (by kernel_rfl) (aG.out _ _ _ _ rfl hco oW Ec) (fun hHeld=>?_);refine wU 0 ?_;refine wU 1 ?_;refine wU 2 ?_;refine wU 3 ?_;refine wU 4 ?_;refine wU 5 ?_;refine wU 6 ?_;refine wU 7 ?_;refine wU 8 ?_;refine wU 9 ?_;refine wU 10 ?_
   refine wpAnyH_take (i:=11) (oi:=⟨some 25,.slice 24 (.tmp 17) (some (.tmp 18)) (some (.tmp 24)) none,24, "fate.go:79",#[⟨3,.data⟩,⟨4,.data⟩,⟨10,.data⟩],none⟩) (v:=.slice none 0 0) rfl (by kernel_rfl) (by kernel_rfl) (by kernel_rfl) (fun _ _ _ h=>h) (Or.inl ⟨by rfl,?_⟩) (by assumption) ?_
   skip
   ·(intro w hSw;(try dsimp only at hSw);go_simp);first | done | with_reducible rfl
   simp only [Act.put,List.setIfInBounds_toArray,List.set_cons_zero,List.set_cons_succ];refine wU 12 ?_;refine wpAnyH_ready (rs:=[13]) (by kernel_rfl) (by simp) (.cons rfl (fun K hK=>?_) .nil);go_simp;refine hK.out _ _ (aG.out _ _ _ _ ?_ hco oW Ec) (fun hHeld=>?_)
   ·exact setRow_other _ _ _ _ (by omega)
   clear hK K t8;refine wpAnyH_done (by kernel_rfl) ?_ _;clear hHeld;go_wp2_with fail;refine bodyPost_ret (eS rfl rfl fM.out) rfl ?_;exact HE.out
  | some ad =>
   have mE:=HS.out.cloud.cap;by_cases hcc:p.cc=p.cn
   ·obtain ⟨t8,x8,hE⟩:=sP.out ⟨p.vo,p.vn,p.vc,some ad,0,0,⟨p.P.vec,(p.P.cloud.drop p.cn).take 1⟩⟩ ⟨HS.out.vec,jo hl (Nat.le_refl _) (fun h=>by cases h),HS.out.big⟩ rfl;replace t8:(stP (.pointer (some ⟨g1+1+1,0,none⟩)) (.agg #[.slice p.vo p.vn p.vc,.slice (some ad) 0 0])).run Tryz.prog w4.drew = .ok () (w4.drew.setRow (g1+1+1) (PC ⟨p.vo,p.vn,p.vc,some ad,0,0,⟨p.P.vec,(p.P.cloud.drop p.cn).take 1⟩⟩)):=t8;have fM:=hide x8;have HE:=hide hE;clear x8 hE;go_upto_region 2 with fail;refine wp_region_held_drew (S:=fun W=>W.cell? ⟨g1,0,none⟩=some (.slice p.vo p.vn p.vc)/\W.cell? ⟨g1,1,none⟩=some (.slice (some ad) p.cn p.cn)) (by kernel_rfl) (aG.out _ _ _ _ rfl hco rfl hcc) (fun hHeld=>?_);refine wU 0 ?_;refine wU 1 ?_;refine wU 2 ?_;refine wU 3 ?_;refine wU 4 ?_;refine wU 5 ?_;refine wU 6 ?_;refine wU 7 ?_;refine wU 8 ?_
    refine wU 9 ?_;refine wU 10 ?_;refine wpAnyH_take (i:=11) (oi:=⟨some 25,.slice 24 (.tmp 17) (some (.tmp 18)) (some (.tmp 24)) none,24, "fate.go:79",#[⟨3,.data⟩,⟨4,.data⟩,⟨10,.data⟩],none⟩) (v:=.slice (some ad) 0 0) rfl (by kernel_rfl) (by kernel_rfl) (by kernel_rfl) (fun _ _ _ h=>h) (Or.inl ⟨by rfl,?_⟩) (by assumption) ?_
    skip
    ·(intro w hSw;(try dsimp only at hSw);go_simp);first | done | with_reducible rfl
    simp only [Act.put,List.setIfInBounds_toArray,List.set_cons_zero,List.set_cons_succ];refine wU 12 ?_;refine wpAnyH_ready (rs:=[13]) (by kernel_rfl) (by simp) (.cons rfl (fun K hK=>?_) .nil);go_simp;refine hK.out _ _ (aG.out _ _ _ _ ?_ hco rfl hcc) (fun hHeld=>?_)
    ·exact setRow_other _ _ _ _ (by omega)
    clear hK K t8;refine wpAnyH_done (by kernel_rfl) ?_ _;clear hHeld;go_wp2_with fail;refine bodyPost_ret (eS rfl rfl fM.out) rfl ?_;exact HE.out
   ·obtain ⟨t8,x8,hE⟩:=sP.out ⟨p.vo,p.vn,p.vc,some (ad.add (p.cn * 3)),0,p.cc - p.cn,⟨p.P.vec,(p.P.cloud.drop p.cn).take 1⟩⟩ ⟨HS.out.vec,jo hl (Nat.le_refl _) (fun h=>by cases h),HS.out.big⟩ rfl;replace t8:(stP (.pointer (some ⟨g1+1+1,0,none⟩)) (.agg #[.slice p.vo p.vn p.vc,.slice (some (ad.add (p.cn * 3))) 0 (p.cc - p.cn)])).run Tryz.prog w4.drew = .ok () (w4.drew.setRow (g1+1+1) (PC ⟨p.vo,p.vn,p.vc,some (ad.add (p.cn * 3)),0,p.cc - p.cn,⟨p.P.vec,(p.P.cloud.drop p.cn).take 1⟩⟩)):=t8;have fM:=hide x8;have HE:=hide hE;clear x8 hE;go_upto_region 2 with fail;refine wp_region_held_drew (S:=fun W=>W.cell? ⟨g1,0,none⟩=some (.slice p.vo p.vn p.vc)/\W.cell? ⟨g1,1,none⟩=some (.slice (some ad) p.cn p.cc)) (by kernel_rfl) (aG.out _ _ _ _ rfl hco rfl rfl) (fun hHeld=>?_);refine wU 0 ?_;refine wU 1 ?_;refine wU 2 ?_;refine wU 3 ?_
    refine wU 4 ?_;refine wU 5 ?_;refine wU 6 ?_;refine wU 7 ?_;refine wU 8 ?_;refine wU 9 ?_;refine wU 10 ?_;refine wpAnyH_take (i:=11) (oi:=⟨some 25,.slice 24 (.tmp 17) (some (.tmp 18)) (some (.tmp 24)) none,24, "fate.go:79",#[⟨3,.data⟩,⟨4,.data⟩,⟨10,.data⟩],none⟩) (v:=.slice (some (ad.add (p.cn * 3))) 0 (p.cc - p.cn)) rfl (by kernel_rfl) (by kernel_rfl) (by kernel_rfl) (fun _ _ _ h=>h) (Or.inl ⟨by rfl,?_⟩) (by assumption) ?_
    skip
    ·(intro w hSw;(try dsimp only at hSw);go_simp);first | done | with_reducible rfl
    simp only [Act.put,List.setIfInBounds_toArray,List.set_cons_zero,List.set_cons_succ];refine wU 12 ?_;refine wpAnyH_ready (rs:=[13]) (by kernel_rfl) (by simp) (.cons rfl (fun K hK=>?_) .nil);go_simp;refine hK.out _ _ (aG.out _ _ _ _ ?_ hco rfl rfl) (fun hHeld=>?_)
    ·exact setRow_other _ _ _ _ (by omega)
    clear hK K t8;refine wpAnyH_done (by kernel_rfl) ?_ _;clear hHeld;go_wp2_with fail;refine bodyPost_ret (eS rfl rfl fM.out) rfl ?_;exact HE.out
end
end
section
theorem vS (p:Addr) (m:Nat):(p.add m).block=p.block:=zs p m
theorem bj (p:Addr):p.add 0=p:=add_zero p
end
section
open Go.RowKit
variable {w w' : World} {g : Nat}
structure eA where
 sku:ByteArray
 veco:Option Addr
 vecn:Nat
 vecc:Nat
 cloudo:Option Addr
 cloudn:Nat
 cloudc:Nat
def re0:eA:=⟨⟨#[]⟩,none,0,0,none,0,0⟩
def ReC (m:eA):Array Value:=#[.string m.sku,.slice m.veco m.vecn m.vecc,.slice m.cloudo m.cloudn m.cloudc]
abbrev ReV (m:eA):Value:=.agg (ReC m)
theorem zQ (m:eA):(ReC m).size=3:=rfl
theorem ziF (m:eA):∀ v∈(ReC m).toList,v.oneCell'=true:=by
 intro v hv;simp [ReC] at hv;rcases hv with rfl | rfl | rfl <;> rfl
theorem zJ (m:eA):(ReV m).cells=ReC m:=by simp [Value.cells]
structure iC (w:World) (a:Addr) (m:eA):Prop where
 c0:w.cell? a=some (.string m.sku)
 c1:w.cell? (a.add 1)=some (.slice m.veco m.vecn m.vecc)
 c2:w.cell? (a.add 2)=some (.slice m.cloudo m.cloudn m.cloudc)
theorem iC.on {a:Addr} {m:eA} (S:iC w a m) (hb:Below w.heap.size w w'):iC w' a m:=by
 have h0:=World.block_lt_of_cell? _ _ S.c0;exact ⟨by rw [hb.cell h0];exact S.c0,by rw [hb.cell (by rw [vS];exact h0)];exact S.c1,by rw [hb.cell (by rw [vS];exact h0)];exact S.c2⟩
def cf (w:World) (g:Nat) (m:eA):Prop:=w.heap[g]? = some (.cells (ReC m) 78 (0,0))
theorem cf.lt {m:eA} (h:cf w g m):g < w.heap.size:=(Array.getElem?_eq_some_iff.1 h).1
theorem cf.below {m:eA} (h:cf w g m) (hb:Below w.heap.size w w'):cf w' g m:=(hb.block g h.lt).trans h
theorem cf.c0 {m:eA} (h:cf w g m):w.cell? ⟨g,0,none⟩=some (.string m.sku):=by unfold cf at h;simp [World.cell?,h,ReC]
theorem cf.c1 {m:eA} (h:cf w g m):w.cell? ⟨g,1,none⟩=some (.slice m.veco m.vecn m.vecc):=by unfold cf at h;simp [World.cell?,h,ReC]
theorem cf.c2 {m:eA} (h:cf w g m):w.cell? ⟨g,2,none⟩=some (.slice m.cloudo m.cloudn m.cloudc):=by unfold cf at h;simp [World.cell?,h,ReC]
theorem qs (w:World) (m:eA):cf (w.alloc (.cells (ReC m) 78)) w.heap.size m:=by unfold cf;rw [heap_alloc_new]
def eE (v:Value):Sem Value:=Instr.loadAt 78 v
theorem zZ (v:Value):Instr.loadAt 78 v=eE v:=rfl
def tD (p v:Value):Sem Unit:=Instr.storeAt 78 p v
theorem zY (p v:Value):Instr.storeAt 78 p v=tD p v:=rfl
theorem iU:(Tryz.prog.info? 78).map (·.size)=some 3:=by kernel_rfl
theorem cf.range {m:eA} (h:cf w g m):w.rangeAt g 0 (ReC m).toList:=by
 intro j v hv;rw [Nat.zero_add];unfold cf at h;simp only [Array.getElem?_toList] at hv;simp [World.cell?,h,hv]
theorem zcw {m:eA} (A:cf w g m):(loadVar 78 ⟨g,0,none⟩).run Tryz.prog w = .ok (ReV m) w:=by
 have:=run_loadVar_mid (P:=Tryz.prog) w g 0 78 (ReC m).toList _ A.range Tryz.underlying78 rfl (by rw [iU];rfl);simpa using this
theorem qI {m:eA} (A:cf w g m):(eE (.pointer (some ⟨g,0,none⟩))).run Tryz.prog w = .ok (.agg (ReC m)) w:=by
 unfold eE;simp only [Instr.loadAt,Instr.sureAddr,Sem.run_bind,Sem.run_pure,Result.andThen];exact zcw A
theorem zM {a:Addr} {m:eA} (A:iC w a m):(eE (.pointer (some a))).run Tryz.prog w = .ok (.agg (ReC m)) w:=by
 have hl:=run_loadCells_list (P:=Tryz.prog) (w:=w) a (ReC m).toList (fun j v hv=>by
  match j,hv with
  | 0,hv=>cases hv;rw [bj];exact A.c0
  | 1,hv=>cases hv;exact A.c1
  | 2,hv=>cases hv;exact A.c2
  | j+3,hv=>simp [ReC] at hv)
 unfold eE;simp only [Instr.loadAt,Instr.sureAddr,Sem.run_bind,Sem.run_pure,Result.andThen]
 cases hq:Tryz.prog.info? 78 with
 | none=>have:=iU;simp [hq] at this
 | some x =>
  have hs:x.size=3:=by have:=iU;simpa [hq] using this
  have dR:(isAgg 78).run Tryz.prog w = .ok true w:=by
   unfold isAgg;rw [Sem.run_bind,run_underlying Tryz.underlying78 w];rfl
  have e2:(ReC m).toList.length=3:=rfl;rw [e2] at hl;simp [loadVar,Sem.run_bind,dR,sizeOf,typeInfo,hq,hs,hl]
theorem zcu {m m':eA} (A:cf w g m):(tD (.pointer (some ⟨g,0,none⟩)) (.agg (ReC m'))).run Tryz.prog w = .ok () (w.setRow g (ReC m')):=by
 unfold tD;have h:=run_storeCells_from (P:=Tryz.prog) g 78 (ReC m').toList 0 (ReC m) w A (by simp [ReC]) (ziF m')
 cases hq:Tryz.prog.info? 78 with
 | none=>have:=iU;simp [hq] at this
 | some x =>
  have hs:x.size=3:=by have:=iU;simpa [hq] using this
  simp only [Instr.storeAt,Instr.sureAddr,Sem.run_bind,Sem.run_pure,Result.andThen,storeVar,sizeOf,typeInfo,zJ,zQ];simp at h;simp [h,hq,hs]
theorem cf.setRow {m m':eA} (A:cf w g m):cf (w.setRow g (ReC m')) g m':=setRow_heap w g _ _ _ _ A
theorem fE (w:World) (m:eA) (g:Nat) (hg:w.heap.size=g):∃ w':World,(tD (.pointer (some ⟨g,0,none⟩)) (.agg (ReC m))).run Tryz.prog (w.alloc (.cells (ReC re0) 78)) = .ok () w'/\cf w' g m/\Below w.heap.size w w'/\w'.heap.size=w.heap.size+1:=by
 subst hg;refine ⟨_,zcu (qs w _),(qs w _).setRow,zh (ze w _) (Nat.le_refl _),by simp [World.setRow]⟩
theorem By {m:eA} {fn:Func} {p:Tmp} (h:fn.results=#[.cell p 78]) {tmps:Array Value} (hp:tmps.getD p undef = .pointer (some ⟨g,0,none⟩)) (A:cf w g m) :
  (results fn tmps).run Tryz.prog w = .ok (ReV m) w:=by
 have hl:=zcw A;simp only [results,h];rw [Array.getD_eq_getD_getElem?] at hp;simp [hp,asAddr,hl]
structure cq where
 addso:Option Addr
 addsn:Nat
 addsc:Nat
 veco:Option Addr
 vecn:Nat
 vecc:Nat
 cloudo:Option Addr
 cloudn:Nat
 cloudc:Nat
 recso:Option Addr
 recsn:Nat
 recsc:Nat
def fa0:cq:=⟨none,0,0,none,0,0,none,0,0,none,0,0⟩
def FaC (m:cq):Array Value:=#[.slice m.addso m.addsn m.addsc,.slice m.veco m.vecn m.vecc,.slice m.cloudo m.cloudn m.cloudc,.slice m.recso m.recsn m.recsc]
abbrev FaV (m:cq):Value:=.agg (FaC m)
theorem zm (m:cq):(FaC m).size=4:=rfl
theorem zfB (m:cq):∀ v∈(FaC m).toList,v.oneCell'=true:=by
 intro v hv;simp [FaC] at hv;rcases hv with rfl | rfl | rfl | rfl <;> rfl
theorem zk (m:cq):(FaV m).cells=FaC m:=by simp [Value.cells]
structure rQ (w:World) (a:Addr) (m:cq):Prop where
 c0:w.cell? a=some (.slice m.addso m.addsn m.addsc)
 c1:w.cell? (a.add 1)=some (.slice m.veco m.vecn m.vecc)
 c2:w.cell? (a.add 2)=some (.slice m.cloudo m.cloudn m.cloudc)
 c3:w.cell? (a.add 3)=some (.slice m.recso m.recsn m.recsc)
def aF (w:World) (g:Nat) (m:cq):Prop:=w.heap[g]? = some (.cells (FaC m) 29 (0,0))
theorem aF.lt {m:cq} (h:aF w g m):g < w.heap.size:=(Array.getElem?_eq_some_iff.1 h).1
theorem aF.below {m:cq} (h:aF w g m) (hb:Below w.heap.size w w'):aF w' g m:=(hb.block g h.lt).trans h
theorem aF.c0 {m:cq} (h:aF w g m):w.cell? ⟨g,0,none⟩=some (.slice m.addso m.addsn m.addsc):=by unfold aF at h;simp [World.cell?,h,FaC]
theorem aF.c1 {m:cq} (h:aF w g m):w.cell? ⟨g,1,none⟩=some (.slice m.veco m.vecn m.vecc):=by unfold aF at h;simp [World.cell?,h,FaC]
theorem aF.c2 {m:cq} (h:aF w g m):w.cell? ⟨g,2,none⟩=some (.slice m.cloudo m.cloudn m.cloudc):=by unfold aF at h;simp [World.cell?,h,FaC]
theorem aF.c3 {m:cq} (h:aF w g m):w.cell? ⟨g,3,none⟩=some (.slice m.recso m.recsn m.recsc):=by unfold aF at h;simp [World.cell?,h,FaC]
theorem qi (w:World) (m:cq):aF (w.alloc (.cells (FaC m) 29)) w.heap.size m:=by unfold aF;rw [heap_alloc_new]
def rS (v:Value):Sem Value:=Instr.loadAt 29 v
theorem zB (v:Value):Instr.loadAt 29 v=rS v:=rfl
def nN (p v:Value):Sem Unit:=Instr.storeAt 29 p v
theorem zz (p v:Value):Instr.storeAt 29 p v=nN p v:=rfl
theorem iM:(Tryz.prog.info? 29).map (·.size)=some 4:=by kernel_rfl
theorem aF.range {m:cq} (h:aF w g m):w.rangeAt g 0 (FaC m).toList:=by
 intro j v hv;rw [Nat.zero_add];unfold aF at h;simp only [Array.getElem?_toList] at hv;simp [World.cell?,h,hv]
theorem bL {m:cq} (A:aF w g m):(loadVar 29 ⟨g,0,none⟩).run Tryz.prog w = .ok (FaV m) w:=by
 have:=run_loadVar_mid (P:=Tryz.prog) w g 0 29 (FaC m).toList _ A.range Tryz.underlying29 rfl (by rw [iM];rfl);simpa using this
theorem qy {m:cq} (A:aF w g m):(rS (.pointer (some ⟨g,0,none⟩))).run Tryz.prog w = .ok (.agg (FaC m)) w:=by
 unfold rS;simp only [Instr.loadAt,Instr.sureAddr,Sem.run_bind,Sem.run_pure,Result.andThen];exact bL A
theorem j7 {a:Addr} {m:cq} (A:rQ w a m):(rS (.pointer (some a))).run Tryz.prog w = .ok (.agg (FaC m)) w:=by
 have hl:=run_loadCells_list (P:=Tryz.prog) (w:=w) a (FaC m).toList (fun j v hv=>by
  match j,hv with
  | 0,hv=>cases hv;rw [bj];exact A.c0
  | 1,hv=>cases hv;exact A.c1
  | 2,hv=>cases hv;exact A.c2
  | 3,hv=>cases hv;exact A.c3
  | j+4,hv=>simp [FaC] at hv)
 unfold rS;simp only [Instr.loadAt,Instr.sureAddr,Sem.run_bind,Sem.run_pure,Result.andThen]
 cases hq:Tryz.prog.info? 29 with
 | none=>have:=iM;simp [hq] at this
 | some x =>
  have hs:x.size=4:=by have:=iM;simpa [hq] using this
  have dR:(isAgg 29).run Tryz.prog w = .ok true w:=by
   unfold isAgg;rw [Sem.run_bind,run_underlying Tryz.underlying29 w];rfl
  have e2:(FaC m).toList.length=4:=rfl;rw [e2] at hl;simp [loadVar,Sem.run_bind,dR,sizeOf,typeInfo,hq,hs,hl]
theorem kA {m m':cq} (A:aF w g m):(nN (.pointer (some ⟨g,0,none⟩)) (.agg (FaC m'))).run Tryz.prog w = .ok () (w.setRow g (FaC m')):=by
 unfold nN;have h:=run_storeCells_from (P:=Tryz.prog) g 29 (FaC m').toList 0 (FaC m) w A (by simp [FaC]) (zfB m')
 cases hq:Tryz.prog.info? 29 with
 | none=>have:=iM;simp [hq] at this
 | some x =>
  have hs:x.size=4:=by have:=iM;simpa [hq] using this
  simp only [Instr.storeAt,Instr.sureAddr,Sem.run_bind,Sem.run_pure,Result.andThen,storeVar,sizeOf,typeInfo,zk,zm];simp at h;simp [h,hq,hs]
theorem aF.setRow {m m':cq} (A:aF w g m):aF (w.setRow g (FaC m')) g m':=setRow_heap w g _ _ _ _ A
theorem Bz {m:cq} {fn:Func} {p:Tmp} (h:fn.results=#[.cell p 29]) {tmps:Array Value} (hp:tmps.getD p undef = .pointer (some ⟨g,0,none⟩)) (A:aF w g m) :
  (results fn tmps).run Tryz.prog w = .ok (FaV m) w:=by
 have hl:=bL A;simp only [results,h];rw [Array.getD_eq_getD_getElem?] at hp;simp [hp,asAddr,hl]
end
section
open Go.RowKit
variable {w w' : World} {g : Nat}
structure FtR where
 rep:Int
 num:Int
 kind:Int
 recs:Int
def ft0:FtR:=⟨0,0,0,0⟩
def FtC (m:FtR):Array Value:=#[.int .i64 m.rep,.int .i64 m.num,.int .i64 m.kind,.int .i64 m.recs]
abbrev FtV (m:FtR):Value:=.agg (FtC m)
theorem wy (m:FtR):(FtC m).size=4:=rfl
theorem ziI (m:FtR):∀ v∈(FtC m).toList,v.oneCell'=true:=by
 intro v hv;simp [FtC] at hv;rcases hv with rfl | rfl | rfl | rfl <;> rfl
theorem vg (m:FtR):(FtV m).cells=FtC m:=by simp [Value.cells]
structure Jc (w:World) (a:Addr) (m:FtR):Prop where
 c0:w.cell? a=some (.int .i64 m.rep)
 c1:w.cell? (a.add 1)=some (.int .i64 m.num)
 c2:w.cell? (a.add 2)=some (.int .i64 m.kind)
 c3:w.cell? (a.add 3)=some (.int .i64 m.recs)
def aI (w:World) (g:Nat) (m:FtR):Prop:=w.heap[g]? = some (.cells (FtC m) 52 (0,0))
theorem aI.lt {m:FtR} (h:aI w g m):g < w.heap.size:=(Array.getElem?_eq_some_iff.1 h).1
theorem aI.below {m:FtR} (h:aI w g m) (hb:Below w.heap.size w w'):aI w' g m:=(hb.block g h.lt).trans h
theorem aI.c0 {m:FtR} (h:aI w g m):w.cell? ⟨g,0,none⟩=some (.int .i64 m.rep):=by unfold aI at h;simp [World.cell?,h,FtC]
theorem aI.c1 {m:FtR} (h:aI w g m):w.cell? ⟨g,1,none⟩=some (.int .i64 m.num):=by unfold aI at h;simp [World.cell?,h,FtC]
theorem aI.c2 {m:FtR} (h:aI w g m):w.cell? ⟨g,2,none⟩=some (.int .i64 m.kind):=by unfold aI at h;simp [World.cell?,h,FtC]
theorem aI.c3 {m:FtR} (h:aI w g m):w.cell? ⟨g,3,none⟩=some (.int .i64 m.recs):=by unfold aI at h;simp [World.cell?,h,FtC]
theorem ju (w:World) (m:FtR):aI (w.alloc (.cells (FtC m) 52)) w.heap.size m:=by unfold aI;rw [heap_alloc_new]
def Bv (v:Value):Sem Value:=Instr.loadAt 52 v
theorem zb2 (v:Value):Instr.loadAt 52 v=Bv v:=rfl
def tT (p v:Value):Sem Unit:=Instr.storeAt 52 p v
theorem zbE (p v:Value):Instr.storeAt 52 p v=tT p v:=rfl
theorem nM:(Tryz.prog.info? 52).map (·.size)=some 4:=by kernel_rfl
theorem aI.range {m:FtR} (h:aI w g m):w.rangeAt g 0 (FtC m).toList:=by
 intro j v hv;rw [Nat.zero_add];unfold aI at h;simp only [Array.getElem?_toList] at hv;simp [World.cell?,h,hv]
theorem bK {m:FtR} (A:aI w g m):(loadVar 52 ⟨g,0,none⟩).run Tryz.prog w = .ok (FtV m) w:=by
 have:=run_loadVar_mid (P:=Tryz.prog) w g 0 52 (FtC m).toList _ A.range Tryz.underlying52 rfl (by rw [nM];rfl);simpa using this
theorem bM {m:FtR} (A:aI w g m):(Bv (.pointer (some ⟨g,0,none⟩))).run Tryz.prog w = .ok (.agg (FtC m)) w:=by
 unfold Bv;simp only [Instr.loadAt,Instr.sureAddr,Sem.run_bind,Sem.run_pure,Result.andThen];exact bK A
theorem xe {m m':FtR} (A:aI w g m):(tT (.pointer (some ⟨g,0,none⟩)) (.agg (FtC m'))).run Tryz.prog w = .ok () (w.setRow g (FtC m')):=by
 unfold tT;have h:=run_storeCells_from (P:=Tryz.prog) g 52 (FtC m').toList 0 (FtC m) w A (by simp [FtC]) (ziI m')
 cases hq:Tryz.prog.info? 52 with
 | none=>have:=nM;simp [hq] at this
 | some x =>
  have hs:x.size=4:=by have:=nM;simpa [hq] using this
  simp only [Instr.storeAt,Instr.sureAddr,Sem.run_bind,Sem.run_pure,Result.andThen,storeVar,sizeOf,typeInfo,vg,wy];simp at h;simp [h,hq,hs]
theorem aI.setRow {m m':FtR} (A:aI w g m):aI (w.setRow g (FtC m')) g m':=setRow_heap w g _ _ _ _ A
theorem BL (w:World) (m:FtR) (g:Nat) (hg:w.heap.size=g):∃ w':World,(tT (.pointer (some ⟨g,0,none⟩)) (.agg (FtC m))).run Tryz.prog (w.alloc (.cells (FtC ft0) 52)) = .ok () w'/\aI w' g m/\Below w.heap.size w w'/\w'.heap.size=w.heap.size+1:=by
 subst hg;refine ⟨_,xe (ju w _),(ju w _).setRow,zh (ze w _) (Nat.le_refl _),by simp [World.setRow]⟩
theorem nY {m:FtR} {fn:Func} {p:Tmp} (h:fn.results=#[.cell p 52]) {tmps:Array Value} (hp:tmps.getD p undef = .pointer (some ⟨g,0,none⟩)) (A:aI w g m) :
  (results fn tmps).run Tryz.prog w = .ok (FtV m) w:=by
 have hl:=bK A;simp only [results,h];rw [Array.getD_eq_getD_getElem?] at hp;simp [hp,asAddr,hl]
end
end Go.Proofs.YtjffpimfngdggaaGreat
namespace Go.Proofs.YtjffpimfngdggaaGreat.K
open Go.RowKit
attribute [local go_sem ↓] zx zw
attribute [local go_sem] zI zt
def eqE (x y:En):Bool:=x.rep == y.rep && x.num == y.num && x.sku.toList == y.sku.toList && x.qty == y.qty
theorem zfZ (a b c d:Int) (w:World):(Op.equalIn 9999 48 (.agg #[.int .i64 a,.int .i64 b]) (.agg #[.int .i64 c,.int .i64 d])).run Tryz.prog w = .ok (a == c && b == d) w:=by
 have u3:=Tryz.underlying3;have a3:=Tryz.isAgg3;have z3:=Tryz.sizeOf3
 have hS:Tryz.prog.underlying 48=some (.struct (Tryz.prog.fieldsOf 48)):=by kernel_rfl
 have hp:Tryz.prog.stoodInHeld 48=false:=by kernel_rfl
 rw [show (9999:Nat)=9998+1 from rfl,run_equalIn_struct w 9998 48 _ _ hS hp];simp only [Program.fieldsOf,Tryz.underlying48];go_simp;by_cases h1:a=c <;> by_cases h2:b=d <;> simp [h1,h2]
theorem qz (x y:En) (w:World):(Op.equalIn 10000 50 (.agg (EC x)) (.agg (EC y))).run Tryz.prog w = .ok (eqE x y) w:=by
 have u3:=Tryz.underlying3;have a3:=Tryz.isAgg3;have z3:=Tryz.sizeOf3;have u9:=Tryz.underlying9;have a9:=Tryz.isAgg9;have z9:=Tryz.sizeOf9;have a26:=Tryz.isAgg48;have z26:=Tryz.sizeOf48
 have hS:Tryz.prog.underlying 50=some (.struct (Tryz.prog.fieldsOf 50)):=by kernel_rfl
 have hp:Tryz.prog.stoodInHeld 50=false:=by kernel_rfl
 obtain ⟨r,m,s,q⟩:=x;obtain ⟨r',m',s',q'⟩:=y;have Mm:=zfZ r m r' m'
 show (Op.equalIn 10000 50 (.agg #[.int .i64 r,.int .i64 m,.string s,.int .i64 q]) (.agg #[.int .i64 r',.int .i64 m',.string s',.int .i64 q'])).run Tryz.prog w = .ok (r == r' && m == m' && s.toList == s'.toList && q == q') w
 rw [show (10000:Nat)=9999+1 from rfl,run_equalIn_struct w 9999 50 _ _ hS hp];simp only [Program.fieldsOf,Tryz.underlying50];have h9:∀ w,(Op.equalIn 9999 9 (.string s) (.string s')).run Tryz.prog w = .ok (s.toList == s'.toList) w:=fun w=>run_equalIn_string w 9998 9 s s' Tryz.underlying9;have h3:∀ w,(Op.equalIn 9999 3 (.int .i64 q) (.int .i64 q')).run Tryz.prog w = .ok (q == q') w:=fun w=>run_equalIn_int w 9998 3 .i64 .i64 q q' Tryz.underlying3;obtain ⟨D,hD⟩:∃ D,9999=D:=⟨9999,rfl⟩;rw [hD] at Mm h9 h3 ⊢;go_simp;by_cases e1:r=r'
 ·by_cases e2:m=m'
  ·by_cases e3:s.toList=s'.toList
   ·by_cases e4:q=q'
    ·simp [e1,e2,e3,e4]
    ·simp [e1,e2,e3,e4]
   ·simp [e1,e2,e3]
  ·simp [e1,e2]
 ·simp [e1]
theorem kV (x:En):eqE x x=true:=by simp [eqE]
attribute [local go_sem ↓] qz
end Go.Proofs.YtjffpimfngdggaaGreat.K
namespace Go.Proofs.YtjffpimfngdggaaGreat
section
open Go.RowKit
section
def fcs (L:List FtR):List Value:=(L.map (fun e=>(FtC e).toList)).flatten
theorem zi7 (L:List FtR) (t j:Nat) (ht:t < L.length) (hj:j < 4):(fcs L)[t * 4+j]? = (FtC (L.getD t ft0)).toList[j]?:=by
 induction L generalizing t with
 | nil=>simp at ht
 | cons a L ih =>
  have e:fcs (a :: L)=(FtC a).toList++fcs L:=rfl
  cases t with
  | zero=>rw [e,List.getElem?_append_left (by simp [FtC];omega)];simp [List.getD]
  | succ t =>
   rw [e,List.getElem?_append_right (by simp [FtC];omega)];have h:=ih t (by simpa using ht)
   have e4:(t+1) * 4+j - (FtC a).toList.length=t * 4+j:=by simp [FtC];omega
   rw [e4,h];simp [List.getD]
structure oK (B0 B:Nat) (w w':World) (ao:Option Addr) (cap:Nat) (acc:List FtR):Prop where
 own:w'.ownsRow B 52 4 (.slice ao acc.length cap) acc.length (fcs acc)
 below:Below B0 w w'
 hB:B <= w'.heap.size
 hB0:B0 <= B
theorem oK.nil {B0 B:Nat} {w w':World} (hb:Below B0 w w') (hB:B <= w'.heap.size) (h0:B0 <= B):oK B0 B w w' none 0 []:=
 ⟨World.ownsRow_nil _ _ _ _,hb,hB,h0⟩
end
structure ry (w:World) (ao:Option Addr) (m c:Nat) (L:List FtR):Prop where
 len:L.length=m
 cell:∀ ad,ao=some ad -> ∀ t,t < m -> Jc w (ad.add (t * 4)) (L.getD t ft0)
 some_of:0 < m -> ∃ ad,ao=some ad
theorem ry.nil (w:World):ry w none 0 0 []:=⟨rfl,fun ad h=>(by cases h),fun h=>absurd h (Nat.lt_irrefl _)⟩
theorem oK.src {B0 B:Nat} {w w':World} {ao:Option Addr} {cap:Nat} {acc:List FtR} (O:oK B0 B w w' ao cap acc):ry w' ao acc.length cap acc:=by
 rcases O.own.2 with ⟨h0,fh⟩ | ⟨g,cap2,cur,hv,dN,dy,hnc,eV,hcsz,htake⟩
 ·simp only [Value.slice.injEq] at h0;obtain ⟨rfl,e0,rfl⟩:=h0;exact ⟨rfl,fun ad h=>(by cases h),fun h=>(by rw [fh] at h;exact absurd h (Nat.lt_irrefl _))⟩
 ·simp only [Value.slice.injEq,true_and] at hv;obtain ⟨rfl,rfl⟩:=hv
  have cell:∀ t j,t < acc.length -> j < 4 -> w'.cell? ⟨g,t * 4+j,none⟩=(FtC (acc.getD t ft0)).toList[j]?:=fun t j ht hj=>by
   rw [O.own.cellAt (t * 4+j) (by omega),zi7 _ t j ht hj]
  refine ⟨rfl,fun ad h t ht=>?_,fun _=>⟨_,rfl⟩⟩;obtain rfl:=Option.some.inj h;refine ⟨?_,?_,?_,?_⟩
  ·rw [Addr.add_lit,Nat.zero_add];exact cell t 0 ht (by omega)
  ·rw [Addr.add_lit,Addr.add_lit,Nat.zero_add];exact cell t 1 ht (by omega)
  ·rw [Addr.add_lit,Addr.add_lit,Nat.zero_add];exact cell t 2 ht (by omega)
  ·rw [Addr.add_lit,Addr.add_lit,Nat.zero_add];exact cell t 3 ht (by omega)
def Nl (x y:FtR):Bool:=x.rep == y.rep && x.num == y.num && x.kind == y.kind && x.recs == y.recs
def mM (a:Array (Nat × Value)):Sem Value:=Instr.build 52 a
theorem zc7 (a:Array (Nat × Value)):Instr.build 52 a=mM a:=rfl
theorem zdm (w:World):(mM #[]).run Tryz.prog w = .ok (.agg (FtC ft0)) w:=by kernel_rfl
theorem zbP (d:Rn) (w:World):(mM #[(0,.agg (RC d))]).run Tryz.prog w = .ok (.agg (FtC ⟨d.lo,d.hi,0,0⟩)) w:=by kernel_rfl
theorem zbO (d:Rn) (k:Int) (w:World):(mM #[(0,.agg (RC d)),(1,.int .i64 k)]).run Tryz.prog w = .ok (.agg (FtC ⟨d.lo,d.hi,k,0⟩)) w:=by kernel_rfl
theorem zbN (d:Rn) (k m:Int) (w:World):(mM #[(0,.agg (RC d)),(1,.int .i64 k),(2,.int .i64 m)]).run Tryz.prog w = .ok (.agg (FtC ⟨d.lo,d.hi,k,m⟩)) w:=by kernel_rfl
end
section
open Go.RowKit

def ig (n:Nat) (l:Array Bool):Nat:=(List.range n).countP (fun i => !l.getD i true)
theorem xX {p q:Nat -> Bool} {i:Nat}:∀ {xs:List Nat},(∀ j,q j=true -> p j=true) -> i∈xs -> p i=true -> q i=false -> xs.countP q < xs.countP p
 | [],_,h,_,_=>by cases h
 | x :: xs,hpq,h,hp,hq=>by
  have ip:xs.countP q <= xs.countP p:=List.countP_mono_left (fun j _=>hpq j);rcases List.mem_cons.1 h with rfl | h
  ·rw [List.countP_cons_of_neg (by simp [hq]),List.countP_cons_of_pos (by simp [hp])];omega
  ·have:=xX hpq h hp hq;rw [List.countP_cons,List.countP_cons];have hx:=hpq x
   cases hqx:q x with
   | true=>simp [hx hqx];exact this
   | false=>cases p x <;> simp <;> omega
theorem qS {md:Region.Mode} {ops:Array Oper} {l:Array Bool} {i:Nat} (h:i∈Region.ready md ops l):i < ops.size/\l.getD i true=false/\∀ o,ops[i]? = some o -> ∀ e∈o.after,Region.binds md e=true -> l.getD e.on false=true:=by
 unfold Region.ready at h;rw [List.mem_filter,List.mem_range] at h;obtain ⟨h1,h2⟩:=h;simp only [Bool.and_eq_true,Bool.not_eq_true'] at h2;refine ⟨h1,h2.1,fun o ho e he hb=>?_⟩;have h3:=h2.2;rw [ho] at h3;simp only [Option.map_some,Option.getD_some] at h3;have:=Array.all_eq_true'.1 h3 e he;simpa [hb] using this
theorem jL {md:Region.Mode} {ops:Array Oper} {l:Array Bool} (h:ig ops.size l=0):Region.ready md ops l=[]:=by
 unfold Region.ready;rw [List.filter_eq_nil_iff];intro i hi;have:=List.countP_eq_zero.1 h i hi;simp at this;simp [this]
theorem jH {P:Program} {md:Region.Mode} {ops:Array Oper} {Q:Exit -> Act -> World -> Prop} (I:Array Bool -> Act -> World -> Prop) (hz:∀ l a w,I l a w -> l.size=ops.size)
  (hs:∀ l a w,I l a w -> ∀ i,i∈Region.ready md ops l -> wpOp P ops Q i (fun a' w'=>I (l.setIfInBounds i true) a' w') a w)
  (he:∀ l a w,I l a w -> Region.ready md ops l=[] -> Q .normal a w) :
  ∀ (fuel:Nat) (l:Array Bool) (a:Act) (w:World),I l a w -> ig ops.size l <= fuel -> wpAny P md ops Q fuel l a w
 | 0,l,a,w,h,hf=>⟨jL (by omega),he l a w h (jL (by omega))⟩
 | fuel+1,l,a,w,h,hf=>by
  refine ⟨he l a w h,fun i hi=>wpOp_mono (fun a' w' h'=>?_) (hs l a w h i hi)⟩;refine jH I hz hs he fuel _ a' w' h' ?_;obtain ⟨h1,h2,_⟩:=qS hi;have hl:=hz l a w h
  have:ig ops.size (l.setIfInBounds i true) < ig ops.size l:=by
   unfold ig;refine xX (i:=i) (fun j hj=>?_) (List.mem_range.2 h1) (by simp only [h2];rfl) ?_
   ·by_cases e:i=j
    ·subst e;simp [Array.getD,hl,h1] at hj
    ·simpa [Array.getD_eq_getD_getElem?,Array.getElem?_setIfInBounds,e] using hj
   ·simp [Array.getD,hl,h1]
  omega
theorem qq {P:Program} {ops:Array Oper} {Q:Exit -> Act -> World -> Prop} {id:Nat} {a:Act} {w:World} (hm:P.follows .mixedOrders=true) (I:Array Bool -> Act -> World -> Prop) (h0:I (Array.replicate ops.size false) a w.drew) (hz:∀ l a w,I l a w -> l.size=ops.size)
  (hs:∀ l a w,I l a w -> ∀ i,i∈Region.ready .any ops l -> wpOp P ops Q i (fun a' w'=>I (l.setIfInBounds i true) a' w') a w)
  (he:∀ l a w,I l a w -> Region.ready .any ops l=[] -> Q .normal a w):(Code.region id ops true).wp P Q a w:=
 wp_region_any hm (jH I hz hs he _ _ _ _ h0 (by unfold ig;have:=List.countP_le_length (p:=fun i => !(Array.replicate ops.size false).getD i true) (l:=List.range ops.size);simpa using this))
def iR (ops:Array Oper):Bool:=(List.range ops.size).all fun i=>((ops[i]?).map fun o=>o.after.all fun e => !Region.binds .any e || decide (e.on < i)).getD true
theorem q8 {ops:Array Oper} {l:Array Bool} (hb:iR ops=true) (hz:l.size=ops.size) (h:Region.ready .any ops l=[]):∀ i,i < ops.size -> l.getD i false=true:=by
 intro i
 induction i using Nat.strongRecOn with
 | _ i ih =>
  intro hi;unfold Region.ready at h;rw [List.filter_eq_nil_iff] at h;have h1:=h i (List.mem_range.2 hi);have h2:=List.all_eq_true.1 hb i (List.mem_range.2 hi);rw [Array.getElem?_eq_getElem hi] at h1 h2;simp only [Option.map_some,Option.getD_some] at h1 h2
  have h3:(ops[i].after.all fun e => !Region.binds .any e || l.getD e.on false)=true:=by
   rw [Array.all_eq_true'];intro e he;have:=Array.all_eq_true'.1 h2 e he
   cases hb:Region.binds .any e with
   | false=>simp
   | true =>
    simp only [hb,Bool.not_true,Bool.false_or,decide_eq_true_eq] at this;rw [ih e.on this (by omega)];simp
  rw [h3] at h1
  have hl:i < l.size:=by omega
  simp [Array.getD,hl] at h1 ⊢;exact h1
theorem zX {l:Array Bool} {i:Nat} (h:i < l.size):(l.setIfInBounds i true).getD i false=true:=by simp [Array.getD,h]
theorem zf {l:Array Bool} {i j:Nat} (h:i≠j):(l.setIfInBounds i true).getD j false=l.getD j false:=by simp [Array.getD_eq_getD_getElem?,h]
theorem jO {l:Array Bool} {i:Nat} (h:l.getD i true=false):l.getD i false=false:=by
 rw [Array.getD_eq_getD_getElem?] at h ⊢
 cases hq:l[i]? with
 | none=>rw [hq] at h;cases h
 | some x=>rw [hq] at h;exact h
theorem jq (n i:Nat):(Array.replicate n false).getD i false=false:=by
 rw [Array.getD_eq_getD_getElem?,Array.getElem?_replicate];split <;> rfl
end
section
open Go.RowKit

abbrev ptr (g:Nat):Value:=.pointer (some ⟨g,0,none⟩)
def iZ:Nat -> Sl:=fun _=>sl0
structure cO (wk:World) (pa pb:Pv) (l:Array Bool) (W:World) (va xa ca vb xb cb ba bb:Value):Prop where
 sz:l.size=10
 b:Below wk.heap.size wk W
 h0:l.getD 0 false=true -> va=PV pa
 h1:l.getD 1 false=true -> l.getD 8 false=false -> ∃ g,xa = .slice (some ⟨g,0,none⟩) 1 1/\fq W (some ⟨g,0,none⟩) 1 [pa]
 h2:l.getD 2 false=true -> ∃ F,ca=SAv F/\dw wk.heap.size W F (aw [pa])/\(l.getD 6 false=true -> ∀ g,ba=ptr g -> dY F g)/\(l.getD 7 false=true -> ∀ g,bb=ptr g -> dY F g)
 h3:l.getD 3 false=true -> vb=PV pb
 h4:l.getD 4 false=true -> l.getD 8 false=false -> ∃ g,xb = .slice (some ⟨g,0,none⟩) 1 1/\fq W (some ⟨g,0,none⟩) 1 [pb]
 h5:l.getD 5 false=true -> ∃ F,cb=SAv F/\dw wk.heap.size W F (aw [pb])/\(l.getD 6 false=true -> ∀ g,ba=ptr g -> dY F g)/\(l.getD 7 false=true -> ∀ g,bb=ptr g -> dY F g)
 h6:l.getD 6 false=true -> ∃ g,ba=ptr g/\wk.heap.size <= g/\g < W.heap.size/\(l.getD 8 false=false -> cG W g iZ)/\(l.getD 8 false=true -> ∀ F,ca=SAv F -> cG W g F)
 h7:l.getD 7 false=true -> ∃ g,bb=ptr g/\wk.heap.size <= g/\g < W.heap.size/\(l.getD 9 false=false -> cG W g iZ)/\(l.getD 9 false=true -> ∀ F,cb=SAv F -> cG W g F)
 h67:l.getD 6 false=true -> l.getD 7 false=true -> ba≠bb
 c8:l.getD 8 false=true -> l.getD 2 false=true/\l.getD 5 false=true/\l.getD 6 false=true/\l.getD 7 false=true
 c9:l.getD 9 false=true -> l.getD 5 false=true/\l.getD 7 false=true
section
variable {wk : World} {pa pb : Pv} {l : Array Bool} {W W' : World} {va xa ca vb xb cb ba bb : Value}
theorem zjl {F G:Nat -> Sl} (h:SAv F=SAv G):SA F=SA G:=by injection h
theorem cG.same {w:World} {g:Nat} {F G:Nat -> Sl} (h:cG w g F) (e:SAv G=SAv F):cG w g G:=by unfold cG at h ⊢;rw [zjl e];exact h
theorem dY.lo {lo:Nat} {F:Nat -> Sl} {G:Nat -> List Rn} (h:dw lo W F G) {g:Nat} (hg:g < lo):dY F g:=fun r hr ad e=>by have:=h.lo r hr ad e;omega
theorem dY.hi {lo:Nat} {F:Nat -> Sl} {G:Nat -> List Rn} (h:dw lo W F G):dY F W.heap.size:=fun r hr ad e=>by have:=h.hi r hr ad e;omega
theorem xf {g g':Nat} (h:ptr g=ptr g'):g=g':=by simpa [ptr] using h
theorem cO.on (T:cO wk pa pb l W va xa ca vb xb cb ba bb) (hb:Below W.heap.size W W'):cO wk pa pb l W' va xa ca vb xb cb ba bb:=by
 refine ⟨T.sz,T.b.trans (hb.mono T.b.size),T.h0,fun h h'=>?_,fun h=>?_,T.h3,fun h h'=>?_,fun h=>?_,fun h=>?_,fun h=>?_,T.h67,T.c8,T.c9⟩
 ·obtain ⟨g,e,R⟩:=T.h1 h h';exact ⟨g,e,R.below hb⟩
 ·obtain ⟨F,e,R,f⟩:=T.h2 h;exact ⟨F,e,R.below hb,f⟩
 ·obtain ⟨g,e,R⟩:=T.h4 h h';exact ⟨g,e,R.below hb⟩
 ·obtain ⟨F,e,R,f⟩:=T.h5 h;exact ⟨F,e,R.below hb,f⟩
 ·obtain ⟨g,e,h1,h2,h3,h4⟩:=T.h6 h;exact ⟨g,e,h1,Nat.lt_of_lt_of_le h2 hb.size,fun q=>(h3 q).below hb,fun q F e=>(h4 q F e).below hb⟩
 ·obtain ⟨g,e,h1,h2,h3,h4⟩:=T.h7 h;exact ⟨g,e,h1,Nat.lt_of_lt_of_le h2 hb.size,fun q=>(h3 q).below hb,fun q F e=>(h4 q F e).below hb⟩
theorem cO.s0 (T:cO wk pa pb l W va xa ca vb xb cb ba bb):cO wk pa pb (l.setIfInBounds 0 true) W (PV pa) xa ca vb xb cb ba bb:=by
 refine ⟨by simpa using T.sz,T.b,fun _=>rfl,?_,?_,?_,?_,?_,?_,?_,?_,?_,?_⟩ <;> simp only [zf (show (0:Nat)≠1 by decide),zf (show (0:Nat)≠2 by decide),zf (show (0:Nat)≠3 by decide),zf (show (0:Nat)≠4 by decide),zf (show (0:Nat)≠5 by decide),zf (show (0:Nat)≠6 by decide),zf (show (0:Nat)≠7 by decide),zf (show (0:Nat)≠8 by decide),zf (show (0:Nat)≠9 by decide)]
 ·exact T.h1
 ·exact T.h2
 ·exact T.h3
 ·exact T.h4
 ·exact T.h5
 ·exact T.h6
 ·exact T.h7
 ·exact T.h67
 ·exact fun h=>by have:=T.c8 h;simp [this]
 ·exact fun h=>by have:=T.c9 h;simp [this]
theorem cO.s3 (T:cO wk pa pb l W va xa ca vb xb cb ba bb):cO wk pa pb (l.setIfInBounds 3 true) W va xa ca (PV pb) xb cb ba bb:=by
 refine ⟨by simpa using T.sz,T.b,?_,?_,?_,fun _=>rfl,?_,?_,?_,?_,?_,?_,?_⟩ <;> simp only [zf (show (3:Nat)≠0 by decide),zf (show (3:Nat)≠1 by decide),zf (show (3:Nat)≠2 by decide),zf (show (3:Nat)≠4 by decide),zf (show (3:Nat)≠5 by decide),zf (show (3:Nat)≠6 by decide),zf (show (3:Nat)≠7 by decide),zf (show (3:Nat)≠8 by decide),zf (show (3:Nat)≠9 by decide)]
 ·exact T.h0
 ·exact T.h1
 ·exact T.h2
 ·exact T.h4
 ·exact T.h5
 ·exact T.h6
 ·exact T.h7
 ·exact T.h67
 ·exact fun h=>by have:=T.c8 h;simp [this]
 ·exact fun h=>by have:=T.c9 h;simp [this]
theorem cO.s1 (T:cO wk pa pb l W va xa ca vb xb cb ba bb) (hS:am W pa):cO wk pa pb (l.setIfInBounds 1 true) (W.alloc (.cells (PC pa) 26)) va (.slice (some ⟨W.heap.size,0,none⟩) 1 1) ca vb xb cb ba bb:=by
 have T:=T.on (ze W (.cells (PC pa) 26));refine ⟨by simpa using T.sz,T.b,?_,fun _ _=>⟨_,rfl,kI W pa hS⟩,?_,?_,?_,?_,?_,?_,?_,?_,?_⟩ <;> simp only [zf (show (1:Nat)≠0 by decide),zf (show (1:Nat)≠2 by decide),zf (show (1:Nat)≠3 by decide),zf (show (1:Nat)≠4 by decide),zf (show (1:Nat)≠5 by decide),zf (show (1:Nat)≠6 by decide),zf (show (1:Nat)≠7 by decide),zf (show (1:Nat)≠8 by decide),zf (show (1:Nat)≠9 by decide)]
 ·exact T.h0
 ·exact T.h2
 ·exact T.h3
 ·exact T.h4
 ·exact T.h5
 ·exact T.h6
 ·exact T.h7
 ·exact T.h67
 ·exact fun h=>by have:=T.c8 h;simp [this]
 ·exact fun h=>by have:=T.c9 h;simp [this]
theorem cO.s4 (T:cO wk pa pb l W va xa ca vb xb cb ba bb) (hS:am W pb):cO wk pa pb (l.setIfInBounds 4 true) (W.alloc (.cells (PC pb) 26)) va xa ca vb (.slice (some ⟨W.heap.size,0,none⟩) 1 1) cb ba bb:=by
 have T:=T.on (ze W (.cells (PC pb) 26));refine ⟨by simpa using T.sz,T.b,?_,?_,?_,?_,fun _ _=>⟨_,rfl,kI W pb hS⟩,?_,?_,?_,?_,?_,?_⟩ <;> simp only [zf (show (4:Nat)≠0 by decide),zf (show (4:Nat)≠1 by decide),zf (show (4:Nat)≠2 by decide),zf (show (4:Nat)≠3 by decide),zf (show (4:Nat)≠5 by decide),zf (show (4:Nat)≠6 by decide),zf (show (4:Nat)≠7 by decide),zf (show (4:Nat)≠8 by decide),zf (show (4:Nat)≠9 by decide)]
 ·exact T.h0
 ·exact T.h1
 ·exact T.h2
 ·exact T.h3
 ·exact T.h5
 ·exact T.h6
 ·exact T.h7
 ·exact T.h67
 ·exact fun h=>by have:=T.c8 h;simp [this]
 ·exact fun h=>by have:=T.c9 h;simp [this]
theorem cO.s2 (T:cO wk pa pb l W va xa ca vb xb cb ba bb) (h8:l.getD 8 false=false) {F:Nat -> Sl} (R:dw W.heap.size W' F (aw [pa])) (hb:Below W.heap.size W W'):cO wk pa pb (l.setIfInBounds 2 true) W' va xa (SAv F) vb xb cb ba bb:=by
 have hl:=T.b.size;have T':=T.on hb
 have f6:l.getD 6 false=true -> ∀ g,ba=ptr g -> dY F g:=fun h g e=>by
  obtain ⟨g',e',_,h2,_⟩:=T.h6 h;obtain rfl:=xf (e.symm.trans e');exact dY.lo R h2
 have f7:l.getD 7 false=true -> ∀ g,bb=ptr g -> dY F g:=fun h g e=>by
  obtain ⟨g',e',_,h2,_⟩:=T.h7 h;obtain rfl:=xf (e.symm.trans e');exact dY.lo R h2
 refine ⟨by simpa using T.sz,T'.b,?_,?_,?_,?_,?_,?_,?_,?_,?_,?_,?_⟩ <;> simp only [zX (show 2 < l.size by rw [T.sz];decide),zf (show (2:Nat)≠0 by decide),zf (show (2:Nat)≠1 by decide),zf (show (2:Nat)≠3 by decide),zf (show (2:Nat)≠4 by decide),zf (show (2:Nat)≠5 by decide),zf (show (2:Nat)≠6 by decide),zf (show (2:Nat)≠7 by decide),zf (show (2:Nat)≠8 by decide),zf (show (2:Nat)≠9 by decide)]
 ·exact T'.h0
 ·exact T'.h1
 ·exact fun _=>⟨F,rfl,⟨R.src,R.eq,fun r hr ad e=>Nat.le_trans hl (R.lo r hr ad e),R.hi⟩,f6,f7⟩
 ·exact T'.h3
 ·exact T'.h4
 ·exact T'.h5
 ·intro h;obtain ⟨g,e,h1,h2,h3,_⟩:=T'.h6 h;exact ⟨g,e,h1,h2,h3,fun q=>absurd q (by rw [h8];decide)⟩
 ·exact T'.h7
 ·exact T'.h67
 ·exact fun h=>by have:=T.c8 h;simp [this]
 ·exact fun h=>by have:=T.c9 h;simp [this]
theorem cO.s5 (T:cO wk pa pb l W va xa ca vb xb cb ba bb) (h9:l.getD 9 false=false) {F:Nat -> Sl} (R:dw W.heap.size W' F (aw [pb])) (hb:Below W.heap.size W W'):cO wk pa pb (l.setIfInBounds 5 true) W' va xa ca vb xb (SAv F) ba bb:=by
 have hl:=T.b.size;have T':=T.on hb
 have f6:l.getD 6 false=true -> ∀ g,ba=ptr g -> dY F g:=fun h g e=>by
  obtain ⟨g',e',_,h2,_⟩:=T.h6 h;obtain rfl:=xf (e.symm.trans e');exact dY.lo R h2
 have f7:l.getD 7 false=true -> ∀ g,bb=ptr g -> dY F g:=fun h g e=>by
  obtain ⟨g',e',_,h2,_⟩:=T.h7 h;obtain rfl:=xf (e.symm.trans e');exact dY.lo R h2
 refine ⟨by simpa using T.sz,T'.b,?_,?_,?_,?_,?_,?_,?_,?_,?_,?_,?_⟩ <;> simp only [zX (show 5 < l.size by rw [T.sz];decide),zf (show (5:Nat)≠0 by decide),zf (show (5:Nat)≠1 by decide),zf (show (5:Nat)≠2 by decide),zf (show (5:Nat)≠3 by decide),zf (show (5:Nat)≠4 by decide),zf (show (5:Nat)≠6 by decide),zf (show (5:Nat)≠7 by decide),zf (show (5:Nat)≠8 by decide),zf (show (5:Nat)≠9 by decide)]
 ·exact T'.h0
 ·exact T'.h1
 ·exact T'.h2
 ·exact T'.h3
 ·exact T'.h4
 ·exact fun _=>⟨F,rfl,⟨R.src,R.eq,fun r hr ad e=>Nat.le_trans hl (R.lo r hr ad e),R.hi⟩,f6,f7⟩
 ·exact T'.h6
 ·intro h;obtain ⟨g,e,h1,h2,h3,_⟩:=T'.h7 h;exact ⟨g,e,h1,h2,h3,fun q=>absurd q (by rw [h9];decide)⟩
 ·exact T'.h67
 ·exact fun h=>by have:=T.c8 h;simp [this]
 ·exact fun h=>by have:=T.c9 h;simp [this]
theorem cO.s6 (T:cO wk pa pb l W va xa ca vb xb cb ba bb) (h8:l.getD 8 false=false):cO wk pa pb (l.setIfInBounds 6 true) (W.alloc (.cells (SA iZ) 136)) va xa ca vb xb cb (ptr W.heap.size) bb:=by
 have hl:=T.b.size;have T':=T.on (ze W (.cells (SA iZ) 136))
 have n7:l.getD 7 false=true -> ptr W.heap.size≠bb:=fun h e=>by
  obtain ⟨g',e',_,h2,_⟩:=T.h7 h;have:=xf (e.trans e');omega
 refine ⟨by simpa using T.sz,T'.b,?_,?_,?_,?_,?_,?_,?_,?_,?_,?_,?_⟩ <;> simp only [zX (show 6 < l.size by rw [T.sz];decide),zf (show (6:Nat)≠0 by decide),zf (show (6:Nat)≠1 by decide),zf (show (6:Nat)≠2 by decide),zf (show (6:Nat)≠3 by decide),zf (show (6:Nat)≠4 by decide),zf (show (6:Nat)≠5 by decide),zf (show (6:Nat)≠7 by decide),zf (show (6:Nat)≠8 by decide),zf (show (6:Nat)≠9 by decide)]
 ·exact T'.h0
 ·exact T'.h1
 ·intro h;obtain ⟨F,e,R,_,f7⟩:=T.h2 h;exact ⟨F,e,R.below (ze _ _),fun _ g eg=>by obtain rfl:=xf eg;exact dY.hi R,f7⟩
 ·exact T'.h3
 ·exact T'.h4
 ·intro h;obtain ⟨F,e,R,_,f7⟩:=T.h5 h;exact ⟨F,e,R.below (ze _ _),fun _ g eg=>by obtain rfl:=xf eg;exact dY.hi R,f7⟩
 ·exact fun _=>⟨_,rfl,hl,by simp,fun _=>jv W iZ,fun q=>absurd q (by rw [h8];decide)⟩
 ·exact T'.h7
 ·exact fun _=>n7
 ·exact fun h=>by have:=T.c8 h;simp [this]
 ·exact fun h=>by have:=T.c9 h;simp [this]
theorem cO.s7 (T:cO wk pa pb l W va xa ca vb xb cb ba bb) (h9:l.getD 9 false=false):cO wk pa pb (l.setIfInBounds 7 true) (W.alloc (.cells (SA iZ) 136)) va xa ca vb xb cb ba (ptr W.heap.size):=by
 have hl:=T.b.size;have T':=T.on (ze W (.cells (SA iZ) 136))
 have n6:l.getD 6 false=true -> ba≠ptr W.heap.size:=fun h e=>by
  obtain ⟨g',e',_,h2,_⟩:=T.h6 h;have:=xf (e.symm.trans e');omega
 refine ⟨by simpa using T.sz,T'.b,?_,?_,?_,?_,?_,?_,?_,?_,?_,?_,?_⟩ <;> simp only [zX (show 7 < l.size by rw [T.sz];decide),zf (show (7:Nat)≠0 by decide),zf (show (7:Nat)≠1 by decide),zf (show (7:Nat)≠2 by decide),zf (show (7:Nat)≠3 by decide),zf (show (7:Nat)≠4 by decide),zf (show (7:Nat)≠5 by decide),zf (show (7:Nat)≠6 by decide),zf (show (7:Nat)≠8 by decide),zf (show (7:Nat)≠9 by decide)]
 ·exact T'.h0
 ·exact T'.h1
 ·intro h;obtain ⟨F,e,R,f6,_⟩:=T.h2 h;exact ⟨F,e,R.below (ze _ _),f6,fun _ g eg=>by obtain rfl:=xf eg;exact dY.hi R⟩
 ·exact T'.h3
 ·exact T'.h4
 ·intro h;obtain ⟨F,e,R,f6,_⟩:=T.h5 h;exact ⟨F,e,R.below (ze _ _),f6,fun _ g eg=>by obtain rfl:=xf eg;exact dY.hi R⟩
 ·exact T'.h6
 ·exact fun _=>⟨_,rfl,hl,by simp,fun _=>jv W iZ,fun q=>absurd q (by rw [h9];decide)⟩
 ·exact fun h _=>n6 h
 ·exact fun h=>by have:=T.c8 h;simp [this]
 ·exact fun h=>by have:=T.c9 h;simp [this]
theorem cO.s8 (T:cO wk pa pb l W va xa ca vb xb cb ba bb) (h2:l.getD 2 false=true) (h5:l.getD 5 false=true) (h6:l.getD 6 false=true) (h7:l.getD 7 false=true) (h8:l.getD 8 false=false) :
  ∃ F g,ca=SAv F/\ba=ptr g/\cG W g iZ/\cO wk pa pb (l.setIfInBounds 8 true) (W.setRow g (SA F)) va xa ca vb xb cb ba bb:=by
 obtain ⟨F,eF,RF,f6,f7⟩:=T.h2 h2;obtain ⟨g,eg,g1,g2,g3,_⟩:=T.h6 h6;refine ⟨F,g,eF,eg,g3 h8,?_⟩
 have hz:∀ cs:Array Value,(W.setRow g cs).heap.size=W.heap.size:=fun cs=>by simp [World.setRow]
 refine ⟨by simpa using T.sz,zh T.b g1,?_,?_,?_,?_,?_,?_,?_,?_,?_,?_,?_⟩ <;> simp only [zX (show 8 < l.size by rw [T.sz];decide),zf (show (8:Nat)≠0 by decide),zf (show (8:Nat)≠1 by decide),zf (show (8:Nat)≠2 by decide),zf (show (8:Nat)≠3 by decide),zf (show (8:Nat)≠4 by decide),zf (show (8:Nat)≠5 by decide),zf (show (8:Nat)≠6 by decide),zf (show (8:Nat)≠7 by decide),zf (show (8:Nat)≠9 by decide)]
 ·exact T.h0
 ·exact fun _ h=>by cases h
 ·exact fun h=>⟨F,eF,RF.off (f6 h6 g eg) _,f6,f7⟩
 ·exact T.h3
 ·exact fun _ h=>by cases h
 ·intro h;obtain ⟨G,eG,RG,k6,k7⟩:=T.h5 h;exact ⟨G,eG,RG.off (k6 h6 g eg) _,k6,k7⟩
 ·exact fun _=>⟨g,eg,g1,by rw [hz];exact g2,fun h=>(by cases h),fun _ F' e'=>((g3 h8).setRow (F':=F)).same (e'.symm.trans eF)⟩
 ·intro h;obtain ⟨g',e',k1,k2,k3,k4⟩:=T.h7 h;have ch:g'≠g:=fun e=>T.h67 h6 h (by rw [eg,e',e]);exact ⟨g',e',k1,by rw [hz];exact k2,fun q=>(setRow_other _ _ _ _ ch).trans (k3 q),fun q G eG=>(setRow_other _ _ _ _ ch).trans (k4 q G eG)⟩
 ·exact T.h67
 ·exact fun _=>by simp [h2,h5,h6,h7]
 ·exact fun h=>by have:=T.c9 h;simp [this]
theorem cO.s9 (T:cO wk pa pb l W va xa ca vb xb cb ba bb) (h5:l.getD 5 false=true) (h7:l.getD 7 false=true) (h8:l.getD 8 false=true) (h9:l.getD 9 false=false) :
  ∃ F g,cb=SAv F/\bb=ptr g/\cG W g iZ/\cO wk pa pb (l.setIfInBounds 9 true) (W.setRow g (SA F)) va xa ca vb xb cb ba bb:=by
 obtain ⟨F,eF,RF,f6,f7⟩:=T.h5 h5;obtain ⟨g,eg,g1,g2,g3,_⟩:=T.h7 h7;refine ⟨F,g,eF,eg,g3 h9,?_⟩
 have hz:∀ cs:Array Value,(W.setRow g cs).heap.size=W.heap.size:=fun cs=>by simp [World.setRow]
 refine ⟨by simpa using T.sz,zh T.b g1,?_,?_,?_,?_,?_,?_,?_,?_,?_,?_,?_⟩ <;> simp only [zX (show 9 < l.size by rw [T.sz];decide),zf (show (9:Nat)≠0 by decide),zf (show (9:Nat)≠1 by decide),zf (show (9:Nat)≠2 by decide),zf (show (9:Nat)≠3 by decide),zf (show (9:Nat)≠4 by decide),zf (show (9:Nat)≠5 by decide),zf (show (9:Nat)≠6 by decide),zf (show (9:Nat)≠7 by decide),zf (show (9:Nat)≠8 by decide)]
 ·exact T.h0
 ·exact fun _ h=>by rw [h8] at h;cases h
 ·intro h;obtain ⟨G,eG,RG,k6,k7⟩:=T.h2 h;exact ⟨G,eG,RG.off (k7 h7 g eg) _,k6,k7⟩
 ·exact T.h3
 ·exact fun _ h=>by rw [h8] at h;cases h
 ·exact fun h=>⟨F,eF,RF.off (f7 h7 g eg) _,f6,f7⟩
 ·intro h;obtain ⟨g',e',k1,k2,k3,k4⟩:=T.h6 h;have ch:g'≠g:=fun e=>T.h67 h h7 (by rw [eg,e',e]);exact ⟨g',e',k1,by rw [hz];exact k2,fun q=>(setRow_other _ _ _ _ ch).trans (k3 q),fun q G eG=>(setRow_other _ _ _ _ ch).trans (k4 q G eG)⟩
 ·exact fun _=>⟨g,eg,g1,by rw [hz];exact g2,fun h=>(by cases h),fun _ F' e'=>((g3 h9).setRow (F':=F)).same (e'.symm.trans eF)⟩
 ·exact T.h67
 ·exact fun h=>by have:=T.c8 h;simp [this]
 ·exact fun _=>by simp [h5,h7]
theorem cO.all (T:cO wk pa pb l W va xa ca vb xb cb ba bb) (h:∀ i,i < 10 -> l.getD i false=true) :
  ∃ F G g g',va=PV pa/\vb=PV pb/\ca=SAv F/\cb=SAv G/\ba=ptr g/\bb=ptr g'/\g≠g'/\wk.heap.size <= g/\wk.heap.size <= g'/\cG W g F/\cG W g' G/\dw wk.heap.size W F (aw [pa])/\dw wk.heap.size W G (aw [pb])/\dY F g/\dY G g/\Below wk.heap.size wk W:=by
 obtain ⟨F,eF,RF,f6,_⟩:=T.h2 (h 2 (by decide));obtain ⟨G,eG,RG,k6,_⟩:=T.h5 (h 5 (by decide));obtain ⟨g,eg,g1,_,_,g4⟩:=T.h6 (h 6 (by decide));obtain ⟨g',eg',g1',_,_,g4'⟩:=T.h7 (h 7 (by decide));exact ⟨F,G,g,g',T.h0 (h 0 (by decide)),T.h3 (h 3 (by decide)),eF,eG,eg,eg',fun e=>T.h67 (h 6 (by decide)) (h 7 (by decide)) (by rw [eg,eg',e]),g1,g1',g4 (h 8 (by decide)) F eF,g4' (h 9 (by decide)) G eG,RF,RG,f6 (h 6 (by decide)) g eg,k6 (h 6 (by decide)) g eg,T.b⟩
theorem cO.start (wk:World) (pa pb:Pv) (va xa ca vb xb cb ba bb:Value):cO wk pa pb (Array.replicate 10 false) wk.drew va xa ca vb xb cb ba bb:=by
 refine ⟨by simp,zg wk,?_,?_,?_,?_,?_,?_,?_,?_,?_,?_,?_⟩ <;> simp only [jq] <;> (intro h;cases h)
end
end
section
open Go.RowKit

def dA (p:Pv) (g:Nat):Prop:=(0 < p.vn -> ∀ ad,p.vo=some ad -> ad.block≠g)/\(0 < p.cn -> ∀ ad,p.co=some ad -> ad.block≠g)
theorem dA.new {n g:Nat} {p:Pv} (h:du n p) (hg:g < n):dA p g:=⟨fun _ ad e=>by have:=h.1 ad e;omega,fun _ ad e=>by have:=h.2 ad e;omega⟩
theorem dA.old {W:World} {p:Pv} (h:am W p) {g:Nat} (hg:W.heap.size <= g):dA p g:=by
 refine ⟨fun hn ad e he=>?_,fun hn ad e he=>?_⟩
 ·have:=World.block_lt_of_cell? _ _ (h.vec.2.2 ad e 0 hn);rw [zs] at this;omega
 ·have:=World.block_lt_of_cell? _ _ (h.cloud.cell ad e 0 hn).c0;rw [zs] at this;omega
theorem am.far {W W':World} {p:Pv} (h:am W p) {g:Nat} (hf:dA p g) (hk:∀ q,q≠g -> W'.heap[q]? = W.heap[q]?):am W' p:=by
 have ev:∀ ad,p.vo=some ad -> 0 < p.vn -> ∀ m,W'.cell? (ad.add m)=W.cell? (ad.add m):=fun ad e hn m=>by unfold World.cell?;rw [zs,hk _ (hf.1 hn ad e)]
 have ec:∀ ad,p.co=some ad -> 0 < p.cn -> ∀ m,W'.cell? (ad.add m)=W.cell? (ad.add m):=fun ad e hn m=>by unfold World.cell?;rw [zs,hk _ (hf.2 hn ad e)]
 refine ⟨⟨h.vec.1,h.vec.2.1,fun ad e t ht=>by rw [ev ad e (by omega)];exact h.vec.2.2 ad e t ht⟩,⟨h.cloud.len,h.cloud.nil,fun ad e t ht=>?_,h.cloud.big,h.cloud.cap⟩,h.big⟩;have A:=h.cloud.cell ad e t ht;have e':=ec ad e (by omega);exact ⟨by rw [e'];exact A.c0,by have:=A.c1;rw [qC] at this ⊢;rw [e'];exact this,by have:=A.c2;rw [qC] at this ⊢;rw [e'];exact this⟩
theorem zjn {p q:Pv} (h:PV p=PV q):PC p=PC q:=by injection h
theorem aA.same {w:World} {g:Nat} {p q:Pv} (h:aA w g p) (e:PV q=PV p):aA w g q:=by unfold aA at h ⊢;rw [zjn e];exact h
abbrev vat (vs:List Value) (i:Nat):Value:=vs.getD i undef
structure BI (n st:Nat) (wk:World) (Φ : Nat -> Value -> World -> Prop) (late:List Nat) (RL:List (Nat × (Pst -> Prop))) (AL:List (Nat × Nat × Nat)) (l:Array Bool) (W:World) (vs:List Value):Prop where
 sz:l.size=n
 ln:vs.length=n
 b:Below wk.heap.size wk W
 h:∀ i,i < n -> l.getD i false=true -> (i∈late -> l.getD st false=false) -> Φ i (vat vs i) W
 r:∀ x,x∈RL -> l.getD x.1 false=true -> ∃ p,vat vs x.1=PV p/\am W p/\x.2 p.P/\∀ y,y∈AL -> l.getD y.1 false=true -> ∀ g,vat vs y.1=ptr g -> dA p g
 a:∀ y,y∈AL -> l.getD y.1 false=true -> ∃ g,vat vs y.1=ptr g/\wk.heap.size <= g/\g < W.heap.size/\(l.getD y.2.1 false=false -> aA W g pv0)/\(l.getD y.2.1 false=true -> ∀ p,vat vs y.2.2=PV p -> aA W g p)
 d:∀ y z,y∈AL -> z∈AL -> y.1≠z.1 -> l.getD y.1 false=true -> l.getD z.1 false=true -> vat vs y.1≠vat vs z.1
 c:∀ y,y∈AL -> l.getD y.2.1 false=true -> l.getD y.1 false=true/\l.getD y.2.2 false=true/\l.getD st false=true
def o7 (Φ : Nat -> Value -> World -> Prop):Prop:=∀ i x W W',Φ i x W -> Below W.heap.size W W' -> Φ i x W'
section
variable {n st : Nat} {wk : World} {Φ : Nat -> Value -> World -> Prop} {late : List Nat} {RL : List (Nat × (Pst -> Prop))} {AL : List (Nat × Nat × Nat)} {l : Array Bool} {W W' : World} {vs : List Value}
theorem jY {i:Nat} {v:Value} (h:i < vs.length):vat (vs.set i v) i=v:=by simp [vat,List.getD,h]
theorem zD {i j:Nat} {v:Value} (h:i≠j):vat (vs.set i v) j=vat vs j:=by simp [vat,List.getD,h]
theorem BI.on (hm:o7 Φ) (T:BI n st wk Φ late RL AL l W vs) (hb:Below W.heap.size W W'):BI n st wk Φ late RL AL l W' vs:=by
 refine ⟨T.sz,T.ln,T.b.trans (hb.mono T.b.size),fun i h1 h2 h3=>hm _ _ _ _ (T.h i h1 h2 h3) hb,fun x hx hl=>?_,fun y hy hl=>?_,T.d,T.c⟩
 ·obtain ⟨p,e,S,q,f⟩:=T.r x hx hl;exact ⟨p,e,S.below hb,q,f⟩
 ·obtain ⟨g,e,h1,h2,h3,h4⟩:=T.a y hy hl;exact ⟨g,e,h1,Nat.lt_of_lt_of_le h2 hb.size,fun q=>(h3 q).below hb,fun q p e=>(h4 q p e).below hb⟩
theorem BI.plain (hm:o7 Φ) (T:BI n st wk Φ late RL AL l W vs) (hb:Below W.heap.size W W') (i:Nat) (hi:i < n) (hl:l.getD i false=false) (v:Value) (hΦ : Φ i v W') (h1:∀ x,x∈RL -> x.1≠i) (h2:∀ y,y∈AL -> y.1≠i/\y.2.1≠i) (h3:st≠i):BI n st wk Φ late RL AL (l.setIfInBounds i true) W' (vs.set i v):=by
 have T:=T.on hm hb
 have i9:i < vs.length:=by rw [T.ln];exact hi
 have ph:i < l.size:=by rw [T.sz];exact hi
 have st':(l.setIfInBounds i true).getD st false=l.getD st false:=zf (fun e=>h3 e.symm);refine ⟨by simpa using T.sz,by simpa using T.ln,T.b,fun j hj lw ak=>?_,fun x hx hlx=>?_,fun y hy hly=>?_,fun y z hy hz ch hly hlz=>?_,fun y hy hls=>?_⟩
 ·by_cases e:i=j
  ·subst e;rw [jY i9];exact hΦ
  ·rw [zD e];rw [zf e] at lw;rw [st'] at ak;exact T.h j hj lw ak
 ·have m9:i≠x.1:=fun e=>h1 x hx e.symm;rw [zf m9] at hlx;rw [zD m9];obtain ⟨p,e,S,q,f⟩:=T.r x hx hlx;refine ⟨p,e,S,q,fun y hy hly=>?_⟩;have fJ:i≠y.1:=fun e=>(h2 y hy).1 e.symm;rw [zf fJ] at hly;rw [zD fJ];exact f y hy hly
 ·have fJ:i≠y.1:=fun e=>(h2 y hy).1 e.symm;have oQ:i≠y.2.1:=fun e=>(h2 y hy).2 e.symm;rw [zf fJ] at hly;rw [zD fJ,zf oQ];obtain ⟨g,e,g1,g2,g3,g4⟩:=T.a y hy hly;refine ⟨g,e,g1,g2,g3,fun hs=>?_⟩
  have Dm:i≠y.2.2:=fun e=>by
   have:=(T.c y hy hs).2.1;rw [<- e,hl] at this
   cases this
  rw [zD Dm];exact g4 hs
 ·have fJ:i≠y.1:=fun e=>(h2 y hy).1 e.symm;have dn:i≠z.1:=fun e=>(h2 z hz).1 e.symm;rw [zf fJ] at hly;rw [zf dn] at hlz;rw [zD fJ,zD dn];exact T.d y z hy hz ch hly hlz
 ·have fJ:i≠y.1:=fun e=>(h2 y hy).1 e.symm;have oQ:i≠y.2.1:=fun e=>(h2 y hy).2 e.symm;rw [zf oQ] at hls;have hc:=T.c y hy hls;rw [zf fJ,st'];refine ⟨hc.1,?_,hc.2.2⟩;by_cases e:i=y.2.2
  ·rw [<- e];exact zX ph
  ·rw [zf e];exact hc.2.1
theorem BI.make (hm:o7 Φ) (T:BI n st wk Φ late RL AL l W vs) (i s c:Nat) (hi:i < n) (hl:l.getD i false=false) (_:(i,s,c)∈AL) (hu:∀ y,y∈AL -> y.1=i -> y=(i,s,c)) (h1:∀ x,x∈RL -> x.1≠i) (h2:∀ y,y∈AL -> y.2.1≠i/\y.2.2≠i) (hΦ : ∀ v U,Φ i v U) (h3:st≠i):BI n st wk Φ late RL AL (l.setIfInBounds i true) (W.alloc (.cells (PC pv0) 26)) (vs.set i (ptr W.heap.size)):=by
 have T':=T.on hm (ze W (.cells (PC pv0) 26))
 have i9:i < vs.length:=by rw [T.ln];exact hi
 have ph:i < l.size:=by rw [T.sz];exact hi
 have st':(l.setIfInBounds i true).getD st false=l.getD st false:=zf (fun e=>h3 e.symm);refine ⟨by simpa using T.sz,by simpa using T.ln,T'.b,fun j hj lw ak=>?_,fun x hx hlx=>?_,fun y hy hly=>?_,fun y z hy hz ch hly hlz=>?_,fun y hy hls=>?_⟩
 ·by_cases e:i=j
  ·subst e;exact hΦ _ _
  ·rw [zD e];rw [zf e] at lw;rw [st'] at ak;exact T'.h j hj lw ak
 ·have m9:i≠x.1:=fun e=>h1 x hx e.symm;rw [zf m9] at hlx;rw [zD m9];obtain ⟨p,e,S,q,f⟩:=T.r x hx hlx;refine ⟨p,e,S.below (ze _ _),q,fun y hy hly g eg=>?_⟩;by_cases e1:i=y.1
  ·rw [<- e1,jY i9] at eg;obtain rfl:=xf eg;exact dA.old S (Nat.le_refl _)
  ·rw [zf e1] at hly;rw [zD e1] at eg;exact f y hy hly g eg
 ·by_cases e1:i=y.1
  ·obtain rfl:=hu y hy e1.symm;refine ⟨W.heap.size,by rw [jY i9],T.b.size,by simp,fun _=>zr W pv0,fun hs=>?_⟩;rw [zf (fun e=>(h2 _ hy).1 e.symm)] at hs;have:=(T.c _ hy hs).1;rw [hl] at this
   cases this
  ·have oQ:i≠y.2.1:=fun e=>(h2 y hy).1 e.symm;rw [zf e1] at hly;rw [zD e1,zf oQ,zD (fun e=>(h2 y hy).2 e.symm)];exact T'.a y hy hly
 ·by_cases e1:i=y.1
  ·have e2:i≠z.1:=fun e=>ch (by rw [<- e1,<- e]);rw [zf e2] at hlz;rw [<- e1,jY i9,zD e2];obtain ⟨g,e,_,g2,_⟩:=T.a z hz hlz;intro h;have:=xf (h.trans e);omega
  ·rw [zf e1] at hly;rw [zD e1];by_cases e2:i=z.1
   ·rw [<- e2,jY i9];obtain ⟨g,e,_,g2,_⟩:=T.a y hy hly;intro h;have:=xf (h.symm.trans e);omega
   ·rw [zf e2] at hlz;rw [zD e2];exact T.d y z hy hz ch hly hlz
 ·have oQ:i≠y.2.1:=fun e=>(h2 y hy).1 e.symm;rw [zf oQ] at hls;have hc:=T.c y hy hls;rw [st',zf (fun e=>(h2 y hy).2 e.symm)];refine ⟨?_,hc.2⟩;by_cases e:i=y.1
  ·rw [<- e];exact zX ph
  ·rw [zf e];exact hc.1
theorem BI.fill (T:BI n st wk Φ late RL AL l W vs) (i s c:Nat) (p:Pv) (hs:s < n) (hl:l.getD s false=false) (hA:(i,s,c)∈AL) (hu:∀ y,y∈AL -> y.2.1=s -> y=(i,s,c)) (hk:∀ y,y∈AL -> y.1=i -> y=(i,s,c)) (di:l.getD i false=true) (dc:l.getD c false=true) (dst:s=st∨l.getD st false=true) (hp:vat vs c=PV p) (h1:∀ x,x∈RL -> x.1≠s) (h2:∀ y,y∈AL -> y.1≠s/\y.2.2≠s)
  (hm:∀ j x U U',j ∉ late -> Φ j x U -> Φ j x U') (hΦ : ∀ v U,Φ s v U) (v:Value) :
  ∃ g,vat vs i=ptr g/\aA W g pv0/\BI n st wk Φ late RL AL (l.setIfInBounds s true) (W.setRow g (PC p)) (vs.set s v):=by
 obtain ⟨g,eg,g1,g2,g3,_⟩:=T.a _ hA di
 have i9:s < vs.length:=by rw [T.ln];exact hs
 have rY:s < l.size:=by rw [T.sz];exact hs
 have a8:(l.setIfInBounds s true).getD st false=true:=by
  by_cases e:s=st
  ·rw [<- e];exact zX rY
  ·rw [zf e];exact dst.resolve_left e
 have hz:(W.setRow g (PC p)).heap.size=W.heap.size:=by simp [World.setRow]
 have nC:∀ q,q≠g -> (W.setRow g (PC p)).heap[q]? = W.heap[q]?:=fun q hq=>setRow_other _ _ _ _ hq;refine ⟨g,eg,g3 hl,by simpa using T.sz,by simpa using T.ln,zh T.b g1,fun j hj lw ak=>?_,fun x hx hlx=>?_,fun y hy hly=>?_,fun y z hy FA ch hly hlz=>?_,fun y hy hls=>?_⟩
 ·by_cases e:s=j
  ·subst e;exact hΦ _ _
  ·have gt:j ∉ late:=fun pW=>by have:=ak pW;rw [a8] at this;cases this
   rw [zD e];rw [zf e] at lw;exact hm j _ W _ gt (T.h j hj lw (fun pW=>absurd pW gt))
 ·have m9:s≠x.1:=fun e=>h1 x hx e.symm;rw [zf m9] at hlx;rw [zD m9];obtain ⟨p',e',S',q',f⟩:=T.r x hx hlx;refine ⟨p',e',S'.far (f _ hA di g eg) nC,q',fun y hy hly=>?_⟩;have fJ:s≠y.1:=fun e=>(h2 y hy).1 e.symm;rw [zf fJ] at hly;rw [zD fJ];exact f y hy hly
 ·have fJ:s≠y.1:=fun e=>(h2 y hy).1 e.symm;rw [zf fJ] at hly;rw [zD fJ,zD (fun e=>(h2 y hy).2 e.symm)];by_cases e:y.1=i
  ·obtain rfl:=hk y hy e;refine ⟨g,eg,g1,by rw [hz];exact g2,fun h=>?_,fun _ q hq=>?_⟩
   ·rw [zX rY] at h;cases h
   ·have:aA (W.setRow g (PC p)) g p:=setRow_heap _ _ _ _ _ _ (g3 hl);exact this.same (hq.symm.trans hp)
  ·obtain ⟨g',eg',k1,k2,k3,k4⟩:=T.a y hy hly;have ch:g'≠g:=fun h=>T.d y _ hy hA (by exact e) hly di (by rw [eg',h];exact eg.symm)
   have oQ:s≠y.2.1:=fun h=>by have:=hu y hy h.symm;rw [this] at e;exact e rfl
   rw [zf oQ];exact ⟨g',eg',k1,by rw [hz];exact k2,fun q=>(nC _ ch).trans (k3 q),fun q p' e'=>(nC _ ch).trans (k4 q p' e')⟩
 ·have fJ:s≠y.1:=fun e=>(h2 y hy).1 e.symm;have dn:s≠z.1:=fun e=>(h2 z FA).1 e.symm;rw [zf fJ] at hly;rw [zf dn] at hlz;rw [zD fJ,zD dn];exact T.d y z hy FA ch hly hlz
 ·have fJ:s≠y.1:=fun e=>(h2 y hy).1 e.symm;have Dm:s≠y.2.2:=fun e=>(h2 y hy).2 e.symm;rw [zf fJ,zf Dm];by_cases e:s=y.2.1
  ·obtain rfl:=hu y hy e.symm;exact ⟨di,dc,a8⟩
  ·rw [zf e] at hls;have:=T.c y hy hls;exact ⟨this.1,this.2.1,a8⟩
theorem BI.start (n st:Nat) (wk:World) (Φ : Nat -> Value -> World -> Prop) (late:List Nat) (RL:List (Nat × (Pst -> Prop))) (AL:List (Nat × Nat × Nat)) (vs:List Value) (h:vs.length=n):BI n st wk Φ late RL AL (Array.replicate n false) wk.drew vs:=by
 refine ⟨by simp,h,zg wk,?_,?_,?_,?_,?_⟩ <;> simp only [jq]
 ·intro i _ h;cases h
 ·intro x _ h;cases h
 ·intro y _ h;cases h
 ·intro y z _ _ _ h;cases h
 ·intro y _ h;cases h
end
end
end Go.Proofs.YtjffpimfngdggaaGreat
