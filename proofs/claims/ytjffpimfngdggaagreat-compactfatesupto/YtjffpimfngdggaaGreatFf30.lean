import Derived.Deep.MidRow
import Derived.Test.YtjffpimfngdggaaGreatFf29
import Derived.BigFrame
import Derived.Deep.CutRange
set_option maxRecDepth 100000
set_option maxHeartbeats 3200000
namespace Go.Proofs.YtjffpimfngdggaaGreat
section
open Go.RowKit
section

theorem zc8 (s:Sn) (d:Rn) (w:World):Calls Tryz.prog 136 #[SV s,RV d] w fun e w'=>e = .returned (.int .i64 (nrC s d))/\Below w.heap.size w w':=by
 have b1:=ze w (.cells (SC s) 104);have x1:=qJ w s;have s1:=World.size_alloc w (.cells (SC s) 104);obtain ⟨w1,cF⟩:∃ w1,w.alloc (.cells (SC s) 104)=w1:=⟨_,rfl⟩;obtain ⟨g1,cP⟩:∃ g1,w.heap.size=g1:=⟨_,rfl⟩;rw [cF] at b1 x1 s1;rw [cP] at x1 s1;have b2:=ze w1 (.cells (RC d) 48);have x2:=zQ w1 48 d;obtain ⟨w2,eH⟩:∃ w2,w1.alloc (.cells (RC d) 48)=w2:=⟨_,rfl⟩;rw [eH] at b2 x2;rw [s1] at x2;have HB:=hide (tmq b1 b2);have HX:Hid (dC w2 g1 s/\Box w2 (g1+1) 48 d):=⟨x1.below b2,x2⟩
 have aB:Hid (∀ W,Below w2.heap.size w2 W -> W.cell? ⟨g1,0,none⟩=some (.int .i64 s.rep)/\W.cell? ⟨g1,2,none⟩=some (.int .i64 s.hi)/\W.cell? ⟨g1+1,0,none⟩=some (.int .i64 d.lo)/\W.cell? ⟨g1+1,1,none⟩=some (.int .i64 d.hi)):=fun W hW=>by
  obtain ⟨c0,-,c2⟩:=(HX.1.below hW).at
  have hd:=(HX.2.below hW).at
  exact ⟨c0,c2,hd.c0,hd.c1⟩
 obtain ⟨p,Hp⟩:∃ p,Hid (az s.rep d.lo=p):=⟨_,rfl⟩;obtain ⟨q,Hq⟩:∃ q,Hid (az s.hi d.hi=q):=⟨_,rfl⟩
 have HR:Hid (nrC s d=or2 p q):=by show _=_;unfold nrC;rw [Hp.out,Hq.out]
 clear b1 b2 x1 x2;go_enter Tryz.func136,Tryz.ntmps136;go_wp2_with fail;clear cF eH s1 cP;refine wp_region_held_drew (S:=fun W=>W.cell? ⟨g1,0,none⟩=some (.int .i64 s.rep)/\W.cell? ⟨g1,2,none⟩=some (.int .i64 s.hi)/\W.cell? ⟨g1+1,0,none⟩=some (.int .i64 d.lo)/\W.cell? ⟨g1+1,1,none⟩=some (.int .i64 d.hi)) (by kernel_rfl) (aB.out _ (zf w2)) (fun hHeld=>?_);refine wU 0 ?_;refine wU 1 ?_;refine wU 2 ?_;refine wU 3 ?_;refine wU 5 ?_;refine wU 6 ?_;refine wU 7 ?_;refine wU 8 ?_;refine wR 4 fun K hK=>?_;go_simp;go_wp2_with fail;refine (qC s.rep d.lo _).mono ?_;rintro e w' ⟨rfl,rfl⟩;rw [Hp.out];refine hK.out _ _ (aB.out _ (zf w2)) (fun hHeld=>?_);clear hK K;refine wR 9 fun K hK=>?_;go_simp
 go_wp2_with fail;refine (qC s.hi d.hi _).mono ?_;rintro e w' ⟨rfl,rfl⟩;rw [Hq.out];refine hK.out _ _ (aB.out _ (zf w2)) (fun hHeld=>?_);clear hK K;have aw:=hide ((zf w2).trans (ze w2.drew (.cells #[.int .i64 p,.int .i64 q] 3)));have HO:=hide (yv p q w2.drew w2.heap.size rfl);refine wR 10 fun K hK=>?_;go_simp;refine hK.out _ _ (aB.out _ aw) (fun hHeld=>?_);clear hK K;refine wR 11 fun K hK=>?_;go_simp;go_wp2_with fail;refine HO.mono ?_;rintro e w' ⟨rfl,rfl⟩;refine hK.out _ _ (aB.out _ aw) (fun hHeld=>?_);clear hK K;refine wU 12 ?_;refine wD ?_ _;clear hHeld;go_wp2_with fail;go_ret;exact ⟨zK HR.symm,tmq HB aw⟩
end
section
attribute [local go_sem ↓] x9 jv zY zX
attribute [local go_sem] xV qD xf
variable {w w' w2 W W' : World} {g : Nat}

theorem zhK (ao:Option Addr) (n cap:Nat) (L:List Sn) (d:Rn) (w:World) (hS:cR w ao n cap L) (hm:∀ a b,a <= b -> b < n -> nrC (L.getD b sn0) d < 0 -> nrC (L.getD a sn0) d < 0) :
  Calls Tryz.prog 135 #[.slice ao n cap,RV d,.func (.func 136) #[] #[]] w fun e w'=>BsA w w' e L d n:=by
 have DL:∀ (args:Array Value) (w:World),(callFunc 136 args).run Tryz.prog w = .ok (.enter 136 args) w:=fun _ _=>rfl;have b1:=ze w (.cells (RC d) 48);have x1:=zQ w 48 d;obtain ⟨w1,cF⟩:∃ w1,w.alloc (.cells (RC d) 48)=w1:=⟨_,rfl⟩;obtain ⟨g1,cP⟩:∃ g1,w.heap.size=g1:=⟨_,rfl⟩;rw [cF] at b1 x1;rw [cP] at x1;have aM:=hide b1;have HX:Hid (Box w1 g1 48 d/\cR w1 ao n cap L):=⟨x1,hS.below b1⟩;have lL:n <= 5864062014805:=hS.big;have HM:=hide hm;clear b1 x1 hS hm;go_enter Tryz.func135,Tryz.ntmps135;go_wp2_with fail;clear cF cP;go_loopw [9,10] (fun a b wr=>∃ (lo hi:Nat),a = .int .i64 (lo:Int)/\b = .int .i64 (hi:Int)/\lo <= hi/\hi <= n/\Hid (Below w1.heap.size w1 wr/\(∀ j,j < lo -> nrC (L.getD j sn0) d < 0)/\(hi < n -> 0 <= nrC (L.getD hi sn0) d))) (fun a b _=>(intOf b).toNat - (intOf a).toNat)
 case atStart=>exact ⟨0,n,rfl,rfl,Nat.zero_le _,Nat.le_refl _,Below.refl _ _,(fun j hj=>by omega),fun h=>by omega⟩
 case round =>
  obtain ⟨lo,hi,rfl,rfl,FW,nq,HI⟩:=hrel
  rename World=>wr
  by_cases ak:lo < hi
  ·have aX:(lo:Int) < (hi:Int):=by omega
   obtain ⟨h,hh⟩:∃ h:Nat,(lo+hi) / 2=h:=⟨_,rfl⟩
   have p7:lo <= 5864062014805:=by omega
   have Fo:hi <= 5864062014805:=by omega
   obtain ⟨t,ht⟩:∃ t:Nat,lo+hi=t:=⟨_,rfl⟩
   have et:(lo:Int)+(hi:Int)=(t:Int):=by omega
   have e2:(t:Int) / 2=(h:Int):=by omega
   have e3:t / 2=h:=by omega
   have HH:Hid (lo <= h/\h < hi/\h < n):=⟨by omega,by omega,by omega⟩
   have E8:t <= 20000000000000:=by omega
   obtain ⟨ad,rfl,A0⟩:=(HX.2.below HI.1).at h HH.2.2;obtain ⟨s,Hs⟩:∃ s,Hid (L.getD h sn0=s):=⟨_,rfl⟩
   have aB:Hid (∀ W,Below wr.heap.size wr W -> (ldS (.pointer (some (ad.add (h * 3))))).run Tryz.prog W = .ok (SV s) W/\(ldD (.pointer (some ⟨g1,0,none⟩))).run Tryz.prog W = .ok (RV d) W):=fun W hW=>by
    obtain ⟨ad',e',A1⟩:=((HX.2.below HI.1).below hW).at h HH.2.2;obtain rfl:=Option.some.inj e';rw [Hs.out] at A1;exact ⟨qk A1,zG ((HX.1.below HI.1).below hW).at⟩
   have As:(h:Int) < (n:Int):=by have:=HH.out;omega
   clear A0 hh ht;go_upto_region 5 with fail;clear et e2 e3;refine wp_region_held_drew (S:=fun W=>(ldS (.pointer (some (ad.add (h * 3))))).run Tryz.prog W = .ok (SV s) W/\(ldD (.pointer (some ⟨g1,0,none⟩))).run Tryz.prog W = .ok (RV d) W) (by kernel_rfl) (aB.out _ (zf wr)) (fun hHeld=>?_);refine wU 0 ?_;refine wU 1 ?_;refine wU 2 ?_;refine wU 3 ?_;refine wU 4 ?_;refine wU 5 ?_;refine wR 6 fun K hK=>?_;go_simp;go_wp2_with fail;refine (zc8 s d _).mono ?_;rintro e w3 ⟨rfl,b3⟩;have eo:Below wr.heap.size wr w3:=(zf wr).trans b3;have aw:=hide (HI.1.trans (eo.mono HI.1.size));refine hK.out _ _ (aB.out _ eo) (fun hHeld=>?_);clear hK K b3 eo;obtain ⟨z,hz⟩:∃ z,nrC s d=z:=⟨_,rfl⟩;rw [hz];refine wU 7 ?_;refine wD ?_ _;clear hHeld
   by_cases cY:z < 0
   ·have HN:Hid (∀ j,j < h+1 -> nrC (L.getD j sn0) d < 0):=fun j hj=>HM.out j h (by omega) HH.2.2 (by rw [Hs.out,hz];exact cY);clear hz;go_wp2_with fail;go_roundw
    case rel=>exact ⟨h+1,hi,by simp,rfl,by have:=HH.out;omega,nq,aw.out,HN.out,HI.2.2⟩
    case measure=>simp [intOf];have:=HH.out;omega
   ·have HN:Hid (h < n -> 0 <= nrC (L.getD h sn0) d):=fun _=>by rw [Hs.out,hz];omega
    clear hz;go_wp2_with fail;go_roundw
    case rel=>exact ⟨lo,h,rfl,rfl,HH.1,by have:=HH.out;omega,aw.out,HI.2.1,HN.out⟩
    case measure=>simp [intOf];have:=HH.out;omega
  ·have aX:¬ (lo:Int) < (hi:Int):=by omega
   obtain rfl:lo=hi:=by omega
   have HF:Hid (fK L d n lo):=⟨nq,HI.2.1,HI.2.2⟩;have fU:=wTr aM HI.1;by_cases iv:lo < n
   ·have mf:(lo:Int) < (n:Int):=by omega
    obtain ⟨ad,rfl,A0⟩:=(HX.2.below HI.1).at lo iv;obtain ⟨s,Hs⟩:∃ s,Hid (L.getD lo sn0=s):=⟨_,rfl⟩
    have aB:Hid (∀ W,Below wr.heap.size wr W -> (ldS (.pointer (some (ad.add (lo * 3))))).run Tryz.prog W = .ok (SV s) W/\(ldD (.pointer (some ⟨g1,0,none⟩))).run Tryz.prog W = .ok (RV d) W):=fun W hW=>by
     obtain ⟨ad',e',A1⟩:=((HX.2.below HI.1).below hW).at lo iv;obtain rfl:=Option.some.inj e';rw [Hs.out] at A1;exact ⟨qk A1,zG ((HX.1.below HI.1).below hW).at⟩
    clear A0;go_upto_region 8 with fail;refine wp_region_held_drew (S:=fun W=>(ldS (.pointer (some (ad.add (lo * 3))))).run Tryz.prog W = .ok (SV s) W/\(ldD (.pointer (some ⟨g1,0,none⟩))).run Tryz.prog W = .ok (RV d) W) (by kernel_rfl) (aB.out _ (zf wr)) (fun hHeld=>?_);refine wU 0 ?_;refine wU 1 ?_;refine wU 2 ?_;refine wU 3 ?_;refine wU 4 ?_;refine wU 5 ?_;refine wU 6 ?_;refine wU 7 ?_;refine wU 8 ?_;refine wU 9 ?_;refine wU 10 ?_;refine wR 11 fun K hK=>?_;go_simp;go_wp2_with fail;refine (zc8 s d _).mono ?_;rintro e w3 ⟨rfl,b3⟩;have eo:Below wr.heap.size wr w3:=(zf wr).trans b3;have aw:=wTr fU eo;refine hK.out _ _ (aB.out _ eo) (fun hHeld=>?_);clear hK K b3 eo;obtain ⟨z,hz⟩:∃ z,nrC s d=z:=⟨_,rfl⟩;rw [hz];clear hz;refine wU 14 ?_;refine wU 12 ?_
    refine wU 13 ?_;refine wU 15 ?_;refine wD ?_ _;clear hHeld;go_wp2_with fail;go_ret2;exact ⟨lo,_,rfl,HF.out,aw.out⟩
   ·have mf:¬ (lo:Int) < (n:Int):=by omega
    go_upto_region 8 with fail;refine wp_region_held_drew (S:=fun _=>True) (by kernel_rfl) (trivial) (fun hHeld=>?_);refine wU 0 ?_;refine wU 1 ?_;refine wU 2 ?_;refine wU 3 ?_;refine wU 4 ?_;refine wV 5 ?_;refine wV 6 ?_;refine wV 7 ?_;refine wV 8 ?_;refine wV 9 ?_;refine wV 10 ?_;refine wV 11 ?_;refine wV 12 ?_;refine wU 14 ?_;refine wU 13 ?_;refine wU 15 ?_;refine wD ?_ _;clear hHeld;go_wp2_with fail;go_ret2;exact ⟨lo,_,rfl,HF.out,tmq fU (zf wr)⟩
end
section
attribute [local go_sem ↓] zq zp zY zX
attribute [local go_sem] zi zk
variable {w w' w2 W W' : World} {g : Nat}

theorem zby (p:Pv) (d:Rn) (w:World) (hS:am w p) (hm:∀ a b,a <= b -> b < p.cn -> nrC (p.P.cloud.getD b sn0) d < 0 -> nrC (p.P.cloud.getD a sn0) d < 0):Calls Tryz.prog 85 #[PV p,RV d] w fun e w'=>NrA w w' e p d:=by
 have b1:=ze w (.cells (PC p) 26);have x1:=zm w p;have s1:=World.size_alloc w (.cells (PC p) 26);obtain ⟨w1,cF⟩:∃ w1,w.alloc (.cells (PC p) 26)=w1:=⟨_,rfl⟩;obtain ⟨g1,cP⟩:∃ g1,w.heap.size=g1:=⟨_,rfl⟩;rw [cF] at b1 x1 s1;rw [cP] at x1 s1;have b2:=ze w1 (.cells (RC d) 48);have x2:=zQ w1 48 d;have s2:=World.size_alloc w1 (.cells (RC d) 48);obtain ⟨w2,eH⟩:∃ w2,w1.alloc (.cells (RC d) 48)=w2:=⟨_,rfl⟩;rw [eH] at b2 x2 s2;rw [s1] at x2 s2;have b3:=ze w2 (.cells #[.slice none 0 0,.slice none 0 0] 26);have x3:av (w2.alloc (.cells #[.slice none 0 0,.slice none 0 0] 26)) w2.heap.size pv0:=zm w2 pv0;obtain ⟨w3,DR⟩:∃ w3,w2.alloc (.cells #[.slice none 0 0,.slice none 0 0] 26)=w3:=⟨_,rfl⟩;rw [DR] at b3 x3;rw [s2] at x3;have b13:=tmq b1 (b2.trans (b3.mono b2.size))
 have rv:=(x1.below b2).below b3;have HX:Hid (av w3 g1 p/\av w3 (g1+1+1) pv0/\am w3 p/\Below w.heap.size w w3/\w.heap.size=g1):=⟨rv,x3,hS.below b13,b13,cP⟩
 have ld:=zG (x2.below b3).at
 obtain ⟨y0,y1⟩:=rv.nums;have CU:=hide (zhK p.co p.cn p.cc p.P.cloud d w3 HX.2.2.1.cloud hm);have HS:=hide hS;clear b1 b2 b3 x1 x2 x3 b13 rv hS hm;go_enter Tryz.func85,Tryz.ntmps85;go_wp2_with fail;clear cF eH DR s1 s2 cP ld y0 y1;refine CU.mono ?_;rintro e w4 ⟨i,fb,rfl,hF,b4⟩;have HF:=hide hF;have ii:i <= p.cn:=hF.1;have lL:p.cn <= 5864062014805:=HX.2.2.1.cloud.big;have aI:=hide (HX.2.2.2.1.trans (b4.mono HX.2.2.2.1.size));have eE:Hid (av w4 g1 p/\av w4 (g1+1+1) pv0/\am w4 p):=⟨HX.1.below b4,HX.2.1.below b4,HX.2.2.1.below b4⟩
 have aB:Hid (∀ (W:World) co cn cc,W.heap[g1]? = w4.heap[g1]? -> p.co=co -> p.cn=cn -> p.cc=cc -> W.cell? ⟨g1,0,none⟩=some (.slice p.vo p.vn p.vc)/\W.cell? ⟨g1,1,none⟩=some (.slice co cn cc)):=fun W co cn cc hW h1 h2 h3=>by rw [<- h1,<- h2,<- h3];exact av.nums (show av W g1 p from hW.trans eE.1)
 have nT:Hid (∀ (q:Pv),am w q -> q.P=⟨p.P.vec,(p.P.cloud.drop i).take 1⟩ -> (stP (.pointer (some ⟨g1+1+1,0,none⟩)) (PV q)).run Tryz.prog w4.drew = .ok () (w4.drew.setRow (g1+1+1) (PC q))/\av (w4.drew.setRow (g1+1+1) (PC q)) (g1+1+1) q/\NrA w (w4.drew.setRow (g1+1+1) (PC q)) (.returned (PV q)) p d):=fun q hq hP=>by
  have hb:Below w.heap.size w (w4.drew.setRow (g1+1+1) (PC q)):=zh (tmq aI (zf w4)) (by have:=HX.2.2.2.2;omega);have hX:av w4.drew (g1+1+1) pv0:=eE.2.1.below (zf w4);exact ⟨qM (p':=q) hX,setRow_heap _ _ _ _ _ _ hX,q,i,rfl,hq.below hb,HF.out,hP,hb⟩
 obtain ⟨u,hu⟩:∃ u:Nat,i+1=u:=⟨_,rfl⟩
 have eu:(i:Int)+1=(u:Int):=by omega
 have ew:IntKind.i64.wrap (u:Int)=(u:Int):=by rw [IntKind.wrap_i64];omega
 clear hF b4 CU;by_cases ak:i < p.cn
 ·have emin:min (u:Int) (p.cn:Int)=(u:Int):=by omega
  obtain ⟨ad,hco,-⟩:=HS.cloud.at i ak;have mY:=HS.cloud.cap
  have Dq:¬ p.cc=i:=by omega
  have h1:(u:Int) <= (p.cc:Int):=by omega
  have h2:i <= u:=by omega
  have h3:u <= p.cc:=by omega
  obtain ⟨t8,x8,hE⟩:=nT.out ⟨p.vo,p.vn,p.vc,some (ad.add (i * 3)),u - i,p.cc - i,⟨p.P.vec,(p.P.cloud.drop i).take 1⟩⟩ ⟨HS.vec,by rw [show u - i=1 by omega];exact zcS (hco ▸ HS.cloud) ak (p.cc - i) (show 1 <= p.cc - i by omega),HS.big⟩ rfl;replace t8:(stP (.pointer (some ⟨g1+1+1,0,none⟩)) (.agg #[.slice p.vo p.vn p.vc,.slice (some (ad.add (i * 3))) (u - i) (p.cc - i)])).run Tryz.prog w4.drew = .ok () (w4.drew.setRow (g1+1+1) (PC ⟨p.vo,p.vn,p.vc,some (ad.add (i * 3)),u - i,p.cc - i,⟨p.P.vec,(p.P.cloud.drop i).take 1⟩⟩)):=t8;have gf:=hide x8;have HE:=hide hE;clear x8 hE;go_upto_region 2 with fail;refine wp_region_held_drew (S:=fun W=>W.cell? ⟨g1,0,none⟩=some (.slice p.vo p.vn p.vc)/\W.cell? ⟨g1,1,none⟩=some (.slice (some ad) p.cn p.cc)) (by kernel_rfl) (aB.out _ _ _ _ rfl hco rfl rfl) (fun hHeld=>?_);refine wU 0 ?_
  refine wU 1 ?_;refine wU 2 ?_;refine wU 3 ?_;refine wU 4 ?_;refine wU 5 ?_;refine wU 6 ?_;refine wU 7 ?_;refine wU 8 ?_;refine wU 9 ?_;refine wU 10 ?_;refine wpAnyH_take (i:=11) (oi:=⟨some 25,.slice 24 (.tmp 17) (some (.tmp 18)) (some (.tmp 24)) none,24, "fate.go:79",#[⟨3,.data⟩,⟨4,.data⟩,⟨10,.data⟩],none⟩) (v:=.slice (some (ad.add (i * 3))) (u - i) (p.cc - i)) rfl (by kernel_rfl) (by kernel_rfl) (by kernel_rfl) (fun _ _ _ h=>h) (Or.inl ⟨by rfl,?_⟩) (by assumption) ?_
  skip
  ·(intro w hSw;(try dsimp only at hSw);go_simp);first | done | with_reducible rfl
  simp only [Act.put,List.setIfInBounds_toArray,List.set_cons_zero,List.set_cons_succ];refine wU 12 ?_;refine wR 13 fun K hK=>?_;go_simp;refine hK.out _ _ (aB.out _ _ _ _ ?_ hco rfl rfl) (fun hHeld=>?_)
  ·exact setRow_other _ _ _ _ (by omega)
  clear hK K t8;refine wD ?_ _;clear hHeld;go_wp2_with fail;refine bodyPost_ret (eR rfl rfl gf) rfl ?_;exact HE.out
 ·obtain rfl:i=p.cn:=by omega
  have emin:min (u:Int) (p.cn:Int)=(p.cn:Int):=by omega
  have hl:=HS.cloud.len
  cases hco:p.co with
  | none =>
   obtain ⟨tO,DK⟩:=HS.cloud.nil hco
   have G0:(p.cn:Int)=0:=by omega
   have emin0:min (1:Int) 0=0:=by decide
   have ew1:IntKind.i64.wrap (1:Int)=1:=by rw [IntKind.wrap_i64];decide
   obtain ⟨t8,x8,hE⟩:=nT.out ⟨p.vo,p.vn,p.vc,none,0,0,⟨p.P.vec,(p.P.cloud.drop p.cn).take 1⟩⟩ ⟨HS.vec,jw hl (Nat.le_refl _) (fun _=>rfl),HS.big⟩ rfl;replace t8:(stP (.pointer (some ⟨g1+1+1,0,none⟩)) (.agg #[.slice p.vo p.vn p.vc,.slice none 0 0])).run Tryz.prog w4.drew = .ok () (w4.drew.setRow (g1+1+1) (PC ⟨p.vo,p.vn,p.vc,none,0,0,⟨p.P.vec,(p.P.cloud.drop p.cn).take 1⟩⟩)):=t8;have gf:=hide x8;have HE:=hide hE;clear x8 hE;go_upto_region 2 with fail;refine wp_region_held_drew (S:=fun W=>W.cell? ⟨g1,0,none⟩=some (.slice p.vo p.vn p.vc)/\W.cell? ⟨g1,1,none⟩=some (.slice none 0 0)) (by kernel_rfl) (aB.out _ _ _ _ rfl hco tO DK) (fun hHeld=>?_);refine wU 0 ?_;refine wU 1 ?_;refine wU 2 ?_;refine wU 3 ?_;refine wU 4 ?_;refine wU 5 ?_;refine wU 6 ?_;refine wU 7 ?_;refine wU 8 ?_;refine wU 9 ?_;refine wU 10 ?_
   refine wpAnyH_take (i:=11) (oi:=⟨some 25,.slice 24 (.tmp 17) (some (.tmp 18)) (some (.tmp 24)) none,24, "fate.go:79",#[⟨3,.data⟩,⟨4,.data⟩,⟨10,.data⟩],none⟩) (v:=.slice none 0 0) rfl (by kernel_rfl) (by kernel_rfl) (by kernel_rfl) (fun _ _ _ h=>h) (Or.inl ⟨by rfl,?_⟩) (by assumption) ?_
   skip
   ·(intro w hSw;(try dsimp only at hSw);go_simp);first | done | with_reducible rfl
   simp only [Act.put,List.setIfInBounds_toArray,List.set_cons_zero,List.set_cons_succ];refine wU 12 ?_;refine wR 13 fun K hK=>?_;go_simp;refine hK.out _ _ (aB.out _ _ _ _ ?_ hco tO DK) (fun hHeld=>?_)
   ·exact setRow_other _ _ _ _ (by omega)
   clear hK K t8;refine wD ?_ _;clear hHeld;go_wp2_with fail;refine bodyPost_ret (eR rfl rfl gf) rfl ?_;exact HE.out
  | some ad =>
   have mY:=HS.cloud.cap;by_cases hcc:p.cc=p.cn
   ·obtain ⟨t8,x8,hE⟩:=nT.out ⟨p.vo,p.vn,p.vc,some ad,0,0,⟨p.P.vec,(p.P.cloud.drop p.cn).take 1⟩⟩ ⟨HS.vec,jw hl (Nat.le_refl _) (fun h=>by cases h),HS.big⟩ rfl;replace t8:(stP (.pointer (some ⟨g1+1+1,0,none⟩)) (.agg #[.slice p.vo p.vn p.vc,.slice (some ad) 0 0])).run Tryz.prog w4.drew = .ok () (w4.drew.setRow (g1+1+1) (PC ⟨p.vo,p.vn,p.vc,some ad,0,0,⟨p.P.vec,(p.P.cloud.drop p.cn).take 1⟩⟩)):=t8;have gf:=hide x8;have HE:=hide hE;clear x8 hE;go_upto_region 2 with fail;refine wp_region_held_drew (S:=fun W=>W.cell? ⟨g1,0,none⟩=some (.slice p.vo p.vn p.vc)/\W.cell? ⟨g1,1,none⟩=some (.slice (some ad) p.cn p.cn)) (by kernel_rfl) (aB.out _ _ _ _ rfl hco rfl hcc) (fun hHeld=>?_);refine wU 0 ?_;refine wU 1 ?_;refine wU 2 ?_;refine wU 3 ?_;refine wU 4 ?_;refine wU 5 ?_;refine wU 6 ?_;refine wU 7 ?_;refine wU 8 ?_
    refine wU 9 ?_;refine wU 10 ?_;refine wpAnyH_take (i:=11) (oi:=⟨some 25,.slice 24 (.tmp 17) (some (.tmp 18)) (some (.tmp 24)) none,24, "fate.go:79",#[⟨3,.data⟩,⟨4,.data⟩,⟨10,.data⟩],none⟩) (v:=.slice (some ad) 0 0) rfl (by kernel_rfl) (by kernel_rfl) (by kernel_rfl) (fun _ _ _ h=>h) (Or.inl ⟨by rfl,?_⟩) (by assumption) ?_
    skip
    ·(intro w hSw;(try dsimp only at hSw);go_simp);first | done | with_reducible rfl
    simp only [Act.put,List.setIfInBounds_toArray,List.set_cons_zero,List.set_cons_succ];refine wU 12 ?_;refine wR 13 fun K hK=>?_;go_simp;refine hK.out _ _ (aB.out _ _ _ _ ?_ hco rfl hcc) (fun hHeld=>?_)
    ·exact setRow_other _ _ _ _ (by omega)
    clear hK K t8;refine wD ?_ _;clear hHeld;go_wp2_with fail;refine bodyPost_ret (eR rfl rfl gf) rfl ?_;exact HE.out
   ·obtain ⟨t8,x8,hE⟩:=nT.out ⟨p.vo,p.vn,p.vc,some (ad.add (p.cn * 3)),0,p.cc - p.cn,⟨p.P.vec,(p.P.cloud.drop p.cn).take 1⟩⟩ ⟨HS.vec,jw hl (Nat.le_refl _) (fun h=>by cases h),HS.big⟩ rfl;replace t8:(stP (.pointer (some ⟨g1+1+1,0,none⟩)) (.agg #[.slice p.vo p.vn p.vc,.slice (some (ad.add (p.cn * 3))) 0 (p.cc - p.cn)])).run Tryz.prog w4.drew = .ok () (w4.drew.setRow (g1+1+1) (PC ⟨p.vo,p.vn,p.vc,some (ad.add (p.cn * 3)),0,p.cc - p.cn,⟨p.P.vec,(p.P.cloud.drop p.cn).take 1⟩⟩)):=t8;have gf:=hide x8;have HE:=hide hE;clear x8 hE;go_upto_region 2 with fail;refine wp_region_held_drew (S:=fun W=>W.cell? ⟨g1,0,none⟩=some (.slice p.vo p.vn p.vc)/\W.cell? ⟨g1,1,none⟩=some (.slice (some ad) p.cn p.cc)) (by kernel_rfl) (aB.out _ _ _ _ rfl hco rfl rfl) (fun hHeld=>?_);refine wU 0 ?_;refine wU 1 ?_;refine wU 2 ?_;refine wU 3 ?_
    refine wU 4 ?_;refine wU 5 ?_;refine wU 6 ?_;refine wU 7 ?_;refine wU 8 ?_;refine wU 9 ?_;refine wU 10 ?_;refine wpAnyH_take (i:=11) (oi:=⟨some 25,.slice 24 (.tmp 17) (some (.tmp 18)) (some (.tmp 24)) none,24, "fate.go:79",#[⟨3,.data⟩,⟨4,.data⟩,⟨10,.data⟩],none⟩) (v:=.slice (some (ad.add (p.cn * 3))) 0 (p.cc - p.cn)) rfl (by kernel_rfl) (by kernel_rfl) (by kernel_rfl) (fun _ _ _ h=>h) (Or.inl ⟨by rfl,?_⟩) (by assumption) ?_
    skip
    ·(intro w hSw;(try dsimp only at hSw);go_simp);first | done | with_reducible rfl
    simp only [Act.put,List.setIfInBounds_toArray,List.set_cons_zero,List.set_cons_succ];refine wU 12 ?_;refine wR 13 fun K hK=>?_;go_simp;refine hK.out _ _ (aB.out _ _ _ _ ?_ hco rfl rfl) (fun hHeld=>?_)
    ·exact setRow_other _ _ _ _ (by omega)
    clear hK K t8;refine wD ?_ _;clear hHeld;go_wp2_with fail;refine bodyPost_ret (eR rfl rfl gf) rfl ?_;exact HE.out
end
end
section
open Go.RowKit
variable {w w' : World} {g : Nat}
structure FtR where
 rep:Int
 num:Int
 kind:Int
 recs:Int
def ft0:FtR:=⟨0,0,0,0⟩
def FtC (m:FtR):Array Value:=#[.int .i64 m.rep,.int .i64 m.num,.int .i64 m.kind,.int .i64 m.recs]
abbrev FtV (m:FtR):Value:=.agg (FtC m)
theorem kn (m:FtR):(FtC m).size=4:=rfl
theorem zcK (m:FtR):∀ v∈(FtC m).toList,v.oneCell'=true:=by
 intro v hv;simp [FtC] at hv;rcases hv with rfl | rfl | rfl | rfl <;> rfl
theorem jA (m:FtR):(FtV m).cells=FtC m:=by simp [Value.cells]
structure th (w:World) (a:Addr) (m:FtR):Prop where
 c0:w.cell? a=some (.int .i64 m.rep)
 c1:w.cell? (a.add 1)=some (.int .i64 m.num)
 c2:w.cell? (a.add 2)=some (.int .i64 m.kind)
 c3:w.cell? (a.add 3)=some (.int .i64 m.recs)
theorem th.on {a:Addr} {m:FtR} (S:th w a m) (hb:Below w.heap.size w w'):th w' a m:=by
 have h0:=World.block_lt_of_cell? _ _ S.c0;exact ⟨by rw [hb.cell h0];exact S.c0,by rw [hb.cell (by rw [xE];exact h0)];exact S.c1,by rw [hb.cell (by rw [xE];exact h0)];exact S.c2,by rw [hb.cell (by rw [xE];exact h0)];exact S.c3⟩
def aH (w:World) (g:Nat) (m:FtR):Prop:=w.heap[g]? = some (.cells (FtC m) 52 (0,0))
theorem aH.lt {m:FtR} (h:aH w g m):g < w.heap.size:=(Array.getElem?_eq_some_iff.1 h).1
theorem aH.below {m:FtR} (h:aH w g m) (hb:Below w.heap.size w w'):aH w' g m:=(hb.block g h.lt).trans h
theorem aH.c1 {m:FtR} (h:aH w g m):w.cell? ⟨g,1,none⟩=some (.int .i64 m.num):=by unfold aH at h;simp [World.cell?,h,FtC]
theorem aH.c2 {m:FtR} (h:aH w g m):w.cell? ⟨g,2,none⟩=some (.int .i64 m.kind):=by unfold aH at h;simp [World.cell?,h,FtC]
theorem aH.c3 {m:FtR} (h:aH w g m):w.cell? ⟨g,3,none⟩=some (.int .i64 m.recs):=by unfold aH at h;simp [World.cell?,h,FtC]
theorem q8 (w:World) (m:FtR):aH (w.alloc (.cells (FtC m) 52)) w.heap.size m:=by unfold aH;rw [heap_alloc_new]
def mE (v:Value):Sem Value:=Instr.loadAt 52 v
theorem yy (v:Value):Instr.loadAt 52 v=mE v:=rfl
def uA (p v:Value):Sem Unit:=Instr.storeAt 52 p v
theorem wT (p v:Value):Instr.storeAt 52 p v=uA p v:=rfl
theorem lz:(Tryz.prog.info? 52).map (·.size)=some 4:=by kernel_rfl
theorem aH.range {m:FtR} (h:aH w g m):w.rangeAt g 0 (FtC m).toList:=by
 intro j v hv;rw [Nat.zero_add];unfold aH at h;simp only [Array.getElem?_toList] at hv;simp [World.cell?,h,hv]
theorem zah {m:FtR} (A:aH w g m):(loadVar 52 ⟨g,0,none⟩).run Tryz.prog w = .ok (FtV m) w:=by
 have:=run_loadVar_mid (P:=Tryz.prog) w g 0 52 (FtC m).toList _ A.range Tryz.underlying52 rfl (by rw [lz];rfl);simpa using this
theorem jC {m:FtR} (A:aH w g m):(mE (.pointer (some ⟨g,0,none⟩))).run Tryz.prog w = .ok (.agg (FtC m)) w:=by
 unfold mE;simp only [Instr.loadAt,Instr.sureAddr,Sem.run_bind,Sem.run_pure,Result.andThen];exact zah A
theorem zc0 {a:Addr} {m:FtR} (A:th w a m):(mE (.pointer (some a))).run Tryz.prog w = .ok (.agg (FtC m)) w:=by
 have hl:=run_loadCells_list (P:=Tryz.prog) (w:=w) a (FtC m).toList (fun j v hv=>by
  match j,hv with
  | 0,hv=>cases hv;rw [vS];exact A.c0
  | 1,hv=>cases hv;exact A.c1
  | 2,hv=>cases hv;exact A.c2
  | 3,hv=>cases hv;exact A.c3
  | j+4,hv=>simp [FtC] at hv)
 unfold mE;simp only [Instr.loadAt,Instr.sureAddr,Sem.run_bind,Sem.run_pure,Result.andThen]
 cases hq:Tryz.prog.info? 52 with
 | none=>have:=lz;simp [hq] at this
 | some x =>
  have hs:x.size=4:=by have:=lz;simpa [hq] using this
  have ex:(isAgg 52).run Tryz.prog w = .ok true w:=by
   unfold isAgg;rw [Sem.run_bind,run_underlying Tryz.underlying52 w];rfl
  have e2:(FtC m).toList.length=4:=rfl;rw [e2] at hl;simp [loadVar,Sem.run_bind,ex,sizeOf,typeInfo,hq,hs,hl]
theorem qm {m m':FtR} (A:aH w g m):(uA (.pointer (some ⟨g,0,none⟩)) (.agg (FtC m'))).run Tryz.prog w = .ok () (w.setRow g (FtC m')):=by
 unfold uA;have h:=run_storeCells_from (P:=Tryz.prog) g 52 (FtC m').toList 0 (FtC m) w A (by simp [FtC]) (zcK m')
 cases hq:Tryz.prog.info? 52 with
 | none=>have:=lz;simp [hq] at this
 | some x =>
  have hs:x.size=4:=by have:=lz;simpa [hq] using this
  simp only [Instr.storeAt,Instr.sureAddr,Sem.run_bind,Sem.run_pure,Result.andThen,storeVar,sizeOf,typeInfo,jA,kn];simp at h;simp [h,hq,hs]
theorem aH.setRow {m m':FtR} (A:aH w g m):aH (w.setRow g (FtC m')) g m':=setRow_heap w g _ _ _ _ A
theorem Cy (w:World) (m:FtR) (g:Nat) (hg:w.heap.size=g):∃ w':World,(uA (.pointer (some ⟨g,0,none⟩)) (.agg (FtC m))).run Tryz.prog (w.alloc (.cells (FtC ft0) 52)) = .ok () w'/\aH w' g m/\Below w.heap.size w w'/\w'.heap.size=w.heap.size+1:=by
 subst hg;refine ⟨_,qm (q8 w _),(q8 w _).setRow,zh (ze w _) (Nat.le_refl _),by simp [World.setRow]⟩
theorem lw {m:FtR} {fn:Func} {p:Tmp} (h:fn.results=#[.cell p 52]) {tmps:Array Value} (hp:tmps.getD p undef = .pointer (some ⟨g,0,none⟩)) (A:aH w g m) :
  (results fn tmps).run Tryz.prog w = .ok (FtV m) w:=by
 have hl:=zah A;simp only [results,h];rw [Array.getD_eq_getD_getElem?] at hp;simp [hp,asAddr,hl]
end
section
open Go.RowKit
section
def fcs (L:List FtR):List Value:=(L.map (fun e=>(FtC e).toList)).flatten
theorem bu (L R:List FtR):fcs (L++R)=fcs L++fcs R:=by simp [fcs]
theorem zct (e:FtR):fcs [e]=(FtC e).toList:=by simp [fcs]
theorem zd9 (L:List FtR):(fcs L).length=L.length * 4:=by
 induction L with
 | nil=>rfl
 | cons a L ih=>have:fcs (a :: L)=(FtC a).toList++fcs L:=rfl;rw [this,List.length_append,ih];simp [FtC];omega
theorem zjA (L:List FtR) (t j:Nat) (ht:t < L.length) (hj:j < 4):(fcs L)[t * 4+j]? = (FtC (L.getD t ft0)).toList[j]?:=by
 induction L generalizing t with
 | nil=>simp at ht
 | cons a L ih =>
  have e:fcs (a :: L)=(FtC a).toList++fcs L:=rfl
  cases t with
  | zero=>rw [e,List.getElem?_append_left (by simp [FtC];omega)];simp [List.getD]
  | succ t =>
   rw [e,List.getElem?_append_right (by simp [FtC];omega)];have h:=ih t (by simpa using ht)
   have e4:(t+1) * 4+j - (FtC a).toList.length=t * 4+j:=by simp [FtC];omega
   rw [e4,h];simp [List.getD]
theorem pJ:(Tryz.prog.info? 52).map (fun i=>(i.zero,i.size,i.bytes))=some (some (.agg #[.int .i64 0,.int .i64 0,.int .i64 0,.int .i64 0]),4,32):=by kernel_rfl

structure eM (B0 B:Nat) (w w':World) (ao:Option Addr) (cap:Nat) (acc:List FtR):Prop where
 own:w'.ownsRow B 52 4 (.slice ao acc.length cap) acc.length (fcs acc)
 below:Below B0 w w'
 hB:B <= w'.heap.size
 hB0:B0 <= B
theorem eM.nil {B0 B:Nat} {w w':World} (hb:Below B0 w w') (hB:B <= w'.heap.size) (h0:B0 <= B):eM B0 B w w' none 0 []:=
 ⟨World.ownsRow_nil _ _ _ _,hb,hB,h0⟩
theorem eM.append {B0 B:Nat} {w w':World} {ao:Option Addr} {cap:Nat} {acc:List FtR} (O:eM B0 B w w' ao cap acc) (e:FtR) (C:Array Value) (hC:C=FtC e) (cJ:acc.length < 3518437208883)
  {ops:Array Oper} {rest:List Oper} {o:Oper} {a:Act} {Q:Exit -> Act -> World -> Prop} (hgd:o.guard=none) (s x:Operand) (ho:o.op = .call { callee:=.builtin .append,args:=#[s,x],argTypes:=#[55,55] })
  (n:Nat) (hn:acc.length=n) (hs:a.eval s = .slice ao n cap) (hx:a.eval x = .slice (some ⟨w'.heap.size,0,none⟩) 1 1)
  (hK:∀ (g cap2:Nat) (w2:World),eM B0 B w w2 (some ⟨g,0,none⟩) cap2 (acc++[e]) -> (∀ k,k < B -> w2.heap[k]? = w'.heap[k]?) -> wpList Tryz.prog ops Q rest (a.put o.dst (.slice (some ⟨g,0,none⟩) (n+1) cap2)) w2) :
  wpList Tryz.prog ops Q (o :: rest) a (w'.alloc (.cells C 52)):=by
 subst hn hC;obtain ⟨i0,hi,cY,dw,eI⟩:=info_parts pJ;have hB:=O.hB;have hB0:=O.hB0;refine wpList_append_own _ hgd s x 55 ho B 52 i0 (.agg #[.int .i64 0,.int .i64 0,.int .i64 0,.int .i64 0]) 4 32 Tryz.underlying55 hi cY dw eI rfl (by decide) _ acc.length (fcs acc) hs (O.own.alloc _) ⟨w'.heap.size,0,none⟩ 1 1 (FtC e).toList hx (by simp [FtC]) ?_ ?_ (by unfold maxLen;omega) (by omega) (by simp;omega) ?_
 ·intro j u hj;rw [Addr.add_lit,Nat.zero_add,World.cell?_alloc_new];simpa using hj
 ·intro u hu;exact zcK e u hu
 ·intro v' w2 a7 aC _;rcases a7.2 with ⟨h0,fV⟩ | ⟨g,cap2,cur,hv,dU,dx,hnc,fS,hcsz,htake⟩
  ·omega
  ·subst hv;have dH:∀ k,(Value.slice ao acc.length cap).ownBlock=some k -> B <= k:=fun k hk=>(O.own.lt k hk).1;have dE:=aC.size;rw [World.size_alloc] at dE;refine hK g cap2 w2 ⟨?_,(O.below.alloc (by omega) _).grown aC (by simp;omega) (fun k hk=>by have:=dH k hk;omega),by omega,hB0⟩ (fun k hk=>?_)
   ·rw [List.length_append,bu,zct];exact a7
   ·rw [aC.block k (by simp;omega) (fun e=>by have:=dH k e.symm;omega)];exact Below.heap_alloc _ _ _ (by omega)
theorem eM.later {B0 B:Nat} {w w' w2:World} {ao:Option Addr} {cap:Nat} {acc:List FtR} (O:eM B0 B w w' ao cap acc) (hb:Below w'.heap.size w' w2):eM B0 B w w2 ao cap acc:=by
 refine ⟨⟨O.own.1,?_⟩,O.below.trans (hb.mono (Nat.le_trans O.hB0 O.hB)),Nat.le_trans O.hB hb.size,O.hB0⟩;rcases O.own.2 with h | ⟨g,cap2,cur,hv,dU,dx,r⟩
 ·exact Or.inl h
 ·exact Or.inr ⟨g,cap2,cur,hv,dU,(hb.block g (Array.getElem?_eq_some_iff.1 dx).1).trans dx,r⟩
end
structure fX (w:World) (ao:Option Addr) (m c:Nat) (L:List FtR):Prop where
 len:L.length=m
 cell:∀ ad,ao=some ad -> ∀ t,t < m -> th w (ad.add (t * 4)) (L.getD t ft0)
 some_of:0 < m -> ∃ ad,ao=some ad
theorem fX.below {w w':World} {ao:Option Addr} {m c:Nat} {L:List FtR} (h:fX w ao m c L) (hb:Below w.heap.size w w'):fX w' ao m c L:=⟨h.len,fun ad ha t ht=>(h.cell ad ha t ht).on hb,h.some_of⟩
theorem fX.nil (w:World):fX w none 0 0 []:=⟨rfl,fun ad h=>(by cases h),fun h=>absurd h (Nat.lt_irrefl _)⟩
theorem eM.src {B0 B:Nat} {w w':World} {ao:Option Addr} {cap:Nat} {acc:List FtR} (O:eM B0 B w w' ao cap acc):fX w' ao acc.length cap acc:=by
 rcases O.own.2 with ⟨h0,fV⟩ | ⟨g,cap2,cur,hv,dU,dx,hnc,fS,hcsz,htake⟩
 ·simp only [Value.slice.injEq] at h0;obtain ⟨rfl,e0,rfl⟩:=h0;exact ⟨rfl,fun ad h=>(by cases h),fun h=>(by rw [fV] at h;exact absurd h (Nat.lt_irrefl _))⟩
 ·simp only [Value.slice.injEq,true_and] at hv;obtain ⟨rfl,rfl⟩:=hv
  have cell:∀ t j,t < acc.length -> j < 4 -> w'.cell? ⟨g,t * 4+j,none⟩=(FtC (acc.getD t ft0)).toList[j]?:=fun t j ht hj=>by
   rw [O.own.cellAt (t * 4+j) (by omega),zjA _ t j ht hj]
  refine ⟨rfl,fun ad h t ht=>?_,fun _=>⟨_,rfl⟩⟩;obtain rfl:=Option.some.inj h;refine ⟨?_,?_,?_,?_⟩
  ·rw [Addr.add_lit,Nat.zero_add];exact cell t 0 ht (by omega)
  ·rw [Addr.add_lit,Addr.add_lit,Nat.zero_add];exact cell t 1 ht (by omega)
  ·rw [Addr.add_lit,Addr.add_lit,Nat.zero_add];exact cell t 2 ht (by omega)
  ·rw [Addr.add_lit,Addr.add_lit,Nat.zero_add];exact cell t 3 ht (by omega)
def CD (x y:FtR):Bool:=x.rep == y.rep && x.num == y.num && x.kind == y.kind && x.recs == y.recs
theorem zbF (x:FtR):CD x x=true:=by simp [CD]
theorem zc2 (x y:FtR) (w:World):(Op.equalIn 10000 52 (.agg (FtC x)) (.agg (FtC y))).run Tryz.prog w = .ok (CD x y) w:=by
 have u3:=Tryz.underlying3;have a3:=Tryz.isAgg3;have z3:=Tryz.sizeOf3;have a26:=Tryz.isAgg48;have z26:=Tryz.sizeOf48
 have hS:Tryz.prog.underlying 52=some (.struct (Tryz.prog.fieldsOf 52)):=by kernel_rfl
 have hp:Tryz.prog.stoodInHeld 52=false:=by kernel_rfl
 obtain ⟨r,m,s,q⟩:=x;obtain ⟨r',m',s',q'⟩:=y;have Gm:=K.zc3 r m r' m'
 show (Op.equalIn 10000 52 (.agg #[.int .i64 r,.int .i64 m,.int .i64 s,.int .i64 q]) (.agg #[.int .i64 r',.int .i64 m',.int .i64 s',.int .i64 q'])).run Tryz.prog w = .ok (r == r' && m == m' && s == s' && q == q') w
 rw [show (10000:Nat)=9999+1 from rfl,run_equalIn_struct w 9999 52 _ _ hS hp];simp only [Program.fieldsOf,Tryz.underlying52];have h3:∀ (x y:Int) (w:World),(Op.equalIn 9999 3 (.int .i64 x) (.int .i64 y)).run Tryz.prog w = .ok (x == y) w:=fun x y w=>run_equalIn_int w 9998 3 .i64 .i64 x y Tryz.underlying3;obtain ⟨D,hD⟩:∃ D,9999=D:=⟨9999,rfl⟩;rw [hD] at Gm h3 ⊢;go_simp;by_cases e1:r=r'
 ·by_cases e2:m=m'
  ·by_cases e3:s=s'
   ·by_cases e4:q=q'
    ·simp [e1,e2,e3,e4]
    ·simp [e1,e2,e3,e4]
   ·simp [e1,e2,e3]
  ·simp [e1,e2]
 ·simp [e1]
theorem zhe (e:FtR):Array.foldl (fun cs x=>cs.setIfInBounds x.snd x.fst) (FtC ft0) (FtC e).zipIdx 0 4=FtC e:=rfl
def nD (a:Array (Nat × Value)):Sem Value:=Instr.build 52 a
theorem wI (a:Array (Nat × Value)):Instr.build 52 a=nD a:=rfl
theorem bi (w:World):(nD #[]).run Tryz.prog w = .ok (.agg (FtC ft0)) w:=by kernel_rfl
theorem yf (d:Rn) (w:World):(nD #[(0,.agg (RC d))]).run Tryz.prog w = .ok (.agg (FtC ⟨d.lo,d.hi,0,0⟩)) w:=by kernel_rfl
theorem ye (d:Rn) (k:Int) (w:World):(nD #[(0,.agg (RC d)),(1,.int .i64 k)]).run Tryz.prog w = .ok (.agg (FtC ⟨d.lo,d.hi,k,0⟩)) w:=by kernel_rfl
theorem zca (d:Rn) (k m:Int) (w:World):(nD #[(0,.agg (RC d)),(1,.int .i64 k),(2,.int .i64 m)]).run Tryz.prog w = .ok (.agg (FtC ⟨d.lo,d.hi,k,m⟩)) w:=by kernel_rfl
end
section
open Go.RowKit
structure Ab where
 L:List K.En
 P:Pst
 R:List Rp
def ab (s:Fc):Ab:=⟨s.es,s.p.P,plR s.rs⟩
def JJ (y:Rp):Prop:=fH y.1=true/\mc y.2
def uS (r:Rp) (e:K.En):Bool:=(decide (r.1.size=0) || (r.1.toList == e.sku.toList)) && inB r.2 e
def gH (R:List Rp) (e:K.En):Prop:=∀ r∈R,uS r e=false
theorem zaJ (R:List Rc) (e:K.En):dn R e=true↔gH (plR R) e:=by
 unfold dn gH;rw [Bool.not_eq_true',List.any_eq_false];constructor
 ·intro h r hr;obtain ⟨x,hx,rfl⟩:=List.mem_map.1 hr;exact Bool.eq_false_iff.2 (h x hx)
 ·intro h x hx;exact Bool.eq_false_iff.1 (h (rck x) (List.mem_map.2 ⟨x,hx,rfl⟩))
structure FmA (x:Ab):Prop where
 c:K.chk x.L=0
 p:ag x.P
 r:(∀ y∈x.R,JJ y)/\Srt ck x.R
 h:∀ e∈x.L,inB x.P e=true
 w:∀ y∈x.R,¬ wiP y.2 x.P
 f:∀ e∈x.L,gH x.R e
theorem zbE {w:World} {s:Fc} (hF:aU w s):aQ s↔FmA (ab s):=by
 have hl:=hF.es.1;have hr:=hF.rs.len;constructor
 ·rintro ⟨⟨h1,h2,h3⟩,h4,h5,h6⟩;rw [<- hr] at h3;obtain ⟨h7,h8⟩:=xy.1 h3;refine ⟨(js hl).2 h1,h2,⟨fun y hy=>?_,h8⟩,h4,fun y hy=>?_,fun e he=>(zaJ _ _).1 (h6 e he)⟩
  ·obtain ⟨x,hx,rfl⟩:=List.mem_map.1 hy;exact h7 x hx
  ·obtain ⟨x,hx,rfl⟩:=List.mem_map.1 hy;exact h5 x hx
 ·intro h;refine ⟨⟨(js hl).1 h.c,h.p,?_⟩,h.h,fun r hr=>h.w (rck r) (List.mem_map.2 ⟨r,hr,rfl⟩),fun e he=>(zaJ _ _).2 (h.f e he)⟩;rw [<- hr];exact xy.2 ⟨fun r hr=>h.r.1 (rck r) (List.mem_map.2 ⟨r,hr,rfl⟩),h.r.2⟩
def enD (r:Nat) (n:Int):K.En:=⟨(r:Int),n,⟨#[]⟩,0⟩
theorem zdl {P:Pst} {r:Nat} (hr:r < 16) {n:Int}:inB P (enD r n)=true↔mem (aa P r) n:=by
 rw [ql];unfold cj enD
 have h:V.isR (r:Int)=true:=by simp [V.isR];omega
 simp [h]
theorem zcL {A P:Pst}:wiP A P↔∀ e,inB A e=true -> inB P e=true:=by
 constructor
 ·intro h e he;rw [ql] at he ⊢;obtain ⟨h1,h2⟩:=he
  have h4:0 <= e.rep/\e.rep < 16:=by simpa [V.isR] using h1
  exact ⟨h1,h _ (by show e.rep.toNat < 16;omega) _ h2⟩
 ·intro h r hr n hm;exact (zdl hr).1 (h (enD r n) ((zdl hr).2 hm))
theorem ziv {P Q:Pst} (hp:ag P) (hq:ag Q) (h:∀ e,inB P e=true↔inB Q e=true):P=Q:=
 (zT.2 hp:af (aa P) P).unique (zT.2 hq:af (aa Q) Q) fun r hr n=>by
  rw [<- zdl hr,<- zdl hr];exact h _
structure JnA (x y z:Ab):Prop where
 a:K.Asc z.L
 l:∀ e,e∈z.L↔it x.L y.L x.P y.P e/\gH x.R e/\gH y.R e
 p:ag z.P
 d:∀ e,inB z.P e=true↔inB x.P e=true∨inB y.P e=true
 s:Srt ck z.R
 r:∀ q,q∈z.R↔(q∈x.R∨q∈y.R)/\¬ wiP q.2 z.P
theorem zf6 {x y:Ab} (h1:x.L=y.L) (h2:x.P=y.P) (h3:x.R=y.R):x=y:=by
 cases x;cases y;simp_all
theorem JnA.uniq {x y z z':Ab} (h:JnA x y z) (k:JnA x y z'):z=z':=by
 have hP:z.P=z'.P:=ziv h.p k.p fun e=>(h.d e).trans (k.d e).symm;refine zf6 (K.bL h.a k.a fun e=>(h.l e).trans (k.l e).symm) hP (Srt.uniq jS h.s k.s fun q=>?_);rw [h.r,k.r,hP]
theorem zbC {A B:List K.En} {P O:Pst} {e:K.En}:it A B P O e↔it B A O P e:=or_comm
theorem JnA.comm {x y z:Ab} (h:JnA x y z):JnA y x z:=
 ⟨h.a,fun e=>(h.l e).trans ⟨fun k=>⟨zbC.1 k.1,k.2.2,k.2.1⟩,fun k=>⟨zbC.1 k.1,k.2.2,k.2.1⟩⟩,h.p,fun e=>(h.d e).trans or_comm,h.s,fun q=>(h.r q).trans ⟨fun k=>⟨k.1.symm,k.2⟩,fun k=>⟨k.1.symm,k.2⟩⟩⟩
theorem zfX {P:Pst} {a b:Pv} (h:af (aA [a,b]) P) (e:K.En):inB P e=true↔inB a.P e=true∨inB b.P e=true:=by
 rw [ql,ql,ql];unfold cj;by_cases h1:V.isR e.rep=true
 ·have h4:0 <= e.rep/\e.rep < 16:=by simpa [V.isR] using h1
  have hr:e.rep.toNat < 16:=by omega
  simp only [h1,true_and];rw [zZ h _ hr,kg];simp
 ·simp [h1]
theorem zid {s:Fc} {w:World} (hF:aU w s) (h:aQ s):K.chk s.es=0:=(js hF.es.1).2 h.1.1
theorem zgt {wa wb:World} {a b s:Fc} {er:Int} (hA:aU wa a) (hB:aU wb b) (h:SjD a b s er):(¬ (aQ a/\aQ b)/\er=1/\s=fz0)∨((aQ a/\aQ b)/\K.cI (a.es++b.es)/\er=10/\s=fz0)∨((aQ a/\aQ b)/\¬ K.cI (a.es++b.es)/\er=0/\JnA (ab a) (ab b) (ab s)):=by
 rcases h with h | ⟨hf,Z,e,hm,h⟩
 ·exact .inl h
 right;rcases hm with ⟨h1,-,rfl⟩ | ⟨h1,h2,-,rfl⟩ | ⟨h1,h2,rfl,h3,h4⟩
 ·refine absurd ⟨?_,?_,hf.1.1.2.1,hf.2.1.2.1⟩ h1
  ·exact zid hA hf.1
  ·exact zid hB hf.2
 ·rcases h with ⟨-,rfl,rfl⟩ | ⟨h,-⟩
  ·exact .inl ⟨hf,h2,rfl,rfl⟩
  ·cases h
 ·rcases h with ⟨h,-⟩ | ⟨-,rfl,U,hU,h5,h6,h7⟩
  ·exact absurd rfl h
  refine .inr ⟨hf,h2,rfl,?_,fun e=>?_,?_,zfX h6,?_,fun q=>?_⟩
  ·show K.Asc s.es
   rw [h5];exact h3.sublist List.filter_sublist
  ·show e∈s.es↔_
   rw [h5,List.mem_filter,h4,zaJ];refine and_congr_right fun _=>?_;constructor
   ·intro k;exact ⟨fun r hr=>k r ((hU.1.2 r).2 (.inl hr)),fun r hr=>k r ((hU.1.2 r).2 (.inr hr))⟩
   ·intro k r hr;exact ((hU.1.2 r).1 hr).elim (k.1 r) (k.2 r)
  ·exact zT.1 h6.canon
  ·show Srt ck (plR s.rs)
   rw [h7.2];exact List.Pairwise.sublist List.filter_sublist hU.1.1
  ·show q∈plR s.rs↔_
   rw [h7.2,List.mem_filter,hU.1.2];refine and_congr_right fun _=>?_;unfold waitB;simp;rfl
end
section
open Go.RowKit
theorem wJ {R:List K.En} (h:K.Asc R) {x y:K.En} (hx:x∈R) (hy:y∈R) (hs:K.aq x y=true):x=y:=
 Classical.byContradiction fun cr=>K.kC h (fun _=>Iff.rfl) ⟨x,hx,y,hy,hs,cr⟩
theorem zir {A B:List K.En} (hc:¬ K.cI (A++B)) {x y:K.En} (hx:x∈A) (hy:y∈B) (h:K.aq y x=true):y=x:=by
 refine Classical.byContradiction fun cr=>hc ⟨y,List.mem_append.2 (.inr hy),x,List.mem_append.2 (.inl hx),h,cr⟩
theorem wn {A B:List K.En} {O:Pst} (hc:¬ K.cI (A++B)) {x:K.En} (hx:x∈A):nt B O x=true↔(inB O x=true -> x∈B):=by
 unfold nt;rw [Bool.or_eq_true,List.any_eq_true,Bool.not_eq_true'];constructor
 ·rintro (⟨y,hy,h⟩ | h) k
  ·rw [<- zir hc hx hy h];exact hy
  ·rw [k] at h;cases h
 ·intro h;by_cases k:inB O x=true
  ·exact .inl ⟨x,h k,by simp [K.aq]⟩
  ·exact .inr (Bool.eq_false_iff.2 k)
theorem bD {A B:List K.En} (hc:¬ K.cI (A++B)):¬ K.cI (B++A):=fun h=>hc (zej h)
theorem zdk {A B:List K.En} {P O:Pst} (hc:¬ K.cI (A++B)) {e:K.En}:it A B P O e↔(e∈A∨e∈B)/\(inB P e=true -> e∈A)/\(inB O e=true -> e∈B):=by
 unfold it;constructor
 ·rintro (⟨h1,h2⟩ | ⟨h1,h2⟩)
  ·exact ⟨.inl h1,fun _=>h1,(wn hc h1).1 h2⟩
  ·exact ⟨.inr h1,(wn (bD hc) h1).1 h2,fun _=>h1⟩
 ·rintro ⟨h1 | h1,h2,h3⟩
  ·exact .inl ⟨h1,(wn hc h1).2 h3⟩
  ·exact .inr ⟨h1,(wn (bD hc) h1).2 h2⟩
theorem FmA.asc {x:Ab} (h:FmA x):K.Asc x.L:=K.kj h.c
theorem FmA.ce {x:Ab} (h:FmA x):∀ e∈x.L,K.ceE e=0:=jT h.c
def NoC (x y:Ab):Prop:=¬ K.cI (x.L++y.L)
theorem zjs {x y:Ab} (hx:K.Asc x.L) (hy:K.Asc y.L) (h:∀ a∈x.L,∀ b∈y.L,K.aq a b=true -> a=b):NoC x y:=by
 rintro ⟨a,ha,b,hb,hs,cr⟩
 have sw:∀ p q:K.En,K.aq p q=true -> K.aq q p=true:=fun p q h=>by
  unfold K.aq at h ⊢;rw [Bool.and_eq_true,beq_iff_eq,beq_iff_eq] at h ⊢;exact ⟨h.1.symm,h.2.symm⟩
 rcases List.mem_append.1 ha with ha | ha <;> rcases List.mem_append.1 hb with hb | hb
 ·exact cr (wJ hx ha hb hs)
 ·exact cr (h a ha b hb hs)
 ·exact cr (h b hb a ha (sw _ _ hs)).symm
 ·exact cr (wJ hy ha hb hs)
theorem zda {x:Ab} (h:FmA x):NoC x x:=zjs h.asc h.asc fun _ ha _ hb hs=>wJ h.asc ha hb hs
theorem NoC.at {x y:Ab} (h:NoC x y) {a b:K.En} (ha:a∈x.L) (hb:b∈y.L) (hs:K.aq a b=true):a=b:=
 Classical.byContradiction fun cr=>h ⟨a,List.mem_append.2 (.inl ha),b,List.mem_append.2 (.inr hb),hs,cr⟩
theorem JnA.live {x y z:Ab} (h:JnA x y z) (hc:NoC x y) (e:K.En):e∈z.L↔((e∈x.L∨e∈y.L)/\(inB x.P e=true -> e∈x.L)/\(inB y.P e=true -> e∈y.L))/\gH x.R e/\gH y.R e:=by
 rw [h.l,zdk hc]
theorem JnA.from_ {x y z:Ab} (h:JnA x y z) {e:K.En} (he:e∈z.L):e∈x.L∨e∈y.L:=((h.l e).1 he).1.imp And.left And.left
theorem ziE {x y z:Ab} (h:JnA x y z) {e:K.En} (h1:gH x.R e) (h2:gH y.R e):gH z.R e:=fun q hq=>((h.r q).1 hq).1.elim (h1 q) (h2 q)
theorem zjC {q:Rp} {e:K.En} (h:uS q e=true):inB q.2 e=true:=by unfold uS at h;rw [Bool.and_eq_true] at h;exact h.2
theorem JnA.form {x y z:Ab} (h:JnA x y z) (hx:FmA x) (hy:FmA y):FmA z:=by
 refine ⟨K.zaT h.a fun e he=>(h.from_ he).elim (hx.ce e) (hy.ce e),h.p,⟨fun q hq=>((h.r q).1 hq).1.elim (hx.r.1 q) (hy.r.1 q),h.s⟩,fun e he=>(h.d e).2 ((h.from_ he).imp (hx.h e) (hy.h e)),fun q hq=>((h.r q).1 hq).2,fun e he=>?_⟩;have:=(h.l e).1 he;exact ziE h this.2.1 this.2.2
theorem zdi {x y:Ab} (hx:FmA x) (hy:FmA y) (hc:NoC x y):JnA x y y↔(∀ e,inB x.P e=true -> inB y.P e=true)/\(∀ q∈x.R,¬ wiP q.2 y.P -> q∈y.R)/\(∀ e∈y.L,inB x.P e=true -> e∈x.L)/\∀ e∈y.L,gH x.R e:=by
 constructor
 ·intro h;refine ⟨fun e he=>(h.d e).2 (.inl he),fun q hq hw=>(h.r q).2 ⟨.inl hq,hw⟩,fun e he=>?_,fun e he=>?_⟩
  ·exact ((h.live hc e).1 he).1.2.1
  ·exact ((h.live hc e).1 he).2.1
 ·rintro ⟨h1,h2,h3,h4⟩;refine ⟨hy.asc,fun e=>?_,hy.p,fun e=>⟨.inr,fun k=>k.elim (h1 e) id⟩,hy.r.2,fun q=>⟨fun k=>⟨.inr k,hy.w q k⟩,fun k=>k.1.elim (fun m=>h2 q m k.2) id⟩⟩;rw [zdk hc];constructor
  ·intro k;exact ⟨⟨.inr k,h3 e k,fun _=>k⟩,h4 e k,hy.f e k⟩
  ·rintro ⟨⟨k1 | k1,-,k3⟩,-⟩
   ·exact k3 (h1 e (hx.h e k1))
   ·exact k1
theorem le_refl {x:Ab} (hx:FmA x):JnA x x x:=(zdi hx hx (zda hx)).2 ⟨fun _ h=>h,fun _ h _=>h,fun _ h _=>h,hx.f⟩
theorem le_trans {x y z:Ab} (hx:FmA x) (hy:FmA y) (hz:FmA z) (c1:NoC x y) (c2:NoC y z) (c3:NoC x z) (h1:JnA x y y) (h2:JnA y z z):JnA x z z:=by
 obtain ⟨a1,a2,a3,a4⟩:=(zdi hx hy c1).1 h1;obtain ⟨b1,b2,b3,b4⟩:=(zdi hy hz c2).1 h2;refine (zdi hx hz c3).2 ⟨fun e h=>b1 e (a1 e h),fun q hq hw=>?_,fun e he hi=>a3 e (b3 e he (a1 e hi)) hi,fun e he q hq=>?_⟩
 ·exact b2 q (a2 q hq fun k=>hw (zcL.2 fun e h=>b1 e (zcL.1 k e h))) hw
 ·refine Bool.eq_false_iff.2 fun Bz=>?_;by_cases hw:wiP q.2 y.P
  ·have hi:=zcL.1 hw e (zjC Bz);have:=a4 e (b3 e he hi) q hq;rw [Bz] at this;cases this
  ·have:=b4 e he q (a2 q hq hw);rw [Bz] at this;cases this
def ab0:Ab:=⟨[],pv0.P,[]⟩
theorem zjV (e:K.En):inB pv0.P e=false:=by
 refine Bool.eq_false_iff.2 fun h=>?_;unfold inB at h;simp [pv0] at h;omega
end
section
open Go.RowKit
theorem EO (w:World) (f g:Fc):∃ wk,(w.alloc (.cells (FaC (mkF f)) 31)).alloc (.cells (FaC (mkF g)) 31)=wk/\Hid (aG wk w.heap.size (mkF f))/\Hid (aG wk (w.heap.size+1) (mkF g))/\Hid (Below w.heap.size w wk):=by
 have b1:=ze w (.cells (FaC (mkF f)) 31);have b2:=ze (w.alloc (.cells (FaC (mkF f)) 31)) (.cells (FaC (mkF g)) 31);have X2:=qs (w.alloc (.cells (FaC (mkF f)) 31)) (mkF g);rw [World.size_alloc] at X2;exact ⟨_,rfl,(qs w (mkF f)).below b2,X2,tmq b1 b2⟩
def EqS (f g:Fc):Prop:=f.es=g.es/\f.p.P=g.p.P/\plR f.rs=plR g.rs
attribute [local go_sem ↓] zq zp zP zO K.zy K.zx K.qB
attribute [local go_sem] zi zk zl zr K.vl K.zJ K.zu
end
section
open Go.RowKit
def EnU (A B R:List K.En) (ok:Bool):Prop:=(ok=false/\K.cI (A++B))∨(ok=true/\¬ K.cI (A++B)/\K.Asc R/\∀ e,e∈R↔e∈A∨e∈B)
def EnG (w w':World) (x:Ending) (A B:List K.En):Prop:=∃ o q k R ok,x = .returned (.tuple #[.slice o q k,.bool ok])/\K.aD w' o q k R/\Below w.heap.size w w'/\EnU A B R ok
structure EnM (A B:List K.En) (i j:Nat) (D:List K.En):Prop where
 p:K.Asc (D++A.drop i)
 q:K.Asc (D++B.drop j)
 m:∀ e,(e∈D∨e∈A.drop i∨e∈B.drop j)↔e∈A∨e∈B
 l:D.length <= i+j
theorem EnM.symm {A B D:List K.En} {i j:Nat} (h:EnM A B i j D):EnM B A j i D:=
 ⟨h.q,h.p,fun e=>by have:=h.m e;constructor <;> intro k <;> (have t1:=this.1;have t2:=this.2;grind),by have:=h.l;omega⟩
theorem EnM.none {B:List K.En} {j:Nat} {x:K.En} (hj:j=B.length):∀ y∈B.drop j,K.ahead x y=true:=fun y hy=>by
 rw [hj,List.drop_length] at hy;cases hy
attribute [local go_sem ↓] zY zX K.zy K.zx
attribute [local go_sem] zz zM zR qp K.zJ K.zu K.zH K.xq
end
section
open Go.RowKit
section
attribute [local go_sem ↓] zq zp qf qe
attribute [local go_sem] zL zS qg
end
def RcG (w w':World) (x:Ending) (A B:List Rc):Prop:=∃ (h:Hs) (F:List Rc),x = .returned (HsV h)/\RcS w' h.o h.n h.c F/\Below w.heap.size w w'/\ly A B F/\h.n <= A.length+B.length
attribute [local go_sem ↓] zq zp qf qe
attribute [local go_sem] zL zS qg
end
section
open Go.RowKit
attribute [local go_sem ↓] zq zp zE zD xz je
attribute [local go_sem] zi zk zl zr zv qW jx qR
end
end Go.Proofs.YtjffpimfngdggaaGreat
namespace Go.Proofs.YtjffpimfngdggaaGreat.K
section
open Go.RowKit
attribute [local go_sem ↓] zy zx xG
attribute [local go_sem] zJ zu zH xq
attribute [local go_sem ↓] qB xY
end
section
open Go.RowKit Go.Lib
attribute [local go_sem ↓] zy zx
attribute [local go_sem] zJ zu zH xq
end
end Go.Proofs.YtjffpimfngdggaaGreat.K
namespace Go.Proofs.YtjffpimfngdggaaGreat
section
open Go.RowKit
theorem aF.ne {W:World} {g:Nat} {m:cw} (A:aF W g m) {a:Addr} {v:Value} (hc:W.cell? a=some v) (hv:∀ o n c,v ≠ .slice o n c):a.block≠g:=by
 rintro rfl;obtain ⟨b,o,k⟩:=a;unfold aF at A;have h:=World.cell?_spot hc;obtain rfl:k=none:=h;simp only [World.cell?,A] at hc;rcases o with _ | _ | _ | _ | o <;> simp [FaC] at hc
 all_goals exact absurd hc.symm (hv _ _ _)
theorem xv {W:World} {g:Nat} {a:Addr} (c:Array Value) (h:a.block≠g):(W.setRow g c).cell? a=W.cell? a:=by
 unfold World.cell?;rw [setRow_other _ _ _ _ h]
theorem zfE {W:World} {g:Nat} {m:cw} {ao:Option Addr} {n cap:Nat} {L:List K.En} (A:aF W g m) (h:K.aD W ao n cap L) (c:Array Value):K.aD (W.setRow g c) ao n cap L:=by
 refine ⟨h.1,h.2.1,fun ad e t ht=>?_,h.2.2.2⟩;have B:=h.2.2.1 ad e t ht;have hb:(ad.add (t * 4)).block≠g:=A.ne B.c0 (fun _ _ _ h=>by cases h);exact ⟨by rw [xv c hb];exact B.c0,by rw [xv c (by rw [zs];exact hb)];exact B.c1,by rw [xv c (by rw [zs];exact hb)];exact B.c2,by rw [xv c (by rw [zs];exact hb)];exact B.c3⟩
theorem zbp {W:World} {g:Nat} {m:cw} {p:Pv} (A:aF W g m) (h:am W p) (c:Array Value):am (W.setRow g c) p:=by
 refine ⟨⟨h.vec.1,h.vec.2.1,fun ad e t ht=>?_⟩,⟨h.cloud.len,h.cloud.nil,fun ad e t ht=>?_,h.cloud.big,h.cloud.cap⟩,h.big⟩
 ·have B:=h.vec.2.2 ad e t ht;rw [xv c (A.ne B (fun _ _ _ h=>by cases h))];exact B
 ·have B:=h.cloud.cell ad e t ht;have hb:=A.ne B.c0 (fun _ _ _ h=>by cases h);exact ⟨by rw [xv c hb];exact B.c0,by rw [xv c (by rw [zs];exact hb)];exact B.c1,by rw [xv c (by rw [zs];exact hb)];exact B.c2⟩
theorem zgD {W:World} {g:Nat} {m:cw} {ao:Option Addr} {n cap:Nat} {L:List Rc} (A:aF W g m) (h:RcS W ao n cap L) (c:Array Value):RcS (W.setRow g c) ao n cap L:=by
 refine ⟨h.len,h.nil,fun ad ha t ht=>?_,fun r hr=>⟨zbp A (h.ok r hr).1 c,(h.ok r hr).2⟩,h.big⟩;have B:=h.at_ ad ha t ht;have hb:=A.ne B.c0 (fun _ _ _ h=>by cases h);exact ⟨by rw [xv c hb];exact B.c0,by rw [xv c (by rw [zs];exact hb)];exact B.c1,by rw [xv c (by rw [zs];exact hb)];exact B.c2⟩
theorem aU.offF {W:World} {g:Nat} {m:cw} {f:Fc} (h:aU W f) (A:aF W g m) (c:Array Value):aU (W.setRow g c) f:=⟨zfE A h.es c,zbp A h.p c,zgD A h.rs c⟩
def FcE (w w':World) (e:Ending) (D:Fc -> Int -> Prop):Prop:=∃ f er,e = .returned (.tuple #[FaV (mkF f),.int .i64 er])/\aU w' f/\FcR f/\Below w.heap.size w w'/\D f er
attribute [local go_sem ↓] zq zp zE zD xz je
attribute [local go_sem] zi zk zl zr zv qW jx qR
end
section
open Go.RowKit
theorem kN (a b:Option Addr) (n c m d:Nat) (p:Pv) (w:World):(lR #[(0,.slice a n c),(1,.agg (PC p)),(2,.slice b m d)]).run Tryz.prog w = .ok (.agg (FaC (mkF ⟨a,n,c,[],p,b,m,d,[]⟩))) w:=by kernel_rfl
def ExA (w w':World) (x:Ending) (s:Fc):Prop:=∃ q:Pv,x = .returned (FaV (mkF ⟨s.ao,s.an,s.ac,s.es,q,s.ro,s.rn,s.rc,s.rs⟩))/\aU w' ⟨s.ao,s.an,s.ac,s.es,q,s.ro,s.rn,s.rc,s.rs⟩/\Below w.heap.size w w'/\∃ D,af (cq (s.es.map ae)) D/\∃ C:Nat -> List Rn,(∀ r,r < 16 -> cB (aa s.p.P r) (aa D r) (C r))/\af C q.P
attribute [local go_sem ↓] zq zp zE zD zP zO xz
attribute [local go_sem] zi zk zl zr zv kN
end
section
open Go.RowKit
def UnD (f g u:Fc):Prop:=K.Asc u.es/\(∀ e,e∈u.es↔e∈f.es∨e∈g.es)/\af (aA [f.p,g.p]) u.p.P/\ly f.rs g.rs u.rs/\u.rn <= f.rn+g.rn
def UnG (w w':World) (x:Ending) (f g:Fc):Prop:=(K.cI (f.es++g.es)/\x = .returned (.tuple #[FaV (mkF fz0),.bool false])/\Below w.heap.size w w')∨(¬ K.cI (f.es++g.es)/\∃ u,x = .returned (.tuple #[FaV (mkF u),.bool true])/\aU w' u/\Below w.heap.size w w'/\UnD f g u)
attribute [local go_sem ↓] zq zp zE zD xz je
attribute [local go_sem] zi zk zl zr zv qR kN zI qW
end
section
open Go.RowKit
attribute [local go_sem ↓] zq zp zE zD zY zX K.zy K.zx qf qe
attribute [local go_sem] zi zk zl zr zv zz zM zR qp K.zJ K.zu K.zH K.xq zL zS qg
def lvB (P:Pst) (R:List Rc) (e:K.En):Bool := !(inB P e) && dn R e
end
section
open Go.RowKit
def StD (f s:Fc):Prop:=s.es=f.es.filter (lvB f.p.P f.rs)/\de f s.p.P/\iW f.rs s.p.P s.rs
attribute [local go_sem ↓] zq zp zE zD zP zO xe je
attribute [local go_sem] zi zk zl zr zv qR xL qF zI
end
section
open Go.RowKit
def exf (s:Fc) (q:Pv):Fc:=⟨s.ao,s.an,s.ac,s.es,q,s.ro,s.rn,s.rc,s.rs⟩
def ExQ (s:Fc) (q:Pv):Prop:=∃ D,af (cq (s.es.map ae)) D/\∃ C:Nat -> List Rn,(∀ r,r < 16 -> cB (aa s.p.P r) (aa D r) (C r))/\af C q.P
theorem zaH {P:Pst} {e:K.En} (h:inB P e=true):0 <= e.rep/\e.rep < 16:=by
 have h1:=((ql P e).1 h).1;simpa [V.isR] using h1
theorem yz {P:Pst} {e:K.En} (h:0 <= e.rep/\e.rep < 16):inB P e=true↔mem (aa P e.rep.toNat) e.num:=by
 rw [ql];unfold cj
 have h1:V.isR e.rep=true:=by simp [V.isR];omega
 simp [h1]
theorem zfH {P:Pst} {x e:K.En} (h:ae x=ae e):inB P x=inB P e:=by
 obtain ⟨a,b,c,d⟩:=x;obtain ⟨a',b',c',d'⟩:=e;unfold ae at h;injection h with h1 h2;subst h1 h2;rfl
theorem zfr {u:Fc} {P:Pst} (h:de u P) (e:K.En):inB P e=true↔(okD (ae e)=true/\∃ x∈u.es,ae x=ae e)∨inB u.p.P e=true:=by
 by_cases h0:0 <= e.rep/\e.rep < 16
 ·rw [yz h0,yz h0,h.2 _ (by omega) e.num,xC];refine or_congr_left ?_;constructor
  ·rintro ⟨d,hd,k1,k2,k3⟩;obtain ⟨x,hx,rfl⟩:=List.mem_map.1 hd
   have ed:ae x=ae e:=by
    unfold ae at k2 k3 ⊢;simp only at k2 k3;congr 1;omega
   exact ⟨ed ▸ k1,x,hx,ed⟩
  ·rintro ⟨h1,x,hx,h2⟩;exact ⟨ae x,List.mem_map.2 ⟨x,hx,rfl⟩,h2 ▸ h1,by rw [h2];show e.rep=((e.rep.toNat:Nat):Int);omega,by rw [h2];rfl⟩
 ·constructor
  ·intro h;exact absurd (zaH h) h0
  ·rintro (⟨h,-⟩ | h)
   ·exfalso;unfold okD ae at h;simp only [Bool.and_eq_true] at h;have h1:=h.1;simp [V.isR] at h1;omega
   ·exact absurd (zaH h) h0
end
section
open Go.RowKit
attribute [local go_sem ↓] zq zp zE zD
attribute [local go_sem] zi zk zl zr
def sN (f:Fc):List K.En:=(f.es.filter (pkB f.p.P false)).filter (dn f.rs)
def LvA (w w':World) (x:Ending) (f:Fc):Prop:=(ar f/\K.dz w w' x (sN f) 0)∨(¬ ar f/\K.dz w w' x [] 1)
theorem bE {L:List K.En} (h:K.chk L=0) (p:K.En -> Bool):K.chk (L.filter p)=0:=
 K.zaT (List.Pairwise.filter p (K.kj h)) (fun e he=>jT h e (List.mem_filter.1 he).1)
theorem dz.mono0 {w w0 w':World} {x:Ending} {L:List K.En} {er:Int} (h:K.dz w w' x L er) (hb:Below w0.heap.size w0 w):K.dz w0 w' x L er:=by
 obtain ⟨ao,n,c,h1,h2,h3,h4⟩:=h;exact ⟨ao,n,c,h1,h2,tmq hb h3,fun ad e=>Nat.le_trans hb.size (h4 ad e)⟩
theorem zeA (f:Fc) (w:World) (hF:aU w f) (hwt:∀ s,wt (ofS f.rs s) <= 8796093022207) (m4:f.rn * (f.an+1) <= 8796093022207) :
  Calls Tryz.prog 25 #[FaV (mkF f)] w fun e w'=>LvA w w' e f:=by
 have HX:=hide (zU w (mkF f));have al:=hide (ze w (.cells (FaC (mkF f)) 29));have HS:=hide (hF.below al);have HW:=hide (And.intro hwt m4);clear hF hwt m4;obtain ⟨wk,aL⟩:∃ wk,w.alloc (.cells (FaC (mkF f)) 29)=wk:=⟨_,rfl⟩;obtain ⟨G,hG⟩:∃ G,w.heap.size=G:=⟨_,rfl⟩;rw [aL] at HX al HS;rw [hG] at HX;obtain ⟨c0,c3⟩:=HX.cs;have lp:=zj HX.past;go_enter Tryz.func25,Tryz.ntmps25;go_wp2_with fail;clear aL hG;refine (jK f.ao f.an f.ac f.es f.p _ HS.es HS.p).mono ?_;rintro e w1 h1;rcases h1 with ⟨h1,h2,ao,n,c,rfl,S1,b1,n1⟩ | ⟨h1,ao,n,c,rfl,S1,b1,n1⟩;rotate_left
 ·have HE:Hid (LvA w w1 (.returned (.tuple #[.slice none 0 0,.int .i64 1])) f):=.inr ⟨fun h=>h1 ⟨(vQ HS.es.1).2 h.1,h.2.1⟩,none,0,0,rfl,zdp _,tmq al b1,fun ad e=>(by cases e)⟩;clear h1 S1 b1 n1 c0 c3 lp;go_wp2_with fail;go_ret2;exact HE.out
 have HC:Hid (K.chk f.es=0/\ag f.p.P):=⟨h1,h2⟩;have aM:=wTr al b1;have i6:=hide (HX.below b1);have dg:=hide (HS.below b1);have oq:=hide S1;have cJ:(f.es.filter (pkB f.p.P false)).length=n:=S1.1
 have iV:n <= f.an:=by rw [<- cJ,<- HS.es.1];exact List.length_filter_le _ _
 have HM:Hid (f.rn * (n+1) <= 8796093022207):=Nat.le_trans (Nat.mul_le_mul_left _ (by omega)) HW.2;clear h1 h2 S1 b1 n1 c0 c3 lp cJ iV;obtain ⟨-,c3⟩:=i6.cs;go_wp2_with fail;clear c3;refine (yN ao f.ro n c f.rn f.rc _ f.rs _ oq.out dg.rs HW.1 HM).mono ?_;rintro e w2 h2;rcases h2 with ⟨-,h2,h3⟩ | ⟨h2,h3⟩
 ·have HE:Hid (LvA w w2 e f):=.inl ⟨⟨(vQ HS.es.1).1 HC.1,HC.2,h2⟩,dz.mono0 h3 aM⟩;obtain ⟨a2,n2,c2,rfl,-,-,-⟩:=h3;clear h2;go_wp2_with fail;go_ret2;exact HE.out
 ·have HE:Hid (LvA w w2 e f):=.inr ⟨fun h=>h2 ⟨bE HC.1 _,h.2.2⟩,dz.mono0 h3 aM⟩;obtain ⟨a2,n2,c2,rfl,-,-,-⟩:=h3;clear h2;go_wp2_with fail;go_ret2;exact HE.out
end
section
open Go.RowKit
def ClE (e:K.En) (g:Fc):Prop:=∃ y∈g.es,K.aq y e=true/\y≠e
def ip (e:K.En):Rn:=⟨e.rep,e.num⟩
def JR (f g:Fc) (d:Rn) (b:Bool):Prop:=(¬ (ar f/\ar g)/\d=rn0/\b=false)∨(ar f/\ar g/\((b=false/\d=rn0/\∀ i,i < f.an -> ¬ ClE (f.es.getD i K.en0) g)∨(b=true/\∃ i,i < f.an/\ClE (f.es.getD i K.en0) g/\(∀ j,j < i -> ¬ ClE (f.es.getD j K.en0) g)/\d=ip (f.es.getD i K.en0))))
def ClA (w w':World) (x:Ending) (f g:Fc):Prop:=∃ (d:Rn) (b:Bool),x = .returned (.tuple #[RV d,.bool b])/\JR f g d b/\Below w.heap.size w w'
theorem zg7 {L:List K.En} {k:Nat} (h:k < L.length):L.getD k K.en0∈L:=by
 rw [List.getD_eq_getElem?_getD,List.getElem?_eq_getElem h];exact List.getElem_mem h
theorem zdr (x y:K.En):K.eqE x y=true↔x=y:=by
 constructor
 ·intro h;unfold K.eqE at h;simp only [Bool.and_eq_true,beq_iff_eq] at h;obtain ⟨⟨⟨h1,h2⟩,h3⟩,h4⟩:=h;have h5:=zaD h3
  cases x;cases y;simp_all
 ·rintro rfl;exact K.vl _
attribute [local go_sem ↓] zq zp zE zD zY zX K.zy K.zx
attribute [local go_sem] zi zk zl zr zz zM zR qp K.zJ K.zu K.zH
def AB (a:Array (Nat × Value)):Sem Value:=Instr.build 48 a
theorem zdE (a:Array (Nat × Value)):Instr.build 48 a=AB a:=rfl
theorem zbe (w:World):(AB #[]).run Tryz.prog w = .ok (RV rn0) w:=by kernel_rfl
attribute [local go_sem ↓] zdE
attribute [local go_sem] zbe
end
section
open Go.RowKit
attribute [local go_sem ↓] K.zy K.zx K.qB zq zp qf qe
attribute [local go_sem] K.zJ K.zu zi zk
def EqF (f g:Fc):Prop:=f.es=g.es/\f.p.P=g.p.P/\plR f.rs=plR g.rs
attribute [local go_sem ↓] zE zD
attribute [local go_sem] zl zr
end
section
open Go.RowKit
structure IsF (h:Fc) (E:K.En -> Prop) (M:Nat -> Int -> Prop) (R:Rp -> Prop):Prop where
 form:ar h
 len:h.es.length=h.an/\h.rs.length=h.rn
 es:∀ x,x∈h.es↔E x
 p:∀ r,r < 16 -> ∀ n,mem (aa h.p.P r) n↔M r n
 rs:∀ y,y∈plR h.rs↔R y
def sP (f g:Fc):Prop:=ar f/\ar g/\∀ e∈f.es,¬ ClE e g
theorem zbb {x y:K.En} (h:K.aq x y=true):K.aq y x=true:=by
 unfold K.aq at h ⊢;simp only [Bool.and_eq_true,beq_iff_eq] at h ⊢;exact ⟨h.1.symm,h.2.symm⟩
theorem sP.symm {f g:Fc} (h:sP f g):sP g f:=⟨h.2.1,h.1,fun e he ⟨y,hy,hd,cr⟩=>h.2.2 y hy ⟨e,he,zbb hd,fun q=>cr q.symm⟩⟩
attribute [local go_sem ↓] zE zD zY zX
attribute [local go_sem] zl zr zz zM zR
end
section
open Go.RowKit
def hrd (f:Fc) (r:Nat) (n:Int):Prop:=mem (cq (f.es.map ae) r) n∨mem (aa f.p.P r) n
def PsD (f:Fc) (P:Pst) (er:Int):Prop:=(¬ ar f/\er=1/\P=pv0.P)∨(ar f/\er=0/\ag P/\∀ r,r < 16 -> ∀ n,mem (aa P r) n↔hrd f r n)
def PsA (w w':World) (e:Ending) (f:Fc):Prop:=∃ (p:Pv) (er:Int),e = .returned (.tuple #[PV p,.int .i64 er])/\am w' p/\dA w.heap.size p/\Below w.heap.size w w'/\PsD f p.P er
attribute [local go_sem ↓] zq zp zE zD je
attribute [local go_sem] zi zk zl zr qR
theorem za5 (f:Fc) (w:World) (hF:aU w f):Calls Tryz.prog 26 #[FaV (mkF f)] w fun e w'=>PsA w w' e f:=by
 have b1:=ze w (.cells (FaC (mkF f)) 29);have X1:=zU w (mkF f);obtain ⟨w1,cF⟩:∃ w1,w.alloc (.cells (FaC (mkF f)) 29)=w1:=⟨_,rfl⟩
 have iZ:w1.heap.size=w.heap.size+1:=by rw [<- cF];simp
 rw [cF] at b1 X1;have x2:av (w1.alloc (.cells #[.slice none 0 0,.slice none 0 0] 26)) w1.heap.size pv0:=zm w1 pv0;have b2:=ze w1 (.cells #[.slice none 0 0,.slice none 0 0] 26);obtain ⟨w2,eH⟩:∃ w2,w1.alloc (.cells #[.slice none 0 0,.slice none 0 0] 26)=w2:=⟨_,rfl⟩;rw [eH] at x2 b2;rw [iZ] at x2;obtain ⟨G,cK⟩:∃ G,w.heap.size=G:=⟨_,rfl⟩;rw [cK] at X1 x2 iZ;have HX:=hide (X1.below b2);have HZ:=hide x2;have al:=hide (tmq b1 b2);have HF:=hide (hF.below al);have eX:Hid (w.heap.size=G):=cK;clear hF b1 b2 X1 x2;have lf:=zW HX.out;go_enter Tryz.func26,Tryz.ntmps26;go_wp2_with fail;clear cF eH iZ cK lf;refine (ju f _ HF).mono ?_;rintro e w3 ⟨x,rfl,hx,b3⟩;have aw:=wTr al b3;have dh:=hide (HX.below b3);have ud:=hide (HZ.below b3);have rY:=hide (HF.below b3)
 clear b3;rcases hx with ⟨rfl,h1⟩ | ⟨rfl,h1⟩;rotate_left
 ·have t6:(stP (.pointer (some ⟨G+1,0,none⟩)) (.agg #[.slice none 0 0,.slice none 0 0])).run Tryz.prog w3 = .ok () (w3.setRow (G+1) (PC pv0)):=qM (p':=pv0) ud.out;have o8:Hid (av (w3.setRow (G+1) (PC pv0)) (G+1) pv0):=setRow_heap _ _ _ _ _ _ ud.out;have HE:Hid (PsA w (w3.setRow (G+1) (PC pv0)) (.returned (.tuple #[PV pv0,.int .i64 1])) f):=⟨pv0,1,rfl,am.zero _,⟨fun ad h=>(by cases h),fun ad h=>(by cases h)⟩,zh aw.out (by rw [eX.out];omega),.inl ⟨h1,rfl,rfl⟩⟩;clear h1;go_wp2_with fail;clear t6;refine bodyPost_ret (mI rfl rfl rfl o8) rfl ?_;exact HE.out
 have lJ:=hide h1;clear h1;obtain ⟨c0,-⟩:=dh.cs;go_wp2_with fail;clear c0;refine (zdt f.ao f.an f.ac f.es _ rY.es).mono ?_;rintro e w4 ⟨b4,⟨hc,p,rfl,S4,n4,C4⟩ | ⟨hc,-⟩⟩;rotate_left
 ·exact absurd ((vQ rY.es.1).2 lJ.1) hc
 obtain ⟨g5,iY⟩:∃ g,w4.heap.size=g:=⟨_,rfl⟩;have b5:=ze w4 (.cells #[.slice none 0 0,.slice none 0 0] 26);have x5:av (w4.alloc (.cells #[.slice none 0 0,.slice none 0 0] 26)) w4.heap.size pv0:=zm w4 pv0
 have z5:(w4.alloc (.cells #[.slice none 0 0,.slice none 0 0] 26)).heap.size=w4.heap.size+1:=by simp
 obtain ⟨w5,rB⟩:∃ w5,w4.alloc (.cells #[.slice none 0 0,.slice none 0 0] 26)=w5:=⟨_,rfl⟩;rw [rB] at b5 x5 z5;rw [iY] at x5 z5;have s5:=qM (p':=p) x5;have B6:Below w4.heap.size w4 (w5.setRow g5 (PC p)):=zh b5 (by omega);have X6:av (w5.setRow g5 (PC p)) g5 p:=setRow_heap _ _ _ _ _ _ x5;obtain ⟨w6,Do⟩:∃ w6,w5.setRow g5 (PC p)=w6:=⟨_,rfl⟩;rw [Do] at s5 B6 X6;have b46:=tmq b4 B6;have eC:=wTr aw b46;have tG:=hide (dh.below b46);have Fi:=hide (ud.below b46);have Nx:=hide (rY.below b46);have Nt:=hide (S4.below B6);have OR:=hide X6;have Ls:=hide C4
 have lp:=zj X6.at
 have lq:=zj tG.past;have pR:=sG w6 p f.p Nt.out Nx.p;have b7:=ze w6 (.cells #[.slice p.vo p.vn p.vc,.slice p.co p.cn p.cc,.slice f.p.vo f.p.vn f.p.vc,.slice f.p.co f.p.cn f.p.cc] 26);have lb:=qR p f.p w6;obtain ⟨g7,ia⟩:∃ g7,w6.heap.size=g7:=⟨_,rfl⟩;obtain ⟨w7,pe⟩:∃ w7,w6.alloc (.cells #[.slice p.vo p.vn p.vc,.slice p.co p.cn p.cc,.slice f.p.vo f.p.vn f.p.vc,.slice f.p.co f.p.cn f.p.cc] 26)=w7:=⟨_,rfl⟩;rw [pe] at pR b7 lb;rw [ia] at pR lb;have DQ:=hide pR;have dR:=wTr eC b7;have Ff:=hide (Fi.below b7);clear pR b7 hc S4 n4 C4 b4 b5 x5 B6 X6 b46 Do;go_wp2_with fail;clear lp lq lb s5 rB iY ia pe z5;refine (xi (some ⟨g7,0,none⟩) 2 2 [p,f.p] _ DQ.out (zcF (zT.1 Ls.canon) lJ.2.1) (by decide)).mono ?_;rintro e w8 ⟨q,rfl,S8,n8,b8,C8⟩
 have hz:G+1+1 <= w7.heap.size:=by have:=Ff.lt;omega
 obtain ⟨s1,e1,e2,e3,e4⟩:=qu (w:=w) (Ff.below b8) S8 (n8.mono hz) (tmq dR b8) (by rw [eX.out];omega);have df:=hide e1
 have HE:Hid (PsA w (w8.setRow (G+1) (PC q)) (.returned (.tuple #[PV q,.int .i64 0])) f):=⟨q,0,rfl,e2,e3,e4,.inr ⟨lJ.out,rfl,zT.1 C8.canon,fun r hr n=>by
  rw [zZ C8 r hr n]
  show mem (aa p.P r++(aa f.p.P r++[])) n↔_
  rw [List.append_nil,mem_append,zZ Ls.out r hr n]
  exact Iff.rfl⟩⟩
 clear S8 n8 b8 C8 e1 e2 e3 e4 hz;go_wp2_with fail;clear s1;refine bodyPost_ret (mI rfl rfl rfl df) rfl ?_;exact HE.out
end
section
open Go.RowKit
attribute [local go_sem ↓] zq zp zE zD zP zO xe je
attribute [local go_sem] zi zk zl zr zv qR xL qF zI
end
section
open Go.RowKit
def LiA (w w':World) (x:Ending) (s:Fc):Prop:=∃ ao n c L er,x = .returned (.tuple #[.slice ao n c,.int .i64 er])/\K.aD w' ao n c L/\Below w.heap.size w w'/\((aQ s/\er=0/\L=s.es)∨(¬ aQ s/\er=1/\L=[]))
def PaA (w w':World) (x:Ending) (s:Fc):Prop:=∃ p er,x = .returned (.tuple #[PV p,.int .i64 er])/\am w' p/\Below w.heap.size w w'/\((aQ s/\er=0/\p.P=s.p.P)∨(¬ aQ s/\er=1/\p=pv0))
attribute [local go_sem ↓] zq zp zP zO yM
attribute [local go_sem] zi zk zl zr zeR zI
end
section
open Go.RowKit
variable {w w' : World} {g : Nat}
structure oQ where
 hvo:Option Addr
 hvn:Nat
 hvc:Nat
 hco:Option Addr
 hcn:Nat
 hcc:Nat
 lvo:Option Addr
 lvn:Nat
 lvc:Nat
 lco:Option Addr
 lcn:Nat
 lcc:Nat
def di0:oQ:=⟨none,0,0,none,0,0,none,0,0,none,0,0⟩
def DiC (m:oQ):Array Value:=#[.slice m.hvo m.hvn m.hvc,.slice m.hco m.hcn m.hcc,.slice m.lvo m.lvn m.lvc,.slice m.lco m.lcn m.lcc]
abbrev DiV (m:oQ):Value:=.agg (DiC m)
theorem xR (m:oQ):(DiC m).size=4:=rfl
theorem xu (m:oQ):(DiV m).cells=DiC m:=by simp [Value.cells]
structure Ow (w:World) (a:Addr) (m:oQ):Prop where
 c0:w.cell? a=some (.slice m.hvo m.hvn m.hvc)
 c1:w.cell? (a.add 1)=some (.slice m.hco m.hcn m.hcc)
 c2:w.cell? (a.add 2)=some (.slice m.lvo m.lvn m.lvc)
 c3:w.cell? (a.add 3)=some (.slice m.lco m.lcn m.lcc)
end
section
open Go.RowKit
attribute [local go_sem ↓] zq zp
attribute [local go_sem] zi zk xu xR
variable {w w' w2 W W' : World} {g : Nat}

structure Dg where
 h:Pv
 l:Pv
def mkD (d:Dg):oQ:=⟨d.h.vo,d.h.vn,d.h.vc,d.h.co,d.h.cn,d.h.cc,d.l.vo,d.l.vn,d.l.vc,d.l.co,d.l.cn,d.l.cc⟩
def EZ (w:World) (d:Dg):Prop:=am w d.h/\am w d.l
def InP (a b:Pst):Prop:=∀ r,r < 16 -> ∀ n,mem (aa a r) n -> mem (aa b r) n
def pC (H L:Pst):Prop:=ag H/\ag L/\InP L H
def CkD (w w':World) (e:Ending) (P:Prop):Prop:=∃ x,e = .returned (.int .i64 x)/\((x=1/\¬ P)∨(x=0/\P))/\Below w.heap.size w w'
end
section
open Go.RowKit
def dz0:Dg:=⟨pv0,pv0⟩
def eK (f:Fc):List K.En:=f.es.filter (lvB f.p.P f.rs)
theorem zjw (f:Fc):sN f=eK f:=by
 unfold sN eK;rw [List.filter_filter];congr 1
 funext e
 unfold lvB pkB
 cases inB f.p.P e <;> cases dn f.rs e <;> rfl
def DoF (f:Fc) (d:Dg):Prop:=de f d.h.P/\af (cq ((eK f).map ae)) d.l.P
def DoS (s:Fc) (d:Dg):Prop:=d.h.P=s.p.P/\af (cq (s.es.map ae)) d.l.P
def EqD (a b:Dg):Prop:=a.h.P=b.h.P/\a.l.P=b.l.P
def OfR (P:Prop) (D:Dg -> Prop) (d:Dg) (er:Int):Prop:=(¬ P/\er=1/\d=dz0)∨(P/\er=0/\D d)
def OfE (w w':World) (x:Ending) (P:Prop) (D:Dg -> Prop):Prop:=∃ d er,x = .returned (.tuple #[DiV (mkD d),.int .i64 er])/\EZ w' d/\Below w.heap.size w w'/\OfR P D d er
theorem zc5 {f:Fc} {P:Pst} {er:Int} (h:PsD f P er):(¬ ar f/\er=1/\P=pv0.P)∨(ar f/\er=0/\de f P):=by
 rcases h with h | ⟨h1,h2,h3,h4⟩
 ·exact .inl h
 ·exact .inr ⟨h1,h2,h3,h4⟩
end
section
open Go.RowKit
def DgS (w w':World) (e:Ending) (D:Dg -> Prop):Prop:=∃ d,e = .returned (DiV (mkD d))/\EZ w' d/\Below w.heap.size w w'/\D d
theorem zge:(#[.slice none 0 0,.slice none 0 0,.slice none 0 0,.slice none 0 0]:Array Value)=DiC (mkD dz0):=rfl
attribute [local go_sem ↓] zq zp zE zD zP zO
attribute [local go_sem] zi zk zI zl zr xu xR zge
end
section
open Go.RowKit
def MnD (a b q:Pst):Prop:=∃ C:Nat -> List Rn,(∀ r,r < 16 -> cB (aa a r) (aa b r) (C r))/\af C q
theorem MnD.inB {a b q:Pst} (h:MnD a b q) (e:K.En):inB q e=true↔inB a e=true/\¬ inB b e=true:=by
 obtain ⟨C,hC,hq⟩:=h;by_cases h0:0 <= e.rep/\e.rep < 16
 ·rw [yz h0,yz h0,yz h0,zZ hq _ (by omega),(hC _ (by omega)).2 e.num]
 ·constructor
  ·intro h;exact absurd (zaH h) h0
  ·intro h;exact absurd (zaH h.1) h0
def LkD (L:List K.En) (P:Pst) (d:Dg) (N:List K.En) (Q:Pst):Prop:=N=L.filter (pkB d.h.P false)/\ag Q/\∀ e,inB Q e=true↔(inB P e=true/\¬ ∃ x∈L,ae x=ae e)/\¬ (inB d.h.P e=true/\¬ inB d.l.P e=true)
def LkG (w w':World) (x:Ending) (L:List K.En) (P:Pst) (d:Dg):Prop:=∃ no nn nc N q,x = .returned (.tuple #[.slice no nn nc,PV q])/\K.aD w' no nn nc N/\am w' q/\Below w.heap.size w w'/\LkD L P d N q.P
def LkJ (w W:World) (G gx gy:Nat) (no:Option Addr) (nn nc:Nat) (N:List K.En) (m1 m2:Pv):Prop:=av W gx m1/\av W gy m2/\am W m1/\am W m2/\av W (G+2) pv0/\K.aD W no nn nc N/\Below w.heap.size w W
attribute [local go_sem ↓] zq zp
attribute [local go_sem] zi zk zI xu xR
end
end Go.Proofs.YtjffpimfngdggaaGreat
