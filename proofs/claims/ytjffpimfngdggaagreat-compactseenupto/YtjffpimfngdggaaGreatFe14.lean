/- OBs ONr LBase LSku LRSku -/
import Derived.Test.YtjffpimfngdggaaGreatTk
import Derived.Test.YtjffpimfngdggaaGreatFe13
import Derived.Deep.CutRange
import Derived.Test.YtjffpimfngdggaaGreatFe10
import Derived.Lib.MinMax
import Derived.Test.YtjffpimfngdggaaGreatRows
import Derived.WalkKit
import Derived.WalkSpells
import Derived.Deep.QuietTactic
import Derived.BigQuiet
set_option maxRecDepth 100000
set_option maxHeartbeats 3200000
namespace Go.Proofs.YtjffpimfngdggaaGreat
section
open Go.RowKit
attribute [local go_sem ↓] xT jn zV zU
attribute [local go_sem] xN qB qY
variable {w w' w2 W W' : World} {g : Nat}

def eT (L:List Sn) (d:Rn) (n i:Nat):Prop:=i <= n/\(∀ j,j < i -> nrC (L.getD j sn0) d < 0)/\(i < n -> 0 <= nrC (L.getD i sn0) d)
def BsA (w w':World) (e:Ending) (L:List Sn) (d:Rn) (n:Nat):Prop:=∃ (i:Nat) (b:Bool),e = .returned (.tuple #[.int .i64 (i:Int),.bool b])/\eT L d n i/\Below w.heap.size w w'
theorem ziv (ao:Option Addr) (n cap:Nat) (L:List Sn) (d:Rn) (w:World) (hS:cN w ao n cap L) (hm:∀ a b,a <= b -> b < n -> nrC (L.getD b sn0) d < 0 -> nrC (L.getD a sn0) d < 0) :
  Calls Tryz.prog 135 #[.slice ao n cap,RV d,.func (.func 187) #[] #[]] w fun e w'=>BsA w w' e L d n:=by
 have C3:∀ (args:Array Value) (w:World),(callFunc 187 args).run Tryz.prog w = .ok (.enter 187 args) w:=fun _ _=>rfl;have b1:=ze w (.cells (RC d) 48);have x1:=zT w 48 d;obtain ⟨w1,cR⟩:∃ w1,w.alloc (.cells (RC d) 48)=w1:=⟨_,rfl⟩;obtain ⟨g1,cT⟩:∃ g1,w.heap.size=g1:=⟨_,rfl⟩;rw [cR] at b1 x1;rw [cT] at x1;have aN:=hide b1;have HX:Hid (Box w1 g1 48 d/\cN w1 ao n cap L):=⟨x1,hS.below b1⟩;have pF:n <= 5864062014805:=hS.big;have HM:=hide hm;clear b1 x1 hS hm;go_enter Tryz.func135,Tryz.ntmps135;go_wp2_with fail;clear cR cT;go_loopw [9,10] (fun a b wr=>∃ (lo hi:Nat),a = .int .i64 (lo:Int)/\b = .int .i64 (hi:Int)/\lo <= hi/\hi <= n/\Hid (Below w1.heap.size w1 wr/\(∀ j,j < lo -> nrC (L.getD j sn0) d < 0)/\(hi < n -> 0 <= nrC (L.getD hi sn0) d))) (fun a b _=>(intOf b).toNat - (intOf a).toNat)
 case atStart=>exact ⟨0,n,rfl,rfl,Nat.zero_le _,Nat.le_refl _,Below.refl _ _,(fun j hj=>by omega),fun h=>by omega⟩
 case round =>
  obtain ⟨lo,hi,rfl,rfl,Fr,mt,HI⟩:=hrel
  rename World=>wr
  by_cases ak:lo < hi
  ·have cL:(lo:Int) < (hi:Int):=by omega
   obtain ⟨h,hh⟩:∃ h:Nat,(lo+hi) / 2=h:=⟨_,rfl⟩
   have uG:lo <= 5864062014805:=by omega
   have FB:hi <= 5864062014805:=by omega
   obtain ⟨t,ht⟩:∃ t:Nat,lo+hi=t:=⟨_,rfl⟩
   have et:(lo:Int)+(hi:Int)=(t:Int):=by omega
   have e2:(t:Int) / 2=(h:Int):=by omega
   have e3:t / 2=h:=by omega
   have HH:Hid (lo <= h/\h < hi/\h < n):=⟨by omega,by omega,by omega⟩
   have Fg:t <= 20000000000000:=by omega
   obtain ⟨ad,rfl,A0⟩:=(HX.out.2.below HI.out.1).at h HH.out.2.2;obtain ⟨s,Hs⟩:∃ s,Hid (L.getD h sn0=s):=⟨_,rfl⟩
   have aG:Hid (∀ W,Below wr.heap.size wr W -> (ldS (.pointer (some (ad.add (h * 3))))).run Tryz.prog W = .ok (SV s) W/\(ldD (.pointer (some ⟨g1,0,none⟩))).run Tryz.prog W = .ok (RV d) W):=fun W hW=>by
    obtain ⟨ad',e',A1⟩:=((HX.out.2.below HI.out.1).below hW).at h HH.out.2.2;obtain rfl:=Option.some.inj e';rw [Hs.out] at A1;exact ⟨qk A1,zG ((HX.out.1.below HI.out.1).below hW).at⟩
   have ug:(h:Int) < (n:Int):=by have:=HH.out;omega
   clear A0 hh ht;go_upto_region 5 with fail;clear et e2 e3;refine wp_region_held_drew (S:=fun W=>(ldS (.pointer (some (ad.add (h * 3))))).run Tryz.prog W = .ok (SV s) W/\(ldD (.pointer (some ⟨g1,0,none⟩))).run Tryz.prog W = .ok (RV d) W) (by kernel_rfl) (aG.out _ (zg wr)) (fun hHeld=>?_);refine wU 0 ?_;refine wU 1 ?_;refine wU 2 ?_;refine wU 3 ?_;refine wU 4 ?_;refine wU 5 ?_;refine wpAnyH_ready (rs:=[6]) (by kernel_rfl) (by simp) (.cons rfl (fun K hK=>?_) .nil);go_simp;go_wp2_with fail;refine (zez s d _).mono ?_;rintro e w3 ⟨rfl,b3⟩;have dZ:Below wr.heap.size wr w3:=(zg wr).trans b3;have aB:=hide (HI.out.1.trans (dZ.mono HI.out.1.size));refine hK.out _ _ (aG.out _ dZ) (fun hHeld=>?_);clear hK K b3 dZ;obtain ⟨z,hz⟩:∃ z,nrC s d=z:=⟨_,rfl⟩;rw [hz];refine wU 7 ?_;refine wpAnyH_done (by kernel_rfl) ?_ _;clear hHeld
   by_cases dg:z < 0
   ·have HN:Hid (∀ j,j < h+1 -> nrC (L.getD j sn0) d < 0):=fun j hj=>HM.out j h (by omega) HH.out.2.2 (by rw [Hs.out,hz];exact dg);clear hz;go_wp2_with fail;go_roundw
    case rel=>exact ⟨h+1,hi,by simp,rfl,by have:=HH.out;omega,mt,aB.out,HN.out,HI.out.2.2⟩
    case measure=>simp [intOf];have:=HH.out;omega
   ·have HN:Hid (h < n -> 0 <= nrC (L.getD h sn0) d):=fun _=>by rw [Hs.out,hz];omega
    clear hz;go_wp2_with fail;go_roundw
    case rel=>exact ⟨lo,h,rfl,rfl,HH.out.1,by have:=HH.out;omega,aB.out,HI.out.2.1,HN.out⟩
    case measure=>simp [intOf];have:=HH.out;omega
  ·have cL:¬ (lo:Int) < (hi:Int):=by omega
   obtain rfl:lo=hi:=by omega
   have HF:Hid (eT L d n lo):=⟨mt,HI.out.2.1,HI.out.2.2⟩;have fR:=wTr aN HI.out.1;by_cases ic:lo < n
   ·have lP:(lo:Int) < (n:Int):=by omega
    obtain ⟨ad,rfl,A0⟩:=(HX.out.2.below HI.out.1).at lo ic;obtain ⟨s,Hs⟩:∃ s,Hid (L.getD lo sn0=s):=⟨_,rfl⟩
    have aG:Hid (∀ W,Below wr.heap.size wr W -> (ldS (.pointer (some (ad.add (lo * 3))))).run Tryz.prog W = .ok (SV s) W/\(ldD (.pointer (some ⟨g1,0,none⟩))).run Tryz.prog W = .ok (RV d) W):=fun W hW=>by
     obtain ⟨ad',e',A1⟩:=((HX.out.2.below HI.out.1).below hW).at lo ic;obtain rfl:=Option.some.inj e';rw [Hs.out] at A1;exact ⟨qk A1,zG ((HX.out.1.below HI.out.1).below hW).at⟩
    clear A0;go_upto_region 8 with fail;refine wp_region_held_drew (S:=fun W=>(ldS (.pointer (some (ad.add (lo * 3))))).run Tryz.prog W = .ok (SV s) W/\(ldD (.pointer (some ⟨g1,0,none⟩))).run Tryz.prog W = .ok (RV d) W) (by kernel_rfl) (aG.out _ (zg wr)) (fun hHeld=>?_);refine wU 0 ?_;refine wU 1 ?_;refine wU 2 ?_;refine wU 3 ?_;refine wU 4 ?_;refine wU 5 ?_;refine wU 6 ?_;refine wU 7 ?_;refine wU 8 ?_;refine wU 9 ?_;refine wU 10 ?_;refine wpAnyH_ready (rs:=[11]) (by kernel_rfl) (by simp) (.cons rfl (fun K hK=>?_) .nil);go_simp;go_wp2_with fail;refine (zez s d _).mono ?_;rintro e w3 ⟨rfl,b3⟩;have dZ:Below wr.heap.size wr w3:=(zg wr).trans b3;have aB:=wTr fR dZ;refine hK.out _ _ (aG.out _ dZ) (fun hHeld=>?_);clear hK K b3 dZ;obtain ⟨z,hz⟩:∃ z,nrC s d=z:=⟨_,rfl⟩;rw [hz];clear hz;refine wU 14 ?_;refine wU 12 ?_
    refine wU 13 ?_;refine wU 15 ?_;refine wpAnyH_done (by kernel_rfl) ?_ _;clear hHeld;go_wp2_with fail;go_ret2;exact ⟨lo,_,rfl,HF.out,aB.out⟩
   ·have lP:¬ (lo:Int) < (n:Int):=by omega
    go_upto_region 8 with fail;refine wp_region_held_drew (S:=fun _=>True) (by kernel_rfl) (trivial) (fun hHeld=>?_);refine wU 0 ?_;refine wU 1 ?_;refine wU 2 ?_;refine wU 3 ?_;refine wU 4 ?_;refine wV 5 ?_;refine wV 6 ?_;refine wV 7 ?_;refine wV 8 ?_;refine wV 9 ?_;refine wV 10 ?_;refine wV 11 ?_;refine wV 12 ?_;refine wU 14 ?_;refine wU 13 ?_;refine wU 15 ?_;refine wpAnyH_done (by kernel_rfl) ?_ _;clear hHeld;go_wp2_with fail;go_ret2;exact ⟨lo,_,rfl,HF.out,fR.out.trans ((zg wr).mono fR.out.size)⟩
end
section
open Go.RowKit
attribute [local go_sem ↓] zq zp zV zU
attribute [local go_sem] zi zj
variable {w w' w2 W W' : World} {g : Nat}

def NrA (w w':World) (e:Ending) (p:Pv) (d:Rn):Prop:=∃ (q:Pv) (i:Nat),e = .returned (PV q)/\am w' q/\eT p.P.cloud d p.cn i/\q.P=⟨p.P.vec,(p.P.cloud.drop i).take 1⟩/\Below w.heap.size w w'
theorem zcs {ad:Addr} {n c i:Nat} {L:List Sn} (h:cN w (some ad) n c L) (hi:i < n) (c':Nat) (hc:1 <= c'):cN w (some (ad.add (i * 3))) 1 c' ((L.drop i).take 1):=by
 have hl:=h.len;refine ⟨by rw [List.length_take,List.length_drop];omega,fun e=>(by cases e),fun ad' e t ht=>?_,by omega,hc⟩;obtain rfl:=Option.some.inj e
 obtain rfl:t=0:=by omega
 have A:=h.cell ad rfl i hi
 have e1:((L.drop i).take 1).getD 0 sn0=L.getD i sn0:=by
  rw [List.getD_eq_getElem?_getD,List.getElem?_take,if_pos (by omega),List.getElem?_drop,Nat.add_zero,List.getD_eq_getElem?_getD]
 rw [e1,Nat.zero_mul,add_zero];exact A
theorem jo {L:List Sn} {n c i:Nat} {ao:Option Addr} (hl:L.length=n) (hi:n <= i) (hn:ao=none -> c=0):cN w ao 0 c ((L.drop i).take 1):=by
 have e:(L.drop i).take 1=[]:=by rw [List.drop_eq_nil_of_le (by omega)];rfl
 rw [e];exact ⟨rfl,fun h=>⟨rfl,hn h⟩,fun ad h t ht=>(by omega),by omega,Nat.zero_le _⟩
theorem zgc (p:Pv) (d:Rn) (w:World) (hS:am w p) (hm:∀ a b,a <= b -> b < p.cn -> nrC (p.P.cloud.getD b sn0) d < 0 -> nrC (p.P.cloud.getD a sn0) d < 0):Calls Tryz.prog 146 #[PV p,RV d] w fun e w'=>NrA w w' e p d:=by
 have b1:=ze w (.cells (PC p) 26);have x1:=zr w p;have s1:=World.size_alloc w (.cells (PC p) 26);obtain ⟨w1,cR⟩:∃ w1,w.alloc (.cells (PC p) 26)=w1:=⟨_,rfl⟩;obtain ⟨g1,cT⟩:∃ g1,w.heap.size=g1:=⟨_,rfl⟩;rw [cR] at b1 x1 s1;rw [cT] at x1 s1;have b2:=ze w1 (.cells (RC d) 48);have x2:=zT w1 48 d;have s2:=World.size_alloc w1 (.cells (RC d) 48);obtain ⟨w2,fi⟩:∃ w2,w1.alloc (.cells (RC d) 48)=w2:=⟨_,rfl⟩;rw [fi] at b2 x2 s2;rw [s1] at x2 s2;have b3:=ze w2 (.cells #[.slice none 0 0,.slice none 0 0] 26);have x3:aA (w2.alloc (.cells #[.slice none 0 0,.slice none 0 0] 26)) w2.heap.size pv0:=zr w2 pv0;obtain ⟨w3,Da⟩:∃ w3,w2.alloc (.cells #[.slice none 0 0,.slice none 0 0] 26)=w3:=⟨_,rfl⟩;rw [Da] at b3 x3;rw [s2] at x3;have b13:=b1.trans ((b2.trans (b3.mono b2.size)).mono b1.size)
 have pr:=(x1.below b2).below b3;have HX:Hid (aA w3 g1 p/\aA w3 (g1+1+1) pv0/\am w3 p/\Below w.heap.size w w3/\w.heap.size=g1):=⟨pr,x3,hS.below b13,b13,cT⟩
 have ld:=zG (x2.below b3).at
 obtain ⟨y0,y1⟩:=pr.nums;have CB:=hide (ziv p.co p.cn p.cc p.P.cloud d w3 HX.out.2.2.1.cloud hm);have HS:=hide hS;clear b1 b2 b3 x1 x2 x3 b13 pr hS hm;go_enter Tryz.func146,Tryz.ntmps146;go_wp2_with fail;clear cR fi Da s1 s2 cT ld y0 y1;refine CB.out.mono ?_;rintro e w4 ⟨i,fb,rfl,hF,b4⟩;have HF:=hide hF;have lJ:i <= p.cn:=hF.1;have pF:p.cn <= 5864062014805:=HX.out.2.2.1.cloud.big;have aQ:=hide (HX.out.2.2.2.1.trans (b4.mono HX.out.2.2.2.1.size));have iv:Hid (aA w4 g1 p/\aA w4 (g1+1+1) pv0/\am w4 p):=⟨HX.out.1.below b4,HX.out.2.1.below b4,HX.out.2.2.1.below b4⟩
 have aG:Hid (∀ (W:World) co cn cc,W.heap[g1]? = w4.heap[g1]? -> p.co=co -> p.cn=cn -> p.cc=cc -> W.cell? ⟨g1,0,none⟩=some (.slice p.vo p.vn p.vc)/\W.cell? ⟨g1,1,none⟩=some (.slice co cn cc)):=fun W co cn cc hW h1 h2 h3=>by rw [<- h1,<- h2,<- h3];exact aA.nums (show aA W g1 p from hW.trans iv.out.1)
 have sP:Hid (∀ (q:Pv),am w q -> q.P=⟨p.P.vec,(p.P.cloud.drop i).take 1⟩ -> (stP (.pointer (some ⟨g1+1+1,0,none⟩)) (PV q)).run Tryz.prog w4.drew = .ok () (w4.drew.setRow (g1+1+1) (PC q))/\aA (w4.drew.setRow (g1+1+1) (PC q)) (g1+1+1) q/\NrA w (w4.drew.setRow (g1+1+1) (PC q)) (.returned (PV q)) p d):=fun q hq hP=>by
  have hb:Below w.heap.size w (w4.drew.setRow (g1+1+1) (PC q)):=zh (aQ.out.trans ((zg w4).mono aQ.out.size)) (by have:=HX.out.2.2.2.2;omega);have hX:aA w4.drew (g1+1+1) pv0:=iv.out.2.1.below (zg w4);exact ⟨qQ (p':=q) hX,setRow_heap _ _ _ _ _ _ hX,q,i,rfl,hq.below hb,HF.out,hP,hb⟩
 obtain ⟨u,hu⟩:∃ u:Nat,i+1=u:=⟨_,rfl⟩
 have eu:(i:Int)+1=(u:Int):=by omega
 have ew:IntKind.i64.wrap (u:Int)=(u:Int):=by rw [IntKind.wrap_i64];omega
 clear hF b4 CB;by_cases ak:i < p.cn
 ·have emin:min (u:Int) (p.cn:Int)=(u:Int):=by omega
  obtain ⟨ad,hco,-⟩:=HS.out.cloud.at i ak;have mE:=HS.out.cloud.cap
  have D8:¬ p.cc=i:=by omega
  have h1:(u:Int) <= (p.cc:Int):=by omega
  have h2:i <= u:=by omega
  have h3:u <= p.cc:=by omega
  obtain ⟨t8,x8,hE⟩:=sP.out ⟨p.vo,p.vn,p.vc,some (ad.add (i * 3)),u - i,p.cc - i,⟨p.P.vec,(p.P.cloud.drop i).take 1⟩⟩ ⟨HS.out.vec,by rw [show u - i=1 by omega];exact zcs (hco ▸ HS.out.cloud) ak (p.cc - i) (show 1 <= p.cc - i by omega),HS.out.big⟩ rfl;replace t8:(stP (.pointer (some ⟨g1+1+1,0,none⟩)) (.agg #[.slice p.vo p.vn p.vc,.slice (some (ad.add (i * 3))) (u - i) (p.cc - i)])).run Tryz.prog w4.drew = .ok () (w4.drew.setRow (g1+1+1) (PC ⟨p.vo,p.vn,p.vc,some (ad.add (i * 3)),u - i,p.cc - i,⟨p.P.vec,(p.P.cloud.drop i).take 1⟩⟩)):=t8;have fM:=hide x8;have HE:=hide hE;clear x8 hE;go_upto_region 2 with fail;refine wp_region_held_drew (S:=fun W=>W.cell? ⟨g1,0,none⟩=some (.slice p.vo p.vn p.vc)/\W.cell? ⟨g1,1,none⟩=some (.slice (some ad) p.cn p.cc)) (by kernel_rfl) (aG.out _ _ _ _ rfl hco rfl rfl) (fun hHeld=>?_);refine wU 0 ?_
  refine wU 1 ?_;refine wU 2 ?_;refine wU 3 ?_;refine wU 4 ?_;refine wU 5 ?_;refine wU 6 ?_;refine wU 7 ?_;refine wU 8 ?_;refine wU 9 ?_;refine wU 10 ?_;refine wpAnyH_take (i:=11) (oi:=⟨some 25,.slice 24 (.tmp 17) (some (.tmp 18)) (some (.tmp 24)) none,24, "picks.go:87",#[⟨3,.data⟩,⟨4,.data⟩,⟨10,.data⟩],none⟩) (v:=.slice (some (ad.add (i * 3))) (u - i) (p.cc - i)) rfl (by kernel_rfl) (by kernel_rfl) (by kernel_rfl) (fun _ _ _ h=>h) (Or.inl ⟨by rfl,?_⟩) (by assumption) ?_
  skip
  ·(intro w hSw;(try dsimp only at hSw);go_simp);first | done | with_reducible rfl
  simp only [Act.put,List.setIfInBounds_toArray,List.set_cons_zero,List.set_cons_succ];refine wU 12 ?_;refine wpAnyH_ready (rs:=[13]) (by kernel_rfl) (by simp) (.cons rfl (fun K hK=>?_) .nil);go_simp;refine hK.out _ _ (aG.out _ _ _ _ ?_ hco rfl rfl) (fun hHeld=>?_)
  ·exact setRow_other _ _ _ _ (by omega)
  clear hK K t8;refine wpAnyH_done (by kernel_rfl) ?_ _;clear hHeld;go_wp2_with fail;refine bodyPost_ret (eS rfl rfl fM.out) rfl ?_;exact HE.out
 ·obtain rfl:i=p.cn:=by omega
  have emin:min (u:Int) (p.cn:Int)=(p.cn:Int):=by omega
  have hl:=HS.out.cloud.len
  cases hco:p.co with
  | none =>
   obtain ⟨oW,Ec⟩:=HS.out.cloud.nil hco
   have FZ:(p.cn:Int)=0:=by omega
   have emin0:min (1:Int) 0=0:=by decide
   have ew1:IntKind.i64.wrap (1:Int)=1:=by rw [IntKind.wrap_i64];decide
   obtain ⟨t8,x8,hE⟩:=sP.out ⟨p.vo,p.vn,p.vc,none,0,0,⟨p.P.vec,(p.P.cloud.drop p.cn).take 1⟩⟩ ⟨HS.out.vec,jo hl (Nat.le_refl _) (fun _=>rfl),HS.out.big⟩ rfl;replace t8:(stP (.pointer (some ⟨g1+1+1,0,none⟩)) (.agg #[.slice p.vo p.vn p.vc,.slice none 0 0])).run Tryz.prog w4.drew = .ok () (w4.drew.setRow (g1+1+1) (PC ⟨p.vo,p.vn,p.vc,none,0,0,⟨p.P.vec,(p.P.cloud.drop p.cn).take 1⟩⟩)):=t8;have fM:=hide x8;have HE:=hide hE;clear x8 hE;go_upto_region 2 with fail;refine wp_region_held_drew (S:=fun W=>W.cell? ⟨g1,0,none⟩=some (.slice p.vo p.vn p.vc)/\W.cell? ⟨g1,1,none⟩=some (.slice none 0 0)) (by kernel_rfl) (aG.out _ _ _ _ rfl hco oW Ec) (fun hHeld=>?_);refine wU 0 ?_;refine wU 1 ?_;refine wU 2 ?_;refine wU 3 ?_;refine wU 4 ?_;refine wU 5 ?_;refine wU 6 ?_;refine wU 7 ?_;refine wU 8 ?_;refine wU 9 ?_;refine wU 10 ?_
   refine wpAnyH_take (i:=11) (oi:=⟨some 25,.slice 24 (.tmp 17) (some (.tmp 18)) (some (.tmp 24)) none,24, "picks.go:87",#[⟨3,.data⟩,⟨4,.data⟩,⟨10,.data⟩],none⟩) (v:=.slice none 0 0) rfl (by kernel_rfl) (by kernel_rfl) (by kernel_rfl) (fun _ _ _ h=>h) (Or.inl ⟨by rfl,?_⟩) (by assumption) ?_
   skip
   ·(intro w hSw;(try dsimp only at hSw);go_simp);first | done | with_reducible rfl
   simp only [Act.put,List.setIfInBounds_toArray,List.set_cons_zero,List.set_cons_succ];refine wU 12 ?_;refine wpAnyH_ready (rs:=[13]) (by kernel_rfl) (by simp) (.cons rfl (fun K hK=>?_) .nil);go_simp;refine hK.out _ _ (aG.out _ _ _ _ ?_ hco oW Ec) (fun hHeld=>?_)
   ·exact setRow_other _ _ _ _ (by omega)
   clear hK K t8;refine wpAnyH_done (by kernel_rfl) ?_ _;clear hHeld;go_wp2_with fail;refine bodyPost_ret (eS rfl rfl fM.out) rfl ?_;exact HE.out
  | some ad =>
   have mE:=HS.out.cloud.cap;by_cases hcc:p.cc=p.cn
   ·obtain ⟨t8,x8,hE⟩:=sP.out ⟨p.vo,p.vn,p.vc,some ad,0,0,⟨p.P.vec,(p.P.cloud.drop p.cn).take 1⟩⟩ ⟨HS.out.vec,jo hl (Nat.le_refl _) (fun h=>by cases h),HS.out.big⟩ rfl;replace t8:(stP (.pointer (some ⟨g1+1+1,0,none⟩)) (.agg #[.slice p.vo p.vn p.vc,.slice (some ad) 0 0])).run Tryz.prog w4.drew = .ok () (w4.drew.setRow (g1+1+1) (PC ⟨p.vo,p.vn,p.vc,some ad,0,0,⟨p.P.vec,(p.P.cloud.drop p.cn).take 1⟩⟩)):=t8;have fM:=hide x8;have HE:=hide hE;clear x8 hE;go_upto_region 2 with fail;refine wp_region_held_drew (S:=fun W=>W.cell? ⟨g1,0,none⟩=some (.slice p.vo p.vn p.vc)/\W.cell? ⟨g1,1,none⟩=some (.slice (some ad) p.cn p.cn)) (by kernel_rfl) (aG.out _ _ _ _ rfl hco rfl hcc) (fun hHeld=>?_);refine wU 0 ?_;refine wU 1 ?_;refine wU 2 ?_;refine wU 3 ?_;refine wU 4 ?_;refine wU 5 ?_;refine wU 6 ?_;refine wU 7 ?_;refine wU 8 ?_
    refine wU 9 ?_;refine wU 10 ?_;refine wpAnyH_take (i:=11) (oi:=⟨some 25,.slice 24 (.tmp 17) (some (.tmp 18)) (some (.tmp 24)) none,24, "picks.go:87",#[⟨3,.data⟩,⟨4,.data⟩,⟨10,.data⟩],none⟩) (v:=.slice (some ad) 0 0) rfl (by kernel_rfl) (by kernel_rfl) (by kernel_rfl) (fun _ _ _ h=>h) (Or.inl ⟨by rfl,?_⟩) (by assumption) ?_
    skip
    ·(intro w hSw;(try dsimp only at hSw);go_simp);first | done | with_reducible rfl
    simp only [Act.put,List.setIfInBounds_toArray,List.set_cons_zero,List.set_cons_succ];refine wU 12 ?_;refine wpAnyH_ready (rs:=[13]) (by kernel_rfl) (by simp) (.cons rfl (fun K hK=>?_) .nil);go_simp;refine hK.out _ _ (aG.out _ _ _ _ ?_ hco rfl hcc) (fun hHeld=>?_)
    ·exact setRow_other _ _ _ _ (by omega)
    clear hK K t8;refine wpAnyH_done (by kernel_rfl) ?_ _;clear hHeld;go_wp2_with fail;refine bodyPost_ret (eS rfl rfl fM.out) rfl ?_;exact HE.out
   ·obtain ⟨t8,x8,hE⟩:=sP.out ⟨p.vo,p.vn,p.vc,some (ad.add (p.cn * 3)),0,p.cc - p.cn,⟨p.P.vec,(p.P.cloud.drop p.cn).take 1⟩⟩ ⟨HS.out.vec,jo hl (Nat.le_refl _) (fun h=>by cases h),HS.out.big⟩ rfl;replace t8:(stP (.pointer (some ⟨g1+1+1,0,none⟩)) (.agg #[.slice p.vo p.vn p.vc,.slice (some (ad.add (p.cn * 3))) 0 (p.cc - p.cn)])).run Tryz.prog w4.drew = .ok () (w4.drew.setRow (g1+1+1) (PC ⟨p.vo,p.vn,p.vc,some (ad.add (p.cn * 3)),0,p.cc - p.cn,⟨p.P.vec,(p.P.cloud.drop p.cn).take 1⟩⟩)):=t8;have fM:=hide x8;have HE:=hide hE;clear x8 hE;go_upto_region 2 with fail;refine wp_region_held_drew (S:=fun W=>W.cell? ⟨g1,0,none⟩=some (.slice p.vo p.vn p.vc)/\W.cell? ⟨g1,1,none⟩=some (.slice (some ad) p.cn p.cc)) (by kernel_rfl) (aG.out _ _ _ _ rfl hco rfl rfl) (fun hHeld=>?_);refine wU 0 ?_;refine wU 1 ?_;refine wU 2 ?_;refine wU 3 ?_
    refine wU 4 ?_;refine wU 5 ?_;refine wU 6 ?_;refine wU 7 ?_;refine wU 8 ?_;refine wU 9 ?_;refine wU 10 ?_;refine wpAnyH_take (i:=11) (oi:=⟨some 25,.slice 24 (.tmp 17) (some (.tmp 18)) (some (.tmp 24)) none,24, "picks.go:87",#[⟨3,.data⟩,⟨4,.data⟩,⟨10,.data⟩],none⟩) (v:=.slice (some (ad.add (p.cn * 3))) 0 (p.cc - p.cn)) rfl (by kernel_rfl) (by kernel_rfl) (by kernel_rfl) (fun _ _ _ h=>h) (Or.inl ⟨by rfl,?_⟩) (by assumption) ?_
    skip
    ·(intro w hSw;(try dsimp only at hSw);go_simp);first | done | with_reducible rfl
    simp only [Act.put,List.setIfInBounds_toArray,List.set_cons_zero,List.set_cons_succ];refine wU 12 ?_;refine wpAnyH_ready (rs:=[13]) (by kernel_rfl) (by simp) (.cons rfl (fun K hK=>?_) .nil);go_simp;refine hK.out _ _ (aG.out _ _ _ _ ?_ hco rfl rfl) (fun hHeld=>?_)
    ·exact setRow_other _ _ _ _ (by omega)
    clear hK K t8;refine wpAnyH_done (by kernel_rfl) ?_ _;clear hHeld;go_wp2_with fail;refine bodyPost_ret (eS rfl rfl fM.out) rfl ?_;exact HE.out
end
end Go.Proofs.YtjffpimfngdggaaGreat
namespace Go.Proofs.YtjffpimfngdggaaGreat.K
section
open Go.RowKit

theorem hide {p:Prop} (h:p):Hid p:=h
def dig (c:UInt8):Bool:=decide (48 <= (c.toNat:Int)) && decide ((c.toNat:Int) <= 57)
theorem zu {a b:Bool} (h:a=b):Ending.returned (.bool a) = .returned (.bool b):=by rw [h]
theorem zH {k:IntKind} {a b:Int} (h:a=b):Ending.returned (.int k a) = .returned (.int k b):=by rw [h]
theorem jK {a a' b b':Int} (h:a=a') (h2:b=b'):Ending.returned (.tuple #[.int .i64 a,.int .i64 b]) = .returned (.tuple #[.int .i64 a',.int .i64 b']):=by rw [h,h2]
theorem jR (s:ByteArray) (h:s.size=0):s.toList.isEmpty=true:=by
 rw [ByteArray.toList_eq,List.isEmpty_iff,<- List.length_eq_zero_iff];simpa using h
theorem kW (s:ByteArray) (h:¬ s.size=0):s.toList.isEmpty=false:=by
 rw [ByteArray.toList_eq,List.isEmpty_eq_false_iff,<- List.length_pos_iff];have:s.data.size=s.size:=rfl;simp;omega
end
section
open Go.RowKit

def mk (c:UInt8):Bool:=((c.toNat:Int) == 45) || ((c.toNat:Int) == 46)
def lt (c:UInt8):Bool:=decide (65 <= (c.toNat:Int)) && decide ((c.toNat:Int) <= 90)

theorem xL (c:UInt8) (w:World):Calls Tryz.prog 214 #[.int .u8 (c.toNat:Int)] w fun e w'=>e = .returned (.bool (mk c))/\w'=w:=by
 by_cases h:(c.toNat:Int)=45
 ·have h':((c.toNat:Int) == 45)=true:=by simpa using h
  have HM:Hid (mk c=true):=by show _=_;unfold mk;rw [h'];rfl
  clear h;go_enter Tryz.func214,Tryz.ntmps214;go_wp2;go_ret;exact ⟨zu HM.out.symm,rfl⟩
 ·have h':((c.toNat:Int) == 45)=false:=by simpa using h
  have HM:Hid (((c.toNat:Int) == 46)=mk c):=by show _=_;unfold mk;rw [h'];rfl
  clear h;go_enter Tryz.func214,Tryz.ntmps214;go_wp2;go_ret;exact ⟨zu HM.out,rfl⟩
theorem vO (c:UInt8) (w:World):Calls Tryz.prog 215 #[.int .u8 (c.toNat:Int)] w fun e w'=>e = .returned (.bool (lt c))/\w'=w:=by
 by_cases h:65 <= (c.toNat:Int)
 ·have HM:Hid (decide ((c.toNat:Int) <= 90)=lt c):=by show _=_;unfold lt;rw [decide_eq_true h,Bool.true_and]
  go_enter Tryz.func215,Tryz.ntmps215;go_wp2;go_ret;exact ⟨zu HM.out,rfl⟩
 ·have HM:Hid (false=lt c):=by show _=_;unfold lt;rw [decide_eq_false h,Bool.false_and]
  go_enter Tryz.func215,Tryz.ntmps215;go_wp2;go_ret;exact ⟨zu HM.out,rfl⟩
theorem zb3 (c:UInt8) (w:World):Calls Tryz.prog 216 #[.int .u8 (c.toNat:Int)] w fun e w'=>e = .returned (.bool (dig c))/\w'=w:=by
 by_cases h:48 <= (c.toNat:Int)
 ·have HM:Hid (decide ((c.toNat:Int) <= 57)=dig c):=by show _=_;unfold dig;rw [decide_eq_true h,Bool.true_and]
  go_enter Tryz.func216,Tryz.ntmps216;go_wp2;go_ret;exact ⟨zu HM.out,rfl⟩
 ·have HM:Hid (false=dig c):=by show _=_;unfold dig;rw [decide_eq_false h,Bool.false_and]
  go_enter Tryz.func216,Tryz.ntmps216;go_wp2;go_ret;exact ⟨zu HM.out,rfl⟩

def cJ (l:List UInt8) (i:Nat):Bool:=
 if mk (l.getD i 0)=true then (decide (0 < i) && decide (i+1 < l.length)) && !mk (l.getD (i - 1) 0) else lt (l.getD i 0) || dig (l.getD i 0)
theorem qG (s:ByteArray) (i:Nat) (h:i < s.size):s.data.toList.getD i 0=s[i]:=by
 rw [List.getD,List.getElem?_eq_getElem (by simpa using h)];rfl
theorem jE (s:ByteArray):s.data.toList.length=s.size:=by simp

theorem vQ (s:ByteArray) (i:Nat) (w:World) (hi:i < s.size) (hs:s.size <= 1000):Calls Tryz.prog 177 #[.string s,.int .i64 i] w fun e w'=>e = .returned (.bool (cJ s.data.toList i))/\w'=w:=by
 cases hm:mk s[i] with
 | true =>
  have HM:=hide hm;clear hm;by_cases h0:0 < i
  ·by_cases h1:i+1 < s.size
   ·have HS:Hid ((!mk (s[i - 1]'(by omega)))=cJ s.data.toList i):=by
     show _=_
     unfold cJ;rw [qG s i hi,qG s (i - 1) (by omega),jE,if_pos HM.out,decide_eq_true h0,decide_eq_true h1];rfl
    have hz:((i:Int) - 1).toNat=i - 1:=by omega
    have mX:(i:Int) < (s.size:Int) - 1:=by omega
    have hK:=hide (xL (s[i - 1]'(by omega)));obtain ⟨x,hx⟩:∃ x:Int,((s[i - 1]'(by omega)).toNat:Int)=x:=⟨_,rfl⟩;rw [hx] at hK;go_enter Tryz.func177,Tryz.ntmps177;go_wp2_with fail;refine (xL s[i] _).mono ?_;rintro e w' ⟨rfl,rfl⟩;rw [HM.out];go_wp2_with fail;refine (hK.out _).mono ?_;rintro e w' ⟨rfl,rfl⟩;go_wp2;go_ret;exact ⟨zu HS.out,rfl⟩
   ·have HS:Hid (false=cJ s.data.toList i):=by
     show _=_
     unfold cJ;rw [qG s i hi,jE,if_pos HM.out,decide_eq_true h0,decide_eq_false h1];rfl
    have mX:¬ (i:Int) < (s.size:Int) - 1:=by omega
    go_enter Tryz.func177,Tryz.ntmps177;go_wp2_with fail;refine (xL s[i] _).mono ?_;rintro e w' ⟨rfl,rfl⟩;rw [HM.out];go_wp2;go_ret;exact ⟨zu HS.out,rfl⟩
  ·have HS:Hid (false=cJ s.data.toList i):=by
    show _=_
    unfold cJ;rw [qG s i hi,jE,if_pos HM.out,decide_eq_false h0];rfl
   obtain rfl:i=0:=by omega
   go_enter Tryz.func177,Tryz.ntmps177;go_wp2_with fail;refine (xL s[0] _).mono ?_;rintro e w' ⟨rfl,rfl⟩;rw [HM.out];go_wp2;go_ret;exact ⟨zu HS.out,rfl⟩
 | false =>
  have HM:=hide hm;clear hm
  cases hl:lt s[i] with
  | true =>
   have mq:=hide hl;clear hl
   have HS:Hid (true=cJ s.data.toList i):=by
    show _=_
    unfold cJ;rw [qG s i hi,if_neg (by rw [HM.out];simp),mq.out];rfl
   go_enter Tryz.func177,Tryz.ntmps177;go_wp2_with (first | (go_at_call 214;refine (xL s[i] _).mono ?_;rintro e w' ⟨rfl,rfl⟩;rw [HM.out]) | (go_at_call 215;refine (vO s[i] _).mono ?_;rintro e w' ⟨rfl,rfl⟩;rw [mq.out]));go_ret;exact ⟨zu HS.out,rfl⟩
  | false =>
   have mq:=hide hl;clear hl
   have HS:Hid (dig s[i]=cJ s.data.toList i):=by
    show _=_
    unfold cJ;rw [qG s i hi,if_neg (by rw [HM.out];simp),mq.out];rfl
   go_enter Tryz.func177,Tryz.ntmps177;go_wp2_with (first | (go_at_call 214;refine (xL s[i] _).mono ?_;rintro e w' ⟨rfl,rfl⟩;rw [HM.out]) | (go_at_call 215;refine (vO s[i] _).mono ?_;rintro e w' ⟨rfl,rfl⟩;rw [mq.out]) | (go_at_call 216;refine (zb3 s[i] _).mono ?_;rintro e w' ⟨rfl,rfl⟩));go_ret;exact ⟨zu HS.out,rfl⟩

def eY (l:List UInt8) (k:Nat):Bool:=(List.range k).all (cJ l)
def ckE (l:List UInt8):Int:=if l.length=0 then 20 else if 24 < l.length then 21 else if eY l l.length=true then 0 else 22
theorem wK (l:List UInt8) (k:Nat):eY l (k+1)=(eY l k && cJ l k):=by
 unfold eY;rw [List.range_succ,List.all_append];simp
theorem zaO (l:List UInt8) (k n:Nat) (h:k < n) (hs:cJ l k=false):eY l n=false:=by
 unfold eY;rw [List.all_eq_false];exact ⟨k,by simpa using h,by rw [hs];simp⟩

theorem zfh (s:ByteArray) (w:World) (hs:s.size <= maxLen):Calls Tryz.prog 139 #[.string s] w fun e w'=>(∃ p:Int,e = .returned (.tuple #[.int .i64 p,.int .i64 (ckE s.data.toList)]))/\w'=w:=by
 unfold maxLen at hs;by_cases h0:s.size=0
 ·have he:=jR s h0
  have HE:Hid (ckE s.data.toList=20):=by show _=_;unfold ckE;rw [jE,if_pos h0]
  go_enter Tryz.func139,Tryz.ntmps139;go_wp2;go_ret2;exact ⟨⟨0,jK rfl HE.out.symm⟩,rfl⟩
 have he:=kW s h0;by_cases h24:24 < s.size
 ·have HE:Hid (ckE s.data.toList=21):=by show _=_;unfold ckE;rw [jE,if_neg h0,if_pos h24]
  have AQ:(24:Int) < s.size:=by omega
  go_enter Tryz.func139,Tryz.ntmps139;go_wp2;go_ret2;exact ⟨⟨0,jK rfl HE.out.symm⟩,rfl⟩
 have AQ:¬ (24:Int) < s.size:=by omega
 have HE:Hid (ckE s.data.toList=if eY s.data.toList s.size=true then 0 else 22):=by show _=_;unfold ckE;rw [jE,if_neg h0,if_neg h24]
 go_enter Tryz.func139,Tryz.ntmps139;go_wp2;go_loop [12] (fun i=>∃ k:Nat,k <= s.size/\i = .int .i64 k/\Hid (eY s.data.toList k=true)) (fun i=>s.size - (intOf i).toNat)
 case atStart=>exact ⟨0,Nat.zero_le _,rfl,rfl⟩
 case round =>
  obtain ⟨k,hk,rfl,HK⟩:=hrel;by_cases ak:k < s.size
  ·cases a8:cJ s.data.toList k with
   | true =>
    have pJ:=hide a8;clear a8;go_wp2_with (go_at_call 177;refine (vQ s k _ ak (by omega)).mono ?_;rintro e w' ⟨rfl,rfl⟩;rw [pJ.out]);go_round
    case rel=>exact ⟨k+1,by omega,by go_num,by show _=_;rw [wK,HK.out,pJ.out];rfl⟩
    case measure=>simp [intOf];omega
   | false =>
    have pJ:=hide a8;clear a8
    have HF:Hid (ckE s.data.toList=22):=by show _=_;rw [HE.out,zaO _ k _ ak pJ.out];rfl
    go_wp2_with (go_at_call 177;refine (vQ s k _ ak (by omega)).mono ?_;rintro e w' ⟨rfl,rfl⟩;rw [pJ.out]);go_ret2;exact ⟨⟨k,jK rfl HF.out.symm⟩,rfl⟩
  ·obtain rfl:k=s.size:=by omega
   have HF:Hid (ckE s.data.toList=0):=by show _=_;rw [HE.out,if_pos HK.out]
   go_wp2;go_ret2;exact ⟨⟨0,jK rfl HF.out.symm⟩,rfl⟩

def fG (l:List UInt8):Bool:=ckE l == 0
theorem kQ (s:ByteArray) (w:World) (hs:s.size <= maxLen):Calls Tryz.prog 86 #[.string s] w fun e w'=>e = .returned (.bool (fG s.data.toList))/\w'=w:=by
 have HS:=hide hs;clear hs;go_enter Tryz.func86,Tryz.ntmps86;go_wp2_with (go_at_call 139;refine (zfh s _ HS.out).mono ?_;rintro e w' ⟨⟨p,rfl⟩,rfl⟩);go_ret;exact ⟨rfl,rfl⟩
end
section
open Go.RowKit

theorem xQ (c:UInt8) (w:World):Calls Tryz.prog 180 #[.int .u8 (c.toNat:Int)] w fun e w'=>e = .returned (.bool (mk c))/\w'=w:=by
 by_cases h:(c.toNat:Int)=45
 ·have h':((c.toNat:Int) == 45)=true:=by simpa using h
  have HM:Hid (mk c=true):=by show _=_;unfold mk;rw [h'];rfl
  clear h;go_enter Tryz.func180,Tryz.ntmps180;go_wp2;go_ret;exact ⟨zu HM.out.symm,rfl⟩
 ·have h':((c.toNat:Int) == 45)=false:=by simpa using h
  have HM:Hid (((c.toNat:Int) == 46)=mk c):=by show _=_;unfold mk;rw [h'];rfl
  clear h;go_enter Tryz.func180,Tryz.ntmps180;go_wp2;go_ret;exact ⟨zu HM.out,rfl⟩
theorem qO (c:UInt8) (w:World):Calls Tryz.prog 178 #[.int .u8 (c.toNat:Int)] w fun e w'=>e = .returned (.bool (lt c))/\w'=w:=by
 by_cases h:65 <= (c.toNat:Int)
 ·have HM:Hid (decide ((c.toNat:Int) <= 90)=lt c):=by show _=_;unfold lt;rw [decide_eq_true h,Bool.true_and]
  go_enter Tryz.func178,Tryz.ntmps178;go_wp2;go_ret;exact ⟨zu HM.out,rfl⟩
 ·have HM:Hid (false=lt c):=by show _=_;unfold lt;rw [decide_eq_false h,Bool.false_and]
  go_enter Tryz.func178,Tryz.ntmps178;go_wp2;go_ret;exact ⟨zu HM.out,rfl⟩
theorem xz (c:UInt8) (w:World):Calls Tryz.prog 179 #[.int .u8 (c.toNat:Int)] w fun e w'=>e = .returned (.bool (dig c))/\w'=w:=by
 by_cases h:48 <= (c.toNat:Int)
 ·have HM:Hid (decide ((c.toNat:Int) <= 57)=dig c):=by show _=_;unfold dig;rw [decide_eq_true h,Bool.true_and]
  go_enter Tryz.func179,Tryz.ntmps179;go_wp2;go_ret;exact ⟨zu HM.out,rfl⟩
 ·have HM:Hid (false=dig c):=by show _=_;unfold dig;rw [decide_eq_false h,Bool.false_and]
  go_enter Tryz.func179,Tryz.ntmps179;go_wp2;go_ret;exact ⟨zu HM.out,rfl⟩
theorem zhu (c:UInt8) (h:lt c || dig c=true):mk c=false:=by
 unfold mk;unfold lt dig at h;generalize (c.toNat:Int)=x at h ⊢;simp at h ⊢;omega

theorem kE (s:ByteArray) (i:Nat) (w:World) (hi:i < s.size) (hs:s.size <= 1000):Calls Tryz.prog 140 #[.string s,.int .i64 i] w fun e w'=>e = .returned (.bool (cJ s.data.toList i))/\w'=w:=by
 cases hl:lt s[i] with
 | true =>
  have mq:=hide hl
  have HS:Hid (true=cJ s.data.toList i):=by
   show _=_
   unfold cJ;rw [qG s i hi,if_neg (by rw [zhu _ (by rw [hl];rfl)];simp),hl];rfl
  clear hl;go_enter Tryz.func140,Tryz.ntmps140;go_wp2_with (go_at_call 178;refine (qO s[i] _).mono ?_;rintro e w' ⟨rfl,rfl⟩;rw [mq.out]);go_ret;exact ⟨zu HS.out,rfl⟩
 | false =>
  have mq:=hide hl;clear hl
  cases hd:dig s[i] with
  | true =>
   have HD:=hide hd
   have HS:Hid (true=cJ s.data.toList i):=by
    show _=_
    unfold cJ;rw [qG s i hi,if_neg (by rw [zhu _ (by rw [hd];simp)];simp),hd];simp
   clear hd;go_enter Tryz.func140,Tryz.ntmps140;go_wp2_with (first | (go_at_call 178;refine (qO s[i] _).mono ?_;rintro e w' ⟨rfl,rfl⟩;rw [mq.out]) | (go_at_call 179;refine (xz s[i] _).mono ?_;rintro e w' ⟨rfl,rfl⟩;rw [HD.out]));go_ret;exact ⟨zu HS.out,rfl⟩
  | false =>
   have HD:=hide hd;clear hd
   cases hm:mk s[i] with
   | false =>
    have HM:=hide hm;clear hm
    have HS:Hid (false=cJ s.data.toList i):=by
     show _=_
     unfold cJ;rw [qG s i hi,if_neg (by rw [HM.out];simp),mq.out,HD.out];rfl
    go_enter Tryz.func140,Tryz.ntmps140;go_wp2_with (first | (go_at_call 178;refine (qO s[i] _).mono ?_;rintro e w' ⟨rfl,rfl⟩;rw [mq.out]) | (go_at_call 179;refine (xz s[i] _).mono ?_;rintro e w' ⟨rfl,rfl⟩;rw [HD.out]) | (go_at_call 180;refine (xQ s[i] _).mono ?_;rintro e w' ⟨rfl,rfl⟩;rw [HM.out]));go_ret;exact ⟨zu HS.out,rfl⟩
   | true =>
    have HM:=hide hm;clear hm;by_cases h0:i=0
    ·have HS:Hid (false=cJ s.data.toList i):=by
      show _=_
      unfold cJ;rw [qG s i hi,if_pos HM.out,decide_eq_false (by omega)];rfl
     subst h0;go_enter Tryz.func140,Tryz.ntmps140;go_wp2_with (first | (go_at_call 178;refine (qO s[0] _).mono ?_;rintro e w' ⟨rfl,rfl⟩;rw [mq.out]) | (go_at_call 179;refine (xz s[0] _).mono ?_;rintro e w' ⟨rfl,rfl⟩;rw [HD.out]) | (go_at_call 180;refine (xQ s[0] _).mono ?_;rintro e w' ⟨rfl,rfl⟩;rw [HM.out]));go_ret;exact ⟨zu HS.out,rfl⟩
    ·have mF:((i:Int) == 0)=false:=by simpa using h0
     by_cases h1:i+1 < s.size
     ·have HS:Hid ((!mk (s[i - 1]'(by omega)))=cJ s.data.toList i):=by
       show _=_
       unfold cJ;rw [qG s i hi,qG s (i - 1) (by omega),jE,if_pos HM.out,decide_eq_true (by omega),decide_eq_true h1];rfl
      have hz:((i:Int) - 1).toNat=i - 1:=by omega
      have mX:((i:Int) == (s.size:Int) - 1)=false:=by simp;omega
      have hK:=hide (xQ (s[i - 1]'(by omega)));obtain ⟨x,hx⟩:∃ x:Int,((s[i - 1]'(by omega)).toNat:Int)=x:=⟨_,rfl⟩;rw [hx] at hK
      have cv:1 <= i:=by omega
      clear h0;go_enter Tryz.func140,Tryz.ntmps140;go_wp2_with (first | (go_at_call 178;refine (qO s[i] _).mono ?_;rintro e w' ⟨rfl,rfl⟩;rw [mq.out]) | (go_at_call 179;refine (xz s[i] _).mono ?_;rintro e w' ⟨rfl,rfl⟩;rw [HD.out]));refine (xQ s[i] _).mono ?_;rintro e w' ⟨rfl,rfl⟩;rw [HM.out];go_wp2_with fail;refine (hK.out _).mono ?_;rintro e w' ⟨rfl,rfl⟩;go_wp2;go_ret;exact ⟨zu HS.out,rfl⟩
     ·have HS:Hid (false=cJ s.data.toList i):=by
       show _=_
       unfold cJ;rw [qG s i hi,jE,if_pos HM.out,decide_eq_false h1];simp
      have mX:((i:Int) == (s.size:Int) - 1)=true:=by simp;omega
      clear h0;go_enter Tryz.func140,Tryz.ntmps140;go_wp2_with (first | (go_at_call 178;refine (qO s[i] _).mono ?_;rintro e w' ⟨rfl,rfl⟩;rw [mq.out]) | (go_at_call 179;refine (xz s[i] _).mono ?_;rintro e w' ⟨rfl,rfl⟩;rw [HD.out]));refine (xQ s[i] _).mono ?_;rintro e w' ⟨rfl,rfl⟩;rw [HM.out];go_wp2;go_ret;exact ⟨zu HS.out,rfl⟩

theorem zaZ (s:ByteArray) (w:World) (hs:s.size <= maxLen):Calls Tryz.prog 89 #[.string s] w fun e w'=>(∃ p:Int,e = .returned (.tuple #[.int .i64 p,.int .i64 (ckE s.data.toList)]))/\w'=w:=by
 unfold maxLen at hs;by_cases h0:s.size=0
 ·have mF:((s.size:Int) == 0)=true:=by simpa using h0
  have HE:Hid (ckE s.data.toList=20):=by show _=_;unfold ckE;rw [jE,if_pos h0]
  go_enter Tryz.func89,Tryz.ntmps89;go_wp2;go_ret2;exact ⟨⟨0,jK rfl HE.out.symm⟩,rfl⟩
 have mF:((s.size:Int) == 0)=false:=by simpa using h0
 by_cases h24:24 < s.size
 ·have HE:Hid (ckE s.data.toList=21):=by show _=_;unfold ckE;rw [jE,if_neg h0,if_pos h24]
  have AQ:(24:Int) < s.size:=by omega
  clear h0;go_enter Tryz.func89,Tryz.ntmps89;go_wp2;go_ret2;exact ⟨⟨0,jK rfl HE.out.symm⟩,rfl⟩
 have AQ:¬ (24:Int) < s.size:=by omega
 have HE:Hid (ckE s.data.toList=if eY s.data.toList s.size=true then 0 else 22):=by show _=_;unfold ckE;rw [jE,if_neg h0,if_neg h24]
 clear h0;go_enter Tryz.func89,Tryz.ntmps89;go_wp2;go_loop [4] (fun i=>∃ k:Nat,k <= s.size/\i = .int .i64 k/\Hid (eY s.data.toList k=true)) (fun i=>s.size - (intOf i).toNat)
 case atStart=>exact ⟨0,Nat.zero_le _,rfl,rfl⟩
 case round =>
  obtain ⟨k,hk,rfl,HK⟩:=hrel;by_cases ak:k < s.size
  ·cases a8:cJ s.data.toList k with
   | true =>
    have pJ:=hide a8;clear a8;go_wp2_with (go_at_call 140;refine (kE s k _ ak (by omega)).mono ?_;rintro e w' ⟨rfl,rfl⟩;rw [pJ.out]);go_round
    case rel=>exact ⟨k+1,by omega,by go_num,by show _=_;rw [wK,HK.out,pJ.out];rfl⟩
    case measure=>simp [intOf];omega
   | false =>
    have pJ:=hide a8;clear a8
    have HF:Hid (ckE s.data.toList=22):=by show _=_;rw [HE.out,zaO _ k _ ak pJ.out];rfl
    go_wp2_with (go_at_call 140;refine (kE s k _ ak (by omega)).mono ?_;rintro e w' ⟨rfl,rfl⟩;rw [pJ.out]);go_ret2;exact ⟨⟨k,jK rfl HF.out.symm⟩,rfl⟩
  ·obtain rfl:k=s.size:=by omega
   have HF:Hid (ckE s.data.toList=0):=by show _=_;rw [HE.out,if_pos HK.out]
   go_wp2;go_ret2;exact ⟨⟨0,jK rfl HF.out.symm⟩,rfl⟩
theorem wRq (s:ByteArray) (w:World) (hs:s.size <= maxLen):Calls Tryz.prog 48 #[.string s] w fun e w'=>e = .returned (.bool (fG s.data.toList))/\w'=w:=by
 have HS:=hide hs;clear hs;go_enter Tryz.func48,Tryz.ntmps48;go_wp2_with (go_at_call 89;refine (zaZ s _ HS.out).mono ?_;rintro e w' ⟨⟨p,rfl⟩,rfl⟩);go_ret;exact ⟨rfl,rfl⟩
end
end Go.Proofs.YtjffpimfngdggaaGreat.K
