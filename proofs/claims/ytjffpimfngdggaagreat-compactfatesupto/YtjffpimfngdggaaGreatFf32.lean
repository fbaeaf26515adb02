import Derived.Deep.CutRange
import Derived.Test.YtjffpimfngdggaaGreatFf31
set_option maxRecDepth 100000
set_option maxHeartbeats 3200000
namespace Go.Proofs.YtjffpimfngdggaaGreat
section
open Go.RowKit
attribute [local go_sem ↓] qf qe
attribute [local go_sem] zL zS qg
variable {w w' w2 W W' : World} {g : Nat}

def rcC (s d:Rc):Int:=ck (rck s) (rck d)
theorem zck (a b:Rc) (w:World) (hA:cM w a) (hB:cM w b) (fa:ag a.p.P) (fb:ag b.p.P):Calls Tryz.prog 112 #[ReV (mkR a),ReV (mkR b)] w fun e w'=>e = .returned (.int .i64 (rcC a b))/\Below w.heap.size w w':=by
 refine (ja a b w hA hB).mono ?_;rintro e w' ⟨z,rfl,hz,hb⟩;exact ⟨by rw [zcz fa fb hz];rfl,hb⟩
def oN (L:List Rc) (d:Rc) (n i:Nat):Prop:=i <= n/\(∀ j,j < i -> rcC (L.getD j rc0) d < 0)/\(i < n -> 0 <= rcC (L.getD i rc0) d)
def BsC (w w':World) (e:Ending) (L:List Rc) (d:Rc) (n:Nat):Prop:=∃ (i:Nat) (b:Bool),e = .returned (.tuple #[.int .i64 (i:Int),.bool b])/\oN L d n i/\(b=true↔i < n/\rcC (L.getD i rc0) d=0)/\Below w.heap.size w w'
theorem ziY (ao:Option Addr) (n cap:Nat) (L:List Rc) (d:Rc) (w:World) (hS:RcS w ao n cap L) (hd:cM w d) (hf:∀ r∈L,ag r.p.P) (hfd:ag d.p.P) (hm:∀ a b,a <= b -> b < n -> rcC (L.getD b rc0) d < 0 -> rcC (L.getD a rc0) d < 0) :
  Calls Tryz.prog 175 #[.slice ao n cap,ReV (mkR d),.func (.func 112) #[] #[]] w fun e w'=>BsC w w' e L d n:=by
 have DL:∀ (args:Array Value) (w:World),(callFunc 112 args).run Tryz.prog w = .ok (.enter 112 args) w:=fun _ _=>rfl;have b1:=ze w (.cells (ReC (mkR d)) 78);have x1:=qi w (mkR d);obtain ⟨w1,cF⟩:∃ w1,w.alloc (.cells (ReC (mkR d)) 78)=w1:=⟨_,rfl⟩;obtain ⟨g1,cP⟩:∃ g1,w.heap.size=g1:=⟨_,rfl⟩;rw [cF] at b1 x1;rw [cP] at x1;have aM:=hide b1;have HX:Hid (cg w1 g1 (mkR d)/\RcS w1 ao n cap L):=⟨x1,hS.below b1⟩;have HD:Hid (cM w1 d/\ag d.p.P/\∀ r∈L,ag r.p.P):=⟨hd.below b1,hfd,hf⟩;have eT:Hid (L.length=n):=hS.len;have lL:n <= 2199023255552:=hS.big;have HM:=hide hm;clear b1 x1 hS hm hd hf hfd;go_enter Tryz.func175,Tryz.ntmps175;go_wp2_with fail;clear cF cP;go_loopw [9,10] (fun a b wr=>∃ (lo hi:Nat),a = .int .i64 (lo:Int)/\b = .int .i64 (hi:Int)/\lo <= hi/\hi <= n/\Hid (Below w1.heap.size w1 wr/\(∀ j,j < lo -> rcC (L.getD j rc0) d < 0)/\(hi < n -> 0 <= rcC (L.getD hi rc0) d))) (fun a b _=>(intOf b).toNat - (intOf a).toNat)
 case atStart=>exact ⟨0,n,rfl,rfl,Nat.zero_le _,Nat.le_refl _,Below.refl _ _,(fun j hj=>by omega),fun h=>by omega⟩
 case round =>
  obtain ⟨lo,hi,rfl,rfl,FW,nq,HI⟩:=hrel
  rename World=>wr
  by_cases ak:lo < hi
  ·have aX:(lo:Int) < (hi:Int):=by omega
   obtain ⟨h,hh⟩:∃ h:Nat,(lo+hi) / 2=h:=⟨_,rfl⟩
   have p7:lo <= 2199023255552:=by omega
   have Fo:hi <= 2199023255552:=by omega
   obtain ⟨t,ht⟩:∃ t:Nat,lo+hi=t:=⟨_,rfl⟩
   have et:(lo:Int)+(hi:Int)=(t:Int):=by omega
   have e2:(t:Int) / 2=(h:Int):=by omega
   have e3:t / 2=h:=by omega
   have HH:Hid (lo <= h/\h < hi/\h < n):=⟨by omega,by omega,by omega⟩
   have E8:t <= 20000000000000:=by omega
   obtain ⟨ad,rfl,A0⟩:=(HX.2.below HI.1).at h HH.2.2;obtain ⟨s,Hs⟩:∃ s,Hid (L.getD h rc0=s):=⟨_,rfl⟩
   have aB:Hid (∀ W,Below wr.heap.size wr W -> (dY (.pointer (some (ad.add (h * 3))))).run Tryz.prog W = .ok (ReV (mkR s)) W/\(dY (.pointer (some ⟨g1,0,none⟩))).run Tryz.prog W = .ok (ReV (mkR d)) W):=fun W hW=>by
    obtain ⟨ad',e',A1⟩:=((HX.2.below HI.1).below hW).at h HH.2.2;obtain rfl:=Option.some.inj e';rw [Hs.out] at A1;exact ⟨zC A1,qK ((HX.1.below HI.1).below hW)⟩
   have As:(h:Int) < (n:Int):=by have:=HH.out;omega
   have C0:Hid (cM wr s):=by rw [<- Hs.out];exact (HX.2.below HI.1).okAt h HH.2.2
   have re:Hid (ag s.p.P):=by rw [<- Hs.out];exact HD.2.2 _ (x6 (by rw [eT.out];exact HH.2.2))
   clear A0 hh ht;go_upto_region 5 with fail;clear et e2 e3;refine wp_region_held_drew (S:=fun W=>(dY (.pointer (some (ad.add (h * 3))))).run Tryz.prog W = .ok (ReV (mkR s)) W/\(dY (.pointer (some ⟨g1,0,none⟩))).run Tryz.prog W = .ok (ReV (mkR d)) W) (by kernel_rfl) (aB.out _ (zf wr)) (fun hHeld=>?_);refine wU 0 ?_;refine wU 1 ?_;refine wU 2 ?_;refine wU 3 ?_;refine wU 4 ?_;refine wU 5 ?_;refine wR 6 fun K hK=>?_;go_simp;go_wp2_with fail;refine (zck s d _ (C0.below (zf wr)) ((HD.1.below HI.1).below (zf wr)) re.out HD.2.1).mono ?_;rintro e w3 ⟨rfl,b3⟩;have eo:Below wr.heap.size wr w3:=(zf wr).trans b3;have aw:=hide (HI.1.trans (eo.mono HI.1.size));refine hK.out _ _ (aB.out _ eo) (fun hHeld=>?_);clear hK K b3 eo;obtain ⟨z,hz⟩:∃ z,rcC s d=z:=⟨_,rfl⟩
   rw [hz];refine wU 7 ?_;refine wD ?_ _;clear hHeld;by_cases cY:z < 0
   ·have HN:Hid (∀ j,j < h+1 -> rcC (L.getD j rc0) d < 0):=fun j hj=>HM.out j h (by omega) HH.2.2 (by rw [Hs.out,hz];exact cY);clear hz;go_wp2_with fail;go_roundw
    case rel=>exact ⟨h+1,hi,by simp,rfl,by have:=HH.out;omega,nq,aw.out,HN.out,HI.2.2⟩
    case measure=>simp [intOf];have:=HH.out;omega
   ·have HN:Hid (h < n -> 0 <= rcC (L.getD h rc0) d):=fun _=>by rw [Hs.out,hz];omega
    clear hz;go_wp2_with fail;go_roundw
    case rel=>exact ⟨lo,h,rfl,rfl,HH.1,by have:=HH.out;omega,aw.out,HI.2.1,HN.out⟩
    case measure=>simp [intOf];have:=HH.out;omega
  ·have aX:¬ (lo:Int) < (hi:Int):=by omega
   obtain rfl:lo=hi:=by omega
   have HF:Hid (oN L d n lo):=⟨nq,HI.2.1,HI.2.2⟩;have fU:=wTr aM HI.1;by_cases iv:lo < n
   ·have mf:(lo:Int) < (n:Int):=by omega
    obtain ⟨ad,rfl,A0⟩:=(HX.2.below HI.1).at lo iv;obtain ⟨s,Hs⟩:∃ s,Hid (L.getD lo rc0=s):=⟨_,rfl⟩
    have aB:Hid (∀ W,Below wr.heap.size wr W -> (dY (.pointer (some (ad.add (lo * 3))))).run Tryz.prog W = .ok (ReV (mkR s)) W/\(dY (.pointer (some ⟨g1,0,none⟩))).run Tryz.prog W = .ok (ReV (mkR d)) W):=fun W hW=>by
     obtain ⟨ad',e',A1⟩:=((HX.2.below HI.1).below hW).at lo iv;obtain rfl:=Option.some.inj e';rw [Hs.out] at A1;exact ⟨zC A1,qK ((HX.1.below HI.1).below hW)⟩
    have C0:Hid (cM wr s):=by rw [<- Hs.out];exact (HX.2.below HI.1).okAt lo iv
    have re:Hid (ag s.p.P):=by rw [<- Hs.out];exact HD.2.2 _ (x6 (by rw [eT.out];exact iv))
    clear A0;go_upto_region 8 with fail;refine wp_region_held_drew (S:=fun W=>(dY (.pointer (some (ad.add (lo * 3))))).run Tryz.prog W = .ok (ReV (mkR s)) W/\(dY (.pointer (some ⟨g1,0,none⟩))).run Tryz.prog W = .ok (ReV (mkR d)) W) (by kernel_rfl) (aB.out _ (zf wr)) (fun hHeld=>?_);refine wU 0 ?_;refine wU 1 ?_;refine wU 2 ?_;refine wU 3 ?_;refine wU 4 ?_;refine wU 5 ?_;refine wU 6 ?_;refine wU 7 ?_;refine wU 8 ?_;refine wU 9 ?_;refine wU 10 ?_;refine wR 11 fun K hK=>?_;go_simp;go_wp2_with fail;refine (zck s d _ (C0.below (zf wr)) ((HD.1.below HI.1).below (zf wr)) re.out HD.2.1).mono ?_;rintro e w3 ⟨rfl,b3⟩;have eo:Below wr.heap.size wr w3:=(zf wr).trans b3;have aw:=wTr fU eo;refine hK.out _ _ (aB.out _ eo) (fun hHeld=>?_)
    clear hK K b3 eo;obtain ⟨z,hz⟩:∃ z,rcC s d=z:=⟨_,rfl⟩;rw [hz]
    have IY:Hid (rcC (L.getD lo rc0) d=z):=by show _=_;rw [Hs.out];exact hz
    clear hz;refine wU 14 ?_;refine wU 12 ?_;refine wU 13 ?_;refine wU 15 ?_;refine wD ?_ _;clear hHeld;go_wp2_with fail;go_ret2;exact ⟨lo,_,rfl,HF.out,by rw [IY.out];simp [iv],aw.out⟩
   ·have mf:¬ (lo:Int) < (n:Int):=by omega
    go_upto_region 8 with fail;refine wp_region_held_drew (S:=fun _=>True) (by kernel_rfl) (trivial) (fun hHeld=>?_);refine wU 0 ?_;refine wU 1 ?_;refine wU 2 ?_;refine wU 3 ?_;refine wU 4 ?_;refine wV 5 ?_;refine wV 6 ?_;refine wV 7 ?_;refine wV 8 ?_;refine wV 9 ?_;refine wV 10 ?_;refine wV 11 ?_;refine wV 12 ?_;refine wU 14 ?_;refine wU 13 ?_;refine wU 15 ?_;refine wD ?_ _;clear hHeld;go_wp2_with fail;go_ret2;exact ⟨lo,_,rfl,HF.out,by simp [iv],tmq fU (zf wr)⟩
end
section
open Go.RowKit
theorem zaC {α : Type} {A B:List α} {n k:Nat} (ha:A.length=n) (hb:B.length=n) (hk:¬ k < n) (h:A.take k=B.take k):A=B:=by
 rw [List.take_of_length_le (by omega),List.take_of_length_le (by omega)] at h;exact h
theorem yY (L:List K.En) (k:Nat) (h:k < L.length):L.take (k+1)=L.take k++[L.getD k K.en0]:=by
 rw [List.take_succ_eq_append_getElem h];simp [List.getD,h]
attribute [local go_sem ↓] zq zp x9 K.zy K.zx zP zO qf qe
attribute [local go_sem] zi zk zI K.zu K.zH K.zJ zl zr zv zL zS qg
theorem zhk (ao bo:Option Addr) (n c m d:Nat) (A B:List K.En) (w:World) (hA:K.aD w ao n c A) (hB:K.aD w bo m d B):Calls Tryz.prog 125 #[.slice ao n c,.slice bo m d] w fun e w'=>fP w w' e (A=B):=by
 have HA:=hide hA;have HB:=hide hB;have mU:Hid (A.length=n):=hA.1;have nk:Hid (B.length=m):=hB.1
 have CS:n <= 17592186044415:=by have:=hA.2.2.2.2;omega
 clear hA hB;by_cases hv:n=m;rotate_left
 ·have d1:((n:Int) != (m:Int))=true:=by simp;omega
  have ek:Hid (¬ A=B):=fun h=>hv (by rw [<- mU.out,<- nk.out,h]);clear hv;go_enter Tryz.func125,Tryz.ntmps125;go_wp2_with fail;go_ret;exact ⟨false,rfl,BIf.no ek,Below.refl _ _⟩
 subst hv;go_enter Tryz.func125,Tryz.ntmps125;go_wp2_with fail;go_loopw [5,13] (fun _ i wr=>∃ k:Nat,k <= n/\i = .int .i64 (k:Int)/\Hid (A.take k=B.take k/\Below w.heap.size w wr)) (fun _ i _=>n - (intOf i).toNat)
 case atStart=>exact ⟨0,Nat.zero_le _,rfl,rfl,Below.refl _ _⟩
 case round =>
  obtain ⟨k,hk,rfl,HK⟩:=hrel
  rename World=>wr
  by_cases ak:k < n
  ·have aX:(k:Int) < (n:Int):=by omega
   obtain ⟨ad,rfl,-⟩:=K.aD.at (HA.below HK.2) k ak;obtain ⟨bd,rfl,-⟩:=K.aD.at (HB.below HK.2) k ak;have t1:=hide (yY A k (by rw [mU.out];exact ak));have t2:=hide (yY B k (by rw [nk.out];exact ak));have aK:=hide ak;obtain ⟨x,Hx⟩:∃ x,Hid (A.getD k K.en0=x):=⟨_,rfl⟩;obtain ⟨y,Hy⟩:∃ y,Hid (B.getD k K.en0=y):=⟨_,rfl⟩;rw [Hx.out] at t1;rw [Hy.out] at t2
   have aB:Hid (∀ W,Below wr.heap.size wr W -> (K.dJ (.pointer (some (ad.add (k * 4))))).run Tryz.prog W = .ok (K.EV x) W/\(K.dJ (.pointer (some (bd.add (k * 4))))).run Tryz.prog W = .ok (K.EV y) W):=fun W hW=>by
    obtain ⟨ad',e1,A1⟩:=K.aD.at ((HA.below HK.2).below hW) k aK.out;obtain ⟨bd',e2,B1⟩:=K.aD.at ((HB.below HK.2).below hW) k aK.out;obtain rfl:=Option.some.inj e1;obtain rfl:=Option.some.inj e2;rw [Hx.out] at A1;rw [Hy.out] at B1;exact ⟨K.zB A1,K.zB B1⟩
   have gZ:=hide (HK.2.trans ((zf wr).mono HK.2.size));clear ak hk;by_cases he:x=y
   ·have leq:∀ W:World,(Op.equalIn 10000 50 (K.EV x) (K.EV y)).run Tryz.prog W = .ok true W:=fun W=>(K.qB x y W).trans (congrArg (fun b=>Result.ok b W) ((K.zdq x y).2 he));have HN:Hid (A.take (k+1)=B.take (k+1)/\Below w.heap.size w wr.drew):=⟨by rw [t1.out,t2.out,HK.1,he],gZ.out⟩;clear he;go_upto_region 6 with fail;refine wp_region_held_drew (S:=fun W=>(K.dJ (.pointer (some (ad.add (k * 4))))).run Tryz.prog W = .ok (K.EV x) W/\(K.dJ (.pointer (some (bd.add (k * 4))))).run Tryz.prog W = .ok (K.EV y) W) (by kernel_rfl) (aB.out _ (zf wr)) (fun hHeld=>?_);refine wU 0 ?_;refine wU 1 ?_;refine wU 2 ?_;refine wU 3 ?_;refine wU 4 ?_;refine wU 5 ?_;refine wU 6 ?_;refine wU 7 ?_;refine wU 8 ?_;refine wD ?_ _;clear hHeld;clear leq;go_wp2_with fail;go_roundw
    case rel=>exact ⟨k+1,aK.out,by simp,HN.out⟩
    case measure=>simp [intOf];have:=aK.out;omega
   ·have leq:∀ W:World,(Op.equalIn 10000 50 (K.EV x) (K.EV y)).run Tryz.prog W = .ok false W:=fun W=>(K.qB x y W).trans (congrArg (fun b=>Result.ok b W) (Bool.eq_false_iff.2 fun h=>he ((K.zdq x y).1 h)));have ek:Hid (¬ A=B):=fun h=>he (by rw [<- Hx.out,<- Hy.out,h]);clear he;go_upto_region 6 with fail;refine wp_region_held_drew (S:=fun W=>(K.dJ (.pointer (some (ad.add (k * 4))))).run Tryz.prog W = .ok (K.EV x) W/\(K.dJ (.pointer (some (bd.add (k * 4))))).run Tryz.prog W = .ok (K.EV y) W) (by kernel_rfl) (aB.out _ (zf wr)) (fun hHeld=>?_);refine wU 0 ?_;refine wU 1 ?_;refine wU 2 ?_;refine wU 3 ?_;refine wU 4 ?_;refine wU 5 ?_;refine wU 6 ?_;refine wU 7 ?_;refine wU 8 ?_;refine wD ?_ _;clear hHeld;clear leq;go_wp2_with fail;go_ret;exact ⟨false,rfl,BIf.no ek,gZ.out⟩
  ·have aX:¬ (k:Int) < (n:Int):=by omega
   have HE:Hid (A=B):=zaC mU.out nk.out ak HK.1;have cu:=hide HK.2;clear ak hk;go_wp2_with fail;go_ret;exact ⟨true,rfl,BIf.yes HE,cu.out⟩
theorem zhj (ao bo:Option Addr) (n c m d:Nat) (A B:List Int) (w:World) (hn:n <= 17592186044415) (hA:V.Src w ao n c A) (hB:V.Src w bo m d B):Calls Tryz.prog 171 #[.slice ao n c,.slice bo m d] w fun e w'=>fP w w' e (A=B):=by
 have HA:=hide hA;have HB:=hide hB;have mU:Hid (A.length=n):=hA.1;have nk:Hid (B.length=m):=hB.1;clear hA hB;by_cases hv:n=m;rotate_left
 ·have d1:((n:Int) != (m:Int))=true:=by simp;omega
  have ek:Hid (¬ A=B):=fun h=>hv (by rw [<- mU.out,<- nk.out,h]);clear hv;go_enter Tryz.func171,Tryz.ntmps171;go_wp2_with fail;go_ret;exact ⟨false,rfl,BIf.no ek,Below.refl _ _⟩
 subst hv;go_enter Tryz.func171,Tryz.ntmps171;go_wp2_with fail;go_loopw [5,13] (fun _ i wr=>∃ k:Nat,k <= n/\i = .int .i64 (k:Int)/\Hid (A.take k=B.take k/\Below w.heap.size w wr)) (fun _ i _=>n - (intOf i).toNat)
 case atStart=>exact ⟨0,Nat.zero_le _,rfl,rfl,Below.refl _ _⟩
 case round =>
  obtain ⟨k,hk,rfl,HK⟩:=hrel
  rename World=>wr
  by_cases ak:k < n
  ·have aX:(k:Int) < (n:Int):=by omega
   obtain ⟨ad,rfl,-⟩:=vA (HA.below HK.2) k ak;obtain ⟨bd,rfl,-⟩:=vA (HB.below HK.2) k ak;have t1:=hide (kd A k (by rw [mU.out];exact ak));have t2:=hide (kd B k (by rw [nk.out];exact ak));have aK:=hide ak;obtain ⟨x,Hx⟩:∃ x,Hid (A.getD k 0=x):=⟨_,rfl⟩;obtain ⟨y,Hy⟩:∃ y,Hid (B.getD k 0=y):=⟨_,rfl⟩;rw [Hx.out] at t1;rw [Hy.out] at t2
   have aB:Hid (∀ W,Below wr.heap.size wr W -> W.cell? (ad.add k)=some (.int .i64 x)/\W.cell? (bd.add k)=some (.int .i64 y)):=fun W hW=>by
    obtain ⟨ad',e1,A1⟩:=vA ((HA.below HK.2).below hW) k aK.out;obtain ⟨bd',e2,B1⟩:=vA ((HB.below HK.2).below hW) k aK.out;obtain rfl:=Option.some.inj e1;obtain rfl:=Option.some.inj e2;rw [Hx.out] at A1;rw [Hy.out] at B1;exact ⟨A1,B1⟩
   have gZ:=hide (HK.2.trans ((zf wr).mono HK.2.size));clear ak hk;by_cases he:x=y
   ·have leq:(x != y)=false:=by simp [he]
    have HN:Hid (A.take (k+1)=B.take (k+1)/\Below w.heap.size w wr.drew):=⟨by rw [t1.out,t2.out,HK.1,he],gZ.out⟩;clear he;go_upto_region 6 with fail;refine wp_region_held_drew (S:=fun W=>W.cell? (ad.add k)=some (.int .i64 x)/\W.cell? (bd.add k)=some (.int .i64 y)) (by kernel_rfl) (aB.out _ (zf wr)) (fun hHeld=>?_);refine wU 0 ?_;refine wU 1 ?_;refine wU 2 ?_;refine wU 3 ?_;refine wU 4 ?_;refine wU 5 ?_;refine wU 6 ?_;refine wU 7 ?_;refine wU 8 ?_;refine wD ?_ _;clear hHeld;clear leq;go_wp2_with fail;go_roundw
    case rel=>exact ⟨k+1,aK.out,by simp,HN.out⟩
    case measure=>simp [intOf];have:=aK.out;omega
   ·have leq:(x != y)=true:=by simp [he]
    have ek:Hid (¬ A=B):=fun h=>he (by rw [<- Hx.out,<- Hy.out,h]);clear he;go_upto_region 6 with fail;refine wp_region_held_drew (S:=fun W=>W.cell? (ad.add k)=some (.int .i64 x)/\W.cell? (bd.add k)=some (.int .i64 y)) (by kernel_rfl) (aB.out _ (zf wr)) (fun hHeld=>?_);refine wU 0 ?_;refine wU 1 ?_;refine wU 2 ?_;refine wU 3 ?_;refine wU 4 ?_;refine wU 5 ?_;refine wU 6 ?_;refine wU 7 ?_;refine wU 8 ?_;refine wD ?_ _;clear hHeld;clear leq;go_wp2_with fail;go_ret;exact ⟨false,rfl,BIf.no ek,gZ.out⟩
  ·have aX:¬ (k:Int) < (n:Int):=by omega
   have HE:Hid (A=B):=zaC mU.out nk.out ak HK.1;have cu:=hide HK.2;clear ak hk;go_wp2_with fail;go_ret;exact ⟨true,rfl,BIf.yes HE,cu.out⟩
theorem zhh (ao bo:Option Addr) (n c m d:Nat) (A B:List Sn) (w:World) (hA:cR w ao n c A) (hB:cR w bo m d B):Calls Tryz.prog 172 #[.slice ao n c,.slice bo m d] w fun e w'=>fP w w' e (A=B):=by
 have HA:=hide hA;have HB:=hide hB;have mU:Hid (A.length=n):=hA.len;have nk:Hid (B.length=m):=hB.len
 have CS:n <= 17592186044415:=by have:=hA.big;omega
 clear hA hB;by_cases hv:n=m;rotate_left
 ·have d1:((n:Int) != (m:Int))=true:=by simp;omega
  have ek:Hid (¬ A=B):=fun h=>hv (by rw [<- mU.out,<- nk.out,h]);clear hv;go_enter Tryz.func172,Tryz.ntmps172;go_wp2_with fail;go_ret;exact ⟨false,rfl,BIf.no ek,Below.refl _ _⟩
 subst hv;go_enter Tryz.func172,Tryz.ntmps172;go_wp2_with fail;go_loopw [5,13] (fun _ i wr=>∃ k:Nat,k <= n/\i = .int .i64 (k:Int)/\Hid (A.take k=B.take k/\Below w.heap.size w wr)) (fun _ i _=>n - (intOf i).toNat)
 case atStart=>exact ⟨0,Nat.zero_le _,rfl,rfl,Below.refl _ _⟩
 case round =>
  obtain ⟨k,hk,rfl,HK⟩:=hrel
  rename World=>wr
  by_cases ak:k < n
  ·have aX:(k:Int) < (n:Int):=by omega
   obtain ⟨ad,rfl,-⟩:=cR.at (HA.below HK.2) k ak;obtain ⟨bd,rfl,-⟩:=cR.at (HB.below HK.2) k ak;have t1:=hide (j9 A k (by rw [mU.out];exact ak));have t2:=hide (j9 B k (by rw [nk.out];exact ak));have aK:=hide ak;obtain ⟨x,Hx⟩:∃ x,Hid (A.getD k sn0=x):=⟨_,rfl⟩;obtain ⟨y,Hy⟩:∃ y,Hid (B.getD k sn0=y):=⟨_,rfl⟩;rw [Hx.out] at t1;rw [Hy.out] at t2
   have aB:Hid (∀ W,Below wr.heap.size wr W -> (ldS (.pointer (some (ad.add (k * 3))))).run Tryz.prog W = .ok (SV x) W/\(ldS (.pointer (some (bd.add (k * 3))))).run Tryz.prog W = .ok (SV y) W):=fun W hW=>by
    obtain ⟨ad',e1,A1⟩:=cR.at ((HA.below HK.2).below hW) k aK.out;obtain ⟨bd',e2,B1⟩:=cR.at ((HB.below HK.2).below hW) k aK.out;obtain rfl:=Option.some.inj e1;obtain rfl:=Option.some.inj e2;rw [Hx.out] at A1;rw [Hy.out] at B1;exact ⟨qk A1,qk B1⟩
   have gZ:=hide (HK.2.trans ((zf wr).mono HK.2.size));clear ak hk;by_cases he:x=y
   ·have leq:∀ W:World,(Op.equalIn 10000 104 (SV x) (SV y)).run Tryz.prog W = .ok true W:=fun W=>(zb7 x y W).trans (congrArg (fun b=>Result.ok b W) ((zcv x y).2 he));have HN:Hid (A.take (k+1)=B.take (k+1)/\Below w.heap.size w wr.drew):=⟨by rw [t1.out,t2.out,HK.1,he],gZ.out⟩;clear he;go_upto_region 6 with fail;refine wp_region_held_drew (S:=fun W=>(ldS (.pointer (some (ad.add (k * 3))))).run Tryz.prog W = .ok (SV x) W/\(ldS (.pointer (some (bd.add (k * 3))))).run Tryz.prog W = .ok (SV y) W) (by kernel_rfl) (aB.out _ (zf wr)) (fun hHeld=>?_);refine wU 0 ?_;refine wU 1 ?_;refine wU 2 ?_;refine wU 3 ?_;refine wU 4 ?_;refine wU 5 ?_;refine wU 6 ?_;refine wU 7 ?_;refine wU 8 ?_;refine wD ?_ _;clear hHeld;clear leq;go_wp2_with fail;go_roundw
    case rel=>exact ⟨k+1,aK.out,by simp,HN.out⟩
    case measure=>simp [intOf];have:=aK.out;omega
   ·have leq:∀ W:World,(Op.equalIn 10000 104 (SV x) (SV y)).run Tryz.prog W = .ok false W:=fun W=>(zb7 x y W).trans (congrArg (fun b=>Result.ok b W) (Bool.eq_false_iff.2 fun h=>he ((zcv x y).1 h)));have ek:Hid (¬ A=B):=fun h=>he (by rw [<- Hx.out,<- Hy.out,h]);clear he;go_upto_region 6 with fail;refine wp_region_held_drew (S:=fun W=>(ldS (.pointer (some (ad.add (k * 3))))).run Tryz.prog W = .ok (SV x) W/\(ldS (.pointer (some (bd.add (k * 3))))).run Tryz.prog W = .ok (SV y) W) (by kernel_rfl) (aB.out _ (zf wr)) (fun hHeld=>?_);refine wU 0 ?_;refine wU 1 ?_;refine wU 2 ?_;refine wU 3 ?_;refine wU 4 ?_;refine wU 5 ?_;refine wU 6 ?_;refine wU 7 ?_;refine wU 8 ?_;refine wD ?_ _;clear hHeld;clear leq;go_wp2_with fail;go_ret;exact ⟨false,rfl,BIf.no ek,gZ.out⟩
  ·have aX:¬ (k:Int) < (n:Int):=by omega
   have HE:Hid (A=B):=zaC mU.out nk.out ak HK.1;have cu:=hide HK.2;clear ak hk;go_wp2_with fail;go_ret;exact ⟨true,rfl,BIf.yes HE,cu.out⟩
theorem yQ (a b:Pv) (w:World) (hA:am w a) (hB:am w b):Calls Tryz.prog 126 #[PV a,PV b] w fun e w'=>fP w w' e (a.P=b.P):=by
 have b1:=ze w (.cells (PC a) 26);have b2:=ze (w.alloc (.cells (PC a) 26)) (.cells (PC b) 26);have p2:=zm (w.alloc (.cells (PC a) 26)) b;rw [World.size_alloc] at p2;have lX:=hide ((zm w a).below b2);have i9:=hide p2;have al:=hide (tmq b1 b2);have iu:=hide (hA.below al);have gC:=hide (hB.below al);obtain ⟨wk,aL⟩:∃ wk,(w.alloc (.cells (PC a) 26)).alloc (.cells (PC b) 26)=wk:=⟨_,rfl⟩;obtain ⟨G,cK⟩:∃ G,w.heap.size=G:=⟨_,rfl⟩;rw [aL] at lX i9 al iu gC;rw [cK] at lX i9;obtain ⟨a0,a1⟩:=lX.nums;obtain ⟨c0,c1⟩:=i9.nums;clear b1 b2 p2 hA hB;go_enter Tryz.func126,Tryz.ntmps126;go_wp2_with fail;clear aL cK a0 a1 c0 c1;refine (zhj a.vo b.vo a.vn a.vc b.vn b.vc a.P.vec b.P.vec _ iu.big iu.vec gC.vec).mono ?_;rintro e w3 ⟨v,rfl,hv,b3⟩;have aw:=hide b3
 obtain ⟨a0,a1⟩:=(lX.below b3).nums;obtain ⟨c0,c1⟩:=(i9.below b3).nums;clear b3
 cases v with
 | false =>
  have ek:Hid (¬ a.P=b.P):=fun h=>by have:=hv.2 (congrArg Pst.vec h);cases this
  have HE:=wTr al aw.out;clear hv a0 a1 c0 c1;go_wp2_with fail;go_ret;exact ⟨false,rfl,BIf.no ek,HE.out⟩
 | true =>
 have HV:=hide (hv.1 rfl);clear hv;go_wp2_with fail;clear a0 a1 c0 c1;refine (zhh a.co b.co a.cn a.cc b.cn b.cc a.P.cloud b.P.cloud _ (iu.below aw).cloud (gC.below aw).cloud).mono ?_;rintro e w4 ⟨v,rfl,hv,b4⟩;have HE:=hide (tmq al (aw.trans (b4.mono aw.size)))
 have HQ:Hid (BIf v (a.P=b.P)):=⟨fun h=>by
  have h1:=HV.out;have h2:=hv.1 h
  cases hp:a.P
  cases hq:b.P
  rw [hp,hq] at h1 h2;simp only at h1 h2
  rw [h1,h2],fun h=>hv.2 (congrArg Pst.cloud h)⟩
 clear hv b4;go_wp2_with fail;go_ret;exact ⟨v,rfl,HQ.out,HE.out⟩
theorem bX (a b:Rc) (w:World) (hA:cM w a) (hB:cM w b) (fa:ag a.p.P) (fb:ag b.p.P):Calls Tryz.prog 128 #[ReV (mkR a),ReV (mkR b)] w fun e w'=>e = .returned (.bool (decide (rcC a b=0)))/\Below w.heap.size w w':=by
 have b1:=ze w (.cells (ReC (mkR a)) 78);have b2:=ze (w.alloc (.cells (ReC (mkR a)) 78)) (.cells (ReC (mkR b)) 78);have X2:=qi (w.alloc (.cells (ReC (mkR a)) 78)) (mkR b);rw [World.size_alloc] at X2;have dT:=hide ((qi w (mkR a)).below b2);have eN:=hide X2;have al:=hide (tmq b1 b2);have iu:=hide (hA.below al);have gC:=hide (hB.below al);have HF:Hid (ag a.p.P/\ag b.p.P):=⟨fa,fb⟩;clear b1 b2 X2 hA hB fa fb;obtain ⟨wk,aL⟩:∃ wk,(w.alloc (.cells (ReC (mkR a)) 78)).alloc (.cells (ReC (mkR b)) 78)=wk:=⟨_,rfl⟩;obtain ⟨G,hG⟩:∃ G,w.heap.size=G:=⟨_,rfl⟩;rw [aL] at dT eN al iu gC;rw [hG] at dT eN;have l1:=qK dT.out;have l2:=qK eN.out;go_enter Tryz.func128,Tryz.ntmps128;go_wp2_with fail;clear aL hG l1 l2;refine (zck a b _ iu.out gC.out HF.1 HF.2).mono ?_
 rintro e w3 ⟨rfl,b3⟩;have HE:=wTr al b3;clear b3;obtain ⟨z,hz⟩:∃ z,rcC a b=z:=⟨_,rfl⟩;rw [hz];go_wp2_with fail;go_ret;exact ⟨by rw [hz];rfl,HE.out⟩
theorem zcm {A B:List Rc} {n k:Nat} (ha:A.length=n) (hb:B.length=n) (hk:¬ k < n) (h:plR (A.take k)=plR (B.take k)):plR A=plR B:=by
 rw [List.take_of_length_le (by omega),List.take_of_length_le (by omega)] at h;exact h
theorem zbq (L:List Rc) (k:Nat) (h:k < L.length):plR (L.take (k+1))=plR (L.take k)++[rck (L.getD k rc0)]:=by
 rw [kc L k h,yr]
theorem zdT {A B:List Rc} {k:Nat} (h:plR A=plR B) (ha:k < A.length) (hb:k < B.length):rck (A.getD k rc0)=rck (B.getD k rc0):=by
 have h1:(plR A)[k]? = (plR B)[k]?:=by rw [h]
 rw [vK,vK,List.getElem?_map,List.getElem?_map,List.getElem?_eq_getElem ha,List.getElem?_eq_getElem hb] at h1;simp only [Option.map_some,Option.some.injEq] at h1;rw [jW ha,jW hb,h1]
theorem zhi (ao bo:Option Addr) (n c m d:Nat) (A B:List Rc) (w:World) (hA:RcS w ao n c A) (hB:RcS w bo m d B) (fa:∀ r∈A,ag r.p.P) (fb:∀ r∈B,ag r.p.P):Calls Tryz.prog 127 #[.slice ao n c,.slice bo m d,.func (.func 128) #[] #[]] w fun e w'=>fP w w' e (plR A=plR B):=by
 have DL:∀ (args:Array Value) (w:World),(callFunc 128 args).run Tryz.prog w = .ok (.enter 128 args) w:=fun _ _=>rfl;have HA:=hide hA;have HB:=hide hB;have mU:Hid (A.length=n):=hA.len;have nk:Hid (B.length=m):=hB.len;have CS:=hA.big;have HF:Hid ((∀ r∈A,ag r.p.P)/\∀ r∈B,ag r.p.P):=⟨fa,fb⟩;clear hA hB fa fb;by_cases hv:n=m;rotate_left
 ·have d1:((n:Int) != (m:Int))=true:=by simp;omega
  have ek:Hid (¬ plR A=plR B):=fun h=>hv (by rw [<- mU.out,<- nk.out,<- jo A,h,jo]);clear hv;go_enter Tryz.func127,Tryz.ntmps127;go_wp2_with fail;go_ret;exact ⟨false,rfl,BIf.no ek,Below.refl _ _⟩
 subst hv;go_enter Tryz.func127,Tryz.ntmps127;go_wp2_with fail;go_loopw [7,8,9,17] (fun _ _ _ i wr=>∃ k:Nat,k <= n/\i = .int .i64 (k:Int)/\Hid (plR (A.take k)=plR (B.take k)/\Below w.heap.size w wr)) (fun _ _ _ i _=>n - (intOf i).toNat)
 case atStart=>exact ⟨0,Nat.zero_le _,rfl,rfl,Below.refl _ _⟩
 case round =>
  obtain ⟨k,hk,rfl,HK⟩:=hrel
  rename World=>wr
  by_cases ak:k < n
  ·have aX:(k:Int) < (n:Int):=by omega
   obtain ⟨ad,rfl,A0⟩:=(HA.below HK.2).at k ak;obtain ⟨bd,rfl,-⟩:=(HB.below HK.2).at k ak;have KR:=hide ((HA.below HK.2).okAt k ak);have J7:=hide ((HB.below HK.2).okAt k ak);have tk:Hid (ag (A.getD k rc0).p.P/\ag (B.getD k rc0).p.P):=⟨HF.1 _ (x6 (by rw [mU.out];exact ak)),HF.2 _ (x6 (by rw [nk.out];exact ak))⟩;have t1:=hide (zbq A k (by rw [mU.out];exact ak));have t2:=hide (zbq B k (by rw [nk.out];exact ak));have I3:Hid (rck (A.getD k rc0)≠rck (B.getD k rc0) -> ¬ plR A=plR B):=fun h1 h2=>h1 (zdT h2 (by rw [mU.out];exact ak) (by rw [nk.out];exact ak));have aK:=hide ak;obtain ⟨x,Hx⟩:∃ x,Hid (A.getD k rc0=x):=⟨_,rfl⟩;obtain ⟨y,Hy⟩:∃ y,Hid (B.getD k rc0=y):=⟨_,rfl⟩;rw [Hx.out] at A0 KR tk t1 I3;rw [Hy.out] at J7 tk t2 I3
   have dF:=zC A0;obtain ⟨g1,cP⟩:∃ g,wr.heap.size=g:=⟨_,rfl⟩;obtain ⟨w1,cd,X1,B1,-⟩:=gt wr (mkR x) g1 cP;have aM:=hide (HK.2.trans (B1.mono HK.2.size));have i6:=hide X1;have Gv:=hide (KR.below B1);have GW:=hide (J7.below B1);obtain ⟨bd',e2,B0⟩:=(HB.below aM).at k aK.out;obtain rfl:=Option.some.inj e2;rw [Hy.out] at B0;have tH:=zC B0;obtain ⟨g2,lV⟩:∃ g,w1.heap.size=g:=⟨_,rfl⟩;obtain ⟨w2,pM,X2,B2,-⟩:=gt w1 (mkR y) g2 lV;have cu:=wTr aM B2;have l1:=qK (i6.below B2);have l2:=qK X2;have Hd:=hide (Gv.below B2);have Gh:=hide (GW.below B2);clear A0 B0 X1 B1 X2 B2 e2 ak hk;go_wp2_with fail;clear dF tH cd pM cP lV l1 l2;refine (bX x y _ Hd.out Gh.out tk.1 tk.2).mono ?_;rintro e w3 ⟨rfl,b3⟩
   have aw:=wTr cu b3;clear b3;by_cases he:rcC x y=0
   ·have hd:decide (rcC x y=0)=true:=decide_eq_true he;have HN:Hid (plR (A.take (k+1))=plR (B.take (k+1))/\Below w.heap.size w w3):=⟨by rw [t1.out,t2.out,HK.1,(jS.eq _ _).1 he],aw.out⟩;clear he;rw [hd];clear hd;go_wp2_with fail;go_roundw
    case rel=>exact ⟨k+1,aK.out,by simp,HN.out⟩
    case measure=>simp [intOf];have:=aK.out;omega
   ·have hd:decide (rcC x y=0)=false:=decide_eq_false he;have ek:Hid (¬ plR A=plR B):=I3.out fun h=>he ((jS.eq _ _).2 h);clear he;rw [hd];clear hd;go_wp2_with fail;go_ret;exact ⟨false,rfl,BIf.no ek,aw.out⟩
  ·have aX:¬ (k:Int) < (n:Int):=by omega
   have HE:Hid (plR A=plR B):=zcm mU.out nk.out ak HK.1;have cu:=hide HK.2;clear ak hk;go_wp2_with fail;go_ret;exact ⟨true,rfl,BIf.yes HE,cu.out⟩
theorem y7 (a b:Fc) (w:World) (hA:aU w a) (hB:aU w b) (fa:∀ r∈a.rs,ag r.p.P) (fb:∀ r∈b.rs,ag r.p.P):Calls Tryz.prog 76 #[FaV (mkF a),FaV (mkF b)] w fun e w'=>fP w w' e (EqS a b):=by
 obtain ⟨wk,aL,HX,HY,al,-⟩:=pu w a b;obtain ⟨G,cK⟩:∃ G,w.heap.size=G:=⟨_,rfl⟩;rw [cK] at HX HY;have HA:=hide (hA.below al);have HB:=hide (hB.below al);have HF:Hid ((∀ r∈a.rs,ag r.p.P)/\∀ r∈b.rs,ag r.p.P):=⟨fa,fb⟩;obtain ⟨c0,-⟩:=HX.cs;obtain ⟨d0,-⟩:=HY.cs;clear hA hB fa fb;go_enter Tryz.func76,Tryz.ntmps76;go_wp2_with fail;clear aL cK c0 d0;refine (zhk a.ao b.ao a.an a.ac b.an b.ac a.es b.es _ HA.es HB.es).mono ?_;rintro e w3 ⟨v,rfl,hv,b3⟩;have aw:=hide b3;have lp:=zj (HX.below b3).past;have lq:=zj (HY.below b3).past;clear b3
 cases v with
 | false =>
  have ek:Hid (¬ EqS a b):=fun h=>by have:=hv.2 h.1;cases this
  have HE:=wTr al aw.out;clear hv lp lq;go_wp2_with fail;go_ret;exact ⟨false,rfl,BIf.no ek,HE.out⟩
 | true =>
 have HV:=hide (hv.1 rfl);clear hv;go_wp2_with fail;clear lp lq;refine (yQ a.p b.p _ (HA.p.below aw) (HB.p.below aw)).mono ?_;rintro e w4 ⟨v,rfl,hv,b4⟩;have aI:=wTr aw b4;obtain ⟨-,c3⟩:=(HX.below aI).cs;obtain ⟨-,d3⟩:=(HY.below aI).cs;clear b4
 cases v with
 | false =>
  have ek:Hid (¬ EqS a b):=fun h=>by have:=hv.2 h.2.1;cases this
  have HE:=wTr al aI.out;clear hv c3 d3;go_wp2_with fail;go_ret;exact ⟨false,rfl,BIf.no ek,HE.out⟩
 | true =>
 have HP:=hide (hv.1 rfl);clear hv;go_wp2_with fail;clear c3 d3;refine (zhi a.ro b.ro a.rn a.rc b.rn b.rc a.rs b.rs _ (HA.rs.below aI) (HB.rs.below aI) HF.1 HF.2).mono ?_;rintro e w5 ⟨v,rfl,hv,b5⟩;have HE:=hide (tmq al (aI.trans (b5.mono aI.size)));have HQ:Hid (BIf v (EqS a b)):=⟨fun h=>⟨HV.out,HP.out,hv.1 h⟩,fun h=>hv.2 h.2.2⟩;clear hv b5;go_wp2_with fail;go_ret;exact ⟨v,rfl,HQ.out,HE.out⟩
end
section
open Go.RowKit
theorem zaL {s t:Fc}:EqS s t↔ab s=ab t:=⟨fun h=>zf6 h.1 h.2.1 h.2.2,zjB⟩
theorem FmA.rp {s:Fc} (h:FmA (ab s)):∀ r∈s.rs,ag r.p.P:=fun r hr=>(h.r.1 (rck r) (List.mem_map.2 ⟨r,hr,rfl⟩)).2.1
def LeS (a b:Fc):Prop:=JnA (ab a) (ab b) (ab b)
def WiS (a b:Fc) (v:Bool) (er:Int):Prop:=(¬ (aQ a/\aQ b)/\er=1/\v=false)∨((aQ a/\aQ b)/\K.cI (a.es++b.es)/\er=10/\v=false)∨((aQ a/\aQ b)/\¬ K.cI (a.es++b.es)/\er=0/\BIf v (LeS a b))
def WiE (w w':World) (e:Ending) (a b:Fc):Prop:=∃ v er,e = .returned (.tuple #[.bool v,.int .i64 er])/\Below w.heap.size w w'/\WiS a b v er
def OrK (a b:Fc) (o:Int):Prop:=(LeS a b/\LeS b a/\o=0)∨(LeS a b/\¬ LeS b a/\o=1)∨(¬ LeS a b/\LeS b a/\o=2)∨(¬ LeS a b/\¬ LeS b a/\o=3)
def OrS (a b:Fc) (o er:Int):Prop:=(¬ (aQ a/\aQ b)/\er=1/\o=0)∨((aQ a/\aQ b)/\K.cI (a.es++b.es)/\er=10/\o=0)∨((aQ a/\aQ b)/\¬ K.cI (a.es++b.es)/\er=0/\OrK a b o)
def OrE (w w':World) (e:Ending) (a b:Fc):Prop:=∃ o er,e = .returned (.tuple #[.int .i64 o,.int .i64 er])/\Below w.heap.size w w'/\OrS a b o er
attribute [local go_sem ↓] zP zO
attribute [local go_sem] zl zr zv
theorem zb0 (N M:Nat) (hNM:N+M <= 4) (a b:Fc) (w:World) (hA:SwB N w a) (hB:SwB M w b):Calls Tryz.prog 38 #[FaV (mkF a),FaV (mkF b)] w fun e w'=>OrE w w' e a b:=by
 obtain ⟨wk,aL,HX,HY,al,-⟩:=pu w a b;obtain ⟨G,cK⟩:∃ G,w.heap.size=G:=⟨_,rfl⟩;rw [cK] at HX HY;have HA:=hide (hA.below al);have HB:=hide (hB.below al);have HN:=hide hNM;have l1:=qt HX.out;have l2:=qt HY.out;clear hA hB hNM;go_enter Tryz.func38,Tryz.ntmps38;go_wp2_with fail;clear aL cK l1 l2;refine (zdN N M HN.out a b _ HA.out HB).mono ?_;rintro e w3 ⟨s,er,rfl,BS,b3,DS⟩;obtain ⟨gj,Fb⟩:∃ g,w3.heap.size=g:=⟨_,rfl⟩;obtain ⟨w4,cd,X4,B4,-⟩:=lC w3 s gj Fb;have b34:=tmq b3 B4;have aI:=wTr al b34;have HJ:=hide X4;have HS:=hide (BS.below B4);have Nf:=hide (HX.below b34);have Mw:=hide (HY.below b34);have Km:=hide (HB.below b34);have Dp:=hide (HA.below b34);have HD:=hide (zgt HA.ok HB.ok DS);clear BS b3 DS X4 B4 b34
 rcases HD.out with ⟨h,rfl,-⟩ | ⟨h,hc,rfl,-⟩ | ⟨h,hc,rfl,hj⟩
 ·have HE:Hid (OrE w w4 (.returned (.tuple #[.int .i64 0,.int .i64 1])) a b):=⟨0,1,rfl,aI.out,.inl ⟨h,rfl,rfl⟩⟩;clear h HD;go_wp2_with fail;clear cd Fb;go_ret2;exact HE.out
 ·have HE:Hid (OrE w w4 (.returned (.tuple #[.int .i64 0,.int .i64 10])) a b):=⟨0,10,rfl,aI.out,.inr (.inl ⟨h,hc,rfl,rfl⟩)⟩;clear h hc HD;go_wp2_with fail;clear cd Fb;go_ret2;exact HE.out
 ·have FA:=hide hj;have lJ:=hide h;have MG:=hide hc;have Fd:=hide ((zbE Dp.ok).1 h.1);have FK:=hide ((zbE Km.ok).1 h.2);have eX:=hide (hj.form Fd.out FK)
  have aB:Hid (∀ W,Below w4.heap.size w4 W -> (ms (.pointer (some ⟨G,0,none⟩))).run Tryz.prog W = .ok (.agg (FaC (mkF a))) W/\(ms (.pointer (some ⟨G+1,0,none⟩))).run Tryz.prog W = .ok (.agg (FaC (mkF b))) W/\(ms (.pointer (some ⟨gj,0,none⟩))).run Tryz.prog W = .ok (.agg (FaC (mkF s))) W):=fun W hW =>
   ⟨qt (Nf.below hW),qt (Mw.below hW),qt (HJ.below hW)⟩
  clear h hc hj HD;go_upto_region 4 with fail;clear cd Fb;refine wp_region_held_drew (S:=fun W=>(ms (.pointer (some ⟨G,0,none⟩))).run Tryz.prog W = .ok (.agg (FaC (mkF a))) W/\(ms (.pointer (some ⟨G+1,0,none⟩))).run Tryz.prog W = .ok (.agg (FaC (mkF b))) W/\(ms (.pointer (some ⟨gj,0,none⟩))).run Tryz.prog W = .ok (.agg (FaC (mkF s))) W) (by kernel_rfl) (aB.out _ (zf w4)) (fun hHeld=>?_);refine wU 0 ?_;refine wU 1 ?_;refine wU 3 ?_;refine wU 4 ?_;refine wR 2 fun K hK=>?_;go_simp;go_wp2_with fail;refine (y7 s b _ (HS.ok.below (zf w4)) (Km.ok.below (zf w4)) eX.rp FK.rp).mono ?_;rintro e w7 ⟨x,rfl,hx,b0⟩;have dR:Hid (Below w4.heap.size w4 w7):=(zf w4).trans b0;have Hx:=hide hx;have rF:=hide (aB.out _ dR);refine hK.out _ _ rF.out (fun hHeld=>?_)
  clear hK K b0 rF hx;refine wR 5 fun K hK=>?_;go_simp;go_wp2_with fail;refine (y7 s a _ (HS.ok.below dR) (Dp.ok.below dR) eX.rp Fd.rp).mono ?_;rintro e w8 ⟨y,rfl,hy,b0⟩;have gA:Hid (Below w4.heap.size w4 w8):=tmq dR b0;have Hy:=hide hy;have rF:=hide (aB.out _ gA);refine hK.out _ _ rF.out (fun hHeld=>?_);clear hK K b0 rF hy;refine wU 6 ?_;refine wU 7 ?_;refine wD ?_ _;clear hHeld;have HP:Hid (BIf x (LeS a b)):=⟨fun h=>by have h1:=FA.out;rw [zaL.1 (Hx.1 h)] at h1;exact h1,fun h=>Hx.2 (zaL.2 (FA.uniq h))⟩;have HQ:Hid (BIf y (LeS b a)):=⟨fun h=>by have h1:=FA.comm;rw [zaL.1 (Hy.1 h)] at h1;exact h1,fun h=>Hy.2 (zaL.2 (FA.comm.uniq h))⟩
  have HE:Hid (∀ o,OrK a b o -> OrE w w8 (.returned (.tuple #[.int .i64 o,.int .i64 0])) a b):=fun o ho=>⟨o,0,rfl,tmq aI gA,.inr (.inr ⟨lJ.out,MG.out,rfl,ho⟩)⟩;clear Hx Hy aB
  cases x with
  | true =>
   cases y with
   | true =>
    have HO:Hid (OrK a b 0):=.inl ⟨HP.1 rfl,HQ.1 rfl,rfl⟩;go_wp2_with fail;go_ret2;exact HE.out 0 HO.out
   | false =>
    have HO:Hid (OrK a b 1):=.inr (.inl ⟨HP.1 rfl,(fun h=>by have:=HQ.2 h;cases this),rfl⟩);go_wp2_with fail;go_ret2;exact HE.out 1 HO.out
  | false =>
   cases y with
   | true =>
    have HO:Hid (OrK a b 2):=.inr (.inr (.inl ⟨(fun h=>by have:=HP.2 h;cases this),HQ.1 rfl,rfl⟩));go_wp2_with fail;go_ret2;exact HE.out 2 HO.out
   | false =>
    have HO:Hid (OrK a b 3):=.inr (.inr (.inr ⟨(fun h=>by have:=HP.2 h;cases this),(fun h=>by have:=HQ.2 h;cases this),rfl⟩));go_wp2_with fail;go_ret2;exact HE.out 3 HO.out
end
section
open Go.RowKit
attribute [local go_sem ↓] zq zp zE zD zP zO
attribute [local go_sem] zi zk zl zr zv
theorem zaa (a b:Fc) (w:World) (hF:aU w a) (hG:aU w b) (hE:EqS a b):Calls Tryz.prog 9 #[FaV (mkF a),FaV (mkF b)] w fun e w'=>e = .returned (.bool true)/\Below w.heap.size w w':=by
 obtain ⟨wk,aL,HX,HY,al⟩:=EO w a b;obtain ⟨G,cK⟩:∃ G,w.heap.size=G:=⟨_,rfl⟩;rw [cK] at HX HY;have HF:=hide (hF.below al);have HG:=hide (hG.below al);have HE:=hide hE;clear hF hG hE;have c0:=HX.cs.1;have d0:=HY.cs.1;go_enter Tryz.func9,Tryz.ntmps9;go_wp2_with fail;clear aL cK c0 d0;refine (wX a.ao b.ao a.an b.an a.ac b.ac a.es b.es _ HF.es HG.es).mono ?_;rintro e w3 ⟨x,rfl,hx,b3⟩;obtain rfl:x=true:=hx.2 HE.1;have aw:=hide b3;clear hx b3;have lp:=zj (HX.below aw).past;have lq:=zj (HY.below aw).past;go_wp2_with fail;clear lp lq;refine (jg a.p b.p _ (HF.below aw).p (HG.below aw).p).mono ?_;rintro e w4 ⟨x,rfl,hx,b4⟩;obtain rfl:x=true:=hx.2 HE.2.1;have aI:=wTr aw b4;clear hx b4;have c3:=(HX.below aI).cs.2
 have d3:=(HY.below aI).cs.2;go_wp2_with fail;clear c3 d3;refine (wW a.ro b.ro a.rn b.rn a.rc b.rc a.rs b.rs _ (HF.below aI).rs (HG.below aI).rs).mono ?_;rintro e w5 ⟨x,rfl,hx,b5⟩;obtain rfl:x=true:=hx.2 HE.2.2;have cZ:=hide (tmq al (aI.trans (b5.mono aI.size)));clear hx b5;go_wp2_with fail;go_ret;exact ⟨rfl,cZ.out⟩
theorem jG (f:Fc) (w:World) (hF:aU w f):Calls Tryz.prog 24 #[FaV (mkF f)] w fun e w'=>fP w w' e (ar f):=by
 have HX:=hide (zU w (mkF f));have al:=hide (ze w (.cells (FaC (mkF f)) 29));have HS:=hide (hF.below al);clear hF;obtain ⟨wk,aL⟩:∃ wk,w.alloc (.cells (FaC (mkF f)) 29)=wk:=⟨_,rfl⟩;obtain ⟨G,hG⟩:∃ G,w.heap.size=G:=⟨_,rfl⟩;rw [aL] at HX al HS;rw [hG] at HX;obtain ⟨c0,c3⟩:=HX.cs;go_enter Tryz.func24,Tryz.ntmps24;go_wp2_with fail;clear aL hG;refine (K.zan f.ao f.an f.ac f.es _ HS.es).mono ?_;rintro e w2 ⟨rfl,b2⟩;have cu:=wTr al b2;have eS:=hide (HX.below b2);have dZ:=hide (HS.below b2);clear b2 c0 c3 HX HS al
 cases hc:K.okN f.es f.an with
 | false =>
  have HN:Hid (¬ ar f):=fun h=>by have h1:=h.1;rw [hc] at h1;cases h1
  clear hc;go_wp2_with fail;go_ret;exact ⟨_,rfl,BIf.no HN,cu.out⟩
 | true =>
  have HC:=hide hc;have lp:=zj eS.past;clear hc;go_wp2_with fail;clear lp;refine (xM f.p _ dZ.p).mono ?_;rintro e w3 ⟨b,rfl,hb,b3⟩;have aw:=wTr cu b3;have dh:=hide (eS.below b3);have mn:=hide (dZ.below b3);clear b3 eS dZ cu
  cases b with
  | false =>
   have HN:Hid (¬ ar f):=fun h=>(by have:=hb.2 h.2.1;cases this);clear hb;go_wp2_with fail;go_ret;exact ⟨_,rfl,BIf.no HN,aw.out⟩
  | true =>
   have HI:Hid (ag f.p.P):=hb.1 rfl;have c3:=dh.cs.2;clear hb;go_wp2_with fail;clear c3;refine (zar f.ro f.rn f.rc f.rs _ mn.rs).mono ?_;rintro e w4 ⟨k,rfl,hk,b4⟩;have aI:=wTr aw b4;clear b4;rcases hk with ⟨rfl,hk⟩ | ⟨rfl,hk⟩
   ·have HF:Hid (BIf true (ar f)):=⟨fun _=>⟨HC.out,HI.out,hk⟩,fun _=>rfl⟩;clear hk;go_wp2_with fail;go_ret;exact ⟨_,rfl,HF.out,aI.out⟩
   ·have HN:Hid (¬ ar f):=fun h=>hk h.2.2;clear hk;go_wp2_with fail;go_ret;exact ⟨_,rfl,BIf.no HN,aI.out⟩
theorem wRq {f s t:Fc} (h:StD f s) (k:StD f t):EqS s t:=by
 have eP:s.p.P=t.p.P:=h.2.1.one k.2.1;exact ⟨h.1.trans k.1.symm,eP,by rw [h.2.2.2,k.2.2.2,eP]⟩
theorem BZ (w:World) (f s:Fc):∃ wk,(w.alloc (.cells (FaC (mkF f)) 29)).alloc (.cells (FaC (mkF s)) 31)=wk/\Hid (aF wk w.heap.size (mkF f))/\Hid (aG wk (w.heap.size+1) (mkF s))/\Hid (Below w.heap.size w wk):=by
 have b1:=ze w (.cells (FaC (mkF f)) 29);have b2:=ze (w.alloc (.cells (FaC (mkF f)) 29)) (.cells (FaC (mkF s)) 31);have X2:=qs (w.alloc (.cells (FaC (mkF f)) 29)) (mkF s);rw [World.size_alloc] at X2;exact ⟨_,rfl,(zU w (mkF f)).below b2,X2,tmq b1 b2⟩
theorem zeo (N M:Nat) (hNM:N+M <= 4) (f t:Fc) (w:World) (hF:SwB N w f) (hT:SwB M w t) (ff:ar f) (ft:aQ t) (h:StD f t):Calls Tryz.prog 13 #[FaV (mkF f),FaV (mkF t)] w fun e w'=>e = .returned (.bool true)/\Below w.heap.size w w':=by
 obtain ⟨wk,aL,HX,HY,al⟩:=BZ w f t;obtain ⟨G,cK⟩:∃ G,w.heap.size=G:=⟨_,rfl⟩;rw [cK] at HX HY;have HF:=hide (hF.below al);have HT:=hide (hT.below al);have HP:Hid (ar f/\aQ t/\StD f t):=⟨ff,ft,h⟩;clear hF hT ff ft h;have l0:=zW HX.out;go_enter Tryz.func13,Tryz.ntmps13;go_wp2_with fail;clear aL cK l0;refine (yG N (by omega) f _ HF).mono ?_;rintro e v3 ⟨s,er,rfl,Ss,b3,hs⟩
 obtain ⟨rfl,hS⟩:er=0/\StD f s:=by
  rcases hs with ⟨h,-⟩ | ⟨-,h,k⟩
  ·exact absurd HP.1 h
  ·exact ⟨h,k⟩
 obtain ⟨gs,ph⟩:∃ g,v3.heap.size=g:=⟨_,rfl⟩;obtain ⟨w3,cd,X3,B3,-⟩:=lC v3 s gs ph;have b33:=tmq b3 B3;have aw:=hide b33;have tV:=hide X3;have mW:=hide (Ss.below B3);have HE:Hid (ab s=ab t):=zf6 (wRq hS HP.2.2).1 (wRq hS HP.2.2).2.1 (wRq hS HP.2.2).2.2;clear Ss b3 hs hS X3 B3 b33;have l0:=qt tV.out;have l1:=qt (HY.below aw);go_wp2_with fail;clear l0 l1 cd ph;refine (zb0 N M hNM s t _ mW.out (HT.below aw)).mono ?_;rintro e w4 ⟨o,er,rfl,b4,ho⟩;have aI:=hide (tmq al (aw.trans (b4.mono aw.size)));have fa:FmA (ab t):=(zbE HT.ok).1 HP.2.1;have fs:aQ s:=(zbE mW.ok).2 (by rw [HE.out];exact fa)
 have hL:LeS s t/\LeS t s:=by
  unfold LeS;rw [HE.out];exact ⟨le_refl fa,le_refl fa⟩
 have hn:¬ K.cI (s.es++t.es):=by
  have h1:=zda fa;rw [show s.es=t.es from congrArg Ab.L HE.out];exact h1
 obtain ⟨rfl,rfl⟩:o=0/\er=0:=by
  rcases ho with ⟨h,-⟩ | ⟨-,h,-⟩ | ⟨-,-,h,k⟩
  ·exact absurd ⟨fs,HP.2.1⟩ h
  ·exact absurd h hn
  ·rcases k with ⟨-,-,k⟩ | ⟨-,k,-⟩ | ⟨k,-⟩ | ⟨k,-⟩
   ·exact ⟨k,h⟩
   ·exact absurd hL.2 k
   ·exact absurd hL.1 k
   ·exact absurd hL.1 k
 clear b4 ho fa fs hL hn;go_wp2_with fail;go_ret;exact ⟨rfl,aI.out⟩
end
end Go.Proofs.YtjffpimfngdggaaGreat
