/- SYc SYe TRb SYf SYg -/
import Derived.Test.YtcilfelgpmfehaaGreatBj34
import Derived.Maps.OwnSet
import Derived.DeepKeys4
import Derived.Deep.CutRange
set_option maxRecDepth 100000
set_option maxHeartbeats 3200000
namespace Go.Proofs.YtcilfelgpmfehaaGreat
section
open Go.RowKit Go.Maps
def RE (v:Value):Option (DataW K.En × List MemPlace):=
 match v with
 | .agg cs=>(match cs.toList with
  | [.int .i64 r,.int .i64 n,.string s,.int .i64 q]=>some (.held ⟨r,n,s,q⟩,[])
  | _=>none)
 | _=>none
def DmE (D:DataW K.En) (L:List K.En):Prop:=∀ d l,keyOf Tryz.prog 64 (RV d)=some l -> (has D l=true↔∃ e∈L,am e=d)/\∀ e∈L,am e=d -> D.atKey l (.held K.en0) = .held e
def Nt (w:World) (b k:Nat) (L:List K.En):Prop:=∃ D,w.ownsMap Tryz.prog 64 RE b k D/\DmE D L
attribute [local go_sem ↓] zl zk zK zJ qg qf K.zu K.zt
attribute [local go_sem] zf zh zj zr zD zN zZ K.zs K.zB K.zC
end
section
open Go.RowKit
theorem zgN {s t:Fc} (h:ab s=ab t):EqS s t:=⟨congrArg Ab.L h,congrArg Ab.P h,congrArg Ab.R h⟩
attribute [local go_sem ↓] zK zJ xm
attribute [local go_sem] zj zr zF qV
end
section
open Go.RowKit
attribute [local go_sem ↓] zR zQ
attribute [local go_sem] zy zH zT
variable {w w' w2 W W' : World} {g : Nat}

def rcC (s d:Rc):Int:=ck (rck s) (rck d)
theorem zfO (a b:Rc) (w:World) (hA:dp w a) (hB:dp w b) (fa:af a.p.P) (fb:af b.p.P):Calls Tryz.prog 61 #[ReV (mkR a),ReV (mkR b)] w fun e w'=>e = .returned (.int .i64 (rcC a b))/\Below w.heap.size w w':=by
 refine (xJ a b w hA hB).mono ?_;rintro e w' ⟨z,rfl,hz,hb⟩;exact ⟨by rw [zaW fa fb hz];rfl,hb⟩
def uU (L:List Rc) (d:Rc) (n i:Nat):Prop:=i <= n/\(∀ j,j < i -> rcC (L.getD j rc0) d < 0)/\(i < n -> 0 <= rcC (L.getD i rc0) d)
def BsC (w w':World) (e:Ending) (L:List Rc) (d:Rc) (n:Nat):Prop:=∃ (i:Nat) (b:Bool),e = .returned (.tuple #[.int .i64 (i:Int),.bool b])/\uU L d n i/\(b=true↔i < n/\rcC (L.getD i rc0) d=0)/\Below w.heap.size w w'
end
section
open Go.RowKit
theorem yP {α : Type} {A B:List α} {n k:Nat} (ha:A.length=n) (hb:B.length=n) (hk:¬ k < n) (h:A.take k=B.take k):A=B:=by
 rw [List.take_of_length_le (by omega),List.take_of_length_le (by omega)] at h;exact h
theorem wH (L:List K.En) (k:Nat) (h:k < L.length):L.take (k+1)=L.take k++[L.getD k K.en0]:=by
 rw [List.take_succ_eq_append_getElem h];simp [List.getD,h]
attribute [local go_sem ↓] zl zk qX K.zu K.zt zK zJ zR zQ
attribute [local go_sem] zf zh zw K.zs K.zB K.zC zj zr zF zy zH zT
theorem zeO (ao bo:Option Addr) (n c m d:Nat) (A B:List K.En) (w:World) (hA:K.aF w ao n c A) (hB:K.aF w bo m d B):Calls Tryz.prog 108 #[.slice ao n c,.slice bo m d] w fun e w'=>dr w w' e (A=B):=by
 have HA:=hide hA;have HB:=hide hB;have lH:Hid (A.length=n):=hA.1;have lM:Hid (B.length=m):=hB.1
 have AJ:n <= 17592186044415:=by have:=hA.2.2.2.2;omega
 clear hA hB;by_cases hv:n=m;rotate_left
 ·have d1:((n:Int) != (m:Int))=true:=by simp;omega
  have dE:Hid (¬ A=B):=fun h=>hv (by rw [<- lH.out,<- lM.out,h]);clear hv;go_enter Tryz.func108,Tryz.ntmps108;go_wp2_with fail;go_ret;exact ⟨false,rfl,BIf.no dE.out,Below.refl _ _⟩
 subst hv;go_enter Tryz.func108,Tryz.ntmps108;go_wp2_with fail;go_loopw [5,13] (fun _ i wr=>∃ k:Nat,k <= n/\i = .int .i64 (k:Int)/\Hid (A.take k=B.take k/\Below w.heap.size w wr)) (fun _ i _=>n - (intOf i).toNat)
 case atStart=>exact ⟨0,Nat.zero_le _,rfl,rfl,Below.refl _ _⟩
 case round =>
  obtain ⟨k,hk,rfl,HK⟩:=hrel
  rename World=>wr
  by_cases aq:k < n
  ·have dl:(k:Int) < (n:Int):=by omega
   obtain ⟨ad,rfl,-⟩:=K.aF.at (HA.out.below HK.out.2) k aq;obtain ⟨bd,rfl,-⟩:=K.aF.at (HB.out.below HK.out.2) k aq;have t1:=hide (wH A k (by rw [lH.out];exact aq));have t2:=hide (wH B k (by rw [lM.out];exact aq));have cj:=hide aq;obtain ⟨x,Hx⟩:∃ x,Hid (A.getD k K.en0=x):=⟨_,rfl⟩;obtain ⟨y,Hy⟩:∃ y,Hid (B.getD k K.en0=y):=⟨_,rfl⟩;rw [Hx.out] at t1;rw [Hy.out] at t2
   have aw:Hid (∀ W,Below wr.heap.size wr W -> (K.eR (.pointer (some (ad.add (k * 4))))).run Tryz.prog W = .ok (K.EV x) W/\(K.eR (.pointer (some (bd.add (k * 4))))).run Tryz.prog W = .ok (K.EV y) W):=fun W hW=>by
    obtain ⟨ad',e1,A1⟩:=K.aF.at ((HA.out.below HK.out.2).below hW) k cj.out;obtain ⟨bd',e2,B1⟩:=K.aF.at ((HB.out.below HK.out.2).below hW) k cj.out;obtain rfl:=Option.some.inj e1;obtain rfl:=Option.some.inj e2;rw [Hx.out] at A1;rw [Hy.out] at B1;exact ⟨K.zX A1,K.zX B1⟩
   have gT:=hide (HK.out.2.trans ((zd wr).mono HK.out.2.size));clear aq hk;by_cases he:x=y
   ·have leq:∀ W:World,(Op.equalIn 10000 66 (K.EV x) (K.EV y)).run Tryz.prog W = .ok true W:=fun W=>(K.ql x y W).trans (congrArg (fun b=>Result.ok b W) ((K.zbC x y).2 he));have HN:Hid (A.take (k+1)=B.take (k+1)/\Below w.heap.size w wr.drew):=⟨by rw [t1.out,t2.out,HK.out.1,he],gT.out⟩;clear he;go_upto_region 6 with fail;refine wp_region_held_drew (S:=fun W=>(K.eR (.pointer (some (ad.add (k * 4))))).run Tryz.prog W = .ok (K.EV x) W/\(K.eR (.pointer (some (bd.add (k * 4))))).run Tryz.prog W = .ok (K.EV y) W) (by kernel_rfl) (aw.out _ (zd wr)) (fun hHeld=>?_);refine wU 0 ?_;refine wU 1 ?_;refine wU 2 ?_;refine wU 3 ?_;refine wU 4 ?_;refine wU 5 ?_;refine wU 6 ?_;refine wU 7 ?_;refine wU 8 ?_;refine wD ?_ _;clear hHeld;clear leq;go_wp2_with fail;go_roundw
    case rel=>exact ⟨k+1,cj.out,by simp,HN.out⟩
    case measure=>simp [intOf];have:=cj.out;omega
   ·have leq:∀ W:World,(Op.equalIn 10000 66 (K.EV x) (K.EV y)).run Tryz.prog W = .ok false W:=fun W=>(K.ql x y W).trans (congrArg (fun b=>Result.ok b W) (Bool.eq_false_iff.2 fun h=>he ((K.zbC x y).1 h)));have dE:Hid (¬ A=B):=fun h=>he (by rw [<- Hx.out,<- Hy.out,h]);clear he;go_upto_region 6 with fail;refine wp_region_held_drew (S:=fun W=>(K.eR (.pointer (some (ad.add (k * 4))))).run Tryz.prog W = .ok (K.EV x) W/\(K.eR (.pointer (some (bd.add (k * 4))))).run Tryz.prog W = .ok (K.EV y) W) (by kernel_rfl) (aw.out _ (zd wr)) (fun hHeld=>?_);refine wU 0 ?_;refine wU 1 ?_;refine wU 2 ?_;refine wU 3 ?_;refine wU 4 ?_;refine wU 5 ?_;refine wU 6 ?_;refine wU 7 ?_;refine wU 8 ?_;refine wD ?_ _;clear hHeld;clear leq;go_wp2_with fail;go_ret;exact ⟨false,rfl,BIf.no dE.out,gT.out⟩
  ·have dl:¬ (k:Int) < (n:Int):=by omega
   have HE:Hid (A=B):=yP lH.out lM.out aq HK.out.1;have cd:=hide HK.out.2;clear aq hk;go_wp2_with fail;go_ret;exact ⟨true,rfl,BIf.yes HE.out,cd.out⟩
theorem zeN (ao bo:Option Addr) (n c m d:Nat) (A B:List Int) (w:World) (hn:n <= 17592186044415) (hA:V.Src w ao n c A) (hB:V.Src w bo m d B):Calls Tryz.prog 143 #[.slice ao n c,.slice bo m d] w fun e w'=>dr w w' e (A=B):=by
 have HA:=hide hA;have HB:=hide hB;have lH:Hid (A.length=n):=hA.1;have lM:Hid (B.length=m):=hB.1;clear hA hB;by_cases hv:n=m;rotate_left
 ·have d1:((n:Int) != (m:Int))=true:=by simp;omega
  have dE:Hid (¬ A=B):=fun h=>hv (by rw [<- lH.out,<- lM.out,h]);clear hv;go_enter Tryz.func143,Tryz.ntmps143;go_wp2_with fail;go_ret;exact ⟨false,rfl,BIf.no dE.out,Below.refl _ _⟩
 subst hv;go_enter Tryz.func143,Tryz.ntmps143;go_wp2_with fail;go_loopw [5,13] (fun _ i wr=>∃ k:Nat,k <= n/\i = .int .i64 (k:Int)/\Hid (A.take k=B.take k/\Below w.heap.size w wr)) (fun _ i _=>n - (intOf i).toNat)
 case atStart=>exact ⟨0,Nat.zero_le _,rfl,rfl,Below.refl _ _⟩
 case round =>
  obtain ⟨k,hk,rfl,HK⟩:=hrel
  rename World=>wr
  by_cases aq:k < n
  ·have dl:(k:Int) < (n:Int):=by omega
   obtain ⟨ad,rfl,-⟩:=qT (HA.out.below HK.out.2) k aq;obtain ⟨bd,rfl,-⟩:=qT (HB.out.below HK.out.2) k aq;have t1:=hide (wK A k (by rw [lH.out];exact aq));have t2:=hide (wK B k (by rw [lM.out];exact aq));have cj:=hide aq;obtain ⟨x,Hx⟩:∃ x,Hid (A.getD k 0=x):=⟨_,rfl⟩;obtain ⟨y,Hy⟩:∃ y,Hid (B.getD k 0=y):=⟨_,rfl⟩;rw [Hx.out] at t1;rw [Hy.out] at t2
   have aw:Hid (∀ W,Below wr.heap.size wr W -> W.cell? (ad.add k)=some (.int .i64 x)/\W.cell? (bd.add k)=some (.int .i64 y)):=fun W hW=>by
    obtain ⟨ad',e1,A1⟩:=qT ((HA.out.below HK.out.2).below hW) k cj.out;obtain ⟨bd',e2,B1⟩:=qT ((HB.out.below HK.out.2).below hW) k cj.out;obtain rfl:=Option.some.inj e1;obtain rfl:=Option.some.inj e2;rw [Hx.out] at A1;rw [Hy.out] at B1;exact ⟨A1,B1⟩
   have gT:=hide (HK.out.2.trans ((zd wr).mono HK.out.2.size));clear aq hk;by_cases he:x=y
   ·have leq:(x != y)=false:=by simp [he]
    have HN:Hid (A.take (k+1)=B.take (k+1)/\Below w.heap.size w wr.drew):=⟨by rw [t1.out,t2.out,HK.out.1,he],gT.out⟩;clear he;go_upto_region 6 with fail;refine wp_region_held_drew (S:=fun W=>W.cell? (ad.add k)=some (.int .i64 x)/\W.cell? (bd.add k)=some (.int .i64 y)) (by kernel_rfl) (aw.out _ (zd wr)) (fun hHeld=>?_);refine wU 0 ?_;refine wU 1 ?_;refine wU 2 ?_;refine wU 3 ?_;refine wU 4 ?_;refine wU 5 ?_;refine wU 6 ?_;refine wU 7 ?_;refine wU 8 ?_;refine wD ?_ _;clear hHeld;clear leq;go_wp2_with fail;go_roundw
    case rel=>exact ⟨k+1,cj.out,by simp,HN.out⟩
    case measure=>simp [intOf];have:=cj.out;omega
   ·have leq:(x != y)=true:=by simp [he]
    have dE:Hid (¬ A=B):=fun h=>he (by rw [<- Hx.out,<- Hy.out,h]);clear he;go_upto_region 6 with fail;refine wp_region_held_drew (S:=fun W=>W.cell? (ad.add k)=some (.int .i64 x)/\W.cell? (bd.add k)=some (.int .i64 y)) (by kernel_rfl) (aw.out _ (zd wr)) (fun hHeld=>?_);refine wU 0 ?_;refine wU 1 ?_;refine wU 2 ?_;refine wU 3 ?_;refine wU 4 ?_;refine wU 5 ?_;refine wU 6 ?_;refine wU 7 ?_;refine wU 8 ?_;refine wD ?_ _;clear hHeld;clear leq;go_wp2_with fail;go_ret;exact ⟨false,rfl,BIf.no dE.out,gT.out⟩
  ·have dl:¬ (k:Int) < (n:Int):=by omega
   have HE:Hid (A=B):=yP lH.out lM.out aq HK.out.1;have cd:=hide HK.out.2;clear aq hk;go_wp2_with fail;go_ret;exact ⟨true,rfl,BIf.yes HE.out,cd.out⟩
theorem zeL (ao bo:Option Addr) (n c m d:Nat) (A B:List Sn) (w:World) (hA:cJ w ao n c A) (hB:cJ w bo m d B):Calls Tryz.prog 144 #[.slice ao n c,.slice bo m d] w fun e w'=>dr w w' e (A=B):=by
 have HA:=hide hA;have HB:=hide hB;have lH:Hid (A.length=n):=hA.len;have lM:Hid (B.length=m):=hB.len
 have AJ:n <= 17592186044415:=by have:=hA.big;omega
 clear hA hB;by_cases hv:n=m;rotate_left
 ·have d1:((n:Int) != (m:Int))=true:=by simp;omega
  have dE:Hid (¬ A=B):=fun h=>hv (by rw [<- lH.out,<- lM.out,h]);clear hv;go_enter Tryz.func144,Tryz.ntmps144;go_wp2_with fail;go_ret;exact ⟨false,rfl,BIf.no dE.out,Below.refl _ _⟩
 subst hv;go_enter Tryz.func144,Tryz.ntmps144;go_wp2_with fail;go_loopw [5,13] (fun _ i wr=>∃ k:Nat,k <= n/\i = .int .i64 (k:Int)/\Hid (A.take k=B.take k/\Below w.heap.size w wr)) (fun _ i _=>n - (intOf i).toNat)
 case atStart=>exact ⟨0,Nat.zero_le _,rfl,rfl,Below.refl _ _⟩
 case round =>
  obtain ⟨k,hk,rfl,HK⟩:=hrel
  rename World=>wr
  by_cases aq:k < n
  ·have dl:(k:Int) < (n:Int):=by omega
   obtain ⟨ad,rfl,-⟩:=cJ.at (HA.out.below HK.out.2) k aq;obtain ⟨bd,rfl,-⟩:=cJ.at (HB.out.below HK.out.2) k aq;have t1:=hide (wI A k (by rw [lH.out];exact aq));have t2:=hide (wI B k (by rw [lM.out];exact aq));have cj:=hide aq;obtain ⟨x,Hx⟩:∃ x,Hid (A.getD k sn0=x):=⟨_,rfl⟩;obtain ⟨y,Hy⟩:∃ y,Hid (B.getD k sn0=y):=⟨_,rfl⟩;rw [Hx.out] at t1;rw [Hy.out] at t2
   have aw:Hid (∀ W,Below wr.heap.size wr W -> (ldS (.pointer (some (ad.add (k * 3))))).run Tryz.prog W = .ok (SV x) W/\(ldS (.pointer (some (bd.add (k * 3))))).run Tryz.prog W = .ok (SV y) W):=fun W hW=>by
    obtain ⟨ad',e1,A1⟩:=cJ.at ((HA.out.below HK.out.2).below hW) k cj.out;obtain ⟨bd',e2,B1⟩:=cJ.at ((HB.out.below HK.out.2).below hW) k cj.out;obtain rfl:=Option.some.inj e1;obtain rfl:=Option.some.inj e2;rw [Hx.out] at A1;rw [Hy.out] at B1;exact ⟨zS A1,zS B1⟩
   have gT:=hide (HK.out.2.trans ((zd wr).mono HK.out.2.size));clear aq hk;by_cases he:x=y
   ·have leq:∀ W:World,(Op.equalIn 10000 69 (SV x) (SV y)).run Tryz.prog W = .ok true W:=fun W=>(vJ x y W).trans (congrArg (fun b=>Result.ok b W) ((xY x y).2 he));have HN:Hid (A.take (k+1)=B.take (k+1)/\Below w.heap.size w wr.drew):=⟨by rw [t1.out,t2.out,HK.out.1,he],gT.out⟩;clear he;go_upto_region 6 with fail;refine wp_region_held_drew (S:=fun W=>(ldS (.pointer (some (ad.add (k * 3))))).run Tryz.prog W = .ok (SV x) W/\(ldS (.pointer (some (bd.add (k * 3))))).run Tryz.prog W = .ok (SV y) W) (by kernel_rfl) (aw.out _ (zd wr)) (fun hHeld=>?_);refine wU 0 ?_;refine wU 1 ?_;refine wU 2 ?_;refine wU 3 ?_;refine wU 4 ?_;refine wU 5 ?_;refine wU 6 ?_;refine wU 7 ?_;refine wU 8 ?_;refine wD ?_ _;clear hHeld;clear leq;go_wp2_with fail;go_roundw
    case rel=>exact ⟨k+1,cj.out,by simp,HN.out⟩
    case measure=>simp [intOf];have:=cj.out;omega
   ·have leq:∀ W:World,(Op.equalIn 10000 69 (SV x) (SV y)).run Tryz.prog W = .ok false W:=fun W=>(vJ x y W).trans (congrArg (fun b=>Result.ok b W) (Bool.eq_false_iff.2 fun h=>he ((xY x y).1 h)));have dE:Hid (¬ A=B):=fun h=>he (by rw [<- Hx.out,<- Hy.out,h]);clear he;go_upto_region 6 with fail;refine wp_region_held_drew (S:=fun W=>(ldS (.pointer (some (ad.add (k * 3))))).run Tryz.prog W = .ok (SV x) W/\(ldS (.pointer (some (bd.add (k * 3))))).run Tryz.prog W = .ok (SV y) W) (by kernel_rfl) (aw.out _ (zd wr)) (fun hHeld=>?_);refine wU 0 ?_;refine wU 1 ?_;refine wU 2 ?_;refine wU 3 ?_;refine wU 4 ?_;refine wU 5 ?_;refine wU 6 ?_;refine wU 7 ?_;refine wU 8 ?_;refine wD ?_ _;clear hHeld;clear leq;go_wp2_with fail;go_ret;exact ⟨false,rfl,BIf.no dE.out,gT.out⟩
  ·have dl:¬ (k:Int) < (n:Int):=by omega
   have HE:Hid (A=B):=yP lH.out lM.out aq HK.out.1;have cd:=hide HK.out.2;clear aq hk;go_wp2_with fail;go_ret;exact ⟨true,rfl,BIf.yes HE.out,cd.out⟩
theorem wu (a b:Pv) (w:World) (hA:ak w a) (hB:ak w b):Calls Tryz.prog 109 #[PV a,PV b] w fun e w'=>dr w w' e (a.P=b.P):=by
 have b1:=ze w (.cells (PC a) 26);have b2:=ze (w.alloc (.cells (PC a) 26)) (.cells (PC b) 26);have p2:=zq (w.alloc (.cells (PC a) 26)) b;rw [World.size_alloc] at p2;have nP:=hide ((zq w a).below b2);have me:=hide p2;have az:=hide (b1.trans (b2.mono b1.size));have iD:=hide (hA.below az.out);have gk:=hide (hB.below az.out);obtain ⟨wk,cq⟩:∃ wk,(w.alloc (.cells (PC a) 26)).alloc (.cells (PC b) 26)=wk:=⟨_,rfl⟩;obtain ⟨G,dC⟩:∃ G,w.heap.size=G:=⟨_,rfl⟩;rw [cq] at nP me az iD gk;rw [dC] at nP me;obtain ⟨a0,a1⟩:=nP.out.nums;obtain ⟨c0,c1⟩:=me.out.nums;clear b1 b2 p2 hA hB;go_enter Tryz.func109,Tryz.ntmps109;go_wp2_with fail;clear cq dC a0 a1 c0 c1;refine (zeN a.vo b.vo a.vn a.vc b.vn b.vc a.P.vec b.P.vec _ iD.out.big iD.out.vec gk.out.vec).mono ?_;rintro e w3 ⟨v,rfl,hv,b3⟩;have aN:=hide b3
 obtain ⟨a0,a1⟩:=(nP.out.below b3).nums;obtain ⟨c0,c1⟩:=(me.out.below b3).nums;clear b3
 cases v with
 | false =>
  have dE:Hid (¬ a.P=b.P):=fun h=>by have:=hv.2 (congrArg Pst.vec h);cases this
  have HE:=wTr az aN.out;clear hv a0 a1 c0 c1;go_wp2_with fail;go_ret;exact ⟨false,rfl,BIf.no dE.out,HE.out⟩
 | true =>
 have HV:=hide (hv.1 rfl);clear hv;go_wp2_with fail;clear a0 a1 c0 c1;refine (zeL a.co b.co a.cn a.cc b.cn b.cc a.P.cloud b.P.cloud _ (iD.out.below aN.out).cloud (gk.out.below aN.out).cloud).mono ?_;rintro e w4 ⟨v,rfl,hv,b4⟩;have HE:=hide (az.out.trans ((aN.out.trans (b4.mono aN.out.size)).mono az.out.size))
 have HQ:Hid (BIf v (a.P=b.P)):=⟨fun h=>by
  have h1:=HV.out;have h2:=hv.1 h
  cases hp:a.P
  cases hq:b.P
  rw [hp,hq] at h1 h2;simp only at h1 h2
  rw [h1,h2],fun h=>hv.2 (congrArg Pst.cloud h)⟩
 clear hv b4;go_wp2_with fail;go_ret;exact ⟨v,rfl,HQ.out,HE.out⟩
theorem yy (a b:Rc) (w:World) (hA:dp w a) (hB:dp w b) (fa:af a.p.P) (fb:af b.p.P):Calls Tryz.prog 111 #[ReV (mkR a),ReV (mkR b)] w fun e w'=>e = .returned (.bool (decide (rcC a b=0)))/\Below w.heap.size w w':=by
 have b1:=ze w (.cells (ReC (mkR a)) 84);have b2:=ze (w.alloc (.cells (ReC (mkR a)) 84)) (.cells (ReC (mkR b)) 84);have X2:=xf (w.alloc (.cells (ReC (mkR a)) 84)) (mkR b);rw [World.size_alloc] at X2;have fq:=hide ((xf w (mkR a)).below b2);have fL:=hide X2;have az:=hide (b1.trans (b2.mono b1.size));have iD:=hide (hA.below az.out);have gk:=hide (hB.below az.out);have HF:Hid (af a.p.P/\af b.p.P):=⟨fa,fb⟩;clear b1 b2 X2 hA hB fa fb;obtain ⟨wk,cq⟩:∃ wk,(w.alloc (.cells (ReC (mkR a)) 84)).alloc (.cells (ReC (mkR b)) 84)=wk:=⟨_,rfl⟩;obtain ⟨G,hG⟩:∃ G,w.heap.size=G:=⟨_,rfl⟩;rw [cq] at fq fL az iD gk;rw [hG] at fq fL;have l1:=qU fq.out;have l2:=qU fL.out;go_enter Tryz.func111,Tryz.ntmps111;go_wp2_with fail;clear cq hG l1 l2;refine (zfO a b _ iD.out gk.out HF.out.1 HF.out.2).mono ?_
 rintro e w3 ⟨rfl,b3⟩;have HE:=wTr az b3;clear b3;obtain ⟨z,hz⟩:∃ z,rcC a b=z:=⟨_,rfl⟩;rw [hz];go_wp2_with fail;go_ret;exact ⟨by rw [hz];rfl,HE.out⟩
theorem zaJ {A B:List Rc} {n k:Nat} (ha:A.length=n) (hb:B.length=n) (hk:¬ k < n) (h:plR (A.take k)=plR (B.take k)):plR A=plR B:=by
 rw [List.take_of_length_le (by omega),List.take_of_length_le (by omega)] at h;exact h
theorem bT (L:List Rc) (k:Nat) (h:k < L.length):plR (L.take (k+1))=plR (L.take k)++[rck (L.getD k rc0)]:=by
 rw [wJ L k h,zbn]
theorem zb3 {A B:List Rc} {k:Nat} (h:plR A=plR B) (ha:k < A.length) (hb:k < B.length):rck (A.getD k rc0)=rck (B.getD k rc0):=by
 have h1:(plR A)[k]? = (plR B)[k]?:=by rw [h]
 rw [yI,yI,List.getElem?_map,List.getElem?_map,List.getElem?_eq_getElem ha,List.getElem?_eq_getElem hb] at h1;simp only [Option.map_some,Option.some.injEq] at h1;rw [vR ha,vR hb,h1]
theorem zeM (ao bo:Option Addr) (n c m d:Nat) (A B:List Rc) (w:World) (hA:RcS w ao n c A) (hB:RcS w bo m d B) (fa:∀ r∈A,af r.p.P) (fb:∀ r∈B,af r.p.P):Calls Tryz.prog 110 #[.slice ao n c,.slice bo m d,.func (.func 111) #[] #[]] w fun e w'=>dr w w' e (plR A=plR B):=by
 have IL:∀ (args:Array Value) (w:World),(callFunc 111 args).run Tryz.prog w = .ok (.enter 111 args) w:=fun _ _=>rfl;have HA:=hide hA;have HB:=hide hB;have lH:Hid (A.length=n):=hA.len;have lM:Hid (B.length=m):=hB.len;have AJ:=hA.big;have HF:Hid ((∀ r∈A,af r.p.P)/\∀ r∈B,af r.p.P):=⟨fa,fb⟩;clear hA hB fa fb;by_cases hv:n=m;rotate_left
 ·have d1:((n:Int) != (m:Int))=true:=by simp;omega
  have dE:Hid (¬ plR A=plR B):=fun h=>hv (by rw [<- lH.out,<- lM.out,<- jt A,h,jt]);clear hv;go_enter Tryz.func110,Tryz.ntmps110;go_wp2_with fail;go_ret;exact ⟨false,rfl,BIf.no dE.out,Below.refl _ _⟩
 subst hv;go_enter Tryz.func110,Tryz.ntmps110;go_wp2_with fail;go_loopw [7,8,9,17] (fun _ _ _ i wr=>∃ k:Nat,k <= n/\i = .int .i64 (k:Int)/\Hid (plR (A.take k)=plR (B.take k)/\Below w.heap.size w wr)) (fun _ _ _ i _=>n - (intOf i).toNat)
 case atStart=>exact ⟨0,Nat.zero_le _,rfl,rfl,Below.refl _ _⟩
 case round =>
  obtain ⟨k,hk,rfl,HK⟩:=hrel
  rename World=>wr
  by_cases aq:k < n
  ·have dl:(k:Int) < (n:Int):=by omega
   obtain ⟨ad,rfl,A0⟩:=(HA.out.below HK.out.2).at k aq;obtain ⟨bd,rfl,-⟩:=(HB.out.below HK.out.2).at k aq;have JH:=hide ((HA.out.below HK.out.2).okAt k aq);have Kh:=hide ((HB.out.below HK.out.2).okAt k aq);have Eu:Hid (af (A.getD k rc0).p.P/\af (B.getD k rc0).p.P):=⟨HF.out.1 _ (jZ (by rw [lH.out];exact aq)),HF.out.2 _ (jZ (by rw [lM.out];exact aq))⟩;have t1:=hide (bT A k (by rw [lH.out];exact aq));have t2:=hide (bT B k (by rw [lM.out];exact aq));have FF:Hid (rck (A.getD k rc0)≠rck (B.getD k rc0) -> ¬ plR A=plR B):=fun h1 h2=>h1 (zb3 h2 (by rw [lH.out];exact aq) (by rw [lM.out];exact aq));have cj:=hide aq;obtain ⟨x,Hx⟩:∃ x,Hid (A.getD k rc0=x):=⟨_,rfl⟩;obtain ⟨y,Hy⟩:∃ y,Hid (B.getD k rc0=y):=⟨_,rfl⟩;rw [Hx.out] at A0 JH Eu t1 FF;rw [Hy.out] at Kh Eu t2 FF
   have dz:=zI A0;obtain ⟨g1,dx⟩:∃ g,wr.heap.size=g:=⟨_,rfl⟩;obtain ⟨w1,cr,X1,B1,-⟩:=dY wr (mkR x) g1 dx;have aW:=hide (HK.out.2.trans (B1.mono HK.out.2.size));have gX:=hide X1;have Fl:=hide (JH.out.below B1);have FU:=hide (Kh.out.below B1);obtain ⟨bd',e2,B0⟩:=(HB.out.below aW.out).at k cj.out;obtain rfl:=Option.some.inj e2;rw [Hy.out] at B0;have AS:=zI B0;obtain ⟨g2,gO⟩:∃ g,w1.heap.size=g:=⟨_,rfl⟩;obtain ⟨w2,Cv,X2,B2,-⟩:=dY w1 (mkR y) g2 gO;have cd:=wTr aW B2;have l1:=qU (gX.out.below B2);have l2:=qU X2;have FO:=hide (Fl.out.below B2);have Gd:=hide (FU.out.below B2);clear A0 B0 X1 B1 X2 B2 e2 aq hk;go_wp2_with fail;clear dz AS cr Cv dx gO l1 l2;refine (yy x y _ FO.out Gd.out Eu.out.1 Eu.out.2).mono ?_;rintro e w3 ⟨rfl,b3⟩
   have aN:=wTr cd b3;clear b3;by_cases he:rcC x y=0
   ·have hd:decide (rcC x y=0)=true:=decide_eq_true he;have HN:Hid (plR (A.take (k+1))=plR (B.take (k+1))/\Below w.heap.size w w3):=⟨by rw [t1.out,t2.out,HK.out.1,(kT.eq _ _).1 he],aN.out⟩;clear he;rw [hd];clear hd;go_wp2_with fail;go_roundw
    case rel=>exact ⟨k+1,cj.out,by simp,HN.out⟩
    case measure=>simp [intOf];have:=cj.out;omega
   ·have hd:decide (rcC x y=0)=false:=decide_eq_false he;have dE:Hid (¬ plR A=plR B):=FF.out fun h=>he ((kT.eq _ _).2 h);clear he;rw [hd];clear hd;go_wp2_with fail;go_ret;exact ⟨false,rfl,BIf.no dE.out,aN.out⟩
  ·have dl:¬ (k:Int) < (n:Int):=by omega
   have HE:Hid (plR A=plR B):=zaJ lH.out lM.out aq HK.out.1;have cd:=hide HK.out.2;clear aq hk;go_wp2_with fail;go_ret;exact ⟨true,rfl,BIf.yes HE.out,cd.out⟩
theorem wM (a b:Fc) (w:World) (hA:a8 w a) (hB:a8 w b) (fa:∀ r∈a.rs,af r.p.P) (fb:∀ r∈b.rs,af r.p.P):Calls Tryz.prog 74 #[FaV (mkF a),FaV (mkF b)] w fun e w'=>dr w w' e (EqS a b):=by
 obtain ⟨wk,cq,HX,HY,az,-⟩:=nA w a b;obtain ⟨G,dC⟩:∃ G,w.heap.size=G:=⟨_,rfl⟩;rw [dC] at HX HY;have HA:=hide (hA.below az.out);have HB:=hide (hB.below az.out);have HF:Hid ((∀ r∈a.rs,af r.p.P)/\∀ r∈b.rs,af r.p.P):=⟨fa,fb⟩;obtain ⟨c0,-⟩:=HX.out.cs;obtain ⟨d0,-⟩:=HY.out.cs;clear hA hB fa fb;go_enter Tryz.func74,Tryz.ntmps74;go_wp2_with fail;clear cq dC c0 d0;refine (zeO a.ao b.ao a.an a.ac b.an b.ac a.es b.es _ HA.out.es HB.out.es).mono ?_;rintro e w3 ⟨v,rfl,hv,b3⟩;have aN:=hide b3;have lp:=zi (HX.out.below b3).past;have lq:=zi (HY.out.below b3).past;clear b3
 cases v with
 | false =>
  have dE:Hid (¬ EqS a b):=fun h=>by have:=hv.2 h.1;cases this
  have HE:=wTr az aN.out;clear hv lp lq;go_wp2_with fail;go_ret;exact ⟨false,rfl,BIf.no dE.out,HE.out⟩
 | true =>
 have HV:=hide (hv.1 rfl);clear hv;go_wp2_with fail;clear lp lq;refine (wu a.p b.p _ (HA.out.p.below aN.out) (HB.out.p.below aN.out)).mono ?_;rintro e w4 ⟨v,rfl,hv,b4⟩;have aR:=wTr aN b4;obtain ⟨-,c3⟩:=(HX.out.below aR.out).cs;obtain ⟨-,d3⟩:=(HY.out.below aR.out).cs;clear b4
 cases v with
 | false =>
  have dE:Hid (¬ EqS a b):=fun h=>by have:=hv.2 h.2.1;cases this
  have HE:=wTr az aR.out;clear hv c3 d3;go_wp2_with fail;go_ret;exact ⟨false,rfl,BIf.no dE.out,HE.out⟩
 | true =>
 have HP:=hide (hv.1 rfl);clear hv;go_wp2_with fail;clear c3 d3;refine (zeM a.ro b.ro a.rn a.rc b.rn b.rc a.rs b.rs _ (HA.out.rs.below aR.out) (HB.out.rs.below aR.out) HF.out.1 HF.out.2).mono ?_;rintro e w5 ⟨v,rfl,hv,b5⟩;have HE:=hide (az.out.trans ((aR.out.trans (b5.mono aR.out.size)).mono az.out.size));have HQ:Hid (BIf v (EqS a b)):=⟨fun h=>⟨HV.out,HP.out,hv.1 h⟩,fun h=>hv.2 h.2.2⟩;clear hv b5;go_wp2_with fail;go_ret;exact ⟨v,rfl,HQ.out,HE.out⟩
end
section
open Go.RowKit
theorem yW {s t:Fc}:EqS s t↔ab s=ab t:=⟨fun h=>zdR h.1 h.2.1 h.2.2,zgN⟩
theorem FmA.rp {s:Fc} (h:FmA (ab s)):∀ r∈s.rs,af r.p.P:=fun r hr=>(h.r.1 (rck r) (List.mem_map.2 ⟨r,hr,rfl⟩)).2.1
def LeS (a b:Fc):Prop:=JnA (ab a) (ab b) (ab b)
def WiS (a b:Fc) (v:Bool) (er:Int):Prop:=(¬ (aJ a/\aJ b)/\er=1/\v=false)∨((aJ a/\aJ b)/\K.aV (a.es++b.es)/\er=10/\v=false)∨((aJ a/\aJ b)/\¬ K.aV (a.es++b.es)/\er=0/\BIf v (LeS a b))
def WiE (w w':World) (e:Ending) (a b:Fc):Prop:=∃ v er,e = .returned (.tuple #[.bool v,.int .i64 er])/\Below w.heap.size w w'/\WiS a b v er
def OrK (a b:Fc) (o:Int):Prop:=(LeS a b/\LeS b a/\o=0)∨(LeS a b/\¬ LeS b a/\o=1)∨(¬ LeS a b/\LeS b a/\o=2)∨(¬ LeS a b/\¬ LeS b a/\o=3)
def OrS (a b:Fc) (o er:Int):Prop:=(¬ (aJ a/\aJ b)/\er=1/\o=0)∨((aJ a/\aJ b)/\K.aV (a.es++b.es)/\er=10/\o=0)∨((aJ a/\aJ b)/\¬ K.aV (a.es++b.es)/\er=0/\OrK a b o)
def OrE (w w':World) (e:Ending) (a b:Fc):Prop:=∃ o er,e = .returned (.tuple #[.int .i64 o,.int .i64 er])/\Below w.heap.size w w'/\OrS a b o er
attribute [local go_sem ↓] zK zJ
attribute [local go_sem] zj zr zF
theorem zay (N M:Nat) (hNM:N+M <= 4) (a b:Fc) (w:World) (hA:SwB N w a) (hB:SwB M w b):Calls Tryz.prog 45 #[FaV (mkF a),FaV (mkF b)] w fun e w'=>OrE w w' e a b:=by
 obtain ⟨wk,cq,HX,HY,az,-⟩:=nA w a b;obtain ⟨G,dC⟩:∃ G,w.heap.size=G:=⟨_,rfl⟩;rw [dC] at HX HY;have HA:=hide (hA.below az.out);have HB:=hide (hB.below az.out);have HN:=hide hNM;have l1:=z6 HX.out;have l2:=z6 HY.out;clear hA hB hNM;go_enter Tryz.func45,Tryz.ntmps45;go_wp2_with fail;clear cq dC l1 l2;refine (wN N M HN.out a b _ HA.out HB.out).mono ?_;rintro e w3 ⟨s,er,rfl,BS,b3,DS⟩;obtain ⟨gj,Ei⟩:∃ g,w3.heap.size=g:=⟨_,rfl⟩;obtain ⟨w4,cr,X4,B4,-⟩:=fP w3 s gj Ei;have b34:=b3.trans (B4.mono b3.size);have aR:=wTr az b34;have HJ:=hide X4;have HS:=hide (BS.below B4);have Ls:=hide (HX.out.below b34);have Mw:=hide (HY.out.below b34);have IR:=hide (HB.out.below b34);have J6:=hide (HA.out.below b34);have HD:=hide (zba HA.out.ok HB.out.ok DS);clear BS b3 DS X4 B4 b34
 rcases HD.out with ⟨h,rfl,-⟩ | ⟨h,hc,rfl,-⟩ | ⟨h,hc,rfl,hj⟩
 ·have HE:Hid (OrE w w4 (.returned (.tuple #[.int .i64 0,.int .i64 1])) a b):=⟨0,1,rfl,aR.out,.inl ⟨h,rfl,rfl⟩⟩;clear h HD;go_wp2_with fail;clear cr Ei;go_ret2;exact HE.out
 ·have HE:Hid (OrE w w4 (.returned (.tuple #[.int .i64 0,.int .i64 10])) a b):=⟨0,10,rfl,aR.out,.inr (.inl ⟨h,hc,rfl,rfl⟩)⟩;clear h hc HD;go_wp2_with fail;clear cr Ei;go_ret2;exact HE.out
 ·have Ew:=hide hj;have iI:=hide h;have MZ:=hide hc;have Jz:=hide ((wd J6.out.ok).1 h.1);have re:=hide ((wd IR.out.ok).1 h.2);have iP:=hide (hj.form Jz.out re.out)
  have aw:Hid (∀ W,Below w4.heap.size w4 W -> (im (.pointer (some ⟨G,0,none⟩))).run Tryz.prog W = .ok (.agg (FaC (mkF a))) W/\(im (.pointer (some ⟨G+1,0,none⟩))).run Tryz.prog W = .ok (.agg (FaC (mkF b))) W/\(im (.pointer (some ⟨gj,0,none⟩))).run Tryz.prog W = .ok (.agg (FaC (mkF s))) W):=fun W hW =>
   ⟨z6 (Ls.out.below hW),z6 (Mw.out.below hW),z6 (HJ.out.below hW)⟩
  clear h hc hj HD;go_upto_region 4 with fail;clear cr Ei;refine wp_region_held_drew (S:=fun W=>(im (.pointer (some ⟨G,0,none⟩))).run Tryz.prog W = .ok (.agg (FaC (mkF a))) W/\(im (.pointer (some ⟨G+1,0,none⟩))).run Tryz.prog W = .ok (.agg (FaC (mkF b))) W/\(im (.pointer (some ⟨gj,0,none⟩))).run Tryz.prog W = .ok (.agg (FaC (mkF s))) W) (by kernel_rfl) (aw.out _ (zd w4)) (fun hHeld=>?_);refine wU 0 ?_;refine wU 1 ?_;refine wU 3 ?_;refine wU 4 ?_;refine wR 2 fun K hK=>?_;go_simp;go_wp2_with fail;refine (wM s b _ (HS.out.ok.below (zd w4)) (IR.out.ok.below (zd w4)) iP.out.rp re.out.rp).mono ?_;rintro e w7 ⟨x,rfl,hx,b0⟩;have cM:Hid (Below w4.heap.size w4 w7):=(zd w4).trans b0;have Hx:=hide hx;have oq:=hide (aw.out _ cM.out);refine hK.out _ _ oq.out (fun hHeld=>?_)
  clear hK K b0 oq hx;refine wR 5 fun K hK=>?_;go_simp;go_wp2_with fail;refine (wM s a _ (HS.out.ok.below cM.out) (J6.out.ok.below cM.out) iP.out.rp Jz.out.rp).mono ?_;rintro e w8 ⟨y,rfl,hy,b0⟩;have iz:Hid (Below w4.heap.size w4 w8):=cM.out.trans (b0.mono cM.out.size);have Hy:=hide hy;have oq:=hide (aw.out _ iz.out);refine hK.out _ _ oq.out (fun hHeld=>?_);clear hK K b0 oq hy;refine wU 6 ?_;refine wU 7 ?_;refine wD ?_ _;clear hHeld;have HP:Hid (BIf x (LeS a b)):=⟨fun h=>by have h1:=Ew.out;rw [yW.1 (Hx.out.1 h)] at h1;exact h1,fun h=>Hx.out.2 (yW.2 (Ew.out.uniq h))⟩;have HQ:Hid (BIf y (LeS b a)):=⟨fun h=>by have h1:=Ew.out.comm;rw [yW.1 (Hy.out.1 h)] at h1;exact h1,fun h=>Hy.out.2 (yW.2 (Ew.out.comm.uniq h))⟩
  have HE:Hid (∀ o,OrK a b o -> OrE w w8 (.returned (.tuple #[.int .i64 o,.int .i64 0])) a b):=fun o ho=>⟨o,0,rfl,aR.out.trans (iz.out.mono aR.out.size),.inr (.inr ⟨iI.out,MZ.out,rfl,ho⟩)⟩;clear Hx Hy aw
  cases x with
  | true =>
   cases y with
   | true =>
    have HO:Hid (OrK a b 0):=.inl ⟨HP.out.1 rfl,HQ.out.1 rfl,rfl⟩;go_wp2_with fail;go_ret2;exact HE.out 0 HO.out
   | false =>
    have HO:Hid (OrK a b 1):=.inr (.inl ⟨HP.out.1 rfl,(fun h=>by have:=HQ.out.2 h;cases this),rfl⟩);go_wp2_with fail;go_ret2;exact HE.out 1 HO.out
  | false =>
   cases y with
   | true =>
    have HO:Hid (OrK a b 2):=.inr (.inr (.inl ⟨(fun h=>by have:=HP.out.2 h;cases this),HQ.out.1 rfl,rfl⟩));go_wp2_with fail;go_ret2;exact HE.out 2 HO.out
   | false =>
    have HO:Hid (OrK a b 3):=.inr (.inr (.inr ⟨(fun h=>by have:=HP.out.2 h;cases this),(fun h=>by have:=HQ.out.2 h;cases this),rfl⟩));go_wp2_with fail;go_ret2;exact HE.out 3 HO.out
end
end Go.Proofs.YtcilfelgpmfehaaGreat
