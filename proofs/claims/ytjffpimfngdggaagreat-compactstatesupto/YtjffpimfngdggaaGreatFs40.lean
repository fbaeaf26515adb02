/- SYf SYg YEb -/
import Derived.Test.YtjffpimfngdggaaGreatTk
import Derived.Test.YtjffpimfngdggaaGreatFs37
import Derived.Test.YtjffpimfngdggaaGreatFs39
import Derived.Test.YtjffpimfngdggaaGreatFs38
import Derived.Test.YtjffpimfngdggaaGreatFs36
set_option maxRecDepth 100000
set_option maxHeartbeats 3200000
namespace Go.Proofs.YtjffpimfngdggaaGreat
section
open Go.RowKit
theorem zaj {α : Type} {A B:List α} {n k:Nat} (ha:A.length=n) (hb:B.length=n) (hk:¬ k < n) (h:A.take k=B.take k):A=B:=by
 rw [List.take_of_length_le (by omega),List.take_of_length_le (by omega)] at h;exact h
theorem yM (L:List K.En) (k:Nat) (h:k < L.length):L.take (k+1)=L.take k++[L.getD k K.en0]:=by
 rw [List.take_succ_eq_append_getElem h];simp [List.getD,h]
attribute [local go_sem ↓] zr zq ji K.zy K.zx zL zK qd zZ
attribute [local go_sem] zi zk zE K.zu K.zH K.zJ zl zp zv zI zU qi
theorem zgR (ao bo:Option Addr) (n c m d:Nat) (A B:List K.En) (w:World) (hA:K.ESrc w ao n c A) (hB:K.ESrc w bo m d B):Calls Tryz.prog 125 #[.slice ao n c,.slice bo m d] w fun e w'=>GivB w w' e (A=B):=by
 have HA:=hide hA;have HB:=hide hB;have HLa:Hid (A.length=n):=hA.1;have HLb:Hid (B.length=m):=hB.1
 have hba:n <= 17592186044415:=by have:=hA.2.2.2.2;omega
 clear hA hB;by_cases hv:n=m;rotate_left
 ·have d1:((n:Int) != (m:Int))=true:=by simp;omega
  have HNO:Hid (¬ A=B):=fun h=>hv (by rw [<- HLa.out,<- HLb.out,h]);clear hv;go_enter Tryz.func125,Tryz.ntmps125;go_wp2_with fail;go_ret;exact ⟨false,rfl,BIf.no HNO.out,Below.refl _ _⟩
 subst hv;go_enter Tryz.func125,Tryz.ntmps125;go_wp2_with fail;go_loopw [5,13] (fun _ i wr=>∃ k:Nat,k <= n/\i = .int .i64 (k:Int)/\Hid (A.take k=B.take k/\Below w.heap.size w wr)) (fun _ i _=>n - (intOf i).toNat)
 case atStart=>exact ⟨0,Nat.zero_le _,rfl,rfl,Below.refl _ _⟩
 case round =>
  obtain ⟨k,hk,rfl,HK⟩:=hrel
  rename World=>wr
  by_cases hlt:k < n
  ·have hlti:(k:Int) < (n:Int):=by omega
   obtain ⟨ad,rfl,-⟩:=K.ESrc.at (HA.out.below HK.out.2) k hlt;obtain ⟨bd,rfl,-⟩:=K.ESrc.at (HB.out.below HK.out.2) k hlt;have t1:=hide (yM A k (by rw [HLa.out];exact hlt));have t2:=hide (yM B k (by rw [HLb.out];exact hlt));have Hlt:=hide hlt;obtain ⟨x,Hx⟩:∃ x,Hid (A.getD k K.en0=x):=⟨_,rfl⟩;obtain ⟨y,Hy⟩:∃ y,Hid (B.getD k K.en0=y):=⟨_,rfl⟩;rw [Hx.out] at t1;rw [Hy.out] at t2
   have HSt:Hid (∀ W,Below wr.heap.size wr W -> (K.ld28 (.pointer (some (ad.add (k * 4))))).run Tryz.prog W = .ok (K.EV x) W/\(K.ld28 (.pointer (some (bd.add (k * 4))))).run Tryz.prog W = .ok (K.EV y) W):=fun W hW=>by
    obtain ⟨ad',e1,A1⟩:=K.ESrc.at ((HA.out.below HK.out.2).below hW) k Hlt.out;obtain ⟨bd',e2,B1⟩:=K.ESrc.at ((HB.out.below HK.out.2).below hW) k Hlt.out;obtain rfl:=Option.some.inj e1;obtain rfl:=Option.some.inj e2;rw [Hx.out] at A1;rw [Hy.out] at B1;exact ⟨K.zN A1,K.zN B1⟩
   have HBd:=hide (HK.out.2.trans ((zf wr).mono HK.out.2.size));clear hlt hk;by_cases he:x=y
   ·have leq:∀ W:World,(Op.equalIn 10000 50 (K.EV x) (K.EV y)).run Tryz.prog W = .ok true W:=fun W=>(K.qz x y W).trans (congrArg (fun b=>Result.ok b W) ((K.zc4 x y).2 he));have HN:Hid (A.take (k+1)=B.take (k+1)/\Below w.heap.size w wr.drew):=⟨by rw [t1.out,t2.out,HK.out.1,he],HBd.out⟩;clear he;go_upto_region 6 with fail;refine wp_region_held_drew (S:=fun W=>(K.ld28 (.pointer (some (ad.add (k * 4))))).run Tryz.prog W = .ok (K.EV x) W/\(K.ld28 (.pointer (some (bd.add (k * 4))))).run Tryz.prog W = .ok (K.EV y) W) (by kernel_rfl) (HSt.out _ (zf wr)) (fun hHeld=>?_);refine wU 0 ?_;refine wU 1 ?_;refine wU 2 ?_;refine wU 3 ?_;refine wU 4 ?_;refine wU 5 ?_;refine wU 6 ?_;refine wU 7 ?_;refine wU 8 ?_;refine wpAnyH_done (by kernel_rfl) ?_ _;clear hHeld;clear leq;go_wp2_with fail;go_roundw
    case rel=>exact ⟨k+1,Hlt.out,by simp,HN.out⟩
    case measure=>simp [intOf];have:=Hlt.out;omega
   ·have leq:∀ W:World,(Op.equalIn 10000 50 (K.EV x) (K.EV y)).run Tryz.prog W = .ok false W:=fun W=>(K.qz x y W).trans (congrArg (fun b=>Result.ok b W) (Bool.eq_false_iff.2 fun h=>he ((K.zc4 x y).1 h)));have HNO:Hid (¬ A=B):=fun h=>he (by rw [<- Hx.out,<- Hy.out,h]);clear he;go_upto_region 6 with fail;refine wp_region_held_drew (S:=fun W=>(K.ld28 (.pointer (some (ad.add (k * 4))))).run Tryz.prog W = .ok (K.EV x) W/\(K.ld28 (.pointer (some (bd.add (k * 4))))).run Tryz.prog W = .ok (K.EV y) W) (by kernel_rfl) (HSt.out _ (zf wr)) (fun hHeld=>?_);refine wU 0 ?_;refine wU 1 ?_;refine wU 2 ?_;refine wU 3 ?_;refine wU 4 ?_;refine wU 5 ?_;refine wU 6 ?_;refine wU 7 ?_;refine wU 8 ?_;refine wpAnyH_done (by kernel_rfl) ?_ _;clear hHeld;clear leq;go_wp2_with fail;go_ret;exact ⟨false,rfl,BIf.no HNO.out,HBd.out⟩
  ·have hlti:¬ (k:Int) < (n:Int):=by omega
   have HE:Hid (A=B):=zaj HLa.out HLb.out hlt HK.out.1;have HB2:=hide HK.out.2;clear hlt hk;go_wp2_with fail;go_ret;exact ⟨true,rfl,BIf.yes HE.out,HB2.out⟩
theorem zgQ (ao bo:Option Addr) (n c m d:Nat) (A B:List Int) (w:World) (hn:n <= 17592186044415) (hA:V.Src w ao n c A) (hB:V.Src w bo m d B):Calls Tryz.prog 171 #[.slice ao n c,.slice bo m d] w fun e w'=>GivB w w' e (A=B):=by
 have HA:=hide hA;have HB:=hide hB;have HLa:Hid (A.length=n):=hA.1;have HLb:Hid (B.length=m):=hB.1;clear hA hB;by_cases hv:n=m;rotate_left
 ·have d1:((n:Int) != (m:Int))=true:=by simp;omega
  have HNO:Hid (¬ A=B):=fun h=>hv (by rw [<- HLa.out,<- HLb.out,h]);clear hv;go_enter Tryz.func171,Tryz.ntmps171;go_wp2_with fail;go_ret;exact ⟨false,rfl,BIf.no HNO.out,Below.refl _ _⟩
 subst hv;go_enter Tryz.func171,Tryz.ntmps171;go_wp2_with fail;go_loopw [5,13] (fun _ i wr=>∃ k:Nat,k <= n/\i = .int .i64 (k:Int)/\Hid (A.take k=B.take k/\Below w.heap.size w wr)) (fun _ i _=>n - (intOf i).toNat)
 case atStart=>exact ⟨0,Nat.zero_le _,rfl,rfl,Below.refl _ _⟩
 case round =>
  obtain ⟨k,hk,rfl,HK⟩:=hrel
  rename World=>wr
  by_cases hlt:k < n
  ·have hlti:(k:Int) < (n:Int):=by omega
   obtain ⟨ad,rfl,-⟩:=vw (HA.out.below HK.out.2) k hlt;obtain ⟨bd,rfl,-⟩:=vw (HB.out.below HK.out.2) k hlt;have t1:=hide (j4 A k (by rw [HLa.out];exact hlt));have t2:=hide (j4 B k (by rw [HLb.out];exact hlt));have Hlt:=hide hlt;obtain ⟨x,Hx⟩:∃ x,Hid (A.getD k 0=x):=⟨_,rfl⟩;obtain ⟨y,Hy⟩:∃ y,Hid (B.getD k 0=y):=⟨_,rfl⟩;rw [Hx.out] at t1;rw [Hy.out] at t2
   have HSt:Hid (∀ W,Below wr.heap.size wr W -> W.cell? (ad.add k)=some (.int .i64 x)/\W.cell? (bd.add k)=some (.int .i64 y)):=fun W hW=>by
    obtain ⟨ad',e1,A1⟩:=vw ((HA.out.below HK.out.2).below hW) k Hlt.out;obtain ⟨bd',e2,B1⟩:=vw ((HB.out.below HK.out.2).below hW) k Hlt.out;obtain rfl:=Option.some.inj e1;obtain rfl:=Option.some.inj e2;rw [Hx.out] at A1;rw [Hy.out] at B1;exact ⟨A1,B1⟩
   have HBd:=hide (HK.out.2.trans ((zf wr).mono HK.out.2.size));clear hlt hk;by_cases he:x=y
   ·have leq:(x != y)=false:=by simp [he]
    have HN:Hid (A.take (k+1)=B.take (k+1)/\Below w.heap.size w wr.drew):=⟨by rw [t1.out,t2.out,HK.out.1,he],HBd.out⟩;clear he;go_upto_region 6 with fail;refine wp_region_held_drew (S:=fun W=>W.cell? (ad.add k)=some (.int .i64 x)/\W.cell? (bd.add k)=some (.int .i64 y)) (by kernel_rfl) (HSt.out _ (zf wr)) (fun hHeld=>?_);refine wU 0 ?_;refine wU 1 ?_;refine wU 2 ?_;refine wU 3 ?_;refine wU 4 ?_;refine wU 5 ?_;refine wU 6 ?_;refine wU 7 ?_;refine wU 8 ?_;refine wpAnyH_done (by kernel_rfl) ?_ _;clear hHeld;clear leq;go_wp2_with fail;go_roundw
    case rel=>exact ⟨k+1,Hlt.out,by simp,HN.out⟩
    case measure=>simp [intOf];have:=Hlt.out;omega
   ·have leq:(x != y)=true:=by simp [he]
    have HNO:Hid (¬ A=B):=fun h=>he (by rw [<- Hx.out,<- Hy.out,h]);clear he;go_upto_region 6 with fail;refine wp_region_held_drew (S:=fun W=>W.cell? (ad.add k)=some (.int .i64 x)/\W.cell? (bd.add k)=some (.int .i64 y)) (by kernel_rfl) (HSt.out _ (zf wr)) (fun hHeld=>?_);refine wU 0 ?_;refine wU 1 ?_;refine wU 2 ?_;refine wU 3 ?_;refine wU 4 ?_;refine wU 5 ?_;refine wU 6 ?_;refine wU 7 ?_;refine wU 8 ?_;refine wpAnyH_done (by kernel_rfl) ?_ _;clear hHeld;clear leq;go_wp2_with fail;go_ret;exact ⟨false,rfl,BIf.no HNO.out,HBd.out⟩
  ·have hlti:¬ (k:Int) < (n:Int):=by omega
   have HE:Hid (A=B):=zaj HLa.out HLb.out hlt HK.out.1;have HB2:=hide HK.out.2;clear hlt hk;go_wp2_with fail;go_ret;exact ⟨true,rfl,BIf.yes HE.out,HB2.out⟩
theorem zgO (ao bo:Option Addr) (n c m d:Nat) (A B:List Sn) (w:World) (hA:SSrc w ao n c A) (hB:SSrc w bo m d B):Calls Tryz.prog 172 #[.slice ao n c,.slice bo m d] w fun e w'=>GivB w w' e (A=B):=by
 have HA:=hide hA;have HB:=hide hB;have HLa:Hid (A.length=n):=hA.len;have HLb:Hid (B.length=m):=hB.len
 have hba:n <= 17592186044415:=by have:=hA.big;omega
 clear hA hB;by_cases hv:n=m;rotate_left
 ·have d1:((n:Int) != (m:Int))=true:=by simp;omega
  have HNO:Hid (¬ A=B):=fun h=>hv (by rw [<- HLa.out,<- HLb.out,h]);clear hv;go_enter Tryz.func172,Tryz.ntmps172;go_wp2_with fail;go_ret;exact ⟨false,rfl,BIf.no HNO.out,Below.refl _ _⟩
 subst hv;go_enter Tryz.func172,Tryz.ntmps172;go_wp2_with fail;go_loopw [5,13] (fun _ i wr=>∃ k:Nat,k <= n/\i = .int .i64 (k:Int)/\Hid (A.take k=B.take k/\Below w.heap.size w wr)) (fun _ i _=>n - (intOf i).toNat)
 case atStart=>exact ⟨0,Nat.zero_le _,rfl,rfl,Below.refl _ _⟩
 case round =>
  obtain ⟨k,hk,rfl,HK⟩:=hrel
  rename World=>wr
  by_cases hlt:k < n
  ·have hlti:(k:Int) < (n:Int):=by omega
   obtain ⟨ad,rfl,-⟩:=SSrc.at (HA.out.below HK.out.2) k hlt;obtain ⟨bd,rfl,-⟩:=SSrc.at (HB.out.below HK.out.2) k hlt;have t1:=hide (j0 A k (by rw [HLa.out];exact hlt));have t2:=hide (j0 B k (by rw [HLb.out];exact hlt));have Hlt:=hide hlt;obtain ⟨x,Hx⟩:∃ x,Hid (A.getD k sn0=x):=⟨_,rfl⟩;obtain ⟨y,Hy⟩:∃ y,Hid (B.getD k sn0=y):=⟨_,rfl⟩;rw [Hx.out] at t1;rw [Hy.out] at t2
   have HSt:Hid (∀ W,Below wr.heap.size wr W -> (ldS (.pointer (some (ad.add (k * 3))))).run Tryz.prog W = .ok (SV x) W/\(ldS (.pointer (some (bd.add (k * 3))))).run Tryz.prog W = .ok (SV y) W):=fun W hW=>by
    obtain ⟨ad',e1,A1⟩:=SSrc.at ((HA.out.below HK.out.2).below hW) k Hlt.out;obtain ⟨bd',e2,B1⟩:=SSrc.at ((HB.out.below HK.out.2).below hW) k Hlt.out;obtain rfl:=Option.some.inj e1;obtain rfl:=Option.some.inj e2;rw [Hx.out] at A1;rw [Hy.out] at B1;exact ⟨ql A1,ql B1⟩
   have HBd:=hide (HK.out.2.trans ((zf wr).mono HK.out.2.size));clear hlt hk;by_cases he:x=y
   ·have leq:∀ W:World,(Op.equalIn 10000 104 (SV x) (SV y)).run Tryz.prog W = .ok true W:=fun W=>(zbO x y W).trans (congrArg (fun b=>Result.ok b W) ((zcb x y).2 he));have HN:Hid (A.take (k+1)=B.take (k+1)/\Below w.heap.size w wr.drew):=⟨by rw [t1.out,t2.out,HK.out.1,he],HBd.out⟩;clear he;go_upto_region 6 with fail;refine wp_region_held_drew (S:=fun W=>(ldS (.pointer (some (ad.add (k * 3))))).run Tryz.prog W = .ok (SV x) W/\(ldS (.pointer (some (bd.add (k * 3))))).run Tryz.prog W = .ok (SV y) W) (by kernel_rfl) (HSt.out _ (zf wr)) (fun hHeld=>?_);refine wU 0 ?_;refine wU 1 ?_;refine wU 2 ?_;refine wU 3 ?_;refine wU 4 ?_;refine wU 5 ?_;refine wU 6 ?_;refine wU 7 ?_;refine wU 8 ?_;refine wpAnyH_done (by kernel_rfl) ?_ _;clear hHeld;clear leq;go_wp2_with fail;go_roundw
    case rel=>exact ⟨k+1,Hlt.out,by simp,HN.out⟩
    case measure=>simp [intOf];have:=Hlt.out;omega
   ·have leq:∀ W:World,(Op.equalIn 10000 104 (SV x) (SV y)).run Tryz.prog W = .ok false W:=fun W=>(zbO x y W).trans (congrArg (fun b=>Result.ok b W) (Bool.eq_false_iff.2 fun h=>he ((zcb x y).1 h)));have HNO:Hid (¬ A=B):=fun h=>he (by rw [<- Hx.out,<- Hy.out,h]);clear he;go_upto_region 6 with fail;refine wp_region_held_drew (S:=fun W=>(ldS (.pointer (some (ad.add (k * 3))))).run Tryz.prog W = .ok (SV x) W/\(ldS (.pointer (some (bd.add (k * 3))))).run Tryz.prog W = .ok (SV y) W) (by kernel_rfl) (HSt.out _ (zf wr)) (fun hHeld=>?_);refine wU 0 ?_;refine wU 1 ?_;refine wU 2 ?_;refine wU 3 ?_;refine wU 4 ?_;refine wU 5 ?_;refine wU 6 ?_;refine wU 7 ?_;refine wU 8 ?_;refine wpAnyH_done (by kernel_rfl) ?_ _;clear hHeld;clear leq;go_wp2_with fail;go_ret;exact ⟨false,rfl,BIf.no HNO.out,HBd.out⟩
  ·have hlti:¬ (k:Int) < (n:Int):=by omega
   have HE:Hid (A=B):=zaj HLa.out HLb.out hlt HK.out.1;have HB2:=hide HK.out.2;clear hlt hk;go_wp2_with fail;go_ret;exact ⟨true,rfl,BIf.yes HE.out,HB2.out⟩
theorem yF (a b:Pv) (w:World) (hA:PSrc w a) (hB:PSrc w b):Calls Tryz.prog 126 #[PV a,PV b] w fun e w'=>GivB w w' e (a.P=b.P):=by
 have b1:=ze w (.cells (PC a) 26);have b2:=ze (w.alloc (.cells (PC a) 26)) (.cells (PC b) 26);have p2:=zm (w.alloc (.cells (PC a) 26)) b;rw [World.size_alloc] at p2;have HPA:=hide ((zm w a).below b2);have HPB:=hide p2;have HBK:=hide (b1.trans (b2.mono b1.size));have HSA:=hide (hA.below HBK.out);have HSB:=hide (hB.below HBK.out);obtain ⟨wk,hwk⟩:∃ wk,(w.alloc (.cells (PC a) 26)).alloc (.cells (PC b) 26)=wk:=⟨_,rfl⟩;obtain ⟨G,hG0⟩:∃ G,w.heap.size=G:=⟨_,rfl⟩;rw [hwk] at HPA HPB HBK HSA HSB;rw [hG0] at HPA HPB;obtain ⟨a0,a1⟩:=HPA.out.nums;obtain ⟨c0,c1⟩:=HPB.out.nums;clear b1 b2 p2 hA hB;go_enter Tryz.func126,Tryz.ntmps126;go_wp2_with fail;clear hwk hG0 a0 a1 c0 c1;refine (zgQ a.vo b.vo a.vn a.vc b.vn b.vc a.P.vec b.P.vec _ HSA.out.big HSA.out.vec HSB.out.vec).mono ?_;rintro e w3 ⟨v,rfl,hv,b3⟩;have HB3:=hide b3
 obtain ⟨a0,a1⟩:=(HPA.out.below b3).nums;obtain ⟨c0,c1⟩:=(HPB.out.below b3).nums;clear b3
 cases v with
 | false =>
  have HNO:Hid (¬ a.P=b.P):=fun h=>by have:=hv.2 (congrArg Pst.vec h);cases this
  have HE:=wTr HBK HB3.out;clear hv a0 a1 c0 c1;go_wp2_with fail;go_ret;exact ⟨false,rfl,BIf.no HNO.out,HE.out⟩
 | true =>
 have HV:=hide (hv.1 rfl);clear hv;go_wp2_with fail;clear a0 a1 c0 c1;refine (zgO a.co b.co a.cn a.cc b.cn b.cc a.P.cloud b.P.cloud _ (HSA.out.below HB3.out).cloud (HSB.out.below HB3.out).cloud).mono ?_;rintro e w4 ⟨v,rfl,hv,b4⟩;have HE:=hide (HBK.out.trans ((HB3.out.trans (b4.mono HB3.out.size)).mono HBK.out.size))
 have HQ:Hid (BIf v (a.P=b.P)):=⟨fun h=>by
  have h1:=HV.out;have h2:=hv.1 h
  cases hp:a.P
  cases hq:b.P
  rw [hp,hq] at h1 h2;simp only at h1 h2
  rw [h1,h2],fun h=>hv.2 (congrArg Pst.cloud h)⟩
 clear hv b4;go_wp2_with fail;go_ret;exact ⟨v,rfl,HQ.out,HE.out⟩
theorem bC (a b:Rc) (w:World) (hA:RcOk w a) (hB:RcOk w b) (fa:InForm a.p.P) (fb:InForm b.p.P):Calls Tryz.prog 128 #[ReV (mkR a),ReV (mkR b)] w fun e w'=>e = .returned (.bool (decide (rcC a b=0)))/\Below w.heap.size w w':=by
 have b1:=ze w (.cells (ReC (mkR a)) 78);have b2:=ze (w.alloc (.cells (ReC (mkR a)) 78)) (.cells (ReC (mkR b)) 78);have X2:=qj (w.alloc (.cells (ReC (mkR a)) 78)) (mkR b);rw [World.size_alloc] at X2;have HXA:=hide ((qj w (mkR a)).below b2);have HXB:=hide X2;have HBK:=hide (b1.trans (b2.mono b1.size));have HSA:=hide (hA.below HBK.out);have HSB:=hide (hB.below HBK.out);have HF:Hid (InForm a.p.P/\InForm b.p.P):=⟨fa,fb⟩;clear b1 b2 X2 hA hB fa fb;obtain ⟨wk,hwk⟩:∃ wk,(w.alloc (.cells (ReC (mkR a)) 78)).alloc (.cells (ReC (mkR b)) 78)=wk:=⟨_,rfl⟩;obtain ⟨G,hG⟩:∃ G,w.heap.size=G:=⟨_,rfl⟩;rw [hwk] at HXA HXB HBK HSA HSB;rw [hG] at HXA HXB;have l1:=qH HXA.out;have l2:=qH HXB.out;go_enter Tryz.func128,Tryz.ntmps128;go_wp2_with fail;clear hwk hG l1 l2;refine (zb1 a b _ HSA.out HSB.out HF.out.1 HF.out.2).mono ?_
 rintro e w3 ⟨rfl,b3⟩;have HE:=wTr HBK b3;clear b3;obtain ⟨z,hz⟩:∃ z,rcC a b=z:=⟨_,rfl⟩;rw [hz];go_wp2_with fail;go_ret;exact ⟨by rw [hz];rfl,HE.out⟩
theorem zb3 {A B:List Rc} {n k:Nat} (ha:A.length=n) (hb:B.length=n) (hk:¬ k < n) (h:plR (A.take k)=plR (B.take k)):plR A=plR B:=by
 rw [List.take_of_length_le (by omega),List.take_of_length_le (by omega)] at h;exact h
theorem za8 (L:List Rc) (k:Nat) (h:k < L.length):plR (L.take (k+1))=plR (L.take k)++[rck (L.getD k rc0)]:=by
 rw [vy L k h,yi]
theorem zdA {A B:List Rc} {k:Nat} (h:plR A=plR B) (ha:k < A.length) (hb:k < B.length):rck (A.getD k rc0)=rck (B.getD k rc0):=by
 have h1:(plR A)[k]? = (plR B)[k]?:=by rw [h]
 rw [vI,vI,List.getElem?_map,List.getElem?_map,List.getElem?_eq_getElem ha,List.getElem?_eq_getElem hb] at h1;simp only [Option.map_some,Option.some.injEq] at h1;rw [jN ha,jN hb,h1]
theorem zgP (ao bo:Option Addr) (n c m d:Nat) (A B:List Rc) (w:World) (hA:RcS w ao n c A) (hB:RcS w bo m d B) (fa:∀ r∈A,InForm r.p.P) (fb:∀ r∈B,InForm r.p.P):Calls Tryz.prog 127 #[.slice ao n c,.slice bo m d,.func (.func 128) #[] #[]] w fun e w'=>GivB w w' e (plR A=plR B):=by
 have hcf:∀ (args:Array Value) (w:World),(callFunc 128 args).run Tryz.prog w = .ok (.enter 128 args) w:=fun _ _=>rfl;have HA:=hide hA;have HB:=hide hB;have HLa:Hid (A.length=n):=hA.len;have HLb:Hid (B.length=m):=hB.len;have hba:=hA.big;have HF:Hid ((∀ r∈A,InForm r.p.P)/\∀ r∈B,InForm r.p.P):=⟨fa,fb⟩;clear hA hB fa fb;by_cases hv:n=m;rotate_left
 ·have d1:((n:Int) != (m:Int))=true:=by simp;omega
  have HNO:Hid (¬ plR A=plR B):=fun h=>hv (by rw [<- HLa.out,<- HLb.out,<- jO A,h,jO]);clear hv;go_enter Tryz.func127,Tryz.ntmps127;go_wp2_with fail;go_ret;exact ⟨false,rfl,BIf.no HNO.out,Below.refl _ _⟩
 subst hv;go_enter Tryz.func127,Tryz.ntmps127;go_wp2_with fail;go_loopw [7,8,9,17] (fun _ _ _ i wr=>∃ k:Nat,k <= n/\i = .int .i64 (k:Int)/\Hid (plR (A.take k)=plR (B.take k)/\Below w.heap.size w wr)) (fun _ _ _ i _=>n - (intOf i).toNat)
 case atStart=>exact ⟨0,Nat.zero_le _,rfl,rfl,Below.refl _ _⟩
 case round =>
  obtain ⟨k,hk,rfl,HK⟩:=hrel
  rename World=>wr
  by_cases hlt:k < n
  ·have hlti:(k:Int) < (n:Int):=by omega
   obtain ⟨ad,rfl,A0⟩:=(HA.out.below HK.out.2).at k hlt;obtain ⟨bd,rfl,-⟩:=(HB.out.below HK.out.2).at k hlt;have HOx:=hide ((HA.out.below HK.out.2).okAt k hlt);have HOy:=hide ((HB.out.below HK.out.2).okAt k hlt);have HFx:Hid (InForm (A.getD k rc0).p.P/\InForm (B.getD k rc0).p.P):=⟨HF.out.1 _ (jm (by rw [HLa.out];exact hlt)),HF.out.2 _ (jm (by rw [HLb.out];exact hlt))⟩;have t1:=hide (za8 A k (by rw [HLa.out];exact hlt));have t2:=hide (za8 B k (by rw [HLb.out];exact hlt));have HNe:Hid (rck (A.getD k rc0)≠rck (B.getD k rc0) -> ¬ plR A=plR B):=fun h1 h2=>h1 (zdA h2 (by rw [HLa.out];exact hlt) (by rw [HLb.out];exact hlt));have Hlt:=hide hlt;obtain ⟨x,Hx⟩:∃ x,Hid (A.getD k rc0=x):=⟨_,rfl⟩;obtain ⟨y,Hy⟩:∃ y,Hid (B.getD k rc0=y):=⟨_,rfl⟩;rw [Hx.out] at A0 HOx HFx t1 HNe;rw [Hy.out] at HOy HFx t2 HNe
   have hld:=zz A0;obtain ⟨g1,hg1⟩:∃ g,wr.heap.size=g:=⟨_,rfl⟩;obtain ⟨w1,hst,X1,B1,-⟩:=madeRe wr (mkR x) g1 hg1;have HB1:=hide (HK.out.2.trans (B1.mono HK.out.2.size));have HX1:=hide X1;have HOx1:=hide (HOx.out.below B1);have HOy1:=hide (HOy.out.below B1);obtain ⟨bd',e2,B0⟩:=(HB.out.below HB1.out).at k Hlt.out;obtain rfl:=Option.some.inj e2;rw [Hy.out] at B0;have hld2:=zz B0;obtain ⟨g2,hg2⟩:∃ g,w1.heap.size=g:=⟨_,rfl⟩;obtain ⟨w2,hst2,X2,B2,-⟩:=madeRe w1 (mkR y) g2 hg2;have HB2:=wTr HB1 B2;have l1:=qH (HX1.out.below B2);have l2:=qH X2;have HOx2:=hide (HOx1.out.below B2);have HOy2:=hide (HOy1.out.below B2);clear A0 B0 X1 B1 X2 B2 e2 hlt hk;go_wp2_with fail;clear hld hld2 hst hst2 hg1 hg2 l1 l2;refine (bC x y _ HOx2.out HOy2.out HFx.out.1 HFx.out.2).mono ?_;rintro e w3 ⟨rfl,b3⟩
   have HB3:=wTr HB2 b3;clear b3;by_cases he:rcC x y=0
   ·have hd:decide (rcC x y=0)=true:=decide_eq_true he;have HN:Hid (plR (A.take (k+1))=plR (B.take (k+1))/\Below w.heap.size w w3):=⟨by rw [t1.out,t2.out,HK.out.1,(jv.eq _ _).1 he],HB3.out⟩;clear he;rw [hd];clear hd;go_wp2_with fail;go_roundw
    case rel=>exact ⟨k+1,Hlt.out,by simp,HN.out⟩
    case measure=>simp [intOf];have:=Hlt.out;omega
   ·have hd:decide (rcC x y=0)=false:=decide_eq_false he;have HNO:Hid (¬ plR A=plR B):=HNe.out fun h=>he ((jv.eq _ _).2 h);clear he;rw [hd];clear hd;go_wp2_with fail;go_ret;exact ⟨false,rfl,BIf.no HNO.out,HB3.out⟩
  ·have hlti:¬ (k:Int) < (n:Int):=by omega
   have HE:Hid (plR A=plR B):=zb3 HLa.out HLb.out hlt HK.out.1;have HB2:=hide HK.out.2;clear hlt hk;go_wp2_with fail;go_ret;exact ⟨true,rfl,BIf.yes HE.out,HB2.out⟩
theorem yP (a b:Fc) (w:World) (hA:FcOk w a) (hB:FcOk w b) (fa:∀ r∈a.rs,InForm r.p.P) (fb:∀ r∈b.rs,InForm r.p.P):Calls Tryz.prog 76 #[FaV (mkF a),FaV (mkF b)] w fun e w'=>GivB w w' e (EqS a b):=by
 obtain ⟨wk,hwk,HX,HY,HBK,-⟩:=box2J w a b;obtain ⟨G,hG0⟩:∃ G,w.heap.size=G:=⟨_,rfl⟩;rw [hG0] at HX HY;have HA:=hide (hA.below HBK.out);have HB:=hide (hB.below HBK.out);have HF:Hid ((∀ r∈a.rs,InForm r.p.P)/\∀ r∈b.rs,InForm r.p.P):=⟨fa,fb⟩;obtain ⟨c0,-⟩:=HX.out.cs;obtain ⟨d0,-⟩:=HY.out.cs;clear hA hB fa fb;go_enter Tryz.func76,Tryz.ntmps76;go_wp2_with fail;clear hwk hG0 c0 d0;refine (zgR a.ao b.ao a.an a.ac b.an b.ac a.es b.es _ HA.out.es HB.out.es).mono ?_;rintro e w3 ⟨v,rfl,hv,b3⟩;have HB3:=hide b3;have lp:=zj (HX.out.below b3).past;have lq:=zj (HY.out.below b3).past;clear b3
 cases v with
 | false =>
  have HNO:Hid (¬ EqS a b):=fun h=>by have:=hv.2 h.1;cases this
  have HE:=wTr HBK HB3.out;clear hv lp lq;go_wp2_with fail;go_ret;exact ⟨false,rfl,BIf.no HNO.out,HE.out⟩
 | true =>
 have HV:=hide (hv.1 rfl);clear hv;go_wp2_with fail;clear lp lq;refine (yF a.p b.p _ (HA.out.p.below HB3.out) (HB.out.p.below HB3.out)).mono ?_;rintro e w4 ⟨v,rfl,hv,b4⟩;have HB4:=wTr HB3 b4;obtain ⟨-,c3⟩:=(HX.out.below HB4.out).cs;obtain ⟨-,d3⟩:=(HY.out.below HB4.out).cs;clear b4
 cases v with
 | false =>
  have HNO:Hid (¬ EqS a b):=fun h=>by have:=hv.2 h.2.1;cases this
  have HE:=wTr HBK HB4.out;clear hv c3 d3;go_wp2_with fail;go_ret;exact ⟨false,rfl,BIf.no HNO.out,HE.out⟩
 | true =>
 have HP:=hide (hv.1 rfl);clear hv;go_wp2_with fail;clear c3 d3;refine (zgP a.ro b.ro a.rn a.rc b.rn b.rc a.rs b.rs _ (HA.out.rs.below HB4.out) (HB.out.rs.below HB4.out) HF.out.1 HF.out.2).mono ?_;rintro e w5 ⟨v,rfl,hv,b5⟩;have HE:=hide (HBK.out.trans ((HB4.out.trans (b5.mono HB4.out.size)).mono HBK.out.size));have HQ:Hid (BIf v (EqS a b)):=⟨fun h=>⟨HV.out,HP.out,hv.1 h⟩,fun h=>hv.2 h.2.2⟩;clear hv b5;go_wp2_with fail;go_ret;exact ⟨v,rfl,HQ.out,HE.out⟩
end
section
open Go.RowKit
theorem zas {s t:Fc}:EqS s t↔ab s=ab t:=⟨fun h=>zdm h.1 h.2.1 h.2.2,zjc⟩
theorem FmA.rp {s:Fc} (h:FmA (ab s)):∀ r∈s.rs,InForm r.p.P:=fun r hr=>(h.r.1 (rck r) (List.mem_map.2 ⟨r,hr,rfl⟩)).2.1
def LeS (a b:Fc):Prop:=JnA (ab a) (ab b) (ab b)
def WiS (a b:Fc) (v:Bool) (er:Int):Prop:=(¬ (FormS a/\FormS b)/\er=1/\v=false)∨((FormS a/\FormS b)/\K.Clash (a.es++b.es)/\er=10/\v=false)∨((FormS a/\FormS b)/\¬ K.Clash (a.es++b.es)/\er=0/\BIf v (LeS a b))
def WiE (w w':World) (e:Ending) (a b:Fc):Prop:=∃ v er,e = .returned (.tuple #[.bool v,.int .i64 er])/\Below w.heap.size w w'/\WiS a b v er
def OrK (a b:Fc) (o:Int):Prop:=(LeS a b/\LeS b a/\o=0)∨(LeS a b/\¬ LeS b a/\o=1)∨(¬ LeS a b/\LeS b a/\o=2)∨(¬ LeS a b/\¬ LeS b a/\o=3)
def OrS (a b:Fc) (o er:Int):Prop:=(¬ (FormS a/\FormS b)/\er=1/\o=0)∨((FormS a/\FormS b)/\K.Clash (a.es++b.es)/\er=10/\o=0)∨((FormS a/\FormS b)/\¬ K.Clash (a.es++b.es)/\er=0/\OrK a b o)
def OrE (w w':World) (e:Ending) (a b:Fc):Prop:=∃ o er,e = .returned (.tuple #[.int .i64 o,.int .i64 er])/\Below w.heap.size w w'/\OrS a b o er
attribute [local go_sem ↓] zL zK
attribute [local go_sem] zl zp zv
theorem wR (N M:Nat) (hNM:N+M <= 4) (a b:Fc) (w:World) (hA:SwB N w a) (hB:SwB M w b):Calls Tryz.prog 38 #[FaV (mkF a),FaV (mkF b)] w fun e w'=>OrE w w' e a b:=by
 obtain ⟨wk,hwk,HX,HY,HBK,-⟩:=box2J w a b;obtain ⟨G,hG0⟩:∃ G,w.heap.size=G:=⟨_,rfl⟩;rw [hG0] at HX HY;have HA:=hide (hA.below HBK.out);have HB:=hide (hB.below HBK.out);have HN:=hide hNM;have l1:=zR HX.out;have l2:=zR HY.out;clear hA hB hNM;go_enter Tryz.func38,Tryz.ntmps38;go_wp2_with fail;clear hwk hG0 l1 l2;refine (zdt N M HN.out a b _ HA.out HB.out).mono ?_;rintro e w3 ⟨s,er,rfl,BS,b3,DS⟩;obtain ⟨gj,hgj⟩:∃ g,w3.heap.size=g:=⟨_,rfl⟩;obtain ⟨w4,hst,X4,B4,-⟩:=madeSx w3 s gj hgj;have b34:=b3.trans (B4.mono b3.size);have HB4:=wTr HBK b34;have HJ:=hide X4;have HS:=hide (BS.below B4);have HXk:=hide (HX.out.below b34);have HYk:=hide (HY.out.below b34);have HBk:=hide (HB.out.below b34);have HAk:=hide (HA.out.below b34);have HD:=hide (zf2 HA.out.ok HB.out.ok DS);clear BS b3 DS X4 B4 b34
 rcases HD.out with ⟨h,rfl,-⟩ | ⟨h,hc,rfl,-⟩ | ⟨h,hc,rfl,hj⟩
 ·have HE:Hid (OrE w w4 (.returned (.tuple #[.int .i64 0,.int .i64 1])) a b):=⟨0,1,rfl,HB4.out,.inl ⟨h,rfl,rfl⟩⟩;clear h HD;go_wp2_with fail;clear hst hgj;go_ret2;exact HE.out
 ·have HE:Hid (OrE w w4 (.returned (.tuple #[.int .i64 0,.int .i64 10])) a b):=⟨0,10,rfl,HB4.out,.inr (.inl ⟨h,hc,rfl,rfl⟩)⟩;clear h hc HD;go_wp2_with fail;clear hst hgj;go_ret2;exact HE.out
 ·have HJn:=hide hj;have HFo:=hide h;have HCo:=hide hc;have HGa:=hide ((vX HAk.out.ok).1 h.1);have HGb:=hide ((vX HBk.out.ok).1 h.2);have HGs:=hide (hj.form HGa.out HGb.out)
  have HSt:Hid (∀ W,Below w4.heap.size w4 W -> (ldSw (.pointer (some ⟨G,0,none⟩))).run Tryz.prog W = .ok (.agg (FaC (mkF a))) W/\(ldSw (.pointer (some ⟨G+1,0,none⟩))).run Tryz.prog W = .ok (.agg (FaC (mkF b))) W/\(ldSw (.pointer (some ⟨gj,0,none⟩))).run Tryz.prog W = .ok (.agg (FaC (mkF s))) W):=fun W hW =>
   ⟨zR (HXk.out.below hW),zR (HYk.out.below hW),zR (HJ.out.below hW)⟩
  clear h hc hj HD;go_upto_region 4 with fail;clear hst hgj;refine wp_region_held_drew (S:=fun W=>(ldSw (.pointer (some ⟨G,0,none⟩))).run Tryz.prog W = .ok (.agg (FaC (mkF a))) W/\(ldSw (.pointer (some ⟨G+1,0,none⟩))).run Tryz.prog W = .ok (.agg (FaC (mkF b))) W/\(ldSw (.pointer (some ⟨gj,0,none⟩))).run Tryz.prog W = .ok (.agg (FaC (mkF s))) W) (by kernel_rfl) (HSt.out _ (zf w4)) (fun hHeld=>?_);refine wU 0 ?_;refine wU 1 ?_;refine wU 3 ?_;refine wU 4 ?_;refine wpAnyH_ready (rs:=[2]) (by kernel_rfl) (by simp) (.cons rfl (fun K hK=>?_) .nil);go_simp;go_wp2_with fail;refine (yP s b _ (HS.out.ok.below (zf w4)) (HBk.out.ok.below (zf w4)) HGs.out.rp HGb.out.rp).mono ?_;rintro e w7 ⟨x,rfl,hx,b0⟩;have HB7:Hid (Below w4.heap.size w4 w7):=(zf w4).trans b0;have Hx:=hide hx;have HS0:=hide (HSt.out _ HB7.out);refine hK.out _ _ HS0.out (fun hHeld=>?_)
  clear hK K b0 HS0 hx;refine wpAnyH_ready (rs:=[5]) (by kernel_rfl) (by simp) (.cons rfl (fun K hK=>?_) .nil);go_simp;go_wp2_with fail;refine (yP s a _ (HS.out.ok.below HB7.out) (HAk.out.ok.below HB7.out) HGs.out.rp HGa.out.rp).mono ?_;rintro e w8 ⟨y,rfl,hy,b0⟩;have HB8:Hid (Below w4.heap.size w4 w8):=HB7.out.trans (b0.mono HB7.out.size);have Hy:=hide hy;have HS0:=hide (HSt.out _ HB8.out);refine hK.out _ _ HS0.out (fun hHeld=>?_);clear hK K b0 HS0 hy;refine wU 6 ?_;refine wU 7 ?_;refine wpAnyH_done (by kernel_rfl) ?_ _;clear hHeld;have HP:Hid (BIf x (LeS a b)):=⟨fun h=>by have h1:=HJn.out;rw [zas.1 (Hx.out.1 h)] at h1;exact h1,fun h=>Hx.out.2 (zas.2 (HJn.out.uniq h))⟩;have HQ:Hid (BIf y (LeS b a)):=⟨fun h=>by have h1:=HJn.out.comm;rw [zas.1 (Hy.out.1 h)] at h1;exact h1,fun h=>Hy.out.2 (zas.2 (HJn.out.comm.uniq h))⟩
  have HE:Hid (∀ o,OrK a b o -> OrE w w8 (.returned (.tuple #[.int .i64 o,.int .i64 0])) a b):=fun o ho=>⟨o,0,rfl,HB4.out.trans (HB8.out.mono HB4.out.size),.inr (.inr ⟨HFo.out,HCo.out,rfl,ho⟩)⟩;clear Hx Hy HSt
  cases x with
  | true =>
   cases y with
   | true =>
    have HO:Hid (OrK a b 0):=.inl ⟨HP.out.1 rfl,HQ.out.1 rfl,rfl⟩;go_wp2_with fail;go_ret2;exact HE.out 0 HO.out
   | false =>
    have HO:Hid (OrK a b 1):=.inr (.inl ⟨HP.out.1 rfl,(fun h=>by have:=HQ.out.2 h;cases this),rfl⟩);go_wp2_with fail;go_ret2;exact HE.out 1 HO.out
  | false =>
   cases y with
   | true =>
    have HO:Hid (OrK a b 2):=.inr (.inr (.inl ⟨(fun h=>by have:=HP.out.2 h;cases this),HQ.out.1 rfl,rfl⟩));go_wp2_with fail;go_ret2;exact HE.out 2 HO.out
   | false =>
    have HO:Hid (OrK a b 3):=.inr (.inr (.inr ⟨(fun h=>by have:=HP.out.2 h;cases this),(fun h=>by have:=HQ.out.2 h;cases this),rfl⟩));go_wp2_with fail;go_ret2;exact HE.out 3 HO.out
end
section
open Go.RowKit
attribute [local go_sem ↓] zr zq zD zC zL zK
attribute [local go_sem] zi zk zl zp zv
theorem kG (a b:Fc) (w:World) (hF:FcOk w a) (hG:FcOk w b) (hE:EqS a b):Calls Tryz.prog 9 #[FaV (mkF a),FaV (mkF b)] w fun e w'=>e = .returned (.bool true)/\Below w.heap.size w w':=by
 obtain ⟨wk,hwk,HX,HY,HBK⟩:=box2S w a b;obtain ⟨G,hG0⟩:∃ G,w.heap.size=G:=⟨_,rfl⟩;rw [hG0] at HX HY;have HF:=hide (hF.below HBK.out);have HG:=hide (hG.below HBK.out);have HE:=hide hE;clear hF hG hE;have c0:=HX.out.cs.1;have d0:=HY.out.cs.1;go_enter Tryz.func9,Tryz.ntmps9;go_wp2_with fail;clear hwk hG0 c0 d0;refine (xW a.ao b.ao a.an b.an a.ac b.ac a.es b.es _ HF.out.es HG.out.es).mono ?_;rintro e w3 ⟨x,rfl,hx,b3⟩;obtain rfl:x=true:=hx.2 HE.out.1;have HB3:=hide b3;clear hx b3;have lp:=zj (HX.out.below HB3.out).past;have lq:=zj (HY.out.below HB3.out).past;go_wp2_with fail;clear lp lq;refine (xe a.p b.p _ (HF.out.below HB3.out).p (HG.out.below HB3.out).p).mono ?_;rintro e w4 ⟨x,rfl,hx,b4⟩;obtain rfl:x=true:=hx.2 HE.out.2.1;have HB4:=wTr HB3 b4;clear hx b4;have c3:=(HX.out.below HB4.out).cs.2
 have d3:=(HY.out.below HB4.out).cs.2;go_wp2_with fail;clear c3 d3;refine (xV a.ro b.ro a.rn b.rn a.rc b.rc a.rs b.rs _ (HF.out.below HB4.out).rs (HG.out.below HB4.out).rs).mono ?_;rintro e w5 ⟨x,rfl,hx,b5⟩;obtain rfl:x=true:=hx.2 HE.out.2.2;have HB5:=hide (HBK.out.trans ((HB4.out.trans (b5.mono HB4.out.size)).mono HBK.out.size));clear hx b5;go_wp2_with fail;go_ret;exact ⟨rfl,HB5.out⟩
theorem jA (f:Fc) (w:World) (hF:FcOk w f):Calls Tryz.prog 24 #[FaV (mkF f)] w fun e w'=>GivB w w' e (FormF f):=by
 have HX:=hide (zY w (mkF f));have HBK:=hide (ze w (.cells (FaC (mkF f)) 29));have HS:=hide (hF.below HBK.out);clear hF;obtain ⟨wk,hwk⟩:∃ wk,w.alloc (.cells (FaC (mkF f)) 29)=wk:=⟨_,rfl⟩;obtain ⟨G,hG⟩:∃ G,w.heap.size=G:=⟨_,rfl⟩;rw [hwk] at HX HBK HS;rw [hG] at HX;obtain ⟨c0,c3⟩:=HX.out.cs;go_enter Tryz.func24,Tryz.ntmps24;go_wp2_with fail;clear hwk hG;refine (K.kM f.ao f.an f.ac f.es _ HS.out.es).mono ?_;rintro e w2 ⟨rfl,b2⟩;have HB2:=wTr HBK b2;have HX2:=hide (HX.out.below b2);have HS2:=hide (HS.out.below b2);clear b2 c0 c3 HX HS HBK
 cases hc:K.okN f.es f.an with
 | false =>
  have HN:Hid (¬ FormF f):=fun h=>by have h1:=h.1;rw [hc] at h1;cases h1
  clear hc;go_wp2_with fail;go_ret;exact ⟨_,rfl,BIf.no HN.out,HB2.out⟩
 | true =>
  have HC:=hide hc;have lp:=zj HX2.out.past;clear hc;go_wp2_with fail;clear lp;refine (xk f.p _ HS2.out.p).mono ?_;rintro e w3 ⟨b,rfl,hb,b3⟩;have HB3:=wTr HB2 b3;have HX3:=hide (HX2.out.below b3);have HS3:=hide (HS2.out.below b3);clear b3 HX2 HS2 HB2
  cases b with
  | false =>
   have HN:Hid (¬ FormF f):=fun h=>(by have:=hb.out.2 h.2.1;cases this);clear hb;go_wp2_with fail;go_ret;exact ⟨_,rfl,BIf.no HN.out,HB3.out⟩
  | true =>
   have HI:Hid (InForm f.p.P):=hb.out.1 rfl;have c3:=HX3.out.cs.2;clear hb;go_wp2_with fail;clear c3;refine (kP f.ro f.rn f.rc f.rs _ HS3.out.rs).mono ?_;rintro e w4 ⟨k,rfl,hk,b4⟩;have HB4:=wTr HB3 b4;clear b4;rcases hk with ⟨rfl,hk⟩ | ⟨rfl,hk⟩
   ·have HF:Hid (BIf true (FormF f)):=⟨fun _=>⟨HC.out,HI.out,hk⟩,fun _=>rfl⟩;clear hk;go_wp2_with fail;go_ret;exact ⟨_,rfl,HF.out,HB4.out⟩
   ·have HN:Hid (¬ FormF f):=fun h=>hk h.2.2;clear hk;go_wp2_with fail;go_ret;exact ⟨_,rfl,BIf.no HN.out,HB4.out⟩
theorem kl {f s t:Fc} (h:StD f s) (k:StD f t):EqS s t:=by
 have eP:s.p.P=t.p.P:=h.2.1.one k.2.1;exact ⟨h.1.trans k.1.symm,eP,by rw [h.2.2.2,k.2.2.2,eP]⟩
theorem boxFS2 (w:World) (f s:Fc):∃ wk,(w.alloc (.cells (FaC (mkF f)) 29)).alloc (.cells (FaC (mkF s)) 31)=wk/\Hid (FaBox wk w.heap.size (mkF f))/\Hid (SwBox wk (w.heap.size+1) (mkF s))/\Hid (Below w.heap.size w wk):=by
 have b1:=ze w (.cells (FaC (mkF f)) 29);have b2:=ze (w.alloc (.cells (FaC (mkF f)) 29)) (.cells (FaC (mkF s)) 31);have X2:=qk (w.alloc (.cells (FaC (mkF f)) 29)) (mkF s);rw [World.size_alloc] at X2;exact ⟨_,rfl,(zY w (mkF f)).below b2,X2,b1.trans (b2.mono b1.size)⟩
theorem zd0 (N M:Nat) (hNM:N+M <= 4) (f t:Fc) (w:World) (hF:SwB N w f) (hT:SwB M w t) (ff:FormF f) (ft:FormS t) (h:StD f t):Calls Tryz.prog 13 #[FaV (mkF f),FaV (mkF t)] w fun e w'=>e = .returned (.bool true)/\Below w.heap.size w w':=by
 obtain ⟨wk,hwk,HX,HY,HBK⟩:=boxFS2 w f t;obtain ⟨G,hG0⟩:∃ G,w.heap.size=G:=⟨_,rfl⟩;rw [hG0] at HX HY;have HF:=hide (hF.below HBK.out);have HT:=hide (hT.below HBK.out);have HP:Hid (FormF f/\FormS t/\StD f t):=⟨ff,ft,h⟩;clear hF hT ff ft h;have l0:=zT HX.out;go_enter Tryz.func13,Tryz.ntmps13;go_wp2_with fail;clear hwk hG0 l0;refine (jT N (by omega) f _ HF.out).mono ?_;rintro e v3 ⟨s,er,rfl,Ss,b3,hs⟩
 obtain ⟨rfl,hS⟩:er=0/\StD f s:=by
  rcases hs with ⟨h,-⟩ | ⟨-,h,k⟩
  ·exact absurd HP.out.1 h
  ·exact ⟨h,k⟩
 obtain ⟨gs,hgs⟩:∃ g,v3.heap.size=g:=⟨_,rfl⟩;obtain ⟨w3,hst,X3,B3,-⟩:=madeSx v3 s gs hgs;have b33:=b3.trans (B3.mono b3.size);have HB3:=hide b33;have HXs:=hide X3;have HSs:=hide (Ss.below B3);have HE:Hid (ab s=ab t):=zdm (kl hS HP.out.2.2).1 (kl hS HP.out.2.2).2.1 (kl hS HP.out.2.2).2.2;clear Ss b3 hs hS X3 B3 b33;have l0:=zR HXs.out;have l1:=zR (HY.out.below HB3.out);go_wp2_with fail;clear l0 l1 hst hgs;refine (wR N M hNM s t _ HSs.out (HT.out.below HB3.out)).mono ?_;rintro e w4 ⟨o,er,rfl,b4,ho⟩;have HB4:=hide (HBK.out.trans ((HB3.out.trans (b4.mono HB3.out.size)).mono HBK.out.size));have fa:FmA (ab t):=(vX HT.out.ok).1 HP.out.2.1;have fs:FormS s:=(vX HSs.out.ok).2 (by rw [HE.out];exact fa)
 have hL:LeS s t/\LeS t s:=by
  unfold LeS;rw [HE.out];exact ⟨le_refl fa,le_refl fa⟩
 have hn:¬ K.Clash (s.es++t.es):=by
  have h1:=zah fa;rw [show s.es=t.es from congrArg Ab.L HE.out];exact h1
 obtain ⟨rfl,rfl⟩:o=0/\er=0:=by
  rcases ho with ⟨h,-⟩ | ⟨-,h,-⟩ | ⟨-,-,h,k⟩
  ·exact absurd ⟨fs,HP.out.2.1⟩ h
  ·exact absurd h hn
  ·rcases k with ⟨-,-,k⟩ | ⟨-,k,-⟩ | ⟨k,-⟩ | ⟨k,-⟩
   ·exact ⟨k,h⟩
   ·exact absurd hL.2 k
   ·exact absurd hL.1 k
   ·exact absurd hL.1 k
 clear b4 ho fa fs hL hn;go_wp2_with fail;go_ret;exact ⟨rfl,HB4.out⟩
end
end Go.Proofs.YtjffpimfngdggaaGreat
