/- SYf SYg YEb -/
import Derived.Test.YtjffpimfngdggaaGreatTk
import Derived.Test.YtjffpimfngdggaaGreatFe37
import Derived.Test.YtjffpimfngdggaaGreatFe39
import Derived.Test.YtjffpimfngdggaaGreatFe38
import Derived.Test.YtjffpimfngdggaaGreatFe36
set_option maxRecDepth 100000
set_option maxHeartbeats 3200000
namespace Go.Proofs.YtjffpimfngdggaaGreat
section
open Go.RowKit
theorem zaa {α : Type} {A B:List α} {n k:Nat} (ha:A.length=n) (hb:B.length=n) (hk:¬ k < n) (h:A.take k=B.take k):A=B:=by
 rw [List.take_of_length_le (by omega),List.take_of_length_le (by omega)] at h;exact h
theorem yF (L:List K.En) (k:Nat) (h:k < L.length):L.take (k+1)=L.take k++[L.getD k K.en0]:=by
 rw [List.take_succ_eq_append_getElem h];simp [List.getD,h]
attribute [local go_sem ↓] zq zp xT K.zx K.zw zL zK zZ zY
attribute [local go_sem] zi zj zE K.zt K.zF K.zI zk zm zv zJ zQ qe
theorem zgI (ao bo:Option Addr) (n c m d:Nat) (A B:List K.En) (w:World) (hA:K.aD w ao n c A) (hB:K.aD w bo m d B):Calls Tryz.prog 125 #[.slice ao n c,.slice bo m d] w fun e w'=>iB w w' e (A=B):=by
 have HA:=hide hA;have HB:=hide hB;have my:Hid (A.length=n):=hA.1;have mA:Hid (B.length=m):=hB.1
 have Cb:n <= 17592186044415:=by have:=hA.2.2.2.2;omega
 clear hA hB;by_cases hv:n=m;rotate_left
 ·have d1:((n:Int) != (m:Int))=true:=by simp;omega
  have dT:Hid (¬ A=B):=fun h=>hv (by rw [<- my.out,<- mA.out,h]);clear hv;go_enter Tryz.func125,Tryz.ntmps125;go_wp2_with fail;go_ret;exact ⟨false,rfl,BIf.no dT.out,Below.refl _ _⟩
 subst hv;go_enter Tryz.func125,Tryz.ntmps125;go_wp2_with fail;go_loopw [5,13] (fun _ i wr=>∃ k:Nat,k <= n/\i = .int .i64 (k:Int)/\Hid (A.take k=B.take k/\Below w.heap.size w wr)) (fun _ i _=>n - (intOf i).toNat)
 case atStart=>exact ⟨0,Nat.zero_le _,rfl,rfl,Below.refl _ _⟩
 case round =>
  obtain ⟨k,hk,rfl,HK⟩:=hrel
  rename World=>wr
  by_cases ak:k < n
  ·have cL:(k:Int) < (n:Int):=by omega
   obtain ⟨ad,rfl,-⟩:=K.aD.at (HA.out.below HK.out.2) k ak;obtain ⟨bd,rfl,-⟩:=K.aD.at (HB.out.below HK.out.2) k ak;have t1:=hide (yF A k (by rw [my.out];exact ak));have t2:=hide (yF B k (by rw [mA.out];exact ak));have cw:=hide ak;obtain ⟨x,Hx⟩:∃ x,Hid (A.getD k K.en0=x):=⟨_,rfl⟩;obtain ⟨y,Hy⟩:∃ y,Hid (B.getD k K.en0=y):=⟨_,rfl⟩;rw [Hx.out] at t1;rw [Hy.out] at t2
   have aG:Hid (∀ W,Below wr.heap.size wr W -> (K.ek (.pointer (some (ad.add (k * 4))))).run Tryz.prog W = .ok (K.EV x) W/\(K.ek (.pointer (some (bd.add (k * 4))))).run Tryz.prog W = .ok (K.EV y) W):=fun W hW=>by
    obtain ⟨ad',e1,A1⟩:=K.aD.at ((HA.out.below HK.out.2).below hW) k cw.out;obtain ⟨bd',e2,B1⟩:=K.aD.at ((HB.out.below HK.out.2).below hW) k cw.out;obtain rfl:=Option.some.inj e1;obtain rfl:=Option.some.inj e2;rw [Hx.out] at A1;rw [Hy.out] at B1;exact ⟨K.zO A1,K.zO B1⟩
   have gO:=hide (HK.out.2.trans ((zg wr).mono HK.out.2.size));clear ak hk;by_cases he:x=y
   ·have leq:∀ W:World,(Op.equalIn 10000 50 (K.EV x) (K.EV y)).run Tryz.prog W = .ok true W:=fun W=>(K.qz x y W).trans (congrArg (fun b=>Result.ok b W) ((K.zcX x y).2 he));have HN:Hid (A.take (k+1)=B.take (k+1)/\Below w.heap.size w wr.drew):=⟨by rw [t1.out,t2.out,HK.out.1,he],gO.out⟩;clear he;go_upto_region 6 with fail;refine wp_region_held_drew (S:=fun W=>(K.ek (.pointer (some (ad.add (k * 4))))).run Tryz.prog W = .ok (K.EV x) W/\(K.ek (.pointer (some (bd.add (k * 4))))).run Tryz.prog W = .ok (K.EV y) W) (by kernel_rfl) (aG.out _ (zg wr)) (fun hHeld=>?_);refine wU 0 ?_;refine wU 1 ?_;refine wU 2 ?_;refine wU 3 ?_;refine wU 4 ?_;refine wU 5 ?_;refine wU 6 ?_;refine wU 7 ?_;refine wU 8 ?_;refine wpAnyH_done (by kernel_rfl) ?_ _;clear hHeld;clear leq;go_wp2_with fail;go_roundw
    case rel=>exact ⟨k+1,cw.out,by simp,HN.out⟩
    case measure=>simp [intOf];have:=cw.out;omega
   ·have leq:∀ W:World,(Op.equalIn 10000 50 (K.EV x) (K.EV y)).run Tryz.prog W = .ok false W:=fun W=>(K.qz x y W).trans (congrArg (fun b=>Result.ok b W) (Bool.eq_false_iff.2 fun h=>he ((K.zcX x y).1 h)));have dT:Hid (¬ A=B):=fun h=>he (by rw [<- Hx.out,<- Hy.out,h]);clear he;go_upto_region 6 with fail;refine wp_region_held_drew (S:=fun W=>(K.ek (.pointer (some (ad.add (k * 4))))).run Tryz.prog W = .ok (K.EV x) W/\(K.ek (.pointer (some (bd.add (k * 4))))).run Tryz.prog W = .ok (K.EV y) W) (by kernel_rfl) (aG.out _ (zg wr)) (fun hHeld=>?_);refine wU 0 ?_;refine wU 1 ?_;refine wU 2 ?_;refine wU 3 ?_;refine wU 4 ?_;refine wU 5 ?_;refine wU 6 ?_;refine wU 7 ?_;refine wU 8 ?_;refine wpAnyH_done (by kernel_rfl) ?_ _;clear hHeld;clear leq;go_wp2_with fail;go_ret;exact ⟨false,rfl,BIf.no dT.out,gO.out⟩
  ·have cL:¬ (k:Int) < (n:Int):=by omega
   have HE:Hid (A=B):=zaa my.out mA.out ak HK.out.1;have cg:=hide HK.out.2;clear ak hk;go_wp2_with fail;go_ret;exact ⟨true,rfl,BIf.yes HE.out,cg.out⟩
theorem zgH (ao bo:Option Addr) (n c m d:Nat) (A B:List Int) (w:World) (hn:n <= 17592186044415) (hA:V.Src w ao n c A) (hB:V.Src w bo m d B):Calls Tryz.prog 171 #[.slice ao n c,.slice bo m d] w fun e w'=>iB w w' e (A=B):=by
 have HA:=hide hA;have HB:=hide hB;have my:Hid (A.length=n):=hA.1;have mA:Hid (B.length=m):=hB.1;clear hA hB;by_cases hv:n=m;rotate_left
 ·have d1:((n:Int) != (m:Int))=true:=by simp;omega
  have dT:Hid (¬ A=B):=fun h=>hv (by rw [<- my.out,<- mA.out,h]);clear hv;go_enter Tryz.func171,Tryz.ntmps171;go_wp2_with fail;go_ret;exact ⟨false,rfl,BIf.no dT.out,Below.refl _ _⟩
 subst hv;go_enter Tryz.func171,Tryz.ntmps171;go_wp2_with fail;go_loopw [5,13] (fun _ i wr=>∃ k:Nat,k <= n/\i = .int .i64 (k:Int)/\Hid (A.take k=B.take k/\Below w.heap.size w wr)) (fun _ i _=>n - (intOf i).toNat)
 case atStart=>exact ⟨0,Nat.zero_le _,rfl,rfl,Below.refl _ _⟩
 case round =>
  obtain ⟨k,hk,rfl,HK⟩:=hrel
  rename World=>wr
  by_cases ak:k < n
  ·have cL:(k:Int) < (n:Int):=by omega
   obtain ⟨ad,rfl,-⟩:=vu (HA.out.below HK.out.2) k ak;obtain ⟨bd,rfl,-⟩:=vu (HB.out.below HK.out.2) k ak;have t1:=hide (j0 A k (by rw [my.out];exact ak));have t2:=hide (j0 B k (by rw [mA.out];exact ak));have cw:=hide ak;obtain ⟨x,Hx⟩:∃ x,Hid (A.getD k 0=x):=⟨_,rfl⟩;obtain ⟨y,Hy⟩:∃ y,Hid (B.getD k 0=y):=⟨_,rfl⟩;rw [Hx.out] at t1;rw [Hy.out] at t2
   have aG:Hid (∀ W,Below wr.heap.size wr W -> W.cell? (ad.add k)=some (.int .i64 x)/\W.cell? (bd.add k)=some (.int .i64 y)):=fun W hW=>by
    obtain ⟨ad',e1,A1⟩:=vu ((HA.out.below HK.out.2).below hW) k cw.out;obtain ⟨bd',e2,B1⟩:=vu ((HB.out.below HK.out.2).below hW) k cw.out;obtain rfl:=Option.some.inj e1;obtain rfl:=Option.some.inj e2;rw [Hx.out] at A1;rw [Hy.out] at B1;exact ⟨A1,B1⟩
   have gO:=hide (HK.out.2.trans ((zg wr).mono HK.out.2.size));clear ak hk;by_cases he:x=y
   ·have leq:(x != y)=false:=by simp [he]
    have HN:Hid (A.take (k+1)=B.take (k+1)/\Below w.heap.size w wr.drew):=⟨by rw [t1.out,t2.out,HK.out.1,he],gO.out⟩;clear he;go_upto_region 6 with fail;refine wp_region_held_drew (S:=fun W=>W.cell? (ad.add k)=some (.int .i64 x)/\W.cell? (bd.add k)=some (.int .i64 y)) (by kernel_rfl) (aG.out _ (zg wr)) (fun hHeld=>?_);refine wU 0 ?_;refine wU 1 ?_;refine wU 2 ?_;refine wU 3 ?_;refine wU 4 ?_;refine wU 5 ?_;refine wU 6 ?_;refine wU 7 ?_;refine wU 8 ?_;refine wpAnyH_done (by kernel_rfl) ?_ _;clear hHeld;clear leq;go_wp2_with fail;go_roundw
    case rel=>exact ⟨k+1,cw.out,by simp,HN.out⟩
    case measure=>simp [intOf];have:=cw.out;omega
   ·have leq:(x != y)=true:=by simp [he]
    have dT:Hid (¬ A=B):=fun h=>he (by rw [<- Hx.out,<- Hy.out,h]);clear he;go_upto_region 6 with fail;refine wp_region_held_drew (S:=fun W=>W.cell? (ad.add k)=some (.int .i64 x)/\W.cell? (bd.add k)=some (.int .i64 y)) (by kernel_rfl) (aG.out _ (zg wr)) (fun hHeld=>?_);refine wU 0 ?_;refine wU 1 ?_;refine wU 2 ?_;refine wU 3 ?_;refine wU 4 ?_;refine wU 5 ?_;refine wU 6 ?_;refine wU 7 ?_;refine wU 8 ?_;refine wpAnyH_done (by kernel_rfl) ?_ _;clear hHeld;clear leq;go_wp2_with fail;go_ret;exact ⟨false,rfl,BIf.no dT.out,gO.out⟩
  ·have cL:¬ (k:Int) < (n:Int):=by omega
   have HE:Hid (A=B):=zaa my.out mA.out ak HK.out.1;have cg:=hide HK.out.2;clear ak hk;go_wp2_with fail;go_ret;exact ⟨true,rfl,BIf.yes HE.out,cg.out⟩
theorem zgF (ao bo:Option Addr) (n c m d:Nat) (A B:List Sn) (w:World) (hA:cN w ao n c A) (hB:cN w bo m d B):Calls Tryz.prog 172 #[.slice ao n c,.slice bo m d] w fun e w'=>iB w w' e (A=B):=by
 have HA:=hide hA;have HB:=hide hB;have my:Hid (A.length=n):=hA.len;have mA:Hid (B.length=m):=hB.len
 have Cb:n <= 17592186044415:=by have:=hA.big;omega
 clear hA hB;by_cases hv:n=m;rotate_left
 ·have d1:((n:Int) != (m:Int))=true:=by simp;omega
  have dT:Hid (¬ A=B):=fun h=>hv (by rw [<- my.out,<- mA.out,h]);clear hv;go_enter Tryz.func172,Tryz.ntmps172;go_wp2_with fail;go_ret;exact ⟨false,rfl,BIf.no dT.out,Below.refl _ _⟩
 subst hv;go_enter Tryz.func172,Tryz.ntmps172;go_wp2_with fail;go_loopw [5,13] (fun _ i wr=>∃ k:Nat,k <= n/\i = .int .i64 (k:Int)/\Hid (A.take k=B.take k/\Below w.heap.size w wr)) (fun _ i _=>n - (intOf i).toNat)
 case atStart=>exact ⟨0,Nat.zero_le _,rfl,rfl,Below.refl _ _⟩
 case round =>
  obtain ⟨k,hk,rfl,HK⟩:=hrel
  rename World=>wr
  by_cases ak:k < n
  ·have cL:(k:Int) < (n:Int):=by omega
   obtain ⟨ad,rfl,-⟩:=cN.at (HA.out.below HK.out.2) k ak;obtain ⟨bd,rfl,-⟩:=cN.at (HB.out.below HK.out.2) k ak;have t1:=hide (jZ A k (by rw [my.out];exact ak));have t2:=hide (jZ B k (by rw [mA.out];exact ak));have cw:=hide ak;obtain ⟨x,Hx⟩:∃ x,Hid (A.getD k sn0=x):=⟨_,rfl⟩;obtain ⟨y,Hy⟩:∃ y,Hid (B.getD k sn0=y):=⟨_,rfl⟩;rw [Hx.out] at t1;rw [Hy.out] at t2
   have aG:Hid (∀ W,Below wr.heap.size wr W -> (ldS (.pointer (some (ad.add (k * 3))))).run Tryz.prog W = .ok (SV x) W/\(ldS (.pointer (some (bd.add (k * 3))))).run Tryz.prog W = .ok (SV y) W):=fun W hW=>by
    obtain ⟨ad',e1,A1⟩:=cN.at ((HA.out.below HK.out.2).below hW) k cw.out;obtain ⟨bd',e2,B1⟩:=cN.at ((HB.out.below HK.out.2).below hW) k cw.out;obtain rfl:=Option.some.inj e1;obtain rfl:=Option.some.inj e2;rw [Hx.out] at A1;rw [Hy.out] at B1;exact ⟨qk A1,qk B1⟩
   have gO:=hide (HK.out.2.trans ((zg wr).mono HK.out.2.size));clear ak hk;by_cases he:x=y
   ·have leq:∀ W:World,(Op.equalIn 10000 104 (SV x) (SV y)).run Tryz.prog W = .ok true W:=fun W=>(zbK x y W).trans (congrArg (fun b=>Result.ok b W) ((kp x y).2 he));have HN:Hid (A.take (k+1)=B.take (k+1)/\Below w.heap.size w wr.drew):=⟨by rw [t1.out,t2.out,HK.out.1,he],gO.out⟩;clear he;go_upto_region 6 with fail;refine wp_region_held_drew (S:=fun W=>(ldS (.pointer (some (ad.add (k * 3))))).run Tryz.prog W = .ok (SV x) W/\(ldS (.pointer (some (bd.add (k * 3))))).run Tryz.prog W = .ok (SV y) W) (by kernel_rfl) (aG.out _ (zg wr)) (fun hHeld=>?_);refine wU 0 ?_;refine wU 1 ?_;refine wU 2 ?_;refine wU 3 ?_;refine wU 4 ?_;refine wU 5 ?_;refine wU 6 ?_;refine wU 7 ?_;refine wU 8 ?_;refine wpAnyH_done (by kernel_rfl) ?_ _;clear hHeld;clear leq;go_wp2_with fail;go_roundw
    case rel=>exact ⟨k+1,cw.out,by simp,HN.out⟩
    case measure=>simp [intOf];have:=cw.out;omega
   ·have leq:∀ W:World,(Op.equalIn 10000 104 (SV x) (SV y)).run Tryz.prog W = .ok false W:=fun W=>(zbK x y W).trans (congrArg (fun b=>Result.ok b W) (Bool.eq_false_iff.2 fun h=>he ((kp x y).1 h)));have dT:Hid (¬ A=B):=fun h=>he (by rw [<- Hx.out,<- Hy.out,h]);clear he;go_upto_region 6 with fail;refine wp_region_held_drew (S:=fun W=>(ldS (.pointer (some (ad.add (k * 3))))).run Tryz.prog W = .ok (SV x) W/\(ldS (.pointer (some (bd.add (k * 3))))).run Tryz.prog W = .ok (SV y) W) (by kernel_rfl) (aG.out _ (zg wr)) (fun hHeld=>?_);refine wU 0 ?_;refine wU 1 ?_;refine wU 2 ?_;refine wU 3 ?_;refine wU 4 ?_;refine wU 5 ?_;refine wU 6 ?_;refine wU 7 ?_;refine wU 8 ?_;refine wpAnyH_done (by kernel_rfl) ?_ _;clear hHeld;clear leq;go_wp2_with fail;go_ret;exact ⟨false,rfl,BIf.no dT.out,gO.out⟩
  ·have cL:¬ (k:Int) < (n:Int):=by omega
   have HE:Hid (A=B):=zaa my.out mA.out ak HK.out.1;have cg:=hide HK.out.2;clear ak hk;go_wp2_with fail;go_ret;exact ⟨true,rfl,BIf.yes HE.out,cg.out⟩
theorem yA (a b:Pv) (w:World) (hA:am w a) (hB:am w b):Calls Tryz.prog 126 #[PV a,PV b] w fun e w'=>iB w w' e (a.P=b.P):=by
 have b1:=ze w (.cells (PC a) 26);have b2:=ze (w.alloc (.cells (PC a) 26)) (.cells (PC b) 26);have p2:=zr (w.alloc (.cells (PC a) 26)) b;rw [World.size_alloc] at p2;have lz:=hide ((zr w a).below b2);have iJ:=hide p2;have aq:=hide (b1.trans (b2.mono b1.size));have iI:=hide (hA.below aq.out);have gf:=hide (hB.below aq.out);obtain ⟨wk,aY⟩:∃ wk,(w.alloc (.cells (PC a) 26)).alloc (.cells (PC b) 26)=wk:=⟨_,rfl⟩;obtain ⟨G,dF⟩:∃ G,w.heap.size=G:=⟨_,rfl⟩;rw [aY] at lz iJ aq iI gf;rw [dF] at lz iJ;obtain ⟨a0,a1⟩:=lz.out.nums;obtain ⟨c0,c1⟩:=iJ.out.nums;clear b1 b2 p2 hA hB;go_enter Tryz.func126,Tryz.ntmps126;go_wp2_with fail;clear aY dF a0 a1 c0 c1;refine (zgH a.vo b.vo a.vn a.vc b.vn b.vc a.P.vec b.P.vec _ iI.out.big iI.out.vec gf.out.vec).mono ?_;rintro e w3 ⟨v,rfl,hv,b3⟩;have aB:=hide b3
 obtain ⟨a0,a1⟩:=(lz.out.below b3).nums;obtain ⟨c0,c1⟩:=(iJ.out.below b3).nums;clear b3
 cases v with
 | false =>
  have dT:Hid (¬ a.P=b.P):=fun h=>by have:=hv.2 (congrArg Pst.vec h);cases this
  have HE:=wTr aq aB.out;clear hv a0 a1 c0 c1;go_wp2_with fail;go_ret;exact ⟨false,rfl,BIf.no dT.out,HE.out⟩
 | true =>
 have HV:=hide (hv.1 rfl);clear hv;go_wp2_with fail;clear a0 a1 c0 c1;refine (zgF a.co b.co a.cn a.cc b.cn b.cc a.P.cloud b.P.cloud _ (iI.out.below aB.out).cloud (gf.out.below aB.out).cloud).mono ?_;rintro e w4 ⟨v,rfl,hv,b4⟩;have HE:=hide (aq.out.trans ((aB.out.trans (b4.mono aB.out.size)).mono aq.out.size))
 have HQ:Hid (BIf v (a.P=b.P)):=⟨fun h=>by
  have h1:=HV.out;have h2:=hv.1 h
  cases hp:a.P
  cases hq:b.P
  rw [hp,hq] at h1 h2;simp only at h1 h2
  rw [h1,h2],fun h=>hv.2 (congrArg Pst.cloud h)⟩
 clear hv b4;go_wp2_with fail;go_ret;exact ⟨v,rfl,HQ.out,HE.out⟩
theorem bt (a b:Rc) (w:World) (hA:cS w a) (hB:cS w b) (fa:aj a.p.P) (fb:aj b.p.P):Calls Tryz.prog 128 #[ReV (mkR a),ReV (mkR b)] w fun e w'=>e = .returned (.bool (decide (rcC a b=0)))/\Below w.heap.size w w':=by
 have b1:=ze w (.cells (ReC (mkR a)) 78);have b2:=ze (w.alloc (.cells (ReC (mkR a)) 78)) (.cells (ReC (mkR b)) 78);have X2:=qs (w.alloc (.cells (ReC (mkR a)) 78)) (mkR b);rw [World.size_alloc] at X2;have eo:=hide ((qs w (mkR a)).below b2);have fk:=hide X2;have aq:=hide (b1.trans (b2.mono b1.size));have iI:=hide (hA.below aq.out);have gf:=hide (hB.below aq.out);have HF:Hid (aj a.p.P/\aj b.p.P):=⟨fa,fb⟩;clear b1 b2 X2 hA hB fa fb;obtain ⟨wk,aY⟩:∃ wk,(w.alloc (.cells (ReC (mkR a)) 78)).alloc (.cells (ReC (mkR b)) 78)=wk:=⟨_,rfl⟩;obtain ⟨G,hG⟩:∃ G,w.heap.size=G:=⟨_,rfl⟩;rw [aY] at eo fk aq iI gf;rw [hG] at eo fk;have l1:=qI eo.out;have l2:=qI fk.out;go_enter Tryz.func128,Tryz.ntmps128;go_wp2_with fail;clear aY hG l1 l2;refine (zbX a b _ iI.out gf.out HF.out.1 HF.out.2).mono ?_
 rintro e w3 ⟨rfl,b3⟩;have HE:=wTr aq b3;clear b3;obtain ⟨z,hz⟩:∃ z,rcC a b=z:=⟨_,rfl⟩;rw [hz];go_wp2_with fail;go_ret;exact ⟨by rw [hz];rfl,HE.out⟩
theorem zbZ {A B:List Rc} {n k:Nat} (ha:A.length=n) (hb:B.length=n) (hk:¬ k < n) (h:plR (A.take k)=plR (B.take k)):plR A=plR B:=by
 rw [List.take_of_length_le (by omega),List.take_of_length_le (by omega)] at h;exact h
theorem za3 (L:List Rc) (k:Nat) (h:k < L.length):plR (L.take (k+1))=plR (L.take k)++[rck (L.getD k rc0)]:=by
 rw [vv L k h,wW]
theorem zdp {A B:List Rc} {k:Nat} (h:plR A=plR B) (ha:k < A.length) (hb:k < B.length):rck (A.getD k rc0)=rck (B.getD k rc0):=by
 have h1:(plR A)[k]? = (plR B)[k]?:=by rw [h]
 rw [vC,vC,List.getElem?_map,List.getElem?_map,List.getElem?_eq_getElem ha,List.getElem?_eq_getElem hb] at h1;simp only [Option.map_some,Option.some.injEq] at h1;rw [jM ha,jM hb,h1]
theorem zgG (ao bo:Option Addr) (n c m d:Nat) (A B:List Rc) (w:World) (hA:RcS w ao n c A) (hB:RcS w bo m d B) (fa:∀ r∈A,aj r.p.P) (fb:∀ r∈B,aj r.p.P):Calls Tryz.prog 127 #[.slice ao n c,.slice bo m d,.func (.func 128) #[] #[]] w fun e w'=>iB w w' e (plR A=plR B):=by
 have C3:∀ (args:Array Value) (w:World),(callFunc 128 args).run Tryz.prog w = .ok (.enter 128 args) w:=fun _ _=>rfl;have HA:=hide hA;have HB:=hide hB;have my:Hid (A.length=n):=hA.len;have mA:Hid (B.length=m):=hB.len;have Cb:=hA.big;have HF:Hid ((∀ r∈A,aj r.p.P)/\∀ r∈B,aj r.p.P):=⟨fa,fb⟩;clear hA hB fa fb;by_cases hv:n=m;rotate_left
 ·have d1:((n:Int) != (m:Int))=true:=by simp;omega
  have dT:Hid (¬ plR A=plR B):=fun h=>hv (by rw [<- my.out,<- mA.out,<- jy A,h,jy]);clear hv;go_enter Tryz.func127,Tryz.ntmps127;go_wp2_with fail;go_ret;exact ⟨false,rfl,BIf.no dT.out,Below.refl _ _⟩
 subst hv;go_enter Tryz.func127,Tryz.ntmps127;go_wp2_with fail;go_loopw [7,8,9,17] (fun _ _ _ i wr=>∃ k:Nat,k <= n/\i = .int .i64 (k:Int)/\Hid (plR (A.take k)=plR (B.take k)/\Below w.heap.size w wr)) (fun _ _ _ i _=>n - (intOf i).toNat)
 case atStart=>exact ⟨0,Nat.zero_le _,rfl,rfl,Below.refl _ _⟩
 case round =>
  obtain ⟨k,hk,rfl,HK⟩:=hrel
  rename World=>wr
  by_cases ak:k < n
  ·have cL:(k:Int) < (n:Int):=by omega
   obtain ⟨ad,rfl,A0⟩:=(HA.out.below HK.out.2).at k ak;obtain ⟨bd,rfl,-⟩:=(HB.out.below HK.out.2).at k ak;have Kq:=hide ((HA.out.below HK.out.2).okAt k ak);have J0:=hide ((HB.out.below HK.out.2).okAt k ak);have oV:Hid (aj (A.getD k rc0).p.P/\aj (B.getD k rc0).p.P):=⟨HF.out.1 _ (jh (by rw [my.out];exact ak)),HF.out.2 _ (jh (by rw [mA.out];exact ak))⟩;have t1:=hide (za3 A k (by rw [my.out];exact ak));have t2:=hide (za3 B k (by rw [mA.out];exact ak));have IG:Hid (rck (A.getD k rc0)≠rck (B.getD k rc0) -> ¬ plR A=plR B):=fun h1 h2=>h1 (zdp h2 (by rw [my.out];exact ak) (by rw [mA.out];exact ak));have cw:=hide ak;obtain ⟨x,Hx⟩:∃ x,Hid (A.getD k rc0=x):=⟨_,rfl⟩;obtain ⟨y,Hy⟩:∃ y,Hid (B.getD k rc0=y):=⟨_,rfl⟩;rw [Hx.out] at A0 Kq oV t1 IG;rw [Hy.out] at J0 oV t2 IG
   have dK:=zM A0;obtain ⟨g1,cT⟩:∃ g,wr.heap.size=g:=⟨_,rfl⟩;obtain ⟨w1,a8,X1,B1,-⟩:=fE wr (mkR x) g1 cT;have aN:=hide (HK.out.2.trans (B1.mono HK.out.2.size));have lQ:=hide X1;have Ib:=hide (Kq.out.below B1);have IW:=hide (J0.out.below B1);obtain ⟨bd',e2,B0⟩:=(HB.out.below aN.out).at k cw.out;obtain rfl:=Option.some.inj e2;rw [Hy.out] at B0;have tm:=zM B0;obtain ⟨g2,mC⟩:∃ g,w1.heap.size=g:=⟨_,rfl⟩;obtain ⟨w2,oY,X2,B2,-⟩:=fE w1 (mkR y) g2 mC;have cg:=wTr aN B2;have l1:=qI (lQ.out.below B2);have l2:=qI X2;have It:=hide (Ib.out.below B2);have Gs:=hide (IW.out.below B2);clear A0 B0 X1 B1 X2 B2 e2 ak hk;go_wp2_with fail;clear dK tm a8 oY cT mC l1 l2;refine (bt x y _ It.out Gs.out oV.out.1 oV.out.2).mono ?_;rintro e w3 ⟨rfl,b3⟩
   have aB:=wTr cg b3;clear b3;by_cases he:rcC x y=0
   ·have hd:decide (rcC x y=0)=true:=decide_eq_true he;have HN:Hid (plR (A.take (k+1))=plR (B.take (k+1))/\Below w.heap.size w w3):=⟨by rw [t1.out,t2.out,HK.out.1,(jG.eq _ _).1 he],aB.out⟩;clear he;rw [hd];clear hd;go_wp2_with fail;go_roundw
    case rel=>exact ⟨k+1,cw.out,by simp,HN.out⟩
    case measure=>simp [intOf];have:=cw.out;omega
   ·have hd:decide (rcC x y=0)=false:=decide_eq_false he;have dT:Hid (¬ plR A=plR B):=IG.out fun h=>he ((jG.eq _ _).2 h);clear he;rw [hd];clear hd;go_wp2_with fail;go_ret;exact ⟨false,rfl,BIf.no dT.out,aB.out⟩
  ·have cL:¬ (k:Int) < (n:Int):=by omega
   have HE:Hid (plR A=plR B):=zbZ my.out mA.out ak HK.out.1;have cg:=hide HK.out.2;clear ak hk;go_wp2_with fail;go_ret;exact ⟨true,rfl,BIf.yes HE.out,cg.out⟩
theorem yI (a b:Fc) (w:World) (hA:aV w a) (hB:aV w b) (fa:∀ r∈a.rs,aj r.p.P) (fb:∀ r∈b.rs,aj r.p.P):Calls Tryz.prog 76 #[FaV (mkF a),FaV (mkF b)] w fun e w'=>iB w w' e (EqS a b):=by
 obtain ⟨wk,aY,HX,HY,aq,-⟩:=oB w a b;obtain ⟨G,dF⟩:∃ G,w.heap.size=G:=⟨_,rfl⟩;rw [dF] at HX HY;have HA:=hide (hA.below aq.out);have HB:=hide (hB.below aq.out);have HF:Hid ((∀ r∈a.rs,aj r.p.P)/\∀ r∈b.rs,aj r.p.P):=⟨fa,fb⟩;obtain ⟨c0,-⟩:=HX.out.cs;obtain ⟨d0,-⟩:=HY.out.cs;clear hA hB fa fb;go_enter Tryz.func76,Tryz.ntmps76;go_wp2_with fail;clear aY dF c0 d0;refine (zgI a.ao b.ao a.an a.ac b.an b.ac a.es b.es _ HA.out.es HB.out.es).mono ?_;rintro e w3 ⟨v,rfl,hv,b3⟩;have aB:=hide b3;have lp:=zl (HX.out.below b3).past;have lq:=zl (HY.out.below b3).past;clear b3
 cases v with
 | false =>
  have dT:Hid (¬ EqS a b):=fun h=>by have:=hv.2 h.1;cases this
  have HE:=wTr aq aB.out;clear hv lp lq;go_wp2_with fail;go_ret;exact ⟨false,rfl,BIf.no dT.out,HE.out⟩
 | true =>
 have HV:=hide (hv.1 rfl);clear hv;go_wp2_with fail;clear lp lq;refine (yA a.p b.p _ (HA.out.p.below aB.out) (HB.out.p.below aB.out)).mono ?_;rintro e w4 ⟨v,rfl,hv,b4⟩;have aQ:=wTr aB b4;obtain ⟨-,c3⟩:=(HX.out.below aQ.out).cs;obtain ⟨-,d3⟩:=(HY.out.below aQ.out).cs;clear b4
 cases v with
 | false =>
  have dT:Hid (¬ EqS a b):=fun h=>by have:=hv.2 h.2.1;cases this
  have HE:=wTr aq aQ.out;clear hv c3 d3;go_wp2_with fail;go_ret;exact ⟨false,rfl,BIf.no dT.out,HE.out⟩
 | true =>
 have HP:=hide (hv.1 rfl);clear hv;go_wp2_with fail;clear c3 d3;refine (zgG a.ro b.ro a.rn a.rc b.rn b.rc a.rs b.rs _ (HA.out.rs.below aQ.out) (HB.out.rs.below aQ.out) HF.out.1 HF.out.2).mono ?_;rintro e w5 ⟨v,rfl,hv,b5⟩;have HE:=hide (aq.out.trans ((aQ.out.trans (b5.mono aQ.out.size)).mono aq.out.size));have HQ:Hid (BIf v (EqS a b)):=⟨fun h=>⟨HV.out,HP.out,hv.1 h⟩,fun h=>hv.2 h.2.2⟩;clear hv b5;go_wp2_with fail;go_ret;exact ⟨v,rfl,HQ.out,HE.out⟩
end
section
open Go.RowKit
theorem zap {s t:Fc}:EqS s t↔ab s=ab t:=⟨fun h=>zfw h.1 h.2.1 h.2.2,zi8⟩
theorem FmA.rp {s:Fc} (h:FmA (ab s)):∀ r∈s.rs,aj r.p.P:=fun r hr=>(h.r.1 (rck r) (List.mem_map.2 ⟨r,hr,rfl⟩)).2.1
def LeS (a b:Fc):Prop:=JnA (ab a) (ab b) (ab b)
def WiS (a b:Fc) (v:Bool) (er:Int):Prop:=(¬ (aK a/\aK b)/\er=1/\v=false)∨((aK a/\aK b)/\K.cu (a.es++b.es)/\er=10/\v=false)∨((aK a/\aK b)/\¬ K.cu (a.es++b.es)/\er=0/\BIf v (LeS a b))
def WiE (w w':World) (e:Ending) (a b:Fc):Prop:=∃ v er,e = .returned (.tuple #[.bool v,.int .i64 er])/\Below w.heap.size w w'/\WiS a b v er
def OrK (a b:Fc) (o:Int):Prop:=(LeS a b/\LeS b a/\o=0)∨(LeS a b/\¬ LeS b a/\o=1)∨(¬ LeS a b/\LeS b a/\o=2)∨(¬ LeS a b/\¬ LeS b a/\o=3)
def OrS (a b:Fc) (o er:Int):Prop:=(¬ (aK a/\aK b)/\er=1/\o=0)∨((aK a/\aK b)/\K.cu (a.es++b.es)/\er=10/\o=0)∨((aK a/\aK b)/\¬ K.cu (a.es++b.es)/\er=0/\OrK a b o)
def OrE (w w':World) (e:Ending) (a b:Fc):Prop:=∃ o er,e = .returned (.tuple #[.int .i64 o,.int .i64 er])/\Below w.heap.size w w'/\OrS a b o er
attribute [local go_sem ↓] zL zK
attribute [local go_sem] zk zm zv
theorem zbA (N M:Nat) (hNM:N+M <= 4) (a b:Fc) (w:World) (hA:SwB N w a) (hB:SwB M w b):Calls Tryz.prog 38 #[FaV (mkF a),FaV (mkF b)] w fun e w'=>OrE w w' e a b:=by
 obtain ⟨wk,aY,HX,HY,aq,-⟩:=oB w a b;obtain ⟨G,dF⟩:∃ G,w.heap.size=G:=⟨_,rfl⟩;rw [dF] at HX HY;have HA:=hide (hA.below aq.out);have HB:=hide (hB.below aq.out);have HN:=hide hNM;have l1:=qj HX.out;have l2:=qj HY.out;clear hA hB hNM;go_enter Tryz.func38,Tryz.ntmps38;go_wp2_with fail;clear aY dF l1 l2;refine (zdi N M HN.out a b _ HA.out HB.out).mono ?_;rintro e w3 ⟨s,er,rfl,BS,b3,DS⟩;obtain ⟨gj,Fm⟩:∃ g,w3.heap.size=g:=⟨_,rfl⟩;obtain ⟨w4,a8,X4,B4,-⟩:=iL w3 s gj Fm;have b34:=b3.trans (B4.mono b3.size);have aQ:=wTr aq b34;have HJ:=hide X4;have HS:=hide (BS.below B4);have Ni:=hide (HX.out.below b34);have Lf:=hide (HY.out.below b34);have Kj:=hide (HB.out.below b34);have D7:=hide (HA.out.below b34);have HD:=hide (zfS HA.out.ok HB.out.ok DS);clear BS b3 DS X4 B4 b34
 rcases HD.out with ⟨h,rfl,-⟩ | ⟨h,hc,rfl,-⟩ | ⟨h,hc,rfl,hj⟩
 ·have HE:Hid (OrE w w4 (.returned (.tuple #[.int .i64 0,.int .i64 1])) a b):=⟨0,1,rfl,aQ.out,.inl ⟨h,rfl,rfl⟩⟩;clear h HD;go_wp2_with fail;clear a8 Fm;go_ret2;exact HE.out
 ·have HE:Hid (OrE w w4 (.returned (.tuple #[.int .i64 0,.int .i64 10])) a b):=⟨0,10,rfl,aQ.out,.inr (.inl ⟨h,hc,rfl,rfl⟩)⟩;clear h hc HD;go_wp2_with fail;clear a8 Fm;go_ret2;exact HE.out
 ·have Fv:=hide hj;have lB:=hide h;have Lk:=hide hc;have FJ:=hide ((zbk D7.out.ok).1 h.1);have Fk:=hide ((zbk Kj.out.ok).1 h.2);have fU:=hide (hj.form FJ.out Fk.out)
  have aG:Hid (∀ W,Below w4.heap.size w4 W -> (ma (.pointer (some ⟨G,0,none⟩))).run Tryz.prog W = .ok (.agg (FaC (mkF a))) W/\(ma (.pointer (some ⟨G+1,0,none⟩))).run Tryz.prog W = .ok (.agg (FaC (mkF b))) W/\(ma (.pointer (some ⟨gj,0,none⟩))).run Tryz.prog W = .ok (.agg (FaC (mkF s))) W):=fun W hW =>
   ⟨qj (Ni.out.below hW),qj (Lf.out.below hW),qj (HJ.out.below hW)⟩
  clear h hc hj HD;go_upto_region 4 with fail;clear a8 Fm;refine wp_region_held_drew (S:=fun W=>(ma (.pointer (some ⟨G,0,none⟩))).run Tryz.prog W = .ok (.agg (FaC (mkF a))) W/\(ma (.pointer (some ⟨G+1,0,none⟩))).run Tryz.prog W = .ok (.agg (FaC (mkF b))) W/\(ma (.pointer (some ⟨gj,0,none⟩))).run Tryz.prog W = .ok (.agg (FaC (mkF s))) W) (by kernel_rfl) (aG.out _ (zg w4)) (fun hHeld=>?_);refine wU 0 ?_;refine wU 1 ?_;refine wU 3 ?_;refine wU 4 ?_;refine wpAnyH_ready (rs:=[2]) (by kernel_rfl) (by simp) (.cons rfl (fun K hK=>?_) .nil);go_simp;go_wp2_with fail;refine (yI s b _ (HS.out.ok.below (zg w4)) (Kj.out.ok.below (zg w4)) fU.out.rp Fk.out.rp).mono ?_;rintro e w7 ⟨x,rfl,hx,b0⟩;have dH:Hid (Below w4.heap.size w4 w7):=(zg w4).trans b0;have Hx:=hide hx;have pf:=hide (aG.out _ dH.out);refine hK.out _ _ pf.out (fun hHeld=>?_)
  clear hK K b0 pf hx;refine wpAnyH_ready (rs:=[5]) (by kernel_rfl) (by simp) (.cons rfl (fun K hK=>?_) .nil);go_simp;go_wp2_with fail;refine (yI s a _ (HS.out.ok.below dH.out) (D7.out.ok.below dH.out) fU.out.rp FJ.out.rp).mono ?_;rintro e w8 ⟨y,rfl,hy,b0⟩;have ia:Hid (Below w4.heap.size w4 w8):=dH.out.trans (b0.mono dH.out.size);have Hy:=hide hy;have pf:=hide (aG.out _ ia.out);refine hK.out _ _ pf.out (fun hHeld=>?_);clear hK K b0 pf hy;refine wU 6 ?_;refine wU 7 ?_;refine wpAnyH_done (by kernel_rfl) ?_ _;clear hHeld;have HP:Hid (BIf x (LeS a b)):=⟨fun h=>by have h1:=Fv.out;rw [zap.1 (Hx.out.1 h)] at h1;exact h1,fun h=>Hx.out.2 (zap.2 (Fv.out.uniq h))⟩;have HQ:Hid (BIf y (LeS b a)):=⟨fun h=>by have h1:=Fv.out.comm;rw [zap.1 (Hy.out.1 h)] at h1;exact h1,fun h=>Hy.out.2 (zap.2 (Fv.out.comm.uniq h))⟩
  have HE:Hid (∀ o,OrK a b o -> OrE w w8 (.returned (.tuple #[.int .i64 o,.int .i64 0])) a b):=fun o ho=>⟨o,0,rfl,aQ.out.trans (ia.out.mono aQ.out.size),.inr (.inr ⟨lB.out,Lk.out,rfl,ho⟩)⟩;clear Hx Hy aG
  cases x with
  | true =>
   cases y with
   | true =>
    have HO:Hid (OrK a b 0):=.inl ⟨HP.out.1 rfl,HQ.out.1 rfl,rfl⟩;go_wp2_with fail;go_ret2;exact HE.out 0 HO.out
   | false =>
    have HO:Hid (OrK a b 1):=.inr (.inl ⟨HP.out.1 rfl,(fun h=>by have:=HQ.out.2 h;cases this),rfl⟩);go_wp2_with fail;go_ret2;exact HE.out 1 HO.out
  | false =>
   cases y with
   | true =>
    have HO:Hid (OrK a b 2):=.inr (.inr (.inl ⟨(fun h=>by have:=HP.out.2 h;cases this),HQ.out.1 rfl,rfl⟩));go_wp2_with fail;go_ret2;exact HE.out 2 HO.out
   | false =>
    have HO:Hid (OrK a b 3):=.inr (.inr (.inr ⟨(fun h=>by have:=HP.out.2 h;cases this),(fun h=>by have:=HQ.out.2 h;cases this),rfl⟩));go_wp2_with fail;go_ret2;exact HE.out 3 HO.out
end
section
open Go.RowKit
attribute [local go_sem ↓] zq zp zB zz zL zK
attribute [local go_sem] zi zj zk zm zv
theorem bD (a b:Fc) (w:World) (hF:aV w a) (hG:aV w b) (hE:EqS a b):Calls Tryz.prog 9 #[FaV (mkF a),FaV (mkF b)] w fun e w'=>e = .returned (.bool true)/\Below w.heap.size w w':=by
 obtain ⟨wk,aY,HX,HY,aq⟩:=EE w a b;obtain ⟨G,dF⟩:∃ G,w.heap.size=G:=⟨_,rfl⟩;rw [dF] at HX HY;have HF:=hide (hF.below aq.out);have HG:=hide (hG.below aq.out);have HE:=hide hE;clear hF hG hE;have c0:=HX.out.cs.1;have d0:=HY.out.cs.1;go_enter Tryz.func9,Tryz.ntmps9;go_wp2_with fail;clear aY dF c0 d0;refine (jJ a.ao b.ao a.an b.an a.ac b.ac a.es b.es _ HF.out.es HG.out.es).mono ?_;rintro e w3 ⟨x,rfl,hx,b3⟩;obtain rfl:x=true:=hx.2 HE.out.1;have aB:=hide b3;clear hx b3;have lp:=zl (HX.out.below aB.out).past;have lq:=zl (HY.out.below aB.out).past;go_wp2_with fail;clear lp lq;refine (xy a.p b.p _ (HF.out.below aB.out).p (HG.out.below aB.out).p).mono ?_;rintro e w4 ⟨x,rfl,hx,b4⟩;obtain rfl:x=true:=hx.2 HE.out.2.1;have aQ:=wTr aB b4;clear hx b4;have c3:=(HX.out.below aQ.out).cs.2
 have d3:=(HY.out.below aQ.out).cs.2;go_wp2_with fail;clear c3 d3;refine (wL a.ro b.ro a.rn b.rn a.rc b.rc a.rs b.rs _ (HF.out.below aQ.out).rs (HG.out.below aQ.out).rs).mono ?_;rintro e w5 ⟨x,rfl,hx,b5⟩;obtain rfl:x=true:=hx.2 HE.out.2.2;have dO:=hide (aq.out.trans ((aQ.out.trans (b5.mono aQ.out.size)).mono aq.out.size));clear hx b5;go_wp2_with fail;go_ret;exact ⟨rfl,dO.out⟩
theorem bS (f:Fc) (w:World) (hF:aV w f):Calls Tryz.prog 24 #[FaV (mkF f)] w fun e w'=>iB w w' e (av f):=by
 have HX:=hide (qi w (mkF f));have aq:=hide (ze w (.cells (FaC (mkF f)) 29));have HS:=hide (hF.below aq.out);clear hF;obtain ⟨wk,aY⟩:∃ wk,w.alloc (.cells (FaC (mkF f)) 29)=wk:=⟨_,rfl⟩;obtain ⟨G,hG⟩:∃ G,w.heap.size=G:=⟨_,rfl⟩;rw [aY] at HX aq HS;rw [hG] at HX;obtain ⟨c0,c3⟩:=HX.out.cs;go_enter Tryz.func24,Tryz.ntmps24;go_wp2_with fail;clear aY hG;refine (K.kG f.ao f.an f.ac f.es _ HS.out.es).mono ?_;rintro e w2 ⟨rfl,b2⟩;have cg:=wTr aq b2;have fB:=hide (HX.out.below b2);have dX:=hide (HS.out.below b2);clear b2 c0 c3 HX HS aq
 cases hc:K.okN f.es f.an with
 | false =>
  have HN:Hid (¬ av f):=fun h=>by have h1:=h.1;rw [hc] at h1;cases h1
  clear hc;go_wp2_with fail;go_ret;exact ⟨_,rfl,BIf.no HN.out,cg.out⟩
 | true =>
  have HC:=hide hc;have lp:=zl fB.out.past;clear hc;go_wp2_with fail;clear lp;refine (kF f.p _ dX.out.p).mono ?_;rintro e w3 ⟨b,rfl,hb,b3⟩;have aB:=wTr cg b3;have fL:=hide (fB.out.below b3);have oS:=hide (dX.out.below b3);clear b3 fB dX cg
  cases b with
  | false =>
   have HN:Hid (¬ av f):=fun h=>(by have:=hb.out.2 h.2.1;cases this);clear hb;go_wp2_with fail;go_ret;exact ⟨_,rfl,BIf.no HN.out,aB.out⟩
  | true =>
   have HI:Hid (aj f.p.P):=hb.out.1 rfl;have c3:=fL.out.cs.2;clear hb;go_wp2_with fail;clear c3;refine (bT f.ro f.rn f.rc f.rs _ oS.out.rs).mono ?_;rintro e w4 ⟨k,rfl,hk,b4⟩;have aQ:=wTr aB b4;clear b4;rcases hk with ⟨rfl,hk⟩ | ⟨rfl,hk⟩
   ·have HF:Hid (BIf true (av f)):=⟨fun _=>⟨HC.out,HI.out,hk⟩,fun _=>rfl⟩;clear hk;go_wp2_with fail;go_ret;exact ⟨_,rfl,HF.out,aQ.out⟩
   ·have HN:Hid (¬ av f):=fun h=>hk h.2.2;clear hk;go_wp2_with fail;go_ret;exact ⟨_,rfl,BIf.no HN.out,aQ.out⟩
theorem wJ {f s t:Fc} (h:StD f s) (k:StD f t):EqS s t:=by
 have eP:s.p.P=t.p.P:=h.2.1.one k.2.1;exact ⟨h.1.trans k.1.symm,eP,by rw [h.2.2.2,k.2.2.2,eP]⟩
theorem BG (w:World) (f s:Fc):∃ wk,(w.alloc (.cells (FaC (mkF f)) 29)).alloc (.cells (FaC (mkF s)) 31)=wk/\Hid (aF wk w.heap.size (mkF f))/\Hid (aE wk (w.heap.size+1) (mkF s))/\Hid (Below w.heap.size w wk):=by
 have b1:=ze w (.cells (FaC (mkF f)) 29);have b2:=ze (w.alloc (.cells (FaC (mkF f)) 29)) (.cells (FaC (mkF s)) 31);have X2:=qr (w.alloc (.cells (FaC (mkF f)) 29)) (mkF s);rw [World.size_alloc] at X2;exact ⟨_,rfl,(qi w (mkF f)).below b2,X2,b1.trans (b2.mono b1.size)⟩
theorem zdR (N M:Nat) (hNM:N+M <= 4) (f t:Fc) (w:World) (hF:SwB N w f) (hT:SwB M w t) (ff:av f) (ft:aK t) (h:StD f t):Calls Tryz.prog 13 #[FaV (mkF f),FaV (mkF t)] w fun e w'=>e = .returned (.bool true)/\Below w.heap.size w w':=by
 obtain ⟨wk,aY,HX,HY,aq⟩:=BG w f t;obtain ⟨G,dF⟩:∃ G,w.heap.size=G:=⟨_,rfl⟩;rw [dF] at HX HY;have HF:=hide (hF.below aq.out);have HT:=hide (hT.below aq.out);have HP:Hid (av f/\aK t/\StD f t):=⟨ff,ft,h⟩;clear hF hT ff ft h;have l0:=qy HX.out;go_enter Tryz.func13,Tryz.ntmps13;go_wp2_with fail;clear aY dF l0;refine (kY N (by omega) f _ HF.out).mono ?_;rintro e v3 ⟨s,er,rfl,Ss,b3,hs⟩
 obtain ⟨rfl,hS⟩:er=0/\StD f s:=by
  rcases hs with ⟨h,-⟩ | ⟨-,h,k⟩
  ·exact absurd HP.out.1 h
  ·exact ⟨h,k⟩
 obtain ⟨gs,ot⟩:∃ g,v3.heap.size=g:=⟨_,rfl⟩;obtain ⟨w3,a8,X3,B3,-⟩:=iL v3 s gs ot;have b33:=b3.trans (B3.mono b3.size);have aB:=hide b33;have th:=hide X3;have o9:=hide (Ss.below B3);have HE:Hid (ab s=ab t):=zfw (wJ hS HP.out.2.2).1 (wJ hS HP.out.2.2).2.1 (wJ hS HP.out.2.2).2.2;clear Ss b3 hs hS X3 B3 b33;have l0:=qj th.out;have l1:=qj (HY.out.below aB.out);go_wp2_with fail;clear l0 l1 a8 ot;refine (zbA N M hNM s t _ o9.out (HT.out.below aB.out)).mono ?_;rintro e w4 ⟨o,er,rfl,b4,ho⟩;have aQ:=hide (aq.out.trans ((aB.out.trans (b4.mono aB.out.size)).mono aq.out.size));have fa:FmA (ab t):=(zbk HT.out.ok).1 HP.out.2.1;have fs:aK s:=(zbk o9.out.ok).2 (by rw [HE.out];exact fa)
 have hL:LeS s t/\LeS t s:=by
  unfold LeS;rw [HE.out];exact ⟨le_refl fa,le_refl fa⟩
 have hn:¬ K.cu (s.es++t.es):=by
  have h1:=zcG fa;rw [show s.es=t.es from congrArg Ab.L HE.out];exact h1
 obtain ⟨rfl,rfl⟩:o=0/\er=0:=by
  rcases ho with ⟨h,-⟩ | ⟨-,h,-⟩ | ⟨-,-,h,k⟩
  ·exact absurd ⟨fs,HP.out.2.1⟩ h
  ·exact absurd h hn
  ·rcases k with ⟨-,-,k⟩ | ⟨-,k,-⟩ | ⟨k,-⟩ | ⟨k,-⟩
   ·exact ⟨k,h⟩
   ·exact absurd hL.2 k
   ·exact absurd hL.1 k
   ·exact absurd hL.1 k
 clear b4 ho fa fs hL hn;go_wp2_with fail;go_ret;exact ⟨rfl,aQ.out⟩
end
end Go.Proofs.YtjffpimfngdggaaGreat
