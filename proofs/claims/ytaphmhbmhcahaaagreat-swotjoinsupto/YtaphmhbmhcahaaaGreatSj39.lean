/- SZi SZj -/
import Derived.Test.YtaphmhbmhcahaaaGreatTk
import Derived.Test.YtaphmhbmhcahaaaGreatSj34
import Derived.Test.YtaphmhbmhcahaaaGreatSj35
import Derived.Test.YtaphmhbmhcahaaaGreatSj38
import Derived.Test.YtaphmhbmhcahaaaGreatSj36
set_option maxRecDepth 100000
set_option maxHeartbeats 3200000
namespace Go.Proofs.YtaphmhbmhcahaaaGreat
section
open Go.RowKit
attribute [local go_sem ↓] ldSw_eq stSw_eq
attribute [local go_sem] cells_FaV FaC_size zero_FaZ
theorem refWithin11_any (a b:Fc) (w:World) (hA:FcOk w a) (hB:FcOk w b) (hNM:a.rn+b.rn <= 2199023255551):Calls Tryz.prog 13 #[FaV (mkF a),FaV (mkF b)] w fun e w'=>WiE w w' e a b:=by
 obtain ⟨wk,hwk,HX,HY,HBK,-⟩:=box2J w a b;obtain ⟨G,hG0⟩:∃ G,w.heap.size=G:=⟨_,rfl⟩;rw [hG0] at HX HY;have HA:=hide (hA.below HBK.out);have HB:=hide (hB.below HBK.out);have HN:=hide hNM;have l1:=run_ldSw HX.out;have l2:=run_ldSw HY.out;clear hA hB hNM;go_enter Tryz.func13,Tryz.ntmps13;go_wp2_with fail;clear hwk hG0 l1 l2;refine (refJoin11_any a b _ HA.out HB.out HN.out).mono ?_;rintro e w3 ⟨s,er,rfl,BS,b3,DS⟩;obtain ⟨gj,hgj⟩:∃ g,w3.heap.size=g:=⟨_,rfl⟩;obtain ⟨w4,hst,X4,B4,-⟩:=madeSx w3 s gj hgj;have b34:=b3.trans (B4.mono b3.size);have HB4:=wTr HBK b34;have HJ:=hide X4;have HS:=hide (BS.below B4);have HYk:=hide (HY.out.below b34);have HBk:=hide (HB.out.below b34);have HAk:=hide (HA.out.below b34);have HD:=hide DS;clear BS b3 DS X4 B4 b34;rcases HD.out with ⟨h,rfl,-⟩ | ⟨h,hc,rfl,-⟩ | ⟨h,hc,rfl,hj⟩
 ·have HE:Hid (WiE w w4 (.returned (.tuple #[.bool false,.int .i64 1])) a b):=⟨false,1,rfl,HB4.out,.inl ⟨h,rfl,rfl⟩⟩;clear h HD;go_wp2_with fail;clear hst hgj;go_ret2;exact HE.out
 ·have HE:Hid (WiE w w4 (.returned (.tuple #[.bool false,.int .i64 10])) a b):=⟨false,10,rfl,HB4.out,.inr (.inl ⟨h,hc,rfl,rfl⟩)⟩;clear h hc HD;go_wp2_with fail;clear hst hgj;go_ret2;exact HE.out
 ·have HJn:=hide hj;have HFo:=hide h;have HCo:=hide hc;have HGa:=hide ((fm_iff HAk.out).1 h.1);have HGb:=hide ((fm_iff HBk.out).1 h.2);have HGs:=hide (hj.form HGa.out HGb.out);have l1:=run_ldSw HJ.out;have l2:=run_ldSw HYk.out;clear h hc hj HD;go_wp2_with fail;clear hst hgj l1 l2;refine (equal11_any s b _ HS.out HBk.out).mono ?_;rintro e w5 ⟨v,rfl,hv,b5⟩;have HE:Hid (WiE w w5 (.returned (.tuple #[.bool v,.int .i64 0])) a b):=⟨v,0,rfl,HB4.out.trans (b5.mono HB4.out.size),.inr (.inr ⟨HFo.out,HCo.out,rfl,⟨fun h=>by have h1:=HJn.out;rw [eqs_iff.1 (hv.1 h)] at h1;exact h1,fun h=>hv.2 (eqs_iff.2 (HJn.out.uniq h))⟩⟩)⟩;clear hv b5;go_wp2_with fail;go_ret2;exact HE.out
theorem refOrder11_any (a b:Fc) (w:World) (hA:FcOk w a) (hB:FcOk w b) (hNM:a.rn+b.rn <= 2199023255551):Calls Tryz.prog 15 #[FaV (mkF a),FaV (mkF b)] w fun e w'=>OrE w w' e a b:=by
 obtain ⟨wk,hwk,HX,HY,HBK,-⟩:=box2J w a b;obtain ⟨G,hG0⟩:∃ G,w.heap.size=G:=⟨_,rfl⟩;rw [hG0] at HX HY;have HA:=hide (hA.below HBK.out);have HB:=hide (hB.below HBK.out);have HN:=hide hNM;have l1:=run_ldSw HX.out;have l2:=run_ldSw HY.out;clear hA hB hNM;go_enter Tryz.func15,Tryz.ntmps15;go_wp2_with fail;clear hwk hG0 l1 l2;refine (refJoin11_any a b _ HA.out HB.out HN.out).mono ?_;rintro e w3 ⟨s,er,rfl,BS,b3,DS⟩;obtain ⟨gj,hgj⟩:∃ g,w3.heap.size=g:=⟨_,rfl⟩;obtain ⟨w4,hst,X4,B4,-⟩:=madeSx w3 s gj hgj;have b34:=b3.trans (B4.mono b3.size);have HB4:=wTr HBK b34;have HJ:=hide X4;have HS:=hide (BS.below B4);have HXk:=hide (HX.out.below b34);have HYk:=hide (HY.out.below b34);have HBk:=hide (HB.out.below b34);have HAk:=hide (HA.out.below b34);have HD:=hide DS;clear BS b3 DS X4 B4 b34;rcases HD.out with ⟨h,rfl,-⟩ | ⟨h,hc,rfl,-⟩ | ⟨h,hc,rfl,hj⟩
 ·have HE:Hid (OrE w w4 (.returned (.tuple #[.int .i64 0,.int .i64 1])) a b):=⟨0,1,rfl,HB4.out,.inl ⟨h,rfl,rfl⟩⟩;clear h HD;go_wp2_with fail;clear hst hgj;go_ret2;exact HE.out
 ·have HE:Hid (OrE w w4 (.returned (.tuple #[.int .i64 0,.int .i64 10])) a b):=⟨0,10,rfl,HB4.out,.inr (.inl ⟨h,hc,rfl,rfl⟩)⟩;clear h hc HD;go_wp2_with fail;clear hst hgj;go_ret2;exact HE.out
 ·have HJn:=hide hj;have HFo:=hide h;have HCo:=hide hc;have HGa:=hide ((fm_iff HAk.out).1 h.1);have HGb:=hide ((fm_iff HBk.out).1 h.2);have HGs:=hide (hj.form HGa.out HGb.out)
  have HSt:Hid (∀ W,Below w4.heap.size w4 W -> (ldSw (.pointer (some ⟨G,0,none⟩))).run Tryz.prog W = .ok (.agg (FaC (mkF a))) W/\(ldSw (.pointer (some ⟨G+1,0,none⟩))).run Tryz.prog W = .ok (.agg (FaC (mkF b))) W/\(ldSw (.pointer (some ⟨gj,0,none⟩))).run Tryz.prog W = .ok (.agg (FaC (mkF s))) W):=fun W hW =>
   ⟨run_ldSw (HXk.out.below hW),run_ldSw (HYk.out.below hW),run_ldSw (HJ.out.below hW)⟩
  clear h hc hj HD;go_upto_region 4 with fail;clear hst hgj;refine wp_region_held_drew (S:=fun W=>(ldSw (.pointer (some ⟨G,0,none⟩))).run Tryz.prog W = .ok (.agg (FaC (mkF a))) W/\(ldSw (.pointer (some ⟨G+1,0,none⟩))).run Tryz.prog W = .ok (.agg (FaC (mkF b))) W/\(ldSw (.pointer (some ⟨gj,0,none⟩))).run Tryz.prog W = .ok (.agg (FaC (mkF s))) W) (by kernel_rfl) (HSt.out _ (below_drew1 w4)) (fun hHeld=>?_);refine wU 0 ?_;refine wU 1 ?_;refine wU 3 ?_;refine wU 4 ?_;refine wpAnyH_ready (rs:=[2]) (by kernel_rfl) (by simp) (.cons rfl (fun K hK=>?_) .nil);go_simp;go_wp2_with fail;refine (equal11_any s b _ (HS.out.below (below_drew1 w4)) (HBk.out.below (below_drew1 w4))).mono ?_;rintro e w7 ⟨x,rfl,hx,b0⟩;have HB7:Hid (Below w4.heap.size w4 w7):=(below_drew1 w4).trans b0;have Hx:=hide hx;have HS0:=hide (HSt.out _ HB7.out);refine hK.out _ _ HS0.out (fun hHeld=>?_)
  clear hK K b0 HS0 hx;refine wpAnyH_ready (rs:=[5]) (by kernel_rfl) (by simp) (.cons rfl (fun K hK=>?_) .nil);go_simp;go_wp2_with fail;refine (equal11_any s a _ (HS.out.below HB7.out) (HAk.out.below HB7.out)).mono ?_;rintro e w8 ⟨y,rfl,hy,b0⟩;have HB8:Hid (Below w4.heap.size w4 w8):=HB7.out.trans (b0.mono HB7.out.size);have Hy:=hide hy;have HS0:=hide (HSt.out _ HB8.out);refine hK.out _ _ HS0.out (fun hHeld=>?_);clear hK K b0 HS0 hy;refine wU 6 ?_;refine wU 7 ?_;refine wpAnyH_done (by kernel_rfl) ?_ _;clear hHeld;have HP:Hid (BIf x (LeS a b)):=⟨fun h=>by have h1:=HJn.out;rw [eqs_iff.1 (Hx.out.1 h)] at h1;exact h1,fun h=>Hx.out.2 (eqs_iff.2 (HJn.out.uniq h))⟩;have HQ:Hid (BIf y (LeS b a)):=⟨fun h=>by have h1:=HJn.out.comm;rw [eqs_iff.1 (Hy.out.1 h)] at h1;exact h1,fun h=>Hy.out.2 (eqs_iff.2 (HJn.out.comm.uniq h))⟩;have HE:Hid (∀ o,OrK a b o -> OrE w w8 (.returned (.tuple #[.int .i64 o,.int .i64 0])) a b):=fun o ho=>⟨o,0,rfl,HB4.out.trans (HB8.out.mono HB4.out.size),.inr (.inr ⟨HFo.out,HCo.out,rfl,ho⟩)⟩
  clear Hx Hy HSt
  cases x with
  | true =>
   cases y with
   | true =>
    have HO:Hid (OrK a b 0):=.inl ⟨HP.out.1 rfl,HQ.out.1 rfl,rfl⟩;go_wp2_with fail;go_ret2;exact HE.out 0 HO.out
   | false =>
    have HO:Hid (OrK a b 1):=.inr (.inl ⟨HP.out.1 rfl,(fun h=>by have:=HQ.out.2 h;cases this),rfl⟩);go_wp2_with fail;go_ret2;exact HE.out 1 HO.out
  | false =>
   cases y with
   | true =>
    have HO:Hid (OrK a b 2):=.inr (.inr (.inl ⟨(fun h=>by have:=HP.out.2 h;cases this),HQ.out.1 rfl,rfl⟩));go_wp2_with fail;go_ret2;exact HE.out 2 HO.out
   | false =>
    have HO:Hid (OrK a b 3):=.inr (.inr (.inr ⟨(fun h=>by have:=HP.out.2 h;cases this),(fun h=>by have:=HQ.out.2 h;cases this),rfl⟩));go_wp2_with fail;go_ret2;exact HE.out 3 HO.out
end
section
open Go.RowKit
theorem rj_one {wa wb:World} {a b s t:Fc} {er g:Int} (hA:FcOk wa a) (hB:FcOk wb b) (h:SjD a b s er) (k:RjD a b t g):er=g/\EqS s t:=by
 rcases sj_cases hA hB h with ⟨h1,rfl,rfl⟩ | ⟨h1,h2,rfl,rfl⟩ | ⟨h1,h2,rfl,h3⟩ <;> rcases k with ⟨k1,rfl,rfl⟩ | ⟨k1,k2,rfl,rfl⟩ | ⟨k1,k2,rfl,k3⟩
 ·exact ⟨rfl,rfl,rfl,rfl⟩
 ·exact absurd k1 h1
 ·exact absurd k1 h1
 ·exact absurd h1 k1
 ·exact ⟨rfl,rfl,rfl,rfl⟩
 ·exact absurd h2 k2
 ·exact absurd h1 k1
 ·exact absurd k2 h2
 ·exact ⟨rfl,eqs_iff.2 (h3.uniq k3)⟩
theorem WiS.one {a b:Fc} {v x:Bool} {er g:Int} (h:WiS a b v er) (k:WiS a b x g):v=x/\er=g:=by
 rcases h with ⟨h1,rfl,rfl⟩ | ⟨h1,h2,rfl,rfl⟩ | ⟨h1,h2,rfl,h3⟩ <;> rcases k with ⟨k1,rfl,rfl⟩ | ⟨k1,k2,rfl,rfl⟩ | ⟨k1,k2,rfl,k3⟩
 ·exact ⟨rfl,rfl⟩
 ·exact absurd k1 h1
 ·exact absurd k1 h1
 ·exact absurd h1 k1
 ·exact ⟨rfl,rfl⟩
 ·exact absurd h2 k2
 ·exact absurd h1 k1
 ·exact absurd k2 h2
 ·exact ⟨Bool.eq_iff_iff.2 ((⟨h3.1,h3.2⟩:v=true↔LeS a b).trans (⟨k3.1,k3.2⟩:x=true↔LeS a b).symm),rfl⟩
theorem OrK.one {a b:Fc} {o p:Int} (h:OrK a b o) (k:OrK a b p):o=p:=by
 rcases h with ⟨h1,h2,rfl⟩ | ⟨h1,h2,rfl⟩ | ⟨h1,h2,rfl⟩ | ⟨h1,h2,rfl⟩ <;> rcases k with ⟨k1,k2,rfl⟩ | ⟨k1,k2,rfl⟩ | ⟨k1,k2,rfl⟩ | ⟨k1,k2,rfl⟩ <;> first | rfl | exact absurd k1 h1 | exact absurd h1 k1 | exact absurd k2 h2 | exact absurd h2 k2
theorem OrS.one {a b:Fc} {o p er g:Int} (h:OrS a b o er) (k:OrS a b p g):o=p/\er=g:=by
 rcases h with ⟨h1,rfl,rfl⟩ | ⟨h1,h2,rfl,rfl⟩ | ⟨h1,h2,rfl,h3⟩ <;> rcases k with ⟨k1,rfl,rfl⟩ | ⟨k1,k2,rfl,rfl⟩ | ⟨k1,k2,rfl,k3⟩
 ·exact ⟨rfl,rfl⟩
 ·exact absurd k1 h1
 ·exact absurd k1 h1
 ·exact absurd h1 k1
 ·exact ⟨rfl,rfl⟩
 ·exact absurd h2 k2
 ·exact absurd h1 k1
 ·exact absurd k2 h2
 ·exact ⟨h3.one k3,rfl⟩
attribute [local go_sem ↓] ldSw_eq stSw_eq
attribute [local go_sem] cells_FaV FaC_size zero_FaZ
theorem swotJoins_law (a b:Fc) (w:World) (hA:FcU w a) (hB:FcU w b):Calls Tryz.prog 3 #[FaV (mkF a),FaV (mkF b)] w fun e w'=>e = .returned (.bool true)/\Below w.heap.size w w':=by
 obtain ⟨wk,hwk,HXa,HXb,HBK,-⟩:=box2J w a b;obtain ⟨G,hG0⟩:∃ G,w.heap.size=G:=⟨_,rfl⟩;rw [hG0] at HXa HXb;have HOa:=hide (hA.b.below HBK.out);have HOb:=hide (hB.b.below HBK.out)
 have HN:Hid (a.rn+b.rn <= 2199023255551):=by
  show _ <= _
  have h1:=HOa.out.rn;have h2:=HOb.out.rn;omega
 clear hA hB;go_enter Tryz.func3,Tryz.ntmps3;go_wp2_with fail;clear hwk hG0;refine (known_any _).mono ?_;rintro e w2 ⟨rfl,b2⟩;have HB2:=hide b2;clear b2;have l0:=run_ldSw (HXa.out.below HB2.out);have l1:=run_ldSw (HXb.out.below HB2.out);go_wp2_with fail;clear l0 l1;refine (refJoin11_any a b _ (HOa.out.ok.below HB2.out) (HOb.out.ok.below HB2.out) HN.out).mono ?_;rintro e v3 ⟨t,g,rfl,F0,b0,J0⟩;have HJt:=hide J0;obtain ⟨gt,hg0⟩:∃ g,v3.heap.size=g:=⟨_,rfl⟩;obtain ⟨w3,hst,X0,B0,-⟩:=madeSx v3 t gt hg0;have b01:=b0.trans (B0.mono b0.size);have HB3:=wTr HB2 b01;have HXt:=hide X0;have HFt:=hide (F0.below B0);clear F0 X0 B0 b0 b01 J0;have l0:=run_ldSw (HXa.out.below HB3.out);have l1:=run_ldSw (HXb.out.below HB3.out);go_wp2_with fail;clear l0 l1 hst hg0;refine (swJoin_any 1 1 (by decide) a b _ (HOa.out.below HB3.out) (HOb.out.below HB3.out)).mono ?_
 rintro e v4 ⟨s,er,rfl,F0,b0,J0⟩;obtain ⟨rfl,hes⟩:=rj_one HOa.out.ok HOb.out.ok J0 HJt.out;have HEs:=hide hes;obtain ⟨gs,hg0⟩:∃ g,v4.heap.size=g:=⟨_,rfl⟩;obtain ⟨w4,hst,X0,B0,-⟩:=madeSx v4 s gs hg0;have b01:=b0.trans (B0.mono b0.size);have HB4:=wTr HB3 b01;have HXs:=hide X0;have HFs:=hide (F0.below B0);have HXt4:=hide (HXt.out.below b01);have HFt4:=hide (HFt.out.below b01);clear F0 X0 B0 b0 b01 J0 hes HXt HFt HJt;have l0:=run_ldSw HXs.out;have l1:=run_ldSw HXt4.out
 have d1:((er:Int) != er)=false:=by simp
 have d2:((er:Int) == er)=true:=by simp
 go_wp2_with fail;clear l0 l1 hst hg0;refine (equal11_true s t _ HFs.out.ok HFt4.out HEs.out).mono ?_;rintro e w5 ⟨rfl,b5⟩;have HB5:=wTr HB4 b5;clear b5 d1 d2;have l0:=run_ldSw (HXa.out.below HB5.out);have l1:=run_ldSw (HXb.out.below HB5.out);go_wp2_with fail;clear l0 l1;refine (refWithin11_any a b _ (HOa.out.ok.below HB5.out) (HOb.out.ok.below HB5.out) HN.out).mono ?_;rintro e w6 ⟨v,f,rfl,b6,W6⟩;have HB6:=wTr HB5 b6;have HW6:=hide W6;clear b6 W6;have l0:=run_ldSw (HXa.out.below HB6.out);have l1:=run_ldSw (HXb.out.below HB6.out);go_wp2_with fail;clear l0 l1;refine (swWithin_any 1 1 (by decide) a b _ (HOa.out.below HB6.out) (HOb.out.below HB6.out)).mono ?_;rintro e w7 ⟨x,e2,rfl,b7,W7⟩;obtain ⟨rfl,rfl⟩:=W7.one HW6.out;have HB7:=wTr HB6 b7;clear b7 W7 HW6;have l0:=run_ldSw (HXa.out.below HB7.out);have l1:=run_ldSw (HXb.out.below HB7.out)
 have d1:((e2:Int) != e2)=false:=by simp
 have d2:((e2:Int) == e2)=true:=by simp
 cases x with
 | true =>
  go_wp2_with fail;clear l0 l1;refine (refOrder11_any a b _ (HOa.out.ok.below HB7.out) (HOb.out.ok.below HB7.out) HN.out).mono ?_;rintro e w8 ⟨o,f3,rfl,b8,W8⟩;have HB8:=wTr HB7 b8;have HW8:=hide W8;clear b8 W8 d1 d2;have l0:=run_ldSw (HXa.out.below HB8.out);have l1:=run_ldSw (HXb.out.below HB8.out);go_wp2_with fail;clear l0 l1;refine (swOrder_any 1 1 (by decide) a b _ (HOa.out.below HB8.out) (HOb.out.below HB8.out)).mono ?_;rintro e w9 ⟨o2,f4,rfl,b9,W9⟩;obtain ⟨rfl,rfl⟩:=W9.one HW8.out;have HE:=hide (HBK.out.trans ((HB8.out.trans (b9.mono HB8.out.size)).mono HBK.out.size))
  have d1:((o2:Int) == o2)=true:=by simp
  have d2:((f4:Int) == f4)=true:=by simp
  clear b9 W9 HW8;go_wp2_with fail;go_ret;exact ⟨rfl,HE.out⟩
 | false =>
  go_wp2_with fail;clear l0 l1;refine (refOrder11_any a b _ (HOa.out.ok.below HB7.out) (HOb.out.ok.below HB7.out) HN.out).mono ?_;rintro e w8 ⟨o,f3,rfl,b8,W8⟩;have HB8:=wTr HB7 b8;have HW8:=hide W8;clear b8 W8 d1 d2;have l0:=run_ldSw (HXa.out.below HB8.out);have l1:=run_ldSw (HXb.out.below HB8.out);go_wp2_with fail;clear l0 l1;refine (swOrder_any 1 1 (by decide) a b _ (HOa.out.below HB8.out) (HOb.out.below HB8.out)).mono ?_;rintro e w9 ⟨o2,f4,rfl,b9,W9⟩;obtain ⟨rfl,rfl⟩:=W9.one HW8.out;have HE:=hide (HBK.out.trans ((HB8.out.trans (b9.mono HB8.out.size)).mono HBK.out.size))
  have d1:((o2:Int) == o2)=true:=by simp
  have d2:((f4:Int) == f4)=true:=by simp
  clear b9 W9 HW8;go_wp2_with fail;go_ret;exact ⟨rfl,HE.out⟩
theorem swotJoins_u (a b:Fc) (w:World) (hA:FcU w a) (hB:FcU w b) :
  Calls Tryz.prog 3 #[FaV (mkF a),FaV (mkF b)] w fun e w'=>e = .returned (.bool true)/\Below w.heap.size w w':=swotJoins_law a b w hA hB
end
end Go.Proofs.YtaphmhbmhcahaaaGreat
