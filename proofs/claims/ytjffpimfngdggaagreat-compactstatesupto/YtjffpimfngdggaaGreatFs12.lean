/- GIn -/
import Derived.Test.YtjffpimfngdggaaGreatTk
import Derived.Test.YtjffpimfngdggaaGreatFs09
import Derived.Test.YtjffpimfngdggaaGreatFs10
import Derived.Test.YtjffpimfngdggaaGreatFs11
set_option maxRecDepth 100000
set_option maxHeartbeats 800000
namespace Go.Proofs.YtjffpimfngdggaaGreat
open Go.RowKit
attribute [local go_sem ↓] zr zq
attribute [local go_sem] zE zi qq zk
theorem bk {P Q:Pst} (h:CanonOf (runsAt P) Q):P=Q↔InForm P:=by
 constructor
 ·intro e;subst e;exact zP.1 h
 ·intro k;exact CanonOf.unique (zP.2 k) h (fun _ _ _=>Iff.rfl)
theorem xk (a:Pv) (w:World) (hS:PSrc w a):Calls Tryz.prog 51 #[PV a] w fun e w'=>GivB w w' e (InForm a.P):=by
 have b1:=ze w (.cells (PC a) 26);have HX:=hide (zm w a);have HBK:=hide b1;have HS:=hide (hS.below b1);clear hS b1;obtain ⟨wk,hwk⟩:∃ wk,w.alloc (.cells (PC a) 26)=wk:=⟨_,rfl⟩;rw [hwk] at HX HS HBK;obtain ⟨G,hG⟩:∃ G,w.heap.size=G:=⟨_,rfl⟩;rw [hG] at HX;go_enter Tryz.func51,Tryz.ntmps51;go_wp2_with fail;clear hwk;refine wp_region_held_drew (S:=fun v=>(ldP (.pointer (some ⟨G,0,none⟩))).run Tryz.prog v = .ok (PV a) v) (by kernel_rfl) (zj (HX.out.below (zf wk)).at) (fun hHeld=>?_);refine wU 0 ?_;refine wU 1 ?_;refine wpAnyH_ready (rs:=[2]) (by kernel_rfl) (by simp) (.cons rfl (fun K hK=>?_) .nil);go_simp;go_wp2_with fail;refine (jz a _ (HS.out.below (zf wk))).mono ?_;rintro e w2 ⟨p,rfl,S2,n2,b2,c2⟩;have HB2:=hide ((HBK.out.trans ((zf wk).mono HBK.out.size)).trans (b2.mono HBK.out.size))
 have HSa:=hide ((HS.out.below (zf wk)).below b2);have HSp:=hide S2;have HC:=hide c2;refine hK.out _ _ (zj ((HX.out.below (zf wk)).below b2).at) (fun hHeld=>?_);have HQ:Hid (∀ {w5:World},Below w2.heap.size w2 w5 -> Below wk.drew.heap.size wk.drew w5):=fun h=>b2.trans (h.mono b2.size);clear hK K S2 n2 c2;refine wpAnyH_ready (rs:=[3]) (by kernel_rfl) (by simp) (.cons rfl (fun K hK=>?_) .nil);go_simp;go_wp2_with fail;refine (xe a p _ HSa.out HSp.out).mono ?_;rintro e w3 ⟨x,rfl,hx,b3⟩;have HF:Hid (GivB w w3 (.returned (.bool x)) (InForm a.P)):=⟨x,rfl,hx.trans (bk HC.out),HB2.out.trans (b3.mono HB2.out.size)⟩;refine hK.out _ _ (zj (((HX.out.below (zf wk)).below ?_)).at) (fun hHeld=>?_)
 ·exact HQ.out b3
 clear hK K b3 hx;refine wU 4 ?_;refine wpAnyH_done (by kernel_rfl) ?_ _;clear hHeld;go_wp2_with fail;go_ret;exact HF.out
end Go.Proofs.YtjffpimfngdggaaGreat
