/- GIn -/
import Derived.Test.YtjffpimfngdggaaGreatTk
import Derived.Test.YtjffpimfngdggaaGreatFe09
import Derived.Test.YtjffpimfngdggaaGreatFe10
import Derived.Test.YtjffpimfngdggaaGreatFe11
set_option maxRecDepth 100000
set_option maxHeartbeats 800000
namespace Go.Proofs.YtjffpimfngdggaaGreat
open Go.RowKit
attribute [local go_sem ↓] zq zp
attribute [local go_sem] zE zi qm zj
theorem y8 {P Q:Pst} (h:af (ae P) Q):P=Q↔aj P:=by
 constructor
 ·intro e;subst e;exact zW.1 h
 ·intro k;exact af.unique (zW.2 k) h (fun _ _ _=>Iff.rfl)
theorem kF (a:Pv) (w:World) (hS:am w a):Calls Tryz.prog 51 #[PV a] w fun e w'=>iB w w' e (aj a.P):=by
 have b1:=ze w (.cells (PC a) 26);have HX:=hide (zr w a);have aq:=hide b1;have HS:=hide (hS.below b1);clear hS b1;obtain ⟨wk,aY⟩:∃ wk,w.alloc (.cells (PC a) 26)=wk:=⟨_,rfl⟩;rw [aY] at HX HS aq;obtain ⟨G,hG⟩:∃ G,w.heap.size=G:=⟨_,rfl⟩;rw [hG] at HX;go_enter Tryz.func51,Tryz.ntmps51;go_wp2_with fail;clear aY;refine wp_region_held_drew (S:=fun v=>(ldP (.pointer (some ⟨G,0,none⟩))).run Tryz.prog v = .ok (PV a) v) (by kernel_rfl) (zl (HX.out.below (zg wk)).at) (fun hHeld=>?_);refine wU 0 ?_;refine wU 1 ?_;refine wpAnyH_ready (rs:=[2]) (by kernel_rfl) (by simp) (.cons rfl (fun K hK=>?_) .nil);go_simp;go_wp2_with fail;refine (kg a _ (HS.out.below (zg wk))).mono ?_;rintro e w2 ⟨p,rfl,S2,n2,b2,c2⟩;have cg:=hide ((aq.out.trans ((zg wk).mono aq.out.size)).trans (b2.mono aq.out.size))
 have ub:=hide ((HS.out.below (zg wk)).below b2);have mp:=hide S2;have HC:=hide c2;refine hK.out _ _ (zl ((HX.out.below (zg wk)).below b2).at) (fun hHeld=>?_);have HQ:Hid (∀ {w5:World},Below w2.heap.size w2 w5 -> Below wk.drew.heap.size wk.drew w5):=fun h=>b2.trans (h.mono b2.size);clear hK K S2 n2 c2;refine wpAnyH_ready (rs:=[3]) (by kernel_rfl) (by simp) (.cons rfl (fun K hK=>?_) .nil);go_simp;go_wp2_with fail;refine (xy a p _ ub.out mp.out).mono ?_;rintro e w3 ⟨x,rfl,hx,b3⟩;have HF:Hid (iB w w3 (.returned (.bool x)) (aj a.P)):=⟨x,rfl,hx.trans (y8 HC.out),cg.out.trans (b3.mono cg.out.size)⟩;refine hK.out _ _ (zl (((HX.out.below (zg wk)).below ?_)).at) (fun hHeld=>?_)
 ·exact HQ.out b3
 clear hK K b3 hx;refine wU 4 ?_;refine wpAnyH_done (by kernel_rfl) ?_ _;clear hHeld;go_wp2_with fail;go_ret;exact HF.out
end Go.Proofs.YtjffpimfngdggaaGreat
