/- ORh BCv -/
import Derived.Test.YtjffpimfngdggaaGreatFe20
import Derived.Deep.CutRange
import Derived.Test.YtjffpimfngdggaaGreatFe19
import Derived.Test.YtjffpimfngdggaaGreatFe16
set_option maxRecDepth 100000
namespace Go.Proofs.YtjffpimfngdggaaGreat
section
open Go.RowKit
attribute [local go_sem ↓] zq zp zV zU xT jn
attribute [local go_sem] zi zj xN qB qY
variable {w w' w2 W W' : World} {g : Nat}

end
section
open Go.RowKit
attribute [local go_sem ↓] zq zp zZ zY zV zU K.zx K.zw
attribute [local go_sem] zi zj zJ zQ K.zt K.zF qe
variable {w w' w2 W W' : World} {g : Nat}
def cQ (r:Rc) (e:K.En):Bool:=(decide (r.s.size=0) || (r.s.toList == e.sku.toList)) && inB r.p.P e
theorem zc1 {r:Rc} {e:K.En} {b:Bool} (h:(decide (r.s.size=0) || (r.s.toList == e.sku.toList))=true) (hb:BIf b (cB r.p.P ⟨e.rep,e.num⟩)):cQ r e=b:=by
 unfold cQ;rw [h,Bool.true_and];have h1:=qd r.p.P e;have h2:=hb.out
 cases hx:inB r.p.P e <;> cases b
 ·rfl
 ·rw [hx] at h1;exact absurd (h1.2 (h2.1 rfl)) (by simp)
 ·rw [hx] at h1;have:=h2.2 (h1.1 rfl);cases this
 ·rfl
theorem zgJ {r:Rc} {e:K.En} (h0:¬ r.s.size=0) (h:(r.s.toList == e.sku.toList)=false):cQ r e=false:=by
 unfold cQ;rw [h,decide_eq_false h0];rfl
theorem vv (L:List Rc) (k:Nat) (h:k < L.length):L.take (k+1)=L.take k++[L.getD k rc0]:=by
 rw [List.take_succ_eq_append_getElem h];simp [List.getD,h]
theorem zdH (r:Rc) (e:K.En) (w:World) (hR:cS w r):Calls Tryz.prog 134 #[ReV (mkR r),K.EV e] w fun x w'=>x = .returned (.bool (cQ r e))/\Below w.heap.size w w':=by
 have b1:=ze w (.cells (ReC (mkR r)) 78);have b2:=ze (w.alloc (.cells (ReC (mkR r)) 78)) (.cells (K.EC e) 50);have X2:=K.zT (w.alloc (.cells (ReC (mkR r)) 78)) 50 e;rw [World.size_alloc] at X2;have eo:=hide ((qs w (mkR r)).below b2);have fk:=hide X2;have aq:=hide (b1.trans (b2.mono b1.size));have HS:=hide (hR.1.below aq.out);clear b1 b2 X2 hR;obtain ⟨wk,aY⟩:∃ wk,(w.alloc (.cells (ReC (mkR r)) 78)).alloc (.cells (K.EC e) 50)=wk:=⟨_,rfl⟩;obtain ⟨G,hG⟩:∃ G,w.heap.size=G:=⟨_,rfl⟩;rw [aY] at eo fk aq HS;rw [hG] at eo fk;have c0:=eo.out.sk;have c2:wk.cell? ⟨G+1,2,none⟩=some (.string e.sku):=fk.out.at.c2;have l1:=zl eo.out.past;have l2:=zG (zaq fk.out);have key:Hid (Calls Tryz.prog 32 #[PV r.p,RV ⟨e.rep,e.num⟩] wk fun x w'=>iB wk w' x (cB r.p.P ⟨e.rep,e.num⟩)):=qK r.p ⟨e.rep,e.num⟩ wk HS.out
 by_cases h0:r.s.size=0
 ·have e0:=K.jR r.s h0
  have HC:Hid ((decide (r.s.size=0) || (r.s.toList == e.sku.toList))=true):=by show _=_;rw [decide_eq_true h0,Bool.true_or]
  clear h0;go_enter Tryz.func134,Tryz.ntmps134;go_wp2_with fail;clear aY;refine key.out.mono ?_;rintro x w3 ⟨b,rfl,hb,b3⟩;have HE:Hid (b=cQ r e/\Below w.heap.size w w3):=⟨(zc1 HC.out hb).symm,aq.out.trans (b3.mono aq.out.size)⟩;clear b3 hb l1 l2 c0 c2;go_wp2_with fail;go_ret;exact ⟨by rw [HE.out.1];rfl,HE.out.2⟩
 ·have e0:=K.kW r.s h0
  cases hs:(r.s.toList == e.sku.toList) with
  | true =>
   have HC:Hid ((decide (r.s.size=0) || (r.s.toList == e.sku.toList))=true):=by show _=_;rw [hs,Bool.or_true]
   clear h0;go_enter Tryz.func134,Tryz.ntmps134;go_wp2_with fail;clear aY;refine key.out.mono ?_;rintro x w3 ⟨b,rfl,hb,b3⟩;have HE:Hid (b=cQ r e/\Below w.heap.size w w3):=⟨(zc1 HC.out hb).symm,aq.out.trans (b3.mono aq.out.size)⟩;clear b3 hb l1 l2 c0 c2;go_wp2_with fail;go_ret;exact ⟨by rw [HE.out.1];rfl,HE.out.2⟩
  | false =>
   have HE:Hid (false=cQ r e):=(zgJ h0 hs).symm;clear h0 key;go_enter Tryz.func134,Tryz.ntmps134;go_wp2_with fail;go_ret;exact ⟨by rw [<- HE.out];rfl,aq.out⟩
end
end Go.Proofs.YtjffpimfngdggaaGreat
