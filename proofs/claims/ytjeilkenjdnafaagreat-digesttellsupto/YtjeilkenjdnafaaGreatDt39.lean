/- SXq SZa SZb TJn LOnr LRu TRj SXx SZc -/
import Derived.Test.YtjeilkenjdnafaaGreatTk
import Derived.Test.YtjeilkenjdnafaaGreatDt27
import Derived.Test.YtjeilkenjdnafaaGreatDt10
import Derived.Test.YtjeilkenjdnafaaGreatDt20
import Derived.BigFrame
import Derived.Test.YtjeilkenjdnafaaGreatDt38
import Derived.Test.YtjeilkenjdnafaaGreatDt36
import Derived.Test.YtjeilkenjdnafaaGreatDt25
import Derived.Deep.CutRange
import Derived.Test.YtjeilkenjdnafaaGreatDt26
import Derived.Test.YtjeilkenjdnafaaGreatDt09
import Derived.Test.YtjeilkenjdnafaaGreatDt30
import Derived.Test.YtjeilkenjdnafaaGreatDt37
set_option maxRecDepth 100000
set_option maxHeartbeats 3200000
namespace Go.Proofs.YtjeilkenjdnafaaGreat
section
open Go.RowKit
def EqS (f g:Fc):Prop:=f.es=g.es/\f.p.P=g.p.P/\plR f.rs=plR g.rs
attribute [local go_sem ↓] ldP_eq stP_eq ldSw_eq stSw_eq K.ld28_eq K.st28_eq K.run_eq28
attribute [local go_sem] cells_PV PC_size cells_FaV FaC_size K.eqE_self K.zero_EC K.cells_EV
end
section
open Go.RowKit
def EnU (A B R:List K.En) (ok:Bool):Prop:=(ok=false/\K.Clash (A++B))∨(ok=true/\¬ K.Clash (A++B)/\K.Asc R/\∀ e,e∈R↔e∈A∨e∈B)
def EnG (w w':World) (x:Ending) (A B:List K.En):Prop:=∃ o q k R ok,x = .returned (.tuple #[.slice o q k,.bool ok])/\K.ESrc w' o q k R/\Below w.heap.size w w'/\EnU A B R ok
theorem enDrop {L:List K.En} {i:Nat} (h:i < L.length):L.drop i=L.getD i K.en0 :: L.drop (i+1):=by
 rw [List.drop_eq_getElem_cons h,List.getD_eq_getElem?_getD,List.getElem?_eq_getElem h];rfl
structure EnM (A B:List K.En) (i j:Nat) (D:List K.En):Prop where
 p:K.Asc (D++A.drop i)
 q:K.Asc (D++B.drop j)
 m:∀ e,(e∈D∨e∈A.drop i∨e∈B.drop j)↔e∈A∨e∈B
 l:D.length <= i+j
theorem EnM.symm {A B D:List K.En} {i j:Nat} (h:EnM A B i j D):EnM B A j i D:=
 ⟨h.q,h.p,fun e=>by have:=h.m e;constructor <;> intro k <;> (have t1:=this.1;have t2:=this.2;grind),by have:=h.l;omega⟩
theorem EnM.left {A B D:List K.En} {i j:Nat} (h:EnM A B i j D) (hi:i < A.length) (hx:∀ y∈B.drop j,K.ahead (A.getD i K.en0) y=true):EnM A B (i+1) j (D++[A.getD i K.en0]):=by
 have e:=enDrop hi;have hp:=h.p;have hq:=h.q;have hm:=h.m;rw [e] at hp hm;unfold K.Asc at hp hq;rw [List.pairwise_append] at hp hq;refine ⟨?_,?_,fun z=>?_,by have:=h.l;rw [List.length_append];simp;omega⟩
 ·unfold K.Asc;rw [List.append_assoc,List.singleton_append,List.pairwise_append];exact hp
 ·unfold K.Asc;rw [List.append_assoc,List.singleton_append,List.pairwise_append];refine ⟨hq.1,List.pairwise_cons.2 ⟨hx,hq.2.1⟩,fun a ha b hb=>?_⟩;rcases List.mem_cons.1 hb with rfl | hb
  ·exact hp.2.2 a ha _ List.mem_cons_self
  ·exact hq.2.2 a ha b hb
 ·rw [<- hm z,List.mem_append,List.mem_singleton,List.mem_cons];constructor
  ·rintro ((k | k) | k | k)
   ·exact .inl k
   ·exact .inr (.inl (.inl k))
   ·exact .inr (.inl (.inr k))
   ·exact .inr (.inr k)
  ·rintro (k | (k | k) | k)
   ·exact .inl (.inl k)
   ·exact .inl (.inr k)
   ·exact .inr (.inl k)
   ·exact .inr (.inr k)
theorem EnM.none {B:List K.En} {j:Nat} {x:K.En} (hj:j=B.length):∀ y∈B.drop j,K.ahead x y=true:=fun y hy=>by
 rw [hj,List.drop_length] at hy;cases hy
attribute [local go_sem ↓] ldD_eq stD_eq K.ld28_eq K.st28_eq
attribute [local go_sem] cells_RV RC_size zero_RC fold_RC K.zero_EC K.cells_EV K.EC_size K.fold_EC
end
section
open Go.RowKit
section
attribute [local go_sem ↓] ldP_eq stP_eq ldRe_eq stRe_eq
attribute [local go_sem] cells_ReV ReC_size zero_ReC
end
def RcG (w w':World) (x:Ending) (A B:List Rc):Prop:=∃ (h:Hs) (F:List Rc),x = .returned (HsV h)/\RcS w' h.o h.n h.c F/\Below w.heap.size w w'/\UnOf A B F/\h.n <= A.length+B.length
attribute [local go_sem ↓] ldP_eq stP_eq ldRe_eq stRe_eq
attribute [local go_sem] cells_ReV ReC_size zero_ReC
end
section
open Go.RowKit
attribute [local go_sem ↓] ldP_eq stP_eq ldFa_eq stFa_eq bldF_eq bsPs_eq
attribute [local go_sem] cells_PV PC_size cells_FaV FaC_size zero_FaZ run_bldF0 run_bldF12 run_bsPs
end
end Go.Proofs.YtjeilkenjdnafaaGreat
namespace Go.Proofs.YtjeilkenjdnafaaGreat.K
section
open Go.RowKit
attribute [local go_sem ↓] ld28_eq st28_eq ld26_eq
attribute [local go_sem] zero_EC cells_EV EC_size fold_EC
attribute [local go_sem ↓] run_eq28 run_eqD
end
section
open Go.RowKit Go.Lib
attribute [local go_sem ↓] ld28_eq st28_eq
attribute [local go_sem] zero_EC cells_EV EC_size fold_EC
end
end Go.Proofs.YtjeilkenjdnafaaGreat.K
namespace Go.Proofs.YtjeilkenjdnafaaGreat
section
open Go.RowKit
theorem FaBox.ne {W:World} {g:Nat} {m:FacV} (A:FaBox W g m) {a:Addr} {v:Value} (hc:W.cell? a=some v) (hv:∀ o n c,v ≠ .slice o n c):a.block≠g:=by
 rintro rfl;obtain ⟨b,o,k⟩:=a;unfold FaBox at A;have h:=World.cell?_spot hc;obtain rfl:k=none:=h;simp only [World.cell?,A] at hc;rcases o with _ | _ | _ | _ | o <;> simp [FaC] at hc
 all_goals exact absurd hc.symm (hv _ _ _)
theorem cell_off {W:World} {g:Nat} {a:Addr} (c:Array Value) (h:a.block≠g):(W.setRow g c).cell? a=W.cell? a:=by
 unfold World.cell?;rw [setRow_other _ _ _ _ h]
theorem esrc_offF {W:World} {g:Nat} {m:FacV} {ao:Option Addr} {n cap:Nat} {L:List K.En} (A:FaBox W g m) (h:K.ESrc W ao n cap L) (c:Array Value):K.ESrc (W.setRow g c) ao n cap L:=by
 refine ⟨h.1,h.2.1,fun ad e t ht=>?_,h.2.2.2⟩;have B:=h.2.2.1 ad e t ht;have hb:(ad.add (t * 4)).block≠g:=A.ne B.c0 (fun _ _ _ h=>by cases h);exact ⟨by rw [cell_off c hb];exact B.c0,by rw [cell_off c (by rw [block_add];exact hb)];exact B.c1,by rw [cell_off c (by rw [block_add];exact hb)];exact B.c2,by rw [cell_off c (by rw [block_add];exact hb)];exact B.c3⟩
theorem psrc_offF {W:World} {g:Nat} {m:FacV} {p:Pv} (A:FaBox W g m) (h:PSrc W p) (c:Array Value):PSrc (W.setRow g c) p:=by
 refine ⟨⟨h.vec.1,h.vec.2.1,fun ad e t ht=>?_⟩,⟨h.cloud.len,h.cloud.nil,fun ad e t ht=>?_,h.cloud.big,h.cloud.cap⟩,h.big⟩
 ·have B:=h.vec.2.2 ad e t ht;rw [cell_off c (A.ne B (fun _ _ _ h=>by cases h))];exact B
 ·have B:=h.cloud.cell ad e t ht;have hb:=A.ne B.c0 (fun _ _ _ h=>by cases h);exact ⟨by rw [cell_off c hb];exact B.c0,by rw [cell_off c (by rw [block_add];exact hb)];exact B.c1,by rw [cell_off c (by rw [block_add];exact hb)];exact B.c2⟩
theorem rcs_offF {W:World} {g:Nat} {m:FacV} {ao:Option Addr} {n cap:Nat} {L:List Rc} (A:FaBox W g m) (h:RcS W ao n cap L) (c:Array Value):RcS (W.setRow g c) ao n cap L:=by
 refine ⟨h.len,h.nil,fun ad ha t ht=>?_,fun r hr=>⟨psrc_offF A (h.ok r hr).1 c,(h.ok r hr).2⟩,h.big⟩;have B:=h.at_ ad ha t ht;have hb:=A.ne B.c0 (fun _ _ _ h=>by cases h);exact ⟨by rw [cell_off c hb];exact B.c0,by rw [cell_off c (by rw [block_add];exact hb)];exact B.c1,by rw [cell_off c (by rw [block_add];exact hb)];exact B.c2⟩
theorem FcOk.offF {W:World} {g:Nat} {m:FacV} {f:Fc} (h:FcOk W f) (A:FaBox W g m) (c:Array Value):FcOk (W.setRow g c) f:=⟨esrc_offF A h.es c,psrc_offF A h.p c,rcs_offF A h.rs c⟩
def FcE (w w':World) (e:Ending) (D:Fc -> Int -> Prop):Prop:=∃ f er,e = .returned (.tuple #[FaV (mkF f),.int .i64 er])/\FcOk w' f/\FcR f/\Below w.heap.size w w'/\D f er
attribute [local go_sem ↓] ldP_eq stP_eq ldFa_eq stFa_eq bldF_eq bsPs_eq
attribute [local go_sem] cells_PV PC_size cells_FaV FaC_size zero_FaZ run_bldF0 run_bldF12 run_bsPs
end
section
open Go.RowKit
theorem run_bldFx (a b:Option Addr) (n c m d:Nat) (p:Pv) (w:World):(bldF #[(0,.slice a n c),(1,.agg (PC p)),(2,.slice b m d)]).run Tryz.prog w = .ok (.agg (FaC (mkF ⟨a,n,c,[],p,b,m,d,[]⟩))) w:=by kernel_rfl
def ExA (w w':World) (x:Ending) (s:Fc):Prop:=∃ q:Pv,x = .returned (FaV (mkF ⟨s.ao,s.an,s.ac,s.es,q,s.ro,s.rn,s.rc,s.rs⟩))/\FcOk w' ⟨s.ao,s.an,s.ac,s.es,q,s.ro,s.rn,s.rc,s.rs⟩/\Below w.heap.size w w'/\∃ D,CanonOf (dotsG (s.es.map dotOf)) D/\∃ C:Nat -> List Rn,(∀ r,r < 16 -> MinusOf (runsAt s.p.P r) (runsAt D r) (C r))/\CanonOf C q.P
attribute [local go_sem ↓] ldP_eq stP_eq ldFa_eq stFa_eq ldSw_eq stSw_eq bldF_eq
attribute [local go_sem] cells_PV PC_size cells_FaV FaC_size zero_FaZ run_bldFx
theorem refExpand_any (s:Fc) (w:World) (hF:FcOk w s):Calls Tryz.prog 39 #[FaV (mkF s)] w fun e w'=>ExA w w' e s:=by
 have b1:=below_new w (.cells (FaC (mkF s)) 31);have X1:=SwBox_new w (mkF s);obtain ⟨w1,hw1⟩:∃ w1,w.alloc (.cells (FaC (mkF s)) 31)=w1:=⟨_,rfl⟩
 have hs1:w1.heap.size=w.heap.size+1:=by rw [<- hw1];simp
 rw [hw1] at b1 X1;have x2:FaBox (w1.alloc (.cells (FaC (mkF fz0)) 29)) w1.heap.size (mkF fz0):=FaBox_new w1 (mkF fz0);have b2:=below_new w1 (.cells (FaC (mkF fz0)) 29);obtain ⟨w2,hw2⟩:∃ w2,w1.alloc (.cells (FaC (mkF fz0)) 29)=w2:=⟨_,rfl⟩;rw [hw2] at x2 b2;rw [hs1] at x2;obtain ⟨G,hG0⟩:∃ G,w.heap.size=G:=⟨_,rfl⟩;rw [hG0] at X1 x2 hs1;have HX:=hide (X1.below b2);have HZ:=hide x2;have HBK:=hide (b1.trans (b2.mono b1.size));have HF:=hide (hF.below HBK.out);have HGs:Hid (w.heap.size=G):=hG0;clear hF b1 b2 X1 x2;have HSt:Hid (∀ W,SwBox W G (mkF s) -> (W.cell? ⟨G,0,none⟩=some (.slice s.ao s.an s.ac)/\W.cell? ⟨G,3,none⟩=some (.slice s.ro s.rn s.rc))/\(ldP (.pointer (some ⟨G,1,none⟩))).run Tryz.prog W = .ok (PV s.p) W):=fun W h=>⟨h.cs,run_ldP h.past⟩;go_enter Tryz.func39,Tryz.ntmps39;go_upto_region 1 with fail;clear hw1 hw2 hs1 hG0
 refine wp_region_held_drew (S:=fun W=>(W.cell? ⟨G,0,none⟩=some (.slice s.ao s.an s.ac)/\W.cell? ⟨G,3,none⟩=some (.slice s.ro s.rn s.rc))/\(ldP (.pointer (some ⟨G,1,none⟩))).run Tryz.prog W = .ok (PV s.p) W) (by kernel_rfl) (HSt.out _ (HX.out.below (below_drew1 w2))) (fun hHeld=>?_);refine wU 0 ?_;refine wU 1 ?_;refine wU 2 ?_;refine wU 3 ?_;refine wU 4 ?_;refine wU 5 ?_;refine wU 8 ?_;refine wU 9 ?_;refine wpAnyH_ready (rs:=[6]) (by kernel_rfl) (by simp) (.cons rfl (fun K hK=>?_) .nil);go_simp;go_wp2_with fail;refine (refDots8_any s.ao s.an s.ac s.es ⟨#[]⟩ (-1) _ (HF.out.es.below (below_drew1 w2))).mono ?_;rintro x w4 ⟨d,rfl,Sd,-,b4,Cd⟩;rw [dsB_all] at Cd;have HB4:=hide ((below_drew1 w2).trans (b4.mono (below_drew1 w2).size));have HD:=hide Sd;have HCd:=hide Cd;clear Sd Cd b4;refine hK.out _ _ (HSt.out _ (HX.out.below HB4.out)) (fun hHeld=>?_)
 clear hK K;refine wpAnyH_ready (rs:=[7]) (by kernel_rfl) (by simp) (.cons rfl (fun K hK=>?_) .nil);go_simp;go_wp2_with fail;refine (refMinus_any s.p d _ (HF.out.p.below HB4.out) HD.out).mono ?_;rintro x w5 ⟨q,rfl,Sq,-,b5,Cq⟩;have HB5:=wTr HB4 b5;have A5:=HZ.out.below HB5.out;have st:=run_stFa (m':=mkF ⟨s.ao,s.an,s.ac,[],q,s.ro,s.rn,s.rc,[]⟩) A5;have HE1:Hid (FaBox (w5.setRow (G+1) (FaC (mkF ⟨s.ao,s.an,s.ac,[],q,s.ro,s.rn,s.rc,[]⟩))) (G+1) (mkF ⟨s.ao,s.an,s.ac,s.es,q,s.ro,s.rn,s.rc,s.rs⟩)):=A5.setRow;have HXe:Hid (SwBox (w5.setRow (G+1) (FaC (mkF ⟨s.ao,s.an,s.ac,[],q,s.ro,s.rn,s.rc,[]⟩))) G (mkF s)):=(setRow_other _ _ _ _ (by omega)).trans (HX.out.below HB5.out)
 have HE:Hid (ExA w (w5.setRow (G+1) (FaC (mkF ⟨s.ao,s.an,s.ac,[],q,s.ro,s.rn,s.rc,[]⟩))) (.returned (FaV (mkF ⟨s.ao,s.an,s.ac,s.es,q,s.ro,s.rn,s.rc,s.rs⟩))) s):=
  ⟨q,rfl,FcOk.offF (f:=⟨s.ao,s.an,s.ac,s.es,q,s.ro,s.rn,s.rc,s.rs⟩) ⟨HF.out.es.below HB5.out,Sq,HF.out.rs.below HB5.out⟩ A5 _,below_setRow (HBK.out.trans (HB5.out.mono HBK.out.size)) (by rw [HGs.out];omega),d.P,HCd.out,Cq⟩
 clear Sq b5 Cq A5;refine hK.out _ _ (HSt.out _ (HX.out.below HB5.out)) (fun hHeld=>?_);clear hK K;refine wU 10 ?_;refine wpAnyH_ready (rs:=[11]) (by kernel_rfl) (by simp) (.cons rfl (fun K hK=>?_) .nil);go_simp;refine hK.out _ _ (HSt.out _ HXe.out) (fun hHeld=>?_);clear hK K;clear st;refine wpAnyH_done (by kernel_rfl) ?_ _;clear hHeld;go_wp2_with fail;refine bodyPost_ret (res1Fa rfl rfl HE1.out) rfl ?_;exact HE.out
end
section
open Go.RowKit
def UnD (f g u:Fc):Prop:=K.Asc u.es/\(∀ e,e∈u.es↔e∈f.es∨e∈g.es)/\CanonOf (runsOf [f.p,g.p]) u.p.P/\UnOf f.rs g.rs u.rs/\u.rn <= f.rn+g.rn
def UnG (w w':World) (x:Ending) (f g:Fc):Prop:=(K.Clash (f.es++g.es)/\x = .returned (.tuple #[FaV (mkF fz0),.bool false])/\Below w.heap.size w w')∨(¬ K.Clash (f.es++g.es)/\∃ u,x = .returned (.tuple #[FaV (mkF u),.bool true])/\FcOk w' u/\Below w.heap.size w w'/\UnD f g u)
attribute [local go_sem ↓] ldP_eq stP_eq ldFa_eq stFa_eq bldF_eq bsPs_eq
attribute [local go_sem] cells_PV PC_size cells_FaV FaC_size zero_FaZ run_bsPs run_bldFx zero_PC run_bldF0
end
end Go.Proofs.YtjeilkenjdnafaaGreat
