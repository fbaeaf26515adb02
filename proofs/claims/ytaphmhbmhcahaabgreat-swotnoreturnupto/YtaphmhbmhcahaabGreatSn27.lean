/- QRm QRu HWa BCn BAo Lit BKe PLp BFp RMt -/
import Derived.Test.YtaphmhbmhcahaabGreatTk
import Derived.Test.YtaphmhbmhcahaabGreatSn08
import Derived.Test.YtaphmhbmhcahaabGreatSn26
import Derived.Test.YtaphmhbmhcahaabGreatSn20
import Derived.Test.YtaphmhbmhcahaabGreatSn21
import Derived.Test.YtaphmhbmhcahaabGreatSn06
import Derived.Test.YtaphmhbmhcahaabGreatSn18
import Derived.Test.YtaphmhbmhcahaabGreatSn16
import Derived.Shelf.SlIter.Nil
import Derived.Shelf.SortM.Plain
import Derived.Shelf.SortM.SortNone
import Derived.Test.YtaphmhbmhcahaabGreatProg
import Derived.Test.YtaphmhbmhcahaabGreatSn19
import Derived.Test.YtaphmhbmhcahaabGreatSn11
set_option maxRecDepth 100000
set_option maxHeartbeats 8000000
namespace Go.Proofs.YtaphmhbmhcahaabGreat
section
open Go.RowKit
attribute [local go_sem ↓] ldP_eq stP_eq ldJ_eq stJ_eq
attribute [local go_sem] zeros_JA cells_JAv zero_PC cells_PV fold_PC PC_size fold_PC1
theorem comb_minus {A B a b c:List Rn} (ha:NormOf A a) (hb:NormOf B b) (h:CombOf 2 a b c):MinusOf A B c:=⟨h.1,fun n=>by rw [h.2 n,ha.2 n,hb.2 n];simp⟩
theorem refMinus_any (a b:Pv) (w:World) (hA:PSrc w a) (hB:PSrc w b) :
  Calls Tryz.prog 50 #[PV a,PV b] w fun e w'=>GivesP w w' e (fun P=>∃ C:Nat -> List Rn,(∀ r,r < 16 -> MinusOf (runsAt a.P r) (runsAt b.P r) (C r))/\CanonOf C P):=by
 have b1:=below_new w (.cells (PC a) 26);have b2:=below_new (w.alloc (.cells (PC a) 26)) (.cells (PC b) 26);have b3:=below_new ((w.alloc (.cells (PC a) 26)).alloc (.cells (PC b) 26)) (.cells (PC pv0) 26);have p2:=pbox_new (w.alloc (.cells (PC a) 26)) b;have p3:=pbox_new ((w.alloc (.cells (PC a) 26)).alloc (.cells (PC b) 26)) pv0;simp only [World.size_alloc] at p2 p3;have HX1:=hide (((pbox_new w a).below b2).below b3);have HX2:=hide (p2.below b3);have HX3:=hide p3;have HBK:=hide (b1.trans ((b2.trans (b3.mono b2.size)).mono b1.size));have HAS:=hide (hA.below HBK.out);have HBS:=hide (hB.below HBK.out);clear hA hB b1 b2 b3 p2 p3;obtain ⟨wk,hwk⟩:∃ wk,((w.alloc (.cells (PC a) 26)).alloc (.cells (PC b) 26)).alloc (.cells (PC pv0) 26)=wk:=⟨_,rfl⟩
 have HWZ:Hid (wk.heap.size=w.heap.size+1+1+1):=by show _=_;rw [<- hwk];simp
 rw [hwk] at HX1 HX2 HX3 HBK HAS HBS;have HCK:Hid (Below wk.heap.size wk wk):=Below.refl _ _;have HSW:Hid (∀ W':World,Below wk.heap.size wk W' -> (ldP (.pointer (some ⟨w.heap.size,0,none⟩))).run Tryz.prog W' = .ok (PV a) W'/\(ldP (.pointer (some ⟨w.heap.size+1,0,none⟩))).run Tryz.prog W' = .ok (PV b) W'):=fun W' h=>⟨run_ldP (HX1.out.below h).at,run_ldP (HX2.out.below h).at⟩;have HSR:Hid (∀ (W':World) (p:Pv),Below wk.heap.size wk W' -> (ldP (.pointer (some ⟨w.heap.size,0,none⟩))).run Tryz.prog (W'.setRow (w.heap.size+1+1) (PC p)) = .ok (PV a) (W'.setRow (w.heap.size+1+1) (PC p))/\(ldP (.pointer (some ⟨w.heap.size+1,0,none⟩))).run Tryz.prog (W'.setRow (w.heap.size+1+1) (PC p)) = .ok (PV b) (W'.setRow (w.heap.size+1+1) (PC p))):=fun W' p h=>⟨run_ldP (show PBox _ _ _ from (setRow_other _ _ _ _ (by omega)).trans (HX1.out.below h)).at,run_ldP (show PBox _ _ _ from (setRow_other _ _ _ _ (by omega)).trans (HX2.out.below h)).at⟩
 go_enter Tryz.func50,Tryz.ntmps50;go_wp2_with fail;clear hwk;refine wp_region_held_drew (S:=fun W=>(ldP (.pointer (some ⟨w.heap.size,0,none⟩))).run Tryz.prog W = .ok (PV a) W/\(ldP (.pointer (some ⟨w.heap.size+1,0,none⟩))).run Tryz.prog W = .ok (PV b) W) (by kernel_rfl) (HSW.out _ (below_drew1 _)) (fun hHeld=>?_);refine wU 0 ?_;refine wU 2 ?_;refine wpAnyH_ready (rs:=[1]) (by kernel_rfl) (by simp) (.cons rfl (fun K hK=>?_) .nil);go_simp;go_wp2_with fail;refine (one_any a _ (by exact HAS.out.below (HCK.out.trans ((below_drew1 wk).mono HCK.out.size)))).mono ?_;rintro e w2 ⟨Ta,Na,rfl,hT,hb⟩;have HBw2:=hide ((below_drew1 wk).trans (hb.mono (below_drew1 wk).size));have HCw2:=wTr HCK HBw2.out;have HTa:=hide hT;clear hT hb;refine hK.out _ _ (HSW.out _ HCw2.out) (fun hHeld=>?_);clear hK K;refine wpAnyH_ready (rs:=[3]) (by kernel_rfl) (by simp) (.cons rfl (fun K hK=>?_) .nil)
 go_simp;go_wp2_with fail;refine (one_any b _ (by exact HBS.out.below HCw2.out)).mono ?_;rintro e w3 ⟨Tb,Nb,rfl,hT,hb⟩;have HBw3:=hide hb;have HCw3:=wTr HCw2 HBw3.out;have HTb:=hide hT;clear hT hb;refine hK.out _ _ (HSW.out _ HCw3.out) (fun hHeld=>?_);clear hK K;have HFa:Hid (∀ r,r < 16 -> V.Src w3 (Ta r).ao (Ta r).n (Ta r).cap (tn (Na r))/\NormOf (runsAt a.P r) (Na r)):=fun r hr=>⟨(HTa.out r hr).1.below HBw3.out,(HTa.out r hr).2.2⟩;have HFb:Hid (∀ r,r < 16 -> V.Src w3 (Tb r).ao (Tb r).n (Tb r).cap (tn (Nb r))/\NormOf (runsAt b.P r) (Nb r)):=fun r hr=>⟨(HTb.out r hr).1,(HTb.out r hr).2.2⟩;refine wpAnyH_ready (rs:=[4]) (by kernel_rfl) (by simp) (.cons rfl (fun K hK=>?_) .nil);go_simp;go_wp2_with fail;refine (combined_any Ta Tb Na Nb 2 _ (fun r hr=>⟨(HFa.out r hr).1,(HFa.out r hr).2.1⟩) (fun r hr=>⟨(HFb.out r hr).1,(HFb.out r hr).2.1⟩) (Or.inr rfl)).mono ?_
 rintro e w5 ⟨T,N,rfl,hT,hb⟩;have HBw5:=hide hb;have HCw5:=wTr HCw3 HBw5.out;have HT:=hide hT;clear hT hb;refine hK.out _ _ (HSW.out _ HCw5.out) (fun hHeld=>?_);clear hK K;refine wpAnyH_ready (rs:=[5]) (by kernel_rfl) (by simp) (.cons rfl (fun K hK=>?_) .nil);go_simp;go_wp2_with fail;refine (refForm_any T N _ (fun r hr=>⟨(HT.out r hr).1,(HT.out r hr).2.2.1⟩)).mono ?_;rintro e w6 ⟨p,rfl,S6,n6,b6,c6⟩;have HBw6:=hide b6;have HCw6:=wTr HCw5 HBw6.out;have hsz:=HCw5.out.size;have hwz:=HWZ.out;obtain ⟨e1,e2,e3,e4,e5⟩:=past_end (w:=w) (HX3.out.below HCw6.out) S6 (n6.mono (by show _ <= w5.heap.size;omega)) (HBK.out.trans (HCw6.out.mono HBK.out.size)) (by omega);have HRes:=hide e2;have HFin:Hid (GivesP w _ (.returned (PV p)) (fun P=>∃ C:Nat -> List Rn,(∀ r,r < 16 -> MinusOf (runsAt a.P r) (runsAt b.P r) (C r))/\CanonOf C P)):=⟨p,rfl,e3,e4,e5,N,fun r hr=>comb_minus (HFa.out r hr).2 (HFb.out r hr).2 (HT.out r hr).2.2,N,fun r hr=>⟨(HT.out r hr).2.2.1,fun _=>Iff.rfl⟩,c6⟩
 have HSL:=hide (HSW.out _ HCw6.out);clear S6 n6 b6 c6 e2 e3 e4 e5;refine hK.out _ _ HSL.out (fun hHeld=>?_);clear hK K;refine wpAnyH_ready (rs:=[6]) (by kernel_rfl) (by simp) (.cons rfl (fun K hK=>?_) .nil);go_simp;refine hK.out _ _ (HSR.out _ _ HCw6.out) (fun hHeld=>?_);clear hK K;refine wpAnyH_done (by kernel_rfl) ?_ _;clear hHeld hsz hwz;go_wp2_with fail;exact bodyPost_ret (v:=PV p) (resP Tryz.results50 rfl HRes.out) rfl HFin.out
end
section
open Go.RowKit
attribute [local go_sem ↓] ldP_eq stP_eq ldJ_eq stJ_eq
attribute [local go_sem] zeros_JA cells_JAv zero_PC cells_PV fold_PC PC_size fold_PC1
theorem refWithin_any (a b:Pv) (w:World) (hA:PSrc w a) (hB:PSrc w b):Calls Tryz.prog 20 #[PV a,PV b] w fun e w'=>∃ x,e = .returned (.bool x)/\(x=true↔∀ r,r < 16 -> ∀ n,mem (runsAt a.P r) n -> mem (runsAt b.P r) n)/\Below w.heap.size w w':=by
 have b1:=below_new w (.cells (PC a) 26);have b2:=below_new (w.alloc (.cells (PC a) 26)) (.cells (PC b) 26);have p2:=pbox_new (w.alloc (.cells (PC a) 26)) b;simp only [World.size_alloc] at p2
 have l1:=run_ldP ((pbox_new w a).below b2).at
 have l2:=run_ldP p2.at
 have HBK:=hide (b1.trans (b2.mono b1.size));have HA:=hide (hA.below HBK.out);have HB:=hide (hB.below HBK.out);clear hA hB b1 b2 p2;go_enter Tryz.func20,Tryz.ntmps20;go_wp2_with fail;refine (refMinus_any a b _ HA.out HB.out).mono ?_;rintro e w3 ⟨p,rfl,S3,n3,b3,C,hC,c3⟩;have HS3:=hide S3;have HB3:=wTr HBK b3;have HC:=hide (And.intro hC c3);clear S3 n3 b3 hC c3 l1 l2;go_wp2_with fail;refine (refEmpty_any p _ HS3.out).mono ?_;rintro e w4 ⟨x,rfl,hx,b4⟩
 have HFin:Hid (∃ y,(Ending.returned (.bool x):Ending) = .returned (.bool y)/\(y=true↔∀ r,r < 16 -> ∀ n,mem (runsAt a.P r) n -> mem (runsAt b.P r) n)/\Below w.heap.size w w4):=by
  refine ⟨x,rfl,?_,HB3.out.trans (b4.mono HB3.out.size)⟩;rw [hx];have key:∀ r,r < 16 -> ∀ n,(mem (runsAt p.P r) n↔mem (runsAt a.P r) n/\¬ mem (runsAt b.P r) n):=fun r hr n=>(canon_mem HC.out.2 r hr n).trans ((HC.out.1 r hr).2 n);constructor
  ·intro h r hr n hm;by_cases hb:mem (runsAt b.P r) n
   ·exact hb
   ·exact absurd ((key r hr n).2 ⟨hm,hb⟩) (h r hr n)
  ·intro h r hr n hm;obtain ⟨h1,h2⟩:=(key r hr n).1 hm;exact h2 (h r hr n h1)
 clear hx b4;go_wp2_with fail;go_ret;exact HFin.out
end
section
open Go.RowKit Go.Maps
open Classical in
noncomputable def waitB (P:Pst) (y:Rp):Bool:=decide (¬ wiP y.2 P)
def WtOf (L:List Rc) (P:Pst) (F:List Rc):Prop:=(∀ r∈F,RecOk r)/\plR F=(plR L).filter (waitB P)
theorem waitB_no {P:Pst} {y:Rp} (h:wiP y.2 P):waitB P y=false:=by unfold waitB;simp [h]
theorem waitB_yes {P:Pst} {y:Rp} (h:¬ wiP y.2 P):waitB P y=true:=by unfold waitB;simp [h]
structure WtI (L:List Rc) (P:Pst) (k:Nat) (D:List Rc):Prop where
 ok:∀ r∈D,RecOk r
 eq:plR D=(plR (L.take k)).filter (waitB P)
theorem WtI.start (L:List Rc) (P:Pst):WtI L P 0 []:=⟨fun r h=>(by cases h),rfl⟩
theorem WtI.skip {L:List Rc} {P:Pst} {k:Nat} {D:List Rc} {r:Rc} (h:WtI L P k D) (hk:k < L.length) (hr:L.getD k rc0=r) (hw:wiP r.p.P P):WtI L P (k+1) D:=by
 refine ⟨h.ok,?_⟩;rw [plR_take L k hk,hr,List.filter_append,<- h.eq,List.filter_cons_of_neg (by rw [waitB_no (show wiP (r.s,r.p.P).2 P from hw)];decide),List.filter_nil,List.append_nil]
theorem WtI.add {L:List Rc} {P:Pst} {k:Nat} {D:List Rc} {r c:Rc} (h:WtI L P k D) (hk:k < L.length) (hr:L.getD k rc0=r) (hw:¬ wiP r.p.P P) (hc:RecOk c) (e:rck c=rck r):WtI L P (k+1) (D++[c]):=by
 refine ⟨mem_snoc h.ok hc,?_⟩;rw [plR_take L k hk,hr,List.filter_append,<- h.eq,List.filter_cons_of_pos (waitB_yes (show ¬ wiP (r.s,r.p.P).2 P from hw)),List.filter_nil,plR_sn,e];rfl
theorem WtI.done {L:List Rc} {P:Pst} {D:List Rc} (h:WtI L P L.length D):WtOf L P D:=⟨h.ok,by rw [h.eq,List.take_length]⟩
def WtA (w w':World) (x:Ending) (L:List Rc) (n:Nat) (P:Pst):Prop:=(OkR L n/\InForm P/\∃ (h:Hs) (F:List Rc),x = .returned (.tuple #[HsV h,.int .i64 0])/\GvR w w' h F/\h.n <= n/\WtOf L P F)∨(¬ (OkR L n/\InForm P)/\x = .returned (.tuple #[.slice none 0 0,.int .i64 1])/\Below w.heap.size w w')
attribute [local go_sem ↓] ldP_eq stP_eq ldRe_eq stRe_eq
attribute [local go_sem] cells_PV PC_size cells_ReV ReC_size zero_ReC
theorem keepWaits_any (ao:Option Addr) (n ca:Nat) (L:List Rc) (p:Pv) (w:World) (hS:RcT w ao n ca L) (hP:PSrc w p) (hn:n <= 2199023255551) :
  Calls Tryz.prog 16 #[.slice ao n ca,PV p] w fun x w'=>WtA w w' x L n p.P:=by
 have b1:=below_new w (.cells (PC p) 26);have x1:=pbox_new w p;obtain ⟨wk,hwk⟩:∃ w1,w.alloc (.cells (PC p) 26)=w1:=⟨_,rfl⟩;obtain ⟨G,hG⟩:∃ g1,w.heap.size=g1:=⟨_,rfl⟩;rw [hwk] at b1 x1;rw [hG] at x1;have HBK:=hide b1;have HX:=hide x1;have HS:=hide (hS.below b1);have HP:=hide (hP.below b1);have HLn:Hid (L.length=n):=hS.src.len;have HN:=hide hn;clear b1 x1 hS hP;go_enter Tryz.func16,Tryz.ntmps16;go_wp2_with fail;clear hwk hG;refine (keepCheck_any ao n ca L _ HS.out.src).mono ?_;rintro x w1 ⟨z,rfl,hz,b1⟩;have HB1:=hide b1
 have lp:=run_ldP (HX.out.below b1).at
 clear b1;rcases hz with ⟨rfl,hO⟩ | ⟨rfl,hO⟩;rotate_left
 ·have HE:Hid (WtA w w1 (.returned (.tuple #[.slice none 0 0,.int .i64 1])) L n p.P):=.inr ⟨fun h=>hO h.1,rfl,HBK.out.trans (HB1.out.mono HBK.out.size)⟩;clear hO lp;go_wp2_with fail;go_ret2;exact HE.out
 have HO:=hide hO;clear hO;go_wp2_with fail;clear lp;refine (isNormP_any p _ (HP.out.below HB1.out)).mono ?_;rintro x w0 ⟨b,rfl,hb,b2⟩;have HB0:=wTr HB1 b2;clear b2
 cases b with
 | false =>
  have HE:Hid (WtA w w0 (.returned (.tuple #[.slice none 0 0,.int .i64 1])) L n p.P):=.inr ⟨fun h=>(by have:=hb.2 h.2;cases this),rfl,HBK.out.trans (HB0.out.mono HBK.out.size)⟩;clear hb;go_wp2_with fail;go_ret2;exact HE.out
 | true =>
  have HF:=hide (hb.1 rfl);have HOL:=hide (okR_iff.1 (by rw [HLn.out];exact HO.out):(∀ r∈L,RecOk r)/\Srt ck (plR L));clear hb;go_wp2_with fail;go_loopw [6,8,19] (fun v _ i wr=>∃ (k:Nat) (h:Hs) (D:List Rc),k <= n/\v = .slice h.o h.n h.c/\i = .int .i64 (k:Int)/\Hid (OwnRc w0.heap.size w0 wr h D/\WtI L p.P k D/\(∀ r∈D,PNew w0.heap.size r.p)/\h.n <= k)) (fun _ _ i _=>n - (intOf i).toNat)
  case atStart=>exact ⟨0,hs0,[],Nat.zero_le _,rfl,rfl,OwnRc.nil w0,WtI.start L _,fun r hr=>(by cases hr),Nat.le_refl _⟩
  case round =>
   obtain ⟨k,h,D,hk,rfl,rfl,HI⟩:=hrel
   rename World=>wr
   have HBr:Hid (Below wk.heap.size wk wr):=HB0.out.trans (HI.out.1.below.mono HB0.out.size);have hnb:=HN.out;by_cases hlt:k < n
   ·have hlti:(k:Int) < (n:Int):=by omega
    obtain ⟨ad,hao,A0⟩:=(HS.out.below HBr.out).src.at k hlt;have hOk:=(HS.out.below HBr.out).src.okAt k hlt;obtain ⟨r,Hr⟩:∃ r,Hid (L.getD k rc0=r):=⟨_,rfl⟩;rw [Hr.out] at A0 hOk
    have HRo:Hid (RecOk r):=by
     have h:=HOL.out.1 _ (rcD_mem (L:=L) (j:=k) (by rw [HLn.out];exact hlt));rw [Hr.out] at h;exact h
    subst hao;have hld:=run_laRe A0;obtain ⟨g7,hg7⟩:∃ g7,wr.heap.size=g7:=⟨_,rfl⟩;obtain ⟨w7,hst,X7,B7,S7⟩:=madeRe wr (mkR r) g7 hg7;have HO7:=hide (HI.out.1.later B7);have HB7:=wTr HBr B7;have HX7:=hide X7;have HQ7:=hide (hOk.below B7);have lr:=run_ldP X7.past
    have lp:=run_ldP (HX.out.below HB7.out).at
    have Hlt:=hide hlt;clear A0 X7 B7 S7 hOk hlt hk;go_wp2_with fail;clear hst hld hg7 lr lp;refine (within7_any r.p p _ HQ7.out.1 (HP.out.below HB7.out) HRo.out.2.1 HF.out).mono ?_;rintro e w8 ⟨b,rfl,hb,b8⟩;have HO8:=hide (HO7.out.later b8);have Hb:=hide hb;have HQ8:=hide (HQ7.out.below b8);have l7:=run_ldRe (HX7.out.below b8);clear hb b8
    cases b with
    | true =>
     have HN2:Hid (OwnRc w0.heap.size w0 w8 h D/\WtI L p.P (k+1) D/\(∀ r∈D,PNew w0.heap.size r.p)/\h.n <= k+1):=⟨HO8.out,HI.out.2.1.skip (by rw [HLn.out];exact Hlt.out) Hr.out (Hb.out.1 rfl),HI.out.2.2.1,by have:=HI.out.2.2.2;omega⟩;go_wp2_with fail;clear l7;go_roundw
     case rel=>exact ⟨k+1,h,D,Hlt.out,rfl,by simp,HN2.out⟩
     case measure=>simp [intOf];have:=Hlt.out;omega
    | false =>
     have Hno:Hid (¬ wiP r.p.P p.P):=fun h=>by have:=Hb.out.2 h;cases this
     go_wp2_with fail;clear l7;refine (copied_any r _ HQ8.out).mono ?_;rintro e wa ⟨c,rfl,hcs,Rc1,Nc,ba,Cc⟩;have Oa:=HO8.out.later ba;have hfar:FarH h c.p:=fun j hj=>PFar.new Nc (HO8.out.own.lt j hj).2;obtain ⟨gb,cb2,wb,hab,Ob,hkb,hgb,hsb⟩:=Oa.appAt c Rc1 hfar (by have:=HI.out.2.2.2;have:=HN.out;have:=Hlt.out;omega);have HAb:Hid ((Builtin.append_ #[27,27] 27 #[.slice h.o h.n h.c,.slice (some ⟨wa.heap.size,0,none⟩) 1 1]).run Tryz.prog (wa.alloc (.cells #[.string c.s,.slice c.p.vo c.p.vn c.p.vc,.slice c.p.co c.p.cn c.p.cc] 56)) = .ok (.slice (some ⟨gb,0,none⟩) (h.n+1) cb2) wb):=hab;have e:=copy_rck HRo.out hcs Cc;have HN2:Hid (OwnRc w0.heap.size w0 wb ⟨some ⟨gb,0,none⟩,h.n+1,cb2⟩ (D++[c])/\WtI L p.P (k+1) (D++[c])/\(∀ r∈D++[c],PNew w0.heap.size r.p)/\h.n+1 <= k+1):=⟨Ob,HI.out.2.1.add (by rw [HLn.out];exact Hlt.out) Hr.out Hno.out (recOk_rck HRo.out e) e,mem_snoc HI.out.2.2.1 (Nc.mono HO8.out.below.size),by have:=HI.out.2.2.2;omega⟩
     clear hab Ob Oa hfar hcs Rc1 Nc ba Cc hkb hgb hsb e;go_wp2_with (at_builtin;refine seq_appM rfl (.tmp 28) (.tmp 31) rfl rfl rfl HAb.out ?_);go_roundw
     case rel=>exact ⟨k+1,⟨some ⟨gb,0,none⟩,h.n+1,cb2⟩,D++[c],Hlt.out,rfl,by simp,HN2.out⟩
     case measure=>simp [intOf];have:=Hlt.out;omega
   ·have hlti:¬ (k:Int) < (n:Int):=by omega
    have HE:Hid (WtA w wr (.returned (.tuple #[.slice h.o h.n h.c,.int .i64 0])) L n p.P):=by
     obtain ⟨q1,q2,q3,q4⟩:=HI.out;rw [show k=L.length by rw [HLn.out];omega] at q2;exact .inl ⟨HO.out,HF.out,h,D,rfl,q1.give (HBK.out.trans (HB0.out.mono HBK.out.size)) q3 (by omega),by omega,q2.done⟩
    clear HI;go_wp2_with fail;go_ret2;exact HE.out
def WrA (w w':World) (x:Ending) (L:List Rc) (n:Nat) (P:Pst):Prop:=(OkR L n/\InForm P/\∃ (h:Hs) (F:List Rc),x = .returned (.tuple #[HsV h,.int .i64 0])/\RcT w' h.o h.n h.c F/\(∀ ad,h.o=some ad -> w.heap.size <= ad.block)/\h.n <= n/\Below w.heap.size w w'/\WtOf L P F)∨(¬ (OkR L n/\InForm P)/\x = .returned (.tuple #[.slice none 0 0,.int .i64 1])/\Below w.heap.size w w')
end
section
open Go.RowKit
theorem countP_more {D:List Rn} {p q:Rn -> Bool} {a:Rn} (ha:a∈D) (hp:p a=true) (hq:q a=false) (hqp:∀ x,q x=true -> p x=true):D.countP q+1 <= D.countP p:=by
 induction D with
 | nil=>cases ha
 | cons x D ih =>
  have hm:D.countP q <= D.countP p:=List.countP_mono_left (fun y _ h=>hqp y h);rcases List.mem_cons.1 ha with rfl | h
  ·rw [List.countP_cons_of_pos hp,List.countP_cons_of_neg (by rw [hq];decide)];omega
  ·have h1:=ih h
   cases hx:q x
   ·rw [List.countP_cons_of_neg (by rw [hx];decide)]
    have h2:D.countP p <= (x :: D).countP p:=by rw [List.countP_cons];omega
    omega
   ·rw [List.countP_cons_of_pos hx,List.countP_cons_of_pos (hqp x hx)];omega
theorem runs_count (D:List Rn) (r:Int):∀ (X:List Rn) (l:Int),1 <= l -> form l X -> (∀ n,mem X n -> (⟨r,n⟩:Rn)∈D) -> X.length <= D.countP (fun d=>decide (d.lo=r) && decide (l <= d.hi))
 | [],_,_,_,_=>Nat.zero_le _
 | x :: X,l,hl,hf,hD=>by
  have h1:=hf.1;have h2:=hf.2.1;have h3:=runs_count D r X (x.hi+2) (by omega) hf.2.2.2 (fun n hn=>hD n ((mem_cons _ _ _).2 (.inr hn)));have h4:(⟨r,x.lo⟩:Rn)∈D:=hD x.lo ((mem_cons _ _ _).2 (.inl ⟨by omega,by have:=hf.2.2.1;omega,Int.le_refl _,h2⟩));have h5:=countP_more (p:=fun d=>decide (d.lo=r) && decide (l <= d.hi)) (q:=fun d=>decide (d.lo=r) && decide (x.hi+2 <= d.hi)) h4 (by simp;omega) (by simp;omega) (fun y hy=>by simp at hy ⊢;omega);simp only [List.length_cons];omega
theorem cloud_count {N:Nat -> List Rn} (D:List Rn):∀ k:Nat,(∀ r,r < k -> form 1 (N r)/\∀ n,mem (N r) n -> (⟨(r:Int),n⟩:Rn)∈D) -> (cloudN N k).length <= D.countP (fun d=>decide (0 <= d.lo) && decide (d.lo < (k:Int)))
 | 0,_=>Nat.zero_le _
 | k+1,h=>by
  have h1:=cloud_count D k (fun r hr=>h r (by omega));have h2:=restOf_len (N k);have h3:=runs_count D k (N k) 1 (Int.le_refl _) (h k (by omega)).1 (h k (by omega)).2
  have h4:D.countP (fun d=>decide (0 <= d.lo) && decide (d.lo < (k:Int)))+D.countP (fun d=>decide (d.lo=(k:Int)) && decide (1 <= d.hi)) <= D.countP (fun d=>decide (0 <= d.lo) && decide (d.lo < ((k+1:Nat):Int))):=by
   clear h h1 h2 h3
   induction D with
   | nil=>simp
   | cons x D ih =>
    rw [List.countP_cons,List.countP_cons,List.countP_cons]
    have h5:(if (decide (0 <= x.lo) && decide (x.lo < (k:Int)))=true then 1 else 0)+(if (decide (x.lo=(k:Int)) && decide (1 <= x.hi))=true then 1 else 0) <= (if (decide (0 <= x.lo) && decide (x.lo < ((k+1:Nat):Int)))=true then 1 else 0):=by
     simp only [Bool.and_eq_true,decide_eq_true_eq]
     split <;> split <;> split <;> omega
    omega
  rw [cloudN,List.length_append,tag_length];omega
theorem canon_count {G:Nat -> List Rn} {P:Pst} (h:CanonOf G P) (D:List Rn) (hD:∀ r:Nat,r < 16 -> ∀ n,mem (G r) n -> (⟨(r:Int),n⟩:Rn)∈D):P.cloud.length <= D.length:=by
 obtain ⟨N,hN,rfl⟩:=h;exact Nat.le_trans (cloud_count D 16 (fun r hr=>⟨(hN r hr).1,fun n hn=>hD r hr n (((hN r hr).2 n).1 hn)⟩)) List.countP_le_length
end
section
open Go.RowKit
def freeB (R:List Rc) (e:K.En):Bool := !R.any (fun r=>covB r e)
def ApA (w w':World) (x:Ending) (L:List K.En) (R:List Rc) (n:Nat):Prop:=(K.chk L=0/\OkR R n/\K.GivesEE w w' x (L.filter (freeB R)) 0)∨(¬ (K.chk L=0/\OkR R n)/\K.GivesEE w w' x [] 1)
end
end Go.Proofs.YtaphmhbmhcahaabGreat
namespace Go.Proofs
open Go.Shelf
def Tryz.keysM_ren:Go.Shelf.Ren:=⟨fun | 7=>77 | 10=>118 | n=>n,fun | 23=>116 | 26=>9 | 3=>66 | 28=>120 | 0=>0 | 27=>119 | 33=>128 | 4=>4 | n=>n,fun | n=>n⟩
theorem Tryz.keysM:Go.Proofs.SlLaysZ.n7 Tryz.prog Tryz.keysM_ren:={
 mixed:=by kernel_rfl
 f7:=⟨Tryz.f77.name,by decide,Tryz.func77.trans (congrArg some (by kernel_rfl))⟩
 f10:=⟨Tryz.f118.name,by decide,Tryz.func118.trans (congrArg some (by kernel_rfl))⟩
 t0:=Tryz.underlying0
 a0:=Tryz.isAgg0
 z0:=Tryz.sizeOf0
 v0:=Tryz.zeroValue0
 t4:=Tryz.underlying4
 a4:=Tryz.isAgg4
 z4:=Tryz.sizeOf4
 v4:=Tryz.zeroValue4
 t23:=Tryz.underlying116
 a23:=Tryz.isAgg116
 z23:=Tryz.sizeOf116
 v23:=Tryz.zeroValue116
 t26:=Tryz.underlying9
 a26:=Tryz.isAgg9
 z26:=Tryz.sizeOf9
 v26:=Tryz.zeroValue9
 t27:=Tryz.underlying119
 a27:=Tryz.isAgg119
 z27:=Tryz.sizeOf119
 v27:=Tryz.zeroValue119
 t28:=Tryz.underlying120
 a28:=Tryz.isAgg120
 z28:=Tryz.sizeOf120
 v28:=Tryz.zeroValue120
 t33:=Tryz.underlying128
 a33:=Tryz.isAgg128
 z33:=Tryz.sizeOf128
 v33:=Tryz.zeroValue128 }
def Tryz.sortedM_ren:Go.Shelf.Ren:=⟨fun | 6=>76 | 8=>116 | 9=>117 | 11=>139 | 13=>121 | 12=>140 | 23=>150 | 24=>151 | 14=>165 | 15=>166 | 16=>167 | 17=>168 | 18=>169 | 19=>170 | 20=>171 | 21=>172 | 22=>173 | 25=>198 | 26=>176 | 27=>177 | 28=>199 | 29=>200 | 30=>201 | 31=>207 | n=>n,fun | 26=>9 | 28=>120 | 24=>117 | 0=>0 | 3=>3 | 37=>154 | 48=>181 | 50=>183 | 4=>4 | 40=>175 | 39=>174 | 45=>155 | 5=>5 | 9=>9 | 51=>199 | 55=>203 | 57=>215 | 58=>157 | 33=>128 | n=>n,fun | n=>n⟩
theorem Tryz.sortedM:Go.Proofs.SlLaysZ.n6 Tryz.prog Tryz.sortedM_ren:={
 mixed:=by kernel_rfl
 f6:=⟨Tryz.f76.name,by decide,Tryz.func76.trans (congrArg some (by kernel_rfl))⟩
 f8:=⟨Tryz.f116.name,by decide,Tryz.func116.trans (congrArg some (by kernel_rfl))⟩
 f11:=⟨Tryz.f139.name,by decide,Tryz.func139.trans (congrArg some (by kernel_rfl))⟩
 t0:=Tryz.underlying0
 a0:=Tryz.isAgg0
 z0:=Tryz.sizeOf0
 v0:=Tryz.zeroValue0
 t24:=Tryz.underlying117
 a24:=Tryz.isAgg117
 z24:=Tryz.sizeOf117
 v24:=Tryz.zeroValue117
 t26:=Tryz.underlying9
 a26:=Tryz.isAgg9
 z26:=Tryz.sizeOf9
 v26:=Tryz.zeroValue9
 t28:=Tryz.underlying120
 a28:=Tryz.isAgg120
 z28:=Tryz.sizeOf120
 v28:=Tryz.zeroValue120
 i26:=by kernel_rfl }
def Tryz.sortM_ren:Go.Shelf.Ren:=⟨fun | 6=>117 | 8=>121 | 9=>140 | 19=>150 | 20=>151 | 21=>165 | 22=>166 | 23=>167 | 24=>168 | 25=>169 | 26=>170 | 27=>171 | 28=>172 | 29=>173 | 36=>198 | 31=>176 | 32=>177 | 37=>199 | 38=>200 | 39=>201 | 41=>207 | n=>n,fun | 27=>117 | 29=>9 | 3=>3 | 32=>154 | 26=>117 | 0=>0 | 44=>181 | 46=>183 | 4=>4 | 36=>175 | 35=>174 | 41=>155 | 5=>5 | 9=>9 | 53=>199 | 57=>203 | 63=>215 | 64=>157 | n=>n,fun | n=>n⟩
theorem Tryz.sortM:Go.Proofs.SlLaysM.n6 Tryz.prog Tryz.sortM_ren:={
 mixed:=by kernel_rfl
 f6:=⟨Tryz.f117.name,by decide,Tryz.func117.trans (congrArg some (by kernel_rfl))⟩
 f8:=Tryz.func121.trans (congrArg some (by kernel_rfl))
 f9:=⟨Tryz.f140.name,by decide,Tryz.func140.trans (congrArg some (by kernel_rfl))⟩
 f19:=Tryz.func150.trans (congrArg some (by kernel_rfl))
 f20:=Tryz.func151.trans (congrArg some (by kernel_rfl))
 f21:=⟨Tryz.f165.name,by decide,Tryz.func165.trans (congrArg some (by kernel_rfl))⟩
 f22:=⟨Tryz.f166.name,by decide,Tryz.func166.trans (congrArg some (by kernel_rfl))⟩
 f23:=⟨Tryz.f167.name,by decide,Tryz.func167.trans (congrArg some (by kernel_rfl))⟩
 f24:=⟨Tryz.f168.name,by decide,Tryz.func168.trans (congrArg some (by kernel_rfl))⟩
 f25:=⟨Tryz.f169.name,by decide,Tryz.func169.trans (congrArg some (by kernel_rfl))⟩
 f26:=⟨Tryz.f170.name,by decide,Tryz.func170.trans (congrArg some (by kernel_rfl))⟩
 f27:=⟨Tryz.f171.name,by decide,Tryz.func171.trans (congrArg some (by kernel_rfl))⟩
 f28:=⟨Tryz.f172.name,by decide,Tryz.func172.trans (congrArg some (by kernel_rfl))⟩
 f29:=⟨Tryz.f173.name,by decide,Tryz.func173.trans (congrArg some (by kernel_rfl))⟩
 f31:=Tryz.func176.trans (congrArg some (by kernel_rfl))
 f32:=Tryz.func177.trans (congrArg some (by kernel_rfl))
 f36:=⟨Tryz.f198.name,by decide,Tryz.func198.trans (congrArg some (by kernel_rfl))⟩
 f37:=⟨Tryz.f199.name,by decide,Tryz.func199.trans (congrArg some (by kernel_rfl))⟩
 f38:=⟨Tryz.f200.name,by decide,Tryz.func200.trans (congrArg some (by kernel_rfl))⟩
 f39:=⟨Tryz.f201.name,by decide,Tryz.func201.trans (congrArg some (by kernel_rfl))⟩
 f41:=⟨Tryz.f207.name,by decide,Tryz.func207.trans (congrArg some (by kernel_rfl))⟩
 t0:=Tryz.underlying0
 a0:=Tryz.isAgg0
 z0:=Tryz.sizeOf0
 v0:=Tryz.zeroValue0
 t3:=Tryz.underlying3
 a3:=Tryz.isAgg3
 z3:=Tryz.sizeOf3
 v3:=Tryz.zeroValue3
 t4:=Tryz.underlying4
 a4:=Tryz.isAgg4
 z4:=Tryz.sizeOf4
 v4:=Tryz.zeroValue4
 t5:=Tryz.underlying5
 a5:=Tryz.isAgg5
 z5:=Tryz.sizeOf5
 v5:=Tryz.zeroValue5
 t9:=Tryz.underlying9
 a9:=Tryz.isAgg9
 z9:=Tryz.sizeOf9
 v9:=Tryz.zeroValue9
 t26:=Tryz.underlying117
 a26:=Tryz.isAgg117
 z26:=Tryz.sizeOf117
 v26:=Tryz.zeroValue117
 t27:=Tryz.underlying117
 a27:=Tryz.isAgg117
 z27:=Tryz.sizeOf117
 v27:=Tryz.zeroValue117
 t29:=Tryz.underlying9
 a29:=Tryz.isAgg9
 z29:=Tryz.sizeOf9
 v29:=Tryz.zeroValue9
 t32:=Tryz.underlying154
 a32:=Tryz.isAgg154
 z32:=Tryz.sizeOf154
 v32:=Tryz.zeroValue154
 t35:=Tryz.underlying174
 a35:=Tryz.isAgg174
 z35:=Tryz.sizeOf174
 v35:=Tryz.zeroValue174
 t36:=Tryz.underlying175
 a36:=Tryz.isAgg175
 z36:=Tryz.sizeOf175
 v36:=Tryz.zeroValue175
 t41:=Tryz.underlying155
 a41:=Tryz.isAgg155
 z41:=Tryz.sizeOf155
 v41:=Tryz.zeroValue155
 t44:=Tryz.underlying181
 a44:=Tryz.isAgg181
 z44:=Tryz.sizeOf181
 v44:=Tryz.zeroValue181
 t46:=Tryz.underlying183
 a46:=Tryz.isAgg183
 z46:=Tryz.sizeOf183
 v46:=Tryz.zeroValue183
 t53:=Tryz.underlying199
 a53:=Tryz.isAgg199
 z53:=Tryz.sizeOf199
 v53:=Tryz.zeroValue199
 t57:=Tryz.underlying203
 a57:=Tryz.isAgg203
 z57:=Tryz.sizeOf203
 v57:=Tryz.zeroValue203
 t63:=Tryz.underlying215
 a63:=Tryz.isAgg215
 z63:=Tryz.sizeOf215
 v63:=Tryz.zeroValue215
 t64:=Tryz.underlying157
 a64:=Tryz.isAgg157
 z64:=Tryz.sizeOf157
 v64:=Tryz.zeroValue157 }
end Go.Proofs
namespace Go.Proofs.YtaphmhbmhcahaabGreat
section
open Go.RowKit Go.Maps Go.Sort Go.Shelf

theorem sorts_in (m:Nat):AnyZ.SortsIn Tryz.prog Tryz.sortedM_ren Fence.wide m:=
 ⟨fun blk off cap ss W hH hblk hsz=>callsIn_wide.2 (AnyM.slices_Sort_string Tryz.sortM blk off cap ss W hH hblk hsz),
 fun p cap W=>callsIn_wide.2 (AnyM.slices_Sort_string_none Tryz.sortM p cap W)⟩
theorem keys_any (mb:Option Nat) (W:World):Calls Tryz.prog 77 #[.map mb] W fun e w'=>e = .returned (.func (.func 118) #[] #[.pointer (some ⟨W.heap.size,0,none⟩)])/\w'=W.alloc (.cells #[.map mb] 116):=
 (callsIn_wide (n:=5)).1 (AnyZ.keys_in Tryz.keysM Fence.wide 5 trivial rfl mb W)
def GivesSs (w w':World) (e:Ending) (T:List (List UInt8)):Prop:=∃ v,e = .returned v/\w'.ownsRow w.heap.size 9 1 v T.length (T.map encStr)/\Below w.heap.size w w'
theorem sortedKeys_any {H:Type} (b nn:Nat) (D0:DataW H) (R:Value -> Option (DataW H × List MemPlace)) (w:World) (hown:w.ownsMap Tryz.prog 9 R b nn D0) (hmax:Maps.size D0 <= maxLen) (hbytes:Maps.size D0 * 16 <= 140737488355328) :
  Calls Tryz.prog 76 #[.func (.func 118) #[] #[.pointer (some ⟨w.heap.size,0,none⟩)]] (w.alloc (.cells #[.map (some b)] 116)) fun e w'=>∃ ss:List (List UInt8),ss.Perm (strKeys D0)/\GivesSs (w.alloc (.cells #[.map (some b)] 116)) w' e (ss.mergeSort leB):=by
 have hbl:=hown.lt
 have hseq:SeqGives Fence.wide 2 Tryz.prog 118 #[.pointer (some ⟨w.heap.size,0,none⟩)] encStr (fun ss=>ss.Perm (strKeys D0)) (Maps.size D0) (w.alloc (.cells #[.map (some b)] 116)):=
  AnyZ.keys_gives (ρ := Tryz.keysM_ren) { Tryz.keysM with } Fence.wide _ trivial rfl (by omega) w.heap.size b nn D0 _ (by simp) (by simp) (by
   obtain ⟨es,clock,hb,Ft,hs,hD⟩:=hown
   exact ⟨es,clock,(Below.heap_alloc _ _ b hbl).trans hb,Ft,hs,hD⟩)
 have h:=AnyZ.sorted_in Tryz.sortedM Fence.wide 5 trivial trivial trivial trivial rfl (by omega) (sorts_in _) (enters_of Tryz.func117 (by kernel_rfl) rfl) 118 #[.pointer (some ⟨w.heap.size,0,none⟩)] trivial (enters_of Tryz.func118 (by kernel_rfl) rfl) _ _ hmax hbytes _ hseq;refine ((callsIn_wide (n:=5)).1 h).mono ?_;rintro e w' ⟨v,ss,rfl,hS,hrow,_,hb⟩;refine ⟨ss,hS,v,rfl,?_,hb⟩;have e1:(ss.mergeSort leB).length=ss.length:=(List.mergeSort_perm ss leB).length_eq;rw [e1];exact hrow
end
section
open Go.RowKit

def mP (P:Pst):Nat -> Int -> Prop:=fun r n=>mem (runsAt P r) n
def mOr (M M':Nat -> Int -> Prop):Nat -> Int -> Prop:=fun r n=>M r n∨M' r n
def mAnd (M M':Nat -> Int -> Prop):Nat -> Int -> Prop:=fun r n=>M r n/\M' r n
def mNot (M M':Nat -> Int -> Prop):Nat -> Int -> Prop:=fun r n=>M r n/\¬ M' r n
def IsP (M:Nat -> Int -> Prop) (P:Pst):Prop:=∃ C,CanonOf C P/\∀ r,r < 16 -> ∀ n,mem (C r) n↔M r n
def Eqv (M M':Nat -> Int -> Prop):Prop:=∀ r,r < 16 -> ∀ n,M r n↔M' r n
theorem IsP.mem {M:Nat -> Int -> Prop} {P:Pst} (h:IsP M P):Eqv (mP P) M:=by
 obtain ⟨C,hC,hm⟩:=h;exact fun r hr n=>(canon_mem hC r hr n).trans (hm r hr n)
theorem IsP.len {M:Nat -> Int -> Prop} {P:Pst} (h:IsP M P):P.cloud.length <= 8000000016:=by
 obtain ⟨C,hC,_⟩:=h;exact (canon_len hC).1
theorem isP_minus {a b:Pst} {P:Pst} (h:∃ C:Nat -> List Rn,(∀ r,r < 16 -> MinusOf (runsAt a r) (runsAt b r) (C r))/\CanonOf C P):IsP (mNot (mP a) (mP b)) P:=by
 obtain ⟨C,hM,hC⟩:=h;exact ⟨C,hC,fun r hr n=>(hM r hr).2 n⟩
def SzP (M:Nat -> Int -> Prop) (z:Int):Prop:=∃ N,(∀ r,r < 16 -> form 1 (N r)/\∀ n,Go.Proofs.YtaphmhbmhcahaabGreat.mem (N r) n↔M r n)/\z=sumZ N 16
theorem SzP.none:SzP (fun _ _=>False) 0:=⟨fun _=>[],fun _ _=>⟨trivial,fun n=>⟨fun h=>mem_nil n h,fun h=>h.elim⟩⟩,by decide⟩
end
section
open Go.RowKit Go.Maps Go.Sort
theorem OwnRc.setOther {B:Nat} {w W:World} {h:Hs} {L:List Rc} (O:OwnRc B w W h L) (g:Nat) (cs:Array Value) (hg:w.heap.size <= g) (hne:(HsV h).ownBlock≠some g) (hf:∀ r∈L,PFar r.p g):OwnRc B w (W.setRow g cs) h L:=by
 have hs:(W.setRow g cs).heap.size=W.heap.size:=by simp [World.setRow]
 have hk:∀ q,q < W.heap.size -> some q≠some g -> (W.setRow g cs).heap[q]? = W.heap[q]?:=fun q _ hq=>setRow_other _ _ _ _ (fun e=>hq (by rw [e]));have hG:W.grownBy (W.setRow g cs) (some g):=⟨rfl,rfl,rfl,by omega,hk⟩;exact ⟨O.own.kept hG (.inr hne),fun r hr=>⟨⟨psrc_keep (O.ok r hr).1.1 (fun k e=>by obtain rfl:=Option.some.inj e;exact hf r hr) hk,(O.ok r hr).1.2⟩,(O.ok r hr).2⟩,below_setRow O.below hg,O.hB.1,by have:=O.hB.2;omega⟩
def ofS (R:List Rc) (s:ByteArray):List Pv:=(R.filter (fun r=>decide (r.s=s))).map (fun r=>r.p)
theorem ofS_len (R:List Rc) (s:ByteArray):(ofS R s).length <= R.length:=by unfold ofS;rw [List.length_map];exact List.length_filter_le _ _
theorem ofS_snoc (R:List Rc) (r:Rc) (s:ByteArray):pvs (ofS (R++[r]) s)=if s=r.s then pvs (ofS R s)++(PC r.p).toList else pvs (ofS R s):=by
 unfold ofS;rw [List.filter_append,List.map_append,pvs_append];by_cases h:s=r.s
 ·subst h;simp [pvs_one]
 ·have h':¬ r.s=s:=fun e=>h e.symm;simp [h,h',pvs]
theorem ofS_mem {R:List Rc} {s:ByteArray} {p:Pv}:p∈ofS R s↔∃ r∈R,r.s=s/\r.p=p:=by
 unfold ofS;rw [List.mem_map];constructor
 ·rintro ⟨r,hr,rfl⟩;have:=List.mem_filter.1 hr;exact ⟨r,this.1,by simpa using this.2,rfl⟩
 ·rintro ⟨r,hr,hs,rfl⟩;exact ⟨r,List.mem_filter.2 ⟨hr,by simpa using hs⟩,rfl⟩
theorem runsOf_mem (X:List Pv) (r:Nat) (n:Int):mem (runsOf X r) n↔∃ p∈X,mem (runsAt p.P r) n:=by
 induction X with
 | nil=>simp [runsOf,mem]
 | cons p X ih =>
  have e:runsOf (p :: X) r=runsAt p.P r++runsOf X r:=rfl;rw [e,mem_append,ih];simp
def nilF:ByteArray:=⟨#[]⟩
def FoldM (R:List Rc) (s:ByteArray) (r:Nat) (n:Int):Prop:=(∃ x∈R,x.s=s/\mem (runsAt x.p.P r) n)/\(s≠nilF -> ¬ ∃ x∈R,x.s=nilF/\mem (runsAt x.p.P r) n)
theorem join_all {R:List Rc} {s:ByteArray} {P:Pst} (h:CanonOf (runsOf (ofS R s)) P) (r:Nat) (hr:r < 16) (n:Int):mem (runsAt P r) n↔∃ x∈R,x.s=s/\mem (runsAt x.p.P r) n:=by
 rw [canon_mem h r hr n,runsOf_mem];constructor
 ·rintro ⟨p,hp,hm⟩;obtain ⟨x,hx,hs,rfl⟩:=ofS_mem.1 hp;exact ⟨x,hx,hs,hm⟩
 ·rintro ⟨x,hx,hs,hm⟩;exact ⟨x.p,ofS_mem.2 ⟨x,hx,hs,rfl⟩,hm⟩
theorem fold_nil {R:List Rc} {P:Pst} (h:CanonOf (runsOf (ofS R nilF)) P):IsP (FoldM R nilF) P:=
 ⟨_,h,fun r hr n=>by
  rw [<- canon_mem h r hr n,join_all h r hr n]
  exact ⟨fun h=>⟨h,fun e=>absurd rfl e⟩,fun h=>h.1⟩⟩
theorem fold_sku {R:List Rc} {s:ByteArray} {P A M:Pst} (hs:s≠nilF) (h:CanonOf (runsOf (ofS R s)) P) (ha:CanonOf (runsOf (ofS R nilF)) A) (hm:∃ C:Nat -> List Rn,(∀ r,r < 16 -> MinusOf (runsAt P r) (runsAt A r) (C r))/\CanonOf C M):IsP (FoldM R s) M:=by
 obtain ⟨C,hC,hI⟩:=isP_minus hm;refine ⟨C,hC,fun r hr n=>(hI r hr n).trans ?_⟩
 show mem (runsAt P r) n/\¬ mem (runsAt A r) n↔_
 rw [join_all h r hr n,join_all ha r hr n];exact ⟨fun h=>⟨h.1,fun _=>h.2⟩,fun h=>⟨h.1,h.2 hs⟩⟩
def FoldOf (R F:List Rc):Prop:=F.Pairwise (fun a b=>cmpS a.s b.s < 0)/\(∀ x∈F,(∃ r∈R,r.s=x.s)/\IsP (FoldM R x.s) x.p.P/\¬ EmptyP x.p.P)/\∀ s,(∃ r∈R,r.s=s) -> (∀ x∈F,x.s≠s) -> ∀ r,r < 16 -> ∀ n,¬ FoldM R s r n
def FPre (R:List Rc) (T:List (List UInt8)) (F:List Rc):Prop:=(F.map (fun x=>x.s.data.toList)).Sublist T/\(∀ x∈F,IsP (FoldM R x.s) x.p.P/\¬ EmptyP x.p.P)/\∀ t∈T,(∀ x∈F,x.s≠⟨t.toArray⟩) -> ∀ r,r < 16 -> ∀ n,¬ FoldM R ⟨t.toArray⟩ r n
theorem FPre.start (R:List Rc):FPre R [] []:=⟨List.Sublist.refl _,fun x h=>(by cases h),fun t h=>(by cases h)⟩
theorem FPre.skip {R F:List Rc} {T:List (List UInt8)} (h:FPre R T F) (t:List UInt8) (he:∀ r,r < 16 -> ∀ n,¬ FoldM R ⟨t.toArray⟩ r n):FPre R (T++[t]) F:=by
 refine ⟨h.1.trans (List.sublist_append_left _ _),h.2.1,fun u hu hn=>?_⟩;rcases List.mem_append.1 hu with hu | hu
 ·exact h.2.2 u hu hn
 ·obtain rfl:u=t:=by simpa using hu
  exact he
theorem FPre.add {R F:List Rc} {T:List (List UInt8)} (h:FPre R T F) (t:List UInt8) (x:Rc) (hx:x.s=⟨t.toArray⟩) (hI:IsP (FoldM R x.s) x.p.P) (hE:¬ EmptyP x.p.P):FPre R (T++[t]) (F++[x]):=by
 refine ⟨?_,fun y hy=>?_,fun u hu hn=>?_⟩
 ·rw [List.map_append];refine h.1.append ?_;simp [hx]
 ·rcases List.mem_append.1 hy with hy | hy
  ·exact h.2.1 y hy
  ·obtain rfl:y=x:=by simpa using hy
   exact ⟨hI,hE⟩
 ·rcases List.mem_append.1 hu with hu | hu
  ·exact h.2.2 u hu (fun y hy=>hn y (List.mem_append_left _ hy))
  ·obtain rfl:u=t:=by simpa using hu
   exact absurd hx (hn x (by simp))
theorem FPre.done {R F:List Rc} {T:List (List UInt8)} (h:FPre R T F) (hT:T.Pairwise (fun a b=>Lib.compareBytes a b < 0)) (hK:∀ t,t∈T↔∃ r∈R,r.s=⟨t.toArray⟩):FoldOf R F:=by
 refine ⟨List.pairwise_map.1 (hT.sublist h.1),fun x hx=>⟨?_,h.2.1 x hx⟩,fun s hs hn=>?_⟩
 ·have:=(hK x.s.data.toList).1 (h.1.subset (List.mem_map.2 ⟨x,hx,rfl⟩));simpa using this
 ·have hm:s.data.toList∈T:=(hK _).2 (by simpa using hs);have:=h.2.2 _ hm (by simpa using hn);simpa using this
end
section
open Go.RowKit
attribute [local go_sem ↓] ldR_eq stR_eq
attribute [local go_sem] zero_RC cells_RV RC_size fold_RC
theorem build_RC (x y:Int):((RC rn0).setIfInBounds 0 (.int .i64 x)).setIfInBounds 1 (.int .i64 y)=RC ⟨x,y⟩:=rfl
attribute [local go_sem] build_RC
def lenOfS:Value -> Nat
 | .slice _ n _=>n
 | _=>0
theorem meet_new (ao bo:Option Addr) (n cap m cap':Nat) (A B:List Rn) (w:World) (hS:RSrc w ao n cap A) (hR:RSrc w bo m cap' B) :
  Calls Tryz.prog 80 #[.slice ao n cap,.slice bo m cap'] w fun e w'=>GivesRN w w' e (MeetOf A B):=by
 have HS:=hide hS;have HR:=hide hR;clear hS hR;go_enter Tryz.func80,Tryz.ntmps80;go_wp2_with fail;refine (norm_any ao n cap A _ HS.out).mono ?_;rintro e w1 ⟨a1,n1,c1,X,rfl,S1,b1,p1⟩;have HS1:=hide S1;have HP1:=hide p1;have HB1:=hide b1;clear S1 b1 p1;go_wp2_with fail;refine (norm_any bo m cap' B _ (HR.out.below HB1.out)).mono ?_;rintro e w2 ⟨a2,n2,c2,Y,rfl,S2,b2,p2⟩;have HS2:=hide S2;have HP2:=hide p2;have HS1':=hide (HS1.out.below b2);have HB2:=wTr HB1 b2;clear S2 b2 p2 HS1 HB1;go_wp2_with fail;go_loopw [5,6,7,8,9] (fun u v o _ _ wr=>∃ (ax:Option Addr) (nx cx:Nat) (x':List Rn) (ay:Option Addr) (ny cy:Nat) (y':List Rn) (ap:Option Addr) (c:Nat) (acc:List Rn),u = .slice ax nx cx/\v = .slice ay ny cy/\o = .slice ap acc.length c/\RSrc w2 ax nx cx x'/\RSrc w2 ay ny cy y'/\OwnR w2.heap.size w2.heap.size w2 wr ap c acc/\MtInv X Y x' y' acc) (fun u v _ _ _ _=>lenOfS u+lenOfS v)
 case atStart=>exact ⟨a1,n1,c1,X,a2,n2,c2,Y,none,0,[],rfl,rfl,rfl,HS1'.out,HS2.out,OwnR.nil (Below.refl _ _) (Nat.le_refl _) (Nat.le_refl _),MtInv.start HP1.out.1 HP2.out.1⟩
 case round =>
  obtain ⟨ax,nx,cx,x',ay,ny,cy,y',ap,c,acc,rfl,rfl,rfl,SX,SY,O,I⟩:=hrel
  rename World=>w4
  have H:Hid (OwnR w2.heap.size w2.heap.size w2 w4 ap c acc/\MtInv X Y x' y' acc):=⟨O,I⟩;have HSX:=hide SX;have HSY:=hide SY;have hal:=form_small (Int.le_refl _) I.frm;have hcx:=SX.cap;have hcy:=SY.cap;have hrx:=SX.room;have hry:=SY.room;unfold maxLen at hrx hry;clear SX SY O I;by_cases h1:0 < nx
  ·by_cases h2:0 < ny
   ·obtain ⟨adx,rfl,_⟩:=HSX.out.at 0 h1;obtain ⟨ady,rfl,_⟩:=HSY.out.at 0 h2;obtain ⟨bx,ox,rfl⟩:=HSX.out.spot h1;obtain ⟨by_,oy,rfl⟩:=HSY.out.spot h2
    obtain ⟨a,xs,rfl⟩:∃ a xs,x'=a :: xs:=by
     have:=HSX.out.len
     cases x' with
     | nil=>simp at this;omega
     | cons a xs=>exact ⟨a,xs,rfl⟩
    obtain ⟨b,ys,rfl⟩:∃ b ys,y'=b :: ys:=by
     have:=HSY.out.len
     cases y' with
     | nil=>simp at this;omega
     | cons b ys=>exact ⟨b,ys,rfl⟩
    obtain ⟨q0,q1⟩:=HSX.out.nums 0 h1;obtain ⟨q2,q3⟩:=HSY.out.nums 0 h2;simp [List.getD] at q0 q1 q2 q3;have HQ1:=hide q1;have HQ3:=hide q3;have k0:=cell_regrown ((H.out.1.below.cell (World.block_lt_of_cell? _ _ q0)).trans q0);have k1:=cell_regrown ((H.out.1.below.cell (World.block_lt_of_cell? _ _ q1)).trans q1);have k2:=cell_regrown ((H.out.1.below.cell (World.block_lt_of_cell? _ _ q2)).trans q2);have k3:=cell_regrown ((H.out.1.below.cell (World.block_lt_of_cell? _ _ q3)).trans q3);clear q0 q1 q2 q3;by_cases hle:max a.lo b.lo <= min a.hi b.hi
    ·by_cases hlt:a.hi < b.hi
     ·go_wp2_with fail;refine wp_region_quiet_below (by kernel_rfl) (by kernel_rfl) ?_
      repeat (with_reducible (refine wpQuiet_step ?_);intro K hK;go_simp;(try rw [if_neg (by unfold undef;simp)]);first | (with_reducible (refine hK _ ?_);clear hK K) | (apply Exists.intro;refine ⟨fun _=>?_,hK _ ?_⟩;(fail);clear hK K))
      with_reducible (refine wpQuiet_nil ?_)
      intro w5 hw';obtain ⟨⟨dq,osq⟩,hw''⟩:=hw'
      have b5:Below w4.heap.size w4 w5:=by rw [hw''];exact below_regrown w4 dq osq
      clear hw'' dq osq;have HO5:=hide (H.out.1.later b5);clear b5 k0 k1 k2 k3;go_wp2_with (at_builtin;refine HO5.out.append ⟨max a.lo b.lo,min a.hi b.hi⟩ _ rfl (by omega) rfl (.tmp 43) (.tmp 47) rfl acc.length rfl rfl rfl ?_;intro g6 c6 w6 O6);have HO6:=hide O6;clear O6
      have hl6:(acc++[(⟨max a.lo b.lo,min a.hi b.hi⟩:Rn)]).length=acc.length+1:=by simp
      have k1:=cell_regrown ((HO6.out.below.cell (World.block_lt_of_cell? _ _ HQ1.out)).trans HQ1.out);have k3:=cell_regrown ((HO6.out.below.cell (World.block_lt_of_cell? _ _ HQ3.out)).trans HQ3.out);refine wp_region_quiet_below (by kernel_rfl) (by kernel_rfl) ?_
      repeat (with_reducible (refine wpQuiet_step ?_);intro K hK;go_simp;(try rw [if_neg (by unfold undef;simp)]);first | (with_reducible (refine hK _ ?_);clear hK K) | (apply Exists.intro;refine ⟨fun _=>?_,hK _ ?_⟩;(fail);clear hK K))
      with_reducible (refine wpQuiet_nil ?_)
      intro w8 hw';obtain ⟨⟨dq,osq⟩,hw''⟩:=hw'
      have b8:Below w6.heap.size w6 w8:=by rw [hw''];exact below_regrown w6 dq osq
      clear hw'' dq osq;have HO8:=hide (HO6.out.later b8);clear b8 k1 k3
      have HM:Hid (met acc a b=acc++[⟨max a.lo b.lo,min a.hi b.hi⟩]):=by show _=_;unfold met;rw [if_pos (by omega)]
      have HN:=hide (H.out.2.left (by omega));rw [HM.out] at HN;go_wp2_with fail;go_roundw
      case rel=>exact ⟨if cx=1 then some ⟨bx,ox,none⟩ else some ⟨bx,ox+2,none⟩,nx - 1,cx - 1,xs,some ⟨by_,oy,none⟩,ny,cy,b :: ys,some ⟨g6,0,none⟩,c6,acc++[⟨max a.lo b.lo,min a.hi b.hi⟩],rfl,rfl,by simp,HSX.out.tail',HSY.out,HO8.out,HN.out⟩
      case measure=>simp [lenOfS];omega
     ·go_wp2_with fail;refine wp_region_quiet_below (by kernel_rfl) (by kernel_rfl) ?_
      repeat (with_reducible (refine wpQuiet_step ?_);intro K hK;go_simp;(try rw [if_neg (by unfold undef;simp)]);first | (with_reducible (refine hK _ ?_);clear hK K) | (apply Exists.intro;refine ⟨fun _=>?_,hK _ ?_⟩;(fail);clear hK K))
      with_reducible (refine wpQuiet_nil ?_)
      intro w5 hw';obtain ⟨⟨dq,osq⟩,hw''⟩:=hw'
      have b5:Below w4.heap.size w4 w5:=by rw [hw''];exact below_regrown w4 dq osq
      clear hw'' dq osq;have HO5:=hide (H.out.1.later b5);clear b5 k0 k1 k2 k3;go_wp2_with (at_builtin;refine HO5.out.append ⟨max a.lo b.lo,min a.hi b.hi⟩ _ rfl (by omega) rfl (.tmp 43) (.tmp 47) rfl acc.length rfl rfl rfl ?_;intro g6 c6 w6 O6);have HO6:=hide O6;clear O6
      have hl6:(acc++[(⟨max a.lo b.lo,min a.hi b.hi⟩:Rn)]).length=acc.length+1:=by simp
      have k1:=cell_regrown ((HO6.out.below.cell (World.block_lt_of_cell? _ _ HQ1.out)).trans HQ1.out);have k3:=cell_regrown ((HO6.out.below.cell (World.block_lt_of_cell? _ _ HQ3.out)).trans HQ3.out);refine wp_region_quiet_below (by kernel_rfl) (by kernel_rfl) ?_
      repeat (with_reducible (refine wpQuiet_step ?_);intro K hK;go_simp;(try rw [if_neg (by unfold undef;simp)]);first | (with_reducible (refine hK _ ?_);clear hK K) | (apply Exists.intro;refine ⟨fun _=>?_,hK _ ?_⟩;(fail);clear hK K))
      with_reducible (refine wpQuiet_nil ?_)
      intro w8 hw';obtain ⟨⟨dq,osq⟩,hw''⟩:=hw'
      have b8:Below w6.heap.size w6 w8:=by rw [hw''];exact below_regrown w6 dq osq
      clear hw'' dq osq;have HO8:=hide (HO6.out.later b8);clear b8 k1 k3
      have HM:Hid (met acc a b=acc++[⟨max a.lo b.lo,min a.hi b.hi⟩]):=by show _=_;unfold met;rw [if_pos (by omega)]
      have HN:=hide (H.out.2.right (by omega));rw [HM.out] at HN;go_wp2_with fail;go_roundw
      case rel=>exact ⟨some ⟨bx,ox,none⟩,nx,cx,a :: xs,if cy=1 then some ⟨by_,oy,none⟩ else some ⟨by_,oy+2,none⟩,ny - 1,cy - 1,ys,some ⟨g6,0,none⟩,c6,acc++[⟨max a.lo b.lo,min a.hi b.hi⟩],rfl,rfl,by simp,HSX.out,HSY.out.tail',HO8.out,HN.out⟩
      case measure=>simp [lenOfS];omega
    ·by_cases hlt:a.hi < b.hi
     ·go_wp2_with fail;refine wp_region_quiet_below (by kernel_rfl) (by kernel_rfl) ?_
      repeat (with_reducible (refine wpQuiet_step ?_);intro K hK;go_simp;(try rw [if_neg (by unfold undef;simp)]);first | (with_reducible (refine hK _ ?_);clear hK K) | (apply Exists.intro;refine ⟨fun _=>?_,hK _ ?_⟩;(fail);clear hK K))
      with_reducible (refine wpQuiet_nil ?_)
      intro w5 hw';obtain ⟨⟨dq,osq⟩,hw''⟩:=hw'
      have b5:Below w4.heap.size w4 w5:=by rw [hw''];exact below_regrown w4 dq osq
      clear hw'' dq osq;have HO5:=hide (H.out.1.later b5);clear b5 k0 k1 k2 k3;go_wp2_with fail;have k1:=cell_regrown ((HO5.out.below.cell (World.block_lt_of_cell? _ _ HQ1.out)).trans HQ1.out);have k3:=cell_regrown ((HO5.out.below.cell (World.block_lt_of_cell? _ _ HQ3.out)).trans HQ3.out);refine wp_region_quiet_below (by kernel_rfl) (by kernel_rfl) ?_
      repeat (with_reducible (refine wpQuiet_step ?_);intro K hK;go_simp;(try rw [if_neg (by unfold undef;simp)]);first | (with_reducible (refine hK _ ?_);clear hK K) | (apply Exists.intro;refine ⟨fun _=>?_,hK _ ?_⟩;(fail);clear hK K))
      with_reducible (refine wpQuiet_nil ?_)
      intro w8 hw';obtain ⟨⟨dq,osq⟩,hw''⟩:=hw'
      have b8:Below w5.heap.size w5 w8:=by rw [hw''];exact below_regrown w5 dq osq
      clear hw'' dq osq;have HO8:=hide (HO5.out.later b8);clear b8 k1 k3
      have HM:Hid (met acc a b=acc):=by show _=_;unfold met;rw [if_neg (by omega)]
      have HN:=hide (H.out.2.left (by omega));rw [HM.out] at HN;go_wp2_with fail;go_roundw
      case rel=>exact ⟨if cx=1 then some ⟨bx,ox,none⟩ else some ⟨bx,ox+2,none⟩,nx - 1,cx - 1,xs,some ⟨by_,oy,none⟩,ny,cy,b :: ys,ap,c,acc,rfl,rfl,rfl,HSX.out.tail',HSY.out,HO8.out,HN.out⟩
      case measure=>simp [lenOfS];omega
     ·go_wp2_with fail;refine wp_region_quiet_below (by kernel_rfl) (by kernel_rfl) ?_
      repeat (with_reducible (refine wpQuiet_step ?_);intro K hK;go_simp;(try rw [if_neg (by unfold undef;simp)]);first | (with_reducible (refine hK _ ?_);clear hK K) | (apply Exists.intro;refine ⟨fun _=>?_,hK _ ?_⟩;(fail);clear hK K))
      with_reducible (refine wpQuiet_nil ?_)
      intro w5 hw';obtain ⟨⟨dq,osq⟩,hw''⟩:=hw'
      have b5:Below w4.heap.size w4 w5:=by rw [hw''];exact below_regrown w4 dq osq
      clear hw'' dq osq;have HO5:=hide (H.out.1.later b5);clear b5 k0 k1 k2 k3;go_wp2_with fail;have k1:=cell_regrown ((HO5.out.below.cell (World.block_lt_of_cell? _ _ HQ1.out)).trans HQ1.out);have k3:=cell_regrown ((HO5.out.below.cell (World.block_lt_of_cell? _ _ HQ3.out)).trans HQ3.out);refine wp_region_quiet_below (by kernel_rfl) (by kernel_rfl) ?_
      repeat (with_reducible (refine wpQuiet_step ?_);intro K hK;go_simp;(try rw [if_neg (by unfold undef;simp)]);first | (with_reducible (refine hK _ ?_);clear hK K) | (apply Exists.intro;refine ⟨fun _=>?_,hK _ ?_⟩;(fail);clear hK K))
      with_reducible (refine wpQuiet_nil ?_)
      intro w8 hw';obtain ⟨⟨dq,osq⟩,hw''⟩:=hw'
      have b8:Below w5.heap.size w5 w8:=by rw [hw''];exact below_regrown w5 dq osq
      clear hw'' dq osq;have HO8:=hide (HO5.out.later b8);clear b8 k1 k3
      have HM:Hid (met acc a b=acc):=by show _=_;unfold met;rw [if_neg (by omega)]
      have HN:=hide (H.out.2.right (by omega));rw [HM.out] at HN;go_wp2_with fail;go_roundw
      case rel=>exact ⟨some ⟨bx,ox,none⟩,nx,cx,a :: xs,if cy=1 then some ⟨by_,oy,none⟩ else some ⟨by_,oy+2,none⟩,ny - 1,cy - 1,ys,ap,c,acc,rfl,rfl,rfl,HSX.out,HSY.out.tail',HO8.out,HN.out⟩
      case measure=>simp [lenOfS];omega
   ·obtain rfl:ny=0:=by omega
    have hy:y'=[]:=List.eq_nil_of_length_eq_zero HSY.out.len;have HD:=hide (H.out.2.done (Or.inr hy) HP1.out HP2.out);obtain ⟨S4,F4⟩:=H.out.1.src (by omega);have HN:Hid (GivesRN w w4 (.returned (.slice ap acc.length c)) (MeetOf A B)):=⟨ap,acc.length,c,acc,rfl,S4,HB2.out.trans (H.out.1.below.mono HB2.out.size),(fun ad h=>Nat.le_trans HB2.out.size (F4 ad h)),HD.out⟩;clear S4 F4;go_wp2_with fail;go_ret;exact HN.out
  ·obtain rfl:nx=0:=by omega
   have hx:x'=[]:=List.eq_nil_of_length_eq_zero HSX.out.len;have HD:=hide (H.out.2.done (Or.inl hx) HP1.out HP2.out);obtain ⟨S4,F4⟩:=H.out.1.src (by omega);have HN:Hid (GivesRN w w4 (.returned (.slice ap acc.length c)) (MeetOf A B)):=⟨ap,acc.length,c,acc,rfl,S4,HB2.out.trans (H.out.1.below.mono HB2.out.size),(fun ad h=>Nat.le_trans HB2.out.size (F4 ad h)),HD.out⟩;clear S4 F4;go_wp2_with fail;go_ret;exact HN.out
end
end Go.Proofs.YtaphmhbmhcahaabGreat
