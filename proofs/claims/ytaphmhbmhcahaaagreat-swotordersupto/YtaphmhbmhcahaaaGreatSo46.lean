/- SYh -/
import Derived.Test.YtaphmhbmhcahaaaGreatTk
import Derived.Test.YtaphmhbmhcahaaaGreatSo45
set_option maxRecDepth 100000
set_option maxHeartbeats 25600000
namespace Go.Proofs.YtaphmhbmhcahaaaGreat
open Go.RowKit
theorem WiS.ok {a b:Fc} {v:Bool} {er:Int} (h:WiS a b v er) (fa:FormS a) (fb:FormS b) (hc:NoC (ab a) (ab b)):er=0/\BIf v (LeS a b):=by
 rcases h with ⟨h1,-⟩ | ⟨-,h1,-⟩ | ⟨-,-,h1,h2⟩
 ·exact absurd ⟨fa,fb⟩ h1
 ·exact absurd h1 hc
 ·exact ⟨h1,h2⟩
theorem OrS.ok {a b:Fc} {o er:Int} (h:OrS a b o er) (fa:FormS a) (fb:FormS b) (hc:NoC (ab a) (ab b)):er=0/\OrK a b o:=by
 rcases h with ⟨h1,-⟩ | ⟨-,h1,-⟩ | ⟨-,-,h1,h2⟩
 ·exact absurd ⟨fa,fb⟩ h1
 ·exact absurd h1 hc
 ·exact ⟨h1,h2⟩
theorem OrK.val {a b:Fc} {o:Int} {x y:Bool} (h:OrK a b o) (hx:BIf x (LeS a b)) (hy:BIf y (LeS b a)):o=if x then (if y then 0 else 1) else (if y then 2 else 3):=by
 rcases h with ⟨h1,h2,rfl⟩ | ⟨h1,h2,rfl⟩ | ⟨h1,h2,rfl⟩ | ⟨h1,h2,rfl⟩ <;> cases x <;> cases y <;> first | rfl | exact absurd (hx.1 rfl) h1 | exact absurd (hy.1 rfl) h2 | (have h9:=hx.2 h1;exact absurd h9 (by decide)) | (have h9:=hy.2 h2;exact absurd h9 (by decide))
theorem or_gone {wa wg:World} {a g:Fc} {o er:Int} (hA:FcOk wa a) (hG:FcOk wg g) (ha:A1D a) (hg:G1D g) (h:OrS g a o er):o=2/\er=0:=by
 have fa:=a1_form ha;have fg:=g1_form hg;have ga:=(fm_iff hA).1 fa;have gg:=(fm_iff hG).1 fg
 have hc:NoC (ab g) (ab a):=noC_of gg.asc ga.asc fun x hx=>by
  rw [show (ab g).L=g.es from rfl,hg.1] at hx;cases hx
 obtain ⟨rfl,hk⟩:=h.ok fg fa hc
 have h1:¬ LeS g a:=fun k=>by
  have h2:=((le_iff gg ga hc).1 k).2.2.1 sx1 (by rw [show (ab a).L=a.es from rfl,ha.1];exact List.mem_cons_self) (by rw [show (ab g).P=g.p.P from rfl,hg.2.2.1];decide +kernel);rw [show (ab g).L=g.es from rfl,hg.1] at h2;cases h2
 have h2:LeS a g:=(le_iff ga gg hc.comm).2 ⟨fun e he=>(by rw [show (ab g).P=g.p.P from rfl,hg.2.2.1];rw [show (ab a).P=a.p.P from rfl,ha.2.2.1] at he;exact he),fun q hq _=>(by rw [show (ab a).R=plR a.rs from rfl,ha.2.2.2.1] at hq;cases hq),fun e he _=>(by rw [show (ab g).L=g.es from rfl,hg.1] at he;cases he),fun e he=>(by rw [show (ab g).L=g.es from rfl,hg.1] at he;cases he)⟩;rcases hk with ⟨k,-⟩ | ⟨k,-⟩ | ⟨-,-,k⟩ | ⟨-,k,-⟩
 ·exact absurd k h1
 ·exact absurd k h1
 ·exact ⟨k,rfl⟩
 ·exact absurd h2 k
attribute [local go_sem ↓] ldSw_eq stSw_eq bldS_eq
attribute [local go_sem] cells_FaV FaC_size zero_FaZ run_bldS0
theorem swotOrders_law (a b c:Fc) (w:World) (hA:FcU w a) (hB:FcU w b) (hC:FcU w c):Calls Tryz.prog 8 #[FaV (mkF a),FaV (mkF b),FaV (mkF c)] w fun e w'=>e = .returned (.bool true)/\Below w.heap.size w w':=by
 obtain ⟨wk,hwk,HXa,HXb,HXc,HBK⟩:=box3S w a b c;obtain ⟨G,hG0⟩:∃ G,w.heap.size=G:=⟨_,rfl⟩;rw [hG0] at HXa HXb HXc;have HOa:=hide (hA.b.below HBK.out);have HOb:=hide (hB.b.below HBK.out);have HOc:=hide (hC.b.below HBK.out);clear hA hB hC;go_enter Tryz.func8,Tryz.ntmps8;go_wp2_with fail;clear hwk hG0;refine (gone1_any _).mono ?_;rintro e v1 ⟨g1,rfl,F1,b1,D1⟩;go_wp2_with fail;refine (a1_any _).mono ?_;rintro e v2 ⟨a2,rfl,F2,b2,D2⟩;have b12:=b1.trans (b2.mono b1.size);go_wp2_with fail;refine (swOrder_any 1 1 (by decide) g1 a2 _ (D1.b (F1.below b2)) (D2.b F2)).mono ?_;rintro e w2 ⟨o,er,rfl,b3,O3⟩;obtain ⟨rfl,rfl⟩:=or_gone F2 (F1.below b2) D2 D1 O3;have HB2:=hide (b12.trans (b3.mono b12.size));clear F1 F2 b1 b2 b12 b3 O3 D1 D2;have l0:=run_ldSw (HXa.out.below HB2.out);go_wp2_with fail;clear l0;refine (refInForm_any a _ (HOa.out.below HB2.out).ok).mono ?_
 rintro e w3 ⟨v,rfl,hv,bq⟩;have C3:=wTr HB2 bq;clear bq
 cases v with
 | false =>
  clear hv;have HE:=wTr HBK C3.out;go_wp2_with fail;go_ret;exact ⟨rfl,HE.out⟩
 | true =>
 have HFa:=hide (hv.1 rfl);clear hv;have l0:=run_ldSw (HXb.out.below C3.out);go_wp2_with fail;clear l0;refine (refInForm_any b _ (HOb.out.below C3.out).ok).mono ?_;rintro e w4 ⟨v,rfl,hv,bq⟩;have C4:=wTr C3 bq;clear bq
 cases v with
 | false =>
  clear hv;have HE:=wTr HBK C4.out;go_wp2_with fail;go_ret;exact ⟨rfl,HE.out⟩
 | true =>
 have HFb:=hide (hv.1 rfl);clear hv;have l0:=run_ldSw (HXc.out.below C4.out);go_wp2_with fail;clear l0;refine (refInForm_any c _ (HOc.out.below C4.out).ok).mono ?_;rintro e w5 ⟨v,rfl,hv,bq⟩;have C5:=wTr C4 bq;clear bq
 cases v with
 | false =>
  clear hv;have HE:=wTr HBK C5.out;go_wp2_with fail;go_ret;exact ⟨rfl,HE.out⟩
 | true =>
 have HFc:=hide (hv.1 rfl);clear hv;have l0:=run_ldSw (HXa.out.below C5.out);have l1:=run_ldSw (HXb.out.below C5.out);go_wp2_with fail;clear l0 l1;refine (clash_any a b _ (HOa.out.below C5.out).ok (HOb.out.below C5.out).ok (chk_of (HOa.out.below C5.out).ok HFa.out) (chk_of (HOb.out.below C5.out).ok HFb.out)).mono ?_;rintro e w6 ⟨v,rfl,hv,bq⟩;have C6:=wTr C5 bq;clear bq
 cases v with
 | true =>
  clear hv;have HE:=wTr HBK C6.out;go_wp2_with fail;go_ret;exact ⟨rfl,HE.out⟩
 | false =>
 have HCab:Hid (NoC (ab a) (ab b)):=fun h=>by have:=hv.2 h;cases this
 clear hv;have l0:=run_ldSw (HXa.out.below C6.out);have l1:=run_ldSw (HXc.out.below C6.out);go_wp2_with fail;clear l0 l1;refine (clash_any a c _ (HOa.out.below C6.out).ok (HOc.out.below C6.out).ok (chk_of (HOa.out.below C6.out).ok HFa.out) (chk_of (HOc.out.below C6.out).ok HFc.out)).mono ?_;rintro e w7 ⟨v,rfl,hv,bq⟩;have C7:=wTr C6 bq;clear bq
 cases v with
 | true =>
  clear hv;have HE:=wTr HBK C7.out;go_wp2_with fail;go_ret;exact ⟨rfl,HE.out⟩
 | false =>
 have HCac:Hid (NoC (ab a) (ab c)):=fun h=>by have:=hv.2 h;cases this
 clear hv;have l0:=run_ldSw (HXb.out.below C7.out);have l1:=run_ldSw (HXc.out.below C7.out);go_wp2_with fail;clear l0 l1;refine (clash_any b c _ (HOb.out.below C7.out).ok (HOc.out.below C7.out).ok (chk_of (HOb.out.below C7.out).ok HFb.out) (chk_of (HOc.out.below C7.out).ok HFc.out)).mono ?_;rintro e w8 ⟨v,rfl,hv,bq⟩;have C8:=wTr C7 bq;clear bq
 cases v with
 | true =>
  clear hv;have HE:=wTr HBK C8.out;go_wp2_with fail;go_ret;exact ⟨rfl,HE.out⟩
 | false =>
 have HCbc:Hid (NoC (ab b) (ab c)):=fun h=>by have:=hv.2 h;cases this
 clear hv;have HGa:=hide ((fm_iff HOa.out.ok).1 HFa.out);have HGb:=hide ((fm_iff HOb.out.ok).1 HFb.out);have HGc:=hide ((fm_iff HOc.out.ok).1 HFc.out);have l0:=run_ldSw (HXa.out.below C8.out);have l1:=run_ldSw (HXb.out.below C8.out);go_wp2_with fail;clear l0 l1;refine (swWithin_any 1 1 (by decide) a b _ (HOa.out.below C8.out) (HOb.out.below C8.out)).mono ?_;rintro e w9 ⟨xab,er,rfl,bq,hw⟩;have C9:=wTr C8 bq;obtain ⟨rfl,hv⟩:=hw.ok HFa.out HFb.out HCab.out;have HVxab:=hide hv;clear hw hv;clear bq;have l0:=run_ldSw (HXb.out.below C9.out);have l1:=run_ldSw (HXa.out.below C9.out);go_wp2_with fail;clear l0 l1;refine (swWithin_any 1 1 (by decide) b a _ (HOb.out.below C9.out) (HOa.out.below C9.out)).mono ?_;rintro e w10 ⟨xba,er,rfl,bq,hw⟩;have C10:=wTr C9 bq;obtain ⟨rfl,hv⟩:=hw.ok HFb.out HFa.out HCab.out.comm;have HVxba:=hide hv;clear hw hv
 clear bq;have l0:=run_ldSw (HXb.out.below C10.out);have l1:=run_ldSw (HXc.out.below C10.out);go_wp2_with fail;clear l0 l1;refine (swWithin_any 1 1 (by decide) b c _ (HOb.out.below C10.out) (HOc.out.below C10.out)).mono ?_;rintro e w11 ⟨xbc,er,rfl,bq,hw⟩;have C11:=wTr C10 bq;obtain ⟨rfl,hv⟩:=hw.ok HFb.out HFc.out HCbc.out;have HVxbc:=hide hv;clear hw hv;clear bq;have l0:=run_ldSw (HXa.out.below C11.out);have l1:=run_ldSw (HXc.out.below C11.out);go_wp2_with fail;clear l0 l1;refine (swWithin_any 1 1 (by decide) a c _ (HOa.out.below C11.out) (HOc.out.below C11.out)).mono ?_;rintro e w12 ⟨xac,er,rfl,bq,hw⟩;have C12:=wTr C11 bq;obtain ⟨rfl,hv⟩:=hw.ok HFa.out HFc.out HCac.out;have HVxac:=hide hv;clear hw hv;clear bq
 cases xab with
 | false =>
  cases xba with
  | false =>
   have l0:=run_ldSw (HXa.out.below C12.out);have l1:=run_ldSw (HXb.out.below C12.out);go_wp2_with fail;clear l0 l1;refine (swOrder_any 1 1 (by decide) a b _ (HOa.out.below C12.out) (HOb.out.below C12.out)).mono ?_;rintro e w13 ⟨o,er,rfl,bq,hw⟩;have C13:=wTr C12 bq;obtain ⟨rfl,hk⟩:=hw.ok HFa.out HFb.out HCab.out;obtain rfl:o=3:=hk.val HVxab.out HVxba.out;clear hw hk;clear bq;have l0:=run_ldSw (HXa.out.below C13.out);have l1:=run_ldSw (HXb.out.below C13.out);go_wp2_with fail;clear l0 l1;refine (swJoin_any 1 1 (by decide) a b _ (HOa.out.below C13.out) (HOb.out.below C13.out)).mono ?_;rintro e vj ⟨j,er,rfl,F0,b0,J0⟩;obtain ⟨rfl,jn⟩:=sj_ok HOa.out.ok HOb.out.ok J0 HFa.out HFb.out HCab.out;have HJ:=hide jn;have HGj:=hide (jn.form HGa.out HGb.out);have HFj:=hide ((fm_iff F0.ok).2 HGj.out);have HCaj:Hid (NoC (ab a) (ab j)):=(jn.noC HGa.out (noC_self HGa.out) HCab.out.comm).comm
   have HCbj:Hid (NoC (ab b) (ab j)):=(jn.noC HGb.out HCab.out (noC_self HGb.out)).comm;have HCjc:Hid (NoC (ab j) (ab c)):=jn.noC HGc.out HCac.out HCbc.out;clear J0 jn;obtain ⟨gj,hg0⟩:∃ g,vj.heap.size=g:=⟨_,rfl⟩;obtain ⟨uj,hst,X0,B0,-⟩:=madeSx vj j gj hg0;have b01:=b0.trans (B0.mono b0.size);have Cj:=wTr C13 b01;have HXj:=hide X0;have HOj:=hide (F0.below B0);have Tj_j:=hide (Below.refl uj.heap.size uj);clear F0 X0 B0 b0 b01;have l0:=run_ldSw (HXa.out.below Cj.out);have l1:=run_ldSw (HXj.out.below Tj_j.out);go_wp2_with fail;clear l0 l1 hst hg0;refine (swWithin_any 1 2 (by decide) a j _ (HOa.out.below Cj.out) (HOj.out.below Tj_j.out)).mono ?_;rintro e w14 ⟨xaj,er,rfl,bq,hw⟩;have C14:=wTr Cj bq;have Tj_14:=wTr Tj_j bq;obtain ⟨rfl,hv⟩:=hw.ok HFa.out HFj.out HCaj.out;have HVxaj:=hide hv;clear hw hv;clear bq;obtain rfl:xaj=true:=HVxaj.out.2 (le_join HGa.out HGb.out HCab.out HJ.out)
   have l0:=run_ldSw (HXb.out.below C14.out);have l1:=run_ldSw (HXj.out.below Tj_14.out);go_wp2_with fail;clear l0 l1;refine (swWithin_any 1 2 (by decide) b j _ (HOb.out.below C14.out) (HOj.out.below Tj_14.out)).mono ?_;rintro e w15 ⟨xbj,er,rfl,bq,hw⟩;have C15:=wTr C14 bq;have Tj_15:=wTr Tj_14 bq;obtain ⟨rfl,hv⟩:=hw.ok HFb.out HFj.out HCbj.out;have HVxbj:=hide hv;clear hw hv;clear bq;obtain rfl:xbj=true:=HVxbj.out.2 (le_join HGb.out HGa.out HCab.out.comm HJ.out.comm)
   cases xac with
   | false =>
    have HE:=wTr HBK C15.out;go_wp2_with fail;go_ret;exact ⟨rfl,HE.out⟩
   | true =>
    cases xbc with
    | false =>
     have HE:=wTr HBK C15.out;go_wp2_with fail;go_ret;exact ⟨rfl,HE.out⟩
    | true =>
     have l0:=run_ldSw (HXj.out.below Tj_15.out);have l1:=run_ldSw (HXc.out.below C15.out);go_wp2_with fail;clear l0 l1;refine (swWithin_any 2 1 (by decide) j c _ (HOj.out.below Tj_15.out) (HOc.out.below C15.out)).mono ?_;rintro e w16 ⟨xjc,er,rfl,bq,hw⟩;have C16:=wTr C15 bq;have Tj_16:=wTr Tj_15 bq;obtain ⟨rfl,hv⟩:=hw.ok HFj.out HFc.out HCjc.out;have HVxjc:=hide hv;clear hw hv;clear bq;obtain rfl:xjc=true:=HVxjc.out.2 (join_le HGa.out HGb.out HGc.out HCab.out HCac.out HCbc.out HJ.out (HVxac.out.1 rfl) (HVxbc.out.1 rfl));have HE:=wTr HBK C16.out;go_wp2_with fail;go_ret;exact ⟨rfl,HE.out⟩
  | true =>
   have l0:=run_ldSw (HXa.out.below C12.out);have l1:=run_ldSw (HXb.out.below C12.out);go_wp2_with fail;clear l0 l1;refine (swOrder_any 1 1 (by decide) a b _ (HOa.out.below C12.out) (HOb.out.below C12.out)).mono ?_;rintro e w13 ⟨o,er,rfl,bq,hw⟩;have C13:=wTr C12 bq;obtain ⟨rfl,hk⟩:=hw.ok HFa.out HFb.out HCab.out;obtain rfl:o=2:=hk.val HVxab.out HVxba.out;clear hw hk;clear bq;have l0:=run_ldSw (HXa.out.below C13.out);have l1:=run_ldSw (HXb.out.below C13.out);go_wp2_with fail;clear l0 l1;refine (swJoin_any 1 1 (by decide) a b _ (HOa.out.below C13.out) (HOb.out.below C13.out)).mono ?_;rintro e vj ⟨j,er,rfl,F0,b0,J0⟩;obtain ⟨rfl,jn⟩:=sj_ok HOa.out.ok HOb.out.ok J0 HFa.out HFb.out HCab.out;have HJ:=hide jn;have HGj:=hide (jn.form HGa.out HGb.out);have HFj:=hide ((fm_iff F0.ok).2 HGj.out);have HCaj:Hid (NoC (ab a) (ab j)):=(jn.noC HGa.out (noC_self HGa.out) HCab.out.comm).comm
   have HCbj:Hid (NoC (ab b) (ab j)):=(jn.noC HGb.out HCab.out (noC_self HGb.out)).comm;have HCjc:Hid (NoC (ab j) (ab c)):=jn.noC HGc.out HCac.out HCbc.out;clear J0 jn;obtain ⟨gj,hg0⟩:∃ g,vj.heap.size=g:=⟨_,rfl⟩;obtain ⟨uj,hst,X0,B0,-⟩:=madeSx vj j gj hg0;have b01:=b0.trans (B0.mono b0.size);have Cj:=wTr C13 b01;have HXj:=hide X0;have HOj:=hide (F0.below B0);have Tj_j:=hide (Below.refl uj.heap.size uj);clear F0 X0 B0 b0 b01;have l0:=run_ldSw (HXa.out.below Cj.out);have l1:=run_ldSw (HXj.out.below Tj_j.out);go_wp2_with fail;clear l0 l1 hst hg0;refine (swWithin_any 1 2 (by decide) a j _ (HOa.out.below Cj.out) (HOj.out.below Tj_j.out)).mono ?_;rintro e w14 ⟨xaj,er,rfl,bq,hw⟩;have C14:=wTr Cj bq;have Tj_14:=wTr Tj_j bq;obtain ⟨rfl,hv⟩:=hw.ok HFa.out HFj.out HCaj.out;have HVxaj:=hide hv;clear hw hv;clear bq;obtain rfl:xaj=true:=HVxaj.out.2 (le_join HGa.out HGb.out HCab.out HJ.out)
   have l0:=run_ldSw (HXb.out.below C14.out);have l1:=run_ldSw (HXj.out.below Tj_14.out);go_wp2_with fail;clear l0 l1;refine (swWithin_any 1 2 (by decide) b j _ (HOb.out.below C14.out) (HOj.out.below Tj_14.out)).mono ?_;rintro e w15 ⟨xbj,er,rfl,bq,hw⟩;have C15:=wTr C14 bq;have Tj_15:=wTr Tj_14 bq;obtain ⟨rfl,hv⟩:=hw.ok HFb.out HFj.out HCbj.out;have HVxbj:=hide hv;clear hw hv;clear bq;obtain rfl:xbj=true:=HVxbj.out.2 (le_join HGb.out HGa.out HCab.out.comm HJ.out.comm)
   cases xac with
   | false =>
    have HE:=wTr HBK C15.out;go_wp2_with fail;go_ret;exact ⟨rfl,HE.out⟩
   | true =>
    cases xbc with
    | false =>
     have HE:=wTr HBK C15.out;go_wp2_with fail;go_ret;exact ⟨rfl,HE.out⟩
    | true =>
     have l0:=run_ldSw (HXj.out.below Tj_15.out);have l1:=run_ldSw (HXc.out.below C15.out);go_wp2_with fail;clear l0 l1;refine (swWithin_any 2 1 (by decide) j c _ (HOj.out.below Tj_15.out) (HOc.out.below C15.out)).mono ?_;rintro e w16 ⟨xjc,er,rfl,bq,hw⟩;have C16:=wTr C15 bq;have Tj_16:=wTr Tj_15 bq;obtain ⟨rfl,hv⟩:=hw.ok HFj.out HFc.out HCjc.out;have HVxjc:=hide hv;clear hw hv;clear bq;obtain rfl:xjc=true:=HVxjc.out.2 (join_le HGa.out HGb.out HGc.out HCab.out HCac.out HCbc.out HJ.out (HVxac.out.1 rfl) (HVxbc.out.1 rfl));have HE:=wTr HBK C16.out;go_wp2_with fail;go_ret;exact ⟨rfl,HE.out⟩
 | true =>
  cases xbc with
  | false =>
   cases xba with
   | false =>
    have l0:=run_ldSw (HXa.out.below C12.out);have l1:=run_ldSw (HXb.out.below C12.out);go_wp2_with fail;clear l0 l1;refine (swOrder_any 1 1 (by decide) a b _ (HOa.out.below C12.out) (HOb.out.below C12.out)).mono ?_;rintro e w13 ⟨o,er,rfl,bq,hw⟩;have C13:=wTr C12 bq;obtain ⟨rfl,hk⟩:=hw.ok HFa.out HFb.out HCab.out;obtain rfl:o=1:=hk.val HVxab.out HVxba.out;clear hw hk;clear bq;have l0:=run_ldSw (HXa.out.below C13.out);have l1:=run_ldSw (HXb.out.below C13.out);go_wp2_with fail;clear l0 l1;refine (swJoin_any 1 1 (by decide) a b _ (HOa.out.below C13.out) (HOb.out.below C13.out)).mono ?_;rintro e vj ⟨j,er,rfl,F0,b0,J0⟩;obtain ⟨rfl,jn⟩:=sj_ok HOa.out.ok HOb.out.ok J0 HFa.out HFb.out HCab.out;have HJ:=hide jn;have HGj:=hide (jn.form HGa.out HGb.out);have HFj:=hide ((fm_iff F0.ok).2 HGj.out);have HCaj:Hid (NoC (ab a) (ab j)):=(jn.noC HGa.out (noC_self HGa.out) HCab.out.comm).comm
    have HCbj:Hid (NoC (ab b) (ab j)):=(jn.noC HGb.out HCab.out (noC_self HGb.out)).comm;have HCjc:Hid (NoC (ab j) (ab c)):=jn.noC HGc.out HCac.out HCbc.out;clear J0 jn;obtain ⟨gj,hg0⟩:∃ g,vj.heap.size=g:=⟨_,rfl⟩;obtain ⟨uj,hst,X0,B0,-⟩:=madeSx vj j gj hg0;have b01:=b0.trans (B0.mono b0.size);have Cj:=wTr C13 b01;have HXj:=hide X0;have HOj:=hide (F0.below B0);have Tj_j:=hide (Below.refl uj.heap.size uj);clear F0 X0 B0 b0 b01;have l0:=run_ldSw (HXa.out.below Cj.out);have l1:=run_ldSw (HXj.out.below Tj_j.out);go_wp2_with fail;clear l0 l1 hst hg0;refine (swWithin_any 1 2 (by decide) a j _ (HOa.out.below Cj.out) (HOj.out.below Tj_j.out)).mono ?_;rintro e w14 ⟨xaj,er,rfl,bq,hw⟩;have C14:=wTr Cj bq;have Tj_14:=wTr Tj_j bq;obtain ⟨rfl,hv⟩:=hw.ok HFa.out HFj.out HCaj.out;have HVxaj:=hide hv;clear hw hv;clear bq;obtain rfl:xaj=true:=HVxaj.out.2 (le_join HGa.out HGb.out HCab.out HJ.out)
    have l0:=run_ldSw (HXb.out.below C14.out);have l1:=run_ldSw (HXj.out.below Tj_14.out);go_wp2_with fail;clear l0 l1;refine (swWithin_any 1 2 (by decide) b j _ (HOb.out.below C14.out) (HOj.out.below Tj_14.out)).mono ?_;rintro e w15 ⟨xbj,er,rfl,bq,hw⟩;have C15:=wTr C14 bq;have Tj_15:=wTr Tj_14 bq;obtain ⟨rfl,hv⟩:=hw.ok HFb.out HFj.out HCbj.out;have HVxbj:=hide hv;clear hw hv;clear bq;obtain rfl:xbj=true:=HVxbj.out.2 (le_join HGb.out HGa.out HCab.out.comm HJ.out.comm)
    cases xac with
    | false =>
     have HE:=wTr HBK C15.out;go_wp2_with fail;go_ret;exact ⟨rfl,HE.out⟩
    | true =>
     have HE:=wTr HBK C15.out;go_wp2_with fail;go_ret;exact ⟨rfl,HE.out⟩
   | true =>
    have l0:=run_ldSw (HXa.out.below C12.out);have l1:=run_ldSw (HXb.out.below C12.out);go_wp2_with fail;clear l0 l1;refine (equal11_true a b _ (HOa.out.below C12.out).ok (HOb.out.below C12.out).ok (eqs_ab (le_anti (HVxab.out.1 rfl) (HVxba.out.1 rfl)))).mono ?_;rintro e w13 ⟨rfl,bq⟩;have C13:=wTr C12 bq;clear bq;have l0:=run_ldSw (HXa.out.below C13.out);have l1:=run_ldSw (HXb.out.below C13.out);go_wp2_with fail;clear l0 l1;refine (swOrder_any 1 1 (by decide) a b _ (HOa.out.below C13.out) (HOb.out.below C13.out)).mono ?_;rintro e w14 ⟨o,er,rfl,bq,hw⟩;have C14:=wTr C13 bq;obtain ⟨rfl,hk⟩:=hw.ok HFa.out HFb.out HCab.out;obtain rfl:o=0:=hk.val HVxab.out HVxba.out;clear hw hk;clear bq;have l0:=run_ldSw (HXa.out.below C14.out);have l1:=run_ldSw (HXb.out.below C14.out);go_wp2_with fail;clear l0 l1;refine (swJoin_any 1 1 (by decide) a b _ (HOa.out.below C14.out) (HOb.out.below C14.out)).mono ?_
    rintro e vj ⟨j,er,rfl,F0,b0,J0⟩;obtain ⟨rfl,jn⟩:=sj_ok HOa.out.ok HOb.out.ok J0 HFa.out HFb.out HCab.out;have HJ:=hide jn;have HGj:=hide (jn.form HGa.out HGb.out);have HFj:=hide ((fm_iff F0.ok).2 HGj.out);have HCaj:Hid (NoC (ab a) (ab j)):=(jn.noC HGa.out (noC_self HGa.out) HCab.out.comm).comm;have HCbj:Hid (NoC (ab b) (ab j)):=(jn.noC HGb.out HCab.out (noC_self HGb.out)).comm;have HCjc:Hid (NoC (ab j) (ab c)):=jn.noC HGc.out HCac.out HCbc.out;clear J0 jn;obtain ⟨gj,hg0⟩:∃ g,vj.heap.size=g:=⟨_,rfl⟩;obtain ⟨uj,hst,X0,B0,-⟩:=madeSx vj j gj hg0;have b01:=b0.trans (B0.mono b0.size);have Cj:=wTr C14 b01;have HXj:=hide X0;have HOj:=hide (F0.below B0);have Tj_j:=hide (Below.refl uj.heap.size uj);clear F0 X0 B0 b0 b01;have l0:=run_ldSw (HXa.out.below Cj.out);have l1:=run_ldSw (HXj.out.below Tj_j.out);go_wp2_with fail;clear l0 l1 hst hg0
    refine (swWithin_any 1 2 (by decide) a j _ (HOa.out.below Cj.out) (HOj.out.below Tj_j.out)).mono ?_;rintro e w15 ⟨xaj,er,rfl,bq,hw⟩;have C15:=wTr Cj bq;have Tj_15:=wTr Tj_j bq;obtain ⟨rfl,hv⟩:=hw.ok HFa.out HFj.out HCaj.out;have HVxaj:=hide hv;clear hw hv;clear bq;obtain rfl:xaj=true:=HVxaj.out.2 (le_join HGa.out HGb.out HCab.out HJ.out);have l0:=run_ldSw (HXb.out.below C15.out);have l1:=run_ldSw (HXj.out.below Tj_15.out);go_wp2_with fail;clear l0 l1;refine (swWithin_any 1 2 (by decide) b j _ (HOb.out.below C15.out) (HOj.out.below Tj_15.out)).mono ?_;rintro e w16 ⟨xbj,er,rfl,bq,hw⟩;have C16:=wTr C15 bq;have Tj_16:=wTr Tj_15 bq;obtain ⟨rfl,hv⟩:=hw.ok HFb.out HFj.out HCbj.out;have HVxbj:=hide hv;clear hw hv;clear bq;obtain rfl:xbj=true:=HVxbj.out.2 (le_join HGb.out HGa.out HCab.out.comm HJ.out.comm)
    cases xac with
    | false =>
     have HE:=wTr HBK C16.out;go_wp2_with fail;go_ret;exact ⟨rfl,HE.out⟩
    | true =>
     have HE:=wTr HBK C16.out;go_wp2_with fail;go_ret;exact ⟨rfl,HE.out⟩
  | true =>
   obtain rfl:xac=true:=HVxac.out.2 (le_trans HGa.out HGb.out HGc.out HCab.out HCbc.out HCac.out (HVxab.out.1 rfl) (HVxbc.out.1 rfl))
   cases xba with
   | false =>
    have l0:=run_ldSw (HXa.out.below C12.out);have l1:=run_ldSw (HXb.out.below C12.out);go_wp2_with fail;clear l0 l1;refine (swOrder_any 1 1 (by decide) a b _ (HOa.out.below C12.out) (HOb.out.below C12.out)).mono ?_;rintro e w13 ⟨o,er,rfl,bq,hw⟩;have C13:=wTr C12 bq;obtain ⟨rfl,hk⟩:=hw.ok HFa.out HFb.out HCab.out;obtain rfl:o=1:=hk.val HVxab.out HVxba.out;clear hw hk;clear bq;have l0:=run_ldSw (HXa.out.below C13.out);have l1:=run_ldSw (HXb.out.below C13.out);go_wp2_with fail;clear l0 l1;refine (swJoin_any 1 1 (by decide) a b _ (HOa.out.below C13.out) (HOb.out.below C13.out)).mono ?_;rintro e vj ⟨j,er,rfl,F0,b0,J0⟩;obtain ⟨rfl,jn⟩:=sj_ok HOa.out.ok HOb.out.ok J0 HFa.out HFb.out HCab.out;have HJ:=hide jn;have HGj:=hide (jn.form HGa.out HGb.out);have HFj:=hide ((fm_iff F0.ok).2 HGj.out);have HCaj:Hid (NoC (ab a) (ab j)):=(jn.noC HGa.out (noC_self HGa.out) HCab.out.comm).comm
    have HCbj:Hid (NoC (ab b) (ab j)):=(jn.noC HGb.out HCab.out (noC_self HGb.out)).comm;have HCjc:Hid (NoC (ab j) (ab c)):=jn.noC HGc.out HCac.out HCbc.out;clear J0 jn;obtain ⟨gj,hg0⟩:∃ g,vj.heap.size=g:=⟨_,rfl⟩;obtain ⟨uj,hst,X0,B0,-⟩:=madeSx vj j gj hg0;have b01:=b0.trans (B0.mono b0.size);have Cj:=wTr C13 b01;have HXj:=hide X0;have HOj:=hide (F0.below B0);have Tj_j:=hide (Below.refl uj.heap.size uj);clear F0 X0 B0 b0 b01;have l0:=run_ldSw (HXa.out.below Cj.out);have l1:=run_ldSw (HXj.out.below Tj_j.out);go_wp2_with fail;clear l0 l1 hst hg0;refine (swWithin_any 1 2 (by decide) a j _ (HOa.out.below Cj.out) (HOj.out.below Tj_j.out)).mono ?_;rintro e w14 ⟨xaj,er,rfl,bq,hw⟩;have C14:=wTr Cj bq;have Tj_14:=wTr Tj_j bq;obtain ⟨rfl,hv⟩:=hw.ok HFa.out HFj.out HCaj.out;have HVxaj:=hide hv;clear hw hv;clear bq;obtain rfl:xaj=true:=HVxaj.out.2 (le_join HGa.out HGb.out HCab.out HJ.out)
    have l0:=run_ldSw (HXb.out.below C14.out);have l1:=run_ldSw (HXj.out.below Tj_14.out);go_wp2_with fail;clear l0 l1;refine (swWithin_any 1 2 (by decide) b j _ (HOb.out.below C14.out) (HOj.out.below Tj_14.out)).mono ?_;rintro e w15 ⟨xbj,er,rfl,bq,hw⟩;have C15:=wTr C14 bq;have Tj_15:=wTr Tj_14 bq;obtain ⟨rfl,hv⟩:=hw.ok HFb.out HFj.out HCbj.out;have HVxbj:=hide hv;clear hw hv;clear bq;obtain rfl:xbj=true:=HVxbj.out.2 (le_join HGb.out HGa.out HCab.out.comm HJ.out.comm);have l0:=run_ldSw (HXj.out.below Tj_15.out);have l1:=run_ldSw (HXc.out.below C15.out);go_wp2_with fail;clear l0 l1;refine (swWithin_any 2 1 (by decide) j c _ (HOj.out.below Tj_15.out) (HOc.out.below C15.out)).mono ?_;rintro e w16 ⟨xjc,er,rfl,bq,hw⟩;have C16:=wTr C15 bq;have Tj_16:=wTr Tj_15 bq;obtain ⟨rfl,hv⟩:=hw.ok HFj.out HFc.out HCjc.out;have HVxjc:=hide hv;clear hw hv
    clear bq;obtain rfl:xjc=true:=HVxjc.out.2 (join_le HGa.out HGb.out HGc.out HCab.out HCac.out HCbc.out HJ.out (HVxac.out.1 rfl) (HVxbc.out.1 rfl));have HE:=wTr HBK C16.out;go_wp2_with fail;go_ret;exact ⟨rfl,HE.out⟩
   | true =>
    have l0:=run_ldSw (HXa.out.below C12.out);have l1:=run_ldSw (HXb.out.below C12.out);go_wp2_with fail;clear l0 l1;refine (equal11_true a b _ (HOa.out.below C12.out).ok (HOb.out.below C12.out).ok (eqs_ab (le_anti (HVxab.out.1 rfl) (HVxba.out.1 rfl)))).mono ?_;rintro e w13 ⟨rfl,bq⟩;have C13:=wTr C12 bq;clear bq;have l0:=run_ldSw (HXa.out.below C13.out);have l1:=run_ldSw (HXb.out.below C13.out);go_wp2_with fail;clear l0 l1;refine (swOrder_any 1 1 (by decide) a b _ (HOa.out.below C13.out) (HOb.out.below C13.out)).mono ?_;rintro e w14 ⟨o,er,rfl,bq,hw⟩;have C14:=wTr C13 bq;obtain ⟨rfl,hk⟩:=hw.ok HFa.out HFb.out HCab.out;obtain rfl:o=0:=hk.val HVxab.out HVxba.out;clear hw hk;clear bq;have l0:=run_ldSw (HXa.out.below C14.out);have l1:=run_ldSw (HXb.out.below C14.out);go_wp2_with fail;clear l0 l1;refine (swJoin_any 1 1 (by decide) a b _ (HOa.out.below C14.out) (HOb.out.below C14.out)).mono ?_
    rintro e vj ⟨j,er,rfl,F0,b0,J0⟩;obtain ⟨rfl,jn⟩:=sj_ok HOa.out.ok HOb.out.ok J0 HFa.out HFb.out HCab.out;have HJ:=hide jn;have HGj:=hide (jn.form HGa.out HGb.out);have HFj:=hide ((fm_iff F0.ok).2 HGj.out);have HCaj:Hid (NoC (ab a) (ab j)):=(jn.noC HGa.out (noC_self HGa.out) HCab.out.comm).comm;have HCbj:Hid (NoC (ab b) (ab j)):=(jn.noC HGb.out HCab.out (noC_self HGb.out)).comm;have HCjc:Hid (NoC (ab j) (ab c)):=jn.noC HGc.out HCac.out HCbc.out;clear J0 jn;obtain ⟨gj,hg0⟩:∃ g,vj.heap.size=g:=⟨_,rfl⟩;obtain ⟨uj,hst,X0,B0,-⟩:=madeSx vj j gj hg0;have b01:=b0.trans (B0.mono b0.size);have Cj:=wTr C14 b01;have HXj:=hide X0;have HOj:=hide (F0.below B0);have Tj_j:=hide (Below.refl uj.heap.size uj);clear F0 X0 B0 b0 b01;have l0:=run_ldSw (HXa.out.below Cj.out);have l1:=run_ldSw (HXj.out.below Tj_j.out);go_wp2_with fail;clear l0 l1 hst hg0
    refine (swWithin_any 1 2 (by decide) a j _ (HOa.out.below Cj.out) (HOj.out.below Tj_j.out)).mono ?_;rintro e w15 ⟨xaj,er,rfl,bq,hw⟩;have C15:=wTr Cj bq;have Tj_15:=wTr Tj_j bq;obtain ⟨rfl,hv⟩:=hw.ok HFa.out HFj.out HCaj.out;have HVxaj:=hide hv;clear hw hv;clear bq;obtain rfl:xaj=true:=HVxaj.out.2 (le_join HGa.out HGb.out HCab.out HJ.out);have l0:=run_ldSw (HXb.out.below C15.out);have l1:=run_ldSw (HXj.out.below Tj_15.out);go_wp2_with fail;clear l0 l1;refine (swWithin_any 1 2 (by decide) b j _ (HOb.out.below C15.out) (HOj.out.below Tj_15.out)).mono ?_;rintro e w16 ⟨xbj,er,rfl,bq,hw⟩;have C16:=wTr C15 bq;have Tj_16:=wTr Tj_15 bq;obtain ⟨rfl,hv⟩:=hw.ok HFb.out HFj.out HCbj.out;have HVxbj:=hide hv;clear hw hv;clear bq;obtain rfl:xbj=true:=HVxbj.out.2 (le_join HGb.out HGa.out HCab.out.comm HJ.out.comm);have l0:=run_ldSw (HXj.out.below Tj_16.out)
    have l1:=run_ldSw (HXc.out.below C16.out);go_wp2_with fail;clear l0 l1;refine (swWithin_any 2 1 (by decide) j c _ (HOj.out.below Tj_16.out) (HOc.out.below C16.out)).mono ?_;rintro e w17 ⟨xjc,er,rfl,bq,hw⟩;have C17:=wTr C16 bq;have Tj_17:=wTr Tj_16 bq;obtain ⟨rfl,hv⟩:=hw.ok HFj.out HFc.out HCjc.out;have HVxjc:=hide hv;clear hw hv;clear bq;obtain rfl:xjc=true:=HVxjc.out.2 (join_le HGa.out HGb.out HGc.out HCab.out HCac.out HCbc.out HJ.out (HVxac.out.1 rfl) (HVxbc.out.1 rfl));have HE:=wTr HBK C17.out;go_wp2_with fail;go_ret;exact ⟨rfl,HE.out⟩
theorem swotOrders_u (a b c:Fc) (w:World) (hA:FcU w a) (hB:FcU w b) (hC:FcU w c) :
  Calls Tryz.prog 8 #[FaV (mkF a),FaV (mkF b),FaV (mkF c)] w fun e w'=>e = .returned (.bool true)/\Below w.heap.size w w':=swotOrders_law a b c w hA hB hC
end Go.Proofs.YtaphmhbmhcahaaaGreat
