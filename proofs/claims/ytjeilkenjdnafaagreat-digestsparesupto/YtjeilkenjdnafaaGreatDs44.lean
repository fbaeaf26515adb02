/- YDs -/
import Derived.Test.YtjeilkenjdnafaaGreatTk
import Derived.Test.YtjeilkenjdnafaaGreatDs43
import Derived.Test.YtjeilkenjdnafaaGreatDs20
set_option maxRecDepth 100000
set_option maxHeartbeats 6400000
namespace Go.Proofs.YtjeilkenjdnafaaGreat
open Go.RowKit
theorem run_bldSd (a:Option Addr) (n c:Nat) (w:World):(bldS #[(2,.slice a n c)]).run Tryz.prog w = .ok (.agg (FaC (mkF ⟨none,0,0,[],pv0,a,n,c,[]⟩))) w:=by kernel_rfl
theorem pv0_runs14 (r:Nat):runsAt pv0.P r=[]:=by
 have h:V.at' [] r=0:=by unfold V.at';split <;> rfl
 show vecPart (V.at' [] r)++cloudPart [] r=[]
 rw [h];rfl
theorem pv0_no14 (r:Nat) (n:Int):¬ mem (runsAt pv0.P r) n:=by rw [pv0_runs14];intro h;exact mem_nil n h
theorem ls_own {s l:Fc} {d:Dg} (fs:FormS s) (hd:DoS s d) (h:LsD s d l):l.es=[]/\l.p.P=pv0.P/\plR l.rs=plR s.rs:=by
 have eh:d.h.P=s.p.P:=hd.1
 have e1:l.es=[]:=by
  rw [List.eq_nil_iff_forall_not_mem];intro e he;have h1:=ls_sub h he;rw [eh,fs.2.1 e h1.1] at h1
  cases h1.2
 refine ⟨e1,?_,ls_recs fs h⟩;refine pst_ext h.2.1 ⟨by decide,trivial⟩ fun e=>?_;rw [h.2.2.1 e,e1];constructor
 ·rintro (⟨-,x,hx,-⟩ | ⟨⟨h1,h2⟩,h3⟩)
  ·cases hx
  ·refine absurd ⟨by rw [eh];exact h1,fun k=>h2 ((ds_inB hd.2 e).1 k).2⟩ h3
 ·intro k;have:=inB_isR k;rw [inB_mem this] at k;exact absurd k (pv0_no14 _ _)
theorem ls_meet {o s l:Fc} {d:Dg} {m t:Pv} (_:FormS s) (hd:DoS o d) (h:LsD s d l) (ht:CanonOf (dotsG (o.es.map dotOf)) t.P) (hm:∃ C:Nat -> List Rn,(∀ r,r < 16 -> MeetOf (runsAt l.p.P r) (runsAt o.p.P r) (C r))/\CanonOf C m.P):∀ r,r < 16 -> ∀ n,mem (runsAt m.P r) n -> mem (runsAt t.P r) n:=by
 obtain ⟨C,hC,hq⟩:=hm
 have key:wiP m.P t.P:=wi_inB.2 fun e he=>by
  have h0:=inB_isR he;have h1:=(inB_mem h0).1 he;rw [canon_mem hq _ (by omega),(hC _ (by omega)).2 e.num] at h1;have kl:=(inB_mem (P:=l.p.P) h0).2 h1.1;have ko:=(inB_mem (P:=o.p.P) h0).2 h1.2;rw [ds_inB ht e];rcases (h.2.2.1 e).1 kl with ⟨-,x,hx,hde⟩ | ⟨-,g⟩
  ·have h2:=(ls_sub h hx).2;rw [hd.1,dot_inB hde,ko] at h2
   cases h2
  ·exact (ds_inB hd.2 e).1 (Classical.byContradiction fun k=>g ⟨by rw [hd.1];exact ko,k⟩)
 exact key
attribute [local go_sem ↓] ldP_eq stP_eq ldSw_eq stSw_eq ldDi_eq stDi_eq ldD_eq stD_eq bldS_eq
attribute [local go_sem] cells_PV PC_size zero_PC cells_FaV FaC_size zero_FaZ cells_DiV DiC_size cells_RV RC_size run_bldSd
theorem digestSpares_law (s o:Fc) (w:World) (hA:FcU w s) (hB:FcU w o):Calls Tryz.prog 6 #[FaV (mkF s),FaV (mkF o)] w fun e w'=>e = .returned (.bool true)/\Below w.heap.size w w':=by
 obtain ⟨wk,hwk,HX,HY,HBK,-⟩:=box2J w s o;obtain ⟨G,hG0⟩:∃ G,w.heap.size=G:=⟨_,rfl⟩;rw [hG0] at HX HY;have HOs:=hide (hA.b.below HBK.out);have HOo:=hide (hB.b.below HBK.out);clear hA hB;go_enter Tryz.func6,Tryz.ntmps6;go_wp2_with fail;clear hwk hG0;refine (known14_any _).mono ?_;rintro e w2 ⟨rfl,b2⟩;have HB2:=hide b2;clear b2;have l0:=run_ldSw (HX.out.below HB2.out);go_wp2_with fail;clear l0;refine (ofSwot_any s _ ((HOs.out.below HB2.out).u (by decide))).mono ?_;rintro e v3 ⟨d,e1,rfl,Sd,b3,hd⟩;obtain ⟨gd,hgd⟩:∃ g,v3.heap.size=g:=⟨_,rfl⟩;obtain ⟨w3,hst,X3,B3,-⟩:=madeDx14 v3 d gd hgd;have b33:=b3.trans (B3.mono b3.size);have HB3:=wTr HB2 b33
 have HGd:Hid (wk.heap.size <= gd):=by rw [<- hgd];exact Nat.le_trans HB2.out.size b3.size
 have HXd:=hide X3;have HSd:=hide (Sd.below B3);have Hd:=hide hd;clear Sd b3 hd X3 B3 b33;have l0:=run_ldSw (HX.out.below HB3.out);have l1:=run_ldDi HXd.out;go_wp2_with fail;clear l0 l1 hst hgd;refine (lackSwot_any 1 (by decide) s d _ (HOs.out.below HB3.out) HSd.out).mono ?_;rintro e v4 ⟨l,e2,rfl,Sl,b4,hl⟩;obtain ⟨gl,hgl⟩:∃ g,v4.heap.size=g:=⟨_,rfl⟩;obtain ⟨w4,hst,X4,B4,-⟩:=madeSx v4 l gl hgl;have b44:=b4.trans (B4.mono b4.size)
 have HGl:Hid (gd < gl):=by rw [<- hgl];exact Nat.lt_of_lt_of_le HXd.out.lt b4.size
 have HB4:=wTr HB3 b44;have HXl:=hide X4;have HSl:=hide (Sl.below B4);have HXd4:=hide (HXd.out.below b44);have Hl:=hide hl;clear Sl b4 hl X4 B4 b44 HXd HSd;have l0:=run_ldSw (HX.out.below HB4.out);go_wp2_with fail;clear l0 hst hgl;refine (refInForm_any s _ (HOs.out.ok.below HB4.out)).mono ?_;rintro e w5 ⟨v,rfl,hv,b5⟩;have HB5:=wTr HB4 b5;have HXl5:=hide (HXl.out.below b5);have HXd5:=hide (HXd4.out.below b5);have HSl5:=hide (HSl.out.below b5);clear b5 HXl HXd4 HSl
 cases v with
 | false =>
  have hn:¬ FormS s:=fun h=>by have:=hv.2 h;cases this
  obtain rfl:e1=1:=by
   rcases Hd.out with ⟨-,k,-⟩ | ⟨k,-⟩
   ·exact k
   ·exact absurd k hn
  obtain ⟨rfl,rfl⟩:e2=1/\l=fz0:=by
   rcases Hl.out with ⟨-,k,q⟩ | ⟨k,-⟩
   ·exact ⟨k,q⟩
   ·exact absurd k.1 hn
  have c0:w5.cell? ⟨gl,0,none⟩=some (.slice none 0 0):=HXl5.out.cs.1;have HE:=wTr HBK HB5.out;clear hv hn Hd Hl;go_wp2_with fail;go_ret;exact ⟨rfl,HE.out⟩
 | true =>
 have HFs:=hide (hv.1 rfl);clear hv
 obtain ⟨rfl,hD⟩:e1=0/\DoS s d:=by
  rcases Hd.out with ⟨k,-⟩ | ⟨-,k,q⟩
  ·exact absurd HFs.out k
  ·exact ⟨k,q⟩
 obtain ⟨rfl,hL⟩:e2=0/\LsD s d l:=by
  rcases Hl.out with ⟨k,-⟩ | ⟨-,k,q⟩
  ·exact absurd ⟨HFs.out,dos_form HFs.out (chk_of HOs.out.ok HFs.out) hD⟩ k
  ·exact ⟨k,q⟩
 have HEq:Hid (EqS l ⟨none,0,0,[],pv0,s.ro,s.rn,s.rc,s.rs⟩):=ls_own (s:=s) HFs.out hD hL;have HFz:Hid (FcOk w5 ⟨none,0,0,[],pv0,s.ro,s.rn,s.rc,s.rs⟩):=⟨K.ESrc.none _,PSrc.zero _,(HOs.out.ok.below HB5.out).rs⟩;have l0:=run_ldSw HXl5.out;have c3:=(HX.out.below HB5.out).cs.2;clear hD hL Hd Hl;go_wp2_with fail;clear l0 c3;refine (equal11_true l ⟨none,0,0,[],pv0,s.ro,s.rn,s.rc,s.rs⟩ _ HSl5.out.ok HFz.out HEq.out).mono ?_;rintro e w6 ⟨rfl,b6⟩;have HB6:=wTr HB5 b6;have HXl6:=hide (HXl5.out.below b6);have HXd6:=hide (HXd5.out.below b6);clear b6 HXl5 HXd5 HSl5 HEq HFz;have l0:=run_ldSw (HY.out.below HB6.out);go_wp2_with fail;clear l0;refine (ofSwot_any o _ ((HOo.out.below HB6.out).u (by decide))).mono ?_;rintro e v7 ⟨d2,e1,rfl,Sd,b7,hd⟩;have A7:=HXd6.out.below b7;have st:=run_stDi (m':=mkD d2) A7;obtain ⟨w7,hw7⟩:∃ w7,v7.setRow gd (DiC (mkD d2))=w7:=⟨_,rfl⟩
 have HB7:Hid (Below wk.heap.size wk w7):=by rw [<- hw7];exact below_setRow (HB6.out.trans (b7.mono HB6.out.size)) HGd.out
 have HXd7:Hid (DiBox w7 gd (mkD d2)):=by rw [<- hw7];exact A7.setRow
 have HXl7:Hid (SwBox w7 gl (mkF l)):=by rw [<- hw7];exact (setRow_other _ _ _ _ (by have:=HGl.out;omega)).trans (HXl6.out.below b7)
 have HSd7:Hid (DgOk w7 d2):=by rw [<- hw7];exact Sd.offD A7 _
 have Hd:=hide hd;rw [hw7] at st;clear Sd b7 hd A7 hw7 HXl6 HXd6;have l0:=run_ldSw (HX.out.below HB7.out);have l1:=run_ldDi HXd7.out;go_wp2_with fail;clear l0 l1 st;refine (lackSwot_any 1 (by decide) s d2 _ (HOs.out.below HB7.out) HSd7.out).mono ?_;rintro e v8 ⟨l2,e2,rfl,Sl,b8,hl⟩;have A8:=HXl7.out.below b8;have st:=run_stSw (m':=mkF l2) A8;obtain ⟨w8,hw8⟩:∃ w8,v8.setRow gl (FaC (mkF l2))=w8:=⟨_,rfl⟩
 have HB8:Hid (Below wk.heap.size wk w8):=by rw [<- hw8];exact below_setRow (HB7.out.trans (b8.mono HB7.out.size)) (by have:=HGd.out;have:=HGl.out;omega)
 have HXl8:Hid (SwBox w8 gl (mkF l2)):=by rw [<- hw8];exact A8.setRow
 have HSl8:Hid (FcOk w8 l2):=by rw [<- hw8];exact Sl.ok.offW A8 _
 have Hl:=hide hl;rw [hw8] at st;clear Sl b8 hl A8 hw8 HXl7 HXd7 HSd7;have l0:=run_ldSw (HY.out.below HB8.out);go_wp2_with fail;clear l0 st;refine (refInForm_any o _ (HOo.out.ok.below HB8.out)).mono ?_;rintro e w16 ⟨v,rfl,hv,b9⟩;have HB16:=wTr HB8 b9;have HXl9:=hide (HXl8.out.below b9);have HSl9:=hide (HSl8.out.below b9);clear b9 HXl8 HSl8
 cases v with
 | false =>
  have hn:¬ FormS o:=fun h=>by have:=hv.2 h;cases this
  obtain rfl:e1=1:=by
   rcases Hd.out with ⟨-,k,-⟩ | ⟨k,-⟩
   ·exact k
   ·exact absurd k hn
  have HE:=wTr HBK HB16.out;clear hv hn;go_wp2_with fail;go_ret;exact ⟨rfl,HE.out⟩
 | true =>
 have HFo:=hide (hv.1 rfl);clear hv
 obtain ⟨rfl,hD⟩:e1=0/\DoS o d2:=by
  rcases Hd.out with ⟨k,-⟩ | ⟨-,k,q⟩
  ·exact absurd HFo.out k
  ·exact ⟨k,q⟩
 obtain ⟨rfl,hL⟩:e2=0/\LsD s d2 l2:=by
  rcases Hl.out with ⟨k,-⟩ | ⟨-,k,q⟩
  ·exact absurd ⟨HFs.out,dos_form HFo.out (chk_of HOo.out.ok HFo.out) hD⟩ k
  ·exact ⟨k,q⟩
 have HDo:=hide hD;have HLs:=hide hL;obtain ⟨l,hle⟩:∃ x,l2=x:=⟨_,rfl⟩;rw [hle] at HXl9 HSl9 HLs
 have HNo:Hid (∀ e∈l.es,inB o.p.P e=false):=fun e he=>by
  have h:=(ls_sub HLs.out he).2;rw [HDo.out.1] at h;exact h
 obtain ⟨n,hn⟩:∃ n,l.an=n:=⟨_,rfl⟩
 have HLe:Hid (K.ESrc w16 l.ao n l.ac l.es):=by rw [<- hn];exact HSl9.out.es
 have HCl:Hid (∀ W,Below w16.heap.size w16 W -> W.cell? ⟨gl,0,none⟩=some (.slice l.ao n l.ac)):=fun W h=>by rw [<- hn];exact (HXl9.out.below h).cs.1
 have HLn:Hid (l.es.length=n):=HLe.out.1;have hbn:=HLe.out.2.2.2.2;clear hD hL Hd Hl hle hn;go_wp2_with fail;go_loopw [9] (fun i wr=>∃ k:Nat,k <= n/\i = .int .i64 (k:Int)/\Hid (Below w16.heap.size w16 wr)) (fun i _=>n - (intOf i).toNat)
 case atStart=>exact ⟨0,Nat.zero_le _,rfl,Below.refl _ _⟩
 case round =>
  obtain ⟨k,hk,rfl,HK⟩:=hrel
  rename World=>wr
  have c0:=HCl.out _ HK.out;by_cases hlt:k < n
  ·have hlti:(k:Int) < (n:Int):=by omega
   have Hlt:=hide hlt;obtain ⟨ad,hao,-⟩:=HLe.out.at k hlt;obtain ⟨e,He⟩:∃ e,Hid (l.es.getD k K.en0=e):=⟨_,rfl⟩
   have Hin:Hid (e∈l.es):=by rw [<- He.out];exact getEn_in (by rw [HLn.out];exact hlt)
   have Hao:=hide hao
   have HSt:Hid (∀ W,Below w16.heap.size w16 W -> (ldP (.pointer (some ⟨G+1,1,none⟩))).run Tryz.prog W = .ok (PV o.p) W/\W.cell? ⟨gl,0,none⟩=some (.slice (some ad) n l.ac)/\(ldD (.pointer (some (ad.add (k * 4))))).run Tryz.prog W = .ok (RV (dotOf e)) W):=fun W hW=>by
    obtain ⟨ad',ea,A⟩:=(HLe.out.below hW).at k Hlt.out;rw [Hao.out] at ea;obtain rfl:=Option.some.inj ea;rw [He.out] at A;have h':=HCl.out W hW;rw [Hao.out] at h';exact ⟨run_ldP ((HY.out.below HB16.out).below hW).past,h',run_ldD (r:=dotOf e) ⟨A.c0,A.c1⟩⟩
   have HBd:=hide (HK.out.trans ((below_drew1 wr).mono HK.out.size));clear hlt hk;rw [hao] at c0;clear hao;go_upto_region 18 with fail;refine wp_region_held_drew (S:=fun W=>(ldP (.pointer (some ⟨G+1,1,none⟩))).run Tryz.prog W = .ok (PV o.p) W/\W.cell? ⟨gl,0,none⟩=some (.slice (some ad) n l.ac)/\(ldD (.pointer (some (ad.add (k * 4))))).run Tryz.prog W = .ok (RV (dotOf e)) W) (by kernel_rfl) (HSt.out _ HBd.out) (fun hHeld=>?_);refine wU 0 ?_;refine wU 1 ?_;refine wU 2 ?_;refine wU 3 ?_;refine wU 4 ?_;refine wU 5 ?_;refine wU 6 ?_;refine wU 7 ?_;refine wpAnyH_ready (rs:=[8]) (by kernel_rfl) (by simp) (.cons rfl (fun K hK=>?_) .nil);go_simp;go_wp2_with fail;refine (refHas_any o.p (dotOf e) _ ((HOo.out.ok.below HB16.out).p.below HBd.out)).mono ?_;rintro x wz ⟨y,rfl,hy,bz⟩
   obtain rfl:y=false:=by
    have h1:=HNo.out e Hin.out;rw [Bool.eq_false_iff] at h1 ⊢;intro h2;exact h1 ((inB_iff _ _).2 (hy.1 h2))
   have HBz:=wTr HBd bz;refine hK.out _ _ (HSt.out _ HBz.out) (fun hHeld=>?_);clear hK K hy bz;refine wpAnyH_done (by kernel_rfl) ?_ _;clear hHeld;go_wp2_with fail;go_roundw
   case rel=>exact ⟨k+1,Hlt.out,by simp,HBz.out⟩
   case measure=>simp [intOf];have:=Hlt.out;omega
  ·have hlti:¬ (k:Int) < (n:Int):=by omega
   have HB17:=wTr HB16 HK.out;have HKr:=hide HK.out;have d0:=(HY.out.below HB17.out).cs.1;clear hlt hk;go_wp2_with fail;clear c0 d0;refine (refDots8_any o.ao o.an o.ac o.es ⟨#[]⟩ (-1) _ (HOo.out.ok.below HB17.out).es).mono ?_;rintro x v19 ⟨t,rfl,St,-,bt,Ct⟩;rw [dsB_all] at Ct;obtain ⟨gt,hgt⟩:∃ g,v19.heap.size=g:=⟨_,rfl⟩;obtain ⟨w19,hst,X19,B19,-⟩:=madeP v19 t gt hgt;have bt2:=bt.trans (B19.mono bt.size);have HBw:=hide (HBK.out.trans ((HB17.out.trans (bt2.mono HB17.out.size)).mono HBK.out.size));have HTk:=hide (St.below B19);have HXt:=hide X19;have HLk:=hide ((HSl9.out.below HKr.out).below bt2);have HXl19:=hide ((HXl9.out.below HKr.out).below bt2);have HOk:=hide ((HOo.out.ok.below HB17.out).below bt2);have HY19:=hide ((HY.out.below HB17.out).below bt2);have HIn:Hid (∀ m:Pv,(∃ C:Nat -> List Rn,(∀ r,r < 16 -> MeetOf (runsAt l.p.P r) (runsAt o.p.P r) (C r))/\CanonOf C m.P) -> ∀ r,r < 16 -> ∀ n,mem (runsAt m.P r) n -> mem (runsAt t.P r) n):=fun m hm=>ls_meet HFs.out HDo.out HLs.out Ct hm
   have HS2:Hid (∀ W,Below w19.heap.size w19 W -> ((ldP (.pointer (some ⟨gl,1,none⟩))).run Tryz.prog W = .ok (PV l.p) W/\(ldP (.pointer (some ⟨G+1,1,none⟩))).run Tryz.prog W = .ok (PV o.p) W)/\(ldP (.pointer (some ⟨gt,0,none⟩))).run Tryz.prog W = .ok (PV t) W):=fun W h=>⟨⟨run_ldP (HXl19.out.below h).past,run_ldP (HY19.out.below h).past⟩,run_ldP (HXt.out.below h).at⟩;clear St bt Ct X19 B19 bt2 HK;go_upto_region 21 with fail;clear hst hgt;refine wp_region_held_drew (S:=fun W=>((ldP (.pointer (some ⟨gl,1,none⟩))).run Tryz.prog W = .ok (PV l.p) W/\(ldP (.pointer (some ⟨G+1,1,none⟩))).run Tryz.prog W = .ok (PV o.p) W)/\(ldP (.pointer (some ⟨gt,0,none⟩))).run Tryz.prog W = .ok (PV t) W) (by kernel_rfl) (HS2.out _ (below_drew1 w19)) (fun hHeld=>?_);refine wU 0 ?_;refine wU 1 ?_;refine wU 2 ?_;refine wU 3 ?_;refine wU 5 ?_;refine wpAnyH_ready (rs:=[4]) (by kernel_rfl) (by simp) (.cons rfl (fun K hK=>?_) .nil)
   go_simp;go_wp2_with fail;refine (refMeet_any l.p o.p _ (HLk.out.p.below (below_drew1 w19)) (HOk.out.p.below (below_drew1 w19))).mono ?_;rintro x wa ⟨m,rfl,Sm,-,ba,Cm⟩;have HBa:Hid (Below w19.heap.size w19 wa):=(below_drew1 w19).trans (ba.mono (below_drew1 w19).size);have HSm:=hide Sm;have HCm:=hide Cm;refine hK.out _ _ (HS2.out _ HBa.out) (fun hHeld=>?_);clear hK K Sm ba Cm;refine wpAnyH_ready (rs:=[6]) (by kernel_rfl) (by simp) (.cons rfl (fun K hK=>?_) .nil);go_simp;go_wp2_with fail;refine (refWithin_any m t _ HSm.out (HTk.out.below HBa.out)).mono ?_;rintro x wb ⟨y,rfl,hy,bb⟩;obtain rfl:y=true:=hy.2 (HIn.out _ HCm.out);have HBb:Hid (Below w19.heap.size w19 wb):=HBa.out.trans (bb.mono HBa.out.size);refine hK.out _ _ (HS2.out _ HBb.out) (fun hHeld=>?_);clear hK K hy bb;refine wU 7 ?_;refine wpAnyH_done (by kernel_rfl) ?_ _;clear hHeld
   have HE:=wTr HBw HBb.out;go_wp2_with fail;go_ret;exact ⟨rfl,HE.out⟩
theorem digestSpares_u (s o:Fc) (w:World) (hA:FcU w s) (hB:FcU w o):Calls Tryz.prog 6 #[FaV (mkF s),FaV (mkF o)] w fun e w'=>e = .returned (.bool true)/\Below w.heap.size w w':=digestSpares_law s o w hA hB
end Go.Proofs.YtjeilkenjdnafaaGreat
