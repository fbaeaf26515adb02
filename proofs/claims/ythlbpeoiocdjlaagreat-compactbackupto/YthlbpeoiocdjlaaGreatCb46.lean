import Derived.Test.YthlbpeoiocdjlaaGreatTk
import Derived.Test.YthlbpeoiocdjlaaGreatCb44
import Derived.Test.YthlbpeoiocdjlaaGreatCb45
set_option maxRecDepth 100000
set_option maxHeartbeats 12800000
namespace Go.Proofs.YthlbpeoiocdjlaaGreat
open Go.RowKit
theorem CzBox.sF {w:World} {g:Nat} {c:Cz} (h:CzBox w g c):FaAt w ⟨g,12,none⟩ (mkF c.s):=by
 unfold CzBox at h;refine ⟨?_,?_,?_,?_⟩ <;> simp [Addr.add,World.cell?,h,CzC,mkF]
theorem rec_of {w:World} {s:Fc} (h:FcOk w s) (fs:FormS s):∀ r∈s.rs,RecOk r:=(okR_iff.1 (by rw [h.rs.len];exact fs.1.2.2)).1
theorem eqs_sy {s t:Fc} (h:EqS s t):EqS t s:=⟨h.1.symm,h.2.1.symm,h.2.2.symm⟩
theorem eqs_tr {s t u:Fc} (h:EqS s t) (k:EqS t u):EqS s u:=⟨h.1.trans k.1,h.2.1.trans k.2.1,h.2.2.trans k.2.2⟩
theorem xp_eq {s t h k:Fc} (x:XpE s h) (y:XpE t k) (e:EqS t s):EqS h k:=by
 have fh:InForm h.p.P:=by obtain ⟨⟨-,p,-,m⟩,-⟩:=x;exact m.form
 have fk:InForm k.p.P:=by obtain ⟨⟨-,p,-,m⟩,-⟩:=y;exact m.form
 refine ⟨x.1.1.trans (e.1.symm.trans y.1.1.symm),pst_ext fh fk fun a=>?_,x.2.1.trans (e.2.2.symm.trans y.2.1.symm)⟩;rw [xp_gone x.1,xp_gone y.1,e.1,e.2.1]
theorem xp_len {w:World} {s h t:Fc} (hH:FcOk w h) (x:XpE s h) (e:EqS t s):t.es.length=h.an/\(plR t.rs).length=h.rn:=by
 refine ⟨?_,?_⟩
 ·rw [e.1,<- x.1.1];exact hH.es.1
 ·rw [e.2.2,<- x.2.1,plR_len];exact hH.rs.len
theorem cl_sub {f p g:Fc} (hs:∀ e∈p.es,e∈f.es) (hc:¬ K.Clash (f.es++g.es)):¬ K.Clash (p.es++g.es):=by
 rintro ⟨x,hx,y,hy,hd,hne⟩
 have sub:∀ {e:K.En},e∈p.es++g.es -> e∈f.es++g.es:=fun {e} he=>by
  rw [List.mem_append] at he ⊢;exact he.imp (hs e) id
 exact hc ⟨x,sub hx,y,sub hy,hd,hne⟩
theorem sm_of {f p s t:Fc} (h:StD f s) (k:StD p t) (e:EqS s t):Sm (fp f) (fp p):=
 ⟨fun a=>by rw [<- std_hr h,<- std_hr k,e.2.1],fun a=>by rw [<- std_lv h,<- std_lv k,e.1],fun q=>by rw [<- std_wt h,<- std_wt k,e.2.2]⟩
theorem wts_un {x y:Fp} (q:Rp):wts (un x y) q↔(wts x q∨wts y q)/\¬ ∀ e,inB q.2 e=true -> hr x e∨hr y e:=by
 unfold wts;have e2:(∀ e,inB q.2 e=true -> hr (un x y) e)↔∀ e,inB q.2 e=true -> hr x e∨hr y e:=forall_congr' fun e=>imp_congr_right fun _=>hr_un e;rw [e2];constructor
 ·rintro ⟨k,n⟩;exact ⟨k.imp (fun k=>⟨k,fun c=>n fun e he=>.inl (c e he)⟩) (fun k=>⟨k,fun c=>n fun e he=>.inr (c e he)⟩),n⟩
 ·rintro ⟨k,n⟩;exact ⟨k.imp And.left And.left,n⟩
theorem un_cong {x x' y:Fp} (hx:Ok x) (hx':Ok x') (hy:Ok y) (hn:Nc x y) (hn':Nc x' y) (h:Sm x x'):Sm (un x y) (un x' y):=by
 refine ⟨fun e=>?_,fun e=>?_,fun q=>?_⟩
 ·rw [hr_un,hr_un,h.h]
 ·rw [lv_un hx hy hn,lv_un hx' hy hn',h.l,h.h];refine and_congr_right fun _=>and_congr_left fun _=>forall_congr' fun q=>?_;rw [h.w]
 ·rw [wts_un,wts_un,h.w];refine and_congr_right fun _=>not_congr (forall_congr' fun e=>imp_congr_right fun _=>?_);rw [h.h]
attribute [local go_sem ↓] ldFa_eq stFa_eq ldSw_eq stSw_eq ldSp_eq stSp_eq
attribute [local go_sem] cells_FaV FaC_size zero_FaZ cells_CzV CzC_size cells_SpV SpC_size zero_SpC
theorem compactBack_u (c:Cz) (w:World) (hU:CzU w c):Calls Tryz.prog 4 #[CzV c] w fun e w'=>e = .returned (.bool true)/\Below w.heap.size w w':=by
 have b1:=below_new w (.cells (CzC c) 34);have X1:=CzBox_new w c;obtain ⟨wk,hwk⟩:∃ w1,w.alloc (.cells (CzC c) 34)=w1:=⟨_,rfl⟩;rw [hwk] at b1 X1;obtain ⟨G,hG0⟩:∃ G,w.heap.size=G:=⟨_,rfl⟩;rw [hG0] at X1;have HX:=hide X1;have HBK:=hide b1;have HUf:=hide (hU.f.b.below b1);have HUg:=hide (hU.g.b.below b1);have HUs:=hide (hU.s.b.below b1);clear hU b1 X1;go_enter Tryz.func4,Tryz.ntmps4;go_wp2_with fail;clear hwk hG0;refine (fixed13_any _).mono ?_;rintro e w1 ⟨rfl,b1⟩;have HB1:=hide b1;clear b1;have l0:=run_laSw (HX.out.below HB1.out).sF;go_wp2_with fail;clear l0;refine (refSwotForm13_any c.s _ (HUs.out.below HB1.out).ok).mono ?_;rintro e v ⟨b0,rfl,hb,bx⟩;have HB2:=wTr HB1 bx;clear bx;go_upto_if 24 with fail
 go_cut [3] from 4 to 55 (fun _ wx=>Hid (Below wk.heap.size wk wx))
 case first =>
  cases b0 with
  | false =>
   clear hb;go_wp2_with fail;go_meet;exact HB2.out
  | true =>
  have HFs:Hid (FormS c.s):=hb.out.1 rfl;clear hb;have l0:=run_laSw (HX.out.below HB2.out).sF;go_wp2_with fail;clear l0;refine (cExpand2_any 1 (by decide) c.s _ (HUs.out.below HB2.out) HFs.out).mono ?_;rintro e v ⟨h,rfl,Sx,bx,hx⟩;have HXp:=hide hx;have HFh:Hid (FormF h):=xp_form HUs.out.ok.es.1 HUs.out.ok.rs.len Sx.ok HFs.out hx;obtain ⟨gh,hg⟩:∃ g,v.heap.size=g:=⟨_,rfl⟩;obtain ⟨w3,hst,X3,B3,-⟩:=madeFx v h gh hg;have b33:=bx.trans (B3.mono bx.size)
  have HG0:Hid (wk.heap.size <= gh):=by rw [<- hg];exact (HB2.out.trans (bx.mono HB2.out.size)).size
  have HB1:=wTr HB2 b33;have C2:=hide X3;have C3:=hide (Sx.below B3);clear Sx bx hx X3 B3 b33;have l0:=run_ldFa C2.out;go_wp2_with fail;clear l0 hst hg;refine (cmpct_any 1 (by decide) h _ C3.out).mono ?_;rintro e v ⟨s,er,rfl,Sx,bx,hx⟩
  obtain ⟨rfl,hD⟩:er=0/\StD h s:=by
   rcases hx with ⟨k,-⟩ | ⟨-,k,q⟩
   ·exact absurd HFh.out k
   ·exact ⟨k,q⟩
  have HDs:=hide hD;obtain ⟨gs,hg⟩:∃ g,v.heap.size=g:=⟨_,rfl⟩;obtain ⟨w3,hst,X3,B3,-⟩:=madeSx v s gs hg;have b33:=bx.trans (B3.mono bx.size)
  have L4:Hid (gh < gs):=by have h1:=C2.out.lt;have h2:=bx.size;show _ < _;omega
  have C5:=hide (C2.out.below b33);clear C2;have C6:=hide (C3.out.below b33);clear C3;have HB7:=wTr HB1 b33;have C8:=hide X3;have C9:=hide (Sx.below B3);clear Sx bx hx hD X3 B3 b33;have HEq:Hid (EqS s c.s):=xp_state HFs.out HXp.out HDs.out;have l0:=run_ldSw C8.out;have l1:=run_laSw (HX.out.below HB7.out).sF;go_wp2_with fail;clear l0 l1 hst hg;refine (sameSwot4_any s c.s _ C9.out.ok (HUs.out.below HB7.out).ok HEq.out).mono ?_;rintro e v ⟨rfl,bx⟩;have C10:=hide (C5.out.below bx);clear C5;have C11:=hide (C8.out.below bx);clear C8;have C12:=hide (C6.out.below bx);clear C6;have C13:=hide (C9.out.below bx);clear C9;have HB14:=wTr HB7 bx;clear bx;have l0:=run_ldFa C10.out;have l1:=run_laSw (HX.out.below HB14.out).sF;go_wp2_with fail;clear l0 l1;refine (cSame_true 1 1 (by decide) h c.s _ C12.out (HUs.out.below HB14.out) HFh.out HFs.out (std_of HDs.out HEq.out (rec_of HUs.out.ok HFs.out))).mono ?_
  rintro e v ⟨rfl,bx⟩;have C15:=hide (C10.out.below bx);clear C10;have C16:=hide (C11.out.below bx);clear C11;have C17:=hide (C12.out.below bx);clear C12;have C18:=hide (C13.out.below bx);clear C13;have HB19:=wTr HB14 bx;clear bx;go_wp2_with fail;go_meet;exact HB19.out
 case rest =>
  have HBc:=hcut
  rename World=>wc
  have l0:=run_laFa (HX.out.below HBc.out).fF;go_wp2_with fail;clear l0;refine (refForm13_any c.f _ (HUf.out.below HBc.out).ok).mono ?_;rintro e v ⟨b1,rfl,hb,bx⟩;have HB20:=wTr HBc bx;clear bx
  cases b1 with
  | false =>
   have HFf:Hid (¬ FormF c.f):=fun h=>(by have:=hb.out.2 h;cases this);clear hb;have l0:=run_laFa (HX.out.below HB20.out).fF;go_wp2_with fail;clear l0;refine (cPrune_any 1 (by decide) c.f _ (HUf.out.below HB20.out)).mono ?_;rintro e v ⟨p,er,rfl,Sx,bx,hx⟩
   obtain rfl:er=1:=by
    rcases hx with ⟨-,k⟩ | ⟨k,-⟩
    ·exact k
    ·exact absurd k HFf.out
   obtain ⟨gp,hg⟩:∃ g,v.heap.size=g:=⟨_,rfl⟩;obtain ⟨w3,hst,X3,B3,-⟩:=madeFx v p gp hg;have b33:=bx.trans (B3.mono bx.size)
   have HG0:Hid (wk.heap.size <= gp):=by rw [<- hg];exact (HB20.out.trans (bx.mono HB20.out.size)).size
   have HB21:=wTr HB20 b33;have C22:=hide X3;have C23:=hide (Sx.below B3);clear Sx bx hx X3 B3 b33;have HE:=wTr HBK HB21.out;go_wp2_with fail;clear hst hg;go_ret;exact ⟨rfl,HE.out⟩
  | true =>
  have HFf:Hid (FormF c.f):=hb.out.1 rfl;clear hb;have l0:=run_laFa (HX.out.below HB20.out).fF;go_wp2_with fail;clear l0;refine (cPrune_any 1 (by decide) c.f _ (HUf.out.below HB20.out)).mono ?_;rintro e v ⟨p,er,rfl,Sx,bx,hx⟩
  obtain ⟨rfl,s0,hD,hF,hl,hrl,hx⟩:er=0/\∃ s,StD c.f s/\FormS s/\s.es.length=s.an/\s.rs.length=s.rn/\XpE s p:=by
   rcases hx with ⟨k,-⟩ | ⟨-,k,q⟩
   ·exact absurd HFf.out k
   ·exact ⟨k,q⟩
  have HDs0:=hide hD;have HFs0:=hide hF;have HXs0:=hide hx;have HFp:Hid (FormF p):=xp_form hl hrl Sx.ok hF hx;have HRs0:Hid (∀ r∈s0.rs,RecOk r):=hD.2.2.1;obtain ⟨gp,hg⟩:∃ g,v.heap.size=g:=⟨_,rfl⟩;obtain ⟨w3,hst,X3,B3,-⟩:=madeFx v p gp hg;have b33:=bx.trans (B3.mono bx.size)
  have HG0:Hid (wk.heap.size <= gp):=by rw [<- hg];exact (HB20.out.trans (bx.mono HB20.out.size)).size
  have HB24:=wTr HB20 b33;have C25:=hide X3;have C26:=hide (Sx.below B3);clear Sx bx hx hD hF hl hrl X3 B3 b33;have l0:=run_ldFa C25.out;go_wp2_with fail;clear l0 hst hg;refine (cPrune_any 1 (by decide) p _ C26.out).mono ?_;rintro e v ⟨q,er,rfl,Sx,bx,hx⟩
  obtain ⟨rfl,s1,hD,hF,hl,hrl,hx⟩:er=0/\∃ s,StD p s/\FormS s/\s.es.length=s.an/\s.rs.length=s.rn/\XpE s q:=by
   rcases hx with ⟨k,-⟩ | ⟨-,k,q⟩
   ·exact absurd HFp.out k
   ·exact ⟨k,q⟩
  have HDs1:=hide hD;have HFs1:=hide hF;have HXs1:=hide hx;have HFq:Hid (FormF q):=xp_form hl hrl Sx.ok hF hx;have HRs1:Hid (∀ r∈s1.rs,RecOk r):=hD.2.2.1;obtain ⟨gq,hg⟩:∃ g,v.heap.size=g:=⟨_,rfl⟩;obtain ⟨w3,hst,X3,B3,-⟩:=madeFx v q gq hg;have b33:=bx.trans (B3.mono bx.size)
  have L27:Hid (gp < gq):=by have h1:=C25.out.lt;have h2:=bx.size;show _ < _;omega
  have C28:=hide (C25.out.below b33);clear C25;have C29:=hide (C26.out.below b33);clear C26;have HB30:=wTr HB24 b33;have C31:=hide X3;have C32:=hide (Sx.below B3);clear Sx bx hx hD hF hl hrl X3 B3 b33;have l0:=run_laFa (HX.out.below HB30.out).fF;go_wp2_with fail;clear l0 hst hg;refine (cmpct_any 1 (by decide) c.f _ (HUf.out.below HB30.out)).mono ?_;rintro e v ⟨sF,er,rfl,Sx,bx,hx⟩
  obtain ⟨rfl,hD⟩:er=0/\StD c.f sF:=by
   rcases hx with ⟨k,-⟩ | ⟨-,k,q⟩
   ·exact absurd HFf.out k
   ·exact ⟨k,q⟩
  have HDsF:=hide hD;obtain ⟨gsF,hg⟩:∃ g,v.heap.size=g:=⟨_,rfl⟩;obtain ⟨w3,hst,X3,B3,-⟩:=madeSx v sF gsF hg;have b33:=bx.trans (B3.mono bx.size)
  have L33:Hid (gp < gsF):=by have h1:=C28.out.lt;have h2:=bx.size;show _ < _;omega
  have L34:Hid (gq < gsF):=by have h1:=C31.out.lt;have h2:=bx.size;show _ < _;omega
  have C35:=hide (C28.out.below b33);clear C28;have C36:=hide (C31.out.below b33);clear C31;have C37:=hide (C29.out.below b33);clear C29;have C38:=hide (C32.out.below b33);clear C32;have HB39:=wTr HB30 b33;have C40:=hide X3;have C41:=hide (Sx.below B3);clear Sx bx hx hD X3 B3 b33;have l0:=run_ldFa C35.out;go_wp2_with fail;clear l0 hst hg;refine (cmpct_any 1 (by decide) p _ C37.out).mono ?_;rintro e v ⟨sP,er,rfl,Sx,bx,hx⟩
  obtain ⟨rfl,hD⟩:er=0/\StD p sP:=by
   rcases hx with ⟨k,-⟩ | ⟨-,k,q⟩
   ·exact absurd HFp.out k
   ·exact ⟨k,q⟩
  have HDsP:=hide hD;obtain ⟨gsP,hg⟩:∃ g,v.heap.size=g:=⟨_,rfl⟩;obtain ⟨w3,hst,X3,B3,-⟩:=madeSx v sP gsP hg;have b33:=bx.trans (B3.mono bx.size)
  have L42:Hid (gp < gsP):=by have h1:=C35.out.lt;have h2:=bx.size;show _ < _;omega
  have L43:Hid (gq < gsP):=by have h1:=C36.out.lt;have h2:=bx.size;show _ < _;omega
  have L44:Hid (gsF < gsP):=by have h1:=C40.out.lt;have h2:=bx.size;show _ < _;omega
  have C45:=hide (C35.out.below b33);clear C35;have C46:=hide (C36.out.below b33);clear C36;have C47:=hide (C40.out.below b33);clear C40;have C48:=hide (C37.out.below b33);clear C37;have C49:=hide (C38.out.below b33);clear C38;have C50:=hide (C41.out.below b33);clear C41;have HB51:=wTr HB39 b33;have C52:=hide X3;have C53:=hide (Sx.below B3);clear Sx bx hx hD X3 B3 b33;have HCk:Hid (K.chk p.es=0):=HF_chk C48.out.ok HFp.out;have HE0:Hid (EqS sP s0/\EqS s1 s0/\EqS sF s0):=⟨xp_state HFs0.out HXs0.out HDsP.out,xp_state HFs0.out HXs0.out HDs1.out,std_one HDsF.out HDs0.out⟩;have HEpq:Hid (EqS p q):=xp_eq HXs0.out HXs1.out HE0.out.2.1;have HEs:Hid (EqS sF sP):=eqs_tr HE0.out.2.2 (eqs_sy HE0.out.1);have HFsF:Hid (FormS sF):=st_form C50.out.ok HUf.out.ok.es.1 HUf.out.ok.rs.len HFf.out HDsF.out;have HDpF:Hid (StD p sF):=std_of HDsP.out (eqs_sy HEs.out) HDsF.out.2.2.1
  have l0:=run_ldFa C45.out;have l1:=run_ldFa C46.out;go_wp2_with fail;clear l0 l1 hst hg;refine (sameFacts4_any p q _ C48.out.ok C49.out.ok HEpq.out).mono ?_;rintro e v ⟨rfl,bx⟩;have C54:=hide (C45.out.below bx);clear C45;have C55:=hide (C46.out.below bx);clear C46;have C56:=hide (C47.out.below bx);clear C47;have C57:=hide (C52.out.below bx);clear C52;have C58:=hide (C48.out.below bx);clear C48;have C59:=hide (C49.out.below bx);clear C49;have C60:=hide (C50.out.below bx);clear C50;have C61:=hide (C53.out.below bx);clear C53;have HB62:=wTr HB51 bx;clear bx;have l0:=run_ldSw C56.out;have l1:=run_ldSw C57.out;go_wp2_with fail;clear l0 l1;refine (sameSwot4_any sF sP _ C60.out.ok C61.out.ok HEs.out).mono ?_;rintro e v ⟨rfl,bx⟩;have C63:=hide (C54.out.below bx);clear C54;have C64:=hide (C55.out.below bx);clear C55;have C65:=hide (C56.out.below bx)
  clear C56;have C66:=hide (C57.out.below bx);clear C57;have C67:=hide (C58.out.below bx);clear C58;have C68:=hide (C59.out.below bx);clear C59;have C69:=hide (C60.out.below bx);clear C60;have C70:=hide (C61.out.below bx);clear C61;have HB71:=wTr HB62 bx;clear bx;have l0:=run_ldFa C63.out;have l1:=run_ldSw C65.out;go_wp2_with fail;clear l0 l1;refine (cSame_true 1 1 (by decide) p sF _ C67.out C69.out HFp.out HFsF.out HDpF.out).mono ?_;rintro e v ⟨rfl,bx⟩;have C72:=hide (C63.out.below bx);clear C63;have C73:=hide (C64.out.below bx);clear C64;have C74:=hide (C65.out.below bx);clear C65;have C75:=hide (C66.out.below bx);clear C66;have C76:=hide (C67.out.below bx);clear C67;have C77:=hide (C68.out.below bx);clear C68;have C78:=hide (C69.out.below bx);clear C69;have C79:=hide (C70.out.below bx);clear C70;have HB80:=wTr HB71 bx
  clear bx;have HRest:Hid (∀ s,StD p s -> s.es.length=p.an/\(plR s.rs).length=p.rn):=fun s hs=>xp_len C76.out.ok HXs0.out (xp_state HFs0.out HXs0.out hs);have l0:=run_ldFa C72.out;go_wp2_with fail;clear l0;refine (cSpent_rest 1 (by decide) p _ C76.out HFp.out HRest.out).mono ?_;rintro e v ⟨z,rfl,bx⟩;obtain ⟨gz,hgz⟩:∃ g,v.heap.size=g:=⟨_,rfl⟩;obtain ⟨w3,hst,X3,B3,-⟩:=madeSp v ⟨0,z,0⟩ gz hgz;have b33:=bx.trans (B3.mono bx.size);have C81:=hide (C72.out.below b33);clear C72;have C82:=hide (C73.out.below b33);clear C73;have C83:=hide (C74.out.below b33);clear C74;have C84:=hide (C75.out.below b33);clear C75;have C85:=hide (C76.out.below b33);clear C76;have C86:=hide (C77.out.below b33);clear C77;have C87:=hide (C78.out.below b33);clear C78;have C88:=hide (C79.out.below b33);clear C79;have HB89:=wTr HB80 b33;have c0:=X3.c0
  have c2:=X3.c2;dsimp only at c0 c2;clear bx B3 b33;have l0:=run_laFa (HX.out.below HB89.out).gF;go_wp2_with fail;clear l0 hst hgz c0 c2 X3;refine (refForm13_any c.g _ (HUg.out.below HB89.out).ok).mono ?_;rintro e v ⟨b4,rfl,hb,bx⟩;have C90:=hide (C81.out.below bx);clear C81;have C91:=hide (C82.out.below bx);clear C82;have C92:=hide (C83.out.below bx);clear C83;have C93:=hide (C84.out.below bx);clear C84;have C94:=hide (C85.out.below bx);clear C85;have C95:=hide (C86.out.below bx);clear C86;have C96:=hide (C87.out.below bx);clear C87;have C97:=hide (C88.out.below bx);clear C88;have HB98:=wTr HB89 bx;clear bx
  cases b4 with
  | false =>
   clear hb;have HE:=wTr HBK HB98.out;go_wp2_with fail;go_ret;exact ⟨rfl,HE.out⟩
  | true =>
  have HFg:Hid (FormF c.g):=hb.out.1 rfl;clear hb;have l0:=run_laFa (HX.out.below HB98.out).fF;have l1:=run_laFa (HX.out.below HB98.out).gF;go_wp2_with fail;clear l0 l1;refine (refClash13_any c.f c.g _ (HUf.out.below HB98.out).ok (HUg.out.below HB98.out).ok HFf.out HFg.out).mono ?_;rintro e v ⟨b5,rfl,hb,bx⟩;have C99:=hide (C90.out.below bx);clear C90;have C100:=hide (C91.out.below bx);clear C91;have C101:=hide (C92.out.below bx);clear C92;have C102:=hide (C93.out.below bx);clear C93;have C103:=hide (C94.out.below bx);clear C94;have C104:=hide (C95.out.below bx);clear C95;have C105:=hide (C96.out.below bx);clear C96;have C106:=hide (C97.out.below bx);clear C97;have HB107:=wTr HB98 bx;clear bx
  cases b5 with
  | true =>
   clear hb;have HE:=wTr HBK HB107.out;go_wp2_with fail;go_ret;exact ⟨rfl,HE.out⟩
  | false =>
  have HCfg:Hid (¬ K.Clash (c.f.es++c.g.es)):=fun h=>(by have:=hb.2 h;cases this);have HCpg:Hid (¬ K.Clash (p.es++c.g.es)):=cl_sub (fun e he=>((std_lv HDs0.out e).1 (by rw [<- HXs0.out.1.1];exact he)).1) HCfg.out;clear hb;have l0:=run_laFa (HX.out.below HB107.out).fF;have l1:=run_laFa (HX.out.below HB107.out).gF;go_wp2_with fail;clear l0 l1;refine (tjB_any 1 1 (by decide) c.f c.g _ (HUf.out.below HB107.out) (HUg.out.below HB107.out)).mono ?_;rintro e v ⟨a,er,rfl,Sx,bx,hx⟩
  obtain ⟨rfl,hJ⟩:er=0/\JfD c.f c.g a:=by
   rcases hx with ⟨q,-⟩ | ⟨-,q,-⟩ | ⟨-,-,q,k⟩
   ·exact absurd ⟨HFf.out,HFg.out⟩ q
   ·exact absurd q HCfg.out
   ·exact ⟨q,k⟩
  have HJa:=hide hJ;have HFa:Hid (FormF a):=jf_form Sx.ok HUf.out.ok.es.1 HUg.out.ok.es.1 HFf.out HFg.out hJ;have HLa:Hid (a.es.length=a.an/\a.rs.length=a.rn):=⟨Sx.ok.es.1,Sx.ok.rs.len⟩;obtain ⟨ga,hg⟩:∃ g,v.heap.size=g:=⟨_,rfl⟩;obtain ⟨w3,hst,X3,B3,-⟩:=madeFx v a ga hg;have b33:=bx.trans (B3.mono bx.size)
  have L108:Hid (gp < ga):=by have h1:=C99.out.lt;have h2:=bx.size;show _ < _;omega
  have L109:Hid (gq < ga):=by have h1:=C100.out.lt;have h2:=bx.size;show _ < _;omega
  have L110:Hid (gsF < ga):=by have h1:=C101.out.lt;have h2:=bx.size;show _ < _;omega
  have L111:Hid (gsP < ga):=by have h1:=C102.out.lt;have h2:=bx.size;show _ < _;omega
  have C112:=hide (C99.out.below b33);clear C99;have C113:=hide (C100.out.below b33);clear C100;have C114:=hide (C101.out.below b33);clear C101;have C115:=hide (C102.out.below b33);clear C102;have C116:=hide (C103.out.below b33);clear C103;have C117:=hide (C104.out.below b33);clear C104;have C118:=hide (C105.out.below b33);clear C105;have C119:=hide (C106.out.below b33);clear C106;have HB120:=wTr HB107 b33;have C121:=hide X3;have C122:=hide (Sx.below B3);clear Sx bx hx hJ X3 B3 b33;have l0:=run_ldFa C112.out;have l1:=run_laFa (HX.out.below HB120.out).gF;go_wp2_with fail;clear l0 l1 hst hg;refine (tjB_any 1 1 (by decide) p c.g _ C116.out (HUg.out.below HB120.out)).mono ?_;rintro e v ⟨b,er,rfl,Sx,bx,hx⟩
  obtain ⟨rfl,hJ⟩:er=0/\JfD p c.g b:=by
   rcases hx with ⟨q,-⟩ | ⟨-,q,-⟩ | ⟨-,-,q,k⟩
   ·exact absurd ⟨HFp.out,HFg.out⟩ q
   ·exact absurd q HCpg.out
   ·exact ⟨q,k⟩
  have HJb:=hide hJ;have HFb:Hid (FormF b):=jf_form Sx.ok (lenL C116.out.ok) HUg.out.ok.es.1 HFp.out HFg.out hJ;have HLb:Hid (b.es.length=b.an/\b.rs.length=b.rn):=⟨Sx.ok.es.1,Sx.ok.rs.len⟩;obtain ⟨gb,hg⟩:∃ g,v.heap.size=g:=⟨_,rfl⟩;obtain ⟨w3,hst,X3,B3,-⟩:=madeFx v b gb hg;have b33:=bx.trans (B3.mono bx.size)
  have L123:Hid (gp < gb):=by have h1:=C112.out.lt;have h2:=bx.size;show _ < _;omega
  have L124:Hid (gq < gb):=by have h1:=C113.out.lt;have h2:=bx.size;show _ < _;omega
  have L125:Hid (gsF < gb):=by have h1:=C114.out.lt;have h2:=bx.size;show _ < _;omega
  have L126:Hid (gsP < gb):=by have h1:=C115.out.lt;have h2:=bx.size;show _ < _;omega
  have L127:Hid (ga < gb):=by have h1:=C121.out.lt;have h2:=bx.size;show _ < _;omega
  have C128:=hide (C112.out.below b33);clear C112;have C129:=hide (C113.out.below b33);clear C113;have C130:=hide (C114.out.below b33);clear C114;have C131:=hide (C115.out.below b33);clear C115;have C132:=hide (C121.out.below b33);clear C121;have C133:=hide (C116.out.below b33);clear C116;have C134:=hide (C117.out.below b33);clear C117;have C135:=hide (C118.out.below b33);clear C118;have C136:=hide (C119.out.below b33);clear C119;have C137:=hide (C122.out.below b33);clear C122;have HB138:=wTr HB120 b33;have C139:=hide X3;have C140:=hide (Sx.below B3);clear Sx bx hx hJ X3 B3 b33;have l0:=run_ldFa C132.out;go_wp2_with fail;clear l0 hst hg;refine (cmpct_any 2 (by decide) a _ C137.out).mono ?_;rintro e v ⟨s2,er,rfl,Sx,bx,hx⟩
  obtain ⟨rfl,hD⟩:er=0/\StD a s2:=by
   rcases hx with ⟨k,-⟩ | ⟨-,k,q⟩
   ·exact absurd HFa.out k
   ·exact ⟨k,q⟩
  have HDs2:=hide hD;clear hx hD;have C141:=hide (C128.out.below bx);clear C128;have C142:=hide (C129.out.below bx);clear C129;have C143:=hide (C130.out.below bx);clear C130;have C144:=hide (C131.out.below bx);clear C131;have C145:=hide (C132.out.below bx);clear C132;have C146:=hide (C139.out.below bx);clear C139;have C147:=hide (C133.out.below bx);clear C133;have C148:=hide (C134.out.below bx);clear C134;have C149:=hide (C135.out.below bx);clear C135;have C150:=hide (C136.out.below bx);clear C136;have C151:=hide (C137.out.below bx);clear C137;have C152:=hide (C140.out.below bx);clear C140;have HB153:=wTr HB138 bx;have A:=C143.out;have S0:=Sx;obtain ⟨w3,hw3⟩:∃ w3,v.setRow gsF (FaC (mkF s2))=w3:=⟨_,rfl⟩;have hst:=run_stSw (m':=mkF s2) A;rw [hw3] at hst
  have Hoth:Hid (∀ b,b≠gsF -> w3.heap[b]? = v.heap[b]?):=fun b hb=>by rw [<- hw3];exact setRow_other _ _ _ _ hb
  have C154:Hid (FaBox w3 gp (mkF p)):=(Hoth.out _ (by have q0:=L27.out;have q1:=L33.out;have q2:=L34.out;have q3:=L42.out;have q4:=L43.out;have q5:=L44.out;have q6:=L108.out;have q7:=L109.out;have q8:=L110.out;have q9:=L111.out;have q10:=L123.out;have q11:=L124.out;have q12:=L125.out;have q13:=L126.out;have q14:=L127.out;omega)).trans C141.out;clear C141;have C155:Hid (FaBox w3 gq (mkF q)):=(Hoth.out _ (by have q0:=L27.out;have q1:=L33.out;have q2:=L34.out;have q3:=L42.out;have q4:=L43.out;have q5:=L44.out;have q6:=L108.out;have q7:=L109.out;have q8:=L110.out;have q9:=L111.out;have q10:=L123.out;have q11:=L124.out;have q12:=L125.out;have q13:=L126.out;have q14:=L127.out;omega)).trans C142.out;clear C142
  have C156:Hid (SwBox w3 gsF (mkF s2)):=by rw [<- hw3];exact A.setRow
  clear C143;have C157:Hid (SwBox w3 gsP (mkF sP)):=(Hoth.out _ (by have q0:=L27.out;have q1:=L33.out;have q2:=L34.out;have q3:=L42.out;have q4:=L43.out;have q5:=L44.out;have q6:=L108.out;have q7:=L109.out;have q8:=L110.out;have q9:=L111.out;have q10:=L123.out;have q11:=L124.out;have q12:=L125.out;have q13:=L126.out;have q14:=L127.out;omega)).trans C144.out;clear C144;have C158:Hid (FaBox w3 ga (mkF a)):=(Hoth.out _ (by have q0:=L27.out;have q1:=L33.out;have q2:=L34.out;have q3:=L42.out;have q4:=L43.out;have q5:=L44.out;have q6:=L108.out;have q7:=L109.out;have q8:=L110.out;have q9:=L111.out;have q10:=L123.out;have q11:=L124.out;have q12:=L125.out;have q13:=L126.out;have q14:=L127.out;omega)).trans C145.out;clear C145;have C159:Hid (FaBox w3 gb (mkF b)):=(Hoth.out _ (by have q0:=L27.out;have q1:=L33.out;have q2:=L34.out;have q3:=L42.out;have q4:=L43.out;have q5:=L44.out;have q6:=L108.out;have q7:=L109.out;have q8:=L110.out;have q9:=L111.out;have q10:=L123.out;have q11:=L124.out;have q12:=L125.out;have q13:=L126.out;have q14:=L127.out;omega)).trans C146.out
  clear C146
  have C160:Hid (SwB 1 w3 p):=by rw [<- hw3];exact C147.out.offW A _
  clear C147
  have C161:Hid (SwB 1 w3 q):=by rw [<- hw3];exact C148.out.offW A _
  clear C148
  have C162:Hid (SwB 2 w3 s2):=by rw [<- hw3];exact S0.offW A _
  clear C149
  have C163:Hid (SwB 1 w3 sP):=by rw [<- hw3];exact C150.out.offW A _
  clear C150
  have C164:Hid (SwB 2 w3 a):=by rw [<- hw3];exact C151.out.offW A _
  clear C151
  have C165:Hid (SwB 2 w3 b):=by rw [<- hw3];exact C152.out.offW A _
  clear C152
  have HB166:Hid (Below wk.heap.size wk w3):=by rw [<- hw3];exact below_setRow HB153.out (by have q:=HG0.out;have q0:=L27.out;have q1:=L33.out;have q2:=L34.out;have q3:=L42.out;have q4:=L43.out;have q5:=L44.out;have q6:=L108.out;have q7:=L109.out;have q8:=L110.out;have q9:=L111.out;have q10:=L123.out;have q11:=L124.out;have q12:=L125.out;have q13:=L126.out;have q14:=L127.out;omega)
  clear Sx bx S0 A hw3 Hoth;have l0:=run_ldFa C159.out;go_wp2_with fail;clear l0 hst;refine (cmpct_any 2 (by decide) b _ C165.out).mono ?_;rintro e v ⟨t2,er,rfl,Sx,bx,hx⟩
  obtain ⟨rfl,hD⟩:er=0/\StD b t2:=by
   rcases hx with ⟨k,-⟩ | ⟨-,k,q⟩
   ·exact absurd HFb.out k
   ·exact ⟨k,q⟩
  have HDt2:=hide hD;clear hx hD;have C167:=hide (C154.out.below bx);clear C154;have C168:=hide (C155.out.below bx);clear C155;have C169:=hide (C156.out.below bx);clear C156;have C170:=hide (C157.out.below bx);clear C157;have C171:=hide (C158.out.below bx);clear C158;have C172:=hide (C159.out.below bx);clear C159;have C173:=hide (C160.out.below bx);clear C160;have C174:=hide (C161.out.below bx);clear C161;have C175:=hide (C162.out.below bx);clear C162;have C176:=hide (C163.out.below bx);clear C163;have C177:=hide (C164.out.below bx);clear C164;have C178:=hide (C165.out.below bx);clear C165;have HB179:=wTr HB166 bx;have A:=C170.out;have S0:=Sx;obtain ⟨w3,hw3⟩:∃ w3,v.setRow gsP (FaC (mkF t2))=w3:=⟨_,rfl⟩;have hst:=run_stSw (m':=mkF t2) A;rw [hw3] at hst
  have Hoth:Hid (∀ b,b≠gsP -> w3.heap[b]? = v.heap[b]?):=fun b hb=>by rw [<- hw3];exact setRow_other _ _ _ _ hb
  have C180:Hid (FaBox w3 gp (mkF p)):=(Hoth.out _ (by have q0:=L27.out;have q1:=L33.out;have q2:=L34.out;have q3:=L42.out;have q4:=L43.out;have q5:=L44.out;have q6:=L108.out;have q7:=L109.out;have q8:=L110.out;have q9:=L111.out;have q10:=L123.out;have q11:=L124.out;have q12:=L125.out;have q13:=L126.out;have q14:=L127.out;omega)).trans C167.out;clear C167;have C181:Hid (FaBox w3 gq (mkF q)):=(Hoth.out _ (by have q0:=L27.out;have q1:=L33.out;have q2:=L34.out;have q3:=L42.out;have q4:=L43.out;have q5:=L44.out;have q6:=L108.out;have q7:=L109.out;have q8:=L110.out;have q9:=L111.out;have q10:=L123.out;have q11:=L124.out;have q12:=L125.out;have q13:=L126.out;have q14:=L127.out;omega)).trans C168.out;clear C168;have C182:Hid (SwBox w3 gsF (mkF s2)):=(Hoth.out _ (by have q0:=L27.out;have q1:=L33.out;have q2:=L34.out;have q3:=L42.out;have q4:=L43.out;have q5:=L44.out;have q6:=L108.out;have q7:=L109.out;have q8:=L110.out;have q9:=L111.out;have q10:=L123.out;have q11:=L124.out;have q12:=L125.out;have q13:=L126.out;have q14:=L127.out;omega)).trans C169.out
  clear C169
  have C183:Hid (SwBox w3 gsP (mkF t2)):=by rw [<- hw3];exact A.setRow
  clear C170;have C184:Hid (FaBox w3 ga (mkF a)):=(Hoth.out _ (by have q0:=L27.out;have q1:=L33.out;have q2:=L34.out;have q3:=L42.out;have q4:=L43.out;have q5:=L44.out;have q6:=L108.out;have q7:=L109.out;have q8:=L110.out;have q9:=L111.out;have q10:=L123.out;have q11:=L124.out;have q12:=L125.out;have q13:=L126.out;have q14:=L127.out;omega)).trans C171.out;clear C171;have C185:Hid (FaBox w3 gb (mkF b)):=(Hoth.out _ (by have q0:=L27.out;have q1:=L33.out;have q2:=L34.out;have q3:=L42.out;have q4:=L43.out;have q5:=L44.out;have q6:=L108.out;have q7:=L109.out;have q8:=L110.out;have q9:=L111.out;have q10:=L123.out;have q11:=L124.out;have q12:=L125.out;have q13:=L126.out;have q14:=L127.out;omega)).trans C172.out;clear C172
  have C186:Hid (SwB 1 w3 p):=by rw [<- hw3];exact C173.out.offW A _
  clear C173
  have C187:Hid (SwB 1 w3 q):=by rw [<- hw3];exact C174.out.offW A _
  clear C174
  have C188:Hid (SwB 2 w3 s2):=by rw [<- hw3];exact C175.out.offW A _
  clear C175
  have C189:Hid (SwB 2 w3 t2):=by rw [<- hw3];exact S0.offW A _
  clear C176
  have C190:Hid (SwB 2 w3 a):=by rw [<- hw3];exact C177.out.offW A _
  clear C177
  have C191:Hid (SwB 2 w3 b):=by rw [<- hw3];exact C178.out.offW A _
  clear C178
  have HB192:Hid (Below wk.heap.size wk w3):=by rw [<- hw3];exact below_setRow HB179.out (by have q:=HG0.out;have q0:=L27.out;have q1:=L33.out;have q2:=L34.out;have q3:=L42.out;have q4:=L43.out;have q5:=L44.out;have q6:=L108.out;have q7:=L109.out;have q8:=L110.out;have q9:=L111.out;have q10:=L123.out;have q11:=L124.out;have q12:=L125.out;have q13:=L126.out;have q14:=L127.out;omega)
  clear Sx bx S0 A hw3 Hoth
  have HE2:Hid (EqS s2 t2):=by
   refine st_same HLa.out.1 HLa.out.2 HLb.out.1 HLb.out.2 HFa.out HFb.out HDs2.out HDt2.out ?_;rw [fp_un HJa.out,fp_un HJb.out];exact un_cong (fp_ok (HF_chk HUf.out.ok HFf.out)) (fp_ok HCk.out) (fp_ok (HF_chk HUg.out.ok HFg.out)) (fp_nc HCfg.out) (fp_nc HCpg.out) (sm_of HDsF.out HDsP.out HEs.out)
  have l0:=run_ldSw C182.out;have l1:=run_ldSw C183.out;go_wp2_with fail;clear l0 l1 hst;refine (sameSwot4_any s2 t2 _ C188.out.ok C189.out.ok HE2.out).mono ?_;rintro e v ⟨rfl,bx⟩;have C193:=hide (C180.out.below bx);clear C180;have C194:=hide (C181.out.below bx);clear C181;have C195:=hide (C182.out.below bx);clear C182;have C196:=hide (C183.out.below bx);clear C183;have C197:=hide (C184.out.below bx);clear C184;have C198:=hide (C185.out.below bx);clear C185;have C199:=hide (C186.out.below bx);clear C186;have C200:=hide (C187.out.below bx);clear C187;have C201:=hide (C188.out.below bx);clear C188;have C202:=hide (C189.out.below bx);clear C189;have C203:=hide (C190.out.below bx);clear C190;have C204:=hide (C191.out.below bx);clear C191;have HB205:=wTr HB192 bx;clear bx;have HE:=wTr HBK HB205.out;go_wp2_with fail;go_ret;exact ⟨rfl,HE.out⟩
end Go.Proofs.YthlbpeoiocdjlaaGreat
