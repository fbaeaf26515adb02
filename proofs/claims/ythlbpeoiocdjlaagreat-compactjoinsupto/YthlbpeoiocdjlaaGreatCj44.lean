/- YEc -/
import Derived.Test.YthlbpeoiocdjlaaGreatTk
import Derived.Test.YthlbpeoiocdjlaaGreatCj40
import Derived.Test.YthlbpeoiocdjlaaGreatCj43
set_option maxRecDepth 100000
set_option maxHeartbeats 12800000
namespace Go.Proofs.YthlbpeoiocdjlaaGreat
open Go.RowKit
theorem SwB.offW {N:Nat} {W:World} {g:Nat} {m:FacV} {f:Fc} (h:SwB N W f) (A:SwBox W g m) (c:Array Value):SwB N (W.setRow g c) f:=⟨h.ok.offW A c,h.row,h.rn,h.an,h.cl⟩
theorem HF_chk {w:World} {f:Fc} (h:FcOk w f) (ff:FormF f):K.chk f.es=0:=(chk_okS h.es.1).2 ff.1
theorem HF_chkB {N:Nat} {w:World} {f:Fc} (h:SwB N w f) (ff:FormF f):K.chk f.es=0:=HF_chk h.ok ff
theorem cl_un {f g h fg:Fc} (j:JfD f g fg) (h1:¬ K.Clash (f.es++h.es)) (h2:¬ K.Clash (g.es++h.es)) (hc:¬ K.Clash (f.es++g.es)):¬ K.Clash (h.es++fg.es):=by
 have sub:∀ {e:K.En},e∈h.es++fg.es -> e∈h.es∨e∈f.es∨e∈g.es:=fun {e} he=>(List.mem_append.1 he).imp id fun k=>(j.2.1 e).1 k;rintro ⟨x,hx,y,hy,hs,hne⟩;have m1:∀ {a b:K.En} {X Y:List K.En},¬ K.Clash (X++Y) -> (a∈X∨a∈Y) -> (b∈X∨b∈Y) -> K.sameDot a b=true -> a≠b -> False:=fun hc ha hb k n=>hc ⟨_,List.mem_append.2 ha,_,List.mem_append.2 hb,k,n⟩;rcases sub hx with kx | kx | kx <;> rcases sub hy with ky | ky | ky
 ·exact m1 h1 (.inr kx) (.inr ky) hs hne
 ·exact m1 h1 (.inr kx) (.inl ky) hs hne
 ·exact m1 h2 (.inr kx) (.inl ky) hs hne
 ·exact m1 h1 (.inl kx) (.inr ky) hs hne
 ·exact m1 h1 (.inl kx) (.inl ky) hs hne
 ·exact m1 hc (.inl kx) (.inr ky) hs hne
 ·exact m1 h2 (.inl kx) (.inr ky) hs hne
 ·exact m1 hc (.inr kx) (.inl ky) hs hne
 ·exact m1 h2 (.inl kx) (.inl ky) hs hne
attribute [local go_sem ↓] ldFa_eq stFa_eq ldSw_eq stSw_eq
attribute [local go_sem] cells_FaV FaC_size zero_FaZ cells_CzV CzC_size
theorem compactJoins_law (c:Cz) (w:World) (hU:CzU w c):Calls Tryz.prog 3 #[CzV c] w fun e w'=>e = .returned (.bool true)/\Below w.heap.size w w':=by
 have b1:=below_new w (.cells (CzC c) 34);have X1:=CzBox_new w c;obtain ⟨wk,hwk⟩:∃ w1,w.alloc (.cells (CzC c) 34)=w1:=⟨_,rfl⟩;rw [hwk] at b1 X1;obtain ⟨G,hG0⟩:∃ G,w.heap.size=G:=⟨_,rfl⟩;rw [hG0] at X1;have HX:=hide X1;have HBK:=hide b1;have HUf:=hide (hU.f.b.below b1);have HUg:=hide (hU.g.b.below b1);have HUh:=hide (hU.h.b.below b1);clear hU b1 X1;go_enter Tryz.func3,Tryz.ntmps3;go_wp2_with fail;clear hwk hG0;refine (fixed13_any _).mono ?_;rintro e w1 ⟨rfl,b1⟩;have HB1:=hide b1;clear b1;have l0:=run_laFa (HX.out.below HB1.out).fF;go_wp2_with fail;clear l0;refine (cmpct_any 1 (by decide) c.f _ (HUf.out.below HB1.out)).mono ?_;rintro e v ⟨s,e1,rfl,Sx,bx,hx⟩;obtain ⟨gs,hg⟩:∃ g,v.heap.size=g:=⟨_,rfl⟩;obtain ⟨w3,hst,X3,B3,-⟩:=madeSx v s gs hg;have b33:=bx.trans (B3.mono bx.size)
 have HG0:Hid (wk.heap.size <= gs):=by rw [<- hg];exact (HB1.out.trans (bx.mono HB1.out.size)).size
 have HB1:=wTr HB1 b33;have C2:=hide X3;have C3:=hide (Sx.below B3);have Hs:=hide hx;clear Sx bx hx X3 B3 b33;have l0:=run_laFa (HX.out.below HB1.out).gF;go_wp2_with fail;clear l0 hst hg;refine (cmpct_any 1 (by decide) c.g _ (HUg.out.below HB1.out)).mono ?_;rintro e v ⟨t,e2,rfl,Sx,bx,hx⟩;obtain ⟨gt,hg⟩:∃ g,v.heap.size=g:=⟨_,rfl⟩;obtain ⟨w3,hst,X3,B3,-⟩:=madeSx v t gt hg;have b33:=bx.trans (B3.mono bx.size)
 have L4:Hid (gs < gt):=by have h1:=C2.out.lt;have h2:=bx.size;show _ < _;omega
 have C5:=hide (C2.out.below b33);clear C2;have C6:=hide (C3.out.below b33);clear C3;have HB7:=wTr HB1 b33;have C8:=hide X3;have C9:=hide (Sx.below B3);have Ht:=hide hx;clear Sx bx hx X3 B3 b33;have l0:=run_laFa (HX.out.below HB7.out).hF;go_wp2_with fail;clear l0 hst hg;refine (cmpct_any 1 (by decide) c.h _ (HUh.out.below HB7.out)).mono ?_;rintro e v ⟨r,e3,rfl,Sx,bx,hx⟩;obtain ⟨gr,hg⟩:∃ g,v.heap.size=g:=⟨_,rfl⟩;obtain ⟨w3,hst,X3,B3,-⟩:=madeSx v r gr hg;have b33:=bx.trans (B3.mono bx.size)
 have L10:Hid (gs < gr):=by have h1:=C5.out.lt;have h2:=bx.size;show _ < _;omega
 have L11:Hid (gt < gr):=by have h1:=C8.out.lt;have h2:=bx.size;show _ < _;omega
 have C12:=hide (C5.out.below b33);clear C5;have C13:=hide (C8.out.below b33);clear C8;have C14:=hide (C6.out.below b33);clear C6;have C15:=hide (C9.out.below b33);clear C9;have HB16:=wTr HB7 b33;have C17:=hide X3;have C18:=hide (Sx.below B3);have Hr:=hide hx;clear Sx bx hx X3 B3 b33;have l0:=run_laFa (HX.out.below HB16.out).fF;go_wp2_with fail;clear l0 hst hg;refine (refForm13_any c.f _ (HUf.out.below HB16.out).ok).mono ?_;rintro e v ⟨b1,rfl,hb,bx⟩;have C19:=hide (C12.out.below bx);clear C12;have C20:=hide (C13.out.below bx);clear C13;have C21:=hide (C17.out.below bx);clear C17;have C22:=hide (C14.out.below bx);clear C14;have C23:=hide (C15.out.below bx);clear C15;have C24:=hide (C18.out.below bx);clear C18;have HB25:=wTr HB16 bx;clear bx
 cases b1 with
 | false =>
  have HFf:Hid (¬ FormF c.f):=fun h=>(by have:=hb.out.2 h;cases this);clear hb
  obtain rfl:e1=1:=by
   rcases Hs.out with ⟨-,k,-⟩ | ⟨k,-⟩
   ·exact k
   ·exact absurd k HFf.out
  have l0:=run_laFa (HX.out.below HB25.out).fF;go_wp2_with fail;clear l0;refine (refForm13_any c.f _ (HUf.out.below HB25.out).ok).mono ?_;rintro e v ⟨b9,rfl,hb,bx⟩;have HE:=hide (HBK.out.trans ((HB25.out.trans (bx.mono HB25.out.size)).mono HBK.out.size))
  obtain rfl:b9=false:=by cases b9 with | false=>rfl | true=>exact absurd (hb.out.1 rfl) HFf.out
  clear hb bx;go_wp2_with fail;go_ret;exact ⟨rfl,HE.out⟩
 | true =>
 have HFf:Hid (FormF c.f):=hb.out.1 rfl;clear hb
 obtain ⟨rfl,hD⟩:e1=0/\StD c.f s:=by
  rcases Hs.out with ⟨k,-⟩ | ⟨-,k,q⟩
  ·exact absurd HFf.out k
  ·exact ⟨k,q⟩
 have HDs:=hide hD;clear hD Hs;have l0:=run_laFa (HX.out.below HB25.out).gF;go_wp2_with fail;clear l0;refine (refForm13_any c.g _ (HUg.out.below HB25.out).ok).mono ?_;rintro e v ⟨b2,rfl,hb,bx⟩;have C26:=hide (C19.out.below bx);clear C19;have C27:=hide (C20.out.below bx);clear C20;have C28:=hide (C21.out.below bx);clear C21;have C29:=hide (C22.out.below bx);clear C22;have C30:=hide (C23.out.below bx);clear C23;have C31:=hide (C24.out.below bx);clear C24;have HB32:=wTr HB25 bx;clear bx
 cases b2 with
 | false =>
  clear hb;have l0:=run_laFa (HX.out.below HB32.out).fF;go_wp2_with fail;clear l0;refine (refForm13_any c.f _ (HUf.out.below HB32.out).ok).mono ?_;rintro e v ⟨b9,rfl,hb,bx⟩;have HE:=hide (HBK.out.trans ((HB32.out.trans (bx.mono HB32.out.size)).mono HBK.out.size));obtain rfl:b9=true:=hb.out.2 HFf.out;clear hb bx;go_wp2_with fail;go_ret;exact ⟨rfl,HE.out⟩
 | true =>
 have HFg:Hid (FormF c.g):=hb.out.1 rfl;clear hb
 obtain ⟨rfl,hD⟩:e2=0/\StD c.g t:=by
  rcases Ht.out with ⟨k,-⟩ | ⟨-,k,q⟩
  ·exact absurd HFg.out k
  ·exact ⟨k,q⟩
 have HDt:=hide hD;clear hD Ht;have l0:=run_laFa (HX.out.below HB32.out).fF;have l1:=run_laFa (HX.out.below HB32.out).gF;go_wp2_with fail;clear l0 l1;refine (refClash13_any c.f c.g _ (HUf.out.below HB32.out).ok (HUg.out.below HB32.out).ok HFf.out HFg.out).mono ?_;rintro e v ⟨b3,rfl,hb,bx⟩;have C33:=hide (C26.out.below bx);clear C26;have C34:=hide (C27.out.below bx);clear C27;have C35:=hide (C28.out.below bx);clear C28;have C36:=hide (C29.out.below bx);clear C29;have C37:=hide (C30.out.below bx);clear C30;have C38:=hide (C31.out.below bx);clear C31;have HB39:=wTr HB32 bx;clear bx
 cases b3 with
 | true =>
  clear hb;have l0:=run_laFa (HX.out.below HB39.out).fF;go_wp2_with fail;clear l0;refine (refForm13_any c.f _ (HUf.out.below HB39.out).ok).mono ?_;rintro e v ⟨b9,rfl,hb,bx⟩;have HE:=hide (HBK.out.trans ((HB39.out.trans (bx.mono HB39.out.size)).mono HBK.out.size));obtain rfl:b9=true:=hb.out.2 HFf.out;clear hb bx;go_wp2_with fail;go_ret;exact ⟨rfl,HE.out⟩
 | false =>
 have HCfg:Hid (¬ K.Clash (c.f.es++c.g.es)):=fun h=>(by have:=hb.2 h;cases this);clear hb;have l0:=run_laFa (HX.out.below HB39.out).fF;have l1:=run_laFa (HX.out.below HB39.out).gF;go_wp2_with fail;clear l0 l1;refine (tjB_any 1 1 (by decide) c.f c.g _ (HUf.out.below HB39.out) (HUg.out.below HB39.out)).mono ?_;rintro e v ⟨fg,er,rfl,Sx,bx,hx⟩
 obtain ⟨rfl,hJ⟩:er=0/\JfD c.f c.g fg:=by
  rcases hx with ⟨q,-⟩ | ⟨-,q,-⟩ | ⟨-,-,q,k⟩
  ·exact absurd ⟨HFf.out,HFg.out⟩ q
  ·exact absurd q HCfg.out
  ·exact ⟨q,k⟩
 have HJ:=hide hJ;have HFfg:Hid (FormF fg):=jf_form Sx.ok HUf.out.ok.es.1 HUg.out.ok.es.1 HFf.out HFg.out hJ;obtain ⟨gfg,hg⟩:∃ g,v.heap.size=g:=⟨_,rfl⟩;obtain ⟨w3,hst,X3,B3,-⟩:=madeFx v fg gfg hg;have b33:=bx.trans (B3.mono bx.size)
 have L40:Hid (gs < gfg):=by have h1:=C33.out.lt;have h2:=bx.size;show _ < _;omega
 have L41:Hid (gt < gfg):=by have h1:=C34.out.lt;have h2:=bx.size;show _ < _;omega
 have L42:Hid (gr < gfg):=by have h1:=C35.out.lt;have h2:=bx.size;show _ < _;omega
 have C43:=hide (C33.out.below b33);clear C33;have C44:=hide (C34.out.below b33);clear C34;have C45:=hide (C35.out.below b33);clear C35;have C46:=hide (C36.out.below b33);clear C36;have C47:=hide (C37.out.below b33);clear C37;have C48:=hide (C38.out.below b33);clear C38;have HB49:=wTr HB39 b33;have C50:=hide X3;have C51:=hide (Sx.below B3);clear Sx bx hx hJ X3 B3 b33;have l0:=run_ldFa C50.out;go_wp2_with fail;clear l0 hst hg;refine (cmpct_any 2 (by decide) fg _ C51.out).mono ?_;rintro e v ⟨one,er,rfl,Sx,bx,hx⟩
 obtain ⟨rfl,hD⟩:er=0/\StD fg one:=by
  rcases hx with ⟨k,-⟩ | ⟨-,k,q⟩
  ·exact absurd HFfg.out k
  ·exact ⟨k,q⟩
 have HDo:=hide hD;obtain ⟨go,hg⟩:∃ g,v.heap.size=g:=⟨_,rfl⟩;obtain ⟨w3,hst,X3,B3,-⟩:=madeSx v one go hg;have b33:=bx.trans (B3.mono bx.size)
 have L52:Hid (gs < go):=by have h1:=C43.out.lt;have h2:=bx.size;show _ < _;omega
 have L53:Hid (gt < go):=by have h1:=C44.out.lt;have h2:=bx.size;show _ < _;omega
 have L54:Hid (gr < go):=by have h1:=C45.out.lt;have h2:=bx.size;show _ < _;omega
 have L55:Hid (gfg < go):=by have h1:=C50.out.lt;have h2:=bx.size;show _ < _;omega
 have C56:=hide (C43.out.below b33);clear C43;have C57:=hide (C44.out.below b33);clear C44;have C58:=hide (C45.out.below b33);clear C45;have C59:=hide (C50.out.below b33);clear C50;have C60:=hide (C46.out.below b33);clear C46;have C61:=hide (C47.out.below b33);clear C47;have C62:=hide (C48.out.below b33);clear C48;have C63:=hide (C51.out.below b33);clear C51;have HB64:=wTr HB49 b33;have C65:=hide X3;have C66:=hide (Sx.below B3);clear Sx bx hx hD X3 B3 b33;have HM:Hid (FmA (ab s)/\FmA (ab t)):=⟨(fm_iff C60.out.ok).1 (st_form C60.out.ok HUf.out.ok.es.1 HUf.out.ok.rs.len HFf.out HDs.out),(fm_iff C61.out.ok).1 (st_form C61.out.ok HUg.out.ok.es.1 HUg.out.ok.rs.len HFg.out HDt.out)⟩;have HJo:Hid (JnA (ab s) (ab t) (ab one)):=st_jn (HF_chk HUf.out.ok HFf.out) (HF_chk HUg.out.ok HFg.out) HCfg.out HJ.out HDs.out HDt.out HDo.out;have HNst:Hid (NoC (ab s) (ab t)):=st_nc HCfg.out HDs.out HDt.out
 have l0:=run_ldSw C56.out;have l1:=run_ldSw C57.out;go_wp2_with fail;clear l0 l1 hst hg;refine (swJoin_any 1 1 (by decide) s t _ C60.out C61.out).mono ?_;rintro e v ⟨two,er,rfl,Sx,bx,hx⟩
 obtain ⟨rfl,hj⟩:er=0/\JnA (ab s) (ab t) (ab two):=by
  rcases sj_cases C60.out.ok C61.out.ok hx with ⟨q,-⟩ | ⟨-,q,-⟩ | ⟨-,-,q,k⟩
  ·exact absurd ⟨(fm_iff C60.out.ok).2 (HM.out.1),(fm_iff C61.out.ok).2 (HM.out.2)⟩ q
  ·exact absurd q (HNst.out)
  ·exact ⟨q,k⟩
 have HJtwo:Hid (JnA (ab s) (ab t) (ab two)):=hj;obtain ⟨g2,hg⟩:∃ g,v.heap.size=g:=⟨_,rfl⟩;obtain ⟨w3,hst,X3,B3,-⟩:=madeSx v two g2 hg;have b33:=bx.trans (B3.mono bx.size)
 have L67:Hid (gs < g2):=by have h1:=C56.out.lt;have h2:=bx.size;show _ < _;omega
 have L68:Hid (gt < g2):=by have h1:=C57.out.lt;have h2:=bx.size;show _ < _;omega
 have L69:Hid (gr < g2):=by have h1:=C58.out.lt;have h2:=bx.size;show _ < _;omega
 have L70:Hid (gfg < g2):=by have h1:=C59.out.lt;have h2:=bx.size;show _ < _;omega
 have L71:Hid (go < g2):=by have h1:=C65.out.lt;have h2:=bx.size;show _ < _;omega
 have C72:=hide (C56.out.below b33);clear C56;have C73:=hide (C57.out.below b33);clear C57;have C74:=hide (C58.out.below b33);clear C58;have C75:=hide (C59.out.below b33);clear C59;have C76:=hide (C65.out.below b33);clear C65;have C77:=hide (C60.out.below b33);clear C60;have C78:=hide (C61.out.below b33);clear C61;have C79:=hide (C62.out.below b33);clear C62;have C80:=hide (C63.out.below b33);clear C63;have C81:=hide (C66.out.below b33);clear C66;have HB82:=wTr HB64 b33;have C83:=hide X3;have C84:=hide (Sx.below B3);clear Sx bx hx hj X3 B3 b33;have l0:=run_ldSw C73.out;have l1:=run_ldSw C72.out;go_wp2_with fail;clear l0 l1 hst hg;refine (swJoin_any 1 1 (by decide) t s _ C78.out C77.out).mono ?_;rintro e v ⟨rev,er,rfl,Sx,bx,hx⟩
 obtain ⟨rfl,hj⟩:er=0/\JnA (ab t) (ab s) (ab rev):=by
  rcases sj_cases C78.out.ok C77.out.ok hx with ⟨q,-⟩ | ⟨-,q,-⟩ | ⟨-,-,q,k⟩
  ·exact absurd ⟨(fm_iff C78.out.ok).2 (HM.out.2),(fm_iff C77.out.ok).2 (HM.out.1)⟩ q
  ·exact absurd q (HNst.out.comm)
  ·exact ⟨q,k⟩
 have HJrev:Hid (JnA (ab t) (ab s) (ab rev)):=hj;obtain ⟨gv,hg⟩:∃ g,v.heap.size=g:=⟨_,rfl⟩;obtain ⟨w3,hst,X3,B3,-⟩:=madeSx v rev gv hg;have b33:=bx.trans (B3.mono bx.size)
 have L85:Hid (gs < gv):=by have h1:=C72.out.lt;have h2:=bx.size;show _ < _;omega
 have L86:Hid (gt < gv):=by have h1:=C73.out.lt;have h2:=bx.size;show _ < _;omega
 have L87:Hid (gr < gv):=by have h1:=C74.out.lt;have h2:=bx.size;show _ < _;omega
 have L88:Hid (gfg < gv):=by have h1:=C75.out.lt;have h2:=bx.size;show _ < _;omega
 have L89:Hid (go < gv):=by have h1:=C76.out.lt;have h2:=bx.size;show _ < _;omega
 have L90:Hid (g2 < gv):=by have h1:=C83.out.lt;have h2:=bx.size;show _ < _;omega
 have C91:=hide (C72.out.below b33);clear C72;have C92:=hide (C73.out.below b33);clear C73;have C93:=hide (C74.out.below b33);clear C74;have C94:=hide (C75.out.below b33);clear C75;have C95:=hide (C76.out.below b33);clear C76;have C96:=hide (C83.out.below b33);clear C83;have C97:=hide (C77.out.below b33);clear C77;have C98:=hide (C78.out.below b33);clear C78;have C99:=hide (C79.out.below b33);clear C79;have C100:=hide (C80.out.below b33);clear C80;have C101:=hide (C81.out.below b33);clear C81;have C102:=hide (C84.out.below b33);clear C84;have HB103:=wTr HB82 b33;have C104:=hide X3;have C105:=hide (Sx.below B3);clear Sx bx hx hj X3 B3 b33
 have HE1:Hid (EqS one two/\EqS one rev):=by
  have e1:=HJo.out.uniq HJtwo.out;have e2:=HJo.out.uniq HJrev.out.comm;exact ⟨⟨congrArg Ab.L e1,congrArg Ab.P e1,congrArg Ab.R e1⟩,⟨congrArg Ab.L e2,congrArg Ab.P e2,congrArg Ab.R e2⟩⟩
 have l0:=run_ldSw C95.out;have l1:=run_ldSw C96.out;go_wp2_with fail;clear l0 l1 hst hg;refine (sameSwot4_any one two _ C101.out.ok C102.out.ok HE1.out.1).mono ?_;rintro e v ⟨rfl,bx⟩;have C106:=hide (C91.out.below bx);clear C91;have C107:=hide (C92.out.below bx);clear C92;have C108:=hide (C93.out.below bx);clear C93;have C109:=hide (C94.out.below bx);clear C94;have C110:=hide (C95.out.below bx);clear C95;have C111:=hide (C96.out.below bx);clear C96;have C112:=hide (C104.out.below bx);clear C104;have C113:=hide (C97.out.below bx);clear C97;have C114:=hide (C98.out.below bx);clear C98;have C115:=hide (C99.out.below bx);clear C99;have C116:=hide (C100.out.below bx);clear C100;have C117:=hide (C101.out.below bx);clear C101;have C118:=hide (C102.out.below bx);clear C102;have C119:=hide (C105.out.below bx);clear C105;have HB120:=wTr HB103 bx
 clear bx;have l0:=run_ldSw C110.out;have l1:=run_ldSw C112.out;go_wp2_with fail;clear l0 l1;refine (sameSwot4_any one rev _ C117.out.ok C119.out.ok HE1.out.2).mono ?_;rintro e v ⟨rfl,bx⟩;have C121:=hide (C106.out.below bx);clear C106;have C122:=hide (C107.out.below bx);clear C107;have C123:=hide (C108.out.below bx);clear C108;have C124:=hide (C109.out.below bx);clear C109;have C125:=hide (C110.out.below bx);clear C110;have C126:=hide (C111.out.below bx);clear C111;have C127:=hide (C112.out.below bx);clear C112;have C128:=hide (C113.out.below bx);clear C113;have C129:=hide (C114.out.below bx);clear C114;have C130:=hide (C115.out.below bx);clear C115;have C131:=hide (C116.out.below bx);clear C116;have C132:=hide (C117.out.below bx);clear C117;have C133:=hide (C118.out.below bx);clear C118;have C134:=hide (C119.out.below bx)
 clear C119;have HB135:=wTr HB120 bx;clear bx;have l0:=run_laFa (HX.out.below HB135.out).hF;go_wp2_with fail;clear l0;refine (refForm13_any c.h _ (HUh.out.below HB135.out).ok).mono ?_;rintro e v ⟨b4,rfl,hb,bx⟩;have C136:=hide (C121.out.below bx);clear C121;have C137:=hide (C122.out.below bx);clear C122;have C138:=hide (C123.out.below bx);clear C123;have C139:=hide (C124.out.below bx);clear C124;have C140:=hide (C125.out.below bx);clear C125;have C141:=hide (C126.out.below bx);clear C126;have C142:=hide (C127.out.below bx);clear C127;have C143:=hide (C128.out.below bx);clear C128;have C144:=hide (C129.out.below bx);clear C129;have C145:=hide (C130.out.below bx);clear C130;have C146:=hide (C131.out.below bx);clear C131;have C147:=hide (C132.out.below bx);clear C132;have C148:=hide (C133.out.below bx);clear C133;have C149:=hide (C134.out.below bx)
 clear C134;have HB150:=wTr HB135 bx;clear bx
 cases b4 with
 | false =>
  clear hb;have HE:=wTr HBK HB150.out;go_wp2_with fail;go_ret;exact ⟨rfl,HE.out⟩
 | true =>
 have HFh:Hid (FormF c.h):=hb.out.1 rfl;clear hb
 obtain ⟨rfl,hD⟩:e3=0/\StD c.h r:=by
  rcases Hr.out with ⟨k,-⟩ | ⟨-,k,q⟩
  ·exact absurd HFh.out k
  ·exact ⟨k,q⟩
 have HDr:=hide hD;clear hD Hr;have l0:=run_laFa (HX.out.below HB150.out).fF;have l1:=run_laFa (HX.out.below HB150.out).hF;go_wp2_with fail;clear l0 l1;refine (refClash13_any c.f c.h _ (HUf.out.below HB150.out).ok (HUh.out.below HB150.out).ok HFf.out HFh.out).mono ?_;rintro e v ⟨b5,rfl,hb,bx⟩;have C151:=hide (C136.out.below bx);clear C136;have C152:=hide (C137.out.below bx);clear C137;have C153:=hide (C138.out.below bx);clear C138;have C154:=hide (C139.out.below bx);clear C139;have C155:=hide (C140.out.below bx);clear C140;have C156:=hide (C141.out.below bx);clear C141;have C157:=hide (C142.out.below bx);clear C142;have C158:=hide (C143.out.below bx);clear C143;have C159:=hide (C144.out.below bx);clear C144;have C160:=hide (C145.out.below bx);clear C145;have C161:=hide (C146.out.below bx);clear C146;have C162:=hide (C147.out.below bx)
 clear C147;have C163:=hide (C148.out.below bx);clear C148;have C164:=hide (C149.out.below bx);clear C149;have HB165:=wTr HB150 bx;clear bx
 cases b5 with
 | true =>
  clear hb;have HE:=wTr HBK HB165.out;go_wp2_with fail;go_ret;exact ⟨rfl,HE.out⟩
 | false =>
 have HCfh:Hid (¬ K.Clash (c.f.es++c.h.es)):=fun h=>(by have:=hb.2 h;cases this);clear hb;have l0:=run_laFa (HX.out.below HB165.out).gF;have l1:=run_laFa (HX.out.below HB165.out).hF;go_wp2_with fail;clear l0 l1;refine (refClash13_any c.g c.h _ (HUg.out.below HB165.out).ok (HUh.out.below HB165.out).ok HFg.out HFh.out).mono ?_;rintro e v ⟨b6,rfl,hb,bx⟩;have C166:=hide (C151.out.below bx);clear C151;have C167:=hide (C152.out.below bx);clear C152;have C168:=hide (C153.out.below bx);clear C153;have C169:=hide (C154.out.below bx);clear C154;have C170:=hide (C155.out.below bx);clear C155;have C171:=hide (C156.out.below bx);clear C156;have C172:=hide (C157.out.below bx);clear C157;have C173:=hide (C158.out.below bx);clear C158;have C174:=hide (C159.out.below bx);clear C159;have C175:=hide (C160.out.below bx);clear C160;have C176:=hide (C161.out.below bx)
 clear C161;have C177:=hide (C162.out.below bx);clear C162;have C178:=hide (C163.out.below bx);clear C163;have C179:=hide (C164.out.below bx);clear C164;have HB180:=wTr HB165 bx;clear bx
 cases b6 with
 | true =>
  clear hb;have HE:=wTr HBK HB180.out;go_wp2_with fail;go_ret;exact ⟨rfl,HE.out⟩
 | false =>
 have HCgh:Hid (¬ K.Clash (c.g.es++c.h.es)):=fun h=>(by have:=hb.2 h;cases this);clear hb;have HMr:Hid (FmA (ab r)):=(fm_iff C175.out.ok).1 (st_form C175.out.ok HUh.out.ok.es.1 HUh.out.ok.rs.len HFh.out HDr.out);have HN3:Hid (NoC (ab t) (ab r)/\NoC (ab s) (ab r)):=⟨st_nc HCgh.out HDt.out HDr.out,st_nc HCfh.out HDs.out HDr.out⟩;have HCa:Hid (¬ K.Clash (c.h.es++fg.es)):=cl_un HJ.out HCfh.out HCgh.out HCfg.out;have l0:=run_laFa (HX.out.below HB180.out).hF;have l1:=run_ldFa C169.out;go_wp2_with fail;clear l0 l1;refine (tjB_any 1 2 (by decide) c.h fg _ (HUh.out.below HB180.out) C176.out).mono ?_;rintro e v ⟨all,er,rfl,Sx,bx,hx⟩
 obtain ⟨rfl,hJ⟩:er=0/\JfD c.h fg all:=by
  rcases hx with ⟨q,-⟩ | ⟨-,q,-⟩ | ⟨-,-,q,k⟩
  ·exact absurd ⟨HFh.out,HFfg.out⟩ q
  ·exact absurd q HCa.out
  ·exact ⟨q,k⟩
 have HJa:=hide hJ;have HFa:Hid (FormF all):=jf_form Sx.ok HUh.out.ok.es.1 (lenL C176.out.ok) HFh.out HFfg.out hJ;obtain ⟨gall,hg⟩:∃ g,v.heap.size=g:=⟨_,rfl⟩;obtain ⟨w3,hst,X3,B3,-⟩:=madeFx v all gall hg;have b33:=bx.trans (B3.mono bx.size)
 have L181:Hid (gs < gall):=by have h1:=C166.out.lt;have h2:=bx.size;show _ < _;omega
 have L182:Hid (gt < gall):=by have h1:=C167.out.lt;have h2:=bx.size;show _ < _;omega
 have L183:Hid (gr < gall):=by have h1:=C168.out.lt;have h2:=bx.size;show _ < _;omega
 have L184:Hid (gfg < gall):=by have h1:=C169.out.lt;have h2:=bx.size;show _ < _;omega
 have L185:Hid (go < gall):=by have h1:=C170.out.lt;have h2:=bx.size;show _ < _;omega
 have L186:Hid (g2 < gall):=by have h1:=C171.out.lt;have h2:=bx.size;show _ < _;omega
 have L187:Hid (gv < gall):=by have h1:=C172.out.lt;have h2:=bx.size;show _ < _;omega
 have C188:=hide (C166.out.below b33);clear C166;have C189:=hide (C167.out.below b33);clear C167;have C190:=hide (C168.out.below b33);clear C168;have C191:=hide (C169.out.below b33);clear C169;have C192:=hide (C170.out.below b33);clear C170;have C193:=hide (C171.out.below b33);clear C171;have C194:=hide (C172.out.below b33);clear C172;have C195:=hide (C173.out.below b33);clear C173;have C196:=hide (C174.out.below b33);clear C174;have C197:=hide (C175.out.below b33);clear C175;have C198:=hide (C176.out.below b33);clear C176;have C199:=hide (C177.out.below b33);clear C177;have C200:=hide (C178.out.below b33);clear C178;have C201:=hide (C179.out.below b33);clear C179;have HB202:=wTr HB180 b33;have C203:=hide X3;have C204:=hide (Sx.below B3);clear Sx bx hx hJ X3 B3 b33;have l0:=run_ldFa C203.out;go_wp2_with fail;clear l0 hst hg
 refine (cmpct_any 3 (by decide) all _ C204.out).mono ?_;rintro e v ⟨one2,er,rfl,Sx,bx,hx⟩
 obtain ⟨rfl,hD⟩:er=0/\StD all one2:=by
  rcases hx with ⟨k,-⟩ | ⟨-,k,q⟩
  ·exact absurd HFa.out k
  ·exact ⟨k,q⟩
 have HJo2:Hid (JnA (ab r) (ab one) (ab one2)):=st_jn (HF_chk HUh.out.ok HFh.out) (HF_chkB C198.out HFfg.out) HCa.out HJa.out HDr.out HDo.out hD;clear hx hD;have C205:=hide (C188.out.below bx);clear C188;have C206:=hide (C189.out.below bx);clear C189;have C207:=hide (C190.out.below bx);clear C190;have C208:=hide (C191.out.below bx);clear C191;have C209:=hide (C192.out.below bx);clear C192;have C210:=hide (C193.out.below bx);clear C193;have C211:=hide (C194.out.below bx);clear C194;have C212:=hide (C203.out.below bx);clear C203;have C213:=hide (C195.out.below bx);clear C195;have C214:=hide (C196.out.below bx);clear C196;have C215:=hide (C197.out.below bx);clear C197;have C216:=hide (C198.out.below bx);clear C198;have C217:=hide (C199.out.below bx);clear C199;have C218:=hide (C200.out.below bx);clear C200;have C219:=hide (C201.out.below bx)
 clear C201;have C220:=hide (C204.out.below bx);clear C204;have HB221:=wTr HB202 bx;have A:=C209.out;have S0:=Sx;obtain ⟨w3,hw3⟩:∃ w3,v.setRow go (FaC (mkF one2))=w3:=⟨_,rfl⟩;have hst:=run_stSw (m':=mkF one2) A;rw [hw3] at hst
 have Hoth:Hid (∀ b,b≠go -> w3.heap[b]? = v.heap[b]?):=fun b hb=>by rw [<- hw3];exact setRow_other _ _ _ _ hb
 have C222:Hid (SwBox w3 gs (mkF s)):=(Hoth.out _ (by have q0:=L4.out;have q1:=L10.out;have q2:=L11.out;have q3:=L40.out;have q4:=L41.out;have q5:=L42.out;have q6:=L52.out;have q7:=L53.out;have q8:=L54.out;have q9:=L55.out;have q10:=L67.out;have q11:=L68.out;have q12:=L69.out;have q13:=L70.out;have q14:=L71.out;have q15:=L85.out;have q16:=L86.out;have q17:=L87.out;have q18:=L88.out;have q19:=L89.out;have q20:=L90.out;have q21:=L181.out;have q22:=L182.out;have q23:=L183.out;have q24:=L184.out;have q25:=L185.out;have q26:=L186.out;have q27:=L187.out;omega)).trans C205.out;clear C205;have C223:Hid (SwBox w3 gt (mkF t)):=(Hoth.out _ (by have q0:=L4.out;have q1:=L10.out;have q2:=L11.out;have q3:=L40.out;have q4:=L41.out;have q5:=L42.out;have q6:=L52.out;have q7:=L53.out;have q8:=L54.out;have q9:=L55.out;have q10:=L67.out;have q11:=L68.out;have q12:=L69.out;have q13:=L70.out;have q14:=L71.out;have q15:=L85.out;have q16:=L86.out;have q17:=L87.out;have q18:=L88.out;have q19:=L89.out;have q20:=L90.out;have q21:=L181.out;have q22:=L182.out;have q23:=L183.out;have q24:=L184.out;have q25:=L185.out;have q26:=L186.out;have q27:=L187.out;omega)).trans C206.out
 clear C206;have C224:Hid (SwBox w3 gr (mkF r)):=(Hoth.out _ (by have q0:=L4.out;have q1:=L10.out;have q2:=L11.out;have q3:=L40.out;have q4:=L41.out;have q5:=L42.out;have q6:=L52.out;have q7:=L53.out;have q8:=L54.out;have q9:=L55.out;have q10:=L67.out;have q11:=L68.out;have q12:=L69.out;have q13:=L70.out;have q14:=L71.out;have q15:=L85.out;have q16:=L86.out;have q17:=L87.out;have q18:=L88.out;have q19:=L89.out;have q20:=L90.out;have q21:=L181.out;have q22:=L182.out;have q23:=L183.out;have q24:=L184.out;have q25:=L185.out;have q26:=L186.out;have q27:=L187.out;omega)).trans C207.out;clear C207;have C225:Hid (FaBox w3 gfg (mkF fg)):=(Hoth.out _ (by have q0:=L4.out;have q1:=L10.out;have q2:=L11.out;have q3:=L40.out;have q4:=L41.out;have q5:=L42.out;have q6:=L52.out;have q7:=L53.out;have q8:=L54.out;have q9:=L55.out;have q10:=L67.out;have q11:=L68.out;have q12:=L69.out;have q13:=L70.out;have q14:=L71.out;have q15:=L85.out;have q16:=L86.out;have q17:=L87.out;have q18:=L88.out;have q19:=L89.out;have q20:=L90.out;have q21:=L181.out;have q22:=L182.out;have q23:=L183.out;have q24:=L184.out;have q25:=L185.out;have q26:=L186.out;have q27:=L187.out;omega)).trans C208.out
 clear C208
 have C226:Hid (SwBox w3 go (mkF one2)):=by rw [<- hw3];exact A.setRow
 clear C209;have C227:Hid (SwBox w3 g2 (mkF two)):=(Hoth.out _ (by have q0:=L4.out;have q1:=L10.out;have q2:=L11.out;have q3:=L40.out;have q4:=L41.out;have q5:=L42.out;have q6:=L52.out;have q7:=L53.out;have q8:=L54.out;have q9:=L55.out;have q10:=L67.out;have q11:=L68.out;have q12:=L69.out;have q13:=L70.out;have q14:=L71.out;have q15:=L85.out;have q16:=L86.out;have q17:=L87.out;have q18:=L88.out;have q19:=L89.out;have q20:=L90.out;have q21:=L181.out;have q22:=L182.out;have q23:=L183.out;have q24:=L184.out;have q25:=L185.out;have q26:=L186.out;have q27:=L187.out;omega)).trans C210.out;clear C210;have C228:Hid (SwBox w3 gv (mkF rev)):=(Hoth.out _ (by have q0:=L4.out;have q1:=L10.out;have q2:=L11.out;have q3:=L40.out;have q4:=L41.out;have q5:=L42.out;have q6:=L52.out;have q7:=L53.out;have q8:=L54.out;have q9:=L55.out;have q10:=L67.out;have q11:=L68.out;have q12:=L69.out;have q13:=L70.out;have q14:=L71.out;have q15:=L85.out;have q16:=L86.out;have q17:=L87.out;have q18:=L88.out;have q19:=L89.out;have q20:=L90.out;have q21:=L181.out;have q22:=L182.out;have q23:=L183.out;have q24:=L184.out;have q25:=L185.out;have q26:=L186.out;have q27:=L187.out;omega)).trans C211.out
 clear C211;have C229:Hid (FaBox w3 gall (mkF all)):=(Hoth.out _ (by have q0:=L4.out;have q1:=L10.out;have q2:=L11.out;have q3:=L40.out;have q4:=L41.out;have q5:=L42.out;have q6:=L52.out;have q7:=L53.out;have q8:=L54.out;have q9:=L55.out;have q10:=L67.out;have q11:=L68.out;have q12:=L69.out;have q13:=L70.out;have q14:=L71.out;have q15:=L85.out;have q16:=L86.out;have q17:=L87.out;have q18:=L88.out;have q19:=L89.out;have q20:=L90.out;have q21:=L181.out;have q22:=L182.out;have q23:=L183.out;have q24:=L184.out;have q25:=L185.out;have q26:=L186.out;have q27:=L187.out;omega)).trans C212.out;clear C212
 have C230:Hid (SwB 1 w3 s):=by rw [<- hw3];exact C213.out.offW A _
 clear C213
 have C231:Hid (SwB 1 w3 t):=by rw [<- hw3];exact C214.out.offW A _
 clear C214
 have C232:Hid (SwB 1 w3 r):=by rw [<- hw3];exact C215.out.offW A _
 clear C215
 have C233:Hid (SwB 2 w3 fg):=by rw [<- hw3];exact C216.out.offW A _
 clear C216
 have C234:Hid (SwB 3 w3 one2):=by rw [<- hw3];exact S0.offW A _
 clear C217
 have C235:Hid (SwB 2 w3 two):=by rw [<- hw3];exact C218.out.offW A _
 clear C218
 have C236:Hid (SwB 2 w3 rev):=by rw [<- hw3];exact C219.out.offW A _
 clear C219
 have C237:Hid (SwB 3 w3 all):=by rw [<- hw3];exact C220.out.offW A _
 clear C220
 have HB238:Hid (Below wk.heap.size wk w3):=by rw [<- hw3];exact below_setRow HB221.out (by have q:=HG0.out;have q0:=L4.out;have q1:=L10.out;have q2:=L11.out;have q3:=L40.out;have q4:=L41.out;have q5:=L42.out;have q6:=L52.out;have q7:=L53.out;have q8:=L54.out;have q9:=L55.out;have q10:=L67.out;have q11:=L68.out;have q12:=L69.out;have q13:=L70.out;have q14:=L71.out;have q15:=L85.out;have q16:=L86.out;have q17:=L87.out;have q18:=L88.out;have q19:=L89.out;have q20:=L90.out;have q21:=L181.out;have q22:=L182.out;have q23:=L183.out;have q24:=L184.out;have q25:=L185.out;have q26:=L186.out;have q27:=L187.out;omega)
 clear Sx bx S0 A hw3 Hoth;have HMtwo:Hid (FmA (ab two)/\NoC (ab two) (ab r)):=⟨HJtwo.out.form HM.out.1 HM.out.2,HJtwo.out.noC HMr.out HN3.out.2 HN3.out.1⟩;have l0:=run_ldSw C227.out;have l1:=run_ldSw C224.out;go_wp2_with fail;clear l0 l1 hst;refine (swJoin_any 2 1 (by decide) two r _ C235.out C232.out).mono ?_;rintro e v ⟨two2,er,rfl,Sx,bx,hx⟩
 obtain ⟨rfl,hj⟩:er=0/\JnA (ab two) (ab r) (ab two2):=by
  rcases sj_cases C235.out.ok C232.out.ok hx with ⟨q,-⟩ | ⟨-,q,-⟩ | ⟨-,-,q,k⟩
  ·exact absurd ⟨(fm_iff C235.out.ok).2 (HMtwo.out.1),(fm_iff C232.out.ok).2 (HMr.out)⟩ q
  ·exact absurd q (HMtwo.out.2)
  ·exact ⟨q,k⟩
 have HJtwo2:Hid (JnA (ab two) (ab r) (ab two2)):=hj;clear hx hj;have C239:=hide (C222.out.below bx);clear C222;have C240:=hide (C223.out.below bx);clear C223;have C241:=hide (C224.out.below bx);clear C224;have C242:=hide (C225.out.below bx);clear C225;have C243:=hide (C226.out.below bx);clear C226;have C244:=hide (C227.out.below bx);clear C227;have C245:=hide (C228.out.below bx);clear C228;have C246:=hide (C229.out.below bx);clear C229;have C247:=hide (C230.out.below bx);clear C230;have C248:=hide (C231.out.below bx);clear C231;have C249:=hide (C232.out.below bx);clear C232;have C250:=hide (C233.out.below bx);clear C233;have C251:=hide (C234.out.below bx);clear C234;have C252:=hide (C235.out.below bx);clear C235;have C253:=hide (C236.out.below bx);clear C236;have C254:=hide (C237.out.below bx);clear C237;have HB255:=wTr HB238 bx
 have A:=C244.out;have S0:=Sx;obtain ⟨w3,hw3⟩:∃ w3,v.setRow g2 (FaC (mkF two2))=w3:=⟨_,rfl⟩;have hst:=run_stSw (m':=mkF two2) A;rw [hw3] at hst
 have Hoth:Hid (∀ b,b≠g2 -> w3.heap[b]? = v.heap[b]?):=fun b hb=>by rw [<- hw3];exact setRow_other _ _ _ _ hb
 have C256:Hid (SwBox w3 gs (mkF s)):=(Hoth.out _ (by have q0:=L4.out;have q1:=L10.out;have q2:=L11.out;have q3:=L40.out;have q4:=L41.out;have q5:=L42.out;have q6:=L52.out;have q7:=L53.out;have q8:=L54.out;have q9:=L55.out;have q10:=L67.out;have q11:=L68.out;have q12:=L69.out;have q13:=L70.out;have q14:=L71.out;have q15:=L85.out;have q16:=L86.out;have q17:=L87.out;have q18:=L88.out;have q19:=L89.out;have q20:=L90.out;have q21:=L181.out;have q22:=L182.out;have q23:=L183.out;have q24:=L184.out;have q25:=L185.out;have q26:=L186.out;have q27:=L187.out;omega)).trans C239.out;clear C239;have C257:Hid (SwBox w3 gt (mkF t)):=(Hoth.out _ (by have q0:=L4.out;have q1:=L10.out;have q2:=L11.out;have q3:=L40.out;have q4:=L41.out;have q5:=L42.out;have q6:=L52.out;have q7:=L53.out;have q8:=L54.out;have q9:=L55.out;have q10:=L67.out;have q11:=L68.out;have q12:=L69.out;have q13:=L70.out;have q14:=L71.out;have q15:=L85.out;have q16:=L86.out;have q17:=L87.out;have q18:=L88.out;have q19:=L89.out;have q20:=L90.out;have q21:=L181.out;have q22:=L182.out;have q23:=L183.out;have q24:=L184.out;have q25:=L185.out;have q26:=L186.out;have q27:=L187.out;omega)).trans C240.out
 clear C240;have C258:Hid (SwBox w3 gr (mkF r)):=(Hoth.out _ (by have q0:=L4.out;have q1:=L10.out;have q2:=L11.out;have q3:=L40.out;have q4:=L41.out;have q5:=L42.out;have q6:=L52.out;have q7:=L53.out;have q8:=L54.out;have q9:=L55.out;have q10:=L67.out;have q11:=L68.out;have q12:=L69.out;have q13:=L70.out;have q14:=L71.out;have q15:=L85.out;have q16:=L86.out;have q17:=L87.out;have q18:=L88.out;have q19:=L89.out;have q20:=L90.out;have q21:=L181.out;have q22:=L182.out;have q23:=L183.out;have q24:=L184.out;have q25:=L185.out;have q26:=L186.out;have q27:=L187.out;omega)).trans C241.out;clear C241;have C259:Hid (FaBox w3 gfg (mkF fg)):=(Hoth.out _ (by have q0:=L4.out;have q1:=L10.out;have q2:=L11.out;have q3:=L40.out;have q4:=L41.out;have q5:=L42.out;have q6:=L52.out;have q7:=L53.out;have q8:=L54.out;have q9:=L55.out;have q10:=L67.out;have q11:=L68.out;have q12:=L69.out;have q13:=L70.out;have q14:=L71.out;have q15:=L85.out;have q16:=L86.out;have q17:=L87.out;have q18:=L88.out;have q19:=L89.out;have q20:=L90.out;have q21:=L181.out;have q22:=L182.out;have q23:=L183.out;have q24:=L184.out;have q25:=L185.out;have q26:=L186.out;have q27:=L187.out;omega)).trans C242.out
 clear C242;have C260:Hid (SwBox w3 go (mkF one2)):=(Hoth.out _ (by have q0:=L4.out;have q1:=L10.out;have q2:=L11.out;have q3:=L40.out;have q4:=L41.out;have q5:=L42.out;have q6:=L52.out;have q7:=L53.out;have q8:=L54.out;have q9:=L55.out;have q10:=L67.out;have q11:=L68.out;have q12:=L69.out;have q13:=L70.out;have q14:=L71.out;have q15:=L85.out;have q16:=L86.out;have q17:=L87.out;have q18:=L88.out;have q19:=L89.out;have q20:=L90.out;have q21:=L181.out;have q22:=L182.out;have q23:=L183.out;have q24:=L184.out;have q25:=L185.out;have q26:=L186.out;have q27:=L187.out;omega)).trans C243.out;clear C243
 have C261:Hid (SwBox w3 g2 (mkF two2)):=by rw [<- hw3];exact A.setRow
 clear C244;have C262:Hid (SwBox w3 gv (mkF rev)):=(Hoth.out _ (by have q0:=L4.out;have q1:=L10.out;have q2:=L11.out;have q3:=L40.out;have q4:=L41.out;have q5:=L42.out;have q6:=L52.out;have q7:=L53.out;have q8:=L54.out;have q9:=L55.out;have q10:=L67.out;have q11:=L68.out;have q12:=L69.out;have q13:=L70.out;have q14:=L71.out;have q15:=L85.out;have q16:=L86.out;have q17:=L87.out;have q18:=L88.out;have q19:=L89.out;have q20:=L90.out;have q21:=L181.out;have q22:=L182.out;have q23:=L183.out;have q24:=L184.out;have q25:=L185.out;have q26:=L186.out;have q27:=L187.out;omega)).trans C245.out;clear C245;have C263:Hid (FaBox w3 gall (mkF all)):=(Hoth.out _ (by have q0:=L4.out;have q1:=L10.out;have q2:=L11.out;have q3:=L40.out;have q4:=L41.out;have q5:=L42.out;have q6:=L52.out;have q7:=L53.out;have q8:=L54.out;have q9:=L55.out;have q10:=L67.out;have q11:=L68.out;have q12:=L69.out;have q13:=L70.out;have q14:=L71.out;have q15:=L85.out;have q16:=L86.out;have q17:=L87.out;have q18:=L88.out;have q19:=L89.out;have q20:=L90.out;have q21:=L181.out;have q22:=L182.out;have q23:=L183.out;have q24:=L184.out;have q25:=L185.out;have q26:=L186.out;have q27:=L187.out;omega)).trans C246.out
 clear C246
 have C264:Hid (SwB 1 w3 s):=by rw [<- hw3];exact C247.out.offW A _
 clear C247
 have C265:Hid (SwB 1 w3 t):=by rw [<- hw3];exact C248.out.offW A _
 clear C248
 have C266:Hid (SwB 1 w3 r):=by rw [<- hw3];exact C249.out.offW A _
 clear C249
 have C267:Hid (SwB 2 w3 fg):=by rw [<- hw3];exact C250.out.offW A _
 clear C250
 have C268:Hid (SwB 3 w3 one2):=by rw [<- hw3];exact C251.out.offW A _
 clear C251
 have C269:Hid (SwB 3 w3 two2):=by rw [<- hw3];exact S0.offW A _
 clear C252
 have C270:Hid (SwB 2 w3 rev):=by rw [<- hw3];exact C253.out.offW A _
 clear C253
 have C271:Hid (SwB 3 w3 all):=by rw [<- hw3];exact C254.out.offW A _
 clear C254
 have HB272:Hid (Below wk.heap.size wk w3):=by rw [<- hw3];exact below_setRow HB255.out (by have q:=HG0.out;have q0:=L4.out;have q1:=L10.out;have q2:=L11.out;have q3:=L40.out;have q4:=L41.out;have q5:=L42.out;have q6:=L52.out;have q7:=L53.out;have q8:=L54.out;have q9:=L55.out;have q10:=L67.out;have q11:=L68.out;have q12:=L69.out;have q13:=L70.out;have q14:=L71.out;have q15:=L85.out;have q16:=L86.out;have q17:=L87.out;have q18:=L88.out;have q19:=L89.out;have q20:=L90.out;have q21:=L181.out;have q22:=L182.out;have q23:=L183.out;have q24:=L184.out;have q25:=L185.out;have q26:=L186.out;have q27:=L187.out;omega)
 clear Sx bx S0 A hw3 Hoth;have l0:=run_ldSw C257.out;have l1:=run_ldSw C258.out;go_wp2_with fail;clear l0 l1 hst;refine (swJoin_any 1 1 (by decide) t r _ C265.out C266.out).mono ?_;rintro e v ⟨gh,er,rfl,Sx,bx,hx⟩
 obtain ⟨rfl,hj⟩:er=0/\JnA (ab t) (ab r) (ab gh):=by
  rcases sj_cases C265.out.ok C266.out.ok hx with ⟨q,-⟩ | ⟨-,q,-⟩ | ⟨-,-,q,k⟩
  ·exact absurd ⟨(fm_iff C265.out.ok).2 (HM.out.2),(fm_iff C266.out.ok).2 (HMr.out)⟩ q
  ·exact absurd q (HN3.out.1)
  ·exact ⟨q,k⟩
 have HJgh:Hid (JnA (ab t) (ab r) (ab gh)):=hj;obtain ⟨ggh,hg⟩:∃ g,v.heap.size=g:=⟨_,rfl⟩;obtain ⟨w3,hst,X3,B3,-⟩:=madeSx v gh ggh hg;have b33:=bx.trans (B3.mono bx.size)
 have L273:Hid (gs < ggh):=by have h1:=C256.out.lt;have h2:=bx.size;show _ < _;omega
 have L274:Hid (gt < ggh):=by have h1:=C257.out.lt;have h2:=bx.size;show _ < _;omega
 have L275:Hid (gr < ggh):=by have h1:=C258.out.lt;have h2:=bx.size;show _ < _;omega
 have L276:Hid (gfg < ggh):=by have h1:=C259.out.lt;have h2:=bx.size;show _ < _;omega
 have L277:Hid (go < ggh):=by have h1:=C260.out.lt;have h2:=bx.size;show _ < _;omega
 have L278:Hid (g2 < ggh):=by have h1:=C261.out.lt;have h2:=bx.size;show _ < _;omega
 have L279:Hid (gv < ggh):=by have h1:=C262.out.lt;have h2:=bx.size;show _ < _;omega
 have L280:Hid (gall < ggh):=by have h1:=C263.out.lt;have h2:=bx.size;show _ < _;omega
 have C281:=hide (C256.out.below b33);clear C256;have C282:=hide (C257.out.below b33);clear C257;have C283:=hide (C258.out.below b33);clear C258;have C284:=hide (C259.out.below b33);clear C259;have C285:=hide (C260.out.below b33);clear C260;have C286:=hide (C261.out.below b33);clear C261;have C287:=hide (C262.out.below b33);clear C262;have C288:=hide (C263.out.below b33);clear C263;have C289:=hide (C264.out.below b33);clear C264;have C290:=hide (C265.out.below b33);clear C265;have C291:=hide (C266.out.below b33);clear C266;have C292:=hide (C267.out.below b33);clear C267;have C293:=hide (C268.out.below b33);clear C268;have C294:=hide (C269.out.below b33);clear C269;have C295:=hide (C270.out.below b33);clear C270;have C296:=hide (C271.out.below b33);clear C271;have HB297:=wTr HB272 b33;have C298:=hide X3;have C299:=hide (Sx.below B3)
 clear Sx bx hx hj X3 B3 b33;have HMgh:Hid (FmA (ab gh)/\NoC (ab s) (ab gh)):=⟨HJgh.out.form HM.out.2 HMr.out,(HJgh.out.noC HM.out.1 HNst.out.comm HN3.out.2.comm).comm⟩;have l0:=run_ldSw C281.out;have l1:=run_ldSw C298.out;go_wp2_with fail;clear l0 l1 hst hg;refine (swJoin_any 1 2 (by decide) s gh _ C289.out C299.out).mono ?_;rintro e v ⟨rev2,er,rfl,Sx,bx,hx⟩
 obtain ⟨rfl,hj⟩:er=0/\JnA (ab s) (ab gh) (ab rev2):=by
  rcases sj_cases C289.out.ok C299.out.ok hx with ⟨q,-⟩ | ⟨-,q,-⟩ | ⟨-,-,q,k⟩
  ·exact absurd ⟨(fm_iff C289.out.ok).2 (HM.out.1),(fm_iff C299.out.ok).2 (HMgh.out.1)⟩ q
  ·exact absurd q (HMgh.out.2)
  ·exact ⟨q,k⟩
 have HJrev2:Hid (JnA (ab s) (ab gh) (ab rev2)):=hj;clear hx hj;have C300:=hide (C281.out.below bx);clear C281;have C301:=hide (C282.out.below bx);clear C282;have C302:=hide (C283.out.below bx);clear C283;have C303:=hide (C284.out.below bx);clear C284;have C304:=hide (C285.out.below bx);clear C285;have C305:=hide (C286.out.below bx);clear C286;have C306:=hide (C287.out.below bx);clear C287;have C307:=hide (C288.out.below bx);clear C288;have C308:=hide (C298.out.below bx);clear C298;have C309:=hide (C289.out.below bx);clear C289;have C310:=hide (C290.out.below bx);clear C290;have C311:=hide (C291.out.below bx);clear C291;have C312:=hide (C292.out.below bx);clear C292;have C313:=hide (C293.out.below bx);clear C293;have C314:=hide (C294.out.below bx);clear C294;have C315:=hide (C295.out.below bx);clear C295;have C316:=hide (C296.out.below bx)
 clear C296;have C317:=hide (C299.out.below bx);clear C299;have HB318:=wTr HB297 bx;have A:=C306.out;have S0:=Sx;obtain ⟨w3,hw3⟩:∃ w3,v.setRow gv (FaC (mkF rev2))=w3:=⟨_,rfl⟩;have hst:=run_stSw (m':=mkF rev2) A;rw [hw3] at hst
 have Hoth:Hid (∀ b,b≠gv -> w3.heap[b]? = v.heap[b]?):=fun b hb=>by rw [<- hw3];exact setRow_other _ _ _ _ hb
 have C319:Hid (SwBox w3 gs (mkF s)):=(Hoth.out _ (by have q0:=L4.out;have q1:=L10.out;have q2:=L11.out;have q3:=L40.out;have q4:=L41.out;have q5:=L42.out;have q6:=L52.out;have q7:=L53.out;have q8:=L54.out;have q9:=L55.out;have q10:=L67.out;have q11:=L68.out;have q12:=L69.out;have q13:=L70.out;have q14:=L71.out;have q15:=L85.out;have q16:=L86.out;have q17:=L87.out;have q18:=L88.out;have q19:=L89.out;have q20:=L90.out;have q21:=L181.out;have q22:=L182.out;have q23:=L183.out;have q24:=L184.out;have q25:=L185.out;have q26:=L186.out;have q27:=L187.out;have q28:=L273.out;have q29:=L274.out;have q30:=L275.out;have q31:=L276.out;have q32:=L277.out;have q33:=L278.out;have q34:=L279.out;have q35:=L280.out;omega)).trans C300.out;clear C300;have C320:Hid (SwBox w3 gt (mkF t)):=(Hoth.out _ (by have q0:=L4.out;have q1:=L10.out;have q2:=L11.out;have q3:=L40.out;have q4:=L41.out;have q5:=L42.out;have q6:=L52.out;have q7:=L53.out;have q8:=L54.out;have q9:=L55.out;have q10:=L67.out;have q11:=L68.out;have q12:=L69.out;have q13:=L70.out;have q14:=L71.out;have q15:=L85.out;have q16:=L86.out;have q17:=L87.out;have q18:=L88.out;have q19:=L89.out;have q20:=L90.out;have q21:=L181.out;have q22:=L182.out;have q23:=L183.out;have q24:=L184.out;have q25:=L185.out;have q26:=L186.out;have q27:=L187.out;have q28:=L273.out;have q29:=L274.out;have q30:=L275.out;have q31:=L276.out;have q32:=L277.out;have q33:=L278.out;have q34:=L279.out;have q35:=L280.out;omega)).trans C301.out
 clear C301;have C321:Hid (SwBox w3 gr (mkF r)):=(Hoth.out _ (by have q0:=L4.out;have q1:=L10.out;have q2:=L11.out;have q3:=L40.out;have q4:=L41.out;have q5:=L42.out;have q6:=L52.out;have q7:=L53.out;have q8:=L54.out;have q9:=L55.out;have q10:=L67.out;have q11:=L68.out;have q12:=L69.out;have q13:=L70.out;have q14:=L71.out;have q15:=L85.out;have q16:=L86.out;have q17:=L87.out;have q18:=L88.out;have q19:=L89.out;have q20:=L90.out;have q21:=L181.out;have q22:=L182.out;have q23:=L183.out;have q24:=L184.out;have q25:=L185.out;have q26:=L186.out;have q27:=L187.out;have q28:=L273.out;have q29:=L274.out;have q30:=L275.out;have q31:=L276.out;have q32:=L277.out;have q33:=L278.out;have q34:=L279.out;have q35:=L280.out;omega)).trans C302.out;clear C302;have C322:Hid (FaBox w3 gfg (mkF fg)):=(Hoth.out _ (by have q0:=L4.out;have q1:=L10.out;have q2:=L11.out;have q3:=L40.out;have q4:=L41.out;have q5:=L42.out;have q6:=L52.out;have q7:=L53.out;have q8:=L54.out;have q9:=L55.out;have q10:=L67.out;have q11:=L68.out;have q12:=L69.out;have q13:=L70.out;have q14:=L71.out;have q15:=L85.out;have q16:=L86.out;have q17:=L87.out;have q18:=L88.out;have q19:=L89.out;have q20:=L90.out;have q21:=L181.out;have q22:=L182.out;have q23:=L183.out;have q24:=L184.out;have q25:=L185.out;have q26:=L186.out;have q27:=L187.out;have q28:=L273.out;have q29:=L274.out;have q30:=L275.out;have q31:=L276.out;have q32:=L277.out;have q33:=L278.out;have q34:=L279.out;have q35:=L280.out;omega)).trans C303.out
 clear C303;have C323:Hid (SwBox w3 go (mkF one2)):=(Hoth.out _ (by have q0:=L4.out;have q1:=L10.out;have q2:=L11.out;have q3:=L40.out;have q4:=L41.out;have q5:=L42.out;have q6:=L52.out;have q7:=L53.out;have q8:=L54.out;have q9:=L55.out;have q10:=L67.out;have q11:=L68.out;have q12:=L69.out;have q13:=L70.out;have q14:=L71.out;have q15:=L85.out;have q16:=L86.out;have q17:=L87.out;have q18:=L88.out;have q19:=L89.out;have q20:=L90.out;have q21:=L181.out;have q22:=L182.out;have q23:=L183.out;have q24:=L184.out;have q25:=L185.out;have q26:=L186.out;have q27:=L187.out;have q28:=L273.out;have q29:=L274.out;have q30:=L275.out;have q31:=L276.out;have q32:=L277.out;have q33:=L278.out;have q34:=L279.out;have q35:=L280.out;omega)).trans C304.out;clear C304;have C324:Hid (SwBox w3 g2 (mkF two2)):=(Hoth.out _ (by have q0:=L4.out;have q1:=L10.out;have q2:=L11.out;have q3:=L40.out;have q4:=L41.out;have q5:=L42.out;have q6:=L52.out;have q7:=L53.out;have q8:=L54.out;have q9:=L55.out;have q10:=L67.out;have q11:=L68.out;have q12:=L69.out;have q13:=L70.out;have q14:=L71.out;have q15:=L85.out;have q16:=L86.out;have q17:=L87.out;have q18:=L88.out;have q19:=L89.out;have q20:=L90.out;have q21:=L181.out;have q22:=L182.out;have q23:=L183.out;have q24:=L184.out;have q25:=L185.out;have q26:=L186.out;have q27:=L187.out;have q28:=L273.out;have q29:=L274.out;have q30:=L275.out;have q31:=L276.out;have q32:=L277.out;have q33:=L278.out;have q34:=L279.out;have q35:=L280.out;omega)).trans C305.out
 clear C305
 have C325:Hid (SwBox w3 gv (mkF rev2)):=by rw [<- hw3];exact A.setRow
 clear C306;have C326:Hid (FaBox w3 gall (mkF all)):=(Hoth.out _ (by have q0:=L4.out;have q1:=L10.out;have q2:=L11.out;have q3:=L40.out;have q4:=L41.out;have q5:=L42.out;have q6:=L52.out;have q7:=L53.out;have q8:=L54.out;have q9:=L55.out;have q10:=L67.out;have q11:=L68.out;have q12:=L69.out;have q13:=L70.out;have q14:=L71.out;have q15:=L85.out;have q16:=L86.out;have q17:=L87.out;have q18:=L88.out;have q19:=L89.out;have q20:=L90.out;have q21:=L181.out;have q22:=L182.out;have q23:=L183.out;have q24:=L184.out;have q25:=L185.out;have q26:=L186.out;have q27:=L187.out;have q28:=L273.out;have q29:=L274.out;have q30:=L275.out;have q31:=L276.out;have q32:=L277.out;have q33:=L278.out;have q34:=L279.out;have q35:=L280.out;omega)).trans C307.out;clear C307;have C327:Hid (SwBox w3 ggh (mkF gh)):=(Hoth.out _ (by have q0:=L4.out;have q1:=L10.out;have q2:=L11.out;have q3:=L40.out;have q4:=L41.out;have q5:=L42.out;have q6:=L52.out;have q7:=L53.out;have q8:=L54.out;have q9:=L55.out;have q10:=L67.out;have q11:=L68.out;have q12:=L69.out;have q13:=L70.out;have q14:=L71.out;have q15:=L85.out;have q16:=L86.out;have q17:=L87.out;have q18:=L88.out;have q19:=L89.out;have q20:=L90.out;have q21:=L181.out;have q22:=L182.out;have q23:=L183.out;have q24:=L184.out;have q25:=L185.out;have q26:=L186.out;have q27:=L187.out;have q28:=L273.out;have q29:=L274.out;have q30:=L275.out;have q31:=L276.out;have q32:=L277.out;have q33:=L278.out;have q34:=L279.out;have q35:=L280.out;omega)).trans C308.out
 clear C308
 have C328:Hid (SwB 1 w3 s):=by rw [<- hw3];exact C309.out.offW A _
 clear C309
 have C329:Hid (SwB 1 w3 t):=by rw [<- hw3];exact C310.out.offW A _
 clear C310
 have C330:Hid (SwB 1 w3 r):=by rw [<- hw3];exact C311.out.offW A _
 clear C311
 have C331:Hid (SwB 2 w3 fg):=by rw [<- hw3];exact C312.out.offW A _
 clear C312
 have C332:Hid (SwB 3 w3 one2):=by rw [<- hw3];exact C313.out.offW A _
 clear C313
 have C333:Hid (SwB 3 w3 two2):=by rw [<- hw3];exact C314.out.offW A _
 clear C314
 have C334:Hid (SwB 3 w3 rev2):=by rw [<- hw3];exact S0.offW A _
 clear C315
 have C335:Hid (SwB 3 w3 all):=by rw [<- hw3];exact C316.out.offW A _
 clear C316
 have C336:Hid (SwB 2 w3 gh):=by rw [<- hw3];exact C317.out.offW A _
 clear C317
 have HB337:Hid (Below wk.heap.size wk w3):=by rw [<- hw3];exact below_setRow HB318.out (by have q:=HG0.out;have q0:=L4.out;have q1:=L10.out;have q2:=L11.out;have q3:=L40.out;have q4:=L41.out;have q5:=L42.out;have q6:=L52.out;have q7:=L53.out;have q8:=L54.out;have q9:=L55.out;have q10:=L67.out;have q11:=L68.out;have q12:=L69.out;have q13:=L70.out;have q14:=L71.out;have q15:=L85.out;have q16:=L86.out;have q17:=L87.out;have q18:=L88.out;have q19:=L89.out;have q20:=L90.out;have q21:=L181.out;have q22:=L182.out;have q23:=L183.out;have q24:=L184.out;have q25:=L185.out;have q26:=L186.out;have q27:=L187.out;have q28:=L273.out;have q29:=L274.out;have q30:=L275.out;have q31:=L276.out;have q32:=L277.out;have q33:=L278.out;have q34:=L279.out;have q35:=L280.out;omega)
 clear Sx bx S0 A hw3 Hoth
 have HE2:Hid (EqS one2 two2/\EqS one2 rev2):=by
  have e0:=HJo.out.uniq HJtwo.out;have k1:=HJo2.out;rw [e0] at k1;have e1:=k1.uniq HJtwo2.out.comm;have e2:=join_assoc HM.out.1 HM.out.2 HMr.out HNst.out HN3.out.1 HN3.out.2 HJtwo.out HJgh.out HJtwo2.out HJrev2.out;have e3:=e1.trans e2;exact ⟨⟨congrArg Ab.L e1,congrArg Ab.P e1,congrArg Ab.R e1⟩,⟨congrArg Ab.L e3,congrArg Ab.P e3,congrArg Ab.R e3⟩⟩
 have l0:=run_ldSw C323.out;have l1:=run_ldSw C324.out;go_wp2_with fail;clear l0 l1 hst;refine (sameSwot4_any one2 two2 _ C332.out.ok C333.out.ok HE2.out.1).mono ?_;rintro e v ⟨rfl,bx⟩;have C338:=hide (C319.out.below bx);clear C319;have C339:=hide (C320.out.below bx);clear C320;have C340:=hide (C321.out.below bx);clear C321;have C341:=hide (C322.out.below bx);clear C322;have C342:=hide (C323.out.below bx);clear C323;have C343:=hide (C324.out.below bx);clear C324;have C344:=hide (C325.out.below bx);clear C325;have C345:=hide (C326.out.below bx);clear C326;have C346:=hide (C327.out.below bx);clear C327;have C347:=hide (C328.out.below bx);clear C328;have C348:=hide (C329.out.below bx);clear C329;have C349:=hide (C330.out.below bx);clear C330;have C350:=hide (C331.out.below bx);clear C331;have C351:=hide (C332.out.below bx);clear C332
 have C352:=hide (C333.out.below bx);clear C333;have C353:=hide (C334.out.below bx);clear C334;have C354:=hide (C335.out.below bx);clear C335;have C355:=hide (C336.out.below bx);clear C336;have HB356:=wTr HB337 bx;clear bx;have l0:=run_ldSw C342.out;have l1:=run_ldSw C344.out;go_wp2_with fail;clear l0 l1;refine (sameSwot4_any one2 rev2 _ C351.out.ok C353.out.ok HE2.out.2).mono ?_;rintro e v ⟨rfl,bx⟩;have C357:=hide (C338.out.below bx);clear C338;have C358:=hide (C339.out.below bx);clear C339;have C359:=hide (C340.out.below bx);clear C340;have C360:=hide (C341.out.below bx);clear C341;have C361:=hide (C342.out.below bx);clear C342;have C362:=hide (C343.out.below bx);clear C343;have C363:=hide (C344.out.below bx);clear C344;have C364:=hide (C345.out.below bx);clear C345;have C365:=hide (C346.out.below bx);clear C346;have C366:=hide (C347.out.below bx)
 clear C347;have C367:=hide (C348.out.below bx);clear C348;have C368:=hide (C349.out.below bx);clear C349;have C369:=hide (C350.out.below bx);clear C350;have C370:=hide (C351.out.below bx);clear C351;have C371:=hide (C352.out.below bx);clear C352;have C372:=hide (C353.out.below bx);clear C353;have C373:=hide (C354.out.below bx);clear C354;have C374:=hide (C355.out.below bx);clear C355;have HB375:=wTr HB356 bx;clear bx;have HE:=wTr HBK HB375.out;go_wp2_with fail;go_ret;exact ⟨rfl,HE.out⟩
theorem compactJoins_u (c:Cz) (w:World) (hU:CzU w c):Calls Tryz.prog 3 #[CzV c] w fun e w'=>e = .returned (.bool true)/\Below w.heap.size w w':=compactJoins_law c w hU
end Go.Proofs.YthlbpeoiocdjlaaGreat
