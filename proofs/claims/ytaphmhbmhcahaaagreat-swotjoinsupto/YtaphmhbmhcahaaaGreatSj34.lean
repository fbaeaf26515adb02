/- SZd SZe SZf SZg -/
import Derived.Test.YtaphmhbmhcahaaaGreatTk
import Derived.Test.YtaphmhbmhcahaaaGreatSj27
import Derived.Test.YtaphmhbmhcahaaaGreatSj26
import Derived.Test.YtaphmhbmhcahaaaGreatSj29
import Derived.Test.YtaphmhbmhcahaaaGreatSj33
import Derived.Deep.CutRange
set_option maxRecDepth 100000
set_option maxHeartbeats 6400000
namespace Go.Proofs.YtaphmhbmhcahaaaGreat
section
open Go.RowKit
attribute [local go_sem ↓] ldP_eq stP_eq ldFa_eq stFa_eq ldD_eq stD_eq K.ld28_eq K.st28_eq ldRe_eq stRe_eq
attribute [local go_sem] cells_PV PC_size cells_FaV FaC_size zero_FaZ cells_RV RC_size zero_RC fold_RC K.zero_EC K.cells_EV K.EC_size K.fold_EC cells_ReV ReC_size zero_ReC
def lvB (P:Pst) (R:List Rc) (e:K.En):Bool := !(inB P e) && freeB R e
theorem lv_nil (P:Pst) (e:K.En):lvB P [] e = !(inB P e):=by unfold lvB freeB;simp
theorem lv_snoc (P:Pst) (R:List Rc) (r:Rc) (e:K.En):lvB P (R++[r]) e=(lvB P R e && !(covB r e)):=by
 unfold lvB freeB;rw [List.any_append,List.any_cons,List.any_nil,Bool.or_false,Bool.not_or,Bool.and_assoc]
theorem takeR3 (L:List Rc) (k:Nat) (h:k < L.length):L.take (k+1)=L.take k++[L.getD k rc0]:=by
 rw [List.take_succ_eq_append_getElem h];simp [List.getD,h]
theorem refLive11_any (f:Fc) (w:World) (hF:FcOk w f):Calls Tryz.prog 65 #[FaV (mkF f)] w fun x w'=>LvS w w' x (f.es.filter (lvB f.p.P f.rs)):=by
 have b1:=below_new w (.cells (FaC (mkF f)) 59);have X1:=FaBox_new w (mkF f);obtain ⟨wk,hwk⟩:∃ w1,w.alloc (.cells (FaC (mkF f)) 59)=w1:=⟨_,rfl⟩;rw [hwk] at b1 X1;obtain ⟨G,hG0⟩:∃ G,w.heap.size=G:=⟨_,rfl⟩;rw [hG0] at X1;have HX:=hide X1;have HBK:=hide b1;have HF:=hide (hF.below b1);clear hF b1 X1;go_enter Tryz.func65,Tryz.ntmps65;obtain ⟨n,hn⟩:∃ n,f.an=n:=⟨_,rfl⟩;obtain ⟨ao,hao⟩:∃ a,f.ao=a:=⟨_,rfl⟩;obtain ⟨ac,hac⟩:∃ a,f.ac=a:=⟨_,rfl⟩;obtain ⟨m,hm⟩:∃ n,f.rn=n:=⟨_,rfl⟩
 have HS:Hid (K.ESrc wk ao n ac f.es):=by rw [<- hn,<- hao,<- hac];exact HF.out.es
 have HR:Hid (RcS wk f.ro m f.rc f.rs):=by rw [<- hm];exact HF.out.rs
 have HCs:Hid (∀ W,Below wk.heap.size wk W -> W.cell? ⟨G,0,none⟩=some (.slice ao n ac)):=fun W h=>by rw [<- hn,<- hao,<- hac];exact (HX.out.below h).cs.1
 have HC3:Hid (∀ W,Below wk.heap.size wk W -> W.cell? ⟨G,3,none⟩=some (.slice f.ro m f.rc)):=fun W h=>by rw [<- hm];exact (HX.out.below h).cs.2
 have HLn:Hid (f.es.length=n):=HS.out.1;have HLr:Hid (f.rs.length=m):=HR.out.len;have hnb:=HS.out.2.2.2.2;have hmb:=HR.out.big;go_wp2_with fail;clear hn hao hac hwk hG0 hm;go_loopw [3,4,5,6] (fun v i _ _ wr=>∃ (k:Nat) (ap:Option Addr) (c2:Nat) (acc:List K.En),k <= n/\v = .slice ap acc.length c2/\i = .int .i64 (k:Int)/\Hid (acc=(f.es.take k).filter (lvB f.p.P f.rs)/\K.OwnE wk.heap.size wk.heap.size wk wr ap c2 acc)) (fun _ i _ _ _=>n - (intOf i).toNat)
 case atStart=>exact ⟨0,none,0,[],Nat.zero_le _,rfl,rfl,rfl,K.OwnE.nil (Below.refl _ _) (Nat.le_refl _) (Nat.le_refl _)⟩
 case round =>
  obtain ⟨k,ap,c2,acc,hk,rfl,rfl,HO⟩:=hrel
  rename World=>wr
  have c0:=HCs.out _ HO.out.2.below;by_cases hlt:k < n
  ·have hlti:(k:Int) < (n:Int):=by omega
   have hal:acc.length <= k:=by
    rw [HO.out.1];refine Nat.le_trans (List.length_filter_le _ _) ?_;rw [List.length_take];omega
   have halb:acc.length < 3518437208883:=by omega
   have HT:=hide (takeE3 f.es k (by rw [HLn.out];exact hlt));obtain ⟨ad,hao,A0⟩:=(HS.out.below HO.out.2.below).at k hlt;subst hao;obtain ⟨e,He⟩:∃ e,Hid (f.es.getD k K.en0=e):=⟨_,rfl⟩;rw [He.out] at HT;have Hlt:=hide hlt
   have HEn:Hid (∀ W,Below wk.heap.size wk W -> K.EnAt W (ad.add (k * 4)) e):=fun W hW=>by
    obtain ⟨ad',he',h⟩:=(HS.out.below hW).at k Hlt.out;obtain rfl:=Option.some.inj he';rw [He.out] at h;exact h
   have HSt:Hid (∀ W,Below wk.heap.size wk W -> W.cell? ⟨G,0,none⟩=some (.slice (some ad) n ac)/\(ldP (.pointer (some ⟨G,1,none⟩))).run Tryz.prog W = .ok (PV f.p) W/\(ldD (.pointer (some (ad.add (k * 4))))).run Tryz.prog W = .ok (RV (dotOf e)) W):=fun W hW=>by
    have A:=HEn.out W hW;exact ⟨HCs.out _ hW,run_ldP (HX.out.below hW).past,run_ldD (r:=dotOf e) ⟨A.c0,A.c1⟩⟩
   have HO1:=hide (HO.out.2.later (below_drew1 wr));have Hacc:=hide HO.out.1;clear A0 hlt hk HO;go_upto_region 5 with fail;refine wp_region_held_drew (S:=fun W=>W.cell? ⟨G,0,none⟩=some (.slice (some ad) n ac)/\(ldP (.pointer (some ⟨G,1,none⟩))).run Tryz.prog W = .ok (PV f.p) W/\(ldD (.pointer (some (ad.add (k * 4))))).run Tryz.prog W = .ok (RV (dotOf e)) W) (by kernel_rfl) (HSt.out _ HO1.out.below) (fun hHeld=>?_);refine wU 0 ?_;refine wU 1 ?_;refine wU 2 ?_;refine wU 3 ?_;refine wU 4 ?_;refine wU 5 ?_;refine wU 6 ?_;refine wU 7 ?_;refine wpAnyH_ready (rs:=[8]) (by kernel_rfl) (by simp) (.cons rfl (fun K hK=>?_) .nil);go_simp;go_wp2_with fail;refine (refHas_any f.p (dotOf e) _ (HF.out.p.below HO1.out.below)).mono ?_;rintro x w5 ⟨y,rfl,hy,b5⟩
   obtain rfl:y=inB f.p.P e:=by rw [Bool.eq_iff_iff,inB_iff];exact hy.out
   have HO5:=hide (HO1.out.later b5);clear hy b5;refine hK.out _ _ (HSt.out _ HO5.out.below) (fun hHeld=>?_);clear hK K;refine wU 9 ?_;refine wU 10 ?_;refine wpAnyH_done (by kernel_rfl) ?_ _;clear hHeld;clear c0;go_wp2_with fail;go_loopw [5,6] (fun l j wq=>∃ q:Nat,q <= m/\l = .bool (lvB f.p.P (f.rs.take q) e)/\j = .int .i64 (q:Int)/\Hid (K.OwnE wk.heap.size wk.heap.size wk wq ap c2 acc)) (fun _ j _=>m - (intOf j).toNat)
   case atStart=>exact ⟨0,Nat.zero_le _,by rw [List.take_zero,lv_nil],rfl,HO5.out⟩
   case round =>
    obtain ⟨j,hj,rfl,rfl,HO6⟩:=hrel
    rename World=>wq
    have c3:=HC3.out _ HO6.out.below;by_cases hlj:j < m
    ·have hlji:(j:Int) < (m:Int):=by omega
     have HO7:=hide (HO6.out.later (below_drew1 wq));have Hlj:=hide hlj;obtain ⟨bd,hbo,-⟩:=HR.out.at j hlj;obtain ⟨r,Hr⟩:∃ r,Hid (f.rs.getD j rc0=r):=⟨_,rfl⟩;have HTr:=hide (takeR3 f.rs j (by rw [HLr.out];exact hlj));rw [Hr.out] at HTr
     have HRk:Hid (RcOk wk r):=by rw [<- Hr.out];exact HR.out.okAt j hlj
     have Hbo:=hide hbo
     have HS9:Hid (∀ W,Below wk.heap.size wk W -> (W.cell? ⟨G,3,none⟩=some (.slice (some bd) m f.rc)/\W.cell? ⟨G,0,none⟩=some (.slice (some ad) n ac))/\(ldRe (.pointer (some (bd.add (j * 3))))).run Tryz.prog W = .ok (.agg (ReC (mkR r))) W/\(K.ld28 (.pointer (some (ad.add (k * 4))))).run Tryz.prog W = .ok (K.EV e) W):=fun W hW=>by
      obtain ⟨bd',eb,B⟩:=(HR.out.below hW).at j Hlj.out;rw [Hbo.out] at eb;obtain rfl:=Option.some.inj eb;rw [Hr.out] at B;have h3:=HC3.out _ hW;rw [Hbo.out] at h3;exact ⟨⟨h3,HCs.out _ hW⟩,run_laRe B,K.run_ld28 (HEn.out W hW)⟩
     have hkn:(k:Int) < (n:Int):=by have:=Hlt.out;omega
     obtain ⟨b,hb9⟩:∃ b,lvB f.p.P (f.rs.take j) e=b:=⟨_,rfl⟩;have Hb:=hide hb9;rw [hb9];clear hb9 hlj hj hbo;have hb9:=True.intro
     cases b with
     | true =>
      go_upto_region 9 with fail;clear c3;refine wp_region_held_drew (S:=fun W=>(W.cell? ⟨G,3,none⟩=some (.slice (some bd) m f.rc)/\W.cell? ⟨G,0,none⟩=some (.slice (some ad) n ac))/\(ldRe (.pointer (some (bd.add (j * 3))))).run Tryz.prog W = .ok (.agg (ReC (mkR r))) W/\(K.ld28 (.pointer (some (ad.add (k * 4))))).run Tryz.prog W = .ok (K.EV e) W) (by kernel_rfl) (HS9.out _ HO7.out.below) (fun hHeld=>?_);refine wU 0 ?_;refine wU 1 ?_;refine wU 2 ?_;refine wU 3 ?_;refine wU 4 ?_;refine wU 5 ?_;refine wU 6 ?_;refine wU 7 ?_;refine wU 8 ?_;refine wU 9 ?_;refine wU 10 ?_;refine wU 11 ?_;refine wpAnyH_ready (rs:=[12]) (by kernel_rfl) (by simp) (.cons rfl (fun K hK=>?_) .nil);go_simp;go_wp2_with fail;refine (covers08_any r e _ (HRk.out.below HO7.out.below)).mono ?_;rintro x w8 ⟨rfl,b8⟩;have HO8:=hide (HO7.out.later b8);clear b8;refine hK.out _ _ (HS9.out _ HO8.out.below) (fun hHeld=>?_)
      clear hK K;refine wU 13 ?_;refine wU 14 ?_;refine wU 15 ?_;refine wpAnyH_done (by kernel_rfl) ?_ _;clear hHeld
      have HN:Hid (Value.bool (!covB r e) = .bool (lvB f.p.P (f.rs.take (j+1)) e)):=by
       show _=_
       rw [HTr.out,lv_snoc,Hb.out,Bool.true_and]
      clear hb9;go_wp2_with fail;go_roundw
      case rel=>exact ⟨j+1,Hlj.out,HN.out,by simp,HO8.out⟩
      case measure=>simp [intOf];have:=Hlj.out;omega
     | false =>
      go_upto_region 9 with fail;clear c3;refine wp_region_held_drew (S:=fun W=>(W.cell? ⟨G,3,none⟩=some (.slice (some bd) m f.rc)/\W.cell? ⟨G,0,none⟩=some (.slice (some ad) n ac))/\(ldRe (.pointer (some (bd.add (j * 3))))).run Tryz.prog W = .ok (.agg (ReC (mkR r))) W/\(K.ld28 (.pointer (some (ad.add (k * 4))))).run Tryz.prog W = .ok (K.EV e) W) (by kernel_rfl) (HS9.out _ HO7.out.below) (fun hHeld=>?_);refine wU 0 ?_;refine wU 1 ?_;refine wV 2 ?_;refine wV 3 ?_;refine wV 4 ?_;refine wV 5 ?_;refine wV 6 ?_;refine wV 7 ?_;refine wV 8 ?_;refine wV 9 ?_;refine wV 10 ?_;refine wV 11 ?_;refine wV 12 ?_;refine wV 13 ?_;refine wU 14 ?_;refine wU 15 ?_;refine wpAnyH_done (by kernel_rfl) ?_ _;clear hHeld
      have HN:Hid (Value.bool false = .bool (lvB f.p.P (f.rs.take (j+1)) e)):=by
       show _=_
       rw [HTr.out,lv_snoc,Hb.out,Bool.false_and]
      clear hb9;go_wp2_with fail;go_roundw
      case rel=>exact ⟨j+1,Hlj.out,HN.out,by simp,HO7.out⟩
      case measure=>simp [intOf];have:=Hlj.out;omega
    ·have hlji:¬ (j:Int) < (m:Int):=by omega
     have htk:f.rs.take j=f.rs:=List.take_of_length_le (by rw [HLr.out];omega);obtain ⟨b,hb⟩:∃ b,lvB f.p.P f.rs e=b:=⟨_,rfl⟩;rw [htk,hb];have Hb:=hide hb
     have Hf:Hid ((f.es.take (k+1)).filter (lvB f.p.P f.rs)=acc++(if b then [e] else [])):=by
      show _=_
      rw [HT.out,List.filter_append,<- Hacc.out,List.filter_cons,hb]
      cases b <;> rfl
     clear hb htk
     cases b with
     | true =>
      have c0:=HCs.out _ HO6.out.below;have l6:=K.run_ld28 (HEn.out _ HO6.out.below)
      have hlt2:(k:Int) < (n:Int):=by have:=Hlt.out;omega
      have HO6':=HO6;clear HO6;go_wp2_with (at_builtin;refine HO6'.out.append e _ rfl halb rfl (.tmp 47) (.tmp 53) rfl acc.length rfl rfl rfl ?_;intro g6 c6 w7 O7 hk7;have HO7:=hide O7;clear O7 hk7);clear l6 c3;go_roundw
      case rel=>exact ⟨k+1,some ⟨g6,0,none⟩,c6,acc++[e],Hlt.out,by simp,by simp,Hf.out.symm,HO7.out⟩
      case measure=>simp [intOf];have:=Hlt.out;omega
     | false =>
      have hlt2:(k:Int) < (n:Int):=by have:=Hlt.out;omega
      go_wp2_with fail;clear c3;go_roundw
      case rel=>exact ⟨k+1,ap,c2,acc,Hlt.out,rfl,by simp,by rw [Hf.out];simp,HO6.out⟩
      case measure=>simp [intOf];have:=Hlt.out;omega
  ·have hlti:¬ (k:Int) < (n:Int):=by omega
   have HE:Hid (LvS w wr (.returned (.slice ap acc.length c2)) (f.es.filter (lvB f.p.P f.rs))):=by
    obtain ⟨h1,h2⟩:=HO.out
    have h3:acc=f.es.filter (lvB f.p.P f.rs):=by rw [h1,List.take_of_length_le (by rw [HLn.out];omega)]
    obtain ⟨S9,-⟩:=h2.src (fun e he=>HS.out.2.2.2.1 e (by rw [h3] at he;exact (List.mem_filter.1 he).1)) (by
     have h4:acc.length <= n:=by rw [h3];exact Nat.le_trans (List.length_filter_le _ _) (Nat.le_of_eq HLn.out)
     omega)
    rw [<- h3];exact ⟨ap,acc.length,c2,rfl,S9,HBK.out.trans (h2.below.mono HBK.out.size)⟩
   clear HO;go_wp2_with fail;go_ret;exact HE.out
end
section
open Go.RowKit
def StD (f s:Fc):Prop:=s.es=f.es.filter (lvB f.p.P f.rs)/\HeardOf f s.p.P/\WtOf f.rs s.p.P s.rs
attribute [local go_sem ↓] ldP_eq stP_eq ldFa_eq stFa_eq ldSw_eq stSw_eq bldS_eq bsPs_eq
attribute [local go_sem] cells_PV PC_size cells_FaV FaC_size zero_FaZ run_bsPs run_bldS run_bldS0 zero_PC
theorem refState11_any (f:Fc) (w:World) (hF:FcOk w f) (hFo:FormF f):Calls Tryz.prog 33 #[FaV (mkF f)] w fun e w'=>SwS w w' e (StD f):=by
 have HFo:=hide hFo;clear hFo;have b1:=below_new w (.cells (FaC (mkF f)) 59);have X1:=FaBox_new w (mkF f);obtain ⟨w1,hw1⟩:∃ w1,w.alloc (.cells (FaC (mkF f)) 59)=w1:=⟨_,rfl⟩
 have hs1:w1.heap.size=w.heap.size+1:=by rw [<- hw1];simp
 rw [hw1] at b1 X1;have x2:SwBox (w1.alloc (.cells (FaC (mkF fz0)) 29)) w1.heap.size (mkF fz0):=SwBox_new w1 (mkF fz0);have b2:=below_new w1 (.cells (FaC (mkF fz0)) 29);obtain ⟨w2,hw2⟩:∃ w2,w1.alloc (.cells (FaC (mkF fz0)) 29)=w2:=⟨_,rfl⟩;rw [hw2] at x2 b2;rw [hs1] at x2;obtain ⟨G,hG0⟩:∃ G,w.heap.size=G:=⟨_,rfl⟩;rw [hG0] at X1 x2 hs1;have HX:=hide (X1.below b2);have HZ:=hide x2;have HBK:=hide (b1.trans (b2.mono b1.size));have HF:=hide (hF.below HBK.out);have HGs:Hid (w.heap.size=G):=hG0;clear hF b1 b2 X1 x2;have lf:=run_ldFa HX.out;go_enter Tryz.func33,Tryz.ntmps33;go_wp2_with fail;clear hw1 hw2 hs1 hG0 lf;refine (refHeard_any f _ HF.out HFo.out).mono ?_;rintro x wq ⟨p,rfl,Sp,-,bq,He⟩;obtain ⟨g3,hg3⟩:∃ g,wq.heap.size=g:=⟨_,rfl⟩;obtain ⟨w3,hst,X3,B3,-⟩:=madeP wq p g3 hg3;have b23:=bq.trans (B3.mono bq.size)
 have HX3:=hide (HX.out.below b23);have HZ3:=hide (HZ.out.below b23);have HF3:=hide (HF.out.below b23);have HBK3:=wTr HBK b23;have HP3:=hide X3;have HSp:=hide (Sp.below B3);have HHe:=hide He
 have HG3:Hid (G+1 < g3):=by
  have h1:=HZ.out.lt;have h2:=bq.size
  show G+1 < g3
  omega
 have HSt:Hid (∀ W,FaBox W G (mkF f) -> PBox W g3 p -> (ldFa (.pointer (some ⟨G,0,none⟩))).run Tryz.prog W = .ok (FaV (mkF f)) W/\(ldP (.pointer (some ⟨g3,0,none⟩))).run Tryz.prog W = .ok (PV p) W/\W.cell? ⟨G,3,none⟩=some (.slice f.ro f.rn f.rc)):=fun W h k=>⟨run_ldFa h,run_ldP k.at,h.cs.2⟩;clear Sp bq He X3 B3 b23;go_upto_region 2 with fail;clear hst hg3;refine wp_region_held_drew (S:=fun W=>(ldFa (.pointer (some ⟨G,0,none⟩))).run Tryz.prog W = .ok (FaV (mkF f)) W/\(ldP (.pointer (some ⟨g3,0,none⟩))).run Tryz.prog W = .ok (PV p) W/\W.cell? ⟨G,3,none⟩=some (.slice f.ro f.rn f.rc)) (by kernel_rfl) (HSt.out _ (HX3.out.below (below_drew1 w3)) (HP3.out.below (below_drew1 w3))) (fun hHeld=>?_);refine wU 0 ?_;refine wU 2 ?_;refine wU 3 ?_;refine wU 4 ?_;refine wU 5 ?_;refine wpAnyH_ready (rs:=[1]) (by kernel_rfl) (by simp) (.cons rfl (fun K hK=>?_) .nil)
 go_simp;go_wp2_with fail;refine (refLive11_any f _ (HF3.out.below (below_drew1 w3))).mono ?_;rintro x w5 ⟨la,ln,lc,rfl,SL,b5⟩;have HB5:=hide ((below_drew1 w3).trans (b5.mono (below_drew1 w3).size));have HSL:=hide SL;clear SL b5;refine hK.out _ _ (HSt.out _ (HX3.out.below HB5.out) (HP3.out.below HB5.out)) (fun hHeld=>?_);clear hK K;refine wpAnyH_ready (rs:=[6]) (by kernel_rfl) (by simp) (.cons rfl (fun K hK=>?_) .nil);go_simp;go_wp2_with fail;refine (refWaits11_any f.ro f.rn f.rc f.rs p _ (HF3.out.rs.below HB5.out) HFo.out.2.2 (HSp.out.below HB5.out)).mono ?_;rintro x w6 ⟨h,F,rfl,SF,b6,WF⟩;have HB6:=wTr HB5 b6;have A6:=HZ3.out.below HB6.out;have st:=run_stSw (m':=mkF ⟨la,ln,lc,[],p,h.o,h.n,h.c,[]⟩) A6;have HE1:Hid (SwBox (w6.setRow (G+1) (FaC (mkF ⟨la,ln,lc,[],p,h.o,h.n,h.c,[]⟩))) (G+1) (mkF ⟨la,ln,lc,f.es.filter (lvB f.p.P f.rs),p,h.o,h.n,h.c,F⟩)):=A6.setRow
 have HXe:Hid (FaBox (w6.setRow (G+1) (FaC (mkF ⟨la,ln,lc,[],p,h.o,h.n,h.c,[]⟩))) G (mkF f)):=(setRow_other _ _ _ _ (by omega)).trans (HX3.out.below HB6.out);have HPe:Hid (PBox (w6.setRow (G+1) (FaC (mkF ⟨la,ln,lc,[],p,h.o,h.n,h.c,[]⟩))) g3 p):=(setRow_other _ _ _ _ (by have:=HG3.out;omega)).trans (HP3.out.below HB6.out)
 have HE:Hid (SwS w (w6.setRow (G+1) (FaC (mkF ⟨la,ln,lc,[],p,h.o,h.n,h.c,[]⟩))) (.returned (FaV (mkF ⟨la,ln,lc,f.es.filter (lvB f.p.P f.rs),p,h.o,h.n,h.c,F⟩))) (StD f)):=
  ⟨_,rfl,FcOk.offW (f:=⟨la,ln,lc,f.es.filter (lvB f.p.P f.rs),p,h.o,h.n,h.c,F⟩) ⟨HSL.out.below b6,HSp.out.below HB6.out,SF⟩ A6 _,below_setRow (HBK3.out.trans (HB6.out.mono HBK3.out.size)) (by rw [HGs.out];omega),rfl,HHe.out,WF⟩
 clear SF b6 WF A6;refine hK.out _ _ (HSt.out _ (HX3.out.below HB6.out) (HP3.out.below HB6.out)) (fun hHeld=>?_);clear hK K;refine wU 7 ?_;refine wpAnyH_ready (rs:=[8]) (by kernel_rfl) (by simp) (.cons rfl (fun K hK=>?_) .nil);go_simp;refine hK.out _ _ (HSt.out _ HXe.out HPe.out) (fun hHeld=>?_);clear hK K;clear st;refine wpAnyH_done (by kernel_rfl) ?_ _;clear hHeld;go_wp2_with fail;refine bodyPost_ret (res1Sw rfl rfl HE1.out) rfl ?_;exact HE.out
end
section
open Go.RowKit
def exf (s:Fc) (q:Pv):Fc:=⟨s.ao,s.an,s.ac,s.es,q,s.ro,s.rn,s.rc,s.rs⟩
def ExQ (s:Fc) (q:Pv):Prop:=∃ D,CanonOf (dotsG (s.es.map dotOf)) D/\∃ C:Nat -> List Rn,(∀ r,r < 16 -> MinusOf (runsAt s.p.P r) (runsAt D r) (C r))/\CanonOf C q.P
theorem inB_isR {P:Pst} {e:K.En} (h:inB P e=true):0 <= e.rep/\e.rep < 16:=by
 have h1:=((inB_iff P e).1 h).1;simpa [V.isR] using h1
theorem inB_okDS {P:Pst} {e:K.En} (h:inB P e=true):okD (dotOf e)=true:=by
 have h0:=inB_isR h;unfold inB at h;simp only [Bool.and_eq_true,decide_eq_true_eq] at h;unfold okD dotOf;simp only [Bool.and_eq_true,decide_eq_true_eq];refine ⟨by simp [V.isR];omega,?_⟩
 first
  | exact ⟨h.2.2.1,h.2.2.2.1⟩
  | (simp;omega)
theorem inB_mem {P:Pst} {e:K.En} (h:0 <= e.rep/\e.rep < 16):inB P e=true↔mem (runsAt P e.rep.toNat) e.num:=by
 rw [inB_iff];unfold dotIn
 have h1:V.isR e.rep=true:=by simp [V.isR];omega
 simp [h1]
theorem inB_ds {L:List K.En} {P:Pst} (h:CanonOf (dotsG (L.map dotOf)) P) (e:K.En) (h0:0 <= e.rep/\e.rep < 16):mem (runsAt P e.rep.toNat) e.num↔okD (dotOf e)=true/\∃ x∈L,dotOf x=dotOf e:=by
 rw [canon_mem h _ (by omega),dotsG_mem];constructor
 ·rintro ⟨d,hd,k1,k2,k3⟩;obtain ⟨x,hx,rfl⟩:=List.mem_map.1 hd
  have ed:dotOf x=dotOf e:=by
   unfold dotOf at k2 k3 ⊢;simp only at k2 k3;congr 1;omega
  exact ⟨ed ▸ k1,x,hx,ed⟩
 ·rintro ⟨h1,x,hx,h2⟩;exact ⟨dotOf x,List.mem_map.2 ⟨x,hx,rfl⟩,h2 ▸ h1,by rw [h2];show e.rep=((e.rep.toNat:Nat):Int);omega,by rw [h2];rfl⟩
theorem dot_inB {P:Pst} {x e:K.En} (h:dotOf x=dotOf e):inB P x=inB P e:=by
 obtain ⟨a,b,c,d⟩:=x;obtain ⟨a',b',c',d'⟩:=e;unfold dotOf at h;injection h with h1 h2;subst h1 h2;rfl
theorem dot_sd {x e:K.En} (h:dotOf x=dotOf e):K.sameDot x e=true:=by
 unfold dotOf at h;injection h with h1 h2;unfold K.sameDot;simp [h1,h2]
theorem exq_inB {s:Fc} {q:Pv} (h:ExQ s q) (e:K.En):inB q.P e=true↔inB s.p.P e=true/\¬ ∃ x∈s.es,dotOf x=dotOf e:=by
 obtain ⟨D,hD,C,hC,hq⟩:=h;by_cases h0:0 <= e.rep/\e.rep < 16
 ·rw [inB_mem h0,inB_mem h0,canon_mem hq _ (by omega),(hC _ (by omega)).2 e.num,inB_ds hD e h0];constructor
  ·rintro ⟨h1,h2⟩;exact ⟨h1,fun h3=>h2 ⟨inB_okDS ((inB_mem h0).2 h1),h3⟩⟩
  ·rintro ⟨h1,h2⟩;exact ⟨h1,fun h3=>h2 h3.2⟩
 ·constructor
  ·intro h;exact absurd (inB_isR h) h0
  ·intro h;exact absurd (inB_isR h.1) h0
theorem heard_inB {u:Fc} {P:Pst} (h:HeardOf u P) (e:K.En):inB P e=true↔(okD (dotOf e)=true/\∃ x∈u.es,dotOf x=dotOf e)∨inB u.p.P e=true:=by
 by_cases h0:0 <= e.rep/\e.rep < 16
 ·rw [inB_mem h0,inB_mem h0,h.2 _ (by omega) e.num,dotsG_mem];refine or_congr_left ?_;constructor
  ·rintro ⟨d,hd,k1,k2,k3⟩;obtain ⟨x,hx,rfl⟩:=List.mem_map.1 hd
   have ed:dotOf x=dotOf e:=by
    unfold dotOf at k2 k3 ⊢;simp only at k2 k3;congr 1;omega
   exact ⟨ed ▸ k1,x,hx,ed⟩
  ·rintro ⟨h1,x,hx,h2⟩;exact ⟨dotOf x,List.mem_map.2 ⟨x,hx,rfl⟩,h2 ▸ h1,by rw [h2];show e.rep=((e.rep.toNat:Nat):Int);omega,by rw [h2];rfl⟩
 ·constructor
  ·intro h;exact absurd (inB_isR h) h0
  ·rintro (⟨h,-⟩ | h)
   ·exfalso;unfold okD dotOf at h;simp only [Bool.and_eq_true] at h;have h1:=h.1;simp [V.isR] at h1;omega
   ·exact absurd (inB_isR h) h0
theorem exp_jn {wa wb:World} {a b u s:Fc} {qa qb:Pv} (_:FcOk wa a) (_:FcOk wb b) (fa:FormS a) (fb:FormS b) (hc:¬ K.Clash (a.es++b.es)) (xa:ExQ a qa) (xb:ExQ b qb) (hu:UnD (exf a qa) (exf b qb) u) (hs:StD u s):JnA (ab a) (ab b) (ab s):=by
 obtain ⟨u1,u2,u3,u4,-⟩:=hu;obtain ⟨s1,s2,s3⟩:=hs;have u2:∀ e,e∈u.es↔e∈a.es∨e∈b.es:=u2;have hnb:NoC (ab a) (ab b):=hc;have pu:∀ e,inB u.p.P e=true↔inB qa.P e=true∨inB qb.P e=true:=fun e=>canon_inB u3 e
 have live:∀ e,e∈a.es∨e∈b.es -> (inB u.p.P e=true↔(inB a.p.P e=true/\e ∉ a.es)∨(inB b.p.P e=true/\e ∉ b.es)):=fun e he=>by
  rw [pu,exq_inB xa,exq_inB xb]
  have ka:(¬ ∃ x∈a.es,dotOf x=dotOf e)↔e ∉ a.es:=not_congr ⟨fun ⟨x,hx,hd⟩=>by
   rcases he with he | he
   ·exact he
   ·have:=hnb.at (show x∈(ab a).L from hx) (show e∈(ab b).L from he) (dot_sd hd)
    rw [<- this];exact hx,fun h=>⟨e,h,rfl⟩⟩
  have kb:(¬ ∃ x∈b.es,dotOf x=dotOf e)↔e ∉ b.es:=not_congr ⟨fun ⟨x,hx,hd⟩=>by
   rcases he with he | he
   ·have:=hnb.at (show e∈(ab a).L from he) (show x∈(ab b).L from hx) (dot_sd hd.symm);rw [this];exact hx
   ·exact he,fun h=>⟨e,h,rfl⟩⟩
  rw [ka,kb]
 have hR:∀ q,q∈plR u.rs↔q∈plR a.rs∨q∈plR b.rs:=u4.1.2;refine ⟨?_,fun e=>?_,s2.1,fun e=>?_,?_,fun q=>?_⟩
 ·show K.Asc s.es
  rw [s1];exact u1.sublist List.filter_sublist
 ·show e∈s.es↔KeptM a.es b.es a.p.P b.p.P e/\freeA (plR a.rs) e/\freeA (plR b.rs) e
  rw [s1,List.mem_filter,kept_iff hc,u2];unfold lvB;rw [Bool.and_eq_true,free_ab,Bool.not_eq_true'];have fr:freeA (plR u.rs) e↔freeA (plR a.rs) e/\freeA (plR b.rs) e:=⟨fun h=>⟨fun r hr=>h r ((hR r).2 (.inl hr)),fun r hr=>h r ((hR r).2 (.inr hr))⟩,fun h r hr=>((hR r).1 hr).elim (h.1 r) (h.2 r)⟩;rw [fr];constructor
  ·rintro ⟨he,hi,hf⟩;have hl:=(not_congr (live e he)).1 (by rw [hi];decide);refine ⟨⟨he,fun h=>Classical.byContradiction fun k=>hl (.inl ⟨h,k⟩),fun h=>Classical.byContradiction fun k=>hl (.inr ⟨h,k⟩)⟩,hf⟩
  ·rintro ⟨⟨he,h1,h2⟩,hf⟩;refine ⟨he,?_,hf⟩;rw [Bool.eq_false_iff];intro h;rcases (live e he).1 h with ⟨k1,k2⟩ | ⟨k1,k2⟩
   ·exact k2 (h1 k1)
   ·exact k2 (h2 k1)
 ·show inB s.p.P e=true↔inB a.p.P e=true∨inB b.p.P e=true
  rw [heard_inB s2,pu];constructor
  ·rintro (⟨-,x,hx,hd⟩ | h | h)
   ·rw [<- dot_inB hd,<- dot_inB hd];exact ((u2 x).1 hx).imp (fa.2.1 x) (fb.2.1 x)
   ·exact .inl ((exq_inB xa e).1 h).1
   ·exact .inr ((exq_inB xb e).1 h).1
  ·rintro (h | h)
   ·by_cases k:∃ x∈a.es,dotOf x=dotOf e
    ·obtain ⟨x,hx,hd⟩:=k;exact .inl ⟨inB_okDS h,x,(u2 x).2 (.inl hx),hd⟩
    ·exact .inr (.inl ((exq_inB xa e).2 ⟨h,k⟩))
   ·by_cases k:∃ x∈b.es,dotOf x=dotOf e
    ·obtain ⟨x,hx,hd⟩:=k;exact .inl ⟨inB_okDS h,x,(u2 x).2 (.inr hx),hd⟩
    ·exact .inr (.inr ((exq_inB xb e).2 ⟨h,k⟩))
 ·show Srt ck (plR s.rs)
  rw [s3.2];exact List.Pairwise.filter _ u4.1.1
 ·show q∈plR s.rs↔(q∈plR a.rs∨q∈plR b.rs)/\¬ wiP q.2 s.p.P
  rw [s3.2,List.mem_filter,hR];refine and_congr_right fun _=>⟨fun h k=>?_,fun h=>waitB_yes h⟩;rw [waitB_no k] at h
  cases h
theorem unD_form {w:World} {f g u:Fc} (hU:FcOk w u) (hf:f.es.length=f.an) (hg:g.es.length=g.an) (ff:FormF f) (fg:FormF g) (h:UnD f g u):FormF u:=by
 obtain ⟨u1,u2,u3,u4,-⟩:=h;refine ⟨(chk_okS hU.es.1).1 (K.chk_asc u1 fun e he=>?_),canon_iff.1 u3.canon,by rw [<- hU.rs.len];exact u4.ok⟩;rcases (u2 e).1 he with k | k
 ·exact chk_ce ((chk_okS hf).2 ff.1) e k
 ·exact chk_ce ((chk_okS hg).2 fg.1) e k
theorem exf_form {s:Fc} {q:Pv} (h:FormS s) (x:ExQ s q):FormF (exf s q):=by
 obtain ⟨D,-,C,-,hq⟩:=x;exact ⟨h.1.1,canon_iff.1 hq.canon,h.1.2.2⟩
end
section
open Go.RowKit
def UnW (a b:Fc) (qa qb:Pv) (u:Fc) (ok:Bool):Prop:=(ok=false/\K.Clash (a.es++b.es)/\u=fz0)∨(ok=true/\¬ K.Clash (a.es++b.es)/\UnD (exf a qa) (exf b qb) u)
theorem UnG.one {w w':World} {x:Ending} {a b:Fc} {qa qb:Pv} (h:UnG w w' x (exf a qa) (exf b qb)):∃ u ok,x = .returned (.tuple #[FaV (mkF u),.bool ok])/\FcOk w' u/\Below w.heap.size w w'/\UnW a b qa qb u ok:=by
 rcases h with ⟨h1,rfl,h3⟩ | ⟨h1,u,rfl,h3,h4,h5⟩
 ·exact ⟨fz0,false,rfl,fz0_ok _,h3,.inl ⟨rfl,h1,rfl⟩⟩
 ·exact ⟨u,true,rfl,h3,h4,.inr ⟨rfl,h1,h5⟩⟩
def JmP (w wx:World) (G:Nat) (a b:Fc) (g6:Nat) (u:Fc) (ok:Bool):Prop:=FaBox wx g6 (mkF u)/\FcOk wx u/\SwBox wx (G+2) (mkF fz0)/\Below w.heap.size w wx/\∃ qa qb,ExQ a qa/\ExQ b qb/\UnW a b qa qb u ok
def RjD (a b s:Fc) (er:Int):Prop:=(¬ (FormS a/\FormS b)/\er=1/\s=fz0)∨((FormS a/\FormS b)/\K.Clash (a.es++b.es)/\er=10/\s=fz0)∨((FormS a/\FormS b)/\¬ K.Clash (a.es++b.es)/\er=0/\JnA (ab a) (ab b) (ab s))
theorem box3W (w:World) (f g:Fc):∃ wk,((w.alloc (.cells (FaC (mkF f)) 29)).alloc (.cells (FaC (mkF g)) 29)).alloc (.cells (FaC (mkF fz0)) 29)=wk/\Hid (SwBox wk w.heap.size (mkF f))/\Hid (SwBox wk (w.heap.size+1) (mkF g))/\Hid (SwBox wk (w.heap.size+2) (mkF fz0))/\Hid (Below w.heap.size w wk):=by
 obtain ⟨w1,hw1,X1,Y1,B1,z1⟩:=box2J w f g;have b3:=below_new w1 (.cells (FaC (mkF fz0)) 29);have Z3:=SwBox_new w1 (mkF fz0);rw [z1] at Z3;rw [hw1];exact ⟨_,rfl,X1.out.below b3,Y1.out.below b3,Z3,B1.out.trans (b3.mono B1.out.size)⟩
attribute [local go_sem ↓] ldP_eq stP_eq ldFa_eq stFa_eq ldSw_eq stSw_eq bldS_eq
attribute [local go_sem] cells_PV PC_size cells_FaV FaC_size zero_FaZ run_bldS0
theorem refJoin11_any (a b:Fc) (w:World) (hA:FcOk w a) (hB:FcOk w b) (hn:a.rn+b.rn <= 2199023255551):Calls Tryz.prog 10 #[FaV (mkF a),FaV (mkF b)] w fun x w'=>SwE w w' x (RjD a b):=by
 obtain ⟨wk,hwk,HX,HY,HZ,HBK⟩:=box3W w a b;have HA:=hide (hA.below HBK.out);have HB:=hide (hB.below HBK.out);have HN:=hide hn;obtain ⟨G,hG0⟩:∃ G,w.heap.size=G:=⟨_,rfl⟩;rw [hG0] at HX HY HZ;have HGs:Hid (w.heap.size=G):=hG0;have HBad:Hid (∀ W,Below wk.heap.size wk W -> ¬ (FormS a/\FormS b) -> SwE w (W.setRow (G+2) (FaC (mkF fz0))) (.returned (.tuple #[FaV (mkF fz0),.int .i64 1])) (RjD a b)):=fun W h k=>⟨fz0,1,rfl,fz0_ok _,below_setRow (HBK.out.trans (h.mono HBK.out.size)) (by rw [HGs.out];omega),.inl ⟨k,rfl,rfl⟩⟩;clear hA hB hn;have la:=run_ldSw HX.out;go_enter Tryz.func10,Tryz.ntmps10;go_wp2_with fail;clear hwk hG0 la;refine (refInForm_any a _ HA.out).mono ?_;rintro x w4 ⟨v,rfl,hv,b4⟩;have HB4:=hide b4;clear b4
 cases v with
 | false =>
  have A4:=HZ.out.below HB4.out;have st:=run_stSw (m':=mkF fz0) A4;have HE1:Hid (SwBox (w4.setRow (G+2) (FaC (mkF fz0))) (G+2) (mkF fz0)):=A4.setRow;have HE:=hide (HBad.out _ HB4.out fun h=>by have:=hv.2 h.1;cases this);clear hv A4;go_wp2_with fail;clear st;refine bodyPost_ret (res2Sw rfl rfl rfl HE1.out) rfl ?_;exact HE.out
 | true =>
 have HFa:=hide (hv.1 rfl);clear hv;have lb:=run_ldSw (HY.out.below HB4.out);go_wp2_with fail;clear lb;refine (refInForm_any b _ (HB.out.below HB4.out)).mono ?_;rintro x w5 ⟨v,rfl,hv,b5⟩;have HB5:=wTr HB4 b5;clear b5
 cases v with
 | false =>
  have A5:=HZ.out.below HB5.out;have st:=run_stSw (m':=mkF fz0) A5;have HE1:Hid (SwBox (w5.setRow (G+2) (FaC (mkF fz0))) (G+2) (mkF fz0)):=A5.setRow;have HE:=hide (HBad.out _ HB5.out fun h=>by have:=hv.2 h.2;cases this);clear hv A5;go_wp2_with fail;clear st;refine bodyPost_ret (res2Sw rfl rfl rfl HE1.out) rfl ?_;exact HE.out
 | true =>
 have HFo:Hid (FormS a/\FormS b):=⟨HFa.out,hv.1 rfl⟩;clear hv;have HX5:=hide (HX.out.below HB5.out);have HY5:=hide (HY.out.below HB5.out);have HZ5:=hide (HZ.out.below HB5.out);have HA5:=hide (HA.out.below HB5.out);have HB5b:=hide (HB.out.below HB5.out);have HSt:Hid (∀ W,SwBox W G (mkF a) -> SwBox W (G+1) (mkF b) -> (ldSw (.pointer (some ⟨G,0,none⟩))).run Tryz.prog W = .ok (FaV (mkF a)) W/\(ldSw (.pointer (some ⟨G+1,0,none⟩))).run Tryz.prog W = .ok (FaV (mkF b)) W):=fun W h k=>⟨run_ldSw h,run_ldSw k⟩;clear HBad;go_upto_region 3 with fail
 go_cut [6,7] from 8 to 29 (fun v6 v7 wx=>∃ (g6:Nat) (u:Fc) (ok:Bool),v6 = .pointer (some ⟨g6,0,none⟩)/\v7 = .bool ok/\Hid (JmP w wx G a b g6 u ok))
 case first =>
  obtain ⟨v0,hv0⟩:∃ v,w5.drew=v:=⟨_,rfl⟩
  have H0:Hid (Below w5.heap.size w5 v0):=by rw [<- hv0];exact below_drew1 w5
  refine wp_region_held_drew (S:=fun W=>(ldSw (.pointer (some ⟨G,0,none⟩))).run Tryz.prog W = .ok (FaV (mkF a)) W/\(ldSw (.pointer (some ⟨G+1,0,none⟩))).run Tryz.prog W = .ok (FaV (mkF b)) W) (by kernel_rfl) (HSt.out _ (HX5.out.below (below_drew1 w5)) (HY5.out.below (below_drew1 w5))) (fun hHeld=>?_);rw [hv0] at hHeld ⊢;clear hv0;refine wU 0 ?_;refine wU 2 ?_;refine wpAnyH_ready (rs:=[1,8]) (by kernel_rfl) (by simp) ?_;refine AllReadyH.cons rfl (fun K hK=>?_) (AllReadyH.cons rfl (fun K hK=>?_) AllReadyH.nil)
  ·go_simp;go_wp2_with fail;refine (refExpand_any a _ (HA5.out.below H0.out)).mono ?_;rintro x v1 ⟨qa,rfl,F1,bb1,xq1⟩;have EA1:Hid (FcOk v1 (exf a qa)):=F1;have HQa:Hid (ExQ a qa):=xq1;have H1:=wTr H0 bb1;clear F1 xq1 bb1;refine hK.out _ _ (HSt.out _ (HX5.out.below H1.out) (HY5.out.below H1.out)) (fun hHeld=>?_);clear hK K;refine wpAnyH_ready (rs:=[3,8]) (by kernel_rfl) (by simp) ?_;refine AllReadyH.cons rfl (fun K hK=>?_) (AllReadyH.cons rfl (fun K hK=>?_) AllReadyH.nil)
   ·go_simp;go_wp2_with fail;refine (refExpand_any b _ (HB5b.out.below H1.out)).mono ?_;rintro x v2 ⟨qb,rfl,F2,bb2,xq2⟩;have EB2:Hid (FcOk v2 (exf b qb)):=F2;have HQb:Hid (ExQ b qb):=xq2;have H2:=wTr H1 bb2;have EA2:=hide (EA1.out.below bb2);clear F2 xq2 bb2;refine hK.out _ _ (HSt.out _ (HX5.out.below H2.out) (HY5.out.below H2.out)) (fun hHeld=>?_);clear hK K;refine wpAnyH_ready (rs:=[4,8]) (by kernel_rfl) (by simp) ?_;refine AllReadyH.cons rfl (fun K hK=>?_) (AllReadyH.cons rfl (fun K hK=>?_) AllReadyH.nil)
    ·go_simp;go_wp2_with fail;refine (refUnion11_any (exf a qa) (exf b qb) _ EA2.out EB2.out (exf_form HFo.out.1 HQa.out) (exf_form HFo.out.2 HQb.out) HN.out).mono ?_;rintro x v3 hU3;obtain ⟨u,ok,rfl,F3,bb3,hw3⟩:=hU3.one;have FU3:=hide F3;have HW:=hide hw3;have H3:=wTr H2 bb3;clear F3 hw3 bb3 hU3;refine hK.out _ _ (HSt.out _ (HX5.out.below H3.out) (HY5.out.below H3.out)) (fun hHeld=>?_);clear hK K;refine wU 5 ?_;refine wU 6 ?_;refine wU 7 ?_;refine wpAnyH_ready (rs:=[8]) (by kernel_rfl) (by simp) (.cons rfl (fun K hK=>?_) .nil);have bb4:=below_new v3 (.cells (FaC (mkF fz0)) 59);have X4:=FaBox_new v3 (mkF fz0);obtain ⟨v4,hv4⟩:∃ v,v3.alloc (.cells (FaC (mkF fz0)) 59)=v:=⟨_,rfl⟩;obtain ⟨g6,hg6⟩:∃ g,v3.heap.size=g:=⟨_,rfl⟩;go_simp;rw [hv4] at bb4 X4;rw [hg6] at X4;have BX4:=hide X4;have H4:=wTr H3 bb4
     have Hg6:Hid (wk.heap.size <= g6):=by rw [<- hg6];exact Nat.le_trans HB5.out.size H3.out.size
     have FU4:=hide (FU3.out.below bb4)
     try rw [hv4]
     try rw [hg6]
     refine hK.out _ _ (HSt.out _ (HX5.out.below H4.out) (HY5.out.below H4.out)) (fun hHeld=>?_);clear hK K bb4 X4 hv4 hg6;refine wpAnyH_ready (rs:=[9]) (by kernel_rfl) (by simp) (.cons rfl (fun K hK=>?_) .nil);have st9:=run_stFa (m':=mkF u) BX4.out;have HE:Hid (JmP w (v4.setRow g6 (FaC (mkF u))) G a b g6 u ok):=⟨BX4.out.setRow,FcOk.offF FU4.out BX4.out _,(setRow_other _ _ _ _ (by have:=Hg6.out;have:=HZ.out.lt;omega)).trans (HZ5.out.below H4.out),below_setRow (HBK.out.trans ((HB5.out.trans (H4.out.mono HB5.out.size)).mono HBK.out.size)) (by have:=Hg6.out;have:=HBK.out.size;omega),qa,qb,HQa.out,HQb.out,HW.out⟩;have HXe:Hid (SwBox (v4.setRow g6 (FaC (mkF u))) G (mkF a)):=(setRow_other _ _ _ _ (by have:=Hg6.out;have:=HX.out.lt;omega)).trans (HX5.out.below H4.out);have HYe:Hid (SwBox (v4.setRow g6 (FaC (mkF u))) (G+1) (mkF b)):=(setRow_other _ _ _ _ (by have:=Hg6.out;have:=HY.out.lt;omega)).trans (HY5.out.below H4.out)
     go_simp;refine hK.out _ _ (HSt.out _ HXe.out HYe.out) (fun hHeld=>?_);clear hK K st9;refine wU 10 ?_;refine wpAnyH_done (by kernel_rfl) ?_ _;clear hHeld;go_wp2_with fail;go_meet;exact ⟨g6,u,ok,rfl,rfl,HE⟩
    ·have bb5:=below_new v2 (.cells (FaC (mkF fz0)) 59);have X5:=FaBox_new v2 (mkF fz0);obtain ⟨v5,hv5⟩:∃ v,v2.alloc (.cells (FaC (mkF fz0)) 59)=v:=⟨_,rfl⟩;obtain ⟨g6,hg6⟩:∃ g,v2.heap.size=g:=⟨_,rfl⟩;go_simp;rw [hv5] at bb5 X5;rw [hg6] at X5;have BX5:=hide X5;have H5:=wTr H2 bb5
     have Hg6:Hid (wk.heap.size <= g6):=by rw [<- hg6];exact Nat.le_trans HB5.out.size H2.out.size
     have EA5:=hide (EA2.out.below bb5);have EB5:=hide (EB2.out.below bb5)
     try rw [hv5]
     try rw [hg6]
     refine hK.out _ _ (HSt.out _ (HX5.out.below H5.out) (HY5.out.below H5.out)) (fun hHeld=>?_);clear hK K bb5 X5 hv5 hg6;refine wpAnyH_ready (rs:=[4]) (by kernel_rfl) (by simp) (.cons rfl (fun K hK=>?_) .nil);go_simp;go_wp2_with fail;refine (refUnion11_any (exf a qa) (exf b qb) _ EA5.out EB5.out (exf_form HFo.out.1 HQa.out) (exf_form HFo.out.2 HQb.out) HN.out).mono ?_;rintro x v6 hU6;obtain ⟨u,ok,rfl,F6,bb6,hw6⟩:=hU6.one;have FU6:=hide F6;have HW:=hide hw6;have H6:=wTr H5 bb6;have BX6:=hide (BX5.out.below bb6);clear F6 hw6 bb6 hU6;refine hK.out _ _ (HSt.out _ (HX5.out.below H6.out) (HY5.out.below H6.out)) (fun hHeld=>?_);clear hK K;refine wU 5 ?_;refine wU 6 ?_;refine wU 7 ?_;refine wpAnyH_ready (rs:=[9]) (by kernel_rfl) (by simp) (.cons rfl (fun K hK=>?_) .nil);have st9:=run_stFa (m':=mkF u) BX6.out;have HE:Hid (JmP w (v6.setRow g6 (FaC (mkF u))) G a b g6 u ok):=⟨BX6.out.setRow,FcOk.offF FU6.out BX6.out _,(setRow_other _ _ _ _ (by have:=Hg6.out;have:=HZ.out.lt;omega)).trans (HZ5.out.below H6.out),below_setRow (HBK.out.trans ((HB5.out.trans (H6.out.mono HB5.out.size)).mono HBK.out.size)) (by have:=Hg6.out;have:=HBK.out.size;omega),qa,qb,HQa.out,HQb.out,HW.out⟩
     have HXe:Hid (SwBox (v6.setRow g6 (FaC (mkF u))) G (mkF a)):=(setRow_other _ _ _ _ (by have:=Hg6.out;have:=HX.out.lt;omega)).trans (HX5.out.below H6.out);have HYe:Hid (SwBox (v6.setRow g6 (FaC (mkF u))) (G+1) (mkF b)):=(setRow_other _ _ _ _ (by have:=Hg6.out;have:=HY.out.lt;omega)).trans (HY5.out.below H6.out);go_simp;refine hK.out _ _ (HSt.out _ HXe.out HYe.out) (fun hHeld=>?_);clear hK K st9;refine wU 10 ?_;refine wpAnyH_done (by kernel_rfl) ?_ _;clear hHeld;go_wp2_with fail;go_meet;exact ⟨g6,u,ok,rfl,rfl,HE⟩
   ·have bb7:=below_new v1 (.cells (FaC (mkF fz0)) 59);have X7:=FaBox_new v1 (mkF fz0);obtain ⟨v7,hv7⟩:∃ v,v1.alloc (.cells (FaC (mkF fz0)) 59)=v:=⟨_,rfl⟩;obtain ⟨g6,hg6⟩:∃ g,v1.heap.size=g:=⟨_,rfl⟩;go_simp;rw [hv7] at bb7 X7;rw [hg6] at X7;have BX7:=hide X7;have H7:=wTr H1 bb7
    have Hg6:Hid (wk.heap.size <= g6):=by rw [<- hg6];exact Nat.le_trans HB5.out.size H1.out.size
    have EA7:=hide (EA1.out.below bb7)
    try rw [hv7]
    try rw [hg6]
    refine hK.out _ _ (HSt.out _ (HX5.out.below H7.out) (HY5.out.below H7.out)) (fun hHeld=>?_);clear hK K bb7 X7 hv7 hg6;refine wpAnyH_ready (rs:=[3]) (by kernel_rfl) (by simp) (.cons rfl (fun K hK=>?_) .nil);go_simp;go_wp2_with fail;refine (refExpand_any b _ (HB5b.out.below H7.out)).mono ?_;rintro x v8 ⟨qb,rfl,F8,bb8,xq8⟩;have EB8:Hid (FcOk v8 (exf b qb)):=F8;have HQb:Hid (ExQ b qb):=xq8;have H8:=wTr H7 bb8;have EA8:=hide (EA7.out.below bb8);have BX8:=hide (BX7.out.below bb8);clear F8 xq8 bb8;refine hK.out _ _ (HSt.out _ (HX5.out.below H8.out) (HY5.out.below H8.out)) (fun hHeld=>?_);clear hK K;refine wpAnyH_ready (rs:=[4]) (by kernel_rfl) (by simp) (.cons rfl (fun K hK=>?_) .nil);go_simp;go_wp2_with fail;refine (refUnion11_any (exf a qa) (exf b qb) _ EA8.out EB8.out (exf_form HFo.out.1 HQa.out) (exf_form HFo.out.2 HQb.out) HN.out).mono ?_
    rintro x v9 hU9;obtain ⟨u,ok,rfl,F9,bb9,hw9⟩:=hU9.one;have FU9:=hide F9;have HW:=hide hw9;have H9:=wTr H8 bb9;have BX9:=hide (BX8.out.below bb9);clear F9 hw9 bb9 hU9;refine hK.out _ _ (HSt.out _ (HX5.out.below H9.out) (HY5.out.below H9.out)) (fun hHeld=>?_);clear hK K;refine wU 5 ?_;refine wU 6 ?_;refine wU 7 ?_;refine wpAnyH_ready (rs:=[9]) (by kernel_rfl) (by simp) (.cons rfl (fun K hK=>?_) .nil);have st9:=run_stFa (m':=mkF u) BX9.out;have HE:Hid (JmP w (v9.setRow g6 (FaC (mkF u))) G a b g6 u ok):=⟨BX9.out.setRow,FcOk.offF FU9.out BX9.out _,(setRow_other _ _ _ _ (by have:=Hg6.out;have:=HZ.out.lt;omega)).trans (HZ5.out.below H9.out),below_setRow (HBK.out.trans ((HB5.out.trans (H9.out.mono HB5.out.size)).mono HBK.out.size)) (by have:=Hg6.out;have:=HBK.out.size;omega),qa,qb,HQa.out,HQb.out,HW.out⟩;have HXe:Hid (SwBox (v9.setRow g6 (FaC (mkF u))) G (mkF a)):=(setRow_other _ _ _ _ (by have:=Hg6.out;have:=HX.out.lt;omega)).trans (HX5.out.below H9.out)
    have HYe:Hid (SwBox (v9.setRow g6 (FaC (mkF u))) (G+1) (mkF b)):=(setRow_other _ _ _ _ (by have:=Hg6.out;have:=HY.out.lt;omega)).trans (HY5.out.below H9.out);go_simp;refine hK.out _ _ (HSt.out _ HXe.out HYe.out) (fun hHeld=>?_);clear hK K st9;refine wU 10 ?_;refine wpAnyH_done (by kernel_rfl) ?_ _;clear hHeld;go_wp2_with fail;go_meet;exact ⟨g6,u,ok,rfl,rfl,HE⟩
  ·have bb10:=below_new v0 (.cells (FaC (mkF fz0)) 59);have X10:=FaBox_new v0 (mkF fz0);obtain ⟨v10,hv10⟩:∃ v,v0.alloc (.cells (FaC (mkF fz0)) 59)=v:=⟨_,rfl⟩;obtain ⟨g6,hg6⟩:∃ g,v0.heap.size=g:=⟨_,rfl⟩;go_simp;rw [hv10] at bb10 X10;rw [hg6] at X10;have BX10:=hide X10;have H10:=wTr H0 bb10
   have Hg6:Hid (wk.heap.size <= g6):=by rw [<- hg6];exact Nat.le_trans HB5.out.size H0.out.size
   try rw [hv10]
   try rw [hg6]
   refine hK.out _ _ (HSt.out _ (HX5.out.below H10.out) (HY5.out.below H10.out)) (fun hHeld=>?_);clear hK K bb10 X10 hv10 hg6;refine wpAnyH_ready (rs:=[1]) (by kernel_rfl) (by simp) (.cons rfl (fun K hK=>?_) .nil);go_simp;go_wp2_with fail;refine (refExpand_any a _ (HA5.out.below H10.out)).mono ?_;rintro x v11 ⟨qa,rfl,F11,bb11,xq11⟩;have EA11:Hid (FcOk v11 (exf a qa)):=F11;have HQa:Hid (ExQ a qa):=xq11;have H11:=wTr H10 bb11;have BX11:=hide (BX10.out.below bb11);clear F11 xq11 bb11;refine hK.out _ _ (HSt.out _ (HX5.out.below H11.out) (HY5.out.below H11.out)) (fun hHeld=>?_);clear hK K;refine wpAnyH_ready (rs:=[3]) (by kernel_rfl) (by simp) (.cons rfl (fun K hK=>?_) .nil);go_simp;go_wp2_with fail;refine (refExpand_any b _ (HB5b.out.below H11.out)).mono ?_;rintro x v12 ⟨qb,rfl,F12,bb12,xq12⟩;have EB12:Hid (FcOk v12 (exf b qb)):=F12;have HQb:Hid (ExQ b qb):=xq12
   have H12:=wTr H11 bb12;have EA12:=hide (EA11.out.below bb12);have BX12:=hide (BX11.out.below bb12);clear F12 xq12 bb12;refine hK.out _ _ (HSt.out _ (HX5.out.below H12.out) (HY5.out.below H12.out)) (fun hHeld=>?_);clear hK K;refine wpAnyH_ready (rs:=[4]) (by kernel_rfl) (by simp) (.cons rfl (fun K hK=>?_) .nil);go_simp;go_wp2_with fail;refine (refUnion11_any (exf a qa) (exf b qb) _ EA12.out EB12.out (exf_form HFo.out.1 HQa.out) (exf_form HFo.out.2 HQb.out) HN.out).mono ?_;rintro x v13 hU13;obtain ⟨u,ok,rfl,F13,bb13,hw13⟩:=hU13.one;have FU13:=hide F13;have HW:=hide hw13;have H13:=wTr H12 bb13;have BX13:=hide (BX12.out.below bb13);clear F13 hw13 bb13 hU13;refine hK.out _ _ (HSt.out _ (HX5.out.below H13.out) (HY5.out.below H13.out)) (fun hHeld=>?_);clear hK K;refine wU 5 ?_;refine wU 6 ?_;refine wU 7 ?_;refine wpAnyH_ready (rs:=[9]) (by kernel_rfl) (by simp) (.cons rfl (fun K hK=>?_) .nil)
   have st9:=run_stFa (m':=mkF u) BX13.out;have HE:Hid (JmP w (v13.setRow g6 (FaC (mkF u))) G a b g6 u ok):=⟨BX13.out.setRow,FcOk.offF FU13.out BX13.out _,(setRow_other _ _ _ _ (by have:=Hg6.out;have:=HZ.out.lt;omega)).trans (HZ5.out.below H13.out),below_setRow (HBK.out.trans ((HB5.out.trans (H13.out.mono HB5.out.size)).mono HBK.out.size)) (by have:=Hg6.out;have:=HBK.out.size;omega),qa,qb,HQa.out,HQb.out,HW.out⟩;have HXe:Hid (SwBox (v13.setRow g6 (FaC (mkF u))) G (mkF a)):=(setRow_other _ _ _ _ (by have:=Hg6.out;have:=HX.out.lt;omega)).trans (HX5.out.below H13.out);have HYe:Hid (SwBox (v13.setRow g6 (FaC (mkF u))) (G+1) (mkF b)):=(setRow_other _ _ _ _ (by have:=Hg6.out;have:=HY.out.lt;omega)).trans (HY5.out.below H13.out);go_simp;refine hK.out _ _ (HSt.out _ HXe.out HYe.out) (fun hHeld=>?_);clear hK K st9;refine wU 10 ?_;refine wpAnyH_done (by kernel_rfl) ?_ _
   clear hHeld;go_wp2_with fail;go_meet;exact ⟨g6,u,ok,rfl,rfl,HE⟩
 case rest =>
  obtain ⟨g6,u,ok,rfl,rfl,HJ⟩:=hcut
  rename World=>w6
  obtain ⟨X6,F6,Z6,B6,qa,qb,xa,xb,hw⟩:=HJ.out;have HX6:=hide X6;have HF6:=hide F6;have HZ6:=hide Z6;have HB6:=hide B6;have HU:=hide xa;have HV:=hide xb;have HW:=hide hw;have HFx:=HA;have HFy:=HB;clear X6 F6 Z6 B6 xa xb hw HJ HX5 HY5 HZ5 HSt HX HY HZ
  cases ok with
  | false =>
   have HC:Hid (K.Clash (a.es++b.es)):=HW.out.elim (fun h=>h.2.1) fun h=>absurd h.1 (by decide);have st:=run_stSw (m':=mkF fz0) HZ6.out;have HE1:Hid (SwBox (w6.setRow (G+2) (FaC (mkF fz0))) (G+2) (mkF fz0)):=HZ6.out.setRow;have HE:Hid (SwE w (w6.setRow (G+2) (FaC (mkF fz0))) (.returned (.tuple #[FaV (mkF fz0),.int .i64 10])) (RjD a b)):=⟨fz0,10,rfl,fz0_ok _,below_setRow HB6.out (by rw [HGs.out];omega),.inr (.inl ⟨HFo.out,HC.out,rfl,rfl⟩)⟩;go_wp2_with fail;clear st;refine bodyPost_ret (res2Sw rfl rfl rfl HE1.out) rfl ?_;exact HE.out
  | true =>
   obtain ⟨-,hnc,hud⟩:true=true/\¬ K.Clash (a.es++b.es)/\UnD (exf a qa) (exf b qb) u:=HW.out.elim (fun h=>absurd h.1 (by decide)) id;have HNc:=hide hnc;have HUd:=hide hud;have Hfu:Hid (FormF u):=unD_form HF6.out (f:=exf a qa) (g:=exf b qb) HFx.out.es.1 HFy.out.es.1 (exf_form HFo.out.1 HU.out) (exf_form HFo.out.2 HV.out) hud;clear hnc hud;have l6:=run_ldFa HX6.out;go_wp2_with fail;clear l6;refine (refState11_any u _ HF6.out Hfu.out).mono ?_;rintro x w7 ⟨s,rfl,F7,b7,hS⟩;have A7:=HZ6.out.below b7;have st:=run_stSw (m':=mkF s) A7;have HE1:Hid (SwBox (w7.setRow (G+2) (FaC (mkF s))) (G+2) (mkF s)):=A7.setRow;have HE:Hid (SwE w (w7.setRow (G+2) (FaC (mkF s))) (.returned (.tuple #[FaV (mkF s),.int .i64 0])) (RjD a b)):=⟨s,0,rfl,F7.offW A7 _,below_setRow (HB6.out.trans (b7.mono HB6.out.size)) (by rw [HGs.out];omega),.inr (.inr ⟨HFo.out,HNc.out,rfl,exp_jn HFx.out HFy.out HFo.out.1 HFo.out.2 HNc.out HU.out HV.out HUd.out hS⟩)⟩
   clear F7 b7 hS A7;go_wp2_with fail;clear st;refine bodyPost_ret (res2Sw rfl rfl rfl HE1.out) rfl ?_;exact HE.out
end
end Go.Proofs.YtaphmhbmhcahaaaGreat
