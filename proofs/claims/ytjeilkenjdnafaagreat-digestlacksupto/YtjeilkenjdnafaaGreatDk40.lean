/- SZd SZe SZf TLv TCl TSr TMn -/
import Derived.Test.YtjeilkenjdnafaaGreatTk
import Derived.Test.YtjeilkenjdnafaaGreatDk34
import Derived.Test.YtjeilkenjdnafaaGreatDk35
import Derived.Test.YtjeilkenjdnafaaGreatDk37
import Derived.Test.YtjeilkenjdnafaaGreatDk39
import Derived.Test.YtjeilkenjdnafaaGreatDk27
import Derived.Test.YtjeilkenjdnafaaGreatDk19
import Derived.Test.YtjeilkenjdnafaaGreatDk38
import Derived.Test.YtjeilkenjdnafaaGreatDk20
import Derived.Test.YtjeilkenjdnafaaGreatDk16
import Derived.Test.YtjeilkenjdnafaaGreatDk33
import Derived.Deep.CutRange
set_option maxRecDepth 100000
set_option maxHeartbeats 3200000
namespace Go.Proofs.YtjeilkenjdnafaaGreat
section
open Go.RowKit
attribute [local go_sem ↓] ldP_eq stP_eq ldFa_eq stFa_eq ldD_eq stD_eq K.ld28_eq K.st28_eq ldRe_eq stRe_eq
attribute [local go_sem] cells_PV PC_size cells_FaV FaC_size zero_FaZ cells_RV RC_size zero_RC fold_RC K.zero_EC K.cells_EV K.EC_size K.fold_EC cells_ReV ReC_size zero_ReC
def lvB (P:Pst) (R:List Rc) (e:K.En):Bool := !(inB P e) && freeB R e
theorem lv_nil (P:Pst) (e:K.En):lvB P [] e = !(inB P e):=by unfold lvB freeB;simp
theorem lv_snoc (P:Pst) (R:List Rc) (r:Rc) (e:K.En):lvB P (R++[r]) e=(lvB P R e && !(covB r e)):=by
 unfold lvB freeB;rw [List.any_append,List.any_cons,List.any_nil,Bool.or_false,Bool.not_or,Bool.and_assoc]
theorem takeR3 (L:List Rc) (k:Nat) (h:k < L.length):L.take (k+1)=L.take k++[L.getD k rc0]:=by
 rw [List.take_succ_eq_append_getElem h];simp [List.getD,h]
theorem refLive11_any (f:Fc) (w:World) (hF:FcOk w f):Calls Tryz.prog 52 #[FaV (mkF f)] w fun x w'=>LvS w w' x (f.es.filter (lvB f.p.P f.rs)):=by
 have b1:=below_new w (.cells (FaC (mkF f)) 29);have X1:=FaBox_new w (mkF f);obtain ⟨wk,hwk⟩:∃ w1,w.alloc (.cells (FaC (mkF f)) 29)=w1:=⟨_,rfl⟩;rw [hwk] at b1 X1;obtain ⟨G,hG0⟩:∃ G,w.heap.size=G:=⟨_,rfl⟩;rw [hG0] at X1;have HX:=hide X1;have HBK:=hide b1;have HF:=hide (hF.below b1);clear hF b1 X1;go_enter Tryz.func52,Tryz.ntmps52;obtain ⟨n,hn⟩:∃ n,f.an=n:=⟨_,rfl⟩;obtain ⟨ao,hao⟩:∃ a,f.ao=a:=⟨_,rfl⟩;obtain ⟨ac,hac⟩:∃ a,f.ac=a:=⟨_,rfl⟩;obtain ⟨m,hm⟩:∃ n,f.rn=n:=⟨_,rfl⟩
 have HS:Hid (K.ESrc wk ao n ac f.es):=by rw [<- hn,<- hao,<- hac];exact HF.out.es
 have HR:Hid (RcS wk f.ro m f.rc f.rs):=by rw [<- hm];exact HF.out.rs
 have HCs:Hid (∀ W,Below wk.heap.size wk W -> W.cell? ⟨G,0,none⟩=some (.slice ao n ac)):=fun W h=>by rw [<- hn,<- hao,<- hac];exact (HX.out.below h).cs.1
 have HC3:Hid (∀ W,Below wk.heap.size wk W -> W.cell? ⟨G,3,none⟩=some (.slice f.ro m f.rc)):=fun W h=>by rw [<- hm];exact (HX.out.below h).cs.2
 have HLn:Hid (f.es.length=n):=HS.out.1;have HLr:Hid (f.rs.length=m):=HR.out.len;have hnb:=HS.out.2.2.2.2;have hmb:=HR.out.big;go_wp2_with fail;clear hn hao hac hwk hG0 hm;go_loopw [3,4,5,6] (fun v i _ _ wr=>∃ (k:Nat) (ap:Option Addr) (c2:Nat) (acc:List K.En),k <= n/\v = .slice ap acc.length c2/\i = .int .i64 (k:Int)/\Hid (acc=(f.es.take k).filter (lvB f.p.P f.rs)/\K.OwnE wk.heap.size wk.heap.size wk wr ap c2 acc)) (fun _ i _ _ _=>n - (intOf i).toNat)
 case atStart=>exact ⟨0,none,0,[],Nat.zero_le _,rfl,rfl,rfl,K.OwnE.nil (Below.refl _ _) (Nat.le_refl _) (Nat.le_refl _)⟩
 case round =>
  obtain ⟨k,ap,c2,acc,hk,rfl,rfl,HO⟩:=hrel
  rename World=>wr
  have c0:=HCs.out _ HO.out.2.below;by_cases hlt:k < n
  ·have hlti:(k:Int) < (n:Int):=by omega
   have hal:acc.length <= k:=by
    rw [HO.out.1];refine Nat.le_trans (List.length_filter_le _ _) ?_;rw [List.length_take];omega
   have halb:acc.length < 3518437208883:=by omega
   have HT:=hide (takeE3 f.es k (by rw [HLn.out];exact hlt));obtain ⟨ad,hao,A0⟩:=(HS.out.below HO.out.2.below).at k hlt;subst hao;obtain ⟨e,He⟩:∃ e,Hid (f.es.getD k K.en0=e):=⟨_,rfl⟩;rw [He.out] at HT;have Hlt:=hide hlt
   have HEn:Hid (∀ W,Below wk.heap.size wk W -> K.EnAt W (ad.add (k * 4)) e):=fun W hW=>by
    obtain ⟨ad',he',h⟩:=(HS.out.below hW).at k Hlt.out;obtain rfl:=Option.some.inj he';rw [He.out] at h;exact h
   have HSt:Hid (∀ W,Below wk.heap.size wk W -> W.cell? ⟨G,0,none⟩=some (.slice (some ad) n ac)/\(ldP (.pointer (some ⟨G,1,none⟩))).run Tryz.prog W = .ok (PV f.p) W/\(ldD (.pointer (some (ad.add (k * 4))))).run Tryz.prog W = .ok (RV (dotOf e)) W):=fun W hW=>by
    have A:=HEn.out W hW;exact ⟨HCs.out _ hW,run_ldP (HX.out.below hW).past,run_ldD (r:=dotOf e) ⟨A.c0,A.c1⟩⟩
   have HO1:=hide (HO.out.2.later (below_drew1 wr));have Hacc:=hide HO.out.1;clear A0 hlt hk HO;go_upto_region 5 with fail;refine wp_region_held_drew (S:=fun W=>W.cell? ⟨G,0,none⟩=some (.slice (some ad) n ac)/\(ldP (.pointer (some ⟨G,1,none⟩))).run Tryz.prog W = .ok (PV f.p) W/\(ldD (.pointer (some (ad.add (k * 4))))).run Tryz.prog W = .ok (RV (dotOf e)) W) (by kernel_rfl) (HSt.out _ HO1.out.below) (fun hHeld=>?_);refine wU 0 ?_;refine wU 1 ?_;refine wU 2 ?_;refine wU 3 ?_;refine wU 4 ?_;refine wU 5 ?_;refine wU 6 ?_;refine wU 7 ?_;refine wpAnyH_ready (rs:=[8]) (by kernel_rfl) (by simp) (.cons rfl (fun K hK=>?_) .nil);go_simp;go_wp2_with fail;refine (refHas_any f.p (dotOf e) _ (HF.out.p.below HO1.out.below)).mono ?_;rintro x w5 ⟨y,rfl,hy,b5⟩
   obtain rfl:y=inB f.p.P e:=by rw [Bool.eq_iff_iff,inB_iff];exact hy.out
   have HO5:=hide (HO1.out.later b5);clear hy b5;refine hK.out _ _ (HSt.out _ HO5.out.below) (fun hHeld=>?_);clear hK K;refine wU 9 ?_;refine wU 10 ?_;refine wpAnyH_done (by kernel_rfl) ?_ _;clear hHeld;clear c0;go_wp2_with fail;go_loopw [5,6] (fun l j wq=>∃ q:Nat,q <= m/\l = .bool (lvB f.p.P (f.rs.take q) e)/\j = .int .i64 (q:Int)/\Hid (K.OwnE wk.heap.size wk.heap.size wk wq ap c2 acc)) (fun _ j _=>m - (intOf j).toNat)
   case atStart=>exact ⟨0,Nat.zero_le _,by rw [List.take_zero,lv_nil],rfl,HO5.out⟩
   case round =>
    obtain ⟨j,hj,rfl,rfl,HO6⟩:=hrel
    rename World=>wq
    have c3:=HC3.out _ HO6.out.below;by_cases hlj:j < m
    ·have hlji:(j:Int) < (m:Int):=by omega
     have HO7:=hide (HO6.out.later (below_drew1 wq));have Hlj:=hide hlj;obtain ⟨bd,hbo,-⟩:=HR.out.at j hlj;obtain ⟨r,Hr⟩:∃ r,Hid (f.rs.getD j rc0=r):=⟨_,rfl⟩;have HTr:=hide (takeR3 f.rs j (by rw [HLr.out];exact hlj));rw [Hr.out] at HTr
     have HRk:Hid (RcOk wk r):=by rw [<- Hr.out];exact HR.out.okAt j hlj
     have Hbo:=hide hbo
     have HS9:Hid (∀ W,Below wk.heap.size wk W -> (W.cell? ⟨G,3,none⟩=some (.slice (some bd) m f.rc)/\W.cell? ⟨G,0,none⟩=some (.slice (some ad) n ac))/\(ldRe (.pointer (some (bd.add (j * 3))))).run Tryz.prog W = .ok (.agg (ReC (mkR r))) W/\(K.ld28 (.pointer (some (ad.add (k * 4))))).run Tryz.prog W = .ok (K.EV e) W):=fun W hW=>by
      obtain ⟨bd',eb,B⟩:=(HR.out.below hW).at j Hlj.out;rw [Hbo.out] at eb;obtain rfl:=Option.some.inj eb;rw [Hr.out] at B;have h3:=HC3.out _ hW;rw [Hbo.out] at h3;exact ⟨⟨h3,HCs.out _ hW⟩,run_laRe B,K.run_ld28 (HEn.out W hW)⟩
     have hkn:(k:Int) < (n:Int):=by have:=Hlt.out;omega
     obtain ⟨b,hb9⟩:∃ b,lvB f.p.P (f.rs.take j) e=b:=⟨_,rfl⟩;have Hb:=hide hb9;rw [hb9];clear hb9 hlj hj hbo;have hb9:=True.intro
     cases b with
     | true =>
      go_upto_region 9 with fail;clear c3;refine wp_region_held_drew (S:=fun W=>(W.cell? ⟨G,3,none⟩=some (.slice (some bd) m f.rc)/\W.cell? ⟨G,0,none⟩=some (.slice (some ad) n ac))/\(ldRe (.pointer (some (bd.add (j * 3))))).run Tryz.prog W = .ok (.agg (ReC (mkR r))) W/\(K.ld28 (.pointer (some (ad.add (k * 4))))).run Tryz.prog W = .ok (K.EV e) W) (by kernel_rfl) (HS9.out _ HO7.out.below) (fun hHeld=>?_);refine wU 0 ?_;refine wU 1 ?_;refine wU 2 ?_;refine wU 3 ?_;refine wU 4 ?_;refine wU 5 ?_;refine wU 6 ?_;refine wU 7 ?_;refine wU 8 ?_;refine wU 9 ?_;refine wU 10 ?_;refine wU 11 ?_;refine wpAnyH_ready (rs:=[12]) (by kernel_rfl) (by simp) (.cons rfl (fun K hK=>?_) .nil);go_simp;go_wp2_with fail;refine (covers08_any r e _ (HRk.out.below HO7.out.below)).mono ?_;rintro x w8 ⟨rfl,b8⟩;have HO8:=hide (HO7.out.later b8);clear b8;refine hK.out _ _ (HS9.out _ HO8.out.below) (fun hHeld=>?_)
      clear hK K;refine wU 13 ?_;refine wU 14 ?_;refine wU 15 ?_;refine wpAnyH_done (by kernel_rfl) ?_ _;clear hHeld
      have HN:Hid (Value.bool (!covB r e) = .bool (lvB f.p.P (f.rs.take (j+1)) e)):=by
       show _=_
       rw [HTr.out,lv_snoc,Hb.out,Bool.true_and]
      clear hb9;go_wp2_with fail;go_roundw
      case rel=>exact ⟨j+1,Hlj.out,HN.out,by simp,HO8.out⟩
      case measure=>simp [intOf];have:=Hlj.out;omega
     | false =>
      go_upto_region 9 with fail;clear c3;refine wp_region_held_drew (S:=fun W=>(W.cell? ⟨G,3,none⟩=some (.slice (some bd) m f.rc)/\W.cell? ⟨G,0,none⟩=some (.slice (some ad) n ac))/\(ldRe (.pointer (some (bd.add (j * 3))))).run Tryz.prog W = .ok (.agg (ReC (mkR r))) W/\(K.ld28 (.pointer (some (ad.add (k * 4))))).run Tryz.prog W = .ok (K.EV e) W) (by kernel_rfl) (HS9.out _ HO7.out.below) (fun hHeld=>?_);refine wU 0 ?_;refine wU 1 ?_;refine wV 2 ?_;refine wV 3 ?_;refine wV 4 ?_;refine wV 5 ?_;refine wV 6 ?_;refine wV 7 ?_;refine wV 8 ?_;refine wV 9 ?_;refine wV 10 ?_;refine wV 11 ?_;refine wV 12 ?_;refine wV 13 ?_;refine wU 14 ?_;refine wU 15 ?_;refine wpAnyH_done (by kernel_rfl) ?_ _;clear hHeld
      have HN:Hid (Value.bool false = .bool (lvB f.p.P (f.rs.take (j+1)) e)):=by
       show _=_
       rw [HTr.out,lv_snoc,Hb.out,Bool.false_and]
      clear hb9;go_wp2_with fail;go_roundw
      case rel=>exact ⟨j+1,Hlj.out,HN.out,by simp,HO7.out⟩
      case measure=>simp [intOf];have:=Hlj.out;omega
    ·have hlji:¬ (j:Int) < (m:Int):=by omega
     have htk:f.rs.take j=f.rs:=List.take_of_length_le (by rw [HLr.out];omega);obtain ⟨b,hb⟩:∃ b,lvB f.p.P f.rs e=b:=⟨_,rfl⟩;rw [htk,hb];have Hb:=hide hb
     have Hf:Hid ((f.es.take (k+1)).filter (lvB f.p.P f.rs)=acc++(if b then [e] else [])):=by
      show _=_
      rw [HT.out,List.filter_append,<- Hacc.out,List.filter_cons,hb]
      cases b <;> rfl
     clear hb htk
     cases b with
     | true =>
      have c0:=HCs.out _ HO6.out.below;have l6:=K.run_ld28 (HEn.out _ HO6.out.below)
      have hlt2:(k:Int) < (n:Int):=by have:=Hlt.out;omega
      have HO6':=HO6;clear HO6;go_wp2_with (at_builtin;refine HO6'.out.append e _ rfl halb rfl (.tmp 47) (.tmp 53) rfl acc.length rfl rfl rfl ?_;intro g6 c6 w7 O7 hk7;have HO7:=hide O7;clear O7 hk7);clear l6 c3;go_roundw
      case rel=>exact ⟨k+1,some ⟨g6,0,none⟩,c6,acc++[e],Hlt.out,by simp,by simp,Hf.out.symm,HO7.out⟩
      case measure=>simp [intOf];have:=Hlt.out;omega
     | false =>
      have hlt2:(k:Int) < (n:Int):=by have:=Hlt.out;omega
      go_wp2_with fail;clear c3;go_roundw
      case rel=>exact ⟨k+1,ap,c2,acc,Hlt.out,rfl,by simp,by rw [Hf.out];simp,HO6.out⟩
      case measure=>simp [intOf];have:=Hlt.out;omega
  ·have hlti:¬ (k:Int) < (n:Int):=by omega
   have HE:Hid (LvS w wr (.returned (.slice ap acc.length c2)) (f.es.filter (lvB f.p.P f.rs))):=by
    obtain ⟨h1,h2⟩:=HO.out
    have h3:acc=f.es.filter (lvB f.p.P f.rs):=by rw [h1,List.take_of_length_le (by rw [HLn.out];omega)]
    obtain ⟨S9,-⟩:=h2.src (fun e he=>HS.out.2.2.2.1 e (by rw [h3] at he;exact (List.mem_filter.1 he).1)) (by
     have h4:acc.length <= n:=by rw [h3];exact Nat.le_trans (List.length_filter_le _ _) (Nat.le_of_eq HLn.out)
     omega)
    rw [<- h3];exact ⟨ap,acc.length,c2,rfl,S9,HBK.out.trans (h2.below.mono HBK.out.size)⟩
   clear HO;go_wp2_with fail;go_ret;exact HE.out
end
section
open Go.RowKit
def StD (f s:Fc):Prop:=s.es=f.es.filter (lvB f.p.P f.rs)/\HeardOf f s.p.P/\WtOf f.rs s.p.P s.rs
attribute [local go_sem ↓] ldP_eq stP_eq ldFa_eq stFa_eq ldSw_eq stSw_eq bldS_eq bsPs_eq
attribute [local go_sem] cells_PV PC_size cells_FaV FaC_size zero_FaZ run_bsPs run_bldS run_bldS0 zero_PC
theorem refState11_any (f:Fc) (w:World) (hF:FcOk w f) (hFo:FormF f):Calls Tryz.prog 24 #[FaV (mkF f)] w fun e w'=>SwS w w' e (fun s=>StD f s/\FcR s):=by
 have HFo:=hide hFo;clear hFo;have b1:=below_new w (.cells (FaC (mkF f)) 29);have X1:=FaBox_new w (mkF f);obtain ⟨w1,hw1⟩:∃ w1,w.alloc (.cells (FaC (mkF f)) 29)=w1:=⟨_,rfl⟩
 have hs1:w1.heap.size=w.heap.size+1:=by rw [<- hw1];simp
 rw [hw1] at b1 X1;have x2:SwBox (w1.alloc (.cells (FaC (mkF fz0)) 31)) w1.heap.size (mkF fz0):=SwBox_new w1 (mkF fz0);have b2:=below_new w1 (.cells (FaC (mkF fz0)) 31);obtain ⟨w2,hw2⟩:∃ w2,w1.alloc (.cells (FaC (mkF fz0)) 31)=w2:=⟨_,rfl⟩;rw [hw2] at x2 b2;rw [hs1] at x2;obtain ⟨G,hG0⟩:∃ G,w.heap.size=G:=⟨_,rfl⟩;rw [hG0] at X1 x2 hs1;have HX:=hide (X1.below b2);have HZ:=hide x2;have HBK:=hide (b1.trans (b2.mono b1.size));have HF:=hide (hF.below HBK.out);have HGs:Hid (w.heap.size=G):=hG0;clear hF b1 b2 X1 x2;have lf:=run_ldFa HX.out;go_enter Tryz.func24,Tryz.ntmps24;go_wp2_with fail;clear hw1 hw2 hs1 hG0 lf;refine (refHeard_any f _ HF.out HFo.out).mono ?_;rintro x wq ⟨p,rfl,Sp,-,bq,He⟩;obtain ⟨g3,hg3⟩:∃ g,wq.heap.size=g:=⟨_,rfl⟩;obtain ⟨w3,hst,X3,B3,-⟩:=madeP wq p g3 hg3;have b23:=bq.trans (B3.mono bq.size)
 have HX3:=hide (HX.out.below b23);have HZ3:=hide (HZ.out.below b23);have HF3:=hide (HF.out.below b23);have HBK3:=wTr HBK b23;have HP3:=hide X3;have HSp:=hide (Sp.below B3);have HHe:=hide He
 have HG3:Hid (G+1 < g3):=by
  have h1:=HZ.out.lt;have h2:=bq.size
  show G+1 < g3
  omega
 have HSt:Hid (∀ W,FaBox W G (mkF f) -> PBox W g3 p -> (ldFa (.pointer (some ⟨G,0,none⟩))).run Tryz.prog W = .ok (FaV (mkF f)) W/\(ldP (.pointer (some ⟨g3,0,none⟩))).run Tryz.prog W = .ok (PV p) W/\W.cell? ⟨G,3,none⟩=some (.slice f.ro f.rn f.rc)):=fun W h k=>⟨run_ldFa h,run_ldP k.at,h.cs.2⟩;clear Sp bq He X3 B3 b23;go_upto_region 2 with fail;clear hst hg3;refine wp_region_held_drew (S:=fun W=>(ldFa (.pointer (some ⟨G,0,none⟩))).run Tryz.prog W = .ok (FaV (mkF f)) W/\(ldP (.pointer (some ⟨g3,0,none⟩))).run Tryz.prog W = .ok (PV p) W/\W.cell? ⟨G,3,none⟩=some (.slice f.ro f.rn f.rc)) (by kernel_rfl) (HSt.out _ (HX3.out.below (below_drew1 w3)) (HP3.out.below (below_drew1 w3))) (fun hHeld=>?_);refine wU 0 ?_;refine wU 2 ?_;refine wU 3 ?_;refine wU 4 ?_;refine wU 5 ?_;refine wpAnyH_ready (rs:=[1]) (by kernel_rfl) (by simp) (.cons rfl (fun K hK=>?_) .nil)
 go_simp;go_wp2_with fail;refine (refLive11_any f _ (HF3.out.below (below_drew1 w3))).mono ?_;rintro x w5 ⟨la,ln,lc,rfl,SL,b5⟩;have HB5:=hide ((below_drew1 w3).trans (b5.mono (below_drew1 w3).size));have HSL:=hide SL;clear SL b5;refine hK.out _ _ (HSt.out _ (HX3.out.below HB5.out) (HP3.out.below HB5.out)) (fun hHeld=>?_);clear hK K;refine wpAnyH_ready (rs:=[6]) (by kernel_rfl) (by simp) (.cons rfl (fun K hK=>?_) .nil);go_simp;go_wp2_with fail;refine (refWaits11_any f.ro f.rn f.rc f.rs p _ (HF3.out.rs.below HB5.out) HFo.out.2.2 (HSp.out.below HB5.out)).mono ?_;rintro x w6 ⟨h,F,rfl,SF,b6,WF,GR⟩;have HB6:=wTr HB5 b6;have A6:=HZ3.out.below HB6.out;have st:=run_stSw (m':=mkF ⟨la,ln,lc,[],p,h.o,h.n,h.c,[]⟩) A6;have HE1:Hid (SwBox (w6.setRow (G+1) (FaC (mkF ⟨la,ln,lc,[],p,h.o,h.n,h.c,[]⟩))) (G+1) (mkF ⟨la,ln,lc,f.es.filter (lvB f.p.P f.rs),p,h.o,h.n,h.c,F⟩)):=A6.setRow
 have HXe:Hid (FaBox (w6.setRow (G+1) (FaC (mkF ⟨la,ln,lc,[],p,h.o,h.n,h.c,[]⟩))) G (mkF f)):=(setRow_other _ _ _ _ (by omega)).trans (HX3.out.below HB6.out);have HPe:Hid (PBox (w6.setRow (G+1) (FaC (mkF ⟨la,ln,lc,[],p,h.o,h.n,h.c,[]⟩))) g3 p):=(setRow_other _ _ _ _ (by have:=HG3.out;omega)).trans (HP3.out.below HB6.out)
 have HE:Hid (SwS w (w6.setRow (G+1) (FaC (mkF ⟨la,ln,lc,[],p,h.o,h.n,h.c,[]⟩))) (.returned (FaV (mkF ⟨la,ln,lc,f.es.filter (lvB f.p.P f.rs),p,h.o,h.n,h.c,F⟩))) (fun s=>StD f s/\FcR s)):=
  ⟨_,rfl,FcOk.offW (f:=⟨la,ln,lc,f.es.filter (lvB f.p.P f.rs),p,h.o,h.n,h.c,F⟩) ⟨HSL.out.below b6,HSp.out.below HB6.out,SF⟩ A6 _,below_setRow (HBK3.out.trans (HB6.out.mono HBK3.out.size)) (by rw [HGs.out];omega),⟨rfl,HHe.out,WF⟩,GR⟩
 clear SF b6 WF A6 GR;refine hK.out _ _ (HSt.out _ (HX3.out.below HB6.out) (HP3.out.below HB6.out)) (fun hHeld=>?_);clear hK K;refine wU 7 ?_;refine wpAnyH_ready (rs:=[8]) (by kernel_rfl) (by simp) (.cons rfl (fun K hK=>?_) .nil);go_simp;refine hK.out _ _ (HSt.out _ HXe.out HPe.out) (fun hHeld=>?_);clear hK K;clear st;refine wpAnyH_done (by kernel_rfl) ?_ _;clear hHeld;go_wp2_with fail;refine bodyPost_ret (res1Sw rfl rfl HE1.out) rfl ?_;exact HE.out
end
section
open Go.RowKit
def exf (s:Fc) (q:Pv):Fc:=⟨s.ao,s.an,s.ac,s.es,q,s.ro,s.rn,s.rc,s.rs⟩
def ExQ (s:Fc) (q:Pv):Prop:=∃ D,CanonOf (dotsG (s.es.map dotOf)) D/\∃ C:Nat -> List Rn,(∀ r,r < 16 -> MinusOf (runsAt s.p.P r) (runsAt D r) (C r))/\CanonOf C q.P
theorem inB_isR {P:Pst} {e:K.En} (h:inB P e=true):0 <= e.rep/\e.rep < 16:=by
 have h1:=((inB_iff P e).1 h).1;simpa [V.isR] using h1
theorem inB_okDS {P:Pst} {e:K.En} (h:inB P e=true):okD (dotOf e)=true:=by
 have h0:=inB_isR h;unfold inB at h;simp only [Bool.and_eq_true,decide_eq_true_eq] at h;unfold okD dotOf;simp only [Bool.and_eq_true,decide_eq_true_eq];refine ⟨by simp [V.isR];omega,?_⟩
 first
  | exact ⟨h.2.2.1,h.2.2.2.1⟩
  | (simp;omega)
theorem inB_mem {P:Pst} {e:K.En} (h:0 <= e.rep/\e.rep < 16):inB P e=true↔mem (runsAt P e.rep.toNat) e.num:=by
 rw [inB_iff];unfold dotIn
 have h1:V.isR e.rep=true:=by simp [V.isR];omega
 simp [h1]
theorem inB_ds {L:List K.En} {P:Pst} (h:CanonOf (dotsG (L.map dotOf)) P) (e:K.En) (h0:0 <= e.rep/\e.rep < 16):mem (runsAt P e.rep.toNat) e.num↔okD (dotOf e)=true/\∃ x∈L,dotOf x=dotOf e:=by
 rw [canon_mem h _ (by omega),dotsG_mem];constructor
 ·rintro ⟨d,hd,k1,k2,k3⟩;obtain ⟨x,hx,rfl⟩:=List.mem_map.1 hd
  have ed:dotOf x=dotOf e:=by
   unfold dotOf at k2 k3 ⊢;simp only at k2 k3;congr 1;omega
  exact ⟨ed ▸ k1,x,hx,ed⟩
 ·rintro ⟨h1,x,hx,h2⟩;exact ⟨dotOf x,List.mem_map.2 ⟨x,hx,rfl⟩,h2 ▸ h1,by rw [h2];show e.rep=((e.rep.toNat:Nat):Int);omega,by rw [h2];rfl⟩
theorem dot_inB {P:Pst} {x e:K.En} (h:dotOf x=dotOf e):inB P x=inB P e:=by
 obtain ⟨a,b,c,d⟩:=x;obtain ⟨a',b',c',d'⟩:=e;unfold dotOf at h;injection h with h1 h2;subst h1 h2;rfl
theorem exq_inB {s:Fc} {q:Pv} (h:ExQ s q) (e:K.En):inB q.P e=true↔inB s.p.P e=true/\¬ ∃ x∈s.es,dotOf x=dotOf e:=by
 obtain ⟨D,hD,C,hC,hq⟩:=h;by_cases h0:0 <= e.rep/\e.rep < 16
 ·rw [inB_mem h0,inB_mem h0,canon_mem hq _ (by omega),(hC _ (by omega)).2 e.num,inB_ds hD e h0];constructor
  ·rintro ⟨h1,h2⟩;exact ⟨h1,fun h3=>h2 ⟨inB_okDS ((inB_mem h0).2 h1),h3⟩⟩
  ·rintro ⟨h1,h2⟩;exact ⟨h1,fun h3=>h2 h3.2⟩
 ·constructor
  ·intro h;exact absurd (inB_isR h) h0
  ·intro h;exact absurd (inB_isR h.1) h0
theorem heard_inB {u:Fc} {P:Pst} (h:HeardOf u P) (e:K.En):inB P e=true↔(okD (dotOf e)=true/\∃ x∈u.es,dotOf x=dotOf e)∨inB u.p.P e=true:=by
 by_cases h0:0 <= e.rep/\e.rep < 16
 ·rw [inB_mem h0,inB_mem h0,h.2 _ (by omega) e.num,dotsG_mem];refine or_congr_left ?_;constructor
  ·rintro ⟨d,hd,k1,k2,k3⟩;obtain ⟨x,hx,rfl⟩:=List.mem_map.1 hd
   have ed:dotOf x=dotOf e:=by
    unfold dotOf at k2 k3 ⊢;simp only at k2 k3;congr 1;omega
   exact ⟨ed ▸ k1,x,hx,ed⟩
  ·rintro ⟨h1,x,hx,h2⟩;exact ⟨dotOf x,List.mem_map.2 ⟨x,hx,rfl⟩,h2 ▸ h1,by rw [h2];show e.rep=((e.rep.toNat:Nat):Int);omega,by rw [h2];rfl⟩
 ·constructor
  ·intro h;exact absurd (inB_isR h) h0
  ·rintro (⟨h,-⟩ | h)
   ·exfalso;unfold okD dotOf at h;simp only [Bool.and_eq_true] at h;have h1:=h.1;simp [V.isR] at h1;omega
   ·exact absurd (inB_isR h) h0
theorem exf_form {s:Fc} {q:Pv} (h:FormS s) (x:ExQ s q):FormF (exf s q):=by
 obtain ⟨D,-,C,-,hq⟩:=x;exact ⟨h.1.1,canon_iff.1 hq.canon,h.1.2.2⟩
end
section
open Go.RowKit
attribute [local go_sem ↓] ldP_eq stP_eq ldFa_eq stFa_eq
attribute [local go_sem] cells_PV PC_size cells_FaV FaC_size
def liveL (f:Fc):List K.En:=(f.es.filter (pkB f.p.P false)).filter (freeB f.rs)
def LvA (w w':World) (x:Ending) (f:Fc):Prop:=(FormF f/\K.GivesEE w w' x (liveL f) 0)∨(¬ FormF f/\K.GivesEE w w' x [] 1)
theorem chk_filter {L:List K.En} (h:K.chk L=0) (p:K.En -> Bool):K.chk (L.filter p)=0:=
 K.chk_asc (List.Pairwise.filter p (K.chk_asc' h)) (fun e he=>chk_ce h e (List.mem_filter.1 he).1)
theorem GivesEE.mono0 {w w0 w':World} {x:Ending} {L:List K.En} {er:Int} (h:K.GivesEE w w' x L er) (hb:Below w0.heap.size w0 w):K.GivesEE w0 w' x L er:=by
 obtain ⟨ao,n,c,h1,h2,h3,h4⟩:=h;exact ⟨ao,n,c,h1,h2,hb.trans (h3.mono hb.size),fun ad e=>Nat.le_trans hb.size (h4 ad e)⟩
theorem tLive_any (f:Fc) (w:World) (hF:FcOk w f) (hwt:∀ s,wt (ofS f.rs s) <= 8796093022207) (hnm:f.rn * (f.an+1) <= 8796093022207) :
  Calls Tryz.prog 36 #[FaV (mkF f)] w fun e w'=>LvA w w' e f:=by
 have HX:=hide (FaBox_new w (mkF f));have HBK:=hide (below_new w (.cells (FaC (mkF f)) 29));have HS:=hide (hF.below HBK.out);have HW:=hide (And.intro hwt hnm);clear hF hwt hnm;obtain ⟨wk,hwk⟩:∃ wk,w.alloc (.cells (FaC (mkF f)) 29)=wk:=⟨_,rfl⟩;obtain ⟨G,hG⟩:∃ G,w.heap.size=G:=⟨_,rfl⟩;rw [hwk] at HX HBK HS;rw [hG] at HX;obtain ⟨c0,c3⟩:=HX.out.cs;have lp:=run_ldP HX.out.past;go_enter Tryz.func36,Tryz.ntmps36;go_wp2_with fail;clear hwk hG;refine (outside_any f.ao f.an f.ac f.es f.p _ HS.out.es HS.out.p).mono ?_;rintro e w1 h1;rcases h1 with ⟨h1,h2,ao,n,c,rfl,S1,b1,n1⟩ | ⟨h1,ao,n,c,rfl,S1,b1,n1⟩;rotate_left
 ·have HE:Hid (LvA w w1 (.returned (.tuple #[.slice none 0 0,.int .i64 1])) f):=.inr ⟨fun h=>h1 ⟨(chk_okN HS.out.es.1).2 h.1,h.2.1⟩,none,0,0,rfl,esrc_nil _,HBK.out.trans (b1.mono HBK.out.size),fun ad e=>(by cases e)⟩;clear h1 S1 b1 n1 c0 c3 lp;go_wp2_with fail;go_ret2;exact HE.out
 have HC:Hid (K.chk f.es=0/\InForm f.p.P):=⟨h1,h2⟩;have HB1:=wTr HBK b1;have HX1:=hide (HX.out.below b1);have HS1:=hide (HS.out.below b1);have HL1:=hide S1;have hlen:(f.es.filter (pkB f.p.P false)).length=n:=S1.1
 have hle:n <= f.an:=by rw [<- hlen,<- HS.out.es.1];exact List.length_filter_le _ _
 have HM:Hid (f.rn * (n+1) <= 8796093022207):=Nat.le_trans (Nat.mul_le_mul_left _ (by omega)) HW.out.2;clear h1 h2 S1 b1 n1 c0 c3 lp hlen hle;obtain ⟨-,c3⟩:=HX1.out.cs;go_wp2_with fail;clear c3;refine (apply_any ao f.ro n c f.rn f.rc _ f.rs _ HL1.out HS1.out.rs HW.out.1 HM.out).mono ?_;rintro e w2 h2;rcases h2 with ⟨-,h2,h3⟩ | ⟨h2,h3⟩
 ·have HE:Hid (LvA w w2 e f):=.inl ⟨⟨(chk_okN HS.out.es.1).1 HC.out.1,HC.out.2,h2⟩,GivesEE.mono0 h3 HB1.out⟩;obtain ⟨a2,n2,c2,rfl,-,-,-⟩:=h3;clear h2;go_wp2_with fail;go_ret2;exact HE.out
 ·have HE:Hid (LvA w w2 e f):=.inr ⟨fun h=>h2 ⟨chk_filter HC.out.1 _,h.2.2⟩,GivesEE.mono0 h3 HB1.out⟩;obtain ⟨a2,n2,c2,rfl,-,-,-⟩:=h3;clear h2;go_wp2_with fail;go_ret2;exact HE.out
end
section
open Go.RowKit
def ClE (e:K.En) (g:Fc):Prop:=∃ y∈g.es,K.sameDot y e=true/\y≠e
def dotE (e:K.En):Rn:=⟨e.rep,e.num⟩
def ClOf (f g:Fc) (d:Rn) (b:Bool):Prop:=(¬ (FormF f/\FormF g)/\d=rn0/\b=false)∨(FormF f/\FormF g/\((b=false/\d=rn0/\∀ i,i < f.an -> ¬ ClE (f.es.getD i K.en0) g)∨(b=true/\∃ i,i < f.an/\ClE (f.es.getD i K.en0) g/\(∀ j,j < i -> ¬ ClE (f.es.getD j K.en0) g)/\d=dotE (f.es.getD i K.en0))))
def ClA (w w':World) (x:Ending) (f g:Fc):Prop:=∃ (d:Rn) (b:Bool),x = .returned (.tuple #[RV d,.bool b])/\ClOf f g d b/\Below w.heap.size w w'
theorem getE_mem {L:List K.En} {k:Nat} (h:k < L.length):L.getD k K.en0∈L:=by
 rw [List.getD_eq_getElem?_getD,List.getElem?_eq_getElem h];exact List.getElem_mem h
attribute [local go_sem ↓] ldP_eq stP_eq ldFa_eq stFa_eq ldD_eq stD_eq K.ld28_eq K.st28_eq
attribute [local go_sem] cells_PV PC_size cells_FaV FaC_size cells_RV RC_size zero_RC fold_RC K.zero_EC K.cells_EV K.EC_size
def bldDz (a:Array (Nat × Value)):Sem Value:=Instr.build 55 a
theorem bldDz_eq (a:Array (Nat × Value)):Instr.build 55 a=bldDz a:=rfl
theorem run_bldDz (w:World):(bldDz #[]).run Tryz.prog w = .ok (RV rn0) w:=by kernel_rfl
attribute [local go_sem ↓] bldDz_eq
attribute [local go_sem] run_bldDz
end
section
open Go.RowKit
attribute [local go_sem ↓] K.ld28_eq K.st28_eq K.run_eq28 ldP_eq stP_eq ldRe_eq stRe_eq
attribute [local go_sem] K.zero_EC K.cells_EV cells_PV PC_size
def EqF (f g:Fc):Prop:=f.es=g.es/\f.p.P=g.p.P/\plR f.rs=plR g.rs
attribute [local go_sem ↓] ldFa_eq stFa_eq
attribute [local go_sem] cells_FaV FaC_size
end
section
open Go.RowKit
structure IsF (h:Fc) (E:K.En -> Prop) (M:Nat -> Int -> Prop) (R:Rp -> Prop):Prop where
 form:FormF h
 len:h.es.length=h.an/\h.rs.length=h.rn
 es:∀ x,x∈h.es↔E x
 p:∀ r,r < 16 -> ∀ n,mem (runsAt h.p.P r) n↔M r n
 rs:∀ y,y∈plR h.rs↔R y
def WellF (f g:Fc):Prop:=FormF f/\FormF g/\∀ e∈f.es,¬ ClE e g
theorem sameDot_symm {x y:K.En} (h:K.sameDot x y=true):K.sameDot y x=true:=by
 unfold K.sameDot at h ⊢;simp only [Bool.and_eq_true,beq_iff_eq] at h ⊢;exact ⟨h.1.symm,h.2.symm⟩
theorem WellF.symm {f g:Fc} (h:WellF f g):WellF g f:=⟨h.2.1,h.1,fun e he ⟨y,hy,hd,hne⟩=>h.2.2 y hy ⟨e,he,sameDot_symm hd,fun q=>hne q.symm⟩⟩
attribute [local go_sem ↓] ldFa_eq stFa_eq ldD_eq stD_eq
attribute [local go_sem] cells_FaV FaC_size cells_RV RC_size zero_RC
end
end Go.Proofs.YtjeilkenjdnafaaGreat
