/- YDc YDt YDv -/
import Derived.Test.YtjeilkenjdnafaaGreatTk
import Derived.Test.YtjeilkenjdnafaaGreatDk43
import Derived.Test.YtjeilkenjdnafaaGreatDk44
import Derived.Test.YtjeilkenjdnafaaGreatDk39
import Derived.Test.YtjeilkenjdnafaaGreatDk41
set_option maxRecDepth 100000
set_option maxHeartbeats 6400000
namespace Go.Proofs.YtjeilkenjdnafaaGreat
section
open Go.RowKit
theorem box3FSD (w:World) (f s:Fc) (d:Dg):∃ wk,((w.alloc (.cells (FaC (mkF f)) 29)).alloc (.cells (FaC (mkF s)) 31)).alloc (.cells (DiC (mkD d)) 33)=wk/\Hid (FaBox wk w.heap.size (mkF f))/\Hid (SwBox wk (w.heap.size+1) (mkF s))/\Hid (DiBox wk (w.heap.size+2) (mkD d))/\Hid (Below w.heap.size w wk):=by
 have b1:=below_new w (.cells (FaC (mkF f)) 29);have b2:=below_new (w.alloc (.cells (FaC (mkF f)) 29)) (.cells (FaC (mkF s)) 31);have X2:=SwBox_new (w.alloc (.cells (FaC (mkF f)) 29)) (mkF s);have b3:=below_new ((w.alloc (.cells (FaC (mkF f)) 29)).alloc (.cells (FaC (mkF s)) 31)) (.cells (DiC (mkD d)) 33);have X3:=DiBox_new ((w.alloc (.cells (FaC (mkF f)) 29)).alloc (.cells (FaC (mkF s)) 31)) (mkD d);have B2:=b1.trans (b2.mono b1.size);rw [World.size_alloc] at X2;rw [World.size_alloc,World.size_alloc] at X3;exact ⟨_,rfl,((FaBox_new w (mkF f)).below b2).below b3,X2.below b3,X3,B2.trans (b3.mono B2.size)⟩
attribute [local go_sem ↓] ldFa_eq stFa_eq ldSw_eq stSw_eq ldDi_eq stDi_eq
attribute [local go_sem] cells_FaV FaC_size zero_FaZ cells_DiV DiC_size
end
section
open Go.RowKit
attribute [local go_sem ↓] ldP_eq stP_eq ldFa_eq stFa_eq ldSw_eq stSw_eq ldDi_eq stDi_eq bldS_eq
attribute [local go_sem] cells_PV PC_size zero_PC cells_FaV FaC_size zero_FaZ cells_DiV DiC_size run_bldS
theorem sameFacts14_any (f g:Fc) (w:World) (hF:FcOk w f) (hG:FcOk w g) (hE:EqS f g):Calls Tryz.prog 19 #[FaV (mkF f),FaV (mkF g)] w fun e w'=>e = .returned (.bool true)/\Below w.heap.size w w':=by
 obtain ⟨wk,hwk,HX,HY,HBK⟩:=box2F w f g;obtain ⟨G,hG0⟩:∃ G,w.heap.size=G:=⟨_,rfl⟩;rw [hG0] at HX HY;have HF:=hide (hF.below HBK.out);have HG:=hide (hG.below HBK.out);have HE:=hide hE;clear hF hG hE;have c0:=HX.out.cs.1;have c3:=HX.out.cs.2;have d0:=HY.out.cs.1;have d3:=HY.out.cs.2;have lp:=run_ldP HX.out.past;have lq:=run_ldP HY.out.past;go_enter Tryz.func19,Tryz.ntmps19;go_wp2_with fail;clear hwk hG0 c0 c3 d0 d3 lp lq;refine (equal11_true f g _ HF.out HG.out HE.out).mono ?_;rintro e w3 ⟨rfl,b3⟩;have HB3:=wTr HBK b3;clear b3;go_wp2_with fail;go_ret;exact ⟨rfl,HB3.out⟩
theorem digestLacks_law (f s:Fc) (d:Dg) (w:World) (hA:FcU w f) (hB:FcU w s) (hD:DgOk w d):Calls Tryz.prog 4 #[FaV (mkF f),FaV (mkF s),DiV (mkD d)] w fun e w'=>e = .returned (.bool true)/\Below w.heap.size w w':=by
 obtain ⟨wk,hwk,HX,HY,HZ,HBK⟩:=box3FSD w f s d;obtain ⟨G,hG0⟩:∃ G,w.heap.size=G:=⟨_,rfl⟩;rw [hG0] at HX HY HZ;have HOf:=hide (hA.b.below HBK.out);have HOs:=hide (hB.b.below HBK.out);have HOd:=hide (hD.below HBK.out);clear hA hB hD;go_enter Tryz.func4,Tryz.ntmps4;go_wp2_with fail;clear hwk hG0;refine (known14_any _).mono ?_;rintro e w2 ⟨rfl,b2⟩;have HB2:=hide b2;clear b2;have l0:=run_ldFa (HX.out.below HB2.out);have l1:=run_ldDi (HZ.out.below HB2.out);go_wp2_with fail;clear l0 l1;refine (refLackFacts14_any f d _ (HOf.out.ok.below HB2.out) (HOd.out.below HB2.out)).mono ?_;rintro e v3 ⟨a,e1,rfl,Sa,b3,ha⟩;obtain ⟨ga,hga⟩:∃ g,v3.heap.size=g:=⟨_,rfl⟩;obtain ⟨w3,hst,X3,B3,-⟩:=madeFx v3 a ga hga;have b33:=b3.trans (B3.mono b3.size);have HB3:=wTr HB2 b33;have HXa:=hide X3;have HSa:=hide (Sa.below B3);have Ha:=hide ha
 clear Sa b3 ha X3 B3 b33;have l0:=run_ldFa (HX.out.below HB3.out);have l1:=run_ldDi (HZ.out.below HB3.out);go_wp2_with fail;clear l0 l1 hst hga;refine (lackFacts_any 1 (by decide) f d _ (HOf.out.below HB3.out) (HOd.out.below HB3.out)).mono ?_;rintro e v4 ⟨l,e2,rfl,Sl,b4,hl⟩;obtain ⟨gl,hgl⟩:∃ g,v4.heap.size=g:=⟨_,rfl⟩;obtain ⟨w4,hst,X4,B4,-⟩:=madeFx v4 l gl hgl;have b44:=b4.trans (B4.mono b4.size);have HB4:=wTr HB3 b44;have HXl:=hide X4;have HSl:=hide (Sl.below B4);obtain ⟨rfl,hE⟩:=lfr_one hl Ha.out;have HE:=hide hE;have HXa4:=hide (HXa.out.below b44);have HSa4:=hide (HSa.out.below b44);clear Sl b4 hl X4 B4 b44 hE Ha HXa HSa;have l0:=run_ldFa HXl.out;have l1:=run_ldFa HXa4.out;go_wp2_with fail;clear l0 l1 hst hgl;refine (sameFacts14_any l a _ HSl.out.ok HSa4.out HE.out).mono ?_;rintro e w5 ⟨rfl,b5⟩;have HB5:=wTr HB4 b5
 clear b5 HXl HSl HE HXa4 HSa4;have l0:=run_ldSw (HY.out.below HB5.out);have l1:=run_ldDi (HZ.out.below HB5.out);go_wp2_with fail;clear l0 l1;refine (refLackSwot14_any s d _ (HOs.out.ok.below HB5.out) (HOd.out.below HB5.out)).mono ?_;rintro e v6 ⟨m,e3,rfl,Sm,b6,hm⟩;obtain ⟨gm,hgm⟩:∃ g,v6.heap.size=g:=⟨_,rfl⟩;obtain ⟨w6,hst,X6,B6,-⟩:=madeSx v6 m gm hgm;have b66:=b6.trans (B6.mono b6.size);have HB6:=wTr HB5 b66;have HXm:=hide X6;have HSm:=hide (Sm.below B6);have Hm:=hide hm;clear Sm b6 hm X6 B6 b66;have l0:=run_ldSw (HY.out.below HB6.out);have l1:=run_ldDi (HZ.out.below HB6.out);go_wp2_with fail;clear l0 l1 hst hgm;refine (lackSwot_any 1 (by decide) s d _ (HOs.out.below HB6.out) (HOd.out.below HB6.out)).mono ?_;rintro e v7 ⟨n,e4,rfl,Sn,b7,hn⟩;obtain ⟨gn,hgn⟩:∃ g,v7.heap.size=g:=⟨_,rfl⟩;obtain ⟨w7,hst,X7,B7,-⟩:=madeSx v7 n gn hgn
 have b77:=b7.trans (B7.mono b7.size);have HB7:=wTr HB6 b77;have HXn:=hide X7;have HSn:=hide (Sn.below B7);obtain ⟨rfl,hE⟩:=lsr_one HOs.out.ok.rs.len hn Hm.out;have HE:=hide hE;have HXm7:=hide (HXm.out.below b77);have HSm7:=hide (HSm.out.below b77);clear Sn b7 hn X7 B7 b77 hE Hm HXm HSm;have l0:=run_ldSw HXn.out;have l1:=run_ldSw HXm7.out;go_wp2_with fail;clear l0 l1 hst hgn;refine (equal11_true n m _ HSn.out.ok HSm7.out HE.out).mono ?_;rintro e w8 ⟨rfl,b8⟩;have HEe:=hide (HBK.out.trans ((HB7.out.trans (b8.mono HB7.out.size)).mono HBK.out.size));clear b8;go_wp2_with fail;go_ret;exact ⟨rfl,HEe.out⟩
theorem digestLacks_u (f s:Fc) (d:Dg) (w:World) (hA:FcU w f) (hB:FcU w s) (hD:DgOk w d):Calls Tryz.prog 4 #[FaV (mkF f),FaV (mkF s),DiV (mkD d)] w fun e w'=>e = .returned (.bool true)/\Below w.heap.size w w':=digestLacks_law f s d w hA hB hD
end
section
open Go.ChangeShapes Go.WideShapes Go.ChangeAt Go.RowKit Go.Joins
theorem cellsDi:Tryz.prog.cellsOf 33=4:=by kernel_rfl
theorem four14 {α : Type} {l:List α} (h:l.length=4):∃ a b c d,l=[a,b,c,d]:=by
 match l,h with
 | [a,b,c,d],_=>exact ⟨a,b,c,d,rfl⟩
theorem open_digestU {H:Type} {enc:TypeId × Value -> H} {W:World} {fuel:Nat} {cs:List Value} {x:DataW H × List MemPlace}
  (h:DataW.trod enc Tryz.prog W 0 (fun _=>true) true fuel 33 cs=some x) (hw:Rows.uptoBulk x.1 <= 1048576):∃ d:Dg,cs=(DiC (mkD d)).toList/\DgOk W d:=by
 obtain ⟨xs,m,_,hx,hcl,hxl,hf⟩:=DataW.trod_struct Tryz.underlying33 h;obtain ⟨v0,v1,v2,v3,rfl⟩:=four14 (hcl.trans cellsDi);obtain ⟨y0,y1,rfl⟩:=list2 hxl;have t0:=hf 0 _ rfl;have t1:=hf 1 _ rfl;simp [cellsP] at t0 t1;subst hx;simp only [Rows.uptoBulk,List.map_cons,List.map_nil,Rows.uptoBulkAll] at hw;obtain ⟨p,ep,Sp,-⟩:=viewP t0 (by omega);obtain ⟨q,eq,Sq,-⟩:=viewP t1 (by omega);simp only [List.cons.injEq,and_true] at ep eq;obtain ⟨rfl,rfl⟩:=ep;obtain ⟨rfl,rfl⟩:=eq;exact ⟨⟨p,q⟩,rfl,Sp,Sq⟩
end
end Go.Proofs.YtjeilkenjdnafaaGreat
