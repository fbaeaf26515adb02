/- YDc YDv -/
import Derived.Test.YtjeilkenjdnafaaGreatTk
import Derived.Test.YtjeilkenjdnafaaGreatDt41
set_option maxRecDepth 100000
set_option maxHeartbeats 3200000
namespace Go.Proofs.YtjeilkenjdnafaaGreat
section
open Go.RowKit
theorem ck_one {P:Prop} {x y:Int} (h:(x=1/\¬ P)∨(x=0/\P)) (k:(y=1/\¬ P)∨(y=0/\P)):x=y:=by
 rcases h with ⟨rfl,h1⟩ | ⟨rfl,h1⟩ <;> rcases k with ⟨rfl,k1⟩ | ⟨rfl,k1⟩
 ·rfl
 ·exact absurd k1 h1
 ·exact absurd h1 k1
 ·rfl
theorem box3FSD (w:World) (f s:Fc) (d:Dg):∃ wk,((w.alloc (.cells (FaC (mkF f)) 29)).alloc (.cells (FaC (mkF s)) 31)).alloc (.cells (DiC (mkD d)) 33)=wk/\Hid (FaBox wk w.heap.size (mkF f))/\Hid (SwBox wk (w.heap.size+1) (mkF s))/\Hid (DiBox wk (w.heap.size+2) (mkD d))/\Hid (Below w.heap.size w wk):=by
 have b1:=below_new w (.cells (FaC (mkF f)) 29);have b2:=below_new (w.alloc (.cells (FaC (mkF f)) 29)) (.cells (FaC (mkF s)) 31);have X2:=SwBox_new (w.alloc (.cells (FaC (mkF f)) 29)) (mkF s);have b3:=below_new ((w.alloc (.cells (FaC (mkF f)) 29)).alloc (.cells (FaC (mkF s)) 31)) (.cells (DiC (mkD d)) 33);have X3:=DiBox_new ((w.alloc (.cells (FaC (mkF f)) 29)).alloc (.cells (FaC (mkF s)) 31)) (mkD d);have B2:=b1.trans (b2.mono b1.size);rw [World.size_alloc] at X2;rw [World.size_alloc,World.size_alloc] at X3;exact ⟨_,rfl,((FaBox_new w (mkF f)).below b2).below b3,X2.below b3,X3,B2.trans (b3.mono B2.size)⟩
attribute [local go_sem ↓] ldFa_eq stFa_eq ldSw_eq stSw_eq ldDi_eq stDi_eq
attribute [local go_sem] cells_FaV FaC_size zero_FaZ cells_DiV DiC_size
theorem digestTells_law (f s:Fc) (d:Dg) (w:World) (hA:FcU w f) (hB:FcU w s) (hD:DgOk w d):Calls Tryz.prog 3 #[FaV (mkF f),FaV (mkF s),DiV (mkD d)] w fun e w'=>e = .returned (.bool true)/\Below w.heap.size w w':=by
 obtain ⟨wk,hwk,HX,HY,HZ,HBK⟩:=box3FSD w f s d;obtain ⟨G,hG0⟩:∃ G,w.heap.size=G:=⟨_,rfl⟩;rw [hG0] at HX HY HZ;have HOf:=hide (hA.b.below HBK.out);have HOs:=hide (hB.b.below HBK.out);have HOd:=hide (hD.below HBK.out);clear hA hB hD;go_enter Tryz.func3,Tryz.ntmps3;go_wp2_with fail;clear hwk hG0;refine (known14_any _).mono ?_;rintro e w2 ⟨rfl,b2⟩;have HB2:=hide b2;clear b2;have l0:=run_ldFa (HX.out.below HB2.out);go_wp2_with fail;clear l0;refine (refOfFacts14_any f _ (HOf.out.ok.below HB2.out)).mono ?_;rintro e v3 ⟨a,g,rfl,Sa,b3,ha⟩;obtain ⟨ga,hga⟩:∃ g,v3.heap.size=g:=⟨_,rfl⟩;obtain ⟨w3,hst,X3,B3,-⟩:=madeDx14 v3 a ga hga;have b33:=b3.trans (B3.mono b3.size);have HB3:=wTr HB2 b33
 have HGa:Hid (wk.heap.size <= ga):=by rw [<- hga];exact Nat.le_trans HB2.out.size b3.size
 have HXa:=hide X3;have HSa:=hide (Sa.below B3);have Ha:=hide ha;clear Sa b3 ha X3 B3 b33;have l0:=run_ldFa (HX.out.below HB3.out);go_wp2_with fail;clear l0 hst hga;refine (ofFacts_any f _ ((HOf.out.below HB3.out).u (by decide))).mono ?_;rintro e v4 ⟨c,er,rfl,Sc,b4,hc⟩;obtain ⟨rfl,heq⟩:=OfR.one (fun _ _=>DoF.one) hc Ha.out;obtain ⟨gc,hgc⟩:∃ g,v4.heap.size=g:=⟨_,rfl⟩;obtain ⟨w4,hst,X4,B4,-⟩:=madeDx14 v4 c gc hgc;have b44:=b4.trans (B4.mono b4.size)
 have HGc:Hid (ga < gc):=by rw [<- hgc];exact Nat.lt_of_lt_of_le HXa.out.lt b4.size
 have HB4:=wTr HB3 b44;have HXc:=hide X4;have HSc:=hide (Sc.below B4);have HXa4:=hide (HXa.out.below b44);have HSa4:=hide (HSa.out.below b44);have HEq:=hide heq;clear Sc b4 hc X4 B4 b44 heq Ha;have l0:=run_ldDi HXc.out;have l1:=run_ldDi HXa4.out
 have d1:((er:Int) != er)=false:=by simp
 have d2:((er:Int) == er)=true:=by simp
 go_wp2_with fail;clear l0 l1 hst hgc d1 d2;refine (requal14_any c a _ HSc.out HSa4.out).mono ?_;rintro e w5 ⟨v,rfl,hv,b5⟩;obtain rfl:v=true:=hv.2 HEq.out;have HB5:=wTr HB4 b5;have HXa5:=hide (HXa4.out.below b5);have HXc5:=hide (HXc.out.below b5);clear b5 hv HSa HXa HXa4 HSa4 HXc HSc HEq;have l0:=run_ldSw (HY.out.below HB5.out);go_wp2_with fail;clear l0;refine (refOfSwot14_any s _ (HOs.out.ok.below HB5.out)).mono ?_;rintro e v6 ⟨a2,g2,rfl,Sa,b6,ha⟩;have A6:=HXa5.out.below b6;have st:=run_stDi (m':=mkD a2) A6;obtain ⟨w6,hw6⟩:∃ w6,v6.setRow ga (DiC (mkD a2))=w6:=⟨_,rfl⟩
 have HB6:Hid (Below wk.heap.size wk w6):=by rw [<- hw6];exact below_setRow (HB5.out.trans (b6.mono HB5.out.size)) HGa.out
 have HXa6:Hid (DiBox w6 ga (mkD a2)):=by rw [<- hw6];exact A6.setRow
 have HXc6:Hid (DiBox w6 gc (mkD c)):=by rw [<- hw6];exact (setRow_other _ _ _ _ (by have:=HGc.out;omega)).trans (HXc5.out.below b6)
 have HSa6:Hid (DgOk w6 a2):=by rw [<- hw6];exact Sa.offD A6 _
 have Ha2:=hide ha;rw [hw6] at st;clear Sa b6 ha A6 HXa5 HXc5 hw6;have l0:=run_ldDi (HZ.out.below HB6.out);go_wp2_with fail;clear l0 st;refine (rcheck14_any d _ (HOd.out.below HB6.out)).mono ?_;rintro e w7 ⟨x,rfl,hx,b7⟩;have HB7:=wTr HB6 b7;have HXa7:=hide (HXa6.out.below b7);have HXc7:=hide (HXc6.out.below b7);have HSa7:=hide (HSa6.out.below b7);have Hx:=hide hx;clear b7 hx HXa6 HXc6 HSa6;have l0:=run_ldSw (HY.out.below HB7.out);go_wp2_with fail;clear l0;refine (ofSwot_any s _ ((HOs.out.below HB7.out).u (by decide))).mono ?_;rintro e v8 ⟨c2,e2,rfl,Sc,b8,hc⟩;obtain ⟨rfl,heq⟩:=OfR.one (fun _ _=>DoS.one) hc Ha2.out;have A8:=HXc7.out.below b8;have st:=run_stDi (m':=mkD c2) A8;obtain ⟨w8,hw8⟩:∃ w8,v8.setRow gc (DiC (mkD c2))=w8:=⟨_,rfl⟩
 have HB8:Hid (Below wk.heap.size wk w8):=by rw [<- hw8];exact below_setRow (HB7.out.trans (b8.mono HB7.out.size)) (by have:=HGa.out;have:=HGc.out;omega)
 have HXc8:Hid (DiBox w8 gc (mkD c2)):=by rw [<- hw8];exact A8.setRow
 have HXa8:Hid (DiBox w8 ga (mkD a2)):=by rw [<- hw8];exact (setRow_other _ _ _ _ (by have:=HGc.out;omega)).trans (HXa7.out.below b8)
 have HSa8:Hid (DgOk w8 a2):=by rw [<- hw8];exact (HSa7.out.below b8).offD A8 _
 have HSc8:Hid (DgOk w8 c2):=by rw [<- hw8];exact Sc.offD A8 _
 have HEq:=hide heq;rw [hw8] at st;clear Sc b8 hc A8 heq Ha2 hw8 HXa7 HXc7 HSa7;have l0:=run_ldDi HXc8.out;have l1:=run_ldDi HXa8.out
 have d2:((e2:Int) == e2)=true:=by simp
 go_wp2_with fail;clear l0 l1 st d2;refine (requal14_any c2 a2 _ HSc8.out HSa8.out).mono ?_;rintro e w9 ⟨v,rfl,hv,b9⟩;obtain rfl:v=true:=hv.2 HEq.out;have HB9:=wTr HB8 b9;clear b9 hv HEq HSc8 HSa8 HXc8 HXa8;have l0:=run_ldDi (HZ.out.below HB9.out);go_wp2_with fail;clear l0;refine (dcheck_any d _ (HOd.out.below HB9.out)).mono ?_;rintro e w10 ⟨y,rfl,hy,b10⟩;obtain rfl:=ck_one hy Hx.out;have HE:=hide (HBK.out.trans ((HB9.out.trans (b10.mono HB9.out.size)).mono HBK.out.size))
 have d2:((y:Int) == y)=true:=by simp
 clear b10 hy Hx;go_wp2_with fail;go_ret;exact ⟨rfl,HE.out⟩
theorem digestTells_u (f s:Fc) (d:Dg) (w:World) (hA:FcU w f) (hB:FcU w s) (hD:DgOk w d):Calls Tryz.prog 3 #[FaV (mkF f),FaV (mkF s),DiV (mkD d)] w fun e w'=>e = .returned (.bool true)/\Below w.heap.size w w':=digestTells_law f s d w hA hB hD
end
section
open Go.ChangeShapes Go.WideShapes Go.ChangeAt Go.RowKit Go.Joins
theorem cellsDi:Tryz.prog.cellsOf 33=4:=by kernel_rfl
theorem four14 {α : Type} {l:List α} (h:l.length=4):∃ a b c d,l=[a,b,c,d]:=by
 match l,h with
 | [a,b,c,d],_=>exact ⟨a,b,c,d,rfl⟩
theorem open_digestU {H:Type} {enc:TypeId × Value -> H} {W:World} {fuel:Nat} {cs:List Value} {x:DataW H × List MemPlace}
  (h:DataW.trod enc Tryz.prog W 0 (fun _=>true) true fuel 33 cs=some x) (hw:Rows.uptoBulk x.1 <= 1048576):∃ d:Dg,cs=(DiC (mkD d)).toList/\DgOk W d:=by
 obtain ⟨xs,m,_,hx,hcl,hxl,hf⟩:=DataW.trod_struct Tryz.underlying33 h;obtain ⟨v0,v1,v2,v3,rfl⟩:=four14 (hcl.trans cellsDi);obtain ⟨y0,y1,rfl⟩:=list2 hxl;have t0:=hf 0 _ rfl;have t1:=hf 1 _ rfl;simp [cellsP] at t0 t1;subst hx;simp only [Rows.uptoBulk,List.map_cons,List.map_nil,Rows.uptoBulkAll] at hw;obtain ⟨p,ep,Sp,-⟩:=viewP t0 (by omega);obtain ⟨q,eq,Sq,-⟩:=viewP t1 (by omega);simp only [List.cons.injEq,and_true] at ep eq;obtain ⟨rfl,rfl⟩:=ep;obtain ⟨rfl,rfl⟩:=eq;exact ⟨⟨p,q⟩,rfl,Sp,Sq⟩
end
end Go.Proofs.YtjeilkenjdnafaaGreat
