/- YDp YDv -/
import Derived.Test.YtjeilkenjdnafaaGreatTk
import Derived.Test.YtjeilkenjdnafaaGreatDp43
import Derived.Test.YtjeilkenjdnafaaGreatDp41
set_option maxRecDepth 100000
set_option maxHeartbeats 6400000
namespace Go.Proofs.YtjeilkenjdnafaaGreat
section
open Go.RowKit
theorem srt_of {f:Fc} (hr:f.rs.length=f.rn) (ff:FormF f):(∀ r∈f.rs,RecOk r)/\Srt ck (plR f.rs):=okR_iff.1 (by rw [hr];exact ff.2.2)
theorem st_form {w:World} {f s:Fc} (hS:FcOk w s) (hl:f.es.length=f.an) (hr:f.rs.length=f.rn) (ff:FormF f) (h:StD f s):FormS s:=by
 obtain ⟨h1,h2,h3⟩:=h;have hc:=(chk_okS hl).2 ff.1;have hs:=srt_of hr ff
 have sub:∀ y∈plR s.rs,y∈plR f.rs/\¬ wiP y.2 s.p.P:=fun y hy=>by
  rw [h3.2,List.mem_filter] at hy;refine ⟨hy.1,fun k=>?_⟩;have:=hy.2;rw [waitB_no k] at this
  cases this
 have mem:∀ e∈s.es,e∈f.es/\inB f.p.P e=false/\freeB f.rs e=true:=fun e he=>by
  rw [h1,List.mem_filter] at he;have h4:=he.2;unfold lvB at h4;rw [Bool.and_eq_true,Bool.not_eq_true'] at h4;exact ⟨he.1,h4.1,h4.2⟩
 refine (fm_iff hS).2 ⟨?_,h2.1,⟨fun y hy=>?_,?_⟩,fun e he=>?_,fun y hy=>(sub y hy).2,fun e he r hr=>?_⟩
 ·show K.chk s.es=0
  rw [h1];exact chk_filter hc _
 ·obtain ⟨r,hr,rfl⟩:=List.mem_map.1 (sub y hy).1;exact hs.1 r hr
 ·show Srt ck (plR s.rs)
  rw [h3.2];exact List.Pairwise.filter _ hs.2
 ·exact (heard_inB h2 e).2 (.inl ⟨ce_dot (chk_ce hc e (mem e he).1),e,(mem e he).1,rfl⟩)
 ·exact (free_ab _ _).1 (mem e he).2.2 r (sub r hr).1
theorem st_b {N:Nat} {w w':World} {f s:Fc} (hB:SwB N w f) (hS:FcOk w' s) (hr:FcR s) (h:StD f s):SwB N w' s:=by
 refine ⟨hS,hr,?_,?_,wt_clF h.2.2 hB.cl⟩
 ·have h1:=congrArg List.length h.2.2.2;have h2:=List.length_filter_le (waitB s.p.P) (plR f.rs);rw [plR_len] at h1;rw [plR_len] at h2;have h3:=hS.rs.len;have h4:=hB.ok.rs.len;have h5:=hB.rn;omega
 ·have h1:s.es.length <= f.es.length:=by rw [h.1];exact List.length_filter_le _ _
  have h3:=hS.es.1;have h4:=hB.ok.es.1;have h5:=hB.an;omega
theorem pic_dig {f s:Fc} {a b:Dg} (ha:DoF f a) (h:StD f s) (hb:DoS s b):EqD a b:=by
 refine ⟨(ha.1.one h.2.1).trans hb.1.symm,ha.2.unique hb.2 fun r _=>?_⟩;have e:s.es=liveF f:=h.1;rw [e];exact fun _=>Iff.rfl
theorem lf_form {w:World} {f l:Fc} {d:Dg} (hL:FcOk w l) (hl:f.es.length=f.an) (hr:f.rs.length=f.rn) (ff:FormF f) (h:LfD f d l):FormF l:=by
 obtain ⟨h1,H,-,h3,-,h5⟩:=h;have hs:=srt_of hr ff;refine ⟨(chk_okS hL.es.1).1 ?_,h3,?_⟩
 ·rw [h1];unfold liveF;exact chk_filter (chk_filter ((chk_okS hl).2 ff.1) _) _
 ·rw [<- hL.rs.len];refine okR_iff.2 ⟨h5.1,?_⟩;rw [h5.2];exact List.Pairwise.filter _ hs.2
theorem pic_lack {f s l m x:Fc} {d:Dg} (_:FormF f) (hs:StD f s) (fs:FormS s) (hl:LfD f d l) (hm:LsD s d m) (hx:StD l x):EqS x m:=by
 obtain ⟨l1,H,l2,l3,l4,l5⟩:=hl;have eH:H=s.p.P:=l2.one hs.2.1;subst eH;have es:s.es=liveF f:=hs.1
 have el:m.es=l.es:=by rw [hm.1,l1,es]
 have e1:x.es=l.es:=by
  rw [hx.1];refine List.filter_eq_self.2 fun e he=>?_
  have h1:e∈liveF f:=by rw [l1,List.mem_filter] at he;exact he.1
  have h2:freeB f.rs e=true:=by
   unfold liveF at h1;rw [List.mem_filter] at h1;have h4:=h1.2;unfold lvB at h4;rw [Bool.and_eq_true] at h4;exact h4.2
  have h3:inB l.p.P e=false:=by
   rw [Bool.eq_false_iff];intro k;exact ((l4 e).1 k).1.2 ⟨e,h1,rfl⟩
  have h4:freeB l.rs e=true:=by
   rw [free_ab] at h2 ⊢;intro r hr;rw [l5.2,List.mem_filter] at hr;exact h2 r hr.1
  unfold lvB;rw [h3,h4];rfl
 have eP:x.p.P=m.p.P:=by
  refine pst_ext hx.2.1.1 hm.2.1 fun e=>?_;rw [heard_inB hx.2.1,hm.2.2.1 e,l4 e,el,es]
 refine ⟨e1.trans el.symm,eP,?_⟩
 have eR:plR m.rs=plR l.rs:=by rw [ls_recs fs hm,hs.2.2.2,l5.2]
 rw [eR,hx.2.2.2];refine List.filter_eq_self.2 fun y hy=>waitB_yes fun k=>?_;rw [l5.2,List.mem_filter] at hy;have h1:wiP y.2 s.p.P:=wi_inB.2 fun e he=>ls_past fs hm (by rw [<- eP];exact wi_inB.1 k e he);have:=hy.2;rw [waitB_no h1] at this
 cases this
theorem boxFD2 (w:World) (f:Fc) (d:Dg):∃ wk,(w.alloc (.cells (FaC (mkF f)) 29)).alloc (.cells (DiC (mkD d)) 33)=wk/\Hid (FaBox wk w.heap.size (mkF f))/\Hid (DiBox wk (w.heap.size+1) (mkD d))/\Hid (Below w.heap.size w wk):=by
 have b1:=below_new w (.cells (FaC (mkF f)) 29);have b2:=below_new (w.alloc (.cells (FaC (mkF f)) 29)) (.cells (DiC (mkD d)) 33);have X2:=DiBox_new (w.alloc (.cells (FaC (mkF f)) 29)) (mkD d);rw [World.size_alloc] at X2;exact ⟨_,rfl,(FaBox_new w (mkF f)).below b2,X2,b1.trans (b2.mono b1.size)⟩
attribute [local go_sem ↓] ldFa_eq stFa_eq ldSw_eq stSw_eq ldDi_eq stDi_eq
attribute [local go_sem] cells_FaV FaC_size zero_FaZ cells_DiV DiC_size
theorem digestPictures_law (f:Fc) (d:Dg) (w:World) (hA:FcU w f) (hD:DgOk w d):Calls Tryz.prog 5 #[FaV (mkF f),DiV (mkD d)] w fun e w'=>e = .returned (.bool true)/\Below w.heap.size w w':=by
 obtain ⟨wk,hwk,HX,HY,HBK⟩:=boxFD2 w f d;obtain ⟨G,hG0⟩:∃ G,w.heap.size=G:=⟨_,rfl⟩;rw [hG0] at HX HY;have HOf:=hide (hA.b.below HBK.out);have HOd:=hide (hD.below HBK.out);clear hA hD;go_enter Tryz.func5,Tryz.ntmps5;go_wp2_with fail;clear hwk hG0;refine (known14_any _).mono ?_;rintro e w2 ⟨rfl,b2⟩;have HB2:=hide b2;clear b2;have l0:=run_ldFa (HX.out.below HB2.out);go_wp2_with fail;clear l0;refine (ofFacts_any f _ ((HOf.out.below HB2.out).u (by decide))).mono ?_;rintro e v3 ⟨a,e1,rfl,Sa,b3,ha⟩;obtain ⟨ga,hga⟩:∃ g,v3.heap.size=g:=⟨_,rfl⟩;obtain ⟨w3,hst,X3,B3,-⟩:=madeDx14 v3 a ga hga;have b33:=b3.trans (B3.mono b3.size);have HB3:=wTr HB2 b33;have HXa:=hide X3;have HSa:=hide (Sa.below B3);have Ha:=hide ha;clear Sa b3 ha X3 B3 b33;have l0:=run_ldFa (HX.out.below HB3.out);go_wp2_with fail;clear l0 hst hga;refine (refFacts_any f _ (HOf.out.ok.below HB3.out)).mono ?_
 rintro e w4 ⟨v,rfl,hv,b4⟩;have HB4:=wTr HB3 b4;have HXa4:=hide (HXa.out.below b4);have HSa4:=hide (HSa.out.below b4);clear b4 HXa HSa
 cases v with
 | false =>
  have hn:¬ FormF f:=fun h=>by have:=hv.2 h;cases this
  obtain rfl:e1=1:=by
   rcases Ha.out with ⟨-,k,-⟩ | ⟨k,-⟩
   ·exact k
   ·exact absurd k hn
  have HE:=wTr HBK HB4.out;clear hv hn;go_wp2_with fail;go_ret;exact ⟨rfl,HE.out⟩
 | true =>
 have HFf:=hide (hv.1 rfl);clear hv
 obtain ⟨rfl,hDa⟩:e1=0/\DoF f a:=by
  rcases Ha.out with ⟨k,-⟩ | ⟨-,k,q⟩
  ·exact absurd HFf.out k
  ·exact ⟨k,q⟩
 have HDa:=hide hDa;have l0:=run_ldFa (HX.out.below HB4.out);clear hDa Ha;go_wp2_with fail;clear l0;refine (refState11_any f _ (HOf.out.ok.below HB4.out) HFf.out).mono ?_;rintro e v5 ⟨s,rfl,Fs,b5,hS,hR⟩;obtain ⟨gs,hgs⟩:∃ g,v5.heap.size=g:=⟨_,rfl⟩;obtain ⟨w5,hst,X5,B5,-⟩:=madeSx v5 s gs hgs;have b55:=b5.trans (B5.mono b5.size);have HB5:=wTr HB4 b55;have HXs:=hide X5;have HSs:Hid (SwB 1 w5 s):=st_b HOf.out (Fs.below B5) hR hS;have HSd:=hide hS;have HFs:Hid (FormS s):=st_form Fs HOf.out.ok.es.1 HOf.out.ok.rs.len HFf.out hS;have HXa5:=hide (HXa4.out.below b55);have HSa5:=hide (HSa4.out.below b55);clear Fs b5 hS hR X5 B5 b55 HXa4 HSa4;have l0:=run_ldSw HXs.out;go_wp2_with fail;clear l0 hst hgs;refine (ofSwot_any s _ (HSs.out.u (by decide))).mono ?_;rintro e v6 ⟨b,e2,rfl,Sb,b6,hb⟩;obtain ⟨gb,hgb⟩:∃ g,v6.heap.size=g:=⟨_,rfl⟩
 obtain ⟨w6,hst,X6,B6,-⟩:=madeDx14 v6 b gb hgb;have b66:=b6.trans (B6.mono b6.size);have HB6:=wTr HB5 b66
 obtain ⟨rfl,hDb⟩:e2=0/\DoS s b:=by
  rcases hb with ⟨k,-⟩ | ⟨-,k,q⟩
  ·exact absurd HFs.out k
  ·exact ⟨k,q⟩
 have HXb:=hide X6;have HSb:=hide (Sb.below B6);have HEd:Hid (EqD a b):=pic_dig HDa.out HSd.out hDb;have HXs6:=hide (HXs.out.below b66);have HSs6:=hide (HSs.out.below b66);have HXa6:=hide (HXa5.out.below b66);have HSa6:=hide (HSa5.out.below b66);clear Sb b6 hb hDb X6 B6 b66 HXs HSs HXa5 HSa5;have l0:=run_ldDi HXa6.out;have l1:=run_ldDi HXb.out;go_wp2_with fail;clear l0 l1 hst hgb;refine (requal14_any a b _ HSa6.out HSb.out).mono ?_;rintro e w7 ⟨v,rfl,hv,b7⟩;obtain rfl:v=true:=hv.2 HEd.out;have HB7:=wTr HB6 b7;have HXs7:=hide (HXs6.out.below b7);have HSs7:=hide (HSs6.out.below b7);clear b7 hv HXa6 HSa6 HXb HSb HEd HXs6 HSs6;have l0:=run_ldFa (HX.out.below HB7.out);have l1:=run_ldDi (HY.out.below HB7.out);go_wp2_with fail;clear l0 l1;refine (lackFacts_any 1 (by decide) f d _ (HOf.out.below HB7.out) (HOd.out.below HB7.out)).mono ?_
 rintro e v8 ⟨l,e3,rfl,Sl,b8,hl⟩;obtain ⟨gl,hgl⟩:∃ g,v8.heap.size=g:=⟨_,rfl⟩;obtain ⟨w8,hst,X8,B8,-⟩:=madeFx v8 l gl hgl;have b88:=b8.trans (B8.mono b8.size);have HB8:=wTr HB7 b88;have HXl:=hide X8;have HSl:=hide (Sl.below B8);have Hl:=hide hl;have HXs8:=hide (HXs7.out.below b88);have HSs8:=hide (HSs7.out.below b88);clear Sl b8 hl X8 B8 b88 HXs7 HSs7;have l0:=run_ldSw HXs8.out;have l1:=run_ldDi (HY.out.below HB8.out);go_wp2_with fail;clear l0 l1 hst hgl;refine (lackSwot_any 1 (by decide) s d _ HSs8.out (HOd.out.below HB8.out)).mono ?_;rintro e v10 ⟨m,e4,rfl,Sm,b10,hm⟩;obtain ⟨gm,hgm⟩:∃ g,v10.heap.size=g:=⟨_,rfl⟩;obtain ⟨w10,hst,X10,B10,-⟩:=madeSx v10 m gm hgm;have b11:=b10.trans (B10.mono b10.size);have HB10:=wTr HB8 b11;have HXm:=hide X10;have HSm:=hide (Sm.below B10);have Hm:=hide hm;have HXl10:=hide (HXl.out.below b11)
 have HSl10:=hide (HSl.out.below b11);clear Sm b10 hm X10 B10 b11 HXl HSl HXs8 HSs8;have l0:=run_ldDi (HY.out.below HB10.out);go_wp2_with fail;clear l0 hst hgm;refine (rinForm14_any d _ (HOd.out.below HB10.out)).mono ?_;rintro e w9 ⟨v,rfl,hv,b9⟩;have HB9:=wTr HB10 b9;have HXm9:=hide (HXm.out.below b9);have HMm:=hide (HSm.out.below b9);have HXl9:=hide (HXl10.out.below b9);have HLl:=hide (HSl10.out.below b9);have HBw:=wTr HBK HB9.out;clear b9 HXm HSm HXl10 HSl10
 cases v with
 | false =>
  have hn:¬ FormD d.h.P d.l.P:=fun h=>by have:=hv.2 h;cases this
  obtain rfl:e3=1:=by
   rcases Hl.out with ⟨-,k,-⟩ | ⟨k,-⟩
   ·exact k
   ·exact absurd k.2 hn
  obtain rfl:e4=1:=by
   rcases Hm.out with ⟨-,k,-⟩ | ⟨k,-⟩
   ·exact k
   ·exact absurd k.2 hn
  clear hv hn;go_wp2_with fail;go_ret;exact ⟨rfl,HBw.out⟩
 | true =>
 have HFd:=hide (hv.1 rfl);clear hv
 obtain ⟨rfl,hL⟩:e3=0/\LfD f d l:=by
  rcases Hl.out with ⟨k,-⟩ | ⟨-,k,q⟩
  ·exact absurd ⟨HFf.out,HFd.out⟩ k
  ·exact ⟨k,q⟩
 obtain ⟨rfl,hM⟩:e4=0/\LsD s d m:=by
  rcases Hm.out with ⟨k,-⟩ | ⟨-,k,q⟩
  ·exact absurd ⟨HFs.out,HFd.out⟩ k
  ·exact ⟨k,q⟩
 have HLf:=hide hL;have HLs:=hide hM;have HFl:Hid (FormF l):=lf_form HLl.out.ok HOf.out.ok.es.1 HOf.out.ok.rs.len HFf.out hL;have HSt:Hid (∀ W,Below w9.heap.size w9 W -> (ldFa (.pointer (some ⟨gl,0,none⟩))).run Tryz.prog W = .ok (FaV (mkF l)) W/\(ldSw (.pointer (some ⟨gm,0,none⟩))).run Tryz.prog W = .ok (FaV (mkF m)) W):=fun W h=>⟨run_ldFa (HXl9.out.below h),run_ldSw (HXm9.out.below h)⟩;clear hL hM Hl Hm;go_upto_region 14 with fail;refine wp_region_held_drew (S:=fun W=>(ldFa (.pointer (some ⟨gl,0,none⟩))).run Tryz.prog W = .ok (FaV (mkF l)) W/\(ldSw (.pointer (some ⟨gm,0,none⟩))).run Tryz.prog W = .ok (FaV (mkF m)) W) (by kernel_rfl) (HSt.out _ (below_drew1 w9)) (fun hHeld=>?_);refine wU 0 ?_;refine wU 1 ?_;refine wU 2 ?_;refine wU 3 ?_;refine wU 4 ?_;refine wU 5 ?_;refine wU 6 ?_;refine wU 7 ?_;refine wpAnyH_ready (rs:=[8]) (by kernel_rfl) (by simp) (.cons rfl (fun K hK=>?_) .nil)
 go_simp;go_wp2_with fail;refine (refFacts_any l _ (HLl.out.ok.below (below_drew1 w9))).mono ?_;rintro x wa ⟨y,rfl,hy,ba⟩;obtain rfl:y=true:=hy.2 HFl.out;have HBa:Hid (Below w9.heap.size w9 wa):=(below_drew1 w9).trans (ba.mono (below_drew1 w9).size);clear hy ba;refine hK.out _ _ (HSt.out _ HBa.out) (fun hHeld=>?_);clear hK K;refine wU 9 ?_;refine wU 10 ?_;refine wU 11 ?_;refine wU 13 ?_;refine wpAnyH_ready (rs:=[12]) (by kernel_rfl) (by simp) (.cons rfl (fun K hK=>?_) .nil);go_simp;go_wp2_with fail;refine (refState11_any l _ (HLl.out.ok.below HBa.out) HFl.out).mono ?_;rintro x wb ⟨z,rfl,Fz,bb,hz,-⟩;have HBb:Hid (Below w9.heap.size w9 wb):=HBa.out.trans (bb.mono HBa.out.size);have HFz:=hide Fz;have HEq:Hid (EqS z m):=pic_lack HFf.out HSd.out HFs.out HLf.out HLs.out hz;clear Fz bb hz;refine hK.out _ _ (HSt.out _ HBb.out) (fun hHeld=>?_)
 clear hK K;refine wpAnyH_ready (rs:=[14]) (by kernel_rfl) (by simp) (.cons rfl (fun K hK=>?_) .nil);go_simp;go_wp2_with fail;refine (equal11_true z m _ HFz.out (HMm.out.ok.below HBb.out) HEq.out).mono ?_;rintro x wc ⟨rfl,bc⟩;have HBc:Hid (Below w9.heap.size w9 wc):=HBb.out.trans (bc.mono HBb.out.size);clear bc;refine hK.out _ _ (HSt.out _ HBc.out) (fun hHeld=>?_);clear hK K;refine wU 15 ?_;refine wU 16 ?_;refine wpAnyH_done (by kernel_rfl) ?_ _;clear hHeld;have HE:=wTr HBw HBc.out;go_wp2_with fail;go_ret;exact ⟨rfl,HE.out⟩
theorem digestPictures_u (f:Fc) (d:Dg) (w:World) (hA:FcU w f) (hD:DgOk w d):Calls Tryz.prog 5 #[FaV (mkF f),DiV (mkD d)] w fun e w'=>e = .returned (.bool true)/\Below w.heap.size w w':=digestPictures_law f d w hA hD
end
section
open Go.ChangeShapes Go.WideShapes Go.ChangeAt Go.RowKit Go.Joins
theorem cellsDi:Tryz.prog.cellsOf 33=4:=by kernel_rfl
theorem four14 {α : Type} {l:List α} (h:l.length=4):∃ a b c d,l=[a,b,c,d]:=by
 match l,h with
 | [a,b,c,d],_=>exact ⟨a,b,c,d,rfl⟩
theorem open_digestU {H:Type} {enc:TypeId × Value -> H} {W:World} {fuel:Nat} {cs:List Value} {x:DataW H × List MemPlace}
  (h:DataW.trod enc Tryz.prog W 0 (fun _=>true) true fuel 33 cs=some x) (hw:Rows.uptoBulk x.1 <= 1048576):∃ d:Dg,cs=(DiC (mkD d)).toList/\DgOk W d:=by
 obtain ⟨xs,m,_,hx,hcl,hxl,hf⟩:=DataW.trod_struct Tryz.underlying33 h;obtain ⟨v0,v1,v2,v3,rfl⟩:=four14 (hcl.trans cellsDi);obtain ⟨y0,y1,rfl⟩:=list2 hxl;have t0:=hf 0 _ rfl;have t1:=hf 1 _ rfl;simp [cellsP] at t0 t1;subst hx;simp only [Rows.uptoBulk,List.map_cons,List.map_nil,Rows.uptoBulkAll] at hw;obtain ⟨p,ep,Sp,-⟩:=viewP t0 (by omega);obtain ⟨q,eq,Sq,-⟩:=viewP t1 (by omega);simp only [List.cons.injEq,and_true] at ep eq;obtain ⟨rfl,rfl⟩:=ep;obtain ⟨rfl,rfl⟩:=eq;exact ⟨⟨p,q⟩,rfl,Sp,Sq⟩
end
end Go.Proofs.YtjeilkenjdnafaaGreat
