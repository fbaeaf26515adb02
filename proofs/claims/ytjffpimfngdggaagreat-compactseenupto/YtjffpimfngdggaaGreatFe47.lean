/- YFm -/
import Derived.Test.YtjffpimfngdggaaGreatTk
import Derived.Test.YtjffpimfngdggaaGreatFe45
import Derived.Test.YtjffpimfngdggaaGreatFe46
set_option maxRecDepth 100000
set_option maxHeartbeats 12800000
namespace Go.Proofs.YtjffpimfngdggaaGreat
open Go.RowKit
theorem rQ.past {w:World} {a:Addr} {f:Fc} (h:rQ w a (mkF f)):PAt w (a.add 1) f.p:=by
 refine ⟨h.c1,?_⟩
 have e:(a.add 1).add 1=a.add 2:=by
  have h0:=World.cell?_spot h.c0;obtain ⟨b,o,s⟩:=a;simp at h0;subst h0;rw [Addr.add_lit,Addr.add_lit,Addr.add_lit]
 rw [e];exact h.c2
theorem EO {L:List K.En} {k:Nat} {p:K.En -> Bool} {e:K.En} (ht:L.take (k+1)=L.take k++[e]):((L.take (k+1)).filter p).length=((L.take k).filter p).length+(if p e=true then 1 else 0):=by
 rw [ht,List.filter_append,List.length_append,List.filter_cons]
 cases p e <;> simp
attribute [local go_sem ↓] zq zp zB zz zL zK zV zU K.zx K.zw zb2 zbE zaf bu xP
attribute [local go_sem] zi zj zE zk zm zv zC zN zS vg wy bp jV vt vW yv zaJ
theorem yl (c:Cz) (w:World) (hU:CzU w c):Calls Tryz.prog 5 #[CzV c] w fun e w'=>e = .returned (.bool true)/\Below w.heap.size w w':=by
 have b1:=ze w (.cells (CzC c) 34);have X1:=zfC w c;obtain ⟨wk,aY⟩:∃ w1,w.alloc (.cells (CzC c) 34)=w1:=⟨_,rfl⟩;rw [aY] at b1 X1;obtain ⟨G,dF⟩:∃ G,w.heap.size=G:=⟨_,rfl⟩;rw [dF] at X1;have sh:=hide X1;have C7:=hide b1;have Jm:=hide (hU.f.b.below b1);clear hU b1 X1;go_enter Tryz.func5,Tryz.ntmps5;go_wp2_with fail;clear aY dF;refine (zb6 _).mono ?_;rintro e w1 ⟨rfl,b1⟩;have HX:=hide (sh.out.below b1);have aq:=wTr C7 b1;have u1:=hide (Jm.out.below b1);have oV:Hid (∀ W,Below w1.heap.size w1 W -> SwB 1 W c.f):=fun W h=>u1.out.below h;clear b1 sh C7 Jm;have l0:=j7 HX.out.fF;go_wp2_with fail;clear l0;refine (kY 1 (by decide) c.f _ u1.out).mono ?_;rintro x v2 ⟨s,er,rfl,Ss,b2,hs⟩;obtain ⟨gs,ot⟩:∃ g,v2.heap.size=g:=⟨_,rfl⟩;obtain ⟨w2,a8,X2,B2,-⟩:=iL v2 s gs ot
 have b22:=b2.trans (B2.mono b2.size);have cg:=hide b22;have th:=hide X2;have o9:=hide (Ss.below B2);have Hs:=hide hs;clear Ss b2 hs X2 B2 b22;have l0:=j7 (HX.out.below cg.out).fF;go_wp2_with fail;clear l0 a8 ot;refine (bS c.f _ (oV.out _ cg.out).ok).mono ?_;rintro x w3 ⟨b,rfl,hb,b3⟩;have aB:=wTr cg b3;have CN:=hide (th.out.below b3);have uY:=hide (o9.out.below b3);clear b3 th o9
 cases b with
 | false =>
  have mn:Hid (¬ av c.f):=fun h=>(by have:=hb.out.2 h;cases this)
  obtain rfl:er=1:=by
   rcases Hs.out with ⟨-,k,-⟩ | ⟨k,-⟩
   ·exact k
   ·exact absurd k mn.out
  have HE:=wTr aq aB.out;clear hb;go_wp2_with fail;go_ret;exact ⟨rfl,HE.out⟩
 | true =>
 have mn:Hid (av c.f):=hb.out.1 rfl;clear hb
 obtain ⟨rfl,hD⟩:er=0/\StD c.f s:=by
  rcases Hs.out with ⟨k,-⟩ | ⟨-,k,q⟩
  ·exact absurd mn.out k
  ·exact ⟨k,q⟩
 have HD:=hide hD;have ms:Hid (aK s):=zd6 uY.out.ok u1.out.ok.es.1 u1.out.ok.rs.len mn.out hD;clear hD Hs;have l0:=j7 (HX.out.below aB.out).fF;go_wp2_with fail;clear l0;have HU:=hide ((oV.out _ aB.out).u (by decide));refine (zaL c.f _ HU.out.ok HU.out.wt HU.out.nm).mono ?_;rintro x w4 hL;obtain ⟨lo,ln,lc,rfl,SL,b4,-⟩:K.dh w3 w4 x (dQ c.f) 0:=hL.elim (fun h=>by have:=h.2;rwa [zhw] at this) fun h=>absurd mn.out h.1;have aQ:=wTr aB b4
 have Ep:Hid (K.aD w4 lo ln lc s.es):=by show _;rw [HD.out.1];exact SL
 have Ef:=hide (CN.out.below b4);have DZ:=hide (uY.out.below b4);clear hL SL b4 CN uY HU;have l0:=j7 (HX.out.below aQ.out).fF;go_wp2_with fail;clear l0;refine (wI c.f _ (oV.out _ aQ.out).ok).mono ?_;rintro x v5 ⟨p,er,rfl,Sp,-,b5,hp⟩
 obtain ⟨rfl,hH⟩:er=0/\dj c.f p.P:=by
  rcases bU hp with ⟨h,-⟩ | ⟨-,h,k⟩
  ·exact absurd mn.out h
  ·exact ⟨h,k⟩
 have Lt:Hid (p.P=s.p.P):=hH.one HD.out.2.1;obtain ⟨g7,fZ⟩:∃ g,v5.heap.size=g:=⟨_,rfl⟩;obtain ⟨w5,a8,X5,B5,-⟩:=it v5 p g7 fZ;have b55:=b5.trans (B5.mono b5.size);have dO:=wTr aQ b55;have DF:=hide X5;have mp:=hide (Sp.below B5);have oM:=hide (Ef.out.below b55);have A7:=hide (DZ.out.below b55);have C5:=hide (Ep.out.below b55);have l0:=qj oM.out;clear Sp b5 hp hH X5 B5 b55 Ef DZ Ep;go_wp2_with fail;clear l0 a8 fZ;refine ((A7.out.u (by decide)).chk).mono ?_;rintro x w6 ⟨z,rfl,hz,b6⟩
 obtain rfl:z=0:=by
  rcases hz with ⟨-,h⟩ | ⟨h,-⟩
  ·exact h
  ·exact absurd ms.out h
 have fQ:=wTr dO b6;have p5:=hide (oM.out.below b6);have Aa:=hide (A7.out.below b6);have AJ:=hide (C5.out.below b6);have DW:=hide (DF.out.below b6);have CX:=hide (mp.out.below b6);clear b6 hz oM A7 C5 DF mp;have c0:=p5.out.cs.1;go_wp2_with fail;clear c0;refine (jJ lo s.ao ln s.an lc s.ac s.es s.es _ AJ.out Aa.out.ok.es).mono ?_;rintro x w7 ⟨y,rfl,hy,b7⟩;obtain rfl:y=true:=hy.2 rfl;have dH:=wTr fQ b7;have An:=hide (p5.out.below b7);have uQ:=hide (Aa.out.below b7);have CS:=hide (AJ.out.below b7);have tb:=hide (DW.out.below b7);have DB:=hide (CX.out.below b7);clear b7 hy p5 Aa AJ DW CX
 have lp:=zl tb.out.at
 have lq:=zl An.out.past;go_wp2_with fail;clear lp lq;refine (xy p s.p _ DB.out uQ.out.ok.p).mono ?_;rintro x w8 ⟨y,rfl,hy,b8⟩;obtain rfl:y=true:=hy.2 Lt.out;have ia:=wTr dH b8;have Dl:=hide (An.out.below b8);have Dq:=hide (uQ.out.below b8);have AH:=hide (CS.out.below b8);clear b8 hy An uQ CS tb DB;go_wp2_with fail;refine (K.zbd lo ln lc s.es _ AH.out).mono ?_;rintro x w9 ⟨ra,rn,rc,RA,ea,rfl,SA,b9,-,hA⟩;have HA:Hid (K.fY s.es RA ea/\RA.length=rn):=⟨hA,SA.1⟩;have ix:=wTr ia b9;have Ai:=hide (Dl.out.below b9);have te:=hide (Dq.out.below b9);have pU:=hide (AH.out.below b9);have c0:=Ai.out.cs.1;clear SA b9 hA Dl Dq AH;go_wp2_with fail;clear c0;refine (K.zbd s.ao s.an s.ac s.es _ te.out.ok.es).mono ?_;rintro x w10 ⟨rb,rm,rd,RB,eb,rfl,SB,b10,-,hB⟩
 obtain ⟨rfl,rfl⟩:=HA.out.1.unique hB;obtain rfl:rn=rm:=HA.out.2.symm.trans SB.1;have JW:Hid (K.chk s.es=0):=(jl te.out.ok.es.1).2 ms.out.1.1
 obtain rfl:ea=0:=by
  rcases hB with ⟨h,-⟩ | ⟨-,h,-⟩
  ·exact absurd JW.out h
  ·exact h
 have IE:=wTr ix b10;have uh:=hide (Ai.out.below b10);have og:=hide (te.out.below b10);have DG:=hide (pU.out.below b10);clear SB b10 hB Ai te pU;obtain ⟨n,hn⟩:∃ n,c.f.an=n:=⟨_,rfl⟩;obtain ⟨ao,eO⟩:∃ a,c.f.ao=a:=⟨_,rfl⟩;obtain ⟨ac,FV⟩:∃ a,c.f.ac=a:=⟨_,rfl⟩
 have HS:Hid (K.aD w1 ao n ac c.f.es):=by rw [<- hn,<- eO,<- FV];exact u1.out.ok.es
 have JG:Hid (∀ W,Below w1.heap.size w1 W -> W.cell? ⟨G,0,none⟩=some (.slice ao n ac)):=fun W h=>by rw [<- hn,<- eO,<- FV];exact (HX.out.below h).fF.c0
 have gJ:Hid (c.f.es.length=n):=HS.out.1
 have pF:n <= 1048576:=by have:=u1.out.an;omega
 have G2:Hid (K.Asc c.f.es/\K.chk c.f.es=0):=by
  have q:=(jl u1.out.ok.es.1).2 mn.out.1;exact ⟨K.ve q,q⟩
 clear hn eO FV;go_wp2_with fail;go_loopw [11,12,13,14,15,16] (fun v i _ _ _ _ wr=>∃ k m:Nat,k <= n/\((c.f.es.take k).filter (lvB c.f.p.P c.f.rs)).length=m/\v = .int .i64 (m:Int)/\i = .int .i64 (k:Int)/\Hid (Below w10.heap.size w10 wr)) (fun _ i _ _ _ _ _=>n - (intOf i).toNat)
 case atStart=>exact ⟨0,0,Nat.zero_le _,rfl,rfl,rfl,Below.refl _ _⟩
 case round =>
  obtain ⟨k,m,hk,hm,rfl,rfl,lK⟩:=hrel
  rename World=>wr
  have gI:=wTr IE lK.out;have c0:=JG.out _ gI.out
  have DL:m <= k:=by
   rw [<- hm];refine Nat.le_trans (List.length_filter_le _ _) ?_;rw [List.length_take];omega
  have Hm:=hide hm;clear hm;by_cases ak:k < n
  ·have cL:(k:Int) < (n:Int):=by omega
   have HT:=hide (Bs c.f.es k (by rw [gJ.out];exact ak))
   have Ia:Hid (c.f.es.getD k K.en0∈c.f.es):=by show _∈_;rw [show c.f.es.getD k K.en0=c.f.es[k]'(by rw [gJ.out];exact ak) by simp [List.getD,gJ.out,ak]];exact List.getElem_mem _
   obtain ⟨ad,eO,A0⟩:=(HS.out.below gI.out).at k ak;subst eO;obtain ⟨e,He⟩:∃ e,Hid (c.f.es.getD k K.en0=e):=⟨_,rfl⟩;rw [He.out] at HT A0
   have Eb:Hid (e∈c.f.es):=by have:=Ia.out;rw [He.out] at this;exact this
   have nr:Hid (okD (aa e)=true):=zbq (xZ G2.out.2 e Eb.out);have E8:=hide (EO (p:=lvB c.f.p.P c.f.rs) HT.out);rw [Hm.out] at E8;have cw:=hide ak;have l7:(ldD (.pointer (some (ad.add (k * 4))))).run Tryz.prog wr = .ok (RV (aa e)) wr:=zG (r:=aa e) ⟨A0.c0,A0.c1⟩;obtain ⟨g13,D9⟩:∃ g,wr.heap.size=g:=⟨_,rfl⟩;obtain ⟨wd,CP,Xd,Bd,-⟩:=uM wr (aa e) g13 D9;have gO:=wTr gI Bd;have K3:=wTr lK Bd;have KE:=hide Xd;have l1:=j7 (HX.out.below gO.out).fF
   have l2:=zG Xd.at
   clear A0 ak hk Bd Xd;go_wp2_with fail;clear l7 D9 CP l1 l2 c0;refine (zfm 1 c.f (aa e) _ (oV.out _ gO.out)).mono ?_;rintro x v5 ⟨t,er,rfl,b5,ht⟩
   obtain ⟨rfl,nt⟩:er=0/\t=ftE c.f e:=by
    rcases ht with ⟨h,-⟩ | ⟨-,h,-⟩ | ⟨-,-,h,k⟩
    ·exact absurd mn.out h
    ·rw [nr.out] at h;cases h
    ·exact ⟨h,k.one G2.out.1 (.inl ⟨e,Eb.out,rfl,rfl⟩)⟩
   have Kv:=hide nt;clear nt;obtain ⟨g14,CO⟩:∃ g,v5.heap.size=g:=⟨_,rfl⟩;obtain ⟨w5',a8,X5,B5,-⟩:=BL v5 t g14 CO;have b55:=b5.trans (B5.mono b5.size);have CV:=wTr gO b55;have Ag:=wTr K3 b55;have Ck:=hide X5;have Hd:=hide (KE.out.below b55);have l1:=qj (uh.out.below Ag.out)
   have l2:=zG Hd.out.at
   clear b5 ht X5 B5 b55 KE gO K3;go_wp2_with fail;clear l1 l2 a8 CO;refine (zbB s (aa e) _ ((og.out.below Ag.out).u (by decide))).mono ?_;rintro x w7 ⟨kx,rfl,Cf,b7⟩;have dH:=hide (CV.out.trans (b7.mono CV.out.size));have AZ:=wTr Ag b7;have sK:=hide (Ck.out.below b7);have Dh:=hide (Hd.out.below b7);have np:cB s.p.P (aa e):=(qd s.p.P e).1 ((zbj HD.out.2.1 e).2 (.inl ⟨nr.out,e,Eb.out,rfl⟩))
   have sO:(∃ y∈s.es,aa y=aa e)↔lvB c.f.p.P c.f.rs e=true:=by
    rw [HD.out.1];constructor
    ·rintro ⟨y,hy,hd⟩;obtain ⟨h1,h2⟩:=List.mem_filter.1 hy;rw [vm G2.out.1 Eb.out h1 (yk hd.symm)];exact h2
    ·exact fun h=>⟨e,List.mem_filter.2 ⟨Eb.out,h⟩,rfl⟩
   have gY:lvB c.f.p.P c.f.rs e=true -> kx=1:=fun h=>by
    rcases Cf with ⟨q,-⟩ | ⟨-,-,q⟩ | ⟨-,q,-⟩
    ·exact absurd ⟨ms.out,np⟩ q
    ·exact q
    ·exact absurd (sO.2 h) q
   have oq:lvB c.f.p.P c.f.rs e=false -> kx=2:=fun h=>by
    rcases Cf with ⟨q,-⟩ | ⟨-,q,-⟩ | ⟨-,-,q⟩
    ·exact absurd ⟨ms.out,np⟩ q
    ·have:=sO.1 q;rw [h] at this;cases this
    ·exact q
   clear Cf b7 np sO Ck Hd;obtain ⟨cnt,pD⟩:∃ q,c.f.rs.countP (fun r=>cQ r e)=q:=⟨_,rfl⟩
   have ux:cW c.f.rs e=true↔cnt=0:=by rw [<- pD];exact zgA _ _
   have nt:=Kv.out;clear Kv;unfold ftE at nt;rw [pD] at nt
   cases hi:inB c.f.p.P e with
   | true =>
    have fS:lvB c.f.p.P c.f.rs e=false:=by unfold lvB;rw [hi];rfl
    have Hi:=hide hi;rw [hi,if_pos rfl] at nt
    have De:Hid (((c.f.es.take (k+1)).filter (lvB c.f.p.P c.f.rs)).length=m):=by have:=E8.out;rw [fS] at this;exact this
    clear hi ux pD;obtain rfl:kx=2:=oq fS
    have fT:Hid (aI w7 g14 ⟨(aa e).lo,(aa e).hi,2,(cnt:Nat)⟩):=by have h:=sK.out;rw [nt] at h;exact h
    clear gY oq nt sK;have aG:Hid (∀ W,Below w7.heap.size w7 W -> ((ldD (.pointer (some ⟨g14,0,none⟩))).run Tryz.prog W = .ok (RV (aa e)) W/\(ldD (.pointer (some ⟨g13,0,none⟩))).run Tryz.prog W = .ok (RV (aa e)) W/\W.cell? ⟨g14,2,none⟩=some (.int .i64 2))/\(ldP (.pointer (some ⟨G,1,none⟩))).run Tryz.prog W = .ok (PV c.f.p) W):=fun W h=>⟨⟨zG (r:=aa e) ⟨(fT.out.below h).c0,(fT.out.below h).c1⟩,zG (Dh.out.below h).at,(fT.out.below h).c2⟩,zl (HX.out.below (dH.out.trans (h.mono dH.out.size))).fF.past⟩;have D6:eqD (aa e) (aa e)=true:=(kr _ _).2 rfl;clear fS;go_upto_region 21 with fail;refine wp_region_held_drew (S:=fun W=>((ldD (.pointer (some ⟨g14,0,none⟩))).run Tryz.prog W = .ok (RV (aa e)) W/\(ldD (.pointer (some ⟨g13,0,none⟩))).run Tryz.prog W = .ok (RV (aa e)) W/\W.cell? ⟨g14,2,none⟩=some (.int .i64 2))/\(ldP (.pointer (some ⟨G,1,none⟩))).run Tryz.prog W = .ok (PV c.f.p) W) (by kernel_rfl) (aG.out _ (zg w7)) (fun hHeld=>?_)
    refine wU 0 ?_;refine wU 1 ?_;refine wU 2 ?_;refine wU 3 ?_;refine wU 4 ?_;refine wU 5 ?_;refine wU 6 ?_;refine wU 7 ?_;refine wU 8 ?_;refine wU 9 ?_;refine wU 10 ?_;refine wU 11 ?_;refine wU 12 ?_;refine wU 13 ?_;refine wU 14 ?_;refine wU 15 ?_;refine wU 16 ?_;refine wU 17 ?_;refine wU 18 ?_;refine wU 19 ?_;refine wU 20 ?_;refine wU 21 ?_;refine wU 22 ?_;refine wU 23 ?_;refine wU 24 ?_;refine wU 25 ?_;refine wU 26 ?_;refine wU 27 ?_;refine wU 28 ?_;refine wU 29 ?_;refine wU 30 ?_;refine wU 31 ?_;refine wU 32 ?_;refine wpAnyH_ready (rs:=[33]) (by kernel_rfl) (by simp) (.cons rfl (fun K hK=>?_) .nil);go_simp;go_wp2_with fail;refine (qK c.f.p (aa e) _ (oV.out _ (dH.out.trans ((zg w7).mono dH.out.size))).ok.p).mono ?_;rintro x w8 ⟨y,rfl,hy,b8⟩
    obtain rfl:y=true:=by
     have q:y=inB c.f.p.P e:=by rw [Bool.eq_iff_iff,qd];exact hy.out
     rw [q,Hi.out]
    have oe:=hide ((zg w7).trans (b8.mono (zg w7).size));clear b8 hy;refine hK.out _ _ (aG.out _ oe.out) (fun hHeld=>?_);clear hK K;refine wU 34 ?_;refine wU 35 ?_;refine wpAnyH_done (by kernel_rfl) ?_ _;clear hHeld;have ia:=wTr AZ oe.out;have q2:=(fT.out.below oe.out).c2;have q3:=(fT.out.below oe.out).c3;clear D6;go_wp2_with fail;clear q2 q3;go_roundw
    case rel=>exact ⟨k+1,m,cw.out,De.out,rfl,by simp,ia⟩
    case measure=>simp [intOf];have:=cw.out;omega
   | false =>
    have Hi:=hide hi;rw [hi,if_neg (by decide)] at nt;by_cases h0:cnt=0
    ·have fS:lvB c.f.p.P c.f.rs e=true:=by unfold lvB;rw [hi,ux.2 h0];rfl
     rw [if_pos h0] at nt;have FI:=hide h0
     have De:Hid (((c.f.es.take (k+1)).filter (lvB c.f.p.P c.f.rs)).length=m+1):=by have:=E8.out;rw [fS] at this;exact this
     clear hi ux pD h0;obtain rfl:kx=1:=gY fS
     have fT:Hid (aI w7 g14 ⟨(aa e).lo,(aa e).hi,1,(cnt:Nat)⟩):=by have h:=sK.out;rw [nt] at h;exact h
     clear gY oq nt sK;have aG:Hid (∀ W,Below w7.heap.size w7 W -> ((ldD (.pointer (some ⟨g14,0,none⟩))).run Tryz.prog W = .ok (RV (aa e)) W/\(ldD (.pointer (some ⟨g13,0,none⟩))).run Tryz.prog W = .ok (RV (aa e)) W/\W.cell? ⟨g14,2,none⟩=some (.int .i64 1))/\(ldP (.pointer (some ⟨G,1,none⟩))).run Tryz.prog W = .ok (PV c.f.p) W):=fun W h=>⟨⟨zG (r:=aa e) ⟨(fT.out.below h).c0,(fT.out.below h).c1⟩,zG (Dh.out.below h).at,(fT.out.below h).c2⟩,zl (HX.out.below (dH.out.trans (h.mono dH.out.size))).fF.past⟩;have D6:eqD (aa e) (aa e)=true:=(kr _ _).2 rfl;clear fS;go_upto_region 21 with fail;refine wp_region_held_drew (S:=fun W=>((ldD (.pointer (some ⟨g14,0,none⟩))).run Tryz.prog W = .ok (RV (aa e)) W/\(ldD (.pointer (some ⟨g13,0,none⟩))).run Tryz.prog W = .ok (RV (aa e)) W/\W.cell? ⟨g14,2,none⟩=some (.int .i64 1))/\(ldP (.pointer (some ⟨G,1,none⟩))).run Tryz.prog W = .ok (PV c.f.p) W) (by kernel_rfl) (aG.out _ (zg w7)) (fun hHeld=>?_)
     refine wU 0 ?_;refine wU 1 ?_;refine wU 2 ?_;refine wU 3 ?_;refine wU 4 ?_;refine wU 5 ?_;refine wU 6 ?_;refine wU 7 ?_;refine wU 8 ?_;refine wU 9 ?_;refine wU 10 ?_;refine wU 11 ?_;refine wU 12 ?_;refine wU 13 ?_;refine wU 14 ?_;refine wU 15 ?_;refine wU 16 ?_;refine wU 17 ?_;refine wU 18 ?_;refine wU 19 ?_;refine wU 20 ?_;refine wU 21 ?_;refine wU 22 ?_;refine wU 23 ?_;refine wU 24 ?_;refine wU 25 ?_;refine wU 26 ?_;refine wU 27 ?_;refine wU 28 ?_;refine wU 29 ?_;refine wU 30 ?_;refine wU 31 ?_;refine wU 32 ?_;refine wpAnyH_ready (rs:=[33]) (by kernel_rfl) (by simp) (.cons rfl (fun K hK=>?_) .nil);go_simp;go_wp2_with fail;refine (qK c.f.p (aa e) _ (oV.out _ (dH.out.trans ((zg w7).mono dH.out.size))).ok.p).mono ?_;rintro x w8 ⟨y,rfl,hy,b8⟩
     obtain rfl:y=false:=by
      have q:y=inB c.f.p.P e:=by rw [Bool.eq_iff_iff,qd];exact hy.out
      rw [q,Hi.out]
     have oe:=hide ((zg w7).trans (b8.mono (zg w7).size));clear b8 hy;refine hK.out _ _ (aG.out _ oe.out) (fun hHeld=>?_);clear hK K;refine wU 34 ?_;refine wU 35 ?_;refine wpAnyH_done (by kernel_rfl) ?_ _;clear hHeld;have ia:=wTr AZ oe.out;have q2:=(fT.out.below oe.out).c2;have q3:=(fT.out.below oe.out).c3;clear D6
     have oW:((cnt:Int) != 0)=false:=by simp [FI.out]
     go_wp2_with fail;clear q2 q3 oW;go_roundw
     case rel=>exact ⟨k+1,m+1,cw.out,De.out,by simp,by simp,ia⟩
     case measure=>simp [intOf];have:=cw.out;omega
    ·have fS:lvB c.f.p.P c.f.rs e=false:=by
      unfold lvB;rw [hi,Bool.not_false,Bool.true_and,Bool.eq_false_iff];exact fun q=>h0 (ux.1 q)
     rw [if_neg h0] at nt;have FI:=hide h0
     have De:Hid (((c.f.es.take (k+1)).filter (lvB c.f.p.P c.f.rs)).length=m):=by have:=E8.out;rw [fS] at this;exact this
     clear hi ux pD h0;obtain rfl:kx=2:=oq fS
     have fT:Hid (aI w7 g14 ⟨(aa e).lo,(aa e).hi,3,(cnt:Nat)⟩):=by have h:=sK.out;rw [nt] at h;exact h
     clear gY oq nt sK;have aG:Hid (∀ W,Below w7.heap.size w7 W -> ((ldD (.pointer (some ⟨g14,0,none⟩))).run Tryz.prog W = .ok (RV (aa e)) W/\(ldD (.pointer (some ⟨g13,0,none⟩))).run Tryz.prog W = .ok (RV (aa e)) W/\W.cell? ⟨g14,2,none⟩=some (.int .i64 3))/\(ldP (.pointer (some ⟨G,1,none⟩))).run Tryz.prog W = .ok (PV c.f.p) W):=fun W h=>⟨⟨zG (r:=aa e) ⟨(fT.out.below h).c0,(fT.out.below h).c1⟩,zG (Dh.out.below h).at,(fT.out.below h).c2⟩,zl (HX.out.below (dH.out.trans (h.mono dH.out.size))).fF.past⟩;have D6:eqD (aa e) (aa e)=true:=(kr _ _).2 rfl;clear fS;go_upto_region 21 with fail;refine wp_region_held_drew (S:=fun W=>((ldD (.pointer (some ⟨g14,0,none⟩))).run Tryz.prog W = .ok (RV (aa e)) W/\(ldD (.pointer (some ⟨g13,0,none⟩))).run Tryz.prog W = .ok (RV (aa e)) W/\W.cell? ⟨g14,2,none⟩=some (.int .i64 3))/\(ldP (.pointer (some ⟨G,1,none⟩))).run Tryz.prog W = .ok (PV c.f.p) W) (by kernel_rfl) (aG.out _ (zg w7)) (fun hHeld=>?_)
     refine wU 0 ?_;refine wU 1 ?_;refine wU 2 ?_;refine wU 3 ?_;refine wU 4 ?_;refine wU 5 ?_;refine wU 6 ?_;refine wU 7 ?_;refine wU 8 ?_;refine wU 9 ?_;refine wU 10 ?_;refine wU 11 ?_;refine wU 12 ?_;refine wU 13 ?_;refine wU 14 ?_;refine wU 15 ?_;refine wU 16 ?_;refine wU 17 ?_;refine wU 18 ?_;refine wU 19 ?_;refine wU 20 ?_;refine wU 21 ?_;refine wU 22 ?_;refine wU 23 ?_;refine wU 24 ?_;refine wU 25 ?_;refine wU 26 ?_;refine wU 27 ?_;refine wU 28 ?_;refine wU 29 ?_;refine wU 30 ?_;refine wU 31 ?_;refine wU 32 ?_;refine wpAnyH_ready (rs:=[33]) (by kernel_rfl) (by simp) (.cons rfl (fun K hK=>?_) .nil);go_simp;go_wp2_with fail;refine (qK c.f.p (aa e) _ (oV.out _ (dH.out.trans ((zg w7).mono dH.out.size))).ok.p).mono ?_;rintro x w8 ⟨y,rfl,hy,b8⟩
     obtain rfl:y=false:=by
      have q:y=inB c.f.p.P e:=by rw [Bool.eq_iff_iff,qd];exact hy.out
      rw [q,Hi.out]
     have oe:=hide ((zg w7).trans (b8.mono (zg w7).size));clear b8 hy;refine hK.out _ _ (aG.out _ oe.out) (fun hHeld=>?_);clear hK K;refine wU 34 ?_;refine wU 35 ?_;refine wpAnyH_done (by kernel_rfl) ?_ _;clear hHeld;have ia:=wTr AZ oe.out;have q2:=(fT.out.below oe.out).c2;have q3:=(fT.out.below oe.out).c3;clear D6
     have oW:((cnt:Int) == 0)=false:=by have:=FI.out;simp;omega
     have sR:decide ((cnt:Int)=0)=false:=by have:=FI.out;simp;omega
     go_wp2_with fail;clear q2 q3 oW sR;go_roundw
     case rel=>exact ⟨k+1,m,cw.out,De.out,rfl,by simp,ia⟩
     case measure=>simp [intOf];have:=cw.out;omega
  ·have cL:¬ (k:Int) < (n:Int):=by omega
   obtain rfl:m=s.an:=by
    have q:=Hm.out;rw [List.take_of_length_le (by rw [gJ.out];omega),<- HD.out.1] at q;rw [<- q];exact og.out.ok.es.1
   have l0:=j7 (HX.out.below gI.out).fF;clear ak hk DL;go_wp2_with fail;clear l0 c0;refine (zdQ 1 (by decide) c.f _ (oV.out _ gI.out)).mono ?_;rintro x v9 ⟨m1,e1,rfl,b9,E6⟩
   obtain ⟨rfl,JP⟩:e1=0/\m1.a=(n:Int) - (s.an:Int):=by
    rcases E6 with ⟨h,-⟩ | ⟨-,h,s2,z,h2,-,h3⟩
    ·exact absurd mn.out h
    ·refine ⟨h,?_⟩;have q:=(wJ HD.out h2).1;have q2:=og.out.ok.es.1;rw [h3]
     show (c.f.es.length:Int) - (s2.es.length:Int)=_
     rw [<- q,gJ.out,q2]
   obtain ⟨g9,KY⟩:∃ g,v9.heap.size=g:=⟨_,rfl⟩;obtain ⟨w9',a8,X9,B9,-⟩:=Bu v9 m1 g9 KY;have b99:=b9.trans (B9.mono b9.size);have AB:=wTr gI b99;have CU:=wTr lK b99;have q0:=X9.c0;rw [JP] at q0;have c0:=JG.out _ AB.out;have cs0:=(uh.out.below CU.out).cs.1
   have ti:s.an <= 1048576:=by have:=og.out.an;omega
   have pU:=hide (DG.out.below CU.out);clear b9 X9 B9 b99 E6 JP;go_wp2_with fail;clear a8 KY q0 c0 cs0;refine (K.kG lo ln lc s.es _ pU.out).mono ?_;rintro x w20 ⟨rfl,b20⟩;have HE:=hide (aq.out.trans ((AB.out.trans (b20.mono AB.out.size)).mono aq.out.size));have iH:K.okN s.es ln=true:=(jl pU.out.1).1 JW.out;clear b20;go_wp2_with fail;go_ret;exact ⟨rfl,HE.out⟩
end Go.Proofs.YtjffpimfngdggaaGreat
