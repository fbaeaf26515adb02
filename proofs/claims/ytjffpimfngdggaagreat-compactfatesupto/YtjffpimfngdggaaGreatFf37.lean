import Derived.Test.YtjffpimfngdggaaGreatFf36
set_option maxRecDepth 100000
set_option maxHeartbeats 6400000
namespace Go.Proofs.YtjffpimfngdggaaGreat
section
open Go.RowKit
theorem aH.setC {w:World} {g:Nat} {l y:FtR} (h:aH w g l) (j:Nat) (v:Value) (hy:(FtC l).setIfInBounds j v=FtC y):aH (w.setCell ⟨g,j,none⟩ v) g y/\w.frozen? ⟨g,j,none⟩=false:=by
 unfold aH at h ⊢;exact ⟨by rw [heap_setCell_same w g j _ _ _ h,hy],by simp [World.frozen?,h]⟩
theorem kD:(#[.int .i64 0,.int .i64 0,.int .i64 0,.int .i64 0]:Array Value)=FtC ft0:=rfl
theorem zfJ {r:Rc} {q:Pv} {e:K.En} {i n:Nat} (h:ag r.p.P) (hn:r.p.P.cloud.length=n) (hF:fK r.p.P.cloud (ae e) n i) (hq:q.P=⟨r.p.P.vec,(r.p.P.cloud.drop i).take 1⟩):cv ⟨r.s,q⟩ e=cv r e:=by
 have h1:inB q.P e=inB r.p.P e:=by
  rw [Bool.eq_iff_iff,ql,ql,hq];exact zaz h hn hF
 unfold cv;rw [h1]
attribute [local go_sem ↓] zq zp zE zD zY zX K.zy K.zx qf qe za1 yy wT wI
attribute [local go_sem] zi zk zl zr zv zz zM zR K.zu K.zH K.zJ zL zS qg yd jA kn zca kD
theorem zbR (ao:Option Addr) (n cap:Nat) (L:List Rc) (e:K.En) (w:World) (hS:RcS w ao n cap L) (hI:∀ r∈L,ag r.p.P) :
  Calls Tryz.prog 84 #[.slice ao n cap,K.EV e] w fun x w'=>x = .returned (.int .i64 (L.countP (fun r=>cv r e)))/\Below w.heap.size w w':=by
 have b1:=ze w (.cells (K.EC e) 50);have x1:=K.zQ w 50 e;obtain ⟨w1,cF⟩:∃ w1,w.alloc (.cells (K.EC e) 50)=w1:=⟨_,rfl⟩;obtain ⟨g1,cP⟩:∃ g1,w.heap.size=g1:=⟨_,rfl⟩;rw [cF] at b1 x1;rw [cP] at x1;have HB:=hide b1;have HX:=hide x1;have HS:=hide (hS.below b1);have hn:=hS.big;have HL:Hid (L.length=n):=hS.len;have N5:=hide hI;clear b1 x1 hS hI;go_enter Tryz.func84,Tryz.ntmps84;go_wp2_with fail;clear cF cP;go_loopw [5,10] (fun c i wr=>∃ (k m:Nat),k <= n/\m <= k/\c = .int .i64 (m:Int)/\i = .int .i64 (k:Int)/\Hid ((L.take k).countP (fun r=>cv r e)=m)/\Hid (Below w1.heap.size w1 wr)) (fun _ i _=>n - (intOf i).toNat)
 case atStart=>exact ⟨0,0,Nat.zero_le _,Nat.le_refl _,rfl,rfl,rfl,Below.refl _ _⟩
 case round =>
  obtain ⟨k,m,hk,hm,rfl,rfl,HM,fl⟩:=hrel
  rename World=>wr
  by_cases ak:k < n
  ·have aX:(k:Int) < (n:Int):=by omega
   obtain ⟨ad,cU,A0⟩:=(HS.below fl).at k ak;subst cU;have dF:=zC A0;have HO:=hide ((HS.below fl).okAt k ak);have HT:=hide (kc L k (by rw [HL.out];exact ak));have nV:Hid (ag (L.getD k rc0).p.P):=N5.out _ (x6 (L:=L) (j:=k) (by rw [HL.out];exact ak));obtain ⟨r,Hr⟩:∃ r,Hid (L.getD k rc0=r):=⟨_,rfl⟩
   have HI:Hid (ag r.p.P):=by rw [<- Hr.out];exact nV.out
   rw [Hr.out] at dF HO HT;obtain ⟨gr,BQ⟩:∃ g,wr.heap.size=g:=⟨_,rfl⟩;obtain ⟨wa,cd,Xa,ba,sa⟩:=gt wr (mkR r) gr BQ;have Is:=hide Xa;have ov:=hide (HO.below ba);have mo:=wTr fl ba;have Eu:=hide ((HX.below fl).below ba)
   have aB:Hid (∀ W,Below wa.heap.size wa W -> (W.cell? ⟨gr,0,none⟩=some (.string r.s)/\(ldP (.pointer (some ⟨gr,1,none⟩))).run Tryz.prog W = .ok (PV r.p) W)/\(ldD (.pointer (some ⟨g1,0,none⟩))).run Tryz.prog W = .ok (RV (ae e)) W/\(K.dJ (.pointer (some ⟨g1,0,none⟩))).run Tryz.prog W = .ok (K.EV e) W):=fun W h=>by
    have A:=(Eu.below h).at
    exact ⟨⟨(Is.below h).sk,zj (Is.below h).past⟩,zG (r:=ae e) ⟨A.c0,A.c1⟩,K.zB A⟩
   have aK:=hide ak;clear A0 Xa ba sa ak;go_upto_region 5 with fail;clear cd BQ dF;refine wp_region_held_drew (S:=fun W=>(W.cell? ⟨gr,0,none⟩=some (.string r.s)/\(ldP (.pointer (some ⟨gr,1,none⟩))).run Tryz.prog W = .ok (PV r.p) W)/\(ldD (.pointer (some ⟨g1,0,none⟩))).run Tryz.prog W = .ok (RV (ae e)) W/\(K.dJ (.pointer (some ⟨g1,0,none⟩))).run Tryz.prog W = .ok (K.EV e) W) (by kernel_rfl) (aB.out _ (zf wa)) (fun hHeld=>?_);refine wU 0 ?_;refine wU 1 ?_;refine wU 2 ?_;refine wU 3 ?_;refine wU 4 ?_;refine wU 5 ?_;refine wU 8 ?_;refine wR 6 fun K hK=>?_;go_simp;go_wp2_with fail;refine (zby r.p (ae e) _ (ov.1.below (zf wa)) (fun a b ee hb=>kU HI.out _ a b ee (by rw [ov.1.cloud.len];exact hb))).mono ?_;rintro x w3 ⟨q,i,rfl,Sq,hF,hq,b3⟩
   have aw:=hide ((zf wa).trans (b3.mono (zf wa).size));have C9:Hid (cv ⟨r.s,q⟩ e=cv r e):=zfJ HI.out ov.1.cloud.len hF hq;have Gu:=hide Sq;clear b3 hF hq Sq;refine hK.out _ _ (aB.out _ aw) (fun hHeld=>?_);clear hK K;refine wU 7 ?_;refine wR 9 fun K hK=>?_;go_simp;go_wp2_with fail;refine (zec ⟨r.s,q⟩ e _ ⟨Gu.out,ov.2⟩).mono ?_;rintro x w4 ⟨rfl,b4⟩;rw [C9.out];have aI:=wTr aw b4;have LM:=wTr mo aI.out;clear b4;refine hK.out _ _ (aB.out _ aI) (fun hHeld=>?_);clear hK K;refine wD ?_ _;clear hHeld
   cases hc:cv r e with
   | true =>
    have HN:Hid ((L.take (k+1)).countP (fun r=>cv r e)=m+1):=by show _=_;rw [HT.out,List.countP_append,HM.out];simp [hc]
    clear hc;go_wp2_with fail;go_roundw
    case rel=>exact ⟨k+1,m+1,aK.out,by omega,by go_num,by go_num,HN,LM⟩
    case measure=>simp [intOf];have:=aK.out;omega
   | false =>
    have HN:Hid ((L.take (k+1)).countP (fun r=>cv r e)=m):=by show _=_;rw [HT.out,List.countP_append,HM.out];simp [hc]
    clear hc;go_wp2_with fail;go_roundw
    case rel=>exact ⟨k+1,m,aK.out,by omega,rfl,by go_num,HN,LM⟩
    case measure=>simp [intOf];have:=aK.out;omega
  ·have aX:¬ (k:Int) < (n:Int):=by omega
   have HE:Hid ((m:Int)=(L.countP (fun r=>cv r e):Nat)):=by
    show _=_
    rw [<- HM.out,List.take_of_length_le (by have:=HL.out;omega)]
   have fk:=wTr HB fl.out;clear ak;go_wp2_with fail;go_ret;exact ⟨by rw [<- HE.out];rfl,fk.out⟩
def ftE (f:Fc) (e:K.En):FtR:=⟨e.rep,e.num,if inB f.p.P e=true then 2 else if f.rs.countP (fun r=>cv r e)=0 then 1 else 3,(f.rs.countP (fun r=>cv r e):Nat)⟩
theorem Co (w:World) (f:Fc) (e:K.En):∃ wk,((w.alloc (.cells (FaC (mkF f)) 29)).alloc (.cells (K.EC e) 50)).alloc (.cells (FtC ft0) 52)=wk/\Hid (aF wk w.heap.size (mkF f))/\Hid (K.gE wk ⟨w.heap.size+1,0,none⟩ e)/\Hid (aH wk (w.heap.size+2) ft0)/\Hid (Below w.heap.size w wk)/\wk.heap.size=w.heap.size+3:=by
 have b1:=ze w (.cells (FaC (mkF f)) 29);have b2:=ze (w.alloc (.cells (FaC (mkF f)) 29)) (.cells (K.EC e) 50);have b3:=ze ((w.alloc (.cells (FaC (mkF f)) 29)).alloc (.cells (K.EC e) 50)) (.cells (FtC ft0) 52);have X2:=K.zQ (w.alloc (.cells (FaC (mkF f)) 29)) 50 e;have X3:=q8 ((w.alloc (.cells (FaC (mkF f)) 29)).alloc (.cells (K.EC e) 50)) ft0;rw [World.size_alloc] at X2;rw [World.size_alloc,World.size_alloc] at X3;exact ⟨_,rfl,((zU w (mkF f)).below b2).below b3,(X2.below b3).at,X3,(tmq b1 b2).trans (b3.mono (tmq b1 b2).size),by rw [World.size_alloc,World.size_alloc,World.size_alloc]⟩
theorem vh (N:Nat) (f:Fc) (e:K.En) (w:World) (hF:SwB N w f) (hP:ag f.p.P) (hR:∀ r∈f.rs,ag r.p.P):Calls Tryz.prog 44 #[FaV (mkF f),K.EV e] w fun x w'=>x = .returned (FtV (ftE f e))/\Below w.heap.size w w':=by
 obtain ⟨wk,aL,HX,HY,HZ,al,dE⟩:=Co w f e;obtain ⟨G,cK⟩:∃ G,w.heap.size=G:=⟨_,rfl⟩;rw [cK] at HX HY HZ dE;have eX:Hid (w.heap.size=G):=cK;have BE:Hid (wk.heap.size=G+3):=dE
 have FC:Hid (G+3 <= wk.heap.size):=by rw [BE.out];exact Nat.le_refl _
 have HF:=hide (hF.below al);have HI:Hid (ag f.p.P/\∀ r∈f.rs,ag r.p.P):=⟨hP,hR⟩;clear hF hP hR dE
 have aB:Hid (∀ W,Below wk.heap.size wk W -> (W.cell? ⟨G,3,none⟩=some (.slice f.ro f.rn f.rc)/\(ldP (.pointer (some ⟨G,1,none⟩))).run Tryz.prog W = .ok (PV f.p) W)/\(ldD (.pointer (some ⟨G+1,0,none⟩))).run Tryz.prog W = .ok (RV (ae e)) W/\(K.dJ (.pointer (some ⟨G+1,0,none⟩))).run Tryz.prog W = .ok (K.EV e) W):=fun W h=>by
  have A:=HY.on h;exact ⟨⟨(HX.below h).cs.2,zj (HX.below h).past⟩,zG (r:=ae e) ⟨A.c0,A.c1⟩,K.zB A⟩
 go_enter Tryz.func44,Tryz.ntmps44;go_upto_region 1 with fail;clear aL cK
 go_cut [5] from 6 to 12 (fun u wx=>∃ (g5:Nat),u = .pointer (some ⟨g5,0,none⟩)/\Hid (aH wx g5 (⟨(ae e).lo,(ae e).hi,1,(f.rs.countP (fun r=>cv r e):Nat)⟩:FtR)/\Below wk.heap.size wk wx)/\Hid (G+3 <= g5))
 case first =>
  refine wp_region_held_drew (S:=fun W=>(W.cell? ⟨G,3,none⟩=some (.slice f.ro f.rn f.rc)/\(ldP (.pointer (some ⟨G,1,none⟩))).run Tryz.prog W = .ok (PV f.p) W)/\(ldD (.pointer (some ⟨G+1,0,none⟩))).run Tryz.prog W = .ok (RV (ae e)) W/\(K.dJ (.pointer (some ⟨G+1,0,none⟩))).run Tryz.prog W = .ok (K.EV e) W) (by kernel_rfl) (aB.out _ (zf wk)) (fun hHeld=>?_);obtain ⟨v0,nZ⟩:∃ v,wk.drew=v:=⟨_,rfl⟩
  have nh:Hid (Below wk.heap.size wk v0):=by rw [<- nZ];exact zf wk
  rw [nZ] at hHeld ⊢;clear nZ;refine wU 0 ?_;refine wU 1 ?_;refine wU 2 ?_;refine wU 3 ?_;refine wU 4 ?_;refine wpAnyH_ready (rs:=[5,7]) (by kernel_rfl) (by simp) ?_;refine AllReadyH.cons rfl (fun K hK=>?_) (AllReadyH.cons rfl (fun K hK=>?_) AllReadyH.nil)
  ·go_simp;go_wp2_with fail;refine (zbR f.ro f.rn f.rc f.rs e _ (HF.ok.rs.below nh) HI.2).mono ?_;rintro x v1 ⟨rfl,bc⟩;have iH:=wTr nh bc;clear bc;refine hK.out _ _ (aB.out _ iH) (fun hHeld=>?_);clear hK K;refine wU 6 ?_;refine wR 7 fun K hK=>?_;have bA:=ze v1 (.cells (FtC ft0) 52);have XA:=q8 v1 ft0;obtain ⟨g5,iY⟩:∃ g,v1.heap.size=g:=⟨_,rfl⟩;obtain ⟨wA,i8⟩:∃ w,v1.alloc (.cells (FtC ft0) 52)=w:=⟨_,rfl⟩
   have oB:Hid (G+3 <= g5):=by rw [<- iY];exact Nat.le_trans FC.out iH.size
   go_simp;rw [i8] at bA XA;rw [iY] at XA;have gK:=hide XA;have np:Hid (Below wk.heap.size wk wA):=tmq iH bA
   try rw [i8]
   try rw [iY]
   refine hK.out _ _ (aB.out _ np) (fun hHeld=>?_);clear hK K;clear bA XA i8 iY;have A5:=gK.out;have ng:Hid (aH (wA.setRow g5 (FtC (⟨(ae e).lo,(ae e).hi,1,(f.rs.countP (fun r=>cv r e):Nat)⟩:FtR))) g5 (⟨(ae e).lo,(ae e).hi,1,(f.rs.countP (fun r=>cv r e):Nat)⟩:FtR)/\Below wk.heap.size wk (wA.setRow g5 (FtC (⟨(ae e).lo,(ae e).hi,1,(f.rs.countP (fun r=>cv r e):Nat)⟩:FtR)))):=⟨A5.setRow,zh np.out (by have:=oB.out;have:=BE.out;omega)⟩;have st:=qm (m':=(⟨(ae e).lo,(ae e).hi,1,(f.rs.countP (fun r=>cv r e):Nat)⟩:FtR)) A5;clear A5;refine wR 8 fun K hK=>?_;go_simp;refine hK.out _ _ (aB.out _ ng.2) (fun hHeld=>?_);clear hK K;clear st;refine wD ?_ _;clear hHeld;go_wp2_with fail
   go_meet;exact ⟨g5,rfl,ng,oB⟩
  ·have bA:=ze v0 (.cells (FtC ft0) 52);have XA:=q8 v0 ft0;obtain ⟨g5,iY⟩:∃ g,v0.heap.size=g:=⟨_,rfl⟩;obtain ⟨wA,i8⟩:∃ w,v0.alloc (.cells (FtC ft0) 52)=w:=⟨_,rfl⟩
   have oB:Hid (G+3 <= g5):=by rw [<- iY];exact Nat.le_trans FC.out nh.size
   go_simp;rw [i8] at bA XA;rw [iY] at XA;have o8:=hide XA;have iH:Hid (Below wk.heap.size wk wA):=tmq nh bA
   try rw [i8]
   try rw [iY]
   refine hK.out _ _ (aB.out _ iH) (fun hHeld=>?_);clear hK K;clear bA XA i8 iY;refine wR 5 fun K hK=>?_;go_simp;go_wp2_with fail;refine (zbR f.ro f.rn f.rc f.rs e _ (HF.ok.rs.below iH) HI.2).mono ?_;rintro x v2 ⟨rfl,bc⟩;have np:=wTr iH bc;have gK:=hide (o8.below bc);clear bc;refine hK.out _ _ (aB.out _ np) (fun hHeld=>?_);clear hK K;refine wU 6 ?_;have A5:=gK.out;have ng:Hid (aH (v2.setRow g5 (FtC (⟨(ae e).lo,(ae e).hi,1,(f.rs.countP (fun r=>cv r e):Nat)⟩:FtR))) g5 (⟨(ae e).lo,(ae e).hi,1,(f.rs.countP (fun r=>cv r e):Nat)⟩:FtR)/\Below wk.heap.size wk (v2.setRow g5 (FtC (⟨(ae e).lo,(ae e).hi,1,(f.rs.countP (fun r=>cv r e):Nat)⟩:FtR)))):=⟨A5.setRow,zh np.out (by have:=oB.out;have:=BE.out;omega)⟩
   have st:=qm (m':=(⟨(ae e).lo,(ae e).hi,1,(f.rs.countP (fun r=>cv r e):Nat)⟩:FtR)) A5;clear A5;refine wR 8 fun K hK=>?_;go_simp;refine hK.out _ _ (aB.out _ ng.2) (fun hHeld=>?_);clear hK K;clear st;refine wD ?_ _;clear hHeld;go_wp2_with fail;go_meet;exact ⟨g5,rfl,ng,oB⟩
 case rest =>
  obtain ⟨g5,rfl,HM,oB⟩:=hcut
  rename World=>w3
  have aw:Hid (Below wk.heap.size wk w3):=HM.2
  have tF:Hid (∀ W,Below w3.heap.size w3 W -> (ldP (.pointer (some ⟨G,1,none⟩))).run Tryz.prog W = .ok (PV f.p) W/\(ldD (.pointer (some ⟨G+1,0,none⟩))).run Tryz.prog W = .ok (RV (ae e)) W):=fun W h=>by
   have A:=aB.out W (tmq aw h);exact ⟨A.1.2,A.2.1⟩
  clear aB;go_upto_region 2 with fail;refine wp_region_held_drew (S:=fun W=>(ldP (.pointer (some ⟨G,1,none⟩))).run Tryz.prog W = .ok (PV f.p) W/\(ldD (.pointer (some ⟨G+1,0,none⟩))).run Tryz.prog W = .ok (RV (ae e)) W) (by kernel_rfl) (tF.out _ (zf w3)) (fun hHeld=>?_);refine wU 0 ?_;refine wU 1 ?_;refine wU 2 ?_;refine wU 3 ?_;refine wU 5 ?_;refine wU 6 ?_;refine wR 4 fun K hK=>?_;go_simp;go_wp2_with fail;refine (zby f.p (ae e) _ ((HF.ok.p.below aw).below (zf w3)) (fun a b ee hb=>kU HI.1 _ a b ee (by rw [HF.ok.p.cloud.len];exact hb))).mono ?_;rintro x w4 ⟨q,i,rfl,Sq,hF,hq,b4⟩;have aI:=hide ((zf w3).trans (b4.mono (zf w3).size))
  have C9:Hid (cj q.P (ae e)↔cj f.p.P (ae e)):=by show _↔_;rw [hq];exact zaz HI.1 HF.ok.p.cloud.len hF
  have Gu:=hide Sq;clear b4 hF hq Sq;refine hK.out _ _ (tF.out _ aI) (fun hHeld=>?_);clear hK K;refine wR 7 fun K hK=>?_;go_simp;go_wp2_with fail;refine (jI q (ae e) _ Gu).mono ?_;rintro x w5 ⟨b,rfl,hb,b5⟩
  obtain rfl:b=inB f.p.P e:=by rw [Bool.eq_iff_iff,ql];exact hb.trans C9.out
  have cZ:=wTr aI b5;clear b5 hb;refine hK.out _ _ (tF.out _ cZ) (fun hHeld=>?_);clear hK K;refine wU 8 ?_;refine wD ?_ _;clear hHeld;obtain ⟨n,hn⟩:∃ n,f.rs.countP (fun r=>cv r e)=n:=⟨_,rfl⟩
  have JF:Hid (ftE f e=⟨(ae e).lo,(ae e).hi,if inB f.p.P e=true then 2 else if n=0 then 1 else 3,(n:Nat)⟩):=by
   show _=_
   unfold ftE;rw [hn];rfl
  rw [hn] at HM;have iI:Hid (aH w5 g5 ⟨(ae e).lo,(ae e).hi,1,(n:Nat)⟩):=HM.1.below cZ.out;have fU:Hid (Below wk.heap.size wk w5):=tmq aw cZ;have DA:Hid (aH w5 (G+2) ft0):=HZ.below fU.out;clear hn HM tF cZ
  cases hi:inB f.p.P e with
  | true =>
   obtain ⟨A6,fz⟩:=iI.setC (y:=⟨(ae e).lo,(ae e).hi,2,(n:Nat)⟩) 2 (.int .i64 2) rfl;have Z6:aH (w5.setCell ⟨g5,2,none⟩ (.int .i64 2)) (G+2) ft0:=(zw (by have:=oB.out;omega)).trans DA.out;have B6:Below wk.heap.size wk (w5.setCell ⟨g5,2,none⟩ (.int .i64 2)):=fU.setCell (by have:=oB.out;have:=BE.out;show _ <= g5;omega) _;have l5:=jC A6;have st:=qm (m':=⟨(ae e).lo,(ae e).hi,2,(n:Nat)⟩) Z6;have df:Hid (aH ((w5.setCell ⟨g5,2,none⟩ (.int .i64 2)).setRow (G+2) (FtC ⟨(ae e).lo,(ae e).hi,2,(n:Nat)⟩)) (G+2) ⟨(ae e).lo,(ae e).hi,2,(n:Nat)⟩):=Z6.setRow;have HE:Hid (FtV (⟨(ae e).lo,(ae e).hi,2,(n:Nat)⟩:FtR)=FtV (ftE f e)/\Below w.heap.size w ((w5.setCell ⟨g5,2,none⟩ (.int .i64 2)).setRow (G+2) (FtC ⟨(ae e).lo,(ae e).hi,2,(n:Nat)⟩))):=⟨by rw [JF.out];simp [hi],zh (tmq al B6) (by rw [eX.out];omega)⟩
   clear A6 Z6 B6 hi;have ck:=iI.c2;go_wp2_with fail;refine bodyPost_ret (lw rfl rfl df) rfl ?_;exact ⟨by rw [<- HE.1],HE.2⟩
  | false =>
   by_cases h0:n=0
   ·have cY:¬ (0:Int) < (n:Int):=by omega
    have A6:=iI.out;have Z6:=DA.out;have B6:=fU.out;have l5:=jC A6;have st:=qm (m':=⟨(ae e).lo,(ae e).hi,1,(n:Nat)⟩) Z6;have df:Hid (aH (w5.setRow (G+2) (FtC ⟨(ae e).lo,(ae e).hi,1,(n:Nat)⟩)) (G+2) ⟨(ae e).lo,(ae e).hi,1,(n:Nat)⟩):=Z6.setRow;have HE:Hid (FtV (⟨(ae e).lo,(ae e).hi,1,(n:Nat)⟩:FtR)=FtV (ftE f e)/\Below w.heap.size w (w5.setRow (G+2) (FtC ⟨(ae e).lo,(ae e).hi,1,(n:Nat)⟩))):=⟨by rw [JF.out];simp [hi,h0],zh (tmq al B6) (by rw [eX.out];omega)⟩;clear A6 Z6 B6 hi h0;have c2:=iI.c3;go_wp2_with fail;refine bodyPost_ret (lw rfl rfl df) rfl ?_;exact ⟨by rw [<- HE.1],HE.2⟩
   ·have DT:(0:Int) < (n:Int):=by omega
    obtain ⟨A6,fz⟩:=iI.setC (y:=⟨(ae e).lo,(ae e).hi,3,(n:Nat)⟩) 2 (.int .i64 3) rfl;have Z6:aH (w5.setCell ⟨g5,2,none⟩ (.int .i64 3)) (G+2) ft0:=(zw (by have:=oB.out;omega)).trans DA.out;have B6:Below wk.heap.size wk (w5.setCell ⟨g5,2,none⟩ (.int .i64 3)):=fU.setCell (by have:=oB.out;have:=BE.out;show _ <= g5;omega) _;have l5:=jC A6;have st:=qm (m':=⟨(ae e).lo,(ae e).hi,3,(n:Nat)⟩) Z6;have df:Hid (aH ((w5.setCell ⟨g5,2,none⟩ (.int .i64 3)).setRow (G+2) (FtC ⟨(ae e).lo,(ae e).hi,3,(n:Nat)⟩)) (G+2) ⟨(ae e).lo,(ae e).hi,3,(n:Nat)⟩):=Z6.setRow;have HE:Hid (FtV (⟨(ae e).lo,(ae e).hi,3,(n:Nat)⟩:FtR)=FtV (ftE f e)/\Below w.heap.size w ((w5.setCell ⟨g5,2,none⟩ (.int .i64 3)).setRow (G+2) (FtC ⟨(ae e).lo,(ae e).hi,3,(n:Nat)⟩))):=⟨by rw [JF.out];simp [hi,h0],zh (tmq al B6) (by rw [eX.out];omega)⟩
    clear A6 Z6 B6 hi h0;have c2:=iI.c3;have ck:=iI.c2;go_wp2_with fail;refine bodyPost_ret (lw rfl rfl df) rfl ?_;exact ⟨by rw [<- HE.1],HE.2⟩
end
section
open Go.RowKit
def dtE (d:Rn):K.En:=⟨d.lo,d.hi,⟨#[]⟩,0⟩
def mA (f:Fc) (d:Rn) (t:FtR):Prop:=(∃ e∈f.es,ae e=d/\t=ftE f e)∨((∀ e∈f.es,ae e≠d)/\t=⟨d.lo,d.hi,if inB f.p.P (dtE d)=true then 2 else 0,0⟩)
theorem zbH {x y:K.En} (h:ae x=ae y):K.aq x y=true:=by
 obtain ⟨a,b,c,e⟩:=x;obtain ⟨a',b',c',e'⟩:=y;unfold ae at h;injection h with h1 h2;subst h1 h2;unfold K.aq;simp
theorem mA.one {f:Fc} {d:Rn} {t u:FtR} (ha:K.Asc f.es) (h:mA f d t) (k:mA f d u):t=u:=by
 rcases h with ⟨e,he,hd,rfl⟩ | ⟨h1,rfl⟩ <;> rcases k with ⟨e',nX,hd',rfl⟩ | ⟨k1,rfl⟩
 ·rw [wJ ha he nX (zbH (hd.trans hd'.symm))]
 ·exact absurd hd (k1 e he)
 ·exact absurd hd' (h1 e' nX)
 ·rfl
def FaR (f:Fc) (d:Rn) (t:FtR) (er:Int):Prop:=(¬ ar f/\er=1/\t=ft0)∨(ar f/\okD d=false/\er=2/\t=ft0)∨(ar f/\okD d=true/\er=0/\mA f d t)
theorem FaR.one {f:Fc} {d:Rn} {t u:FtR} {a b:Int} (hl:f.es.length=f.an) (h:FaR f d t a) (k:FaR f d u b):t=u/\a=b:=by
 rcases h with ⟨h1,rfl,rfl⟩ | ⟨h1,h2,rfl,rfl⟩ | ⟨h1,h2,rfl,h3⟩ <;> rcases k with ⟨k1,rfl,rfl⟩ | ⟨k1,k2,rfl,rfl⟩ | ⟨k1,k2,rfl,k3⟩
 ·exact ⟨rfl,rfl⟩
 ·exact absurd k1 h1
 ·exact absurd k1 h1
 ·exact absurd h1 k1
 ·exact ⟨rfl,rfl⟩
 ·rw [h2] at k2;cases k2
 ·exact absurd h1 k1
 ·rw [h2] at k2;cases k2
 ·exact ⟨h3.one (K.kj ((js hl).2 h1.1)) k3,rfl⟩
def FaE (w w':World) (x:Ending) (f:Fc) (d:Rn):Prop:=∃ t er,x = .returned (.tuple #[FtV t,.int .i64 er])/\Below w.heap.size w w'/\FaR f d t er
theorem gI {w:World} {g:Nat} {fn:Func} {p q:Tmp} {m:FtR} {v:Value} (h:fn.results=#[.cell p 52,.tmp q]) {tmps:Array Value} (hp:tmps.getD p undef = .pointer (some ⟨g,0,none⟩)) (hq:tmps.getD q undef=v) (A:aH w g m) :
  (results fn tmps).run Tryz.prog w = .ok (.tuple #[FtV m,v]) w:=by
 have hl:=zah A;simp only [results,h];rw [Array.getD_eq_getD_getElem?] at hp hq;simp [hp,hq,asAddr,hl]
section
theorem zep (d:Rn) (w:World):Calls Tryz.prog 42 #[RV d] w fun e w'=>e = .returned (.bool (okD d))/\Below w.heap.size w w':=by
 have HB:=hide (ze w (.cells (RC d) 48))
 have A0:=(zQ w 48 d).at
 have c0:=A0.c0;have c1:(w.alloc (.cells (RC d) 48)).cell? ⟨w.heap.size,1,none⟩=some (.int .i64 d.hi):=A0.c1;clear A0;obtain ⟨lo,hi⟩:=d;dsimp only at c0 c1 ⊢;by_cases h1:0 <= lo
 ·by_cases h2:lo < 16
  ·by_cases h3:1 <= hi
   ·have HF:Hid (okD ⟨lo,hi⟩=decide (hi <= 1000000000)):=by show _=_;unfold okD V.isR;simp [h1,h2,h3]
    go_enter Tryz.func42,Tryz.ntmps42;go_wp2_with fail;go_ret;exact ⟨zt HF.symm,HB.out⟩
   ·have HF:Hid (okD ⟨lo,hi⟩=false):=by show _=_;unfold okD V.isR;simp [h3]
    go_enter Tryz.func42,Tryz.ntmps42;go_wp2_with fail;go_ret;exact ⟨zt HF.symm,HB.out⟩
  ·have HF:Hid (okD ⟨lo,hi⟩=false):=by show _=_;unfold okD V.isR;simp [h2]
   go_enter Tryz.func42,Tryz.ntmps42;go_wp2_with fail;go_ret;exact ⟨zt HF.symm,HB.out⟩
 ·have HF:Hid (okD ⟨lo,hi⟩=false):=by show _=_;unfold okD V.isR;simp [h1]
  go_enter Tryz.func42,Tryz.ntmps42;go_wp2_with fail;go_ret;exact ⟨zt HF.symm,HB.out⟩
end
theorem mG (w:World) (f:Fc) (d:Rn):∃ wk,((w.alloc (.cells (FaC (mkF f)) 29)).alloc (.cells (RC d) 48)).alloc (.cells (FtC ft0) 52)=wk/\Hid (aF wk w.heap.size (mkF f))/\Hid (gk wk ⟨w.heap.size+1,0,none⟩ d)/\Hid (aH wk (w.heap.size+2) ft0)/\Hid (Below w.heap.size w wk)/\wk.heap.size=w.heap.size+3:=by
 have b1:=ze w (.cells (FaC (mkF f)) 29);have b2:=ze (w.alloc (.cells (FaC (mkF f)) 29)) (.cells (RC d) 48);have b3:=ze ((w.alloc (.cells (FaC (mkF f)) 29)).alloc (.cells (RC d) 48)) (.cells (FtC ft0) 52);have X2:=zQ (w.alloc (.cells (FaC (mkF f)) 29)) 48 d;have X3:=q8 ((w.alloc (.cells (FaC (mkF f)) 29)).alloc (.cells (RC d) 48)) ft0;rw [World.size_alloc] at X2;rw [World.size_alloc,World.size_alloc] at X3;exact ⟨_,rfl,((zU w (mkF f)).below b2).below b3,(X2.below b3).at,X3,(tmq b1 b2).trans (b3.mono (tmq b1 b2).size),by rw [World.size_alloc,World.size_alloc,World.size_alloc]⟩
attribute [local go_sem ↓] zq zp zE zD zY zX K.zy K.zx yy wT wI xY
attribute [local go_sem] zi zk zl zr zv zz zM zR K.zu K.zH K.zJ jA kn bi yf ye kD
theorem zjW {L:List K.En} {d:Rn} {k:Int} (h:K.sF L (dtE d) k):(k < 0/\∀ e∈L,ae e≠d)∨(0 <= k/\K.fdE L k∈L/\ae (K.fdE L k)=d):=by
 rcases h with ⟨rfl,a⟩ | ⟨i,h1,rfl,h2,-⟩
 ·refine .inl ⟨by decide,fun e he hd=>?_⟩;obtain ⟨i,hi,rfl⟩:=List.mem_iff_getElem.1 he;have h1:=a i hi;rw [show L.getD i K.en0=L[i] by simp [List.getD,hi]] at h1;have h2:K.aq L[i] (dtE d)=true:=zbH (y:=dtE d) hd;rw [h2] at h1;cases h1
 ·have e1:K.fdE L (i:Int)=L.getD i K.en0:=by unfold K.fdE;rw [if_neg (by omega)];simp
  refine .inr ⟨by omega,?_,?_⟩
  ·rw [e1,show L.getD i K.en0=L[i] by simp [List.getD,h1]];exact List.getElem_mem _
  ·rw [e1];generalize L.getD i K.en0=x at h2;obtain ⟨a,b,c,q⟩:=x;obtain ⟨lo,hi⟩:=d;unfold K.aq dtE at h2;simp at h2;unfold ae;rw [h2.1,h2.2]
theorem zbQ (N:Nat) (f:Fc) (d:Rn) (w:World) (hF:SwB N w f):Calls Tryz.prog 17 #[FaV (mkF f),RV d] w fun x w'=>FaE w w' x f d:=by
 obtain ⟨wk,aL,HX,HY,HZ,al,dE⟩:=mG w f d;obtain ⟨G,cK⟩:∃ G,w.heap.size=G:=⟨_,rfl⟩;rw [cK] at HX HY HZ dE;have eX:Hid (w.heap.size=G):=cK;have BE:Hid (wk.heap.size=G+3):=dE;have HF:=hide (hF.below al);clear hF dE;have l0:=zW HX.out;go_enter Tryz.func17,Tryz.ntmps17;go_wp2_with fail;clear aL cK l0;refine (ju f _ HF.ok).mono ?_;rintro x w3 ⟨z,rfl,hz,b3⟩;have aw:=hide b3;have Hz:=hide hz;clear b3 hz;rcases Hz.out with ⟨rfl,h1⟩ | ⟨rfl,h1⟩;rotate_left
 ·have df:Hid (aH (w3.setRow (G+2) (FtC ft0)) (G+2) ft0):=(HZ.below aw).setRow;have st:=qm (m':=ft0) (HZ.below aw);have HE:Hid (FaE w (w3.setRow (G+2) (FtC ft0)) (.returned (.tuple #[FtV ft0,.int .i64 1])) f d):=⟨ft0,1,rfl,zh (tmq al aw) (by rw [eX.out];omega),.inl ⟨h1,rfl,rfl⟩⟩;clear h1 Hz;go_wp2_with fail;clear st;refine bodyPost_ret (gI rfl rfl rfl df) rfl ?_;exact HE.out
 have lh:=hide h1;clear h1 Hz;have l1:=zG (HY.on aw);go_wp2_with fail;clear l1;refine (zep d _).mono ?_;rintro x w4 ⟨rfl,b4⟩;have aI:=wTr aw b4;clear b4
 cases hk:okD d with
 | false =>
  have df:Hid (aH (w4.setRow (G+2) (FtC ft0)) (G+2) ft0):=(HZ.below aI).setRow;have st:=qm (m':=ft0) (HZ.below aI);have HE:Hid (FaE w (w4.setRow (G+2) (FtC ft0)) (.returned (.tuple #[FtV ft0,.int .i64 2])) f d):=⟨ft0,2,rfl,zh (tmq al aI) (by rw [eX.out];omega),.inr (.inl ⟨lh.out,hk,rfl,rfl⟩)⟩;clear hk;go_wp2_with fail;clear st;refine bodyPost_ret (gI rfl rfl rfl df) rfl ?_;exact HE.out
 | true =>
 have Hk:=hide hk;clear hk;have c0:=(HX.below aI).cs.1;have l1:=zG (HY.on aI);go_wp2_with fail;clear c0 l1;refine (K.zhf f.ao f.an f.ac f.es (dtE d) _ (HF.ok.below aI).es).mono ?_;rintro x v5 ⟨k,rfl,J8,b5⟩;obtain ⟨g6,ow⟩:∃ g,v5.heap.size=g:=⟨_,rfl⟩;obtain ⟨w5,cd,X5,B5,-⟩:=K.made v5 (K.fdE f.es k) g6 ow;have b55:=tmq b5 B5;have cZ:=wTr aI b55;have gK:=hide X5;have Jh:=hide (zjW J8);clear b5 J8 X5 B5 b55;rcases Jh.out with ⟨gL,fR⟩ | ⟨gL,ii,hd⟩
 ·have Ev:K.fdB k=false:=by unfold K.fdB;simp;omega
  rw [Ev];have ib:=hide fR;have lp:=zj (HX.below cZ).past;have l1:=zG (HY.on cZ);clear fR gL Ev Jh;go_wp2_with fail;clear lp l1 cd ow;refine (jI f.p d _ (HF.ok.below cZ).p).mono ?_;rintro x w6 ⟨b,rfl,hb,b6⟩
  obtain rfl:b=inB f.p.P (dtE d):=by rw [Bool.eq_iff_iff,ql];exact hb.out
  have eC:=wTr cZ b6;clear b6 hb
  cases hi:inB f.p.P (dtE d) with
  | true =>
   have df:Hid (aH (w6.setRow (G+2) (FtC (⟨d.lo,d.hi,2,0⟩:FtR))) (G+2) (⟨d.lo,d.hi,2,0⟩:FtR)):=(HZ.below eC).setRow;have st:=qm (m':=(⟨d.lo,d.hi,2,0⟩:FtR)) (HZ.below eC);have HE:Hid (FaE w (w6.setRow (G+2) (FtC (⟨d.lo,d.hi,2,0⟩:FtR))) (.returned (.tuple #[FtV (⟨d.lo,d.hi,2,0⟩:FtR),.int .i64 0])) f d):=⟨_,0,rfl,zh (tmq al eC) (by rw [eX.out];omega),.inr (.inr ⟨lh.out,Hk.out,rfl,.inr ⟨ib.out,by simp [hi]⟩⟩)⟩;have l1:=zG (HY.on eC);clear hi;go_wp2_with fail;clear st l1;refine bodyPost_ret (gI rfl rfl rfl df) rfl ?_;exact HE.out
  | false =>
   have df:Hid (aH (w6.setRow (G+2) (FtC (⟨d.lo,d.hi,0,0⟩:FtR))) (G+2) (⟨d.lo,d.hi,0,0⟩:FtR)):=(HZ.below eC).setRow;have st:=qm (m':=(⟨d.lo,d.hi,0,0⟩:FtR)) (HZ.below eC);have HE:Hid (FaE w (w6.setRow (G+2) (FtC (⟨d.lo,d.hi,0,0⟩:FtR))) (.returned (.tuple #[FtV (⟨d.lo,d.hi,0,0⟩:FtR),.int .i64 0])) f d):=⟨_,0,rfl,zh (tmq al eC) (by rw [eX.out];omega),.inr (.inr ⟨lh.out,Hk.out,rfl,.inr ⟨ib.out,by simp [hi]⟩⟩)⟩;have l1:=zG (HY.on eC);clear hi;go_wp2_with fail;clear st l1;refine bodyPost_ret (gI rfl rfl rfl df) rfl ?_;exact HE.out
 ·have Ev:K.fdB k=true:=by unfold K.fdB;simp;omega
  rw [Ev];obtain ⟨e,he⟩:∃ e,K.fdE f.es k=e:=⟨_,rfl⟩
  have DE:Hid (e∈f.es/\ae e=d):=by rw [<- he];exact ⟨ii,hd⟩
  rw [he] at gK cd;have l0:=zW (HX.below cZ)
  have l1:=K.zB gK.at
  rw [he];clear ii hd gL Ev Jh he;go_wp2_with fail;clear l0 l1 cd ow;refine (vh N f e _ (HF.below cZ) lh.2.1 (fun r hr=>((xy.1 (by rw [HF.ok.rs.len];exact lh.2.2)).1 r hr).2.1)).mono ?_;rintro x w6 ⟨rfl,b6⟩;have eC:=wTr cZ b6;have df:Hid (aH (w6.setRow (G+2) (FtC (ftE f e))) (G+2) (ftE f e)):=(HZ.below eC).setRow;have st:=qm (m':=ftE f e) (HZ.below eC);have HE:Hid (FaE w (w6.setRow (G+2) (FtC (ftE f e))) (.returned (.tuple #[FtV (ftE f e),.int .i64 0])) f d):=⟨_,0,rfl,zh (tmq al eC) (by rw [eX.out];omega),.inr (.inr ⟨lh.out,Hk.out,rfl,.inl ⟨e,DE.1,DE.2,rfl⟩⟩)⟩;clear b6;go_wp2_with fail;clear st;refine bodyPost_ret (gI rfl rfl rfl df) rfl ?_;exact HE.out
end
section
open Go.RowKit
def FtK (f:Fc) (d:Rn) (k:Nat) (m:FtR):Prop:=(∃ e∈f.es.take k,ae e=d/\m=⟨d.lo,d.hi,if f.rs.countP (fun r=>cv r e)=0 then 1 else 3,(f.rs.countP (fun r=>cv r e):Nat)⟩)∨((∀ e∈f.es.take k,ae e≠d)/\m=⟨d.lo,d.hi,0,0⟩)
theorem FtK.dot {f:Fc} {d:Rn} {k:Nat} {m:FtR} (h:FtK f d k m):m.rep=d.lo/\m.num=d.hi:=by
 rcases h with ⟨e,-,-,rfl⟩ | ⟨-,rfl⟩ <;> exact ⟨rfl,rfl⟩
theorem FtK.skip {f:Fc} {d:Rn} {k:Nat} {m:FtR} {e:K.En} (h:FtK f d k m) (ht:f.es.take (k+1)=f.es.take k++[e]) (hd:ae e≠d):FtK f d (k+1) m:=by
 rcases h with ⟨x,hx,hd',rfl⟩ | ⟨h1,rfl⟩
 ·exact .inl ⟨x,by rw [ht];exact List.mem_append_left _ hx,hd',rfl⟩
 ·refine .inr ⟨fun x hx=>?_,rfl⟩;rw [ht] at hx;rcases List.mem_append.1 hx with q | q
  ·exact h1 x q
  ·rw [List.mem_singleton.1 q];exact hd
theorem FtK.gone {f:Fc} {d:Rn} {m:FtR} (h:FtK f d f.es.length m) (hi:inB f.p.P (dtE d)=true):mA f d ⟨d.lo,d.hi,2,m.recs⟩:=by
 unfold FtK at h;rw [List.take_length] at h;rcases h with ⟨x,hx,hd',rfl⟩ | ⟨h1,rfl⟩
 ·refine .inl ⟨x,hx,hd',?_⟩
  have e:inB f.p.P x=true:=by rw [<- hi];exact zfH hd'
  unfold ftE;rw [if_pos e,<- hd'];rfl
 ·exact .inr ⟨h1,by rw [if_pos hi]⟩
theorem FtK.stay {f:Fc} {d:Rn} {m:FtR} (h:FtK f d f.es.length m) (hi:inB f.p.P (dtE d)=false):mA f d m:=by
 unfold FtK at h;rw [List.take_length] at h;rcases h with ⟨x,hx,hd',rfl⟩ | ⟨h1,rfl⟩
 ·refine .inl ⟨x,hx,hd',?_⟩
  have e:¬ inB f.p.P x=true:=by rw [show inB f.p.P x=inB f.p.P (dtE d) from zfH hd',hi];decide
  unfold ftE;rw [if_neg e,<- hd'];rfl
 ·exact .inr ⟨h1,by rw [if_neg (by rw [hi];decide)]⟩
attribute [local go_sem ↓] zq zp zE zD zY zX K.zy K.zx yy wT wI xY
attribute [local go_sem] zi zk zl zr zv zz zM zR K.zu K.zH K.zJ jA kn bi yf ye kD
theorem yl (f:Fc) (d:Rn) (w:World) (hF:aU w f):Calls Tryz.prog 46 #[FaV (mkF f),RV d] w fun x w'=>∃ t,x = .returned (FtV t)/\Below w.heap.size w w'/\mA f d t:=by
 obtain ⟨w3,aL,HX,HY,HZ,al,dE⟩:=mG w f d;obtain ⟨G,cK⟩:∃ G,w.heap.size=G:=⟨_,rfl⟩;rw [cK] at HX HY HZ dE;have eX:Hid (w.heap.size=G):=cK;have BE:Hid (w3.heap.size=G+3):=dE;have HF:=hide (hF.below al);clear hF;obtain ⟨g5,iY⟩:∃ g,w3.heap.size=g:=⟨_,rfl⟩;obtain ⟨w4,cd,X4,B4,-⟩:=Cy w3 ⟨d.lo,d.hi,0,0⟩ g5 iY;have oB:Hid (w3.heap.size <= g5):=Nat.le_of_eq iY;have eE:=hide X4;have aI:=hide B4;have l1:=zG HY.out;clear X4 B4 dE;go_enter Tryz.func46,Tryz.ntmps46;obtain ⟨n,hn⟩:∃ n,f.an=n:=⟨_,rfl⟩;obtain ⟨ao,cU⟩:∃ a,f.ao=a:=⟨_,rfl⟩;obtain ⟨ac,oh⟩:∃ a,f.ac=a:=⟨_,rfl⟩
 have HS:Hid (K.aD w3 ao n ac f.es):=by rw [<- hn,<- cU,<- oh];exact HF.es
 have rz:Hid (∀ W,Below w3.heap.size w3 W -> W.cell? ⟨G,0,none⟩=some (.slice ao n ac)):=fun W h=>by rw [<- hn,<- cU,<- oh];exact (HX.below h).cs.1
 have eT:Hid (f.es.length=n):=HS.1;have lL:=HS.2.2.2.2;go_wp2_with fail;clear hn cU oh aL cK cd iY l1;go_loopw [6] (fun i wr=>∃ (k:Nat) (m:FtR),k <= n/\i = .int .i64 (k:Int)/\Hid (aH wr g5 m)/\Hid (Below w3.heap.size w3 wr)/\Hid (FtK f d k m)) (fun i _=>n - (intOf i).toNat)
 case atStart=>exact ⟨0,_,Nat.zero_le _,rfl,eE.out,aI.out,.inr ⟨fun e he=>(by simp at he),rfl⟩⟩
 case round =>
  obtain ⟨k,m,hk,rfl,HA,fl,HM⟩:=hrel
  rename World=>wr
  have c0:=rz.out _ fl.out;by_cases ak:k < n
  ·have aX:(k:Int) < (n:Int):=by omega
   have HT:=hide (mD f.es k (by rw [eT.out];exact ak));obtain ⟨ad,cU,A0⟩:=(HS.below fl).at k ak;subst cU;obtain ⟨e,He⟩:∃ e,Hid (f.es.getD k K.en0=e):=⟨_,rfl⟩;rw [He.out] at HT;have aK:=hide ak
   have nT:Hid (∀ W,Below w3.heap.size w3 W -> K.gE W (ad.add (k * 4)) e):=fun W hW=>by
    obtain ⟨ad',nX,h⟩:=(HS.below hW).at k aK.out;obtain rfl:=Option.some.inj nX;rw [He.out] at h;exact h
   have aB:Hid (∀ W,Below w3.heap.size w3 W -> (W.cell? ⟨G,0,none⟩=some (.slice (some ad) n ac)/\(ldD (.pointer (some (ad.add (k * 4))))).run Tryz.prog W = .ok (RV (ae e)) W)/\(ldD (.pointer (some ⟨G+1,0,none⟩))).run Tryz.prog W = .ok (RV d) W):=fun W hW=>by
    have A:=nT.out W hW;exact ⟨⟨rz.out _ hW,zG (r:=ae e) ⟨A.c0,A.c1⟩⟩,zG (HY.on hW)⟩
   clear A0 ak hk;go_upto_region 5 with fail;refine wp_region_held_drew (S:=fun W=>(W.cell? ⟨G,0,none⟩=some (.slice (some ad) n ac)/\(ldD (.pointer (some (ad.add (k * 4))))).run Tryz.prog W = .ok (RV (ae e)) W)/\(ldD (.pointer (some ⟨G+1,0,none⟩))).run Tryz.prog W = .ok (RV d) W) (by kernel_rfl) (aB.out _ (tmq fl (zf wr))) (fun hHeld=>?_);refine wU 0 ?_;refine wU 1 ?_;refine wU 2 ?_;refine wU 3 ?_;refine wU 4 ?_;refine wU 5 ?_;refine wU 6 ?_;refine wU 7 ?_;refine wD ?_ _;clear hHeld;clear c0;have ol:=hide (tmq fl (zf wr));have iI:Hid (aH wr.drew g5 m):=HA.out;have Eo:=hide HM.dot;obtain ⟨wr5,A4⟩:∃ w5,wr.drew=w5:=⟨_,rfl⟩;rw [A4] at ol iI ⊢
   cases he:eqD (ae e) d with
   | true =>
    have Fz:Hid (e∈f.es.take (k+1)/\ae e=d):=⟨by rw [HT.out];simp,(vN _ _).1 he⟩;have Im:Hid (∀ W,Below w3.heap.size w3 W -> (W.cell? ⟨G,0,none⟩=some (.slice (some ad) n ac)/\W.cell? ⟨G,3,none⟩=some (.slice f.ro f.rn f.rc))/\(K.dJ (.pointer (some (ad.add (k * 4))))).run Tryz.prog W = .ok (K.EV e) W):=fun W hW=>⟨⟨rz.out _ hW,(HX.below hW).cs.2⟩,K.zB (nT.out W hW)⟩;clear he A4;go_upto_region 6 with fail;refine wp_region_held_drew (S:=fun W=>(W.cell? ⟨G,0,none⟩=some (.slice (some ad) n ac)/\W.cell? ⟨G,3,none⟩=some (.slice f.ro f.rn f.rc))/\(K.dJ (.pointer (some (ad.add (k * 4))))).run Tryz.prog W = .ok (K.EV e) W) (by kernel_rfl) (Im.out _ (tmq ol (zf wr5))) (fun hHeld=>?_);refine wU 0 ?_;refine wU 1 ?_;refine wU 2 ?_;refine wU 3 ?_;refine wU 4 ?_;refine wU 5 ?_;refine wU 6 ?_
    refine wR 7 fun K hK=>?_;go_simp;go_wp2_with fail;refine (yp f.ro f.rn f.rc f.rs e _ (HF.rs.below (tmq ol (zf wr5)))).mono ?_;rintro x w6 ⟨rfl,b6⟩;have b66:=(zf wr5).trans (b6.mono (zf wr5).size);have eC:=wTr ol b66;have nP:=hide (iI.below b66);clear b6 b66;obtain ⟨c,hc⟩:∃ c,f.rs.countP (fun r=>cv r e)=c:=⟨_,rfl⟩;have Hc:=hide hc;rw [hc];clear hc;refine hK.out _ _ (Im.out _ eC) (fun hHeld=>?_);clear hK K;refine wU 8 ?_;obtain ⟨A7,fz⟩:=nP.setC (y:=⟨d.lo,d.hi,m.kind,(c:Nat)⟩) 3 (.int .i64 (c:Nat)) (by rw [<- Eo.1,<- Eo.2];rfl);have ck:=nP.c3;have tZ:=hide A7;have dR:Hid (Below w3.heap.size w3 (w6.setCell ⟨g5,3,none⟩ (.int .i64 (c:Nat)))):=eC.setCell oB.out _
    clear A7;refine wR 9 fun K hK=>?_;go_simp;refine hK.out _ _ (Im.out _ dR) (fun hHeld=>?_);clear hK K;clear ck fz;refine wD ?_ _;clear hHeld;obtain ⟨w7,pe⟩:∃ w7,w6.setCell ⟨g5,3,none⟩ (.int .i64 (c:Nat))=w7:=⟨_,rfl⟩;rw [pe] at tZ dR ⊢;clear pe;obtain ⟨A8,f8⟩:=tZ.setC (y:=⟨d.lo,d.hi,1,(c:Nat)⟩) 2 (.int .i64 1) rfl;have c7:=tZ.c2;have tx:=hide A8;have c8:(w7.setCell ⟨g5,2,none⟩ (.int .i64 1)).cell? ⟨g5,3,none⟩=some (.int .i64 (c:Nat)):=A8.c3;have gA:Hid (Below w3.heap.size w3 (w7.setCell ⟨g5,2,none⟩ (.int .i64 1))):=dR.setCell oB.out _;by_cases h0:c=0
    ·have cY:¬ (0:Int) < (c:Int):=by omega
     have HR:Hid (FtK f d (k+1) ⟨d.lo,d.hi,1,(c:Nat)⟩):=.inl ⟨e,Fz.1,Fz.2,by rw [Hc.out,h0];simp⟩;clear A8 h0;go_wp2_with fail;go_roundw
     case rel=>exact ⟨k+1,_,aK.out,by simp,tx.out,gA.out,HR.out⟩
     case measure=>simp [intOf];have:=aK.out;omega
    ·have DT:(0:Int) < (c:Int):=by omega
     obtain ⟨A9,f9⟩:=A8.setC (y:=⟨d.lo,d.hi,3,(c:Nat)⟩) 2 (.int .i64 3) rfl;have c9:=A8.c2;have Mv:=hide A9;have il:Hid (Below w3.heap.size w3 ((w7.setCell ⟨g5,2,none⟩ (.int .i64 1)).setCell ⟨g5,2,none⟩ (.int .i64 3))):=gA.setCell oB.out _;have HR:Hid (FtK f d (k+1) ⟨d.lo,d.hi,3,(c:Nat)⟩):=.inl ⟨e,Fz.1,Fz.2,by rw [Hc.out,if_neg h0]⟩;clear A8 A9 h0;go_wp2_with fail;go_roundw
     case rel=>exact ⟨k+1,_,aK.out,by simp,Mv.out,il.out,HR.out⟩
     case measure=>simp [intOf];have:=aK.out;omega
   | false =>
    have HR:=hide (HM.skip HT.out (fun q=>by rw [(vN _ _).2 q] at he;cases he));clear he A4;go_wp2_with fail;go_roundw
    case rel=>exact ⟨k+1,m,aK.out,by simp,iI.out,ol.out,HR.out⟩
    case measure=>simp [intOf];have:=aK.out;omega
  ·have aX:¬ (k:Int) < (n:Int):=by omega
   have LB:Hid (FtK f d f.es.length m):=by
    have h:=HM.out;rw [show k=f.es.length by rw [eT.out];omega] at h;exact h
   have fU:=wTr al fl.out;have lp:=zj (HX.below fl).past;have l1:=zG (HY.on fl);clear ak hk;go_wp2_with fail;clear lp l1 c0;refine (vJ f.p d _ (HF.below fl).p).mono ?_;rintro x w6 ⟨b,rfl,hb,b6⟩
   obtain rfl:b=inB f.p.P (dtE d):=by rw [Bool.eq_iff_iff,ql];exact hb.out
   have eC:=wTr fl b6;have nP:=hide (HA.below b6);have Eo:=hide HM.dot;clear b6 hb
   cases hi:inB f.p.P (dtE d) with
   | true =>
    obtain ⟨A7,fz⟩:=nP.setC (y:=⟨d.lo,d.hi,2,m.recs⟩) 2 (.int .i64 2) (by rw [<- Eo.1,<- Eo.2];rfl);have ck:=nP.c2;have B7:Below w3.heap.size w3 (w6.setCell ⟨g5,2,none⟩ (.int .i64 2)):=eC.setCell oB.out _;have Z7:aH (w6.setCell ⟨g5,2,none⟩ (.int .i64 2)) (G+2) ft0:=HZ.below B7;have l5:=jC A7;have st:=qm (m':=⟨d.lo,d.hi,2,m.recs⟩) Z7;have df:Hid (aH ((w6.setCell ⟨g5,2,none⟩ (.int .i64 2)).setRow (G+2) (FtC ⟨d.lo,d.hi,2,m.recs⟩)) (G+2) ⟨d.lo,d.hi,2,m.recs⟩):=Z7.setRow;have HE:Hid (Below w.heap.size w ((w6.setCell ⟨g5,2,none⟩ (.int .i64 2)).setRow (G+2) (FtC ⟨d.lo,d.hi,2,m.recs⟩))/\mA f d ⟨d.lo,d.hi,2,m.recs⟩):=⟨zh (tmq al B7) (by rw [eX.out];omega),LB.gone hi⟩;clear A7 B7 Z7 hi;go_wp2_with fail;clear st l5 ck fz;refine bodyPost_ret (lw rfl rfl df) rfl ?_
    exact ⟨_,rfl,HE.out⟩
   | false =>
    have l5:=jC nP.out;have st:=qm (m':=m) (HZ.below eC);have df:Hid (aH (w6.setRow (G+2) (FtC m)) (G+2) m):=(HZ.below eC).setRow;have HE:Hid (Below w.heap.size w (w6.setRow (G+2) (FtC m))/\mA f d m):=⟨zh (tmq al eC) (by rw [eX.out];omega),LB.stay hi⟩;clear hi;go_wp2_with fail;clear st l5;refine bodyPost_ret (lw rfl rfl df) rfl ?_;exact ⟨_,rfl,HE.out⟩
theorem kP (f:Fc) (d:Rn) (w:World) (hF:aU w f):Calls Tryz.prog 18 #[FaV (mkF f),RV d] w fun x w'=>FaE w w' x f d:=by
 obtain ⟨wk,aL,HX,HY,HZ,al,dE⟩:=mG w f d;obtain ⟨G,cK⟩:∃ G,w.heap.size=G:=⟨_,rfl⟩;rw [cK] at HX HY HZ dE;have eX:Hid (w.heap.size=G):=cK;have HF:=hide (hF.below al);clear hF dE;have l0:=zW HX.out;go_enter Tryz.func18,Tryz.ntmps18;go_wp2_with fail;clear aL cK l0;refine (jG f _ HF).mono ?_;rintro x w3 ⟨b,rfl,hb,b3⟩;have aw:=hide b3;clear b3
 cases b with
 | false =>
  have df:Hid (aH (w3.setRow (G+2) (FtC ft0)) (G+2) ft0):=(HZ.below aw).setRow;have st:=qm (m':=ft0) (HZ.below aw);have HE:Hid (FaE w (w3.setRow (G+2) (FtC ft0)) (.returned (.tuple #[FtV ft0,.int .i64 1])) f d):=⟨ft0,1,rfl,zh (tmq al aw) (by rw [eX.out];omega),.inl ⟨fun h=>(by have:=hb.2 h;cases this),rfl,rfl⟩⟩;clear hb;go_wp2_with fail;clear st;refine bodyPost_ret (gI rfl rfl rfl df) rfl ?_;exact HE.out
 | true =>
 have lh:Hid (ar f):=hb.1 rfl;clear hb;have l1:=zG (HY.on aw);go_wp2_with fail;clear l1;refine (jh d _).mono ?_;rintro x w4 ⟨rfl,b4⟩;have aI:=wTr aw b4;clear b4
 cases hk:okD d with
 | false =>
  have df:Hid (aH (w4.setRow (G+2) (FtC ft0)) (G+2) ft0):=(HZ.below aI).setRow;have st:=qm (m':=ft0) (HZ.below aI);have HE:Hid (FaE w (w4.setRow (G+2) (FtC ft0)) (.returned (.tuple #[FtV ft0,.int .i64 2])) f d):=⟨ft0,2,rfl,zh (tmq al aI) (by rw [eX.out];omega),.inr (.inl ⟨lh.out,hk,rfl,rfl⟩)⟩;clear hk;go_wp2_with fail;clear st;refine bodyPost_ret (gI rfl rfl rfl df) rfl ?_;exact HE.out
 | true =>
 have Hk:=hide hk;clear hk;have l0:=zW (HX.below aI);have l1:=zG (HY.on aI);go_wp2_with fail;clear l0 l1;refine (yl f d _ (HF.below aI)).mono ?_;rintro x w5 ⟨t,rfl,b5,ht⟩;have cZ:=wTr aI b5;have df:Hid (aH (w5.setRow (G+2) (FtC t)) (G+2) t):=(HZ.below cZ).setRow;have st:=qm (m':=t) (HZ.below cZ);have HE:Hid (FaE w (w5.setRow (G+2) (FtC t)) (.returned (.tuple #[FtV t,.int .i64 0])) f d):=⟨t,0,rfl,zh (tmq al cZ) (by rw [eX.out];omega),.inr (.inr ⟨lh.out,Hk.out,rfl,ht⟩)⟩;clear b5 ht;go_wp2_with fail;clear st;refine bodyPost_ret (gI rfl rfl rfl df) rfl ?_;exact HE.out
end
end Go.Proofs.YtjffpimfngdggaaGreat
