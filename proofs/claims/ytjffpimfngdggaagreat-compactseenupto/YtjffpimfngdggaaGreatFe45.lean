/- YFc YFg YFh -/
import Derived.Test.YtjffpimfngdggaaGreatTk
import Derived.Test.YtjffpimfngdggaaGreatFe44
import Derived.Test.YtjffpimfngdggaaGreatFe17
set_option maxRecDepth 100000
set_option maxHeartbeats 6400000
namespace Go.Proofs.YtjffpimfngdggaaGreat
section
open Go.RowKit
def LsX (N:Nat) (w w':World) (x:Ending) (s:Fc):Prop:=∃ h:Fc,x = .returned (FaV (mkF h))/\SwB N w' h/\Below w.heap.size w w'/\XpI s h
def FxE (N:Nat) (w w':World) (x:Ending) (D:Fc -> Int -> Prop):Prop:=∃ h er,x = .returned (.tuple #[FaV (mkF h),.int .i64 er])/\SwB N w' h/\Below w.heap.size w w'/\D h er
section
attribute [local go_sem ↓] zq zp zB zz zL zK xw
attribute [local go_sem] zi zj zk zm zv kD
end
attribute [local go_sem ↓] zq zp zB zz zL zK qX xw
attribute [local go_sem] zi zj zE zk zm zv qD qR
end
section
open Go.RowKit
theorem aI.setC {w:World} {g:Nat} {l y:FtR} (h:aI w g l) (j:Nat) (v:Value) (hy:(FtC l).setIfInBounds j v=FtC y):aI (w.setCell ⟨g,j,none⟩ v) g y/\w.frozen? ⟨g,j,none⟩=false:=by
 unfold aI at h ⊢;exact ⟨by rw [heap_setCell_same w g j _ _ _ h,hy],by simp [World.frozen?,h]⟩
theorem bp:(#[.int .i64 0,.int .i64 0,.int .i64 0,.int .i64 0]:Array Value)=FtC ft0:=rfl
theorem zfa {r:Rc} {q:Pv} {e:K.En} {i n:Nat} (h:aj r.p.P) (hn:r.p.P.cloud.length=n) (hF:eT r.p.P.cloud (aa e) n i) (hq:q.P=⟨r.p.P.vec,(r.p.P.cloud.drop i).take 1⟩):cQ ⟨r.s,q⟩ e=cQ r e:=by
 have h1:inB q.P e=inB r.p.P e:=by
  rw [Bool.eq_iff_iff,qd,qd,hq];exact bZ h hn hF
 unfold cQ;rw [h1]
attribute [local go_sem ↓] zq zp zB zz zV zU K.zx K.zw zZ zY zaG zb2 zbE zc7
attribute [local go_sem] zi zj zk zm zv zC zN zS K.zt K.zF K.zI zJ zQ qe wO vg wy zbN bp
theorem zbu (ao:Option Addr) (n cap:Nat) (L:List Rc) (e:K.En) (w:World) (hS:RcS w ao n cap L) (hI:∀ r∈L,aj r.p.P) :
  Calls Tryz.prog 84 #[.slice ao n cap,K.EV e] w fun x w'=>x = .returned (.int .i64 (L.countP (fun r=>cQ r e)))/\Below w.heap.size w w':=by
 have b1:=ze w (.cells (K.EC e) 50);have x1:=K.zT w 50 e;obtain ⟨w1,cR⟩:∃ w1,w.alloc (.cells (K.EC e) 50)=w1:=⟨_,rfl⟩;obtain ⟨g1,cT⟩:∃ g1,w.heap.size=g1:=⟨_,rfl⟩;rw [cR] at b1 x1;rw [cT] at x1;have HB:=hide b1;have HX:=hide x1;have HS:=hide (hS.below b1);have hn:=hS.big;have HL:Hid (L.length=n):=hS.len;have L7:=hide hI;clear b1 x1 hS hI;go_enter Tryz.func84,Tryz.ntmps84;go_wp2_with fail;clear cR cT;go_loopw [5,10] (fun c i wr=>∃ (k m:Nat),k <= n/\m <= k/\c = .int .i64 (m:Int)/\i = .int .i64 (k:Int)/\Hid ((L.take k).countP (fun r=>cQ r e)=m)/\Hid (Below w1.heap.size w1 wr)) (fun _ i _=>n - (intOf i).toNat)
 case atStart=>exact ⟨0,0,Nat.zero_le _,Nat.le_refl _,rfl,rfl,rfl,Below.refl _ _⟩
 case round =>
  obtain ⟨k,m,hk,hm,rfl,rfl,HM,lK⟩:=hrel
  rename World=>wr
  by_cases ak:k < n
  ·have cL:(k:Int) < (n:Int):=by omega
   obtain ⟨ad,eO,A0⟩:=(HS.out.below lK.out).at k ak;subst eO;have dK:=zM A0;have HO:=hide ((HS.out.below lK.out).okAt k ak);have HT:=hide (vv L k (by rw [HL.out];exact ak));have mZ:Hid (aj (L.getD k rc0).p.P):=L7.out _ (jh (L:=L) (j:=k) (by rw [HL.out];exact ak));obtain ⟨r,Hr⟩:∃ r,Hid (L.getD k rc0=r):=⟨_,rfl⟩
   have HI:Hid (aj r.p.P):=by rw [<- Hr.out];exact mZ.out
   rw [Hr.out] at dK HO HT;obtain ⟨gr,u0⟩:∃ g,wr.heap.size=g:=⟨_,rfl⟩;obtain ⟨wa,a8,Xa,ba,sa⟩:=fE wr (mkR r) gr u0;have Ke:=hide Xa;have pn:=hide (HO.out.below ba);have mR:=wTr lK ba;have Me:=hide ((HX.out.below lK.out).below ba)
   have aG:Hid (∀ W,Below wa.heap.size wa W -> (W.cell? ⟨gr,0,none⟩=some (.string r.s)/\(ldP (.pointer (some ⟨gr,1,none⟩))).run Tryz.prog W = .ok (PV r.p) W)/\(ldD (.pointer (some ⟨g1,0,none⟩))).run Tryz.prog W = .ok (RV (aa e)) W/\(K.ek (.pointer (some ⟨g1,0,none⟩))).run Tryz.prog W = .ok (K.EV e) W):=fun W h=>by
    have A:=(Me.out.below h).at
    exact ⟨⟨(Ke.out.below h).sk,zl (Ke.out.below h).past⟩,zG (r:=aa e) ⟨A.c0,A.c1⟩,K.zO A⟩
   have cw:=hide ak;clear A0 Xa ba sa ak;go_upto_region 5 with fail;clear a8 u0 dK;refine wp_region_held_drew (S:=fun W=>(W.cell? ⟨gr,0,none⟩=some (.string r.s)/\(ldP (.pointer (some ⟨gr,1,none⟩))).run Tryz.prog W = .ok (PV r.p) W)/\(ldD (.pointer (some ⟨g1,0,none⟩))).run Tryz.prog W = .ok (RV (aa e)) W/\(K.ek (.pointer (some ⟨g1,0,none⟩))).run Tryz.prog W = .ok (K.EV e) W) (by kernel_rfl) (aG.out _ (zg wa)) (fun hHeld=>?_);refine wU 0 ?_;refine wU 1 ?_;refine wU 2 ?_;refine wU 3 ?_;refine wU 4 ?_;refine wU 5 ?_;refine wU 8 ?_;refine wpAnyH_ready (rs:=[6]) (by kernel_rfl) (by simp) (.cons rfl (fun K hK=>?_) .nil);go_simp;go_wp2_with fail;refine (zba r.p (aa e) _ (pn.out.1.below (zg wa)) (fun a b dS hb=>kL HI.out _ a b dS (by rw [pn.out.1.cloud.len];exact hb))).mono ?_;rintro x w3 ⟨q,i,rfl,Sq,hF,hq,b3⟩
   have aB:=hide ((zg wa).trans (b3.mono (zg wa).size));have BY:Hid (cQ ⟨r.s,q⟩ e=cQ r e):=zfa HI.out pn.out.1.cloud.len hF hq;have GL:=hide Sq;clear b3 hF hq Sq;refine hK.out _ _ (aG.out _ aB.out) (fun hHeld=>?_);clear hK K;refine wU 7 ?_;refine wpAnyH_ready (rs:=[9]) (by kernel_rfl) (by simp) (.cons rfl (fun K hK=>?_) .nil);go_simp;go_wp2_with fail;refine (zdH ⟨r.s,q⟩ e _ ⟨GL.out,pn.out.2⟩).mono ?_;rintro x w4 ⟨rfl,b4⟩;rw [BY.out];have aQ:=wTr aB b4;have Km:=wTr mR aQ.out;clear b4;refine hK.out _ _ (aG.out _ aQ.out) (fun hHeld=>?_);clear hK K;refine wpAnyH_done (by kernel_rfl) ?_ _;clear hHeld
   cases hc:cQ r e with
   | true =>
    have HN:Hid ((L.take (k+1)).countP (fun r=>cQ r e)=m+1):=by show _=_;rw [HT.out,List.countP_append,HM.out];simp [hc]
    clear hc;go_wp2_with fail;go_roundw
    case rel=>exact ⟨k+1,m+1,cw.out,by omega,by go_num,by go_num,HN,Km⟩
    case measure=>simp [intOf];have:=cw.out;omega
   | false =>
    have HN:Hid ((L.take (k+1)).countP (fun r=>cQ r e)=m):=by show _=_;rw [HT.out,List.countP_append,HM.out];simp [hc]
    clear hc;go_wp2_with fail;go_roundw
    case rel=>exact ⟨k+1,m,cw.out,by omega,rfl,by go_num,HN,Km⟩
    case measure=>simp [intOf];have:=cw.out;omega
  ·have cL:¬ (k:Int) < (n:Int):=by omega
   have HE:Hid ((m:Int)=(L.countP (fun r=>cQ r e):Nat)):=by
    show _=_
    rw [<- HM.out,List.take_of_length_le (by have:=HL.out;omega)]
   have eQ:=wTr HB lK.out;clear ak;go_wp2_with fail;go_ret;exact ⟨by rw [<- HE.out];rfl,eQ.out⟩
def ftE (f:Fc) (e:K.En):FtR:=⟨e.rep,e.num,if inB f.p.P e=true then 2 else if f.rs.countP (fun r=>cQ r e)=0 then 1 else 3,(f.rs.countP (fun r=>cQ r e):Nat)⟩
theorem BO (w:World) (f:Fc) (e:K.En):∃ wk,((w.alloc (.cells (FaC (mkF f)) 29)).alloc (.cells (K.EC e) 50)).alloc (.cells (FtC ft0) 52)=wk/\Hid (aF wk w.heap.size (mkF f))/\Hid (K.gR wk ⟨w.heap.size+1,0,none⟩ e)/\Hid (aI wk (w.heap.size+2) ft0)/\Hid (Below w.heap.size w wk)/\wk.heap.size=w.heap.size+3:=by
 have b1:=ze w (.cells (FaC (mkF f)) 29);have b2:=ze (w.alloc (.cells (FaC (mkF f)) 29)) (.cells (K.EC e) 50);have b3:=ze ((w.alloc (.cells (FaC (mkF f)) 29)).alloc (.cells (K.EC e) 50)) (.cells (FtC ft0) 52);have X2:=K.zT (w.alloc (.cells (FaC (mkF f)) 29)) 50 e;have X3:=ju ((w.alloc (.cells (FaC (mkF f)) 29)).alloc (.cells (K.EC e) 50)) ft0;rw [World.size_alloc] at X2;rw [World.size_alloc,World.size_alloc] at X3;exact ⟨_,rfl,((qi w (mkF f)).below b2).below b3,(X2.below b3).at,X3,(b1.trans (b2.mono b1.size)).trans (b3.mono (b1.trans (b2.mono b1.size)).size),by rw [World.size_alloc,World.size_alloc,World.size_alloc]⟩
theorem zao (N:Nat) (f:Fc) (e:K.En) (w:World) (hF:SwB N w f) (hP:aj f.p.P) (hR:∀ r∈f.rs,aj r.p.P):Calls Tryz.prog 44 #[FaV (mkF f),K.EV e] w fun x w'=>x = .returned (FtV (ftE f e))/\Below w.heap.size w w':=by
 obtain ⟨wk,aY,HX,HY,HZ,aq,dP⟩:=BO w f e;obtain ⟨G,dF⟩:∃ G,w.heap.size=G:=⟨_,rfl⟩;rw [dF] at HX HY HZ dP;have fU:Hid (w.heap.size=G):=dF;have Cv:Hid (wk.heap.size=G+3):=dP
 have E3:Hid (G+3 <= wk.heap.size):=by rw [Cv.out];exact Nat.le_refl _
 have HF:=hide (hF.below aq.out);have HI:Hid (aj f.p.P/\∀ r∈f.rs,aj r.p.P):=⟨hP,hR⟩;clear hF hP hR dP
 have aG:Hid (∀ W,Below wk.heap.size wk W -> (W.cell? ⟨G,3,none⟩=some (.slice f.ro f.rn f.rc)/\(ldP (.pointer (some ⟨G,1,none⟩))).run Tryz.prog W = .ok (PV f.p) W)/\(ldD (.pointer (some ⟨G+1,0,none⟩))).run Tryz.prog W = .ok (RV (aa e)) W/\(K.ek (.pointer (some ⟨G+1,0,none⟩))).run Tryz.prog W = .ok (K.EV e) W):=fun W h=>by
  have A:=HY.out.on h;exact ⟨⟨(HX.out.below h).cs.2,zl (HX.out.below h).past⟩,zG (r:=aa e) ⟨A.c0,A.c1⟩,K.zO A⟩
 go_enter Tryz.func44,Tryz.ntmps44;go_upto_region 1 with fail;clear aY dF
 go_cut [5] from 6 to 12 (fun u wx=>∃ (g5:Nat),u = .pointer (some ⟨g5,0,none⟩)/\Hid (aI wx g5 (⟨(aa e).lo,(aa e).hi,1,(f.rs.countP (fun r=>cQ r e):Nat)⟩:FtR)/\Below wk.heap.size wk wx)/\Hid (G+3 <= g5))
 case first =>
  refine wp_region_held_drew (S:=fun W=>(W.cell? ⟨G,3,none⟩=some (.slice f.ro f.rn f.rc)/\(ldP (.pointer (some ⟨G,1,none⟩))).run Tryz.prog W = .ok (PV f.p) W)/\(ldD (.pointer (some ⟨G+1,0,none⟩))).run Tryz.prog W = .ok (RV (aa e)) W/\(K.ek (.pointer (some ⟨G+1,0,none⟩))).run Tryz.prog W = .ok (K.EV e) W) (by kernel_rfl) (aG.out _ (zg wk)) (fun hHeld=>?_);obtain ⟨v0,Ae⟩:∃ v,wk.drew=v:=⟨_,rfl⟩
  have D3:Hid (Below wk.heap.size wk v0):=by rw [<- Ae];exact zg wk
  rw [Ae] at hHeld ⊢;clear Ae;refine wU 0 ?_;refine wU 1 ?_;refine wU 2 ?_;refine wU 3 ?_;refine wU 4 ?_;refine wpAnyH_ready (rs:=[5,7]) (by kernel_rfl) (by simp) ?_;refine AllReadyH.cons rfl (fun K hK=>?_) (AllReadyH.cons rfl (fun K hK=>?_) AllReadyH.nil)
  ·go_simp;go_wp2_with fail;refine (zbu f.ro f.rn f.rc f.rs e _ (HF.out.ok.rs.below D3.out) HI.out.2).mono ?_;rintro x v1 ⟨rfl,bc⟩;have us:=wTr D3 bc;clear bc;refine hK.out _ _ (aG.out _ us.out) (fun hHeld=>?_);clear hK K;refine wU 6 ?_;refine wpAnyH_ready (rs:=[7]) (by kernel_rfl) (by simp) (.cons rfl (fun K hK=>?_) .nil);have bA:=ze v1 (.cells (FtC ft0) 52);have XA:=ju v1 ft0;obtain ⟨g5,iD⟩:∃ g,v1.heap.size=g:=⟨_,rfl⟩;obtain ⟨wA,A8⟩:∃ w,v1.alloc (.cells (FtC ft0) 52)=w:=⟨_,rfl⟩
   have r7:Hid (G+3 <= g5):=by rw [<- iD];exact Nat.le_trans E3.out us.out.size
   go_simp;rw [A8] at bA XA;rw [iD] at XA;have i7:=hide XA;have CK:Hid (Below wk.heap.size wk wA):=us.out.trans (bA.mono us.out.size)
   try rw [A8]
   try rw [iD]
   refine hK.out _ _ (aG.out _ CK.out) (fun hHeld=>?_);clear hK K;clear bA XA A8 iD;have A5:=i7.out;have Dc:Hid (aI (wA.setRow g5 (FtC (⟨(aa e).lo,(aa e).hi,1,(f.rs.countP (fun r=>cQ r e):Nat)⟩:FtR))) g5 (⟨(aa e).lo,(aa e).hi,1,(f.rs.countP (fun r=>cQ r e):Nat)⟩:FtR)/\Below wk.heap.size wk (wA.setRow g5 (FtC (⟨(aa e).lo,(aa e).hi,1,(f.rs.countP (fun r=>cQ r e):Nat)⟩:FtR)))):=⟨A5.setRow,zh CK.out (by have:=r7.out;have:=Cv.out;omega)⟩;have st:=xe (m':=(⟨(aa e).lo,(aa e).hi,1,(f.rs.countP (fun r=>cQ r e):Nat)⟩:FtR)) A5;clear A5;refine wpAnyH_ready (rs:=[8]) (by kernel_rfl) (by simp) (.cons rfl (fun K hK=>?_) .nil);go_simp;refine hK.out _ _ (aG.out _ Dc.out.2) (fun hHeld=>?_);clear hK K;clear st;refine wpAnyH_done (by kernel_rfl) ?_ _;clear hHeld;go_wp2_with fail
   go_meet;exact ⟨g5,rfl,Dc,r7⟩
  ·have bA:=ze v0 (.cells (FtC ft0) 52);have XA:=ju v0 ft0;obtain ⟨g5,iD⟩:∃ g,v0.heap.size=g:=⟨_,rfl⟩;obtain ⟨wA,A8⟩:∃ w,v0.alloc (.cells (FtC ft0) 52)=w:=⟨_,rfl⟩
   have r7:Hid (G+3 <= g5):=by rw [<- iD];exact Nat.le_trans E3.out D3.out.size
   go_simp;rw [A8] at bA XA;rw [iD] at XA;have sh:=hide XA;have us:Hid (Below wk.heap.size wk wA):=D3.out.trans (bA.mono D3.out.size)
   try rw [A8]
   try rw [iD]
   refine hK.out _ _ (aG.out _ us.out) (fun hHeld=>?_);clear hK K;clear bA XA A8 iD;refine wpAnyH_ready (rs:=[5]) (by kernel_rfl) (by simp) (.cons rfl (fun K hK=>?_) .nil);go_simp;go_wp2_with fail;refine (zbu f.ro f.rn f.rc f.rs e _ (HF.out.ok.rs.below us.out) HI.out.2).mono ?_;rintro x v2 ⟨rfl,bc⟩;have CK:=wTr us bc;have i7:=hide (sh.out.below bc);clear bc;refine hK.out _ _ (aG.out _ CK.out) (fun hHeld=>?_);clear hK K;refine wU 6 ?_;have A5:=i7.out;have Dc:Hid (aI (v2.setRow g5 (FtC (⟨(aa e).lo,(aa e).hi,1,(f.rs.countP (fun r=>cQ r e):Nat)⟩:FtR))) g5 (⟨(aa e).lo,(aa e).hi,1,(f.rs.countP (fun r=>cQ r e):Nat)⟩:FtR)/\Below wk.heap.size wk (v2.setRow g5 (FtC (⟨(aa e).lo,(aa e).hi,1,(f.rs.countP (fun r=>cQ r e):Nat)⟩:FtR)))):=⟨A5.setRow,zh CK.out (by have:=r7.out;have:=Cv.out;omega)⟩
   have st:=xe (m':=(⟨(aa e).lo,(aa e).hi,1,(f.rs.countP (fun r=>cQ r e):Nat)⟩:FtR)) A5;clear A5;refine wpAnyH_ready (rs:=[8]) (by kernel_rfl) (by simp) (.cons rfl (fun K hK=>?_) .nil);go_simp;refine hK.out _ _ (aG.out _ Dc.out.2) (fun hHeld=>?_);clear hK K;clear st;refine wpAnyH_done (by kernel_rfl) ?_ _;clear hHeld;go_wp2_with fail;go_meet;exact ⟨g5,rfl,Dc,r7⟩
 case rest =>
  obtain ⟨g5,rfl,HM,r7⟩:=hcut
  rename World=>w3
  have aB:Hid (Below wk.heap.size wk w3):=HM.out.2
  have tw:Hid (∀ W,Below w3.heap.size w3 W -> (ldP (.pointer (some ⟨G,1,none⟩))).run Tryz.prog W = .ok (PV f.p) W/\(ldD (.pointer (some ⟨G+1,0,none⟩))).run Tryz.prog W = .ok (RV (aa e)) W):=fun W h=>by
   have A:=aG.out W (aB.out.trans (h.mono aB.out.size));exact ⟨A.1.2,A.2.1⟩
  clear aG;go_upto_region 2 with fail;refine wp_region_held_drew (S:=fun W=>(ldP (.pointer (some ⟨G,1,none⟩))).run Tryz.prog W = .ok (PV f.p) W/\(ldD (.pointer (some ⟨G+1,0,none⟩))).run Tryz.prog W = .ok (RV (aa e)) W) (by kernel_rfl) (tw.out _ (zg w3)) (fun hHeld=>?_);refine wU 0 ?_;refine wU 1 ?_;refine wU 2 ?_;refine wU 3 ?_;refine wU 5 ?_;refine wU 6 ?_;refine wpAnyH_ready (rs:=[4]) (by kernel_rfl) (by simp) (.cons rfl (fun K hK=>?_) .nil);go_simp;go_wp2_with fail;refine (zba f.p (aa e) _ ((HF.out.ok.p.below aB.out).below (zg w3)) (fun a b dS hb=>kL HI.out.1 _ a b dS (by rw [HF.out.ok.p.cloud.len];exact hb))).mono ?_;rintro x w4 ⟨q,i,rfl,Sq,hF,hq,b4⟩;have aQ:=hide ((zg w3).trans (b4.mono (zg w3).size))
  have BY:Hid (cB q.P (aa e)↔cB f.p.P (aa e)):=by show _↔_;rw [hq];exact bZ HI.out.1 HF.out.ok.p.cloud.len hF
  have GL:=hide Sq;clear b4 hF hq Sq;refine hK.out _ _ (tw.out _ aQ.out) (fun hHeld=>?_);clear hK K;refine wpAnyH_ready (rs:=[7]) (by kernel_rfl) (by simp) (.cons rfl (fun K hK=>?_) .nil);go_simp;go_wp2_with fail;refine (qK q (aa e) _ GL.out).mono ?_;rintro x w5 ⟨b,rfl,hb,b5⟩
  obtain rfl:b=inB f.p.P e:=by rw [Bool.eq_iff_iff,qd];exact hb.out.trans BY.out
  have dO:=wTr aQ b5;clear b5 hb;refine hK.out _ _ (tw.out _ dO.out) (fun hHeld=>?_);clear hK K;refine wU 8 ?_;refine wpAnyH_done (by kernel_rfl) ?_ _;clear hHeld;obtain ⟨n,hn⟩:∃ n,f.rs.countP (fun r=>cQ r e)=n:=⟨_,rfl⟩
  have F3:Hid (ftE f e=⟨(aa e).lo,(aa e).hi,if inB f.p.P e=true then 2 else if n=0 then 1 else 3,(n:Nat)⟩):=by
   show _=_
   unfold ftE;rw [hn];rfl
  rw [hn] at HM;have i8:Hid (aI w5 g5 ⟨(aa e).lo,(aa e).hi,1,(n:Nat)⟩):=HM.out.1.below dO.out;have fR:Hid (Below wk.heap.size wk w5):=aB.out.trans (dO.out.mono aB.out.size);have DE:Hid (aI w5 (G+2) ft0):=HZ.out.below fR.out;clear hn HM tw dO
  cases hi:inB f.p.P e with
  | true =>
   obtain ⟨A6,fz⟩:=i8.out.setC (y:=⟨(aa e).lo,(aa e).hi,2,(n:Nat)⟩) 2 (.int .i64 2) rfl;have Z6:aI (w5.setCell ⟨g5,2,none⟩ (.int .i64 2)) (G+2) ft0:=(zy (by have:=r7.out;omega)).trans DE.out;have B6:Below wk.heap.size wk (w5.setCell ⟨g5,2,none⟩ (.int .i64 2)):=fR.out.setCell (by have:=r7.out;have:=Cv.out;show _ <= g5;omega) _;have l5:=bM A6;have st:=xe (m':=⟨(aa e).lo,(aa e).hi,2,(n:Nat)⟩) Z6;have dW:Hid (aI ((w5.setCell ⟨g5,2,none⟩ (.int .i64 2)).setRow (G+2) (FtC ⟨(aa e).lo,(aa e).hi,2,(n:Nat)⟩)) (G+2) ⟨(aa e).lo,(aa e).hi,2,(n:Nat)⟩):=Z6.setRow;have HE:Hid (FtV (⟨(aa e).lo,(aa e).hi,2,(n:Nat)⟩:FtR)=FtV (ftE f e)/\Below w.heap.size w ((w5.setCell ⟨g5,2,none⟩ (.int .i64 2)).setRow (G+2) (FtC ⟨(aa e).lo,(aa e).hi,2,(n:Nat)⟩))):=⟨by rw [F3.out];simp [hi],zh (aq.out.trans (B6.mono aq.out.size)) (by rw [fU.out];omega)⟩
   clear A6 Z6 B6 hi;have ck:=i8.out.c2;go_wp2_with fail;refine bodyPost_ret (nY rfl rfl dW.out) rfl ?_;exact ⟨by rw [<- HE.out.1],HE.out.2⟩
  | false =>
   by_cases h0:n=0
   ·have dg:¬ (0:Int) < (n:Int):=by omega
    have A6:=i8.out;have Z6:=DE.out;have B6:=fR.out;have l5:=bM A6;have st:=xe (m':=⟨(aa e).lo,(aa e).hi,1,(n:Nat)⟩) Z6;have dW:Hid (aI (w5.setRow (G+2) (FtC ⟨(aa e).lo,(aa e).hi,1,(n:Nat)⟩)) (G+2) ⟨(aa e).lo,(aa e).hi,1,(n:Nat)⟩):=Z6.setRow;have HE:Hid (FtV (⟨(aa e).lo,(aa e).hi,1,(n:Nat)⟩:FtR)=FtV (ftE f e)/\Below w.heap.size w (w5.setRow (G+2) (FtC ⟨(aa e).lo,(aa e).hi,1,(n:Nat)⟩))):=⟨by rw [F3.out];simp [hi,h0],zh (aq.out.trans (B6.mono aq.out.size)) (by rw [fU.out];omega)⟩;clear A6 Z6 B6 hi h0;have c2:=i8.out.c3;go_wp2_with fail;refine bodyPost_ret (nY rfl rfl dW.out) rfl ?_;exact ⟨by rw [<- HE.out.1],HE.out.2⟩
   ·have Gd:(0:Int) < (n:Int):=by omega
    obtain ⟨A6,fz⟩:=i8.out.setC (y:=⟨(aa e).lo,(aa e).hi,3,(n:Nat)⟩) 2 (.int .i64 3) rfl;have Z6:aI (w5.setCell ⟨g5,2,none⟩ (.int .i64 3)) (G+2) ft0:=(zy (by have:=r7.out;omega)).trans DE.out;have B6:Below wk.heap.size wk (w5.setCell ⟨g5,2,none⟩ (.int .i64 3)):=fR.out.setCell (by have:=r7.out;have:=Cv.out;show _ <= g5;omega) _;have l5:=bM A6;have st:=xe (m':=⟨(aa e).lo,(aa e).hi,3,(n:Nat)⟩) Z6;have dW:Hid (aI ((w5.setCell ⟨g5,2,none⟩ (.int .i64 3)).setRow (G+2) (FtC ⟨(aa e).lo,(aa e).hi,3,(n:Nat)⟩)) (G+2) ⟨(aa e).lo,(aa e).hi,3,(n:Nat)⟩):=Z6.setRow;have HE:Hid (FtV (⟨(aa e).lo,(aa e).hi,3,(n:Nat)⟩:FtR)=FtV (ftE f e)/\Below w.heap.size w ((w5.setCell ⟨g5,2,none⟩ (.int .i64 3)).setRow (G+2) (FtC ⟨(aa e).lo,(aa e).hi,3,(n:Nat)⟩))):=⟨by rw [F3.out];simp [hi,h0],zh (aq.out.trans (B6.mono aq.out.size)) (by rw [fU.out];omega)⟩
    clear A6 Z6 B6 hi h0;have c2:=i8.out.c3;have ck:=i8.out.c2;go_wp2_with fail;refine bodyPost_ret (nY rfl rfl dW.out) rfl ?_;exact ⟨by rw [<- HE.out.1],HE.out.2⟩
end
section
open Go.RowKit
def dtE (d:Rn):K.En:=⟨d.lo,d.hi,⟨#[]⟩,0⟩
def tH (f:Fc) (d:Rn) (t:FtR):Prop:=(∃ e∈f.es,aa e=d/\t=ftE f e)∨((∀ e∈f.es,aa e≠d)/\t=⟨d.lo,d.hi,if inB f.p.P (dtE d)=true then 2 else 0,0⟩)
theorem yk {x y:K.En} (h:aa x=aa y):K.al x y=true:=by
 obtain ⟨a,b,c,e⟩:=x;obtain ⟨a',b',c',e'⟩:=y;unfold aa at h;injection h with h1 h2;subst h1 h2;unfold K.al;simp
theorem tH.one {f:Fc} {d:Rn} {t u:FtR} (ha:K.Asc f.es) (h:tH f d t) (k:tH f d u):t=u:=by
 rcases h with ⟨e,he,hd,rfl⟩ | ⟨h1,rfl⟩ <;> rcases k with ⟨e',DD,hd',rfl⟩ | ⟨k1,rfl⟩
 ·rw [vm ha he DD (yk (hd.trans hd'.symm))]
 ·exact absurd hd (k1 e he)
 ·exact absurd hd' (h1 e' DD)
 ·rfl
def FaR (f:Fc) (d:Rn) (t:FtR) (er:Int):Prop:=(¬ av f/\er=1/\t=ft0)∨(av f/\okD d=false/\er=2/\t=ft0)∨(av f/\okD d=true/\er=0/\tH f d t)
def FaE (w w':World) (x:Ending) (f:Fc) (d:Rn):Prop:=∃ t er,x = .returned (.tuple #[FtV t,.int .i64 er])/\Below w.heap.size w w'/\FaR f d t er
theorem iX {w:World} {g:Nat} {fn:Func} {p q:Tmp} {m:FtR} {v:Value} (h:fn.results=#[.cell p 52,.tmp q]) {tmps:Array Value} (hp:tmps.getD p undef = .pointer (some ⟨g,0,none⟩)) (hq:tmps.getD q undef=v) (A:aI w g m) :
  (results fn tmps).run Tryz.prog w = .ok (.tuple #[FtV m,v]) w:=by
 have hl:=bK A;simp only [results,h];rw [Array.getD_eq_getD_getElem?] at hp hq;simp [hp,hq,asAddr,hl]
section
theorem zdS (d:Rn) (w:World):Calls Tryz.prog 42 #[RV d] w fun e w'=>e = .returned (.bool (okD d))/\Below w.heap.size w w':=by
 have HB:=hide (ze w (.cells (RC d) 48))
 have A0:=(zT w 48 d).at
 have c0:=A0.c0;have c1:(w.alloc (.cells (RC d) 48)).cell? ⟨w.heap.size,1,none⟩=some (.int .i64 d.hi):=A0.c1;clear A0;obtain ⟨lo,hi⟩:=d;dsimp only at c0 c1 ⊢;by_cases h1:0 <= lo
 ·by_cases h2:lo < 16
  ·by_cases h3:1 <= hi
   ·have HF:Hid (okD ⟨lo,hi⟩=decide (hi <= 1000000000)):=by show _=_;unfold okD V.isR;simp [h1,h2,h3]
    go_enter Tryz.func42,Tryz.ntmps42;go_wp2_with fail;go_ret;exact ⟨zu HF.out.symm,HB.out⟩
   ·have HF:Hid (okD ⟨lo,hi⟩=false):=by show _=_;unfold okD V.isR;simp [h3]
    go_enter Tryz.func42,Tryz.ntmps42;go_wp2_with fail;go_ret;exact ⟨zu HF.out.symm,HB.out⟩
  ·have HF:Hid (okD ⟨lo,hi⟩=false):=by show _=_;unfold okD V.isR;simp [h2]
   go_enter Tryz.func42,Tryz.ntmps42;go_wp2_with fail;go_ret;exact ⟨zu HF.out.symm,HB.out⟩
 ·have HF:Hid (okD ⟨lo,hi⟩=false):=by show _=_;unfold okD V.isR;simp [h1]
  go_enter Tryz.func42,Tryz.ntmps42;go_wp2_with fail;go_ret;exact ⟨zu HF.out.symm,HB.out⟩
end
theorem tV (w:World) (f:Fc) (d:Rn):∃ wk,((w.alloc (.cells (FaC (mkF f)) 29)).alloc (.cells (RC d) 48)).alloc (.cells (FtC ft0) 52)=wk/\Hid (aF wk w.heap.size (mkF f))/\Hid (gd wk ⟨w.heap.size+1,0,none⟩ d)/\Hid (aI wk (w.heap.size+2) ft0)/\Hid (Below w.heap.size w wk)/\wk.heap.size=w.heap.size+3:=by
 have b1:=ze w (.cells (FaC (mkF f)) 29);have b2:=ze (w.alloc (.cells (FaC (mkF f)) 29)) (.cells (RC d) 48);have b3:=ze ((w.alloc (.cells (FaC (mkF f)) 29)).alloc (.cells (RC d) 48)) (.cells (FtC ft0) 52);have X2:=zT (w.alloc (.cells (FaC (mkF f)) 29)) 48 d;have X3:=ju ((w.alloc (.cells (FaC (mkF f)) 29)).alloc (.cells (RC d) 48)) ft0;rw [World.size_alloc] at X2;rw [World.size_alloc,World.size_alloc] at X3;exact ⟨_,rfl,((qi w (mkF f)).below b2).below b3,(X2.below b3).at,X3,(b1.trans (b2.mono b1.size)).trans (b3.mono (b1.trans (b2.mono b1.size)).size),by rw [World.size_alloc,World.size_alloc,World.size_alloc]⟩
attribute [local go_sem ↓] zq zp zB zz zV zU K.zx K.zw zb2 zbE zc7 xP
attribute [local go_sem] zi zj zk zm zv zC zN zS K.zt K.zF K.zI vg wy zdm zbP zbO bp
theorem zjx {L:List K.En} {d:Rn} {k:Int} (h:K.o6 L (dtE d) k):(k < 0/\∀ e∈L,aa e≠d)∨(0 <= k/\K.fdE L k∈L/\aa (K.fdE L k)=d):=by
 rcases h with ⟨rfl,a⟩ | ⟨i,h1,rfl,h2,-⟩
 ·refine .inl ⟨by decide,fun e he hd=>?_⟩;obtain ⟨i,hi,rfl⟩:=List.mem_iff_getElem.1 he;have h1:=a i hi;rw [show L.getD i K.en0=L[i] by simp [List.getD,hi]] at h1;have h2:K.al L[i] (dtE d)=true:=yk (y:=dtE d) hd;rw [h2] at h1;cases h1
 ·have e1:K.fdE L (i:Int)=L.getD i K.en0:=by unfold K.fdE;rw [if_neg (by omega)];simp
  refine .inr ⟨by omega,?_,?_⟩
  ·rw [e1,show L.getD i K.en0=L[i] by simp [List.getD,h1]];exact List.getElem_mem _
  ·rw [e1];generalize L.getD i K.en0=x at h2;obtain ⟨a,b,c,q⟩:=x;obtain ⟨lo,hi⟩:=d;unfold K.al dtE at h2;simp at h2;unfold aa;rw [h2.1,h2.2]
theorem zfm (N:Nat) (f:Fc) (d:Rn) (w:World) (hF:SwB N w f):Calls Tryz.prog 17 #[FaV (mkF f),RV d] w fun x w'=>FaE w w' x f d:=by
 obtain ⟨wk,aY,HX,HY,HZ,aq,dP⟩:=tV w f d;obtain ⟨G,dF⟩:∃ G,w.heap.size=G:=⟨_,rfl⟩;rw [dF] at HX HY HZ dP;have fU:Hid (w.heap.size=G):=dF;have Cv:Hid (wk.heap.size=G+3):=dP;have HF:=hide (hF.below aq.out);clear hF dP;have l0:=qy HX.out;go_enter Tryz.func17,Tryz.ntmps17;go_wp2_with fail;clear aY dF l0;refine (j4 f _ HF.out.ok).mono ?_;rintro x w3 ⟨z,rfl,hz,b3⟩;have aB:=hide b3;have Hz:=hide hz;clear b3 hz;rcases Hz.out with ⟨rfl,h1⟩ | ⟨rfl,h1⟩;rotate_left
 ·have dW:Hid (aI (w3.setRow (G+2) (FtC ft0)) (G+2) ft0):=(HZ.out.below aB.out).setRow;have st:=xe (m':=ft0) (HZ.out.below aB.out);have HE:Hid (FaE w (w3.setRow (G+2) (FtC ft0)) (.returned (.tuple #[FtV ft0,.int .i64 1])) f d):=⟨ft0,1,rfl,zh (aq.out.trans (aB.out.mono aq.out.size)) (by rw [fU.out];omega),.inl ⟨h1,rfl,rfl⟩⟩;clear h1 Hz;go_wp2_with fail;clear st;refine bodyPost_ret (iX rfl rfl rfl dW.out) rfl ?_;exact HE.out
 have mn:=hide h1;clear h1 Hz;have l1:=zG (HY.out.on aB.out);go_wp2_with fail;clear l1;refine (zdS d _).mono ?_;rintro x w4 ⟨rfl,b4⟩;have aQ:=wTr aB b4;clear b4
 cases hk:okD d with
 | false =>
  have dW:Hid (aI (w4.setRow (G+2) (FtC ft0)) (G+2) ft0):=(HZ.out.below aQ.out).setRow;have st:=xe (m':=ft0) (HZ.out.below aQ.out);have HE:Hid (FaE w (w4.setRow (G+2) (FtC ft0)) (.returned (.tuple #[FtV ft0,.int .i64 2])) f d):=⟨ft0,2,rfl,zh (aq.out.trans (aQ.out.mono aq.out.size)) (by rw [fU.out];omega),.inr (.inl ⟨mn.out,hk,rfl,rfl⟩)⟩;clear hk;go_wp2_with fail;clear st;refine bodyPost_ret (iX rfl rfl rfl dW.out) rfl ?_;exact HE.out
 | true =>
 have Hk:=hide hk;clear hk;have c0:=(HX.out.below aQ.out).cs.1;have l1:=zG (HY.out.on aQ.out);go_wp2_with fail;clear c0 l1;refine (K.zcV f.ao f.an f.ac f.es (dtE d) _ (HF.out.ok.below aQ.out).es).mono ?_;rintro x v5 ⟨k,rfl,KI,b5⟩;obtain ⟨g6,Gl⟩:∃ g,v5.heap.size=g:=⟨_,rfl⟩;obtain ⟨w5,a8,X5,B5,-⟩:=K.made v5 (K.fdE f.es k) g6 Gl;have b55:=b5.trans (B5.mono b5.size);have dO:=wTr aQ b55;have i7:=hide X5;have GW:=hide (zjx KI);clear b5 KI X5 B5 b55;rcases GW.out with ⟨gK,fw⟩ | ⟨gK,lJ,hd⟩
 ·have pz:K.fdB k=false:=by unfold K.fdB;simp;omega
  rw [pz];have mx:=hide fw;have lp:=zl (HX.out.below dO.out).past;have l1:=zG (HY.out.on dO.out);clear fw gK pz GW;go_wp2_with fail;clear lp l1 a8 Gl;refine (qK f.p d _ (HF.out.ok.below dO.out).p).mono ?_;rintro x w6 ⟨b,rfl,hb,b6⟩
  obtain rfl:b=inB f.p.P (dtE d):=by rw [Bool.eq_iff_iff,qd];exact hb.out
  have fQ:=wTr dO b6;clear b6 hb
  cases hi:inB f.p.P (dtE d) with
  | true =>
   have dW:Hid (aI (w6.setRow (G+2) (FtC (⟨d.lo,d.hi,2,0⟩:FtR))) (G+2) (⟨d.lo,d.hi,2,0⟩:FtR)):=(HZ.out.below fQ.out).setRow;have st:=xe (m':=(⟨d.lo,d.hi,2,0⟩:FtR)) (HZ.out.below fQ.out);have HE:Hid (FaE w (w6.setRow (G+2) (FtC (⟨d.lo,d.hi,2,0⟩:FtR))) (.returned (.tuple #[FtV (⟨d.lo,d.hi,2,0⟩:FtR),.int .i64 0])) f d):=⟨_,0,rfl,zh (aq.out.trans (fQ.out.mono aq.out.size)) (by rw [fU.out];omega),.inr (.inr ⟨mn.out,Hk.out,rfl,.inr ⟨mx.out,by simp [hi]⟩⟩)⟩;have l1:=zG (HY.out.on fQ.out);clear hi;go_wp2_with fail;clear st l1;refine bodyPost_ret (iX rfl rfl rfl dW.out) rfl ?_;exact HE.out
  | false =>
   have dW:Hid (aI (w6.setRow (G+2) (FtC (⟨d.lo,d.hi,0,0⟩:FtR))) (G+2) (⟨d.lo,d.hi,0,0⟩:FtR)):=(HZ.out.below fQ.out).setRow;have st:=xe (m':=(⟨d.lo,d.hi,0,0⟩:FtR)) (HZ.out.below fQ.out);have HE:Hid (FaE w (w6.setRow (G+2) (FtC (⟨d.lo,d.hi,0,0⟩:FtR))) (.returned (.tuple #[FtV (⟨d.lo,d.hi,0,0⟩:FtR),.int .i64 0])) f d):=⟨_,0,rfl,zh (aq.out.trans (fQ.out.mono aq.out.size)) (by rw [fU.out];omega),.inr (.inr ⟨mn.out,Hk.out,rfl,.inr ⟨mx.out,by simp [hi]⟩⟩)⟩;have l1:=zG (HY.out.on fQ.out);clear hi;go_wp2_with fail;clear st l1;refine bodyPost_ret (iX rfl rfl rfl dW.out) rfl ?_;exact HE.out
 ·have pz:K.fdB k=true:=by unfold K.fdB;simp;omega
  rw [pz];obtain ⟨e,he⟩:∃ e,K.fdE f.es k=e:=⟨_,rfl⟩
  have uv:Hid (e∈f.es/\aa e=d):=by rw [<- he];exact ⟨lJ,hd⟩
  rw [he] at i7 a8;have l0:=qy (HX.out.below dO.out)
  have l1:=K.zO i7.out.at
  rw [he];clear lJ hd gK pz GW he;go_wp2_with fail;clear l0 l1 a8 Gl;refine (zao N f e _ (HF.out.below dO.out) mn.out.2.1 (fun r hr=>((xS.1 (by rw [HF.out.ok.rs.len];exact mn.out.2.2)).1 r hr).2.1)).mono ?_;rintro x w6 ⟨rfl,b6⟩;have fQ:=wTr dO b6;have dW:Hid (aI (w6.setRow (G+2) (FtC (ftE f e))) (G+2) (ftE f e)):=(HZ.out.below fQ.out).setRow;have st:=xe (m':=ftE f e) (HZ.out.below fQ.out);have HE:Hid (FaE w (w6.setRow (G+2) (FtC (ftE f e))) (.returned (.tuple #[FtV (ftE f e),.int .i64 0])) f d):=⟨_,0,rfl,zh (aq.out.trans (fQ.out.mono aq.out.size)) (by rw [fU.out];omega),.inr (.inr ⟨mn.out,Hk.out,rfl,.inl ⟨e,uv.out.1,uv.out.2,rfl⟩⟩)⟩;clear b6;go_wp2_with fail;clear st;refine bodyPost_ret (iX rfl rfl rfl dW.out) rfl ?_;exact HE.out
end
end Go.Proofs.YtjffpimfngdggaaGreat
