/- YGf -/
import Derived.Test.YtcilfelgpmfehaaGreatBj38
set_option maxRecDepth 100000
set_option maxHeartbeats 4000000
namespace Go.Proofs.YtcilfelgpmfehaaGreat
open Go.RowKit
attribute [local go_sem ↓] zl zk qX xu vJ
attribute [local go_sem] zw zf zW zh qs qS qi xW qy
theorem qA (b:Bool) (w:World):Calls Tryz.prog 80 #[.bool b] w fun e w'=>e = .returned (.int .i64 (if b then -1 else 1))/\w'=w:=by
 go_enter Tryz.func80,Tryz.ntmps80
 cases b
 ·go_wp2;go_ret;exact ⟨rfl,rfl⟩
 ·go_wp2;go_ret;exact ⟨rfl,rfl⟩
theorem kh {u v:Int} (h:¬ u=v):(if decide (u < v)=true then (-1:Int) else 1)=au u v:=by
 unfold au;by_cases h1:u < v
 ·rw [if_pos (decide_eq_true h1),if_pos h1]
 ·rw [if_neg (by simpa using h1),if_neg h1,if_pos (by omega)]
theorem yg {u v:Nat} (h:¬ (u:Int)=v):(if decide (u < v)=true then (-1:Int) else 1)=au (u:Int) v:=by
 rw [<- kh h];by_cases h1:u < v
 ·rw [decide_eq_true h1,decide_eq_true (by omega)]
 ·rw [decide_eq_false h1,decide_eq_false (by omega)]
def fN (P Q:Pst) (z:Int):Prop:=z=dJ P Q
theorem wA (p q:Pv) (w:World) (hA:ak w p) (hB:ak w q) (hI:af p.P) (hJ:af q.P):Calls Tryz.prog 56 #[PV p,PV q] w fun e w'=>∃ k,e = .returned (.int .i64 k)/\fN p.P q.P k/\Below w.heap.size w w':=by
 obtain ⟨a,ha⟩:∃ a,a=p:=⟨_,rfl⟩;obtain ⟨b,hb⟩:∃ b,b=q:=⟨_,rfl⟩;have b1:=ze w (.cells (PC p) 26);have b2:=ze (w.alloc (.cells (PC p) 26)) (.cells (PC q) 26);have p2:=zq (w.alloc (.cells (PC p) 26)) q;simp only [World.size_alloc] at p2;have gX:=hide ((zq w p).below b2);have dN:=hide p2;have nh:=hide (b1.trans (b2.mono b1.size));have eo:=hide (hA.below nh.out);have gP:=hide (hB.below nh.out);obtain ⟨W,cq⟩:∃ wk,(w.alloc (.cells (PC p) 26)).alloc (.cells (PC q) 26)=wk:=⟨_,rfl⟩;rw [cq] at gX dN nh eo gP;obtain ⟨G,hG⟩:∃ G,w.heap.size=G:=⟨_,rfl⟩
 have ow:Hid (aE W G p):=by rw [<- hG];exact gX.out
 have GZ:Hid (aE W (G+1) q):=by rw [<- hG];exact dN.out
 obtain ⟨f1,e1,z1⟩:=yq (zz.2 hI);obtain ⟨f2,e2,z2⟩:=yq (zz.2 hJ);have pZ:=hide (And.intro (And.intro e1 z1) (And.intro e2 z2))
 have ti:Hid (∀ z,z=dJ p.P q.P -> fN a.P b.P z):=fun z hz=>by rw [ha,hb];exact hz
 clear e1 z1 e2 z2 hA hB b1 b2 p2 gX dN hI hJ;rw [show fN p.P q.P=fN a.P b.P by rw [ha,hb]];clear ha hb;go_enter Tryz.func56,Tryz.ntmps56;go_wp2_with fail;clear cq hG;go_loopw [5,6,7] (fun i _ _ wr=>∃ k:Nat,k <= 16/\i = .int .i64 k/\Hid (∀ j,j < k -> p.P.vec.getD j 0=q.P.vec.getD j 0)/\W=wr) (fun i _ _ _=>16 - (intOf i).toNat)
 case atStart=>exact ⟨0,by omega,rfl,fun j hj=>absurd hj (by omega),rfl⟩
 case round =>
  obtain ⟨k,hk,rfl,HE,Ce⟩:=hrel;subst Ce;obtain ⟨va,ca⟩:=ow.out.nums;obtain ⟨vb,cb⟩:=GZ.out.nums;by_cases aq:k < 16
  ·by_cases h1:k < p.vn
   ·obtain ⟨ada,ea,ha⟩:=vY eo.out.vec k h1;rw [ea] at va;obtain ⟨u,hu⟩:∃ u,p.P.vec.getD k 0=u:=⟨_,rfl⟩;rw [hu] at ha;by_cases h2:k < q.vn
    ·obtain ⟨adb,eb,hb⟩:=vY gP.out.vec k h2;rw [eb] at vb;obtain ⟨v,hv⟩:∃ v,q.P.vec.getD k 0=v:=⟨_,rfl⟩;rw [hv] at hb
     have ic:Hid (p.P.vec.getD k 0=u/\q.P.vec.getD k 0=v):=by show _=_/\_=_;exact ⟨hu,hv⟩
     clear hu;clear hv;by_cases aT:(u:Int)=v
     ·go_wp2_with fail;go_roundw
      case rel=>exact ⟨k+1,by omega,by go_num,fun j hj=>by
       by_cases hjk:j=k
       ·subst hjk;rw [ic.out.1,ic.out.2];exact aT
       ·exact HE.out j (by omega),by first | trivial | rfl⟩
      case measure=>simp [intOf];omega
     ·have HR:Hid (au (u:Int) v=dJ p.P q.P):=by
       show _=_
       have:=y7 pZ.out.1.2 pZ.out.2.2 HE.out (by rw [ic.out.1,ic.out.2];exact aT);rwa [ic.out.1,ic.out.2] at this
      have Bz:((u:Int) != v)=true:=by simpa using aT
      go_wp2_with fail;refine (qA _ _).mono ?_;rintro e wz ⟨rfl,rfl⟩;rw [kh aT];generalize au (u:Int) v=z at *;go_wp2_with fail;go_ret;exact ⟨z,rfl,ti.out z HR.out,nh.out⟩
    ·have ic:Hid (p.P.vec.getD k 0=u/\q.P.vec.getD k 0=0):=by show _=_/\_=_;exact ⟨hu,qh (by rw [gP.out.vec.1];exact h2)⟩
     clear hu;by_cases aT:(u:Int)=0
     ·go_wp2_with fail;go_roundw
      case rel=>exact ⟨k+1,by omega,by go_num,fun j hj=>by
       by_cases hjk:j=k
       ·subst hjk;rw [ic.out.1,ic.out.2];exact aT
       ·exact HE.out j (by omega),by first | trivial | rfl⟩
      case measure=>simp [intOf];omega
     ·have HR:Hid (au (u:Int) 0=dJ p.P q.P):=by
       show _=_
       have:=y7 pZ.out.1.2 pZ.out.2.2 HE.out (by rw [ic.out.1,ic.out.2];exact aT);rwa [ic.out.1,ic.out.2] at this
      have Bz:((u:Int) != 0)=true:=by simpa using aT
      go_wp2_with fail;refine (qA _ _).mono ?_;rintro e wz ⟨rfl,rfl⟩;rw [kh aT];generalize au (u:Int) 0=z at *;go_wp2_with fail;go_ret;exact ⟨z,rfl,ti.out z HR.out,nh.out⟩
   ·by_cases h2:k < q.vn
    ·obtain ⟨adb,eb,hb⟩:=vY gP.out.vec k h2;rw [eb] at vb;obtain ⟨v,hv⟩:∃ v,q.P.vec.getD k 0=v:=⟨_,rfl⟩;rw [hv] at hb
     have ic:Hid (p.P.vec.getD k 0=0/\q.P.vec.getD k 0=v):=by show _=_/\_=_;exact ⟨qh (by rw [eo.out.vec.1];exact h1),hv⟩
     clear hv;by_cases aT:(0:Int)=v
     ·go_wp2_with fail;go_roundw
      case rel=>exact ⟨k+1,by omega,by go_num,fun j hj=>by
       by_cases hjk:j=k
       ·subst hjk;rw [ic.out.1,ic.out.2];exact aT
       ·exact HE.out j (by omega),by first | trivial | rfl⟩
      case measure=>simp [intOf];omega
     ·have HR:Hid (au (0:Int) v=dJ p.P q.P):=by
       show _=_
       have:=y7 pZ.out.1.2 pZ.out.2.2 HE.out (by rw [ic.out.1,ic.out.2];exact aT);rwa [ic.out.1,ic.out.2] at this
      have Bz:((0:Int) != v)=true:=by simpa using aT
      go_wp2_with fail;refine (qA _ _).mono ?_;rintro e wz ⟨rfl,rfl⟩;rw [kh aT];generalize au (0:Int) v=z at *;go_wp2_with fail;go_ret;exact ⟨z,rfl,ti.out z HR.out,nh.out⟩
    ·have ic:Hid (p.P.vec.getD k 0=0/\q.P.vec.getD k 0=0):=by show _=_/\_=_;exact ⟨qh (by rw [eo.out.vec.1];exact h1),qh (by rw [gP.out.vec.1];exact h2)⟩
     go_wp2_with fail;go_roundw
     case rel=>exact ⟨k+1,by omega,by go_num,fun j hj=>by
      by_cases hjk:j=k
      ·subst hjk;rw [ic.out.1,ic.out.2]
      ·exact HE.out j (by omega),by first | trivial | rfl⟩
     case measure=>simp [intOf];omega
  ·obtain rfl:k=16:=by omega
   have GO:Hid (dJ p.P q.P=lex cQ p.P.cloud q.P.cloud):=by
    refine zch ?_;rw [pZ.out.1.1,pZ.out.2.1];exact zbS (fun j hj=>by rw [<- pZ.out.1.1,<- pZ.out.2.1];exact HE.out j hj)
   have gl:Hid (p.P.cloud.length=p.cn/\q.P.cloud.length=q.cn):=⟨eo.out.cloud.len,gP.out.cloud.len⟩;have MG:=eo.out.cloud.big;clear va vb ca cb aq hk HE;go_wp2_with fail;go_loopw [8,9,10] (fun i _ _ wr=>∃ k:Nat,k <= p.cn/\k <= q.cn/\i = .int .i64 k/\Hid (p.P.cloud.take k=q.P.cloud.take k)/\Hid (Below W.heap.size W wr)) (fun i _ _ _=>p.cn - (intOf i).toNat)
   case atStart=>exact ⟨0,by omega,by omega,rfl,rfl,Below.refl _ _⟩
   case round =>
    obtain ⟨k,sh,nJ,rfl,HT,gZ⟩:=hrel;obtain ⟨-,ca⟩:=(ow.out.below gZ.out).nums;obtain ⟨-,cb⟩:=(GZ.out.below gZ.out).nums;by_cases h1:k < p.cn
    ·by_cases h2:k < q.cn
     ·obtain ⟨ada,ea,A0⟩:=(eo.out.cloud.below gZ.out).at k h1;obtain ⟨adb,eb,B0⟩:=(gP.out.cloud.below gZ.out).at k h2;have bq:=ow.out.below gZ.out;have bq2:=GZ.out.below gZ.out;rw [ea] at ca;rw [eb] at cb;obtain ⟨x,hx⟩:∃ x,p.P.cloud.getD k sn0=x:=⟨_,rfl⟩;obtain ⟨y,hy⟩:∃ y,q.P.cloud.getD k sn0=y:=⟨_,rfl⟩;rw [hx] at A0;rw [hy] at B0;have nX:=hide (And.intro hx hy);obtain ⟨n1,se⟩:∃ n1,p.cn=n1:=⟨_,rfl⟩;obtain ⟨n2,AG⟩:∃ n2,q.cn=n2:=⟨_,rfl⟩;obtain ⟨c1,tV⟩:∃ c1,p.cc=c1:=⟨_,rfl⟩;obtain ⟨c2,oF⟩:∃ c2,q.cc=c2:=⟨_,rfl⟩;rw [se] at ca h1 sh gl MG;rw [AG] at cb h2 nJ gl;rw [tV] at ca;rw [oF] at cb
      have fU:Hid (∀ W':World,Below wr.heap.size wr W' -> W'.cell? ⟨G,1,none⟩=some (.slice (some ada) n1 c1)/\W'.cell? ⟨G+1,1,none⟩=some (.slice (some adb) n2 c2)/\(ldS (.pointer (some (ada.add (k * 3))))).run Tryz.prog W' = .ok (SV x) W'/\(ldS (.pointer (some (adb.add (k * 3))))).run Tryz.prog W' = .ok (SV y) W'):=
       fun W' h=>⟨(h.cell (World.block_lt_of_cell? _ _ ca)).trans ca,(h.cell (World.block_lt_of_cell? _ _ cb)).trans cb,zS (A0.on h),zS (B0.on h)⟩
      clear A0 B0 bq bq2 hx hy;go_upto_region 14 with fail
      go_cut [9,10] from 56 to 65 (fun s t wx=>∃ g h,s = .pointer (some ⟨g,0,none⟩)/\t = .pointer (some ⟨h,0,none⟩)/\Hid (cZ wx g x/\cZ wx h y/\Below wr.heap.size wr wx))
      case first =>
       as_aux_lemma =>
        clear ca cb;go_wp2_with fail;refine wp_region_held_drew (S:=fun W=>W.cell? ⟨G,1,none⟩=some (.slice (some ada) n1 c1)/\W.cell? ⟨G+1,1,none⟩=some (.slice (some adb) n2 c2)/\(ldS (.pointer (some (ada.add (k * 3))))).run Tryz.prog W = .ok (SV x) W/\(ldS (.pointer (some (adb.add (k * 3))))).run Tryz.prog W = .ok (SV y) W) (by kernel_rfl) (fU.out _ (zd _)) (fun hHeld=>?_);refine wU 0 ?_;refine wU 1 ?_;refine wU 2 ?_;refine wU 3 ?_;refine wU 4 ?_;refine wU 5 ?_;refine wU 6 ?_;refine wU 7 ?_;refine wU 8 ?_;refine wU 9 ?_;refine wpAnyH_ready (rs:=[10,11]) (by kernel_rfl) (by simp) ?_;refine AllReadyH.cons rfl (fun K hK=>?_) (AllReadyH.cons rfl (fun K hK=>?_) AllReadyH.nil)
        ·go_simp;refine hK.out _ _ (fU.out _ (kg wr)) (fun hHeld=>?_);clear hK K;refine wR 11 fun K hK=>?_;go_simp;refine hK.out _ _ (fU.out _ (vC wr)) (fun hHeld=>?_);clear hK K;obtain ⟨X9,X10,ei,eM,tY⟩:=bv wr x y (wr.heap.size) (wr.heap.size+1) (Or.inl ⟨rfl,rfl⟩);refine wR 12 fun K hK=>?_;go_simp;refine hK.out _ _ (fU.out _ ei.out) (fun hHeld=>?_);clear hK K X9;refine wR 13 fun K hK=>?_;go_simp;refine hK.out _ _ (fU.out _ eM.out) (fun hHeld=>?_);clear hK K X10;refine wD ?_ _;clear hHeld;go_wp2_with fail;go_meet;exact ⟨wr.heap.size,wr.heap.size+1,rfl,rfl,tY⟩
        ·go_simp;refine hK.out _ _ (fU.out _ (kg wr)) (fun hHeld=>?_);clear hK K;refine wR 10 fun K hK=>?_;go_simp;refine hK.out _ _ (fU.out _ (vC wr)) (fun hHeld=>?_);clear hK K;obtain ⟨X9,X10,ei,eM,tY⟩:=bv wr x y (wr.heap.size+1) (wr.heap.size) (Or.inr ⟨rfl,rfl⟩);refine wR 12 fun K hK=>?_;go_simp;refine hK.out _ _ (fU.out _ ei.out) (fun hHeld=>?_);clear hK K X9;refine wR 13 fun K hK=>?_;go_simp;refine hK.out _ _ (fU.out _ eM.out) (fun hHeld=>?_);clear hK K X10;refine wD ?_ _;clear hHeld;go_wp2_with fail;go_meet;exact ⟨wr.heap.size+1,wr.heap.size,rfl,rfl,tY⟩
      case rest =>
       obtain ⟨g,h,rfl,rfl,td⟩:=hcut
       obtain ⟨x0,x1,x2⟩:=td.out.1.at
       obtain ⟨y0,y1,y2⟩:=td.out.2.1.at
       have dA:Hid (Below w.heap.size w wc):=nh.out.trans ((gZ.out.trans (td.out.2.2.mono gZ.out.size)).mono nh.out.size);have Fu:Hid (Below W.heap.size W wc):=gZ.out.trans (td.out.2.2.mono gZ.out.size)
       have tf:Hid (∀ z,x≠y -> z=cQ x y -> fN a.P b.P z):=fun z aT hz=>ti.out z (by
        rw [GO.out,zfZ HT.out (by rw [gl.out.1];exact h1) (by rw [gl.out.2];exact h2) (by rw [nX.out.1,nX.out.2];exact aT),nX.out.1,nX.out.2,hz])
       have q1:=zS (⟨x0,x1,x2⟩:gA wc ⟨g,0,none⟩ x);have q2:=zS (⟨y0,y1,y2⟩:gA wc ⟨h,0,none⟩ y);by_cases r0:x.rep=y.rep
       ·have f0:(x.rep == y.rep)=true:=by simpa using r0
        have f1:decide (x.rep < y.rep)=false:=decide_eq_false (by omega);by_cases r1:x.lo=y.lo
        ·have f2:(x.lo == y.lo)=true:=by simpa using r1
         have f3:decide (x.lo < y.lo)=false:=decide_eq_false (by omega);by_cases r2:x.hi=y.hi
         ·have pR:x=y:=zgv r0 r1 r2;have hq:eqS x y=true:=(xY x y).2 pR;have KU:Hid (p.P.cloud.take (k+1)=q.P.cloud.take (k+1)):=zbP HT.out (by rw [gl.out.1];exact h1) (by rw [gl.out.2];exact h2) (by rw [nX.out.1,nX.out.2];exact pR);clear pR r0 r1 r2;go_wp2_with fail;go_roundw
          case rel=>exact ⟨k+1,by omega,by omega,by go_num,KU,Fu⟩
          case measure=>simp [intOf];omega
         ·have aT:x≠y:=fun e=>r2 (by rw [e]);by_cases r3:x.hi < y.hi
          ·have hq:eqS x y=false:=by rw [<- Bool.not_eq_true,xY];exact aT
           have f4:decide (x.hi < y.hi)=true:=decide_eq_true r3;have HR:Hid (fN a.P b.P (-1)):=tf.out _ aT (by rw [zdA r0 r1];unfold au;rw [if_pos r3]);go_wp2_with fail;refine (qA _ _).mono ?_;rintro e wz ⟨rfl,rfl⟩;go_wp2_with fail;go_ret;exact ⟨-1,rfl,HR.out,dA.out⟩
          ·have hq:eqS x y=false:=by rw [<- Bool.not_eq_true,xY];exact aT
           have f4:decide (x.hi < y.hi)=false:=decide_eq_false r3;have HR:Hid (fN a.P b.P (1)):=tf.out _ aT (by rw [zdA r0 r1];unfold au;rw [if_neg r3,if_pos (by omega)]);go_wp2_with fail;refine (qA _ _).mono ?_;rintro e wz ⟨rfl,rfl⟩;go_wp2_with fail;go_ret;exact ⟨1,rfl,HR.out,dA.out⟩
        ·have f2:(x.lo == y.lo)=false:=by simpa using r1
         have aT:x≠y:=fun e=>r1 (by rw [e]);by_cases r3:x.lo < y.lo
         ·have hq:eqS x y=false:=by rw [<- Bool.not_eq_true,xY];exact aT
          have f3:decide (x.lo < y.lo)=true:=decide_eq_true r3;have HR:Hid (fN a.P b.P (-1)):=tf.out _ aT (by rw [zdz r0 r1];unfold au;rw [if_pos r3]);go_wp2_with fail;refine (qA _ _).mono ?_;rintro e wz ⟨rfl,rfl⟩;go_wp2_with fail;go_ret;exact ⟨-1,rfl,HR.out,dA.out⟩
         ·have hq:eqS x y=false:=by rw [<- Bool.not_eq_true,xY];exact aT
          have f3:decide (x.lo < y.lo)=false:=decide_eq_false r3;have HR:Hid (fN a.P b.P (1)):=tf.out _ aT (by rw [zdz r0 r1];unfold au;rw [if_neg r3,if_pos (by omega)]);go_wp2_with fail;refine (qA _ _).mono ?_;rintro e wz ⟨rfl,rfl⟩;go_wp2_with fail;go_ret;exact ⟨1,rfl,HR.out,dA.out⟩
       ·have f0:(x.rep == y.rep)=false:=by simpa using r0
        have aT:x≠y:=fun e=>r0 (by rw [e]);by_cases r3:x.rep < y.rep
        ·have hq:eqS x y=false:=by rw [<- Bool.not_eq_true,xY];exact aT
         have f1:decide (x.rep < y.rep)=true:=decide_eq_true r3;have HR:Hid (fN a.P b.P (-1)):=tf.out _ aT (by rw [zbG r0];unfold au;rw [if_pos r3]);go_wp2_with fail;refine (qA _ _).mono ?_;rintro e wz ⟨rfl,rfl⟩;go_wp2_with fail;go_ret;exact ⟨-1,rfl,HR.out,dA.out⟩
        ·have hq:eqS x y=false:=by rw [<- Bool.not_eq_true,xY];exact aT
         have f1:decide (x.rep < y.rep)=false:=decide_eq_false r3;have HR:Hid (fN a.P b.P (1)):=tf.out _ aT (by rw [zbG r0];unfold au;rw [if_neg r3,if_pos (by omega)]);go_wp2_with fail;refine (qA _ _).mono ?_;rintro e wz ⟨rfl,rfl⟩;go_wp2_with fail;go_ret;exact ⟨1,rfl,HR.out,dA.out⟩
     ·have HR:Hid (fN a.P b.P (au (p.cn:Int) (q.cn:Int))):=ti.out _ (by rw [GO.out,zbw HT.out (by rw [gl.out.1];exact sh) (by rw [gl.out.2];exact nJ) (by rw [gl.out.1,gl.out.2];omega),gl.out.1,gl.out.2]);have dA:Hid (Below w.heap.size w wr):=nh.out.trans (gZ.out.mono nh.out.size);by_cases hcn:(p.cn:Int)=(q.cn:Int)
      ·have hcc:((p.cn:Int) != (q.cn:Int))=false:=by simpa using hcn
       have Fe:Hid (fN a.P b.P 0):=by have h:=HR.out;rw [qK.2 hcn] at h;exact h
       clear hcn;go_wp2_with fail;go_ret;exact ⟨0,rfl,Fe.out,dA.out⟩
      ·have hcc:((p.cn:Int) != (q.cn:Int))=true:=by simpa using hcn
       go_wp2_with fail;refine (qA _ _).mono ?_;rintro e wz ⟨rfl,rfl⟩;rw [yg hcn];generalize au (p.cn:Int) (q.cn:Int)=z at *;go_wp2_with fail;go_ret;exact ⟨z,rfl,HR.out,dA.out⟩
    ·have HR:Hid (fN a.P b.P (au (p.cn:Int) (q.cn:Int))):=ti.out _ (by rw [GO.out,zbw HT.out (by rw [gl.out.1];exact sh) (by rw [gl.out.2];exact nJ) (by rw [gl.out.1,gl.out.2];omega),gl.out.1,gl.out.2]);have dA:Hid (Below w.heap.size w wr):=nh.out.trans (gZ.out.mono nh.out.size);by_cases hcn:(p.cn:Int)=(q.cn:Int)
     ·have hcc:((p.cn:Int) != (q.cn:Int))=false:=by simpa using hcn
      have Fe:Hid (fN a.P b.P 0):=by have h:=HR.out;rw [qK.2 hcn] at h;exact h
      clear hcn;go_wp2_with fail;go_ret;exact ⟨0,rfl,Fe.out,dA.out⟩
     ·have hcc:((p.cn:Int) != (q.cn:Int))=true:=by simpa using hcn
      go_wp2_with fail;refine (qA _ _).mono ?_;rintro e wz ⟨rfl,rfl⟩;rw [yg hcn];generalize au (p.cn:Int) (q.cn:Int)=z at *;go_wp2_with fail;go_ret;exact ⟨z,rfl,HR.out,dA.out⟩
end Go.Proofs.YtcilfelgpmfehaaGreat
