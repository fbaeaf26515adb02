/- QRc GKr GKs -/
import Derived.Test.YtjffpimfngdggaaGreatFf18
import Derived.Deep.CutRange
import Derived.Laws.Cover1
set_option maxRecDepth 100000
set_option maxHeartbeats 4000000
namespace Go.Proofs.YtjffpimfngdggaaGreat
section
open Go.RowKit
attribute [local go_sem ↓] zq zp x9 jv
attribute [local go_sem] zI zi qq zk qL xV qD ky xf
theorem jm (x y:Int) (w:World):Calls Tryz.prog 186 #[.int .i64 x,.int .i64 y] w fun e w'=>e = .returned (.int .i64 (az x y))/\w'=w:=by
 unfold az;go_enter Tryz.func186,Tryz.ntmps186;by_cases h1:x < y
 ·rw [if_pos h1];go_wp2;go_ret;exact ⟨rfl,rfl⟩
 ·rw [if_neg h1];by_cases h2:y < x
  ·rw [if_pos h2];go_wp2;go_ret;exact ⟨rfl,rfl⟩
  ·rw [if_neg h2];go_wp2;go_ret;exact ⟨rfl,rfl⟩
theorem kT (wr:World):Below wr.heap.size wr (wr.drew.alloc (.cells (SC sn0) 104)):=(zf wr).trans (ze wr.drew _)
theorem wP (wr:World):Below wr.heap.size wr ((wr.alloc (.cells (SC sn0) 104)).alloc (.cells (SC sn0) 104)).drew:=(kT wr).trans ((ze _ _).mono (kT wr).size)
theorem za4 (wr:World) (x y:Sn) (g h:Nat) (hg:(g=wr.heap.size/\h=wr.heap.size+1)∨(g=wr.heap.size+1/\h=wr.heap.size)) :
  (stS (.pointer (some ⟨g,0,none⟩)) (SV x)).run Tryz.prog ((wr.alloc (.cells (SC sn0) 104)).alloc (.cells (SC sn0) 104)).drew = .ok () (((wr.alloc (.cells (SC sn0) 104)).alloc (.cells (SC sn0) 104)).drew.setRow g (SC x)) /\
  (stS (.pointer (some ⟨h,0,none⟩)) (SV y)).run Tryz.prog (((wr.alloc (.cells (SC sn0) 104)).alloc (.cells (SC sn0) 104)).drew.setRow g (SC x)) = .ok () ((((wr.alloc (.cells (SC sn0) 104)).alloc (.cells (SC sn0) 104)).drew.setRow g (SC x)).setRow h (SC y)) /\
  Hid (Below wr.heap.size wr (((wr.alloc (.cells (SC sn0) 104)).alloc (.cells (SC sn0) 104)).drew.setRow g (SC x))) /\
  Hid (Below wr.heap.size wr ((((wr.alloc (.cells (SC sn0) 104)).alloc (.cells (SC sn0) 104)).drew.setRow g (SC x)).setRow h (SC y))) /\
  Hid (dC ((((wr.alloc (.cells (SC sn0) 104)).alloc (.cells (SC sn0) 104)).drew.setRow g (SC x)).setRow h (SC y)) g x/\dC ((((wr.alloc (.cells (SC sn0) 104)).alloc (.cells (SC sn0) 104)).drew.setRow g (SC x)).setRow h (SC y)) h y/\Below wr.heap.size wr ((((wr.alloc (.cells (SC sn0) 104)).alloc (.cells (SC sn0) 104)).drew.setRow g (SC x)).setRow h (SC y))):=by
 have s1:=qJ wr sn0
 have s2:dC ((wr.alloc (.cells (SC sn0) 104)).alloc (.cells (SC sn0) 104)).drew (wr.heap.size+1) sn0:=by
  have:=qJ (wr.alloc (.cells (SC sn0) 104)) sn0;rw [World.size_alloc] at this;exact this
 have s1':dC ((wr.alloc (.cells (SC sn0) 104)).alloc (.cells (SC sn0) 104)).drew wr.heap.size sn0:=by
  have h:=s1.below (ze (wr.alloc (.cells (SC sn0) 104)) (.cells (SC sn0) 104));exact h
 have hb:=wP wr;generalize ((wr.alloc (.cells (SC sn0) 104)).alloc (.cells (SC sn0) 104)).drew=V at s2 s1' hb ⊢
 have hB:dC V g sn0/\dC V h sn0/\g≠h/\wr.heap.size <= g/\wr.heap.size <= h:=by
  rcases hg with ⟨rfl,rfl⟩ | ⟨rfl,rfl⟩
  ·exact ⟨s1',s2,by omega,by omega,by omega⟩
  ·exact ⟨s2,s1',by omega,by omega,by omega⟩
 obtain ⟨k1,k2,cr,l1,l2⟩:=hB;have k2':dC (V.setRow g (SC x)) h sn0:=(setRow_other _ _ _ _ (Ne.symm cr)).trans k2;have k1':dC (V.setRow g (SC x)) g x:=setRow_heap _ _ _ _ _ _ k1;have b1:=zh (cs:=SC x) hb l1;have b2:=zh (cs:=SC y) b1 l2;exact ⟨zad k1,zad k2',b1,b2,(setRow_other _ _ _ _ cr).trans k1',setRow_heap _ _ _ _ _ _ k2',b2⟩
theorem zaP {P Q:Pst} {k:Nat} (z1:∀ k,0 <= P.vec.getD k 0) (z2:∀ k,0 <= Q.vec.getD k 0) (he:∀ j,j < k -> P.vec.getD j 0=Q.vec.getD j 0) (cr:P.vec.getD k 0≠Q.vec.getD k 0):az (P.vec.getD k 0) (Q.vec.getD k 0)=fO P Q:=by
 unfold fO;rw [zh7 k _ _ z1 z2 he cr,if_neg (fun e=>cr (xD.1 e))]
theorem zef {P Q:Pst} (h:P.vec=Q.vec):fO P Q=lex dr P.cloud Q.cloud:=by
 unfold fO;rw [h,if_pos ((xr.lex.eq _ _).2 rfl)]
theorem zhv {x y:Sn} (h:¬ x.rep=y.rep):dr x y=az x.rep y.rep:=by unfold dr;rw [if_neg (fun e=>h (xD.1 e))]
theorem ziL {x y:Sn} (h:x.rep=y.rep) (h1:¬ x.lo=y.lo):dr x y=az x.lo y.lo:=by unfold dr;rw [if_pos (xD.2 h),if_neg (fun e=>h1 (xD.1 e))]
theorem ziM {x y:Sn} (h:x.rep=y.rep) (h1:x.lo=y.lo):dr x y=az x.hi y.hi:=by unfold dr;rw [if_pos (xD.2 h),if_pos (xD.2 h1)]
theorem qI {Z:List Int} {k:Nat} (h:¬ k < Z.length):Z.getD k 0=0:=by simp [List.getD,h]
def mq (P Q:Pst) (z:Int):Prop:=∃ X Y,af (aa P) X/\af (aa Q) Y/\z=fO X Y
theorem ko (a b:Pv) (w:World) (hA:am w a) (hB:am w b):Calls Tryz.prog 144 #[PV a,PV b] w fun e w'=>∃ k,e = .returned (.int .i64 k)/\mq a.P b.P k/\Below w.heap.size w w':=by
 have b1:=ze w (.cells (PC a) 26);have b2:=ze (w.alloc (.cells (PC a) 26)) (.cells (PC b) 26);have p2:=zm (w.alloc (.cells (PC a) 26)) b;simp only [World.size_alloc] at p2;have i6:=hide ((zm w a).below b2);have eS:=hide p2;have al:=hide (b1.trans (b2.mono b1.size));have HA:=hide (hA.below al);have HB:=hide hB;clear hA hB b1 b2 p2;obtain ⟨wk,aL⟩:∃ wk,(w.alloc (.cells (PC a) 26)).alloc (.cells (PC b) 26)=wk:=⟨_,rfl⟩
 have pZ:Hid (wk.heap.size=w.heap.size+1+1):=by show _=_;rw [<- aL];simp
 rw [aL] at i6 eS al HA
 have l1:=zj i6.at
 obtain ⟨G,hG⟩:∃ G,w.heap.size=G:=⟨_,rfl⟩;rw [hG] at i6 eS pZ l1;have HG:=hide hG;go_enter Tryz.func144,Tryz.ntmps144;go_wp2_with fail;clear aL;refine (jE a _ HA).mono ?_;rintro e w1 ⟨p,rfl,S1,n1,b1,C1⟩;have x1:=i6.below b1;have s1:=qM (p':=p) x1;have Bl:Hid (av (w1.setRow G (PC p)) G p):=setRow_heap _ _ _ _ _ _ x1;have rJ:Hid (av (w1.setRow G (PC p)) (G+1) b):=(setRow_other _ _ _ _ (by omega)).trans (eS.below b1)
 have Ek:Hid (∀ ad,(p.vo=some ad∨p.co=some ad) -> G+2 <= ad.block):=fun ad e=>by
  have:=pZ.out;rcases e with e | e
  ·have:=n1.1 ad e;omega
  ·have:=n1.2 ad e;omega
 have dg:Hid (am (w1.setRow G (PC p)) p):=ji S1 (fun ad e=>setRow_other _ _ _ _ (by have:=Ek.out ad (Or.inl e);omega)) (fun ad e=>setRow_other _ _ _ _ (by have:=Ek.out ad (Or.inr e);omega));have aM:Hid (Below G w (w1.setRow G (PC p))):=zh ((hG ▸ al).trans (b1.mono (by have:=pZ.out;omega))) (Nat.le_refl _);have Bi:Hid (am (w1.setRow G (PC p)) b):=HB.below (by rw [HG.out];exact aM);have nI:=hide C1
 have Fe:Hid (G+2 <= (w1.setRow G (PC p)).heap.size):=by show _ <= _;have:=pZ.out;have:=b1.size;simp [World.setRow];omega
 have l2:=zj rJ.at
 clear S1 n1 b1 C1 x1 hG;go_wp2_with fail;clear s1 l1 l2;generalize w1.setRow G (PC p)=v1 at *;refine (jE b _ Bi).mono ?_;rintro e w2 ⟨q,rfl,S2,n2,b2,C2⟩;have x2:=rJ.below b2;have s2:=qM (p':=q) x2;have tw:Hid (av (w2.setRow (G+1) (PC q)) (G+1) q):=setRow_heap _ _ _ _ _ _ x2;have mj:Hid (av (w2.setRow (G+1) (PC q)) G p):=(setRow_other _ _ _ _ (by omega)).trans (Bl.below b2);have fZ:Hid (am (w2.setRow (G+1) (PC q)) p):=ji (dg.below b2) (fun ad e=>setRow_other _ _ _ _ (by have:=Ek.out ad (Or.inl e);omega)) (fun ad e=>setRow_other _ _ _ _ (by have:=Ek.out ad (Or.inr e);omega));have mi:Hid (am (w2.setRow (G+1) (PC q)) q):=ji S2 (fun ad e=>setRow_other _ _ _ _ (by have:=n2.1 ad e;have:=Fe.out;omega)) (fun ad e=>setRow_other _ _ _ _ (by have:=n2.2 ad e;have:=Fe.out;omega))
 have At:Hid (Below G w (w2.setRow (G+1) (PC q))):=zh (aM.trans (b2.mono (by have:=Fe.out;omega))) (by omega);have tj:=hide C2;clear S2 n2 b2 C2 x2 Bi Bl rJ dg aM i6 eS al HA HB pZ Ek Fe;go_wp2_with fail;clear s2;generalize w2.setRow (G+1) (PC q)=W at *;obtain ⟨f1,e1,z1⟩:=bJ nI.out;obtain ⟨f2,e2,z2⟩:=bJ tj.out;have tD:=hide (And.intro (And.intro e1 z1) (And.intro e2 z2));have Ah:Hid (∀ z,z=fO p.P q.P -> mq a.P b.P z):=fun z hz=>⟨p.P,q.P,nI.out,tj.out,hz⟩
 have rW:Hid (Below w.heap.size w W):=by rw [HG.out];exact At.out
 clear e1 z1 e2 z2 nI tj At;go_loopw [5,6,7] (fun i _ _ wr=>∃ k:Nat,k <= 16/\i = .int .i64 k/\Hid (∀ j,j < k -> p.P.vec.getD j 0=q.P.vec.getD j 0)/\W=wr) (fun i _ _ _=>16 - (intOf i).toNat)
 case atStart=>exact ⟨0,by omega,rfl,fun j hj=>absurd hj (by omega),rfl⟩
 case round =>
  obtain ⟨k,hk,rfl,HE,Bw⟩:=hrel;subst Bw;obtain ⟨va,ca⟩:=mj.nums;obtain ⟨vb,cb⟩:=tw.nums;by_cases ak:k < 16
  ·by_cases h1:k < p.vn
   ·obtain ⟨ada,ea,ha⟩:=qy fZ.vec k h1;rw [ea] at va;obtain ⟨u,hu⟩:∃ u,p.P.vec.getD k 0=u:=⟨_,rfl⟩;rw [hu] at ha;by_cases h2:k < q.vn
    ·obtain ⟨adb,eb,hb⟩:=qy mi.vec k h2;rw [eb] at vb;obtain ⟨v,hv⟩:∃ v,q.P.vec.getD k 0=v:=⟨_,rfl⟩;rw [hv] at hb
     have iR:Hid (p.P.vec.getD k 0=u/\q.P.vec.getD k 0=v):=by show _=_/\_=_;exact ⟨hu,hv⟩
     clear hu;clear hv;by_cases cr:(u:Int)=v
     ·go_wp2_with fail;go_roundw
      case rel=>exact ⟨k+1,by omega,by go_num,fun j hj=>by
       by_cases hjk:j=k
       ·subst hjk;rw [iR.1,iR.2];exact cr
       ·exact HE.out j (by omega),by first | trivial | rfl⟩
      case measure=>simp [intOf];omega
     ·have HR:Hid (az (u:Int) v=fO p.P q.P):=by
       show _=_
       have:=zaP tD.1.2 tD.2.2 HE.out (by rw [iR.1,iR.2];exact cr);rwa [iR.1,iR.2] at this
      have sg:((u:Int) != v)=true:=by simpa using cr
      go_wp2_with fail;refine (jm _ _ _).mono ?_;rintro e wz ⟨rfl,rfl⟩;generalize az (u:Int) v=z at *;go_wp2_with fail;go_ret;exact ⟨z,rfl,Ah.out z HR,rW.out⟩
    ·have iR:Hid (p.P.vec.getD k 0=u/\q.P.vec.getD k 0=0):=by show _=_/\_=_;exact ⟨hu,qI (by rw [mi.vec.1];exact h2)⟩
     clear hu;by_cases cr:(u:Int)=0
     ·go_wp2_with fail;go_roundw
      case rel=>exact ⟨k+1,by omega,by go_num,fun j hj=>by
       by_cases hjk:j=k
       ·subst hjk;rw [iR.1,iR.2];exact cr
       ·exact HE.out j (by omega),by first | trivial | rfl⟩
      case measure=>simp [intOf];omega
     ·have HR:Hid (az (u:Int) 0=fO p.P q.P):=by
       show _=_
       have:=zaP tD.1.2 tD.2.2 HE.out (by rw [iR.1,iR.2];exact cr);rwa [iR.1,iR.2] at this
      have sg:((u:Int) != 0)=true:=by simpa using cr
      go_wp2_with fail;refine (jm _ _ _).mono ?_;rintro e wz ⟨rfl,rfl⟩;generalize az (u:Int) 0=z at *;go_wp2_with fail;go_ret;exact ⟨z,rfl,Ah.out z HR,rW.out⟩
   ·by_cases h2:k < q.vn
    ·obtain ⟨adb,eb,hb⟩:=qy mi.vec k h2;rw [eb] at vb;obtain ⟨v,hv⟩:∃ v,q.P.vec.getD k 0=v:=⟨_,rfl⟩;rw [hv] at hb
     have iR:Hid (p.P.vec.getD k 0=0/\q.P.vec.getD k 0=v):=by show _=_/\_=_;exact ⟨qI (by rw [fZ.vec.1];exact h1),hv⟩
     clear hv;by_cases cr:(0:Int)=v
     ·go_wp2_with fail;go_roundw
      case rel=>exact ⟨k+1,by omega,by go_num,fun j hj=>by
       by_cases hjk:j=k
       ·subst hjk;rw [iR.1,iR.2];exact cr
       ·exact HE.out j (by omega),by first | trivial | rfl⟩
      case measure=>simp [intOf];omega
     ·have HR:Hid (az (0:Int) v=fO p.P q.P):=by
       show _=_
       have:=zaP tD.1.2 tD.2.2 HE.out (by rw [iR.1,iR.2];exact cr);rwa [iR.1,iR.2] at this
      have sg:((0:Int) != v)=true:=by simpa using cr
      go_wp2_with fail;refine (jm _ _ _).mono ?_;rintro e wz ⟨rfl,rfl⟩;generalize az (0:Int) v=z at *;go_wp2_with fail;go_ret;exact ⟨z,rfl,Ah.out z HR,rW.out⟩
    ·have iR:Hid (p.P.vec.getD k 0=0/\q.P.vec.getD k 0=0):=by show _=_/\_=_;exact ⟨qI (by rw [fZ.vec.1];exact h1),qI (by rw [mi.vec.1];exact h2)⟩
     go_wp2_with fail;go_roundw
     case rel=>exact ⟨k+1,by omega,by go_num,fun j hj=>by
      by_cases hjk:j=k
      ·subst hjk;rw [iR.1,iR.2]
      ·exact HE.out j (by omega),by first | trivial | rfl⟩
     case measure=>simp [intOf];omega
  ·obtain rfl:k=16:=by omega
   have Ir:Hid (fO p.P q.P=lex dr p.P.cloud q.P.cloud):=by
    refine zef ?_;rw [tD.1.1,tD.2.1];exact zdP (fun j hj=>by rw [<- tD.1.1,<- tD.2.1];exact HE.out j hj)
   have fI:Hid (p.P.cloud.length=p.cn/\q.P.cloud.length=q.cn):=⟨fZ.cloud.len,mi.cloud.len⟩;have NC:=fZ.cloud.big;clear va vb ca cb ak hk HE;go_wp2_with fail;go_loopw [8,9,10] (fun i _ _ wr=>∃ k:Nat,k <= p.cn/\k <= q.cn/\i = .int .i64 k/\Hid (p.P.cloud.take k=q.P.cloud.take k)/\Hid (Below W.heap.size W wr)) (fun i _ _ _=>p.cn - (intOf i).toNat)
   case atStart=>exact ⟨0,by omega,by omega,rfl,rfl,Below.refl _ _⟩
   case round =>
    obtain ⟨k,iU,tE,rfl,HT,ig⟩:=hrel;obtain ⟨-,ca⟩:=(mj.below ig).nums;obtain ⟨-,cb⟩:=(tw.below ig).nums;by_cases h1:k < p.cn
    ·by_cases h2:k < q.cn
     ·obtain ⟨ada,ea,A0⟩:=(fZ.cloud.below ig).at k h1;obtain ⟨adb,eb,B0⟩:=(mi.cloud.below ig).at k h2;have bq:=mj.below ig.out;have bq2:=tw.below ig.out;rw [ea] at ca;rw [eb] at cb;obtain ⟨x,hx⟩:∃ x,p.P.cloud.getD k sn0=x:=⟨_,rfl⟩;obtain ⟨y,hy⟩:∃ y,q.P.cloud.getD k sn0=y:=⟨_,rfl⟩;rw [hx] at A0;rw [hy] at B0;have oe:=hide (And.intro hx hy);obtain ⟨n1,uw⟩:∃ n1,p.cn=n1:=⟨_,rfl⟩;obtain ⟨n2,CY⟩:∃ n2,q.cn=n2:=⟨_,rfl⟩;obtain ⟨c1,Aw⟩:∃ c1,p.cc=c1:=⟨_,rfl⟩;obtain ⟨c2,rQ⟩:∃ c2,q.cc=c2:=⟨_,rfl⟩;rw [uw] at ca h1 iU fI NC;rw [CY] at cb h2 tE fI;rw [Aw] at ca;rw [rQ] at cb
      have cG:Hid (∀ W':World,Below wr.heap.size wr W' -> W'.cell? ⟨G,1,none⟩=some (.slice (some ada) n1 c1)/\W'.cell? ⟨G+1,1,none⟩=some (.slice (some adb) n2 c2)/\(ldS (.pointer (some (ada.add (k * 3))))).run Tryz.prog W' = .ok (SV x) W'/\(ldS (.pointer (some (adb.add (k * 3))))).run Tryz.prog W' = .ok (SV y) W'):=
       fun W' h=>⟨(h.cell (World.block_lt_of_cell? _ _ ca)).trans ca,(h.cell (World.block_lt_of_cell? _ _ cb)).trans cb,qk (A0.on h),qk (B0.on h)⟩
      clear A0 B0 bq bq2 hx hy;go_upto_region 16 with fail
      go_cut [9,10] from 59 to 68 (fun s t wx=>∃ g h,s = .pointer (some ⟨g,0,none⟩)/\t = .pointer (some ⟨h,0,none⟩)/\Hid (dC wx g x/\dC wx h y/\Below wr.heap.size wr wx))
      case first =>
       as_aux_lemma =>
        clear ca cb;go_wp2_with fail;refine wp_region_held_drew (S:=fun W=>W.cell? ⟨G,1,none⟩=some (.slice (some ada) n1 c1)/\W.cell? ⟨G+1,1,none⟩=some (.slice (some adb) n2 c2)/\(ldS (.pointer (some (ada.add (k * 3))))).run Tryz.prog W = .ok (SV x) W/\(ldS (.pointer (some (adb.add (k * 3))))).run Tryz.prog W = .ok (SV y) W) (by kernel_rfl) (cG.out _ (zf _)) (fun hHeld=>?_);refine wU 0 ?_;refine wU 1 ?_;refine wU 2 ?_;refine wU 3 ?_;refine wU 4 ?_;refine wU 5 ?_;refine wU 6 ?_;refine wU 7 ?_;refine wU 8 ?_;refine wU 9 ?_;refine wpAnyH_ready (rs:=[10,11]) (by kernel_rfl) (by simp) ?_;refine AllReadyH.cons rfl (fun K hK=>?_) (AllReadyH.cons rfl (fun K hK=>?_) AllReadyH.nil)
        ·go_simp;refine hK.out _ _ (cG.out _ (kT wr)) (fun hHeld=>?_);clear hK K;refine wR 11 fun K hK=>?_;go_simp;refine hK.out _ _ (cG.out _ (wP wr)) (fun hHeld=>?_);clear hK K;obtain ⟨X9,X10,dg,dZ,fq⟩:=za4 wr x y (wr.heap.size) (wr.heap.size+1) (Or.inl ⟨rfl,rfl⟩);refine wR 12 fun K hK=>?_;go_simp;refine hK.out _ _ (cG.out _ dg) (fun hHeld=>?_);clear hK K X9;refine wR 13 fun K hK=>?_;go_simp;refine hK.out _ _ (cG.out _ dZ) (fun hHeld=>?_);clear hK K X10;refine wD ?_ _;clear hHeld;go_wp2_with fail;go_meet;exact ⟨wr.heap.size,wr.heap.size+1,rfl,rfl,fq⟩
        ·go_simp;refine hK.out _ _ (cG.out _ (kT wr)) (fun hHeld=>?_);clear hK K;refine wR 10 fun K hK=>?_;go_simp;refine hK.out _ _ (cG.out _ (wP wr)) (fun hHeld=>?_);clear hK K;obtain ⟨X9,X10,dg,dZ,fq⟩:=za4 wr x y (wr.heap.size+1) (wr.heap.size) (Or.inr ⟨rfl,rfl⟩);refine wR 12 fun K hK=>?_;go_simp;refine hK.out _ _ (cG.out _ dg) (fun hHeld=>?_);clear hK K X9;refine wR 13 fun K hK=>?_;go_simp;refine hK.out _ _ (cG.out _ dZ) (fun hHeld=>?_);clear hK K X10;refine wD ?_ _;clear hHeld;go_wp2_with fail;go_meet;exact ⟨wr.heap.size+1,wr.heap.size,rfl,rfl,fq⟩
      case rest =>
       obtain ⟨g,h,rfl,rfl,uU⟩:=hcut
       obtain ⟨x0,x1,x2⟩:=uU.1.at
       obtain ⟨y0,y1,y2⟩:=uU.2.1.at
       have fk:Hid (Below w.heap.size w wc):=rW.trans ((ig.trans (uU.2.2.mono ig.size)).mono rW.size);have IZ:Hid (Below W.heap.size W wc):=ig.trans (uU.2.2.mono ig.size)
       have Dn:Hid (∀ z,x≠y -> z=dr x y -> mq a.P b.P z):=fun z cr hz=>Ah.out z (by
        rw [Ir.out,ziz HT.out (by rw [fI.1];exact h1) (by rw [fI.2];exact h2) (by rw [oe.1,oe.2];exact cr),oe.1,oe.2,hz])
       by_cases r0:x.rep=y.rep
       ·by_cases r1:x.lo=y.lo
        ·by_cases r2:x.hi=y.hi
         ·have lM:x=y:=zjf r0 r1 r2;have NX:Hid (p.P.cloud.take (k+1)=q.P.cloud.take (k+1)):=zdK HT.out (by rw [fI.1];exact h1) (by rw [fI.2];exact h2) (by rw [oe.1,oe.2];exact lM);rw [r0] at x0;rw [r1] at x1;rw [r2] at x2;go_wp2_with fail;go_roundw
          case rel=>exact ⟨k+1,by omega,by omega,by go_num,NX,IZ⟩
          case measure=>simp [intOf];omega
         ·rw [r0] at x0;rw [r1] at x1
          have sg:(x.hi != y.hi)=true:=by simpa using r2
          have HR:Hid (mq a.P b.P (az x.hi y.hi)):=Dn.out _ (fun e=>r2 (by rw [e])) (ziM r0 r1).symm;go_wp2_with fail;refine (jm _ _ _).mono ?_;rintro e wz ⟨rfl,rfl⟩;generalize az x.hi y.hi=z at *;go_wp2_with fail;go_ret;exact ⟨z,rfl,HR.out,fk.out⟩
        ·rw [r0] at x0
         have sg:(x.lo != y.lo)=true:=by simpa using r1
         have HR:Hid (mq a.P b.P (az x.lo y.lo)):=Dn.out _ (fun e=>r1 (by rw [e])) (ziL r0 r1).symm;go_wp2_with fail;refine (jm _ _ _).mono ?_;rintro e wz ⟨rfl,rfl⟩;generalize az x.lo y.lo=z at *;go_wp2_with fail;go_ret;exact ⟨z,rfl,HR.out,fk.out⟩
       ·have sg:(x.rep != y.rep)=true:=by simpa using r0
        have HR:Hid (mq a.P b.P (az x.rep y.rep)):=Dn.out _ (fun e=>r0 (by rw [e])) (zhv r0).symm;go_wp2_with fail;refine (jm _ _ _).mono ?_;rintro e wz ⟨rfl,rfl⟩;generalize az x.rep y.rep=z at *;go_wp2_with fail;go_ret;exact ⟨z,rfl,HR.out,fk.out⟩
     ·have HR:Hid (mq a.P b.P (az (p.cn:Int) (q.cn:Int))):=Ah.out _ (by rw [Ir.out,zdh HT.out (by rw [fI.1];exact iU) (by rw [fI.2];exact tE) (by rw [fI.1,fI.2];omega),fI.1,fI.2]);have fk:Hid (Below w.heap.size w wr):=rW.trans (ig.mono rW.size);go_wp2_with fail;refine (jm _ _ _).mono ?_;rintro e wz ⟨rfl,rfl⟩;generalize az (p.cn:Int) (q.cn:Int)=z at *;go_wp2_with fail;go_ret;exact ⟨z,rfl,HR.out,fk.out⟩
    ·have HR:Hid (mq a.P b.P (az (p.cn:Int) (q.cn:Int))):=Ah.out _ (by rw [Ir.out,zdh HT.out (by rw [fI.1];exact iU) (by rw [fI.2];exact tE) (by rw [fI.1,fI.2];omega),fI.1,fI.2]);have fk:Hid (Below w.heap.size w wr):=rW.trans (ig.mono rW.size);go_wp2_with fail;refine (jm _ _ _).mono ?_;rintro e wz ⟨rfl,rfl⟩;generalize az (p.cn:Int) (q.cn:Int)=z at *;go_wp2_with fail;go_ret;exact ⟨z,rfl,HR.out,fk.out⟩
end
section
open Go.RowKit
attribute [local go_sem ↓] zq zp qf qe
attribute [local go_sem] zi zk zL zS
end
section
open Go.RowKit
attribute [local go_sem ↓] zq zp qf qe
attribute [local go_sem] zi zk zL zS qg
theorem zfN {P Q:Pst} {z:Int} (h:mq P Q z):iN P Q z:=h
theorem zfV:∀ x y:List UInt8,Op.bytesLess x y=decide (Lib.compareBytes x y < 0)/\(x == y)=decide (Lib.compareBytes x y=0)
 | [],[]=>by simp [Op.bytesLess,Lib.compareBytes]
 | [],_ :: _=>by simp [Op.bytesLess,Lib.compareBytes]
 | _ :: _,[]=>by simp [Op.bytesLess,Lib.compareBytes]
 | a :: x,b :: y=>by
  obtain ⟨h1,h2⟩:=zfV x y;by_cases ee:a < b
  ·have cr:a≠b:=fun e=>by subst e;exact absurd ee (UInt8.lt_irrefl a)
   simp [Op.bytesLess,Lib.compareBytes,ee,cr]
  ·by_cases CS:b < a
   ·have cr:a≠b:=fun e=>by subst e;exact absurd CS (UInt8.lt_irrefl a)
    simp [Op.bytesLess,Lib.compareBytes,ee,CS,cr]
   ·have he:a=b:=UInt8.le_antisymm (UInt8.not_lt.1 CS) (UInt8.not_lt.1 ee);subst he
    have h3:(a :: x == a :: y)=(x == y):=by simp
    rw [h3,h2];simp only [Op.bytesLess,h1,Lib.compareBytes,if_neg ee];simp
theorem toL (s:ByteArray):s.toList=s.data.toList:=ByteArray.toList_eq s
theorem kF (a b:ByteArray):Op.bytesLess a.toList b.toList=decide (eZ a b < 0)/\(a.toList == b.toList)=decide (eZ a b=0):=by
 rw [toL,toL];exact zfV _ _
end
end Go.Proofs.YtjffpimfngdggaaGreat
