/- QRc GKr GKs -/
import Derived.Test.YtjffpimfngdggaaGreatTk
import Derived.Test.YtjffpimfngdggaaGreatFe09
import Derived.Test.YtjffpimfngdggaaGreatFe24
import Derived.Test.YtjffpimfngdggaaGreatFe17
import Derived.Deep.CutRange
import Derived.Test.YtjffpimfngdggaaGreatFe19
import Derived.Test.YtjffpimfngdggaaGreatFe12
import Derived.Test.YtjffpimfngdggaaGreatFe14
import Derived.Laws.Cover1
set_option maxRecDepth 100000
set_option maxHeartbeats 4000000
namespace Go.Proofs.YtjffpimfngdggaaGreat
section
open Go.RowKit
attribute [local go_sem ↓] zq zp xT jn
attribute [local go_sem] zE zi qm zj qJ xN qB ko qY
theorem je (x y:Int) (w:World):Calls Tryz.prog 186 #[.int .i64 x,.int .i64 y] w fun e w'=>e = .returned (.int .i64 (au x y))/\w'=w:=by
 unfold au;go_enter Tryz.func186,Tryz.ntmps186;by_cases h1:x < y
 ·rw [if_pos h1];go_wp2;go_ret;exact ⟨rfl,rfl⟩
 ·rw [if_neg h1];by_cases h2:y < x
  ·rw [if_pos h2];go_wp2;go_ret;exact ⟨rfl,rfl⟩
  ·rw [if_neg h2];go_wp2;go_ret;exact ⟨rfl,rfl⟩
theorem kK (wr:World):Below wr.heap.size wr (wr.drew.alloc (.cells (SC sn0) 104)):=(zg wr).trans (ze wr.drew _)
theorem wF (wr:World):Below wr.heap.size wr ((wr.alloc (.cells (SC sn0) 104)).alloc (.cells (SC sn0) 104)).drew:=(kK wr).trans ((ze _ _).mono (kK wr).size)
theorem zaK (wr:World) (x y:Sn) (g h:Nat) (hg:(g=wr.heap.size/\h=wr.heap.size+1)∨(g=wr.heap.size+1/\h=wr.heap.size)) :
  (stS (.pointer (some ⟨g,0,none⟩)) (SV x)).run Tryz.prog ((wr.alloc (.cells (SC sn0) 104)).alloc (.cells (SC sn0) 104)).drew = .ok () (((wr.alloc (.cells (SC sn0) 104)).alloc (.cells (SC sn0) 104)).drew.setRow g (SC x)) /\
  (stS (.pointer (some ⟨h,0,none⟩)) (SV y)).run Tryz.prog (((wr.alloc (.cells (SC sn0) 104)).alloc (.cells (SC sn0) 104)).drew.setRow g (SC x)) = .ok () ((((wr.alloc (.cells (SC sn0) 104)).alloc (.cells (SC sn0) 104)).drew.setRow g (SC x)).setRow h (SC y)) /\
  Hid (Below wr.heap.size wr (((wr.alloc (.cells (SC sn0) 104)).alloc (.cells (SC sn0) 104)).drew.setRow g (SC x))) /\
  Hid (Below wr.heap.size wr ((((wr.alloc (.cells (SC sn0) 104)).alloc (.cells (SC sn0) 104)).drew.setRow g (SC x)).setRow h (SC y))) /\
  Hid (dr ((((wr.alloc (.cells (SC sn0) 104)).alloc (.cells (SC sn0) 104)).drew.setRow g (SC x)).setRow h (SC y)) g x/\dr ((((wr.alloc (.cells (SC sn0) 104)).alloc (.cells (SC sn0) 104)).drew.setRow g (SC x)).setRow h (SC y)) h y/\Below wr.heap.size wr ((((wr.alloc (.cells (SC sn0) 104)).alloc (.cells (SC sn0) 104)).drew.setRow g (SC x)).setRow h (SC y))):=by
 have s1:=qH wr sn0
 have s2:dr ((wr.alloc (.cells (SC sn0) 104)).alloc (.cells (SC sn0) 104)).drew (wr.heap.size+1) sn0:=by
  have:=qH (wr.alloc (.cells (SC sn0) 104)) sn0;rw [World.size_alloc] at this;exact this
 have s1':dr ((wr.alloc (.cells (SC sn0) 104)).alloc (.cells (SC sn0) 104)).drew wr.heap.size sn0:=by
  have h:=s1.below (ze (wr.alloc (.cells (SC sn0) 104)) (.cells (SC sn0) 104));exact h
 have hb:=wF wr;generalize ((wr.alloc (.cells (SC sn0) 104)).alloc (.cells (SC sn0) 104)).drew=V at s2 s1' hb ⊢
 have hB:dr V g sn0/\dr V h sn0/\g≠h/\wr.heap.size <= g/\wr.heap.size <= h:=by
  rcases hg with ⟨rfl,rfl⟩ | ⟨rfl,rfl⟩
  ·exact ⟨s1',s2,by omega,by omega,by omega⟩
  ·exact ⟨s2,s1',by omega,by omega,by omega⟩
 obtain ⟨k1,k2,ch,l1,l2⟩:=hB;have k2':dr (V.setRow g (SC x)) h sn0:=(setRow_other _ _ _ _ (Ne.symm ch)).trans k2;have k1':dr (V.setRow g (SC x)) g x:=setRow_heap _ _ _ _ _ _ k1;have b1:=zh (cs:=SC x) hb l1;have b2:=zh (cs:=SC y) b1 l2;exact ⟨bJ k1,bJ k2',b1,b2,(setRow_other _ _ _ _ ch).trans k1',setRow_heap _ _ _ _ _ _ k2',b2⟩
theorem zau {P Q:Pst} {k:Nat} (z1:∀ k,0 <= P.vec.getD k 0) (z2:∀ k,0 <= Q.vec.getD k 0) (he:∀ j,j < k -> P.vec.getD j 0=Q.vec.getD j 0) (ch:P.vec.getD k 0≠Q.vec.getD k 0):au (P.vec.getD k 0) (Q.vec.getD k 0)=eZ P Q:=by
 unfold eZ;rw [zhx k _ _ z1 z2 he ch,if_neg (fun e=>ch (xC.1 e))]
theorem zdJ {P Q:Pst} (h:P.vec=Q.vec):eZ P Q=lex de P.cloud Q.cloud:=by
 unfold eZ;rw [h,if_pos ((xi.lex.eq _ _).2 rfl)]
theorem zgV {x y:Sn} (h:¬ x.rep=y.rep):de x y=au x.rep y.rep:=by unfold de;rw [if_neg (fun e=>h (xC.1 e))]
theorem zik {x y:Sn} (h:x.rep=y.rep) (h1:¬ x.lo=y.lo):de x y=au x.lo y.lo:=by unfold de;rw [if_pos (xC.2 h),if_neg (fun e=>h1 (xC.1 e))]
theorem zil {x y:Sn} (h:x.rep=y.rep) (h1:x.lo=y.lo):de x y=au x.hi y.hi:=by unfold de;rw [if_pos (xC.2 h),if_pos (xC.2 h1)]
theorem qG {Z:List Int} {k:Nat} (h:¬ k < Z.length):Z.getD k 0=0:=by simp [List.getD,h]
def mc (P Q:Pst) (z:Int):Prop:=∃ X Y,af (ae P) X/\af (ae Q) Y/\z=eZ X Y
theorem yC (a b:Pv) (w:World) (hA:am w a) (hB:am w b):Calls Tryz.prog 144 #[PV a,PV b] w fun e w'=>∃ k,e = .returned (.int .i64 k)/\mc a.P b.P k/\Below w.heap.size w w':=by
 have b1:=ze w (.cells (PC a) 26);have b2:=ze (w.alloc (.cells (PC a) 26)) (.cells (PC b) 26);have p2:=zr (w.alloc (.cells (PC a) 26)) b;simp only [World.size_alloc] at p2;have lQ:=hide ((zr w a).below b2);have fB:=hide p2;have aq:=hide (b1.trans (b2.mono b1.size));have HA:=hide (hA.below aq.out);have HB:=hide hB;clear hA hB b1 b2 p2;obtain ⟨wk,aY⟩:∃ wk,(w.alloc (.cells (PC a) 26)).alloc (.cells (PC b) 26)=wk:=⟨_,rfl⟩
 have sJ:Hid (wk.heap.size=w.heap.size+1+1):=by show _=_;rw [<- aY];simp
 rw [aY] at lQ fB aq HA
 have l1:=zl lQ.out.at
 obtain ⟨G,hG⟩:∃ G,w.heap.size=G:=⟨_,rfl⟩;rw [hG] at lQ fB sJ l1;have HG:=hide hG;go_enter Tryz.func144,Tryz.ntmps144;go_wp2_with fail;clear aY;refine (kg a _ HA.out).mono ?_;rintro e w1 ⟨p,rfl,S1,n1,b1,C1⟩;have x1:=lQ.out.below b1;have s1:=qQ (p':=p) x1;have Bh:Hid (aA (w1.setRow G (PC p)) G p):=setRow_heap _ _ _ _ _ _ x1;have rg:Hid (aA (w1.setRow G (PC p)) (G+1) b):=(setRow_other _ _ _ _ (by omega)).trans (fB.out.below b1)
 have Dy:Hid (∀ ad,(p.vo=some ad∨p.co=some ad) -> G+2 <= ad.block):=fun ad e=>by
  have:=sJ.out;rcases e with e | e
  ·have:=n1.1 ad e;omega
  ·have:=n1.2 ad e;omega
 have dm:Hid (am (w1.setRow G (PC p)) p):=jx S1 (fun ad e=>setRow_other _ _ _ _ (by have:=Dy.out ad (Or.inl e);omega)) (fun ad e=>setRow_other _ _ _ _ (by have:=Dy.out ad (Or.inr e);omega));have aN:Hid (Below G w (w1.setRow G (PC p))):=zh ((hG ▸ aq.out).trans (b1.mono (by have:=sJ.out;omega))) (Nat.le_refl _);have AX:Hid (am (w1.setRow G (PC p)) b):=HB.out.below (by rw [HG.out];exact aN.out);have mW:=hide C1
 have E2:Hid (G+2 <= (w1.setRow G (PC p)).heap.size):=by show _ <= _;have:=sJ.out;have:=b1.size;simp [World.setRow];omega
 have l2:=zl rg.out.at
 clear S1 n1 b1 C1 x1 hG;go_wp2_with fail;clear s1 l1 l2;generalize w1.setRow G (PC p)=v1 at *;refine (kg b _ AX.out).mono ?_;rintro e w2 ⟨q,rfl,S2,n2,b2,C2⟩;have x2:=rg.out.below b2;have s2:=qQ (p':=q) x2;have Gf:Hid (aA (w2.setRow (G+1) (PC q)) (G+1) q):=setRow_heap _ _ _ _ _ _ x2;have pg:Hid (aA (w2.setRow (G+1) (PC q)) G p):=(setRow_other _ _ _ _ (by omega)).trans (Bh.out.below b2);have fA:Hid (am (w2.setRow (G+1) (PC q)) p):=jx (dm.out.below b2) (fun ad e=>setRow_other _ _ _ _ (by have:=Dy.out ad (Or.inl e);omega)) (fun ad e=>setRow_other _ _ _ _ (by have:=Dy.out ad (Or.inr e);omega));have lR:Hid (am (w2.setRow (G+1) (PC q)) q):=jx S2 (fun ad e=>setRow_other _ _ _ _ (by have:=n2.1 ad e;have:=E2.out;omega)) (fun ad e=>setRow_other _ _ _ _ (by have:=n2.2 ad e;have:=E2.out;omega))
 have iF:Hid (Below G w (w2.setRow (G+1) (PC q))):=zh (aN.out.trans (b2.mono (by have:=E2.out;omega))) (by omega);have sf:=hide C2;clear S2 n2 b2 C2 x2 AX Bh rg dm aN lQ fB aq HA HB sJ Dy E2;go_wp2_with fail;clear s2;generalize w2.setRow (G+1) (PC q)=W at *;obtain ⟨f1,e1,z1⟩:=y9 mW.out;obtain ⟨f2,e2,z2⟩:=y9 sf.out;have r8:=hide (And.intro (And.intro e1 z1) (And.intro e2 z2));have t7:Hid (∀ z,z=eZ p.P q.P -> mc a.P b.P z):=fun z hz=>⟨p.P,q.P,mW.out,sf.out,hz⟩
 have p4:Hid (Below w.heap.size w W):=by rw [HG.out];exact iF.out
 clear e1 z1 e2 z2 mW sf iF;go_loopw [5,6,7] (fun i _ _ wr=>∃ k:Nat,k <= 16/\i = .int .i64 k/\Hid (∀ j,j < k -> p.P.vec.getD j 0=q.P.vec.getD j 0)/\W=wr) (fun i _ _ _=>16 - (intOf i).toNat)
 case atStart=>exact ⟨0,by omega,rfl,fun j hj=>absurd hj (by omega),rfl⟩
 case round =>
  obtain ⟨k,hk,rfl,HE,uX⟩:=hrel;subst uX;obtain ⟨va,ca⟩:=pg.out.nums;obtain ⟨vb,cb⟩:=Gf.out.nums;by_cases ak:k < 16
  ·by_cases h1:k < p.vn
   ·obtain ⟨ada,ea,ha⟩:=qF fA.out.vec k h1;rw [ea] at va;obtain ⟨u,hu⟩:∃ u,p.P.vec.getD k 0=u:=⟨_,rfl⟩;rw [hu] at ha;by_cases h2:k < q.vn
    ·obtain ⟨adb,eb,hb⟩:=qF lR.out.vec k h2;rw [eb] at vb;obtain ⟨v,hv⟩:∃ v,q.P.vec.getD k 0=v:=⟨_,rfl⟩;rw [hv] at hb
     have iw:Hid (p.P.vec.getD k 0=u/\q.P.vec.getD k 0=v):=by show _=_/\_=_;exact ⟨hu,hv⟩
     clear hu;clear hv;by_cases ch:(u:Int)=v
     ·go_wp2_with fail;go_roundw
      case rel=>exact ⟨k+1,by omega,by go_num,fun j hj=>by
       by_cases hjk:j=k
       ·subst hjk;rw [iw.out.1,iw.out.2];exact ch
       ·exact HE.out j (by omega),by first | trivial | rfl⟩
      case measure=>simp [intOf];omega
     ·have HR:Hid (au (u:Int) v=eZ p.P q.P):=by
       show _=_
       have:=zau r8.out.1.2 r8.out.2.2 HE.out (by rw [iw.out.1,iw.out.2];exact ch);rwa [iw.out.1,iw.out.2] at this
      have pM:((u:Int) != v)=true:=by simpa using ch
      go_wp2_with fail;refine (je _ _ _).mono ?_;rintro e wz ⟨rfl,rfl⟩;generalize au (u:Int) v=z at *;go_wp2_with fail;go_ret;exact ⟨z,rfl,t7.out z HR.out,p4.out⟩
    ·have iw:Hid (p.P.vec.getD k 0=u/\q.P.vec.getD k 0=0):=by show _=_/\_=_;exact ⟨hu,qG (by rw [lR.out.vec.1];exact h2)⟩
     clear hu;by_cases ch:(u:Int)=0
     ·go_wp2_with fail;go_roundw
      case rel=>exact ⟨k+1,by omega,by go_num,fun j hj=>by
       by_cases hjk:j=k
       ·subst hjk;rw [iw.out.1,iw.out.2];exact ch
       ·exact HE.out j (by omega),by first | trivial | rfl⟩
      case measure=>simp [intOf];omega
     ·have HR:Hid (au (u:Int) 0=eZ p.P q.P):=by
       show _=_
       have:=zau r8.out.1.2 r8.out.2.2 HE.out (by rw [iw.out.1,iw.out.2];exact ch);rwa [iw.out.1,iw.out.2] at this
      have pM:((u:Int) != 0)=true:=by simpa using ch
      go_wp2_with fail;refine (je _ _ _).mono ?_;rintro e wz ⟨rfl,rfl⟩;generalize au (u:Int) 0=z at *;go_wp2_with fail;go_ret;exact ⟨z,rfl,t7.out z HR.out,p4.out⟩
   ·by_cases h2:k < q.vn
    ·obtain ⟨adb,eb,hb⟩:=qF lR.out.vec k h2;rw [eb] at vb;obtain ⟨v,hv⟩:∃ v,q.P.vec.getD k 0=v:=⟨_,rfl⟩;rw [hv] at hb
     have iw:Hid (p.P.vec.getD k 0=0/\q.P.vec.getD k 0=v):=by show _=_/\_=_;exact ⟨qG (by rw [fA.out.vec.1];exact h1),hv⟩
     clear hv;by_cases ch:(0:Int)=v
     ·go_wp2_with fail;go_roundw
      case rel=>exact ⟨k+1,by omega,by go_num,fun j hj=>by
       by_cases hjk:j=k
       ·subst hjk;rw [iw.out.1,iw.out.2];exact ch
       ·exact HE.out j (by omega),by first | trivial | rfl⟩
      case measure=>simp [intOf];omega
     ·have HR:Hid (au (0:Int) v=eZ p.P q.P):=by
       show _=_
       have:=zau r8.out.1.2 r8.out.2.2 HE.out (by rw [iw.out.1,iw.out.2];exact ch);rwa [iw.out.1,iw.out.2] at this
      have pM:((0:Int) != v)=true:=by simpa using ch
      go_wp2_with fail;refine (je _ _ _).mono ?_;rintro e wz ⟨rfl,rfl⟩;generalize au (0:Int) v=z at *;go_wp2_with fail;go_ret;exact ⟨z,rfl,t7.out z HR.out,p4.out⟩
    ·have iw:Hid (p.P.vec.getD k 0=0/\q.P.vec.getD k 0=0):=by show _=_/\_=_;exact ⟨qG (by rw [fA.out.vec.1];exact h1),qG (by rw [lR.out.vec.1];exact h2)⟩
     go_wp2_with fail;go_roundw
     case rel=>exact ⟨k+1,by omega,by go_num,fun j hj=>by
      by_cases hjk:j=k
      ·subst hjk;rw [iw.out.1,iw.out.2]
      ·exact HE.out j (by omega),by first | trivial | rfl⟩
     case measure=>simp [intOf];omega
  ·obtain rfl:k=16:=by omega
   have G6:Hid (eZ p.P q.P=lex de p.P.cloud q.P.cloud):=by
    refine zdJ ?_;rw [r8.out.1.1,r8.out.2.1];exact zdk (fun j hj=>by rw [<- r8.out.1.1,<- r8.out.2.1];exact HE.out j hj)
   have eW:Hid (p.P.cloud.length=p.cn/\q.P.cloud.length=q.cn):=⟨fA.out.cloud.len,lR.out.cloud.len⟩;have Lh:=fA.out.cloud.big;clear va vb ca cb ak hk HE;go_wp2_with fail;go_loopw [8,9,10] (fun i _ _ wr=>∃ k:Nat,k <= p.cn/\k <= q.cn/\i = .int .i64 k/\Hid (p.P.cloud.take k=q.P.cloud.take k)/\Hid (Below W.heap.size W wr)) (fun i _ _ _=>p.cn - (intOf i).toNat)
   case atStart=>exact ⟨0,by omega,by omega,rfl,rfl,Below.refl _ _⟩
   case round =>
    obtain ⟨k,gY,oq,rfl,HT,gL⟩:=hrel;obtain ⟨-,ca⟩:=(pg.out.below gL.out).nums;obtain ⟨-,cb⟩:=(Gf.out.below gL.out).nums;by_cases h1:k < p.cn
    ·by_cases h2:k < q.cn
     ·obtain ⟨ada,ea,A0⟩:=(fA.out.cloud.below gL.out).at k h1;obtain ⟨adb,eb,B0⟩:=(lR.out.cloud.below gL.out).at k h2;have bq:=pg.out.below gL.out;have bq2:=Gf.out.below gL.out;rw [ea] at ca;rw [eb] at cb;obtain ⟨x,hx⟩:∃ x,p.P.cloud.getD k sn0=x:=⟨_,rfl⟩;obtain ⟨y,hy⟩:∃ y,q.P.cloud.getD k sn0=y:=⟨_,rfl⟩;rw [hx] at A0;rw [hy] at B0;have m4:=hide (And.intro hx hy);obtain ⟨n1,sR⟩:∃ n1,p.cn=n1:=⟨_,rfl⟩;obtain ⟨n2,Ff⟩:∃ n2,q.cn=n2:=⟨_,rfl⟩;obtain ⟨c1,uS⟩:∃ c1,p.cc=c1:=⟨_,rfl⟩;obtain ⟨c2,pV⟩:∃ c2,q.cc=c2:=⟨_,rfl⟩;rw [sR] at ca h1 gY eW Lh;rw [Ff] at cb h2 oq eW;rw [uS] at ca;rw [pV] at cb
      have cU:Hid (∀ W':World,Below wr.heap.size wr W' -> W'.cell? ⟨G,1,none⟩=some (.slice (some ada) n1 c1)/\W'.cell? ⟨G+1,1,none⟩=some (.slice (some adb) n2 c2)/\(ldS (.pointer (some (ada.add (k * 3))))).run Tryz.prog W' = .ok (SV x) W'/\(ldS (.pointer (some (adb.add (k * 3))))).run Tryz.prog W' = .ok (SV y) W'):=
       fun W' h=>⟨(h.cell (World.block_lt_of_cell? _ _ ca)).trans ca,(h.cell (World.block_lt_of_cell? _ _ cb)).trans cb,qk (A0.on h),qk (B0.on h)⟩
      clear A0 B0 bq bq2 hx hy;go_upto_region 16 with fail
      go_cut [9,10] from 59 to 68 (fun s t wx=>∃ g h,s = .pointer (some ⟨g,0,none⟩)/\t = .pointer (some ⟨h,0,none⟩)/\Hid (dr wx g x/\dr wx h y/\Below wr.heap.size wr wx))
      case first =>
       as_aux_lemma =>
        clear ca cb;go_wp2_with fail;refine wp_region_held_drew (S:=fun W=>W.cell? ⟨G,1,none⟩=some (.slice (some ada) n1 c1)/\W.cell? ⟨G+1,1,none⟩=some (.slice (some adb) n2 c2)/\(ldS (.pointer (some (ada.add (k * 3))))).run Tryz.prog W = .ok (SV x) W/\(ldS (.pointer (some (adb.add (k * 3))))).run Tryz.prog W = .ok (SV y) W) (by kernel_rfl) (cU.out _ (zg _)) (fun hHeld=>?_);refine wU 0 ?_;refine wU 1 ?_;refine wU 2 ?_;refine wU 3 ?_;refine wU 4 ?_;refine wU 5 ?_;refine wU 6 ?_;refine wU 7 ?_;refine wU 8 ?_;refine wU 9 ?_;refine wpAnyH_ready (rs:=[10,11]) (by kernel_rfl) (by simp) ?_;refine AllReadyH.cons rfl (fun K hK=>?_) (AllReadyH.cons rfl (fun K hK=>?_) AllReadyH.nil)
        ·go_simp;refine hK.out _ _ (cU.out _ (kK wr)) (fun hHeld=>?_);clear hK K;refine wpAnyH_ready (rs:=[11]) (by kernel_rfl) (by simp) (.cons rfl (fun K hK=>?_) .nil);go_simp;refine hK.out _ _ (cU.out _ (wF wr)) (fun hHeld=>?_);clear hK K;obtain ⟨X9,X10,dm,dX,gz⟩:=zaK wr x y (wr.heap.size) (wr.heap.size+1) (Or.inl ⟨rfl,rfl⟩);refine wpAnyH_ready (rs:=[12]) (by kernel_rfl) (by simp) (.cons rfl (fun K hK=>?_) .nil);go_simp;refine hK.out _ _ (cU.out _ dm.out) (fun hHeld=>?_);clear hK K X9;refine wpAnyH_ready (rs:=[13]) (by kernel_rfl) (by simp) (.cons rfl (fun K hK=>?_) .nil);go_simp;refine hK.out _ _ (cU.out _ dX.out) (fun hHeld=>?_);clear hK K X10;refine wpAnyH_done (by kernel_rfl) ?_ _;clear hHeld;go_wp2_with fail;go_meet;exact ⟨wr.heap.size,wr.heap.size+1,rfl,rfl,gz⟩
        ·go_simp;refine hK.out _ _ (cU.out _ (kK wr)) (fun hHeld=>?_);clear hK K;refine wpAnyH_ready (rs:=[10]) (by kernel_rfl) (by simp) (.cons rfl (fun K hK=>?_) .nil);go_simp;refine hK.out _ _ (cU.out _ (wF wr)) (fun hHeld=>?_);clear hK K;obtain ⟨X9,X10,dm,dX,gz⟩:=zaK wr x y (wr.heap.size+1) (wr.heap.size) (Or.inr ⟨rfl,rfl⟩);refine wpAnyH_ready (rs:=[12]) (by kernel_rfl) (by simp) (.cons rfl (fun K hK=>?_) .nil);go_simp;refine hK.out _ _ (cU.out _ dm.out) (fun hHeld=>?_);clear hK K X9;refine wpAnyH_ready (rs:=[13]) (by kernel_rfl) (by simp) (.cons rfl (fun K hK=>?_) .nil);go_simp;refine hK.out _ _ (cU.out _ dX.out) (fun hHeld=>?_);clear hK K X10;refine wpAnyH_done (by kernel_rfl) ?_ _;clear hHeld;go_wp2_with fail;go_meet;exact ⟨wr.heap.size+1,wr.heap.size,rfl,rfl,gz⟩
      case rest =>
       obtain ⟨g,h,rfl,rfl,ud⟩:=hcut
       obtain ⟨x0,x1,x2⟩:=ud.out.1.at
       obtain ⟨y0,y1,y2⟩:=ud.out.2.1.at
       have eQ:Hid (Below w.heap.size w wc):=p4.out.trans ((gL.out.trans (ud.out.2.2.mono gL.out.size)).mono p4.out.size);have GG:Hid (Below W.heap.size W wc):=gL.out.trans (ud.out.2.2.mono gL.out.size)
       have DT:Hid (∀ z,x≠y -> z=de x y -> mc a.P b.P z):=fun z ch hz=>t7.out z (by
        rw [G6.out,zh4 HT.out (by rw [eW.out.1];exact h1) (by rw [eW.out.2];exact h2) (by rw [m4.out.1,m4.out.2];exact ch),m4.out.1,m4.out.2,hz])
       by_cases r0:x.rep=y.rep
       ·by_cases r1:x.lo=y.lo
        ·by_cases r2:x.hi=y.hi
         ·have lM:x=y:=ziO r0 r1 r2;have Lq:Hid (p.P.cloud.take (k+1)=q.P.cloud.take (k+1)):=zde HT.out (by rw [eW.out.1];exact h1) (by rw [eW.out.2];exact h2) (by rw [m4.out.1,m4.out.2];exact lM);rw [r0] at x0;rw [r1] at x1;rw [r2] at x2;go_wp2_with fail;go_roundw
          case rel=>exact ⟨k+1,by omega,by omega,by go_num,Lq,GG⟩
          case measure=>simp [intOf];omega
         ·rw [r0] at x0;rw [r1] at x1
          have pM:(x.hi != y.hi)=true:=by simpa using r2
          have HR:Hid (mc a.P b.P (au x.hi y.hi)):=DT.out _ (fun e=>r2 (by rw [e])) (zil r0 r1).symm;go_wp2_with fail;refine (je _ _ _).mono ?_;rintro e wz ⟨rfl,rfl⟩;generalize au x.hi y.hi=z at *;go_wp2_with fail;go_ret;exact ⟨z,rfl,HR.out,eQ.out⟩
        ·rw [r0] at x0
         have pM:(x.lo != y.lo)=true:=by simpa using r1
         have HR:Hid (mc a.P b.P (au x.lo y.lo)):=DT.out _ (fun e=>r1 (by rw [e])) (zik r0 r1).symm;go_wp2_with fail;refine (je _ _ _).mono ?_;rintro e wz ⟨rfl,rfl⟩;generalize au x.lo y.lo=z at *;go_wp2_with fail;go_ret;exact ⟨z,rfl,HR.out,eQ.out⟩
       ·have pM:(x.rep != y.rep)=true:=by simpa using r0
        have HR:Hid (mc a.P b.P (au x.rep y.rep)):=DT.out _ (fun e=>r0 (by rw [e])) (zgV r0).symm;go_wp2_with fail;refine (je _ _ _).mono ?_;rintro e wz ⟨rfl,rfl⟩;generalize au x.rep y.rep=z at *;go_wp2_with fail;go_ret;exact ⟨z,rfl,HR.out,eQ.out⟩
     ·have HR:Hid (mc a.P b.P (au (p.cn:Int) (q.cn:Int))):=t7.out _ (by rw [G6.out,zcM HT.out (by rw [eW.out.1];exact gY) (by rw [eW.out.2];exact oq) (by rw [eW.out.1,eW.out.2];omega),eW.out.1,eW.out.2]);have eQ:Hid (Below w.heap.size w wr):=p4.out.trans (gL.out.mono p4.out.size);go_wp2_with fail;refine (je _ _ _).mono ?_;rintro e wz ⟨rfl,rfl⟩;generalize au (p.cn:Int) (q.cn:Int)=z at *;go_wp2_with fail;go_ret;exact ⟨z,rfl,HR.out,eQ.out⟩
    ·have HR:Hid (mc a.P b.P (au (p.cn:Int) (q.cn:Int))):=t7.out _ (by rw [G6.out,zcM HT.out (by rw [eW.out.1];exact gY) (by rw [eW.out.2];exact oq) (by rw [eW.out.1,eW.out.2];omega),eW.out.1,eW.out.2]);have eQ:Hid (Below w.heap.size w wr):=p4.out.trans (gL.out.mono p4.out.size);go_wp2_with fail;refine (je _ _ _).mono ?_;rintro e wz ⟨rfl,rfl⟩;generalize au (p.cn:Int) (q.cn:Int)=z at *;go_wp2_with fail;go_ret;exact ⟨z,rfl,HR.out,eQ.out⟩
end
section
open Go.RowKit
attribute [local go_sem ↓] zq zp zZ zY
attribute [local go_sem] zi zj zJ zQ
end
section
open Go.RowKit
attribute [local go_sem ↓] zq zp zZ zY
attribute [local go_sem] zi zj zJ zQ qe
theorem zij {P Q:Pst} {z:Int} (h:mc P Q z):iu P Q z:=h
theorem zfj:∀ x y:List UInt8,Op.bytesLess x y=decide (Lib.compareBytes x y < 0)/\(x == y)=decide (Lib.compareBytes x y=0)
 | [],[]=>by simp [Op.bytesLess,Lib.compareBytes]
 | [],_ :: _=>by simp [Op.bytesLess,Lib.compareBytes]
 | _ :: _,[]=>by simp [Op.bytesLess,Lib.compareBytes]
 | a :: x,b :: y=>by
  obtain ⟨h1,h2⟩:=zfj x y;by_cases dS:a < b
  ·have ch:a≠b:=fun e=>by subst e;exact absurd dS (UInt8.lt_irrefl a)
   simp [Op.bytesLess,Lib.compareBytes,dS,ch]
  ·by_cases Cb:b < a
   ·have ch:a≠b:=fun e=>by subst e;exact absurd Cb (UInt8.lt_irrefl a)
    simp [Op.bytesLess,Lib.compareBytes,dS,Cb,ch]
   ·have he:a=b:=UInt8.le_antisymm (UInt8.not_lt.1 Cb) (UInt8.not_lt.1 dS);subst he
    have h3:(a :: x == a :: y)=(x == y):=by simp
    rw [h3,h2];simp only [Op.bytesLess,h1,Lib.compareBytes,if_neg dS];simp
theorem toL (s:ByteArray):s.toList=s.data.toList:=ByteArray.toList_eq s
theorem zaN (a b:ByteArray):Op.bytesLess a.toList b.toList=decide (eX a b < 0)/\(a.toList == b.toList)=decide (eX a b=0):=by
 rw [toL,toL];exact zfj _ _
end
end Go.Proofs.YtjffpimfngdggaaGreat
