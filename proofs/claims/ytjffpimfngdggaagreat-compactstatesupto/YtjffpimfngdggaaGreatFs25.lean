/- QRc GKr GKs -/
import Derived.Test.YtjffpimfngdggaaGreatTk
import Derived.Test.YtjffpimfngdggaaGreatFs09
import Derived.Test.YtjffpimfngdggaaGreatFs24
import Derived.Test.YtjffpimfngdggaaGreatFs13
import Derived.Deep.CutRange
import Derived.Test.YtjffpimfngdggaaGreatFs16
import Derived.Test.YtjffpimfngdggaaGreatFs12
import Derived.Test.YtjffpimfngdggaaGreatFs15
import Derived.Laws.Cover1
set_option maxRecDepth 100000
set_option maxHeartbeats 4000000
namespace Go.Proofs.YtjffpimfngdggaaGreat
section
open Go.RowKit
attribute [local go_sem ↓] zr zq ji jG
attribute [local go_sem] zE zi qq zk qI jj qJ kw xw
theorem jh (x y:Int) (w:World):Calls Tryz.prog 186 #[.int .i64 x,.int .i64 y] w fun e w'=>e = .returned (.int .i64 (cmpI x y))/\w'=w:=by
 unfold cmpI;go_enter Tryz.func186,Tryz.ntmps186;by_cases h1:x < y
 ·rw [if_pos h1];go_wp2;go_ret;exact ⟨rfl,rfl⟩
 ·rw [if_neg h1];by_cases h2:y < x
  ·rw [if_pos h2];go_wp2;go_ret;exact ⟨rfl,rfl⟩
  ·rw [if_neg h2];go_wp2;go_ret;exact ⟨rfl,rfl⟩
theorem kT (wr:World):Below wr.heap.size wr (wr.drew.alloc (.cells (SC sn0) 104)):=(zf wr).trans (ze wr.drew _)
theorem wO (wr:World):Below wr.heap.size wr ((wr.alloc (.cells (SC sn0) 104)).alloc (.cells (SC sn0) 104)).drew:=(kT wr).trans ((ze _ _).mono (kT wr).size)
theorem zaO (wr:World) (x y:Sn) (g h:Nat) (hg:(g=wr.heap.size/\h=wr.heap.size+1)∨(g=wr.heap.size+1/\h=wr.heap.size)) :
  (stS (.pointer (some ⟨g,0,none⟩)) (SV x)).run Tryz.prog ((wr.alloc (.cells (SC sn0) 104)).alloc (.cells (SC sn0) 104)).drew = .ok () (((wr.alloc (.cells (SC sn0) 104)).alloc (.cells (SC sn0) 104)).drew.setRow g (SC x)) /\
  (stS (.pointer (some ⟨h,0,none⟩)) (SV y)).run Tryz.prog (((wr.alloc (.cells (SC sn0) 104)).alloc (.cells (SC sn0) 104)).drew.setRow g (SC x)) = .ok () ((((wr.alloc (.cells (SC sn0) 104)).alloc (.cells (SC sn0) 104)).drew.setRow g (SC x)).setRow h (SC y)) /\
  Hid (Below wr.heap.size wr (((wr.alloc (.cells (SC sn0) 104)).alloc (.cells (SC sn0) 104)).drew.setRow g (SC x))) /\
  Hid (Below wr.heap.size wr ((((wr.alloc (.cells (SC sn0) 104)).alloc (.cells (SC sn0) 104)).drew.setRow g (SC x)).setRow h (SC y))) /\
  Hid (SBox ((((wr.alloc (.cells (SC sn0) 104)).alloc (.cells (SC sn0) 104)).drew.setRow g (SC x)).setRow h (SC y)) g x/\SBox ((((wr.alloc (.cells (SC sn0) 104)).alloc (.cells (SC sn0) 104)).drew.setRow g (SC x)).setRow h (SC y)) h y/\Below wr.heap.size wr ((((wr.alloc (.cells (SC sn0) 104)).alloc (.cells (SC sn0) 104)).drew.setRow g (SC x)).setRow h (SC y))):=by
 have s1:=qP wr sn0
 have s2:SBox ((wr.alloc (.cells (SC sn0) 104)).alloc (.cells (SC sn0) 104)).drew (wr.heap.size+1) sn0:=by
  have:=qP (wr.alloc (.cells (SC sn0) 104)) sn0;rw [World.size_alloc] at this;exact this
 have s1':SBox ((wr.alloc (.cells (SC sn0) 104)).alloc (.cells (SC sn0) 104)).drew wr.heap.size sn0:=by
  have h:=s1.below (ze (wr.alloc (.cells (SC sn0) 104)) (.cells (SC sn0) 104));exact h
 have hb:=wO wr;generalize ((wr.alloc (.cells (SC sn0) 104)).alloc (.cells (SC sn0) 104)).drew=V at s2 s1' hb ⊢
 have hB:SBox V g sn0/\SBox V h sn0/\g≠h/\wr.heap.size <= g/\wr.heap.size <= h:=by
  rcases hg with ⟨rfl,rfl⟩ | ⟨rfl,rfl⟩
  ·exact ⟨s1',s2,by omega,by omega,by omega⟩
  ·exact ⟨s2,s1',by omega,by omega,by omega⟩
 obtain ⟨k1,k2,hne,l1,l2⟩:=hB;have k2':SBox (V.setRow g (SC x)) h sn0:=(setRow_other _ _ _ _ (Ne.symm hne)).trans k2;have k1':SBox (V.setRow g (SC x)) g x:=setRow_heap _ _ _ _ _ _ k1;have b1:=zh (cs:=SC x) hb l1;have b2:=zh (cs:=SC y) b1 l2;exact ⟨bK k1,bK k2',b1,b2,(setRow_other _ _ _ _ hne).trans k1',setRow_heap _ _ _ _ _ _ k2',b2⟩
theorem zay {P Q:Pst} {k:Nat} (z1:∀ k,0 <= P.vec.getD k 0) (z2:∀ k,0 <= Q.vec.getD k 0) (he:∀ j,j < k -> P.vec.getD j 0=Q.vec.getD j 0) (hne:P.vec.getD k 0≠Q.vec.getD k 0):cmpI (P.vec.getD k 0) (Q.vec.getD k 0)=cmpP P Q:=by
 unfold cmpP;rw [zhE k _ _ z1 z2 he hne,if_neg (fun e=>hne (xE.1 e))]
theorem zdT {P Q:Pst} (h:P.vec=Q.vec):cmpP P Q=lex cmp3 P.cloud Q.cloud:=by
 unfold cmpP;rw [h,if_pos ((xr.lex.eq _ _).2 rfl)]
theorem zg3 {x y:Sn} (h:¬ x.rep=y.rep):cmp3 x y=cmpI x.rep y.rep:=by unfold cmp3;rw [if_neg (fun e=>h (xE.1 e))]
theorem zik {x y:Sn} (h:x.rep=y.rep) (h1:¬ x.lo=y.lo):cmp3 x y=cmpI x.lo y.lo:=by unfold cmp3;rw [if_pos (xE.2 h),if_neg (fun e=>h1 (xE.1 e))]
theorem zil {x y:Sn} (h:x.rep=y.rep) (h1:x.lo=y.lo):cmp3 x y=cmpI x.hi y.hi:=by unfold cmp3;rw [if_pos (xE.2 h),if_pos (xE.2 h1)]
theorem qF {Z:List Int} {k:Nat} (h:¬ k < Z.length):Z.getD k 0=0:=by simp [List.getD,h]
def CmpV (P Q:Pst) (z:Int):Prop:=∃ X Y,CanonOf (runsAt P) X/\CanonOf (runsAt Q) Y/\z=cmpP X Y
theorem kh (a b:Pv) (w:World) (hA:PSrc w a) (hB:PSrc w b):Calls Tryz.prog 144 #[PV a,PV b] w fun e w'=>∃ k,e = .returned (.int .i64 k)/\CmpV a.P b.P k/\Below w.heap.size w w':=by
 have b1:=ze w (.cells (PC a) 26);have b2:=ze (w.alloc (.cells (PC a) 26)) (.cells (PC b) 26);have p2:=zm (w.alloc (.cells (PC a) 26)) b;simp only [World.size_alloc] at p2;have HX1:=hide ((zm w a).below b2);have HX2:=hide p2;have HBK:=hide (b1.trans (b2.mono b1.size));have HA:=hide (hA.below HBK.out);have HB:=hide hB;clear hA hB b1 b2 p2;obtain ⟨wk,hwk⟩:∃ wk,(w.alloc (.cells (PC a) 26)).alloc (.cells (PC b) 26)=wk:=⟨_,rfl⟩
 have HWZ:Hid (wk.heap.size=w.heap.size+1+1):=by show _=_;rw [<- hwk];simp
 rw [hwk] at HX1 HX2 HBK HA
 have l1:=zj HX1.out.at
 obtain ⟨G,hG⟩:∃ G,w.heap.size=G:=⟨_,rfl⟩;rw [hG] at HX1 HX2 HWZ l1;have HG:=hide hG;go_enter Tryz.func144,Tryz.ntmps144;go_wp2_with fail;clear hwk;refine (jz a _ HA.out).mono ?_;rintro e w1 ⟨p,rfl,S1,n1,b1,C1⟩;have x1:=HX1.out.below b1;have s1:=qV (p':=p) x1;have HY1:Hid (PBox (w1.setRow G (PC p)) G p):=setRow_heap _ _ _ _ _ _ x1;have HY2:Hid (PBox (w1.setRow G (PC p)) (G+1) b):=(setRow_other _ _ _ _ (by omega)).trans (HX2.out.below b1)
 have HPN:Hid (∀ ad,(p.vo=some ad∨p.co=some ad) -> G+2 <= ad.block):=fun ad e=>by
  have:=HWZ.out;rcases e with e | e
  ·have:=n1.1 ad e;omega
  ·have:=n1.2 ad e;omega
 have HS1:Hid (PSrc (w1.setRow G (PC p)) p):=jd S1 (fun ad e=>setRow_other _ _ _ _ (by have:=HPN.out ad (Or.inl e);omega)) (fun ad e=>setRow_other _ _ _ _ (by have:=HPN.out ad (Or.inr e);omega));have HB1:Hid (Below G w (w1.setRow G (PC p))):=zh ((hG ▸ HBK.out).trans (b1.mono (by have:=HWZ.out;omega))) (Nat.le_refl _);have HBB:Hid (PSrc (w1.setRow G (PC p)) b):=HB.out.below (by rw [HG.out];exact HB1.out);have HC1:=hide C1
 have HZ1:Hid (G+2 <= (w1.setRow G (PC p)).heap.size):=by show _ <= _;have:=HWZ.out;have:=b1.size;simp [World.setRow];omega
 have l2:=zj HY2.out.at
 clear S1 n1 b1 C1 x1 hG;go_wp2_with fail;clear s1 l1 l2;generalize w1.setRow G (PC p)=v1 at *;refine (jz b _ HBB.out).mono ?_;rintro e w2 ⟨q,rfl,S2,n2,b2,C2⟩;have x2:=HY2.out.below b2;have s2:=qV (p':=q) x2;have HQ2:Hid (PBox (w2.setRow (G+1) (PC q)) (G+1) q):=setRow_heap _ _ _ _ _ _ x2;have HQ1:Hid (PBox (w2.setRow (G+1) (PC q)) G p):=(setRow_other _ _ _ _ (by omega)).trans (HY1.out.below b2);have HP1:Hid (PSrc (w2.setRow (G+1) (PC q)) p):=jd (HS1.out.below b2) (fun ad e=>setRow_other _ _ _ _ (by have:=HPN.out ad (Or.inl e);omega)) (fun ad e=>setRow_other _ _ _ _ (by have:=HPN.out ad (Or.inr e);omega));have HP2:Hid (PSrc (w2.setRow (G+1) (PC q)) q):=jd S2 (fun ad e=>setRow_other _ _ _ _ (by have:=n2.1 ad e;have:=HZ1.out;omega)) (fun ad e=>setRow_other _ _ _ _ (by have:=n2.2 ad e;have:=HZ1.out;omega))
 have HBW:Hid (Below G w (w2.setRow (G+1) (PC q))):=zh (HB1.out.trans (b2.mono (by have:=HZ1.out;omega))) (by omega);have HC2:=hide C2;clear S2 n2 b2 C2 x2 HBB HY1 HY2 HS1 HB1 HX1 HX2 HBK HA HB HWZ HPN HZ1;go_wp2_with fail;clear s2;generalize w2.setRow (G+1) (PC q)=W at *;obtain ⟨f1,e1,z1⟩:=bm HC1.out;obtain ⟨f2,e2,z2⟩:=bm HC2.out;have HPL:=hide (And.intro (And.intro e1 z1) (And.intro e2 z2));have HCM:Hid (∀ z,z=cmpP p.P q.P -> CmpV a.P b.P z):=fun z hz=>⟨p.P,q.P,HC1.out,HC2.out,hz⟩
 have HBF:Hid (Below w.heap.size w W):=by rw [HG.out];exact HBW.out
 clear e1 z1 e2 z2 HC1 HC2 HBW;go_loopw [5,6,7] (fun i _ _ wr=>∃ k:Nat,k <= 16/\i = .int .i64 k/\Hid (∀ j,j < k -> p.P.vec.getD j 0=q.P.vec.getD j 0)/\W=wr) (fun i _ _ _=>16 - (intOf i).toNat)
 case atStart=>exact ⟨0,by omega,rfl,fun j hj=>absurd hj (by omega),rfl⟩
 case round =>
  obtain ⟨k,hk,rfl,HE,hwr⟩:=hrel;subst hwr;obtain ⟨va,ca⟩:=HQ1.out.nums;obtain ⟨vb,cb⟩:=HQ2.out.nums;by_cases hlt:k < 16
  ·by_cases h1:k < p.vn
   ·obtain ⟨ada,ea,ha⟩:=qw HP1.out.vec k h1;rw [ea] at va;obtain ⟨u,hu⟩:∃ u,p.P.vec.getD k 0=u:=⟨_,rfl⟩;rw [hu] at ha;by_cases h2:k < q.vn
    ·obtain ⟨adb,eb,hb⟩:=qw HP2.out.vec k h2;rw [eb] at vb;obtain ⟨v,hv⟩:∃ v,q.P.vec.getD k 0=v:=⟨_,rfl⟩;rw [hv] at hb
     have HVE:Hid (p.P.vec.getD k 0=u/\q.P.vec.getD k 0=v):=by show _=_/\_=_;exact ⟨hu,hv⟩
     clear hu;clear hv;by_cases hne:(u:Int)=v
     ·go_wp2_with fail;go_roundw
      case rel=>exact ⟨k+1,by omega,by go_num,fun j hj=>by
       by_cases hjk:j=k
       ·subst hjk;rw [HVE.out.1,HVE.out.2];exact hne
       ·exact HE.out j (by omega),by first | trivial | rfl⟩
      case measure=>simp [intOf];omega
     ·have HR:Hid (cmpI (u:Int) v=cmpP p.P q.P):=by
       show _=_
       have:=zay HPL.out.1.2 HPL.out.2.2 HE.out (by rw [HVE.out.1,HVE.out.2];exact hne);rwa [HVE.out.1,HVE.out.2] at this
      have hne':((u:Int) != v)=true:=by simpa using hne
      go_wp2_with fail;refine (jh _ _ _).mono ?_;rintro e wz ⟨rfl,rfl⟩;generalize cmpI (u:Int) v=z at *;go_wp2_with fail;go_ret;exact ⟨z,rfl,HCM.out z HR.out,HBF.out⟩
    ·have HVE:Hid (p.P.vec.getD k 0=u/\q.P.vec.getD k 0=0):=by show _=_/\_=_;exact ⟨hu,qF (by rw [HP2.out.vec.1];exact h2)⟩
     clear hu;by_cases hne:(u:Int)=0
     ·go_wp2_with fail;go_roundw
      case rel=>exact ⟨k+1,by omega,by go_num,fun j hj=>by
       by_cases hjk:j=k
       ·subst hjk;rw [HVE.out.1,HVE.out.2];exact hne
       ·exact HE.out j (by omega),by first | trivial | rfl⟩
      case measure=>simp [intOf];omega
     ·have HR:Hid (cmpI (u:Int) 0=cmpP p.P q.P):=by
       show _=_
       have:=zay HPL.out.1.2 HPL.out.2.2 HE.out (by rw [HVE.out.1,HVE.out.2];exact hne);rwa [HVE.out.1,HVE.out.2] at this
      have hne':((u:Int) != 0)=true:=by simpa using hne
      go_wp2_with fail;refine (jh _ _ _).mono ?_;rintro e wz ⟨rfl,rfl⟩;generalize cmpI (u:Int) 0=z at *;go_wp2_with fail;go_ret;exact ⟨z,rfl,HCM.out z HR.out,HBF.out⟩
   ·by_cases h2:k < q.vn
    ·obtain ⟨adb,eb,hb⟩:=qw HP2.out.vec k h2;rw [eb] at vb;obtain ⟨v,hv⟩:∃ v,q.P.vec.getD k 0=v:=⟨_,rfl⟩;rw [hv] at hb
     have HVE:Hid (p.P.vec.getD k 0=0/\q.P.vec.getD k 0=v):=by show _=_/\_=_;exact ⟨qF (by rw [HP1.out.vec.1];exact h1),hv⟩
     clear hv;by_cases hne:(0:Int)=v
     ·go_wp2_with fail;go_roundw
      case rel=>exact ⟨k+1,by omega,by go_num,fun j hj=>by
       by_cases hjk:j=k
       ·subst hjk;rw [HVE.out.1,HVE.out.2];exact hne
       ·exact HE.out j (by omega),by first | trivial | rfl⟩
      case measure=>simp [intOf];omega
     ·have HR:Hid (cmpI (0:Int) v=cmpP p.P q.P):=by
       show _=_
       have:=zay HPL.out.1.2 HPL.out.2.2 HE.out (by rw [HVE.out.1,HVE.out.2];exact hne);rwa [HVE.out.1,HVE.out.2] at this
      have hne':((0:Int) != v)=true:=by simpa using hne
      go_wp2_with fail;refine (jh _ _ _).mono ?_;rintro e wz ⟨rfl,rfl⟩;generalize cmpI (0:Int) v=z at *;go_wp2_with fail;go_ret;exact ⟨z,rfl,HCM.out z HR.out,HBF.out⟩
    ·have HVE:Hid (p.P.vec.getD k 0=0/\q.P.vec.getD k 0=0):=by show _=_/\_=_;exact ⟨qF (by rw [HP1.out.vec.1];exact h1),qF (by rw [HP2.out.vec.1];exact h2)⟩
     go_wp2_with fail;go_roundw
     case rel=>exact ⟨k+1,by omega,by go_num,fun j hj=>by
      by_cases hjk:j=k
      ·subst hjk;rw [HVE.out.1,HVE.out.2]
      ·exact HE.out j (by omega),by first | trivial | rfl⟩
     case measure=>simp [intOf];omega
  ·obtain rfl:k=16:=by omega
   have HVV:Hid (cmpP p.P q.P=lex cmp3 p.P.cloud q.P.cloud):=by
    refine zdT ?_;rw [HPL.out.1.1,HPL.out.2.1];exact zdv (fun j hj=>by rw [<- HPL.out.1.1,<- HPL.out.2.1];exact HE.out j hj)
   have HLN:Hid (p.P.cloud.length=p.cn/\q.P.cloud.length=q.cn):=⟨HP1.out.cloud.len,HP2.out.cloud.len⟩;have hbp:=HP1.out.cloud.big;clear va vb ca cb hlt hk HE;go_wp2_with fail;go_loopw [8,9,10] (fun i _ _ wr=>∃ k:Nat,k <= p.cn/\k <= q.cn/\i = .int .i64 k/\Hid (p.P.cloud.take k=q.P.cloud.take k)/\Hid (Below W.heap.size W wr)) (fun i _ _ _=>p.cn - (intOf i).toNat)
   case atStart=>exact ⟨0,by omega,by omega,rfl,rfl,Below.refl _ _⟩
   case round =>
    obtain ⟨k,hk1,hk2,rfl,HT,HBL⟩:=hrel;obtain ⟨-,ca⟩:=(HQ1.out.below HBL.out).nums;obtain ⟨-,cb⟩:=(HQ2.out.below HBL.out).nums;by_cases h1:k < p.cn
    ·by_cases h2:k < q.cn
     ·obtain ⟨ada,ea,A0⟩:=(HP1.out.cloud.below HBL.out).at k h1;obtain ⟨adb,eb,B0⟩:=(HP2.out.cloud.below HBL.out).at k h2;have bq:=HQ1.out.below HBL.out;have bq2:=HQ2.out.below HBL.out;rw [ea] at ca;rw [eb] at cb;obtain ⟨x,hx⟩:∃ x,p.P.cloud.getD k sn0=x:=⟨_,rfl⟩;obtain ⟨y,hy⟩:∃ y,q.P.cloud.getD k sn0=y:=⟨_,rfl⟩;rw [hx] at A0;rw [hy] at B0;have HXY:=hide (And.intro hx hy);obtain ⟨n1,hn1⟩:∃ n1,p.cn=n1:=⟨_,rfl⟩;obtain ⟨n2,hn2⟩:∃ n2,q.cn=n2:=⟨_,rfl⟩;obtain ⟨c1,hc1⟩:∃ c1,p.cc=c1:=⟨_,rfl⟩;obtain ⟨c2,hc2⟩:∃ c2,q.cc=c2:=⟨_,rfl⟩;rw [hn1] at ca h1 hk1 HLN hbp;rw [hn2] at cb h2 hk2 HLN;rw [hc1] at ca;rw [hc2] at cb
      have HSW:Hid (∀ W':World,Below wr.heap.size wr W' -> W'.cell? ⟨G,1,none⟩=some (.slice (some ada) n1 c1)/\W'.cell? ⟨G+1,1,none⟩=some (.slice (some adb) n2 c2)/\(ldS (.pointer (some (ada.add (k * 3))))).run Tryz.prog W' = .ok (SV x) W'/\(ldS (.pointer (some (adb.add (k * 3))))).run Tryz.prog W' = .ok (SV y) W'):=
       fun W' h=>⟨(h.cell (World.block_lt_of_cell? _ _ ca)).trans ca,(h.cell (World.block_lt_of_cell? _ _ cb)).trans cb,ql (A0.on h),ql (B0.on h)⟩
      clear A0 B0 bq bq2 hx hy;go_upto_region 16 with fail
      go_cut [9,10] from 59 to 68 (fun s t wx=>∃ g h,s = .pointer (some ⟨g,0,none⟩)/\t = .pointer (some ⟨h,0,none⟩)/\Hid (SBox wx g x/\SBox wx h y/\Below wr.heap.size wr wx))
      case first =>
       as_aux_lemma =>
        clear ca cb;go_wp2_with fail;refine wp_region_held_drew (S:=fun W=>W.cell? ⟨G,1,none⟩=some (.slice (some ada) n1 c1)/\W.cell? ⟨G+1,1,none⟩=some (.slice (some adb) n2 c2)/\(ldS (.pointer (some (ada.add (k * 3))))).run Tryz.prog W = .ok (SV x) W/\(ldS (.pointer (some (adb.add (k * 3))))).run Tryz.prog W = .ok (SV y) W) (by kernel_rfl) (HSW.out _ (zf _)) (fun hHeld=>?_);refine wU 0 ?_;refine wU 1 ?_;refine wU 2 ?_;refine wU 3 ?_;refine wU 4 ?_;refine wU 5 ?_;refine wU 6 ?_;refine wU 7 ?_;refine wU 8 ?_;refine wU 9 ?_;refine wpAnyH_ready (rs:=[10,11]) (by kernel_rfl) (by simp) ?_;refine AllReadyH.cons rfl (fun K hK=>?_) (AllReadyH.cons rfl (fun K hK=>?_) AllReadyH.nil)
        ·go_simp;refine hK.out _ _ (HSW.out _ (kT wr)) (fun hHeld=>?_);clear hK K;refine wpAnyH_ready (rs:=[11]) (by kernel_rfl) (by simp) (.cons rfl (fun K hK=>?_) .nil);go_simp;refine hK.out _ _ (HSW.out _ (wO wr)) (fun hHeld=>?_);clear hK K;obtain ⟨X9,X10,HS1,HS2,HFin⟩:=zaO wr x y (wr.heap.size) (wr.heap.size+1) (Or.inl ⟨rfl,rfl⟩);refine wpAnyH_ready (rs:=[12]) (by kernel_rfl) (by simp) (.cons rfl (fun K hK=>?_) .nil);go_simp;refine hK.out _ _ (HSW.out _ HS1.out) (fun hHeld=>?_);clear hK K X9;refine wpAnyH_ready (rs:=[13]) (by kernel_rfl) (by simp) (.cons rfl (fun K hK=>?_) .nil);go_simp;refine hK.out _ _ (HSW.out _ HS2.out) (fun hHeld=>?_);clear hK K X10;refine wpAnyH_done (by kernel_rfl) ?_ _;clear hHeld;go_wp2_with fail;go_meet;exact ⟨wr.heap.size,wr.heap.size+1,rfl,rfl,HFin⟩
        ·go_simp;refine hK.out _ _ (HSW.out _ (kT wr)) (fun hHeld=>?_);clear hK K;refine wpAnyH_ready (rs:=[10]) (by kernel_rfl) (by simp) (.cons rfl (fun K hK=>?_) .nil);go_simp;refine hK.out _ _ (HSW.out _ (wO wr)) (fun hHeld=>?_);clear hK K;obtain ⟨X9,X10,HS1,HS2,HFin⟩:=zaO wr x y (wr.heap.size+1) (wr.heap.size) (Or.inr ⟨rfl,rfl⟩);refine wpAnyH_ready (rs:=[12]) (by kernel_rfl) (by simp) (.cons rfl (fun K hK=>?_) .nil);go_simp;refine hK.out _ _ (HSW.out _ HS1.out) (fun hHeld=>?_);clear hK K X9;refine wpAnyH_ready (rs:=[13]) (by kernel_rfl) (by simp) (.cons rfl (fun K hK=>?_) .nil);go_simp;refine hK.out _ _ (HSW.out _ HS2.out) (fun hHeld=>?_);clear hK K X10;refine wpAnyH_done (by kernel_rfl) ?_ _;clear hHeld;go_wp2_with fail;go_meet;exact ⟨wr.heap.size+1,wr.heap.size,rfl,rfl,HFin⟩
      case rest =>
       obtain ⟨g,h,rfl,rfl,HBX⟩:=hcut
       obtain ⟨x0,x1,x2⟩:=HBX.out.1.at
       obtain ⟨y0,y1,y2⟩:=HBX.out.2.1.at
       have HBE:Hid (Below w.heap.size w wc):=HBF.out.trans ((HBL.out.trans (HBX.out.2.2.mono HBL.out.size)).mono HBF.out.size);have HBL2:Hid (Below W.heap.size W wc):=HBL.out.trans (HBX.out.2.2.mono HBL.out.size)
       have HDF:Hid (∀ z,x≠y -> z=cmp3 x y -> CmpV a.P b.P z):=fun z hne hz=>HCM.out z (by
        rw [HVV.out,zh6 HT.out (by rw [HLN.out.1];exact h1) (by rw [HLN.out.2];exact h2) (by rw [HXY.out.1,HXY.out.2];exact hne),HXY.out.1,HXY.out.2,hz])
       by_cases r0:x.rep=y.rep
       ·by_cases r1:x.lo=y.lo
        ·by_cases r2:x.hi=y.hi
         ·have hxy:x=y:=ziP r0 r1 r2;have HTN:Hid (p.P.cloud.take (k+1)=q.P.cloud.take (k+1)):=zdq HT.out (by rw [HLN.out.1];exact h1) (by rw [HLN.out.2];exact h2) (by rw [HXY.out.1,HXY.out.2];exact hxy);rw [r0] at x0;rw [r1] at x1;rw [r2] at x2;go_wp2_with fail;go_roundw
          case rel=>exact ⟨k+1,by omega,by omega,by go_num,HTN,HBL2⟩
          case measure=>simp [intOf];omega
         ·rw [r0] at x0;rw [r1] at x1
          have hne':(x.hi != y.hi)=true:=by simpa using r2
          have HR:Hid (CmpV a.P b.P (cmpI x.hi y.hi)):=HDF.out _ (fun e=>r2 (by rw [e])) (zil r0 r1).symm;go_wp2_with fail;refine (jh _ _ _).mono ?_;rintro e wz ⟨rfl,rfl⟩;generalize cmpI x.hi y.hi=z at *;go_wp2_with fail;go_ret;exact ⟨z,rfl,HR.out,HBE.out⟩
        ·rw [r0] at x0
         have hne':(x.lo != y.lo)=true:=by simpa using r1
         have HR:Hid (CmpV a.P b.P (cmpI x.lo y.lo)):=HDF.out _ (fun e=>r1 (by rw [e])) (zik r0 r1).symm;go_wp2_with fail;refine (jh _ _ _).mono ?_;rintro e wz ⟨rfl,rfl⟩;generalize cmpI x.lo y.lo=z at *;go_wp2_with fail;go_ret;exact ⟨z,rfl,HR.out,HBE.out⟩
       ·have hne':(x.rep != y.rep)=true:=by simpa using r0
        have HR:Hid (CmpV a.P b.P (cmpI x.rep y.rep)):=HDF.out _ (fun e=>r0 (by rw [e])) (zg3 r0).symm;go_wp2_with fail;refine (jh _ _ _).mono ?_;rintro e wz ⟨rfl,rfl⟩;generalize cmpI x.rep y.rep=z at *;go_wp2_with fail;go_ret;exact ⟨z,rfl,HR.out,HBE.out⟩
     ·have HR:Hid (CmpV a.P b.P (cmpI (p.cn:Int) (q.cn:Int))):=HCM.out _ (by rw [HVV.out,zcT HT.out (by rw [HLN.out.1];exact hk1) (by rw [HLN.out.2];exact hk2) (by rw [HLN.out.1,HLN.out.2];omega),HLN.out.1,HLN.out.2]);have HBE:Hid (Below w.heap.size w wr):=HBF.out.trans (HBL.out.mono HBF.out.size);go_wp2_with fail;refine (jh _ _ _).mono ?_;rintro e wz ⟨rfl,rfl⟩;generalize cmpI (p.cn:Int) (q.cn:Int)=z at *;go_wp2_with fail;go_ret;exact ⟨z,rfl,HR.out,HBE.out⟩
    ·have HR:Hid (CmpV a.P b.P (cmpI (p.cn:Int) (q.cn:Int))):=HCM.out _ (by rw [HVV.out,zcT HT.out (by rw [HLN.out.1];exact hk1) (by rw [HLN.out.2];exact hk2) (by rw [HLN.out.1,HLN.out.2];omega),HLN.out.1,HLN.out.2]);have HBE:Hid (Below w.heap.size w wr):=HBF.out.trans (HBL.out.mono HBF.out.size);go_wp2_with fail;refine (jh _ _ _).mono ?_;rintro e wz ⟨rfl,rfl⟩;generalize cmpI (p.cn:Int) (q.cn:Int)=z at *;go_wp2_with fail;go_ret;exact ⟨z,rfl,HR.out,HBE.out⟩
end
section
open Go.RowKit
attribute [local go_sem ↓] zr zq qd zZ
attribute [local go_sem] zi zk zI zU
end
section
open Go.RowKit
attribute [local go_sem ↓] zr zq qd zZ
attribute [local go_sem] zi zk zI zU qi
theorem zfm {P Q:Pst} {z:Int} (h:CmpV P Q z):CmpOf P Q z:=h
theorem zft:∀ x y:List UInt8,Op.bytesLess x y=decide (Lib.compareBytes x y < 0)/\(x == y)=decide (Lib.compareBytes x y=0)
 | [],[]=>by simp [Op.bytesLess,Lib.compareBytes]
 | [],_ :: _=>by simp [Op.bytesLess,Lib.compareBytes]
 | _ :: _,[]=>by simp [Op.bytesLess,Lib.compareBytes]
 | a :: x,b :: y=>by
  obtain ⟨h1,h2⟩:=zft x y;by_cases hab:a < b
  ·have hne:a≠b:=fun e=>by subst e;exact absurd hab (UInt8.lt_irrefl a)
   simp [Op.bytesLess,Lib.compareBytes,hab,hne]
  ·by_cases hba:b < a
   ·have hne:a≠b:=fun e=>by subst e;exact absurd hba (UInt8.lt_irrefl a)
    simp [Op.bytesLess,Lib.compareBytes,hab,hba,hne]
   ·have he:a=b:=UInt8.le_antisymm (UInt8.not_lt.1 hba) (UInt8.not_lt.1 hab);subst he
    have h3:(a :: x == a :: y)=(x == y):=by simp
    rw [h3,h2];simp only [Op.bytesLess,h1,Lib.compareBytes,if_neg hab];simp
theorem toL (s:ByteArray):s.toList=s.data.toList:=ByteArray.toList_eq s
theorem kD (a b:ByteArray):Op.bytesLess a.toList b.toList=decide (cmpS a b < 0)/\(a.toList == b.toList)=decide (cmpS a b=0):=by
 rw [toL,toL];exact zft _ _
end
end Go.Proofs.YtjffpimfngdggaaGreat
