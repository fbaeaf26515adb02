/- YGe -/
import Derived.Test.YtcilfelgpmfehaaGreatBj37
set_option maxRecDepth 100000
set_option maxHeartbeats 3200000
namespace Go.Proofs.YtcilfelgpmfehaaGreat
open Go.RowKit
attribute [local go_sem ↓] zl zk qg qf qX xu
attribute [local go_sem] zf zh qS qi qy
variable {w w' w2 W W' : World} {g : Nat}
theorem zb9 (d:Rn) (w:World):Calls Tryz.prog 54 #[RV d] w fun e w'=>e = .returned (.bool (okD d))/\Below w.heap.size w w':=K.zaf ⟨d.lo,d.hi,⟨#[]⟩,0⟩ w
theorem j0 (p:Pv) (d:Rn) (w:World) (hS:ak w p):Calls Tryz.prog 39 #[PV p,RV d] w fun e w'=>dr w w' e (cu p.P d):=by
 have b1:=ze w (.cells (PC p) 26);have x1:=zq w p;have s1:=World.size_alloc w (.cells (PC p) 26);obtain ⟨w1,dH⟩:∃ w1,w.alloc (.cells (PC p) 26)=w1:=⟨_,rfl⟩;obtain ⟨g1,dx⟩:∃ g1,w.heap.size=g1:=⟨_,rfl⟩;rw [dH] at b1 x1 s1;rw [dx] at x1 s1;have b2:=ze w1 (.cells (RC d) 64);have x2:=qx w1 64 d;obtain ⟨w2,eZ⟩:∃ w2,w1.alloc (.cells (RC d) 64)=w2:=⟨_,rfl⟩;rw [eZ] at b2 x2;rw [s1] at x2;obtain ⟨g2,gO⟩:∃ g2,g1+1=g2:=⟨_,rfl⟩;rw [gO] at x2;have b12:=b1.trans (b2.mono b1.size);have HX:Hid (aE w2 g1 p/\Box w2 g2 64 d/\ak w2 p/\Below w.heap.size w w2):=⟨x1.below b2,x2,hS.below b12,b12⟩
 have ld:=qw x2.at
 clear b1 b2 b12 x1 x2 hS;go_enter Tryz.func39,Tryz.ntmps39;go_wp2_with fail;clear dH eZ s1 dx ld;refine (zb9 d _).mono ?_;rintro e w3 ⟨rfl,b3⟩;have ex:Hid (aE w3 g1 p/\Box w3 g2 64 d/\ak w3 p/\Below w.heap.size w w3):=⟨HX.out.1.below b3,HX.out.2.1.below b3,HX.out.2.2.1.below b3,HX.out.2.2.2.trans (b3.mono HX.out.2.2.2.size)⟩;obtain ⟨bb,mC⟩:∃ bb,okD d=bb:=⟨_,rfl⟩;rw [mC];clear b3 HX gO
 cases bb with
 | false =>
  have HF:Hid (dr w w3 (.returned (.bool false)) (cu p.P d)):=⟨false,rfl,BIf.no (fun h=>by
   rw [qB] at h
   have:okD d=true:=by unfold okD V.isR;simp [h.1,h.2.1,h.2.2.1,h.2.2.2.1]
   rw [mC] at this
   cases this),ex.out.2.2.2⟩
  clear mC;go_wp2_with fail;go_ret;exact HF.out
 | true =>
  obtain ⟨y,num,rfl,hy,se,AG⟩:∃ (y:Nat) (num:Int),d=⟨(y:Int),num⟩/\y < 16/\1 <= num/\num <= 1000000000:=by
   have h:=mC;unfold okD at h;simp only [Bool.and_eq_true,V.isR,decide_eq_true_eq] at h;obtain ⟨lo,hi⟩:=d;exact ⟨lo.toNat,hi,by simp only at h;congr 1;omega,by simp only at h;omega,h.2.1,h.2.2⟩
  clear mC
  have oD:Hid (cu p.P ⟨(y:Int),num⟩↔(num <= p.P.vec.getD y 0∨∃ c,c∈p.P.cloud/\dT ⟨(y:Int),num⟩ c=true)):=by
   show _↔_
   rw [qB];simp only [Int.toNat_natCast,xx];constructor
   ·rintro ⟨-,-,-,-,h⟩;exact h
   ·intro h;exact ⟨by omega,by omega,se,AG,h⟩
  have aw:Hid (∀ W,Below w3.heap.size w3 W -> W.cell? ⟨g1,0,none⟩=some (.slice p.vo p.vn p.vc)/\W.cell? ⟨g2,0,none⟩=some (.int .i64 (y:Int))/\W.cell? ⟨g2,1,none⟩=some (.int .i64 num)):=fun W hW =>
   ⟨(ex.out.1.below hW).nums.1,(ex.out.2.1.below hW).at.c0,(ex.out.2.1.below hW).at.c1⟩
  have pW:p.P.vec.length=p.vn:=ex.out.2.2.1.vec.1;have Ku:Hid (∀ W,Below w3.heap.size w3 W -> ¬ num <= p.P.vec.getD y 0 -> True):=fun _ _ _=>trivial;have NG:p.cn <= 5864062014805:=ex.out.2.2.1.cloud.big;by_cases hyv:y < p.vn
  ·have Lg:(y:Int) < (p.vn:Int):=by omega
   obtain ⟨ad,hvo,q0⟩:=zdY ex.out.2.2.1.vec y hyv;obtain ⟨tv,Fj⟩:∃ tv,p.P.vec.getD y 0=tv:=⟨_,rfl⟩;rw [Fj] at q0;have EK:Hid (∀ W,Below w3.heap.size w3 W -> W.cell? ⟨g1,0,none⟩=some (.slice (some ad) p.vn p.vc)/\W.cell? ⟨g2,0,none⟩=some (.int .i64 (y:Int))/\W.cell? ⟨g2,1,none⟩=some (.int .i64 num)/\W.cell? (ad.add y)=some (.int .i64 tv)):=fun W hW=>⟨by rw [<- hvo];exact (aw.out W hW).1,(aw.out W hW).2.1,(aw.out W hW).2.2,(hW.cell (World.block_lt_of_cell? _ _ q0)).trans q0⟩;have AB:=hide Fj;clear q0 Fj hvo;go_upto_region 3 with fail;refine wp_region_held_drew (S:=fun W=>W.cell? ⟨g1,0,none⟩=some (.slice (some ad) p.vn p.vc)/\W.cell? ⟨g2,0,none⟩=some (.int .i64 (y:Int))/\W.cell? ⟨g2,1,none⟩=some (.int .i64 num)/\W.cell? (ad.add y)=some (.int .i64 tv)) (by kernel_rfl) (EK.out _ (zd w3)) (fun hHeld=>?_)
   refine wU 0 ?_;refine wU 1 ?_;refine wU 2 ?_;refine wU 3 ?_;refine wU 4 ?_;refine wU 5 ?_;refine wU 6 ?_;refine wU 7 ?_;refine wU 8 ?_;refine wU 9 ?_;refine wU 10 ?_;refine wU 11 ?_;refine wU 12 ?_;refine wU 13 ?_;refine wU 14 ?_;refine wU 15 ?_;refine wU 16 ?_;refine wD ?_ _;clear hHeld;by_cases hnt:num <= tv
   ·have HF:Hid (dr w w3.drew (.returned (.bool true)) (cu p.P ⟨(y:Int),num⟩)):=⟨true,rfl,BIf.yes (oD.out.2 (.inl (by rw [AB.out];exact hnt))),ex.out.2.2.2.trans ((zd w3).mono ex.out.2.2.2.size)⟩;go_wp2_with fail;go_ret;exact HF.out
   ·have FI:Hid (¬ num <= p.P.vec.getD y 0):=by rw [AB.out];exact hnt
    have b4:Below w3.heap.size w3 w3.drew:=zd w3;obtain ⟨w4,nW⟩:∃ w4,w3.drew=w4:=⟨_,rfl⟩;rw [nW] at b4 ⊢;clear nW EK;clear pW;have eC:Hid (aE w4 g1 p/\Box w4 g2 64 ⟨(y:Int),num⟩/\ak w4 p/\Below w.heap.size w w4):=⟨ex.out.1.below b4,ex.out.2.1.below b4,ex.out.2.2.1.below b4,ex.out.2.2.2.trans (b4.mono ex.out.2.2.2.size)⟩;clear b4 ex aw Ku;have d0:=eC.out.1.nums.2;go_wp2_with fail;clear d0;go_loopw [30] (fun i wr=>∃ k:Nat,k <= p.cn/\i = .int .i64 (k:Int)/\Hid (Below w4.heap.size w4 wr/\∀ j,j < k -> dT ⟨(y:Int),num⟩ (p.P.cloud.getD j sn0)=false)) (fun i _=>p.cn - (intOf i).toNat)
    case atStart=>exact ⟨0,Nat.zero_le _,rfl,Below.refl _ _,fun j hj=>by omega⟩
    case round =>
     obtain ⟨k,hk,rfl,HI⟩:=hrel
     rename World=>wr
     by_cases aq:k < p.cn
     ·have dl:(k:Int) < (p.cn:Int):=by omega
      obtain ⟨ad,hco,A5⟩:=(eC.out.2.2.1.below HI.out.1).cloud.at k aq;rw [hco];obtain ⟨s,hs⟩:∃ s,p.P.cloud.getD k sn0=s:=⟨_,rfl⟩;rw [hs] at A5;have l5:=zS A5;obtain ⟨g6,lK⟩:∃ g6,wr.heap.size=g6:=⟨_,rfl⟩;obtain ⟨w6,i7,X6,b6,-⟩:=fI wr s g6 lK;have X2:=(eC.out.2.1.below HI.out.1).below b6;have e0:=X2.at.c0;have e1:w6.cell? ⟨g2,1,none⟩=some (.int .i64 num):=X2.at.c1;dsimp only at e0
      obtain ⟨f0,f1,f2⟩:=X6.at
      have gJ:=hide (HI.out.1.trans (b6.mono HI.out.1.size));have Hs:=hide hs
      have lO:Hid (s∈p.P.cloud):=by
       rw [<- hs,List.getD_eq_getElem?_getD,List.getElem?_eq_getElem (by rw [eC.out.2.2.1.cloud.len];exact aq)];exact List.getElem_mem _
      have eK:=hide (eC.out.2.2.2.trans (gJ.out.mono eC.out.2.2.2.size));have oa:Hid (dT ⟨(y:Int),num⟩ s=true -> dr w w6 (.returned (.bool true)) (cu p.P ⟨(y:Int),num⟩)):=fun h=>⟨true,rfl,BIf.yes (oD.out.2 (.inr ⟨s,lO.out,h⟩)),eK.out⟩
      have lE:Hid (dT ⟨(y:Int),num⟩ s=false -> ∀ j,j < k+1 -> dT ⟨(y:Int),num⟩ (p.P.cloud.getD j sn0)=false):=fun h j hj=>by
       by_cases e:j=k
       ·rw [e,Hs.out];exact h
       ·exact HI.out.2 j (by omega)
      obtain ⟨rp,lo,hi⟩:=s;dsimp only at f0 f1 f2;have cj:=hide aq;clear A5 X6 b6 X2 hs aq hk hco;by_cases h1:rp=(y:Int)
      ·have oO:(rp == (y:Int))=true:=by simpa using h1
       by_cases h2:lo <= num
       ·by_cases h3:num <= hi
        ·have HE:=hide (oa.out (by rw [xx];exact ⟨h1,h2,h3⟩));clear h1;go_wp2_with fail;clear i7 lK;go_ret;exact HE.out
        ·have HE:=hide (lE.out (by rw [<- Bool.not_eq_true,xx];rintro ⟨-,-,h⟩;exact h3 h));clear h1;go_wp2_with fail;clear i7 lK;go_roundw
         case rel=>exact ⟨k+1,cj.out,by simp,gJ.out,HE.out⟩
         case measure=>simp [intOf];have:=cj.out;omega
       ·have HE:=hide (lE.out (by rw [<- Bool.not_eq_true,xx];rintro ⟨-,h,-⟩;exact h2 h));clear h1;go_wp2_with fail;clear i7 lK;go_roundw
        case rel=>exact ⟨k+1,cj.out,by simp,gJ.out,HE.out⟩
        case measure=>simp [intOf];have:=cj.out;omega
      ·have oO:(rp == (y:Int))=false:=by simpa using h1
       have HE:=hide (lE.out (by rw [<- Bool.not_eq_true,xx];rintro ⟨h,-,-⟩;exact h1 h));clear h1;go_wp2_with fail;clear i7 lK;go_roundw
       case rel=>exact ⟨k+1,cj.out,by simp,gJ.out,HE.out⟩
       case measure=>simp [intOf];have:=cj.out;omega
     ·have dl:¬ (k:Int) < (p.cn:Int):=by omega
      have HF:Hid (dr w wr (.returned (.bool false)) (cu p.P ⟨(y:Int),num⟩)):=⟨false,rfl,BIf.no (fun h=>by
       rcases oD.out.1 h with h | ⟨c,hc,h⟩
       ·have:=FI.out;omega
       ·obtain ⟨j,hj,rfl⟩:=List.getElem_of_mem hc;have h2:=HI.out.2 j (by rw [eC.out.2.2.1.cloud.len] at hj;omega);rw [List.getD_eq_getElem?_getD,List.getElem?_eq_getElem hj] at h2;simp only [Option.getD_some] at h2;rw [h2] at h
        cases h),eC.out.2.2.2.trans (HI.out.1.mono eC.out.2.2.2.size)⟩
      go_wp2_with fail;go_ret;exact HF.out
  ·have Lg:¬ (y:Int) < (p.vn:Int):=by omega
   go_upto_region 3 with fail;refine wp_region_held_drew (S:=fun W=>W.cell? ⟨g1,0,none⟩=some (.slice p.vo p.vn p.vc)/\W.cell? ⟨g2,0,none⟩=some (.int .i64 (y:Int))/\W.cell? ⟨g2,1,none⟩=some (.int .i64 num)) (by kernel_rfl) (aw.out _ (zd w3)) (fun hHeld=>?_);refine wU 0 ?_;refine wU 1 ?_;refine wU 2 ?_;refine wU 3 ?_;refine wU 4 ?_;refine wU 5 ?_;refine wU 6 ?_;refine wV 7 ?_;refine wV 8 ?_;refine wV 9 ?_;refine wV 10 ?_;refine wV 11 ?_;refine wV 12 ?_;refine wV 13 ?_;refine wV 14 ?_;refine wV 15 ?_;refine wU 16 ?_;refine wD ?_ _;clear hHeld
   have FI:Hid (¬ num <= p.P.vec.getD y 0):=by
    rw [List.getD_eq_getElem?_getD,List.getElem?_eq_none (by omega)];simp only [Option.getD_none]
    show ¬ _
    omega
   have b4:Below w3.heap.size w3 w3.drew:=zd w3;obtain ⟨w4,nW⟩:∃ w4,w3.drew=w4:=⟨_,rfl⟩;rw [nW] at b4 ⊢;clear nW;clear pW;have eC:Hid (aE w4 g1 p/\Box w4 g2 64 ⟨(y:Int),num⟩/\ak w4 p/\Below w.heap.size w w4):=⟨ex.out.1.below b4,ex.out.2.1.below b4,ex.out.2.2.1.below b4,ex.out.2.2.2.trans (b4.mono ex.out.2.2.2.size)⟩;clear b4 ex aw Ku;have d0:=eC.out.1.nums.2;go_wp2_with fail;clear d0;go_loopw [30] (fun i wr=>∃ k:Nat,k <= p.cn/\i = .int .i64 (k:Int)/\Hid (Below w4.heap.size w4 wr/\∀ j,j < k -> dT ⟨(y:Int),num⟩ (p.P.cloud.getD j sn0)=false)) (fun i _=>p.cn - (intOf i).toNat)
   case atStart=>exact ⟨0,Nat.zero_le _,rfl,Below.refl _ _,fun j hj=>by omega⟩
   case round =>
    obtain ⟨k,hk,rfl,HI⟩:=hrel
    rename World=>wr
    by_cases aq:k < p.cn
    ·have dl:(k:Int) < (p.cn:Int):=by omega
     obtain ⟨ad,hco,A5⟩:=(eC.out.2.2.1.below HI.out.1).cloud.at k aq;rw [hco];obtain ⟨s,hs⟩:∃ s,p.P.cloud.getD k sn0=s:=⟨_,rfl⟩;rw [hs] at A5;have l5:=zS A5;obtain ⟨g6,lK⟩:∃ g6,wr.heap.size=g6:=⟨_,rfl⟩;obtain ⟨w6,i7,X6,b6,-⟩:=fI wr s g6 lK;have X2:=(eC.out.2.1.below HI.out.1).below b6;have e0:=X2.at.c0;have e1:w6.cell? ⟨g2,1,none⟩=some (.int .i64 num):=X2.at.c1;dsimp only at e0
     obtain ⟨f0,f1,f2⟩:=X6.at
     have gJ:=hide (HI.out.1.trans (b6.mono HI.out.1.size));have Hs:=hide hs
     have lO:Hid (s∈p.P.cloud):=by
      rw [<- hs,List.getD_eq_getElem?_getD,List.getElem?_eq_getElem (by rw [eC.out.2.2.1.cloud.len];exact aq)];exact List.getElem_mem _
     have eK:=hide (eC.out.2.2.2.trans (gJ.out.mono eC.out.2.2.2.size));have oa:Hid (dT ⟨(y:Int),num⟩ s=true -> dr w w6 (.returned (.bool true)) (cu p.P ⟨(y:Int),num⟩)):=fun h=>⟨true,rfl,BIf.yes (oD.out.2 (.inr ⟨s,lO.out,h⟩)),eK.out⟩
     have lE:Hid (dT ⟨(y:Int),num⟩ s=false -> ∀ j,j < k+1 -> dT ⟨(y:Int),num⟩ (p.P.cloud.getD j sn0)=false):=fun h j hj=>by
      by_cases e:j=k
      ·rw [e,Hs.out];exact h
      ·exact HI.out.2 j (by omega)
     obtain ⟨rp,lo,hi⟩:=s;dsimp only at f0 f1 f2;have cj:=hide aq;clear A5 X6 b6 X2 hs aq hk hco;by_cases h1:rp=(y:Int)
     ·have oO:(rp == (y:Int))=true:=by simpa using h1
      by_cases h2:lo <= num
      ·by_cases h3:num <= hi
       ·have HE:=hide (oa.out (by rw [xx];exact ⟨h1,h2,h3⟩));clear h1;go_wp2_with fail;clear i7 lK;go_ret;exact HE.out
       ·have HE:=hide (lE.out (by rw [<- Bool.not_eq_true,xx];rintro ⟨-,-,h⟩;exact h3 h));clear h1;go_wp2_with fail;clear i7 lK;go_roundw
        case rel=>exact ⟨k+1,cj.out,by simp,gJ.out,HE.out⟩
        case measure=>simp [intOf];have:=cj.out;omega
      ·have HE:=hide (lE.out (by rw [<- Bool.not_eq_true,xx];rintro ⟨-,h,-⟩;exact h2 h));clear h1;go_wp2_with fail;clear i7 lK;go_roundw
       case rel=>exact ⟨k+1,cj.out,by simp,gJ.out,HE.out⟩
       case measure=>simp [intOf];have:=cj.out;omega
     ·have oO:(rp == (y:Int))=false:=by simpa using h1
      have HE:=hide (lE.out (by rw [<- Bool.not_eq_true,xx];rintro ⟨h,-,-⟩;exact h1 h));clear h1;go_wp2_with fail;clear i7 lK;go_roundw
      case rel=>exact ⟨k+1,cj.out,by simp,gJ.out,HE.out⟩
      case measure=>simp [intOf];have:=cj.out;omega
    ·have dl:¬ (k:Int) < (p.cn:Int):=by omega
     have HF:Hid (dr w wr (.returned (.bool false)) (cu p.P ⟨(y:Int),num⟩)):=⟨false,rfl,BIf.no (fun h=>by
      rcases oD.out.1 h with h | ⟨c,hc,h⟩
      ·have:=FI.out;omega
      ·obtain ⟨j,hj,rfl⟩:=List.getElem_of_mem hc;have h2:=HI.out.2 j (by rw [eC.out.2.2.1.cloud.len] at hj;omega);rw [List.getD_eq_getElem?_getD,List.getElem?_eq_getElem hj] at h2;simp only [Option.getD_some] at h2;rw [h2] at h
       cases h),eC.out.2.2.2.trans (HI.out.1.mono eC.out.2.2.2.size)⟩
     go_wp2_with fail;go_ret;exact HF.out
end Go.Proofs.YtcilfelgpmfehaaGreat
