/- ORh BCv LSame -/
import Derived.Test.YtjffpimfngdggaaGreatFf15
import Derived.Deep.CutRange
import Derived.Laws.StructEq
set_option maxRecDepth 100000
set_option maxHeartbeats 3200000
namespace Go.Proofs.YtjffpimfngdggaaGreat
section
open Go.RowKit
attribute [local go_sem ↓] zq zp zY zX x9 jv
attribute [local go_sem] zi zk xV qD xf
variable {w w' w2 W W' : World} {g : Nat}

theorem jh (d:Rn) (w:World):Calls Tryz.prog 45 #[RV d] w fun e w'=>e = .returned (.bool (okD d))/\Below w.heap.size w w':=by
 have HB:=hide (ze w (.cells (RC d) 48))
 have A0:=(zQ w 48 d).at
 have c0:=A0.c0;have c1:(w.alloc (.cells (RC d) 48)).cell? ⟨w.heap.size,1,none⟩=some (.int .i64 d.hi):=A0.c1;clear A0;obtain ⟨lo,hi⟩:=d;dsimp only at c0 c1 ⊢;by_cases h1:0 <= lo
 ·by_cases h2:lo < 16
  ·by_cases h3:1 <= hi
   ·have HF:Hid (okD ⟨lo,hi⟩=decide (hi <= 1000000000)):=by show _=_;unfold okD V.isR;simp [h1,h2,h3]
    go_enter Tryz.func45,Tryz.ntmps45;go_wp2_with fail;go_ret;exact ⟨zt HF.symm,HB.out⟩
   ·have HF:Hid (okD ⟨lo,hi⟩=false):=by show _=_;unfold okD V.isR;simp [h3]
    go_enter Tryz.func45,Tryz.ntmps45;go_wp2_with fail;go_ret;exact ⟨zt HF.symm,HB.out⟩
  ·have HF:Hid (okD ⟨lo,hi⟩=false):=by show _=_;unfold okD V.isR;simp [h2]
   go_enter Tryz.func45,Tryz.ntmps45;go_wp2_with fail;go_ret;exact ⟨zt HF.symm,HB.out⟩
 ·have HF:Hid (okD ⟨lo,hi⟩=false):=by show _=_;unfold okD V.isR;simp [h1]
  go_enter Tryz.func45,Tryz.ntmps45;go_wp2_with fail;go_ret;exact ⟨zt HF.symm,HB.out⟩
theorem zgh {ao:Option Addr} {m c:Nat} {Z:List Int} (h:V.Src W ao m c Z) (k:Nat) (hk:k < m):∃ ad,ao=some ad/\W.cell? (ad.add k)=some (.int .i64 (Z.getD k 0)):=by
 cases ao with
 | none=>have:=(h.2.1 rfl).1;omega
 | some ad=>exact ⟨ad,rfl,h.2.2 ad rfl k hk⟩
theorem xO (d:Rn) (c:Sn):fd d c=true↔c.rep=d.lo/\c.lo <= d.hi/\d.hi <= c.hi:=by unfold fd;simp
theorem vJ (p:Pv) (d:Rn) (w:World) (hS:am w p):Calls Tryz.prog 79 #[PV p,RV d] w fun e w'=>fP w w' e (cj p.P d):=by
 have b1:=ze w (.cells (PC p) 26);have x1:=zm w p;have s1:=World.size_alloc w (.cells (PC p) 26);obtain ⟨w1,cF⟩:∃ w1,w.alloc (.cells (PC p) 26)=w1:=⟨_,rfl⟩;obtain ⟨g1,cP⟩:∃ g1,w.heap.size=g1:=⟨_,rfl⟩;rw [cF] at b1 x1 s1;rw [cP] at x1 s1;have b2:=ze w1 (.cells (RC d) 48);have x2:=zQ w1 48 d;obtain ⟨w2,eH⟩:∃ w2,w1.alloc (.cells (RC d) 48)=w2:=⟨_,rfl⟩;rw [eH] at b2 x2;rw [s1] at x2;obtain ⟨g2,lV⟩:∃ g2,g1+1=g2:=⟨_,rfl⟩;rw [lV] at x2;have b12:=b1.trans (b2.mono b1.size);have HX:Hid (av w2 g1 p/\Box w2 g2 48 d/\am w2 p/\Below w.heap.size w w2):=⟨x1.below b2,x2,hS.below b12,b12⟩
 have ld:=zG x2.at
 clear b1 b2 b12 x1 x2 hS;go_enter Tryz.func79,Tryz.ntmps79;go_wp2_with fail;clear cF eH s1 cP ld;refine (jh d _).mono ?_;rintro e w3 ⟨rfl,b3⟩;have dh:Hid (av w3 g1 p/\Box w3 g2 48 d/\am w3 p/\Below w.heap.size w w3):=⟨HX.1.below b3,HX.2.1.below b3,HX.2.2.1.below b3,HX.2.2.2.trans (b3.mono HX.2.2.2.size)⟩;obtain ⟨bb,nM⟩:∃ bb,okD d=bb:=⟨_,rfl⟩;rw [nM];clear b3 HX lV
 cases bb with
 | false =>
  have HF:Hid (fP w w3 (.returned (.bool false)) (cj p.P d)):=⟨false,rfl,BIf.no (fun h=>by
   rw [qX] at h
   have:okD d=true:=by unfold okD V.isR;simp [h.1,h.2.1,h.2.2.1,h.2.2.2.1]
   rw [nM] at this
   cases this),dh.2.2.2⟩
  clear nM;go_wp2_with fail;go_ret;exact HF.out
 | true =>
  obtain ⟨y,num,rfl,hy,uw,CY⟩:∃ (y:Nat) (num:Int),d=⟨(y:Int),num⟩/\y < 16/\1 <= num/\num <= 1000000000:=by
   have h:=nM;unfold okD at h;simp only [Bool.and_eq_true,V.isR,decide_eq_true_eq] at h;obtain ⟨lo,hi⟩:=d;exact ⟨lo.toNat,hi,by simp only at h;congr 1;omega,by simp only at h;omega,h.2.1,h.2.2⟩
  clear nM
  have rT:Hid (cj p.P ⟨(y:Int),num⟩↔(num <= p.P.vec.getD y 0∨∃ c,c∈p.P.cloud/\fd ⟨(y:Int),num⟩ c=true)):=by
   show _↔_
   rw [qX];simp only [Int.toNat_natCast,xO];constructor
   ·rintro ⟨-,-,-,-,h⟩;exact h
   ·intro h;exact ⟨by omega,by omega,uw,CY,h⟩
  have aB:Hid (∀ W,Below w3.heap.size w3 W -> W.cell? ⟨g1,0,none⟩=some (.slice p.vo p.vn p.vc)/\W.cell? ⟨g2,0,none⟩=some (.int .i64 (y:Int))/\W.cell? ⟨g2,1,none⟩=some (.int .i64 num)):=fun W hW =>
   ⟨(dh.1.below hW).nums.1,(dh.2.1.below hW).at.c0,(dh.2.1.below hW).at.c1⟩
  have KB:p.P.vec.length=p.vn:=dh.2.2.1.vec.1;have Kf:Hid (∀ W,Below w3.heap.size w3 W -> ¬ num <= p.P.vec.getD y 0 -> True):=fun _ _ _=>trivial;have Fv:p.cn <= 5864062014805:=dh.2.2.1.cloud.big;by_cases KZ:y < p.vn
  ·have MK:(y:Int) < (p.vn:Int):=by omega
   obtain ⟨ad,hvo,q0⟩:=zgh dh.2.2.1.vec y KZ;obtain ⟨tv,G8⟩:∃ tv,p.P.vec.getD y 0=tv:=⟨_,rfl⟩;rw [G8] at q0;have E9:Hid (∀ W,Below w3.heap.size w3 W -> W.cell? ⟨g1,0,none⟩=some (.slice (some ad) p.vn p.vc)/\W.cell? ⟨g2,0,none⟩=some (.int .i64 (y:Int))/\W.cell? ⟨g2,1,none⟩=some (.int .i64 num)/\W.cell? (ad.add y)=some (.int .i64 tv)):=fun W hW=>⟨by rw [<- hvo];exact (aB.out W hW).1,(aB.out W hW).2.1,(aB.out W hW).2.2,(hW.cell (World.block_lt_of_cell? _ _ q0)).trans q0⟩;have KY:=hide G8;clear q0 G8 hvo;go_upto_region 3 with fail;refine wp_region_held_drew (S:=fun W=>W.cell? ⟨g1,0,none⟩=some (.slice (some ad) p.vn p.vc)/\W.cell? ⟨g2,0,none⟩=some (.int .i64 (y:Int))/\W.cell? ⟨g2,1,none⟩=some (.int .i64 num)/\W.cell? (ad.add y)=some (.int .i64 tv)) (by kernel_rfl) (E9.out _ (zf w3)) (fun hHeld=>?_)
   refine wU 0 ?_;refine wU 1 ?_;refine wU 2 ?_;refine wU 3 ?_;refine wU 4 ?_;refine wU 5 ?_;refine wU 6 ?_;refine wU 7 ?_;refine wU 8 ?_;refine wU 9 ?_;refine wU 10 ?_;refine wU 11 ?_;refine wU 12 ?_;refine wU 13 ?_;refine wU 14 ?_;refine wU 15 ?_;refine wU 16 ?_;refine wD ?_ _;clear hHeld;by_cases hnt:num <= tv
   ·have HF:Hid (fP w w3.drew (.returned (.bool true)) (cj p.P ⟨(y:Int),num⟩)):=⟨true,rfl,BIf.yes (rT.2 (.inl (by rw [KY.out];exact hnt))),dh.2.2.2.trans ((zf w3).mono dh.2.2.2.size)⟩;go_wp2_with fail;go_ret;exact HF.out
   ·have G9:Hid (¬ num <= p.P.vec.getD y 0):=by rw [KY.out];exact hnt
    have b4:Below w3.heap.size w3 w3.drew:=zf w3;obtain ⟨w4,pg⟩:∃ w4,w3.drew=w4:=⟨_,rfl⟩;rw [pg] at b4 ⊢;clear pg E9;clear KB;have eE:Hid (av w4 g1 p/\Box w4 g2 48 ⟨(y:Int),num⟩/\am w4 p/\Below w.heap.size w w4):=⟨dh.1.below b4,dh.2.1.below b4,dh.2.2.1.below b4,dh.2.2.2.trans (b4.mono dh.2.2.2.size)⟩;clear b4 dh aB Kf;go_wp2_with fail;go_loopw [5] (fun i wr=>∃ k:Nat,k <= p.cn/\i = .int .i64 (k:Int)/\Hid (Below w4.heap.size w4 wr/\∀ j,j < k -> fd ⟨(y:Int),num⟩ (p.P.cloud.getD j sn0)=false)) (fun i _=>p.cn - (intOf i).toNat)
    case atStart=>exact ⟨0,Nat.zero_le _,rfl,Below.refl _ _,fun j hj=>by omega⟩
    case round =>
     obtain ⟨k,hk,rfl,HI⟩:=hrel
     rename World=>wr
     have d1:=(eE.1.below HI.1).nums.2;by_cases ak:k < p.cn
     ·have aX:(k:Int) < (p.cn:Int):=by omega
      obtain ⟨ad,hco,A5⟩:=(eE.2.2.1.below HI.1).cloud.at k ak;rw [hco] at d1;obtain ⟨s,hs⟩:∃ s,p.P.cloud.getD k sn0=s:=⟨_,rfl⟩;rw [hs] at A5;have l5:=qk A5;obtain ⟨g6,ow⟩:∃ g6,wr.heap.size=g6:=⟨_,rfl⟩;obtain ⟨w6,me,X6,b6,-⟩:=iL wr s g6 ow;have X2:=(eE.2.1.below HI.1).below b6;have e0:=X2.at.c0;have e1:w6.cell? ⟨g2,1,none⟩=some (.int .i64 num):=X2.at.c1;dsimp only at e0
      obtain ⟨f0,f1,f2⟩:=X6.at
      have eC:=hide (HI.1.trans (b6.mono HI.1.size));have Hs:=hide hs
      have rO:Hid (s∈p.P.cloud):=by
       rw [<- hs,List.getD_eq_getElem?_getD,List.getElem?_eq_getElem (by rw [eE.2.2.1.cloud.len];exact ak)];exact List.getElem_mem _
      have fU:=hide (eE.2.2.2.trans (eC.mono eE.2.2.2.size));have pY:Hid (fd ⟨(y:Int),num⟩ s=true -> fP w w6 (.returned (.bool true)) (cj p.P ⟨(y:Int),num⟩)):=fun h=>⟨true,rfl,BIf.yes (rT.2 (.inr ⟨s,rO.out,h⟩)),fU.out⟩
      have ib:Hid (fd ⟨(y:Int),num⟩ s=false -> ∀ j,j < k+1 -> fd ⟨(y:Int),num⟩ (p.P.cloud.getD j sn0)=false):=fun h j hj=>by
       by_cases e:j=k
       ·rw [e,Hs.out];exact h
       ·exact HI.2 j (by omega)
      obtain ⟨rp,lo,hi⟩:=s;dsimp only at f0 f1 f2;have aK:=hide ak;clear A5 X6 b6 X2 hs ak hk hco;by_cases h1:rp=(y:Int)
      ·have Ho:(rp == (y:Int))=true:=by simpa using h1
       by_cases h2:lo <= num
       ·by_cases h3:num <= hi
        ·have HE:=hide (pY.out (by rw [xO];exact ⟨h1,h2,h3⟩));clear h1;go_wp2_with fail;clear me ow;go_ret;exact HE.out
        ·have HE:=hide (ib.out (by rw [<- Bool.not_eq_true,xO];rintro ⟨-,-,h⟩;exact h3 h));clear h1;go_wp2_with fail;clear me ow;go_roundw
         case rel=>exact ⟨k+1,aK.out,by simp,eC.out,HE.out⟩
         case measure=>simp [intOf];have:=aK.out;omega
       ·have HE:=hide (ib.out (by rw [<- Bool.not_eq_true,xO];rintro ⟨-,h,-⟩;exact h2 h));clear h1;go_wp2_with fail;clear me ow;go_roundw
        case rel=>exact ⟨k+1,aK.out,by simp,eC.out,HE.out⟩
        case measure=>simp [intOf];have:=aK.out;omega
      ·have Ho:(rp == (y:Int))=false:=by simpa using h1
       have HE:=hide (ib.out (by rw [<- Bool.not_eq_true,xO];rintro ⟨h,-,-⟩;exact h1 h));clear h1;go_wp2_with fail;clear me ow;go_roundw
       case rel=>exact ⟨k+1,aK.out,by simp,eC.out,HE.out⟩
       case measure=>simp [intOf];have:=aK.out;omega
     ·have aX:¬ (k:Int) < (p.cn:Int):=by omega
      have HF:Hid (fP w wr (.returned (.bool false)) (cj p.P ⟨(y:Int),num⟩)):=⟨false,rfl,BIf.no (fun h=>by
       rcases rT.1 h with h | ⟨c,hc,h⟩
       ·have:=G9.out;omega
       ·obtain ⟨j,hj,rfl⟩:=List.getElem_of_mem hc;have h2:=HI.2 j (by rw [eE.2.2.1.cloud.len] at hj;omega);rw [List.getD_eq_getElem?_getD,List.getElem?_eq_getElem hj] at h2;simp only [Option.getD_some] at h2;rw [h2] at h
        cases h),eE.2.2.2.trans (HI.1.mono eE.2.2.2.size)⟩
      go_wp2_with fail;go_ret;exact HF.out
  ·have MK:¬ (y:Int) < (p.vn:Int):=by omega
   go_upto_region 3 with fail;refine wp_region_held_drew (S:=fun W=>W.cell? ⟨g1,0,none⟩=some (.slice p.vo p.vn p.vc)/\W.cell? ⟨g2,0,none⟩=some (.int .i64 (y:Int))/\W.cell? ⟨g2,1,none⟩=some (.int .i64 num)) (by kernel_rfl) (aB.out _ (zf w3)) (fun hHeld=>?_);refine wU 0 ?_;refine wU 1 ?_;refine wU 2 ?_;refine wU 3 ?_;refine wU 4 ?_;refine wU 5 ?_;refine wU 6 ?_;refine wV 7 ?_;refine wV 8 ?_;refine wV 9 ?_;refine wV 10 ?_;refine wV 11 ?_;refine wV 12 ?_;refine wV 13 ?_;refine wV 14 ?_;refine wV 15 ?_;refine wU 16 ?_;refine wD ?_ _;clear hHeld
   have G9:Hid (¬ num <= p.P.vec.getD y 0):=by
    rw [List.getD_eq_getElem?_getD,List.getElem?_eq_none (by omega)];simp only [Option.getD_none]
    show ¬ _
    omega
   have b4:Below w3.heap.size w3 w3.drew:=zf w3;obtain ⟨w4,pg⟩:∃ w4,w3.drew=w4:=⟨_,rfl⟩;rw [pg] at b4 ⊢;clear pg;clear KB;have eE:Hid (av w4 g1 p/\Box w4 g2 48 ⟨(y:Int),num⟩/\am w4 p/\Below w.heap.size w w4):=⟨dh.1.below b4,dh.2.1.below b4,dh.2.2.1.below b4,dh.2.2.2.trans (b4.mono dh.2.2.2.size)⟩;clear b4 dh aB Kf;go_wp2_with fail;go_loopw [5] (fun i wr=>∃ k:Nat,k <= p.cn/\i = .int .i64 (k:Int)/\Hid (Below w4.heap.size w4 wr/\∀ j,j < k -> fd ⟨(y:Int),num⟩ (p.P.cloud.getD j sn0)=false)) (fun i _=>p.cn - (intOf i).toNat)
   case atStart=>exact ⟨0,Nat.zero_le _,rfl,Below.refl _ _,fun j hj=>by omega⟩
   case round =>
    obtain ⟨k,hk,rfl,HI⟩:=hrel
    rename World=>wr
    have d1:=(eE.1.below HI.1).nums.2;by_cases ak:k < p.cn
    ·have aX:(k:Int) < (p.cn:Int):=by omega
     obtain ⟨ad,hco,A5⟩:=(eE.2.2.1.below HI.1).cloud.at k ak;rw [hco] at d1;obtain ⟨s,hs⟩:∃ s,p.P.cloud.getD k sn0=s:=⟨_,rfl⟩;rw [hs] at A5;have l5:=qk A5;obtain ⟨g6,ow⟩:∃ g6,wr.heap.size=g6:=⟨_,rfl⟩;obtain ⟨w6,me,X6,b6,-⟩:=iL wr s g6 ow;have X2:=(eE.2.1.below HI.1).below b6;have e0:=X2.at.c0;have e1:w6.cell? ⟨g2,1,none⟩=some (.int .i64 num):=X2.at.c1;dsimp only at e0
     obtain ⟨f0,f1,f2⟩:=X6.at
     have eC:=hide (HI.1.trans (b6.mono HI.1.size));have Hs:=hide hs
     have rO:Hid (s∈p.P.cloud):=by
      rw [<- hs,List.getD_eq_getElem?_getD,List.getElem?_eq_getElem (by rw [eE.2.2.1.cloud.len];exact ak)];exact List.getElem_mem _
     have fU:=hide (eE.2.2.2.trans (eC.mono eE.2.2.2.size));have pY:Hid (fd ⟨(y:Int),num⟩ s=true -> fP w w6 (.returned (.bool true)) (cj p.P ⟨(y:Int),num⟩)):=fun h=>⟨true,rfl,BIf.yes (rT.2 (.inr ⟨s,rO.out,h⟩)),fU.out⟩
     have ib:Hid (fd ⟨(y:Int),num⟩ s=false -> ∀ j,j < k+1 -> fd ⟨(y:Int),num⟩ (p.P.cloud.getD j sn0)=false):=fun h j hj=>by
      by_cases e:j=k
      ·rw [e,Hs.out];exact h
      ·exact HI.2 j (by omega)
     obtain ⟨rp,lo,hi⟩:=s;dsimp only at f0 f1 f2;have aK:=hide ak;clear A5 X6 b6 X2 hs ak hk hco;by_cases h1:rp=(y:Int)
     ·have Ho:(rp == (y:Int))=true:=by simpa using h1
      by_cases h2:lo <= num
      ·by_cases h3:num <= hi
       ·have HE:=hide (pY.out (by rw [xO];exact ⟨h1,h2,h3⟩));clear h1;go_wp2_with fail;clear me ow;go_ret;exact HE.out
       ·have HE:=hide (ib.out (by rw [<- Bool.not_eq_true,xO];rintro ⟨-,-,h⟩;exact h3 h));clear h1;go_wp2_with fail;clear me ow;go_roundw
        case rel=>exact ⟨k+1,aK.out,by simp,eC.out,HE.out⟩
        case measure=>simp [intOf];have:=aK.out;omega
      ·have HE:=hide (ib.out (by rw [<- Bool.not_eq_true,xO];rintro ⟨-,h,-⟩;exact h2 h));clear h1;go_wp2_with fail;clear me ow;go_roundw
       case rel=>exact ⟨k+1,aK.out,by simp,eC.out,HE.out⟩
       case measure=>simp [intOf];have:=aK.out;omega
     ·have Ho:(rp == (y:Int))=false:=by simpa using h1
      have HE:=hide (ib.out (by rw [<- Bool.not_eq_true,xO];rintro ⟨h,-,-⟩;exact h1 h));clear h1;go_wp2_with fail;clear me ow;go_roundw
      case rel=>exact ⟨k+1,aK.out,by simp,eC.out,HE.out⟩
      case measure=>simp [intOf];have:=aK.out;omega
    ·have aX:¬ (k:Int) < (p.cn:Int):=by omega
     have HF:Hid (fP w wr (.returned (.bool false)) (cj p.P ⟨(y:Int),num⟩)):=⟨false,rfl,BIf.no (fun h=>by
      rcases rT.1 h with h | ⟨c,hc,h⟩
      ·have:=G9.out;omega
      ·obtain ⟨j,hj,rfl⟩:=List.getElem_of_mem hc;have h2:=HI.2 j (by rw [eE.2.2.1.cloud.len] at hj;omega);rw [List.getD_eq_getElem?_getD,List.getElem?_eq_getElem hj] at h2;simp only [Option.getD_some] at h2;rw [h2] at h
       cases h),eE.2.2.2.trans (HI.1.mono eE.2.2.2.size)⟩
     go_wp2_with fail;go_ret;exact HF.out
end
section
open Go.RowKit
attribute [local go_sem ↓] zq zp qf qe zY zX K.zy K.zx
attribute [local go_sem] zi zk zL zS K.zu K.zH qg
variable {w w' w2 W W' : World} {g : Nat}
def cv (r:Rc) (e:K.En):Bool:=(decide (r.s.size=0) || (r.s.toList == e.sku.toList)) && inB r.p.P e
theorem wDq {r:Rc} {e:K.En} {b:Bool} (h:(decide (r.s.size=0) || (r.s.toList == e.sku.toList))=true) (hb:BIf b (cj r.p.P ⟨e.rep,e.num⟩)):cv r e=b:=by
 unfold cv;rw [h,Bool.true_and];have h1:=ql r.p.P e;have h2:=hb.out
 cases hx:inB r.p.P e <;> cases b
 ·rfl
 ·rw [hx] at h1;exact absurd (h1.2 (h2.1 rfl)) (by simp)
 ·rw [hx] at h1;have:=h2.2 (h1.1 rfl);cases this
 ·rfl
theorem zdu {r:Rc} {e:K.En} (h0:¬ r.s.size=0) (h:(r.s.toList == e.sku.toList)=false):cv r e=false:=by
 unfold cv;rw [h,decide_eq_false h0];rfl
theorem kc (L:List Rc) (k:Nat) (h:k < L.length):L.take (k+1)=L.take k++[L.getD k rc0]:=by
 rw [List.take_succ_eq_append_getElem h];simp [List.getD,h]
theorem zec (r:Rc) (e:K.En) (w:World) (hR:cM w r):Calls Tryz.prog 134 #[ReV (mkR r),K.EV e] w fun x w'=>x = .returned (.bool (cv r e))/\Below w.heap.size w w':=by
 have b1:=ze w (.cells (ReC (mkR r)) 78);have b2:=ze (w.alloc (.cells (ReC (mkR r)) 78)) (.cells (K.EC e) 50);have X2:=K.zQ (w.alloc (.cells (ReC (mkR r)) 78)) 50 e;rw [World.size_alloc] at X2;have dT:=hide ((qi w (mkR r)).below b2);have eN:=hide X2;have al:=hide (b1.trans (b2.mono b1.size));have HS:=hide (hR.1.below al);clear b1 b2 X2 hR;obtain ⟨wk,aL⟩:∃ wk,(w.alloc (.cells (ReC (mkR r)) 78)).alloc (.cells (K.EC e) 50)=wk:=⟨_,rfl⟩;obtain ⟨G,hG⟩:∃ G,w.heap.size=G:=⟨_,rfl⟩;rw [aL] at dT eN al HS;rw [hG] at dT eN;have c0:=dT.sk;have c2:wk.cell? ⟨G+1,2,none⟩=some (.string e.sku):=eN.at.c2;have l1:=zj dT.past;have l2:=zG (yB eN);have key:Hid (Calls Tryz.prog 32 #[PV r.p,RV ⟨e.rep,e.num⟩] wk fun x w'=>fP wk w' x (cj r.p.P ⟨e.rep,e.num⟩)):=jI r.p ⟨e.rep,e.num⟩ wk HS.out
 by_cases h0:r.s.size=0
 ·have e0:=K.jc r.s h0
  have HC:Hid ((decide (r.s.size=0) || (r.s.toList == e.sku.toList))=true):=by show _=_;rw [decide_eq_true h0,Bool.true_or]
  clear h0;go_enter Tryz.func134,Tryz.ntmps134;go_wp2_with fail;clear aL;refine key.out.mono ?_;rintro x w3 ⟨b,rfl,hb,b3⟩;have HE:Hid (b=cv r e/\Below w.heap.size w w3):=⟨(wDq HC.out hb).symm,al.trans (b3.mono al.size)⟩;clear b3 hb l1 l2 c0 c2;go_wp2_with fail;go_ret;exact ⟨by rw [HE.1];rfl,HE.2⟩
 ·have e0:=K.jP r.s h0
  cases hs:(r.s.toList == e.sku.toList) with
  | true =>
   have HC:Hid ((decide (r.s.size=0) || (r.s.toList == e.sku.toList))=true):=by show _=_;rw [hs,Bool.or_true]
   clear h0;go_enter Tryz.func134,Tryz.ntmps134;go_wp2_with fail;clear aL;refine key.out.mono ?_;rintro x w3 ⟨b,rfl,hb,b3⟩;have HE:Hid (b=cv r e/\Below w.heap.size w w3):=⟨(wDq HC.out hb).symm,al.trans (b3.mono al.size)⟩;clear b3 hb l1 l2 c0 c2;go_wp2_with fail;go_ret;exact ⟨by rw [HE.1];rfl,HE.2⟩
  | false =>
   have HE:Hid (false=cv r e):=(zdu h0 hs).symm;clear h0 key;go_enter Tryz.func134,Tryz.ntmps134;go_wp2_with fail;go_ret;exact ⟨by rw [<- HE.out];rfl,al.out⟩
theorem zap (r:Rc) (e:K.En) (w:World) (hR:cM w r):Calls Tryz.prog 132 #[ReV (mkR r),K.EV e] w fun x w'=>x = .returned (.bool (cv r e))/\Below w.heap.size w w':=by
 have b1:=ze w (.cells (ReC (mkR r)) 78);have b2:=ze (w.alloc (.cells (ReC (mkR r)) 78)) (.cells (K.EC e) 50);have X2:=K.zQ (w.alloc (.cells (ReC (mkR r)) 78)) 50 e;rw [World.size_alloc] at X2;have dT:=hide ((qi w (mkR r)).below b2);have eN:=hide X2;have al:=hide (b1.trans (b2.mono b1.size));have HS:=hide (hR.1.below al);clear b1 b2 X2 hR;obtain ⟨wk,aL⟩:∃ wk,(w.alloc (.cells (ReC (mkR r)) 78)).alloc (.cells (K.EC e) 50)=wk:=⟨_,rfl⟩;obtain ⟨G,hG⟩:∃ G,w.heap.size=G:=⟨_,rfl⟩;rw [aL] at dT eN al HS;rw [hG] at dT eN;have c0:=dT.sk;have c2:wk.cell? ⟨G+1,2,none⟩=some (.string e.sku):=eN.at.c2;have l1:=zj dT.past;have l2:=zG (yB eN);have key:Hid (Calls Tryz.prog 79 #[PV r.p,RV ⟨e.rep,e.num⟩] wk fun x w'=>fP wk w' x (cj r.p.P ⟨e.rep,e.num⟩)):=vJ r.p ⟨e.rep,e.num⟩ wk HS.out
 by_cases h0:r.s.size=0
 ·have e0:=K.jc r.s h0
  have HC:Hid ((decide (r.s.size=0) || (r.s.toList == e.sku.toList))=true):=by show _=_;rw [decide_eq_true h0,Bool.true_or]
  clear h0;go_enter Tryz.func132,Tryz.ntmps132;go_wp2_with fail;clear aL;refine key.out.mono ?_;rintro x w3 ⟨b,rfl,hb,b3⟩;have HE:Hid (b=cv r e/\Below w.heap.size w w3):=⟨(wDq HC.out hb).symm,al.trans (b3.mono al.size)⟩;clear b3 hb l1 l2 c0 c2;go_wp2_with fail;go_ret;exact ⟨by rw [HE.1];rfl,HE.2⟩
 ·have e0:=K.jP r.s h0
  cases hs:(r.s.toList == e.sku.toList) with
  | true =>
   have HC:Hid ((decide (r.s.size=0) || (r.s.toList == e.sku.toList))=true):=by show _=_;rw [hs,Bool.or_true]
   clear h0;go_enter Tryz.func132,Tryz.ntmps132;go_wp2_with fail;clear aL;refine key.out.mono ?_;rintro x w3 ⟨b,rfl,hb,b3⟩;have HE:Hid (b=cv r e/\Below w.heap.size w w3):=⟨(wDq HC.out hb).symm,al.trans (b3.mono al.size)⟩;clear b3 hb l1 l2 c0 c2;go_wp2_with fail;go_ret;exact ⟨by rw [HE.1];rfl,HE.2⟩
  | false =>
   have HE:Hid (false=cv r e):=(zdu h0 hs).symm;clear h0 key;go_enter Tryz.func132,Tryz.ntmps132;go_wp2_with fail;go_ret;exact ⟨by rw [<- HE.out];rfl,al.out⟩
theorem yp (ao:Option Addr) (n cap:Nat) (L:List Rc) (e:K.En) (w:World) (hS:RcS w ao n cap L) :
  Calls Tryz.prog 80 #[.slice ao n cap,K.EV e] w fun x w'=>x = .returned (.int .i64 (L.countP (fun r=>cv r e)))/\Below w.heap.size w w':=by
 have b1:=ze w (.cells (K.EC e) 50);have x1:=K.zQ w 50 e;obtain ⟨w1,cF⟩:∃ w1,w.alloc (.cells (K.EC e) 50)=w1:=⟨_,rfl⟩;obtain ⟨g1,cP⟩:∃ g1,w.heap.size=g1:=⟨_,rfl⟩;rw [cF] at b1 x1;rw [cP] at x1;have HB:=hide b1;have HX:=hide x1;have HS:=hide (hS.below b1);have hn:=hS.big;have HL:Hid (L.length=n):=hS.len;clear b1 x1 hS;go_enter Tryz.func80,Tryz.ntmps80;go_wp2_with fail;clear cF cP;go_loopw [5,6] (fun c i wr=>∃ (k m:Nat),k <= n/\m <= k/\c = .int .i64 (m:Int)/\i = .int .i64 (k:Int)/\Hid ((L.take k).countP (fun r=>cv r e)=m)/\Hid (Below w1.heap.size w1 wr)) (fun _ i _=>n - (intOf i).toNat)
 case atStart=>exact ⟨0,0,Nat.zero_le _,Nat.le_refl _,rfl,rfl,rfl,Below.refl _ _⟩
 case round =>
  obtain ⟨k,m,hk,hm,rfl,rfl,HM,fl⟩:=hrel
  rename World=>wr
  by_cases ak:k < n
  ·have aX:(k:Int) < (n:Int):=by omega
   obtain ⟨ad,cU,A0⟩:=(HS.below fl).at k ak;subst cU;have HO:=hide ((HS.below fl).okAt k ak);have HT:=hide (kc L k (by rw [HL.out];exact ak));obtain ⟨r,Hr⟩:∃ r,Hid (L.getD k rc0=r):=⟨_,rfl⟩;rw [Hr.out] at HO HT A0;have r7:=hide A0
   have aB:Hid (∀ W,Below wr.heap.size wr W -> (dY (.pointer (some (ad.add (k * 3))))).run Tryz.prog W = .ok (ReV (mkR r)) W/\(K.dJ (.pointer (some ⟨g1,0,none⟩))).run Tryz.prog W = .ok (K.EV e) W):=fun W hW =>
    ⟨zC (r7.on hW),K.zB ((HX.below fl).below hW).at⟩
   have aK:=hide ak;clear A0 ak hk;go_upto_region 5 with fail;refine wp_region_held_drew (S:=fun W=>(dY (.pointer (some (ad.add (k * 3))))).run Tryz.prog W = .ok (ReV (mkR r)) W/\(K.dJ (.pointer (some ⟨g1,0,none⟩))).run Tryz.prog W = .ok (K.EV e) W) (by kernel_rfl) (aB.out _ (zf wr)) (fun hHeld=>?_);refine wU 0 ?_;refine wU 1 ?_;refine wU 2 ?_;refine wU 3 ?_;refine wU 4 ?_;refine wR 5 fun K hK=>?_;go_simp;go_wp2_with fail;refine (zap r e _ (HO.below (zf wr))).mono ?_;rintro x w6 ⟨rfl,b6⟩;have Gz:Below wr.heap.size wr w6:=(zf wr).trans b6;have aw:=wTr fl Gz;refine hK.out _ _ (aB.out _ Gz) (fun hHeld=>?_);clear hK K b6 Gz;refine wD ?_ _;clear hHeld
   cases hc:cv r e with
   | true =>
    have HN:Hid ((L.take (k+1)).countP (fun r=>cv r e)=m+1):=by show _=_;rw [HT.out,List.countP_append,HM.out];simp [hc]
    clear hc;go_wp2_with fail;go_roundw
    case rel=>exact ⟨k+1,m+1,aK.out,by omega,by go_num,by go_num,HN,aw⟩
    case measure=>simp [intOf];have:=aK.out;omega
   | false =>
    have HN:Hid ((L.take (k+1)).countP (fun r=>cv r e)=m):=by show _=_;rw [HT.out,List.countP_append,HM.out];simp [hc]
    clear hc;go_wp2_with fail;go_roundw
    case rel=>exact ⟨k+1,m,aK.out,by omega,rfl,by go_num,HN,aw⟩
    case measure=>simp [intOf];have:=aK.out;omega
  ·have aX:¬ (k:Int) < (n:Int):=by omega
   have HE:Hid ((m:Int)=(L.countP (fun r=>cv r e):Nat)):=by
    show _=_
    rw [<- HM.out,List.take_of_length_le (by have:=HL.out;omega)]
   have fk:=wTr HB fl.out;clear ak;go_wp2_with fail;go_ret;exact ⟨by rw [<- HE.out];rfl,fk.out⟩
end
end Go.Proofs.YtjffpimfngdggaaGreat
namespace Go.Proofs.YtjffpimfngdggaaGreat.K
open Go.RowKit
attribute [local go_sem ↓] zy zx
attribute [local go_sem] zJ zu
def eqE (x y:En):Bool:=x.rep == y.rep && x.num == y.num && x.sku.toList == y.sku.toList && x.qty == y.qty
theorem zc3 (a b c d:Int) (w:World):(Op.equalIn 9999 48 (.agg #[.int .i64 a,.int .i64 b]) (.agg #[.int .i64 c,.int .i64 d])).run Tryz.prog w = .ok (a == c && b == d) w:=by
 have u3:=Tryz.underlying3;have a3:=Tryz.isAgg3;have z3:=Tryz.sizeOf3
 have hS:Tryz.prog.underlying 48=some (.struct (Tryz.prog.fieldsOf 48)):=by kernel_rfl
 have hp:Tryz.prog.stoodInHeld 48=false:=by kernel_rfl
 rw [show (9999:Nat)=9998+1 from rfl,run_equalIn_struct w 9998 48 _ _ hS hp];simp only [Program.fieldsOf,Tryz.underlying48];go_simp;by_cases h1:a=c <;> by_cases h2:b=d <;> simp [h1,h2]
theorem qB (x y:En) (w:World):(Op.equalIn 10000 50 (.agg (EC x)) (.agg (EC y))).run Tryz.prog w = .ok (eqE x y) w:=by
 have u3:=Tryz.underlying3;have a3:=Tryz.isAgg3;have z3:=Tryz.sizeOf3;have u9:=Tryz.underlying9;have a9:=Tryz.isAgg9;have z9:=Tryz.sizeOf9;have a26:=Tryz.isAgg48;have z26:=Tryz.sizeOf48
 have hS:Tryz.prog.underlying 50=some (.struct (Tryz.prog.fieldsOf 50)):=by kernel_rfl
 have hp:Tryz.prog.stoodInHeld 50=false:=by kernel_rfl
 obtain ⟨r,m,s,q⟩:=x;obtain ⟨r',m',s',q'⟩:=y;have Gm:=zc3 r m r' m'
 show (Op.equalIn 10000 50 (.agg #[.int .i64 r,.int .i64 m,.string s,.int .i64 q]) (.agg #[.int .i64 r',.int .i64 m',.string s',.int .i64 q'])).run Tryz.prog w = .ok (r == r' && m == m' && s.toList == s'.toList && q == q') w
 rw [show (10000:Nat)=9999+1 from rfl,run_equalIn_struct w 9999 50 _ _ hS hp];simp only [Program.fieldsOf,Tryz.underlying50];have h9:∀ w,(Op.equalIn 9999 9 (.string s) (.string s')).run Tryz.prog w = .ok (s.toList == s'.toList) w:=fun w=>run_equalIn_string w 9998 9 s s' Tryz.underlying9;have h3:∀ w,(Op.equalIn 9999 3 (.int .i64 q) (.int .i64 q')).run Tryz.prog w = .ok (q == q') w:=fun w=>run_equalIn_int w 9998 3 .i64 .i64 q q' Tryz.underlying3;obtain ⟨D,hD⟩:∃ D,9999=D:=⟨9999,rfl⟩;rw [hD] at Gm h9 h3 ⊢;go_simp;by_cases e1:r=r'
 ·by_cases e2:m=m'
  ·by_cases e3:s.toList=s'.toList
   ·by_cases e4:q=q'
    ·simp [e1,e2,e3,e4]
    ·simp [e1,e2,e3,e4]
   ·simp [e1,e2,e3]
  ·simp [e1,e2]
 ·simp [e1]
theorem vl (x:En):eqE x x=true:=by simp [eqE]
attribute [local go_sem ↓] qB
end Go.Proofs.YtjffpimfngdggaaGreat.K
