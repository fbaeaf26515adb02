/- ORh BCv LSame BSm TUa BMp -/
import Derived.Test.YtaphmhbmhcahaabGreatTk
import Derived.Test.YtaphmhbmhcahaabGreatSn17
import Derived.Deep.CutRange
import Derived.Test.YtaphmhbmhcahaabGreatSn13
import Derived.Test.YtaphmhbmhcahaabGreatSn16
import Derived.Test.YtaphmhbmhcahaabGreatSn12
import Derived.Laws.StructEq
import Derived.Test.YtaphmhbmhcahaabGreatSn09
import Derived.Sort.KeysCollected
import Derived.Maps.Ext
import Derived.Maps.OwnOps
import Derived.StringKeys
set_option maxRecDepth 100000
set_option maxHeartbeats 3200000
namespace Go.Proofs.YtaphmhbmhcahaabGreat
section
open Go.RowKit
attribute [local go_sem ↓] ldP_eq stP_eq ldD_eq stD_eq ldS_eq stS_eq
attribute [local go_sem] cells_PV PC_size zero_SC cells_SV SC_size
variable {w w' w2 W W' : World} {g : Nat}

theorem refIsDot_any (d:Rn) (w:World):Calls Tryz.prog 87 #[RV d] w fun e w'=>e = .returned (.bool (okD d))/\Below w.heap.size w w':=by
 have HB:=hide (below_new w (.cells (RC d) 37))
 have A0:=(box_new w 37 d).at
 have c0:=A0.c0;have c1:(w.alloc (.cells (RC d) 37)).cell? ⟨w.heap.size,1,none⟩=some (.int .i64 d.hi):=A0.c1;clear A0;obtain ⟨lo,hi⟩:=d;dsimp only at c0 c1 ⊢;by_cases h1:0 <= lo
 ·by_cases h2:lo < 16
  ·by_cases h3:1 <= hi
   ·have HF:Hid (okD ⟨lo,hi⟩=decide (hi <= 1000000000)):=by show _=_;unfold okD V.isR;simp [h1,h2,h3]
    go_enter Tryz.func87,Tryz.ntmps87;go_wp2_with fail;go_ret;exact ⟨ret_bool HF.out.symm,HB.out⟩
   ·have HF:Hid (okD ⟨lo,hi⟩=false):=by show _=_;unfold okD V.isR;simp [h3]
    go_enter Tryz.func87,Tryz.ntmps87;go_wp2_with fail;go_ret;exact ⟨ret_bool HF.out.symm,HB.out⟩
  ·have HF:Hid (okD ⟨lo,hi⟩=false):=by show _=_;unfold okD V.isR;simp [h2]
   go_enter Tryz.func87,Tryz.ntmps87;go_wp2_with fail;go_ret;exact ⟨ret_bool HF.out.symm,HB.out⟩
 ·have HF:Hid (okD ⟨lo,hi⟩=false):=by show _=_;unfold okD V.isR;simp [h1]
  go_enter Tryz.func87,Tryz.ntmps87;go_wp2_with fail;go_ret;exact ⟨ret_bool HF.out.symm,HB.out⟩
theorem vsrc_at1 {ao:Option Addr} {m c:Nat} {Z:List Int} (h:V.Src W ao m c Z) (k:Nat) (hk:k < m):∃ ad,ao=some ad/\W.cell? (ad.add k)=some (.int .i64 (Z.getD k 0)):=by
 cases ao with
 | none=>have:=(h.2.1 rfl).1;omega
 | some ad=>exact ⟨ad,rfl,h.2.2 ad rfl k hk⟩
theorem inSp_iff (d:Rn) (c:Sn):inSp d c=true↔c.rep=d.lo/\c.lo <= d.hi/\d.hi <= c.hi:=by unfold inSp;simp
theorem refHas_any (p:Pv) (d:Rn) (w:World) (hS:PSrc w p):Calls Tryz.prog 52 #[PV p,RV d] w fun e w'=>GivB w w' e (dotIn p.P d):=by
 have b1:=below_new w (.cells (PC p) 26);have x1:=pbox_new w p;have s1:=World.size_alloc w (.cells (PC p) 26);obtain ⟨w1,hw1⟩:∃ w1,w.alloc (.cells (PC p) 26)=w1:=⟨_,rfl⟩;obtain ⟨g1,hg1⟩:∃ g1,w.heap.size=g1:=⟨_,rfl⟩;rw [hw1] at b1 x1 s1;rw [hg1] at x1 s1;have b2:=below_new w1 (.cells (RC d) 37);have x2:=box_new w1 37 d;obtain ⟨w2,hw2⟩:∃ w2,w1.alloc (.cells (RC d) 37)=w2:=⟨_,rfl⟩;rw [hw2] at b2 x2;rw [s1] at x2;obtain ⟨g2,hg2⟩:∃ g2,g1+1=g2:=⟨_,rfl⟩;rw [hg2] at x2;have b12:=b1.trans (b2.mono b1.size);have HX:Hid (PBox w2 g1 p/\Box w2 g2 37 d/\PSrc w2 p/\Below w.heap.size w w2):=⟨x1.below b2,x2,hS.below b12,b12⟩
 have ld:=run_ldD x2.at
 clear b1 b2 b12 x1 x2 hS;go_enter Tryz.func52,Tryz.ntmps52;go_wp2_with fail;clear hw1 hw2 s1 hg1 ld;refine (refIsDot_any d _).mono ?_;rintro e w3 ⟨rfl,b3⟩;have HX3:Hid (PBox w3 g1 p/\Box w3 g2 37 d/\PSrc w3 p/\Below w.heap.size w w3):=⟨HX.out.1.below b3,HX.out.2.1.below b3,HX.out.2.2.1.below b3,HX.out.2.2.2.trans (b3.mono HX.out.2.2.2.size)⟩;obtain ⟨bb,hbb⟩:∃ bb,okD d=bb:=⟨_,rfl⟩;rw [hbb];clear b3 HX hg2
 cases bb with
 | false =>
  have HF:Hid (GivB w w3 (.returned (.bool false)) (dotIn p.P d)):=⟨false,rfl,BIf.no (fun h=>by
   rw [dotIn_iff] at h
   have:okD d=true:=by unfold okD V.isR;simp [h.1,h.2.1,h.2.2.1,h.2.2.2.1]
   rw [hbb] at this
   cases this),HX3.out.2.2.2⟩
  clear hbb;go_wp2_with fail;go_ret;exact HF.out
 | true =>
  obtain ⟨y,num,rfl,hy,hn1,hn2⟩:∃ (y:Nat) (num:Int),d=⟨(y:Int),num⟩/\y < 16/\1 <= num/\num <= 1000000000:=by
   have h:=hbb;unfold okD at h;simp only [Bool.and_eq_true,V.isR,decide_eq_true_eq] at h;obtain ⟨lo,hi⟩:=d;exact ⟨lo.toNat,hi,by simp only at h;congr 1;omega,by simp only at h;omega,h.2.1,h.2.2⟩
  clear hbb
  have HIff:Hid (dotIn p.P ⟨(y:Int),num⟩↔(num <= p.P.vec.getD y 0∨∃ c,c∈p.P.cloud/\inSp ⟨(y:Int),num⟩ c=true)):=by
   show _↔_
   rw [dotIn_iff];simp only [Int.toNat_natCast,inSp_iff];constructor
   ·rintro ⟨-,-,-,-,h⟩;exact h
   ·intro h;exact ⟨by omega,by omega,hn1,hn2,h⟩
  have HSt:Hid (∀ W,Below w3.heap.size w3 W -> W.cell? ⟨g1,0,none⟩=some (.slice p.vo p.vn p.vc)/\W.cell? ⟨g2,0,none⟩=some (.int .i64 (y:Int))/\W.cell? ⟨g2,1,none⟩=some (.int .i64 num)):=fun W hW =>
   ⟨(HX3.out.1.below hW).nums.1,(HX3.out.2.1.below hW).at.c0,(HX3.out.2.1.below hW).at.c1⟩
  have hvl:p.P.vec.length=p.vn:=HX3.out.2.2.1.vec.1;have HLo:Hid (∀ W,Below w3.heap.size w3 W -> ¬ num <= p.P.vec.getD y 0 -> True):=fun _ _ _=>trivial;have hcb:p.cn <= 5864062014805:=HX3.out.2.2.1.cloud.big;by_cases hyv:y < p.vn
  ·have hyi:(y:Int) < (p.vn:Int):=by omega
   obtain ⟨ad,hvo,q0⟩:=vsrc_at1 HX3.out.2.2.1.vec y hyv;obtain ⟨tv,htv⟩:∃ tv,p.P.vec.getD y 0=tv:=⟨_,rfl⟩;rw [htv] at q0;have HSv:Hid (∀ W,Below w3.heap.size w3 W -> W.cell? ⟨g1,0,none⟩=some (.slice (some ad) p.vn p.vc)/\W.cell? ⟨g2,0,none⟩=some (.int .i64 (y:Int))/\W.cell? ⟨g2,1,none⟩=some (.int .i64 num)/\W.cell? (ad.add y)=some (.int .i64 tv)):=fun W hW=>⟨by rw [<- hvo];exact (HSt.out W hW).1,(HSt.out W hW).2.1,(HSt.out W hW).2.2,(hW.cell (World.block_lt_of_cell? _ _ q0)).trans q0⟩;have Htv:=hide htv;clear q0 htv hvo;go_upto_region 3 with fail;refine wp_region_held_drew (S:=fun W=>W.cell? ⟨g1,0,none⟩=some (.slice (some ad) p.vn p.vc)/\W.cell? ⟨g2,0,none⟩=some (.int .i64 (y:Int))/\W.cell? ⟨g2,1,none⟩=some (.int .i64 num)/\W.cell? (ad.add y)=some (.int .i64 tv)) (by kernel_rfl) (HSv.out _ (below_drew1 w3)) (fun hHeld=>?_)
   refine wU 0 ?_;refine wU 1 ?_;refine wU 2 ?_;refine wU 3 ?_;refine wU 4 ?_;refine wU 5 ?_;refine wU 6 ?_;refine wU 7 ?_;refine wU 8 ?_;refine wU 9 ?_;refine wU 10 ?_;refine wU 11 ?_;refine wU 12 ?_;refine wU 13 ?_;refine wU 14 ?_;refine wU 15 ?_;refine wU 16 ?_;refine wpAnyH_done (by kernel_rfl) ?_ _;clear hHeld;by_cases hnt:num <= tv
   ·have HF:Hid (GivB w w3.drew (.returned (.bool true)) (dotIn p.P ⟨(y:Int),num⟩)):=⟨true,rfl,BIf.yes (HIff.out.2 (.inl (by rw [Htv.out];exact hnt))),HX3.out.2.2.2.trans ((below_drew1 w3).mono HX3.out.2.2.2.size)⟩;go_wp2_with fail;go_ret;exact HF.out
   ·have Hnv:Hid (¬ num <= p.P.vec.getD y 0):=by rw [Htv.out];exact hnt
    have b4:Below w3.heap.size w3 w3.drew:=below_drew1 w3;obtain ⟨w4,hw4⟩:∃ w4,w3.drew=w4:=⟨_,rfl⟩;rw [hw4] at b4 ⊢;clear hw4 HSv;clear hvl;have HX4:Hid (PBox w4 g1 p/\Box w4 g2 37 ⟨(y:Int),num⟩/\PSrc w4 p/\Below w.heap.size w w4):=⟨HX3.out.1.below b4,HX3.out.2.1.below b4,HX3.out.2.2.1.below b4,HX3.out.2.2.2.trans (b4.mono HX3.out.2.2.2.size)⟩;clear b4 HX3 HSt HLo;go_wp2_with fail;go_loopw [5] (fun i wr=>∃ k:Nat,k <= p.cn/\i = .int .i64 (k:Int)/\Hid (Below w4.heap.size w4 wr/\∀ j,j < k -> inSp ⟨(y:Int),num⟩ (p.P.cloud.getD j sn0)=false)) (fun i _=>p.cn - (intOf i).toNat)
    case atStart=>exact ⟨0,Nat.zero_le _,rfl,Below.refl _ _,fun j hj=>by omega⟩
    case round =>
     obtain ⟨k,hk,rfl,HI⟩:=hrel
     rename World=>wr
     have d1:=(HX4.out.1.below HI.out.1).nums.2;by_cases hlt:k < p.cn
     ·have hlti:(k:Int) < (p.cn:Int):=by omega
      obtain ⟨ad,hco,A5⟩:=(HX4.out.2.2.1.below HI.out.1).cloud.at k hlt;rw [hco] at d1;obtain ⟨s,hs⟩:∃ s,p.P.cloud.getD k sn0=s:=⟨_,rfl⟩;rw [hs] at A5;have l5:=run_ldS A5;obtain ⟨g6,hg6⟩:∃ g6,wr.heap.size=g6:=⟨_,rfl⟩;obtain ⟨w6,hst6,X6,b6,-⟩:=madeS wr s g6 hg6;have X2:=(HX4.out.2.1.below HI.out.1).below b6;have e0:=X2.at.c0;have e1:w6.cell? ⟨g2,1,none⟩=some (.int .i64 num):=X2.at.c1;dsimp only at e0
      obtain ⟨f0,f1,f2⟩:=X6.at
      have HB6:=hide (HI.out.1.trans (b6.mono HI.out.1.size));have Hs:=hide hs
      have HMem:Hid (s∈p.P.cloud):=by
       rw [<- hs,List.getD_eq_getElem?_getD,List.getElem?_eq_getElem (by rw [HX4.out.2.2.1.cloud.len];exact hlt)];exact List.getElem_mem _
      have HBw:=hide (HX4.out.2.2.2.trans (HB6.out.mono HX4.out.2.2.2.size));have HYes:Hid (inSp ⟨(y:Int),num⟩ s=true -> GivB w w6 (.returned (.bool true)) (dotIn p.P ⟨(y:Int),num⟩)):=fun h=>⟨true,rfl,BIf.yes (HIff.out.2 (.inr ⟨s,HMem.out,h⟩)),HBw.out⟩
      have HNo:Hid (inSp ⟨(y:Int),num⟩ s=false -> ∀ j,j < k+1 -> inSp ⟨(y:Int),num⟩ (p.P.cloud.getD j sn0)=false):=fun h j hj=>by
       by_cases e:j=k
       ·rw [e,Hs.out];exact h
       ·exact HI.out.2 j (by omega)
      obtain ⟨rp,lo,hi⟩:=s;dsimp only at f0 f1 f2;have Hlt:=hide hlt;clear A5 X6 b6 X2 hs hlt hk hco;by_cases h1:rp=(y:Int)
      ·have h1b:(rp == (y:Int))=true:=by simpa using h1
       by_cases h2:lo <= num
       ·by_cases h3:num <= hi
        ·have HE:=hide (HYes.out (by rw [inSp_iff];exact ⟨h1,h2,h3⟩));clear h1;go_wp2_with fail;clear hst6 hg6;go_ret;exact HE.out
        ·have HE:=hide (HNo.out (by rw [<- Bool.not_eq_true,inSp_iff];rintro ⟨-,-,h⟩;exact h3 h));clear h1;go_wp2_with fail;clear hst6 hg6;go_roundw
         case rel=>exact ⟨k+1,Hlt.out,by simp,HB6.out,HE.out⟩
         case measure=>simp [intOf];have:=Hlt.out;omega
       ·have HE:=hide (HNo.out (by rw [<- Bool.not_eq_true,inSp_iff];rintro ⟨-,h,-⟩;exact h2 h));clear h1;go_wp2_with fail;clear hst6 hg6;go_roundw
        case rel=>exact ⟨k+1,Hlt.out,by simp,HB6.out,HE.out⟩
        case measure=>simp [intOf];have:=Hlt.out;omega
      ·have h1b:(rp == (y:Int))=false:=by simpa using h1
       have HE:=hide (HNo.out (by rw [<- Bool.not_eq_true,inSp_iff];rintro ⟨h,-,-⟩;exact h1 h));clear h1;go_wp2_with fail;clear hst6 hg6;go_roundw
       case rel=>exact ⟨k+1,Hlt.out,by simp,HB6.out,HE.out⟩
       case measure=>simp [intOf];have:=Hlt.out;omega
     ·have hlti:¬ (k:Int) < (p.cn:Int):=by omega
      have HF:Hid (GivB w wr (.returned (.bool false)) (dotIn p.P ⟨(y:Int),num⟩)):=⟨false,rfl,BIf.no (fun h=>by
       rcases HIff.out.1 h with h | ⟨c,hc,h⟩
       ·have:=Hnv.out;omega
       ·obtain ⟨j,hj,rfl⟩:=List.getElem_of_mem hc;have h2:=HI.out.2 j (by rw [HX4.out.2.2.1.cloud.len] at hj;omega);rw [List.getD_eq_getElem?_getD,List.getElem?_eq_getElem hj] at h2;simp only [Option.getD_some] at h2;rw [h2] at h
        cases h),HX4.out.2.2.2.trans (HI.out.1.mono HX4.out.2.2.2.size)⟩
      go_wp2_with fail;go_ret;exact HF.out
  ·have hyi:¬ (y:Int) < (p.vn:Int):=by omega
   go_upto_region 3 with fail;refine wp_region_held_drew (S:=fun W=>W.cell? ⟨g1,0,none⟩=some (.slice p.vo p.vn p.vc)/\W.cell? ⟨g2,0,none⟩=some (.int .i64 (y:Int))/\W.cell? ⟨g2,1,none⟩=some (.int .i64 num)) (by kernel_rfl) (HSt.out _ (below_drew1 w3)) (fun hHeld=>?_);refine wU 0 ?_;refine wU 1 ?_;refine wU 2 ?_;refine wU 3 ?_;refine wU 4 ?_;refine wU 5 ?_;refine wU 6 ?_;refine wV 7 ?_;refine wV 8 ?_;refine wV 9 ?_;refine wV 10 ?_;refine wV 11 ?_;refine wV 12 ?_;refine wV 13 ?_;refine wV 14 ?_;refine wV 15 ?_;refine wU 16 ?_;refine wpAnyH_done (by kernel_rfl) ?_ _;clear hHeld
   have Hnv:Hid (¬ num <= p.P.vec.getD y 0):=by
    rw [List.getD_eq_getElem?_getD,List.getElem?_eq_none (by omega)];simp only [Option.getD_none]
    show ¬ _
    omega
   have b4:Below w3.heap.size w3 w3.drew:=below_drew1 w3;obtain ⟨w4,hw4⟩:∃ w4,w3.drew=w4:=⟨_,rfl⟩;rw [hw4] at b4 ⊢;clear hw4;clear hvl;have HX4:Hid (PBox w4 g1 p/\Box w4 g2 37 ⟨(y:Int),num⟩/\PSrc w4 p/\Below w.heap.size w w4):=⟨HX3.out.1.below b4,HX3.out.2.1.below b4,HX3.out.2.2.1.below b4,HX3.out.2.2.2.trans (b4.mono HX3.out.2.2.2.size)⟩;clear b4 HX3 HSt HLo;go_wp2_with fail;go_loopw [5] (fun i wr=>∃ k:Nat,k <= p.cn/\i = .int .i64 (k:Int)/\Hid (Below w4.heap.size w4 wr/\∀ j,j < k -> inSp ⟨(y:Int),num⟩ (p.P.cloud.getD j sn0)=false)) (fun i _=>p.cn - (intOf i).toNat)
   case atStart=>exact ⟨0,Nat.zero_le _,rfl,Below.refl _ _,fun j hj=>by omega⟩
   case round =>
    obtain ⟨k,hk,rfl,HI⟩:=hrel
    rename World=>wr
    have d1:=(HX4.out.1.below HI.out.1).nums.2;by_cases hlt:k < p.cn
    ·have hlti:(k:Int) < (p.cn:Int):=by omega
     obtain ⟨ad,hco,A5⟩:=(HX4.out.2.2.1.below HI.out.1).cloud.at k hlt;rw [hco] at d1;obtain ⟨s,hs⟩:∃ s,p.P.cloud.getD k sn0=s:=⟨_,rfl⟩;rw [hs] at A5;have l5:=run_ldS A5;obtain ⟨g6,hg6⟩:∃ g6,wr.heap.size=g6:=⟨_,rfl⟩;obtain ⟨w6,hst6,X6,b6,-⟩:=madeS wr s g6 hg6;have X2:=(HX4.out.2.1.below HI.out.1).below b6;have e0:=X2.at.c0;have e1:w6.cell? ⟨g2,1,none⟩=some (.int .i64 num):=X2.at.c1;dsimp only at e0
     obtain ⟨f0,f1,f2⟩:=X6.at
     have HB6:=hide (HI.out.1.trans (b6.mono HI.out.1.size));have Hs:=hide hs
     have HMem:Hid (s∈p.P.cloud):=by
      rw [<- hs,List.getD_eq_getElem?_getD,List.getElem?_eq_getElem (by rw [HX4.out.2.2.1.cloud.len];exact hlt)];exact List.getElem_mem _
     have HBw:=hide (HX4.out.2.2.2.trans (HB6.out.mono HX4.out.2.2.2.size));have HYes:Hid (inSp ⟨(y:Int),num⟩ s=true -> GivB w w6 (.returned (.bool true)) (dotIn p.P ⟨(y:Int),num⟩)):=fun h=>⟨true,rfl,BIf.yes (HIff.out.2 (.inr ⟨s,HMem.out,h⟩)),HBw.out⟩
     have HNo:Hid (inSp ⟨(y:Int),num⟩ s=false -> ∀ j,j < k+1 -> inSp ⟨(y:Int),num⟩ (p.P.cloud.getD j sn0)=false):=fun h j hj=>by
      by_cases e:j=k
      ·rw [e,Hs.out];exact h
      ·exact HI.out.2 j (by omega)
     obtain ⟨rp,lo,hi⟩:=s;dsimp only at f0 f1 f2;have Hlt:=hide hlt;clear A5 X6 b6 X2 hs hlt hk hco;by_cases h1:rp=(y:Int)
     ·have h1b:(rp == (y:Int))=true:=by simpa using h1
      by_cases h2:lo <= num
      ·by_cases h3:num <= hi
       ·have HE:=hide (HYes.out (by rw [inSp_iff];exact ⟨h1,h2,h3⟩));clear h1;go_wp2_with fail;clear hst6 hg6;go_ret;exact HE.out
       ·have HE:=hide (HNo.out (by rw [<- Bool.not_eq_true,inSp_iff];rintro ⟨-,-,h⟩;exact h3 h));clear h1;go_wp2_with fail;clear hst6 hg6;go_roundw
        case rel=>exact ⟨k+1,Hlt.out,by simp,HB6.out,HE.out⟩
        case measure=>simp [intOf];have:=Hlt.out;omega
      ·have HE:=hide (HNo.out (by rw [<- Bool.not_eq_true,inSp_iff];rintro ⟨-,h,-⟩;exact h2 h));clear h1;go_wp2_with fail;clear hst6 hg6;go_roundw
       case rel=>exact ⟨k+1,Hlt.out,by simp,HB6.out,HE.out⟩
       case measure=>simp [intOf];have:=Hlt.out;omega
     ·have h1b:(rp == (y:Int))=false:=by simpa using h1
      have HE:=hide (HNo.out (by rw [<- Bool.not_eq_true,inSp_iff];rintro ⟨h,-,-⟩;exact h1 h));clear h1;go_wp2_with fail;clear hst6 hg6;go_roundw
      case rel=>exact ⟨k+1,Hlt.out,by simp,HB6.out,HE.out⟩
      case measure=>simp [intOf];have:=Hlt.out;omega
    ·have hlti:¬ (k:Int) < (p.cn:Int):=by omega
     have HF:Hid (GivB w wr (.returned (.bool false)) (dotIn p.P ⟨(y:Int),num⟩)):=⟨false,rfl,BIf.no (fun h=>by
      rcases HIff.out.1 h with h | ⟨c,hc,h⟩
      ·have:=Hnv.out;omega
      ·obtain ⟨j,hj,rfl⟩:=List.getElem_of_mem hc;have h2:=HI.out.2 j (by rw [HX4.out.2.2.1.cloud.len] at hj;omega);rw [List.getD_eq_getElem?_getD,List.getElem?_eq_getElem hj] at h2;simp only [Option.getD_some] at h2;rw [h2] at h
       cases h),HX4.out.2.2.2.trans (HI.out.1.mono HX4.out.2.2.2.size)⟩
     go_wp2_with fail;go_ret;exact HF.out
end
section
open Go.RowKit
attribute [local go_sem ↓] ldP_eq stP_eq ldRe_eq stRe_eq ldD_eq stD_eq K.ld28_eq K.st28_eq
attribute [local go_sem] cells_PV PC_size cells_ReV ReC_size K.cells_EV K.EC_size zero_ReC
variable {w w' w2 W W' : World} {g : Nat}
def covB (r:Rc) (e:K.En):Bool:=(decide (r.s.size=0) || (r.s.toList == e.sku.toList)) && inB r.p.P e
theorem covB_sku {r:Rc} {e:K.En} {b:Bool} (h:(decide (r.s.size=0) || (r.s.toList == e.sku.toList))=true) (hb:BIf b (dotIn r.p.P ⟨e.rep,e.num⟩)):covB r e=b:=by
 unfold covB;rw [h,Bool.true_and];have h1:=inB_iff r.p.P e;have h2:=hb.out
 cases hx:inB r.p.P e <;> cases b
 ·rfl
 ·rw [hx] at h1;exact absurd (h1.2 (h2.1 rfl)) (by simp)
 ·rw [hx] at h1;have:=h2.2 (h1.1 rfl);cases this
 ·rfl
theorem covB_not {r:Rc} {e:K.En} (h0:¬ r.s.size=0) (h:(r.s.toList == e.sku.toList)=false):covB r e=false:=by
 unfold covB;rw [h,decide_eq_false h0];rfl
theorem take_snocR (L:List Rc) (k:Nat) (h:k < L.length):L.take (k+1)=L.take k++[L.getD k rc0]:=by
 rw [List.take_succ_eq_append_getElem h];simp [List.getD,h]
end
end Go.Proofs.YtaphmhbmhcahaabGreat
namespace Go.Proofs.YtaphmhbmhcahaabGreat.K
open Go.RowKit
attribute [local go_sem ↓] ld28_eq st28_eq
attribute [local go_sem] zero_EC cells_EV
def eqE (x y:En):Bool:=x.rep == y.rep && x.num == y.num && x.sku.toList == y.sku.toList && x.qty == y.qty
theorem run_eq26 (a b c d:Int) (w:World):(Op.equalIn 9999 37 (.agg #[.int .i64 a,.int .i64 b]) (.agg #[.int .i64 c,.int .i64 d])).run Tryz.prog w = .ok (a == c && b == d) w:=by
 have u3:=Tryz.underlying3;have a3:=Tryz.isAgg3;have z3:=Tryz.sizeOf3
 have hS:Tryz.prog.underlying 37=some (.struct (Tryz.prog.fieldsOf 37)):=by kernel_rfl
 have hp:Tryz.prog.stoodInHeld 37=false:=by kernel_rfl
 rw [show (9999:Nat)=9998+1 from rfl,run_equalIn_struct w 9998 37 _ _ hS hp];simp only [Program.fieldsOf,Tryz.underlying37];go_simp;by_cases h1:a=c <;> by_cases h2:b=d <;> simp [h1,h2]
theorem run_eq28 (x y:En) (w:World):(Op.equalIn 10000 39 (.agg (EC x)) (.agg (EC y))).run Tryz.prog w = .ok (eqE x y) w:=by
 have u3:=Tryz.underlying3;have a3:=Tryz.isAgg3;have z3:=Tryz.sizeOf3;have u9:=Tryz.underlying9;have a9:=Tryz.isAgg9;have z9:=Tryz.sizeOf9;have a26:=Tryz.isAgg37;have z26:=Tryz.sizeOf37
 have hS:Tryz.prog.underlying 39=some (.struct (Tryz.prog.fieldsOf 39)):=by kernel_rfl
 have hp:Tryz.prog.stoodInHeld 39=false:=by kernel_rfl
 obtain ⟨r,m,s,q⟩:=x;obtain ⟨r',m',s',q'⟩:=y;have h26:=run_eq26 r m r' m'
 show (Op.equalIn 10000 39 (.agg #[.int .i64 r,.int .i64 m,.string s,.int .i64 q]) (.agg #[.int .i64 r',.int .i64 m',.string s',.int .i64 q'])).run Tryz.prog w = .ok (r == r' && m == m' && s.toList == s'.toList && q == q') w
 rw [show (10000:Nat)=9999+1 from rfl,run_equalIn_struct w 9999 39 _ _ hS hp];simp only [Program.fieldsOf,Tryz.underlying39];have h9:∀ w,(Op.equalIn 9999 9 (.string s) (.string s')).run Tryz.prog w = .ok (s.toList == s'.toList) w:=fun w=>run_equalIn_string w 9998 9 s s' Tryz.underlying9;have h3:∀ w,(Op.equalIn 9999 3 (.int .i64 q) (.int .i64 q')).run Tryz.prog w = .ok (q == q') w:=fun w=>run_equalIn_int w 9998 3 .i64 .i64 q q' Tryz.underlying3;obtain ⟨D,hD⟩:∃ D,9999=D:=⟨9999,rfl⟩;rw [hD] at h26 h9 h3 ⊢;go_simp;by_cases e1:r=r'
 ·by_cases e2:m=m'
  ·by_cases e3:s.toList=s'.toList
   ·by_cases e4:q=q'
    ·simp [e1,e2,e3,e4]
    ·simp [e1,e2,e3,e4]
   ·simp [e1,e2,e3]
  ·simp [e1,e2]
 ·simp [e1]
theorem eqE_self (x:En):eqE x x=true:=by simp [eqE]
attribute [local go_sem ↓] run_eq28
end Go.Proofs.YtaphmhbmhcahaabGreat.K
namespace Go.Proofs.YtaphmhbmhcahaabGreat
section
open Go.RowKit
attribute [local go_sem ↓] K.ld28_eq K.st28_eq K.run_eq28 ldP_eq stP_eq ldRe_eq stRe_eq
attribute [local go_sem] K.zero_EC K.cells_EV cells_PV PC_size
abbrev Rp:=ByteArray × Pst
def plR (L:List Rc):List Rp:=L.map fun r=>(r.s,r.p.P)
theorem plR_len (L:List Rc):(plR L).length=L.length:=by simp [plR]
theorem plR_snoc (L:List Rc) (r:Rc):plR (L++[r])=plR L++[(r.s,r.p.P)]:=by simp [plR]
theorem plR_take (L:List Rc) (k:Nat) (h:k < L.length):plR (L.take (k+1))=plR (L.take k)++[((L.getD k rc0).s,(L.getD k rc0).p.P)]:=by
 rw [take_snocR L k h,plR_snoc]
theorem ReAt.flat {w:World} {b o:Nat} {r:Rc} (A:ReAt w ⟨b,o,none⟩ (mkR r)):w.cell? ⟨b,o,none⟩=some (.string r.s)/\PAt w ⟨b,o+1,none⟩ r.p:=by
 obtain ⟨h0,h1,h2⟩:=A;rw [Addr.add_lit] at h1 h2;refine ⟨h0,h1,?_⟩;rw [Addr.add_lit];exact h2
theorem RcS.spot {w:World} {ad:Addr} {n c:Nat} {L:List Rc} (h:RcS w (some ad) n c L) (hn:0 < n):∃ b o,ad=⟨b,o,none⟩:=by
 obtain ⟨ad0,e0,A00⟩:=h.at 0 hn;obtain rfl:=Option.some.inj e0;have hsp:=World.cell?_spot A00.c0;rw [Nat.zero_mul,add_zero] at hsp;obtain ⟨b,o,sp⟩:=ad;have hsp:sp=none:=hsp;subst hsp;exact ⟨b,o,rfl⟩
end
section
open Go.RowKit
/-! ### any total order -/
section
variable {α : Type} {c : α -> α -> Int}
def Srt (c : α -> α -> Int) (L:List α):Prop:=L.Pairwise fun x y=>c x y < 0
structure Mg (c : α -> α -> Int) (X Y:List α) (D A B:List α):Prop where
 sd:Srt c D
 sa:Srt c A
 sb:Srt c B
 da:∀ d∈D,∀ x∈A,c d x < 0
 db:∀ d∈D,∀ x∈B,c d x < 0
 all:∀ x,(x∈D∨x∈A∨x∈B)↔(x∈X∨x∈Y)
theorem Mg.start {X Y:List α} (h1:Srt c X) (h2:Srt c Y):Mg c X Y [] X Y:=
 ⟨List.Pairwise.nil,h1,h2,fun d h=>(by cases h),fun d h=>(by cases h),fun x=>by simp⟩
theorem Mg.symm {X Y D A B:List α} (h:Mg c X Y D A B):Mg c X Y D B A:=
 ⟨h.sd,h.sb,h.sa,h.db,h.da,fun x=>by rw [<- h.all x];constructor <;> (rintro (q | q | q) <;> simp [q])⟩
theorem Mg.left {X Y D A B:List α} {x : α} (h:Mg c X Y D (x :: A) B) (hx:∀ y∈B,c x y < 0):Mg c X Y (D++[x]) A B:=by
 obtain ⟨a1,a2⟩:=List.pairwise_cons.1 h.sa;refine ⟨List.pairwise_append.2 ⟨h.sd,List.pairwise_singleton _ _,fun d hd y hy=>?_⟩,a2,h.sb,fun d hd y hy=>?_,fun d hd y hy=>?_,fun y=>?_⟩
 ·obtain rfl:=List.mem_singleton.1 hy;exact h.da d hd _ List.mem_cons_self
 ·rcases List.mem_append.1 hd with q | q
  ·exact h.da d q y (List.mem_cons_of_mem _ hy)
  ·obtain rfl:=List.mem_singleton.1 q;exact a1 y hy
 ·rcases List.mem_append.1 hd with q | q
  ·exact h.db d q y hy
  ·obtain rfl:=List.mem_singleton.1 q;exact hx y hy
 ·rw [<- h.all y];simp only [List.mem_append,List.mem_cons];constructor
  ·rintro ((q | q) | q | q)
   ·exact .inl q
   ·exact .inr (.inl (.inl (by simpa using q)))
   ·exact .inr (.inl (.inr q))
   ·exact .inr (.inr q)
  ·rintro (q | (q | q) | q)
   ·exact .inl (.inl q)
   ·exact .inl (.inr (by simp [q]))
   ·exact .inr (.inl q)
   ·exact .inr (.inr q)
theorem Mg.drop {X Y D A B:List α} {x : α} (h:Mg c X Y D (x :: A) B) (hx:x∈B):Mg c X Y D A B:=
 ⟨h.sd,(List.pairwise_cons.1 h.sa).2,h.sb,fun d hd y hy=>h.da d hd y (List.mem_cons_of_mem _ hy),h.db,fun y=>by
  rw [<- h.all y];constructor
  ·rintro (q | q | q)
   ·exact .inl q
   ·exact .inr (.inl (List.mem_cons_of_mem _ q))
   ·exact .inr (.inr q)
  ·rintro (q | q | q)
   ·exact .inl q
   ·rcases List.mem_cons.1 q with rfl | q
    ·exact .inr (.inr hx)
    ·exact .inr (.inl q)
   ·exact .inr (.inr q)⟩
theorem srt_head (h:Tot c) {x y : α} {B:List α} (hB:Srt c (y :: B)) (hxy:c x y < 0):∀ z∈y :: B,c x z < 0:=fun z hz=>by
 rcases List.mem_cons.1 hz with rfl | q
 ·exact hxy
 ·exact h.lt hxy (by have:=(List.pairwise_cons.1 hB).1 z q;omega)
theorem Mg.lt (t:Tot c) {X Y D A B:List α} {x y : α} (h:Mg c X Y D (x :: A) (y :: B)) (hxy:c x y < 0):Mg c X Y (D++[x]) A (y :: B):=h.left (srt_head t h.sb hxy)
def UnK (c : α -> α -> Int) (X Y Z:List α):Prop:=Srt c Z/\∀ x,x∈Z↔(x∈X∨x∈Y)
theorem Mg.doneL {X Y D A:List α} (h:Mg c X Y D A []):UnK c X Y (D++A):=
 ⟨List.pairwise_append.2 ⟨h.sd,h.sa,h.da⟩,fun x=>by rw [<- h.all x];simp⟩
theorem Mg.doneR {X Y D B:List α} (h:Mg c X Y D [] B):UnK c X Y (D++B):=h.symm.doneL
end
/-! ### records -/
def cmpU (x y:UInt8):Int:=if x < y then -1 else if y < x then 1 else 0
theorem cmpU_tot:Tot cmpU:=by
 refine ⟨fun x y=>?_,fun x y=>?_,fun x y=>?_,fun x y z=>?_⟩ <;> simp only [cmpU,UInt8.lt_iff_toNat_lt]
 ·split
  ·simp
  ·split <;> simp
 ·split <;> split <;> (first | omega | rfl)
 ·constructor
  ·intro h
   split at h
   ·omega
   ·split at h
    ·omega
    ·exact UInt8.toNat_inj.1 (by omega)
  ·rintro rfl;simp
 ·intro h1 h2
  split at h1 <;> split at h2 <;> split <;> (try split) <;> (try split at h1) <;> (try split at h2) <;> omega
theorem cb_lex:∀ a b:List UInt8,Lib.compareBytes a b=lex cmpU a b
 | [],[]=>rfl
 | [],_ :: _=>rfl
 | _ :: _,[]=>rfl
 | a :: x,b :: y=>by
  have ih:=cb_lex x y;simp only [Lib.compareBytes,lex,cmpU];by_cases h:a < b
  ·simp [h]
  ·by_cases h2:b < a
   ·simp [h,h2]
   ·simp [h,h2,ih]
theorem cmpS_lex (a b:ByteArray):cmpS a b=lex cmpU a.data.toList b.data.toList:=cb_lex _ _
theorem bytes_ext {a b:ByteArray} (h:a.data.toList=b.data.toList):a=b:=by
 obtain ⟨⟨x⟩⟩:=a;obtain ⟨⟨y⟩⟩:=b;simp at h;rw [h]
theorem cmpS_tot:Tot cmpS:=by
 have t:=cmpU_tot.lex;refine ⟨fun x y=>?_,fun x y=>?_,fun x y=>?_,fun x y z=>?_⟩ <;> simp only [cmpS_lex]
 ·exact t.rng _ _
 ·exact t.neg _ _
 ·exact ⟨fun h=>bytes_ext ((t.eq _ _).1 h),fun h=>by rw [h];exact (t.eq _ _).2 rfl⟩
 ·exact t.tr _ _ _
def rck (r:Rc):Rp:=(r.s,r.p.P)
theorem plR_rck (L:List Rc):plR L=L.map rck:=rfl
def ck (x y:Rp):Int:=if cmpS x.1 y.1=0 then cmpP x.2 y.2 else cmpS x.1 y.1
theorem ck_tot:Tot ck:=Tot.both (f:=Prod.fst) (g:=Prod.snd) cmpS_tot cmpP_tot (fun _ _ h1 h2=>Prod.ext h1 h2)
theorem cmpR_ck {a b:Rc} {z:Int} (ha:InForm a.p.P) (hb:InForm b.p.P) (h:CmpR a b z):z=ck (rck a) (rck b):=by
 have e:CmpOf a.p.P b.p.P (cmpP a.p.P b.p.P):=⟨_,_,canon_iff.2 ha,canon_iff.2 hb,rfl⟩;unfold ck;rcases h with ⟨h1,h2⟩ | ⟨h1,h2⟩
 ·rw [if_neg (show ¬ cmpS (rck a).1 (rck b).1=0 from h1)];exact h2
 ·rw [if_pos (show cmpS (rck a).1 (rck b).1=0 from h1)];exact h2.unique e
theorem ck_cmpR {a b:Rc} (ha:InForm a.p.P) (hb:InForm b.p.P):CmpR a b (ck (rck a) (rck b)):=by
 by_cases h:cmpS a.s b.s=0
 ·refine .inr ⟨h,?_⟩;unfold ck;rw [if_pos (show cmpS (rck a).1 (rck b).1=0 from h)];exact ⟨_,_,canon_iff.2 ha,canon_iff.2 hb,rfl⟩
 ·refine .inl ⟨h,?_⟩;unfold ck;rw [if_neg (show ¬ cmpS (rck a).1 (rck b).1=0 from h)];rfl
theorem rcD_mem {L:List Rc} {j:Nat} (h:j < L.length):L.getD j rc0∈L:=by
 rw [List.getD_eq_getElem?_getD,List.getElem?_eq_getElem h];exact List.getElem_mem h
theorem rcD_at {L:List Rc} {j:Nat} (h:j < L.length):L.getD j rc0=L[j]:=by
 rw [List.getD_eq_getElem?_getD,List.getElem?_eq_getElem h];rfl
theorem okR_iff {L:List Rc}:OkR L L.length↔(∀ r∈L,RecOk r)/\Srt ck (plR L):=by
 constructor
 ·intro h
  have hr:∀ r∈L,RecOk r:=fun r hr=>by
   obtain ⟨j,hj,rfl⟩:=List.getElem_of_mem hr;rw [<- rcD_at hj];exact (h j hj).1
  refine ⟨hr,?_⟩
  have step:∀ k,∀ i,(hk:i+k+1 < L.length) -> ck (rck L[i]) (rck L[i+k+1]) < 0:=by
   intro k
   have one:∀ i,(hi:i+1 < L.length) -> ck (rck L[i]) (rck L[i+1]) < 0:=fun i hi=>by
    obtain ⟨z,hz,hlt⟩:=(h (i+1) hi).2 (by omega);rw [rcD_at hi,show i+1 - 1=i from rfl,rcD_at (by omega)] at hz;rw [<- cmpR_ck (hr _ (List.getElem_mem _)).2.1 (hr _ (List.getElem_mem _)).2.1 hz];exact hlt
   induction k with
   | zero=>intro i hk;exact one i (by omega)
   | succ k ih =>
    intro i hk;have h1:=ih i (by omega);have h2:=one (i+k+1) (by omega);exact ck_tot.lt h1 (Int.le_of_lt h2)
  unfold Srt;rw [plR_rck,List.pairwise_map,List.pairwise_iff_getElem];intro i j hi hj hij;obtain ⟨k,rfl⟩:∃ k,j=i+k+1:=⟨j - i - 1,by omega⟩;exact step k i hj
 ·rintro ⟨hr,hs⟩ j hj;unfold Srt at hs;rw [plR_rck,List.pairwise_map,List.pairwise_iff_getElem] at hs;refine ⟨hr _ (rcD_mem hj),fun h0=>?_⟩;rw [rcD_at hj,rcD_at (by omega)];exact ⟨_,ck_cmpR (hr _ (List.getElem_mem _)).2.1 (hr _ (List.getElem_mem _)).2.1,hs (j - 1) j (by omega) hj (by omega)⟩
def UnOf (L M F:List Rc):Prop:=UnK ck (plR L) (plR M) (plR F)/\∀ r∈F,RecOk r
theorem UnOf.ok {L M F:List Rc} (h:UnOf L M F):OkR F F.length:=okR_iff.2 ⟨h.2,h.1.1⟩
theorem recOk_rck {r r':Rc} (h:RecOk r) (e:rck r'=rck r):RecOk r':=by
 have e1:r'.s=r.s:=congrArg Prod.fst e;have e2:r'.p.P=r.p.P:=congrArg Prod.snd e;exact ⟨by rw [e1];exact h.1,by rw [e2];exact h.2⟩
end
section
open Go.RowKit Go.Maps Go.Sort
structure Hs where
 o:Option Addr
 n:Nat
 c:Nat
def hs0:Hs:=⟨none,0,0⟩
abbrev HsV (s:Hs):Value:=.slice s.o s.n s.c
def RSl (v:Value):Option (DataW Hs × List MemPlace):=
 match v with
 | .slice o n c=>some (.held ⟨o,n,c⟩,[])
 | _=>none
theorem RSl_of (s:Hs):RSl (HsV s)=some (.held s,[]):=rfl
theorem RSl_inv {v:Value} {s:Hs} {ps:List MemPlace} (h:RSl v=some (.held s,ps)):v=HsV s:=by
 unfold RSl at h
 split at h
 ·simp at h;obtain ⟨rfl,_⟩:=h;rfl
 ·simp at h
def MpS (D:DataW Hs) (K:ByteArray -> Prop) (f:ByteArray -> Hs):Prop:=(∀ s:ByteArray,has D (.string s.data.toList)=true↔K s)/\∀ s:ByteArray,D.atKey (.string s.data.toList) (.held hs0) = .held (f s)
theorem mpS_start:MpS (.map []) (fun _=>False) (fun _=>hs0):=⟨fun s=>by simp [has],fun s=>rfl⟩
theorem strS_inj {a b:ByteArray} (h:(Lit.string a.data.toList) = .string b.data.toList):a=b:=by
 cases a;cases b;simp at h;simp [h]
theorem mpS_step {D:DataW Hs} {K:ByteArray -> Prop} {f:ByteArray -> Hs} (h:MpS D K f) (hm:IsMap D) (k:ByteArray) (x:Hs) (g:ByteArray -> Hs) (hg:g k=x) (hf:∀ s,s≠k -> g s=f s) :
  MpS (D.put (.string k.data.toList) (.held x)) (fun s=>s=k∨K s) g:=by
 refine ⟨fun s=>?_,fun s=>?_⟩
 ·by_cases hs:k=s
  ·subst hs;rw [has_put_same hm (k:=.string k.data.toList) (show WideAt.IsKeyLit (.string k.data.toList) from trivial)];exact ⟨fun _=>.inl rfl,fun _=>rfl⟩
  ·rw [has_put_other (fun he=>hs (strS_inj he).symm),h.1 s];exact ⟨fun h=>.inr h,fun h=>h.resolve_left (fun e=>hs e.symm)⟩
 ·by_cases hs:k=s
  ·subst hs;rw [atKey_put_same hm (k:=.string k.data.toList) (show WideAt.IsKeyLit (.string k.data.toList) from trivial),hg]
  ·rw [atKey_put_other (fun he=>hs (strS_inj he).symm),h.2 s,hf s (fun e=>hs e.symm)]
theorem keysS {P:Program} {k:TypeId} {R:Value -> Option (DataW Hs × List MemPlace)} {w:World} {b n:Nat} {D:DataW Hs} {S:ByteArray -> Prop} {f:ByteArray -> Hs} (hown:w.ownsMap P k R b n D) (K:Keyed P k) (hk:P.underlying k=some .string) (hm:MpS D S f)
  {ss:List (List UInt8)} (hp:ss.Perm (strKeys D)):ss.Nodup/\∀ x:List UInt8,x∈ss↔S ⟨x.toArray⟩:=by
 obtain ⟨es,hD,hpw,_⟩:=hown.entries K;obtain ⟨es',hD',hko⟩:=hown.keysOf
 obtain rfl:es=es':=by rw [hD] at hD';simpa using hD'
 subst hD
 have hks:∀ p∈es,∃ x,p.1 = .string x:=fun p hp=>by obtain ⟨v,hv⟩:=hko p hp;obtain ⟨x,_,hx,_⟩:=Maps.keyOf_str hk hv;exact ⟨x,hx⟩
 have hnd:(strKeys (.map es)).Nodup:=by
  show (es.map fun p=>strOf p.1).Nodup
  refine List.pairwise_map.2 (hpw.imp_of_mem fun {p q} hp' hq' hne e=>hne ?_);obtain ⟨a,ha⟩:=hks p hp';obtain ⟨b,hb⟩:=hks q hq';rw [ha,hb] at e ⊢;exact congrArg _ e
 have hmem:∀ x,x∈strKeys (.map es)↔has (.map es) (.string x)=true:=fun x=>by
  rw [has_eq,List.any_eq_true]
  show x∈es.map (fun p=>strOf p.1)↔_
  rw [List.mem_map];constructor
  ·rintro ⟨p,hp',rfl⟩;obtain ⟨a,ha⟩:=hks p hp';exact ⟨p,hp',by rw [ha];simp [Lit.sameKey,strOf]⟩
  ·rintro ⟨p,hp',hs⟩;obtain ⟨a,ha⟩:=hks p hp';rw [ha] at hs;exact ⟨p,hp',by rw [ha];simpa [Lit.sameKey,strOf] using hs⟩
 refine ⟨hp.nodup_iff.2 hnd,fun x=>?_⟩;rw [hp.mem_iff,hmem x];exact hm.1 ⟨x.toArray⟩
end
end Go.Proofs.YtaphmhbmhcahaabGreat
