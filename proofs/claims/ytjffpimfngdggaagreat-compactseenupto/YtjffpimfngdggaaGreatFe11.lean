/- PIs -/
import Derived.Test.YtjffpimfngdggaaGreatTk
import Derived.Test.YtjffpimfngdggaaGreatFe10
import Derived.Test.YtjffpimfngdggaaGreatFe03
import Derived.Test.YtjffpimfngdggaaGreatFe08
set_option maxRecDepth 100000
set_option maxHeartbeats 4000000
namespace Go.Proofs.YtjffpimfngdggaaGreat
open Go.RowKit
attribute [local go_sem ↓] xT jn zq zp
attribute [local go_sem] zE zi qm zj xN zaE qB ko qY
def aj (P:Pst):Prop:=P.vec=V.aL (V.at' P.vec)/\chain P.vec sn0 P.cloud
theorem y7 {Z:List Int}:∀ (L:List Sn) (a:Sn),chain Z a L -> 0 <= a.hi -> a.hi <= 1000000000 -> 0 <= (cZ a L).hi/\(cZ a L).hi <= 1000000000
 | [],_,_,h1,h2=>⟨h1,h2⟩
 | c :: t,_,h,_,_=>by
  have b:=V.zfu Z c.rep;have h1:=h.1.lead;have h2:=h.1.ord;have h3:=h.1.top;exact y7 t c h.2 (by omega) h3
theorem zdf (l:List Sn) (k:Nat) (h:k < l.length):l.take (k+1)=l.take k++[l.getD k sn0]:=by
 rw [List.take_succ_eq_append_getElem h];simp [List.getD,h]
theorem zdO {Z:List Int} {a:Sn} {L:List Sn} (k:Nat) (h:chain Z a L):chain Z a (L.take k):=by
 have e:=List.take_append_drop k L;rw [<- e] at h;exact ((jU Z a _ _).1 h).1
theorem qW (p:Pv) (w:World) (hS:am w p) :
  Calls Tryz.prog 67 #[PV p] w fun e w'=>iB w w' e (aj p.P):=by
 have b1:=ze w (.cells (PC p) 26);obtain ⟨n0,n1⟩:=(zr w p).nums;obtain ⟨wk,aY⟩:∃ wk,w.alloc (.cells (PC p) 26)=wk:=⟨_,rfl⟩;rw [aY] at n0 n1 b1;have aq:=hide b1;have Fl:=hide (hS.below aq.out).vec;have sV:=hide (hS.below aq.out).cloud;have g8:=hS.cloud.big;clear hS b1;obtain ⟨pvo,pvn,pvc,pco,pcn,pcc,pP⟩:=p;dsimp only at n0 n1 Fl sV g8 ⊢;go_enter Tryz.func67,Tryz.ntmps67;go_wp2_with fail;refine (V.zdy pvo pvn pvc pP.vec _ Fl.out).mono ?_;rintro e w1 ⟨rfl,b2⟩;have aN:=wTr aq b2;have Gj:=hide (Fl.out.below b2);have Aq:=hide (sV.out.below b2);have m0:=(b2.cell (World.block_lt_of_cell? _ _ n0)).trans n0;have m1:=(b2.cell (World.block_lt_of_cell? _ _ n1)).trans n1;clear b2 n0 n1 Fl sV aY aq;by_cases hv:pP.vec=V.aL (V.at' pP.vec)
 ·have HV:=hide hv;rw [decide_eq_true hv];clear hv;obtain ⟨w2,a8,X2,b3,z3⟩:=lE w1 sn0 w1.heap.size rfl;have fB:=hide X2;have cg:=hide b3;have m2:=(b3.cell (World.block_lt_of_cell? _ _ m1)).trans m1;clear X2 b3 z3;go_wp2_with fail;clear a8;go_loopw [15] (fun i wr=>∃ j:Nat,j <= pcn/\i = .int .i64 j/\Hid (dr wr w1.heap.size (cZ sn0 (pP.cloud.take j))/\chain pP.vec sn0 (pP.cloud.take j)/\Below w1.heap.size w1 wr)) (fun i _=>pcn - (intOf i).toNat)
  case atStart=>exact ⟨0,Nat.zero_le _,rfl,fB.out,trivial,cg.out⟩
  case round =>
   obtain ⟨j,hj,rfl,HI⟩:=hrel
   rename World=>w6
   clear fB cg m2;by_cases ak:j < pcn
   ·obtain ⟨ad,hco,A0⟩:=(Aq.out.below HI.out.2.2).at j ak;subst hco;obtain ⟨c,Hc⟩:∃ c,Hid (pP.cloud.getD j sn0=c):=⟨_,rfl⟩;rw [Hc.out] at A0
    have JT:Hid (j < pP.cloud.length):=by show _ < _;rw [Aq.out.len];exact ak
    have HT:=hide (zdf pP.cloud j JT.out);rw [Hc.out] at HT;obtain ⟨ah,Ha⟩:∃ ah,Hid (cZ sn0 (pP.cloud.take j)=ah):=⟨_,rfl⟩;have KX:=y7 _ _ HI.out.2.1 (by decide) (by decide);rw [Ha.out] at HI KX;have dK:=qk A0;obtain ⟨w7,a8,X7,b7,z7⟩:=lE w6 c w6.heap.size rfl
    obtain ⟨x0,x1,x2⟩:=X7.at
    have l7:=qk (⟨x0,x1,x2⟩:iP w7 ⟨w6.heap.size,0,none⟩ c);have CL:=hide (HI.out.1.below b7)
    obtain ⟨y0,y1,y2⟩:=CL.out.at
    have dH:=hide (HI.out.2.2.trans (b7.mono HI.out.2.2.size));have v0:=(dH.out.cell (World.block_lt_of_cell? _ _ m0)).trans m0;have mV:=hide (Gj.out.below dH.out);have KS:=hide HI.out.2.1;have sZ:=bJ (s':=c) CL.out;obtain ⟨z,Hz⟩:∃ z,Hid (V.atI pP.vec c.rep=z):=⟨_,rfl⟩;have Cr:=V.zfu pP.vec c.rep;rw [Hz.out] at Cr;clear A0 X7 b7 z7 HI
    have ib:Hid (¬ gG pP.vec ah c -> ¬ aj pP):=fun hn h=>by
     have:=zdO (j+1) h.2;rw [HT.out,vH,Ha.out] at this;exact hn this.2
    have ri:Hid (gG pP.vec ah c -> chain pP.vec sn0 (pP.cloud.take (j+1))/\cZ sn0 (pP.cloud.take (j+1))=c):=fun h=>by
     rw [HT.out,vH,Ha.out,yR];exact ⟨⟨KS.out,h⟩,rfl⟩
    have eQ:=wTr aN dH.out;clear KS HT Ha Hc JT;obtain ⟨rp,lo,hi⟩:=c;obtain ⟨arp,alo,ahi⟩:=ah;dsimp only at dK x0 x1 x2 l7 y0 y1 y2 sZ KX Hz;by_cases e:rp=arp
    ·subst e;by_cases hmx:z < ahi
     ·obtain ⟨bR,HR⟩:∃ bR,Hid (V.isR rp=bR):=⟨_,rfl⟩
      cases bR with
      | false =>
       have dT:Hid (¬ aj pP):=ib.out (fun h=>by have h1:=h.isr;rw [HR.out] at h1;cases h1);go_wp2_with (first | (go_at_call 109;refine (V.xd pvo pvn pvc pP.vec rp _ mV.out).mono ?_;rintro e wz ⟨rfl,rfl⟩;rw [Hz.out]) | (go_at_call 108;refine (zP rp _).mono ?_;rintro e wz ⟨rfl,rfl⟩;rw [HR.out]));go_ret;exact ⟨false,rfl,BIf.no dT.out,eQ.out⟩
      | true =>
       by_cases k2:lo < ahi+2
       ·have dT:Hid (¬ aj pP):=ib.out (fun h=>by have h1:=h.lead;simp only [Hz.out] at h1;have h2:=h.gap rfl;simp only at h2;omega);go_wp2_with (first | (go_at_call 109;refine (V.xd pvo pvn pvc pP.vec rp _ mV.out).mono ?_;rintro e wz ⟨rfl,rfl⟩;rw [Hz.out]) | (go_at_call 108;refine (zP rp _).mono ?_;rintro e wz ⟨rfl,rfl⟩;rw [HR.out]));go_ret;exact ⟨false,rfl,BIf.no dT.out,eQ.out⟩
       by_cases k3:hi < lo
       ·have dT:Hid (¬ aj pP):=ib.out (fun h=>by have h1:=h.ord;simp only at h1;omega);go_wp2_with (first | (go_at_call 109;refine (V.xd pvo pvn pvc pP.vec rp _ mV.out).mono ?_;rintro e wz ⟨rfl,rfl⟩;rw [Hz.out]) | (go_at_call 108;refine (zP rp _).mono ?_;rintro e wz ⟨rfl,rfl⟩;rw [HR.out]));go_ret;exact ⟨false,rfl,BIf.no dT.out,eQ.out⟩
       by_cases k4:1000000000 < hi
       ·have dT:Hid (¬ aj pP):=ib.out (fun h=>by have h1:=h.top;simp only at h1;omega);go_wp2_with (first | (go_at_call 109;refine (V.xd pvo pvn pvc pP.vec rp _ mV.out).mono ?_;rintro e wz ⟨rfl,rfl⟩;rw [Hz.out]) | (go_at_call 108;refine (zP rp _).mono ?_;rintro e wz ⟨rfl,rfl⟩;rw [HR.out]));go_ret;exact ⟨false,rfl,BIf.no dT.out,eQ.out⟩
       have uz:=hide (ri.out ⟨HR.out,by simp only;omega,by simp only [Hz.out];omega,fun h=>by simp only;omega,by simp only;omega,by simp only;omega⟩);go_wp2_with (first | (go_at_call 109;refine (V.xd pvo pvn pvc pP.vec rp _ mV.out).mono ?_;rintro e wz ⟨rfl,rfl⟩;rw [Hz.out]) | (go_at_call 108;refine (zP rp _).mono ?_;rintro e wz ⟨rfl,rfl⟩;rw [HR.out]));go_roundw
       case rel=>exact ⟨j+1,by omega,by go_num,by rw [uz.out.2];exact setRow_heap _ _ _ _ _ _ CL.out,uz.out.1,zh dH.out (Nat.le_refl _)⟩
       case measure=>simp [intOf];omega
     ·replace hmx:ahi <= z:=by omega
      obtain ⟨bR,HR⟩:∃ bR,Hid (V.isR rp=bR):=⟨_,rfl⟩
      cases bR with
      | false =>
       have dT:Hid (¬ aj pP):=ib.out (fun h=>by have h1:=h.isr;rw [HR.out] at h1;cases h1);go_wp2_with (first | (go_at_call 109;refine (V.xd pvo pvn pvc pP.vec rp _ mV.out).mono ?_;rintro e wz ⟨rfl,rfl⟩;rw [Hz.out]) | (go_at_call 108;refine (zP rp _).mono ?_;rintro e wz ⟨rfl,rfl⟩;rw [HR.out]));go_ret;exact ⟨false,rfl,BIf.no dT.out,eQ.out⟩
      | true =>
       by_cases k2:lo < z+2
       ·have dT:Hid (¬ aj pP):=ib.out (fun h=>by have h1:=h.lead;simp only [Hz.out] at h1;have h2:=h.gap rfl;simp only at h2;omega);go_wp2_with (first | (go_at_call 109;refine (V.xd pvo pvn pvc pP.vec rp _ mV.out).mono ?_;rintro e wz ⟨rfl,rfl⟩;rw [Hz.out]) | (go_at_call 108;refine (zP rp _).mono ?_;rintro e wz ⟨rfl,rfl⟩;rw [HR.out]));go_ret;exact ⟨false,rfl,BIf.no dT.out,eQ.out⟩
       by_cases k3:hi < lo
       ·have dT:Hid (¬ aj pP):=ib.out (fun h=>by have h1:=h.ord;simp only at h1;omega);go_wp2_with (first | (go_at_call 109;refine (V.xd pvo pvn pvc pP.vec rp _ mV.out).mono ?_;rintro e wz ⟨rfl,rfl⟩;rw [Hz.out]) | (go_at_call 108;refine (zP rp _).mono ?_;rintro e wz ⟨rfl,rfl⟩;rw [HR.out]));go_ret;exact ⟨false,rfl,BIf.no dT.out,eQ.out⟩
       by_cases k4:1000000000 < hi
       ·have dT:Hid (¬ aj pP):=ib.out (fun h=>by have h1:=h.top;simp only at h1;omega);go_wp2_with (first | (go_at_call 109;refine (V.xd pvo pvn pvc pP.vec rp _ mV.out).mono ?_;rintro e wz ⟨rfl,rfl⟩;rw [Hz.out]) | (go_at_call 108;refine (zP rp _).mono ?_;rintro e wz ⟨rfl,rfl⟩;rw [HR.out]));go_ret;exact ⟨false,rfl,BIf.no dT.out,eQ.out⟩
       have uz:=hide (ri.out ⟨HR.out,by simp only;omega,by simp only [Hz.out];omega,fun h=>by simp only;omega,by simp only;omega,by simp only;omega⟩);go_wp2_with (first | (go_at_call 109;refine (V.xd pvo pvn pvc pP.vec rp _ mV.out).mono ?_;rintro e wz ⟨rfl,rfl⟩;rw [Hz.out]) | (go_at_call 108;refine (zP rp _).mono ?_;rintro e wz ⟨rfl,rfl⟩;rw [HR.out]));go_roundw
       case rel=>exact ⟨j+1,by omega,by go_num,by rw [uz.out.2];exact setRow_heap _ _ _ _ _ _ CL.out,uz.out.1,zh dH.out (Nat.le_refl _)⟩
       case measure=>simp [intOf];omega
    ·have e':(rp == arp)=false:=by simp [e]
     have HE:=hide e;clear e;obtain ⟨bR,HR⟩:∃ bR,Hid (V.isR rp=bR):=⟨_,rfl⟩
     cases bR with
     | false =>
      have dT:Hid (¬ aj pP):=ib.out (fun h=>by have h1:=h.isr;rw [HR.out] at h1;cases h1);go_wp2_with (first | (go_at_call 109;refine (V.xd pvo pvn pvc pP.vec rp _ mV.out).mono ?_;rintro e wz ⟨rfl,rfl⟩;rw [Hz.out]) | (go_at_call 108;refine (zP rp _).mono ?_;rintro e wz ⟨rfl,rfl⟩;rw [HR.out]));go_ret;exact ⟨false,rfl,BIf.no dT.out,eQ.out⟩
     | true =>
      by_cases k1:rp < arp
      ·have dT:Hid (¬ aj pP):=ib.out (fun h=>by have h1:=h.rep;simp only at h1;omega);go_wp2_with (first | (go_at_call 109;refine (V.xd pvo pvn pvc pP.vec rp _ mV.out).mono ?_;rintro e wz ⟨rfl,rfl⟩;rw [Hz.out]) | (go_at_call 108;refine (zP rp _).mono ?_;rintro e wz ⟨rfl,rfl⟩;rw [HR.out]));go_ret;exact ⟨false,rfl,BIf.no dT.out,eQ.out⟩
      by_cases k2:lo < z+2
      ·have dT:Hid (¬ aj pP):=ib.out (fun h=>by have h1:=h.lead;simp only [Hz.out] at h1;omega);go_wp2_with (first | (go_at_call 109;refine (V.xd pvo pvn pvc pP.vec rp _ mV.out).mono ?_;rintro e wz ⟨rfl,rfl⟩;rw [Hz.out]) | (go_at_call 108;refine (zP rp _).mono ?_;rintro e wz ⟨rfl,rfl⟩;rw [HR.out]));go_ret;exact ⟨false,rfl,BIf.no dT.out,eQ.out⟩
      by_cases k3:hi < lo
      ·have dT:Hid (¬ aj pP):=ib.out (fun h=>by have h1:=h.ord;simp only at h1;omega);go_wp2_with (first | (go_at_call 109;refine (V.xd pvo pvn pvc pP.vec rp _ mV.out).mono ?_;rintro e wz ⟨rfl,rfl⟩;rw [Hz.out]) | (go_at_call 108;refine (zP rp _).mono ?_;rintro e wz ⟨rfl,rfl⟩;rw [HR.out]));go_ret;exact ⟨false,rfl,BIf.no dT.out,eQ.out⟩
      by_cases k4:1000000000 < hi
      ·have dT:Hid (¬ aj pP):=ib.out (fun h=>by have h1:=h.top;simp only at h1;omega);go_wp2_with (first | (go_at_call 109;refine (V.xd pvo pvn pvc pP.vec rp _ mV.out).mono ?_;rintro e wz ⟨rfl,rfl⟩;rw [Hz.out]) | (go_at_call 108;refine (zP rp _).mono ?_;rintro e wz ⟨rfl,rfl⟩;rw [HR.out]));go_ret;exact ⟨false,rfl,BIf.no dT.out,eQ.out⟩
      have uz:=hide (ri.out ⟨HR.out,by simp only;omega,by simp only [Hz.out];omega,fun h=>absurd h HE.out,by simp only;omega,by simp only;omega⟩);go_wp2_with (first | (go_at_call 109;refine (V.xd pvo pvn pvc pP.vec rp _ mV.out).mono ?_;rintro e wz ⟨rfl,rfl⟩;rw [Hz.out]) | (go_at_call 108;refine (zP rp _).mono ?_;rintro e wz ⟨rfl,rfl⟩;rw [HR.out]));go_roundw
      case rel=>exact ⟨j+1,by omega,by go_num,by rw [uz.out.2];exact setRow_heap _ _ _ _ _ _ CL.out,uz.out.1,zh dH.out (Nat.le_refl _)⟩
      case measure=>simp [intOf];omega
   ·obtain rfl:j=pcn:=by omega
    have HY:Hid (aj pP):=by
     refine ⟨HV.out,?_⟩;have:=HI.out.2.1;rw [List.take_of_length_le (by rw [Aq.out.len];exact Nat.le_refl _)] at this;exact this
    have eQ:=wTr aN HI.out.2.2;go_wp2_with fail;go_ret;exact ⟨true,rfl,BIf.yes HY.out,eQ.out⟩
 ·have HN:Hid (¬ aj pP):=fun h=>hv h.1;rw [decide_eq_false hv];clear hv;go_wp2_with fail;go_ret;exact ⟨false,rfl,BIf.no HN.out,aN.out⟩
end Go.Proofs.YtjffpimfngdggaaGreat
