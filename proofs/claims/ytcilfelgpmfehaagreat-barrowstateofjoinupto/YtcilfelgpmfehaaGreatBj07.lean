/- PIs -/
import Derived.Test.YtcilfelgpmfehaaGreatBj06
import Derived.Test.YtcilfelgpmfehaaGreatBj04
set_option maxRecDepth 100000
set_option maxHeartbeats 4000000
namespace Go.Proofs.YtcilfelgpmfehaaGreat
open Go.RowKit
attribute [local go_sem ↓] qX xu zl zk
attribute [local go_sem] zw zf zW zh qS bp qi xW qy
def af (P:Pst):Prop:=P.vec=V.aH (V.at' P.vec)/\chain P.vec sn0 P.cloud
theorem jR {Z:List Int}:∀ (L:List Sn) (a:Sn),chain Z a L -> 0 <= a.hi -> a.hi <= 1000000000 -> 0 <= (aX a L).hi/\(aX a L).hi <= 1000000000
 | [],_,_,h1,h2=>⟨h1,h2⟩
 | c :: t,_,h,_,_=>by
  have b:=V.zaw Z c.rep;have h1:=h.1.lead;have h2:=h.1.ord;have h3:=h.1.top;exact jR t c h.2 (by omega) h3
theorem x6 (l:List Sn) (k:Nat) (h:k < l.length):l.take (k+1)=l.take k++[l.getD k sn0]:=by
 rw [List.take_succ_eq_append_getElem h];simp [List.getD,h]
theorem yp {Z:List Int} {a:Sn} {L:List Sn} (k:Nat) (h:chain Z a L):chain Z a (L.take k):=by
 have e:=List.take_append_drop k L;rw [<- e] at h;exact ((jA Z a _ _).1 h).1
theorem qP (p:Pv) (w:World) (hS:ak w p) :
  Calls Tryz.prog 66 #[PV p] w fun e w'=>dr w w' e (af p.P):=by
 have b1:=ze w (.cells (PC p) 26);obtain ⟨n0,n1⟩:=(zq w p).nums;obtain ⟨wk,cq⟩:∃ wk,w.alloc (.cells (PC p) 26)=wk:=⟨_,rfl⟩;rw [cq] at n0 n1 b1;have az:=hide b1;have ol:=hide (hS.below az.out).vec;have ma:=hide (hS.below az.out).cloud;have g8:=hS.cloud.big;clear hS b1;obtain ⟨pvo,pvn,pvc,pco,pcn,pcc,pP⟩:=p;dsimp only at n0 n1 ol ma g8 ⊢;go_enter Tryz.func66,Tryz.ntmps66;go_wp2_with fail;refine (V.zb8 pvo pvn pvc pP.vec _ ol.out).mono ?_;rintro e w1 ⟨rfl,b2⟩;have aW:=wTr az b2;have GB:=hide (ol.out.below b2);have tL:=hide (ma.out.below b2);have m0:=(b2.cell (World.block_lt_of_cell? _ _ n0)).trans n0;have m1:=(b2.cell (World.block_lt_of_cell? _ _ n1)).trans n1;clear b2 n0 n1 ol ma cq az;by_cases hv:pP.vec=V.aH (V.at' pP.vec)
 ·have HV:=hide hv;rw [decide_eq_true hv];clear hv;obtain ⟨w2,cr,X2,b3,z3⟩:=fI w1 sn0 w1.heap.size rfl;have dN:=hide X2;have cd:=hide b3;have m2:=(b3.cell (World.block_lt_of_cell? _ _ m1)).trans m1;clear X2 b3 z3;go_wp2_with fail;clear cr;go_loopw [15] (fun i wr=>∃ j:Nat,j <= pcn/\i = .int .i64 j/\Hid (cZ wr w1.heap.size (aX sn0 (pP.cloud.take j))/\chain pP.vec sn0 (pP.cloud.take j)/\Below w1.heap.size w1 wr)) (fun i _=>pcn - (intOf i).toNat)
  case atStart=>exact ⟨0,Nat.zero_le _,rfl,dN.out,trivial,cd.out⟩
  case round =>
   obtain ⟨j,hj,rfl,HI⟩:=hrel
   rename World=>w6
   clear dN cd m2;by_cases aq:j < pcn
   ·obtain ⟨ad,hco,A0⟩:=(tL.out.below HI.out.2.2).at j aq;subst hco;obtain ⟨c,Hc⟩:∃ c,Hid (pP.cloud.getD j sn0=c):=⟨_,rfl⟩;rw [Hc.out] at A0
    have Aq:Hid (j < pP.cloud.length):=by show _ < _;rw [tL.out.len];exact aq
    have HT:=hide (x6 pP.cloud j Aq.out);rw [Hc.out] at HT;obtain ⟨ah,Ha⟩:∃ ah,Hid (aX sn0 (pP.cloud.take j)=ah):=⟨_,rfl⟩;have rI:=jR _ _ HI.out.2.1 (by decide) (by decide);rw [Ha.out] at HI rI;have dz:=zS A0;obtain ⟨w7,cr,X7,b7,z7⟩:=fI w6 c w6.heap.size rfl
    obtain ⟨x0,x1,x2⟩:=X7.at
    have l7:=zS (⟨x0,x1,x2⟩:gA w7 ⟨w6.heap.size,0,none⟩ c);have BZ:=hide (HI.out.1.below b7)
    obtain ⟨y0,y1,y2⟩:=BZ.out.at
    have cM:=hide (HI.out.2.2.trans (b7.mono HI.out.2.2.size));have v0:=(cM.out.cell (World.block_lt_of_cell? _ _ m0)).trans m0;have mf:=hide (GB.out.below cM.out);have JV:=hide HI.out.2.1;have rS:=yG (s':=c) BZ.out;obtain ⟨z,Hz⟩:∃ z,Hid (V.atI pP.vec c.rep=z):=⟨_,rfl⟩;have As:=V.zaw pP.vec c.rep;rw [Hz.out] at As;clear A0 X7 b7 z7 HI
    have dP:Hid (¬ dI pP.vec ah c -> ¬ af pP):=fun hn h=>by
     have:=yp (j+1) h.2;rw [HT.out,x9,Ha.out] at this;exact hn this.2
    have fH:Hid (dI pP.vec ah c -> chain pP.vec sn0 (pP.cloud.take (j+1))/\aX sn0 (pP.cloud.take (j+1))=c):=fun h=>by
     rw [HT.out,x9,Ha.out,kF];exact ⟨⟨JV.out,h⟩,rfl⟩
    have dA:=wTr aW cM.out;clear JV HT Ha Hc Aq;obtain ⟨rp,lo,hi⟩:=c;obtain ⟨arp,alo,ahi⟩:=ah;dsimp only at dz x0 x1 x2 l7 y0 y1 y2 rS rI Hz;by_cases e:rp=arp
    ·subst e;by_cases hmx:z < ahi
     ·obtain ⟨bR,HR⟩:∃ bR,Hid (V.isR rp=bR):=⟨_,rfl⟩
      cases bR with
      | false =>
       have dE:Hid (¬ af pP):=dP.out (fun h=>by have h1:=h.isr;rw [HR.out] at h1;cases h1);go_wp2_with (first | (go_at_call 90;refine (V.qR pvo pvn pvc pP.vec rp _ mf.out).mono ?_;rintro e wz ⟨rfl,rfl⟩;rw [Hz.out]) | (go_at_call 91;refine (zE rp _).mono ?_;rintro e wz ⟨rfl,rfl⟩;rw [HR.out]));go_ret;exact ⟨false,rfl,BIf.no dE.out,dA.out⟩
      | true =>
       by_cases k2:lo < ahi+2
       ·have dE:Hid (¬ af pP):=dP.out (fun h=>by have h1:=h.lead;simp only [Hz.out] at h1;have h2:=h.gap rfl;simp only at h2;omega);go_wp2_with (first | (go_at_call 90;refine (V.qR pvo pvn pvc pP.vec rp _ mf.out).mono ?_;rintro e wz ⟨rfl,rfl⟩;rw [Hz.out]) | (go_at_call 91;refine (zE rp _).mono ?_;rintro e wz ⟨rfl,rfl⟩;rw [HR.out]));go_ret;exact ⟨false,rfl,BIf.no dE.out,dA.out⟩
       by_cases k3:hi < lo
       ·have dE:Hid (¬ af pP):=dP.out (fun h=>by have h1:=h.ord;simp only at h1;omega);go_wp2_with (first | (go_at_call 90;refine (V.qR pvo pvn pvc pP.vec rp _ mf.out).mono ?_;rintro e wz ⟨rfl,rfl⟩;rw [Hz.out]) | (go_at_call 91;refine (zE rp _).mono ?_;rintro e wz ⟨rfl,rfl⟩;rw [HR.out]));go_ret;exact ⟨false,rfl,BIf.no dE.out,dA.out⟩
       by_cases k4:1000000000 < hi
       ·have dE:Hid (¬ af pP):=dP.out (fun h=>by have h1:=h.top;simp only at h1;omega);go_wp2_with (first | (go_at_call 90;refine (V.qR pvo pvn pvc pP.vec rp _ mf.out).mono ?_;rintro e wz ⟨rfl,rfl⟩;rw [Hz.out]) | (go_at_call 91;refine (zE rp _).mono ?_;rintro e wz ⟨rfl,rfl⟩;rw [HR.out]));go_ret;exact ⟨false,rfl,BIf.no dE.out,dA.out⟩
       have mE:=hide (fH.out ⟨HR.out,by simp only;omega,by simp only [Hz.out];omega,fun h=>by simp only;omega,by simp only;omega,by simp only;omega⟩);go_wp2_with (first | (go_at_call 90;refine (V.qR pvo pvn pvc pP.vec rp _ mf.out).mono ?_;rintro e wz ⟨rfl,rfl⟩;rw [Hz.out]) | (go_at_call 91;refine (zE rp _).mono ?_;rintro e wz ⟨rfl,rfl⟩;rw [HR.out]));go_roundw
       case rel=>exact ⟨j+1,by omega,by go_num,by rw [mE.out.2];exact setRow_heap _ _ _ _ _ _ BZ.out,mE.out.1,zg cM.out (Nat.le_refl _)⟩
       case measure=>simp [intOf];omega
     ·replace hmx:ahi <= z:=by omega
      obtain ⟨bR,HR⟩:∃ bR,Hid (V.isR rp=bR):=⟨_,rfl⟩
      cases bR with
      | false =>
       have dE:Hid (¬ af pP):=dP.out (fun h=>by have h1:=h.isr;rw [HR.out] at h1;cases h1);go_wp2_with (first | (go_at_call 90;refine (V.qR pvo pvn pvc pP.vec rp _ mf.out).mono ?_;rintro e wz ⟨rfl,rfl⟩;rw [Hz.out]) | (go_at_call 91;refine (zE rp _).mono ?_;rintro e wz ⟨rfl,rfl⟩;rw [HR.out]));go_ret;exact ⟨false,rfl,BIf.no dE.out,dA.out⟩
      | true =>
       by_cases k2:lo < z+2
       ·have dE:Hid (¬ af pP):=dP.out (fun h=>by have h1:=h.lead;simp only [Hz.out] at h1;have h2:=h.gap rfl;simp only at h2;omega);go_wp2_with (first | (go_at_call 90;refine (V.qR pvo pvn pvc pP.vec rp _ mf.out).mono ?_;rintro e wz ⟨rfl,rfl⟩;rw [Hz.out]) | (go_at_call 91;refine (zE rp _).mono ?_;rintro e wz ⟨rfl,rfl⟩;rw [HR.out]));go_ret;exact ⟨false,rfl,BIf.no dE.out,dA.out⟩
       by_cases k3:hi < lo
       ·have dE:Hid (¬ af pP):=dP.out (fun h=>by have h1:=h.ord;simp only at h1;omega);go_wp2_with (first | (go_at_call 90;refine (V.qR pvo pvn pvc pP.vec rp _ mf.out).mono ?_;rintro e wz ⟨rfl,rfl⟩;rw [Hz.out]) | (go_at_call 91;refine (zE rp _).mono ?_;rintro e wz ⟨rfl,rfl⟩;rw [HR.out]));go_ret;exact ⟨false,rfl,BIf.no dE.out,dA.out⟩
       by_cases k4:1000000000 < hi
       ·have dE:Hid (¬ af pP):=dP.out (fun h=>by have h1:=h.top;simp only at h1;omega);go_wp2_with (first | (go_at_call 90;refine (V.qR pvo pvn pvc pP.vec rp _ mf.out).mono ?_;rintro e wz ⟨rfl,rfl⟩;rw [Hz.out]) | (go_at_call 91;refine (zE rp _).mono ?_;rintro e wz ⟨rfl,rfl⟩;rw [HR.out]));go_ret;exact ⟨false,rfl,BIf.no dE.out,dA.out⟩
       have mE:=hide (fH.out ⟨HR.out,by simp only;omega,by simp only [Hz.out];omega,fun h=>by simp only;omega,by simp only;omega,by simp only;omega⟩);go_wp2_with (first | (go_at_call 90;refine (V.qR pvo pvn pvc pP.vec rp _ mf.out).mono ?_;rintro e wz ⟨rfl,rfl⟩;rw [Hz.out]) | (go_at_call 91;refine (zE rp _).mono ?_;rintro e wz ⟨rfl,rfl⟩;rw [HR.out]));go_roundw
       case rel=>exact ⟨j+1,by omega,by go_num,by rw [mE.out.2];exact setRow_heap _ _ _ _ _ _ BZ.out,mE.out.1,zg cM.out (Nat.le_refl _)⟩
       case measure=>simp [intOf];omega
    ·have e':(rp == arp)=false:=by simp [e]
     have HE:=hide e;clear e;obtain ⟨bR,HR⟩:∃ bR,Hid (V.isR rp=bR):=⟨_,rfl⟩
     cases bR with
     | false =>
      have dE:Hid (¬ af pP):=dP.out (fun h=>by have h1:=h.isr;rw [HR.out] at h1;cases h1);go_wp2_with (first | (go_at_call 90;refine (V.qR pvo pvn pvc pP.vec rp _ mf.out).mono ?_;rintro e wz ⟨rfl,rfl⟩;rw [Hz.out]) | (go_at_call 91;refine (zE rp _).mono ?_;rintro e wz ⟨rfl,rfl⟩;rw [HR.out]));go_ret;exact ⟨false,rfl,BIf.no dE.out,dA.out⟩
     | true =>
      by_cases k1:rp < arp
      ·have dE:Hid (¬ af pP):=dP.out (fun h=>by have h1:=h.rep;simp only at h1;omega);go_wp2_with (first | (go_at_call 90;refine (V.qR pvo pvn pvc pP.vec rp _ mf.out).mono ?_;rintro e wz ⟨rfl,rfl⟩;rw [Hz.out]) | (go_at_call 91;refine (zE rp _).mono ?_;rintro e wz ⟨rfl,rfl⟩;rw [HR.out]));go_ret;exact ⟨false,rfl,BIf.no dE.out,dA.out⟩
      by_cases k2:lo < z+2
      ·have dE:Hid (¬ af pP):=dP.out (fun h=>by have h1:=h.lead;simp only [Hz.out] at h1;omega);go_wp2_with (first | (go_at_call 90;refine (V.qR pvo pvn pvc pP.vec rp _ mf.out).mono ?_;rintro e wz ⟨rfl,rfl⟩;rw [Hz.out]) | (go_at_call 91;refine (zE rp _).mono ?_;rintro e wz ⟨rfl,rfl⟩;rw [HR.out]));go_ret;exact ⟨false,rfl,BIf.no dE.out,dA.out⟩
      by_cases k3:hi < lo
      ·have dE:Hid (¬ af pP):=dP.out (fun h=>by have h1:=h.ord;simp only at h1;omega);go_wp2_with (first | (go_at_call 90;refine (V.qR pvo pvn pvc pP.vec rp _ mf.out).mono ?_;rintro e wz ⟨rfl,rfl⟩;rw [Hz.out]) | (go_at_call 91;refine (zE rp _).mono ?_;rintro e wz ⟨rfl,rfl⟩;rw [HR.out]));go_ret;exact ⟨false,rfl,BIf.no dE.out,dA.out⟩
      by_cases k4:1000000000 < hi
      ·have dE:Hid (¬ af pP):=dP.out (fun h=>by have h1:=h.top;simp only at h1;omega);go_wp2_with (first | (go_at_call 90;refine (V.qR pvo pvn pvc pP.vec rp _ mf.out).mono ?_;rintro e wz ⟨rfl,rfl⟩;rw [Hz.out]) | (go_at_call 91;refine (zE rp _).mono ?_;rintro e wz ⟨rfl,rfl⟩;rw [HR.out]));go_ret;exact ⟨false,rfl,BIf.no dE.out,dA.out⟩
      have mE:=hide (fH.out ⟨HR.out,by simp only;omega,by simp only [Hz.out];omega,fun h=>absurd h HE.out,by simp only;omega,by simp only;omega⟩);go_wp2_with (first | (go_at_call 90;refine (V.qR pvo pvn pvc pP.vec rp _ mf.out).mono ?_;rintro e wz ⟨rfl,rfl⟩;rw [Hz.out]) | (go_at_call 91;refine (zE rp _).mono ?_;rintro e wz ⟨rfl,rfl⟩;rw [HR.out]));go_roundw
      case rel=>exact ⟨j+1,by omega,by go_num,by rw [mE.out.2];exact setRow_heap _ _ _ _ _ _ BZ.out,mE.out.1,zg cM.out (Nat.le_refl _)⟩
      case measure=>simp [intOf];omega
   ·obtain rfl:j=pcn:=by omega
    have HY:Hid (af pP):=by
     refine ⟨HV.out,?_⟩;have:=HI.out.2.1;rw [List.take_of_length_le (by rw [tL.out.len];exact Nat.le_refl _)] at this;exact this
    have dA:=wTr aW HI.out.2.2;go_wp2_with fail;go_ret;exact ⟨true,rfl,BIf.yes HY.out,dA.out⟩
 ·have HN:Hid (¬ af pP):=fun h=>hv h.1;rw [decide_eq_false hv];clear hv;go_wp2_with fail;go_ret;exact ⟨false,rfl,BIf.no HN.out,aW.out⟩
end Go.Proofs.YtcilfelgpmfehaaGreat
