/- PIs GIn -/
import Derived.Test.YtjffpimfngdggaaGreatFf08
import Derived.Test.YtjffpimfngdggaaGreatFf07
set_option maxRecDepth 100000
set_option maxHeartbeats 4000000
namespace Go.Proofs.YtjffpimfngdggaaGreat
section
open Go.RowKit
attribute [local go_sem ↓] x9 jv zq zp
attribute [local go_sem] zI zi qq zk xV zaZ qD ky xf
def ag (P:Pst):Prop:=P.vec=V.aR (V.at' P.vec)/\chain P.vec sn0 P.cloud
theorem bG {Z:List Int}:∀ (L:List Sn) (a:Sn),chain Z a L -> 0 <= a.hi -> a.hi <= 1000000000 -> 0 <= (du a L).hi/\(du a L).hi <= 1000000000
 | [],_,_,h1,h2=>⟨h1,h2⟩
 | c :: t,_,h,_,_=>by
  have b:=V.zf4 Z c.rep;have h1:=h.1.lead;have h2:=h.1.ord;have h3:=h.1.top;exact bG t c h.2 (by omega) h3
theorem zdL (l:List Sn) (k:Nat) (h:k < l.length):l.take (k+1)=l.take k++[l.getD k sn0]:=by
 rw [List.take_succ_eq_append_getElem h];simp [List.getD,h]
theorem zek {Z:List Int} {a:Sn} {L:List Sn} (k:Nat) (h:chain Z a L):chain Z a (L.take k):=by
 have e:=List.take_append_drop k L;rw [<- e] at h;exact ((j5 Z a _ _).1 h).1
theorem xd (p:Pv) (w:World) (hS:am w p) :
  Calls Tryz.prog 67 #[PV p] w fun e w'=>fP w w' e (ag p.P):=by
 have b1:=ze w (.cells (PC p) 26);obtain ⟨n0,n1⟩:=(zm w p).nums;obtain ⟨wk,aL⟩:∃ wk,w.alloc (.cells (PC p) 26)=wk:=⟨_,rfl⟩;rw [aL] at n0 n1 b1;have al:=hide b1;have FG:=hide (hS.below al).vec;have tI:=hide (hS.below al).cloud;have g8:=hS.cloud.big;clear hS b1;obtain ⟨pvo,pvn,pvc,pco,pcn,pcc,pP⟩:=p;dsimp only at n0 n1 FG tI g8 ⊢;go_enter Tryz.func67,Tryz.ntmps67;go_wp2_with fail;refine (V.zd2 pvo pvn pvc pP.vec _ FG).mono ?_;rintro e w1 ⟨rfl,b2⟩;have aM:=wTr al b2;have Gn:=hide (FG.below b2);have BN:=hide (tI.below b2);have m0:=(b2.cell (World.block_lt_of_cell? _ _ n0)).trans n0;have m1:=(b2.cell (World.block_lt_of_cell? _ _ n1)).trans n1;clear b2 n0 n1 FG tI aL al;by_cases hv:pP.vec=V.aR (V.at' pP.vec)
 ·have HV:=hide hv;rw [decide_eq_true hv];clear hv;obtain ⟨w2,cd,X2,b3,z3⟩:=iL w1 sn0 w1.heap.size rfl;have eS:=hide X2;have cu:=hide b3;have m2:=(b3.cell (World.block_lt_of_cell? _ _ m1)).trans m1;clear X2 b3 z3;go_wp2_with fail;clear cd;go_loopw [15] (fun i wr=>∃ j:Nat,j <= pcn/\i = .int .i64 j/\Hid (dC wr w1.heap.size (du sn0 (pP.cloud.take j))/\chain pP.vec sn0 (pP.cloud.take j)/\Below w1.heap.size w1 wr)) (fun i _=>pcn - (intOf i).toNat)
  case atStart=>exact ⟨0,Nat.zero_le _,rfl,eS.out,trivial,cu.out⟩
  case round =>
   obtain ⟨j,hj,rfl,HI⟩:=hrel
   rename World=>w6
   clear eS cu m2;by_cases ak:j < pcn
   ·obtain ⟨ad,hco,A0⟩:=(BN.below HI.2.2).at j ak;subst hco;obtain ⟨c,Hc⟩:∃ c,Hid (pP.cloud.getD j sn0=c):=⟨_,rfl⟩;rw [Hc.out] at A0
    have J5:Hid (j < pP.cloud.length):=by show _ < _;rw [BN.len];exact ak
    have HT:=hide (zdL pP.cloud j J5);rw [Hc.out] at HT;obtain ⟨ah,Ha⟩:∃ ah,Hid (du sn0 (pP.cloud.take j)=ah):=⟨_,rfl⟩;have Kk:=bG _ _ HI.2.1 (by decide) (by decide);rw [Ha.out] at HI Kk;have dF:=qk A0;obtain ⟨w7,cd,X7,b7,z7⟩:=iL w6 c w6.heap.size rfl
    obtain ⟨x0,x1,x2⟩:=X7.at
    have l7:=qk (⟨x0,x1,x2⟩:lB w7 ⟨w6.heap.size,0,none⟩ c);have tZ:=hide (HI.1.below b7)
    obtain ⟨y0,y1,y2⟩:=tZ.at
    have dR:=hide (HI.2.2.trans (b7.mono HI.2.2.size));have v0:=(dR.cell (World.block_lt_of_cell? _ _ m0)).trans m0;have nO:=hide (Gn.below dR);have J6:=hide HI.2.1;have tY:=zad (s':=c) tZ.out;obtain ⟨z,Hz⟩:∃ z,Hid (V.atI pP.vec c.rep=z):=⟨_,rfl⟩;have Ap:=V.zf4 pP.vec c.rep;rw [Hz.out] at Ap;clear A0 X7 b7 z7 HI
    have iz:Hid (¬ gX pP.vec ah c -> ¬ ag pP):=fun hn h=>by
     have:=zek (j+1) h.2;rw [HT.out,vR,Ha.out] at this;exact hn this.2
    have rR:Hid (gX pP.vec ah c -> chain pP.vec sn0 (pP.cloud.take (j+1))/\du sn0 (pP.cloud.take (j+1))=c):=fun h=>by
     rw [HT.out,vR,Ha.out,bp];exact ⟨⟨J6.out,h⟩,rfl⟩
    have fk:=wTr aM dR.out;clear J6 HT Ha Hc J5;obtain ⟨rp,lo,hi⟩:=c;obtain ⟨arp,alo,ahi⟩:=ah;dsimp only at dF x0 x1 x2 l7 y0 y1 y2 tY Kk Hz;by_cases e:rp=arp
    ·subst e;by_cases hmx:z < ahi
     ·obtain ⟨bR,HR⟩:∃ bR,Hid (V.isR rp=bR):=⟨_,rfl⟩
      cases bR with
      | false =>
       have ek:Hid (¬ ag pP):=iz.out (fun h=>by have h1:=h.isr;rw [HR.out] at h1;cases h1);go_wp2_with (first | (go_at_call 109;refine (V.xj pvo pvn pvc pP.vec rp _ nO).mono ?_;rintro e wz ⟨rfl,rfl⟩;rw [Hz.out]) | (go_at_call 108;refine (zN rp _).mono ?_;rintro e wz ⟨rfl,rfl⟩;rw [HR.out]));go_ret;exact ⟨false,rfl,BIf.no ek,fk.out⟩
      | true =>
       by_cases k2:lo < ahi+2
       ·have ek:Hid (¬ ag pP):=iz.out (fun h=>by have h1:=h.lead;simp only [Hz.out] at h1;have h2:=h.gap rfl;simp only at h2;omega);go_wp2_with (first | (go_at_call 109;refine (V.xj pvo pvn pvc pP.vec rp _ nO).mono ?_;rintro e wz ⟨rfl,rfl⟩;rw [Hz.out]) | (go_at_call 108;refine (zN rp _).mono ?_;rintro e wz ⟨rfl,rfl⟩;rw [HR.out]));go_ret;exact ⟨false,rfl,BIf.no ek,fk.out⟩
       by_cases k3:hi < lo
       ·have ek:Hid (¬ ag pP):=iz.out (fun h=>by have h1:=h.ord;simp only at h1;omega);go_wp2_with (first | (go_at_call 109;refine (V.xj pvo pvn pvc pP.vec rp _ nO).mono ?_;rintro e wz ⟨rfl,rfl⟩;rw [Hz.out]) | (go_at_call 108;refine (zN rp _).mono ?_;rintro e wz ⟨rfl,rfl⟩;rw [HR.out]));go_ret;exact ⟨false,rfl,BIf.no ek,fk.out⟩
       by_cases k4:1000000000 < hi
       ·have ek:Hid (¬ ag pP):=iz.out (fun h=>by have h1:=h.top;simp only at h1;omega);go_wp2_with (first | (go_at_call 109;refine (V.xj pvo pvn pvc pP.vec rp _ nO).mono ?_;rintro e wz ⟨rfl,rfl⟩;rw [Hz.out]) | (go_at_call 108;refine (zN rp _).mono ?_;rintro e wz ⟨rfl,rfl⟩;rw [HR.out]));go_ret;exact ⟨false,rfl,BIf.no ek,fk.out⟩
       have Ae:=hide (rR.out ⟨HR.out,by simp only;omega,by simp only [Hz.out];omega,fun h=>by simp only;omega,by simp only;omega,by simp only;omega⟩);go_wp2_with (first | (go_at_call 109;refine (V.xj pvo pvn pvc pP.vec rp _ nO).mono ?_;rintro e wz ⟨rfl,rfl⟩;rw [Hz.out]) | (go_at_call 108;refine (zN rp _).mono ?_;rintro e wz ⟨rfl,rfl⟩;rw [HR.out]));go_roundw
       case rel=>exact ⟨j+1,by omega,by go_num,by rw [Ae.2];exact setRow_heap _ _ _ _ _ _ tZ,Ae.1,zh dR.out (Nat.le_refl _)⟩
       case measure=>simp [intOf];omega
     ·replace hmx:ahi <= z:=by omega
      obtain ⟨bR,HR⟩:∃ bR,Hid (V.isR rp=bR):=⟨_,rfl⟩
      cases bR with
      | false =>
       have ek:Hid (¬ ag pP):=iz.out (fun h=>by have h1:=h.isr;rw [HR.out] at h1;cases h1);go_wp2_with (first | (go_at_call 109;refine (V.xj pvo pvn pvc pP.vec rp _ nO).mono ?_;rintro e wz ⟨rfl,rfl⟩;rw [Hz.out]) | (go_at_call 108;refine (zN rp _).mono ?_;rintro e wz ⟨rfl,rfl⟩;rw [HR.out]));go_ret;exact ⟨false,rfl,BIf.no ek,fk.out⟩
      | true =>
       by_cases k2:lo < z+2
       ·have ek:Hid (¬ ag pP):=iz.out (fun h=>by have h1:=h.lead;simp only [Hz.out] at h1;have h2:=h.gap rfl;simp only at h2;omega);go_wp2_with (first | (go_at_call 109;refine (V.xj pvo pvn pvc pP.vec rp _ nO).mono ?_;rintro e wz ⟨rfl,rfl⟩;rw [Hz.out]) | (go_at_call 108;refine (zN rp _).mono ?_;rintro e wz ⟨rfl,rfl⟩;rw [HR.out]));go_ret;exact ⟨false,rfl,BIf.no ek,fk.out⟩
       by_cases k3:hi < lo
       ·have ek:Hid (¬ ag pP):=iz.out (fun h=>by have h1:=h.ord;simp only at h1;omega);go_wp2_with (first | (go_at_call 109;refine (V.xj pvo pvn pvc pP.vec rp _ nO).mono ?_;rintro e wz ⟨rfl,rfl⟩;rw [Hz.out]) | (go_at_call 108;refine (zN rp _).mono ?_;rintro e wz ⟨rfl,rfl⟩;rw [HR.out]));go_ret;exact ⟨false,rfl,BIf.no ek,fk.out⟩
       by_cases k4:1000000000 < hi
       ·have ek:Hid (¬ ag pP):=iz.out (fun h=>by have h1:=h.top;simp only at h1;omega);go_wp2_with (first | (go_at_call 109;refine (V.xj pvo pvn pvc pP.vec rp _ nO).mono ?_;rintro e wz ⟨rfl,rfl⟩;rw [Hz.out]) | (go_at_call 108;refine (zN rp _).mono ?_;rintro e wz ⟨rfl,rfl⟩;rw [HR.out]));go_ret;exact ⟨false,rfl,BIf.no ek,fk.out⟩
       have Ae:=hide (rR.out ⟨HR.out,by simp only;omega,by simp only [Hz.out];omega,fun h=>by simp only;omega,by simp only;omega,by simp only;omega⟩);go_wp2_with (first | (go_at_call 109;refine (V.xj pvo pvn pvc pP.vec rp _ nO).mono ?_;rintro e wz ⟨rfl,rfl⟩;rw [Hz.out]) | (go_at_call 108;refine (zN rp _).mono ?_;rintro e wz ⟨rfl,rfl⟩;rw [HR.out]));go_roundw
       case rel=>exact ⟨j+1,by omega,by go_num,by rw [Ae.2];exact setRow_heap _ _ _ _ _ _ tZ,Ae.1,zh dR.out (Nat.le_refl _)⟩
       case measure=>simp [intOf];omega
    ·have e':(rp == arp)=false:=by simp [e]
     have HE:=hide e;clear e;obtain ⟨bR,HR⟩:∃ bR,Hid (V.isR rp=bR):=⟨_,rfl⟩
     cases bR with
     | false =>
      have ek:Hid (¬ ag pP):=iz.out (fun h=>by have h1:=h.isr;rw [HR.out] at h1;cases h1);go_wp2_with (first | (go_at_call 109;refine (V.xj pvo pvn pvc pP.vec rp _ nO).mono ?_;rintro e wz ⟨rfl,rfl⟩;rw [Hz.out]) | (go_at_call 108;refine (zN rp _).mono ?_;rintro e wz ⟨rfl,rfl⟩;rw [HR.out]));go_ret;exact ⟨false,rfl,BIf.no ek,fk.out⟩
     | true =>
      by_cases k1:rp < arp
      ·have ek:Hid (¬ ag pP):=iz.out (fun h=>by have h1:=h.rep;simp only at h1;omega);go_wp2_with (first | (go_at_call 109;refine (V.xj pvo pvn pvc pP.vec rp _ nO).mono ?_;rintro e wz ⟨rfl,rfl⟩;rw [Hz.out]) | (go_at_call 108;refine (zN rp _).mono ?_;rintro e wz ⟨rfl,rfl⟩;rw [HR.out]));go_ret;exact ⟨false,rfl,BIf.no ek,fk.out⟩
      by_cases k2:lo < z+2
      ·have ek:Hid (¬ ag pP):=iz.out (fun h=>by have h1:=h.lead;simp only [Hz.out] at h1;omega);go_wp2_with (first | (go_at_call 109;refine (V.xj pvo pvn pvc pP.vec rp _ nO).mono ?_;rintro e wz ⟨rfl,rfl⟩;rw [Hz.out]) | (go_at_call 108;refine (zN rp _).mono ?_;rintro e wz ⟨rfl,rfl⟩;rw [HR.out]));go_ret;exact ⟨false,rfl,BIf.no ek,fk.out⟩
      by_cases k3:hi < lo
      ·have ek:Hid (¬ ag pP):=iz.out (fun h=>by have h1:=h.ord;simp only at h1;omega);go_wp2_with (first | (go_at_call 109;refine (V.xj pvo pvn pvc pP.vec rp _ nO).mono ?_;rintro e wz ⟨rfl,rfl⟩;rw [Hz.out]) | (go_at_call 108;refine (zN rp _).mono ?_;rintro e wz ⟨rfl,rfl⟩;rw [HR.out]));go_ret;exact ⟨false,rfl,BIf.no ek,fk.out⟩
      by_cases k4:1000000000 < hi
      ·have ek:Hid (¬ ag pP):=iz.out (fun h=>by have h1:=h.top;simp only at h1;omega);go_wp2_with (first | (go_at_call 109;refine (V.xj pvo pvn pvc pP.vec rp _ nO).mono ?_;rintro e wz ⟨rfl,rfl⟩;rw [Hz.out]) | (go_at_call 108;refine (zN rp _).mono ?_;rintro e wz ⟨rfl,rfl⟩;rw [HR.out]));go_ret;exact ⟨false,rfl,BIf.no ek,fk.out⟩
      have Ae:=hide (rR.out ⟨HR.out,by simp only;omega,by simp only [Hz.out];omega,fun h=>absurd h HE,by simp only;omega,by simp only;omega⟩);go_wp2_with (first | (go_at_call 109;refine (V.xj pvo pvn pvc pP.vec rp _ nO).mono ?_;rintro e wz ⟨rfl,rfl⟩;rw [Hz.out]) | (go_at_call 108;refine (zN rp _).mono ?_;rintro e wz ⟨rfl,rfl⟩;rw [HR.out]));go_roundw
      case rel=>exact ⟨j+1,by omega,by go_num,by rw [Ae.2];exact setRow_heap _ _ _ _ _ _ tZ,Ae.1,zh dR.out (Nat.le_refl _)⟩
      case measure=>simp [intOf];omega
   ·obtain rfl:j=pcn:=by omega
    have HY:Hid (ag pP):=by
     refine ⟨HV.out,?_⟩;have:=HI.2.1;rw [List.take_of_length_le (by rw [BN.len];exact Nat.le_refl _)] at this;exact this
    have fk:=wTr aM HI.2.2;go_wp2_with fail;go_ret;exact ⟨true,rfl,BIf.yes HY,fk.out⟩
 ·have HN:Hid (¬ ag pP):=fun h=>hv h.1;rw [decide_eq_false hv];clear hv;go_wp2_with fail;go_ret;exact ⟨false,rfl,BIf.no HN,aM.out⟩
end
section
open Go.RowKit
attribute [local go_sem ↓] zq zp
attribute [local go_sem] zI zi qq zk
theorem bH {P Q:Pst} (h:af (aa P) Q):P=Q↔ag P:=by
 constructor
 ·intro e;subst e;exact zT.1 h
 ·intro k;exact af.unique (zT.2 k) h (fun _ _ _=>Iff.rfl)
theorem xM (a:Pv) (w:World) (hS:am w a):Calls Tryz.prog 51 #[PV a] w fun e w'=>fP w w' e (ag a.P):=by
 have b1:=ze w (.cells (PC a) 26);have HX:=hide (zm w a);have al:=hide b1;have HS:=hide (hS.below b1);clear hS b1;obtain ⟨wk,aL⟩:∃ wk,w.alloc (.cells (PC a) 26)=wk:=⟨_,rfl⟩;rw [aL] at HX HS al;obtain ⟨G,hG⟩:∃ G,w.heap.size=G:=⟨_,rfl⟩;rw [hG] at HX;go_enter Tryz.func51,Tryz.ntmps51;go_wp2_with fail;clear aL;refine wp_region_held_drew (S:=fun v=>(ldP (.pointer (some ⟨G,0,none⟩))).run Tryz.prog v = .ok (PV a) v) (by kernel_rfl) (zj (HX.below (zf wk)).at) (fun hHeld=>?_);refine wU 0 ?_;refine wU 1 ?_;refine wR 2 fun K hK=>?_;go_simp;go_wp2_with fail;refine (jE a _ (HS.below (zf wk))).mono ?_;rintro e w2 ⟨p,rfl,S2,n2,b2,c2⟩;have cu:=hide ((al.trans ((zf wk).mono al.size)).trans (b2.mono al.size))
 have u5:=hide ((HS.below (zf wk)).below b2);have mR:=hide S2;have HC:=hide c2;refine hK.out _ _ (zj ((HX.below (zf wk)).below b2).at) (fun hHeld=>?_);have HQ:Hid (∀ {w5:World},Below w2.heap.size w2 w5 -> Below wk.drew.heap.size wk.drew w5):=fun h=>b2.trans (h.mono b2.size);clear hK K S2 n2 c2;refine wR 3 fun K hK=>?_;go_simp;go_wp2_with fail;refine (jg a p _ u5.out mR).mono ?_;rintro e w3 ⟨x,rfl,hx,b3⟩;have HF:Hid (fP w w3 (.returned (.bool x)) (ag a.P)):=⟨x,rfl,hx.trans (bH HC),cu.trans (b3.mono cu.size)⟩;refine hK.out _ _ (zj (((HX.below (zf wk)).below ?_)).at) (fun hHeld=>?_)
 ·exact HQ.out b3
 clear hK K b3 hx;refine wU 4 ?_;refine wD ?_ _;clear hHeld;go_wp2_with fail;go_ret;exact HF.out
end
end Go.Proofs.YtjffpimfngdggaaGreat
