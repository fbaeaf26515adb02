/- PIs -/
import Derived.Test.YtjffpimfngdggaaGreatTk
import Derived.Test.YtjffpimfngdggaaGreatFs10
import Derived.Test.YtjffpimfngdggaaGreatFs03
import Derived.Test.YtjffpimfngdggaaGreatFs08
set_option maxRecDepth 100000
set_option maxHeartbeats 4000000
namespace Go.Proofs.YtjffpimfngdggaaGreat
open Go.RowKit
attribute [local go_sem ↓] ji jG zr zq
attribute [local go_sem] zE zi qq zk jj zaI qJ kw xw
def InForm (P:Pst):Prop:=P.vec=V.short (V.at' P.vec)/\chain P.vec sn0 P.cloud
theorem bj {Z:List Int}:∀ (L:List Sn) (a:Sn),chain Z a L -> 0 <= a.hi -> a.hi <= 1000000000 -> 0 <= (lastS a L).hi/\(lastS a L).hi <= 1000000000
 | [],_,_,h1,h2=>⟨h1,h2⟩
 | c :: t,_,h,_,_=>by
  have b:=V.zfD Z c.rep;have h1:=h.1.lead;have h2:=h.1.ord;have h3:=h.1.top;exact bj t c h.2 (by omega) h3
theorem zdr (l:List Sn) (k:Nat) (h:k < l.length):l.take (k+1)=l.take k++[l.getD k sn0]:=by
 rw [List.take_succ_eq_append_getElem h];simp [List.getD,h]
theorem zdY {Z:List Int} {a:Sn} {L:List Sn} (k:Nat) (h:chain Z a L):chain Z a (L.take k):=by
 have e:=List.take_append_drop k L;rw [<- e] at h;exact ((jW Z a _ _).1 h).1
theorem q9 (p:Pv) (w:World) (hS:PSrc w p) :
  Calls Tryz.prog 67 #[PV p] w fun e w'=>GivB w w' e (InForm p.P):=by
 have b1:=ze w (.cells (PC p) 26);obtain ⟨n0,n1⟩:=(zm w p).nums;obtain ⟨wk,hwk⟩:∃ wk,w.alloc (.cells (PC p) 26)=wk:=⟨_,rfl⟩;rw [hwk] at n0 n1 b1;have HBK:=hide b1;have HSV:=hide (hS.below HBK.out).vec;have HSC:=hide (hS.below HBK.out).cloud;have g8:=hS.cloud.big;clear hS b1;obtain ⟨pvo,pvn,pvc,pco,pcn,pcc,pP⟩:=p;dsimp only at n0 n1 HSV HSC g8 ⊢;go_enter Tryz.func67,Tryz.ntmps67;go_wp2_with fail;refine (V.zdI pvo pvn pvc pP.vec _ HSV.out).mono ?_;rintro e w1 ⟨rfl,b2⟩;have HB1:=wTr HBK b2;have HSV1:=hide (HSV.out.below b2);have HSC1:=hide (HSC.out.below b2);have m0:=(b2.cell (World.block_lt_of_cell? _ _ n0)).trans n0;have m1:=(b2.cell (World.block_lt_of_cell? _ _ n1)).trans n1;clear b2 n0 n1 HSV HSC hwk HBK;by_cases hv:pP.vec=V.short (V.at' pP.vec)
 ·have HV:=hide hv;rw [decide_eq_true hv];clear hv;obtain ⟨w2,hst,X2,b3,z3⟩:=madeS w1 sn0 w1.heap.size rfl;have HX2:=hide X2;have HB2:=hide b3;have m2:=(b3.cell (World.block_lt_of_cell? _ _ m1)).trans m1;clear X2 b3 z3;go_wp2_with fail;clear hst;go_loopw [15] (fun i wr=>∃ j:Nat,j <= pcn/\i = .int .i64 j/\Hid (SBox wr w1.heap.size (lastS sn0 (pP.cloud.take j))/\chain pP.vec sn0 (pP.cloud.take j)/\Below w1.heap.size w1 wr)) (fun i _=>pcn - (intOf i).toNat)
  case atStart=>exact ⟨0,Nat.zero_le _,rfl,HX2.out,trivial,HB2.out⟩
  case round =>
   obtain ⟨j,hj,rfl,HI⟩:=hrel
   rename World=>w6
   clear HX2 HB2 m2;by_cases hlt:j < pcn
   ·obtain ⟨ad,hco,A0⟩:=(HSC1.out.below HI.out.2.2).at j hlt;subst hco;obtain ⟨c,Hc⟩:∃ c,Hid (pP.cloud.getD j sn0=c):=⟨_,rfl⟩;rw [Hc.out] at A0
    have HJL:Hid (j < pP.cloud.length):=by show _ < _;rw [HSC1.out.len];exact hlt
    have HT:=hide (zdr pP.cloud j HJL.out);rw [Hc.out] at HT;obtain ⟨ah,Ha⟩:∃ ah,Hid (lastS sn0 (pP.cloud.take j)=ah):=⟨_,rfl⟩;have hah:=bj _ _ HI.out.2.1 (by decide) (by decide);rw [Ha.out] at HI hah;have hld:=ql A0;obtain ⟨w7,hst,X7,b7,z7⟩:=madeS w6 c w6.heap.size rfl
    obtain ⟨x0,x1,x2⟩:=X7.at
    have l7:=ql (⟨x0,x1,x2⟩:SnAt w7 ⟨w6.heap.size,0,none⟩ c);have HA7:=hide (HI.out.1.below b7)
    obtain ⟨y0,y1,y2⟩:=HA7.out.at
    have HB7:=hide (HI.out.2.2.trans (b7.mono HI.out.2.2.size));have v0:=(HB7.out.cell (World.block_lt_of_cell? _ _ m0)).trans m0;have HV7:=hide (HSV1.out.below HB7.out);have HCH:=hide HI.out.2.1;have hs7:=bK (s':=c) HA7.out;obtain ⟨z,Hz⟩:∃ z,Hid (V.atI pP.vec c.rep=z):=⟨_,rfl⟩;have hzb:=V.zfD pP.vec c.rep;rw [Hz.out] at hzb;clear A0 X7 b7 z7 HI
    have HBAD:Hid (¬ StepOk pP.vec ah c -> ¬ InForm pP):=fun hn h=>by
     have:=zdY (j+1) h.2;rw [HT.out,vP,Ha.out] at this;exact hn this.2
    have HGOOD:Hid (StepOk pP.vec ah c -> chain pP.vec sn0 (pP.cloud.take (j+1))/\lastS sn0 (pP.cloud.take (j+1))=c):=fun h=>by
     rw [HT.out,vP,Ha.out,yY];exact ⟨⟨HCH.out,h⟩,rfl⟩
    have HBE:=wTr HB1 HB7.out;clear HCH HT Ha Hc HJL;obtain ⟨rp,lo,hi⟩:=c;obtain ⟨arp,alo,ahi⟩:=ah;dsimp only at hld x0 x1 x2 l7 y0 y1 y2 hs7 hah Hz;by_cases e:rp=arp
    ·subst e;by_cases hmx:z < ahi
     ·obtain ⟨bR,HR⟩:∃ bR,Hid (V.isR rp=bR):=⟨_,rfl⟩
      cases bR with
      | false =>
       have HNO:Hid (¬ InForm pP):=HBAD.out (fun h=>by have h1:=h.isr;rw [HR.out] at h1;cases h1);go_wp2_with (first | (go_at_call 109;refine (V.xi pvo pvn pvc pP.vec rp _ HV7.out).mono ?_;rintro e wz ⟨rfl,rfl⟩;rw [Hz.out]) | (go_at_call 108;refine (zM rp _).mono ?_;rintro e wz ⟨rfl,rfl⟩;rw [HR.out]));go_ret;exact ⟨false,rfl,BIf.no HNO.out,HBE.out⟩
      | true =>
       by_cases k2:lo < ahi+2
       ·have HNO:Hid (¬ InForm pP):=HBAD.out (fun h=>by have h1:=h.lead;simp only [Hz.out] at h1;have h2:=h.gap rfl;simp only at h2;omega);go_wp2_with (first | (go_at_call 109;refine (V.xi pvo pvn pvc pP.vec rp _ HV7.out).mono ?_;rintro e wz ⟨rfl,rfl⟩;rw [Hz.out]) | (go_at_call 108;refine (zM rp _).mono ?_;rintro e wz ⟨rfl,rfl⟩;rw [HR.out]));go_ret;exact ⟨false,rfl,BIf.no HNO.out,HBE.out⟩
       by_cases k3:hi < lo
       ·have HNO:Hid (¬ InForm pP):=HBAD.out (fun h=>by have h1:=h.ord;simp only at h1;omega);go_wp2_with (first | (go_at_call 109;refine (V.xi pvo pvn pvc pP.vec rp _ HV7.out).mono ?_;rintro e wz ⟨rfl,rfl⟩;rw [Hz.out]) | (go_at_call 108;refine (zM rp _).mono ?_;rintro e wz ⟨rfl,rfl⟩;rw [HR.out]));go_ret;exact ⟨false,rfl,BIf.no HNO.out,HBE.out⟩
       by_cases k4:1000000000 < hi
       ·have HNO:Hid (¬ InForm pP):=HBAD.out (fun h=>by have h1:=h.top;simp only at h1;omega);go_wp2_with (first | (go_at_call 109;refine (V.xi pvo pvn pvc pP.vec rp _ HV7.out).mono ?_;rintro e wz ⟨rfl,rfl⟩;rw [Hz.out]) | (go_at_call 108;refine (zM rp _).mono ?_;rintro e wz ⟨rfl,rfl⟩;rw [HR.out]));go_ret;exact ⟨false,rfl,BIf.no HNO.out,HBE.out⟩
       have HOK:=hide (HGOOD.out ⟨HR.out,by simp only;omega,by simp only [Hz.out];omega,fun h=>by simp only;omega,by simp only;omega,by simp only;omega⟩);go_wp2_with (first | (go_at_call 109;refine (V.xi pvo pvn pvc pP.vec rp _ HV7.out).mono ?_;rintro e wz ⟨rfl,rfl⟩;rw [Hz.out]) | (go_at_call 108;refine (zM rp _).mono ?_;rintro e wz ⟨rfl,rfl⟩;rw [HR.out]));go_roundw
       case rel=>exact ⟨j+1,by omega,by go_num,by rw [HOK.out.2];exact setRow_heap _ _ _ _ _ _ HA7.out,HOK.out.1,zh HB7.out (Nat.le_refl _)⟩
       case measure=>simp [intOf];omega
     ·replace hmx:ahi <= z:=by omega
      obtain ⟨bR,HR⟩:∃ bR,Hid (V.isR rp=bR):=⟨_,rfl⟩
      cases bR with
      | false =>
       have HNO:Hid (¬ InForm pP):=HBAD.out (fun h=>by have h1:=h.isr;rw [HR.out] at h1;cases h1);go_wp2_with (first | (go_at_call 109;refine (V.xi pvo pvn pvc pP.vec rp _ HV7.out).mono ?_;rintro e wz ⟨rfl,rfl⟩;rw [Hz.out]) | (go_at_call 108;refine (zM rp _).mono ?_;rintro e wz ⟨rfl,rfl⟩;rw [HR.out]));go_ret;exact ⟨false,rfl,BIf.no HNO.out,HBE.out⟩
      | true =>
       by_cases k2:lo < z+2
       ·have HNO:Hid (¬ InForm pP):=HBAD.out (fun h=>by have h1:=h.lead;simp only [Hz.out] at h1;have h2:=h.gap rfl;simp only at h2;omega);go_wp2_with (first | (go_at_call 109;refine (V.xi pvo pvn pvc pP.vec rp _ HV7.out).mono ?_;rintro e wz ⟨rfl,rfl⟩;rw [Hz.out]) | (go_at_call 108;refine (zM rp _).mono ?_;rintro e wz ⟨rfl,rfl⟩;rw [HR.out]));go_ret;exact ⟨false,rfl,BIf.no HNO.out,HBE.out⟩
       by_cases k3:hi < lo
       ·have HNO:Hid (¬ InForm pP):=HBAD.out (fun h=>by have h1:=h.ord;simp only at h1;omega);go_wp2_with (first | (go_at_call 109;refine (V.xi pvo pvn pvc pP.vec rp _ HV7.out).mono ?_;rintro e wz ⟨rfl,rfl⟩;rw [Hz.out]) | (go_at_call 108;refine (zM rp _).mono ?_;rintro e wz ⟨rfl,rfl⟩;rw [HR.out]));go_ret;exact ⟨false,rfl,BIf.no HNO.out,HBE.out⟩
       by_cases k4:1000000000 < hi
       ·have HNO:Hid (¬ InForm pP):=HBAD.out (fun h=>by have h1:=h.top;simp only at h1;omega);go_wp2_with (first | (go_at_call 109;refine (V.xi pvo pvn pvc pP.vec rp _ HV7.out).mono ?_;rintro e wz ⟨rfl,rfl⟩;rw [Hz.out]) | (go_at_call 108;refine (zM rp _).mono ?_;rintro e wz ⟨rfl,rfl⟩;rw [HR.out]));go_ret;exact ⟨false,rfl,BIf.no HNO.out,HBE.out⟩
       have HOK:=hide (HGOOD.out ⟨HR.out,by simp only;omega,by simp only [Hz.out];omega,fun h=>by simp only;omega,by simp only;omega,by simp only;omega⟩);go_wp2_with (first | (go_at_call 109;refine (V.xi pvo pvn pvc pP.vec rp _ HV7.out).mono ?_;rintro e wz ⟨rfl,rfl⟩;rw [Hz.out]) | (go_at_call 108;refine (zM rp _).mono ?_;rintro e wz ⟨rfl,rfl⟩;rw [HR.out]));go_roundw
       case rel=>exact ⟨j+1,by omega,by go_num,by rw [HOK.out.2];exact setRow_heap _ _ _ _ _ _ HA7.out,HOK.out.1,zh HB7.out (Nat.le_refl _)⟩
       case measure=>simp [intOf];omega
    ·have e':(rp == arp)=false:=by simp [e]
     have HE:=hide e;clear e;obtain ⟨bR,HR⟩:∃ bR,Hid (V.isR rp=bR):=⟨_,rfl⟩
     cases bR with
     | false =>
      have HNO:Hid (¬ InForm pP):=HBAD.out (fun h=>by have h1:=h.isr;rw [HR.out] at h1;cases h1);go_wp2_with (first | (go_at_call 109;refine (V.xi pvo pvn pvc pP.vec rp _ HV7.out).mono ?_;rintro e wz ⟨rfl,rfl⟩;rw [Hz.out]) | (go_at_call 108;refine (zM rp _).mono ?_;rintro e wz ⟨rfl,rfl⟩;rw [HR.out]));go_ret;exact ⟨false,rfl,BIf.no HNO.out,HBE.out⟩
     | true =>
      by_cases k1:rp < arp
      ·have HNO:Hid (¬ InForm pP):=HBAD.out (fun h=>by have h1:=h.rep;simp only at h1;omega);go_wp2_with (first | (go_at_call 109;refine (V.xi pvo pvn pvc pP.vec rp _ HV7.out).mono ?_;rintro e wz ⟨rfl,rfl⟩;rw [Hz.out]) | (go_at_call 108;refine (zM rp _).mono ?_;rintro e wz ⟨rfl,rfl⟩;rw [HR.out]));go_ret;exact ⟨false,rfl,BIf.no HNO.out,HBE.out⟩
      by_cases k2:lo < z+2
      ·have HNO:Hid (¬ InForm pP):=HBAD.out (fun h=>by have h1:=h.lead;simp only [Hz.out] at h1;omega);go_wp2_with (first | (go_at_call 109;refine (V.xi pvo pvn pvc pP.vec rp _ HV7.out).mono ?_;rintro e wz ⟨rfl,rfl⟩;rw [Hz.out]) | (go_at_call 108;refine (zM rp _).mono ?_;rintro e wz ⟨rfl,rfl⟩;rw [HR.out]));go_ret;exact ⟨false,rfl,BIf.no HNO.out,HBE.out⟩
      by_cases k3:hi < lo
      ·have HNO:Hid (¬ InForm pP):=HBAD.out (fun h=>by have h1:=h.ord;simp only at h1;omega);go_wp2_with (first | (go_at_call 109;refine (V.xi pvo pvn pvc pP.vec rp _ HV7.out).mono ?_;rintro e wz ⟨rfl,rfl⟩;rw [Hz.out]) | (go_at_call 108;refine (zM rp _).mono ?_;rintro e wz ⟨rfl,rfl⟩;rw [HR.out]));go_ret;exact ⟨false,rfl,BIf.no HNO.out,HBE.out⟩
      by_cases k4:1000000000 < hi
      ·have HNO:Hid (¬ InForm pP):=HBAD.out (fun h=>by have h1:=h.top;simp only at h1;omega);go_wp2_with (first | (go_at_call 109;refine (V.xi pvo pvn pvc pP.vec rp _ HV7.out).mono ?_;rintro e wz ⟨rfl,rfl⟩;rw [Hz.out]) | (go_at_call 108;refine (zM rp _).mono ?_;rintro e wz ⟨rfl,rfl⟩;rw [HR.out]));go_ret;exact ⟨false,rfl,BIf.no HNO.out,HBE.out⟩
      have HOK:=hide (HGOOD.out ⟨HR.out,by simp only;omega,by simp only [Hz.out];omega,fun h=>absurd h HE.out,by simp only;omega,by simp only;omega⟩);go_wp2_with (first | (go_at_call 109;refine (V.xi pvo pvn pvc pP.vec rp _ HV7.out).mono ?_;rintro e wz ⟨rfl,rfl⟩;rw [Hz.out]) | (go_at_call 108;refine (zM rp _).mono ?_;rintro e wz ⟨rfl,rfl⟩;rw [HR.out]));go_roundw
      case rel=>exact ⟨j+1,by omega,by go_num,by rw [HOK.out.2];exact setRow_heap _ _ _ _ _ _ HA7.out,HOK.out.1,zh HB7.out (Nat.le_refl _)⟩
      case measure=>simp [intOf];omega
   ·obtain rfl:j=pcn:=by omega
    have HY:Hid (InForm pP):=by
     refine ⟨HV.out,?_⟩;have:=HI.out.2.1;rw [List.take_of_length_le (by rw [HSC1.out.len];exact Nat.le_refl _)] at this;exact this
    have HBE:=wTr HB1 HI.out.2.2;go_wp2_with fail;go_ret;exact ⟨true,rfl,BIf.yes HY.out,HBE.out⟩
 ·have HN:Hid (¬ InForm pP):=fun h=>hv h.1;rw [decide_eq_false hv];clear hv;go_wp2_with fail;go_ret;exact ⟨false,rfl,BIf.no HN.out,HB1.out⟩
end Go.Proofs.YtjffpimfngdggaaGreat
