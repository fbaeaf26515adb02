/- IQr SXo SXp SXr SYb SYc SYe TRb -/
import Derived.Test.YtjffpimfngdggaaGreatTk
import Derived.Test.YtjffpimfngdggaaGreatFe25
import Derived.Deep.CutRange
import Derived.Test.YtjffpimfngdggaaGreatFe38
import Derived.Test.YtjffpimfngdggaaGreatFe37
import Derived.Test.YtjffpimfngdggaaGreatFe19
import Derived.Test.YtjffpimfngdggaaGreatFe35
import Derived.Maps.OwnSet
import Derived.DeepKeys4
import Derived.Test.YtjffpimfngdggaaGreatFe26
set_option maxRecDepth 100000
set_option maxHeartbeats 3200000
namespace Go.Proofs.YtjffpimfngdggaaGreat
section
open Go.RowKit
attribute [local go_sem ↓] zq zp zZ zY
attribute [local go_sem] zi zj zJ zQ qe
theorem zc6:∀ x y:List UInt8,Lib.compareBytes x y = -1∨Lib.compareBytes x y=0∨Lib.compareBytes x y=1
 | [],[]=>by simp [Lib.compareBytes]
 | [],_ :: _=>by simp [Lib.compareBytes]
 | _ :: _,[]=>by simp [Lib.compareBytes]
 | a :: x,b :: y=>by
  have:=zc6 x y;simp only [Lib.compareBytes]
  split
  ·simp
  ·split
   ·simp
   ·exact this
theorem kh (r:Rc) (w:World) (hR:cS w r):Calls Tryz.prog 94 #[ReV (mkR r)] w fun e w'=>aZ w w' e (gH r):=by
 have HX:=hide (qs w (mkR r));have aq:=hide (ze w (.cells (ReC (mkR r)) 78));have HS:=hide (hR.1.below aq.out);have hs:=hR.2;clear hR;obtain ⟨wk,aY⟩:∃ wk,w.alloc (.cells (ReC (mkR r)) 78)=wk:=⟨_,rfl⟩;obtain ⟨G,hG⟩:∃ G,w.heap.size=G:=⟨_,rfl⟩;rw [aY] at HX aq HS;rw [hG] at HX;have c0:=HX.out.sk;have l1:=zl HX.out.past;have HI:=hide (kF r.p wk HS.out);by_cases h0:r.s.size=0
 ·have e0:=K.jR r.s h0
  have HR:Hid (fP r.s=true):=by show _=_;unfold fP;rw [decide_eq_true h0,Bool.true_or]
  clear h0;go_enter Tryz.func94,Tryz.ntmps94;go_wp2_with fail;clear aY;refine HI.out.mono ?_;rintro e w3 ⟨b,rfl,hb,b3⟩;have aB:=wTr aq b3;have fL:=hide (HX.out.below b3);have oS:=hide (HS.out.below b3);clear b3 l1 c0 HI hG
  cases b with
  | false =>
   have HN:Hid (gH r 1):=.inr (.inl ⟨HR.out,(fun h=>by have:=hb.2 h.1;cases this),rfl⟩);clear hb;go_wp2_with fail;go_ret;exact ⟨_,rfl,HN.out,aB.out⟩
  | true =>
   have HF:Hid (aj r.p.P):=hb.1 rfl;clear hb;have l3:=zl fL.out.past;go_wp2_with fail;refine (vK r.p _ oS.out).mono ?_;rintro e w4 ⟨b,rfl,hb,b4⟩;have aQ:=wTr aB b4
   cases b with
   | false =>
    have HN:Hid (gH r 0):=.inr (.inr ⟨HR.out,⟨HF.out,(fun h=>by have:=hb.2 h;cases this)⟩,rfl⟩);clear b4 l3 hb;go_wp2_with fail;go_ret;exact ⟨_,rfl,HN.out,aQ.out⟩
   | true =>
    have HN:Hid (gH r 1):=.inr (.inl ⟨HR.out,fun h=>h.2 (hb.1 rfl),rfl⟩);clear b4 l3 hb;go_wp2_with fail;go_ret;exact ⟨_,rfl,HN.out,aQ.out⟩
 ·have e0:=K.kW r.s h0;go_enter Tryz.func94,Tryz.ntmps94;go_wp2_with fail;refine (K.wRq r.s _ hs).mono ?_;rintro e w' ⟨rfl,rfl⟩
  cases hg:K.fG r.s.data.toList with
  | false =>
   have HN:Hid (gH r 5):=.inl ⟨by unfold fP;rw [decide_eq_false h0,hg];rfl,rfl⟩;have uk:=hide aq.out;clear hg h0;go_wp2_with fail;go_ret;exact ⟨_,rfl,HN.out,by have h:=uk.out;first | exact h | (rw [hG] at h;exact h)⟩
  | true =>
   have HR:Hid (fP r.s=true):=by show _=_;unfold fP;rw [hg,Bool.or_true]
   clear hg h0;go_wp2_with fail;refine HI.out.mono ?_;rintro e w3 ⟨b,rfl,hb,b3⟩;have aB:=wTr aq b3;have fL:=hide (HX.out.below b3);have oS:=hide (HS.out.below b3);clear b3 l1 c0 HI hG
   cases b with
   | false =>
    have HN:Hid (gH r 1):=.inr (.inl ⟨HR.out,(fun h=>by have:=hb.2 h.1;cases this),rfl⟩);clear hb;go_wp2_with fail;go_ret;exact ⟨_,rfl,HN.out,aB.out⟩
   | true =>
    have HF:Hid (aj r.p.P):=hb.1 rfl;clear hb;have l3:=zl fL.out.past;go_wp2_with fail;refine (vK r.p _ oS.out).mono ?_;rintro e w4 ⟨b,rfl,hb,b4⟩;have aQ:=wTr aB b4
    cases b with
    | false =>
     have HN:Hid (gH r 0):=.inr (.inr ⟨HR.out,⟨HF.out,(fun h=>by have:=hb.2 h;cases this)⟩,rfl⟩);clear b4 l3 hb;go_wp2_with fail;go_ret;exact ⟨_,rfl,HN.out,aQ.out⟩
    | true =>
     have HN:Hid (gH r 1):=.inr (.inl ⟨HR.out,fun h=>h.2 (hb.1 rfl),rfl⟩);clear b4 l3 hb;go_wp2_with fail;go_ret;exact ⟨_,rfl,HN.out,aQ.out⟩
theorem wS (a b:Rc) (w:World) (hA:cS w a) (hB:cS w b):Calls Tryz.prog 95 #[ReV (mkR a),ReV (mkR b)] w fun e w'=>aZ w w' e (gB a b):=by
 have b1:=ze w (.cells (ReC (mkR a)) 78);have x1:=qs w (mkR a);have s1:=World.size_alloc w (.cells (ReC (mkR a)) 78);obtain ⟨g1,cT⟩:∃ g1,w.heap.size=g1:=⟨_,rfl⟩;obtain ⟨w1,cR⟩:∃ w1,w.alloc (.cells (ReC (mkR a)) 78)=w1:=⟨_,rfl⟩;rw [cR] at b1 x1 s1;have b2:=ze w1 (.cells (ReC (mkR b)) 78);have x2:=qs w1 (mkR b);obtain ⟨w2,fi⟩:∃ w2,w1.alloc (.cells (ReC (mkR b)) 78)=w2:=⟨_,rfl⟩;rw [fi] at b2 x2;rw [s1] at x2;rw [cT] at x1 x2 s1;have hb:=b1.trans (b2.mono b1.size);have c1:=(x1.below b2).sk;have c2:=x2.sk;have l1:=zl (x1.below b2).past;have l2:=zl x2.past;have HC:=hide (yC a.p b.p w2 (hA.1.below hb) (hB.1.below hb));have HB:=hide hb;have f1:=(zaN a.s b.s).1;have f2:=(zaN a.s b.s).2;have hr:eX a.s b.s = -1∨eX a.s b.s=0∨eX a.s b.s=1:=zc6 _ _
 clear hA hB b1 b2 x1 x2 hb;rcases hr with h | h | h
 ·rw [h] at f1 f2;have f1:Op.bytesLess a.s.toList b.s.toList=true:=f1;have HF:Hid (gB a b (-1)):=.inl ⟨by rw [h];decide,h.symm⟩;clear h f2;go_enter Tryz.func95,Tryz.ntmps95;go_wp2_with fail;clear cR fi cT s1;go_ret;exact ⟨_,rfl,HF.out,HB.out⟩
 ·rw [h] at f1 f2;have f1:Op.bytesLess a.s.toList b.s.toList=false:=f1;have f2:(a.s.toList == b.s.toList)=true:=f2;have HE:=hide h;clear h;go_enter Tryz.func95,Tryz.ntmps95;go_wp2_with fail;clear cR fi cT s1;refine HC.out.mono ?_;rintro e w3 ⟨z,rfl,hz,b3⟩;have HF:Hid (gB a b z):=.inr ⟨HE.out,zij hz⟩;have aB:=wTr HB b3;clear hz b3;go_wp2_with fail;go_ret;exact ⟨_,rfl,HF.out,aB.out⟩
 ·rw [h] at f1 f2;have f1:Op.bytesLess a.s.toList b.s.toList=false:=f1;have f2:(a.s.toList == b.s.toList)=false:=f2;have HF:Hid (gB a b 1):=.inl ⟨by rw [h];decide,h.symm⟩;clear h;go_enter Tryz.func95,Tryz.ntmps95;go_wp2_with fail;clear cR fi cT s1;go_ret;exact ⟨_,rfl,HF.out,HB.out⟩
theorem bT (ao:Option Addr) (n cap:Nat) (L:List Rc) (w:World) (hS:RcS w ao n cap L):Calls Tryz.prog 52 #[.slice ao n cap] w fun e w'=>aZ w w' e (EN L n):=by
 have HS:=hide hS;have hn:=hS.big;clear hS;go_enter Tryz.func52,Tryz.ntmps52;go_wp2_with fail;go_loopw [3] (fun i wr=>∃ k:Nat,k <= n/\i = .int .i64 k/\Hid (OkR L k)/\Hid (Below w.heap.size w wr)) (fun i _=>n - (intOf i).toNat)
 case atStart=>exact ⟨0,Nat.zero_le _,rfl,zcD L,Below.refl _ _⟩
 case round =>
  obtain ⟨k,hk,rfl,HK,HB⟩:=hrel
  rename World=>wr
  by_cases ak:k < n
  ·obtain ⟨ad,rfl,A0⟩:=(HS.out.below HB.out).at k ak;have dK:=zM A0;have HO:=hide ((HS.out.below HB.out).okAt k ak);have pE:=hide (HS.out.below HB.out);obtain ⟨r,Hr⟩:∃ r,Hid (L.getD k rc0=r):=⟨_,rfl⟩;rw [Hr.out] at dK HO;clear A0;have cw:=hide ak;go_wp2_with fail;refine (kh r _ HO.out).mono ?_;rintro e w1 ⟨b,rfl,hb,b1⟩;have aN:=wTr HB b1;have dm:=hide (pE.out.below b1);clear b1 dK pE HO;by_cases Cn:b=0
   ·subst Cn
    have nr:Hid (cj (L.getD k rc0)):=by rw [Hr.out];exact hb.zero.1 rfl
    clear hb;by_cases gK:k=0
    ·have gY:decide (0 < k)=false:=by rw [decide_eq_false_iff_not];omega
     have Eo:=hide gK
     have oq:¬ (0 < k):=by omega
     clear gK;go_upto_region 6 with fail;refine wp_region_held_drew (S:=fun _=>True) (by kernel_rfl) (trivial) (fun hHeld=>?_);refine wU 0 ?_;refine wU 1 ?_;refine wU 2 ?_;refine wV 3 ?_;refine wV 4 ?_;refine wV 5 ?_;refine wV 6 ?_;refine wV 7 ?_;refine wV 8 ?_;refine wV 9 ?_;refine wV 10 ?_;refine wV 11 ?_;refine wV 12 ?_;refine wV 13 ?_;refine wU 14 ?_;refine wpAnyH_done (by kernel_rfl) ?_ _;clear hHeld;go_wp2_with fail;go_roundw
     case rel=>exact ⟨k+1,by omega,by simp,HK.out.snoc nr.out (fun h=>absurd h (by have:=Eo.out;omega)),aN.out.trans ((zg w1).mono aN.out.size)⟩
     case measure=>simp [intOf];omega
    ·obtain ⟨j,Hj⟩:∃ j,Hid (k=j+1):=⟨k - 1,(show k=k - 1+1 by omega)⟩
     have od:j < n:=by have:=Hj.out;omega
     have KH:IntKind.i64.wrap ((k:Int) - 1)=(j:Int):=by rw [IntKind.wrap_i64];have:=Hj.out;omega
     have gY:decide (0 < k)=true:=by rw [decide_eq_true_iff];omega
     have oq:0 < k:=by omega
     obtain ⟨ad',e',Aj⟩:=dm.out.at j od;obtain rfl:=Option.some.inj e';obtain ⟨ad',e2',Ak⟩:=dm.out.at k cw.out;obtain rfl:=Option.some.inj e2';have D5:=hide (dm.out.okAt j od);have CQ:=hide (dm.out.okAt k cw.out);obtain ⟨q,Hq⟩:∃ q,Hid (L.getD j rc0=q):=⟨_,rfl⟩;rw [Hq.out] at Aj D5;rw [Hr.out] at Ak CQ;have sQ:=hide Aj;have D7:=hide Ak
     have mq:Hid (∀ z,gB q r z -> z < 0 -> (0 < k -> LtR (L.getD (k - 1) rc0) (L.getD k rc0))):=fun z h1 h2 _=>by
      rw [show k - 1=j by have:=Hj.out;omega,Hr.out,Hq.out];exact ⟨z,h1,h2⟩
     have mx:Hid (∀ z,gB q r z -> ¬ z < 0 -> ¬ OkR L n):=fun z h1 h2 h=>by
      have h3:=(h k cw.out).2 (by have:=Hj.out;omega);rw [show k - 1=j by have:=Hj.out;omega,Hr.out,Hq.out] at h3;obtain ⟨z2,h4,h5⟩:=h3;have:=h1.unique h4;omega
     clear Aj Ak e' e2' gK;go_upto_region 6 with fail;refine wp_region_held_drew (S:=fun v=>(eE (.pointer (some (ad.add (j * 3))))).run Tryz.prog v = .ok (.agg (ReC (mkR q))) v/\(eE (.pointer (some (ad.add (k * 3))))).run Tryz.prog v = .ok (.agg (ReC (mkR r))) v) (by kernel_rfl) (⟨zM (sQ.out.on (zg w1)),zM (D7.out.on (zg w1))⟩) (fun hHeld=>?_);refine wU 0 ?_;refine wU 1 ?_;refine wU 2 ?_;refine wU 3 ?_;refine wU 4 ?_;refine wU 5 ?_;refine wU 6 ?_;refine wU 7 ?_;refine wU 8 ?_;refine wU 9 ?_;refine wU 10 ?_;refine wU 11 ?_;refine wpAnyH_ready (rs:=[12]) (by kernel_rfl) (by simp) (.cons rfl (fun K hK=>?_) .nil);go_simp;go_wp2_with fail;refine (wS q r _ (D5.out.below (zg w1)) (CQ.out.below (zg w1))).mono ?_;rintro e w7 ⟨z,rfl,hz,b7⟩;have pH:Below w1.heap.size w1 w7:=(zg w1).trans b7
     have dH:=wTr aN pH;have HZ:=hide hz;refine hK.out _ _ (⟨zM (sQ.out.on (pH)),zM (D7.out.on (pH))⟩) (fun hHeld=>?_);clear hK K hz b7 pH;by_cases dg:(0:Int) <= z
     ·have HN:=hide (mx.out z HZ.out (by omega));refine wU 13 ?_;refine wU 14 ?_;refine wpAnyH_done (by kernel_rfl) ?_ _;clear hHeld;go_wp2_with fail;go_ret;exact ⟨_,rfl,.inr ⟨rfl,HN.out⟩,dH.out⟩
     ·have HL:=hide (mq.out z HZ.out (by omega));refine wU 13 ?_;refine wU 14 ?_;refine wpAnyH_done (by kernel_rfl) ?_ _;clear hHeld;go_wp2_with fail;go_roundw
      case rel=>exact ⟨k+1,by omega,by simp,HK.out.snoc nr.out HL.out,dH.out⟩
      case measure=>simp [intOf];omega
   ·have Ls:(b != 0)=true:=by simpa using Cn
    have HN:Hid (¬ OkR L n):=fun h=>by have h1:=(h k cw.out).1;rw [Hr.out] at h1;exact Cn (hb.zero.2 h1)
    clear hb Cn;go_wp2_with fail;go_ret;exact ⟨_,rfl,.inr ⟨rfl,HN.out⟩,aN.out⟩
  ·obtain rfl:k=n:=by omega
   go_wp2_with fail;go_ret;exact ⟨_,rfl,.inl ⟨rfl,HK.out⟩,HB.out⟩
end
section
open Go.RowKit
def G1D (s:Fc):Prop:=s.es=[]/\s.an=0/\s.p.P=sxP/\s.rs=[]/\s.rn=0/\s.rc=0
theorem zeh (v:Option Addr) (m d:Nat) (w:World):(o8 #[(1,.agg #[.slice v m d,.slice none 0 0])]).run Tryz.prog w = .ok (.agg #[.slice none 0 0,.slice v m d,.slice none 0 0,.slice none 0 0]) w:=by kernel_rfl
attribute [local go_sem ↓] zq zp zL zK qX yw
attribute [local go_sem] zi zj zk zm zv zeh kC
theorem A1D.b {w:World} {s:Fc} (h:A1D s) (hF:aV w s):SwB 1 w s:=by
 obtain ⟨h1,h2,h3,h4,h5,h6⟩:=h;exact ⟨hF,⟨by omega,fun _=>h6⟩,by omega,by omega,by rw [h4];intro r hr;cases hr⟩
theorem G1D.b {w:World} {s:Fc} (h:G1D s) (hF:aV w s):SwB 1 w s:=by
 obtain ⟨h1,h2,h3,h4,h5,h6⟩:=h;exact ⟨hF,⟨by omega,fun _=>h6⟩,by omega,by omega,by rw [h4];intro r hr;cases hr⟩
end
section
open Go.RowKit
attribute [local go_sem ↓] zL zK qX
attribute [local go_sem] zk zm zv qD
end
section
open Go.RowKit
def Nn (a b:Fc) (d:Rn):Prop:=∃ e∈a.es,aa e=d/\∃ r∈b.rs,cQ r e=true
attribute [local go_sem ↓] zq zp zL zK zV zU K.zx K.zw zZ zY zcz
attribute [local go_sem] zi zj zk zm zC zN zS K.zt K.zF K.zI zJ zQ qe
end
section
open Go.RowKit
def eD (d:Rn):K.En:=⟨d.lo,d.hi,⟨#[]⟩,0⟩
theorem wm (P:Pst) (d:Rn):cB P d↔inB P (eD d)=true:=(qd P (eD d)).symm
def LvD (s:Fc) (d:Rn):Prop:=∃ e∈s.es,aa e=d
theorem lT.cases {s:Fc} {d:Rn} {x:Int} (hf:aK s) (h:lT s d x):(¬ inB s.p.P (eD d)=true/\x=0)∨(inB s.p.P (eD d)=true/\LvD s d/\x=1)∨(inB s.p.P (eD d)=true/\¬ LvD s d/\x=2):=by
 rcases h with ⟨h,rfl⟩ | ⟨⟨-,h⟩,h2,rfl⟩ | ⟨⟨-,h⟩,h2,rfl⟩
 ·exact .inl ⟨fun k=>h ⟨hf,(wm _ _).2 k⟩,rfl⟩
 ·exact .inr (.inl ⟨(wm _ _).1 h,h2,rfl⟩)
 ·exact .inr (.inr ⟨(wm _ _).1 h,h2,rfl⟩)
theorem lT.zero {d:Rn} {x:Int} (h:lT fz0 d x):x=0:=by
 have hn:¬ cB fz0.p.P d:=fun k=>by
  have h1:=(wm _ _).1 k;rw [show fz0.p.P=pv0.P from rfl,zjw] at h1
  cases h1
 rcases h with ⟨-,h⟩ | ⟨⟨-,h⟩,-⟩ | ⟨⟨-,h⟩,-⟩
 ·exact h
 ·exact absurd h hn
 ·exact absurd h hn
attribute [local go_sem ↓] zq zp zL zK zV zU
attribute [local go_sem] zi zj zk zm zv zC zN zS
end
section
open Go.RowKit Go.Maps
def RE (v:Value):Option (DataW K.En × List MemPlace):=
 match v with
 | .agg cs=>(match cs.toList with
  | [.int .i64 r,.int .i64 n,.string s,.int .i64 q]=>some (.held ⟨r,n,s,q⟩,[])
  | _=>none)
 | _=>none
def DmE (D:DataW K.En) (L:List K.En):Prop:=∀ d l,keyOf Tryz.prog 48 (RV d)=some l -> (has D l=true↔∃ e∈L,aa e=d)/\∀ e∈L,aa e=d -> D.atKey l (.held K.en0) = .held e
def Ny (w:World) (b k:Nat) (L:List K.En):Prop:=∃ D,w.ownsMap Tryz.prog 48 RE b k D/\DmE D L
attribute [local go_sem ↓] zq zp zL zK zV zU K.zx K.zw
attribute [local go_sem] zi zj zk zm zC zN zS K.zt K.zF K.zI
end
section
open Go.RowKit
theorem zi8 {s t:Fc} (h:ab s=ab t):EqS s t:=⟨congrArg Ab.L h,congrArg Ab.P h,congrArg Ab.R h⟩
attribute [local go_sem ↓] zL zK qX
attribute [local go_sem] zk zm zv qD
end
section
open Go.RowKit
attribute [local go_sem ↓] zZ zY
attribute [local go_sem] zJ zQ qe
variable {w w' w2 W W' : World} {g : Nat}

def rcC (s d:Rc):Int:=ck (rck s) (rck d)
theorem zbX (a b:Rc) (w:World) (hA:cS w a) (hB:cS w b) (fa:aj a.p.P) (fb:aj b.p.P):Calls Tryz.prog 112 #[ReV (mkR a),ReV (mkR b)] w fun e w'=>e = .returned (.int .i64 (rcC a b))/\Below w.heap.size w w':=by
 refine (xU a b w hA hB).mono ?_;rintro e w' ⟨z,rfl,hz,hb⟩;exact ⟨by rw [zb9 fa fb hz];rfl,hb⟩
def nO (L:List Rc) (d:Rc) (n i:Nat):Prop:=i <= n/\(∀ j,j < i -> rcC (L.getD j rc0) d < 0)/\(i < n -> 0 <= rcC (L.getD i rc0) d)
def BsC (w w':World) (e:Ending) (L:List Rc) (d:Rc) (n:Nat):Prop:=∃ (i:Nat) (b:Bool),e = .returned (.tuple #[.int .i64 (i:Int),.bool b])/\nO L d n i/\(b=true↔i < n/\rcC (L.getD i rc0) d=0)/\Below w.heap.size w w'
theorem zix (ao:Option Addr) (n cap:Nat) (L:List Rc) (d:Rc) (w:World) (hS:RcS w ao n cap L) (hd:cS w d) (hf:∀ r∈L,aj r.p.P) (hfd:aj d.p.P) (hm:∀ a b,a <= b -> b < n -> rcC (L.getD b rc0) d < 0 -> rcC (L.getD a rc0) d < 0) :
  Calls Tryz.prog 175 #[.slice ao n cap,ReV (mkR d),.func (.func 112) #[] #[]] w fun e w'=>BsC w w' e L d n:=by
 have C3:∀ (args:Array Value) (w:World),(callFunc 112 args).run Tryz.prog w = .ok (.enter 112 args) w:=fun _ _=>rfl;have b1:=ze w (.cells (ReC (mkR d)) 78);have x1:=qs w (mkR d);obtain ⟨w1,cR⟩:∃ w1,w.alloc (.cells (ReC (mkR d)) 78)=w1:=⟨_,rfl⟩;obtain ⟨g1,cT⟩:∃ g1,w.heap.size=g1:=⟨_,rfl⟩;rw [cR] at b1 x1;rw [cT] at x1;have aN:=hide b1;have HX:Hid (cf w1 g1 (mkR d)/\RcS w1 ao n cap L):=⟨x1,hS.below b1⟩;have HD:Hid (cS w1 d/\aj d.p.P/\∀ r∈L,aj r.p.P):=⟨hd.below b1,hfd,hf⟩;have gJ:Hid (L.length=n):=hS.len;have pF:n <= 2199023255552:=hS.big;have HM:=hide hm;clear b1 x1 hS hm hd hf hfd;go_enter Tryz.func175,Tryz.ntmps175;go_wp2_with fail;clear cR cT;go_loopw [9,10] (fun a b wr=>∃ (lo hi:Nat),a = .int .i64 (lo:Int)/\b = .int .i64 (hi:Int)/\lo <= hi/\hi <= n/\Hid (Below w1.heap.size w1 wr/\(∀ j,j < lo -> rcC (L.getD j rc0) d < 0)/\(hi < n -> 0 <= rcC (L.getD hi rc0) d))) (fun a b _=>(intOf b).toNat - (intOf a).toNat)
 case atStart=>exact ⟨0,n,rfl,rfl,Nat.zero_le _,Nat.le_refl _,Below.refl _ _,(fun j hj=>by omega),fun h=>by omega⟩
 case round =>
  obtain ⟨lo,hi,rfl,rfl,Fr,mt,HI⟩:=hrel
  rename World=>wr
  by_cases ak:lo < hi
  ·have cL:(lo:Int) < (hi:Int):=by omega
   obtain ⟨h,hh⟩:∃ h:Nat,(lo+hi) / 2=h:=⟨_,rfl⟩
   have uG:lo <= 2199023255552:=by omega
   have FB:hi <= 2199023255552:=by omega
   obtain ⟨t,ht⟩:∃ t:Nat,lo+hi=t:=⟨_,rfl⟩
   have et:(lo:Int)+(hi:Int)=(t:Int):=by omega
   have e2:(t:Int) / 2=(h:Int):=by omega
   have e3:t / 2=h:=by omega
   have HH:Hid (lo <= h/\h < hi/\h < n):=⟨by omega,by omega,by omega⟩
   have Fg:t <= 20000000000000:=by omega
   obtain ⟨ad,rfl,A0⟩:=(HX.out.2.below HI.out.1).at h HH.out.2.2;obtain ⟨s,Hs⟩:∃ s,Hid (L.getD h rc0=s):=⟨_,rfl⟩
   have aG:Hid (∀ W,Below wr.heap.size wr W -> (eE (.pointer (some (ad.add (h * 3))))).run Tryz.prog W = .ok (ReV (mkR s)) W/\(eE (.pointer (some ⟨g1,0,none⟩))).run Tryz.prog W = .ok (ReV (mkR d)) W):=fun W hW=>by
    obtain ⟨ad',e',A1⟩:=((HX.out.2.below HI.out.1).below hW).at h HH.out.2.2;obtain rfl:=Option.some.inj e';rw [Hs.out] at A1;exact ⟨zM A1,qI ((HX.out.1.below HI.out.1).below hW)⟩
   have ug:(h:Int) < (n:Int):=by have:=HH.out;omega
   have Cy:Hid (cS wr s):=by rw [<- Hs.out];exact (HX.out.2.below HI.out.1).okAt h HH.out.2.2
   have ms:Hid (aj s.p.P):=by rw [<- Hs.out];exact HD.out.2.2 _ (jh (by rw [gJ.out];exact HH.out.2.2))
   clear A0 hh ht;go_upto_region 5 with fail;clear et e2 e3;refine wp_region_held_drew (S:=fun W=>(eE (.pointer (some (ad.add (h * 3))))).run Tryz.prog W = .ok (ReV (mkR s)) W/\(eE (.pointer (some ⟨g1,0,none⟩))).run Tryz.prog W = .ok (ReV (mkR d)) W) (by kernel_rfl) (aG.out _ (zg wr)) (fun hHeld=>?_);refine wU 0 ?_;refine wU 1 ?_;refine wU 2 ?_;refine wU 3 ?_;refine wU 4 ?_;refine wU 5 ?_;refine wpAnyH_ready (rs:=[6]) (by kernel_rfl) (by simp) (.cons rfl (fun K hK=>?_) .nil);go_simp;go_wp2_with fail;refine (zbX s d _ (Cy.out.below (zg wr)) ((HD.out.1.below HI.out.1).below (zg wr)) ms.out HD.out.2.1).mono ?_;rintro e w3 ⟨rfl,b3⟩;have dZ:Below wr.heap.size wr w3:=(zg wr).trans b3;have aB:=hide (HI.out.1.trans (dZ.mono HI.out.1.size));refine hK.out _ _ (aG.out _ dZ) (fun hHeld=>?_);clear hK K b3 dZ;obtain ⟨z,hz⟩:∃ z,rcC s d=z:=⟨_,rfl⟩
   rw [hz];refine wU 7 ?_;refine wpAnyH_done (by kernel_rfl) ?_ _;clear hHeld;by_cases dg:z < 0
   ·have HN:Hid (∀ j,j < h+1 -> rcC (L.getD j rc0) d < 0):=fun j hj=>HM.out j h (by omega) HH.out.2.2 (by rw [Hs.out,hz];exact dg);clear hz;go_wp2_with fail;go_roundw
    case rel=>exact ⟨h+1,hi,by simp,rfl,by have:=HH.out;omega,mt,aB.out,HN.out,HI.out.2.2⟩
    case measure=>simp [intOf];have:=HH.out;omega
   ·have HN:Hid (h < n -> 0 <= rcC (L.getD h rc0) d):=fun _=>by rw [Hs.out,hz];omega
    clear hz;go_wp2_with fail;go_roundw
    case rel=>exact ⟨lo,h,rfl,rfl,HH.out.1,by have:=HH.out;omega,aB.out,HI.out.2.1,HN.out⟩
    case measure=>simp [intOf];have:=HH.out;omega
  ·have cL:¬ (lo:Int) < (hi:Int):=by omega
   obtain rfl:lo=hi:=by omega
   have HF:Hid (nO L d n lo):=⟨mt,HI.out.2.1,HI.out.2.2⟩;have fR:=wTr aN HI.out.1;by_cases ic:lo < n
   ·have lP:(lo:Int) < (n:Int):=by omega
    obtain ⟨ad,rfl,A0⟩:=(HX.out.2.below HI.out.1).at lo ic;obtain ⟨s,Hs⟩:∃ s,Hid (L.getD lo rc0=s):=⟨_,rfl⟩
    have aG:Hid (∀ W,Below wr.heap.size wr W -> (eE (.pointer (some (ad.add (lo * 3))))).run Tryz.prog W = .ok (ReV (mkR s)) W/\(eE (.pointer (some ⟨g1,0,none⟩))).run Tryz.prog W = .ok (ReV (mkR d)) W):=fun W hW=>by
     obtain ⟨ad',e',A1⟩:=((HX.out.2.below HI.out.1).below hW).at lo ic;obtain rfl:=Option.some.inj e';rw [Hs.out] at A1;exact ⟨zM A1,qI ((HX.out.1.below HI.out.1).below hW)⟩
    have Cy:Hid (cS wr s):=by rw [<- Hs.out];exact (HX.out.2.below HI.out.1).okAt lo ic
    have ms:Hid (aj s.p.P):=by rw [<- Hs.out];exact HD.out.2.2 _ (jh (by rw [gJ.out];exact ic))
    clear A0;go_upto_region 8 with fail;refine wp_region_held_drew (S:=fun W=>(eE (.pointer (some (ad.add (lo * 3))))).run Tryz.prog W = .ok (ReV (mkR s)) W/\(eE (.pointer (some ⟨g1,0,none⟩))).run Tryz.prog W = .ok (ReV (mkR d)) W) (by kernel_rfl) (aG.out _ (zg wr)) (fun hHeld=>?_);refine wU 0 ?_;refine wU 1 ?_;refine wU 2 ?_;refine wU 3 ?_;refine wU 4 ?_;refine wU 5 ?_;refine wU 6 ?_;refine wU 7 ?_;refine wU 8 ?_;refine wU 9 ?_;refine wU 10 ?_;refine wpAnyH_ready (rs:=[11]) (by kernel_rfl) (by simp) (.cons rfl (fun K hK=>?_) .nil);go_simp;go_wp2_with fail;refine (zbX s d _ (Cy.out.below (zg wr)) ((HD.out.1.below HI.out.1).below (zg wr)) ms.out HD.out.2.1).mono ?_;rintro e w3 ⟨rfl,b3⟩;have dZ:Below wr.heap.size wr w3:=(zg wr).trans b3;have aB:=wTr fR dZ;refine hK.out _ _ (aG.out _ dZ) (fun hHeld=>?_)
    clear hK K b3 dZ;obtain ⟨z,hz⟩:∃ z,rcC s d=z:=⟨_,rfl⟩;rw [hz]
    have Gm:Hid (rcC (L.getD lo rc0) d=z):=by show _=_;rw [Hs.out];exact hz
    clear hz;refine wU 14 ?_;refine wU 12 ?_;refine wU 13 ?_;refine wU 15 ?_;refine wpAnyH_done (by kernel_rfl) ?_ _;clear hHeld;go_wp2_with fail;go_ret2;exact ⟨lo,_,rfl,HF.out,by rw [Gm.out];simp [ic],aB.out⟩
   ·have lP:¬ (lo:Int) < (n:Int):=by omega
    go_upto_region 8 with fail;refine wp_region_held_drew (S:=fun _=>True) (by kernel_rfl) (trivial) (fun hHeld=>?_);refine wU 0 ?_;refine wU 1 ?_;refine wU 2 ?_;refine wU 3 ?_;refine wU 4 ?_;refine wV 5 ?_;refine wV 6 ?_;refine wV 7 ?_;refine wV 8 ?_;refine wV 9 ?_;refine wV 10 ?_;refine wV 11 ?_;refine wV 12 ?_;refine wU 14 ?_;refine wU 13 ?_;refine wU 15 ?_;refine wpAnyH_done (by kernel_rfl) ?_ _;clear hHeld;go_wp2_with fail;go_ret2;exact ⟨lo,_,rfl,HF.out,by simp [ic],fR.out.trans ((zg wr).mono fR.out.size)⟩
end
end Go.Proofs.YtjffpimfngdggaaGreat
