/- BRr TUo TCk LPu LLtr LSrt LDd LShf LMr LOnc -/
import Derived.Test.YtjffpimfngdggaaGreatFf19
import Derived.Deep.CutRange
import Derived.Deep.CutBlock
import Derived.Below
import Derived.Laws.MakeOwn
import Derived.Deep.LoopGhost
import Derived.Lib.SlicesCompact
import Derived.Shelf.SlSortCmp.WholeK
import Derived.Shelf.SlicesQ.Reverse
import Derived.Lib.OwnBridge
set_option maxRecDepth 100000
set_option maxHeartbeats 3200000
namespace Go.Proofs.YtjffpimfngdggaaGreat
section
open Go.RowKit
attribute [local go_sem ↓] zq zp qf qe
attribute [local go_sem] zi zk zL zS qg
theorem zaq (r:Rc) (w:World) (hR:cM w r):Calls Tryz.prog 94 #[ReV (mkR r)] w fun e w'=>cH w w' e (fu r):=by
 have HX:=hide (qi w (mkR r));have al:=hide (ze w (.cells (ReC (mkR r)) 78));have HS:=hide (hR.1.below al);have hs:=hR.2;clear hR;obtain ⟨wk,aL⟩:∃ wk,w.alloc (.cells (ReC (mkR r)) 78)=wk:=⟨_,rfl⟩;obtain ⟨G,hG⟩:∃ G,w.heap.size=G:=⟨_,rfl⟩;rw [aL] at HX al HS;rw [hG] at HX;have c0:=HX.sk;have l1:=zj HX.past;have key:Hid (fH r.s=true -> Calls Tryz.prog 51 #[PV r.p] wk fun e w'=>fP wk w' e (ag r.p.P)):=fun _=>xM r.p wk HS.out;by_cases h0:r.s.size=0
 ·have e0:=K.jc r.s h0
  have HR:Hid (fH r.s=true):=by show _=_;unfold fH;rw [decide_eq_true h0,Bool.true_or]
  clear h0;go_enter Tryz.func94,Tryz.ntmps94;go_wp2_with fail;clear aL;refine (key.out HR).mono ?_;rintro e w3 ⟨b,rfl,hb,b3⟩;have aw:=wTr al b3;have dh:=hide (HX.below b3);have mn:=hide (HS.below b3);clear b3 l1 c0 key
  cases b with
  | false =>
   have HE:Hid (fu r 1):=.inr (.inl ⟨HR.out,fun h=>(by have:=hb.2 h.1;cases this),rfl⟩);clear hb;go_wp2_with fail;go_ret;exact ⟨_,rfl,HE.out,aw.out⟩
  | true =>
   have HF:Hid (ag r.p.P):=hb.1 rfl;clear hb;have l3:=zj dh.past;go_wp2_with fail;refine (xA r.p _ mn).mono ?_;rintro e w4 ⟨b,rfl,hb,b4⟩;have aI:=wTr aw b4;clear b4 l3
   cases b with
   | true =>
    have HE:Hid (fu r 1):=.inr (.inl ⟨HR.out,fun h=>h.2 (hb.1 rfl),rfl⟩);clear hb;go_wp2_with fail;go_ret;exact ⟨_,rfl,HE.out,aI.out⟩
   | false =>
    have HE:Hid (fu r 0):=.inr (.inr ⟨HR.out,⟨HF.out,fun h=>(by have:=hb.2 h;cases this)⟩,rfl⟩);clear hb;go_wp2_with fail;go_ret;exact ⟨_,rfl,HE.out,aI.out⟩
 ·have e0:=K.jP r.s h0
  have HR:Hid (fH r.s=K.eQ r.s.data.toList):=by show _=_;unfold fH;rw [decide_eq_false h0,Bool.false_or]
  clear h0;go_enter Tryz.func94,Tryz.ntmps94;go_wp2_with fail;refine (K.jF r.s _ hs).mono ?_;rintro e w' ⟨rfl,rfl⟩
  cases hg:K.eQ r.s.data.toList with
  | false =>
   rw [hg] at HR;have HE:Hid (fu r 5):=.inl ⟨HR.out,rfl⟩;clear hg;go_wp2_with fail;go_ret;exact ⟨_,rfl,HE.out,al.out⟩
  | true =>
   rw [hg] at HR;clear hg;go_wp2_with fail;clear aL;refine (key.out HR).mono ?_;rintro e w3 ⟨b,rfl,hb,b3⟩;have aw:=wTr al b3;have dh:=hide (HX.below b3);have mn:=hide (HS.below b3);clear b3 l1 c0 key
   cases b with
   | false =>
    have HE:Hid (fu r 1):=.inr (.inl ⟨HR.out,fun h=>(by have:=hb.2 h.1;cases this),rfl⟩);clear hb;go_wp2_with fail;go_ret;exact ⟨_,rfl,HE.out,aw.out⟩
   | true =>
    have HF:Hid (ag r.p.P):=hb.1 rfl;clear hb;have l3:=zj dh.past;go_wp2_with fail;refine (xA r.p _ mn).mono ?_;rintro e w4 ⟨b,rfl,hb,b4⟩;have aI:=wTr aw b4;clear b4 l3
    cases b with
    | true =>
     have HE:Hid (fu r 1):=.inr (.inl ⟨HR.out,fun h=>h.2 (hb.1 rfl),rfl⟩);clear hb;go_wp2_with fail;go_ret;exact ⟨_,rfl,HE.out,aI.out⟩
    | false =>
     have HE:Hid (fu r 0):=.inr (.inr ⟨HR.out,⟨HF.out,fun h=>(by have:=hb.2 h;cases this)⟩,rfl⟩);clear hb;go_wp2_with fail;go_ret;exact ⟨_,rfl,HE.out,aI.out⟩
theorem zif:∀ x y:List UInt8,Lib.compareBytes x y = -1∨Lib.compareBytes x y=0∨Lib.compareBytes x y=1
 | [],[]=>by simp [Lib.compareBytes]
 | [],_ :: _=>by simp [Lib.compareBytes]
 | _ :: _,[]=>by simp [Lib.compareBytes]
 | a :: x,b :: y=>by
  simp only [Lib.compareBytes]
  split
  ·exact .inl rfl
  ·split
   ·exact .inr (.inr rfl)
   ·exact zif x y
theorem zch (a b:Rc) (w:World) (hA:cM w a) (hB:cM w b):Calls Tryz.prog 95 #[ReV (mkR a),ReV (mkR b)] w fun e w'=>cH w w' e (gl a b):=by
 have b1:=ze w (.cells (ReC (mkR a)) 78);have b2:=ze (w.alloc (.cells (ReC (mkR a)) 78)) (.cells (ReC (mkR b)) 78);have X2:=qi (w.alloc (.cells (ReC (mkR a)) 78)) (mkR b);rw [World.size_alloc] at X2;have dT:=hide ((qi w (mkR a)).below b2);have eN:=hide X2;have al:=hide (b1.trans (b2.mono b1.size));have iu:=hide (hA.1.below al);have gC:=hide (hB.1.below al);clear b1 b2 X2 hA hB;obtain ⟨wk,aL⟩:∃ wk,(w.alloc (.cells (ReC (mkR a)) 78)).alloc (.cells (ReC (mkR b)) 78)=wk:=⟨_,rfl⟩;obtain ⟨G,hG⟩:∃ G,w.heap.size=G:=⟨_,rfl⟩;rw [aL] at dT eN al iu gC;rw [hG] at dT eN;have c1:=dT.sk;have c2:=eN.sk;have l1:=zj dT.past;have l2:=zj eN.past;have mO:=hide (kF a.s b.s).1;have rS:=hide (kF a.s b.s).2;have f4:eZ a.s b.s = -1∨eZ a.s b.s=0∨eZ a.s b.s=1:=zif _ _
 rcases f4 with h | h | h
 ·have HF:Hid (gl a b (-1)):=.inl ⟨by rw [h];decide,h.symm⟩
  have f1:Op.bytesLess a.s.toList b.s.toList=true:=by rw [mO.out,h];rfl
  clear h;go_enter Tryz.func95,Tryz.ntmps95;go_wp2_with fail;go_ret;exact ⟨_,rfl,HF.out,al.out⟩
 ·have HZ:=hide h
  have f1:Op.bytesLess a.s.toList b.s.toList=false:=by rw [mO.out,h];rfl
  have f2:(a.s.toList == b.s.toList)=true:=by rw [rS.out,h];rfl
  clear h;go_enter Tryz.func95,Tryz.ntmps95;go_wp2_with fail;clear aL;refine (ko a.p b.p _ iu.out gC).mono ?_;rintro e w2 ⟨k,rfl,hk,b2⟩;have HF:Hid (gl a b k/\Below w.heap.size w w2):=⟨.inr ⟨HZ.out,zfN hk⟩,al.trans (b2.mono al.size)⟩;clear hk b2 l1 l2;go_wp2_with fail;go_ret;exact ⟨_,rfl,HF.1,HF.2⟩
 ·have HF:Hid (gl a b 1):=.inl ⟨by rw [h];decide,h.symm⟩
  have f1:Op.bytesLess a.s.toList b.s.toList=false:=by rw [mO.out,h];rfl
  have f2:(a.s.toList == b.s.toList)=false:=by rw [rS.out,h];rfl
  clear h;go_enter Tryz.func95,Tryz.ntmps95;go_wp2_with fail;go_ret;exact ⟨_,rfl,HF.out,al.out⟩
theorem zci (ao:Option Addr) (n cap:Nat) (L:List Rc) (w:World) (hS:RcS w ao n cap L):Calls Tryz.prog 52 #[.slice ao n cap] w fun e w'=>cH w w' e (Cv L n):=by
 have HS:=hide hS;have hn:=hS.big;clear hS;go_enter Tryz.func52,Tryz.ntmps52;go_wp2_with fail;go_loopw [3] (fun i wr=>∃ k:Nat,k <= n/\i = .int .i64 k/\Hid (OkR L k)/\Hid (Below w.heap.size w wr)) (fun i _=>n - (intOf i).toNat)
 case atStart=>exact ⟨0,Nat.zero_le _,rfl,zau L,Below.refl _ _⟩
 case round =>
  obtain ⟨k,hk,rfl,HK,HB⟩:=hrel
  rename World=>wr
  by_cases ak:k < n
  ·have aX:(k:Int) < (n:Int):=by omega
   obtain ⟨ad,cU,A0⟩:=(HS.below HB).at k ak;subst cU;have dF:=zC A0;have HO:=hide ((HS.below HB).okAt k ak);have mQ:=hide (HS.below HB);obtain ⟨r,Hr⟩:∃ r,Hid (L.getD k rc0=r):=⟨_,rfl⟩;rw [Hr.out] at dF HO A0;have r7:=hide A0;have aK:=hide ak;clear A0;go_wp2_with fail;clear dF;refine (zaq r _ HO).mono ?_;rintro e w1 ⟨x,rfl,hx,b1⟩;have aM:=wTr HB b1;have nY:=hide (mQ.below b1);have ts:=hide (r7.on b1);have p5:=hide (HO.below b1);clear b1 mQ r7 HO;by_cases oA:x=0
   ·obtain rfl:=oA
    have oc:Hid (ch (L.getD k rc0)):=by rw [Hr.out];exact hx.zero.1 rfl
    clear hx;by_cases gL:k=0
    ·have iU:decide ((0:Int) < (k:Int))=false:=by rw [decide_eq_false_iff_not];omega
     have tE:decide (0 < k)=false:=by rw [decide_eq_false_iff_not];omega
     have BU:=hide gL;clear gL;go_upto_region 6 with fail;refine wp_region_held_drew (S:=fun _=>True) (by kernel_rfl) (trivial) (fun hHeld=>?_);refine wU 0 ?_;refine wU 1 ?_;refine wU 2 ?_;refine wV 3 ?_;refine wV 4 ?_;refine wV 5 ?_;refine wV 6 ?_;refine wV 7 ?_;refine wV 8 ?_;refine wV 9 ?_;refine wV 10 ?_;refine wV 11 ?_;refine wV 12 ?_;refine wV 13 ?_;refine wU 14 ?_;refine wD ?_ _;clear hHeld;go_wp2_with fail;go_roundw
     case rel=>exact ⟨k+1,by omega,by simp,HK.snoc oc.out (fun h=>absurd h (by have:=BU.out;omega)),aM.trans ((zf w1).mono aM.size)⟩
     case measure=>simp [intOf];omega
    ·obtain ⟨j,Hj⟩:∃ j,Hid (k=j+1):=⟨k - 1,(show k=k - 1+1 by omega)⟩
     have m8:j < n:=by have:=Hj.out;omega
     have Jv:IntKind.i64.wrap ((k:Int) - 1)=(j:Int):=by rw [IntKind.wrap_i64];have:=Hj.out;omega
     have iU:decide ((0:Int) < (k:Int))=true:=by rw [decide_eq_true_iff];omega
     have tE:decide (0 < k)=true:=by rw [decide_eq_true_iff];omega
     obtain ⟨ad',e',Aj⟩:=nY.at j m8;obtain rfl:=Option.some.inj e';have Ad:=hide (nY.okAt j m8);obtain ⟨q,Hq⟩:∃ q,Hid (L.getD j rc0=q):=⟨_,rfl⟩;rw [Hq.out] at Aj Ad;have rA:=hide Aj;clear Aj e';go_upto_region 6 with fail;refine wp_region_held_drew (S:=fun v=>(dY (.pointer (some (ad.add (k * 3))))).run Tryz.prog v = .ok (.agg (ReC (mkR r))) v/\(dY (.pointer (some (ad.add (j * 3))))).run Tryz.prog v = .ok (.agg (ReC (mkR q))) v) (by kernel_rfl) (⟨zC (ts.on (zf w1)),zC (rA.on (zf w1))⟩) (fun hHeld=>?_);refine wU 0 ?_;refine wU 1 ?_;refine wU 2 ?_;refine wU 3 ?_;refine wU 4 ?_;refine wU 5 ?_;refine wU 6 ?_;refine wU 7 ?_;refine wU 8 ?_;refine wU 9 ?_;refine wU 10 ?_;refine wU 11 ?_;refine wR 12 fun K hK=>?_;go_simp;go_wp2_with fail
     refine (zch q r _ (Ad.below (zf w1)) (p5.below (zf w1))).mono ?_;rintro e w3 ⟨z,rfl,hz,b3⟩;have eo:Below w1.heap.size w1 w3:=(zf w1).trans b3;have aw:=hide eo;refine hK.out _ _ (⟨zC (ts.on (eo)),zC (rA.on (eo))⟩) (fun hHeld=>?_);clear hK K b3;by_cases cY:(0:Int) <= z
     ·have Ap:decide (0 <= z)=true:=decide_eq_true cY
      have ib:Hid (¬ OkR L n):=fun h=>by
       have h2:=(h k aK).2 (by have:=Hj.out;omega);rw [show k - 1=j by have:=Hj.out;omega,Hr.out,Hq.out] at h2;obtain ⟨z2,h3,h4⟩:=h2;have:=hz.unique h3;omega
      clear hz cY;refine wU 13 ?_;refine wU 14 ?_;refine wD ?_ _;clear hHeld;go_wp2_with fail;go_ret;exact ⟨_,rfl,.inr ⟨rfl,ib.out⟩,aM.trans (aw.mono aM.size)⟩
     ·have Ap:decide (0 <= z)=false:=decide_eq_false cY
      have lW:Hid (0 < k -> LtR (L.getD (k - 1) rc0) (L.getD k rc0)):=fun _=>by
       rw [show k - 1=j by have:=Hj.out;omega,Hr.out,Hq.out];exact ⟨z,hz,by omega⟩
      clear hz cY;refine wU 13 ?_;refine wU 14 ?_;refine wD ?_ _;clear hHeld;go_wp2_with fail;go_roundw
      case rel=>exact ⟨k+1,by omega,by simp,HK.snoc oc.out lW,aM.trans (aw.mono aM.size)⟩
      case measure=>simp [intOf];omega
   ·have ib:Hid (¬ OkR L n):=fun h=>oA (hx.zero.2 (by have:=(h k aK).1;rw [Hr.out] at this;exact this))
    have LK:(x != 0)=true:=by simpa using oA
    clear hx oA;go_wp2_with fail;go_ret;exact ⟨_,rfl,.inr ⟨rfl,ib.out⟩,aM.out⟩
  ·obtain rfl:k=n:=by omega
   go_wp2_with fail;go_ret;exact ⟨_,rfl,.inl ⟨rfl,HK.out⟩,HB.out⟩
end
section
open Go.RowKit Go.Maps Go.Sort
attribute [local go_sem ↓] zq zp qf qe
attribute [local go_sem] zL zS qg
theorem RcT.drop {w:World} {ad:Addr} {n c:Nat} {L:List Rc} (h:RcT w (some ad) n c L) (k:Nat) (hk:k <= n):RcT w (some (ad.add (k * 3))) (n - k) (c - k) (L.drop k):=by
 have hl:=h.src.len;have hc:=h.room;have hb:=h.src.big;refine ⟨⟨by rw [List.length_drop];omega,fun e=>(by cases e),fun ad' e t ht=>?_,fun r hr=>h.src.ok r (List.mem_of_mem_drop hr),by omega⟩,by omega,fun e=>(by cases e)⟩;obtain rfl:=Option.some.inj e;have A:=h.src.at_ ad rfl (k+t) (by omega)
 have e1:(L.drop k).getD t rc0=L.getD (k+t) rc0:=by
  simp only [List.getD,List.getElem?_drop]
 rw [e1,qE,show k * 3+t * 3=(k+t) * 3 by omega];exact A
def JT (L F:List Rc):Prop:=Srt ck (plR F)/\(∀ y,y∈plR F↔y∈plR L)/\∀ r∈F,ch r
def OrA (w w':World) (x:Ending) (L:List Rc):Prop:=∃ (h:Hs) (F:List Rc),x = .returned (HsV h)/\RcT w' h.o h.n h.c F/\h.n <= L.length/\(∀ ad,h.o=some ad -> w.heap.size <= ad.block)/\Below w.heap.size w w'/\JT L F
def ZOf (A B:List Rc) (i j na nb:Nat) (z:Int):Prop:=(i=na/\z=1)∨(i < na/\j=nb/\z = -1)∨(i < na/\j < nb/\z=ck (rck (A.getD i rc0)) (rck (B.getD j rc0)))
section
variable {X Y D : List Rp} {A B : List Rc} {i j : Nat} {z : Int}
end
structure UO (w2 wr:World) (A B:List Rc) (i j:Nat) (h:Hs) (D:List Rc):Prop where
 own:aO w2.heap.size w2 wr h D
 okd:∀ r∈D,ch r
 mg:Mg ck (plR A) (plR B) (plR D) (plR (A.drop i)) (plR (B.drop j))
 num:h.n <= i+j
def UOv (w2:World) (A B:List Rc) (na nb:Nat) (v vi vj:Value) (wr:World):Prop:=∃ (i j:Nat) (h:Hs) (D:List Rc),i <= na/\j <= nb/\v = .slice h.o h.n h.c/\vi = .int .i64 (i:Int)/\vj = .int .i64 (j:Int)/\Hid (UO w2 wr A B i j h D)
def UrA (w w':World) (x:Ending) (L:List Rc) (n:Nat) (M:List Rc) (m:Nat):Prop:=(OkR L n/\OkR M m/\∃ (h:Hs) (F:List Rc),x = .returned (.tuple #[HsV h,.int .i64 0])/\RcT w' h.o h.n h.c F/\(∀ ad,h.o=some ad -> w.heap.size <= ad.block)/\h.n <= n+m/\Below w.heap.size w w'/\ly L M F)∨(¬ (OkR L n/\OkR M m)/\x = .returned (.tuple #[.slice none 0 0,.int .i64 1])/\Below w.heap.size w w')
end
section
open Go.RowKit
attribute [local go_sem ↓] zq zp zE zD
attribute [local go_sem] zi zk zl zr
def sJ (f:Fc) (x:Int):Prop:=(x=0/\ar f)∨(x=1/\¬ ar f)
theorem vQ {f:Fc} (hl:f.es.length=f.an):K.chk f.es=0↔K.okN f.es f.an=true:=by
 unfold K.chk;rw [hl]
 split <;> simp_all
theorem ju (f:Fc) (w:World) (hF:aU w f):Calls Tryz.prog 41 #[FaV (mkF f)] w fun e w'=>cH w w' e (sJ f):=by
 have HX:=hide (zU w (mkF f));have al:=hide (ze w (.cells (FaC (mkF f)) 29));have HS:=hide (hF.below al);clear hF;obtain ⟨wk,aL⟩:∃ wk,w.alloc (.cells (FaC (mkF f)) 29)=wk:=⟨_,rfl⟩;obtain ⟨G,hG⟩:∃ G,w.heap.size=G:=⟨_,rfl⟩;rw [aL] at HX al HS;rw [hG] at HX;obtain ⟨c0,c3⟩:=HX.cs;go_enter Tryz.func41,Tryz.ntmps41;go_wp2_with fail;clear aL hG;refine (K.qx f.ao f.an f.ac f.es _ HS.es).mono ?_;rintro e w1 ⟨rfl,b1⟩;have aM:=wTr al b1;have i6:=hide (HX.below b1);have dg:=hide (HS.below b1);clear b1 c0 c3;by_cases h0:K.chk f.es=0
 ·have H0:=hide h0;rw [h0];clear h0;have lp:=zj i6.past;go_wp2_with fail;refine (xd f.p _ dg.p).mono ?_;rintro e w2 ⟨b,rfl,hb,b2⟩;have cu:=wTr aM b2;have eS:=hide (i6.below b2);have dZ:=hide (dg.below b2);clear b2 lp
  cases b with
  | false =>
   have HE:Hid (sJ f 1):=.inr ⟨rfl,fun h=>(by have:=hb.2 h.2.1;cases this)⟩;clear hb;go_wp2_with fail;go_ret;exact ⟨_,rfl,HE.out,cu.out⟩
  | true =>
   have HI:Hid (ag f.p.P):=hb.1 rfl;obtain ⟨-,c3⟩:=eS.cs;clear hb;go_wp2_with fail;refine (xp f.ro f.rn f.rc f.rs _ dZ.rs).mono ?_;rintro e w3 ⟨x,rfl,hx,b3⟩;have aw:=wTr cu b3;clear b3 c3;rcases hx with ⟨rfl,h1⟩ | ⟨rfl,h1⟩
   ·have HE:Hid (sJ f 0):=.inl ⟨rfl,(vQ HS.es.1).1 H0,HI.out,h1⟩;clear h1;go_wp2_with fail;go_ret;exact ⟨_,rfl,HE.out,aw.out⟩
   ·have HE:Hid (sJ f 1):=.inr ⟨rfl,fun h=>h1 h.2.2⟩;clear h1;go_wp2_with fail;go_ret;exact ⟨_,rfl,HE.out,aw.out⟩
 ·have HE:Hid (sJ f 1):=.inr ⟨rfl,fun h=>h0 ((vQ HS.es.1).2 h.1)⟩
  have cr:(K.chk f.es != 0)=true:=by simp [h0]
  clear h0;go_wp2_with fail;go_ret;exact ⟨_,rfl,HE.out,aM.out⟩
theorem sW (w:World) (f g:Fc):∃ wk,(w.alloc (.cells (FaC (mkF f)) 29)).alloc (.cells (FaC (mkF g)) 29)=wk/\Hid (aF wk w.heap.size (mkF f))/\Hid (aF wk (w.heap.size+1) (mkF g))/\Hid (Below w.heap.size w wk):=by
 have b1:=ze w (.cells (FaC (mkF f)) 29);have b2:=ze (w.alloc (.cells (FaC (mkF f)) 29)) (.cells (FaC (mkF g)) 29);have X2:=zU (w.alloc (.cells (FaC (mkF f)) 29)) (mkF g);rw [World.size_alloc] at X2;exact ⟨_,rfl,(zU w (mkF f)).below b2,X2,b1.trans (b2.mono b1.size)⟩
def Cg (f g:Fc) (x:Int):Prop:=(x=0/\ar f/\ar g)∨(x=1/\¬ (ar f/\ar g))
theorem zaV (f g:Fc) (w:World) (hF:aU w f) (hG:aU w g):Calls Tryz.prog 77 #[FaV (mkF f),FaV (mkF g)] w fun e w'=>cH w w' e (Cg f g):=by
 obtain ⟨wk,aL,HX,HY,al⟩:=sW w f g;have HS:=hide (hF.below al);have HR:=hide (hG.below al);clear hF hG;have lf:=zW HX.out;go_enter Tryz.func77,Tryz.ntmps77;go_wp2_with fail;clear aL;refine (ju f _ HS).mono ?_;rintro e w1 ⟨x,rfl,hx,b1⟩;have aM:=wTr al b1;have Bl:=hide (HY.below b1);have o5:=hide (HR.below b1);clear b1 lf;rcases hx with ⟨rfl,h1⟩ | ⟨rfl,h1⟩
 ·have H1:=hide h1;clear h1;have lg:=zW Bl.out;go_wp2_with fail;clear lg;refine (ju g _ o5).mono ?_;rintro e w2 ⟨x,rfl,hx,b2⟩
  have HE:Hid (Cg f g x/\Below w.heap.size w w2):=by
   refine ⟨?_,aM.trans (b2.mono aM.size)⟩;rcases hx with ⟨rfl,h2⟩ | ⟨rfl,h2⟩
   ·exact .inl ⟨rfl,H1.out,h2⟩
   ·exact .inr ⟨rfl,fun h=>h2 h.2⟩
  clear hx b2;go_wp2_with fail;go_ret;exact ⟨_,rfl,HE.1,HE.2⟩
 ·have HE:Hid (Cg f g 1/\Below w.heap.size w w1):=⟨.inr ⟨rfl,fun h=>h1 h.1⟩,aM.out⟩;clear h1;go_wp2_with fail;go_ret;exact ⟨_,rfl,HE.1,HE.2⟩
end
end Go.Proofs.YtjffpimfngdggaaGreat
namespace Go.Proofs.YtjffpimfngdggaaGreat.K
section


def uM {α : Type} (le : α -> α -> Prop) (w:Nat) (L:List α):Prop:=∀ q,((L.drop (q * w)).take w).Pairwise le
def mrg {α : Type} (le : α -> α -> Bool) (L:List α) (i mid j en:Nat):List α := List.merge ((L.drop i).take (mid - i)) ((L.drop j).take (en - j)) le
structure Ou {α : Type} (le : α -> α -> Bool) (L M:List α) (n q f t:Nat):Prop where
 hf:f=2 * t * q
 hl:M.length=min f n
 hp:M.Perm (L.take f)
 hc:uM (fun x y=>le x y=true) (2 * q) M
end
section
open Go.RowKit
attribute [local go_sem ↓] zy zx xG
attribute [local go_sem] zJ zu zH
def leE (x y:En):Bool := !ahead y x
end
section
open Go.RowKit
attribute [local go_sem ↓] zy zx
attribute [local go_sem] zJ zu zH
attribute [local go_sem] xq
def rj (a b:Value):Sem Value:=Instr.makeSlice 22 a b
theorem yw (a b:Value):Instr.makeSlice 22 a b=rj a b:=rfl
attribute [local go_sem ↓] yw
def uz (L R:List En):Prop:=R.Perm L/\R.Pairwise (fun x y=>leE x y=true)
def JI (w w':World) (e:Ending) (L:List En):Prop:=∃ R,uz L R/\oH w w' e R
end
section
open Go.RowKit

instance:DecidableEq En:=fun a b =>
 decidable_of_iff (a.rep=b.rep/\a.num=b.num/\a.sku=b.sku/\a.qty=b.qty) ⟨fun ⟨h1,h2,h3,h4⟩=>by cases a;cases b;simp_all,fun h=>by subst h;exact ⟨rfl,rfl,rfl,rfl⟩⟩
instance:Inhabited En:=⟨en0⟩
def aq (x y:En):Bool:=x.rep == y.rep && x.num == y.num
theorem zhQ {x y:En} (h:leE x y=true) (hs:aq y x=false):ahead x y=true:=by
 simp [leE,ahead,aq] at *;omega
theorem yO {x y z:En} (h:ahead x y=true) (h2:ahead y z=true):ahead x z=true:=by
 simp [ahead] at *;omega
theorem vz (x:En):ahead x x=false:=by simp [ahead]
theorem zcJ {x y:En} (h:ahead x y=true):ahead y x=false:=by
 simp [ahead] at *;omega
theorem bN {x y:En} (h:ahead x y=true):aq x y=false:=by
 simp [ahead,aq] at *;omega
theorem zba {x y:En}:aq x y=aq y x:=by
 simp [aq,Bool.beq_comm]
def cI (L:List En):Prop:=∃ x,x∈L/\∃ y,y∈L/\aq x y=true/\x≠y
def Asc (R:List En):Prop:=R.Pairwise (fun x y=>ahead x y=true)
def dK (L R:List En) (e:Int):Prop:=(cI L/\R=[]/\e=10)∨(¬ cI L/\e=0/\Asc R/\∀ x,x∈R↔x∈L)
theorem bL:∀ {R R':List En},Asc R -> Asc R' -> (∀ x,x∈R↔x∈R') -> R=R'
 | [],[],_,_,_=>rfl
 | [],b :: _,_,_,h=>absurd ((h b).2 (List.mem_cons_self ..)) (by simp)
 | a :: _,[],_,_,h=>absurd ((h a).1 (List.mem_cons_self ..)) (by simp)
 | a :: R,b :: R',h1,h2,h=>by
  obtain ⟨a1,a2⟩:=List.pairwise_cons.1 h1;obtain ⟨b1,b2⟩:=List.pairwise_cons.1 h2
  have e:a=b:=by
   rcases List.mem_cons.1 ((h a).1 (List.mem_cons_self ..)) with e | e
   ·exact e
   ·rcases List.mem_cons.1 ((h b).2 (List.mem_cons_self ..)) with e' | e'
    ·exact e'.symm
    ·have:=zcJ (a1 b e');rw [b1 a e] at this;cases this
  subst e;rw [bL a2 b2 (fun x=>?_)];have hx:=h x;simp only [List.mem_cons] at hx;constructor
  ·intro hm;rcases hx.1 (Or.inr hm) with e | e
   ·subst e;have:=a1 x hm;rw [vz] at this;cases this
   ·exact e
  ·intro hm;rcases hx.2 (Or.inr hm) with e | e
   ·subst e;have:=b1 x hm;rw [vz] at this;cases this
   ·exact e
theorem kC {R L:List En} (h:Asc R) (hm:∀ x,x∈R↔x∈L):¬ cI L:=by
 rintro ⟨x,hx,y,hy,hs,cr⟩;have hx:=(hm x).2 hx;have hy:=(hm y).2 hy;clear hm
 induction R with
 | nil=>simp at hx
 | cons a R ih =>
  obtain ⟨a1,a2⟩:=List.pairwise_cons.1 h;rcases List.mem_cons.1 hx with e | e
  ·subst e;rcases List.mem_cons.1 hy with e | e
   ·exact cr e.symm
   ·have:=bN (a1 y e);rw [hs] at this;cases this
  ·rcases List.mem_cons.1 hy with e' | e'
   ·subst e';have:=bN (a1 x e);rw [zba,hs] at this;cases this
   ·exact ih a2 e e'
theorem cI.perm {L R:List En} (h:cI L) (hm:∀ x,x∈L↔x∈R):cI R:=by
 obtain ⟨x,hx,y,hy,r⟩:=h;exact ⟨x,(hm x).1 hx,y,(hm y).1 hy,r⟩
theorem dK.perm {L L' R:List En} {e:Int} (h:dK L R e) (hm:∀ x,x∈L↔x∈L'):dK L' R e:=by
 rcases h with ⟨c,r,e1⟩ | ⟨c,e1,a,m⟩
 ·exact Or.inl ⟨c.perm hm,r,e1⟩
 ·exact Or.inr ⟨fun c'=>c (c'.perm (fun x=>(hm x).symm)),e1,a,fun x=>(m x).trans (hm x)⟩

def Gd (L:List En) (k:Nat) (acc:List En):Prop:=Asc acc/\∀ x,x∈acc↔x∈L.take k
theorem zjU {L:List En} (hL:L.Pairwise (fun x y=>leE x y=true)) (i j:Nat) (rD:i < j) (hj:j < L.length):leE (L.getD i en0) (L.getD j en0)=true:=by
 have:=List.pairwise_iff_getElem.1 hL i j (by omega) hj rD;simpa [List.getD,hj,show i < L.length by omega] using this
theorem zaI (L:List En) (k:Nat) (h:k < L.length):L.getD k en0∈L:=by
 have:L.getD k en0=L[k]:=by simp [List.getD,h]
 rw [this];exact List.getElem_mem _
end
end Go.Proofs.YtjffpimfngdggaaGreat.K
namespace Go.Proofs
open Go.Shelf
def Tryz.sortEn_ren:Go.Shelf.Ren:=⟨fun | 6=>234 | 15=>160 | 14=>249 | 28=>201 | 29=>202 | 20=>254 | 21=>255 | 22=>256 | 23=>257 | 24=>258 | 25=>259 | 26=>260 | 27=>261 | 46=>263 | 47=>228 | 48=>229 | 49=>264 | 50=>265 | 57=>266 | n=>n,fun | 22=>22 | 24=>50 | 25=>155 | 3=>3 | 39=>201 | 0=>0 | 53=>230 | 55=>232 | 4=>4 | 46=>223 | 45=>222 | 50=>174 | 5=>5 | 9=>9 | 66=>247 | 70=>251 | 76=>263 | 77=>132 | n=>n,fun | n=>n⟩
theorem Tryz.sortEn:Go.Proofs.SlLaysF0.n6 Tryz.prog Tryz.sortEn_ren:={
 mixed:=by kernel_rfl
 f6:=⟨Tryz.f234.name,by decide,Tryz.func234.trans (congrArg some (by kernel_rfl))⟩
 f14:=⟨Tryz.f249.name,by decide,Tryz.func249.trans (congrArg some (by kernel_rfl))⟩
 f15:=Tryz.func160.trans (congrArg some (by kernel_rfl))
 f20:=⟨Tryz.f254.name,by decide,Tryz.func254.trans (congrArg some (by kernel_rfl))⟩
 f21:=⟨Tryz.f255.name,by decide,Tryz.func255.trans (congrArg some (by kernel_rfl))⟩
 f22:=⟨Tryz.f256.name,by decide,Tryz.func256.trans (congrArg some (by kernel_rfl))⟩
 f23:=⟨Tryz.f257.name,by decide,Tryz.func257.trans (congrArg some (by kernel_rfl))⟩
 f24:=⟨Tryz.f258.name,by decide,Tryz.func258.trans (congrArg some (by kernel_rfl))⟩
 f25:=⟨Tryz.f259.name,by decide,Tryz.func259.trans (congrArg some (by kernel_rfl))⟩
 f26:=⟨Tryz.f260.name,by decide,Tryz.func260.trans (congrArg some (by kernel_rfl))⟩
 f27:=⟨Tryz.f261.name,by decide,Tryz.func261.trans (congrArg some (by kernel_rfl))⟩
 f28:=Tryz.func201.trans (congrArg some (by kernel_rfl))
 f29:=Tryz.func202.trans (congrArg some (by kernel_rfl))
 f46:=⟨Tryz.f263.name,by decide,Tryz.func263.trans (congrArg some (by kernel_rfl))⟩
 f47:=Tryz.func228.trans (congrArg some (by kernel_rfl))
 f48:=Tryz.func229.trans (congrArg some (by kernel_rfl))
 f49:=⟨Tryz.f264.name,by decide,Tryz.func264.trans (congrArg some (by kernel_rfl))⟩
 f50:=⟨Tryz.f265.name,by decide,Tryz.func265.trans (congrArg some (by kernel_rfl))⟩
 f57:=⟨Tryz.f266.name,by decide,Tryz.func266.trans (congrArg some (by kernel_rfl))⟩
 t0:=Tryz.underlying0
 a0:=Tryz.isAgg0
 z0:=Tryz.sizeOf0
 v0:=Tryz.zeroValue0
 t3:=Tryz.underlying3
 a3:=Tryz.isAgg3
 z3:=Tryz.sizeOf3
 v3:=Tryz.zeroValue3
 t4:=Tryz.underlying4
 a4:=Tryz.isAgg4
 z4:=Tryz.sizeOf4
 v4:=Tryz.zeroValue4
 t5:=Tryz.underlying5
 a5:=Tryz.isAgg5
 z5:=Tryz.sizeOf5
 v5:=Tryz.zeroValue5
 t9:=Tryz.underlying9
 a9:=Tryz.isAgg9
 z9:=Tryz.sizeOf9
 v9:=Tryz.zeroValue9
 t22:=Tryz.underlying22
 a22:=Tryz.isAgg22
 z22:=Tryz.sizeOf22
 v22:=Tryz.zeroValue22
 t25:=Tryz.underlying155
 a25:=Tryz.isAgg155
 z25:=Tryz.sizeOf155
 v25:=Tryz.zeroValue155
 t39:=Tryz.underlying201
 a39:=Tryz.isAgg201
 z39:=Tryz.sizeOf201
 v39:=Tryz.zeroValue201
 t45:=Tryz.underlying222
 a45:=Tryz.isAgg222
 z45:=Tryz.sizeOf222
 v45:=Tryz.zeroValue222
 t46:=Tryz.underlying223
 a46:=Tryz.isAgg223
 z46:=Tryz.sizeOf223
 v46:=Tryz.zeroValue223
 t50:=Tryz.underlying174
 a50:=Tryz.isAgg174
 z50:=Tryz.sizeOf174
 v50:=Tryz.zeroValue174
 t53:=Tryz.underlying230
 a53:=Tryz.isAgg230
 z53:=Tryz.sizeOf230
 v53:=Tryz.zeroValue230
 t55:=Tryz.underlying232
 a55:=Tryz.isAgg232
 z55:=Tryz.sizeOf232
 v55:=Tryz.zeroValue232
 t66:=Tryz.underlying247
 a66:=Tryz.isAgg247
 z66:=Tryz.sizeOf247
 v66:=Tryz.zeroValue247
 t70:=Tryz.underlying251
 a70:=Tryz.isAgg251
 z70:=Tryz.sizeOf251
 v70:=Tryz.zeroValue251
 t76:=Tryz.underlying263
 a76:=Tryz.isAgg263
 z76:=Tryz.sizeOf263
 v76:=Tryz.zeroValue263
 t77:=Tryz.underlying132
 a77:=Tryz.isAgg132
 z77:=Tryz.sizeOf132
 v77:=Tryz.zeroValue132 }
end Go.Proofs
namespace Go.Proofs.YtjffpimfngdggaaGreat.K
section
open Go.RowKit Go.Sort

def dm (e:En):List Value:=(EC e).toList
theorem wB (e:En):(dm e).length=4:=rfl
structure MR (W:World) (ad:Addr) (d:Array En):Prop where
 hk:HoldsK dm 4 W ad.block 0 d
 lt:ad.block < W.heap.size
 ha:ad=⟨ad.block,0,none⟩
theorem MR.at {W:World} {ad:Addr} {d:Array En} (M:MR W ad d) (i:Nat) (hi:i < d.size):gE W (ad.add (i * 4)) d[i]! := by
 have h:∀ c,c < 4 -> W.cell? ⟨ad.block,i * 4+c,none⟩=some (dm d[i]!)[c]! := fun c hc=>by
  have:=(M.hk.cell hi hc).1;rwa [Nat.zero_add] at this
 rw [M.ha,Addr.add_lit,Nat.zero_add];exact ⟨h 0 (by omega),by rw [Addr.add_lit];exact h 1 (by omega),by rw [Addr.add_lit];exact h 2 (by omega),by rw [Addr.add_lit];exact h 3 (by omega)⟩
theorem MR.on {W W':World} {ad:Addr} {d:Array En} (M:MR W ad d) (hb:Below W.heap.size W W'):MR W' ad d:=
 ⟨fun j hj=>by rw [hb.cell (p:=⟨ad.block,0+j,none⟩) M.lt,hb.frozen (p:=⟨ad.block,0+j,none⟩) M.lt];exact M.hk j hj,Nat.lt_of_lt_of_le M.lt hb.size,M.ha⟩
theorem vf (d:Array En) (i:Nat) (e:En) (hi:i < d.size):setMany (flatK dm 4 d) (i * 4) (dm e)=flatK dm 4 (d.setIfInBounds i e):=by
 refine ext_get! (by simp) fun t ht=>?_
 have ua:t < d.size * 4:=by simpa using ht
 rw [get_setMany _ _ _ t (by simpa using ua),get_flatK _ _ _ t ua,get_flatK _ _ _ t (by simpa using ua),wB];by_cases a:t / 4=i
 ·rw [if_pos ((blk_iff 4 i t (by omega)).2 a),a,getElem!_set_same d i e hi,show t - i * 4=t % 4 by omega]
 ·rw [if_neg (fun h=>a ((blk_iff 4 i t (by omega)).1 h)),getElem!_set_other d i _ e a]
theorem zbU (W:World) (g:Nat) (F:Array Value):Below g W (putRow id W g 0 F):=Lib.below_putRow (q:=0) (Below.refl g W) (Nat.le_refl _)
theorem MR.setCells {W:World} {ad:Addr} {d:Array En} (M:MR W ad d) (i:Nat) (e:En) (hi:i < d.size) :
  W.setCells ad.block (i * 4) (dm e)=putRowK dm 4 W ad.block 0 (d.setIfInBounds i e):=by
 have h1:=putRowK_self dm 4 W ad.block 0 d M.hk;have h2:=setCells_putRow W ad.block 0 (dm e) (i * 4) (flatK dm 4 d) (by rw [wB,size_flatK];have:=Nat.mul_le_mul_right 4 (show i+1 <= d.size from hi);omega);unfold putRowK at h1;rw [h1,vf d i e hi,Nat.zero_add] at h2;exact h2
theorem MR.store {W:World} {ad:Addr} {d:Array En} (M:MR W ad d) (i:Nat) (e:En) (hi:i < d.size) :
  ∃ W':World,(nu (.pointer (some (ad.add (i * 4)))) (EV e)).run Tryz.prog W = .ok () W'/\MR W' ad (d.setIfInBounds i e)/\Below ad.block W W'/\W'.heap.size=W.heap.size:=by
 have hs:=stores_of_holds Tryz.prog (W:=W) (blk:=ad.block) (off:=0) (F:=flatK dm 4 d) M.hk (i * 4) (dm e) (by rw [wB,size_flatK];have:=Nat.mul_le_mul_right 4 (show i+1 <= d.size from hi);omega) (bO e);rw [Nat.zero_add,M.setCells i e hi] at hs;refine ⟨_,?_,⟨holdsK_putRowK dm 4 W ad.block 0 d _ M.hk (by simp),by show ad.block < (putRow id W ad.block 0 _).heap.size;rw [size_putRow];exact M.lt,M.ha⟩,zbU W ad.block _,size_putRow _ _ _ _ _⟩;have ha:=M.ha;rw [ha,Addr.add_lit,Nat.zero_add];unfold nu
 cases hq:Tryz.prog.info? 50 with
 | none=>have:=iB;simp [hq] at this
 | some x =>
  have hz:x.size=4:=by have:=iB;simpa [hq] using this
  have IU:(storeCells ⟨ad.block,i * 4,none⟩ (EC e).toList 0).run Tryz.prog W = .ok () (putRowK dm 4 W ad.block 0 (d.setIfInBounds i e)):=hs;simp only [Instr.storeAt,Instr.sureAddr,Sem.run_bind,Sem.run_pure,Result.andThen,storeVar,sizeOf,typeInfo,zu,zH];simp [IU,hq,hz]
theorem vg (d:Array En):∀ (xs:List En) (i:Nat),i+xs.length <= d.size -> setMany (flatK dm 4 d) (i * 4) (xs.map dm).flatten=flatK dm 4 (Lib.lay d i xs)
 | [],_,_=>rfl
 | x :: r,i,h=>by
  have hi:i < d.size:=by simp at h;omega
  have key:∀ (F:Array Value) (s:Nat) (a b:List Value),setMany F s (a++b)=setMany (setMany F s a) (s+a.length) b:=by
   intro F s a
   induction a generalizing F s with
   | nil=>intro b;rfl
   | cons v a ih=>intro b;simp only [List.cons_append,setMany,List.length_cons];rw [ih,show s+1+a.length=s+(a.length+1) by omega]
  rw [List.map_cons,List.flatten_cons,key,vf d i x hi,wB,show i * 4+4=(i+1) * 4 by omega];exact vg (d.setIfInBounds i x) r (i+1) (by simp at h ⊢;omega)
theorem CB (w:World):(zeroValue 50).run Tryz.prog w = .ok (EV en0) w:=Tryz.zeroValue50 w
theorem sC (n:Nat):(Builtin.zeroCells (EC en0) n).toList=((List.replicate n en0).map dm).flatten:=by
 show _=ecs (List.replicate n en0)
 apply List.ext_getElem?;intro t;by_cases ht:t < n * 4
 ·have h2:=zds (List.replicate n en0) (t / 4) (t % 4) (by simp;omega) (by omega);rw [show t / 4 * 4+t % 4=t by omega] at h2
  have hg:(List.replicate n en0).getD (t / 4) en0=en0:=by simp [List.getD,show t / 4 < n by omega]
  rw [h2,hg]
  have h1:(Builtin.zeroCells (EC en0) n).toList[t]? = some ((EC en0)[t % 4]!):=by simp [Builtin.zeroCells,zH,ht]
  rw [h1]
  have:t % 4=0∨t % 4=1∨t % 4=2∨t % 4=3:=by omega
  rcases this with h | h | h | h <;> rw [h] <;> rfl
 ·rw [List.getElem?_eq_none (by simp [Builtin.zeroCells,zH];omega),List.getElem?_eq_none (by rw [jz];simp;omega)]
theorem kX (d:Array En):∀ (xs:List En) (k:Nat),(Lib.lay d k xs).size=d.size:=by
 intro xs
 induction xs generalizing d with
 | nil=>intro k;rfl
 | cons x r ih=>intro k;rw [Lib.lay,ih];simp
theorem MR.clear {W:World} {ad:Addr} {d:Array En} (M:MR W ad d) (kk:Nat) (hk:kk < d.size) (c:Nat) :
  ∃ (W':World) (d':Array En),(∀ ty,(Builtin.clear_ #[22] ty #[.slice (some (ad.add (kk * 4))) (d.size - kk) c]).run Tryz.prog W = .ok (.tuple #[]) W')/\MR W' ad d'/\d'.size=d.size/\(∀ j,j < kk -> d'[j]! = d[j]!)/\Below ad.block W W'/\W'.heap.size=W.heap.size:=by
 obtain ⟨m,hm⟩:∃ m,d.size - kk=m:=⟨_,rfl⟩;have h1:=putRowK_self dm 4 W ad.block 0 d M.hk
 have cJ:(((List.replicate m en0).map dm).flatten).length=m * 4:=by
  have:=jz (List.replicate m en0);rwa [List.length_replicate] at this
 have hs:=stores_of_holds Tryz.prog (W:=W) (blk:=ad.block) (off:=0) (F:=flatK dm 4 d) M.hk (kk * 4) ((List.replicate m en0).map dm).flatten (by rw [cJ,size_flatK];omega) (by
  intro v hv;obtain ⟨l,hl,hv⟩:=List.mem_flatten.1 hv;obtain ⟨e,_,rfl⟩:=List.mem_map.1 hl
  exact bO e v hv)
 have h2:=setCells_putRow W ad.block 0 ((List.replicate m en0).map dm).flatten (kk * 4) (flatK dm 4 d) (by rw [cJ,size_flatK];omega);unfold putRowK at h1;rw [h1,vg d (List.replicate m en0) kk (by simp;omega),Nat.zero_add] at h2;rw [Nat.zero_add,h2] at hs;refine ⟨_,Lib.lay d kk (List.replicate m en0),fun ty=>?_,⟨holdsK_putRowK dm 4 W ad.block 0 d _ M.hk (kX _ _ _),by show ad.block < (putRow id W ad.block 0 _).heap.size;rw [size_putRow];exact M.lt,M.ha⟩,kX _ _ _,fun j hj=>?_,zbU W ad.block _,size_putRow _ _ _ _ _⟩
 ·have ha:=M.ha;rw [ha,Addr.add_lit,Nat.zero_add,hm];obtain ⟨m',rfl⟩:∃ m',m=m'+1:=⟨m - 1,by omega⟩;have hz:=CB W;simp [Builtin.clear_,run_underlying Tryz.underlying22,hz];rw [zu,sC,hs];rfl
 ·have:=Lib.lay_get? (List.replicate m en0) d kk j (by simp;omega);rw [if_neg (by omega)] at this;rw [getElem!_def,getElem!_def,this]
def mv (w w':World):Prop:=∃ q os,w'=grow (w.drewN q) os
theorem zcq (w:World) (a b c:Obj):mv w (((w.alloc a).alloc b).drew.alloc c):=by
 refine ⟨1,#[a]++#[b]++#[c],?_⟩;rw [alloc_eq_grow ((w.alloc a).alloc b).drew c,alloc_eq_grow (w.alloc a) b,alloc_eq_grow w a,grow_grow,drew_grow,grow_grow];rfl
theorem zaY (x y:En) (w:World):Calls Tryz.prog 104 #[enV x,enV y] w fun e w'=>e = .returned (.int .i64 (byD x y))/\mv w w':=by
 have T0:=hide (Two.start w x y);obtain ⟨w0,lY⟩:∃ w0,Hid ((w.alloc (.cells #[.int .i64 x.rep,.int .i64 x.num,.string x.sku,.int .i64 x.qty] 50)).alloc (.cells #[.int .i64 y.rep,.int .i64 y.num,.string y.sku,.int .i64 y.qty] 50)=w0):=⟨_,rfl⟩;rw [lY.out] at T0;have c1:=T0.a0;have c2:=T0.a1;have c3:=T0.b0;have c4:=T0.b1;obtain ⟨p,Hp⟩:∃ p,Hid (az x.rep y.rep=p):=⟨_,rfl⟩;obtain ⟨q,Hq⟩:∃ q,Hid (az x.num y.num=q):=⟨_,rfl⟩
 have C1:Hid (∀ W,Calls Tryz.prog 138 #[.int .i64 x.rep,.int .i64 y.rep] W fun e w'=>e = .returned (.int .i64 p)/\w'=W):=fun W=>by rw [<- Hp.out];exact qC _ _ W
 have C2:Hid (∀ W,Calls Tryz.prog 138 #[.int .i64 x.num,.int .i64 y.num] W fun e w'=>e = .returned (.int .i64 q)/\w'=W):=fun W=>by rw [<- Hq.out];exact qC _ _ W
 have HF:Hid (or2 p q=byD x y):=by show _=_;unfold byD;rw [Hp.out,Hq.out]
 have T1:Hid (Two w (w0.drew.alloc (.cells #[.int .i64 p,.int .i64 q] 3)) x y):=(T0.on (bK (Below.refl _ _))).on (ze _ _);have HO:=hide (zh4 p q w0.drew w0.heap.size rfl)
 have HG:Hid (mv w (w0.drew.alloc (.cells #[.int .i64 p,.int .i64 q] 3))):=by rw [<- lY.out];exact zcq _ _ _ _
 obtain ⟨r,m,s,q⟩:=x;obtain ⟨r',m',s',q'⟩:=y;go_enter Tryz.func104,Tryz.ntmps104;go_wp2_with fail;rw [lY.out]
 first | (go_region_held (fun W=>W.cell? ⟨w.heap.size,0,none⟩=some (.int .i64 r)/\W.cell? ⟨w.heap.size,1,none⟩=some (.int .i64 m)/\W.cell? ⟨w.heap.size+1,0,none⟩=some (.int .i64 r')/\W.cell? ⟨w.heap.size+1,1,none⟩=some (.int .i64 m')) (first | exact ⟨T1.a0,T1.a1,T1.b0,T1.b1⟩ | go_keep) (first | (go_at_call_of 138 r;refine (C1.out _).mono ?_;rintro e w' ⟨rfl,rfl⟩) | (go_at_call_of 138 m;refine (C2.out _).mono ?_;rintro e w' ⟨rfl,rfl⟩) | (go_at_call 137;refine HO.mono ?_;rintro e w' ⟨rfl,rfl⟩))) | fail
 all_goals (go_wp2_with fail)
 all_goals go_ret
 all_goals exact ⟨zK HF,HG.out⟩
theorem wg (x y:En):ltOf byD x y=ahead x y:=by
 unfold ltOf byD or2 az ahead;by_cases h1:x.rep < y.rep
 ·simp [h1]
 ·by_cases h2:y.rep < x.rep
  ·have:¬ x.rep=y.rep:=by omega
   simp [h1,h2,this]
  ·have e:x.rep=y.rep:=by omega
   by_cases h3:x.num < y.num
   ·simp [e,h3]
   ·by_cases h4:y.num < x.num <;> simp [e,h3,h4]
theorem zcD:SWO (ltOf byD) where
 irrefl x:=by rw [wg];exact vz x
 trans x y z h1 h2:=by rw [wg] at *;exact yO h1 h2
 ntrans x y z h1 h2:=by rw [wg] at *;simp [ahead] at *;omega
theorem mp (blk size:Nat) (w:World):CmpLays Tryz.prog 104 #[] dm 4 byD blk 0 size w:=
 fun _ _ _ _ x y=>zaY x y _
theorem jU (ad:Addr) (cap n:Nat) (d:Array En) (w:World) (M:MR w ad d) (hn:d.size=n) (hb:n <= 3518437208883) :
  Calls Tryz.prog 234 #[.slice (some ad) n cap,.func (.func 104) #[] #[]] w fun e w'=>e = .returned (.tuple #[])/\∃ d',d'.toList.Perm d.toList/\d'.toList.Pairwise (fun x y=>leE x y=true)/\MR w' ad d'/\Below ad.block w w':=by
 subst hn;have eg:∀ args w,(callFunc 104 args).run Tryz.prog w = .ok (.enter 104 args) w:=enters_of Tryz.func104 (by kernel_rfl) rfl;have h:=AnyQ.slices_SortFunc Tryz.sortEn 4 Tryz.isAgg50 Tryz.sizeOf50 dm (fun _=>rfl) (fun x v hv=>bO x v hv) byD zcD 104 #[] ad.block 0 cap d w eg (mp ad.block d.size w) M.hk M.lt (by omega);rw [<- M.ha] at h;refine Calls.mono h ?_;rintro e w' ⟨rfl,d',m,os,⟨hs,_,hp⟩,oa,rfl⟩;refine ⟨rfl,d',?_,?_,⟨holdsK_sortWorldK_c dm 4 w ad.block 0 d d' m os M.hk M.lt hs,?_,M.ha⟩,?_⟩
 ·have e1:d'.extract 0 d.size=d':=by rw [<- hs];simp
  have e2:d.extract 0 d.size=d:=by simp
  rwa [e1,e2] at hp
 ·rw [List.pairwise_iff_getElem];intro i j hi hj rD;have:=oa i j (Nat.zero_le _) rD (by rw [<- hs];simpa using hj);rw [wg] at this;rw [getElem!_pos d' j (by simpa using hj),getElem!_pos d' i (by simpa using hi)] at this;simp only [Array.getElem_toList];unfold leE;rw [this];rfl
 ·have:=M.lt
  show ad.block < (grow (putRow id (Sort.ahead w m) ad.block 0 (flatK dm 4 d')) os).heap.size
  show ad.block < ((putRow id (Sort.ahead w m) ad.block 0 (flatK dm 4 d')).heap++os).size
  rw [Array.size_append,size_putRow]
  show ad.block < w.heap.size+os.size
  omega
 ·have h1:Below ad.block w (putRow id (Sort.ahead w m) ad.block 0 (flatK dm 4 d')):=Lib.below_putRow (Below.refl _ _) (Nat.le_refl _);refine h1.trans ?_
  have dE:ad.block <= (putRow id (Sort.ahead w m) ad.block 0 (flatK dm 4 d')).heap.size:=by rw [size_putRow];exact Nat.le_of_lt M.lt
  show Below ad.block _ (grow (putRow id (Sort.ahead w m) ad.block 0 (flatK dm 4 d')) os)
  generalize putRow id (Sort.ahead w m) ad.block 0 (flatK dm 4 d')=V at dE;exact ⟨rfl,rfl,rfl,by show _ <= (V.heap++os).size;rw [Array.size_append];omega,fun k hk=>by show (V.heap++os)[k]? = _;rw [Array.getElem?_append_left (by omega)]⟩
end
section
open Go.RowKit
attribute [local go_sem ↓] zy zx xG
attribute [local go_sem] zJ zu zH xq
theorem xY (x y:En) (w:World):(Op.equalIn 10000 48 (.agg (DC x)) (.agg (DC y))).run Tryz.prog w = .ok (aq x y) w:=by
 have u3:=Tryz.underlying3;have a3:=Tryz.isAgg3;have z3:=Tryz.sizeOf3
 have hS:Tryz.prog.underlying 48=some (.struct (Tryz.prog.fieldsOf 48)):=by kernel_rfl
 have hp:Tryz.prog.stoodInHeld 48=false:=by kernel_rfl
 obtain ⟨a,b,_,_⟩:=x;obtain ⟨c,d,_,_⟩:=y
 show (Op.equalIn 10000 48 (.agg #[.int .i64 a,.int .i64 b]) (.agg #[.int .i64 c,.int .i64 d])).run Tryz.prog w = .ok (a == c && b == d) w
 rw [show (10000:Nat)=9999+1 from rfl,run_equalIn_struct w 9999 48 _ _ hS hp];simp only [Program.fieldsOf,Tryz.underlying48];go_simp;by_cases h1:a=c <;> by_cases h2:b=d <;> simp [h1,h2]
attribute [local go_sem ↓] qB xY
theorem kz (x y:En):eqE x y=true↔x=y:=by
 constructor
 ·intro h;obtain ⟨a,b,s,c⟩:=x;obtain ⟨a',b',s',c'⟩:=y;simp only [eqE,Bool.and_eq_true,beq_iff_eq] at h;obtain ⟨⟨⟨rfl,rfl⟩,h3⟩,rfl⟩:=h
  have:s=s':=by
   rw [ByteArray.toList_eq,ByteArray.toList_eq] at h3
   cases s;cases s';simp at h3;simp [h3]
  rw [this]
 ·rintro rfl;exact vl _
def oS (w w':World) (e:Ending) (L:List En):Prop:=∃ ao n c R er,e = .returned (.tuple #[.slice ao n c,.int .i64 er])/\aD w' ao n c R/\Below w.heap.size w w'/\(∀ ad,ao=some ad -> w.heap.size <= ad.block)/\dK L R er
end
end Go.Proofs.YtjffpimfngdggaaGreat.K
