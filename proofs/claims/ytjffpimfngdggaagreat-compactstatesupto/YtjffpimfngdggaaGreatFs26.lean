/- BRr TUo TCk LPu LLtr LSrt LDd LShf -/
import Derived.Test.YtjffpimfngdggaaGreatTk
import Derived.Test.YtjffpimfngdggaaGreatFs25
import Derived.Test.YtjffpimfngdggaaGreatFs23
import Derived.Deep.CutRange
import Derived.Deep.CutBlock
import Derived.Test.YtjffpimfngdggaaGreatFs16
import Derived.Test.YtjffpimfngdggaaGreatFs18
import Derived.Test.YtjffpimfngdggaaGreatFs12
import Derived.Below
import Derived.Laws.MakeOwn
import Derived.Deep.LoopGhost
import Derived.Lib.SlicesCompact
import Derived.Shelf.SlSortCmp.WholeK
import Derived.Test.YtjffpimfngdggaaGreatProg
set_option maxRecDepth 100000
set_option maxHeartbeats 3200000
namespace Go.Proofs.YtjffpimfngdggaaGreat
section
open Go.RowKit
attribute [local go_sem ↓] zr zq qd zZ
attribute [local go_sem] zi zk zI zU qi
theorem bX (r:Rc) (w:World) (hR:RcOk w r):Calls Tryz.prog 94 #[ReV (mkR r)] w fun e w'=>GivesK w w' e (RecE r):=by
 have HX:=hide (qj w (mkR r));have HBK:=hide (ze w (.cells (ReC (mkR r)) 78));have HS:=hide (hR.1.below HBK.out);have hs:=hR.2;clear hR;obtain ⟨wk,hwk⟩:∃ wk,w.alloc (.cells (ReC (mkR r)) 78)=wk:=⟨_,rfl⟩;obtain ⟨G,hG⟩:∃ G,w.heap.size=G:=⟨_,rfl⟩;rw [hwk] at HX HBK HS;rw [hG] at HX;have c0:=HX.out.sk;have l1:=zj HX.out.past;have key:Hid (skuR r.s=true -> Calls Tryz.prog 51 #[PV r.p] wk fun e w'=>GivB wk w' e (InForm r.p.P)):=fun _=>xk r.p wk HS.out;by_cases h0:r.s.size=0
 ·have e0:=K.jt r.s h0
  have HR:Hid (skuR r.s=true):=by show _=_;unfold skuR;rw [decide_eq_true h0,Bool.true_or]
  clear h0;go_enter Tryz.func94,Tryz.ntmps94;go_wp2_with fail;clear hwk;refine (key.out HR.out).mono ?_;rintro e w3 ⟨b,rfl,hb,b3⟩;have HB3:=wTr HBK b3;have HX3:=hide (HX.out.below b3);have HS3:=hide (HS.out.below b3);clear b3 l1 c0 key
  cases b with
  | false =>
   have HE:Hid (RecE r 1):=.inr (.inl ⟨HR.out,fun h=>(by have:=hb.out.2 h.1;cases this),rfl⟩);clear hb;go_wp2_with fail;go_ret;exact ⟨_,rfl,HE.out,HB3.out⟩
  | true =>
   have HF:Hid (InForm r.p.P):=hb.out.1 rfl;clear hb;have l3:=zj HX3.out.past;go_wp2_with fail;refine (xC r.p _ HS3.out).mono ?_;rintro e w4 ⟨b,rfl,hb,b4⟩;have HB4:=wTr HB3 b4;clear b4 l3
   cases b with
   | true =>
    have HE:Hid (RecE r 1):=.inr (.inl ⟨HR.out,fun h=>h.2 (hb.1 rfl),rfl⟩);clear hb;go_wp2_with fail;go_ret;exact ⟨_,rfl,HE.out,HB4.out⟩
   | false =>
    have HE:Hid (RecE r 0):=.inr (.inr ⟨HR.out,⟨HF.out,fun h=>(by have:=hb.2 h;cases this)⟩,rfl⟩);clear hb;go_wp2_with fail;go_ret;exact ⟨_,rfl,HE.out,HB4.out⟩
 ·have e0:=K.j9 r.s h0
  have HR:Hid (skuR r.s=K.good r.s.data.toList):=by show _=_;unfold skuR;rw [decide_eq_false h0,Bool.false_or]
  clear h0;go_enter Tryz.func94,Tryz.ntmps94;go_wp2_with fail;refine (K.kn r.s _ hs).mono ?_;rintro e w' ⟨rfl,rfl⟩
  cases hg:K.good r.s.data.toList with
  | false =>
   rw [hg] at HR;have HE:Hid (RecE r 5):=.inl ⟨HR.out,rfl⟩;clear hg;go_wp2_with fail;go_ret;exact ⟨_,rfl,HE.out,HBK.out⟩
  | true =>
   rw [hg] at HR;clear hg;go_wp2_with fail;clear hwk;refine (key.out HR.out).mono ?_;rintro e w3 ⟨b,rfl,hb,b3⟩;have HB3:=wTr HBK b3;have HX3:=hide (HX.out.below b3);have HS3:=hide (HS.out.below b3);clear b3 l1 c0 key
   cases b with
   | false =>
    have HE:Hid (RecE r 1):=.inr (.inl ⟨HR.out,fun h=>(by have:=hb.out.2 h.1;cases this),rfl⟩);clear hb;go_wp2_with fail;go_ret;exact ⟨_,rfl,HE.out,HB3.out⟩
   | true =>
    have HF:Hid (InForm r.p.P):=hb.out.1 rfl;clear hb;have l3:=zj HX3.out.past;go_wp2_with fail;refine (xC r.p _ HS3.out).mono ?_;rintro e w4 ⟨b,rfl,hb,b4⟩;have HB4:=wTr HB3 b4;clear b4 l3
    cases b with
    | true =>
     have HE:Hid (RecE r 1):=.inr (.inl ⟨HR.out,fun h=>h.2 (hb.1 rfl),rfl⟩);clear hb;go_wp2_with fail;go_ret;exact ⟨_,rfl,HE.out,HB4.out⟩
    | false =>
     have HE:Hid (RecE r 0):=.inr (.inr ⟨HR.out,⟨HF.out,fun h=>(by have:=hb.2 h;cases this)⟩,rfl⟩);clear hb;go_wp2_with fail;go_ret;exact ⟨_,rfl,HE.out,HB4.out⟩
theorem zhM:∀ x y:List UInt8,Lib.compareBytes x y = -1∨Lib.compareBytes x y=0∨Lib.compareBytes x y=1
 | [],[]=>by simp [Lib.compareBytes]
 | [],_ :: _=>by simp [Lib.compareBytes]
 | _ :: _,[]=>by simp [Lib.compareBytes]
 | a :: x,b :: y=>by
  simp only [Lib.compareBytes]
  split
  ·exact .inl rfl
  ·split
   ·exact .inr (.inr rfl)
   ·exact zhM x y
theorem zbX (a b:Rc) (w:World) (hA:RcOk w a) (hB:RcOk w b):Calls Tryz.prog 95 #[ReV (mkR a),ReV (mkR b)] w fun e w'=>GivesK w w' e (CmpR a b):=by
 have b1:=ze w (.cells (ReC (mkR a)) 78);have b2:=ze (w.alloc (.cells (ReC (mkR a)) 78)) (.cells (ReC (mkR b)) 78);have X2:=qj (w.alloc (.cells (ReC (mkR a)) 78)) (mkR b);rw [World.size_alloc] at X2;have HXA:=hide ((qj w (mkR a)).below b2);have HXB:=hide X2;have HBK:=hide (b1.trans (b2.mono b1.size));have HSA:=hide (hA.1.below HBK.out);have HSB:=hide (hB.1.below HBK.out);clear b1 b2 X2 hA hB;obtain ⟨wk,hwk⟩:∃ wk,(w.alloc (.cells (ReC (mkR a)) 78)).alloc (.cells (ReC (mkR b)) 78)=wk:=⟨_,rfl⟩;obtain ⟨G,hG⟩:∃ G,w.heap.size=G:=⟨_,rfl⟩;rw [hwk] at HXA HXB HBK HSA HSB;rw [hG] at HXA HXB;have c1:=HXA.out.sk;have c2:=HXB.out.sk;have l1:=zj HXA.out.past;have l2:=zj HXB.out.past;have HF1:=hide (kD a.s b.s).1;have HF2:=hide (kD a.s b.s).2;have f4:cmpS a.s b.s = -1∨cmpS a.s b.s=0∨cmpS a.s b.s=1:=zhM _ _
 rcases f4 with h | h | h
 ·have HF:Hid (CmpR a b (-1)):=.inl ⟨by rw [h];decide,h.symm⟩
  have f1:Op.bytesLess a.s.toList b.s.toList=true:=by rw [HF1.out,h];rfl
  clear h;go_enter Tryz.func95,Tryz.ntmps95;go_wp2_with fail;go_ret;exact ⟨_,rfl,HF.out,HBK.out⟩
 ·have HZ:=hide h
  have f1:Op.bytesLess a.s.toList b.s.toList=false:=by rw [HF1.out,h];rfl
  have f2:(a.s.toList == b.s.toList)=true:=by rw [HF2.out,h];rfl
  clear h;go_enter Tryz.func95,Tryz.ntmps95;go_wp2_with fail;clear hwk;refine (kh a.p b.p _ HSA.out HSB.out).mono ?_;rintro e w2 ⟨k,rfl,hk,b2⟩;have HF:Hid (CmpR a b k/\Below w.heap.size w w2):=⟨.inr ⟨HZ.out,zfm hk⟩,HBK.out.trans (b2.mono HBK.out.size)⟩;clear hk b2 l1 l2;go_wp2_with fail;go_ret;exact ⟨_,rfl,HF.out.1,HF.out.2⟩
 ·have HF:Hid (CmpR a b 1):=.inl ⟨by rw [h];decide,h.symm⟩
  have f1:Op.bytesLess a.s.toList b.s.toList=false:=by rw [HF1.out,h];rfl
  have f2:(a.s.toList == b.s.toList)=false:=by rw [HF2.out,h];rfl
  clear h;go_enter Tryz.func95,Tryz.ntmps95;go_wp2_with fail;go_ret;exact ⟨_,rfl,HF.out,HBK.out⟩
theorem zbY (ao:Option Addr) (n cap:Nat) (L:List Rc) (w:World) (hS:RcS w ao n cap L):Calls Tryz.prog 52 #[.slice ao n cap] w fun e w'=>GivesK w w' e (ChkR L n):=by
 have HS:=hide hS;have hn:=hS.big;clear hS;go_enter Tryz.func52,Tryz.ntmps52;go_wp2_with fail;go_loopw [3] (fun i wr=>∃ k:Nat,k <= n/\i = .int .i64 k/\Hid (OkR L k)/\Hid (Below w.heap.size w wr)) (fun i _=>n - (intOf i).toNat)
 case atStart=>exact ⟨0,Nat.zero_le _,rfl,zac L,Below.refl _ _⟩
 case round =>
  obtain ⟨k,hk,rfl,HK,HB⟩:=hrel
  rename World=>wr
  by_cases hlt:k < n
  ·have hlti:(k:Int) < (n:Int):=by omega
   obtain ⟨ad,hao,A0⟩:=(HS.out.below HB.out).at k hlt;subst hao;have hld:=zz A0;have HO:=hide ((HS.out.below HB.out).okAt k hlt);have HSr:=hide (HS.out.below HB.out);obtain ⟨r,Hr⟩:∃ r,Hid (L.getD k rc0=r):=⟨_,rfl⟩;rw [Hr.out] at hld HO A0;have HA0:=hide A0;have Hlt:=hide hlt;clear A0;go_wp2_with fail;clear hld;refine (bX r _ HO.out).mono ?_;rintro e w1 ⟨x,rfl,hx,b1⟩;have HB1:=wTr HB b1;have HSr1:=hide (HSr.out.below b1);have HA1:=hide (HA0.out.on b1);have HO1:=hide (HO.out.below b1);clear b1 HSr HA0 HO;by_cases hx0:x=0
   ·obtain rfl:=hx0
    have HOk:Hid (RecOk (L.getD k rc0)):=by rw [Hr.out];exact hx.zero.1 rfl
    clear hx;by_cases hk0:k=0
    ·have hk1:decide ((0:Int) < (k:Int))=false:=by rw [decide_eq_false_iff_not];omega
     have hk2:decide (0 < k)=false:=by rw [decide_eq_false_iff_not];omega
     have HK0:=hide hk0;clear hk0;go_upto_region 6 with fail;refine wp_region_held_drew (S:=fun _=>True) (by kernel_rfl) (trivial) (fun hHeld=>?_);refine wU 0 ?_;refine wU 1 ?_;refine wU 2 ?_;refine wV 3 ?_;refine wV 4 ?_;refine wV 5 ?_;refine wV 6 ?_;refine wV 7 ?_;refine wV 8 ?_;refine wV 9 ?_;refine wV 10 ?_;refine wV 11 ?_;refine wV 12 ?_;refine wV 13 ?_;refine wU 14 ?_;refine wpAnyH_done (by kernel_rfl) ?_ _;clear hHeld;go_wp2_with fail;go_roundw
     case rel=>exact ⟨k+1,by omega,by simp,HK.out.snoc HOk.out (fun h=>absurd h (by have:=HK0.out;omega)),HB1.out.trans ((zf w1).mono HB1.out.size)⟩
     case measure=>simp [intOf];omega
    ·obtain ⟨j,Hj⟩:∃ j,Hid (k=j+1):=⟨k - 1,(show k=k - 1+1 by omega)⟩
     have hjn:j < n:=by have:=Hj.out;omega
     have hwj:IntKind.i64.wrap ((k:Int) - 1)=(j:Int):=by rw [IntKind.wrap_i64];have:=Hj.out;omega
     have hk1:decide ((0:Int) < (k:Int))=true:=by rw [decide_eq_true_iff];omega
     have hk2:decide (0 < k)=true:=by rw [decide_eq_true_iff];omega
     obtain ⟨ad',e',Aj⟩:=HSr1.out.at j hjn;obtain rfl:=Option.some.inj e';have HOj:=hide (HSr1.out.okAt j hjn);obtain ⟨q,Hq⟩:∃ q,Hid (L.getD j rc0=q):=⟨_,rfl⟩;rw [Hq.out] at Aj HOj;have HAj:=hide Aj;clear Aj e';go_upto_region 6 with fail;refine wp_region_held_drew (S:=fun v=>(ldRe (.pointer (some (ad.add (k * 3))))).run Tryz.prog v = .ok (.agg (ReC (mkR r))) v/\(ldRe (.pointer (some (ad.add (j * 3))))).run Tryz.prog v = .ok (.agg (ReC (mkR q))) v) (by kernel_rfl) (⟨zz (HA1.out.on (zf w1)),zz (HAj.out.on (zf w1))⟩) (fun hHeld=>?_);refine wU 0 ?_;refine wU 1 ?_;refine wU 2 ?_;refine wU 3 ?_;refine wU 4 ?_;refine wU 5 ?_;refine wU 6 ?_;refine wU 7 ?_;refine wU 8 ?_;refine wU 9 ?_;refine wU 10 ?_;refine wU 11 ?_;refine wpAnyH_ready (rs:=[12]) (by kernel_rfl) (by simp) (.cons rfl (fun K hK=>?_) .nil);go_simp;go_wp2_with fail
     refine (zbX q r _ (HOj.out.below (zf w1)) (HO1.out.below (zf w1))).mono ?_;rintro e w3 ⟨z,rfl,hz,b3⟩;have hB3:Below w1.heap.size w1 w3:=(zf w1).trans b3;have HB3:=hide hB3;refine hK.out _ _ (⟨zz (HA1.out.on (hB3)),zz (HAj.out.on (hB3))⟩) (fun hHeld=>?_);clear hK K b3;by_cases hz0:(0:Int) <= z
     ·have hzb:decide (0 <= z)=true:=decide_eq_true hz0
      have HNo:Hid (¬ OkR L n):=fun h=>by
       have h2:=(h k Hlt.out).2 (by have:=Hj.out;omega);rw [show k - 1=j by have:=Hj.out;omega,Hr.out,Hq.out] at h2;obtain ⟨z2,h3,h4⟩:=h2;have:=hz.unique h3;omega
      clear hz hz0;refine wU 13 ?_;refine wU 14 ?_;refine wpAnyH_done (by kernel_rfl) ?_ _;clear hHeld;go_wp2_with fail;go_ret;exact ⟨_,rfl,.inr ⟨rfl,HNo.out⟩,HB1.out.trans (HB3.out.mono HB1.out.size)⟩
     ·have hzb:decide (0 <= z)=false:=decide_eq_false hz0
      have HLt:Hid (0 < k -> LtR (L.getD (k - 1) rc0) (L.getD k rc0)):=fun _=>by
       rw [show k - 1=j by have:=Hj.out;omega,Hr.out,Hq.out];exact ⟨z,hz,by omega⟩
      clear hz hz0;refine wU 13 ?_;refine wU 14 ?_;refine wpAnyH_done (by kernel_rfl) ?_ _;clear hHeld;go_wp2_with fail;go_roundw
      case rel=>exact ⟨k+1,by omega,by simp,HK.out.snoc HOk.out HLt.out,HB1.out.trans (HB3.out.mono HB1.out.size)⟩
      case measure=>simp [intOf];omega
   ·have HNo:Hid (¬ OkR L n):=fun h=>hx0 (hx.zero.2 (by have:=(h k Hlt.out).1;rw [Hr.out] at this;exact this))
    have hxb:(x != 0)=true:=by simpa using hx0
    clear hx hx0;go_wp2_with fail;go_ret;exact ⟨_,rfl,.inr ⟨rfl,HNo.out⟩,HB1.out⟩
  ·obtain rfl:k=n:=by omega
   go_wp2_with fail;go_ret;exact ⟨_,rfl,.inl ⟨rfl,HK.out⟩,HB.out⟩
end
section
open Go.RowKit Go.Maps Go.Sort
attribute [local go_sem ↓] zr zq qd zZ
attribute [local go_sem] zI zU qi
theorem RcT.drop {w:World} {ad:Addr} {n c:Nat} {L:List Rc} (h:RcT w (some ad) n c L) (k:Nat) (hk:k <= n):RcT w (some (ad.add (k * 3))) (n - k) (c - k) (L.drop k):=by
 have hl:=h.src.len;have hc:=h.room;have hb:=h.src.big;refine ⟨⟨by rw [List.length_drop];omega,fun e=>(by cases e),fun ad' e t ht=>?_,fun r hr=>h.src.ok r (List.mem_of_mem_drop hr),by omega⟩,by omega,fun e=>(by cases e)⟩;obtain rfl:=Option.some.inj e;have A:=h.src.at_ ad rfl (k+t) (by omega)
 have e1:(L.drop k).getD t rc0=L.getD (k+t) rc0:=by
  simp only [List.getD,List.getElem?_drop]
 rw [e1,qA,show k * 3+t * 3=(k+t) * 3 by omega];exact A
def SoOf (L F:List Rc):Prop:=Srt ck (plR F)/\(∀ y,y∈plR F↔y∈plR L)/\∀ r∈F,RecOk r
def OrA (w w':World) (x:Ending) (L:List Rc):Prop:=∃ (h:Hs) (F:List Rc),x = .returned (HsV h)/\RcT w' h.o h.n h.c F/\h.n <= L.length/\(∀ ad,h.o=some ad -> w.heap.size <= ad.block)/\Below w.heap.size w w'/\SoOf L F
def ZOf (A B:List Rc) (i j na nb:Nat) (z:Int):Prop:=(i=na/\z=1)∨(i < na/\j=nb/\z = -1)∨(i < na/\j < nb/\z=ck (rck (A.getD i rc0)) (rck (B.getD j rc0)))
section
variable {X Y D : List Rp} {A B : List Rc} {i j : Nat} {z : Int}
end
structure UO (w2 wr:World) (A B:List Rc) (i j:Nat) (h:Hs) (D:List Rc):Prop where
 own:OwnRc w2.heap.size w2 wr h D
 okd:∀ r∈D,RecOk r
 mg:Mg ck (plR A) (plR B) (plR D) (plR (A.drop i)) (plR (B.drop j))
 num:h.n <= i+j
def UOv (w2:World) (A B:List Rc) (na nb:Nat) (v vi vj:Value) (wr:World):Prop:=∃ (i j:Nat) (h:Hs) (D:List Rc),i <= na/\j <= nb/\v = .slice h.o h.n h.c/\vi = .int .i64 (i:Int)/\vj = .int .i64 (j:Int)/\Hid (UO w2 wr A B i j h D)
def UrA (w w':World) (x:Ending) (L:List Rc) (n:Nat) (M:List Rc) (m:Nat):Prop:=(OkR L n/\OkR M m/\∃ (h:Hs) (F:List Rc),x = .returned (.tuple #[HsV h,.int .i64 0])/\RcT w' h.o h.n h.c F/\(∀ ad,h.o=some ad -> w.heap.size <= ad.block)/\h.n <= n+m/\Below w.heap.size w w'/\UnOf L M F)∨(¬ (OkR L n/\OkR M m)/\x = .returned (.tuple #[.slice none 0 0,.int .i64 1])/\Below w.heap.size w w')
end
section
open Go.RowKit
attribute [local go_sem ↓] zr zq zD zC
attribute [local go_sem] zi zk zl zp
def ChkF (f:Fc) (x:Int):Prop:=(x=0/\FormF f)∨(x=1/\¬ FormF f)
theorem vO {f:Fc} (hl:f.es.length=f.an):K.chk f.es=0↔K.okN f.es f.an=true:=by
 unfold K.chk;rw [hl]
 split <;> simp_all
theorem vz (f:Fc) (w:World) (hF:FcOk w f):Calls Tryz.prog 41 #[FaV (mkF f)] w fun e w'=>GivesK w w' e (ChkF f):=by
 have HX:=hide (zY w (mkF f));have HBK:=hide (ze w (.cells (FaC (mkF f)) 29));have HS:=hide (hF.below HBK.out);clear hF;obtain ⟨wk,hwk⟩:∃ wk,w.alloc (.cells (FaC (mkF f)) 29)=wk:=⟨_,rfl⟩;obtain ⟨G,hG⟩:∃ G,w.heap.size=G:=⟨_,rfl⟩;rw [hwk] at HX HBK HS;rw [hG] at HX;obtain ⟨c0,c3⟩:=HX.out.cs;go_enter Tryz.func41,Tryz.ntmps41;go_wp2_with fail;clear hwk hG;refine (K.qD f.ao f.an f.ac f.es _ HS.out.es).mono ?_;rintro e w1 ⟨rfl,b1⟩;have HB1:=wTr HBK b1;have HX1:=hide (HX.out.below b1);have HS1:=hide (HS.out.below b1);clear b1 c0 c3;by_cases h0:K.chk f.es=0
 ·have H0:=hide h0;rw [h0];clear h0;have lp:=zj HX1.out.past;go_wp2_with fail;refine (q9 f.p _ HS1.out.p).mono ?_;rintro e w2 ⟨b,rfl,hb,b2⟩;have HB2:=wTr HB1 b2;have HX2:=hide (HX1.out.below b2);have HS2:=hide (HS1.out.below b2);clear b2 lp
  cases b with
  | false =>
   have HE:Hid (ChkF f 1):=.inr ⟨rfl,fun h=>(by have:=hb.2 h.2.1;cases this)⟩;clear hb;go_wp2_with fail;go_ret;exact ⟨_,rfl,HE.out,HB2.out⟩
  | true =>
   have HI:Hid (InForm f.p.P):=hb.1 rfl;obtain ⟨-,c3⟩:=HX2.out.cs;clear hb;go_wp2_with fail;refine (xp f.ro f.rn f.rc f.rs _ HS2.out.rs).mono ?_;rintro e w3 ⟨x,rfl,hx,b3⟩;have HB3:=wTr HB2 b3;clear b3 c3;rcases hx with ⟨rfl,h1⟩ | ⟨rfl,h1⟩
   ·have HE:Hid (ChkF f 0):=.inl ⟨rfl,(vO HS.out.es.1).1 H0.out,HI.out,h1⟩;clear h1;go_wp2_with fail;go_ret;exact ⟨_,rfl,HE.out,HB3.out⟩
   ·have HE:Hid (ChkF f 1):=.inr ⟨rfl,fun h=>h1 h.2.2⟩;clear h1;go_wp2_with fail;go_ret;exact ⟨_,rfl,HE.out,HB3.out⟩
 ·have HE:Hid (ChkF f 1):=.inr ⟨rfl,fun h=>h0 ((vO HS.out.es.1).2 h.1)⟩
  have hne:(K.chk f.es != 0)=true:=by simp [h0]
  clear h0;go_wp2_with fail;go_ret;exact ⟨_,rfl,HE.out,HB1.out⟩
theorem box2F (w:World) (f g:Fc):∃ wk,(w.alloc (.cells (FaC (mkF f)) 29)).alloc (.cells (FaC (mkF g)) 29)=wk/\Hid (FaBox wk w.heap.size (mkF f))/\Hid (FaBox wk (w.heap.size+1) (mkF g))/\Hid (Below w.heap.size w wk):=by
 have b1:=ze w (.cells (FaC (mkF f)) 29);have b2:=ze (w.alloc (.cells (FaC (mkF f)) 29)) (.cells (FaC (mkF g)) 29);have X2:=zY (w.alloc (.cells (FaC (mkF f)) 29)) (mkF g);rw [World.size_alloc] at X2;exact ⟨_,rfl,(zY w (mkF f)).below b2,X2,b1.trans (b2.mono b1.size)⟩
def ChkB (f g:Fc) (x:Int):Prop:=(x=0/\FormF f/\FormF g)∨(x=1/\¬ (FormF f/\FormF g))
theorem zaE (f g:Fc) (w:World) (hF:FcOk w f) (hG:FcOk w g):Calls Tryz.prog 77 #[FaV (mkF f),FaV (mkF g)] w fun e w'=>GivesK w w' e (ChkB f g):=by
 obtain ⟨wk,hwk,HX,HY,HBK⟩:=box2F w f g;have HS:=hide (hF.below HBK.out);have HR:=hide (hG.below HBK.out);clear hF hG;have lf:=zT HX.out;go_enter Tryz.func77,Tryz.ntmps77;go_wp2_with fail;clear hwk;refine (vz f _ HS.out).mono ?_;rintro e w1 ⟨x,rfl,hx,b1⟩;have HB1:=wTr HBK b1;have HY1:=hide (HY.out.below b1);have HR1:=hide (HR.out.below b1);clear b1 lf;rcases hx with ⟨rfl,h1⟩ | ⟨rfl,h1⟩
 ·have H1:=hide h1;clear h1;have lg:=zT HY1.out;go_wp2_with fail;clear lg;refine (vz g _ HR1.out).mono ?_;rintro e w2 ⟨x,rfl,hx,b2⟩
  have HE:Hid (ChkB f g x/\Below w.heap.size w w2):=by
   refine ⟨?_,HB1.out.trans (b2.mono HB1.out.size)⟩;rcases hx with ⟨rfl,h2⟩ | ⟨rfl,h2⟩
   ·exact .inl ⟨rfl,H1.out,h2⟩
   ·exact .inr ⟨rfl,fun h=>h2 h.2⟩
  clear hx b2;go_wp2_with fail;go_ret;exact ⟨_,rfl,HE.out.1,HE.out.2⟩
 ·have HE:Hid (ChkB f g 1/\Below w.heap.size w w1):=⟨.inr ⟨rfl,fun h=>h1 h.1⟩,HB1.out⟩;clear h1;go_wp2_with fail;go_ret;exact ⟨_,rfl,HE.out.1,HE.out.2⟩
end
end Go.Proofs.YtjffpimfngdggaaGreat
namespace Go.Proofs.YtjffpimfngdggaaGreat.K
section


def Chunked {α : Type} (le : α -> α -> Prop) (w:Nat) (L:List α):Prop:=∀ q,((L.drop (q * w)).take w).Pairwise le
def mrg {α : Type} (le : α -> α -> Bool) (L:List α) (i mid j en:Nat):List α := List.merge ((L.drop i).take (mid - i)) ((L.drop j).take (en - j)) le
structure Pass {α : Type} (le : α -> α -> Bool) (L M:List α) (n q f t:Nat):Prop where
 hf:f=2 * t * q
 hl:M.length=min f n
 hp:M.Perm (L.take f)
 hc:Chunked (fun x y=>le x y=true) (2 * q) M
end
section
open Go.RowKit
attribute [local go_sem ↓] zy zx xI
attribute [local go_sem] zJ zu zH
def leE (x y:En):Bool := !ahead y x
end
section
open Go.RowKit
attribute [local go_sem ↓] zy zx
attribute [local go_sem] zJ zu zH
attribute [local go_sem] xz
def mk22 (a b:Value):Sem Value:=Instr.makeSlice 22 a b
theorem yl (a b:Value):Instr.makeSlice 22 a b=mk22 a b:=rfl
attribute [local go_sem ↓] yl
def InOrder (L R:List En):Prop:=R.Perm L/\R.Pairwise (fun x y=>leE x y=true)
def GivesS (w w':World) (e:Ending) (L:List En):Prop:=∃ R,InOrder L R/\GivesE w w' e R
end
section
open Go.RowKit

instance:DecidableEq En:=fun a b =>
 decidable_of_iff (a.rep=b.rep/\a.num=b.num/\a.sku=b.sku/\a.qty=b.qty) ⟨fun ⟨h1,h2,h3,h4⟩=>by cases a;cases b;simp_all,fun h=>by subst h;exact ⟨rfl,rfl,rfl,rfl⟩⟩
instance:Inhabited En:=⟨en0⟩
def sameDot (x y:En):Bool:=x.rep == y.rep && x.num == y.num
theorem zhn {x y:En} (h:leE x y=true) (hs:sameDot y x=false):ahead x y=true:=by
 simp [leE,ahead,sameDot] at *;omega
theorem yE {x y z:En} (h:ahead x y=true) (h2:ahead y z=true):ahead x z=true:=by
 simp [ahead] at *;omega
theorem vv (x:En):ahead x x=false:=by simp [ahead]
theorem zcr {x y:En} (h:ahead x y=true):ahead y x=false:=by
 simp [ahead] at *;omega
theorem bt {x y:En} (h:ahead x y=true):sameDot x y=false:=by
 simp [ahead,sameDot] at *;omega
theorem zaU {x y:En}:sameDot x y=sameDot y x:=by
 simp [sameDot,Bool.beq_comm]
def Clash (L:List En):Prop:=∃ x,x∈L/\∃ y,y∈L/\sameDot x y=true/\x≠y
def Asc (R:List En):Prop:=R.Pairwise (fun x y=>ahead x y=true)
def Settled (L R:List En) (e:Int):Prop:=(Clash L/\R=[]/\e=10)∨(¬ Clash L/\e=0/\Asc R/\∀ x,x∈R↔x∈L)
theorem br:∀ {R R':List En},Asc R -> Asc R' -> (∀ x,x∈R↔x∈R') -> R=R'
 | [],[],_,_,_=>rfl
 | [],b :: _,_,_,h=>absurd ((h b).2 (List.mem_cons_self ..)) (by simp)
 | a :: _,[],_,_,h=>absurd ((h a).1 (List.mem_cons_self ..)) (by simp)
 | a :: R,b :: R',h1,h2,h=>by
  obtain ⟨a1,a2⟩:=List.pairwise_cons.1 h1;obtain ⟨b1,b2⟩:=List.pairwise_cons.1 h2
  have e:a=b:=by
   rcases List.mem_cons.1 ((h a).1 (List.mem_cons_self ..)) with e | e
   ·exact e
   ·rcases List.mem_cons.1 ((h b).2 (List.mem_cons_self ..)) with e' | e'
    ·exact e'.symm
    ·have:=zcr (a1 b e');rw [b1 a e] at this;cases this
  subst e;rw [br a2 b2 (fun x=>?_)];have hx:=h x;simp only [List.mem_cons] at hx;constructor
  ·intro hm;rcases hx.1 (Or.inr hm) with e | e
   ·subst e;have:=a1 x hm;rw [vv] at this;cases this
   ·exact e
  ·intro hm;rcases hx.2 (Or.inr hm) with e | e
   ·subst e;have:=b1 x hm;rw [vv] at this;cases this
   ·exact e
theorem kB {R L:List En} (h:Asc R) (hm:∀ x,x∈R↔x∈L):¬ Clash L:=by
 rintro ⟨x,hx,y,hy,hs,hne⟩;have hx:=(hm x).2 hx;have hy:=(hm y).2 hy;clear hm
 induction R with
 | nil=>simp at hx
 | cons a R ih =>
  obtain ⟨a1,a2⟩:=List.pairwise_cons.1 h;rcases List.mem_cons.1 hx with e | e
  ·subst e;rcases List.mem_cons.1 hy with e | e
   ·exact hne e.symm
   ·have:=bt (a1 y e);rw [hs] at this;cases this
  ·rcases List.mem_cons.1 hy with e' | e'
   ·subst e';have:=bt (a1 x e);rw [zaU,hs] at this;cases this
   ·exact ih a2 e e'
theorem Clash.perm {L R:List En} (h:Clash L) (hm:∀ x,x∈L↔x∈R):Clash R:=by
 obtain ⟨x,hx,y,hy,r⟩:=h;exact ⟨x,(hm x).1 hx,y,(hm y).1 hy,r⟩
theorem Settled.perm {L L' R:List En} {e:Int} (h:Settled L R e) (hm:∀ x,x∈L↔x∈L'):Settled L' R e:=by
 rcases h with ⟨c,r,e1⟩ | ⟨c,e1,a,m⟩
 ·exact Or.inl ⟨c.perm hm,r,e1⟩
 ·exact Or.inr ⟨fun c'=>c (c'.perm (fun x=>(hm x).symm)),e1,a,fun x=>(m x).trans (hm x)⟩

def OnceInv (L:List En) (k:Nat) (acc:List En):Prop:=Asc acc/\∀ x,x∈acc↔x∈L.take k
theorem zjv {L:List En} (hL:L.Pairwise (fun x y=>leE x y=true)) (i j:Nat) (hij:i < j) (hj:j < L.length):leE (L.getD i en0) (L.getD j en0)=true:=by
 have:=List.pairwise_iff_getElem.1 hL i j (by omega) hj hij;simpa [List.getD,hj,show i < L.length by omega] using this
theorem zap (L:List En) (k:Nat) (h:k < L.length):L.getD k en0∈L:=by
 have:L.getD k en0=L[k]:=by simp [List.getD,h]
 rw [this];exact List.getElem_mem _
end
end Go.Proofs.YtjffpimfngdggaaGreat.K
namespace Go.Proofs
open Go.Shelf
def Tryz.sortEn_ren:Go.Shelf.Ren:=⟨fun | 6=>234 | 15=>160 | 14=>249 | 28=>201 | 29=>202 | 20=>254 | 21=>255 | 22=>256 | 23=>257 | 24=>258 | 25=>259 | 26=>260 | 27=>261 | 46=>263 | 47=>228 | 48=>229 | 49=>264 | 50=>265 | 57=>266 | n=>n,fun | 22=>22 | 24=>50 | 25=>155 | 3=>3 | 39=>201 | 0=>0 | 53=>230 | 55=>232 | 4=>4 | 46=>223 | 45=>222 | 50=>174 | 5=>5 | 9=>9 | 66=>247 | 70=>251 | 76=>263 | 77=>132 | n=>n,fun | n=>n⟩
theorem Tryz.sortEn:Go.Proofs.SlLaysF0.n6 Tryz.prog Tryz.sortEn_ren:={
 mixed:=by kernel_rfl
 f6:=⟨Tryz.f234.name,by decide,Tryz.func234.trans (congrArg some (by kernel_rfl))⟩
 f14:=⟨Tryz.f249.name,by decide,Tryz.func249.trans (congrArg some (by kernel_rfl))⟩
 f15:=Tryz.func160.trans (congrArg some (by kernel_rfl))
 f20:=⟨Tryz.f254.name,by decide,Tryz.func254.trans (congrArg some (by kernel_rfl))⟩
 f21:=⟨Tryz.f255.name,by decide,Tryz.func255.trans (congrArg some (by kernel_rfl))⟩
 f22:=⟨Tryz.f256.name,by decide,Tryz.func256.trans (congrArg some (by kernel_rfl))⟩
 f23:=⟨Tryz.f257.name,by decide,Tryz.func257.trans (congrArg some (by kernel_rfl))⟩
 f24:=⟨Tryz.f258.name,by decide,Tryz.func258.trans (congrArg some (by kernel_rfl))⟩
 f25:=⟨Tryz.f259.name,by decide,Tryz.func259.trans (congrArg some (by kernel_rfl))⟩
 f26:=⟨Tryz.f260.name,by decide,Tryz.func260.trans (congrArg some (by kernel_rfl))⟩
 f27:=⟨Tryz.f261.name,by decide,Tryz.func261.trans (congrArg some (by kernel_rfl))⟩
 f28:=Tryz.func201.trans (congrArg some (by kernel_rfl))
 f29:=Tryz.func202.trans (congrArg some (by kernel_rfl))
 f46:=⟨Tryz.f263.name,by decide,Tryz.func263.trans (congrArg some (by kernel_rfl))⟩
 f47:=Tryz.func228.trans (congrArg some (by kernel_rfl))
 f48:=Tryz.func229.trans (congrArg some (by kernel_rfl))
 f49:=⟨Tryz.f264.name,by decide,Tryz.func264.trans (congrArg some (by kernel_rfl))⟩
 f50:=⟨Tryz.f265.name,by decide,Tryz.func265.trans (congrArg some (by kernel_rfl))⟩
 f57:=⟨Tryz.f266.name,by decide,Tryz.func266.trans (congrArg some (by kernel_rfl))⟩
 t0:=Tryz.underlying0
 a0:=Tryz.isAgg0
 z0:=Tryz.sizeOf0
 v0:=Tryz.zeroValue0
 t3:=Tryz.underlying3
 a3:=Tryz.isAgg3
 z3:=Tryz.sizeOf3
 v3:=Tryz.zeroValue3
 t4:=Tryz.underlying4
 a4:=Tryz.isAgg4
 z4:=Tryz.sizeOf4
 v4:=Tryz.zeroValue4
 t5:=Tryz.underlying5
 a5:=Tryz.isAgg5
 z5:=Tryz.sizeOf5
 v5:=Tryz.zeroValue5
 t9:=Tryz.underlying9
 a9:=Tryz.isAgg9
 z9:=Tryz.sizeOf9
 v9:=Tryz.zeroValue9
 t22:=Tryz.underlying22
 a22:=Tryz.isAgg22
 z22:=Tryz.sizeOf22
 v22:=Tryz.zeroValue22
 t25:=Tryz.underlying155
 a25:=Tryz.isAgg155
 z25:=Tryz.sizeOf155
 v25:=Tryz.zeroValue155
 t39:=Tryz.underlying201
 a39:=Tryz.isAgg201
 z39:=Tryz.sizeOf201
 v39:=Tryz.zeroValue201
 t45:=Tryz.underlying222
 a45:=Tryz.isAgg222
 z45:=Tryz.sizeOf222
 v45:=Tryz.zeroValue222
 t46:=Tryz.underlying223
 a46:=Tryz.isAgg223
 z46:=Tryz.sizeOf223
 v46:=Tryz.zeroValue223
 t50:=Tryz.underlying174
 a50:=Tryz.isAgg174
 z50:=Tryz.sizeOf174
 v50:=Tryz.zeroValue174
 t53:=Tryz.underlying230
 a53:=Tryz.isAgg230
 z53:=Tryz.sizeOf230
 v53:=Tryz.zeroValue230
 t55:=Tryz.underlying232
 a55:=Tryz.isAgg232
 z55:=Tryz.sizeOf232
 v55:=Tryz.zeroValue232
 t66:=Tryz.underlying247
 a66:=Tryz.isAgg247
 z66:=Tryz.sizeOf247
 v66:=Tryz.zeroValue247
 t70:=Tryz.underlying251
 a70:=Tryz.isAgg251
 z70:=Tryz.sizeOf251
 v70:=Tryz.zeroValue251
 t76:=Tryz.underlying263
 a76:=Tryz.isAgg263
 z76:=Tryz.sizeOf263
 v76:=Tryz.zeroValue263
 t77:=Tryz.underlying132
 a77:=Tryz.isAgg132
 z77:=Tryz.sizeOf132
 v77:=Tryz.zeroValue132 }
end Go.Proofs
