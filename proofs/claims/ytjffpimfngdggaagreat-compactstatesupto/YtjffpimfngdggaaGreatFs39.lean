/- IQr SXo SXp SXr SYb SYc SYe TRb -/
import Derived.Test.YtjffpimfngdggaaGreatTk
import Derived.Test.YtjffpimfngdggaaGreatFs25
import Derived.Deep.CutRange
import Derived.Test.YtjffpimfngdggaaGreatFs38
import Derived.Test.YtjffpimfngdggaaGreatFs37
import Derived.Test.YtjffpimfngdggaaGreatFs16
import Derived.Test.YtjffpimfngdggaaGreatFs35
import Derived.Maps.OwnSet
import Derived.DeepKeys4
import Derived.Test.YtjffpimfngdggaaGreatFs26
set_option maxRecDepth 100000
set_option maxHeartbeats 3200000
namespace Go.Proofs.YtjffpimfngdggaaGreat
section
open Go.RowKit
attribute [local go_sem ↓] zr zq qd zZ
attribute [local go_sem] zi zk zI zU qi
theorem zdg:∀ x y:List UInt8,Lib.compareBytes x y = -1∨Lib.compareBytes x y=0∨Lib.compareBytes x y=1
 | [],[]=>by simp [Lib.compareBytes]
 | [],_ :: _=>by simp [Lib.compareBytes]
 | _ :: _,[]=>by simp [Lib.compareBytes]
 | a :: x,b :: y=>by
  have:=zdg x y;simp only [Lib.compareBytes]
  split
  ·simp
  ·split
   ·simp
   ·exact this
theorem kp (r:Rc) (w:World) (hR:RcOk w r):Calls Tryz.prog 94 #[ReV (mkR r)] w fun e w'=>GivesK w w' e (RecE r):=by
 have HX:=hide (qj w (mkR r));have HBK:=hide (ze w (.cells (ReC (mkR r)) 78));have HS:=hide (hR.1.below HBK.out);have hs:=hR.2;clear hR;obtain ⟨wk,hwk⟩:∃ wk,w.alloc (.cells (ReC (mkR r)) 78)=wk:=⟨_,rfl⟩;obtain ⟨G,hG⟩:∃ G,w.heap.size=G:=⟨_,rfl⟩;rw [hwk] at HX HBK HS;rw [hG] at HX;have c0:=HX.out.sk;have l1:=zj HX.out.past;have HI:=hide (xk r.p wk HS.out);by_cases h0:r.s.size=0
 ·have e0:=K.jt r.s h0
  have HR:Hid (skuR r.s=true):=by show _=_;unfold skuR;rw [decide_eq_true h0,Bool.true_or]
  clear h0;go_enter Tryz.func94,Tryz.ntmps94;go_wp2_with fail;clear hwk;refine HI.out.mono ?_;rintro e w3 ⟨b,rfl,hb,b3⟩;have HB3:=wTr HBK b3;have HX3:=hide (HX.out.below b3);have HS3:=hide (HS.out.below b3);clear b3 l1 c0 HI hG
  cases b with
  | false =>
   have HN:Hid (RecE r 1):=.inr (.inl ⟨HR.out,(fun h=>by have:=hb.2 h.1;cases this),rfl⟩);clear hb;go_wp2_with fail;go_ret;exact ⟨_,rfl,HN.out,HB3.out⟩
  | true =>
   have HF:Hid (InForm r.p.P):=hb.1 rfl;clear hb;have l3:=zj HX3.out.past;go_wp2_with fail;refine (xC r.p _ HS3.out).mono ?_;rintro e w4 ⟨b,rfl,hb,b4⟩;have HB4:=wTr HB3 b4
   cases b with
   | false =>
    have HN:Hid (RecE r 0):=.inr (.inr ⟨HR.out,⟨HF.out,(fun h=>by have:=hb.2 h;cases this)⟩,rfl⟩);clear b4 l3 hb;go_wp2_with fail;go_ret;exact ⟨_,rfl,HN.out,HB4.out⟩
   | true =>
    have HN:Hid (RecE r 1):=.inr (.inl ⟨HR.out,fun h=>h.2 (hb.1 rfl),rfl⟩);clear b4 l3 hb;go_wp2_with fail;go_ret;exact ⟨_,rfl,HN.out,HB4.out⟩
 ·have e0:=K.j9 r.s h0;go_enter Tryz.func94,Tryz.ntmps94;go_wp2_with fail;refine (K.kn r.s _ hs).mono ?_;rintro e w' ⟨rfl,rfl⟩
  cases hg:K.good r.s.data.toList with
  | false =>
   have HN:Hid (RecE r 5):=.inl ⟨by unfold skuR;rw [decide_eq_false h0,hg];rfl,rfl⟩;have HBz:=hide HBK.out;clear hg h0;go_wp2_with fail;go_ret;exact ⟨_,rfl,HN.out,by have h:=HBz.out;first | exact h | (rw [hG] at h;exact h)⟩
  | true =>
   have HR:Hid (skuR r.s=true):=by show _=_;unfold skuR;rw [hg,Bool.or_true]
   clear hg h0;go_wp2_with fail;refine HI.out.mono ?_;rintro e w3 ⟨b,rfl,hb,b3⟩;have HB3:=wTr HBK b3;have HX3:=hide (HX.out.below b3);have HS3:=hide (HS.out.below b3);clear b3 l1 c0 HI hG
   cases b with
   | false =>
    have HN:Hid (RecE r 1):=.inr (.inl ⟨HR.out,(fun h=>by have:=hb.2 h.1;cases this),rfl⟩);clear hb;go_wp2_with fail;go_ret;exact ⟨_,rfl,HN.out,HB3.out⟩
   | true =>
    have HF:Hid (InForm r.p.P):=hb.1 rfl;clear hb;have l3:=zj HX3.out.past;go_wp2_with fail;refine (xC r.p _ HS3.out).mono ?_;rintro e w4 ⟨b,rfl,hb,b4⟩;have HB4:=wTr HB3 b4
    cases b with
    | false =>
     have HN:Hid (RecE r 0):=.inr (.inr ⟨HR.out,⟨HF.out,(fun h=>by have:=hb.2 h;cases this)⟩,rfl⟩);clear b4 l3 hb;go_wp2_with fail;go_ret;exact ⟨_,rfl,HN.out,HB4.out⟩
    | true =>
     have HN:Hid (RecE r 1):=.inr (.inl ⟨HR.out,fun h=>h.2 (hb.1 rfl),rfl⟩);clear b4 l3 hb;go_wp2_with fail;go_ret;exact ⟨_,rfl,HN.out,HB4.out⟩
theorem yg (a b:Rc) (w:World) (hA:RcOk w a) (hB:RcOk w b):Calls Tryz.prog 95 #[ReV (mkR a),ReV (mkR b)] w fun e w'=>GivesK w w' e (CmpR a b):=by
 have b1:=ze w (.cells (ReC (mkR a)) 78);have x1:=qj w (mkR a);have s1:=World.size_alloc w (.cells (ReC (mkR a)) 78);obtain ⟨g1,hg1⟩:∃ g1,w.heap.size=g1:=⟨_,rfl⟩;obtain ⟨w1,hw1⟩:∃ w1,w.alloc (.cells (ReC (mkR a)) 78)=w1:=⟨_,rfl⟩;rw [hw1] at b1 x1 s1;have b2:=ze w1 (.cells (ReC (mkR b)) 78);have x2:=qj w1 (mkR b);obtain ⟨w2,hw2⟩:∃ w2,w1.alloc (.cells (ReC (mkR b)) 78)=w2:=⟨_,rfl⟩;rw [hw2] at b2 x2;rw [s1] at x2;rw [hg1] at x1 x2 s1;have hb:=b1.trans (b2.mono b1.size);have c1:=(x1.below b2).sk;have c2:=x2.sk;have l1:=zj (x1.below b2).past;have l2:=zj x2.past;have HC:=hide (kh a.p b.p w2 (hA.1.below hb) (hB.1.below hb));have HB:=hide hb;have f1:=(kD a.s b.s).1;have f2:=(kD a.s b.s).2;have hr:cmpS a.s b.s = -1∨cmpS a.s b.s=0∨cmpS a.s b.s=1:=zdg _ _
 clear hA hB b1 b2 x1 x2 hb;rcases hr with h | h | h
 ·rw [h] at f1 f2;have f1:Op.bytesLess a.s.toList b.s.toList=true:=f1;have HF:Hid (CmpR a b (-1)):=.inl ⟨by rw [h];decide,h.symm⟩;clear h f2;go_enter Tryz.func95,Tryz.ntmps95;go_wp2_with fail;clear hw1 hw2 hg1 s1;go_ret;exact ⟨_,rfl,HF.out,HB.out⟩
 ·rw [h] at f1 f2;have f1:Op.bytesLess a.s.toList b.s.toList=false:=f1;have f2:(a.s.toList == b.s.toList)=true:=f2;have HE:=hide h;clear h;go_enter Tryz.func95,Tryz.ntmps95;go_wp2_with fail;clear hw1 hw2 hg1 s1;refine HC.out.mono ?_;rintro e w3 ⟨z,rfl,hz,b3⟩;have HF:Hid (CmpR a b z):=.inr ⟨HE.out,zfm hz⟩;have HB3:=wTr HB b3;clear hz b3;go_wp2_with fail;go_ret;exact ⟨_,rfl,HF.out,HB3.out⟩
 ·rw [h] at f1 f2;have f1:Op.bytesLess a.s.toList b.s.toList=false:=f1;have f2:(a.s.toList == b.s.toList)=false:=f2;have HF:Hid (CmpR a b 1):=.inl ⟨by rw [h];decide,h.symm⟩;clear h;go_enter Tryz.func95,Tryz.ntmps95;go_wp2_with fail;clear hw1 hw2 hg1 s1;go_ret;exact ⟨_,rfl,HF.out,HB.out⟩
theorem kP (ao:Option Addr) (n cap:Nat) (L:List Rc) (w:World) (hS:RcS w ao n cap L):Calls Tryz.prog 52 #[.slice ao n cap] w fun e w'=>GivesK w w' e (ChkR L n):=by
 have HS:=hide hS;have hn:=hS.big;clear hS;go_enter Tryz.func52,Tryz.ntmps52;go_wp2_with fail;go_loopw [3] (fun i wr=>∃ k:Nat,k <= n/\i = .int .i64 k/\Hid (OkR L k)/\Hid (Below w.heap.size w wr)) (fun i _=>n - (intOf i).toNat)
 case atStart=>exact ⟨0,Nat.zero_le _,rfl,zac L,Below.refl _ _⟩
 case round =>
  obtain ⟨k,hk,rfl,HK,HB⟩:=hrel
  rename World=>wr
  by_cases hlt:k < n
  ·obtain ⟨ad,rfl,A0⟩:=(HS.out.below HB.out).at k hlt;have hld:=zz A0;have HO:=hide ((HS.out.below HB.out).okAt k hlt);have HSr:=hide (HS.out.below HB.out);obtain ⟨r,Hr⟩:∃ r,Hid (L.getD k rc0=r):=⟨_,rfl⟩;rw [Hr.out] at hld HO;clear A0;have Hlt:=hide hlt;go_wp2_with fail;refine (kp r _ HO.out).mono ?_;rintro e w1 ⟨b,rfl,hb,b1⟩;have HB1:=wTr HB b1;have HS1:=hide (HSr.out.below b1);clear b1 hld HSr HO;by_cases hb0:b=0
   ·subst hb0
    have HOk:Hid (RecOk (L.getD k rc0)):=by rw [Hr.out];exact hb.zero.1 rfl
    clear hb;by_cases hk0:k=0
    ·have hk1:decide (0 < k)=false:=by rw [decide_eq_false_iff_not];omega
     have HK0:=hide hk0
     have hk2:¬ (0 < k):=by omega
     clear hk0;go_upto_region 6 with fail;refine wp_region_held_drew (S:=fun _=>True) (by kernel_rfl) (trivial) (fun hHeld=>?_);refine wU 0 ?_;refine wU 1 ?_;refine wU 2 ?_;refine wV 3 ?_;refine wV 4 ?_;refine wV 5 ?_;refine wV 6 ?_;refine wV 7 ?_;refine wV 8 ?_;refine wV 9 ?_;refine wV 10 ?_;refine wV 11 ?_;refine wV 12 ?_;refine wV 13 ?_;refine wU 14 ?_;refine wpAnyH_done (by kernel_rfl) ?_ _;clear hHeld;go_wp2_with fail;go_roundw
     case rel=>exact ⟨k+1,by omega,by simp,HK.out.snoc HOk.out (fun h=>absurd h (by have:=HK0.out;omega)),HB1.out.trans ((zf w1).mono HB1.out.size)⟩
     case measure=>simp [intOf];omega
    ·obtain ⟨j,Hj⟩:∃ j,Hid (k=j+1):=⟨k - 1,(show k=k - 1+1 by omega)⟩
     have hjn:j < n:=by have:=Hj.out;omega
     have hwj:IntKind.i64.wrap ((k:Int) - 1)=(j:Int):=by rw [IntKind.wrap_i64];have:=Hj.out;omega
     have hk1:decide (0 < k)=true:=by rw [decide_eq_true_iff];omega
     have hk2:0 < k:=by omega
     obtain ⟨ad',e',Aj⟩:=HS1.out.at j hjn;obtain rfl:=Option.some.inj e';obtain ⟨ad',e2',Ak⟩:=HS1.out.at k Hlt.out;obtain rfl:=Option.some.inj e2';have HOj:=hide (HS1.out.okAt j hjn);have HOk2:=hide (HS1.out.okAt k Hlt.out);obtain ⟨q,Hq⟩:∃ q,Hid (L.getD j rc0=q):=⟨_,rfl⟩;rw [Hq.out] at Aj HOj;rw [Hr.out] at Ak HOk2;have HAj:=hide Aj;have HAk:=hide Ak
     have HLt:Hid (∀ z,CmpR q r z -> z < 0 -> (0 < k -> LtR (L.getD (k - 1) rc0) (L.getD k rc0))):=fun z h1 h2 _=>by
      rw [show k - 1=j by have:=Hj.out;omega,Hr.out,Hq.out];exact ⟨z,h1,h2⟩
     have HNo:Hid (∀ z,CmpR q r z -> ¬ z < 0 -> ¬ OkR L n):=fun z h1 h2 h=>by
      have h3:=(h k Hlt.out).2 (by have:=Hj.out;omega);rw [show k - 1=j by have:=Hj.out;omega,Hr.out,Hq.out] at h3;obtain ⟨z2,h4,h5⟩:=h3;have:=h1.unique h4;omega
     clear Aj Ak e' e2' hk0;go_upto_region 6 with fail;refine wp_region_held_drew (S:=fun v=>(ldRe (.pointer (some (ad.add (j * 3))))).run Tryz.prog v = .ok (.agg (ReC (mkR q))) v/\(ldRe (.pointer (some (ad.add (k * 3))))).run Tryz.prog v = .ok (.agg (ReC (mkR r))) v) (by kernel_rfl) (⟨zz (HAj.out.on (zf w1)),zz (HAk.out.on (zf w1))⟩) (fun hHeld=>?_);refine wU 0 ?_;refine wU 1 ?_;refine wU 2 ?_;refine wU 3 ?_;refine wU 4 ?_;refine wU 5 ?_;refine wU 6 ?_;refine wU 7 ?_;refine wU 8 ?_;refine wU 9 ?_;refine wU 10 ?_;refine wU 11 ?_;refine wpAnyH_ready (rs:=[12]) (by kernel_rfl) (by simp) (.cons rfl (fun K hK=>?_) .nil);go_simp;go_wp2_with fail;refine (yg q r _ (HOj.out.below (zf w1)) (HOk2.out.below (zf w1))).mono ?_;rintro e w7 ⟨z,rfl,hz,b7⟩;have hB7:Below w1.heap.size w1 w7:=(zf w1).trans b7
     have HB7:=wTr HB1 hB7;have HZ:=hide hz;refine hK.out _ _ (⟨zz (HAj.out.on (hB7)),zz (HAk.out.on (hB7))⟩) (fun hHeld=>?_);clear hK K hz b7 hB7;by_cases hz0:(0:Int) <= z
     ·have HN:=hide (HNo.out z HZ.out (by omega));refine wU 13 ?_;refine wU 14 ?_;refine wpAnyH_done (by kernel_rfl) ?_ _;clear hHeld;go_wp2_with fail;go_ret;exact ⟨_,rfl,.inr ⟨rfl,HN.out⟩,HB7.out⟩
     ·have HL:=hide (HLt.out z HZ.out (by omega));refine wU 13 ?_;refine wU 14 ?_;refine wpAnyH_done (by kernel_rfl) ?_ _;clear hHeld;go_wp2_with fail;go_roundw
      case rel=>exact ⟨k+1,by omega,by simp,HK.out.snoc HOk.out HL.out,HB7.out⟩
      case measure=>simp [intOf];omega
   ·have hb1:(b != 0)=true:=by simpa using hb0
    have HN:Hid (¬ OkR L n):=fun h=>by have h1:=(h k Hlt.out).1;rw [Hr.out] at h1;exact hb0 (hb.zero.2 h1)
    clear hb hb0;go_wp2_with fail;go_ret;exact ⟨_,rfl,.inr ⟨rfl,HN.out⟩,HB1.out⟩
  ·obtain rfl:k=n:=by omega
   go_wp2_with fail;go_ret;exact ⟨_,rfl,.inl ⟨rfl,HK.out⟩,HB.out⟩
end
section
open Go.RowKit
def G1D (s:Fc):Prop:=s.es=[]/\s.an=0/\s.p.P=sxP/\s.rs=[]/\s.rn=0/\s.rc=0
theorem zes (v:Option Addr) (m d:Nat) (w:World):(bldS #[(1,.agg #[.slice v m d,.slice none 0 0])]).run Tryz.prog w = .ok (.agg #[.slice none 0 0,.slice v m d,.slice none 0 0,.slice none 0 0]) w:=by kernel_rfl
attribute [local go_sem ↓] zr zq zL zK xd yC
attribute [local go_sem] zi zk zl zp zv zes kH
theorem A1D.b {w:World} {s:Fc} (h:A1D s) (hF:FcOk w s):SwB 1 w s:=by
 obtain ⟨h1,h2,h3,h4,h5,h6⟩:=h;exact ⟨hF,⟨by omega,fun _=>h6⟩,by omega,by omega,by rw [h4];intro r hr;cases hr⟩
theorem G1D.b {w:World} {s:Fc} (h:G1D s) (hF:FcOk w s):SwB 1 w s:=by
 obtain ⟨h1,h2,h3,h4,h5,h6⟩:=h;exact ⟨hF,⟨by omega,fun _=>h6⟩,by omega,by omega,by rw [h4];intro r hr;cases hr⟩
end
section
open Go.RowKit
attribute [local go_sem ↓] zL zK xd
attribute [local go_sem] zl zp zv qB
end
section
open Go.RowKit
def BarD (a b:Fc) (d:Rn):Prop:=∃ e∈a.es,dotOf e=d/\∃ r∈b.rs,covB r e=true
attribute [local go_sem ↓] zr zq zL zK qh qg K.zy K.zx qd zZ zcG
attribute [local go_sem] zi zk zl zp zF zQ zW K.zu K.zH K.zJ zI zU qi
end
section
open Go.RowKit
def eD (d:Rn):K.En:=⟨d.lo,d.hi,⟨#[]⟩,0⟩
theorem wD (P:Pst) (d:Rn):dotIn P d↔inB P (eD d)=true:=(qs P (eD d)).symm
def LvD (s:Fc) (d:Rn):Prop:=∃ e∈s.es,dotOf e=d
theorem KnOf.cases {s:Fc} {d:Rn} {x:Int} (hf:FormS s) (h:KnOf s d x):(¬ inB s.p.P (eD d)=true/\x=0)∨(inB s.p.P (eD d)=true/\LvD s d/\x=1)∨(inB s.p.P (eD d)=true/\¬ LvD s d/\x=2):=by
 rcases h with ⟨h,rfl⟩ | ⟨⟨-,h⟩,h2,rfl⟩ | ⟨⟨-,h⟩,h2,rfl⟩
 ·exact .inl ⟨fun k=>h ⟨hf,(wD _ _).2 k⟩,rfl⟩
 ·exact .inr (.inl ⟨(wD _ _).1 h,h2,rfl⟩)
 ·exact .inr (.inr ⟨(wD _ _).1 h,h2,rfl⟩)
theorem KnOf.zero {d:Rn} {x:Int} (h:KnOf fz0 d x):x=0:=by
 have hn:¬ dotIn fz0.p.P d:=fun k=>by
  have h1:=(wD _ _).1 k;rw [show fz0.p.P=pv0.P from rfl,zjb] at h1
  cases h1
 rcases h with ⟨-,h⟩ | ⟨⟨-,h⟩,-⟩ | ⟨⟨-,h⟩,-⟩
 ·exact h
 ·exact absurd h hn
 ·exact absurd h hn
attribute [local go_sem ↓] zr zq zL zK qh qg
attribute [local go_sem] zi zk zl zp zv zF zQ zW
end
section
open Go.RowKit Go.Maps
def RE (v:Value):Option (DataW K.En × List MemPlace):=
 match v with
 | .agg cs=>(match cs.toList with
  | [.int .i64 r,.int .i64 n,.string s,.int .i64 q]=>some (.held ⟨r,n,s,q⟩,[])
  | _=>none)
 | _=>none
def DmE (D:DataW K.En) (L:List K.En):Prop:=∀ d l,keyOf Tryz.prog 48 (RV d)=some l -> (has D l=true↔∃ e∈L,dotOf e=d)/\∀ e∈L,dotOf e=d -> D.atKey l (.held K.en0) = .held e
def MapE (w:World) (b k:Nat) (L:List K.En):Prop:=∃ D,w.ownsMap Tryz.prog 48 RE b k D/\DmE D L
attribute [local go_sem ↓] zr zq zL zK qh qg K.zy K.zx
attribute [local go_sem] zi zk zl zp zF zQ zW K.zu K.zH K.zJ
end
section
open Go.RowKit
theorem zjc {s t:Fc} (h:ab s=ab t):EqS s t:=⟨congrArg Ab.L h,congrArg Ab.P h,congrArg Ab.R h⟩
attribute [local go_sem ↓] zL zK xd
attribute [local go_sem] zl zp zv qB
end
section
open Go.RowKit
attribute [local go_sem ↓] qd zZ
attribute [local go_sem] zI zU qi
variable {w w' w2 W W' : World} {g : Nat}

def rcC (s d:Rc):Int:=ck (rck s) (rck d)
theorem zb1 (a b:Rc) (w:World) (hA:RcOk w a) (hB:RcOk w b) (fa:InForm a.p.P) (fb:InForm b.p.P):Calls Tryz.prog 112 #[ReV (mkR a),ReV (mkR b)] w fun e w'=>e = .returned (.int .i64 (rcC a b))/\Below w.heap.size w w':=by
 refine (x6 a b w hA hB).mono ?_;rintro e w' ⟨z,rfl,hz,hb⟩;exact ⟨by rw [zcf fa fb hz];rfl,hb⟩
def FirstC (L:List Rc) (d:Rc) (n i:Nat):Prop:=i <= n/\(∀ j,j < i -> rcC (L.getD j rc0) d < 0)/\(i < n -> 0 <= rcC (L.getD i rc0) d)
def BsC (w w':World) (e:Ending) (L:List Rc) (d:Rc) (n:Nat):Prop:=∃ (i:Nat) (b:Bool),e = .returned (.tuple #[.int .i64 (i:Int),.bool b])/\FirstC L d n i/\(b=true↔i < n/\rcC (L.getD i rc0) d=0)/\Below w.heap.size w w'
theorem ziy (ao:Option Addr) (n cap:Nat) (L:List Rc) (d:Rc) (w:World) (hS:RcS w ao n cap L) (hd:RcOk w d) (hf:∀ r∈L,InForm r.p.P) (hfd:InForm d.p.P) (hm:∀ a b,a <= b -> b < n -> rcC (L.getD b rc0) d < 0 -> rcC (L.getD a rc0) d < 0) :
  Calls Tryz.prog 175 #[.slice ao n cap,ReV (mkR d),.func (.func 112) #[] #[]] w fun e w'=>BsC w w' e L d n:=by
 have hcf:∀ (args:Array Value) (w:World),(callFunc 112 args).run Tryz.prog w = .ok (.enter 112 args) w:=fun _ _=>rfl;have b1:=ze w (.cells (ReC (mkR d)) 78);have x1:=qj w (mkR d);obtain ⟨w1,hw1⟩:∃ w1,w.alloc (.cells (ReC (mkR d)) 78)=w1:=⟨_,rfl⟩;obtain ⟨g1,hg1⟩:∃ g1,w.heap.size=g1:=⟨_,rfl⟩;rw [hw1] at b1 x1;rw [hg1] at x1;have HB1:=hide b1;have HX:Hid (ReBox w1 g1 (mkR d)/\RcS w1 ao n cap L):=⟨x1,hS.below b1⟩;have HD:Hid (RcOk w1 d/\InForm d.p.P/\∀ r∈L,InForm r.p.P):=⟨hd.below b1,hfd,hf⟩;have HLn:Hid (L.length=n):=hS.len;have hnb:n <= 2199023255552:=hS.big;have HM:=hide hm;clear b1 x1 hS hm hd hf hfd;go_enter Tryz.func175,Tryz.ntmps175;go_wp2_with fail;clear hw1 hg1;go_loopw [9,10] (fun a b wr=>∃ (lo hi:Nat),a = .int .i64 (lo:Int)/\b = .int .i64 (hi:Int)/\lo <= hi/\hi <= n/\Hid (Below w1.heap.size w1 wr/\(∀ j,j < lo -> rcC (L.getD j rc0) d < 0)/\(hi < n -> 0 <= rcC (L.getD hi rc0) d))) (fun a b _=>(intOf b).toNat - (intOf a).toNat)
 case atStart=>exact ⟨0,n,rfl,rfl,Nat.zero_le _,Nat.le_refl _,Below.refl _ _,(fun j hj=>by omega),fun h=>by omega⟩
 case round =>
  obtain ⟨lo,hi,rfl,rfl,hlh,hhn,HI⟩:=hrel
  rename World=>wr
  by_cases hlt:lo < hi
  ·have hlti:(lo:Int) < (hi:Int):=by omega
   obtain ⟨h,hh⟩:∃ h:Nat,(lo+hi) / 2=h:=⟨_,rfl⟩
   have hlb:lo <= 2199023255552:=by omega
   have hhb:hi <= 2199023255552:=by omega
   obtain ⟨t,ht⟩:∃ t:Nat,lo+hi=t:=⟨_,rfl⟩
   have et:(lo:Int)+(hi:Int)=(t:Int):=by omega
   have e2:(t:Int) / 2=(h:Int):=by omega
   have e3:t / 2=h:=by omega
   have HH:Hid (lo <= h/\h < hi/\h < n):=⟨by omega,by omega,by omega⟩
   have htb:t <= 20000000000000:=by omega
   obtain ⟨ad,rfl,A0⟩:=(HX.out.2.below HI.out.1).at h HH.out.2.2;obtain ⟨s,Hs⟩:∃ s,Hid (L.getD h rc0=s):=⟨_,rfl⟩
   have HSt:Hid (∀ W,Below wr.heap.size wr W -> (ldRe (.pointer (some (ad.add (h * 3))))).run Tryz.prog W = .ok (ReV (mkR s)) W/\(ldRe (.pointer (some ⟨g1,0,none⟩))).run Tryz.prog W = .ok (ReV (mkR d)) W):=fun W hW=>by
    obtain ⟨ad',e',A1⟩:=((HX.out.2.below HI.out.1).below hW).at h HH.out.2.2;obtain rfl:=Option.some.inj e';rw [Hs.out] at A1;exact ⟨zz A1,qH ((HX.out.1.below HI.out.1).below hW)⟩
   have hhi:(h:Int) < (n:Int):=by have:=HH.out;omega
   have HKs:Hid (RcOk wr s):=by rw [<- Hs.out];exact (HX.out.2.below HI.out.1).okAt h HH.out.2.2
   have HFs:Hid (InForm s.p.P):=by rw [<- Hs.out];exact HD.out.2.2 _ (jm (by rw [HLn.out];exact HH.out.2.2))
   clear A0 hh ht;go_upto_region 5 with fail;clear et e2 e3;refine wp_region_held_drew (S:=fun W=>(ldRe (.pointer (some (ad.add (h * 3))))).run Tryz.prog W = .ok (ReV (mkR s)) W/\(ldRe (.pointer (some ⟨g1,0,none⟩))).run Tryz.prog W = .ok (ReV (mkR d)) W) (by kernel_rfl) (HSt.out _ (zf wr)) (fun hHeld=>?_);refine wU 0 ?_;refine wU 1 ?_;refine wU 2 ?_;refine wU 3 ?_;refine wU 4 ?_;refine wU 5 ?_;refine wpAnyH_ready (rs:=[6]) (by kernel_rfl) (by simp) (.cons rfl (fun K hK=>?_) .nil);go_simp;go_wp2_with fail;refine (zb1 s d _ (HKs.out.below (zf wr)) ((HD.out.1.below HI.out.1).below (zf wr)) HFs.out HD.out.2.1).mono ?_;rintro e w3 ⟨rfl,b3⟩;have hB3:Below wr.heap.size wr w3:=(zf wr).trans b3;have HB3:=hide (HI.out.1.trans (hB3.mono HI.out.1.size));refine hK.out _ _ (HSt.out _ hB3) (fun hHeld=>?_);clear hK K b3 hB3;obtain ⟨z,hz⟩:∃ z,rcC s d=z:=⟨_,rfl⟩
   rw [hz];refine wU 7 ?_;refine wpAnyH_done (by kernel_rfl) ?_ _;clear hHeld;by_cases hz0:z < 0
   ·have HN:Hid (∀ j,j < h+1 -> rcC (L.getD j rc0) d < 0):=fun j hj=>HM.out j h (by omega) HH.out.2.2 (by rw [Hs.out,hz];exact hz0);clear hz;go_wp2_with fail;go_roundw
    case rel=>exact ⟨h+1,hi,by simp,rfl,by have:=HH.out;omega,hhn,HB3.out,HN.out,HI.out.2.2⟩
    case measure=>simp [intOf];have:=HH.out;omega
   ·have HN:Hid (h < n -> 0 <= rcC (L.getD h rc0) d):=fun _=>by rw [Hs.out,hz];omega
    clear hz;go_wp2_with fail;go_roundw
    case rel=>exact ⟨lo,h,rfl,rfl,HH.out.1,by have:=HH.out;omega,HB3.out,HI.out.2.1,HN.out⟩
    case measure=>simp [intOf];have:=HH.out;omega
  ·have hlti:¬ (lo:Int) < (hi:Int):=by omega
   obtain rfl:lo=hi:=by omega
   have HF:Hid (FirstC L d n lo):=⟨hhn,HI.out.2.1,HI.out.2.2⟩;have HBw:=wTr HB1 HI.out.1;by_cases hln:lo < n
   ·have hlni:(lo:Int) < (n:Int):=by omega
    obtain ⟨ad,rfl,A0⟩:=(HX.out.2.below HI.out.1).at lo hln;obtain ⟨s,Hs⟩:∃ s,Hid (L.getD lo rc0=s):=⟨_,rfl⟩
    have HSt:Hid (∀ W,Below wr.heap.size wr W -> (ldRe (.pointer (some (ad.add (lo * 3))))).run Tryz.prog W = .ok (ReV (mkR s)) W/\(ldRe (.pointer (some ⟨g1,0,none⟩))).run Tryz.prog W = .ok (ReV (mkR d)) W):=fun W hW=>by
     obtain ⟨ad',e',A1⟩:=((HX.out.2.below HI.out.1).below hW).at lo hln;obtain rfl:=Option.some.inj e';rw [Hs.out] at A1;exact ⟨zz A1,qH ((HX.out.1.below HI.out.1).below hW)⟩
    have HKs:Hid (RcOk wr s):=by rw [<- Hs.out];exact (HX.out.2.below HI.out.1).okAt lo hln
    have HFs:Hid (InForm s.p.P):=by rw [<- Hs.out];exact HD.out.2.2 _ (jm (by rw [HLn.out];exact hln))
    clear A0;go_upto_region 8 with fail;refine wp_region_held_drew (S:=fun W=>(ldRe (.pointer (some (ad.add (lo * 3))))).run Tryz.prog W = .ok (ReV (mkR s)) W/\(ldRe (.pointer (some ⟨g1,0,none⟩))).run Tryz.prog W = .ok (ReV (mkR d)) W) (by kernel_rfl) (HSt.out _ (zf wr)) (fun hHeld=>?_);refine wU 0 ?_;refine wU 1 ?_;refine wU 2 ?_;refine wU 3 ?_;refine wU 4 ?_;refine wU 5 ?_;refine wU 6 ?_;refine wU 7 ?_;refine wU 8 ?_;refine wU 9 ?_;refine wU 10 ?_;refine wpAnyH_ready (rs:=[11]) (by kernel_rfl) (by simp) (.cons rfl (fun K hK=>?_) .nil);go_simp;go_wp2_with fail;refine (zb1 s d _ (HKs.out.below (zf wr)) ((HD.out.1.below HI.out.1).below (zf wr)) HFs.out HD.out.2.1).mono ?_;rintro e w3 ⟨rfl,b3⟩;have hB3:Below wr.heap.size wr w3:=(zf wr).trans b3;have HB3:=wTr HBw hB3;refine hK.out _ _ (HSt.out _ hB3) (fun hHeld=>?_)
    clear hK K b3 hB3;obtain ⟨z,hz⟩:∃ z,rcC s d=z:=⟨_,rfl⟩;rw [hz]
    have HZ0:Hid (rcC (L.getD lo rc0) d=z):=by show _=_;rw [Hs.out];exact hz
    clear hz;refine wU 14 ?_;refine wU 12 ?_;refine wU 13 ?_;refine wU 15 ?_;refine wpAnyH_done (by kernel_rfl) ?_ _;clear hHeld;go_wp2_with fail;go_ret2;exact ⟨lo,_,rfl,HF.out,by rw [HZ0.out];simp [hln],HB3.out⟩
   ·have hlni:¬ (lo:Int) < (n:Int):=by omega
    go_upto_region 8 with fail;refine wp_region_held_drew (S:=fun _=>True) (by kernel_rfl) (trivial) (fun hHeld=>?_);refine wU 0 ?_;refine wU 1 ?_;refine wU 2 ?_;refine wU 3 ?_;refine wU 4 ?_;refine wV 5 ?_;refine wV 6 ?_;refine wV 7 ?_;refine wV 8 ?_;refine wV 9 ?_;refine wV 10 ?_;refine wV 11 ?_;refine wV 12 ?_;refine wU 14 ?_;refine wU 13 ?_;refine wU 15 ?_;refine wpAnyH_done (by kernel_rfl) ?_ _;clear hHeld;go_wp2_with fail;go_ret2;exact ⟨lo,_,rfl,HF.out,by simp [hln],HBw.out.trans ((zf wr).mono HBw.out.size)⟩
end
end Go.Proofs.YtjffpimfngdggaaGreat
