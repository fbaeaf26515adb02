/- LChk Gsc GRr GKc SQl SLt PLs PDk GFc Shd -/
import Derived.Test.YtjffpimfngdggaaGreatTk
import Derived.Test.YtjffpimfngdggaaGreatFs15
import Derived.Shelf.Small.Strs
import Derived.Test.YtjffpimfngdggaaGreatProg
import Derived.Test.YtjffpimfngdggaaGreatFs13
import Derived.Test.YtjffpimfngdggaaGreatFs14
import Derived.Test.YtjffpimfngdggaaGreatFs09
import Derived.Test.YtjffpimfngdggaaGreatFs05
import Derived.Test.YtjffpimfngdggaaGreatFs00
import Derived.Laws.AppendOwnNone
import Derived.Shelf.SlSortCmp.WholeK
set_option maxRecDepth 100000
set_option maxHeartbeats 3200000
namespace Go.Proofs.YtjffpimfngdggaaGreat.K
open Go.RowKit
attribute [local go_sem ↓] zy zx
attribute [local go_sem] zJ zu
def okAt (L:List En) (k:Nat):Bool:=ceE (L.getD k en0) == 0 && (decide (k=0) || ahead (L.getD (k - 1) en0) (L.getD k en0))
def okN (L:List En) (k:Nat):Bool:=(List.range k).all (okAt L)
def chk (L:List En):Int:=if okN L L.length=true then 0 else 1
theorem wu (L:List En) (k:Nat):okN L (k+1)=(okN L k && okAt L k):=by unfold okN;rw [List.range_succ,List.all_append];simp
theorem zeG (L:List En) (k n:Nat) (h:k < n) (hs:okAt L k=false):okN L n=false:=by
 unfold okN;rw [List.all_eq_false];exact ⟨k,by simpa using h,by rw [hs];simp⟩
theorem zfy (x y:En):decide (0 <= byD x y) = !ahead x y:=by
 unfold byD ahead or2 cmpI;by_cases h1:x.rep < y.rep
 ·simp [h1]
 ·by_cases h2:y.rep < x.rep
  ·have:¬ x.rep=y.rep:=by omega
   simp [h1,h2,this]
  ·have:x.rep=y.rep:=by omega
   by_cases h3:x.num < y.num
   ·simp [this,h3]
   ·by_cases h4:y.num < x.num
    ·simp [this,h3,h4]
    ·simp [this,h3,h4]

theorem qD (ao:Option Addr) (n cap:Nat) (L:List En) (w:World) (hS:ESrc w ao n cap L) :
  Calls Tryz.prog 57 #[.slice ao n cap] w fun e w'=>e = .returned (.int .i64 (chk L))/\Below w.heap.size w w':=by
 have HS:=hide hS;have hn:=hS.2.2.2.2;have HL:Hid (L.length=n):=hS.1;clear hS;go_enter Tryz.func57,Tryz.ntmps57;go_wp2_with fail;go_loopw [7] (fun i wr=>∃ k:Nat,k <= n/\i = .int .i64 k/\Hid (okN L k=true)/\Hid (Below w.heap.size w wr)) (fun i _=>n - (intOf i).toNat)
 case atStart=>exact ⟨0,Nat.zero_le _,rfl,rfl,Below.refl _ _⟩
 case round =>
  obtain ⟨k,hk,rfl,HK,HB⟩:=hrel;by_cases hlt:k < n
  ·obtain ⟨ad,rfl,A0⟩:=(HS.out.below HB.out).at k hlt;have hld:=zN A0;obtain ⟨e,He⟩:∃ e,Hid (L.getD k en0=e):=⟨_,rfl⟩;have hsk:=HS.out.sku k hlt;rw [He.out] at hld hsk A0;obtain ⟨w1,hst,X1,B1,Z1⟩:=made wr e wr.heap.size rfl;have HX:=hide X1;have HB1:=hide B1;have HSK:=hide hsk;clear X1 B1 hsk A0
   have le:∀ d os,(ld28 (.pointer (some ⟨wr.heap.size,0,none⟩))).run Tryz.prog (Sort.grow (redrawn w1 d) os) = .ok (EV e) (Sort.grow (redrawn w1 d) os):=fun d os=>zN (HX.out.below (below_regrown w1 d os)).at
   obtain ⟨c,Hc⟩:∃ c,Hid (ceE e=c):=⟨_,rfl⟩
   have cE:∀ d os,Calls Tryz.prog 103 #[EV e] (Sort.grow (redrawn w1 d) os) fun x w''=>x = .returned (.int .i64 c)/\∃ p:Regrown,w''=Sort.grow (redrawn w1 p.d) p.os:=fun d os=>by
    have:=zaD e (Sort.grow (redrawn w1 d) os) HSK.out;rw [Hc.out] at this;exact Calls.regrown_of this
   by_cases h0:c=0
   ·have h0':(c != 0)=false:=by simpa using h0
    by_cases hk0:k=0
    ·have HN:Hid (okN L (k+1)=true):=by show _=_;rw [wu,HK.out];unfold okAt;rw [He.out,Hc.out,h0];simp [hk0]
     subst hk0;rw [Nat.zero_mul,add_zero] at hld;clear h0;go_wp2_with fail;refine wp_region_quiet_below (by kernel_rfl) (by kernel_rfl) ?_
     repeat (with_reducible (refine wpQuiet_step ?_);intro K hK;go_simp;(try rw [if_neg (by unfold undef;simp)]);first | (with_reducible (refine hK _ ?_);clear hK K) | (apply Exists.intro;refine ⟨fun _=>?_,hK _ ?_⟩;(go_at_call 103;exact cE _ _);clear hK K))
     with_reducible (refine wpQuiet_nil ?_)
     intro _ hw';obtain ⟨⟨dq,osq⟩,hw''⟩:=hw';subst hw'';have HBE:Hid (Below w.heap.size w (Sort.grow (redrawn w1 dq) osq)):=(HB.out.trans (HB1.out.mono HB.out.size)).trans ((below_regrown w1 dq osq).mono (Nat.le_trans HB.out.size (by rw [Z1];omega)));go_wp2_with fail;go_roundw
     case rel=>exact ⟨0+1,by omega,by go_num,HN,HBE⟩
     case measure=>simp [intOf];omega
    ·have hk1:decide ((0:Int) < (k:Int))=true:=decide_eq_true (by omega)
     have hk2:0 < k:=by omega
     obtain ⟨j,hj⟩:∃ j,k - 1=j:=⟨_,rfl⟩
     have hz:IntKind.i64.wrap ((k:Int) - 1)=(j:Int):=by rw [IntKind.wrap_i64];omega
     have hjn:j < n:=by omega
     have A1:=((HS.out.below HB.out).2.2.1 ad rfl j (by omega)).on HB1.out;obtain ⟨e1,He1⟩:∃ e1,Hid (L.getD j en0=e1):=⟨_,rfl⟩;rw [He1.out] at A1;have HA1:=hide A1;clear A1;have l1:∀ d os,(ld28 (.pointer (some (ad.add (j * 4))))).run Tryz.prog (Sort.grow (redrawn w1 d) os) = .ok (EV e1) (Sort.grow (redrawn w1 d) os):=fun d os=>zN (HA1.out.on (below_regrown w1 d os));obtain ⟨q,Hq⟩:∃ q,Hid (byD e1 e=q):=⟨_,rfl⟩
     have cD:∀ d os,Calls Tryz.prog 104 #[EV e1,EV e] (Sort.grow (redrawn w1 d) os) fun x w''=>x = .returned (.int .i64 q)/\∃ p:Regrown,w''=Sort.grow (redrawn w1 p.d) p.os:=fun d os=>by
      have:=zhf e1 e (Sort.grow (redrawn w1 d) os);rw [Hq.out] at this;exact Calls.regrown_of this
     have hq:=zfy e1 e;rw [Hq.out] at hq
     have hok:okAt L k=ahead e1 e:=by unfold okAt;rw [He.out,Hc.out,h0,hj,He1.out];simp [hk0]
     clear h0 hk0;by_cases h1:0 <= q
     ·have HF:Hid (chk L=1):=by
       show _=_;unfold chk;rw [zeG L k _ (by rw [HL.out];exact hlt) (by rw [hok];simpa [h1] using hq)];rfl
      clear hq hok;go_wp2_with fail;refine wp_region_quiet_below (by kernel_rfl) (by kernel_rfl) ?_
      repeat (with_reducible (refine wpQuiet_step ?_);intro K hK;go_simp;(try rw [if_neg (by unfold undef;simp)]);first | (with_reducible (refine hK _ ?_);clear hK K) | (apply Exists.intro;refine ⟨fun _=>?_,hK _ ?_⟩;(first | (go_at_call 103;exact cE _ _) | (go_at_call 104;exact cD _ _));clear hK K))
      with_reducible (refine wpQuiet_nil ?_)
      intro _ hw';obtain ⟨⟨dq,osq⟩,hw''⟩:=hw';subst hw'';have HBE:Hid (Below w.heap.size w (Sort.grow (redrawn w1 dq) osq)):=(HB.out.trans (HB1.out.mono HB.out.size)).trans ((below_regrown w1 dq osq).mono (Nat.le_trans HB.out.size (by rw [Z1];omega)));go_wp2_with fail;go_ret;exact ⟨zG HF.out.symm,HBE.out⟩
     ·have HN:Hid (okN L (k+1)=true):=by show _=_;rw [wu,HK.out,hok];simpa [h1] using hq
      clear hq hok;go_wp2_with fail;refine wp_region_quiet_below (by kernel_rfl) (by kernel_rfl) ?_
      repeat (with_reducible (refine wpQuiet_step ?_);intro K hK;go_simp;(try rw [if_neg (by unfold undef;simp)]);first | (with_reducible (refine hK _ ?_);clear hK K) | (apply Exists.intro;refine ⟨fun _=>?_,hK _ ?_⟩;(first | (go_at_call 103;exact cE _ _) | (go_at_call 104;exact cD _ _));clear hK K))
      with_reducible (refine wpQuiet_nil ?_)
      intro _ hw';obtain ⟨⟨dq,osq⟩,hw''⟩:=hw';subst hw'';have HBE:Hid (Below w.heap.size w (Sort.grow (redrawn w1 dq) osq)):=(HB.out.trans (HB1.out.mono HB.out.size)).trans ((below_regrown w1 dq osq).mono (Nat.le_trans HB.out.size (by rw [Z1];omega)));go_wp2_with fail;go_roundw
      case rel=>exact ⟨k+1,by omega,by go_num,HN,HBE⟩
      case measure=>simp [intOf];omega
   ·have h0':(c != 0)=true:=by simpa using h0
    have HF:Hid (chk L=1):=by
     show _=_;unfold chk;rw [zeG L k _ (by rw [HL.out];exact hlt) (by unfold okAt;rw [He.out,Hc.out];simp [h0])];rfl
    clear h0;go_wp2_with fail;refine wp_region_quiet_below (by kernel_rfl) (by kernel_rfl) ?_
    repeat (with_reducible (refine wpQuiet_step ?_);intro K hK;go_simp;(try rw [if_neg (by unfold undef;simp)]);first | (with_reducible (refine hK _ ?_);clear hK K) | (apply Exists.intro;refine ⟨fun _=>?_,hK _ ?_⟩;(go_at_call 103;exact cE _ _);clear hK K))
    with_reducible (refine wpQuiet_nil ?_)
    intro _ hw';obtain ⟨⟨dq,osq⟩,hw''⟩:=hw';subst hw'';have HBE:Hid (Below w.heap.size w (Sort.grow (redrawn w1 dq) osq)):=(HB.out.trans (HB1.out.mono HB.out.size)).trans ((below_regrown w1 dq osq).mono (Nat.le_trans HB.out.size (by rw [Z1];omega)));go_wp2_with fail;go_ret;exact ⟨zG HF.out.symm,HBE.out⟩
  ·obtain rfl:k=n:=by omega
   have HF:Hid (chk L=0):=by show _=_;unfold chk;rw [HL.out,HK.out];rfl
   go_wp2_with fail;go_ret;exact ⟨zG HF.out.symm,HB.out⟩
end Go.Proofs.YtjffpimfngdggaaGreat.K
namespace Go.Proofs
open Go.Shelf
def Tryz.lays106_ren:Go.Shelf.Ren:=⟨fun | 106=>163 | 213=>203 | 265=>233 | n=>n,fun | 9=>9 | 3=>3 | n=>n,fun | n=>n⟩
theorem Tryz.lays106:Go.Proofs.Lays.n106 Tryz.prog Tryz.lays106_ren:={
 mixed:=by kernel_rfl
 f106:=Tryz.func163.trans (congrArg some (by kernel_rfl))
 f213:=Tryz.func203.trans (congrArg some (by kernel_rfl))
 f265:=Tryz.func233.trans (congrArg some (by kernel_rfl))
 t3:=Tryz.underlying3
 a3:=Tryz.isAgg3
 z3:=Tryz.sizeOf3
 v3:=Tryz.zeroValue3
 t9:=Tryz.underlying9
 a9:=Tryz.isAgg9
 z9:=Tryz.sizeOf9
 v9:=Tryz.zeroValue9 }
theorem Tryz.strings_Compare (a b:ByteArray) (w:World) :
  Calls Tryz.prog 163 #[.string a,.string b] w fun e w'=>e = .returned (.int .i64 (Lib.compareBytes a.data.toList b.data.toList))/\w'=w:=Any.strings_Compare Tryz.lays106 a b w
end Go.Proofs
namespace Go.Proofs.YtjffpimfngdggaaGreat
section
open Go.RowKit
attribute [local go_sem ↓] zr zq qd zZ
attribute [local go_sem] zi zk zI zU
structure Rc where
 s:ByteArray
 p:Pv
def rc0:Rc:=⟨⟨#[]⟩,pv0⟩
def mkR (r:Rc):RecV:=⟨r.s,r.p.vo,r.p.vn,r.p.vc,r.p.co,r.p.cn,r.p.cc⟩
theorem ReBox.sk {w:World} {g:Nat} {r:Rc} (h:ReBox w g (mkR r)):w.cell? ⟨g,0,none⟩=some (.string r.s):=h.c0
theorem ReBox.past {w:World} {g:Nat} {r:Rc} (h:ReBox w g (mkR r)):PAt w ⟨g,1,none⟩ r.p:=⟨h.c1,h.c2⟩
def RcOk (w:World) (r:Rc):Prop:=PSrc w r.p/\r.s.size <= maxLen
theorem RcOk.below {w w':World} {r:Rc} (h:RcOk w r) (hb:Below w.heap.size w w'):RcOk w' r:=⟨h.1.below hb,h.2⟩
def EmptyP (P:Pst):Prop:=∀ r,r < 16 -> ∀ n,¬ mem (runsAt P r) n
def skuR (s:ByteArray):Bool:=decide (s.size=0) || K.good s.data.toList
def FormP (P:Pst):Prop:=InForm P/\¬ EmptyP P
theorem zgi (F:Value) (w:World):Calls Tryz.prog 87 #[.slice none 0 0,F] w fun e w'=>e = .returned (.slice none 0 0)/\Below w.heap.size w w':=by
 go_enter Tryz.func87,Tryz.ntmps87;go_wp2_with fail;go_loopw [5,10] (fun o i wr=>o = .slice none 0 0/\i = .int .i64 0/\wr=w) (fun _ _ _=>0)
 case atStart=>exact ⟨rfl,rfl,rfl⟩
 case round =>
  obtain ⟨rfl,rfl,rfl⟩:=hrel;go_wp2_with fail;go_ret;exact ⟨rfl,Below.refl _ _⟩
def ofE (s:ByteArray):Int:=if K.good s.data.toList=true then 0 else 5
theorem zc3 (w:World):K.ESrc w none 0 0 []:=⟨rfl,fun _=>⟨rfl,rfl⟩,(fun ad h=>by cases h),(fun e h=>by cases h),by decide⟩
theorem zi1 (s:ByteArray) (w:World) (hs:s.size <= maxLen):Calls Tryz.prog 47 #[.slice none 0 0,.string s] w fun e w'=>∃ x,e = .returned (.tuple #[.slice none 0 0,.int .i64 x])/\x=ofE s/\Below w.heap.size w w':=by
 have b1:=ze w (.cells #[.string s] 9);obtain ⟨wk,hwk⟩:∃ wk,w.alloc (.cells #[.string s] 9)=wk:=⟨_,rfl⟩
 have c1:wk.cell? ⟨w.heap.size,0,none⟩=some (.string s):=by rw [<- hwk];have h:=heap_alloc_new w (.cells #[.string s] 9);simp only [World.cell?,h];rfl
 rw [hwk] at b1;have HB:=hide b1;clear b1;go_enter Tryz.func47,Tryz.ntmps47;go_wp2_with fail;clear hwk;refine (K.qD none 0 0 [] _ (zc3 _)).mono ?_;rintro e w2 ⟨rfl,b2⟩;have c2:=(b2.cell (World.block_lt_of_cell? _ _ c1)).trans c1;have HB2:=wTr HB b2;clear b2 c1;rw [show K.chk []=0 from rfl];go_wp2_with fail;refine (K.kY s _ hs).mono ?_;rintro e w' ⟨rfl,rfl⟩
 cases hg:K.good s.data.toList with
 | false =>
  have HE:Hid (5=ofE s):=by show _=_;unfold ofE;rw [hg];rfl
  clear hg;go_wp2_with fail;go_ret2;exact ⟨5,rfl,HE.out,HB2.out⟩
 | true =>
  have HE:Hid (0=ofE s):=by show _=_;unfold ofE;rw [hg];rfl
  clear hg;go_wp2_with fail;refine (zgi _ _).mono ?_;rintro e w3 ⟨rfl,b3⟩;have HB3:=wTr HB2 b3;clear b3 c2;go_wp2_with fail;go_ret2;exact ⟨0,rfl,HE.out,HB3.out⟩
theorem wj (s:ByteArray) (w:World) (hs:s.size <= maxLen):Calls Tryz.prog 162 #[.string s] w fun e w'=>e = .returned (.bool (skuR s))/\Below w.heap.size w w':=by
 go_enter Tryz.func162,Tryz.ntmps162;go_wp2_with fail;refine (zi1 s _ hs).mono ?_;rintro e w2 ⟨x,rfl,hx,b2⟩;have HB2:=hide b2;clear b2;by_cases h0:s.size=0
 ·have e0:=K.jt s h0
  have HR:Hid (skuR s=true):=by show _=_;unfold skuR;rw [decide_eq_true h0,Bool.true_or]
  clear h0 hx;go_wp2_with fail;go_ret;exact ⟨by rw [HR.out];rfl,HB2.out⟩
 ·have e0:=K.j9 s h0
  have HR:Hid (skuR s=K.good s.data.toList):=by show _=_;unfold skuR;rw [decide_eq_false h0,Bool.false_or]
  cases hg:K.good s.data.toList with
  | true =>
   rw [hg] at HR
   obtain rfl:x=0:=by rw [hx];unfold ofE;rw [hg];rfl
   clear h0 hx hg;go_wp2_with fail;go_ret;exact ⟨by rw [HR.out];rfl,HB2.out⟩
  | false =>
   rw [hg] at HR
   obtain rfl:x=5:=by rw [hx];unfold ofE;rw [hg];rfl
   clear h0 hx hg;go_wp2_with fail;go_ret;exact ⟨by rw [HR.out];rfl,HB2.out⟩
def RecE (r:Rc) (x:Int):Prop:=(skuR r.s=false/\x=5)∨(skuR r.s=true/\¬ FormP r.p.P/\x=1)∨(skuR r.s=true/\FormP r.p.P/\x=0)
theorem RecE.zero {r:Rc} {x:Int} (h:RecE r x):x=0↔(skuR r.s=true/\FormP r.p.P):=by
 rcases h with ⟨h1,rfl⟩ | ⟨h1,h2,rfl⟩ | ⟨h1,h2,rfl⟩
 ·simp [h1]
 ·simp [h2]
 ·simp [h1,h2]
theorem jV (r:Rc) (w:World) (hR:RcOk w r):Calls Tryz.prog 111 #[ReV (mkR r)] w fun e w'=>GivesK w w' e (RecE r):=by
 have HX:=hide (qj w (mkR r));have HBK:=hide (ze w (.cells (ReC (mkR r)) 78));have HS:=hide (hR.1.below HBK.out);have hs:=hR.2;clear hR;obtain ⟨wk,hwk⟩:∃ wk,w.alloc (.cells (ReC (mkR r)) 78)=wk:=⟨_,rfl⟩;obtain ⟨G,hG⟩:∃ G,w.heap.size=G:=⟨_,rfl⟩;rw [hwk] at HX HBK HS;rw [hG] at HX;have c0:=HX.out.sk;go_enter Tryz.func111,Tryz.ntmps111;go_wp2_with fail;clear hwk;refine (wj r.s _ hs).mono ?_;rintro e w2 ⟨rfl,b2⟩;have HB2:=wTr HBK b2;have HX2:=hide (HX.out.below b2);have HS2:=hide (HS.out.below b2);clear b2 c0
 cases hg:skuR r.s with
 | false =>
  have HE:Hid (RecE r 5):=.inl ⟨hg,rfl⟩;clear hg;go_wp2_with fail;go_ret;exact ⟨_,rfl,HE.out,HB2.out⟩
 | true =>
  have HG:=hide hg;clear hg;have l2:=zj HX2.out.past;go_wp2_with fail;refine (q9 r.p _ HS2.out).mono ?_;rintro e w3 ⟨b,rfl,hb,b3⟩;have HB3:=wTr HB2 b3;have HX3:=hide (HX2.out.below b3);have HS3:=hide (HS2.out.below b3);clear b3 l2
  cases b with
  | false =>
   have HE:Hid (RecE r 1):=.inr (.inl ⟨HG.out,fun h=>(by have:=hb.out.2 h.1;cases this),rfl⟩);clear hb;go_wp2_with fail;go_ret;exact ⟨_,rfl,HE.out,HB3.out⟩
  | true =>
   have HF:Hid (InForm r.p.P):=hb.out.1 rfl;clear hb;have l3:=zj HX3.out.past;go_wp2_with fail;refine (jC r.p _ HS3.out).mono ?_;rintro e w4 ⟨b,rfl,hb,b4⟩;have HB4:=wTr HB3 b4;clear b4 l3
   cases b with
   | true =>
    have HE:Hid (RecE r 1):=.inr (.inl ⟨HG.out,fun h=>h.2 (hb.1 rfl),rfl⟩);clear hb;go_wp2_with fail;go_ret;exact ⟨_,rfl,HE.out,HB4.out⟩
   | false =>
    have HE:Hid (RecE r 0):=.inr (.inr ⟨HG.out,⟨HF.out,fun h=>(by have:=hb.2 h;cases this)⟩,rfl⟩);clear hb;go_wp2_with fail;go_ret;exact ⟨_,rfl,HE.out,HB4.out⟩
def cmpS (a b:ByteArray):Int:=Lib.compareBytes a.data.toList b.data.toList
def CmpR (a b:Rc) (z:Int):Prop:=(cmpS a.s b.s≠0/\z=cmpS a.s b.s)∨(cmpS a.s b.s=0/\CmpOf a.p.P b.p.P z)
theorem CmpR.unique {a b:Rc} {z z':Int} (h:CmpR a b z) (h':CmpR a b z'):z=z':=by
 rcases h with ⟨h1,h2⟩ | ⟨h1,h2⟩ <;> rcases h' with ⟨g1,g2⟩ | ⟨g1,g2⟩
 ·rw [h2,g2]
 ·exact absurd g1 h1
 ·exact absurd h1 g1
 ·exact h2.unique g2
theorem x6 (a b:Rc) (w:World) (hA:RcOk w a) (hB:RcOk w b):Calls Tryz.prog 112 #[ReV (mkR a),ReV (mkR b)] w fun e w'=>GivesK w w' e (CmpR a b):=by
 have b1:=ze w (.cells (ReC (mkR a)) 78);have b2:=ze (w.alloc (.cells (ReC (mkR a)) 78)) (.cells (ReC (mkR b)) 78);have X2:=qj (w.alloc (.cells (ReC (mkR a)) 78)) (mkR b);rw [World.size_alloc] at X2;have HXA:=hide ((qj w (mkR a)).below b2);have HXB:=hide X2;have HBK:=hide (b1.trans (b2.mono b1.size));have HSA:=hide (hA.1.below HBK.out);have HSB:=hide (hB.1.below HBK.out);clear b1 b2 X2 hA hB;obtain ⟨wk,hwk⟩:∃ wk,(w.alloc (.cells (ReC (mkR a)) 78)).alloc (.cells (ReC (mkR b)) 78)=wk:=⟨_,rfl⟩;obtain ⟨G,hG⟩:∃ G,w.heap.size=G:=⟨_,rfl⟩;rw [hwk] at HXA HXB HBK HSA HSB;rw [hG] at HXA HXB;have c1:=HXA.out.sk;have c2:=HXB.out.sk;have l1:=zj HXA.out.past;have l2:=zj HXB.out.past;go_enter Tryz.func112,Tryz.ntmps112;go_wp2_with fail;clear hwk;refine (Tryz.strings_Compare a.s b.s _).mono ?_;rintro e w' ⟨rfl,rfl⟩
 by_cases h0:cmpS a.s b.s=0
 ·have HZ:=hide h0;rw [show Lib.compareBytes a.s.data.toList b.s.data.toList=0 from h0];clear h0;go_wp2_with fail;refine (yk a.p b.p _ HSA.out HSB.out).mono ?_;rintro e w2 ⟨k,rfl,hk,b2⟩;have HF:Hid (CmpR a b k/\Below w.heap.size w w2):=⟨.inr ⟨HZ.out,hk⟩,HBK.out.trans (b2.mono HBK.out.size)⟩;clear hk b2 l1 l2;go_wp2_with fail;go_ret;exact ⟨_,rfl,HF.out.1,HF.out.2⟩
 ·obtain ⟨z,hz⟩:∃ z,cmpS a.s b.s=z:=⟨_,rfl⟩;have HF:Hid (CmpR a b z):=.inl ⟨h0,hz.symm⟩;rw [show Lib.compareBytes a.s.data.toList b.s.data.toList=z from hz]
  have hne:(z != 0)=true:=by rw [hz] at h0;simpa using h0
  clear h0 hz;go_wp2_with fail;go_ret;exact ⟨_,rfl,HF.out,HBK.out⟩
end
section
open Go.RowKit
attribute [local go_sem ↓] zr zq qd zZ
attribute [local go_sem] zi zk zI zU
theorem qi:(#[.string ⟨#[]⟩,.slice none 0 0,.slice none 0 0]:Array Value)=ReC re0:=rfl
attribute [local go_sem] qi
structure RcS (w:World) (ao:Option Addr) (n cap:Nat) (L:List Rc):Prop where
 len:L.length=n
 nil:ao=none -> n=0
 at_:∀ ad,ao=some ad -> ∀ t,t < n -> ReAt w (ad.add (t * 3)) (mkR (L.getD t rc0))
 ok:∀ r∈L,RcOk w r
 big:n <= 2199023255552
theorem RcS.below {w w':World} {ao:Option Addr} {n cap:Nat} {L:List Rc} (h:RcS w ao n cap L) (hb:Below w.heap.size w w'):RcS w' ao n cap L:=
 ⟨h.len,h.nil,fun ad e t ht=>(h.at_ ad e t ht).on hb,fun r hr=>(h.ok r hr).below hb,h.big⟩
theorem RcS.at {w:World} {ao:Option Addr} {n cap:Nat} {L:List Rc} (h:RcS w ao n cap L) (k:Nat) (hk:k < n):∃ ad,ao=some ad/\ReAt w (ad.add (k * 3)) (mkR (L.getD k rc0)):=by
 cases ao with
 | none=>have:=h.nil rfl;omega
 | some ad=>exact ⟨ad,rfl,h.at_ ad rfl k hk⟩
theorem RcS.okAt {w:World} {ao:Option Addr} {n cap:Nat} {L:List Rc} (h:RcS w ao n cap L) (k:Nat) (hk:k < n):RcOk w (L.getD k rc0):=by
 have hl:=h.len;rw [List.getD_eq_getElem?_getD,List.getElem?_eq_getElem (by omega)];exact h.ok _ (List.getElem_mem _)
theorem RcS.empty (w:World):RcS w none 0 0 []:=⟨rfl,fun _=>rfl,(fun ad h=>by cases h),(fun r h=>by cases h),by decide⟩
def RecOk (r:Rc):Prop:=skuR r.s=true/\FormP r.p.P
def LtR (a b:Rc):Prop:=∃ z,CmpR a b z/\z < 0
def OkR (L:List Rc) (k:Nat):Prop:=∀ j,j < k -> RecOk (L.getD j rc0)/\(0 < j -> LtR (L.getD (j - 1) rc0) (L.getD j rc0))
theorem OkR.snoc {L:List Rc} {k:Nat} (h:OkR L k) (h1:RecOk (L.getD k rc0)) (h2:0 < k -> LtR (L.getD (k - 1) rc0) (L.getD k rc0)):OkR L (k+1):=by
 intro j hj;by_cases e:j=k
 ·subst e;exact ⟨h1,h2⟩
 ·exact h j (by omega)
theorem zac (L:List Rc):OkR L 0:=fun j hj=>absurd hj (Nat.not_lt_zero j)
def ChkR (L:List Rc) (n:Nat) (x:Int):Prop:=(x=0/\OkR L n)∨(x=1/\¬ OkR L n)
theorem xp (ao:Option Addr) (n cap:Nat) (L:List Rc) (w:World) (hS:RcS w ao n cap L):Calls Tryz.prog 66 #[.slice ao n cap] w fun e w'=>GivesK w w' e (ChkR L n):=by
 have HS:=hide hS;have hn:=hS.big;clear hS;go_enter Tryz.func66,Tryz.ntmps66;go_wp2_with fail;go_loopw [7] (fun i wr=>∃ k:Nat,k <= n/\i = .int .i64 k/\Hid (OkR L k)/\Hid (Below w.heap.size w wr)) (fun i _=>n - (intOf i).toNat)
 case atStart=>exact ⟨0,Nat.zero_le _,rfl,zac L,Below.refl _ _⟩
 case round =>
  obtain ⟨k,hk,rfl,HK,HB⟩:=hrel
  rename World=>wr
  by_cases hlt:k < n
  ·obtain ⟨ad,rfl,A0⟩:=(HS.out.below HB.out).at k hlt;have hld:=zz A0;have HO:=hide ((HS.out.below HB.out).okAt k hlt);have HSr:=hide (HS.out.below HB.out);obtain ⟨r,Hr⟩:∃ r,Hid (L.getD k rc0=r):=⟨_,rfl⟩;rw [Hr.out] at hld HO;obtain ⟨gr,hgr⟩:∃ g,wr.heap.size=g:=⟨_,rfl⟩;obtain ⟨w1,hst,X1,B1,-⟩:=madeRe wr (mkR r) gr hgr;have HX:=hide X1;have HB1:=wTr HB B1;have HO1:=hide (HO.out.below B1);have HSr1:=hide (HSr.out.below B1);clear X1 B1 A0 HO HSr;have Hlt:=hide hlt;by_cases hk0:k=0
   ·have hk1:decide (0 < k)=false:=by rw [decide_eq_false_iff_not];omega
    have HK0:=hide hk0;clear hk0;go_wp2_with fail;clear hst hld;refine wp_region_held_drew (S:=fun v=>(ldRe (.pointer (some ⟨gr,0,none⟩))).run Tryz.prog v = .ok (.agg (ReC (mkR r))) v) (by kernel_rfl) (qH (HX.out.below (zf w1))) (fun hHeld=>?_);refine wU 0 ?_;refine wpAnyH_ready (rs:=[1]) (by kernel_rfl) (by simp) (.cons rfl (fun K hK=>?_) .nil);go_simp;go_wp2_with fail;refine (jV r _ (HO1.out.below (zf w1))).mono ?_;rintro e w2 ⟨x,rfl,hx,b2⟩;have hB2:Below w1.heap.size w1 w2:=(zf w1).trans b2;have HB2:=hide hB2;refine hK.out _ _ (qH (HX.out.below (hB2))) (fun hHeld=>?_);clear hK K b2;by_cases hx0:x=0
    ·obtain rfl:=hx0
     have HOk:Hid (RecOk (L.getD k rc0)):=by rw [Hr.out];exact hx.zero.1 rfl
     clear hx;refine wU 2 ?_;refine wU 3 ?_;refine wU 4 ?_;refine wU 5 ?_;refine wU 6 ?_;refine wV 7 ?_;refine wV 8 ?_;refine wV 9 ?_;refine wV 10 ?_;refine wV 11 ?_;refine wV 12 ?_;refine wV 13 ?_;refine wV 14 ?_;refine wU 15 ?_;refine wU 16 ?_;refine wpAnyH_done (by kernel_rfl) ?_ _;clear hHeld;go_wp2_with fail;go_roundw
     case rel=>exact ⟨k+1,by omega,by simp,HK.out.snoc HOk.out (fun h=>absurd h (by have:=HK0.out;omega)),HB1.out.trans (HB2.out.mono HB1.out.size)⟩
     case measure=>simp [intOf];omega
    ·have HNo:Hid (¬ OkR L n):=fun h=>hx0 (hx.zero.2 (by have:=(h k Hlt.out).1;rw [Hr.out] at this;exact this))
     have hxb:(x != 0)=true:=by simpa using hx0
     clear hx hx0;refine wU 2 ?_;refine wU 3 ?_;refine wV 4 ?_;refine wV 5 ?_;refine wV 6 ?_;refine wV 7 ?_;refine wV 8 ?_;refine wV 9 ?_;refine wV 10 ?_;refine wV 11 ?_;refine wV 12 ?_;refine wV 13 ?_;refine wV 14 ?_;refine wV 15 ?_;refine wU 16 ?_;refine wpAnyH_done (by kernel_rfl) ?_ _;clear hHeld;go_wp2_with fail;go_ret;exact ⟨_,rfl,.inr ⟨rfl,HNo.out⟩,HB1.out.trans (HB2.out.mono HB1.out.size)⟩
   ·obtain ⟨j,Hj⟩:∃ j,Hid (k=j+1):=⟨k - 1,(show k=k - 1+1 by omega)⟩
    have hjn:j < n:=by have:=Hj.out;omega
    have hwj:IntKind.i64.wrap ((k:Int) - 1)=(j:Int):=by rw [IntKind.wrap_i64];have:=Hj.out;omega
    have hk1:decide (0 < k)=true:=by rw [decide_eq_true_iff];omega
    obtain ⟨ad',e',Aj⟩:=HSr1.out.at j hjn;obtain rfl:=Option.some.inj e';have HOj:=hide (HSr1.out.okAt j hjn);obtain ⟨q,Hq⟩:∃ q,Hid (L.getD j rc0=q):=⟨_,rfl⟩;rw [Hq.out] at Aj HOj;have HAj:=hide Aj;clear Aj e';go_wp2_with fail;clear hst hld;refine wp_region_held_drew (S:=fun v=>(ldRe (.pointer (some ⟨gr,0,none⟩))).run Tryz.prog v = .ok (.agg (ReC (mkR r))) v/\(ldRe (.pointer (some (ad.add (j * 3))))).run Tryz.prog v = .ok (.agg (ReC (mkR q))) v) (by kernel_rfl) (⟨qH (HX.out.below (zf w1)),zz (HAj.out.on (zf w1))⟩) (fun hHeld=>?_);refine wU 0 ?_;refine wpAnyH_ready (rs:=[1]) (by kernel_rfl) (by simp) (.cons rfl (fun K hK=>?_) .nil);go_simp;go_wp2_with fail;refine (jV r _ (HO1.out.below (zf w1))).mono ?_;rintro e w2 ⟨x,rfl,hx,b2⟩;have hB2:Below w1.heap.size w1 w2:=(zf w1).trans b2
    have HB2:=hide hB2;refine hK.out _ _ (⟨qH (HX.out.below (hB2)),zz (HAj.out.on (hB2))⟩) (fun hHeld=>?_);clear hK K b2;by_cases hx0:x=0
    ·obtain rfl:=hx0
     have HOk:Hid (RecOk (L.getD k rc0)):=by rw [Hr.out];exact hx.zero.1 rfl
     clear hx;refine wU 2 ?_;refine wU 3 ?_;refine wU 4 ?_;refine wU 5 ?_;refine wU 6 ?_;refine wU 7 ?_;refine wU 8 ?_;refine wU 9 ?_;refine wU 10 ?_;refine wU 11 ?_;refine wU 12 ?_;refine wpAnyH_ready (rs:=[13]) (by kernel_rfl) (by simp) (.cons rfl (fun K hK=>?_) .nil);go_simp;go_wp2_with fail;refine (x6 q r _ (HOj.out.below hB2) (HO1.out.below hB2)).mono ?_;rintro e w3 ⟨z,rfl,hz,b3⟩;have hB3:Below w1.heap.size w1 w3:=HB2.out.trans (b3.mono HB2.out.size);have HB3:=hide hB3;refine hK.out _ _ (⟨qH (HX.out.below (hB3)),zz (HAj.out.on (hB3))⟩) (fun hHeld=>?_);clear hK K b3 hB2;by_cases hz0:(0:Int) <= z
     ·have hzb:decide (0 <= z)=true:=decide_eq_true hz0
      have HNo:Hid (¬ OkR L n):=fun h=>by
       have h2:=(h k Hlt.out).2 (by have:=Hj.out;omega);rw [show k - 1=j by have:=Hj.out;omega,Hr.out,Hq.out] at h2;obtain ⟨z2,h3,h4⟩:=h2;have:=hz.unique h3;omega
      clear hz hz0;refine wU 14 ?_;refine wU 15 ?_;refine wU 16 ?_;refine wpAnyH_done (by kernel_rfl) ?_ _;clear hHeld;go_wp2_with fail;go_ret;exact ⟨_,rfl,.inr ⟨rfl,HNo.out⟩,HB1.out.trans (HB3.out.mono HB1.out.size)⟩
     ·have hzb:decide (0 <= z)=false:=decide_eq_false hz0
      have HLt:Hid (0 < k -> LtR (L.getD (k - 1) rc0) (L.getD k rc0)):=fun _=>by
       rw [show k - 1=j by have:=Hj.out;omega,Hr.out,Hq.out];exact ⟨z,hz,by omega⟩
      clear hz hz0;refine wU 14 ?_;refine wU 15 ?_;refine wU 16 ?_;refine wpAnyH_done (by kernel_rfl) ?_ _;clear hHeld;go_wp2_with fail;go_roundw
      case rel=>exact ⟨k+1,by omega,by simp,HK.out.snoc HOk.out HLt.out,HB1.out.trans (HB3.out.mono HB1.out.size)⟩
      case measure=>simp [intOf];omega
    ·have HNo:Hid (¬ OkR L n):=fun h=>hx0 (hx.zero.2 (by have:=(h k Hlt.out).1;rw [Hr.out] at this;exact this))
     have hxb:(x != 0)=true:=by simpa using hx0
     clear hx hx0;refine wU 2 ?_;refine wU 3 ?_;refine wV 4 ?_;refine wV 5 ?_;refine wV 6 ?_;refine wV 7 ?_;refine wV 8 ?_;refine wV 9 ?_;refine wV 10 ?_;refine wV 11 ?_;refine wV 12 ?_;refine wV 13 ?_;refine wV 14 ?_;refine wV 15 ?_;refine wU 16 ?_;refine wpAnyH_done (by kernel_rfl) ?_ _;clear hHeld;go_wp2_with fail;go_ret;exact ⟨_,rfl,.inr ⟨rfl,HNo.out⟩,HB1.out.trans (HB2.out.mono HB1.out.size)⟩
  ·obtain rfl:k=n:=by omega
   go_wp2_with fail;go_ret;exact ⟨_,rfl,.inl ⟨rfl,HK.out⟩,HB.out⟩
end
section

def Least (P:Int -> Prop) (k:Int):Prop:=(k=0/\∀ n,¬ P n)∨(1 <= k/\P k/\∀ n,P n -> k <= n)
def Most (A:List Rn) (k:Int):Prop:=(k=0/\∀ n,¬ mem A n)∨(mem A k/\∀ n,mem A n -> n <= k)
def GapP (A:List Rn) (f:Int) (n:Int):Prop:=1 <= n/\n <= 1000000000/\¬ mem A n/\f <= n
end
section
open Go.RowKit
attribute [local go_sem ↓] kU kE
attribute [local go_sem] zW zF zQ qp
end
section
open Go.RowKit
attribute [local go_sem ↓] zr zq vU vS zhG
attribute [local go_sem] jb xt zE zi qq zk qI
def LastOf (P:Pst) (r:Int) (k:Int):Prop:=(V.isR r=true/\Most (runsAt P r.toNat) k)∨(V.isR r=false/\k=0)
def GivesZ (w w':World) (e:Ending) (P:Int -> Prop):Prop:=∃ k,e = .returned (.int .i64 k)/\P k/\Below w.heap.size w w'
end
section
open Go.RowKit

def ldD (v:Value):Sem Value:=Instr.loadAt 48 v
theorem qh (v:Value):Instr.loadAt 48 v=ldD v:=rfl
def stD (p v:Value):Sem Unit:=Instr.storeAt 48 p v
theorem qg (p v:Value):Instr.storeAt 48 p v=stD p v:=rfl
theorem sizeD:(Tryz.prog.info? 48).map (·.size)=some 2:=by kernel_rfl
theorem infoD:(Tryz.prog.info? 48).map (fun i=>(i.zero,i.size,i.bytes))=some (some (.agg #[.int .i64 0,.int .i64 0]),2,16):=by kernel_rfl
theorem qm {w:World} {p:Addr} {r:Rn} (A:RnAt w p r):(ldD (.pointer (some p))).run Tryz.prog w = .ok (RV r) w:=by
 have hl:=run_loadCells_list (P:=Tryz.prog) (w:=w) p (RC r).toList (fun j v hv=>by
  match j,hv with
  | 0,hv=>cases hv;rw [add_zero];exact A.c0
  | 1,hv=>cases hv;exact A.c1
  | j+2,hv=>simp [RC] at hv)
 unfold ldD;simp only [Instr.loadAt,Instr.sureAddr,Sem.run_bind,Sem.run_pure,Result.andThen]
 cases hq:Tryz.prog.info? 48 with
 | none=>have:=sizeD;simp [hq] at this
 | some x =>
  have hs:x.size=2:=by have:=sizeD;simpa [hq] using this
  have hagg:(isAgg 48).run Tryz.prog w = .ok true w:=by
   unfold isAgg;rw [Sem.run_bind,run_underlying Tryz.underlying48 w];rfl
  have e2:(RC r).toList.length=2:=rfl;rw [e2] at hl;simp [loadVar,Sem.run_bind,hagg,sizeOf,typeInfo,hq,hs,hl,RV]
theorem zh0 {w:World} {g:Nat} {T:TypeId} {r r':Rn} (A:Box w g T r):(stD (.pointer (some ⟨g,0,none⟩)) (RV r')).run Tryz.prog w = .ok () (w.setRow g (RC r')):=by
 unfold stD;have h:=run_storeCells_from (P:=Tryz.prog) g T (RC r').toList 0 (RC r) w A (by simp [RC]) (jY r')
 cases hq:Tryz.prog.info? 48 with
 | none=>have:=sizeD;simp [hq] at this
 | some x =>
  have hs:x.size=2:=by have:=sizeD;simpa [hq] using this
  simp only [Instr.storeAt,Instr.sureAddr,Sem.run_bind,Sem.run_pure,Result.andThen,storeVar,sizeOf,typeInfo,zF,zQ];simp at h;simp [h,hq,hs]
theorem madeD (w:World) (r:Rn) (g:Nat) (hg:w.heap.size=g):∃ w':World,(stD (.pointer (some ⟨g,0,none⟩)) (RV r)).run Tryz.prog (w.alloc (.cells (RC rn0) 48)) = .ok () w'/\Box w' g 48 r/\Below w.heap.size w w'/\w'.heap.size=w.heap.size+1:=by
 subst hg;refine ⟨_,zh0 (qe w 48 rn0),(qe w 48 rn0).setRow,zh (ze w _) (Nat.le_refl _),by simp [World.setRow]⟩
structure OwnD (B0 B:Nat) (w w':World) (ao:Option Addr) (cap:Nat) (acc:List Rn):Prop where
 own:w'.ownsRow B 48 2 (.slice ao acc.length cap) acc.length (rcs acc)
 below:Below B0 w w'
 hB:B <= w'.heap.size
 hB0:B0 <= B
theorem OwnD.later {B0 B:Nat} {w w' w2:World} {ao:Option Addr} {cap:Nat} {acc:List Rn} (O:OwnD B0 B w w' ao cap acc) (hb:Below w'.heap.size w' w2):OwnD B0 B w w2 ao cap acc:=by
 refine ⟨⟨O.own.1,?_⟩,O.below.trans (hb.mono (Nat.le_trans O.hB0 O.hB)),Nat.le_trans O.hB hb.size,O.hB0⟩;rcases O.own.2 with h | ⟨g,cap2,cur,hv,hbg,hgg,r⟩
 ·exact Or.inl h
 ·exact Or.inr ⟨g,cap2,cur,hv,hbg,(hb.block g (Array.getElem?_eq_some_iff.1 hgg).1).trans hgg,r⟩
theorem zge {w:World} {E:List Rn} {ad:Addr} (h:∀ t,t < E.length -> RnAt w (ad.add (t * 2)) (E.getD t rn0)) (j:Nat) (u:Value) (hj:(rcs E)[j]? = some u):w.cell? (ad.add j)=some u:=by
 have hl:j < E.length * 2:=by rw [<- qu];exact (List.getElem?_eq_some_iff.1 hj).1
 have ht:j / 2 < E.length:=by omega
 have e:=yh E (j / 2) (j % 2) ht (by omega);rw [show j / 2 * 2+j % 2=j by omega,hj] at e;have A:=h (j / 2) ht
 have h2:j % 2=0∨j % 2=1:=by omega
 rcases h2 with h2 | h2
 ·rw [h2] at e
  have e':u = .int .i64 (E.getD (j / 2) rn0).lo:=by simpa [RC] using e
  rw [e',show ad.add j=ad.add (j / 2 * 2) by rw [show j / 2 * 2=j by omega]];exact A.c0
 ·rw [h2] at e
  have e':u = .int .i64 (E.getD (j / 2) rn0).hi:=by simpa [RC] using e
  have:=A.c1;rw [qA,show j / 2 * 2+1=j by omega] at this;rw [e'];exact this
theorem OwnD.append {B0 B:Nat} {w w':World} {ao:Option Addr} {cap:Nat} {acc:List Rn} (O:OwnD B0 B w w' ao cap acc) (E:List Rn) (ad:Addr) (m c:Nat) (hm:E.length=m) (hE:∀ t,t < m -> RnAt w' (ad.add (t * 2)) (E.getD t rn0)) (hlen:acc.length+m <= 8796093022207)
  {ops:Array Oper} {rest:List Oper} {o:Oper} {a:Act} {Q:Exit -> Act -> World -> Prop} (hgd:o.guard=none) (s x:Operand) (ho:o.op = .call { callee:=.builtin .append,args:=#[s,x],argTypes:=#[32,32] })
  (n:Nat) (hn:acc.length=n) (hs:a.eval s = .slice ao n cap) (hx:a.eval x = .slice (some ad) m c)
  (hK:∀ (ao2:Option Addr) (cap2:Nat) (w2:World),OwnD B0 B w w2 ao2 cap2 (acc++E) -> wpList Tryz.prog ops Q rest (a.put o.dst (.slice ao2 (n+m) cap2)) w2) :
  wpList Tryz.prog ops Q (o :: rest) a w':=by
 subst hn hm;obtain ⟨i0,hi,hz0,hz1,hz2⟩:=info_parts infoD;have hB:=O.hB;have hB0:=O.hB0;refine wpList_append_own _ hgd s x 32 ho B 48 i0 (.agg #[.int .i64 0,.int .i64 0]) 2 16 Tryz.underlying32 hi hz0 hz1 hz2 rfl (by decide) _ acc.length (rcs acc) hs O.own ad E.length c (rcs E) hx (qu E) (fun j u hj=>zge hE j u hj) (zb0 E) (by unfold maxLen;omega) (by omega) hB ?_;intro v' w2 hown hgrow _;have hrow:∀ k,(Value.slice ao acc.length cap).ownBlock=some k -> B <= k:=fun k hk=>(O.own.lt k hk).1;have hsz:=hgrow.size;have hb2:Below B0 w w2:=O.below.grown hgrow (by omega) (fun k hk=>by have:=hrow k hk;omega);rw [<- xy] at hown;rcases hown.2 with ⟨h0,h00⟩ | ⟨g,cap2,cur,hv,r⟩
 ·subst h0;have e1:acc=[]:=List.eq_nil_of_length_eq_zero (by omega);have e2:E=[]:=List.eq_nil_of_length_eq_zero (by omega);subst e1 e2;exact hK none 0 w2 ⟨hown,hb2,by omega,hB0⟩
 ·subst hv;refine hK (some ⟨g,0,none⟩) cap2 w2 ⟨?_,hb2,by omega,hB0⟩;rw [List.length_append];exact hown
theorem OwnD.appendNone {B0 B:Nat} {w w':World} {ao:Option Addr} {cap:Nat} {acc:List Rn} (O:OwnD B0 B w w' ao cap acc)
  {ops:Array Oper} {rest:List Oper} {o:Oper} {a:Act} {Q:Exit -> Act -> World -> Prop} (hgd:o.guard=none) (s x:Operand) (ho:o.op = .call { callee:=.builtin .append,args:=#[s,x],argTypes:=#[32,32] })
  (n:Nat) (hn:acc.length=n) (hs:a.eval s = .slice ao n cap) (hx:a.eval x = .slice none 0 0)
  (hK:wpList Tryz.prog ops Q rest (a.put o.dst (.slice ao n cap)) w') :
  wpList Tryz.prog ops Q (o :: rest) a w':=by
 subst hn;obtain ⟨i0,hi,hz0,hz1,hz2⟩:=info_parts infoD;exact wpList_append_own_none hgd s x 32 ho B 48 i0 2 Tryz.underlying32 hi _ acc.length (rcs acc) hs O.own hx hK
theorem OwnD.src {B0 B:Nat} {w w':World} {ao:Option Addr} {cap:Nat} {acc:List Rn} (O:OwnD B0 B w w' ao cap acc) (hl:acc.length <= 8796093022207):RSrc w' ao acc.length cap acc/\∀ ad,ao=some ad -> B <= ad.block:=by
 rcases O.own.2 with ⟨h0,h00⟩ | ⟨g,cap2,cur,hv,hbg,hgg,hnc,hcm,hcsz,htake⟩
 ·simp only [Value.slice.injEq] at h0;obtain ⟨rfl,e0,rfl⟩:=h0;exact ⟨⟨rfl,fun _=>⟨h00,rfl⟩,(fun ad h=>by cases h),by omega,Nat.zero_le _,hl⟩,fun ad h=>(by cases h)⟩
 ·simp only [Value.slice.injEq,true_and] at hv;obtain ⟨rfl,rfl⟩:=hv
  have cell:∀ t j,t < acc.length -> j < 2 -> w'.cell? ⟨g,t * 2+j,none⟩=(RC (acc.getD t rn0)).toList[j]?:=fun t j ht hj=>by
   rw [O.own.cellAt (t * 2+j) (by omega),yh _ t j ht hj]
  refine ⟨⟨rfl,fun h=>(by cases h),fun ad h t ht=>?_,hnc,hcm,hl⟩,fun ad h=>by obtain rfl:=Option.some.inj h;exact hbg⟩;obtain rfl:=Option.some.inj h;refine ⟨?_,?_⟩
  ·rw [Addr.add_lit,Nat.zero_add];exact cell t 0 ht (by omega)
  ·rw [Addr.add_lit,Addr.add_lit,Nat.zero_add];exact cell t 1 ht (by omega)
theorem OwnD.appendS {B0 B:Nat} {w w':World} {ao:Option Addr} {cap:Nat} {acc:List Rn} (O:OwnD B0 B w w' ao cap acc) (E:List Rn) (xo:Option Addr) (m c:Nat) (S:RSrc w' xo m c E) (hlen:acc.length+m <= 8796093022207)
  {ops:Array Oper} {rest:List Oper} {o:Oper} {a:Act} {Q:Exit -> Act -> World -> Prop} (hgd:o.guard=none) (s x:Operand) (ho:o.op = .call { callee:=.builtin .append,args:=#[s,x],argTypes:=#[32,32] })
  (n:Nat) (hn:acc.length=n) (hs:a.eval s = .slice ao n cap) (hx:a.eval x = .slice xo m c)
  (hK:∀ (ao2:Option Addr) (cap2:Nat) (w2:World),OwnD B0 B w w2 ao2 cap2 (acc++E) -> wpList Tryz.prog ops Q rest (a.put o.dst (.slice ao2 (n+m) cap2)) w2) :
  wpList Tryz.prog ops Q (o :: rest) a w':=by
 cases xo with
 | some ad=>exact O.append E ad m c S.len (fun t ht=>S.cell ad rfl t ht) hlen hgd s x ho n hn hs hx hK
 | none =>
  obtain ⟨rfl,rfl⟩:=S.nil rfl;have e:=List.eq_nil_of_length_eq_zero S.len;subst e;refine O.appendNone hgd s x ho n hn hs hx ?_;have:=hK ao cap w';rw [List.append_nil,Nat.add_zero] at this;exact this O
theorem zeD (w:World):OwnD w.heap.size w.heap.size w (w.alloc (.cells #[] 48)) (some ⟨w.heap.size,0,none⟩) 0 []:=
 ⟨World.ownsRow_made w #[] 0 (Nat.le_refl _) (Nat.zero_le _) rfl,ze w _,by simp,Nat.le_refl _⟩
end
section
open Go.RowKit
attribute [local go_sem ↓] zr zq zD zC qh qg
attribute [local go_sem] zi zk zl zp zF zQ zW qp
structure Fc where
 ao:Option Addr
 an:Nat
 ac:Nat
 es:List K.En
 p:Pv
 ro:Option Addr
 rn:Nat
 rc:Nat
 rs:List Rc
def mkF (f:Fc):FacV:=⟨f.ao,f.an,f.ac,f.p.vo,f.p.vn,f.p.vc,f.p.co,f.p.cn,f.p.cc,f.ro,f.rn,f.rc⟩
structure FcOk (w:World) (f:Fc):Prop where
 es:K.ESrc w f.ao f.an f.ac f.es
 p:PSrc w f.p
 rs:RcS w f.ro f.rn f.rc f.rs
theorem FcOk.below {w w':World} {f:Fc} (h:FcOk w f) (hb:Below w.heap.size w w'):FcOk w' f:=⟨h.es.below hb,h.p.below hb,h.rs.below hb⟩
theorem FaBox.cs {w:World} {g:Nat} {f:Fc} (h:FaBox w g (mkF f)):w.cell? ⟨g,0,none⟩=some (.slice f.ao f.an f.ac)/\w.cell? ⟨g,3,none⟩=some (.slice f.ro f.rn f.rc):=⟨h.c0,h.c3⟩
theorem FaBox.past {w:World} {g:Nat} {f:Fc} (h:FaBox w g (mkF f)):PAt w ⟨g,1,none⟩ f.p:=⟨h.c1,h.c2⟩
def FormF (f:Fc):Prop:=K.okN f.es f.an=true/\InForm f.p.P/\OkR f.rs f.rn
def OneA (f:Fc):Prop:=(f.an=0/\f.rn=0)∨(f.an=1/\f.rn=0/\∃ k,LastOf f.p.P (f.es.getD 0 K.en0).rep k/\k < (f.es.getD 0 K.en0).num)∨(f.an=0/\f.rn=1/\EmptyP f.p.P)
def EvOf (f:Fc) (x:Int):Prop:=(¬ FormF f/\x=1)∨(FormF f/\¬ OneA f/\x=2)∨(FormF f/\OneA f/\x=0)
def NoneF (f:Fc):Prop:=f.an=0/\f.rn=0/\EmptyP f.p.P
end
end Go.Proofs.YtjffpimfngdggaaGreat
namespace Go.Proofs
open Go.Shelf
def Tryz.sortD_ren:Go.Shelf.Ren:=⟨fun | 6=>152 | 15=>160 | 14=>189 | 28=>201 | 29=>202 | 20=>219 | 21=>220 | 22=>221 | 23=>222 | 24=>223 | 25=>224 | 26=>225 | 27=>226 | 46=>245 | 47=>228 | 48=>229 | 49=>246 | 50=>247 | 57=>253 | n=>n,fun | 22=>32 | 24=>48 | 25=>193 | 3=>3 | 39=>201 | 0=>0 | 53=>230 | 55=>232 | 4=>4 | 46=>223 | 45=>222 | 50=>174 | 5=>5 | 9=>9 | 66=>247 | 70=>251 | 76=>263 | 77=>132 | n=>n,fun | n=>n⟩
theorem Tryz.sortD:Go.Proofs.SlLaysF0.n6 Tryz.prog Tryz.sortD_ren:={
 mixed:=by kernel_rfl
 f6:=⟨Tryz.f152.name,by decide,Tryz.func152.trans (congrArg some (by kernel_rfl))⟩
 f14:=⟨Tryz.f189.name,by decide,Tryz.func189.trans (congrArg some (by kernel_rfl))⟩
 f15:=Tryz.func160.trans (congrArg some (by kernel_rfl))
 f20:=⟨Tryz.f219.name,by decide,Tryz.func219.trans (congrArg some (by kernel_rfl))⟩
 f21:=⟨Tryz.f220.name,by decide,Tryz.func220.trans (congrArg some (by kernel_rfl))⟩
 f22:=⟨Tryz.f221.name,by decide,Tryz.func221.trans (congrArg some (by kernel_rfl))⟩
 f23:=⟨Tryz.f222.name,by decide,Tryz.func222.trans (congrArg some (by kernel_rfl))⟩
 f24:=⟨Tryz.f223.name,by decide,Tryz.func223.trans (congrArg some (by kernel_rfl))⟩
 f25:=⟨Tryz.f224.name,by decide,Tryz.func224.trans (congrArg some (by kernel_rfl))⟩
 f26:=⟨Tryz.f225.name,by decide,Tryz.func225.trans (congrArg some (by kernel_rfl))⟩
 f27:=⟨Tryz.f226.name,by decide,Tryz.func226.trans (congrArg some (by kernel_rfl))⟩
 f28:=Tryz.func201.trans (congrArg some (by kernel_rfl))
 f29:=Tryz.func202.trans (congrArg some (by kernel_rfl))
 f46:=⟨Tryz.f245.name,by decide,Tryz.func245.trans (congrArg some (by kernel_rfl))⟩
 f47:=Tryz.func228.trans (congrArg some (by kernel_rfl))
 f48:=Tryz.func229.trans (congrArg some (by kernel_rfl))
 f49:=⟨Tryz.f246.name,by decide,Tryz.func246.trans (congrArg some (by kernel_rfl))⟩
 f50:=⟨Tryz.f247.name,by decide,Tryz.func247.trans (congrArg some (by kernel_rfl))⟩
 f57:=⟨Tryz.f253.name,by decide,Tryz.func253.trans (congrArg some (by kernel_rfl))⟩
 t0:=Tryz.underlying0
 a0:=Tryz.isAgg0
 z0:=Tryz.sizeOf0
 v0:=Tryz.zeroValue0
 t3:=Tryz.underlying3
 a3:=Tryz.isAgg3
 z3:=Tryz.sizeOf3
 v3:=Tryz.zeroValue3
 t4:=Tryz.underlying4
 a4:=Tryz.isAgg4
 z4:=Tryz.sizeOf4
 v4:=Tryz.zeroValue4
 t5:=Tryz.underlying5
 a5:=Tryz.isAgg5
 z5:=Tryz.sizeOf5
 v5:=Tryz.zeroValue5
 t9:=Tryz.underlying9
 a9:=Tryz.isAgg9
 z9:=Tryz.sizeOf9
 v9:=Tryz.zeroValue9
 t22:=Tryz.underlying32
 a22:=Tryz.isAgg32
 z22:=Tryz.sizeOf32
 v22:=Tryz.zeroValue32
 t25:=Tryz.underlying193
 a25:=Tryz.isAgg193
 z25:=Tryz.sizeOf193
 v25:=Tryz.zeroValue193
 t39:=Tryz.underlying201
 a39:=Tryz.isAgg201
 z39:=Tryz.sizeOf201
 v39:=Tryz.zeroValue201
 t45:=Tryz.underlying222
 a45:=Tryz.isAgg222
 z45:=Tryz.sizeOf222
 v45:=Tryz.zeroValue222
 t46:=Tryz.underlying223
 a46:=Tryz.isAgg223
 z46:=Tryz.sizeOf223
 v46:=Tryz.zeroValue223
 t50:=Tryz.underlying174
 a50:=Tryz.isAgg174
 z50:=Tryz.sizeOf174
 v50:=Tryz.zeroValue174
 t53:=Tryz.underlying230
 a53:=Tryz.isAgg230
 z53:=Tryz.sizeOf230
 v53:=Tryz.zeroValue230
 t55:=Tryz.underlying232
 a55:=Tryz.isAgg232
 z55:=Tryz.sizeOf232
 v55:=Tryz.zeroValue232
 t66:=Tryz.underlying247
 a66:=Tryz.isAgg247
 z66:=Tryz.sizeOf247
 v66:=Tryz.zeroValue247
 t70:=Tryz.underlying251
 a70:=Tryz.isAgg251
 z70:=Tryz.sizeOf251
 v70:=Tryz.zeroValue251
 t76:=Tryz.underlying263
 a76:=Tryz.isAgg263
 z76:=Tryz.sizeOf263
 v76:=Tryz.zeroValue263
 t77:=Tryz.underlying132
 a77:=Tryz.isAgg132
 z77:=Tryz.sizeOf132
 v77:=Tryz.zeroValue132 }
end Go.Proofs
