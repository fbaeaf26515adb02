/- LChk Gsc GRr GKc SQl SLt PLs PDk GFc Shd -/
import Derived.Test.YtjffpimfngdggaaGreatFf11
import Derived.Shelf.Small.Strs
import Derived.Laws.AppendOwnNone
import Derived.Shelf.SlSortCmp.WholeK
set_option maxRecDepth 100000
set_option maxHeartbeats 3200000
namespace Go.Proofs.YtjffpimfngdggaaGreat.K
open Go.RowKit
attribute [local go_sem ↓] zy zx
attribute [local go_sem] zJ zu
def okAt (L:List En) (k:Nat):Bool:=ceE (L.getD k en0) == 0 && (decide (k=0) || ahead (L.getD (k - 1) en0) (L.getD k en0))
def okN (L:List En) (k:Nat):Bool:=(List.range k).all (okAt L)
def chk (L:List En):Int:=if okN L L.length=true then 0 else 1
theorem ws (L:List En) (k:Nat):okN L (k+1)=(okN L k && okAt L k):=by unfold okN;rw [List.range_succ,List.all_append];simp
theorem ze2 (L:List En) (k n:Nat) (h:k < n) (hs:okAt L k=false):okN L n=false:=by
 unfold okN;rw [List.all_eq_false];exact ⟨k,by simpa using h,by rw [hs];simp⟩
theorem zf0 (x y:En):decide (0 <= byD x y) = !ahead x y:=by
 unfold byD ahead or2 az;by_cases h1:x.rep < y.rep
 ·simp [h1]
 ·by_cases h2:y.rep < x.rep
  ·have:¬ x.rep=y.rep:=by omega
   simp [h1,h2,this]
  ·have:x.rep=y.rep:=by omega
   by_cases h3:x.num < y.num
   ·simp [this,h3]
   ·by_cases h4:y.num < x.num
    ·simp [this,h3,h4]
    ·simp [this,h3,h4]

theorem qx (ao:Option Addr) (n cap:Nat) (L:List En) (w:World) (hS:aD w ao n cap L) :
  Calls Tryz.prog 57 #[.slice ao n cap] w fun e w'=>e = .returned (.int .i64 (chk L))/\Below w.heap.size w w':=by
 have HS:=hide hS;have hn:=hS.2.2.2.2;have HL:Hid (L.length=n):=hS.1;clear hS;go_enter Tryz.func57,Tryz.ntmps57;go_wp2_with fail;go_loopw [7] (fun i wr=>∃ k:Nat,k <= n/\i = .int .i64 k/\Hid (okN L k=true)/\Hid (Below w.heap.size w wr)) (fun i _=>n - (intOf i).toNat)
 case atStart=>exact ⟨0,Nat.zero_le _,rfl,rfl,Below.refl _ _⟩
 case round =>
  obtain ⟨k,hk,rfl,HK,HB⟩:=hrel;by_cases ak:k < n
  ·obtain ⟨ad,rfl,A0⟩:=(HS.below HB).at k ak;have dF:=zB A0;obtain ⟨e,He⟩:∃ e,Hid (L.getD k en0=e):=⟨_,rfl⟩;have ic:=HS.sku k ak;rw [He.out] at dF ic A0;obtain ⟨w1,cd,X1,B1,Z1⟩:=made wr e wr.heap.size rfl;have HX:=hide X1;have aM:=hide B1;have u2:=hide ic;clear X1 B1 ic A0
   have le:∀ d os,(dJ (.pointer (some ⟨wr.heap.size,0,none⟩))).run Tryz.prog (Sort.grow (redrawn w1 d) os) = .ok (EV e) (Sort.grow (redrawn w1 d) os):=fun d os=>zB (HX.below (below_regrown w1 d os)).at
   obtain ⟨c,Hc⟩:∃ c,Hid (ceE e=c):=⟨_,rfl⟩
   have cE:∀ d os,Calls Tryz.prog 103 #[EV e] (Sort.grow (redrawn w1 d) os) fun x w''=>x = .returned (.int .i64 c)/\∃ p:Regrown,w''=Sort.grow (redrawn w1 p.d) p.os:=fun d os=>by
    have:=zaU e (Sort.grow (redrawn w1 d) os) u2.out;rw [Hc.out] at this;exact Calls.regrown_of this
   by_cases h0:c=0
   ·have mS:(c != 0)=false:=by simpa using h0
    by_cases gL:k=0
    ·have HN:Hid (okN L (k+1)=true):=by show _=_;rw [ws,HK.out];unfold okAt;rw [He.out,Hc.out,h0];simp [gL]
     subst gL;rw [Nat.zero_mul,add_zero] at dF;clear h0;go_wp2_with fail;refine wp_region_quiet_below (by kernel_rfl) (by kernel_rfl) ?_
     repeat (with_reducible (refine wpQuiet_step ?_);intro K hK;go_simp;(try rw [if_neg (by unfold undef;simp)]);first | (with_reducible (refine hK _ ?_);clear hK K) | (apply Exists.intro;refine ⟨fun _=>?_,hK _ ?_⟩;(go_at_call 103;exact cE _ _);clear hK K))
     with_reducible (refine wpQuiet_nil ?_)
     intro _ hw';obtain ⟨⟨dq,osq⟩,hw''⟩:=hw';subst hw'';have fk:Hid (Below w.heap.size w (Sort.grow (redrawn w1 dq) osq)):=(HB.trans (aM.mono HB.size)).trans ((below_regrown w1 dq osq).mono (Nat.le_trans HB.size (by rw [Z1];omega)));go_wp2_with fail;go_roundw
     case rel=>exact ⟨0+1,by omega,by go_num,HN,fk⟩
     case measure=>simp [intOf];omega
    ·have iU:decide ((0:Int) < (k:Int))=true:=decide_eq_true (by omega)
     have tE:0 < k:=by omega
     obtain ⟨j,hj⟩:∃ j,k - 1=j:=⟨_,rfl⟩
     have hz:IntKind.i64.wrap ((k:Int) - 1)=(j:Int):=by rw [IntKind.wrap_i64];omega
     have m8:j < n:=by omega
     have A1:=((HS.below HB).2.2.1 ad rfl j (by omega)).on aM.out;obtain ⟨e1,KF⟩:∃ e1,Hid (L.getD j en0=e1):=⟨_,rfl⟩;rw [KF.out] at A1;have ts:=hide A1;clear A1;have l1:∀ d os,(dJ (.pointer (some (ad.add (j * 4))))).run Tryz.prog (Sort.grow (redrawn w1 d) os) = .ok (EV e1) (Sort.grow (redrawn w1 d) os):=fun d os=>zB (ts.on (below_regrown w1 d os));obtain ⟨q,Hq⟩:∃ q,Hid (byD e1 e=q):=⟨_,rfl⟩
     have cD:∀ d os,Calls Tryz.prog 104 #[EV e1,EV e] (Sort.grow (redrawn w1 d) os) fun x w''=>x = .returned (.int .i64 q)/\∃ p:Regrown,w''=Sort.grow (redrawn w1 p.d) p.os:=fun d os=>by
      have:=zhH e1 e (Sort.grow (redrawn w1 d) os);rw [Hq.out] at this;exact Calls.regrown_of this
     have hq:=zf0 e1 e;rw [Hq.out] at hq
     have lH:okAt L k=ahead e1 e:=by unfold okAt;rw [He.out,Hc.out,h0,hj,KF.out];simp [gL]
     clear h0 gL;by_cases h1:0 <= q
     ·have HF:Hid (chk L=1):=by
       show _=_;unfold chk;rw [ze2 L k _ (by rw [HL.out];exact ak) (by rw [lH];simpa [h1] using hq)];rfl
      clear hq lH;go_wp2_with fail;refine wp_region_quiet_below (by kernel_rfl) (by kernel_rfl) ?_
      repeat (with_reducible (refine wpQuiet_step ?_);intro K hK;go_simp;(try rw [if_neg (by unfold undef;simp)]);first | (with_reducible (refine hK _ ?_);clear hK K) | (apply Exists.intro;refine ⟨fun _=>?_,hK _ ?_⟩;(first | (go_at_call 103;exact cE _ _) | (go_at_call 104;exact cD _ _));clear hK K))
      with_reducible (refine wpQuiet_nil ?_)
      intro _ hw';obtain ⟨⟨dq,osq⟩,hw''⟩:=hw';subst hw'';have fk:Hid (Below w.heap.size w (Sort.grow (redrawn w1 dq) osq)):=(HB.trans (aM.mono HB.size)).trans ((below_regrown w1 dq osq).mono (Nat.le_trans HB.size (by rw [Z1];omega)));go_wp2_with fail;go_ret;exact ⟨zK HF.symm,fk.out⟩
     ·have HN:Hid (okN L (k+1)=true):=by show _=_;rw [ws,HK.out,lH];simpa [h1] using hq
      clear hq lH;go_wp2_with fail;refine wp_region_quiet_below (by kernel_rfl) (by kernel_rfl) ?_
      repeat (with_reducible (refine wpQuiet_step ?_);intro K hK;go_simp;(try rw [if_neg (by unfold undef;simp)]);first | (with_reducible (refine hK _ ?_);clear hK K) | (apply Exists.intro;refine ⟨fun _=>?_,hK _ ?_⟩;(first | (go_at_call 103;exact cE _ _) | (go_at_call 104;exact cD _ _));clear hK K))
      with_reducible (refine wpQuiet_nil ?_)
      intro _ hw';obtain ⟨⟨dq,osq⟩,hw''⟩:=hw';subst hw'';have fk:Hid (Below w.heap.size w (Sort.grow (redrawn w1 dq) osq)):=(HB.trans (aM.mono HB.size)).trans ((below_regrown w1 dq osq).mono (Nat.le_trans HB.size (by rw [Z1];omega)));go_wp2_with fail;go_roundw
      case rel=>exact ⟨k+1,by omega,by go_num,HN,fk⟩
      case measure=>simp [intOf];omega
   ·have mS:(c != 0)=true:=by simpa using h0
    have HF:Hid (chk L=1):=by
     show _=_;unfold chk;rw [ze2 L k _ (by rw [HL.out];exact ak) (by unfold okAt;rw [He.out,Hc.out];simp [h0])];rfl
    clear h0;go_wp2_with fail;refine wp_region_quiet_below (by kernel_rfl) (by kernel_rfl) ?_
    repeat (with_reducible (refine wpQuiet_step ?_);intro K hK;go_simp;(try rw [if_neg (by unfold undef;simp)]);first | (with_reducible (refine hK _ ?_);clear hK K) | (apply Exists.intro;refine ⟨fun _=>?_,hK _ ?_⟩;(go_at_call 103;exact cE _ _);clear hK K))
    with_reducible (refine wpQuiet_nil ?_)
    intro _ hw';obtain ⟨⟨dq,osq⟩,hw''⟩:=hw';subst hw'';have fk:Hid (Below w.heap.size w (Sort.grow (redrawn w1 dq) osq)):=(HB.trans (aM.mono HB.size)).trans ((below_regrown w1 dq osq).mono (Nat.le_trans HB.size (by rw [Z1];omega)));go_wp2_with fail;go_ret;exact ⟨zK HF.symm,fk.out⟩
  ·obtain rfl:k=n:=by omega
   have HF:Hid (chk L=0):=by show _=_;unfold chk;rw [HL.out,HK.out];rfl
   go_wp2_with fail;go_ret;exact ⟨zK HF.symm,HB.out⟩
end Go.Proofs.YtjffpimfngdggaaGreat.K
namespace Go.Proofs
open Go.Shelf
def Tryz.lays106_ren:Go.Shelf.Ren:=⟨fun | 106=>163 | 213=>203 | 265=>233 | n=>n,fun | 9=>9 | 3=>3 | n=>n,fun | n=>n⟩
theorem Tryz.lays106:Go.Proofs.Lays.n106 Tryz.prog Tryz.lays106_ren:={
 mixed:=by kernel_rfl
 f106:=Tryz.func163.trans (congrArg some (by kernel_rfl))
 f213:=Tryz.func203.trans (congrArg some (by kernel_rfl))
 f265:=Tryz.func233.trans (congrArg some (by kernel_rfl))
 t3:=Tryz.underlying3
 a3:=Tryz.isAgg3
 z3:=Tryz.sizeOf3
 v3:=Tryz.zeroValue3
 t9:=Tryz.underlying9
 a9:=Tryz.isAgg9
 z9:=Tryz.sizeOf9
 v9:=Tryz.zeroValue9 }
theorem Tryz.strings_Compare (a b:ByteArray) (w:World) :
  Calls Tryz.prog 163 #[.string a,.string b] w fun e w'=>e = .returned (.int .i64 (Lib.compareBytes a.data.toList b.data.toList))/\w'=w:=Any.strings_Compare Tryz.lays106 a b w
end Go.Proofs
namespace Go.Proofs.YtjffpimfngdggaaGreat
section
open Go.RowKit
attribute [local go_sem ↓] zq zp qf qe
attribute [local go_sem] zi zk zL zS
structure Rc where
 s:ByteArray
 p:Pv
def rc0:Rc:=⟨⟨#[]⟩,pv0⟩
def mkR (r:Rc):fi:=⟨r.s,r.p.vo,r.p.vn,r.p.vc,r.p.co,r.p.cn,r.p.cc⟩
theorem cg.sk {w:World} {g:Nat} {r:Rc} (h:cg w g (mkR r)):w.cell? ⟨g,0,none⟩=some (.string r.s):=h.c0
theorem cg.past {w:World} {g:Nat} {r:Rc} (h:cg w g (mkR r)):PAt w ⟨g,1,none⟩ r.p:=⟨h.c1,h.c2⟩
def cM (w:World) (r:Rc):Prop:=am w r.p/\r.s.size <= maxLen
theorem cM.below {w w':World} {r:Rc} (h:cM w r) (hb:Below w.heap.size w w'):cM w' r:=⟨h.1.below hb,h.2⟩
def gW (P:Pst):Prop:=∀ r,r < 16 -> ∀ n,¬ mem (aa P r) n
def fH (s:ByteArray):Bool:=decide (s.size=0) || K.eQ s.data.toList
def mc (P:Pst):Prop:=ag P/\¬ gW P
theorem zgI (F:Value) (w:World):Calls Tryz.prog 87 #[.slice none 0 0,F] w fun e w'=>e = .returned (.slice none 0 0)/\Below w.heap.size w w':=by
 go_enter Tryz.func87,Tryz.ntmps87;go_wp2_with fail;go_loopw [5,10] (fun o i wr=>o = .slice none 0 0/\i = .int .i64 0/\wr=w) (fun _ _ _=>0)
 case atStart=>exact ⟨rfl,rfl,rfl⟩
 case round =>
  obtain ⟨rfl,rfl,rfl⟩:=hrel;go_wp2_with fail;go_ret;exact ⟨rfl,Below.refl _ _⟩
def ofE (s:ByteArray):Int:=if K.eQ s.data.toList=true then 0 else 5
theorem zdp (w:World):K.aD w none 0 0 []:=⟨rfl,fun _=>⟨rfl,rfl⟩,(fun ad h=>by cases h),(fun e h=>by cases h),by decide⟩
theorem zjq (s:ByteArray) (w:World) (hs:s.size <= maxLen):Calls Tryz.prog 47 #[.slice none 0 0,.string s] w fun e w'=>∃ x,e = .returned (.tuple #[.slice none 0 0,.int .i64 x])/\x=ofE s/\Below w.heap.size w w':=by
 have b1:=ze w (.cells #[.string s] 9);obtain ⟨wk,aL⟩:∃ wk,w.alloc (.cells #[.string s] 9)=wk:=⟨_,rfl⟩
 have c1:wk.cell? ⟨w.heap.size,0,none⟩=some (.string s):=by rw [<- aL];have h:=heap_alloc_new w (.cells #[.string s] 9);simp only [World.cell?,h];rfl
 rw [aL] at b1;have HB:=hide b1;clear b1;go_enter Tryz.func47,Tryz.ntmps47;go_wp2_with fail;clear aL;refine (K.qx none 0 0 [] _ (zdp _)).mono ?_;rintro e w2 ⟨rfl,b2⟩;have c2:=(b2.cell (World.block_lt_of_cell? _ _ c1)).trans c1;have cu:=wTr HB b2;clear b2 c1;rw [show K.chk []=0 from rfl];go_wp2_with fail;refine (K.jN s _ hs).mono ?_;rintro e w' ⟨rfl,rfl⟩
 cases hg:K.eQ s.data.toList with
 | false =>
  have HE:Hid (5=ofE s):=by show _=_;unfold ofE;rw [hg];rfl
  clear hg;go_wp2_with fail;go_ret2;exact ⟨5,rfl,HE.out,cu.out⟩
 | true =>
  have HE:Hid (0=ofE s):=by show _=_;unfold ofE;rw [hg];rfl
  clear hg;go_wp2_with fail;refine (zgI _ _).mono ?_;rintro e w3 ⟨rfl,b3⟩;have aw:=wTr cu b3;clear b3 c2;go_wp2_with fail;go_ret2;exact ⟨0,rfl,HE.out,aw.out⟩
theorem wh (s:ByteArray) (w:World) (hs:s.size <= maxLen):Calls Tryz.prog 162 #[.string s] w fun e w'=>e = .returned (.bool (fH s))/\Below w.heap.size w w':=by
 go_enter Tryz.func162,Tryz.ntmps162;go_wp2_with fail;refine (zjq s _ hs).mono ?_;rintro e w2 ⟨x,rfl,hx,b2⟩;have cu:=hide b2;clear b2;by_cases h0:s.size=0
 ·have e0:=K.jc s h0
  have HR:Hid (fH s=true):=by show _=_;unfold fH;rw [decide_eq_true h0,Bool.true_or]
  clear h0 hx;go_wp2_with fail;go_ret;exact ⟨by rw [HR.out];rfl,cu.out⟩
 ·have e0:=K.jP s h0
  have HR:Hid (fH s=K.eQ s.data.toList):=by show _=_;unfold fH;rw [decide_eq_false h0,Bool.false_or]
  cases hg:K.eQ s.data.toList with
  | true =>
   rw [hg] at HR
   obtain rfl:x=0:=by rw [hx];unfold ofE;rw [hg];rfl
   clear h0 hx hg;go_wp2_with fail;go_ret;exact ⟨by rw [HR.out];rfl,cu.out⟩
  | false =>
   rw [hg] at HR
   obtain rfl:x=5:=by rw [hx];unfold ofE;rw [hg];rfl
   clear h0 hx hg;go_wp2_with fail;go_ret;exact ⟨by rw [HR.out];rfl,cu.out⟩
def fu (r:Rc) (x:Int):Prop:=(fH r.s=false/\x=5)∨(fH r.s=true/\¬ mc r.p.P/\x=1)∨(fH r.s=true/\mc r.p.P/\x=0)
theorem fu.zero {r:Rc} {x:Int} (h:fu r x):x=0↔(fH r.s=true/\mc r.p.P):=by
 rcases h with ⟨h1,rfl⟩ | ⟨h1,h2,rfl⟩ | ⟨h1,h2,rfl⟩
 ·simp [h1]
 ·simp [h2]
 ·simp [h1,h2]
theorem j4 (r:Rc) (w:World) (hR:cM w r):Calls Tryz.prog 111 #[ReV (mkR r)] w fun e w'=>cH w w' e (fu r):=by
 have HX:=hide (qi w (mkR r));have al:=hide (ze w (.cells (ReC (mkR r)) 78));have HS:=hide (hR.1.below al);have hs:=hR.2;clear hR;obtain ⟨wk,aL⟩:∃ wk,w.alloc (.cells (ReC (mkR r)) 78)=wk:=⟨_,rfl⟩;obtain ⟨G,hG⟩:∃ G,w.heap.size=G:=⟨_,rfl⟩;rw [aL] at HX al HS;rw [hG] at HX;have c0:=HX.sk;go_enter Tryz.func111,Tryz.ntmps111;go_wp2_with fail;clear aL;refine (wh r.s _ hs).mono ?_;rintro e w2 ⟨rfl,b2⟩;have cu:=wTr al b2;have eS:=hide (HX.below b2);have dZ:=hide (HS.below b2);clear b2 c0
 cases hg:fH r.s with
 | false =>
  have HE:Hid (fu r 5):=.inl ⟨hg,rfl⟩;clear hg;go_wp2_with fail;go_ret;exact ⟨_,rfl,HE.out,cu.out⟩
 | true =>
  have HG:=hide hg;clear hg;have l2:=zj eS.past;go_wp2_with fail;refine (xd r.p _ dZ).mono ?_;rintro e w3 ⟨b,rfl,hb,b3⟩;have aw:=wTr cu b3;have dh:=hide (eS.below b3);have mn:=hide (dZ.below b3);clear b3 l2
  cases b with
  | false =>
   have HE:Hid (fu r 1):=.inr (.inl ⟨HG.out,fun h=>(by have:=hb.2 h.1;cases this),rfl⟩);clear hb;go_wp2_with fail;go_ret;exact ⟨_,rfl,HE.out,aw.out⟩
  | true =>
   have HF:Hid (ag r.p.P):=hb.1 rfl;clear hb;have l3:=zj dh.past;go_wp2_with fail;refine (jJ r.p _ mn).mono ?_;rintro e w4 ⟨b,rfl,hb,b4⟩;have aI:=wTr aw b4;clear b4 l3
   cases b with
   | true =>
    have HE:Hid (fu r 1):=.inr (.inl ⟨HG.out,fun h=>h.2 (hb.1 rfl),rfl⟩);clear hb;go_wp2_with fail;go_ret;exact ⟨_,rfl,HE.out,aI.out⟩
   | false =>
    have HE:Hid (fu r 0):=.inr (.inr ⟨HG.out,⟨HF.out,fun h=>(by have:=hb.2 h;cases this)⟩,rfl⟩);clear hb;go_wp2_with fail;go_ret;exact ⟨_,rfl,HE.out,aI.out⟩
def eZ (a b:ByteArray):Int:=Lib.compareBytes a.data.toList b.data.toList
def gl (a b:Rc) (z:Int):Prop:=(eZ a.s b.s≠0/\z=eZ a.s b.s)∨(eZ a.s b.s=0/\iN a.p.P b.p.P z)
theorem gl.unique {a b:Rc} {z z':Int} (h:gl a b z) (h':gl a b z'):z=z':=by
 rcases h with ⟨h1,h2⟩ | ⟨h1,h2⟩ <;> rcases h' with ⟨g1,g2⟩ | ⟨g1,g2⟩
 ·rw [h2,g2]
 ·exact absurd g1 h1
 ·exact absurd h1 g1
 ·exact h2.unique g2
theorem ja (a b:Rc) (w:World) (hA:cM w a) (hB:cM w b):Calls Tryz.prog 112 #[ReV (mkR a),ReV (mkR b)] w fun e w'=>cH w w' e (gl a b):=by
 have b1:=ze w (.cells (ReC (mkR a)) 78);have b2:=ze (w.alloc (.cells (ReC (mkR a)) 78)) (.cells (ReC (mkR b)) 78);have X2:=qi (w.alloc (.cells (ReC (mkR a)) 78)) (mkR b);rw [World.size_alloc] at X2;have dT:=hide ((qi w (mkR a)).below b2);have eN:=hide X2;have al:=hide (b1.trans (b2.mono b1.size));have iu:=hide (hA.1.below al);have gC:=hide (hB.1.below al);clear b1 b2 X2 hA hB;obtain ⟨wk,aL⟩:∃ wk,(w.alloc (.cells (ReC (mkR a)) 78)).alloc (.cells (ReC (mkR b)) 78)=wk:=⟨_,rfl⟩;obtain ⟨G,hG⟩:∃ G,w.heap.size=G:=⟨_,rfl⟩;rw [aL] at dT eN al iu gC;rw [hG] at dT eN;have c1:=dT.sk;have c2:=eN.sk;have l1:=zj dT.past;have l2:=zj eN.past;go_enter Tryz.func112,Tryz.ntmps112;go_wp2_with fail;clear aL;refine (Tryz.strings_Compare a.s b.s _).mono ?_;rintro e w' ⟨rfl,rfl⟩
 by_cases h0:eZ a.s b.s=0
 ·have HZ:=hide h0;rw [show Lib.compareBytes a.s.data.toList b.s.data.toList=0 from h0];clear h0;go_wp2_with fail;refine (yu a.p b.p _ iu.out gC).mono ?_;rintro e w2 ⟨k,rfl,hk,b2⟩;have HF:Hid (gl a b k/\Below w.heap.size w w2):=⟨.inr ⟨HZ.out,hk⟩,al.trans (b2.mono al.size)⟩;clear hk b2 l1 l2;go_wp2_with fail;go_ret;exact ⟨_,rfl,HF.1,HF.2⟩
 ·obtain ⟨z,hz⟩:∃ z,eZ a.s b.s=z:=⟨_,rfl⟩;have HF:Hid (gl a b z):=.inl ⟨h0,hz.symm⟩;rw [show Lib.compareBytes a.s.data.toList b.s.data.toList=z from hz]
  have cr:(z != 0)=true:=by rw [hz] at h0;simpa using h0
  clear h0 hz;go_wp2_with fail;go_ret;exact ⟨_,rfl,HF.out,al.out⟩
end
section
open Go.RowKit
attribute [local go_sem ↓] zq zp qf qe
attribute [local go_sem] zi zk zL zS
theorem qg:(#[.string ⟨#[]⟩,.slice none 0 0,.slice none 0 0]:Array Value)=ReC re0:=rfl
attribute [local go_sem] qg
structure RcS (w:World) (ao:Option Addr) (n cap:Nat) (L:List Rc):Prop where
 len:L.length=n
 nil:ao=none -> n=0
 at_:∀ ad,ao=some ad -> ∀ t,t < n -> iE w (ad.add (t * 3)) (mkR (L.getD t rc0))
 ok:∀ r∈L,cM w r
 big:n <= 2199023255552
theorem RcS.below {w w':World} {ao:Option Addr} {n cap:Nat} {L:List Rc} (h:RcS w ao n cap L) (hb:Below w.heap.size w w'):RcS w' ao n cap L:=
 ⟨h.len,h.nil,fun ad e t ht=>(h.at_ ad e t ht).on hb,fun r hr=>(h.ok r hr).below hb,h.big⟩
theorem RcS.at {w:World} {ao:Option Addr} {n cap:Nat} {L:List Rc} (h:RcS w ao n cap L) (k:Nat) (hk:k < n):∃ ad,ao=some ad/\iE w (ad.add (k * 3)) (mkR (L.getD k rc0)):=by
 cases ao with
 | none=>have:=h.nil rfl;omega
 | some ad=>exact ⟨ad,rfl,h.at_ ad rfl k hk⟩
theorem RcS.okAt {w:World} {ao:Option Addr} {n cap:Nat} {L:List Rc} (h:RcS w ao n cap L) (k:Nat) (hk:k < n):cM w (L.getD k rc0):=by
 have hl:=h.len;rw [List.getD_eq_getElem?_getD,List.getElem?_eq_getElem (by omega)];exact h.ok _ (List.getElem_mem _)
theorem RcS.empty (w:World):RcS w none 0 0 []:=⟨rfl,fun _=>rfl,(fun ad h=>by cases h),(fun r h=>by cases h),by decide⟩
def ch (r:Rc):Prop:=fH r.s=true/\mc r.p.P
def LtR (a b:Rc):Prop:=∃ z,gl a b z/\z < 0
def OkR (L:List Rc) (k:Nat):Prop:=∀ j,j < k -> ch (L.getD j rc0)/\(0 < j -> LtR (L.getD (j - 1) rc0) (L.getD j rc0))
theorem OkR.snoc {L:List Rc} {k:Nat} (h:OkR L k) (h1:ch (L.getD k rc0)) (h2:0 < k -> LtR (L.getD (k - 1) rc0) (L.getD k rc0)):OkR L (k+1):=by
 intro j hj;by_cases e:j=k
 ·subst e;exact ⟨h1,h2⟩
 ·exact h j (by omega)
theorem zau (L:List Rc):OkR L 0:=fun j hj=>absurd hj (Nat.not_lt_zero j)
def Cv (L:List Rc) (n:Nat) (x:Int):Prop:=(x=0/\OkR L n)∨(x=1/\¬ OkR L n)
theorem xp (ao:Option Addr) (n cap:Nat) (L:List Rc) (w:World) (hS:RcS w ao n cap L):Calls Tryz.prog 66 #[.slice ao n cap] w fun e w'=>cH w w' e (Cv L n):=by
 have HS:=hide hS;have hn:=hS.big;clear hS;go_enter Tryz.func66,Tryz.ntmps66;go_wp2_with fail;go_loopw [7] (fun i wr=>∃ k:Nat,k <= n/\i = .int .i64 k/\Hid (OkR L k)/\Hid (Below w.heap.size w wr)) (fun i _=>n - (intOf i).toNat)
 case atStart=>exact ⟨0,Nat.zero_le _,rfl,zau L,Below.refl _ _⟩
 case round =>
  obtain ⟨k,hk,rfl,HK,HB⟩:=hrel
  rename World=>wr
  by_cases ak:k < n
  ·obtain ⟨ad,rfl,A0⟩:=(HS.below HB).at k ak;have dF:=zC A0;have HO:=hide ((HS.below HB).okAt k ak);have mQ:=hide (HS.below HB);obtain ⟨r,Hr⟩:∃ r,Hid (L.getD k rc0=r):=⟨_,rfl⟩;rw [Hr.out] at dF HO;obtain ⟨gr,BQ⟩:∃ g,wr.heap.size=g:=⟨_,rfl⟩;obtain ⟨w1,cd,X1,B1,-⟩:=gt wr (mkR r) gr BQ;have HX:=hide X1;have aM:=wTr HB B1;have p5:=hide (HO.below B1);have nY:=hide (mQ.below B1);clear X1 B1 A0 HO mQ;have aK:=hide ak;by_cases gL:k=0
   ·have iU:decide (0 < k)=false:=by rw [decide_eq_false_iff_not];omega
    have BU:=hide gL;clear gL;go_wp2_with fail;clear cd dF;refine wp_region_held_drew (S:=fun v=>(dY (.pointer (some ⟨gr,0,none⟩))).run Tryz.prog v = .ok (.agg (ReC (mkR r))) v) (by kernel_rfl) (qK (HX.below (zf w1))) (fun hHeld=>?_);refine wU 0 ?_;refine wR 1 fun K hK=>?_;go_simp;go_wp2_with fail;refine (j4 r _ (p5.below (zf w1))).mono ?_;rintro e w2 ⟨x,rfl,hx,b2⟩;have uk:Below w1.heap.size w1 w2:=(zf w1).trans b2;have cu:=hide uk;refine hK.out _ _ (qK (HX.below (uk))) (fun hHeld=>?_);clear hK K b2;by_cases oA:x=0
    ·obtain rfl:=oA
     have oc:Hid (ch (L.getD k rc0)):=by rw [Hr.out];exact hx.zero.1 rfl
     clear hx;refine wU 2 ?_;refine wU 3 ?_;refine wU 4 ?_;refine wU 5 ?_;refine wU 6 ?_;refine wV 7 ?_;refine wV 8 ?_;refine wV 9 ?_;refine wV 10 ?_;refine wV 11 ?_;refine wV 12 ?_;refine wV 13 ?_;refine wV 14 ?_;refine wU 15 ?_;refine wU 16 ?_;refine wD ?_ _;clear hHeld;go_wp2_with fail;go_roundw
     case rel=>exact ⟨k+1,by omega,by simp,HK.snoc oc.out (fun h=>absurd h (by have:=BU.out;omega)),aM.trans (cu.mono aM.size)⟩
     case measure=>simp [intOf];omega
    ·have ib:Hid (¬ OkR L n):=fun h=>oA (hx.zero.2 (by have:=(h k aK).1;rw [Hr.out] at this;exact this))
     have LK:(x != 0)=true:=by simpa using oA
     clear hx oA;refine wU 2 ?_;refine wU 3 ?_;refine wV 4 ?_;refine wV 5 ?_;refine wV 6 ?_;refine wV 7 ?_;refine wV 8 ?_;refine wV 9 ?_;refine wV 10 ?_;refine wV 11 ?_;refine wV 12 ?_;refine wV 13 ?_;refine wV 14 ?_;refine wV 15 ?_;refine wU 16 ?_;refine wD ?_ _;clear hHeld;go_wp2_with fail;go_ret;exact ⟨_,rfl,.inr ⟨rfl,ib.out⟩,aM.trans (cu.mono aM.size)⟩
   ·obtain ⟨j,Hj⟩:∃ j,Hid (k=j+1):=⟨k - 1,(show k=k - 1+1 by omega)⟩
    have m8:j < n:=by have:=Hj.out;omega
    have Jv:IntKind.i64.wrap ((k:Int) - 1)=(j:Int):=by rw [IntKind.wrap_i64];have:=Hj.out;omega
    have iU:decide (0 < k)=true:=by rw [decide_eq_true_iff];omega
    obtain ⟨ad',e',Aj⟩:=nY.at j m8;obtain rfl:=Option.some.inj e';have Ad:=hide (nY.okAt j m8);obtain ⟨q,Hq⟩:∃ q,Hid (L.getD j rc0=q):=⟨_,rfl⟩;rw [Hq.out] at Aj Ad;have rA:=hide Aj;clear Aj e';go_wp2_with fail;clear cd dF;refine wp_region_held_drew (S:=fun v=>(dY (.pointer (some ⟨gr,0,none⟩))).run Tryz.prog v = .ok (.agg (ReC (mkR r))) v/\(dY (.pointer (some (ad.add (j * 3))))).run Tryz.prog v = .ok (.agg (ReC (mkR q))) v) (by kernel_rfl) (⟨qK (HX.below (zf w1)),zC (rA.on (zf w1))⟩) (fun hHeld=>?_);refine wU 0 ?_;refine wR 1 fun K hK=>?_;go_simp;go_wp2_with fail;refine (j4 r _ (p5.below (zf w1))).mono ?_;rintro e w2 ⟨x,rfl,hx,b2⟩;have uk:Below w1.heap.size w1 w2:=(zf w1).trans b2
    have cu:=hide uk;refine hK.out _ _ (⟨qK (HX.below (uk)),zC (rA.on (uk))⟩) (fun hHeld=>?_);clear hK K b2;by_cases oA:x=0
    ·obtain rfl:=oA
     have oc:Hid (ch (L.getD k rc0)):=by rw [Hr.out];exact hx.zero.1 rfl
     clear hx;refine wU 2 ?_;refine wU 3 ?_;refine wU 4 ?_;refine wU 5 ?_;refine wU 6 ?_;refine wU 7 ?_;refine wU 8 ?_;refine wU 9 ?_;refine wU 10 ?_;refine wU 11 ?_;refine wU 12 ?_;refine wR 13 fun K hK=>?_;go_simp;go_wp2_with fail;refine (ja q r _ (Ad.below uk) (p5.below uk)).mono ?_;rintro e w3 ⟨z,rfl,hz,b3⟩;have eo:Below w1.heap.size w1 w3:=cu.trans (b3.mono cu.size);have aw:=hide eo;refine hK.out _ _ (⟨qK (HX.below (eo)),zC (rA.on (eo))⟩) (fun hHeld=>?_);clear hK K b3 uk;by_cases cY:(0:Int) <= z
     ·have Ap:decide (0 <= z)=true:=decide_eq_true cY
      have ib:Hid (¬ OkR L n):=fun h=>by
       have h2:=(h k aK).2 (by have:=Hj.out;omega);rw [show k - 1=j by have:=Hj.out;omega,Hr.out,Hq.out] at h2;obtain ⟨z2,h3,h4⟩:=h2;have:=hz.unique h3;omega
      clear hz cY;refine wU 14 ?_;refine wU 15 ?_;refine wU 16 ?_;refine wD ?_ _;clear hHeld;go_wp2_with fail;go_ret;exact ⟨_,rfl,.inr ⟨rfl,ib.out⟩,aM.trans (aw.mono aM.size)⟩
     ·have Ap:decide (0 <= z)=false:=decide_eq_false cY
      have lW:Hid (0 < k -> LtR (L.getD (k - 1) rc0) (L.getD k rc0)):=fun _=>by
       rw [show k - 1=j by have:=Hj.out;omega,Hr.out,Hq.out];exact ⟨z,hz,by omega⟩
      clear hz cY;refine wU 14 ?_;refine wU 15 ?_;refine wU 16 ?_;refine wD ?_ _;clear hHeld;go_wp2_with fail;go_roundw
      case rel=>exact ⟨k+1,by omega,by simp,HK.snoc oc.out lW,aM.trans (aw.mono aM.size)⟩
      case measure=>simp [intOf];omega
    ·have ib:Hid (¬ OkR L n):=fun h=>oA (hx.zero.2 (by have:=(h k aK).1;rw [Hr.out] at this;exact this))
     have LK:(x != 0)=true:=by simpa using oA
     clear hx oA;refine wU 2 ?_;refine wU 3 ?_;refine wV 4 ?_;refine wV 5 ?_;refine wV 6 ?_;refine wV 7 ?_;refine wV 8 ?_;refine wV 9 ?_;refine wV 10 ?_;refine wV 11 ?_;refine wV 12 ?_;refine wV 13 ?_;refine wV 14 ?_;refine wV 15 ?_;refine wU 16 ?_;refine wD ?_ _;clear hHeld;go_wp2_with fail;go_ret;exact ⟨_,rfl,.inr ⟨rfl,ib.out⟩,aM.trans (cu.mono aM.size)⟩
  ·obtain rfl:k=n:=by omega
   go_wp2_with fail;go_ret;exact ⟨_,rfl,.inl ⟨rfl,HK.out⟩,HB.out⟩
end
section

def LS (P:Int -> Prop) (k:Int):Prop:=(k=0/\∀ n,¬ P n)∨(1 <= k/\P k/\∀ n,P n -> k <= n)
def JP (A:List Rn) (k:Int):Prop:=(k=0/\∀ n,¬ mem A n)∨(mem A k/\∀ n,mem A n -> n <= k)
def Ol (A:List Rn) (f:Int) (n:Int):Prop:=1 <= n/\n <= 1000000000/\¬ mem A n/\f <= n
end
section
open Go.RowKit
attribute [local go_sem ↓] kV kG
attribute [local go_sem] zR zz zM qp
end
section
open Go.RowKit
attribute [local go_sem ↓] zq zp vW vU zh9
attribute [local go_sem] jf xt zI zi qq zk qL
def sK (P:Pst) (r:Int) (k:Int):Prop:=(V.isR r=true/\JP (aa P r.toNat) k)∨(V.isR r=false/\k=0)
def JO (w w':World) (e:Ending) (P:Int -> Prop):Prop:=∃ k,e = .returned (.int .i64 k)/\P k/\Below w.heap.size w w'
end
section
open Go.RowKit

def ldD (v:Value):Sem Value:=Instr.loadAt 48 v
theorem zY (v:Value):Instr.loadAt 48 v=ldD v:=rfl
def stD (p v:Value):Sem Unit:=Instr.storeAt 48 p v
theorem zX (p v:Value):Instr.storeAt 48 p v=stD p v:=rfl
theorem ma:(Tryz.prog.info? 48).map (·.size)=some 2:=by kernel_rfl
theorem sT:(Tryz.prog.info? 48).map (fun i=>(i.zero,i.size,i.bytes))=some (some (.agg #[.int .i64 0,.int .i64 0]),2,16):=by kernel_rfl
theorem zG {w:World} {p:Addr} {r:Rn} (A:gk w p r):(ldD (.pointer (some p))).run Tryz.prog w = .ok (RV r) w:=by
 have hl:=run_loadCells_list (P:=Tryz.prog) (w:=w) p (RC r).toList (fun j v hv=>by
  match j,hv with
  | 0,hv=>cases hv;rw [add_zero];exact A.c0
  | 1,hv=>cases hv;exact A.c1
  | j+2,hv=>simp [RC] at hv)
 unfold ldD;simp only [Instr.loadAt,Instr.sureAddr,Sem.run_bind,Sem.run_pure,Result.andThen]
 cases hq:Tryz.prog.info? 48 with
 | none=>have:=ma;simp [hq] at this
 | some x =>
  have hs:x.size=2:=by have:=ma;simpa [hq] using this
  have ex:(isAgg 48).run Tryz.prog w = .ok true w:=by
   unfold isAgg;rw [Sem.run_bind,run_underlying Tryz.underlying48 w];rfl
  have e2:(RC r).toList.length=2:=rfl;rw [e2] at hl;simp [loadVar,Sem.run_bind,ex,sizeOf,typeInfo,hq,hs,hl,RV]
theorem zit {w:World} {g:Nat} {T:TypeId} {r r':Rn} (A:Box w g T r):(stD (.pointer (some ⟨g,0,none⟩)) (RV r')).run Tryz.prog w = .ok () (w.setRow g (RC r')):=by
 unfold stD;have h:=run_storeCells_from (P:=Tryz.prog) g T (RC r').toList 0 (RC r) w A (by simp [RC]) (j7 r')
 cases hq:Tryz.prog.info? 48 with
 | none=>have:=ma;simp [hq] at this
 | some x =>
  have hs:x.size=2:=by have:=ma;simpa [hq] using this
  simp only [Instr.storeAt,Instr.sureAddr,Sem.run_bind,Sem.run_pure,Result.andThen,storeVar,sizeOf,typeInfo,zz,zM];simp at h;simp [h,hq,hs]
theorem EX (w:World) (r:Rn) (g:Nat) (hg:w.heap.size=g):∃ w':World,(stD (.pointer (some ⟨g,0,none⟩)) (RV r)).run Tryz.prog (w.alloc (.cells (RC rn0) 48)) = .ok () w'/\Box w' g 48 r/\Below w.heap.size w w'/\w'.heap.size=w.heap.size+1:=by
 subst hg;refine ⟨_,zit (zQ w 48 rn0),(zQ w 48 rn0).setRow,zh (ze w _) (Nat.le_refl _),by simp [World.setRow]⟩
structure dX (B0 B:Nat) (w w':World) (ao:Option Addr) (cap:Nat) (acc:List Rn):Prop where
 own:w'.ownsRow B 48 2 (.slice ao acc.length cap) acc.length (rcs acc)
 below:Below B0 w w'
 hB:B <= w'.heap.size
 hB0:B0 <= B
theorem dX.later {B0 B:Nat} {w w' w2:World} {ao:Option Addr} {cap:Nat} {acc:List Rn} (O:dX B0 B w w' ao cap acc) (hb:Below w'.heap.size w' w2):dX B0 B w w2 ao cap acc:=by
 refine ⟨⟨O.own.1,?_⟩,O.below.trans (hb.mono (Nat.le_trans O.hB0 O.hB)),Nat.le_trans O.hB hb.size,O.hB0⟩;rcases O.own.2 with h | ⟨g,cap2,cur,hv,dU,dx,r⟩
 ·exact Or.inl h
 ·exact Or.inr ⟨g,cap2,cur,hv,dU,(hb.block g (Array.getElem?_eq_some_iff.1 dx).1).trans dx,r⟩
theorem zgE {w:World} {E:List Rn} {ad:Addr} (h:∀ t,t < E.length -> gk w (ad.add (t * 2)) (E.getD t rn0)) (j:Nat) (u:Value) (hj:(rcs E)[j]? = some u):w.cell? (ad.add j)=some u:=by
 have hl:j < E.length * 2:=by rw [<- qv];exact (List.getElem?_eq_some_iff.1 hj).1
 have ht:j / 2 < E.length:=by omega
 have e:=yq E (j / 2) (j % 2) ht (by omega);rw [show j / 2 * 2+j % 2=j by omega,hj] at e;have A:=h (j / 2) ht
 have h2:j % 2=0∨j % 2=1:=by omega
 rcases h2 with h2 | h2
 ·rw [h2] at e
  have e':u = .int .i64 (E.getD (j / 2) rn0).lo:=by simpa [RC] using e
  rw [e',show ad.add j=ad.add (j / 2 * 2) by rw [show j / 2 * 2=j by omega]];exact A.c0
 ·rw [h2] at e
  have e':u = .int .i64 (E.getD (j / 2) rn0).hi:=by simpa [RC] using e
  have:=A.c1;rw [qE,show j / 2 * 2+1=j by omega] at this;rw [e'];exact this
theorem dX.append {B0 B:Nat} {w w':World} {ao:Option Addr} {cap:Nat} {acc:List Rn} (O:dX B0 B w w' ao cap acc) (E:List Rn) (ad:Addr) (m c:Nat) (hm:E.length=m) (hE:∀ t,t < m -> gk w' (ad.add (t * 2)) (E.getD t rn0)) (cJ:acc.length+m <= 8796093022207)
  {ops:Array Oper} {rest:List Oper} {o:Oper} {a:Act} {Q:Exit -> Act -> World -> Prop} (hgd:o.guard=none) (s x:Operand) (ho:o.op = .call { callee:=.builtin .append,args:=#[s,x],argTypes:=#[32,32] })
  (n:Nat) (hn:acc.length=n) (hs:a.eval s = .slice ao n cap) (hx:a.eval x = .slice (some ad) m c)
  (hK:∀ (ao2:Option Addr) (cap2:Nat) (w2:World),dX B0 B w w2 ao2 cap2 (acc++E) -> wpList Tryz.prog ops Q rest (a.put o.dst (.slice ao2 (n+m) cap2)) w2) :
  wpList Tryz.prog ops Q (o :: rest) a w':=by
 subst hn hm;obtain ⟨i0,hi,cY,dw,eI⟩:=info_parts sT;have hB:=O.hB;have hB0:=O.hB0;refine wpList_append_own _ hgd s x 32 ho B 48 i0 (.agg #[.int .i64 0,.int .i64 0]) 2 16 Tryz.underlying32 hi cY dw eI rfl (by decide) _ acc.length (rcs acc) hs O.own ad E.length c (rcs E) hx (qv E) (fun j u hj=>zgE hE j u hj) (zcj E) (by unfold maxLen;omega) (by omega) hB ?_;intro v' w2 a7 aC _;have dH:∀ k,(Value.slice ao acc.length cap).ownBlock=some k -> B <= k:=fun k hk=>(O.own.lt k hk).1;have dE:=aC.size;have nK:Below B0 w w2:=O.below.grown aC (by omega) (fun k hk=>by have:=dH k hk;omega);rw [<- xx] at a7;rcases a7.2 with ⟨h0,fV⟩ | ⟨g,cap2,cur,hv,r⟩
 ·subst h0;have e1:acc=[]:=List.eq_nil_of_length_eq_zero (by omega);have e2:E=[]:=List.eq_nil_of_length_eq_zero (by omega);subst e1 e2;exact hK none 0 w2 ⟨a7,nK,by omega,hB0⟩
 ·subst hv;refine hK (some ⟨g,0,none⟩) cap2 w2 ⟨?_,nK,by omega,hB0⟩;rw [List.length_append];exact a7
theorem dX.appendNone {B0 B:Nat} {w w':World} {ao:Option Addr} {cap:Nat} {acc:List Rn} (O:dX B0 B w w' ao cap acc)
  {ops:Array Oper} {rest:List Oper} {o:Oper} {a:Act} {Q:Exit -> Act -> World -> Prop} (hgd:o.guard=none) (s x:Operand) (ho:o.op = .call { callee:=.builtin .append,args:=#[s,x],argTypes:=#[32,32] })
  (n:Nat) (hn:acc.length=n) (hs:a.eval s = .slice ao n cap) (hx:a.eval x = .slice none 0 0)
  (hK:wpList Tryz.prog ops Q rest (a.put o.dst (.slice ao n cap)) w') :
  wpList Tryz.prog ops Q (o :: rest) a w':=by
 subst hn;obtain ⟨i0,hi,cY,dw,eI⟩:=info_parts sT;exact wpList_append_own_none hgd s x 32 ho B 48 i0 2 Tryz.underlying32 hi _ acc.length (rcs acc) hs O.own hx hK
theorem dX.src {B0 B:Nat} {w w':World} {ao:Option Addr} {cap:Nat} {acc:List Rn} (O:dX B0 B w w' ao cap acc) (hl:acc.length <= 8796093022207):aV w' ao acc.length cap acc/\∀ ad,ao=some ad -> B <= ad.block:=by
 rcases O.own.2 with ⟨h0,fV⟩ | ⟨g,cap2,cur,hv,dU,dx,hnc,fS,hcsz,htake⟩
 ·simp only [Value.slice.injEq] at h0;obtain ⟨rfl,e0,rfl⟩:=h0;exact ⟨⟨rfl,fun _=>⟨fV,rfl⟩,(fun ad h=>by cases h),by omega,Nat.zero_le _,hl⟩,fun ad h=>(by cases h)⟩
 ·simp only [Value.slice.injEq,true_and] at hv;obtain ⟨rfl,rfl⟩:=hv
  have cell:∀ t j,t < acc.length -> j < 2 -> w'.cell? ⟨g,t * 2+j,none⟩=(RC (acc.getD t rn0)).toList[j]?:=fun t j ht hj=>by
   rw [O.own.cellAt (t * 2+j) (by omega),yq _ t j ht hj]
  refine ⟨⟨rfl,fun h=>(by cases h),fun ad h t ht=>?_,hnc,fS,hl⟩,fun ad h=>by obtain rfl:=Option.some.inj h;exact dU⟩;obtain rfl:=Option.some.inj h;refine ⟨?_,?_⟩
  ·rw [Addr.add_lit,Nat.zero_add];exact cell t 0 ht (by omega)
  ·rw [Addr.add_lit,Addr.add_lit,Nat.zero_add];exact cell t 1 ht (by omega)
theorem dX.appendS {B0 B:Nat} {w w':World} {ao:Option Addr} {cap:Nat} {acc:List Rn} (O:dX B0 B w w' ao cap acc) (E:List Rn) (xo:Option Addr) (m c:Nat) (S:aV w' xo m c E) (cJ:acc.length+m <= 8796093022207)
  {ops:Array Oper} {rest:List Oper} {o:Oper} {a:Act} {Q:Exit -> Act -> World -> Prop} (hgd:o.guard=none) (s x:Operand) (ho:o.op = .call { callee:=.builtin .append,args:=#[s,x],argTypes:=#[32,32] })
  (n:Nat) (hn:acc.length=n) (hs:a.eval s = .slice ao n cap) (hx:a.eval x = .slice xo m c)
  (hK:∀ (ao2:Option Addr) (cap2:Nat) (w2:World),dX B0 B w w2 ao2 cap2 (acc++E) -> wpList Tryz.prog ops Q rest (a.put o.dst (.slice ao2 (n+m) cap2)) w2) :
  wpList Tryz.prog ops Q (o :: rest) a w':=by
 cases xo with
 | some ad=>exact O.append E ad m c S.len (fun t ht=>S.cell ad rfl t ht) cJ hgd s x ho n hn hs hx hK
 | none =>
  obtain ⟨rfl,rfl⟩:=S.nil rfl;have e:=List.eq_nil_of_length_eq_zero S.len;subst e;refine O.appendNone hgd s x ho n hn hs hx ?_;have:=hK ao cap w';rw [List.append_nil,Nat.add_zero] at this;exact this O
theorem zeZ (w:World):dX w.heap.size w.heap.size w (w.alloc (.cells #[] 48)) (some ⟨w.heap.size,0,none⟩) 0 []:=
 ⟨World.ownsRow_made w #[] 0 (Nat.le_refl _) (Nat.zero_le _) rfl,ze w _,by simp,Nat.le_refl _⟩
end
section
open Go.RowKit
attribute [local go_sem ↓] zq zp zE zD zY zX
attribute [local go_sem] zi zk zl zr zz zM zR qp
structure Fc where
 ao:Option Addr
 an:Nat
 ac:Nat
 es:List K.En
 p:Pv
 ro:Option Addr
 rn:Nat
 rc:Nat
 rs:List Rc
def mkF (f:Fc):cw:=⟨f.ao,f.an,f.ac,f.p.vo,f.p.vn,f.p.vc,f.p.co,f.p.cn,f.p.cc,f.ro,f.rn,f.rc⟩
structure aU (w:World) (f:Fc):Prop where
 es:K.aD w f.ao f.an f.ac f.es
 p:am w f.p
 rs:RcS w f.ro f.rn f.rc f.rs
theorem aU.below {w w':World} {f:Fc} (h:aU w f) (hb:Below w.heap.size w w'):aU w' f:=⟨h.es.below hb,h.p.below hb,h.rs.below hb⟩
theorem aF.cs {w:World} {g:Nat} {f:Fc} (h:aF w g (mkF f)):w.cell? ⟨g,0,none⟩=some (.slice f.ao f.an f.ac)/\w.cell? ⟨g,3,none⟩=some (.slice f.ro f.rn f.rc):=⟨h.c0,h.c3⟩
theorem aF.past {w:World} {g:Nat} {f:Fc} (h:aF w g (mkF f)):PAt w ⟨g,1,none⟩ f.p:=⟨h.c1,h.c2⟩
def ar (f:Fc):Prop:=K.okN f.es f.an=true/\ag f.p.P/\OkR f.rs f.rn
def Cb (f:Fc):Prop:=(f.an=0/\f.rn=0)∨(f.an=1/\f.rn=0/\∃ k,sK f.p.P (f.es.getD 0 K.en0).rep k/\k < (f.es.getD 0 K.en0).num)∨(f.an=0/\f.rn=1/\gW f.p.P)
def ux (f:Fc) (x:Int):Prop:=(¬ ar f/\x=1)∨(ar f/\¬ Cb f/\x=2)∨(ar f/\Cb f/\x=0)
def LQ (f:Fc):Prop:=f.an=0/\f.rn=0/\gW f.p.P
end
end Go.Proofs.YtjffpimfngdggaaGreat
namespace Go.Proofs
open Go.Shelf
def Tryz.sortD_ren:Go.Shelf.Ren:=⟨fun | 6=>152 | 15=>160 | 14=>189 | 28=>201 | 29=>202 | 20=>219 | 21=>220 | 22=>221 | 23=>222 | 24=>223 | 25=>224 | 26=>225 | 27=>226 | 46=>245 | 47=>228 | 48=>229 | 49=>246 | 50=>247 | 57=>253 | n=>n,fun | 22=>32 | 24=>48 | 25=>193 | 3=>3 | 39=>201 | 0=>0 | 53=>230 | 55=>232 | 4=>4 | 46=>223 | 45=>222 | 50=>174 | 5=>5 | 9=>9 | 66=>247 | 70=>251 | 76=>263 | 77=>132 | n=>n,fun | n=>n⟩
theorem Tryz.sortD:Go.Proofs.SlLaysF0.n6 Tryz.prog Tryz.sortD_ren:={
 mixed:=by kernel_rfl
 f6:=⟨Tryz.f152.name,by decide,Tryz.func152.trans (congrArg some (by kernel_rfl))⟩
 f14:=⟨Tryz.f189.name,by decide,Tryz.func189.trans (congrArg some (by kernel_rfl))⟩
 f15:=Tryz.func160.trans (congrArg some (by kernel_rfl))
 f20:=⟨Tryz.f219.name,by decide,Tryz.func219.trans (congrArg some (by kernel_rfl))⟩
 f21:=⟨Tryz.f220.name,by decide,Tryz.func220.trans (congrArg some (by kernel_rfl))⟩
 f22:=⟨Tryz.f221.name,by decide,Tryz.func221.trans (congrArg some (by kernel_rfl))⟩
 f23:=⟨Tryz.f222.name,by decide,Tryz.func222.trans (congrArg some (by kernel_rfl))⟩
 f24:=⟨Tryz.f223.name,by decide,Tryz.func223.trans (congrArg some (by kernel_rfl))⟩
 f25:=⟨Tryz.f224.name,by decide,Tryz.func224.trans (congrArg some (by kernel_rfl))⟩
 f26:=⟨Tryz.f225.name,by decide,Tryz.func225.trans (congrArg some (by kernel_rfl))⟩
 f27:=⟨Tryz.f226.name,by decide,Tryz.func226.trans (congrArg some (by kernel_rfl))⟩
 f28:=Tryz.func201.trans (congrArg some (by kernel_rfl))
 f29:=Tryz.func202.trans (congrArg some (by kernel_rfl))
 f46:=⟨Tryz.f245.name,by decide,Tryz.func245.trans (congrArg some (by kernel_rfl))⟩
 f47:=Tryz.func228.trans (congrArg some (by kernel_rfl))
 f48:=Tryz.func229.trans (congrArg some (by kernel_rfl))
 f49:=⟨Tryz.f246.name,by decide,Tryz.func246.trans (congrArg some (by kernel_rfl))⟩
 f50:=⟨Tryz.f247.name,by decide,Tryz.func247.trans (congrArg some (by kernel_rfl))⟩
 f57:=⟨Tryz.f253.name,by decide,Tryz.func253.trans (congrArg some (by kernel_rfl))⟩
 t0:=Tryz.underlying0
 a0:=Tryz.isAgg0
 z0:=Tryz.sizeOf0
 v0:=Tryz.zeroValue0
 t3:=Tryz.underlying3
 a3:=Tryz.isAgg3
 z3:=Tryz.sizeOf3
 v3:=Tryz.zeroValue3
 t4:=Tryz.underlying4
 a4:=Tryz.isAgg4
 z4:=Tryz.sizeOf4
 v4:=Tryz.zeroValue4
 t5:=Tryz.underlying5
 a5:=Tryz.isAgg5
 z5:=Tryz.sizeOf5
 v5:=Tryz.zeroValue5
 t9:=Tryz.underlying9
 a9:=Tryz.isAgg9
 z9:=Tryz.sizeOf9
 v9:=Tryz.zeroValue9
 t22:=Tryz.underlying32
 a22:=Tryz.isAgg32
 z22:=Tryz.sizeOf32
 v22:=Tryz.zeroValue32
 t25:=Tryz.underlying193
 a25:=Tryz.isAgg193
 z25:=Tryz.sizeOf193
 v25:=Tryz.zeroValue193
 t39:=Tryz.underlying201
 a39:=Tryz.isAgg201
 z39:=Tryz.sizeOf201
 v39:=Tryz.zeroValue201
 t45:=Tryz.underlying222
 a45:=Tryz.isAgg222
 z45:=Tryz.sizeOf222
 v45:=Tryz.zeroValue222
 t46:=Tryz.underlying223
 a46:=Tryz.isAgg223
 z46:=Tryz.sizeOf223
 v46:=Tryz.zeroValue223
 t50:=Tryz.underlying174
 a50:=Tryz.isAgg174
 z50:=Tryz.sizeOf174
 v50:=Tryz.zeroValue174
 t53:=Tryz.underlying230
 a53:=Tryz.isAgg230
 z53:=Tryz.sizeOf230
 v53:=Tryz.zeroValue230
 t55:=Tryz.underlying232
 a55:=Tryz.isAgg232
 z55:=Tryz.sizeOf232
 v55:=Tryz.zeroValue232
 t66:=Tryz.underlying247
 a66:=Tryz.isAgg247
 z66:=Tryz.sizeOf247
 v66:=Tryz.zeroValue247
 t70:=Tryz.underlying251
 a70:=Tryz.isAgg251
 z70:=Tryz.sizeOf251
 v70:=Tryz.zeroValue251
 t76:=Tryz.underlying263
 a76:=Tryz.isAgg263
 z76:=Tryz.sizeOf263
 v76:=Tryz.zeroValue263
 t77:=Tryz.underlying132
 a77:=Tryz.isAgg132
 z77:=Tryz.sizeOf132
 v77:=Tryz.zeroValue132 }
end Go.Proofs
