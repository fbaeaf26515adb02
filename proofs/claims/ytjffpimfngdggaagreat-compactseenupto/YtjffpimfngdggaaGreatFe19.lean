/- GRr GKc SQl SLt PLs GFc -/
import Derived.Test.YtjffpimfngdggaaGreatTk
import Derived.Test.YtjffpimfngdggaaGreatFe17
import Derived.Test.YtjffpimfngdggaaGreatFe18
import Derived.Test.YtjffpimfngdggaaGreatFe15
import Derived.Test.YtjffpimfngdggaaGreatFe09
import Derived.Test.YtjffpimfngdggaaGreatFe14
import Derived.Test.YtjffpimfngdggaaGreatFe05
import Derived.Test.YtjffpimfngdggaaGreatFe13
set_option maxRecDepth 100000
set_option maxHeartbeats 3200000
namespace Go.Proofs.YtjffpimfngdggaaGreat
section
open Go.RowKit
attribute [local go_sem ↓] zq zp zZ zY
attribute [local go_sem] zi zj zJ zQ
structure Rc where
 s:ByteArray
 p:Pv
def rc0:Rc:=⟨⟨#[]⟩,pv0⟩
def mkR (r:Rc):eA:=⟨r.s,r.p.vo,r.p.vn,r.p.vc,r.p.co,r.p.cn,r.p.cc⟩
theorem cf.sk {w:World} {g:Nat} {r:Rc} (h:cf w g (mkR r)):w.cell? ⟨g,0,none⟩=some (.string r.s):=h.c0
theorem cf.past {w:World} {g:Nat} {r:Rc} (h:cf w g (mkR r)):PAt w ⟨g,1,none⟩ r.p:=⟨h.c1,h.c2⟩
def cS (w:World) (r:Rc):Prop:=am w r.p/\r.s.size <= maxLen
theorem cS.below {w w':World} {r:Rc} (h:cS w r) (hb:Below w.heap.size w w'):cS w' r:=⟨h.1.below hb,h.2⟩
def gD (P:Pst):Prop:=∀ r,r < 16 -> ∀ n,¬ mem (ae P r) n
def fP (s:ByteArray):Bool:=decide (s.size=0) || K.fG s.data.toList
def lH (P:Pst):Prop:=aj P/\¬ gD P
theorem zf9 (F:Value) (w:World):Calls Tryz.prog 87 #[.slice none 0 0,F] w fun e w'=>e = .returned (.slice none 0 0)/\Below w.heap.size w w':=by
 go_enter Tryz.func87,Tryz.ntmps87;go_wp2_with fail;go_loopw [5,10] (fun o i wr=>o = .slice none 0 0/\i = .int .i64 0/\wr=w) (fun _ _ _=>0)
 case atStart=>exact ⟨rfl,rfl,rfl⟩
 case round =>
  obtain ⟨rfl,rfl,rfl⟩:=hrel;go_wp2_with fail;go_ret;exact ⟨rfl,Below.refl _ _⟩
def ofE (s:ByteArray):Int:=if K.fG s.data.toList=true then 0 else 5
theorem zcW (w:World):K.aD w none 0 0 []:=⟨rfl,fun _=>⟨rfl,rfl⟩,(fun ad h=>by cases h),(fun e h=>by cases h),by decide⟩
theorem ziY (s:ByteArray) (w:World) (hs:s.size <= maxLen):Calls Tryz.prog 47 #[.slice none 0 0,.string s] w fun e w'=>∃ x,e = .returned (.tuple #[.slice none 0 0,.int .i64 x])/\x=ofE s/\Below w.heap.size w w':=by
 have b1:=ze w (.cells #[.string s] 9);obtain ⟨wk,aY⟩:∃ wk,w.alloc (.cells #[.string s] 9)=wk:=⟨_,rfl⟩
 have c1:wk.cell? ⟨w.heap.size,0,none⟩=some (.string s):=by rw [<- aY];have h:=heap_alloc_new w (.cells #[.string s] 9);simp only [World.cell?,h];rfl
 rw [aY] at b1;have HB:=hide b1;clear b1;go_enter Tryz.func47,Tryz.ntmps47;go_wp2_with fail;clear aY;refine (K.qv none 0 0 [] _ (zcW _)).mono ?_;rintro e w2 ⟨rfl,b2⟩;have c2:=(b2.cell (World.block_lt_of_cell? _ _ c1)).trans c1;have cg:=wTr HB b2;clear b2 c1;rw [show K.chk []=0 from rfl];go_wp2_with fail;refine (K.kQ s _ hs).mono ?_;rintro e w' ⟨rfl,rfl⟩
 cases hg:K.fG s.data.toList with
 | false =>
  have HE:Hid (5=ofE s):=by show _=_;unfold ofE;rw [hg];rfl
  clear hg;go_wp2_with fail;go_ret2;exact ⟨5,rfl,HE.out,cg.out⟩
 | true =>
  have HE:Hid (0=ofE s):=by show _=_;unfold ofE;rw [hg];rfl
  clear hg;go_wp2_with fail;refine (zf9 _ _).mono ?_;rintro e w3 ⟨rfl,b3⟩;have aB:=wTr cg b3;clear b3 c2;go_wp2_with fail;go_ret2;exact ⟨0,rfl,HE.out,aB.out⟩
theorem vT (s:ByteArray) (w:World) (hs:s.size <= maxLen):Calls Tryz.prog 162 #[.string s] w fun e w'=>e = .returned (.bool (fP s))/\Below w.heap.size w w':=by
 go_enter Tryz.func162,Tryz.ntmps162;go_wp2_with fail;refine (ziY s _ hs).mono ?_;rintro e w2 ⟨x,rfl,hx,b2⟩;have cg:=hide b2;clear b2;by_cases h0:s.size=0
 ·have e0:=K.jR s h0
  have HR:Hid (fP s=true):=by show _=_;unfold fP;rw [decide_eq_true h0,Bool.true_or]
  clear h0 hx;go_wp2_with fail;go_ret;exact ⟨by rw [HR.out];rfl,cg.out⟩
 ·have e0:=K.kW s h0
  have HR:Hid (fP s=K.fG s.data.toList):=by show _=_;unfold fP;rw [decide_eq_false h0,Bool.false_or]
  cases hg:K.fG s.data.toList with
  | true =>
   rw [hg] at HR
   obtain rfl:x=0:=by rw [hx];unfold ofE;rw [hg];rfl
   clear h0 hx hg;go_wp2_with fail;go_ret;exact ⟨by rw [HR.out];rfl,cg.out⟩
  | false =>
   rw [hg] at HR
   obtain rfl:x=5:=by rw [hx];unfold ofE;rw [hg];rfl
   clear h0 hx hg;go_wp2_with fail;go_ret;exact ⟨by rw [HR.out];rfl,cg.out⟩
def gH (r:Rc) (x:Int):Prop:=(fP r.s=false/\x=5)∨(fP r.s=true/\¬ lH r.p.P/\x=1)∨(fP r.s=true/\lH r.p.P/\x=0)
theorem gH.zero {r:Rc} {x:Int} (h:gH r x):x=0↔(fP r.s=true/\lH r.p.P):=by
 rcases h with ⟨h1,rfl⟩ | ⟨h1,h2,rfl⟩ | ⟨h1,h2,rfl⟩
 ·simp [h1]
 ·simp [h2]
 ·simp [h1,h2]
theorem jT (r:Rc) (w:World) (hR:cS w r):Calls Tryz.prog 111 #[ReV (mkR r)] w fun e w'=>aZ w w' e (gH r):=by
 have HX:=hide (qs w (mkR r));have aq:=hide (ze w (.cells (ReC (mkR r)) 78));have HS:=hide (hR.1.below aq.out);have hs:=hR.2;clear hR;obtain ⟨wk,aY⟩:∃ wk,w.alloc (.cells (ReC (mkR r)) 78)=wk:=⟨_,rfl⟩;obtain ⟨G,hG⟩:∃ G,w.heap.size=G:=⟨_,rfl⟩;rw [aY] at HX aq HS;rw [hG] at HX;have c0:=HX.out.sk;go_enter Tryz.func111,Tryz.ntmps111;go_wp2_with fail;clear aY;refine (vT r.s _ hs).mono ?_;rintro e w2 ⟨rfl,b2⟩;have cg:=wTr aq b2;have fB:=hide (HX.out.below b2);have dX:=hide (HS.out.below b2);clear b2 c0
 cases hg:fP r.s with
 | false =>
  have HE:Hid (gH r 5):=.inl ⟨hg,rfl⟩;clear hg;go_wp2_with fail;go_ret;exact ⟨_,rfl,HE.out,cg.out⟩
 | true =>
  have HG:=hide hg;clear hg;have l2:=zl fB.out.past;go_wp2_with fail;refine (qW r.p _ dX.out).mono ?_;rintro e w3 ⟨b,rfl,hb,b3⟩;have aB:=wTr cg b3;have fL:=hide (fB.out.below b3);have oS:=hide (dX.out.below b3);clear b3 l2
  cases b with
  | false =>
   have HE:Hid (gH r 1):=.inr (.inl ⟨HG.out,fun h=>(by have:=hb.out.2 h.1;cases this),rfl⟩);clear hb;go_wp2_with fail;go_ret;exact ⟨_,rfl,HE.out,aB.out⟩
  | true =>
   have HF:Hid (aj r.p.P):=hb.out.1 rfl;clear hb;have l3:=zl fL.out.past;go_wp2_with fail;refine (jA r.p _ oS.out).mono ?_;rintro e w4 ⟨b,rfl,hb,b4⟩;have aQ:=wTr aB b4;clear b4 l3
   cases b with
   | true =>
    have HE:Hid (gH r 1):=.inr (.inl ⟨HG.out,fun h=>h.2 (hb.1 rfl),rfl⟩);clear hb;go_wp2_with fail;go_ret;exact ⟨_,rfl,HE.out,aQ.out⟩
   | false =>
    have HE:Hid (gH r 0):=.inr (.inr ⟨HG.out,⟨HF.out,fun h=>(by have:=hb.2 h;cases this)⟩,rfl⟩);clear hb;go_wp2_with fail;go_ret;exact ⟨_,rfl,HE.out,aQ.out⟩
def eX (a b:ByteArray):Int:=Lib.compareBytes a.data.toList b.data.toList
def gB (a b:Rc) (z:Int):Prop:=(eX a.s b.s≠0/\z=eX a.s b.s)∨(eX a.s b.s=0/\iu a.p.P b.p.P z)
theorem gB.unique {a b:Rc} {z z':Int} (h:gB a b z) (h':gB a b z'):z=z':=by
 rcases h with ⟨h1,h2⟩ | ⟨h1,h2⟩ <;> rcases h' with ⟨g1,g2⟩ | ⟨g1,g2⟩
 ·rw [h2,g2]
 ·exact absurd g1 h1
 ·exact absurd h1 g1
 ·exact h2.unique g2
theorem xU (a b:Rc) (w:World) (hA:cS w a) (hB:cS w b):Calls Tryz.prog 112 #[ReV (mkR a),ReV (mkR b)] w fun e w'=>aZ w w' e (gB a b):=by
 have b1:=ze w (.cells (ReC (mkR a)) 78);have b2:=ze (w.alloc (.cells (ReC (mkR a)) 78)) (.cells (ReC (mkR b)) 78);have X2:=qs (w.alloc (.cells (ReC (mkR a)) 78)) (mkR b);rw [World.size_alloc] at X2;have eo:=hide ((qs w (mkR a)).below b2);have fk:=hide X2;have aq:=hide (b1.trans (b2.mono b1.size));have iI:=hide (hA.1.below aq.out);have gf:=hide (hB.1.below aq.out);clear b1 b2 X2 hA hB;obtain ⟨wk,aY⟩:∃ wk,(w.alloc (.cells (ReC (mkR a)) 78)).alloc (.cells (ReC (mkR b)) 78)=wk:=⟨_,rfl⟩;obtain ⟨G,hG⟩:∃ G,w.heap.size=G:=⟨_,rfl⟩;rw [aY] at eo fk aq iI gf;rw [hG] at eo fk;have c1:=eo.out.sk;have c2:=fk.out.sk;have l1:=zl eo.out.past;have l2:=zl fk.out.past;go_enter Tryz.func112,Tryz.ntmps112;go_wp2_with fail;clear aY;refine (Tryz.strings_Compare a.s b.s _).mono ?_;rintro e w' ⟨rfl,rfl⟩
 by_cases h0:eX a.s b.s=0
 ·have HZ:=hide h0;rw [show Lib.compareBytes a.s.data.toList b.s.data.toList=0 from h0];clear h0;go_wp2_with fail;refine (wY a.p b.p _ iI.out gf.out).mono ?_;rintro e w2 ⟨k,rfl,hk,b2⟩;have HF:Hid (gB a b k/\Below w.heap.size w w2):=⟨.inr ⟨HZ.out,hk⟩,aq.out.trans (b2.mono aq.out.size)⟩;clear hk b2 l1 l2;go_wp2_with fail;go_ret;exact ⟨_,rfl,HF.out.1,HF.out.2⟩
 ·obtain ⟨z,hz⟩:∃ z,eX a.s b.s=z:=⟨_,rfl⟩;have HF:Hid (gB a b z):=.inl ⟨h0,hz.symm⟩;rw [show Lib.compareBytes a.s.data.toList b.s.data.toList=z from hz]
  have ch:(z != 0)=true:=by rw [hz] at h0;simpa using h0
  clear h0 hz;go_wp2_with fail;go_ret;exact ⟨_,rfl,HF.out,aq.out⟩
end
section
open Go.RowKit
attribute [local go_sem ↓] zq zp zZ zY
attribute [local go_sem] zi zj zJ zQ
theorem qe:(#[.string ⟨#[]⟩,.slice none 0 0,.slice none 0 0]:Array Value)=ReC re0:=rfl
attribute [local go_sem] qe
structure RcS (w:World) (ao:Option Addr) (n cap:Nat) (L:List Rc):Prop where
 len:L.length=n
 nil:ao=none -> n=0
 at_:∀ ad,ao=some ad -> ∀ t,t < n -> iC w (ad.add (t * 3)) (mkR (L.getD t rc0))
 ok:∀ r∈L,cS w r
 big:n <= 2199023255552
theorem RcS.below {w w':World} {ao:Option Addr} {n cap:Nat} {L:List Rc} (h:RcS w ao n cap L) (hb:Below w.heap.size w w'):RcS w' ao n cap L:=
 ⟨h.len,h.nil,fun ad e t ht=>(h.at_ ad e t ht).on hb,fun r hr=>(h.ok r hr).below hb,h.big⟩
theorem RcS.at {w:World} {ao:Option Addr} {n cap:Nat} {L:List Rc} (h:RcS w ao n cap L) (k:Nat) (hk:k < n):∃ ad,ao=some ad/\iC w (ad.add (k * 3)) (mkR (L.getD k rc0)):=by
 cases ao with
 | none=>have:=h.nil rfl;omega
 | some ad=>exact ⟨ad,rfl,h.at_ ad rfl k hk⟩
theorem RcS.okAt {w:World} {ao:Option Addr} {n cap:Nat} {L:List Rc} (h:RcS w ao n cap L) (k:Nat) (hk:k < n):cS w (L.getD k rc0):=by
 have hl:=h.len;rw [List.getD_eq_getElem?_getD,List.getElem?_eq_getElem (by omega)];exact h.ok _ (List.getElem_mem _)
theorem RcS.empty (w:World):RcS w none 0 0 []:=⟨rfl,fun _=>rfl,(fun ad h=>by cases h),(fun r h=>by cases h),by decide⟩
def cj (r:Rc):Prop:=fP r.s=true/\lH r.p.P
def LtR (a b:Rc):Prop:=∃ z,gB a b z/\z < 0
def OkR (L:List Rc) (k:Nat):Prop:=∀ j,j < k -> cj (L.getD j rc0)/\(0 < j -> LtR (L.getD (j - 1) rc0) (L.getD j rc0))
theorem OkR.snoc {L:List Rc} {k:Nat} (h:OkR L k) (h1:cj (L.getD k rc0)) (h2:0 < k -> LtR (L.getD (k - 1) rc0) (L.getD k rc0)):OkR L (k+1):=by
 intro j hj;by_cases e:j=k
 ·subst e;exact ⟨h1,h2⟩
 ·exact h j (by omega)
theorem zcD (L:List Rc):OkR L 0:=fun j hj=>absurd hj (Nat.not_lt_zero j)
def EN (L:List Rc) (n:Nat) (x:Int):Prop:=(x=0/\OkR L n)∨(x=1/\¬ OkR L n)
theorem xg (ao:Option Addr) (n cap:Nat) (L:List Rc) (w:World) (hS:RcS w ao n cap L):Calls Tryz.prog 66 #[.slice ao n cap] w fun e w'=>aZ w w' e (EN L n):=by
 have HS:=hide hS;have hn:=hS.big;clear hS;go_enter Tryz.func66,Tryz.ntmps66;go_wp2_with fail;go_loopw [7] (fun i wr=>∃ k:Nat,k <= n/\i = .int .i64 k/\Hid (OkR L k)/\Hid (Below w.heap.size w wr)) (fun i _=>n - (intOf i).toNat)
 case atStart=>exact ⟨0,Nat.zero_le _,rfl,zcD L,Below.refl _ _⟩
 case round =>
  obtain ⟨k,hk,rfl,HK,HB⟩:=hrel
  rename World=>wr
  by_cases ak:k < n
  ·obtain ⟨ad,rfl,A0⟩:=(HS.out.below HB.out).at k ak;have dK:=zM A0;have HO:=hide ((HS.out.below HB.out).okAt k ak);have pE:=hide (HS.out.below HB.out);obtain ⟨r,Hr⟩:∃ r,Hid (L.getD k rc0=r):=⟨_,rfl⟩;rw [Hr.out] at dK HO;obtain ⟨gr,u0⟩:∃ g,wr.heap.size=g:=⟨_,rfl⟩;obtain ⟨w1,a8,X1,B1,-⟩:=fE wr (mkR r) gr u0;have HX:=hide X1;have aN:=wTr HB B1;have Af:=hide (HO.out.below B1);have sS:=hide (pE.out.below B1);clear X1 B1 A0 HO pE;have cw:=hide ak;by_cases gK:k=0
   ·have gY:decide (0 < k)=false:=by rw [decide_eq_false_iff_not];omega
    have Eo:=hide gK;clear gK;go_wp2_with fail;clear a8 dK;refine wp_region_held_drew (S:=fun v=>(eE (.pointer (some ⟨gr,0,none⟩))).run Tryz.prog v = .ok (.agg (ReC (mkR r))) v) (by kernel_rfl) (qI (HX.out.below (zg w1))) (fun hHeld=>?_);refine wU 0 ?_;refine wpAnyH_ready (rs:=[1]) (by kernel_rfl) (by simp) (.cons rfl (fun K hK=>?_) .nil);go_simp;go_wp2_with fail;refine (jT r _ (Af.out.below (zg w1))).mono ?_;rintro e w2 ⟨x,rfl,hx,b2⟩;have tk:Below w1.heap.size w1 w2:=(zg w1).trans b2;have cg:=hide tk;refine hK.out _ _ (qI (HX.out.below (tk))) (fun hHeld=>?_);clear hK K b2;by_cases r6:x=0
    ·obtain rfl:=r6
     have nr:Hid (cj (L.getD k rc0)):=by rw [Hr.out];exact hx.zero.1 rfl
     clear hx;refine wU 2 ?_;refine wU 3 ?_;refine wU 4 ?_;refine wU 5 ?_;refine wU 6 ?_;refine wV 7 ?_;refine wV 8 ?_;refine wV 9 ?_;refine wV 10 ?_;refine wV 11 ?_;refine wV 12 ?_;refine wV 13 ?_;refine wV 14 ?_;refine wU 15 ?_;refine wU 16 ?_;refine wpAnyH_done (by kernel_rfl) ?_ _;clear hHeld;go_wp2_with fail;go_roundw
     case rel=>exact ⟨k+1,by omega,by simp,HK.out.snoc nr.out (fun h=>absurd h (by have:=Eo.out;omega)),aN.out.trans (cg.out.mono aN.out.size)⟩
     case measure=>simp [intOf];omega
    ·have mx:Hid (¬ OkR L n):=fun h=>r6 (hx.zero.2 (by have:=(h k cw.out).1;rw [Hr.out] at this;exact this))
     have My:(x != 0)=true:=by simpa using r6
     clear hx r6;refine wU 2 ?_;refine wU 3 ?_;refine wV 4 ?_;refine wV 5 ?_;refine wV 6 ?_;refine wV 7 ?_;refine wV 8 ?_;refine wV 9 ?_;refine wV 10 ?_;refine wV 11 ?_;refine wV 12 ?_;refine wV 13 ?_;refine wV 14 ?_;refine wV 15 ?_;refine wU 16 ?_;refine wpAnyH_done (by kernel_rfl) ?_ _;clear hHeld;go_wp2_with fail;go_ret;exact ⟨_,rfl,.inr ⟨rfl,mx.out⟩,aN.out.trans (cg.out.mono aN.out.size)⟩
   ·obtain ⟨j,Hj⟩:∃ j,Hid (k=j+1):=⟨k - 1,(show k=k - 1+1 by omega)⟩
    have od:j < n:=by have:=Hj.out;omega
    have KH:IntKind.i64.wrap ((k:Int) - 1)=(j:Int):=by rw [IntKind.wrap_i64];have:=Hj.out;omega
    have gY:decide (0 < k)=true:=by rw [decide_eq_true_iff];omega
    obtain ⟨ad',e',Aj⟩:=sS.out.at j od;obtain rfl:=Option.some.inj e';have D5:=hide (sS.out.okAt j od);obtain ⟨q,Hq⟩:∃ q,Hid (L.getD j rc0=q):=⟨_,rfl⟩;rw [Hq.out] at Aj D5;have sQ:=hide Aj;clear Aj e';go_wp2_with fail;clear a8 dK;refine wp_region_held_drew (S:=fun v=>(eE (.pointer (some ⟨gr,0,none⟩))).run Tryz.prog v = .ok (.agg (ReC (mkR r))) v/\(eE (.pointer (some (ad.add (j * 3))))).run Tryz.prog v = .ok (.agg (ReC (mkR q))) v) (by kernel_rfl) (⟨qI (HX.out.below (zg w1)),zM (sQ.out.on (zg w1))⟩) (fun hHeld=>?_);refine wU 0 ?_;refine wpAnyH_ready (rs:=[1]) (by kernel_rfl) (by simp) (.cons rfl (fun K hK=>?_) .nil);go_simp;go_wp2_with fail;refine (jT r _ (Af.out.below (zg w1))).mono ?_;rintro e w2 ⟨x,rfl,hx,b2⟩;have tk:Below w1.heap.size w1 w2:=(zg w1).trans b2
    have cg:=hide tk;refine hK.out _ _ (⟨qI (HX.out.below (tk)),zM (sQ.out.on (tk))⟩) (fun hHeld=>?_);clear hK K b2;by_cases r6:x=0
    ·obtain rfl:=r6
     have nr:Hid (cj (L.getD k rc0)):=by rw [Hr.out];exact hx.zero.1 rfl
     clear hx;refine wU 2 ?_;refine wU 3 ?_;refine wU 4 ?_;refine wU 5 ?_;refine wU 6 ?_;refine wU 7 ?_;refine wU 8 ?_;refine wU 9 ?_;refine wU 10 ?_;refine wU 11 ?_;refine wU 12 ?_;refine wpAnyH_ready (rs:=[13]) (by kernel_rfl) (by simp) (.cons rfl (fun K hK=>?_) .nil);go_simp;go_wp2_with fail;refine (xU q r _ (D5.out.below tk) (Af.out.below tk)).mono ?_;rintro e w3 ⟨z,rfl,hz,b3⟩;have dZ:Below w1.heap.size w1 w3:=cg.out.trans (b3.mono cg.out.size);have aB:=hide dZ;refine hK.out _ _ (⟨qI (HX.out.below (dZ)),zM (sQ.out.on (dZ))⟩) (fun hHeld=>?_);clear hK K b3 tk;by_cases dg:(0:Int) <= z
     ·have Cr:decide (0 <= z)=true:=decide_eq_true dg
      have mx:Hid (¬ OkR L n):=fun h=>by
       have h2:=(h k cw.out).2 (by have:=Hj.out;omega);rw [show k - 1=j by have:=Hj.out;omega,Hr.out,Hq.out] at h2;obtain ⟨z2,h3,h4⟩:=h2;have:=hz.unique h3;omega
      clear hz dg;refine wU 14 ?_;refine wU 15 ?_;refine wU 16 ?_;refine wpAnyH_done (by kernel_rfl) ?_ _;clear hHeld;go_wp2_with fail;go_ret;exact ⟨_,rfl,.inr ⟨rfl,mx.out⟩,aN.out.trans (aB.out.mono aN.out.size)⟩
     ·have Cr:decide (0 <= z)=false:=decide_eq_false dg
      have mq:Hid (0 < k -> LtR (L.getD (k - 1) rc0) (L.getD k rc0)):=fun _=>by
       rw [show k - 1=j by have:=Hj.out;omega,Hr.out,Hq.out];exact ⟨z,hz,by omega⟩
      clear hz dg;refine wU 14 ?_;refine wU 15 ?_;refine wU 16 ?_;refine wpAnyH_done (by kernel_rfl) ?_ _;clear hHeld;go_wp2_with fail;go_roundw
      case rel=>exact ⟨k+1,by omega,by simp,HK.out.snoc nr.out mq.out,aN.out.trans (aB.out.mono aN.out.size)⟩
      case measure=>simp [intOf];omega
    ·have mx:Hid (¬ OkR L n):=fun h=>r6 (hx.zero.2 (by have:=(h k cw.out).1;rw [Hr.out] at this;exact this))
     have My:(x != 0)=true:=by simpa using r6
     clear hx r6;refine wU 2 ?_;refine wU 3 ?_;refine wV 4 ?_;refine wV 5 ?_;refine wV 6 ?_;refine wV 7 ?_;refine wV 8 ?_;refine wV 9 ?_;refine wV 10 ?_;refine wV 11 ?_;refine wV 12 ?_;refine wV 13 ?_;refine wV 14 ?_;refine wV 15 ?_;refine wU 16 ?_;refine wpAnyH_done (by kernel_rfl) ?_ _;clear hHeld;go_wp2_with fail;go_ret;exact ⟨_,rfl,.inr ⟨rfl,mx.out⟩,aN.out.trans (cg.out.mono aN.out.size)⟩
  ·obtain rfl:k=n:=by omega
   go_wp2_with fail;go_ret;exact ⟨_,rfl,.inl ⟨rfl,HK.out⟩,HB.out⟩
end
section

def Lb (P:Int -> Prop) (k:Int):Prop:=(k=0/\∀ n,¬ P n)∨(1 <= k/\P k/\∀ n,P n -> k <= n)
def Ji (A:List Rn) (k:Int):Prop:=(k=0/\∀ n,¬ mem A n)∨(mem A k/\∀ n,mem A n -> n <= k)
def Ns (A:List Rn) (f:Int) (n:Int):Prop:=1 <= n/\n <= 1000000000/\¬ mem A n/\f <= n
end
section
open Go.RowKit
attribute [local go_sem ↓] kM ky
attribute [local go_sem] zS zC zN ql
end
section
open Go.RowKit
attribute [local go_sem ↓] zq zp vM vJ zhz
attribute [local go_sem] x6 xj zE zi qm zj qJ
def rA (P:Pst) (r:Int) (k:Int):Prop:=(V.isR r=true/\Ji (ae P r.toNat) k)∨(V.isR r=false/\k=0)
def Jf (w w':World) (e:Ending) (P:Int -> Prop):Prop:=∃ k,e = .returned (.int .i64 k)/\P k/\Below w.heap.size w w'
end
section
open Go.RowKit
attribute [local go_sem ↓] zq zp zB zz zV zU
attribute [local go_sem] zi zj zk zm zC zN zS ql
structure Fc where
 ao:Option Addr
 an:Nat
 ac:Nat
 es:List K.En
 p:Pv
 ro:Option Addr
 rn:Nat
 rc:Nat
 rs:List Rc
def mkF (f:Fc):cq:=⟨f.ao,f.an,f.ac,f.p.vo,f.p.vn,f.p.vc,f.p.co,f.p.cn,f.p.cc,f.ro,f.rn,f.rc⟩
structure aV (w:World) (f:Fc):Prop where
 es:K.aD w f.ao f.an f.ac f.es
 p:am w f.p
 rs:RcS w f.ro f.rn f.rc f.rs
theorem aV.below {w w':World} {f:Fc} (h:aV w f) (hb:Below w.heap.size w w'):aV w' f:=⟨h.es.below hb,h.p.below hb,h.rs.below hb⟩
theorem aF.cs {w:World} {g:Nat} {f:Fc} (h:aF w g (mkF f)):w.cell? ⟨g,0,none⟩=some (.slice f.ao f.an f.ac)/\w.cell? ⟨g,3,none⟩=some (.slice f.ro f.rn f.rc):=⟨h.c0,h.c3⟩
theorem aF.past {w:World} {g:Nat} {f:Fc} (h:aF w g (mkF f)):PAt w ⟨g,1,none⟩ f.p:=⟨h.c1,h.c2⟩
def av (f:Fc):Prop:=K.okN f.es f.an=true/\aj f.p.P/\OkR f.rs f.rn
def BJ (f:Fc):Prop:=(f.an=0/\f.rn=0)∨(f.an=1/\f.rn=0/\∃ k,rA f.p.P (f.es.getD 0 K.en0).rep k/\k < (f.es.getD 0 K.en0).num)∨(f.an=0/\f.rn=1/\gD f.p.P)
def tL (f:Fc) (x:Int):Prop:=(¬ av f/\x=1)∨(av f/\¬ BJ f/\x=2)∨(av f/\BJ f/\x=0)
def La (f:Fc):Prop:=f.an=0/\f.rn=0/\gD f.p.P
end
end Go.Proofs.YtjffpimfngdggaaGreat
