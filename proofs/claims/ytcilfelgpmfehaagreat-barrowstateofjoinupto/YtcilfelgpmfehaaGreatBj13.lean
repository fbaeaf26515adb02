/- GRr GKc SQl SLt PLs PDk GFc Shd -/
import Derived.Test.YtcilfelgpmfehaaGreatBj12
import Derived.Laws.AppendOwnNone
import Derived.Shelf.SlSortCmp.WholeK
set_option maxRecDepth 100000
set_option maxHeartbeats 3200000
namespace Go.Proofs.YtcilfelgpmfehaaGreat
section
open Go.RowKit
attribute [local go_sem ↓] zl zk zR zQ
attribute [local go_sem] zf zh zy zH
structure Rc where
 s:ByteArray
 p:Pv
def rc0:Rc:=⟨⟨#[]⟩,pv0⟩
def mkR (r:Rc):dS:=⟨r.s,r.p.vo,r.p.vn,r.p.vc,r.p.co,r.p.cn,r.p.cc⟩
theorem aY.sk {w:World} {g:Nat} {r:Rc} (h:aY w g (mkR r)):w.cell? ⟨g,0,none⟩=some (.string r.s):=h.c0
theorem aY.past {w:World} {g:Nat} {r:Rc} (h:aY w g (mkR r)):PAt w ⟨g,1,none⟩ r.p:=⟨h.c1,h.c2⟩
def dp (w:World) (r:Rc):Prop:=ak w r.p/\r.s.size <= maxLen
theorem dp.below {w w':World} {r:Rc} (h:dp w r) (hb:Below w.heap.size w w'):dp w' r:=⟨h.1.below hb,h.2⟩
def fC (P:Pst):Prop:=∀ r,r < 16 -> ∀ n,¬ mem (aa P r) n
def fd (s:ByteArray):Bool:=decide (s.size=0) || K.eS s.data.toList
def lX (P:Pst):Prop:=af P/\¬ fC P
theorem zej (F:Value) (w:World):Calls Tryz.prog 112 #[.slice none 0 0,F] w fun e w'=>e = .returned (.slice none 0 0)/\Below w.heap.size w w':=by
 go_enter Tryz.func112,Tryz.ntmps112;go_wp2_with fail;go_loopw [5,10] (fun o i wr=>o = .slice none 0 0/\i = .int .i64 0/\wr=w) (fun _ _ _=>0)
 case atStart=>exact ⟨rfl,rfl,rfl⟩
 case round =>
  obtain ⟨rfl,rfl,rfl⟩:=hrel;go_wp2_with fail;go_ret;exact ⟨rfl,Below.refl _ _⟩
def ofE (s:ByteArray):Int:=if K.eS s.data.toList=true then 0 else 5
theorem zbB (w:World):K.aF w none 0 0 []:=⟨rfl,fun _=>⟨rfl,rfl⟩,(fun ad h=>by cases h),(fun e h=>by cases h),by decide⟩
theorem zgF (s:ByteArray) (w:World) (hs:s.size <= maxLen):Calls Tryz.prog 165 #[.slice none 0 0,.string s] w fun e w'=>∃ x,e = .returned (.tuple #[.slice none 0 0,.int .i64 x])/\x=ofE s/\Below w.heap.size w w':=by
 have b1:=ze w (.cells #[.string s] 9);obtain ⟨wk,cq⟩:∃ wk,w.alloc (.cells #[.string s] 9)=wk:=⟨_,rfl⟩
 have c1:wk.cell? ⟨w.heap.size,0,none⟩=some (.string s):=by rw [<- cq];have h:=heap_alloc_new w (.cells #[.string s] 9);simp only [World.cell?,h];rfl
 rw [cq] at b1;have HB:=hide b1;clear b1;go_enter Tryz.func165,Tryz.ntmps165;go_wp2_with fail;clear cq;refine (K.qu none 0 0 [] _ (zbB _)).mono ?_;rintro e w2 ⟨rfl,b2⟩;have c2:=(b2.cell (World.block_lt_of_cell? _ _ c1)).trans c1;have cd:=wTr HB b2;clear b2 c1;rw [show K.chk []=0 from rfl];go_wp2_with fail;refine (K.kn s _ hs).mono ?_;rintro e w' ⟨rfl,rfl⟩
 cases hg:K.eS s.data.toList with
 | false =>
  have HE:Hid (5=ofE s):=by show _=_;unfold ofE;rw [hg];rfl
  clear hg;go_wp2_with fail;go_ret2;exact ⟨5,rfl,HE.out,cd.out⟩
 | true =>
  have HE:Hid (0=ofE s):=by show _=_;unfold ofE;rw [hg];rfl
  clear hg;go_wp2_with fail;refine (zej _ _).mono ?_;rintro e w3 ⟨rfl,b3⟩;have aN:=wTr cd b3;clear b3 c2;go_wp2_with fail;go_ret2;exact ⟨0,rfl,HE.out,aN.out⟩
theorem kZ (s:ByteArray) (w:World) (hs:s.size <= maxLen):Calls Tryz.prog 125 #[.string s] w fun e w'=>e = .returned (.bool (fd s))/\Below w.heap.size w w':=by
 go_enter Tryz.func125,Tryz.ntmps125;go_wp2_with fail;refine (zgF s _ hs).mono ?_;rintro e w2 ⟨x,rfl,hx,b2⟩;have cd:=hide b2;clear b2;by_cases h0:s.size=0
 ·have e0:=K.jw s h0
  have HR:Hid (fd s=true):=by show _=_;unfold fd;rw [decide_eq_true h0,Bool.true_or]
  clear h0 hx;go_wp2_with fail;go_ret;exact ⟨by rw [HR.out];rfl,cd.out⟩
 ·have e0:=K.ks s h0
  have HR:Hid (fd s=K.eS s.data.toList):=by show _=_;unfold fd;rw [decide_eq_false h0,Bool.false_or]
  cases hg:K.eS s.data.toList with
  | true =>
   rw [hg] at HR
   obtain rfl:x=0:=by rw [hx];unfold ofE;rw [hg];rfl
   clear h0 hx hg;go_wp2_with fail;go_ret;exact ⟨by rw [HR.out];rfl,cd.out⟩
  | false =>
   rw [hg] at HR
   obtain rfl:x=5:=by rw [hx];unfold ofE;rw [hg];rfl
   clear h0 hx hg;go_wp2_with fail;go_ret;exact ⟨by rw [HR.out];rfl,cd.out⟩
def mI (r:Rc) (x:Int):Prop:=(fd r.s=false/\x=5)∨(fd r.s=true/\¬ lX r.p.P/\x=1)∨(fd r.s=true/\lX r.p.P/\x=0)
theorem mI.zero {r:Rc} {x:Int} (h:mI r x):x=0↔(fd r.s=true/\lX r.p.P):=by
 rcases h with ⟨h1,rfl⟩ | ⟨h1,h2,rfl⟩ | ⟨h1,h2,rfl⟩
 ·simp [h1]
 ·simp [h2]
 ·simp [h1,h2]
theorem jz (r:Rc) (w:World) (hR:dp w r):Calls Tryz.prog 86 #[ReV (mkR r)] w fun e w'=>cS w w' e (mI r):=by
 have HX:=hide (xf w (mkR r));have az:=hide (ze w (.cells (ReC (mkR r)) 84));have HS:=hide (hR.1.below az.out);have hs:=hR.2;clear hR;obtain ⟨wk,cq⟩:∃ wk,w.alloc (.cells (ReC (mkR r)) 84)=wk:=⟨_,rfl⟩;obtain ⟨G,hG⟩:∃ G,w.heap.size=G:=⟨_,rfl⟩;rw [cq] at HX az HS;rw [hG] at HX;have c0:=HX.out.sk;go_enter Tryz.func86,Tryz.ntmps86;go_wp2_with fail;clear cq;refine (kZ r.s _ hs).mono ?_;rintro e w2 ⟨rfl,b2⟩;have cd:=wTr az b2;have dN:=hide (HX.out.below b2);have eM:=hide (HS.out.below b2);clear b2 c0
 cases hg:fd r.s with
 | false =>
  have HE:Hid (mI r 5):=.inl ⟨hg,rfl⟩;clear hg;go_wp2_with fail;go_ret;exact ⟨_,rfl,HE.out,cd.out⟩
 | true =>
  have HG:=hide hg;clear hg;have l2:=zi dN.out.past;go_wp2_with fail;refine (qP r.p _ eM.out).mono ?_;rintro e w3 ⟨b,rfl,hb,b3⟩;have aN:=wTr cd b3;have ex:=hide (dN.out.below b3);have rD:=hide (eM.out.below b3);clear b3 l2
  cases b with
  | false =>
   have HE:Hid (mI r 1):=.inr (.inl ⟨HG.out,fun h=>(by have:=hb.out.2 h.1;cases this),rfl⟩);clear hb;go_wp2_with fail;go_ret;exact ⟨_,rfl,HE.out,aN.out⟩
  | true =>
   have HF:Hid (af r.p.P):=hb.out.1 rfl;clear hb;have l3:=zi ex.out.past;go_wp2_with fail;refine (jg r.p _ rD.out).mono ?_;rintro e w4 ⟨b,rfl,hb,b4⟩;have aR:=wTr aN b4;clear b4 l3
   cases b with
   | true =>
    have HE:Hid (mI r 1):=.inr (.inl ⟨HG.out,fun h=>h.2 (hb.1 rfl),rfl⟩);clear hb;go_wp2_with fail;go_ret;exact ⟨_,rfl,HE.out,aR.out⟩
   | false =>
    have HE:Hid (mI r 0):=.inr (.inr ⟨HG.out,⟨HF.out,fun h=>(by have:=hb.2 h;cases this)⟩,rfl⟩);clear hb;go_wp2_with fail;go_ret;exact ⟨_,rfl,HE.out,aR.out⟩
def eH (a b:ByteArray):Int:=Lib.compareBytes a.data.toList b.data.toList
def lh (a b:Rc) (z:Int):Prop:=(eH a.s b.s≠0/\z=eH a.s b.s)∨(eH a.s b.s=0/\gK a.p.P b.p.P z)
theorem lh.unique {a b:Rc} {z z':Int} (h:lh a b z) (h':lh a b z'):z=z':=by
 rcases h with ⟨h1,h2⟩ | ⟨h1,h2⟩ <;> rcases h' with ⟨g1,g2⟩ | ⟨g1,g2⟩
 ·rw [h2,g2]
 ·exact absurd g1 h1
 ·exact absurd h1 g1
 ·exact h2.unique g2
theorem xJ (a b:Rc) (w:World) (hA:dp w a) (hB:dp w b):Calls Tryz.prog 61 #[ReV (mkR a),ReV (mkR b)] w fun e w'=>cS w w' e (lh a b):=by
 have b1:=ze w (.cells (ReC (mkR a)) 84);have b2:=ze (w.alloc (.cells (ReC (mkR a)) 84)) (.cells (ReC (mkR b)) 84);have X2:=xf (w.alloc (.cells (ReC (mkR a)) 84)) (mkR b);rw [World.size_alloc] at X2;have fq:=hide ((xf w (mkR a)).below b2);have fL:=hide X2;have az:=hide (b1.trans (b2.mono b1.size));have iD:=hide (hA.1.below az.out);have gk:=hide (hB.1.below az.out);clear b1 b2 X2 hA hB;obtain ⟨wk,cq⟩:∃ wk,(w.alloc (.cells (ReC (mkR a)) 84)).alloc (.cells (ReC (mkR b)) 84)=wk:=⟨_,rfl⟩;obtain ⟨G,hG⟩:∃ G,w.heap.size=G:=⟨_,rfl⟩;rw [cq] at fq fL az iD gk;rw [hG] at fq fL;have c1:=fq.out.sk;have c2:=fL.out.sk;have l1:=zi fq.out.past;have l2:=zi fL.out.past;go_enter Tryz.func61,Tryz.ntmps61;go_wp2_with fail;clear cq;refine (Tryz.strings_Compare a.s b.s _).mono ?_;rintro e w' ⟨rfl,rfl⟩
 by_cases h0:eH a.s b.s=0
 ·have HZ:=hide h0;rw [show Lib.compareBytes a.s.data.toList b.s.data.toList=0 from h0];clear h0;go_wp2_with fail;refine (vT a.p b.p _ iD.out gk.out).mono ?_;rintro e w2 ⟨k,rfl,hk,b2⟩;have HF:Hid (lh a b k/\Below w.heap.size w w2):=⟨.inr ⟨HZ.out,hk⟩,az.out.trans (b2.mono az.out.size)⟩;clear hk b2 l1 l2;go_wp2_with fail;go_ret;exact ⟨_,rfl,HF.out.1,HF.out.2⟩
 ·obtain ⟨z,hz⟩:∃ z,eH a.s b.s=z:=⟨_,rfl⟩;have HF:Hid (lh a b z):=.inl ⟨h0,hz.symm⟩;rw [show Lib.compareBytes a.s.data.toList b.s.data.toList=z from hz]
  have aT:(z != 0)=true:=by rw [hz] at h0;simpa using h0
  clear h0 hz;go_wp2_with fail;go_ret;exact ⟨_,rfl,HF.out,az.out⟩
end
section
open Go.RowKit
attribute [local go_sem ↓] zl zk zR zQ
attribute [local go_sem] zf zh zy zH
theorem zT:(#[.string ⟨#[]⟩,.slice none 0 0,.slice none 0 0]:Array Value)=ReC re0:=rfl
attribute [local go_sem] zT
structure RcS (w:World) (ao:Option Addr) (n cap:Nat) (L:List Rc):Prop where
 len:L.length=n
 nil:ao=none -> n=0
 at_:∀ ad,ao=some ad -> ∀ t,t < n -> gQ w (ad.add (t * 3)) (mkR (L.getD t rc0))
 ok:∀ r∈L,dp w r
 big:n <= 2199023255552
theorem RcS.below {w w':World} {ao:Option Addr} {n cap:Nat} {L:List Rc} (h:RcS w ao n cap L) (hb:Below w.heap.size w w'):RcS w' ao n cap L:=
 ⟨h.len,h.nil,fun ad e t ht=>(h.at_ ad e t ht).on hb,fun r hr=>(h.ok r hr).below hb,h.big⟩
theorem RcS.at {w:World} {ao:Option Addr} {n cap:Nat} {L:List Rc} (h:RcS w ao n cap L) (k:Nat) (hk:k < n):∃ ad,ao=some ad/\gQ w (ad.add (k * 3)) (mkR (L.getD k rc0)):=by
 cases ao with
 | none=>have:=h.nil rfl;omega
 | some ad=>exact ⟨ad,rfl,h.at_ ad rfl k hk⟩
theorem RcS.okAt {w:World} {ao:Option Addr} {n cap:Nat} {L:List Rc} (h:RcS w ao n cap L) (k:Nat) (hk:k < n):dp w (L.getD k rc0):=by
 have hl:=h.len;rw [List.getD_eq_getElem?_getD,List.getElem?_eq_getElem (by omega)];exact h.ok _ (List.getElem_mem _)
theorem RcS.empty (w:World):RcS w none 0 0 []:=⟨rfl,fun _=>rfl,(fun ad h=>by cases h),(fun r h=>by cases h),by decide⟩
def aM (r:Rc):Prop:=fd r.s=true/\lX r.p.P
def LtR (a b:Rc):Prop:=∃ z,lh a b z/\z < 0
def OkR (L:List Rc) (k:Nat):Prop:=∀ j,j < k -> aM (L.getD j rc0)/\(0 < j -> LtR (L.getD (j - 1) rc0) (L.getD j rc0))
theorem OkR.snoc {L:List Rc} {k:Nat} (h:OkR L k) (h1:aM (L.getD k rc0)) (h2:0 < k -> LtR (L.getD (k - 1) rc0) (L.getD k rc0)):OkR L (k+1):=by
 intro j hj;by_cases e:j=k
 ·subst e;exact ⟨h1,h2⟩
 ·exact h j (by omega)
theorem yK (L:List Rc):OkR L 0:=fun j hj=>absurd hj (Nat.not_lt_zero j)
def Ic (L:List Rc) (n:Nat) (x:Int):Prop:=(x=0/\OkR L n)∨(x=1/\¬ OkR L n)
theorem qY (ao:Option Addr) (n cap:Nat) (L:List Rc) (w:World) (hS:RcS w ao n cap L):Calls Tryz.prog 60 #[.slice ao n cap] w fun e w'=>cS w w' e (Ic L n):=by
 have HS:=hide hS;have hn:=hS.big;clear hS;go_enter Tryz.func60,Tryz.ntmps60;go_wp2_with fail;go_loopw [7] (fun i wr=>∃ k:Nat,k <= n/\i = .int .i64 k/\Hid (OkR L k)/\Hid (Below w.heap.size w wr)) (fun i _=>n - (intOf i).toNat)
 case atStart=>exact ⟨0,Nat.zero_le _,rfl,yK L,Below.refl _ _⟩
 case round =>
  obtain ⟨k,hk,rfl,HK,HB⟩:=hrel
  rename World=>wr
  by_cases aq:k < n
  ·obtain ⟨ad,rfl,A0⟩:=(HS.out.below HB.out).at k aq;have dz:=zI A0;have HO:=hide ((HS.out.below HB.out).okAt k aq);have Bo:=hide (HS.out.below HB.out);obtain ⟨r,Hr⟩:∃ r,Hid (L.getD k rc0=r):=⟨_,rfl⟩;rw [Hr.out] at dz HO;obtain ⟨gr,LM⟩:∃ g,wr.heap.size=g:=⟨_,rfl⟩;obtain ⟨w1,cr,X1,B1,-⟩:=dY wr (mkR r) gr LM;have HX:=hide X1;have aW:=wTr HB B1;have pX:=hide (HO.out.below B1);have Ch:=hide (Bo.out.below B1);clear X1 B1 A0 HO Bo;have cj:=hide aq;by_cases iA:k=0
   ·have sh:decide (0 < k)=false:=by rw [decide_eq_false_iff_not];omega
    have E3:=hide iA;clear iA;go_wp2_with fail;clear cr dz;refine wp_region_held_drew (S:=fun v=>(fY (.pointer (some ⟨gr,0,none⟩))).run Tryz.prog v = .ok (.agg (ReC (mkR r))) v) (by kernel_rfl) (qU (HX.out.below (zd w1))) (fun hHeld=>?_);refine wU 0 ?_;refine wR 1 fun K hK=>?_;go_simp;go_wp2_with fail;refine (jz r _ (pX.out.below (zd w1))).mono ?_;rintro e w2 ⟨x,rfl,hx,b2⟩;have rx:Below w1.heap.size w1 w2:=(zd w1).trans b2;have cd:=hide rx;refine hK.out _ _ (qU (HX.out.below (rx))) (fun hHeld=>?_);clear hK K b2;by_cases rg:x=0
    ·obtain rfl:=rg
     have AK:Hid (aM (L.getD k rc0)):=by rw [Hr.out];exact hx.zero.1 rfl
     clear hx;refine wU 2 ?_;refine wU 3 ?_;refine wU 4 ?_;refine wU 5 ?_;refine wU 6 ?_;refine wV 7 ?_;refine wV 8 ?_;refine wV 9 ?_;refine wV 10 ?_;refine wV 11 ?_;refine wV 12 ?_;refine wV 13 ?_;refine wV 14 ?_;refine wU 15 ?_;refine wU 16 ?_;refine wD ?_ _;clear hHeld;go_wp2_with fail;go_roundw
     case rel=>exact ⟨k+1,by omega,by simp,HK.out.snoc AK.out (fun h=>absurd h (by have:=E3.out;omega)),aW.out.trans (cd.out.mono aW.out.size)⟩
     case measure=>simp [intOf];omega
    ·have lE:Hid (¬ OkR L n):=fun h=>rg (hx.zero.2 (by have:=(h k cj.out).1;rw [Hr.out] at this;exact this))
     have Kv:(x != 0)=true:=by simpa using rg
     clear hx rg;refine wU 2 ?_;refine wU 3 ?_;refine wV 4 ?_;refine wV 5 ?_;refine wV 6 ?_;refine wV 7 ?_;refine wV 8 ?_;refine wV 9 ?_;refine wV 10 ?_;refine wV 11 ?_;refine wV 12 ?_;refine wV 13 ?_;refine wV 14 ?_;refine wV 15 ?_;refine wU 16 ?_;refine wD ?_ _;clear hHeld;go_wp2_with fail;go_ret;exact ⟨_,rfl,.inr ⟨rfl,lE.out⟩,aW.out.trans (cd.out.mono aW.out.size)⟩
   ·obtain ⟨j,Hj⟩:∃ j,Hid (k=j+1):=⟨k - 1,(show k=k - 1+1 by omega)⟩
    have iR:j < n:=by have:=Hj.out;omega
    have NM:IntKind.i64.wrap ((k:Int) - 1)=(j:Int):=by rw [IntKind.wrap_i64];have:=Hj.out;omega
    have sh:decide (0 < k)=true:=by rw [decide_eq_true_iff];omega
    obtain ⟨ad',e',Aj⟩:=Ch.out.at j iR;obtain rfl:=Option.some.inj e';have BB:=hide (Ch.out.okAt j iR);obtain ⟨q,Hq⟩:∃ q,Hid (L.getD j rc0=q):=⟨_,rfl⟩;rw [Hq.out] at Aj BB;have FL:=hide Aj;clear Aj e';go_wp2_with fail;clear cr dz;refine wp_region_held_drew (S:=fun v=>(fY (.pointer (some ⟨gr,0,none⟩))).run Tryz.prog v = .ok (.agg (ReC (mkR r))) v/\(fY (.pointer (some (ad.add (j * 3))))).run Tryz.prog v = .ok (.agg (ReC (mkR q))) v) (by kernel_rfl) (⟨qU (HX.out.below (zd w1)),zI (FL.out.on (zd w1))⟩) (fun hHeld=>?_);refine wU 0 ?_;refine wR 1 fun K hK=>?_;go_simp;go_wp2_with fail;refine (jz r _ (pX.out.below (zd w1))).mono ?_;rintro e w2 ⟨x,rfl,hx,b2⟩;have rx:Below w1.heap.size w1 w2:=(zd w1).trans b2
    have cd:=hide rx;refine hK.out _ _ (⟨qU (HX.out.below (rx)),zI (FL.out.on (rx))⟩) (fun hHeld=>?_);clear hK K b2;by_cases rg:x=0
    ·obtain rfl:=rg
     have AK:Hid (aM (L.getD k rc0)):=by rw [Hr.out];exact hx.zero.1 rfl
     clear hx;refine wU 2 ?_;refine wU 3 ?_;refine wU 4 ?_;refine wU 5 ?_;refine wU 6 ?_;refine wU 7 ?_;refine wU 8 ?_;refine wU 9 ?_;refine wU 10 ?_;refine wU 11 ?_;refine wU 12 ?_;refine wR 13 fun K hK=>?_;go_simp;go_wp2_with fail;refine (xJ q r _ (BB.out.below rx) (pX.out.below rx)).mono ?_;rintro e w3 ⟨z,rfl,hz,b3⟩;have gW:Below w1.heap.size w1 w3:=cd.out.trans (b3.mono cd.out.size);have aN:=hide gW;refine hK.out _ _ (⟨qU (HX.out.below (gW)),zI (FL.out.on (gW))⟩) (fun hHeld=>?_);clear hK K b3 rx;by_cases dn:(0:Int) <= z
     ·have As:decide (0 <= z)=true:=decide_eq_true dn
      have lE:Hid (¬ OkR L n):=fun h=>by
       have h2:=(h k cj.out).2 (by have:=Hj.out;omega);rw [show k - 1=j by have:=Hj.out;omega,Hr.out,Hq.out] at h2;obtain ⟨z2,h3,h4⟩:=h2;have:=hz.unique h3;omega
      clear hz dn;refine wU 14 ?_;refine wU 15 ?_;refine wU 16 ?_;refine wD ?_ _;clear hHeld;go_wp2_with fail;go_ret;exact ⟨_,rfl,.inr ⟨rfl,lE.out⟩,aW.out.trans (aN.out.mono aW.out.size)⟩
     ·have As:decide (0 <= z)=false:=decide_eq_false dn
      have fi:Hid (0 < k -> LtR (L.getD (k - 1) rc0) (L.getD k rc0)):=fun _=>by
       rw [show k - 1=j by have:=Hj.out;omega,Hr.out,Hq.out];exact ⟨z,hz,by omega⟩
      clear hz dn;refine wU 14 ?_;refine wU 15 ?_;refine wU 16 ?_;refine wD ?_ _;clear hHeld;go_wp2_with fail;go_roundw
      case rel=>exact ⟨k+1,by omega,by simp,HK.out.snoc AK.out fi.out,aW.out.trans (aN.out.mono aW.out.size)⟩
      case measure=>simp [intOf];omega
    ·have lE:Hid (¬ OkR L n):=fun h=>rg (hx.zero.2 (by have:=(h k cj.out).1;rw [Hr.out] at this;exact this))
     have Kv:(x != 0)=true:=by simpa using rg
     clear hx rg;refine wU 2 ?_;refine wU 3 ?_;refine wV 4 ?_;refine wV 5 ?_;refine wV 6 ?_;refine wV 7 ?_;refine wV 8 ?_;refine wV 9 ?_;refine wV 10 ?_;refine wV 11 ?_;refine wV 12 ?_;refine wV 13 ?_;refine wV 14 ?_;refine wV 15 ?_;refine wU 16 ?_;refine wD ?_ _;clear hHeld;go_wp2_with fail;go_ret;exact ⟨_,rfl,.inr ⟨rfl,lE.out⟩,aW.out.trans (cd.out.mono aW.out.size)⟩
  ·obtain rfl:k=n:=by omega
   go_wp2_with fail;go_ret;exact ⟨_,rfl,.inl ⟨rfl,HK.out⟩,HB.out⟩
end
section

def KC (P:Int -> Prop) (k:Int):Prop:=(k=0/\∀ n,¬ P n)∨(1 <= k/\P k/\∀ n,P n -> k <= n)
def If (A:List Rn) (k:Int):Prop:=(k=0/\∀ n,¬ mem A n)∨(mem A k/\∀ n,mem A n -> n <= k)
def Ns (A:List Rn) (f:Int) (n:Int):Prop:=1 <= n/\n <= 1000000000/\¬ mem A n/\f <= n
end
section
open Go.RowKit
attribute [local go_sem ↓] ki j8
attribute [local go_sem] zZ zD zN qr
end
section
open Go.RowKit
attribute [local go_sem ↓] zl zk kP kN zfz
attribute [local go_sem] xO q7 zw zf zW zh qs
def pl (P:Pst) (r:Int) (k:Int):Prop:=(V.isR r=true/\If (aa P r.toNat) k)∨(V.isR r=false/\k=0)
def Hl (w w':World) (e:Ending) (P:Int -> Prop):Prop:=∃ k,e = .returned (.int .i64 k)/\P k/\Below w.heap.size w w'
end
section
open Go.RowKit

def ldD (v:Value):Sem Value:=Instr.loadAt 64 v
theorem qg (v:Value):Instr.loadAt 64 v=ldD v:=rfl
def stD (p v:Value):Sem Unit:=Instr.storeAt 64 p v
theorem qf (p v:Value):Instr.storeAt 64 p v=stD p v:=rfl
theorem iY:(Tryz.prog.info? 64).map (·.size)=some 2:=by kernel_rfl
theorem pO:(Tryz.prog.info? 64).map (fun i=>(i.zero,i.size,i.bytes))=some (some (.agg #[.int .i64 0,.int .i64 0]),2,16):=by kernel_rfl
theorem qw {w:World} {p:Addr} {r:Rn} (A:fR w p r):(ldD (.pointer (some p))).run Tryz.prog w = .ok (RV r) w:=by
 have hl:=run_loadCells_list (P:=Tryz.prog) (w:=w) p (RC r).toList (fun j v hv=>by
  match j,hv with
  | 0,hv=>cases hv;rw [add_zero];exact A.c0
  | 1,hv=>cases hv;exact A.c1
  | j+2,hv=>simp [RC] at hv)
 unfold ldD;simp only [Instr.loadAt,Instr.sureAddr,Sem.run_bind,Sem.run_pure,Result.andThen]
 cases hq:Tryz.prog.info? 64 with
 | none=>have:=iY;simp [hq] at this
 | some x =>
  have hs:x.size=2:=by have:=iY;simpa [hq] using this
  have eL:(isAgg 64).run Tryz.prog w = .ok true w:=by
   unfold isAgg;rw [Sem.run_bind,run_underlying Tryz.underlying64 w];rfl
  have e2:(RC r).toList.length=2:=rfl;rw [e2] at hl;simp [loadVar,Sem.run_bind,eL,sizeOf,typeInfo,hq,hs,hl,RV]
theorem zfN {w:World} {g:Nat} {T:TypeId} {r r':Rn} (A:Box w g T r):(stD (.pointer (some ⟨g,0,none⟩)) (RV r')).run Tryz.prog w = .ok () (w.setRow g (RC r')):=by
 unfold stD;have h:=run_storeCells_from (P:=Tryz.prog) g T (RC r').toList 0 (RC r) w A (by simp [RC]) (jE r')
 cases hq:Tryz.prog.info? 64 with
 | none=>have:=iY;simp [hq] at this
 | some x =>
  have hs:x.size=2:=by have:=iY;simpa [hq] using this
  simp only [Instr.storeAt,Instr.sureAddr,Sem.run_bind,Sem.run_pure,Result.andThen,storeVar,sizeOf,typeInfo,zD,zN];simp at h;simp [h,hq,hs]
theorem DT (w:World) (r:Rn) (g:Nat) (hg:w.heap.size=g):∃ w':World,(stD (.pointer (some ⟨g,0,none⟩)) (RV r)).run Tryz.prog (w.alloc (.cells (RC rn0) 64)) = .ok () w'/\Box w' g 64 r/\Below w.heap.size w w'/\w'.heap.size=w.heap.size+1:=by
 subst hg;refine ⟨_,zfN (qx w 64 rn0),(qx w 64 rn0).setRow,zg (ze w _) (Nat.le_refl _),by simp [World.setRow]⟩
structure ez (B0 B:Nat) (w w':World) (ao:Option Addr) (cap:Nat) (acc:List Rn):Prop where
 own:w'.ownsRow B 64 2 (.slice ao acc.length cap) acc.length (rcs acc)
 below:Below B0 w w'
 hB:B <= w'.heap.size
 hB0:B0 <= B
theorem ez.later {B0 B:Nat} {w w' w2:World} {ao:Option Addr} {cap:Nat} {acc:List Rn} (O:ez B0 B w w' ao cap acc) (hb:Below w'.heap.size w' w2):ez B0 B w w2 ao cap acc:=by
 refine ⟨⟨O.own.1,?_⟩,O.below.trans (hb.mono (Nat.le_trans O.hB0 O.hB)),Nat.le_trans O.hB hb.size,O.hB0⟩;rcases O.own.2 with h | ⟨g,cap2,cur,hv,dV,dB,r⟩
 ·exact Or.inl h
 ·exact Or.inr ⟨g,cap2,cur,hv,dV,(hb.block g (Array.getElem?_eq_some_iff.1 dB).1).trans dB,r⟩
theorem zeh {w:World} {E:List Rn} {ad:Addr} (h:∀ t,t < E.length -> fR w (ad.add (t * 2)) (E.getD t rn0)) (j:Nat) (u:Value) (hj:(rcs E)[j]? = some u):w.cell? (ad.add j)=some u:=by
 have hl:j < E.length * 2:=by rw [<- qm];exact (List.getElem?_eq_some_iff.1 hj).1
 have ht:j / 2 < E.length:=by omega
 have e:=vQ E (j / 2) (j % 2) ht (by omega);rw [show j / 2 * 2+j % 2=j by omega,hj] at e;have A:=h (j / 2) ht
 have h2:j % 2=0∨j % 2=1:=by omega
 rcases h2 with h2 | h2
 ·rw [h2] at e
  have e':u = .int .i64 (E.getD (j / 2) rn0).lo:=by simpa [RC] using e
  rw [e',show ad.add j=ad.add (j / 2 * 2) by rw [show j / 2 * 2=j by omega]];exact A.c0
 ·rw [h2] at e
  have e':u = .int .i64 (E.getD (j / 2) rn0).hi:=by simpa [RC] using e
  have:=A.c1;rw [qt,show j / 2 * 2+1=j by omega] at this;rw [e'];exact this
theorem ez.append {B0 B:Nat} {w w':World} {ao:Option Addr} {cap:Nat} {acc:List Rn} (O:ez B0 B w w' ao cap acc) (E:List Rn) (ad:Addr) (m c:Nat) (hm:E.length=m) (hE:∀ t,t < m -> fR w' (ad.add (t * 2)) (E.getD t rn0)) (cP:acc.length+m <= 8796093022207)
  {ops:Array Oper} {rest:List Oper} {o:Oper} {a:Act} {Q:Exit -> Act -> World -> Prop} (hgd:o.guard=none) (s x:Operand) (ho:o.op = .call { callee:=.builtin .append,args:=#[s,x],argTypes:=#[123,123] })
  (n:Nat) (hn:acc.length=n) (hs:a.eval s = .slice ao n cap) (hx:a.eval x = .slice (some ad) m c)
  (hK:∀ (ao2:Option Addr) (cap2:Nat) (w2:World),ez B0 B w w2 ao2 cap2 (acc++E) -> wpList Tryz.prog ops Q rest (a.put o.dst (.slice ao2 (n+m) cap2)) w2) :
  wpList Tryz.prog ops Q (o :: rest) a w':=by
 subst hn hm;obtain ⟨i0,hi,dn,dm,ef⟩:=info_parts pO;have hB:=O.hB;have hB0:=O.hB0;refine wpList_append_own _ hgd s x 123 ho B 64 i0 (.agg #[.int .i64 0,.int .i64 0]) 2 16 Tryz.underlying123 hi dn dm ef rfl (by decide) _ acc.length (rcs acc) hs O.own ad E.length c (rcs E) hx (qm E) (fun j u hj=>zeh hE j u hj) (zaH E) (by unfold maxLen;omega) (by omega) hB ?_;intro v' w2 cp aC _;have dv:∀ k,(Value.slice ao acc.length cap).ownBlock=some k -> B <= k:=fun k hk=>(O.own.lt k hk).1;have eE:=aC.size;have mp:Below B0 w w2:=O.below.grown aC (by omega) (fun k hk=>by have:=dv k hk;omega);rw [<- xj] at cp;rcases cp.2 with ⟨h0,eU⟩ | ⟨g,cap2,cur,hv,r⟩
 ·subst h0;have e1:acc=[]:=List.eq_nil_of_length_eq_zero (by omega);have e2:E=[]:=List.eq_nil_of_length_eq_zero (by omega);subst e1 e2;exact hK none 0 w2 ⟨cp,mp,by omega,hB0⟩
 ·subst hv;refine hK (some ⟨g,0,none⟩) cap2 w2 ⟨?_,mp,by omega,hB0⟩;rw [List.length_append];exact cp
theorem ez.appendNone {B0 B:Nat} {w w':World} {ao:Option Addr} {cap:Nat} {acc:List Rn} (O:ez B0 B w w' ao cap acc)
  {ops:Array Oper} {rest:List Oper} {o:Oper} {a:Act} {Q:Exit -> Act -> World -> Prop} (hgd:o.guard=none) (s x:Operand) (ho:o.op = .call { callee:=.builtin .append,args:=#[s,x],argTypes:=#[123,123] })
  (n:Nat) (hn:acc.length=n) (hs:a.eval s = .slice ao n cap) (hx:a.eval x = .slice none 0 0)
  (hK:wpList Tryz.prog ops Q rest (a.put o.dst (.slice ao n cap)) w') :
  wpList Tryz.prog ops Q (o :: rest) a w':=by
 subst hn;obtain ⟨i0,hi,dn,dm,ef⟩:=info_parts pO;exact wpList_append_own_none hgd s x 123 ho B 64 i0 2 Tryz.underlying123 hi _ acc.length (rcs acc) hs O.own hx hK
theorem ez.src {B0 B:Nat} {w w':World} {ao:Option Addr} {cap:Nat} {acc:List Rn} (O:ez B0 B w w' ao cap acc) (hl:acc.length <= 8796093022207):aU w' ao acc.length cap acc/\∀ ad,ao=some ad -> B <= ad.block:=by
 rcases O.own.2 with ⟨h0,eU⟩ | ⟨g,cap2,cur,hv,dV,dB,hnc,fw,hcsz,htake⟩
 ·simp only [Value.slice.injEq] at h0;obtain ⟨rfl,e0,rfl⟩:=h0;exact ⟨⟨rfl,fun _=>⟨eU,rfl⟩,(fun ad h=>by cases h),by omega,Nat.zero_le _,hl⟩,fun ad h=>(by cases h)⟩
 ·simp only [Value.slice.injEq,true_and] at hv;obtain ⟨rfl,rfl⟩:=hv
  have cell:∀ t j,t < acc.length -> j < 2 -> w'.cell? ⟨g,t * 2+j,none⟩=(RC (acc.getD t rn0)).toList[j]?:=fun t j ht hj=>by
   rw [O.own.cellAt (t * 2+j) (by omega),vQ _ t j ht hj]
  refine ⟨⟨rfl,fun h=>(by cases h),fun ad h t ht=>?_,hnc,fw,hl⟩,fun ad h=>by obtain rfl:=Option.some.inj h;exact dV⟩;obtain rfl:=Option.some.inj h;refine ⟨?_,?_⟩
  ·rw [Addr.add_lit,Nat.zero_add];exact cell t 0 ht (by omega)
  ·rw [Addr.add_lit,Addr.add_lit,Nat.zero_add];exact cell t 1 ht (by omega)
theorem ez.appendS {B0 B:Nat} {w w':World} {ao:Option Addr} {cap:Nat} {acc:List Rn} (O:ez B0 B w w' ao cap acc) (E:List Rn) (xo:Option Addr) (m c:Nat) (S:aU w' xo m c E) (cP:acc.length+m <= 8796093022207)
  {ops:Array Oper} {rest:List Oper} {o:Oper} {a:Act} {Q:Exit -> Act -> World -> Prop} (hgd:o.guard=none) (s x:Operand) (ho:o.op = .call { callee:=.builtin .append,args:=#[s,x],argTypes:=#[123,123] })
  (n:Nat) (hn:acc.length=n) (hs:a.eval s = .slice ao n cap) (hx:a.eval x = .slice xo m c)
  (hK:∀ (ao2:Option Addr) (cap2:Nat) (w2:World),ez B0 B w w2 ao2 cap2 (acc++E) -> wpList Tryz.prog ops Q rest (a.put o.dst (.slice ao2 (n+m) cap2)) w2) :
  wpList Tryz.prog ops Q (o :: rest) a w':=by
 cases xo with
 | some ad=>exact O.append E ad m c S.len (fun t ht=>S.cell ad rfl t ht) cP hgd s x ho n hn hs hx hK
 | none =>
  obtain ⟨rfl,rfl⟩:=S.nil rfl;have e:=List.eq_nil_of_length_eq_zero S.len;subst e;refine O.appendNone hgd s x ho n hn hs hx ?_;have:=hK ao cap w';rw [List.append_nil,Nat.add_zero] at this;exact this O
theorem zcV (w:World):ez w.heap.size w.heap.size w (w.alloc (.cells #[] 64)) (some ⟨w.heap.size,0,none⟩) 0 []:=
 ⟨World.ownsRow_made w #[] 0 (Nat.le_refl _) (Nat.zero_le _) rfl,ze w _,by simp,Nat.le_refl _⟩
end
section
open Go.RowKit
attribute [local go_sem ↓] zl zk zM zL qg qf
attribute [local go_sem] zf zh zj zr zD zN zZ qr
structure Fc where
 ao:Option Addr
 an:Nat
 ac:Nat
 es:List K.En
 p:Pv
 ro:Option Addr
 rn:Nat
 rc:Nat
 rs:List Rc
def mkF (f:Fc):ct:=⟨f.ao,f.an,f.ac,f.p.vo,f.p.vn,f.p.vc,f.p.co,f.p.cn,f.p.cc,f.ro,f.rn,f.rc⟩
structure a8 (w:World) (f:Fc):Prop where
 es:K.aF w f.ao f.an f.ac f.es
 p:ak w f.p
 rs:RcS w f.ro f.rn f.rc f.rs
theorem a8.below {w w':World} {f:Fc} (h:a8 w f) (hb:Below w.heap.size w w'):a8 w' f:=⟨h.es.below hb,h.p.below hb,h.rs.below hb⟩
theorem aD.cs {w:World} {g:Nat} {f:Fc} (h:aD w g (mkF f)):w.cell? ⟨g,0,none⟩=some (.slice f.ao f.an f.ac)/\w.cell? ⟨g,3,none⟩=some (.slice f.ro f.rn f.rc):=⟨h.c0,h.c3⟩
theorem aD.past {w:World} {g:Nat} {f:Fc} (h:aD w g (mkF f)):PAt w ⟨g,1,none⟩ f.p:=⟨h.c1,h.c2⟩
def aB (f:Fc):Prop:=K.okN f.es f.an=true/\af f.p.P/\OkR f.rs f.rn
def DR (f:Fc):Prop:=(f.an=0/\f.rn=0)∨(f.an=1/\f.rn=0/\∃ k,pl f.p.P (f.es.getD 0 K.en0).rep k/\k < (f.es.getD 0 K.en0).num)∨(f.an=0/\f.rn=1/\fC f.p.P)
def DF (f:Fc) (x:Int):Prop:=(¬ aB f/\x=1)∨(aB f/\¬ DR f/\x=2)∨(aB f/\DR f/\x=0)
def KA (f:Fc):Prop:=f.an=0/\f.rn=0/\fC f.p.P
end
end Go.Proofs.YtcilfelgpmfehaaGreat
namespace Go.Proofs
open Go.Shelf
def Tryz.sortD_ren:Go.Shelf.Ren:=⟨fun | 6=>104 | 15=>124 | 14=>142 | 28=>163 | 29=>164 | 20=>174 | 21=>175 | 22=>176 | 23=>177 | 24=>178 | 25=>179 | 26=>180 | 27=>181 | 46=>200 | 47=>184 | 48=>185 | 49=>201 | 50=>202 | 57=>219 | n=>n,fun | 22=>123 | 24=>64 | 25=>159 | 3=>3 | 39=>171 | 0=>0 | 53=>199 | 55=>201 | 4=>4 | 46=>193 | 45=>192 | 50=>179 | 5=>5 | 9=>9 | 66=>214 | 70=>218 | 76=>230 | 77=>125 | n=>n,fun | n=>n⟩
theorem Tryz.sortD:Go.Proofs.SlLaysF0.n6 Tryz.prog Tryz.sortD_ren:={
 mixed:=by kernel_rfl
 f6:=⟨Tryz.f104.name,by decide,Tryz.func104.trans (congrArg some (by kernel_rfl))⟩
 f14:=⟨Tryz.f142.name,by decide,Tryz.func142.trans (congrArg some (by kernel_rfl))⟩
 f15:=Tryz.func124.trans (congrArg some (by kernel_rfl))
 f20:=⟨Tryz.f174.name,by decide,Tryz.func174.trans (congrArg some (by kernel_rfl))⟩
 f21:=⟨Tryz.f175.name,by decide,Tryz.func175.trans (congrArg some (by kernel_rfl))⟩
 f22:=⟨Tryz.f176.name,by decide,Tryz.func176.trans (congrArg some (by kernel_rfl))⟩
 f23:=⟨Tryz.f177.name,by decide,Tryz.func177.trans (congrArg some (by kernel_rfl))⟩
 f24:=⟨Tryz.f178.name,by decide,Tryz.func178.trans (congrArg some (by kernel_rfl))⟩
 f25:=⟨Tryz.f179.name,by decide,Tryz.func179.trans (congrArg some (by kernel_rfl))⟩
 f26:=⟨Tryz.f180.name,by decide,Tryz.func180.trans (congrArg some (by kernel_rfl))⟩
 f27:=⟨Tryz.f181.name,by decide,Tryz.func181.trans (congrArg some (by kernel_rfl))⟩
 f28:=Tryz.func163.trans (congrArg some (by kernel_rfl))
 f29:=Tryz.func164.trans (congrArg some (by kernel_rfl))
 f46:=⟨Tryz.f200.name,by decide,Tryz.func200.trans (congrArg some (by kernel_rfl))⟩
 f47:=Tryz.func184.trans (congrArg some (by kernel_rfl))
 f48:=Tryz.func185.trans (congrArg some (by kernel_rfl))
 f49:=⟨Tryz.f201.name,by decide,Tryz.func201.trans (congrArg some (by kernel_rfl))⟩
 f50:=⟨Tryz.f202.name,by decide,Tryz.func202.trans (congrArg some (by kernel_rfl))⟩
 f57:=⟨Tryz.f219.name,by decide,Tryz.func219.trans (congrArg some (by kernel_rfl))⟩
 t0:=Tryz.underlying0
 a0:=Tryz.isAgg0
 z0:=Tryz.sizeOf0
 v0:=Tryz.zeroValue0
 t3:=Tryz.underlying3
 a3:=Tryz.isAgg3
 z3:=Tryz.sizeOf3
 v3:=Tryz.zeroValue3
 t4:=Tryz.underlying4
 a4:=Tryz.isAgg4
 z4:=Tryz.sizeOf4
 v4:=Tryz.zeroValue4
 t5:=Tryz.underlying5
 a5:=Tryz.isAgg5
 z5:=Tryz.sizeOf5
 v5:=Tryz.zeroValue5
 t9:=Tryz.underlying9
 a9:=Tryz.isAgg9
 z9:=Tryz.sizeOf9
 v9:=Tryz.zeroValue9
 t22:=Tryz.underlying123
 a22:=Tryz.isAgg123
 z22:=Tryz.sizeOf123
 v22:=Tryz.zeroValue123
 t25:=Tryz.underlying159
 a25:=Tryz.isAgg159
 z25:=Tryz.sizeOf159
 v25:=Tryz.zeroValue159
 t39:=Tryz.underlying171
 a39:=Tryz.isAgg171
 z39:=Tryz.sizeOf171
 v39:=Tryz.zeroValue171
 t45:=Tryz.underlying192
 a45:=Tryz.isAgg192
 z45:=Tryz.sizeOf192
 v45:=Tryz.zeroValue192
 t46:=Tryz.underlying193
 a46:=Tryz.isAgg193
 z46:=Tryz.sizeOf193
 v46:=Tryz.zeroValue193
 t50:=Tryz.underlying179
 a50:=Tryz.isAgg179
 z50:=Tryz.sizeOf179
 v50:=Tryz.zeroValue179
 t53:=Tryz.underlying199
 a53:=Tryz.isAgg199
 z53:=Tryz.sizeOf199
 v53:=Tryz.zeroValue199
 t55:=Tryz.underlying201
 a55:=Tryz.isAgg201
 z55:=Tryz.sizeOf201
 v55:=Tryz.zeroValue201
 t66:=Tryz.underlying214
 a66:=Tryz.isAgg214
 z66:=Tryz.sizeOf214
 v66:=Tryz.zeroValue214
 t70:=Tryz.underlying218
 a70:=Tryz.isAgg218
 z70:=Tryz.sizeOf218
 v70:=Tryz.zeroValue218
 t76:=Tryz.underlying230
 a76:=Tryz.isAgg230
 z76:=Tryz.sizeOf230
 v76:=Tryz.zeroValue230
 t77:=Tryz.underlying125
 a77:=Tryz.isAgg125
 z77:=Tryz.sizeOf125
 v77:=Tryz.zeroValue125 }
end Go.Proofs
