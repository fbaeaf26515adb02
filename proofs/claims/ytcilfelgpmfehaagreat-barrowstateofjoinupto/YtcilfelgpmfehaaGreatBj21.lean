/- QRy QRv QCp QRc GKr GKs BRr TUo TCk LPu LLtr LSrt LDd LShf LMr LOnc -/
import Derived.Deep.CutRange
import Derived.Laws.Cover1
import Derived.Test.YtcilfelgpmfehaaGreatBj20
import Derived.Deep.CutBlock
import Derived.Below
import Derived.Laws.MakeOwn
import Derived.Deep.LoopGhost
import Derived.Lib.SlicesCompact
import Derived.Shelf.SlSortCmp.WholeK
import Derived.Shelf.SlicesQ.Reverse
import Derived.Lib.OwnBridge
set_option maxRecDepth 100000
set_option maxHeartbeats 1600000
namespace Go.Proofs.YtcilfelgpmfehaaGreat
section
open Go.RowKit
attribute [local go_sem ↓] zl zk
attribute [local go_sem] xv q8 zw zf zW zh qs
def szn (N:Nat -> List Rn):Nat -> Int
 | 0=>0
 | k+1=>szn N k+sz (N k)
end
section
open Go.RowKit
attribute [local go_sem ↓] zl zk
attribute [local go_sem] xv q8 zw zf zW zh qs
end
section

theorem qK {a b:Int}:au a b=0↔a=b:=qZ.eq a b
theorem zfx:∀ (r:Nat) (x y:List Int),(∀ k,0 <= x.getD k 0) -> (∀ k,0 <= y.getD k 0) -> (∀ k,k < r -> x.getD k 0=y.getD k 0) -> x.getD r 0≠y.getD r 0 -> lex au x y=au (x.getD r 0) (y.getD r 0)
 | r,[],[],_,_,_,h=>by simp at h
 | r,[],b :: t,_,hy,_,h=>by
  have:=hy r;simp only [List.getD_nil] at h ⊢;rw [lex,au,if_pos (by omega)]
 | r,a :: s,[],hx,_,_,h=>by
  have:=hx r;simp only [List.getD_nil] at h ⊢;rw [lex,au,if_neg (by omega),if_pos (by omega)]
 | 0,a :: s,b :: t,_,_,_,h=>by
  simp only [List.getD_cons_zero] at h ⊢;rw [lex,if_neg (fun e=>h (qK.1 e))]
 | r+1,a :: s,b :: t,hx,hy,he,h=>by
  have h0:=he 0 (by omega);simp only [List.getD_cons_zero] at h0;simp only [List.getD_cons_succ] at h ⊢;rw [lex,if_pos (qK.2 h0)];exact zfx r s t (fun k=>by have:=hx (k+1);rwa [List.getD_cons_succ] at this) (fun k=>by have:=hy (k+1);rwa [List.getD_cons_succ] at this) (fun k hk=>by have:=he (k+1) (by omega);rwa [List.getD_cons_succ,List.getD_cons_succ] at this) h
theorem zbS {f g:Nat -> Int} (h:∀ k,k < 16 -> (V.aH f).getD k 0=(V.aH g).getD k 0):V.aH f=V.aH g:=
 xF fun r hr=>by rw [<- V.jG f r hr,<- V.jG g r hr,h r hr]
theorem yq {G:Nat -> List Rn} {P:Pst} (h:ae G P):∃ f:Nat -> Int,P.vec=V.aH f/\∀ k,0 <= P.vec.getD k 0:=by
 obtain ⟨N,hN,rfl⟩:=h;refine ⟨fun r=>aG (N r),rfl,fun k=>?_⟩
 show 0 <= (V.aH (fun r=>aG (N r))).getD k 0
 by_cases hk:k < 16
 ·rw [V.jG _ k hk];exact (ju (hN k hk).1).1
 ·have:=V.kL (fun r=>aG (N r));rw [List.getD,List.getElem?_eq_none (by rw [V.zO];omega)];simp
theorem zfZ {A B:List Sn} {i:Nat} (h:A.take i=B.take i) (h1:i < A.length) (h2:i < B.length) (aT:A.getD i sn0≠B.getD i sn0):lex cQ A B=cQ (A.getD i sn0) (B.getD i sn0):=by
 rw [jk xy A B i h (by omega) (by omega),List.drop_eq_getElem_cons h1,List.drop_eq_getElem_cons h2]
 have e1:A.getD i sn0=A[i]:=by simp [List.getD,h1]
 have e2:B.getD i sn0=B[i]:=by simp [List.getD,h2]
 rw [e1,e2] at aT;rw [e1,e2,lex,if_neg (fun e=>aT ((xy.eq _ _).1 e))]
theorem zbP {A B:List Sn} {i:Nat} (h:A.take i=B.take i) (h1:i < A.length) (h2:i < B.length) (he:A.getD i sn0=B.getD i sn0):A.take (i+1)=B.take (i+1):=by
 have e1:A.getD i sn0=A[i]:=by simp [List.getD,h1]
 have e2:B.getD i sn0=B[i]:=by simp [List.getD,h2]
 rw [List.take_succ_eq_append_getElem h1,List.take_succ_eq_append_getElem h2,h,<- e1,<- e2,he]
theorem zbw {A B:List Sn} {i:Nat} (h:A.take i=B.take i) (h1:i <= A.length) (h2:i <= B.length) (hi:¬ (i < A.length/\i < B.length)):lex cQ A B=au (A.length:Int) (B.length:Int):=by
 rw [jk xy A B i h h1 h2];unfold au;rcases Nat.lt_trichotomy A.length B.length with g | g | g
 ·have:i=A.length:=by omega
  subst this;rw [List.drop_length,List.drop_eq_getElem_cons g,lex,if_pos (by omega)]
 ·have:i=A.length:=by omega
  subst this;rw [List.drop_length,g,List.drop_length,lex,if_neg (by omega),if_neg (by omega)]
 ·have:i=B.length:=by omega
  subst this;rw [List.drop_length,List.drop_eq_getElem_cons g,lex,if_neg (by omega),if_pos (by omega)]
end
section
open Go.RowKit
attribute [local go_sem ↓] zl zk qX xu
attribute [local go_sem] zw zf zW zh qs qS qi xW qy
theorem kg (wr:World):Below wr.heap.size wr (wr.drew.alloc (.cells (SC sn0) 69)):=(zd wr).trans (ze wr.drew _)
theorem vC (wr:World):Below wr.heap.size wr ((wr.alloc (.cells (SC sn0) 69)).alloc (.cells (SC sn0) 69)).drew:=(kg wr).trans ((ze _ _).mono (kg wr).size)
theorem bv (wr:World) (x y:Sn) (g h:Nat) (hg:(g=wr.heap.size/\h=wr.heap.size+1)∨(g=wr.heap.size+1/\h=wr.heap.size)) :
  (stS (.pointer (some ⟨g,0,none⟩)) (SV x)).run Tryz.prog ((wr.alloc (.cells (SC sn0) 69)).alloc (.cells (SC sn0) 69)).drew = .ok () (((wr.alloc (.cells (SC sn0) 69)).alloc (.cells (SC sn0) 69)).drew.setRow g (SC x)) /\
  (stS (.pointer (some ⟨h,0,none⟩)) (SV y)).run Tryz.prog (((wr.alloc (.cells (SC sn0) 69)).alloc (.cells (SC sn0) 69)).drew.setRow g (SC x)) = .ok () ((((wr.alloc (.cells (SC sn0) 69)).alloc (.cells (SC sn0) 69)).drew.setRow g (SC x)).setRow h (SC y)) /\
  Hid (Below wr.heap.size wr (((wr.alloc (.cells (SC sn0) 69)).alloc (.cells (SC sn0) 69)).drew.setRow g (SC x))) /\
  Hid (Below wr.heap.size wr ((((wr.alloc (.cells (SC sn0) 69)).alloc (.cells (SC sn0) 69)).drew.setRow g (SC x)).setRow h (SC y))) /\
  Hid (cZ ((((wr.alloc (.cells (SC sn0) 69)).alloc (.cells (SC sn0) 69)).drew.setRow g (SC x)).setRow h (SC y)) g x/\cZ ((((wr.alloc (.cells (SC sn0) 69)).alloc (.cells (SC sn0) 69)).drew.setRow g (SC x)).setRow h (SC y)) h y/\Below wr.heap.size wr ((((wr.alloc (.cells (SC sn0) 69)).alloc (.cells (SC sn0) 69)).drew.setRow g (SC x)).setRow h (SC y))):=by
 have s1:=qF wr sn0
 have s2:cZ ((wr.alloc (.cells (SC sn0) 69)).alloc (.cells (SC sn0) 69)).drew (wr.heap.size+1) sn0:=by
  have:=qF (wr.alloc (.cells (SC sn0) 69)) sn0;rw [World.size_alloc] at this;exact this
 have s1':cZ ((wr.alloc (.cells (SC sn0) 69)).alloc (.cells (SC sn0) 69)).drew wr.heap.size sn0:=by
  have h:=s1.below (ze (wr.alloc (.cells (SC sn0) 69)) (.cells (SC sn0) 69));exact h
 have hb:=vC wr;generalize ((wr.alloc (.cells (SC sn0) 69)).alloc (.cells (SC sn0) 69)).drew=V at s2 s1' hb ⊢
 have hB:cZ V g sn0/\cZ V h sn0/\g≠h/\wr.heap.size <= g/\wr.heap.size <= h:=by
  rcases hg with ⟨rfl,rfl⟩ | ⟨rfl,rfl⟩
  ·exact ⟨s1',s2,by omega,by omega,by omega⟩
  ·exact ⟨s2,s1',by omega,by omega,by omega⟩
 obtain ⟨k1,k2,aT,l1,l2⟩:=hB;have k2':cZ (V.setRow g (SC x)) h sn0:=(setRow_other _ _ _ _ (Ne.symm aT)).trans k2;have k1':cZ (V.setRow g (SC x)) g x:=setRow_heap _ _ _ _ _ _ k1;have b1:=zg (cs:=SC x) hb l1;have b2:=zg (cs:=SC y) b1 l2;exact ⟨yG k1,yG k2',b1,b2,(setRow_other _ _ _ _ aT).trans k1',setRow_heap _ _ _ _ _ _ k2',b2⟩
theorem y7 {P Q:Pst} {k:Nat} (z1:∀ k,0 <= P.vec.getD k 0) (z2:∀ k,0 <= Q.vec.getD k 0) (he:∀ j,j < k -> P.vec.getD j 0=Q.vec.getD j 0) (aT:P.vec.getD k 0≠Q.vec.getD k 0):au (P.vec.getD k 0) (Q.vec.getD k 0)=dJ P Q:=by
 unfold dJ;rw [zfx k _ _ z1 z2 he aT,if_neg (fun e=>aT (qK.1 e))]
theorem zch {P Q:Pst} (h:P.vec=Q.vec):dJ P Q=lex cQ P.cloud Q.cloud:=by
 unfold dJ;rw [h,if_pos ((qZ.lex.eq _ _).2 rfl)]
theorem zbG {x y:Sn} (h:¬ x.rep=y.rep):cQ x y=au x.rep y.rep:=by unfold cQ;rw [if_neg (fun e=>h (qK.1 e))]
theorem zdz {x y:Sn} (h:x.rep=y.rep) (h1:¬ x.lo=y.lo):cQ x y=au x.lo y.lo:=by unfold cQ;rw [if_pos (qK.2 h),if_neg (fun e=>h1 (qK.1 e))]
theorem zdA {x y:Sn} (h:x.rep=y.rep) (h1:x.lo=y.lo):cQ x y=au x.hi y.hi:=by unfold cQ;rw [if_pos (qK.2 h),if_pos (qK.2 h1)]
theorem qh {Z:List Int} {k:Nat} (h:¬ k < Z.length):Z.getD k 0=0:=by simp [List.getD,h]
def Nv (P Q:Pst) (z:Int):Prop:=∃ X Y,ae (aa P) X/\ae (aa Q) Y/\z=dJ X Y
end
section
open Go.RowKit
attribute [local go_sem ↓] zl zk zR zQ
attribute [local go_sem] zf zh zy zH
end
section
open Go.RowKit
attribute [local go_sem ↓] zl zk zR zQ
attribute [local go_sem] zf zh zy zH zT
theorem zdG:∀ x y:List UInt8,Op.bytesLess x y=decide (Lib.compareBytes x y < 0)/\(x == y)=decide (Lib.compareBytes x y=0)
 | [],[]=>by simp [Op.bytesLess,Lib.compareBytes]
 | [],_ :: _=>by simp [Op.bytesLess,Lib.compareBytes]
 | _ :: _,[]=>by simp [Op.bytesLess,Lib.compareBytes]
 | a :: x,b :: y=>by
  obtain ⟨h1,h2⟩:=zdG x y;by_cases dW:a < b
  ·have aT:a≠b:=fun e=>by subst e;exact absurd dW (UInt8.lt_irrefl a)
   simp [Op.bytesLess,Lib.compareBytes,dW,aT]
  ·by_cases AJ:b < a
   ·have aT:a≠b:=fun e=>by subst e;exact absurd AJ (UInt8.lt_irrefl a)
    simp [Op.bytesLess,Lib.compareBytes,dW,AJ,aT]
   ·have he:a=b:=UInt8.le_antisymm (UInt8.not_lt.1 AJ) (UInt8.not_lt.1 dW);subst he
    have h3:(a :: x == a :: y)=(x == y):=by simp
    rw [h3,h2];simp only [Op.bytesLess,h1,Lib.compareBytes,if_neg dW];simp
theorem toL (s:ByteArray):s.toList=s.data.toList:=ByteArray.toList_eq s
theorem bE (a b:ByteArray):Op.bytesLess a.toList b.toList=decide (eH a b < 0)/\(a.toList == b.toList)=decide (eH a b=0):=by
 rw [toL,toL];exact zdG _ _
end
section
open Go.RowKit
attribute [local go_sem ↓] zl zk zR zQ
attribute [local go_sem] zf zh zy zH zT
end
section
open Go.RowKit Go.Maps Go.Sort
attribute [local go_sem ↓] zl zk zR zQ
attribute [local go_sem] zy zH zT
theorem RcT.drop {w:World} {ad:Addr} {n c:Nat} {L:List Rc} (h:RcT w (some ad) n c L) (k:Nat) (hk:k <= n):RcT w (some (ad.add (k * 3))) (n - k) (c - k) (L.drop k):=by
 have hl:=h.src.len;have hc:=h.room;have hb:=h.src.big;refine ⟨⟨by rw [List.length_drop];omega,fun e=>(by cases e),fun ad' e t ht=>?_,fun r hr=>h.src.ok r (List.mem_of_mem_drop hr),by omega⟩,by omega,fun e=>(by cases e)⟩;obtain rfl:=Option.some.inj e;have A:=h.src.at_ ad rfl (k+t) (by omega)
 have e1:(L.drop k).getD t rc0=L.getD (k+t) rc0:=by
  simp only [List.getD,List.getElem?_drop]
 rw [e1,qt,show k * 3+t * 3=(k+t) * 3 by omega];exact A
def Im (L F:List Rc):Prop:=Srt ck (plR F)/\(∀ y,y∈plR F↔y∈plR L)/\∀ r∈F,aM r
def OrA (w w':World) (x:Ending) (L:List Rc):Prop:=∃ (h:Hs) (F:List Rc),x = .returned (HsV h)/\RcT w' h.o h.n h.c F/\h.n <= L.length/\(∀ ad,h.o=some ad -> w.heap.size <= ad.block)/\Below w.heap.size w w'/\Im L F
def ZOf (A B:List Rc) (i j na nb:Nat) (z:Int):Prop:=(i=na/\z=1)∨(i < na/\j=nb/\z = -1)∨(i < na/\j < nb/\z=ck (rck (A.getD i rc0)) (rck (B.getD j rc0)))
section
variable {X Y D : List Rp} {A B : List Rc} {i j : Nat} {z : Int}
end
structure UO (w2 wr:World) (A B:List Rc) (i j:Nat) (h:Hs) (D:List Rc):Prop where
 own:aL w2.heap.size w2 wr h D
 okd:∀ r∈D,aM r
 mg:Mg ck (plR A) (plR B) (plR D) (plR (A.drop i)) (plR (B.drop j))
 num:h.n <= i+j
def UOv (w2:World) (A B:List Rc) (na nb:Nat) (v vi vj:Value) (wr:World):Prop:=∃ (i j:Nat) (h:Hs) (D:List Rc),i <= na/\j <= nb/\v = .slice h.o h.n h.c/\vi = .int .i64 (i:Int)/\vj = .int .i64 (j:Int)/\Hid (UO w2 wr A B i j h D)
def UrA (w w':World) (x:Ending) (L:List Rc) (n:Nat) (M:List Rc) (m:Nat):Prop:=(OkR L n/\OkR M m/\∃ (h:Hs) (F:List Rc),x = .returned (.tuple #[HsV h,.int .i64 0])/\RcT w' h.o h.n h.c F/\(∀ ad,h.o=some ad -> w.heap.size <= ad.block)/\h.n <= n+m/\Below w.heap.size w w'/\gS L M F)∨(¬ (OkR L n/\OkR M m)/\x = .returned (.tuple #[.slice none 0 0,.int .i64 1])/\Below w.heap.size w w')
end
section
open Go.RowKit
attribute [local go_sem ↓] zl zk zM zL
attribute [local go_sem] zf zh zj zr
def pH (f:Fc) (x:Int):Prop:=(x=0/\aB f)∨(x=1/\¬ aB f)
theorem wm {f:Fc} (hl:f.es.length=f.an):K.chk f.es=0↔K.okN f.es f.an=true:=by
 unfold K.chk;rw [hl]
 split <;> simp_all
theorem kA (f:Fc) (w:World) (hF:a8 w f):Calls Tryz.prog 47 #[FaV (mkF f)] w fun e w'=>cS w w' e (pH f):=by
 have HX:=hide (zP w (mkF f));have az:=hide (ze w (.cells (FaC (mkF f)) 29));have HS:=hide (hF.below az.out);clear hF;obtain ⟨wk,cq⟩:∃ wk,w.alloc (.cells (FaC (mkF f)) 29)=wk:=⟨_,rfl⟩;obtain ⟨G,hG⟩:∃ G,w.heap.size=G:=⟨_,rfl⟩;rw [cq] at HX az HS;rw [hG] at HX;obtain ⟨c0,c3⟩:=HX.out.cs;go_enter Tryz.func47,Tryz.ntmps47;go_wp2_with fail;clear cq hG;refine (K.qu f.ao f.an f.ac f.es _ HS.out.es).mono ?_;rintro e w1 ⟨rfl,b1⟩;have aW:=wTr az b1;have gX:=hide (HX.out.below b1);have ei:=hide (HS.out.below b1);clear b1 c0 c3;by_cases h0:K.chk f.es=0
 ·have H0:=hide h0;rw [h0];clear h0;have lp:=zi gX.out.past;go_wp2_with fail;refine (qP f.p _ ei.out.p).mono ?_;rintro e w2 ⟨b,rfl,hb,b2⟩;have cd:=wTr aW b2;have dN:=hide (gX.out.below b2);have eM:=hide (ei.out.below b2);clear b2 lp
  cases b with
  | false =>
   have HE:Hid (pH f 1):=.inr ⟨rfl,fun h=>(by have:=hb.2 h.2.1;cases this)⟩;clear hb;go_wp2_with fail;go_ret;exact ⟨_,rfl,HE.out,cd.out⟩
  | true =>
   have HI:Hid (af f.p.P):=hb.1 rfl;obtain ⟨-,c3⟩:=dN.out.cs;clear hb;go_wp2_with fail;refine (qY f.ro f.rn f.rc f.rs _ eM.out.rs).mono ?_;rintro e w3 ⟨x,rfl,hx,b3⟩;have aN:=wTr cd b3;clear b3 c3;rcases hx with ⟨rfl,h1⟩ | ⟨rfl,h1⟩
   ·have HE:Hid (pH f 0):=.inl ⟨rfl,(wm HS.out.es.1).1 H0.out,HI.out,h1⟩;clear h1;go_wp2_with fail;go_ret;exact ⟨_,rfl,HE.out,aN.out⟩
   ·have HE:Hid (pH f 1):=.inr ⟨rfl,fun h=>h1 h.2.2⟩;clear h1;go_wp2_with fail;go_ret;exact ⟨_,rfl,HE.out,aN.out⟩
 ·have HE:Hid (pH f 1):=.inr ⟨rfl,fun h=>h0 ((wm HS.out.es.1).2 h.1)⟩
  have aT:(K.chk f.es != 0)=true:=by simp [h0]
  clear h0;go_wp2_with fail;go_ret;exact ⟨_,rfl,HE.out,aW.out⟩
theorem tF (w:World) (f g:Fc):∃ wk,(w.alloc (.cells (FaC (mkF f)) 29)).alloc (.cells (FaC (mkF g)) 29)=wk/\Hid (aD wk w.heap.size (mkF f))/\Hid (aD wk (w.heap.size+1) (mkF g))/\Hid (Below w.heap.size w wk):=by
 have b1:=ze w (.cells (FaC (mkF f)) 29);have b2:=ze (w.alloc (.cells (FaC (mkF f)) 29)) (.cells (FaC (mkF g)) 29);have X2:=zP (w.alloc (.cells (FaC (mkF f)) 29)) (mkF g);rw [World.size_alloc] at X2;exact ⟨_,rfl,(zP w (mkF f)).below b2,X2,b1.trans (b2.mono b1.size)⟩
def uV (f g:Fc) (x:Int):Prop:=(x=0/\aB f/\aB g)∨(x=1/\¬ (aB f/\aB g))
theorem bf (f g:Fc) (w:World) (hF:a8 w f) (hG:a8 w g):Calls Tryz.prog 32 #[FaV (mkF f),FaV (mkF g)] w fun e w'=>cS w w' e (uV f g):=by
 obtain ⟨wk,cq,HX,HY,az⟩:=tF w f g;have HS:=hide (hF.below az.out);have HR:=hide (hG.below az.out);clear hF hG;have lf:=qd HX.out;go_enter Tryz.func32,Tryz.ntmps32;go_wp2_with fail;clear cq;refine (kA f _ HS.out).mono ?_;rintro e w1 ⟨x,rfl,hx,b1⟩;have aW:=wTr az b1;have Er:=hide (HY.out.below b1);have oo:=hide (HR.out.below b1);clear b1 lf;rcases hx with ⟨rfl,h1⟩ | ⟨rfl,h1⟩
 ·have H1:=hide h1;clear h1;have lg:=qd Er.out;go_wp2_with fail;clear lg;refine (kA g _ oo.out).mono ?_;rintro e w2 ⟨x,rfl,hx,b2⟩
  have HE:Hid (uV f g x/\Below w.heap.size w w2):=by
   refine ⟨?_,aW.out.trans (b2.mono aW.out.size)⟩;rcases hx with ⟨rfl,h2⟩ | ⟨rfl,h2⟩
   ·exact .inl ⟨rfl,H1.out,h2⟩
   ·exact .inr ⟨rfl,fun h=>h2 h.2⟩
  clear hx b2;go_wp2_with fail;go_ret;exact ⟨_,rfl,HE.out.1,HE.out.2⟩
 ·have HE:Hid (uV f g 1/\Below w.heap.size w w1):=⟨.inr ⟨rfl,fun h=>h1 h.1⟩,aW.out⟩;clear h1;go_wp2_with fail;go_ret;exact ⟨_,rfl,HE.out.1,HE.out.2⟩
end
end Go.Proofs.YtcilfelgpmfehaaGreat
namespace Go.Proofs.YtcilfelgpmfehaaGreat.K
section


def sF {α : Type} (le : α -> α -> Prop) (w:Nat) (L:List α):Prop:=∀ q,((L.drop (q * w)).take w).Pairwise le
def mrg {α : Type} (le : α -> α -> Bool) (L:List α) (i mid j en:Nat):List α := List.merge ((L.drop i).take (mid - i)) ((L.drop j).take (en - j)) le
structure Nk {α : Type} (le : α -> α -> Bool) (L M:List α) (n q f t:Nat):Prop where
 hf:f=2 * t * q
 hl:M.length=min f n
 hp:M.Perm (L.take f)
 hc:sF (fun x y=>le x y=true) (2 * q) M
end
section
open Go.RowKit
attribute [local go_sem ↓] zu zt qO
attribute [local go_sem] zC zs zB
def leE (x y:En):Bool := !ahead y x
end
section
open Go.RowKit
attribute [local go_sem ↓] zu zt
attribute [local go_sem] zC zs zB
attribute [local go_sem] xX
def sH (a b:Value):Sem Value:=Instr.makeSlice 22 a b
theorem vV (a b:Value):Instr.makeSlice 22 a b=sH a b:=rfl
attribute [local go_sem ↓] vV
def sE (L R:List En):Prop:=R.Perm L/\R.Pairwise (fun x y=>leE x y=true)
def Ij (w w':World) (e:Ending) (L:List En):Prop:=∃ R,sE L R/\pD w w' e R
end
section
open Go.RowKit

instance:DecidableEq En:=fun a b =>
 decidable_of_iff (a.rep=b.rep/\a.num=b.num/\a.sku=b.sku/\a.qty=b.qty) ⟨fun ⟨h1,h2,h3,h4⟩=>by cases a;cases b;simp_all,fun h=>by subst h;exact ⟨rfl,rfl,rfl,rfl⟩⟩
instance:Inhabited En:=⟨en0⟩
def aj (x y:En):Bool:=x.rep == y.rep && x.num == y.num
theorem zfj {x y:En} (h:leE x y=true) (hs:aj y x=false):ahead x y=true:=by
 simp [leE,ahead,aj] at *;omega
theorem jn {x y z:En} (h:ahead x y=true) (h2:ahead y z=true):ahead x z=true:=by
 simp [ahead] at *;omega
theorem jD (x:En):ahead x x=false:=by simp [ahead]
theorem za4 {x y:En} (h:ahead x y=true):ahead y x=false:=by
 simp [ahead] at *;omega
theorem xD {x y:En} (h:ahead x y=true):aj x y=false:=by
 simp [ahead,aj] at *;omega
theorem bK {x y:En}:aj x y=aj y x:=by
 simp [aj,Bool.beq_comm]
def aV (L:List En):Prop:=∃ x,x∈L/\∃ y,y∈L/\aj x y=true/\x≠y
def Asc (R:List En):Prop:=R.Pairwise (fun x y=>ahead x y=true)
def dh (L R:List En) (e:Int):Prop:=(aV L/\R=[]/\e=10)∨(¬ aV L/\e=0/\Asc R/\∀ x,x∈R↔x∈L)
theorem yt:∀ {R R':List En},Asc R -> Asc R' -> (∀ x,x∈R↔x∈R') -> R=R'
 | [],[],_,_,_=>rfl
 | [],b :: _,_,_,h=>absurd ((h b).2 (List.mem_cons_self ..)) (by simp)
 | a :: _,[],_,_,h=>absurd ((h a).1 (List.mem_cons_self ..)) (by simp)
 | a :: R,b :: R',h1,h2,h=>by
  obtain ⟨a1,a2⟩:=List.pairwise_cons.1 h1;obtain ⟨b1,b2⟩:=List.pairwise_cons.1 h2
  have e:a=b:=by
   rcases List.mem_cons.1 ((h a).1 (List.mem_cons_self ..)) with e | e
   ·exact e
   ·rcases List.mem_cons.1 ((h b).2 (List.mem_cons_self ..)) with e' | e'
    ·exact e'.symm
    ·have:=za4 (a1 b e');rw [b1 a e] at this;cases this
  subst e;rw [yt a2 b2 (fun x=>?_)];have hx:=h x;simp only [List.mem_cons] at hx;constructor
  ·intro hm;rcases hx.1 (Or.inr hm) with e | e
   ·subst e;have:=a1 x hm;rw [jD] at this;cases this
   ·exact e
  ·intro hm;rcases hx.2 (Or.inr hm) with e | e
   ·subst e;have:=b1 x hm;rw [jD] at this;cases this
   ·exact e
theorem j7 {R L:List En} (h:Asc R) (hm:∀ x,x∈R↔x∈L):¬ aV L:=by
 rintro ⟨x,hx,y,hy,hs,aT⟩;have hx:=(hm x).2 hx;have hy:=(hm y).2 hy;clear hm
 induction R with
 | nil=>simp at hx
 | cons a R ih =>
  obtain ⟨a1,a2⟩:=List.pairwise_cons.1 h;rcases List.mem_cons.1 hx with e | e
  ·subst e;rcases List.mem_cons.1 hy with e | e
   ·exact aT e.symm
   ·have:=xD (a1 y e);rw [hs] at this;cases this
  ·rcases List.mem_cons.1 hy with e' | e'
   ·subst e';have:=xD (a1 x e);rw [bK,hs] at this;cases this
   ·exact ih a2 e e'
theorem aV.perm {L R:List En} (h:aV L) (hm:∀ x,x∈L↔x∈R):aV R:=by
 obtain ⟨x,hx,y,hy,r⟩:=h;exact ⟨x,(hm x).1 hx,y,(hm y).1 hy,r⟩
theorem dh.perm {L L' R:List En} {e:Int} (h:dh L R e) (hm:∀ x,x∈L↔x∈L'):dh L' R e:=by
 rcases h with ⟨c,r,e1⟩ | ⟨c,e1,a,m⟩
 ·exact Or.inl ⟨c.perm hm,r,e1⟩
 ·exact Or.inr ⟨fun c'=>c (c'.perm (fun x=>(hm x).symm)),e1,a,fun x=>(m x).trans (hm x)⟩

def ER (L:List En) (k:Nat) (acc:List En):Prop:=Asc acc/\∀ x,x∈acc↔x∈L.take k
theorem zg4 {L:List En} (hL:L.Pairwise (fun x y=>leE x y=true)) (i j:Nat) (hij:i < j) (hj:j < L.length):leE (L.getD i en0) (L.getD j en0)=true:=by
 have:=List.pairwise_iff_getElem.1 hL i j (by omega) hj hij;simpa [List.getD,hj,show i < L.length by omega] using this
theorem yV (L:List En) (k:Nat) (h:k < L.length):L.getD k en0∈L:=by
 have:L.getD k en0=L[k]:=by simp [List.getD,h]
 rw [this];exact List.getElem_mem _
end
end Go.Proofs.YtcilfelgpmfehaaGreat.K
namespace Go.Proofs
open Go.Shelf
def Tryz.sortEn_ren:Go.Shelf.Ren:=⟨fun | 6=>83 | 15=>124 | 14=>123 | 28=>163 | 29=>164 | 20=>155 | 21=>156 | 22=>157 | 23=>158 | 24=>159 | 25=>160 | 26=>161 | 27=>162 | 46=>183 | 47=>184 | 48=>185 | 49=>186 | 50=>187 | 57=>206 | n=>n,fun | 22=>22 | 24=>66 | 25=>129 | 3=>3 | 39=>171 | 0=>0 | 53=>199 | 55=>201 | 4=>4 | 46=>193 | 45=>192 | 50=>179 | 5=>5 | 9=>9 | 66=>214 | 70=>218 | 76=>230 | 77=>125 | n=>n,fun | n=>n⟩
theorem Tryz.sortEn:Go.Proofs.SlLaysF0.n6 Tryz.prog Tryz.sortEn_ren:={
 mixed:=by kernel_rfl
 f6:=⟨Tryz.f83.name,by decide,Tryz.func83.trans (congrArg some (by kernel_rfl))⟩
 f14:=⟨Tryz.f123.name,by decide,Tryz.func123.trans (congrArg some (by kernel_rfl))⟩
 f15:=Tryz.func124.trans (congrArg some (by kernel_rfl))
 f20:=⟨Tryz.f155.name,by decide,Tryz.func155.trans (congrArg some (by kernel_rfl))⟩
 f21:=⟨Tryz.f156.name,by decide,Tryz.func156.trans (congrArg some (by kernel_rfl))⟩
 f22:=⟨Tryz.f157.name,by decide,Tryz.func157.trans (congrArg some (by kernel_rfl))⟩
 f23:=⟨Tryz.f158.name,by decide,Tryz.func158.trans (congrArg some (by kernel_rfl))⟩
 f24:=⟨Tryz.f159.name,by decide,Tryz.func159.trans (congrArg some (by kernel_rfl))⟩
 f25:=⟨Tryz.f160.name,by decide,Tryz.func160.trans (congrArg some (by kernel_rfl))⟩
 f26:=⟨Tryz.f161.name,by decide,Tryz.func161.trans (congrArg some (by kernel_rfl))⟩
 f27:=⟨Tryz.f162.name,by decide,Tryz.func162.trans (congrArg some (by kernel_rfl))⟩
 f28:=Tryz.func163.trans (congrArg some (by kernel_rfl))
 f29:=Tryz.func164.trans (congrArg some (by kernel_rfl))
 f46:=⟨Tryz.f183.name,by decide,Tryz.func183.trans (congrArg some (by kernel_rfl))⟩
 f47:=Tryz.func184.trans (congrArg some (by kernel_rfl))
 f48:=Tryz.func185.trans (congrArg some (by kernel_rfl))
 f49:=⟨Tryz.f186.name,by decide,Tryz.func186.trans (congrArg some (by kernel_rfl))⟩
 f50:=⟨Tryz.f187.name,by decide,Tryz.func187.trans (congrArg some (by kernel_rfl))⟩
 f57:=⟨Tryz.f206.name,by decide,Tryz.func206.trans (congrArg some (by kernel_rfl))⟩
 t0:=Tryz.underlying0
 a0:=Tryz.isAgg0
 z0:=Tryz.sizeOf0
 v0:=Tryz.zeroValue0
 t3:=Tryz.underlying3
 a3:=Tryz.isAgg3
 z3:=Tryz.sizeOf3
 v3:=Tryz.zeroValue3
 t4:=Tryz.underlying4
 a4:=Tryz.isAgg4
 z4:=Tryz.sizeOf4
 v4:=Tryz.zeroValue4
 t5:=Tryz.underlying5
 a5:=Tryz.isAgg5
 z5:=Tryz.sizeOf5
 v5:=Tryz.zeroValue5
 t9:=Tryz.underlying9
 a9:=Tryz.isAgg9
 z9:=Tryz.sizeOf9
 v9:=Tryz.zeroValue9
 t22:=Tryz.underlying22
 a22:=Tryz.isAgg22
 z22:=Tryz.sizeOf22
 v22:=Tryz.zeroValue22
 t25:=Tryz.underlying129
 a25:=Tryz.isAgg129
 z25:=Tryz.sizeOf129
 v25:=Tryz.zeroValue129
 t39:=Tryz.underlying171
 a39:=Tryz.isAgg171
 z39:=Tryz.sizeOf171
 v39:=Tryz.zeroValue171
 t45:=Tryz.underlying192
 a45:=Tryz.isAgg192
 z45:=Tryz.sizeOf192
 v45:=Tryz.zeroValue192
 t46:=Tryz.underlying193
 a46:=Tryz.isAgg193
 z46:=Tryz.sizeOf193
 v46:=Tryz.zeroValue193
 t50:=Tryz.underlying179
 a50:=Tryz.isAgg179
 z50:=Tryz.sizeOf179
 v50:=Tryz.zeroValue179
 t53:=Tryz.underlying199
 a53:=Tryz.isAgg199
 z53:=Tryz.sizeOf199
 v53:=Tryz.zeroValue199
 t55:=Tryz.underlying201
 a55:=Tryz.isAgg201
 z55:=Tryz.sizeOf201
 v55:=Tryz.zeroValue201
 t66:=Tryz.underlying214
 a66:=Tryz.isAgg214
 z66:=Tryz.sizeOf214
 v66:=Tryz.zeroValue214
 t70:=Tryz.underlying218
 a70:=Tryz.isAgg218
 z70:=Tryz.sizeOf218
 v70:=Tryz.zeroValue218
 t76:=Tryz.underlying230
 a76:=Tryz.isAgg230
 z76:=Tryz.sizeOf230
 v76:=Tryz.zeroValue230
 t77:=Tryz.underlying125
 a77:=Tryz.isAgg125
 z77:=Tryz.sizeOf125
 v77:=Tryz.zeroValue125 }
end Go.Proofs
namespace Go.Proofs.YtcilfelgpmfehaaGreat.K
section
open Go.RowKit Go.Sort

def cT (e:En):List Value:=(EC e).toList
theorem vv (e:En):(cT e).length=4:=rfl
structure MR (W:World) (ad:Addr) (d:Array En):Prop where
 hk:HoldsK cT 4 W ad.block 0 d
 lt:ad.block < W.heap.size
 ha:ad=⟨ad.block,0,none⟩
theorem MR.at {W:World} {ad:Addr} {d:Array En} (M:MR W ad d) (i:Nat) (hi:i < d.size):gB W (ad.add (i * 4)) d[i]! := by
 have h:∀ c,c < 4 -> W.cell? ⟨ad.block,i * 4+c,none⟩=some (cT d[i]!)[c]! := fun c hc=>by
  have:=(M.hk.cell hi hc).1;rwa [Nat.zero_add] at this
 rw [M.ha,Addr.add_lit,Nat.zero_add];exact ⟨h 0 (by omega),by rw [Addr.add_lit];exact h 1 (by omega),by rw [Addr.add_lit];exact h 2 (by omega),by rw [Addr.add_lit];exact h 3 (by omega)⟩
theorem MR.on {W W':World} {ad:Addr} {d:Array En} (M:MR W ad d) (hb:Below W.heap.size W W'):MR W' ad d:=
 ⟨fun j hj=>by rw [hb.cell (p:=⟨ad.block,0+j,none⟩) M.lt,hb.frozen (p:=⟨ad.block,0+j,none⟩) M.lt];exact M.hk j hj,Nat.lt_of_lt_of_le M.lt hb.size,M.ha⟩
theorem kq (d:Array En) (i:Nat) (e:En) (hi:i < d.size):setMany (flatK cT 4 d) (i * 4) (cT e)=flatK cT 4 (d.setIfInBounds i e):=by
 refine ext_get! (by simp) fun t ht=>?_
 have rQ:t < d.size * 4:=by simpa using ht
 rw [get_setMany _ _ _ t (by simpa using rQ),get_flatK _ _ _ t rQ,get_flatK _ _ _ t (by simpa using rQ),vv];by_cases a:t / 4=i
 ·rw [if_pos ((blk_iff 4 i t (by omega)).2 a),a,getElem!_set_same d i e hi,show t - i * 4=t % 4 by omega]
 ·rw [if_neg (fun h=>a ((blk_iff 4 i t (by omega)).1 h)),getElem!_set_other d i _ e a]
theorem zav (W:World) (g:Nat) (F:Array Value):Below g W (putRow id W g 0 F):=Lib.below_putRow (q:=0) (Below.refl g W) (Nat.le_refl _)
theorem MR.setCells {W:World} {ad:Addr} {d:Array En} (M:MR W ad d) (i:Nat) (e:En) (hi:i < d.size) :
  W.setCells ad.block (i * 4) (cT e)=putRowK cT 4 W ad.block 0 (d.setIfInBounds i e):=by
 have h1:=putRowK_self cT 4 W ad.block 0 d M.hk;have h2:=setCells_putRow W ad.block 0 (cT e) (i * 4) (flatK cT 4 d) (by rw [vv,size_flatK];have:=Nat.mul_le_mul_right 4 (show i+1 <= d.size from hi);omega);unfold putRowK at h1;rw [h1,kq d i e hi,Nat.zero_add] at h2;exact h2
theorem MR.store {W:World} {ad:Addr} {d:Array En} (M:MR W ad d) (i:Nat) (e:En) (hi:i < d.size) :
  ∃ W':World,(lW (.pointer (some (ad.add (i * 4)))) (EV e)).run Tryz.prog W = .ok () W'/\MR W' ad (d.setIfInBounds i e)/\Below ad.block W W'/\W'.heap.size=W.heap.size:=by
 have hs:=stores_of_holds Tryz.prog (W:=W) (blk:=ad.block) (off:=0) (F:=flatK cT 4 d) M.hk (i * 4) (cT e) (by rw [vv,size_flatK];have:=Nat.mul_le_mul_right 4 (show i+1 <= d.size from hi);omega) (yv e);rw [Nat.zero_add,M.setCells i e hi] at hs;refine ⟨_,?_,⟨holdsK_putRowK cT 4 W ad.block 0 d _ M.hk (by simp),by show ad.block < (putRow id W ad.block 0 _).heap.size;rw [size_putRow];exact M.lt,M.ha⟩,zav W ad.block _,size_putRow _ _ _ _ _⟩;have ha:=M.ha;rw [ha,Addr.add_lit,Nat.zero_add];unfold lW
 cases hq:Tryz.prog.info? 66 with
 | none=>have:=gD;simp [hq] at this
 | some x =>
  have hz:x.size=4:=by have:=gD;simpa [hq] using this
  have GI:(storeCells ⟨ad.block,i * 4,none⟩ (EC e).toList 0).run Tryz.prog W = .ok () (putRowK cT 4 W ad.block 0 (d.setIfInBounds i e)):=hs;simp only [Instr.storeAt,Instr.sureAddr,Sem.run_bind,Sem.run_pure,Result.andThen,storeVar,sizeOf,typeInfo,zs,zB];simp [GI,hq,hz]
theorem kr (d:Array En):∀ (xs:List En) (i:Nat),i+xs.length <= d.size -> setMany (flatK cT 4 d) (i * 4) (xs.map cT).flatten=flatK cT 4 (Lib.lay d i xs)
 | [],_,_=>rfl
 | x :: r,i,h=>by
  have hi:i < d.size:=by simp at h;omega
  have key:∀ (F:Array Value) (s:Nat) (a b:List Value),setMany F s (a++b)=setMany (setMany F s a) (s+a.length) b:=by
   intro F s a
   induction a generalizing F s with
   | nil=>intro b;rfl
   | cons v a ih=>intro b;simp only [List.cons_append,setMany,List.length_cons];rw [ih,show s+1+a.length=s+(a.length+1) by omega]
  rw [List.map_cons,List.flatten_cons,key,kq d i x hi,vv,show i * 4+4=(i+1) * 4 by omega];exact kr (d.setIfInBounds i x) r (i+1) (by simp at h ⊢;omega)
theorem Af (w:World):(zeroValue 66).run Tryz.prog w = .ok (EV en0) w:=Tryz.zeroValue66 w
theorem pu (n:Nat):(Builtin.zeroCells (EC en0) n).toList=((List.replicate n en0).map cT).flatten:=by
 show _=ecs (List.replicate n en0)
 apply List.ext_getElem?;intro t;by_cases ht:t < n * 4
 ·have h2:=zbD (List.replicate n en0) (t / 4) (t % 4) (by simp;omega) (by omega);rw [show t / 4 * 4+t % 4=t by omega] at h2
  have hg:(List.replicate n en0).getD (t / 4) en0=en0:=by simp [List.getD,show t / 4 < n by omega]
  rw [h2,hg]
  have h1:(Builtin.zeroCells (EC en0) n).toList[t]? = some ((EC en0)[t % 4]!):=by simp [Builtin.zeroCells,zB,ht]
  rw [h1]
  have:t % 4=0∨t % 4=1∨t % 4=2∨t % 4=3:=by omega
  rcases this with h | h | h | h <;> rw [h] <;> rfl
 ·rw [List.getElem?_eq_none (by simp [Builtin.zeroCells,zB];omega),List.getElem?_eq_none (by rw [xC];simp;omega)]
theorem kj (d:Array En):∀ (xs:List En) (k:Nat),(Lib.lay d k xs).size=d.size:=by
 intro xs
 induction xs generalizing d with
 | nil=>intro k;rfl
 | cons x r ih=>intro k;rw [Lib.lay,ih];simp
theorem MR.clear {W:World} {ad:Addr} {d:Array En} (M:MR W ad d) (kk:Nat) (hk:kk < d.size) (c:Nat) :
  ∃ (W':World) (d':Array En),(∀ ty,(Builtin.clear_ #[22] ty #[.slice (some (ad.add (kk * 4))) (d.size - kk) c]).run Tryz.prog W = .ok (.tuple #[]) W')/\MR W' ad d'/\d'.size=d.size/\(∀ j,j < kk -> d'[j]! = d[j]!)/\Below ad.block W W'/\W'.heap.size=W.heap.size:=by
 obtain ⟨m,hm⟩:∃ m,d.size - kk=m:=⟨_,rfl⟩;have h1:=putRowK_self cT 4 W ad.block 0 d M.hk
 have cP:(((List.replicate m en0).map cT).flatten).length=m * 4:=by
  have:=xC (List.replicate m en0);rwa [List.length_replicate] at this
 have hs:=stores_of_holds Tryz.prog (W:=W) (blk:=ad.block) (off:=0) (F:=flatK cT 4 d) M.hk (kk * 4) ((List.replicate m en0).map cT).flatten (by rw [cP,size_flatK];omega) (by
  intro v hv;obtain ⟨l,hl,hv⟩:=List.mem_flatten.1 hv;obtain ⟨e,_,rfl⟩:=List.mem_map.1 hl
  exact yv e v hv)
 have h2:=setCells_putRow W ad.block 0 ((List.replicate m en0).map cT).flatten (kk * 4) (flatK cT 4 d) (by rw [cP,size_flatK];omega);unfold putRowK at h1;rw [h1,kr d (List.replicate m en0) kk (by simp;omega),Nat.zero_add] at h2;rw [Nat.zero_add,h2] at hs;refine ⟨_,Lib.lay d kk (List.replicate m en0),fun ty=>?_,⟨holdsK_putRowK cT 4 W ad.block 0 d _ M.hk (kj _ _ _),by show ad.block < (putRow id W ad.block 0 _).heap.size;rw [size_putRow];exact M.lt,M.ha⟩,kj _ _ _,fun j hj=>?_,zav W ad.block _,size_putRow _ _ _ _ _⟩
 ·have ha:=M.ha;rw [ha,Addr.add_lit,Nat.zero_add,hm];obtain ⟨m',rfl⟩:∃ m',m=m'+1:=⟨m - 1,by omega⟩;have hz:=Af W;simp [Builtin.clear_,run_underlying Tryz.underlying22,hz];rw [zs,pu,hs];rfl
 ·have:=Lib.lay_get? (List.replicate m en0) d kk j (by simp;omega);rw [if_neg (by omega)] at this;rw [getElem!_def,getElem!_def,this]
def lu (w w':World):Prop:=∃ q os,w'=grow (w.drewN q) os
theorem zaQ (w:World) (a b c:Obj):lu w (((w.alloc a).alloc b).drew.alloc c):=by
 refine ⟨1,#[a]++#[b]++#[c],?_⟩;rw [alloc_eq_grow ((w.alloc a).alloc b).drew c,alloc_eq_grow (w.alloc a) b,alloc_eq_grow w a,grow_grow,drew_grow,grow_grow];rfl
theorem bj (x y:En) (w:World):Calls Tryz.prog 82 #[enV x,enV y] w fun e w'=>e = .returned (.int .i64 (byD x y))/\lu w w':=by
 have T0:=hide (Two.start w x y);obtain ⟨w0,mh⟩:∃ w0,Hid ((w.alloc (.cells #[.int .i64 x.rep,.int .i64 x.num,.string x.sku,.int .i64 x.qty] 66)).alloc (.cells #[.int .i64 y.rep,.int .i64 y.num,.string y.sku,.int .i64 y.qty] 66)=w0):=⟨_,rfl⟩;rw [mh.out] at T0;have c1:=T0.out.a0;have c2:=T0.out.a1;have c3:=T0.out.b0;have c4:=T0.out.b1;obtain ⟨p,Hp⟩:∃ p,Hid (au x.rep y.rep=p):=⟨_,rfl⟩;obtain ⟨q,Hq⟩:∃ q,Hid (au x.num y.num=q):=⟨_,rfl⟩
 have C1:Hid (∀ W,Calls Tryz.prog 122 #[.int .i64 x.rep,.int .i64 y.rep] W fun e w'=>e = .returned (.int .i64 p)/\w'=W):=fun W=>by rw [<- Hp.out];exact qQ _ _ W
 have C2:Hid (∀ W,Calls Tryz.prog 122 #[.int .i64 x.num,.int .i64 y.num] W fun e w'=>e = .returned (.int .i64 q)/\w'=W):=fun W=>by rw [<- Hq.out];exact qQ _ _ W
 have HF:Hid (or2 p q=byD x y):=by show _=_;unfold byD;rw [Hp.out,Hq.out]
 have T1:Hid (Two w (w0.drew.alloc (.cells #[.int .i64 p,.int .i64 q] 3)) x y):=(T0.out.on (yr (Below.refl _ _))).on (ze _ _);have HO:=hide (zft p q w0.drew w0.heap.size rfl)
 have HG:Hid (lu w (w0.drew.alloc (.cells #[.int .i64 p,.int .i64 q] 3))):=by rw [<- mh.out];exact zaQ _ _ _ _
 obtain ⟨r,m,s,q⟩:=x;obtain ⟨r',m',s',q'⟩:=y;go_enter Tryz.func82,Tryz.ntmps82;go_wp2_with fail;rw [mh.out]
 first | (go_region_held (fun W=>W.cell? ⟨w.heap.size,0,none⟩=some (.int .i64 r)/\W.cell? ⟨w.heap.size,1,none⟩=some (.int .i64 m)/\W.cell? ⟨w.heap.size+1,0,none⟩=some (.int .i64 r')/\W.cell? ⟨w.heap.size+1,1,none⟩=some (.int .i64 m')) (first | exact ⟨T1.out.a0,T1.out.a1,T1.out.b0,T1.out.b1⟩ | go_keep) (first | (go_at_call_of 122 r;refine (C1.out _).mono ?_;rintro e w' ⟨rfl,rfl⟩) | (go_at_call_of 122 m;refine (C2.out _).mono ?_;rintro e w' ⟨rfl,rfl⟩) | (go_at_call 121;refine HO.out.mono ?_;rintro e w' ⟨rfl,rfl⟩))) | fail
 all_goals (go_wp2_with fail)
 all_goals go_ret
 all_goals exact ⟨zx HF.out,HG.out⟩
theorem kW (x y:En):ltOf byD x y=ahead x y:=by
 unfold ltOf byD or2 au ahead;by_cases h1:x.rep < y.rep
 ·simp [h1]
 ·by_cases h2:y.rep < x.rep
  ·have:¬ x.rep=y.rep:=by omega
   simp [h1,h2,this]
  ·have e:x.rep=y.rep:=by omega
   by_cases h3:x.num < y.num
   ·simp [e,h3]
   ·by_cases h4:y.num < x.num <;> simp [e,h3,h4]
theorem za0:SWO (ltOf byD) where
 irrefl x:=by rw [kW];exact jD x
 trans x y z h1 h2:=by rw [kW] at *;exact jn h1 h2
 ntrans x y z h1 h2:=by rw [kW] at *;simp [ahead] at *;omega
theorem lz (blk size:Nat) (w:World):CmpLays Tryz.prog 82 #[] cT 4 byD blk 0 size w:=
 fun _ _ _ _ x y=>bj x y _
theorem jr (ad:Addr) (cap n:Nat) (d:Array En) (w:World) (M:MR w ad d) (hn:d.size=n) (hb:n <= 3518437208883) :
  Calls Tryz.prog 83 #[.slice (some ad) n cap,.func (.func 82) #[] #[]] w fun e w'=>e = .returned (.tuple #[])/\∃ d',d'.toList.Perm d.toList/\d'.toList.Pairwise (fun x y=>leE x y=true)/\MR w' ad d'/\Below ad.block w w':=by
 subst hn;have eg:∀ args w,(callFunc 82 args).run Tryz.prog w = .ok (.enter 82 args) w:=enters_of Tryz.func82 (by kernel_rfl) rfl;have h:=AnyQ.slices_SortFunc Tryz.sortEn 4 Tryz.isAgg66 Tryz.sizeOf66 cT (fun _=>rfl) (fun x v hv=>yv x v hv) byD za0 82 #[] ad.block 0 cap d w eg (lz ad.block d.size w) M.hk M.lt (by omega);rw [<- M.ha] at h;refine Calls.mono h ?_;rintro e w' ⟨rfl,d',m,os,⟨hs,_,hp⟩,t7,rfl⟩;refine ⟨rfl,d',?_,?_,⟨holdsK_sortWorldK_c cT 4 w ad.block 0 d d' m os M.hk M.lt hs,?_,M.ha⟩,?_⟩
 ·have e1:d'.extract 0 d.size=d':=by rw [<- hs];simp
  have e2:d.extract 0 d.size=d:=by simp
  rwa [e1,e2] at hp
 ·rw [List.pairwise_iff_getElem];intro i j hi hj hij;have:=t7 i j (Nat.zero_le _) hij (by rw [<- hs];simpa using hj);rw [kW] at this;rw [getElem!_pos d' j (by simpa using hj),getElem!_pos d' i (by simpa using hi)] at this;simp only [Array.getElem_toList];unfold leE;rw [this];rfl
 ·have:=M.lt
  show ad.block < (grow (putRow id (Sort.ahead w m) ad.block 0 (flatK cT 4 d')) os).heap.size
  show ad.block < ((putRow id (Sort.ahead w m) ad.block 0 (flatK cT 4 d')).heap++os).size
  rw [Array.size_append,size_putRow]
  show ad.block < w.heap.size+os.size
  omega
 ·have h1:Below ad.block w (putRow id (Sort.ahead w m) ad.block 0 (flatK cT 4 d')):=Lib.below_putRow (Below.refl _ _) (Nat.le_refl _);refine h1.trans ?_
  have eE:ad.block <= (putRow id (Sort.ahead w m) ad.block 0 (flatK cT 4 d')).heap.size:=by rw [size_putRow];exact Nat.le_of_lt M.lt
  show Below ad.block _ (grow (putRow id (Sort.ahead w m) ad.block 0 (flatK cT 4 d')) os)
  generalize putRow id (Sort.ahead w m) ad.block 0 (flatK cT 4 d')=V at eE;exact ⟨rfl,rfl,rfl,by show _ <= (V.heap++os).size;rw [Array.size_append];omega,fun k hk=>by show (V.heap++os)[k]? = _;rw [Array.getElem?_append_left (by omega)]⟩
end
section
open Go.RowKit
attribute [local go_sem ↓] zu zt qO
attribute [local go_sem] zC zs zB xX
theorem xT (x y:En) (w:World):(Op.equalIn 10000 64 (.agg (DC x)) (.agg (DC y))).run Tryz.prog w = .ok (aj x y) w:=by
 have u3:=Tryz.underlying3;have a3:=Tryz.isAgg3;have z3:=Tryz.sizeOf3
 have hS:Tryz.prog.underlying 64=some (.struct (Tryz.prog.fieldsOf 64)):=by kernel_rfl
 have hp:Tryz.prog.stoodInHeld 64=false:=by kernel_rfl
 obtain ⟨a,b,_,_⟩:=x;obtain ⟨c,d,_,_⟩:=y
 show (Op.equalIn 10000 64 (.agg #[.int .i64 a,.int .i64 b]) (.agg #[.int .i64 c,.int .i64 d])).run Tryz.prog w = .ok (a == c && b == d) w
 rw [show (10000:Nat)=9999+1 from rfl,run_equalIn_struct w 9999 64 _ _ hS hp];simp only [Program.fieldsOf,Tryz.underlying64];go_simp;by_cases h1:a=c <;> by_cases h2:b=d <;> simp [h1,h2]
attribute [local go_sem ↓] ql xT
theorem kH (x y:En):eqE x y=true↔x=y:=by
 constructor
 ·intro h;obtain ⟨a,b,s,c⟩:=x;obtain ⟨a',b',s',c'⟩:=y;simp only [eqE,Bool.and_eq_true,beq_iff_eq] at h;obtain ⟨⟨⟨rfl,rfl⟩,h3⟩,rfl⟩:=h
  have:s=s':=by
   rw [ByteArray.toList_eq,ByteArray.toList_eq] at h3
   cases s;cases s';simp at h3;simp [h3]
  rw [this]
 ·rintro rfl;exact yX _
def Ag (w w':World) (e:Ending) (L:List En):Prop:=∃ ao n c R er,e = .returned (.tuple #[.slice ao n c,.int .i64 er])/\aF w' ao n c R/\Below w.heap.size w w'/\(∀ ad,ao=some ad -> w.heap.size <= ad.block)/\dh L R er
end
end Go.Proofs.YtcilfelgpmfehaaGreat.K
