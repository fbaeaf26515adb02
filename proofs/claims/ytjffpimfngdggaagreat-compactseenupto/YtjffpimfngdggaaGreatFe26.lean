/- BRr TUo TCk LPu LLtr LSrt LDd LShf -/
import Derived.Test.YtjffpimfngdggaaGreatTk
import Derived.Test.YtjffpimfngdggaaGreatFe25
import Derived.Test.YtjffpimfngdggaaGreatFe23
import Derived.Deep.CutRange
import Derived.Deep.CutBlock
import Derived.Test.YtjffpimfngdggaaGreatFe19
import Derived.Test.YtjffpimfngdggaaGreatFe15
import Derived.Test.YtjffpimfngdggaaGreatFe12
import Derived.Below
import Derived.Laws.MakeOwn
import Derived.Deep.LoopGhost
import Derived.Lib.SlicesCompact
import Derived.Shelf.SlSortCmp.WholeK
import Derived.Test.YtjffpimfngdggaaGreatProg
set_option maxRecDepth 100000
namespace Go.Proofs.YtjffpimfngdggaaGreat
section
open Go.RowKit
attribute [local go_sem ↓] zq zp zZ zY
attribute [local go_sem] zi zj zJ zQ qe
end
section
open Go.RowKit Go.Maps Go.Sort
attribute [local go_sem ↓] zq zp zZ zY
attribute [local go_sem] zJ zQ qe
theorem RcT.drop {w:World} {ad:Addr} {n c:Nat} {L:List Rc} (h:RcT w (some ad) n c L) (k:Nat) (hk:k <= n):RcT w (some (ad.add (k * 3))) (n - k) (c - k) (L.drop k):=by
 have hl:=h.src.len;have hc:=h.room;have hb:=h.src.big;refine ⟨⟨by rw [List.length_drop];omega,fun e=>(by cases e),fun ad' e t ht=>?_,fun r hr=>h.src.ok r (List.mem_of_mem_drop hr),by omega⟩,by omega,fun e=>(by cases e)⟩;obtain rfl:=Option.some.inj e;have A:=h.src.at_ ad rfl (k+t) (by omega)
 have e1:(L.drop k).getD t rc0=L.getD (k+t) rc0:=by
  simp only [List.getD,List.getElem?_drop]
 rw [e1,qC,show k * 3+t * 3=(k+t) * 3 by omega];exact A
def I6 (L F:List Rc):Prop:=Srt ck (plR F)/\(∀ y,y∈plR F↔y∈plR L)/\∀ r∈F,cj r
def OrA (w w':World) (x:Ending) (L:List Rc):Prop:=∃ (h:Hs) (F:List Rc),x = .returned (HsV h)/\RcT w' h.o h.n h.c F/\h.n <= L.length/\(∀ ad,h.o=some ad -> w.heap.size <= ad.block)/\Below w.heap.size w w'/\I6 L F
def ZOf (A B:List Rc) (i j na nb:Nat) (z:Int):Prop:=(i=na/\z=1)∨(i < na/\j=nb/\z = -1)∨(i < na/\j < nb/\z=ck (rck (A.getD i rc0)) (rck (B.getD j rc0)))
section
variable {X Y D : List Rp} {A B : List Rc} {i j : Nat} {z : Int}
end
structure UO (w2 wr:World) (A B:List Rc) (i j:Nat) (h:Hs) (D:List Rc):Prop where
 own:aO w2.heap.size w2 wr h D
 okd:∀ r∈D,cj r
 mg:Mg ck (plR A) (plR B) (plR D) (plR (A.drop i)) (plR (B.drop j))
 num:h.n <= i+j
def UOv (w2:World) (A B:List Rc) (na nb:Nat) (v vi vj:Value) (wr:World):Prop:=∃ (i j:Nat) (h:Hs) (D:List Rc),i <= na/\j <= nb/\v = .slice h.o h.n h.c/\vi = .int .i64 (i:Int)/\vj = .int .i64 (j:Int)/\Hid (UO w2 wr A B i j h D)
def UrA (w w':World) (x:Ending) (L:List Rc) (n:Nat) (M:List Rc) (m:Nat):Prop:=(OkR L n/\OkR M m/\∃ (h:Hs) (F:List Rc),x = .returned (.tuple #[HsV h,.int .i64 0])/\RcT w' h.o h.n h.c F/\(∀ ad,h.o=some ad -> w.heap.size <= ad.block)/\h.n <= n+m/\Below w.heap.size w w'/\iQ L M F)∨(¬ (OkR L n/\OkR M m)/\x = .returned (.tuple #[.slice none 0 0,.int .i64 1])/\Below w.heap.size w w')
end
section
open Go.RowKit
attribute [local go_sem ↓] zq zp zB zz
attribute [local go_sem] zi zj zk zm
def rM (f:Fc) (x:Int):Prop:=(x=0/\av f)∨(x=1/\¬ av f)
theorem vG {f:Fc} (hl:f.es.length=f.an):K.chk f.es=0↔K.okN f.es f.an=true:=by
 unfold K.chk;rw [hl]
 split <;> simp_all
theorem j4 (f:Fc) (w:World) (hF:aV w f):Calls Tryz.prog 41 #[FaV (mkF f)] w fun e w'=>aZ w w' e (rM f):=by
 have HX:=hide (qi w (mkF f));have aq:=hide (ze w (.cells (FaC (mkF f)) 29));have HS:=hide (hF.below aq.out);clear hF;obtain ⟨wk,aY⟩:∃ wk,w.alloc (.cells (FaC (mkF f)) 29)=wk:=⟨_,rfl⟩;obtain ⟨G,hG⟩:∃ G,w.heap.size=G:=⟨_,rfl⟩;rw [aY] at HX aq HS;rw [hG] at HX;obtain ⟨c0,c3⟩:=HX.out.cs;go_enter Tryz.func41,Tryz.ntmps41;go_wp2_with fail;clear aY hG;refine (K.qv f.ao f.an f.ac f.es _ HS.out.es).mono ?_;rintro e w1 ⟨rfl,b1⟩;have aN:=wTr aq b1;have lQ:=hide (HX.out.below b1);have dm:=hide (HS.out.below b1);clear b1 c0 c3;by_cases h0:K.chk f.es=0
 ·have H0:=hide h0;rw [h0];clear h0;have lp:=zl lQ.out.past;go_wp2_with fail;refine (qW f.p _ dm.out.p).mono ?_;rintro e w2 ⟨b,rfl,hb,b2⟩;have cg:=wTr aN b2;have fB:=hide (lQ.out.below b2);have dX:=hide (dm.out.below b2);clear b2 lp
  cases b with
  | false =>
   have HE:Hid (rM f 1):=.inr ⟨rfl,fun h=>(by have:=hb.2 h.2.1;cases this)⟩;clear hb;go_wp2_with fail;go_ret;exact ⟨_,rfl,HE.out,cg.out⟩
  | true =>
   have HI:Hid (aj f.p.P):=hb.1 rfl;obtain ⟨-,c3⟩:=fB.out.cs;clear hb;go_wp2_with fail;refine (xg f.ro f.rn f.rc f.rs _ dX.out.rs).mono ?_;rintro e w3 ⟨x,rfl,hx,b3⟩;have aB:=wTr cg b3;clear b3 c3;rcases hx with ⟨rfl,h1⟩ | ⟨rfl,h1⟩
   ·have HE:Hid (rM f 0):=.inl ⟨rfl,(vG HS.out.es.1).1 H0.out,HI.out,h1⟩;clear h1;go_wp2_with fail;go_ret;exact ⟨_,rfl,HE.out,aB.out⟩
   ·have HE:Hid (rM f 1):=.inr ⟨rfl,fun h=>h1 h.2.2⟩;clear h1;go_wp2_with fail;go_ret;exact ⟨_,rfl,HE.out,aB.out⟩
 ·have HE:Hid (rM f 1):=.inr ⟨rfl,fun h=>h0 ((vG HS.out.es.1).2 h.1)⟩
  have ch:(K.chk f.es != 0)=true:=by simp [h0]
  clear h0;go_wp2_with fail;go_ret;exact ⟨_,rfl,HE.out,aN.out⟩
theorem rT (w:World) (f g:Fc):∃ wk,(w.alloc (.cells (FaC (mkF f)) 29)).alloc (.cells (FaC (mkF g)) 29)=wk/\Hid (aF wk w.heap.size (mkF f))/\Hid (aF wk (w.heap.size+1) (mkF g))/\Hid (Below w.heap.size w wk):=by
 have b1:=ze w (.cells (FaC (mkF f)) 29);have b2:=ze (w.alloc (.cells (FaC (mkF f)) 29)) (.cells (FaC (mkF g)) 29);have X2:=qi (w.alloc (.cells (FaC (mkF f)) 29)) (mkF g);rw [World.size_alloc] at X2;exact ⟨_,rfl,(qi w (mkF f)).below b2,X2,b1.trans (b2.mono b1.size)⟩
def Bw (f g:Fc) (x:Int):Prop:=(x=0/\av f/\av g)∨(x=1/\¬ (av f/\av g))
theorem zaz (f g:Fc) (w:World) (hF:aV w f) (hG:aV w g):Calls Tryz.prog 77 #[FaV (mkF f),FaV (mkF g)] w fun e w'=>aZ w w' e (Bw f g):=by
 obtain ⟨wk,aY,HX,HY,aq⟩:=rT w f g;have HS:=hide (hF.below aq.out);have HR:=hide (hG.below aq.out);clear hF hG;have lf:=qy HX.out;go_enter Tryz.func77,Tryz.ntmps77;go_wp2_with fail;clear aY;refine (j4 f _ HS.out).mono ?_;rintro e w1 ⟨x,rfl,hx,b1⟩;have aN:=wTr aq b1;have Bh:=hide (HY.out.below b1);have pw:=hide (HR.out.below b1);clear b1 lf;rcases hx with ⟨rfl,h1⟩ | ⟨rfl,h1⟩
 ·have H1:=hide h1;clear h1;have lg:=qy Bh.out;go_wp2_with fail;clear lg;refine (j4 g _ pw.out).mono ?_;rintro e w2 ⟨x,rfl,hx,b2⟩
  have HE:Hid (Bw f g x/\Below w.heap.size w w2):=by
   refine ⟨?_,aN.out.trans (b2.mono aN.out.size)⟩;rcases hx with ⟨rfl,h2⟩ | ⟨rfl,h2⟩
   ·exact .inl ⟨rfl,H1.out,h2⟩
   ·exact .inr ⟨rfl,fun h=>h2 h.2⟩
  clear hx b2;go_wp2_with fail;go_ret;exact ⟨_,rfl,HE.out.1,HE.out.2⟩
 ·have HE:Hid (Bw f g 1/\Below w.heap.size w w1):=⟨.inr ⟨rfl,fun h=>h1 h.1⟩,aN.out⟩;clear h1;go_wp2_with fail;go_ret;exact ⟨_,rfl,HE.out.1,HE.out.2⟩
end
end Go.Proofs.YtjffpimfngdggaaGreat
namespace Go.Proofs.YtjffpimfngdggaaGreat.K
section


def tJ {α : Type} (le : α -> α -> Prop) (w:Nat) (L:List α):Prop:=∀ q,((L.drop (q * w)).take w).Pairwise le
def mrg {α : Type} (le : α -> α -> Bool) (L:List α) (i mid j en:Nat):List α := List.merge ((L.drop i).take (mid - i)) ((L.drop j).take (en - j)) le
structure Np {α : Type} (le : α -> α -> Bool) (L M:List α) (n q f t:Nat):Prop where
 hf:f=2 * t * q
 hl:M.length=min f n
 hp:M.Perm (L.take f)
 hc:tJ (fun x y=>le x y=true) (2 * q) M
end
section
open Go.RowKit
attribute [local go_sem ↓] zx zw xE
attribute [local go_sem] zI zt zF
def leE (x y:En):Bool := !ahead y x
end
section
open Go.RowKit
attribute [local go_sem ↓] zx zw
attribute [local go_sem] zI zt zF
attribute [local go_sem] xu
def o3 (a b:Value):Sem Value:=Instr.makeSlice 22 a b
theorem ye (a b:Value):Instr.makeSlice 22 a b=o3 a b:=rfl
attribute [local go_sem ↓] ye
def tC (L R:List En):Prop:=R.Perm L/\R.Pairwise (fun x y=>leE x y=true)
def Ja (w w':World) (e:Ending) (L:List En):Prop:=∃ R,tC L R/\rB w w' e R
end
section
open Go.RowKit

instance:DecidableEq En:=fun a b =>
 decidable_of_iff (a.rep=b.rep/\a.num=b.num/\a.sku=b.sku/\a.qty=b.qty) ⟨fun ⟨h1,h2,h3,h4⟩=>by cases a;cases b;simp_all,fun h=>by subst h;exact ⟨rfl,rfl,rfl,rfl⟩⟩
instance:Inhabited En:=⟨en0⟩
def al (x y:En):Bool:=x.rep == y.rep && x.num == y.num
theorem zhh {x y:En} (h:leE x y=true) (hs:al y x=false):ahead x y=true:=by
 simp [leE,ahead,al] at *;omega
theorem yy {x y z:En} (h:ahead x y=true) (h2:ahead y z=true):ahead x z=true:=by
 simp [ahead] at *;omega
theorem vq (x:En):ahead x x=false:=by simp [ahead]
theorem zck {x y:En} (h:ahead x y=true):ahead y x=false:=by
 simp [ahead] at *;omega
theorem bi {x y:En} (h:ahead x y=true):al x y=false:=by
 simp [ahead,al] at *;omega
theorem zaR {x y:En}:al x y=al y x:=by
 simp [al,Bool.beq_comm]
def cu (L:List En):Prop:=∃ x,x∈L/\∃ y,y∈L/\al x y=true/\x≠y
def Asc (R:List En):Prop:=R.Pairwise (fun x y=>ahead x y=true)
def dB (L R:List En) (e:Int):Prop:=(cu L/\R=[]/\e=10)∨(¬ cu L/\e=0/\Asc R/\∀ x,x∈R↔x∈L)
theorem bg:∀ {R R':List En},Asc R -> Asc R' -> (∀ x,x∈R↔x∈R') -> R=R'
 | [],[],_,_,_=>rfl
 | [],b :: _,_,_,h=>absurd ((h b).2 (List.mem_cons_self ..)) (by simp)
 | a :: _,[],_,_,h=>absurd ((h a).1 (List.mem_cons_self ..)) (by simp)
 | a :: R,b :: R',h1,h2,h=>by
  obtain ⟨a1,a2⟩:=List.pairwise_cons.1 h1;obtain ⟨b1,b2⟩:=List.pairwise_cons.1 h2
  have e:a=b:=by
   rcases List.mem_cons.1 ((h a).1 (List.mem_cons_self ..)) with e | e
   ·exact e
   ·rcases List.mem_cons.1 ((h b).2 (List.mem_cons_self ..)) with e' | e'
    ·exact e'.symm
    ·have:=zck (a1 b e');rw [b1 a e] at this;cases this
  subst e;rw [bg a2 b2 (fun x=>?_)];have hx:=h x;simp only [List.mem_cons] at hx;constructor
  ·intro hm;rcases hx.1 (Or.inr hm) with e | e
   ·subst e;have:=a1 x hm;rw [vq] at this;cases this
   ·exact e
  ·intro hm;rcases hx.2 (Or.inr hm) with e | e
   ·subst e;have:=b1 x hm;rw [vq] at this;cases this
   ·exact e
theorem kv {R L:List En} (h:Asc R) (hm:∀ x,x∈R↔x∈L):¬ cu L:=by
 rintro ⟨x,hx,y,hy,hs,ch⟩;have hx:=(hm x).2 hx;have hy:=(hm y).2 hy;clear hm
 induction R with
 | nil=>simp at hx
 | cons a R ih =>
  obtain ⟨a1,a2⟩:=List.pairwise_cons.1 h;rcases List.mem_cons.1 hx with e | e
  ·subst e;rcases List.mem_cons.1 hy with e | e
   ·exact ch e.symm
   ·have:=bi (a1 y e);rw [hs] at this;cases this
  ·rcases List.mem_cons.1 hy with e' | e'
   ·subst e';have:=bi (a1 x e);rw [zaR,hs] at this;cases this
   ·exact ih a2 e e'
theorem cu.perm {L R:List En} (h:cu L) (hm:∀ x,x∈L↔x∈R):cu R:=by
 obtain ⟨x,hx,y,hy,r⟩:=h;exact ⟨x,(hm x).1 hx,y,(hm y).1 hy,r⟩
theorem dB.perm {L L' R:List En} {e:Int} (h:dB L R e) (hm:∀ x,x∈L↔x∈L'):dB L' R e:=by
 rcases h with ⟨c,r,e1⟩ | ⟨c,e1,a,m⟩
 ·exact Or.inl ⟨c.perm hm,r,e1⟩
 ·exact Or.inr ⟨fun c'=>c (c'.perm (fun x=>(hm x).symm)),e1,a,fun x=>(m x).trans (hm x)⟩

def FO (L:List En) (k:Nat) (acc:List En):Prop:=Asc acc/\∀ x,x∈acc↔x∈L.take k
theorem zjv {L:List En} (hL:L.Pairwise (fun x y=>leE x y=true)) (i j:Nat) (pt:i < j) (hj:j < L.length):leE (L.getD i en0) (L.getD j en0)=true:=by
 have:=List.pairwise_iff_getElem.1 hL i j (by omega) hj pt;simpa [List.getD,hj,show i < L.length by omega] using this
theorem zak (L:List En) (k:Nat) (h:k < L.length):L.getD k en0∈L:=by
 have:L.getD k en0=L[k]:=by simp [List.getD,h]
 rw [this];exact List.getElem_mem _
end
end Go.Proofs.YtjffpimfngdggaaGreat.K
namespace Go.Proofs
open Go.Shelf
def Tryz.sortEn_ren:Go.Shelf.Ren:=⟨fun | 6=>234 | 15=>160 | 14=>249 | 28=>201 | 29=>202 | 20=>254 | 21=>255 | 22=>256 | 23=>257 | 24=>258 | 25=>259 | 26=>260 | 27=>261 | 46=>263 | 47=>228 | 48=>229 | 49=>264 | 50=>265 | 57=>266 | n=>n,fun | 22=>22 | 24=>50 | 25=>155 | 3=>3 | 39=>201 | 0=>0 | 53=>230 | 55=>232 | 4=>4 | 46=>223 | 45=>222 | 50=>174 | 5=>5 | 9=>9 | 66=>247 | 70=>251 | 76=>263 | 77=>132 | n=>n,fun | n=>n⟩
theorem Tryz.sortEn:Go.Proofs.SlLaysF0.n6 Tryz.prog Tryz.sortEn_ren:={
 mixed:=by kernel_rfl
 f6:=⟨Tryz.f234.name,by decide,Tryz.func234.trans (congrArg some (by kernel_rfl))⟩
 f14:=⟨Tryz.f249.name,by decide,Tryz.func249.trans (congrArg some (by kernel_rfl))⟩
 f15:=Tryz.func160.trans (congrArg some (by kernel_rfl))
 f20:=⟨Tryz.f254.name,by decide,Tryz.func254.trans (congrArg some (by kernel_rfl))⟩
 f21:=⟨Tryz.f255.name,by decide,Tryz.func255.trans (congrArg some (by kernel_rfl))⟩
 f22:=⟨Tryz.f256.name,by decide,Tryz.func256.trans (congrArg some (by kernel_rfl))⟩
 f23:=⟨Tryz.f257.name,by decide,Tryz.func257.trans (congrArg some (by kernel_rfl))⟩
 f24:=⟨Tryz.f258.name,by decide,Tryz.func258.trans (congrArg some (by kernel_rfl))⟩
 f25:=⟨Tryz.f259.name,by decide,Tryz.func259.trans (congrArg some (by kernel_rfl))⟩
 f26:=⟨Tryz.f260.name,by decide,Tryz.func260.trans (congrArg some (by kernel_rfl))⟩
 f27:=⟨Tryz.f261.name,by decide,Tryz.func261.trans (congrArg some (by kernel_rfl))⟩
 f28:=Tryz.func201.trans (congrArg some (by kernel_rfl))
 f29:=Tryz.func202.trans (congrArg some (by kernel_rfl))
 f46:=⟨Tryz.f263.name,by decide,Tryz.func263.trans (congrArg some (by kernel_rfl))⟩
 f47:=Tryz.func228.trans (congrArg some (by kernel_rfl))
 f48:=Tryz.func229.trans (congrArg some (by kernel_rfl))
 f49:=⟨Tryz.f264.name,by decide,Tryz.func264.trans (congrArg some (by kernel_rfl))⟩
 f50:=⟨Tryz.f265.name,by decide,Tryz.func265.trans (congrArg some (by kernel_rfl))⟩
 f57:=⟨Tryz.f266.name,by decide,Tryz.func266.trans (congrArg some (by kernel_rfl))⟩
 t0:=Tryz.underlying0
 a0:=Tryz.isAgg0
 z0:=Tryz.sizeOf0
 v0:=Tryz.zeroValue0
 t3:=Tryz.underlying3
 a3:=Tryz.isAgg3
 z3:=Tryz.sizeOf3
 v3:=Tryz.zeroValue3
 t4:=Tryz.underlying4
 a4:=Tryz.isAgg4
 z4:=Tryz.sizeOf4
 v4:=Tryz.zeroValue4
 t5:=Tryz.underlying5
 a5:=Tryz.isAgg5
 z5:=Tryz.sizeOf5
 v5:=Tryz.zeroValue5
 t9:=Tryz.underlying9
 a9:=Tryz.isAgg9
 z9:=Tryz.sizeOf9
 v9:=Tryz.zeroValue9
 t22:=Tryz.underlying22
 a22:=Tryz.isAgg22
 z22:=Tryz.sizeOf22
 v22:=Tryz.zeroValue22
 t25:=Tryz.underlying155
 a25:=Tryz.isAgg155
 z25:=Tryz.sizeOf155
 v25:=Tryz.zeroValue155
 t39:=Tryz.underlying201
 a39:=Tryz.isAgg201
 z39:=Tryz.sizeOf201
 v39:=Tryz.zeroValue201
 t45:=Tryz.underlying222
 a45:=Tryz.isAgg222
 z45:=Tryz.sizeOf222
 v45:=Tryz.zeroValue222
 t46:=Tryz.underlying223
 a46:=Tryz.isAgg223
 z46:=Tryz.sizeOf223
 v46:=Tryz.zeroValue223
 t50:=Tryz.underlying174
 a50:=Tryz.isAgg174
 z50:=Tryz.sizeOf174
 v50:=Tryz.zeroValue174
 t53:=Tryz.underlying230
 a53:=Tryz.isAgg230
 z53:=Tryz.sizeOf230
 v53:=Tryz.zeroValue230
 t55:=Tryz.underlying232
 a55:=Tryz.isAgg232
 z55:=Tryz.sizeOf232
 v55:=Tryz.zeroValue232
 t66:=Tryz.underlying247
 a66:=Tryz.isAgg247
 z66:=Tryz.sizeOf247
 v66:=Tryz.zeroValue247
 t70:=Tryz.underlying251
 a70:=Tryz.isAgg251
 z70:=Tryz.sizeOf251
 v70:=Tryz.zeroValue251
 t76:=Tryz.underlying263
 a76:=Tryz.isAgg263
 z76:=Tryz.sizeOf263
 v76:=Tryz.zeroValue263
 t77:=Tryz.underlying132
 a77:=Tryz.isAgg132
 z77:=Tryz.sizeOf132
 v77:=Tryz.zeroValue132 }
end Go.Proofs
