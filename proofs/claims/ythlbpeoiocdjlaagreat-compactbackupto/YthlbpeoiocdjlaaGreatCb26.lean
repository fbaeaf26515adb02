import Derived.Test.YthlbpeoiocdjlaaGreatTk
import Derived.Test.YthlbpeoiocdjlaaGreatCb25
import Derived.Test.YthlbpeoiocdjlaaGreatCb23
import Derived.Deep.CutRange
import Derived.Deep.CutBlock
import Derived.Test.YthlbpeoiocdjlaaGreatCb16
import Derived.Test.YthlbpeoiocdjlaaGreatCb18
import Derived.Test.YthlbpeoiocdjlaaGreatCb12
import Derived.Below
import Derived.Laws.MakeOwn
import Derived.Deep.LoopGhost
import Derived.Lib.SlicesCompact
import Derived.Shelf.SlSortCmp.WholeK
import Derived.Shelf.SlGeneric
import Derived.Ground.SlsfProg
import Derived.Test.YthlbpeoiocdjlaaGreatProg
set_option maxRecDepth 100000
namespace Go.Proofs.YthlbpeoiocdjlaaGreat
section
open Go.RowKit
attribute [local go_sem ↓] ldP_eq stP_eq ldRe_eq stRe_eq
attribute [local go_sem] cells_PV PC_size cells_ReV ReC_size zero_ReC
end
section
open Go.RowKit Go.Maps Go.Sort
attribute [local go_sem ↓] ldP_eq stP_eq ldRe_eq stRe_eq
attribute [local go_sem] cells_ReV ReC_size zero_ReC
theorem RcT.drop {w:World} {ad:Addr} {n c:Nat} {L:List Rc} (h:RcT w (some ad) n c L) (k:Nat) (hk:k <= n):RcT w (some (ad.add (k * 3))) (n - k) (c - k) (L.drop k):=by
 have hl:=h.src.len;have hc:=h.room;have hb:=h.src.big;refine ⟨⟨by rw [List.length_drop];omega,fun e=>(by cases e),fun ad' e t ht=>?_,fun r hr=>h.src.ok r (List.mem_of_mem_drop hr),by omega⟩,by omega,fun e=>(by cases e)⟩;obtain rfl:=Option.some.inj e;have A:=h.src.at_ ad rfl (k+t) (by omega)
 have e1:(L.drop k).getD t rc0=L.getD (k+t) rc0:=by
  simp only [List.getD,List.getElem?_drop]
 rw [e1,add_add,show k * 3+t * 3=(k+t) * 3 by omega];exact A
def SoOf (L F:List Rc):Prop:=Srt ck (plR F)/\(∀ y,y∈plR F↔y∈plR L)/\∀ r∈F,RecOk r
def OrA (w w':World) (x:Ending) (L:List Rc):Prop:=∃ (h:Hs) (F:List Rc),x = .returned (HsV h)/\RcT w' h.o h.n h.c F/\h.n <= L.length/\(∀ ad,h.o=some ad -> w.heap.size <= ad.block)/\Below w.heap.size w w'/\SoOf L F
def ZOf (A B:List Rc) (i j na nb:Nat) (z:Int):Prop:=(i=na/\z=1)∨(i < na/\j=nb/\z = -1)∨(i < na/\j < nb/\z=ck (rck (A.getD i rc0)) (rck (B.getD j rc0)))
section
variable {X Y D : List Rp} {A B : List Rc} {i j : Nat} {z : Int}
end
structure UO (w2 wr:World) (A B:List Rc) (i j:Nat) (h:Hs) (D:List Rc):Prop where
 own:OwnRc w2.heap.size w2 wr h D
 okd:∀ r∈D,RecOk r
 mg:Mg ck (plR A) (plR B) (plR D) (plR (A.drop i)) (plR (B.drop j))
 num:h.n <= i+j
def UOv (w2:World) (A B:List Rc) (na nb:Nat) (v vi vj:Value) (wr:World):Prop:=∃ (i j:Nat) (h:Hs) (D:List Rc),i <= na/\j <= nb/\v = .slice h.o h.n h.c/\vi = .int .i64 (i:Int)/\vj = .int .i64 (j:Int)/\Hid (UO w2 wr A B i j h D)
def UrA (w w':World) (x:Ending) (L:List Rc) (n:Nat) (M:List Rc) (m:Nat):Prop:=(OkR L n/\OkR M m/\∃ (h:Hs) (F:List Rc),x = .returned (.tuple #[HsV h,.int .i64 0])/\RcT w' h.o h.n h.c F/\(∀ ad,h.o=some ad -> w.heap.size <= ad.block)/\h.n <= n+m/\Below w.heap.size w w'/\UnOf L M F)∨(¬ (OkR L n/\OkR M m)/\x = .returned (.tuple #[.slice none 0 0,.int .i64 1])/\Below w.heap.size w w')
end
section
open Go.RowKit
attribute [local go_sem ↓] ldP_eq stP_eq ldFa_eq stFa_eq
attribute [local go_sem] cells_PV PC_size cells_FaV FaC_size
def ChkF (f:Fc) (x:Int):Prop:=(x=0/\FormF f)∨(x=1/\¬ FormF f)
theorem chk_okN {f:Fc} (hl:f.es.length=f.an):K.chk f.es=0↔K.okN f.es f.an=true:=by
 unfold K.chk;rw [hl]
 split <;> simp_all
theorem tCheck_any (f:Fc) (w:World) (hF:FcOk w f):Calls Tryz.prog 42 #[FaV (mkF f)] w fun e w'=>GivesK w w' e (ChkF f):=by
 have HX:=hide (FaBox_new w (mkF f));have HBK:=hide (below_new w (.cells (FaC (mkF f)) 29));have HS:=hide (hF.below HBK.out);clear hF;obtain ⟨wk,hwk⟩:∃ wk,w.alloc (.cells (FaC (mkF f)) 29)=wk:=⟨_,rfl⟩;obtain ⟨G,hG⟩:∃ G,w.heap.size=G:=⟨_,rfl⟩;rw [hwk] at HX HBK HS;rw [hG] at HX;obtain ⟨c0,c3⟩:=HX.out.cs;go_enter Tryz.func42,Tryz.ntmps42;go_wp2_with fail;clear hwk hG;refine (K.lcheck_any f.ao f.an f.ac f.es _ HS.out.es).mono ?_;rintro e w1 ⟨rfl,b1⟩;have HB1:=wTr HBK b1;have HX1:=hide (HX.out.below b1);have HS1:=hide (HS.out.below b1);clear b1 c0 c3;by_cases h0:K.chk f.es=0
 ·have H0:=hide h0;rw [h0];clear h0;have lp:=run_ldP HX1.out.past;go_wp2_with fail;refine (isNormP_any f.p _ HS1.out.p).mono ?_;rintro e w2 ⟨b,rfl,hb,b2⟩;have HB2:=wTr HB1 b2;have HX2:=hide (HX1.out.below b2);have HS2:=hide (HS1.out.below b2);clear b2 lp
  cases b with
  | false =>
   have HE:Hid (ChkF f 1):=.inr ⟨rfl,fun h=>(by have:=hb.2 h.2.1;cases this)⟩;clear hb;go_wp2_with fail;go_ret;exact ⟨_,rfl,HE.out,HB2.out⟩
  | true =>
   have HI:Hid (InForm f.p.P):=hb.1 rfl;obtain ⟨-,c3⟩:=HX2.out.cs;clear hb;go_wp2_with fail;refine (keepCheck_any f.ro f.rn f.rc f.rs _ HS2.out.rs).mono ?_;rintro e w3 ⟨x,rfl,hx,b3⟩;have HB3:=wTr HB2 b3;clear b3 c3;rcases hx with ⟨rfl,h1⟩ | ⟨rfl,h1⟩
   ·have HE:Hid (ChkF f 0):=.inl ⟨rfl,(chk_okN HS.out.es.1).1 H0.out,HI.out,h1⟩;clear h1;go_wp2_with fail;go_ret;exact ⟨_,rfl,HE.out,HB3.out⟩
   ·have HE:Hid (ChkF f 1):=.inr ⟨rfl,fun h=>h1 h.2.2⟩;clear h1;go_wp2_with fail;go_ret;exact ⟨_,rfl,HE.out,HB3.out⟩
 ·have HE:Hid (ChkF f 1):=.inr ⟨rfl,fun h=>h0 ((chk_okN HS.out.es.1).2 h.1)⟩
  have hne:(K.chk f.es != 0)=true:=by simp [h0]
  clear h0;go_wp2_with fail;go_ret;exact ⟨_,rfl,HE.out,HB1.out⟩
theorem box2F (w:World) (f g:Fc):∃ wk,(w.alloc (.cells (FaC (mkF f)) 29)).alloc (.cells (FaC (mkF g)) 29)=wk/\Hid (FaBox wk w.heap.size (mkF f))/\Hid (FaBox wk (w.heap.size+1) (mkF g))/\Hid (Below w.heap.size w wk):=by
 have b1:=below_new w (.cells (FaC (mkF f)) 29);have b2:=below_new (w.alloc (.cells (FaC (mkF f)) 29)) (.cells (FaC (mkF g)) 29);have X2:=FaBox_new (w.alloc (.cells (FaC (mkF f)) 29)) (mkF g);rw [World.size_alloc] at X2;exact ⟨_,rfl,(FaBox_new w (mkF f)).below b2,X2,b1.trans (b2.mono b1.size)⟩
def ChkB (f g:Fc) (x:Int):Prop:=(x=0/\FormF f/\FormF g)∨(x=1/\¬ (FormF f/\FormF g))
theorem checkBoth_any (f g:Fc) (w:World) (hF:FcOk w f) (hG:FcOk w g):Calls Tryz.prog 26 #[FaV (mkF f),FaV (mkF g)] w fun e w'=>GivesK w w' e (ChkB f g):=by
 obtain ⟨wk,hwk,HX,HY,HBK⟩:=box2F w f g;have HS:=hide (hF.below HBK.out);have HR:=hide (hG.below HBK.out);clear hF hG;have lf:=run_ldFa HX.out;go_enter Tryz.func26,Tryz.ntmps26;go_wp2_with fail;clear hwk;refine (tCheck_any f _ HS.out).mono ?_;rintro e w1 ⟨x,rfl,hx,b1⟩;have HB1:=wTr HBK b1;have HY1:=hide (HY.out.below b1);have HR1:=hide (HR.out.below b1);clear b1 lf;rcases hx with ⟨rfl,h1⟩ | ⟨rfl,h1⟩
 ·have H1:=hide h1;clear h1;have lg:=run_ldFa HY1.out;go_wp2_with fail;clear lg;refine (tCheck_any g _ HR1.out).mono ?_;rintro e w2 ⟨x,rfl,hx,b2⟩
  have HE:Hid (ChkB f g x/\Below w.heap.size w w2):=by
   refine ⟨?_,HB1.out.trans (b2.mono HB1.out.size)⟩;rcases hx with ⟨rfl,h2⟩ | ⟨rfl,h2⟩
   ·exact .inl ⟨rfl,H1.out,h2⟩
   ·exact .inr ⟨rfl,fun h=>h2 h.2⟩
  clear hx b2;go_wp2_with fail;go_ret;exact ⟨_,rfl,HE.out.1,HE.out.2⟩
 ·have HE:Hid (ChkB f g 1/\Below w.heap.size w w1):=⟨.inr ⟨rfl,fun h=>h1 h.1⟩,HB1.out⟩;clear h1;go_wp2_with fail;go_ret;exact ⟨_,rfl,HE.out.1,HE.out.2⟩
end
end Go.Proofs.YthlbpeoiocdjlaaGreat
namespace Go.Proofs.YthlbpeoiocdjlaaGreat.K
section


def Chunked {α : Type} (le : α -> α -> Prop) (w:Nat) (L:List α):Prop:=∀ q,((L.drop (q * w)).take w).Pairwise le
def mrg {α : Type} (le : α -> α -> Bool) (L:List α) (i mid j en:Nat):List α := List.merge ((L.drop i).take (mid - i)) ((L.drop j).take (en - j)) le
structure Pass {α : Type} (le : α -> α -> Bool) (L M:List α) (n q f t:Nat):Prop where
 hf:f=2 * t * q
 hl:M.length=min f n
 hp:M.Perm (L.take f)
 hc:Chunked (fun x y=>le x y=true) (2 * q) M
end
section
open Go.RowKit
attribute [local go_sem ↓] ld28_eq st28_eq ld26_eq
attribute [local go_sem] zero_EC cells_EV EC_size
def leE (x y:En):Bool := !ahead y x
end
section
open Go.RowKit
attribute [local go_sem ↓] ld28_eq st28_eq
attribute [local go_sem] zero_EC cells_EV EC_size
attribute [local go_sem] fold_EC
def mk22 (a b:Value):Sem Value:=Instr.makeSlice 22 a b
theorem mk22_eq (a b:Value):Instr.makeSlice 22 a b=mk22 a b:=rfl
attribute [local go_sem ↓] mk22_eq
def InOrder (L R:List En):Prop:=R.Perm L/\R.Pairwise (fun x y=>leE x y=true)
def GivesS (w w':World) (e:Ending) (L:List En):Prop:=∃ R,InOrder L R/\GivesE w w' e R
end
section
open Go.RowKit

instance:DecidableEq En:=fun a b =>
 decidable_of_iff (a.rep=b.rep/\a.num=b.num/\a.sku=b.sku/\a.qty=b.qty) ⟨fun ⟨h1,h2,h3,h4⟩=>by cases a;cases b;simp_all,fun h=>by subst h;exact ⟨rfl,rfl,rfl,rfl⟩⟩
instance:Inhabited En:=⟨en0⟩
def sameDot (x y:En):Bool:=x.rep == y.rep && x.num == y.num
theorem ahead_of {x y:En} (h:leE x y=true) (hs:sameDot y x=false):ahead x y=true:=by
 simp [leE,ahead,sameDot] at *;omega
theorem ahead_trans {x y z:En} (h:ahead x y=true) (h2:ahead y z=true):ahead x z=true:=by
 simp [ahead] at *;omega
theorem ahead_irr (x:En):ahead x x=false:=by simp [ahead]
theorem ahead_asymm {x y:En} (h:ahead x y=true):ahead y x=false:=by
 simp [ahead] at *;omega
theorem ahead_same {x y:En} (h:ahead x y=true):sameDot x y=false:=by
 simp [ahead,sameDot] at *;omega
theorem same_symm {x y:En}:sameDot x y=sameDot y x:=by
 simp [sameDot,Bool.beq_comm]
def Clash (L:List En):Prop:=∃ x,x∈L/\∃ y,y∈L/\sameDot x y=true/\x≠y
def Asc (R:List En):Prop:=R.Pairwise (fun x y=>ahead x y=true)
def Settled (L R:List En) (e:Int):Prop:=(Clash L/\R=[]/\e=10)∨(¬ Clash L/\e=0/\Asc R/\∀ x,x∈R↔x∈L)
theorem asc_unique:∀ {R R':List En},Asc R -> Asc R' -> (∀ x,x∈R↔x∈R') -> R=R'
 | [],[],_,_,_=>rfl
 | [],b :: _,_,_,h=>absurd ((h b).2 (List.mem_cons_self ..)) (by simp)
 | a :: _,[],_,_,h=>absurd ((h a).1 (List.mem_cons_self ..)) (by simp)
 | a :: R,b :: R',h1,h2,h=>by
  obtain ⟨a1,a2⟩:=List.pairwise_cons.1 h1;obtain ⟨b1,b2⟩:=List.pairwise_cons.1 h2
  have e:a=b:=by
   rcases List.mem_cons.1 ((h a).1 (List.mem_cons_self ..)) with e | e
   ·exact e
   ·rcases List.mem_cons.1 ((h b).2 (List.mem_cons_self ..)) with e' | e'
    ·exact e'.symm
    ·have:=ahead_asymm (a1 b e');rw [b1 a e] at this;cases this
  subst e;rw [asc_unique a2 b2 (fun x=>?_)];have hx:=h x;simp only [List.mem_cons] at hx;constructor
  ·intro hm;rcases hx.1 (Or.inr hm) with e | e
   ·subst e;have:=a1 x hm;rw [ahead_irr] at this;cases this
   ·exact e
  ·intro hm;rcases hx.2 (Or.inr hm) with e | e
   ·subst e;have:=b1 x hm;rw [ahead_irr] at this;cases this
   ·exact e
theorem asc_noclash {R L:List En} (h:Asc R) (hm:∀ x,x∈R↔x∈L):¬ Clash L:=by
 rintro ⟨x,hx,y,hy,hs,hne⟩;have hx:=(hm x).2 hx;have hy:=(hm y).2 hy;clear hm
 induction R with
 | nil=>simp at hx
 | cons a R ih =>
  obtain ⟨a1,a2⟩:=List.pairwise_cons.1 h;rcases List.mem_cons.1 hx with e | e
  ·subst e;rcases List.mem_cons.1 hy with e | e
   ·exact hne e.symm
   ·have:=ahead_same (a1 y e);rw [hs] at this;cases this
  ·rcases List.mem_cons.1 hy with e' | e'
   ·subst e';have:=ahead_same (a1 x e);rw [same_symm,hs] at this;cases this
   ·exact ih a2 e e'
theorem Clash.perm {L R:List En} (h:Clash L) (hm:∀ x,x∈L↔x∈R):Clash R:=by
 obtain ⟨x,hx,y,hy,r⟩:=h;exact ⟨x,(hm x).1 hx,y,(hm y).1 hy,r⟩
theorem Settled.perm {L L' R:List En} {e:Int} (h:Settled L R e) (hm:∀ x,x∈L↔x∈L'):Settled L' R e:=by
 rcases h with ⟨c,r,e1⟩ | ⟨c,e1,a,m⟩
 ·exact Or.inl ⟨c.perm hm,r,e1⟩
 ·exact Or.inr ⟨fun c'=>c (c'.perm (fun x=>(hm x).symm)),e1,a,fun x=>(m x).trans (hm x)⟩

def OnceInv (L:List En) (k:Nat) (acc:List En):Prop:=Asc acc/\∀ x,x∈acc↔x∈L.take k
theorem le_at {L:List En} (hL:L.Pairwise (fun x y=>leE x y=true)) (i j:Nat) (hij:i < j) (hj:j < L.length):leE (L.getD i en0) (L.getD j en0)=true:=by
 have:=List.pairwise_iff_getElem.1 hL i j (by omega) hj hij;simpa [List.getD,hj,show i < L.length by omega] using this
theorem getD_mem (L:List En) (k:Nat) (h:k < L.length):L.getD k en0∈L:=by
 have:L.getD k en0=L[k]:=by simp [List.getD,h]
 rw [this];exact List.getElem_mem _
end
end Go.Proofs.YthlbpeoiocdjlaaGreat.K
namespace Go.Proofs
open Go.Shelf
def Tryz.sortEn_ren:Go.Shelf.Ren:=⟨fun | 6=>90 | 15=>136 | 14=>135 | 28=>177 | 29=>178 | 20=>169 | 21=>170 | 22=>171 | 23=>172 | 24=>173 | 25=>174 | 26=>175 | 27=>176 | 46=>197 | 47=>198 | 48=>199 | 49=>200 | 50=>201 | 57=>225 | n=>n,fun | 22=>22 | 24=>57 | 25=>134 | 3=>3 | 39=>178 | 0=>0 | 53=>210 | 55=>212 | 4=>4 | 46=>204 | 45=>203 | 50=>168 | 5=>5 | 9=>9 | 66=>223 | 70=>227 | 76=>242 | 77=>125 | n=>n,fun | n=>n⟩
theorem Tryz.sortEn:Go.Proofs.SlLaysF0.n6 Tryz.prog Tryz.sortEn_ren:={
 mixed:=by kernel_rfl
 f6:=⟨Tryz.f90.name,by decide,Tryz.func90.trans (congrArg some (by kernel_rfl))⟩
 f14:=⟨Tryz.f135.name,by decide,Tryz.func135.trans (congrArg some (by kernel_rfl))⟩
 f15:=Tryz.func136.trans (congrArg some (by kernel_rfl))
 f20:=⟨Tryz.f169.name,by decide,Tryz.func169.trans (congrArg some (by kernel_rfl))⟩
 f21:=⟨Tryz.f170.name,by decide,Tryz.func170.trans (congrArg some (by kernel_rfl))⟩
 f22:=⟨Tryz.f171.name,by decide,Tryz.func171.trans (congrArg some (by kernel_rfl))⟩
 f23:=⟨Tryz.f172.name,by decide,Tryz.func172.trans (congrArg some (by kernel_rfl))⟩
 f24:=⟨Tryz.f173.name,by decide,Tryz.func173.trans (congrArg some (by kernel_rfl))⟩
 f25:=⟨Tryz.f174.name,by decide,Tryz.func174.trans (congrArg some (by kernel_rfl))⟩
 f26:=⟨Tryz.f175.name,by decide,Tryz.func175.trans (congrArg some (by kernel_rfl))⟩
 f27:=⟨Tryz.f176.name,by decide,Tryz.func176.trans (congrArg some (by kernel_rfl))⟩
 f28:=Tryz.func177.trans (congrArg some (by kernel_rfl))
 f29:=Tryz.func178.trans (congrArg some (by kernel_rfl))
 f46:=⟨Tryz.f197.name,by decide,Tryz.func197.trans (congrArg some (by kernel_rfl))⟩
 f47:=Tryz.func198.trans (congrArg some (by kernel_rfl))
 f48:=Tryz.func199.trans (congrArg some (by kernel_rfl))
 f49:=⟨Tryz.f200.name,by decide,Tryz.func200.trans (congrArg some (by kernel_rfl))⟩
 f50:=⟨Tryz.f201.name,by decide,Tryz.func201.trans (congrArg some (by kernel_rfl))⟩
 f57:=⟨Tryz.f225.name,by decide,Tryz.func225.trans (congrArg some (by kernel_rfl))⟩
 t0:=Tryz.underlying0
 a0:=Tryz.isAgg0
 z0:=Tryz.sizeOf0
 v0:=Tryz.zeroValue0
 t3:=Tryz.underlying3
 a3:=Tryz.isAgg3
 z3:=Tryz.sizeOf3
 v3:=Tryz.zeroValue3
 t4:=Tryz.underlying4
 a4:=Tryz.isAgg4
 z4:=Tryz.sizeOf4
 v4:=Tryz.zeroValue4
 t5:=Tryz.underlying5
 a5:=Tryz.isAgg5
 z5:=Tryz.sizeOf5
 v5:=Tryz.zeroValue5
 t9:=Tryz.underlying9
 a9:=Tryz.isAgg9
 z9:=Tryz.sizeOf9
 v9:=Tryz.zeroValue9
 t22:=Tryz.underlying22
 a22:=Tryz.isAgg22
 z22:=Tryz.sizeOf22
 v22:=Tryz.zeroValue22
 t25:=Tryz.underlying134
 a25:=Tryz.isAgg134
 z25:=Tryz.sizeOf134
 v25:=Tryz.zeroValue134
 t39:=Tryz.underlying178
 a39:=Tryz.isAgg178
 z39:=Tryz.sizeOf178
 v39:=Tryz.zeroValue178
 t45:=Tryz.underlying203
 a45:=Tryz.isAgg203
 z45:=Tryz.sizeOf203
 v45:=Tryz.zeroValue203
 t46:=Tryz.underlying204
 a46:=Tryz.isAgg204
 z46:=Tryz.sizeOf204
 v46:=Tryz.zeroValue204
 t50:=Tryz.underlying168
 a50:=Tryz.isAgg168
 z50:=Tryz.sizeOf168
 v50:=Tryz.zeroValue168
 t53:=Tryz.underlying210
 a53:=Tryz.isAgg210
 z53:=Tryz.sizeOf210
 v53:=Tryz.zeroValue210
 t55:=Tryz.underlying212
 a55:=Tryz.isAgg212
 z55:=Tryz.sizeOf212
 v55:=Tryz.zeroValue212
 t66:=Tryz.underlying223
 a66:=Tryz.isAgg223
 z66:=Tryz.sizeOf223
 v66:=Tryz.zeroValue223
 t70:=Tryz.underlying227
 a70:=Tryz.isAgg227
 z70:=Tryz.sizeOf227
 v70:=Tryz.zeroValue227
 t76:=Tryz.underlying242
 a76:=Tryz.isAgg242
 z76:=Tryz.sizeOf242
 v76:=Tryz.zeroValue242
 t77:=Tryz.underlying125
 a77:=Tryz.isAgg125
 z77:=Tryz.sizeOf125
 v77:=Tryz.zeroValue125 }
end Go.Proofs
