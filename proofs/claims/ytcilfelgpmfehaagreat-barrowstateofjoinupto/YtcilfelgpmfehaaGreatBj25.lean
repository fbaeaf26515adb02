/- HWi QCb QCo QCd QRm QRu HWa BCn BAo Lit BKe PLp BFp -/
import Derived.Test.YtcilfelgpmfehaaGreatBj24
import Derived.Deep.CutRange
import Derived.Deep.RegionHeldLaw
import Derived.Shelf.SlIter.Nil
import Derived.Shelf.SortM.Plain
import Derived.Shelf.SortM.SortNone
set_option maxRecDepth 100000
set_option maxHeartbeats 6400000
namespace Go.Proofs.YtcilfelgpmfehaaGreat
section
open Go.RowKit Go.Shelf
def wiP (A P:Pst):Prop:=∀ r,r < 16 -> ∀ n,mem (aa A r) n -> mem (aa P r) n
def ph (c:Sn):Prop:=∃ y:Nat,y < 16/\c.rep=(y:Int)/\1 <= c.lo/\c.lo <= c.hi/\c.hi <= 1000000000
abbrev So:={c:Sn // ph c}
instance:Inhabited So:=⟨⟨⟨0,1,1⟩,0,by decide,rfl,by decide,by decide,by decide⟩⟩
open Classical in
noncomputable def outB (P:Pst) (c:Sn):Bool:=decide (¬ fe P c)
theorem ko {A:Pst} (h:af A):A.vec.length <= 16/\∀ j,j < 16 -> 0 <= A.vec.getD j 0/\A.vec.getD j 0 <= 1000000000:=by
 refine ⟨?_,fun j hj=>by rw [zcu h j hj];exact V.zbL _ _⟩;rw [h.1,V.zO];exact V.kL _
theorem v7 {A:Pst} (h:af A):∀ c∈A.cloud,ph c:=fun c hc=>by
 obtain ⟨b,s⟩:=ja _ _ h.2 c hc;have h1:=s.isr;have h2:=s.lead;have h3:=V.zaw A.vec c.rep;have h4:=s.ord;have h5:=s.top;simp [V.isR] at h1;exact ⟨c.rep.toNat,by omega,by omega,by omega,h4,h5⟩
theorem zfn {A P:Pst} (h:af A):wiP A P↔(∀ j,j < A.vec.length -> 0 < A.vec.getD j 0 -> fe P ⟨(j:Int),1,A.vec.getD j 0⟩)/\∀ c∈A.cloud,fe P c:=by
 obtain ⟨v1,v2⟩:=ko h;constructor
 ·intro q;refine ⟨fun j hj hz m h1 h2=>?_,fun c hc m h1 h2=>?_⟩
  ·have h1:1 <= m:=h1;have h2:m <= A.vec.getD j 0:=h2;have hv:=v2 j (by omega)
   show mem (aa P (j:Int).toNat) m
   rw [Int.toNat_natCast];exact q j (by omega) m ((jN A j (by omega) m).2 ⟨h1,by omega,.inl h2⟩)
  ·obtain ⟨y,hy,e,k1,k2,k3⟩:=v7 h c hc;rw [e,Int.toNat_natCast];exact q y hy m ((jN A y hy m).2 ⟨by omega,by omega,.inr ⟨c,hc,e,h1,h2⟩⟩)
 ·rintro ⟨q1,q2⟩ r hr n hn;rw [jN A r hr n] at hn;obtain ⟨n1,n2,n3 | ⟨c,hc,e,n4,n5⟩⟩:=hn
  ·have hl:r < A.vec.length:=by
    rcases Nat.lt_or_ge r A.vec.length with k | k
    ·exact k
    ·rw [List.getD_eq_getElem?_getD,List.getElem?_eq_none k] at n3;have n3:n <= 0:=n3;omega
   have:=q1 r hl (by omega) n n1 n3;rwa [show (⟨(r:Int),1,A.vec.getD r 0⟩:Sn).rep.toNat=r from Int.toNat_natCast r] at this
  ·have:=q2 c hc n n4 n5;rwa [e,Int.toNat_natCast] at this
attribute [local go_sem ↓] zl zk qX xu zfd zcM
attribute [local go_sem] zf zh qi qy
theorem zer (g:Nat) (c:So) (p:Pv) (w:World) (hd:aE w g p) (hS:ak w p) (hf:af p.P):Calls Tryz.prog 97 #[SV c.1,.pointer (some ⟨g,0,none⟩)] w fun e w'=>e = .returned (.bool (outB p.P c.1))/\Below w.heap.size w w':=by
 obtain ⟨⟨rp,lo,hi⟩,y,hy,e,h1,h2,h3⟩:=c;have e:rp=(y:Int):=e;subst e;have h1:1 <= lo:=h1;have h2:lo <= hi:=h2;have h3:hi <= 1000000000:=h3
 show Calls Tryz.prog 97 #[SV ⟨(y:Int),lo,hi⟩,.pointer (some ⟨g,0,none⟩)] w fun e w'=>e = .returned (.bool (outB p.P ⟨(y:Int),lo,hi⟩))/\Below w.heap.size w w'
 have b1:=ze w (.cells (SC ⟨(y:Int),lo,hi⟩) 69);have x1:=qF w ⟨(y:Int),lo,hi⟩;obtain ⟨w1,dH⟩:∃ w1,w.alloc (.cells (SC ⟨(y:Int),lo,hi⟩) 69)=w1:=⟨_,rfl⟩;rw [dH] at b1 x1;have HB:=hide b1;have HS:=hide (hS.below b1);have HF:=hide hf;have gT:Hid (y < 16/\1 <= lo/\lo <= hi/\hi <= 1000000000):=⟨hy,h1,h2,h3⟩
 have lp:=zi (hd.below b1).at
 have ls:=zS x1.sn;clear b1 x1 hd hS hf h1 h2 h3 hy;go_enter Tryz.func97,Tryz.ntmps97;go_wp2_with fail;clear dH lp ls;refine (zag p y lo hi _ HS.out HF.out gT.out.1 gT.out.2.1 gT.out.2.2.1 gT.out.2.2.2).mono ?_;rintro e w2 ⟨b,rfl,hb,b2⟩
 have HE:Hid ((!b)=outB p.P ⟨(y:Int),lo,hi⟩/\Below w.heap.size w w2):=⟨by
  unfold outB
  cases b with
  | true=>simp [hb.1 rfl]
  | false =>
   have:¬ fe p.P ⟨(y:Int),lo,hi⟩:=fun q=>by have:=hb.2 q;cases this
   simp [this],HB.out.trans (b2.mono HB.out.size)⟩
 clear hb b2;go_wp2_with fail;go_ret;exact ⟨zm HE.out.1,HE.out.2⟩
theorem zeP (ao:Option Addr) (n cap:Nat) (L:List Sn) (g:Nat) (p:Pv) (w:World) (hS:cJ w ao n cap L) (hL:∀ c∈L,ph c) (hd:aE w g p) (hp:ak w p) (hf:af p.P) :
  Calls Tryz.prog 96 #[.slice ao n cap,.func (.func 97) #[] #[.pointer (some ⟨g,0,none⟩)]] w fun e w'=>e = .returned (.bool (L.any (outB p.P)))/\Below w.heap.size w w':=by
 by_cases hn:n=0
 ·subst hn;have e:=List.eq_nil_of_length_eq_zero hS.len;subst e;refine (zbF ao cap _ w).mono ?_;rintro e w' ⟨rfl,rfl⟩;exact ⟨rfl,Below.refl _ _⟩
 ·obtain ⟨ad,rfl,A0⟩:=hS.at 0 (by omega);obtain ⟨b,o,rfl⟩:=hS.spot (by omega);have eg:∀ args w,(callFunc 97 args).run Tryz.prog w = .ok (.enter 97 args) w:=enters_of Tryz.func97 (by kernel_rfl) rfl;have h0:=World.block_lt_of_cell? _ _ A0.c0;rw [zp] at h0;obtain ⟨M,hM⟩:∃ M:List So,M=L.pmap Subtype.mk hL:=⟨_,rfl⟩
  have Fb:M.length=L.length:=by rw [hM,List.length_pmap]
  have h:=AnyQ.slices_ContainsFunc Tryz.conS 3 Tryz.isAgg69 Tryz.sizeOf69 (fun c:So=>nq c.1) (fun _=>rfl) (fun c:So=>outB p.P c.1) 97 #[.pointer (some ⟨g,0,none⟩)] eg b o n cap M w
   (fun W r hb=>(zer g r p W (hd.below hb) (hp.below hb) hf).mono fun e w' ⟨he,hb'⟩=>⟨he,hb.trans (hb'.mono hb.size)⟩)
   (by rw [Fb,hS.len];exact Nat.le_refl _) (by have:=hS.big;omega) h0
   (fun j hj i v hv=>by
    have iy:j < L.length:=by rw [<- Fb];exact hj
    have A:=hS.cell _ rfl j (by rw [<- hS.len];exact iy)
    have e:(M[j]!).1=L.getD j sn0:=by
     rw [getElem!_pos M j hj];subst hM;rw [List.getElem_pmap];simp [List.getD,iy]
    simp only [e] at hv;have q0:=A.c0;have q1:=A.c1;have q2:=A.c2;rw [Addr.add_lit] at q0 q1 q2;rw [Addr.add_lit] at q1 q2
    match i,hv with
    | 0,hv=>rw [<- hv];exact q0
    | 1,hv=>rw [<- hv];exact q1
    | 2,hv=>rw [<- hv];exact q2
    | i+3,hv=>simp [nq,SC] at hv)
  rw [List.take_of_length_le (by rw [Fb,hS.len];exact Nat.le_refl _)] at h
  have ea:M.any (fun c:So=>outB p.P c.1)=L.any (outB p.P):=by
   rw [Bool.eq_iff_iff,List.any_eq_true,List.any_eq_true];subst hM;constructor
   ·rintro ⟨x,hx,h⟩;obtain ⟨c,hc,rfl⟩:=List.mem_pmap.1 hx;exact ⟨c,hc,h⟩
   ·rintro ⟨c,hc,h⟩;exact ⟨⟨c,hL c hc⟩,List.mem_pmap.2 ⟨c,hc,rfl⟩,h⟩
  rw [<- ea];exact h
theorem zax (a p:Pv) (w:World) (hA:ak w a) (hS:ak w p) (ha:af a.P) (hf:af p.P) :
  Calls Tryz.prog 67 #[PV a,PV p] w fun e w'=>eO w w' e (wiP a.P p.P):=by
 have b1:=ze w (.cells (PC a) 26);have x1:=zq w a;have s1:=World.size_alloc w (.cells (PC a) 26);obtain ⟨w1,dH⟩:∃ w1,w.alloc (.cells (PC a) 26)=w1:=⟨_,rfl⟩;obtain ⟨g1,dx⟩:∃ g1,w.heap.size=g1:=⟨_,rfl⟩;rw [dH] at b1 x1 s1;rw [dx] at x1 s1;have b2:=ze w1 (.cells (PC p) 26);have x2:=zq w1 p;obtain ⟨w2,eZ⟩:∃ w2,w1.alloc (.cells (PC p) 26)=w2:=⟨_,rfl⟩;rw [eZ] at b2 x2;rw [s1] at x2;have HB:=hide (b1.trans (b2.mono b1.size));have HX:Hid (aE w2 g1 a/\aE w2 (g1+1) p):=⟨x1.below b2,x2⟩;have HA:=hide (hA.below HB.out);have HS:=hide (hS.below HB.out);have HF:Hid (af a.P/\af p.P):=⟨ha,hf⟩;have CW:Hid (a.P.vec.length=a.vn):=hA.vec.1
 have AY:Hid (a.vn <= 16/\∀ j,j < 16 -> 0 <= a.P.vec.getD j 0/\a.P.vec.getD j 0 <= 1000000000):=by rw [<- CW.out];exact ko ha
 have HW:=hide (zfn (P:=p.P) ha);have k0:=(HX.out.1).nums.1;clear b1 b2 x1 x2 hA hS ha hf;go_enter Tryz.func67,Tryz.ntmps67;go_wp2_with fail;clear dH eZ s1 dx k0;go_loopw [5,6,10] (fun _ _ i wr=>∃ k:Nat,k <= a.vn/\i = .int .i64 (k:Int)/\Hid (Below w2.heap.size w2 wr/\∀ j,j < k -> 0 < a.P.vec.getD j 0 -> fe p.P ⟨(j:Int),1,a.P.vec.getD j 0⟩)) (fun _ _ i _=>a.vn - (intOf i).toNat)
 case atStart=>exact ⟨0,Nat.zero_le _,rfl,Below.refl _ _,fun j hj=>by omega⟩
 case round =>
  obtain ⟨k,hk,rfl,HI⟩:=hrel
  rename World=>wr
  have MM:=AY.out.1;by_cases aq:k < a.vn
  ·have dl:(k:Int) < (a.vn:Int):=by omega
   obtain ⟨ad,fl,cz⟩:=vY (HA.out.below HI.out.1).vec k aq;obtain ⟨z,Hz⟩:∃ z,Hid (a.P.vec.getD k 0=z):=⟨_,rfl⟩;rw [Hz.out] at cz;have Bu:=hide fl;have cj:=hide aq
   have F7:Hid (0 <= z/\z <= 1000000000):=by rw [<- Hz.out];exact AY.out.2 k (by omega)
   have lp:=zi (HX.out.2.below HI.out.1).at
   rw [fl];by_cases hz:0 < z
   ·clear fl;go_wp2_with fail;clear cz lp;refine (zag p k 1 z _ (HS.out.below HI.out.1) HF.out.2 (by have:=cj.out;omega) (Int.le_refl _) (by omega) F7.out.2).mono ?_;rintro e w3 ⟨b,rfl,hb,b3⟩;have aN:=hide (HI.out.1.trans (b3.mono HI.out.1.size))
    cases b with
    | true =>
     have HN:Hid (∀ j,j < k+1 -> 0 < a.P.vec.getD j 0 -> fe p.P ⟨(j:Int),1,a.P.vec.getD j 0⟩):=fun j hj hp=>by
      by_cases e:j=k
      ·subst e;rw [Hz.out];exact hb.1 rfl
      ·exact HI.out.2 j (by omega) hp
     clear hb b3;go_wp2_with fail;go_roundw
     case rel=>exact ⟨k+1,cj.out,by simp,aN.out,HN.out⟩
     case measure=>simp [intOf];have:=cj.out;omega
    | false =>
     have HE:Hid (eO w w3 (.returned (.bool false)) (wiP a.P p.P)):=⟨false,rfl,⟨fun h=>(by cases h),fun q=>by
      have:=(HW.out.1 q).1 k (by rw [CW.out];exact cj.out) (by rw [Hz.out];exact hz);rw [Hz.out] at this;have:=hb.2 this
      cases this⟩,HB.out.trans (aN.out.mono HB.out.size)⟩
     clear hb b3;go_wp2_with fail;go_ret;exact HE.out
   ·have HN:Hid (∀ j,j < k+1 -> 0 < a.P.vec.getD j 0 -> fe p.P ⟨(j:Int),1,a.P.vec.getD j 0⟩):=fun j hj hp=>by
     by_cases e:j=k
     ·subst e;rw [Hz.out] at hp;exact absurd hp hz
     ·exact HI.out.2 j (by omega) hp
    clear fl;go_wp2_with fail;clear cz lp;go_roundw
    case rel=>exact ⟨k+1,cj.out,by simp,HI.out.1,HN.out⟩
    case measure=>simp [intOf];have:=cj.out;omega
  ·have dl:¬ (k:Int) < (a.vn:Int):=by omega
   have k1:=(HX.out.1.below HI.out.1).nums.2;have HV:Hid (∀ j,j < a.P.vec.length -> 0 < a.P.vec.getD j 0 -> fe p.P ⟨(j:Int),1,a.P.vec.getD j 0⟩):=fun j hj hp=>HI.out.2 j (by rw [CW.out] at hj;omega) hp;go_wp2_with fail;clear k1;refine (zeP a.co a.cn a.cc a.P.cloud _ p _ (HA.out.below HI.out.1).cloud (v7 HF.out.1) (HX.out.2.below HI.out.1) (HS.out.below HI.out.1) HF.out.2).mono ?_;rintro e w3 ⟨rfl,b3⟩
   have HE:Hid (eO w w3 (.returned (.bool (!(a.P.cloud.any (outB p.P))))) (wiP a.P p.P)):=⟨_,rfl,by
    rw [HW.out,Bool.not_eq_true',Bool.eq_false_iff,ne_eq,List.any_eq_true];constructor
    ·intro q;refine ⟨HV.out,fun c hc=>Classical.byContradiction fun n=>q ⟨c,hc,by unfold outB;simp [n]⟩⟩
    ·rintro ⟨-,q⟩ ⟨c,hc,h⟩;unfold outB at h;simp at h
     exact h (q c hc),HB.out.trans ((HI.out.1.trans (b3.mono HI.out.1.size)).mono HB.out.size)⟩
   clear b3;generalize a.P.cloud.any (outB p.P)=x at HE ⊢;go_wp2_with fail;go_ret;exact HE.out
end
section

def tin (t:List Int) (n:Int):Bool:=decide (cnt t n % 2=1)
def rul (k:Int) (x y:Bool):Bool:=(k == 1 && x && y) || (k == 2 && x && !y)
structure CbI (k:Int) (A B:List Int) (i j:Nat) (t:List Int) (b:Bool):Prop where
 hi:i <= A.length
 hj:j <= B.length
 tr:t.Pairwise (· < ·)
 tl:∀ x,x∈t -> x∈A.take i++B.take j
 lt:∀ x,x∈A.take i++B.take j -> ∀ y,y∈A.drop i++B.drop j -> x < y
 ev:∀ n,tin t n=rul k (tin (A.take i) n) (tin (B.take j) n)
 nw:b=decide (t.length % 2=1)
def po (k:Int) (a b c:List Rn):Prop:=form 1 c/\∀ n,mem c n↔((k=1/\mem a n/\mem b n)∨(k=2/\mem a n/\¬ mem b n))
end
section
open Go.RowKit

def Io (w w':World) (e:Ending) (k:Int) (a b:List Rn):Prop:=∃ ao n c X,e = .returned (.slice ao n c)/\V.Src w' ao n c (tn X)/\(∀ ad,ao=some ad -> w.heap.size <= ad.block)/\Below w.heap.size w w'/\po k a b X
end
section
open Go.RowKit
attribute [local go_sem] xv q8
def ES (w w':World) (e:Ending) (k:Int) (N1 N2:Nat -> List Rn):Prop:=∃ (T:Nat -> Si) (N:Nat -> List Rn),e = .returned (JAv T)/\(∀ r,r < 16 -> V.Src w' (T r).ao (T r).n (T r).cap (tn (N r))/\(∀ ad,(T r).ao=some ad -> w.heap.size <= ad.block)/\po k (N1 r) (N2 r) (N r))/\Below w.heap.size w w'
end
section
open Go.RowKit
attribute [local go_sem ↓] zl zk
attribute [local go_sem] xv q8 zw zf zW zh qs
end
section
open Go.RowKit
attribute [local go_sem ↓] zl zk
attribute [local go_sem] xv q8 zw zf zW zh qs
end
section
open Go.RowKit Go.Maps
open Classical in
noncomputable def waitB (P:Pst) (y:Rp):Bool:=decide (¬ wiP y.2 P)
def gR (L:List Rc) (P:Pst) (F:List Rc):Prop:=(∀ r∈F,aM r)/\plR F=(plR L).filter (waitB P)
theorem vh {P:Pst} {y:Rp} (h:wiP y.2 P):waitB P y=false:=by unfold waitB;simp [h]
theorem vA {P:Pst} {y:Rp} (h:¬ wiP y.2 P):waitB P y=true:=by unfold waitB;simp [h]
structure WtI (L:List Rc) (P:Pst) (k:Nat) (D:List Rc):Prop where
 ok:∀ r∈D,aM r
 eq:plR D=(plR (L.take k)).filter (waitB P)
theorem WtI.start (L:List Rc) (P:Pst):WtI L P 0 []:=⟨fun r h=>(by cases h),rfl⟩
theorem WtI.skip {L:List Rc} {P:Pst} {k:Nat} {D:List Rc} {r:Rc} (h:WtI L P k D) (hk:k < L.length) (hr:L.getD k rc0=r) (hw:wiP r.p.P P):WtI L P (k+1) D:=by
 refine ⟨h.ok,?_⟩;rw [jK L k hk,hr,List.filter_append,<- h.eq,List.filter_cons_of_neg (by rw [vh (show wiP (r.s,r.p.P).2 P from hw)];decide),List.filter_nil,List.append_nil]
theorem WtI.add {L:List Rc} {P:Pst} {k:Nat} {D:List Rc} {r c:Rc} (h:WtI L P k D) (hk:k < L.length) (hr:L.getD k rc0=r) (hw:¬ wiP r.p.P P) (hc:aM c) (e:rck c=rck r):WtI L P (k+1) (D++[c]):=by
 refine ⟨jM h.ok hc,?_⟩;rw [jK L k hk,hr,List.filter_append,<- h.eq,List.filter_cons_of_pos (vA (show ¬ wiP (r.s,r.p.P).2 P from hw)),List.filter_nil,zbn,e];rfl
theorem WtI.done {L:List Rc} {P:Pst} {D:List Rc} (h:WtI L P L.length D):gR L P D:=⟨h.ok,by rw [h.eq,List.take_length]⟩
def WtA (w w':World) (x:Ending) (L:List Rc) (n:Nat) (P:Pst):Prop:=(OkR L n/\af P/\∃ (h:Hs) (F:List Rc),x = .returned (.tuple #[HsV h,.int .i64 0])/\GvR w w' h F/\h.n <= n/\gR L P F)∨(¬ (OkR L n/\af P)/\x = .returned (.tuple #[.slice none 0 0,.int .i64 1])/\Below w.heap.size w w')
attribute [local go_sem ↓] zl zk zR zQ
attribute [local go_sem] zf zh zy zH zT
theorem jm (ao:Option Addr) (n ca:Nat) (L:List Rc) (p:Pv) (w:World) (hS:RcT w ao n ca L) (hP:ak w p) (hn:n <= 2199023255551) :
  Calls Tryz.prog 38 #[.slice ao n ca,PV p] w fun x w'=>WtA w w' x L n p.P:=by
 have b1:=ze w (.cells (PC p) 26);have x1:=zq w p;obtain ⟨wk,cq⟩:∃ w1,w.alloc (.cells (PC p) 26)=w1:=⟨_,rfl⟩;obtain ⟨G,hG⟩:∃ g1,w.heap.size=g1:=⟨_,rfl⟩;rw [cq] at b1 x1;rw [hG] at x1;have az:=hide b1;have HX:=hide x1;have HS:=hide (hS.below b1);have HP:=hide (hP.below b1);have fE:Hid (L.length=n):=hS.src.len;have HN:=hide hn;clear b1 x1 hS hP;go_enter Tryz.func38,Tryz.ntmps38;go_wp2_with fail;clear cq hG;refine (qY ao n ca L _ HS.out.src).mono ?_;rintro x w1 ⟨z,rfl,hz,b1⟩;have aW:=hide b1
 have lp:=zi (HX.out.below b1).at
 clear b1;rcases hz with ⟨rfl,hO⟩ | ⟨rfl,hO⟩;rotate_left
 ·have HE:Hid (WtA w w1 (.returned (.tuple #[.slice none 0 0,.int .i64 1])) L n p.P):=.inr ⟨fun h=>hO h.1,rfl,az.out.trans (aW.out.mono az.out.size)⟩;clear hO lp;go_wp2_with fail;go_ret2;exact HE.out
 have HO:=hide hO;clear hO;go_wp2_with fail;clear lp;refine (qP p _ (HP.out.below aW.out)).mono ?_;rintro x w0 ⟨b,rfl,hb,b2⟩;have gN:=wTr aW b2;clear b2
 cases b with
 | false =>
  have HE:Hid (WtA w w0 (.returned (.tuple #[.slice none 0 0,.int .i64 1])) L n p.P):=.inr ⟨fun h=>(by have:=hb.2 h.2;cases this),rfl,az.out.trans (gN.out.mono az.out.size)⟩;clear hb;go_wp2_with fail;go_ret2;exact HE.out
 | true =>
  have HF:=hide (hb.1 rfl);have Ld:=hide (ji.1 (by rw [fE.out];exact HO.out):(∀ r∈L,aM r)/\Srt ck (plR L));clear hb;go_wp2_with fail;go_loopw [6,8,19] (fun v _ i wr=>∃ (k:Nat) (h:Hs) (D:List Rc),k <= n/\v = .slice h.o h.n h.c/\i = .int .i64 (k:Int)/\Hid (aL w0.heap.size w0 wr h D/\WtI L p.P k D/\(∀ r∈D,de w0.heap.size r.p)/\h.n <= k)) (fun _ _ i _=>n - (intOf i).toNat)
  case atStart=>exact ⟨0,hs0,[],Nat.zero_le _,rfl,rfl,aL.nil w0,WtI.start L _,fun r hr=>(by cases hr),Nat.le_refl _⟩
  case round =>
   obtain ⟨k,h,D,hk,rfl,rfl,HI⟩:=hrel
   rename World=>wr
   have su:Hid (Below wk.heap.size wk wr):=gN.out.trans (HI.out.1.below.mono gN.out.size);have Av:=HN.out;by_cases aq:k < n
   ·have dl:(k:Int) < (n:Int):=by omega
    obtain ⟨ad,fl,A0⟩:=(HS.out.below su.out).src.at k aq;have lZ:=(HS.out.below su.out).src.okAt k aq;obtain ⟨r,Hr⟩:∃ r,Hid (L.getD k rc0=r):=⟨_,rfl⟩;rw [Hr.out] at A0 lZ
    have FM:Hid (aM r):=by
     have h:=Ld.out.1 _ (jZ (L:=L) (j:=k) (by rw [fE.out];exact aq));rw [Hr.out] at h;exact h
    subst fl;have dz:=zI A0;obtain ⟨g7,fT⟩:∃ g7,wr.heap.size=g7:=⟨_,rfl⟩;obtain ⟨w7,cr,X7,B7,S7⟩:=dY wr (mkR r) g7 fT;have mw:=hide (HI.out.1.later B7);have cM:=wTr su B7;have mn:=hide X7;have EJ:=hide (lZ.below B7);have lr:=zi X7.past
    have lp:=zi (HX.out.below cM.out).at
    have cj:=hide aq;clear A0 X7 B7 S7 lZ aq hk;go_wp2_with fail;clear cr dz fT lr lp;refine (zax r.p p _ EJ.out.1 (HP.out.below cM.out) FM.out.2.1 HF.out).mono ?_;rintro e w8 ⟨b,rfl,hb,b8⟩;have iU:=hide (mw.out.later b8);have Hb:=hide hb;have Ef:=hide (EJ.out.below b8);have l7:=qU (mn.out.below b8);clear hb b8
    cases b with
    | true =>
     have AF:Hid (aL w0.heap.size w0 w8 h D/\WtI L p.P (k+1) D/\(∀ r∈D,de w0.heap.size r.p)/\h.n <= k+1):=⟨iU.out,HI.out.2.1.skip (by rw [fE.out];exact cj.out) Hr.out (Hb.out.1 rfl),HI.out.2.2.1,by have:=HI.out.2.2.2;omega⟩;go_wp2_with fail;clear l7;go_roundw
     case rel=>exact ⟨k+1,h,D,cj.out,rfl,by simp,AF.out⟩
     case measure=>simp [intOf];have:=cj.out;omega
    | false =>
     have Ms:Hid (¬ wiP r.p.P p.P):=fun h=>by have:=Hb.out.2 h;cases this
     go_wp2_with fail;clear l7;refine (jO r _ Ef.out).mono ?_;rintro e wa ⟨c,rfl,gw,Rc1,Nc,ba,Cc⟩;have Oa:=iU.out.later ba;have fM:dU h c.p:=fun j hj=>df.new Nc (iU.out.own.lt j hj).2;obtain ⟨gb,cb2,wb,dW,Ob,p9,gz,CG⟩:=Oa.appAt c Rc1 fM (by have:=HI.out.2.2.2;have:=HN.out;have:=cj.out;omega);have oI:Hid ((Builtin.append_ #[27,27] 27 #[.slice h.o h.n h.c,.slice (some ⟨wa.heap.size,0,none⟩) 1 1]).run Tryz.prog (wa.alloc (.cells #[.string c.s,.slice c.p.vo c.p.vn c.p.vc,.slice c.p.co c.p.cn c.p.cc] 84)) = .ok (.slice (some ⟨gb,0,none⟩) (h.n+1) cb2) wb):=dW;have e:=y4 FM.out gw Cc;have AF:Hid (aL w0.heap.size w0 wb ⟨some ⟨gb,0,none⟩,h.n+1,cb2⟩ (D++[c])/\WtI L p.P (k+1) (D++[c])/\(∀ r∈D++[c],de w0.heap.size r.p)/\h.n+1 <= k+1):=⟨Ob,HI.out.2.1.add (by rw [fE.out];exact cj.out) Hr.out Ms.out (vP FM.out e) e,jM HI.out.2.2.1 (Nc.mono iU.out.below.size),by have:=HI.out.2.2.2;omega⟩
     clear dW Ob Oa fM gw Rc1 Nc ba Cc p9 gz CG e;go_wp2_with (at_builtin;refine xP rfl (.tmp 28) (.tmp 31) rfl rfl rfl oI.out ?_);go_roundw
     case rel=>exact ⟨k+1,⟨some ⟨gb,0,none⟩,h.n+1,cb2⟩,D++[c],cj.out,rfl,by simp,AF.out⟩
     case measure=>simp [intOf];have:=cj.out;omega
   ·have dl:¬ (k:Int) < (n:Int):=by omega
    have HE:Hid (WtA w wr (.returned (.tuple #[.slice h.o h.n h.c,.int .i64 0])) L n p.P):=by
     obtain ⟨q1,q2,q3,q4⟩:=HI.out;rw [show k=L.length by rw [fE.out];omega] at q2;exact .inl ⟨HO.out,HF.out,h,D,rfl,q1.give (az.out.trans (gN.out.mono az.out.size)) q3 (by omega),by omega,q2.done⟩
    clear HI;go_wp2_with fail;go_ret2;exact HE.out
def WrA (w w':World) (x:Ending) (L:List Rc) (n:Nat) (P:Pst):Prop:=(OkR L n/\af P/\∃ (h:Hs) (F:List Rc),x = .returned (.tuple #[HsV h,.int .i64 0])/\RcT w' h.o h.n h.c F/\(∀ ad,h.o=some ad -> w.heap.size <= ad.block)/\h.n <= n/\Below w.heap.size w w'/\gR L P F)∨(¬ (OkR L n/\af P)/\x = .returned (.tuple #[.slice none 0 0,.int .i64 1])/\Below w.heap.size w w')
end
section
open Go.RowKit
theorem zaU {D:List Rn} {p q:Rn -> Bool} {a:Rn} (ha:a∈D) (hp:p a=true) (hq:q a=false) (hqp:∀ x,q x=true -> p x=true):D.countP q+1 <= D.countP p:=by
 induction D with
 | nil=>cases ha
 | cons x D ih =>
  have hm:D.countP q <= D.countP p:=List.countP_mono_left (fun y _ h=>hqp y h);rcases List.mem_cons.1 ha with rfl | h
  ·rw [List.countP_cons_of_pos hp,List.countP_cons_of_neg (by rw [hq];decide)];omega
  ·have h1:=ih h
   cases hx:q x
   ·rw [List.countP_cons_of_neg (by rw [hx];decide)]
    have h2:D.countP p <= (x :: D).countP p:=by rw [List.countP_cons];omega
    omega
   ·rw [List.countP_cons_of_pos hx,List.countP_cons_of_pos (hqp x hx)];omega
theorem wW (D:List Rn) (r:Int):∀ (X:List Rn) (l:Int),1 <= l -> form l X -> (∀ n,mem X n -> (⟨r,n⟩:Rn)∈D) -> X.length <= D.countP (fun d=>decide (d.lo=r) && decide (l <= d.hi))
 | [],_,_,_,_=>Nat.zero_le _
 | x :: X,l,hl,hf,hD=>by
  have h1:=hf.1;have h2:=hf.2.1;have h3:=wW D r X (x.hi+2) (by omega) hf.2.2.2 (fun n hn=>hD n ((mem_cons _ _ _).2 (.inr hn)));have h4:(⟨r,x.lo⟩:Rn)∈D:=hD x.lo ((mem_cons _ _ _).2 (.inl ⟨by omega,by have:=hf.2.2.1;omega,Int.le_refl _,h2⟩));have h5:=zaU (p:=fun d=>decide (d.lo=r) && decide (l <= d.hi)) (q:=fun d=>decide (d.lo=r) && decide (x.hi+2 <= d.hi)) h4 (by simp;omega) (by simp;omega) (fun y hy=>by simp at hy ⊢;omega);simp only [List.length_cons];omega
theorem wj {N:Nat -> List Rn} (D:List Rn):∀ k:Nat,(∀ r,r < k -> form 1 (N r)/\∀ n,mem (N r) n -> (⟨(r:Int),n⟩:Rn)∈D) -> (aO N k).length <= D.countP (fun d=>decide (0 <= d.lo) && decide (d.lo < (k:Int)))
 | 0,_=>Nat.zero_le _
 | k+1,h=>by
  have h1:=wj D k (fun r hr=>h r (by omega));have h2:=wZ (N k);have h3:=wW D k (N k) 1 (Int.le_refl _) (h k (by omega)).1 (h k (by omega)).2
  have h4:D.countP (fun d=>decide (0 <= d.lo) && decide (d.lo < (k:Int)))+D.countP (fun d=>decide (d.lo=(k:Int)) && decide (1 <= d.hi)) <= D.countP (fun d=>decide (0 <= d.lo) && decide (d.lo < ((k+1:Nat):Int))):=by
   clear h h1 h2 h3
   induction D with
   | nil=>simp
   | cons x D ih =>
    rw [List.countP_cons,List.countP_cons,List.countP_cons]
    have h5:(if (decide (0 <= x.lo) && decide (x.lo < (k:Int)))=true then 1 else 0)+(if (decide (x.lo=(k:Int)) && decide (1 <= x.hi))=true then 1 else 0) <= (if (decide (0 <= x.lo) && decide (x.lo < ((k+1:Nat):Int)))=true then 1 else 0):=by
     simp only [Bool.and_eq_true,decide_eq_true_eq]
     split <;> split <;> split <;> omega
    omega
  rw [aO,List.length_append,kz];omega
theorem zaY {G:Nat -> List Rn} {P:Pst} (h:ae G P) (D:List Rn) (hD:∀ r:Nat,r < 16 -> ∀ n,mem (G r) n -> (⟨(r:Int),n⟩:Rn)∈D):P.cloud.length <= D.length:=by
 obtain ⟨N,hN,rfl⟩:=h;exact Nat.le_trans (wj D 16 (fun r hr=>⟨(hN r hr).1,fun n hn=>hD r hr n (((hN r hr).2 n).1 hn)⟩)) List.countP_le_length
end
section
open Go.RowKit
def cN (R:List Rc) (e:K.En):Bool := !R.any (fun r=>iN r e)
def ApA (w w':World) (x:Ending) (L:List K.En) (R:List Rc) (n:Nat):Prop:=(K.chk L=0/\OkR R n/\K.cU w w' x (L.filter (cN R)) 0)∨(¬ (K.chk L=0/\OkR R n)/\K.cU w w' x [] 1)
end
end Go.Proofs.YtcilfelgpmfehaaGreat
namespace Go.Proofs
open Go.Shelf
def Tryz.keysM_ren:Go.Shelf.Ren:=⟨fun | 7=>99 | 10=>140 | n=>n,fun | 23=>149 | 26=>9 | 3=>110 | 28=>153 | 0=>0 | 27=>152 | 33=>101 | 4=>4 | n=>n,fun | n=>n⟩
theorem Tryz.keysM:Go.Proofs.SlLaysZ.n7 Tryz.prog Tryz.keysM_ren:={
 mixed:=by kernel_rfl
 f7:=⟨Tryz.f99.name,by decide,Tryz.func99.trans (congrArg some (by kernel_rfl))⟩
 f10:=⟨Tryz.f140.name,by decide,Tryz.func140.trans (congrArg some (by kernel_rfl))⟩
 t0:=Tryz.underlying0
 a0:=Tryz.isAgg0
 z0:=Tryz.sizeOf0
 v0:=Tryz.zeroValue0
 t4:=Tryz.underlying4
 a4:=Tryz.isAgg4
 z4:=Tryz.sizeOf4
 v4:=Tryz.zeroValue4
 t23:=Tryz.underlying149
 a23:=Tryz.isAgg149
 z23:=Tryz.sizeOf149
 v23:=Tryz.zeroValue149
 t26:=Tryz.underlying9
 a26:=Tryz.isAgg9
 z26:=Tryz.sizeOf9
 v26:=Tryz.zeroValue9
 t27:=Tryz.underlying152
 a27:=Tryz.isAgg152
 z27:=Tryz.sizeOf152
 v27:=Tryz.zeroValue152
 t28:=Tryz.underlying153
 a28:=Tryz.isAgg153
 z28:=Tryz.sizeOf153
 v28:=Tryz.zeroValue153
 t33:=Tryz.underlying101
 a33:=Tryz.isAgg101
 z33:=Tryz.sizeOf101
 v33:=Tryz.zeroValue101 }
def Tryz.sortedM_ren:Go.Shelf.Ren:=⟨fun | 6=>98 | 8=>138 | 9=>139 | 11=>171 | 13=>124 | 12=>172 | 23=>163 | 24=>164 | 14=>190 | 15=>191 | 16=>192 | 17=>193 | 18=>194 | 19=>195 | 20=>196 | 21=>197 | 22=>198 | 25=>215 | 26=>184 | 27=>185 | 28=>216 | 29=>217 | 30=>218 | 31=>223 | n=>n,fun | 26=>9 | 28=>153 | 24=>150 | 0=>0 | 3=>3 | 37=>171 | 48=>199 | 50=>201 | 4=>4 | 40=>193 | 39=>192 | 45=>179 | 5=>5 | 9=>9 | 51=>214 | 55=>218 | 57=>230 | 58=>125 | 33=>101 | n=>n,fun | n=>n⟩
theorem Tryz.sortedM:Go.Proofs.SlLaysZ.n6 Tryz.prog Tryz.sortedM_ren:={
 mixed:=by kernel_rfl
 f6:=⟨Tryz.f98.name,by decide,Tryz.func98.trans (congrArg some (by kernel_rfl))⟩
 f8:=⟨Tryz.f138.name,by decide,Tryz.func138.trans (congrArg some (by kernel_rfl))⟩
 f11:=⟨Tryz.f171.name,by decide,Tryz.func171.trans (congrArg some (by kernel_rfl))⟩
 t0:=Tryz.underlying0
 a0:=Tryz.isAgg0
 z0:=Tryz.sizeOf0
 v0:=Tryz.zeroValue0
 t24:=Tryz.underlying150
 a24:=Tryz.isAgg150
 z24:=Tryz.sizeOf150
 v24:=Tryz.zeroValue150
 t26:=Tryz.underlying9
 a26:=Tryz.isAgg9
 z26:=Tryz.sizeOf9
 v26:=Tryz.zeroValue9
 t28:=Tryz.underlying153
 a28:=Tryz.isAgg153
 z28:=Tryz.sizeOf153
 v28:=Tryz.zeroValue153
 i26:=by kernel_rfl }
def Tryz.sortM_ren:Go.Shelf.Ren:=⟨fun | 6=>139 | 8=>124 | 9=>172 | 19=>163 | 20=>164 | 21=>190 | 22=>191 | 23=>192 | 24=>193 | 25=>194 | 26=>195 | 27=>196 | 28=>197 | 29=>198 | 36=>215 | 31=>184 | 32=>185 | 37=>216 | 38=>217 | 39=>218 | 41=>223 | n=>n,fun | 27=>150 | 29=>9 | 3=>3 | 32=>171 | 26=>150 | 0=>0 | 44=>199 | 46=>201 | 4=>4 | 36=>193 | 35=>192 | 41=>179 | 5=>5 | 9=>9 | 53=>214 | 57=>218 | 63=>230 | 64=>125 | n=>n,fun | n=>n⟩
theorem Tryz.sortM:Go.Proofs.SlLaysM.n6 Tryz.prog Tryz.sortM_ren:={
 mixed:=by kernel_rfl
 f6:=⟨Tryz.f139.name,by decide,Tryz.func139.trans (congrArg some (by kernel_rfl))⟩
 f8:=Tryz.func124.trans (congrArg some (by kernel_rfl))
 f9:=⟨Tryz.f172.name,by decide,Tryz.func172.trans (congrArg some (by kernel_rfl))⟩
 f19:=Tryz.func163.trans (congrArg some (by kernel_rfl))
 f20:=Tryz.func164.trans (congrArg some (by kernel_rfl))
 f21:=⟨Tryz.f190.name,by decide,Tryz.func190.trans (congrArg some (by kernel_rfl))⟩
 f22:=⟨Tryz.f191.name,by decide,Tryz.func191.trans (congrArg some (by kernel_rfl))⟩
 f23:=⟨Tryz.f192.name,by decide,Tryz.func192.trans (congrArg some (by kernel_rfl))⟩
 f24:=⟨Tryz.f193.name,by decide,Tryz.func193.trans (congrArg some (by kernel_rfl))⟩
 f25:=⟨Tryz.f194.name,by decide,Tryz.func194.trans (congrArg some (by kernel_rfl))⟩
 f26:=⟨Tryz.f195.name,by decide,Tryz.func195.trans (congrArg some (by kernel_rfl))⟩
 f27:=⟨Tryz.f196.name,by decide,Tryz.func196.trans (congrArg some (by kernel_rfl))⟩
 f28:=⟨Tryz.f197.name,by decide,Tryz.func197.trans (congrArg some (by kernel_rfl))⟩
 f29:=⟨Tryz.f198.name,by decide,Tryz.func198.trans (congrArg some (by kernel_rfl))⟩
 f31:=Tryz.func184.trans (congrArg some (by kernel_rfl))
 f32:=Tryz.func185.trans (congrArg some (by kernel_rfl))
 f36:=⟨Tryz.f215.name,by decide,Tryz.func215.trans (congrArg some (by kernel_rfl))⟩
 f37:=⟨Tryz.f216.name,by decide,Tryz.func216.trans (congrArg some (by kernel_rfl))⟩
 f38:=⟨Tryz.f217.name,by decide,Tryz.func217.trans (congrArg some (by kernel_rfl))⟩
 f39:=⟨Tryz.f218.name,by decide,Tryz.func218.trans (congrArg some (by kernel_rfl))⟩
 f41:=⟨Tryz.f223.name,by decide,Tryz.func223.trans (congrArg some (by kernel_rfl))⟩
 t0:=Tryz.underlying0
 a0:=Tryz.isAgg0
 z0:=Tryz.sizeOf0
 v0:=Tryz.zeroValue0
 t3:=Tryz.underlying3
 a3:=Tryz.isAgg3
 z3:=Tryz.sizeOf3
 v3:=Tryz.zeroValue3
 t4:=Tryz.underlying4
 a4:=Tryz.isAgg4
 z4:=Tryz.sizeOf4
 v4:=Tryz.zeroValue4
 t5:=Tryz.underlying5
 a5:=Tryz.isAgg5
 z5:=Tryz.sizeOf5
 v5:=Tryz.zeroValue5
 t9:=Tryz.underlying9
 a9:=Tryz.isAgg9
 z9:=Tryz.sizeOf9
 v9:=Tryz.zeroValue9
 t26:=Tryz.underlying150
 a26:=Tryz.isAgg150
 z26:=Tryz.sizeOf150
 v26:=Tryz.zeroValue150
 t27:=Tryz.underlying150
 a27:=Tryz.isAgg150
 z27:=Tryz.sizeOf150
 v27:=Tryz.zeroValue150
 t29:=Tryz.underlying9
 a29:=Tryz.isAgg9
 z29:=Tryz.sizeOf9
 v29:=Tryz.zeroValue9
 t32:=Tryz.underlying171
 a32:=Tryz.isAgg171
 z32:=Tryz.sizeOf171
 v32:=Tryz.zeroValue171
 t35:=Tryz.underlying192
 a35:=Tryz.isAgg192
 z35:=Tryz.sizeOf192
 v35:=Tryz.zeroValue192
 t36:=Tryz.underlying193
 a36:=Tryz.isAgg193
 z36:=Tryz.sizeOf193
 v36:=Tryz.zeroValue193
 t41:=Tryz.underlying179
 a41:=Tryz.isAgg179
 z41:=Tryz.sizeOf179
 v41:=Tryz.zeroValue179
 t44:=Tryz.underlying199
 a44:=Tryz.isAgg199
 z44:=Tryz.sizeOf199
 v44:=Tryz.zeroValue199
 t46:=Tryz.underlying201
 a46:=Tryz.isAgg201
 z46:=Tryz.sizeOf201
 v46:=Tryz.zeroValue201
 t53:=Tryz.underlying214
 a53:=Tryz.isAgg214
 z53:=Tryz.sizeOf214
 v53:=Tryz.zeroValue214
 t57:=Tryz.underlying218
 a57:=Tryz.isAgg218
 z57:=Tryz.sizeOf218
 v57:=Tryz.zeroValue218
 t63:=Tryz.underlying230
 a63:=Tryz.isAgg230
 z63:=Tryz.sizeOf230
 v63:=Tryz.zeroValue230
 t64:=Tryz.underlying125
 a64:=Tryz.isAgg125
 z64:=Tryz.sizeOf125
 v64:=Tryz.zeroValue125 }
end Go.Proofs
namespace Go.Proofs.YtcilfelgpmfehaaGreat
section
open Go.RowKit Go.Maps Go.Sort Go.Shelf

theorem zd3 (m:Nat):AnyZ.SortsIn Tryz.prog Tryz.sortedM_ren Fence.wide m:=
 ⟨fun blk off cap ss W hH hblk eE=>callsIn_wide.2 (AnyM.slices_Sort_string Tryz.sortM blk off cap ss W hH hblk eE),
 fun p cap W=>callsIn_wide.2 (AnyM.slices_Sort_string_none Tryz.sortM p cap W)⟩
theorem zew (mb:Option Nat) (W:World):Calls Tryz.prog 99 #[.map mb] W fun e w'=>e = .returned (.func (.func 140) #[] #[.pointer (some ⟨W.heap.size,0,none⟩)])/\w'=W.alloc (.cells #[.map mb] 149):=
 (callsIn_wide (n:=5)).1 (AnyZ.keys_in Tryz.keysM Fence.wide 5 trivial rfl mb W)
def lw (w w':World) (e:Ending) (T:List (List UInt8)):Prop:=∃ v,e = .returned v/\w'.ownsRow w.heap.size 9 1 v T.length (T.map encStr)/\Below w.heap.size w w'
theorem wv {H:Type} (b nn:Nat) (D0:DataW H) (R:Value -> Option (DataW H × List MemPlace)) (w:World) (cp:w.ownsMap Tryz.prog 9 R b nn D0) (hmax:Maps.size D0 <= maxLen) (hbytes:Maps.size D0 * 16 <= 140737488355328) :
  Calls Tryz.prog 98 #[.func (.func 140) #[] #[.pointer (some ⟨w.heap.size,0,none⟩)]] (w.alloc (.cells #[.map (some b)] 149)) fun e w'=>∃ ss:List (List UInt8),ss.Perm (strKeys D0)/\lw (w.alloc (.cells #[.map (some b)] 149)) w' e (ss.mergeSort leB):=by
 have Ez:=cp.lt
 have F8:SeqGives Fence.wide 2 Tryz.prog 140 #[.pointer (some ⟨w.heap.size,0,none⟩)] encStr (fun ss=>ss.Perm (strKeys D0)) (Maps.size D0) (w.alloc (.cells #[.map (some b)] 149)):=
  AnyZ.keys_gives (ρ := Tryz.keysM_ren) { Tryz.keysM with } Fence.wide _ trivial rfl (by omega) w.heap.size b nn D0 _ (by simp) (by simp) (by
   obtain ⟨es,clock,hb,Ft,hs,hD⟩:=cp
   exact ⟨es,clock,(Below.heap_alloc _ _ b Ez).trans hb,Ft,hs,hD⟩)
 have h:=AnyZ.sorted_in Tryz.sortedM Fence.wide 5 trivial trivial trivial trivial rfl (by omega) (zd3 _) (enters_of Tryz.func139 (by kernel_rfl) rfl) 140 #[.pointer (some ⟨w.heap.size,0,none⟩)] trivial (enters_of Tryz.func140 (by kernel_rfl) rfl) _ _ hmax hbytes _ F8;refine ((callsIn_wide (n:=5)).1 h).mono ?_;rintro e w' ⟨v,ss,rfl,hS,dv,_,hb⟩;refine ⟨ss,hS,v,rfl,?_,hb⟩;have e1:(ss.mergeSort leB).length=ss.length:=(List.mergeSort_perm ss leB).length_eq;rw [e1];exact dv
end
section
open Go.RowKit

def mP (P:Pst):Nat -> Int -> Prop:=fun r n=>mem (aa P r) n
def mOr (M M':Nat -> Int -> Prop):Nat -> Int -> Prop:=fun r n=>M r n∨M' r n
def Np (M M':Nat -> Int -> Prop):Nat -> Int -> Prop:=fun r n=>M r n/\M' r n
def Ip (M M':Nat -> Int -> Prop):Nat -> Int -> Prop:=fun r n=>M r n/\¬ M' r n
def IsP (M:Nat -> Int -> Prop) (P:Pst):Prop:=∃ C,ae C P/\∀ r,r < 16 -> ∀ n,mem (C r) n↔M r n
def Eqv (M M':Nat -> Int -> Prop):Prop:=∀ r,r < 16 -> ∀ n,M r n↔M' r n
theorem IsP.len {M:Nat -> Int -> Prop} {P:Pst} (h:IsP M P):P.cloud.length <= 8000000016:=by
 obtain ⟨C,hC,_⟩:=h;exact (jB hC).1
theorem zdj {a b:Pst} {P:Pst} (h:∃ C:Nat -> List Rn,(∀ r,r < 16 -> cG (aa a r) (aa b r) (C r))/\ae C P):IsP (Ip (mP a) (mP b)) P:=by
 obtain ⟨C,hM,hC⟩:=h;exact ⟨C,hC,fun r hr n=>(hM r hr).2 n⟩
def SzP (M:Nat -> Int -> Prop) (z:Int):Prop:=∃ N,(∀ r,r < 16 -> form 1 (N r)/\∀ n,Go.Proofs.YtcilfelgpmfehaaGreat.mem (N r) n↔M r n)/\z=ey N 16
theorem SzP.none:SzP (fun _ _=>False) 0:=⟨fun _=>[],fun _ _=>⟨trivial,fun n=>⟨fun h=>qN n h,fun h=>h.elim⟩⟩,by decide⟩
end
section
open Go.RowKit Go.Maps Go.Sort
theorem aL.setOther {B:Nat} {w W:World} {h:Hs} {L:List Rc} (O:aL B w W h L) (g:Nat) (cs:Array Value) (hg:w.heap.size <= g) (aT:(HsV h).ownBlock≠some g) (hf:∀ r∈L,df r.p g):aL B w (W.setRow g cs) h L:=by
 have hs:(W.setRow g cs).heap.size=W.heap.size:=by simp [World.setRow]
 have hk:∀ q,q < W.heap.size -> some q≠some g -> (W.setRow g cs).heap[q]? = W.heap[q]?:=fun q _ hq=>setRow_other _ _ _ _ (fun e=>hq (by rw [e]));have hG:W.grownBy (W.setRow g cs) (some g):=⟨rfl,rfl,rfl,by omega,hk⟩;exact ⟨O.own.kept hG (.inr aT),fun r hr=>⟨⟨xI (O.ok r hr).1.1 (fun k e=>by obtain rfl:=Option.some.inj e;exact hf r hr) hk,(O.ok r hr).1.2⟩,(O.ok r hr).2⟩,zg O.below hg,O.hB.1,by have:=O.hB.2;omega⟩
def ofS (R:List Rc) (s:ByteArray):List Pv:=(R.filter (fun r=>decide (r.s=s))).map (fun r=>r.p)
theorem yM (R:List Rc) (s:ByteArray):(ofS R s).length <= R.length:=by unfold ofS;rw [List.length_map];exact List.length_filter_le _ _
theorem zek (R:List Rc) (r:Rc) (s:ByteArray):pvs (ofS (R++[r]) s)=if s=r.s then pvs (ofS R s)++(PC r.p).toList else pvs (ofS R s):=by
 unfold ofS;rw [List.filter_append,List.map_append,yd];by_cases h:s=r.s
 ·subst h;simp [zcS]
 ·have h':¬ r.s=s:=fun e=>h e.symm;simp [h,h',pvs]
theorem yL {R:List Rc} {s:ByteArray} {p:Pv}:p∈ofS R s↔∃ r∈R,r.s=s/\r.p=p:=by
 unfold ofS;rw [List.mem_map];constructor
 ·rintro ⟨r,hr,rfl⟩;have:=List.mem_filter.1 hr;exact ⟨r,this.1,by simpa using this.2,rfl⟩
 ·rintro ⟨r,hr,hs,rfl⟩;exact ⟨r,List.mem_filter.2 ⟨hr,by simpa using hs⟩,rfl⟩
theorem jH (X:List Pv) (r:Nat) (n:Int):mem (aA X r) n↔∃ p∈X,mem (aa p.P r) n:=by
 induction X with
 | nil=>simp [aA,mem]
 | cons p X ih =>
  have e:aA (p :: X) r=aa p.P r++aA X r:=rfl;rw [e,mem_append,ih];simp
def cI:ByteArray:=⟨#[]⟩
def dZ (R:List Rc) (s:ByteArray) (r:Nat) (n:Int):Prop:=(∃ x∈R,x.s=s/\mem (aa x.p.P r) n)/\(s≠cI -> ¬ ∃ x∈R,x.s=cI/\mem (aa x.p.P r) n)
theorem yS {R:List Rc} {s:ByteArray} {P:Pst} (h:ae (aA (ofS R s)) P) (r:Nat) (hr:r < 16) (n:Int):mem (aa P r) n↔∃ x∈R,x.s=s/\mem (aa x.p.P r) n:=by
 rw [zV h r hr n,jH];constructor
 ·rintro ⟨p,hp,hm⟩;obtain ⟨x,hx,hs,rfl⟩:=yL.1 hp;exact ⟨x,hx,hs,hm⟩
 ·rintro ⟨x,hx,hs,hm⟩;exact ⟨x.p,yL.2 ⟨x,hx,hs,rfl⟩,hm⟩
theorem zeI {R:List Rc} {P:Pst} (h:ae (aA (ofS R cI)) P):IsP (dZ R cI) P:=
 ⟨_,h,fun r hr n=>by
  rw [<- zV h r hr n,yS h r hr n]
  exact ⟨fun h=>⟨h,fun e=>absurd rfl e⟩,fun h=>h.1⟩⟩
theorem zeH {R:List Rc} {s:ByteArray} {P A M:Pst} (hs:s≠cI) (h:ae (aA (ofS R s)) P) (ha:ae (aA (ofS R cI)) A) (hm:∃ C:Nat -> List Rn,(∀ r,r < 16 -> cG (aa P r) (aa A r) (C r))/\ae C M):IsP (dZ R s) M:=by
 obtain ⟨C,hC,hI⟩:=zdj hm;refine ⟨C,hC,fun r hr n=>(hI r hr n).trans ?_⟩
 show mem (aa P r) n/\¬ mem (aa A r) n↔_
 rw [yS h r hr n,yS ha r hr n];exact ⟨fun h=>⟨h.1,fun _=>h.2⟩,fun h=>⟨h.1,h.2 hs⟩⟩
def it (R F:List Rc):Prop:=F.Pairwise (fun a b=>eH a.s b.s < 0)/\(∀ x∈F,(∃ r∈R,r.s=x.s)/\IsP (dZ R x.s) x.p.P/\¬ fC x.p.P)/\∀ s,(∃ r∈R,r.s=s) -> (∀ x∈F,x.s≠s) -> ∀ r,r < 16 -> ∀ n,¬ dZ R s r n
def eJ (R:List Rc) (T:List (List UInt8)) (F:List Rc):Prop:=(F.map (fun x=>x.s.data.toList)).Sublist T/\(∀ x∈F,IsP (dZ R x.s) x.p.P/\¬ fC x.p.P)/\∀ t∈T,(∀ x∈F,x.s≠⟨t.toArray⟩) -> ∀ r,r < 16 -> ∀ n,¬ dZ R ⟨t.toArray⟩ r n
theorem eJ.start (R:List Rc):eJ R [] []:=⟨List.Sublist.refl _,fun x h=>(by cases h),fun t h=>(by cases h)⟩
theorem eJ.skip {R F:List Rc} {T:List (List UInt8)} (h:eJ R T F) (t:List UInt8) (he:∀ r,r < 16 -> ∀ n,¬ dZ R ⟨t.toArray⟩ r n):eJ R (T++[t]) F:=by
 refine ⟨h.1.trans (List.sublist_append_left _ _),h.2.1,fun u hu hn=>?_⟩;rcases List.mem_append.1 hu with hu | hu
 ·exact h.2.2 u hu hn
 ·obtain rfl:u=t:=by simpa using hu
  exact he
theorem eJ.add {R F:List Rc} {T:List (List UInt8)} (h:eJ R T F) (t:List UInt8) (x:Rc) (hx:x.s=⟨t.toArray⟩) (hI:IsP (dZ R x.s) x.p.P) (hE:¬ fC x.p.P):eJ R (T++[t]) (F++[x]):=by
 refine ⟨?_,fun y hy=>?_,fun u hu hn=>?_⟩
 ·rw [List.map_append];refine h.1.append ?_;simp [hx]
 ·rcases List.mem_append.1 hy with hy | hy
  ·exact h.2.1 y hy
  ·obtain rfl:y=x:=by simpa using hy
   exact ⟨hI,hE⟩
 ·rcases List.mem_append.1 hu with hu | hu
  ·exact h.2.2 u hu (fun y hy=>hn y (List.mem_append_left _ hy))
  ·obtain rfl:u=t:=by simpa using hu
   exact absurd hx (hn x (by simp))
theorem eJ.done {R F:List Rc} {T:List (List UInt8)} (h:eJ R T F) (hT:T.Pairwise (fun a b=>Lib.compareBytes a b < 0)) (hK:∀ t,t∈T↔∃ r∈R,r.s=⟨t.toArray⟩):it R F:=by
 refine ⟨List.pairwise_map.1 (hT.sublist h.1),fun x hx=>⟨?_,h.2.1 x hx⟩,fun s hs hn=>?_⟩
 ·have:=(hK x.s.data.toList).1 (h.1.subset (List.mem_map.2 ⟨x,hx,rfl⟩));simpa using this
 ·have hm:s.data.toList∈T:=(hK _).2 (by simpa using hs);have:=h.2.2 _ hm (by simpa using hn);simpa using this
end
end Go.Proofs.YtcilfelgpmfehaaGreat
