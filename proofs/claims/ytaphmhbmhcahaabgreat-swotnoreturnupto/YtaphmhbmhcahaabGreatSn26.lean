/- HWi QCb QCo QCd -/
import Derived.Test.YtaphmhbmhcahaabGreatTk
import Derived.Test.YtaphmhbmhcahaabGreatSn25
import Derived.Test.YtaphmhbmhcahaabGreatSn19
import Derived.Test.YtaphmhbmhcahaabGreatSn16
import Derived.Test.YtaphmhbmhcahaabGreatSn02
import Derived.Test.YtaphmhbmhcahaabGreatSn00
import Derived.Deep.CutRange
import Derived.Test.YtaphmhbmhcahaabGreatSn01
import Derived.Test.YtaphmhbmhcahaabGreatSn04
import Derived.Deep.RegionHeldLaw
set_option maxRecDepth 100000
set_option maxHeartbeats 4000000
namespace Go.Proofs.YtaphmhbmhcahaabGreat
section
open Go.RowKit Go.Shelf
def wiP (A P:Pst):Prop:=∀ r,r < 16 -> ∀ n,mem (runsAt A r) n -> mem (runsAt P r) n
def SnOk (c:Sn):Prop:=∃ y:Nat,y < 16/\c.rep=(y:Int)/\1 <= c.lo/\c.lo <= c.hi/\c.hi <= 1000000000
abbrev So:={c:Sn // SnOk c}
instance:Inhabited So:=⟨⟨⟨0,1,1⟩,0,by decide,rfl,by decide,by decide,by decide⟩⟩
open Classical in
noncomputable def outB (P:Pst) (c:Sn):Bool:=decide (¬ spIn P c)
theorem form_vec {A:Pst} (h:InForm A):A.vec.length <= 16/\∀ j,j < 16 -> 0 <= A.vec.getD j 0/\A.vec.getD j 0 <= 1000000000:=by
 refine ⟨?_,fun j hj=>by rw [vec_at h j hj];exact V.at'_bd _ _⟩;rw [h.1,V.short_length];exact V.top_le _
theorem form_sn {A:Pst} (h:InForm A):∀ c∈A.cloud,SnOk c:=fun c hc=>by
 obtain ⟨b,s⟩:=chain_mem _ _ h.2 c hc;have h1:=s.isr;have h2:=s.lead;have h3:=V.atI_bd A.vec c.rep;have h4:=s.ord;have h5:=s.top;simp [V.isR] at h1;exact ⟨c.rep.toNat,by omega,by omega,by omega,h4,h5⟩
theorem wi_iff {A P:Pst} (h:InForm A):wiP A P↔(∀ j,j < A.vec.length -> 0 < A.vec.getD j 0 -> spIn P ⟨(j:Int),1,A.vec.getD j 0⟩)/\∀ c∈A.cloud,spIn P c:=by
 obtain ⟨v1,v2⟩:=form_vec h;constructor
 ·intro q;refine ⟨fun j hj hz m h1 h2=>?_,fun c hc m h1 h2=>?_⟩
  ·have h1:1 <= m:=h1;have h2:m <= A.vec.getD j 0:=h2;have hv:=v2 j (by omega)
   show mem (runsAt P (j:Int).toNat) m
   rw [Int.toNat_natCast];exact q j (by omega) m ((mem_runs A j (by omega) m).2 ⟨h1,by omega,.inl h2⟩)
  ·obtain ⟨y,hy,e,k1,k2,k3⟩:=form_sn h c hc;rw [e,Int.toNat_natCast];exact q y hy m ((mem_runs A y hy m).2 ⟨by omega,by omega,.inr ⟨c,hc,e,h1,h2⟩⟩)
 ·rintro ⟨q1,q2⟩ r hr n hn;rw [mem_runs A r hr n] at hn;obtain ⟨n1,n2,n3 | ⟨c,hc,e,n4,n5⟩⟩:=hn
  ·have hl:r < A.vec.length:=by
    rcases Nat.lt_or_ge r A.vec.length with k | k
    ·exact k
    ·rw [List.getD_eq_getElem?_getD,List.getElem?_eq_none k] at n3;have n3:n <= 0:=n3;omega
   have:=q1 r hl (by omega) n n1 n3;rwa [show (⟨(r:Int),1,A.vec.getD r 0⟩:Sn).rep.toNat=r from Int.toNat_natCast r] at this
  ·have:=q2 c hc n n4 n5;rwa [e,Int.toNat_natCast] at this
attribute [local go_sem ↓] ldP_eq stP_eq ldS_eq stS_eq bldSp_eq run_bldSp
attribute [local go_sem] cells_PV PC_size cells_SV SC_size
theorem litW_any (g:Nat) (c:So) (p:Pv) (w:World) (hd:PBox w g p) (hS:PSrc w p) (hf:InForm p.P):Calls Tryz.prog 86 #[SV c.1,.pointer (some ⟨g,0,none⟩)] w fun e w'=>e = .returned (.bool (outB p.P c.1))/\Below w.heap.size w w':=by
 obtain ⟨⟨rp,lo,hi⟩,y,hy,e,h1,h2,h3⟩:=c;have e:rp=(y:Int):=e;subst e;have h1:1 <= lo:=h1;have h2:lo <= hi:=h2;have h3:hi <= 1000000000:=h3
 show Calls Tryz.prog 86 #[SV ⟨(y:Int),lo,hi⟩,.pointer (some ⟨g,0,none⟩)] w fun e w'=>e = .returned (.bool (outB p.P ⟨(y:Int),lo,hi⟩))/\Below w.heap.size w w'
 have b1:=below_new w (.cells (SC ⟨(y:Int),lo,hi⟩) 93);have x1:=sbox_new w ⟨(y:Int),lo,hi⟩;obtain ⟨w1,hw1⟩:∃ w1,w.alloc (.cells (SC ⟨(y:Int),lo,hi⟩) 93)=w1:=⟨_,rfl⟩;rw [hw1] at b1 x1;have HB:=hide b1;have HS:=hide (hS.below b1);have HF:=hide hf;have HBd:Hid (y < 16/\1 <= lo/\lo <= hi/\hi <= 1000000000):=⟨hy,h1,h2,h3⟩
 have lp:=run_ldP (hd.below b1).at
 have ls:=run_ldS x1.sn;clear b1 x1 hd hS hf h1 h2 h3 hy;go_enter Tryz.func86,Tryz.ntmps86;go_wp2_with fail;clear hw1 lp ls;refine (holds_any p y lo hi _ HS.out HF.out HBd.out.1 HBd.out.2.1 HBd.out.2.2.1 HBd.out.2.2.2).mono ?_;rintro e w2 ⟨b,rfl,hb,b2⟩
 have HE:Hid ((!b)=outB p.P ⟨(y:Int),lo,hi⟩/\Below w.heap.size w w2):=⟨by
  unfold outB
  cases b with
  | true=>simp [hb.1 rfl]
  | false =>
   have:¬ spIn p.P ⟨(y:Int),lo,hi⟩:=fun q=>by have:=hb.2 q;cases this
   simp [this],HB.out.trans (b2.mono HB.out.size)⟩
 clear hb b2;go_wp2_with fail;go_ret;exact ⟨ret_bool HE.out.1,HE.out.2⟩
theorem conW_any (ao:Option Addr) (n cap:Nat) (L:List Sn) (g:Nat) (p:Pv) (w:World) (hS:SSrc w ao n cap L) (hL:∀ c∈L,SnOk c) (hd:PBox w g p) (hp:PSrc w p) (hf:InForm p.P) :
  Calls Tryz.prog 55 #[.slice ao n cap,.func (.func 86) #[] #[.pointer (some ⟨g,0,none⟩)]] w fun e w'=>e = .returned (.bool (L.any (outB p.P)))/\Below w.heap.size w w':=by
 by_cases hn:n=0
 ·subst hn;have e:=List.eq_nil_of_length_eq_zero hS.len;subst e;refine (conS_nil ao cap _ w).mono ?_;rintro e w' ⟨rfl,rfl⟩;exact ⟨rfl,Below.refl _ _⟩
 ·obtain ⟨ad,rfl,A0⟩:=hS.at 0 (by omega);obtain ⟨b,o,rfl⟩:=hS.spot (by omega);have eg:∀ args w,(callFunc 86 args).run Tryz.prog w = .ok (.enter 86 args) w:=enters_of Tryz.func86 (by kernel_rfl) rfl;have h0:=World.block_lt_of_cell? _ _ A0.c0;rw [block_add] at h0;obtain ⟨M,hM⟩:∃ M:List So,M=L.pmap Subtype.mk hL:=⟨_,rfl⟩
  have hml:M.length=L.length:=by rw [hM,List.length_pmap]
  have h:=AnyQ.slices_ContainsFunc Tryz.conS 3 Tryz.isAgg93 Tryz.sizeOf93 (fun c:So=>encSn c.1) (fun _=>rfl) (fun c:So=>outB p.P c.1) 86 #[.pointer (some ⟨g,0,none⟩)] eg b o n cap M w
   (fun W r hb=>(litW_any g r p W (hd.below hb) (hp.below hb) hf).mono fun e w' ⟨he,hb'⟩=>⟨he,hb.trans (hb'.mono hb.size)⟩)
   (by rw [hml,hS.len];exact Nat.le_refl _) (by have:=hS.big;omega) h0
   (fun j hj i v hv=>by
    have hjl:j < L.length:=by rw [<- hml];exact hj
    have A:=hS.cell _ rfl j (by rw [<- hS.len];exact hjl)
    have e:(M[j]!).1=L.getD j sn0:=by
     rw [getElem!_pos M j hj];subst hM;rw [List.getElem_pmap];simp [List.getD,hjl]
    simp only [e] at hv;have q0:=A.c0;have q1:=A.c1;have q2:=A.c2;rw [Addr.add_lit] at q0 q1 q2;rw [Addr.add_lit] at q1 q2
    match i,hv with
    | 0,hv=>rw [<- hv];exact q0
    | 1,hv=>rw [<- hv];exact q1
    | 2,hv=>rw [<- hv];exact q2
    | i+3,hv=>simp [encSn,SC] at hv)
  rw [List.take_of_length_le (by rw [hml,hS.len];exact Nat.le_refl _)] at h
  have ea:M.any (fun c:So=>outB p.P c.1)=L.any (outB p.P):=by
   rw [Bool.eq_iff_iff,List.any_eq_true,List.any_eq_true];subst hM;constructor
   ·rintro ⟨x,hx,h⟩;obtain ⟨c,hc,rfl⟩:=List.mem_pmap.1 hx;exact ⟨c,hc,h⟩
   ·rintro ⟨c,hc,h⟩;exact ⟨⟨c,hL c hc⟩,List.mem_pmap.2 ⟨c,hc,rfl⟩,h⟩
  rw [<- ea];exact h
theorem within7_any (a p:Pv) (w:World) (hA:PSrc w a) (hS:PSrc w p) (ha:InForm a.P) (hf:InForm p.P) :
  Calls Tryz.prog 42 #[PV a,PV p] w fun e w'=>GivesB w w' e (wiP a.P p.P):=by
 have b1:=below_new w (.cells (PC a) 26);have x1:=pbox_new w a;have s1:=World.size_alloc w (.cells (PC a) 26);obtain ⟨w1,hw1⟩:∃ w1,w.alloc (.cells (PC a) 26)=w1:=⟨_,rfl⟩;obtain ⟨g1,hg1⟩:∃ g1,w.heap.size=g1:=⟨_,rfl⟩;rw [hw1] at b1 x1 s1;rw [hg1] at x1 s1;have b2:=below_new w1 (.cells (PC p) 26);have x2:=pbox_new w1 p;obtain ⟨w2,hw2⟩:∃ w2,w1.alloc (.cells (PC p) 26)=w2:=⟨_,rfl⟩;rw [hw2] at b2 x2;rw [s1] at x2;have HB:=hide (b1.trans (b2.mono b1.size));have HX:Hid (PBox w2 g1 a/\PBox w2 (g1+1) p):=⟨x1.below b2,x2⟩;have HA:=hide (hA.below HB.out);have HS:=hide (hS.below HB.out);have HF:Hid (InForm a.P/\InForm p.P):=⟨ha,hf⟩;have HVN:Hid (a.P.vec.length=a.vn):=hA.vec.1
 have HV16:Hid (a.vn <= 16/\∀ j,j < 16 -> 0 <= a.P.vec.getD j 0/\a.P.vec.getD j 0 <= 1000000000):=by rw [<- HVN.out];exact form_vec ha
 have HW:=hide (wi_iff (P:=p.P) ha);have k0:=(HX.out.1).nums.1;clear b1 b2 x1 x2 hA hS ha hf;go_enter Tryz.func42,Tryz.ntmps42;go_wp2_with fail;clear hw1 hw2 s1 hg1 k0;go_loopw [5,6,10] (fun _ _ i wr=>∃ k:Nat,k <= a.vn/\i = .int .i64 (k:Int)/\Hid (Below w2.heap.size w2 wr/\∀ j,j < k -> 0 < a.P.vec.getD j 0 -> spIn p.P ⟨(j:Int),1,a.P.vec.getD j 0⟩)) (fun _ _ i _=>a.vn - (intOf i).toNat)
 case atStart=>exact ⟨0,Nat.zero_le _,rfl,Below.refl _ _,fun j hj=>by omega⟩
 case round =>
  obtain ⟨k,hk,rfl,HI⟩:=hrel
  rename World=>wr
  have hk16:=HV16.out.1;by_cases hlt:k < a.vn
  ·have hlti:(k:Int) < (a.vn:Int):=by omega
   obtain ⟨ad,hao,cz⟩:=isrc_at (HA.out.below HI.out.1).vec k hlt;obtain ⟨z,Hz⟩:∃ z,Hid (a.P.vec.getD k 0=z):=⟨_,rfl⟩;rw [Hz.out] at cz;have Hao:=hide hao;have Hlt:=hide hlt
   have HZb:Hid (0 <= z/\z <= 1000000000):=by rw [<- Hz.out];exact HV16.out.2 k (by omega)
   have lp:=run_ldP (HX.out.2.below HI.out.1).at
   rw [hao];by_cases hz:0 < z
   ·clear hao;go_wp2_with fail;clear cz lp;refine (holds_any p k 1 z _ (HS.out.below HI.out.1) HF.out.2 (by have:=Hlt.out;omega) (Int.le_refl _) (by omega) HZb.out.2).mono ?_;rintro e w3 ⟨b,rfl,hb,b3⟩;have HB3:=hide (HI.out.1.trans (b3.mono HI.out.1.size))
    cases b with
    | true =>
     have HN:Hid (∀ j,j < k+1 -> 0 < a.P.vec.getD j 0 -> spIn p.P ⟨(j:Int),1,a.P.vec.getD j 0⟩):=fun j hj hp=>by
      by_cases e:j=k
      ·subst e;rw [Hz.out];exact hb.1 rfl
      ·exact HI.out.2 j (by omega) hp
     clear hb b3;go_wp2_with fail;go_roundw
     case rel=>exact ⟨k+1,Hlt.out,by simp,HB3.out,HN.out⟩
     case measure=>simp [intOf];have:=Hlt.out;omega
    | false =>
     have HE:Hid (GivesB w w3 (.returned (.bool false)) (wiP a.P p.P)):=⟨false,rfl,⟨fun h=>(by cases h),fun q=>by
      have:=(HW.out.1 q).1 k (by rw [HVN.out];exact Hlt.out) (by rw [Hz.out];exact hz);rw [Hz.out] at this;have:=hb.2 this
      cases this⟩,HB.out.trans (HB3.out.mono HB.out.size)⟩
     clear hb b3;go_wp2_with fail;go_ret;exact HE.out
   ·have HN:Hid (∀ j,j < k+1 -> 0 < a.P.vec.getD j 0 -> spIn p.P ⟨(j:Int),1,a.P.vec.getD j 0⟩):=fun j hj hp=>by
     by_cases e:j=k
     ·subst e;rw [Hz.out] at hp;exact absurd hp hz
     ·exact HI.out.2 j (by omega) hp
    clear hao;go_wp2_with fail;clear cz lp;go_roundw
    case rel=>exact ⟨k+1,Hlt.out,by simp,HI.out.1,HN.out⟩
    case measure=>simp [intOf];have:=Hlt.out;omega
  ·have hlti:¬ (k:Int) < (a.vn:Int):=by omega
   have k1:=(HX.out.1.below HI.out.1).nums.2;have HV:Hid (∀ j,j < a.P.vec.length -> 0 < a.P.vec.getD j 0 -> spIn p.P ⟨(j:Int),1,a.P.vec.getD j 0⟩):=fun j hj hp=>HI.out.2 j (by rw [HVN.out] at hj;omega) hp;go_wp2_with fail;clear k1;refine (conW_any a.co a.cn a.cc a.P.cloud _ p _ (HA.out.below HI.out.1).cloud (form_sn HF.out.1) (HX.out.2.below HI.out.1) (HS.out.below HI.out.1) HF.out.2).mono ?_;rintro e w3 ⟨rfl,b3⟩
   have HE:Hid (GivesB w w3 (.returned (.bool (!(a.P.cloud.any (outB p.P))))) (wiP a.P p.P)):=⟨_,rfl,by
    rw [HW.out,Bool.not_eq_true',Bool.eq_false_iff,ne_eq,List.any_eq_true];constructor
    ·intro q;refine ⟨HV.out,fun c hc=>Classical.byContradiction fun n=>q ⟨c,hc,by unfold outB;simp [n]⟩⟩
    ·rintro ⟨-,q⟩ ⟨c,hc,h⟩;unfold outB at h;simp at h
     exact h (q c hc),HB.out.trans ((HI.out.1.trans (b3.mono HI.out.1.size)).mono HB.out.size)⟩
   clear b3;generalize a.P.cloud.any (outB p.P)=x at HE ⊢;go_wp2_with fail;go_ret;exact HE.out
end
section

def tin (t:List Int) (n:Int):Bool:=decide (cnt t n % 2=1)
theorem cnt_cons (x:Int) (t:List Int) (n:Int):cnt (x :: t) n=(if x <= n then 1 else 0)+cnt t n:=by
 have:x :: t=[x]++t:=rfl;rw [this,cnt_append,cnt_one]
theorem tn_in:∀ {R:List Rn} {l:Int},form l R -> ∀ x,x∈tn R -> l <= x/\x <= 1000000001
 | [],_,_,x,h=>by cases h
 | r :: t,l,h,x,hx=>by
  have h1:=h.1;have h2:=h.2.1;have h3:=h.2.2.1;rcases List.mem_cons.1 hx with e | e
  ·subst e;omega
  ·rcases List.mem_cons.1 e with e | e
   ·subst e;omega
   ·have:=tn_in h.2.2.2 x e;omega
theorem tn_rise:∀ {R:List Rn} {l:Int},form l R -> (tn R).Pairwise (· < ·)
 | [],_,_=>List.Pairwise.nil
 | r :: t,l,h=>by
  have h2:=h.2.1;refine List.pairwise_cons.2 ⟨fun x hx=>?_,List.pairwise_cons.2 ⟨fun x hx=>?_,tn_rise h.2.2.2⟩⟩
  ·rcases List.mem_cons.1 hx with e | e
   ·subst e;omega
   ·have:=(tn_in h.2.2.2 x e).1;omega
  ·have:=(tn_in h.2.2.2 x hx).1;omega
theorem tin_tn:∀ {R:List Rn} {l:Int},form l R -> ∀ n,(tin (tn R) n=true↔inR R n)
 | [],_,_,n=>by simp [tin,tn,cnt,inR]
 | r :: t,l,h,n=>by
  have ih:=tin_tn h.2.2.2 n;have h2:=h.2.1
  have key:inR (r :: t) n↔(r.lo <= n/\n <= r.hi)∨inR t n:=by unfold inR;simp
  rw [key,<- ih];unfold tin;simp only [decide_eq_true_eq]
  show cnt (r.lo :: (r.hi+1) :: tn t) n % 2=1↔_
  rw [cnt_cons,cnt_cons];by_cases a1:r.hi+1 <= n
  ·rw [if_pos a1,if_pos (by omega)];constructor
   ·intro g;exact Or.inr (by omega)
   ·rintro (g | g) <;> omega
  ·have hz:cnt (tn t) n=0:=cnt_none (fun x hx=>by have:=(tn_in h.2.2.2 x hx).1;omega);rw [if_neg a1,hz];by_cases a2:r.lo <= n
   ·rw [if_pos a2];exact ⟨fun _=>Or.inl ⟨a2,by omega⟩,fun _=>rfl⟩
   ·rw [if_neg a2];constructor
    ·intro g;omega
    ·rintro (g | g) <;> omega
theorem tn_of:∀ (k:Nat) {t:List Int} {l:Int},t.length=2 * k -> t.Pairwise (· < ·) -> (∀ x,x∈t -> l <= x/\x <= 1000000001) -> ∃ R,form l R/\tn R=t
 | 0,t,l,he,_,_=>by
  obtain rfl:t=[]:=List.eq_nil_of_length_eq_zero (by omega);exact ⟨[],trivial,rfl⟩
 | k+1,[],l,he,_,_=>by simp at he
 | k+1,[a],l,he,_,_=>by simp at he;omega
 | k+1,a :: b :: t,l,he,hp,hb=>by
  obtain ⟨p1,p2⟩:=List.pairwise_cons.1 hp;obtain ⟨p3,p4⟩:=List.pairwise_cons.1 p2;have hab:=p1 b List.mem_cons_self;have ha:=hb a List.mem_cons_self;have hbb:=hb b (List.mem_cons_of_mem _ List.mem_cons_self);obtain ⟨R,hR,e⟩:=tn_of k (t:=t) (l:=b+1) (by simp at he;omega) p4 (fun x hx=>⟨by have:=p3 x hx;omega,(hb x (List.mem_cons_of_mem _ (List.mem_cons_of_mem _ hx))).2⟩);refine ⟨⟨a,b - 1⟩ :: R,⟨ha.1,by show a <= b - 1;omega,by show b - 1 <= 1000000000;omega,?_⟩,?_⟩
  ·have e2:b - 1+2=b+1:=by omega
   show form (b - 1+2) R
   rw [e2];exact hR
  ·show a :: (b - 1+1) :: tn R=_
   rw [e,Int.sub_add_cancel]
def rul (k:Int) (x y:Bool):Bool:=(k == 1 && x && y) || (k == 2 && x && !y)
theorem rul_ff (k:Int) (y:Bool):rul k false y=false:=by simp [rul]
structure CbI (k:Int) (A B:List Int) (i j:Nat) (t:List Int) (b:Bool):Prop where
 hi:i <= A.length
 hj:j <= B.length
 tr:t.Pairwise (· < ·)
 tl:∀ x,x∈t -> x∈A.take i++B.take j
 lt:∀ x,x∈A.take i++B.take j -> ∀ y,y∈A.drop i++B.drop j -> x < y
 ev:∀ n,tin t n=rul k (tin (A.take i) n) (tin (B.take j) n)
 nw:b=decide (t.length % 2=1)
theorem CbI.start (k:Int) (A B:List Int):CbI k A B 0 0 [] false:=
 ⟨Nat.zero_le _,Nat.zero_le _,List.Pairwise.nil,(fun x h=>by cases h),(fun x h=>by simp at h),fun n=>by simp [tin,cnt,rul],rfl⟩
theorem tin_all {L:List Int} {n:Int} (h:∀ x,x∈L -> x <= n):tin L n=decide (L.length % 2=1):=by unfold tin;rw [cnt_all h]
theorem tin_pre {L M:List Int} {n:Int} (h:∀ x,x∈M -> n < x):tin (L++M) n=tin L n:=by unfold tin;rw [cnt_append,cnt_none h,Nat.add_zero]
theorem CbI.step {k:Int} {A B:List Int} {i j i' j':Nat} {t:List Int} {b:Bool} {at':Int} (S:CbI k A B i j t b)
  (hA:A.Pairwise (· < ·)) (hB:B.Pairwise (· < ·))
  (ha:(A[i]? = some at'/\i'=i+1)∨((∀ x,A[i]? = some x -> at' < x)/\i'=i))
  (hb:(B[j]? = some at'/\j'=j+1)∨((∀ x,B[j]? = some x -> at' < x)/\j'=j))
  (hs:A[i]? = some at'∨B[j]? = some at') :
  (rul k (decide (i' % 2=1)) (decide (j' % 2=1))=b -> CbI k A B i' j' t b)/\(rul k (decide (i' % 2=1)) (decide (j' % 2=1))≠b -> CbI k A B i' j' (t++[at']) (!b)):=by
 have step1:∀ (L:List Int) (u u':Nat),L.Pairwise (· < ·) -> u <= L.length -> ((L[u]? = some at'/\u'=u+1)∨((∀ x,L[u]? = some x -> at' < x)/\u'=u)) ->
   u' <= L.length/\(∃ M,L.take u'=L.take u++M/\∀ x,x∈M -> x=at')/\(∀ y,y∈L.drop u' -> at' < y)/\(∀ y,y∈L.drop u' -> y∈L.drop u):=by
  intro L u u' hL hu h
  have hdrop:∀ v x,L[v]? = some x -> ∀ y,y∈L.drop (v+1) -> x < y:=by
   intro v x hx y hy;have hp:(L.drop v).Pairwise (· < ·):=hL.sublist (List.drop_sublist _ _);rw [(take_on' L v x hx).2] at hp;exact (List.pairwise_cons.1 hp).1 y hy
  rcases h with ⟨h1,rfl⟩ | ⟨h1,rfl⟩
  ·have hl:=(List.getElem?_eq_some_iff.1 h1).1;obtain ⟨t1,t2⟩:=take_on' L u at' h1;exact ⟨hl,⟨[at'],t1,fun x hx=>List.mem_singleton.1 hx⟩,hdrop u at' h1,fun y hy=>by rw [t2];exact List.mem_cons_of_mem _ hy⟩
  ·refine ⟨hu,⟨[],by simp,fun x hx=>by cases hx⟩,fun y hy=>?_,fun y hy=>hy⟩
   cases hx:L[u']? with
   | none=>rw [List.drop_of_length_le (by simpa using hx)] at hy;cases hy
   | some x =>
    have h2:=h1 x hx;rw [(take_on' L u' x hx).2] at hy;rcases List.mem_cons.1 hy with e | e
    ·omega
    ·have:=hdrop u' x hx y e;omega
 obtain ⟨a1,⟨MA,a2,a3⟩,a4,a5⟩:=step1 A i i' hA S.hi ha;obtain ⟨b1,⟨MB,b2,b3⟩,b4,b5⟩:=step1 B j j' hB S.hj hb
 have hat:at'∈A.drop i++B.drop j:=by
  rcases hs with h | h
  ·exact List.mem_append_left _ (by rw [(take_on' A i at' h).2];exact List.mem_cons_self)
  ·exact List.mem_append_right _ (by rw [(take_on' B j at' h).2];exact List.mem_cons_self)
 have hatk:at'∈A.take i'++B.take j':=by
  rcases hs with h | h
  ·rcases ha with ⟨_,e⟩ | ⟨g,_⟩
   ·exact List.mem_append_left _ (by rw [e,(take_on' A i at' h).1];exact List.mem_append_right _ (List.mem_singleton.2 rfl))
   ·have:=g at' h;omega
  ·rcases hb with ⟨_,e⟩ | ⟨g,_⟩
   ·exact List.mem_append_right _ (by rw [e,(take_on' B j at' h).1];exact List.mem_append_right _ (List.mem_singleton.2 rfl))
   ·have:=g at' h;omega
 have hold:∀ x,x∈A.take i++B.take j -> x < at':=fun x hx=>S.lt x hx at' hat
 have hmono:∀ x,x∈A.take i++B.take j -> x∈A.take i'++B.take j':=fun x hx=>by
  rw [a2,b2];rcases List.mem_append.1 hx with g | g
  ·exact List.mem_append_left _ (List.mem_append_left _ g)
  ·exact List.mem_append_right _ (List.mem_append_left _ g)
 have hnew:∀ x,x∈A.take i'++B.take j' -> x <= at':=fun x hx=>by
  rw [a2,b2] at hx;rcases List.mem_append.1 hx with g | g
  ·rcases List.mem_append.1 g with g | g
   ·have:=hold x (List.mem_append_left _ g);omega
   ·have:=a3 x g;omega
  ·rcases List.mem_append.1 g with g | g
   ·have:=hold x (List.mem_append_right _ g);omega
   ·have:=b3 x g;omega
 have hlt:∀ x,x∈A.take i'++B.take j' -> ∀ y,y∈A.drop i'++B.drop j' -> x < y:=fun x hx y hy=>by
  have h1:=hnew x hx;rcases List.mem_append.1 hy with g | g
  ·have:=a4 y g;omega
  ·have:=b4 y g;omega
 have htl:∀ x,x∈t -> x < at':=fun x hx=>hold x (S.tl x hx)
 have low:∀ n,n < at' -> tin (A.take i') n=tin (A.take i) n/\tin (B.take j') n=tin (B.take j) n:=fun n hn=>by
  rw [a2,b2];exact ⟨tin_pre (fun x hx=>by rw [a3 x hx];exact hn),tin_pre (fun x hx=>by rw [b3 x hx];exact hn)⟩
 have high:∀ n,at' <= n -> tin (A.take i') n=decide (i' % 2=1)/\tin (B.take j') n=decide (j' % 2=1):=fun n hn=>by
  rw [tin_all (fun x hx=>Int.le_trans (hnew x (List.mem_append_left _ hx)) hn),tin_all (fun x hx=>Int.le_trans (hnew x (List.mem_append_right _ hx)) hn),List.length_take,List.length_take,Nat.min_eq_left a1,Nat.min_eq_left b1];exact ⟨rfl,rfl⟩
 refine ⟨fun he=>⟨a1,b1,S.tr,fun x hx=>hmono x (S.tl x hx),hlt,fun n=>?_,S.nw⟩,fun hne=>⟨a1,b1,?_,fun x hx=>?_,hlt,fun n=>?_,?_⟩⟩
 ·by_cases hn:n < at'
  ·rw [(low n hn).1,(low n hn).2,S.ev n]
  ·rw [(high n (by omega)).1,(high n (by omega)).2,he,tin_all (fun x hx=>by have:=htl x hx;omega),S.nw]
 ·refine List.pairwise_append.2 ⟨S.tr,List.pairwise_singleton _ _,fun x hx y hy=>?_⟩;obtain rfl:=List.mem_singleton.1 hy;exact htl x hx
 ·rcases List.mem_append.1 hx with g | g
  ·exact hmono x (S.tl x g)
  ·obtain rfl:=List.mem_singleton.1 g;exact hatk
 ·by_cases hn:n < at'
  ·rw [(low n hn).1,(low n hn).2,tin_pre (fun x hx=>by rw [List.mem_singleton.1 hx];exact hn),S.ev n]
  ·have hb':rul k (decide (i' % 2=1)) (decide (j' % 2=1)) = !b:=by
    revert hne
    cases rul k (decide (i' % 2=1)) (decide (j' % 2=1)) <;> cases b <;> simp
   rw [(high n (by omega)).1,(high n (by omega)).2,hb',tin_all (fun x hx=>?_),S.nw,List.length_append]
   ·show decide ((t.length+1) % 2=1)=_
    by_cases h:t.length % 2=1
    ·rw [decide_eq_true h,decide_eq_false (by omega)];rfl
    ·rw [decide_eq_false h,decide_eq_true (by omega)];rfl
   ·rcases List.mem_append.1 hx with g | g
    ·have:=htl x g;omega
    ·have:=List.mem_singleton.1 g;omega
 ·rw [S.nw,List.length_append]
  show _=decide ((t.length+1) % 2=1)
  by_cases h:t.length % 2=1
  ·rw [decide_eq_true h,decide_eq_false (by omega)];rfl
  ·rw [decide_eq_false h,decide_eq_true (by omega)];rfl
def CombOf (k:Int) (a b c:List Rn):Prop:=form 1 c/\∀ n,mem c n↔((k=1/\mem a n/\mem b n)∨(k=2/\mem a n/\¬ mem b n))
theorem CbI.done {k:Int} {a b:List Rn} {t:List Int} {x:Bool} (ha:form 1 a) (hb:form 1 b) (S:CbI k (tn a) (tn b) (tn a).length (tn b).length t x):∃ c,t=tn c/\CombOf k a b c:=by
 have hev:=S.ev;simp only [List.take_length] at hev
 have hbd:∀ z,z∈t -> 1 <= z/\z <= 1000000001:=fun z hz=>by
  have:=S.tl z hz;simp only [List.take_length] at this;rcases List.mem_append.1 this with g | g
  ·exact tn_in ha z g
  ·exact tn_in hb z g
 have hlen:t.length % 2=0:=by
  have h1:=hev 1000000001;rw [tin_all (fun z hz=>(hbd z hz).2),tin_all (fun z hz=>(tn_in ha z hz).2),tn_length] at h1;rw [show decide (2 * a.length % 2=1)=false from decide_eq_false (by omega),rul_ff] at h1;have:=of_decide_eq_false h1;omega
 obtain ⟨c,hc,e⟩:=tn_of (t.length / 2) (l:=1) (t:=t) (by omega) S.tr hbd;refine ⟨c,e.symm,hc,fun n=>?_⟩;rw [mem_inR hc,mem_inR ha,mem_inR hb,<- tin_tn hc,<- tin_tn ha,<- tin_tn hb,e,hev n];unfold rul
 cases tin (tn a) n <;> cases tin (tn b) n <;> simp
end
section
open Go.RowKit

theorem cb_next (A B:List Int) (i j:Nat) (hi:i <= A.length) (hj:j <= B.length) (h:i < A.length∨j < B.length):∃ (at':Int) (i' j':Nat) (c1 c2 c3:Bool),
  (c1=true↔(j=B.length∨(i < A.length/\A.getD i 0 < B.getD j 0))) /\
  (c1=true -> i < A.length/\at'=A.getD i 0)/\(c1=false -> j < B.length/\at'=B.getD j 0) /\
  (c2=true↔(i < A.length/\A.getD i 0=at'))/\(c2=true -> i'=i+1)/\(c2=false -> i'=i) /\
  (c3=true↔(j < B.length/\B.getD j 0=at'))/\(c3=true -> j'=j+1)/\(c3=false -> j'=j) /\
  ((A[i]? = some at'/\i'=i+1)∨((∀ x,A[i]? = some x -> at' < x)/\i'=i)) /\
  ((B[j]? = some at'/\j'=j+1)∨((∀ x,B[j]? = some x -> at' < x)/\j'=j)) /\
  (A[i]? = some at'∨B[j]? = some at')/\i+j < i'+j'/\i' <= A.length/\j' <= B.length:=by
 have eA:i < A.length -> A[i]? = some (A.getD i 0):=fun g=>getD_some A i g;have eB:j < B.length -> B[j]? = some (B.getD j 0):=fun g=>getD_some B j g;have nA:¬ i < A.length -> ∀ x,A[i]? ≠ some x:=fun g x e=>g (List.getElem?_eq_some_iff.1 e).1;have nB:¬ j < B.length -> ∀ x,B[j]? ≠ some x:=fun g x e=>g (List.getElem?_eq_some_iff.1 e).1;generalize A.getD i 0=x at *;generalize B.getD j 0=y at *;by_cases h1:i < A.length
 ·have e1:=eA h1;by_cases h2:j < B.length
  ·have e2:=eB h2;by_cases h3:x < y
   ·refine ⟨x,i+1,j,true,true,false,by simp;omega,by simp;omega,by simp,by simp;omega,by simp,by simp,by simp;omega,by simp,by simp,Or.inl ⟨e1,rfl⟩,Or.inr ⟨fun z hz=>?_,rfl⟩,Or.inl e1,by omega,by omega,by omega⟩;rw [e2] at hz;obtain rfl:=Option.some.inj hz;exact h3
   ·by_cases h4:x=y
    ·subst h4;exact ⟨x,i+1,j+1,false,true,true,by simp;omega,by simp,by simp;omega,by simp;omega,by simp,by simp,by simp;omega,by simp,by simp,Or.inl ⟨e1,rfl⟩,Or.inl ⟨e2,rfl⟩,Or.inl e1,by omega,by omega,by omega⟩
    ·refine ⟨y,i,j+1,false,false,true,by simp;omega,by simp,by simp;omega,by simp;omega,by simp,by simp,by simp;omega,by simp,by simp,Or.inr ⟨fun z hz=>?_,rfl⟩,Or.inl ⟨e2,rfl⟩,Or.inr e2,by omega,by omega,by omega⟩;rw [e1] at hz;obtain rfl:=Option.some.inj hz;omega
  ·refine ⟨x,i+1,j,true,true,false,by simp;omega,by simp;omega,by simp,by simp;omega,by simp,by simp,by simp;omega,by simp,by simp,Or.inl ⟨e1,rfl⟩,Or.inr ⟨fun z hz=>absurd hz (nB h2 z),rfl⟩,Or.inl e1,by omega,by omega,by omega⟩
 ·have h2:j < B.length:=by omega
  have e2:=eB h2;refine ⟨y,i,j+1,false,false,true,by simp;omega,by simp,by simp;omega,by simp;omega,by simp,by simp,by simp;omega,by simp,by simp,Or.inr ⟨fun z hz=>absurd hz (nA h1 z),rfl⟩,Or.inl ⟨e2,rfl⟩,Or.inr e2,by omega,by omega,by omega⟩
theorem par_eq (i:Nat):((i:Int) % 2 == 1)=decide (i % 2=1):=by
 by_cases h:i % 2=1
 ·rw [decide_eq_true h,show (i:Int) % 2=1 by omega];rfl
 ·rw [decide_eq_false h,show (i:Int) % 2=0 by omega];rfl
def GivesC (w w':World) (e:Ending) (k:Int) (a b:List Rn):Prop:=∃ ao n c X,e = .returned (.slice ao n c)/\V.Src w' ao n c (tn X)/\(∀ ad,ao=some ad -> w.heap.size <= ad.block)/\Below w.heap.size w w'/\CombOf k a b X
theorem combine_any (la lb:Option Addr) (n m ca cb:Nat) (A B:List Rn) (k:Int) (w:World) (hA:V.Src w la n ca (tn A)) (hB:V.Src w lb m cb (tn B)) (fA:form 1 A) (fB:form 1 B) (hk:k=1∨k=2) :
  Calls Tryz.prog 126 #[.slice la n ca,.slice lb m cb,.int .i64 k] w fun e w'=>GivesC w w' e k A B:=by
 have HA:=hide hA;have HB:=hide hB;have HF:=hide (And.intro fA fB);have HK:=hide hk;have HLA:Hid ((tn A).length=n):=hA.1;have HLB:Hid ((tn B).length=m):=hB.1
 have hnb:n <= 1000000002:=by have h1:=hA.1;rw [tn_length] at h1;have:=form_small (Int.le_refl _) fA;omega
 have hmb:m <= 1000000002:=by have h1:=hB.1;rw [tn_length] at h1;have:=form_small (Int.le_refl _) fB;omega
 clear hA hB fA fB hk;go_enter Tryz.func126,Tryz.ntmps126;go_wp2_with fail;go_loopw [7,8,9,10] (fun v vi vj vb wr=>∃ (i j:Nat) (ao:Option Addr) (cap l:Nat) (acc:List Int) (b:Bool),i <= n/\j <= m/\l <= i+j/\v = .slice ao l cap/\vi = .int .i64 i/\vj = .int .i64 j/\vb = .bool b/\Hid (acc.length=l/\OwnI w.heap.size w.heap.size w wr ao cap acc/\CbI k (tn A) (tn B) i j acc b)) (fun _ vi vj _ _=>n+m - ((intOf vi).toNat+(intOf vj).toNat))
 case atStart=>exact ⟨0,0,none,0,0,[],false,Nat.zero_le _,Nat.zero_le _,Nat.zero_le _,rfl,rfl,rfl,rfl,rfl,OwnI.nil (Below.refl _ _) (Nat.le_refl _) (Nat.le_refl _),CbI.start _ _ _⟩
 case round =>
  obtain ⟨i,j,ao,cap,l,acc,b,hi,hj,hl,rfl,rfl,rfl,rfl,HI⟩:=hrel
  rename World=>w6
  by_cases hgo:i < n∨j < m
  ·obtain ⟨at',i',j',c1,c2,c3,f1,f2,f3,f4,f5,f6,f7,f8,f9,g1,g2,g3,f10,f11,f12⟩:=cb_next (tn A) (tn B) i j (by rw [HLA.out];exact hi) (by rw [HLB.out];exact hj) (by rw [HLA.out,HLB.out];exact hgo);have HST:=hide (HI.out.2.2.step (tn_rise HF.out.1) (tn_rise HF.out.2) g1 g2 g3);clear g1 g2 g3;rw [HLA.out] at f1 f2 f4 f11;rw [HLB.out] at f1 f3 f7 f12;obtain ⟨x,Hx⟩:∃ x,Hid ((tn A).getD i 0=x):=⟨_,rfl⟩;obtain ⟨y,Hy⟩:∃ y,Hid ((tn B).getD j 0=y):=⟨_,rfl⟩;rw [Hx.out] at f1 f2 f4;rw [Hy.out] at f1 f3 f7
   have HQ1:Hid (i < n -> ∃ da,la=some da/\w6.cell? (da.add i)=some (.int .i64 x)):=fun h=>by
    have:=isrc_at (HA.out.below HI.out.2.1.below) i h;rw [Hx.out] at this;exact this
   have HQ2:Hid (j < m -> ∃ db,lb=some db/\w6.cell? (db.add j)=some (.int .i64 y)):=fun h=>by
    have:=isrc_at (HB.out.below HI.out.2.1.below) j h;rw [Hy.out] at this;exact this
   have F1:=hide f1;have F2:=hide f2;have F3:=hide f3;have F4:=hide f4;have F5:=hide f5;have F6:=hide f6;have F7:=hide f7;have F8:=hide f8;have F9:=hide f9;clear f1 f2 f3 f4 f5 f6 f7 f8 f9;have HGO:=hide hgo;clear hgo;go_upto_region 4 with fail
   go_cut [24] from 15 to 114 (fun c wx=>c = .bool true/\wx=w6)
   case first =>
    by_cases hin:i < n
    ·go_wp2_with fail;go_meet
     case rel=>exact ⟨rfl,rfl⟩
    ·have hjm:j < m:=by have:=HGO.out;omega
     have hin':¬ (i:Int) < (n:Int):=by omega
     go_wp2_with fail;go_meet
     case rel=>exact ⟨rfl,rfl⟩
   case rest =>
    obtain ⟨rfl,hwe⟩:=hcut;subst hwe
    rename World=>w6
    go_upto_region 6 with fail
    go_cut [45] from 15 to 114 (fun c wx=>c = .bool c1/\Hid (Below w6.heap.size w6 wx))
    case first =>
     by_cases hjm:j < m
     ·have hne:((j:Int) == (m:Int))=false:=by simp;omega
      by_cases hin:i < n
      ·obtain ⟨da,hda,q1⟩:=HQ1.out hin;obtain ⟨db,hdb,q2⟩:=HQ2.out hjm;subst hda hdb;have r1:=cell_regrown q1;have r2:=cell_regrown q2;clear q1 q2;by_cases hxy:x < y
       ·have e1:c1=true:=F1.out.2 (Or.inr ⟨hin,hxy⟩);subst e1;refine wp_region_quiet_below (by kernel_rfl) (by kernel_rfl) ?_
        repeat (with_reducible (refine wpQuiet_step ?_);intro K hK;go_simp;(try rw [if_neg (by unfold undef;simp)]);first | (with_reducible (refine hK _ ?_);clear hK K) | (apply Exists.intro;refine ⟨fun _=>?_,hK _ ?_⟩;(fail);clear hK K))
        with_reducible (refine wpQuiet_nil ?_)
        intro w7 hw';obtain ⟨⟨dq,osq⟩,hw''⟩:=hw'
        have bw7:Below w6.heap.size w6 w7:=by rw [hw''];exact below_regrown w6 dq osq
        clear hw'' dq osq;go_wp2_with fail;go_meet
        case rel=>exact ⟨rfl,bw7⟩
       ·have e1:c1=false:=by cases c1 with | false=>rfl | true=>(have:=F1.out.1 rfl;omega)
        subst e1;refine wp_region_quiet_below (by kernel_rfl) (by kernel_rfl) ?_
        repeat (with_reducible (refine wpQuiet_step ?_);intro K hK;go_simp;(try rw [if_neg (by unfold undef;simp)]);first | (with_reducible (refine hK _ ?_);clear hK K) | (apply Exists.intro;refine ⟨fun _=>?_,hK _ ?_⟩;(fail);clear hK K))
        with_reducible (refine wpQuiet_nil ?_)
        intro w7 hw';obtain ⟨⟨dq,osq⟩,hw''⟩:=hw'
        have bw7:Below w6.heap.size w6 w7:=by rw [hw''];exact below_regrown w6 dq osq
        clear hw'' dq osq;go_wp2_with fail;go_meet
        case rel=>exact ⟨rfl,bw7⟩
      ·have e1:c1=false:=by cases c1 with | false=>rfl | true=>(have:=F1.out.1 rfl;omega)
       subst e1
       have hin':¬ (i:Int) < (n:Int):=by omega
       refine wp_region_quiet_below (by kernel_rfl) (by kernel_rfl) ?_
       repeat (with_reducible (refine wpQuiet_step ?_);intro K hK;go_simp;(try rw [if_neg (by unfold undef;simp)]);first | (with_reducible (refine hK _ ?_);clear hK K) | (apply Exists.intro;refine ⟨fun _=>?_,hK _ ?_⟩;(fail);clear hK K))
       with_reducible (refine wpQuiet_nil ?_)
       intro w7 hw';obtain ⟨⟨dq,osq⟩,hw''⟩:=hw'
       have bw7:Below w6.heap.size w6 w7:=by rw [hw''];exact below_regrown w6 dq osq
       clear hw'' dq osq;go_wp2_with fail;go_meet
       case rel=>exact ⟨rfl,bw7⟩
     ·have e1:c1=true:=F1.out.2 (Or.inl (by omega));subst e1
      have hne:((j:Int) == (m:Int))=true:=by simp;omega
      refine wp_region_quiet_below (by kernel_rfl) (by kernel_rfl) ?_
      repeat (with_reducible (refine wpQuiet_step ?_);intro K hK;go_simp;(try rw [if_neg (by unfold undef;simp)]);first | (with_reducible (refine hK _ ?_);clear hK K) | (apply Exists.intro;refine ⟨fun _=>?_,hK _ ?_⟩;(fail);clear hK K))
      with_reducible (refine wpQuiet_nil ?_)
      intro w7 hw';obtain ⟨⟨dq,osq⟩,hw''⟩:=hw'
      have bw7:Below w6.heap.size w6 w7:=by rw [hw''];exact below_regrown w6 dq osq
      clear hw'' dq osq;go_wp2_with fail;go_meet
      case rel=>exact ⟨rfl,bw7⟩
    case rest =>
     obtain ⟨rfl,HB7⟩:=hcut;have HO7:=hide (HI.out.2.1.later HB7.out);have HAL:=hide HI.out.1
     replace HQ1:Hid (i < n -> ∃ da,la=some da/\wc.cell? (da.add i)=some (.int .i64 x)):=fun h=>by
      obtain ⟨da,e,q⟩:=HQ1.out h;exact ⟨da,e,(HB7.out.cell (World.block_lt_of_cell? _ _ q)).trans q⟩
     replace HQ2:Hid (j < m -> ∃ db,lb=some db/\wc.cell? (db.add j)=some (.int .i64 y)):=fun h=>by
      obtain ⟨da,e,q⟩:=HQ2.out h;exact ⟨da,e,(HB7.out.cell (World.block_lt_of_cell? _ _ q)).trans q⟩
     clear HB7 HI;go_upto_if 45 with fail
     go_cut [11] from 15 to 114 (fun s wx=>s = .int .i64 at'/\wx=wc)
     case first =>
      cases c1 with
      | true =>
       obtain ⟨hin,e⟩:=F2.out rfl;subst e;obtain ⟨da,hda,q1⟩:=HQ1.out hin;subst hda;go_wp2_with fail;go_meet
       case rel=>exact ⟨rfl,rfl⟩
      | false =>
       obtain ⟨hjm,e⟩:=F3.out rfl;subst e;obtain ⟨db,hdb,q2⟩:=HQ2.out hjm;subst hdb;go_wp2_with fail;go_meet
       case rel=>exact ⟨rfl,rfl⟩
     case rest =>
      obtain ⟨rfl,hwe⟩:=hcut;subst hwe;clear F1 F2 F3
      rename World=>w7
      go_upto_region 9 with fail
      go_cut [65] from 15 to 114 (fun c wx=>c = .bool c2/\wx=w7)
      case first =>
       by_cases hin:i < n
       ·obtain ⟨da,hda,q1⟩:=HQ1.out hin;subst hda;by_cases he:x=at'
        ·have e2:c2=true:=F4.out.2 ⟨hin,he⟩;subst e2 he;go_wp2_with fail;go_meet
         case rel=>exact ⟨rfl,rfl⟩
        ·have e2:c2=false:=by cases c2 with | false=>rfl | true=>exact absurd (F4.out.1 rfl).2 he
         subst e2
         have he':(x == at')=false:=by simp [he]
         go_wp2_with fail;go_meet
         case rel=>exact ⟨rfl,rfl⟩
       ·have e2:c2=false:=by cases c2 with | false=>rfl | true=>exact absurd (F4.out.1 rfl).1 hin
        subst e2
        have hin':¬ (i:Int) < (n:Int):=by omega
        go_wp2_with fail;go_meet
        case rel=>exact ⟨rfl,rfl⟩
      case rest =>
       obtain ⟨rfl,hwe⟩:=hcut;subst hwe
       rename World=>w7
       go_upto_if 65 with fail
       go_cut [8] from 15 to 114 (fun s wx=>s = .int .i64 (i':Int)/\wx=w7)
       case first =>
        cases c2 with
        | true =>
         have e:=F5.out rfl;go_wp2_with fail;go_meet
         case rel=>exact ⟨by rw [e];go_num,rfl⟩
        | false =>
         have e:=F6.out rfl;go_wp2_with fail;go_meet
         case rel=>exact ⟨by rw [e],rfl⟩
       case rest =>
        obtain ⟨rfl,hwe⟩:=hcut;subst hwe;clear F4 F5 F6
        rename World=>w7
        go_upto_region 11 with fail
        go_cut [79] from 15 to 114 (fun c wx=>c = .bool c3/\wx=w7)
        case first =>
         by_cases hin:j < m
         ·obtain ⟨da,hda,q1⟩:=HQ2.out hin;subst hda;by_cases he:y=at'
          ·have e2:c3=true:=F7.out.2 ⟨hin,he⟩;subst e2 he;go_wp2_with fail;go_meet
           case rel=>exact ⟨rfl,rfl⟩
          ·have e2:c3=false:=by cases c3 with | false=>rfl | true=>exact absurd (F7.out.1 rfl).2 he
           subst e2
           have he':(y == at')=false:=by simp [he]
           go_wp2_with fail;go_meet
           case rel=>exact ⟨rfl,rfl⟩
         ·have e2:c3=false:=by cases c3 with | false=>rfl | true=>exact absurd (F7.out.1 rfl).1 hin
          subst e2
          have hin':¬ (j:Int) < (m:Int):=by omega
          go_wp2_with fail;go_meet
          case rel=>exact ⟨rfl,rfl⟩
        case rest =>
         obtain ⟨rfl,hwe⟩:=hcut;subst hwe
         rename World=>w7
         go_upto_if 79 with fail
         go_cut [9] from 15 to 114 (fun s wx=>s = .int .i64 (j':Int)/\wx=w7)
         case first =>
          cases c3 with
          | true =>
           have e:=F8.out rfl;go_wp2_with fail;go_meet
           case rel=>exact ⟨by rw [e];go_num,rfl⟩
          | false =>
           have e:=F9.out rfl;go_wp2_with fail;go_meet
           case rel=>exact ⟨by rw [e],rfl⟩
         case rest =>
          obtain ⟨rfl,hwe⟩:=hcut;subst hwe;clear F7 F8 F9 HQ1 HQ2
          rename World=>w7
          obtain ⟨px,Hpx⟩:∃ px:Bool,Hid (decide (i' % 2=1)=px):=⟨_,rfl⟩;obtain ⟨py,Hpy⟩:∃ py:Bool,Hid (decide (j' % 2=1)=py):=⟨_,rfl⟩;have p1:=par_eq i';have p2:=par_eq j';rw [Hpx.out] at p1;rw [Hpy.out] at p2;have HP12:=hide (And.intro p1 p2);clear p1 p2;obtain ⟨nw,Hnw⟩:∃ nw:Bool,Hid (rul k px py=nw):=⟨_,rfl⟩;rw [Hpx.out,Hpy.out,Hnw.out] at HST;go_upto_region 13 with fail
          go_cut [12,13] from 15 to 114 (fun s t wx=>s = .bool px/\t = .bool py/\wx=w7)
          case first =>
           go_wp2_with fail;go_meet
           case rel=>exact ⟨congrArg Value.bool HP12.out.1,congrArg Value.bool HP12.out.2,rfl⟩
          case rest =>
          obtain ⟨rfl,rfl,hwe⟩:=hcut;subst hwe
          rename World=>w7
          clear HP12 Hpx Hpy;go_upto_region 14 with fail
          go_cut [14] from 15 to 114 (fun s wx=>s = .bool nw/\wx=w7)
          case first =>
           have hnw:=Hnw.out;subst hnw;rcases HK.out with h | h
           ·subst h
            cases px <;> cases py <;> (go_wp2_with fail;go_meet;case rel=>exact ⟨rfl,rfl⟩)
           ·subst h
            cases px <;> cases py <;> (go_wp2_with fail;go_meet;case rel=>exact ⟨rfl,rfl⟩)
          case rest =>
           obtain ⟨rfl,hwe⟩:=hcut;subst hwe
           rename World=>w7
           clear Hnw
           cases nw <;> cases b
           ·have HN:=hide (HST.out.1 rfl);go_wp2_with fail;go_roundw
            case rel=>exact ⟨i',j',ao,cap,l,acc,_,f11,f12,by omega,rfl,rfl,rfl,rfl,HAL.out,HO7.out,HN.out⟩
            case measure=>simp [intOf];omega
           ·have HN:=hide (HST.out.2 (by decide));go_wp2_with (at_builtin;refine (HO7.out.later (below_new w7 _)).append [at'] ⟨w7.heap.size,0,none⟩ 1 1 (ilit1 w7 at' _ rfl 3) (by rw [HAL.out];omega) rfl (.tmp 110) (.tmp 112) rfl l HAL.out rfl rfl ?_;intro ao8 c8 v8 O8 _ _;have HO8:=hide O8;clear O8);go_roundw
            case rel=>exact ⟨i',j',ao8,c8,l+1,acc++[at'],false,f11,f12,by omega,rfl,rfl,rfl,rfl,by rw [List.length_append,HAL.out];rfl,HO8.out,HN.out⟩
            case measure=>simp [intOf];omega
           ·have HN:=hide (HST.out.2 (by decide));go_wp2_with (at_builtin;refine (HO7.out.later (below_new w7 _)).append [at'] ⟨w7.heap.size,0,none⟩ 1 1 (ilit1 w7 at' _ rfl 3) (by rw [HAL.out];omega) rfl (.tmp 110) (.tmp 112) rfl l HAL.out rfl rfl ?_;intro ao8 c8 v8 O8 _ _;have HO8:=hide O8;clear O8);go_roundw
            case rel=>exact ⟨i',j',ao8,c8,l+1,acc++[at'],true,f11,f12,by omega,rfl,rfl,rfl,rfl,by rw [List.length_append,HAL.out];rfl,HO8.out,HN.out⟩
            case measure=>simp [intOf];omega
           ·have HN:=hide (HST.out.1 rfl);go_wp2_with fail;go_roundw
            case rel=>exact ⟨i',j',ao,cap,l,acc,_,f11,f12,by omega,rfl,rfl,rfl,rfl,HAL.out,HO7.out,HN.out⟩
            case measure=>simp [intOf];omega
  ·have hin:¬ (i:Int) < (n:Int):=by omega
   have hjm:¬ (j:Int) < (m:Int):=by omega
   have ei:(tn A).length=i:=by rw [HLA.out];omega
   have ej:(tn B).length=j:=by rw [HLB.out];omega
   have hcb:=HI.out.2.2;rw [<- ei,<- ej] at hcb;obtain ⟨X,hX,hC⟩:=hcb.done HF.out.1 HF.out.2;obtain ⟨S3,f3,_,_⟩:=HI.out.2.1.src;have e3:=HI.out.1;rw [e3] at S3;rw [hX] at S3;have HG:Hid (GivesC w w6 (.returned (.slice ao l cap)) k A B):=⟨ao,l,cap,X,rfl,S3,f3,HI.out.2.1.below,hC⟩;clear S3 f3 e3 hX hC hcb ei ej HI;go_wp2_with fail;go_ret;exact HG.out
end
section
open Go.RowKit
attribute [local go_sem ↓] ldJ_eq stJ_eq
attribute [local go_sem] zeros_JA cells_JAv
def GivesSC (w w':World) (e:Ending) (k:Int) (N1 N2:Nat -> List Rn):Prop:=∃ (T:Nat -> Si) (N:Nat -> List Rn),e = .returned (JAv T)/\(∀ r,r < 16 -> V.Src w' (T r).ao (T r).n (T r).cap (tn (N r))/\(∀ ad,(T r).ao=some ad -> w.heap.size <= ad.block)/\CombOf k (N1 r) (N2 r) (N r))/\Below w.heap.size w w'
structure CbJ (w W:World) (k:Int) (T1 T2:Nat -> Si) (N1 N2:Nat -> List Rn) (T:Nat -> Si) (N:Nat -> List Rn) (j:Nat):Prop where
 a:ISets W w.heap.size 132 T1
 b:ISets W (w.heap.size+1) 132 T2
 z:ISets W (w.heap.size+1+1) 132 (fun _=>si0)
 s:ISets W (w.heap.size+1+1+1) 132 T
 bl:Below w.heap.size w W
 t:∀ r,r < j -> V.Src W (T r).ao (T r).n (T r).cap (tn (N r))/\(∀ ad,(T r).ao=some ad -> w.heap.size+1+1+1 < ad.block)/\CombOf k (N1 r) (N2 r) (N r)
theorem CbJ.start (w:World) (k:Int) (T1 T2:Nat -> Si) (N1 N2:Nat -> List Rn):CbJ w ((((w.alloc (.cells (JA T1) 132)).alloc (.cells (JA T2) 132)).alloc (.cells (JA fun _=>si0) 132)).alloc (.cells (JA fun _=>si0) 132)) k T1 T2 N1 N2 (fun _=>si0) (fun _=>[]) 0:=by
 have b1:=below_new w (.cells (JA T1) 132);have b2:=below_new (w.alloc (.cells (JA T1) 132)) (.cells (JA T2) 132);have b3:=below_new ((w.alloc (.cells (JA T1) 132)).alloc (.cells (JA T2) 132)) (.cells (JA fun _=>si0) 132);have b4:=below_new (((w.alloc (.cells (JA T1) 132)).alloc (.cells (JA T2) 132)).alloc (.cells (JA fun _=>si0) 132)) (.cells (JA fun _=>si0) 132);have i1:=isets_new w 132 T1;have i2:=isets_new (w.alloc (.cells (JA T1) 132)) 132 T2;have i3:=isets_new ((w.alloc (.cells (JA T1) 132)).alloc (.cells (JA T2) 132)) 132 (fun _=>si0);have i4:=isets_new (((w.alloc (.cells (JA T1) 132)).alloc (.cells (JA T2) 132)).alloc (.cells (JA fun _=>si0) 132)) 132 (fun _=>si0);have j1:=((i1.below b2).below b3).below b4;have j2:=(i2.below b3).below b4;have j3:=i3.below b4;simp only [World.size_alloc] at j1 j2 j3 i4;exact ⟨j1,j2,j3,i4,b1.trans ((b2.mono b1.size).trans ((b3.mono (b1.trans (b2.mono b1.size)).size).trans (b4.mono (b1.trans ((b2.mono b1.size).trans (b3.mono (b1.trans (b2.mono b1.size)).size))).size))),fun r h=>absurd h (by omega)⟩
theorem CbJ.on {w W W':World} {k:Int} {T1 T2:Nat -> Si} {N1 N2:Nat -> List Rn} {T:Nat -> Si} {N:Nat -> List Rn} {j:Nat} (I:CbJ w W k T1 T2 N1 N2 T N j) (hb:Below W.heap.size W W'):CbJ w W' k T1 T2 N1 N2 T N j:=
 ⟨I.a.below hb,I.b.below hb,I.z.below hb,I.s.below hb,I.bl.trans (hb.mono I.bl.size),fun r hr=>⟨(I.t r hr).1.below hb,(I.t r hr).2⟩⟩
theorem CbJ.push {w W W':World} {k:Int} {T1 T2:Nat -> Si} {N1 N2:Nat -> List Rn} {T:Nat -> Si} {N:Nat -> List Rn} {j:Nat} (I:CbJ w W k T1 T2 N1 N2 T N j) (hb:Below W.heap.size W W') {ao:Option Addr} {n c:Nat} {X:List Rn} (S:V.Src W' ao n c (tn X)) (hf:∀ ad,ao=some ad -> W.heap.size <= ad.block) (hN:CombOf k (N1 j) (N2 j) X) :
  CbJ w (W'.setCell ⟨w.heap.size+1+1+1,j,none⟩ (.slice ao n c)) k T1 T2 N1 N2 (Jset T j ⟨ao,n,c,[]⟩) (fun r=>if r=j then X else N r) (j+1):=by
 have hl:=I.s.lt;have J:=I.on hb;have hs:∀ {q:Nat},q≠w.heap.size+1+1+1 -> (W'.setCell ⟨w.heap.size+1+1+1,j,none⟩ (.slice ao n c)).heap[q]? = W'.heap[q]?:=fun h=>setCell_other h;refine ⟨(hs (by omega)).trans J.a,(hs (by omega)).trans J.b,(hs (by omega)).trans J.z,(I.s.below hb).set j ⟨ao,n,c,[]⟩ _ rfl,V.below_setCell J.bl (by simp;omega),fun r hr=>?_⟩;by_cases h:r=j
 ·subst h;rw [Jset_same,if_pos rfl];exact ⟨src_off S (fun ad h=>hs (by have:=hf ad h;omega)),fun ad h=>by have:=hf ad h;omega,hN⟩
 ·rw [Jset_other _ _ _ _ h,if_neg h];obtain ⟨h1,h2,h3⟩:=I.t r (by omega);exact ⟨src_off (h1.below hb) (fun ad h=>hs (by have:=h2 ad h;omega)),h2,h3⟩
theorem combined_any (T1 T2:Nat -> Si) (N1 N2:Nat -> List Rn) (k:Int) (w:World) (hS1:∀ r,r < 16 -> V.Src w (T1 r).ao (T1 r).n (T1 r).cap (tn (N1 r))/\form 1 (N1 r)) (hS2:∀ r,r < 16 -> V.Src w (T2 r).ao (T2 r).n (T2 r).cap (tn (N2 r))/\form 1 (N2 r)) (hk:k=1∨k=2) :
  Calls Tryz.prog 93 #[JAv T1,JAv T2,.int .i64 k] w fun e w'=>GivesSC w w' e k N1 N2:=by
 have HS1:=hide hS1;have HS2:=hide hS2;have HK:=hide hk;clear hS1 hS2 hk;have HJ0:=hide (CbJ.start w k T1 T2 N1 N2);go_enter Tryz.func93,Tryz.ntmps93;go_wp2_with fail;go_loopw [8] (fun i wr=>∃ (j:Nat) (T:Nat -> Si) (N:Nat -> List Rn),j <= 16/\i = .int .i64 j/\Hid (CbJ w wr k T1 T2 N1 N2 T N j)) (fun i _=>16 - (intOf i).toNat)
 case atStart=>exact ⟨0,_,_,Nat.zero_le _,rfl,HJ0⟩
 case round =>
  obtain ⟨y,T,N,hy16,rfl,HJ⟩:=hrel
  rename World=>w6
  clear HJ0;by_cases hy:y < 16
  ·have HGL:=hide HJ.out.s.lt;have sA:=(HS1.out y hy).1.below HJ.out.bl;have sB:=(HS2.out y hy).1.below HJ.out.bl;have HFA:=hide (HS1.out y hy).2;have HFB:=hide (HS2.out y hy).2;have c1:=HJ.out.a.cell y hy;have c2:=HJ.out.b.cell y hy;obtain ⟨sa,n,ca,sb,m,cb,hf⟩:∃ sa n ca sb m cb,(T1 y).ao=sa/\(T1 y).n=n/\(T1 y).cap=ca/\(T2 y).ao=sb/\(T2 y).n=m/\(T2 y).cap=cb:=⟨_,_,_,_,_,_,rfl,rfl,rfl,rfl,rfl,rfl⟩;rw [hf.1,hf.2.1,hf.2.2.1] at sA c1;rw [hf.2.2.2.1,hf.2.2.2.2.1,hf.2.2.2.2.2] at sB c2;have HSA:=hide (sA.below (below_drew1 w6));have HSB:=hide (sB.below (below_drew1 w6));have HSW:Hid (∀ W':World,(∀ q,q < w.heap.size+1+1+1 -> W'.heap[q]? = w6.heap[q]?) -> W'.cell? ⟨w.heap.size,y,none⟩=some (.slice sa n ca)/\W'.cell? ⟨w.heap.size+1,y,none⟩=some (.slice sb m cb)):=fun W' h=>⟨(World.cell?_of_block (h _ (by show w.heap.size < _;omega))).trans c1,(World.cell?_of_block (h _ (by show w.heap.size+1 < _;omega))).trans c2⟩
   clear sA sB hf
   have y0:(0:Int) <= (y:Int):=by omega
   have y1:(y:Int) < 16:=by omega
   go_wp2_with fail;refine wp_region_held_drew (S:=fun W=>W.cell? ⟨w.heap.size,y,none⟩=some (.slice sa n ca)/\W.cell? ⟨w.heap.size+1,y,none⟩=some (.slice sb m cb)) (by kernel_rfl) (HSW.out _ (fun q _=>rfl)) (fun hHeld=>?_);refine wU 0 ?_;refine wU 1 ?_;refine wU 2 ?_;refine wU 3 ?_;refine wU 4 ?_;refine wU 5 ?_;refine wU 6 ?_;refine wU 7 ?_;refine wU 8 ?_;refine wU 9 ?_;refine wU 11 ?_;refine wpAnyH_ready (rs:=[10]) (by kernel_rfl) (by simp) (.cons rfl (fun K hK=>?_) .nil);go_simp;go_wp2_with fail;have HJD:=hide (HJ.out.on (below_drew1 w6));refine (combine_any _ _ _ _ _ _ _ _ _ _ HSA.out HSB.out HFA.out HFB.out HK.out).mono ?_;rintro e w8 ⟨t9,tt,tc,TX,rfl,S8,f8,b8,N8⟩;have HP:=hide (HJD.out.push b8 S8 f8 N8);have HKA:Hid (∀ q,q < w6.heap.size -> w8.heap[q]? = w6.heap[q]?):=fun q hq=>b8.block q hq;have HS8:=(HJD.out.s.below b8)
   have e2:=HS8.frozen y;have e1:=HS8.cell y hy;have HKB:Hid (∀ q,q < w.heap.size+1+1+1 -> (w8.setCell ⟨w.heap.size+1+1+1,y,none⟩ (.slice t9 tt tc)).heap[q]? = w6.heap[q]?):=fun q hq=>(setCell_other (by omega)).trans (HKA.out q (by have:=HGL.out;omega));refine hK.out _ _ (HSW.out _ (fun q hq=>HKA.out q (by have:=HGL.out;omega))) (fun hHeld=>?_);clear hK K;refine wU 12 ?_;refine wpAnyH_ready (rs:=[13]) (by kernel_rfl) (by simp) (.cons rfl (fun K hK=>?_) .nil);go_simp;refine hK.out _ _ (HSW.out _ HKB.out) (fun hHeld=>?_);clear hK K;refine wpAnyH_done (by kernel_rfl) ?_ _;clear hHeld S8 f8 b8 N8 HKA HKB HS8 e1 e2;go_wp2_with fail;go_roundw
   case rel=>exact ⟨y+1,_,_,by omega,by go_num,HP⟩
   case measure=>simp [intOf];omega
  ·obtain rfl:y=16:=by omega
   have hld:=run_ldJ HJ.out.s;have hst:=run_stJ (F':=T) HJ.out.z;have HRes:=hide (ISets.setRow (F':=T) HJ.out.z)
   have HFin:Hid (GivesSC w (w6.setRow (w.heap.size+1+1) (JA T)) (.returned (JAv T)) k N1 N2):=by
    refine ⟨T,N,rfl,fun r hr=>?_,below_setRow HJ.out.bl (by omega)⟩;obtain ⟨h1,h2,h3⟩:=HJ.out.t r hr;exact ⟨src_off h1 (fun ad h=>setRow_other _ _ _ _ (fun e=>by have:=h2 ad h;omega)),fun ad h=>by have:=h2 ad h;omega,h3⟩
   clear HJ;go_wp2_with fail;exact bodyPost_ret (v:=JAv T) (resJ Tryz.results93 rfl HRes.out) rfl HFin.out
end
end Go.Proofs.YtaphmhbmhcahaabGreat
