/- PHa LPick LOf OPa -/
import Derived.Test.YtaphmhbmhcahaaaGreatTk
import Derived.Test.YtaphmhbmhcahaaaGreatSo03
import Derived.Test.YtaphmhbmhcahaaaGreatSo17
import Derived.Test.YtaphmhbmhcahaaaGreatSo08
import Derived.Test.YtaphmhbmhcahaaaGreatSo18
import Derived.Test.YtaphmhbmhcahaaaGreatSo11
import Derived.Test.YtaphmhbmhcahaaaGreatSo16
set_option maxRecDepth 100000
set_option maxHeartbeats 1600000
namespace Go.Proofs.YtaphmhbmhcahaaaGreat
open Go.RowKit
attribute [local go_sem ↓] ldP_eq stP_eq ldD_eq stD_eq ldS_eq stS_eq
attribute [local go_sem] zero_PC cells_PV fold_PC PC_size cells_RV RC_size cells_SV SC_size
theorem isDotP_any (d:Rn) (w:World):Calls Tryz.prog 86 #[RV d] w fun e w'=>e = .returned (.bool (V.isR d.lo && (decide (1 <= d.hi) && decide (d.hi <= 1000000000))))/\Below w.heap.size w w':=by
 have HB:=hide (below_new w (.cells (RC d) 43));have X1:=box_new w 43 d;have c0:=X1.at.c0;have c1:(w.alloc (.cells (RC d) 43)).cell? ⟨w.heap.size,1,none⟩=some (.int .i64 d.hi):=X1.at.c1;clear X1;obtain ⟨r,n⟩:=d;dsimp only at c0 c1 ⊢;obtain ⟨x,Hx⟩:∃ x,Hid (V.isR r=x):=⟨_,rfl⟩;rw [Hx.out]
 cases x with
 | false =>
  have HF:Hid ((false && (decide (1 <= n) && decide (n <= 1000000000)))=false):=rfl;go_enter Tryz.func86,Tryz.ntmps86;go_wp2_with (go_at_call 111;refine (isRepP_any r _).mono ?_;rintro e w' ⟨rfl,rfl⟩;rw [Hx.out]);go_ret;exact ⟨ret_bool HF.out.symm,HB.out⟩
 | true =>
  by_cases h1:1 <= n
  ·have HF:Hid ((true && (decide (1 <= n) && decide (n <= 1000000000)))=decide (n <= 1000000000)):=by show _=_;simp [h1]
   rw [HF.out];go_enter Tryz.func86,Tryz.ntmps86;go_wp2_with (go_at_call 111;refine (isRepP_any r _).mono ?_;rintro e w' ⟨rfl,rfl⟩;rw [Hx.out]);go_ret;exact ⟨rfl,HB.out⟩
  ·have HF:Hid ((true && (decide (1 <= n) && decide (n <= 1000000000)))=false):=by show _=_;simp [h1]
   rw [HF.out];go_enter Tryz.func86,Tryz.ntmps86;go_wp2_with (go_at_call 111;refine (isRepP_any r _).mono ?_;rintro e w' ⟨rfl,rfl⟩;rw [Hx.out]);go_ret;exact ⟨rfl,HB.out⟩
theorem idxS_nil (ao:Option Addr) (c:Nat) (v:Value) (w:World):Calls Tryz.prog 136 #[.slice ao 0 c,v] w fun e w'=>e = .returned (.int .i64 (-1))/\w'=w:=by
 go_enter Tryz.func136,Tryz.ntmps136;go_wp2_with fail;go_loopw [5,8] (fun _ i wr=>i = .int .i64 0/\wr=w) (fun _ _ _=>0)
 case atStart=>exact ⟨rfl,rfl⟩
 case round =>
  obtain ⟨rfl,rfl⟩:=hrel;go_wp2_with fail;go_ret;exact ⟨rfl,rfl⟩
theorem conS_nil (ao:Option Addr) (c:Nat) (v:Value) (w:World):Calls Tryz.prog 88 #[.slice ao 0 c,v] w fun e w'=>e = .returned (.bool false)/\w'=w:=by
 go_enter Tryz.func88,Tryz.ntmps88;go_wp2_with (go_at_call 136;refine (idxS_nil _ _ _ _).mono ?_;rintro e w' ⟨rfl,rfl⟩);go_ret;exact ⟨rfl,rfl⟩
def inSp (d:Rn) (c:Sn):Bool:=decide (c.rep=d.lo) && (decide (c.lo <= d.hi) && decide (d.hi <= c.hi))
theorem litS_any (p:Nat) (c:Sn) (d:Rn) (w:World) (hd:Box w p 43 d):Calls Tryz.prog 89 #[SV c,.pointer (some ⟨p,0,none⟩)] w fun e w'=>e = .returned (.bool (inSp d c))/\Below w.heap.size w w':=by
 have HB:=hide (below_new w (.cells (SC c) 122))
 obtain ⟨c0,c1,c2⟩:=(sbox_new w c).at
 have X1:=hd.below HB.out;have d0:=X1.at.c0;have d1:(w.alloc (.cells (SC c) 122)).cell? ⟨p,1,none⟩=some (.int .i64 d.hi):=X1.at.c1;clear X1 hd;obtain ⟨rp,lo,hi⟩:=c;obtain ⟨r,n⟩:=d;dsimp only at c0 c1 c2 d0 d1 ⊢;by_cases h1:rp=r
 ·by_cases h2:lo <= n
  ·have HF:Hid (inSp ⟨r,n⟩ ⟨rp,lo,hi⟩=decide (n <= hi)):=by show _=_;simp [inSp,h1,h2]
   have h1':(rp == r)=true:=by simp [h1]
   clear h1;go_enter Tryz.func89,Tryz.ntmps89;go_wp2_with fail;go_ret;exact ⟨ret_bool HF.out.symm,HB.out⟩
  ·have HF:Hid (inSp ⟨r,n⟩ ⟨rp,lo,hi⟩=false):=by show _=_;simp [inSp,h2]
   have h1':(rp == r)=true:=by simp [h1]
   clear h1;go_enter Tryz.func89,Tryz.ntmps89;go_wp2_with fail;go_ret;exact ⟨ret_bool HF.out.symm,HB.out⟩
 ·have HF:Hid (inSp ⟨r,n⟩ ⟨rp,lo,hi⟩=false):=by show _=_;simp [inSp,h1]
  have h1':(rp == r)=false:=by simp [h1]
  clear h1;go_enter Tryz.func89,Tryz.ntmps89;go_wp2_with fail;go_ret;exact ⟨ret_bool HF.out.symm,HB.out⟩
def encSn (s:Sn):List Value:=(SC s).toList
theorem conS_any (ao:Option Addr) (n cap:Nat) (L:List Sn) (p:Nat) (d:Rn) (w:World) (hS:SSrc w ao n cap L) (hd:Box w p 43 d) :
  Calls Tryz.prog 88 #[.slice ao n cap,.func (.func 89) #[] #[.pointer (some ⟨p,0,none⟩)]] w fun e w'=>e = .returned (.bool (L.any (inSp d)))/\Below w.heap.size w w':=by
 by_cases hn:n=0
 ·subst hn;have e:=List.eq_nil_of_length_eq_zero hS.len;subst e;refine (conS_nil ao cap _ w).mono ?_;rintro e w' ⟨rfl,rfl⟩;exact ⟨rfl,Below.refl _ _⟩
 ·obtain ⟨ad,rfl,A0⟩:=hS.at 0 (by omega);obtain ⟨b,o,rfl⟩:=hS.spot (by omega);have eg:∀ args w,(callFunc 89 args).run Tryz.prog w = .ok (.enter 89 args) w:=enters_of Tryz.func89 (by kernel_rfl) rfl;have h0:=World.block_lt_of_cell? _ _ A0.c0;rw [block_add] at h0;have hp:=hd.lt
  have h:=AnyQ.slices_ContainsFunc Tryz.conS 3 Tryz.isAgg122 Tryz.sizeOf122 encSn (fun _=>rfl) (inSp d) 89 #[.pointer (some ⟨p,0,none⟩)] eg b o n cap L w
   (fun W r hb=>(litS_any p r d W (hd.below hb)).mono fun e w' ⟨he,hb'⟩=>⟨he,hb.trans (hb'.mono hb.size)⟩)
   (by rw [hS.len];exact Nat.le_refl _) (by have:=hS.big;omega) h0
   (fun j hj i v hv=>by
    have A:=hS.cell _ rfl j (by rw [<- hS.len];exact hj)
    have e:L[j]! = L.getD j sn0:=by rw [getElem!_pos L j hj];simp [List.getD,hj]
    rw [e] at hv;have q0:=A.c0;have q1:=A.c1;have q2:=A.c2;rw [Addr.add_lit] at q0 q1 q2;rw [Addr.add_lit] at q1 q2
    match i,hv with
    | 0,hv=>rw [<- hv];exact q0
    | 1,hv=>rw [<- hv];exact q1
    | 2,hv=>rw [<- hv];exact q2
    | i+3,hv=>simp [encSn,SC] at hv)
  rw [List.take_of_length_le (by rw [hS.len];exact Nat.le_refl _)] at h;exact h
theorem hasD_vec (P:Pst) (r:Nat) (hr:r < 16) (n:Int) (h1:1 <= n) (h2:n <= 1000000000):V.hasD P.vec (r:Int) n=decide (n <= P.vec.getD r 0):=by
 unfold V.hasD V.atI;rw [if_pos (by simp [V.isR];omega),Int.toNat_natCast];unfold V.at' V.clamp;rw [if_pos hr];generalize P.vec.getD r 0=z;rw [decide_eq_true h1,Bool.true_and];apply Bool.eq_iff_iff.2;rw [decide_eq_true_iff,decide_eq_true_iff]
 split
 ·omega
 ·split <;> omega
theorem pastHas_any (p:Pv) (d:Rn) (w:World) (hS:PSrc w p):Calls Tryz.prog 42 #[PV p,RV d] w fun e w'=>GivB w w' e (dotIn p.P d):=by
 have b1:=below_new w (.cells (PC p) 26);have b2:=below_new (w.alloc (.cells (PC p) 26)) (.cells (RC d) 43);obtain ⟨n0,n1⟩:=((pbox_new w p).below b2).nums;have X1:=box_new (w.alloc (.cells (PC p) 26)) 43 d;rw [World.size_alloc] at X1;have HX:=hide X1;have HBK:=hide (b1.trans (b2.mono b1.size));have HSP:=hide (hS.below HBK.out)
 have l0:=run_ldD X1.at
 clear hS b1 b2 X1;obtain ⟨wk,hwk⟩:∃ wk,(w.alloc (.cells (PC p) 26)).alloc (.cells (RC d) 43)=wk:=⟨_,rfl⟩;rw [hwk] at n0 n1 HBK HSP HX l0;go_enter Tryz.func42,Tryz.ntmps42;go_wp2_with fail;clear hwk;refine (isDotP_any d _).mono ?_;rintro e w1 ⟨rfl,b3⟩;have HB1:=wTr HBK b3;have HX1:=hide (HX.out.below b3);have HSP1:=hide (HSP.out.below b3);have m0:=(b3.cell (World.block_lt_of_cell? _ _ n0)).trans n0;have m1:=(b3.cell (World.block_lt_of_cell? _ _ n1)).trans n1
 have l1:=run_ldD HX1.out.at
 clear n0 n1 l0 HX HSP HBK b3;by_cases hd:V.isR d.lo=true/\1 <= d.hi/\d.hi <= 1000000000
 ·rw [show (V.isR d.lo && (decide (1 <= d.hi) && decide (d.hi <= 1000000000)))=true by simp [hd]]
  have hr:0 <= d.lo/\d.lo < 16:=by have:=hd.1;simp [V.isR] at this;exact this
  obtain ⟨k,hk⟩:∃ k:Nat,d.lo=k:=⟨d.lo.toNat,by omega⟩
  have HVD:Hid (V.hasD p.P.vec d.lo d.hi=true↔d.hi <= p.P.vec.getD d.lo.toNat 0):=by
   show _↔_
   rw [hk,hasD_vec p.P k (by omega) _ hd.2.1 hd.2.2,Int.toNat_natCast];exact decide_eq_true_iff
  have HIF:=hide (dotIn_iff p.P d);have HD:=hide (And.intro hr hd);clear hk hd hr;go_wp2_with fail;refine (V.has_any _ _ _ p.P.vec d.lo d.hi _ HSP1.out.vec).mono ?_;rintro e w2 ⟨rfl,b4⟩;have HB2:=wTr HB1 b4;have HX2:=hide (HX1.out.below b4);have HSC2:=hide (HSP1.out.below b4).cloud;have m2:=(b4.cell (World.block_lt_of_cell? _ _ m1)).trans m1;clear m0 m1 l1 HX1 HSP1 b4;obtain ⟨x,Hx⟩:∃ x,Hid (V.hasD p.P.vec d.lo d.hi=x):=⟨_,rfl⟩;rw [Hx.out]
  cases x with
  | true =>
   have HY:Hid (dotIn p.P d):=HIF.out.2 ⟨HD.out.1.1,HD.out.1.2,HD.out.2.2.1,HD.out.2.2.2,Or.inl (HVD.out.1 Hx.out)⟩;go_wp2_with fail;go_ret;exact ⟨true,rfl,BIf.yes HY.out,HB2.out⟩
  | false =>
   go_wp2_with fail;refine (conS_any _ _ _ p.P.cloud _ d _ HSC2.out HX2.out).mono ?_;rintro e w3 ⟨rfl,b5⟩;have HB3:=wTr HB2 b5
   have HA:Hid (BIf (p.P.cloud.any (inSp d)) (dotIn p.P d)):=by
    show _↔_
    rw [HIF.out,List.any_eq_true];constructor
    ·rintro ⟨c,hc,e⟩;simp [inSp] at e;exact ⟨HD.out.1.1,HD.out.1.2,HD.out.2.2.1,HD.out.2.2.2,Or.inr ⟨c,hc,e⟩⟩
    ·rintro ⟨_,_,_,_,h | ⟨c,hc,e⟩⟩
     ·have:=HVD.out.2 h;rw [Hx.out] at this
      cases this
     ·exact ⟨c,hc,by simp [inSp,e]⟩
   generalize p.P.cloud.any (inSp d)=y at HA ⊢;clear b5 m2;go_wp2_with fail;go_ret;exact ⟨y,rfl,HA.out,HB3.out⟩
 ·rw [show (V.isR d.lo && (decide (1 <= d.hi) && decide (d.hi <= 1000000000)))=false by
   cases h:(V.isR d.lo && (decide (1 <= d.hi) && decide (d.hi <= 1000000000))) with
   | false=>rfl
   | true=>simp at h;exact absurd ⟨h.1,h.2.1,h.2.2⟩ hd]
  have HN:Hid (¬ dotIn p.P d):=fun h=>hd ⟨h.1,by have:=(dotIn_iff _ _).1 h;omega,by have:=(dotIn_iff _ _).1 h;omega⟩;clear hd;go_wp2_with fail;go_ret;exact ⟨false,rfl,BIf.no HN.out,HB1.out⟩
end Go.Proofs.YtaphmhbmhcahaaaGreat
namespace Go.Proofs.YtaphmhbmhcahaaaGreat.K
section
open Go.RowKit
attribute [local go_sem ↓] ld28_eq st28_eq
attribute [local go_sem] zero_EC cells_EV EC_size
attribute [local go_sem] fold_EC
end
section
open Go.RowKit

def eqS (a b:ByteArray):Bool:=a.toList == b.toList
def GivesEE (w w':World) (x:Ending) (L:List En) (er:Int):Prop:=∃ ao n c,x = .returned (.tuple #[.slice ao n c,.int .i64 er])/\ESrc w' ao n c L/\Below w.heap.size w w'/\∀ ad,ao=some ad -> w.heap.size <= ad.block
theorem chk_cases (L:List En):chk L=0∨chk L=1:=by unfold chk;split <;> simp
def ofE (L:List En) (s:ByteArray):Int:=if chk L=0 then (if good s.data.toList=true then 0 else 5) else 1
def ofV (L:List En) (s:ByteArray):List En:=if ofE L s=0 then L.filter (fun e=>eqS e.sku s) else []
def owE (L:List En) (r:Int) (s:ByteArray):Int:=if chk L=0 then (if isR r=true then (if good s.data.toList=true then 0 else 5) else 3) else 1
def owV (L:List En) (r:Int) (s:ByteArray):List En:=if owE L r s=0 then L.filter (fun e=>e.rep == r && eqS e.sku s) else []

end
end Go.Proofs.YtaphmhbmhcahaaaGreat.K
namespace Go.Proofs.YtaphmhbmhcahaaaGreat
open Go.RowKit
attribute [local go_sem ↓] ldP_eq stP_eq ldD_eq stD_eq
attribute [local go_sem] cells_PV PC_size
variable {w w' w2 W W' : World} {g : Nat}

def Ahd (x y:Sn):Prop:=x.rep < y.rep∨(x.rep=y.rep/\x.hi < y.lo)
theorem chain_pw (Z:List Int):∀ (L:List Sn) (a:Sn),chain Z a L -> (∀ y∈L,a.rep < y.rep∨(a.rep=y.rep/\a.hi < y.lo))/\L.Pairwise Ahd/\∀ y∈L,y.lo <= y.hi
 | [],_,_=>⟨fun y hy=>(by cases hy),List.Pairwise.nil,fun y hy=>by cases hy⟩
 | c :: t,a,h=>by
  have S:=h.1;obtain ⟨h1,h2,h3⟩:=chain_pw Z t c h.2
  have ha:a.rep < c.rep∨(a.rep=c.rep/\a.hi < c.lo):=by
   have h4:=S.rep;by_cases e:c.rep=a.rep
   ·have:=S.gap e;exact .inr ⟨e.symm,by omega⟩
   ·exact .inl (by omega)
  have ho:=S.ord;refine ⟨fun y hy=>?_,List.Pairwise.cons h1 h2,fun y hy=>?_⟩
  ·rcases List.mem_cons.1 hy with rfl | hy
   ·exact ha
   ·rcases h1 y hy with h5 | ⟨h5,h6⟩
    ·left;omega
    ·rcases ha with h7 | ⟨h7,h8⟩
     ·left;omega
     ·right;exact ⟨by omega,by omega⟩
  ·rcases List.mem_cons.1 hy with rfl | hy
   ·exact ho
   ·exact h3 y hy
theorem pw_at {L:List Sn} (h:L.Pairwise Ahd) {a b:Nat} (hab:a < b) (hb:b < L.length):Ahd (L.getD a sn0) (L.getD b sn0):=by
 have e1:L.getD a sn0=L[a]'(by omega):=by simp [List.getD,List.getElem?_eq_getElem (show a < L.length by omega)]
 have e2:L.getD b sn0=L[b]'(by omega):=by simp [List.getD,List.getElem?_eq_getElem (show b < L.length by omega)]
 rw [e1,e2];exact List.pairwise_iff_getElem.1 h a b (by omega) hb hab
theorem mem_at {L:List Sn} {a:Nat} (h:a < L.length):L.getD a sn0∈L:=by
 have e1:L.getD a sn0=L[a]'h:=by simp [List.getD,List.getElem?_eq_getElem h]
 rw [e1];exact List.getElem_mem h
theorem near_mono {P:Pst} (h:InForm P) (d:Rn):∀ a b,a <= b -> b < P.cloud.length -> nrC (P.cloud.getD b sn0) d < 0 -> nrC (P.cloud.getD a sn0) d < 0:=by
 intro a b hab hb hn;obtain ⟨-,hp,ho⟩:=chain_pw _ _ _ h.2;by_cases e:a=b
 ·rw [e];exact hn
 ·have h1:=pw_at hp (show a < b by omega) hb;have h2:=ho _ (mem_at hb);rw [nrC_neg] at hn ⊢;rcases h1 with h3 | ⟨h3,h4⟩
  ·rcases hn with h5 | ⟨h5,h6⟩
   ·left;omega
   ·left;omega
  ·rcases hn with h5 | ⟨h5,h6⟩
   ·left;omega
   ·right;exact ⟨by omega,by omega⟩
theorem near_in {P:Pst} (h:InForm P) {d:Rn} {i n:Nat} (hn:P.cloud.length=n) (hF:FirstAt P.cloud d n i):dotIn ⟨P.vec,(P.cloud.drop i).take 1⟩ d↔dotIn P d:=by
 subst hn;obtain ⟨-,hp,ho⟩:=chain_pw _ _ _ h.2;rw [dotIn_iff,dotIn_iff]
 have key:(∃ c,c∈(P.cloud.drop i).take 1/\c.rep=d.lo/\c.lo <= d.hi/\d.hi <= c.hi)↔(∃ c,c∈P.cloud/\c.rep=d.lo/\c.lo <= d.hi/\d.hi <= c.hi):=by
  constructor
  ·rintro ⟨c,hc,hr⟩;exact ⟨c,List.mem_of_mem_drop (List.mem_of_mem_take hc),hr⟩
  ·rintro ⟨c,hc,h1,h2,h3⟩;obtain ⟨j,hj,rfl⟩:=List.getElem_of_mem hc
   have e1:P.cloud.getD j sn0=P.cloud[j]:=by simp [List.getD,List.getElem?_eq_getElem hj]
   rw [<- e1] at h1 h2 h3;by_cases hji:j < i
   ·have:=(nrC_neg _ _).1 (hF.2.1 j hji);omega
   ·by_cases hij:j=i
    ·subst hij;refine ⟨_,?_,h1,h2,h3⟩;rw [e1,List.drop_eq_getElem_cons hj,List.take_succ_cons];exact List.mem_cons_self
    ·exfalso;have h4:=hF.2.2 (by omega);have h5:=pw_at hp (show i < j by omega) hj
     have h6:¬ nrC (P.cloud.getD i sn0) d < 0:=by omega
     rw [nrC_neg] at h6;rcases h5 with h7 | ⟨h7,h8⟩
     ·exact h6 (.inl (by omega))
     ·exact h6 (.inr ⟨by omega,by omega⟩)
 rw [key]
def inB (P:Pst) (e:K.En):Bool:=decide (0 <= e.rep) && (decide (e.rep < 16) && (decide (1 <= e.num) && (decide (e.num <= 1000000000) && (decide (e.num <= P.vec.getD e.rep.toNat 0) || P.cloud.any (fun c=>decide (c.rep=e.rep) && (decide (c.lo <= e.num) && decide (e.num <= c.hi)))))))
theorem inB_iff (P:Pst) (e:K.En):inB P e=true↔dotIn P ⟨e.rep,e.num⟩:=by
 rw [dotIn_iff];unfold inB;simp only [Bool.and_eq_true,Bool.or_eq_true,decide_eq_true_eq,List.any_eq_true]
def pkB (P:Pst) (ins:Bool) (e:K.En):Bool:=inB P e == ins
theorem enc_dot {e:K.En} {T:TypeId} (h:K.Box W g T e):RnAt W ⟨g,0,none⟩ ⟨e.rep,e.num⟩:=⟨h.at.c0,h.at.c1⟩
theorem parted1_any (p:Pv) (gp gi:Nat) (ins:Bool) (e:K.En) (w:World) (hI:InForm p.P) (hp:PBox w gp p) (hS:PSrc w p) (hi:w.heap[gi]? = some (.cells #[.bool ins] 4 (0,0))) :
  Calls Tryz.prog 138 #[K.EV e,.pointer (some ⟨gp,0,none⟩),.pointer (some ⟨gi,0,none⟩)] w fun x w'=>x = .returned (.bool (pkB p.P ins e))/\Below w.heap.size w w':=by
 have b1:=K.below_new w (.cells (K.EC e) 66);have x1:=K.box_new w 66 e;obtain ⟨w1,hw1⟩:∃ w1,w.alloc (.cells (K.EC e) 66)=w1:=⟨_,rfl⟩;obtain ⟨g1,hg1⟩:∃ g1,w.heap.size=g1:=⟨_,rfl⟩;rw [hw1] at b1 x1;rw [hg1] at x1;have hil:gi < w.heap.size:=(Array.getElem?_eq_some_iff.1 hi).1;have HX:Hid (PBox w1 gp p/\PSrc w1 p/\w1.heap[gi]? = some (.cells #[.bool ins] 4 (0,0))/\K.Box w1 g1 66 e/\gi < w1.heap.size):=⟨hp.below b1,hS.below b1,(b1.block gi hil).trans hi,x1,Nat.lt_of_lt_of_le hil b1.size⟩
 have HSt:Hid (∀ W,Below w1.heap.size w1 W -> (ldP (.pointer (some ⟨gp,0,none⟩))).run Tryz.prog W = .ok (PV p) W/\(ldD (.pointer (some ⟨g1,0,none⟩))).run Tryz.prog W = .ok (RV ⟨e.rep,e.num⟩) W/\W.cell? ⟨gi,0,none⟩=some (.bool ins)):=fun W hW=>by
  refine ⟨run_ldP (HX.out.1.below hW).at,run_ldD (enc_dot (HX.out.2.2.2.1.below hW)),?_⟩;have h:=(hW.block gi HX.out.2.2.2.2).trans HX.out.2.2.1;simp [World.cell?,h]
 have HB:=hide b1;have HI:=hide hI;clear b1 x1 hp hS hi hil hI;go_enter Tryz.func138,Tryz.ntmps138;go_wp2_with fail;clear hw1 hg1;refine wp_region_held_drew (S:=fun W=>(ldP (.pointer (some ⟨gp,0,none⟩))).run Tryz.prog W = .ok (PV p) W/\(ldD (.pointer (some ⟨g1,0,none⟩))).run Tryz.prog W = .ok (RV ⟨e.rep,e.num⟩) W/\W.cell? ⟨gi,0,none⟩=some (.bool ins)) (by kernel_rfl) (HSt.out _ (below_drew1 w1)) (fun hHeld=>?_);refine wU 0 ?_;refine wU 1 ?_;refine wU 2 ?_;refine wU 4 ?_;refine wU 5 ?_;refine wU 7 ?_;refine wpAnyH_ready (rs:=[3]) (by kernel_rfl) (by simp) (.cons rfl (fun K hK=>?_) .nil);go_simp;go_wp2_with fail;refine (near_any p ⟨e.rep,e.num⟩ _ (HX.out.2.1.below (below_drew1 w1)) (fun a b hab hb=>near_mono HI.out _ a b hab (by rw [HX.out.2.1.cloud.len];exact hb))).mono ?_;rintro x w3 ⟨q,i,rfl,hq,hF,hP,b3⟩;have hB3:Below w1.heap.size w1 w3:=(below_drew1 w1).trans b3
 have HB3:=hide hB3;have HQ:=hide hq
 have HN:Hid (dotIn q.P ⟨e.rep,e.num⟩↔dotIn p.P ⟨e.rep,e.num⟩):=by rw [hP];exact near_in HI.out HX.out.2.1.cloud.len hF
 refine hK.out _ _ (HSt.out _ hB3) (fun hHeld=>?_);clear hK K b3 hB3 hq hF hP;refine wpAnyH_ready (rs:=[6]) (by kernel_rfl) (by simp) (.cons rfl (fun K hK=>?_) .nil);go_simp;go_wp2_with fail;refine (pastHas_any q ⟨e.rep,e.num⟩ _ HQ.out).mono ?_;rintro x w4 ⟨b,rfl,hb,b4⟩;have hB4:Below w1.heap.size w1 w4:=HB3.out.trans (b4.mono HB3.out.size);have HB4:=wTr HB hB4
 have HR:Hid (pkB p.P ins e=(b == ins)):=by
  show _=_
  unfold pkB;congr 1;have h1:=inB_iff p.P e;have h2:=hb.out
  cases hx:inB p.P e <;> cases b
  ·rfl
  ·rw [hx] at h1;exact absurd (h1.2 (HN.out.1 (h2.1 rfl))) (by simp)
  ·rw [hx] at h1;have:=h2.2 (HN.out.2 (h1.1 rfl));cases this
  ·rfl
 refine hK.out _ _ (HSt.out _ hB4) (fun hHeld=>?_);clear hK K b4 hB4 hb HN;refine wU 8 ?_;refine wU 9 ?_;refine wpAnyH_done (by kernel_rfl) ?_ _;clear hHeld;go_wp2_with fail;go_ret;exact ⟨ret_bool HR.out.symm,HB4.out⟩
def PtA (w w':World) (x:Ending) (L:List K.En) (P:Pst) (ins:Bool):Prop:=(K.chk L=0/\InForm P/\K.GivesEE w w' x (L.filter (pkB P ins)) 0)∨(¬ (K.chk L=0/\InForm P)/\K.GivesEE w w' x [] 1)
theorem parted_any (ao:Option Addr) (n cap:Nat) (L:List K.En) (p:Pv) (ins:Bool) (w:World) (hS:K.ESrc w ao n cap L) (hP:PSrc w p) :
  Calls Tryz.prog 92 #[.slice ao n cap,PV p,.bool ins] w fun x w'=>PtA w w' x L p.P ins:=by
 have hmf:∀ (fn:Fn) (first cap:Array Value) (w:World),(Instr.makeFunc fn first cap).run Tryz.prog w = .ok (.func fn first cap) w:=fun _ _ _ _=>rfl;have b1:=below_new w (.cells (PC p) 26);have x1:=pbox_new w p;have s1:=World.size_alloc w (.cells (PC p) 26);obtain ⟨w1,hw1⟩:∃ w1,w.alloc (.cells (PC p) 26)=w1:=⟨_,rfl⟩;obtain ⟨g1,hg1⟩:∃ g1,w.heap.size=g1:=⟨_,rfl⟩;rw [hw1] at b1 x1 s1;rw [hg1] at x1 s1;have b2:=below_new w1 (.cells #[.bool ins] 4);have x2:=heap_alloc_new w1 (.cells #[.bool ins] 4);obtain ⟨w2,hw2⟩:∃ w2,w1.alloc (.cells #[.bool ins] 4)=w2:=⟨_,rfl⟩;rw [hw2] at b2 x2;rw [s1] at x2;have b12:=b1.trans (b2.mono b1.size);have HB:=hide b12;have HX:Hid (PBox w2 g1 p/\w2.heap[g1+1]? = some (.cells #[.bool ins] 4 (0,0))/\PSrc w2 p/\K.ESrc w2 ao n cap L):=⟨x1.below b2,x2,hP.below b12,hS.below b12⟩;clear b1 b2 b12 x1 x2 hS hP
 go_enter Tryz.func92,Tryz.ntmps92;go_wp2_with fail;clear hw1 hw2 s1 hg1;refine (K.lcheck_any ao n cap L _ HX.out.2.2.2).mono ?_;rintro x w3 ⟨rfl,b3⟩;have HB3:=wTr HB b3;have hl:g1+1 < w2.heap.size:=(Array.getElem?_eq_some_iff.1 HX.out.2.1).1;have HX3:Hid (PBox w3 g1 p/\w3.heap[g1+1]? = some (.cells #[.bool ins] 4 (0,0))/\PSrc w3 p/\K.ESrc w3 ao n cap L):=⟨HX.out.1.below b3,(b3.block _ hl).trans HX.out.2.1,HX.out.2.2.1.below b3,HX.out.2.2.2.below b3⟩;clear b3 hl HX HB;rcases K.chk_cases L with hc | hc;rotate_left
 ·have HE:Hid (PtA w w3 (.returned (.tuple #[.slice none 0 0,.int .i64 1])) L p.P ins):=.inr ⟨(fun h=>by rw [hc] at h;exact absurd h.1 (by decide)),_,_,_,rfl,K.ESrc.none _,HB3.out,fun ad h=>by cases h⟩;rw [hc];clear hc;go_wp2_with fail;go_ret2;exact HE.out
 ·rw [hc]
  have l3:=run_ldP HX3.out.1.at
  have HC:=hide hc;clear hc;go_wp2_with fail;refine (isNormP_any p _ HX3.out.2.2.1).mono ?_;rintro x w4 ⟨b,rfl,hb,b4⟩;have HB4:=wTr HB3 b4;have hl:g1+1 < w3.heap.size:=(Array.getElem?_eq_some_iff.1 HX3.out.2.1).1;have HX4:Hid (PBox w4 g1 p/\w4.heap[g1+1]? = some (.cells #[.bool ins] 4 (0,0))/\PSrc w4 p/\K.ESrc w4 ao n cap L):=⟨HX3.out.1.below b4,(b4.block _ hl).trans HX3.out.2.1,HX3.out.2.2.1.below b4,HX3.out.2.2.2.below b4⟩;have HI:Hid (BIf b (InForm p.P)):=hb;clear b4 hl HX3 HB3 l3 hb
  cases b with
  | false =>
   have HE:Hid (PtA w w4 (.returned (.tuple #[.slice none 0 0,.int .i64 1])) L p.P ins):=.inr ⟨(fun h=>by have:=HI.out.2 h.2;cases this),_,_,_,rfl,K.ESrc.none _,HB4.out,fun ad h=>by cases h⟩;go_wp2_with fail;go_ret2;exact HE.out
  | true =>
   have HIn:Hid (InForm p.P):=HI.out.1 rfl
   have HP:Hid (∀ W,Below w4.heap.size w4 W -> ∀ e,Calls Tryz.prog 138 #[K.EV e,.pointer (some ⟨g1,0,none⟩),.pointer (some ⟨g1+1,0,none⟩)] W fun x w'=>x = .returned (.bool (pkB p.P ins e))/\Below W.heap.size W w'):=fun W hW e =>
    parted1_any p g1 (g1+1) ins e W HIn.out (HX4.out.1.below hW) (HX4.out.2.2.1.below hW) ((hW.block _ (Array.getElem?_eq_some_iff.1 HX4.out.2.1).1).trans HX4.out.2.1)
   have HC5:=hide (K.pickPa_any ao n cap L g1 (g1+1) (pkB p.P ins) w4 HX4.out.2.2.2 HP.out);clear HI HP;go_wp2_with fail;refine HC5.out.mono ?_;rintro x w5 ⟨bo,m,c,rfl,S5,b5,F5⟩;have HE:Hid (PtA w w5 (.returned (.tuple #[.slice bo m c,.int .i64 0])) L p.P ins):=.inl ⟨HC.out,HIn.out,_,_,_,rfl,S5,HB4.out.trans (b5.mono HB4.out.size),fun ad h=>Nat.le_trans HB4.out.size (F5 ad h)⟩;clear S5 b5 F5 HC5;go_wp2_with fail;go_ret2;exact HE.out
theorem PtA.pre {L:List K.En} {P:Pst} {ins:Bool} {x:Ending} (b:Below w.heap.size w W) (h:PtA W W' x L P ins):PtA w W' x L P ins:=by
 rcases h with ⟨h1,h2,ao,n,c,h3,h4,h5,h6⟩ | ⟨h1,ao,n,c,h3,h4,h5,h6⟩
 ·exact .inl ⟨h1,h2,ao,n,c,h3,h4,b.trans (h5.mono b.size),fun ad e=>Nat.le_trans b.size (h6 ad e)⟩
 ·exact .inr ⟨h1,ao,n,c,h3,h4,b.trans (h5.mono b.size),fun ad e=>Nat.le_trans b.size (h6 ad e)⟩
theorem PtA.shape {L:List K.En} {P:Pst} {ins:Bool} {x:Ending} (h:PtA w W' x L P ins):∃ bo m c er,x = .returned (.tuple #[.slice bo m c,.int .i64 er])/\PtA w W' (.returned (.tuple #[.slice bo m c,.int .i64 er])) L P ins:=by
 have h':=h;rcases h with ⟨h1,h2,ao,n,c,rfl,h4⟩ | ⟨h1,ao,n,c,rfl,h4⟩
 ·exact ⟨ao,n,c,0,rfl,h'⟩
 ·exact ⟨ao,n,c,1,rfl,h'⟩
theorem outside_any (ao:Option Addr) (n cap:Nat) (L:List K.En) (p:Pv) (w:World) (hS:K.ESrc w ao n cap L) (hP:PSrc w p) :
  Calls Tryz.prog 44 #[.slice ao n cap,PV p] w fun x w'=>PtA w w' x L p.P false:=by
 have b1:=below_new w (.cells (PC p) 26);have x1:=pbox_new w p;obtain ⟨w1,hw1⟩:∃ w1,w.alloc (.cells (PC p) 26)=w1:=⟨_,rfl⟩;obtain ⟨g1,hg1⟩:∃ g1,w.heap.size=g1:=⟨_,rfl⟩;rw [hw1] at b1 x1;rw [hg1] at x1
 have l1:=run_ldP x1.at
 have HB:=hide b1;have HC:=hide (parted_any ao n cap L p false w1 (hS.below b1) (hP.below b1));clear b1 x1 hS hP;go_enter Tryz.func44,Tryz.ntmps44;go_wp2_with fail;clear hw1 hg1;refine HC.out.mono ?_;rintro x w2 hx;obtain ⟨bo,m,c,er,rfl,hE⟩:=(PtA.pre HB.out hx).shape;have HE:=hide hE;clear hx hE;go_wp2_with fail;go_ret2;exact HE.out
end Go.Proofs.YtaphmhbmhcahaaaGreat
