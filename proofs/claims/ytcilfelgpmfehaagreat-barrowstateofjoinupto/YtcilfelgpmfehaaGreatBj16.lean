/- OPk Shs PHa LPick LOf -/
import Derived.Test.YtcilfelgpmfehaaGreatBj15
import Derived.Shelf.SlicesQ.IndexFunc
set_option maxRecDepth 100000
set_option maxHeartbeats 1600000
namespace Go.Proofs.YtcilfelgpmfehaaGreat.K
open Go.RowKit
attribute [local go_sem ↓] zu zt
attribute [local go_sem] zC zs zB
attribute [local go_sem] xX
theorem zb4 (ao:Option Addr) (n cap:Nat) (L:List En) (b c2:Nat) (p:En -> Bool) (w:World) (hS:aF w ao n cap L)
  (hp:∀ W,Below w.heap.size w W -> ∀ e,Calls Tryz.prog 113 #[EV e,.pointer (some ⟨b,0,none⟩),.pointer (some ⟨c2,0,none⟩)] W fun x w'=>x = .returned (.bool (p e))/\Below W.heap.size W w') :
  Calls Tryz.prog 112 #[.slice ao n cap,.func (.func 113) #[] #[.pointer (some ⟨b,0,none⟩),.pointer (some ⟨c2,0,none⟩)]] w fun x w'=>pD w w' x (L.filter p):=by
 have HS:=hide hS;have hn:=hS.2.2.2.2;have HL:Hid (L.length=n):=hS.1;have HP:=hide hp;clear hS hp;go_enter Tryz.func112,Tryz.ntmps112;go_wp2_with fail;go_loopw [5,10] (fun v i wr=>∃ (k:Nat) (ap:Option Addr) (c:Nat),k <= n/\v = .slice ap ((L.take k).filter p).length c/\i = .int .i64 k/\Hid (cY w.heap.size w.heap.size w wr ap c ((L.take k).filter p))) (fun _ i _=>n - (intOf i).toNat)
 case atStart=>exact ⟨0,none,0,Nat.zero_le _,rfl,rfl,cY.nil (Below.refl _ _) (Nat.le_refl _) (Nat.le_refl _)⟩
 case round =>
  obtain ⟨k,ap,c,hk,rfl,rfl,HO⟩:=hrel;obtain ⟨acc,iG⟩:∃ acc,Hid ((L.take k).filter p=acc):=⟨_,rfl⟩
  have oG:acc.length <= k:=by
   rw [<- iG.out];have h1:=List.length_filter_le p (L.take k);have h2:=List.length_take_le k L;omega
  rw [iG.out] at HO ⊢;by_cases aq:k < n
  ·obtain ⟨ad,rfl,A0⟩:=(HS.out.below HO.out.below).at k aq;have dz:=zX A0;obtain ⟨e,He⟩:∃ e,Hid (L.getD k en0=e):=⟨_,rfl⟩;rw [He.out] at dz A0;have HT:=hide (xE L k (by rw [HL.out];exact aq));rw [He.out] at HT;obtain ⟨w1,cr,X1,B1,Z1⟩:=gE wr e wr.heap.size rfl;have HX:=hide X1;have O1:=hide (HO.out.later B1)
   have lx:=zX X1.at
   have HC:=hide (HP.out w1 O1.out.below e);clear X1 B1 A0;obtain ⟨q,Hq⟩:∃ q,Hid (p e=q):=⟨_,rfl⟩;rw [Hq.out] at HC
   cases q with
   | false =>
    have HN:Hid ((L.take (k+1)).filter p=acc):=by show _=_;rw [HT.out,List.filter_append,iG.out];simp [Hq.out]
    go_wp2_with fail;refine HC.out.mono ?_;rintro x w2 ⟨rfl,b2⟩;have O2:=hide (O1.out.later b2);clear b2;go_wp2_with fail;go_roundw
    case rel=>exact ⟨k+1,ap,c,by omega,by rw [HN.out],by go_num,by rw [HN.out];exact O2⟩
    case measure=>simp [intOf];omega
   | true =>
    have HN:Hid ((L.take (k+1)).filter p=acc++[e]):=by show _=_;rw [HT.out,List.filter_append,iG.out];simp [Hq.out]
    go_wp2_with fail;refine HC.out.mono ?_;rintro x w2 ⟨rfl,b2⟩;have O2:=O1.out.later b2
    have l2:=zX (HX.out.below b2).at
    clear b2 lx;go_wp2_with (at_builtin;refine O2.append e _ rfl (by omega) rfl (.tmp 17) (.tmp 19) rfl acc.length rfl rfl rfl ?_;intro g4 c4 w4 O4 hk4);go_roundw
    case rel=>exact ⟨k+1,some ⟨g4,0,none⟩,c4,by omega,by rw [HN.out];simp,by go_num,by rw [HN.out];exact O4⟩
    case measure=>simp [intOf];omega
  ·obtain rfl:k=n:=by omega
   have HF:Hid (L.filter p=acc):=by show _=_;rw [<- iG.out,List.take_of_length_le (by rw [HL.out];exact Nat.le_refl _)]
   have hs:∀ e∈acc,e.sku.size <= maxLen:=by
    intro e he;rw [<- HF.out] at he;exact HS.out.2.2.2.1 e ((List.mem_filter.1 he).1)
   obtain ⟨S1,F1⟩:=HO.out.src hs (by omega);have ei:=hide S1;have fu:=hide F1;clear S1 F1 hs;go_wp2_with fail;go_ret;exact ⟨_,_,_,rfl,by rw [HF.out];exact ei.out,HO.out.below,fu.out⟩
end Go.Proofs.YtcilfelgpmfehaaGreat.K
namespace Go.Proofs
open Go.Shelf
def Tryz.conS_ren:Go.Shelf.Ren:=⟨fun | 8=>96 | 6=>137 | n=>n,fun | 22=>24 | 23=>69 | 25=>148 | 4=>4 | 3=>3 | 0=>0 | n=>n,fun | n=>n⟩
theorem Tryz.conS:Go.Proofs.SlLaysH0.n8 Tryz.prog Tryz.conS_ren:={
 mixed:=by kernel_rfl
 f6:=⟨Tryz.f137.name,by decide,Tryz.func137.trans (congrArg some (by kernel_rfl))⟩
 f8:=⟨Tryz.f96.name,by decide,Tryz.func96.trans (congrArg some (by kernel_rfl))⟩
 t0:=Tryz.underlying0
 a0:=Tryz.isAgg0
 z0:=Tryz.sizeOf0
 v0:=Tryz.zeroValue0
 t3:=Tryz.underlying3
 a3:=Tryz.isAgg3
 z3:=Tryz.sizeOf3
 v3:=Tryz.zeroValue3
 t4:=Tryz.underlying4
 a4:=Tryz.isAgg4
 z4:=Tryz.sizeOf4
 v4:=Tryz.zeroValue4
 t22:=Tryz.underlying24
 a22:=Tryz.isAgg24
 z22:=Tryz.sizeOf24
 v22:=Tryz.zeroValue24
 t25:=Tryz.underlying148
 a25:=Tryz.isAgg148
 z25:=Tryz.sizeOf148
 v25:=Tryz.zeroValue148 }
end Go.Proofs
namespace Go.Proofs.YtcilfelgpmfehaaGreat
open Go.RowKit
attribute [local go_sem ↓] zl zk qg qf qX xu
attribute [local go_sem] zw zf zW zh zD zN qi qy
theorem yh (d:Rn) (w:World):Calls Tryz.prog 107 #[RV d] w fun e w'=>e = .returned (.bool (V.isR d.lo && (decide (1 <= d.hi) && decide (d.hi <= 1000000000))))/\Below w.heap.size w w':=by
 have HB:=hide (ze w (.cells (RC d) 64));have X1:=qx w 64 d;have c0:=X1.at.c0;have c1:(w.alloc (.cells (RC d) 64)).cell? ⟨w.heap.size,1,none⟩=some (.int .i64 d.hi):=X1.at.c1;clear X1;obtain ⟨r,n⟩:=d;dsimp only at c0 c1 ⊢;obtain ⟨x,Hx⟩:∃ x,Hid (V.isR r=x):=⟨_,rfl⟩;rw [Hx.out]
 cases x with
 | false =>
  have HF:Hid ((false && (decide (1 <= n) && decide (n <= 1000000000)))=false):=rfl;go_enter Tryz.func107,Tryz.ntmps107;go_wp2_with (go_at_call 91;refine (zE r _).mono ?_;rintro e w' ⟨rfl,rfl⟩;rw [Hx.out]);go_ret;exact ⟨zm HF.out.symm,HB.out⟩
 | true =>
  by_cases h1:1 <= n
  ·have HF:Hid ((true && (decide (1 <= n) && decide (n <= 1000000000)))=decide (n <= 1000000000)):=by show _=_;simp [h1]
   rw [HF.out];go_enter Tryz.func107,Tryz.ntmps107;go_wp2_with (go_at_call 91;refine (zE r _).mono ?_;rintro e w' ⟨rfl,rfl⟩;rw [Hx.out]);go_ret;exact ⟨rfl,HB.out⟩
  ·have HF:Hid ((true && (decide (1 <= n) && decide (n <= 1000000000)))=false):=by show _=_;simp [h1]
   rw [HF.out];go_enter Tryz.func107,Tryz.ntmps107;go_wp2_with (go_at_call 91;refine (zE r _).mono ?_;rintro e w' ⟨rfl,rfl⟩;rw [Hx.out]);go_ret;exact ⟨rfl,HB.out⟩
theorem zeA (ao:Option Addr) (c:Nat) (v:Value) (w:World):Calls Tryz.prog 137 #[.slice ao 0 c,v] w fun e w'=>e = .returned (.int .i64 (-1))/\w'=w:=by
 go_enter Tryz.func137,Tryz.ntmps137;go_wp2_with fail;go_loopw [5,8] (fun _ i wr=>i = .int .i64 0/\wr=w) (fun _ _ _=>0)
 case atStart=>exact ⟨rfl,rfl⟩
 case round =>
  obtain ⟨rfl,rfl⟩:=hrel;go_wp2_with fail;go_ret;exact ⟨rfl,rfl⟩
theorem zbF (ao:Option Addr) (c:Nat) (v:Value) (w:World):Calls Tryz.prog 96 #[.slice ao 0 c,v] w fun e w'=>e = .returned (.bool false)/\w'=w:=by
 go_enter Tryz.func96,Tryz.ntmps96;go_wp2_with (go_at_call 137;refine (zeA _ _ _ _).mono ?_;rintro e w' ⟨rfl,rfl⟩);go_ret;exact ⟨rfl,rfl⟩
def dT (d:Rn) (c:Sn):Bool:=decide (c.rep=d.lo) && (decide (c.lo <= d.hi) && decide (d.hi <= c.hi))
theorem zes (p:Nat) (c:Sn) (d:Rn) (w:World) (hd:Box w p 64 d):Calls Tryz.prog 146 #[SV c,.pointer (some ⟨p,0,none⟩)] w fun e w'=>e = .returned (.bool (dT d c))/\Below w.heap.size w w':=by
 have HB:=hide (ze w (.cells (SC c) 69))
 obtain ⟨c0,c1,c2⟩:=(qF w c).at
 have X1:=hd.below HB.out;have d0:=X1.at.c0;have d1:(w.alloc (.cells (SC c) 69)).cell? ⟨p,1,none⟩=some (.int .i64 d.hi):=X1.at.c1;clear X1 hd;obtain ⟨rp,lo,hi⟩:=c;obtain ⟨r,n⟩:=d;dsimp only at c0 c1 c2 d0 d1 ⊢;by_cases h1:rp=r
 ·by_cases h2:lo <= n
  ·have HF:Hid (dT ⟨r,n⟩ ⟨rp,lo,hi⟩=decide (n <= hi)):=by show _=_;simp [dT,h1,h2]
   have i6:(rp == r)=true:=by simp [h1]
   clear h1;go_enter Tryz.func146,Tryz.ntmps146;go_wp2_with fail;go_ret;exact ⟨zm HF.out.symm,HB.out⟩
  ·have HF:Hid (dT ⟨r,n⟩ ⟨rp,lo,hi⟩=false):=by show _=_;simp [dT,h2]
   have i6:(rp == r)=true:=by simp [h1]
   clear h1;go_enter Tryz.func146,Tryz.ntmps146;go_wp2_with fail;go_ret;exact ⟨zm HF.out.symm,HB.out⟩
 ·have HF:Hid (dT ⟨r,n⟩ ⟨rp,lo,hi⟩=false):=by show _=_;simp [dT,h1]
  have i6:(rp == r)=false:=by simp [h1]
  clear h1;go_enter Tryz.func146,Tryz.ntmps146;go_wp2_with fail;go_ret;exact ⟨zm HF.out.symm,HB.out⟩
def nq (s:Sn):List Value:=(SC s).toList
theorem zeQ (ao:Option Addr) (n cap:Nat) (L:List Sn) (p:Nat) (d:Rn) (w:World) (hS:cJ w ao n cap L) (hd:Box w p 64 d) :
  Calls Tryz.prog 96 #[.slice ao n cap,.func (.func 146) #[] #[.pointer (some ⟨p,0,none⟩)]] w fun e w'=>e = .returned (.bool (L.any (dT d)))/\Below w.heap.size w w':=by
 by_cases hn:n=0
 ·subst hn;have e:=List.eq_nil_of_length_eq_zero hS.len;subst e;refine (zbF ao cap _ w).mono ?_;rintro e w' ⟨rfl,rfl⟩;exact ⟨rfl,Below.refl _ _⟩
 ·obtain ⟨ad,rfl,A0⟩:=hS.at 0 (by omega);obtain ⟨b,o,rfl⟩:=hS.spot (by omega);have eg:∀ args w,(callFunc 146 args).run Tryz.prog w = .ok (.enter 146 args) w:=enters_of Tryz.func146 (by kernel_rfl) rfl;have h0:=World.block_lt_of_cell? _ _ A0.c0;rw [zp] at h0;have hp:=hd.lt
  have h:=AnyQ.slices_ContainsFunc Tryz.conS 3 Tryz.isAgg69 Tryz.sizeOf69 nq (fun _=>rfl) (dT d) 146 #[.pointer (some ⟨p,0,none⟩)] eg b o n cap L w
   (fun W r hb=>(zes p r d W (hd.below hb)).mono fun e w' ⟨he,hb'⟩=>⟨he,hb.trans (hb'.mono hb.size)⟩)
   (by rw [hS.len];exact Nat.le_refl _) (by have:=hS.big;omega) h0
   (fun j hj i v hv=>by
    have A:=hS.cell _ rfl j (by rw [<- hS.len];exact hj)
    have e:L[j]! = L.getD j sn0:=by rw [getElem!_pos L j hj];simp [List.getD,hj]
    rw [e] at hv;have q0:=A.c0;have q1:=A.c1;have q2:=A.c2;rw [Addr.add_lit] at q0 q1 q2;rw [Addr.add_lit] at q1 q2
    match i,hv with
    | 0,hv=>rw [<- hv];exact q0
    | 1,hv=>rw [<- hv];exact q1
    | 2,hv=>rw [<- hv];exact q2
    | i+3,hv=>simp [nq,SC] at hv)
  rw [List.take_of_length_le (by rw [hS.len];exact Nat.le_refl _)] at h;exact h
theorem zeD (P:Pst) (r:Nat) (hr:r < 16) (n:Int) (h1:1 <= n) (h2:n <= 1000000000):V.i9 P.vec (r:Int) n=decide (n <= P.vec.getD r 0):=by
 unfold V.i9 V.atI;rw [if_pos (by simp [V.isR];omega),Int.toNat_natCast];unfold V.at' V.dK;rw [if_pos hr];generalize P.vec.getD r 0=z;rw [decide_eq_true h1,Bool.true_and];apply Bool.eq_iff_iff.2;rw [decide_eq_true_iff,decide_eq_true_iff]
 split
 ·omega
 ·split <;> omega
theorem zaL (p:Pv) (d:Rn) (w:World) (hS:ak w p):Calls Tryz.prog 114 #[PV p,RV d] w fun e w'=>dr w w' e (cu p.P d):=by
 have b1:=ze w (.cells (PC p) 26);have b2:=ze (w.alloc (.cells (PC p) 26)) (.cells (RC d) 64);obtain ⟨n0,n1⟩:=((zq w p).below b2).nums;have X1:=qx (w.alloc (.cells (PC p) 26)) 64 d;rw [World.size_alloc] at X1;have HX:=hide X1;have az:=hide (b1.trans (b2.mono b1.size));have AD:=hide (hS.below az.out)
 have l0:=qw X1.at
 clear hS b1 b2 X1;obtain ⟨wk,cq⟩:∃ wk,(w.alloc (.cells (PC p) 26)).alloc (.cells (RC d) 64)=wk:=⟨_,rfl⟩;rw [cq] at n0 n1 az AD HX l0;go_enter Tryz.func114,Tryz.ntmps114;go_wp2_with fail;clear cq;refine (yh d _).mono ?_;rintro e w1 ⟨rfl,b3⟩;have aW:=wTr az b3;have gX:=hide (HX.out.below b3);have uP:=hide (AD.out.below b3);have m0:=(b3.cell (World.block_lt_of_cell? _ _ n0)).trans n0;have m1:=(b3.cell (World.block_lt_of_cell? _ _ n1)).trans n1
 have l1:=qw gX.out.at
 clear n0 n1 l0 HX AD az b3;by_cases hd:V.isR d.lo=true/\1 <= d.hi/\d.hi <= 1000000000
 ·rw [show (V.isR d.lo && (decide (1 <= d.hi) && decide (d.hi <= 1000000000)))=true by simp [hd]]
  have hr:0 <= d.lo/\d.lo < 16:=by have:=hd.1;simp [V.isR] at this;exact this
  obtain ⟨k,hk⟩:∃ k:Nat,d.lo=k:=⟨d.lo.toNat,by omega⟩
  have JO:Hid (V.i9 p.P.vec d.lo d.hi=true↔d.hi <= p.P.vec.getD d.lo.toNat 0):=by
   show _↔_
   rw [hk,zeD p.P k (by omega) _ hd.2.1 hd.2.2,Int.toNat_natCast];exact decide_eq_true_iff
  have IJ:=hide (qB p.P d);have HD:=hide (And.intro hr hd);clear hk hd hr;go_wp2_with fail;refine (V.zf2 _ _ _ p.P.vec d.lo d.hi _ uP.out.vec).mono ?_;rintro e w2 ⟨rfl,b4⟩;have cd:=wTr aW b4;have dN:=hide (gX.out.below b4);have Gz:=hide (uP.out.below b4).cloud;have m2:=(b4.cell (World.block_lt_of_cell? _ _ m1)).trans m1;clear m0 m1 l1 gX uP b4;obtain ⟨x,Hx⟩:∃ x,Hid (V.i9 p.P.vec d.lo d.hi=x):=⟨_,rfl⟩;rw [Hx.out]
  cases x with
  | true =>
   have HY:Hid (cu p.P d):=IJ.out.2 ⟨HD.out.1.1,HD.out.1.2,HD.out.2.2.1,HD.out.2.2.2,Or.inl (JO.out.1 Hx.out)⟩;go_wp2_with fail;go_ret;exact ⟨true,rfl,BIf.yes HY.out,cd.out⟩
  | false =>
   go_wp2_with fail;refine (zeQ _ _ _ p.P.cloud _ d _ Gz.out dN.out).mono ?_;rintro e w3 ⟨rfl,b5⟩;have aN:=wTr cd b5
   have HA:Hid (BIf (p.P.cloud.any (dT d)) (cu p.P d)):=by
    show _↔_
    rw [IJ.out,List.any_eq_true];constructor
    ·rintro ⟨c,hc,e⟩;simp [dT] at e;exact ⟨HD.out.1.1,HD.out.1.2,HD.out.2.2.1,HD.out.2.2.2,Or.inr ⟨c,hc,e⟩⟩
    ·rintro ⟨_,_,_,_,h | ⟨c,hc,e⟩⟩
     ·have:=JO.out.2 h;rw [Hx.out] at this
      cases this
     ·exact ⟨c,hc,by simp [dT,e]⟩
   generalize p.P.cloud.any (dT d)=y at HA ⊢;clear b5 m2;go_wp2_with fail;go_ret;exact ⟨y,rfl,HA.out,aN.out⟩
 ·rw [show (V.isR d.lo && (decide (1 <= d.hi) && decide (d.hi <= 1000000000)))=false by
   cases h:(V.isR d.lo && (decide (1 <= d.hi) && decide (d.hi <= 1000000000))) with
   | false=>rfl
   | true=>simp at h;exact absurd ⟨h.1,h.2.1,h.2.2⟩ hd]
  have HN:Hid (¬ cu p.P d):=fun h=>hd ⟨h.1,by have:=(qB _ _).1 h;omega,by have:=(qB _ _).1 h;omega⟩;clear hd;go_wp2_with fail;go_ret;exact ⟨false,rfl,BIf.no HN.out,aW.out⟩
end Go.Proofs.YtcilfelgpmfehaaGreat
namespace Go.Proofs.YtcilfelgpmfehaaGreat.K
section
open Go.RowKit
attribute [local go_sem ↓] zu zt
attribute [local go_sem] zC zs zB
attribute [local go_sem] xX
end
section
open Go.RowKit

def eqS (a b:ByteArray):Bool:=a.toList == b.toList
def cU (w w':World) (x:Ending) (L:List En) (er:Int):Prop:=∃ ao n c,x = .returned (.tuple #[.slice ao n c,.int .i64 er])/\aF w' ao n c L/\Below w.heap.size w w'/\∀ ad,ao=some ad -> w.heap.size <= ad.block
theorem wn (L:List En):chk L=0∨chk L=1:=by unfold chk;split <;> simp
def ofE (L:List En) (s:ByteArray):Int:=if chk L=0 then (if eS s.data.toList=true then 0 else 5) else 1
def ofV (L:List En) (s:ByteArray):List En:=if ofE L s=0 then L.filter (fun e=>eqS e.sku s) else []
def owE (L:List En) (r:Int) (s:ByteArray):Int:=if chk L=0 then (if isR r=true then (if eS s.data.toList=true then 0 else 5) else 3) else 1
def owV (L:List En) (r:Int) (s:ByteArray):List En:=if owE L r s=0 then L.filter (fun e=>e.rep == r && eqS e.sku s) else []

end
end Go.Proofs.YtcilfelgpmfehaaGreat.K
