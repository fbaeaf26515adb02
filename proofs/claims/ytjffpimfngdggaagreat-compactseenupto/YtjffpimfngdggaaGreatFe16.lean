/- OPk Shs PHa LPick LOf OPa -/
import Derived.Test.YtjffpimfngdggaaGreatTk
import Derived.Test.YtjffpimfngdggaaGreatFe15
import Derived.Shelf.SlicesQ.IndexFunc
import Derived.Test.YtjffpimfngdggaaGreatProg
import Derived.Test.YtjffpimfngdggaaGreatFe03
import Derived.Test.YtjffpimfngdggaaGreatFe13
import Derived.Test.YtjffpimfngdggaaGreatFe08
import Derived.Test.YtjffpimfngdggaaGreatFe14
import Derived.Test.YtjffpimfngdggaaGreatFe11
set_option maxRecDepth 100000
set_option maxHeartbeats 1600000
namespace Go.Proofs.YtjffpimfngdggaaGreat.K
open Go.RowKit
attribute [local go_sem ↓] zx zw
attribute [local go_sem] zI zt zF
attribute [local go_sem] xu
theorem zdq (ao:Option Addr) (n cap:Nat) (L:List En) (b c2:Nat) (p:En -> Bool) (w:World) (hS:aD w ao n cap L)
  (hp:∀ W,Below w.heap.size w W -> ∀ e,Calls Tryz.prog 145 #[EV e,.pointer (some ⟨b,0,none⟩),.pointer (some ⟨c2,0,none⟩)] W fun x w'=>x = .returned (.bool (p e))/\Below W.heap.size W w') :
  Calls Tryz.prog 87 #[.slice ao n cap,.func (.func 145) #[] #[.pointer (some ⟨b,0,none⟩),.pointer (some ⟨c2,0,none⟩)]] w fun x w'=>rB w w' x (L.filter p):=by
 have HS:=hide hS;have hn:=hS.2.2.2.2;have HL:Hid (L.length=n):=hS.1;have HP:=hide hp;clear hS hp;go_enter Tryz.func87,Tryz.ntmps87;go_wp2_with fail;go_loopw [5,10] (fun v i wr=>∃ (k:Nat) (ap:Option Addr) (c:Nat),k <= n/\v = .slice ap ((L.take k).filter p).length c/\i = .int .i64 k/\Hid (dU w.heap.size w.heap.size w wr ap c ((L.take k).filter p))) (fun _ i _=>n - (intOf i).toNat)
 case atStart=>exact ⟨0,none,0,Nat.zero_le _,rfl,rfl,dU.nil (Below.refl _ _) (Nat.le_refl _) (Nat.le_refl _)⟩
 case round =>
  obtain ⟨k,ap,c,hk,rfl,rfl,HO⟩:=hrel;obtain ⟨acc,fK⟩:∃ acc,Hid ((L.take k).filter p=acc):=⟨_,rfl⟩
  have nq:acc.length <= k:=by
   rw [<- fK.out];have h1:=List.length_filter_le p (L.take k);have h2:=List.length_take_le k L;omega
  rw [fK.out] at HO ⊢;by_cases ak:k < n
  ·obtain ⟨ad,rfl,A0⟩:=(HS.out.below HO.out.below).at k ak;have dK:=zO A0;obtain ⟨e,He⟩:∃ e,Hid (L.getD k en0=e):=⟨_,rfl⟩;rw [He.out] at dK A0;have HT:=hide (jm L k (by rw [HL.out];exact ak));rw [He.out] at HT;obtain ⟨w1,a8,X1,B1,Z1⟩:=made wr e wr.heap.size rfl;have HX:=hide X1;have O1:=hide (HO.out.later B1)
   have lx:=zO X1.at
   have HC:=hide (HP.out w1 O1.out.below e);clear X1 B1 A0;obtain ⟨q,Hq⟩:∃ q,Hid (p e=q):=⟨_,rfl⟩;rw [Hq.out] at HC
   cases q with
   | false =>
    have HN:Hid ((L.take (k+1)).filter p=acc):=by show _=_;rw [HT.out,List.filter_append,fK.out];simp [Hq.out]
    go_wp2_with fail;refine HC.out.mono ?_;rintro x w2 ⟨rfl,b2⟩;have O2:=hide (O1.out.later b2);clear b2;go_wp2_with fail;go_roundw
    case rel=>exact ⟨k+1,ap,c,by omega,by rw [HN.out],by go_num,by rw [HN.out];exact O2⟩
    case measure=>simp [intOf];omega
   | true =>
    have HN:Hid ((L.take (k+1)).filter p=acc++[e]):=by show _=_;rw [HT.out,List.filter_append,fK.out];simp [Hq.out]
    go_wp2_with fail;refine HC.out.mono ?_;rintro x w2 ⟨rfl,b2⟩;have O2:=O1.out.later b2
    have l2:=zO (HX.out.below b2).at
    clear b2 lx;go_wp2_with (at_builtin;refine O2.append e _ rfl (by omega) rfl (.tmp 17) (.tmp 19) rfl acc.length rfl rfl rfl ?_;intro g4 c4 w4 O4 hk4);go_roundw
    case rel=>exact ⟨k+1,some ⟨g4,0,none⟩,c4,by omega,by rw [HN.out];simp,by go_num,by rw [HN.out];exact O4⟩
    case measure=>simp [intOf];omega
  ·obtain rfl:k=n:=by omega
   have HF:Hid (L.filter p=acc):=by show _=_;rw [<- fK.out,List.take_of_length_le (by rw [HL.out];exact Nat.le_refl _)]
   have hs:∀ e∈acc,e.sku.size <= maxLen:=by
    intro e he;rw [<- HF.out] at he;exact HS.out.2.2.2.1 e ((List.mem_filter.1 he).1)
   obtain ⟨S1,F1⟩:=HO.out.src hs (by omega);have dm:=hide S1;have pC:=hide F1;clear S1 F1 hs;go_wp2_with fail;go_ret;exact ⟨_,_,_,rfl,by rw [HF.out];exact dm.out,HO.out.below,pC.out⟩
end Go.Proofs.YtjffpimfngdggaaGreat.K
namespace Go.Proofs
open Go.Shelf
def Tryz.conS_ren:Go.Shelf.Ren:=⟨fun | 8=>63 | 6=>110 | n=>n,fun | 22=>24 | 23=>104 | 25=>117 | 4=>4 | 3=>3 | 0=>0 | n=>n,fun | n=>n⟩
theorem Tryz.conS:Go.Proofs.SlLaysH0.n8 Tryz.prog Tryz.conS_ren:={
 mixed:=by kernel_rfl
 f6:=⟨Tryz.f110.name,by decide,Tryz.func110.trans (congrArg some (by kernel_rfl))⟩
 f8:=⟨Tryz.f63.name,by decide,Tryz.func63.trans (congrArg some (by kernel_rfl))⟩
 t0:=Tryz.underlying0
 a0:=Tryz.isAgg0
 z0:=Tryz.sizeOf0
 v0:=Tryz.zeroValue0
 t3:=Tryz.underlying3
 a3:=Tryz.isAgg3
 z3:=Tryz.sizeOf3
 v3:=Tryz.zeroValue3
 t4:=Tryz.underlying4
 a4:=Tryz.isAgg4
 z4:=Tryz.sizeOf4
 v4:=Tryz.zeroValue4
 t22:=Tryz.underlying24
 a22:=Tryz.isAgg24
 z22:=Tryz.sizeOf24
 v22:=Tryz.zeroValue24
 t25:=Tryz.underlying117
 a25:=Tryz.isAgg117
 z25:=Tryz.sizeOf117
 v25:=Tryz.zeroValue117 }
end Go.Proofs
namespace Go.Proofs.YtjffpimfngdggaaGreat
open Go.RowKit
attribute [local go_sem ↓] zq zp zV zU xT jn
attribute [local go_sem] zE zi qm zj zC zN qB qY
theorem yS (d:Rn) (w:World):Calls Tryz.prog 61 #[RV d] w fun e w'=>e = .returned (.bool (V.isR d.lo && (decide (1 <= d.hi) && decide (d.hi <= 1000000000))))/\Below w.heap.size w w':=by
 have HB:=hide (ze w (.cells (RC d) 48));have X1:=zT w 48 d;have c0:=X1.at.c0;have c1:(w.alloc (.cells (RC d) 48)).cell? ⟨w.heap.size,1,none⟩=some (.int .i64 d.hi):=X1.at.c1;clear X1;obtain ⟨r,n⟩:=d;dsimp only at c0 c1 ⊢;obtain ⟨x,Hx⟩:∃ x,Hid (V.isR r=x):=⟨_,rfl⟩;rw [Hx.out]
 cases x with
 | false =>
  have HF:Hid ((false && (decide (1 <= n) && decide (n <= 1000000000)))=false):=rfl;go_enter Tryz.func61,Tryz.ntmps61;go_wp2_with (go_at_call 108;refine (zP r _).mono ?_;rintro e w' ⟨rfl,rfl⟩;rw [Hx.out]);go_ret;exact ⟨zu HF.out.symm,HB.out⟩
 | true =>
  by_cases h1:1 <= n
  ·have HF:Hid ((true && (decide (1 <= n) && decide (n <= 1000000000)))=decide (n <= 1000000000)):=by show _=_;simp [h1]
   rw [HF.out];go_enter Tryz.func61,Tryz.ntmps61;go_wp2_with (go_at_call 108;refine (zP r _).mono ?_;rintro e w' ⟨rfl,rfl⟩;rw [Hx.out]);go_ret;exact ⟨rfl,HB.out⟩
  ·have HF:Hid ((true && (decide (1 <= n) && decide (n <= 1000000000)))=false):=by show _=_;simp [h1]
   rw [HF.out];go_enter Tryz.func61,Tryz.ntmps61;go_wp2_with (go_at_call 108;refine (zP r _).mono ?_;rintro e w' ⟨rfl,rfl⟩;rw [Hx.out]);go_ret;exact ⟨rfl,HB.out⟩
theorem zgs (ao:Option Addr) (c:Nat) (v:Value) (w:World):Calls Tryz.prog 110 #[.slice ao 0 c,v] w fun e w'=>e = .returned (.int .i64 (-1))/\w'=w:=by
 go_enter Tryz.func110,Tryz.ntmps110;go_wp2_with fail;go_loopw [5,8] (fun _ i wr=>i = .int .i64 0/\wr=w) (fun _ _ _=>0)
 case atStart=>exact ⟨rfl,rfl⟩
 case round =>
  obtain ⟨rfl,rfl⟩:=hrel;go_wp2_with fail;go_ret;exact ⟨rfl,rfl⟩
theorem zc2 (ao:Option Addr) (c:Nat) (v:Value) (w:World):Calls Tryz.prog 63 #[.slice ao 0 c,v] w fun e w'=>e = .returned (.bool false)/\w'=w:=by
 go_enter Tryz.func63,Tryz.ntmps63;go_wp2_with (go_at_call 110;refine (zgs _ _ _ _).mono ?_;rintro e w' ⟨rfl,rfl⟩);go_ret;exact ⟨rfl,rfl⟩
def im (d:Rn) (c:Sn):Bool:=decide (c.rep=d.lo) && (decide (c.lo <= d.hi) && decide (d.hi <= c.hi))
theorem zgl (p:Nat) (c:Sn) (d:Rn) (w:World) (hd:Box w p 48 d):Calls Tryz.prog 64 #[SV c,.pointer (some ⟨p,0,none⟩)] w fun e w'=>e = .returned (.bool (im d c))/\Below w.heap.size w w':=by
 have HB:=hide (ze w (.cells (SC c) 104))
 obtain ⟨c0,c1,c2⟩:=(qH w c).at
 have X1:=hd.below HB.out;have d0:=X1.at.c0;have d1:(w.alloc (.cells (SC c) 104)).cell? ⟨p,1,none⟩=some (.int .i64 d.hi):=X1.at.c1;clear X1 hd;obtain ⟨rp,lo,hi⟩:=c;obtain ⟨r,n⟩:=d;dsimp only at c0 c1 c2 d0 d1 ⊢;by_cases h1:rp=r
 ·by_cases h2:lo <= n
  ·have HF:Hid (im ⟨r,n⟩ ⟨rp,lo,hi⟩=decide (n <= hi)):=by show _=_;simp [im,h1,h2]
   have mX:(rp == r)=true:=by simp [h1]
   clear h1;go_enter Tryz.func64,Tryz.ntmps64;go_wp2_with fail;go_ret;exact ⟨zu HF.out.symm,HB.out⟩
  ·have HF:Hid (im ⟨r,n⟩ ⟨rp,lo,hi⟩=false):=by show _=_;simp [im,h2]
   have mX:(rp == r)=true:=by simp [h1]
   clear h1;go_enter Tryz.func64,Tryz.ntmps64;go_wp2_with fail;go_ret;exact ⟨zu HF.out.symm,HB.out⟩
 ·have HF:Hid (im ⟨r,n⟩ ⟨rp,lo,hi⟩=false):=by show _=_;simp [im,h1]
  have mX:(rp == r)=false:=by simp [h1]
  clear h1;go_enter Tryz.func64,Tryz.ntmps64;go_wp2_with fail;go_ret;exact ⟨zu HF.out.symm,HB.out⟩
def oC (s:Sn):List Value:=(SC s).toList
theorem zgL (ao:Option Addr) (n cap:Nat) (L:List Sn) (p:Nat) (d:Rn) (w:World) (hS:cN w ao n cap L) (hd:Box w p 48 d) :
  Calls Tryz.prog 63 #[.slice ao n cap,.func (.func 64) #[] #[.pointer (some ⟨p,0,none⟩)]] w fun e w'=>e = .returned (.bool (L.any (im d)))/\Below w.heap.size w w':=by
 by_cases hn:n=0
 ·subst hn;have e:=List.eq_nil_of_length_eq_zero hS.len;subst e;refine (zc2 ao cap _ w).mono ?_;rintro e w' ⟨rfl,rfl⟩;exact ⟨rfl,Below.refl _ _⟩
 ·obtain ⟨ad,rfl,A0⟩:=hS.at 0 (by omega);obtain ⟨b,o,rfl⟩:=hS.spot (by omega);have eg:∀ args w,(callFunc 64 args).run Tryz.prog w = .ok (.enter 64 args) w:=enters_of Tryz.func64 (by kernel_rfl) rfl;have h0:=World.block_lt_of_cell? _ _ A0.c0;rw [zs] at h0;have hp:=hd.lt
  have h:=AnyQ.slices_ContainsFunc Tryz.conS 3 Tryz.isAgg104 Tryz.sizeOf104 oC (fun _=>rfl) (im d) 64 #[.pointer (some ⟨p,0,none⟩)] eg b o n cap L w
   (fun W r hb=>(zgl p r d W (hd.below hb)).mono fun e w' ⟨he,hb'⟩=>⟨he,hb.trans (hb'.mono hb.size)⟩)
   (by rw [hS.len];exact Nat.le_refl _) (by have:=hS.big;omega) h0
   (fun j hj i v hv=>by
    have A:=hS.cell _ rfl j (by rw [<- hS.len];exact hj)
    have e:L[j]! = L.getD j sn0:=by rw [getElem!_pos L j hj];simp [List.getD,hj]
    rw [e] at hv;have q0:=A.c0;have q1:=A.c1;have q2:=A.c2;rw [Addr.add_lit] at q0 q1 q2;rw [Addr.add_lit] at q1 q2
    match i,hv with
    | 0,hv=>rw [<- hv];exact q0
    | 1,hv=>rw [<- hv];exact q1
    | 2,hv=>rw [<- hv];exact q2
    | i+3,hv=>simp [oC,SC] at hv)
  rw [List.take_of_length_le (by rw [hS.len];exact Nat.le_refl _)] at h;exact h
theorem zgv (P:Pst) (r:Nat) (hr:r < 16) (n:Int) (h1:1 <= n) (h2:n <= 1000000000):V.lY P.vec (r:Int) n=decide (n <= P.vec.getD r 0):=by
 unfold V.lY V.atI;rw [if_pos (by simp [V.isR];omega),Int.toNat_natCast];unfold V.at' V.eI;rw [if_pos hr];generalize P.vec.getD r 0=z;rw [decide_eq_true h1,Bool.true_and];apply Bool.eq_iff_iff.2;rw [decide_eq_true_iff,decide_eq_true_iff]
 split
 ·omega
 ·split <;> omega
theorem qK (p:Pv) (d:Rn) (w:World) (hS:am w p):Calls Tryz.prog 32 #[PV p,RV d] w fun e w'=>iB w w' e (cB p.P d):=by
 have b1:=ze w (.cells (PC p) 26);have b2:=ze (w.alloc (.cells (PC p) 26)) (.cells (RC d) 48);obtain ⟨n0,n1⟩:=((zr w p).below b2).nums;have X1:=zT (w.alloc (.cells (PC p) 26)) 48 d;rw [World.size_alloc] at X1;have HX:=hide X1;have aq:=hide (b1.trans (b2.mono b1.size));have oh:=hide (hS.below aq.out)
 have l0:=zG X1.at
 clear hS b1 b2 X1;obtain ⟨wk,aY⟩:∃ wk,(w.alloc (.cells (PC p) 26)).alloc (.cells (RC d) 48)=wk:=⟨_,rfl⟩;rw [aY] at n0 n1 aq oh HX l0;go_enter Tryz.func32,Tryz.ntmps32;go_wp2_with fail;clear aY;refine (yS d _).mono ?_;rintro e w1 ⟨rfl,b3⟩;have aN:=wTr aq b3;have lQ:=hide (HX.out.below b3);have u6:=hide (oh.out.below b3);have m0:=(b3.cell (World.block_lt_of_cell? _ _ n0)).trans n0;have m1:=(b3.cell (World.block_lt_of_cell? _ _ n1)).trans n1
 have l1:=zG lQ.out.at
 clear n0 n1 l0 HX oh aq b3;by_cases hd:V.isR d.lo=true/\1 <= d.hi/\d.hi <= 1000000000
 ·rw [show (V.isR d.lo && (decide (1 <= d.hi) && decide (d.hi <= 1000000000)))=true by simp [hd]]
  have hr:0 <= d.lo/\d.lo < 16:=by have:=hd.1;simp [V.isR] at this;exact this
  obtain ⟨k,hk⟩:∃ k:Nat,d.lo=k:=⟨d.lo.toNat,by omega⟩
  have KM:Hid (V.lY p.P.vec d.lo d.hi=true↔d.hi <= p.P.vec.getD d.lo.toNat 0):=by
   show _↔_
   rw [hk,zgv p.P k (by omega) _ hd.2.1 hd.2.2,Int.toNat_natCast];exact decide_eq_true_iff
  have JH:=hide (xB p.P d);have HD:=hide (And.intro hr hd);clear hk hd hr;go_wp2_with fail;refine (V.zh8 _ _ _ p.P.vec d.lo d.hi _ u6.out.vec).mono ?_;rintro e w2 ⟨rfl,b4⟩;have cg:=wTr aN b4;have fB:=hide (lQ.out.below b4);have H9:=hide (u6.out.below b4).cloud;have m2:=(b4.cell (World.block_lt_of_cell? _ _ m1)).trans m1;clear m0 m1 l1 lQ u6 b4;obtain ⟨x,Hx⟩:∃ x,Hid (V.lY p.P.vec d.lo d.hi=x):=⟨_,rfl⟩;rw [Hx.out]
  cases x with
  | true =>
   have HY:Hid (cB p.P d):=JH.out.2 ⟨HD.out.1.1,HD.out.1.2,HD.out.2.2.1,HD.out.2.2.2,Or.inl (KM.out.1 Hx.out)⟩;go_wp2_with fail;go_ret;exact ⟨true,rfl,BIf.yes HY.out,cg.out⟩
  | false =>
   go_wp2_with fail;refine (zgL _ _ _ p.P.cloud _ d _ H9.out fB.out).mono ?_;rintro e w3 ⟨rfl,b5⟩;have aB:=wTr cg b5
   have HA:Hid (BIf (p.P.cloud.any (im d)) (cB p.P d)):=by
    show _↔_
    rw [JH.out,List.any_eq_true];constructor
    ·rintro ⟨c,hc,e⟩;simp [im] at e;exact ⟨HD.out.1.1,HD.out.1.2,HD.out.2.2.1,HD.out.2.2.2,Or.inr ⟨c,hc,e⟩⟩
    ·rintro ⟨_,_,_,_,h | ⟨c,hc,e⟩⟩
     ·have:=KM.out.2 h;rw [Hx.out] at this
      cases this
     ·exact ⟨c,hc,by simp [im,e]⟩
   generalize p.P.cloud.any (im d)=y at HA ⊢;clear b5 m2;go_wp2_with fail;go_ret;exact ⟨y,rfl,HA.out,aB.out⟩
 ·rw [show (V.isR d.lo && (decide (1 <= d.hi) && decide (d.hi <= 1000000000)))=false by
   cases h:(V.isR d.lo && (decide (1 <= d.hi) && decide (d.hi <= 1000000000))) with
   | false=>rfl
   | true=>simp at h;exact absurd ⟨h.1,h.2.1,h.2.2⟩ hd]
  have HN:Hid (¬ cB p.P d):=fun h=>hd ⟨h.1,by have:=(xB _ _).1 h;omega,by have:=(xB _ _).1 h;omega⟩;clear hd;go_wp2_with fail;go_ret;exact ⟨false,rfl,BIf.no HN.out,aN.out⟩
end Go.Proofs.YtjffpimfngdggaaGreat
namespace Go.Proofs.YtjffpimfngdggaaGreat.K
section
open Go.RowKit
attribute [local go_sem ↓] zx zw
attribute [local go_sem] zI zt zF
attribute [local go_sem] xu
end
section
open Go.RowKit

def eqS (a b:ByteArray):Bool:=a.toList == b.toList
def dh (w w':World) (x:Ending) (L:List En) (er:Int):Prop:=∃ ao n c,x = .returned (.tuple #[.slice ao n c,.int .i64 er])/\aD w' ao n c L/\Below w.heap.size w w'/\∀ ad,ao=some ad -> w.heap.size <= ad.block
theorem yu (L:List En):chk L=0∨chk L=1:=by unfold chk;split <;> simp
def ofE (L:List En) (s:ByteArray):Int:=if chk L=0 then (if fG s.data.toList=true then 0 else 5) else 1
def ofV (L:List En) (s:ByteArray):List En:=if ofE L s=0 then L.filter (fun e=>eqS e.sku s) else []
def owE (L:List En) (r:Int) (s:ByteArray):Int:=if chk L=0 then (if isR r=true then (if fG s.data.toList=true then 0 else 5) else 3) else 1
def owV (L:List En) (r:Int) (s:ByteArray):List En:=if owE L r s=0 then L.filter (fun e=>e.rep == r && eqS e.sku s) else []

end
end Go.Proofs.YtjffpimfngdggaaGreat.K
namespace Go.Proofs.YtjffpimfngdggaaGreat
open Go.RowKit
attribute [local go_sem ↓] zq zp zV zU
attribute [local go_sem] zi zj
variable {w w' w2 W W' : World} {g : Nat}

def Ahd (x y:Sn):Prop:=x.rep < y.rep∨(x.rep=y.rep/\x.hi < y.lo)
theorem zaA (Z:List Int):∀ (L:List Sn) (a:Sn),chain Z a L -> (∀ y∈L,a.rep < y.rep∨(a.rep=y.rep/\a.hi < y.lo))/\L.Pairwise Ahd/\∀ y∈L,y.lo <= y.hi
 | [],_,_=>⟨fun y hy=>(by cases hy),List.Pairwise.nil,fun y hy=>by cases hy⟩
 | c :: t,a,h=>by
  have S:=h.1;obtain ⟨h1,h2,h3⟩:=zaA Z t c h.2
  have ha:a.rep < c.rep∨(a.rep=c.rep/\a.hi < c.lo):=by
   have h4:=S.rep;by_cases e:c.rep=a.rep
   ·have:=S.gap e;exact .inr ⟨e.symm,by omega⟩
   ·exact .inl (by omega)
  have ho:=S.ord;refine ⟨fun y hy=>?_,List.Pairwise.cons h1 h2,fun y hy=>?_⟩
  ·rcases List.mem_cons.1 hy with rfl | hy
   ·exact ha
   ·rcases h1 y hy with h5 | ⟨h5,h6⟩
    ·left;omega
    ·rcases ha with h7 | ⟨h7,h8⟩
     ·left;omega
     ·right;exact ⟨by omega,by omega⟩
  ·rcases List.mem_cons.1 hy with rfl | hy
   ·exact ho
   ·exact h3 y hy
theorem ziU {L:List Sn} (h:L.Pairwise Ahd) {a b:Nat} (dS:a < b) (hb:b < L.length):Ahd (L.getD a sn0) (L.getD b sn0):=by
 have e1:L.getD a sn0=L[a]'(by omega):=by simp [List.getD,List.getElem?_eq_getElem (show a < L.length by omega)]
 have e2:L.getD b sn0=L[b]'(by omega):=by simp [List.getD,List.getElem?_eq_getElem (show b < L.length by omega)]
 rw [e1,e2];exact List.pairwise_iff_getElem.1 h a b (by omega) hb dS
theorem zi3 {L:List Sn} {a:Nat} (h:a < L.length):L.getD a sn0∈L:=by
 have e1:L.getD a sn0=L[a]'h:=by simp [List.getD,List.getElem?_eq_getElem h]
 rw [e1];exact List.getElem_mem h
theorem kL {P:Pst} (h:aj P) (d:Rn):∀ a b,a <= b -> b < P.cloud.length -> nrC (P.cloud.getD b sn0) d < 0 -> nrC (P.cloud.getD a sn0) d < 0:=by
 intro a b dS hb hn;obtain ⟨-,hp,ho⟩:=zaA _ _ _ h.2;by_cases e:a=b
 ·rw [e];exact hn
 ·have h1:=ziU hp (show a < b by omega) hb;have h2:=ho _ (zi3 hb);rw [bY] at hn ⊢;rcases h1 with h3 | ⟨h3,h4⟩
  ·rcases hn with h5 | ⟨h5,h6⟩
   ·left;omega
   ·left;omega
  ·rcases hn with h5 | ⟨h5,h6⟩
   ·left;omega
   ·right;exact ⟨by omega,by omega⟩
theorem bZ {P:Pst} (h:aj P) {d:Rn} {i n:Nat} (hn:P.cloud.length=n) (hF:eT P.cloud d n i):cB ⟨P.vec,(P.cloud.drop i).take 1⟩ d↔cB P d:=by
 subst hn;obtain ⟨-,hp,ho⟩:=zaA _ _ _ h.2;rw [xB,xB]
 have key:(∃ c,c∈(P.cloud.drop i).take 1/\c.rep=d.lo/\c.lo <= d.hi/\d.hi <= c.hi)↔(∃ c,c∈P.cloud/\c.rep=d.lo/\c.lo <= d.hi/\d.hi <= c.hi):=by
  constructor
  ·rintro ⟨c,hc,hr⟩;exact ⟨c,List.mem_of_mem_drop (List.mem_of_mem_take hc),hr⟩
  ·rintro ⟨c,hc,h1,h2,h3⟩;obtain ⟨j,hj,rfl⟩:=List.getElem_of_mem hc
   have e1:P.cloud.getD j sn0=P.cloud[j]:=by simp [List.getD,List.getElem?_eq_getElem hj]
   rw [<- e1] at h1 h2 h3;by_cases GH:j < i
   ·have:=(bY _ _).1 (hF.2.1 j GH);omega
   ·by_cases pt:j=i
    ·subst pt;refine ⟨_,?_,h1,h2,h3⟩;rw [e1,List.drop_eq_getElem_cons hj,List.take_succ_cons];exact List.mem_cons_self
    ·exfalso;have h4:=hF.2.2 (by omega);have h5:=ziU hp (show i < j by omega) hj
     have h6:¬ nrC (P.cloud.getD i sn0) d < 0:=by omega
     rw [bY] at h6;rcases h5 with h7 | ⟨h7,h8⟩
     ·exact h6 (.inl (by omega))
     ·exact h6 (.inr ⟨by omega,by omega⟩)
 rw [key]
def inB (P:Pst) (e:K.En):Bool:=decide (0 <= e.rep) && (decide (e.rep < 16) && (decide (1 <= e.num) && (decide (e.num <= 1000000000) && (decide (e.num <= P.vec.getD e.rep.toNat 0) || P.cloud.any (fun c=>decide (c.rep=e.rep) && (decide (c.lo <= e.num) && decide (e.num <= c.hi)))))))
theorem qd (P:Pst) (e:K.En):inB P e=true↔cB P ⟨e.rep,e.num⟩:=by
 rw [xB];unfold inB;simp only [Bool.and_eq_true,Bool.or_eq_true,decide_eq_true_eq,List.any_eq_true]
def pkB (P:Pst) (ins:Bool) (e:K.En):Bool:=inB P e == ins
theorem zaq {e:K.En} {T:TypeId} (h:K.Box W g T e):gd W ⟨g,0,none⟩ ⟨e.rep,e.num⟩:=⟨h.at.c0,h.at.c1⟩
theorem zb0 (p:Pv) (gp gi:Nat) (ins:Bool) (e:K.En) (w:World) (hI:aj p.P) (hp:aA w gp p) (hS:am w p) (hi:w.heap[gi]? = some (.cells #[.bool ins] 4 (0,0))) :
  Calls Tryz.prog 145 #[K.EV e,.pointer (some ⟨gp,0,none⟩),.pointer (some ⟨gi,0,none⟩)] w fun x w'=>x = .returned (.bool (pkB p.P ins e))/\Below w.heap.size w w':=by
 have b1:=K.ze w (.cells (K.EC e) 50);have x1:=K.zT w 50 e;obtain ⟨w1,cR⟩:∃ w1,w.alloc (.cells (K.EC e) 50)=w1:=⟨_,rfl⟩;obtain ⟨g1,cT⟩:∃ g1,w.heap.size=g1:=⟨_,rfl⟩;rw [cR] at b1 x1;rw [cT] at x1;have ph:gi < w.heap.size:=(Array.getElem?_eq_some_iff.1 hi).1;have HX:Hid (aA w1 gp p/\am w1 p/\w1.heap[gi]? = some (.cells #[.bool ins] 4 (0,0))/\K.Box w1 g1 50 e/\gi < w1.heap.size):=⟨hp.below b1,hS.below b1,(b1.block gi ph).trans hi,x1,Nat.lt_of_lt_of_le ph b1.size⟩
 have aG:Hid (∀ W,Below w1.heap.size w1 W -> (ldP (.pointer (some ⟨gp,0,none⟩))).run Tryz.prog W = .ok (PV p) W/\(ldD (.pointer (some ⟨g1,0,none⟩))).run Tryz.prog W = .ok (RV ⟨e.rep,e.num⟩) W/\W.cell? ⟨gi,0,none⟩=some (.bool ins)):=fun W hW=>by
  refine ⟨zl (HX.out.1.below hW).at,zG (zaq (HX.out.2.2.2.1.below hW)),?_⟩;have h:=(hW.block gi HX.out.2.2.2.2).trans HX.out.2.2.1;simp [World.cell?,h]
 have HB:=hide b1;have HI:=hide hI;clear b1 x1 hp hS hi ph hI;go_enter Tryz.func145,Tryz.ntmps145;go_wp2_with fail;clear cR cT;refine wp_region_held_drew (S:=fun W=>(ldP (.pointer (some ⟨gp,0,none⟩))).run Tryz.prog W = .ok (PV p) W/\(ldD (.pointer (some ⟨g1,0,none⟩))).run Tryz.prog W = .ok (RV ⟨e.rep,e.num⟩) W/\W.cell? ⟨gi,0,none⟩=some (.bool ins)) (by kernel_rfl) (aG.out _ (zg w1)) (fun hHeld=>?_);refine wU 0 ?_;refine wU 1 ?_;refine wU 2 ?_;refine wU 4 ?_;refine wU 5 ?_;refine wU 7 ?_;refine wpAnyH_ready (rs:=[3]) (by kernel_rfl) (by simp) (.cons rfl (fun K hK=>?_) .nil);go_simp;go_wp2_with fail;refine (zgc p ⟨e.rep,e.num⟩ _ (HX.out.2.1.below (zg w1)) (fun a b dS hb=>kL HI.out _ a b dS (by rw [HX.out.2.1.cloud.len];exact hb))).mono ?_;rintro x w3 ⟨q,i,rfl,hq,hF,hP,b3⟩;have dZ:Below w1.heap.size w1 w3:=(zg w1).trans b3
 have aB:=hide dZ;have HQ:=hide hq
 have HN:Hid (cB q.P ⟨e.rep,e.num⟩↔cB p.P ⟨e.rep,e.num⟩):=by rw [hP];exact bZ HI.out HX.out.2.1.cloud.len hF
 refine hK.out _ _ (aG.out _ dZ) (fun hHeld=>?_);clear hK K b3 dZ hq hF hP;refine wpAnyH_ready (rs:=[6]) (by kernel_rfl) (by simp) (.cons rfl (fun K hK=>?_) .nil);go_simp;go_wp2_with fail;refine (qK q ⟨e.rep,e.num⟩ _ HQ.out).mono ?_;rintro x w4 ⟨b,rfl,hb,b4⟩;have uu:Below w1.heap.size w1 w4:=aB.out.trans (b4.mono aB.out.size);have aQ:=wTr HB uu
 have HR:Hid (pkB p.P ins e=(b == ins)):=by
  show _=_
  unfold pkB;congr 1;have h1:=qd p.P e;have h2:=hb.out
  cases hx:inB p.P e <;> cases b
  ·rfl
  ·rw [hx] at h1;exact absurd (h1.2 (HN.out.1 (h2.1 rfl))) (by simp)
  ·rw [hx] at h1;have:=h2.2 (HN.out.2 (h1.1 rfl));cases this
  ·rfl
 refine hK.out _ _ (aG.out _ uu) (fun hHeld=>?_);clear hK K b4 uu hb HN;refine wU 8 ?_;refine wU 9 ?_;refine wpAnyH_done (by kernel_rfl) ?_ _;clear hHeld;go_wp2_with fail;go_ret;exact ⟨zu HR.out.symm,aQ.out⟩
def PtA (w w':World) (x:Ending) (L:List K.En) (P:Pst) (ins:Bool):Prop:=(K.chk L=0/\aj P/\K.dh w w' x (L.filter (pkB P ins)) 0)∨(¬ (K.chk L=0/\aj P)/\K.dh w w' x [] 1)
theorem zdr (ao:Option Addr) (n cap:Nat) (L:List K.En) (p:Pv) (ins:Bool) (w:World) (hS:K.aD w ao n cap L) (hP:am w p) :
  Calls Tryz.prog 96 #[.slice ao n cap,PV p,.bool ins] w fun x w'=>PtA w w' x L p.P ins:=by
 have NW:∀ (fn:Fn) (first cap:Array Value) (w:World),(Instr.makeFunc fn first cap).run Tryz.prog w = .ok (.func fn first cap) w:=fun _ _ _ _=>rfl;have b1:=ze w (.cells (PC p) 26);have x1:=zr w p;have s1:=World.size_alloc w (.cells (PC p) 26);obtain ⟨w1,cR⟩:∃ w1,w.alloc (.cells (PC p) 26)=w1:=⟨_,rfl⟩;obtain ⟨g1,cT⟩:∃ g1,w.heap.size=g1:=⟨_,rfl⟩;rw [cR] at b1 x1 s1;rw [cT] at x1 s1;have b2:=ze w1 (.cells #[.bool ins] 4);have x2:=heap_alloc_new w1 (.cells #[.bool ins] 4);obtain ⟨w2,fi⟩:∃ w2,w1.alloc (.cells #[.bool ins] 4)=w2:=⟨_,rfl⟩;rw [fi] at b2 x2;rw [s1] at x2;have b12:=b1.trans (b2.mono b1.size);have HB:=hide b12;have HX:Hid (aA w2 g1 p/\w2.heap[g1+1]? = some (.cells #[.bool ins] 4 (0,0))/\am w2 p/\K.aD w2 ao n cap L):=⟨x1.below b2,x2,hP.below b12,hS.below b12⟩;clear b1 b2 b12 x1 x2 hS hP
 go_enter Tryz.func96,Tryz.ntmps96;go_wp2_with fail;clear cR fi s1 cT;refine (K.qv ao n cap L _ HX.out.2.2.2).mono ?_;rintro x w3 ⟨rfl,b3⟩;have aB:=wTr HB b3;have hl:g1+1 < w2.heap.size:=(Array.getElem?_eq_some_iff.1 HX.out.2.1).1;have fL:Hid (aA w3 g1 p/\w3.heap[g1+1]? = some (.cells #[.bool ins] 4 (0,0))/\am w3 p/\K.aD w3 ao n cap L):=⟨HX.out.1.below b3,(b3.block _ hl).trans HX.out.2.1,HX.out.2.2.1.below b3,HX.out.2.2.2.below b3⟩;clear b3 hl HX HB;rcases K.yu L with hc | hc;rotate_left
 ·have HE:Hid (PtA w w3 (.returned (.tuple #[.slice none 0 0,.int .i64 1])) L p.P ins):=.inr ⟨(fun h=>by rw [hc] at h;exact absurd h.1 (by decide)),_,_,_,rfl,K.aD.none _,aB.out,fun ad h=>by cases h⟩;rw [hc];clear hc;go_wp2_with fail;go_ret2;exact HE.out
 ·rw [hc]
  have l3:=zl fL.out.1.at
  have HC:=hide hc;clear hc;go_wp2_with fail;refine (qW p _ fL.out.2.2.1).mono ?_;rintro x w4 ⟨b,rfl,hb,b4⟩;have aQ:=wTr aB b4;have hl:g1+1 < w3.heap.size:=(Array.getElem?_eq_some_iff.1 fL.out.2.1).1;have iv:Hid (aA w4 g1 p/\w4.heap[g1+1]? = some (.cells #[.bool ins] 4 (0,0))/\am w4 p/\K.aD w4 ao n cap L):=⟨fL.out.1.below b4,(b4.block _ hl).trans fL.out.2.1,fL.out.2.2.1.below b4,fL.out.2.2.2.below b4⟩;have HI:Hid (BIf b (aj p.P)):=hb;clear b4 hl fL aB l3 hb
  cases b with
  | false =>
   have HE:Hid (PtA w w4 (.returned (.tuple #[.slice none 0 0,.int .i64 1])) L p.P ins):=.inr ⟨(fun h=>by have:=HI.out.2 h.2;cases this),_,_,_,rfl,K.aD.none _,aQ.out,fun ad h=>by cases h⟩;go_wp2_with fail;go_ret2;exact HE.out
  | true =>
   have uv:Hid (aj p.P):=HI.out.1 rfl
   have HP:Hid (∀ W,Below w4.heap.size w4 W -> ∀ e,Calls Tryz.prog 145 #[K.EV e,.pointer (some ⟨g1,0,none⟩),.pointer (some ⟨g1+1,0,none⟩)] W fun x w'=>x = .returned (.bool (pkB p.P ins e))/\Below W.heap.size W w'):=fun W hW e =>
    zb0 p g1 (g1+1) ins e W uv.out (iv.out.1.below hW) (iv.out.2.2.1.below hW) ((hW.block _ (Array.getElem?_eq_some_iff.1 iv.out.2.1).1).trans iv.out.2.1)
   have po:=hide (K.zdq ao n cap L g1 (g1+1) (pkB p.P ins) w4 iv.out.2.2.2 HP.out);clear HI HP;go_wp2_with fail;refine po.out.mono ?_;rintro x w5 ⟨bo,m,c,rfl,S5,b5,F5⟩;have HE:Hid (PtA w w5 (.returned (.tuple #[.slice bo m c,.int .i64 0])) L p.P ins):=.inl ⟨HC.out,uv.out,_,_,_,rfl,S5,aQ.out.trans (b5.mono aQ.out.size),fun ad h=>Nat.le_trans aQ.out.size (F5 ad h)⟩;clear S5 b5 F5 po;go_wp2_with fail;go_ret2;exact HE.out
theorem PtA.pre {L:List K.En} {P:Pst} {ins:Bool} {x:Ending} (b:Below w.heap.size w W) (h:PtA W W' x L P ins):PtA w W' x L P ins:=by
 rcases h with ⟨h1,h2,ao,n,c,h3,h4,h5,h6⟩ | ⟨h1,ao,n,c,h3,h4,h5,h6⟩
 ·exact .inl ⟨h1,h2,ao,n,c,h3,h4,b.trans (h5.mono b.size),fun ad e=>Nat.le_trans b.size (h6 ad e)⟩
 ·exact .inr ⟨h1,ao,n,c,h3,h4,b.trans (h5.mono b.size),fun ad e=>Nat.le_trans b.size (h6 ad e)⟩
theorem PtA.shape {L:List K.En} {P:Pst} {ins:Bool} {x:Ending} (h:PtA w W' x L P ins):∃ bo m c er,x = .returned (.tuple #[.slice bo m c,.int .i64 er])/\PtA w W' (.returned (.tuple #[.slice bo m c,.int .i64 er])) L P ins:=by
 have h':=h;rcases h with ⟨h1,h2,ao,n,c,rfl,h4⟩ | ⟨h1,ao,n,c,rfl,h4⟩
 ·exact ⟨ao,n,c,0,rfl,h'⟩
 ·exact ⟨ao,n,c,1,rfl,h'⟩
theorem jB (ao:Option Addr) (n cap:Nat) (L:List K.En) (p:Pv) (w:World) (hS:K.aD w ao n cap L) (hP:am w p) :
  Calls Tryz.prog 53 #[.slice ao n cap,PV p] w fun x w'=>PtA w w' x L p.P false:=by
 have b1:=ze w (.cells (PC p) 26);have x1:=zr w p;obtain ⟨w1,cR⟩:∃ w1,w.alloc (.cells (PC p) 26)=w1:=⟨_,rfl⟩;obtain ⟨g1,cT⟩:∃ g1,w.heap.size=g1:=⟨_,rfl⟩;rw [cR] at b1 x1;rw [cT] at x1
 have l1:=zl x1.at
 have HB:=hide b1;have HC:=hide (zdr ao n cap L p false w1 (hS.below b1) (hP.below b1));clear b1 x1 hS hP;go_enter Tryz.func53,Tryz.ntmps53;go_wp2_with fail;clear cR cT;refine HC.out.mono ?_;rintro x w2 hx;obtain ⟨bo,m,c,er,rfl,hE⟩:=(PtA.pre HB.out hx).shape;have HE:=hide hE;clear hx hE;go_wp2_with fail;go_ret2;exact HE.out
end Go.Proofs.YtjffpimfngdggaaGreat
