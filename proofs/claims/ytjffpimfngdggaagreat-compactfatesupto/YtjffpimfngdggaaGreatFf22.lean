/- LE CU HPn HHo HWi QCb -/
import Derived.Deep.CutRange
import Derived.Test.YtjffpimfngdggaaGreatFf17
set_option maxRecDepth 100000
set_option maxHeartbeats 3200000
namespace Go.Proofs.YtjffpimfngdggaaGreat
section
open Go.RowKit

theorem dC.sn {w:World} {g:Nat} {s:Sn} (h:dC w g s):lB w ⟨g,0,none⟩ s:=⟨h.at.1,by rw [Addr.add_lit];exact h.at.2.1,by rw [Addr.add_lit];exact h.at.2.2⟩
theorem ze4 (s t:Sn) (w:World):Calls Tryz.prog 166 #[SV s,SV t] w fun e w'=>e = .returned (.int .i64 (nrC s ⟨t.rep,t.hi⟩))/\Below w.heap.size w w':=by
 have b1:=ze w (.cells (SC s) 104);have x1:=qJ w s;have s1:=World.size_alloc w (.cells (SC s) 104);obtain ⟨w1,cF⟩:∃ w1,w.alloc (.cells (SC s) 104)=w1:=⟨_,rfl⟩;obtain ⟨g1,cP⟩:∃ g1,w.heap.size=g1:=⟨_,rfl⟩;rw [cF] at b1 x1 s1;rw [cP] at x1 s1;have b2:=ze w1 (.cells (SC t) 104);have x2:=qJ w1 t;obtain ⟨w2,eH⟩:∃ w2,w1.alloc (.cells (SC t) 104)=w2:=⟨_,rfl⟩;rw [eH] at b2 x2;rw [s1] at x2;have HB:=hide (b1.trans (b2.mono b1.size));have HX:Hid (dC w2 g1 s/\dC w2 (g1+1) t):=⟨x1.below b2,x2⟩
 have aB:Hid (∀ W,Below w2.heap.size w2 W -> W.cell? ⟨g1,0,none⟩=some (.int .i64 s.rep)/\W.cell? ⟨g1,2,none⟩=some (.int .i64 s.hi)/\W.cell? ⟨g1+1,0,none⟩=some (.int .i64 t.rep)/\W.cell? ⟨g1+1,2,none⟩=some (.int .i64 t.hi)):=fun W hW=>by
  obtain ⟨c0,-,c2⟩:=(HX.1.below hW).at
  have hd:=(HX.2.below hW).at
  exact ⟨c0,c2,hd.1,hd.2.2⟩
 obtain ⟨p,Hp⟩:∃ p,Hid (az s.rep t.rep=p):=⟨_,rfl⟩;obtain ⟨q,Hq⟩:∃ q,Hid (az s.hi t.hi=q):=⟨_,rfl⟩
 have HR:Hid (nrC s ⟨t.rep,t.hi⟩=or2 p q):=by show _=_;unfold nrC;rw [Hp.out,Hq.out]
 clear b1 b2 x1 x2;go_enter Tryz.func166,Tryz.ntmps166;go_wp2_with fail;clear cF eH s1 cP;refine wp_region_held_drew (S:=fun W=>W.cell? ⟨g1,0,none⟩=some (.int .i64 s.rep)/\W.cell? ⟨g1,2,none⟩=some (.int .i64 s.hi)/\W.cell? ⟨g1+1,0,none⟩=some (.int .i64 t.rep)/\W.cell? ⟨g1+1,2,none⟩=some (.int .i64 t.hi)) (by kernel_rfl) (aB.out _ (zf w2)) (fun hHeld=>?_);refine wU 0 ?_;refine wU 1 ?_;refine wU 2 ?_;refine wU 3 ?_;refine wU 5 ?_;refine wU 6 ?_;refine wU 7 ?_;refine wU 8 ?_;refine wR 4 fun K hK=>?_;go_simp;go_wp2_with fail;refine (qC s.rep t.rep _).mono ?_;rintro e w' ⟨rfl,rfl⟩;rw [Hp.out];refine hK.out _ _ (aB.out _ (zf w2)) (fun hHeld=>?_);clear hK K;refine wR 9 fun K hK=>?_;go_simp
 go_wp2_with fail;refine (qC s.hi t.hi _).mono ?_;rintro e w' ⟨rfl,rfl⟩;rw [Hq.out];refine hK.out _ _ (aB.out _ (zf w2)) (fun hHeld=>?_);clear hK K;have aw:=hide ((zf w2).trans (ze w2.drew (.cells #[.int .i64 p,.int .i64 q] 3)));have HO:=hide (yv p q w2.drew w2.heap.size rfl);refine wR 10 fun K hK=>?_;go_simp;refine hK.out _ _ (aB.out _ aw) (fun hHeld=>?_);clear hK K;refine wR 11 fun K hK=>?_;go_simp;go_wp2_with fail;refine HO.mono ?_;rintro e w' ⟨rfl,rfl⟩;refine hK.out _ _ (aB.out _ aw) (fun hHeld=>?_);clear hK K;refine wU 12 ?_;refine wD ?_ _;clear hHeld;go_wp2_with fail;go_ret;exact ⟨zK HR.symm,HB.trans (aw.mono HB.size)⟩
end
section
open Go.RowKit
attribute [local go_sem ↓] x9 jv zY zX
attribute [local go_sem] xV qD xf
variable {w w' w2 W W' : World} {g : Nat}

theorem ziV (ao:Option Addr) (n cap:Nat) (L:List Sn) (t:Sn) (w:World) (hS:cR w ao n cap L) (hm:∀ a b,a <= b -> b < n -> nrC (L.getD b sn0) ⟨t.rep,t.hi⟩ < 0 -> nrC (L.getD a sn0) ⟨t.rep,t.hi⟩ < 0) :
  Calls Tryz.prog 165 #[.slice ao n cap,SV t,.func (.func 166) #[] #[]] w fun e w'=>BsA w w' e L ⟨t.rep,t.hi⟩ n:=by
 have DL:∀ (args:Array Value) (w:World),(callFunc 166 args).run Tryz.prog w = .ok (.enter 166 args) w:=fun _ _=>rfl;have b1:=ze w (.cells (SC t) 104);have x1:=qJ w t;obtain ⟨w1,cF⟩:∃ w1,w.alloc (.cells (SC t) 104)=w1:=⟨_,rfl⟩;obtain ⟨g1,cP⟩:∃ g1,w.heap.size=g1:=⟨_,rfl⟩;rw [cF] at b1 x1;rw [cP] at x1;have aM:=hide b1;have HX:Hid (dC w1 g1 t/\cR w1 ao n cap L):=⟨x1,hS.below b1⟩;have lL:n <= 5864062014805:=hS.big;have HM:=hide hm;clear b1 x1 hS hm;go_enter Tryz.func165,Tryz.ntmps165;go_wp2_with fail;clear cF cP;go_loopw [9,10] (fun a b wr=>∃ (lo hi:Nat),a = .int .i64 (lo:Int)/\b = .int .i64 (hi:Int)/\lo <= hi/\hi <= n/\Hid (Below w1.heap.size w1 wr/\(∀ j,j < lo -> nrC (L.getD j sn0) ⟨t.rep,t.hi⟩ < 0)/\(hi < n -> 0 <= nrC (L.getD hi sn0) ⟨t.rep,t.hi⟩))) (fun a b _=>(intOf b).toNat - (intOf a).toNat)
 case atStart=>exact ⟨0,n,rfl,rfl,Nat.zero_le _,Nat.le_refl _,Below.refl _ _,(fun j hj=>by omega),fun h=>by omega⟩
 case round =>
  obtain ⟨lo,hi,rfl,rfl,FW,nq,HI⟩:=hrel
  rename World=>wr
  by_cases ak:lo < hi
  ·have aX:(lo:Int) < (hi:Int):=by omega
   obtain ⟨h,hh⟩:∃ h:Nat,(lo+hi) / 2=h:=⟨_,rfl⟩
   have p7:lo <= 5864062014805:=by omega
   have Fo:hi <= 5864062014805:=by omega
   obtain ⟨u,ht⟩:∃ u:Nat,lo+hi=u:=⟨_,rfl⟩
   have et:(lo:Int)+(hi:Int)=(u:Int):=by omega
   have e2:(u:Int) / 2=(h:Int):=by omega
   have e3:u / 2=h:=by omega
   have HH:Hid (lo <= h/\h < hi/\h < n):=⟨by omega,by omega,by omega⟩
   have E8:u <= 20000000000000:=by omega
   obtain ⟨ad,rfl,A0⟩:=(HX.2.below HI.1).at h HH.2.2;obtain ⟨s,Hs⟩:∃ s,Hid (L.getD h sn0=s):=⟨_,rfl⟩
   have aB:Hid (∀ W,Below wr.heap.size wr W -> (ldS (.pointer (some (ad.add (h * 3))))).run Tryz.prog W = .ok (SV s) W/\(ldS (.pointer (some ⟨g1,0,none⟩))).run Tryz.prog W = .ok (SV t) W):=fun W hW=>by
    obtain ⟨ad',e',A1⟩:=((HX.2.below HI.1).below hW).at h HH.2.2;obtain rfl:=Option.some.inj e';rw [Hs.out] at A1;exact ⟨qk A1,qk ((HX.1.below HI.1).below hW).sn⟩
   have As:(h:Int) < (n:Int):=by have:=HH.out;omega
   clear A0 hh ht;go_upto_region 5 with fail;clear et e2 e3;refine wp_region_held_drew (S:=fun W=>(ldS (.pointer (some (ad.add (h * 3))))).run Tryz.prog W = .ok (SV s) W/\(ldS (.pointer (some ⟨g1,0,none⟩))).run Tryz.prog W = .ok (SV t) W) (by kernel_rfl) (aB.out _ (zf wr)) (fun hHeld=>?_);refine wU 0 ?_;refine wU 1 ?_;refine wU 2 ?_;refine wU 3 ?_;refine wU 4 ?_;refine wU 5 ?_;refine wR 6 fun K hK=>?_;go_simp;go_wp2_with fail;refine (ze4 s t _).mono ?_;rintro e w3 ⟨rfl,b3⟩;have eo:Below wr.heap.size wr w3:=(zf wr).trans b3;have aw:=hide (HI.1.trans (eo.mono HI.1.size));refine hK.out _ _ (aB.out _ eo) (fun hHeld=>?_);clear hK K b3 eo;obtain ⟨z,hz⟩:∃ z,nrC s ⟨t.rep,t.hi⟩=z:=⟨_,rfl⟩;rw [hz];refine wU 7 ?_;refine wD ?_ _
   clear hHeld;by_cases cY:z < 0
   ·have HN:Hid (∀ j,j < h+1 -> nrC (L.getD j sn0) ⟨t.rep,t.hi⟩ < 0):=fun j hj=>HM.out j h (by omega) HH.2.2 (by rw [Hs.out,hz];exact cY);clear hz;go_wp2_with fail;go_roundw
    case rel=>exact ⟨h+1,hi,by simp,rfl,by have:=HH.out;omega,nq,aw.out,HN.out,HI.2.2⟩
    case measure=>simp [intOf];have:=HH.out;omega
   ·have HN:Hid (h < n -> 0 <= nrC (L.getD h sn0) ⟨t.rep,t.hi⟩):=fun _=>by rw [Hs.out,hz];omega
    clear hz;go_wp2_with fail;go_roundw
    case rel=>exact ⟨lo,h,rfl,rfl,HH.1,by have:=HH.out;omega,aw.out,HI.2.1,HN.out⟩
    case measure=>simp [intOf];have:=HH.out;omega
  ·have aX:¬ (lo:Int) < (hi:Int):=by omega
   obtain rfl:lo=hi:=by omega
   have HF:Hid (fK L ⟨t.rep,t.hi⟩ n lo):=⟨nq,HI.2.1,HI.2.2⟩;have fU:=wTr aM HI.1;by_cases iv:lo < n
   ·have mf:(lo:Int) < (n:Int):=by omega
    obtain ⟨ad,rfl,A0⟩:=(HX.2.below HI.1).at lo iv;obtain ⟨s,Hs⟩:∃ s,Hid (L.getD lo sn0=s):=⟨_,rfl⟩
    have aB:Hid (∀ W,Below wr.heap.size wr W -> (ldS (.pointer (some (ad.add (lo * 3))))).run Tryz.prog W = .ok (SV s) W/\(ldS (.pointer (some ⟨g1,0,none⟩))).run Tryz.prog W = .ok (SV t) W):=fun W hW=>by
     obtain ⟨ad',e',A1⟩:=((HX.2.below HI.1).below hW).at lo iv;obtain rfl:=Option.some.inj e';rw [Hs.out] at A1;exact ⟨qk A1,qk ((HX.1.below HI.1).below hW).sn⟩
    clear A0;go_upto_region 8 with fail;refine wp_region_held_drew (S:=fun W=>(ldS (.pointer (some (ad.add (lo * 3))))).run Tryz.prog W = .ok (SV s) W/\(ldS (.pointer (some ⟨g1,0,none⟩))).run Tryz.prog W = .ok (SV t) W) (by kernel_rfl) (aB.out _ (zf wr)) (fun hHeld=>?_);refine wU 0 ?_;refine wU 1 ?_;refine wU 2 ?_;refine wU 3 ?_;refine wU 4 ?_;refine wU 5 ?_;refine wU 6 ?_;refine wU 7 ?_;refine wU 8 ?_;refine wU 9 ?_;refine wU 10 ?_;refine wR 11 fun K hK=>?_;go_simp;go_wp2_with fail;refine (ze4 s t _).mono ?_;rintro e w3 ⟨rfl,b3⟩;have eo:Below wr.heap.size wr w3:=(zf wr).trans b3;have aw:=wTr fU eo;refine hK.out _ _ (aB.out _ eo) (fun hHeld=>?_);clear hK K b3 eo;obtain ⟨z,hz⟩:∃ z,nrC s ⟨t.rep,t.hi⟩=z:=⟨_,rfl⟩;rw [hz];clear hz;refine wU 14 ?_
    refine wU 12 ?_;refine wU 13 ?_;refine wU 15 ?_;refine wD ?_ _;clear hHeld;go_wp2_with fail;go_ret2;exact ⟨lo,_,rfl,HF.out,aw.out⟩
   ·have mf:¬ (lo:Int) < (n:Int):=by omega
    go_upto_region 8 with fail;refine wp_region_held_drew (S:=fun _=>True) (by kernel_rfl) (trivial) (fun hHeld=>?_);refine wU 0 ?_;refine wU 1 ?_;refine wU 2 ?_;refine wU 3 ?_;refine wU 4 ?_;refine wV 5 ?_;refine wV 6 ?_;refine wV 7 ?_;refine wV 8 ?_;refine wV 9 ?_;refine wV 10 ?_;refine wV 11 ?_;refine wV 12 ?_;refine wU 14 ?_;refine wU 13 ?_;refine wU 15 ?_;refine wD ?_ _;clear hHeld;go_wp2_with fail;go_ret2;exact ⟨lo,_,rfl,HF.out,fU.trans ((zf wr).mono fU.size)⟩
end
section
open Go.RowKit
theorem vu {Z:List Int}:∀ (L:List Sn) (a:Sn),chain Z a L -> ∀ c∈L,∃ b,gX Z b c
 | [],_,_,c,h=>by cases h
 | x :: t,a,h,c,hc=>by
  rcases List.mem_cons.1 hc with rfl | hc
  ·exact ⟨a,h.1⟩
  ·exact vu t x h.2 c hc
def Gp (x y:Sn):Prop:=x.rep < y.rep∨(x.rep=y.rep/\x.hi+2 <= y.lo)
theorem zdx {Z:List Int}:∀ (L:List Sn) (a:Sn),chain Z a L -> (∀ y∈L,Gp a y)/\L.Pairwise Gp
 | [],_,_=>⟨fun y h=>(by cases h),List.Pairwise.nil⟩
 | x :: t,a,h=>by
  obtain ⟨h1,h2⟩:=zdx t x h.2;have r:=h.1.rep;have o:=h.1.ord;have g:=h.1.gap
  have k:Gp a x:=by
   by_cases e:x.rep=a.rep
   ·exact .inr ⟨e.symm,g e⟩
   ·exact .inl (by omega)
  refine ⟨fun y hy=>?_,List.Pairwise.cons h1 h2⟩;rcases List.mem_cons.1 hy with rfl | hy
  ·exact k
  ·have q:=h1 y hy;unfold Gp at k q ⊢;omega
theorem zhW {P:Pst} (h:ag P) (r:Nat) (hr:r < 16):P.vec.getD r 0=V.at' P.vec r:=by
 have:=V.kf (V.at' P.vec) r hr;rw [<- h.1] at this;exact this
def gM (P:Pst) (t:Sn):Prop:=∀ m,t.lo <= m -> m <= t.hi -> mem (aa P t.rep.toNat) m
theorem zg2 {P:Pst} {y:Nat} {lo hi:Int} (hy:y < 16) (h1:1 <= lo) (h3:hi <= 1000000000) (h:hi <= P.vec.getD y 0):gM P ⟨(y:Int),lo,hi⟩:=fun m h4 h5=>by
 have h4:lo <= m:=h4;have h5:m <= hi:=h5
 show mem (aa P (y:Int).toNat) m
 rw [Int.toNat_natCast,xN P y hy];exact ⟨by omega,by omega,.inl (by omega)⟩
theorem zg3 {P:Pst} (h:ag P) {n i y:Nat} {lo hi:Int} (hl:P.cloud.length=n) (hy:y < 16) (h1:1 <= lo) (h2:lo <= hi) (h3:hi <= 1000000000) (hF:fK P.cloud ⟨(y:Int),hi⟩ n i) (hv:P.vec.getD y 0 < hi) :
  (i < n/\(P.cloud.getD i sn0).rep=(y:Int)/\(P.cloud.getD i sn0).lo <= lo)↔gM P ⟨(y:Int),lo,hi⟩:=by
 have key:∀ m,mem (aa P y) m↔1 <= m/\m <= 1000000000/\(m <= P.vec.getD y 0∨∃ c,c∈P.cloud/\c.rep=(y:Int)/\c.lo <= m/\m <= c.hi):=fun m=>xN P y hy m;constructor
 ·rintro ⟨k1,k2,k3⟩ m h4 h5;have h4:lo <= m:=h4;have h5:m <= hi:=h5
  show mem (aa P (y:Int).toNat) m
  have hn:=hF.2.2 k1;have IL:=zay (P.cloud.getD i sn0) ⟨(y:Int),hi⟩
  have CY:¬ ((P.cloud.getD i sn0).rep < (y:Int)∨((P.cloud.getD i sn0).rep=(y:Int)/\(P.cloud.getD i sn0).hi < hi)):=fun q=>by have:=IL.2 q;omega
  rw [Int.toNat_natCast,key m];refine ⟨by omega,by omega,.inr ⟨P.cloud.getD i sn0,?_,k2,by omega,by omega⟩⟩;rw [List.getD_eq_getElem?_getD,List.getElem?_eq_getElem (by omega)];exact List.getElem_mem _
 ·intro q
  have q:∀ m,lo <= m -> m <= hi -> mem (aa P y) m:=fun m a b=>by have:=q m a b;rwa [show (⟨(y:Int),lo,hi⟩:Sn).rep.toNat=y from Int.toNat_natCast y] at this
  have hd:cj P ⟨(y:Int),hi⟩:=by
   rw [qX];have:=(key hi).1 (q hi h2 (Int.le_refl _));exact ⟨by show (0:Int) <= (y:Int);omega,by show (y:Int) < 16;omega,this.1,this.2.1,by show hi <= P.vec.getD (y:Int).toNat 0∨_;rw [Int.toNat_natCast];exact this.2.2⟩
  have u1:=(zaz h hl hF).2 hd;rw [qX] at u1;obtain ⟨-,-,-,-,GP | ⟨c,hc,e1,e2,e3⟩⟩:=u1
  ·have GP:hi <= P.vec.getD (y:Int).toNat 0:=GP;rw [Int.toNat_natCast] at GP;omega
  ·have e1:c.rep=(y:Int):=e1;have e2:c.lo <= hi:=e2;have e3:hi <= c.hi:=e3
   have ii:i < n:=by
    rcases Nat.lt_or_ge i n with q | q
    ·exact q
    ·rw [List.drop_eq_nil_of_le (by omega)] at hc;cases hc
   have Dq:c=P.cloud.getD i sn0:=by
    rw [List.drop_eq_getElem_cons (by omega),List.take_succ_cons,List.take_zero] at hc;rw [List.mem_singleton.1 hc,List.getD_eq_getElem?_getD,List.getElem?_eq_getElem (by omega)];rfl
   refine ⟨ii,by rw [<- Dq];exact e1,?_⟩;rw [<- Dq];rcases Int.lt_or_le lo c.lo with k | k
   ·exfalso;have hm:=(key (c.lo - 1)).1 (q (c.lo - 1) (by omega) (by omega))
    have fS:c∈P.cloud:=by
     rw [Dq,List.getD_eq_getElem?_getD,List.getElem?_eq_getElem (by omega)];exact List.getElem_mem _
    obtain ⟨b,sb⟩:=vu _ _ h.2 c fS;have Dt:=sb.lead
    have tu:V.atI P.vec c.rep=P.vec.getD y 0:=by
     rw [e1,zhW h y hy];unfold V.atI;simp [V.isR];omega
    rw [tu] at Dt;rcases hm.2.2 with hm3 | ⟨c2,rQ,r1,r2,r3⟩
    ·omega
    ·obtain ⟨-,gp⟩:=zdx _ _ h.2;obtain ⟨u,hu,rfl⟩:=List.getElem_of_mem fS;obtain ⟨v,Ly,rfl⟩:=List.getElem_of_mem rQ;rcases Nat.lt_trichotomy u v with q | q | q
     ·have:=List.pairwise_iff_getElem.1 gp u v hu Ly q;have o:=(vu _ _ h.2 _ (List.getElem_mem hu)).choose_spec.ord;unfold Gp at this;omega
     ·subst q;omega
     ·have:=List.pairwise_iff_getElem.1 gp v u Ly hu q;unfold Gp at this;omega
   ·exact k
end
section
open Go.RowKit
attribute [local go_sem ↓] zq zp x9 jv
attribute [local go_sem] zi zk qD xf
def HoB (P:Pst) (y:Nat) (hi:Int) (b:Bool):Prop:=b=true↔hi <= P.vec.getD y 0
theorem zbD (p:Pv) (y:Nat) (lo hi:Int) (w:World) (hS:am w p) (hf:ag p.P) (hy:y < 16) (h1:1 <= lo) (h2:lo <= hi) (h3:hi <= 1000000000) :
  Calls Tryz.prog 114 #[PV p,SV ⟨(y:Int),lo,hi⟩] w fun e w'=>dl w w' e (gM p.P ⟨(y:Int),lo,hi⟩):=by
 obtain ⟨t,Ht⟩:∃ t:Sn,Hid (t=⟨(y:Int),lo,hi⟩):=⟨_,rfl⟩;have b1:=ze w (.cells (PC p) 26);have x1:=zm w p;have s1:=World.size_alloc w (.cells (PC p) 26);obtain ⟨w1,cF⟩:∃ w1,w.alloc (.cells (PC p) 26)=w1:=⟨_,rfl⟩;obtain ⟨g1,cP⟩:∃ g1,w.heap.size=g1:=⟨_,rfl⟩;rw [cF] at b1 x1 s1;rw [cP] at x1 s1;have b2:=ze w1 (.cells (SC ⟨(y:Int),lo,hi⟩) 104);have x2:=qJ w1 ⟨(y:Int),lo,hi⟩;obtain ⟨w2,eH⟩:∃ w2,w1.alloc (.cells (SC ⟨(y:Int),lo,hi⟩) 104)=w2:=⟨_,rfl⟩;rw [eH] at b2 x2;rw [s1] at x2;have HB:=hide (b1.trans (b2.mono b1.size));have HX:Hid (av w2 g1 p/\dC w2 (g1+1) ⟨(y:Int),lo,hi⟩):=⟨x1.below b2,x2⟩;have HS:=hide (hS.below HB);have HF:=hide hf;have gZ:Hid (y < 16/\1 <= lo/\lo <= hi/\hi <= 1000000000):=⟨hy,h1,h2,h3⟩;have nW:Hid (p.P.vec.length=p.vn):=hS.vec.1
 have Bk:Hid (p.P.cloud.length=p.cn):=hS.cloud.len;clear b1 b2 x1 x2 hS hf h1 h2 h3
 have aB:Hid (∀ W,Below w2.heap.size w2 W -> W.cell? ⟨g1,0,none⟩=some (.slice p.vo p.vn p.vc)/\W.cell? ⟨g1+1,0,none⟩=some (.int .i64 (y:Int))/\W.cell? ⟨g1+1,2,none⟩=some (.int .i64 hi)):=fun W hW=>by
  obtain ⟨c0,-,c2⟩:=(HX.2.below hW).at
  exact ⟨(HX.1.below hW).nums.1,c0,c2⟩
 go_enter Tryz.func114,Tryz.ntmps114;go_upto_region 1 with fail;clear cF eH s1 cP
 go_cut [23] from 7 to 22 (fun v W=>∃ b:Bool,v = .bool b/\Hid (HoB p.P y hi b/\Below w2.heap.size w2 W))
 case first =>
  by_cases hv:y < p.vn
  ·have L6:(y:Int) < (p.vn:Int):=by omega
   obtain ⟨ad,cU,cz⟩:=qy HS.vec y hv;obtain ⟨z,Hz⟩:∃ z,Hid (p.P.vec.getD y 0=z):=⟨_,rfl⟩;rw [Hz.out] at cz;have DH:=hide cU;have KS:=hide cz
   have E9:Hid (∀ W,Below w2.heap.size w2 W -> W.cell? ⟨g1,0,none⟩=some (.slice (some ad) p.vn p.vc)/\W.cell? ⟨g1+1,0,none⟩=some (.int .i64 (y:Int))/\W.cell? ⟨g1+1,2,none⟩=some (.int .i64 hi)/\W.cell? (ad.add y)=some (.int .i64 z)):=fun W hW=>by
    obtain ⟨c0,c1,c2⟩:=aB.out W hW;rw [DH.out] at c0;exact ⟨c0,c1,c2,(hW.cell (World.block_lt_of_cell? _ _ KS)).trans KS⟩
   clear cz cU;refine wp_region_held_drew (S:=fun W=>W.cell? ⟨g1,0,none⟩=some (.slice (some ad) p.vn p.vc)/\W.cell? ⟨g1+1,0,none⟩=some (.int .i64 (y:Int))/\W.cell? ⟨g1+1,2,none⟩=some (.int .i64 hi)/\W.cell? (ad.add y)=some (.int .i64 z)) (by kernel_rfl) (E9.out _ (zf w2)) (fun hHeld=>?_);refine wU 0 ?_;refine wU 1 ?_;refine wU 2 ?_;refine wU 3 ?_;refine wU 4 ?_;refine wU 5 ?_;refine wU 6 ?_;refine wU 7 ?_;refine wU 8 ?_;refine wU 9 ?_;refine wU 10 ?_;refine wU 11 ?_;refine wU 12 ?_;refine wU 13 ?_;refine wU 14 ?_;refine wU 15 ?_;refine wU 16 ?_;refine wD ?_ _;clear hHeld;by_cases hc:hi <= z
   ·have HE:Hid (HoB p.P y hi true/\Below w2.heap.size w2 w2.drew):=⟨⟨fun _=>by rw [Hz.out];exact hc,fun _=>rfl⟩,zf w2⟩;go_wp2_with fail;go_meet
    case rel=>exact ⟨true,by simp [hc],HE.out⟩
   ·have HE:Hid (HoB p.P y hi false/\Below w2.heap.size w2 w2.drew):=⟨⟨fun h=>(by cases h),fun h=>absurd (by rwa [Hz.out] at h) hc⟩,zf w2⟩;go_wp2_with fail;go_meet
    case rel=>exact ⟨false,by simp [hc],HE.out⟩
  ·have L6:¬ (y:Int) < (p.vn:Int):=by omega
   have HE:Hid (HoB p.P y hi false/\Below w2.heap.size w2 w2.drew):=⟨⟨fun h=>(by cases h),fun h=>by
    rw [List.getD_eq_getElem?_getD,List.getElem?_eq_none (by rw [nW.out];omega)] at h;have h:hi <= 0:=h;have:=gZ.out
    omega⟩,zf w2⟩
   refine wp_region_held_drew (S:=fun W=>W.cell? ⟨g1,0,none⟩=some (.slice p.vo p.vn p.vc)/\W.cell? ⟨g1+1,0,none⟩=some (.int .i64 (y:Int))/\W.cell? ⟨g1+1,2,none⟩=some (.int .i64 hi)) (by kernel_rfl) (aB.out _ (zf w2)) (fun hHeld=>?_);refine wU 0 ?_;refine wU 1 ?_;refine wU 2 ?_;refine wU 3 ?_;refine wU 4 ?_;refine wU 5 ?_;refine wU 6 ?_;refine wV 7 ?_;refine wV 8 ?_;refine wV 9 ?_;refine wV 10 ?_;refine wV 11 ?_;refine wV 12 ?_;refine wV 13 ?_;refine wV 14 ?_;refine wV 15 ?_;refine wU 16 ?_;refine wD ?_ _;clear hHeld;go_wp2_with fail;go_meet
   case rel=>exact ⟨false,rfl,HE.out⟩
 case rest =>
  obtain ⟨b,rfl,HV⟩:=hcut
  rename World=>w3
  cases b with
  | true =>
   have HE:Hid (dl w w3 (.returned (.bool true)) (gM p.P ⟨(y:Int),lo,hi⟩)):=⟨true,rfl,⟨fun _=>zg2 gZ.1 gZ.2.1 gZ.2.2.2 (HV.1.1 rfl),fun _=>rfl⟩,HB.trans (HV.2.mono HB.size)⟩;go_wp2_with fail;go_ret;exact HE.out
  | false =>
   have MJ:Hid (¬ hi <= p.P.vec.getD y 0):=fun h=>by have:=HV.1.2 h;cases this
   have n1:=(HX.1.below HV.2).nums.2;have ls:=qk (HX.2.below HV.2).sn;go_wp2_with fail;clear n1 ls;refine (ziV p.co p.cn p.cc p.P.cloud ⟨(y:Int),lo,hi⟩ _ (HS.below HV.2).cloud (fun a b ee hb=>kU HF.out _ a b ee (by rw [Bk.out];exact hb))).mono ?_;rintro e w4 ⟨i,q,rfl,hF,b4⟩;have aI:=hide (HV.2.trans (b4.mono HV.2.size));have HI:=hide (zg3 HF.out Bk.out gZ.1 gZ.2.1 gZ.2.2.1 gZ.2.2.2 hF MJ);have ii:i <= p.cn:=hF.1;have lL:p.cn <= 5864062014805:=HS.cloud.big
   have Kc:Hid (∀ W,Below w4.heap.size w4 W -> W.cell? ⟨g1,1,none⟩=some (.slice p.co p.cn p.cc)/\W.cell? ⟨g1+1,0,none⟩=some (.int .i64 (y:Int))/\W.cell? ⟨g1+1,1,none⟩=some (.int .i64 lo)):=fun W hW=>by
    have DO:=aI.trans (hW.mono aI.size)
    obtain ⟨c0,c1,-⟩:=(HX.2.below DO).at
    exact ⟨(HX.1.below DO).nums.2,c0,c1⟩
   have fU:=wTr HB aI.out;clear hF b4;by_cases ak:i < p.cn
   ·have aX:(i:Int) < (p.cn:Int):=by omega
    obtain ⟨ad,cU,A0⟩:=(HS.below aI).cloud.at i ak;obtain ⟨s,Hs⟩:∃ s,Hid (p.P.cloud.getD i sn0=s):=⟨_,rfl⟩;rw [Hs.out] at A0
    obtain ⟨b1,o1,rfl⟩:∃ b1 o1,ad=⟨b1,o1,none⟩:=by
     have h:=(HS.below aI).cloud;rw [cU] at h;exact h.spot (by omega)
    rw [Addr.add_lit] at A0;have DH:=hide cU;have r7:=hide A0
    have CV:Hid (∀ W,Below w4.heap.size w4 W -> W.cell? ⟨g1,1,none⟩=some (.slice (some ⟨b1,o1,none⟩) p.cn p.cc)/\W.cell? ⟨g1+1,0,none⟩=some (.int .i64 (y:Int))/\W.cell? ⟨g1+1,1,none⟩=some (.int .i64 lo)/\W.cell? ⟨b1,o1+i * 3,none⟩=some (.int .i64 s.rep)/\W.cell? ⟨b1,o1+i * 3+1,none⟩=some (.int .i64 s.lo)):=fun W hW=>by
     obtain ⟨c0,c1,c2⟩:=Kc.out W hW;rw [DH.out] at c0;have h:=r7.on hW;have h1:=h.c1;rw [Addr.add_lit] at h1;exact ⟨c0,c1,c2,h.c0,h1⟩
    clear A0 cU;by_cases e1:s.rep=(y:Int)
    ·by_cases e2:s.lo <= lo
     ·have HE:Hid (∀ W,Below w4.heap.size w4 W -> dl w W (.returned (.bool true)) (gM p.P ⟨(y:Int),lo,hi⟩)):=fun W hW=>⟨true,rfl,⟨fun _=>HI.1 (by rw [Hs.out];exact ⟨ak,e1,e2⟩),fun _=>rfl⟩,fU.trans (hW.mono fU.size)⟩
      have eb:((s.rep:Int) == (y:Int))=true:=by rw [e1];simp
      have ed:decide (s.lo <= lo)=true:=decide_eq_true e2;clear e1;go_upto_region 4 with fail;refine wp_region_held_drew (S:=fun W=>W.cell? ⟨g1,1,none⟩=some (.slice (some ⟨b1,o1,none⟩) p.cn p.cc)/\W.cell? ⟨g1+1,0,none⟩=some (.int .i64 (y:Int))/\W.cell? ⟨g1+1,1,none⟩=some (.int .i64 lo)/\W.cell? ⟨b1,o1+i * 3,none⟩=some (.int .i64 s.rep)/\W.cell? ⟨b1,o1+i * 3+1,none⟩=some (.int .i64 s.lo)) (by kernel_rfl) (CV.out _ (zf w4)) (fun hHeld=>?_);refine wU 0 ?_;refine wU 1 ?_;refine wU 2 ?_;refine wU 3 ?_;refine wU 4 ?_;refine wU 5 ?_;refine wU 6 ?_;refine wU 7 ?_;refine wU 8 ?_;refine wU 9 ?_;refine wU 10 ?_;refine wU 11 ?_;refine wU 12 ?_;refine wU 13 ?_;refine wU 14 ?_;refine wU 15 ?_;refine wU 16 ?_;refine wU 17 ?_;refine wU 18 ?_;refine wU 19 ?_;refine wU 20 ?_;refine wU 21 ?_;refine wU 22 ?_;refine wU 23 ?_
      refine wU 24 ?_;refine wU 25 ?_;refine wU 26 ?_;refine wU 27 ?_;refine wD ?_ _;clear hHeld;go_wp2_with fail;go_ret;exact HE.out _ (zf w4)
     ·have HE:Hid (∀ W,Below w4.heap.size w4 W -> dl w W (.returned (.bool false)) (gM p.P ⟨(y:Int),lo,hi⟩)):=fun W hW=>⟨false,rfl,⟨fun h=>(by cases h),fun h=>absurd (by have:=(HI.2 h).2.2;rwa [Hs.out] at this) e2⟩,fU.trans (hW.mono fU.size)⟩
      have eb:((s.rep:Int) == (y:Int))=true:=by rw [e1];simp
      have ed:decide (s.lo <= lo)=false:=decide_eq_false e2;clear e1;go_upto_region 4 with fail;refine wp_region_held_drew (S:=fun W=>W.cell? ⟨g1,1,none⟩=some (.slice (some ⟨b1,o1,none⟩) p.cn p.cc)/\W.cell? ⟨g1+1,0,none⟩=some (.int .i64 (y:Int))/\W.cell? ⟨g1+1,1,none⟩=some (.int .i64 lo)/\W.cell? ⟨b1,o1+i * 3,none⟩=some (.int .i64 s.rep)/\W.cell? ⟨b1,o1+i * 3+1,none⟩=some (.int .i64 s.lo)) (by kernel_rfl) (CV.out _ (zf w4)) (fun hHeld=>?_);refine wU 0 ?_;refine wU 1 ?_;refine wU 2 ?_;refine wU 3 ?_;refine wU 4 ?_;refine wU 5 ?_;refine wU 6 ?_;refine wU 7 ?_;refine wU 8 ?_;refine wU 9 ?_;refine wU 10 ?_;refine wU 11 ?_;refine wU 12 ?_;refine wU 13 ?_;refine wU 14 ?_;refine wU 15 ?_;refine wU 16 ?_;refine wU 17 ?_;refine wU 18 ?_;refine wU 19 ?_;refine wU 20 ?_;refine wU 21 ?_;refine wU 22 ?_;refine wU 23 ?_
      refine wU 24 ?_;refine wU 25 ?_;refine wU 26 ?_;refine wU 27 ?_;refine wD ?_ _;clear hHeld;go_wp2_with fail;go_ret;exact HE.out _ (zf w4)
    ·have HE:Hid (∀ W,Below w4.heap.size w4 W -> dl w W (.returned (.bool false)) (gM p.P ⟨(y:Int),lo,hi⟩)):=fun W hW=>⟨false,rfl,⟨fun h=>(by cases h),fun h=>absurd (by have:=(HI.2 h).2.1;rwa [Hs.out] at this) e1⟩,fU.trans (hW.mono fU.size)⟩
     have eb:((s.rep:Int) == (y:Int))=false:=by rw [beq_eq_false_iff_ne];exact e1
     clear e1;go_upto_region 4 with fail;refine wp_region_held_drew (S:=fun W=>W.cell? ⟨g1,1,none⟩=some (.slice (some ⟨b1,o1,none⟩) p.cn p.cc)/\W.cell? ⟨g1+1,0,none⟩=some (.int .i64 (y:Int))/\W.cell? ⟨g1+1,1,none⟩=some (.int .i64 lo)/\W.cell? ⟨b1,o1+i * 3,none⟩=some (.int .i64 s.rep)/\W.cell? ⟨b1,o1+i * 3+1,none⟩=some (.int .i64 s.lo)) (by kernel_rfl) (CV.out _ (zf w4)) (fun hHeld=>?_);refine wU 0 ?_;refine wU 1 ?_;refine wU 2 ?_;refine wU 3 ?_;refine wU 4 ?_;refine wU 5 ?_;refine wU 6 ?_;refine wU 7 ?_;refine wU 8 ?_;refine wU 9 ?_;refine wU 10 ?_;refine wU 11 ?_;refine wU 12 ?_;refine wU 13 ?_;refine wU 14 ?_;refine wU 15 ?_;refine wU 16 ?_;refine wV 17 ?_;refine wV 18 ?_;refine wV 19 ?_;refine wV 20 ?_;refine wV 21 ?_;refine wV 22 ?_;refine wV 23 ?_;refine wV 24 ?_;refine wV 25 ?_;refine wU 26 ?_;refine wU 27 ?_
     refine wD ?_ _;clear hHeld;go_wp2_with fail;go_ret;exact HE.out _ (zf w4)
   ·have aX:¬ (i:Int) < (p.cn:Int):=by omega
    have HE:Hid (∀ W,Below w4.heap.size w4 W -> dl w W (.returned (.bool false)) (gM p.P ⟨(y:Int),lo,hi⟩)):=fun W hW=>⟨false,rfl,⟨fun h=>(by cases h),fun h=>absurd (HI.2 h).1 ak⟩,fU.trans (hW.mono fU.size)⟩;go_upto_region 4 with fail;refine wp_region_held_drew (S:=fun W=>W.cell? ⟨g1,1,none⟩=some (.slice p.co p.cn p.cc)/\W.cell? ⟨g1+1,0,none⟩=some (.int .i64 (y:Int))/\W.cell? ⟨g1+1,1,none⟩=some (.int .i64 lo)) (by kernel_rfl) (Kc.out _ (zf w4)) (fun hHeld=>?_);refine wU 0 ?_;refine wU 1 ?_;refine wU 2 ?_;refine wU 3 ?_;refine wU 4 ?_;refine wU 5 ?_;refine wV 6 ?_;refine wV 7 ?_;refine wV 8 ?_;refine wV 9 ?_;refine wV 10 ?_;refine wV 11 ?_;refine wV 12 ?_;refine wV 13 ?_;refine wV 14 ?_;refine wU 15 ?_;refine wU 16 ?_;refine wV 17 ?_;refine wV 18 ?_;refine wV 19 ?_;refine wV 20 ?_;refine wV 21 ?_
    refine wV 22 ?_;refine wV 23 ?_;refine wV 24 ?_;refine wV 25 ?_;refine wU 26 ?_;refine wU 27 ?_;refine wD ?_ _;clear hHeld;go_wp2_with fail;go_ret;exact HE.out _ (zf w4)
end
section
open Go.RowKit Go.Shelf
def wiP (A P:Pst):Prop:=∀ r,r < 16 -> ∀ n,mem (aa A r) n -> mem (aa P r) n
def CK (c:Sn):Prop:=∃ y:Nat,y < 16/\c.rep=(y:Int)/\1 <= c.lo/\c.lo <= c.hi/\c.hi <= 1000000000
abbrev So:={c:Sn // CK c}
instance:Inhabited So:=⟨⟨⟨0,1,1⟩,0,by decide,rfl,by decide,by decide,by decide⟩⟩
open Classical in
noncomputable def outB (P:Pst) (c:Sn):Bool:=decide (¬ gM P c)
theorem zdm {A:Pst} (h:ag A):A.vec.length <= 16/\∀ j,j < 16 -> 0 <= A.vec.getD j 0/\A.vec.getD j 0 <= 1000000000:=by
 refine ⟨?_,fun j hj=>by rw [zhW h j hj];exact V.zdG _ _⟩;rw [h.1,V.zV];exact V.vT _
theorem zfx {A:Pst} (h:ag A):∀ c∈A.cloud,CK c:=fun c hc=>by
 obtain ⟨b,s⟩:=vu _ _ h.2 c hc;have h1:=s.isr;have h2:=s.lead;have h3:=V.zf4 A.vec c.rep;have h4:=s.ord;have h5:=s.top;simp [V.isR] at h1;exact ⟨c.rep.toNat,by omega,by omega,by omega,h4,h5⟩
theorem zjb {A P:Pst} (h:ag A):wiP A P↔(∀ j,j < A.vec.length -> 0 < A.vec.getD j 0 -> gM P ⟨(j:Int),1,A.vec.getD j 0⟩)/\∀ c∈A.cloud,gM P c:=by
 obtain ⟨v1,v2⟩:=zdm h;constructor
 ·intro q;refine ⟨fun j hj hz m h1 h2=>?_,fun c hc m h1 h2=>?_⟩
  ·have h1:1 <= m:=h1;have h2:m <= A.vec.getD j 0:=h2;have hv:=v2 j (by omega)
   show mem (aa P (j:Int).toNat) m
   rw [Int.toNat_natCast];exact q j (by omega) m ((xN A j (by omega) m).2 ⟨h1,by omega,.inl h2⟩)
  ·obtain ⟨y,hy,e,k1,k2,k3⟩:=zfx h c hc;rw [e,Int.toNat_natCast];exact q y hy m ((xN A y hy m).2 ⟨by omega,by omega,.inr ⟨c,hc,e,h1,h2⟩⟩)
 ·rintro ⟨q1,q2⟩ r hr n hn;rw [xN A r hr n] at hn;obtain ⟨n1,n2,n3 | ⟨c,hc,e,n4,n5⟩⟩:=hn
  ·have hl:r < A.vec.length:=by
    rcases Nat.lt_or_ge r A.vec.length with k | k
    ·exact k
    ·rw [List.getD_eq_getElem?_getD,List.getElem?_eq_none k] at n3;have n3:n <= 0:=n3;omega
   have:=q1 r hl (by omega) n n1 n3;rwa [show (⟨(r:Int),1,A.vec.getD r 0⟩:Sn).rep.toNat=r from Int.toNat_natCast r] at this
  ·have:=q2 c hc n n4 n5;rwa [e,Int.toNat_natCast] at this
attribute [local go_sem ↓] zq zp x9 jv zhL zeO
attribute [local go_sem] zi zk qD xf
theorem zgS (g:Nat) (c:So) (p:Pv) (w:World) (hd:av w g p) (hS:am w p) (hf:ag p.P):Calls Tryz.prog 115 #[SV c.1,.pointer (some ⟨g,0,none⟩)] w fun e w'=>e = .returned (.bool (outB p.P c.1))/\Below w.heap.size w w':=by
 obtain ⟨⟨rp,lo,hi⟩,y,hy,e,h1,h2,h3⟩:=c;have e:rp=(y:Int):=e;subst e;have h1:1 <= lo:=h1;have h2:lo <= hi:=h2;have h3:hi <= 1000000000:=h3
 show Calls Tryz.prog 115 #[SV ⟨(y:Int),lo,hi⟩,.pointer (some ⟨g,0,none⟩)] w fun e w'=>e = .returned (.bool (outB p.P ⟨(y:Int),lo,hi⟩))/\Below w.heap.size w w'
 have b1:=ze w (.cells (SC ⟨(y:Int),lo,hi⟩) 104);have x1:=qJ w ⟨(y:Int),lo,hi⟩;obtain ⟨w1,cF⟩:∃ w1,w.alloc (.cells (SC ⟨(y:Int),lo,hi⟩) 104)=w1:=⟨_,rfl⟩;rw [cF] at b1 x1;have HB:=hide b1;have HS:=hide (hS.below b1);have HF:=hide hf;have gZ:Hid (y < 16/\1 <= lo/\lo <= hi/\hi <= 1000000000):=⟨hy,h1,h2,h3⟩
 have lp:=zj (hd.below b1).at
 have ls:=qk x1.sn;clear b1 x1 hd hS hf h1 h2 h3 hy;go_enter Tryz.func115,Tryz.ntmps115;go_wp2_with fail;clear cF lp ls;refine (zbD p y lo hi _ HS.out HF.out gZ.1 gZ.2.1 gZ.2.2.1 gZ.2.2.2).mono ?_;rintro e w2 ⟨b,rfl,hb,b2⟩
 have HE:Hid ((!b)=outB p.P ⟨(y:Int),lo,hi⟩/\Below w.heap.size w w2):=⟨by
  unfold outB
  cases b with
  | true=>simp [hb.1 rfl]
  | false =>
   have:¬ gM p.P ⟨(y:Int),lo,hi⟩:=fun q=>by have:=hb.2 q;cases this
   simp [this],HB.trans (b2.mono HB.size)⟩
 clear hb b2;go_wp2_with fail;go_ret;exact ⟨zt HE.1,HE.2⟩
theorem zhl (ao:Option Addr) (n cap:Nat) (L:List Sn) (g:Nat) (p:Pv) (w:World) (hS:cR w ao n cap L) (hL:∀ c∈L,CK c) (hd:av w g p) (hp:am w p) (hf:ag p.P) :
  Calls Tryz.prog 63 #[.slice ao n cap,.func (.func 115) #[] #[.pointer (some ⟨g,0,none⟩)]] w fun e w'=>e = .returned (.bool (L.any (outB p.P)))/\Below w.heap.size w w':=by
 by_cases hn:n=0
 ·subst hn;have e:=List.eq_nil_of_length_eq_zero hS.len;subst e;refine (zdv ao cap _ w).mono ?_;rintro e w' ⟨rfl,rfl⟩;exact ⟨rfl,Below.refl _ _⟩
 ·obtain ⟨ad,rfl,A0⟩:=hS.at 0 (by omega);obtain ⟨b,o,rfl⟩:=hS.spot (by omega);have eg:∀ args w,(callFunc 115 args).run Tryz.prog w = .ok (.enter 115 args) w:=enters_of Tryz.func115 (by kernel_rfl) rfl;have h0:=World.block_lt_of_cell? _ _ A0.c0;rw [zs] at h0;obtain ⟨M,hM⟩:∃ M:List So,M=L.pmap Subtype.mk hL:=⟨_,rfl⟩
  have Js:M.length=L.length:=by rw [hM,List.length_pmap]
  have h:=AnyQ.slices_ContainsFunc Tryz.conS 3 Tryz.isAgg104 Tryz.sizeOf104 (fun c:So=>pr c.1) (fun _=>rfl) (fun c:So=>outB p.P c.1) 115 #[.pointer (some ⟨g,0,none⟩)] eg b o n cap M w
   (fun W r hb=>(zgS g r p W (hd.below hb) (hp.below hb) hf).mono fun e w' ⟨he,D8⟩=>⟨he,hb.trans (D8.mono hb.size)⟩)
   (by rw [Js,hS.len];exact Nat.le_refl _) (by have:=hS.big;omega) h0
   (fun j hj i v hv=>by
    have iw:j < L.length:=by rw [<- Js];exact hj
    have A:=hS.cell _ rfl j (by rw [<- hS.len];exact iw)
    have e:(M[j]!).1=L.getD j sn0:=by
     rw [getElem!_pos M j hj];subst hM;rw [List.getElem_pmap];simp [List.getD,iw]
    simp only [e] at hv;have q0:=A.c0;have q1:=A.c1;have q2:=A.c2;rw [Addr.add_lit] at q0 q1 q2;rw [Addr.add_lit] at q1 q2
    match i,hv with
    | 0,hv=>rw [<- hv];exact q0
    | 1,hv=>rw [<- hv];exact q1
    | 2,hv=>rw [<- hv];exact q2
    | i+3,hv=>simp [pr,SC] at hv)
  rw [List.take_of_length_le (by rw [Js,hS.len];exact Nat.le_refl _)] at h
  have ea:M.any (fun c:So=>outB p.P c.1)=L.any (outB p.P):=by
   rw [Bool.eq_iff_iff,List.any_eq_true,List.any_eq_true];subst hM;constructor
   ·rintro ⟨x,hx,h⟩;obtain ⟨c,hc,rfl⟩:=List.mem_pmap.1 hx;exact ⟨c,hc,h⟩
   ·rintro ⟨c,hc,h⟩;exact ⟨⟨c,hL c hc⟩,List.mem_pmap.2 ⟨c,hc,rfl⟩,h⟩
  rw [<- ea];exact h
theorem zbV (a p:Pv) (w:World) (hA:am w a) (hS:am w p) (ha:ag a.P) (hf:ag p.P) :
  Calls Tryz.prog 68 #[PV a,PV p] w fun e w'=>dl w w' e (wiP a.P p.P):=by
 have b1:=ze w (.cells (PC a) 26);have x1:=zm w a;have s1:=World.size_alloc w (.cells (PC a) 26);obtain ⟨w1,cF⟩:∃ w1,w.alloc (.cells (PC a) 26)=w1:=⟨_,rfl⟩;obtain ⟨g1,cP⟩:∃ g1,w.heap.size=g1:=⟨_,rfl⟩;rw [cF] at b1 x1 s1;rw [cP] at x1 s1;have b2:=ze w1 (.cells (PC p) 26);have x2:=zm w1 p;obtain ⟨w2,eH⟩:∃ w2,w1.alloc (.cells (PC p) 26)=w2:=⟨_,rfl⟩;rw [eH] at b2 x2;rw [s1] at x2;have HB:=hide (b1.trans (b2.mono b1.size));have HX:Hid (av w2 g1 a/\av w2 (g1+1) p):=⟨x1.below b2,x2⟩;have HA:=hide (hA.below HB);have HS:=hide (hS.below HB);have HF:Hid (ag a.P/\ag p.P):=⟨ha,hf⟩;have nW:Hid (a.P.vec.length=a.vn):=hA.vec.1
 have Du:Hid (a.vn <= 16/\∀ j,j < 16 -> 0 <= a.P.vec.getD j 0/\a.P.vec.getD j 0 <= 1000000000):=by rw [<- nW.out];exact zdm ha
 have HW:=hide (zjb (P:=p.P) ha);have k0:=(HX.1).nums.1;clear b1 b2 x1 x2 hA hS ha hf;go_enter Tryz.func68,Tryz.ntmps68;go_wp2_with fail;clear cF eH s1 cP k0;go_loopw [5,6,10] (fun _ _ i wr=>∃ k:Nat,k <= a.vn/\i = .int .i64 (k:Int)/\Hid (Below w2.heap.size w2 wr/\∀ j,j < k -> 0 < a.P.vec.getD j 0 -> gM p.P ⟨(j:Int),1,a.P.vec.getD j 0⟩)) (fun _ _ i _=>a.vn - (intOf i).toNat)
 case atStart=>exact ⟨0,Nat.zero_le _,rfl,Below.refl _ _,fun j hj=>by omega⟩
 case round =>
  obtain ⟨k,hk,rfl,HI⟩:=hrel
  rename World=>wr
  have NW:=Du.1;by_cases ak:k < a.vn
  ·have aX:(k:Int) < (a.vn:Int):=by omega
   obtain ⟨ad,cU,cz⟩:=qy (HA.below HI.1).vec k ak;obtain ⟨z,Hz⟩:∃ z,Hid (a.P.vec.getD k 0=z):=⟨_,rfl⟩;rw [Hz.out] at cz;have DH:=hide cU;have aK:=hide ak
   have Ew:Hid (0 <= z/\z <= 1000000000):=by rw [<- Hz.out];exact Du.2 k (by omega)
   have lp:=zj (HX.2.below HI.1).at
   rw [cU];by_cases hz:0 < z
   ·clear cU;go_wp2_with fail;clear cz lp;refine (zbD p k 1 z _ (HS.below HI.1) HF.2 (by have:=aK.out;omega) (Int.le_refl _) (by omega) Ew.2).mono ?_;rintro e w3 ⟨b,rfl,hb,b3⟩;have aw:=hide (HI.1.trans (b3.mono HI.1.size))
    cases b with
    | true =>
     have HN:Hid (∀ j,j < k+1 -> 0 < a.P.vec.getD j 0 -> gM p.P ⟨(j:Int),1,a.P.vec.getD j 0⟩):=fun j hj hp=>by
      by_cases e:j=k
      ·subst e;rw [Hz.out];exact hb.1 rfl
      ·exact HI.2 j (by omega) hp
     clear hb b3;go_wp2_with fail;go_roundw
     case rel=>exact ⟨k+1,aK.out,by simp,aw.out,HN.out⟩
     case measure=>simp [intOf];have:=aK.out;omega
    | false =>
     have HE:Hid (dl w w3 (.returned (.bool false)) (wiP a.P p.P)):=⟨false,rfl,⟨fun h=>(by cases h),fun q=>by
      have:=(HW.1 q).1 k (by rw [nW.out];exact aK) (by rw [Hz.out];exact hz);rw [Hz.out] at this;have:=hb.2 this
      cases this⟩,HB.trans (aw.mono HB.size)⟩
     clear hb b3;go_wp2_with fail;go_ret;exact HE.out
   ·have HN:Hid (∀ j,j < k+1 -> 0 < a.P.vec.getD j 0 -> gM p.P ⟨(j:Int),1,a.P.vec.getD j 0⟩):=fun j hj hp=>by
     by_cases e:j=k
     ·subst e;rw [Hz.out] at hp;exact absurd hp hz
     ·exact HI.2 j (by omega) hp
    clear cU;go_wp2_with fail;clear cz lp;go_roundw
    case rel=>exact ⟨k+1,aK.out,by simp,HI.1,HN.out⟩
    case measure=>simp [intOf];have:=aK.out;omega
  ·have aX:¬ (k:Int) < (a.vn:Int):=by omega
   have k1:=(HX.1.below HI.1).nums.2;have HV:Hid (∀ j,j < a.P.vec.length -> 0 < a.P.vec.getD j 0 -> gM p.P ⟨(j:Int),1,a.P.vec.getD j 0⟩):=fun j hj hp=>HI.2 j (by rw [nW.out] at hj;omega) hp;go_wp2_with fail;clear k1;refine (zhl a.co a.cn a.cc a.P.cloud _ p _ (HA.below HI.1).cloud (zfx HF.1) (HX.2.below HI.1) (HS.below HI.1) HF.2).mono ?_;rintro e w3 ⟨rfl,b3⟩
   have HE:Hid (dl w w3 (.returned (.bool (!(a.P.cloud.any (outB p.P))))) (wiP a.P p.P)):=⟨_,rfl,by
    rw [HW.out,Bool.not_eq_true',Bool.eq_false_iff,ne_eq,List.any_eq_true];constructor
    ·intro q;refine ⟨HV.out,fun c hc=>Classical.byContradiction fun n=>q ⟨c,hc,by unfold outB;simp [n]⟩⟩
    ·rintro ⟨-,q⟩ ⟨c,hc,h⟩;unfold outB at h;simp at h
     exact h (q c hc),HB.trans ((HI.1.trans (b3.mono HI.1.size)).mono HB.size)⟩
   clear b3;generalize a.P.cloud.any (outB p.P)=x at HE ⊢;go_wp2_with fail;go_ret;exact HE.out
end
section

def tin (t:List Int) (n:Int):Bool:=decide (cnt t n % 2=1)
theorem zdw (x:Int) (t:List Int) (n:Int):cnt (x :: t) n=(if x <= n then 1 else 0)+cnt t n:=by
 have:x :: t=[x]++t:=rfl;rw [this,qU,yF]
theorem zbX:∀ {R:List Rn} {l:Int},form l R -> ∀ x,x∈tn R -> l <= x/\x <= 1000000001
 | [],_,_,x,h=>by cases h
 | r :: t,l,h,x,hx=>by
  have h1:=h.1;have h2:=h.2.1;have h3:=h.2.2.1;rcases List.mem_cons.1 hx with e | e
  ·subst e;omega
  ·rcases List.mem_cons.1 e with e | e
   ·subst e;omega
   ·have:=zbX h.2.2.2 x e;omega
theorem zbW:∀ {R:List Rn} {l:Int},form l R -> (tn R).Pairwise (· < ·)
 | [],_,_=>List.Pairwise.nil
 | r :: t,l,h=>by
  have h2:=h.2.1;refine List.pairwise_cons.2 ⟨fun x hx=>?_,List.pairwise_cons.2 ⟨fun x hx=>?_,zbW h.2.2.2⟩⟩
  ·rcases List.mem_cons.1 hx with e | e
   ·subst e;omega
   ·have:=(zbX h.2.2.2 x e).1;omega
  ·have:=(zbX h.2.2.2 x hx).1;omega
theorem zcQ:∀ {R:List Rn} {l:Int},form l R -> ∀ n,(tin (tn R) n=true↔inR R n)
 | [],_,_,n=>by simp [tin,tn,cnt,inR]
 | r :: t,l,h,n=>by
  have ih:=zcQ h.2.2.2 n;have h2:=h.2.1
  have key:inR (r :: t) n↔(r.lo <= n/\n <= r.hi)∨inR t n:=by unfold inR;simp
  rw [key,<- ih];unfold tin;simp only [decide_eq_true_eq]
  show cnt (r.lo :: (r.hi+1) :: tn t) n % 2=1↔_
  rw [zdw,zdw];by_cases a1:r.hi+1 <= n
  ·rw [if_pos a1,if_pos (by omega)];constructor
   ·intro g;exact Or.inr (by omega)
   ·rintro (g | g) <;> omega
  ·have hz:cnt (tn t) n=0:=zaO (fun x hx=>by have:=(zbX h.2.2.2 x hx).1;omega);rw [if_neg a1,hz];by_cases a2:r.lo <= n
   ·rw [if_pos a2];exact ⟨fun _=>Or.inl ⟨a2,by omega⟩,fun _=>rfl⟩
   ·rw [if_neg a2];constructor
    ·intro g;omega
    ·rintro (g | g) <;> omega
theorem zjc:∀ (k:Nat) {t:List Int} {l:Int},t.length=2 * k -> t.Pairwise (· < ·) -> (∀ x,x∈t -> l <= x/\x <= 1000000001) -> ∃ R,form l R/\tn R=t
 | 0,t,l,he,_,_=>by
  obtain rfl:t=[]:=List.eq_nil_of_length_eq_zero (by omega);exact ⟨[],trivial,rfl⟩
 | k+1,[],l,he,_,_=>by simp at he
 | k+1,[a],l,he,_,_=>by simp at he;omega
 | k+1,a :: b :: t,l,he,hp,hb=>by
  obtain ⟨p1,p2⟩:=List.pairwise_cons.1 hp;obtain ⟨p3,p4⟩:=List.pairwise_cons.1 p2;have ee:=p1 b List.mem_cons_self;have ha:=hb a List.mem_cons_self;have nM:=hb b (List.mem_cons_of_mem _ List.mem_cons_self);obtain ⟨R,hR,e⟩:=zjc k (t:=t) (l:=b+1) (by simp at he;omega) p4 (fun x hx=>⟨by have:=p3 x hx;omega,(hb x (List.mem_cons_of_mem _ (List.mem_cons_of_mem _ hx))).2⟩);refine ⟨⟨a,b - 1⟩ :: R,⟨ha.1,by show a <= b - 1;omega,by show b - 1 <= 1000000000;omega,?_⟩,?_⟩
  ·have e2:b - 1+2=b+1:=by omega
   show form (b - 1+2) R
   rw [e2];exact hR
  ·show a :: (b - 1+1) :: tn R=_
   rw [e,Int.sub_add_cancel]
def rul (k:Int) (x y:Bool):Bool:=(k == 1 && x && y) || (k == 2 && x && !y)
theorem zjl (k:Int) (y:Bool):rul k false y=false:=by simp [rul]
structure CbI (k:Int) (A B:List Int) (i j:Nat) (t:List Int) (b:Bool):Prop where
 hi:i <= A.length
 hj:j <= B.length
 tr:t.Pairwise (· < ·)
 tl:∀ x,x∈t -> x∈A.take i++B.take j
 lt:∀ x,x∈A.take i++B.take j -> ∀ y,y∈A.drop i++B.drop j -> x < y
 ev:∀ n,tin t n=rul k (tin (A.take i) n) (tin (B.take j) n)
 nw:b=decide (t.length % 2=1)
theorem CbI.start (k:Int) (A B:List Int):CbI k A B 0 0 [] false:=
 ⟨Nat.zero_le _,Nat.zero_le _,List.Pairwise.nil,(fun x h=>by cases h),(fun x h=>by simp at h),fun n=>by simp [tin,cnt,rul],rfl⟩
theorem vB {L:List Int} {n:Int} (h:∀ x,x∈L -> x <= n):tin L n=decide (L.length % 2=1):=by unfold tin;rw [vO h]
theorem zbY {L M:List Int} {n:Int} (h:∀ x,x∈M -> n < x):tin (L++M) n=tin L n:=by unfold tin;rw [qU,zaO h,Nat.add_zero]
theorem CbI.step {k:Int} {A B:List Int} {i j i' j':Nat} {t:List Int} {b:Bool} {at':Int} (S:CbI k A B i j t b)
  (hA:A.Pairwise (· < ·)) (hB:B.Pairwise (· < ·))
  (ha:(A[i]? = some at'/\i'=i+1)∨((∀ x,A[i]? = some x -> at' < x)/\i'=i))
  (hb:(B[j]? = some at'/\j'=j+1)∨((∀ x,B[j]? = some x -> at' < x)/\j'=j))
  (hs:A[i]? = some at'∨B[j]? = some at') :
  (rul k (decide (i' % 2=1)) (decide (j' % 2=1))=b -> CbI k A B i' j' t b)/\(rul k (decide (i' % 2=1)) (decide (j' % 2=1))≠b -> CbI k A B i' j' (t++[at']) (!b)):=by
 have step1:∀ (L:List Int) (u u':Nat),L.Pairwise (· < ·) -> u <= L.length -> ((L[u]? = some at'/\u'=u+1)∨((∀ x,L[u]? = some x -> at' < x)/\u'=u)) ->
   u' <= L.length/\(∃ M,L.take u'=L.take u++M/\∀ x,x∈M -> x=at')/\(∀ y,y∈L.drop u' -> at' < y)/\(∀ y,y∈L.drop u' -> y∈L.drop u):=by
  intro L u u' hL hu h
  have Am:∀ v x,L[v]? = some x -> ∀ y,y∈L.drop (v+1) -> x < y:=by
   intro v x hx y hy;have hp:(L.drop v).Pairwise (· < ·):=hL.sublist (List.drop_sublist _ _);rw [(qQ L v x hx).2] at hp;exact (List.pairwise_cons.1 hp).1 y hy
  rcases h with ⟨h1,rfl⟩ | ⟨h1,rfl⟩
  ·have hl:=(List.getElem?_eq_some_iff.1 h1).1;obtain ⟨t1,t2⟩:=qQ L u at' h1;exact ⟨hl,⟨[at'],t1,fun x hx=>List.mem_singleton.1 hx⟩,Am u at' h1,fun y hy=>by rw [t2];exact List.mem_cons_of_mem _ hy⟩
  ·refine ⟨hu,⟨[],by simp,fun x hx=>by cases hx⟩,fun y hy=>?_,fun y hy=>hy⟩
   cases hx:L[u']? with
   | none=>rw [List.drop_of_length_le (by simpa using hx)] at hy;cases hy
   | some x =>
    have h2:=h1 x hx;rw [(qQ L u' x hx).2] at hy;rcases List.mem_cons.1 hy with e | e
    ·omega
    ·have:=Am u' x hx y e;omega
 obtain ⟨a1,⟨MA,a2,a3⟩,a4,a5⟩:=step1 A i i' hA S.hi ha;obtain ⟨b1,⟨MB,b2,b3⟩,b4,b5⟩:=step1 B j j' hB S.hj hb
 have gS:at'∈A.drop i++B.drop j:=by
  rcases hs with h | h
  ·exact List.mem_append_left _ (by rw [(qQ A i at' h).2];exact List.mem_cons_self)
  ·exact List.mem_append_right _ (by rw [(qQ B j at' h).2];exact List.mem_cons_self)
 have Iy:at'∈A.take i'++B.take j':=by
  rcases hs with h | h
  ·rcases ha with ⟨_,e⟩ | ⟨g,_⟩
   ·exact List.mem_append_left _ (by rw [e,(qQ A i at' h).1];exact List.mem_append_right _ (List.mem_singleton.2 rfl))
   ·have:=g at' h;omega
  ·rcases hb with ⟨_,e⟩ | ⟨g,_⟩
   ·exact List.mem_append_right _ (by rw [e,(qQ B j at' h).1];exact List.mem_append_right _ (List.mem_singleton.2 rfl))
   ·have:=g at' h;omega
 have Bt:∀ x,x∈A.take i++B.take j -> x < at':=fun x hx=>S.lt x hx at' gS
 have uZ:∀ x,x∈A.take i++B.take j -> x∈A.take i'++B.take j':=fun x hx=>by
  rw [a2,b2];rcases List.mem_append.1 hx with g | g
  ·exact List.mem_append_left _ (List.mem_append_left _ g)
  ·exact List.mem_append_right _ (List.mem_append_left _ g)
 have AO:∀ x,x∈A.take i'++B.take j' -> x <= at':=fun x hx=>by
  rw [a2,b2] at hx;rcases List.mem_append.1 hx with g | g
  ·rcases List.mem_append.1 g with g | g
   ·have:=Bt x (List.mem_append_left _ g);omega
   ·have:=a3 x g;omega
  ·rcases List.mem_append.1 g with g | g
   ·have:=Bt x (List.mem_append_right _ g);omega
   ·have:=b3 x g;omega
 have ak:∀ x,x∈A.take i'++B.take j' -> ∀ y,y∈A.drop i'++B.drop j' -> x < y:=fun x hx y hy=>by
  have h1:=AO x hx;rcases List.mem_append.1 hy with g | g
  ·have:=a4 y g;omega
  ·have:=b4 y g;omega
 have G6:∀ x,x∈t -> x < at':=fun x hx=>Bt x (S.tl x hx)
 have low:∀ n,n < at' -> tin (A.take i') n=tin (A.take i) n/\tin (B.take j') n=tin (B.take j) n:=fun n hn=>by
  rw [a2,b2];exact ⟨zbY (fun x hx=>by rw [a3 x hx];exact hn),zbY (fun x hx=>by rw [b3 x hx];exact hn)⟩
 have high:∀ n,at' <= n -> tin (A.take i') n=decide (i' % 2=1)/\tin (B.take j') n=decide (j' % 2=1):=fun n hn=>by
  rw [vB (fun x hx=>Int.le_trans (AO x (List.mem_append_left _ hx)) hn),vB (fun x hx=>Int.le_trans (AO x (List.mem_append_right _ hx)) hn),List.length_take,List.length_take,Nat.min_eq_left a1,Nat.min_eq_left b1];exact ⟨rfl,rfl⟩
 refine ⟨fun he=>⟨a1,b1,S.tr,fun x hx=>uZ x (S.tl x hx),ak,fun n=>?_,S.nw⟩,fun cr=>⟨a1,b1,?_,fun x hx=>?_,ak,fun n=>?_,?_⟩⟩
 ·by_cases hn:n < at'
  ·rw [(low n hn).1,(low n hn).2,S.ev n]
  ·rw [(high n (by omega)).1,(high n (by omega)).2,he,vB (fun x hx=>by have:=G6 x hx;omega),S.nw]
 ·refine List.pairwise_append.2 ⟨S.tr,List.pairwise_singleton _ _,fun x hx y hy=>?_⟩;obtain rfl:=List.mem_singleton.1 hy;exact G6 x hx
 ·rcases List.mem_append.1 hx with g | g
  ·exact uZ x (S.tl x g)
  ·obtain rfl:=List.mem_singleton.1 g;exact Iy
 ·by_cases hn:n < at'
  ·rw [(low n hn).1,(low n hn).2,zbY (fun x hx=>by rw [List.mem_singleton.1 hx];exact hn),S.ev n]
  ·have D8:rul k (decide (i' % 2=1)) (decide (j' % 2=1)) = !b:=by
    revert cr
    cases rul k (decide (i' % 2=1)) (decide (j' % 2=1)) <;> cases b <;> simp
   rw [(high n (by omega)).1,(high n (by omega)).2,D8,vB (fun x hx=>?_),S.nw,List.length_append]
   ·show decide ((t.length+1) % 2=1)=_
    by_cases h:t.length % 2=1
    ·rw [decide_eq_true h,decide_eq_false (by omega)];rfl
    ·rw [decide_eq_false h,decide_eq_true (by omega)];rfl
   ·rcases List.mem_append.1 hx with g | g
    ·have:=G6 x g;omega
    ·have:=List.mem_singleton.1 g;omega
 ·rw [S.nw,List.length_append]
  show _=decide ((t.length+1) % 2=1)
  by_cases h:t.length % 2=1
  ·rw [decide_eq_true h,decide_eq_false (by omega)];rfl
  ·rw [decide_eq_false h,decide_eq_true (by omega)];rfl
def iF (k:Int) (a b c:List Rn):Prop:=form 1 c/\∀ n,mem c n↔((k=1/\mem a n/\mem b n)∨(k=2/\mem a n/\¬ mem b n))
theorem CbI.done {k:Int} {a b:List Rn} {t:List Int} {x:Bool} (ha:form 1 a) (hb:form 1 b) (S:CbI k (tn a) (tn b) (tn a).length (tn b).length t x):∃ c,t=tn c/\iF k a b c:=by
 have JB:=S.ev;simp only [List.take_length] at JB
 have FJ:∀ z,z∈t -> 1 <= z/\z <= 1000000001:=fun z hz=>by
  have:=S.tl z hz;simp only [List.take_length] at this;rcases List.mem_append.1 this with g | g
  ·exact zbX ha z g
  ·exact zbX hb z g
 have cJ:t.length % 2=0:=by
  have h1:=JB 1000000001;rw [vB (fun z hz=>(FJ z hz).2),vB (fun z hz=>(zbX ha z hz).2),jt] at h1;rw [show decide (2 * a.length % 2=1)=false from decide_eq_false (by omega),zjl] at h1;have:=of_decide_eq_false h1;omega
 obtain ⟨c,hc,e⟩:=zjc (t.length / 2) (l:=1) (t:=t) (by omega) S.tr FJ;refine ⟨c,e.symm,hc,fun n=>?_⟩;rw [zaA hc,zaA ha,zaA hb,<- zcQ hc,<- zcQ ha,<- zcQ hb,e,JB n];unfold rul
 cases tin (tn a) n <;> cases tin (tn b) n <;> simp
end
end Go.Proofs.YtjffpimfngdggaaGreat
