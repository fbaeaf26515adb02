/- CB HPn HHo HWi QCb -/
import Derived.Test.YtjffpimfngdggaaGreatTk
import Derived.Test.YtjffpimfngdggaaGreatFe14
import Derived.Test.YtjffpimfngdggaaGreatFe28
import Derived.Deep.CutRange
import Derived.Test.YtjffpimfngdggaaGreatFe16
import Derived.Test.YtjffpimfngdggaaGreatFe12
import Derived.Test.YtjffpimfngdggaaGreatFe22
import Derived.Test.YtjffpimfngdggaaGreatFe00
set_option maxRecDepth 100000
set_option maxHeartbeats 3200000
namespace Go.Proofs.YtjffpimfngdggaaGreat
section
open Go.RowKit
attribute [local go_sem ↓] xT jn zV zU
attribute [local go_sem] xN qB qY
variable {w w' w2 W W' : World} {g : Nat}

theorem ziu (ao:Option Addr) (n cap:Nat) (L:List Sn) (t:Sn) (w:World) (hS:cN w ao n cap L) (hm:∀ a b,a <= b -> b < n -> nrC (L.getD b sn0) ⟨t.rep,t.hi⟩ < 0 -> nrC (L.getD a sn0) ⟨t.rep,t.hi⟩ < 0) :
  Calls Tryz.prog 165 #[.slice ao n cap,SV t,.func (.func 166) #[] #[]] w fun e w'=>BsA w w' e L ⟨t.rep,t.hi⟩ n:=by
 have C3:∀ (args:Array Value) (w:World),(callFunc 166 args).run Tryz.prog w = .ok (.enter 166 args) w:=fun _ _=>rfl;have b1:=ze w (.cells (SC t) 104);have x1:=qH w t;obtain ⟨w1,cR⟩:∃ w1,w.alloc (.cells (SC t) 104)=w1:=⟨_,rfl⟩;obtain ⟨g1,cT⟩:∃ g1,w.heap.size=g1:=⟨_,rfl⟩;rw [cR] at b1 x1;rw [cT] at x1;have aN:=hide b1;have HX:Hid (dr w1 g1 t/\cN w1 ao n cap L):=⟨x1,hS.below b1⟩;have pF:n <= 5864062014805:=hS.big;have HM:=hide hm;clear b1 x1 hS hm;go_enter Tryz.func165,Tryz.ntmps165;go_wp2_with fail;clear cR cT;go_loopw [9,10] (fun a b wr=>∃ (lo hi:Nat),a = .int .i64 (lo:Int)/\b = .int .i64 (hi:Int)/\lo <= hi/\hi <= n/\Hid (Below w1.heap.size w1 wr/\(∀ j,j < lo -> nrC (L.getD j sn0) ⟨t.rep,t.hi⟩ < 0)/\(hi < n -> 0 <= nrC (L.getD hi sn0) ⟨t.rep,t.hi⟩))) (fun a b _=>(intOf b).toNat - (intOf a).toNat)
 case atStart=>exact ⟨0,n,rfl,rfl,Nat.zero_le _,Nat.le_refl _,Below.refl _ _,(fun j hj=>by omega),fun h=>by omega⟩
 case round =>
  obtain ⟨lo,hi,rfl,rfl,Fr,mt,HI⟩:=hrel
  rename World=>wr
  by_cases ak:lo < hi
  ·have cL:(lo:Int) < (hi:Int):=by omega
   obtain ⟨h,hh⟩:∃ h:Nat,(lo+hi) / 2=h:=⟨_,rfl⟩
   have uG:lo <= 5864062014805:=by omega
   have FB:hi <= 5864062014805:=by omega
   obtain ⟨u,ht⟩:∃ u:Nat,lo+hi=u:=⟨_,rfl⟩
   have et:(lo:Int)+(hi:Int)=(u:Int):=by omega
   have e2:(u:Int) / 2=(h:Int):=by omega
   have e3:u / 2=h:=by omega
   have HH:Hid (lo <= h/\h < hi/\h < n):=⟨by omega,by omega,by omega⟩
   have Fg:u <= 20000000000000:=by omega
   obtain ⟨ad,rfl,A0⟩:=(HX.out.2.below HI.out.1).at h HH.out.2.2;obtain ⟨s,Hs⟩:∃ s,Hid (L.getD h sn0=s):=⟨_,rfl⟩
   have aG:Hid (∀ W,Below wr.heap.size wr W -> (ldS (.pointer (some (ad.add (h * 3))))).run Tryz.prog W = .ok (SV s) W/\(ldS (.pointer (some ⟨g1,0,none⟩))).run Tryz.prog W = .ok (SV t) W):=fun W hW=>by
    obtain ⟨ad',e',A1⟩:=((HX.out.2.below HI.out.1).below hW).at h HH.out.2.2;obtain rfl:=Option.some.inj e';rw [Hs.out] at A1;exact ⟨qk A1,qk ((HX.out.1.below HI.out.1).below hW).sn⟩
   have ug:(h:Int) < (n:Int):=by have:=HH.out;omega
   clear A0 hh ht;go_upto_region 5 with fail;clear et e2 e3;refine wp_region_held_drew (S:=fun W=>(ldS (.pointer (some (ad.add (h * 3))))).run Tryz.prog W = .ok (SV s) W/\(ldS (.pointer (some ⟨g1,0,none⟩))).run Tryz.prog W = .ok (SV t) W) (by kernel_rfl) (aG.out _ (zg wr)) (fun hHeld=>?_);refine wU 0 ?_;refine wU 1 ?_;refine wU 2 ?_;refine wU 3 ?_;refine wU 4 ?_;refine wU 5 ?_;refine wpAnyH_ready (rs:=[6]) (by kernel_rfl) (by simp) (.cons rfl (fun K hK=>?_) .nil);go_simp;go_wp2_with fail;refine (zew s t _).mono ?_;rintro e w3 ⟨rfl,b3⟩;have dZ:Below wr.heap.size wr w3:=(zg wr).trans b3;have aB:=hide (HI.out.1.trans (dZ.mono HI.out.1.size));refine hK.out _ _ (aG.out _ dZ) (fun hHeld=>?_);clear hK K b3 dZ;obtain ⟨z,hz⟩:∃ z,nrC s ⟨t.rep,t.hi⟩=z:=⟨_,rfl⟩;rw [hz];refine wU 7 ?_;refine wpAnyH_done (by kernel_rfl) ?_ _
   clear hHeld;by_cases dg:z < 0
   ·have HN:Hid (∀ j,j < h+1 -> nrC (L.getD j sn0) ⟨t.rep,t.hi⟩ < 0):=fun j hj=>HM.out j h (by omega) HH.out.2.2 (by rw [Hs.out,hz];exact dg);clear hz;go_wp2_with fail;go_roundw
    case rel=>exact ⟨h+1,hi,by simp,rfl,by have:=HH.out;omega,mt,aB.out,HN.out,HI.out.2.2⟩
    case measure=>simp [intOf];have:=HH.out;omega
   ·have HN:Hid (h < n -> 0 <= nrC (L.getD h sn0) ⟨t.rep,t.hi⟩):=fun _=>by rw [Hs.out,hz];omega
    clear hz;go_wp2_with fail;go_roundw
    case rel=>exact ⟨lo,h,rfl,rfl,HH.out.1,by have:=HH.out;omega,aB.out,HI.out.2.1,HN.out⟩
    case measure=>simp [intOf];have:=HH.out;omega
  ·have cL:¬ (lo:Int) < (hi:Int):=by omega
   obtain rfl:lo=hi:=by omega
   have HF:Hid (eT L ⟨t.rep,t.hi⟩ n lo):=⟨mt,HI.out.2.1,HI.out.2.2⟩;have fR:=wTr aN HI.out.1;by_cases ic:lo < n
   ·have lP:(lo:Int) < (n:Int):=by omega
    obtain ⟨ad,rfl,A0⟩:=(HX.out.2.below HI.out.1).at lo ic;obtain ⟨s,Hs⟩:∃ s,Hid (L.getD lo sn0=s):=⟨_,rfl⟩
    have aG:Hid (∀ W,Below wr.heap.size wr W -> (ldS (.pointer (some (ad.add (lo * 3))))).run Tryz.prog W = .ok (SV s) W/\(ldS (.pointer (some ⟨g1,0,none⟩))).run Tryz.prog W = .ok (SV t) W):=fun W hW=>by
     obtain ⟨ad',e',A1⟩:=((HX.out.2.below HI.out.1).below hW).at lo ic;obtain rfl:=Option.some.inj e';rw [Hs.out] at A1;exact ⟨qk A1,qk ((HX.out.1.below HI.out.1).below hW).sn⟩
    clear A0;go_upto_region 8 with fail;refine wp_region_held_drew (S:=fun W=>(ldS (.pointer (some (ad.add (lo * 3))))).run Tryz.prog W = .ok (SV s) W/\(ldS (.pointer (some ⟨g1,0,none⟩))).run Tryz.prog W = .ok (SV t) W) (by kernel_rfl) (aG.out _ (zg wr)) (fun hHeld=>?_);refine wU 0 ?_;refine wU 1 ?_;refine wU 2 ?_;refine wU 3 ?_;refine wU 4 ?_;refine wU 5 ?_;refine wU 6 ?_;refine wU 7 ?_;refine wU 8 ?_;refine wU 9 ?_;refine wU 10 ?_;refine wpAnyH_ready (rs:=[11]) (by kernel_rfl) (by simp) (.cons rfl (fun K hK=>?_) .nil);go_simp;go_wp2_with fail;refine (zew s t _).mono ?_;rintro e w3 ⟨rfl,b3⟩;have dZ:Below wr.heap.size wr w3:=(zg wr).trans b3;have aB:=wTr fR dZ;refine hK.out _ _ (aG.out _ dZ) (fun hHeld=>?_);clear hK K b3 dZ;obtain ⟨z,hz⟩:∃ z,nrC s ⟨t.rep,t.hi⟩=z:=⟨_,rfl⟩;rw [hz];clear hz;refine wU 14 ?_
    refine wU 12 ?_;refine wU 13 ?_;refine wU 15 ?_;refine wpAnyH_done (by kernel_rfl) ?_ _;clear hHeld;go_wp2_with fail;go_ret2;exact ⟨lo,_,rfl,HF.out,aB.out⟩
   ·have lP:¬ (lo:Int) < (n:Int):=by omega
    go_upto_region 8 with fail;refine wp_region_held_drew (S:=fun _=>True) (by kernel_rfl) (trivial) (fun hHeld=>?_);refine wU 0 ?_;refine wU 1 ?_;refine wU 2 ?_;refine wU 3 ?_;refine wU 4 ?_;refine wV 5 ?_;refine wV 6 ?_;refine wV 7 ?_;refine wV 8 ?_;refine wV 9 ?_;refine wV 10 ?_;refine wV 11 ?_;refine wV 12 ?_;refine wU 14 ?_;refine wU 13 ?_;refine wU 15 ?_;refine wpAnyH_done (by kernel_rfl) ?_ _;clear hHeld;go_wp2_with fail;go_ret2;exact ⟨lo,_,rfl,HF.out,fR.out.trans ((zg wr).mono fR.out.size)⟩
end
section
open Go.RowKit
theorem vf {Z:List Int}:∀ (L:List Sn) (a:Sn),chain Z a L -> ∀ c∈L,∃ b,gG Z b c
 | [],_,_,c,h=>by cases h
 | x :: t,a,h,c,hc=>by
  rcases List.mem_cons.1 hc with rfl | hc
  ·exact ⟨a,h.1⟩
  ·exact vf t x h.2 c hc
def Gp (x y:Sn):Prop:=x.rep < y.rep∨(x.rep=y.rep/\x.hi+2 <= y.lo)
theorem zc3 {Z:List Int}:∀ (L:List Sn) (a:Sn),chain Z a L -> (∀ y∈L,Gp a y)/\L.Pairwise Gp
 | [],_,_=>⟨fun y h=>(by cases h),List.Pairwise.nil⟩
 | x :: t,a,h=>by
  obtain ⟨h1,h2⟩:=zc3 t x h.2;have r:=h.1.rep;have o:=h.1.ord;have g:=h.1.gap
  have k:Gp a x:=by
   by_cases e:x.rep=a.rep
   ·exact .inr ⟨e.symm,g e⟩
   ·exact .inl (by omega)
  refine ⟨fun y hy=>?_,List.Pairwise.cons h1 h2⟩;rcases List.mem_cons.1 hy with rfl | hy
  ·exact k
  ·have q:=h1 y hy;unfold Gp at k q ⊢;omega
theorem zhm {P:Pst} (h:aj P) (r:Nat) (hr:r < 16):P.vec.getD r 0=V.at' P.vec r:=by
 have:=V.j5 (V.at' P.vec) r hr;rw [<- h.1] at this;exact this
def f0 (P:Pst) (t:Sn):Prop:=∀ m,t.lo <= m -> m <= t.hi -> mem (ae P t.rep.toNat) m
theorem zgt {P:Pst} {y:Nat} {lo hi:Int} (hy:y < 16) (h1:1 <= lo) (h3:hi <= 1000000000) (h:hi <= P.vec.getD y 0):f0 P ⟨(y:Int),lo,hi⟩:=fun m h4 h5=>by
 have h4:lo <= m:=h4;have h5:m <= hi:=h5
 show mem (ae P (y:Int).toNat) m
 rw [Int.toNat_natCast,jd P y hy];exact ⟨by omega,by omega,.inl (by omega)⟩
theorem zgu {P:Pst} (h:aj P) {n i y:Nat} {lo hi:Int} (hl:P.cloud.length=n) (hy:y < 16) (h1:1 <= lo) (h2:lo <= hi) (h3:hi <= 1000000000) (hF:eT P.cloud ⟨(y:Int),hi⟩ n i) (hv:P.vec.getD y 0 < hi) :
  (i < n/\(P.cloud.getD i sn0).rep=(y:Int)/\(P.cloud.getD i sn0).lo <= lo)↔f0 P ⟨(y:Int),lo,hi⟩:=by
 have key:∀ m,mem (ae P y) m↔1 <= m/\m <= 1000000000/\(m <= P.vec.getD y 0∨∃ c,c∈P.cloud/\c.rep=(y:Int)/\c.lo <= m/\m <= c.hi):=fun m=>jd P y hy m;constructor
 ·rintro ⟨k1,k2,k3⟩ m h4 h5;have h4:lo <= m:=h4;have h5:m <= hi:=h5
  show mem (ae P (y:Int).toNat) m
  have hn:=hF.2.2 k1;have FQ:=bY (P.cloud.getD i sn0) ⟨(y:Int),hi⟩
  have Ff:¬ ((P.cloud.getD i sn0).rep < (y:Int)∨((P.cloud.getD i sn0).rep=(y:Int)/\(P.cloud.getD i sn0).hi < hi)):=fun q=>by have:=FQ.2 q;omega
  rw [Int.toNat_natCast,key m];refine ⟨by omega,by omega,.inr ⟨P.cloud.getD i sn0,?_,k2,by omega,by omega⟩⟩;rw [List.getD_eq_getElem?_getD,List.getElem?_eq_getElem (by omega)];exact List.getElem_mem _
 ·intro q
  have q:∀ m,lo <= m -> m <= hi -> mem (ae P y) m:=fun m a b=>by have:=q m a b;rwa [show (⟨(y:Int),lo,hi⟩:Sn).rep.toNat=y from Int.toNat_natCast y] at this
  have hd:cB P ⟨(y:Int),hi⟩:=by
   rw [xB];have:=(key hi).1 (q hi h2 (Int.le_refl _));exact ⟨by show (0:Int) <= (y:Int);omega,by show (y:Int) < 16;omega,this.1,this.2.1,by show hi <= P.vec.getD (y:Int).toNat 0∨_;rw [Int.toNat_natCast];exact this.2.2⟩
  have uq:=(bZ h hl hF).2 hd;rw [xB] at uq;obtain ⟨-,-,-,-,GY | ⟨c,hc,e1,e2,e3⟩⟩:=uq
  ·have GY:hi <= P.vec.getD (y:Int).toNat 0:=GY;rw [Int.toNat_natCast] at GY;omega
  ·have e1:c.rep=(y:Int):=e1;have e2:c.lo <= hi:=e2;have e3:hi <= c.hi:=e3
   have lJ:i < n:=by
    rcases Nat.lt_or_ge i n with q | q
    ·exact q
    ·rw [List.drop_eq_nil_of_le (by omega)] at hc;cases hc
   have D8:c=P.cloud.getD i sn0:=by
    rw [List.drop_eq_getElem_cons (by omega),List.take_succ_cons,List.take_zero] at hc;rw [List.mem_singleton.1 hc,List.getD_eq_getElem?_getD,List.getElem?_eq_getElem (by omega)];rfl
   refine ⟨lJ,by rw [<- D8];exact e1,?_⟩;rw [<- D8];rcases Int.lt_or_le lo c.lo with k | k
   ·exfalso;have hm:=(key (c.lo - 1)).1 (q (c.lo - 1) (by omega) (by omega))
    have eV:c∈P.cloud:=by
     rw [D8,List.getD_eq_getElem?_getD,List.getElem?_eq_getElem (by omega)];exact List.getElem_mem _
    obtain ⟨b,sb⟩:=vf _ _ h.2 c eV;have DI:=sb.lead
    have sg:V.atI P.vec c.rep=P.vec.getD y 0:=by
     rw [e1,zhm h y hy];unfold V.atI;simp [V.isR];omega
    rw [sg] at DI;rcases hm.2.2 with hm3 | ⟨c2,pV,r1,r2,r3⟩
    ·omega
    ·obtain ⟨-,gp⟩:=zc3 _ _ h.2;obtain ⟨u,hu,rfl⟩:=List.getElem_of_mem eV;obtain ⟨v,JS,rfl⟩:=List.getElem_of_mem pV;rcases Nat.lt_trichotomy u v with q | q | q
     ·have:=List.pairwise_iff_getElem.1 gp u v hu JS q;have o:=(vf _ _ h.2 _ (List.getElem_mem hu)).choose_spec.ord;unfold Gp at this;omega
     ·subst q;omega
     ·have:=List.pairwise_iff_getElem.1 gp v u JS hu q;unfold Gp at this;omega
   ·exact k
end
section
open Go.RowKit
attribute [local go_sem ↓] zq zp xT jn
attribute [local go_sem] zi zj qB qY
def HoB (P:Pst) (y:Nat) (hi:Int) (b:Bool):Prop:=b=true↔hi <= P.vec.getD y 0
theorem zbi (p:Pv) (y:Nat) (lo hi:Int) (w:World) (hS:am w p) (hf:aj p.P) (hy:y < 16) (h1:1 <= lo) (h2:lo <= hi) (h3:hi <= 1000000000) :
  Calls Tryz.prog 114 #[PV p,SV ⟨(y:Int),lo,hi⟩] w fun e w'=>df w w' e (f0 p.P ⟨(y:Int),lo,hi⟩):=by
 obtain ⟨t,Ht⟩:∃ t:Sn,Hid (t=⟨(y:Int),lo,hi⟩):=⟨_,rfl⟩;have b1:=ze w (.cells (PC p) 26);have x1:=zr w p;have s1:=World.size_alloc w (.cells (PC p) 26);obtain ⟨w1,cR⟩:∃ w1,w.alloc (.cells (PC p) 26)=w1:=⟨_,rfl⟩;obtain ⟨g1,cT⟩:∃ g1,w.heap.size=g1:=⟨_,rfl⟩;rw [cR] at b1 x1 s1;rw [cT] at x1 s1;have b2:=ze w1 (.cells (SC ⟨(y:Int),lo,hi⟩) 104);have x2:=qH w1 ⟨(y:Int),lo,hi⟩;obtain ⟨w2,fi⟩:∃ w2,w1.alloc (.cells (SC ⟨(y:Int),lo,hi⟩) 104)=w2:=⟨_,rfl⟩;rw [fi] at b2 x2;rw [s1] at x2;have HB:=hide (b1.trans (b2.mono b1.size));have HX:Hid (aA w2 g1 p/\dr w2 (g1+1) ⟨(y:Int),lo,hi⟩):=⟨x1.below b2,x2⟩;have HS:=hide (hS.below HB.out);have HF:=hide hf;have gO:Hid (y < 16/\1 <= lo/\lo <= hi/\hi <= 1000000000):=⟨hy,h1,h2,h3⟩;have mY:Hid (p.P.vec.length=p.vn):=hS.vec.1
 have Aw:Hid (p.P.cloud.length=p.cn):=hS.cloud.len;clear b1 b2 x1 x2 hS hf h1 h2 h3
 have aG:Hid (∀ W,Below w2.heap.size w2 W -> W.cell? ⟨g1,0,none⟩=some (.slice p.vo p.vn p.vc)/\W.cell? ⟨g1+1,0,none⟩=some (.int .i64 (y:Int))/\W.cell? ⟨g1+1,2,none⟩=some (.int .i64 hi)):=fun W hW=>by
  obtain ⟨c0,-,c2⟩:=(HX.out.2.below hW).at
  exact ⟨(HX.out.1.below hW).nums.1,c0,c2⟩
 go_enter Tryz.func114,Tryz.ntmps114;go_upto_region 1 with fail;clear cR fi s1 cT
 go_cut [23] from 7 to 22 (fun v W=>∃ b:Bool,v = .bool b/\Hid (HoB p.P y hi b/\Below w2.heap.size w2 W))
 case first =>
  by_cases hv:y < p.vn
  ·have Nh:(y:Int) < (p.vn:Int):=by omega
   obtain ⟨ad,eO,cz⟩:=qF HS.out.vec y hv;obtain ⟨z,Hz⟩:∃ z,Hid (p.P.vec.getD y 0=z):=⟨_,rfl⟩;rw [Hz.out] at cz;have CR:=hide eO;have Jz:=hide cz
   have Ld:Hid (∀ W,Below w2.heap.size w2 W -> W.cell? ⟨g1,0,none⟩=some (.slice (some ad) p.vn p.vc)/\W.cell? ⟨g1+1,0,none⟩=some (.int .i64 (y:Int))/\W.cell? ⟨g1+1,2,none⟩=some (.int .i64 hi)/\W.cell? (ad.add y)=some (.int .i64 z)):=fun W hW=>by
    obtain ⟨c0,c1,c2⟩:=aG.out W hW;rw [CR.out] at c0;exact ⟨c0,c1,c2,(hW.cell (World.block_lt_of_cell? _ _ Jz.out)).trans Jz.out⟩
   clear cz eO;refine wp_region_held_drew (S:=fun W=>W.cell? ⟨g1,0,none⟩=some (.slice (some ad) p.vn p.vc)/\W.cell? ⟨g1+1,0,none⟩=some (.int .i64 (y:Int))/\W.cell? ⟨g1+1,2,none⟩=some (.int .i64 hi)/\W.cell? (ad.add y)=some (.int .i64 z)) (by kernel_rfl) (Ld.out _ (zg w2)) (fun hHeld=>?_);refine wU 0 ?_;refine wU 1 ?_;refine wU 2 ?_;refine wU 3 ?_;refine wU 4 ?_;refine wU 5 ?_;refine wU 6 ?_;refine wU 7 ?_;refine wU 8 ?_;refine wU 9 ?_;refine wU 10 ?_;refine wU 11 ?_;refine wU 12 ?_;refine wU 13 ?_;refine wU 14 ?_;refine wU 15 ?_;refine wU 16 ?_;refine wpAnyH_done (by kernel_rfl) ?_ _;clear hHeld;by_cases hc:hi <= z
   ·have HE:Hid (HoB p.P y hi true/\Below w2.heap.size w2 w2.drew):=⟨⟨fun _=>by rw [Hz.out];exact hc,fun _=>rfl⟩,zg w2⟩;go_wp2_with fail;go_meet
    case rel=>exact ⟨true,by simp [hc],HE.out⟩
   ·have HE:Hid (HoB p.P y hi false/\Below w2.heap.size w2 w2.drew):=⟨⟨fun h=>(by cases h),fun h=>absurd (by rwa [Hz.out] at h) hc⟩,zg w2⟩;go_wp2_with fail;go_meet
    case rel=>exact ⟨false,by simp [hc],HE.out⟩
  ·have Nh:¬ (y:Int) < (p.vn:Int):=by omega
   have HE:Hid (HoB p.P y hi false/\Below w2.heap.size w2 w2.drew):=⟨⟨fun h=>(by cases h),fun h=>by
    rw [List.getD_eq_getElem?_getD,List.getElem?_eq_none (by rw [mY.out];omega)] at h;have h:hi <= 0:=h;have:=gO.out
    omega⟩,zg w2⟩
   refine wp_region_held_drew (S:=fun W=>W.cell? ⟨g1,0,none⟩=some (.slice p.vo p.vn p.vc)/\W.cell? ⟨g1+1,0,none⟩=some (.int .i64 (y:Int))/\W.cell? ⟨g1+1,2,none⟩=some (.int .i64 hi)) (by kernel_rfl) (aG.out _ (zg w2)) (fun hHeld=>?_);refine wU 0 ?_;refine wU 1 ?_;refine wU 2 ?_;refine wU 3 ?_;refine wU 4 ?_;refine wU 5 ?_;refine wU 6 ?_;refine wV 7 ?_;refine wV 8 ?_;refine wV 9 ?_;refine wV 10 ?_;refine wV 11 ?_;refine wV 12 ?_;refine wV 13 ?_;refine wV 14 ?_;refine wV 15 ?_;refine wU 16 ?_;refine wpAnyH_done (by kernel_rfl) ?_ _;clear hHeld;go_wp2_with fail;go_meet
   case rel=>exact ⟨false,rfl,HE.out⟩
 case rest =>
  obtain ⟨b,rfl,HV⟩:=hcut
  rename World=>w3
  cases b with
  | true =>
   have HE:Hid (df w w3 (.returned (.bool true)) (f0 p.P ⟨(y:Int),lo,hi⟩)):=⟨true,rfl,⟨fun _=>zgt gO.out.1 gO.out.2.1 gO.out.2.2.2 (HV.out.1.1 rfl),fun _=>rfl⟩,HB.out.trans (HV.out.2.mono HB.out.size)⟩;go_wp2_with fail;go_ret;exact HE.out
  | false =>
   have LM:Hid (¬ hi <= p.P.vec.getD y 0):=fun h=>by have:=HV.out.1.2 h;cases this
   have n1:=(HX.out.1.below HV.out.2).nums.2;have ls:=qk (HX.out.2.below HV.out.2).sn;go_wp2_with fail;clear n1 ls;refine (ziu p.co p.cn p.cc p.P.cloud ⟨(y:Int),lo,hi⟩ _ (HS.out.below HV.out.2).cloud (fun a b dS hb=>kL HF.out _ a b dS (by rw [Aw.out];exact hb))).mono ?_;rintro e w4 ⟨i,q,rfl,hF,b4⟩;have aQ:=hide (HV.out.2.trans (b4.mono HV.out.2.size));have HI:=hide (zgu HF.out Aw.out gO.out.1 gO.out.2.1 gO.out.2.2.1 gO.out.2.2.2 hF LM.out);have lJ:i <= p.cn:=hF.1;have pF:p.cn <= 5864062014805:=HS.out.cloud.big
   have KJ:Hid (∀ W,Below w4.heap.size w4 W -> W.cell? ⟨g1,1,none⟩=some (.slice p.co p.cn p.cc)/\W.cell? ⟨g1+1,0,none⟩=some (.int .i64 (y:Int))/\W.cell? ⟨g1+1,1,none⟩=some (.int .i64 lo)):=fun W hW=>by
    have DX:=aQ.out.trans (hW.mono aQ.out.size)
    obtain ⟨c0,c1,-⟩:=(HX.out.2.below DX).at
    exact ⟨(HX.out.1.below DX).nums.2,c0,c1⟩
   have fR:=wTr HB aQ.out;clear hF b4;by_cases ak:i < p.cn
   ·have cL:(i:Int) < (p.cn:Int):=by omega
    obtain ⟨ad,eO,A0⟩:=(HS.out.below aQ.out).cloud.at i ak;obtain ⟨s,Hs⟩:∃ s,Hid (p.P.cloud.getD i sn0=s):=⟨_,rfl⟩;rw [Hs.out] at A0
    obtain ⟨b1,o1,rfl⟩:∃ b1 o1,ad=⟨b1,o1,none⟩:=by
     have h:=(HS.out.below aQ.out).cloud;rw [eO] at h;exact h.spot (by omega)
    rw [Addr.add_lit] at A0;have CR:=hide eO;have Ch:=hide A0
    have BT:Hid (∀ W,Below w4.heap.size w4 W -> W.cell? ⟨g1,1,none⟩=some (.slice (some ⟨b1,o1,none⟩) p.cn p.cc)/\W.cell? ⟨g1+1,0,none⟩=some (.int .i64 (y:Int))/\W.cell? ⟨g1+1,1,none⟩=some (.int .i64 lo)/\W.cell? ⟨b1,o1+i * 3,none⟩=some (.int .i64 s.rep)/\W.cell? ⟨b1,o1+i * 3+1,none⟩=some (.int .i64 s.lo)):=fun W hW=>by
     obtain ⟨c0,c1,c2⟩:=KJ.out W hW;rw [CR.out] at c0;have h:=Ch.out.on hW;have h1:=h.c1;rw [Addr.add_lit] at h1;exact ⟨c0,c1,c2,h.c0,h1⟩
    clear A0 eO;by_cases e1:s.rep=(y:Int)
    ·by_cases e2:s.lo <= lo
     ·have HE:Hid (∀ W,Below w4.heap.size w4 W -> df w W (.returned (.bool true)) (f0 p.P ⟨(y:Int),lo,hi⟩)):=fun W hW=>⟨true,rfl,⟨fun _=>HI.out.1 (by rw [Hs.out];exact ⟨ak,e1,e2⟩),fun _=>rfl⟩,fR.out.trans (hW.mono fR.out.size)⟩
      have eb:((s.rep:Int) == (y:Int))=true:=by rw [e1];simp
      have ed:decide (s.lo <= lo)=true:=decide_eq_true e2;clear e1;go_upto_region 4 with fail;refine wp_region_held_drew (S:=fun W=>W.cell? ⟨g1,1,none⟩=some (.slice (some ⟨b1,o1,none⟩) p.cn p.cc)/\W.cell? ⟨g1+1,0,none⟩=some (.int .i64 (y:Int))/\W.cell? ⟨g1+1,1,none⟩=some (.int .i64 lo)/\W.cell? ⟨b1,o1+i * 3,none⟩=some (.int .i64 s.rep)/\W.cell? ⟨b1,o1+i * 3+1,none⟩=some (.int .i64 s.lo)) (by kernel_rfl) (BT.out _ (zg w4)) (fun hHeld=>?_);refine wU 0 ?_;refine wU 1 ?_;refine wU 2 ?_;refine wU 3 ?_;refine wU 4 ?_;refine wU 5 ?_;refine wU 6 ?_;refine wU 7 ?_;refine wU 8 ?_;refine wU 9 ?_;refine wU 10 ?_;refine wU 11 ?_;refine wU 12 ?_;refine wU 13 ?_;refine wU 14 ?_;refine wU 15 ?_;refine wU 16 ?_;refine wU 17 ?_;refine wU 18 ?_;refine wU 19 ?_;refine wU 20 ?_;refine wU 21 ?_;refine wU 22 ?_;refine wU 23 ?_
      refine wU 24 ?_;refine wU 25 ?_;refine wU 26 ?_;refine wU 27 ?_;refine wpAnyH_done (by kernel_rfl) ?_ _;clear hHeld;go_wp2_with fail;go_ret;exact HE.out _ (zg w4)
     ·have HE:Hid (∀ W,Below w4.heap.size w4 W -> df w W (.returned (.bool false)) (f0 p.P ⟨(y:Int),lo,hi⟩)):=fun W hW=>⟨false,rfl,⟨fun h=>(by cases h),fun h=>absurd (by have:=(HI.out.2 h).2.2;rwa [Hs.out] at this) e2⟩,fR.out.trans (hW.mono fR.out.size)⟩
      have eb:((s.rep:Int) == (y:Int))=true:=by rw [e1];simp
      have ed:decide (s.lo <= lo)=false:=decide_eq_false e2;clear e1;go_upto_region 4 with fail;refine wp_region_held_drew (S:=fun W=>W.cell? ⟨g1,1,none⟩=some (.slice (some ⟨b1,o1,none⟩) p.cn p.cc)/\W.cell? ⟨g1+1,0,none⟩=some (.int .i64 (y:Int))/\W.cell? ⟨g1+1,1,none⟩=some (.int .i64 lo)/\W.cell? ⟨b1,o1+i * 3,none⟩=some (.int .i64 s.rep)/\W.cell? ⟨b1,o1+i * 3+1,none⟩=some (.int .i64 s.lo)) (by kernel_rfl) (BT.out _ (zg w4)) (fun hHeld=>?_);refine wU 0 ?_;refine wU 1 ?_;refine wU 2 ?_;refine wU 3 ?_;refine wU 4 ?_;refine wU 5 ?_;refine wU 6 ?_;refine wU 7 ?_;refine wU 8 ?_;refine wU 9 ?_;refine wU 10 ?_;refine wU 11 ?_;refine wU 12 ?_;refine wU 13 ?_;refine wU 14 ?_;refine wU 15 ?_;refine wU 16 ?_;refine wU 17 ?_;refine wU 18 ?_;refine wU 19 ?_;refine wU 20 ?_;refine wU 21 ?_;refine wU 22 ?_;refine wU 23 ?_
      refine wU 24 ?_;refine wU 25 ?_;refine wU 26 ?_;refine wU 27 ?_;refine wpAnyH_done (by kernel_rfl) ?_ _;clear hHeld;go_wp2_with fail;go_ret;exact HE.out _ (zg w4)
    ·have HE:Hid (∀ W,Below w4.heap.size w4 W -> df w W (.returned (.bool false)) (f0 p.P ⟨(y:Int),lo,hi⟩)):=fun W hW=>⟨false,rfl,⟨fun h=>(by cases h),fun h=>absurd (by have:=(HI.out.2 h).2.1;rwa [Hs.out] at this) e1⟩,fR.out.trans (hW.mono fR.out.size)⟩
     have eb:((s.rep:Int) == (y:Int))=false:=by rw [beq_eq_false_iff_ne];exact e1
     clear e1;go_upto_region 4 with fail;refine wp_region_held_drew (S:=fun W=>W.cell? ⟨g1,1,none⟩=some (.slice (some ⟨b1,o1,none⟩) p.cn p.cc)/\W.cell? ⟨g1+1,0,none⟩=some (.int .i64 (y:Int))/\W.cell? ⟨g1+1,1,none⟩=some (.int .i64 lo)/\W.cell? ⟨b1,o1+i * 3,none⟩=some (.int .i64 s.rep)/\W.cell? ⟨b1,o1+i * 3+1,none⟩=some (.int .i64 s.lo)) (by kernel_rfl) (BT.out _ (zg w4)) (fun hHeld=>?_);refine wU 0 ?_;refine wU 1 ?_;refine wU 2 ?_;refine wU 3 ?_;refine wU 4 ?_;refine wU 5 ?_;refine wU 6 ?_;refine wU 7 ?_;refine wU 8 ?_;refine wU 9 ?_;refine wU 10 ?_;refine wU 11 ?_;refine wU 12 ?_;refine wU 13 ?_;refine wU 14 ?_;refine wU 15 ?_;refine wU 16 ?_;refine wV 17 ?_;refine wV 18 ?_;refine wV 19 ?_;refine wV 20 ?_;refine wV 21 ?_;refine wV 22 ?_;refine wV 23 ?_;refine wV 24 ?_;refine wV 25 ?_;refine wU 26 ?_;refine wU 27 ?_
     refine wpAnyH_done (by kernel_rfl) ?_ _;clear hHeld;go_wp2_with fail;go_ret;exact HE.out _ (zg w4)
   ·have cL:¬ (i:Int) < (p.cn:Int):=by omega
    have HE:Hid (∀ W,Below w4.heap.size w4 W -> df w W (.returned (.bool false)) (f0 p.P ⟨(y:Int),lo,hi⟩)):=fun W hW=>⟨false,rfl,⟨fun h=>(by cases h),fun h=>absurd (HI.out.2 h).1 ak⟩,fR.out.trans (hW.mono fR.out.size)⟩;go_upto_region 4 with fail;refine wp_region_held_drew (S:=fun W=>W.cell? ⟨g1,1,none⟩=some (.slice p.co p.cn p.cc)/\W.cell? ⟨g1+1,0,none⟩=some (.int .i64 (y:Int))/\W.cell? ⟨g1+1,1,none⟩=some (.int .i64 lo)) (by kernel_rfl) (KJ.out _ (zg w4)) (fun hHeld=>?_);refine wU 0 ?_;refine wU 1 ?_;refine wU 2 ?_;refine wU 3 ?_;refine wU 4 ?_;refine wU 5 ?_;refine wV 6 ?_;refine wV 7 ?_;refine wV 8 ?_;refine wV 9 ?_;refine wV 10 ?_;refine wV 11 ?_;refine wV 12 ?_;refine wV 13 ?_;refine wV 14 ?_;refine wU 15 ?_;refine wU 16 ?_;refine wV 17 ?_;refine wV 18 ?_;refine wV 19 ?_;refine wV 20 ?_;refine wV 21 ?_
    refine wV 22 ?_;refine wV 23 ?_;refine wV 24 ?_;refine wV 25 ?_;refine wU 26 ?_;refine wU 27 ?_;refine wpAnyH_done (by kernel_rfl) ?_ _;clear hHeld;go_wp2_with fail;go_ret;exact HE.out _ (zg w4)
end
section
open Go.RowKit Go.Shelf
def wiP (A P:Pst):Prop:=∀ r,r < 16 -> ∀ n,mem (ae A r) n -> mem (ae P r) n
def Bq (c:Sn):Prop:=∃ y:Nat,y < 16/\c.rep=(y:Int)/\1 <= c.lo/\c.lo <= c.hi/\c.hi <= 1000000000
abbrev So:={c:Sn // Bq c}
instance:Inhabited So:=⟨⟨⟨0,1,1⟩,0,by decide,rfl,by decide,by decide,by decide⟩⟩
open Classical in
noncomputable def outB (P:Pst) (c:Sn):Bool:=decide (¬ f0 P c)
theorem zcS {A:Pst} (h:aj A):A.vec.length <= 16/\∀ j,j < 16 -> 0 <= A.vec.getD j 0/\A.vec.getD j 0 <= 1000000000:=by
 refine ⟨?_,fun j hj=>by rw [zhm h j hj];exact V.zda _ _⟩;rw [h.1,V.zR];exact V.vI _
theorem zeY {A:Pst} (h:aj A):∀ c∈A.cloud,Bq c:=fun c hc=>by
 obtain ⟨b,s⟩:=vf _ _ h.2 c hc;have h1:=s.isr;have h2:=s.lead;have h3:=V.zfu A.vec c.rep;have h4:=s.ord;have h5:=s.top;simp [V.isR] at h1;exact ⟨c.rep.toNat,by omega,by omega,by omega,h4,h5⟩
theorem ziL {A P:Pst} (h:aj A):wiP A P↔(∀ j,j < A.vec.length -> 0 < A.vec.getD j 0 -> f0 P ⟨(j:Int),1,A.vec.getD j 0⟩)/\∀ c∈A.cloud,f0 P c:=by
 obtain ⟨v1,v2⟩:=zcS h;constructor
 ·intro q;refine ⟨fun j hj hz m h1 h2=>?_,fun c hc m h1 h2=>?_⟩
  ·have h1:1 <= m:=h1;have h2:m <= A.vec.getD j 0:=h2;have hv:=v2 j (by omega)
   show mem (ae P (j:Int).toNat) m
   rw [Int.toNat_natCast];exact q j (by omega) m ((jd A j (by omega) m).2 ⟨h1,by omega,.inl h2⟩)
  ·obtain ⟨y,hy,e,k1,k2,k3⟩:=zeY h c hc;rw [e,Int.toNat_natCast];exact q y hy m ((jd A y hy m).2 ⟨by omega,by omega,.inr ⟨c,hc,e,h1,h2⟩⟩)
 ·rintro ⟨q1,q2⟩ r hr n hn;rw [jd A r hr n] at hn;obtain ⟨n1,n2,n3 | ⟨c,hc,e,n4,n5⟩⟩:=hn
  ·have hl:r < A.vec.length:=by
    rcases Nat.lt_or_ge r A.vec.length with k | k
    ·exact k
    ·rw [List.getD_eq_getElem?_getD,List.getElem?_eq_none k] at n3;have n3:n <= 0:=n3;omega
   have:=q1 r hl (by omega) n n1 n3;rwa [show (⟨(r:Int),1,A.vec.getD r 0⟩:Sn).rep.toNat=r from Int.toNat_natCast r] at this
  ·have:=q2 c hc n n4 n5;rwa [e,Int.toNat_natCast] at this
attribute [local go_sem ↓] zq zp xT jn zhc zeg
attribute [local go_sem] zi zj qB qY
theorem zgk (g:Nat) (c:So) (p:Pv) (w:World) (hd:aA w g p) (hS:am w p) (hf:aj p.P):Calls Tryz.prog 115 #[SV c.1,.pointer (some ⟨g,0,none⟩)] w fun e w'=>e = .returned (.bool (outB p.P c.1))/\Below w.heap.size w w':=by
 obtain ⟨⟨rp,lo,hi⟩,y,hy,e,h1,h2,h3⟩:=c;have e:rp=(y:Int):=e;subst e;have h1:1 <= lo:=h1;have h2:lo <= hi:=h2;have h3:hi <= 1000000000:=h3
 show Calls Tryz.prog 115 #[SV ⟨(y:Int),lo,hi⟩,.pointer (some ⟨g,0,none⟩)] w fun e w'=>e = .returned (.bool (outB p.P ⟨(y:Int),lo,hi⟩))/\Below w.heap.size w w'
 have b1:=ze w (.cells (SC ⟨(y:Int),lo,hi⟩) 104);have x1:=qH w ⟨(y:Int),lo,hi⟩;obtain ⟨w1,cR⟩:∃ w1,w.alloc (.cells (SC ⟨(y:Int),lo,hi⟩) 104)=w1:=⟨_,rfl⟩;rw [cR] at b1 x1;have HB:=hide b1;have HS:=hide (hS.below b1);have HF:=hide hf;have gO:Hid (y < 16/\1 <= lo/\lo <= hi/\hi <= 1000000000):=⟨hy,h1,h2,h3⟩
 have lp:=zl (hd.below b1).at
 have ls:=qk x1.sn;clear b1 x1 hd hS hf h1 h2 h3 hy;go_enter Tryz.func115,Tryz.ntmps115;go_wp2_with fail;clear cR lp ls;refine (zbi p y lo hi _ HS.out HF.out gO.out.1 gO.out.2.1 gO.out.2.2.1 gO.out.2.2.2).mono ?_;rintro e w2 ⟨b,rfl,hb,b2⟩
 have HE:Hid ((!b)=outB p.P ⟨(y:Int),lo,hi⟩/\Below w.heap.size w w2):=⟨by
  unfold outB
  cases b with
  | true=>simp [hb.1 rfl]
  | false =>
   have:¬ f0 p.P ⟨(y:Int),lo,hi⟩:=fun q=>by have:=hb.2 q;cases this
   simp [this],HB.out.trans (b2.mono HB.out.size)⟩
 clear hb b2;go_wp2_with fail;go_ret;exact ⟨zu HE.out.1,HE.out.2⟩
theorem zgK (ao:Option Addr) (n cap:Nat) (L:List Sn) (g:Nat) (p:Pv) (w:World) (hS:cN w ao n cap L) (hL:∀ c∈L,Bq c) (hd:aA w g p) (hp:am w p) (hf:aj p.P) :
  Calls Tryz.prog 63 #[.slice ao n cap,.func (.func 115) #[] #[.pointer (some ⟨g,0,none⟩)]] w fun e w'=>e = .returned (.bool (L.any (outB p.P)))/\Below w.heap.size w w':=by
 by_cases hn:n=0
 ·subst hn;have e:=List.eq_nil_of_length_eq_zero hS.len;subst e;refine (zc2 ao cap _ w).mono ?_;rintro e w' ⟨rfl,rfl⟩;exact ⟨rfl,Below.refl _ _⟩
 ·obtain ⟨ad,rfl,A0⟩:=hS.at 0 (by omega);obtain ⟨b,o,rfl⟩:=hS.spot (by omega);have eg:∀ args w,(callFunc 115 args).run Tryz.prog w = .ok (.enter 115 args) w:=enters_of Tryz.func115 (by kernel_rfl) rfl;have h0:=World.block_lt_of_cell? _ _ A0.c0;rw [zs] at h0;obtain ⟨M,hM⟩:∃ M:List So,M=L.pmap Subtype.mk hL:=⟨_,rfl⟩
  have IO:M.length=L.length:=by rw [hM,List.length_pmap]
  have h:=AnyQ.slices_ContainsFunc Tryz.conS 3 Tryz.isAgg104 Tryz.sizeOf104 (fun c:So=>oC c.1) (fun _=>rfl) (fun c:So=>outB p.P c.1) 115 #[.pointer (some ⟨g,0,none⟩)] eg b o n cap M w
   (fun W r hb=>(zgk g r p W (hd.below hb) (hp.below hb) hf).mono fun e w' ⟨he,hb'⟩=>⟨he,hb.trans (hb'.mono hb.size)⟩)
   (by rw [IO,hS.len];exact Nat.le_refl _) (by have:=hS.big;omega) h0
   (fun j hj i v hv=>by
    have gt:j < L.length:=by rw [<- IO];exact hj
    have A:=hS.cell _ rfl j (by rw [<- hS.len];exact gt)
    have e:(M[j]!).1=L.getD j sn0:=by
     rw [getElem!_pos M j hj];subst hM;rw [List.getElem_pmap];simp [List.getD,gt]
    simp only [e] at hv;have q0:=A.c0;have q1:=A.c1;have q2:=A.c2;rw [Addr.add_lit] at q0 q1 q2;rw [Addr.add_lit] at q1 q2
    match i,hv with
    | 0,hv=>rw [<- hv];exact q0
    | 1,hv=>rw [<- hv];exact q1
    | 2,hv=>rw [<- hv];exact q2
    | i+3,hv=>simp [oC,SC] at hv)
  rw [List.take_of_length_le (by rw [IO,hS.len];exact Nat.le_refl _)] at h
  have ea:M.any (fun c:So=>outB p.P c.1)=L.any (outB p.P):=by
   rw [Bool.eq_iff_iff,List.any_eq_true,List.any_eq_true];subst hM;constructor
   ·rintro ⟨x,hx,h⟩;obtain ⟨c,hc,rfl⟩:=List.mem_pmap.1 hx;exact ⟨c,hc,h⟩
   ·rintro ⟨c,hc,h⟩;exact ⟨⟨c,hL c hc⟩,List.mem_pmap.2 ⟨c,hc,rfl⟩,h⟩
  rw [<- ea];exact h
theorem zby (a p:Pv) (w:World) (hA:am w a) (hS:am w p) (ha:aj a.P) (hf:aj p.P) :
  Calls Tryz.prog 68 #[PV a,PV p] w fun e w'=>df w w' e (wiP a.P p.P):=by
 have b1:=ze w (.cells (PC a) 26);have x1:=zr w a;have s1:=World.size_alloc w (.cells (PC a) 26);obtain ⟨w1,cR⟩:∃ w1,w.alloc (.cells (PC a) 26)=w1:=⟨_,rfl⟩;obtain ⟨g1,cT⟩:∃ g1,w.heap.size=g1:=⟨_,rfl⟩;rw [cR] at b1 x1 s1;rw [cT] at x1 s1;have b2:=ze w1 (.cells (PC p) 26);have x2:=zr w1 p;obtain ⟨w2,fi⟩:∃ w2,w1.alloc (.cells (PC p) 26)=w2:=⟨_,rfl⟩;rw [fi] at b2 x2;rw [s1] at x2;have HB:=hide (b1.trans (b2.mono b1.size));have HX:Hid (aA w2 g1 a/\aA w2 (g1+1) p):=⟨x1.below b2,x2⟩;have HA:=hide (hA.below HB.out);have HS:=hide (hS.below HB.out);have HF:Hid (aj a.P/\aj p.P):=⟨ha,hf⟩;have mY:Hid (a.P.vec.length=a.vn):=hA.vec.1
 have Df:Hid (a.vn <= 16/\∀ j,j < 16 -> 0 <= a.P.vec.getD j 0/\a.P.vec.getD j 0 <= 1000000000):=by rw [<- mY.out];exact zcS ha
 have HW:=hide (ziL (P:=p.P) ha);have k0:=(HX.out.1).nums.1;clear b1 b2 x1 x2 hA hS ha hf;go_enter Tryz.func68,Tryz.ntmps68;go_wp2_with fail;clear cR fi s1 cT k0;go_loopw [5,6,10] (fun _ _ i wr=>∃ k:Nat,k <= a.vn/\i = .int .i64 (k:Int)/\Hid (Below w2.heap.size w2 wr/\∀ j,j < k -> 0 < a.P.vec.getD j 0 -> f0 p.P ⟨(j:Int),1,a.P.vec.getD j 0⟩)) (fun _ _ i _=>a.vn - (intOf i).toNat)
 case atStart=>exact ⟨0,Nat.zero_le _,rfl,Below.refl _ _,fun j hj=>by omega⟩
 case round =>
  obtain ⟨k,hk,rfl,HI⟩:=hrel
  rename World=>wr
  have MW:=Df.out.1;by_cases ak:k < a.vn
  ·have cL:(k:Int) < (a.vn:Int):=by omega
   obtain ⟨ad,eO,cz⟩:=qF (HA.out.below HI.out.1).vec k ak;obtain ⟨z,Hz⟩:∃ z,Hid (a.P.vec.getD k 0=z):=⟨_,rfl⟩;rw [Hz.out] at cz;have CR:=hide eO;have cw:=hide ak
   have Dr:Hid (0 <= z/\z <= 1000000000):=by rw [<- Hz.out];exact Df.out.2 k (by omega)
   have lp:=zl (HX.out.2.below HI.out.1).at
   rw [eO];by_cases hz:0 < z
   ·clear eO;go_wp2_with fail;clear cz lp;refine (zbi p k 1 z _ (HS.out.below HI.out.1) HF.out.2 (by have:=cw.out;omega) (Int.le_refl _) (by omega) Dr.out.2).mono ?_;rintro e w3 ⟨b,rfl,hb,b3⟩;have aB:=hide (HI.out.1.trans (b3.mono HI.out.1.size))
    cases b with
    | true =>
     have HN:Hid (∀ j,j < k+1 -> 0 < a.P.vec.getD j 0 -> f0 p.P ⟨(j:Int),1,a.P.vec.getD j 0⟩):=fun j hj hp=>by
      by_cases e:j=k
      ·subst e;rw [Hz.out];exact hb.1 rfl
      ·exact HI.out.2 j (by omega) hp
     clear hb b3;go_wp2_with fail;go_roundw
     case rel=>exact ⟨k+1,cw.out,by simp,aB.out,HN.out⟩
     case measure=>simp [intOf];have:=cw.out;omega
    | false =>
     have HE:Hid (df w w3 (.returned (.bool false)) (wiP a.P p.P)):=⟨false,rfl,⟨fun h=>(by cases h),fun q=>by
      have:=(HW.out.1 q).1 k (by rw [mY.out];exact cw.out) (by rw [Hz.out];exact hz);rw [Hz.out] at this;have:=hb.2 this
      cases this⟩,HB.out.trans (aB.out.mono HB.out.size)⟩
     clear hb b3;go_wp2_with fail;go_ret;exact HE.out
   ·have HN:Hid (∀ j,j < k+1 -> 0 < a.P.vec.getD j 0 -> f0 p.P ⟨(j:Int),1,a.P.vec.getD j 0⟩):=fun j hj hp=>by
     by_cases e:j=k
     ·subst e;rw [Hz.out] at hp;exact absurd hp hz
     ·exact HI.out.2 j (by omega) hp
    clear eO;go_wp2_with fail;clear cz lp;go_roundw
    case rel=>exact ⟨k+1,cw.out,by simp,HI.out.1,HN.out⟩
    case measure=>simp [intOf];have:=cw.out;omega
  ·have cL:¬ (k:Int) < (a.vn:Int):=by omega
   have k1:=(HX.out.1.below HI.out.1).nums.2;have HV:Hid (∀ j,j < a.P.vec.length -> 0 < a.P.vec.getD j 0 -> f0 p.P ⟨(j:Int),1,a.P.vec.getD j 0⟩):=fun j hj hp=>HI.out.2 j (by rw [mY.out] at hj;omega) hp;go_wp2_with fail;clear k1;refine (zgK a.co a.cn a.cc a.P.cloud _ p _ (HA.out.below HI.out.1).cloud (zeY HF.out.1) (HX.out.2.below HI.out.1) (HS.out.below HI.out.1) HF.out.2).mono ?_;rintro e w3 ⟨rfl,b3⟩
   have HE:Hid (df w w3 (.returned (.bool (!(a.P.cloud.any (outB p.P))))) (wiP a.P p.P)):=⟨_,rfl,by
    rw [HW.out,Bool.not_eq_true',Bool.eq_false_iff,ne_eq,List.any_eq_true];constructor
    ·intro q;refine ⟨HV.out,fun c hc=>Classical.byContradiction fun n=>q ⟨c,hc,by unfold outB;simp [n]⟩⟩
    ·rintro ⟨-,q⟩ ⟨c,hc,h⟩;unfold outB at h;simp at h
     exact h (q c hc),HB.out.trans ((HI.out.1.trans (b3.mono HI.out.1.size)).mono HB.out.size)⟩
   clear b3;generalize a.P.cloud.any (outB p.P)=x at HE ⊢;go_wp2_with fail;go_ret;exact HE.out
end
section

def tin (t:List Int) (n:Int):Bool:=decide (cnt t n % 2=1)
def rul (k:Int) (x y:Bool):Bool:=(k == 1 && x && y) || (k == 2 && x && !y)
structure CbI (k:Int) (A B:List Int) (i j:Nat) (t:List Int) (b:Bool):Prop where
 hi:i <= A.length
 hj:j <= B.length
 tr:t.Pairwise (· < ·)
 tl:∀ x,x∈t -> x∈A.take i++B.take j
 lt:∀ x,x∈A.take i++B.take j -> ∀ y,y∈A.drop i++B.drop j -> x < y
 ev:∀ n,tin t n=rul k (tin (A.take i) n) (tin (B.take j) n)
 nw:b=decide (t.length % 2=1)
def nI (k:Int) (a b c:List Rn):Prop:=form 1 c/\∀ n,mem c n↔((k=1/\mem a n/\mem b n)∨(k=2/\mem a n/\¬ mem b n))
end
end Go.Proofs.YtjffpimfngdggaaGreat
