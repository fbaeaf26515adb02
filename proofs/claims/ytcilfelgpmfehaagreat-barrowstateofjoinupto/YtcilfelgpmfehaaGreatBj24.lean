/- E8 HPn HHo -/
import Derived.Test.YtcilfelgpmfehaaGreatBj23
import Derived.Deep.CutRange
set_option maxRecDepth 100000
set_option maxHeartbeats 3200000
namespace Go.Proofs.YtcilfelgpmfehaaGreat
section
open Go.RowKit
attribute [local go_sem ↓] qX xu qg qf
attribute [local go_sem] qS qi qy
variable {w w' w2 W W' : World} {g : Nat}

theorem zgf (ao:Option Addr) (n cap:Nat) (L:List Sn) (t:Sn) (w:World) (hS:cJ w ao n cap L) (hm:∀ a b,a <= b -> b < n -> nrC (L.getD b sn0) ⟨t.rep,t.hi⟩ < 0 -> nrC (L.getD a sn0) ⟨t.rep,t.hi⟩ < 0) :
  Calls Tryz.prog 135 #[.slice ao n cap,SV t,.func (.func 136) #[] #[]] w fun e w'=>BsA w w' e L ⟨t.rep,t.hi⟩ n:=by
 have IL:∀ (args:Array Value) (w:World),(callFunc 136 args).run Tryz.prog w = .ok (.enter 136 args) w:=fun _ _=>rfl;have b1:=ze w (.cells (SC t) 69);have x1:=qF w t;obtain ⟨w1,dH⟩:∃ w1,w.alloc (.cells (SC t) 69)=w1:=⟨_,rfl⟩;obtain ⟨g1,dx⟩:∃ g1,w.heap.size=g1:=⟨_,rfl⟩;rw [dH] at b1 x1;rw [dx] at x1;have aW:=hide b1;have HX:Hid (cZ w1 g1 t/\cJ w1 ao n cap L):=⟨x1,hS.below b1⟩;have Av:n <= 5864062014805:=hS.big;have HM:=hide hm;clear b1 x1 hS hm;go_enter Tryz.func135,Tryz.ntmps135;go_wp2_with fail;clear dH dx;go_loopw [9,10] (fun a b wr=>∃ (lo hi:Nat),a = .int .i64 (lo:Int)/\b = .int .i64 (hi:Int)/\lo <= hi/\hi <= n/\Hid (Below w1.heap.size w1 wr/\(∀ j,j < lo -> nrC (L.getD j sn0) ⟨t.rep,t.hi⟩ < 0)/\(hi < n -> 0 <= nrC (L.getD hi sn0) ⟨t.rep,t.hi⟩))) (fun a b _=>(intOf b).toNat - (intOf a).toNat)
 case atStart=>exact ⟨0,n,rfl,rfl,Nat.zero_le _,Nat.le_refl _,Below.refl _ _,(fun j hj=>by omega),fun h=>by omega⟩
 case round =>
  obtain ⟨lo,hi,rfl,rfl,Mc,sW,HI⟩:=hrel
  rename World=>wr
  by_cases aq:lo < hi
  ·have dl:(lo:Int) < (hi:Int):=by omega
   obtain ⟨h,hh⟩:∃ h:Nat,(lo+hi) / 2=h:=⟨_,rfl⟩
   have Dp:lo <= 5864062014805:=by omega
   have M6:hi <= 5864062014805:=by omega
   obtain ⟨u,ht⟩:∃ u:Nat,lo+hi=u:=⟨_,rfl⟩
   have et:(lo:Int)+(hi:Int)=(u:Int):=by omega
   have e2:(u:Int) / 2=(h:Int):=by omega
   have e3:u / 2=h:=by omega
   have HH:Hid (lo <= h/\h < hi/\h < n):=⟨by omega,by omega,by omega⟩
   have Lc:u <= 20000000000000:=by omega
   obtain ⟨ad,rfl,A0⟩:=(HX.out.2.below HI.out.1).at h HH.out.2.2;obtain ⟨s,Hs⟩:∃ s,Hid (L.getD h sn0=s):=⟨_,rfl⟩
   have aw:Hid (∀ W,Below wr.heap.size wr W -> (ldS (.pointer (some (ad.add (h * 3))))).run Tryz.prog W = .ok (SV s) W/\(ldS (.pointer (some ⟨g1,0,none⟩))).run Tryz.prog W = .ok (SV t) W):=fun W hW=>by
    obtain ⟨ad',e',A1⟩:=((HX.out.2.below HI.out.1).below hW).at h HH.out.2.2;obtain rfl:=Option.some.inj e';rw [Hs.out] at A1;exact ⟨zS A1,zS ((HX.out.1.below HI.out.1).below hW).sn⟩
   have KM:(h:Int) < (n:Int):=by have:=HH.out;omega
   clear A0 hh ht;go_upto_region 5 with fail;clear et e2 e3;refine wp_region_held_drew (S:=fun W=>(ldS (.pointer (some (ad.add (h * 3))))).run Tryz.prog W = .ok (SV s) W/\(ldS (.pointer (some ⟨g1,0,none⟩))).run Tryz.prog W = .ok (SV t) W) (by kernel_rfl) (aw.out _ (zd wr)) (fun hHeld=>?_);refine wU 0 ?_;refine wU 1 ?_;refine wU 2 ?_;refine wU 3 ?_;refine wU 4 ?_;refine wU 5 ?_;refine wR 6 fun K hK=>?_;go_simp;go_wp2_with fail;refine (zcZ s t _).mono ?_;rintro e w3 ⟨rfl,b3⟩;have gW:Below wr.heap.size wr w3:=(zd wr).trans b3;have aN:=hide (HI.out.1.trans (gW.mono HI.out.1.size));refine hK.out _ _ (aw.out _ gW) (fun hHeld=>?_);clear hK K b3 gW;obtain ⟨z,hz⟩:∃ z,nrC s ⟨t.rep,t.hi⟩=z:=⟨_,rfl⟩;rw [hz];refine wU 7 ?_;refine wD ?_ _
   clear hHeld;by_cases dn:z < 0
   ·have HN:Hid (∀ j,j < h+1 -> nrC (L.getD j sn0) ⟨t.rep,t.hi⟩ < 0):=fun j hj=>HM.out j h (by omega) HH.out.2.2 (by rw [Hs.out,hz];exact dn);clear hz;go_wp2_with fail;go_roundw
    case rel=>exact ⟨h+1,hi,by simp,rfl,by have:=HH.out;omega,sW,aN.out,HN.out,HI.out.2.2⟩
    case measure=>simp [intOf];have:=HH.out;omega
   ·have HN:Hid (h < n -> 0 <= nrC (L.getD h sn0) ⟨t.rep,t.hi⟩):=fun _=>by rw [Hs.out,hz];omega
    clear hz;go_wp2_with fail;go_roundw
    case rel=>exact ⟨lo,h,rfl,rfl,HH.out.1,by have:=HH.out;omega,aN.out,HI.out.2.1,HN.out⟩
    case measure=>simp [intOf];have:=HH.out;omega
  ·have dl:¬ (lo:Int) < (hi:Int):=by omega
   obtain rfl:lo=hi:=by omega
   have HF:Hid (fF L ⟨t.rep,t.hi⟩ n lo):=⟨sW,HI.out.2.1,HI.out.2.2⟩;have eK:=wTr aW HI.out.1;by_cases ou:lo < n
   ·have ub:(lo:Int) < (n:Int):=by omega
    obtain ⟨ad,rfl,A0⟩:=(HX.out.2.below HI.out.1).at lo ou;obtain ⟨s,Hs⟩:∃ s,Hid (L.getD lo sn0=s):=⟨_,rfl⟩
    have aw:Hid (∀ W,Below wr.heap.size wr W -> (ldS (.pointer (some (ad.add (lo * 3))))).run Tryz.prog W = .ok (SV s) W/\(ldS (.pointer (some ⟨g1,0,none⟩))).run Tryz.prog W = .ok (SV t) W):=fun W hW=>by
     obtain ⟨ad',e',A1⟩:=((HX.out.2.below HI.out.1).below hW).at lo ou;obtain rfl:=Option.some.inj e';rw [Hs.out] at A1;exact ⟨zS A1,zS ((HX.out.1.below HI.out.1).below hW).sn⟩
    clear A0;go_upto_region 8 with fail;refine wp_region_held_drew (S:=fun W=>(ldS (.pointer (some (ad.add (lo * 3))))).run Tryz.prog W = .ok (SV s) W/\(ldS (.pointer (some ⟨g1,0,none⟩))).run Tryz.prog W = .ok (SV t) W) (by kernel_rfl) (aw.out _ (zd wr)) (fun hHeld=>?_);refine wU 0 ?_;refine wU 1 ?_;refine wU 2 ?_;refine wU 3 ?_;refine wU 4 ?_;refine wU 5 ?_;refine wU 6 ?_;refine wU 7 ?_;refine wU 8 ?_;refine wU 9 ?_;refine wU 10 ?_;refine wR 11 fun K hK=>?_;go_simp;go_wp2_with fail;refine (zcZ s t _).mono ?_;rintro e w3 ⟨rfl,b3⟩;have gW:Below wr.heap.size wr w3:=(zd wr).trans b3;have aN:=wTr eK gW;refine hK.out _ _ (aw.out _ gW) (fun hHeld=>?_);clear hK K b3 gW;obtain ⟨z,hz⟩:∃ z,nrC s ⟨t.rep,t.hi⟩=z:=⟨_,rfl⟩;rw [hz];clear hz;refine wU 14 ?_
    refine wU 12 ?_;refine wU 13 ?_;refine wU 15 ?_;refine wD ?_ _;clear hHeld;go_wp2_with fail;go_ret2;exact ⟨lo,_,rfl,HF.out,aN.out⟩
   ·have ub:¬ (lo:Int) < (n:Int):=by omega
    go_upto_region 8 with fail;refine wp_region_held_drew (S:=fun _=>True) (by kernel_rfl) (trivial) (fun hHeld=>?_);refine wU 0 ?_;refine wU 1 ?_;refine wU 2 ?_;refine wU 3 ?_;refine wU 4 ?_;refine wV 5 ?_;refine wV 6 ?_;refine wV 7 ?_;refine wV 8 ?_;refine wV 9 ?_;refine wV 10 ?_;refine wV 11 ?_;refine wV 12 ?_;refine wU 14 ?_;refine wU 13 ?_;refine wU 15 ?_;refine wD ?_ _;clear hHeld;go_wp2_with fail;go_ret2;exact ⟨lo,_,rfl,HF.out,eK.out.trans ((zd wr).mono eK.out.size)⟩
end
section
open Go.RowKit
theorem ja {Z:List Int}:∀ (L:List Sn) (a:Sn),chain Z a L -> ∀ c∈L,∃ b,dI Z b c
 | [],_,_,c,h=>by cases h
 | x :: t,a,h,c,hc=>by
  rcases List.mem_cons.1 hc with rfl | hc
  ·exact ⟨a,h.1⟩
  ·exact ja t x h.2 c hc
def Gp (x y:Sn):Prop:=x.rep < y.rep∨(x.rep=y.rep/\x.hi+2 <= y.lo)
theorem bh {Z:List Int}:∀ (L:List Sn) (a:Sn),chain Z a L -> (∀ y∈L,Gp a y)/\L.Pairwise Gp
 | [],_,_=>⟨fun y h=>(by cases h),List.Pairwise.nil⟩
 | x :: t,a,h=>by
  obtain ⟨h1,h2⟩:=bh t x h.2;have r:=h.1.rep;have o:=h.1.ord;have g:=h.1.gap
  have k:Gp a x:=by
   by_cases e:x.rep=a.rep
   ·exact .inr ⟨e.symm,g e⟩
   ·exact .inl (by omega)
  refine ⟨fun y hy=>?_,List.Pairwise.cons h1 h2⟩;rcases List.mem_cons.1 hy with rfl | hy
  ·exact k
  ·have q:=h1 y hy;unfold Gp at k q ⊢;omega
theorem zcu {P:Pst} (h:af P) (r:Nat) (hr:r < 16):P.vec.getD r 0=V.at' P.vec r:=by
 have:=V.jG (V.at' P.vec) r hr;rw [<- h.1] at this;exact this
def fe (P:Pst) (t:Sn):Prop:=∀ m,t.lo <= m -> m <= t.hi -> mem (aa P t.rep.toNat) m
theorem zeB {P:Pst} {y:Nat} {lo hi:Int} (hy:y < 16) (h1:1 <= lo) (h3:hi <= 1000000000) (h:hi <= P.vec.getD y 0):fe P ⟨(y:Int),lo,hi⟩:=fun m h4 h5=>by
 have h4:lo <= m:=h4;have h5:m <= hi:=h5
 show mem (aa P (y:Int).toNat) m
 rw [Int.toNat_natCast,jN P y hy];exact ⟨by omega,by omega,.inl (by omega)⟩
theorem zeC {P:Pst} (h:af P) {n i y:Nat} {lo hi:Int} (hl:P.cloud.length=n) (hy:y < 16) (h1:1 <= lo) (h2:lo <= hi) (h3:hi <= 1000000000) (hF:fF P.cloud ⟨(y:Int),hi⟩ n i) (hv:P.vec.getD y 0 < hi) :
  (i < n/\(P.cloud.getD i sn0).rep=(y:Int)/\(P.cloud.getD i sn0).lo <= lo)↔fe P ⟨(y:Int),lo,hi⟩:=by
 have key:∀ m,mem (aa P y) m↔1 <= m/\m <= 1000000000/\(m <= P.vec.getD y 0∨∃ c,c∈P.cloud/\c.rep=(y:Int)/\c.lo <= m/\m <= c.hi):=fun m=>jN P y hy m;constructor
 ·rintro ⟨k1,k2,k3⟩ m h4 h5;have h4:lo <= m:=h4;have h5:m <= hi:=h5
  show mem (aa P (y:Int).toNat) m
  have hn:=hF.2.2 k1;have E6:=yN (P.cloud.getD i sn0) ⟨(y:Int),hi⟩
  have AG:¬ ((P.cloud.getD i sn0).rep < (y:Int)∨((P.cloud.getD i sn0).rep=(y:Int)/\(P.cloud.getD i sn0).hi < hi)):=fun q=>by have:=E6.2 q;omega
  rw [Int.toNat_natCast,key m];refine ⟨by omega,by omega,.inr ⟨P.cloud.getD i sn0,?_,k2,by omega,by omega⟩⟩;rw [List.getD_eq_getElem?_getD,List.getElem?_eq_getElem (by omega)];exact List.getElem_mem _
 ·intro q
  have q:∀ m,lo <= m -> m <= hi -> mem (aa P y) m:=fun m a b=>by have:=q m a b;rwa [show (⟨(y:Int),lo,hi⟩:Sn).rep.toNat=y from Int.toNat_natCast y] at this
  have hd:cu P ⟨(y:Int),hi⟩:=by
   rw [qB];have:=(key hi).1 (q hi h2 (Int.le_refl _));exact ⟨by show (0:Int) <= (y:Int);omega,by show (y:Int) < 16;omega,this.1,this.2.1,by show hi <= P.vec.getD (y:Int).toNat 0∨_;rw [Int.toNat_natCast];exact this.2.2⟩
  have Ar:=(zc2 h hl hF).2 hd;rw [qB] at Ar;obtain ⟨-,-,-,-,Gf | ⟨c,hc,e1,e2,e3⟩⟩:=Ar
  ·have Gf:hi <= P.vec.getD (y:Int).toNat 0:=Gf;rw [Int.toNat_natCast] at Gf;omega
  ·have e1:c.rep=(y:Int):=e1;have e2:c.lo <= hi:=e2;have e3:hi <= c.hi:=e3
   have C0:i < n:=by
    rcases Nat.lt_or_ge i n with q | q
    ·exact q
    ·rw [List.drop_eq_nil_of_le (by omega)] at hc;cases hc
   have Eh:c=P.cloud.getD i sn0:=by
    rw [List.drop_eq_getElem_cons (by omega),List.take_succ_cons,List.take_zero] at hc;rw [List.mem_singleton.1 hc,List.getD_eq_getElem?_getD,List.getElem?_eq_getElem (by omega)];rfl
   refine ⟨C0,by rw [<- Eh];exact e1,?_⟩;rw [<- Eh];rcases Int.lt_or_le lo c.lo with k | k
   ·exfalso;have hm:=(key (c.lo - 1)).1 (q (c.lo - 1) (by omega) (by omega))
    have fw:c∈P.cloud:=by
     rw [Eh,List.getD_eq_getElem?_getD,List.getElem?_eq_getElem (by omega)];exact List.getElem_mem _
    obtain ⟨b,sb⟩:=ja _ _ h.2 c fw;have Bm:=sb.lead
    have Li:V.atI P.vec c.rep=P.vec.getD y 0:=by
     rw [e1,zcu h y hy];unfold V.atI;simp [V.isR];omega
    rw [Li] at Bm;rcases hm.2.2 with hm3 | ⟨c2,oF,r1,r2,r3⟩
    ·omega
    ·obtain ⟨-,gp⟩:=bh _ _ h.2;obtain ⟨u,hu,rfl⟩:=List.getElem_of_mem fw;obtain ⟨v,Kk,rfl⟩:=List.getElem_of_mem oF;rcases Nat.lt_trichotomy u v with q | q | q
     ·have:=List.pairwise_iff_getElem.1 gp u v hu Kk q;have o:=(ja _ _ h.2 _ (List.getElem_mem hu)).choose_spec.ord;unfold Gp at this;omega
     ·subst q;omega
     ·have:=List.pairwise_iff_getElem.1 gp v u Kk hu q;unfold Gp at this;omega
   ·exact k
end
section
open Go.RowKit
attribute [local go_sem ↓] zl zk qX xu
attribute [local go_sem] zf zh qi qy
def HoB (P:Pst) (y:Nat) (hi:Int) (b:Bool):Prop:=b=true↔hi <= P.vec.getD y 0
theorem zag (p:Pv) (y:Nat) (lo hi:Int) (w:World) (hS:ak w p) (hf:af p.P) (hy:y < 16) (h1:1 <= lo) (h2:lo <= hi) (h3:hi <= 1000000000) :
  Calls Tryz.prog 95 #[PV p,SV ⟨(y:Int),lo,hi⟩] w fun e w'=>eO w w' e (fe p.P ⟨(y:Int),lo,hi⟩):=by
 obtain ⟨t,Ht⟩:∃ t:Sn,Hid (t=⟨(y:Int),lo,hi⟩):=⟨_,rfl⟩;have b1:=ze w (.cells (PC p) 26);have x1:=zq w p;have s1:=World.size_alloc w (.cells (PC p) 26);obtain ⟨w1,dH⟩:∃ w1,w.alloc (.cells (PC p) 26)=w1:=⟨_,rfl⟩;obtain ⟨g1,dx⟩:∃ g1,w.heap.size=g1:=⟨_,rfl⟩;rw [dH] at b1 x1 s1;rw [dx] at x1 s1;have b2:=ze w1 (.cells (SC ⟨(y:Int),lo,hi⟩) 69);have x2:=qF w1 ⟨(y:Int),lo,hi⟩;obtain ⟨w2,eZ⟩:∃ w2,w1.alloc (.cells (SC ⟨(y:Int),lo,hi⟩) 69)=w2:=⟨_,rfl⟩;rw [eZ] at b2 x2;rw [s1] at x2;have HB:=hide (b1.trans (b2.mono b1.size));have HX:Hid (aE w2 g1 p/\cZ w2 (g1+1) ⟨(y:Int),lo,hi⟩):=⟨x1.below b2,x2⟩;have HS:=hide (hS.below HB.out);have HF:=hide hf;have gT:Hid (y < 16/\1 <= lo/\lo <= hi/\hi <= 1000000000):=⟨hy,h1,h2,h3⟩;have CW:Hid (p.P.vec.length=p.vn):=hS.vec.1
 have Ey:Hid (p.P.cloud.length=p.cn):=hS.cloud.len;clear b1 b2 x1 x2 hS hf h1 h2 h3
 have aw:Hid (∀ W,Below w2.heap.size w2 W -> W.cell? ⟨g1,0,none⟩=some (.slice p.vo p.vn p.vc)/\W.cell? ⟨g1+1,0,none⟩=some (.int .i64 (y:Int))/\W.cell? ⟨g1+1,2,none⟩=some (.int .i64 hi)):=fun W hW=>by
  obtain ⟨c0,-,c2⟩:=(HX.out.2.below hW).at
  exact ⟨(HX.out.1.below hW).nums.1,c0,c2⟩
 go_enter Tryz.func95,Tryz.ntmps95;go_upto_region 1 with fail;clear dH eZ s1 dx
 go_cut [23] from 7 to 22 (fun v W=>∃ b:Bool,v = .bool b/\Hid (HoB p.P y hi b/\Below w2.heap.size w2 W))
 case first =>
  by_cases hv:y < p.vn
  ·have MP:(y:Int) < (p.vn:Int):=by omega
   obtain ⟨ad,fl,cz⟩:=vY HS.out.vec y hv;obtain ⟨z,Hz⟩:∃ z,Hid (p.P.vec.getD y 0=z):=⟨_,rfl⟩;rw [Hz.out] at cz;have Bu:=hide fl;have Iu:=hide cz
   have EK:Hid (∀ W,Below w2.heap.size w2 W -> W.cell? ⟨g1,0,none⟩=some (.slice (some ad) p.vn p.vc)/\W.cell? ⟨g1+1,0,none⟩=some (.int .i64 (y:Int))/\W.cell? ⟨g1+1,2,none⟩=some (.int .i64 hi)/\W.cell? (ad.add y)=some (.int .i64 z)):=fun W hW=>by
    obtain ⟨c0,c1,c2⟩:=aw.out W hW;rw [Bu.out] at c0;exact ⟨c0,c1,c2,(hW.cell (World.block_lt_of_cell? _ _ Iu.out)).trans Iu.out⟩
   clear cz fl;refine wp_region_held_drew (S:=fun W=>W.cell? ⟨g1,0,none⟩=some (.slice (some ad) p.vn p.vc)/\W.cell? ⟨g1+1,0,none⟩=some (.int .i64 (y:Int))/\W.cell? ⟨g1+1,2,none⟩=some (.int .i64 hi)/\W.cell? (ad.add y)=some (.int .i64 z)) (by kernel_rfl) (EK.out _ (zd w2)) (fun hHeld=>?_);refine wU 0 ?_;refine wU 1 ?_;refine wU 2 ?_;refine wU 3 ?_;refine wU 4 ?_;refine wU 5 ?_;refine wU 6 ?_;refine wU 7 ?_;refine wU 8 ?_;refine wU 9 ?_;refine wU 10 ?_;refine wU 11 ?_;refine wU 12 ?_;refine wU 13 ?_;refine wU 14 ?_;refine wU 15 ?_;refine wU 16 ?_;refine wD ?_ _;clear hHeld;by_cases hc:hi <= z
   ·have HE:Hid (HoB p.P y hi true/\Below w2.heap.size w2 w2.drew):=⟨⟨fun _=>by rw [Hz.out];exact hc,fun _=>rfl⟩,zd w2⟩;go_wp2_with fail;go_meet
    case rel=>exact ⟨true,by simp [hc],HE.out⟩
   ·have HE:Hid (HoB p.P y hi false/\Below w2.heap.size w2 w2.drew):=⟨⟨fun h=>(by cases h),fun h=>absurd (by rwa [Hz.out] at h) hc⟩,zd w2⟩;go_wp2_with fail;go_meet
    case rel=>exact ⟨false,by simp [hc],HE.out⟩
  ·have MP:¬ (y:Int) < (p.vn:Int):=by omega
   have HE:Hid (HoB p.P y hi false/\Below w2.heap.size w2 w2.drew):=⟨⟨fun h=>(by cases h),fun h=>by
    rw [List.getD_eq_getElem?_getD,List.getElem?_eq_none (by rw [CW.out];omega)] at h;have h:hi <= 0:=h;have:=gT.out
    omega⟩,zd w2⟩
   refine wp_region_held_drew (S:=fun W=>W.cell? ⟨g1,0,none⟩=some (.slice p.vo p.vn p.vc)/\W.cell? ⟨g1+1,0,none⟩=some (.int .i64 (y:Int))/\W.cell? ⟨g1+1,2,none⟩=some (.int .i64 hi)) (by kernel_rfl) (aw.out _ (zd w2)) (fun hHeld=>?_);refine wU 0 ?_;refine wU 1 ?_;refine wU 2 ?_;refine wU 3 ?_;refine wU 4 ?_;refine wU 5 ?_;refine wU 6 ?_;refine wV 7 ?_;refine wV 8 ?_;refine wV 9 ?_;refine wV 10 ?_;refine wV 11 ?_;refine wV 12 ?_;refine wV 13 ?_;refine wV 14 ?_;refine wV 15 ?_;refine wU 16 ?_;refine wD ?_ _;clear hHeld;go_wp2_with fail;go_meet
   case rel=>exact ⟨false,rfl,HE.out⟩
 case rest =>
  obtain ⟨b,rfl,HV⟩:=hcut
  rename World=>w3
  cases b with
  | true =>
   have HE:Hid (eO w w3 (.returned (.bool true)) (fe p.P ⟨(y:Int),lo,hi⟩)):=⟨true,rfl,⟨fun _=>zeB gT.out.1 gT.out.2.1 gT.out.2.2.2 (HV.out.1.1 rfl),fun _=>rfl⟩,HB.out.trans (HV.out.2.mono HB.out.size)⟩;go_wp2_with fail;go_ret;exact HE.out
  | false =>
   have Lw:Hid (¬ hi <= p.P.vec.getD y 0):=fun h=>by have:=HV.out.1.2 h;cases this
   have n1:=(HX.out.1.below HV.out.2).nums.2;have ls:=zS (HX.out.2.below HV.out.2).sn;go_wp2_with fail;clear n1 ls;refine (zgf p.co p.cn p.cc p.P.cloud ⟨(y:Int),lo,hi⟩ _ (HS.out.below HV.out.2).cloud (fun a b dW hb=>zab HF.out _ a b dW (by rw [Ey.out];exact hb))).mono ?_;rintro e w4 ⟨i,q,rfl,hF,b4⟩;have aR:=hide (HV.out.2.trans (b4.mono HV.out.2.size));have HI:=hide (zeC HF.out Ey.out gT.out.1 gT.out.2.1 gT.out.2.2.1 gT.out.2.2.2 hF Lw.out);have C0:i <= p.cn:=hF.1;have Av:p.cn <= 5864062014805:=HS.out.cloud.big
   have JX:Hid (∀ W,Below w4.heap.size w4 W -> W.cell? ⟨g1,1,none⟩=some (.slice p.co p.cn p.cc)/\W.cell? ⟨g1+1,0,none⟩=some (.int .i64 (y:Int))/\W.cell? ⟨g1+1,1,none⟩=some (.int .i64 lo)):=fun W hW=>by
    have Df:=aR.out.trans (hW.mono aR.out.size)
    obtain ⟨c0,c1,-⟩:=(HX.out.2.below Df).at
    exact ⟨(HX.out.1.below Df).nums.2,c0,c1⟩
   have eK:=wTr HB aR.out;clear hF b4;by_cases aq:i < p.cn
   ·have dl:(i:Int) < (p.cn:Int):=by omega
    obtain ⟨ad,fl,A0⟩:=(HS.out.below aR.out).cloud.at i aq;obtain ⟨s,Hs⟩:∃ s,Hid (p.P.cloud.getD i sn0=s):=⟨_,rfl⟩;rw [Hs.out] at A0
    obtain ⟨b1,o1,rfl⟩:∃ b1 o1,ad=⟨b1,o1,none⟩:=by
     have h:=(HS.out.below aR.out).cloud;rw [fl] at h;exact h.spot (by omega)
    rw [Addr.add_lit] at A0;have Bu:=hide fl;have Lj:=hide A0
    have Fi:Hid (∀ W,Below w4.heap.size w4 W -> W.cell? ⟨g1,1,none⟩=some (.slice (some ⟨b1,o1,none⟩) p.cn p.cc)/\W.cell? ⟨g1+1,0,none⟩=some (.int .i64 (y:Int))/\W.cell? ⟨g1+1,1,none⟩=some (.int .i64 lo)/\W.cell? ⟨b1,o1+i * 3,none⟩=some (.int .i64 s.rep)/\W.cell? ⟨b1,o1+i * 3+1,none⟩=some (.int .i64 s.lo)):=fun W hW=>by
     obtain ⟨c0,c1,c2⟩:=JX.out W hW;rw [Bu.out] at c0;have h:=Lj.out.on hW;have h1:=h.c1;rw [Addr.add_lit] at h1;exact ⟨c0,c1,c2,h.c0,h1⟩
    clear A0 fl;by_cases e1:s.rep=(y:Int)
    ·by_cases e2:s.lo <= lo
     ·have HE:Hid (∀ W,Below w4.heap.size w4 W -> eO w W (.returned (.bool true)) (fe p.P ⟨(y:Int),lo,hi⟩)):=fun W hW=>⟨true,rfl,⟨fun _=>HI.out.1 (by rw [Hs.out];exact ⟨aq,e1,e2⟩),fun _=>rfl⟩,eK.out.trans (hW.mono eK.out.size)⟩
      have eb:((s.rep:Int) == (y:Int))=true:=by rw [e1];simp
      have ed:decide (s.lo <= lo)=true:=decide_eq_true e2;clear e1;go_upto_region 4 with fail;refine wp_region_held_drew (S:=fun W=>W.cell? ⟨g1,1,none⟩=some (.slice (some ⟨b1,o1,none⟩) p.cn p.cc)/\W.cell? ⟨g1+1,0,none⟩=some (.int .i64 (y:Int))/\W.cell? ⟨g1+1,1,none⟩=some (.int .i64 lo)/\W.cell? ⟨b1,o1+i * 3,none⟩=some (.int .i64 s.rep)/\W.cell? ⟨b1,o1+i * 3+1,none⟩=some (.int .i64 s.lo)) (by kernel_rfl) (Fi.out _ (zd w4)) (fun hHeld=>?_);refine wU 0 ?_;refine wU 1 ?_;refine wU 2 ?_;refine wU 3 ?_;refine wU 4 ?_;refine wU 5 ?_;refine wU 6 ?_;refine wU 7 ?_;refine wU 8 ?_;refine wU 9 ?_;refine wU 10 ?_;refine wU 11 ?_;refine wU 12 ?_;refine wU 13 ?_;refine wU 14 ?_;refine wU 15 ?_;refine wU 16 ?_;refine wU 17 ?_;refine wU 18 ?_;refine wU 19 ?_;refine wU 20 ?_;refine wU 21 ?_;refine wU 22 ?_;refine wU 23 ?_
      refine wU 24 ?_;refine wU 25 ?_;refine wU 26 ?_;refine wU 27 ?_;refine wD ?_ _;clear hHeld;go_wp2_with fail;go_ret;exact HE.out _ (zd w4)
     ·have HE:Hid (∀ W,Below w4.heap.size w4 W -> eO w W (.returned (.bool false)) (fe p.P ⟨(y:Int),lo,hi⟩)):=fun W hW=>⟨false,rfl,⟨fun h=>(by cases h),fun h=>absurd (by have:=(HI.out.2 h).2.2;rwa [Hs.out] at this) e2⟩,eK.out.trans (hW.mono eK.out.size)⟩
      have eb:((s.rep:Int) == (y:Int))=true:=by rw [e1];simp
      have ed:decide (s.lo <= lo)=false:=decide_eq_false e2;clear e1;go_upto_region 4 with fail;refine wp_region_held_drew (S:=fun W=>W.cell? ⟨g1,1,none⟩=some (.slice (some ⟨b1,o1,none⟩) p.cn p.cc)/\W.cell? ⟨g1+1,0,none⟩=some (.int .i64 (y:Int))/\W.cell? ⟨g1+1,1,none⟩=some (.int .i64 lo)/\W.cell? ⟨b1,o1+i * 3,none⟩=some (.int .i64 s.rep)/\W.cell? ⟨b1,o1+i * 3+1,none⟩=some (.int .i64 s.lo)) (by kernel_rfl) (Fi.out _ (zd w4)) (fun hHeld=>?_);refine wU 0 ?_;refine wU 1 ?_;refine wU 2 ?_;refine wU 3 ?_;refine wU 4 ?_;refine wU 5 ?_;refine wU 6 ?_;refine wU 7 ?_;refine wU 8 ?_;refine wU 9 ?_;refine wU 10 ?_;refine wU 11 ?_;refine wU 12 ?_;refine wU 13 ?_;refine wU 14 ?_;refine wU 15 ?_;refine wU 16 ?_;refine wU 17 ?_;refine wU 18 ?_;refine wU 19 ?_;refine wU 20 ?_;refine wU 21 ?_;refine wU 22 ?_;refine wU 23 ?_
      refine wU 24 ?_;refine wU 25 ?_;refine wU 26 ?_;refine wU 27 ?_;refine wD ?_ _;clear hHeld;go_wp2_with fail;go_ret;exact HE.out _ (zd w4)
    ·have HE:Hid (∀ W,Below w4.heap.size w4 W -> eO w W (.returned (.bool false)) (fe p.P ⟨(y:Int),lo,hi⟩)):=fun W hW=>⟨false,rfl,⟨fun h=>(by cases h),fun h=>absurd (by have:=(HI.out.2 h).2.1;rwa [Hs.out] at this) e1⟩,eK.out.trans (hW.mono eK.out.size)⟩
     have eb:((s.rep:Int) == (y:Int))=false:=by rw [beq_eq_false_iff_ne];exact e1
     clear e1;go_upto_region 4 with fail;refine wp_region_held_drew (S:=fun W=>W.cell? ⟨g1,1,none⟩=some (.slice (some ⟨b1,o1,none⟩) p.cn p.cc)/\W.cell? ⟨g1+1,0,none⟩=some (.int .i64 (y:Int))/\W.cell? ⟨g1+1,1,none⟩=some (.int .i64 lo)/\W.cell? ⟨b1,o1+i * 3,none⟩=some (.int .i64 s.rep)/\W.cell? ⟨b1,o1+i * 3+1,none⟩=some (.int .i64 s.lo)) (by kernel_rfl) (Fi.out _ (zd w4)) (fun hHeld=>?_);refine wU 0 ?_;refine wU 1 ?_;refine wU 2 ?_;refine wU 3 ?_;refine wU 4 ?_;refine wU 5 ?_;refine wU 6 ?_;refine wU 7 ?_;refine wU 8 ?_;refine wU 9 ?_;refine wU 10 ?_;refine wU 11 ?_;refine wU 12 ?_;refine wU 13 ?_;refine wU 14 ?_;refine wU 15 ?_;refine wU 16 ?_;refine wV 17 ?_;refine wV 18 ?_;refine wV 19 ?_;refine wV 20 ?_;refine wV 21 ?_;refine wV 22 ?_;refine wV 23 ?_;refine wV 24 ?_;refine wV 25 ?_;refine wU 26 ?_;refine wU 27 ?_
     refine wD ?_ _;clear hHeld;go_wp2_with fail;go_ret;exact HE.out _ (zd w4)
   ·have dl:¬ (i:Int) < (p.cn:Int):=by omega
    have HE:Hid (∀ W,Below w4.heap.size w4 W -> eO w W (.returned (.bool false)) (fe p.P ⟨(y:Int),lo,hi⟩)):=fun W hW=>⟨false,rfl,⟨fun h=>(by cases h),fun h=>absurd (HI.out.2 h).1 aq⟩,eK.out.trans (hW.mono eK.out.size)⟩;go_upto_region 4 with fail;refine wp_region_held_drew (S:=fun W=>W.cell? ⟨g1,1,none⟩=some (.slice p.co p.cn p.cc)/\W.cell? ⟨g1+1,0,none⟩=some (.int .i64 (y:Int))/\W.cell? ⟨g1+1,1,none⟩=some (.int .i64 lo)) (by kernel_rfl) (JX.out _ (zd w4)) (fun hHeld=>?_);refine wU 0 ?_;refine wU 1 ?_;refine wU 2 ?_;refine wU 3 ?_;refine wU 4 ?_;refine wU 5 ?_;refine wV 6 ?_;refine wV 7 ?_;refine wV 8 ?_;refine wV 9 ?_;refine wV 10 ?_;refine wV 11 ?_;refine wV 12 ?_;refine wV 13 ?_;refine wV 14 ?_;refine wU 15 ?_;refine wU 16 ?_;refine wV 17 ?_;refine wV 18 ?_;refine wV 19 ?_;refine wV 20 ?_;refine wV 21 ?_
    refine wV 22 ?_;refine wV 23 ?_;refine wV 24 ?_;refine wV 25 ?_;refine wU 26 ?_;refine wU 27 ?_;refine wD ?_ _;clear hHeld;go_wp2_with fail;go_ret;exact HE.out _ (zd w4)
end
end Go.Proofs.YtcilfelgpmfehaaGreat
