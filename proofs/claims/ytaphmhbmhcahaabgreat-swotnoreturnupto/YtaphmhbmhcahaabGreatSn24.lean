/- HBs HPn -/
import Derived.Test.YtaphmhbmhcahaabGreatTk
import Derived.Test.YtaphmhbmhcahaabGreatSn14
import Derived.Test.YtaphmhbmhcahaabGreatSn23
import Derived.Deep.CutRange
import Derived.Test.YtaphmhbmhcahaabGreatSn16
import Derived.Test.YtaphmhbmhcahaabGreatSn09
set_option maxRecDepth 100000
set_option maxHeartbeats 3200000
namespace Go.Proofs.YtaphmhbmhcahaabGreat
section
open Go.RowKit
attribute [local go_sem ↓] ldS_eq stS_eq ldD_eq stD_eq
attribute [local go_sem] zero_SC cells_SV SC_size
variable {w w' w2 W W' : World} {g : Nat}

theorem bsS_any (ao:Option Addr) (n cap:Nat) (L:List Sn) (t:Sn) (w:World) (hS:SSrc w ao n cap L) (hm:∀ a b,a <= b -> b < n -> nrC (L.getD b sn0) ⟨t.rep,t.hi⟩ < 0 -> nrC (L.getD a sn0) ⟨t.rep,t.hi⟩ < 0) :
  Calls Tryz.prog 122 #[.slice ao n cap,SV t,.func (.func 123) #[] #[]] w fun e w'=>BsA w w' e L ⟨t.rep,t.hi⟩ n:=by
 have hcf:∀ (args:Array Value) (w:World),(callFunc 123 args).run Tryz.prog w = .ok (.enter 123 args) w:=fun _ _=>rfl;have b1:=below_new w (.cells (SC t) 93);have x1:=sbox_new w t;obtain ⟨w1,hw1⟩:∃ w1,w.alloc (.cells (SC t) 93)=w1:=⟨_,rfl⟩;obtain ⟨g1,hg1⟩:∃ g1,w.heap.size=g1:=⟨_,rfl⟩;rw [hw1] at b1 x1;rw [hg1] at x1;have HB1:=hide b1;have HX:Hid (SBox w1 g1 t/\SSrc w1 ao n cap L):=⟨x1,hS.below b1⟩;have hnb:n <= 5864062014805:=hS.big;have HM:=hide hm;clear b1 x1 hS hm;go_enter Tryz.func122,Tryz.ntmps122;go_wp2_with fail;clear hw1 hg1;go_loopw [9,10] (fun a b wr=>∃ (lo hi:Nat),a = .int .i64 (lo:Int)/\b = .int .i64 (hi:Int)/\lo <= hi/\hi <= n/\Hid (Below w1.heap.size w1 wr/\(∀ j,j < lo -> nrC (L.getD j sn0) ⟨t.rep,t.hi⟩ < 0)/\(hi < n -> 0 <= nrC (L.getD hi sn0) ⟨t.rep,t.hi⟩))) (fun a b _=>(intOf b).toNat - (intOf a).toNat)
 case atStart=>exact ⟨0,n,rfl,rfl,Nat.zero_le _,Nat.le_refl _,Below.refl _ _,(fun j hj=>by omega),fun h=>by omega⟩
 case round =>
  obtain ⟨lo,hi,rfl,rfl,hlh,hhn,HI⟩:=hrel
  rename World=>wr
  by_cases hlt:lo < hi
  ·have hlti:(lo:Int) < (hi:Int):=by omega
   obtain ⟨h,hh⟩:∃ h:Nat,(lo+hi) / 2=h:=⟨_,rfl⟩
   have hlb:lo <= 5864062014805:=by omega
   have hhb:hi <= 5864062014805:=by omega
   obtain ⟨u,ht⟩:∃ u:Nat,lo+hi=u:=⟨_,rfl⟩
   have et:(lo:Int)+(hi:Int)=(u:Int):=by omega
   have e2:(u:Int) / 2=(h:Int):=by omega
   have e3:u / 2=h:=by omega
   have HH:Hid (lo <= h/\h < hi/\h < n):=⟨by omega,by omega,by omega⟩
   have htb:u <= 20000000000000:=by omega
   obtain ⟨ad,rfl,A0⟩:=(HX.out.2.below HI.out.1).at h HH.out.2.2;obtain ⟨s,Hs⟩:∃ s,Hid (L.getD h sn0=s):=⟨_,rfl⟩
   have HSt:Hid (∀ W,Below wr.heap.size wr W -> (ldS (.pointer (some (ad.add (h * 3))))).run Tryz.prog W = .ok (SV s) W/\(ldS (.pointer (some ⟨g1,0,none⟩))).run Tryz.prog W = .ok (SV t) W):=fun W hW=>by
    obtain ⟨ad',e',A1⟩:=((HX.out.2.below HI.out.1).below hW).at h HH.out.2.2;obtain rfl:=Option.some.inj e';rw [Hs.out] at A1;exact ⟨run_ldS A1,run_ldS ((HX.out.1.below HI.out.1).below hW).sn⟩
   have hhi:(h:Int) < (n:Int):=by have:=HH.out;omega
   clear A0 hh ht;go_upto_region 5 with fail;clear et e2 e3;refine wp_region_held_drew (S:=fun W=>(ldS (.pointer (some (ad.add (h * 3))))).run Tryz.prog W = .ok (SV s) W/\(ldS (.pointer (some ⟨g1,0,none⟩))).run Tryz.prog W = .ok (SV t) W) (by kernel_rfl) (HSt.out _ (below_drew1 wr)) (fun hHeld=>?_);refine wU 0 ?_;refine wU 1 ?_;refine wU 2 ?_;refine wU 3 ?_;refine wU 4 ?_;refine wU 5 ?_;refine wpAnyH_ready (rs:=[6]) (by kernel_rfl) (by simp) (.cons rfl (fun K hK=>?_) .nil);go_simp;go_wp2_with fail;refine (nrS_any s t _).mono ?_;rintro e w3 ⟨rfl,b3⟩;have hB3:Below wr.heap.size wr w3:=(below_drew1 wr).trans b3;have HB3:=hide (HI.out.1.trans (hB3.mono HI.out.1.size));refine hK.out _ _ (HSt.out _ hB3) (fun hHeld=>?_);clear hK K b3 hB3;obtain ⟨z,hz⟩:∃ z,nrC s ⟨t.rep,t.hi⟩=z:=⟨_,rfl⟩;rw [hz];refine wU 7 ?_;refine wpAnyH_done (by kernel_rfl) ?_ _
   clear hHeld;by_cases hz0:z < 0
   ·have HN:Hid (∀ j,j < h+1 -> nrC (L.getD j sn0) ⟨t.rep,t.hi⟩ < 0):=fun j hj=>HM.out j h (by omega) HH.out.2.2 (by rw [Hs.out,hz];exact hz0);clear hz;go_wp2_with fail;go_roundw
    case rel=>exact ⟨h+1,hi,by simp,rfl,by have:=HH.out;omega,hhn,HB3.out,HN.out,HI.out.2.2⟩
    case measure=>simp [intOf];have:=HH.out;omega
   ·have HN:Hid (h < n -> 0 <= nrC (L.getD h sn0) ⟨t.rep,t.hi⟩):=fun _=>by rw [Hs.out,hz];omega
    clear hz;go_wp2_with fail;go_roundw
    case rel=>exact ⟨lo,h,rfl,rfl,HH.out.1,by have:=HH.out;omega,HB3.out,HI.out.2.1,HN.out⟩
    case measure=>simp [intOf];have:=HH.out;omega
  ·have hlti:¬ (lo:Int) < (hi:Int):=by omega
   obtain rfl:lo=hi:=by omega
   have HF:Hid (FirstAt L ⟨t.rep,t.hi⟩ n lo):=⟨hhn,HI.out.2.1,HI.out.2.2⟩;have HBw:=wTr HB1 HI.out.1;by_cases hln:lo < n
   ·have hlni:(lo:Int) < (n:Int):=by omega
    obtain ⟨ad,rfl,A0⟩:=(HX.out.2.below HI.out.1).at lo hln;obtain ⟨s,Hs⟩:∃ s,Hid (L.getD lo sn0=s):=⟨_,rfl⟩
    have HSt:Hid (∀ W,Below wr.heap.size wr W -> (ldS (.pointer (some (ad.add (lo * 3))))).run Tryz.prog W = .ok (SV s) W/\(ldS (.pointer (some ⟨g1,0,none⟩))).run Tryz.prog W = .ok (SV t) W):=fun W hW=>by
     obtain ⟨ad',e',A1⟩:=((HX.out.2.below HI.out.1).below hW).at lo hln;obtain rfl:=Option.some.inj e';rw [Hs.out] at A1;exact ⟨run_ldS A1,run_ldS ((HX.out.1.below HI.out.1).below hW).sn⟩
    clear A0;go_upto_region 8 with fail;refine wp_region_held_drew (S:=fun W=>(ldS (.pointer (some (ad.add (lo * 3))))).run Tryz.prog W = .ok (SV s) W/\(ldS (.pointer (some ⟨g1,0,none⟩))).run Tryz.prog W = .ok (SV t) W) (by kernel_rfl) (HSt.out _ (below_drew1 wr)) (fun hHeld=>?_);refine wU 0 ?_;refine wU 1 ?_;refine wU 2 ?_;refine wU 3 ?_;refine wU 4 ?_;refine wU 5 ?_;refine wU 6 ?_;refine wU 7 ?_;refine wU 8 ?_;refine wU 9 ?_;refine wU 10 ?_;refine wpAnyH_ready (rs:=[11]) (by kernel_rfl) (by simp) (.cons rfl (fun K hK=>?_) .nil);go_simp;go_wp2_with fail;refine (nrS_any s t _).mono ?_;rintro e w3 ⟨rfl,b3⟩;have hB3:Below wr.heap.size wr w3:=(below_drew1 wr).trans b3;have HB3:=wTr HBw hB3;refine hK.out _ _ (HSt.out _ hB3) (fun hHeld=>?_);clear hK K b3 hB3;obtain ⟨z,hz⟩:∃ z,nrC s ⟨t.rep,t.hi⟩=z:=⟨_,rfl⟩;rw [hz];clear hz;refine wU 14 ?_
    refine wU 12 ?_;refine wU 13 ?_;refine wU 15 ?_;refine wpAnyH_done (by kernel_rfl) ?_ _;clear hHeld;go_wp2_with fail;go_ret2;exact ⟨lo,_,rfl,HF.out,HB3.out⟩
   ·have hlni:¬ (lo:Int) < (n:Int):=by omega
    go_upto_region 8 with fail;refine wp_region_held_drew (S:=fun _=>True) (by kernel_rfl) (trivial) (fun hHeld=>?_);refine wU 0 ?_;refine wU 1 ?_;refine wU 2 ?_;refine wU 3 ?_;refine wU 4 ?_;refine wV 5 ?_;refine wV 6 ?_;refine wV 7 ?_;refine wV 8 ?_;refine wV 9 ?_;refine wV 10 ?_;refine wV 11 ?_;refine wV 12 ?_;refine wU 14 ?_;refine wU 13 ?_;refine wU 15 ?_;refine wpAnyH_done (by kernel_rfl) ?_ _;clear hHeld;go_wp2_with fail;go_ret2;exact ⟨lo,_,rfl,HF.out,HBw.out.trans ((below_drew1 wr).mono HBw.out.size)⟩
end
section
open Go.RowKit
theorem chain_mem {Z:List Int}:∀ (L:List Sn) (a:Sn),chain Z a L -> ∀ c∈L,∃ b,StepOk Z b c
 | [],_,_,c,h=>by cases h
 | x :: t,a,h,c,hc=>by
  rcases List.mem_cons.1 hc with rfl | hc
  ·exact ⟨a,h.1⟩
  ·exact chain_mem t x h.2 c hc
def Gp (x y:Sn):Prop:=x.rep < y.rep∨(x.rep=y.rep/\x.hi+2 <= y.lo)
theorem chain_gp {Z:List Int}:∀ (L:List Sn) (a:Sn),chain Z a L -> (∀ y∈L,Gp a y)/\L.Pairwise Gp
 | [],_,_=>⟨fun y h=>(by cases h),List.Pairwise.nil⟩
 | x :: t,a,h=>by
  obtain ⟨h1,h2⟩:=chain_gp t x h.2;have r:=h.1.rep;have o:=h.1.ord;have g:=h.1.gap
  have k:Gp a x:=by
   by_cases e:x.rep=a.rep
   ·exact .inr ⟨e.symm,g e⟩
   ·exact .inl (by omega)
  refine ⟨fun y hy=>?_,List.Pairwise.cons h1 h2⟩;rcases List.mem_cons.1 hy with rfl | hy
  ·exact k
  ·have q:=h1 y hy;unfold Gp at k q ⊢;omega
theorem vec_at {P:Pst} (h:InForm P) (r:Nat) (hr:r < 16):P.vec.getD r 0=V.at' P.vec r:=by
 have:=V.short_getD (V.at' P.vec) r hr;rw [<- h.1] at this;exact this
def spIn (P:Pst) (t:Sn):Prop:=∀ m,t.lo <= m -> m <= t.hi -> mem (runsAt P t.rep.toNat) m
theorem hold_vec {P:Pst} {y:Nat} {lo hi:Int} (hy:y < 16) (h1:1 <= lo) (h3:hi <= 1000000000) (h:hi <= P.vec.getD y 0):spIn P ⟨(y:Int),lo,hi⟩:=fun m h4 h5=>by
 have h4:lo <= m:=h4;have h5:m <= hi:=h5
 show mem (runsAt P (y:Int).toNat) m
 rw [Int.toNat_natCast,mem_runs P y hy];exact ⟨by omega,by omega,.inl (by omega)⟩
theorem hold_iff {P:Pst} (h:InForm P) {n i y:Nat} {lo hi:Int} (hl:P.cloud.length=n) (hy:y < 16) (h1:1 <= lo) (h2:lo <= hi) (h3:hi <= 1000000000) (hF:FirstAt P.cloud ⟨(y:Int),hi⟩ n i) (hv:P.vec.getD y 0 < hi) :
  (i < n/\(P.cloud.getD i sn0).rep=(y:Int)/\(P.cloud.getD i sn0).lo <= lo)↔spIn P ⟨(y:Int),lo,hi⟩:=by
 have key:∀ m,mem (runsAt P y) m↔1 <= m/\m <= 1000000000/\(m <= P.vec.getD y 0∨∃ c,c∈P.cloud/\c.rep=(y:Int)/\c.lo <= m/\m <= c.hi):=fun m=>mem_runs P y hy m;constructor
 ·rintro ⟨k1,k2,k3⟩ m h4 h5;have h4:lo <= m:=h4;have h5:m <= hi:=h5
  show mem (runsAt P (y:Int).toNat) m
  have hn:=hF.2.2 k1;have hneg:=nrC_neg (P.cloud.getD i sn0) ⟨(y:Int),hi⟩
  have hn2:¬ ((P.cloud.getD i sn0).rep < (y:Int)∨((P.cloud.getD i sn0).rep=(y:Int)/\(P.cloud.getD i sn0).hi < hi)):=fun q=>by have:=hneg.2 q;omega
  rw [Int.toNat_natCast,key m];refine ⟨by omega,by omega,.inr ⟨P.cloud.getD i sn0,?_,k2,by omega,by omega⟩⟩;rw [List.getD_eq_getElem?_getD,List.getElem?_eq_getElem (by omega)];exact List.getElem_mem _
 ·intro q
  have q:∀ m,lo <= m -> m <= hi -> mem (runsAt P y) m:=fun m a b=>by have:=q m a b;rwa [show (⟨(y:Int),lo,hi⟩:Sn).rep.toNat=y from Int.toNat_natCast y] at this
  have hd:dotIn P ⟨(y:Int),hi⟩:=by
   rw [dotIn_iff];have:=(key hi).1 (q hi h2 (Int.le_refl _));exact ⟨by show (0:Int) <= (y:Int);omega,by show (y:Int) < 16;omega,this.1,this.2.1,by show hi <= P.vec.getD (y:Int).toNat 0∨_;rw [Int.toNat_natCast];exact this.2.2⟩
  have hd2:=(near_in h hl hF).2 hd;rw [dotIn_iff] at hd2;obtain ⟨-,-,-,-,hd3 | ⟨c,hc,e1,e2,e3⟩⟩:=hd2
  ·have hd3:hi <= P.vec.getD (y:Int).toNat 0:=hd3;rw [Int.toNat_natCast] at hd3;omega
  ·have e1:c.rep=(y:Int):=e1;have e2:c.lo <= hi:=e2;have e3:hi <= c.hi:=e3
   have hin:i < n:=by
    rcases Nat.lt_or_ge i n with q | q
    ·exact q
    ·rw [List.drop_eq_nil_of_le (by omega)] at hc;cases hc
   have hci:c=P.cloud.getD i sn0:=by
    rw [List.drop_eq_getElem_cons (by omega),List.take_succ_cons,List.take_zero] at hc;rw [List.mem_singleton.1 hc,List.getD_eq_getElem?_getD,List.getElem?_eq_getElem (by omega)];rfl
   refine ⟨hin,by rw [<- hci];exact e1,?_⟩;rw [<- hci];rcases Int.lt_or_le lo c.lo with k | k
   ·exfalso;have hm:=(key (c.lo - 1)).1 (q (c.lo - 1) (by omega) (by omega))
    have hcm:c∈P.cloud:=by
     rw [hci,List.getD_eq_getElem?_getD,List.getElem?_eq_getElem (by omega)];exact List.getElem_mem _
    obtain ⟨b,sb⟩:=chain_mem _ _ h.2 c hcm;have hlead:=sb.lead
    have hv2:V.atI P.vec c.rep=P.vec.getD y 0:=by
     rw [e1,vec_at h y hy];unfold V.atI;simp [V.isR];omega
    rw [hv2] at hlead;rcases hm.2.2 with hm3 | ⟨c2,hc2,r1,r2,r3⟩
    ·omega
    ·obtain ⟨-,gp⟩:=chain_gp _ _ h.2;obtain ⟨u,hu,rfl⟩:=List.getElem_of_mem hcm;obtain ⟨v,hv3,rfl⟩:=List.getElem_of_mem hc2;rcases Nat.lt_trichotomy u v with q | q | q
     ·have:=List.pairwise_iff_getElem.1 gp u v hu hv3 q;have o:=(chain_mem _ _ h.2 _ (List.getElem_mem hu)).choose_spec.ord;unfold Gp at this;omega
     ·subst q;omega
     ·have:=List.pairwise_iff_getElem.1 gp v u hv3 hu q;unfold Gp at this;omega
   ·exact k
end
end Go.Proofs.YtaphmhbmhcahaabGreat
