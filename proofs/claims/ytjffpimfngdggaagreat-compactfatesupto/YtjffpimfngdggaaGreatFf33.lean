import Derived.Deep.CutRange
import Derived.Test.YtjffpimfngdggaaGreatFf32
set_option maxRecDepth 100000
set_option maxHeartbeats 3200000
namespace Go.Proofs.YtjffpimfngdggaaGreat
section
open Go.RowKit

def nrE (s:K.En) (d:Rn):Int:=or2 (az s.rep d.lo) (az s.num d.hi)
theorem ze5 (s:K.En) (d:Rn):nrE s d < 0↔s.rep < d.lo∨(s.rep=d.lo/\s.num < d.hi):=by
 unfold nrE or2 az;by_cases h1:s.rep < d.lo
 ·simp [h1]
 ·by_cases h2:d.lo < s.rep
  ·simp [h1,h2];omega
  ·have h3:s.rep=d.lo:=by omega
   by_cases h4:s.num < d.hi
   ·simp [h3,h4]
   ·by_cases h5:d.hi < s.num <;> simp [h3,h4,h5]
theorem ze6 (s:K.En) (d:Rn) (w:World):Calls Tryz.prog 212 #[K.EV s,RV d] w fun e w'=>e = .returned (.int .i64 (nrE s d))/\Below w.heap.size w w':=by
 have b1:=ze w (.cells (K.EC s) 50);have x1:=K.zQ w 50 s;have s1:=World.size_alloc w (.cells (K.EC s) 50);obtain ⟨w1,cF⟩:∃ w1,w.alloc (.cells (K.EC s) 50)=w1:=⟨_,rfl⟩;obtain ⟨g1,cP⟩:∃ g1,w.heap.size=g1:=⟨_,rfl⟩;rw [cF] at b1 x1 s1;rw [cP] at x1 s1;have b2:=ze w1 (.cells (RC d) 48);have x2:=zQ w1 48 d;obtain ⟨w2,eH⟩:∃ w2,w1.alloc (.cells (RC d) 48)=w2:=⟨_,rfl⟩;rw [eH] at b2 x2;rw [s1] at x2;have HB:=hide (tmq b1 b2);have HX:Hid (K.Box w2 g1 50 s/\Box w2 (g1+1) 48 d):=⟨x1.below b2,x2⟩
 have aB:Hid (∀ W,Below w2.heap.size w2 W -> W.cell? ⟨g1,0,none⟩=some (.int .i64 s.rep)/\W.cell? ⟨g1,1,none⟩=some (.int .i64 s.num)/\W.cell? ⟨g1+1,0,none⟩=some (.int .i64 d.lo)/\W.cell? ⟨g1+1,1,none⟩=some (.int .i64 d.hi)):=fun W hW=>by
  obtain ⟨c0,c2⟩:W.cell? ⟨g1,0,none⟩=some (.int .i64 s.rep)/\W.cell? ⟨g1,1,none⟩=some (.int .i64 s.num):=by
   have A:=(HX.1.below hW).at
   exact ⟨A.c0,A.c1⟩
  have hd:=(HX.2.below hW).at
  exact ⟨c0,c2,hd.c0,hd.c1⟩
 obtain ⟨p,Hp⟩:∃ p,Hid (az s.rep d.lo=p):=⟨_,rfl⟩;obtain ⟨q,Hq⟩:∃ q,Hid (az s.num d.hi=q):=⟨_,rfl⟩
 have HR:Hid (nrE s d=or2 p q):=by show _=_;unfold nrE;rw [Hp.out,Hq.out]
 clear b1 b2 x1 x2;go_enter Tryz.func212,Tryz.ntmps212;go_wp2_with fail;clear cF eH s1 cP;refine wp_region_held_drew (S:=fun W=>W.cell? ⟨g1,0,none⟩=some (.int .i64 s.rep)/\W.cell? ⟨g1,1,none⟩=some (.int .i64 s.num)/\W.cell? ⟨g1+1,0,none⟩=some (.int .i64 d.lo)/\W.cell? ⟨g1+1,1,none⟩=some (.int .i64 d.hi)) (by kernel_rfl) (aB.out _ (zf w2)) (fun hHeld=>?_);refine wU 0 ?_;refine wU 1 ?_;refine wU 2 ?_;refine wU 3 ?_;refine wU 4 ?_;refine wU 6 ?_;refine wU 7 ?_;refine wU 8 ?_;refine wU 9 ?_;refine wU 10 ?_;refine wR 5 fun K hK=>?_;go_simp;go_wp2_with fail;refine (qC s.rep d.lo _).mono ?_;rintro e w' ⟨rfl,rfl⟩;rw [Hp.out];refine hK.out _ _ (aB.out _ (zf w2)) (fun hHeld=>?_);clear hK K;refine wR 11 fun K hK=>?_
 go_simp;go_wp2_with fail;refine (qC s.num d.hi _).mono ?_;rintro e w' ⟨rfl,rfl⟩;rw [Hq.out];refine hK.out _ _ (aB.out _ (zf w2)) (fun hHeld=>?_);clear hK K;have aw:=hide ((zf w2).trans (ze w2.drew (.cells #[.int .i64 p,.int .i64 q] 3)));have HO:=hide (yv p q w2.drew w2.heap.size rfl);refine wR 12 fun K hK=>?_;go_simp;refine hK.out _ _ (aB.out _ aw) (fun hHeld=>?_);clear hK K;refine wR 13 fun K hK=>?_;go_simp;go_wp2_with fail;refine HO.mono ?_;rintro e w' ⟨rfl,rfl⟩;refine hK.out _ _ (aB.out _ aw) (fun hHeld=>?_);clear hK K;refine wU 14 ?_;refine wD ?_ _;clear hHeld;go_wp2_with fail;go_ret;exact ⟨zK HR.symm,tmq HB aw⟩
end
section
open Go.RowKit
attribute [local go_sem ↓] K.zy K.zx zY zX
attribute [local go_sem] K.zJ K.zu K.zH
variable {w w' w2 W W' : World} {g : Nat}

def oO (L:List K.En) (d:Rn) (n i:Nat):Prop:=i <= n/\(∀ j,j < i -> nrE (L.getD j K.en0) d < 0)/\(i < n -> 0 <= nrE (L.getD i K.en0) d)
def BsE (w w':World) (e:Ending) (L:List K.En) (d:Rn) (n:Nat):Prop:=∃ (i:Nat) (b:Bool),e = .returned (.tuple #[.int .i64 (i:Int),.bool b])/\oO L d n i/\(b=true↔i < n/\nrE (L.getD i K.en0) d=0)/\Below w.heap.size w w'
theorem ziX (ao:Option Addr) (n cap:Nat) (L:List K.En) (d:Rn) (w:World) (hS:K.aD w ao n cap L) (hm:∀ a b,a <= b -> b < n -> nrE (L.getD b K.en0) d < 0 -> nrE (L.getD a K.en0) d < 0) :
  Calls Tryz.prog 211 #[.slice ao n cap,RV d,.func (.func 212) #[] #[]] w fun e w'=>BsE w w' e L d n:=by
 have DL:∀ (args:Array Value) (w:World),(callFunc 212 args).run Tryz.prog w = .ok (.enter 212 args) w:=fun _ _=>rfl;have b1:=ze w (.cells (RC d) 48);have x1:=zQ w 48 d;obtain ⟨w1,cF⟩:∃ w1,w.alloc (.cells (RC d) 48)=w1:=⟨_,rfl⟩;obtain ⟨g1,cP⟩:∃ g1,w.heap.size=g1:=⟨_,rfl⟩;rw [cF] at b1 x1;rw [cP] at x1;have aM:=hide b1;have HX:Hid (Box w1 g1 48 d/\K.aD w1 ao n cap L):=⟨x1,hS.below b1⟩;have lL:n <= 3518437208883:=hS.2.2.2.2;have HM:=hide hm;clear b1 x1 hS hm;go_enter Tryz.func211,Tryz.ntmps211;go_wp2_with fail;clear cF cP;go_loopw [9,10] (fun a b wr=>∃ (lo hi:Nat),a = .int .i64 (lo:Int)/\b = .int .i64 (hi:Int)/\lo <= hi/\hi <= n/\Hid (Below w1.heap.size w1 wr/\(∀ j,j < lo -> nrE (L.getD j K.en0) d < 0)/\(hi < n -> 0 <= nrE (L.getD hi K.en0) d))) (fun a b _=>(intOf b).toNat - (intOf a).toNat)
 case atStart=>exact ⟨0,n,rfl,rfl,Nat.zero_le _,Nat.le_refl _,Below.refl _ _,(fun j hj=>by omega),fun h=>by omega⟩
 case round =>
  obtain ⟨lo,hi,rfl,rfl,FW,nq,HI⟩:=hrel
  rename World=>wr
  by_cases ak:lo < hi
  ·have aX:(lo:Int) < (hi:Int):=by omega
   obtain ⟨h,hh⟩:∃ h:Nat,(lo+hi) / 2=h:=⟨_,rfl⟩
   have p7:lo <= 3518437208883:=by omega
   have Fo:hi <= 3518437208883:=by omega
   obtain ⟨t,ht⟩:∃ t:Nat,lo+hi=t:=⟨_,rfl⟩
   have et:(lo:Int)+(hi:Int)=(t:Int):=by omega
   have e2:(t:Int) / 2=(h:Int):=by omega
   have e3:t / 2=h:=by omega
   have HH:Hid (lo <= h/\h < hi/\h < n):=⟨by omega,by omega,by omega⟩
   have E8:t <= 20000000000000:=by omega
   obtain ⟨ad,rfl,A0⟩:=(HX.2.below HI.1).at h HH.2.2;obtain ⟨s,Hs⟩:∃ s,Hid (L.getD h K.en0=s):=⟨_,rfl⟩
   have aB:Hid (∀ W,Below wr.heap.size wr W -> (K.dJ (.pointer (some (ad.add (h * 4))))).run Tryz.prog W = .ok (K.EV s) W/\(ldD (.pointer (some ⟨g1,0,none⟩))).run Tryz.prog W = .ok (RV d) W):=fun W hW=>by
    obtain ⟨ad',e',A1⟩:=((HX.2.below HI.1).below hW).at h HH.2.2;obtain rfl:=Option.some.inj e';rw [Hs.out] at A1;exact ⟨K.zB A1,zG ((HX.1.below HI.1).below hW).at⟩
   have As:(h:Int) < (n:Int):=by have:=HH.out;omega
   clear A0 hh ht;go_upto_region 5 with fail;clear et e2 e3;refine wp_region_held_drew (S:=fun W=>(Go.Proofs.YtjffpimfngdggaaGreat.K.dJ (.pointer (some (ad.add (h * 4))))).run Tryz.prog W = .ok (K.EV s) W/\(ldD (.pointer (some ⟨g1,0,none⟩))).run Tryz.prog W = .ok (RV d) W) (by kernel_rfl) (aB.out _ (zf wr)) (fun hHeld=>?_);refine wU 0 ?_;refine wU 1 ?_;refine wU 2 ?_;refine wU 3 ?_;refine wU 4 ?_;refine wU 5 ?_;refine wR 6 fun K hK=>?_;go_simp;go_wp2_with fail;refine (ze6 s d _).mono ?_;rintro e w3 ⟨rfl,b3⟩;have eo:Below wr.heap.size wr w3:=(zf wr).trans b3;have aw:=hide (HI.1.trans (eo.mono HI.1.size));refine hK.out _ _ (aB.out _ eo) (fun hHeld=>?_);clear hK K b3 eo;obtain ⟨z,hz⟩:∃ z,nrE s d=z:=⟨_,rfl⟩;rw [hz];refine wU 7 ?_;refine wD ?_ _
   clear hHeld;by_cases cY:z < 0
   ·have HN:Hid (∀ j,j < h+1 -> nrE (L.getD j K.en0) d < 0):=fun j hj=>HM.out j h (by omega) HH.2.2 (by rw [Hs.out,hz];exact cY);clear hz;go_wp2_with fail;go_roundw
    case rel=>exact ⟨h+1,hi,by simp,rfl,by have:=HH.out;omega,nq,aw.out,HN.out,HI.2.2⟩
    case measure=>simp [intOf];have:=HH.out;omega
   ·have HN:Hid (h < n -> 0 <= nrE (L.getD h K.en0) d):=fun _=>by rw [Hs.out,hz];omega
    clear hz;go_wp2_with fail;go_roundw
    case rel=>exact ⟨lo,h,rfl,rfl,HH.1,by have:=HH.out;omega,aw.out,HI.2.1,HN.out⟩
    case measure=>simp [intOf];have:=HH.out;omega
  ·have aX:¬ (lo:Int) < (hi:Int):=by omega
   obtain rfl:lo=hi:=by omega
   have HF:Hid (oO L d n lo):=⟨nq,HI.2.1,HI.2.2⟩;have fU:=wTr aM HI.1;by_cases iv:lo < n
   ·have mf:(lo:Int) < (n:Int):=by omega
    obtain ⟨ad,rfl,A0⟩:=(HX.2.below HI.1).at lo iv;obtain ⟨s,Hs⟩:∃ s,Hid (L.getD lo K.en0=s):=⟨_,rfl⟩
    have aB:Hid (∀ W,Below wr.heap.size wr W -> (K.dJ (.pointer (some (ad.add (lo * 4))))).run Tryz.prog W = .ok (K.EV s) W/\(ldD (.pointer (some ⟨g1,0,none⟩))).run Tryz.prog W = .ok (RV d) W):=fun W hW=>by
     obtain ⟨ad',e',A1⟩:=((HX.2.below HI.1).below hW).at lo iv;obtain rfl:=Option.some.inj e';rw [Hs.out] at A1;exact ⟨K.zB A1,zG ((HX.1.below HI.1).below hW).at⟩
    clear A0;go_upto_region 8 with fail;refine wp_region_held_drew (S:=fun W=>(Go.Proofs.YtjffpimfngdggaaGreat.K.dJ (.pointer (some (ad.add (lo * 4))))).run Tryz.prog W = .ok (K.EV s) W/\(ldD (.pointer (some ⟨g1,0,none⟩))).run Tryz.prog W = .ok (RV d) W) (by kernel_rfl) (aB.out _ (zf wr)) (fun hHeld=>?_);refine wU 0 ?_;refine wU 1 ?_;refine wU 2 ?_;refine wU 3 ?_;refine wU 4 ?_;refine wU 5 ?_;refine wU 6 ?_;refine wU 7 ?_;refine wU 8 ?_;refine wU 9 ?_;refine wU 10 ?_;refine wR 11 fun K hK=>?_;go_simp;go_wp2_with fail;refine (ze6 s d _).mono ?_;rintro e w3 ⟨rfl,b3⟩;have eo:Below wr.heap.size wr w3:=(zf wr).trans b3;have aw:=wTr fU eo;refine hK.out _ _ (aB.out _ eo) (fun hHeld=>?_);clear hK K b3 eo;obtain ⟨z,hz⟩:∃ z,nrE s d=z:=⟨_,rfl⟩;rw [hz]
    have IY:Hid (nrE (L.getD lo K.en0) d=z):=by show _=_;rw [Hs.out];exact hz
    clear hz;refine wU 14 ?_;refine wU 12 ?_;refine wU 13 ?_;refine wU 15 ?_;refine wD ?_ _;clear hHeld;go_wp2_with fail;go_ret2;exact ⟨lo,_,rfl,HF.out,by rw [IY.out];simp [iv],aw.out⟩
   ·have mf:¬ (lo:Int) < (n:Int):=by omega
    go_upto_region 8 with fail;refine wp_region_held_drew (S:=fun _=>True) (by kernel_rfl) (trivial) (fun hHeld=>?_);refine wU 0 ?_;refine wU 1 ?_;refine wU 2 ?_;refine wU 3 ?_;refine wU 4 ?_;refine wV 5 ?_;refine wV 6 ?_;refine wV 7 ?_;refine wV 8 ?_;refine wV 9 ?_;refine wV 10 ?_;refine wV 11 ?_;refine wV 12 ?_;refine wU 14 ?_;refine wU 13 ?_;refine wU 15 ?_;refine wD ?_ _;clear hHeld;go_wp2_with fail;go_ret2;exact ⟨lo,_,rfl,HF.out,by simp [iv],tmq fU (zf wr)⟩
end
section
open Go.RowKit
theorem zax (s:K.En) (d:Rn):nrE s d=0↔ip s=d:=by
 unfold nrE or2 az ip;obtain ⟨lo,hi⟩:=d;simp only [Rn.mk.injEq];by_cases h1:s.rep < lo
 ·simp [h1];omega
 ·by_cases h2:lo < s.rep
  ·simp [h1,h2];omega
  ·have h3:s.rep=lo:=by omega
   by_cases h4:s.num < hi
   ·simp [h3,h4];omega
   ·by_cases h5:hi < s.num
    ·simp [h3,h4,h5];omega
    ·simp [h3,h4,h5];omega
theorem zbw {x y:K.En} {d:Rn} (h:K.ahead x y=true) (hy:nrE y d <= 0):nrE x d < 0:=by
 rw [ze5];unfold K.ahead at h;simp only [Bool.or_eq_true,Bool.and_eq_true,decide_eq_true_eq,beq_iff_eq] at h;by_cases h0:nrE y d=0
 ·have:=(zax y d).1 h0;subst this;unfold ip;dsimp only;omega
 ·have:=(ze5 y d).1 (by omega);omega
theorem zih {L:List K.En} (h:K.chk L=0) {i j:Nat} (rD:i < j) (hj:j < L.length):K.ahead (L.getD i K.en0) (L.getD j K.en0)=true:=by
 have:=List.pairwise_iff_getElem.1 (K.kj h) i j (by omega) hj rD;rw [List.getD_eq_getElem?_getD,List.getElem?_eq_getElem (by omega),List.getD_eq_getElem?_getD,List.getElem?_eq_getElem hj];exact this
theorem zgL {L:List K.En} {d:Rn} (h:K.chk L=0) (a b:Nat) (ee:a <= b) (hb:b < L.length) (hn:nrE (L.getD b K.en0) d < 0):nrE (L.getD a K.en0) d < 0:=by
 by_cases e:a=b
 ·rw [e];exact hn
 ·exact zbw (zih h (by omega) hb) (by omega)
def AoD (L:List K.En) (d:Rn) (e:K.En) (b:Bool):Prop:=(b=true/\e∈L/\ip e=d)∨(b=false/\e=K.en0/\∀ y∈L,ip y≠d)
theorem zfB {L:List K.En} {d:Rn} {n i:Nat} (hc:K.chk L=0) (hl:L.length=n) (hF:oO L d n i) (hb:¬ (i < n/\nrE (L.getD i K.en0) d=0)):∀ y∈L,ip y≠d:=by
 intro y hy e;obtain ⟨j,hj,rfl⟩:=List.getElem_of_mem hy
 have e0:L.getD j K.en0=L[j]:=by rw [List.getD_eq_getElem?_getD,List.getElem?_eq_getElem hj];rfl
 have h0:nrE (L.getD j K.en0) d=0:=by rw [e0];exact (zax _ _).2 e
 rcases Nat.lt_trichotomy j i with q | q | q
 ·have:=hF.2.1 j q;omega
 ·subst q;exact hb ⟨by omega,h0⟩
 ·have h1:=zbw (d:=d) (zih hc q hj) (by omega);have:=hF.2.2 (by omega);omega
attribute [local go_sem ↓] zE zD zY zX K.zy K.zx zdE
attribute [local go_sem] zl zr zz zM zR qp K.zJ K.zu K.zH zbe
def AH (a:Array (Nat × Value)):Sem Value:=Instr.build 50 a
theorem zhM (a:Array (Nat × Value)):Instr.build 50 a=AH a:=rfl
theorem zeS (w:World):(AH #[]).run Tryz.prog w = .ok (K.EV K.en0) w:=by kernel_rfl
attribute [local go_sem ↓] zhM
attribute [local go_sem] zeS
theorem zf5 (ao:Option Addr) (n c:Nat) (L:List K.En) (d:Rn) (w:World) (hS:K.aD w ao n c L) (hc:K.chk L=0) :
  Calls Tryz.prog 173 #[.slice ao n c,RV d] w fun x w'=>∃ e b,x = .returned (.tuple #[K.EV e,.bool b])/\AoD L d e b/\Below w.heap.size w w':=by
 have b1:=ze w (.cells (RC d) 48);have X1:=zQ w 48 d
 have z1:(w.alloc (.cells (RC d) 48)).heap.size=w.heap.size+1:=by simp
 obtain ⟨w1,cF⟩:∃ w1,w.alloc (.cells (RC d) 48)=w1:=⟨_,rfl⟩;rw [cF] at b1 X1 z1;have b2:=ze w1 (.cells (K.EC K.en0) 50);have X2:=K.zQ w1 50 K.en0;obtain ⟨wk,aL⟩:∃ wk,w1.alloc (.cells (K.EC K.en0) 50)=wk:=⟨_,rfl⟩;obtain ⟨G,hG⟩:∃ G,w.heap.size=G:=⟨_,rfl⟩;rw [aL] at b2 X2;rw [z1,hG] at X2;rw [hG] at X1;have HX:=hide (X1.below b2);have HY:=hide X2;have al:=hide (tmq b1 b2);have HS:=hide (hS.below al);have HC:=hide hc;have eX:Hid (w.heap.size=G):=hG;clear b1 X1 b2 X2 hS hc
 have ld:=zG HX.at
 go_enter Tryz.func173,Tryz.ntmps173;go_wp2_with fail;clear cF aL z1 hG;refine (ziX ao n c L d _ HS.out (fun a b ee hb hn=>zgL HC.out a b ee (by rw [HS.1];exact hb) hn)).mono ?_;rintro e w3 ⟨i,b,rfl,hF,hb,b3⟩;have aw:=wTr al b3;have CT:=hide (HY.below b3);have mn:=hide (HS.below b3);have HF:=hide hF;clear b3 ld hF
 cases b with
 | false =>
  have fR:¬ (i < n/\nrE (L.getD i K.en0) d=0):=fun h=>by have:=hb.2 h;cases this
  have HD:Hid (AoD L d K.en0 false):=.inr ⟨rfl,rfl,zfB HC.out HS.1 HF.out fR⟩;have st:=K.kK (e':=K.en0) CT.out;have HZ:=hide (CT.setRow (e':=K.en0));have u0:=hide (zh (cs:=K.EC K.en0) aw.out (show w.heap.size <= G+1 by rw [eX.out];omega));clear hb fR;go_wp2_with fail;clear st;refine bodyPost_ret (K.uQ rfl rfl rfl HZ) rfl ?_;exact ⟨_,_,rfl,HD.out,u0.out⟩
 | true =>
  obtain ⟨hi,h0⟩:=hb.1 rfl;obtain ⟨ad,cU,A0⟩:=mn.at i hi;subst cU
  have Oz:(i:Int) < (n:Int):=by omega
  have HD:Hid (AoD L d (L.getD i K.en0) true):=.inl ⟨rfl,zg7 (by rw [HS.1];exact hi),(zax _ _).1 h0⟩;obtain ⟨y,Hy⟩:∃ y,Hid (L.getD i K.en0=y):=⟨_,rfl⟩;rw [Hy.out] at A0 HD;have dF:=K.zB A0;have st:=K.kK (e':=y) CT.out;have HZ:=hide (CT.setRow (e':=y));have u0:=hide (zh (cs:=K.EC y) aw.out (show w.heap.size <= G+1 by rw [eX.out];omega));clear hb h0 A0;go_wp2_with fail;clear st dF;refine bodyPost_ret (K.uQ rfl rfl rfl HZ) rfl ?_;exact ⟨_,_,rfl,HD.out,u0.out⟩
end
section
open Go.RowKit Go.Maps Go.Sort
def dQ (M:List K.En) (e:K.En):Bool := !M.any (fun y=>K.eqE y e)
theorem jy {M:List K.En} {e:K.En}:dQ M e=true↔e ∉ M:=by
 unfold dQ;rw [Bool.not_eq_true',Bool.eq_false_iff,ne_eq,List.any_eq_true];constructor
 ·intro h hm;exact h ⟨e,hm,K.vl e⟩
 ·rintro h ⟨y,hy,hq⟩;rw [(zdr _ _).1 hq] at hy;exact h hy
theorem zjF {M:List K.En} {e y:K.En} {b:Bool} (hc:K.chk M=0) (h:AoD M (ip e) y b):dQ M e = !(b && K.eqE y e):=by
 cases b with
 | false =>
  have hn:∀ z∈M,ip z≠ip e:=by
   rcases h with ⟨h,-⟩ | ⟨-,-,h⟩
   ·cases h
   ·exact h
  exact jy.2 fun hm=>hn e hm rfl
 | true =>
  obtain ⟨hm,hd⟩:y∈M/\ip y=ip e:=by
   rcases h with ⟨-,h⟩ | ⟨h,-⟩
   ·exact h
   ·cases h
  cases hq:K.eqE y e with
  | true =>
   rw [(zdr _ _).1 hq] at hm
   cases hn:dQ M e with
   | false=>rfl
   | true=>exact absurd hm (jy.1 hn)
  | false =>
   refine jy.2 fun he=>?_;have:=zfG hc he hm (show ae e=ae y from hd.symm);subst this;rw [K.vl] at hq;cases hq
theorem zdM (L:List K.En) (k:Nat) (h:k < L.length):L.take (k+1)=L.take k++[L.getD k K.en0]:=by
 rw [List.take_succ_eq_append_getElem h];simp [List.getD,h]
theorem y6 (L:List Rc) (k:Nat) (h:k < L.length):L.take (k+1)=L.take k++[L.getD k rc0]:=by
 rw [List.take_succ_eq_append_getElem h];simp [List.getD,h]
attribute [local go_sem ↓] zE zD zY zX K.zy K.zx qf qe zq zp za1
attribute [local go_sem] zl zr zz zM zR qp K.zJ K.zu K.zH K.xq zL zS qg zi zk
theorem zbB (ao bo:Option Addr) (n c m cb:Nat) (L M:List K.En) (w:World) (hS:K.aD w ao n c L) (hR:K.aD w bo m cb M) (hc:K.chk M=0) :
  Calls Tryz.prog 129 #[.slice ao n c,.slice bo m cb] w fun x w'=>∃ ap n2 c2,x = .returned (.slice ap n2 c2)/\K.aD w' ap n2 c2 (L.filter (dQ M))/\Below w.heap.size w w'/\∀ ad,ap=some ad -> w.heap.size <= ad.block:=by
 have HS:=hide hS;have HR:=hide hR;have HC:=hide hc;have eT:Hid (L.length=n):=hS.1;have hn:=hS.2.2.2.2;clear hS hR hc;go_enter Tryz.func129,Tryz.ntmps129;go_wp2_with fail;go_loopw [5,12] (fun v i wr=>∃ (k:Nat) (ap:Option Addr) (c2:Nat) (acc:List K.En),k <= n/\v = .slice ap acc.length c2/\i = .int .i64 (k:Int)/\Hid (acc=(L.take k).filter (dQ M)/\K.dP w.heap.size w.heap.size w wr ap c2 acc)) (fun _ i _=>n - (intOf i).toNat)
 case atStart=>exact ⟨0,none,0,[],Nat.zero_le _,rfl,rfl,rfl,K.dP.nil (Below.refl _ _) (Nat.le_refl _) (Nat.le_refl _)⟩
 case round =>
  obtain ⟨k,ap,c2,acc,hk,rfl,rfl,HO⟩:=hrel
  rename World=>wr
  by_cases ak:k < n
  ·have aX:(k:Int) < (n:Int):=by omega
   have nJ:acc.length <= k:=by
    rw [HO.1];exact Nat.le_trans (List.length_filter_le _ _) (by rw [List.length_take];omega)
   have nj:acc.length < 3518437208883:=by omega
   have HT:=hide (zdM L k (by rw [eT.out];exact ak));obtain ⟨ad,cU,A0⟩:=(HS.below HO.2.below).at k ak;subst cU;obtain ⟨e,He⟩:∃ e,Hid (L.getD k K.en0=e):=⟨_,rfl⟩;rw [He.out] at A0 HT;have dF:=K.zB A0;obtain ⟨g3,pV⟩:∃ g3,wr.heap.size=g3:=⟨_,rfl⟩;obtain ⟨w3,cd,X3,B3,-⟩:=K.made wr e g3 pV;have dh:=hide X3;have nN:=hide (HO.2.later B3);have aK:=hide ak;have dG:Hid (acc=(L.take k).filter (dQ M)):=HO.1;have ldd:(ldD (.pointer (some ⟨g3,0,none⟩))).run Tryz.prog w3 = .ok (RV (ip e)) w3:=zG ⟨X3.at.c0,X3.at.c1⟩;clear A0 X3 B3 ak hk HO;go_wp2_with fail;clear dF cd pV ldd;refine (zf5 bo m cb M (ip e) _ (HR.below nN.below) HC).mono ?_;rintro x w4 ⟨y,b,rfl,hA,b4⟩;have ou:=zjF HC.out hA;obtain ⟨g5,iY⟩:∃ g5,w4.heap.size=g5:=⟨_,rfl⟩;obtain ⟨w5,cd,X5,B5,-⟩:=K.made w4 y g5 iY
   have b35:=tmq b4 B5;have gv:=hide (nN.later b35);have Ip:=hide (dh.below b35)
   have l5:=K.zB X5.at
   have l3:=K.zB Ip.at
   obtain ⟨q,hq⟩:∃ q,K.eqE y e=q:=⟨_,rfl⟩
   have leq:∀ W:World,(Op.equalIn 10000 50 (K.EV y) (K.EV e)).run Tryz.prog W = .ok q W:=fun W=>by rw [<- hq];exact K.qB y e W
   rw [hq] at ou;clear hA b4 X5 B5 b35 hq
   have ib:Hid (dQ M e=false -> acc=(L.take (k+1)).filter (dQ M)):=fun h=>by
    rw [HT.out,List.filter_append,<- dG.out,List.filter_cons_of_neg (by simp [h]),List.filter_nil,List.append_nil]
   have pY:Hid (dQ M e=true -> acc++[e]=(L.take (k+1)).filter (dQ M)):=fun h=>by
    rw [HT.out,List.filter_append,<- dG.out,List.filter_cons_of_pos h,List.filter_nil]
   cases b with
   | false =>
    have HN:=hide (pY.out ou);clear ou;go_wp2_with (at_builtin;refine gv.append e _ rfl nj rfl (.tmp 30) (.tmp 32) rfl acc.length rfl rfl rfl ?_;intro g6 c6 w6 O6 hk6;have iJ:=hide O6;clear O6 hk6);clear cd l5 l3 leq iY;go_roundw
    case rel=>exact ⟨k+1,some ⟨g6,0,none⟩,c6,acc++[e],aK.out,by simp,by simp,HN.out,iJ.out⟩
    case measure=>simp [intOf];have:=aK.out;omega
   | true =>
    cases q with
    | true =>
     have HN:=hide (ib.out ou);clear ou;go_wp2_with fail;clear cd l5 l3 leq iY;go_roundw
     case rel=>exact ⟨k+1,ap,c2,acc,aK.out,rfl,by simp,HN.out,gv.out⟩
     case measure=>simp [intOf];have:=aK.out;omega
    | false =>
     have HN:=hide (pY.out ou);clear ou;go_wp2_with (at_builtin;refine gv.append e _ rfl nj rfl (.tmp 30) (.tmp 32) rfl acc.length rfl rfl rfl ?_;intro g6 c6 w6 O6 hk6;have iJ:=hide O6;clear O6 hk6);clear cd l5 l3 leq iY;go_roundw
     case rel=>exact ⟨k+1,some ⟨g6,0,none⟩,c6,acc++[e],aK.out,by simp,by simp,HN.out,iJ.out⟩
     case measure=>simp [intOf];have:=aK.out;omega
  ·have aX:¬ (k:Int) < (n:Int):=by omega
   have iy:acc=L.filter (dQ M):=by rw [HO.1,List.take_of_length_le (by rw [eT.out];omega)]
   obtain ⟨S9,N9⟩:=HO.2.src (fun e he=>HS.2.2.2.1 e (by rw [iy] at he;exact (List.mem_filter.1 he).1)) (by
    have h1:acc.length <= L.length:=by rw [iy];exact List.length_filter_le _ _
    have h2:=eT.out
    omega)
   have HE:Hid (∃ ap2 n2 c3,Ending.returned (.slice ap acc.length c2) = .returned (.slice ap2 n2 c3)/\K.aD wr ap2 n2 c3 (L.filter (dQ M))/\Below w.heap.size w wr/\∀ ad,ap2=some ad -> w.heap.size <= ad.block):=⟨ap,acc.length,c2,rfl,by rw [<- iy];exact S9,HO.2.below,N9⟩;clear S9 N9 iy;go_wp2_with fail;go_ret;exact HE.out
def Oh (M:List Rc) (y:Rp):Prop:=y ∉ plR M
theorem zd8 {M:List Rc} {d:Rc} {n i:Nat} {b:Bool} (hs:Srt ck (plR M)) (hl:M.length=n) (hF:oN M d n i) (hb:b=true↔i < n/\rcC (M.getD i rc0) d=0):b=true↔rck d∈plR M:=by
 rw [hb];constructor
 ·rintro ⟨h1,h2⟩;rw [<- (jS.eq _ _).1 h2];exact List.mem_map.2 ⟨_,x6 (by omega),rfl⟩
 ·intro h;obtain ⟨r,hr,e⟩:=List.mem_map.1 h;obtain ⟨j,hj,rfl⟩:=List.getElem_of_mem hr;have e0:=jW hj
  have h0:rcC (M.getD j rc0) d=0:=by unfold rcC;rw [e0,show rck M[j]=rck d from e];exact (jS.eq _ _).2 rfl
  rcases Nat.lt_trichotomy j i with q | q | q
  ·have:=hF.2.1 j q;omega
  ·subst q;exact ⟨by omega,h0⟩
  ·have h1:=hF.2.2 (by omega)
   have hp:ck (rck (M.getD i rc0)) (rck (M.getD j rc0)) < 0:=by
    unfold Srt at hs;rw [vK,List.pairwise_map,List.pairwise_iff_getElem] at hs;rw [jW (by omega),e0];exact hs i j (by omega) hj q
   have h2:ck (rck (M.getD i rc0)) (rck d) < 0:=jS.lt hp (by unfold rcC at h0;omega);unfold rcC at h1;omega
theorem zgF {M:List Rc} {d:Rc} (hs:Srt ck (plR M)) (a b:Nat) (ee:a <= b) (hb:b < M.length) (hn:rcC (M.getD b rc0) d < 0):rcC (M.getD a rc0) d < 0:=by
 by_cases e:a=b
 ·rw [e];exact hn
 ·unfold Srt at hs;rw [vK,List.pairwise_map,List.pairwise_iff_getElem] at hs;have:=hs a b (by omega) hb (by omega);unfold rcC at hn ⊢;rw [jW (by omega)];rw [jW hb] at hn;exact jS.lt this (by omega)
def uy (L M F:List Rc):Prop:=Srt ck (plR F)/\(∀ r∈F,ch r)/\∀ y,y∈plR F↔y∈plR L/\y ∉ plR M
structure LrI (L M:List Rc) (k:Nat) (D:List Rc):Prop where
 ok:∀ r∈D,ch r
 sub:(plR D).Sublist (plR (L.take k))
 all:∀ y,y∈plR D↔y∈plR (L.take k)/\y ∉ plR M
theorem LrI.start (L M:List Rc):LrI L M 0 []:=⟨fun r h=>(by cases h),List.Sublist.refl _,fun y=>by simp [plR]⟩
theorem LrI.skip {L M D:List Rc} {k:Nat} (h:LrI L M k D) (hk:k < L.length) (hm:rck (L.getD k rc0)∈plR M):LrI L M (k+1) D:=by
 refine ⟨h.ok,?_,fun y=>?_⟩ <;> rw [y6 L k hk,yr]
 ·exact h.sub.trans (List.sublist_append_left _ _)
 ·rw [h.all y,List.mem_append,List.mem_singleton];constructor
  ·rintro ⟨q1,q2⟩;exact ⟨.inl q1,q2⟩
  ·rintro ⟨q1 | rfl,q2⟩
   ·exact ⟨q1,q2⟩
   ·exact absurd hm q2
theorem LrI.add {L M D:List Rc} {k:Nat} {c:Rc} (h:LrI L M k D) (hk:k < L.length) (hm:rck (L.getD k rc0) ∉ plR M) (hc:ch c) (e:rck c=rck (L.getD k rc0)):LrI L M (k+1) (D++[c]):=by
 refine ⟨jl h.ok hc,?_,fun y=>?_⟩ <;> rw [y6 L k hk,yr,yr,e]
 ·exact h.sub.append (List.Sublist.refl _)
 ·rw [List.mem_append,List.mem_append,h.all y,List.mem_singleton];constructor
  ·rintro (⟨q1,q2⟩ | rfl)
   ·exact ⟨.inl q1,q2⟩
   ·exact ⟨.inr rfl,hm⟩
  ·rintro ⟨q1 | rfl,q2⟩
   ·exact .inl ⟨q1,q2⟩
   ·exact .inr rfl
theorem LrI.done {L M D:List Rc} (h:LrI L M L.length D) (hs:Srt ck (plR L)):uy L M D:=by
 have h1:=h.sub;have h2:=h.all;rw [List.take_of_length_le (Nat.le_refl _)] at h1 h2;exact ⟨List.Pairwise.sublist h1 hs,h.ok,h2⟩
theorem zbA (ao bo:Option Addr) (n c m cb:Nat) (L M:List Rc) (w:World) (hS:RcS w ao n c L) (hR:RcS w bo m cb M) (hL:OkR L n) (hM:OkR M m) (N7:n <= 2199023255551) :
  Calls Tryz.prog 131 #[.slice ao n c,.slice bo m cb] w fun x w'=>∃ (h:Hs) (F:List Rc),x = .returned (HsV h)/\GvR w w' h F/\h.n <= n/\uy L M F:=by
 have HS:=hide hS;have HR:=hide hR;have eT:Hid (L.length=n):=hS.len;have Kw:Hid (M.length=m):=hR.len;have HL:=hide (xy.1 (by rw [hS.len];exact hL):(∀ r∈L,ch r)/\Srt ck (plR L));have HM:=hide (xy.1 (by rw [hR.len];exact hM):(∀ r∈M,ch r)/\Srt ck (plR M));clear hS hR hL hM;go_enter Tryz.func131,Tryz.ntmps131;go_wp2_with fail;go_loopw [5,12] (fun v i wr=>∃ (k:Nat) (h:Hs) (D:List Rc),k <= n/\v = .slice h.o h.n h.c/\i = .int .i64 (k:Int)/\Hid (aO w.heap.size w wr h D/\LrI L M k D/\(∀ r∈D,dA w.heap.size r.p)/\h.n <= k)) (fun _ i _=>n - (intOf i).toNat)
 case atStart=>exact ⟨0,hs0,[],Nat.zero_le _,rfl,rfl,aO.nil w,LrI.start L M,fun r hr=>(by cases hr),Nat.le_refl _⟩
 case round =>
  obtain ⟨k,h,D,hk,rfl,rfl,HO⟩:=hrel
  rename World=>wr
  by_cases ak:k < n
  ·have aX:(k:Int) < (n:Int):=by omega
   obtain ⟨ad,cU,A0⟩:=(HS.below HO.1.below).at k ak;have lZ:=(HS.below HO.1.below).okAt k ak
   have GJ:k < L.length:=by rw [eT.out];exact ak
   have H9:=HL.1 _ (x6 GJ);subst cU;obtain ⟨r,Hr⟩:∃ r,Hid (L.getD k rc0=r):=⟨_,rfl⟩;rw [Hr.out] at A0 lZ H9;have dF:=zC A0;obtain ⟨g7,ia⟩:∃ g7,wr.heap.size=g7:=⟨_,rfl⟩;obtain ⟨w7,cd,X7,B7,S7⟩:=gt wr (mkR r) g7 ia;have fj:=hide (HO.1.later B7)
   have IO:Hid (∀ j,(HsV h).ownBlock=some j -> j < g7):=fun j hj=>by have:=(HO.1.own.lt j hj).2;omega
   have t7:=hide X7;have BM:=hide (lZ.below B7);have up:=hide H9;have HI:=hide HO.2;have Kj:=hide GJ;have aK:=hide ak;have l7:=qK X7;clear A0 X7 B7 S7 lZ ak hk GJ H9 HO;go_wp2_with fail;clear cd dF ia l7;refine (ziY bo m cb M r _ (HR.below fj.below) BM.out (fun x hx=>(HM.1 x hx).2.1) up.2.1 (fun a b ee hb hn=>zgF HM.2 a b ee (by rw [Kw.out];exact hb) hn)).mono ?_;rintro x w8 ⟨i,b,rfl,hF,hb,b8⟩;have ii:=zd8 HM.2 Kw.out hF hb;have eO:=hide (fj.later b8);have gf:=hide (t7.below b8);have Bq:=hide (BM.below b8);clear hF hb b8
   cases b with
   | true =>
    have HN:=hide (HI.1.skip Kj.out (by rw [Hr.out];exact ii.1 rfl));clear ii;go_wp2_with fail;go_roundw
    case rel=>exact ⟨k+1,h,D,aK.out,rfl,by simp,eO.out,HN.out,HI.2.1,Nat.le_succ_of_le HI.2.2⟩
    case measure=>simp [intOf];have:=aK.out;omega
   | false =>
    have ib:Hid (rck (L.getD k rc0) ∉ plR M):=by rw [Hr.out];exact fun q=>by have:=ii.2 q;cases this
    clear ii;go_upto_region 7 with fail
    have aB:Hid (∀ W:World,W.heap[g7]? = w8.heap[g7]? -> W.cell? ⟨g7,0,none⟩=some (.string r.s)/\(ldP (.pointer (some ⟨g7,1,none⟩))).run Tryz.prog W = .ok (PV r.p) W):=fun W h=>by
     have X:cg W g7 (mkR r):=h.trans gf.out;exact ⟨X.sk,zj X.past⟩
    refine wp_region_held_drew (S:=fun v=>v.cell? ⟨g7,0,none⟩=some (.string r.s)/\(ldP (.pointer (some ⟨g7,1,none⟩))).run Tryz.prog v = .ok (PV r.p) v) (by kernel_rfl) (aB.out _ rfl) (fun hHeld=>?_);refine wU 0 ?_;refine wU 1 ?_;refine wU 2 ?_;refine wU 3 ?_;refine wU 4 ?_;refine wR 5 fun K hK=>?_;go_simp;go_wp2_with fail;refine (jX r.p _ (Bq.1.below (zf w8))).mono ?_;rintro x wa ⟨cp,rfl,Sc,Nc,ba,Cc⟩;have oj:Below w8.heap.size w8 wa:=(zf w8).trans ba
    have cr:(HsV h).ownBlock≠some g7:=fun e=>by have h1:=IO.out;have h2:=h1 g7 e;omega
    have za:wa.heap[g7]? = w8.heap[g7]?:=oj.block g7 gf.lt;have Oa:=eO.later oj;have gB:eY h cp:=fun j hj=>dI.new Nc (eO.own.lt j hj).2;obtain ⟨gb,cb2,wb,ee,Ob,oE⟩:=Oa.app ⟨r.s,cp⟩ ⟨Sc,Bq.2⟩ gB (by have:=HI.2.2;have:=aK.out;omega);have oD:Hid ((Builtin.append_ #[27,27] 27 #[.slice h.o h.n h.c,.slice (some ⟨wa.heap.size,0,none⟩) 1 1]).run Tryz.prog (wa.alloc (.cells #[.string r.s,.slice cp.vo cp.vn cp.vc,.slice cp.co cp.cn cp.cc] 78)) = .ok (.slice (some ⟨gb,0,none⟩) (h.n+1) cb2) wb):=ee;have zb:wb.heap[g7]? = w8.heap[g7]?:=(oE g7 (Nat.lt_of_lt_of_le gf.lt oj.size) cr).trans za;have iQ:rck ⟨r.s,cp⟩=rck r:=wE up.out rfl Cc;have HN:Hid (aO w.heap.size w wb ⟨some ⟨gb,0,none⟩,h.n+1,cb2⟩ (D++[⟨r.s,cp⟩])/\LrI L M (k+1) (D++[⟨r.s,cp⟩])/\(∀ x∈D++[⟨r.s,cp⟩],dA w.heap.size x.p)/\h.n+1 <= k+1):=⟨Ob,HI.1.add Kj.out ib.out (kQ up.out iQ) (by rw [Hr.out];exact iQ),jl HI.2.1 (Nc.mono (by have:=eO.below.size;exact this)),by have:=HI.2.2;omega⟩
    have u5:=hide (aB.out _ za);have Dc:=hide (aB.out (wa.alloc (.cells #[.string r.s,.slice cp.vo cp.vn cp.vc,.slice cp.co cp.cn cp.cc] 78)) ((Below.heap_alloc wa _ g7 (Nat.lt_of_lt_of_le gf.lt oj.size)).trans za));have CX:=hide (aB.out _ zb);have lbr:∀ W:World,(uC #[(0,.string r.s),(1,PV cp)]).run Tryz.prog W = .ok (.agg #[.string r.s,.slice cp.vo cp.vn cp.vc,.slice cp.co cp.cn cp.cc]) W:=fun W=>yd r.s cp W;refine hK.out _ _ u5.out (fun hHeld=>?_);clear hK K ee Ob Oa gB Sc Nc ba Cc oj za zb oE cr iQ;refine wU 6 ?_;refine wR 7 fun K hK=>?_;go_simp;refine hK.out _ _ Dc.out (fun hHeld=>?_);clear hK K;refine wR 8 fun K hK=>?_;refine xk (by rfl) (.tmp 24) (.tmp 31) (by rfl) (by rfl) (by rfl) oD.out ?_
    refine hK.out _ _ CX.out (fun hHeld=>?_);clear hK K;refine wR 9 fun K hK=>?_;go_simp;refine hK.out _ _ CX.out (fun hHeld=>?_);clear hK K;refine wD ?_ _;clear hHeld;clear lbr;go_wp2_with fail;go_roundw
    case rel=>exact ⟨k+1,⟨some ⟨gb,0,none⟩,h.n+1,cb2⟩,D++[(⟨r.s,cp⟩:Rc)],aK.out,rfl,by simp,HN.out⟩
    case measure=>simp [intOf];have:=aK.out;omega
  ·have aX:¬ (k:Int) < (n:Int):=by omega
   have HE:Hid (∃ (h2:Hs) (F:List Rc),Ending.returned (.slice h.o h.n h.c) = .returned (HsV h2)/\GvR w wr h2 F/\h2.n <= n/\uy L M F):=by
    obtain ⟨q1,q2,q3,q4⟩:=HO.out
    obtain rfl:k=n:=by omega
    exact ⟨h,D,rfl,q1.give (Below.refl _ _) q3 (by omega),q4,(by rw [<- eT.out] at q2;exact q2.done HL.2)⟩
   go_wp2_with fail;go_ret;obtain ⟨h2,F,q1,q2,q3,q4⟩:=HE.out
   first | exact ⟨h2,F,q1,q2,q3,q4⟩ | exact ⟨h2,q1,F,q2,q3,q4⟩
end
end Go.Proofs.YtjffpimfngdggaaGreat
