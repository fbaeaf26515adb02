/- TNe TEb TAo -/
import Derived.Test.YtjffpimfngdggaaGreatTk
import Derived.Test.YtjffpimfngdggaaGreatFe13
import Derived.Test.YtjffpimfngdggaaGreatFe15
import Derived.Deep.CutRange
import Derived.Test.YtjffpimfngdggaaGreatFe38
import Derived.Test.YtjffpimfngdggaaGreatFe34
set_option maxRecDepth 100000
set_option maxHeartbeats 3200000
namespace Go.Proofs.YtjffpimfngdggaaGreat
section
open Go.RowKit

def nrE (s:K.En) (d:Rn):Int:=or2 (au s.rep d.lo) (au s.num d.hi)
theorem zex (s:K.En) (d:Rn):nrE s d < 0↔s.rep < d.lo∨(s.rep=d.lo/\s.num < d.hi):=by
 unfold nrE or2 au;by_cases h1:s.rep < d.lo
 ·simp [h1]
 ·by_cases h2:d.lo < s.rep
  ·simp [h1,h2];omega
  ·have h3:s.rep=d.lo:=by omega
   by_cases h4:s.num < d.hi
   ·simp [h3,h4]
   ·by_cases h5:d.hi < s.num <;> simp [h3,h4,h5]
theorem zey (s:K.En) (d:Rn) (w:World):Calls Tryz.prog 212 #[K.EV s,RV d] w fun e w'=>e = .returned (.int .i64 (nrE s d))/\Below w.heap.size w w':=by
 have b1:=ze w (.cells (K.EC s) 50);have x1:=K.zT w 50 s;have s1:=World.size_alloc w (.cells (K.EC s) 50);obtain ⟨w1,cR⟩:∃ w1,w.alloc (.cells (K.EC s) 50)=w1:=⟨_,rfl⟩;obtain ⟨g1,cT⟩:∃ g1,w.heap.size=g1:=⟨_,rfl⟩;rw [cR] at b1 x1 s1;rw [cT] at x1 s1;have b2:=ze w1 (.cells (RC d) 48);have x2:=zT w1 48 d;obtain ⟨w2,fi⟩:∃ w2,w1.alloc (.cells (RC d) 48)=w2:=⟨_,rfl⟩;rw [fi] at b2 x2;rw [s1] at x2;have HB:=hide (b1.trans (b2.mono b1.size));have HX:Hid (K.Box w2 g1 50 s/\Box w2 (g1+1) 48 d):=⟨x1.below b2,x2⟩
 have aG:Hid (∀ W,Below w2.heap.size w2 W -> W.cell? ⟨g1,0,none⟩=some (.int .i64 s.rep)/\W.cell? ⟨g1,1,none⟩=some (.int .i64 s.num)/\W.cell? ⟨g1+1,0,none⟩=some (.int .i64 d.lo)/\W.cell? ⟨g1+1,1,none⟩=some (.int .i64 d.hi)):=fun W hW=>by
  obtain ⟨c0,c2⟩:W.cell? ⟨g1,0,none⟩=some (.int .i64 s.rep)/\W.cell? ⟨g1,1,none⟩=some (.int .i64 s.num):=by
   have A:=(HX.out.1.below hW).at
   exact ⟨A.c0,A.c1⟩
  have hd:=(HX.out.2.below hW).at
  exact ⟨c0,c2,hd.c0,hd.c1⟩
 obtain ⟨p,Hp⟩:∃ p,Hid (au s.rep d.lo=p):=⟨_,rfl⟩;obtain ⟨q,Hq⟩:∃ q,Hid (au s.num d.hi=q):=⟨_,rfl⟩
 have HR:Hid (nrE s d=or2 p q):=by show _=_;unfold nrE;rw [Hp.out,Hq.out]
 clear b1 b2 x1 x2;go_enter Tryz.func212,Tryz.ntmps212;go_wp2_with fail;clear cR fi s1 cT;refine wp_region_held_drew (S:=fun W=>W.cell? ⟨g1,0,none⟩=some (.int .i64 s.rep)/\W.cell? ⟨g1,1,none⟩=some (.int .i64 s.num)/\W.cell? ⟨g1+1,0,none⟩=some (.int .i64 d.lo)/\W.cell? ⟨g1+1,1,none⟩=some (.int .i64 d.hi)) (by kernel_rfl) (aG.out _ (zg w2)) (fun hHeld=>?_);refine wU 0 ?_;refine wU 1 ?_;refine wU 2 ?_;refine wU 3 ?_;refine wU 4 ?_;refine wU 6 ?_;refine wU 7 ?_;refine wU 8 ?_;refine wU 9 ?_;refine wU 10 ?_;refine wpAnyH_ready (rs:=[5]) (by kernel_rfl) (by simp) (.cons rfl (fun K hK=>?_) .nil);go_simp;go_wp2_with fail;refine (qA s.rep d.lo _).mono ?_;rintro e w' ⟨rfl,rfl⟩;rw [Hp.out];refine hK.out _ _ (aG.out _ (zg w2)) (fun hHeld=>?_);clear hK K;refine wpAnyH_ready (rs:=[11]) (by kernel_rfl) (by simp) (.cons rfl (fun K hK=>?_) .nil)
 go_simp;go_wp2_with fail;refine (qA s.num d.hi _).mono ?_;rintro e w' ⟨rfl,rfl⟩;rw [Hq.out];refine hK.out _ _ (aG.out _ (zg w2)) (fun hHeld=>?_);clear hK K;have aB:=hide ((zg w2).trans (ze w2.drew (.cells #[.int .i64 p,.int .i64 q] 3)));have HO:=hide (wZ p q w2.drew w2.heap.size rfl);refine wpAnyH_ready (rs:=[12]) (by kernel_rfl) (by simp) (.cons rfl (fun K hK=>?_) .nil);go_simp;refine hK.out _ _ (aG.out _ aB.out) (fun hHeld=>?_);clear hK K;refine wpAnyH_ready (rs:=[13]) (by kernel_rfl) (by simp) (.cons rfl (fun K hK=>?_) .nil);go_simp;go_wp2_with fail;refine HO.out.mono ?_;rintro e w' ⟨rfl,rfl⟩;refine hK.out _ _ (aG.out _ aB.out) (fun hHeld=>?_);clear hK K;refine wU 14 ?_;refine wpAnyH_done (by kernel_rfl) ?_ _;clear hHeld;go_wp2_with fail;go_ret;exact ⟨zH HR.out.symm,HB.out.trans (aB.out.mono HB.out.size)⟩
end
section
open Go.RowKit
attribute [local go_sem ↓] K.zx K.zw zV zU
attribute [local go_sem] K.zI K.zt K.zF
variable {w w' w2 W W' : World} {g : Nat}

def oc (L:List K.En) (d:Rn) (n i:Nat):Prop:=i <= n/\(∀ j,j < i -> nrE (L.getD j K.en0) d < 0)/\(i < n -> 0 <= nrE (L.getD i K.en0) d)
def BsE (w w':World) (e:Ending) (L:List K.En) (d:Rn) (n:Nat):Prop:=∃ (i:Nat) (b:Bool),e = .returned (.tuple #[.int .i64 (i:Int),.bool b])/\oc L d n i/\(b=true↔i < n/\nrE (L.getD i K.en0) d=0)/\Below w.heap.size w w'
theorem ziw (ao:Option Addr) (n cap:Nat) (L:List K.En) (d:Rn) (w:World) (hS:K.aD w ao n cap L) (hm:∀ a b,a <= b -> b < n -> nrE (L.getD b K.en0) d < 0 -> nrE (L.getD a K.en0) d < 0) :
  Calls Tryz.prog 211 #[.slice ao n cap,RV d,.func (.func 212) #[] #[]] w fun e w'=>BsE w w' e L d n:=by
 have C3:∀ (args:Array Value) (w:World),(callFunc 212 args).run Tryz.prog w = .ok (.enter 212 args) w:=fun _ _=>rfl;have b1:=ze w (.cells (RC d) 48);have x1:=zT w 48 d;obtain ⟨w1,cR⟩:∃ w1,w.alloc (.cells (RC d) 48)=w1:=⟨_,rfl⟩;obtain ⟨g1,cT⟩:∃ g1,w.heap.size=g1:=⟨_,rfl⟩;rw [cR] at b1 x1;rw [cT] at x1;have aN:=hide b1;have HX:Hid (Box w1 g1 48 d/\K.aD w1 ao n cap L):=⟨x1,hS.below b1⟩;have pF:n <= 3518437208883:=hS.2.2.2.2;have HM:=hide hm;clear b1 x1 hS hm;go_enter Tryz.func211,Tryz.ntmps211;go_wp2_with fail;clear cR cT;go_loopw [9,10] (fun a b wr=>∃ (lo hi:Nat),a = .int .i64 (lo:Int)/\b = .int .i64 (hi:Int)/\lo <= hi/\hi <= n/\Hid (Below w1.heap.size w1 wr/\(∀ j,j < lo -> nrE (L.getD j K.en0) d < 0)/\(hi < n -> 0 <= nrE (L.getD hi K.en0) d))) (fun a b _=>(intOf b).toNat - (intOf a).toNat)
 case atStart=>exact ⟨0,n,rfl,rfl,Nat.zero_le _,Nat.le_refl _,Below.refl _ _,(fun j hj=>by omega),fun h=>by omega⟩
 case round =>
  obtain ⟨lo,hi,rfl,rfl,Fr,mt,HI⟩:=hrel
  rename World=>wr
  by_cases ak:lo < hi
  ·have cL:(lo:Int) < (hi:Int):=by omega
   obtain ⟨h,hh⟩:∃ h:Nat,(lo+hi) / 2=h:=⟨_,rfl⟩
   have uG:lo <= 3518437208883:=by omega
   have FB:hi <= 3518437208883:=by omega
   obtain ⟨t,ht⟩:∃ t:Nat,lo+hi=t:=⟨_,rfl⟩
   have et:(lo:Int)+(hi:Int)=(t:Int):=by omega
   have e2:(t:Int) / 2=(h:Int):=by omega
   have e3:t / 2=h:=by omega
   have HH:Hid (lo <= h/\h < hi/\h < n):=⟨by omega,by omega,by omega⟩
   have Fg:t <= 20000000000000:=by omega
   obtain ⟨ad,rfl,A0⟩:=(HX.out.2.below HI.out.1).at h HH.out.2.2;obtain ⟨s,Hs⟩:∃ s,Hid (L.getD h K.en0=s):=⟨_,rfl⟩
   have aG:Hid (∀ W,Below wr.heap.size wr W -> (K.ek (.pointer (some (ad.add (h * 4))))).run Tryz.prog W = .ok (K.EV s) W/\(ldD (.pointer (some ⟨g1,0,none⟩))).run Tryz.prog W = .ok (RV d) W):=fun W hW=>by
    obtain ⟨ad',e',A1⟩:=((HX.out.2.below HI.out.1).below hW).at h HH.out.2.2;obtain rfl:=Option.some.inj e';rw [Hs.out] at A1;exact ⟨K.zO A1,zG ((HX.out.1.below HI.out.1).below hW).at⟩
   have ug:(h:Int) < (n:Int):=by have:=HH.out;omega
   clear A0 hh ht;go_upto_region 5 with fail;clear et e2 e3;refine wp_region_held_drew (S:=fun W=>(Go.Proofs.YtjffpimfngdggaaGreat.K.ek (.pointer (some (ad.add (h * 4))))).run Tryz.prog W = .ok (K.EV s) W/\(ldD (.pointer (some ⟨g1,0,none⟩))).run Tryz.prog W = .ok (RV d) W) (by kernel_rfl) (aG.out _ (zg wr)) (fun hHeld=>?_);refine wU 0 ?_;refine wU 1 ?_;refine wU 2 ?_;refine wU 3 ?_;refine wU 4 ?_;refine wU 5 ?_;refine wpAnyH_ready (rs:=[6]) (by kernel_rfl) (by simp) (.cons rfl (fun K hK=>?_) .nil);go_simp;go_wp2_with fail;refine (zey s d _).mono ?_;rintro e w3 ⟨rfl,b3⟩;have dZ:Below wr.heap.size wr w3:=(zg wr).trans b3;have aB:=hide (HI.out.1.trans (dZ.mono HI.out.1.size));refine hK.out _ _ (aG.out _ dZ) (fun hHeld=>?_);clear hK K b3 dZ;obtain ⟨z,hz⟩:∃ z,nrE s d=z:=⟨_,rfl⟩;rw [hz];refine wU 7 ?_;refine wpAnyH_done (by kernel_rfl) ?_ _
   clear hHeld;by_cases dg:z < 0
   ·have HN:Hid (∀ j,j < h+1 -> nrE (L.getD j K.en0) d < 0):=fun j hj=>HM.out j h (by omega) HH.out.2.2 (by rw [Hs.out,hz];exact dg);clear hz;go_wp2_with fail;go_roundw
    case rel=>exact ⟨h+1,hi,by simp,rfl,by have:=HH.out;omega,mt,aB.out,HN.out,HI.out.2.2⟩
    case measure=>simp [intOf];have:=HH.out;omega
   ·have HN:Hid (h < n -> 0 <= nrE (L.getD h K.en0) d):=fun _=>by rw [Hs.out,hz];omega
    clear hz;go_wp2_with fail;go_roundw
    case rel=>exact ⟨lo,h,rfl,rfl,HH.out.1,by have:=HH.out;omega,aB.out,HI.out.2.1,HN.out⟩
    case measure=>simp [intOf];have:=HH.out;omega
  ·have cL:¬ (lo:Int) < (hi:Int):=by omega
   obtain rfl:lo=hi:=by omega
   have HF:Hid (oc L d n lo):=⟨mt,HI.out.2.1,HI.out.2.2⟩;have fR:=wTr aN HI.out.1;by_cases ic:lo < n
   ·have lP:(lo:Int) < (n:Int):=by omega
    obtain ⟨ad,rfl,A0⟩:=(HX.out.2.below HI.out.1).at lo ic;obtain ⟨s,Hs⟩:∃ s,Hid (L.getD lo K.en0=s):=⟨_,rfl⟩
    have aG:Hid (∀ W,Below wr.heap.size wr W -> (K.ek (.pointer (some (ad.add (lo * 4))))).run Tryz.prog W = .ok (K.EV s) W/\(ldD (.pointer (some ⟨g1,0,none⟩))).run Tryz.prog W = .ok (RV d) W):=fun W hW=>by
     obtain ⟨ad',e',A1⟩:=((HX.out.2.below HI.out.1).below hW).at lo ic;obtain rfl:=Option.some.inj e';rw [Hs.out] at A1;exact ⟨K.zO A1,zG ((HX.out.1.below HI.out.1).below hW).at⟩
    clear A0;go_upto_region 8 with fail;refine wp_region_held_drew (S:=fun W=>(Go.Proofs.YtjffpimfngdggaaGreat.K.ek (.pointer (some (ad.add (lo * 4))))).run Tryz.prog W = .ok (K.EV s) W/\(ldD (.pointer (some ⟨g1,0,none⟩))).run Tryz.prog W = .ok (RV d) W) (by kernel_rfl) (aG.out _ (zg wr)) (fun hHeld=>?_);refine wU 0 ?_;refine wU 1 ?_;refine wU 2 ?_;refine wU 3 ?_;refine wU 4 ?_;refine wU 5 ?_;refine wU 6 ?_;refine wU 7 ?_;refine wU 8 ?_;refine wU 9 ?_;refine wU 10 ?_;refine wpAnyH_ready (rs:=[11]) (by kernel_rfl) (by simp) (.cons rfl (fun K hK=>?_) .nil);go_simp;go_wp2_with fail;refine (zey s d _).mono ?_;rintro e w3 ⟨rfl,b3⟩;have dZ:Below wr.heap.size wr w3:=(zg wr).trans b3;have aB:=wTr fR dZ;refine hK.out _ _ (aG.out _ dZ) (fun hHeld=>?_);clear hK K b3 dZ;obtain ⟨z,hz⟩:∃ z,nrE s d=z:=⟨_,rfl⟩;rw [hz]
    have Gm:Hid (nrE (L.getD lo K.en0) d=z):=by show _=_;rw [Hs.out];exact hz
    clear hz;refine wU 14 ?_;refine wU 12 ?_;refine wU 13 ?_;refine wU 15 ?_;refine wpAnyH_done (by kernel_rfl) ?_ _;clear hHeld;go_wp2_with fail;go_ret2;exact ⟨lo,_,rfl,HF.out,by rw [Gm.out];simp [ic],aB.out⟩
   ·have lP:¬ (lo:Int) < (n:Int):=by omega
    go_upto_region 8 with fail;refine wp_region_held_drew (S:=fun _=>True) (by kernel_rfl) (trivial) (fun hHeld=>?_);refine wU 0 ?_;refine wU 1 ?_;refine wU 2 ?_;refine wU 3 ?_;refine wU 4 ?_;refine wV 5 ?_;refine wV 6 ?_;refine wV 7 ?_;refine wV 8 ?_;refine wV 9 ?_;refine wV 10 ?_;refine wV 11 ?_;refine wV 12 ?_;refine wU 14 ?_;refine wU 13 ?_;refine wU 15 ?_;refine wpAnyH_done (by kernel_rfl) ?_ _;clear hHeld;go_wp2_with fail;go_ret2;exact ⟨lo,_,rfl,HF.out,by simp [ic],fR.out.trans ((zg wr).mono fR.out.size)⟩
end
section
open Go.RowKit
theorem bX (s:K.En) (d:Rn):nrE s d=0↔gV s=d:=by
 unfold nrE or2 au gV;obtain ⟨lo,hi⟩:=d;simp only [Rn.mk.injEq];by_cases h1:s.rep < lo
 ·simp [h1];omega
 ·by_cases h2:lo < s.rep
  ·simp [h1,h2];omega
  ·have h3:s.rep=lo:=by omega
   by_cases h4:s.num < hi
   ·simp [h3,h4];omega
   ·by_cases h5:hi < s.num
    ·simp [h3,h4,h5];omega
    ·simp [h3,h4,h5];omega
theorem za8 {x y:K.En} {d:Rn} (h:K.ahead x y=true) (hy:nrE y d <= 0):nrE x d < 0:=by
 rw [zex];unfold K.ahead at h;simp only [Bool.or_eq_true,Bool.and_eq_true,decide_eq_true_eq,beq_iff_eq] at h;by_cases h0:nrE y d=0
 ·have:=(bX y d).1 h0;subst this;unfold gV;dsimp only;omega
 ·have:=(zex y d).1 (by omega);omega
theorem zhG {L:List K.En} (h:K.chk L=0) {i j:Nat} (pt:i < j) (hj:j < L.length):K.ahead (L.getD i K.en0) (L.getD j K.en0)=true:=by
 have:=List.pairwise_iff_getElem.1 (K.ve h) i j (by omega) hj pt;rw [List.getD_eq_getElem?_getD,List.getElem?_eq_getElem (by omega),List.getD_eq_getElem?_getD,List.getElem?_eq_getElem hj];exact this
theorem zga {L:List K.En} {d:Rn} (h:K.chk L=0) (a b:Nat) (dS:a <= b) (hb:b < L.length) (hn:nrE (L.getD b K.en0) d < 0):nrE (L.getD a K.en0) d < 0:=by
 by_cases e:a=b
 ·rw [e];exact hn
 ·exact za8 (zhG h (by omega) hb) (by omega)
def AoD (L:List K.En) (d:Rn) (e:K.En) (b:Bool):Prop:=(b=true/\e∈L/\gV e=d)∨(b=false/\e=K.en0/\∀ y∈L,gV y≠d)
theorem ze2 {L:List K.En} {d:Rn} {n i:Nat} (hc:K.chk L=0) (hl:L.length=n) (hF:oc L d n i) (hb:¬ (i < n/\nrE (L.getD i K.en0) d=0)):∀ y∈L,gV y≠d:=by
 intro y hy e;obtain ⟨j,hj,rfl⟩:=List.getElem_of_mem hy
 have e0:L.getD j K.en0=L[j]:=by rw [List.getD_eq_getElem?_getD,List.getElem?_eq_getElem hj];rfl
 have h0:nrE (L.getD j K.en0) d=0:=by rw [e0];exact (bX _ _).2 e
 rcases Nat.lt_trichotomy j i with q | q | q
 ·have:=hF.2.1 j q;omega
 ·subst q;exact hb ⟨by omega,h0⟩
 ·have h1:=za8 (d:=d) (zhG hc q hj) (by omega);have:=hF.2.2 (by omega);omega
attribute [local go_sem ↓] zB zz zV zU K.zx K.zw zc8
attribute [local go_sem] zk zm zC zN zS ql K.zI K.zt K.zF zaV
def uO (a:Array (Nat × Value)):Sem Value:=Instr.build 50 a
theorem zhd (a:Array (Nat × Value)):Instr.build 50 a=uO a:=rfl
theorem zek (w:World):(uO #[]).run Tryz.prog w = .ok (K.EV K.en0) w:=by kernel_rfl
attribute [local go_sem ↓] zhd
attribute [local go_sem] zek
theorem zfv (ao:Option Addr) (n c:Nat) (L:List K.En) (d:Rn) (w:World) (hS:K.aD w ao n c L) (hc:K.chk L=0) :
  Calls Tryz.prog 173 #[.slice ao n c,RV d] w fun x w'=>∃ e b,x = .returned (.tuple #[K.EV e,.bool b])/\AoD L d e b/\Below w.heap.size w w':=by
 have b1:=ze w (.cells (RC d) 48);have X1:=zT w 48 d
 have z1:(w.alloc (.cells (RC d) 48)).heap.size=w.heap.size+1:=by simp
 obtain ⟨w1,cR⟩:∃ w1,w.alloc (.cells (RC d) 48)=w1:=⟨_,rfl⟩;rw [cR] at b1 X1 z1;have b2:=ze w1 (.cells (K.EC K.en0) 50);have X2:=K.zT w1 50 K.en0;obtain ⟨wk,aY⟩:∃ wk,w1.alloc (.cells (K.EC K.en0) 50)=wk:=⟨_,rfl⟩;obtain ⟨G,hG⟩:∃ G,w.heap.size=G:=⟨_,rfl⟩;rw [aY] at b2 X2;rw [z1,hG] at X2;rw [hG] at X1;have HX:=hide (X1.below b2);have HY:=hide X2;have aq:=hide (b1.trans (b2.mono b1.size));have HS:=hide (hS.below aq.out);have HC:=hide hc;have fU:Hid (w.heap.size=G):=hG;clear b1 X1 b2 X2 hS hc
 have ld:=zG HX.out.at
 go_enter Tryz.func173,Tryz.ntmps173;go_wp2_with fail;clear cR aY z1 hG;refine (ziw ao n c L d _ HS.out (fun a b dS hb hn=>zga HC.out a b dS (by rw [HS.out.1];exact hb) hn)).mono ?_;rintro e w3 ⟨i,b,rfl,hF,hb,b3⟩;have aB:=wTr aq b3;have Cg:=hide (HY.out.below b3);have oS:=hide (HS.out.below b3);have HF:=hide hF;clear b3 ld hF
 cases b with
 | false =>
  have fw:¬ (i < n/\nrE (L.getD i K.en0) d=0):=fun h=>by have:=hb.2 h;cases this
  have HD:Hid (AoD L d K.en0 false):=.inr ⟨rfl,rfl,ze2 HC.out HS.out.1 HF.out fw⟩;have st:=K.kB (e':=K.en0) Cg.out;have HZ:=hide (Cg.out.setRow (e':=K.en0));have uk:=hide (zh (cs:=K.EC K.en0) aB.out (show w.heap.size <= G+1 by rw [fU.out];omega));clear hb fw;go_wp2_with fail;clear st;refine bodyPost_ret (K.tQ rfl rfl rfl HZ.out) rfl ?_;exact ⟨_,_,rfl,HD.out,uk.out⟩
 | true =>
  obtain ⟨hi,h0⟩:=hb.1 rfl;obtain ⟨ad,eO,A0⟩:=oS.out.at i hi;subst eO
  have NO:(i:Int) < (n:Int):=by omega
  have HD:Hid (AoD L d (L.getD i K.en0) true):=.inl ⟨rfl,zgy (by rw [HS.out.1];exact hi),(bX _ _).1 h0⟩;obtain ⟨y,Hy⟩:∃ y,Hid (L.getD i K.en0=y):=⟨_,rfl⟩;rw [Hy.out] at A0 HD;have dK:=K.zO A0;have st:=K.kB (e':=y) Cg.out;have HZ:=hide (Cg.out.setRow (e':=y));have uk:=hide (zh (cs:=K.EC y) aB.out (show w.heap.size <= G+1 by rw [fU.out];omega));clear hb h0 A0;go_wp2_with fail;clear st dK;refine bodyPost_ret (K.tQ rfl rfl rfl HZ.out) rfl ?_;exact ⟨_,_,rfl,HD.out,uk.out⟩
end
end Go.Proofs.YtjffpimfngdggaaGreat
