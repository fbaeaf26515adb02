/- TNe TEb TAo -/
import Derived.Test.YtjffpimfngdggaaGreatTk
import Derived.Test.YtjffpimfngdggaaGreatFs17
import Derived.Test.YtjffpimfngdggaaGreatFs18
import Derived.Deep.CutRange
import Derived.Test.YtjffpimfngdggaaGreatFs38
import Derived.Test.YtjffpimfngdggaaGreatFs34
set_option maxRecDepth 100000
set_option maxHeartbeats 3200000
namespace Go.Proofs.YtjffpimfngdggaaGreat
section
open Go.RowKit

def nrE (s:K.En) (d:Rn):Int:=or2 (cmpI s.rep d.lo) (cmpI s.num d.hi)
theorem zeI (s:K.En) (d:Rn):nrE s d < 0↔s.rep < d.lo∨(s.rep=d.lo/\s.num < d.hi):=by
 unfold nrE or2 cmpI;by_cases h1:s.rep < d.lo
 ·simp [h1]
 ·by_cases h2:d.lo < s.rep
  ·simp [h1,h2];omega
  ·have h3:s.rep=d.lo:=by omega
   by_cases h4:s.num < d.hi
   ·simp [h3,h4]
   ·by_cases h5:d.hi < s.num <;> simp [h3,h4,h5]
theorem zeJ (s:K.En) (d:Rn) (w:World):Calls Tryz.prog 212 #[K.EV s,RV d] w fun e w'=>e = .returned (.int .i64 (nrE s d))/\Below w.heap.size w w':=by
 have b1:=ze w (.cells (K.EC s) 50);have x1:=K.qe w 50 s;have s1:=World.size_alloc w (.cells (K.EC s) 50);obtain ⟨w1,hw1⟩:∃ w1,w.alloc (.cells (K.EC s) 50)=w1:=⟨_,rfl⟩;obtain ⟨g1,hg1⟩:∃ g1,w.heap.size=g1:=⟨_,rfl⟩;rw [hw1] at b1 x1 s1;rw [hg1] at x1 s1;have b2:=ze w1 (.cells (RC d) 48);have x2:=qe w1 48 d;obtain ⟨w2,hw2⟩:∃ w2,w1.alloc (.cells (RC d) 48)=w2:=⟨_,rfl⟩;rw [hw2] at b2 x2;rw [s1] at x2;have HB:=hide (b1.trans (b2.mono b1.size));have HX:Hid (K.Box w2 g1 50 s/\Box w2 (g1+1) 48 d):=⟨x1.below b2,x2⟩
 have HSt:Hid (∀ W,Below w2.heap.size w2 W -> W.cell? ⟨g1,0,none⟩=some (.int .i64 s.rep)/\W.cell? ⟨g1,1,none⟩=some (.int .i64 s.num)/\W.cell? ⟨g1+1,0,none⟩=some (.int .i64 d.lo)/\W.cell? ⟨g1+1,1,none⟩=some (.int .i64 d.hi)):=fun W hW=>by
  obtain ⟨c0,c2⟩:W.cell? ⟨g1,0,none⟩=some (.int .i64 s.rep)/\W.cell? ⟨g1,1,none⟩=some (.int .i64 s.num):=by
   have A:=(HX.out.1.below hW).at
   exact ⟨A.c0,A.c1⟩
  have hd:=(HX.out.2.below hW).at
  exact ⟨c0,c2,hd.c0,hd.c1⟩
 obtain ⟨p,Hp⟩:∃ p,Hid (cmpI s.rep d.lo=p):=⟨_,rfl⟩;obtain ⟨q,Hq⟩:∃ q,Hid (cmpI s.num d.hi=q):=⟨_,rfl⟩
 have HR:Hid (nrE s d=or2 p q):=by show _=_;unfold nrE;rw [Hp.out,Hq.out]
 clear b1 b2 x1 x2;go_enter Tryz.func212,Tryz.ntmps212;go_wp2_with fail;clear hw1 hw2 s1 hg1;refine wp_region_held_drew (S:=fun W=>W.cell? ⟨g1,0,none⟩=some (.int .i64 s.rep)/\W.cell? ⟨g1,1,none⟩=some (.int .i64 s.num)/\W.cell? ⟨g1+1,0,none⟩=some (.int .i64 d.lo)/\W.cell? ⟨g1+1,1,none⟩=some (.int .i64 d.hi)) (by kernel_rfl) (HSt.out _ (zf w2)) (fun hHeld=>?_);refine wU 0 ?_;refine wU 1 ?_;refine wU 2 ?_;refine wU 3 ?_;refine wU 4 ?_;refine wU 6 ?_;refine wU 7 ?_;refine wU 8 ?_;refine wU 9 ?_;refine wU 10 ?_;refine wpAnyH_ready (rs:=[5]) (by kernel_rfl) (by simp) (.cons rfl (fun K hK=>?_) .nil);go_simp;go_wp2_with fail;refine (qK s.rep d.lo _).mono ?_;rintro e w' ⟨rfl,rfl⟩;rw [Hp.out];refine hK.out _ _ (HSt.out _ (zf w2)) (fun hHeld=>?_);clear hK K;refine wpAnyH_ready (rs:=[11]) (by kernel_rfl) (by simp) (.cons rfl (fun K hK=>?_) .nil)
 go_simp;go_wp2_with fail;refine (qK s.num d.hi _).mono ?_;rintro e w' ⟨rfl,rfl⟩;rw [Hq.out];refine hK.out _ _ (HSt.out _ (zf w2)) (fun hHeld=>?_);clear hK K;have HB3:=hide ((zf w2).trans (ze w2.drew (.cells #[.int .i64 p,.int .i64 q] 3)));have HO:=hide (zaa p q w2.drew w2.heap.size rfl);refine wpAnyH_ready (rs:=[12]) (by kernel_rfl) (by simp) (.cons rfl (fun K hK=>?_) .nil);go_simp;refine hK.out _ _ (HSt.out _ HB3.out) (fun hHeld=>?_);clear hK K;refine wpAnyH_ready (rs:=[13]) (by kernel_rfl) (by simp) (.cons rfl (fun K hK=>?_) .nil);go_simp;go_wp2_with fail;refine HO.out.mono ?_;rintro e w' ⟨rfl,rfl⟩;refine hK.out _ _ (HSt.out _ HB3.out) (fun hHeld=>?_);clear hK K;refine wU 14 ?_;refine wpAnyH_done (by kernel_rfl) ?_ _;clear hHeld;go_wp2_with fail;go_ret;exact ⟨zG HR.out.symm,HB.out.trans (HB3.out.mono HB.out.size)⟩
end
section
open Go.RowKit
attribute [local go_sem ↓] K.zy K.zx qh qg
attribute [local go_sem] K.zJ K.zu K.zH
variable {w w' w2 W W' : World} {g : Nat}

def FirstE (L:List K.En) (d:Rn) (n i:Nat):Prop:=i <= n/\(∀ j,j < i -> nrE (L.getD j K.en0) d < 0)/\(i < n -> 0 <= nrE (L.getD i K.en0) d)
def BsE (w w':World) (e:Ending) (L:List K.En) (d:Rn) (n:Nat):Prop:=∃ (i:Nat) (b:Bool),e = .returned (.tuple #[.int .i64 (i:Int),.bool b])/\FirstE L d n i/\(b=true↔i < n/\nrE (L.getD i K.en0) d=0)/\Below w.heap.size w w'
theorem zix (ao:Option Addr) (n cap:Nat) (L:List K.En) (d:Rn) (w:World) (hS:K.ESrc w ao n cap L) (hm:∀ a b,a <= b -> b < n -> nrE (L.getD b K.en0) d < 0 -> nrE (L.getD a K.en0) d < 0) :
  Calls Tryz.prog 211 #[.slice ao n cap,RV d,.func (.func 212) #[] #[]] w fun e w'=>BsE w w' e L d n:=by
 have hcf:∀ (args:Array Value) (w:World),(callFunc 212 args).run Tryz.prog w = .ok (.enter 212 args) w:=fun _ _=>rfl;have b1:=ze w (.cells (RC d) 48);have x1:=qe w 48 d;obtain ⟨w1,hw1⟩:∃ w1,w.alloc (.cells (RC d) 48)=w1:=⟨_,rfl⟩;obtain ⟨g1,hg1⟩:∃ g1,w.heap.size=g1:=⟨_,rfl⟩;rw [hw1] at b1 x1;rw [hg1] at x1;have HB1:=hide b1;have HX:Hid (Box w1 g1 48 d/\K.ESrc w1 ao n cap L):=⟨x1,hS.below b1⟩;have hnb:n <= 3518437208883:=hS.2.2.2.2;have HM:=hide hm;clear b1 x1 hS hm;go_enter Tryz.func211,Tryz.ntmps211;go_wp2_with fail;clear hw1 hg1;go_loopw [9,10] (fun a b wr=>∃ (lo hi:Nat),a = .int .i64 (lo:Int)/\b = .int .i64 (hi:Int)/\lo <= hi/\hi <= n/\Hid (Below w1.heap.size w1 wr/\(∀ j,j < lo -> nrE (L.getD j K.en0) d < 0)/\(hi < n -> 0 <= nrE (L.getD hi K.en0) d))) (fun a b _=>(intOf b).toNat - (intOf a).toNat)
 case atStart=>exact ⟨0,n,rfl,rfl,Nat.zero_le _,Nat.le_refl _,Below.refl _ _,(fun j hj=>by omega),fun h=>by omega⟩
 case round =>
  obtain ⟨lo,hi,rfl,rfl,hlh,hhn,HI⟩:=hrel
  rename World=>wr
  by_cases hlt:lo < hi
  ·have hlti:(lo:Int) < (hi:Int):=by omega
   obtain ⟨h,hh⟩:∃ h:Nat,(lo+hi) / 2=h:=⟨_,rfl⟩
   have hlb:lo <= 3518437208883:=by omega
   have hhb:hi <= 3518437208883:=by omega
   obtain ⟨t,ht⟩:∃ t:Nat,lo+hi=t:=⟨_,rfl⟩
   have et:(lo:Int)+(hi:Int)=(t:Int):=by omega
   have e2:(t:Int) / 2=(h:Int):=by omega
   have e3:t / 2=h:=by omega
   have HH:Hid (lo <= h/\h < hi/\h < n):=⟨by omega,by omega,by omega⟩
   have htb:t <= 20000000000000:=by omega
   obtain ⟨ad,rfl,A0⟩:=(HX.out.2.below HI.out.1).at h HH.out.2.2;obtain ⟨s,Hs⟩:∃ s,Hid (L.getD h K.en0=s):=⟨_,rfl⟩
   have HSt:Hid (∀ W,Below wr.heap.size wr W -> (K.ld28 (.pointer (some (ad.add (h * 4))))).run Tryz.prog W = .ok (K.EV s) W/\(ldD (.pointer (some ⟨g1,0,none⟩))).run Tryz.prog W = .ok (RV d) W):=fun W hW=>by
    obtain ⟨ad',e',A1⟩:=((HX.out.2.below HI.out.1).below hW).at h HH.out.2.2;obtain rfl:=Option.some.inj e';rw [Hs.out] at A1;exact ⟨K.zN A1,qm ((HX.out.1.below HI.out.1).below hW).at⟩
   have hhi:(h:Int) < (n:Int):=by have:=HH.out;omega
   clear A0 hh ht;go_upto_region 5 with fail;clear et e2 e3;refine wp_region_held_drew (S:=fun W=>(Go.Proofs.YtjffpimfngdggaaGreat.K.ld28 (.pointer (some (ad.add (h * 4))))).run Tryz.prog W = .ok (K.EV s) W/\(ldD (.pointer (some ⟨g1,0,none⟩))).run Tryz.prog W = .ok (RV d) W) (by kernel_rfl) (HSt.out _ (zf wr)) (fun hHeld=>?_);refine wU 0 ?_;refine wU 1 ?_;refine wU 2 ?_;refine wU 3 ?_;refine wU 4 ?_;refine wU 5 ?_;refine wpAnyH_ready (rs:=[6]) (by kernel_rfl) (by simp) (.cons rfl (fun K hK=>?_) .nil);go_simp;go_wp2_with fail;refine (zeJ s d _).mono ?_;rintro e w3 ⟨rfl,b3⟩;have hB3:Below wr.heap.size wr w3:=(zf wr).trans b3;have HB3:=hide (HI.out.1.trans (hB3.mono HI.out.1.size));refine hK.out _ _ (HSt.out _ hB3) (fun hHeld=>?_);clear hK K b3 hB3;obtain ⟨z,hz⟩:∃ z,nrE s d=z:=⟨_,rfl⟩;rw [hz];refine wU 7 ?_;refine wpAnyH_done (by kernel_rfl) ?_ _
   clear hHeld;by_cases hz0:z < 0
   ·have HN:Hid (∀ j,j < h+1 -> nrE (L.getD j K.en0) d < 0):=fun j hj=>HM.out j h (by omega) HH.out.2.2 (by rw [Hs.out,hz];exact hz0);clear hz;go_wp2_with fail;go_roundw
    case rel=>exact ⟨h+1,hi,by simp,rfl,by have:=HH.out;omega,hhn,HB3.out,HN.out,HI.out.2.2⟩
    case measure=>simp [intOf];have:=HH.out;omega
   ·have HN:Hid (h < n -> 0 <= nrE (L.getD h K.en0) d):=fun _=>by rw [Hs.out,hz];omega
    clear hz;go_wp2_with fail;go_roundw
    case rel=>exact ⟨lo,h,rfl,rfl,HH.out.1,by have:=HH.out;omega,HB3.out,HI.out.2.1,HN.out⟩
    case measure=>simp [intOf];have:=HH.out;omega
  ·have hlti:¬ (lo:Int) < (hi:Int):=by omega
   obtain rfl:lo=hi:=by omega
   have HF:Hid (FirstE L d n lo):=⟨hhn,HI.out.2.1,HI.out.2.2⟩;have HBw:=wTr HB1 HI.out.1;by_cases hln:lo < n
   ·have hlni:(lo:Int) < (n:Int):=by omega
    obtain ⟨ad,rfl,A0⟩:=(HX.out.2.below HI.out.1).at lo hln;obtain ⟨s,Hs⟩:∃ s,Hid (L.getD lo K.en0=s):=⟨_,rfl⟩
    have HSt:Hid (∀ W,Below wr.heap.size wr W -> (K.ld28 (.pointer (some (ad.add (lo * 4))))).run Tryz.prog W = .ok (K.EV s) W/\(ldD (.pointer (some ⟨g1,0,none⟩))).run Tryz.prog W = .ok (RV d) W):=fun W hW=>by
     obtain ⟨ad',e',A1⟩:=((HX.out.2.below HI.out.1).below hW).at lo hln;obtain rfl:=Option.some.inj e';rw [Hs.out] at A1;exact ⟨K.zN A1,qm ((HX.out.1.below HI.out.1).below hW).at⟩
    clear A0;go_upto_region 8 with fail;refine wp_region_held_drew (S:=fun W=>(Go.Proofs.YtjffpimfngdggaaGreat.K.ld28 (.pointer (some (ad.add (lo * 4))))).run Tryz.prog W = .ok (K.EV s) W/\(ldD (.pointer (some ⟨g1,0,none⟩))).run Tryz.prog W = .ok (RV d) W) (by kernel_rfl) (HSt.out _ (zf wr)) (fun hHeld=>?_);refine wU 0 ?_;refine wU 1 ?_;refine wU 2 ?_;refine wU 3 ?_;refine wU 4 ?_;refine wU 5 ?_;refine wU 6 ?_;refine wU 7 ?_;refine wU 8 ?_;refine wU 9 ?_;refine wU 10 ?_;refine wpAnyH_ready (rs:=[11]) (by kernel_rfl) (by simp) (.cons rfl (fun K hK=>?_) .nil);go_simp;go_wp2_with fail;refine (zeJ s d _).mono ?_;rintro e w3 ⟨rfl,b3⟩;have hB3:Below wr.heap.size wr w3:=(zf wr).trans b3;have HB3:=wTr HBw hB3;refine hK.out _ _ (HSt.out _ hB3) (fun hHeld=>?_);clear hK K b3 hB3;obtain ⟨z,hz⟩:∃ z,nrE s d=z:=⟨_,rfl⟩;rw [hz]
    have HZ0:Hid (nrE (L.getD lo K.en0) d=z):=by show _=_;rw [Hs.out];exact hz
    clear hz;refine wU 14 ?_;refine wU 12 ?_;refine wU 13 ?_;refine wU 15 ?_;refine wpAnyH_done (by kernel_rfl) ?_ _;clear hHeld;go_wp2_with fail;go_ret2;exact ⟨lo,_,rfl,HF.out,by rw [HZ0.out];simp [hln],HB3.out⟩
   ·have hlni:¬ (lo:Int) < (n:Int):=by omega
    go_upto_region 8 with fail;refine wp_region_held_drew (S:=fun _=>True) (by kernel_rfl) (trivial) (fun hHeld=>?_);refine wU 0 ?_;refine wU 1 ?_;refine wU 2 ?_;refine wU 3 ?_;refine wU 4 ?_;refine wV 5 ?_;refine wV 6 ?_;refine wV 7 ?_;refine wV 8 ?_;refine wV 9 ?_;refine wV 10 ?_;refine wV 11 ?_;refine wV 12 ?_;refine wU 14 ?_;refine wU 13 ?_;refine wU 15 ?_;refine wpAnyH_done (by kernel_rfl) ?_ _;clear hHeld;go_wp2_with fail;go_ret2;exact ⟨lo,_,rfl,HF.out,by simp [hln],HBw.out.trans ((zf wr).mono HBw.out.size)⟩
end
section
open Go.RowKit
theorem zaf (s:K.En) (d:Rn):nrE s d=0↔dotE s=d:=by
 unfold nrE or2 cmpI dotE;obtain ⟨lo,hi⟩:=d;simp only [Rn.mk.injEq];by_cases h1:s.rep < lo
 ·simp [h1];omega
 ·by_cases h2:lo < s.rep
  ·simp [h1,h2];omega
  ·have h3:s.rep=lo:=by omega
   by_cases h4:s.num < hi
   ·simp [h3,h4];omega
   ·by_cases h5:hi < s.num
    ·simp [h3,h4,h5];omega
    ·simp [h3,h4,h5];omega
theorem zbf {x y:K.En} {d:Rn} (h:K.ahead x y=true) (hy:nrE y d <= 0):nrE x d < 0:=by
 rw [zeI];unfold K.ahead at h;simp only [Bool.or_eq_true,Bool.and_eq_true,decide_eq_true_eq,beq_iff_eq] at h;by_cases h0:nrE y d=0
 ·have:=(zaf y d).1 h0;subst this;unfold dotE;dsimp only;omega
 ·have:=(zeI y d).1 (by omega);omega
theorem zhO {L:List K.En} (h:K.chk L=0) {i j:Nat} (hij:i < j) (hj:j < L.length):K.ahead (L.getD i K.en0) (L.getD j K.en0)=true:=by
 have:=List.pairwise_iff_getElem.1 (K.wH h) i j (by omega) hj hij;rw [List.getD_eq_getElem?_getD,List.getElem?_eq_getElem (by omega),List.getD_eq_getElem?_getD,List.getElem?_eq_getElem hj];exact this
theorem zgk {L:List K.En} {d:Rn} (h:K.chk L=0) (a b:Nat) (hab:a <= b) (hb:b < L.length) (hn:nrE (L.getD b K.en0) d < 0):nrE (L.getD a K.en0) d < 0:=by
 by_cases e:a=b
 ·rw [e];exact hn
 ·exact zbf (zhO h (by omega) hb) (by omega)
def AoD (L:List K.En) (d:Rn) (e:K.En) (b:Bool):Prop:=(b=true/\e∈L/\dotE e=d)∨(b=false/\e=K.en0/\∀ y∈L,dotE y≠d)
theorem zfd {L:List K.En} {d:Rn} {n i:Nat} (hc:K.chk L=0) (hl:L.length=n) (hF:FirstE L d n i) (hb:¬ (i < n/\nrE (L.getD i K.en0) d=0)):∀ y∈L,dotE y≠d:=by
 intro y hy e;obtain ⟨j,hj,rfl⟩:=List.getElem_of_mem hy
 have e0:L.getD j K.en0=L[j]:=by rw [List.getD_eq_getElem?_getD,List.getElem?_eq_getElem hj];rfl
 have h0:nrE (L.getD j K.en0) d=0:=by rw [e0];exact (zaf _ _).2 e
 rcases Nat.lt_trichotomy j i with q | q | q
 ·have:=hF.2.1 j q;omega
 ·subst q;exact hb ⟨by omega,h0⟩
 ·have h1:=zbf (d:=d) (zhO hc q hj) (by omega);have:=hF.2.2 (by omega);omega
attribute [local go_sem ↓] zD zC qh qg K.zy K.zx zdi
attribute [local go_sem] zl zp zF zQ zW qp K.zJ K.zu K.zH zaZ
def bldEz (a:Array (Nat × Value)):Sem Value:=Instr.build 50 a
theorem zhj (a:Array (Nat × Value)):Instr.build 50 a=bldEz a:=rfl
theorem zev (w:World):(bldEz #[]).run Tryz.prog w = .ok (K.EV K.en0) w:=by kernel_rfl
attribute [local go_sem ↓] zhj
attribute [local go_sem] zev
theorem zfE (ao:Option Addr) (n c:Nat) (L:List K.En) (d:Rn) (w:World) (hS:K.ESrc w ao n c L) (hc:K.chk L=0) :
  Calls Tryz.prog 173 #[.slice ao n c,RV d] w fun x w'=>∃ e b,x = .returned (.tuple #[K.EV e,.bool b])/\AoD L d e b/\Below w.heap.size w w':=by
 have b1:=ze w (.cells (RC d) 48);have X1:=qe w 48 d
 have z1:(w.alloc (.cells (RC d) 48)).heap.size=w.heap.size+1:=by simp
 obtain ⟨w1,hw1⟩:∃ w1,w.alloc (.cells (RC d) 48)=w1:=⟨_,rfl⟩;rw [hw1] at b1 X1 z1;have b2:=ze w1 (.cells (K.EC K.en0) 50);have X2:=K.qe w1 50 K.en0;obtain ⟨wk,hwk⟩:∃ wk,w1.alloc (.cells (K.EC K.en0) 50)=wk:=⟨_,rfl⟩;obtain ⟨G,hG⟩:∃ G,w.heap.size=G:=⟨_,rfl⟩;rw [hwk] at b2 X2;rw [z1,hG] at X2;rw [hG] at X1;have HX:=hide (X1.below b2);have HY:=hide X2;have HBK:=hide (b1.trans (b2.mono b1.size));have HS:=hide (hS.below HBK.out);have HC:=hide hc;have HGs:Hid (w.heap.size=G):=hG;clear b1 X1 b2 X2 hS hc
 have ld:=qm HX.out.at
 go_enter Tryz.func173,Tryz.ntmps173;go_wp2_with fail;clear hw1 hwk z1 hG;refine (zix ao n c L d _ HS.out (fun a b hab hb hn=>zgk HC.out a b hab (by rw [HS.out.1];exact hb) hn)).mono ?_;rintro e w3 ⟨i,b,rfl,hF,hb,b3⟩;have HB3:=wTr HBK b3;have HY3:=hide (HY.out.below b3);have HS3:=hide (HS.out.below b3);have HF:=hide hF;clear b3 ld hF
 cases b with
 | false =>
  have hno:¬ (i < n/\nrE (L.getD i K.en0) d=0):=fun h=>by have:=hb.2 h;cases this
  have HD:Hid (AoD L d K.en0 false):=.inr ⟨rfl,rfl,zfd HC.out HS.out.1 HF.out hno⟩;have st:=K.bM (e':=K.en0) HY3.out;have HZ:=hide (HY3.out.setRow (e':=K.en0));have HBz:=hide (zh (cs:=K.EC K.en0) HB3.out (show w.heap.size <= G+1 by rw [HGs.out];omega));clear hb hno;go_wp2_with fail;clear st;refine bodyPost_ret (K.resF rfl rfl rfl HZ.out) rfl ?_;exact ⟨_,_,rfl,HD.out,HBz.out⟩
 | true =>
  obtain ⟨hi,h0⟩:=hb.1 rfl;obtain ⟨ad,hao,A0⟩:=HS3.out.at i hi;subst hao
  have hii:(i:Int) < (n:Int):=by omega
  have HD:Hid (AoD L d (L.getD i K.en0) true):=.inl ⟨rfl,zao (by rw [HS.out.1];exact hi),(zaf _ _).1 h0⟩;obtain ⟨y,Hy⟩:∃ y,Hid (L.getD i K.en0=y):=⟨_,rfl⟩;rw [Hy.out] at A0 HD;have hld:=K.zN A0;have st:=K.bM (e':=y) HY3.out;have HZ:=hide (HY3.out.setRow (e':=y));have HBz:=hide (zh (cs:=K.EC y) HB3.out (show w.heap.size <= G+1 by rw [HGs.out];omega));clear hb h0 A0;go_wp2_with fail;clear st hld;refine bodyPost_ret (K.resF rfl rfl rfl HZ.out) rfl ?_;exact ⟨_,_,rfl,HD.out,HBz.out⟩
end
end Go.Proofs.YtjffpimfngdggaaGreat
