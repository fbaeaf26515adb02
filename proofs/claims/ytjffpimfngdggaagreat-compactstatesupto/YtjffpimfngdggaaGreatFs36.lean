/- LWi LTo EJd GEr GRf GOa GAe QLb QNy GRv SXh BEn BPl BCl BAp BLf -/
import Derived.Test.YtjffpimfngdggaaGreatTk
import Derived.Test.YtjffpimfngdggaaGreatFs35
import Derived.Test.YtjffpimfngdggaaGreatFs34
import Derived.Test.YtjffpimfngdggaaGreatFs18
import Derived.Test.YtjffpimfngdggaaGreatFs15
import Derived.Test.YtjffpimfngdggaaGreatFs00
import Derived.Test.YtjffpimfngdggaaGreatFs16
import Derived.Test.YtjffpimfngdggaaGreatFs25
import Derived.Test.YtjffpimfngdggaaGreatFs09
import Derived.Deep.CutRange
import Derived.Test.YtjffpimfngdggaaGreatFs21
import Derived.Test.YtjffpimfngdggaaGreatFs31
import Derived.Test.YtjffpimfngdggaaGreatFs26
set_option maxRecDepth 100000
set_option maxHeartbeats 3200000
namespace Go.Proofs.YtjffpimfngdggaaGreat.K
section
open Go.RowKit Go.Maps
attribute [local go_sem ↓] zhw
attribute [local go_sem] zd3 zdd zfI
theorem ziS (t:ByteArray) (a b:Int):((((LC ln0).setIfInBounds 0 (.string t)).setIfInBounds 1 (.int .i64 a)).setIfInBounds 2 (.int .i64 b))=LC ⟨t,a,b⟩:=rfl
def RL (v:Value):Option (DataW Ln × List MemPlace):=
 match v with
 | .agg cs=>(match cs.toList with
  | [.string s,.int .i64 q,.int .i64 p]=>some (.held ⟨s,q,p⟩,[])
  | _=>none)
 | _=>none
attribute [local go_sem] ziS
end
section
open Go.RowKit
attribute [local go_sem ↓] zy zx zi8 zhw
attribute [local go_sem] zJ zu zH zd3 zdd zfI
def ttl:List En -> Int
 | []=>0
 | e :: r=>e.qty+ttl r
def totV (L:List En):Int:=if chk L=0 then ttl L else 0
def lnV (L:List En) (s:ByteArray):Ln:=if ofE L s=0 then lineOf L s else ln0
end
end Go.Proofs.YtjffpimfngdggaaGreat.K
namespace Go.Proofs.YtjffpimfngdggaaGreat
open Go.RowKit
attribute [local go_sem ↓] zr zq qh qg K.zy K.zx
attribute [local go_sem] zi zk
def dsB (s:ByteArray) (r:Int) (e:K.En):Bool:=(decide (s.size=0) || (e.sku.toList == s.toList)) && (decide (r < 0) || (e.rep == r))
theorem resP1 {w:World} {g:Nat} {fn:Func} {p:Tmp} {m:Pv} (h:fn.results=#[.cell p 26]) {tmps:Array Value} (hp:tmps.getD p undef = .pointer (some ⟨g,0,none⟩)) (A:PBox w g m) :
  (results fn tmps).run Tryz.prog w = .ok (PV m) w:=by
 have hl:=bO A.at
 simp only [results,h];rw [Array.getD_eq_getD_getElem?] at hp;simp [hp,asAddr,hl]
def smB (s:ByteArray) (r:Int) (e:K.En):Bool:=(e.sku.toList == s.toList) && (decide (r < 0) || (e.rep == r))
end Go.Proofs.YtjffpimfngdggaaGreat
namespace Go.Proofs.YtjffpimfngdggaaGreat.K
open Go.RowKit
attribute [local go_sem ↓] zy zx xI
attribute [local go_sem] zJ zu
def isD (x:En):Bool:=(isR x.rep && decide (1 <= x.num)) && decide (x.num <= 1000000000)
theorem zbT {a b:Bool} (h:a=b):Ending.returned (.bool b) = .returned (.bool a):=by rw [h]
theorem jM (x:En) (w:World):Calls Tryz.prog 45 #[.agg (DC x)] w fun e w'=>e = .returned (.bool (isD x))/\Below w.heap.size w w':=by
 have HB:=hide (ze w (.cells #[.int .i64 x.rep,.int .i64 x.num] 48));unfold DC;obtain ⟨r,m,s,q⟩:=x;by_cases h1:0 <= r
 ·by_cases h2:r < 16
  ·by_cases h3:1 <= m
   ·have HF:Hid (isD ⟨r,m,s,q⟩=decide (m <= 1000000000)):=by show _=_;unfold isD isR;simp [h1,h2,h3]
    go_enter Tryz.func45,Tryz.ntmps45;go_wp2;go_ret;exact ⟨zbT HF.out,HB.out⟩
   ·have HF:Hid (isD ⟨r,m,s,q⟩=false):=by show _=_;unfold isD isR;simp [h3]
    go_enter Tryz.func45,Tryz.ntmps45;go_wp2;go_ret;exact ⟨zbT HF.out,HB.out⟩
  ·have HF:Hid (isD ⟨r,m,s,q⟩=false):=by show _=_;unfold isD isR;simp [h2]
   go_enter Tryz.func45,Tryz.ntmps45;go_wp2;go_ret;exact ⟨zbT HF.out,HB.out⟩
 ·have HF:Hid (isD ⟨r,m,s,q⟩=false):=by show _=_;unfold isD isR;simp [h1]
  go_enter Tryz.func45,Tryz.ntmps45;go_wp2;go_ret;exact ⟨zbT HF.out,HB.out⟩
theorem vu (e:En):(ceE e == 0)=(((isD e && good e.sku.data.toList) && decide (1 <= e.qty)) && decide (e.qty <= 1000000)):=by
 unfold ceE isD;by_cases h1:isR e.rep=false
 ·rw [if_pos h1,h1];simp
 ·have h1':isR e.rep=true:=by simpa using h1
  rw [if_neg h1,h1'];by_cases h2:e.num < 1∨1000000000 < e.num
  ·rw [if_pos h2];rcases h2 with h2 | h2
   ·simp [show ¬ 1 <= e.num by omega]
   ·simp [show ¬ e.num <= 1000000000 by omega]
  ·rw [if_neg h2];simp only [show decide (1 <= e.num)=true from decide_eq_true (by omega),show decide (e.num <= 1000000000)=true from decide_eq_true (by omega),Bool.and_true,Bool.true_and];by_cases h3:good e.sku.data.toList=false
   ·rw [if_pos h3,h3];simp
   ·have h3':good e.sku.data.toList=true:=by simpa using h3
    rw [if_neg h3,h3'];by_cases h4:e.qty < 1∨1000000 < e.qty
    ·rw [if_pos h4];rcases h4 with h4 | h4
     ·simp [show ¬ 1 <= e.qty by omega]
     ·simp [show ¬ e.qty <= 1000000 by omega]
    ·rw [if_neg h4];simp [show 1 <= e.qty by omega,show e.qty <= 1000000 by omega]
end Go.Proofs.YtjffpimfngdggaaGreat.K
namespace Go.Proofs.YtjffpimfngdggaaGreat
section
open Go.RowKit
attribute [local go_sem ↓] zr zq zD zC qh qg
attribute [local go_sem] zi zk zl zp zF zQ zW qp
end
section
open Go.RowKit
attribute [local go_sem ↓] zr zq zD zC qh qg
attribute [local go_sem] zi zk zl zp zF zQ zW qp
end
section
open Go.RowKit
attribute [local go_sem ↓] zr zq zD zC qh qg
attribute [local go_sem] zi zk zl zp zF zQ zW qp
end
section
open Go.RowKit
attribute [local go_sem ↓] zr zq kV kF
attribute [local go_sem] xJ qY zE zi qq zk qI
end
section
open Go.RowKit
attribute [local go_sem ↓] zr zq qh qg
attribute [local go_sem] zE zi qq zk zF zQ zW qp
theorem zis (x y:Int):((RC rn0).setIfInBounds 0 (.int .i64 x)).setIfInBounds 1 (.int .i64 y)=RC ⟨x,y⟩:=rfl
attribute [local go_sem] zis
def NxtOf (P:Pst) (r lim:Int) (d:Rn) (x:Int):Prop:=(V.isR r=false/\d=rn0/\x=3)∨(V.isR r=true/\∃ k,LastOf P r k/\((min lim 1000000000 <= k/\d=rn0/\x=9)∨(k < min lim 1000000000/\d=⟨r,k+1⟩/\x=0)))
def GivN (w w':World) (e:Ending) (P:Pst) (r lim:Int):Prop:=∃ d x,e = .returned (.tuple #[RV d,.int .i64 x])/\NxtOf P r lim d x/\Below w.heap.size w w'
end
section
open Go.RowKit
attribute [local go_sem ↓] zr zq zD zC qh qg
attribute [local go_sem] zi zk zl zp zF zQ zW qp
end
section
open Go.RowKit
def HeardOf (f:Fc) (P:Pst):Prop:=InForm P/\∀ r,r < 16 -> ∀ n,mem (runsAt P r) n↔mem (dotsG (f.es.map dotOf) r) n∨mem (runsAt f.p.P r) n
theorem HeardOf.one {f:Fc} {P Q:Pst} (h:HeardOf f P) (k:HeardOf f Q):P=Q:=
 (zP.2 h.1).unique (zP.2 k.1) fun r hr n=>(h.2 r hr n).trans (k.2 r hr n).symm
def StOf (f s:Fc):Prop:=s.es=f.es/\HeardOf f s.p.P/\WtOf f.rs s.p.P s.rs
def EvS (f s:Fc) (er:Int):Prop:=(EvOf f er/\er≠0/\s=fz0)∨(EvOf f 0/\er=0/\StOf f s)
theorem EvOf.zero {f:Fc} (h:EvOf f 0):FormF f/\OneA f:=by
 rcases h with ⟨_,h⟩ | ⟨_,_,h⟩ | ⟨h1,h2,_⟩
 ·cases h
 ·cases h
 ·exact ⟨h1,h2⟩
attribute [local go_sem ↓] zr zq zD zC zL zK xd ja
attribute [local go_sem] zi zk zl zp zv qQ xL qB zE
end
end Go.Proofs.YtjffpimfngdggaaGreat
namespace Go.Proofs.YtjffpimfngdggaaGreat.K
section
open Go.RowKit
attribute [local go_sem ↓] zy zx xI
attribute [local go_sem] zJ zu
theorem za4 (x y:En) (w:World):Calls Tryz.prog 65 #[.agg (DC x),.agg (DC y)] w fun e w'=>e = .returned (.bool (ahead x y))/\Below w.heap.size w w':=by
 have HB:Hid (Below w.heap.size w ((w.alloc (.cells #[.int .i64 x.rep,.int .i64 x.num] 48)).alloc (.cells #[.int .i64 y.rep,.int .i64 y.num] 48))):=(ze w _).trans ((ze _ _).mono (ze w (.cells #[.int .i64 x.rep,.int .i64 x.num] 48)).size);unfold DC;obtain ⟨r,m,s,q⟩:=x;obtain ⟨r',m',s',q'⟩:=y;by_cases h1:r < r'
 ·have HF:Hid (ahead ⟨r,m,s,q⟩ ⟨r',m',s',q'⟩=true):=by show _=_;unfold ahead;rw [decide_eq_true h1];rfl
  go_enter Tryz.func65,Tryz.ntmps65;go_wp2;go_ret;exact ⟨zbT HF.out,HB.out⟩
 ·by_cases h2:r=r'
  ·have HF:Hid (ahead ⟨r,m,s,q⟩ ⟨r',m',s',q'⟩=decide (m < m')):=by show _=_;unfold ahead;rw [decide_eq_false h1];simp [h2]
   have h2':(r == r')=true:=by simpa using h2
   clear h2;go_enter Tryz.func65,Tryz.ntmps65;go_wp2;go_ret;exact ⟨zbT HF.out,HB.out⟩
  ·have HF:Hid (ahead ⟨r,m,s,q⟩ ⟨r',m',s',q'⟩=false):=by show _=_;unfold ahead;rw [decide_eq_false h1];simp [h2]
   have h2':(r == r')=false:=by simpa using h2
   clear h2;go_enter Tryz.func65,Tryz.ntmps65;go_wp2;go_ret;exact ⟨zbT HF.out,HB.out⟩
theorem ziA {w:World} {e:En} {p:Addr} (h:EnAt w p e):p=⟨p.block,p.off,none⟩:=by
 have hs:=World.cell?_spot h.c0;obtain ⟨b,o,k⟩:=p;obtain rfl:k=none:=hs;rfl
theorem zfg {w:World} {e:En} {p:Addr} (h:EnAt w p e):w.cell? ⟨p.block,p.off+2,none⟩=some (.string e.sku)/\w.cell? ⟨p.block,p.off+3,none⟩=some (.int .i64 e.qty):=by
 have hs:=World.cell?_spot h.c0;have c2:=h.c2;have c3:=h.c3;obtain ⟨b,o,k⟩:=p;obtain rfl:k=none:=hs;rw [Addr.add_lit] at c2 c3;exact ⟨c2,c3⟩
theorem kM (ao:Option Addr) (n cap:Nat) (L:List En) (w:World) (hS:ESrc w ao n cap L):Calls Tryz.prog 33 #[.slice ao n cap] w fun e w'=>e = .returned (.bool (okN L n))/\Below w.heap.size w w':=by
 have HS:=hide hS;have hn:=hS.2.2.2.2;clear hS;go_enter Tryz.func33,Tryz.ntmps33;go_wp2_with fail;go_loopw [3] (fun i wr=>∃ k:Nat,k <= n/\i = .int .i64 k/\Hid (okN L k=true)/\Hid (Below w.heap.size w wr)) (fun i _=>n - (intOf i).toNat)
 case atStart=>exact ⟨0,Nat.zero_le _,rfl,rfl,Below.refl _ _⟩
 case round =>
  obtain ⟨k,hk,rfl,HK,HB⟩:=hrel
  rename World=>wr
  by_cases hlt:k < n
  ·have hlti:(k:Int) < (n:Int):=by omega
   obtain ⟨ad,hao,A0⟩:=(HS.out.below HB.out).at k hlt;subst hao;have HSr:=hide (HS.out.below HB.out);obtain ⟨e,He⟩:∃ e,Hid (L.getD k en0=e):=⟨_,rfl⟩;have hsk:=HS.out.sku k hlt;rw [He.out] at A0 hsk;have HA:=hide A0;have Hlt:=hide hlt;have HAt:Hid (okAt L k=false -> okN L n=false):=fun h=>zeG L k n Hlt.out h
   have HOk:Hid ((ceE e == 0)=false -> okAt L k=false):=fun h=>by unfold okAt;rw [He.out,h];rfl
   have l0:=jc A0
   have l0':(ld26 (.pointer (some ⟨(ad.add (k * 4)).block,(ad.add (k * 4)).off,none⟩))).run Tryz.prog wr = .ok (.agg (DC e)) wr:=by
    have h:=jc A0;rwa [ziA A0] at h
   clear A0;go_wp2_with fail;clear l0 l0';refine (jM e _).mono ?_;rintro x w1 ⟨rfl,b1⟩;have HB1:=wTr HB b1;have HA1:=hide (HA.out.on b1);have HSr1:=hide (HSr.out.below b1);obtain ⟨f2,f3⟩:=zfg HA1.out;have g2:=HA1.out.c2;have g3:=HA1.out.c3;clear b1 HA HSr
   cases hd:isD e with
   | false =>
    have HN:Hid (okN L n=false):=HAt.out (HOk.out (by rw [vu,hd];rfl));clear hd;go_wp2_with fail;go_ret;exact ⟨by rw [HN.out];rfl,HB1.out⟩
   | true =>
    have HD:=hide hd;clear hd;go_wp2_with fail;refine (kn e.sku _ hsk).mono ?_;rintro x w' ⟨rfl,rfl⟩
    cases hg:good e.sku.data.toList with
    | false =>
     have HN:Hid (okN L n=false):=HAt.out (HOk.out (by rw [vu,HD.out,hg];rfl));clear hg;go_wp2_with fail;go_ret;exact ⟨by rw [HN.out];rfl,HB1.out⟩
    | true =>
     have HG:=hide hg;clear hg;by_cases h1:e.qty < 1
     ·have HN:Hid (okN L n=false):=HAt.out (HOk.out (by rw [vu,HD.out,HG.out,decide_eq_false (show ¬ 1 <= e.qty by omega)];rfl));go_wp2_with fail;go_ret;exact ⟨by rw [HN.out];rfl,HB1.out⟩
     ·by_cases h2:1000000 < e.qty
      ·have HN:Hid (okN L n=false):=HAt.out (HOk.out (by rw [vu,HD.out,HG.out,decide_eq_true (show 1 <= e.qty by omega),decide_eq_false (show ¬ e.qty <= 1000000 by omega)];rfl));go_wp2_with fail;go_ret;exact ⟨by rw [HN.out];rfl,HB1.out⟩
      ·have HC:Hid ((ceE e == 0)=true):=by show _=_;rw [vu,HD.out,HG.out,decide_eq_true (show 1 <= e.qty by omega),decide_eq_true (show e.qty <= 1000000 by omega)];rfl
       clear HOk;by_cases hk0:k=0
       ·have hk1:decide (0 < k)=false:=by rw [decide_eq_false_iff_not];omega
        have HK0:=hide hk0
        have hat:Hid (okAt L k=(ceE e == 0)):=by show _=_;unfold okAt;rw [He.out,hk0];simp
        clear hk0;go_upto_region 6 with fail;refine wp_region_held_drew (S:=fun _=>True) (by kernel_rfl) (trivial) (fun hHeld=>?_);refine wU 0 ?_;refine wU 1 ?_;refine wU 2 ?_;refine wV 3 ?_;refine wV 4 ?_;refine wV 5 ?_;refine wV 6 ?_;refine wV 7 ?_;refine wV 8 ?_;refine wV 9 ?_;refine wV 10 ?_;refine wV 11 ?_;refine wV 12 ?_;refine wV 13 ?_;refine wV 14 ?_;refine wV 15 ?_;refine wU 16 ?_;refine wpAnyH_done (by kernel_rfl) ?_ _;clear hHeld
        have HN:Hid (okN L (k+1)=true):=by show _=_;rw [wu,HK.out,hat.out,HC.out];rfl
        go_wp2_with fail;go_roundw
        case rel=>exact ⟨k+1,by omega,by simp,HN,HB1.out.trans ((zf w').mono HB1.out.size)⟩
        case measure=>simp [intOf];omega
       ·obtain ⟨j,Hj⟩:∃ j,Hid (k=j+1):=⟨k - 1,(show k=k - 1+1 by omega)⟩
        have hjn:j < n:=by have:=Hj.out;omega
        have hwj:IntKind.i64.wrap ((k:Int) - 1)=(j:Int):=by rw [IntKind.wrap_i64];have:=Hj.out;omega
        have hk1:decide (0 < k)=true:=by rw [decide_eq_true_iff];omega
        obtain ⟨ad',e',Aj⟩:=HSr1.out.at j hjn;obtain rfl:=Option.some.inj e';obtain ⟨q,Hq⟩:∃ q,Hid (L.getD j en0=q):=⟨_,rfl⟩;rw [Hq.out] at Aj;have HAj:=hide Aj
        have hat:Hid (okAt L k=((ceE e == 0) && ahead q e)):=by show _=_;unfold okAt;rw [He.out,show k - 1=j by have:=Hj.out;omega,Hq.out,decide_eq_false hk0,Bool.false_or]
        clear Aj e' hk0;go_upto_region 6 with fail;refine wp_region_held_drew (S:=fun v=>(ld26 (.pointer (some (ad.add (k * 4))))).run Tryz.prog v = .ok (.agg (DC e)) v/\(ld26 (.pointer (some (ad.add (j * 4))))).run Tryz.prog v = .ok (.agg (DC q)) v) (by kernel_rfl) (⟨jc (HA1.out.on (zf w')),jc (HAj.out.on (zf w'))⟩) (fun hHeld=>?_);refine wU 0 ?_;refine wU 1 ?_;refine wU 2 ?_;refine wU 3 ?_;refine wU 4 ?_;refine wU 5 ?_;refine wU 6 ?_;refine wU 7 ?_;refine wU 8 ?_;refine wU 9 ?_;refine wU 10 ?_;refine wU 11 ?_;refine wU 12 ?_;refine wU 13 ?_;refine wpAnyH_ready (rs:=[14]) (by kernel_rfl) (by simp) (.cons rfl (fun K hK=>?_) .nil);go_simp;go_wp2_with fail;refine (za4 q e _).mono ?_;rintro x w3 ⟨rfl,b3⟩;have hB3:Below w'.heap.size w' w3:=(zf w').trans b3;have HB3:=hide hB3;refine hK.out _ _ (⟨jc (HA1.out.on (hB3)),jc (HAj.out.on (hB3))⟩) (fun hHeld=>?_)
        clear hK K b3
        cases ha:ahead q e with
        | false =>
         have HN:Hid (okN L n=false):=HAt.out (by rw [hat.out,HC.out,ha];rfl);clear ha;refine wU 15 ?_;refine wU 16 ?_;refine wpAnyH_done (by kernel_rfl) ?_ _;clear hHeld;go_wp2_with fail;go_ret;exact ⟨by rw [HN.out];rfl,HB1.out.trans (HB3.out.mono HB1.out.size)⟩
        | true =>
         have HN:Hid (okN L (k+1)=true):=by show _=_;rw [wu,HK.out,hat.out,HC.out,ha];rfl
         clear ha;refine wU 15 ?_;refine wU 16 ?_;refine wpAnyH_done (by kernel_rfl) ?_ _;clear hHeld;go_wp2_with fail;go_roundw
         case rel=>exact ⟨k+1,by omega,by simp,HN,HB1.out.trans (HB3.out.mono HB1.out.size)⟩
         case measure=>simp [intOf];omega
  ·obtain rfl:k=n:=by omega
   go_wp2_with fail;go_ret;exact ⟨by rw [HK.out];rfl,HB.out⟩
end
section
open Go.RowKit
attribute [local go_sem ↓] zy zx xI jx
def DBox (w:World) (g:Nat) (y:En):Prop:=w.heap[g]? = some (.cells (DC y) 48 (0,0))
def PlA (w w':World) (x:Ending) (B:List En) (y:En):Prop:=∃ z:Int,x = .returned (.int .i64 z)/\Below w.heap.size w w'/\((z = -1/\∀ e∈B,sameDot e y=false)∨∃ k:Nat,k < B.length/\z=(k:Int)/\sameDot (B.getD k en0) y=true)
end
section
open Go.RowKit
attribute [local go_sem ↓] zy zx xI qz
theorem zc4 (x y:En):eqE x y=true↔x=y:=by
 obtain ⟨a,b,s,q⟩:=x;obtain ⟨a',b',s',q'⟩:=y;simp only [eqE,Bool.and_eq_true,beq_iff_eq,En.mk.injEq];constructor
 ·rintro ⟨⟨⟨h1,h2⟩,h3⟩,h4⟩;refine ⟨h1,h2,?_,h4⟩;rw [ByteArray.toList_eq,ByteArray.toList_eq] at h3;exact ByteArray.ext (Array.ext' h3)
 ·rintro ⟨h1,h2,h3,h4⟩;exact ⟨⟨⟨h1,h2⟩,by rw [h3]⟩,h4⟩
def CwB (B:List En) (x:En):Prop:=∃ y∈B,sameDot x y=true/\x≠y
def ClA (w w':World) (x:Ending) (A B:List En):Prop:=∃ b:Bool,x = .returned (.bool b)/\(b=true↔Clash (A++B))/\Below w.heap.size w w'
end
end Go.Proofs.YtjffpimfngdggaaGreat.K
namespace Go.Proofs.YtjffpimfngdggaaGreat
section
open Go.RowKit
attribute [local go_sem ↓] zr zq qd zZ K.zy K.zx
attribute [local go_sem] zi zk zI zU K.zu K.zH K.zJ
variable {w w' w2 W W' : World} {g : Nat}
end
section
open Go.RowKit
attribute [local go_sem ↓] zr zq K.zy K.zx K.xI
attribute [local go_sem] zi zk K.zu K.zH
def stayB (B:List K.En) (P:Pst) (x:K.En):Bool:=B.any (fun y=>K.sameDot y x) || !inB P x
end
end Go.Proofs.YtjffpimfngdggaaGreat
