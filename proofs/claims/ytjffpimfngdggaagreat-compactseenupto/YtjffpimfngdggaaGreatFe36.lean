/- LWi LTo EJd GEr GRf GOa GAe QLb QNy GRv SXh BEn BPl BCl BAp BLf -/
import Derived.Test.YtjffpimfngdggaaGreatTk
import Derived.Test.YtjffpimfngdggaaGreatFe35
import Derived.Test.YtjffpimfngdggaaGreatFe34
import Derived.Test.YtjffpimfngdggaaGreatFe15
import Derived.Test.YtjffpimfngdggaaGreatFe14
import Derived.Test.YtjffpimfngdggaaGreatFe00
import Derived.Test.YtjffpimfngdggaaGreatFe19
import Derived.Test.YtjffpimfngdggaaGreatFe25
import Derived.Test.YtjffpimfngdggaaGreatFe09
import Derived.Test.YtjffpimfngdggaaGreatFe13
import Derived.Deep.CutRange
import Derived.Test.YtjffpimfngdggaaGreatFe17
import Derived.Test.YtjffpimfngdggaaGreatFe31
import Derived.Test.YtjffpimfngdggaaGreatFe26
set_option maxRecDepth 100000
set_option maxHeartbeats 3200000
namespace Go.Proofs.YtjffpimfngdggaaGreat.K
section
open Go.RowKit Go.Maps
attribute [local go_sem ↓] zhp
attribute [local go_sem] zdU zaB zaI
theorem ziR (t:ByteArray) (a b:Int):((((LC ln0).setIfInBounds 0 (.string t)).setIfInBounds 1 (.int .i64 a)).setIfInBounds 2 (.int .i64 b))=LC ⟨t,a,b⟩:=rfl
theorem Jl {fn:Func} {p:Tmp} {w:World} {g:Nat} {T:TypeId} {e:Ln} (h:fn.results=#[.cell p 108]) {tmps:Array Value} (hp:tmps.getD p undef = .pointer (some ⟨g,0,none⟩)) (A:iO w g T e) :
  (results fn tmps).run Tryz.prog w = .ok (LV e) w:=by
 have hl:=zhU A.at
 simp only [results,h];rw [Array.getD_eq_getD_getElem?] at hp;simp [hp,asAddr,hl]
def RL (v:Value):Option (DataW Ln × List MemPlace):=
 match v with
 | .agg cs=>(match cs.toList with
  | [.string s,.int .i64 q,.int .i64 p]=>some (.held ⟨s,q,p⟩,[])
  | _=>none)
 | _=>none
theorem zfz (l:Ln):RL (LV l)=some (.held l,[]):=rfl
theorem zjm {v:Value} {l:Ln} {ps:List MemPlace} (h:RL v=some (.held l,ps)):v=LV l:=by
 unfold RL at h
 split at h
 ·rename_i cs
  split at h
  ·rename_i s q p gM
   simp at h;obtain ⟨rfl,_⟩:=h
   show Value.agg cs=Value.agg #[.string s,.int .i64 q,.int .i64 p]
   rw [show cs=#[.string s,.int .i64 q,.int .i64 p] from Array.toList_inj.1 gM]
  ·cases h
 ·cases h
attribute [local go_sem] ziR
theorem zfG (l:Ln) (e:En) (w:World) (hq:0 <= l.qty/\l.qty <= 16000000000000000) (hp:0 <= l.parts/\l.parts <= 16000000000) (he:1 <= e.qty/\e.qty <= 1000000) :
  Calls Tryz.prog 58 #[LV l,EV e] w fun x w'=>x = .returned (LV (fv l e))/\Below w.heap.size w w':=by
 obtain ⟨s,q,p⟩:=l;obtain ⟨r,m,t,z⟩:=e
 have cR:IntKind.i64.wrap (q+z)=q+z:=by simp only at hq he;rw [IntKind.wrap_i64];omega
 have fi:IntKind.i64.wrap (p+1)=p+1:=by simp only at hp;rw [IntKind.wrap_i64];omega
 clear hq hp he;have B1:=hide (ze w (.cells #[.string s,.int .i64 q,.int .i64 p] 108));have B2:=hide (B1.out.trans ((ze (w.alloc (.cells #[.string s,.int .i64 q,.int .i64 p] 108)) (.cells #[.int .i64 r,.int .i64 m,.string t,.int .i64 z] 50)).mono B1.out.size));obtain ⟨w3,a8,X3,B3,Z3⟩:=EF ((w.alloc (.cells #[.string s,.int .i64 q,.int .i64 p] 108)).alloc (.cells #[.int .i64 r,.int .i64 m,.string t,.int .i64 z] 50)) ⟨t,q+z,p+1⟩ (w.heap.size+1+1) (by simp);have HX:=hide X3;have HB:=wTr B2 B3;clear X3 B3 Z3 B1 B2
 show Calls Tryz.prog 58 #[.agg #[.string s,.int .i64 q,.int .i64 p],.agg #[.int .i64 r,.int .i64 m,.string t,.int .i64 z]] w _
 go_enter Tryz.func58,Tryz.ntmps58;go_wp2_with fail;exact bodyPost_ret (Jl Tryz.results58 rfl HX.out) rfl ⟨rfl,HB.out⟩
end
section
open Go.RowKit
attribute [local go_sem ↓] zx zw zi5 zhp
attribute [local go_sem] zI zt zF zdU zaB zaI
def ttl:List En -> Int
 | []=>0
 | e :: r=>e.qty+ttl r
def Nk (L:List En):Int:=if chk L=0 then ttl L else 0
def lnV (L:List En) (s:ByteArray):Ln:=if ofE L s=0 then cK L s else ln0
end
end Go.Proofs.YtjffpimfngdggaaGreat.K
namespace Go.Proofs.YtjffpimfngdggaaGreat
open Go.RowKit
attribute [local go_sem ↓] zq zp zV zU K.zx K.zw
attribute [local go_sem] zi zj
def dsB (s:ByteArray) (r:Int) (e:K.En):Bool:=(decide (s.size=0) || (e.sku.toList == s.toList)) && (decide (r < 0) || (e.rep == r))
def smB (s:ByteArray) (r:Int) (e:K.En):Bool:=(e.sku.toList == s.toList) && (decide (r < 0) || (e.rep == r))
end Go.Proofs.YtjffpimfngdggaaGreat
namespace Go.Proofs.YtjffpimfngdggaaGreat.K
open Go.RowKit
attribute [local go_sem ↓] zx zw xE
attribute [local go_sem] zI zt
def isD (x:En):Bool:=(isR x.rep && decide (1 <= x.num)) && decide (x.num <= 1000000000)
theorem zbS {a b:Bool} (h:a=b):Ending.returned (.bool b) = .returned (.bool a):=by rw [h]
theorem zaY (x:En) (w:World):Calls Tryz.prog 45 #[.agg (DC x)] w fun e w'=>e = .returned (.bool (isD x))/\Below w.heap.size w w':=by
 have HB:=hide (ze w (.cells #[.int .i64 x.rep,.int .i64 x.num] 48));unfold DC;obtain ⟨r,m,s,q⟩:=x;by_cases h1:0 <= r
 ·by_cases h2:r < 16
  ·by_cases h3:1 <= m
   ·have HF:Hid (isD ⟨r,m,s,q⟩=decide (m <= 1000000000)):=by show _=_;unfold isD isR;simp [h1,h2,h3]
    go_enter Tryz.func45,Tryz.ntmps45;go_wp2;go_ret;exact ⟨zbS HF.out,HB.out⟩
   ·have HF:Hid (isD ⟨r,m,s,q⟩=false):=by show _=_;unfold isD isR;simp [h3]
    go_enter Tryz.func45,Tryz.ntmps45;go_wp2;go_ret;exact ⟨zbS HF.out,HB.out⟩
  ·have HF:Hid (isD ⟨r,m,s,q⟩=false):=by show _=_;unfold isD isR;simp [h2]
   go_enter Tryz.func45,Tryz.ntmps45;go_wp2;go_ret;exact ⟨zbS HF.out,HB.out⟩
 ·have HF:Hid (isD ⟨r,m,s,q⟩=false):=by show _=_;unfold isD isR;simp [h1]
  go_enter Tryz.func45,Tryz.ntmps45;go_wp2;go_ret;exact ⟨zbS HF.out,HB.out⟩
theorem vl (e:En):(ceE e == 0)=(((isD e && fG e.sku.data.toList) && decide (1 <= e.qty)) && decide (e.qty <= 1000000)):=by
 unfold ceE isD;by_cases h1:isR e.rep=false
 ·rw [if_pos h1,h1];simp
 ·have mX:isR e.rep=true:=by simpa using h1
  rw [if_neg h1,mX];by_cases h2:e.num < 1∨1000000000 < e.num
  ·rw [if_pos h2];rcases h2 with h2 | h2
   ·simp [show ¬ 1 <= e.num by omega]
   ·simp [show ¬ e.num <= 1000000000 by omega]
  ·rw [if_neg h2];simp only [show decide (1 <= e.num)=true from decide_eq_true (by omega),show decide (e.num <= 1000000000)=true from decide_eq_true (by omega),Bool.and_true,Bool.true_and];by_cases h3:fG e.sku.data.toList=false
   ·rw [if_pos h3,h3];simp
   ·have Mt:fG e.sku.data.toList=true:=by simpa using h3
    rw [if_neg h3,Mt];by_cases h4:e.qty < 1∨1000000 < e.qty
    ·rw [if_pos h4];rcases h4 with h4 | h4
     ·simp [show ¬ 1 <= e.qty by omega]
     ·simp [show ¬ e.qty <= 1000000 by omega]
    ·rw [if_neg h4];simp [show 1 <= e.qty by omega,show e.qty <= 1000000 by omega]
end Go.Proofs.YtjffpimfngdggaaGreat.K
namespace Go.Proofs.YtjffpimfngdggaaGreat
section
open Go.RowKit
attribute [local go_sem ↓] zq zp zB zz zV zU
attribute [local go_sem] zi zj zk zm zC zN zS ql
end
section
open Go.RowKit
attribute [local go_sem ↓] zq zp zB zz zV zU
attribute [local go_sem] zi zj zk zm zC zN zS ql
end
section
open Go.RowKit
attribute [local go_sem ↓] zq zp zB zz zV zU
attribute [local go_sem] zi zj zk zm zC zN zS ql
end
section
open Go.RowKit
attribute [local go_sem ↓] zq zp kN kz
attribute [local go_sem] xF qT zE zi qm zj qJ
end
section
open Go.RowKit
attribute [local go_sem ↓] zq zp zV zU
attribute [local go_sem] zE zi qm zj zC zN zS ql
theorem zis (x y:Int):((RC rn0).setIfInBounds 0 (.int .i64 x)).setIfInBounds 1 (.int .i64 y)=RC ⟨x,y⟩:=rfl
attribute [local go_sem] zis
def EY (P:Pst) (r lim:Int) (d:Rn) (x:Int):Prop:=(V.isR r=false/\d=rn0/\x=3)∨(V.isR r=true/\∃ k,rA P r k/\((min lim 1000000000 <= k/\d=rn0/\x=9)∨(k < min lim 1000000000/\d=⟨r,k+1⟩/\x=0)))
def Nx (w w':World) (e:Ending) (P:Pst) (r lim:Int):Prop:=∃ d x,e = .returned (.tuple #[RV d,.int .i64 x])/\EY P r lim d x/\Below w.heap.size w w'
end
section
open Go.RowKit
attribute [local go_sem ↓] zq zp zB zz zV zU
attribute [local go_sem] zi zj zk zm zC zN zS ql
end
section
open Go.RowKit
def dj (f:Fc) (P:Pst):Prop:=aj P/\∀ r,r < 16 -> ∀ n,mem (ae P r) n↔mem (cr (f.es.map aa) r) n∨mem (ae f.p.P r) n
theorem dj.one {f:Fc} {P Q:Pst} (h:dj f P) (k:dj f Q):P=Q:=
 (zW.2 h.1).unique (zW.2 k.1) fun r hr n=>(h.2 r hr n).trans (k.2 r hr n).symm
def I7 (f s:Fc):Prop:=s.es=f.es/\dj f s.p.P/\iA f.rs s.p.P s.rs
def EvS (f s:Fc) (er:Int):Prop:=(tL f er/\er≠0/\s=fz0)∨(tL f 0/\er=0/\I7 f s)
theorem tL.zero {f:Fc} (h:tL f 0):av f/\BJ f:=by
 rcases h with ⟨_,h⟩ | ⟨_,_,h⟩ | ⟨h1,h2,_⟩
 ·cases h
 ·cases h
 ·exact ⟨h1,h2⟩
attribute [local go_sem ↓] zq zp zB zz zL zK qX x4
attribute [local go_sem] zi zj zk zm zv qN xH qD zE
end
end Go.Proofs.YtjffpimfngdggaaGreat
namespace Go.Proofs.YtjffpimfngdggaaGreat.K
section
open Go.RowKit
attribute [local go_sem ↓] zx zw xE
attribute [local go_sem] zI zt
theorem za0 (x y:En) (w:World):Calls Tryz.prog 65 #[.agg (DC x),.agg (DC y)] w fun e w'=>e = .returned (.bool (ahead x y))/\Below w.heap.size w w':=by
 have HB:Hid (Below w.heap.size w ((w.alloc (.cells #[.int .i64 x.rep,.int .i64 x.num] 48)).alloc (.cells #[.int .i64 y.rep,.int .i64 y.num] 48))):=(ze w _).trans ((ze _ _).mono (ze w (.cells #[.int .i64 x.rep,.int .i64 x.num] 48)).size);unfold DC;obtain ⟨r,m,s,q⟩:=x;obtain ⟨r',m',s',q'⟩:=y;by_cases h1:r < r'
 ·have HF:Hid (ahead ⟨r,m,s,q⟩ ⟨r',m',s',q'⟩=true):=by show _=_;unfold ahead;rw [decide_eq_true h1];rfl
  go_enter Tryz.func65,Tryz.ntmps65;go_wp2;go_ret;exact ⟨zbS HF.out,HB.out⟩
 ·by_cases h2:r=r'
  ·have HF:Hid (ahead ⟨r,m,s,q⟩ ⟨r',m',s',q'⟩=decide (m < m')):=by show _=_;unfold ahead;rw [decide_eq_false h1];simp [h2]
   have Gk:(r == r')=true:=by simpa using h2
   clear h2;go_enter Tryz.func65,Tryz.ntmps65;go_wp2;go_ret;exact ⟨zbS HF.out,HB.out⟩
  ·have HF:Hid (ahead ⟨r,m,s,q⟩ ⟨r',m',s',q'⟩=false):=by show _=_;unfold ahead;rw [decide_eq_false h1];simp [h2]
   have Gk:(r == r')=false:=by simpa using h2
   clear h2;go_enter Tryz.func65,Tryz.ntmps65;go_wp2;go_ret;exact ⟨zbS HF.out,HB.out⟩
theorem ziz {w:World} {e:En} {p:Addr} (h:gR w p e):p=⟨p.block,p.off,none⟩:=by
 have hs:=World.cell?_spot h.c0;obtain ⟨b,o,k⟩:=p;obtain rfl:k=none:=hs;rfl
theorem ze7 {w:World} {e:En} {p:Addr} (h:gR w p e):w.cell? ⟨p.block,p.off+2,none⟩=some (.string e.sku)/\w.cell? ⟨p.block,p.off+3,none⟩=some (.int .i64 e.qty):=by
 have hs:=World.cell?_spot h.c0;have c2:=h.c2;have c3:=h.c3;obtain ⟨b,o,k⟩:=p;obtain rfl:k=none:=hs;rw [Addr.add_lit] at c2 c3;exact ⟨c2,c3⟩
theorem kG (ao:Option Addr) (n cap:Nat) (L:List En) (w:World) (hS:aD w ao n cap L):Calls Tryz.prog 33 #[.slice ao n cap] w fun e w'=>e = .returned (.bool (okN L n))/\Below w.heap.size w w':=by
 have HS:=hide hS;have hn:=hS.2.2.2.2;clear hS;go_enter Tryz.func33,Tryz.ntmps33;go_wp2_with fail;go_loopw [3] (fun i wr=>∃ k:Nat,k <= n/\i = .int .i64 k/\Hid (okN L k=true)/\Hid (Below w.heap.size w wr)) (fun i _=>n - (intOf i).toNat)
 case atStart=>exact ⟨0,Nat.zero_le _,rfl,rfl,Below.refl _ _⟩
 case round =>
  obtain ⟨k,hk,rfl,HK,HB⟩:=hrel
  rename World=>wr
  by_cases ak:k < n
  ·have cL:(k:Int) < (n:Int):=by omega
   obtain ⟨ad,eO,A0⟩:=(HS.out.below HB.out).at k ak;subst eO;have pE:=hide (HS.out.below HB.out);obtain ⟨e,He⟩:∃ e,Hid (L.getD k en0=e):=⟨_,rfl⟩;have gk:=HS.out.sku k ak;rw [He.out] at A0 gk;have HA:=hide A0;have cw:=hide ak;have AD:Hid (okAt L k=false -> okN L n=false):=fun h=>zev L k n cw.out h
   have nr:Hid ((ceE e == 0)=false -> okAt L k=false):=fun h=>by unfold okAt;rw [He.out,h];rfl
   have l0:=xG A0
   have l0':(lj (.pointer (some ⟨(ad.add (k * 4)).block,(ad.add (k * 4)).off,none⟩))).run Tryz.prog wr = .ok (.agg (DC e)) wr:=by
    have h:=xG A0;rwa [ziz A0] at h
   clear A0;go_wp2_with fail;clear l0 l0';refine (zaY e _).mono ?_;rintro x w1 ⟨rfl,b1⟩;have aN:=wTr HB b1;have Au:=hide (HA.out.on b1);have sS:=hide (pE.out.below b1);obtain ⟨f2,f3⟩:=ze7 Au.out;have g2:=Au.out.c2;have g3:=Au.out.c3;clear b1 HA pE
   cases hd:isD e with
   | false =>
    have HN:Hid (okN L n=false):=AD.out (nr.out (by rw [vl,hd];rfl));clear hd;go_wp2_with fail;go_ret;exact ⟨by rw [HN.out];rfl,aN.out⟩
   | true =>
    have HD:=hide hd;clear hd;go_wp2_with fail;refine (wRq e.sku _ gk).mono ?_;rintro x w' ⟨rfl,rfl⟩
    cases hg:fG e.sku.data.toList with
    | false =>
     have HN:Hid (okN L n=false):=AD.out (nr.out (by rw [vl,HD.out,hg];rfl));clear hg;go_wp2_with fail;go_ret;exact ⟨by rw [HN.out];rfl,aN.out⟩
    | true =>
     have HG:=hide hg;clear hg;by_cases h1:e.qty < 1
     ·have HN:Hid (okN L n=false):=AD.out (nr.out (by rw [vl,HD.out,HG.out,decide_eq_false (show ¬ 1 <= e.qty by omega)];rfl));go_wp2_with fail;go_ret;exact ⟨by rw [HN.out];rfl,aN.out⟩
     ·by_cases h2:1000000 < e.qty
      ·have HN:Hid (okN L n=false):=AD.out (nr.out (by rw [vl,HD.out,HG.out,decide_eq_true (show 1 <= e.qty by omega),decide_eq_false (show ¬ e.qty <= 1000000 by omega)];rfl));go_wp2_with fail;go_ret;exact ⟨by rw [HN.out];rfl,aN.out⟩
      ·have HC:Hid ((ceE e == 0)=true):=by show _=_;rw [vl,HD.out,HG.out,decide_eq_true (show 1 <= e.qty by omega),decide_eq_true (show e.qty <= 1000000 by omega)];rfl
       clear nr;by_cases gK:k=0
       ·have gY:decide (0 < k)=false:=by rw [decide_eq_false_iff_not];omega
        have Eo:=hide gK
        have gZ:Hid (okAt L k=(ceE e == 0)):=by show _=_;unfold okAt;rw [He.out,gK];simp
        clear gK;go_upto_region 6 with fail;refine wp_region_held_drew (S:=fun _=>True) (by kernel_rfl) (trivial) (fun hHeld=>?_);refine wU 0 ?_;refine wU 1 ?_;refine wU 2 ?_;refine wV 3 ?_;refine wV 4 ?_;refine wV 5 ?_;refine wV 6 ?_;refine wV 7 ?_;refine wV 8 ?_;refine wV 9 ?_;refine wV 10 ?_;refine wV 11 ?_;refine wV 12 ?_;refine wV 13 ?_;refine wV 14 ?_;refine wV 15 ?_;refine wU 16 ?_;refine wpAnyH_done (by kernel_rfl) ?_ _;clear hHeld
        have HN:Hid (okN L (k+1)=true):=by show _=_;rw [vZ,HK.out,gZ.out,HC.out];rfl
        go_wp2_with fail;go_roundw
        case rel=>exact ⟨k+1,by omega,by simp,HN,aN.out.trans ((zg w').mono aN.out.size)⟩
        case measure=>simp [intOf];omega
       ·obtain ⟨j,Hj⟩:∃ j,Hid (k=j+1):=⟨k - 1,(show k=k - 1+1 by omega)⟩
        have od:j < n:=by have:=Hj.out;omega
        have KH:IntKind.i64.wrap ((k:Int) - 1)=(j:Int):=by rw [IntKind.wrap_i64];have:=Hj.out;omega
        have gY:decide (0 < k)=true:=by rw [decide_eq_true_iff];omega
        obtain ⟨ad',e',Aj⟩:=sS.out.at j od;obtain rfl:=Option.some.inj e';obtain ⟨q,Hq⟩:∃ q,Hid (L.getD j en0=q):=⟨_,rfl⟩;rw [Hq.out] at Aj;have sQ:=hide Aj
        have gZ:Hid (okAt L k=((ceE e == 0) && ahead q e)):=by show _=_;unfold okAt;rw [He.out,show k - 1=j by have:=Hj.out;omega,Hq.out,decide_eq_false gK,Bool.false_or]
        clear Aj e' gK;go_upto_region 6 with fail;refine wp_region_held_drew (S:=fun v=>(lj (.pointer (some (ad.add (k * 4))))).run Tryz.prog v = .ok (.agg (DC e)) v/\(lj (.pointer (some (ad.add (j * 4))))).run Tryz.prog v = .ok (.agg (DC q)) v) (by kernel_rfl) (⟨xG (Au.out.on (zg w')),xG (sQ.out.on (zg w'))⟩) (fun hHeld=>?_);refine wU 0 ?_;refine wU 1 ?_;refine wU 2 ?_;refine wU 3 ?_;refine wU 4 ?_;refine wU 5 ?_;refine wU 6 ?_;refine wU 7 ?_;refine wU 8 ?_;refine wU 9 ?_;refine wU 10 ?_;refine wU 11 ?_;refine wU 12 ?_;refine wU 13 ?_;refine wpAnyH_ready (rs:=[14]) (by kernel_rfl) (by simp) (.cons rfl (fun K hK=>?_) .nil);go_simp;go_wp2_with fail;refine (za0 q e _).mono ?_;rintro x w3 ⟨rfl,b3⟩;have dZ:Below w'.heap.size w' w3:=(zg w').trans b3;have aB:=hide dZ;refine hK.out _ _ (⟨xG (Au.out.on (dZ)),xG (sQ.out.on (dZ))⟩) (fun hHeld=>?_)
        clear hK K b3
        cases ha:ahead q e with
        | false =>
         have HN:Hid (okN L n=false):=AD.out (by rw [gZ.out,HC.out,ha];rfl);clear ha;refine wU 15 ?_;refine wU 16 ?_;refine wpAnyH_done (by kernel_rfl) ?_ _;clear hHeld;go_wp2_with fail;go_ret;exact ⟨by rw [HN.out];rfl,aN.out.trans (aB.out.mono aN.out.size)⟩
        | true =>
         have HN:Hid (okN L (k+1)=true):=by show _=_;rw [vZ,HK.out,gZ.out,HC.out,ha];rfl
         clear ha;refine wU 15 ?_;refine wU 16 ?_;refine wpAnyH_done (by kernel_rfl) ?_ _;clear hHeld;go_wp2_with fail;go_roundw
         case rel=>exact ⟨k+1,by omega,by simp,HN,aN.out.trans (aB.out.mono aN.out.size)⟩
         case measure=>simp [intOf];omega
  ·obtain rfl:k=n:=by omega
   go_wp2_with fail;go_ret;exact ⟨by rw [HK.out];rfl,HB.out⟩
end
section
open Go.RowKit
attribute [local go_sem ↓] zx zw xE xP
def Nt (w:World) (g:Nat) (y:En):Prop:=w.heap[g]? = some (.cells (DC y) 48 (0,0))
def PlA (w w':World) (x:Ending) (B:List En) (y:En):Prop:=∃ z:Int,x = .returned (.int .i64 z)/\Below w.heap.size w w'/\((z = -1/\∀ e∈B,al e y=false)∨∃ k:Nat,k < B.length/\z=(k:Int)/\al (B.getD k en0) y=true)
end
section
open Go.RowKit
attribute [local go_sem ↓] zx zw xE qz
theorem zcX (x y:En):eqE x y=true↔x=y:=by
 obtain ⟨a,b,s,q⟩:=x;obtain ⟨a',b',s',q'⟩:=y;simp only [eqE,Bool.and_eq_true,beq_iff_eq,En.mk.injEq];constructor
 ·rintro ⟨⟨⟨h1,h2⟩,h3⟩,h4⟩;refine ⟨h1,h2,?_,h4⟩;rw [ByteArray.toList_eq,ByteArray.toList_eq] at h3;exact ByteArray.ext (Array.ext' h3)
 ·rintro ⟨h1,h2,h3,h4⟩;exact ⟨⟨⟨h1,h2⟩,by rw [h3]⟩,h4⟩
def CwB (B:List En) (x:En):Prop:=∃ y∈B,al x y=true/\x≠y
def ClA (w w':World) (x:Ending) (A B:List En):Prop:=∃ b:Bool,x = .returned (.bool b)/\(b=true↔cu (A++B))/\Below w.heap.size w w'
end
end Go.Proofs.YtjffpimfngdggaaGreat.K
namespace Go.Proofs.YtjffpimfngdggaaGreat
section
open Go.RowKit
attribute [local go_sem ↓] zq zp zZ zY K.zx K.zw
attribute [local go_sem] zi zj zJ zQ K.zt K.zF K.zI
variable {w w' w2 W W' : World} {g : Nat}
end
section
open Go.RowKit
attribute [local go_sem ↓] zq zp K.zx K.zw K.xE
attribute [local go_sem] zi zj K.zt K.zF
def mJ (B:List K.En) (P:Pst) (x:K.En):Bool:=B.any (fun y=>K.al y x) || !inB P x
end
end Go.Proofs.YtjffpimfngdggaaGreat
