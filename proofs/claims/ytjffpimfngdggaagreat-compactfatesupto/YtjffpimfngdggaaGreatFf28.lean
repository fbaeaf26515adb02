import Derived.Sort.KeysCollected
import Derived.Maps.Ext
import Derived.Test.YtjffpimfngdggaaGreatFf27
import Derived.Deep.CutRange
set_option maxRecDepth 100000
set_option maxHeartbeats 3200000
namespace Go.Proofs.YtjffpimfngdggaaGreat.K
open Go.RowKit Go.Maps Go.Sort

structure Ln where
 sku:ByteArray
 qty:Int
 parts:Int
def ln0:Ln:=⟨⟨#[]⟩,0,0⟩
def JL (l:Ln) (e:En):Ln:=⟨e.sku,l.qty+e.qty,l.parts+1⟩
def ofS (L:List En) (s:ByteArray):List En:=L.filter (fun e=>eqS e.sku s)
def oP (L:List En) (s:ByteArray):Ln:=(ofS L s).foldl JL ln0
def LO (L:List En):Prop:=∀ e∈L,1 <= e.qty/\e.qty <= 1000000
def Gc (L:List En) (R:List Ln) (er:Int):Prop:=
 (chk L≠0/\R=[]/\er=1)∨(chk L=0/\er=0/\R.Pairwise (fun a b=>a.sku.data.toList < b.sku.data.toList)/\∀ l,l∈R↔∃ e∈L,l=oP L e.sku)
def Mp (D:DataW Ln) (L:List En):Prop:=(∀ s:ByteArray,has D (.string s.data.toList)=true↔∃ e∈L,e.sku=s)/\∀ s:ByteArray,D.atKey (.string s.data.toList) (.held ln0) = .held (oP L s)
end Go.Proofs.YtjffpimfngdggaaGreat.K
namespace Go.Proofs.YtjffpimfngdggaaGreat
open Go.RowKit
attribute [local go_sem ↓] zq zp zY zX K.zy K.zx K.qB
attribute [local go_sem] zi zk K.zu K.zH K.zJ
def noS (L:List K.En) (s:ByteArray):List K.En:=L.filter (fun e => !K.eqS e.sku s)
theorem zjX {w:World} {p:Addr} {e:K.En} (A:K.gE w p e):w.cell? ⟨p.block,p.off+2,none⟩=some (.string e.sku):=by
 have h:=A.c2;have hs:=World.cell?_spot A.c0;obtain ⟨b,o,sp⟩:=p;simp at hs;subst hs;rwa [Addr.add_lit] at h
def kpB (s:ByteArray) (P:Pst) (e:K.En):Bool:=(decide (s.size=0) || (e.sku.toList == s.toList)) && inB P e
def ktL (L:List K.En) (s:ByteArray) (P:Pst):List K.En:=L.filter (fun e => !kpB s P e)
end Go.Proofs.YtjffpimfngdggaaGreat
namespace Go.Proofs.YtjffpimfngdggaaGreat.K
section
open Go.RowKit

def LC (e:Ln):Array Value:=#[.string e.sku,.int .i64 e.qty,.int .i64 e.parts]
abbrev LV (e:Ln):Value:=.agg (LC e)
theorem zga (e:Ln):(LC e).size=3:=rfl
theorem zdz (e:Ln):(LV e).cells=LC e:=by simp [Value.cells]
theorem zer:(#[.string ⟨#[]⟩,.int .i64 0,.int .i64 0]:Array Value)=LC ln0:=rfl
structure CG (w:World) (p:Addr) (e:Ln):Prop where
 c0:w.cell? p=some (.string e.sku)
 c1:w.cell? (p.add 1)=some (.int .i64 e.qty)
 c2:w.cell? (p.add 2)=some (.int .i64 e.parts)
def Ce (w:World) (g:Nat) (T:TypeId) (e:Ln):Prop:=w.heap[g]? = some (.cells (LC e) T (0,0))
theorem Ce.at {w:World} {g:Nat} {T:TypeId} {e:Ln} (h:Ce w g T e):CG w ⟨g,0,none⟩ e:=by
 unfold Ce at h;refine ⟨?_,?_,?_⟩ <;> simp [Addr.add,World.cell?,h,LC]
def ldL (v:Value):Sem Value:=Instr.loadAt 108 v
theorem zjy (v:Value):Instr.loadAt 108 v=ldL v:=rfl
def stL (p v:Value):Sem Unit:=Instr.storeAt 108 p v
theorem zhZ (p v:Value):Instr.storeAt 108 p v=stL p v:=rfl
def oM (w:World) (ao:Option Addr) (m c:Nat) (L:List Ln):Prop:=
 L.length=m/\(ao=none -> m=0/\c=0)/\(∀ ad,ao=some ad -> ∀ t,t < m -> CG w (ad.add (t * 3)) (L.getD t ln0))/\(∀ e∈L,e.sku.size <= maxLen)/\m <= 3518437208883
theorem oM.at {w:World} {ao:Option Addr} {m c:Nat} {L:List Ln} (h:oM w ao m c L) (k:Nat) (hk:k < m):∃ ad,ao=some ad/\CG w (ad.add (k * 3)) (L.getD k ln0):=by
 cases ao with
 | none=>have:=h.2.1 rfl;omega
 | some ad=>exact ⟨ad,rfl,h.2.2.1 ad rfl k hk⟩
theorem oM.sku {w:World} {ao:Option Addr} {m c:Nat} {L:List Ln} (h:oM w ao m c L) (k:Nat) (hk:k < m):(L.getD k ln0).sku.size <= maxLen:=by
 have:L.getD k ln0=L[k]'(by rw [h.1];exact hk):=by simp [List.getD,h.1,hk]
 rw [this];exact h.2.2.2.1 _ (List.getElem_mem _)
theorem oM.none (w:World):oM w none 0 0 []:=⟨rfl,fun _=>⟨rfl,rfl⟩,(fun ad h=>by cases h),(fun e he=>by cases he),by omega⟩
def lcs (L:List Ln):List Value:=(L.map (fun e=>(LC e).toList)).flatten
theorem zjz (L:List Ln) (t j:Nat) (ht:t < L.length) (hj:j < 3):(lcs L)[t * 3+j]? = (LC (L.getD t ln0)).toList[j]?:=by
 induction L generalizing t with
 | nil=>simp at ht
 | cons a L ih =>
  have e:lcs (a :: L)=(LC a).toList++lcs L:=rfl
  cases t with
  | zero=>rw [e,List.getElem?_append_left (by simp [LC];omega)];simp [List.getD]
  | succ t =>
   rw [e,List.getElem?_append_right (by simp [LC];omega)];have h:=ih t (by simpa using ht)
   have e4:(t+1) * 3+j - (LC a).toList.length=t * 3+j:=by simp [LC];omega
   rw [e4,h];simp [List.getD]
structure uN (B0 B:Nat) (w w':World) (ao:Option Addr) (cap:Nat) (acc:List Ln):Prop where
 own:w'.ownsRow B 108 3 (.slice ao acc.length cap) acc.length (lcs acc)
 below:Below B0 w w'
 hB:B <= w'.heap.size
 hB0:B0 <= B
theorem uN.nil {B0 B:Nat} {w w':World} (hb:Below B0 w w') (hB:B <= w'.heap.size) (h0:B0 <= B):uN B0 B w w' none 0 []:=
 ⟨World.ownsRow_nil _ _ _ _,hb,hB,h0⟩
theorem uN.src {B0 B:Nat} {w w':World} {ao:Option Addr} {cap:Nat} {acc:List Ln} (O:uN B0 B w w' ao cap acc) (hs:∀ e∈acc,e.sku.size <= maxLen) (hl:acc.length <= 3518437208883):oM w' ao acc.length cap acc/\∀ ad,ao=some ad -> B <= ad.block:=by
 rcases O.own.2 with ⟨h0,fV⟩ | ⟨g,cap2,cur,hv,dU,dx,hnc,fS,hcsz,htake⟩
 ·simp only [Value.slice.injEq] at h0;obtain ⟨rfl,e0,rfl⟩:=h0;exact ⟨⟨rfl,fun _=>⟨fV,rfl⟩,fun ad h=>(by cases h),hs,hl⟩,fun ad h=>(by cases h)⟩
 ·simp only [Value.slice.injEq,true_and] at hv;obtain ⟨rfl,rfl⟩:=hv
  have cell:∀ t j,t < acc.length -> j < 3 -> w'.cell? ⟨g,t * 3+j,none⟩=(LC (acc.getD t ln0)).toList[j]?:=fun t j ht hj=>by
   rw [O.own.cellAt (t * 3+j) (by omega),zjz _ t j ht hj]
  refine ⟨⟨rfl,fun h=>(by cases h),fun ad h t ht=>?_,hs,hl⟩,fun ad h=>by obtain rfl:=Option.some.inj h;exact dU⟩;obtain rfl:=Option.some.inj h;refine ⟨?_,?_,?_⟩
  ·rw [Addr.add_lit,Nat.zero_add];exact cell t 0 ht (by omega)
  ·rw [Addr.add_lit,Addr.add_lit,Nat.zero_add];exact cell t 1 ht (by omega)
  ·rw [Addr.add_lit,Addr.add_lit,Nat.zero_add];exact cell t 2 ht (by omega)
end
section
open Go.RowKit Go.Maps
attribute [local go_sem ↓] zhZ
attribute [local go_sem] zer zdz zga
theorem zji (t:ByteArray) (a b:Int):((((LC ln0).setIfInBounds 0 (.string t)).setIfInBounds 1 (.int .i64 a)).setIfInBounds 2 (.int .i64 b))=LC ⟨t,a,b⟩:=rfl
def RL (v:Value):Option (DataW Ln × List MemPlace):=
 match v with
 | .agg cs=>(match cs.toList with
  | [.string s,.int .i64 q,.int .i64 p]=>some (.held ⟨s,q,p⟩,[])
  | _=>none)
 | _=>none
attribute [local go_sem] zji
end
section
open Go.RowKit
attribute [local go_sem ↓] zy zx zjy zhZ
attribute [local go_sem] zJ zu zH zer zdz zga
def ttl:List En -> Int
 | []=>0
 | e :: r=>e.qty+ttl r
def Oj (L:List En):Int:=if chk L=0 then ttl L else 0
def lnV (L:List En) (s:ByteArray):Ln:=if ofE L s=0 then oP L s else ln0
end
end Go.Proofs.YtjffpimfngdggaaGreat.K
namespace Go.Proofs.YtjffpimfngdggaaGreat
open Go.RowKit
attribute [local go_sem ↓] zq zp zY zX K.zy K.zx
attribute [local go_sem] zi zk
def dsB (s:ByteArray) (r:Int) (e:K.En):Bool:=(decide (s.size=0) || (e.sku.toList == s.toList)) && (decide (r < 0) || (e.rep == r))
theorem AC {w:World} {g:Nat} {fn:Func} {p:Tmp} {m:Pv} (h:fn.results=#[.cell p 26]) {tmps:Array Value} (hp:tmps.getD p undef = .pointer (some ⟨g,0,none⟩)) (A:av w g m) :
  (results fn tmps).run Tryz.prog w = .ok (PV m) w:=by
 have hl:=zag A.at
 simp only [results,h];rw [Array.getD_eq_getD_getElem?] at hp;simp [hp,asAddr,hl]
def smB (s:ByteArray) (r:Int) (e:K.En):Bool:=(e.sku.toList == s.toList) && (decide (r < 0) || (e.rep == r))
end Go.Proofs.YtjffpimfngdggaaGreat
namespace Go.Proofs.YtjffpimfngdggaaGreat.K
open Go.RowKit
attribute [local go_sem ↓] zy zx xG
attribute [local go_sem] zJ zu
def isD (x:En):Bool:=(isR x.rep && decide (1 <= x.num)) && decide (x.num <= 1000000000)
theorem zce {a b:Bool} (h:a=b):Ending.returned (.bool b) = .returned (.bool a):=by rw [h]
theorem jh (x:En) (w:World):Calls Tryz.prog 45 #[.agg (DC x)] w fun e w'=>e = .returned (.bool (isD x))/\Below w.heap.size w w':=by
 have HB:=hide (ze w (.cells #[.int .i64 x.rep,.int .i64 x.num] 48));unfold DC;obtain ⟨r,m,s,q⟩:=x;by_cases h1:0 <= r
 ·by_cases h2:r < 16
  ·by_cases h3:1 <= m
   ·have HF:Hid (isD ⟨r,m,s,q⟩=decide (m <= 1000000000)):=by show _=_;unfold isD isR;simp [h1,h2,h3]
    go_enter Tryz.func45,Tryz.ntmps45;go_wp2;go_ret;exact ⟨zce HF,HB.out⟩
   ·have HF:Hid (isD ⟨r,m,s,q⟩=false):=by show _=_;unfold isD isR;simp [h3]
    go_enter Tryz.func45,Tryz.ntmps45;go_wp2;go_ret;exact ⟨zce HF,HB.out⟩
  ·have HF:Hid (isD ⟨r,m,s,q⟩=false):=by show _=_;unfold isD isR;simp [h2]
   go_enter Tryz.func45,Tryz.ntmps45;go_wp2;go_ret;exact ⟨zce HF,HB.out⟩
 ·have HF:Hid (isD ⟨r,m,s,q⟩=false):=by show _=_;unfold isD isR;simp [h1]
  go_enter Tryz.func45,Tryz.ntmps45;go_wp2;go_ret;exact ⟨zce HF,HB.out⟩
theorem vx (e:En):(ceE e == 0)=(((isD e && eQ e.sku.data.toList) && decide (1 <= e.qty)) && decide (e.qty <= 1000000)):=by
 unfold ceE isD;by_cases h1:isR e.rep=false
 ·rw [if_pos h1,h1];simp
 ·have nL:isR e.rep=true:=by simpa using h1
  rw [if_neg h1,nL];by_cases h2:e.num < 1∨1000000000 < e.num
  ·rw [if_pos h2];rcases h2 with h2 | h2
   ·simp [show ¬ 1 <= e.num by omega]
   ·simp [show ¬ e.num <= 1000000000 by omega]
  ·rw [if_neg h2];simp only [show decide (1 <= e.num)=true from decide_eq_true (by omega),show decide (e.num <= 1000000000)=true from decide_eq_true (by omega),Bool.and_true,Bool.true_and];by_cases h3:eQ e.sku.data.toList=false
   ·rw [if_pos h3,h3];simp
   ·have Nv:eQ e.sku.data.toList=true:=by simpa using h3
    rw [if_neg h3,Nv];by_cases h4:e.qty < 1∨1000000 < e.qty
    ·rw [if_pos h4];rcases h4 with h4 | h4
     ·simp [show ¬ 1 <= e.qty by omega]
     ·simp [show ¬ e.qty <= 1000000 by omega]
    ·rw [if_neg h4];simp [show 1 <= e.qty by omega,show e.qty <= 1000000 by omega]
end Go.Proofs.YtjffpimfngdggaaGreat.K
namespace Go.Proofs.YtjffpimfngdggaaGreat
section
open Go.RowKit
attribute [local go_sem ↓] zq zp zE zD zY zX
attribute [local go_sem] zi zk zl zr zz zM zR qp
end
section
open Go.RowKit
attribute [local go_sem ↓] zq zp zE zD zY zX
attribute [local go_sem] zi zk zl zr zz zM zR qp
end
section
open Go.RowKit
attribute [local go_sem ↓] zq zp zE zD zY zX
attribute [local go_sem] zi zk zl zr zz zM zR qp
end
section
open Go.RowKit
attribute [local go_sem ↓] zq zp kW kH
attribute [local go_sem] xH qY zI zi qq zk qL
end
section
open Go.RowKit
attribute [local go_sem ↓] zq zp zY zX
attribute [local go_sem] zI zi qq zk zz zM zR qp
theorem ziT (x y:Int):((RC rn0).setIfInBounds 0 (.int .i64 x)).setIfInBounds 1 (.int .i64 y)=RC ⟨x,y⟩:=rfl
attribute [local go_sem] ziT
def EY (P:Pst) (r lim:Int) (d:Rn) (x:Int):Prop:=(V.isR r=false/\d=rn0/\x=3)∨(V.isR r=true/\∃ k,sK P r k/\((min lim 1000000000 <= k/\d=rn0/\x=9)∨(k < min lim 1000000000/\d=⟨r,k+1⟩/\x=0)))
def Oq (w w':World) (e:Ending) (P:Pst) (r lim:Int):Prop:=∃ d x,e = .returned (.tuple #[RV d,.int .i64 x])/\EY P r lim d x/\Below w.heap.size w w'
end
section
open Go.RowKit
attribute [local go_sem ↓] zq zp zE zD zY zX
attribute [local go_sem] zi zk zl zr zz zM zR qp
end
section
open Go.RowKit
def de (f:Fc) (P:Pst):Prop:=ag P/\∀ r,r < 16 -> ∀ n,mem (aa P r) n↔mem (cq (f.es.map ae) r) n∨mem (aa f.p.P r) n
theorem de.one {f:Fc} {P Q:Pst} (h:de f P) (k:de f Q):P=Q:=
 (zT.2 h.1).unique (zT.2 k.1) fun r hr n=>(h.2 r hr n).trans (k.2 r hr n).symm
def JN (f s:Fc):Prop:=s.es=f.es/\de f s.p.P/\iW f.rs s.p.P s.rs
def EvS (f s:Fc) (er:Int):Prop:=(ux f er/\er≠0/\s=fz0)∨(ux f 0/\er=0/\JN f s)
theorem ux.zero {f:Fc} (h:ux f 0):ar f/\Cb f:=by
 rcases h with ⟨_,h⟩ | ⟨_,_,h⟩ | ⟨h1,h2,_⟩
 ·cases h
 ·cases h
 ·exact ⟨h1,h2⟩
attribute [local go_sem ↓] zq zp zE zD zP zO xe je
attribute [local go_sem] zi zk zl zr zv qR xL qF zI
end
end Go.Proofs.YtjffpimfngdggaaGreat
namespace Go.Proofs.YtjffpimfngdggaaGreat.K
section
open Go.RowKit
attribute [local go_sem ↓] zy zx xG
attribute [local go_sem] zJ zu
theorem zbm (x y:En) (w:World):Calls Tryz.prog 65 #[.agg (DC x),.agg (DC y)] w fun e w'=>e = .returned (.bool (ahead x y))/\Below w.heap.size w w':=by
 have HB:Hid (Below w.heap.size w ((w.alloc (.cells #[.int .i64 x.rep,.int .i64 x.num] 48)).alloc (.cells #[.int .i64 y.rep,.int .i64 y.num] 48))):=(ze w _).trans ((ze _ _).mono (ze w (.cells #[.int .i64 x.rep,.int .i64 x.num] 48)).size);unfold DC;obtain ⟨r,m,s,q⟩:=x;obtain ⟨r',m',s',q'⟩:=y;by_cases h1:r < r'
 ·have HF:Hid (ahead ⟨r,m,s,q⟩ ⟨r',m',s',q'⟩=true):=by show _=_;unfold ahead;rw [decide_eq_true h1];rfl
  go_enter Tryz.func65,Tryz.ntmps65;go_wp2;go_ret;exact ⟨zce HF,HB.out⟩
 ·by_cases h2:r=r'
  ·have HF:Hid (ahead ⟨r,m,s,q⟩ ⟨r',m',s',q'⟩=decide (m < m')):=by show _=_;unfold ahead;rw [decide_eq_false h1];simp [h2]
   have JE:(r == r')=true:=by simpa using h2
   clear h2;go_enter Tryz.func65,Tryz.ntmps65;go_wp2;go_ret;exact ⟨zce HF,HB.out⟩
  ·have HF:Hid (ahead ⟨r,m,s,q⟩ ⟨r',m',s',q'⟩=false):=by show _=_;unfold ahead;rw [decide_eq_false h1];simp [h2]
   have JE:(r == r')=false:=by simpa using h2
   clear h2;go_enter Tryz.func65,Tryz.ntmps65;go_wp2;go_ret;exact ⟨zce HF,HB.out⟩
theorem zi0 {w:World} {e:En} {p:Addr} (h:gE w p e):p=⟨p.block,p.off,none⟩:=by
 have hs:=World.cell?_spot h.c0;obtain ⟨b,o,k⟩:=p;obtain rfl:k=none:=hs;rfl
theorem zfF {w:World} {e:En} {p:Addr} (h:gE w p e):w.cell? ⟨p.block,p.off+2,none⟩=some (.string e.sku)/\w.cell? ⟨p.block,p.off+3,none⟩=some (.int .i64 e.qty):=by
 have hs:=World.cell?_spot h.c0;have c2:=h.c2;have c3:=h.c3;obtain ⟨b,o,k⟩:=p;obtain rfl:k=none:=hs;rw [Addr.add_lit] at c2 c3;exact ⟨c2,c3⟩
theorem zan (ao:Option Addr) (n cap:Nat) (L:List En) (w:World) (hS:aD w ao n cap L):Calls Tryz.prog 33 #[.slice ao n cap] w fun e w'=>e = .returned (.bool (okN L n))/\Below w.heap.size w w':=by
 have HS:=hide hS;have hn:=hS.2.2.2.2;clear hS;go_enter Tryz.func33,Tryz.ntmps33;go_wp2_with fail;go_loopw [3] (fun i wr=>∃ k:Nat,k <= n/\i = .int .i64 k/\Hid (okN L k=true)/\Hid (Below w.heap.size w wr)) (fun i _=>n - (intOf i).toNat)
 case atStart=>exact ⟨0,Nat.zero_le _,rfl,rfl,Below.refl _ _⟩
 case round =>
  obtain ⟨k,hk,rfl,HK,HB⟩:=hrel
  rename World=>wr
  by_cases ak:k < n
  ·have aX:(k:Int) < (n:Int):=by omega
   obtain ⟨ad,cU,A0⟩:=(HS.below HB).at k ak;subst cU;have mQ:=hide (HS.below HB);obtain ⟨e,He⟩:∃ e,Hid (L.getD k en0=e):=⟨_,rfl⟩;have ic:=HS.sku k ak;rw [He.out] at A0 ic;have HA:=hide A0;have aK:=hide ak;have AV:Hid (okAt L k=false -> okN L n=false):=fun h=>ze2 L k n aK.out h
   have oc:Hid ((ceE e == 0)=false -> okAt L k=false):=fun h=>by unfold okAt;rw [He.out,h];rfl
   have l0:=xK A0
   have l0':(lS (.pointer (some ⟨(ad.add (k * 4)).block,(ad.add (k * 4)).off,none⟩))).run Tryz.prog wr = .ok (.agg (DC e)) wr:=by
    have h:=xK A0;rwa [zi0 A0] at h
   clear A0;go_wp2_with fail;clear l0 l0';refine (jh e _).mono ?_;rintro x w1 ⟨rfl,b1⟩;have aM:=wTr HB b1;have ts:=hide (HA.on b1);have nY:=hide (mQ.below b1);obtain ⟨f2,f3⟩:=zfF ts.out;have g2:=ts.c2;have g3:=ts.c3;clear b1 HA mQ
   cases hd:isD e with
   | false =>
    have HN:Hid (okN L n=false):=AV.out (oc.out (by rw [vx,hd];rfl));clear hd;go_wp2_with fail;go_ret;exact ⟨by rw [HN.out];rfl,aM.out⟩
   | true =>
    have HD:=hide hd;clear hd;go_wp2_with fail;refine (jF e.sku _ ic).mono ?_;rintro x w' ⟨rfl,rfl⟩
    cases hg:eQ e.sku.data.toList with
    | false =>
     have HN:Hid (okN L n=false):=AV.out (oc.out (by rw [vx,HD.out,hg];rfl));clear hg;go_wp2_with fail;go_ret;exact ⟨by rw [HN.out];rfl,aM.out⟩
    | true =>
     have HG:=hide hg;clear hg;by_cases h1:e.qty < 1
     ·have HN:Hid (okN L n=false):=AV.out (oc.out (by rw [vx,HD.out,HG.out,decide_eq_false (show ¬ 1 <= e.qty by omega)];rfl));go_wp2_with fail;go_ret;exact ⟨by rw [HN.out];rfl,aM.out⟩
     ·by_cases h2:1000000 < e.qty
      ·have HN:Hid (okN L n=false):=AV.out (oc.out (by rw [vx,HD.out,HG.out,decide_eq_true (show 1 <= e.qty by omega),decide_eq_false (show ¬ e.qty <= 1000000 by omega)];rfl));go_wp2_with fail;go_ret;exact ⟨by rw [HN.out];rfl,aM.out⟩
      ·have HC:Hid ((ceE e == 0)=true):=by show _=_;rw [vx,HD.out,HG.out,decide_eq_true (show 1 <= e.qty by omega),decide_eq_true (show e.qty <= 1000000 by omega)];rfl
       clear oc;by_cases gL:k=0
       ·have iU:decide (0 < k)=false:=by rw [decide_eq_false_iff_not];omega
        have BU:=hide gL
        have gS:Hid (okAt L k=(ceE e == 0)):=by show _=_;unfold okAt;rw [He.out,gL];simp
        clear gL;go_upto_region 6 with fail;refine wp_region_held_drew (S:=fun _=>True) (by kernel_rfl) (trivial) (fun hHeld=>?_);refine wU 0 ?_;refine wU 1 ?_;refine wU 2 ?_;refine wV 3 ?_;refine wV 4 ?_;refine wV 5 ?_;refine wV 6 ?_;refine wV 7 ?_;refine wV 8 ?_;refine wV 9 ?_;refine wV 10 ?_;refine wV 11 ?_;refine wV 12 ?_;refine wV 13 ?_;refine wV 14 ?_;refine wV 15 ?_;refine wU 16 ?_;refine wD ?_ _;clear hHeld
        have HN:Hid (okN L (k+1)=true):=by show _=_;rw [ws,HK.out,gS.out,HC.out];rfl
        go_wp2_with fail;go_roundw
        case rel=>exact ⟨k+1,by omega,by simp,HN,tmq aM (zf w')⟩
        case measure=>simp [intOf];omega
       ·obtain ⟨j,Hj⟩:∃ j,Hid (k=j+1):=⟨k - 1,(show k=k - 1+1 by omega)⟩
        have m8:j < n:=by have:=Hj.out;omega
        have Jv:IntKind.i64.wrap ((k:Int) - 1)=(j:Int):=by rw [IntKind.wrap_i64];have:=Hj.out;omega
        have iU:decide (0 < k)=true:=by rw [decide_eq_true_iff];omega
        obtain ⟨ad',e',Aj⟩:=nY.at j m8;obtain rfl:=Option.some.inj e';obtain ⟨q,Hq⟩:∃ q,Hid (L.getD j en0=q):=⟨_,rfl⟩;rw [Hq.out] at Aj;have rA:=hide Aj
        have gS:Hid (okAt L k=((ceE e == 0) && ahead q e)):=by show _=_;unfold okAt;rw [He.out,show k - 1=j by have:=Hj.out;omega,Hq.out,decide_eq_false gL,Bool.false_or]
        clear Aj e' gL;go_upto_region 6 with fail;refine wp_region_held_drew (S:=fun v=>(lS (.pointer (some (ad.add (k * 4))))).run Tryz.prog v = .ok (.agg (DC e)) v/\(lS (.pointer (some (ad.add (j * 4))))).run Tryz.prog v = .ok (.agg (DC q)) v) (by kernel_rfl) (⟨xK (ts.on (zf w')),xK (rA.on (zf w'))⟩) (fun hHeld=>?_);refine wU 0 ?_;refine wU 1 ?_;refine wU 2 ?_;refine wU 3 ?_;refine wU 4 ?_;refine wU 5 ?_;refine wU 6 ?_;refine wU 7 ?_;refine wU 8 ?_;refine wU 9 ?_;refine wU 10 ?_;refine wU 11 ?_;refine wU 12 ?_;refine wU 13 ?_;refine wR 14 fun K hK=>?_;go_simp;go_wp2_with fail;refine (zbm q e _).mono ?_;rintro x w3 ⟨rfl,b3⟩;have eo:Below w'.heap.size w' w3:=(zf w').trans b3;have aw:=hide eo;refine hK.out _ _ (⟨xK (ts.on (eo)),xK (rA.on (eo))⟩) (fun hHeld=>?_)
        clear hK K b3
        cases ha:ahead q e with
        | false =>
         have HN:Hid (okN L n=false):=AV.out (by rw [gS.out,HC.out,ha];rfl);clear ha;refine wU 15 ?_;refine wU 16 ?_;refine wD ?_ _;clear hHeld;go_wp2_with fail;go_ret;exact ⟨by rw [HN.out];rfl,tmq aM aw⟩
        | true =>
         have HN:Hid (okN L (k+1)=true):=by show _=_;rw [ws,HK.out,gS.out,HC.out,ha];rfl
         clear ha;refine wU 15 ?_;refine wU 16 ?_;refine wD ?_ _;clear hHeld;go_wp2_with fail;go_roundw
         case rel=>exact ⟨k+1,by omega,by simp,HN,tmq aM aw⟩
         case measure=>simp [intOf];omega
  ·obtain rfl:k=n:=by omega
   go_wp2_with fail;go_ret;exact ⟨by rw [HK.out];rfl,HB.out⟩
end
section
open Go.RowKit
attribute [local go_sem ↓] zy zx xG xY
def Oi (w:World) (g:Nat) (y:En):Prop:=w.heap[g]? = some (.cells (DC y) 48 (0,0))
def PlA (w w':World) (x:Ending) (B:List En) (y:En):Prop:=∃ z:Int,x = .returned (.int .i64 z)/\Below w.heap.size w w'/\((z = -1/\∀ e∈B,aq e y=false)∨∃ k:Nat,k < B.length/\z=(k:Int)/\aq (B.getD k en0) y=true)
end
section
open Go.RowKit
attribute [local go_sem ↓] zy zx xG qB
theorem zdq (x y:En):eqE x y=true↔x=y:=by
 obtain ⟨a,b,s,q⟩:=x;obtain ⟨a',b',s',q'⟩:=y;simp only [eqE,Bool.and_eq_true,beq_iff_eq,En.mk.injEq];constructor
 ·rintro ⟨⟨⟨h1,h2⟩,h3⟩,h4⟩;refine ⟨h1,h2,?_,h4⟩;rw [ByteArray.toList_eq,ByteArray.toList_eq] at h3;exact ByteArray.ext (Array.ext' h3)
 ·rintro ⟨h1,h2,h3,h4⟩;exact ⟨⟨⟨h1,h2⟩,by rw [h3]⟩,h4⟩
def CwB (B:List En) (x:En):Prop:=∃ y∈B,aq x y=true/\x≠y
def ClA (w w':World) (x:Ending) (A B:List En):Prop:=∃ b:Bool,x = .returned (.bool b)/\(b=true↔cI (A++B))/\Below w.heap.size w w'
end
end Go.Proofs.YtjffpimfngdggaaGreat.K
namespace Go.Proofs.YtjffpimfngdggaaGreat
section
open Go.RowKit
attribute [local go_sem ↓] zq zp qf qe K.zy K.zx
attribute [local go_sem] zi zk zL zS K.zu K.zH K.zJ
variable {w w' w2 W W' : World} {g : Nat}
end
section
open Go.RowKit
attribute [local go_sem ↓] zq zp K.zy K.zx K.xG
attribute [local go_sem] zi zk K.zu K.zH
def nt (B:List K.En) (P:Pst) (x:K.En):Bool:=B.any (fun y=>K.aq y x) || !inB P x
end
end Go.Proofs.YtjffpimfngdggaaGreat
