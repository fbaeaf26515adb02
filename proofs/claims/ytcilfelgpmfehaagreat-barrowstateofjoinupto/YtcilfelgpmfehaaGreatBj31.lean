/- SXc SXl SXw ORo EFa LPl EHo LMe LWi LTo EJd GEr GRf GOa GAe QLb QNy GRv SXh BEn BPl BCl BAp BLf BMg SXf LFnd LFn2 SXg -/
import Derived.Test.YtcilfelgpmfehaaGreatBj30
import Derived.Deep.CutRange
import Derived.Sort.KeysCollected
import Derived.Maps.Ext
set_option maxRecDepth 100000
set_option maxHeartbeats 6400000
namespace Go.Proofs.YtcilfelgpmfehaaGreat
section
open Go.RowKit
def aJ (s:Fc):Prop:=(K.okN s.es s.an=true/\af s.p.P/\OkR s.rs s.rn)/\(∀ e∈s.es,inB s.p.P e=true)/\(∀ r∈s.rs,¬ wiP r.p.P s.p.P)/\∀ e∈s.es,cN s.rs e=true
def lT (s:Fc) (x:Int):Prop:=(aJ s/\x=0)∨(¬ aJ s/\x=1)
theorem zcT {L:List K.En} {P:Pst}:(L.filter (pkB P false)).length=0↔∀ e∈L,inB P e=true:=by
 rw [List.length_eq_zero_iff,List.filter_eq_nil_iff];refine forall_congr' fun e=>forall_congr' fun _=>?_;unfold pkB
 cases inB P e <;> simp
theorem zfC {L:List K.En} {R:List Rc}:(L.filter (cN R)).length=L.length↔∀ e∈L,cN R e=true:=by
 rw [List.length_filter_eq_length_iff]
theorem zfm {L F:List Rc} {P:Pst} (h:gR L P F):F.length=L.length↔∀ r∈L,¬ wiP r.p.P P:=by
 have e1:F.length=((plR L).filter (waitB P)).length:=by rw [<- h.2,jt]
 have e2:L.length=(plR L).length:=(jt L).symm;rw [e1,e2,List.length_filter_eq_length_iff];constructor
 ·intro k r hr hw;have:=k (r.s,r.p.P) (List.mem_map.2 ⟨r,hr,rfl⟩);have h2:waitB P (r.s,r.p.P)=false:=vh (y:=(r.s,r.p.P)) hw;rw [h2] at this
  cases this
 ·intro k y hy;obtain ⟨r,hr,rfl⟩:=List.mem_map.1 hy;have h2:waitB P (r.s,r.p.P)=true:=vA (y:=(r.s,r.p.P)) (k r hr);exact h2
theorem xk {L:List K.En} {n:Nat} (hl:L.length=n):K.chk L=0↔K.okN L n=true:=by
 unfold K.chk;rw [hl]
 split <;> simp_all
attribute [local go_sem ↓] zl zk zK zJ
attribute [local go_sem] zf zh zj zr
theorem zaz (s:Fc) (w:World) (hF:a8 w s) (hR:FcR s) (oz:∀ t,wt (ofS s.rs t) <= 8796093022207) (lC:s.rn * (s.an+1) <= 8796093022207) (ni:s.rn <= 2199023255551) :
  Calls Tryz.prog 51 #[FaV (mkF s)] w fun e w'=>cS w w' e (lT s):=by
 have b1:=ze w (.cells (FaC (mkF s)) 38);have X1:=qD w (mkF s);obtain ⟨wk,cq⟩:∃ w1,w.alloc (.cells (FaC (mkF s)) 38)=w1:=⟨_,rfl⟩;rw [cq] at b1 X1;obtain ⟨G,dC⟩:∃ G,w.heap.size=G:=⟨_,rfl⟩;rw [dC] at X1;have HX:=hide X1;have az:=hide b1;have HF:=hide (hF.below b1);have HR:=hide hR;have EW:=hide oz;have Kj:Hid (s.rn * (s.an+1) <= 8796093022207/\s.rn <= 2199023255551):=⟨lC,ni⟩;have fE:Hid (s.es.length=s.an/\s.rs.length=s.rn):=⟨hF.es.1,hF.rs.len⟩;clear hF b1 X1 hR oz lC ni;obtain ⟨c0,c3⟩:=HX.out.cs;have lp:=zi HX.out.past;go_enter Tryz.func51,Tryz.ntmps51;go_wp2_with fail;clear cq dC c0 c3 lp;refine (jh s.ao s.an s.ac s.es s.p _ HF.out.es HF.out.p).mono ?_;rintro e w3 (⟨hc,hI,a3,n3,d3,rfl,S3,b3,-⟩ | ⟨hno,a3,n3,d3,rfl,S3,b3,-⟩);rotate_left
 ·have HE:Hid (cS w w3 (.returned (.int .i64 1)) (lT s)):=⟨1,rfl,.inr ⟨fun h=>hno ⟨(xk fE.out.1).2 h.1.1,h.1.2.1⟩,rfl⟩,az.out.trans (b3.mono az.out.size)⟩;clear hno S3 b3;go_wp2_with fail;go_ret;exact HE.out
 have H1:Hid (K.okN s.es s.an=true/\af s.p.P/\(s.es.filter (pkB s.p.P false)).length=n3):=⟨(xk fE.out.1).1 hc,hI,S3.1⟩;have aN:=hide b3;clear hc hI S3 b3;by_cases h3:n3=0;rotate_left
 ·have hp:(0:Int) < (n3:Int):=by omega
  have HE:Hid (cS w w3 (.returned (.int .i64 1)) (lT s)):=⟨1,rfl,.inr ⟨fun h=>h3 (by rw [<- H1.out.2.2];exact zcT.2 h.2.1),rfl⟩,az.out.trans (aN.out.mono az.out.size)⟩;go_wp2_with fail;go_ret;exact HE.out
 subst h3;have H2:Hid (∀ e∈s.es,inB s.p.P e=true):=zcT.1 H1.out.2.2;obtain ⟨c0,c3⟩:=(HX.out.below aN.out).cs;have lp:=zi (HX.out.below aN.out).past;go_wp2_with fail;clear c0 c3 lp;refine (jm s.ro s.rn s.rc s.rs s.p _ ((HF.out.row HR.out).below aN.out) (HF.out.p.below aN.out) Kj.out.2).mono ?_;rintro e w4 (⟨hO,-,⟨fo,fn,fc⟩,F,rfl,G4,n4,W4⟩ | ⟨hno,rfl,b4⟩);rotate_left
 ·have HE:Hid (cS w w4 (.returned (.int .i64 1)) (lT s)):=⟨1,rfl,.inr ⟨fun h=>hno ⟨h.1.2.2,h.1.2.1⟩,rfl⟩,az.out.trans ((aN.out.trans (b4.mono aN.out.size)).mono az.out.size)⟩;clear hno b4;go_wp2_with fail;go_ret;exact HE.out
 have aR:=wTr aN G4.below;have H3:Hid (OkR s.rs s.rn/\gR s.rs s.p.P F/\F.length=fn/\fn <= s.rn):=⟨hO,W4,G4.src.len,n4⟩;rw [show HsV ⟨fo,fn,fc⟩=Value.slice fo fn fc from rfl];clear hO G4 n4 W4;obtain ⟨c0,c3⟩:=(HX.out.below aR.out).cs;by_cases h4:fn < s.rn
 ·have hp:(fn:Int) < (s.rn:Int):=by omega
  have HE:Hid (cS w w4 (.returned (.int .i64 1)) (lT s)):=⟨1,rfl,.inr ⟨fun h=>by
   have h5:=(zfm H3.out.2.1).2 h.2.2.1;rw [H3.out.2.2.1,fE.out.2] at h5
   omega,rfl⟩,az.out.trans (aR.out.mono az.out.size)⟩
  go_wp2_with fail;clear c0 c3;go_ret;exact HE.out
 have hp:¬ (fn:Int) < (s.rn:Int):=by omega
 have H4:Hid (∀ r∈s.rs,¬ wiP r.p.P s.p.P):=(zfm H3.out.2.1).1 (by rw [H3.out.2.2.1,fE.out.2];have:=H3.out.2.2.2;omega);clear h4;go_wp2_with fail;clear c0 c3 hp;refine (ws s.ao s.ro s.an s.ac s.rn s.rc s.es s.rs _ (HF.out.es.below aR.out) (HF.out.rs.below aR.out) EW.out Kj.out.1).mono ?_;rintro e w5 (⟨-,-,a5,n5,d5,rfl,S5,b5,-⟩ | ⟨hno,-⟩);rotate_left
 ·exact absurd ⟨(xk fE.out.1).2 H1.out.1,H3.out.1⟩ hno
 have ee:=wTr aR b5;have H5:Hid ((s.es.filter (cN s.rs)).length=n5):=S5.1;clear S5 b5;obtain ⟨c0,c3⟩:=(HX.out.below ee.out).cs
 have m9:n5 <= s.an:=by
  have h:=List.length_filter_le (cN s.rs) s.es;have h6:=H5.out;have h7:=fE.out.1;omega
 by_cases h6:n5 < s.an
 ·have hp:(n5:Int) < (s.an:Int):=by omega
  have HE:Hid (cS w w5 (.returned (.int .i64 1)) (lT s)):=⟨1,rfl,.inr ⟨fun h=>by
   have h5:=zfC.2 h.2.2.2;have h8:=H5.out;have h7:=fE.out.1
   omega,rfl⟩,az.out.trans (ee.out.mono az.out.size)⟩
  clear m9;go_wp2_with fail;clear c0 c3;go_ret;exact HE.out
 have hp:¬ (n5:Int) < (s.an:Int):=by omega
 have HE:Hid (cS w w5 (.returned (.int .i64 0)) (lT s)):=⟨0,rfl,.inl ⟨⟨⟨H1.out.1,H1.out.2.1,H3.out.1⟩,H2.out,H4.out,zfC.1 (by
  have h8:=H5.out;have h7:=fE.out.1
  omega)⟩,rfl⟩,az.out.trans (ee.out.mono az.out.size)⟩
 clear m9 h6;go_wp2_with fail;clear c0 c3;go_ret;exact HE.out
end
section
open Go.RowKit
attribute [local go_sem ↓] zl zk zM zL qg qf K.zu K.zt
attribute [local go_sem] zf zh zj zr zF zD zN zZ qr K.zC K.zs K.zB K.xX
def LvS (w w':World) (x:Ending) (L:List K.En):Prop:=∃ ao n c,x = .returned (.slice ao n c)/\K.aF w' ao n c L/\Below w.heap.size w w'
end
section
open Go.RowKit Go.Maps
def WvA (w w':World) (x:Ending) (L:List Rc) (P:Pst):Prop:=∃ (h:Hs) (F:List Rc),x = .returned (.slice h.o h.n h.c)/\RcS w' h.o h.n h.c F/\Below w.heap.size w w'/\gR L P F/\h.n <= h.c/\(h.o=none -> h.c=0)
attribute [local go_sem ↓] zl zk zR zQ
attribute [local go_sem] zf zh zy zH zT
end
section
open Go.RowKit
attribute [local go_sem ↓] zl zk
attribute [local go_sem] zf zh
variable {w w' w2 W W' : World} {g : Nat}

def Nx (d:Rn):Sn:=⟨d.lo,d.hi,d.hi⟩
structure RO (w2 W:World) (g3:Nat) (ao:Option Addr) (k cap:Nat) (acc:List Sn):Prop where
 own:dR g3 (g3+1) w2 W ao cap acc
 box:W.heap[g3]? = some (.cells #[.slice none 0 0,.slice ao k cap] 26 (0,0))
 len:acc.length=k
end
section
open Go.RowKit
attribute [local go_sem ↓] zl zk zR zQ qg qf K.zu K.zt K.ql
attribute [local go_sem] zf zh zy zH K.zs K.zB zT K.zC
end
end Go.Proofs.YtcilfelgpmfehaaGreat
namespace Go.Proofs.YtcilfelgpmfehaaGreat.K
open Go.RowKit Go.Maps Go.Sort

structure Ln where
 sku:ByteArray
 qty:Int
 parts:Int
def ln0:Ln:=⟨⟨#[]⟩,0,0⟩
def Hw (l:Ln) (e:En):Ln:=⟨e.sku,l.qty+e.qty,l.parts+1⟩
def ofS (L:List En) (s:ByteArray):List En:=L.filter (fun e=>eqS e.sku s)
def mH (L:List En) (s:ByteArray):Ln:=(ofS L s).foldl Hw ln0
def KD (L:List En):Prop:=∀ e∈L,1 <= e.qty/\e.qty <= 1000000
def EQ (L:List En) (R:List Ln) (er:Int):Prop:=
 (chk L≠0/\R=[]/\er=1)∨(chk L=0/\er=0/\R.Pairwise (fun a b=>a.sku.data.toList < b.sku.data.toList)/\∀ l,l∈R↔∃ e∈L,l=mH L e.sku)
def Mp (D:DataW Ln) (L:List En):Prop:=(∀ s:ByteArray,has D (.string s.data.toList)=true↔∃ e∈L,e.sku=s)/\∀ s:ByteArray,D.atKey (.string s.data.toList) (.held ln0) = .held (mH L s)
end Go.Proofs.YtcilfelgpmfehaaGreat.K
namespace Go.Proofs.YtcilfelgpmfehaaGreat
open Go.RowKit
attribute [local go_sem ↓] zl zk qg qf K.zu K.zt K.ql
attribute [local go_sem] zf zh K.zs K.zB K.zC
def noS (L:List K.En) (s:ByteArray):List K.En:=L.filter (fun e => !K.eqS e.sku s)
def kpB (s:ByteArray) (P:Pst) (e:K.En):Bool:=(decide (s.size=0) || (e.sku.toList == s.toList)) && inB P e
def ktL (L:List K.En) (s:ByteArray) (P:Pst):List K.En:=L.filter (fun e => !kpB s P e)
end Go.Proofs.YtcilfelgpmfehaaGreat
namespace Go.Proofs.YtcilfelgpmfehaaGreat.K
section
open Go.RowKit

def LC (e:Ln):Array Value:=#[.string e.sku,.int .i64 e.qty,.int .i64 e.parts]
abbrev LV (e:Ln):Value:=.agg (LC e)
theorem zdU (e:Ln):(LC e).size=3:=rfl
theorem zbI (e:Ln):(LV e).cells=LC e:=by simp [Value.cells]
theorem zct:(#[.string ⟨#[]⟩,.int .i64 0,.int .i64 0]:Array Value)=LC ln0:=rfl
structure Al (w:World) (p:Addr) (e:Ln):Prop where
 c0:w.cell? p=some (.string e.sku)
 c1:w.cell? (p.add 1)=some (.int .i64 e.qty)
 c2:w.cell? (p.add 2)=some (.int .i64 e.parts)
def uS (w:World) (g:Nat) (T:TypeId) (e:Ln):Prop:=w.heap[g]? = some (.cells (LC e) T (0,0))
theorem uS.at {w:World} {g:Nat} {T:TypeId} {e:Ln} (h:uS w g T e):Al w ⟨g,0,none⟩ e:=by
 unfold uS at h;refine ⟨?_,?_,?_⟩ <;> simp [Addr.add,World.cell?,h,LC]
def sK (w:World) (ao:Option Addr) (m c:Nat) (L:List Ln):Prop:=
 L.length=m/\(ao=none -> m=0/\c=0)/\(∀ ad,ao=some ad -> ∀ t,t < m -> Al w (ad.add (t * 3)) (L.getD t ln0))/\(∀ e∈L,e.sku.size <= maxLen)/\m <= 3518437208883
theorem sK.at {w:World} {ao:Option Addr} {m c:Nat} {L:List Ln} (h:sK w ao m c L) (k:Nat) (hk:k < m):∃ ad,ao=some ad/\Al w (ad.add (k * 3)) (L.getD k ln0):=by
 cases ao with
 | none=>have:=h.2.1 rfl;omega
 | some ad=>exact ⟨ad,rfl,h.2.2.1 ad rfl k hk⟩
theorem sK.none (w:World):sK w none 0 0 []:=⟨rfl,fun _=>⟨rfl,rfl⟩,(fun ad h=>by cases h),(fun e he=>by cases he),by omega⟩
def lcs (L:List Ln):List Value:=(L.map (fun e=>(LC e).toList)).flatten
end
section
open Go.RowKit Go.Maps
attribute [local go_sem] zct zbI zdU
theorem zgy (t:ByteArray) (a b:Int):((((LC ln0).setIfInBounds 0 (.string t)).setIfInBounds 1 (.int .i64 a)).setIfInBounds 2 (.int .i64 b))=LC ⟨t,a,b⟩:=rfl
def RL (v:Value):Option (DataW Ln × List MemPlace):=
 match v with
 | .agg cs=>(match cs.toList with
  | [.string s,.int .i64 q,.int .i64 p]=>some (.held ⟨s,q,p⟩,[])
  | _=>none)
 | _=>none
attribute [local go_sem] zgy
end
section
open Go.RowKit
attribute [local go_sem ↓] zu zt
attribute [local go_sem] zC zs zB zct zbI zdU
def ttl:List En -> Int
 | []=>0
 | e :: r=>e.qty+ttl r
def Nz (L:List En):Int:=if chk L=0 then ttl L else 0
def lnV (L:List En) (s:ByteArray):Ln:=if ofE L s=0 then mH L s else ln0
end
end Go.Proofs.YtcilfelgpmfehaaGreat.K
namespace Go.Proofs.YtcilfelgpmfehaaGreat
open Go.RowKit
attribute [local go_sem ↓] zl zk qg qf K.zu K.zt
attribute [local go_sem] zf zh
def dsB (s:ByteArray) (r:Int) (e:K.En):Bool:=(decide (s.size=0) || (e.sku.toList == s.toList)) && (decide (r < 0) || (e.rep == r))
def smB (s:ByteArray) (r:Int) (e:K.En):Bool:=(e.sku.toList == s.toList) && (decide (r < 0) || (e.rep == r))
end Go.Proofs.YtcilfelgpmfehaaGreat
namespace Go.Proofs.YtcilfelgpmfehaaGreat.K
open Go.RowKit
attribute [local go_sem ↓] zu zt qO
attribute [local go_sem] zC zs
def isD (x:En):Bool:=(isR x.rep && decide (1 <= x.num)) && decide (x.num <= 1000000000)
end Go.Proofs.YtcilfelgpmfehaaGreat.K
namespace Go.Proofs.YtcilfelgpmfehaaGreat
section
open Go.RowKit
attribute [local go_sem ↓] zl zk zM zL qg qf
attribute [local go_sem] zf zh zj zr zD zN zZ qr
end
section
open Go.RowKit
attribute [local go_sem ↓] zl zk zM zL qg qf
attribute [local go_sem] zf zh zj zr zD zN zZ qr
end
section
open Go.RowKit
attribute [local go_sem ↓] zl zk zM zL qg qf
attribute [local go_sem] zf zh zj zr zD zN zZ qr
end
section
open Go.RowKit
attribute [local go_sem ↓] zl zk
attribute [local go_sem] xv q8 zw zf zW zh qs
end
section
open Go.RowKit
attribute [local go_sem ↓] zl zk qg qf
attribute [local go_sem] zw zf zW zh zD zN zZ qr
theorem zgd (x y:Int):((RC rn0).setIfInBounds 0 (.int .i64 x)).setIfInBounds 1 (.int .i64 y)=RC ⟨x,y⟩:=rfl
attribute [local go_sem] zgd
def DD (P:Pst) (r lim:Int) (d:Rn) (x:Int):Prop:=(V.isR r=false/\d=rn0/\x=3)∨(V.isR r=true/\∃ k,pl P r k/\((min lim 1000000000 <= k/\d=rn0/\x=9)∨(k < min lim 1000000000/\d=⟨r,k+1⟩/\x=0)))
def Ny (w w':World) (e:Ending) (P:Pst) (r lim:Int):Prop:=∃ d x,e = .returned (.tuple #[RV d,.int .i64 x])/\DD P r lim d x/\Below w.heap.size w w'
end
section
open Go.RowKit
attribute [local go_sem ↓] zl zk zM zL qg qf
attribute [local go_sem] zf zh zj zr zD zN zZ qr
end
section
open Go.RowKit
def dg (f:Fc) (P:Pst):Prop:=af P/\∀ r,r < 16 -> ∀ n,mem (aa P r) n↔mem (cv (f.es.map am) r) n∨mem (aa f.p.P r) n
theorem dg.one {f:Fc} {P Q:Pst} (h:dg f P) (k:dg f Q):P=Q:=
 (zz.2 h.1).unique (zz.2 k.1) fun r hr n=>(h.2 r hr n).trans (k.2 r hr n).symm
def Ie (f s:Fc):Prop:=s.es=f.es/\dg f s.p.P/\gR f.rs s.p.P s.rs
def EvS (f s:Fc) (er:Int):Prop:=(DF f er/\er≠0/\s=fz0)∨(DF f 0/\er=0/\Ie f s)
attribute [local go_sem ↓] zl zk zM zL zK zJ xm x4
attribute [local go_sem] zf zh zj zr zF qG xQ qV zw
end
end Go.Proofs.YtcilfelgpmfehaaGreat
namespace Go.Proofs.YtcilfelgpmfehaaGreat.K
section
open Go.RowKit
attribute [local go_sem ↓] zu zt qO
attribute [local go_sem] zC zs
end
section
open Go.RowKit
attribute [local go_sem ↓] zu zt qO xT
def Nr (w:World) (g:Nat) (y:En):Prop:=w.heap[g]? = some (.cells (DC y) 64 (0,0))
def PlA (w w':World) (x:Ending) (B:List En) (y:En):Prop:=∃ z:Int,x = .returned (.int .i64 z)/\Below w.heap.size w w'/\((z = -1/\∀ e∈B,aj e y=false)∨∃ k:Nat,k < B.length/\z=(k:Int)/\aj (B.getD k en0) y=true)
end
section
open Go.RowKit
attribute [local go_sem ↓] zu zt qO ql
theorem zbC (x y:En):eqE x y=true↔x=y:=by
 obtain ⟨a,b,s,q⟩:=x;obtain ⟨a',b',s',q'⟩:=y;simp only [eqE,Bool.and_eq_true,beq_iff_eq,En.mk.injEq];constructor
 ·rintro ⟨⟨⟨h1,h2⟩,h3⟩,h4⟩;refine ⟨h1,h2,?_,h4⟩;rw [ByteArray.toList_eq,ByteArray.toList_eq] at h3;exact ByteArray.ext (Array.ext' h3)
 ·rintro ⟨h1,h2,h3,h4⟩;exact ⟨⟨⟨h1,h2⟩,by rw [h3]⟩,h4⟩
def CwB (B:List En) (x:En):Prop:=∃ y∈B,aj x y=true/\x≠y
def ClA (w w':World) (x:Ending) (A B:List En):Prop:=∃ b:Bool,x = .returned (.bool b)/\(b=true↔aV (A++B))/\Below w.heap.size w w'
end
end Go.Proofs.YtcilfelgpmfehaaGreat.K
namespace Go.Proofs.YtcilfelgpmfehaaGreat
section
open Go.RowKit
attribute [local go_sem ↓] zl zk zR zQ K.zu K.zt
attribute [local go_sem] zf zh zy zH K.zs K.zB K.zC
variable {w w' w2 W W' : World} {g : Nat}
end
section
open Go.RowKit
attribute [local go_sem ↓] zl zk K.zu K.zt K.qO
attribute [local go_sem] zf zh K.zs K.zB
def lY (B:List K.En) (P:Pst) (x:K.En):Bool:=B.any (fun y=>K.aj y x) || !inB P x
end
section
open Go.RowKit Go.Maps Go.Sort
theorem zdr (a b:Pv):Array.foldl (fun cs x=>cs.setIfInBounds (2+x.snd) x.fst) (Array.foldl (fun cs x=>cs.setIfInBounds x.snd x.fst) #[(PC pv0)[0]!,(PC pv0)[1]!,(PC pv0)[0]!,(PC pv0)[1]!] (PC a).zipIdx 0 2) (PC b).zipIdx 0 2=#[.slice a.vo a.vn a.vc,.slice a.co a.cn a.cc,.slice b.vo b.vn b.vc,.slice b.co b.cn b.cc]:=rfl
attribute [local go_sem ↓] zl zk
attribute [local go_sem] zf zh zw zdr
def mN (L:List K.En) (P Q:Pst):Prop:=∃ D:Pst,ae (cv (L.map am)) D/\∃ C:Nat -> List Rn,(∀ r,r < 16 -> cG (aa P r) (aa D r) (C r))/\ae C Q
theorem vN (ao:Option Addr) (n cap:Nat) (L:List K.En) (p:Pv) (w:World) (hS:K.aF w ao n cap L) (hc:K.chk L=0) (hP:ak w p) :
  Calls Tryz.prog 68 #[.slice ao n cap,PV p] w fun x w'=>cW w w' x (mN L p.P):=by
 have b1:=ze w (.cells (PC p) 26);have b2:=ze (w.alloc (.cells (PC p) 26)) (.cells (PC pv0) 26);have fq:=hide ((zq w p).below b2);have X2:=zq (w.alloc (.cells (PC p) 26)) pv0;rw [World.size_alloc] at X2;have fL:=hide X2;have az:=hide (b1.trans (b2.mono b1.size));have HS:=hide (hS.below az.out);have HP:=hide (hP.below az.out);have HC:=hide hc;clear b1 b2 X2 hS hP hc;obtain ⟨wk,cq⟩:∃ wk,(w.alloc (.cells (PC p) 26)).alloc (.cells (PC pv0) 26)=wk:=⟨_,rfl⟩;obtain ⟨G,HG⟩:∃ G,Hid (w.heap.size=G):=⟨_,rfl⟩;have hG:=HG.out;rw [cq] at fq fL az HS HP;rw [hG] at fq fL;go_enter Tryz.func68,Tryz.ntmps68;go_wp2_with fail;clear cq hG;refine (zbE ao n cap L _ HS.out).mono ?_;rintro x w3 ⟨b3,⟨-,d,rfl,Sd,Nd,Cd⟩ | ⟨hno,-⟩⟩;rotate_left
 ·exact absurd HC.out hno
 obtain ⟨g5,oX⟩:∃ g5,w3.heap.size=g5:=⟨_,rfl⟩;obtain ⟨w5,cr,X5,b5,s5⟩:=ip w3 d g5 oX;have b35:=b3.trans (b5.mono b3.size);have mW:Hid (aE w5 g5 d/\ak w5 d):=⟨X5,Sd.below b5⟩;have m8:Hid (aE w5 G p/\ak w5 p/\aE w5 (G+1) pv0/\Below w.heap.size w w5/\G+1 < w5.heap.size):=⟨fq.out.below b35,HP.out.below b35,fL.out.below b35,az.out.trans (b35.mono az.out.size),Nat.lt_of_lt_of_le fL.out.lt b35.size⟩;have GW:=hide Cd;clear Sd Nd Cd X5 b3 b5 b35 s5 fq fL HP HS az
 have l1:=zi m8.out.1.at
 have l2:=zi mW.out.1.at
 go_wp2_with fail;clear cr oX l1 l2;refine (kf p d _ m8.out.2.1 mW.out.2).mono ?_;rintro x w6 ⟨q,rfl,Sq,Nq,b6,Cq⟩;have X6:=m8.out.2.2.1.below b6;have t6:=qJ (p':=q) X6;have ui:Hid (aE (w6.setRow (G+1) (PC q)) (G+1) q):=setRow_heap _ _ _ _ _ _ X6
 have HE:Hid (cW w (w6.setRow (G+1) (PC q)) (.returned (PV q)) (mN L p.P)):=by
  refine ⟨q,rfl,xI (g:=some (G+1)) Sq (fun k e=>by obtain rfl:=Option.some.inj e;exact df.new Nq m8.out.2.2.2.2) (fun r _ hr=>setRow_other _ _ _ _ (fun e=>hr (by rw [e]))),Nq.mono m8.out.2.2.2.1.size,zg (m8.out.2.2.2.1.trans (b6.mono m8.out.2.2.2.1.size)) (by have:=HG.out;omega),d.P,GW.out,Cq⟩
 clear Sq Nq b6 Cq X6;go_wp2_with fail;refine bodyPost_ret (eQ rfl rfl ui.out) rfl ?_;exact HE.out
theorem zez {L:List K.En} {P:Pst} (h:ae (cv (L.map am)) P) (e:K.En) (he:okD (am e)=true):inB P e=L.any (fun y=>K.aj y e):=by
 have h3:=he;unfold okD am at h3;simp only [Bool.and_eq_true,decide_eq_true_eq] at h3
 have h4:0 <= e.rep/\e.rep < 16:=by simpa [V.isR] using h3.1
 have key:inB P e=true↔L.any (fun y=>K.aj y e)=true:=by
  rw [qk,List.any_eq_true];unfold cu;constructor
  ·rintro ⟨-,h2⟩;rw [zV h _ (by show e.rep.toNat < 16;omega),xL] at h2;obtain ⟨d,hd,-,k2,k3⟩:=h2;obtain ⟨x,hx,rfl⟩:=List.mem_map.1 hd;refine ⟨x,hx,?_⟩;unfold am at k2 k3;simp only at k2 k3;simp only [K.aj,Bool.and_eq_true,beq_iff_eq];omega
  ·rintro ⟨x,hx,h2⟩;refine ⟨h3.1,?_⟩;simp only [K.aj,Bool.and_eq_true,beq_iff_eq] at h2
   have ed:am x=am e:=by unfold am;rw [h2.1,h2.2]
   rw [zV h _ (by show e.rep.toNat < 16;omega),xL];exact ⟨am x,List.mem_map.2 ⟨x,hx,rfl⟩,by rw [ed];exact he,by rw [ed];unfold am;simp only;omega,by rw [ed];rfl⟩
 cases h1:inB P e <;> cases h2:L.any (fun y=>K.aj y e)
 ·rfl
 ·rw [h1,h2] at key;exact absurd (key.2 rfl) (by decide)
 ·rw [h1,h2] at key;exact absurd (key.1 rfl) (by decide)
 ·rfl
theorem zfq {L:List K.En} {P Q:Pst} (h:mN L P Q) (e:K.En) (he:okD (am e)=true):inB Q e=(inB P e && !L.any (fun y=>K.aj y e)):=by
 obtain ⟨D,hD,C,hC,hQ⟩:=h;rw [<- zez hD e he];have h3:=he;unfold okD am at h3;simp only [Bool.and_eq_true,decide_eq_true_eq] at h3
 have h4:0 <= e.rep/\e.rep < 16:=by simpa [V.isR] using h3.1
 have hr:e.rep.toNat < 16:=by omega
 have key:inB Q e=true↔inB P e=true/\¬ inB D e=true:=by
  rw [qk,qk,qk];unfold cu;simp only [h3.1,true_and];rw [zV hQ _ hr,(hC _ hr).2]
 cases h1:inB Q e <;> cases h2:inB P e <;> cases h5:inB D e <;> simp_all
theorem zey {a b:Pv} {P:Pst} (h:ae (aA [a,b]) P) (e:K.En) (he:okD (am e)=true):inB P e=(inB a.P e || inB b.P e):=by
 have h3:=he;unfold okD am at h3;simp only [Bool.and_eq_true,decide_eq_true_eq] at h3
 have h4:0 <= e.rep/\e.rep < 16:=by simpa [V.isR] using h3.1
 have hr:e.rep.toNat < 16:=by omega
 have key:inB P e=true↔inB a.P e=true∨inB b.P e=true:=by
  rw [qk,qk,qk];unfold cu;simp only [h3.1,true_and];rw [zV h _ hr,jH];simp
 cases h1:inB P e <;> cases h2:inB a.P e <;> cases h5:inB b.P e <;> simp_all
def fK (A B:List K.En) (P O:Pst) (x:K.En):Prop:=(x∈A/\lY B O x=true)∨(x∈B/\lY A P x=true)
def OkM (A B:List K.En) (P O:Pst):Prop:=K.chk A=0/\K.chk B=0/\af P/\af O
def MgD (A B:List K.En) (P O:Pst) (Z:List K.En) (er:Int):Prop:=(¬ OkM A B P O/\Z=[]/\er=1)∨(OkM A B P O/\K.aV (A++B)/\Z=[]/\er=10)∨(OkM A B P O/\¬ K.aV (A++B)/\er=0/\K.Asc Z/\∀ x,x∈Z↔fK A B P O x)
theorem zcn {A B:List K.En} (h:K.aV (A++B)):K.aV (B++A):=by
 obtain ⟨x,hx,y,hy,h1,h2⟩:=h;exact ⟨x,List.mem_append.2 (List.mem_append.1 hx).symm,y,List.mem_append.2 (List.mem_append.1 hy).symm,h1,h2⟩
theorem zbM {A:List K.En} {x:K.En} (h:x∈A):A.any (fun y=>K.aj y x)=true:=by
 rw [List.any_eq_true];exact ⟨x,h,by simp [K.aj]⟩
theorem zc9 {A B U:List K.En} {P O:Pst} {a b:Pv} {J:Pst} (hA:K.chk A=0) (hB:K.chk B=0) (hU:∀ x,x∈U↔x∈A++B) (ha:mN A P a.P) (hb:mN B O b.P) (hJ:ae (aA [a,b]) J) (x:K.En):x∈U.filter (pkB J false)↔fK A B P O x:=by
 rw [List.mem_filter,hU x,List.mem_append];have hd:x∈A∨x∈B -> okD (am x)=true:=fun h=>h.elim (fun h=>zap (xN hA x h)) (fun h=>zap (xN hB x h))
 have G8:okD (am x)=true -> (pkB J false x=true↔((inB P x && !A.any (fun y=>K.aj y x)) || (inB O x && !B.any (fun y=>K.aj y x)))=false):=fun h=>by
  unfold pkB;rw [zey hJ x h,zfq ha x h,zfq hb x h]
  cases inB P x <;> cases A.any (fun y=>K.aj y x) <;> cases inB O x <;> cases B.any (fun y=>K.aj y x) <;> decide
 unfold fK lY;constructor
 ·rintro ⟨h1,h2⟩;rw [G8 (hd h1),Bool.or_eq_false_iff] at h2;rcases h1 with h1 | h1
  ·refine .inl ⟨h1,?_⟩;have h3:=h2.2
   cases hx:inB O x <;> cases hy:B.any (fun y=>K.aj y x) <;> simp_all
  ·refine .inr ⟨h1,?_⟩;have h3:=h2.1
   cases hx:inB P x <;> cases hy:A.any (fun y=>K.aj y x) <;> simp_all
 ·rintro (⟨h1,h2⟩ | ⟨h1,h2⟩)
  ·refine ⟨.inl h1,(G8 (hd (.inl h1))).2 ?_⟩;rw [zbM h1]
   cases hx:inB O x <;> cases hy:B.any (fun y=>K.aj y x) <;> simp_all
  ·refine ⟨.inr h1,(G8 (hd (.inr h1))).2 ?_⟩;rw [zbM h1]
   cases hx:inB P x <;> cases hy:A.any (fun y=>K.aj y x) <;> simp_all
theorem zeq (W:World) (a b:Pv) (ha:ak W a) (hb:ak W b):eT (W.alloc (.cells #[.slice a.vo a.vn a.vc,.slice a.co a.cn a.cc,.slice b.vo b.vn b.vc,.slice b.co b.cn b.cc] 26)) (some ⟨W.heap.size,0,none⟩) 2 [a,b]:=by
 have b1:=ze W (.cells #[.slice a.vo a.vn a.vc,.slice a.co a.cn a.cc,.slice b.vo b.vn b.vc,.slice b.co b.cn b.cc] 26);have h1:=heap_alloc_new W (.cells #[.slice a.vo a.vn a.vc,.slice a.co a.cn a.cc,.slice b.vo b.vn b.vc,.slice b.co b.cn b.cc] 26);refine ⟨rfl,fun e=>(by cases e),fun ad e t p hp=>?_,fun p hp=>?_⟩
 ·obtain rfl:(⟨W.heap.size,0,none⟩:Addr)=ad:=Option.some.inj e;rw [Addr.add_lit,Nat.zero_add]
  match t,hp with
  | 0,hp=>cases hp;refine ⟨?_,?_⟩ <;> (try rw [Addr.add_lit]) <;> simp only [World.cell?,h1] <;> rfl
  | 1,hp=>cases hp;refine ⟨?_,?_⟩ <;> (try rw [Addr.add_lit]) <;> simp only [World.cell?,h1] <;> rfl
  | t+2,hp=>simp at hp
 ·rcases List.mem_cons.1 hp with rfl | hp
  ·exact ha.below b1
  ·obtain rfl:=List.mem_singleton.1 hp;exact hb.below b1
def MgA (w w':World) (x:Ending) (A B:List K.En) (P O:Pst):Prop:=∃ a n c Z er,x = .returned (.tuple #[.slice a n c,.int .i64 er])/\K.aF w' a n c Z/\Below w.heap.size w w'/\MgD A B P O Z er
theorem zda (ao bo:Option Addr) (n cap m cap':Nat) (A B:List K.En) (p o:Pv) (w:World) (hA:K.aF w ao n cap A) (hB:K.aF w bo m cap' B) (hP:ak w p) (hO:ak w o) :
  Calls Tryz.prog 42 #[.slice ao n cap,PV p,.slice bo m cap',PV o] w fun x w'=>MgA w w' x A B p.P o.P:=by
 have b1:=ze w (.cells (PC p) 26);have b2:=ze (w.alloc (.cells (PC p) 26)) (.cells (PC o) 26);have fq:=hide ((zq w p).below b2);have X2:=zq (w.alloc (.cells (PC p) 26)) o;rw [World.size_alloc] at X2;have fL:=hide X2;have az:=hide (b1.trans (b2.mono b1.size));have HA:=hide (hA.below az.out);have HB:=hide (hB.below az.out);have HP:=hide (hP.below az.out);have HO:=hide (hO.below az.out);clear b1 b2 X2 hA hB hP hO;obtain ⟨wk,cq⟩:∃ wk,(w.alloc (.cells (PC p) 26)).alloc (.cells (PC o) 26)=wk:=⟨_,rfl⟩;obtain ⟨G,hG⟩:∃ G,w.heap.size=G:=⟨_,rfl⟩;rw [cq] at fq fL az HA HB HP HO;rw [hG] at fq fL
 have l1:=zi fq.out.at
 go_enter Tryz.func42,Tryz.ntmps42;go_wp2_with fail;clear cq hG l1;refine (qP p _ HP.out).mono ?_;rintro x w2 ⟨b,rfl,hb,b2⟩
 cases b with
 | false =>
  have HE:Hid (MgA w w2 (.returned (.tuple #[.slice none 0 0,.int .i64 1])) A B p.P o.P):=⟨_,_,_,_,_,rfl,K.aF.none _,az.out.trans (b2.mono az.out.size),.inl ⟨fun h=>(by have:=hb.out.2 h.2.2.1;cases this),rfl,rfl⟩⟩;clear hb b2;go_wp2_with fail;go_ret2;exact HE.out
 | true =>
  have fu:Hid (af p.P):=hb.out.1 rfl
  have l2:=zi (fL.out.below b2).at
  have cd:=hide b2;clear hb b2;go_wp2_with fail;clear l2;refine (qP o _ (HO.out.below cd.out)).mono ?_;rintro x w3 ⟨b,rfl,hb,b3⟩;have aN:=wTr cd b3;clear b3 cd
  cases b with
  | false =>
   have HE:Hid (MgA w w3 (.returned (.tuple #[.slice none 0 0,.int .i64 1])) A B p.P o.P):=⟨_,_,_,_,_,rfl,K.aF.none _,az.out.trans (aN.out.mono az.out.size),.inl ⟨fun h=>(by have:=hb.out.2 h.2.2.2;cases this),rfl,rfl⟩⟩;clear hb;go_wp2_with fail;go_ret2;exact HE.out
  | true =>
   have fW:Hid (af o.P):=hb.out.1 rfl;clear hb;go_wp2_with fail;refine (K.zcv ao bo n cap m cap' A B _ (HA.out.below aN.out) (HB.out.below aN.out)).mono ?_;rintro x w4 ⟨uo,un,uc,U,er,rfl,S4,b4,hU⟩;have aR:=wTr aN b4;clear b4 aN;rcases hU with ⟨hno,rfl,rfl⟩ | ⟨iE,⟨fD,rfl,rfl⟩ | ⟨fD,rfl,hAs,hm⟩⟩
   ·have HE:Hid (MgA w w4 (.returned (.tuple #[.slice none 0 0,.int .i64 1])) A B p.P o.P):=⟨_,_,_,_,_,rfl,K.aF.none _,az.out.trans (aR.out.mono az.out.size),.inl ⟨fun h=>hno ⟨h.1,h.2.1⟩,rfl,rfl⟩⟩;clear hno S4;go_wp2_with fail;go_ret2;exact HE.out
   ·have HE:Hid (MgA w w4 (.returned (.tuple #[.slice none 0 0,.int .i64 10])) A B p.P o.P):=⟨_,_,_,_,_,rfl,K.aF.none _,az.out.trans (aR.out.mono az.out.size),.inr (.inl ⟨⟨iE.1,iE.2,fu.out,fW.out⟩,fD,rfl,rfl⟩)⟩;clear iE fD S4;go_wp2_with fail;go_ret2;exact HE.out
   ·have HU:Hid (K.chk A=0/\K.chk B=0/\¬ K.aV (A++B)/\K.Asc U/\∀ x,x∈U↔x∈A++B):=⟨iE.1,iE.2,fD,hAs,hm⟩;have iK:=hide S4;have aw:Hid (∀ W,Below w4.heap.size w4 W -> (ldP (.pointer (some ⟨G,0,none⟩))).run Tryz.prog W = .ok (PV p) W/\(ldP (.pointer (some ⟨G+1,0,none⟩))).run Tryz.prog W = .ok (PV o) W):=fun W hW=>⟨zi ((fq.out.below aR.out).below hW).at,zi ((fL.out.below aR.out).below hW).at⟩;have Jd:Hid (∀ W:World,∀ a b:Pv,ak W a -> ak W b -> eT (W.alloc (.cells #[.slice a.vo a.vn a.vc,.slice a.co a.cn a.cc,.slice b.vo b.vn b.vc,.slice b.co b.cn b.cc] 26)) (some ⟨W.heap.size,0,none⟩) 2 [a,b]):=fun W a b ha hb=>zeq W a b ha hb;clear iE fD hAs hm S4;go_upto_region 6 with fail;refine wp_region_held_drew (S:=fun W=>(ldP (.pointer (some ⟨G,0,none⟩))).run Tryz.prog W = .ok (PV p) W/\(ldP (.pointer (some ⟨G+1,0,none⟩))).run Tryz.prog W = .ok (PV o) W) (by kernel_rfl) (aw.out _ (zd w4)) (fun hHeld=>?_)
    refine wU 0 ?_;refine wU 1 ?_;refine wU 2 ?_;refine wU 4 ?_;refine wU 5 ?_;refine wR 3 fun K hK=>?_;go_simp;go_wp2_with fail;refine (vN ao n cap A p _ (HA.out.below (aR.out.trans ((zd w4).mono aR.out.size))) HU.out.1 (HP.out.below (aR.out.trans ((zd w4).mono aR.out.size)))).mono ?_;rintro x w5 ⟨ra,rfl,Sa,-,b5,Ra⟩;have ee:Hid (Below w4.heap.size w4 w5):=(zd w4).trans b5;have JR:Hid (mN A p.P ra.P):=Ra;have Ja:=hide Sa;refine hK.out _ _ (aw.out _ ee.out) (fun hHeld=>?_);clear hK K;clear b5 Sa Ra;refine wR 6 fun K hK=>?_;go_simp;go_wp2_with fail;refine (vN bo m cap' B o _ (HB.out.below (aR.out.trans (ee.out.mono aR.out.size))) HU.out.2.1 (HO.out.below (aR.out.trans (ee.out.mono aR.out.size)))).mono ?_
    rintro x w6 ⟨rb,rfl,Sb,-,b6,Rb⟩;have gJ:Hid (Below w4.heap.size w4 w6):=ee.out.trans (b6.mono ee.out.size);have sY:Hid (mN B o.P rb.P):=Rb;have Kl:Hid (ak w6 ra/\ak w6 rb):=⟨Ja.out.below b6,Sb⟩;refine hK.out _ _ (aw.out _ gJ.out) (fun hHeld=>?_);clear hK K;clear b6 Sb Rb Ja;have b7:=ze w6 (.cells #[.slice ra.vo ra.vn ra.vc,.slice ra.co ra.cn ra.cc,.slice rb.vo rb.vn rb.vc,.slice rb.co rb.cn rb.cc] 26);have Bj:=hide (Jd.out w6 ra rb Kl.out.1 Kl.out.2);have cM:=wTr gJ b7;clear b7 Jd;refine wR 7 fun K hK=>?_;go_simp;refine hK.out _ _ (aw.out _ cM.out) (fun hHeld=>?_);clear hK K
    have EW:Hid (wt [ra,rb] <= 8796093022207):=by
     obtain ⟨-,-,C1,-,h1⟩:=JR.out;obtain ⟨-,-,C2,-,h2⟩:=sY.out;have k1:=(jB h1).1;have k2:=(jB h2).1
     show _ <= _
     simp only [wt];omega
    refine wR 8 fun K hK=>?_;go_simp;go_wp2_with fail;refine (qz (some ⟨w6.heap.size,0,none⟩) 2 2 [ra,rb] _ Bj.out EW.out (by decide)).mono ?_;rintro x w8 ⟨pj,rfl,Sj,-,b8,Cj⟩;have iz:=wTr cM b8;have ts:=hide Sj;have Dn:Hid (ae (aA [ra,rb]) pj.P):=Cj;refine hK.out _ _ (aw.out _ iz.out) (fun hHeld=>?_);clear hK K;clear b8 Sj Cj Bj;refine wR 9 fun K hK=>?_;go_simp;go_wp2_with fail;refine (jh uo un uc U pj _ (iK.out.below iz.out) ts.out).mono ?_;rintro x w9 (⟨-,-,a9,n9,c9,rfl,S9,b9,-⟩ | ⟨hno,-⟩);rotate_left
    ·refine absurd ⟨?_,zz.1 Dn.out.canon⟩ hno;exact Go.Proofs.YtcilfelgpmfehaaGreat.K.wo HU.out.2.2.2.1 (fun e he=>((List.mem_append.1 ((HU.out.2.2.2.2 e).1 he)).elim (xN HU.out.1 e) (xN HU.out.2.1 e)))
    have eN:=wTr iz b9;have HE:Hid (MgA w w9 (.returned (.tuple #[.slice a9 n9 c9,.int .i64 0])) A B p.P o.P):=⟨a9,n9,c9,_,0,rfl,S9,az.out.trans ((aR.out.trans (eN.out.mono aR.out.size)).mono az.out.size),.inr (.inr ⟨⟨HU.out.1,HU.out.2.1,fu.out,fW.out⟩,HU.out.2.2.1,rfl,HU.out.2.2.2.1.filter _,zc9 HU.out.1 HU.out.2.1 HU.out.2.2.2.2 JR.out sY.out Dn.out⟩)⟩;refine hK.out _ _ (aw.out _ eN.out) (fun hHeld=>?_);clear hK K;clear S9 b9;refine wU 10 ?_;refine wU 11 ?_;refine wU 12 ?_;refine wU 13 ?_;refine wD ?_ _;clear hHeld;go_wp2_with fail;go_ret2;exact HE.out
end
section
open Go.RowKit
def RcI (s:Fc) (k:Nat):Prop:=∀ j,j < k -> ¬ wiP (s.rs.getD j rc0).p.P s.p.P/\∀ e∈s.es,iN (s.rs.getD j rc0) e=false
attribute [local go_sem ↓] zl zk zK zJ zR zQ K.zu K.zt
attribute [local go_sem] zf zh zj zr zy zH K.zs K.zB
end
end Go.Proofs.YtcilfelgpmfehaaGreat
namespace Go.Proofs.YtcilfelgpmfehaaGreat.K
section
open Go.RowKit
attribute [local go_sem ↓] zu zt qO xT ql
attribute [local go_sem] zC zs zB
structure KB (w:World) (g:Nat) (e:En):Prop where
 c0:w.cell? ⟨g,0,none⟩=some (.int .i64 e.rep)
 c1:w.cell? ⟨g,1,none⟩=some (.int .i64 e.num)
theorem zbJ (e:En):(Value.agg (DC e)).cells=DC e:=by simp [Value.cells]
attribute [local go_sem] zbJ
def Ho (L:List En) (x:En) (k:Int):Prop:=(k = -1/\∀ i,i < L.length -> aj (L.getD i en0) x=false)∨∃ i,i < L.length/\k=(i:Int)/\aj (L.getD i en0) x=true/\∀ j,j < i -> aj (L.getD j en0) x=false
def fdE (L:List En) (k:Int):En:=if k < 0 then en0 else L.getD k.toNat en0
def fdB (k:Int):Bool:=decide (0 <= k)
def lA (w w':World) (y:Ending) (L:List En) (x:En):Prop:=∃ k,y = .returned (.tuple #[EV (fdE L k),.bool (fdB k)])/\Ho L x k/\Below w.heap.size w w'
end
section
open Go.RowKit
attribute [local go_sem ↓] zu zt qO xT ql
attribute [local go_sem] zC zs zB
attribute [local go_sem] zbJ
end
end Go.Proofs.YtcilfelgpmfehaaGreat.K
namespace Go.Proofs.YtcilfelgpmfehaaGreat
open Go.RowKit
structure SwU (w:World) (s:Fc):Prop where
 ok:a8 w s
 row:FcR s
 wt:∀ t,wt (ofS s.rs t) <= 8796093022207
 nm:s.rn * (s.an+1) <= 8796093022207
 rn:s.rn <= 2199023255551
theorem SwU.below {w w':World} {s:Fc} (h:SwU w s) (hb:Below w.heap.size w w'):SwU w' s:=⟨h.ok.below hb,h.row,h.wt,h.nm,h.rn⟩
theorem SwU.chk {w:World} {s:Fc} (h:SwU w s):Calls Tryz.prog 51 #[FaV (mkF s)] w fun e w'=>cS w w' e (lT s):=zaz s w h.ok h.row h.wt h.nm h.rn
def DE (s:Fc) (d:Rn) (x:Int):Prop:=(¬ (aJ s/\cu s.p.P d)/\x=0)∨((aJ s/\cu s.p.P d)/\(∃ e∈s.es,am e=d)/\x=1)∨((aJ s/\cu s.p.P d)/\(¬ ∃ e∈s.es,am e=d)/\x=2)
theorem zbg (x y:Rn) (w:World):(Op.equalIn 10000 64 (.agg (RC x)) (.agg (RC y))).run Tryz.prog w = .ok (x.lo == y.lo && x.hi == y.hi) w:=K.xT ⟨x.lo,x.hi,⟨#[]⟩,0⟩ ⟨y.lo,y.hi,⟨#[]⟩,0⟩ w
attribute [local go_sem ↓] zl zk zK zJ qg qf K.zu K.zt zbg
attribute [local go_sem] zf zh zj zr zD zN zZ K.zs K.zB K.zC
end Go.Proofs.YtcilfelgpmfehaaGreat
