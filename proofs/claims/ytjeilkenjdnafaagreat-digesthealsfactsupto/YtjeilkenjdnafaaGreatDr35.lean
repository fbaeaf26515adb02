/- SXw ORo EFa LPl EHo LMe LWi LTo -/
import Derived.Test.YtjeilkenjdnafaaGreatDr30
import Derived.Test.YtjeilkenjdnafaaGreatDr20
import Derived.Test.YtjeilkenjdnafaaGreatDr09
import Derived.Test.YtjeilkenjdnafaaGreatDr10
import Derived.Deep.CutRange
import Derived.Test.YtjeilkenjdnafaaGreatDr27
import Derived.Test.YtjeilkenjdnafaaGreatDr19
import Derived.Sort.KeysCollected
import Derived.Maps.Ext
import Derived.Test.YtjeilkenjdnafaaGreatDr18
namespace Go.Proofs.YtjeilkenjdnafaaGreat
section
open Go.RowKit Go.Maps
def WvA (w w':World) (x:Ending) (L:List Rc) (P:Pst):Prop:=∃ (h:Hs) (F:List Rc),x = .returned (.slice h.o h.n h.c)/\RcS w' h.o h.n h.c F/\Below w.heap.size w w'/\WtOf L P F/\h.n <= h.c/\(h.o=none -> h.c=0)
attribute [local go_sem ↓] ldP_eq stP_eq ldRe_eq stRe_eq
attribute [local go_sem] cells_PV PC_size cells_ReV ReC_size zero_ReC
end
section
open Go.RowKit
attribute [local go_sem ↓] ldP_eq stP_eq
attribute [local go_sem] cells_PV PC_size
variable {w w' w2 W W' : World} {g : Nat}

def spOf (d:Rn):Sn:=⟨d.lo,d.hi,d.hi⟩
structure RO (w2 W:World) (g3:Nat) (ao:Option Addr) (k cap:Nat) (acc:List Sn):Prop where
 own:OwnS g3 (g3+1) w2 W ao cap acc
 box:W.heap[g3]? = some (.cells #[.slice none 0 0,.slice ao k cap] 26 (0,0))
 len:acc.length=k
end
section
open Go.RowKit
attribute [local go_sem ↓] ldP_eq stP_eq ldRe_eq stRe_eq ldD_eq stD_eq K.ld28_eq K.st28_eq K.run_eq28
attribute [local go_sem] cells_PV PC_size cells_ReV ReC_size K.cells_EV K.EC_size zero_ReC K.zero_EC
end
end Go.Proofs.YtjeilkenjdnafaaGreat
namespace Go.Proofs.YtjeilkenjdnafaaGreat.K
open Go.RowKit Go.Maps Go.Sort

structure Ln where
 sku:ByteArray
 qty:Int
 parts:Int
def ln0:Ln:=⟨⟨#[]⟩,0,0⟩
def addL (l:Ln) (e:En):Ln:=⟨e.sku,l.qty+e.qty,l.parts+1⟩
def ofS (L:List En) (s:ByteArray):List En:=L.filter (fun e=>eqS e.sku s)
def lineOf (L:List En) (s:ByteArray):Ln:=(ofS L s).foldl addL ln0
def AllOk (L:List En):Prop:=∀ e∈L,1 <= e.qty/\e.qty <= 1000000
def LinesOf (L:List En) (R:List Ln) (er:Int):Prop:=
 (chk L≠0/\R=[]/\er=1)∨(chk L=0/\er=0/\R.Pairwise (fun a b=>a.sku.data.toList < b.sku.data.toList)/\∀ l,l∈R↔∃ e∈L,l=lineOf L e.sku)
def Mp (D:DataW Ln) (L:List En):Prop:=(∀ s:ByteArray,has D (.string s.data.toList)=true↔∃ e∈L,e.sku=s)/\∀ s:ByteArray,D.atKey (.string s.data.toList) (.held ln0) = .held (lineOf L s)
end Go.Proofs.YtjeilkenjdnafaaGreat.K
namespace Go.Proofs.YtjeilkenjdnafaaGreat
open Go.RowKit
attribute [local go_sem ↓] ldP_eq stP_eq ldD_eq stD_eq K.ld28_eq K.st28_eq K.run_eq28
attribute [local go_sem] cells_PV PC_size K.cells_EV K.EC_size K.zero_EC
def noS (L:List K.En) (s:ByteArray):List K.En:=L.filter (fun e => !K.eqS e.sku s)
def kpB (s:ByteArray) (P:Pst) (e:K.En):Bool:=(decide (s.size=0) || (e.sku.toList == s.toList)) && inB P e
def ktL (L:List K.En) (s:ByteArray) (P:Pst):List K.En:=L.filter (fun e => !kpB s P e)
end Go.Proofs.YtjeilkenjdnafaaGreat
namespace Go.Proofs.YtjeilkenjdnafaaGreat.K
section
open Go.RowKit

def LC (e:Ln):Array Value:=#[.string e.sku,.int .i64 e.qty,.int .i64 e.parts]
abbrev LV (e:Ln):Value:=.agg (LC e)
theorem LC_size (e:Ln):(LC e).size=3:=rfl
theorem cells_LV (e:Ln):(LV e).cells=LC e:=by simp [Value.cells]
theorem zero_LC:(#[.string ⟨#[]⟩,.int .i64 0,.int .i64 0]:Array Value)=LC ln0:=rfl
structure LnAt (w:World) (p:Addr) (e:Ln):Prop where
 c0:w.cell? p=some (.string e.sku)
 c1:w.cell? (p.add 1)=some (.int .i64 e.qty)
 c2:w.cell? (p.add 2)=some (.int .i64 e.parts)
theorem LnAt.on {w w':World} {p:Addr} {e:Ln} (S:LnAt w p e) (hb:Below w.heap.size w w'):LnAt w' p e:=by
 have h0:=World.block_lt_of_cell? _ _ S.c0;exact ⟨by rw [hb.cell h0];exact S.c0,by rw [hb.cell (by rw [block_add];exact h0)];exact S.c1,by rw [hb.cell (by rw [block_add];exact h0)];exact S.c2⟩
def LBox (w:World) (g:Nat) (T:TypeId) (e:Ln):Prop:=w.heap[g]? = some (.cells (LC e) T (0,0))
theorem LBox.lt {w:World} {g:Nat} {T:TypeId} {e:Ln} (h:LBox w g T e):g < w.heap.size:=(Array.getElem?_eq_some_iff.1 h).1
theorem LBox.at {w:World} {g:Nat} {T:TypeId} {e:Ln} (h:LBox w g T e):LnAt w ⟨g,0,none⟩ e:=by
 unfold LBox at h;refine ⟨?_,?_,?_⟩ <;> simp [Addr.add,World.cell?,h,LC]
theorem LBox.below {w w':World} {g:Nat} {T:TypeId} {e:Ln} (h:LBox w g T e) (hb:Below w.heap.size w w'):LBox w' g T e:=(hb.block g h.lt).trans h
def LSrc (w:World) (ao:Option Addr) (m c:Nat) (L:List Ln):Prop:=
 L.length=m/\(ao=none -> m=0/\c=0)/\(∀ ad,ao=some ad -> ∀ t,t < m -> LnAt w (ad.add (t * 3)) (L.getD t ln0))/\(∀ e∈L,e.sku.size <= maxLen)/\m <= 3518437208883
theorem LSrc.below {w w':World} {ao:Option Addr} {m c:Nat} {L:List Ln} (h:LSrc w ao m c L) (hb:Below w.heap.size w w'):LSrc w' ao m c L:=
 ⟨h.1,h.2.1,fun ad ha t ht=>(h.2.2.1 ad ha t ht).on hb,h.2.2.2⟩
theorem LSrc.at {w:World} {ao:Option Addr} {m c:Nat} {L:List Ln} (h:LSrc w ao m c L) (k:Nat) (hk:k < m):∃ ad,ao=some ad/\LnAt w (ad.add (k * 3)) (L.getD k ln0):=by
 cases ao with
 | none=>have:=h.2.1 rfl;omega
 | some ad=>exact ⟨ad,rfl,h.2.2.1 ad rfl k hk⟩
theorem LSrc.none (w:World):LSrc w none 0 0 []:=⟨rfl,fun _=>⟨rfl,rfl⟩,(fun ad h=>by cases h),(fun e he=>by cases he),by omega⟩
def lcs (L:List Ln):List Value:=(L.map (fun e=>(LC e).toList)).flatten
theorem LSrc.kept {w w2:World} {ao:Option Addr} {m c:Nat} {L:List Ln} (h:LSrc w ao m c L) (hk:∀ ad,ao=some ad -> w2.heap[ad.block]? = w.heap[ad.block]?):LSrc w2 ao m c L:=by
 refine ⟨h.1,h.2.1,fun ad ha t ht=>?_,h.2.2.2⟩;have A:=h.2.2.1 ad ha t ht;have hb:∀ j,w2.cell? ((ad.add (t * 3)).add j)=w.cell? ((ad.add (t * 3)).add j):=fun j=>cell_kept (by rw [block_add,block_add];exact hk ad ha);have hb0:w2.cell? (ad.add (t * 3))=w.cell? (ad.add (t * 3)):=cell_kept (by rw [block_add];exact hk ad ha);exact ⟨hb0.trans A.c0,(hb 1).trans A.c1,(hb 2).trans A.c2⟩
end
section
open Go.RowKit Go.Maps
attribute [local go_sem] zero_LC cells_LV LC_size
theorem set_LC (t:ByteArray) (a b:Int):((((LC ln0).setIfInBounds 0 (.string t)).setIfInBounds 1 (.int .i64 a)).setIfInBounds 2 (.int .i64 b))=LC ⟨t,a,b⟩:=rfl
def RL (v:Value):Option (DataW Ln × List MemPlace):=
 match v with
 | .agg cs=>(match cs.toList with
  | [.string s,.int .i64 q,.int .i64 p]=>some (.held ⟨s,q,p⟩,[])
  | _=>none)
 | _=>none
attribute [local go_sem] set_LC
end
section
open Go.RowKit
attribute [local go_sem ↓] ld28_eq st28_eq
attribute [local go_sem] zero_EC cells_EV EC_size zero_LC cells_LV LC_size
def ttl:List En -> Int
 | []=>0
 | e :: r=>e.qty+ttl r
def totV (L:List En):Int:=if chk L=0 then ttl L else 0
def lnV (L:List En) (s:ByteArray):Ln:=if ofE L s=0 then lineOf L s else ln0
end
end Go.Proofs.YtjeilkenjdnafaaGreat.K
