/- SYb SYc -/
import Derived.Test.YtaphmhbmhcahaaaGreatSj35
import Derived.Test.YtaphmhbmhcahaaaGreatSj36
import Derived.Test.YtaphmhbmhcahaaaGreatSj31
import Derived.Maps.OwnSet
import Derived.DeepKeys4
namespace Go.Proofs.YtaphmhbmhcahaaaGreat
section
open Go.RowKit
def eD (d:Rn):K.En:=⟨d.lo,d.hi,⟨#[]⟩,0⟩
theorem dotIn_eD (P:Pst) (d:Rn):dotIn P d↔inB P (eD d)=true:=(inB_iff P (eD d)).symm
def LvD (s:Fc) (d:Rn):Prop:=∃ e∈s.es,dotOf e=d
theorem KnOf.cases {s:Fc} {d:Rn} {x:Int} (hf:FormS s) (h:KnOf s d x):(¬ inB s.p.P (eD d)=true/\x=0)∨(inB s.p.P (eD d)=true/\LvD s d/\x=1)∨(inB s.p.P (eD d)=true/\¬ LvD s d/\x=2):=by
 rcases h with ⟨h,rfl⟩ | ⟨⟨-,h⟩,h2,rfl⟩ | ⟨⟨-,h⟩,h2,rfl⟩
 ·exact .inl ⟨fun k=>h ⟨hf,(dotIn_eD _ _).2 k⟩,rfl⟩
 ·exact .inr (.inl ⟨(dotIn_eD _ _).1 h,h2,rfl⟩)
 ·exact .inr (.inr ⟨(dotIn_eD _ _).1 h,h2,rfl⟩)
attribute [local go_sem ↓] ldP_eq stP_eq ldSw_eq stSw_eq ldD_eq stD_eq
attribute [local go_sem] cells_PV PC_size cells_FaV FaC_size zero_FaZ cells_RV RC_size zero_RC
end
section
open Go.RowKit Go.Maps
def RE (v:Value):Option (DataW K.En × List MemPlace):=
 match v with
 | .agg cs=>(match cs.toList with
  | [.int .i64 r,.int .i64 n,.string s,.int .i64 q]=>some (.held ⟨r,n,s,q⟩,[])
  | _=>none)
 | _=>none
def DmE (D:DataW K.En) (L:List K.En):Prop:=∀ d l,keyOf Tryz.prog 43 (RV d)=some l -> (has D l=true↔∃ e∈L,dotOf e=d)/\∀ e∈L,dotOf e=d -> D.atKey l (.held K.en0) = .held e
def MapE (w:World) (b k:Nat) (L:List K.En):Prop:=∃ D,w.ownsMap Tryz.prog 43 RE b k D/\DmE D L
theorem MapE.below {w w':World} {b k n:Nat} {L:List K.En} (h:MapE w b k L) (hb:Below n w w') (hn:b < n):MapE w' b k L:=by
 obtain ⟨D,⟨es,c,h1,h2⟩,h3⟩:=h;exact ⟨D,⟨es,c,(hb.block b hn).trans h1,h2⟩,h3⟩
theorem MapE.lt {w:World} {b k:Nat} {L:List K.En} (h:MapE w b k L):b < w.heap.size:=h.choose_spec.1.lt
attribute [local go_sem ↓] ldP_eq stP_eq ldSw_eq stSw_eq ldD_eq stD_eq K.ld28_eq K.st28_eq
attribute [local go_sem] cells_PV PC_size cells_FaV FaC_size cells_RV RC_size zero_RC K.cells_EV K.EC_size K.zero_EC
end
end Go.Proofs.YtaphmhbmhcahaaaGreat
