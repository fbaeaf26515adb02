/- PMd QMi QMj -/
import Derived.Test.YtaphmhbmhcahaabGreatSn03
import Derived.Test.YtaphmhbmhcahaabGreatSn01
namespace Go.Proofs.YtaphmhbmhcahaabGreat
section
open Go.RowKit

def BIf (x:Bool) (P:Prop):Prop:=x=true↔P
theorem BIf.out {x:Bool} {P:Prop} (h:BIf x P):x=true↔P:=h
theorem BIf.yes {P:Prop} (h:P):BIf true P:=⟨fun _=>h,fun _=>rfl⟩
theorem BIf.no {P:Prop} (h:¬ P):BIf false P:=⟨(fun e=>by cases e),fun e=>absurd e h⟩
def GivB (w w':World) (e:Ending) (P:Prop):Prop:=∃ b,e = .returned (.bool b)/\BIf b P/\Below w.heap.size w w'
def dotIn (P:Pst) (d:Rn):Prop:=V.isR d.lo=true/\mem (runsAt P d.lo.toNat) d.hi
theorem mem_runs (P:Pst) (r:Nat) (hr:r < 16) (n:Int):mem (runsAt P r) n↔1 <= n/\n <= 1000000000/\(n <= P.vec.getD r 0∨∃ c,c∈P.cloud/\c.rep=(r:Int)/\c.lo <= n/\n <= c.hi):=by
 unfold runsAt;rw [mem_append]
 have hv:mem (vecPart (V.at' P.vec r)) n↔1 <= n/\n <= 1000000000/\n <= P.vec.getD r 0:=by
  unfold vecPart V.at' V.clamp;rw [if_pos hr];generalize P.vec.getD r 0=z;by_cases h1:z < 0
  ·simp only [if_pos h1];rw [if_neg (by omega)];exact ⟨fun h=>absurd h (mem_nil n),fun h=>by omega⟩
  ·by_cases h2:1000000000 < z
   ·simp only [if_neg h1,if_pos h2];rw [if_pos (by omega),mem_one];exact ⟨fun h=>by simp only at h;omega,fun h=>by simp only;omega⟩
   ·simp only [if_neg h1,if_neg h2];by_cases h3:0 < z
    ·rw [if_pos h3,mem_one];exact ⟨fun h=>by simp only at h;omega,fun h=>by simp only;omega⟩
    ·rw [if_neg h3];exact ⟨fun h=>absurd h (mem_nil n),fun h=>by omega⟩
 have hc:mem (cloudPart P.cloud r) n↔1 <= n/\n <= 1000000000/\∃ c,c∈P.cloud/\c.rep=(r:Int)/\c.lo <= n/\n <= c.hi:=by
  unfold cloudPart mem;refine and_congr_right fun _=>and_congr_right fun _=>?_;constructor
  ·rintro ⟨x,hx,e⟩;obtain ⟨c,hc,rfl⟩:=List.mem_map.1 hx;obtain ⟨h1,h2⟩:=List.mem_filter.1 hc;exact ⟨c,h1,of_decide_eq_true h2,e⟩
  ·rintro ⟨c,hc,h1,h2⟩;exact ⟨⟨c.lo,c.hi⟩,List.mem_map.2 ⟨c,List.mem_filter.2 ⟨hc,decide_eq_true h1⟩,rfl⟩,h2⟩
 rw [hv,hc];constructor
 ·rintro (⟨h1,h2,h3⟩ | ⟨h1,h2,h3⟩)
  ·exact ⟨h1,h2,Or.inl h3⟩
  ·exact ⟨h1,h2,Or.inr h3⟩
 ·rintro ⟨h1,h2,h3 | h3⟩
  ·exact Or.inl ⟨h1,h2,h3⟩
  ·exact Or.inr ⟨h1,h2,h3⟩
theorem dotIn_iff (P:Pst) (d:Rn):dotIn P d↔0 <= d.lo/\d.lo < 16/\1 <= d.hi/\d.hi <= 1000000000/\(d.hi <= P.vec.getD d.lo.toNat 0∨∃ c,c∈P.cloud/\c.rep=d.lo/\c.lo <= d.hi/\d.hi <= c.hi):=by
 unfold dotIn;by_cases h:0 <= d.lo/\d.lo < 16
 ·have e:V.isR d.lo=true:=by simp [V.isR];exact h
  have e2:((d.lo.toNat:Nat):Int)=d.lo:=by omega
  rw [mem_runs P _ (by omega),e2];simp [e,h.1,h.2]
 ·have e:¬ V.isR d.lo=true:=by simp [V.isR];omega
  exact ⟨fun g=>absurd g.1 e,fun g=>absurd ⟨g.1,g.2.1⟩ h⟩
def inSpan (d:Rn) (c:Sn):Prop:=c.rep=d.lo/\c.lo <= d.hi/\d.hi <= c.hi
end
section
open Go.RowKit

def refRuns (p:Pst) (r:Nat):List Rn:=(if r < p.vec.length then [⟨1,p.vec.getD r 0⟩] else [])++cloudPart p.cloud r
def refOf:List Pv -> Nat -> List Rn
 | [],_=>[]
 | p :: X,r=>refRuns p.P r++refOf X r
theorem refOf_append (X Y:List Pv) (r:Nat):refOf (X++Y) r=refOf X r++refOf Y r:=by
 induction X with
 | nil=>rfl
 | cons p X ih=>simp [refOf,ih]
theorem refRuns_mem (p:Pst) (r:Nat) (hr:r < 16) (n:Int):mem (refRuns p r) n↔mem (runsAt p r) n:=by
 rw [mem_runs p r hr n];unfold refRuns;rw [mem_append]
 have hc:mem (cloudPart p.cloud r) n↔1 <= n/\n <= 1000000000/\∃ c,c∈p.cloud/\c.rep=(r:Int)/\c.lo <= n/\n <= c.hi:=by
  unfold cloudPart mem;refine and_congr_right fun _=>and_congr_right fun _=>?_;constructor
  ·rintro ⟨x,hx,e⟩;obtain ⟨c,hc,rfl⟩:=List.mem_map.1 hx;obtain ⟨h1,h2⟩:=List.mem_filter.1 hc;exact ⟨c,h1,of_decide_eq_true h2,e⟩
  ·rintro ⟨c,hc,h1,h2⟩;exact ⟨⟨c.lo,c.hi⟩,List.mem_map.2 ⟨c,List.mem_filter.2 ⟨hc,decide_eq_true h1⟩,rfl⟩,h2⟩
 rw [hc];by_cases h:r < p.vec.length
 ·rw [if_pos h,mem_one];simp only;constructor
  ·rintro (g | g)
   ·exact ⟨g.1,g.2.1,Or.inl g.2.2.2⟩
   ·exact ⟨g.1,g.2.1,Or.inr g.2.2⟩
  ·rintro ⟨g1,g2,g | g⟩
   ·exact Or.inl ⟨g1,g2,g1,g⟩
   ·exact Or.inr ⟨g1,g2,g⟩
 ·rw [if_neg h]
  have e:p.vec.getD r 0=0:=by rw [List.getD,List.getElem?_eq_none (by omega)];rfl
  constructor
  ·rintro (g | g)
   ·exact absurd g (mem_nil n)
   ·exact ⟨g.1,g.2.1,Or.inr g.2.2⟩
  ·rintro ⟨g1,g2,g | g⟩
   ·omega
   ·exact Or.inr ⟨g1,g2,g⟩
theorem refOf_mem:∀ (X:List Pv) (r:Nat),r < 16 -> ∀ n,mem (refOf X r) n↔mem (runsOf X r) n
 | [],_,_,_=>Iff.rfl
 | p :: X,r,hr,n=>by
  show mem (refRuns p.P r++refOf X r) n↔mem (runsAt p.P r++runsOf X r) n
  rw [mem_append,mem_append,refRuns_mem p.P r hr,refOf_mem X r hr]
theorem zipR_map (G:List Rn):zipR (G.map (fun r=>r.lo)) (G.map (fun r=>r.hi))=G:=by
 unfold zipR
 induction G with
 | nil=>rfl
 | cons a t ih=>simp [ih]
structure MeI (w W:World) (F:Nat -> Si) (G H:Nat -> List Rn):Prop where
 z:ISets W w.heap.size 132 (fun _=>si0)
 a:ISets W (w.heap.size+1) 130 F
 b:ISets W (w.heap.size+1+1) 130 (fun r=>F (16+r))
 o:OwnJ (w.heap.size+3) W F
 l:∀ r,r < 16 -> (F r).L=(G r).map (fun x=>x.lo)
 m:∀ r,r < 16 -> (F (16+r)).L=(H r).map (fun x=>x.hi)
 bl:Below w.heap.size w W
 h:w.heap.size+3 <= W.heap.size
theorem MeI.on {w W W':World} {F:Nat -> Si} {G H:Nat -> List Rn} (I:MeI w W F G H) (hb:Below W.heap.size W W'):MeI w W' F G H:=
 ⟨I.z.below hb,I.a.below hb,I.b.below hb,I.o.below hb,I.l,I.m,I.bl.trans (hb.mono I.bl.size),Nat.le_trans I.h hb.size⟩
theorem MeI.congr {w W:World} {F:Nat -> Si} {G H G' H':Nat -> List Rn} (I:MeI w W F G H) (h1:∀ r,r < 16 -> G r=G' r) (h2:∀ r,r < 16 -> H r=H' r):MeI w W F G' H':=
 ⟨I.z,I.a,I.b,I.o,fun r hr=>by rw [<- h1 r hr];exact I.l r hr,fun r hr=>by rw [<- h2 r hr];exact I.m r hr,I.bl,I.h⟩
theorem MeI.off {w W:World} {F:Nat -> Si} {G H:Nat -> List Rn} (I:MeI w W F G H) (q:Nat) (h:q < w.heap.size+3∨W.heap.size <= q):JOff F q:=I.o.off q h
theorem setCell_other {W:World} {g t q:Nat} {v:Value} (h:q≠g):(W.setCell ⟨g,t,none⟩ v).heap[q]? = W.heap[q]?:=by
 simp [World.setCell,Array.getElem?_modify,show ¬ g=q by omega]
section
variable {w W w2 : World} {F : Nat -> Si} {G H : Nat -> List Rn} {k n cap2 g : Nat} {e : Int} {v : Value}
theorem MeI.mid (I:MeI w W F G H) {F':Nat -> Si} (h2:∀ q,q < W.heap.size -> JOff F q -> w2.heap[q]? = W.heap[q]? /\ JOff F' q):ISets w2 (w.heap.size+1) 130 F/\ISets w2 (w.heap.size+1+1) 130 (fun r=>F (16+r)):=by
 have:=I.h;exact ⟨((h2 _ (by omega) (I.off _ (Or.inl (by omega)))).1).trans I.a,((h2 _ (by omega) (I.off _ (Or.inl (by omega)))).1).trans I.b⟩
theorem MeI.pushLo (I:MeI w W F G H) (hk:k < 16) (x:Rn) (O2:OwnJ (w.heap.size+3) w2 (Jset F k ⟨some ⟨g,0,none⟩,n+1,cap2,(F k).L++[x.lo]⟩)) (h2:∀ q,q < W.heap.size -> JOff F q -> w2.heap[q]? = W.heap[q]? /\ JOff (Jset F k ⟨some ⟨g,0,none⟩,n+1,cap2,(F k).L++[x.lo]⟩) q) (h3:W.heap.size < w2.heap.size) (h4:∀ n0 w0,n0 <= w.heap.size+3 -> Below n0 w0 W -> Below n0 w0 w2) (hv:v = .slice (some ⟨g,0,none⟩) (n+1) cap2) :
  MeI w (w2.setCell ⟨w.heap.size+1,k,none⟩ v) (Jset F k ⟨some ⟨g,0,none⟩,n+1,cap2,(F k).L++[x.lo]⟩) (fun r=>if r=k then G r++[x] else G r) H:=by
 have hh:=I.h;obtain ⟨m1,m2⟩:=I.mid h2;refine ⟨?_,m1.set k _ v hv,?_,O2.kept (fun q hq hno=>setCell_other (fun e=>hno ?_)),fun r hr=>?_,fun r hr=>?_,V.below_setCell (h4 _ _ (by omega) I.bl) (by simp),?_⟩
 ·exact (setCell_other (by omega)).trans (((h2 _ (by omega) (I.off _ (Or.inl (by omega)))).1).trans I.z)
 ·refine (m2.off (by omega)).congr (fun r hr=>?_);rw [Jset_other _ _ _ _ (by omega)]
 ·rw [e];exact O2.off _ (Or.inl (by omega))
 ·by_cases h:r=k
  ·subst h;rw [Jset_same,if_pos rfl,List.map_append,<- I.l r hr];rfl
  ·rw [Jset_other _ _ _ _ h,if_neg h,<- I.l r hr]
 ·rw [Jset_other _ _ _ _ (by omega)];exact I.m r hr
 ·have:(w2.setCell ⟨w.heap.size+1,k,none⟩ v).heap.size=w2.heap.size:=by simp [World.setCell]
  omega
theorem MeI.pushHi (I:MeI w W F G H) (hk:k < 16) (x:Rn) (O2:OwnJ (w.heap.size+3) w2 (Jset F (16+k) ⟨some ⟨g,0,none⟩,n+1,cap2,(F (16+k)).L++[x.hi]⟩)) (h2:∀ q,q < W.heap.size -> JOff F q -> w2.heap[q]? = W.heap[q]? /\ JOff (Jset F (16+k) ⟨some ⟨g,0,none⟩,n+1,cap2,(F (16+k)).L++[x.hi]⟩) q) (h3:W.heap.size < w2.heap.size) (h4:∀ n0 w0,n0 <= w.heap.size+3 -> Below n0 w0 W -> Below n0 w0 w2) (hv:v = .slice (some ⟨g,0,none⟩) (n+1) cap2) :
  MeI w (w2.setCell ⟨w.heap.size+1+1,k,none⟩ v) (Jset F (16+k) ⟨some ⟨g,0,none⟩,n+1,cap2,(F (16+k)).L++[x.hi]⟩) G (fun r=>if r=k then H r++[x] else H r):=by
 have hh:=I.h;obtain ⟨m1,m2⟩:=I.mid h2;refine ⟨?_,?_,(m2.set k ⟨some ⟨g,0,none⟩,n+1,cap2,(F (16+k)).L++[x.hi]⟩ v hv).congr (fun r hr=>?_),O2.kept (fun q hq hno=>setCell_other (fun e=>hno ?_)),fun r hr=>?_,fun r hr=>?_,V.below_setCell (h4 _ _ (by omega) I.bl) (by simp;omega),?_⟩
 ·exact (setCell_other (by omega)).trans (((h2 _ (by omega) (I.off _ (Or.inl (by omega)))).1).trans I.z)
 ·refine (m1.off (by omega)).congr (fun r hr=>?_);rw [Jset_other _ _ _ _ (by omega)]
 ·by_cases h:r=k
  ·subst h;rw [Jset_same,Jset_same]
  ·rw [Jset_other _ _ _ _ h,Jset_other _ _ _ _ (by omega)]
 ·rw [e];exact O2.off _ (Or.inl (by omega))
 ·rw [Jset_other _ _ _ _ (by omega)];exact I.l r hr
 ·by_cases h:r=k
  ·subst h;rw [Jset_same,if_pos rfl,List.map_append,<- I.m r hr];rfl
  ·rw [Jset_other _ _ _ _ (by omega),if_neg h,<- I.m r hr]
 ·have:(w2.setCell ⟨w.heap.size+1+1,k,none⟩ v).heap.size=w2.heap.size:=by simp [World.setCell]
  omega
end
theorem MeI.lenLo {w W:World} {F:Nat -> Si} {G H:Nat -> List Rn} (I:MeI w W F G H) {r:Nat} (hr:r < 16):(F r).n=(G r).length:=by
 have:=I.o.len (r:=r) (by omega);rw [I.l r hr,List.length_map] at this;exact this.symm
theorem MeI.lenHi {w W:World} {F:Nat -> Si} {G H:Nat -> List Rn} (I:MeI w W F G H) {r:Nat} (hr:r < 16):(F (16+r)).n=(H r).length:=by
 have:=I.o.len (r:=16+r) (by omega);rw [I.m r hr,List.length_map] at this;exact this.symm
end
section
open Go.RowKit

theorem OwnJ.src {B:Nat} {W:World} {F:Nat -> Si} (O:OwnJ B W F) (hB:B <= W.heap.size) {r:Nat} (hr:r < 32):V.Src W (F r).ao (F r).n (F r).cap (F r).L:=by
 have hl:=O.len hr;have h:OwnI 0 B W W (F r).ao (F r).cap (F r).L:=⟨by rw [hl];exact O.own r hr,Below.refl _ _,hB,Nat.zero_le _⟩;have:=h.src.1;rw [hl] at this;exact this
structure MeJ (w W:World) (gs:Nat) (F:Nat -> Si) (G:Nat -> List Rn) (T:Nat -> Si) (N:Nat -> List Rn) (j:Nat):Prop where
 i:MeI w W F G G
 s:ISets W gs 132 T
 g:w.heap.size+3 <= gs
 off:JOff F gs
 t:∀ r,r < j -> V.Src W (T r).ao (T r).n (T r).cap (tn (N r))/\(∀ ad,(T r).ao=some ad -> gs < ad.block)/\NormOf (G r) (N r)
theorem MeJ.start {w W:World} {F:Nat -> Si} {G:Nat -> List Rn} (I:MeI w W F G G):MeJ w (W.alloc (.cells (JA fun _=>si0) 132)) W.heap.size F G (fun _=>si0) (fun _=>[]) 0:=
 ⟨I.on (below_new _ _),isets_new _ _ _,I.h,I.off _ (Or.inr (Nat.le_refl _)),fun r h=>absurd h (by omega)⟩
theorem MeJ.on {w W W':World} {gs:Nat} {F:Nat -> Si} {G:Nat -> List Rn} {T:Nat -> Si} {N:Nat -> List Rn} {j:Nat} (I:MeJ w W gs F G T N j) (hb:Below W.heap.size W W'):MeJ w W' gs F G T N j:=
 ⟨I.i.on hb,I.s.below hb,I.g,I.off,fun r hr=>⟨(I.t r hr).1.below hb,(I.t r hr).2⟩⟩
theorem MeJ.push {w W W':World} {gs:Nat} {F:Nat -> Si} {G:Nat -> List Rn} {T:Nat -> Si} {N:Nat -> List Rn} {j:Nat} (I:MeJ w W gs F G T N j) (hb:Below W.heap.size W W') {ao:Option Addr} {n c:Nat} {X:List Rn} (S:V.Src W' ao n c (tn X)) (hf:∀ ad,ao=some ad -> W.heap.size <= ad.block) (hN:NormOf (G j) X) :
  MeJ w (W'.setCell ⟨gs,j,none⟩ (.slice ao n c)) gs F G (Jset T j ⟨ao,n,c,[]⟩) (fun r=>if r=j then X else N r) (j+1):=by
 have hl:=I.s.lt;have hg:=I.g;have J:=I.i.on hb;have hs:∀ {q:Nat},q≠gs -> (W'.setCell ⟨gs,j,none⟩ (.slice ao n c)).heap[q]? = W'.heap[q]?:=fun h=>setCell_other h;refine ⟨⟨(hs (by omega)).trans J.z,(hs (by omega)).trans J.a,(hs (by omega)).trans J.b,J.o.kept (fun q _ ho=>hs (fun e=>ho (by rw [e];exact I.off))),J.l,J.m,V.below_setCell J.bl (by simp;omega),by simpa [World.setCell] using J.h⟩,(I.s.below hb).set j ⟨ao,n,c,[]⟩ _ rfl,hg,I.off,fun r hr=>?_⟩;by_cases h:r=j
 ·subst h;rw [Jset_same,if_pos rfl];exact ⟨src_off S (fun ad h=>hs (by have:=hf ad h;omega)),fun ad h=>by have:=hf ad h;omega,hN⟩
 ·rw [Jset_other _ _ _ _ h,if_neg h];obtain ⟨h1,h2,h3⟩:=I.t r (by omega);exact ⟨src_off (h1.below hb) (fun ad h=>hs (by have:=h2 ad h;omega)),h2,h3⟩
end
end Go.Proofs.YtaphmhbmhcahaabGreat
