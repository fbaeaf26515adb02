/- PPx PMm BFo -/
import Derived.Test.YtaphmhbmhcahaaaGreatTk
import Derived.Test.YtaphmhbmhcahaaaGreatSj24
import Derived.Deep.RegionHeld3
import Derived.Test.YtaphmhbmhcahaaaGreatSj16
import Derived.Test.YtaphmhbmhcahaaaGreatSj23
import Derived.Test.YtaphmhbmhcahaaaGreatSj10
import Derived.Deep.CutRange
set_option maxRecDepth 100000
set_option maxHeartbeats 4000000
namespace Go.Proofs.YtaphmhbmhcahaaaGreat
section
open Go.RowKit
attribute [local go_sem ↓] ldP_eq stP_eq ldA_eq stA_eq
attribute [local go_sem] zeros_SA cells_SAv zero_PC cells_PV fold_PC PC_size fold_PC1
attribute [local go_sem] zeros_sl
structure PwI (wk wr:World) (g g':Nat) (F G:Nat -> Sl) (A B:Nat -> List Rn) (Rel:List Rn -> List Rn -> List Rn -> Prop) (k:Nat):Prop where
 s:Sets wr g F
 y:Sets wr g' G
 new:∀ r,r < k -> RSrc wr (F r).ao (F r).n (F r).cap (F r).L/\Rel (A r) (B r) (F r).L
 old:∀ r,k <= r -> r < 16 -> RSrc wr (F r).ao (F r).n (F r).cap (F r).L/\(F r).L=A r
 gs:∀ r,r < 16 -> RSrc wr (G r).ao (G r).n (G r).cap (G r).L/\(G r).L=B r
 f1:FarS F g
 f2:FarS G g
 b:Below wk.heap.size wk wr
 g1:wk.heap.size <= g
 gg:g≠g'
theorem PwI.step {wk wr w7:World} {g g':Nat} {F G:Nat -> Sl} {A B:Nat -> List Rn} {Rel:List Rn -> List Rn -> List Rn -> Prop} {k:Nat} (I:PwI wk wr g g' F G A B Rel k) (hk:k < 16) (hb:Below wr.heap.size wr w7) {a1:Option Addr} {n1 c1:Nat} {L:List Rn} (hS:RSrc w7 a1 n1 c1 L) (hfr:∀ ad,a1=some ad -> wr.heap.size <= ad.block) (hR:Rel (A k) (B k) L) :
  PwI wk (w7.setCell ⟨g,k,none⟩ (.slice a1 n1 c1)) g g' (Fset F k ⟨a1,n1,c1,L⟩) G A B Rel (k+1):=by
 have hlt:=I.s.lt
 have other:∀ q,q≠g -> (w7.setCell ⟨g,k,none⟩ (.slice a1 n1 c1)).heap[q]? = w7.heap[q]?:=fun q hq=>by
  simp [World.setCell,Array.getElem?_modify,show ¬ g=q from fun e=>hq e.symm]
 have far:FarS (Fset F k ⟨a1,n1,c1,L⟩) g:=fun r hr ad e=>by
  by_cases h:r=k
  ·subst h;rw [Fset_same] at e;have:=hfr ad e;omega
  ·rw [Fset_other _ _ _ _ h] at e;exact I.f1 r hr ad e
 refine ⟨(I.s.below hb).set k _ _ rfl,(other _ (fun e=>I.gg e.symm)).trans (I.y.below hb),fun r hr=>?_,fun r h1 h2=>?_,fun r hr=>⟨rsrc_off ((I.gs r hr).1.below hb) (fun ad e=>other _ (I.f2 r hr ad e)),(I.gs r hr).2⟩,far,I.f2,V.below_setCell (I.b.trans (hb.mono I.b.size)) I.g1,I.g1,I.gg⟩
 ·by_cases h:r=k
  ·subst h;rw [Fset_same];exact ⟨rsrc_off hS (fun ad e=>other _ (fun e'=>by have:=hfr ad e;omega)),hR⟩
  ·rw [Fset_other _ _ _ _ h];have:=I.new r (by omega);exact ⟨rsrc_off (this.1.below hb) (fun ad e=>other _ (I.f1 r (by omega) ad e)),this.2⟩
 ·rw [Fset_other _ _ _ _ (by omega)];have:=I.old r (by omega) h2;exact ⟨rsrc_off (this.1.below hb) (fun ad e=>other _ (I.f1 r h2 ad e)),this.2⟩
def PwP (w6:World) (Rel:List Rn -> List Rn -> List Rn -> Prop) (A B:List Rn) (W:World) (v:Value):Prop:=∃ a1 n1 c1 L,v = .slice a1 n1 c1/\RSrc W a1 n1 c1 L/\Below w6.heap.size w6 W/\(∀ ad,a1=some ad -> w6.heap.size <= ad.block)/\Rel A B L
structure PwR (w6:World) (g g' k:Nat) (f sx sy:Value) (P:World -> Value -> Prop) (l:Array Bool) (W:World) (v19 v20 v21 v22 v23 v24 v25 v26 v27 v28:Value):Prop where
 sz:l.size=11
 h0:l.getD 0 false=true -> v19 = .int .i64 (k:Int)
 h1:l.getD 1 false=true -> v20=f
 h2:l.getD 2 false=true -> v21 = .int .i64 (k:Int)
 h3:l.getD 3 false=true -> v22=(.pointer (some ⟨g,k,none⟩))
 h4:l.getD 4 false=true -> v23=sx
 h5:l.getD 5 false=true -> v24 = .int .i64 (k:Int)
 h6:l.getD 6 false=true -> v25=(.pointer (some ⟨g',k,none⟩))
 h7:l.getD 7 false=true -> v26=sy
 h9:l.getD 9 false=true -> v28=(.pointer (some ⟨g,k,none⟩))
 h8a:l.getD 8 false=false -> W=w6.drew
 h8b:l.getD 8 false=true -> l.getD 10 false=false -> P W v27
 h10:l.getD 10 false=true -> ∃ W0,P W0 v27/\W=W0.setCell ⟨g,k,none⟩ v27
 c8:l.getD 8 false=true -> l.getD 1 false=true/\l.getD 4 false=true/\l.getD 7 false=true
 c10:l.getD 10 false=true -> l.getD 8 false=true/\l.getD 9 false=true
section
variable {w6 : World} {g g' k : Nat} {f sx sy : Value} {P : World -> Value -> Prop} {l : Array Bool} {W : World} {v19 v20 v21 v22 v23 v24 v25 v26 v27 v28 : Value}
theorem PwR.s0 (T:PwR w6 g g' k f sx sy P l W v19 v20 v21 v22 v23 v24 v25 v26 v27 v28):PwR w6 g g' k f sx sy P (l.setIfInBounds 0 true) W (.int .i64 (k:Int)) v20 v21 v22 v23 v24 v25 v26 v27 v28:=by
 refine ⟨by simpa using T.sz,?_,?_,?_,?_,?_,?_,?_,?_,?_,?_,?_,?_,?_,?_⟩ <;> simp only [set_same (show 0 < l.size by rw [T.sz];decide),set_other (show (0:Nat)≠1 by decide),set_other (show (0:Nat)≠2 by decide),set_other (show (0:Nat)≠3 by decide),set_other (show (0:Nat)≠4 by decide),set_other (show (0:Nat)≠5 by decide),set_other (show (0:Nat)≠6 by decide),set_other (show (0:Nat)≠7 by decide),set_other (show (0:Nat)≠8 by decide),set_other (show (0:Nat)≠9 by decide),set_other (show (0:Nat)≠10 by decide)]
 ·exact fun _=>(by first | trivial | rfl)
 ·exact T.h1
 ·exact T.h2
 ·exact T.h3
 ·exact T.h4
 ·exact T.h5
 ·exact T.h6
 ·exact T.h7
 ·exact T.h9
 ·exact T.h8a
 ·exact T.h8b
 ·exact T.h10
 ·exact fun h=>by have:=T.c8 h;simp [this]
 ·exact fun h=>by have:=T.c10 h;simp [this]
theorem PwR.s1 (T:PwR w6 g g' k f sx sy P l W v19 v20 v21 v22 v23 v24 v25 v26 v27 v28):PwR w6 g g' k f sx sy P (l.setIfInBounds 1 true) W v19 (f) v21 v22 v23 v24 v25 v26 v27 v28:=by
 refine ⟨by simpa using T.sz,?_,?_,?_,?_,?_,?_,?_,?_,?_,?_,?_,?_,?_,?_⟩ <;> simp only [set_same (show 1 < l.size by rw [T.sz];decide),set_other (show (1:Nat)≠0 by decide),set_other (show (1:Nat)≠2 by decide),set_other (show (1:Nat)≠3 by decide),set_other (show (1:Nat)≠4 by decide),set_other (show (1:Nat)≠5 by decide),set_other (show (1:Nat)≠6 by decide),set_other (show (1:Nat)≠7 by decide),set_other (show (1:Nat)≠8 by decide),set_other (show (1:Nat)≠9 by decide),set_other (show (1:Nat)≠10 by decide)]
 ·exact T.h0
 ·exact fun _=>(by first | trivial | rfl)
 ·exact T.h2
 ·exact T.h3
 ·exact T.h4
 ·exact T.h5
 ·exact T.h6
 ·exact T.h7
 ·exact T.h9
 ·exact T.h8a
 ·exact T.h8b
 ·exact T.h10
 ·exact fun h=>by have:=T.c8 h;simp [this]
 ·exact fun h=>by have:=T.c10 h;simp [this]
theorem PwR.s2 (T:PwR w6 g g' k f sx sy P l W v19 v20 v21 v22 v23 v24 v25 v26 v27 v28):PwR w6 g g' k f sx sy P (l.setIfInBounds 2 true) W v19 v20 (.int .i64 (k:Int)) v22 v23 v24 v25 v26 v27 v28:=by
 refine ⟨by simpa using T.sz,?_,?_,?_,?_,?_,?_,?_,?_,?_,?_,?_,?_,?_,?_⟩ <;> simp only [set_same (show 2 < l.size by rw [T.sz];decide),set_other (show (2:Nat)≠0 by decide),set_other (show (2:Nat)≠1 by decide),set_other (show (2:Nat)≠3 by decide),set_other (show (2:Nat)≠4 by decide),set_other (show (2:Nat)≠5 by decide),set_other (show (2:Nat)≠6 by decide),set_other (show (2:Nat)≠7 by decide),set_other (show (2:Nat)≠8 by decide),set_other (show (2:Nat)≠9 by decide),set_other (show (2:Nat)≠10 by decide)]
 ·exact T.h0
 ·exact T.h1
 ·exact fun _=>(by first | trivial | rfl)
 ·exact T.h3
 ·exact T.h4
 ·exact T.h5
 ·exact T.h6
 ·exact T.h7
 ·exact T.h9
 ·exact T.h8a
 ·exact T.h8b
 ·exact T.h10
 ·exact fun h=>by have:=T.c8 h;simp [this]
 ·exact fun h=>by have:=T.c10 h;simp [this]
theorem PwR.s3 (T:PwR w6 g g' k f sx sy P l W v19 v20 v21 v22 v23 v24 v25 v26 v27 v28):PwR w6 g g' k f sx sy P (l.setIfInBounds 3 true) W v19 v20 v21 ((.pointer (some ⟨g,k,none⟩))) v23 v24 v25 v26 v27 v28:=by
 refine ⟨by simpa using T.sz,?_,?_,?_,?_,?_,?_,?_,?_,?_,?_,?_,?_,?_,?_⟩ <;> simp only [set_same (show 3 < l.size by rw [T.sz];decide),set_other (show (3:Nat)≠0 by decide),set_other (show (3:Nat)≠1 by decide),set_other (show (3:Nat)≠2 by decide),set_other (show (3:Nat)≠4 by decide),set_other (show (3:Nat)≠5 by decide),set_other (show (3:Nat)≠6 by decide),set_other (show (3:Nat)≠7 by decide),set_other (show (3:Nat)≠8 by decide),set_other (show (3:Nat)≠9 by decide),set_other (show (3:Nat)≠10 by decide)]
 ·exact T.h0
 ·exact T.h1
 ·exact T.h2
 ·exact fun _=>(by first | trivial | rfl)
 ·exact T.h4
 ·exact T.h5
 ·exact T.h6
 ·exact T.h7
 ·exact T.h9
 ·exact T.h8a
 ·exact T.h8b
 ·exact T.h10
 ·exact fun h=>by have:=T.c8 h;simp [this]
 ·exact fun h=>by have:=T.c10 h;simp [this]
theorem PwR.s4 (T:PwR w6 g g' k f sx sy P l W v19 v20 v21 v22 v23 v24 v25 v26 v27 v28):PwR w6 g g' k f sx sy P (l.setIfInBounds 4 true) W v19 v20 v21 v22 (sx) v24 v25 v26 v27 v28:=by
 refine ⟨by simpa using T.sz,?_,?_,?_,?_,?_,?_,?_,?_,?_,?_,?_,?_,?_,?_⟩ <;> simp only [set_same (show 4 < l.size by rw [T.sz];decide),set_other (show (4:Nat)≠0 by decide),set_other (show (4:Nat)≠1 by decide),set_other (show (4:Nat)≠2 by decide),set_other (show (4:Nat)≠3 by decide),set_other (show (4:Nat)≠5 by decide),set_other (show (4:Nat)≠6 by decide),set_other (show (4:Nat)≠7 by decide),set_other (show (4:Nat)≠8 by decide),set_other (show (4:Nat)≠9 by decide),set_other (show (4:Nat)≠10 by decide)]
 ·exact T.h0
 ·exact T.h1
 ·exact T.h2
 ·exact T.h3
 ·exact fun _=>(by first | trivial | rfl)
 ·exact T.h5
 ·exact T.h6
 ·exact T.h7
 ·exact T.h9
 ·exact T.h8a
 ·exact T.h8b
 ·exact T.h10
 ·exact fun h=>by have:=T.c8 h;simp [this]
 ·exact fun h=>by have:=T.c10 h;simp [this]
theorem PwR.s5 (T:PwR w6 g g' k f sx sy P l W v19 v20 v21 v22 v23 v24 v25 v26 v27 v28):PwR w6 g g' k f sx sy P (l.setIfInBounds 5 true) W v19 v20 v21 v22 v23 (.int .i64 (k:Int)) v25 v26 v27 v28:=by
 refine ⟨by simpa using T.sz,?_,?_,?_,?_,?_,?_,?_,?_,?_,?_,?_,?_,?_,?_⟩ <;> simp only [set_same (show 5 < l.size by rw [T.sz];decide),set_other (show (5:Nat)≠0 by decide),set_other (show (5:Nat)≠1 by decide),set_other (show (5:Nat)≠2 by decide),set_other (show (5:Nat)≠3 by decide),set_other (show (5:Nat)≠4 by decide),set_other (show (5:Nat)≠6 by decide),set_other (show (5:Nat)≠7 by decide),set_other (show (5:Nat)≠8 by decide),set_other (show (5:Nat)≠9 by decide),set_other (show (5:Nat)≠10 by decide)]
 ·exact T.h0
 ·exact T.h1
 ·exact T.h2
 ·exact T.h3
 ·exact T.h4
 ·exact fun _=>(by first | trivial | rfl)
 ·exact T.h6
 ·exact T.h7
 ·exact T.h9
 ·exact T.h8a
 ·exact T.h8b
 ·exact T.h10
 ·exact fun h=>by have:=T.c8 h;simp [this]
 ·exact fun h=>by have:=T.c10 h;simp [this]
theorem PwR.s6 (T:PwR w6 g g' k f sx sy P l W v19 v20 v21 v22 v23 v24 v25 v26 v27 v28):PwR w6 g g' k f sx sy P (l.setIfInBounds 6 true) W v19 v20 v21 v22 v23 v24 ((.pointer (some ⟨g',k,none⟩))) v26 v27 v28:=by
 refine ⟨by simpa using T.sz,?_,?_,?_,?_,?_,?_,?_,?_,?_,?_,?_,?_,?_,?_⟩ <;> simp only [set_same (show 6 < l.size by rw [T.sz];decide),set_other (show (6:Nat)≠0 by decide),set_other (show (6:Nat)≠1 by decide),set_other (show (6:Nat)≠2 by decide),set_other (show (6:Nat)≠3 by decide),set_other (show (6:Nat)≠4 by decide),set_other (show (6:Nat)≠5 by decide),set_other (show (6:Nat)≠7 by decide),set_other (show (6:Nat)≠8 by decide),set_other (show (6:Nat)≠9 by decide),set_other (show (6:Nat)≠10 by decide)]
 ·exact T.h0
 ·exact T.h1
 ·exact T.h2
 ·exact T.h3
 ·exact T.h4
 ·exact T.h5
 ·exact fun _=>(by first | trivial | rfl)
 ·exact T.h7
 ·exact T.h9
 ·exact T.h8a
 ·exact T.h8b
 ·exact T.h10
 ·exact fun h=>by have:=T.c8 h;simp [this]
 ·exact fun h=>by have:=T.c10 h;simp [this]
theorem PwR.s7 (T:PwR w6 g g' k f sx sy P l W v19 v20 v21 v22 v23 v24 v25 v26 v27 v28):PwR w6 g g' k f sx sy P (l.setIfInBounds 7 true) W v19 v20 v21 v22 v23 v24 v25 (sy) v27 v28:=by
 refine ⟨by simpa using T.sz,?_,?_,?_,?_,?_,?_,?_,?_,?_,?_,?_,?_,?_,?_⟩ <;> simp only [set_same (show 7 < l.size by rw [T.sz];decide),set_other (show (7:Nat)≠0 by decide),set_other (show (7:Nat)≠1 by decide),set_other (show (7:Nat)≠2 by decide),set_other (show (7:Nat)≠3 by decide),set_other (show (7:Nat)≠4 by decide),set_other (show (7:Nat)≠5 by decide),set_other (show (7:Nat)≠6 by decide),set_other (show (7:Nat)≠8 by decide),set_other (show (7:Nat)≠9 by decide),set_other (show (7:Nat)≠10 by decide)]
 ·exact T.h0
 ·exact T.h1
 ·exact T.h2
 ·exact T.h3
 ·exact T.h4
 ·exact T.h5
 ·exact T.h6
 ·exact fun _=>(by first | trivial | rfl)
 ·exact T.h9
 ·exact T.h8a
 ·exact T.h8b
 ·exact T.h10
 ·exact fun h=>by have:=T.c8 h;simp [this]
 ·exact fun h=>by have:=T.c10 h;simp [this]
theorem PwR.s9 (T:PwR w6 g g' k f sx sy P l W v19 v20 v21 v22 v23 v24 v25 v26 v27 v28):PwR w6 g g' k f sx sy P (l.setIfInBounds 9 true) W v19 v20 v21 v22 v23 v24 v25 v26 v27 ((.pointer (some ⟨g,k,none⟩))):=by
 refine ⟨by simpa using T.sz,?_,?_,?_,?_,?_,?_,?_,?_,?_,?_,?_,?_,?_,?_⟩ <;> simp only [set_same (show 9 < l.size by rw [T.sz];decide),set_other (show (9:Nat)≠0 by decide),set_other (show (9:Nat)≠1 by decide),set_other (show (9:Nat)≠2 by decide),set_other (show (9:Nat)≠3 by decide),set_other (show (9:Nat)≠4 by decide),set_other (show (9:Nat)≠5 by decide),set_other (show (9:Nat)≠6 by decide),set_other (show (9:Nat)≠7 by decide),set_other (show (9:Nat)≠8 by decide),set_other (show (9:Nat)≠10 by decide)]
 ·exact T.h0
 ·exact T.h1
 ·exact T.h2
 ·exact T.h3
 ·exact T.h4
 ·exact T.h5
 ·exact T.h6
 ·exact T.h7
 ·exact fun _=>(by first | trivial | rfl)
 ·exact T.h8a
 ·exact T.h8b
 ·exact T.h10
 ·exact fun h=>by have:=T.c8 h;simp [this]
 ·exact fun h=>by have:=T.c10 h;simp [this]
theorem PwR.s8 (T:PwR w6 g g' k f sx sy P l W v19 v20 v21 v22 v23 v24 v25 v26 v27 v28) (d1:l.getD 1 false=true) (d4:l.getD 4 false=true) (d7:l.getD 7 false=true) (n10:l.getD 10 false=false) {W':World} {v:Value} (hP:P W' v):PwR w6 g g' k f sx sy P (l.setIfInBounds 8 true) W' v19 v20 v21 v22 v23 v24 v25 v26 v v28:=by
 refine ⟨by simpa using T.sz,?_,?_,?_,?_,?_,?_,?_,?_,?_,?_,?_,?_,?_,?_⟩ <;> simp only [set_same (show 8 < l.size by rw [T.sz];decide),set_other (show (8:Nat)≠0 by decide),set_other (show (8:Nat)≠1 by decide),set_other (show (8:Nat)≠2 by decide),set_other (show (8:Nat)≠3 by decide),set_other (show (8:Nat)≠4 by decide),set_other (show (8:Nat)≠5 by decide),set_other (show (8:Nat)≠6 by decide),set_other (show (8:Nat)≠7 by decide),set_other (show (8:Nat)≠9 by decide),set_other (show (8:Nat)≠10 by decide)]
 ·exact T.h0
 ·exact T.h1
 ·exact T.h2
 ·exact T.h3
 ·exact T.h4
 ·exact T.h5
 ·exact T.h6
 ·exact T.h7
 ·exact T.h9
 ·exact fun h=>(by cases h)
 ·exact fun _ _=>hP
 ·exact fun h=>absurd h (by rw [n10];decide)
 ·exact fun _=>⟨d1,d4,d7⟩
 ·exact fun h=>absurd h (by rw [n10];decide)
theorem PwR.s10 (T:PwR w6 g g' k f sx sy P l W v19 v20 v21 v22 v23 v24 v25 v26 v27 v28) (d8:l.getD 8 false=true) (d9:l.getD 9 false=true) (n10:l.getD 10 false=false):PwR w6 g g' k f sx sy P (l.setIfInBounds 10 true) (W.setCell ⟨g,k,none⟩ v27) v19 v20 v21 v22 v23 v24 v25 v26 v27 v28:=by
 refine ⟨by simpa using T.sz,?_,?_,?_,?_,?_,?_,?_,?_,?_,?_,?_,?_,?_,?_⟩ <;> simp only [set_same (show 10 < l.size by rw [T.sz];decide),set_other (show (10:Nat)≠0 by decide),set_other (show (10:Nat)≠1 by decide),set_other (show (10:Nat)≠2 by decide),set_other (show (10:Nat)≠3 by decide),set_other (show (10:Nat)≠4 by decide),set_other (show (10:Nat)≠5 by decide),set_other (show (10:Nat)≠6 by decide),set_other (show (10:Nat)≠7 by decide),set_other (show (10:Nat)≠8 by decide),set_other (show (10:Nat)≠9 by decide)]
 ·exact T.h0
 ·exact T.h1
 ·exact T.h2
 ·exact T.h3
 ·exact T.h4
 ·exact T.h5
 ·exact T.h6
 ·exact T.h7
 ·exact T.h9
 ·exact fun h=>absurd h (by rw [d8];decide)
 ·exact fun _ h=>(by cases h)
 ·exact fun _=>⟨W,T.h8b d8 n10,rfl⟩
 ·exact T.c8
 ·exact fun _=>⟨d8,d9⟩
theorem PwR.start (w6:World) (g g' k:Nat) (f sx sy:Value) (P:World -> Value -> Prop) (v19 v20 v21 v22 v23 v24 v25 v26 v27 v28:Value):PwR w6 g g' k f sx sy P (Array.replicate 11 false) w6.drew v19 v20 v21 v22 v23 v24 v25 v26 v27 v28:=by
 refine ⟨by simp,?_,?_,?_,?_,?_,?_,?_,?_,?_,?_,?_,?_,?_,?_⟩ <;> simp only [rep_false]
 ·intro h;cases h
 ·intro h;cases h
 ·intro h;cases h
 ·intro h;cases h
 ·intro h;cases h
 ·intro h;cases h
 ·intro h;cases h
 ·intro h;cases h
 ·intro h;cases h
 ·exact fun _=>(by first | trivial | rfl)
 ·intro h;cases h
 ·intro h;cases h
 ·intro h;cases h
 ·intro h;cases h
end
theorem pairMeet_any (a b:Pv) (w:World) (hA:PSrc w a) (hB:PSrc w b) :
  Calls Tryz.prog 126 #[PV a,PV b,.func (.func 127) #[] #[]] w fun e w'=>∃ p:Pv,e = .returned (PV p)/\PSrc w' p/\PNew w.heap.size p/\Below w.heap.size w w'/\∃ C:Nat -> List Rn,(∀ r,r < 16 -> MeetOf (runsAt a.P r) (runsAt b.P r) (C r))/\CanonOf C p.P:=by
 have b1:=below_new w (.cells (PC a) 26);have b2:=below_new (w.alloc (.cells (PC a) 26)) (.cells (PC b) 26);have p2:=pbox_new (w.alloc (.cells (PC a) 26)) b;rw [World.size_alloc] at p2;have b3:=below_new ((w.alloc (.cells (PC a) 26)).alloc (.cells (PC b) 26)) (.cells (PC pv0) 26);have p3:=pbox_new ((w.alloc (.cells (PC a) 26)).alloc (.cells (PC b) 26)) pv0;simp only [World.size_alloc] at p3;have HPA:=hide (((pbox_new w a).below b2).below b3);have HPB:=hide (p2.below b3);have HPC:=hide p3;have HBK:=hide (b1.trans ((b2.trans (b3.mono b2.size)).mono b1.size));have HWA:=hide (wt_one hA);have HWB:=hide (wt_one hB);have HSA:=hide (hA.below HBK.out);have HSB:=hide (hB.below HBK.out)
 have HZK:Hid ((((w.alloc (.cells (PC a) 26)).alloc (.cells (PC b) 26)).alloc (.cells (PC pv0) 26)).heap.size=w.heap.size+3):=by show _=_;simp
 clear hA hB b1 b2 p2 b3 p3;obtain ⟨wk,Hwk⟩:∃ wk,Hid ((((w.alloc (.cells (PC a) 26)).alloc (.cells (PC b) 26)).alloc (.cells (PC pv0) 26))=wk):=⟨_,rfl⟩;rw [Hwk.out] at HPA HPB HBK HSA HSB HZK HPC;go_enter Tryz.func126,Tryz.ntmps126;go_wp2_with fail;rw [Hwk.out];clear Hwk;refine wp_region_inv (by kernel_rfl) (fun l x W=>∃ va xa ca vb xb cb ba bb,x={ tmps:=#[PV a,PV b,.func (.func 127) #[] #[],ptr w.heap.size,ptr (w.heap.size+1),undef,ptr (w.heap.size+1+1),ba,bb,undef,va,xa,ca,vb,xb,cb,undef,undef,undef,undef,undef,undef,undef,undef,undef,undef,undef,undef,undef,undef,undef,undef],defers:=[] }/\TwoI wk a b l W va xa ca vb xb cb ba bb) ⟨undef,undef,undef,undef,undef,undef,undef,undef,rfl,TwoI.start wk a b _ _ _ _ _ _ _ _⟩ ?_ ?_ ?_
 ·rintro l x W ⟨va,xa,ca,vb,xb,cb,ba,bb,rfl,T⟩;exact T.sz
 ·rintro l x W ⟨va,xa,ca,vb,xb,cb,ba,bb,rfl,T⟩ i hi;obtain ⟨hi1,hi2,hi3⟩:=ready_mem hi;have hi4:=no_true hi2
  have hc:i=0∨i=1∨i=2∨i=3∨i=4∨i=5∨i=6∨i=7∨i=8∨i=9:=by have h:i < 10:=hi1;omega
  have HT:=hide T;rcases hc with rfl | rfl | rfl | rfl | rfl | rfl | rfl | rfl | rfl | rfl
  ·have l1:=run_ldP (HPA.out.below T.b).at
   clear T;clear hi hi1 hi2 hi3 hi4;refine wpOp_step (o:=⟨some 10,.load 26 (.tmp 3),26, "sets.go:22",#[],none⟩) rfl (fun K hK=>?_);go_simp;exact hK _ _ ⟨PV a,xa,ca,vb,xb,cb,ba,bb,rfl,HT.out.s0⟩
  ·have d0:=hi3 _ rfl { on:=0,ground:=Ground.data } (by simp) rfl;obtain rfl:=T.h0 d0;clear T d0;clear hi hi1 hi2 hi3 hi4;refine wpOp_step (o:=⟨some 11,.buildSlice 99 1 #[(0,.tmp 10)],99, "sets.go:22",#[⟨0,.data⟩],none⟩) rfl (fun K hK=>?_);go_simp;exact hK _ _ ⟨_,.slice (some ⟨W.heap.size,0,none⟩) 1 1,ca,vb,xb,cb,ba,bb,rfl,HT.out.s1 (HSA.out.below HT.out.b)⟩
  ·have d1:=hi3 _ rfl { on:=1,ground:=Ground.data } (by simp) rfl
   have n8:l.getD 8 false=false:=by
    cases e:l.getD 8 false with
    | false=>rfl
    | true=>have:=HT.out.c8 e;simp [hi4] at this
   obtain ⟨g,rfl,R⟩:=T.h1 d1 n8;have HR:=hide R;have HN8:=hide n8;clear T d1 R n8;clear hi hi1 hi2 hi3 hi4;refine wpOp_step (o:=⟨some 12,.call ⟨.value (.func 70),#[.tmp 11],#[99]⟩,109, "sets.go:22",#[⟨1,.data⟩],none⟩) rfl (fun K hK=>?_);go_simp;go_wp2_with fail;refine (setsOf_any _ 1 1 [a] _ HR.out HWA.out (by omega)).mono ?_;rintro e w' ⟨F,rfl,RF,bF⟩;exact hK _ _ ⟨va,_,SAv F,vb,xb,cb,ba,bb,rfl,HT.out.s2 HN8.out RF bF⟩
  ·have l1:=run_ldP (HPB.out.below T.b).at
   clear T;clear hi hi1 hi2 hi3 hi4;refine wpOp_step (o:=⟨some 13,.load 26 (.tmp 4),26, "sets.go:22",#[],none⟩) rfl (fun K hK=>?_);go_simp;exact hK _ _ ⟨va,xa,ca,PV b,xb,cb,ba,bb,rfl,HT.out.s3⟩
  ·have d3:=hi3 _ rfl { on:=3,ground:=Ground.data } (by simp) rfl;obtain rfl:=T.h3 d3;clear T d3;clear hi hi1 hi2 hi3 hi4;refine wpOp_step (o:=⟨some 14,.buildSlice 99 1 #[(0,.tmp 13)],99, "sets.go:22",#[⟨3,.data⟩],none⟩) rfl (fun K hK=>?_);go_simp;exact hK _ _ ⟨va,xa,ca,_,.slice (some ⟨W.heap.size,0,none⟩) 1 1,cb,ba,bb,rfl,HT.out.s4 (HSB.out.below HT.out.b)⟩
  ·have d4:=hi3 _ rfl { on:=4,ground:=Ground.data } (by simp) rfl;have d2:=hi3 _ rfl { on:=2,ground:=Ground.chain } (by simp) rfl
   have n8:l.getD 8 false=false:=by
    cases e:l.getD 8 false with
    | false=>rfl
    | true=>have:=HT.out.c8 e;simp [hi4] at this
   have n9:l.getD 9 false=false:=by
    cases e:l.getD 9 false with
    | false=>rfl
    | true=>have:=HT.out.c9 e;simp [hi4] at this
   obtain ⟨g,rfl,R⟩:=T.h4 d4 n8;have HR:=hide R;have HN9:=hide n9;clear T d4 d2 R n8 n9;clear hi hi1 hi2 hi3 hi4;refine wpOp_step (o:=⟨some 15,.call ⟨.value (.func 70),#[.tmp 14],#[99]⟩,109, "sets.go:22",#[⟨4,.data⟩,⟨2,.chain⟩],none⟩) rfl (fun K hK=>?_);go_simp;go_wp2_with fail;refine (setsOf_any _ 1 1 [b] _ HR.out HWB.out (by omega)).mono ?_;rintro e w' ⟨F,rfl,RF,bF⟩;exact hK _ _ ⟨va,xa,ca,vb,_,SAv F,ba,bb,rfl,HT.out.s5 HN9.out RF bF⟩
  ·have n8:l.getD 8 false=false:=by
    cases e:l.getD 8 false with
    | false=>rfl
    | true=>have:=HT.out.c8 e;simp [hi4] at this
   have HN8:=hide n8;clear T n8;clear hi hi1 hi2 hi3 hi4;refine wpOp_step (o:=⟨some 7,.alloc 109,0, "sets.go:22",#[],none⟩) rfl (fun K hK=>?_);go_simp;exact hK _ _ ⟨va,xa,ca,vb,xb,cb,ptr W.heap.size,bb,rfl,HT.out.s6 HN8.out⟩
  ·have n9:l.getD 9 false=false:=by
    cases e:l.getD 9 false with
    | false=>rfl
    | true=>have:=HT.out.c9 e;simp [hi4] at this
   have HN9:=hide n9;clear T n9;clear hi hi1 hi2 hi3 hi4;refine wpOp_step (o:=⟨some 8,.alloc 109,0, "sets.go:22",#[],none⟩) rfl (fun K hK=>?_);go_simp;exact hK _ _ ⟨va,xa,ca,vb,xb,cb,ba,ptr W.heap.size,rfl,HT.out.s7 HN9.out⟩
  ·have d2:=hi3 _ rfl { on:=2,ground:=Ground.data } (by simp) rfl;have d5:=hi3 _ rfl { on:=5,ground:=Ground.chain } (by simp) rfl;have d6:=hi3 _ rfl { on:=6,ground:=Ground.data } (by simp) rfl;have d7:=hi3 _ rfl { on:=7,ground:=Ground.phase } (by simp) rfl;obtain ⟨F,g,rfl,rfl,ST,T2⟩:=T.s8 d2 d5 d6 d7 hi4;have s1:=run_stA (F':=F) ST;have HT2:=hide T2;clear T T2 ST d2 d5 d6 d7;clear hi hi1 hi2 hi3 hi4;refine wpOp_step (o:=⟨none,.store 109 (.tmp 7) (.tmp 12),0, "sets.go:22",#[⟨6,.data⟩,⟨2,.data⟩,⟨5,.chain⟩,⟨0,.phase⟩,⟨1,.phase⟩,⟨2,.phase⟩,⟨3,.textOnly .lateStores⟩,⟨4,.textOnly .lateStores⟩,⟨5,.textOnly .lateStoresUnsure⟩,⟨6,.phase⟩,⟨7,.phase⟩],none⟩) rfl (fun K hK=>?_);go_simp;exact hK _ _ ⟨va,xa,_,vb,xb,cb,_,bb,rfl,HT2.out⟩
  ·have d5:=hi3 _ rfl { on:=5,ground:=Ground.data } (by simp) rfl;have d7:=hi3 _ rfl { on:=7,ground:=Ground.data } (by simp) rfl;have d8:=hi3 _ rfl { on:=8,ground:=Ground.chain } (by simp) rfl;obtain ⟨F,g,rfl,rfl,ST,T2⟩:=T.s9 d5 d7 d8 hi4;have s1:=run_stA (F':=F) ST;have HT2:=hide T2;clear T T2 ST d5 d7 d8;clear hi hi1 hi2 hi3 hi4;refine wpOp_step (o:=⟨none,.store 109 (.tmp 8) (.tmp 15),0, "sets.go:22",#[⟨7,.data⟩,⟨5,.data⟩,⟨8,.chain⟩,⟨0,.phase⟩,⟨1,.phase⟩,⟨2,.phase⟩,⟨3,.phase⟩,⟨4,.phase⟩,⟨5,.phase⟩,⟨6,.phase⟩,⟨7,.phase⟩,⟨8,.phase⟩],none⟩) rfl (fun K hK=>?_);go_simp;exact hK _ _ ⟨va,xa,ca,vb,xb,_,ba,_,rfl,HT2.out⟩
 ·rintro l x W ⟨va,xa,ca,vb,xb,cb,ba,bb,rfl,T⟩ hnil;obtain ⟨F,G,g,g',rfl,rfl,rfl,rfl,rfl,rfl,hgg,hg1,hg2,hs1,hs2,hr1,hr2,hf1,hf2,hbw⟩:=T.all (fun i hi=>ready_done (by kernel_rfl) T.sz hnil i hi);have HGG:=hide hgg;have HG1:=hide hg1;have HG2:=hide hg2;have HS1:=hide hs1;have HS2:=hide hs2;have HR1:=hide hr1;have HR2:=hide hr2;have HF1:=hide hf1;have HF2:=hide hf2;have HBW:=hide hbw;clear T hnil hgg hg1 hg2 hs1 hs2 hr1 hr2 hf1 hf2 hbw
  rename World=>w5
  have HI0:Hid (PwI wk w5 g g' F G (runsAt a.P) (runsAt b.P) MeetOf 0):=⟨HS1.out,HS2.out,(fun r h=>by omega),fun r _ hr=>⟨HR1.out.src r hr,by rw [HR1.out.eq r hr,runsOf_one]⟩,fun r hr=>⟨HR2.out.src r hr,by rw [HR2.out.eq r hr,runsOf_one]⟩,HF1.out,HF2.out,HBW.out,HG1.out,HGG.out⟩;clear HS1 HS2 HR1 HR2 HF1 HF2 HBW;obtain ⟨F0,hF0⟩:∃ F0,F=F0:=⟨_,rfl⟩;rw [hF0] at HI0 ⊢;clear hF0;go_wp2_with fail;go_loopw [16] (fun i wr=>∃ (k:Nat) (F:Nat -> Sl),k <= 16/\i = .int .i64 k/\Hid (PwI wk wr g g' F G (runsAt a.P) (runsAt b.P) MeetOf k)) (fun i _=>16 - (intOf i).toNat)
  case atStart=>exact ⟨0,F0,Nat.zero_le _,rfl,HI0⟩
  case round =>
   obtain ⟨k,F,hk,rfl,HI⟩:=hrel
   rename World=>w6
   clear HI0;by_cases hlt:k < 16
   ·have k1:=HI.out.s.cell k hlt;have k2:=HI.out.y.cell k hlt;obtain ⟨R1,e1⟩:=HI.out.old k (Nat.le_refl _) hlt;obtain ⟨R2,e2⟩:=HI.out.gs k hlt;rw [e1] at R1;rw [e2] at R2;clear e1 e2;obtain ⟨sa,sn,sc,hf⟩:∃ sa sn sc,(F k).ao=sa/\(F k).n=sn/\(F k).cap=sc:=⟨_,_,_,rfl,rfl,rfl⟩;obtain ⟨ta,tn,tc,hg⟩:∃ ta tn tc,(G k).ao=ta/\(G k).n=tn/\(G k).cap=tc:=⟨_,_,_,rfl,rfl,rfl⟩;rw [hf.1,hf.2.1,hf.2.2] at k1 R1;rw [hg.1,hg.2.1,hg.2.2] at k2 R2;clear hf hg;have HA6:=hide (R1.below (below_drew1 w6));have HB6:=hide (R2.below (below_drew1 w6));have HSX:=hide HI.out.s
    have q0:(0:Int) <= (k:Int):=by omega
    have q1:(k:Int) < 16:=by omega
    clear R1 R2;go_wp2_with fail;refine wp_region_inv (by kernel_rfl) (fun l x W=>∃ v19 v20 v21 v22 v23 v24 v25 v26 v27 v28,x={ tmps:=#[PV a,PV b,.func (.func 127) #[] #[],ptr w.heap.size,ptr (w.heap.size+1),undef,ptr (w.heap.size+1+1),ptr g,ptr g',.int .i64 (k:Int),PV a,xa,SAv F0,PV b,xb,SAv G,.int .i64 (k:Int),.bool true,.int .i64 (k:Int),v19,v20,v21,v22,v23,v24,v25,v26,v27,v28,u29,undef,undef],defers:=[] }/\PwR w6 g g' k (.func (.func 127) #[] #[]) (.slice sa sn sc) (.slice ta tn tc) (PwP w6 MeetOf (runsAt a.P k) (runsAt b.P k)) l W v19 v20 v21 v22 v23 v24 v25 v26 v27 v28) ⟨u19,u20,u21,u22,u23,u24,u25,u26,u27,u28,rfl,PwR.start _ _ _ _ _ _ _ _ _ _ _ _ _ _ _ _ _ _⟩ ?_ ?_ ?_
    ·rintro l x W ⟨v19,v20,v21,v22,v23,v24,v25,v26,v27,v28,rfl,T⟩;exact T.sz
    ·rintro l x W ⟨v19,v20,v21,v22,v23,v24,v25,v26,v27,v28,rfl,T⟩ i hi;obtain ⟨hi1,hi2,hi3⟩:=ready_mem hi;have hi4:=no_true hi2
     have hc:i=0∨i=1∨i=2∨i=3∨i=4∨i=5∨i=6∨i=7∨i=8∨i=9∨i=10:=by have h:i < 11:=hi1;omega
     have HT:=hide T;rcases hc with rfl | rfl | rfl | rfl | rfl | rfl | rfl | rfl | rfl | rfl | rfl
     ·clear T;clear hi hi1 hi2 hi3 hi4;refine wpOp_step (o:=⟨some 19,.move (.tmp 9),3, "sets.go:24",#[],none⟩) rfl (fun K hK=>?_);go_simp;exact hK _ _ ⟨.int .i64 (k:Int),v20,v21,v22,v23,v24,v25,v26,v27,v28,rfl,HT.out.s0⟩
     ·clear T;clear hi hi1 hi2 hi3 hi4;refine wpOp_step (o:=⟨some 20,.move (.tmp 2),176, "sets.go:24",#[],none⟩) rfl (fun K hK=>?_);go_simp;exact hK _ _ ⟨v19,_,v21,v22,v23,v24,v25,v26,v27,v28,rfl,HT.out.s1⟩
     ·clear T;clear hi hi1 hi2 hi3 hi4;refine wpOp_step (o:=⟨some 21,.move (.tmp 9),3, "sets.go:24",#[],none⟩) rfl (fun K hK=>?_);go_simp;exact hK _ _ ⟨v19,v20,.int .i64 (k:Int),v22,v23,v24,v25,v26,v27,v28,rfl,HT.out.s2⟩
     ·have d2:=hi3 _ rfl { on:=2,ground:=Ground.data } (by simp) rfl;obtain rfl:=T.h2 d2;clear T d2;clear hi hi1 hi2 hi3 hi4;refine wpOp_step (o:=⟨some 22,.indexAddr 109 (.tmp 7) (.tmp 21),0, "sets.go:24",#[⟨2,.data⟩],none⟩) rfl (fun K hK=>?_);go_simp;exact hK _ _ ⟨v19,v20,_,_,v23,v24,v25,v26,v27,v28,rfl,HT.out.s3⟩
     ·have d3:=hi3 _ rfl { on:=3,ground:=Ground.data } (by simp) rfl
      have n8:l.getD 8 false=false:=by
       cases e:l.getD 8 false with
       | false=>rfl
       | true=>have:=HT.out.c8 e;simp [hi4] at this
      obtain rfl:=T.h3 d3;obtain rfl:=T.h8a n8;clear T d3 n8;clear hi hi1 hi2 hi3 hi4;refine wpOp_step (o:=⟨some 23,.load 107 (.tmp 22),107, "sets.go:24",#[⟨3,.data⟩],none⟩) rfl (fun K hK=>?_);go_simp;exact hK _ _ ⟨v19,v20,v21,_,_,v24,v25,v26,v27,v28,rfl,HT.out.s4⟩
     ·clear T;clear hi hi1 hi2 hi3 hi4;refine wpOp_step (o:=⟨some 24,.move (.tmp 9),3, "sets.go:24",#[],none⟩) rfl (fun K hK=>?_);go_simp;exact hK _ _ ⟨v19,v20,v21,v22,v23,.int .i64 (k:Int),v25,v26,v27,v28,rfl,HT.out.s5⟩
     ·have d5:=hi3 _ rfl { on:=5,ground:=Ground.data } (by simp) rfl;obtain rfl:=T.h5 d5;clear T d5;clear hi hi1 hi2 hi3 hi4;refine wpOp_step (o:=⟨some 25,.indexAddr 109 (.tmp 8) (.tmp 24),0, "sets.go:24",#[⟨5,.data⟩],none⟩) rfl (fun K hK=>?_);go_simp;exact hK _ _ ⟨v19,v20,v21,v22,v23,_,_,v26,v27,v28,rfl,HT.out.s6⟩
     ·have d6:=hi3 _ rfl { on:=6,ground:=Ground.data } (by simp) rfl
      have n8:l.getD 8 false=false:=by
       cases e:l.getD 8 false with
       | false=>rfl
       | true=>have:=HT.out.c8 e;simp [hi4] at this
      obtain rfl:=T.h6 d6;obtain rfl:=T.h8a n8;clear T d6 n8;clear hi hi1 hi2 hi3 hi4;refine wpOp_step (o:=⟨some 26,.load 107 (.tmp 25),107, "sets.go:24",#[⟨6,.data⟩],none⟩) rfl (fun K hK=>?_);go_simp;exact hK _ _ ⟨v19,v20,v21,v22,v23,v24,_,_,v27,v28,rfl,HT.out.s7⟩
     ·have d1:=hi3 _ rfl { on:=1,ground:=Ground.data } (by simp) rfl;have d4:=hi3 _ rfl { on:=4,ground:=Ground.data } (by simp) rfl;have d7:=hi3 _ rfl { on:=7,ground:=Ground.data } (by simp) rfl
      have n10:l.getD 10 false=false:=by
       cases e:l.getD 10 false with
       | false=>rfl
       | true=>have:=HT.out.c10 e;simp [hi4] at this
      obtain rfl:=T.h1 d1;obtain rfl:=T.h4 d4;obtain rfl:=T.h7 d7;obtain rfl:=T.h8a hi4;have HD:=hide (And.intro d1 (And.intro d4 (And.intro d7 n10)));clear T d1 d4 d7 n10;clear hi hi1 hi2 hi3 hi4;refine wpOp_step (o:=⟨some 27,.call ⟨.value (.tmp 20),#[.tmp 23,.tmp 26],#[107,107]⟩,107, "sets.go:24",#[⟨1,.data⟩,⟨4,.data⟩,⟨7,.data⟩],none⟩) rfl (fun K hK=>?_);go_simp;go_wp2_with fail;refine (meet_new sa ta sn sc tn tc _ _ _ HA6.out HB6.out).mono ?_;rintro e w' ⟨a1,n1,c1,R1,rfl,S1,b1,f1,p1⟩;exact hK _ _ ⟨v19,_,v21,v22,_,v24,v25,_,.slice a1 n1 c1,v28,rfl,HT.out.s8 HD.out.1 HD.out.2.1 HD.out.2.2.1 HD.out.2.2.2 ⟨a1,n1,c1,R1,rfl,S1,(below_drew1 w6).trans (b1.mono (Nat.le_refl _)),f1,p1⟩⟩
     ·have d0:=hi3 _ rfl { on:=0,ground:=Ground.data } (by simp) rfl;obtain rfl:=T.h0 d0;clear T d0;clear hi hi1 hi2 hi3 hi4;refine wpOp_step (o:=⟨some 28,.indexAddr 109 (.tmp 7) (.tmp 19),0, "sets.go:24",#[⟨0,.data⟩,⟨0,.phase⟩,⟨1,.phase⟩,⟨2,.phase⟩,⟨3,.phase⟩,⟨4,.phase⟩,⟨5,.phase⟩,⟨6,.phase⟩,⟨7,.phase⟩,⟨8,.phase⟩],none⟩) rfl (fun K hK=>?_);go_simp;exact hK _ _ ⟨_,v20,v21,v22,v23,v24,v25,v26,v27,_,rfl,HT.out.s9⟩
     ·have d8:=hi3 _ rfl { on:=8,ground:=Ground.data } (by simp) rfl;have d9:=hi3 _ rfl { on:=9,ground:=Ground.data } (by simp) rfl;obtain rfl:=T.h9 d9;obtain ⟨a1,n1,c1,R1,rfl,S1,b1,f1,p1⟩:=T.h8b d8 hi4;have e1:=(HSX.out.below b1).cell k hlt;have e2:=(HSX.out.below b1).frozen k;have HT2:=hide (T.s10 d8 d9 hi4);clear T d8 d9 S1 b1 f1 p1;clear hi hi1 hi2 hi3 hi4;refine wpOp_step (o:=⟨none,.store 107 (.tmp 28) (.tmp 27),0, "sets.go:24",#[⟨9,.data⟩,⟨8,.data⟩,⟨8,.chain⟩,⟨0,.phase⟩,⟨1,.phase⟩,⟨2,.phase⟩,⟨3,.phase⟩,⟨4,.phase⟩,⟨5,.phase⟩,⟨6,.phase⟩,⟨7,.phase⟩,⟨8,.phase⟩],none⟩) rfl (fun K hK=>?_);go_simp;exact hK _ _ ⟨v19,v20,v21,v22,v23,v24,v25,v26,_,_,rfl,HT2.out⟩
    ·rintro l x W ⟨v19,v20,v21,v22,v23,v24,v25,v26,v27,v28,rfl,T⟩ hnil;have hall:=fun i (hi:i < 11)=>ready_done (by kernel_rfl) T.sz hnil i hi;obtain ⟨W0,⟨a1,n1,c1,R1,rfl,S1,b1,f1,p1⟩,rfl⟩:=T.h10 (hall 10 (by decide));have HN:=hide (HI.out.step hlt b1 S1 f1 p1);clear T hnil hall S1 b1 f1 p1;go_wp2_with fail;go_roundw
     case rel=>exact ⟨k+1,_,by omega,by go_num,HN.out⟩
     case measure=>simp [intOf];omega
   ·obtain rfl:k=16:=by omega
    have l1:=run_ldA HI.out.s;go_wp2_with fail;refine (canonical_any F _ (fun r hr=>(HI.out.new r hr).1)).mono ?_;rintro e w7 ⟨p,rfl,S7,n7,b7,c7⟩;obtain ⟨s1,e1,e2,e3,e4⟩:=past_end (w:=w) (g:=w.heap.size+1+1) ((HI.out.b.block _ (by have:=HZK.out;omega)).trans HPC.out |> fun h=>(b7.block _ (Array.getElem?_eq_some_iff.1 h).1).trans h) S7 (n7.mono (by have h1:=HI.out.b.size;have h2:=HZK.out;omega)) (HBK.out.trans ((HI.out.b.trans (b7.mono HI.out.b.size)).mono HBK.out.size)) (by omega);have HE1:=hide e1;have HE2:Hid (∃ p':Pv,Ending.returned (PV p) = .returned (PV p')/\PSrc (w7.setRow (w.heap.size+1+1) (PC p)) p'/\PNew w.heap.size p'/\Below w.heap.size w (w7.setRow (w.heap.size+1+1) (PC p))/\∃ C:Nat -> List Rn,(∀ r,r < 16 -> MeetOf (runsAt a.P r) (runsAt b.P r) (C r))/\CanonOf C p'.P):=⟨p,rfl,e2,e3,e4,fun r=>(F r).L,fun r hr=>(HI.out.new r hr).2,c7⟩
    clear S7 n7 b7 c7 e1 e2 e3 e4;go_wp2_with fail;exact bodyPost_ret (v:=PV p) (resP Tryz.results126 rfl HE1.out) rfl HE2.out
theorem pairMinus_any (a b:Pv) (w:World) (hA:PSrc w a) (hB:PSrc w b) :
  Calls Tryz.prog 126 #[PV a,PV b,.func (.func 150) #[] #[]] w fun e w'=>∃ p:Pv,e = .returned (PV p)/\PSrc w' p/\PNew w.heap.size p/\Below w.heap.size w w'/\∃ C:Nat -> List Rn,(∀ r,r < 16 -> MinusOf (runsAt a.P r) (runsAt b.P r) (C r))/\CanonOf C p.P:=by
 have b1:=below_new w (.cells (PC a) 26);have b2:=below_new (w.alloc (.cells (PC a) 26)) (.cells (PC b) 26);have p2:=pbox_new (w.alloc (.cells (PC a) 26)) b;rw [World.size_alloc] at p2;have b3:=below_new ((w.alloc (.cells (PC a) 26)).alloc (.cells (PC b) 26)) (.cells (PC pv0) 26);have p3:=pbox_new ((w.alloc (.cells (PC a) 26)).alloc (.cells (PC b) 26)) pv0;simp only [World.size_alloc] at p3;have HPA:=hide (((pbox_new w a).below b2).below b3);have HPB:=hide (p2.below b3);have HPC:=hide p3;have HBK:=hide (b1.trans ((b2.trans (b3.mono b2.size)).mono b1.size));have HWA:=hide (wt_one hA);have HWB:=hide (wt_one hB);have HSA:=hide (hA.below HBK.out);have HSB:=hide (hB.below HBK.out)
 have HZK:Hid ((((w.alloc (.cells (PC a) 26)).alloc (.cells (PC b) 26)).alloc (.cells (PC pv0) 26)).heap.size=w.heap.size+3):=by show _=_;simp
 clear hA hB b1 b2 p2 b3 p3;obtain ⟨wk,Hwk⟩:∃ wk,Hid ((((w.alloc (.cells (PC a) 26)).alloc (.cells (PC b) 26)).alloc (.cells (PC pv0) 26))=wk):=⟨_,rfl⟩;rw [Hwk.out] at HPA HPB HBK HSA HSB HZK HPC;go_enter Tryz.func126,Tryz.ntmps126;go_wp2_with fail;rw [Hwk.out];clear Hwk;refine wp_region_inv (by kernel_rfl) (fun l x W=>∃ va xa ca vb xb cb ba bb,x={ tmps:=#[PV a,PV b,.func (.func 150) #[] #[],ptr w.heap.size,ptr (w.heap.size+1),undef,ptr (w.heap.size+1+1),ba,bb,undef,va,xa,ca,vb,xb,cb,undef,undef,undef,undef,undef,undef,undef,undef,undef,undef,undef,undef,undef,undef,undef,undef],defers:=[] }/\TwoI wk a b l W va xa ca vb xb cb ba bb) ⟨undef,undef,undef,undef,undef,undef,undef,undef,rfl,TwoI.start wk a b _ _ _ _ _ _ _ _⟩ ?_ ?_ ?_
 ·rintro l x W ⟨va,xa,ca,vb,xb,cb,ba,bb,rfl,T⟩;exact T.sz
 ·rintro l x W ⟨va,xa,ca,vb,xb,cb,ba,bb,rfl,T⟩ i hi;obtain ⟨hi1,hi2,hi3⟩:=ready_mem hi;have hi4:=no_true hi2
  have hc:i=0∨i=1∨i=2∨i=3∨i=4∨i=5∨i=6∨i=7∨i=8∨i=9:=by have h:i < 10:=hi1;omega
  have HT:=hide T;rcases hc with rfl | rfl | rfl | rfl | rfl | rfl | rfl | rfl | rfl | rfl
  ·have l1:=run_ldP (HPA.out.below T.b).at
   clear T;clear hi hi1 hi2 hi3 hi4;refine wpOp_step (o:=⟨some 10,.load 26 (.tmp 3),26, "sets.go:22",#[],none⟩) rfl (fun K hK=>?_);go_simp;exact hK _ _ ⟨PV a,xa,ca,vb,xb,cb,ba,bb,rfl,HT.out.s0⟩
  ·have d0:=hi3 _ rfl { on:=0,ground:=Ground.data } (by simp) rfl;obtain rfl:=T.h0 d0;clear T d0;clear hi hi1 hi2 hi3 hi4;refine wpOp_step (o:=⟨some 11,.buildSlice 99 1 #[(0,.tmp 10)],99, "sets.go:22",#[⟨0,.data⟩],none⟩) rfl (fun K hK=>?_);go_simp;exact hK _ _ ⟨_,.slice (some ⟨W.heap.size,0,none⟩) 1 1,ca,vb,xb,cb,ba,bb,rfl,HT.out.s1 (HSA.out.below HT.out.b)⟩
  ·have d1:=hi3 _ rfl { on:=1,ground:=Ground.data } (by simp) rfl
   have n8:l.getD 8 false=false:=by
    cases e:l.getD 8 false with
    | false=>rfl
    | true=>have:=HT.out.c8 e;simp [hi4] at this
   obtain ⟨g,rfl,R⟩:=T.h1 d1 n8;have HR:=hide R;have HN8:=hide n8;clear T d1 R n8;clear hi hi1 hi2 hi3 hi4;refine wpOp_step (o:=⟨some 12,.call ⟨.value (.func 70),#[.tmp 11],#[99]⟩,109, "sets.go:22",#[⟨1,.data⟩],none⟩) rfl (fun K hK=>?_);go_simp;go_wp2_with fail;refine (setsOf_any _ 1 1 [a] _ HR.out HWA.out (by omega)).mono ?_;rintro e w' ⟨F,rfl,RF,bF⟩;exact hK _ _ ⟨va,_,SAv F,vb,xb,cb,ba,bb,rfl,HT.out.s2 HN8.out RF bF⟩
  ·have l1:=run_ldP (HPB.out.below T.b).at
   clear T;clear hi hi1 hi2 hi3 hi4;refine wpOp_step (o:=⟨some 13,.load 26 (.tmp 4),26, "sets.go:22",#[],none⟩) rfl (fun K hK=>?_);go_simp;exact hK _ _ ⟨va,xa,ca,PV b,xb,cb,ba,bb,rfl,HT.out.s3⟩
  ·have d3:=hi3 _ rfl { on:=3,ground:=Ground.data } (by simp) rfl;obtain rfl:=T.h3 d3;clear T d3;clear hi hi1 hi2 hi3 hi4;refine wpOp_step (o:=⟨some 14,.buildSlice 99 1 #[(0,.tmp 13)],99, "sets.go:22",#[⟨3,.data⟩],none⟩) rfl (fun K hK=>?_);go_simp;exact hK _ _ ⟨va,xa,ca,_,.slice (some ⟨W.heap.size,0,none⟩) 1 1,cb,ba,bb,rfl,HT.out.s4 (HSB.out.below HT.out.b)⟩
  ·have d4:=hi3 _ rfl { on:=4,ground:=Ground.data } (by simp) rfl;have d2:=hi3 _ rfl { on:=2,ground:=Ground.chain } (by simp) rfl
   have n8:l.getD 8 false=false:=by
    cases e:l.getD 8 false with
    | false=>rfl
    | true=>have:=HT.out.c8 e;simp [hi4] at this
   have n9:l.getD 9 false=false:=by
    cases e:l.getD 9 false with
    | false=>rfl
    | true=>have:=HT.out.c9 e;simp [hi4] at this
   obtain ⟨g,rfl,R⟩:=T.h4 d4 n8;have HR:=hide R;have HN9:=hide n9;clear T d4 d2 R n8 n9;clear hi hi1 hi2 hi3 hi4;refine wpOp_step (o:=⟨some 15,.call ⟨.value (.func 70),#[.tmp 14],#[99]⟩,109, "sets.go:22",#[⟨4,.data⟩,⟨2,.chain⟩],none⟩) rfl (fun K hK=>?_);go_simp;go_wp2_with fail;refine (setsOf_any _ 1 1 [b] _ HR.out HWB.out (by omega)).mono ?_;rintro e w' ⟨F,rfl,RF,bF⟩;exact hK _ _ ⟨va,xa,ca,vb,_,SAv F,ba,bb,rfl,HT.out.s5 HN9.out RF bF⟩
  ·have n8:l.getD 8 false=false:=by
    cases e:l.getD 8 false with
    | false=>rfl
    | true=>have:=HT.out.c8 e;simp [hi4] at this
   have HN8:=hide n8;clear T n8;clear hi hi1 hi2 hi3 hi4;refine wpOp_step (o:=⟨some 7,.alloc 109,0, "sets.go:22",#[],none⟩) rfl (fun K hK=>?_);go_simp;exact hK _ _ ⟨va,xa,ca,vb,xb,cb,ptr W.heap.size,bb,rfl,HT.out.s6 HN8.out⟩
  ·have n9:l.getD 9 false=false:=by
    cases e:l.getD 9 false with
    | false=>rfl
    | true=>have:=HT.out.c9 e;simp [hi4] at this
   have HN9:=hide n9;clear T n9;clear hi hi1 hi2 hi3 hi4;refine wpOp_step (o:=⟨some 8,.alloc 109,0, "sets.go:22",#[],none⟩) rfl (fun K hK=>?_);go_simp;exact hK _ _ ⟨va,xa,ca,vb,xb,cb,ba,ptr W.heap.size,rfl,HT.out.s7 HN9.out⟩
  ·have d2:=hi3 _ rfl { on:=2,ground:=Ground.data } (by simp) rfl;have d5:=hi3 _ rfl { on:=5,ground:=Ground.chain } (by simp) rfl;have d6:=hi3 _ rfl { on:=6,ground:=Ground.data } (by simp) rfl;have d7:=hi3 _ rfl { on:=7,ground:=Ground.phase } (by simp) rfl;obtain ⟨F,g,rfl,rfl,ST,T2⟩:=T.s8 d2 d5 d6 d7 hi4;have s1:=run_stA (F':=F) ST;have HT2:=hide T2;clear T T2 ST d2 d5 d6 d7;clear hi hi1 hi2 hi3 hi4;refine wpOp_step (o:=⟨none,.store 109 (.tmp 7) (.tmp 12),0, "sets.go:22",#[⟨6,.data⟩,⟨2,.data⟩,⟨5,.chain⟩,⟨0,.phase⟩,⟨1,.phase⟩,⟨2,.phase⟩,⟨3,.textOnly .lateStores⟩,⟨4,.textOnly .lateStores⟩,⟨5,.textOnly .lateStoresUnsure⟩,⟨6,.phase⟩,⟨7,.phase⟩],none⟩) rfl (fun K hK=>?_);go_simp;exact hK _ _ ⟨va,xa,_,vb,xb,cb,_,bb,rfl,HT2.out⟩
  ·have d5:=hi3 _ rfl { on:=5,ground:=Ground.data } (by simp) rfl;have d7:=hi3 _ rfl { on:=7,ground:=Ground.data } (by simp) rfl;have d8:=hi3 _ rfl { on:=8,ground:=Ground.chain } (by simp) rfl;obtain ⟨F,g,rfl,rfl,ST,T2⟩:=T.s9 d5 d7 d8 hi4;have s1:=run_stA (F':=F) ST;have HT2:=hide T2;clear T T2 ST d5 d7 d8;clear hi hi1 hi2 hi3 hi4;refine wpOp_step (o:=⟨none,.store 109 (.tmp 8) (.tmp 15),0, "sets.go:22",#[⟨7,.data⟩,⟨5,.data⟩,⟨8,.chain⟩,⟨0,.phase⟩,⟨1,.phase⟩,⟨2,.phase⟩,⟨3,.phase⟩,⟨4,.phase⟩,⟨5,.phase⟩,⟨6,.phase⟩,⟨7,.phase⟩,⟨8,.phase⟩],none⟩) rfl (fun K hK=>?_);go_simp;exact hK _ _ ⟨va,xa,ca,vb,xb,_,ba,_,rfl,HT2.out⟩
 ·rintro l x W ⟨va,xa,ca,vb,xb,cb,ba,bb,rfl,T⟩ hnil;obtain ⟨F,G,g,g',rfl,rfl,rfl,rfl,rfl,rfl,hgg,hg1,hg2,hs1,hs2,hr1,hr2,hf1,hf2,hbw⟩:=T.all (fun i hi=>ready_done (by kernel_rfl) T.sz hnil i hi);have HGG:=hide hgg;have HG1:=hide hg1;have HG2:=hide hg2;have HS1:=hide hs1;have HS2:=hide hs2;have HR1:=hide hr1;have HR2:=hide hr2;have HF1:=hide hf1;have HF2:=hide hf2;have HBW:=hide hbw;clear T hnil hgg hg1 hg2 hs1 hs2 hr1 hr2 hf1 hf2 hbw
  rename World=>w5
  have HI0:Hid (PwI wk w5 g g' F G (runsAt a.P) (runsAt b.P) MinusOf 0):=⟨HS1.out,HS2.out,(fun r h=>by omega),fun r _ hr=>⟨HR1.out.src r hr,by rw [HR1.out.eq r hr,runsOf_one]⟩,fun r hr=>⟨HR2.out.src r hr,by rw [HR2.out.eq r hr,runsOf_one]⟩,HF1.out,HF2.out,HBW.out,HG1.out,HGG.out⟩;clear HS1 HS2 HR1 HR2 HF1 HF2 HBW;obtain ⟨F0,hF0⟩:∃ F0,F=F0:=⟨_,rfl⟩;rw [hF0] at HI0 ⊢;clear hF0;go_wp2_with fail;go_loopw [16] (fun i wr=>∃ (k:Nat) (F:Nat -> Sl),k <= 16/\i = .int .i64 k/\Hid (PwI wk wr g g' F G (runsAt a.P) (runsAt b.P) MinusOf k)) (fun i _=>16 - (intOf i).toNat)
  case atStart=>exact ⟨0,F0,Nat.zero_le _,rfl,HI0⟩
  case round =>
   obtain ⟨k,F,hk,rfl,HI⟩:=hrel
   rename World=>w6
   clear HI0;by_cases hlt:k < 16
   ·have k1:=HI.out.s.cell k hlt;have k2:=HI.out.y.cell k hlt;obtain ⟨R1,e1⟩:=HI.out.old k (Nat.le_refl _) hlt;obtain ⟨R2,e2⟩:=HI.out.gs k hlt;rw [e1] at R1;rw [e2] at R2;clear e1 e2;obtain ⟨sa,sn,sc,hf⟩:∃ sa sn sc,(F k).ao=sa/\(F k).n=sn/\(F k).cap=sc:=⟨_,_,_,rfl,rfl,rfl⟩;obtain ⟨ta,tn,tc,hg⟩:∃ ta tn tc,(G k).ao=ta/\(G k).n=tn/\(G k).cap=tc:=⟨_,_,_,rfl,rfl,rfl⟩;rw [hf.1,hf.2.1,hf.2.2] at k1 R1;rw [hg.1,hg.2.1,hg.2.2] at k2 R2;clear hf hg;have HA6:=hide (R1.below (below_drew1 w6));have HB6:=hide (R2.below (below_drew1 w6));have HSX:=hide HI.out.s
    have q0:(0:Int) <= (k:Int):=by omega
    have q1:(k:Int) < 16:=by omega
    clear R1 R2;go_wp2_with fail;refine wp_region_inv (by kernel_rfl) (fun l x W=>∃ v19 v20 v21 v22 v23 v24 v25 v26 v27 v28,x={ tmps:=#[PV a,PV b,.func (.func 150) #[] #[],ptr w.heap.size,ptr (w.heap.size+1),undef,ptr (w.heap.size+1+1),ptr g,ptr g',.int .i64 (k:Int),PV a,xa,SAv F0,PV b,xb,SAv G,.int .i64 (k:Int),.bool true,.int .i64 (k:Int),v19,v20,v21,v22,v23,v24,v25,v26,v27,v28,u29,undef,undef],defers:=[] }/\PwR w6 g g' k (.func (.func 150) #[] #[]) (.slice sa sn sc) (.slice ta tn tc) (PwP w6 MinusOf (runsAt a.P k) (runsAt b.P k)) l W v19 v20 v21 v22 v23 v24 v25 v26 v27 v28) ⟨u19,u20,u21,u22,u23,u24,u25,u26,u27,u28,rfl,PwR.start _ _ _ _ _ _ _ _ _ _ _ _ _ _ _ _ _ _⟩ ?_ ?_ ?_
    ·rintro l x W ⟨v19,v20,v21,v22,v23,v24,v25,v26,v27,v28,rfl,T⟩;exact T.sz
    ·rintro l x W ⟨v19,v20,v21,v22,v23,v24,v25,v26,v27,v28,rfl,T⟩ i hi;obtain ⟨hi1,hi2,hi3⟩:=ready_mem hi;have hi4:=no_true hi2
     have hc:i=0∨i=1∨i=2∨i=3∨i=4∨i=5∨i=6∨i=7∨i=8∨i=9∨i=10:=by have h:i < 11:=hi1;omega
     have HT:=hide T;rcases hc with rfl | rfl | rfl | rfl | rfl | rfl | rfl | rfl | rfl | rfl | rfl
     ·clear T;clear hi hi1 hi2 hi3 hi4;refine wpOp_step (o:=⟨some 19,.move (.tmp 9),3, "sets.go:24",#[],none⟩) rfl (fun K hK=>?_);go_simp;exact hK _ _ ⟨.int .i64 (k:Int),v20,v21,v22,v23,v24,v25,v26,v27,v28,rfl,HT.out.s0⟩
     ·clear T;clear hi hi1 hi2 hi3 hi4;refine wpOp_step (o:=⟨some 20,.move (.tmp 2),176, "sets.go:24",#[],none⟩) rfl (fun K hK=>?_);go_simp;exact hK _ _ ⟨v19,_,v21,v22,v23,v24,v25,v26,v27,v28,rfl,HT.out.s1⟩
     ·clear T;clear hi hi1 hi2 hi3 hi4;refine wpOp_step (o:=⟨some 21,.move (.tmp 9),3, "sets.go:24",#[],none⟩) rfl (fun K hK=>?_);go_simp;exact hK _ _ ⟨v19,v20,.int .i64 (k:Int),v22,v23,v24,v25,v26,v27,v28,rfl,HT.out.s2⟩
     ·have d2:=hi3 _ rfl { on:=2,ground:=Ground.data } (by simp) rfl;obtain rfl:=T.h2 d2;clear T d2;clear hi hi1 hi2 hi3 hi4;refine wpOp_step (o:=⟨some 22,.indexAddr 109 (.tmp 7) (.tmp 21),0, "sets.go:24",#[⟨2,.data⟩],none⟩) rfl (fun K hK=>?_);go_simp;exact hK _ _ ⟨v19,v20,_,_,v23,v24,v25,v26,v27,v28,rfl,HT.out.s3⟩
     ·have d3:=hi3 _ rfl { on:=3,ground:=Ground.data } (by simp) rfl
      have n8:l.getD 8 false=false:=by
       cases e:l.getD 8 false with
       | false=>rfl
       | true=>have:=HT.out.c8 e;simp [hi4] at this
      obtain rfl:=T.h3 d3;obtain rfl:=T.h8a n8;clear T d3 n8;clear hi hi1 hi2 hi3 hi4;refine wpOp_step (o:=⟨some 23,.load 107 (.tmp 22),107, "sets.go:24",#[⟨3,.data⟩],none⟩) rfl (fun K hK=>?_);go_simp;exact hK _ _ ⟨v19,v20,v21,_,_,v24,v25,v26,v27,v28,rfl,HT.out.s4⟩
     ·clear T;clear hi hi1 hi2 hi3 hi4;refine wpOp_step (o:=⟨some 24,.move (.tmp 9),3, "sets.go:24",#[],none⟩) rfl (fun K hK=>?_);go_simp;exact hK _ _ ⟨v19,v20,v21,v22,v23,.int .i64 (k:Int),v25,v26,v27,v28,rfl,HT.out.s5⟩
     ·have d5:=hi3 _ rfl { on:=5,ground:=Ground.data } (by simp) rfl;obtain rfl:=T.h5 d5;clear T d5;clear hi hi1 hi2 hi3 hi4;refine wpOp_step (o:=⟨some 25,.indexAddr 109 (.tmp 8) (.tmp 24),0, "sets.go:24",#[⟨5,.data⟩],none⟩) rfl (fun K hK=>?_);go_simp;exact hK _ _ ⟨v19,v20,v21,v22,v23,_,_,v26,v27,v28,rfl,HT.out.s6⟩
     ·have d6:=hi3 _ rfl { on:=6,ground:=Ground.data } (by simp) rfl
      have n8:l.getD 8 false=false:=by
       cases e:l.getD 8 false with
       | false=>rfl
       | true=>have:=HT.out.c8 e;simp [hi4] at this
      obtain rfl:=T.h6 d6;obtain rfl:=T.h8a n8;clear T d6 n8;clear hi hi1 hi2 hi3 hi4;refine wpOp_step (o:=⟨some 26,.load 107 (.tmp 25),107, "sets.go:24",#[⟨6,.data⟩],none⟩) rfl (fun K hK=>?_);go_simp;exact hK _ _ ⟨v19,v20,v21,v22,v23,v24,_,_,v27,v28,rfl,HT.out.s7⟩
     ·have d1:=hi3 _ rfl { on:=1,ground:=Ground.data } (by simp) rfl;have d4:=hi3 _ rfl { on:=4,ground:=Ground.data } (by simp) rfl;have d7:=hi3 _ rfl { on:=7,ground:=Ground.data } (by simp) rfl
      have n10:l.getD 10 false=false:=by
       cases e:l.getD 10 false with
       | false=>rfl
       | true=>have:=HT.out.c10 e;simp [hi4] at this
      obtain rfl:=T.h1 d1;obtain rfl:=T.h4 d4;obtain rfl:=T.h7 d7;obtain rfl:=T.h8a hi4;have HD:=hide (And.intro d1 (And.intro d4 (And.intro d7 n10)));clear T d1 d4 d7 n10;clear hi hi1 hi2 hi3 hi4;refine wpOp_step (o:=⟨some 27,.call ⟨.value (.tmp 20),#[.tmp 23,.tmp 26],#[107,107]⟩,107, "sets.go:24",#[⟨1,.data⟩,⟨4,.data⟩,⟨7,.data⟩],none⟩) rfl (fun K hK=>?_);go_simp;go_wp2_with fail;refine (minus_new sa ta sn sc tn tc _ _ _ HA6.out HB6.out).mono ?_;rintro e w' ⟨a1,n1,c1,R1,rfl,S1,b1,f1,p1⟩;exact hK _ _ ⟨v19,_,v21,v22,_,v24,v25,_,.slice a1 n1 c1,v28,rfl,HT.out.s8 HD.out.1 HD.out.2.1 HD.out.2.2.1 HD.out.2.2.2 ⟨a1,n1,c1,R1,rfl,S1,(below_drew1 w6).trans (b1.mono (Nat.le_refl _)),f1,p1⟩⟩
     ·have d0:=hi3 _ rfl { on:=0,ground:=Ground.data } (by simp) rfl;obtain rfl:=T.h0 d0;clear T d0;clear hi hi1 hi2 hi3 hi4;refine wpOp_step (o:=⟨some 28,.indexAddr 109 (.tmp 7) (.tmp 19),0, "sets.go:24",#[⟨0,.data⟩,⟨0,.phase⟩,⟨1,.phase⟩,⟨2,.phase⟩,⟨3,.phase⟩,⟨4,.phase⟩,⟨5,.phase⟩,⟨6,.phase⟩,⟨7,.phase⟩,⟨8,.phase⟩],none⟩) rfl (fun K hK=>?_);go_simp;exact hK _ _ ⟨_,v20,v21,v22,v23,v24,v25,v26,v27,_,rfl,HT.out.s9⟩
     ·have d8:=hi3 _ rfl { on:=8,ground:=Ground.data } (by simp) rfl;have d9:=hi3 _ rfl { on:=9,ground:=Ground.data } (by simp) rfl;obtain rfl:=T.h9 d9;obtain ⟨a1,n1,c1,R1,rfl,S1,b1,f1,p1⟩:=T.h8b d8 hi4;have e1:=(HSX.out.below b1).cell k hlt;have e2:=(HSX.out.below b1).frozen k;have HT2:=hide (T.s10 d8 d9 hi4);clear T d8 d9 S1 b1 f1 p1;clear hi hi1 hi2 hi3 hi4;refine wpOp_step (o:=⟨none,.store 107 (.tmp 28) (.tmp 27),0, "sets.go:24",#[⟨9,.data⟩,⟨8,.data⟩,⟨8,.chain⟩,⟨0,.phase⟩,⟨1,.phase⟩,⟨2,.phase⟩,⟨3,.phase⟩,⟨4,.phase⟩,⟨5,.phase⟩,⟨6,.phase⟩,⟨7,.phase⟩,⟨8,.phase⟩],none⟩) rfl (fun K hK=>?_);go_simp;exact hK _ _ ⟨v19,v20,v21,v22,v23,v24,v25,v26,_,_,rfl,HT2.out⟩
    ·rintro l x W ⟨v19,v20,v21,v22,v23,v24,v25,v26,v27,v28,rfl,T⟩ hnil;have hall:=fun i (hi:i < 11)=>ready_done (by kernel_rfl) T.sz hnil i hi;obtain ⟨W0,⟨a1,n1,c1,R1,rfl,S1,b1,f1,p1⟩,rfl⟩:=T.h10 (hall 10 (by decide));have HN:=hide (HI.out.step hlt b1 S1 f1 p1);clear T hnil hall S1 b1 f1 p1;go_wp2_with fail;go_roundw
     case rel=>exact ⟨k+1,_,by omega,by go_num,HN.out⟩
     case measure=>simp [intOf];omega
   ·obtain rfl:k=16:=by omega
    have l1:=run_ldA HI.out.s;go_wp2_with fail;refine (canonical_any F _ (fun r hr=>(HI.out.new r hr).1)).mono ?_;rintro e w7 ⟨p,rfl,S7,n7,b7,c7⟩;obtain ⟨s1,e1,e2,e3,e4⟩:=past_end (w:=w) (g:=w.heap.size+1+1) ((HI.out.b.block _ (by have:=HZK.out;omega)).trans HPC.out |> fun h=>(b7.block _ (Array.getElem?_eq_some_iff.1 h).1).trans h) S7 (n7.mono (by have h1:=HI.out.b.size;have h2:=HZK.out;omega)) (HBK.out.trans ((HI.out.b.trans (b7.mono HI.out.b.size)).mono HBK.out.size)) (by omega);have HE1:=hide e1;have HE2:Hid (∃ p':Pv,Ending.returned (PV p) = .returned (PV p')/\PSrc (w7.setRow (w.heap.size+1+1) (PC p)) p'/\PNew w.heap.size p'/\Below w.heap.size w (w7.setRow (w.heap.size+1+1) (PC p))/\∃ C:Nat -> List Rn,(∀ r,r < 16 -> MinusOf (runsAt a.P r) (runsAt b.P r) (C r))/\CanonOf C p'.P):=⟨p,rfl,e2,e3,e4,fun r=>(F r).L,fun r hr=>(HI.out.new r hr).2,c7⟩
    clear S7 n7 b7 c7 e1 e2 e3 e4;go_wp2_with fail;exact bodyPost_ret (v:=PV p) (resP Tryz.results126 rfl HE1.out) rfl HE2.out
end
section
open Go.RowKit
attribute [local go_sem ↓] ldP_eq stP_eq ldA_eq stA_eq
attribute [local go_sem] zeros_SA cells_SAv zero_PC cells_PV fold_PC PC_size fold_PC1
attribute [local go_sem] zeros_sl
theorem pastMeet_any (a b:Pv) (w:World) (hA:PSrc w a) (hB:PSrc w b) :
  Calls Tryz.prog 79 #[PV a,PV b] w fun e w'=>GivesP w w' e (fun P=>∃ C:Nat -> List Rn,(∀ r,r < 16 -> MeetOf (runsAt a.P r) (runsAt b.P r) (C r))/\CanonOf C P):=by
 have b1:=below_new w (.cells (PC a) 26);have b2:=below_new (w.alloc (.cells (PC a) 26)) (.cells (PC b) 26);have b3:=below_new ((w.alloc (.cells (PC a) 26)).alloc (.cells (PC b) 26)) (.cells (PC pv0) 26);have p2:=pbox_new (w.alloc (.cells (PC a) 26)) b;have p3:=pbox_new ((w.alloc (.cells (PC a) 26)).alloc (.cells (PC b) 26)) pv0;simp only [World.size_alloc] at p2 p3
 have l1:=run_ldP (((pbox_new w a).below b2).below b3).at
 have l2:=run_ldP (p2.below b3).at
 have HP3:=hide p3;have HBK:=hide (b1.trans ((b2.trans (b3.mono b2.size)).mono b1.size));have HA:=hide (hA.below HBK.out);have HB:=hide (hB.below HBK.out);clear hA hB b1 b2 b3 p2 p3;go_enter Tryz.func79,Tryz.ntmps79;go_wp2_with fail;refine (pairMeet_any a b _ HA.out HB.out).mono ?_;rintro e w4 ⟨p,rfl,S4,n4,b4,c4⟩;obtain ⟨s1,e1,e2,e3,e4⟩:=past_end (w:=w) (HP3.out.below b4) S4 (n4.mono (by simp)) (HBK.out.trans (b4.mono HBK.out.size)) (by omega);have HE1:=hide e1;have HE2:Hid (GivesP w (w4.setRow (w.heap.size+1+1) (PC p)) (.returned (PV p)) (fun P=>∃ C:Nat -> List Rn,(∀ r,r < 16 -> MeetOf (runsAt a.P r) (runsAt b.P r) (C r))/\CanonOf C P)):=⟨p,rfl,e2,e3,e4,c4⟩;clear S4 n4 b4 c4 e1 e2 e3 e4;go_wp2_with fail;exact bodyPost_ret (v:=PV p) (resP Tryz.results79 rfl HE1.out) rfl HE2.out
theorem pastMinus_any (a b:Pv) (w:World) (hA:PSrc w a) (hB:PSrc w b) :
  Calls Tryz.prog 114 #[PV a,PV b] w fun e w'=>GivesP w w' e (fun P=>∃ C:Nat -> List Rn,(∀ r,r < 16 -> MinusOf (runsAt a.P r) (runsAt b.P r) (C r))/\CanonOf C P):=by
 have b1:=below_new w (.cells (PC a) 26);have b2:=below_new (w.alloc (.cells (PC a) 26)) (.cells (PC b) 26);have b3:=below_new ((w.alloc (.cells (PC a) 26)).alloc (.cells (PC b) 26)) (.cells (PC pv0) 26);have p2:=pbox_new (w.alloc (.cells (PC a) 26)) b;have p3:=pbox_new ((w.alloc (.cells (PC a) 26)).alloc (.cells (PC b) 26)) pv0;simp only [World.size_alloc] at p2 p3
 have l1:=run_ldP (((pbox_new w a).below b2).below b3).at
 have l2:=run_ldP (p2.below b3).at
 have HP3:=hide p3;have HBK:=hide (b1.trans ((b2.trans (b3.mono b2.size)).mono b1.size));have HA:=hide (hA.below HBK.out);have HB:=hide (hB.below HBK.out);clear hA hB b1 b2 b3 p2 p3;go_enter Tryz.func114,Tryz.ntmps114;go_wp2_with fail;refine (pairMinus_any a b _ HA.out HB.out).mono ?_;rintro e w4 ⟨p,rfl,S4,n4,b4,c4⟩;obtain ⟨s1,e1,e2,e3,e4⟩:=past_end (w:=w) (HP3.out.below b4) S4 (n4.mono (by simp)) (HBK.out.trans (b4.mono HBK.out.size)) (by omega);have HE1:=hide e1;have HE2:Hid (GivesP w (w4.setRow (w.heap.size+1+1) (PC p)) (.returned (PV p)) (fun P=>∃ C:Nat -> List Rn,(∀ r,r < 16 -> MinusOf (runsAt a.P r) (runsAt b.P r) (C r))/\CanonOf C P)):=⟨p,rfl,e2,e3,e4,c4⟩;clear S4 n4 b4 c4 e1 e2 e3 e4;go_wp2_with fail;exact bodyPost_ret (v:=PV p) (resP Tryz.results114 rfl HE1.out) rfl HE2.out
end
section
open Go.RowKit Go.Maps Go.Sort
attribute [local go_sem ↓] ldP_eq stP_eq ldRe_eq stRe_eq
attribute [local go_sem] cells_ReV ReC_size zero_ReC
theorem keyS2:Keyed Tryz.prog 9:=string_keyed Tryz.underlying9
theorem zeroPs (w:World):(zeroValue 99).run Tryz.prog w = .ok (HsV hs0) w:=by kernel_rfl
def MF (w W:World) (kk:Nat) (R:List Rc):Prop:=∃ f,MRo Tryz.prog 9 26 2 (w.heap.size+1) w W w.heap.size kk (fun s=>∃ r∈R,r.s=s) f (fun s=>pvs (ofS R s))
theorem take_snocF (L:List Rc) (k:Nat) (h:k < L.length):L.take (k+1)=L.take k++[L.getD k rc0]:=by
 rw [List.take_succ_eq_append_getElem h];simp [List.getD,h]
theorem keys_snoc (R:List Rc) (r:Rc):(fun s=>∃ x∈R++[r],x.s=s)=fun s=>s=r.s∨∃ x∈R,x.s=s:=by
 funext s
 apply propext;constructor
 ·rintro ⟨x,hx,rfl⟩;rcases List.mem_append.1 hx with hx | hx
  ·exact .inr ⟨x,hx,rfl⟩
  ·obtain rfl:x=r:=by simpa using hx
   exact .inl rfl
 ·rintro (rfl | ⟨x,hx,rfl⟩)
  ·exact ⟨r,by simp,rfl⟩
  ·exact ⟨x,by simp [hx],rfl⟩
def TxS (w:World) (ao:Option Addr) (m:Nat) (T:List (List UInt8)):Prop:=
 T.length=m/\∀ t,t < m -> ∃ ad,ao=some ad/\w.cell? (ad.add t)=some (encStr (T.getD t []))
theorem TxS.below {w w':World} {ao:Option Addr} {m:Nat} {T:List (List UInt8)} (h:TxS w ao m T) (hb:Below w.heap.size w w'):TxS w' ao m T:=by
 refine ⟨h.1,fun t ht=>?_⟩;obtain ⟨ad,e,hc⟩:=h.2 t ht;exact ⟨ad,e,(hb.cell (World.block_lt_of_cell? _ _ hc)).trans hc⟩
theorem GivesSs.src {w w':World} {e:Ending} {T:List (List UInt8)} (h:GivesSs w w' e T):∃ ao c,e = .returned (.slice ao T.length c)/\TxS w' ao T.length T/\Below w.heap.size w w':=by
 obtain ⟨v,rfl,hr,hb⟩:=h;rcases hr.2 with ⟨h0,h00⟩ | ⟨g,cap,cur,hv,hbg,hgg,hnc,hcm,hcsz,htake⟩
 ·refine ⟨none,0,by rw [h0,h00],⟨rfl,fun t ht=>?_⟩,hb⟩;omega
 ·subst hv;refine ⟨some ⟨g,0,none⟩,cap,rfl,⟨rfl,fun t ht=>⟨_,rfl,?_⟩⟩,hb⟩;rw [Addr.add_lit,Nat.zero_add,hr.cellAt t (by omega)];simp [List.getD,ht]
theorem cb_lt:∀ a b:List UInt8,a < b -> Lib.compareBytes a b < 0
 | [],[],h=>absurd h (List.lt_irrefl _)
 | [],_ :: _,_=>by simp [Lib.compareBytes]
 | _ :: _,[],h=>absurd h (List.not_lt_nil _)
 | a :: x,b :: y,h=>by
  rcases List.cons_lt_cons_iff.1 h with h1 | ⟨rfl,h1⟩
  ·simp [Lib.compareBytes,h1]
  ·have h0:¬ a < a:=UInt8.lt_irrefl a;have:=cb_lt x y h1;simpa [Lib.compareBytes,h0] using this
theorem keys_rise {ss:List (List UInt8)} (hnd:ss.Nodup):(ss.mergeSort leB).Pairwise (fun a b=>Lib.compareBytes a b < 0):=by
 have tr:∀ a b c:List UInt8,leB a b=true -> leB b c=true -> leB a c=true:=fun a b c h1 h2=>by simp only [leB,decide_eq_true_eq] at *;exact List.le_trans h1 h2
 have tt:∀ a b:List UInt8,(leB a b || leB b a)=true:=fun a b=>by simp only [leB,Bool.or_eq_true,decide_eq_true_eq];exact List.le_total a b
 have hs1:(ss.mergeSort leB).Pairwise (fun a b=>leB a b=true):=List.pairwise_mergeSort tr tt ss;have hnd2:(ss.mergeSort leB).Nodup:=(List.mergeSort_perm ss leB).nodup_iff.2 hnd;refine (hs1.and hnd2).imp fun {a b} h=>cb_lt a b ?_
 have h1:a <= b:=by simpa [leB] using h.1
 exact Decidable.byContradiction fun hn=>h.2 (List.le_antisymm h1 (List.not_lt.1 hn))
def FoA (w w':World) (x:Ending) (L:List Rc) (n:Nat):Prop:=(OkR L n/\∃ (h:Hs) (F:List Rc),x = .returned (.tuple #[HsV h,.int .i64 0])/\RcS w' h.o h.n h.c F/\Below w.heap.size w w'/\(∀ ad,h.o=some ad -> w.heap.size <= ad.block)/\FoldOf L F)∨(¬ OkR L n/\x = .returned (.tuple #[.slice none 0 0,.int .i64 1])/\Below w.heap.size w w')
theorem fold_any (ao:Option Addr) (n cap:Nat) (L:List Rc) (w:World) (hS:RcS w ao n cap L) (hwt:∀ s,wt (ofS L s) <= 8796093022207) :
  Calls Tryz.prog 77 #[.slice ao n cap] w fun x w'=>FoA w w' x L n:=by
 have HS:=hide hS;have HL:Hid (L.length=n):=hS.len;have hn:=hS.big;have HW:=hide hwt;have hmm:=@run_makeMap Tryz.prog;clear hS hwt;go_enter Tryz.func77,Tryz.ntmps77;go_wp2_with fail;refine (keepCheck_any ao n cap L _ HS.out).mono ?_;rintro x w0 ⟨z,rfl,hz,b0⟩;have HB0:=hide b0;have HS0:=hide (HS.out.below b0);clear b0;rcases hz with ⟨rfl,hO⟩ | ⟨rfl,hO⟩;rotate_left
 ·have HE:Hid (FoA w w0 (.returned (.tuple #[.slice none 0 0,.int .i64 1])) L n):=.inr ⟨hO,rfl,HB0.out⟩;clear hO hmm;go_wp2_with fail;go_ret2;exact HE.out
 ·have HO:=hide hO;obtain ⟨w1,hw1⟩:∃ w1,w0.alloc (.map #[] 0)=w1:=⟨_,rfl⟩;obtain ⟨b,hb⟩:∃ b,w0.heap.size=b:=⟨_,rfl⟩
  have HM0:Hid (MF w0 w1 0 []):=⟨fun _=>hs0,by
   have h:=MRo.start (P:=Tryz.prog) (kt:=9) (et:=26) (size:=2) w0;rw [hw1] at h
   have e:(fun s=>∃ r∈([]:List Rc),r.s=s)=fun _=>False:=by funext s;simp
   rw [e]
   exact h⟩
  have Hb:=hide hb;clear hO;go_wp2_with fail;clear hw1 hb;go_loopw [21] (fun i wr=>∃ k:Nat,k <= n/\i = .int .i64 (k:Int)/\Hid (MF w0 wr k (L.take k))) (fun i _=>n - (intOf i).toNat)
  case atStart=>exact ⟨0,Nat.zero_le _,rfl,HM0⟩
  case round =>
   obtain ⟨k,hk,rfl,HM⟩:=hrel
   rename World=>wr
   clear HM0;by_cases hlt:k < n
   ·have hlti:(k:Int) < (n:Int):=by omega
    obtain ⟨f,M⟩:=HM.out;obtain ⟨ad,hao,A0⟩:=(HS0.out.below M.below).at k hlt;subst hao;have hOk:=(HS0.out.below M.below).okAt k hlt;have HT:=hide (take_snocF L k (by rw [HL.out];exact hlt));obtain ⟨r,Hr⟩:∃ r,Hid (L.getD k rc0=r):=⟨_,rfl⟩;rw [Hr.out] at A0 hOk HT;have hsk:=hOk.2;have hld:=run_laRe A0;obtain ⟨g7,hg7⟩:∃ g7,wr.heap.size=g7:=⟨_,rfl⟩;obtain ⟨w7,hst,X7,B7,S7⟩:=madeRe wr (mkR r) g7 hg7;have M7:=(M.later B7).later (below_drew1 w7)
    have hnl:(f r.s).n <= 2900000000000:=by
     have h:=(M.rows r.s).1;rw [pvs_length] at h;have h1:=ofS_len (L.take k) r.s;have h2:=List.length_take_le k L;omega
    have hoff:(HsV (f r.s)).ownBlock≠some g7:=fun h=>by have:=((M.rows r.s).lt g7 h).2;omega
    have HL0:Hid (∀ W,Below w7.drew.heap.size w7.drew W -> (Instr.lookup 170 (.map (some b)) (.string r.s) false).run Tryz.prog W = .ok (HsV (f r.s)) W):=fun W hW=>by
     have:=(M7.later hW).look keyS2 Tryz.underlying9 Tryz.underlying170 (zeroPs W) r.s hsk;rwa [Hb.out] at this
    obtain ⟨g8,c8,w8,ha8,M8,k8⟩:=mp_app M7 r.s r.p hnl;obtain ⟨w9,hu9,M9,k9⟩:=M8.put keyS2 Tryz.underlying9 Tryz.underlying170 hsk (by unfold maxLen;omega);rw [Hb.out] at hu9 k9
    have hgb:g7≠b:=by have:=M.hb;rw [Hb.out] at this;omega
    have z8:w8.heap[g7]? = w7.heap[g7]?:=k8 g7 (show g7 < w7.heap.size by omega) hoff;have z9:w9.heap[g7]? = w7.heap[g7]?:=(k9 g7 (Array.getElem?_eq_some_iff.1 (z8.trans X7)).1 hgb).trans z8
    have HSt:Hid (∀ W:World,W.heap[g7]? = w7.heap[g7]? -> W.cell? ⟨g7,0,none⟩=some (.string r.s)/\(ldP (.pointer (some ⟨g7,1,none⟩))).run Tryz.prog W = .ok (.agg #[.slice r.p.vo r.p.vn r.p.vc,.slice r.p.co r.p.cn r.p.cc]) W):=fun W h=>by
     have X:ReBox W g7 (mkR r):=h.trans X7;exact ⟨X.sk,run_ldP X.past⟩
    have HZ:Hid (w8.heap[g7]? = w7.heap[g7]? /\ w9.heap[g7]? = w7.heap[g7]?):=⟨z8,z9⟩;have HZA:Hid ((w7.drew.alloc (.cells #[.slice r.p.vo r.p.vn r.p.vc,.slice r.p.co r.p.cn r.p.cc] 26)).heap[g7]? = w7.heap[g7]?):=Below.heap_alloc w7.drew _ g7 (show g7 < w7.heap.size by omega);have l0:=HL0.out w7.drew (Below.refl _ _);have l1:=HL0.out _ (below_new w7.drew (.cells #[.slice r.p.vo r.p.vn r.p.vc,.slice r.p.co r.p.cn r.p.cc] 26));have l2:(Instr.lookup 170 (.map (some b)) (.string r.s) false).run Tryz.prog (w7.alloc (.cells #[.slice r.p.vo r.p.vn r.p.vc,.slice r.p.co r.p.cn r.p.cc] 26)).drew = .ok (HsV (f r.s)) (w7.drew.alloc (.cells #[.slice r.p.vo r.p.vn r.p.vc,.slice r.p.co r.p.cn r.p.cc] 26)):=l1
    have HMb:Hid (MF w0 w9 (k+1) (L.take (k+1))):=by
     have hX:(fun s=>pvs (ofS (L.take (k+1)) s))=fun u=>if u=r.s then pvs (ofS (L.take k) r.s)++(PC r.p).toList else pvs (ofS (L.take k) u):=by
      funext s
      rw [HT.out,ofS_snoc];by_cases h:s=r.s
      ·subst h;simp
      ·simp [h]
     have h:=M9;rw [<- hX,<- keys_snoc,<- HT.out] at h;exact ⟨_,h⟩
    have HA8:Hid ((Builtin.append_ #[99,99] 99 #[.slice (f r.s).o (f r.s).n (f r.s).c,.slice (some ⟨w7.heap.size,0,none⟩) 1 1]).run Tryz.prog (w7.drew.alloc (.cells #[.slice r.p.vo r.p.vn r.p.vc,.slice r.p.co r.p.cn r.p.cc] 26)) = .ok (.slice (some ⟨g8,0,none⟩) ((f r.s).n+1) c8) w8):=ha8;have Hlt:=hide hlt;clear A0 X7 B7 S7 M M7 M8 M9 k8 k9 z8 z9 ha8 hlt hk hOk;go_upto_region 8 with fail;clear hst hld;refine wp_region_held_drew (S:=fun W=>W.cell? ⟨g7,0,none⟩=some (.string r.s)/\(ldP (.pointer (some ⟨g7,1,none⟩))).run Tryz.prog W = .ok (.agg #[.slice r.p.vo r.p.vn r.p.vc,.slice r.p.co r.p.cn r.p.cc]) W) (by kernel_rfl) (HSt.out _ rfl) (fun hHeld=>?_);refine wU 0 ?_;refine wU 1 ?_;refine wU 2 ?_;refine wU 3 ?_;refine wU 4 ?_;refine wU 5 ?_;refine wU 7 ?_;refine wU 8 ?_;refine wpAnyH_ready (rs:=[6,9]) (by kernel_rfl) (by simp) ?_;refine AllReadyH.cons rfl (fun K hK=>?_) ?_
    ·go_simp;refine hK.out _ _ (HSt.out _ rfl) (fun hHeld=>?_);clear hK K;refine wpAnyH_ready (rs:=[9]) (by kernel_rfl) (by simp) (.cons rfl (fun K hK=>?_) .nil);go_simp;refine hK.out _ _ (HSt.out _ HZA.out) (fun hHeld=>?_);clear hK K;refine wpAnyH_ready (rs:=[10]) (by kernel_rfl) (by simp) (.cons rfl (fun K hK=>?_) .nil);refine step_appM (by rfl) (.tmp 31) (.tmp 34) (by rfl) (by rfl) (by rfl) HA8.out ?_;refine hK.out _ _ (HSt.out _ HZ.out.1) (fun hHeld=>?_);clear hK K;refine wpAnyH_ready (rs:=[11]) (by kernel_rfl) (by simp) (.cons rfl (fun K hK=>?_) .nil);go_simp;refine hK.out _ _ (HSt.out _ HZ.out.2) (fun hHeld=>?_);clear hK K;refine wpAnyH_done (by kernel_rfl) ?_ _;clear hHeld;clear l0 l1 l2 hu9;go_wp2_with fail;go_roundw
     case rel=>exact ⟨k+1,Hlt.out,by simp,HMb⟩
     case measure=>simp [intOf];have:=Hlt.out;omega
    ·refine AllReadyH.cons rfl (fun K hK=>?_) ?_;rotate_left
     ·exact AllReadyH.nil
     go_simp;refine hK.out _ _ (HSt.out _ HZA.out) (fun hHeld=>?_);clear hK K;refine wpAnyH_ready (rs:=[6]) (by kernel_rfl) (by simp) (.cons rfl (fun K hK=>?_) .nil);go_simp;refine hK.out _ _ (HSt.out _ HZA.out) (fun hHeld=>?_);clear hK K;refine wpAnyH_ready (rs:=[10]) (by kernel_rfl) (by simp) (.cons rfl (fun K hK=>?_) .nil);refine step_appM (by rfl) (.tmp 31) (.tmp 34) (by rfl) (by rfl) (by rfl) HA8.out ?_;refine hK.out _ _ (HSt.out _ HZ.out.1) (fun hHeld=>?_);clear hK K;refine wpAnyH_ready (rs:=[11]) (by kernel_rfl) (by simp) (.cons rfl (fun K hK=>?_) .nil);go_simp;refine hK.out _ _ (HSt.out _ HZ.out.2) (fun hHeld=>?_);clear hK K;refine wpAnyH_done (by kernel_rfl) ?_ _;clear hHeld;clear l0 l1 l2 hu9;go_wp2_with fail;go_roundw
     case rel=>exact ⟨k+1,Hlt.out,by simp,HMb⟩
     case measure=>simp [intOf];have:=Hlt.out;omega
   ·obtain rfl:k=n:=by omega
    have HE:Hid (MF w0 wr k L):=by
     have h:=HM.out;rw [List.take_of_length_le (by have:=HL.out;omega)] at h;exact h
    obtain ⟨f,M⟩:=HE.out
    have hsrc:∀ s,∀ p∈ofS L s,PSrc wr p:=fun s p hp=>by
     obtain ⟨r,hr,rfl⟩:=List.mem_map.1 hp;exact ((HS0.out.below M.below).ok r (List.mem_filter.1 hr).1).1
    have HP0:Hid (PRow wr (f nilF).o (f nilF).n (ofS L nilF)):=prow_of (M.rows nilF) (hsrc nilF)
    have hn0:(f nilF).n <= 8796093022207:=by
     have h:=(M.rows nilF).1;rw [pvs_length] at h;have h1:=ofS_len L nilF;have h2:=HL.out;omega
    have l0:(Instr.lookup 170 (.map (some b)) (.string ⟨#[]⟩) false).run Tryz.prog wr = .ok (.slice (f nilF).o (f nilF).n (f nilF).c) wr:=by
     have h:=M.look keyS2 Tryz.underlying9 Tryz.underlying170 (zeroPs wr) nilF (by decide);rwa [Hb.out] at h
    have HMM:=hide M;clear M hsrc hlt;go_wp2_with fail;clear l0;refine (pastJoin_any (f nilF).o (f nilF).n (f nilF).c (ofS L nilF) _ HP0.out (HW.out nilF) hn0).mono ?_;rintro x w3 ⟨pa,rfl,Sa,Na,b3,Ca⟩;obtain ⟨g3,hg3⟩:∃ g3,w3.heap.size=g3:=⟨_,rfl⟩;obtain ⟨w4,hst4,X4,b4,s4⟩:=madeP w3 pa g3 hg3;replace hst4:(stP (.pointer (some ⟨g3,0,none⟩)) (PV pa)).run Tryz.prog (w3.alloc (.cells #[.slice none 0 0,.slice none 0 0] 26)) = .ok () w4:=hst4;have b34:=b3.trans (b4.mono b3.size);have HM4:=hide (HMM.out.later b34);have HA4:Hid (PBox w4 g3 pa/\PSrc w4 pa/\CanonOf (runsOf (ofS L nilF)) pa.P):=⟨X4,Sa.below b4,Ca⟩;clear Sa Na b3 b4 s4 X4 Ca b34 HMM HP0;go_wp2_with fail;clear hst4 hg3;refine (keys_any (some b) _).mono ?_;rintro x w5 ⟨rfl,rfl⟩;obtain ⟨D,hD,hMp⟩:=HM4.out.map;rw [Hb.out] at hD;have hsz:=hD.size_le;have HD:Hid (w4.ownsMap Tryz.prog 9 RSl b k D):=hD
    have HZ:Hid (Maps.size D <= maxLen/\Maps.size D * 16 <= 140737488355328):=⟨by unfold maxLen;omega,by omega⟩;have HMp:=hide hMp;clear hD hMp hsz;go_wp2_with fail;refine (sortedKeys_any b k D RSl w4 HD.out HZ.out.1 HZ.out.2).mono ?_;rintro y w6 ⟨ss,hp,hg⟩;obtain ⟨a6,c6,rfl,T6,b6⟩:=hg.src;have HKs:=hide (keysS HD.out keyS2 Tryz.underlying9 HMp.out hp);obtain ⟨T,HTt⟩:∃ T,Hid (ss.mergeSort leB=T):=⟨_,rfl⟩;rw [HTt.out] at T6 ⊢;have b46:=(below_new w4 (.cells #[.map (some b)] 170)).trans (b6.mono (below_new w4 (.cells #[.map (some b)] 170)).size);have HT6:=hide T6;have HM6:=hide (HM4.out.later b46);have HA6:Hid (PBox w6 g3 pa/\PSrc w6 pa/\CanonOf (runsOf (ofS L nilF)) pa.P):=⟨HA4.out.1.below b46,HA4.out.2.1.below b46,HA4.out.2.2⟩;clear b6 b46 hg T6;obtain ⟨m,Hm⟩:∃ m,Hid (T.length=m):=⟨_,rfl⟩
    have Hmn:Hid (m <= 2199023255552):=by
     show _ <= _
     have e1:=((List.mergeSort_perm ss leB).trans hp).length_eq;rw [HTt.out,Hm.out] at e1
     have e2:(strKeys D).length=Maps.size D:=by
      obtain ⟨es,hD⟩:=HD.out.isMap;subst hD;simp [strKeys,Maps.size]
     have e3:=HD.out.size_le;omega
    have HTL:Hid (∀ t∈T,t.length <= maxLen):=fun t ht=>by
     refine strKeys_le HD.out Tryz.underlying9 _ (((List.mergeSort_perm ss leB).trans hp).mem_iff.1 ?_);rw [HTt.out];exact ht
    have HKT:Hid (∀ t,t∈T↔∃ r∈L,r.s=⟨t.toArray⟩):=fun t=>by
     rw [<- HTt.out,(List.mergeSort_perm ss leB).mem_iff];exact HKs.out.2 t
    have HTP:Hid (T.Pairwise (fun a b=>Lib.compareBytes a b < 0)):=by
     show List.Pairwise _ _
     rw [<- HTt.out];exact keys_rise HKs.out.1
    rw [Hm.out] at HT6 ⊢;clear hp;go_wp2_with fail;go_loopw [9,44] (fun v i wr2=>∃ (j:Nat) (hh:Hs),j <= m/\v = .slice hh.o hh.n hh.c/\i = .int .i64 (j:Int)/\Hid (∃ F,OwnRc w6.heap.size w6 wr2 hh F/\FPre L (T.take j) F/\hh.n <= j)) (fun _ i _=>m - (intOf i).toNat)
    case atStart=>exact ⟨0,hs0,Nat.zero_le _,rfl,rfl,[],OwnRc.nil w6,FPre.start L,Nat.le_refl _⟩
    case round =>
     obtain ⟨j,hh,hj,rfl,rfl,HR⟩:=hrel
     rename World=>wr2
     obtain ⟨F,O,hFP,hhn⟩:=HR.out;have HFP:=hide hFP;have Hhn:=hide hhn;clear hFP hhn HR;by_cases hjl:j < m
     ·have hjli:(j:Int) < (m:Int):=by omega
      have hTl:=Hm.out
      have hjb:j < 2199023255552:=by have:=Hmn.out;omega
      obtain ⟨ad6,ha6,hc6⟩:=(HT6.out.below O.below).2 j hjl;subst ha6;obtain ⟨s,Hs⟩:∃ s:ByteArray,Hid (s=⟨(T.getD j []).toArray⟩):=⟨_,rfl⟩
      have hes:encStr (T.getD j []) = .string s:=by rw [Hs.out]
      rw [hes] at hc6
      have hmemT:T.getD j []∈T:=by rw [List.getD_eq_getElem?_getD,List.getElem?_eq_getElem (by omega)];exact List.getElem_mem _
      have hss:s.size <= maxLen:=by rw [Hs.out];have:=HTL.out _ hmemT;simpa [ByteArray.size] using this
      have HTs:Hid (T.take (j+1)=T.take j++[T.getD j []]):=by
       show _=_
       rw [List.take_succ_eq_append_getElem (by omega)];simp [List.getD,show j < T.length by omega]
      have Hjl:=hide hjl;have M2:=HM6.out.later O.below
      have hsrc:∀ p∈ofS L s,PSrc wr2 p:=fun p hp=>by
       obtain ⟨r,hr,-,rfl⟩:=ofS_mem.1 hp;exact ((HS0.out.below M2.below).ok r hr).1
      have HP2:Hid (PRow wr2 (f s).o (f s).n (ofS L s)):=prow_of (M2.rows s) hsrc
      have hn2:(f s).n <= 8796093022207:=by
       have h:=(M2.rows s).1;rw [pvs_length] at h;have h1:=ofS_len L s;have h2:=HL.out;omega
      have lk:(Instr.lookup 170 (.map (some b)) (.string s) false).run Tryz.prog wr2 = .ok (.slice (f s).o (f s).n (f s).c) wr2:=by
       have h:=M2.look keyS2 Tryz.underlying9 Tryz.underlying170 (zeroPs wr2) s hss;rwa [Hb.out] at h
      have HOo:=hide O;clear M2 hsrc hmemT hjl hj O hes;go_wp2_with fail;clear lk hc6;refine (pastJoin_any (f s).o (f s).n (f s).c (ofS L s) _ HP2.out (HW.out s) hn2).mono ?_;rintro x w7 ⟨p1,rfl,S1,N1,b7,C1⟩;obtain ⟨g7,hg7⟩:∃ g7,w7.heap.size=g7:=⟨_,rfl⟩;obtain ⟨w8,hst8,X8,b8,s8⟩:=madeP w7 p1 g7 hg7;replace hst8:(stP (.pointer (some ⟨g7,0,none⟩)) (PV p1)).run Tryz.prog (w7.alloc (.cells #[.slice none 0 0,.slice none 0 0] 26)) = .ok () w8:=hst8;have b78:=b7.trans (b8.mono b7.size);have hrowlt:∀ g,(HsV hh).ownBlock=some g -> g < wr2.heap.size:=fun g hg=>(HOo.out.own.lt g hg).2;have hfar:∀ q:Pv,PNew wr2.heap.size q -> FarH hh q:=fun q hq g hg=>PFar.new hq (hrowlt g hg)
      have hg7l:wr2.heap.size <= g7:=by have:=b7.size;omega
      have HRW:Hid ((HsV hh).ownBlock≠some g7/\(∀ r∈F,PFar r.p g7)/\w6.heap.size <= g7):=⟨fun e=>by have:=hrowlt g7 e;omega,fun r hr=>PFar.old (HOo.out.ok r hr).1.1 hg7l,Nat.le_trans HOo.out.below.size hg7l⟩;have HO8:=hide (HOo.out.later b78);have HC1:Hid (CanonOf (runsOf (ofS L s)) p1.P):=C1;have HF1:=hide (hfar p1 N1);have HX8:Hid (PBox w8 g7 p1/\PSrc w8 p1):=⟨X8,S1.below b8⟩;have HA8:Hid (PBox w8 g3 pa/\PSrc w8 pa):=⟨(HA6.out.1.below HOo.out.below).below b78,(HA6.out.2.1.below HOo.out.below).below b78⟩;have Hg:Hid (wr2.heap.size <= g7/\g7 < w8.heap.size):=⟨hg7l,by omega⟩;clear S1 N1 b7 b8 b78 C1 X8 hrowlt hg7l s8 HP2;by_cases h0:s.size=0
      ·have e0:=K.empty_yes s h0
       obtain rfl:s=nilF:=by obtain ⟨d⟩:=s;have:d=#[]:=Array.eq_empty_of_size_eq_zero h0;rw [this];rfl
       have HB9:Hid (PBox w8 g7 p1/\PSrc w8 p1/\FarH hh p1/\IsP (FoldM L nilF) p1.P):=⟨HX8.out.1,HX8.out.2,HF1.out,fold_nil HC1.out⟩;have HO9:=HO8
       have l9:(ldP (.pointer (some ⟨g7,0,none⟩))).run Tryz.prog w8 = .ok (PV p1) w8:=run_ldP HB9.out.1.at
       go_wp2_with fail;clear l9;refine (pastEmpty_any p1 _ HB9.out.2.1).mono ?_;rintro x wa ⟨em,rfl,hem,ba⟩;have HOa:=hide (HO9.out.later ba);have HBa:Hid (PBox wa g7 p1/\PSrc wa p1/\FarH hh p1/\IsP (FoldM L nilF) p1.P):=⟨HB9.out.1.below ba,HB9.out.2.1.below ba,HB9.out.2.2.1,HB9.out.2.2.2⟩;clear ba HO9 HB9
       cases em with
       | true =>
        have HNx:Hid (FPre L (T.take (j+1)) F):=by
         show FPre _ _ _
         rw [HTs.out];refine HFP.out.skip _ (fun r hr n hm=>?_);rw [<- Hs.out] at hm;obtain ⟨C,hC,hI⟩:=HBa.out.2.2.2;exact hem.1 rfl r hr n ((canon_mem hC r hr n).2 ((hI r hr n).2 hm))
        clear hem;go_wp2_with fail;go_roundw
        case rel=>exact ⟨j+1,hh,Hjl.out,rfl,by simp,⟨F,HOa.out,HNx.out,by have:=Hhn.out;omega⟩⟩
        case measure=>simp [intOf];have:=Hjl.out;omega
       | false =>
        have HNx:Hid (FPre L (T.take (j+1)) (F++[⟨nilF,p1⟩])):=by
         show FPre _ _ _
         rw [HTs.out];exact HFP.out.add _ ⟨nilF,p1⟩ Hs.out HBa.out.2.2.2 (fun h=>by have:=hem.2 h;cases this)
        obtain ⟨gb,cb,wb,hab,Ob,-⟩:=HOa.out.app ⟨nilF,p1⟩ ⟨HBa.out.2.1,hss⟩ HBa.out.2.2.1 (by have:=Hhn.out;have:=Hjl.out;have:=Hmn.out;omega)
        have la:(ldP (.pointer (some ⟨g7,0,none⟩))).run Tryz.prog wa = .ok (.agg #[.slice p1.vo p1.vn p1.vc,.slice p1.co p1.cn p1.cc]) wa:=run_ldP HBa.out.1.at
        have HAb:Hid ((Builtin.append_ #[27,27] 27 #[.slice hh.o hh.n hh.c,.slice (some ⟨wa.heap.size,0,none⟩) 1 1]).run Tryz.prog (wa.alloc (.cells #[.string nilF,.slice p1.vo p1.vn p1.vc,.slice p1.co p1.cn p1.cc] 80)) = .ok (.slice (some ⟨gb,0,none⟩) (hh.n+1) cb) wb):=hab;have HOb:=hide Ob;clear hem hab Ob;go_wp2_with (at_builtin;refine seq_appM rfl (.tmp 60) (.tmp 64) rfl rfl rfl HAb.out ?_);go_roundw
        case rel=>exact ⟨j+1,⟨some ⟨gb,0,none⟩,hh.n+1,cb⟩,Hjl.out,rfl,by simp,⟨_,HOb.out,HNx.out,by show hh.n+1 <= j+1;have:=Hhn.out;omega⟩⟩
        case measure=>simp [intOf];have:=Hjl.out;omega
      ·have e0:=K.empty_no s h0;have hsn:s≠nilF:=fun e=>h0 (by rw [e];rfl)
       have l8:=run_ldP HX8.out.1.at
       have l3:=run_ldP HA8.out.1.at
       go_wp2_with fail;clear hst8 l8 l3;refine (pastMinus_any p1 pa _ HX8.out.2 HA8.out.2).mono ?_;rintro x w9 ⟨p2,rfl,S2,N2,b9,hM⟩;have t9:=run_stP (p':=p2) (HX8.out.1.below b9);have O9:=(HO8.out.later b9).setOther g7 (PC p2) HRW.out.2.2 HRW.out.1 HRW.out.2.1;have P9:PSrc (w9.setRow g7 (PC p2)) p2:=psrc_keep (g:=some g7) S2 (fun k e=>by obtain rfl:=Option.some.inj e;exact PFar.new N2 Hg.out.2) (fun q _ hq=>setRow_other _ _ _ _ (fun e=>hq (by rw [e])));have X9:PBox (w9.setRow g7 (PC p2)) g7 p2:=setRow_heap _ _ _ _ _ _ (HX8.out.1.below b9);obtain ⟨wz,hwz⟩:∃ wz,w9.setRow g7 (PC p2)=wz:=⟨_,rfl⟩;rw [hwz] at t9 O9 P9 X9;have HB9:Hid (PBox wz g7 p2/\PSrc wz p2/\FarH hh p2/\IsP (FoldM L s) p2.P):=⟨X9,P9,hfar p2 (N2.mono (by have:=Hg.out;omega)),fold_sku hsn HC1.out HA6.out.2.2 hM⟩;have HO9:=hide O9;clear S2 N2 b9 hM O9 P9 X9 hwz hfar
       have l9:(ldP (.pointer (some ⟨g7,0,none⟩))).run Tryz.prog wz = .ok (PV p2) wz:=run_ldP HB9.out.1.at
       go_wp2_with fail;clear l9;refine (pastEmpty_any p2 _ HB9.out.2.1).mono ?_;rintro x wa ⟨em,rfl,hem,ba⟩;have HOa:=hide (HO9.out.later ba);have HBa:Hid (PBox wa g7 p2/\PSrc wa p2/\FarH hh p2/\IsP (FoldM L s) p2.P):=⟨HB9.out.1.below ba,HB9.out.2.1.below ba,HB9.out.2.2.1,HB9.out.2.2.2⟩;clear ba HO9 HB9
       cases em with
       | true =>
        have HNx:Hid (FPre L (T.take (j+1)) F):=by
         show FPre _ _ _
         rw [HTs.out];refine HFP.out.skip _ (fun r hr n hm=>?_);rw [<- Hs.out] at hm;obtain ⟨C,hC,hI⟩:=HBa.out.2.2.2;exact hem.1 rfl r hr n ((canon_mem hC r hr n).2 ((hI r hr n).2 hm))
        clear hem;go_wp2_with fail;go_roundw
        case rel=>exact ⟨j+1,hh,Hjl.out,rfl,by simp,⟨F,HOa.out,HNx.out,by have:=Hhn.out;omega⟩⟩
        case measure=>simp [intOf];have:=Hjl.out;omega
       | false =>
        have HNx:Hid (FPre L (T.take (j+1)) (F++[⟨s,p2⟩])):=by
         show FPre _ _ _
         rw [HTs.out];exact HFP.out.add _ ⟨s,p2⟩ Hs.out HBa.out.2.2.2 (fun h=>by have:=hem.2 h;cases this)
        obtain ⟨gb,cb,wb,hab,Ob,-⟩:=HOa.out.app ⟨s,p2⟩ ⟨HBa.out.2.1,hss⟩ HBa.out.2.2.1 (by have:=Hhn.out;have:=Hjl.out;have:=Hmn.out;omega)
        have la:(ldP (.pointer (some ⟨g7,0,none⟩))).run Tryz.prog wa = .ok (.agg #[.slice p2.vo p2.vn p2.vc,.slice p2.co p2.cn p2.cc]) wa:=run_ldP HBa.out.1.at
        have HAb:Hid ((Builtin.append_ #[27,27] 27 #[.slice hh.o hh.n hh.c,.slice (some ⟨wa.heap.size,0,none⟩) 1 1]).run Tryz.prog (wa.alloc (.cells #[.string s,.slice p2.vo p2.vn p2.vc,.slice p2.co p2.cn p2.cc] 80)) = .ok (.slice (some ⟨gb,0,none⟩) (hh.n+1) cb) wb):=hab;have HOb:=hide Ob;clear hem hab Ob;go_wp2_with (at_builtin;refine seq_appM rfl (.tmp 60) (.tmp 64) rfl rfl rfl HAb.out ?_);go_roundw
        case rel=>exact ⟨j+1,⟨some ⟨gb,0,none⟩,hh.n+1,cb⟩,Hjl.out,rfl,by simp,⟨_,HOb.out,HNx.out,by show hh.n+1 <= j+1;have:=Hhn.out;omega⟩⟩
        case measure=>simp [intOf];have:=Hjl.out;omega
     ·obtain rfl:j=m:=by omega
      have HFn:Hid (FoA w wr2 (.returned (.tuple #[.slice hh.o hh.n hh.c,.int .i64 0])) L k):=by
       have hT:T.take j=T:=List.take_of_length_le (by have:=Hm.out;omega);have hF:=HFP.out;rw [hT] at hF;have b06:Below w.heap.size w w6:=HB0.out.trans (HM6.out.below.mono HB0.out.size);refine .inl ⟨HO.out,hh,F,rfl,O.src (by have:=Hhn.out;have:=Hmn.out;omega),b06.trans (O.below.mono b06.size),fun ad e=>?_,hF.done HTP.out HKT.out⟩;have:=(O.own.lt ad.block (by show (Value.slice hh.o hh.n hh.c).ownBlock=some ad.block;rw [e];rfl)).1;exact Nat.le_trans b06.size this
      clear O;go_wp2_with fail;go_ret2;exact HFn.out
end
end Go.Proofs.YtaphmhbmhcahaaaGreat
