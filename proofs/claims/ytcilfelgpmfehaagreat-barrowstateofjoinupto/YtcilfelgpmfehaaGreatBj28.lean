/- PPx PMm -/
import Derived.Test.YtcilfelgpmfehaaGreatBj27
import Derived.Deep.RegionHeld3
set_option maxRecDepth 100000
set_option maxHeartbeats 4000000
namespace Go.Proofs.YtcilfelgpmfehaaGreat
section
open Go.RowKit
attribute [local go_sem ↓] zl zk kP kN
attribute [local go_sem] xO q7 zw zf zW zh qs
attribute [local go_sem] yw
structure PwI (wk wr:World) (g g':Nat) (F G:Nat -> Sl) (A B:Nat -> List Rn) (Rel:List Rn -> List Rn -> List Rn -> Prop) (k:Nat):Prop where
 s:cw wr g F
 y:cw wr g' G
 new:∀ r,r < k -> aU wr (F r).ao (F r).n (F r).cap (F r).L/\Rel (A r) (B r) (F r).L
 old:∀ r,k <= r -> r < 16 -> aU wr (F r).ao (F r).n (F r).cap (F r).L/\(F r).L=A r
 gs:∀ r,r < 16 -> aU wr (G r).ao (G r).n (G r).cap (G r).L/\(G r).L=B r
 f1:dF F g
 f2:dF G g
 b:Below wk.heap.size wk wr
 g1:wk.heap.size <= g
 gg:g≠g'
theorem PwI.step {wk wr w7:World} {g g':Nat} {F G:Nat -> Sl} {A B:Nat -> List Rn} {Rel:List Rn -> List Rn -> List Rn -> Prop} {k:Nat} (I:PwI wk wr g g' F G A B Rel k) (hk:k < 16) (hb:Below wr.heap.size wr w7) {a1:Option Addr} {n1 c1:Nat} {L:List Rn} (hS:aU w7 a1 n1 c1 L) (hfr:∀ ad,a1=some ad -> wr.heap.size <= ad.block) (hR:Rel (A k) (B k) L) :
  PwI wk (w7.setCell ⟨g,k,none⟩ (.slice a1 n1 c1)) g g' (dX F k ⟨a1,n1,c1,L⟩) G A B Rel (k+1):=by
 have aq:=I.s.lt
 have other:∀ q,q≠g -> (w7.setCell ⟨g,k,none⟩ (.slice a1 n1 c1)).heap[q]? = w7.heap[q]?:=fun q hq=>by
  simp [World.setCell,Array.getElem?_modify,show ¬ g=q from fun e=>hq e.symm]
 have far:dF (dX F k ⟨a1,n1,c1,L⟩) g:=fun r hr ad e=>by
  by_cases h:r=k
  ·subst h;rw [xt] at e;have:=hfr ad e;omega
  ·rw [qv _ _ _ _ h] at e;exact I.f1 r hr ad e
 refine ⟨(I.s.below hb).set k _ _ rfl,(other _ (fun e=>I.gg e.symm)).trans (I.y.below hb),fun r hr=>?_,fun r h1 h2=>?_,fun r hr=>⟨je ((I.gs r hr).1.below hb) (fun ad e=>other _ (I.f2 r hr ad e)),(I.gs r hr).2⟩,far,I.f2,V.xe (I.b.trans (hb.mono I.b.size)) I.g1,I.g1,I.gg⟩
 ·by_cases h:r=k
  ·subst h;rw [xt];exact ⟨je hS (fun ad e=>other _ (fun e'=>by have:=hfr ad e;omega)),hR⟩
  ·rw [qv _ _ _ _ h];have:=I.new r (by omega);exact ⟨je (this.1.below hb) (fun ad e=>other _ (I.f1 r (by omega) ad e)),this.2⟩
 ·rw [qv _ _ _ _ (by omega)];have:=I.old r (by omega) h2;exact ⟨je (this.1.below hb) (fun ad e=>other _ (I.f1 r h2 ad e)),this.2⟩
def PwP (w6:World) (Rel:List Rn -> List Rn -> List Rn -> Prop) (A B:List Rn) (W:World) (v:Value):Prop:=∃ a1 n1 c1 L,v = .slice a1 n1 c1/\aU W a1 n1 c1 L/\Below w6.heap.size w6 W/\(∀ ad,a1=some ad -> w6.heap.size <= ad.block)/\Rel A B L
structure PwR (w6:World) (g g' k:Nat) (f sx sy:Value) (P:World -> Value -> Prop) (l:Array Bool) (W:World) (v19 v20 v21 v22 v23 v24 v25 v26 v27 v28:Value):Prop where
 sz:l.size=11
 h0:l.getD 0 false=true -> v19 = .int .i64 (k:Int)
 h1:l.getD 1 false=true -> v20=f
 h2:l.getD 2 false=true -> v21 = .int .i64 (k:Int)
 h3:l.getD 3 false=true -> v22=(.pointer (some ⟨g,k,none⟩))
 h4:l.getD 4 false=true -> v23=sx
 h5:l.getD 5 false=true -> v24 = .int .i64 (k:Int)
 h6:l.getD 6 false=true -> v25=(.pointer (some ⟨g',k,none⟩))
 h7:l.getD 7 false=true -> v26=sy
 h9:l.getD 9 false=true -> v28=(.pointer (some ⟨g,k,none⟩))
 h8a:l.getD 8 false=false -> W=w6.drew
 h8b:l.getD 8 false=true -> l.getD 10 false=false -> P W v27
 h10:l.getD 10 false=true -> ∃ W0,P W0 v27/\W=W0.setCell ⟨g,k,none⟩ v27
 c8:l.getD 8 false=true -> l.getD 1 false=true/\l.getD 4 false=true/\l.getD 7 false=true
 c10:l.getD 10 false=true -> l.getD 8 false=true/\l.getD 9 false=true
section
variable {w6 : World} {g g' k : Nat} {f sx sy : Value} {P : World -> Value -> Prop} {l : Array Bool} {W : World} {v19 v20 v21 v22 v23 v24 v25 v26 v27 v28 : Value}
theorem PwR.s0 (T:PwR w6 g g' k f sx sy P l W v19 v20 v21 v22 v23 v24 v25 v26 v27 v28):PwR w6 g g' k f sx sy P (l.setIfInBounds 0 true) W (.int .i64 (k:Int)) v20 v21 v22 v23 v24 v25 v26 v27 v28:=by
 refine ⟨by simpa using T.sz,?_,?_,?_,?_,?_,?_,?_,?_,?_,?_,?_,?_,?_,?_⟩ <;> simp only [zU (show 0 < l.size by rw [T.sz];decide),zb (show (0:Nat)≠1 by decide),zb (show (0:Nat)≠2 by decide),zb (show (0:Nat)≠3 by decide),zb (show (0:Nat)≠4 by decide),zb (show (0:Nat)≠5 by decide),zb (show (0:Nat)≠6 by decide),zb (show (0:Nat)≠7 by decide),zb (show (0:Nat)≠8 by decide),zb (show (0:Nat)≠9 by decide),zb (show (0:Nat)≠10 by decide)]
 ·exact fun _=>(by first | trivial | rfl)
 ·exact T.h1
 ·exact T.h2
 ·exact T.h3
 ·exact T.h4
 ·exact T.h5
 ·exact T.h6
 ·exact T.h7
 ·exact T.h9
 ·exact T.h8a
 ·exact T.h8b
 ·exact T.h10
 ·exact fun h=>by have:=T.c8 h;simp [this]
 ·exact fun h=>by have:=T.c10 h;simp [this]
theorem PwR.s1 (T:PwR w6 g g' k f sx sy P l W v19 v20 v21 v22 v23 v24 v25 v26 v27 v28):PwR w6 g g' k f sx sy P (l.setIfInBounds 1 true) W v19 (f) v21 v22 v23 v24 v25 v26 v27 v28:=by
 refine ⟨by simpa using T.sz,?_,?_,?_,?_,?_,?_,?_,?_,?_,?_,?_,?_,?_,?_⟩ <;> simp only [zU (show 1 < l.size by rw [T.sz];decide),zb (show (1:Nat)≠0 by decide),zb (show (1:Nat)≠2 by decide),zb (show (1:Nat)≠3 by decide),zb (show (1:Nat)≠4 by decide),zb (show (1:Nat)≠5 by decide),zb (show (1:Nat)≠6 by decide),zb (show (1:Nat)≠7 by decide),zb (show (1:Nat)≠8 by decide),zb (show (1:Nat)≠9 by decide),zb (show (1:Nat)≠10 by decide)]
 ·exact T.h0
 ·exact fun _=>(by first | trivial | rfl)
 ·exact T.h2
 ·exact T.h3
 ·exact T.h4
 ·exact T.h5
 ·exact T.h6
 ·exact T.h7
 ·exact T.h9
 ·exact T.h8a
 ·exact T.h8b
 ·exact T.h10
 ·exact fun h=>by have:=T.c8 h;simp [this]
 ·exact fun h=>by have:=T.c10 h;simp [this]
theorem PwR.s2 (T:PwR w6 g g' k f sx sy P l W v19 v20 v21 v22 v23 v24 v25 v26 v27 v28):PwR w6 g g' k f sx sy P (l.setIfInBounds 2 true) W v19 v20 (.int .i64 (k:Int)) v22 v23 v24 v25 v26 v27 v28:=by
 refine ⟨by simpa using T.sz,?_,?_,?_,?_,?_,?_,?_,?_,?_,?_,?_,?_,?_,?_⟩ <;> simp only [zU (show 2 < l.size by rw [T.sz];decide),zb (show (2:Nat)≠0 by decide),zb (show (2:Nat)≠1 by decide),zb (show (2:Nat)≠3 by decide),zb (show (2:Nat)≠4 by decide),zb (show (2:Nat)≠5 by decide),zb (show (2:Nat)≠6 by decide),zb (show (2:Nat)≠7 by decide),zb (show (2:Nat)≠8 by decide),zb (show (2:Nat)≠9 by decide),zb (show (2:Nat)≠10 by decide)]
 ·exact T.h0
 ·exact T.h1
 ·exact fun _=>(by first | trivial | rfl)
 ·exact T.h3
 ·exact T.h4
 ·exact T.h5
 ·exact T.h6
 ·exact T.h7
 ·exact T.h9
 ·exact T.h8a
 ·exact T.h8b
 ·exact T.h10
 ·exact fun h=>by have:=T.c8 h;simp [this]
 ·exact fun h=>by have:=T.c10 h;simp [this]
theorem PwR.s3 (T:PwR w6 g g' k f sx sy P l W v19 v20 v21 v22 v23 v24 v25 v26 v27 v28):PwR w6 g g' k f sx sy P (l.setIfInBounds 3 true) W v19 v20 v21 ((.pointer (some ⟨g,k,none⟩))) v23 v24 v25 v26 v27 v28:=by
 refine ⟨by simpa using T.sz,?_,?_,?_,?_,?_,?_,?_,?_,?_,?_,?_,?_,?_,?_⟩ <;> simp only [zU (show 3 < l.size by rw [T.sz];decide),zb (show (3:Nat)≠0 by decide),zb (show (3:Nat)≠1 by decide),zb (show (3:Nat)≠2 by decide),zb (show (3:Nat)≠4 by decide),zb (show (3:Nat)≠5 by decide),zb (show (3:Nat)≠6 by decide),zb (show (3:Nat)≠7 by decide),zb (show (3:Nat)≠8 by decide),zb (show (3:Nat)≠9 by decide),zb (show (3:Nat)≠10 by decide)]
 ·exact T.h0
 ·exact T.h1
 ·exact T.h2
 ·exact fun _=>(by first | trivial | rfl)
 ·exact T.h4
 ·exact T.h5
 ·exact T.h6
 ·exact T.h7
 ·exact T.h9
 ·exact T.h8a
 ·exact T.h8b
 ·exact T.h10
 ·exact fun h=>by have:=T.c8 h;simp [this]
 ·exact fun h=>by have:=T.c10 h;simp [this]
theorem PwR.s4 (T:PwR w6 g g' k f sx sy P l W v19 v20 v21 v22 v23 v24 v25 v26 v27 v28):PwR w6 g g' k f sx sy P (l.setIfInBounds 4 true) W v19 v20 v21 v22 (sx) v24 v25 v26 v27 v28:=by
 refine ⟨by simpa using T.sz,?_,?_,?_,?_,?_,?_,?_,?_,?_,?_,?_,?_,?_,?_⟩ <;> simp only [zU (show 4 < l.size by rw [T.sz];decide),zb (show (4:Nat)≠0 by decide),zb (show (4:Nat)≠1 by decide),zb (show (4:Nat)≠2 by decide),zb (show (4:Nat)≠3 by decide),zb (show (4:Nat)≠5 by decide),zb (show (4:Nat)≠6 by decide),zb (show (4:Nat)≠7 by decide),zb (show (4:Nat)≠8 by decide),zb (show (4:Nat)≠9 by decide),zb (show (4:Nat)≠10 by decide)]
 ·exact T.h0
 ·exact T.h1
 ·exact T.h2
 ·exact T.h3
 ·exact fun _=>(by first | trivial | rfl)
 ·exact T.h5
 ·exact T.h6
 ·exact T.h7
 ·exact T.h9
 ·exact T.h8a
 ·exact T.h8b
 ·exact T.h10
 ·exact fun h=>by have:=T.c8 h;simp [this]
 ·exact fun h=>by have:=T.c10 h;simp [this]
theorem PwR.s5 (T:PwR w6 g g' k f sx sy P l W v19 v20 v21 v22 v23 v24 v25 v26 v27 v28):PwR w6 g g' k f sx sy P (l.setIfInBounds 5 true) W v19 v20 v21 v22 v23 (.int .i64 (k:Int)) v25 v26 v27 v28:=by
 refine ⟨by simpa using T.sz,?_,?_,?_,?_,?_,?_,?_,?_,?_,?_,?_,?_,?_,?_⟩ <;> simp only [zU (show 5 < l.size by rw [T.sz];decide),zb (show (5:Nat)≠0 by decide),zb (show (5:Nat)≠1 by decide),zb (show (5:Nat)≠2 by decide),zb (show (5:Nat)≠3 by decide),zb (show (5:Nat)≠4 by decide),zb (show (5:Nat)≠6 by decide),zb (show (5:Nat)≠7 by decide),zb (show (5:Nat)≠8 by decide),zb (show (5:Nat)≠9 by decide),zb (show (5:Nat)≠10 by decide)]
 ·exact T.h0
 ·exact T.h1
 ·exact T.h2
 ·exact T.h3
 ·exact T.h4
 ·exact fun _=>(by first | trivial | rfl)
 ·exact T.h6
 ·exact T.h7
 ·exact T.h9
 ·exact T.h8a
 ·exact T.h8b
 ·exact T.h10
 ·exact fun h=>by have:=T.c8 h;simp [this]
 ·exact fun h=>by have:=T.c10 h;simp [this]
theorem PwR.s6 (T:PwR w6 g g' k f sx sy P l W v19 v20 v21 v22 v23 v24 v25 v26 v27 v28):PwR w6 g g' k f sx sy P (l.setIfInBounds 6 true) W v19 v20 v21 v22 v23 v24 ((.pointer (some ⟨g',k,none⟩))) v26 v27 v28:=by
 refine ⟨by simpa using T.sz,?_,?_,?_,?_,?_,?_,?_,?_,?_,?_,?_,?_,?_,?_⟩ <;> simp only [zU (show 6 < l.size by rw [T.sz];decide),zb (show (6:Nat)≠0 by decide),zb (show (6:Nat)≠1 by decide),zb (show (6:Nat)≠2 by decide),zb (show (6:Nat)≠3 by decide),zb (show (6:Nat)≠4 by decide),zb (show (6:Nat)≠5 by decide),zb (show (6:Nat)≠7 by decide),zb (show (6:Nat)≠8 by decide),zb (show (6:Nat)≠9 by decide),zb (show (6:Nat)≠10 by decide)]
 ·exact T.h0
 ·exact T.h1
 ·exact T.h2
 ·exact T.h3
 ·exact T.h4
 ·exact T.h5
 ·exact fun _=>(by first | trivial | rfl)
 ·exact T.h7
 ·exact T.h9
 ·exact T.h8a
 ·exact T.h8b
 ·exact T.h10
 ·exact fun h=>by have:=T.c8 h;simp [this]
 ·exact fun h=>by have:=T.c10 h;simp [this]
theorem PwR.s7 (T:PwR w6 g g' k f sx sy P l W v19 v20 v21 v22 v23 v24 v25 v26 v27 v28):PwR w6 g g' k f sx sy P (l.setIfInBounds 7 true) W v19 v20 v21 v22 v23 v24 v25 (sy) v27 v28:=by
 refine ⟨by simpa using T.sz,?_,?_,?_,?_,?_,?_,?_,?_,?_,?_,?_,?_,?_,?_⟩ <;> simp only [zU (show 7 < l.size by rw [T.sz];decide),zb (show (7:Nat)≠0 by decide),zb (show (7:Nat)≠1 by decide),zb (show (7:Nat)≠2 by decide),zb (show (7:Nat)≠3 by decide),zb (show (7:Nat)≠4 by decide),zb (show (7:Nat)≠5 by decide),zb (show (7:Nat)≠6 by decide),zb (show (7:Nat)≠8 by decide),zb (show (7:Nat)≠9 by decide),zb (show (7:Nat)≠10 by decide)]
 ·exact T.h0
 ·exact T.h1
 ·exact T.h2
 ·exact T.h3
 ·exact T.h4
 ·exact T.h5
 ·exact T.h6
 ·exact fun _=>(by first | trivial | rfl)
 ·exact T.h9
 ·exact T.h8a
 ·exact T.h8b
 ·exact T.h10
 ·exact fun h=>by have:=T.c8 h;simp [this]
 ·exact fun h=>by have:=T.c10 h;simp [this]
theorem PwR.s9 (T:PwR w6 g g' k f sx sy P l W v19 v20 v21 v22 v23 v24 v25 v26 v27 v28):PwR w6 g g' k f sx sy P (l.setIfInBounds 9 true) W v19 v20 v21 v22 v23 v24 v25 v26 v27 ((.pointer (some ⟨g,k,none⟩))):=by
 refine ⟨by simpa using T.sz,?_,?_,?_,?_,?_,?_,?_,?_,?_,?_,?_,?_,?_,?_⟩ <;> simp only [zU (show 9 < l.size by rw [T.sz];decide),zb (show (9:Nat)≠0 by decide),zb (show (9:Nat)≠1 by decide),zb (show (9:Nat)≠2 by decide),zb (show (9:Nat)≠3 by decide),zb (show (9:Nat)≠4 by decide),zb (show (9:Nat)≠5 by decide),zb (show (9:Nat)≠6 by decide),zb (show (9:Nat)≠7 by decide),zb (show (9:Nat)≠8 by decide),zb (show (9:Nat)≠10 by decide)]
 ·exact T.h0
 ·exact T.h1
 ·exact T.h2
 ·exact T.h3
 ·exact T.h4
 ·exact T.h5
 ·exact T.h6
 ·exact T.h7
 ·exact fun _=>(by first | trivial | rfl)
 ·exact T.h8a
 ·exact T.h8b
 ·exact T.h10
 ·exact fun h=>by have:=T.c8 h;simp [this]
 ·exact fun h=>by have:=T.c10 h;simp [this]
theorem PwR.s8 (T:PwR w6 g g' k f sx sy P l W v19 v20 v21 v22 v23 v24 v25 v26 v27 v28) (d1:l.getD 1 false=true) (d4:l.getD 4 false=true) (d7:l.getD 7 false=true) (n10:l.getD 10 false=false) {W':World} {v:Value} (hP:P W' v):PwR w6 g g' k f sx sy P (l.setIfInBounds 8 true) W' v19 v20 v21 v22 v23 v24 v25 v26 v v28:=by
 refine ⟨by simpa using T.sz,?_,?_,?_,?_,?_,?_,?_,?_,?_,?_,?_,?_,?_,?_⟩ <;> simp only [zU (show 8 < l.size by rw [T.sz];decide),zb (show (8:Nat)≠0 by decide),zb (show (8:Nat)≠1 by decide),zb (show (8:Nat)≠2 by decide),zb (show (8:Nat)≠3 by decide),zb (show (8:Nat)≠4 by decide),zb (show (8:Nat)≠5 by decide),zb (show (8:Nat)≠6 by decide),zb (show (8:Nat)≠7 by decide),zb (show (8:Nat)≠9 by decide),zb (show (8:Nat)≠10 by decide)]
 ·exact T.h0
 ·exact T.h1
 ·exact T.h2
 ·exact T.h3
 ·exact T.h4
 ·exact T.h5
 ·exact T.h6
 ·exact T.h7
 ·exact T.h9
 ·exact fun h=>(by cases h)
 ·exact fun _ _=>hP
 ·exact fun h=>absurd h (by rw [n10];decide)
 ·exact fun _=>⟨d1,d4,d7⟩
 ·exact fun h=>absurd h (by rw [n10];decide)
theorem PwR.s10 (T:PwR w6 g g' k f sx sy P l W v19 v20 v21 v22 v23 v24 v25 v26 v27 v28) (d8:l.getD 8 false=true) (d9:l.getD 9 false=true) (n10:l.getD 10 false=false):PwR w6 g g' k f sx sy P (l.setIfInBounds 10 true) (W.setCell ⟨g,k,none⟩ v27) v19 v20 v21 v22 v23 v24 v25 v26 v27 v28:=by
 refine ⟨by simpa using T.sz,?_,?_,?_,?_,?_,?_,?_,?_,?_,?_,?_,?_,?_,?_⟩ <;> simp only [zU (show 10 < l.size by rw [T.sz];decide),zb (show (10:Nat)≠0 by decide),zb (show (10:Nat)≠1 by decide),zb (show (10:Nat)≠2 by decide),zb (show (10:Nat)≠3 by decide),zb (show (10:Nat)≠4 by decide),zb (show (10:Nat)≠5 by decide),zb (show (10:Nat)≠6 by decide),zb (show (10:Nat)≠7 by decide),zb (show (10:Nat)≠8 by decide),zb (show (10:Nat)≠9 by decide)]
 ·exact T.h0
 ·exact T.h1
 ·exact T.h2
 ·exact T.h3
 ·exact T.h4
 ·exact T.h5
 ·exact T.h6
 ·exact T.h7
 ·exact T.h9
 ·exact fun h=>absurd h (by rw [d8];decide)
 ·exact fun _ h=>(by cases h)
 ·exact fun _=>⟨W,T.h8b d8 n10,rfl⟩
 ·exact T.c8
 ·exact fun _=>⟨d8,d9⟩
theorem PwR.start (w6:World) (g g' k:Nat) (f sx sy:Value) (P:World -> Value -> Prop) (v19 v20 v21 v22 v23 v24 v25 v26 v27 v28:Value):PwR w6 g g' k f sx sy P (Array.replicate 11 false) w6.drew v19 v20 v21 v22 v23 v24 v25 v26 v27 v28:=by
 refine ⟨by simp,?_,?_,?_,?_,?_,?_,?_,?_,?_,?_,?_,?_,?_,?_⟩ <;> simp only [vM]
 ·intro h;cases h
 ·intro h;cases h
 ·intro h;cases h
 ·intro h;cases h
 ·intro h;cases h
 ·intro h;cases h
 ·intro h;cases h
 ·intro h;cases h
 ·intro h;cases h
 ·exact fun _=>(by first | trivial | rfl)
 ·intro h;cases h
 ·intro h;cases h
 ·intro h;cases h
 ·intro h;cases h
end
theorem bW (a b:Pv) (w:World) (hA:ak w a) (hB:ak w b) :
  Calls Tryz.prog 101 #[PV a,PV b,.func (.func 102) #[] #[]] w fun e w'=>∃ p:Pv,e = .returned (PV p)/\ak w' p/\de w.heap.size p/\Below w.heap.size w w'/\∃ C:Nat -> List Rn,(∀ r,r < 16 -> dD (aa a.P r) (aa b.P r) (C r))/\ae C p.P:=by
 have b1:=ze w (.cells (PC a) 26);have b2:=ze (w.alloc (.cells (PC a) 26)) (.cells (PC b) 26);have p2:=zq (w.alloc (.cells (PC a) 26)) b;rw [World.size_alloc] at p2;have b3:=ze ((w.alloc (.cells (PC a) 26)).alloc (.cells (PC b) 26)) (.cells (PC pv0) 26);have p3:=zq ((w.alloc (.cells (PC a) 26)).alloc (.cells (PC b) 26)) pv0;simp only [World.size_alloc] at p3;have nP:=hide (((zq w a).below b2).below b3);have me:=hide (p2.below b3);have CI:=hide p3;have az:=hide (b1.trans ((b2.trans (b3.mono b2.size)).mono b1.size));have Fs:=hide (wC hA);have G1:=hide (wC hB);have iD:=hide (hA.below az.out);have gk:=hide (hB.below az.out)
 have uy:Hid ((((w.alloc (.cells (PC a) 26)).alloc (.cells (PC b) 26)).alloc (.cells (PC pv0) 26)).heap.size=w.heap.size+3):=by show _=_;simp
 clear hA hB b1 b2 p2 b3 p3;obtain ⟨wk,ur⟩:∃ wk,Hid ((((w.alloc (.cells (PC a) 26)).alloc (.cells (PC b) 26)).alloc (.cells (PC pv0) 26))=wk):=⟨_,rfl⟩;rw [ur.out] at nP me az iD gk uy CI;go_enter Tryz.func101,Tryz.ntmps101;go_wp2_with fail;rw [ur.out];clear ur;refine qE (by kernel_rfl) (fun l x W=>∃ va xa ca vb xb cb ba bb,x={ tmps:=#[PV a,PV b,.func (.func 102) #[] #[],ptr w.heap.size,ptr (w.heap.size+1),undef,ptr (w.heap.size+1+1),ba,bb,undef,va,xa,ca,vb,xb,cb,undef,undef,undef,undef,undef,undef,undef,undef,undef,undef,undef,undef,undef,undef,undef,undef],defers:=[] }/\cH wk a b l W va xa ca vb xb cb ba bb) ⟨undef,undef,undef,undef,undef,undef,undef,undef,rfl,cH.start wk a b _ _ _ _ _ _ _ _⟩ ?_ ?_ ?_
 ·rintro l x W ⟨va,xa,ca,vb,xb,cb,ba,bb,rfl,T⟩;exact T.sz
 ·rintro l x W ⟨va,xa,ca,vb,xb,cb,ba,bb,rfl,T⟩ i hi;obtain ⟨cK,cL,aK⟩:=xH hi;have aS:=kE cL
  have hc:i=0∨i=1∨i=2∨i=3∨i=4∨i=5∨i=6∨i=7∨i=8∨i=9:=by have h:i < 10:=cK;omega
  have HT:=hide T;rcases hc with rfl | rfl | rfl | rfl | rfl | rfl | rfl | rfl | rfl | rfl
  ·have l1:=zi (nP.out.below T.b).at
   clear T;clear hi cK cL aK aS;refine wpOp_step (o:=⟨some 10,.load 26 (.tmp 3),26, "sets.go:22",#[],none⟩) rfl (fun K hK=>?_);go_simp;exact hK _ _ ⟨PV a,xa,ca,vb,xb,cb,ba,bb,rfl,HT.out.s0⟩
  ·have d0:=aK _ rfl { on:=0,ground:=Ground.data } (by simp) rfl;obtain rfl:=T.h0 d0;clear T d0;clear hi cK cL aK aS;refine wpOp_step (o:=⟨some 11,.buildSlice 110 1 #[(0,.tmp 10)],110, "sets.go:22",#[⟨0,.data⟩],none⟩) rfl (fun K hK=>?_);go_simp;exact hK _ _ ⟨_,.slice (some ⟨W.heap.size,0,none⟩) 1 1,ca,vb,xb,cb,ba,bb,rfl,HT.out.s1 (iD.out.below HT.out.b)⟩
  ·have d1:=aK _ rfl { on:=1,ground:=Ground.data } (by simp) rfl
   have n8:l.getD 8 false=false:=by
    cases e:l.getD 8 false with
    | false=>rfl
    | true=>have:=HT.out.c8 e;simp [aS] at this
   obtain ⟨g,rfl,R⟩:=T.h1 d1 n8;have HR:=hide R;have uQ:=hide n8;clear T d1 R n8;clear hi cK cL aK aS;refine wpOp_step (o:=⟨some 12,.call ⟨.value (.func 64),#[.tmp 11],#[110]⟩,113, "sets.go:22",#[⟨1,.data⟩],none⟩) rfl (fun K hK=>?_);go_simp;go_wp2_with fail;refine (xg _ 1 1 [a] _ HR.out Fs.out (by omega)).mono ?_;rintro e w' ⟨F,rfl,RF,bF⟩;exact hK _ _ ⟨va,_,SAv F,vb,xb,cb,ba,bb,rfl,HT.out.s2 uQ.out RF bF⟩
  ·have l1:=zi (me.out.below T.b).at
   clear T;clear hi cK cL aK aS;refine wpOp_step (o:=⟨some 13,.load 26 (.tmp 4),26, "sets.go:22",#[],none⟩) rfl (fun K hK=>?_);go_simp;exact hK _ _ ⟨va,xa,ca,PV b,xb,cb,ba,bb,rfl,HT.out.s3⟩
  ·have d3:=aK _ rfl { on:=3,ground:=Ground.data } (by simp) rfl;obtain rfl:=T.h3 d3;clear T d3;clear hi cK cL aK aS;refine wpOp_step (o:=⟨some 14,.buildSlice 110 1 #[(0,.tmp 13)],110, "sets.go:22",#[⟨3,.data⟩],none⟩) rfl (fun K hK=>?_);go_simp;exact hK _ _ ⟨va,xa,ca,_,.slice (some ⟨W.heap.size,0,none⟩) 1 1,cb,ba,bb,rfl,HT.out.s4 (gk.out.below HT.out.b)⟩
  ·have d4:=aK _ rfl { on:=4,ground:=Ground.data } (by simp) rfl;have d2:=aK _ rfl { on:=2,ground:=Ground.chain } (by simp) rfl
   have n8:l.getD 8 false=false:=by
    cases e:l.getD 8 false with
    | false=>rfl
    | true=>have:=HT.out.c8 e;simp [aS] at this
   have n9:l.getD 9 false=false:=by
    cases e:l.getD 9 false with
    | false=>rfl
    | true=>have:=HT.out.c9 e;simp [aS] at this
   obtain ⟨g,rfl,R⟩:=T.h4 d4 n8;have HR:=hide R;have ua:=hide n9;clear T d4 d2 R n8 n9;clear hi cK cL aK aS;refine wpOp_step (o:=⟨some 15,.call ⟨.value (.func 64),#[.tmp 14],#[110]⟩,113, "sets.go:22",#[⟨4,.data⟩,⟨2,.chain⟩],none⟩) rfl (fun K hK=>?_);go_simp;go_wp2_with fail;refine (xg _ 1 1 [b] _ HR.out G1.out (by omega)).mono ?_;rintro e w' ⟨F,rfl,RF,bF⟩;exact hK _ _ ⟨va,xa,ca,vb,_,SAv F,ba,bb,rfl,HT.out.s5 ua.out RF bF⟩
  ·have n8:l.getD 8 false=false:=by
    cases e:l.getD 8 false with
    | false=>rfl
    | true=>have:=HT.out.c8 e;simp [aS] at this
   have uQ:=hide n8;clear T n8;clear hi cK cL aK aS;refine wpOp_step (o:=⟨some 7,.alloc 113,0, "sets.go:22",#[],none⟩) rfl (fun K hK=>?_);go_simp;exact hK _ _ ⟨va,xa,ca,vb,xb,cb,ptr W.heap.size,bb,rfl,HT.out.s6 uQ.out⟩
  ·have n9:l.getD 9 false=false:=by
    cases e:l.getD 9 false with
    | false=>rfl
    | true=>have:=HT.out.c9 e;simp [aS] at this
   have ua:=hide n9;clear T n9;clear hi cK cL aK aS;refine wpOp_step (o:=⟨some 8,.alloc 113,0, "sets.go:22",#[],none⟩) rfl (fun K hK=>?_);go_simp;exact hK _ _ ⟨va,xa,ca,vb,xb,cb,ba,ptr W.heap.size,rfl,HT.out.s7 ua.out⟩
  ·have d2:=aK _ rfl { on:=2,ground:=Ground.data } (by simp) rfl;have d5:=aK _ rfl { on:=5,ground:=Ground.chain } (by simp) rfl;have d6:=aK _ rfl { on:=6,ground:=Ground.data } (by simp) rfl;have d7:=aK _ rfl { on:=7,ground:=Ground.phase } (by simp) rfl;obtain ⟨F,g,rfl,rfl,ST,T2⟩:=T.s8 d2 d5 d6 d7 aS;have s1:=vH (F':=F) ST;have i8:=hide T2;clear T T2 ST d2 d5 d6 d7;clear hi cK cL aK aS;refine wpOp_step (o:=⟨none,.store 113 (.tmp 7) (.tmp 12),0, "sets.go:22",#[⟨6,.data⟩,⟨2,.data⟩,⟨5,.chain⟩,⟨0,.phase⟩,⟨1,.phase⟩,⟨2,.phase⟩,⟨3,.textOnly .lateStores⟩,⟨4,.textOnly .lateStores⟩,⟨5,.textOnly .lateStoresUnsure⟩,⟨6,.phase⟩,⟨7,.phase⟩],none⟩) rfl (fun K hK=>?_);go_simp;exact hK _ _ ⟨va,xa,_,vb,xb,cb,_,bb,rfl,i8.out⟩
  ·have d5:=aK _ rfl { on:=5,ground:=Ground.data } (by simp) rfl;have d7:=aK _ rfl { on:=7,ground:=Ground.data } (by simp) rfl;have d8:=aK _ rfl { on:=8,ground:=Ground.chain } (by simp) rfl;obtain ⟨F,g,rfl,rfl,ST,T2⟩:=T.s9 d5 d7 d8 aS;have s1:=vH (F':=F) ST;have i8:=hide T2;clear T T2 ST d5 d7 d8;clear hi cK cL aK aS;refine wpOp_step (o:=⟨none,.store 113 (.tmp 8) (.tmp 15),0, "sets.go:22",#[⟨7,.data⟩,⟨5,.data⟩,⟨8,.chain⟩,⟨0,.phase⟩,⟨1,.phase⟩,⟨2,.phase⟩,⟨3,.phase⟩,⟨4,.phase⟩,⟨5,.phase⟩,⟨6,.phase⟩,⟨7,.phase⟩,⟨8,.phase⟩],none⟩) rfl (fun K hK=>?_);go_simp;exact hK _ _ ⟨va,xa,ca,vb,xb,_,ba,_,rfl,i8.out⟩
 ·rintro l x W ⟨va,xa,ca,vb,xb,cb,ba,bb,rfl,T⟩ ej;obtain ⟨F,G,g,g',rfl,rfl,rfl,rfl,rfl,rfl,dB,dx,gO,ml,ia,tu,Bf,tg,BT,AZ⟩:=T.all (fun i hi=>xA (by kernel_rfl) T.sz ej i hi);have Gv:=hide dB;have Gj:=hide dx;have uB:=hide gO;have ei:=hide ml;have eM:=hide ia;have oo:=hide tu;have uE:=hide Bf;have fu:=hide tg;have fW:=hide BT;have Bd:=hide AZ;clear T ej dB dx gO ml ia tu Bf tg BT AZ
  rename World=>w5
  have p7:Hid (PwI wk w5 g g' F G (aa a.P) (aa b.P) dD 0):=⟨ei.out,eM.out,(fun r h=>by omega),fun r _ hr=>⟨oo.out.src r hr,by rw [oo.out.eq r hr,xi]⟩,fun r hr=>⟨uE.out.src r hr,by rw [uE.out.eq r hr,xi]⟩,fu.out,fW.out,Bd.out,Gj.out,Gv.out⟩;clear ei eM oo uE fu fW Bd;obtain ⟨F0,sT⟩:∃ F0,F=F0:=⟨_,rfl⟩;rw [sT] at p7 ⊢;clear sT;go_wp2_with fail;go_loopw [16] (fun i wr=>∃ (k:Nat) (F:Nat -> Sl),k <= 16/\i = .int .i64 k/\Hid (PwI wk wr g g' F G (aa a.P) (aa b.P) dD k)) (fun i _=>16 - (intOf i).toNat)
  case atStart=>exact ⟨0,F0,Nat.zero_le _,rfl,p7⟩
  case round =>
   obtain ⟨k,F,hk,rfl,HI⟩:=hrel
   rename World=>w6
   clear p7;by_cases aq:k < 16
   ·have k1:=HI.out.s.cell k aq;have k2:=HI.out.y.cell k aq;obtain ⟨R1,e1⟩:=HI.out.old k (Nat.le_refl _) aq;obtain ⟨R2,e2⟩:=HI.out.gs k aq;rw [e1] at R1;rw [e2] at R2;clear e1 e2;obtain ⟨sa,sn,sc,hf⟩:∃ sa sn sc,(F k).ao=sa/\(F k).n=sn/\(F k).cap=sc:=⟨_,_,_,rfl,rfl,rfl⟩;obtain ⟨ta,tn,tc,hg⟩:∃ ta tn tc,(G k).ao=ta/\(G k).n=tn/\(G k).cap=tc:=⟨_,_,_,rfl,rfl,rfl⟩;rw [hf.1,hf.2.1,hf.2.2] at k1 R1;rw [hg.1,hg.2.1,hg.2.2] at k2 R2;clear hf hg;have rF:=hide (R1.below (zd w6));have gJ:=hide (R2.below (zd w6));have mA:=hide HI.out.s
    have q0:(0:Int) <= (k:Int):=by omega
    have q1:(k:Int) < 16:=by omega
    clear R1 R2;go_wp2_with fail;refine qE (by kernel_rfl) (fun l x W=>∃ v19 v20 v21 v22 v23 v24 v25 v26 v27 v28,x={ tmps:=#[PV a,PV b,.func (.func 102) #[] #[],ptr w.heap.size,ptr (w.heap.size+1),undef,ptr (w.heap.size+1+1),ptr g,ptr g',.int .i64 (k:Int),PV a,xa,SAv F0,PV b,xb,SAv G,.int .i64 (k:Int),.bool true,.int .i64 (k:Int),v19,v20,v21,v22,v23,v24,v25,v26,v27,v28,u29,undef,undef],defers:=[] }/\PwR w6 g g' k (.func (.func 102) #[] #[]) (.slice sa sn sc) (.slice ta tn tc) (PwP w6 dD (aa a.P k) (aa b.P k)) l W v19 v20 v21 v22 v23 v24 v25 v26 v27 v28) ⟨u19,u20,u21,u22,u23,u24,u25,u26,u27,u28,rfl,PwR.start _ _ _ _ _ _ _ _ _ _ _ _ _ _ _ _ _ _⟩ ?_ ?_ ?_
    ·rintro l x W ⟨v19,v20,v21,v22,v23,v24,v25,v26,v27,v28,rfl,T⟩;exact T.sz
    ·rintro l x W ⟨v19,v20,v21,v22,v23,v24,v25,v26,v27,v28,rfl,T⟩ i hi;obtain ⟨cK,cL,aK⟩:=xH hi;have aS:=kE cL
     have hc:i=0∨i=1∨i=2∨i=3∨i=4∨i=5∨i=6∨i=7∨i=8∨i=9∨i=10:=by have h:i < 11:=cK;omega
     have HT:=hide T;rcases hc with rfl | rfl | rfl | rfl | rfl | rfl | rfl | rfl | rfl | rfl | rfl
     ·clear T;clear hi cK cL aK aS;refine wpOp_step (o:=⟨some 19,.move (.tmp 9),3, "sets.go:24",#[],none⟩) rfl (fun K hK=>?_);go_simp;exact hK _ _ ⟨.int .i64 (k:Int),v20,v21,v22,v23,v24,v25,v26,v27,v28,rfl,HT.out.s0⟩
     ·clear T;clear hi cK cL aK aS;refine wpOp_step (o:=⟨some 20,.move (.tmp 2),156, "sets.go:24",#[],none⟩) rfl (fun K hK=>?_);go_simp;exact hK _ _ ⟨v19,_,v21,v22,v23,v24,v25,v26,v27,v28,rfl,HT.out.s1⟩
     ·clear T;clear hi cK cL aK aS;refine wpOp_step (o:=⟨some 21,.move (.tmp 9),3, "sets.go:24",#[],none⟩) rfl (fun K hK=>?_);go_simp;exact hK _ _ ⟨v19,v20,.int .i64 (k:Int),v22,v23,v24,v25,v26,v27,v28,rfl,HT.out.s2⟩
     ·have d2:=aK _ rfl { on:=2,ground:=Ground.data } (by simp) rfl;obtain rfl:=T.h2 d2;clear T d2;clear hi cK cL aK aS;refine wpOp_step (o:=⟨some 22,.indexAddr 113 (.tmp 7) (.tmp 21),0, "sets.go:24",#[⟨2,.data⟩],none⟩) rfl (fun K hK=>?_);go_simp;exact hK _ _ ⟨v19,v20,_,_,v23,v24,v25,v26,v27,v28,rfl,HT.out.s3⟩
     ·have d3:=aK _ rfl { on:=3,ground:=Ground.data } (by simp) rfl
      have n8:l.getD 8 false=false:=by
       cases e:l.getD 8 false with
       | false=>rfl
       | true=>have:=HT.out.c8 e;simp [aS] at this
      obtain rfl:=T.h3 d3;obtain rfl:=T.h8a n8;clear T d3 n8;clear hi cK cL aK aS;refine wpOp_step (o:=⟨some 23,.load 111 (.tmp 22),111, "sets.go:24",#[⟨3,.data⟩],none⟩) rfl (fun K hK=>?_);go_simp;exact hK _ _ ⟨v19,v20,v21,_,_,v24,v25,v26,v27,v28,rfl,HT.out.s4⟩
     ·clear T;clear hi cK cL aK aS;refine wpOp_step (o:=⟨some 24,.move (.tmp 9),3, "sets.go:24",#[],none⟩) rfl (fun K hK=>?_);go_simp;exact hK _ _ ⟨v19,v20,v21,v22,v23,.int .i64 (k:Int),v25,v26,v27,v28,rfl,HT.out.s5⟩
     ·have d5:=aK _ rfl { on:=5,ground:=Ground.data } (by simp) rfl;obtain rfl:=T.h5 d5;clear T d5;clear hi cK cL aK aS;refine wpOp_step (o:=⟨some 25,.indexAddr 113 (.tmp 8) (.tmp 24),0, "sets.go:24",#[⟨5,.data⟩],none⟩) rfl (fun K hK=>?_);go_simp;exact hK _ _ ⟨v19,v20,v21,v22,v23,_,_,v26,v27,v28,rfl,HT.out.s6⟩
     ·have d6:=aK _ rfl { on:=6,ground:=Ground.data } (by simp) rfl
      have n8:l.getD 8 false=false:=by
       cases e:l.getD 8 false with
       | false=>rfl
       | true=>have:=HT.out.c8 e;simp [aS] at this
      obtain rfl:=T.h6 d6;obtain rfl:=T.h8a n8;clear T d6 n8;clear hi cK cL aK aS;refine wpOp_step (o:=⟨some 26,.load 111 (.tmp 25),111, "sets.go:24",#[⟨6,.data⟩],none⟩) rfl (fun K hK=>?_);go_simp;exact hK _ _ ⟨v19,v20,v21,v22,v23,v24,_,_,v27,v28,rfl,HT.out.s7⟩
     ·have d1:=aK _ rfl { on:=1,ground:=Ground.data } (by simp) rfl;have d4:=aK _ rfl { on:=4,ground:=Ground.data } (by simp) rfl;have d7:=aK _ rfl { on:=7,ground:=Ground.data } (by simp) rfl
      have n10:l.getD 10 false=false:=by
       cases e:l.getD 10 false with
       | false=>rfl
       | true=>have:=HT.out.c10 e;simp [aS] at this
      obtain rfl:=T.h1 d1;obtain rfl:=T.h4 d4;obtain rfl:=T.h7 d7;obtain rfl:=T.h8a aS;have HD:=hide (And.intro d1 (And.intro d4 (And.intro d7 n10)));clear T d1 d4 d7 n10;clear hi cK cL aK aS;refine wpOp_step (o:=⟨some 27,.call ⟨.value (.tmp 20),#[.tmp 23,.tmp 26],#[111,111]⟩,111, "sets.go:24",#[⟨1,.data⟩,⟨4,.data⟩,⟨7,.data⟩],none⟩) rfl (fun K hK=>?_);go_simp;go_wp2_with fail;refine (zbr sa ta sn sc tn tc _ _ _ rF.out gJ.out).mono ?_;rintro e w' ⟨a1,n1,c1,R1,rfl,S1,b1,f1,p1⟩;exact hK _ _ ⟨v19,_,v21,v22,_,v24,v25,_,.slice a1 n1 c1,v28,rfl,HT.out.s8 HD.out.1 HD.out.2.1 HD.out.2.2.1 HD.out.2.2.2 ⟨a1,n1,c1,R1,rfl,S1,(zd w6).trans (b1.mono (Nat.le_refl _)),f1,p1⟩⟩
     ·have d0:=aK _ rfl { on:=0,ground:=Ground.data } (by simp) rfl;obtain rfl:=T.h0 d0;clear T d0;clear hi cK cL aK aS;refine wpOp_step (o:=⟨some 28,.indexAddr 113 (.tmp 7) (.tmp 19),0, "sets.go:24",#[⟨0,.data⟩,⟨0,.phase⟩,⟨1,.phase⟩,⟨2,.phase⟩,⟨3,.phase⟩,⟨4,.phase⟩,⟨5,.phase⟩,⟨6,.phase⟩,⟨7,.phase⟩,⟨8,.phase⟩],none⟩) rfl (fun K hK=>?_);go_simp;exact hK _ _ ⟨_,v20,v21,v22,v23,v24,v25,v26,v27,_,rfl,HT.out.s9⟩
     ·have d8:=aK _ rfl { on:=8,ground:=Ground.data } (by simp) rfl;have d9:=aK _ rfl { on:=9,ground:=Ground.data } (by simp) rfl;obtain rfl:=T.h9 d9;obtain ⟨a1,n1,c1,R1,rfl,S1,b1,f1,p1⟩:=T.h8b d8 aS;have e1:=(mA.out.below b1).cell k aq;have e2:=(mA.out.below b1).frozen k;have i8:=hide (T.s10 d8 d9 aS);clear T d8 d9 S1 b1 f1 p1;clear hi cK cL aK aS;refine wpOp_step (o:=⟨none,.store 111 (.tmp 28) (.tmp 27),0, "sets.go:24",#[⟨9,.data⟩,⟨8,.data⟩,⟨8,.chain⟩,⟨0,.phase⟩,⟨1,.phase⟩,⟨2,.phase⟩,⟨3,.phase⟩,⟨4,.phase⟩,⟨5,.phase⟩,⟨6,.phase⟩,⟨7,.phase⟩,⟨8,.phase⟩],none⟩) rfl (fun K hK=>?_);go_simp;exact hK _ _ ⟨v19,v20,v21,v22,v23,v24,v25,v26,_,_,rfl,i8.out⟩
    ·rintro l x W ⟨v19,v20,v21,v22,v23,v24,v25,v26,v27,v28,rfl,T⟩ ej;have ch:=fun i (hi:i < 11)=>xA (by kernel_rfl) T.sz ej i hi;obtain ⟨W0,⟨a1,n1,c1,R1,rfl,S1,b1,f1,p1⟩,rfl⟩:=T.h10 (ch 10 (by decide));have HN:=hide (HI.out.step aq b1 S1 f1 p1);clear T ej ch S1 b1 f1 p1;go_wp2_with fail;go_roundw
     case rel=>exact ⟨k+1,_,by omega,by go_num,HN.out⟩
     case measure=>simp [intOf];omega
   ·obtain rfl:k=16:=by omega
    have l1:=vI HI.out.s;go_wp2_with fail;refine (qI F _ (fun r hr=>(HI.out.new r hr).1)).mono ?_;rintro e w7 ⟨p,rfl,S7,n7,b7,c7⟩;obtain ⟨s1,e1,e2,e3,e4⟩:=xq (w:=w) (g:=w.heap.size+1+1) ((HI.out.b.block _ (by have:=uy.out;omega)).trans CI.out |> fun h=>(b7.block _ (Array.getElem?_eq_some_iff.1 h).1).trans h) S7 (n7.mono (by have h1:=HI.out.b.size;have h2:=uy.out;omega)) (az.out.trans ((HI.out.b.trans (b7.mono HI.out.b.size)).mono az.out.size)) (by omega);have dO:=hide e1;have eV:Hid (∃ p':Pv,Ending.returned (PV p) = .returned (PV p')/\ak (w7.setRow (w.heap.size+1+1) (PC p)) p'/\de w.heap.size p'/\Below w.heap.size w (w7.setRow (w.heap.size+1+1) (PC p))/\∃ C:Nat -> List Rn,(∀ r,r < 16 -> dD (aa a.P r) (aa b.P r) (C r))/\ae C p'.P):=⟨p,rfl,e2,e3,e4,fun r=>(F r).L,fun r hr=>(HI.out.new r hr).2,c7⟩
    clear S7 n7 b7 c7 e1 e2 e3 e4;go_wp2_with fail;exact bodyPost_ret (v:=PV p) (eQ Tryz.results101 rfl dO.out) rfl eV.out
theorem yJ (a b:Pv) (w:World) (hA:ak w a) (hB:ak w b) :
  Calls Tryz.prog 101 #[PV a,PV b,.func (.func 117) #[] #[]] w fun e w'=>∃ p:Pv,e = .returned (PV p)/\ak w' p/\de w.heap.size p/\Below w.heap.size w w'/\∃ C:Nat -> List Rn,(∀ r,r < 16 -> cG (aa a.P r) (aa b.P r) (C r))/\ae C p.P:=by
 have b1:=ze w (.cells (PC a) 26);have b2:=ze (w.alloc (.cells (PC a) 26)) (.cells (PC b) 26);have p2:=zq (w.alloc (.cells (PC a) 26)) b;rw [World.size_alloc] at p2;have b3:=ze ((w.alloc (.cells (PC a) 26)).alloc (.cells (PC b) 26)) (.cells (PC pv0) 26);have p3:=zq ((w.alloc (.cells (PC a) 26)).alloc (.cells (PC b) 26)) pv0;simp only [World.size_alloc] at p3;have nP:=hide (((zq w a).below b2).below b3);have me:=hide (p2.below b3);have CI:=hide p3;have az:=hide (b1.trans ((b2.trans (b3.mono b2.size)).mono b1.size));have Fs:=hide (wC hA);have G1:=hide (wC hB);have iD:=hide (hA.below az.out);have gk:=hide (hB.below az.out)
 have uy:Hid ((((w.alloc (.cells (PC a) 26)).alloc (.cells (PC b) 26)).alloc (.cells (PC pv0) 26)).heap.size=w.heap.size+3):=by show _=_;simp
 clear hA hB b1 b2 p2 b3 p3;obtain ⟨wk,ur⟩:∃ wk,Hid ((((w.alloc (.cells (PC a) 26)).alloc (.cells (PC b) 26)).alloc (.cells (PC pv0) 26))=wk):=⟨_,rfl⟩;rw [ur.out] at nP me az iD gk uy CI;go_enter Tryz.func101,Tryz.ntmps101;go_wp2_with fail;rw [ur.out];clear ur;refine qE (by kernel_rfl) (fun l x W=>∃ va xa ca vb xb cb ba bb,x={ tmps:=#[PV a,PV b,.func (.func 117) #[] #[],ptr w.heap.size,ptr (w.heap.size+1),undef,ptr (w.heap.size+1+1),ba,bb,undef,va,xa,ca,vb,xb,cb,undef,undef,undef,undef,undef,undef,undef,undef,undef,undef,undef,undef,undef,undef,undef,undef],defers:=[] }/\cH wk a b l W va xa ca vb xb cb ba bb) ⟨undef,undef,undef,undef,undef,undef,undef,undef,rfl,cH.start wk a b _ _ _ _ _ _ _ _⟩ ?_ ?_ ?_
 ·rintro l x W ⟨va,xa,ca,vb,xb,cb,ba,bb,rfl,T⟩;exact T.sz
 ·rintro l x W ⟨va,xa,ca,vb,xb,cb,ba,bb,rfl,T⟩ i hi;obtain ⟨cK,cL,aK⟩:=xH hi;have aS:=kE cL
  have hc:i=0∨i=1∨i=2∨i=3∨i=4∨i=5∨i=6∨i=7∨i=8∨i=9:=by have h:i < 10:=cK;omega
  have HT:=hide T;rcases hc with rfl | rfl | rfl | rfl | rfl | rfl | rfl | rfl | rfl | rfl
  ·have l1:=zi (nP.out.below T.b).at
   clear T;clear hi cK cL aK aS;refine wpOp_step (o:=⟨some 10,.load 26 (.tmp 3),26, "sets.go:22",#[],none⟩) rfl (fun K hK=>?_);go_simp;exact hK _ _ ⟨PV a,xa,ca,vb,xb,cb,ba,bb,rfl,HT.out.s0⟩
  ·have d0:=aK _ rfl { on:=0,ground:=Ground.data } (by simp) rfl;obtain rfl:=T.h0 d0;clear T d0;clear hi cK cL aK aS;refine wpOp_step (o:=⟨some 11,.buildSlice 110 1 #[(0,.tmp 10)],110, "sets.go:22",#[⟨0,.data⟩],none⟩) rfl (fun K hK=>?_);go_simp;exact hK _ _ ⟨_,.slice (some ⟨W.heap.size,0,none⟩) 1 1,ca,vb,xb,cb,ba,bb,rfl,HT.out.s1 (iD.out.below HT.out.b)⟩
  ·have d1:=aK _ rfl { on:=1,ground:=Ground.data } (by simp) rfl
   have n8:l.getD 8 false=false:=by
    cases e:l.getD 8 false with
    | false=>rfl
    | true=>have:=HT.out.c8 e;simp [aS] at this
   obtain ⟨g,rfl,R⟩:=T.h1 d1 n8;have HR:=hide R;have uQ:=hide n8;clear T d1 R n8;clear hi cK cL aK aS;refine wpOp_step (o:=⟨some 12,.call ⟨.value (.func 64),#[.tmp 11],#[110]⟩,113, "sets.go:22",#[⟨1,.data⟩],none⟩) rfl (fun K hK=>?_);go_simp;go_wp2_with fail;refine (xg _ 1 1 [a] _ HR.out Fs.out (by omega)).mono ?_;rintro e w' ⟨F,rfl,RF,bF⟩;exact hK _ _ ⟨va,_,SAv F,vb,xb,cb,ba,bb,rfl,HT.out.s2 uQ.out RF bF⟩
  ·have l1:=zi (me.out.below T.b).at
   clear T;clear hi cK cL aK aS;refine wpOp_step (o:=⟨some 13,.load 26 (.tmp 4),26, "sets.go:22",#[],none⟩) rfl (fun K hK=>?_);go_simp;exact hK _ _ ⟨va,xa,ca,PV b,xb,cb,ba,bb,rfl,HT.out.s3⟩
  ·have d3:=aK _ rfl { on:=3,ground:=Ground.data } (by simp) rfl;obtain rfl:=T.h3 d3;clear T d3;clear hi cK cL aK aS;refine wpOp_step (o:=⟨some 14,.buildSlice 110 1 #[(0,.tmp 13)],110, "sets.go:22",#[⟨3,.data⟩],none⟩) rfl (fun K hK=>?_);go_simp;exact hK _ _ ⟨va,xa,ca,_,.slice (some ⟨W.heap.size,0,none⟩) 1 1,cb,ba,bb,rfl,HT.out.s4 (gk.out.below HT.out.b)⟩
  ·have d4:=aK _ rfl { on:=4,ground:=Ground.data } (by simp) rfl;have d2:=aK _ rfl { on:=2,ground:=Ground.chain } (by simp) rfl
   have n8:l.getD 8 false=false:=by
    cases e:l.getD 8 false with
    | false=>rfl
    | true=>have:=HT.out.c8 e;simp [aS] at this
   have n9:l.getD 9 false=false:=by
    cases e:l.getD 9 false with
    | false=>rfl
    | true=>have:=HT.out.c9 e;simp [aS] at this
   obtain ⟨g,rfl,R⟩:=T.h4 d4 n8;have HR:=hide R;have ua:=hide n9;clear T d4 d2 R n8 n9;clear hi cK cL aK aS;refine wpOp_step (o:=⟨some 15,.call ⟨.value (.func 64),#[.tmp 14],#[110]⟩,113, "sets.go:22",#[⟨4,.data⟩,⟨2,.chain⟩],none⟩) rfl (fun K hK=>?_);go_simp;go_wp2_with fail;refine (xg _ 1 1 [b] _ HR.out G1.out (by omega)).mono ?_;rintro e w' ⟨F,rfl,RF,bF⟩;exact hK _ _ ⟨va,xa,ca,vb,_,SAv F,ba,bb,rfl,HT.out.s5 ua.out RF bF⟩
  ·have n8:l.getD 8 false=false:=by
    cases e:l.getD 8 false with
    | false=>rfl
    | true=>have:=HT.out.c8 e;simp [aS] at this
   have uQ:=hide n8;clear T n8;clear hi cK cL aK aS;refine wpOp_step (o:=⟨some 7,.alloc 113,0, "sets.go:22",#[],none⟩) rfl (fun K hK=>?_);go_simp;exact hK _ _ ⟨va,xa,ca,vb,xb,cb,ptr W.heap.size,bb,rfl,HT.out.s6 uQ.out⟩
  ·have n9:l.getD 9 false=false:=by
    cases e:l.getD 9 false with
    | false=>rfl
    | true=>have:=HT.out.c9 e;simp [aS] at this
   have ua:=hide n9;clear T n9;clear hi cK cL aK aS;refine wpOp_step (o:=⟨some 8,.alloc 113,0, "sets.go:22",#[],none⟩) rfl (fun K hK=>?_);go_simp;exact hK _ _ ⟨va,xa,ca,vb,xb,cb,ba,ptr W.heap.size,rfl,HT.out.s7 ua.out⟩
  ·have d2:=aK _ rfl { on:=2,ground:=Ground.data } (by simp) rfl;have d5:=aK _ rfl { on:=5,ground:=Ground.chain } (by simp) rfl;have d6:=aK _ rfl { on:=6,ground:=Ground.data } (by simp) rfl;have d7:=aK _ rfl { on:=7,ground:=Ground.phase } (by simp) rfl;obtain ⟨F,g,rfl,rfl,ST,T2⟩:=T.s8 d2 d5 d6 d7 aS;have s1:=vH (F':=F) ST;have i8:=hide T2;clear T T2 ST d2 d5 d6 d7;clear hi cK cL aK aS;refine wpOp_step (o:=⟨none,.store 113 (.tmp 7) (.tmp 12),0, "sets.go:22",#[⟨6,.data⟩,⟨2,.data⟩,⟨5,.chain⟩,⟨0,.phase⟩,⟨1,.phase⟩,⟨2,.phase⟩,⟨3,.textOnly .lateStores⟩,⟨4,.textOnly .lateStores⟩,⟨5,.textOnly .lateStoresUnsure⟩,⟨6,.phase⟩,⟨7,.phase⟩],none⟩) rfl (fun K hK=>?_);go_simp;exact hK _ _ ⟨va,xa,_,vb,xb,cb,_,bb,rfl,i8.out⟩
  ·have d5:=aK _ rfl { on:=5,ground:=Ground.data } (by simp) rfl;have d7:=aK _ rfl { on:=7,ground:=Ground.data } (by simp) rfl;have d8:=aK _ rfl { on:=8,ground:=Ground.chain } (by simp) rfl;obtain ⟨F,g,rfl,rfl,ST,T2⟩:=T.s9 d5 d7 d8 aS;have s1:=vH (F':=F) ST;have i8:=hide T2;clear T T2 ST d5 d7 d8;clear hi cK cL aK aS;refine wpOp_step (o:=⟨none,.store 113 (.tmp 8) (.tmp 15),0, "sets.go:22",#[⟨7,.data⟩,⟨5,.data⟩,⟨8,.chain⟩,⟨0,.phase⟩,⟨1,.phase⟩,⟨2,.phase⟩,⟨3,.phase⟩,⟨4,.phase⟩,⟨5,.phase⟩,⟨6,.phase⟩,⟨7,.phase⟩,⟨8,.phase⟩],none⟩) rfl (fun K hK=>?_);go_simp;exact hK _ _ ⟨va,xa,ca,vb,xb,_,ba,_,rfl,i8.out⟩
 ·rintro l x W ⟨va,xa,ca,vb,xb,cb,ba,bb,rfl,T⟩ ej;obtain ⟨F,G,g,g',rfl,rfl,rfl,rfl,rfl,rfl,dB,dx,gO,ml,ia,tu,Bf,tg,BT,AZ⟩:=T.all (fun i hi=>xA (by kernel_rfl) T.sz ej i hi);have Gv:=hide dB;have Gj:=hide dx;have uB:=hide gO;have ei:=hide ml;have eM:=hide ia;have oo:=hide tu;have uE:=hide Bf;have fu:=hide tg;have fW:=hide BT;have Bd:=hide AZ;clear T ej dB dx gO ml ia tu Bf tg BT AZ
  rename World=>w5
  have p7:Hid (PwI wk w5 g g' F G (aa a.P) (aa b.P) cG 0):=⟨ei.out,eM.out,(fun r h=>by omega),fun r _ hr=>⟨oo.out.src r hr,by rw [oo.out.eq r hr,xi]⟩,fun r hr=>⟨uE.out.src r hr,by rw [uE.out.eq r hr,xi]⟩,fu.out,fW.out,Bd.out,Gj.out,Gv.out⟩;clear ei eM oo uE fu fW Bd;obtain ⟨F0,sT⟩:∃ F0,F=F0:=⟨_,rfl⟩;rw [sT] at p7 ⊢;clear sT;go_wp2_with fail;go_loopw [16] (fun i wr=>∃ (k:Nat) (F:Nat -> Sl),k <= 16/\i = .int .i64 k/\Hid (PwI wk wr g g' F G (aa a.P) (aa b.P) cG k)) (fun i _=>16 - (intOf i).toNat)
  case atStart=>exact ⟨0,F0,Nat.zero_le _,rfl,p7⟩
  case round =>
   obtain ⟨k,F,hk,rfl,HI⟩:=hrel
   rename World=>w6
   clear p7;by_cases aq:k < 16
   ·have k1:=HI.out.s.cell k aq;have k2:=HI.out.y.cell k aq;obtain ⟨R1,e1⟩:=HI.out.old k (Nat.le_refl _) aq;obtain ⟨R2,e2⟩:=HI.out.gs k aq;rw [e1] at R1;rw [e2] at R2;clear e1 e2;obtain ⟨sa,sn,sc,hf⟩:∃ sa sn sc,(F k).ao=sa/\(F k).n=sn/\(F k).cap=sc:=⟨_,_,_,rfl,rfl,rfl⟩;obtain ⟨ta,tn,tc,hg⟩:∃ ta tn tc,(G k).ao=ta/\(G k).n=tn/\(G k).cap=tc:=⟨_,_,_,rfl,rfl,rfl⟩;rw [hf.1,hf.2.1,hf.2.2] at k1 R1;rw [hg.1,hg.2.1,hg.2.2] at k2 R2;clear hf hg;have rF:=hide (R1.below (zd w6));have gJ:=hide (R2.below (zd w6));have mA:=hide HI.out.s
    have q0:(0:Int) <= (k:Int):=by omega
    have q1:(k:Int) < 16:=by omega
    clear R1 R2;go_wp2_with fail;refine qE (by kernel_rfl) (fun l x W=>∃ v19 v20 v21 v22 v23 v24 v25 v26 v27 v28,x={ tmps:=#[PV a,PV b,.func (.func 117) #[] #[],ptr w.heap.size,ptr (w.heap.size+1),undef,ptr (w.heap.size+1+1),ptr g,ptr g',.int .i64 (k:Int),PV a,xa,SAv F0,PV b,xb,SAv G,.int .i64 (k:Int),.bool true,.int .i64 (k:Int),v19,v20,v21,v22,v23,v24,v25,v26,v27,v28,u29,undef,undef],defers:=[] }/\PwR w6 g g' k (.func (.func 117) #[] #[]) (.slice sa sn sc) (.slice ta tn tc) (PwP w6 cG (aa a.P k) (aa b.P k)) l W v19 v20 v21 v22 v23 v24 v25 v26 v27 v28) ⟨u19,u20,u21,u22,u23,u24,u25,u26,u27,u28,rfl,PwR.start _ _ _ _ _ _ _ _ _ _ _ _ _ _ _ _ _ _⟩ ?_ ?_ ?_
    ·rintro l x W ⟨v19,v20,v21,v22,v23,v24,v25,v26,v27,v28,rfl,T⟩;exact T.sz
    ·rintro l x W ⟨v19,v20,v21,v22,v23,v24,v25,v26,v27,v28,rfl,T⟩ i hi;obtain ⟨cK,cL,aK⟩:=xH hi;have aS:=kE cL
     have hc:i=0∨i=1∨i=2∨i=3∨i=4∨i=5∨i=6∨i=7∨i=8∨i=9∨i=10:=by have h:i < 11:=cK;omega
     have HT:=hide T;rcases hc with rfl | rfl | rfl | rfl | rfl | rfl | rfl | rfl | rfl | rfl | rfl
     ·clear T;clear hi cK cL aK aS;refine wpOp_step (o:=⟨some 19,.move (.tmp 9),3, "sets.go:24",#[],none⟩) rfl (fun K hK=>?_);go_simp;exact hK _ _ ⟨.int .i64 (k:Int),v20,v21,v22,v23,v24,v25,v26,v27,v28,rfl,HT.out.s0⟩
     ·clear T;clear hi cK cL aK aS;refine wpOp_step (o:=⟨some 20,.move (.tmp 2),156, "sets.go:24",#[],none⟩) rfl (fun K hK=>?_);go_simp;exact hK _ _ ⟨v19,_,v21,v22,v23,v24,v25,v26,v27,v28,rfl,HT.out.s1⟩
     ·clear T;clear hi cK cL aK aS;refine wpOp_step (o:=⟨some 21,.move (.tmp 9),3, "sets.go:24",#[],none⟩) rfl (fun K hK=>?_);go_simp;exact hK _ _ ⟨v19,v20,.int .i64 (k:Int),v22,v23,v24,v25,v26,v27,v28,rfl,HT.out.s2⟩
     ·have d2:=aK _ rfl { on:=2,ground:=Ground.data } (by simp) rfl;obtain rfl:=T.h2 d2;clear T d2;clear hi cK cL aK aS;refine wpOp_step (o:=⟨some 22,.indexAddr 113 (.tmp 7) (.tmp 21),0, "sets.go:24",#[⟨2,.data⟩],none⟩) rfl (fun K hK=>?_);go_simp;exact hK _ _ ⟨v19,v20,_,_,v23,v24,v25,v26,v27,v28,rfl,HT.out.s3⟩
     ·have d3:=aK _ rfl { on:=3,ground:=Ground.data } (by simp) rfl
      have n8:l.getD 8 false=false:=by
       cases e:l.getD 8 false with
       | false=>rfl
       | true=>have:=HT.out.c8 e;simp [aS] at this
      obtain rfl:=T.h3 d3;obtain rfl:=T.h8a n8;clear T d3 n8;clear hi cK cL aK aS;refine wpOp_step (o:=⟨some 23,.load 111 (.tmp 22),111, "sets.go:24",#[⟨3,.data⟩],none⟩) rfl (fun K hK=>?_);go_simp;exact hK _ _ ⟨v19,v20,v21,_,_,v24,v25,v26,v27,v28,rfl,HT.out.s4⟩
     ·clear T;clear hi cK cL aK aS;refine wpOp_step (o:=⟨some 24,.move (.tmp 9),3, "sets.go:24",#[],none⟩) rfl (fun K hK=>?_);go_simp;exact hK _ _ ⟨v19,v20,v21,v22,v23,.int .i64 (k:Int),v25,v26,v27,v28,rfl,HT.out.s5⟩
     ·have d5:=aK _ rfl { on:=5,ground:=Ground.data } (by simp) rfl;obtain rfl:=T.h5 d5;clear T d5;clear hi cK cL aK aS;refine wpOp_step (o:=⟨some 25,.indexAddr 113 (.tmp 8) (.tmp 24),0, "sets.go:24",#[⟨5,.data⟩],none⟩) rfl (fun K hK=>?_);go_simp;exact hK _ _ ⟨v19,v20,v21,v22,v23,_,_,v26,v27,v28,rfl,HT.out.s6⟩
     ·have d6:=aK _ rfl { on:=6,ground:=Ground.data } (by simp) rfl
      have n8:l.getD 8 false=false:=by
       cases e:l.getD 8 false with
       | false=>rfl
       | true=>have:=HT.out.c8 e;simp [aS] at this
      obtain rfl:=T.h6 d6;obtain rfl:=T.h8a n8;clear T d6 n8;clear hi cK cL aK aS;refine wpOp_step (o:=⟨some 26,.load 111 (.tmp 25),111, "sets.go:24",#[⟨6,.data⟩],none⟩) rfl (fun K hK=>?_);go_simp;exact hK _ _ ⟨v19,v20,v21,v22,v23,v24,_,_,v27,v28,rfl,HT.out.s7⟩
     ·have d1:=aK _ rfl { on:=1,ground:=Ground.data } (by simp) rfl;have d4:=aK _ rfl { on:=4,ground:=Ground.data } (by simp) rfl;have d7:=aK _ rfl { on:=7,ground:=Ground.data } (by simp) rfl
      have n10:l.getD 10 false=false:=by
       cases e:l.getD 10 false with
       | false=>rfl
       | true=>have:=HT.out.c10 e;simp [aS] at this
      obtain rfl:=T.h1 d1;obtain rfl:=T.h4 d4;obtain rfl:=T.h7 d7;obtain rfl:=T.h8a aS;have HD:=hide (And.intro d1 (And.intro d4 (And.intro d7 n10)));clear T d1 d4 d7 n10;clear hi cK cL aK aS;refine wpOp_step (o:=⟨some 27,.call ⟨.value (.tmp 20),#[.tmp 23,.tmp 26],#[111,111]⟩,111, "sets.go:24",#[⟨1,.data⟩,⟨4,.data⟩,⟨7,.data⟩],none⟩) rfl (fun K hK=>?_);go_simp;go_wp2_with fail;refine (zc4 sa ta sn sc tn tc _ _ _ rF.out gJ.out).mono ?_;rintro e w' ⟨a1,n1,c1,R1,rfl,S1,b1,f1,p1⟩;exact hK _ _ ⟨v19,_,v21,v22,_,v24,v25,_,.slice a1 n1 c1,v28,rfl,HT.out.s8 HD.out.1 HD.out.2.1 HD.out.2.2.1 HD.out.2.2.2 ⟨a1,n1,c1,R1,rfl,S1,(zd w6).trans (b1.mono (Nat.le_refl _)),f1,p1⟩⟩
     ·have d0:=aK _ rfl { on:=0,ground:=Ground.data } (by simp) rfl;obtain rfl:=T.h0 d0;clear T d0;clear hi cK cL aK aS;refine wpOp_step (o:=⟨some 28,.indexAddr 113 (.tmp 7) (.tmp 19),0, "sets.go:24",#[⟨0,.data⟩,⟨0,.phase⟩,⟨1,.phase⟩,⟨2,.phase⟩,⟨3,.phase⟩,⟨4,.phase⟩,⟨5,.phase⟩,⟨6,.phase⟩,⟨7,.phase⟩,⟨8,.phase⟩],none⟩) rfl (fun K hK=>?_);go_simp;exact hK _ _ ⟨_,v20,v21,v22,v23,v24,v25,v26,v27,_,rfl,HT.out.s9⟩
     ·have d8:=aK _ rfl { on:=8,ground:=Ground.data } (by simp) rfl;have d9:=aK _ rfl { on:=9,ground:=Ground.data } (by simp) rfl;obtain rfl:=T.h9 d9;obtain ⟨a1,n1,c1,R1,rfl,S1,b1,f1,p1⟩:=T.h8b d8 aS;have e1:=(mA.out.below b1).cell k aq;have e2:=(mA.out.below b1).frozen k;have i8:=hide (T.s10 d8 d9 aS);clear T d8 d9 S1 b1 f1 p1;clear hi cK cL aK aS;refine wpOp_step (o:=⟨none,.store 111 (.tmp 28) (.tmp 27),0, "sets.go:24",#[⟨9,.data⟩,⟨8,.data⟩,⟨8,.chain⟩,⟨0,.phase⟩,⟨1,.phase⟩,⟨2,.phase⟩,⟨3,.phase⟩,⟨4,.phase⟩,⟨5,.phase⟩,⟨6,.phase⟩,⟨7,.phase⟩,⟨8,.phase⟩],none⟩) rfl (fun K hK=>?_);go_simp;exact hK _ _ ⟨v19,v20,v21,v22,v23,v24,v25,v26,_,_,rfl,i8.out⟩
    ·rintro l x W ⟨v19,v20,v21,v22,v23,v24,v25,v26,v27,v28,rfl,T⟩ ej;have ch:=fun i (hi:i < 11)=>xA (by kernel_rfl) T.sz ej i hi;obtain ⟨W0,⟨a1,n1,c1,R1,rfl,S1,b1,f1,p1⟩,rfl⟩:=T.h10 (ch 10 (by decide));have HN:=hide (HI.out.step aq b1 S1 f1 p1);clear T ej ch S1 b1 f1 p1;go_wp2_with fail;go_roundw
     case rel=>exact ⟨k+1,_,by omega,by go_num,HN.out⟩
     case measure=>simp [intOf];omega
   ·obtain rfl:k=16:=by omega
    have l1:=vI HI.out.s;go_wp2_with fail;refine (qI F _ (fun r hr=>(HI.out.new r hr).1)).mono ?_;rintro e w7 ⟨p,rfl,S7,n7,b7,c7⟩;obtain ⟨s1,e1,e2,e3,e4⟩:=xq (w:=w) (g:=w.heap.size+1+1) ((HI.out.b.block _ (by have:=uy.out;omega)).trans CI.out |> fun h=>(b7.block _ (Array.getElem?_eq_some_iff.1 h).1).trans h) S7 (n7.mono (by have h1:=HI.out.b.size;have h2:=uy.out;omega)) (az.out.trans ((HI.out.b.trans (b7.mono HI.out.b.size)).mono az.out.size)) (by omega);have dO:=hide e1;have eV:Hid (∃ p':Pv,Ending.returned (PV p) = .returned (PV p')/\ak (w7.setRow (w.heap.size+1+1) (PC p)) p'/\de w.heap.size p'/\Below w.heap.size w (w7.setRow (w.heap.size+1+1) (PC p))/\∃ C:Nat -> List Rn,(∀ r,r < 16 -> cG (aa a.P r) (aa b.P r) (C r))/\ae C p'.P):=⟨p,rfl,e2,e3,e4,fun r=>(F r).L,fun r hr=>(HI.out.new r hr).2,c7⟩
    clear S7 n7 b7 c7 e1 e2 e3 e4;go_wp2_with fail;exact bodyPost_ret (v:=PV p) (eQ Tryz.results101 rfl dO.out) rfl eV.out
end
section
open Go.RowKit
attribute [local go_sem ↓] zl zk kP kN
attribute [local go_sem] xO q7 zw zf zW zh qs
attribute [local go_sem] yw
theorem bV (a b:Pv) (w:World) (hA:ak w a) (hB:ak w b) :
  Calls Tryz.prog 72 #[PV a,PV b] w fun e w'=>cW w w' e (fun P=>∃ C:Nat -> List Rn,(∀ r,r < 16 -> dD (aa a.P r) (aa b.P r) (C r))/\ae C P):=by
 have b1:=ze w (.cells (PC a) 26);have b2:=ze (w.alloc (.cells (PC a) 26)) (.cells (PC b) 26);have b3:=ze ((w.alloc (.cells (PC a) 26)).alloc (.cells (PC b) 26)) (.cells (PC pv0) 26);have p2:=zq (w.alloc (.cells (PC a) 26)) b;have p3:=zq ((w.alloc (.cells (PC a) 26)).alloc (.cells (PC b) 26)) pv0;simp only [World.size_alloc] at p2 p3
 have l1:=zi (((zq w a).below b2).below b3).at
 have l2:=zi (p2.below b3).at
 have Dc:=hide p3;have az:=hide (b1.trans ((b2.trans (b3.mono b2.size)).mono b1.size));have HA:=hide (hA.below az.out);have HB:=hide (hB.below az.out);clear hA hB b1 b2 b3 p2 p3;go_enter Tryz.func72,Tryz.ntmps72;go_wp2_with fail;refine (bW a b _ HA.out HB.out).mono ?_;rintro e w4 ⟨p,rfl,S4,n4,b4,c4⟩;obtain ⟨s1,e1,e2,e3,e4⟩:=xq (w:=w) (Dc.out.below b4) S4 (n4.mono (by simp)) (az.out.trans (b4.mono az.out.size)) (by omega);have dO:=hide e1;have eV:Hid (cW w (w4.setRow (w.heap.size+1+1) (PC p)) (.returned (PV p)) (fun P=>∃ C:Nat -> List Rn,(∀ r,r < 16 -> dD (aa a.P r) (aa b.P r) (C r))/\ae C P)):=⟨p,rfl,e2,e3,e4,c4⟩;clear S4 n4 b4 c4 e1 e2 e3 e4;go_wp2_with fail;exact bodyPost_ret (v:=PV p) (eQ Tryz.results72 rfl dO.out) rfl eV.out
theorem kf (a b:Pv) (w:World) (hA:ak w a) (hB:ak w b) :
  Calls Tryz.prog 78 #[PV a,PV b] w fun e w'=>cW w w' e (fun P=>∃ C:Nat -> List Rn,(∀ r,r < 16 -> cG (aa a.P r) (aa b.P r) (C r))/\ae C P):=by
 have b1:=ze w (.cells (PC a) 26);have b2:=ze (w.alloc (.cells (PC a) 26)) (.cells (PC b) 26);have b3:=ze ((w.alloc (.cells (PC a) 26)).alloc (.cells (PC b) 26)) (.cells (PC pv0) 26);have p2:=zq (w.alloc (.cells (PC a) 26)) b;have p3:=zq ((w.alloc (.cells (PC a) 26)).alloc (.cells (PC b) 26)) pv0;simp only [World.size_alloc] at p2 p3
 have l1:=zi (((zq w a).below b2).below b3).at
 have l2:=zi (p2.below b3).at
 have Dc:=hide p3;have az:=hide (b1.trans ((b2.trans (b3.mono b2.size)).mono b1.size));have HA:=hide (hA.below az.out);have HB:=hide (hB.below az.out);clear hA hB b1 b2 b3 p2 p3;go_enter Tryz.func78,Tryz.ntmps78;go_wp2_with fail;refine (yJ a b _ HA.out HB.out).mono ?_;rintro e w4 ⟨p,rfl,S4,n4,b4,c4⟩;obtain ⟨s1,e1,e2,e3,e4⟩:=xq (w:=w) (Dc.out.below b4) S4 (n4.mono (by simp)) (az.out.trans (b4.mono az.out.size)) (by omega);have dO:=hide e1;have eV:Hid (cW w (w4.setRow (w.heap.size+1+1) (PC p)) (.returned (PV p)) (fun P=>∃ C:Nat -> List Rn,(∀ r,r < 16 -> cG (aa a.P r) (aa b.P r) (C r))/\ae C P)):=⟨p,rfl,e2,e3,e4,c4⟩;clear S4 n4 b4 c4 e1 e2 e3 e4;go_wp2_with fail;exact bodyPost_ret (v:=PV p) (eQ Tryz.results78 rfl dO.out) rfl eV.out
end
end Go.Proofs.YtcilfelgpmfehaaGreat
