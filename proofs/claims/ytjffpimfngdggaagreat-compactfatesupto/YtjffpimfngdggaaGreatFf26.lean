import Derived.Test.YtjffpimfngdggaaGreatFf25
import Derived.Deep.RegionHeld3
import Derived.Test.YtjffpimfngdggaaGreatFf24
import Derived.Deep.CutRange
set_option maxRecDepth 100000
set_option maxHeartbeats 4000000
namespace Go.Proofs.YtjffpimfngdggaaGreat
section
open Go.RowKit
attribute [local go_sem ↓] zq zp vW vU
attribute [local go_sem] jf xt zI zi qq zk qL
attribute [local go_sem] bQ
structure PwI (wk wr:World) (g g':Nat) (F G:Nat -> Sl) (A B:Nat -> List Rn) (Rel:List Rn -> List Rn -> List Rn -> Prop) (k:Nat):Prop where
 s:cL wr g F
 y:cL wr g' G
 new:∀ r,r < k -> aV wr (F r).ao (F r).n (F r).cap (F r).L/\Rel (A r) (B r) (F r).L
 old:∀ r,k <= r -> r < 16 -> aV wr (F r).ao (F r).n (F r).cap (F r).L/\(F r).L=A r
 gs:∀ r,r < 16 -> aV wr (G r).ao (G r).n (G r).cap (G r).L/\(G r).L=B r
 f1:eL F g
 f2:eL G g
 b:Below wk.heap.size wk wr
 g1:wk.heap.size <= g
 gg:g≠g'
theorem PwI.step {wk wr w7:World} {g g':Nat} {F G:Nat -> Sl} {A B:Nat -> List Rn} {Rel:List Rn -> List Rn -> List Rn -> Prop} {k:Nat} (I:PwI wk wr g g' F G A B Rel k) (hk:k < 16) (hb:Below wr.heap.size wr w7) {a1:Option Addr} {n1 c1:Nat} {L:List Rn} (hS:aV w7 a1 n1 c1 L) (hfr:∀ ad,a1=some ad -> wr.heap.size <= ad.block) (hR:Rel (A k) (B k) L) :
  PwI wk (w7.setCell ⟨g,k,none⟩ (.slice a1 n1 c1)) g g' (fG F k ⟨a1,n1,c1,L⟩) G A B Rel (k+1):=by
 have ak:=I.s.lt
 have other:∀ q,q≠g -> (w7.setCell ⟨g,k,none⟩ (.slice a1 n1 c1)).heap[q]? = w7.heap[q]?:=fun q hq=>by
  simp [World.setCell,Array.getElem?_modify,show ¬ g=q from fun e=>hq e.symm]
 have far:eL (fG F k ⟨a1,n1,c1,L⟩) g:=fun r hr ad e=>by
  by_cases h:r=k
  ·subst h;rw [xF] at e;have:=hfr ad e;omega
  ·rw [qH _ _ _ _ h] at e;exact I.f1 r hr ad e
 refine ⟨(I.s.below hb).set k _ _ rfl,(other _ (fun e=>I.gg e.symm)).trans (I.y.below hb),fun r hr=>?_,fun r h1 h2=>?_,fun r hr=>⟨jD ((I.gs r hr).1.below hb) (fun ad e=>other _ (I.f2 r hr ad e)),(I.gs r hr).2⟩,far,I.f2,V.qd (I.b.trans (hb.mono I.b.size)) I.g1,I.g1,I.gg⟩
 ·by_cases h:r=k
  ·subst h;rw [xF];exact ⟨jD hS (fun ad e=>other _ (fun e'=>by have:=hfr ad e;omega)),hR⟩
  ·rw [qH _ _ _ _ h];have:=I.new r (by omega);exact ⟨jD (this.1.below hb) (fun ad e=>other _ (I.f1 r (by omega) ad e)),this.2⟩
 ·rw [qH _ _ _ _ (by omega)];have:=I.old r (by omega) h2;exact ⟨jD (this.1.below hb) (fun ad e=>other _ (I.f1 r h2 ad e)),this.2⟩
def PwP (w6:World) (Rel:List Rn -> List Rn -> List Rn -> Prop) (A B:List Rn) (W:World) (v:Value):Prop:=∃ a1 n1 c1 L,v = .slice a1 n1 c1/\aV W a1 n1 c1 L/\Below w6.heap.size w6 W/\(∀ ad,a1=some ad -> w6.heap.size <= ad.block)/\Rel A B L
structure PwR (w6:World) (g g' k:Nat) (f sx sy:Value) (P:World -> Value -> Prop) (l:Array Bool) (W:World) (v19 v20 v21 v22 v23 v24 v25 v26 v27 v28:Value):Prop where
 sz:l.size=11
 h0:l.getD 0 false=true -> v19 = .int .i64 (k:Int)
 h1:l.getD 1 false=true -> v20=f
 h2:l.getD 2 false=true -> v21 = .int .i64 (k:Int)
 h3:l.getD 3 false=true -> v22=(.pointer (some ⟨g,k,none⟩))
 h4:l.getD 4 false=true -> v23=sx
 h5:l.getD 5 false=true -> v24 = .int .i64 (k:Int)
 h6:l.getD 6 false=true -> v25=(.pointer (some ⟨g',k,none⟩))
 h7:l.getD 7 false=true -> v26=sy
 h9:l.getD 9 false=true -> v28=(.pointer (some ⟨g,k,none⟩))
 h8a:l.getD 8 false=false -> W=w6.drew
 h8b:l.getD 8 false=true -> l.getD 10 false=false -> P W v27
 h10:l.getD 10 false=true -> ∃ W0,P W0 v27/\W=W0.setCell ⟨g,k,none⟩ v27
 c8:l.getD 8 false=true -> l.getD 1 false=true/\l.getD 4 false=true/\l.getD 7 false=true
 c10:l.getD 10 false=true -> l.getD 8 false=true/\l.getD 9 false=true
section
variable {w6 : World} {g g' k : Nat} {f sx sy : Value} {P : World -> Value -> Prop} {l : Array Bool} {W : World} {v19 v20 v21 v22 v23 v24 v25 v26 v27 v28 : Value}
theorem PwR.s0 (T:PwR w6 g g' k f sx sy P l W v19 v20 v21 v22 v23 v24 v25 v26 v27 v28):PwR w6 g g' k f sx sy P (l.setIfInBounds 0 true) W (.int .i64 (k:Int)) v20 v21 v22 v23 v24 v25 v26 v27 v28:=by
 refine ⟨by simpa using T.sz,?_,?_,?_,?_,?_,?_,?_,?_,?_,?_,?_,?_,?_,?_⟩ <;> simp only [qh (show 0 < l.size by rw [T.sz];decide),zg (show (0:Nat)≠1 by decide),zg (show (0:Nat)≠2 by decide),zg (show (0:Nat)≠3 by decide),zg (show (0:Nat)≠4 by decide),zg (show (0:Nat)≠5 by decide),zg (show (0:Nat)≠6 by decide),zg (show (0:Nat)≠7 by decide),zg (show (0:Nat)≠8 by decide),zg (show (0:Nat)≠9 by decide),zg (show (0:Nat)≠10 by decide)]
 ·exact fun _=>(by first | trivial | rfl)
 ·exact T.h1
 ·exact T.h2
 ·exact T.h3
 ·exact T.h4
 ·exact T.h5
 ·exact T.h6
 ·exact T.h7
 ·exact T.h9
 ·exact T.h8a
 ·exact T.h8b
 ·exact T.h10
 ·exact fun h=>by have:=T.c8 h;simp [this]
 ·exact fun h=>by have:=T.c10 h;simp [this]
theorem PwR.s1 (T:PwR w6 g g' k f sx sy P l W v19 v20 v21 v22 v23 v24 v25 v26 v27 v28):PwR w6 g g' k f sx sy P (l.setIfInBounds 1 true) W v19 (f) v21 v22 v23 v24 v25 v26 v27 v28:=by
 refine ⟨by simpa using T.sz,?_,?_,?_,?_,?_,?_,?_,?_,?_,?_,?_,?_,?_,?_⟩ <;> simp only [qh (show 1 < l.size by rw [T.sz];decide),zg (show (1:Nat)≠0 by decide),zg (show (1:Nat)≠2 by decide),zg (show (1:Nat)≠3 by decide),zg (show (1:Nat)≠4 by decide),zg (show (1:Nat)≠5 by decide),zg (show (1:Nat)≠6 by decide),zg (show (1:Nat)≠7 by decide),zg (show (1:Nat)≠8 by decide),zg (show (1:Nat)≠9 by decide),zg (show (1:Nat)≠10 by decide)]
 ·exact T.h0
 ·exact fun _=>(by first | trivial | rfl)
 ·exact T.h2
 ·exact T.h3
 ·exact T.h4
 ·exact T.h5
 ·exact T.h6
 ·exact T.h7
 ·exact T.h9
 ·exact T.h8a
 ·exact T.h8b
 ·exact T.h10
 ·exact fun h=>by have:=T.c8 h;simp [this]
 ·exact fun h=>by have:=T.c10 h;simp [this]
theorem PwR.s2 (T:PwR w6 g g' k f sx sy P l W v19 v20 v21 v22 v23 v24 v25 v26 v27 v28):PwR w6 g g' k f sx sy P (l.setIfInBounds 2 true) W v19 v20 (.int .i64 (k:Int)) v22 v23 v24 v25 v26 v27 v28:=by
 refine ⟨by simpa using T.sz,?_,?_,?_,?_,?_,?_,?_,?_,?_,?_,?_,?_,?_,?_⟩ <;> simp only [qh (show 2 < l.size by rw [T.sz];decide),zg (show (2:Nat)≠0 by decide),zg (show (2:Nat)≠1 by decide),zg (show (2:Nat)≠3 by decide),zg (show (2:Nat)≠4 by decide),zg (show (2:Nat)≠5 by decide),zg (show (2:Nat)≠6 by decide),zg (show (2:Nat)≠7 by decide),zg (show (2:Nat)≠8 by decide),zg (show (2:Nat)≠9 by decide),zg (show (2:Nat)≠10 by decide)]
 ·exact T.h0
 ·exact T.h1
 ·exact fun _=>(by first | trivial | rfl)
 ·exact T.h3
 ·exact T.h4
 ·exact T.h5
 ·exact T.h6
 ·exact T.h7
 ·exact T.h9
 ·exact T.h8a
 ·exact T.h8b
 ·exact T.h10
 ·exact fun h=>by have:=T.c8 h;simp [this]
 ·exact fun h=>by have:=T.c10 h;simp [this]
theorem PwR.s3 (T:PwR w6 g g' k f sx sy P l W v19 v20 v21 v22 v23 v24 v25 v26 v27 v28):PwR w6 g g' k f sx sy P (l.setIfInBounds 3 true) W v19 v20 v21 ((.pointer (some ⟨g,k,none⟩))) v23 v24 v25 v26 v27 v28:=by
 refine ⟨by simpa using T.sz,?_,?_,?_,?_,?_,?_,?_,?_,?_,?_,?_,?_,?_,?_⟩ <;> simp only [qh (show 3 < l.size by rw [T.sz];decide),zg (show (3:Nat)≠0 by decide),zg (show (3:Nat)≠1 by decide),zg (show (3:Nat)≠2 by decide),zg (show (3:Nat)≠4 by decide),zg (show (3:Nat)≠5 by decide),zg (show (3:Nat)≠6 by decide),zg (show (3:Nat)≠7 by decide),zg (show (3:Nat)≠8 by decide),zg (show (3:Nat)≠9 by decide),zg (show (3:Nat)≠10 by decide)]
 ·exact T.h0
 ·exact T.h1
 ·exact T.h2
 ·exact fun _=>(by first | trivial | rfl)
 ·exact T.h4
 ·exact T.h5
 ·exact T.h6
 ·exact T.h7
 ·exact T.h9
 ·exact T.h8a
 ·exact T.h8b
 ·exact T.h10
 ·exact fun h=>by have:=T.c8 h;simp [this]
 ·exact fun h=>by have:=T.c10 h;simp [this]
theorem PwR.s4 (T:PwR w6 g g' k f sx sy P l W v19 v20 v21 v22 v23 v24 v25 v26 v27 v28):PwR w6 g g' k f sx sy P (l.setIfInBounds 4 true) W v19 v20 v21 v22 (sx) v24 v25 v26 v27 v28:=by
 refine ⟨by simpa using T.sz,?_,?_,?_,?_,?_,?_,?_,?_,?_,?_,?_,?_,?_,?_⟩ <;> simp only [qh (show 4 < l.size by rw [T.sz];decide),zg (show (4:Nat)≠0 by decide),zg (show (4:Nat)≠1 by decide),zg (show (4:Nat)≠2 by decide),zg (show (4:Nat)≠3 by decide),zg (show (4:Nat)≠5 by decide),zg (show (4:Nat)≠6 by decide),zg (show (4:Nat)≠7 by decide),zg (show (4:Nat)≠8 by decide),zg (show (4:Nat)≠9 by decide),zg (show (4:Nat)≠10 by decide)]
 ·exact T.h0
 ·exact T.h1
 ·exact T.h2
 ·exact T.h3
 ·exact fun _=>(by first | trivial | rfl)
 ·exact T.h5
 ·exact T.h6
 ·exact T.h7
 ·exact T.h9
 ·exact T.h8a
 ·exact T.h8b
 ·exact T.h10
 ·exact fun h=>by have:=T.c8 h;simp [this]
 ·exact fun h=>by have:=T.c10 h;simp [this]
theorem PwR.s5 (T:PwR w6 g g' k f sx sy P l W v19 v20 v21 v22 v23 v24 v25 v26 v27 v28):PwR w6 g g' k f sx sy P (l.setIfInBounds 5 true) W v19 v20 v21 v22 v23 (.int .i64 (k:Int)) v25 v26 v27 v28:=by
 refine ⟨by simpa using T.sz,?_,?_,?_,?_,?_,?_,?_,?_,?_,?_,?_,?_,?_,?_⟩ <;> simp only [qh (show 5 < l.size by rw [T.sz];decide),zg (show (5:Nat)≠0 by decide),zg (show (5:Nat)≠1 by decide),zg (show (5:Nat)≠2 by decide),zg (show (5:Nat)≠3 by decide),zg (show (5:Nat)≠4 by decide),zg (show (5:Nat)≠6 by decide),zg (show (5:Nat)≠7 by decide),zg (show (5:Nat)≠8 by decide),zg (show (5:Nat)≠9 by decide),zg (show (5:Nat)≠10 by decide)]
 ·exact T.h0
 ·exact T.h1
 ·exact T.h2
 ·exact T.h3
 ·exact T.h4
 ·exact fun _=>(by first | trivial | rfl)
 ·exact T.h6
 ·exact T.h7
 ·exact T.h9
 ·exact T.h8a
 ·exact T.h8b
 ·exact T.h10
 ·exact fun h=>by have:=T.c8 h;simp [this]
 ·exact fun h=>by have:=T.c10 h;simp [this]
theorem PwR.s6 (T:PwR w6 g g' k f sx sy P l W v19 v20 v21 v22 v23 v24 v25 v26 v27 v28):PwR w6 g g' k f sx sy P (l.setIfInBounds 6 true) W v19 v20 v21 v22 v23 v24 ((.pointer (some ⟨g',k,none⟩))) v26 v27 v28:=by
 refine ⟨by simpa using T.sz,?_,?_,?_,?_,?_,?_,?_,?_,?_,?_,?_,?_,?_,?_⟩ <;> simp only [qh (show 6 < l.size by rw [T.sz];decide),zg (show (6:Nat)≠0 by decide),zg (show (6:Nat)≠1 by decide),zg (show (6:Nat)≠2 by decide),zg (show (6:Nat)≠3 by decide),zg (show (6:Nat)≠4 by decide),zg (show (6:Nat)≠5 by decide),zg (show (6:Nat)≠7 by decide),zg (show (6:Nat)≠8 by decide),zg (show (6:Nat)≠9 by decide),zg (show (6:Nat)≠10 by decide)]
 ·exact T.h0
 ·exact T.h1
 ·exact T.h2
 ·exact T.h3
 ·exact T.h4
 ·exact T.h5
 ·exact fun _=>(by first | trivial | rfl)
 ·exact T.h7
 ·exact T.h9
 ·exact T.h8a
 ·exact T.h8b
 ·exact T.h10
 ·exact fun h=>by have:=T.c8 h;simp [this]
 ·exact fun h=>by have:=T.c10 h;simp [this]
theorem PwR.s7 (T:PwR w6 g g' k f sx sy P l W v19 v20 v21 v22 v23 v24 v25 v26 v27 v28):PwR w6 g g' k f sx sy P (l.setIfInBounds 7 true) W v19 v20 v21 v22 v23 v24 v25 (sy) v27 v28:=by
 refine ⟨by simpa using T.sz,?_,?_,?_,?_,?_,?_,?_,?_,?_,?_,?_,?_,?_,?_⟩ <;> simp only [qh (show 7 < l.size by rw [T.sz];decide),zg (show (7:Nat)≠0 by decide),zg (show (7:Nat)≠1 by decide),zg (show (7:Nat)≠2 by decide),zg (show (7:Nat)≠3 by decide),zg (show (7:Nat)≠4 by decide),zg (show (7:Nat)≠5 by decide),zg (show (7:Nat)≠6 by decide),zg (show (7:Nat)≠8 by decide),zg (show (7:Nat)≠9 by decide),zg (show (7:Nat)≠10 by decide)]
 ·exact T.h0
 ·exact T.h1
 ·exact T.h2
 ·exact T.h3
 ·exact T.h4
 ·exact T.h5
 ·exact T.h6
 ·exact fun _=>(by first | trivial | rfl)
 ·exact T.h9
 ·exact T.h8a
 ·exact T.h8b
 ·exact T.h10
 ·exact fun h=>by have:=T.c8 h;simp [this]
 ·exact fun h=>by have:=T.c10 h;simp [this]
theorem PwR.s9 (T:PwR w6 g g' k f sx sy P l W v19 v20 v21 v22 v23 v24 v25 v26 v27 v28):PwR w6 g g' k f sx sy P (l.setIfInBounds 9 true) W v19 v20 v21 v22 v23 v24 v25 v26 v27 ((.pointer (some ⟨g,k,none⟩))):=by
 refine ⟨by simpa using T.sz,?_,?_,?_,?_,?_,?_,?_,?_,?_,?_,?_,?_,?_,?_⟩ <;> simp only [qh (show 9 < l.size by rw [T.sz];decide),zg (show (9:Nat)≠0 by decide),zg (show (9:Nat)≠1 by decide),zg (show (9:Nat)≠2 by decide),zg (show (9:Nat)≠3 by decide),zg (show (9:Nat)≠4 by decide),zg (show (9:Nat)≠5 by decide),zg (show (9:Nat)≠6 by decide),zg (show (9:Nat)≠7 by decide),zg (show (9:Nat)≠8 by decide),zg (show (9:Nat)≠10 by decide)]
 ·exact T.h0
 ·exact T.h1
 ·exact T.h2
 ·exact T.h3
 ·exact T.h4
 ·exact T.h5
 ·exact T.h6
 ·exact T.h7
 ·exact fun _=>(by first | trivial | rfl)
 ·exact T.h8a
 ·exact T.h8b
 ·exact T.h10
 ·exact fun h=>by have:=T.c8 h;simp [this]
 ·exact fun h=>by have:=T.c10 h;simp [this]
theorem PwR.s8 (T:PwR w6 g g' k f sx sy P l W v19 v20 v21 v22 v23 v24 v25 v26 v27 v28) (d1:l.getD 1 false=true) (d4:l.getD 4 false=true) (d7:l.getD 7 false=true) (n10:l.getD 10 false=false) {W':World} {v:Value} (hP:P W' v):PwR w6 g g' k f sx sy P (l.setIfInBounds 8 true) W' v19 v20 v21 v22 v23 v24 v25 v26 v v28:=by
 refine ⟨by simpa using T.sz,?_,?_,?_,?_,?_,?_,?_,?_,?_,?_,?_,?_,?_,?_⟩ <;> simp only [qh (show 8 < l.size by rw [T.sz];decide),zg (show (8:Nat)≠0 by decide),zg (show (8:Nat)≠1 by decide),zg (show (8:Nat)≠2 by decide),zg (show (8:Nat)≠3 by decide),zg (show (8:Nat)≠4 by decide),zg (show (8:Nat)≠5 by decide),zg (show (8:Nat)≠6 by decide),zg (show (8:Nat)≠7 by decide),zg (show (8:Nat)≠9 by decide),zg (show (8:Nat)≠10 by decide)]
 ·exact T.h0
 ·exact T.h1
 ·exact T.h2
 ·exact T.h3
 ·exact T.h4
 ·exact T.h5
 ·exact T.h6
 ·exact T.h7
 ·exact T.h9
 ·exact fun h=>(by cases h)
 ·exact fun _ _=>hP
 ·exact fun h=>absurd h (by rw [n10];decide)
 ·exact fun _=>⟨d1,d4,d7⟩
 ·exact fun h=>absurd h (by rw [n10];decide)
theorem PwR.s10 (T:PwR w6 g g' k f sx sy P l W v19 v20 v21 v22 v23 v24 v25 v26 v27 v28) (d8:l.getD 8 false=true) (d9:l.getD 9 false=true) (n10:l.getD 10 false=false):PwR w6 g g' k f sx sy P (l.setIfInBounds 10 true) (W.setCell ⟨g,k,none⟩ v27) v19 v20 v21 v22 v23 v24 v25 v26 v27 v28:=by
 refine ⟨by simpa using T.sz,?_,?_,?_,?_,?_,?_,?_,?_,?_,?_,?_,?_,?_,?_⟩ <;> simp only [qh (show 10 < l.size by rw [T.sz];decide),zg (show (10:Nat)≠0 by decide),zg (show (10:Nat)≠1 by decide),zg (show (10:Nat)≠2 by decide),zg (show (10:Nat)≠3 by decide),zg (show (10:Nat)≠4 by decide),zg (show (10:Nat)≠5 by decide),zg (show (10:Nat)≠6 by decide),zg (show (10:Nat)≠7 by decide),zg (show (10:Nat)≠8 by decide),zg (show (10:Nat)≠9 by decide)]
 ·exact T.h0
 ·exact T.h1
 ·exact T.h2
 ·exact T.h3
 ·exact T.h4
 ·exact T.h5
 ·exact T.h6
 ·exact T.h7
 ·exact T.h9
 ·exact fun h=>absurd h (by rw [d8];decide)
 ·exact fun _ h=>(by cases h)
 ·exact fun _=>⟨W,T.h8b d8 n10,rfl⟩
 ·exact T.c8
 ·exact fun _=>⟨d8,d9⟩
theorem PwR.start (w6:World) (g g' k:Nat) (f sx sy:Value) (P:World -> Value -> Prop) (v19 v20 v21 v22 v23 v24 v25 v26 v27 v28:Value):PwR w6 g g' k f sx sy P (Array.replicate 11 false) w6.drew v19 v20 v21 v22 v23 v24 v25 v26 v27 v28:=by
 refine ⟨by simp,?_,?_,?_,?_,?_,?_,?_,?_,?_,?_,?_,?_,?_,?_⟩ <;> simp only [yg]
 ·intro h;cases h
 ·intro h;cases h
 ·intro h;cases h
 ·intro h;cases h
 ·intro h;cases h
 ·intro h;cases h
 ·intro h;cases h
 ·intro h;cases h
 ·intro h;cases h
 ·exact fun _=>(by first | trivial | rfl)
 ·intro h;cases h
 ·intro h;cases h
 ·intro h;cases h
 ·intro h;cases h
end
theorem zbs (a b:Pv) (w:World) (hA:am w a) (hB:am w b) :
  Calls Tryz.prog 149 #[PV a,PV b,.func (.func 150) #[] #[]] w fun e w'=>∃ p:Pv,e = .returned (PV p)/\am w' p/\dA w.heap.size p/\Below w.heap.size w w'/\∃ C:Nat -> List Rn,(∀ r,r < 16 -> ey (aa a.P r) (aa b.P r) (C r))/\af C p.P:=by
 have b1:=ze w (.cells (PC a) 26);have b2:=ze (w.alloc (.cells (PC a) 26)) (.cells (PC b) 26);have p2:=zm (w.alloc (.cells (PC a) 26)) b;rw [World.size_alloc] at p2;have b3:=ze ((w.alloc (.cells (PC a) 26)).alloc (.cells (PC b) 26)) (.cells (PC pv0) 26);have p3:=zm ((w.alloc (.cells (PC a) 26)).alloc (.cells (PC b) 26)) pv0;simp only [World.size_alloc] at p3;have lX:=hide (((zm w a).below b2).below b3);have i9:=hide (p2.below b3);have Dy:=hide p3;have al:=hide (tmq b1 (b2.trans (b3.mono b2.size)));have GY:=hide (wL hA);have Gy:=hide (wL hB);have iu:=hide (hA.below al);have gC:=hide (hB.below al)
 have BL:Hid ((((w.alloc (.cells (PC a) 26)).alloc (.cells (PC b) 26)).alloc (.cells (PC pv0) 26)).heap.size=w.heap.size+3):=by show _=_;simp
 clear hA hB b1 b2 p2 b3 p3;obtain ⟨wk,AP⟩:∃ wk,Hid ((((w.alloc (.cells (PC a) 26)).alloc (.cells (PC b) 26)).alloc (.cells (PC pv0) 26))=wk):=⟨_,rfl⟩;rw [AP.out] at lX i9 al iu gC BL Dy;go_enter Tryz.func149,Tryz.ntmps149;go_wp2_with fail;rw [AP.out];clear AP;refine qP (by kernel_rfl) (fun l x W=>∃ va xa ca vb xb cb ba bb,x={ tmps:=#[PV a,PV b,.func (.func 150) #[] #[],ptr w.heap.size,ptr (w.heap.size+1),undef,ptr (w.heap.size+1+1),ba,bb,undef,va,xa,ca,vb,xb,cb,undef,undef,undef,undef,undef,undef,undef,undef,undef,undef,undef,undef,undef,undef,undef,undef],defers:=[] }/\cT wk a b l W va xa ca vb xb cb ba bb) ⟨undef,undef,undef,undef,undef,undef,undef,undef,rfl,cT.start wk a b _ _ _ _ _ _ _ _⟩ ?_ ?_ ?_
 ·rintro l x W ⟨va,xa,ca,vb,xb,cb,ba,bb,rfl,T⟩;exact T.sz
 ·rintro l x W ⟨va,xa,ca,vb,xb,cb,ba,bb,rfl,T⟩ i hi;obtain ⟨cW,cX,aT⟩:=x4 hi;have aY:=vL cX
  have hc:i=0∨i=1∨i=2∨i=3∨i=4∨i=5∨i=6∨i=7∨i=8∨i=9:=by have h:i < 10:=cW;omega
  have HT:=hide T;rcases hc with rfl | rfl | rfl | rfl | rfl | rfl | rfl | rfl | rfl | rfl
  ·have l1:=zj (lX.below T.b).at
   clear T;clear hi cW cX aT aY;refine wpOp_step (o:=⟨some 10,.load 26 (.tmp 3),26, "sets.go:22",#[],none⟩) rfl (fun K hK=>?_);go_simp;exact hK _ _ ⟨PV a,xa,ca,vb,xb,cb,ba,bb,rfl,HT.s0⟩
  ·have d0:=aT _ rfl { on:=0,ground:=Ground.data } (by simp) rfl;obtain rfl:=T.h0 d0;clear T d0;clear hi cW cX aT aY;refine wpOp_step (o:=⟨some 11,.buildSlice 151 1 #[(0,.tmp 10)],151, "sets.go:22",#[⟨0,.data⟩],none⟩) rfl (fun K hK=>?_);go_simp;exact hK _ _ ⟨_,.slice (some ⟨W.heap.size,0,none⟩) 1 1,ca,vb,xb,cb,ba,bb,rfl,HT.s1 (iu.below HT.b)⟩
  ·have d1:=aT _ rfl { on:=1,ground:=Ground.data } (by simp) rfl
   have n8:l.getD 8 false=false:=by
    cases e:l.getD 8 false with
    | false=>rfl
    | true=>have:=HT.c8 e;simp [aY] at this
   obtain ⟨g,rfl,R⟩:=T.h1 d1 n8;have HR:=hide R;have AJ:=hide n8;clear T d1 R n8;clear hi cW cX aT aY;refine wpOp_step (o:=⟨some 12,.call ⟨.value (.func 90),#[.tmp 11],#[151]⟩,136, "sets.go:22",#[⟨1,.data⟩],none⟩) rfl (fun K hK=>?_);go_simp;go_wp2_with fail;refine (xw _ 1 1 [a] _ HR.out GY.out (by omega)).mono ?_;rintro e w' ⟨F,rfl,RF,bF⟩;exact hK _ _ ⟨va,_,SAv F,vb,xb,cb,ba,bb,rfl,HT.s2 AJ.out RF bF⟩
  ·have l1:=zj (i9.below T.b).at
   clear T;clear hi cW cX aT aY;refine wpOp_step (o:=⟨some 13,.load 26 (.tmp 4),26, "sets.go:22",#[],none⟩) rfl (fun K hK=>?_);go_simp;exact hK _ _ ⟨va,xa,ca,PV b,xb,cb,ba,bb,rfl,HT.s3⟩
  ·have d3:=aT _ rfl { on:=3,ground:=Ground.data } (by simp) rfl;obtain rfl:=T.h3 d3;clear T d3;clear hi cW cX aT aY;refine wpOp_step (o:=⟨some 14,.buildSlice 151 1 #[(0,.tmp 13)],151, "sets.go:22",#[⟨3,.data⟩],none⟩) rfl (fun K hK=>?_);go_simp;exact hK _ _ ⟨va,xa,ca,_,.slice (some ⟨W.heap.size,0,none⟩) 1 1,cb,ba,bb,rfl,HT.s4 (gC.below HT.b)⟩
  ·have d4:=aT _ rfl { on:=4,ground:=Ground.data } (by simp) rfl;have d2:=aT _ rfl { on:=2,ground:=Ground.chain } (by simp) rfl
   have n8:l.getD 8 false=false:=by
    cases e:l.getD 8 false with
    | false=>rfl
    | true=>have:=HT.c8 e;simp [aY] at this
   have n9:l.getD 9 false=false:=by
    cases e:l.getD 9 false with
    | false=>rfl
    | true=>have:=HT.c9 e;simp [aY] at this
   obtain ⟨g,rfl,R⟩:=T.h4 d4 n8;have HR:=hide R;have AK:=hide n9;clear T d4 d2 R n8 n9;clear hi cW cX aT aY;refine wpOp_step (o:=⟨some 15,.call ⟨.value (.func 90),#[.tmp 14],#[151]⟩,136, "sets.go:22",#[⟨4,.data⟩,⟨2,.chain⟩],none⟩) rfl (fun K hK=>?_);go_simp;go_wp2_with fail;refine (xw _ 1 1 [b] _ HR.out Gy.out (by omega)).mono ?_;rintro e w' ⟨F,rfl,RF,bF⟩;exact hK _ _ ⟨va,xa,ca,vb,_,SAv F,ba,bb,rfl,HT.s5 AK.out RF bF⟩
  ·have n8:l.getD 8 false=false:=by
    cases e:l.getD 8 false with
    | false=>rfl
    | true=>have:=HT.c8 e;simp [aY] at this
   have AJ:=hide n8;clear T n8;clear hi cW cX aT aY;refine wpOp_step (o:=⟨some 7,.alloc 136,0, "sets.go:22",#[],none⟩) rfl (fun K hK=>?_);go_simp;exact hK _ _ ⟨va,xa,ca,vb,xb,cb,ptr W.heap.size,bb,rfl,HT.s6 AJ⟩
  ·have n9:l.getD 9 false=false:=by
    cases e:l.getD 9 false with
    | false=>rfl
    | true=>have:=HT.c9 e;simp [aY] at this
   have AK:=hide n9;clear T n9;clear hi cW cX aT aY;refine wpOp_step (o:=⟨some 8,.alloc 136,0, "sets.go:22",#[],none⟩) rfl (fun K hK=>?_);go_simp;exact hK _ _ ⟨va,xa,ca,vb,xb,cb,ba,ptr W.heap.size,rfl,HT.s7 AK⟩
  ·have d2:=aT _ rfl { on:=2,ground:=Ground.data } (by simp) rfl;have d5:=aT _ rfl { on:=5,ground:=Ground.chain } (by simp) rfl;have d6:=aT _ rfl { on:=6,ground:=Ground.data } (by simp) rfl;have d7:=aT _ rfl { on:=7,ground:=Ground.phase } (by simp) rfl;obtain ⟨F,g,rfl,rfl,ST,T2⟩:=T.s8 d2 d5 d6 d7 aY;have s1:=wY (F':=F) ST;have nf:=hide T2;clear T T2 ST d2 d5 d6 d7;clear hi cW cX aT aY;refine wpOp_step (o:=⟨none,.store 136 (.tmp 7) (.tmp 12),0, "sets.go:22",#[⟨6,.data⟩,⟨2,.data⟩,⟨5,.chain⟩,⟨0,.phase⟩,⟨1,.phase⟩,⟨2,.phase⟩,⟨3,.textOnly .lateStores⟩,⟨4,.textOnly .lateStores⟩,⟨5,.textOnly .lateStoresUnsure⟩,⟨6,.phase⟩,⟨7,.phase⟩],none⟩) rfl (fun K hK=>?_);go_simp;exact hK _ _ ⟨va,xa,_,vb,xb,cb,_,bb,rfl,nf.out⟩
  ·have d5:=aT _ rfl { on:=5,ground:=Ground.data } (by simp) rfl;have d7:=aT _ rfl { on:=7,ground:=Ground.data } (by simp) rfl;have d8:=aT _ rfl { on:=8,ground:=Ground.chain } (by simp) rfl;obtain ⟨F,g,rfl,rfl,ST,T2⟩:=T.s9 d5 d7 d8 aY;have s1:=wY (F':=F) ST;have nf:=hide T2;clear T T2 ST d5 d7 d8;clear hi cW cX aT aY;refine wpOp_step (o:=⟨none,.store 136 (.tmp 8) (.tmp 15),0, "sets.go:22",#[⟨7,.data⟩,⟨5,.data⟩,⟨8,.chain⟩,⟨0,.phase⟩,⟨1,.phase⟩,⟨2,.phase⟩,⟨3,.phase⟩,⟨4,.phase⟩,⟨5,.phase⟩,⟨6,.phase⟩,⟨7,.phase⟩,⟨8,.phase⟩],none⟩) rfl (fun K hK=>?_);go_simp;exact hK _ _ ⟨va,xa,ca,vb,xb,_,ba,_,rfl,nf.out⟩
 ·rintro l x W ⟨va,xa,ca,vb,xb,cb,ba,bb,rfl,T⟩ fJ;obtain ⟨F,G,g,g',rfl,rfl,rfl,rfl,rfl,rfl,dx,cP,lV,iZ,ni,se,Eq,Df,DN,El⟩:=T.all (fun i hi=>xS (by kernel_rfl) T.sz fJ i hi);have tL:=hide dx;have Bf:=hide cP;have D6:=hide lV;have dg:=hide iZ;have dZ:=hide ni;have o5:=hide se;have Bm:=hide Eq;have mO:=hide Df;have rS:=hide DN;have At:=hide El;clear T fJ dx cP lV iZ ni se Eq Df DN El
  rename World=>w5
  have nV:Hid (PwI wk w5 g g' F G (aa a.P) (aa b.P) ey 0):=⟨dg.out,dZ.out,(fun r h=>by omega),fun r _ hr=>⟨o5.src r hr,by rw [o5.eq r hr,xg]⟩,fun r hr=>⟨Bm.src r hr,by rw [Bm.eq r hr,xg]⟩,mO.out,rS.out,At.out,Bf.out,tL.out⟩;clear dg dZ o5 Bm mO rS At;obtain ⟨F0,Ac⟩:∃ F0,F=F0:=⟨_,rfl⟩;rw [Ac] at nV ⊢;clear Ac;go_wp2_with fail;go_loopw [16] (fun i wr=>∃ (k:Nat) (F:Nat -> Sl),k <= 16/\i = .int .i64 k/\Hid (PwI wk wr g g' F G (aa a.P) (aa b.P) ey k)) (fun i _=>16 - (intOf i).toNat)
  case atStart=>exact ⟨0,F0,Nat.zero_le _,rfl,nV⟩
  case round =>
   obtain ⟨k,F,hk,rfl,HI⟩:=hrel
   rename World=>w6
   clear nV;by_cases ak:k < 16
   ·have k1:=HI.s.cell k ak;have k2:=HI.y.cell k ak;obtain ⟨R1,e1⟩:=HI.old k (Nat.le_refl _) ak;obtain ⟨R2,e2⟩:=HI.gs k ak;rw [e1] at R1;rw [e2] at R2;clear e1 e2;obtain ⟨sa,sn,sc,hf⟩:∃ sa sn sc,(F k).ao=sa/\(F k).n=sn/\(F k).cap=sc:=⟨_,_,_,rfl,rfl,rfl⟩;obtain ⟨ta,tn,tc,hg⟩:∃ ta tn tc,(G k).ao=ta/\(G k).n=tn/\(G k).cap=tc:=⟨_,_,_,rfl,rfl,rfl⟩;rw [hf.1,hf.2.1,hf.2.2] at k1 R1;rw [hg.1,hg.2.1,hg.2.2] at k2 R2;clear hf hg;have nP:=hide (R1.below (zf w6));have eC:=hide (R2.below (zf w6));have oF:=hide HI.s
    have q0:(0:Int) <= (k:Int):=by omega
    have q1:(k:Int) < 16:=by omega
    clear R1 R2;go_wp2_with fail;refine qP (by kernel_rfl) (fun l x W=>∃ v19 v20 v21 v22 v23 v24 v25 v26 v27 v28,x={ tmps:=#[PV a,PV b,.func (.func 150) #[] #[],ptr w.heap.size,ptr (w.heap.size+1),undef,ptr (w.heap.size+1+1),ptr g,ptr g',.int .i64 (k:Int),PV a,xa,SAv F0,PV b,xb,SAv G,.int .i64 (k:Int),.bool true,.int .i64 (k:Int),v19,v20,v21,v22,v23,v24,v25,v26,v27,v28,u29,undef,undef],defers:=[] }/\PwR w6 g g' k (.func (.func 150) #[] #[]) (.slice sa sn sc) (.slice ta tn tc) (PwP w6 ey (aa a.P k) (aa b.P k)) l W v19 v20 v21 v22 v23 v24 v25 v26 v27 v28) ⟨u19,u20,u21,u22,u23,u24,u25,u26,u27,u28,rfl,PwR.start _ _ _ _ _ _ _ _ _ _ _ _ _ _ _ _ _ _⟩ ?_ ?_ ?_
    ·rintro l x W ⟨v19,v20,v21,v22,v23,v24,v25,v26,v27,v28,rfl,T⟩;exact T.sz
    ·rintro l x W ⟨v19,v20,v21,v22,v23,v24,v25,v26,v27,v28,rfl,T⟩ i hi;obtain ⟨cW,cX,aT⟩:=x4 hi;have aY:=vL cX
     have hc:i=0∨i=1∨i=2∨i=3∨i=4∨i=5∨i=6∨i=7∨i=8∨i=9∨i=10:=by have h:i < 11:=cW;omega
     have HT:=hide T;rcases hc with rfl | rfl | rfl | rfl | rfl | rfl | rfl | rfl | rfl | rfl | rfl
     ·clear T;clear hi cW cX aT aY;refine wpOp_step (o:=⟨some 19,.move (.tmp 9),3, "sets.go:24",#[],none⟩) rfl (fun K hK=>?_);go_simp;exact hK _ _ ⟨.int .i64 (k:Int),v20,v21,v22,v23,v24,v25,v26,v27,v28,rfl,HT.s0⟩
     ·clear T;clear hi cW cX aT aY;refine wpOp_step (o:=⟨some 20,.move (.tmp 2),190, "sets.go:24",#[],none⟩) rfl (fun K hK=>?_);go_simp;exact hK _ _ ⟨v19,_,v21,v22,v23,v24,v25,v26,v27,v28,rfl,HT.s1⟩
     ·clear T;clear hi cW cX aT aY;refine wpOp_step (o:=⟨some 21,.move (.tmp 9),3, "sets.go:24",#[],none⟩) rfl (fun K hK=>?_);go_simp;exact hK _ _ ⟨v19,v20,.int .i64 (k:Int),v22,v23,v24,v25,v26,v27,v28,rfl,HT.s2⟩
     ·have d2:=aT _ rfl { on:=2,ground:=Ground.data } (by simp) rfl;obtain rfl:=T.h2 d2;clear T d2;clear hi cW cX aT aY;refine wpOp_step (o:=⟨some 22,.indexAddr 136 (.tmp 7) (.tmp 21),0, "sets.go:24",#[⟨2,.data⟩],none⟩) rfl (fun K hK=>?_);go_simp;exact hK _ _ ⟨v19,v20,_,_,v23,v24,v25,v26,v27,v28,rfl,HT.s3⟩
     ·have d3:=aT _ rfl { on:=3,ground:=Ground.data } (by simp) rfl
      have n8:l.getD 8 false=false:=by
       cases e:l.getD 8 false with
       | false=>rfl
       | true=>have:=HT.c8 e;simp [aY] at this
      obtain rfl:=T.h3 d3;obtain rfl:=T.h8a n8;clear T d3 n8;clear hi cW cX aT aY;refine wpOp_step (o:=⟨some 23,.load 134 (.tmp 22),134, "sets.go:24",#[⟨3,.data⟩],none⟩) rfl (fun K hK=>?_);go_simp;exact hK _ _ ⟨v19,v20,v21,_,_,v24,v25,v26,v27,v28,rfl,HT.s4⟩
     ·clear T;clear hi cW cX aT aY;refine wpOp_step (o:=⟨some 24,.move (.tmp 9),3, "sets.go:24",#[],none⟩) rfl (fun K hK=>?_);go_simp;exact hK _ _ ⟨v19,v20,v21,v22,v23,.int .i64 (k:Int),v25,v26,v27,v28,rfl,HT.s5⟩
     ·have d5:=aT _ rfl { on:=5,ground:=Ground.data } (by simp) rfl;obtain rfl:=T.h5 d5;clear T d5;clear hi cW cX aT aY;refine wpOp_step (o:=⟨some 25,.indexAddr 136 (.tmp 8) (.tmp 24),0, "sets.go:24",#[⟨5,.data⟩],none⟩) rfl (fun K hK=>?_);go_simp;exact hK _ _ ⟨v19,v20,v21,v22,v23,_,_,v26,v27,v28,rfl,HT.s6⟩
     ·have d6:=aT _ rfl { on:=6,ground:=Ground.data } (by simp) rfl
      have n8:l.getD 8 false=false:=by
       cases e:l.getD 8 false with
       | false=>rfl
       | true=>have:=HT.c8 e;simp [aY] at this
      obtain rfl:=T.h6 d6;obtain rfl:=T.h8a n8;clear T d6 n8;clear hi cW cX aT aY;refine wpOp_step (o:=⟨some 26,.load 134 (.tmp 25),134, "sets.go:24",#[⟨6,.data⟩],none⟩) rfl (fun K hK=>?_);go_simp;exact hK _ _ ⟨v19,v20,v21,v22,v23,v24,_,_,v27,v28,rfl,HT.s7⟩
     ·have d1:=aT _ rfl { on:=1,ground:=Ground.data } (by simp) rfl;have d4:=aT _ rfl { on:=4,ground:=Ground.data } (by simp) rfl;have d7:=aT _ rfl { on:=7,ground:=Ground.data } (by simp) rfl
      have n10:l.getD 10 false=false:=by
       cases e:l.getD 10 false with
       | false=>rfl
       | true=>have:=HT.c10 e;simp [aY] at this
      obtain rfl:=T.h1 d1;obtain rfl:=T.h4 d4;obtain rfl:=T.h7 d7;obtain rfl:=T.h8a aY;have HD:=hide (And.intro d1 (And.intro d4 (And.intro d7 n10)));clear T d1 d4 d7 n10;clear hi cW cX aT aY;refine wpOp_step (o:=⟨some 27,.call ⟨.value (.tmp 20),#[.tmp 23,.tmp 26],#[134,134]⟩,134, "sets.go:24",#[⟨1,.data⟩,⟨4,.data⟩,⟨7,.data⟩],none⟩) rfl (fun K hK=>?_);go_simp;go_wp2_with fail;refine (zdb sa ta sn sc tn tc _ _ _ nP.out eC).mono ?_;rintro e w' ⟨a1,n1,c1,R1,rfl,S1,b1,f1,p1⟩;exact hK _ _ ⟨v19,_,v21,v22,_,v24,v25,_,.slice a1 n1 c1,v28,rfl,HT.s8 HD.1 HD.2.1 HD.2.2.1 HD.2.2.2 ⟨a1,n1,c1,R1,rfl,S1,(zf w6).trans (b1.mono (Nat.le_refl _)),f1,p1⟩⟩
     ·have d0:=aT _ rfl { on:=0,ground:=Ground.data } (by simp) rfl;obtain rfl:=T.h0 d0;clear T d0;clear hi cW cX aT aY;refine wpOp_step (o:=⟨some 28,.indexAddr 136 (.tmp 7) (.tmp 19),0, "sets.go:24",#[⟨0,.data⟩,⟨0,.phase⟩,⟨1,.phase⟩,⟨2,.phase⟩,⟨3,.phase⟩,⟨4,.phase⟩,⟨5,.phase⟩,⟨6,.phase⟩,⟨7,.phase⟩,⟨8,.phase⟩],none⟩) rfl (fun K hK=>?_);go_simp;exact hK _ _ ⟨_,v20,v21,v22,v23,v24,v25,v26,v27,_,rfl,HT.s9⟩
     ·have d8:=aT _ rfl { on:=8,ground:=Ground.data } (by simp) rfl;have d9:=aT _ rfl { on:=9,ground:=Ground.data } (by simp) rfl;obtain rfl:=T.h9 d9;obtain ⟨a1,n1,c1,R1,rfl,S1,b1,f1,p1⟩:=T.h8b d8 aY;have e1:=(oF.below b1).cell k ak;have e2:=(oF.below b1).frozen k;have nf:=hide (T.s10 d8 d9 aY);clear T d8 d9 S1 b1 f1 p1;clear hi cW cX aT aY;refine wpOp_step (o:=⟨none,.store 134 (.tmp 28) (.tmp 27),0, "sets.go:24",#[⟨9,.data⟩,⟨8,.data⟩,⟨8,.chain⟩,⟨0,.phase⟩,⟨1,.phase⟩,⟨2,.phase⟩,⟨3,.phase⟩,⟨4,.phase⟩,⟨5,.phase⟩,⟨6,.phase⟩,⟨7,.phase⟩,⟨8,.phase⟩],none⟩) rfl (fun K hK=>?_);go_simp;exact hK _ _ ⟨v19,v20,v21,v22,v23,v24,v25,v26,_,_,rfl,nf.out⟩
    ·rintro l x W ⟨v19,v20,v21,v22,v23,v24,v25,v26,v27,v28,rfl,T⟩ fJ;have aW:=fun i (hi:i < 11)=>xS (by kernel_rfl) T.sz fJ i hi;obtain ⟨W0,⟨a1,n1,c1,R1,rfl,S1,b1,f1,p1⟩,rfl⟩:=T.h10 (aW 10 (by decide));have HN:=hide (HI.step ak b1 S1 f1 p1);clear T fJ aW S1 b1 f1 p1;go_wp2_with fail;go_roundw
     case rel=>exact ⟨k+1,_,by omega,by go_num,HN.out⟩
     case measure=>simp [intOf];omega
   ·obtain rfl:k=16:=by omega
    have l1:=wZ HI.s;go_wp2_with fail;refine (qV F _ (fun r hr=>(HI.new r hr).1)).mono ?_;rintro e w7 ⟨p,rfl,S7,n7,b7,c7⟩;obtain ⟨s1,e1,e2,e3,e4⟩:=qu (w:=w) (g:=w.heap.size+1+1) ((HI.b.block _ (by have:=BL.out;omega)).trans Dy.out |> fun h=>(b7.block _ (Array.getElem?_eq_some_iff.1 h).1).trans h) S7 (n7.mono (by have h1:=HI.b.size;have h2:=BL.out;omega)) (tmq al (HI.b.trans (b7.mono HI.b.size))) (by omega);have df:=hide e1;have iT:Hid (∃ p':Pv,Ending.returned (PV p) = .returned (PV p')/\am (w7.setRow (w.heap.size+1+1) (PC p)) p'/\dA w.heap.size p'/\Below w.heap.size w (w7.setRow (w.heap.size+1+1) (PC p))/\∃ C:Nat -> List Rn,(∀ r,r < 16 -> ey (aa a.P r) (aa b.P r) (C r))/\af C p'.P):=⟨p,rfl,e2,e3,e4,fun r=>(F r).L,fun r hr=>(HI.new r hr).2,c7⟩
    clear S7 n7 b7 c7 e1 e2 e3 e4;go_wp2_with fail;exact bodyPost_ret (v:=PV p) (eR Tryz.results149 rfl df) rfl iT.out
theorem zas (a b:Pv) (w:World) (hA:am w a) (hB:am w b) :
  Calls Tryz.prog 149 #[PV a,PV b,.func (.func 174) #[] #[]] w fun e w'=>∃ p:Pv,e = .returned (PV p)/\am w' p/\dA w.heap.size p/\Below w.heap.size w w'/\∃ C:Nat -> List Rn,(∀ r,r < 16 -> cB (aa a.P r) (aa b.P r) (C r))/\af C p.P:=by
 have b1:=ze w (.cells (PC a) 26);have b2:=ze (w.alloc (.cells (PC a) 26)) (.cells (PC b) 26);have p2:=zm (w.alloc (.cells (PC a) 26)) b;rw [World.size_alloc] at p2;have b3:=ze ((w.alloc (.cells (PC a) 26)).alloc (.cells (PC b) 26)) (.cells (PC pv0) 26);have p3:=zm ((w.alloc (.cells (PC a) 26)).alloc (.cells (PC b) 26)) pv0;simp only [World.size_alloc] at p3;have lX:=hide (((zm w a).below b2).below b3);have i9:=hide (p2.below b3);have Dy:=hide p3;have al:=hide (tmq b1 (b2.trans (b3.mono b2.size)));have GY:=hide (wL hA);have Gy:=hide (wL hB);have iu:=hide (hA.below al);have gC:=hide (hB.below al)
 have BL:Hid ((((w.alloc (.cells (PC a) 26)).alloc (.cells (PC b) 26)).alloc (.cells (PC pv0) 26)).heap.size=w.heap.size+3):=by show _=_;simp
 clear hA hB b1 b2 p2 b3 p3;obtain ⟨wk,AP⟩:∃ wk,Hid ((((w.alloc (.cells (PC a) 26)).alloc (.cells (PC b) 26)).alloc (.cells (PC pv0) 26))=wk):=⟨_,rfl⟩;rw [AP.out] at lX i9 al iu gC BL Dy;go_enter Tryz.func149,Tryz.ntmps149;go_wp2_with fail;rw [AP.out];clear AP;refine qP (by kernel_rfl) (fun l x W=>∃ va xa ca vb xb cb ba bb,x={ tmps:=#[PV a,PV b,.func (.func 174) #[] #[],ptr w.heap.size,ptr (w.heap.size+1),undef,ptr (w.heap.size+1+1),ba,bb,undef,va,xa,ca,vb,xb,cb,undef,undef,undef,undef,undef,undef,undef,undef,undef,undef,undef,undef,undef,undef,undef,undef],defers:=[] }/\cT wk a b l W va xa ca vb xb cb ba bb) ⟨undef,undef,undef,undef,undef,undef,undef,undef,rfl,cT.start wk a b _ _ _ _ _ _ _ _⟩ ?_ ?_ ?_
 ·rintro l x W ⟨va,xa,ca,vb,xb,cb,ba,bb,rfl,T⟩;exact T.sz
 ·rintro l x W ⟨va,xa,ca,vb,xb,cb,ba,bb,rfl,T⟩ i hi;obtain ⟨cW,cX,aT⟩:=x4 hi;have aY:=vL cX
  have hc:i=0∨i=1∨i=2∨i=3∨i=4∨i=5∨i=6∨i=7∨i=8∨i=9:=by have h:i < 10:=cW;omega
  have HT:=hide T;rcases hc with rfl | rfl | rfl | rfl | rfl | rfl | rfl | rfl | rfl | rfl
  ·have l1:=zj (lX.below T.b).at
   clear T;clear hi cW cX aT aY;refine wpOp_step (o:=⟨some 10,.load 26 (.tmp 3),26, "sets.go:22",#[],none⟩) rfl (fun K hK=>?_);go_simp;exact hK _ _ ⟨PV a,xa,ca,vb,xb,cb,ba,bb,rfl,HT.s0⟩
  ·have d0:=aT _ rfl { on:=0,ground:=Ground.data } (by simp) rfl;obtain rfl:=T.h0 d0;clear T d0;clear hi cW cX aT aY;refine wpOp_step (o:=⟨some 11,.buildSlice 151 1 #[(0,.tmp 10)],151, "sets.go:22",#[⟨0,.data⟩],none⟩) rfl (fun K hK=>?_);go_simp;exact hK _ _ ⟨_,.slice (some ⟨W.heap.size,0,none⟩) 1 1,ca,vb,xb,cb,ba,bb,rfl,HT.s1 (iu.below HT.b)⟩
  ·have d1:=aT _ rfl { on:=1,ground:=Ground.data } (by simp) rfl
   have n8:l.getD 8 false=false:=by
    cases e:l.getD 8 false with
    | false=>rfl
    | true=>have:=HT.c8 e;simp [aY] at this
   obtain ⟨g,rfl,R⟩:=T.h1 d1 n8;have HR:=hide R;have AJ:=hide n8;clear T d1 R n8;clear hi cW cX aT aY;refine wpOp_step (o:=⟨some 12,.call ⟨.value (.func 90),#[.tmp 11],#[151]⟩,136, "sets.go:22",#[⟨1,.data⟩],none⟩) rfl (fun K hK=>?_);go_simp;go_wp2_with fail;refine (xw _ 1 1 [a] _ HR.out GY.out (by omega)).mono ?_;rintro e w' ⟨F,rfl,RF,bF⟩;exact hK _ _ ⟨va,_,SAv F,vb,xb,cb,ba,bb,rfl,HT.s2 AJ.out RF bF⟩
  ·have l1:=zj (i9.below T.b).at
   clear T;clear hi cW cX aT aY;refine wpOp_step (o:=⟨some 13,.load 26 (.tmp 4),26, "sets.go:22",#[],none⟩) rfl (fun K hK=>?_);go_simp;exact hK _ _ ⟨va,xa,ca,PV b,xb,cb,ba,bb,rfl,HT.s3⟩
  ·have d3:=aT _ rfl { on:=3,ground:=Ground.data } (by simp) rfl;obtain rfl:=T.h3 d3;clear T d3;clear hi cW cX aT aY;refine wpOp_step (o:=⟨some 14,.buildSlice 151 1 #[(0,.tmp 13)],151, "sets.go:22",#[⟨3,.data⟩],none⟩) rfl (fun K hK=>?_);go_simp;exact hK _ _ ⟨va,xa,ca,_,.slice (some ⟨W.heap.size,0,none⟩) 1 1,cb,ba,bb,rfl,HT.s4 (gC.below HT.b)⟩
  ·have d4:=aT _ rfl { on:=4,ground:=Ground.data } (by simp) rfl;have d2:=aT _ rfl { on:=2,ground:=Ground.chain } (by simp) rfl
   have n8:l.getD 8 false=false:=by
    cases e:l.getD 8 false with
    | false=>rfl
    | true=>have:=HT.c8 e;simp [aY] at this
   have n9:l.getD 9 false=false:=by
    cases e:l.getD 9 false with
    | false=>rfl
    | true=>have:=HT.c9 e;simp [aY] at this
   obtain ⟨g,rfl,R⟩:=T.h4 d4 n8;have HR:=hide R;have AK:=hide n9;clear T d4 d2 R n8 n9;clear hi cW cX aT aY;refine wpOp_step (o:=⟨some 15,.call ⟨.value (.func 90),#[.tmp 14],#[151]⟩,136, "sets.go:22",#[⟨4,.data⟩,⟨2,.chain⟩],none⟩) rfl (fun K hK=>?_);go_simp;go_wp2_with fail;refine (xw _ 1 1 [b] _ HR.out Gy.out (by omega)).mono ?_;rintro e w' ⟨F,rfl,RF,bF⟩;exact hK _ _ ⟨va,xa,ca,vb,_,SAv F,ba,bb,rfl,HT.s5 AK.out RF bF⟩
  ·have n8:l.getD 8 false=false:=by
    cases e:l.getD 8 false with
    | false=>rfl
    | true=>have:=HT.c8 e;simp [aY] at this
   have AJ:=hide n8;clear T n8;clear hi cW cX aT aY;refine wpOp_step (o:=⟨some 7,.alloc 136,0, "sets.go:22",#[],none⟩) rfl (fun K hK=>?_);go_simp;exact hK _ _ ⟨va,xa,ca,vb,xb,cb,ptr W.heap.size,bb,rfl,HT.s6 AJ⟩
  ·have n9:l.getD 9 false=false:=by
    cases e:l.getD 9 false with
    | false=>rfl
    | true=>have:=HT.c9 e;simp [aY] at this
   have AK:=hide n9;clear T n9;clear hi cW cX aT aY;refine wpOp_step (o:=⟨some 8,.alloc 136,0, "sets.go:22",#[],none⟩) rfl (fun K hK=>?_);go_simp;exact hK _ _ ⟨va,xa,ca,vb,xb,cb,ba,ptr W.heap.size,rfl,HT.s7 AK⟩
  ·have d2:=aT _ rfl { on:=2,ground:=Ground.data } (by simp) rfl;have d5:=aT _ rfl { on:=5,ground:=Ground.chain } (by simp) rfl;have d6:=aT _ rfl { on:=6,ground:=Ground.data } (by simp) rfl;have d7:=aT _ rfl { on:=7,ground:=Ground.phase } (by simp) rfl;obtain ⟨F,g,rfl,rfl,ST,T2⟩:=T.s8 d2 d5 d6 d7 aY;have s1:=wY (F':=F) ST;have nf:=hide T2;clear T T2 ST d2 d5 d6 d7;clear hi cW cX aT aY;refine wpOp_step (o:=⟨none,.store 136 (.tmp 7) (.tmp 12),0, "sets.go:22",#[⟨6,.data⟩,⟨2,.data⟩,⟨5,.chain⟩,⟨0,.phase⟩,⟨1,.phase⟩,⟨2,.phase⟩,⟨3,.textOnly .lateStores⟩,⟨4,.textOnly .lateStores⟩,⟨5,.textOnly .lateStoresUnsure⟩,⟨6,.phase⟩,⟨7,.phase⟩],none⟩) rfl (fun K hK=>?_);go_simp;exact hK _ _ ⟨va,xa,_,vb,xb,cb,_,bb,rfl,nf.out⟩
  ·have d5:=aT _ rfl { on:=5,ground:=Ground.data } (by simp) rfl;have d7:=aT _ rfl { on:=7,ground:=Ground.data } (by simp) rfl;have d8:=aT _ rfl { on:=8,ground:=Ground.chain } (by simp) rfl;obtain ⟨F,g,rfl,rfl,ST,T2⟩:=T.s9 d5 d7 d8 aY;have s1:=wY (F':=F) ST;have nf:=hide T2;clear T T2 ST d5 d7 d8;clear hi cW cX aT aY;refine wpOp_step (o:=⟨none,.store 136 (.tmp 8) (.tmp 15),0, "sets.go:22",#[⟨7,.data⟩,⟨5,.data⟩,⟨8,.chain⟩,⟨0,.phase⟩,⟨1,.phase⟩,⟨2,.phase⟩,⟨3,.phase⟩,⟨4,.phase⟩,⟨5,.phase⟩,⟨6,.phase⟩,⟨7,.phase⟩,⟨8,.phase⟩],none⟩) rfl (fun K hK=>?_);go_simp;exact hK _ _ ⟨va,xa,ca,vb,xb,_,ba,_,rfl,nf.out⟩
 ·rintro l x W ⟨va,xa,ca,vb,xb,cb,ba,bb,rfl,T⟩ fJ;obtain ⟨F,G,g,g',rfl,rfl,rfl,rfl,rfl,rfl,dx,cP,lV,iZ,ni,se,Eq,Df,DN,El⟩:=T.all (fun i hi=>xS (by kernel_rfl) T.sz fJ i hi);have tL:=hide dx;have Bf:=hide cP;have D6:=hide lV;have dg:=hide iZ;have dZ:=hide ni;have o5:=hide se;have Bm:=hide Eq;have mO:=hide Df;have rS:=hide DN;have At:=hide El;clear T fJ dx cP lV iZ ni se Eq Df DN El
  rename World=>w5
  have nV:Hid (PwI wk w5 g g' F G (aa a.P) (aa b.P) cB 0):=⟨dg.out,dZ.out,(fun r h=>by omega),fun r _ hr=>⟨o5.src r hr,by rw [o5.eq r hr,xg]⟩,fun r hr=>⟨Bm.src r hr,by rw [Bm.eq r hr,xg]⟩,mO.out,rS.out,At.out,Bf.out,tL.out⟩;clear dg dZ o5 Bm mO rS At;obtain ⟨F0,Ac⟩:∃ F0,F=F0:=⟨_,rfl⟩;rw [Ac] at nV ⊢;clear Ac;go_wp2_with fail;go_loopw [16] (fun i wr=>∃ (k:Nat) (F:Nat -> Sl),k <= 16/\i = .int .i64 k/\Hid (PwI wk wr g g' F G (aa a.P) (aa b.P) cB k)) (fun i _=>16 - (intOf i).toNat)
  case atStart=>exact ⟨0,F0,Nat.zero_le _,rfl,nV⟩
  case round =>
   obtain ⟨k,F,hk,rfl,HI⟩:=hrel
   rename World=>w6
   clear nV;by_cases ak:k < 16
   ·have k1:=HI.s.cell k ak;have k2:=HI.y.cell k ak;obtain ⟨R1,e1⟩:=HI.old k (Nat.le_refl _) ak;obtain ⟨R2,e2⟩:=HI.gs k ak;rw [e1] at R1;rw [e2] at R2;clear e1 e2;obtain ⟨sa,sn,sc,hf⟩:∃ sa sn sc,(F k).ao=sa/\(F k).n=sn/\(F k).cap=sc:=⟨_,_,_,rfl,rfl,rfl⟩;obtain ⟨ta,tn,tc,hg⟩:∃ ta tn tc,(G k).ao=ta/\(G k).n=tn/\(G k).cap=tc:=⟨_,_,_,rfl,rfl,rfl⟩;rw [hf.1,hf.2.1,hf.2.2] at k1 R1;rw [hg.1,hg.2.1,hg.2.2] at k2 R2;clear hf hg;have nP:=hide (R1.below (zf w6));have eC:=hide (R2.below (zf w6));have oF:=hide HI.s
    have q0:(0:Int) <= (k:Int):=by omega
    have q1:(k:Int) < 16:=by omega
    clear R1 R2;go_wp2_with fail;refine qP (by kernel_rfl) (fun l x W=>∃ v19 v20 v21 v22 v23 v24 v25 v26 v27 v28,x={ tmps:=#[PV a,PV b,.func (.func 174) #[] #[],ptr w.heap.size,ptr (w.heap.size+1),undef,ptr (w.heap.size+1+1),ptr g,ptr g',.int .i64 (k:Int),PV a,xa,SAv F0,PV b,xb,SAv G,.int .i64 (k:Int),.bool true,.int .i64 (k:Int),v19,v20,v21,v22,v23,v24,v25,v26,v27,v28,u29,undef,undef],defers:=[] }/\PwR w6 g g' k (.func (.func 174) #[] #[]) (.slice sa sn sc) (.slice ta tn tc) (PwP w6 cB (aa a.P k) (aa b.P k)) l W v19 v20 v21 v22 v23 v24 v25 v26 v27 v28) ⟨u19,u20,u21,u22,u23,u24,u25,u26,u27,u28,rfl,PwR.start _ _ _ _ _ _ _ _ _ _ _ _ _ _ _ _ _ _⟩ ?_ ?_ ?_
    ·rintro l x W ⟨v19,v20,v21,v22,v23,v24,v25,v26,v27,v28,rfl,T⟩;exact T.sz
    ·rintro l x W ⟨v19,v20,v21,v22,v23,v24,v25,v26,v27,v28,rfl,T⟩ i hi;obtain ⟨cW,cX,aT⟩:=x4 hi;have aY:=vL cX
     have hc:i=0∨i=1∨i=2∨i=3∨i=4∨i=5∨i=6∨i=7∨i=8∨i=9∨i=10:=by have h:i < 11:=cW;omega
     have HT:=hide T;rcases hc with rfl | rfl | rfl | rfl | rfl | rfl | rfl | rfl | rfl | rfl | rfl
     ·clear T;clear hi cW cX aT aY;refine wpOp_step (o:=⟨some 19,.move (.tmp 9),3, "sets.go:24",#[],none⟩) rfl (fun K hK=>?_);go_simp;exact hK _ _ ⟨.int .i64 (k:Int),v20,v21,v22,v23,v24,v25,v26,v27,v28,rfl,HT.s0⟩
     ·clear T;clear hi cW cX aT aY;refine wpOp_step (o:=⟨some 20,.move (.tmp 2),190, "sets.go:24",#[],none⟩) rfl (fun K hK=>?_);go_simp;exact hK _ _ ⟨v19,_,v21,v22,v23,v24,v25,v26,v27,v28,rfl,HT.s1⟩
     ·clear T;clear hi cW cX aT aY;refine wpOp_step (o:=⟨some 21,.move (.tmp 9),3, "sets.go:24",#[],none⟩) rfl (fun K hK=>?_);go_simp;exact hK _ _ ⟨v19,v20,.int .i64 (k:Int),v22,v23,v24,v25,v26,v27,v28,rfl,HT.s2⟩
     ·have d2:=aT _ rfl { on:=2,ground:=Ground.data } (by simp) rfl;obtain rfl:=T.h2 d2;clear T d2;clear hi cW cX aT aY;refine wpOp_step (o:=⟨some 22,.indexAddr 136 (.tmp 7) (.tmp 21),0, "sets.go:24",#[⟨2,.data⟩],none⟩) rfl (fun K hK=>?_);go_simp;exact hK _ _ ⟨v19,v20,_,_,v23,v24,v25,v26,v27,v28,rfl,HT.s3⟩
     ·have d3:=aT _ rfl { on:=3,ground:=Ground.data } (by simp) rfl
      have n8:l.getD 8 false=false:=by
       cases e:l.getD 8 false with
       | false=>rfl
       | true=>have:=HT.c8 e;simp [aY] at this
      obtain rfl:=T.h3 d3;obtain rfl:=T.h8a n8;clear T d3 n8;clear hi cW cX aT aY;refine wpOp_step (o:=⟨some 23,.load 134 (.tmp 22),134, "sets.go:24",#[⟨3,.data⟩],none⟩) rfl (fun K hK=>?_);go_simp;exact hK _ _ ⟨v19,v20,v21,_,_,v24,v25,v26,v27,v28,rfl,HT.s4⟩
     ·clear T;clear hi cW cX aT aY;refine wpOp_step (o:=⟨some 24,.move (.tmp 9),3, "sets.go:24",#[],none⟩) rfl (fun K hK=>?_);go_simp;exact hK _ _ ⟨v19,v20,v21,v22,v23,.int .i64 (k:Int),v25,v26,v27,v28,rfl,HT.s5⟩
     ·have d5:=aT _ rfl { on:=5,ground:=Ground.data } (by simp) rfl;obtain rfl:=T.h5 d5;clear T d5;clear hi cW cX aT aY;refine wpOp_step (o:=⟨some 25,.indexAddr 136 (.tmp 8) (.tmp 24),0, "sets.go:24",#[⟨5,.data⟩],none⟩) rfl (fun K hK=>?_);go_simp;exact hK _ _ ⟨v19,v20,v21,v22,v23,_,_,v26,v27,v28,rfl,HT.s6⟩
     ·have d6:=aT _ rfl { on:=6,ground:=Ground.data } (by simp) rfl
      have n8:l.getD 8 false=false:=by
       cases e:l.getD 8 false with
       | false=>rfl
       | true=>have:=HT.c8 e;simp [aY] at this
      obtain rfl:=T.h6 d6;obtain rfl:=T.h8a n8;clear T d6 n8;clear hi cW cX aT aY;refine wpOp_step (o:=⟨some 26,.load 134 (.tmp 25),134, "sets.go:24",#[⟨6,.data⟩],none⟩) rfl (fun K hK=>?_);go_simp;exact hK _ _ ⟨v19,v20,v21,v22,v23,v24,_,_,v27,v28,rfl,HT.s7⟩
     ·have d1:=aT _ rfl { on:=1,ground:=Ground.data } (by simp) rfl;have d4:=aT _ rfl { on:=4,ground:=Ground.data } (by simp) rfl;have d7:=aT _ rfl { on:=7,ground:=Ground.data } (by simp) rfl
      have n10:l.getD 10 false=false:=by
       cases e:l.getD 10 false with
       | false=>rfl
       | true=>have:=HT.c10 e;simp [aY] at this
      obtain rfl:=T.h1 d1;obtain rfl:=T.h4 d4;obtain rfl:=T.h7 d7;obtain rfl:=T.h8a aY;have HD:=hide (And.intro d1 (And.intro d4 (And.intro d7 n10)));clear T d1 d4 d7 n10;clear hi cW cX aT aY;refine wpOp_step (o:=⟨some 27,.call ⟨.value (.tmp 20),#[.tmp 23,.tmp 26],#[134,134]⟩,134, "sets.go:24",#[⟨1,.data⟩,⟨4,.data⟩,⟨7,.data⟩],none⟩) rfl (fun K hK=>?_);go_simp;go_wp2_with fail;refine (zfa sa ta sn sc tn tc _ _ _ nP.out eC).mono ?_;rintro e w' ⟨a1,n1,c1,R1,rfl,S1,b1,f1,p1⟩;exact hK _ _ ⟨v19,_,v21,v22,_,v24,v25,_,.slice a1 n1 c1,v28,rfl,HT.s8 HD.1 HD.2.1 HD.2.2.1 HD.2.2.2 ⟨a1,n1,c1,R1,rfl,S1,(zf w6).trans (b1.mono (Nat.le_refl _)),f1,p1⟩⟩
     ·have d0:=aT _ rfl { on:=0,ground:=Ground.data } (by simp) rfl;obtain rfl:=T.h0 d0;clear T d0;clear hi cW cX aT aY;refine wpOp_step (o:=⟨some 28,.indexAddr 136 (.tmp 7) (.tmp 19),0, "sets.go:24",#[⟨0,.data⟩,⟨0,.phase⟩,⟨1,.phase⟩,⟨2,.phase⟩,⟨3,.phase⟩,⟨4,.phase⟩,⟨5,.phase⟩,⟨6,.phase⟩,⟨7,.phase⟩,⟨8,.phase⟩],none⟩) rfl (fun K hK=>?_);go_simp;exact hK _ _ ⟨_,v20,v21,v22,v23,v24,v25,v26,v27,_,rfl,HT.s9⟩
     ·have d8:=aT _ rfl { on:=8,ground:=Ground.data } (by simp) rfl;have d9:=aT _ rfl { on:=9,ground:=Ground.data } (by simp) rfl;obtain rfl:=T.h9 d9;obtain ⟨a1,n1,c1,R1,rfl,S1,b1,f1,p1⟩:=T.h8b d8 aY;have e1:=(oF.below b1).cell k ak;have e2:=(oF.below b1).frozen k;have nf:=hide (T.s10 d8 d9 aY);clear T d8 d9 S1 b1 f1 p1;clear hi cW cX aT aY;refine wpOp_step (o:=⟨none,.store 134 (.tmp 28) (.tmp 27),0, "sets.go:24",#[⟨9,.data⟩,⟨8,.data⟩,⟨8,.chain⟩,⟨0,.phase⟩,⟨1,.phase⟩,⟨2,.phase⟩,⟨3,.phase⟩,⟨4,.phase⟩,⟨5,.phase⟩,⟨6,.phase⟩,⟨7,.phase⟩,⟨8,.phase⟩],none⟩) rfl (fun K hK=>?_);go_simp;exact hK _ _ ⟨v19,v20,v21,v22,v23,v24,v25,v26,_,_,rfl,nf.out⟩
    ·rintro l x W ⟨v19,v20,v21,v22,v23,v24,v25,v26,v27,v28,rfl,T⟩ fJ;have aW:=fun i (hi:i < 11)=>xS (by kernel_rfl) T.sz fJ i hi;obtain ⟨W0,⟨a1,n1,c1,R1,rfl,S1,b1,f1,p1⟩,rfl⟩:=T.h10 (aW 10 (by decide));have HN:=hide (HI.step ak b1 S1 f1 p1);clear T fJ aW S1 b1 f1 p1;go_wp2_with fail;go_roundw
     case rel=>exact ⟨k+1,_,by omega,by go_num,HN.out⟩
     case measure=>simp [intOf];omega
   ·obtain rfl:k=16:=by omega
    have l1:=wZ HI.s;go_wp2_with fail;refine (qV F _ (fun r hr=>(HI.new r hr).1)).mono ?_;rintro e w7 ⟨p,rfl,S7,n7,b7,c7⟩;obtain ⟨s1,e1,e2,e3,e4⟩:=qu (w:=w) (g:=w.heap.size+1+1) ((HI.b.block _ (by have:=BL.out;omega)).trans Dy.out |> fun h=>(b7.block _ (Array.getElem?_eq_some_iff.1 h).1).trans h) S7 (n7.mono (by have h1:=HI.b.size;have h2:=BL.out;omega)) (tmq al (HI.b.trans (b7.mono HI.b.size))) (by omega);have df:=hide e1;have iT:Hid (∃ p':Pv,Ending.returned (PV p) = .returned (PV p')/\am (w7.setRow (w.heap.size+1+1) (PC p)) p'/\dA w.heap.size p'/\Below w.heap.size w (w7.setRow (w.heap.size+1+1) (PC p))/\∃ C:Nat -> List Rn,(∀ r,r < 16 -> cB (aa a.P r) (aa b.P r) (C r))/\af C p'.P):=⟨p,rfl,e2,e3,e4,fun r=>(F r).L,fun r hr=>(HI.new r hr).2,c7⟩
    clear S7 n7 b7 c7 e1 e2 e3 e4;go_wp2_with fail;exact bodyPost_ret (v:=PV p) (eR Tryz.results149 rfl df) rfl iT.out
end
section
open Go.RowKit
attribute [local go_sem ↓] zq zp vW vU
attribute [local go_sem] jf xt zI zi qq zk qL
attribute [local go_sem] bQ
theorem zbr (a b:Pv) (w:World) (hA:am w a) (hB:am w b) :
  Calls Tryz.prog 100 #[PV a,PV b] w fun e w'=>ct w w' e (fun P=>∃ C:Nat -> List Rn,(∀ r,r < 16 -> ey (aa a.P r) (aa b.P r) (C r))/\af C P):=by
 have b1:=ze w (.cells (PC a) 26);have b2:=ze (w.alloc (.cells (PC a) 26)) (.cells (PC b) 26);have b3:=ze ((w.alloc (.cells (PC a) 26)).alloc (.cells (PC b) 26)) (.cells (PC pv0) 26);have p2:=zm (w.alloc (.cells (PC a) 26)) b;have p3:=zm ((w.alloc (.cells (PC a) 26)).alloc (.cells (PC b) 26)) pv0;simp only [World.size_alloc] at p2 p3
 have l1:=zj (((zm w a).below b2).below b3).at
 have l2:=zj (p2.below b3).at
 have Au:=hide p3;have al:=hide (tmq b1 (b2.trans (b3.mono b2.size)));have HA:=hide (hA.below al);have HB:=hide (hB.below al);clear hA hB b1 b2 b3 p2 p3;go_enter Tryz.func100,Tryz.ntmps100;go_wp2_with fail;refine (zbs a b _ HA.out HB).mono ?_;rintro e w4 ⟨p,rfl,S4,n4,b4,c4⟩;obtain ⟨s1,e1,e2,e3,e4⟩:=qu (w:=w) (Au.below b4) S4 (n4.mono (by simp)) (tmq al b4) (by omega);have df:=hide e1;have iT:Hid (ct w (w4.setRow (w.heap.size+1+1) (PC p)) (.returned (PV p)) (fun P=>∃ C:Nat -> List Rn,(∀ r,r < 16 -> ey (aa a.P r) (aa b.P r) (C r))/\af C P)):=⟨p,rfl,e2,e3,e4,c4⟩;clear S4 n4 b4 c4 e1 e2 e3 e4;go_wp2_with fail;exact bodyPost_ret (v:=PV p) (eR Tryz.results100 rfl df) rfl iT.out
theorem jH (a b:Pv) (w:World) (hA:am w a) (hB:am w b) :
  Calls Tryz.prog 130 #[PV a,PV b] w fun e w'=>ct w w' e (fun P=>∃ C:Nat -> List Rn,(∀ r,r < 16 -> cB (aa a.P r) (aa b.P r) (C r))/\af C P):=by
 have b1:=ze w (.cells (PC a) 26);have b2:=ze (w.alloc (.cells (PC a) 26)) (.cells (PC b) 26);have b3:=ze ((w.alloc (.cells (PC a) 26)).alloc (.cells (PC b) 26)) (.cells (PC pv0) 26);have p2:=zm (w.alloc (.cells (PC a) 26)) b;have p3:=zm ((w.alloc (.cells (PC a) 26)).alloc (.cells (PC b) 26)) pv0;simp only [World.size_alloc] at p2 p3
 have l1:=zj (((zm w a).below b2).below b3).at
 have l2:=zj (p2.below b3).at
 have Au:=hide p3;have al:=hide (tmq b1 (b2.trans (b3.mono b2.size)));have HA:=hide (hA.below al);have HB:=hide (hB.below al);clear hA hB b1 b2 b3 p2 p3;go_enter Tryz.func130,Tryz.ntmps130;go_wp2_with fail;refine (zas a b _ HA.out HB).mono ?_;rintro e w4 ⟨p,rfl,S4,n4,b4,c4⟩;obtain ⟨s1,e1,e2,e3,e4⟩:=qu (w:=w) (Au.below b4) S4 (n4.mono (by simp)) (tmq al b4) (by omega);have df:=hide e1;have iT:Hid (ct w (w4.setRow (w.heap.size+1+1) (PC p)) (.returned (PV p)) (fun P=>∃ C:Nat -> List Rn,(∀ r,r < 16 -> cB (aa a.P r) (aa b.P r) (C r))/\af C P)):=⟨p,rfl,e2,e3,e4,c4⟩;clear S4 n4 b4 c4 e1 e2 e3 e4;go_wp2_with fail;exact bodyPost_ret (v:=PV p) (eR Tryz.results130 rfl df) rfl iT.out
end
section
open Go.RowKit Go.Maps Go.Sort
attribute [local go_sem ↓] zq zp qf qe
attribute [local go_sem] zL zS qg
theorem nG:Keyed Tryz.prog 9:=string_keyed Tryz.underlying9
theorem oV (w:World):(zeroValue 151).run Tryz.prog w = .ok (HsV hs0) w:=by kernel_rfl
def MF (w W:World) (kk:Nat) (R:List Rc):Prop:=∃ f,MRo Tryz.prog 9 26 2 (w.heap.size+1) w W w.heap.size kk (fun s=>∃ r∈R,r.s=s) f (fun s=>pvs (ofS R s))
theorem yZ (L:List Rc) (k:Nat) (h:k < L.length):L.take (k+1)=L.take k++[L.getD k rc0]:=by
 rw [List.take_succ_eq_append_getElem h];simp [List.getD,h]
theorem zfl (R:List Rc) (r:Rc):(fun s=>∃ x∈R++[r],x.s=s)=fun s=>s=r.s∨∃ x∈R,x.s=s:=by
 funext s
 apply propext;constructor
 ·rintro ⟨x,hx,rfl⟩;rcases List.mem_append.1 hx with hx | hx
  ·exact .inr ⟨x,hx,rfl⟩
  ·obtain rfl:x=r:=by simpa using hx
   exact .inl rfl
 ·rintro (rfl | ⟨x,hx,rfl⟩)
  ·exact ⟨r,by simp,rfl⟩
  ·exact ⟨x,by simp [hx],rfl⟩
def TxS (w:World) (ao:Option Addr) (m:Nat) (T:List (List UInt8)):Prop:=
 T.length=m/\∀ t,t < m -> ∃ ad,ao=some ad/\w.cell? (ad.add t)=some (encStr (T.getD t []))
theorem TxS.below {w w':World} {ao:Option Addr} {m:Nat} {T:List (List UInt8)} (h:TxS w ao m T) (hb:Below w.heap.size w w'):TxS w' ao m T:=by
 refine ⟨h.1,fun t ht=>?_⟩;obtain ⟨ad,e,hc⟩:=h.2 t ht;exact ⟨ad,e,(hb.cell (World.block_lt_of_cell? _ _ hc)).trans hc⟩
theorem mF.src {w w':World} {e:Ending} {T:List (List UInt8)} (h:mF w w' e T):∃ ao c,e = .returned (.slice ao T.length c)/\TxS w' ao T.length T/\Below w.heap.size w w':=by
 obtain ⟨v,rfl,hr,hb⟩:=h;rcases hr.2 with ⟨h0,fV⟩ | ⟨g,cap,cur,hv,dU,dx,hnc,fS,hcsz,htake⟩
 ·refine ⟨none,0,by rw [h0,fV],⟨rfl,fun t ht=>?_⟩,hb⟩;omega
 ·subst hv;refine ⟨some ⟨g,0,none⟩,cap,rfl,⟨rfl,fun t ht=>⟨_,rfl,?_⟩⟩,hb⟩;rw [Addr.add_lit,Nat.zero_add,hr.cellAt t (by omega)];simp [List.getD,ht]
theorem zjE:∀ a b:List UInt8,a < b -> Lib.compareBytes a b < 0
 | [],[],h=>absurd h (List.lt_irrefl _)
 | [],_ :: _,_=>by simp [Lib.compareBytes]
 | _ :: _,[],h=>absurd h (List.not_lt_nil _)
 | a :: x,b :: y,h=>by
  rcases List.cons_lt_cons_iff.1 h with h1 | ⟨rfl,h1⟩
  ·simp [Lib.compareBytes,h1]
  ·have h0:¬ a < a:=UInt8.lt_irrefl a;have:=zjE x y h1;simpa [Lib.compareBytes,h0] using this
theorem zfm {ss:List (List UInt8)} (FN:ss.Nodup):(ss.mergeSort leB).Pairwise (fun a b=>Lib.compareBytes a b < 0):=by
 have tr:∀ a b c:List UInt8,leB a b=true -> leB b c=true -> leB a c=true:=fun a b c h1 h2=>by simp only [leB,decide_eq_true_eq] at *;exact List.le_trans h1 h2
 have tt:∀ a b:List UInt8,(leB a b || leB b a)=true:=fun a b=>by simp only [leB,Bool.or_eq_true,decide_eq_true_eq];exact List.le_total a b
 have iZ:(ss.mergeSort leB).Pairwise (fun a b=>leB a b=true):=List.pairwise_mergeSort tr tt ss;have GZ:(ss.mergeSort leB).Nodup:=(List.mergeSort_perm ss leB).nodup_iff.2 FN;refine (iZ.and GZ).imp fun {a b} h=>zjE a b ?_
 have h1:a <= b:=by simpa [leB] using h.1
 exact Decidable.byContradiction fun hn=>h.2 (List.le_antisymm h1 (List.not_lt.1 hn))
def FoA (w w':World) (x:Ending) (L:List Rc) (n:Nat):Prop:=(OkR L n/\∃ (h:Hs) (F:List Rc),x = .returned (.tuple #[HsV h,.int .i64 0])/\RcS w' h.o h.n h.c F/\Below w.heap.size w w'/\(∀ ad,h.o=some ad -> w.heap.size <= ad.block)/\lm L F)∨(¬ OkR L n/\x = .returned (.tuple #[.slice none 0 0,.int .i64 1])/\Below w.heap.size w w')
theorem zhd (ao:Option Addr) (n cap:Nat) (L:List Rc) (w:World) (hS:RcS w ao n cap L) (hwt:∀ s,wt (ofS L s) <= 8796093022207) :
  Calls Tryz.prog 97 #[.slice ao n cap] w fun x w'=>FoA w w' x L n:=by
 have HS:=hide hS;have HL:Hid (L.length=n):=hS.len;have hn:=hS.big;have HW:=hide hwt;have KQ:=@run_makeMap Tryz.prog;clear hS hwt;go_enter Tryz.func97,Tryz.ntmps97;go_wp2_with fail;refine (xp ao n cap L _ HS).mono ?_;rintro x w0 ⟨z,rfl,hz,b0⟩;have ie:=hide b0;have rF:=hide (HS.below b0);clear b0;rcases hz with ⟨rfl,hO⟩ | ⟨rfl,hO⟩;rotate_left
 ·have HE:Hid (FoA w w0 (.returned (.tuple #[.slice none 0 0,.int .i64 1])) L n):=.inr ⟨hO,rfl,ie.out⟩;clear hO KQ;go_wp2_with fail;go_ret2;exact HE.out
 ·have HO:=hide hO;obtain ⟨w1,cF⟩:∃ w1,w0.alloc (.map #[] 0)=w1:=⟨_,rfl⟩;obtain ⟨b,hb⟩:∃ b,w0.heap.size=b:=⟨_,rfl⟩
  have Ee:Hid (MF w0 w1 0 []):=⟨fun _=>hs0,by
   have h:=MRo.start (P:=Tryz.prog) (kt:=9) (et:=26) (size:=2) w0;rw [cF] at h
   have e:(fun s=>∃ r∈([]:List Rc),r.s=s)=fun _=>False:=by funext s;simp
   rw [e]
   exact h⟩
  have Hb:=hide hb;clear hO;go_wp2_with fail;clear cF hb;go_loopw [21] (fun i wr=>∃ k:Nat,k <= n/\i = .int .i64 (k:Int)/\Hid (MF w0 wr k (L.take k))) (fun i _=>n - (intOf i).toNat)
  case atStart=>exact ⟨0,Nat.zero_le _,rfl,Ee⟩
  case round =>
   obtain ⟨k,hk,rfl,HM⟩:=hrel
   rename World=>wr
   clear Ee;by_cases ak:k < n
   ·have aX:(k:Int) < (n:Int):=by omega
    obtain ⟨f,M⟩:=HM.out;obtain ⟨ad,cU,A0⟩:=(rF.below M.below).at k ak;subst cU;have lZ:=(rF.below M.below).okAt k ak;have HT:=hide (yZ L k (by rw [HL.out];exact ak));obtain ⟨r,Hr⟩:∃ r,Hid (L.getD k rc0=r):=⟨_,rfl⟩;rw [Hr.out] at A0 lZ HT;have ic:=lZ.2;have dF:=zC A0;obtain ⟨g7,ia⟩:∃ g7,wr.heap.size=g7:=⟨_,rfl⟩;obtain ⟨w7,cd,X7,B7,S7⟩:=gt wr (mkR r) g7 ia;have M7:=(M.later B7).later (zf w7)
    have IM:(f r.s).n <= 2900000000000:=by
     have h:=(M.rows r.s).1;rw [kh] at h;have h1:=zaw (L.take k) r.s;have h2:=List.length_take_le k L;omega
    have nQ:(HsV (f r.s)).ownBlock≠some g7:=fun h=>by have:=((M.rows r.s).lt g7 h).2;omega
    have DX:Hid (∀ W,Below w7.drew.heap.size w7.drew W -> (Instr.lookup 187 (.map (some b)) (.string r.s) false).run Tryz.prog W = .ok (HsV (f r.s)) W):=fun W hW=>by
     have:=(M7.later hW).look nG Tryz.underlying9 Tryz.underlying187 (oV W) r.s ic;rwa [Hb.out] at this
    obtain ⟨g8,c8,w8,D3,M8,k8⟩:=zju M7 r.s r.p IM;obtain ⟨w9,Bh,M9,k9⟩:=M8.put nG Tryz.underlying9 Tryz.underlying187 ic (by unfold maxLen;omega);rw [Hb.out] at Bh k9
    have p9:g7≠b:=by have:=M.hb;rw [Hb.out] at this;omega
    have z8:w8.heap[g7]? = w7.heap[g7]?:=k8 g7 (show g7 < w7.heap.size by omega) nQ;have z9:w9.heap[g7]? = w7.heap[g7]?:=(k9 g7 (Array.getElem?_eq_some_iff.1 (z8.trans X7)).1 p9).trans z8
    have aB:Hid (∀ W:World,W.heap[g7]? = w7.heap[g7]? -> W.cell? ⟨g7,0,none⟩=some (.string r.s)/\(ldP (.pointer (some ⟨g7,1,none⟩))).run Tryz.prog W = .ok (.agg #[.slice r.p.vo r.p.vn r.p.vc,.slice r.p.co r.p.cn r.p.cc]) W):=fun W h=>by
     have X:cg W g7 (mkR r):=h.trans X7;exact ⟨X.sk,zj X.past⟩
    have HZ:Hid (w8.heap[g7]? = w7.heap[g7]? /\ w9.heap[g7]? = w7.heap[g7]?):=⟨z8,z9⟩;have AY:Hid ((w7.drew.alloc (.cells #[.slice r.p.vo r.p.vn r.p.vc,.slice r.p.co r.p.cn r.p.cc] 26)).heap[g7]? = w7.heap[g7]?):=Below.heap_alloc w7.drew _ g7 (show g7 < w7.heap.size by omega);have l0:=DX.out w7.drew (Below.refl _ _);have l1:=DX.out _ (ze w7.drew (.cells #[.slice r.p.vo r.p.vn r.p.vc,.slice r.p.co r.p.cn r.p.cc] 26));have l2:(Instr.lookup 187 (.map (some b)) (.string r.s) false).run Tryz.prog (w7.alloc (.cells #[.slice r.p.vo r.p.vn r.p.vc,.slice r.p.co r.p.cn r.p.cc] 26)).drew = .ok (HsV (f r.s)) (w7.drew.alloc (.cells #[.slice r.p.vo r.p.vn r.p.vc,.slice r.p.co r.p.cn r.p.cc] 26)):=l1
    have DI:Hid (MF w0 w9 (k+1) (L.take (k+1))):=by
     have hX:(fun s=>pvs (ofS (L.take (k+1)) s))=fun u=>if u=r.s then pvs (ofS (L.take k) r.s)++(PC r.p).toList else pvs (ofS (L.take k) u):=by
      funext s
      rw [HT.out,zgK];by_cases h:s=r.s
      ·subst h;simp
      ·simp [h]
     have h:=M9;rw [<- hX,<- zfl,<- HT.out] at h;exact ⟨_,h⟩
    have tx:Hid ((Builtin.append_ #[151,151] 151 #[.slice (f r.s).o (f r.s).n (f r.s).c,.slice (some ⟨w7.heap.size,0,none⟩) 1 1]).run Tryz.prog (w7.drew.alloc (.cells #[.slice r.p.vo r.p.vn r.p.vc,.slice r.p.co r.p.cn r.p.cc] 26)) = .ok (.slice (some ⟨g8,0,none⟩) ((f r.s).n+1) c8) w8):=D3;have aK:=hide ak;clear A0 X7 B7 S7 M M7 M8 M9 k8 k9 z8 z9 D3 ak hk lZ;go_upto_region 8 with fail;clear cd dF;refine wp_region_held_drew (S:=fun W=>W.cell? ⟨g7,0,none⟩=some (.string r.s)/\(ldP (.pointer (some ⟨g7,1,none⟩))).run Tryz.prog W = .ok (.agg #[.slice r.p.vo r.p.vn r.p.vc,.slice r.p.co r.p.cn r.p.cc]) W) (by kernel_rfl) (aB.out _ rfl) (fun hHeld=>?_);refine wU 0 ?_;refine wU 1 ?_;refine wU 2 ?_;refine wU 3 ?_;refine wU 4 ?_;refine wU 5 ?_;refine wU 7 ?_;refine wU 8 ?_;refine wpAnyH_ready (rs:=[6,9]) (by kernel_rfl) (by simp) ?_;refine AllReadyH.cons rfl (fun K hK=>?_) ?_
    ·go_simp;refine hK.out _ _ (aB.out _ rfl) (fun hHeld=>?_);clear hK K;refine wR 9 fun K hK=>?_;go_simp;refine hK.out _ _ (aB.out _ AY) (fun hHeld=>?_);clear hK K;refine wR 10 fun K hK=>?_;refine xk (by rfl) (.tmp 31) (.tmp 34) (by rfl) (by rfl) (by rfl) tx.out ?_;refine hK.out _ _ (aB.out _ HZ.1) (fun hHeld=>?_);clear hK K;refine wR 11 fun K hK=>?_;go_simp;refine hK.out _ _ (aB.out _ HZ.2) (fun hHeld=>?_);clear hK K;refine wD ?_ _;clear hHeld;clear l0 l1 l2 Bh;go_wp2_with fail;go_roundw
     case rel=>exact ⟨k+1,aK.out,by simp,DI⟩
     case measure=>simp [intOf];have:=aK.out;omega
    ·refine AllReadyH.cons rfl (fun K hK=>?_) ?_;rotate_left
     ·exact AllReadyH.nil
     go_simp;refine hK.out _ _ (aB.out _ AY) (fun hHeld=>?_);clear hK K;refine wR 6 fun K hK=>?_;go_simp;refine hK.out _ _ (aB.out _ AY) (fun hHeld=>?_);clear hK K;refine wR 10 fun K hK=>?_;refine xk (by rfl) (.tmp 31) (.tmp 34) (by rfl) (by rfl) (by rfl) tx.out ?_;refine hK.out _ _ (aB.out _ HZ.1) (fun hHeld=>?_);clear hK K;refine wR 11 fun K hK=>?_;go_simp;refine hK.out _ _ (aB.out _ HZ.2) (fun hHeld=>?_);clear hK K;refine wD ?_ _;clear hHeld;clear l0 l1 l2 Bh;go_wp2_with fail;go_roundw
     case rel=>exact ⟨k+1,aK.out,by simp,DI⟩
     case measure=>simp [intOf];have:=aK.out;omega
   ·obtain rfl:k=n:=by omega
    have HE:Hid (MF w0 wr k L):=by
     have h:=HM.out;rw [List.take_of_length_le (by have:=HL.out;omega)] at h;exact h
    obtain ⟨f,M⟩:=HE.out
    have ob:∀ s,∀ p∈ofS L s,am wr p:=fun s p hp=>by
     obtain ⟨r,hr,rfl⟩:=List.mem_map.1 hp;exact ((rF.below M.below).ok r (List.mem_filter.1 hr).1).1
    have uW:Hid (fN wr (f cS).o (f cS).n (ofS L cS)):=zcl (M.rows cS) (ob cS)
    have tO:(f cS).n <= 8796093022207:=by
     have h:=(M.rows cS).1;rw [kh] at h;have h1:=zaw L cS;have h2:=HL.out;omega
    have l0:(Instr.lookup 187 (.map (some b)) (.string ⟨#[]⟩) false).run Tryz.prog wr = .ok (.slice (f cS).o (f cS).n (f cS).c) wr:=by
     have h:=M.look nG Tryz.underlying9 Tryz.underlying187 (oV wr) cS (by decide);rwa [Hb.out] at h
    have K7:=hide M;clear M ob ak;go_wp2_with fail;clear l0;refine (xi (f cS).o (f cS).n (f cS).c (ofS L cS) _ uW.out (HW.out cS) tO).mono ?_;rintro x w3 ⟨pa,rfl,Sa,Na,b3,Ca⟩;obtain ⟨g3,pV⟩:∃ g3,w3.heap.size=g3:=⟨_,rfl⟩;obtain ⟨w4,AX,X4,b4,s4⟩:=iP w3 pa g3 pV;replace AX:(stP (.pointer (some ⟨g3,0,none⟩)) (PV pa)).run Tryz.prog (w3.alloc (.cells #[.slice none 0 0,.slice none 0 0] 26)) = .ok () w4:=AX;have b34:=tmq b3 b4;have lN:=hide (K7.later b34);have AZ:Hid (av w4 g3 pa/\am w4 pa/\af (aA (ofS L cS)) pa.P):=⟨X4,Sa.below b4,Ca⟩;clear Sa Na b3 b4 s4 X4 Ca b34 K7 uW;go_wp2_with fail;clear AX pV;refine (zgW (some b) _).mono ?_;rintro x w5 ⟨rfl,rfl⟩;obtain ⟨D,hD,Lg⟩:=lN.map;rw [Hb.out] at hD;have dE:=hD.size_le;have HD:Hid (w4.ownsMap Tryz.prog 9 RSl b k D):=hD
    have HZ:Hid (Maps.size D <= maxLen/\Maps.size D * 16 <= 140737488355328):=⟨by unfold maxLen;omega,by omega⟩;have MC:=hide Lg;clear hD Lg dE;go_wp2_with fail;refine (yR b k D RSl w4 HD.out HZ.1 HZ.2).mono ?_;rintro y w6 ⟨ss,hp,hg⟩;obtain ⟨a6,c6,rfl,T6,b6⟩:=hg.src;have C0:=hide (ED HD.out nG Tryz.underlying9 MC.out hp);obtain ⟨T,Eh⟩:∃ T,Hid (ss.mergeSort leB=T):=⟨_,rfl⟩;rw [Eh.out] at T6 ⊢;have b46:=(ze w4 (.cells #[.map (some b)] 187)).trans (b6.mono (ze w4 (.cells #[.map (some b)] 187)).size);have J9:=hide T6;have KW:=hide (lN.later b46);have nP:Hid (av w6 g3 pa/\am w6 pa/\af (aA (ofS L cS)) pa.P):=⟨AZ.1.below b46,AZ.2.1.below b46,AZ.2.2⟩;clear b6 b46 hg T6;obtain ⟨m,Hm⟩:∃ m,Hid (T.length=m):=⟨_,rfl⟩
    have FL:Hid (m <= 2199023255552):=by
     show _ <= _
     have e1:=((List.mergeSort_perm ss leB).trans hp).length_eq;rw [Eh.out,Hm.out] at e1
     have e2:(strKeys D).length=Maps.size D:=by
      obtain ⟨es,hD⟩:=HD.isMap;subst hD;simp [strKeys,Maps.size]
     have e3:=HD.size_le;omega
    have NQ:Hid (∀ t∈T,t.length <= maxLen):=fun t ht=>by
     refine strKeys_le HD.out Tryz.underlying9 _ (((List.mergeSort_perm ss leB).trans hp).mem_iff.1 ?_);rw [Eh.out];exact ht
    have Mj:Hid (∀ t,t∈T↔∃ r∈L,r.s=⟨t.toArray⟩):=fun t=>by
     rw [<- Eh.out,(List.mergeSort_perm ss leB).mem_iff];exact C0.2 t
    have NF:Hid (T.Pairwise (fun a b=>Lib.compareBytes a b < 0)):=by
     show List.Pairwise _ _
     rw [<- Eh.out];exact zfm C0.1
    rw [Hm.out] at J9 ⊢;clear hp;go_wp2_with fail;go_loopw [9,44] (fun v i wr2=>∃ (j:Nat) (hh:Hs),j <= m/\v = .slice hh.o hh.n hh.c/\i = .int .i64 (j:Int)/\Hid (∃ F,aO w6.heap.size w6 wr2 hh F/\fY L (T.take j) F/\hh.n <= j)) (fun _ i _=>m - (intOf i).toNat)
    case atStart=>exact ⟨0,hs0,Nat.zero_le _,rfl,rfl,[],aO.nil w6,fY.start L,Nat.le_refl _⟩
    case round =>
     obtain ⟨j,hh,hj,rfl,rfl,HR⟩:=hrel
     rename World=>wr2
     obtain ⟨F,O,Kh,nq⟩:=HR.out;have DZ:=hide Kh;have AR:=hide nq;clear Kh nq HR;by_cases iw:j < m
     ·have NO:(j:Int) < (m:Int):=by omega
      have OA:=Hm.out
      have CR:j < 2199023255552:=by have:=FL.out;omega
      obtain ⟨ad6,Nw,KE⟩:=(J9.below O.below).2 j iw;subst Nw;obtain ⟨s,Hs⟩:∃ s:ByteArray,Hid (s=⟨(T.getD j []).toArray⟩):=⟨_,rfl⟩
      have KT:encStr (T.getD j []) = .string s:=by rw [Hs.out]
      rw [KT] at KE
      have An:T.getD j []∈T:=by rw [List.getD_eq_getElem?_getD,List.getElem?_eq_getElem (by omega)];exact List.getElem_mem _
      have Iw:s.size <= maxLen:=by rw [Hs.out];have:=NQ.out _ An;simpa [ByteArray.size] using this
      have Fj:Hid (T.take (j+1)=T.take j++[T.getD j []]):=by
       show _=_
       rw [List.take_succ_eq_append_getElem (by omega)];simp [List.getD,show j < T.length by omega]
      have tz:=hide iw;have M2:=KW.later O.below
      have ob:∀ p∈ofS L s,am wr2 p:=fun p hp=>by
       obtain ⟨r,hr,-,rfl⟩:=zav.1 hp;exact ((rF.below M2.below).ok r hr).1
      have mi:Hid (fN wr2 (f s).o (f s).n (ofS L s)):=zcl (M2.rows s) ob
      have CY:(f s).n <= 8796093022207:=by
       have h:=(M2.rows s).1;rw [kh] at h;have h1:=zaw L s;have h2:=HL.out;omega
      have lk:(Instr.lookup 187 (.map (some b)) (.string s) false).run Tryz.prog wr2 = .ok (.slice (f s).o (f s).n (f s).c) wr2:=by
       have h:=M2.look nG Tryz.underlying9 Tryz.underlying187 (oV wr2) s Iw;rwa [Hb.out] at h
      have CW:=hide O;clear M2 ob An iw hj O KT;go_wp2_with fail;clear lk KE;refine (xi (f s).o (f s).n (f s).c (ofS L s) _ mi.out (HW.out s) CY).mono ?_;rintro x w7 ⟨p1,rfl,S1,N1,b7,C1⟩;obtain ⟨g7,ia⟩:∃ g7,w7.heap.size=g7:=⟨_,rfl⟩;obtain ⟨w8,rZ,X8,b8,s8⟩:=iP w7 p1 g7 ia;replace rZ:(stP (.pointer (some ⟨g7,0,none⟩)) (PV p1)).run Tryz.prog (w7.alloc (.cells #[.slice none 0 0,.slice none 0 0] 26)) = .ok () w8:=rZ;have b78:=tmq b7 b8;have nS:∀ g,(HsV hh).ownBlock=some g -> g < wr2.heap.size:=fun g hg=>(CW.own.lt g hg).2;have gB:∀ q:Pv,dA wr2.heap.size q -> eY hh q:=fun q hq g hg=>dI.new hq (nS g hg)
      have ur:wr2.heap.size <= g7:=by have:=b7.size;omega
      have GL:Hid ((HsV hh).ownBlock≠some g7/\(∀ r∈F,dI r.p g7)/\w6.heap.size <= g7):=⟨fun e=>by have:=nS g7 e;omega,fun r hr=>dI.old (CW.ok r hr).1.1 ur,Nat.le_trans CW.below.size ur⟩;have eO:=hide (CW.later b78);have nI:Hid (af (aA (ofS L s)) p1.P):=C1;have mO:=hide (gB p1 N1);have gf:Hid (av w8 g7 p1/\am w8 p1):=⟨X8,S1.below b8⟩;have tx:Hid (av w8 g3 pa/\am w8 pa):=⟨(nP.1.below CW.below).below b78,(nP.2.1.below CW.below).below b78⟩;have Hg:Hid (wr2.heap.size <= g7/\g7 < w8.heap.size):=⟨ur,by omega⟩;clear S1 N1 b7 b8 b78 C1 X8 nS ur s8 mi;by_cases h0:s.size=0
      ·have e0:=K.jc s h0
       obtain rfl:s=cS:=by obtain ⟨d⟩:=s;have:d=#[]:=Array.eq_empty_of_size_eq_zero h0;rw [this];rfl
       have il:Hid (av w8 g7 p1/\am w8 p1/\eY hh p1/\IsP (fC L cS) p1.P):=⟨gf.1,gf.2,mO.out,zhb nI⟩;have BR:=eO
       have l9:(ldP (.pointer (some ⟨g7,0,none⟩))).run Tryz.prog w8 = .ok (PV p1) w8:=zj il.1.at
       go_wp2_with fail;clear l9;refine (jJ p1 _ il.2.1).mono ?_;rintro x wa ⟨em,rfl,tJ,ba⟩;have ov:=hide (BR.later ba);have mo:Hid (av wa g7 p1/\am wa p1/\eY hh p1/\IsP (fC L cS) p1.P):=⟨il.1.below ba,il.2.1.below ba,il.2.2.1,il.2.2.2⟩;clear ba BR il
       cases em with
       | true =>
        have BD:Hid (fY L (T.take (j+1)) F):=by
         show fY _ _ _
         rw [Fj.out];refine DZ.skip _ (fun r hr n hm=>?_);rw [<- Hs.out] at hm;obtain ⟨C,hC,hI⟩:=mo.2.2.2;exact tJ.1 rfl r hr n ((zZ hC r hr n).2 ((hI r hr n).2 hm))
        clear tJ;go_wp2_with fail;go_roundw
        case rel=>exact ⟨j+1,hh,tz.out,rfl,by simp,⟨F,ov.out,BD.out,by have:=AR.out;omega⟩⟩
        case measure=>simp [intOf];have:=tz.out;omega
       | false =>
        have BD:Hid (fY L (T.take (j+1)) (F++[⟨cS,p1⟩])):=by
         show fY _ _ _
         rw [Fj.out];exact DZ.add _ ⟨cS,p1⟩ Hs.out mo.2.2.2 (fun h=>by have:=tJ.2 h;cases this)
        obtain ⟨gb,cb,wb,ee,Ob,-⟩:=ov.app ⟨cS,p1⟩ ⟨mo.2.1,Iw⟩ mo.2.2.1 (by have:=AR.out;have:=tz.out;have:=FL.out;omega)
        have la:(ldP (.pointer (some ⟨g7,0,none⟩))).run Tryz.prog wa = .ok (.agg #[.slice p1.vo p1.vn p1.vc,.slice p1.co p1.cn p1.cc]) wa:=zj mo.1.at
        have oD:Hid ((Builtin.append_ #[27,27] 27 #[.slice hh.o hh.n hh.c,.slice (some ⟨wa.heap.size,0,none⟩) 1 1]).run Tryz.prog (wa.alloc (.cells #[.string cS,.slice p1.vo p1.vn p1.vc,.slice p1.co p1.cn p1.cc] 78)) = .ok (.slice (some ⟨gb,0,none⟩) (hh.n+1) cb) wb):=ee;have Ec:=hide Ob;clear tJ ee Ob;go_wp2_with (at_builtin;refine xI rfl (.tmp 60) (.tmp 64) rfl rfl rfl oD.out ?_);go_roundw
        case rel=>exact ⟨j+1,⟨some ⟨gb,0,none⟩,hh.n+1,cb⟩,tz.out,rfl,by simp,⟨_,Ec.out,BD.out,by show hh.n+1 <= j+1;have:=AR.out;omega⟩⟩
        case measure=>simp [intOf];have:=tz.out;omega
      ·have e0:=K.jP s h0;have MY:s≠cS:=fun e=>h0 (by rw [e];rfl)
       have l8:=zj gf.1.at
       have l3:=zj tx.1.at
       go_wp2_with fail;clear rZ l8 l3;refine (jH p1 pa _ gf.2 tx.2).mono ?_;rintro x w9 ⟨p2,rfl,S2,N2,b9,hM⟩;have t9:=qM (p':=p2) (gf.1.below b9);have O9:=(eO.later b9).setOther g7 (PC p2) GL.2.2 GL.1 GL.2.1;have P9:am (w9.setRow g7 (PC p2)) p2:=x7 (g:=some g7) S2 (fun k e=>by obtain rfl:=Option.some.inj e;exact dI.new N2 Hg.2) (fun q _ hq=>setRow_other _ _ _ _ (fun e=>hq (by rw [e])));have X9:av (w9.setRow g7 (PC p2)) g7 p2:=setRow_heap _ _ _ _ _ _ (gf.1.below b9);obtain ⟨wz,tQ⟩:∃ wz,w9.setRow g7 (PC p2)=wz:=⟨_,rfl⟩;rw [tQ] at t9 O9 P9 X9;have il:Hid (av wz g7 p2/\am wz p2/\eY hh p2/\IsP (fC L s) p2.P):=⟨X9,P9,gB p2 (N2.mono (by have:=Hg.out;omega)),zha MY nI.out nP.2.2 hM⟩;have BR:=hide O9;clear S2 N2 b9 hM O9 P9 X9 tQ gB
       have l9:(ldP (.pointer (some ⟨g7,0,none⟩))).run Tryz.prog wz = .ok (PV p2) wz:=zj il.1.at
       go_wp2_with fail;clear l9;refine (jJ p2 _ il.2.1).mono ?_;rintro x wa ⟨em,rfl,tJ,ba⟩;have ov:=hide (BR.later ba);have mo:Hid (av wa g7 p2/\am wa p2/\eY hh p2/\IsP (fC L s) p2.P):=⟨il.1.below ba,il.2.1.below ba,il.2.2.1,il.2.2.2⟩;clear ba BR il
       cases em with
       | true =>
        have BD:Hid (fY L (T.take (j+1)) F):=by
         show fY _ _ _
         rw [Fj.out];refine DZ.skip _ (fun r hr n hm=>?_);rw [<- Hs.out] at hm;obtain ⟨C,hC,hI⟩:=mo.2.2.2;exact tJ.1 rfl r hr n ((zZ hC r hr n).2 ((hI r hr n).2 hm))
        clear tJ;go_wp2_with fail;go_roundw
        case rel=>exact ⟨j+1,hh,tz.out,rfl,by simp,⟨F,ov.out,BD.out,by have:=AR.out;omega⟩⟩
        case measure=>simp [intOf];have:=tz.out;omega
       | false =>
        have BD:Hid (fY L (T.take (j+1)) (F++[⟨s,p2⟩])):=by
         show fY _ _ _
         rw [Fj.out];exact DZ.add _ ⟨s,p2⟩ Hs.out mo.2.2.2 (fun h=>by have:=tJ.2 h;cases this)
        obtain ⟨gb,cb,wb,ee,Ob,-⟩:=ov.app ⟨s,p2⟩ ⟨mo.2.1,Iw⟩ mo.2.2.1 (by have:=AR.out;have:=tz.out;have:=FL.out;omega)
        have la:(ldP (.pointer (some ⟨g7,0,none⟩))).run Tryz.prog wa = .ok (.agg #[.slice p2.vo p2.vn p2.vc,.slice p2.co p2.cn p2.cc]) wa:=zj mo.1.at
        have oD:Hid ((Builtin.append_ #[27,27] 27 #[.slice hh.o hh.n hh.c,.slice (some ⟨wa.heap.size,0,none⟩) 1 1]).run Tryz.prog (wa.alloc (.cells #[.string s,.slice p2.vo p2.vn p2.vc,.slice p2.co p2.cn p2.cc] 78)) = .ok (.slice (some ⟨gb,0,none⟩) (hh.n+1) cb) wb):=ee;have Ec:=hide Ob;clear tJ ee Ob;go_wp2_with (at_builtin;refine xI rfl (.tmp 60) (.tmp 64) rfl rfl rfl oD.out ?_);go_roundw
        case rel=>exact ⟨j+1,⟨some ⟨gb,0,none⟩,hh.n+1,cb⟩,tz.out,rfl,by simp,⟨_,Ec.out,BD.out,by show hh.n+1 <= j+1;have:=AR.out;omega⟩⟩
        case measure=>simp [intOf];have:=tz.out;omega
     ·obtain rfl:j=m:=by omega
      have Id:Hid (FoA w wr2 (.returned (.tuple #[.slice hh.o hh.n hh.c,.int .i64 0])) L k):=by
       have hT:T.take j=T:=List.take_of_length_le (by have:=Hm.out;omega);have hF:=DZ.out;rw [hT] at hF;have b06:Below w.heap.size w w6:=tmq ie KW.below;refine .inl ⟨HO.out,hh,F,rfl,O.src (by have:=AR.out;have:=FL.out;omega),tmq b06 O.below,fun ad e=>?_,hF.done NF.out Mj⟩;have:=(O.own.lt ad.block (by show (Value.slice hh.o hh.n hh.c).ownBlock=some ad.block;rw [e];rfl)).1;exact Nat.le_trans b06.size this
      clear O;go_wp2_with fail;go_ret2;exact Id.out
end
end Go.Proofs.YtjffpimfngdggaaGreat
