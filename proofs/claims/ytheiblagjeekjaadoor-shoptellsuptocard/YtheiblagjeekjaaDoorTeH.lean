/- ShopTells: an answer and its copy. -/
import Derived.Test.YtheiblagjeekjaaDoorTeC
namespace Go.Proofs.YtheiblagjeekjaaDoor
open Go.RowKit
variable {w w' w2 v : World} {g3 gh : Nat} {st tok msg : Int} {lno bo ao : Option Addr} {n c cc : Nat} {Q : List Lne}

/-- an answer, its copy, and the lines of both -/
structure Hw (w wx : World) (g3 gh : Nat) (st tok msg : Int) (lno bo : Option Addr) (n c cc : Nat) (Q : List Lne) : Prop where
  a : AnBox wx g3 ⟨st, lno, n, c, tok, msg⟩
  h : AnBox wx gh ⟨st, bo, n, cc, tok, msg⟩
  sa : LnSrc wx lno n c Q
  sh : LnSrc wx bo n cc Q
  bl : Below w.heap.size w wx
theorem Hw.on (h : Hw w v g3 gh st tok msg lno bo n c cc Q) (hb : Below v.heap.size v w') : Hw w w' g3 gh st tok msg lno bo n c cc Q :=
  ⟨h.a.below hb, h.h.below hb, h.sa.below hb, h.sh.below hb, h.bl.trans (hb.mono h.bl.size)⟩
/-- the copy's lines are appended: what is known -/
structure Hc (w v : World) (g3 : Nat) (st tok msg : Int) (lno bo : Option Addr) (n c cc : Nat) (Q : List Lne) : Prop where
  a : AnBox v g3 ⟨st, lno, n, c, tok, msg⟩
  r : LnR v bo n cc Q
  sa : LnSrc w lno n c Q
  bl : Below w.heap.size w v
theorem Below.ap {ao bo : Option Addr} (hb : Below w.heap.size w v) (A : Ap v w2 ao bo) (hk : ∀ k, blk ao = some k → w.heap.size ≤ k) : Below w.heap.size w w2 :=
  hb.trans ⟨A.grown.os, A.grown.tape, A.grown.output, A.grown.size, fun k hlt => A.grown.block k (Nat.lt_of_lt_of_le hlt hb.size) (fun e => by have := hk k e.symm; omega)⟩
theorem hand_app (hb : Below w.heap.size w v) (ha : AnBox v g3 ⟨st, lno, n, c, tok, msg⟩) (hl : LnR v ao 0 0 []) (hs : LnSrc w lno n c Q) (hk : ∀ k, blk ao = some k → w.heap.size ≤ k ∧ k ≠ g3) (hn : n ≤ 4194304) (ty : TypeId) :
    ∃ bo cc w2, (Builtin.append_ #[26, 26] ty #[.slice ao 0 0, .slice lno n c]).run Tryd.prog v = .ok (.slice bo n cc) w2 ∧ Hc w w2 g3 st tok msg lno bo n c cc Q ∧ Ap v w2 ao bo := by
  obtain ⟨bo, cc, w2, hrun, hr, A⟩ := hl.runsS (hs.below hb) (by omega) ty
  rw [Nat.zero_add] at hrun hr
  rw [List.nil_append] at hr
  exact ⟨bo, cc, w2, hrun, ⟨(A.grown.block g3 ha.lt (fun e => (hk g3 e.symm).2 rfl)).trans ha, hr, hs, Below.ap hb A (fun k e => (hk k e).1)⟩, A⟩
theorem Hc.made (h : Hc w v g3 st tok msg lno bo n c cc Q) : ∃ w' : World, (stAn (.pointer (some ⟨v.heap.size, 0, none⟩)) (.agg #[.int .i64 st, .slice bo n cc, .int .i64 tok, .int .i64 msg])).run Tryd.prog (v.alloc (.cells #[.int .i64 0, .slice none 0 0, .int .i64 0, .int .i64 0] 28)) = .ok () w' ∧ Hw w w' g3 v.heap.size st tok msg lno bo n c cc Q := by
  obtain ⟨w', hst, hx, hb, _⟩ := madeAn v ⟨st, bo, n, cc, tok, msg⟩ v.heap.size rfl
  exact ⟨w', hst, h.a.below hb, hx, (h.sa.below h.bl).below hb, h.r.src.below hb, h.bl.trans (hb.mono h.bl.size)⟩
theorem Hc.into (h : Hc w v g3 st tok msg lno bo n c cc Q) (hx : AnBox v gh an0) (h1 : w.heap.size ≤ gh) (h2 : gh ≠ g3) (h3 : ∀ k, blk bo = some k → k ≠ gh) : ∃ w' : World, (stAn (.pointer (some ⟨gh, 0, none⟩)) (.agg #[.int .i64 st, .slice bo n cc, .int .i64 tok, .int .i64 msg])).run Tryd.prog v = .ok () w' ∧ Hw w w' g3 gh st tok msg lno bo n c cc Q := by
  have hbl : Below w.heap.size w (v.setRow gh (AnC ⟨st, bo, n, cc, tok, msg⟩)) := below_setRow h.bl h1
  refine ⟨_, run_stAn (m' := ⟨st, bo, n, cc, tok, msg⟩) hx, ?_, hx.setRow, h.sa.below hbl, (h.r.keep fun k e => setRow_other _ _ _ _ (h3 k e)).src, hbl⟩
  exact (setRow_other _ _ _ _ (fun e => h2 e.symm)).trans h.a
theorem ap_ne (A : Ap v w2 ao bo) (hlt : gh < v.heap.size) (h : ∀ k, blk ao = some k → k ≠ gh) : ∀ k, blk bo = some k → k ≠ gh := by
  intro k hk
  rcases A.lies with e | ⟨j, e, hj⟩
  · exact h k (e ▸ hk)
  · rw [e] at hk
    have := Option.some.inj hk
    omega
theorem ap_box {m : Ans} (A : Ap v w2 ao bo) (hx : AnBox v gh m) (h : ∀ k, blk ao = some k → k ≠ gh) : AnBox w2 gh m :=
  (A.grown.block gh hx.lt (fun e => h gh e.symm rfl)).trans hx
end Go.Proofs.YtheiblagjeekjaaDoor
