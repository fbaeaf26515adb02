/- The law's ask: its variables. -/
import Derived.Test.YtflinfmhmokfhaaUGo
import Derived.Test.YtflinfmhmokfhaaURk
import Derived.Deep.DeepCutAuto
namespace Go.Proofs.Ytflinfmhmokfhaa
open Go.RowKit
variable {w w' w2 w3 wq : World} {g : Nat} {ro so : Option Addr} {rn rc sn sc : Nat} {Z : List Int}

theorem to_GC (n : Int) (b : Bool) (s : ByteArray) : (#[.int .i64 n, .bool b, .string s] : Array Value) = GC ⟨n, b, s⟩ := rfl
theorem GC_s0 (n z : Int) (b : Bool) (s : ByteArray) : (GC ⟨n, b, s⟩).setIfInBounds 0 (.int .i64 z) = GC ⟨z, b, s⟩ := rfl
theorem GC_s1 (n : Int) (b c : Bool) (s : ByteArray) : (GC ⟨n, b, s⟩).setIfInBounds 1 (.bool c) = GC ⟨n, c, s⟩ := rfl
theorem GC_s2 (n : Int) (b : Bool) (s t : ByteArray) : (GC ⟨n, b, s⟩).setIfInBounds 2 (.string t) = GC ⟨n, b, t⟩ := rfl
theorem to_KC (k n : Int) : (#[.int .i64 k, .int .i64 n] : Array Value) = KC ⟨k, n⟩ := rfl
/-- ask's variables: its argument, its result, its Got -/
structure AB (w wq : World) (g3 : Nat) (k n : Int) : Prop where
  k : KBox wq g3 ⟨k, n⟩
  r : GBox wq (g3 + 1) ⟨0, false, ⟨#[]⟩⟩
  v : GBox wq (g3 + 2) ⟨0, false, ⟨#[]⟩⟩
  bel : Below w.heap.size w wq
  pos : g3 = w.heap.size ∧ wq.heap.size = g3 + 3
theorem RL.low {n : Nat} (R : RL w2 g so sn sc Z) (b : Below n w2 w3) (hg : g < n) (hs : sn ≠ 0 → ∀ k, blk so = some k → k < n) : RL w3 g so sn sc Z := by
  refine ⟨(b.block g hg).trans R.r, ⟨R.s.1, R.s.2.1, fun ad ha t ht => ?_, R.s.2.2.2⟩, R.cap, R.big, R.ne⟩
  have hb := hs (by omega) ad.block (by rw [ha]; rfl)
  have h1 := R.s.2.2.1 ad ha t ht
  rw [← h1]
  exact b.cell (by rw [block_of_add]; exact hb)
theorem Mv.low {n k : Nat} (h : Mv w w2 g ro rn k Z) (b : Below n w2 w3) (hn : w.heap.size ≤ n) (hg : g < n) (hs : rn ≠ 0 → ∀ k, blk ro = some k → k < n) : Mv w w3 g ro rn k Z := by
  obtain ⟨so, sc, R, hb, K⟩ := h
  refine ⟨so, sc, R.low b hg (fun h0 j e => hs (by omega) j (hb ▸ e)), hb, ⟨b.os.trans K.os, b.tape.trans K.tape, b.output.trans K.output, Nat.le_trans K.size b.size, fun j hj hn2 => (b.block j (by omega)).trans (K.block j hj hn2)⟩⟩
theorem Mv.pre {k : Nat} (h : Mv wq w2 g ro rn k Z) (b : Below w.heap.size w wq) : Mv w w2 g ro rn k Z := by
  obtain ⟨so, sc, R, hb, K⟩ := h
  exact ⟨so, sc, R, hb, (Kg.of_below b).trans K⟩
theorem Gave.pre {e : Int} (h : Gave wq w2 g e) (b : Below w.heap.size w wq) : Gave w w2 g e := ⟨h.1, (Kg.of_below b).trans h.2⟩
theorem src_lt {Z : List Int} (S : Src w ro rn rc Z) (h0 : rn ≠ 0) (k : Nat) (e : blk ro = some k) : k < w.heap.size := by
  obtain ⟨ad, ha, hc⟩ := cell_at S 0 (by omega)
  have := World.block_lt_of_cell? _ _ hc
  rw [block_of_add] at this
  rw [ha] at e
  have : ad.block = k := Option.some.inj e
  omega
theorem ab_made {wa wb : World} {g3 : Nat} (k n : Int) (hwa : w.alloc (.cells (KC ⟨k, n⟩) 32) = wa) (hwb : wa.alloc (.cells (GC ⟨0, false, ⟨#[]⟩⟩) 29) = wb) (hg : w.heap.size = g3) (ha : wa.heap.size = g3 + 1) (hb : wb.heap.size = g3 + 2)
    (M : GBox wq (g3 + 2) ⟨0, false, ⟨#[]⟩⟩) (b : Below wb.heap.size wb wq) (z : wq.heap.size = wb.heap.size + 1) : AB w wq g3 k n := by
  have b1 := below_new w (.cells (KC ⟨k, n⟩) 32)
  have h1 : KBox (w.alloc (.cells (KC ⟨k, n⟩) 32)) w.heap.size ⟨k, n⟩ := KBox_new w _
  rw [hwa] at b1 h1
  have b2 := below_new wa (.cells (GC ⟨0, false, ⟨#[]⟩⟩) 29)
  have h2 : GBox (wa.alloc (.cells (GC ⟨0, false, ⟨#[]⟩⟩) 29)) wa.heap.size ⟨0, false, ⟨#[]⟩⟩ := GBox_new wa _
  rw [hwb] at b2 h2
  rw [hg] at h1
  rw [ha] at h2
  exact ⟨(h1.below b2).below b, h2.below b, M, b1.trans ((b2.trans (b.mono b2.size)).mono b1.size), hg.symm, by omega⟩
/-- the call is behind us: one field is laid, the result stored -/
theorem AB.fin {g3 : Nat} {k n : Int} {m' : Got} {i : Nat} {v : Value} (h : AB w wq g3 k n) (K : Kg wq w2 g) (hg : g < w.heap.size) (hm : (GC ⟨0, false, ⟨#[]⟩⟩).setIfInBounds i v = GC m') :
    GBox w2 (g3 + 2) ⟨0, false, ⟨#[]⟩⟩ ∧ GBox (w2.setCell ⟨g3 + 2, i, none⟩ v) (g3 + 2) m' ∧ GBox (w2.setCell ⟨g3 + 2, i, none⟩ v) (g3 + 1) ⟨0, false, ⟨#[]⟩⟩ ∧ Below w.heap.size w2 ((w2.setCell ⟨g3 + 2, i, none⟩ v).setRow (g3 + 1) (GC m')) := by
  obtain ⟨p1, p2⟩ := h.pos
  have hv : GBox w2 (g3 + 2) ⟨0, false, ⟨#[]⟩⟩ := (K.block _ (by omega) (by omega)).trans h.v
  have hr : GBox w2 (g3 + 1) ⟨0, false, ⟨#[]⟩⟩ := (K.block _ (by omega) (by omega)).trans h.r
  refine ⟨hv, ?_, (set_other w2 (g3 + 2) i (g3 + 1) v (by omega)).trans hr, below_setRow ⟨setCell_os _ _ _, setCell_tape _ _ _, setCell_output _ _ _, by rw [set_size]; exact Nat.le_refl _, fun j hj => set_other w2 (g3 + 2) i j v (by omega)⟩ (by omega)⟩
  have := set_heap w2 (g3 + 2) _ _ _ i v hv
  unfold GBox
  rw [this, hm]
end Go.Proofs.Ytflinfmhmokfhaa
