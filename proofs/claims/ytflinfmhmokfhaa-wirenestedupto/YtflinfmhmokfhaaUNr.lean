/- WireNested: the inner Read. -/
import Derived.Test.YtflinfmhmokfhaaUNi
namespace Go.Proofs.Ytflinfmhmokfhaa
open Go.RowKit
variable {wO w0 w w' w1 w2 : World} {nO q gin o gg gn gr : Nat} {bz1 bz2 : Option Nat} {roc ro2 so so1 so2 lo2 : Option Addr} {rnc rcc rn2 rc2 sn sc sn1 sc1 sn2 sc2 ln2 lc2 : Nat} {Z Zc Z2 : List Int} {G0 : List Got} {P1 P2 P : List Ask}

theorem srcKeep {m c : Nat} (S : Src w so m c Z) (hk : m ≠ 0 → ∀ k, blk so = some k → w'.heap[k]? = w.heap[k]?) : Src w' so m c Z :=
  ⟨S.1, S.2.1, fun ad ha t ht => by
    have hc := S.2.2.1 ad ha t ht
    rw [World.cell?_of_block (w := w) (by rw [block_of_add]; exact hk (by omega) _ (by rw [ha]; rfl))]
    exact hc, S.2.2.2⟩
theorem kLt (h : KSrc w so sn sc P) (h0 : sn ≠ 0) (k : Nat) (e : blk so = some k) : k < w.heap.size := by
  obtain ⟨ad, ha, A⟩ := h.at 0 (by omega)
  have h1 := World.block_lt_of_cell? _ _ A.c0
  rw [block_of_add] at h1
  rw [ha] at e
  have : ad.block = k := Option.some.inj e
  omega
theorem kKeep (h : KSrc w so sn sc P) (hk : sn ≠ 0 → ∀ k, blk so = some k → w'.heap[k]? = w.heap[k]?) : KSrc w' so sn sc P :=
  ⟨h.len, h.nil, fun ad ha t ht => (h.cell ad ha t ht).keep (by rw [block_of_add]; exact hk (by omega) _ (by rw [ha]; rfl))⟩
/-- below nO -/
def PO (nO : Nat) : Nat → Prop := fun k => k < nO
/-- the outer reader and its row, carried into a world in which its blocks are as they were -/
theorem CJ.carry {Pr : Nat → Prop} (h : CJ (PO nO) wO w o gg bz2 ro2 rn2 rc2 Z2 lo2 ln2 lc2 G0) (hk : ∀ k, k < nO → k ≠ gin → w1.heap[k]? = w.heap[k]?) (hd : o ≠ gin ∧ gg ≠ gin) (hz : rn2 ≠ 0 → ∀ k, bz2 = some k → k ≠ gin) (hr : ∀ k, blk lo2 = some k → w1.heap[k]? = w.heap[k]?)
    (hp : ∀ k, k < nO → Pr k) (hq : ∀ k, blk lo2 = some k → ¬ Pr k) (hl : ∀ k, Pr k → k < w1.heap.size) : CJ Pr w1 w1 o gg bz2 ro2 rn2 rc2 Z2 lo2 ln2 lc2 G0 := by
  obtain ⟨p1, p2, p3⟩ := h.pos
  refine ⟨⟨(hk o p1 hd.1).trans h.rl.r, srcKeep h.rl.s (fun h0 k e => hk k (h.sp h0 k (by rw [← h.src]; exact e)).1 (hz h0 k (by rw [← h.src]; exact e))), h.rl.cap, h.rl.big, h.rl.ne⟩, (hk gg p2 hd.2).trans h.v2, h.gr.keep hr, hq, ⟨rfl, rfl, rfl, Nat.le_refl _, fun _ _ _ _ => rfl⟩, h.src, ⟨hp _ p1, hp _ p2, p3⟩, hl, fun h0 k e => ?_⟩
  have := h.sp h0 k e
  exact ⟨hp k this.1, this.2⟩
theorem TN.carry {Pr : Nat → Prop} {off g g2 : Nat} (h : TN (PO nO) w g gg gn off gr o so sn sc P) (hk : ∀ k, k < nO → k ≠ gin → w1.heap[k]? = w.heap[k]?) (hd : gn ≠ gin ∧ gr ≠ gin) (hs : sn ≠ 0 → ∀ k, blk so = some k → k ≠ gin) (hp : ∀ k, k < nO → Pr k)
    (hq : gn ≠ q ∧ gn ≠ g2 ∧ gr ≠ q ∧ gr ≠ g2) (hf : sn ≠ 0 → ∀ k, blk so = some k → k ≠ q ∧ k ≠ g2) : TN Pr w1 q g2 gn off gr o so sn sc P := by
  obtain ⟨p1, p2, p3, p4, p5, p6⟩ := h.pos
  refine ⟨?_, (hk gr p4 hd.2).trans h.vr, kKeep h.qs (fun h0 k e => hk k (h.far h0 k e).1 (hs h0 k e)), ⟨hp _ p1, hq.1, hq.2.1, hp _ p4, hq.2.2.1, hq.2.2.2⟩, fun h0 k e => ⟨hp k (h.far h0 k e).1, hf h0 k e⟩, h.big⟩
  rw [World.cell?_of_block (w := w) (hk gn p1 hd.1)]
  exact h.nc
/-- what the inner Read leaves -/
structure NK (nO : Nat) (w w' : World) (o gg gin : Nat) : Prop where
  os : w'.os = w.os
  tape : w'.tape = w.tape
  output : w'.output = w.output
  size : w.heap.size ≤ w'.heap.size
  block : ∀ k, k < nO → k ≠ o → k ≠ gg → k ≠ gin → w'.heap[k]? = w.heap[k]?
/-- the rows behind it: apart, and new -/
def NR (nO : Nat) (w' : World) (gin gg : Nat) (I G : List Got) : Prop :=
  ∃ li ni ci lg ng cg, Var w' gin (.slice li ni ci) 24 ∧ GR w' li ni ci I ∧ Var w' gg (.slice lg ng cg) 24 ∧ GR w' lg ng cg G ∧ (∀ k, blk li = some k → nO ≤ k ∧ blk lg ≠ some k) ∧ ∀ k, blk lg = some k → nO ≤ k
def NP (nO : Nat) (w : World) (o gg gin : Nat) (P1 P2 : List Ask) (Zc Z2 : List Int) (G0 : List Got) (r : Ending) (w' : World) : Prop :=
  NK nO w w' o gg gin ∧
    (((rdT P1 Zc).2.1 ≠ 0 ∧ r = .returned (.int .i64 (rdT P1 Zc).2.1) ∧ NR nO w' gin gg (rdT P1 Zc).1 G0 ∧ ∃ so sc, Rdr w' o so Z2.length sc 0 false) ∨
      ((rdT P1 Zc).2.1 = 0 ∧ NR nO w' gin gg (rdT P1 Zc).1 (G0 ++ (rdT (calm P2) Z2).1) ∧
        (((rdT (calm P2) Z2).2.1 = 0 ∧ r = .returned (.int .i64 (if (calm P2).length < P2.length then 8 else endA (rdT P1 Zc).2.2.length)) ∧ ∃ so sc, Rdr w' o so (rdT (calm P2) Z2).2.2.length sc 0 false) ∨
          ((rdT (calm P2) Z2).2.1 ≠ 0 ∧ r = .panicked (upL o false (caught o)) ∧ Rdr w' o none 0 0 (rdT (calm P2) Z2).2.1 false))))
end Go.Proofs.Ytflinfmhmokfhaa
