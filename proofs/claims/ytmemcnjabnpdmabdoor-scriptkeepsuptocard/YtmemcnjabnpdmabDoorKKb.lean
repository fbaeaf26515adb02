/- ScriptKeeps: what stands while the law marks what it was given. -/
import Derived.Test.YtmemcnjabnpdmabDoorKKa
import Derived.Test.YtmemcnjabnpdmabDoorKPp
namespace Go.Proofs.YtmemcnjabnpdmabDoor
open Go.RowKit T Y V
variable {w w' w2 : World} {g : Nat}

/-- five boxes and five rows, those that are written to apart from the rest -/
structure Kp (w v : World) (a b c d e f : Int) (so : Option Addr) (n sc bb c5 : Nat) (b7 : Option Addr) (c7 : Nat) (o1 : Option Addr) (m1 c1 : Nat) (o2 : Option Addr) (c2 : Nat) (o3 : Option Addr) (c3 g1 g5 g7 g10 g13 : Nat) (X W Y P : List Sp) : Prop where
  bl : Below w.heap.size w v
  xs : SBox v g1 ⟨a, b, c, d, e, f, so, n, sc⟩
  xg : SBox v g5 ⟨a, b, c, d, e, f, some ⟨bb, 0, none⟩, n, c5⟩
  x1 : SBox v g7 ⟨a, b, c, d, e, f, o1, m1, c1⟩
  x2 : SBox v g10 ⟨a, b, c, d, e, f, o2, n, c2⟩
  x3 : SBox v g13 ⟨a, b, c, d, e, f, o3, n, c3⟩
  ro : OR v (some ⟨bb, 0, none⟩) (n + 2) c5 X
  rv : OR v b7 (n + 2) c7 W
  r1 : OR v o1 m1 c1 Y
  r2 : OR v o2 n c2 P
  r3 : OR v o3 n c3 P
  hb : (w.heap.size ≤ bb ∧ bb ≠ g1 ∧ bb ≠ g5 ∧ bb ≠ g7 ∧ bb ≠ g10 ∧ bb ≠ g13) ∧ blk b7 ≠ some bb ∧ blk o1 ≠ some bb ∧ blk o2 ≠ some bb ∧ blk o3 ≠ some bb
  h1 : ∀ k, blk o1 = some k → (w.heap.size ≤ k ∧ k ≠ g1 ∧ k ≠ g5 ∧ k ≠ g7 ∧ k ≠ g10 ∧ k ≠ g13) ∧ blk b7 ≠ some k ∧ blk o2 ≠ some k ∧ blk o3 ≠ some k
  h7 : (w.heap.size ≤ g7 ∧ g7 ≠ g1 ∧ g7 ≠ g5 ∧ g7 ≠ g10 ∧ g7 ≠ g13) ∧ blk b7 ≠ some g7 ∧ blk o2 ≠ some g7 ∧ blk o3 ≠ some g7
section
variable {v v2 : World} {a b c d e f : Int} {so b7 o1 o2 o3 p1 : Option Addr} {n sc bb c5 c7 m1 c1 c2 c3 g1 g5 g7 g10 g13 k1 d1 : Nat} {X W Y P Z : List Sp}
theorem Kp.below (h : Kp w v a b c d e f so n sc bb c5 b7 c7 o1 m1 c1 o2 c2 o3 c3 g1 g5 g7 g10 g13 X W Y P) (k : Below v.heap.size v v2) : Kp w v2 a b c d e f so n sc bb c5 b7 c7 o1 m1 c1 o2 c2 o3 c3 g1 g5 g7 g10 g13 X W Y P :=
  ⟨h.bl.trans (k.mono h.bl.size), h.xs.below k, h.xg.below k, h.x1.below k, h.x2.below k, h.x3.below k, h.ro.below k, h.rv.below k, h.r1.below k, h.r2.below k, h.r3.below k, h.hb, h.h1, h.h7⟩
/-- the row of what was given is written to -/
theorem Kp.put0 (h : Kp w v a b c d e f so n sc bb c5 b7 c7 o1 m1 c1 o2 c2 o3 c3 g1 g5 g7 g10 g13 X W Y P) (R : OR v2 (some ⟨bb, 0, none⟩) (n + 2) c5 Z) (A : Ap v v2 (some ⟨bb, 0, none⟩) (some ⟨bb, 0, none⟩)) : Kp w v2 a b c d e f so n sc bb c5 b7 c7 o1 m1 c1 o2 c2 o3 c3 g1 g5 g7 g10 g13 Z W Y P := by
  obtain ⟨⟨q0, q1, q2, q3, q4, q5⟩, u1, u2, u3, u4⟩ := h.hb
  have K : ∀ j, j < v.heap.size → bb ≠ j → v2.heap[j]? = v.heap[j]? := fun j hj hn => A.grown.block j hj (fun e => hn (Option.some.inj e.symm))
  exact ⟨h.bl.trans ⟨A.grown.os, A.grown.tape, A.grown.output, A.grown.size, fun j hj => K j (Nat.lt_of_lt_of_le hj h.bl.size) (by omega)⟩, (K g1 h.xs.lt q1).trans h.xs, (K g5 h.xg.lt q2).trans h.xg, (K g7 h.x1.lt q3).trans h.x1, (K g10 h.x2.lt q4).trans h.x2, (K g13 h.x3.lt q5).trans h.x3, R,
    h.rv.keep fun k hk => K k (h.rv.lt k hk) (fun e => u1 (by rw [hk, e])), h.r1.keep fun k hk => K k (h.r1.lt k hk) (fun e => u2 (by rw [hk, e])), h.r2.keep fun k hk => K k (h.r2.lt k hk) (fun e => u3 (by rw [hk, e])), h.r3.keep fun k hk => K k (h.r3.lt k hk) (fun e => u4 (by rw [hk, e])), h.hb, h.h1, h.h7⟩
/-- the first script's row grows or is written to -/
theorem Kp.grow (h : Kp w v a b c d e f so n sc bb c5 b7 c7 o1 m1 c1 o2 c2 o3 c3 g1 g5 g7 g10 g13 X W Y P) (R : OR v2 p1 k1 d1 Z) (A : Ap v v2 o1 p1) :
    SBox v2 g7 ⟨a, b, c, d, e, f, o1, m1, c1⟩ ∧ ∀ v3, SBox v3 g7 ⟨a, b, c, d, e, f, p1, k1, d1⟩ → v3 = v2 ∨ KG v2 v3 g7 → Kp w v3 a b c d e f so n sc bb c5 b7 c7 p1 k1 d1 o2 c2 o3 c3 g1 g5 g7 g10 g13 X W Z P := by
  obtain ⟨⟨q0, q1, q2, q3, q4, q5⟩, u1, u2, u3, u4⟩ := h.hb
  obtain ⟨⟨y0, y1, y2, y4, y5⟩, t1, t3, t4⟩ := h.h7
  have K : ∀ j, j < v.heap.size → blk o1 ≠ some j → v2.heap[j]? = v.heap[j]? := fun j hj hn => A.grown.block j hj (fun e => hn e.symm)
  have N : ∀ j, j < v.heap.size → blk o1 ≠ some j → blk p1 ≠ some j := fun j hj hn e2 => by
    rcases A.lies with e | ⟨i, e, hi⟩
    · exact hn (e ▸ e2)
    · rw [e] at e2
      have := Option.some.inj e2
      omega
  have hs := A.grown.size
  refine ⟨(K g7 h.x1.lt (fun e => (h.h1 _ e).1.2.2.2.1 rfl)).trans h.x1, fun v3 hx hv => ?_⟩
  have M : ∀ j, j < v.heap.size → blk o1 ≠ some j → g7 ≠ j → v3.heap[j]? = v.heap[j]? := fun j hj hn h7 => by
    rcases hv with rfl | hk
    · exact K j hj hn
    · exact (hk.gr.block j (by omega) (fun e => h7 (Option.some.inj e).symm)).trans (K j hj hn)
  have B2 : Below w.heap.size w v2 := h.bl.trans ⟨A.grown.os, A.grown.tape, A.grown.output, A.grown.size, fun j hj => K j (Nat.lt_of_lt_of_le hj h.bl.size) (fun e => by have := (h.h1 _ e).1.1; omega)⟩
  have B3 : Below w.heap.size w v3 := by
    rcases hv with rfl | hk
    · exact B2
    · exact B2.trans (hk.below y0 B2.size)
  have R3 : OR v3 p1 k1 d1 Z := by
    rcases hv with rfl | hk
    · exact R
    · exact R.keep fun k e => hk.gr.block k (R.lt k e) (fun e2 => N g7 h.x1.lt (fun e => (h.h1 _ e).1.2.2.2.1 rfl) (by rw [e, e2]))
  refine ⟨B3, (M g1 h.xs.lt (fun e => (h.h1 _ e).1.2.1 rfl) y1).trans h.xs, (M g5 h.xg.lt (fun e => (h.h1 _ e).1.2.2.1 rfl) y2).trans h.xg, hx, (M g10 h.x2.lt (fun e => (h.h1 _ e).1.2.2.2.2.1 rfl) y4).trans h.x2, (M g13 h.x3.lt (fun e => (h.h1 _ e).1.2.2.2.2.2 rfl) y5).trans h.x3,
    h.ro.keep fun k hk => M k (h.ro.lt k hk) (fun e => u2 (by rw [e, ← hk]; rfl)) (fun e => by have : bb = k := Option.some.inj hk; omega),
    h.rv.keep fun k hk => M k (h.rv.lt k hk) (fun e => (h.h1 _ e).2.1 hk) (fun e => t1 (by rw [hk, e])), R3,
    h.r2.keep fun k hk => M k (h.r2.lt k hk) (fun e => (h.h1 _ e).2.2.1 hk) (fun e => t3 (by rw [hk, e])),
    h.r3.keep fun k hk => M k (h.r3.lt k hk) (fun e => (h.h1 _ e).2.2.2 hk) (fun e => t4 (by rw [hk, e])),
    ⟨⟨q0, q1, q2, q3, q4, q5⟩, u1, N bb (h.ro.lt bb rfl) u2, u3, u4⟩, fun k hk => ?_, h.h7⟩
  rcases A.lies with e | ⟨i, e, hi⟩
  · exact h.h1 k (e ▸ hk)
  · rw [e] at hk
    have hik := Option.some.inj hk
    have z1 := h.xs.lt
    have z2 := h.xg.lt
    have z3 := h.x1.lt
    have z4 := h.x2.lt
    have z5 := h.x3.lt
    have z6 := h.bl.size
    exact ⟨⟨by omega, by omega, by omega, by omega, by omega, by omega⟩, fun e2 => by have := h.rv.lt _ e2; omega, fun e2 => by have := h.r2.lt _ e2; omega, fun e2 => by have := h.r3.lt _ e2; omega⟩
end
end Go.Proofs.YtmemcnjabnpdmabDoor
