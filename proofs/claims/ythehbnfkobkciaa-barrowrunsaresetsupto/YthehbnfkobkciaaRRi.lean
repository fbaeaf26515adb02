/- A region that draws its order, with facts that later memory leaves as they are. -/
import Derived.Test.YthehbnfkobkciaaPRg
namespace Go.Proofs.Ythehbnfkobkciaa
open Go.RowKit

abbrev vat (vs : List Value) (i : Nat) : Value := vs.getD i undef
structure RI (n : Nat) (wk : World) (Φ : Nat → Value → World → Prop) (l : Array Bool) (W : World) (vs : List Value) : Prop where
  sz : l.size = n
  ln : vs.length = n
  b : Below wk.heap.size wk W
  h : ∀ i, i < n → l.getD i false = true → Φ i (vat vs i) W
def Mono (Φ : Nat → Value → World → Prop) : Prop := ∀ i x W W', Φ i x W → Below W.heap.size W W' → Φ i x W'
theorem vat_same {vs : List Value} {i : Nat} {v : Value} (h : i < vs.length) : vat (vs.set i v) i = v := by simp [vat, List.getD, h]
theorem vat_other {vs : List Value} {i j : Nat} {v : Value} (h : i ≠ j) : vat (vs.set i v) j = vat vs j := by simp [vat, List.getD, h]
theorem RI.put {n : Nat} {wk : World} {Φ : Nat → Value → World → Prop} {l : Array Bool} {W W' : World} {vs : List Value} (hm : Mono Φ) (T : RI n wk Φ l W vs) (hb : Below W.heap.size W W') (i : Nat) (hi : i < n) (v : Value) (hΦ : Φ i v W') : RI n wk Φ (l.setIfInBounds i true) W' (vs.set i v) := by
  have hi' : i < vs.length := by rw [T.ln]; exact hi
  refine ⟨by simpa using T.sz, by simpa using T.ln, T.b.trans (hb.mono T.b.size), fun j hj hlj => ?_⟩
  by_cases e : i = j
  · subst e; rw [vat_same hi']; exact hΦ
  · rw [vat_other e]; rw [set_other e] at hlj; exact hm _ _ _ _ (T.h j hj hlj) hb
theorem RI.start (n : Nat) (wk : World) (Φ : Nat → Value → World → Prop) (vs : List Value) (h : vs.length = n) : RI n wk Φ (Array.replicate n false) wk.drew vs := by
  refine ⟨by simp, h, below_drew1 wk, ?_⟩
  simp only [rep_false]
  intro i _ h; cases h
end Go.Proofs.Ythehbnfkobkciaa
