/- The reference's Mean: the variables of its last loop. -/
import Derived.Test.YtiogmeaianogmaaQMi
namespace Go.Proofs.Ytiogmeaianogmaa
open Go.RowKit

theorem OwnJ.src {B : Nat} {W : World} {F : Nat → Si} (O : OwnJ B W F) (hB : B ≤ W.heap.size) {r : Nat} (hr : r < 32) : V.Src W (F r).ao (F r).n (F r).cap (F r).L := by
  have hl := O.len hr
  have h : OwnI 0 B W W (F r).ao (F r).cap (F r).L := ⟨by rw [hl]; exact O.own r hr, Below.refl _ _, hB, Nat.zero_le _⟩
  have := h.src.1
  rw [hl] at this
  exact this
/-- the last loop's variables: the answer s at gs, of whose rows j are laid -/
structure MeJ (w W : World) (gs : Nat) (F : Nat → Si) (G : Nat → List Rn) (T : Nat → Si) (N : Nat → List Rn) (j : Nat) : Prop where
  i : MeI w W F G G
  s : ISets W gs 60 T
  g : w.heap.size + 3 ≤ gs
  off : JOff F gs
  t : ∀ r, r < j → V.Src W (T r).ao (T r).n (T r).cap (tn (N r)) ∧ (∀ ad, (T r).ao = some ad → gs < ad.block) ∧ NormOf (G r) (N r)
theorem MeJ.start {w W : World} {F : Nat → Si} {G : Nat → List Rn} (I : MeI w W F G G) : MeJ w (W.alloc (.cells (JA fun _ => si0) 60)) W.heap.size F G (fun _ => si0) (fun _ => []) 0 :=
  ⟨I.on (below_new _ _), isets_new _ _ _, I.h, I.off _ (Or.inr (Nat.le_refl _)), fun r h => absurd h (by omega)⟩
theorem MeJ.on {w W W' : World} {gs : Nat} {F : Nat → Si} {G : Nat → List Rn} {T : Nat → Si} {N : Nat → List Rn} {j : Nat} (I : MeJ w W gs F G T N j) (hb : Below W.heap.size W W') : MeJ w W' gs F G T N j :=
  ⟨I.i.on hb, I.s.below hb, I.g, I.off, fun r hr => ⟨(I.t r hr).1.below hb, (I.t r hr).2⟩⟩
theorem MeJ.push {w W W' : World} {gs : Nat} {F : Nat → Si} {G : Nat → List Rn} {T : Nat → Si} {N : Nat → List Rn} {j : Nat} (I : MeJ w W gs F G T N j) (hb : Below W.heap.size W W') {ao : Option Addr} {n c : Nat} {X : List Rn} (S : V.Src W' ao n c (tn X)) (hf : ∀ ad, ao = some ad → W.heap.size ≤ ad.block) (hN : NormOf (G j) X) :
    MeJ w (W'.setCell ⟨gs, j, none⟩ (.slice ao n c)) gs F G (Jset T j ⟨ao, n, c, []⟩) (fun r => if r = j then X else N r) (j + 1) := by
  have hl := I.s.lt
  have hg := I.g
  have J := I.i.on hb
  have hs : ∀ {q : Nat}, q ≠ gs → (W'.setCell ⟨gs, j, none⟩ (.slice ao n c)).heap[q]? = W'.heap[q]? := fun h => setCell_other h
  refine ⟨⟨(hs (by omega)).trans J.z, (hs (by omega)).trans J.a, (hs (by omega)).trans J.b, J.o.kept (fun q _ ho => hs (fun e => ho (by rw [e]; exact I.off))), J.l, J.m, V.below_setCell J.bl (by simp; omega), by simpa [World.setCell] using J.h⟩, (I.s.below hb).set j ⟨ao, n, c, []⟩ _ rfl, hg, I.off, fun r hr => ?_⟩
  by_cases h : r = j
  · subst h
    rw [Jset_same, if_pos rfl]
    exact ⟨src_off S (fun ad h => hs (by have := hf ad h; omega)), fun ad h => by have := hf ad h; omega, hN⟩
  · rw [Jset_other _ _ _ _ h, if_neg h]
    obtain ⟨h1, h2, h3⟩ := I.t r (by omega)
    exact ⟨src_off (h1.below hb) (fun ad h => hs (by have := h2 ad h; omega)), h2, h3⟩
end Go.Proofs.Ytiogmeaianogmaa
