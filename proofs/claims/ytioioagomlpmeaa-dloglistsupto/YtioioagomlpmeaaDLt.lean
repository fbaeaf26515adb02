/- DlogLists: the steps. -/
import Derived.Test.YtioioagomlpmeaaDLs
namespace Go.Proofs.Ytioioagomlpmeaa
open Go.RowKit
variable {w0 w w' w2 w3 : World} {β : Nat × Nat → Option Nat} {al ar lo wo a b : Option Addr} {gl gr cl cr n lc wc k an ac bn bc : Nat} {m nx s : Int} {Z A Q : List Int} {F W : List Sl} {X : Nat → List Int}

theorem St.logS {nx' : Int} {Z' : List Int} {al' : Option Addr} {cl' : Nat} (h : St w0 w β gl m nx Z al cl gr s k A ar cr lo n lc F wo wc W X) (L : Lg w0.heap.size w' gl m nx' Z' al' cl') (K : Kp w w' gl al) (N : Nw w al al') :
    ∃ β', St w0 w' β' gl m nx' Z' al' cl' gr s k A ar cr lo n lc F wo wc W X := by
  obtain ⟨β', e, r, bl, nw, e1, kp⟩ := h.log L K N
  refine ⟨β', r, bl, nw, L, by rw [e _ (ne22 (by decide))]; exact h.n0, e1, h.rf.on (kp (4, 2) (ne22 (by decide)) (ne22 (by decide)) _ h.n2) (fun ad ea => kp (4, 3) (ne22 (by decide)) (ne22 (by decide)) _ (by rw [h.n3, blk_of ea])), by rw [e _ (ne22 (by decide))]; exact h.n2, by rw [e _ (ne22 (by decide))]; exact h.n3,
    h.so.keep fun j ej => kp (0, 0) (ne12 (by decide)) (ne12 (by decide)) j (by rw [h.o0]; exact ej), by rw [e _ (ne12 (by decide))]; exact h.o0, fun q hq => ⟨(h.rows q hq).1.keep fun j ej => kp (1, q) (ne12 (by decide)) (ne12 (by decide)) j (by rw [(h.rows q hq).2]; exact ej), by rw [e _ (ne12 (by decide))]; exact (h.rows q hq).2⟩,
    h.sw.keep fun j ej => kp (0, 5) (ne12 (by decide)) (ne12 (by decide)) j (by rw [h.o5]; exact ej), by rw [e _ (ne12 (by decide))]; exact h.o5, fun q hq => ⟨(h.wr q hq).1.keep fun j ej => kp (2, q) (ne12 (by decide)) (ne12 (by decide)) j (by rw [(h.wr q hq).2]; exact ej), by rw [e _ (ne12 (by decide))]; exact (h.wr q hq).2⟩⟩
theorem St.refS {k' : Nat} {A' : List Int} {ar' : Option Addr} {cr' : Nat} (h : St w0 w β gl m nx Z al cl gr s k A ar cr lo n lc F wo wc W X) (L : Rf w0.heap.size w' gr m s k' A' ar' cr') (K : Kp w w' gr ar) (N : Nw w ar ar') :
    ∃ β', St w0 w' β' gl m nx Z al cl gr s k' A' ar' cr' lo n lc F wo wc W X := by
  obtain ⟨r, kp⟩ := h.reg.kp K N (4, 2) (4, 3) h.n2 h.n3 (fun ad e => (L.row ad e).2)
  have e : ∀ z, z ≠ (4, 3) → upd β (4, 3) (blk ar') z = β z := fun z hz => upd_ne hz
  refine ⟨upd β (4, 3) (blk ar'), r, K.below h.bel h.rf.hg (fun ad e => (h.rf.row ad e).1) h.bel.size, fun x j ej => ?_, h.lg.on (kp (4, 0) (ne22 (by decide)) (ne22 (by decide)) _ h.n0) (fun ad ea => kp (4, 1) (ne22 (by decide)) (ne22 (by decide)) _ (by rw [h.n1, blk_of ea])), by rw [e _ (ne22 (by decide))]; exact h.n0, by rw [e _ (ne22 (by decide))]; exact h.n1, L, by rw [e _ (ne22 (by decide))]; exact h.n2, upd_at _ _ _,
    h.so.keep fun j ej => kp (0, 0) (ne12 (by decide)) (ne12 (by decide)) j (by rw [h.o0]; exact ej), by rw [e _ (ne12 (by decide))]; exact h.o0, fun q hq => ⟨(h.rows q hq).1.keep fun j ej => kp (1, q) (ne12 (by decide)) (ne12 (by decide)) j (by rw [(h.rows q hq).2]; exact ej), by rw [e _ (ne12 (by decide))]; exact (h.rows q hq).2⟩,
    h.sw.keep fun j ej => kp (0, 5) (ne12 (by decide)) (ne12 (by decide)) j (by rw [h.o5]; exact ej), by rw [e _ (ne12 (by decide))]; exact h.o5, fun q hq => ⟨(h.wr q hq).1.keep fun j ej => kp (2, q) (ne12 (by decide)) (ne12 (by decide)) j (by rw [(h.wr q hq).2]; exact ej), by rw [e _ (ne12 (by decide))]; exact (h.wr q hq).2⟩⟩
  by_cases hx : x = (4, 3)
  · rw [hx, upd_at] at ej
    cases hal : ar' with
    | none => rw [hal] at ej; cases ej
    | some ad => rw [hal] at ej; have := (L.row ad hal).1; have : ad.block = j := Option.some.inj ej; omega
  · rw [upd_ne hx] at ej; exact h.nw x j ej
/-- the two appends -/
theorem St.add {lo' : Option Addr} {lc' : Nat} {w4 : World} (h : St w0 w β gl m nx Z al cl gr s k A ar cr lo n lc F wo wc W X) (hb : Below w.heap.size w w3) (ra : IR w3 a an ac Q) (rb : IR w3 b bn bc Q) (na : ∀ j, blk a = some j → w.heap.size ≤ j) (nb : ∀ j, blk b = some j → w.heap.size ≤ j) (ne : ∀ j, blk a = some j → blk b ≠ some j)
    (s4 : SO 34 w4 lo' (n + 1) lc' (F ++ [⟨a, an, ac⟩])) (a4 : Ap w3 w4 lo lo') :
    SO 34 w4 wo n wc W ∧ ∀ (w5 : World) (wo' : Option Addr) (wc' : Nat), SO 34 w5 wo' (n + 1) wc' (W ++ [⟨b, bn, bc⟩]) → Ap w4 w5 wo wo' → ∃ β', St w0 w5 β' gl m nx Z al cl gr s k A ar cr lo' (n + 1) lc' (F ++ [⟨a, an, ac⟩]) wo' wc' (W ++ [⟨b, bn, bc⟩]) (Xu X n Q) := by
  have h3 := h.below hb
  have hF := h.so.len
  have hW := h.sw.len
  have old : ∀ y j, β y = some j → j < w.heap.size := fun y j e => h.reg.lt y j e
  have g1 : Reg w3 (upd β (1, n) (blk a)) := h3.reg.put (1, n) _ (fun j e => ra.lt j e) (fun j e y _ f => by have := na j e; have := old y j f; omega)
  have g2 : Reg w3 (upd (upd β (1, n) (blk a)) (2, n) (blk b)) := g1.put (2, n) _ (fun j e => rb.lt j e) (fun j e y _ f => by
    by_cases hy : y = (1, n)
    · rw [hy, upd_at] at f; exact ne j f e
    · rw [upd_ne hy] at f
      have := nb j e; have := old y j f; omega)
  obtain ⟨γ, hγ⟩ : ∃ γ, upd (upd β (1, n) (blk a)) (2, n) (blk b) = γ := ⟨_, rfl⟩
  have c0 : ∀ y : Nat × Nat, y ≠ (1, n) → y ≠ (2, n) → γ y = β y := fun y h1 h2 => by rw [← hγ, upd_ne h2, upd_ne h1]
  have c1 : γ (1, n) = blk a := by rw [← hγ, upd_ne (ne12 (by decide)), upd_at]
  have c2 : γ (2, n) = blk b := by rw [← hγ, upd_at]
  rw [hγ] at g2
  have k4 := g2.kept a4 (x := (0, 0)) (by rw [c0 _ (ne12 (by decide)) (ne12 (by decide))]; exact h.o0)
  have g4 := g2.grow a4 (x := (0, 0)) (by rw [c0 _ (ne12 (by decide)) (ne12 (by decide))]; exact h.o0) (fun j e => s4.lt j e)
  have sw4 : SO 34 w4 wo n wc W := h3.sw.keep fun j e => k4 (0, 5) (by decide) j (by rw [c0 _ (ne12 (by decide)) (ne12 (by decide)), h.o5]; exact e)
  refine ⟨sw4, fun w5 wo' wc' s5 a5 => ?_⟩
  have o5' : upd γ (0, 0) (blk lo') (0, 5) = blk wo := by rw [upd_ne (by decide), c0 _ (ne12 (by decide)) (ne12 (by decide))]; exact h.o5
  have k5 := g4.kept a5 o5'
  have g5 := g4.grow a5 o5' (fun j e => s5.lt j e)
  have kk : ∀ y : Nat × Nat, y ≠ (0, 0) → y ≠ (0, 5) → ∀ j, γ y = some j → w5.heap[j]? = w3.heap[j]? := fun y h1 h2 j e => (k5 y h2 j (by rw [upd_ne h1]; exact e)).trans (k4 y h1 j e)
  obtain ⟨δ, hδ⟩ : ∃ δ, upd (upd γ (0, 0) (blk lo')) (0, 5) (blk wo') = δ := ⟨_, rfl⟩
  have d0 : ∀ y : Nat × Nat, y ≠ (0, 0) → y ≠ (0, 5) → δ y = γ y := fun y h1 h2 => by rw [← hδ, upd_ne h2, upd_ne h1]
  rw [hδ] at g5
  have nwa : ∀ (u v : World) (p q : Option Addr), Ap u v p q → w0.heap.size ≤ u.heap.size → (∀ j, blk p = some j → w0.heap.size ≤ j) → ∀ j, blk q = some j → w0.heap.size ≤ j := fun u v p q x hs hp j e => by
    rcases x.lies with f | ⟨i, f, hi⟩
    · exact hp j (by rw [← f]; exact e)
    · rw [f] at e; have := Option.some.inj e; omega
  have z3 : w0.heap.size ≤ w3.heap.size := h3.bel.size
  have z4 : w0.heap.size ≤ w4.heap.size := Nat.le_trans z3 a4.grown.size
  have nlo := nwa _ _ _ _ a4 z3 (fun j e => h.nw (0, 0) j (by rw [h.o0]; exact e))
  have nwo := nwa _ _ _ _ a5 z4 (fun j e => h.nw (0, 5) j (by rw [h.o5]; exact e))
  have blo : ∀ j, blk lo = some j → w0.heap.size ≤ j := fun j e => h.nw (0, 0) j (by rw [h.o0]; exact e)
  have bwo : ∀ j, blk wo = some j → w0.heap.size ≤ j := fun j e => h.nw (0, 5) j (by rw [h.o5]; exact e)
  have bel5 : Below w0.heap.size w0 w5 := (h3.bel.grown a4.grown z3 (fun j e => blo j e)).grown a5.grown z4 (fun j e => bwo j e)
  have e44 : ∀ i, δ (4, i) = β (4, i) := fun i => by rw [d0 _ (ne12 (by decide)) (ne12 (by decide)), c0 _ (ne12 (by decide)) (ne12 (by decide))]
  have k44 : ∀ i j, β (4, i) = some j → w5.heap[j]? = w3.heap[j]? := fun i j e => kk (4, i) (ne12 (by decide)) (ne12 (by decide)) j (by rw [c0 _ (ne12 (by decide)) (ne12 (by decide))]; exact e)
  refine ⟨δ, g5, bel5, fun x j e => ?_, h3.lg.on (k44 0 _ h.n0) (fun ad ea => k44 1 _ (by rw [h.n1, blk_of ea])), by rw [e44]; exact h.n0, by rw [e44]; exact h.n1, h3.rf.on (k44 2 _ h.n2) (fun ad ea => k44 3 _ (by rw [h.n3, blk_of ea])), by rw [e44]; exact h.n2, by rw [e44]; exact h.n3,
    s4.keep fun j e => k5 (0, 0) (by decide) j (by rw [upd_at]; exact e), by rw [← hδ, upd_ne (by decide), upd_at], fun q hq => ?_, s5, by rw [← hδ, upd_at], fun q hq => ?_⟩
  · by_cases h0 : x = (0, 0)
    · rw [h0, ← hδ, upd_ne (by decide), upd_at] at e; exact nlo j e
    · by_cases h5 : x = (0, 5)
      · rw [h5, ← hδ, upd_at] at e; exact nwo j e
      · rw [d0 x h0 h5] at e
        have hs := h.bel.size
        by_cases h1 : x = (1, n)
        · rw [h1, c1] at e; have := na j e; omega
        · by_cases h2 : x = (2, n)
          · rw [h2, c2] at e; have := nb j e; omega
          · rw [c0 x h1 h2] at e; exact h.nw x j e
  · rw [d0 _ (ne12 (by decide)) (ne12 (by decide))]
    by_cases e : q = n
    · subst e
      have e1 : fr (F ++ [⟨a, an, ac⟩]) q = ⟨a, an, ac⟩ := getD_snoc_eq _ _ _ _ hF.symm
      rw [e1, Xu_at, c1]
      exact ⟨ra.keep fun j e => kk (1, q) (ne12 (by decide)) (ne12 (by decide)) j (by rw [c1]; exact e), rfl⟩
    · have hq' : q < n := by omega
      have e1 : fr (F ++ [⟨a, an, ac⟩]) q = fr F q := getD_snoc_lt _ _ _ _ (by omega)
      rw [e1, Xu_ne e, c0 _ (ne22 e) (ne12 (by decide))]
      exact ⟨(h3.rows q hq').1.keep fun j ej => kk (1, q) (ne12 (by decide)) (ne12 (by decide)) j (by rw [c0 _ (ne22 e) (ne12 (by decide)), (h.rows q hq').2]; exact ej), (h.rows q hq').2⟩
  · rw [d0 _ (ne12 (by decide)) (ne12 (by decide))]
    by_cases e : q = n
    · subst e
      have e1 : fr (W ++ [⟨b, bn, bc⟩]) q = ⟨b, bn, bc⟩ := getD_snoc_eq _ _ _ _ hW.symm
      rw [e1, Xu_at, c2]
      exact ⟨rb.keep fun j e => kk (2, q) (ne12 (by decide)) (ne12 (by decide)) j (by rw [c2]; exact e), rfl⟩
    · have hq' : q < n := by omega
      have e1 : fr (W ++ [⟨b, bn, bc⟩]) q = fr W q := getD_snoc_lt _ _ _ _ (by omega)
      rw [e1, Xu_ne e, c0 _ (ne12 (by decide)) (ne22 e)]
      exact ⟨(h3.wr q hq').1.keep fun j ej => kk (2, q) (ne12 (by decide)) (ne12 (by decide)) j (by rw [c0 _ (ne12 (by decide)) (ne22 e), (h.wr q hq').2]; exact ej), (h.wr q hq').2⟩
/-- what apart asks -/
theorem St.bs (h : St w0 w β gl m nx Z al cl gr s k A ar cr lo n lc F wo wc W X) : ∃ γ, Bs w w γ lo n lc F ∧ γ (0, 1) = none ∧ γ (0, 3) = none := by
  refine ⟨fun x => if x = (0, 0) then β (0, 0) else if x.1 = 1 ∧ x.2 < n then β x else none, ⟨⟨fun x j e => ?_, fun x y j e f => ?_⟩, Frm.refl _ _, fun x h1 h0 j e => ?_, h.so, ?_, fun q hq => ?_⟩, by simp, by simp⟩
  · split at e
    · exact h.reg.lt _ j e
    · split at e
      · exact h.reg.lt _ j e
      · cases e
  · have ex : β x = some j := by
      split at e
      · rename_i hx; rw [hx]; exact e
      · split at e
        · exact e
        · cases e
    have ey : β y = some j := by
      split at f
      · rename_i hy; rw [hy]; exact f
      · split at f
        · exact f
        · cases f
    exact h.reg.inj x y j ex ey
  · rw [if_neg h0, if_neg (fun c => h1 c.1)] at e
    cases e
  · rw [if_pos rfl]; exact h.o0
  · rw [if_neg (ne12 (by decide)), if_pos ⟨rfl, hq⟩]; exact (h.rows q hq).2
/-- behind apart: log and reference stand -/
theorem St.after (h : St w0 w β gl m nx Z al cl gr s k A ar cr lo n lc F wo wc W X) (f : Frm w w' (SF n F)) : Lg w0.heap.size w' gl m nx Z al cl ∧ Rf w0.heap.size w' gr m s k A ar cr ∧ Below w0.heap.size w0 w' := by
  have no : ∀ i j, β (4, i) = some j → ¬ SF n F j := fun i j e ⟨q, hq, hs⟩ => ne12 (by decide) (h.reg.inj (4, i) (1, q) j e (by rw [(h.rows q hq).2]; exact hs))
  have kp : ∀ i j, β (4, i) = some j → w'.heap[j]? = w.heap[j]? := fun i j e => f.block j (h.reg.lt _ j e) (no i j e)
  refine ⟨h.lg.on (kp 0 _ h.n0) (fun ad ea => kp 1 _ (by rw [h.n1, blk_of ea])), h.rf.on (kp 2 _ h.n2) (fun ad ea => kp 3 _ (by rw [h.n3, blk_of ea])), f.os.trans h.bel.os, f.tape.trans h.bel.tape, f.output.trans h.bel.output, Nat.le_trans h.bel.size f.size, fun j hj => (f.block j (Nat.lt_of_lt_of_le hj h.bel.size) (fun ⟨q, hq, hs⟩ => ?_)).trans (h.bel.block j hj)⟩
  have := h.nw (1, q) j (by rw [(h.rows q hq).2]; exact hs)
  omega
end Go.Proofs.Ytioioagomlpmeaa
