/- The law's walked: while the walk's numbers and items are collected. -/
import Derived.Test.YtgnclfeicgbjpaaDWk
import Derived.Maps.OwnIn
namespace Go.Proofs.Ytgnclfeicgbjpaa
open Go.RowKit Go.Shelf
attribute [local go_sem] Oper.semAt_some

/-- while they are collected: the variables most, at, items in boxes, two rows that lie apart -/
structure Wq (w W : World) (q : Nat) (most : Int) (X Y : List Int) (v1 v2 : Value) : Prop where
  b0 : Boxed W w.heap.size 3 (.int .i64 most)
  b1 : Boxed W (w.heap.size + 1) 38 v1
  b2 : Boxed W (w.heap.size + 2) 38 v2
  r1 : W.ownsRow q 3 1 v1 X.length (ics X)
  r2 : W.ownsRow q 3 1 v2 Y.length (ics Y)
  ap : ∀ b, v1.ownBlock = some b → v2.ownBlock ≠ some b
  bl : Below w.heap.size w W
  hq : w.heap.size + 3 ≤ q
  hs : q ≤ W.heap.size
theorem cell_one_new' (W : World) (n : Nat) (x : Value) (t : TypeId) (hn : n = W.heap.size) : ∀ j u, [x][j]? = some u → (W.alloc (.cells #[x] t)).cell? ((⟨n, 0, none⟩ : Addr).add j) = some u := by subst hn; exact cell_one_new W x t
section
variable {w W W' w1 : World} {q : Nat} {most x : Int} {X Y : List Int} {v1 v2 v' : Value}
theorem row_block {base n : Nat} {v : Value} {xs : List Value} (h : W.ownsRow base 3 1 v n xs) {b : Nat} (e : v.ownBlock = some b) : base ≤ b ∧ ∃ cs t k, W.heap[b]? = some (.cells cs t k) := by
  rcases h.2 with ⟨rfl, _⟩ | ⟨g, cap, cur, rfl, hb, hgb, _⟩
  · simp [Value.ownBlock] at e
  · obtain rfl : g = b := by simpa [Value.ownBlock] using e
    exact ⟨hb, _, _, _, hgb⟩
theorem row_kept {base n : Nat} {v : Value} {xs : List Value} {row : Option Nat} (h : W.ownsRow base 3 1 v n xs) (hg : W.grownBy W' row) (hne : ∀ b, v.ownBlock = some b → row ≠ some b) : W'.ownsRow base 3 1 v n xs := by
  refine h.kept hg ?_
  rcases h.2 with ⟨rfl, _⟩ | ⟨g, cap, cur, rfl, _⟩
  · exact .inl rfl
  · exact .inr fun e => hne g rfl e.symm
theorem Wq.own {row : Option Nat} {B : Nat} (h : Wq w W q most X Y v1 v2) (hB : q ≤ B) (hg : W.grownBy W' row) (hr : ∀ r, row = some r → B ≤ r ∧ ∃ o : Obj, W.heap[r]? = some o ∧ o.isCells = false) : Wq w W' q most X Y v1 v2 := by
  have hbox : ∀ {b : Nat} {t : TypeId} {v : Value}, Boxed W b t v → Boxed W' b t v := fun {b t v} hv => hv.kept hg (fun e => by
    obtain ⟨_, o, ho, hc⟩ := hr b e.symm
    rw [show W.heap[b]? = _ from hv] at ho; cases ho; cases hc)
  have hrow : ∀ {v : Value} {n : Nat} {xs : List Value}, W.ownsRow q 3 1 v n xs → W'.ownsRow q 3 1 v n xs := fun {v n xs} hv => row_kept hv hg (fun b e e2 => by
    obtain ⟨_, cs, t, k, hb⟩ := row_block hv e
    obtain ⟨_, o, ho, hc⟩ := hr b e2
    rw [hb] at ho; cases ho; cases hc)
  exact ⟨hbox h.b0, hbox h.b1, hbox h.b2, hrow h.r1, hrow h.r2, h.ap, h.bl.grown hg h.bl.size (fun k e => by have := (hr k e).1; have := h.hq; omega), h.hq, Nat.le_trans h.hs hg.size⟩
theorem ownNe {b : Nat} {t : TypeId} {u : Value} (_ : Boxed W b t u) (_ : t = 3 ∨ t = 38) {base n : Nat} {v : Value} {xs : List Value} (h : W.ownsRow base 3 1 v n xs) (hlt : b < base) : ∀ c, v.ownBlock = some c → c ≠ b := fun c e e2 => by
  have := (row_block h e).1
  omega
/-- a number put behind the first row -/
theorem Wq.app1 {tmp : Obj} (h : Wq w W q most X Y v1 v2) (hown : w1.ownsRow q 3 1 v' (X.length + 1) (ics X ++ [.int .i64 x])) (hgrow : (W.alloc tmp).grownBy w1 v1.ownBlock) (hat : v'.ownBlock = v1.ownBlock ∨ v'.ownBlock = some (W.alloc tmp).heap.size) :
    (Boxed w1 w.heap.size 3 (.int .i64 most) ∧ Boxed w1 (w.heap.size + 1) 38 v1 ∧ Boxed w1 (w.heap.size + 2) 38 v2) ∧ Wq w (w1.setCell ⟨w.heap.size + 1, 0, none⟩ v') q most (X ++ [x]) Y v' v2 ∧ KeepsOthers W (w1.setCell ⟨w.heap.size + 1, 0, none⟩ v') ∧ Mid (w.heap.size + 3) q W (w1.setCell ⟨w.heap.size + 1, 0, none⟩ v') := by
  have hq := h.hq
  have hs := h.hs
  have hsz : (W.alloc tmp).heap.size = W.heap.size + 1 := by simp
  have k1 : ∀ {b : Nat} {t : TypeId} {v : Value}, Boxed W b t v → b < q → Boxed w1 b t v := fun {b t v} hv hb => (hv.alloc tmp).kept hgrow (fun e => by have := (row_block h.r1 e.symm).1; omega)
  have r2' : w1.ownsRow q 3 1 v2 Y.length (ics Y) := row_kept (h.r2.alloc tmp) hgrow (fun b e e2 => h.ap b e2 e)
  have hset := grownBy_setCell' w1 (w.heap.size + 1) v'
  have k2 : ∀ {b : Nat} {t : TypeId} {v : Value}, Boxed w1 b t v → b ≠ w.heap.size + 1 → Boxed (w1.setCell ⟨w.heap.size + 1, 0, none⟩ v') b t v := fun {b t v} hv hb => hv.kept hset (fun e => hb (by simpa using e))
  have hb1 := k1 h.b1 (by omega)
  have hgs : W.heap.size + 1 ≤ w1.heap.size := by have := hgrow.size; omega
  refine ⟨⟨k1 h.b0 (by omega), hb1, k1 h.b2 (by omega)⟩, ⟨k2 (k1 h.b0 (by omega)) (by omega), hb1.set v', k2 (k1 h.b2 (by omega)) (by omega), ?_, row_kept r2' hset (fun b e e2 => by have := (row_block r2' e).1; have := Option.some.inj e2; omega), ?_, ?_, hq, ?_⟩, ?_, ?_⟩
  · have := row_kept hown hset (fun b e e2 => by have := (row_block hown e).1; have := Option.some.inj e2; omega)
    rw [List.length_append, List.length_singleton, ics_append]
    exact this
  · intro b e e2
    rcases hat with e3 | e3
    · exact h.ap b (e3 ▸ e) e2
    · rw [e3] at e
      have h1 := Option.some.inj e
      obtain ⟨_, cs, t, k, hb⟩ := row_block h.r2 e2
      have := (Array.getElem?_eq_some_iff.1 hb).1
      omega
  · refine ((h.bl.alloc h.bl.size tmp).grown hgrow (by have := h.bl.size; omega) fun j ej => ?_).setCell (p := ⟨w.heap.size + 1, 0, none⟩) (by show _ ≤ w.heap.size + 1; omega) v'
    have := (row_block h.r1 ej).1
    omega
  · have := hset.size
    omega
  · refine ((KeepsOthers.alloc W tmp).trans (KeepsOthers.of_grownBy hgrow fun j o ej hj => ?_)).trans (KeepsOthers.setCell _ _ _)
    obtain ⟨_, cs, t, k, hb⟩ := row_block (h.r1.alloc tmp) ej
    rw [hb] at hj; cases hj; rfl
  · intro k hk1 hk2
    have e1 : (w1.setCell ⟨w.heap.size + 1, 0, none⟩ v').heap[k]? = w1.heap[k]? := hset.block k (by omega) (by intro e; have := Option.some.inj e; omega)
    have e2 : w1.heap[k]? = (W.alloc tmp).heap[k]? := hgrow.block k (by omega) (by intro e; have := (row_block h.r1 e.symm).1; omega)
    rw [e1, e2]
    exact Below.heap_alloc W tmp k (by omega)
/-- a number put behind the second row -/
theorem Wq.app2 {tmp : Obj} (h : Wq w W q most X Y v1 v2) (hown : w1.ownsRow q 3 1 v' (Y.length + 1) (ics Y ++ [.int .i64 x])) (hgrow : (W.alloc tmp).grownBy w1 v2.ownBlock) (hat : v'.ownBlock = v2.ownBlock ∨ v'.ownBlock = some (W.alloc tmp).heap.size) :
    (Boxed w1 w.heap.size 3 (.int .i64 most) ∧ Boxed w1 (w.heap.size + 1) 38 v1 ∧ Boxed w1 (w.heap.size + 2) 38 v2) ∧ Wq w (w1.setCell ⟨w.heap.size + 2, 0, none⟩ v') q most X (Y ++ [x]) v1 v' ∧ KeepsOthers W (w1.setCell ⟨w.heap.size + 2, 0, none⟩ v') ∧ Mid (w.heap.size + 3) q W (w1.setCell ⟨w.heap.size + 2, 0, none⟩ v') := by
  have hq := h.hq
  have hs := h.hs
  have hsz : (W.alloc tmp).heap.size = W.heap.size + 1 := by simp
  have k1 : ∀ {b : Nat} {t : TypeId} {v : Value}, Boxed W b t v → b < q → Boxed w1 b t v := fun {b t v} hv hb => (hv.alloc tmp).kept hgrow (fun e => by have := (row_block h.r2 e.symm).1; omega)
  have r1' : w1.ownsRow q 3 1 v1 X.length (ics X) := row_kept (h.r1.alloc tmp) hgrow (fun b e e2 => h.ap b e e2)
  have hset := grownBy_setCell' w1 (w.heap.size + 2) v'
  have k2 : ∀ {b : Nat} {t : TypeId} {v : Value}, Boxed w1 b t v → b ≠ w.heap.size + 2 → Boxed (w1.setCell ⟨w.heap.size + 2, 0, none⟩ v') b t v := fun {b t v} hv hb => hv.kept hset (fun e => hb (by simpa using e))
  have hb2 := k1 h.b2 (by omega)
  have hgs : W.heap.size + 1 ≤ w1.heap.size := by have := hgrow.size; omega
  refine ⟨⟨k1 h.b0 (by omega), k1 h.b1 (by omega), hb2⟩, ⟨k2 (k1 h.b0 (by omega)) (by omega), k2 (k1 h.b1 (by omega)) (by omega), hb2.set v', row_kept r1' hset (fun b e e2 => by have := (row_block r1' e).1; have := Option.some.inj e2; omega), ?_, ?_, ?_, hq, ?_⟩, ?_, ?_⟩
  · have := row_kept hown hset (fun b e e2 => by have := (row_block hown e).1; have := Option.some.inj e2; omega)
    rw [List.length_append, List.length_singleton, ics_append]
    exact this
  · intro b e e2
    rcases hat with e3 | e3
    · exact h.ap b e (e3 ▸ e2)
    · rw [e3] at e2
      have h1 := Option.some.inj e2
      obtain ⟨_, cs, t, k, hb⟩ := row_block h.r1 e
      have := (Array.getElem?_eq_some_iff.1 hb).1
      omega
  · refine ((h.bl.alloc h.bl.size tmp).grown hgrow (by have := h.bl.size; omega) fun j ej => ?_).setCell (p := ⟨w.heap.size + 2, 0, none⟩) (by show _ ≤ w.heap.size + 2; omega) v'
    have := (row_block h.r2 ej).1
    omega
  · have := hset.size
    omega
  · refine ((KeepsOthers.alloc W tmp).trans (KeepsOthers.of_grownBy hgrow fun j o ej hj => ?_)).trans (KeepsOthers.setCell _ _ _)
    obtain ⟨_, cs, t, k, hb⟩ := row_block (h.r2.alloc tmp) ej
    rw [hb] at hj; cases hj; rfl
  · intro k hk1 hk2
    have e1 : (w1.setCell ⟨w.heap.size + 2, 0, none⟩ v').heap[k]? = w1.heap[k]? := hset.block k (by omega) (by intro e; have := Option.some.inj e; omega)
    have e2 : w1.heap[k]? = (W.alloc tmp).heap[k]? := hgrow.block k (by omega) (by intro e; have := (row_block h.r2 e.symm).1; omega)
    rw [e1, e2]
    exact Below.heap_alloc W tmp k (by omega)
end
end Go.Proofs.Ytgnclfeicgbjpaa
