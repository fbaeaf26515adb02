/- The four appends of the law, step by step: what is known of memory behind each. -/
import Derived.Test.YtfjaddhkilbciaaLaws
import Derived.Deep.QuietTactic
import Derived.BigQuiet
namespace Go.Proofs.Ytfjaddhkilbciaa
open Go.RowKit

/-- what came in -/
structure In (w : World) (ao bo : Option Addr) (la ca lb cb : Nat) (A B : List Int) : Prop where
  la_le : la ≤ 1048576
  lb_le : lb ≤ 1048576
  a : Src w ao la ca A
  b : Src w bo lb cb B

/-- behind so many steps: the old memory stands, 'all' lies in its block -/
structure Mid (w w' : World) (L : List Int) : Prop where
  below : Below w.heap.size w w'
  blk : Blk w' (w.heap.size + 1) L

structure Mid5 (w w' : World) (L A : List Int) (g : Nat) : Prop extends Mid w w' L where
  g_ge : w.heap.size + 1 < g
  g_lt : g < w'.heap.size
  row : ∀ t, t < A.length → w'.cell? ⟨g, t, none⟩ = some (.int .i64 (A.getD t 0))

structure Mid6 (w w' : World) (L A B : List Int) (g h : Nat) : Prop extends Mid5 w w' L A g where
  rowB : ∀ t, t < B.length → w'.cell? ⟨h, t, none⟩ = some (.int .i64 (B.getD t 0))

theorem Mid6.drewN {w w' : World} {L A B : List Int} {g h : Nat} (M : Mid6 w w' L A B g h) (n : Nat) : Mid6 w (w'.drewN n) L A B g h :=
  ⟨⟨⟨M.below.trans ⟨rfl, rfl, rfl, Nat.le_refl _, fun _ _ => rfl⟩, M.blk⟩, M.g_ge, M.g_lt, M.row⟩, M.rowB⟩

section
variable {w w' : World} {ao bo : Option Addr} {la ca lb cb : Nat} {A B : List Int} {ops : Array Oper} {rest : List Oper} {o : Oper} {a : Act} {Q : Exit → Act → World → Prop}

theorem step2 (x : Obj) (I : In w ao bo la ca lb cb A B) (hg : o.guard = none) (l c : Operand) (hop : o.op = Op.makeSlice 22 l c) (hl : a.eval l = .int .i64 0) (hc : a.eval c = .int .i64 ((la : Int) + lb + 9))
    (hK : ∀ w2, Mid w w2 (List.replicate (la + lb + 9) 0) → wpList Try.prog ops Q rest (a.put o.dst (.slice (some ⟨w.heap.size + 1, 0, none⟩) 0 (la + lb + 9))) w2) :
    wpList Try.prog ops Q (o :: rest) a (w.alloc x) := by
  have h1 := I.la_le
  have h2 := I.lb_le
  refine make_zeros _ hg l c hop _ (la + lb + 9) hl hc (by omega) (by omega) ?_
  intro w2 hblk hsz hgrow
  rw [World.size_alloc] at hblk hsz ⊢
  exact hK w2 ⟨((Below.refl _ _).alloc (Nat.le_refl _) _).grown hgrow (by simp) (by intro k h; cases h), hblk⟩

theorem step3 (I : In w ao bo la ca lb cb A B) (M : Mid w w' (List.replicate (la + lb + 9) 0)) (hgd : o.guard = none) (s x : Operand) (ho : o.op = .call { callee := .builtin .append, args := #[s, x], argTypes := #[22, 22] })
    (hs : a.eval s = .slice (some ⟨w.heap.size + 1, 0, none⟩) 0 (la + lb + 9)) (hx : a.eval x = .slice ao la ca)
    (hK : ∀ w3, Mid w w3 (A ++ List.replicate (lb + 9) 0) → wpList Try.prog ops Q rest (a.put o.dst (.slice (some ⟨w.heap.size + 1, 0, none⟩) la (la + lb + 9))) w3) :
    wpList Try.prog ops Q (o :: rest) a w' := by
  have h1 := I.la_le
  have h2 := I.lb_le
  have S := I.a.below M.below
  refine append_room w' hgd s x ho (w.heap.size + 1) 0 _ (la + lb + 9) hs M.blk (by simp) (by omega) ao la ca A hx S.1 S.2.1 S.2.2 (by omega) ?_
  intro w3 hblk hgrow
  rw [Nat.zero_add]
  have hsz := M.blk.lt
  refine hK w3 ⟨M.below.grown hgrow (by omega) (by intro k h; cases h; omega), ?_⟩
  have e : List.take 0 (List.replicate (la + lb + 9) (0 : Int)) ++ A ++ List.drop (0 + la) (List.replicate (la + lb + 9) 0) = A ++ List.replicate (lb + 9) 0 := by
    simp only [List.take_zero, List.nil_append, List.drop_replicate]
    congr 2; omega
  rw [e] at hblk
  exact hblk

theorem step4 (I : In w ao bo la ca lb cb A B) (M : Mid w w' (A ++ List.replicate (lb + 9) 0)) (hgd : o.guard = none) (s x : Operand) (ho : o.op = .call { callee := .builtin .append, args := #[s, x], argTypes := #[22, 22] })
    (hs : a.eval s = .slice (some ⟨w.heap.size + 1, 0, none⟩) la (la + lb + 9)) (hx : a.eval x = .slice bo lb cb)
    (hK : ∀ w3, Mid w w3 (A ++ B ++ List.replicate 9 0) → wpList Try.prog ops Q rest (a.put o.dst (.slice (some ⟨w.heap.size + 1, 0, none⟩) (la + lb) (la + lb + 9))) w3) :
    wpList Try.prog ops Q (o :: rest) a w' := by
  have h1 := I.la_le
  have h2 := I.lb_le
  have S := I.b.below M.below
  have hA := I.a.1
  refine append_room w' hgd s x ho (w.heap.size + 1) la _ (la + lb + 9) hs M.blk (by simp; omega) (by omega) bo lb cb B hx S.1 S.2.1 S.2.2 (by omega) ?_
  intro w3 hblk hgrow
  have hsz := M.blk.lt
  refine hK w3 ⟨M.below.grown hgrow (by omega) (by intro k h; cases h; omega), ?_⟩
  have e : List.take la (A ++ List.replicate (lb + 9) 0) ++ B ++ List.drop (la + lb) (A ++ List.replicate (lb + 9) (0 : Int)) = A ++ B ++ List.replicate 9 0 := by
    rw [← hA, List.take_left, List.drop_append, List.drop_eq_nil_of_le (by omega), List.nil_append, List.drop_replicate]
    congr 2; omega
  rw [e] at hblk
  exact hblk

theorem step5 {L : List Int} (I : In w ao bo la ca lb cb A B) (M : Mid w w' L) (hgd : o.guard = none) (s x : Operand) (ho : o.op = .call { callee := .builtin .append, args := #[s, x], argTypes := #[22, 22] })
    (hs : a.eval s = .slice (some ⟨w'.heap.size, 0, none⟩) 0 0) (hx : a.eval x = .slice ao la ca)
    (hK : ∀ w3 g c, Mid5 w w3 L A g → wpList Try.prog ops Q rest (a.put o.dst (.slice (some ⟨g, 0, none⟩) la c)) w3) :
    wpList Try.prog ops Q (o :: rest) a (w'.alloc (.cells #[] 3)) := by
  have h1 := I.la_le
  have hsz := M.blk.lt
  have S := (I.a.below M.below).alloc (.cells #[] 3)
  refine append_new _ hgd s x ho w'.heap.size hs (blk_new w') ao la ca A hx S.1 S.2.1 (by omega) S.2.2 ?_
  intro w3 g c hg hlt hrow hgrow
  refine hK w3 g c ⟨⟨(M.below.alloc (by omega) _).grown hgrow (by simp; omega) (by intro k h; cases h; omega), (M.blk.alloc _).grown hgrow (by intro h; have h := Option.some.inj h; omega)⟩, by omega, hlt, ?_⟩
  rw [I.a.1]; exact hrow

theorem step6 {L : List Int} {g5 : Nat} (I : In w ao bo la ca lb cb A B) (M : Mid5 w w' L A g5) (hgd : o.guard = none) (s x : Operand) (ho : o.op = .call { callee := .builtin .append, args := #[s, x], argTypes := #[22, 22] })
    (hs : a.eval s = .slice (some ⟨w'.heap.size, 0, none⟩) 0 0) (hx : a.eval x = .slice bo lb cb)
    (hK : ∀ w3 g c, Mid6 w w3 L A B g5 g → wpList Try.prog ops Q rest (a.put o.dst (.slice (some ⟨g, 0, none⟩) lb c)) w3) :
    wpList Try.prog ops Q (o :: rest) a (w'.alloc (.cells #[] 3)) := by
  have h1 := I.lb_le
  have hsz := M.blk.lt
  have hg5 := M.g_lt
  have S := (I.b.below M.below).alloc (.cells #[] 3)
  refine append_new _ hgd s x ho w'.heap.size hs (blk_new w') bo lb cb B hx S.1 S.2.1 (by omega) S.2.2 ?_
  intro w3 g c hg hlt hrow hgrow
  have hs3 := hgrow.size
  rw [World.size_alloc] at hs3
  refine hK w3 g c ⟨⟨⟨(M.below.alloc (by omega) _).grown hgrow (by simp; omega) (by intro k h; cases h; omega), (M.blk.alloc _).grown hgrow (by intro h; have h := Option.some.inj h; omega)⟩, M.g_ge, by omega, fun t ht => ?_⟩, ?_⟩
  · refine hgrow.cell ?_ (by intro h; have h : g5 = w'.heap.size := Option.some.inj h; omega)
    exact (World.cell?_alloc_past _ _ _ hg5).trans (M.row t ht)
  · rw [I.b.1]; exact hrow
end
end Go.Proofs.Ytfjaddhkilbciaa
