/- VectorFinds: the law's walk. -/
import Derived.Test.YtdilejbdkhkifaaRHas
namespace Go.Proofs.Ytdilejbdkhkifaa
open Go.RowKit

theorem lit_src (w : World) (Z : List Int) (C : Array Value) (hC : C = (Z.map (Value.int .i64)).toArray) (T : TypeId) (n : Nat) (hn : Z.length = n) : Src (w.alloc (.cells C T)) (some ⟨w.heap.size, 0, none⟩) n n Z := by
  subst hC hn
  refine ⟨rfl, fun h => (by cases h), fun ad h t ht => ?_⟩
  obtain rfl := Option.some.inj h
  rw [Addr.add_lit, Nat.zero_add, World.cell?_alloc_new]
  simp [List.getD, ht]
/-- what stands all the way through: old memory, the list, the dot -/
structure Thru (w W : World) (ao : Option Addr) (n cap : Nat) (Z : List Int) (r m : Int) : Prop where
  below : Below w.heap.size w W
  src : Src W ao n cap Z
  c0 : W.cell? ⟨w.heap.size, 0, none⟩ = some (.int .i64 r)
  c1 : W.cell? ⟨w.heap.size, 1, none⟩ = some (.int .i64 m)
theorem Thru.on {w W W' : World} {ao : Option Addr} {n cap : Nat} {Z : List Int} {r m : Int} (h : Thru w W ao n cap Z r m) (hb : Below W.heap.size W W') : Thru w W' ao n cap Z r m :=
  ⟨h.below.trans (hb.mono h.below.size), h.src.below hb, (hb.cell (World.block_lt_of_cell? _ _ h.c0)).trans h.c0, (hb.cell (World.block_lt_of_cell? _ _ h.c1)).trans h.c1⟩
theorem Thru.alloc {w W : World} {ao : Option Addr} {n cap : Nat} {Z : List Int} {r m : Int} (h : Thru w W ao n cap Z r m) (o : Obj) : Thru w (W.alloc o) ao n cap Z r m :=
  h.on ((Below.refl _ _).alloc (Nat.le_refl _) _)

def lit3 (w : World) : World := w.alloc (.cells #[.int .i64 3, .int .i64 0, .int .i64 12] 3)
theorem lit3_src (w : World) : Src (lit3 w) (some ⟨w.heap.size, 0, none⟩) 3 3 [3, 0, 12] := lit_src w [3, 0, 12] _ rfl 3 3 rfl
theorem lit3_eq (w : World) : w.alloc (.cells #[.int .i64 3, .int .i64 0, .int .i64 12] 3) = lit3 w := rfl
theorem lit3_at (w : World) (g : Nat) (hg : w.heap.size = g) : Calls Try.prog 17 #[.slice (some ⟨g, 0, none⟩) 3 3, .int .i64 2] (lit3 w) fun e w' => e = .returned (.int .i64 12) ∧ w' = lit3 w := by
  have h := at_any (some ⟨g, 0, none⟩) 3 3 [3, 0, 12] 2 (lit3 w) (hg ▸ lit3_src w)
  rwa [show atI [3, 0, 12] 2 = 12 from by decide +kernel] at h
theorem lit3_has (w : World) (g : Nat) (hg : w.heap.size = g) : Calls Try.prog 18 #[.slice (some ⟨g, 0, none⟩) 3 3, .agg #[.int .i64 0, .int .i64 3]] (lit3 w) fun e w' => e = .returned (.bool true) ∧ Below (lit3 w).heap.size (lit3 w) w' := by
  have h := has_any (some ⟨g, 0, none⟩) 3 3 [3, 0, 12] 0 3 (lit3 w) (hg ▸ lit3_src w)
  rwa [show hasD [3, 0, 12] 0 3 = true from by decide +kernel] at h
theorem lit3_hasnt (w : World) (g : Nat) (hg : w.heap.size = g) : Calls Try.prog 18 #[.slice (some ⟨g, 0, none⟩) 3 3, .agg #[.int .i64 0, .int .i64 4]] (lit3 w) fun e w' => e = .returned (.bool false) ∧ Below (lit3 w).heap.size (lit3 w) w' := by
  have h := has_any (some ⟨g, 0, none⟩) 3 3 [3, 0, 12] 0 4 (lit3 w) (hg ▸ lit3_src w)
  rwa [show hasD [3, 0, 12] 0 4 = false from by decide +kernel] at h
attribute [local go_sem] lit3_eq

set_option maxRecDepth 100000 in
set_option maxHeartbeats 400000 in
theorem finds_any (ao : Option Addr) (n cap : Nat) (Z : List Int) (r m : Int) (w : World) (hS : Src w ao n cap Z) :
    Calls Try.prog 4 #[.slice ao n cap, .agg #[.int .i64 r, .int .i64 m]] w fun e w' => e = .returned (.bool true) ∧ Below w.heap.size w w' := by
  have HB : Below w.heap.size w (w.alloc (.cells #[.int .i64 r, .int .i64 m] 29)) := (Below.refl _ _).alloc (Nat.le_refl _) _
  have T0 := hide (Thru.mk HB (hS.below HB) (by simp : (w.alloc (.cells #[.int .i64 r, .int .i64 m] 29)).cell? ⟨w.heap.size, 0, none⟩ = some (.int .i64 r)) (by simp : (w.alloc (.cells #[.int .i64 r, .int .i64 m] 29)).cell? ⟨w.heap.size, 1, none⟩ = some (.int .i64 m)))
  clear hS HB
  go_enter Try.func4, Try.ntmps4
  go_wp2_with fail
  obtain ⟨w0, Hw0⟩ : ∃ w0, w.alloc (.cells #[.int .i64 r, .int .i64 m] 29) = w0 := ⟨_, rfl⟩
  rw [Hw0] at T0 ⊢
  have hz0 : w0.heap.size = w.heap.size + 1 := by rw [← Hw0]; simp
  clear Hw0
  refine (lit3_at w0 _ hz0).mono ?_
  rintro e w1 ⟨rfl, rfl⟩
  have T1 := hide (T0.out.alloc (.cells #[.int .i64 3, .int .i64 0, .int .i64 12] 3))
  rw [lit3_eq] at T1
  clear T0
  obtain ⟨w1, Hw1⟩ : ∃ w1, lit3 w0 = w1 := ⟨_, rfl⟩
  rw [Hw1] at T1 ⊢
  clear Hw1
  go_wp2_with fail
  refine (lit3_has w1 _ rfl).mono ?_
  rintro e w2 ⟨rfl, b2⟩
  have T2 := hide ((T1.out.alloc (.cells #[.int .i64 3, .int .i64 0, .int .i64 12] 3)).on b2)
  clear T1 b2
  go_wp2_with fail
  refine (lit3_hasnt w2 _ rfl).mono ?_
  rintro e w3 ⟨rfl, b3⟩
  have T3 := hide ((T2.out.alloc (.cells #[.int .i64 3, .int .i64 0, .int .i64 12] 3)).on b3)
  clear T2 b3
  have d0 := T3.out.c0
  go_wp2_with fail
  refine (refAt_any _ _ _ Z r _ T3.out.src).mono ?_
  rintro e w4 ⟨rfl, b4⟩
  have T4 := hide (T3.out.on b4)
  clear T3 b4 d0
  have d0 := T4.out.c0
  have d1 := T4.out.c1
  go_wp2_with fail
  refine (refHas_any _ _ _ Z r m _ T4.out.src).mono ?_
  rintro e w5 ⟨rfl, b5⟩
  have T5 := hide (T4.out.on b5)
  clear T4 b5 d0 d1
  have d0 := T5.out.c0
  have d1 := T5.out.c1
  obtain ⟨a, Ha⟩ : ∃ a, Hid (atI Z r = a) := ⟨_, rfl⟩
  rw [Ha.out]
  go_wp2_with fail
  refine (at_any _ _ _ Z r _ T5.out.src).mono ?_
  rintro e w6 ⟨rfl, rfl⟩
  rw [Ha.out]
  go_wp2_with fail
  refine (has_any _ _ _ Z r m _ T5.out.src).mono ?_
  rintro e w7 ⟨rfl, b7⟩
  have T7 := hide (T5.out.on b7)
  clear T5 b7
  go_wp2_with fail
  go_ret
  exact ⟨ret_bool (by simp), T7.out.below⟩
theorem finds_row (ao : Option Addr) (n cap : Nat) (Z : List Int) (r m : Int) (w : World) (hS : Src w ao n cap Z) (_ : n ≤ maxLen) (_ : (Lit.int .i64 r).wf = true) (_ : (Lit.int .i64 m).wf = true) :
    Calls Try.prog 4 #[.slice ao n cap, .agg #[.int .i64 r, .int .i64 m]] w fun e w' => e = .returned (.bool true) ∧ Below w.heap.size w w' := finds_any ao n cap Z r m w hS
end Go.Proofs.Ytdilejbdkhkifaa
