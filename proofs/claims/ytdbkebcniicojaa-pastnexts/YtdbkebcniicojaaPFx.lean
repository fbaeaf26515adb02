/- fixed: its contract. -/
import Derived.Test.YtdbkebcniicojaaPLp
namespace Go.Proofs.Ytdbkebcniicojaa
open Go.RowKit
attribute [local go_sem ↓] ldP_eq stP_eq
attribute [local go_sem] zero_PC cells_PV fold_PC PC_size

def fxA : Pst := ⟨[2, 0, 0], [⟨0, 3, 4⟩, ⟨1, 2, 2⟩]⟩
def fxB : Pst := ⟨[4], [⟨1, 2, 2⟩]⟩
def fxN : Nat → List Rn := fun r => if r = 0 then [⟨1, 4⟩] else if r = 1 then [⟨2, 2⟩] else []
theorem fxN_form (r : Nat) : form 1 (fxN r) := by
  unfold fxN
  split
  · exact ⟨by decide, by decide, by decide, trivial⟩
  · split
    · exact ⟨by decide, by decide, by decide, trivial⟩
    · trivial
theorem fxA_runs (r : Nat) (hr : r < 16) : runsAt fxA r = if r = 0 then [⟨1, 2⟩, ⟨3, 4⟩] else if r = 1 then [⟨2, 2⟩] else [] := by
  have : r = 0 ∨ r = 1 ∨ r = 2 ∨ r = 3 ∨ r = 4 ∨ r = 5 ∨ r = 6 ∨ r = 7 ∨ r = 8 ∨ r = 9 ∨ r = 10 ∨ r = 11 ∨ r = 12 ∨ r = 13 ∨ r = 14 ∨ r = 15 := by omega
  rcases this with rfl | rfl | rfl | rfl | rfl | rfl | rfl | rfl | rfl | rfl | rfl | rfl | rfl | rfl | rfl | rfl <;> rfl
theorem fxB_runs (r : Nat) (hr : r < 16) : runsAt fxB r = if r = 0 then [⟨1, 4⟩] else if r = 1 then [⟨2, 2⟩] else [] := by
  have : r = 0 ∨ r = 1 ∨ r = 2 ∨ r = 3 ∨ r = 4 ∨ r = 5 ∨ r = 6 ∨ r = 7 ∨ r = 8 ∨ r = 9 ∨ r = 10 ∨ r = 11 ∨ r = 12 ∨ r = 13 ∨ r = 14 ∨ r = 15 := by omega
  rcases this with rfl | rfl | rfl | rfl | rfl | rfl | rfl | rfl | rfl | rfl | rfl | rfl | rfl | rfl | rfl | rfl <;> rfl
theorem fxA_canon : CanonOf (runsAt fxA) fxB := by
  refine ⟨fxN, fun r hr => ⟨fxN_form r, fun n => ?_⟩, by rfl⟩
  rw [fxA_runs r hr]
  unfold fxN
  split
  · rw [mem_one, mem_cons, mem_one]; simp only; omega
  · split <;> exact Iff.rfl
theorem fxB_size : SzP (mP fxB) 5 := ⟨fxN, fun r hr => ⟨fxN_form r, fun n => by unfold mP; rw [fxB_runs r hr]; exact Iff.rfl⟩, by decide⟩
theorem isDot_true (r m : Int) (w : World) (hr : V.isR r = true) (h1 : 1 ≤ m) (h2 : m ≤ 1000000000) : Calls Try.prog 54 #[.agg #[.int .i64 r, .int .i64 m]] w fun e w' => e = .returned (.bool true) ∧ Below w.heap.size w w' := by
  have HB := hide (below_new w (.cells #[.int .i64 r, .int .i64 m] 40))
  have HR := hide hr
  clear hr
  go_enter Try.func54, Try.ntmps54
  go_wp2_with (go_at_call 51; refine (isRepP_any r _).mono ?_; rintro e w' ⟨rfl, rfl⟩; rw [HR.out])
  go_ret
  exact ⟨rfl, HB.out⟩
set_option maxRecDepth 100000 in
theorem hasVec_true (p : Pv) (r m : Int) (w : World) (hS : PSrc w p) (hr : V.isR r = true) (h1 : 1 ≤ m) (h2 : m ≤ 1000000000) (hh : V.hasD p.P.vec r m = true) : Calls Try.prog 24 #[PV p, .agg #[.int .i64 r, .int .i64 m]] w fun e w' => e = .returned (.bool true) ∧ Below w.heap.size w w' := by
  have b1 := below_new w (.cells (PC p) 25)
  have b2 := below_new (w.alloc (.cells (PC p) 25)) (.cells #[.int .i64 r, .int .i64 m] 40)
  obtain ⟨n0, n1⟩ := ((pbox_new w p).below b2).nums
  have HBK := hide (b1.trans (b2.mono b1.size))
  have HSV := hide (hS.below HBK.out).vec
  have HD := hide (And.intro hr (And.intro h1 (And.intro h2 hh)))
  have k0 : ((w.alloc (.cells (PC p) 25)).alloc (.cells #[.int .i64 r, .int .i64 m] 40)).cell? ⟨w.heap.size + 1, 0, none⟩ = some (.int .i64 r) := by
    have := World.cell?_alloc_new (w.alloc (.cells (PC p) 25)) #[.int .i64 r, .int .i64 m] 40 0
    rw [World.size_alloc] at this
    exact this
  have k1 : ((w.alloc (.cells (PC p) 25)).alloc (.cells #[.int .i64 r, .int .i64 m] 40)).cell? ⟨w.heap.size + 1, 1, none⟩ = some (.int .i64 m) := by
    have := World.cell?_alloc_new (w.alloc (.cells (PC p) 25)) #[.int .i64 r, .int .i64 m] 40 1
    rw [World.size_alloc] at this
    exact this
  clear hS hr h1 h2 hh b1 b2
  obtain ⟨wk, hwk⟩ : ∃ wk, (w.alloc (.cells (PC p) 25)).alloc (.cells #[.int .i64 r, .int .i64 m] 40) = wk := ⟨_, rfl⟩
  rw [hwk] at n0 n1 HBK HSV k0 k1
  go_enter Try.func24, Try.ntmps24
  go_wp2_with fail
  clear hwk
  refine (isDot_true r m _ HD.out.1 HD.out.2.1 HD.out.2.2.1).mono ?_
  rintro e w1 ⟨rfl, b3⟩
  have n0' := (b3.cell (World.block_lt_of_cell? _ _ n0)).trans n0
  have k0' := (b3.cell (World.block_lt_of_cell? _ _ k0)).trans k0
  have k1' := (b3.cell (World.block_lt_of_cell? _ _ k1)).trans k1
  have HSV1 := hide (HSV.out.below b3)
  have HB1 := hide (HBK.out.trans (b3.mono HBK.out.size))
  clear n0 n1 k0 k1 b3
  go_wp2_with fail
  refine (V.has_any _ _ _ p.P.vec r m _ HSV1.out).mono ?_
  rintro e w2 ⟨rfl, b4⟩
  rw [HD.out.2.2.2]
  have HB2 := hide (HB1.out.trans (b4.mono HB1.out.size))
  clear b4 n0' k0' k1'
  go_wp2_with fail
  go_ret
  exact ⟨rfl, HB2.out⟩
end Go.Proofs.Ytdbkebcniicojaa
