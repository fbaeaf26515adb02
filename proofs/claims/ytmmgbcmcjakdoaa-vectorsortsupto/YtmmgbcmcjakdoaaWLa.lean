/- VectorLatest: Heads of too many, most, the five. -/
import Derived.Test.YtmmgbcmcjakdoaaWHp
namespace Go.Proofs.Ytmmgbcmcjakdoaa
open Go.RowKit Go.Sort V
attribute [local go_sem ↓] ld56_eq st56_eq mkL_eq
attribute [local go_sem] zeros_VC cells_VA

theorem heads_big (ao : Option Addr) (n cap : Nat) (w : World) (hn : 256 < n) : Calls Try.prog 11 #[.slice ao n cap] w fun e w' => e = .returned (.tuple #[.slice none 0 0, .int .i64 2]) ∧ Below w.heap.size w w' := by
  go_enter Try.func11, Try.ntmps11
  go_wp2_with fail
  go_ret2
  exact ⟨rfl, Below.refl _ _⟩
theorem most_any (ao bo : Option Addr) (n c m d : Nat) (X Y : List Int) (w : World) (hX : Src w ao n c X) (hY : Src w bo m d Y) :
    Calls Try.prog 17 #[.slice ao n c, .slice bo m d] w fun e w' => e = .returned (.bool (leF (at' X) (at' Y))) ∧ Below w.heap.size w w' := by
  have HX := hide hX
  have HY := hide hY
  rw [← mostF_le]
  unfold mostF
  clear hX hY
  go_enter Try.func17, Try.ntmps17
  go_wp2_with fail
  refine (vorder_any ao bo n c m d X Y _ HX.out HY.out).mono ?_
  rintro e w1 ⟨rfl, b1⟩
  have HB := hide b1
  clear b1
  generalize hz : ordF (at' X) (at' Y) = z
  have HZ := hide hz
  clear hz
  by_cases h0 : z = 0
  · subst h0
    go_wp2_with fail
    go_ret
    exact ⟨by rw [HZ.out]; rfl, HB.out⟩
  · by_cases h1 : z = 1
    · subst h1
      go_wp2_with fail
      go_ret
      exact ⟨by rw [HZ.out]; rfl, HB.out⟩
    · go_wp2_with fail
      go_ret
      exact ⟨by simp [HZ.out], HB.out⟩
/-- the law's five in memory -/
def X5 (g : Nat) : List Sv := [⟨some ⟨g, 0, none⟩, 1, 1, [1]⟩, ⟨some ⟨g + 1, 0, none⟩, 1, 1, [2]⟩, ⟨some ⟨g + 1 + 1, 0, none⟩, 2, 2, [0, 1]⟩, ⟨some ⟨g + 1 + 1 + 1, 0, none⟩, 1, 1, [2]⟩, ⟨some ⟨g + 1 + 1 + 1 + 1, 0, none⟩, 0, 0, []⟩]
theorem X5_cn (g : Nat) : (X5 g).map cnOf = [cL [1], cL [2], cL [0, 1], cL [2], cL []] := rfl
theorem five_row (w : World) : VRow ((((((w.alloc (.cells #[.int .i64 1] 3)).alloc (.cells #[.int .i64 2] 3)).alloc (.cells #[.int .i64 0, .int .i64 1] 3)).alloc (.cells #[.int .i64 2] 3)).alloc (.cells #[] 3)).alloc (.cells #[.slice (some ⟨w.heap.size, 0, none⟩) 1 1, .slice (some ⟨w.heap.size + 1, 0, none⟩) 1 1, .slice (some ⟨w.heap.size + 1 + 1, 0, none⟩) 2 2, .slice (some ⟨w.heap.size + 1 + 1 + 1, 0, none⟩) 1 1, .slice (some ⟨w.heap.size + 1 + 1 + 1 + 1, 0, none⟩) 0 0] 24)) (some ⟨w.heap.size + 1 + 1 + 1 + 1 + 1, 0, none⟩) 5 (X5 w.heap.size) := by
  have s1 := lit_src w [1] #[.int .i64 1] rfl 3 1 rfl
  generalize hw1 : w.alloc (.cells #[.int .i64 1] 3) = w1 at *
  have z1 : w1.heap.size = w.heap.size + 1 := by rw [← hw1]; simp
  have s2 := lit_src w1 [2] #[.int .i64 2] rfl 3 1 rfl
  have s1 := s1.below (below_new w1 (.cells #[.int .i64 2] 3))
  generalize hw2 : w1.alloc (.cells #[.int .i64 2] 3) = w2 at *
  have z2 : w2.heap.size = w.heap.size + 1 + 1 := by rw [← hw2]; simp [z1]
  have s3 := lit_src w2 [0, 1] #[.int .i64 0, .int .i64 1] rfl 3 2 rfl
  have b2 := below_new w2 (.cells #[.int .i64 0, .int .i64 1] 3)
  have s1 := s1.below b2
  have s2 := s2.below b2
  generalize hw3 : w2.alloc (.cells #[.int .i64 0, .int .i64 1] 3) = w3 at *
  have z3 : w3.heap.size = w.heap.size + 1 + 1 + 1 := by rw [← hw3]; simp [z2]
  have s4 := lit_src w3 [2] #[.int .i64 2] rfl 3 1 rfl
  have b3 := below_new w3 (.cells #[.int .i64 2] 3)
  have s1 := s1.below b3
  have s2 := s2.below b3
  have s3 := s3.below b3
  generalize hw4 : w3.alloc (.cells #[.int .i64 2] 3) = w4 at *
  have z4 : w4.heap.size = w.heap.size + 1 + 1 + 1 + 1 := by rw [← hw4]; simp [z3]
  have s5 := lit_src w4 [] #[] rfl 3 0 rfl
  have b4 := below_new w4 (.cells #[] 3)
  have s1 := s1.below b4
  have s2 := s2.below b4
  have s3 := s3.below b4
  have s4 := s4.below b4
  generalize hw5 : w4.alloc (.cells #[] 3) = w5 at *
  have z5 : w5.heap.size = w.heap.size + 1 + 1 + 1 + 1 + 1 := by rw [← hw5]; simp [z4]
  rw [z1] at s2
  rw [z2] at s3
  rw [z3] at s4
  rw [z4] at s5
  clear hw1 hw2 hw3 hw4 hw5 z1 z2 z3 z4 b2 b3 b4
  have b5 : ∀ o, Below w5.heap.size w5 (w5.alloc o) := fun o => below_new w5 o
  refine ⟨rfl, (fun h => by cases h), fun ad h t p hp => ?_, fun p hp => ?_⟩
  · obtain rfl := Option.some.inj h
    rw [Addr.add_lit, Nat.zero_add, ← z5, World.cell?_alloc_new]
    match t, hp with
    | 0, hp => cases hp; rfl
    | 1, hp => cases hp; rfl
    | 2, hp => cases hp; rfl
    | 3, hp => cases hp; rfl
    | 4, hp => cases hp; rfl
    | t + 5, hp => simp [X5] at hp
  · simp only [X5, List.mem_cons, List.not_mem_nil, or_false] at hp
    rcases hp with rfl | rfl | rfl | rfl | rfl
    · exact s1.below (b5 _)
    · exact s2.below (b5 _)
    · exact s3.below (b5 _)
    · exact s4.below (b5 _)
    · exact s5.below (b5 _)
end Go.Proofs.Ytmmgbcmcjakdoaa
