/- WireNums: the law's walk. -/
import Derived.Test.YteeoibohbakboaaSz
namespace Go.Proofs.Yteeoibohbakboaa
open Go.RowKit

theorem lit_src (w : World) : Src (w.alloc (.cells #[.int .u8 172, .int .u8 2] 5)) (some ⟨w.heap.size, 0, none⟩) 2 2 [172, 2] := by
  refine ⟨rfl, fun h => (by cases h), fun ad h t ht => ?_, fun t => ?_⟩
  · obtain rfl := Option.some.inj h
    rw [Addr.add_lit, Nat.zero_add, World.cell?_alloc_new]
    match t, ht with
    | 0, _ => rfl
    | 1, _ => rfl
  · match t with
    | 0 => decide
    | 1 => decide
    | t + 2 => simp [List.getD]
theorem lit_num (w : World) : Calls Try.prog 4 #[.slice (some ⟨w.heap.size, 0, none⟩) 2 2, .int .i64 0] (w.alloc (.cells #[.int .u8 172, .int .u8 2] 5)) fun e w' => e = .returned (.tuple #[.int .i64 300, .int .i64 2, .int .i64 0]) ∧ w' = w.alloc (.cells #[.int .u8 172, .int .u8 2] 5) := by
  have h := num_any _ _ _ [172, 2] 0 _ (lit_src w) (Nat.le_refl _) (by omega)
  rwa [show numA [172, 2] 0 = (300, 2, 0) from by decide +kernel] at h
set_option maxHeartbeats 1600000 in
theorem nums_any (ao : Option Addr) (m cap : Nat) (Z : List Int) (a n : Int) (w : World) (hS : Src w ao m cap Z) (hcap : m ≤ cap) (hm : m ≤ 4611686018427387904) (hn : n ≤ 9223372036854775807) :
    Calls Try.prog 3 #[.slice ao m cap, .int .i64 a, .int .i64 n] w fun e w' => e = .returned (.bool true) ∧ Below w.heap.size w w' := by
  have HB : Below w.heap.size w (w.alloc (.cells #[.int .u8 172, .int .u8 2] 5)) := (Below.refl _ _).alloc (Nat.le_refl _) _
  have L := hide (lit_num w)
  have S1 := hS.below HB
  obtain ⟨w1, hw1⟩ : ∃ w1, w.alloc (.cells #[.int .u8 172, .int .u8 2] 5) = w1 := ⟨_, rfl⟩
  have R := refNumAt_any ao m cap Z a w1 (hw1 ▸ S1) hm
  have N := num_any ao m cap Z a w1 (hw1 ▸ S1) hcap hm
  obtain ⟨x, y, e, he⟩ : ∃ x y e, numA Z a = (x, y, e) := ⟨_, _, _, rfl⟩
  rw [he] at R N
  have RH : Hid (Calls Try.prog 5 #[.slice ao m cap, .int .i64 a] w1 fun e' w' => e' = .returned (.tuple #[.int .i64 x, .int .i64 y, .int .i64 e]) ∧ w' = w1) := R
  have NH : Hid (Calls Try.prog 4 #[.slice ao m cap, .int .i64 a] w1 fun e' w' => e' = .returned (.tuple #[.int .i64 x, .int .i64 y, .int .i64 e]) ∧ w' = w1) := N
  have Z1 := hide (size_any n w1 hn)
  have Z2 := hide (refSize_any n w1 hn)
  obtain ⟨sz, Hs⟩ : ∃ sz, Hid (szI n = sz) := ⟨_, rfl⟩
  rw [Hs.out] at Z1 Z2
  rw [hw1] at L HB
  have HB' := hide HB
  clear R N he S1 HB hS
  go_enter Try.func3, Try.ntmps3
  go_wp2_with fail
  refine L.out.mono ?_
  rintro e1 w2 ⟨rfl, rfl⟩
  go_wp2_with fail
  refine RH.out.mono ?_
  rintro e2 w2 ⟨rfl, rfl⟩
  go_wp2_with fail
  refine NH.out.mono ?_
  rintro e2 w2 ⟨rfl, rfl⟩
  go_wp2_with (first | (go_at_call 6; refine Z1.out.mono ?_; rintro e3 w3 ⟨rfl, rfl⟩) | (go_at_call 7; refine Z2.out.mono ?_; rintro e3 w3 ⟨rfl, b3⟩))
  go_ret
  exact ⟨ret_bool (by simp), HB'.out.trans (b3.mono HB'.out.size)⟩
end Go.Proofs.Yteeoibohbakboaa
