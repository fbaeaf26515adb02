/- The answers that the document fixes: they hold. -/
import Derived.Test.YtgnclfeicgbjpaaDFr
namespace Go.Proofs.Ytgnclfeicgbjpaa
open Go.RowKit
variable {B : Nat} {w w' : World} {g : Nat} {m nx : Int} {Z : List Int} {ao : Option Addr} {cap : Nat}

theorem pu1 : pushed 2 5 [] 7 = [7] := by decide
theorem pu2 : pushed 2 6 [7] 8 = [7, 8] := by decide
theorem pu3 : pushed 2 7 [7, 8] 9 = [8, 9] := by decide
set_option maxRecDepth 100000 in
set_option maxHeartbeats 2000000 in
theorem fixed_any (w : World) : Calls Try.prog 5 #[] w fun e w' => e = .returned (.bool true) ∧ Below w.heap.size w w' := by
  go_enter Try.func5, Try.ntmps5
  go_wp2_with fail
  refine (new_any (B := w.heap.size) 2 5 w (Nat.le_refl _)).mono ?_
  rintro e w1 ⟨rfl, L1, b1⟩
  have L1 : Lg w.heap.size w1 w.heap.size 2 5 [] none 0 := L1
  have HL1 := hide L1
  have HB1 := hide b1
  clear L1 b1
  go_wp2_with fail
  refine (push_any w1 HL1.out ⟨by decide, by decide, by decide, by decide, by decide⟩ (by decide) (by decide) 7).mono ?_
  rintro e w2 ⟨a2, c2, rfl, L2, k2, n2⟩
  rw [pu1] at L2
  have HB2 := hide (k2.below HB1.out (Nat.le_refl _) (fun ad e => by cases e) (HB1.out.size))
  have HL2 : Hid (Lg w.heap.size w2 w.heap.size 2 6 [7] a2 c2) := L2
  clear L2 k2 n2 HL1 HB1
  go_wp2_with fail
  refine (push_any w2 HL2.out ⟨by decide, by decide, by decide, by decide, by decide⟩ (by decide) (by decide) 8).mono ?_
  rintro e w3 ⟨a3, c3, rfl, L3, k3, n3⟩
  rw [pu2] at L3
  have HB3 := hide (k3.below HB2.out (Nat.le_refl _) (fun ad e => (HL2.out.row ad e).1) HB2.out.size)
  have HL3 : Hid (Lg w.heap.size w3 w.heap.size 2 7 [7, 8] a3 c3) := L3
  clear L3 k3 n3 HL2 HB2
  go_wp2_with fail
  refine (push_any w3 HL3.out ⟨by decide, by decide, by decide, by decide, by decide⟩ (by decide) (by decide) 9).mono ?_
  rintro e w4 ⟨a4, c4, rfl, L4, k4, n4⟩
  rw [pu3] at L4
  have HB4 := hide (k4.below HB3.out (Nat.le_refl _) (fun ad e => (HL3.out.row ad e).1) HB3.out.size)
  have HL4 : Hid (Lg w.heap.size w4 w.heap.size 2 8 [8, 9] a4 c4) := L4
  have HD4 : Hid (Bd 2 8 [8, 9]) := ⟨by decide, by decide, by decide, by decide, by decide⟩
  clear L4 k4 n4 HL3 HB3
  go_wp2_with fail
  refine (at_any w4 HL4.out HD4.out 6).mono ?_
  rintro e w5 ⟨rfl, q, h5⟩
  have b5 : Below w4.heap.size w4 w5 := by rw [h5]; exact below_drewN _ _
  have HB5 := hide (HB4.out.trans (b5.mono HB4.out.size))
  have HL5 := hide (HL4.out.below b5)
  rw [show heldV 8 [8, 9] 6 = 8 from by decide, show heldB 8 [8, 9] 6 = true from by decide]
  clear b5 h5 HL4 HB4
  go_wp2_with fail
  refine (fromU_any w5 HL5.out HD4.out 6).mono ?_
  rintro e w6 ⟨a6, c6, rfl, o6, b6⟩
  rw [show fromV 8 [8, 9] 6 = [8, 9] from by decide] at o6 ⊢
  rw [show fromB 8 [8, 9] 6 = true from by decide]
  have HB6 := hide (HB5.out.trans (b6.mono HB5.out.size))
  have HL6 := hide (HL5.out.below b6)
  obtain ⟨q6, rfl, d0, d1⟩ : ∃ q6, a6 = some ⟨q6, 0, none⟩ ∧ w6.cell? ⟨q6, 0, none⟩ = some (.int .i64 8) ∧ w6.cell? ⟨q6, 1, none⟩ = some (.int .i64 9) := by
    rcases o6.2 with ⟨h0, h00⟩ | ⟨q, cap2, cur, hv, hbg, hgg, r⟩
    · simp at h00
    · simp only [Value.slice.injEq] at hv
      obtain ⟨rfl, -, rfl⟩ := hv
      exact ⟨q, rfl, by rw [o6.cellAt 0 (by decide)]; rfl, by rw [o6.cellAt 1 (by decide)]; rfl⟩
  have HD0 := hide d0
  have HD1 := hide d1
  clear b6 o6 HL5 HB5 d0 d1
  go_wp2_with fail
  refine (first_any w6 HL6.out HD4.out).mono ?_
  rintro e w7 ⟨rfl, q, h7⟩
  have b7 : Below w6.heap.size w6 w7 := by rw [h7]; exact below_drewN _ _
  have HB7 := hide (HB6.out.trans (b7.mono HB6.out.size))
  have HL7 := hide (HL6.out.below b7)
  have d0 : w7.cell? ⟨q6, 0, none⟩ = some (.int .i64 8) := by rw [h7]; exact HD0.out
  have d1 : w7.cell? ⟨q6, 1, none⟩ = some (.int .i64 9) := by rw [h7]; exact HD1.out
  rw [show (8 : Int) - (([8, 9] : List Int).length : Int) = 6 from by decide]
  clear b7 h7 HL6 HB6 HD0 HD1
  go_wp2_with (refine (next_any _ HL7.out).mono ?_; rintro e w8 ⟨rfl, rfl⟩)
  go_ret
  exact ⟨rfl, HB7.out⟩
end Go.Proofs.Ytgnclfeicgbjpaa
