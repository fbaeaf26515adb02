/- Meet: its contract. -/
import Derived.Test.YtdilejbdkhkifaaAwake
import Derived.Test.YtdilejbdkhkifaaPut
namespace Go.Proofs.Ytdilejbdkhkifaa
open Go.RowKit
attribute [local go_sem ↓] ld56_eq st56_eq
attribute [local go_sem] zeros_VC cells_VA

set_option maxHeartbeats 1600000 in
theorem meetRows_any (ao bo : Option Addr) (n c m d : Nat) (X Y : List Int) (w : World) (g : Nat) (c0 : w.cell? ⟨g, 0, none⟩ = some (.slice ao n c)) (c1 : w.cell? ⟨g, 1, none⟩ = some (.slice bo m d)) (hX : Src w ao n c X) (hY : Src w bo m d Y) :
    Calls Try.prog 25 #[.slice (some ⟨g, 0, none⟩) 2 2] w fun e w' => Gives w w' e (short (fmin (at' X) (at' Y))) := by
  have HX := hide hX
  have HY := hide hY
  have C1 := hide c1
  clear hX hY c1
  go_enter Try.func25, Try.ntmps25
  go_wp2_with fail
  refine (meant_any ao n c X _ HX.out).mono ?_
  rintro e w1 ⟨rfl, b1⟩
  obtain ⟨w2, s2, a2, b2, _⟩ := fresh56 w w1 (at' X) b1
  have A2 := hide a2
  have B2 := hide b2
  have LW := hide b1.size
  clear a2 b2 b1
  go_wp2_with fail
  go_loopw [16] (fun i wr => (i = .int .i64 0 ∧ wr = w2) ∨ (i = .int .i64 1 ∧ Hid (Arr wr w1.heap.size 56 (fmin (at' X) (at' Y))) ∧ Hid (Below w.heap.size w wr))) (fun i _ => 1 - (intOf i).toNat)
  case atStart => exact Or.inl ⟨rfl, rfl⟩
  case round =>
    rcases hrel with ⟨rfl, rfl⟩ | ⟨rfl, A3, B3⟩
    · have c1 := (B2.out.cell (World.block_lt_of_cell? _ _ C1.out)).trans C1.out
      have HD : Hid (Arr wr.drew w1.heap.size 56 (at' X)) := A2.out
      have SD : Hid (Src wr.drew bo m d Y) := src_drew (HY.out.below B2.out)
      have BD : Hid (Below w.heap.size w wr.drew) := below_drew B2.out
      have l0 := run_ld56 HD.out
      go_wp2_with fail
      go_region_with (first | (go_at_call 38; refine (meant_any _ _ _ Y _ SD.out).mono ?_; rintro e w3 ⟨rfl, b3⟩; have A3 := hide (HD.out.below b3); have l3 := run_ld56 A3.out; have B3 := hide (BD.out.trans (b3.mono BD.out.size)); clear b3) | (go_at_call 44; refine (under_any _ _ _).mono ?_; rintro e w4 ⟨rfl, b4⟩; have A4 := hide (A3.out.below b4); have s4 := run_st56 (f' := fmin (at' X) (at' Y)) A4.out; have B4 := hide (B3.out.trans (b4.mono B3.out.size)); clear b4))
      all_goals (go_wp2_with fail)
      all_goals exact ⟨Or.inr ⟨rfl, A4.out.setRow, below_setRow B4.out LW.out⟩, by simp [intOf]⟩
    · have l0 := run_ld56 A3.out
      go_wp2_with fail
      refine (list_any _ _).mono ?_
      rintro e w5 ⟨a5, n5, c5, rfl, S, b⟩
      have B5 := hide (B3.out.trans (b.mono B3.out.size))
      have S5 := hide S
      clear b S
      go_wp2_with fail
      go_ret
      exact ⟨_, _, _, rfl, S5.out, B5.out⟩
theorem meet2_any (ao bo : Option Addr) (n c m d : Nat) (X Y : List Int) (w : World) (g : Nat) (hg : w.heap.size = g) (hX : Src w ao n c X) (hY : Src w bo m d Y) :
    Calls Try.prog 25 #[.slice (some ⟨g, 0, none⟩) 2 2] (w.alloc (.cells #[.slice ao n c, .slice bo m d] 22)) fun e w' => Gives w w' e (short (fmin (at' X) (at' Y))) := by
  subst hg
  have hb : Below w.heap.size w (w.alloc (.cells #[.slice ao n c, .slice bo m d] 22)) := (Below.refl _ _).alloc (Nat.le_refl _) _
  refine (meetRows_any ao bo n c m d X Y _ _ (by rw [World.cell?_alloc_new]; rfl) (by rw [World.cell?_alloc_new]; rfl) (hX.below hb) (hY.below hb)).mono ?_
  intro e w' h
  exact h.on hb
end Go.Proofs.Ytdilejbdkhkifaa
