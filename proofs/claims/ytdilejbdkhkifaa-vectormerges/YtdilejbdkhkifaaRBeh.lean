/- The reference's Behind: its contract. -/
import Derived.Test.YtdilejbdkhkifaaBeh
namespace Go.Proofs.Ytdilejbdkhkifaa
open Go.RowKit
attribute [local go_sem ↓] ld55_eq st55_eq
attribute [local go_sem] zeros_VC cells_VA

set_option maxHeartbeats 1600000 in
theorem refBehind_any (ao bo : Option Addr) (n c m d : Nat) (X Y : List Int) (w : World) (hX : Src w ao n c X) (hY : Src w bo m d Y) :
    Calls Try.prog 36 #[.slice ao n c, .slice bo m d] w fun e w' => GivesS w w' e (behL (at' X) (at' Y) 16) := by
  have HX := hide hX
  have HY := hide hY
  clear hX hY
  have FX := hide (bd_at X)
  go_enter Try.func36, Try.ntmps36
  go_wp2_with fail
  refine (full_any ao n c X _ HX.out).mono ?_
  rintro e w1 ⟨rfl, b1⟩
  obtain ⟨w2, s2, a2, b2, _⟩ := fresh55 w w1 (at' X) b1
  have A2 := hide a2
  have B2 := hide b2
  have Q1 := hide b1.size
  clear a2 b2 b1
  go_wp2_with fail
  refine (full_any bo m d Y _ (HY.out.below B2.out)).mono ?_
  rintro e w3 ⟨rfl, b3⟩
  obtain ⟨w4, s4, a4, b4, c4⟩ := fresh55 w w3 (at' Y) (below_on2 B2.out b3)
  have A4 := hide ((A2.out.below b3).below c4)
  have C4 := hide a4
  have lt : w1.heap.size < w3.heap.size := Nat.lt_of_lt_of_le A2.out.lt b3.size
  have lt4 := a4.lt
  have O4 := hide (Own3.nil (B := w3.heap.size + 1) b4 (by omega) (by have := Q1.out; omega))
  clear b3 a4 b4 c4 A2 B2 HX HY
  obtain ⟨f, Hf⟩ : ∃ f, Hid (at' X = f) := ⟨_, rfl⟩
  obtain ⟨g, Hg⟩ : ∃ g, Hid (at' Y = g) := ⟨_, rfl⟩
  rw [Hf.out] at A4 FX
  rw [Hg.out] at C4
  go_wp2_with fail
  go_loopw [7, 8] (fun v i wr => ∃ (k : Nat) (so : Option Addr) (sn sc : Nat), k ≤ 16 ∧ i = .int .i64 k ∧ v = .slice so sn sc ∧ Hid ((behL f g k).length = sn) ∧ Hid (Arr wr w1.heap.size 55 f) ∧ Hid (Arr wr w3.heap.size 55 g) ∧ Hid (Own3 w.heap.size (w3.heap.size + 1) w wr so sc (behL f g k))) (fun _ i _ => 16 - (intOf i).toNat)
  case atStart => exact ⟨0, none, 0, 0, Nat.zero_le _, rfl, rfl, rfl, A4, C4, O4⟩
  case round =>
    obtain ⟨k, so, sn, sc, hk, rfl, rfl, HL, A, C, O⟩ := hrel
    by_cases hlt : k < 16
    · have c1 := A.out.cell k hlt
      have c2 := C.out.cell k hlt
      have bx := FX.out k hlt
      have hl := behL_length f g k
      have NX : Hid (behL f g (k + 1) = behL f g k ++ (if f k < g k then [((k : Int), f k + 1, g k)] else [])) := rfl
      obtain ⟨x, Hx⟩ : ∃ x, Hid (f k = x) := ⟨_, rfl⟩
      obtain ⟨y, Hy⟩ : ∃ y, Hid (g k = y) := ⟨_, rfl⟩
      rw [Hx.out] at c1 bx
      rw [Hy.out] at c2
      rw [Hx.out, Hy.out] at NX
      by_cases h1 : x < y
      · rw [if_pos h1] at NX
        have A' : Hid (Arr wr.drew w1.heap.size 55 f) := A.out
        have C' : Hid (Arr wr.drew w3.heap.size 55 g) := C.out
        have c1' := A'.out.cell k hlt
        have c2' := C'.out.cell k hlt
        rw [Hx.out] at c1'
        rw [Hy.out] at c2'
        have O' := hide O.out.drew
        have HWR : Hid (IntKind.i64.wrap (x + 1) = x + 1) := by show _ = _; rw [IntKind.wrap_i64]; omega
        go_wp2_with fail
        go_region
        go_wp2_with fail
        obtain ⟨v, Hv⟩ : ∃ v, wr.drew = v := ⟨_, rfl⟩
        rw [Hv] at A' C' O' c1' c2' ⊢
        clear Hv c1 c2 A C O
        go_region_law (refine O'.out.step (k : Int) (IntKind.i64.wrap (x + 1)) y (by have := HL.out; omega) rfl (.tmp 24) (.tmp 34) rfl sn HL.out (by simp [Act.eval]) _ rfl (by simp [Act.eval]) ?_; intro g3 c3 w3 O3 hk3)
        all_goals (go_wp2_with fail)
        all_goals (rw [HWR.out] at O3)
        all_goals exact ⟨⟨k + 1, some ⟨g3, 0, none⟩, sn + 1, c3, by omega, by go_num, rfl, by show _ = _; rw [NX.out, List.length_append, HL.out]; rfl, (hk3 _ (by omega)).trans A'.out, (hk3 _ (by omega)).trans C'.out, by rw [NX.out]; exact O3⟩, by simp [intOf]; omega⟩
      · rw [if_neg h1, List.append_nil] at NX
        go_wp2_with fail
        go_quiet (fail)
        go_wp2_with fail
        go_roundw
        case rel => exact ⟨k + 1, so, sn, sc, by omega, by go_num, rfl, by rw [NX.out]; exact HL, A, C, by rw [NX.out]; exact O.out.drewN _⟩
        case measure => simp [intOf]; omega
    · obtain rfl : k = 16 := by omega
      have SS := hide O.out.src
      have B := hide O.out.below
      rw [HL.out] at SS
      go_wp2_with fail
      go_ret
      refine ⟨_, _, _, rfl, ?_, B.out⟩
      rw [Hf.out, Hg.out]; exact SS.out
end Go.Proofs.Ytdilejbdkhkifaa
