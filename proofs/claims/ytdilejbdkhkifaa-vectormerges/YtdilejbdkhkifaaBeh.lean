/- Behind: its contract. -/
import Derived.Test.YtdilejbdkhkifaaSpan
namespace Go.Proofs.Ytdilejbdkhkifaa
open Go.RowKit
attribute [local go_sem ↓] ld56_eq st56_eq
attribute [local go_sem] zeros_VC cells_VA

/-- what g has and f hasn't, of the first k replicas -/
def behL (f g : Nat → Int) : Nat → List (Int × Int × Int)
  | 0 => []
  | k + 1 => behL f g k ++ (if f k < g k then [((k : Int), f k + 1, g k)] else [])
theorem behL_length (f g : Nat → Int) (k : Nat) : (behL f g k).length ≤ k := by
  induction k with
  | zero => simp [behL]
  | succ k ih => unfold behL; rw [List.length_append]; split <;> simp <;> omega
/-- a list of spans is handed back -/
def GivesS (w w' : World) (e : Ending) (L : List (Int × Int × Int)) : Prop := ∃ ao n c, e = .returned (.slice ao n c) ∧ SSrc w' ao n c L ∧ Below w.heap.size w w'
theorem two_fresh (w w2 : World) (f g : Nat → Int) (hb : Below w.heap.size w w2) : ∃ w3 w4 : World, (st56 (.pointer (some ⟨w2.heap.size, 0, none⟩)) (VA f)).run Try.prog ((w2.alloc (.cells (VC fun _ => 0) 56)).alloc (.cells (VC fun _ => 0) 56)) = .ok () w3 ∧
    (st56 (.pointer (some ⟨w2.heap.size + 1, 0, none⟩)) (VA g)).run Try.prog w3 = .ok () w4 ∧ Arr w4 w2.heap.size 56 f ∧ Arr w4 (w2.heap.size + 1) 56 g ∧ Below w.heap.size w w4 ∧ w4.heap.size = w2.heap.size + 1 + 1 := by
  have A := (arr_new w2 56 (fun _ => 0)).alloc (.cells (VC fun _ => 0) 56)
  have B := arr_new2 w2 (.cells (VC fun _ => 0) 56) 56 (fun _ => 0)
  have s1 := run_st56 (f' := f) A
  have B1 := B.setRowOther (g' := w2.heap.size) (f' := f) (by omega)
  have s2 := run_st56 (f' := g) B1
  have hs := hb.size
  refine ⟨_, _, s1, s2, (A.setRow (f' := f)).setRowOther (by omega), B1.setRow, ?_, ?_⟩
  · exact below_setRow (below_setRow ((hb.alloc hs _).alloc (by simp; omega) _) hs) (by omega)
  · simp [World.setRow]

set_option maxHeartbeats 1600000 in
theorem behind_any (ao bo : Option Addr) (n c m d : Nat) (X Y : List Int) (w : World) (hX : Src w ao n c X) (hY : Src w bo m d Y) :
    Calls Try.prog 33 #[.slice ao n c, .slice bo m d] w fun e w' => GivesS w w' e (behL (at' X) (at' Y) 16) := by
  have HX := hide hX
  have HY := hide hY
  clear hX hY
  have FX := hide (bd_at X)
  go_enter Try.func33, Try.ntmps33
  go_wp2_with fail
  refine (meant_any ao n c X _ HX.out).mono ?_
  rintro e w1 ⟨rfl, b1⟩
  have Y1 := hide (HY.out.below b1)
  go_wp2_with fail
  refine (meant_any bo m d Y _ Y1.out).mono ?_
  rintro e w2 ⟨rfl, b2⟩
  obtain ⟨w3, w4, s3, s4, a4, c4, b4, z4⟩ := two_fresh w w2 (at' X) (at' Y) (below_on2 b1 b2)
  have hle := hide (below_on2 b1 b2).size
  have A4 := hide a4
  have C4 := hide c4
  have O4 := hide (Own3.nil (B := w2.heap.size + 1 + 1) b4 (by omega) (by have := hle.out; omega))
  clear b1 b2 a4 c4 b4 z4 Y1 HX HY
  obtain ⟨f, Hf⟩ : ∃ f, Hid (at' X = f) := ⟨_, rfl⟩
  obtain ⟨g, Hg⟩ : ∃ g, Hid (at' Y = g) := ⟨_, rfl⟩
  rw [Hf.out] at A4 FX
  rw [Hg.out] at C4
  go_wp2_with fail
  go_loopw [7, 13] (fun v i wr => ∃ (k : Nat) (so : Option Addr) (sn sc : Nat), k ≤ 16 ∧ i = .int .i64 k ∧ v = .slice so sn sc ∧ Hid ((behL f g k).length = sn) ∧ Hid (Arr wr w2.heap.size 56 f) ∧ Hid (Arr wr (w2.heap.size + 1) 56 g) ∧ Hid (Own3 w.heap.size (w2.heap.size + 1 + 1) w wr so sc (behL f g k))) (fun _ i _ => 16 - (intOf i).toNat)
  case atStart => exact ⟨0, none, 0, 0, Nat.zero_le _, rfl, rfl, rfl, A4, C4, O4⟩
  case round =>
    obtain ⟨k, so, sn, sc, hk, rfl, rfl, HL, A, C, O⟩ := hrel
    by_cases hlt : k < 16
    · have c1 := A.out.cell k hlt
      have c2 := C.out.cell k hlt
      have bx := FX.out k hlt
      have hl := behL_length f g k
      have NX : Hid (behL f g (k + 1) = behL f g k ++ (if f k < g k then [((k : Int), f k + 1, g k)] else [])) := rfl
      obtain ⟨x, Hx⟩ : ∃ x, Hid (f k = x) := ⟨_, rfl⟩
      obtain ⟨y, Hy⟩ : ∃ y, Hid (g k = y) := ⟨_, rfl⟩
      rw [Hx.out] at c1 bx
      rw [Hy.out] at c2
      rw [Hx.out, Hy.out] at NX
      by_cases h1 : x < y
      · rw [if_pos h1] at NX
        have A' : Hid (Arr wr.drew w2.heap.size 56 f) := A.out
        have C' : Hid (Arr wr.drew (w2.heap.size + 1) 56 g) := C.out
        have c1' := A'.out.cell k hlt
        have c2' := C'.out.cell k hlt
        rw [Hx.out] at c1'
        rw [Hy.out] at c2'
        have O' := hide O.out.drew
        have HWR : Hid (IntKind.i64.wrap (x + 1) = x + 1) := by show _ = _; rw [IntKind.wrap_i64]; omega
        go_wp2_with fail
        go_region
        go_wp2_with fail
        obtain ⟨v, Hv⟩ : ∃ v, wr.drew = v := ⟨_, rfl⟩
        rw [Hv] at A' C' O' c1' c2' ⊢
        clear Hv c1 c2 A C O
        go_region_law (refine O'.out.step (k : Int) (IntKind.i64.wrap (x + 1)) y (by have := HL.out; omega) rfl (.tmp 23) (.tmp 33) rfl sn HL.out (by simp [Act.eval]) _ rfl (by simp [Act.eval]) ?_; intro g3 c3 w3 O3 hk3)
        all_goals (go_wp2_with fail)
        all_goals (rw [HWR.out] at O3)
        all_goals exact ⟨⟨k + 1, some ⟨g3, 0, none⟩, sn + 1, c3, by omega, by go_num, rfl, by show _ = _; rw [NX.out, List.length_append, HL.out]; rfl, (hk3 _ (by omega)).trans A'.out, (hk3 _ (by omega)).trans C'.out, by rw [NX.out]; exact O3⟩, by simp [intOf]; omega⟩
      · rw [if_neg h1, List.append_nil] at NX
        go_wp2_with fail
        go_quiet (fail)
        go_wp2_with fail
        go_roundw
        case rel => exact ⟨k + 1, so, sn, sc, by omega, by go_num, rfl, by rw [NX.out]; exact HL, A, C, by rw [NX.out]; exact O.out.drewN _⟩
        case measure => simp [intOf]; omega
    · obtain rfl : k = 16 := by omega
      have SS := hide O.out.src
      have B := hide O.out.below
      rw [HL.out] at SS
      go_wp2_with fail
      go_ret
      refine ⟨_, _, _, rfl, ?_, B.out⟩
      rw [Hf.out, Hg.out]; exact SS.out
end Go.Proofs.Ytdilejbdkhkifaa
