/- The law's fixed run. -/
import Derived.Test.YthagachlilnjpaaXPf
import Derived.Lib.SlBytesConst
namespace Go.Proofs.Ythagachlilnjpaa
open Go.RowKit Go.Maps
variable {w w' w2 : World} {g mb made K : Nat} {M : Int → Option Ltr} {C : Int → List Int}
attribute [local go_sem ↓] ldT_eq stT_eq
attribute [local go_sem] TC_size

theorem Below.fw {w w' w2 : World} (h : Below w.heap.size w w') (F : Fw w' w2 g mb) (h1 : w.heap.size ≤ g) (h2 : w.heap.size ≤ mb) : Below w.heap.size w w2 :=
  h.trans ⟨F.os, F.tape, F.output, F.size, fun k hk => by
    by_cases hl : k < w'.heap.size
    · exact F.block k hl (by omega) (by omega)
    · have := h.size
      omega⟩
theorem TBox.fw {g1 : Nat} {l : Ltr} (T : TBox w g1 l) (F : Fw w w' g mb) (h1 : g1 ≠ g) (h2 : g1 ≠ mb) : TBox w' g1 l := (F.block g1 T.lt h1 h2).trans T
theorem BR.fw {bo : Option Addr} {n c : Nat} {Z : List Int} (B : BR w bo n c Z) (F : Fw w w' g mb) (h : ∀ k, blk bo = some k → k ≠ g ∧ k ≠ mb) : BR w' bo n c Z := B.keep fun k e => F.block k (B.lt k e) (h k e).1 (h k e).2
theorem BS.lit3 (w : World) (x y z : Int) (f : Nat × Nat) : BS (w.alloc (.cells #[.int .u8 x, .int .u8 y, .int .u8 z] 5 f)) (some ⟨w.heap.size, 0, none⟩) 3 3 [x, y, z] := by
  have hh : (w.alloc (.cells #[.int .u8 x, .int .u8 y, .int .u8 z] 5 f)).heap[w.heap.size]? = some (.cells #[.int .u8 x, .int .u8 y, .int .u8 z] 5 f) := heap_alloc_new w _
  refine ⟨rfl, (fun h => by cases h), fun ad ha t ht => ?_⟩
  obtain rfl := Option.some.inj ha
  rw [Addr.add_lit, Nat.zero_add]
  match t, ht with
  | 0, _ => unfold World.cell?; rw [hh]; rfl
  | 1, _ => unfold World.cell?; rw [hh]; rfl
  | 2, _ => unfold World.cell?; rw [hh]; rfl
theorem s97 : strOfNums [97] = ⟨#[97]⟩ := rfl
theorem s979899 : strOfNums [97, 98, 99] = ⟨#[97, 98, 99]⟩ := rfl
set_option maxRecDepth 100000 in
set_option maxHeartbeats 0 in
theorem fixed_any (w : World) : Calls Try.prog 5 #[] w fun r w' => r = .returned (.bool true) ∧ Below w.heap.size w w' := by
  go_enter Try.func5, Try.ntmps5
  go_wp2_with fail
  refine (new_any w).mono ?_
  rintro r w1 ⟨rfl, P1, b1⟩
  obtain ⟨g, hg⟩ : ∃ g, w.heap.size + 1 = g := ⟨_, rfl⟩
  obtain ⟨mb, hmb⟩ : ∃ mb, w.heap.size = mb := ⟨_, rfl⟩
  have HG : Hid (w.heap.size + 1 = g ∧ w.heap.size = mb) := ⟨hg, hmb⟩
  rw [hg, hmb] at P1
  rw [hg]
  have hg1 := P1.g_lt
  have hm1 := P1.mb_lt
  obtain ⟨w2, hw2⟩ : ∃ w2, w1.alloc (.cells #[.int .u8 97, .int .u8 98, .int .u8 99] 5 (3, 4)) = w2 := ⟨_, rfl⟩
  obtain ⟨q2, hq2⟩ : ∃ q2, w1.heap.size = q2 := ⟨_, rfl⟩
  have kc := Lib.run_convert_bytes_const (P := Try.prog) w1 29 5 #[.int .u8 97, .int .u8 98, .int .u8 99] 3 3 Try.underlying29 Try.underlying5
  have kc2 : (#[Value.int .u8 97, Value.int .u8 98, Value.int .u8 99] : Array Value).size = 3 := rfl
  rw [kc2] at kc
  simp only [Nat.reduceAdd] at kc
  rw [hw2, hq2] at kc
  have b2 := below_new w1 (.cells #[.int .u8 97, .int .u8 98, .int .u8 99] 5 (3, 4))
  have S2 := BS.lit3 w1 97 98 99 (3, 4)
  rw [hw2] at b2 S2
  rw [hq2] at S2
  have HPu := hide (put_any (P1.below b2) 0 1 (some ⟨q2, 0, none⟩) 3 3 [97, 98, 99] S2 (fun k e => by have : q2 = k := Option.some.inj e; omega) (by omega) (by omega) (by unfold maxLen; omega))
  have HB2 := hide (b1.trans (b2.mono b1.size))
  clear P1 b1 b2 S2 hg hmb kc2 hw2
  go_wp2_with fail
  refine HPu.out.mono ?_
  rintro r w3 ⟨rfl, bo, cc, P3, F3, -⟩
  have m1 : mput (fun _ => none) ((0 + 1 : Nat) : Int) ⟨0, 1, bo, 3, cc⟩ 1 = some ⟨0, 1, bo, 3, cc⟩ := rfl
  have c1 : cput (fun _ => []) ((0 + 1 : Nat) : Int) [97, 98, 99] 1 = [97, 98, 99] := rfl
  generalize mput (fun _ => none) ((0 + 1 : Nat) : Int) ⟨0, 1, bo, 3, cc⟩ = M1 at P3 m1
  generalize cput (fun _ => []) ((0 + 1 : Nat) : Int) [97, 98, 99] = C1 at P3 c1
  have HB3 := hide (Below.fw HB2.out F3 (by have := HG.out; omega) (by have := HG.out; omega))
  have HMa := hide P3.made_any
  have HCo := hide (copy_yes P3 (x := 1) (by unfold i64ok; omega) m1 (by omega) (by unfold maxLen; omega))
  clear F3 HPu P3 kc
  go_wp2_with fail
  refine HMa.out.mono ?_
  rintro r w3' ⟨rfl, rfl⟩
  go_wp2_with fail
  refine HCo.out.mono ?_
  rintro r w4 ⟨rfl, bo2, cc2, P4, F4, -⟩
  rw [c1] at P4
  have e2 : ((0 + 1 + 1 : Nat) : Int) = 2 := rfl
  rw [e2] at P4
  have m2 : mput M1 2 ⟨0, 1, bo2, 3, cc2⟩ 1 = some ⟨0, 1, bo, 3, cc⟩ := by rw [← m1]; rfl
  have n2 : mput M1 2 ⟨0, 1, bo2, 3, cc2⟩ 2 = some ⟨0, 1, bo2, 3, cc2⟩ := rfl
  have c2 : cput C1 2 [97, 98, 99] 1 = [97, 98, 99] := by rw [← c1]; rfl
  have d2 : cput C1 2 [97, 98, 99] 2 = [97, 98, 99] := rfl
  generalize mput M1 2 ⟨0, 1, bo2, 3, cc2⟩ = M2 at P4 m2 n2
  generalize cput C1 2 [97, 98, 99] = C2 at P4 c2 d2
  have HB4 := hide (Below.fw HB3.out F4 (by have := HG.out; omega) (by have := HG.out; omega))
  have HTr := hide (trim_ok P4 (x := 1) (by unfold i64ok; omega) m2 (cut := 2) (by omega) (by omega) (by unfold maxLen; omega) 1 (by decide))
  clear F4 HCo HMa P4 m1 c1 m2 HB2 HB3
  go_wp2_with fail
  refine HTr.out.mono ?_
  rintro r w5 ⟨rfl, P5, F5⟩
  rw [c2] at P5
  have m3 : mput M2 1 ⟨0, 1, bo, 1, 1⟩ 1 = some ⟨0, 1, bo, 1, 1⟩ := rfl
  have n3 : mput M2 1 ⟨0, 1, bo, 1, 1⟩ 2 = some ⟨0, 1, bo2, 3, cc2⟩ := by rw [← n2]; rfl
  have c3 : cput C2 1 (List.take 1 [97, 98, 99]) 1 = [97] := rfl
  have d3 : cput C2 1 (List.take 1 [97, 98, 99]) 2 = [97, 98, 99] := by rw [← d2]; rfl
  generalize mput M2 1 ⟨0, 1, bo, 1, 1⟩ = M3 at P5 m3 n3
  generalize cput C2 1 (List.take 1 [97, 98, 99]) = C3 at P5 c3 d3
  have HB5 := hide (Below.fw HB4.out F5 (by have := HG.out; omega) (by have := HG.out; omega))
  have HT1 := hide (take_yes P5 (x := 1) (by unfold i64ok; omega) m3)
  have HL5 := hide (And.intro P5.g_lt P5.mb_lt)
  clear F5 HTr P5 n2 c2 d2 HB4 m3
  go_wp2_with fail
  refine HT1.out.mono ?_
  rintro r w6 ⟨bo3, cc3, rfl, B6, hn6, P6, F6⟩
  rw [c3] at B6
  simp only at B6
  obtain ⟨g6, hg6⟩ : ∃ g6, w6.heap.size = g6 := ⟨_, rfl⟩
  obtain ⟨w7, hst7, T7, b7, z7⟩ := madeT w6 ⟨0, 1, bo3, 1, cc3⟩ g6 hg6
  rw [t0_cells] at hst7
  have m4 : mdel M3 1 2 = some ⟨0, 1, bo2, 3, cc2⟩ := by rw [← n3]; rfl
  generalize mdel M3 1 = M4 at P6 m4
  have P7 := P6.below b7
  have HT2 := hide (take_yes P7 (x := 2) (by unfold i64ok; omega) m4)
  have hf6 := F6.size
  have H7 : Hid (TBox w7 g6 ⟨0, 1, bo3, 1, cc3⟩ ∧ BR w7 bo3 1 cc3 [97] ∧ (∀ k, blk bo3 = some k → k ≠ g ∧ k ≠ mb) ∧ g6 ≠ g ∧ g6 ≠ mb ∧ Below w.heap.size w w7) := by
    have hl := HL5.out
    have hB6 := Below.fw HB5.out F6 (by have := HG.out; omega) (by have := HG.out; omega)
    exact ⟨T7, B6.below b7, fun k e => by have := hn6 k e; omega, by omega, by omega, hB6.trans (b7.mono hB6.size)⟩
  clear P6 F6 B6 hn6 T7 b7 z7 HT1 HB5 n3 c3
  go_wp2_with fail
  refine HT2.out.mono ?_
  rintro r w8 ⟨bo4, cc4, rfl, B8, hn8, P8, F8⟩
  rw [d3] at B8
  simp only at B8
  obtain ⟨g8, hg8⟩ : ∃ g8, w8.heap.size = g8 := ⟨_, rfl⟩
  obtain ⟨w9, hst9, T9, b9, z9⟩ := madeT w8 ⟨0, 1, bo4, 3, cc4⟩ g8 hg8
  rw [t0_cells] at hst9
  have m5 : mdel M4 2 2 = none := rfl
  generalize mdel M4 2 = M5 at P8 m5
  have HT3 := hide (take_no (P8.below b9) (x := 2) (by unfold i64ok; omega) m5)
  have hf8 := F8.size
  have H9 : Hid (TBox w9 g6 ⟨0, 1, bo3, 1, cc3⟩ ∧ BR w9 bo3 1 cc3 [97] ∧ (∀ k, blk bo3 = some k → k ≠ g ∧ k ≠ mb) ∧ g6 ≠ g ∧ g6 ≠ mb ∧ Below w.heap.size w w9 ∧ TBox w9 g8 ⟨0, 1, bo4, 3, cc4⟩ ∧ BR w9 bo4 3 cc4 [97, 98, 99] ∧ (∀ k, blk bo4 = some k → k ≠ g ∧ k ≠ mb) ∧ g8 ≠ g ∧ g8 ≠ mb) := by
    have hl := HL5.out
    have h7 := H7.out
    have hB8 := Below.fw h7.2.2.2.2.2 F8 (by have := HG.out; omega) (by have := HG.out; omega)
    have hlt := h7.1.lt
    exact ⟨(h7.1.fw F8 h7.2.2.2.1 h7.2.2.2.2.1).below b9, (h7.2.1.fw F8 h7.2.2.1).below b9, h7.2.2.1, h7.2.2.2.1, h7.2.2.2.2.1, hB8.trans (b9.mono hB8.size), T9, B8.below b9, fun k e => by have := hn8 k e; omega, by omega, by omega⟩
  clear P8 F8 B8 hn8 T9 b9 z9 HT2 H7 d3 P7
  go_wp2_with fail
  refine HT3.out.mono ?_
  rintro r wA ⟨rfl, PA, FA⟩
  obtain ⟨gA, hgA⟩ : ∃ gA, wA.heap.size = gA := ⟨_, rfl⟩
  obtain ⟨wB, hstB0, TB, bB, zB⟩ := madeT wA t0 gA hgA
  have hstB : (stT (.pointer (some ⟨gA, 0, none⟩)) (.agg (TC t0))).run Try.prog (wA.alloc (.cells #[.int .i64 0, .int .i64 0, .slice none 0 0] 40)) = .ok () wB := hstB0
  obtain ⟨h1, h2, h3, h4, h5, h6, h7, h8, h9, hA, hC⟩ := H9.out
  have TX := (h1.fw FA h4 h5).below bB
  have TY := (h7.fw FA hA hC).below bB
  have hx := ((h2.fw FA h3).below bB).bs.str
  have hy := ((h8.fw FA h9).below bB).bs.str
  rw [s97] at hx
  rw [s979899] at hy
  have x1 := TX.c1
  have x2 := TX.c2
  have y2 := TY.c2
  simp only at x1 x2 y2
  have hBA := Below.fw h6 FA (by have := HG.out; omega) (by have := HG.out; omega)
  have HBB := hide (hBA.trans (bB.mono hBA.size))
  clear H9 hstB0 TB bB zB h1 h2 h3 h4 h5 h6 h7 h8 h9 hA hC TX TY PA FA HT3 hBA m5
  go_wp2_with fail
  go_ret
  exact ⟨rfl, HBB.out⟩
end Go.Proofs.Ythagachlilnjpaa
