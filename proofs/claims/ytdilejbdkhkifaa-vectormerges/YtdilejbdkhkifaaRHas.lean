/- The reference's Has: its contract. -/
import Derived.Test.YtdilejbdkhkifaaHas
namespace Go.Proofs.Ytdilejbdkhkifaa
open Go.RowKit
attribute [local go_sem ↓] ld55_eq st55_eq
attribute [local go_sem] zeros_VC

set_option maxHeartbeats 1600000 in
theorem refHas_any (ao : Option Addr) (n cap : Nat) (Z : List Int) (r m : Int) (w : World) (hS : Src w ao n cap Z) :
    Calls Try.prog 20 #[.slice ao n cap, .agg #[.int .i64 r, .int .i64 m]] w fun e w' => e = .returned (.bool (hasD Z r m)) ∧ Below w.heap.size w w' := by
  have HB : Hid (Below w.heap.size w (w.alloc (.cells #[.int .i64 r, .int .i64 m] 29))) := (Below.refl _ _).alloc (Nat.le_refl _) _
  have HS := hide (hS.below HB.out)
  clear hS
  by_cases h1 : r < 0
  · have HR : Hid (hasD Z r m = false) := by show _ = _; unfold hasD atI isR; rw [decide_eq_false (show ¬ 0 ≤ r by omega)]; simp; omega
    go_enter Try.func20, Try.ntmps20
    go_wp2
    go_ret
    exact ⟨ret_bool HR.out.symm, HB.out⟩
  by_cases h2 : 16 ≤ r
  · have HR : Hid (hasD Z r m = false) := by show _ = _; unfold hasD atI isR; rw [decide_eq_false (show ¬ r < 16 by omega), Bool.and_false]; simp; omega
    go_enter Try.func20, Try.ntmps20
    go_wp2
    go_ret
    exact ⟨ret_bool HR.out.symm, HB.out⟩
  by_cases h3 : m < 1
  · have HR : Hid (hasD Z r m = false) := by show _ = _; unfold hasD; rw [decide_eq_false (show ¬ 1 ≤ m by omega), Bool.false_and]
    go_enter Try.func20, Try.ntmps20
    go_wp2
    go_ret
    exact ⟨ret_bool HR.out.symm, HB.out⟩
  obtain ⟨k, rfl⟩ : ∃ k : Nat, r = k := ⟨r.toNat, by omega⟩
  have hk : k < 16 := by omega
  have HR : Hid (hasD Z k m = decide (m ≤ at' Z k)) := by show _ = _; unfold hasD atI; rw [if_pos (by simp [isR]; omega), Int.toNat_natCast, decide_eq_true (show 1 ≤ m by omega), Bool.true_and]
  go_enter Try.func20, Try.ntmps20
  go_wp2_with fail
  refine (full_any ao n cap Z _ HS.out).mono ?_
  rintro e w1 ⟨rfl, hb⟩
  have hq := HB.out.size
  have k0 := hb.cell (p := ⟨w.heap.size, 0, none⟩) (by simp)
  have k1 := hb.cell (p := ⟨w.heap.size, 1, none⟩) (by simp)
  rw [World.cell?_alloc_new] at k0 k1
  have hb1 := HB.out.trans (hb.mono hq)
  have lt1 : w.heap.size < w1.heap.size := by have := hb.size; simp at this; omega
  have s1 := run_st55 (f' := at' Z) (arr_new w1 55 (fun _ => 0))
  have A1 := hide ((arr_new w1 55 (fun _ => 0)).setRow (f' := at' Z))
  have hbl := below_setRow (g := w1.heap.size) (cs := VC (at' Z)) ((Below.refl w1.heap.size w1).alloc (Nat.le_refl _) (.cells (VC fun _ => 0) 55)) (Nat.le_refl _)
  obtain ⟨w2, hw2⟩ : ∃ w2, (w1.alloc (.cells (VC fun _ => 0) 55)).setRow w1.heap.size (VC (at' Z)) = w2 := ⟨_, rfl⟩
  rw [hw2] at s1 A1 hbl
  have c1 := A1.out.cell k hk
  have c2 := (hbl.cell (p := ⟨w.heap.size, 0, none⟩) lt1).trans k0
  have c3 := (hbl.cell (p := ⟨w.heap.size, 1, none⟩) lt1).trans k1
  have hb2 := hide (hb1.trans (hbl.mono (Nat.le_of_lt lt1)))
  simp only [List.getElem?_toArray, List.getElem?_cons_zero, List.getElem?_cons_succ] at c2 c3
  clear hw2 k0 k1 hb hb1 hbl
  go_wp2
  go_quiet (fail)
  go_wp2
  go_ret
  exact ⟨ret_bool HR.out.symm, hb2.out.trans ⟨rfl, rfl, rfl, Nat.le_refl _, fun _ _ => rfl⟩⟩
end Go.Proofs.Ytdilejbdkhkifaa
