/- GoodsAll: the law's walk. -/
import Derived.Test.YtnlklhjmhienkaaGreatDoorCPl
import Derived.Test.YtnlklhjmhienkaaGreatDoorAArt
import Derived.Test.YtnlklhjmhienkaaGreatDoorMPlay
import Derived.Test.YtnlklhjmhienkaaGreatDoorMNm
import Derived.Test.YtnlklhjmhienkaaGreatDoorQNm
namespace Go.Proofs.YtnlklhjmhienkaaGreatDoor.G
open Go.RowKit
attribute [local go_sem ↓] load35_eq

theorem cmp_k (w : World) : Calls Tryz.prog 4 #[.string ⟨#[66]⟩, .string ⟨#[65, 49, 48, 48]⟩] w fun e w' => e = .returned (.int .i64 1) ∧ Below w.heap.size w w' := by
  have h := C.compare_any ⟨#[66]⟩ ⟨#[65, 49, 48, 48]⟩ w (by unfold maxLen; have : (⟨#[66]⟩ : ByteArray).size = 1 := rfl; omega) (by unfold maxLen; have : (⟨#[65, 49, 48, 48]⟩ : ByteArray).size = 4 := rfl; omega)
  have e1 : C.cmpF (⟨#[66]⟩ : ByteArray).data.toList (⟨#[65, 49, 48, 48]⟩ : ByteArray).data.toList = 1 := by decide +kernel
  rw [e1] at h
  exact h
set_option maxRecDepth 100000 in
set_option maxHeartbeats 3000000 in
theorem plays_none (k : Int) (a b : ByteArray) (n : Int) (lp : Option Addr) (ll lc : Nat) (w : World) (hk : ¬ (1 ≤ k ∧ k ≤ 12)) :
    Calls Tryz.prog 5 #[.agg #[.int .i64 k, .string a, .string b, .int .i64 n, .slice lp ll lc]] w fun e w' => e = .returned (.bool true) ∧ Below w.heap.size w w' := by
  have h1 : (k == 1) = false := by simp; omega
  have h2 : (k == 2) = false := by simp; omega
  have h3 : (k == 3) = false := by simp; omega
  have h4 : (k == 4) = false := by simp; omega
  have h5 : (k == 5) = false := by simp; omega
  have h6 : (k == 6) = false := by simp; omega
  have h7 : (k == 7) = false := by simp; omega
  have h8 : (k == 8) = false := by simp; omega
  have h9 : (k == 9) = false := by simp; omega
  have h10 : (k == 10) = false := by simp; omega
  have h11 : (k == 11) = false := by simp; omega
  have h12 : (k == 12) = false := by simp; omega
  have HB : Hid (Below w.heap.size w (w.alloc (.cells #[.int .i64 k, .string a, .string b, .int .i64 n, .slice lp ll lc] 27))) := (Below.refl _ _).alloc (Nat.le_refl _) _
  clear hk
  go_enter Tryz.func5, Tryz.ntmps5
  go_wp2
  go_ret
  exact ⟨rfl, HB.out⟩
/-- plays, at any step -/
theorem plays_any (o : Step) (W : World) (ha : o.a.size ≤ maxLen) (hb : o.b.size ≤ maxLen) (hT : Q.Tab W) (hL : ∃ Z : List Int, Q.Lst W o.lp o.ll Z) (hll : o.ll ≤ 1048576) :
    Calls Tryz.prog 5 #[.agg #[.int .i64 o.kind, .string o.a, .string o.b, .int .i64 o.n, .slice o.lp o.ll o.lc]] W fun e w' => e = .returned (.bool true) ∧ Below W.heap.size W w' := by
  obtain ⟨k, a, b, n, lp, ll, lc⟩ := o
  obtain ⟨Z, hZ⟩ := hL
  by_cases hk : 1 ≤ k ∧ k ≤ 12
  · have : k = 1 ∨ k = 2 ∨ k = 3 ∨ k = 4 ∨ k = 5 ∨ k = 6 ∨ k = 7 ∨ k = 8 ∨ k = 9 ∨ k = 10 ∨ k = 11 ∨ k = 12 := by omega
    rcases this with rfl | rfl | rfl | rfl | rfl | rfl | rfl | rfl | rfl | rfl | rfl | rfl
    · exact M.plays1 a b n lp ll lc W ha
    · exact M.plays2 a b n lp ll lc W ha
    · exact A.plays3 a b n lp ll lc W ha
    · exact A.plays4 a b n lp ll lc W ha
    · exact A.plays5 a b n lp ll lc W ha
    · exact M.plays6 a b n lp ll lc W ha hb
    · exact C.plays7 a b n lp ll lc W ha hb
    · exact Q.plays8 a b n lp ll lc W ha
    · exact Q.plays9 a b n lp ll lc W hT
    · exact Q.plays10 a b n lp ll lc W Z hZ hll
    · exact M.plays11 a b n lp ll lc W ha
    · exact M.plays12 a b n lp ll lc W ha hb
  · exact plays_none k a b n lp ll lc W hk
set_option maxRecDepth 100000 in
set_option maxHeartbeats 3000000 in
theorem all_law (ao : Option Addr) (len cap : Nat) (w : World) (hl : len ≤ cap) (hc : cap ≤ maxLen) (ht : Q.Tab w) (hst : ∀ i, i < len → ∃ p o, ao = some p ∧ StepAt w p i o ∧ o.ll ≤ 1048576) :
    Calls Tryz.prog 3 #[.slice ao len cap] w fun e w' => e = .returned (.bool true) ∧ Below w.heap.size w w' := by
  have HST := hide hst
  have HT := hide ht
  unfold maxLen at hc
  clear hst ht
  go_enter Tryz.func3, Tryz.ntmps3
  go_wp2_with fail
  refine (cmp_k _).mono ?_
  rintro e w1 ⟨rfl, b1⟩
  have HB1 := hide b1
  clear b1
  go_wp2_with fail
  go_loopw [3] (fun u wr => ∃ i : Nat, i ≤ len ∧ u = .int .i64 i ∧ Hid (Below w.heap.size w wr)) (fun u _ => len - (intOf u).toNat)
  case atStart => exact ⟨0, Nat.zero_le _, rfl, HB1⟩
  case round =>
    obtain ⟨i, hi, rfl, HB⟩ := hrel
    rename World => w4
    by_cases hlt : i < len
    · obtain ⟨p, o, rfl, S0, hll⟩ := HST.out i hlt
      have S := S0.on HB.out
      have hld := run_load35 w4 p i o S
      have HP : Hid (Calls Tryz.prog 5 #[.agg #[.int .i64 o.kind, .string o.a, .string o.b, .int .i64 o.n, .slice o.lp o.ll o.lc]] w4 fun e w' => e = .returned (.bool true) ∧ Below w4.heap.size w4 w') := by
        obtain ⟨Z, z1, z2, z3⟩ := S.hL
        exact plays_any o w4 S.ha S.hb (HT.out.on HB.out) ⟨Z, z1, z2, z3⟩ hll
      clear S0 S hll
      go_wp2_with fail
      refine HP.out.mono ?_
      rintro e w5 ⟨rfl, b5⟩
      have HB5 := hide (HB.out.trans (b5.mono HB.out.size))
      clear b5
      go_wp2_with fail
      go_roundw
      case rel => exact ⟨i + 1, by omega, by go_num, HB5⟩
      case measure => simp [intOf]; omega
    · go_wp2_with fail
      go_ret
      exact ⟨rfl, HB.out⟩
end Go.Proofs.YtnlklhjmhienkaaGreatDoor.G
