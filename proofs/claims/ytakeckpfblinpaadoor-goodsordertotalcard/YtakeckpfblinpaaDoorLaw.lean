/- GoodsOrderTotal: the law's walk. -/
import Derived.Test.YtakeckpfblinpaaDoorCmp
namespace Go.Proofs.YtakeckpfblinpaaDoor
open Go.RowKit

theorem below_on {a b c : World} (h1 : Below a.heap.size a b) (h2 : Below b.heap.size b c) : Below a.heap.size a c := h1.trans (h2.mono h1.size)
def bs (l : List UInt8) : ByteArray := ⟨l.toArray⟩
theorem cmp_k1 (w : World) : Calls Tryd.prog 4 #[.string ⟨#[55]⟩, .string ⟨#[65]⟩] w fun e w' => e = .returned (.int .i64 (-1)) ∧ Below w.heap.size w w' := by
  have h := compare_any ⟨#[55]⟩ ⟨#[65]⟩ w (by decide) (by decide)
  have e : cmpF (⟨#[55]⟩ : ByteArray).data.toList (⟨#[65]⟩ : ByteArray).data.toList = -1 := by decide +kernel
  rw [e] at h
  exact h
theorem cmp_k2 (w : World) : Calls Tryd.prog 4 #[.string ⟨#[65]⟩, .string ⟨#[55]⟩] w fun e w' => e = .returned (.int .i64 1) ∧ Below w.heap.size w w' := by
  have h := compare_any ⟨#[65]⟩ ⟨#[55]⟩ w (by decide) (by decide)
  have e : cmpF (⟨#[65]⟩ : ByteArray).data.toList (⟨#[55]⟩ : ByteArray).data.toList = 1 := by decide +kernel
  rw [e] at h
  exact h
/-- Compare of two texts, and of the two the other way round, where it is known -/
theorem cmp_at (a b : ByteArray) (x : Int) (ha : a.size ≤ maxLen) (hb : b.size ≤ maxLen) (hx : cmpF a.data.toList b.data.toList = x) :
    (∀ w, Calls Tryd.prog 4 #[.string a, .string b] w fun e w' => e = .returned (.int .i64 x) ∧ Below w.heap.size w w') ∧ (∀ w, Calls Tryd.prog 4 #[.string b, .string a] w fun e w' => e = .returned (.int .i64 (-x)) ∧ Below w.heap.size w w') ∧ (a.toList == b.toList) = (x == 0) := by
  refine ⟨fun w => ?_, fun w => ?_, ?_⟩
  · have h := compare_any a b w ha hb
    rw [hx] at h; exact h
  · have h := compare_any b a w hb ha
    rw [cmpF_cmp.anti a.data.toList b.data.toList, hx] at h; exact h
  · rw [ByteArray.toList_eq, ByteArray.toList_eq, Bool.eq_iff_iff]
    have := cmpF_zero a.data.toList b.data.toList
    rw [hx] at this
    simp only [beq_iff_eq]
    exact this.symm

set_option maxRecDepth 100000 in
set_option maxHeartbeats 8000000 in
theorem total_law (a b c : ByteArray) (w : World) (ha : a.size ≤ maxLen) (hb : b.size ≤ maxLen) (hc : c.size ≤ maxLen) :
    Calls Tryd.prog 3 #[.string a, .string b, .string c] w fun e w' => e = .returned (.bool true) ∧ Below w.heap.size w w' := by
  obtain ⟨x, hx⟩ : ∃ x, cmpF a.data.toList b.data.toList = x := ⟨_, rfl⟩
  obtain ⟨y, hy⟩ : ∃ y, cmpF b.data.toList c.data.toList = y := ⟨_, rfl⟩
  obtain ⟨z, hz⟩ : ∃ z, cmpF a.data.toList c.data.toList = z := ⟨_, rfl⟩
  obtain ⟨p1, p2, p3⟩ := cmp_at a b x ha hb hx
  obtain ⟨q1, q2, q3⟩ := cmp_at b c y hb hc hy
  obtain ⟨r1, r2, r3⟩ := cmp_at a c z ha hc hz
  have t1 := cmpF_cmp.trans a.data.toList b.data.toList c.data.toList
  have t2 := cmpF_cmp.trans c.data.toList b.data.toList a.data.toList
  have rx := cmpF_cmp.rng a.data.toList b.data.toList
  have ry := cmpF_cmp.rng b.data.toList c.data.toList
  have rz := cmpF_cmp.rng a.data.toList c.data.toList
  rw [cmpF_cmp.anti b.data.toList c.data.toList, cmpF_cmp.anti a.data.toList b.data.toList, cmpF_cmp.anti a.data.toList c.data.toList] at t2
  rw [hx, hy, hz] at t1 t2
  rw [hx] at rx
  rw [hy] at ry
  rw [hz] at rz
  have P1 := hide p1
  have P2 := hide p2
  have Q1 := hide q1
  have Q2 := hide q2
  have R1 := hide r1
  have R2 := hide r2
  clear hx hy hz p1 p2 q1 q2 r1 r2 ha hb hc
  rcases rx with rfl | rfl | rfl <;> rcases ry with rfl | rfl | rfl <;> rcases rz with rfl | rfl | rfl
  all_goals first | (exfalso; omega) | skip
  all_goals clear t1 t2
  all_goals
    as_aux_lemma =>
      go_enter Tryd.func3, Tryd.ntmps3
      go_wp2_with fail
      refine (cmp_k1 _).mono ?_
      rintro e w1 ⟨rfl, b1⟩
      go_wp2_with fail
      refine (cmp_k2 _).mono ?_
      rintro e w2 ⟨rfl, b2⟩
      go_wp2_with fail
      refine (P1.out _).mono ?_
      rintro e w3 ⟨rfl, b3⟩
      go_wp2_with fail
      refine (Q1.out _).mono ?_
      rintro e w4 ⟨rfl, b4⟩
      go_wp2_with fail
      refine (R1.out _).mono ?_
      rintro e w5 ⟨rfl, b5⟩
      go_wp2_with fail
      refine (P2.out _).mono ?_
      rintro e w6 ⟨rfl, b6⟩
      go_wp2_with fail
      refine (Q2.out _).mono ?_
      rintro e w7 ⟨rfl, b7⟩
      go_wp2_with fail
      refine (R2.out _).mono ?_
      rintro e w8 ⟨rfl, b8⟩
      have hb := below_on (below_on (below_on (below_on (below_on (below_on (below_on b1 b2) b3) b4) b5) b6) b7) b8
      clear b1 b2 b3 b4 b5 b6 b7 b8
      go_wp2
      go_ret
      exact ⟨by first | rfl | simp, hb⟩
end Go.Proofs.YtakeckpfblinpaaDoor
