/- The reference's Shopping. -/
import Derived.Test.YtheiblagjeekjaaDoorTeA
namespace Go.Proofs.YtheiblagjeekjaaDoor
open Go.RowKit
variable {w w' : World} {g : Nat}
attribute [local go_sem ↓] ldLn_eq stLn_eq

theorem bs_app2 (s : ByteArray) (l : List UInt8) : s ++ bs l = bs (s.data.toList ++ l) := by rw [← bs_app, bs_of]
theorem ln_one (sku : ByteArray) (q : Int) : bs [32, 32] ++ sku ++ bs [32] ++ bs (num q) ++ bs [10] = bs (lnT ⟨sku, q, 1⟩) := by
  apply ByteArray.ext
  simp [bs, lnT, ptT, ByteArray.data_append]
theorem ln_two (sku : ByteArray) (q p : Int) (h : ¬ p = 1) : bs [32, 32] ++ sku ++ bs [32] ++ bs (num q) ++ (bs inL ++ bs (num p)) ++ bs [10] = bs (lnT ⟨sku, q, p⟩) := by
  apply ByteArray.ext
  simp [bs, lnT, ptT, h, ByteArray.data_append, Array.append_assoc]
set_option maxRecDepth 100000 in
set_option maxHeartbeats 3200000 in
theorem shop1_any (sku : ByteArray) (qty : Int) (w : World) (h : Rn ⟨sku, qty, 1⟩) (hl : sku.size ≤ 1000000000) :
    Calls Tryd.prog 14 #[.agg #[.string sku, .int .i64 qty, .int .i64 1]] w fun e w' => e = .returned (.string (bs (lnT ⟨sku, qty, 1⟩))) ∧ Below w.heap.size w w' := by
  obtain ⟨w1, hw1⟩ : ∃ w1, w.alloc (.cells #[.string sku, .int .i64 qty, .int .i64 1] 31) = w1 := ⟨_, rfl⟩
  have hbx : LnBox w1 w.heap.size ⟨sku, qty, 1⟩ := by rw [← hw1]; exact LnBox_new w ⟨sku, qty, 1⟩
  have hbl : Below w.heap.size w w1 := by rw [← hw1]; exact below_new _ _
  have HC : Hid (∀ w, Calls Tryd.prog 11 #[.int .i64 qty] w fun r w' => r = .returned (.string (bs (num qty))) ∧ Below w.heap.size w w') := fun w => number_any qty h.q0 h.q1 w
  have hn1 : (bs (num qty)).size ≤ 21 := by rw [bs_size]; exact num_len qty h.q0 h.q1
  have c0 := hbx.c0
  have c1 := hbx.c1
  have c2 := hbx.c2
  simp only at c0 c1 c2
  have HX := hide hbx
  have HB := hide hbl
  have hs1 : (⟨#[32, 32]⟩ : ByteArray).size = 2 := rfl
  have hs2 : (⟨#[32]⟩ : ByteArray).size = 1 := rfl
  have hs3 : (⟨#[10]⟩ : ByteArray).size = 1 := rfl
  clear hbx hbl h
  go_enter Tryd.func14, Tryd.ntmps14
  go_wp2
  go_region_with (go_at_call 11; refine (HC.out _).mono ?_; rintro e w2 ⟨rfl, b2⟩; have B2 := (below_drew1 w1).trans b2; have X2 := HX.out.below B2; have d0 := X2.c0; have d2 := X2.c2; simp only at d0 d2)
  all_goals (go_wp2)
  all_goals go_ret
  all_goals exact ⟨ret_str (ln_one sku qty), HB.out.trans (B2.mono HB.out.size)⟩
set_option maxRecDepth 100000 in
set_option maxHeartbeats 3200000 in
theorem shop2_any (sku : ByteArray) (qty parts : Int) (w : World) (h : Rn ⟨sku, qty, parts⟩) (hl : sku.size ≤ 1000000000) (hp : ¬ parts = 1) :
    Calls Tryd.prog 14 #[.agg #[.string sku, .int .i64 qty, .int .i64 parts]] w fun e w' => e = .returned (.string (bs (lnT ⟨sku, qty, parts⟩))) ∧ Below w.heap.size w w' := by
  obtain ⟨w1, hw1⟩ : ∃ w1, w.alloc (.cells #[.string sku, .int .i64 qty, .int .i64 parts] 31) = w1 := ⟨_, rfl⟩
  have hbx : LnBox w1 w.heap.size ⟨sku, qty, parts⟩ := by rw [← hw1]; exact LnBox_new w ⟨sku, qty, parts⟩
  have hbl : Below w.heap.size w w1 := by rw [← hw1]; exact below_new _ _
  have HC : Hid (∀ w, Calls Tryd.prog 11 #[.int .i64 qty] w fun r w' => r = .returned (.string (bs (num qty))) ∧ Below w.heap.size w w') := fun w => number_any qty h.q0 h.q1 w
  have HD : Hid (∀ w, Calls Tryd.prog 11 #[.int .i64 parts] w fun r w' => r = .returned (.string (bs (num parts))) ∧ Below w.heap.size w w') := fun w => number_any parts h.p0 h.p1 w
  have hn2 : (bs (num parts)).size ≤ 21 := by rw [bs_size]; exact num_len parts h.p0 h.p1
  have hs4 : (⟨#[32, 105, 110, 32]⟩ : ByteArray).size = 4 := rfl
  have hn1 : (bs (num qty)).size ≤ 21 := by rw [bs_size]; exact num_len qty h.q0 h.q1
  have c0 := hbx.c0
  have c1 := hbx.c1
  have c2 := hbx.c2
  simp only at c0 c1 c2
  have HX := hide hbx
  have HB := hide hbl
  have hs1 : (⟨#[32, 32]⟩ : ByteArray).size = 2 := rfl
  have hs2 : (⟨#[32]⟩ : ByteArray).size = 1 := rfl
  have hs3 : (⟨#[10]⟩ : ByteArray).size = 1 := rfl
  have HE := hide (ln_two sku qty parts hp)
  clear hbx hbl h
  go_enter Tryd.func14, Tryd.ntmps14
  go_wp2
  go_region_with (go_at_call 11; refine (HC.out _).mono ?_; rintro e w2 ⟨rfl, b2⟩; have B2 := (below_drew1 w1).trans b2; have X2 := HX.out.below B2; have d0 := X2.c0; have d2 := X2.c2; simp only at d0 d2)
  all_goals (go_wp2_with (go_at_call 11; refine (HD.out _).mono ?_; rintro e w3 ⟨rfl, b3⟩))
  all_goals go_ret
  all_goals exact ⟨ret_str HE.out, HB.out.trans ((B2.trans (b3.mono B2.size)).mono HB.out.size)⟩
theorem shopping_any (m : Lne) (w : World) (h : Rn m) (hl : m.sku.size ≤ 1000000000) :
    Calls Tryd.prog 14 #[.agg (LnC m)] w fun e w' => e = .returned (.string (bs (lnT m))) ∧ Below w.heap.size w w' := by
  obtain ⟨sku, qty, parts⟩ := m
  by_cases hp : parts = 1
  · subst hp
    exact shop1_any sku qty w h hl
  · exact shop2_any sku qty parts w h hl hp
end Go.Proofs.YtheiblagjeekjaaDoor
