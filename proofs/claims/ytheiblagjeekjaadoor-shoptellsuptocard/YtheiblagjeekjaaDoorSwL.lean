/- ShopWords: its contract. -/
import Derived.Test.YtheiblagjeekjaaDoorSwR
namespace Go.Proofs.YtheiblagjeekjaaDoor
open Go.RowKit

theorem word_as (e : Int) (l : List UInt8) (hl : wordL e = l) (h0 : -9223372036854775808 ≤ e) (h1 : e ≤ 9223372036854775807) (w : World) (ht : Tab w) (hw : Wt w) : Calls Tryd.prog 5 #[.int .i64 e] w fun r w' => r = .returned (.string (bs l)) ∧ Below w.heap.size w w' := by
  subst hl
  exact shopWord_any e h0 h1 w ht hw
set_option maxRecDepth 100000 in
set_option maxHeartbeats 1600000 in
theorem words_any (e : Int) (h0 : -9223372036854775808 ≤ e) (h1 : e ≤ 9223372036854775807) (w : World) (ht : Tab w) (hw : Wt w) : Calls Tryd.prog 3 #[.int .i64 e] w fun r w' => r = .returned (.bool true) ∧ Below w.heap.size w w' := by
  have HT := hide ht
  have HW := hide hw
  obtain ⟨y, hy⟩ : ∃ y, y = bs [102, 117, 108, 108] := ⟨_, rfl⟩
  obtain ⟨x, hx⟩ : ∃ x, x = bs (wordL e) := ⟨_, rfl⟩
  have hq : (y.toList == [102, 117, 108, 108]) = true := by rw [hy, ByteArray.toList_eq, bs_list]; rfl
  have HC : Hid (∀ w, Tab w → Wt w → Calls Tryd.prog 5 #[.int .i64 12] w fun r w' => r = .returned (.string y) ∧ Below w.heap.size w w') := fun w t s => by rw [hy]; exact word_as 12 _ wordL12 (by decide) (by decide) w t s
  have HD : Hid (∀ w, Tab w → Wt w → Calls Tryd.prog 5 #[.int .i64 e] w fun r w' => r = .returned (.string x) ∧ Below w.heap.size w w') := fun w t s => by rw [hx]; exact shopWord_any e h0 h1 w t s
  have HE : Hid (∀ w, Calls Tryd.prog 6 #[.int .i64 e] w fun r w' => r = .returned (.string x) ∧ Below w.heap.size w w') := fun w => by rw [hx]; exact refWord_any e h0 h1 w
  clear ht hw h0 h1 hx hy
  go_enter Tryd.func3, Tryd.ntmps3
  go_wp2_with (first | (go_at_call 5; refine (HD.out _ (HT.out.on hb1) (HW.out.on hb1)).mono ?_; rintro r w2 ⟨rfl, hb2⟩) | (go_at_call 5; refine (HC.out _ HT.out HW.out).mono ?_; rintro r w1 ⟨rfl, hb1⟩) | (go_at_call 6; refine (HE.out _).mono ?_; rintro r w3 ⟨rfl, hb3⟩))
  go_ret
  exact ⟨rfl, hb1.trans ((hb2.trans (hb3.mono hb2.size)).mono hb1.size)⟩
end Go.Proofs.YtheiblagjeekjaaDoor
