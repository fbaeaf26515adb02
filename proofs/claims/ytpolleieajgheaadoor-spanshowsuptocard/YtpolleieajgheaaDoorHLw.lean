/- SpanShows: the law. -/
import Derived.Test.YtpolleieajgheaaDoorHSp
namespace Go.Proofs.YtpolleieajgheaaDoor
open Go.RowKit T Y
attribute [local go_sem ↓] ldR_eq stR_eq

def litR : List Rn := [⟨3, 3⟩, ⟨1, 1⟩, ⟨6, 9⟩]
theorem lit_norm : NormOf litR [⟨1, 1⟩, ⟨3, 3⟩, ⟨6, 9⟩] := by
  refine ⟨⟨by decide, by decide, by decide, by decide, by decide, by decide, by decide, by decide, by decide, trivial⟩, fun n => ?_⟩
  unfold litR
  rw [mem_cons, mem_cons, mem_one, mem_cons, mem_cons, mem_one]
  simp only
  omega
theorem num_dig (u : Nat) (h : u < 10) : num (u : Int) = [UInt8.ofNat (48 + u)] := by
  rw [num_nat, Lib.decDigits, dif_pos h]
theorem lit_show : showT [⟨1, 1⟩, ⟨3, 3⟩, ⟨6, 9⟩] = [49, 44, 51, 44, 54, 46, 46, 57] := by
  have e1 : num 1 = [49] := num_dig 1 (by decide)
  have e3 : num 3 = [51] := num_dig 3 (by decide)
  have e6 : num 6 = [54] := num_dig 6 (by decide)
  have e9 : num 9 = [57] := num_dig 9 (by decide)
  simp [showT, runsT, rnT, e1, e3, e6, e9]
theorem show_as (A R : List Rn) (l : List UInt8) (hR : NormOf A R) (hl : showT R = l) (ao : Option Addr) (n c : Nat) (w : World) (hS : RSrc w ao n c A) (ht : Tab w) :
    Calls Tryd.prog 4 #[.slice ao n c] w fun e w' => e = .returned (.string (bs l)) ∧ Below w.heap.size w w' :=
  (show_any ao n c A w hS ht).mono fun e w' h => by
    obtain ⟨R', h1, h2, h3⟩ := h
    rw [h1.unique hR, hl] at h2
    exact ⟨h2, h3⟩
set_option maxRecDepth 100000 in
set_option maxHeartbeats 1600000 in
theorem shows_any (ao : Option Addr) (n c : Nat) (A : List Rn) (w : World) (hS : RSrc w ao n c A) (hn : n ≤ 8589934592) (ht : Tab w) :
    Calls Tryd.prog 3 #[.slice ao n c] w fun e w' => e = .returned (.bool true) ∧ Below w.heap.size w w' := by
  have HS := hide hS
  have HT := hide ht
  obtain ⟨y, hy⟩ : ∃ y, y = bs [49, 44, 51, 44, 54, 46, 46, 57] := ⟨_, rfl⟩
  have hyq : (y.toList == [49, 44, 51, 44, 54, 46, 46, 57]) = true := by rw [hy, ByteArray.toList_eq, bs_list]; rfl
  have HC1 : Hid (∀ v, RSrc v (some ⟨w.heap.size, 0, none⟩) 3 3 litR → Tab v → Calls Tryd.prog 4 #[.slice (some ⟨w.heap.size, 0, none⟩) 3 3] v fun e w' => e = .returned (.string y) ∧ Below v.heap.size v w') := fun v s t => by rw [hy]; exact show_as litR _ _ lit_norm lit_show _ 3 3 v s t
  have HC2 := hide (fun v (s : RSrc v ao n c A) => rshow_any ao n c A v s hn)
  have HC3 : Hid (∀ v (R : List Rn), NormOf A R → RSrc v ao n c A → Tab v → Calls Tryd.prog 4 #[.slice ao n c] v fun e w' => e = .returned (.string (bs (showT R))) ∧ Below v.heap.size v w') := fun v R hR s t => show_as A R _ hR rfl ao n c v s t
  obtain ⟨w1, hw1⟩ : ∃ w1, w.alloc (.cells #[.int .i64 3, .int .i64 3, .int .i64 1, .int .i64 1, .int .i64 6, .int .i64 9] 25) = w1 := ⟨_, rfl⟩
  have hL : RSrc w1 (some ⟨w.heap.size, 0, none⟩) 3 3 litR := by rw [← hw1]; exact lit_rsrc w litR _ rfl 25 3 rfl (by omega)
  have hb1 : Below w.heap.size w w1 := by rw [← hw1]; exact below_new _ _
  have HL := hide hL
  have HB1 := hide hb1
  clear hS ht hy hL hb1
  go_enter Tryd.func3, Tryd.ntmps3
  go_wp2_with (first
    | (go_at_call 4; refine (HC3.out _ R hR (HS.out.below B3) (HT.out.on B3)).mono ?_; rintro e w4 ⟨rfl, b4⟩)
    | (go_at_call 4; refine (HC1.out _ HL.out (HT.out.on HB1.out)).mono ?_; rintro e w2 ⟨rfl, b2⟩; have B2 := HB1.out.trans (b2.mono HB1.out.size))
    | (go_at_call 5; refine (HC2.out _ (HS.out.below B2)).mono ?_; rintro e w3 ⟨R, hR, rfl, b3⟩; have B3 := B2.trans (b3.mono B2.size)))
  go_ret
  exact ⟨rfl, B3.trans (b4.mono B3.size)⟩
end Go.Proofs.YtpolleieajgheaaDoor
