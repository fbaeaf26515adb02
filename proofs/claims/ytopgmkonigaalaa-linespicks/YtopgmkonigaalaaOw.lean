/- Own: its contract. -/
import Derived.Test.YtopgmkonigaalaaOf
namespace Go.Proofs.Ytopgmkonigaalaa
open Go.RowKit

set_option maxHeartbeats 1600000 in
theorem own_any (ao : Option Addr) (n cap : Nat) (L : List En) (r : Int) (s : ByteArray) (w : World) (hS : ESrc w ao n cap L) (hs : s.size ≤ maxLen) :
    Calls Try.prog 12 #[.slice ao n cap, .int .i64 r, .string s] w fun x w' => GivesEE w w' x (owV L r s) (owE L r s) := by
  have B0 := hide ((below_new w (.cells #[.int .i64 r] 3)).trans ((below_new (w.alloc (.cells #[.int .i64 r] 3)) (.cells #[.string s] 9)).mono (by simp)))
  have S0 := hide (hS.below B0.out)
  have HC0 : Hid (((w.alloc (.cells #[.int .i64 r] 3)).alloc (.cells #[.string s] 9)).cell? ⟨w.heap.size, 0, none⟩ = some (.int .i64 r)) := by show _ = _; simp
  have HD0 : Hid (((w.alloc (.cells #[.int .i64 r] 3)).alloc (.cells #[.string s] 9)).cell? ⟨w.heap.size + 1, 0, none⟩ = some (.string s)) := by show _ = _; simp
  have HSs := hide hs
  obtain ⟨w0, Hw0⟩ : ∃ w0, Hid ((w.alloc (.cells #[.int .i64 r] 3)).alloc (.cells #[.string s] 9) = w0) := ⟨_, rfl⟩
  rw [Hw0.out] at B0 S0 HC0 HD0
  clear hS hs
  go_enter Try.func12, Try.ntmps12
  go_wp2_with fail
  rw [Hw0.out]
  refine (lcheck_any _ _ _ L _ S0.out).mono ?_
  rintro x w1 ⟨rfl, b1⟩
  have B1 := hide (B0.out.trans (b1.mono B0.out.size))
  have S1 := hide (S0.out.below b1)
  have c1 : w1.cell? ⟨w.heap.size, 0, none⟩ = some (.int .i64 r) := by rw [b1.cell (World.block_lt_of_cell? _ _ HC0.out)]; exact HC0.out
  have d1 : w1.cell? ⟨w.heap.size + 1, 0, none⟩ = some (.string s) := by rw [b1.cell (World.block_lt_of_cell? _ _ HD0.out)]; exact HD0.out
  clear b1 S0 B0 HC0 HD0 Hw0
  rcases chk_cases L with h | h
  · rw [h]
    obtain ⟨q, Hq⟩ : ∃ q, Hid (isR r = q) := ⟨_, rfl⟩
    cases q with
    | false =>
      have HE : Hid (owE L r s = 3) := by show _ = _; unfold owE; rw [if_pos h, Hq.out]; rfl
      have HV : Hid (owV L r s = []) := by show _ = _; unfold owV; rw [HE.out]; rfl
      clear h
      go_wp2_with (go_at_call 17; refine (isRep_any r _).mono ?_; rintro e w' ⟨rfl, rfl⟩; rw [Hq.out])
      go_ret2
      rw [HE.out, HV.out]
      exact ⟨_, _, _, rfl, esrc_nil _, B1.out, fun ad h => by cases h⟩
    | true =>
      obtain ⟨gd, Hg⟩ : ∃ gd, Hid (good s.data.toList = gd) := ⟨_, rfl⟩
      cases gd with
      | false =>
        have HE : Hid (owE L r s = 5) := by show _ = _; unfold owE; rw [if_pos h, Hq.out, Hg.out]; rfl
        have HV : Hid (owV L r s = []) := by show _ = _; unfold owV; rw [HE.out]; rfl
        clear h
        go_wp2_with (first | (go_at_call 17; refine (isRep_any r _).mono ?_; rintro e w' ⟨rfl, rfl⟩; rw [Hq.out]) | (go_at_call 18; refine (good_any s _ HSs.out).mono ?_; rintro e w' ⟨rfl, rfl⟩; rw [Hg.out]))
        go_ret2
        rw [HE.out, HV.out]
        exact ⟨_, _, _, rfl, esrc_nil _, B1.out, fun ad h => by cases h⟩
      | true =>
        have HE : Hid (owE L r s = 0) := by show _ = _; unfold owE; rw [if_pos h, Hq.out, Hg.out]; rfl
        have HV : Hid (owV L r s = L.filter (fun e => e.rep == r && eqS e.sku s)) := by show _ = _; unfold owV; rw [HE.out]; rfl
        clear h
        have HP : Hid (∀ W, Below w1.heap.size w1 W → ∀ e, Calls Try.prog 23 #[EV e, .pointer (some ⟨w.heap.size, 0, none⟩), .pointer (some ⟨w.heap.size + 1, 0, none⟩)] W fun x w' => x = .returned (.bool (e.rep == r && eqS e.sku s)) ∧ Below W.heap.size W w') := fun W hW e =>
          ownLit_any e w.heap.size (w.heap.size + 1) r s W (by rw [hW.cell (World.block_lt_of_cell? _ _ c1)]; exact c1) (by rw [hW.cell (World.block_lt_of_cell? _ _ d1)]; exact d1)
        go_wp2_with (first | (go_at_call 17; refine (isRep_any r _).mono ?_; rintro e w' ⟨rfl, rfl⟩; rw [Hq.out]) | (go_at_call 18; refine (good_any s _ HSs.out).mono ?_; rintro e w' ⟨rfl, rfl⟩; rw [Hg.out]) | (go_at_call 22; refine (pickOwn_any _ _ _ L w.heap.size (w.heap.size + 1) (fun e => e.rep == r && eqS e.sku s) _ S1.out HP.out).mono ?_; rintro x w2 ⟨a2, n2, q2, rfl, S2, b2, F2⟩))
        go_ret2
        rw [HE.out, HV.out]
        exact ⟨_, _, _, rfl, S2, B1.out.trans (b2.mono B1.out.size), fun ad h => Nat.le_trans B1.out.size (F2 ad h)⟩
  · have HE : Hid (owE L r s = 1) := by show _ = _; unfold owE; rw [h]; rfl
    have HV : Hid (owV L r s = []) := by show _ = _; unfold owV; rw [HE.out]; rfl
    rw [h]
    clear h
    go_wp2_with fail
    go_ret2
    rw [HE.out, HV.out]
    exact ⟨_, _, _, rfl, esrc_nil _, B1.out, fun ad h => by cases h⟩
end Go.Proofs.Ytopgmkonigaalaa
