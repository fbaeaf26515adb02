/- Of, Own: their contracts. -/
import Derived.Test.YtmhdhedjeaaciaaLPick
namespace Go.Proofs.Ytmhdhedjeaaciaa
open Go.RowKit

def eqS (a b : ByteArray) : Bool := a.toList == b.toList
theorem ofLit_any (e : En) (b : Nat) (s : ByteArray) (W : World) (hc : W.cell? ⟨b, 0, none⟩ = some (.string s)) : Calls Try.prog 52 #[EV e, .pointer (some ⟨b, 0, none⟩)] W fun x w' => x = .returned (.bool (eqS e.sku s)) ∧ Below W.heap.size W w' := by
  obtain ⟨r, m, t, q⟩ := e
  have HB : Hid (Below W.heap.size W (W.alloc (.cells #[.int .i64 r, .int .i64 m, .string t, .int .i64 q] 40))) := below_new _ _
  have hlt := World.block_lt_of_cell? _ _ hc
  have hc1 : (W.alloc (.cells #[.int .i64 r, .int .i64 m, .string t, .int .i64 q] 40)).cell? ⟨b, 0, none⟩ = some (.string s) := by rw [HB.out.cell hlt]; exact hc
  clear hc hlt
  show Calls Try.prog 52 #[.agg #[.int .i64 r, .int .i64 m, .string t, .int .i64 q], .pointer (some ⟨b, 0, none⟩)] W _
  go_enter Try.func52, Try.ntmps52
  go_wp2_with fail
  go_ret
  exact ⟨rfl, HB.out⟩
/-- a list and an error are handed back -/
def GivesEE (w w' : World) (x : Ending) (L : List En) (er : Int) : Prop := ∃ ao n c, x = .returned (.tuple #[.slice ao n c, .int .i64 er]) ∧ ESrc w' ao n c L ∧ Below w.heap.size w w' ∧ ∀ ad, ao = some ad → w.heap.size ≤ ad.block
theorem chk_cases (L : List En) : chk L = 0 ∨ chk L = 1 := by unfold chk; split <;> simp
/-- Of's answer -/
def ofE (L : List En) (s : ByteArray) : Int := if chk L = 0 then (if good s.data.toList = true then 0 else 5) else 1
def ofV (L : List En) (s : ByteArray) : List En := if ofE L s = 0 then L.filter (fun e => eqS e.sku s) else []
def owE (L : List En) (r : Int) (s : ByteArray) : Int := if chk L = 0 then (if isR r = true then (if good s.data.toList = true then 0 else 5) else 3) else 1
def owV (L : List En) (r : Int) (s : ByteArray) : List En := if owE L r s = 0 then L.filter (fun e => e.rep == r && eqS e.sku s) else []

set_option maxHeartbeats 1600000 in
theorem of_any (ao : Option Addr) (n cap : Nat) (L : List En) (s : ByteArray) (w : World) (hS : ESrc w ao n cap L) (hs : s.size ≤ maxLen) :
    Calls Try.prog 34 #[.slice ao n cap, .string s] w fun x w' => GivesEE w w' x (ofV L s) (ofE L s) := by
  have B0 := hide (below_new w (.cells #[.string s] 9))
  have S0 := hide (hS.below B0.out)
  have c0 : (w.alloc (.cells #[.string s] 9)).cell? ⟨w.heap.size, 0, none⟩ = some (.string s) := by simp
  have HC0 := hide c0
  have HSs := hide hs
  obtain ⟨w0, Hw0⟩ : ∃ w0, Hid (w.alloc (.cells #[.string s] 9) = w0) := ⟨_, rfl⟩
  rw [Hw0.out] at B0 S0 HC0
  clear hS hs c0
  go_enter Try.func34, Try.ntmps34
  go_wp2_with fail
  rw [Hw0.out]
  refine (lcheck_any _ _ _ L _ S0.out).mono ?_
  rintro x w1 ⟨rfl, b1⟩
  have B1 := hide (B0.out.trans (b1.mono B0.out.size))
  have S1 := hide (S0.out.below b1)
  have c1 : w1.cell? ⟨w.heap.size, 0, none⟩ = some (.string s) := by rw [b1.cell (World.block_lt_of_cell? _ _ HC0.out)]; exact HC0.out
  clear b1 S0 B0 HC0 Hw0
  rcases chk_cases L with h | h
  · rw [h]
    obtain ⟨gd, Hg⟩ : ∃ gd, Hid (good s.data.toList = gd) := ⟨_, rfl⟩
    cases gd with
    | false =>
      have HE : Hid (ofE L s = 5) := by show _ = _; unfold ofE; rw [if_pos h, Hg.out]; rfl
      have HV : Hid (ofV L s = []) := by show _ = _; unfold ofV; rw [HE.out]; rfl
      clear h
      go_wp2_with (go_at_call 50; refine (good_any s _ HSs.out).mono ?_; rintro e w' ⟨rfl, rfl⟩; rw [Hg.out])
      go_ret2
      rw [HE.out, HV.out]
      exact ⟨_, _, _, rfl, ESrc.none _, B1.out, fun ad h => by cases h⟩
    | true =>
      have HE : Hid (ofE L s = 0) := by show _ = _; unfold ofE; rw [if_pos h, Hg.out]; rfl
      have HV : Hid (ofV L s = L.filter (fun e => eqS e.sku s)) := by show _ = _; unfold ofV; rw [HE.out]; rfl
      clear h
      have HP : Hid (∀ W, Below w1.heap.size w1 W → ∀ e, Calls Try.prog 52 #[EV e, .pointer (some ⟨w.heap.size, 0, none⟩)] W fun x w' => x = .returned (.bool (eqS e.sku s)) ∧ Below W.heap.size W w') := fun W hW e =>
        ofLit_any e w.heap.size s W (by rw [hW.cell (World.block_lt_of_cell? _ _ c1)]; exact c1)
      go_wp2_with (first | (go_at_call 50; refine (good_any s _ HSs.out).mono ?_; rintro e w' ⟨rfl, rfl⟩; rw [Hg.out]) | (go_at_call 51; refine (pickOf_any _ _ _ L w.heap.size (fun e => eqS e.sku s) _ S1.out HP.out).mono ?_; rintro x w2 ⟨a2, n2, q2, rfl, S2, b2, F2⟩))
      go_ret2
      rw [HE.out, HV.out]
      exact ⟨_, _, _, rfl, S2, B1.out.trans (b2.mono B1.out.size), fun ad h => Nat.le_trans B1.out.size (F2 ad h)⟩
  · have HE : Hid (ofE L s = 1) := by show _ = _; unfold ofE; rw [h]; rfl
    have HV : Hid (ofV L s = []) := by show _ = _; unfold ofV; rw [HE.out]; rfl
    rw [h]
    clear h
    go_wp2_with fail
    go_ret2
    rw [HE.out, HV.out]
    exact ⟨_, _, _, rfl, ESrc.none _, B1.out, fun ad h => by cases h⟩
end Go.Proofs.Ytmhdhedjeaaciaa
