/- isRep, At, meant: their contracts. -/
import Derived.Test.YtdilejbdkhkifaaRows
import Derived.WalkKit
import Derived.WalkSpells
import Derived.Deep.QuietTactic
import Derived.BigQuiet
namespace Go.Proofs.Ytdilejbdkhkifaa
open Go.RowKit

theorem hide {p : Prop} (h : p) : Hid p := h
theorem ret_bool {a b : Bool} (h : a = b) : Ending.returned (.bool a) = .returned (.bool b) := by rw [h]
theorem ret_int {k : IntKind} {a b : Int} (h : a = b) : Ending.returned (.int k a) = .returned (.int k b) := by rw [h]

/-- a list that was handed in: its numbers, nil or not -/
def Src (w : World) (ao : Option Addr) (m c : Nat) (Z : List Int) : Prop :=
  Z.length = m ∧ (ao = none → m = 0 ∧ c = 0) ∧ ∀ ad, ao = some ad → ∀ t, t < m → w.cell? (ad.add t) = some (.int .i64 (Z.getD t 0))
theorem Src.below {w w' : World} {ao : Option Addr} {m c : Nat} {Z : List Int} (h : Src w ao m c Z) (hb : Below w.heap.size w w') : Src w' ao m c Z :=
  ⟨h.1, h.2.1, fun ad ha t ht => (hb.cell (World.block_lt_of_cell? w _ (h.2.2 ad ha t ht))).trans (h.2.2 ad ha t ht)⟩

def isR (r : Int) : Bool := decide (0 ≤ r) && decide (r < 16)
/-- a number, brought between 0 and 1000000000 -/
def clamp (z : Int) : Int := if z < 0 then 0 else if 1000000000 < z then 1000000000 else z
/-- the number at a replica -/
def at' (Z : List Int) (r : Nat) : Int := if r < 16 then clamp (Z.getD r 0) else 0
def atI (Z : List Int) (r : Int) : Int := if isR r = true then at' Z r.toNat else 0

theorem isRep_any (r : Int) (w : World) : Calls Try.prog 43 #[.int .i64 r] w fun e w' => e = .returned (.bool (isR r)) ∧ w' = w := by
  go_enter Try.func43, Try.ntmps43
  by_cases h0 : 0 ≤ r
  · have HR : Hid (isR r = decide (r < 16)) := by show _ = _; unfold isR; rw [decide_eq_true h0, Bool.true_and]
    go_wp2
    go_ret
    exact ⟨ret_bool HR.out.symm, rfl⟩
  · have HR : Hid (isR r = false) := by show _ = _; unfold isR; rw [decide_eq_false h0, Bool.false_and]
    go_wp2
    go_ret
    exact ⟨ret_bool HR.out.symm, rfl⟩

theorem at_any (ao : Option Addr) (n cap : Nat) (Z : List Int) (r : Int) (w : World) (hS : Src w ao n cap Z) :
    Calls Try.prog 17 #[.slice ao n cap, .int .i64 r] w fun e w' => e = .returned (.int .i64 (atI Z r)) ∧ w' = w := by
  obtain ⟨x, Hx⟩ : ∃ x, Hid (isR r = x) := ⟨_, rfl⟩
  cases x with
  | false =>
    have HA : Hid (atI Z r = 0) := by show _ = _; unfold atI; rw [Hx.out]; rfl
    go_enter Try.func17, Try.ntmps17
    go_wp2_with (go_at_call 43; refine (isRep_any r _).mono ?_; rintro e w' ⟨rfl, rfl⟩; rw [Hx.out])
    go_ret
    exact ⟨ret_int HA.out.symm, rfl⟩
  | true =>
    have hr : 0 ≤ r ∧ r < 16 := by have := Hx.out; unfold isR at this; simpa using this
    have HA : Hid (atI Z r = clamp (Z.getD r.toNat 0)) := by show _ = _; unfold atI at'; rw [if_pos Hx.out, if_pos (by omega)]
    obtain ⟨k, rfl⟩ : ∃ k : Nat, r = k := ⟨r.toNat, by omega⟩
    rw [Int.toNat_natCast] at HA
    by_cases hlt : k < n
    · cases ao with
      | none => have := hS.2.1 rfl; omega
      | some ad =>
        have hcell := hS.2.2 ad rfl k hlt
        obtain ⟨z, hz⟩ : ∃ z, Z.getD k 0 = z := ⟨_, rfl⟩
        rw [hz] at hcell HA
        clear hz hS
        by_cases h1 : z < 0
        · have HC : Hid (atI Z k = 0) := by show _ = _; rw [HA.out]; unfold clamp; rw [if_pos h1]
          go_enter Try.func17, Try.ntmps17
          go_wp2_with (go_at_call 43; refine (isRep_any k _).mono ?_; rintro e w' ⟨rfl, rfl⟩; rw [Hx.out])
          go_ret
          exact ⟨ret_int HC.out.symm, rfl⟩
        · by_cases h2 : 1000000000 < z
          · have HC : Hid (atI Z k = 1000000000) := by show _ = _; rw [HA.out]; unfold clamp; rw [if_neg h1, if_pos h2]
            go_enter Try.func17, Try.ntmps17
            go_wp2_with (go_at_call 43; refine (isRep_any k _).mono ?_; rintro e w' ⟨rfl, rfl⟩; rw [Hx.out])
            go_ret
            exact ⟨ret_int HC.out.symm, rfl⟩
          · have HC : Hid (atI Z k = z) := by show _ = _; rw [HA.out]; unfold clamp; rw [if_neg h1, if_neg h2]
            go_enter Try.func17, Try.ntmps17
            go_wp2_with (go_at_call 43; refine (isRep_any k _).mono ?_; rintro e w' ⟨rfl, rfl⟩; rw [Hx.out])
            go_ret
            exact ⟨ret_int HC.out.symm, rfl⟩
    · have HC : Hid (atI Z k = 0) := by
        show _ = _; rw [HA.out, List.getD, List.getElem?_eq_none (by have := hS.1; omega)]; rfl
      go_enter Try.func17, Try.ntmps17
      go_wp2_with (go_at_call 43; refine (isRep_any k _).mono ?_; rintro e w' ⟨rfl, rfl⟩; rw [Hx.out])
      go_ret
      exact ⟨ret_int HC.out.symm, rfl⟩

end Go.Proofs.Ytdilejbdkhkifaa
