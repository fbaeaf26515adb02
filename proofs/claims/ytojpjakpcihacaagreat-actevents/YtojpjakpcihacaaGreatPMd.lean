/- Dots of a past, plain; truth values handed back. -/
import Derived.Test.YtojpjakpcihacaaGreatPPl
namespace Go.Proofs.YtojpjakpcihacaaGreat
open Go.RowKit

def BIf (x : Bool) (P : Prop) : Prop := x = true ↔ P
theorem BIf.out {x : Bool} {P : Prop} (h : BIf x P) : x = true ↔ P := h
theorem BIf.yes {P : Prop} (h : P) : BIf true P := ⟨fun _ => h, fun _ => rfl⟩
theorem BIf.no {P : Prop} (h : ¬ P) : BIf false P := ⟨(fun e => by cases e), fun e => absurd e h⟩
/-- a bool is handed back; old memory stands -/
def GivB (w w' : World) (e : Ending) (P : Prop) : Prop := ∃ b, e = .returned (.bool b) ∧ BIf b P ∧ Below w.heap.size w w'
/-- the dot (replica, number) is in the past -/
def dotIn (P : Pst) (d : Rn) : Prop := V.isR d.lo = true ∧ mem (runsAt P d.lo.toNat) d.hi
theorem mem_runs (P : Pst) (r : Nat) (hr : r < 16) (n : Int) : mem (runsAt P r) n ↔ 1 ≤ n ∧ n ≤ 1000000000 ∧ (n ≤ P.vec.getD r 0 ∨ ∃ c, c ∈ P.cloud ∧ c.rep = (r : Int) ∧ c.lo ≤ n ∧ n ≤ c.hi) := by
  unfold runsAt
  rw [mem_append]
  have hv : mem (vecPart (V.at' P.vec r)) n ↔ 1 ≤ n ∧ n ≤ 1000000000 ∧ n ≤ P.vec.getD r 0 := by
    unfold vecPart V.at' V.clamp
    rw [if_pos hr]
    generalize P.vec.getD r 0 = z
    by_cases h1 : z < 0
    · simp only [if_pos h1]
      rw [if_neg (by omega)]
      exact ⟨fun h => absurd h (mem_nil n), fun h => by omega⟩
    · by_cases h2 : 1000000000 < z
      · simp only [if_neg h1, if_pos h2]
        rw [if_pos (by omega), mem_one]
        exact ⟨fun h => by simp only at h; omega, fun h => by simp only; omega⟩
      · simp only [if_neg h1, if_neg h2]
        by_cases h3 : 0 < z
        · rw [if_pos h3, mem_one]
          exact ⟨fun h => by simp only at h; omega, fun h => by simp only; omega⟩
        · rw [if_neg h3]
          exact ⟨fun h => absurd h (mem_nil n), fun h => by omega⟩
  have hc : mem (cloudPart P.cloud r) n ↔ 1 ≤ n ∧ n ≤ 1000000000 ∧ ∃ c, c ∈ P.cloud ∧ c.rep = (r : Int) ∧ c.lo ≤ n ∧ n ≤ c.hi := by
    unfold cloudPart mem
    refine and_congr_right fun _ => and_congr_right fun _ => ?_
    constructor
    · rintro ⟨x, hx, e⟩
      obtain ⟨c, hc, rfl⟩ := List.mem_map.1 hx
      obtain ⟨h1, h2⟩ := List.mem_filter.1 hc
      exact ⟨c, h1, of_decide_eq_true h2, e⟩
    · rintro ⟨c, hc, h1, h2⟩
      exact ⟨⟨c.lo, c.hi⟩, List.mem_map.2 ⟨c, List.mem_filter.2 ⟨hc, decide_eq_true h1⟩, rfl⟩, h2⟩
  rw [hv, hc]
  constructor
  · rintro (⟨h1, h2, h3⟩ | ⟨h1, h2, h3⟩)
    · exact ⟨h1, h2, Or.inl h3⟩
    · exact ⟨h1, h2, Or.inr h3⟩
  · rintro ⟨h1, h2, h3 | h3⟩
    · exact Or.inl ⟨h1, h2, h3⟩
    · exact Or.inr ⟨h1, h2, h3⟩
theorem dotIn_iff (P : Pst) (d : Rn) : dotIn P d ↔ 0 ≤ d.lo ∧ d.lo < 16 ∧ 1 ≤ d.hi ∧ d.hi ≤ 1000000000 ∧ (d.hi ≤ P.vec.getD d.lo.toNat 0 ∨ ∃ c, c ∈ P.cloud ∧ c.rep = d.lo ∧ c.lo ≤ d.hi ∧ d.hi ≤ c.hi) := by
  unfold dotIn
  by_cases h : 0 ≤ d.lo ∧ d.lo < 16
  · have e : V.isR d.lo = true := by simp [V.isR]; exact h
    have e2 : ((d.lo.toNat : Nat) : Int) = d.lo := by omega
    rw [mem_runs P _ (by omega), e2]
    simp [e, h.1, h.2]
  · have e : ¬ V.isR d.lo = true := by simp [V.isR]; omega
    exact ⟨fun g => absurd g.1 e, fun g => absurd ⟨g.1, g.2.1⟩ h⟩
/-- the span has the dot -/
def inSpan (d : Rn) (c : Sn) : Prop := c.rep = d.lo ∧ c.lo ≤ d.hi ∧ d.hi ≤ c.hi
theorem snat_field {w : World} {p : Addr} {s : Sn} (A : SnAt w p s) : w.cell? (p.add 0) = some (.int .i64 s.rep) := by rw [add_zero]; exact A.c0
theorem ssrc_mem {w : World} {ao : Option Addr} {m c : Nat} {L : List Sn} (S : SSrc w ao m c L) {x : Sn} (h : x ∈ L) : ∃ t, t < m ∧ L.getD t sn0 = x := by
  obtain ⟨t, ht, e⟩ := List.getElem_of_mem h
  exact ⟨t, by rw [← S.len]; exact ht, by simp [List.getD, ht, e]⟩
end Go.Proofs.YtojpjakpcihacaaGreat
