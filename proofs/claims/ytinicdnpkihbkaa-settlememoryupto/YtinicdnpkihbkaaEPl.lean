/- Plain: numbers of replicas, pairs. -/
import Derived.Test.YtinicdnpkihbkaaERw
namespace Go.Proofs.Ytinicdnpkihbkaa
open Go.RowKit
theorem ret_int {a b : Int} (h : a = b) : Ending.returned (.int .i64 a) = .returned (.int .i64 b) := by rw [h]
theorem ret_bool {a b : Bool} (h : a = b) : Ending.returned (.bool a) = .returned (.bool b) := by rw [h]
deriving instance DecidableEq for Pr
deriving instance DecidableEq for Qr
/-- a number of replicas, as it counts -/
def clN (r : Int) : Nat := if r < 1 then 1 else if 16 < r then 16 else r.toNat
theorem clN_le (r : Int) : 1 ≤ clN r ∧ clN r ≤ 16 := by unfold clN; split <;> (try split) <;> omega
def toQ (p : Pr) : Qr := ⟨p.f, p.t⟩
/-- the pairs from f to those below k -/
def rowP (f : Nat) : Nat → List Pr
  | 0 => []
  | t + 1 => if f = t then rowP f t else rowP f t ++ [⟨(f : Int), (t : Int)⟩]
/-- the pairs from those below k -/
def pairsP (n : Nat) : Nat → List Pr
  | 0 => []
  | f + 1 => pairsP n f ++ rowP f n
theorem rowP_len (f k : Nat) : (rowP f k).length ≤ k := by
  induction k with
  | zero => simp [rowP]
  | succ k ih => unfold rowP; split <;> (try simp) <;> omega
theorem pairsP_len (n k : Nat) : (pairsP n k).length ≤ k * n := by
  induction k with
  | zero => simp [pairsP]
  | succ k ih =>
    have := rowP_len k n
    rw [pairsP, List.length_append, Nat.succ_mul]
    omega
/-- is the pair one of n replicas? -/
def goodB (n : Int) (f t : Int) : Bool := decide (0 ≤ f ∧ f < n ∧ 0 ≤ t ∧ t < n ∧ f ≠ t)
def refP (n : Nat) : Nat → List Qr
  | 0 => []
  | k + 1 => if goodB n ((k : Int) / 16) ((k : Int) % 16) = true then refP n k ++ [⟨(k : Int) / 16, (k : Int) % 16⟩] else refP n k
theorem refP_len (n k : Nat) : (refP n k).length ≤ k := by
  induction k with
  | zero => simp [refP]
  | succ k ih => unfold refP; split <;> (try simp) <;> omega
theorem pairs_eqF : ∀ n : Fin 17, (pairsP n.val n.val).map toQ = refP n.val 256 := by decide +kernel
theorem pairs_eq (n : Nat) (h : n ≤ 16) : (pairsP n n).map toQ = refP n 256 := pairs_eqF ⟨n, by omega⟩
end Go.Proofs.Ytinicdnpkihbkaa
