/- QCb -/
import Derived.Test.YtalcmdjiejhkgaaGreatKw01
namespace Go.Proofs.YtalcmdjiejhkgaaGreat

def tin (t : List Int) (n : Int) : Bool := decide (cnt t n % 2 = 1)
def rul (k : Int) (x y : Bool) : Bool := (k == 1 && x && y) || (k == 2 && x && !y)
structure CbI (k : Int) (A B : List Int) (i j : Nat) (t : List Int) (b : Bool) : Prop where
 hi : i <= A.length
 hj : j <= B.length
 tr : t.Pairwise (· < ·)
 tl : ∀ x, x ∈ t -> x ∈ A.take i ++ B.take j
 lt : ∀ x, x ∈ A.take i ++ B.take j -> ∀ y, y ∈ A.drop i ++ B.drop j -> x < y
 ev : ∀ n, tin t n = rul k (tin (A.take i) n) (tin (B.take j) n)
 nw : b = decide (t.length % 2 = 1)
def CombOf (k : Int) (a b c : List Rn) : Prop := form 1 c /\ ∀ n, mem c n ↔ ((k = 1 /\ mem a n /\ mem b n) ∨ (k = 2 /\ mem a n /\ ¬ mem b n))
end Go.Proofs.YtalcmdjiejhkgaaGreat
