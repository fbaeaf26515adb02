/- Plain: what a script is printed as. -/
import Derived.Test.YtpnnlfhknnnfhaaGreatDoorJSt
import Derived.Test.YtpnnlfhknnnfhaaGreatDoorJSb
import Derived.Test.YtpnnlfhknnnfhaaGreatDoorJBy
import Derived.Lib.Join
import Derived.Laws.BytesArg
namespace Go.Proofs.YtpnnlfhknnnfhaaGreatDoor
open Go.RowKit T Y

/-- bytes as numbers -/
def nI (l : List UInt8) : List Int := l.map fun c => (c.toNat : Int)
theorem nI_app (a b : List UInt8) : nI (a ++ b) = nI a ++ nI b := by simp [nI]
theorem nI_len (a : List UInt8) : (nI a).length = a.length := by simp [nI]
theorem str_nI (l : List UInt8) : strOfNums (nI l) = bs l := by
  unfold strOfNums nI bs
  rw [List.map_map]
  have : ((fun n : Int => UInt8.ofNat n.toNat) ∘ fun c : UInt8 => (c.toNat : Int)) = id := by
    funext c
    simp
  rw [this, List.map_id]
def hexL : List UInt8 := [48, 49, 50, 51, 52, 53, 54, 55, 56, 57, 97, 98, 99, 100, 101, 102]
def hx (n : Nat) : UInt8 := hexL.getD n 0
/-- may the byte stand for itself between quotes? -/
def selfB (c : UInt8) : Bool := decide (33 ≤ (c.toNat : Int)) && decide ((c.toNat : Int) ≤ 126) && !((c.toNat : Int) == 34) && !((c.toNat : Int) == 92)
def qb (c : UInt8) : List UInt8 := if selfB c then [c] else [92, 120, hx (c.toNat / 16), hx (c.toNat % 16)]
def qbs (l : List UInt8) : List UInt8 := (l.map qb).flatten
/-- a SKU's word -/
def skT (l : List UInt8) : List UInt8 := if good l then l else [34] ++ qbs l ++ [34]
theorem qbs_snoc (l : List UInt8) (c : UInt8) : qbs (l ++ [c]) = qbs l ++ qb c := by simp [qbs]
theorem qb_len (c : UInt8) : (qb c).length ≤ 4 := by unfold qb; split <;> simp
theorem qbs_len (l : List UInt8) : (qbs l).length ≤ 4 * l.length := by
  induction l with
  | nil => simp [qbs]
  | cons c l ih =>
    have e : qbs (c :: l) = qb c ++ qbs l := by simp [qbs]
    have := qb_len c
    rw [e, List.length_append, List.length_cons]
    omega
theorem skT_len (l : List UInt8) : (skT l).length ≤ 4 * l.length + 2 := by
  unfold skT
  split
  · omega
  · have := qbs_len l; simp; omega
/-- words and shapes of the kinds: k r c t s q n = 107 114 99 116 115 113 110 -/
def shp : List (List UInt8 × List UInt8) := [([111, 112], [107]), ([115, 101, 116], [114, 99, 115, 113]), ([97, 100, 100], [114, 99, 115, 113]), ([114, 101, 109, 111, 118, 101], [114, 99, 115]), ([114, 101, 109, 111, 118, 101, 116, 111], [114, 115, 110]), ([99, 108, 101, 97, 114], [114, 99]), ([99, 108, 101, 97, 114, 116, 111], [114, 110]), ([114, 101, 97, 100], [114, 99]), ([115, 121, 110, 99], [114, 116]), ([102, 117, 108, 108], [114, 116]), ([97, 115, 107], [114, 116]), ([100, 101, 108, 105, 118, 101, 114], [110]), ([99, 111, 112, 121], [110]), ([100, 114, 111, 112], [110]), ([116, 114, 105, 109], [110, 113]), ([114, 101, 115, 116, 97, 114, 116], [114]), ([112, 117, 115, 104], [114, 116, 110])]
/-- the kind as a place of the table -/
def kdN (k : Int) : Nat := if 1 ≤ k ∧ k ≤ 16 then k.toNat else 0
def wrdL (k : Int) : List UInt8 := (shp.getD (kdN k) ([], [])).1
def fdsL (k : Int) : List UInt8 := (shp.getD (kdN k) ([], [])).2
/-- a number field -/
def fdN (o : Sp) (f : UInt8) : Int := if f.toNat = 107 then o.kind else if f.toNat = 114 then o.rep else if f.toNat = 99 then o.cart else if f.toNat = 116 then o.dst else if f.toNat = 113 then o.qty else o.nr
/-- a field's word -/
def fdT (o : Sp) (f : UInt8) : List UInt8 := if f.toNat = 115 then skT o.sku.data.toList else num (fdN o f)
/-- words with blanks ahead of them -/
def fdsT (o : Sp) (l : List UInt8) : List UInt8 := (l.map fun f => [32] ++ fdT o f).flatten
def opT (o : Sp) : List UInt8 := wrdL o.kind ++ fdsT o (fdsL o.kind)
def numsT (l : List Int) : List UInt8 := (l.map fun n => [32] ++ num n).flatten
def storeL : List UInt8 := [115, 116, 111, 114, 101]
def opsT (L : List Sp) : List UInt8 := (L.map fun o => opT o ++ [10]).flatten
def printT (h : List Int) (L : List Sp) : List UInt8 := storeL ++ numsT h ++ [10] ++ opsT L
theorem fdsT_snoc (o : Sp) (l : List UInt8) (f : UInt8) : fdsT o (l ++ [f]) = fdsT o l ++ ([32] ++ fdT o f) := by simp [fdsT]
theorem numsT_snoc (l : List Int) (n : Int) : numsT (l ++ [n]) = numsT l ++ ([32] ++ num n) := by simp [numsT]
theorem opsT_snoc (L : List Sp) (o : Sp) : opsT (L ++ [o]) = opsT L ++ (opT o ++ [10]) := by simp [opsT]
theorem join_sp (x : List UInt8) (r : List (List UInt8)) (sep : List UInt8) : Lib.join (x :: r) sep = x ++ (r.map (sep ++ ·)).flatten := by rw [Lib.join_cons]; rfl
theorem fds_small : ∀ i, i < 17 → ((shp.getD i ([], [])).2).length ≤ 4 ∧ ((shp.getD i ([], [])).1).length ≤ 8 := by decide
theorem kdN_lt (k : Int) : kdN k < 17 := by unfold kdN; split <;> omega
end Go.Proofs.YtpnnlfhknnnfhaaGreatDoor
