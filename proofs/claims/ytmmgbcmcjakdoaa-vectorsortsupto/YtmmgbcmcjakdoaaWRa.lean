/- Rows of lists of numbers; counts within their bounds, compared. -/
import Derived.Test.YtmmgbcmcjakdoaaWSm
namespace Go.Proofs.Ytmmgbcmcjakdoaa
open Go.RowKit V

/-- a list as a value -/
structure Sv where
  vo : Option Addr
  vn : Nat
  vc : Nat
  Z : List Int
abbrev SvV (p : Sv) : Value := .slice p.vo p.vn p.vc
structure VRow (w : World) (ao : Option Addr) (n : Nat) (X : List Sv) : Prop where
  len : X.length = n
  nil : ao = none → n = 0
  cell : ∀ ad, ao = some ad → ∀ t p, X[t]? = some p → w.cell? (ad.add t) = some (SvV p)
  src : ∀ p, p ∈ X → Src w p.vo p.vn p.vc p.Z
theorem VRow.below {w w' : World} {ao : Option Addr} {n : Nat} {X : List Sv} (h : VRow w ao n X) (hb : Below w.heap.size w w') : VRow w' ao n X :=
  ⟨h.len, h.nil, fun ad e t p hp => (hb.cell (World.block_lt_of_cell? _ _ (h.cell ad e t p hp))).trans (h.cell ad e t p hp), fun p hp => (h.src p hp).below hb⟩
theorem VRow.at {w : World} {ao : Option Addr} {n : Nat} {X : List Sv} (h : VRow w ao n X) (k : Nat) (hk : k < n) : ∃ ad p, ao = some ad ∧ X[k]? = some p ∧ w.cell? (ad.add k) = some (SvV p) ∧ Src w p.vo p.vn p.vc p.Z := by
  have hk' : k < X.length := by rw [h.len]; exact hk
  cases ao with
  | none => have := h.nil rfl; omega
  | some ad => exact ⟨ad, X[k], rfl, List.getElem?_eq_getElem hk', h.cell ad rfl k _ (List.getElem?_eq_getElem hk'), h.src _ (List.getElem_mem hk')⟩
/-- counts within their bounds -/
abbrev Cn := { f : Nat → Int // Bnd f ∧ ∀ r, 16 ≤ r → f r = 0 }
def c0 : Cn := ⟨fun _ => 0, fun _ _ => ⟨Int.le_refl 0, by show (0 : Int) ≤ _; omega⟩, fun _ _ => rfl⟩
instance : Inhabited Cn := ⟨c0⟩
def encC (c : Cn) : List Value := (VC c.1).toList
theorem encC_len (c : Cn) : (encC c).length = 16 := by simp [encC, VC]
def cnOf (p : Sv) : Cn := ⟨at' p.Z, bnd_at p.Z, fun r hr => by unfold at'; rw [if_neg (by omega)]⟩
def cmpC (x y : Cn) : Int := cmpV x.1 y.1
theorem cmpV_tot : Tot (fun (x y : Int × List Int) => both Prod.fst Prod.snd cmpI (lex cmpI) x y) := Tot.both cmpI_tot cmpI_tot.lex (fun _ _ h1 h2 => Prod.ext h1 h2)
theorem cmpC_eq (x y : Cn) : cmpC x y = both Prod.fst Prod.snd cmpI (lex cmpI) (sumN x.1 16, lst x.1) (sumN y.1 16, lst y.1) := rfl
end Go.Proofs.Ytmmgbcmcjakdoaa
