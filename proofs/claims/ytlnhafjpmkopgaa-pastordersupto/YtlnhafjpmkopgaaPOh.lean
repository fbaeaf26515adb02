/- PastOrders: what the law's walk needs. -/
import Derived.Test.YtlnhafjpmkopgaaPCe
import Derived.Test.YtlnhafjpmkopgaaPCx
import Derived.Test.YtlnhafjpmkopgaaPLp
namespace Go.Proofs.Ytlnhafjpmkopgaa
open Go.RowKit

theorem build_PC1 (vo : Option Addr) (vn vc : Nat) : (PC pv0).setIfInBounds 0 (.slice vo vn vc) = #[.slice vo vn vc, .slice none 0 0] := rfl
theorem Eqv.symm' {M M' : Nat → Int → Prop} (h : Eqv M M') : Eqv M' M := fun r hr n => (h r hr n).symm
theorem CanonOf.eqv {P P' X : Pst} (h : CanonOf (runsAt P) X) (e : Eqv (mP P) (mP P')) : CanonOf (runsAt P') X := by
  obtain ⟨N, hN, rfl⟩ := h
  exact ⟨N, fun r hr => ⟨(hN r hr).1, fun n => ((hN r hr).2 n).trans (e r hr n)⟩, rfl⟩
theorem CmpOf.congr {P Q P' Q' : Pst} {z : Int} (h : CmpOf P Q z) (e1 : Eqv (mP P) (mP P')) (e2 : Eqv (mP Q) (mP Q')) : CmpOf P' Q' z := by
  obtain ⟨X, Y, hX, hY, rfl⟩ := h
  exact ⟨X, Y, hX.eqv e1, hY.eqv e2, rfl⟩
theorem CmpOf.neg {P Q : Pst} {z : Int} (h : CmpOf P Q z) : CmpOf Q P (-z) := by
  obtain ⟨X, Y, hX, hY, rfl⟩ := h
  exact ⟨Y, X, hY, hX, (cmpP_tot.neg X Y).symm⟩
theorem cmp_self (P : Pst) : CmpOf P P 0 := by
  obtain ⟨X, hX⟩ := canon_ex (runsAt P)
  exact ⟨X, X, hX, hX, ((cmpP_tot.eq X X).2 rfl).symm⟩
theorem cmp_ex (P Q : Pst) : ∃ z, CmpOf P Q z := by
  obtain ⟨X, hX⟩ := canon_ex (runsAt P)
  obtain ⟨Y, hY⟩ := canon_ex (runsAt Q)
  exact ⟨_, X, Y, hX, hY, rfl⟩
theorem CmpOf.rng {P Q : Pst} {z : Int} (h : CmpOf P Q z) : -1 ≤ z ∧ z ≤ 1 := by
  obtain ⟨X, Y, hX, hY, rfl⟩ := h
  have := cmpP_tot.rng X Y
  omega
theorem CmpOf.zero {P Q : Pst} {z : Int} (h : CmpOf P Q z) : z = 0 ↔ Eqv (mP P) (mP Q) := by
  obtain ⟨X, Y, hX, hY, rfl⟩ := h
  rw [cmpP_tot.eq]
  exact (isP_norm hX).iff (isP_norm hY)
theorem CmpOf.tr {P Q R : Pst} {x y z : Int} (h1 : CmpOf P Q x) (h2 : CmpOf Q R y) (h3 : CmpOf P R z) (hx : x ≤ 0) (hy : y ≤ 0) : z ≤ 0 ∧ (z = 0 → x = 0 ∧ y = 0) := by
  obtain ⟨X, Y, hX, hY, rfl⟩ := h1
  obtain ⟨Y', Z, hY', hZ, rfl⟩ := h2
  obtain ⟨X', Z', hX', hZ', rfl⟩ := h3
  obtain rfl := hX.unique hX' (fun _ _ _ => Iff.rfl)
  obtain rfl := hY.unique hY' (fun _ _ _ => Iff.rfl)
  obtain rfl := hZ.unique hZ' (fun _ _ _ => Iff.rfl)
  refine ⟨cmpP_tot.tr _ _ _ hx hy, fun e => ?_⟩
  have := (cmpP_tot.eq X Z).1 e
  subst this
  have := cmpP_tot.neg X Y
  omega
/-- a past of one number -/
def vv1 (g : Nat) (z : Int) : Pv := ⟨some ⟨g, 0, none⟩, 1, 1, none, 0, 0, ⟨[z], []⟩⟩
theorem canon_v1 : Canon ⟨[1], []⟩ := canon_of_chain (by decide) trivial
theorem canon_v2 : Canon ⟨[2], []⟩ := canon_of_chain (by decide) trivial
theorem cmp_12 : CmpOf ⟨[1], []⟩ ⟨[2], []⟩ (-1) := ⟨_, _, canon_v1, canon_v2, by decide⟩
theorem vv1_src {W : World} {g : Nat} {z : Int} (h : V.Src W (some ⟨g, 0, none⟩) 1 1 [z]) : PSrc W (vv1 g z) := ⟨h, SSrc.empty _, by show (1 : Nat) ≤ _; omega⟩
end Go.Proofs.Ytlnhafjpmkopgaa
