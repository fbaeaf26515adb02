/- dlog's New and At. -/
import Derived.Test.YtgnclfeicgbjpaaDPu
namespace Go.Proofs.Ytgnclfeicgbjpaa
open Go.RowKit
variable {B : Nat} {w w' : World} {g : Nat} {m nx : Int} {Z : List Int} {ao : Option Addr} {cap : Nat}

theorem new_any (x y : Int) (w : World) (hB : B ≤ w.heap.size) : Calls Try.prog 6 #[.int .i64 x, .int .i64 y] w fun e w' =>
    e = .returned (ptr w.heap.size) ∧ Lg B w' w.heap.size (btw x 0 64) (btw y 0 4611686018427387904) [] none 0 ∧ Below w.heap.size w w' := by
  have hL : Hid (Lg B (w.alloc (.cells (GC (btw x 0 64) (btw y 0 4611686018427387904) none 0 0) 47)) w.heap.size (btw x 0 64) (btw y 0 4611686018427387904) [] none 0) :=
    ⟨by rw [heap_alloc_new]; rfl, hB, World.ownsRow_nil _ _ _ _, fun ad e => by cases e⟩
  go_enter Try.func6, Try.ntmps6
  go_wp2_with (go_at_call 17; refine (between_any _ _ _ _).mono ?_; rintro e w' ⟨rfl, rfl⟩)
  go_ret
  exact ⟨rfl, hL.out, below_new _ _⟩
/-- the row's place -/
theorem Lg.place (L : Lg B w g m nx Z ao cap) (h : 0 < Z.length) : ∃ q, ao = some ⟨q, 0, none⟩ ∧ Z.length ≤ cap ∧ cap ≤ maxLen ∧ ∀ t, t < Z.length → w.cell? ⟨q, t, none⟩ = some (.int .i64 (Z.getD t 0)) := by
  rcases L.own.2 with ⟨h0, h00⟩ | ⟨q, cap2, cur, hv, hbg, hgg, hnc, hcm, hcsz, htake⟩
  · omega
  · simp only [Value.slice.injEq] at hv
    obtain ⟨rfl, -, rfl⟩ := hv
    refine ⟨q, rfl, hnc, hcm, fun t ht => ?_⟩
    rw [L.own.cellAt t (by omega), ics_at Z t ht]
/-- the item's number is held -/
def heldB (nx : Int) (Z : List Int) (n : Int) : Bool := decide (nx - Z.length ≤ n ∧ n < nx)
def heldV (nx : Int) (Z : List Int) (n : Int) : Int := if heldB nx Z n = true then Z.getD (n - (nx - Z.length)).toNat 0 else 0
set_option maxRecDepth 100000 in
theorem at_any (w : World) (L : Lg B w g m nx Z ao cap) (D : Bd m nx Z) (n : Int) : Calls Try.prog 13 #[ptr g, .int .i64 n] w fun e w' =>
    e = .returned (.tuple #[.int .i64 (heldV nx Z n), .bool (heldB nx Z n)]) ∧ ∃ q, w' = w.drewN q := by
  have HL := hide L
  have HD := hide D
  by_cases h1 : n < nx - Z.length
  · have HF : Hid (heldB nx Z n = false ∧ heldV nx Z n = 0) := by
      have : heldB nx Z n = false := by unfold heldB; simp; omega
      exact ⟨this, by unfold heldV; rw [this]; rfl⟩
    rw [HF.out.1, HF.out.2]
    clear L D HF
    go_enter Try.func13, Try.ntmps13
    go_wp2_with (go_at_call 10; refine (first_any _ HL.out HD.out).mono ?_; rintro e w' ⟨rfl, q, rfl⟩)
    go_ret2
    exact ⟨rfl, _, rfl⟩
  · by_cases h2 : nx ≤ n
    · have HF : Hid (heldB nx Z n = false ∧ heldV nx Z n = 0) := by
        have : heldB nx Z n = false := by unfold heldB; simp; omega
        exact ⟨this, by unfold heldV; rw [this]; rfl⟩
      rw [HF.out.1, HF.out.2]
      have c1 := L.c1
      clear L D HF
      go_enter Try.func13, Try.ntmps13
      go_wp2_with (go_at_call 10; refine (first_any _ HL.out HD.out).mono ?_; rintro e w' ⟨rfl, q, rfl⟩)
      go_ret2
      exact ⟨rfl, _, rfl⟩
    · obtain ⟨k, hk⟩ : ∃ k : Nat, n - (nx - Z.length) = (k : Int) := ⟨(n - (nx - Z.length)).toNat, by omega⟩
      have hkl : k < Z.length := by omega
      have HF : Hid (heldB nx Z n = true ∧ heldV nx Z n = Z.getD k 0) := by
        have : heldB nx Z n = true := by unfold heldB; simp; omega
        exact ⟨this, by unfold heldV; rw [this, hk]; rfl⟩
      rw [HF.out.1, HF.out.2]
      have hw : wrap64 (n - (nx - Z.length)) = (k : Int) := by rw [hk]; exact w64 (by omega) (by have := D.l; omega)
      obtain ⟨q0, rfl, -, -, hc⟩ := L.place (by omega)
      have HCK := hide (hc k hkl)
      obtain ⟨v, hv⟩ : ∃ v, Z.getD k 0 = v := ⟨_, rfl⟩
      rw [hv] at HCK ⊢
      have c1 := L.c1
      clear L D HF hc hk hv
      go_enter Try.func13, Try.ntmps13
      go_wp2_with (go_at_call 10; refine (first_any _ HL.out HD.out).mono ?_; rintro e w' ⟨rfl, q, rfl⟩)
      obtain ⟨w1, hw1⟩ : ∃ w1, w.drewN q = w1 := ⟨_, rfl⟩
      have L1 := HL.out.drewN q
      have hck : (w.drewN q).cell? ⟨q0, k, none⟩ = some (.int .i64 v) := HCK.out
      rw [hw1] at L1 hck ⊢
      have HL1 := hide L1
      have HQ := hide hw1
      have c2 := L1.c2
      clear L1 HCK c1 hw1 HL
      go_quiet ((go_at_call 10; exact Calls.quiet_of (first_any _ (HL1.out.drewN _) HD.out)))
      go_wp2_with fail
      go_ret2
      exact ⟨rfl, _, by rw [← HQ.out, World.drewN_drewN]⟩
end Go.Proofs.Ytgnclfeicgbjpaa
