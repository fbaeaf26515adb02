/- barrowref07.Clashes. -/
import Derived.Test.YtfpmijfcemopoaaGreatTk
import Derived.Test.YtfpmijfcemopoaaGreatKm00
import Derived.Test.YtfpmijfcemopoaaGreatKb27
namespace Go.Proofs.YtfpmijfcemopoaaGreat.K
open Go.RowKit
attribute [local go_sem ↓] ld28_eq st28_eq ld26_eq run_eq28
theorem eqE_iffK (x y : En) : eqE x y = true ↔ x = y := by
 obtain ⟨a, b, s, q⟩ := x
 obtain ⟨a', b', s', q'⟩ := y
 simp only [eqE, Bool.and_eq_true, beq_iff_eq, En.mk.injEq]
 constructor
 ·rintro ⟨⟨⟨h1, h2⟩, h3⟩, h4⟩
  refine ⟨h1, h2, ?_, h4⟩
  rw [ByteArray.toList_eq, ByteArray.toList_eq] at h3
  exact ByteArray.ext (Array.ext' h3)
 ·rintro ⟨h1, h2, h3, h4⟩
  exact ⟨⟨⟨h1, h2⟩, by rw [h3]⟩, h4⟩
def CwB (B : List En) (x : En) : Prop := ∃ y ∈ B, sameDot x y = true ∧ x ≠ y
theorem CwB.no {B : List En} (hA : Asc B) {x : En} {k : Nat} (hk : k < B.length) (hs : sameDot (B.getD k en0) x = true) : CwB B x ↔ x ≠ B.getD k en0 := by
 have hm : B.getD k en0 ∈ B := by
  have : B.getD k en0 = B[k] := by simp [List.getD, List.getElem?_eq_getElem hk]
  rw [this]; exact List.getElem_mem hk
 constructor
 ·rintro ⟨y, hy, h1, h2⟩ e
  apply h2
  have : sameDot y (B.getD k en0) = true := by rw [← e, same_symm]; exact h1
  have h3 : y = B.getD k en0 := Classical.byContradiction fun hn => asc_noclash hA (fun _ => Iff.rfl) ⟨y, hy, _, hm, this, hn⟩
  rw [h3]; exact e
 ·intro h
  exact ⟨_, hm, by rw [same_symm]; exact hs, h⟩
theorem clash_two {A B : List En} (hA : Asc A) (hB : Asc B) : Clash (A ++ B) ↔ ∃ x ∈ A, CwB B x := by
 constructor
 ·rintro ⟨x, hx, y, hy, hs, hn⟩
  rcases List.mem_append.1 hx with hx | hx <;> rcases List.mem_append.1 hy with hy | hy
  ·exact absurd ⟨x, hx, y, hy, hs, hn⟩ (asc_noclash hA (fun _ => Iff.rfl))
  ·exact ⟨x, hx, y, hy, hs, hn⟩
  ·exact ⟨y, hy, x, hx, by rw [same_symm]; exact hs, fun e => hn e.symm⟩
  ·exact absurd ⟨x, hx, y, hy, hs, hn⟩ (asc_noclash hB (fun _ => Iff.rfl))
 ·rintro ⟨x, hx, y, hy, hs, hn⟩
  exact ⟨x, List.mem_append_left _ hx, y, List.mem_append_right _ hy, hs, hn⟩
def ClA (w w' : World) (x : Ending) (A B : List En) : Prop := ∃ b : Bool, x = .returned (.bool b) ∧ (b = true ↔ Clash (A ++ B)) ∧ Below w.heap.size w w'
set_option maxRecDepth 100000 in
set_option maxHeartbeats 3200000 in
theorem clashes_any (ao bo : Option Addr) (n cap m cap' : Nat) (A B : List En) (w : World) (hS : ESrc w ao n cap A) (hR : ESrc w bo m cap' B) (hA : Asc A) (hB : Asc B) :
  Calls Tryz.prog 74 #[.slice ao n cap, .slice bo m cap'] w fun x w' => ClA w w' x A B := by
 have HS := hide hS
 have HR := hide hR
 have hnb := hS.2.2.2.2
 have hmb := hR.2.2.2.2
 have HL : Hid (A.length = n ∧ B.length = m) := ⟨hS.1, hR.1⟩
 have HA : Hid (Asc A ∧ Asc B) := ⟨hA, hB⟩
 clear hS hR hA hB
 go_enter Tryz.func74, Tryz.ntmps74
 go_wp2_with fail
 go_loopw [5] (fun i wr => ∃ k : Nat, k ≤ n ∧ i = .int .i64 (k : Int) ∧ Hid (Below w.heap.size w wr ∧ ∀ t, t < k → ¬ CwB B (A.getD t en0))) (fun i _ => n - (intOf i).toNat)
 case atStart => exact ⟨0, Nat.zero_le _, rfl, Below.refl _ _, fun t h => absurd h (by omega)⟩
 case round =>
  obtain ⟨k, hk, rfl, HI⟩ := hrel
  rename World => wr
  by_cases hlt : k < n
  ·have hlti : (k : Int) < (n : Int) := by omega
   obtain ⟨ad, hao, A0⟩ := (HS.out.below HI.out.1).at k hlt
   subst hao
   obtain ⟨e, He⟩ : ∃ e, Hid (A.getD k en0 = e) := ⟨_, rfl⟩
   rw [He.out] at A0
   have HA0 := hide A0
   have Hlt := hide hlt
   have l0 := run_ld26 A0
   clear A0 hlt hk
   go_wp2_with fail
   clear l0
   refine (place_any bo m cap' B e _ (HR.out.below HI.out.1) HA.out.2).mono ?_
   rintro x w2 ⟨z, rfl, b2, hz⟩
   have HB2 := hide (HI.out.1.trans (b2.mono HI.out.1.size))
   have HA2 := hide (HA0.out.on b2)
   clear b2
   rcases hz with ⟨rfl, hno⟩ | ⟨j, hj, rfl, hs⟩
   ·have HN : Hid (∀ t, t < k + 1 → ¬ CwB B (A.getD t en0)) := fun t ht => by
     by_cases e1 : t = k
     ·rw [e1, He.out]
      rintro ⟨y, hy, h1, -⟩
      rw [same_symm, hno y hy] at h1
      cases h1
     ·exact HI.out.2 t (by omega)
    clear hno
    go_upto_region 5 with fail
    refine wp_region_held_drew (S := fun _ => True) (by kernel_rfl) (trivial) (fun hHeld => ?_)
    refine wTk 0 ⟨some 20, .move (.tmp 6), 3, "ref.go:248", #[], none⟩ rfl ?_
    refine wTk 1 ⟨some 21, .binOp .geq 3 (.tmp 20) (.const (.int .i64 0)) 3, 4, "ref.go:248", #[⟨0, .data⟩], none⟩ rfl ?_
    refine wTk 2 ⟨some 22, .move (.tmp 21), 4, "ref.go:248", #[⟨1, .data⟩], none⟩ rfl ?_
    refine wSk 3 ⟨some 23, .move (.tmp 0), 23, "ref.go:248", #[⟨2, .guard⟩], some (2, true)⟩ rfl ?_
    refine wSk 4 ⟨some 24, .move (.tmp 5), 3, "ref.go:248", #[⟨2, .guard⟩], some (2, true)⟩ rfl ?_
    refine wSk 5 ⟨some 25, .indexAddr 23 (.tmp 23) (.tmp 24), 0, "ref.go:248", #[⟨3, .data⟩, ⟨4, .data⟩, ⟨2, .guard⟩], some (2, true)⟩ rfl ?_
    refine wSk 6 ⟨some 26, .load 49 (.tmp 25), 49, "ref.go:248", #[⟨5, .data⟩, ⟨2, .guard⟩], some (2, true)⟩ rfl ?_
    refine wSk 7 ⟨some 27, .move (.tmp 1), 23, "ref.go:248", #[⟨2, .guard⟩], some (2, true)⟩ rfl ?_
    refine wSk 8 ⟨some 28, .move (.tmp 6), 3, "ref.go:248", #[⟨2, .guard⟩], some (2, true)⟩ rfl ?_
    refine wSk 9 ⟨some 29, .indexAddr 23 (.tmp 27) (.tmp 28), 0, "ref.go:248", #[⟨7, .data⟩, ⟨8, .data⟩, ⟨2, .guard⟩], some (2, true)⟩ rfl ?_
    refine wSk 10 ⟨some 30, .load 49 (.tmp 29), 49, "ref.go:248", #[⟨9, .data⟩, ⟨2, .guard⟩], some (2, true)⟩ rfl ?_
    refine wSk 11 ⟨some 31, .binOp .neq 49 (.tmp 26) (.tmp 30) 49, 4, "ref.go:248", #[⟨6, .data⟩, ⟨10, .data⟩, ⟨2, .guard⟩], some (2, true)⟩ rfl ?_
    refine wTk 12 ⟨some 32, .pick (.tmp 22) (.tmp 31) (.const (.bool false)), 4, "ref.go:248", #[⟨2, .data⟩, ⟨11, .data⟩], none⟩ rfl ?_
    refine wpAnyH_done (by kernel_rfl) ?_ _
    clear hHeld
    have HBd := hide (HB2.out.trans ((below_drew1 w2).mono HB2.out.size))
    go_wp2_with fail
    go_roundw
    case rel => exact ⟨k + 1, Hlt.out, by simp, HBd.out, HN.out⟩
    case measure => simp [intOf]; have := Hlt.out; omega
   ·have hjm : j < m := by have := HL.out; omega
    have hji : (j : Int) < (m : Int) := by omega
    have hj0 : (0 : Int) ≤ (j : Int) := by omega
    obtain ⟨bd, hbo, B0⟩ := (HR.out.below HB2.out).at j hjm
    subst hbo
    obtain ⟨f, Hf⟩ : ∃ f, Hid (B.getD j en0 = f) := ⟨_, rfl⟩
    rw [Hf.out] at B0
    have HB0 := hide B0
    have HC : Hid (CwB B e ↔ e ≠ f) := by show _ ↔ _; have := CwB.no HA.out.2 hj hs; rw [Hf.out] at this; exact this
    have HSt : Hid (∀ W, Below w2.heap.size w2 W → (ld28 (.pointer (some (ad.add (k * 4))))).run Tryz.prog W = .ok (EV e) W ∧ (ld28 (.pointer (some (bd.add (j * 4))))).run Tryz.prog W = .ok (EV f) W) := fun W hW => ⟨run_ld28 (HA2.out.on hW), run_ld28 (HB0.out.on hW)⟩
    clear B0 hj hs
    go_upto_region 5 with fail
    refine wp_region_held_drew (S := fun W => (ld28 (.pointer (some (ad.add (k * 4))))).run Tryz.prog W = .ok (EV e) W ∧ (ld28 (.pointer (some (bd.add (j * 4))))).run Tryz.prog W = .ok (EV f) W) (by kernel_rfl) (HSt.out _ (below_drew1 w2)) (fun hHeld => ?_)
    refine wTk 0 ⟨some 20, .move (.tmp 6), 3, "ref.go:248", #[], none⟩ rfl ?_
    refine wTk 1 ⟨some 21, .binOp .geq 3 (.tmp 20) (.const (.int .i64 0)) 3, 4, "ref.go:248", #[⟨0, .data⟩], none⟩ rfl ?_
    refine wTk 2 ⟨some 22, .move (.tmp 21), 4, "ref.go:248", #[⟨1, .data⟩], none⟩ rfl ?_
    refine wTk 3 ⟨some 23, .move (.tmp 0), 23, "ref.go:248", #[⟨2, .guard⟩], some (2, true)⟩ rfl ?_
    refine wTk 4 ⟨some 24, .move (.tmp 5), 3, "ref.go:248", #[⟨2, .guard⟩], some (2, true)⟩ rfl ?_
    refine wTk 5 ⟨some 25, .indexAddr 23 (.tmp 23) (.tmp 24), 0, "ref.go:248", #[⟨3, .data⟩, ⟨4, .data⟩, ⟨2, .guard⟩], some (2, true)⟩ rfl ?_
    refine wTk 6 ⟨some 26, .load 49 (.tmp 25), 49, "ref.go:248", #[⟨5, .data⟩, ⟨2, .guard⟩], some (2, true)⟩ rfl ?_
    refine wTk 7 ⟨some 27, .move (.tmp 1), 23, "ref.go:248", #[⟨2, .guard⟩], some (2, true)⟩ rfl ?_
    refine wTk 8 ⟨some 28, .move (.tmp 6), 3, "ref.go:248", #[⟨2, .guard⟩], some (2, true)⟩ rfl ?_
    refine wTk 9 ⟨some 29, .indexAddr 23 (.tmp 27) (.tmp 28), 0, "ref.go:248", #[⟨7, .data⟩, ⟨8, .data⟩, ⟨2, .guard⟩], some (2, true)⟩ rfl ?_
    refine wTk 10 ⟨some 30, .load 49 (.tmp 29), 49, "ref.go:248", #[⟨9, .data⟩, ⟨2, .guard⟩], some (2, true)⟩ rfl ?_
    refine wTk 11 ⟨some 31, .binOp .neq 49 (.tmp 26) (.tmp 30) 49, 4, "ref.go:248", #[⟨6, .data⟩, ⟨10, .data⟩, ⟨2, .guard⟩], some (2, true)⟩ rfl ?_
    refine wTk 12 ⟨some 32, .pick (.tmp 22) (.tmp 31) (.const (.bool false)), 4, "ref.go:248", #[⟨2, .data⟩, ⟨11, .data⟩], none⟩ rfl ?_
    refine wpAnyH_done (by kernel_rfl) ?_ _
    clear hHeld
    have HBd := hide (HB2.out.trans ((below_drew1 w2).mono HB2.out.size))
    cases hq : eqE e f with
    | true =>
     have HN : Hid (∀ t, t < k + 1 → ¬ CwB B (A.getD t en0)) := fun t ht => by
      by_cases e1 : t = k
      ·rw [e1, He.out, HC.out]
       exact fun h => h ((eqE_iffK e f).1 hq)
      ·exact HI.out.2 t (by omega)
     clear hq
     go_wp2_with fail
     go_roundw
     case rel => exact ⟨k + 1, Hlt.out, by simp, HBd.out, HN.out⟩
     case measure => simp [intOf]; have := Hlt.out; omega
    | false =>
     have HE : Hid (ClA w w2.drew (.returned (.bool true)) A B) := by
      refine ⟨true, rfl, ⟨fun _ => ?_, fun _ => rfl⟩, HBd.out⟩
      have hkl : k < A.length := by have := HL.out; have := Hlt.out; omega
      have et : A.getD k en0 = A[k] := by simp [List.getD, List.getElem?_eq_getElem hkl]
      refine (clash_two HA.out.1 HA.out.2).2 ⟨e, by rw [← He.out, et]; exact List.getElem_mem hkl, HC.out.2 (fun h => ?_)⟩
      rw [(eqE_iffK e f).2 h] at hq
      cases hq
     clear hq
     go_wp2_with fail
     go_ret
     exact HE.out
  ·have hlti : ¬ (k : Int) < (n : Int) := by omega
   have HE : Hid (ClA w wr (.returned (.bool false)) A B) := by
    refine ⟨false, rfl, ⟨(fun h => by cases h), fun h => ?_⟩, HI.out.1⟩
    obtain ⟨x, hx, hc⟩ := (clash_two HA.out.1 HA.out.2).1 h
    obtain ⟨t, ht, rfl⟩ := List.getElem_of_mem hx
    have et : A.getD t en0 = A[t] := by simp [List.getD, List.getElem?_eq_getElem ht]
    rw [← et] at hc
    exact absurd hc (HI.out.2 t (by have := HL.out; omega))
   go_wp2_with fail
   go_ret
   exact HE.out
end Go.Proofs.YtfpmijfcemopoaaGreat.K
