/- VectorLatest: an argument of type [][]int opened; the row, for every input. -/
import Derived.Test.YtibmlkegadcodaaWLb
import Derived.ProofKit
import Derived.OpenShut
import Derived.Lib.SmallJoins
import Derived.HandedShaped
import Derived.SizedLaws
import Derived.ChangeMaps5
import Derived.JoinedCond
import Derived.Deep.Matrix
namespace Go.Proofs.Ytibmlkegadcodaa
open Go.ChangeShapes Go.WideShapes Go.ChangeAt Go.RowKit Go.Joins Go.Deep V

theorem own : ownKnob Try.prog.godebug = none := by kernel_rfl
theorem laidOut : laidOutB Try.prog = true := by kernel_rfl
theorem cellsI : Try.prog.cellsOf 3 = 1 := by kernel_rfl
theorem cellsV : Try.prog.cellsOf 24 = 1 := by kernel_rfl
/-- an argument of type [][]int, whatever its size -/
theorem viewF {H : Type} {enc : TypeId × Value → H} {W : World} {a0 : Option Addr} {len cap : Nat} {d : DataW H} {p : List MemPlace}
    (h : DataW.Trod enc Try.prog W 0 (fun _ => true) true 22 (Value.slice a0 len cap) d p) :
    ∃ X, VRow W a0 len X := by
  obtain ⟨fuel, hf⟩ := h
  rcases open_int_rows Try.underlying22 Try.underlying24 Try.underlying3 cellsV cellsI hf with ⟨hcs, hx⟩ | ⟨a, len', cap', A, L, C, Z, hcs, _, hl, hm, hx, hr⟩
  · simp [Value.cells] at hcs
    obtain ⟨rfl, rfl, rfl⟩ := hcs
    exact ⟨[], ⟨rfl, fun _ => rfl, (fun ad h => by cases h), (fun p h => by cases h)⟩⟩
  · simp [Value.cells] at hcs
    obtain ⟨rfl, rfl, rfl⟩ := hcs
    simp only [Prod.mk.injEq] at hx
    obtain ⟨rfl, _⟩ := hx
    have src : ∀ t, t < len → Src W (A t) (L t) (C t) ((Z t).take (L t)) := fun t ht => by
      obtain ⟨_, h1, h2, h3, _, h5, h6⟩ := hr t (by omega)
      refine ⟨by simp; omega, fun hn => ?_, fun ad hh j hj => ?_⟩
      · have := h5 hn; omega
      · rw [(h6 ad hh).2 j (by omega)]
        simp [List.getD, hj]
    refine ⟨(List.range len).map (fun t => ⟨A t, L t, C t, (Z t).take (L t)⟩), ⟨by simp, (fun h => by cases h), fun ad hh t q hq => ?_, fun q hq => ?_⟩⟩
    · obtain rfl := Option.some.inj hh
      rw [List.getElem?_map, Option.map_eq_some_iff] at hq
      obtain ⟨t', ht', rfl⟩ := hq
      obtain ⟨h1, h2⟩ := List.getElem?_eq_some_iff.1 ht'
      have e : t = t' := by simpa using h2
      subst e
      exact (hr t (by simp at h1; omega)).1
    · obtain ⟨t, ht, rfl⟩ := List.mem_map.1 hq
      exact src t (by simpa using ht)
end Go.Proofs.Ytibmlkegadcodaa
namespace Go.Proofs.Ytibmlkegadcodaa.vectorLatest
open Go.ChangeShapes Go.WideShapes Go.ChangeAt Go.RowKit Go.Joins

set_option maxRecDepth 100000 in
theorem lifted (os : Os) (started : os.Started) (H : Type) (enc : TypeId × Value → H) :
    ReturnsInHanded {} Try.checked os 5 .any (Rows.vectorLatestSpec.pre6 enc Try.prog Try.f5 Rows.vectorLatestRow.domain false) (Rows.vectorLatestSpec.post enc Try.prog Try.f5 false true false false) := by
  refine returnsInHanded_of_change_shaped (C := Try.checked) own started (by kernel_rfl) Try.func5
    (ChangeSpec.witness6 (enc := enc) (C := Try.checked) false ⟨#[], #[.slice none 0 0], []⟩ 8 (by kernel_rfl) (by kernel_rfl) (by kernel_rfl) (by kernel_rfl)) ?_
  intro W base args ds gs before hval0 hW _ hz _ _
  have hval : ∀ (j : Nat) t v, Try.f5.params[j]? = some t → args[j]? = some v → Value.okWide Try.prog W .any base t v := hval0
  have hW' := hW
  obtain ⟨p, q, hA0, hV, rfl, hfz, hnd⟩ := hW
  have hA : DataW.TrodAll enc Try.prog W 0 (fun _ => true) true Try.f5.params.toList args.toList ds p := hA0
  rw [Try.params5] at hA hval
  obtain ⟨v0, vs0, d0, ds0, p0, q0, hargs, rfl, rfl, h0, r0⟩ := trodAll_cons hA
  obtain ⟨rfl, rfl, rfl⟩ := trodAll_nil r0
  obtain rfl : args = #[v0] := by cases args; simp_all
  obtain ⟨rfl, rfl⟩ := trodVars_none hV
  obtain ⟨a0, l0, c0, rfl⟩ := okWide_slice Try.underlying22 (hval 0 22 v0 rfl rfl)
  obtain ⟨X0, S0⟩ := viewF h0
  clear hA0 hval0
  simp only [List.append_nil] at hW'
  have hlt : ∀ x ∈ p0, x.block < W.heap.size := fun x hx => hW'.lt x (by simpa using hx)
  refine (latest_any a0 l0 c0 X0 W S0).mono ?_
  rintro e W' ⟨rfl, hnx⟩
  exact ⟨_, rfl, _, _, _, [], _, [], hW', trodAll_cons_mk (shut_bool Try.underlying4 _) trodAll_mk0, (trodAll_cons_mk (Below.trod laidOut (by kernel_rfl) (of_decide_eq_true (by kernel_rfl)) h0 hnx (fun x hx => hlt x (by simp [hx]))) trodAll_mk0), rfl, hnx.frame _, fun h => by cases h⟩
end Go.Proofs.Ytibmlkegadcodaa.vectorLatest
namespace Go.Proofs.Ytibmlkegadcodaa
theorem vectorLatest_holds : Rows.VectorLatestSaid :=
  OpenClaim.holds_of_wide 5 Try.f5 rfl rfl rfl rfl rfl rfl rfl ⟨rfl, rfl, rfl, rfl, rfl⟩ rfl rfl rfl rfl rfl (by kernel_rfl) Try.func5 (by kernel_rfl)
    (of_decide_eq_true (by kernel_rfl)) (by unfold Func.isWrapper; first | (rw [if_pos (by decide +kernel)]; kernel_rfl) | (rw [if_neg (by decide +kernel)]; exact ⟨rfl, rfl⟩))
    (fun os started H enc _ => vectorLatest.lifted os started H enc)
#print axioms vectorLatest_holds
end Go.Proofs.Ytibmlkegadcodaa
