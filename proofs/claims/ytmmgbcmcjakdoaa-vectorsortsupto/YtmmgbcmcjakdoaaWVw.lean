/- An argument of type [][]int, of small bulk, opened. -/
import Derived.Test.YtmmgbcmcjakdoaaWRi
import Derived.ProofKit
import Derived.OpenShut
import Derived.Lib.SmallJoins
import Derived.HandedShaped
import Derived.SizedLaws
import Derived.ChangeMaps5
import Derived.JoinedCond
import Derived.Deep.Matrix
namespace Go.Proofs.Ytmmgbcmcjakdoaa
open Go.ChangeShapes Go.WideShapes Go.ChangeAt Go.RowKit Go.Joins Go.Deep V

theorem own : ownKnob Try.prog.godebug = none := by kernel_rfl
theorem laidOut : laidOutB Try.prog = true := by kernel_rfl
theorem cellsI : Try.prog.cellsOf 3 = 1 := by kernel_rfl
theorem cellsV : Try.prog.cellsOf 24 = 1 := by kernel_rfl
theorem bulk_pos {H : Type} (d : DataW H) : 1 ≤ Rows.uptoBulk d := by
  cases d with
  | lit l => cases l <;> simp only [Rows.uptoBulk] <;> omega
  | _ => simp only [Rows.uptoBulk] <;> omega
theorem bulk_len {H : Type} : ∀ (l : List (DataW H)), l.length ≤ Rows.uptoBulkAll l
  | [] => by simp
  | d :: l => by have := bulk_len l; have := bulk_pos d; simp only [Rows.uptoBulkAll, List.length_cons]; omega
theorem viewV {H : Type} {enc : TypeId × Value → H} {W : World} {a0 : Option Addr} {len cap : Nat} {d : DataW H} {p : List MemPlace}
    (h : DataW.Trod enc Try.prog W 0 (fun _ => true) true 22 (Value.slice a0 len cap) d p) (hw : Rows.uptoBulk d ≤ 1048576) :
    ∃ X, VRow W a0 len X ∧ len ≤ 1048576 := by
  obtain ⟨fuel, hf⟩ := h
  rcases open_int_rows Try.underlying22 Try.underlying24 Try.underlying3 cellsV cellsI hf with ⟨hcs, hx⟩ | ⟨a, len', cap', A, L, C, Z, hcs, _, hl, hm, hx, hr⟩
  · simp [Value.cells] at hcs
    obtain ⟨rfl, rfl, rfl⟩ := hcs
    exact ⟨[], ⟨rfl, fun _ => rfl, (fun ad h => by cases h), (fun p h => by cases h)⟩, Nat.zero_le _⟩
  · simp [Value.cells] at hcs
    obtain ⟨rfl, rfl, rfl⟩ := hcs
    simp only [Prod.mk.injEq] at hx
    obtain ⟨rfl, _⟩ := hx
    simp only [Rows.uptoBulk] at hw
    have hb : len ≤ 1048576 := by
      have h1 := bulk_len ((List.range len).map fun r => intRow (H := H) .i64 (A r) (L r) (Z r))
      simp only [List.length_map, List.length_range] at h1
      omega
    have src : ∀ t, t < len → Src W (A t) (L t) (C t) ((Z t).take (L t)) := fun t ht => by
      obtain ⟨_, h1, h2, h3, _, h5, h6⟩ := hr t (by omega)
      refine ⟨by simp; omega, fun hn => ?_, fun ad hh j hj => ?_⟩
      · have := h5 hn; omega
      · rw [(h6 ad hh).2 j (by omega)]
        simp [List.getD, hj]
    refine ⟨(List.range len).map (fun t => ⟨A t, L t, C t, (Z t).take (L t)⟩), ⟨by simp, (fun h => by cases h), fun ad hh t q hq => ?_, fun q hq => ?_⟩, hb⟩
    · obtain rfl := Option.some.inj hh
      rw [List.getElem?_map, Option.map_eq_some_iff] at hq
      obtain ⟨t', ht', rfl⟩ := hq
      obtain ⟨h1, h2⟩ := List.getElem?_eq_some_iff.1 ht'
      have e : t = t' := by simpa using h2
      subst e
      exact (hr t (by simp at h1; omega)).1
    · obtain ⟨t, ht, rfl⟩ := List.mem_map.1 hq
      exact src t (by simpa using ht)
end Go.Proofs.Ytmmgbcmcjakdoaa
