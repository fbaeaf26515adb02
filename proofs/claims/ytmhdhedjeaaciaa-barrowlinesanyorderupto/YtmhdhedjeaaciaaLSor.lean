/- Sort and the reference's Sort: their contracts. -/
import Derived.Test.YtmhdhedjeaaciaaLRis
import Derived.Lib.SliceRun
namespace Go.Proofs.Ytmhdhedjeaaciaa
open Go.RowKit Go.Lib
attribute [local go_sem ↓] ld28_eq st28_eq
attribute [local go_sem] zero_EC cells_EV EC_size

/-- the first error of an entry -/
def firstE : List En → Int
  | [] => 0
  | e :: r => if ceE e = 0 then firstE r else ceE e
def okTo (L : List En) (k : Nat) : Prop := ∀ i, i < k → ceE (L.getD i en0) = 0
theorem firstE_ok (L : List En) (h : okTo L L.length) : firstE L = 0 := by
  induction L with
  | nil => rfl
  | cons e r ih =>
    have h0 := h 0 (by simp)
    simp [List.getD] at h0
    rw [firstE, if_pos h0]
    exact ih fun i hi => by have := h (i + 1) (by simpa using hi); simpa [List.getD] using this
theorem firstE_at (L : List En) (k : Nat) (hk : k < L.length) (h : okTo L k) (c : Int) (hc : ceE (L.getD k en0) = c) (h0 : c ≠ 0) : firstE L = c := by
  induction L generalizing k with
  | nil => simp at hk
  | cons e r ih =>
    cases k with
    | zero => simp [List.getD] at hc; rw [firstE, hc, if_neg h0]
    | succ k =>
      have h1 := h 0 (by omega)
      simp [List.getD] at h1
      rw [firstE, if_pos h1]
      exact ih k (by simpa using hk) (fun i hi => by have := h (i + 1) (by omega); simpa [List.getD] using this) (by simpa [List.getD] using hc)
/-- what Sort answers -/
def Sorted (L R : List En) (er : Int) : Prop := (firstE L ≠ 0 ∧ R = [] ∧ er = firstE L) ∨ (firstE L = 0 ∧ Settled L R er)
theorem Sorted.unique {L R R' : List En} {e e' : Int} (h : Sorted L R e) (h' : Sorted L R' e') : R = R' ∧ e = e' := by
  rcases h with ⟨a, b, c⟩ | ⟨a, b⟩
  · rcases h' with ⟨_, b', c'⟩ | ⟨a', _⟩
    · exact ⟨b.trans b'.symm, c.trans c'.symm⟩
    · exact absurd a' a
  · rcases h' with ⟨a', _⟩ | ⟨_, b'⟩
    · exact absurd a a'
    · exact b.unique b'
/-- a list and an error are handed back: the entries sorted -/
def GivesQ (w w' : World) (e : Ending) (L : List En) : Prop := ∃ ao n c R er, e = .returned (.tuple #[.slice ao n c, .int .i64 er]) ∧ ESrc w' ao n c R ∧ Below w.heap.size w w' ∧ (∀ ad, ao = some ad → w.heap.size ≤ ad.block) ∧ Sorted L R er
theorem ESrc.cells {w : World} {ad : Addr} {n cap : Nat} {L : List En} (hS : ESrc w (some ad) n cap L) (j : Nat) (u : Value) (hj : (ecs L)[j]? = some u) : w.cell? (ad.add j) = some u := by
  have hjl : j < L.length * 4 := by have := (List.getElem?_eq_some_iff.1 hj).1; rwa [ecs_length] at this
  have e4 := ecs_at L (j / 4) (j % 4) (by omega) (by omega)
  rw [show j / 4 * 4 + j % 4 = j by omega, hj] at e4
  have A := hS.2.2.1 ad rfl (j / 4) (by rw [← hS.1]; omega)
  have : j % 4 = 0 ∨ j % 4 = 1 ∨ j % 4 = 2 ∨ j % 4 = 3 := by omega
  rcases this with h | h | h | h
  · rw [h] at e4; rw [show j = j / 4 * 4 by omega, A.c0]; exact e4.symm
  · rw [h] at e4; have := A.c1; rw [add_add] at this; rw [show j = j / 4 * 4 + 1 by omega, this]; exact e4.symm
  · rw [h] at e4; have := A.c2; rw [add_add] at this; rw [show j = j / 4 * 4 + 2 by omega, this]; exact e4.symm
  · rw [h] at e4; have := A.c3; rw [add_add] at this; rw [show j = j / 4 * 4 + 3 by omega, this]; exact e4.symm
theorem ecs_onecell (L : List En) : ∀ u ∈ ecs L, u.oneCell' = true := by
  intro u hu
  obtain ⟨l, hl, hv⟩ := List.mem_flatten.1 hu
  obtain ⟨e, _, rfl⟩ := List.mem_map.1 hl
  exact EC_one e u hv
/-- a copy -/
theorem clone_any (ad : Addr) (n cap : Nat) (L : List En) (w : World) (hS : ESrc w (some ad) n cap L) :
    Calls Try.prog 41 #[.slice (some ad) n cap] w fun e w' => ∃ ao c, e = .returned (.slice ao n c) ∧ OwnE w.heap.size w.heap.size w w' ao c L := by
  obtain ⟨i0, hi, hz0, hz1, hz2⟩ := info_parts info28
  have q22 : ∀ w, (binOp .eql 22 (.slice (some ad) n cap) (.slice none 0 0)).run Try.prog w = .ok (.bool false) w := fun w => Lib.run_eql_slice_nil w _ _ (some ad) n cap 0 0 Try.underlying22
  have HS := hide hS
  clear hS
  go_enter Try.func41, Try.ntmps41
  go_wp2_with (at_builtin; refine wpList_append_own _ rfl _ _ 22 rfl w.heap.size 40 i0 (.agg #[.int .i64 0, .int .i64 0, .string ⟨#[]⟩, .int .i64 0]) 4 40 Try.underlying22 hi hz0 hz1 hz2 rfl (by decide) _ _ _ rfl (World.ownsRow_made w #[] 0 (Nat.le_refl _) (Nat.zero_le _) (by simp)) ad n cap (ecs L) rfl ?qc1 ?qc2 ?qc3 ?qc4 ?qc5 ?qc6 ?_)
  case qc1 => rw [ecs_length, HS.out.1]
  case qc2 =>
    intro j u hj
    have := HS.out.cells j u hj
    rw [(below_new w _).cell (World.block_lt_of_cell? _ _ this)]
    exact this
  case qc3 => exact ecs_onecell L
  case qc4 => rw [Nat.zero_add]; unfold maxLen; have := HS.out.2.2.2.2; omega
  case qc5 => rw [Nat.zero_add]; have := HS.out.2.2.2.2; omega
  case qc6 => simp
  intro v' w1 hown hgrow hnil
  have hown' : w1.ownsRow w.heap.size 40 4 v' n (ecs L) := by simpa using hown
  have hb : Below w.heap.size w w1 := ((Below.refl _ w).alloc (Nat.le_refl _) _).grown hgrow (by simp) (by intro k hk; simp [Value.ownBlock] at hk; omega)
  have HF : Hid (∃ ao c, v' = .slice ao n c ∧ OwnE w.heap.size w.heap.size w w1 ao c L) := by
    rcases hown'.2 with ⟨h0, _⟩ | ⟨g, c, cur, rfl, r⟩
    · exact absurd h0 hnil
    · exact ⟨some ⟨g, 0, none⟩, c, rfl, by rw [HS.out.1]; exact hown', hb, hb.size, Nat.le_refl _⟩
  clear hown hown' hgrow hnil hb
  go_wp2_with fail
  go_ret
  obtain ⟨ao, c, rfl, h⟩ := HF.out
  exact ⟨ao, c, rfl, h⟩
theorem clone_nil (w : World) : Calls Try.prog 41 #[.slice none 0 0] w fun e w' => e = .returned (.slice none 0 0) ∧ w' = w := by
  have q22 : ∀ w, (binOp .eql 22 (.slice none 0 0) (.slice none 0 0)).run Try.prog w = .ok (.bool true) w := fun w => Lib.run_eql_slice_nil w _ _ none 0 0 0 0 Try.underlying22
  go_enter Try.func41, Try.ntmps41
  go_wp2_with fail
  go_ret
  exact ⟨rfl, rfl⟩
theorem OwnE.mr {B0 B : Nat} {w w' : World} {ad : Addr} {cap : Nat} {acc : List En} (O : OwnE B0 B w w' (some ad) cap acc) : MR w' ad acc.toArray ∧ acc.length ≤ cap ∧ cap ≤ 9223372036854775807 ∧ B ≤ ad.block := by
  rcases O.own.2 with ⟨h0, _⟩ | ⟨g, c, cur, hv, hbg, hgg, hnc, hcm, hcsz, htake⟩
  · cases h0
  · simp only [Value.slice.injEq, Option.some.injEq, true_and] at hv
    obtain ⟨rfl, rfl⟩ := hv
    refine ⟨⟨fun j hj => ?_, (Array.getElem?_eq_some_iff.1 hgg).1, rfl⟩, hnc, by unfold maxLen at hcm; omega, hbg⟩
    rw [Sort.size_flatK] at hj
    have hj' : j < acc.length * 4 := by simpa using hj
    refine ⟨?_, by simp [World.frozen?, hgg]⟩
    rw [Nat.zero_add, O.own.cellAt j (by omega), Sort.get_flatK _ _ _ _ hj]
    have e4 := ecs_at acc (j / 4) (j % 4) (by omega) (by omega)
    rw [show j / 4 * 4 + j % 4 = j by omega] at e4
    rw [e4]
    have e5 : acc.toArray[j / 4]! = acc.getD (j / 4) en0 := by
      rw [getElem!_pos acc.toArray (j / 4) (by simp; omega)]; simp [List.getD, show j / 4 < acc.length by omega]
    rw [e5]
    have : j % 4 = 0 ∨ j % 4 = 1 ∨ j % 4 = 2 ∨ j % 4 = 3 := by omega
    rcases this with h | h | h | h <;> rw [h] <;> rfl
end Go.Proofs.Ytmhdhedjeaaciaa
