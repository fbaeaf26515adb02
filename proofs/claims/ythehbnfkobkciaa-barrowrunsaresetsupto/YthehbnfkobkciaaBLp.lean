/- BarrowRunsAreSets: the row, where what comes in is small. -/
import Derived.Test.YthehbnfkobkciaaBLa
import Derived.Test.YthehbnfkobkciaaRVu
import Derived.JoinedCond
namespace Go.Proofs.Ythehbnfkobkciaa.barrowRunsAreSets
open Go.ChangeShapes Go.WideShapes Go.ChangeAt Go.RowKit Go.Joins

theorem viewT {H : Type} {enc : TypeId × Value → H} {W : World} {fuel : Nat} {v : Value} {x : DataW H × List MemPlace}
    (h : DataW.trod enc Try.prog W 0 (fun _ => true) true fuel 22 [v] = some x) (hw : Rows.uptoBulk x.1 ≤ 1048576) : ∃ (ao : Option Addr) (n cap : Nat) (L : List Rn), v = .slice ao n cap ∧ RSrc W ao n cap L ∧ n ≤ 1048576 := by
  rcases DataW.trod_slice Try.underlying22 h with h0 | ⟨a, len, cap, elems, rest, n, _, hcs, hx, hb, hl, hm, hlen, hel, hsp, hns⟩
  · have e : v = .slice none 0 0 := by simpa using h0.1
    exact ⟨none, 0, 0, [], e, RSrc.empty _, Nat.zero_le _⟩
  · subst hx
    have e : v = .slice (some a) len cap := by simpa using hcs
    simp only [Rows.uptoBulk] at hw
    have h1 := bulk_len (elems.map (·.1))
    simp only [List.length_map] at h1
    have key : ∀ i, i < len → ∃ e : Rn, RnAt W (a.add (i * 2)) e := by
      intro i hi
      have he := hel i hi
      obtain ⟨y, hy⟩ : ∃ y, elems[i]? = some y := ⟨_, List.getElem?_eq_getElem (by omega)⟩
      rw [hy, cellsR, Option.bind_eq_some_iff] at he
      obtain ⟨cs', hcs, hy'⟩ := he
      obtain ⟨_, -, hce⟩ := World.cells?_some hcs
      obtain ⟨e, rfl⟩ := open_run hy'
      have g0 := hce 0 (by omega)
      rw [add_zero] at g0
      exact ⟨e, ⟨g0, hce 1 (by omega)⟩⟩
    refine ⟨some a, len, cap, (List.range len).map fun i => if h : i < len then Classical.choose (key i h) else rn0, e, ⟨by simp, fun h => (by cases h), fun ad h t ht => ?_, hl, hm, by omega⟩, by omega⟩
    obtain rfl := Option.some.inj h
    have : ((List.range len).map fun i => if h : i < len then Classical.choose (key i h) else rn0).getD t rn0 = Classical.choose (key t ht) := by simp [List.getD, ht]
    rw [this]
    exact Classical.choose_spec (key t ht)
theorem cellsX : Try.prog.cellsOf 24 = 4 := by kernel_rfl
set_option maxRecDepth 100000 in
theorem lifted (os : Os) (started : os.Started) (H : Type) (enc : TypeId × Value → H) (F : Stop.Interp) :
    ReturnsInHanded {} Try.checked os 3 .any ((Rows.OpenSpec.upto Rows.barrowRunsAreSetsSpec).pre6 enc Try.prog Try.f3 Rows.barrowRunsAreSetsUptoRow.domain false) (((Rows.OpenSpec.upto Rows.barrowRunsAreSetsSpec).at F).post enc Try.prog Try.f3 false true false false) := by
  refine returnsInHanded_of_cond (C := Try.checked) (s := Rows.OpenSpec.upto Rows.barrowRunsAreSetsSpec) (k := Rows.uptoSmall) rfl own started (by kernel_rfl) Try.func3
    (OpenSpec.witness (enc := enc) (C := Try.checked) (s := Rows.OpenSpec.upto Rows.barrowRunsAreSetsSpec) (k := Rows.uptoSmall) rfl false ⟨#[], #[.agg #[.slice none 0 0, .slice none 0 0, .slice none 0 0, .int .i64 0]], []⟩ 8 (by kernel_rfl) (by kernel_rfl) (by kernel_rfl)
      (x := ([.agg [.nil, .nil, .nil, .lit (.int .i64 0)]], [], [])) (by kernel_rfl) rfl (by kernel_rfl)) ?_
  intro W base args ds gs before hval0 hW _ hk _
  have hval : ∀ (j : Nat) t v, Try.f3.params[j]? = some t → args[j]? = some v → Value.okWide Try.prog W .any base t v := hval0
  have hW' := hW
  obtain ⟨p, q, hA0, hV, rfl, hfz, hnd⟩ := hW
  have hA : DataW.TrodAll enc Try.prog W 0 (fun _ => true) true Try.f3.params.toList args.toList ds p := hA0
  rw [Try.params3] at hA hval
  obtain ⟨v0, vs0, d0, ds0, p0, q0, hargs, rfl, rfl, h0, r0⟩ := trodAll_cons hA
  obtain ⟨rfl, rfl, rfl⟩ := trodAll_nil r0
  obtain rfl : args = #[v0] := by cases args; simp_all
  obtain ⟨rfl, rfl⟩ := trodVars_none hV
  have hb : Rows.uptoBulkAll ([d0] ++ []) ≤ 1048576 := of_decide_eq_true hk
  have h0' := h0
  obtain ⟨u0, u1, u2, u3, y0, y1, y2, y3, nf, rfl, rfl, _, t0, t1, t2, t3⟩ := open_agg4 Try.underlying24 (by kernel_rfl) cellsX (hval 0 24 v0 rfl rfl) h0'
  simp only [List.append_nil, Rows.uptoBulkAll, Rows.uptoBulk] at hb
  obtain ⟨a0, l0, c0, L0, rfl, S0, g0⟩ := viewT t0 (by omega)
  obtain ⟨a1, l1, c1, L1, rfl, S1, g1⟩ := viewT t1 (by omega)
  obtain ⟨a2, l2, c2, L2, rfl, S2, g2⟩ := viewT t2 (by omega)
  obtain ⟨z, e3, -, _⟩ := DataW.trod_int Try.underlying3 t3
  simp only [List.cons.injEq, and_true] at e3
  subst e3
  clear hA0 hval0
  simp only [List.append_nil] at hW'
  have hlt : ∀ x ∈ p0, x.block < W.heap.size := fun x hx => hW'.lt x (by simpa using hx)
  refine (sets_law a0 a1 a2 l0 c0 l1 c1 l2 c2 L0 L1 L2 z W S0 S1 S2 g0 g1 g2).mono ?_
  rintro e W' ⟨rfl, hnx⟩
  exact ⟨_, rfl, _, _, _, [], _, [], hW', trodAll_cons_mk (shut_bool Try.underlying4 _) trodAll_mk0, (trodAll_cons_mk (Below.trod laidOut (by kernel_rfl) (of_decide_eq_true (by kernel_rfl)) h0 hnx (fun x hx => hlt x (by simp [hx]))) trodAll_mk0), rfl, hnx.frame _, fun h => by cases h⟩
end Go.Proofs.Ythehbnfkobkciaa.barrowRunsAreSets
namespace Go.Proofs.Ythehbnfkobkciaa
theorem barrowRunsAreSets_holds : Rows.BarrowRunsAreSetsUptoSaid :=
  OpenClaim.holds_of_cond 3 Try.f3 rfl rfl rfl rfl rfl rfl rfl ⟨rfl, rfl, rfl, rfl, rfl⟩ rfl rfl rfl rfl rfl (by kernel_rfl) Try.func3 (by kernel_rfl)
    (of_decide_eq_true (by kernel_rfl)) (by unfold Func.isWrapper; first | (rw [if_pos (by decide +kernel)]; kernel_rfl) | (rw [if_neg (by decide +kernel)]; exact ⟨rfl, rfl⟩))
    (fun os started H enc _ F => barrowRunsAreSets.lifted os started H enc F)
#print axioms barrowRunsAreSets_holds
end Go.Proofs.Ythehbnfkobkciaa
