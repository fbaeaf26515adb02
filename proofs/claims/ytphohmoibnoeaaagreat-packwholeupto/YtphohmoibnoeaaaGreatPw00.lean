/- The case that is an argument, of small bulk, opened: with room for a byte more. -/
import Derived.Test.YtphohmoibnoeaaaGreatPb42
namespace Go.Proofs.YtphohmoibnoeaaaGreat
open Go.ChangeShapes Go.WideShapes Go.ChangeAt Go.RowKit Go.Joins

theorem recs_small7 {L : List Rc} (hn : L.length ≤ 209716) (hc : ∀ r ∈ L, r.p.P.cloud.length ≤ 1048576) (h : OkR L L.length) : (recsB (plR L)).length ≤ 7000000000000 := by
  have h1 := recB_cl (plR L) (fun x hx => by
    unfold plR at hx
    obtain ⟨r, hr, rfl⟩ := List.mem_map.1 hx
    have h3 := hc r hr
    obtain ⟨k, hk, rfl⟩ := List.getElem_of_mem hr
    have := (h k hk).1
    rw [List.getD_eq_getElem?_getD, List.getElem?_eq_getElem hk] at this
    exact ⟨sku_len this.1, this.2.1, h3⟩)
  rw [plR_len] at h1
  have h2 := U.numB_len 9 (plR L).length (by rw [plR_len]; omega)
  unfold recsB
  rw [List.length_append]
  omega
theorem open_case7 {H : Type} {enc : TypeId × Value → H} {W : World} {fuel : Nat} {cs : List Value} {x : DataW H × List MemPlace}
    (h : DataW.trod enc Tryz.prog W 0 (fun _ => true) true fuel 30 cs = some x) (hw : Rows.uptoBulk x.1 ≤ 1048576) : ∃ (m : Cs) (E F : List K.En) (R T : List Rc) (A B C : List Int), cs = (CsC m).toList ∧ CsS W m E F R T A B C ∧ (OkR R R.length → (recsB (plR R)).length ≤ 7000000000000) := by
  obtain ⟨xs, m, _, hx, hcl, hxl, hf⟩ := DataW.trod_struct Tryz.underlying30 h
  obtain ⟨v0, v1, v2, v3, v4, v5, v6, v7, v8, v9, v10, rfl⟩ := list11 (hcl.trans cellsCs)
  obtain ⟨y0, y1, y2, y3, y4, y5, y6, y7, y8, rfl⟩ := list9 hxl
  have t0 := hf 0 _ rfl
  have t1 := hf 1 _ rfl
  have t2 := hf 2 _ rfl
  have t3 := hf 3 _ rfl
  have t4 := hf 4 _ rfl
  have t5 := hf 5 _ rfl
  have t6 := hf 6 _ rfl
  have t7 := hf 7 _ rfl
  have t8 := hf 8 _ rfl
  simp [cellsP, cellsEs, cellsRs, cellsBs] at t0 t1 t2 t3 t4 t5 t6 t7 t8
  subst hx
  simp only [Rows.uptoBulk, List.map_cons, List.map_nil, Rows.uptoBulkAll] at hw
  obtain ⟨p, ep, Sp, -⟩ := viewP t0 (by omega)
  obtain ⟨q, eq, Sq, -⟩ := viewP t1 (by omega)
  obtain ⟨eo, en, ec, E, rfl, Se⟩ := viewEu t2 (by omega)
  obtain ⟨fo, fn, fc, F, rfl, Sf⟩ := viewEu t3 (by omega)
  obtain ⟨ro, rn, rc, R, rfl, Sr, r1, r2⟩ := viewRu t4 (by omega)
  obtain ⟨uo, un, uc, T, rfl, St, s1, s2⟩ := viewRu t5 (by omega)
  obtain ⟨ao, an, ac, A, rfl, Sa⟩ := viewBu t6 (by omega)
  obtain ⟨bo, bn, bc, B, rfl, Sb⟩ := viewBu t7 (by omega)
  obtain ⟨co, cn, cc, C, rfl, Sc⟩ := viewBu t8 (by omega)
  simp only [List.cons.injEq, and_true] at ep eq
  obtain ⟨rfl, rfl⟩ := ep
  obtain ⟨rfl, rfl⟩ := eq
  exact ⟨⟨p, q, eo, en, ec, fo, fn, fc, ro, rn, rc, uo, un, uc, ao, an, ac, bo, bn, bc, co, cn, cc⟩, E, F, R, T, A, B, C, rfl, ⟨Sp, Sq, Se, Sf, Sr, St, Sa, Sb, Sc, recs_small r1 r2, recs_small s1 s2⟩, recs_small7 r1 r2⟩
end Go.Proofs.YtphohmoibnoeaaaGreat
