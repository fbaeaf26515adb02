/- LinesUnions: the row, for every input. -/
import Derived.Test.YtagkcfnmhfihlaaULaw
import Derived.Test.YtagkcfnmhfihlaaView
namespace Go.Proofs.Ytagkcfnmhfihlaa.linesUnions
open Go.ChangeShapes Go.WideShapes Go.ChangeAt Go.RowKit Go.Joins

theorem cells41 : Try.prog.cellsOf 41 = 8 := by kernel_rfl
theorem cells22 : Try.prog.cellsOf 22 = 1 := by kernel_rfl
theorem array8 {α : Type} {cs : Array α} (h : cs.size = 8) : ∃ c0 c1 c2 c3 c4 c5 c6 c7, cs = #[c0, c1, c2, c3, c4, c5, c6, c7] := by
  obtain ⟨l⟩ := cs
  match l, h with
  | [c0, c1, c2, c3, c4, c5, c6, c7], _ => exact ⟨c0, c1, c2, c3, c4, c5, c6, c7, rfl⟩
theorem list6 {α : Type} {l : List α} (h : l.length = 6) : ∃ a b c d e f, l = [a, b, c, d, e, f] := by
  match l, h with
  | [a, b, c, d, e, f], _ => exact ⟨a, b, c, d, e, f, rfl⟩
theorem viewC {H : Type} {enc : TypeId × Value → H} {W : World} {base : Nat} {v : Value} {d : DataW H} {p : List MemPlace}
    (hv : Value.okWide Try.prog W .any base 41 v) (h : DataW.Trod enc Try.prog W 0 (fun _ => true) true 41 v d p) (hw : ∀ n ∈ DataW.weights Try.prog 41 d, n ≤ reachBytes) :
    ∃ (ao : Option Addr) (n cap : Nat) (L : List En) (bo : Option Addr) (m cap' : Nat) (R : List En) (v2 v3 v4 v5 v6 v7 : Value), v = .agg #[.slice ao n cap, .slice bo m cap', v2, v3, v4, v5, v6, v7] ∧ ESrc W ao n cap L ∧ ESrc W bo m cap' R := by
  obtain ⟨cs, rfl, hsz⟩ := okWide_struct Try.underlying41 hv
  obtain ⟨c0, c1, c2, c3, c4, c5, c6, c7, rfl⟩ := array8 (hsz.trans cells41)
  obtain ⟨fuel, hf⟩ := h
  obtain ⟨xs, n, _, hx, _, hlen, hg⟩ := DataW.trod_struct Try.underlying41 hf
  obtain ⟨y0, y1, y2, y3, y4, y5, rfl⟩ := list6 hlen
  have t0 := hg 0 _ rfl
  have t1 := hg 1 _ rfl
  simp [Value.cells, cells22] at t0 t1
  obtain ⟨ao, l, c, e0⟩ := slice_form Try.underlying22 t0
  obtain ⟨bo, l', c', e1⟩ := slice_form Try.underlying22 t1
  simp only [List.cons.injEq, and_true] at e0 e1
  subst e0 e1
  simp only [Prod.mk.injEq] at hx
  obtain ⟨rfl, _⟩ := hx
  obtain ⟨L, hL⟩ := view (a0 := ao) (len := l) (cap := c) (d := y0.1) (p := y0.2) ⟨n, by simpa [Value.cells] using t0⟩ (fun m hm => hw m (by
    simp [DataW.weights, Try.underlying41]
    unfold DataW.weightsEach
    exact List.mem_append_left _ hm))
  obtain ⟨R, hR⟩ := view (a0 := bo) (len := l') (cap := c') (d := y1.1) (p := y1.2) ⟨n, by simpa [Value.cells] using t1⟩ (fun m hm => hw m (by
    simp [DataW.weights, Try.underlying41]
    unfold DataW.weightsEach
    refine List.mem_append_right _ ?_
    unfold DataW.weightsEach
    exact List.mem_append_left _ hm))
  exact ⟨ao, l, c, L, bo, l', c', R, c2, c3, c4, c5, c6, c7, rfl, hL, hR⟩
set_option maxRecDepth 100000 in
theorem lifted (os : Os) (started : os.Started) (H : Type) (enc : TypeId × Value → H) :
    ReturnsInHanded {} Try.checked os 4 .any (Rows.linesUnionsSpec.pre6 enc Try.prog Try.f4 Rows.linesUnionsRow.domain false) (Rows.linesUnionsSpec.post enc Try.prog Try.f4 false true false false) := by
  refine returnsInHanded_of_change_shaped (C := Try.checked) own started (by kernel_rfl) Try.func4
    (ChangeSpec.witness6 (enc := enc) (C := Try.checked) false ⟨#[], #[.agg #[.slice none 0 0, .slice none 0 0, .slice none 0 0, .slice none 0 0, .int .i64 0, .int .i64 0, .int .i64 0, .string ByteArray.empty]], []⟩ 8 (by kernel_rfl) (by kernel_rfl) (by kernel_rfl) (by kernel_rfl)) ?_
  intro W base args ds gs before hval0 hW _ hz _ _
  have hval : ∀ (j : Nat) t v, Try.f4.params[j]? = some t → args[j]? = some v → Value.okWide Try.prog W .any base t v := hval0
  have hW' := hW
  obtain ⟨p, q, hA0, hV, rfl, hfz, hnd⟩ := hW
  have hA : DataW.TrodAll enc Try.prog W 0 (fun _ => true) true Try.f4.params.toList args.toList ds p := hA0
  rw [Try.params4] at hA hval
  obtain ⟨v0, vs0, d0, ds0, p0, q0, hargs, rfl, rfl, h0, r0⟩ := trodAll_cons hA
  obtain ⟨rfl, rfl, rfl⟩ := trodAll_nil r0
  obtain rfl : args = #[v0] := by cases args; simp_all
  obtain ⟨rfl, rfl⟩ := trodVars_none hV
  obtain ⟨a0, l0, c0, L0, b0, m0, k0, R0, v2, v3, v4, v5, v6, v7, rfl, S0, T0⟩ := viewC (hval 0 41 v0 rfl rfl) h0 (fun n hn => by
    have := List.all_eq_true.1 hz _ (DataW.weights_mem_each (j := 0) (t := 41) rfl rfl n hn)
    simpa using this)
  clear hA0 hval0
  simp only [List.append_nil] at hW'
  have hlt : ∀ x ∈ p0, x.block < W.heap.size := fun x hx => hW'.lt x (by simpa using hx)
  refine (unions_any a0 b0 l0 c0 m0 k0 L0 R0 v2 v3 v4 v5 v6 v7 W S0 T0).mono ?_
  rintro e W' ⟨rfl, hnx⟩
  exact ⟨_, rfl, _, _, _, [], _, [], hW', trodAll_cons_mk (shut_bool Try.underlying4 _) trodAll_mk0, (trodAll_cons_mk (Below.trod laidOut (by kernel_rfl) (of_decide_eq_true (by kernel_rfl)) h0 hnx (fun x hx => hlt x (by simp [hx]))) trodAll_mk0), rfl, hnx.frame _, fun h => by cases h⟩
end Go.Proofs.Ytagkcfnmhfihlaa.linesUnions
namespace Go.Proofs.Ytagkcfnmhfihlaa
theorem linesUnions_holds : Rows.LinesUnionsSaid :=
  OpenClaim.holds_of_wide 4 Try.f4 rfl rfl rfl rfl rfl rfl rfl ⟨rfl, rfl, rfl, rfl, rfl⟩ rfl rfl rfl rfl rfl (by kernel_rfl) Try.func4 (by kernel_rfl)
    (of_decide_eq_true (by kernel_rfl)) (by unfold Func.isWrapper; first | (rw [if_pos (by decide +kernel)]; kernel_rfl) | (rw [if_neg (by decide +kernel)]; exact ⟨rfl, rfl⟩))
    (fun os started H enc _ => linesUnions.lifted os started H enc)
#print axioms linesUnions_holds
end Go.Proofs.Ytagkcfnmhfihlaa
