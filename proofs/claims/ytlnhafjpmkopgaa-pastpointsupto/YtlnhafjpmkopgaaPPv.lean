/- PastPoints: the row, where what comes in is small. -/
import Derived.Test.YtlnhafjpmkopgaaPPt
import Derived.Test.YtlnhafjpmkopgaaPVw
namespace Go.Proofs.Ytlnhafjpmkopgaa.pastPoints
open Go.ChangeShapes Go.WideShapes Go.ChangeAt Go.RowKit Go.Joins

theorem cellsX : Try.prog.cellsOf 28 = 9 := by kernel_rfl
theorem cellsD : Try.prog.cellsOf 26 = 1 := by kernel_rfl
theorem list9 {α : Type} {l : List α} (h : l.length = 9) : ∃ a b c d e f g i j, l = [a, b, c, d, e, f, g, i, j] := by
  match l, h with
  | [a, b, c, d, e, f, g, i, j], _ => exact ⟨a, b, c, d, e, f, g, i, j, rfl⟩
theorem list6 {α : Type} {l : List α} (h : l.length = 6) : ∃ a b c d e f, l = [a, b, c, d, e, f] := by
  match l, h with
  | [a, b, c, d, e, f], _ => exact ⟨a, b, c, d, e, f, rfl⟩
theorem cellsDt : Try.prog.cellsOf 35 = 2 := by kernel_rfl
theorem open_dot {H : Type} {enc : TypeId × Value → H} {w : World} {base : Nat} {spare : Nat → Bool} {held : Bool} {fuel : Nat} {cs : List Value} {x : DataW H × List MemPlace}
    (h : DataW.trod enc Try.prog w base spare held fuel 35 cs = some x) : ∃ e : Rn, cs = (RC e).toList := by
  obtain ⟨xs, m, _, hx, hcl, hxl, hf⟩ := DataW.trod_struct Try.underlying35 h
  obtain ⟨v0, v1, rfl⟩ := list2 (hcl.trans cellsDt)
  obtain ⟨y0, y1, rfl⟩ := list2 hxl
  have t0 := hf 0 _ rfl
  have t1 := hf 1 _ rfl
  simp [cellsI] at t0 t1
  obtain ⟨r, e0, -, _⟩ := DataW.trod_int Try.underlying3 t0
  obtain ⟨n, e1, -, _⟩ := DataW.trod_int Try.underlying3 t1
  simp only [List.cons.injEq, and_true] at e0 e1
  subst e0 e1
  exact ⟨⟨r, n⟩, rfl⟩
theorem viewD {H : Type} {enc : TypeId × Value → H} {W : World} {fuel : Nat} {v : Value} {x : DataW H × List MemPlace}
    (h : DataW.trod enc Try.prog W 0 (fun _ => true) true fuel 26 [v] = some x) (hw : Rows.uptoBulk x.1 ≤ 1048576) : ∃ (ao : Option Addr) (n cap : Nat) (L : List Rn), v = .slice ao n cap ∧ RSrc W ao n cap L ∧ n ≤ 1048576 := by
  rcases DataW.trod_slice Try.underlying26 h with h0 | ⟨a, len, cap, elems, rest, n, _, hcs, hx, hb, hl, hm, hlen, hel, hsp, hns⟩
  · have e : v = .slice none 0 0 := by simpa using h0.1
    exact ⟨none, 0, 0, [], e, RSrc.empty _, Nat.zero_le _⟩
  · subst hx
    have e : v = .slice (some a) len cap := by simpa using hcs
    simp only [Rows.uptoBulk] at hw
    have h1 := bulk_len (elems.map (·.1))
    simp only [List.length_map] at h1
    have key : ∀ i, i < len → ∃ e : Rn, RnAt W (a.add (i * 2)) e := by
      intro i hi
      have he := hel i hi
      obtain ⟨y, hy⟩ : ∃ y, elems[i]? = some y := ⟨_, List.getElem?_eq_getElem (by omega)⟩
      rw [hy, cellsDt, Option.bind_eq_some_iff] at he
      obtain ⟨cs', hcs, hy'⟩ := he
      obtain ⟨_, -, hce⟩ := World.cells?_some hcs
      obtain ⟨e, rfl⟩ := open_dot hy'
      have g0 := hce 0 (by omega)
      rw [add_zero] at g0
      exact ⟨e, ⟨g0, hce 1 (by omega)⟩⟩
    refine ⟨some a, len, cap, (List.range len).map fun i => if h : i < len then Classical.choose (key i h) else rn0, e, ⟨by simp, fun h => (by cases h), fun ad h t ht => ?_, hl, hm, by omega⟩, by omega⟩
    obtain rfl := Option.some.inj h
    have : ((List.range len).map fun i => if h : i < len then Classical.choose (key i h) else rn0).getD t rn0 = Classical.choose (key t ht) := by simp [List.getD, ht]
    rw [this]
    exact Classical.choose_spec (key t ht)
theorem open_case {H : Type} {enc : TypeId × Value → H} {W : World} {fuel : Nat} {cs : List Value} {x : DataW H × List MemPlace}
    (h : DataW.trod enc Try.prog W 0 (fun _ => true) true fuel 28 cs = some x) (hw : Rows.uptoBulk x.1 ≤ 1048576) : ∃ (a b c : Pv) (dno : Option Addr) (dn dc : Nat) (D : List Rn) (rp ms : Int), cs = (CasC a b c (.slice dno dn dc) rp ms).toList ∧ PSrc W a ∧ PSrc W b ∧ PSrc W c ∧ wt [a, b, c] ≤ 4000000000000 ∧ RSrc W dno dn dc D ∧ dn ≤ 1048576 ∧ a.cn ≤ 1048576 := by
  obtain ⟨xs, m, _, hx, hcl, hxl, hf⟩ := DataW.trod_struct Try.underlying28 h
  obtain ⟨v0, v1, v2, v3, v4, v5, v6, v7, v8, rfl⟩ := list9 (hcl.trans cellsX)
  obtain ⟨y0, y1, y2, y3, y4, y5, rfl⟩ := list6 hxl
  have t0 := hf 0 _ rfl
  have t1 := hf 1 _ rfl
  have t2 := hf 2 _ rfl
  have t3 := hf 3 _ rfl
  have t4 := hf 4 _ rfl
  have t5 := hf 5 _ rfl
  simp [cellsP, cellsI, cellsD] at t0 t1 t2 t3 t4 t5
  subst hx
  simp only [Rows.uptoBulk, List.map_cons, List.map_nil, Rows.uptoBulkAll] at hw
  obtain ⟨a, ea, Sa, ga⟩ := viewP t0 (by omega)
  obtain ⟨b, eb, Sb, gb⟩ := viewP t1 (by omega)
  obtain ⟨c, ec, Sc, gc⟩ := viewP t2 (by omega)
  obtain ⟨dno, dn, dc, D, rfl, SD, gd⟩ := viewD t3 (by omega)
  obtain ⟨rp, e4, -, _⟩ := DataW.trod_int Try.underlying3 t4
  obtain ⟨ms, e5, -, _⟩ := DataW.trod_int Try.underlying3 t5
  simp only [List.cons.injEq, and_true] at ea eb ec e4 e5
  obtain ⟨rfl, rfl⟩ := ea
  obtain ⟨rfl, rfl⟩ := eb
  obtain ⟨rfl, rfl⟩ := ec
  subst e4 e5
  exact ⟨a, b, c, dno, dn, dc, D, rp, ms, rfl, Sa, Sb, Sc, by simp only [wt]; omega, SD, gd, by rw [← Sa.cloud.len]; exact ga⟩
set_option maxRecDepth 100000 in
theorem lifted (os : Os) (started : os.Started) (H : Type) (enc : TypeId × Value → H) (F : Stop.Interp) :
    ReturnsInHanded {} Try.checked os 3 .any ((Rows.OpenSpec.upto Rows.pastPointsSpec).pre6 enc Try.prog Try.f3 Rows.pastPointsUptoRow.domain false) (((Rows.OpenSpec.upto Rows.pastPointsSpec).at F).post enc Try.prog Try.f3 false true false false) := by
  refine returnsInHanded_of_cond (C := Try.checked) (s := Rows.OpenSpec.upto Rows.pastPointsSpec) (k := Rows.uptoSmall) rfl own started (by kernel_rfl) Try.func3
    (OpenSpec.witness (enc := enc) (C := Try.checked) (s := Rows.OpenSpec.upto Rows.pastPointsSpec) (k := Rows.uptoSmall) rfl false ⟨#[], #[.agg #[.slice none 0 0, .slice none 0 0, .slice none 0 0, .slice none 0 0, .slice none 0 0, .slice none 0 0, .slice none 0 0, .int .i64 0, .int .i64 0]], []⟩ 8 (by kernel_rfl) (by kernel_rfl) (by kernel_rfl)
      (x := ([.agg [.agg [.nil, .nil], .agg [.nil, .nil], .agg [.nil, .nil], .nil, .lit (.int .i64 0), .lit (.int .i64 0)]], [], [])) (by kernel_rfl) rfl (by kernel_rfl)) ?_
  intro W base args ds gs before hval0 hW _ hk _
  have hval : ∀ (j : Nat) t v, Try.f3.params[j]? = some t → args[j]? = some v → Value.okWide Try.prog W .any base t v := hval0
  have hW' := hW
  obtain ⟨p, q, hA0, hV, rfl, hfz, hnd⟩ := hW
  have hA : DataW.TrodAll enc Try.prog W 0 (fun _ => true) true Try.f3.params.toList args.toList ds p := hA0
  rw [Try.params3] at hA hval
  obtain ⟨v0, vs0, d0, ds0, p0, q0, hargs, rfl, rfl, h0, r0⟩ := trodAll_cons hA
  obtain ⟨rfl, rfl, rfl⟩ := trodAll_nil r0
  obtain rfl : args = #[v0] := by cases args; simp_all
  obtain ⟨rfl, rfl⟩ := trodVars_none hV
  have hb : Rows.uptoBulkAll ([d0] ++ []) ≤ 1048576 := of_decide_eq_true hk
  have h0' := h0
  obtain ⟨cs, rfl, hsz⟩ := okWide_struct Try.underlying28 (hval 0 28 v0 rfl rfl)
  obtain ⟨fuel, hf⟩ := h0'
  have hcells : (Value.agg cs).cells = cs := by simp [Value.cells]
  rw [hcells] at hf
  simp only [List.append_nil, Rows.uptoBulkAll] at hb
  obtain ⟨a, b, c, dno, dn, dc, D, rp, ms, ecs, Sa, Sb, Sc, hwt, SD, gd, gc⟩ := open_case hf (by show Rows.uptoBulk d0 ≤ _; omega)
  obtain rfl : cs = CasC a b c (.slice dno dn dc) rp ms := by rw [← Array.toList_inj]; exact ecs
  clear hA0 hval0
  simp only [List.append_nil] at hW'
  have hlt : ∀ x ∈ p0, x.block < W.heap.size := fun x hx => hW'.lt x (by simpa using hx)
  refine (points_any a b c (.slice dno dn dc) dno dn dc D rp ms W Sa Sb rfl SD gd gc hwt).mono ?_
  rintro e W' ⟨rfl, hnx⟩
  exact ⟨_, rfl, _, _, _, [], _, [], hW', trodAll_cons_mk (shut_bool Try.underlying4 _) trodAll_mk0, (trodAll_cons_mk (Below.trod laidOut (by kernel_rfl) (of_decide_eq_true (by kernel_rfl)) h0 hnx (fun x hx => hlt x (by simp [hx]))) trodAll_mk0), rfl, hnx.frame _, fun h => by cases h⟩
end Go.Proofs.Ytlnhafjpmkopgaa.pastPoints
namespace Go.Proofs.Ytlnhafjpmkopgaa
theorem pastPoints_holds : Rows.PastPointsUptoSaid :=
  OpenClaim.holds_of_cond 3 Try.f3 rfl rfl rfl rfl rfl rfl rfl ⟨rfl, rfl, rfl, rfl, rfl⟩ rfl rfl rfl rfl rfl (by kernel_rfl) Try.func3 (by kernel_rfl)
    (of_decide_eq_true (by kernel_rfl)) (by unfold Func.isWrapper; first | (rw [if_pos (by decide +kernel)]; kernel_rfl) | (rw [if_neg (by decide +kernel)]; exact ⟨rfl, rfl⟩))
    (fun os started H enc _ F => pastPoints.lifted os started H enc F)
#print axioms pastPoints_holds
end Go.Proofs.Ytlnhafjpmkopgaa
