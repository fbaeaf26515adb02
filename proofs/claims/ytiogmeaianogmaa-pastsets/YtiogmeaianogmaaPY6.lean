import Derived.Test.YtiogmeaianogmaaPKa
import Derived.ProofKit
import Derived.OpenShut
import Derived.Lib.SmallJoins
import Derived.HandedShaped
import Derived.SizedLaws
import Derived.ChangeMaps5
import Derived.JoinedCond
import Derived.Test.YtiogmeaianogmaaPZa
/- Arguments of type Past, of small bulk, opened. -/
namespace Go.Proofs.Ytiogmeaianogmaa
open Go.ChangeShapes Go.WideShapes Go.ChangeAt Go.RowKit Go.Joins

theorem own : ownKnob Try.prog.godebug = none := by kernel_rfl
theorem laidOut : laidOutB Try.prog = true := by kernel_rfl
theorem cellsS : Try.prog.cellsOf 50 = 3 := by kernel_rfl
theorem cellsI : Try.prog.cellsOf 3 = 1 := by kernel_rfl
theorem cellsP : Try.prog.cellsOf 25 = 2 := by kernel_rfl
theorem cellsV : Try.prog.cellsOf 22 = 1 := by kernel_rfl
theorem cellsC : Try.prog.cellsOf 23 = 1 := by kernel_rfl
theorem bulk_pos {H : Type} (d : DataW H) : 1 ≤ Rows.uptoBulk d := by
  cases d with
  | lit l => cases l <;> simp only [Rows.uptoBulk] <;> omega
  | _ => simp only [Rows.uptoBulk] <;> omega
theorem bulk_len {H : Type} : ∀ (l : List (DataW H)), l.length ≤ Rows.uptoBulkAll l
  | [] => by simp
  | d :: l => by have := bulk_len l; have := bulk_pos d; simp only [Rows.uptoBulkAll, List.length_cons]; omega
theorem list2 {α : Type} {l : List α} (h : l.length = 2) : ∃ a b, l = [a, b] := by
  match l, h with
  | [a, b], _ => exact ⟨a, b, rfl⟩
theorem list3 {α : Type} {l : List α} (h : l.length = 3) : ∃ a b c, l = [a, b, c] := by
  match l, h with
  | [a, b, c], _ => exact ⟨a, b, c, rfl⟩
theorem open_span {H : Type} {enc : TypeId × Value → H} {w : World} {base : Nat} {spare : Nat → Bool} {held : Bool} {fuel : Nat} {cs : List Value} {x : DataW H × List MemPlace}
    (h : DataW.trod enc Try.prog w base spare held fuel 50 cs = some x) : ∃ e : Sn, cs = (SC e).toList := by
  obtain ⟨xs, m, _, hx, hcl, hxl, hf⟩ := DataW.trod_struct Try.underlying50 h
  obtain ⟨v0, v1, v2, rfl⟩ := list3 (hcl.trans cellsS)
  obtain ⟨y0, y1, y2, rfl⟩ := list3 hxl
  have t0 := hf 0 _ rfl
  have t1 := hf 1 _ rfl
  have t2 := hf 2 _ rfl
  simp [cellsI] at t0 t1 t2
  obtain ⟨r, e0, -, _⟩ := DataW.trod_int Try.underlying3 t0
  obtain ⟨n, e1, -, _⟩ := DataW.trod_int Try.underlying3 t1
  obtain ⟨m', e2, -, _⟩ := DataW.trod_int Try.underlying3 t2
  simp only [List.cons.injEq, and_true] at e0 e1 e2
  subst e0 e1 e2
  exact ⟨⟨r, n, m'⟩, rfl⟩
theorem viewI {H : Type} {enc : TypeId × Value → H} {W : World} {fuel : Nat} {v : Value} {x : DataW H × List MemPlace}
    (h : DataW.trod enc Try.prog W 0 (fun _ => true) true fuel 22 [v] = some x) (hw : Rows.uptoBulk x.1 ≤ 1048576) : ∃ (ao : Option Addr) (n cap : Nat) (Z : List Int), v = .slice ao n cap ∧ V.Src W ao n cap Z ∧ n ≤ 1048576 := by
  rcases DataW.trod_slice Try.underlying22 h with h0 | ⟨a, len, cap, elems, rest, n, _, hcs, hx, hb, hl, hm, hlen, hel, hsp, hns⟩
  · have e : v = .slice none 0 0 := by simpa using h0.1
    exact ⟨none, 0, 0, [], e, ⟨rfl, fun _ => ⟨rfl, rfl⟩, fun ad h => (by cases h)⟩, Nat.zero_le _⟩
  · subst hx
    have e : v = .slice (some a) len cap := by simpa using hcs
    simp only [Rows.uptoBulk] at hw
    have h1 := bulk_len (elems.map (·.1))
    simp only [List.length_map] at h1
    have key : ∀ i, i < len → ∃ z : Int, W.cell? (a.add i) = some (.int .i64 z) := by
      intro i hi
      have he := hel i hi
      obtain ⟨y, hy⟩ : ∃ y, elems[i]? = some y := ⟨_, List.getElem?_eq_getElem (by omega)⟩
      rw [hy, cellsI, Option.bind_eq_some_iff] at he
      obtain ⟨cs', hcs, hy'⟩ := he
      obtain ⟨hl', -, hce⟩ := World.cells?_some hcs
      obtain ⟨z, rfl, -, _⟩ := DataW.trod_int Try.underlying3 hy'
      have g0 := hce 0 (by omega)
      rw [add_zero, Nat.mul_one] at g0
      exact ⟨z, g0⟩
    refine ⟨some a, len, cap, (List.range len).map fun i => if h : i < len then Classical.choose (key i h) else 0, e, ⟨by simp, fun h => (by cases h), fun ad h t ht => ?_⟩, by omega⟩
    obtain rfl := Option.some.inj h
    have : ((List.range len).map fun i => if h : i < len then Classical.choose (key i h) else 0).getD t 0 = Classical.choose (key t ht) := by simp [List.getD, ht]
    rw [this]
    exact Classical.choose_spec (key t ht)
theorem viewC {H : Type} {enc : TypeId × Value → H} {W : World} {fuel : Nat} {v : Value} {x : DataW H × List MemPlace}
    (h : DataW.trod enc Try.prog W 0 (fun _ => true) true fuel 23 [v] = some x) (hw : Rows.uptoBulk x.1 ≤ 1048576) : ∃ (ao : Option Addr) (n cap : Nat) (L : List Sn), v = .slice ao n cap ∧ SSrc W ao n cap L ∧ n ≤ 1048576 := by
  rcases DataW.trod_slice Try.underlying23 h with h0 | ⟨a, len, cap, elems, rest, n, _, hcs, hx, hb, hl, hm, hlen, hel, hsp, hns⟩
  · have e : v = .slice none 0 0 := by simpa using h0.1
    exact ⟨none, 0, 0, [], e, SSrc.empty _, Nat.zero_le _⟩
  · subst hx
    have e : v = .slice (some a) len cap := by simpa using hcs
    simp only [Rows.uptoBulk] at hw
    have h1 := bulk_len (elems.map (·.1))
    simp only [List.length_map] at h1
    have key : ∀ i, i < len → ∃ e : Sn, SnAt W (a.add (i * 3)) e := by
      intro i hi
      have he := hel i hi
      obtain ⟨y, hy⟩ : ∃ y, elems[i]? = some y := ⟨_, List.getElem?_eq_getElem (by omega)⟩
      rw [hy, cellsS, Option.bind_eq_some_iff] at he
      obtain ⟨cs', hcs, hy'⟩ := he
      obtain ⟨_, -, hce⟩ := World.cells?_some hcs
      obtain ⟨e, rfl⟩ := open_span hy'
      have g0 := hce 0 (by omega)
      rw [add_zero] at g0
      exact ⟨e, ⟨g0, hce 1 (by omega), hce 2 (by omega)⟩⟩
    refine ⟨some a, len, cap, (List.range len).map fun i => if h : i < len then Classical.choose (key i h) else sn0, e, ⟨by simp, fun h => (by cases h), fun ad h t ht => ?_, by omega⟩, by omega⟩
    obtain rfl := Option.some.inj h
    have : ((List.range len).map fun i => if h : i < len then Classical.choose (key i h) else sn0).getD t sn0 = Classical.choose (key t ht) := by simp [List.getD, ht]
    rw [this]
    exact Classical.choose_spec (key t ht)
theorem viewP {H : Type} {enc : TypeId × Value → H} {W : World} {fuel : Nat} {cs : List Value} {x : DataW H × List MemPlace}
    (h : DataW.trod enc Try.prog W 0 (fun _ => true) true fuel 25 cs = some x) (hw : Rows.uptoBulk x.1 ≤ 1048576) : ∃ p : Pv, cs = [.slice p.vo p.vn p.vc, .slice p.co p.cn p.cc] ∧ PSrc W p ∧ p.P.cloud.length ≤ 1048576 := by
  obtain ⟨xs, m, _, hx, hcl, hxl, hf⟩ := DataW.trod_struct Try.underlying25 h
  obtain ⟨v0, v1, rfl⟩ := list2 (hcl.trans cellsP)
  obtain ⟨y0, y1, rfl⟩ := list2 hxl
  have t0 := hf 0 _ rfl
  have t1 := hf 1 _ rfl
  simp [cellsV, cellsC] at t0 t1
  subst hx
  simp only [Rows.uptoBulk, List.map_cons, List.map_nil, Rows.uptoBulkAll] at hw
  obtain ⟨a0, l0, c0, Z, rfl, S0, g0⟩ := viewI t0 (by omega)
  obtain ⟨a1, l1, c1, L, rfl, S1, g1⟩ := viewC t1 (by omega)
  exact ⟨⟨a0, l0, c0, a1, l1, c1, ⟨Z, L⟩⟩, rfl, ⟨S0, S1, by show l0 ≤ _; omega⟩, by show L.length ≤ _; rw [S1.len]; exact g1⟩
end Go.Proofs.Ytiogmeaianogmaa
/- PastSets: the row, where what comes in is small. -/
namespace Go.Proofs.Ytiogmeaianogmaa.pastSets
open Go.ChangeShapes Go.WideShapes Go.ChangeAt Go.RowKit Go.Joins

theorem cellsX : Try.prog.cellsOf 28 = 9 := by kernel_rfl
theorem cellsD : Try.prog.cellsOf 26 = 1 := by kernel_rfl
theorem list9 {α : Type} {l : List α} (h : l.length = 9) : ∃ a b c d e f g i j, l = [a, b, c, d, e, f, g, i, j] := by
  match l, h with
  | [a, b, c, d, e, f, g, i, j], _ => exact ⟨a, b, c, d, e, f, g, i, j, rfl⟩
theorem list6 {α : Type} {l : List α} (h : l.length = 6) : ∃ a b c d e f, l = [a, b, c, d, e, f] := by
  match l, h with
  | [a, b, c, d, e, f], _ => exact ⟨a, b, c, d, e, f, rfl⟩
theorem open_case {H : Type} {enc : TypeId × Value → H} {W : World} {fuel : Nat} {cs : List Value} {x : DataW H × List MemPlace}
    (h : DataW.trod enc Try.prog W 0 (fun _ => true) true fuel 28 cs = some x) (hw : Rows.uptoBulk x.1 ≤ 1048576) : ∃ (a b c : Pv) (dv : Value) (rp ms : Int), cs = (CaseC a b c dv rp ms).toList ∧ PSrc W a ∧ PSrc W b ∧ PSrc W c ∧ wt [a, b, c] ≤ 4000000000000 := by
  obtain ⟨xs, m, _, hx, hcl, hxl, hf⟩ := DataW.trod_struct Try.underlying28 h
  obtain ⟨v0, v1, v2, v3, v4, v5, v6, v7, v8, rfl⟩ := list9 (hcl.trans cellsX)
  obtain ⟨y0, y1, y2, y3, y4, y5, rfl⟩ := list6 hxl
  have t0 := hf 0 _ rfl
  have t1 := hf 1 _ rfl
  have t2 := hf 2 _ rfl
  have t4 := hf 4 _ rfl
  have t5 := hf 5 _ rfl
  simp [cellsP, cellsI] at t0 t1 t2 t4 t5
  subst hx
  simp only [Rows.uptoBulk, List.map_cons, List.map_nil, Rows.uptoBulkAll] at hw
  obtain ⟨a, ea, Sa, ga⟩ := viewP t0 (by omega)
  obtain ⟨b, eb, Sb, gb⟩ := viewP t1 (by omega)
  obtain ⟨c, ec, Sc, gc⟩ := viewP t2 (by omega)
  obtain ⟨rp, e4, -, _⟩ := DataW.trod_int Try.underlying3 t4
  obtain ⟨ms, e5, -, _⟩ := DataW.trod_int Try.underlying3 t5
  simp only [List.cons.injEq, and_true] at ea eb ec e4 e5
  obtain ⟨rfl, rfl⟩ := ea
  obtain ⟨rfl, rfl⟩ := eb
  obtain ⟨rfl, rfl⟩ := ec
  subst e4 e5
  exact ⟨a, b, c, v6, rp, ms, rfl, Sa, Sb, Sc, by simp only [wt]; omega⟩
set_option maxRecDepth 100000 in
theorem lifted (os : Os) (started : os.Started) (H : Type) (enc : TypeId × Value → H) (F : Stop.Interp) :
    ReturnsInHanded {} Try.checked os 3 .any ((Rows.OpenSpec.upto Rows.pastSetsSpec).pre6 enc Try.prog Try.f3 Rows.pastSetsUptoRow.domain false) (((Rows.OpenSpec.upto Rows.pastSetsSpec).at F).post enc Try.prog Try.f3 false true false false) := by
  refine returnsInHanded_of_cond (C := Try.checked) (s := Rows.OpenSpec.upto Rows.pastSetsSpec) (k := Rows.uptoSmall) rfl own started (by kernel_rfl) Try.func3
    (OpenSpec.witness (enc := enc) (C := Try.checked) (s := Rows.OpenSpec.upto Rows.pastSetsSpec) (k := Rows.uptoSmall) rfl false ⟨#[], #[.agg #[.slice none 0 0, .slice none 0 0, .slice none 0 0, .slice none 0 0, .slice none 0 0, .slice none 0 0, .slice none 0 0, .int .i64 0, .int .i64 0]], []⟩ 8 (by kernel_rfl) (by kernel_rfl) (by kernel_rfl)
      (x := ([.agg [.agg [.nil, .nil], .agg [.nil, .nil], .agg [.nil, .nil], .nil, .lit (.int .i64 0), .lit (.int .i64 0)]], [], [])) (by kernel_rfl) rfl (by kernel_rfl)) ?_
  intro W base args ds gs before hval0 hW _ hk _
  have hval : ∀ (j : Nat) t v, Try.f3.params[j]? = some t → args[j]? = some v → Value.okWide Try.prog W .any base t v := hval0
  have hW' := hW
  obtain ⟨p, q, hA0, hV, rfl, hfz, hnd⟩ := hW
  have hA : DataW.TrodAll enc Try.prog W 0 (fun _ => true) true Try.f3.params.toList args.toList ds p := hA0
  rw [Try.params3] at hA hval
  obtain ⟨v0, vs0, d0, ds0, p0, q0, hargs, rfl, rfl, h0, r0⟩ := trodAll_cons hA
  obtain ⟨rfl, rfl, rfl⟩ := trodAll_nil r0
  obtain rfl : args = #[v0] := by cases args; simp_all
  obtain ⟨rfl, rfl⟩ := trodVars_none hV
  have hb : Rows.uptoBulkAll ([d0] ++ []) ≤ 1048576 := of_decide_eq_true hk
  have h0' := h0
  obtain ⟨cs, rfl, hsz⟩ := okWide_struct Try.underlying28 (hval 0 28 v0 rfl rfl)
  obtain ⟨fuel, hf⟩ := h0'
  have hcells : (Value.agg cs).cells = cs := by simp [Value.cells]
  rw [hcells] at hf
  simp only [List.append_nil, Rows.uptoBulkAll] at hb
  obtain ⟨a, b, c, dv, rp, ms, ecs, Sa, Sb, Sc, hwt⟩ := open_case hf (by show Rows.uptoBulk d0 ≤ _; omega)
  obtain rfl : cs = CaseC a b c dv rp ms := by rw [← Array.toList_inj]; exact ecs
  clear hA0 hval0
  simp only [List.append_nil] at hW'
  have hlt : ∀ x ∈ p0, x.block < W.heap.size := fun x hx => hW'.lt x (by simpa using hx)
  refine (sets_any a b c dv rp ms W Sa Sb Sc hwt).mono ?_
  rintro e W' ⟨rfl, hnx⟩
  exact ⟨_, rfl, _, _, _, [], _, [], hW', trodAll_cons_mk (shut_bool Try.underlying4 _) trodAll_mk0, (trodAll_cons_mk (Below.trod laidOut (by kernel_rfl) (of_decide_eq_true (by kernel_rfl)) h0 hnx (fun x hx => hlt x (by simp [hx]))) trodAll_mk0), rfl, hnx.frame _, fun h => by cases h⟩
end Go.Proofs.Ytiogmeaianogmaa.pastSets
namespace Go.Proofs.Ytiogmeaianogmaa
theorem pastSets_holds : Rows.PastSetsUptoSaid :=
  OpenClaim.holds_of_cond 3 Try.f3 rfl rfl rfl rfl rfl rfl rfl ⟨rfl, rfl, rfl, rfl, rfl⟩ rfl rfl rfl rfl rfl (by kernel_rfl) Try.func3 (by kernel_rfl)
    (of_decide_eq_true (by kernel_rfl)) (by unfold Func.isWrapper; first | (rw [if_pos (by decide +kernel)]; kernel_rfl) | (rw [if_neg (by decide +kernel)]; exact ⟨rfl, rfl⟩))
    (fun os started H enc _ F => pastSets.lifted os started H enc F)
#print axioms pastSets_holds
end Go.Proofs.Ytiogmeaianogmaa
