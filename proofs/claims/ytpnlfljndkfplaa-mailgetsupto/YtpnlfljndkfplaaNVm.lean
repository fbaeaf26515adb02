/- A mail as an argument of small bulk. -/
import Derived.Test.YtpnlfljndkfplaaNFm
import Derived.Test.YtpnlfljndkfplaaNVb
namespace Go.Proofs.Ytpnlfljndkfplaa
open Go.ChangeShapes Go.WideShapes Go.ChangeAt Go.RowKit Go.Joins

theorem bulk_pos {H : Type} (d : DataW H) : 1 ≤ Rows.uptoBulk d := by
  cases d with
  | lit l => cases l <;> simp only [Rows.uptoBulk] <;> omega
  | _ => simp only [Rows.uptoBulk] <;> omega
theorem bulk_len {H : Type} : ∀ (l : List (DataW H)), l.length ≤ Rows.uptoBulkAll l
  | [] => by simp
  | d :: l => by have := bulk_len l; have := bulk_pos d; simp only [Rows.uptoBulkAll, List.length_cons]; omega
theorem bulk_at {H : Type} : ∀ (l : List (DataW H)) (d : DataW H), d ∈ l → Rows.uptoBulk d ≤ Rows.uptoBulkAll l
  | e :: l, d, h => by
    simp only [Rows.uptoBulkAll]
    rcases List.mem_cons.1 h with rfl | h
    · omega
    · have := bulk_at l d h; omega
/-- a row of bytes of small bulk -/
structure B1 (W : World) (ao : Option Addr) (n c : Nat) (Z : List Int) : Prop where
  s : Src W ao n c Z
  cap : n ≤ c
  big : n ≤ 1048576
theorem view1 {H : Type} {enc : TypeId × Value → H} {W : World} {fuel : Nat} {cs : List Value} {x : DataW H × List MemPlace}
    (h : DataW.trod enc Try.prog W 0 (fun _ => true) true fuel 26 cs = some x) (hw : Rows.uptoBulk x.1 ≤ 1048576) : ∃ (ao : Option Addr) (n c : Nat) (Z : List Int), cs = [.slice ao n c] ∧ B1 W ao n c Z := by
  rcases DataW.trod_slice Try.underlying26 h with h0 | ⟨a, len, cap, elems, rest, n, _, hcs, hx, hb, hl, hm, hlen, hel, hsp, hns⟩
  · exact ⟨none, 0, 0, [], h0.1, ⟨rfl, fun _ => ⟨rfl, rfl⟩, (fun ad h => by cases h), fun t => by simp⟩, Nat.le_refl _, Nat.zero_le _⟩
  · subst hx
    simp only [Rows.uptoBulk] at hw
    have h1 := bulk_len (elems.map (·.1))
    simp only [List.length_map] at h1
    have key : ∀ i, i < len → ∃ z : Int, W.cell? (a.add i) = some (.int .u8 z) ∧ 0 ≤ z ∧ z ≤ 255 := by
      intro i hi
      have he := hel i hi
      obtain ⟨y, hy⟩ : ∃ y, elems[i]? = some y := ⟨_, List.getElem?_eq_getElem (by omega)⟩
      rw [hy, cellsU, Option.bind_eq_some_iff] at he
      obtain ⟨cs', hcs, hy'⟩ := he
      obtain ⟨hln, -, hce⟩ := World.cells?_some hcs
      obtain ⟨z, rfl, -, hz⟩ := DataW.trod_int Try.underlying5 hy'
      have g0 := hce 0 (by omega)
      rw [add_nought, Nat.mul_one] at g0
      exact ⟨z, g0, oct_of_wf hz⟩
    have at' : ∀ t (ht : t < len), ((List.range len).map fun i => if h : i < len then Classical.choose (key i h) else 0).getD t 0 = Classical.choose (key t ht) := fun t ht => by simp [List.getD, ht]
    refine ⟨some a, len, cap, (List.range len).map fun i => if h : i < len then Classical.choose (key i h) else 0, hcs, ⟨by simp, fun h => (by cases h), fun ad h t ht => ?_, fun t => ?_⟩, hl, by omega⟩
    · obtain rfl := Option.some.inj h
      rw [at' t ht]
      exact (Classical.choose_spec (key t ht)).1
    · by_cases hk : t < len
      · rw [at' t hk]
        exact (Classical.choose_spec (key t hk)).2
      · rw [List.getD_eq_getElem?_getD, List.getElem?_eq_none (by simp; omega)]
        simp
theorem view1T {H : Type} {enc : TypeId × Value → H} {W : World} {a0 : Option Addr} {len cap : Nat} {d : DataW H} {p : List MemPlace}
    (h : DataW.Trod enc Try.prog W 0 (fun _ => true) true 26 (Value.slice a0 len cap) d p) (hw : Rows.uptoBulk d ≤ 1048576) : ∃ Z : List Int, B1 W a0 len cap Z := by
  obtain ⟨fuel, hf⟩ := h
  obtain ⟨ao, n, c, Z, e, b⟩ := view1 hf hw
  simp [Value.cells] at e
  obtain ⟨rfl, rfl, rfl⟩ := e
  exact ⟨Z, b⟩
theorem cellsI : Try.prog.cellsOf 3 = 1 := by kernel_rfl
theorem cellsP : Try.prog.cellsOf 46 = 2 := by kernel_rfl
theorem cellsQ : Try.prog.cellsOf 22 = 1 := by kernel_rfl
theorem cellsB : Try.prog.cellsOf 26 = 1 := by kernel_rfl
theorem cellsM : Try.prog.cellsOf 24 = 6 := by kernel_rfl
theorem bytesP : Try.prog.bytesOf 46 = 32 := by kernel_rfl
theorem list2 {α : Type} {l : List α} (h : l.length = 2) : ∃ a b, l = [a, b] := by
  match l, h with
  | [a, b], _ => exact ⟨a, b, rfl⟩
theorem list6 {α : Type} {l : List α} (h : l.length = 6) : ∃ a b c d e f, l = [a, b, c, d, e, f] := by
  match l, h with
  | [a, b, c, d, e, f], _ => exact ⟨a, b, c, d, e, f, rfl⟩
theorem i64_of_wf {n : Int} (h : (Lit.int .i64 n).wf = true) : -9223372036854775808 ≤ n ∧ n ≤ 9223372036854775807 := by
  have e1 : IntKind.i64.min = -9223372036854775808 := by decide
  have e2 : IntKind.i64.max = 9223372036854775807 := by decide
  simp only [Lit.wf, e1, e2, Bool.and_eq_true, decide_eq_true_eq] at h
  exact h
/-- each part's bytes -/
def PU (w : World) (pn : Nat) (X : List Pt) (Y : List (List Int)) : Prop := ∀ k, k < pn → B1 w (X.getD k pt0).vo (X.getD k pt0).vn (X.getD k pt0).vc (Y.getD k [])
theorem open_partU {H : Type} {enc : TypeId × Value → H} {W : World} {fuel : Nat} {cs : List Value} {x : DataW H × List MemPlace}
    (h : DataW.trod enc Try.prog W 0 (fun _ => true) true fuel 46 cs = some x) (hw : Rows.uptoBulk x.1 ≤ 1048576) : ∃ (e : Pt) (Z : List Int), cs = (PC e).toList ∧ B1 W e.vo e.vn e.vc Z := by
  obtain ⟨xs, m, _, hx, hcl, hxl, hf⟩ := DataW.trod_struct Try.underlying46 h
  obtain ⟨v0, v1, rfl⟩ := list2 (hcl.trans cellsP)
  obtain ⟨y0, y1, rfl⟩ := list2 hxl
  have t0 := hf 0 _ rfl
  have t1 := hf 1 _ rfl
  simp [cellsI, cellsB] at t0 t1
  subst hx
  simp only [Rows.uptoBulk, Rows.uptoBulkAll, List.map_cons, List.map_nil] at hw
  obtain ⟨a, e0, -, _⟩ := DataW.trod_int Try.underlying3 t0
  simp only [List.cons.injEq, and_true] at e0
  subst e0
  obtain ⟨bo, n, bc, Z, e1, B⟩ := view1 t1 (by omega)
  simp only [List.cons.injEq, and_true] at e1
  subst e1
  exact ⟨⟨a, bo, n, bc⟩, Z, rfl, B⟩
theorem viewPU {H : Type} {enc : TypeId × Value → H} {W : World} {fuel : Nat} {v : Value} {x : DataW H × List MemPlace}
    (h : DataW.trod enc Try.prog W 0 (fun _ => true) true fuel 22 [v] = some x) (hw : Rows.uptoBulk x.1 ≤ 1048576) : ∃ (ao : Option Addr) (n cap : Nat) (L : List Pt) (Y : List (List Int)), v = .slice ao n cap ∧ PSrc W ao n cap L ∧ PU W n L Y := by
  rcases DataW.trod_slice Try.underlying22 h with h0 | ⟨a, len, cap, elems, rest, n, _, hcs, hx, hb, hl, hm, hlen, hel, hsp, hns⟩
  · have e : v = .slice none 0 0 := by simpa using h0.1
    exact ⟨none, 0, 0, [], [], e, PSrc.empty _, fun k hk => absurd hk (Nat.not_lt_zero k)⟩
  · subst hx
    have e : v = .slice (some a) len cap := by simpa using hcs
    simp only [Rows.uptoBulk] at hw
    have h1 := bulk_len (elems.map (·.1))
    simp only [List.length_map] at h1
    have key : ∀ i, i < len → ∃ p : Pt × List Int, PtAt W (a.add (i * 2)) p.1 ∧ B1 W p.1.vo p.1.vn p.1.vc p.2 := by
      intro i hi
      have he := hel i hi
      obtain ⟨y, hy⟩ : ∃ y, elems[i]? = some y := ⟨_, List.getElem?_eq_getElem (by omega)⟩
      have hby := bulk_at (elems.map (·.1)) y.1 (List.mem_map.2 ⟨y, List.mem_of_getElem? hy, rfl⟩)
      rw [hy, cellsP, Option.bind_eq_some_iff] at he
      obtain ⟨cs', hcs, hy'⟩ := he
      obtain ⟨_, -, hce⟩ := World.cells?_some hcs
      obtain ⟨e, Z, rfl, B⟩ := open_partU hy' (by omega)
      have g0 := hce 0 (by omega)
      rw [add_zero] at g0
      exact ⟨(e, Z), ⟨g0, hce 1 (by omega)⟩, B⟩
    have e1 : ∀ t, (ht : t < len) → ((List.range len).map fun i => if h : i < len then (Classical.choose (key i h)).1 else pt0).getD t pt0 = (Classical.choose (key t ht)).1 := fun t ht => by simp [List.getD, ht]
    have e2 : ∀ t, (ht : t < len) → ((List.range len).map fun i => if h : i < len then (Classical.choose (key i h)).2 else []).getD t [] = (Classical.choose (key t ht)).2 := fun t ht => by simp [List.getD, ht]
    refine ⟨some a, len, cap, (List.range len).map fun i => if h : i < len then (Classical.choose (key i h)).1 else pt0, (List.range len).map fun i => if h : i < len then (Classical.choose (key i h)).2 else [], e, ⟨by simp, fun h => (by cases h), fun ad h t ht => ?_, by omega⟩, fun k hk => ?_⟩
    · obtain rfl := Option.some.inj h
      rw [e1 t ht]
      exact (Classical.choose_spec (key t ht)).1
    · rw [e1 k hk, e2 k hk]
      exact (Classical.choose_spec (key k hk)).2
theorem open_mailU {H : Type} {enc : TypeId × Value → H} {W : World} {fuel : Nat} {cs : List Value} {x : DataW H × List MemPlace}
    (h : DataW.trod enc Try.prog W 0 (fun _ => true) true fuel 24 cs = some x) (hw : Rows.uptoBulk x.1 ≤ 1048576) :
    ∃ (a b c d e : Int) (po : Option Addr) (pn pc : Nat) (X : List Pt) (Y : List (List Int)), cs = (MC ⟨a, b, c, d, e, po, pn, pc⟩).toList ∧ MA W a b c d e po pn pc X Y := by
  obtain ⟨xs, m, _, hx, hcl, hxl, hf⟩ := DataW.trod_struct Try.underlying24 h
  obtain ⟨v0, v1, v2, v3, v4, v5, rfl⟩ := list6 (hcl.trans cellsM)
  obtain ⟨y0, y1, y2, y3, y4, y5, rfl⟩ := list6 hxl
  have t0 := hf 0 _ rfl
  have t1 := hf 1 _ rfl
  have t2 := hf 2 _ rfl
  have t3 := hf 3 _ rfl
  have t4 := hf 4 _ rfl
  have t5 := hf 5 _ rfl
  simp [cellsI, cellsQ] at t0 t1 t2 t3 t4 t5
  subst hx
  simp only [Rows.uptoBulk, Rows.uptoBulkAll, List.map_cons, List.map_nil] at hw
  obtain ⟨a, e0, -, _⟩ := DataW.trod_int Try.underlying3 t0
  obtain ⟨b, e1, -, _⟩ := DataW.trod_int Try.underlying3 t1
  obtain ⟨c, e2, -, _⟩ := DataW.trod_int Try.underlying3 t2
  obtain ⟨d, e3, -, _⟩ := DataW.trod_int Try.underlying3 t3
  obtain ⟨e, e4, -, we⟩ := DataW.trod_int Try.underlying3 t4
  obtain ⟨so, n, sc, L, Y, rfl, S5, P5⟩ := viewPU t5 (by omega)
  simp only [List.cons.injEq, and_true] at e0 e1 e2 e3 e4
  subst e0 e1 e2 e3 e4
  exact ⟨a, b, c, d, e, so, n, sc, L, Y, rfl, S5, fun k hk => (P5 k hk).s, (i64_of_wf we).2, fun k hk => by rw [(P5 k hk).s.1]; exact (P5 k hk).big⟩
end Go.Proofs.Ytpnlfljndkfplaa
