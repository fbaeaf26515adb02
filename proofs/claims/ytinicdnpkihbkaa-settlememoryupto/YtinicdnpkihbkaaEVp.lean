/- Arguments of type []Pair and Pair, opened. -/
import Derived.Test.YtinicdnpkihbkaaEVw
import Derived.Test.YtinicdnpkihbkaaERw
namespace Go.Proofs.Ytinicdnpkihbkaa
open Go.ChangeShapes Go.WideShapes Go.ChangeAt Go.RowKit Go.Joins

theorem cellsP : Try.prog.cellsOf 28 = 2 := by kernel_rfl
theorem cellsI : Try.prog.cellsOf 3 = 1 := by kernel_rfl
theorem bytesP : Try.prog.bytesOf 28 = 16 := by kernel_rfl
theorem bulk_pos {H : Type} (d : DataW H) : 1 ≤ Rows.uptoBulk d := by
  cases d with
  | lit l => cases l <;> simp only [Rows.uptoBulk] <;> omega
  | _ => simp only [Rows.uptoBulk] <;> omega
theorem bulk_len {H : Type} : ∀ (l : List (DataW H)), l.length ≤ Rows.uptoBulkAll l
  | [] => by simp
  | d :: l => by have := bulk_len l; have := bulk_pos d; simp only [Rows.uptoBulkAll, List.length_cons]; omega
theorem bulk_at {H : Type} : ∀ (l : List (DataW H)) (d : DataW H), d ∈ l → Rows.uptoBulk d ≤ Rows.uptoBulkAll l
  | e :: l, d, h => by
    simp only [Rows.uptoBulkAll]
    rcases List.mem_cons.1 h with rfl | h
    · omega
    · have := bulk_at l d h; omega
theorem list2 {α : Type} {l : List α} (h : l.length = 2) : ∃ a b, l = [a, b] := by
  match l, h with
  | [a, b], _ => exact ⟨a, b, rfl⟩
theorem open_pair {H : Type} {enc : TypeId × Value → H} {w : World} {base : Nat} {spare : Nat → Bool} {held : Bool} {fuel : Nat} {cs : List Value} {x : DataW H × List MemPlace}
    (h : DataW.trod enc Try.prog w base spare held fuel 28 cs = some x) : ∃ e : Pr, cs = (PC e).toList := by
  obtain ⟨xs, m, _, hx, hcl, hxl, hf⟩ := DataW.trod_struct Try.underlying28 h
  obtain ⟨v0, v1, rfl⟩ := list2 (hcl.trans cellsP)
  obtain ⟨y0, y1, rfl⟩ := list2 hxl
  have t0 := hf 0 _ rfl
  have t1 := hf 1 _ rfl
  simp [cellsI] at t0 t1
  obtain ⟨a, e0, -, _⟩ := DataW.trod_int Try.underlying3 t0
  obtain ⟨b, e1, -, _⟩ := DataW.trod_int Try.underlying3 t1
  simp only [List.cons.injEq, and_true] at e0 e1
  subst e0 e1
  exact ⟨⟨a, b⟩, rfl⟩
/-- a pair that is handed in -/
theorem openPair {H : Type} {enc : TypeId × Value → H} {w : World} {base b0 : Nat} {spare : Nat → Bool} {held : Bool} {r : Reach} {v : Value} {d : DataW H} {ps : List MemPlace}
    (hv : Value.okWide Try.prog w r b0 28 v) (h : DataW.Trod enc Try.prog w base spare held 28 v d ps) : ∃ a b : Int, v = .agg #[.int .i64 a, .int .i64 b] := by
  obtain ⟨cs, rfl, hsz⟩ := okWide_struct Try.underlying28 hv
  obtain ⟨fuel, hf⟩ := h
  have hcells : (Value.agg cs).cells = cs := by simp [Value.cells]
  rw [hcells] at hf
  obtain ⟨e, he⟩ := open_pair hf
  obtain ⟨a, b⟩ := e
  refine ⟨a, b, ?_⟩
  congr 1
  rw [← Array.toList_inj]
  exact he
theorem pairs_key {H : Type} {enc : TypeId × Value → H} {W : World} {a : Addr} {len : Nat} {elems : List (DataW H × List MemPlace)} {fuel : Nat} (hlen : elems.length = len)
    (hel : ∀ i, i < len → (W.cells? 0 (a.add (i * Try.prog.cellsOf 28)) (Try.prog.cellsOf 28)).bind (DataW.trod enc Try.prog W 0 (fun _ => true) true fuel 28) = elems[i]?) : ∃ L : List Pr, L.length = len ∧ ∀ t, t < len → PAt W (a.add (t * 2)) (L.getD t p0) := by
  have key : ∀ i, i < len → ∃ e : Pr, PAt W (a.add (i * 2)) e := by
    intro i hi
    have he := hel i hi
    obtain ⟨y, hy⟩ : ∃ y, elems[i]? = some y := ⟨_, List.getElem?_eq_getElem (by omega)⟩
    rw [hy, cellsP, Option.bind_eq_some_iff] at he
    obtain ⟨cs', hcs, hy'⟩ := he
    obtain ⟨_, -, hce⟩ := World.cells?_some hcs
    obtain ⟨e, rfl⟩ := open_pair hy'
    have g0 := hce 0 (by omega)
    rw [add_nought] at g0
    exact ⟨e, ⟨g0, hce 1 (by omega)⟩⟩
  have at' : ∀ t (ht : t < len), ((List.range len).map fun i => if h : i < len then Classical.choose (key i h) else p0).getD t p0 = Classical.choose (key t ht) := fun t ht => by simp [List.getD, ht]
  refine ⟨(List.range len).map fun i => if h : i < len then Classical.choose (key i h) else p0, by simp, fun t ht => ?_⟩
  rw [at' t ht]
  exact Classical.choose_spec (key t ht)
/-- pairs of small bulk -/
structure P1 (W : World) (ao : Option Addr) (n c : Nat) (P : List Pr) : Prop where
  s : PSrc W ao n c P
  big : n ≤ 1048576
theorem viewP {H : Type} {enc : TypeId × Value → H} {W : World} {a0 : Option Addr} {len cap : Nat} {d : DataW H} {p : List MemPlace}
    (h : DataW.Trod enc Try.prog W 0 (fun _ => true) true 22 (Value.slice a0 len cap) d p) (hw : Rows.uptoBulk d ≤ 1048576) :
    ∃ L : List Pr, P1 W a0 len cap L := by
  obtain ⟨fuel, hf⟩ := h
  rcases DataW.trod_slice Try.underlying22 hf with h0 | ⟨a, len', cap', elems, rest, n, _, hcs, hx, hb, hl, hm, hlen, hel, hsp, hns⟩
  · have hcs := h0.1
    simp [Value.cells] at hcs
    obtain ⟨rfl, rfl, rfl⟩ := hcs
    exact ⟨[], PSrc.empty W, Nat.zero_le _⟩
  · simp [Value.cells] at hcs
    obtain ⟨rfl, rfl, rfl⟩ := hcs
    simp only [Prod.mk.injEq] at hx
    obtain ⟨rfl, _⟩ := hx
    simp only [Rows.uptoBulk] at hw
    have h1 := bulk_len (elems.map (·.1))
    simp only [List.length_map] at h1
    obtain ⟨L, hL, hA⟩ := pairs_key hlen hel
    refine ⟨L, ⟨hL, fun h => (by cases h), fun ad h t ht => ?_⟩, by omega⟩
    obtain rfl := Option.some.inj h
    exact hA t ht
/-- pairs, as many as Go allows -/
structure PF (W : World) (ao : Option Addr) (n c : Nat) (P : List Pr) : Prop where
  s : PSrc W ao n c P
  big : n ≤ 8796093021952
theorem viewPF {H : Type} {enc : TypeId × Value → H} {W : World} {a0 : Option Addr} {len cap : Nat} {d : DataW H} {p : List MemPlace}
    (h : DataW.Trod enc Try.prog W 0 (fun _ => true) true 22 (Value.slice a0 len cap) d p) (hw : ∀ n ∈ DataW.weights Try.prog 22 d, n ≤ reachBytes) :
    ∃ L : List Pr, PF W a0 len cap L := by
  obtain ⟨fuel, hf⟩ := h
  rcases DataW.trod_slice Try.underlying22 hf with h0 | ⟨a, len', cap', elems, rest, n, _, hcs, hx, hb, hl, hm, hlen, hel, hsp, hns⟩
  · have hcs := h0.1
    simp [Value.cells] at hcs
    obtain ⟨rfl, rfl, rfl⟩ := hcs
    exact ⟨[], PSrc.empty W, Nat.zero_le _⟩
  · simp [Value.cells] at hcs
    obtain ⟨rfl, rfl, rfl⟩ := hcs
    simp only [Prod.mk.injEq] at hx
    obtain ⟨rfl, _⟩ := hx
    have h1 := hw (((elems.map (·.1)).length + (rest.map (·.1)).length) * Try.prog.bytesOf 28) (by simp [DataW.weights, Try.underlying22])
    rw [bytesP] at h1
    simp only [List.length_map] at h1
    unfold reachBytes at h1
    obtain ⟨L, hL, hA⟩ := pairs_key hlen hel
    refine ⟨L, ⟨hL, fun h => (by cases h), fun ad h t ht => ?_⟩, by omega⟩
    obtain rfl := Option.some.inj h
    exact hA t ht
end Go.Proofs.Ytinicdnpkihbkaa
