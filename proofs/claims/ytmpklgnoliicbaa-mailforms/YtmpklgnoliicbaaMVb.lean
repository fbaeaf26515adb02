/- A mail as an argument, opened with its parts' bytes. -/
import Derived.Test.YtmpklgnoliicbaaMVw
import Derived.Test.YtmpklgnoliicbaaMBd
namespace Go.Proofs.Ytmpklgnoliicbaa
open Go.ChangeShapes Go.WideShapes Go.ChangeAt Go.RowKit Go.Joins

theorem cellsU : Try.prog.cellsOf 5 = 1 := by kernel_rfl
theorem bytesU : Try.prog.bytesOf 5 = 1 := by kernel_rfl
theorem weights_mem_all {H : Type} {P : Program} {t : TypeId} {d : DataW H} : ∀ {ds : List (DataW H)} {j : Nat}, ds[j]? = some d → ∀ n ∈ d.weights P t, n ∈ DataW.weightsAll P t ds
  | d0 :: ds, 0, hd, n, hn => by
    simp only [List.getElem?_cons_zero, Option.some.injEq] at hd
    subst hd
    simp only [DataW.weightsAll, List.mem_append]
    exact Or.inl hn
  | d0 :: ds, j + 1, hd, n, hn => by
    simp only [List.getElem?_cons_succ] at hd
    simp only [DataW.weightsAll, List.mem_append]
    exact Or.inr (weights_mem_all hd n hn)
  | [], _, hd, _, _ => by simp at hd
theorem viewB {H : Type} {enc : TypeId × Value → H} {W : World} {fuel : Nat} {v : Value} {x : DataW H × List MemPlace}
    (h : DataW.trod enc Try.prog W 0 (fun _ => true) true fuel 32 [v] = some x) (hw : ∀ n ∈ x.1.weights Try.prog 32, n ≤ reachBytes) : ∃ (ao : Option Addr) (n cap : Nat) (Z : List Int), v = .slice ao n cap ∧ BSrc W ao n cap Z := by
  have h2 := reachBytes_lt
  rcases DataW.trod_slice Try.underlying32 h with h0 | ⟨a, len, cap, elems, rest, n, _, hcs, hx, hb, hl, hm, hlen, hel, hsp, hns⟩
  · have e : v = .slice none 0 0 := by simpa using h0.1
    exact ⟨none, 0, 0, [], e, BSrc.empty _⟩
  · subst hx
    have e : v = .slice (some a) len cap := by simpa using hcs
    have h1 := hw (((elems.map (·.1)).length + (rest.map (·.1)).length) * Try.prog.bytesOf 5) (by simp [DataW.weights, Try.underlying32])
    rw [bytesU] at h1
    simp at h1
    have key : ∀ i, i < len → ∃ z : Int, W.cell? (a.add i) = some (.int .u8 z) := by
      intro i hi
      have he := hel i hi
      obtain ⟨y, hy⟩ : ∃ y, elems[i]? = some y := ⟨_, List.getElem?_eq_getElem (by omega)⟩
      rw [hy, cellsU, Option.bind_eq_some_iff] at he
      obtain ⟨cs', hcs, hy'⟩ := he
      obtain ⟨hln, -, hce⟩ := World.cells?_some hcs
      obtain ⟨z, rfl, -, _⟩ := DataW.trod_int Try.underlying5 hy'
      have g0 := hce 0 (by omega)
      rw [add_zero, Nat.mul_one] at g0
      exact ⟨z, g0⟩
    refine ⟨some a, len, cap, (List.range len).map fun i => if h : i < len then Classical.choose (key i h) else 0, e, ⟨by simp, fun h => (by cases h), fun ad h t ht => ?_, by omega⟩⟩
    obtain rfl := Option.some.inj h
    have : ((List.range len).map fun i => if h : i < len then Classical.choose (key i h) else 0).getD t 0 = Classical.choose (key t ht) := by simp [List.getD, ht]
    rw [this]
    exact Classical.choose_spec (key t ht)
theorem open_partB {H : Type} {enc : TypeId × Value → H} {W : World} {fuel : Nat} {cs : List Value} {x : DataW H × List MemPlace}
    (h : DataW.trod enc Try.prog W 0 (fun _ => true) true fuel 43 cs = some x) (hw : ∀ n ∈ x.1.weights Try.prog 43, n ≤ reachBytes) : ∃ (e : Pt) (Z : List Int), cs = (PC e).toList ∧ BSrc W e.vo e.vn e.vc Z := by
  obtain ⟨xs, m, _, hx, hcl, hxl, hf⟩ := DataW.trod_struct Try.underlying43 h
  obtain ⟨v0, v1, rfl⟩ := list2 (hcl.trans cellsP)
  obtain ⟨y0, y1, rfl⟩ := list2 hxl
  have t0 := hf 0 _ rfl
  have t1 := hf 1 _ rfl
  simp [cellsI, cellsB] at t0 t1
  subst hx
  simp only [DataW.weights, Try.underlying43] at hw
  obtain ⟨a, e0, -, _⟩ := DataW.trod_int Try.underlying3 t0
  simp only [List.cons.injEq, and_true] at e0
  subst e0
  obtain ⟨bo, n, bc, Z, rfl, B⟩ := viewB t1 (fun n hn => hw n (DataW.weights_mem_each (j := 1) (t := 32) rfl rfl n hn))
  exact ⟨⟨a, bo, n, bc⟩, Z, rfl, B⟩
theorem viewPB {H : Type} {enc : TypeId × Value → H} {W : World} {fuel : Nat} {v : Value} {x : DataW H × List MemPlace}
    (h : DataW.trod enc Try.prog W 0 (fun _ => true) true fuel 22 [v] = some x) (hw : ∀ n ∈ x.1.weights Try.prog 22, n ≤ reachBytes) : ∃ (ao : Option Addr) (n cap : Nat) (L : List Pt) (Y : List (List Int)), v = .slice ao n cap ∧ PSrc W ao n cap L ∧ PB W n L Y := by
  have h2 := reachBytes_lt
  rcases DataW.trod_slice Try.underlying22 h with h0 | ⟨a, len, cap, elems, rest, n, _, hcs, hx, hb, hl, hm, hlen, hel, hsp, hns⟩
  · have e : v = .slice none 0 0 := by simpa using h0.1
    exact ⟨none, 0, 0, [], [], e, PSrc.empty _, fun k hk => absurd hk (Nat.not_lt_zero k)⟩
  · subst hx
    have e : v = .slice (some a) len cap := by simpa using hcs
    have h1 := hw (((elems.map (·.1)).length + (rest.map (·.1)).length) * Try.prog.bytesOf 43) (by simp [DataW.weights, Try.underlying22])
    rw [bytesP] at h1
    simp at h1
    have key : ∀ i, i < len → ∃ p : Pt × List Int, PtAt W (a.add (i * 2)) p.1 ∧ BSrc W p.1.vo p.1.vn p.1.vc p.2 := by
      intro i hi
      have he := hel i hi
      obtain ⟨y, hy⟩ : ∃ y, elems[i]? = some y := ⟨_, List.getElem?_eq_getElem (by omega)⟩
      rw [hy, cellsP, Option.bind_eq_some_iff] at he
      obtain ⟨cs', hcs, hy'⟩ := he
      obtain ⟨_, -, hce⟩ := World.cells?_some hcs
      obtain ⟨e, Z, rfl, B⟩ := open_partB hy' (fun k hk => hw k (by
        simp only [DataW.weights, Try.underlying22]
        exact List.mem_cons_of_mem _ (List.mem_append_left _ (weights_mem_all (j := i) (by rw [List.getElem?_map, hy]; rfl) k hk))))
      have g0 := hce 0 (by omega)
      rw [add_zero] at g0
      exact ⟨(e, Z), ⟨g0, hce 1 (by omega)⟩, B⟩
    have e1 : ∀ t, (ht : t < len) → ((List.range len).map fun i => if h : i < len then (Classical.choose (key i h)).1 else pt0).getD t pt0 = (Classical.choose (key t ht)).1 := fun t ht => by simp [List.getD, ht]
    have e2 : ∀ t, (ht : t < len) → ((List.range len).map fun i => if h : i < len then (Classical.choose (key i h)).2 else []).getD t [] = (Classical.choose (key t ht)).2 := fun t ht => by simp [List.getD, ht]
    refine ⟨some a, len, cap, (List.range len).map fun i => if h : i < len then (Classical.choose (key i h)).1 else pt0, (List.range len).map fun i => if h : i < len then (Classical.choose (key i h)).2 else [], e, ⟨by simp, fun h => (by cases h), fun ad h t ht => ?_, by omega⟩, fun k hk => ?_⟩
    · obtain rfl := Option.some.inj h
      rw [e1 t ht]
      exact (Classical.choose_spec (key t ht)).1
    · rw [e1 k hk, e2 k hk]
      exact (Classical.choose_spec (key k hk)).2
theorem open_mailB {H : Type} {enc : TypeId × Value → H} {W : World} {fuel : Nat} {cs : List Value} {x : DataW H × List MemPlace}
    (h : DataW.trod enc Try.prog W 0 (fun _ => true) true fuel 24 cs = some x) (hw : ∀ n ∈ x.1.weights Try.prog 24, n ≤ reachBytes) :
    ∃ (a b c d e : Int) (po : Option Addr) (pn pc : Nat) (X : List Pt) (Y : List (List Int)), cs = (MC ⟨a, b, c, d, e, po, pn, pc⟩).toList ∧ PSrc W po pn pc X ∧ PB W pn X Y ∧ e ≤ 9223372036854775807 := by
  obtain ⟨xs, m, _, hx, hcl, hxl, hf⟩ := DataW.trod_struct Try.underlying24 h
  obtain ⟨v0, v1, v2, v3, v4, v5, rfl⟩ := list6 (hcl.trans cellsM)
  obtain ⟨y0, y1, y2, y3, y4, y5, rfl⟩ := list6 hxl
  have t0 := hf 0 _ rfl
  have t1 := hf 1 _ rfl
  have t2 := hf 2 _ rfl
  have t3 := hf 3 _ rfl
  have t4 := hf 4 _ rfl
  have t5 := hf 5 _ rfl
  simp [cellsI, cellsQ] at t0 t1 t2 t3 t4 t5
  subst hx
  simp only [DataW.weights, Try.underlying24] at hw
  obtain ⟨a, e0, -, _⟩ := DataW.trod_int Try.underlying3 t0
  obtain ⟨b, e1, -, _⟩ := DataW.trod_int Try.underlying3 t1
  obtain ⟨c, e2, -, _⟩ := DataW.trod_int Try.underlying3 t2
  obtain ⟨d, e3, -, _⟩ := DataW.trod_int Try.underlying3 t3
  obtain ⟨e, e4, -, we⟩ := DataW.trod_int Try.underlying3 t4
  obtain ⟨so, n, sc, L, Y, rfl, S5, P5⟩ := viewPB t5 (fun n hn => hw n (DataW.weights_mem_each (j := 5) (t := 22) rfl rfl n hn))
  simp only [List.cons.injEq, and_true] at e0 e1 e2 e3 e4
  subst e0 e1 e2 e3 e4
  exact ⟨a, b, c, d, e, so, n, sc, L, Y, rfl, S5, P5, (i64_of_wf we).2⟩
end Go.Proofs.Ytmpklgnoliicbaa
