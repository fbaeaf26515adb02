/- An answer of small bulk, opened. -/
import Derived.Test.YtheiblagjeekjaaDoorTeW
import Derived.ProofKit
import Derived.OpenShut
import Derived.Lib.SmallJoins
import Derived.HandedShaped
import Derived.SizedLaws
import Derived.ChangeMaps5
namespace Go.Proofs.YtheiblagjeekjaaDoor
open Go.ChangeShapes Go.WideShapes Go.ChangeAt Go.RowKit Go.Joins

theorem laidOut : laidOutB Tryd.prog = true := by kernel_rfl
theorem cellsI : Tryd.prog.cellsOf 3 = 1 := by kernel_rfl
theorem cellsE : Tryd.prog.cellsOf 23 = 1 := by kernel_rfl
theorem cellsS : Tryd.prog.cellsOf 9 = 1 := by kernel_rfl
theorem cellsLn : Tryd.prog.cellsOf 31 = 3 := by kernel_rfl
theorem cellsLs : Tryd.prog.cellsOf 26 = 1 := by kernel_rfl
theorem cellsAn : Tryd.prog.cellsOf 28 = 4 := by kernel_rfl
theorem list3 {α : Type} {l : List α} (h : l.length = 3) : ∃ a b c, l = [a, b, c] := by
  match l, h with
  | [a, b, c], _ => exact ⟨a, b, c, rfl⟩
theorem list4 {α : Type} {l : List α} (h : l.length = 4) : ∃ a b c d, l = [a, b, c, d] := by
  match l, h with
  | [a, b, c, d], _ => exact ⟨a, b, c, d, rfl⟩
theorem int_rng {n : Int} (h : (Lit.int .i64 n).wf = true) : R64 n := by
  have : -9223372036854775808 ≤ n ∧ n ≤ 9223372036854775807 := by simpa [Lit.wf, IntKind.min, IntKind.max, IntKind.bits, IntKind.signed] using h
  exact ⟨this.1, this.2⟩
theorem open_line {H : Type} {enc : TypeId × Value → H} {w : World} {base : Nat} {spare : Nat → Bool} {held : Bool} {fuel : Nat} {cs : List Value} {x : DataW H × List MemPlace}
    (h : DataW.trod enc Tryd.prog w base spare held fuel 31 cs = some x) : ∃ e : Lne, cs = (LnC e).toList ∧ Rn e ∧ e.sku.size + 4 ≤ Rows.uptoBulk x.1 := by
  obtain ⟨xs, m, _, hx, hcl, hxl, hf⟩ := DataW.trod_struct Tryd.underlying31 h
  obtain ⟨v0, v1, v2, rfl⟩ := list3 (hcl.trans cellsLn)
  obtain ⟨y0, y1, y2, rfl⟩ := list3 hxl
  have t0 := hf 0 _ rfl
  have t1 := hf 1 _ rfl
  have t2 := hf 2 _ rfl
  simp [cellsI, cellsS] at t0 t1 t2
  obtain ⟨a, e0, z0, _⟩ := DataW.trod_string Tryd.underlying9 t0
  obtain ⟨b, e1, z1, r1⟩ := DataW.trod_int Tryd.underlying3 t1
  obtain ⟨c, e2, z2, r2⟩ := DataW.trod_int Tryd.underlying3 t2
  simp only [List.cons.injEq, and_true] at e0 e1 e2
  subst e0 e1 e2
  refine ⟨⟨a, b, c⟩, rfl, ⟨(int_rng r1).lo, (int_rng r1).hi, (int_rng r2).lo, (int_rng r2).hi⟩, ?_⟩
  rw [hx, z0, z1, z2]
  simp [Rows.uptoBulk, Rows.uptoBulkAll]
theorem bulk_map {H : Type} : ∀ (es : List (DataW H × List MemPlace)) (Q : List Lne), Q.length = es.length → (∀ (i : Nat) (e : DataW H × List MemPlace) (q : Lne), es[i]? = some e → Q[i]? = some q → q.sku.size + 4 ≤ Rows.uptoBulk e.1) → wtL Q ≤ 16 * Rows.uptoBulkAll (es.map (·.1))
  | [], [], _, _ => by simp [wtL]
  | [], q :: Q, h, _ => by simp at h
  | e :: es, [], h, _ => by simp at h
  | e :: es, q :: Q, h, hk => by
    have h1 := hk 0 e q rfl rfl
    have h2 := bulk_map es Q (by simpa using h) (fun i e q he hq => hk (i + 1) e q (by simpa using he) (by simpa using hq))
    rw [wtL_cons, List.map_cons]
    simp only [Rows.uptoBulkAll]
    omega
theorem viewL {H : Type} {enc : TypeId × Value → H} {W : World} {fuel : Nat} {v : Value} {x : DataW H × List MemPlace}
    (h : DataW.trod enc Tryd.prog W 0 (fun _ => true) true fuel 26 [v] = some x) (hw : Rows.uptoBulk x.1 ≤ 1048576) : ∃ (ao : Option Addr) (n cap : Nat) (Q : List Lne), v = .slice ao n cap ∧ LnSrc W ao n cap Q ∧ (∀ m, m ∈ Q → Rn m) ∧ wtL Q ≤ 100000000 := by
  rcases DataW.trod_slice Tryd.underlying26 h with h0 | ⟨a, len, cap, elems, rest, n, _, hcs, hx, hb, hl, hm, hlen, hel, hsp, hns⟩
  · have e : v = .slice none 0 0 := by simpa using h0.1
    exact ⟨none, 0, 0, [], e, LnSrc.empty W, (fun m hm => by cases hm), by decide⟩
  · subst hx
    have e : v = .slice (some a) len cap := by simpa using hcs
    simp only [Rows.uptoBulk] at hw
    have key : ∀ i, i < len → ∃ q : Lne, LnAt W (a.add (i * 3)) q ∧ Rn q ∧ ∀ y, elems[i]? = some y → q.sku.size + 4 ≤ Rows.uptoBulk y.1 := by
      intro i hi
      have he := hel i hi
      obtain ⟨y, hy⟩ : ∃ y, elems[i]? = some y := ⟨_, List.getElem?_eq_getElem (by omega)⟩
      rw [hy, cellsLn, Option.bind_eq_some_iff] at he
      obtain ⟨cs', hcs, hy'⟩ := he
      obtain ⟨_, -, hce⟩ := World.cells?_some hcs
      obtain ⟨q, rfl, hR, hB⟩ := open_line hy'
      have g0 := hce 0 (by omega)
      rw [add_nought] at g0
      exact ⟨q, ⟨g0, hce 1 (by omega), hce 2 (by omega)⟩, hR, fun y' hy2 => by rw [hy] at hy2; cases hy2; exact hB⟩
    obtain ⟨Q, hQ⟩ : ∃ Q, Q = (List.range len).map fun i => if h : i < len then Classical.choose (key i h) else ln0 := ⟨_, rfl⟩
    have hQl : Q.length = len := by rw [hQ]; simp
    have hQi : ∀ i (hi : i < len), Q[i]? = some (Classical.choose (key i hi)) := fun i hi => by rw [hQ]; simp [hi]
    have hQd : ∀ i (hi : i < len), Q.getD i ln0 = Classical.choose (key i hi) := fun i hi => by simp [List.getD, hQi i hi]
    refine ⟨some a, len, cap, Q, e, ⟨hQl, fun h => (by cases h), fun ad h t ht => ?_⟩, fun m hm => ?_, ?_⟩
    · obtain rfl := Option.some.inj h
      rw [hQd t ht]
      exact (Classical.choose_spec (key t ht)).1
    · obtain ⟨i, hi, rfl⟩ := List.getElem_of_mem hm
      have := hQi i (by omega)
      rw [List.getElem?_eq_getElem hi] at this
      rw [Option.some.inj this]
      exact (Classical.choose_spec (key i (by omega))).2.1
    · have := bulk_map elems Q (by omega) (fun i e q he hq => by
        have hi : i < len := by have := (List.getElem?_eq_some_iff.1 hq).1; omega
        rw [hQi i hi] at hq
        cases hq
        exact (Classical.choose_spec (key i hi)).2.2 e he)
      omega
theorem open_answer {H : Type} {enc : TypeId × Value → H} {W : World} {fuel : Nat} {cs : List Value} {x : DataW H × List MemPlace}
    (h : DataW.trod enc Tryd.prog W 0 (fun _ => true) true fuel 28 cs = some x) (hw : Rows.uptoBulk x.1 ≤ 1048576) :
    ∃ (st : Int) (so : Option Addr) (n c : Nat) (Q : List Lne) (tok msg : Int), cs = [.int .i64 st, .slice so n c, .int .i64 tok, .int .i64 msg] ∧ R64 st ∧ R64 tok ∧ R64 msg ∧ LnSrc W so n c Q ∧ (∀ m, m ∈ Q → Rn m) ∧ wtL Q ≤ 100000000 := by
  obtain ⟨xs, m, _, hx, hcl, hxl, hf⟩ := DataW.trod_struct Tryd.underlying28 h
  obtain ⟨v0, v1, v2, v3, rfl⟩ := list4 (hcl.trans cellsAn)
  obtain ⟨y0, y1, y2, y3, rfl⟩ := list4 hxl
  have t0 := hf 0 _ rfl
  have t1 := hf 1 _ rfl
  have t2 := hf 2 _ rfl
  have t3 := hf 3 _ rfl
  simp [cellsI, cellsE, cellsLs] at t0 t1 t2 t3
  subst hx
  simp only [Rows.uptoBulk, Rows.uptoBulkAll, List.map_cons, List.map_nil] at hw
  obtain ⟨st, e0, -, r0⟩ := DataW.trod_int Tryd.underlying23 t0
  obtain ⟨so, n, c, Q, rfl, S, hR, hW⟩ := viewL t1 (by omega)
  obtain ⟨tok, e2, -, r2⟩ := DataW.trod_int Tryd.underlying3 t2
  obtain ⟨msg, e3, -, r3⟩ := DataW.trod_int Tryd.underlying3 t3
  simp only [List.cons.injEq, and_true] at e0 e2 e3
  subst e0 e2 e3
  exact ⟨st, so, n, c, Q, tok, msg, rfl, int_rng r0, int_rng r2, int_rng r3, S, hR, hW⟩
end Go.Proofs.YtheiblagjeekjaaDoor
