/- Steps and scripts of small bulk, opened. -/
import Derived.Test.YtocfbanbphhhbaaDoorJPt
import Derived.ProofKit
import Derived.OpenShut
import Derived.Lib.SmallJoins
import Derived.HandedShaped
import Derived.SizedLaws
import Derived.ChangeMaps5
namespace Go.Proofs.YtocfbanbphhhbaaDoor
open Go.ChangeShapes Go.WideShapes Go.ChangeAt Go.RowKit Go.Joins

theorem laidOut : laidOutB Tryd.prog = true := by kernel_rfl
theorem cellsI : Tryd.prog.cellsOf 3 = 1 := by kernel_rfl
theorem cellsS : Tryd.prog.cellsOf 9 = 1 := by kernel_rfl
theorem cellsLn : Tryd.prog.cellsOf 31 = 7 := by kernel_rfl
theorem cellsLs : Tryd.prog.cellsOf 24 = 1 := by kernel_rfl
theorem cellsAn : Tryd.prog.cellsOf 26 = 7 := by kernel_rfl
theorem cellsHd : Tryd.prog.cellsOf 23 = 6 := by kernel_rfl
theorem list2 {α : Type} {l : List α} (h : l.length = 2) : ∃ a b, l = [a, b] := by
  match l, h with
  | [a, b], _ => exact ⟨a, b, rfl⟩
theorem list6 {α : Type} {l : List α} (h : l.length = 6) : ∃ a b c d e f, l = [a, b, c, d, e, f] := by
  match l, h with
  | [a, b, c, d, e, f], _ => exact ⟨a, b, c, d, e, f, rfl⟩
theorem list7 {α : Type} {l : List α} (h : l.length = 7) : ∃ a b c d e f g, l = [a, b, c, d, e, f, g] := by
  match l, h with
  | [a, b, c, d, e, f, g], _ => exact ⟨a, b, c, d, e, f, g, rfl⟩
theorem int_rng {n : Int} (h : (Lit.int .i64 n).wf = true) : R64 n := by
  have : -9223372036854775808 ≤ n ∧ n ≤ 9223372036854775807 := by simpa [Lit.wf, IntKind.min, IntKind.max, IntKind.bits, IntKind.signed] using h
  exact ⟨this.1, this.2⟩
theorem open_line {H : Type} {enc : TypeId × Value → H} {w : World} {base : Nat} {spare : Nat → Bool} {held : Bool} {fuel : Nat} {cs : List Value} {x : DataW H × List MemPlace}
    (h : DataW.trod enc Tryd.prog w base spare held fuel 31 cs = some x) : ∃ e : Sp, cs = (OC e).toList ∧ ((∀ f, -9223372036854775808 ≤ fdN e f) ∧ ∀ f, fdN e f ≤ 9223372036854775807) ∧ e.sku.size + 8 ≤ Rows.uptoBulk x.1 := by
  obtain ⟨xs, m, _, hx, hcl, hxl, hf⟩ := DataW.trod_struct Tryd.underlying31 h
  obtain ⟨v0, v1, v2, v3, v4, v5, v6, rfl⟩ := list7 (hcl.trans cellsLn)
  obtain ⟨y0, y1, y2, y3, y4, y5, y6, rfl⟩ := list7 hxl
  have t0 := hf 0 _ rfl
  have t1 := hf 1 _ rfl
  have t2 := hf 2 _ rfl
  have t3 := hf 3 _ rfl
  have t4 := hf 4 _ rfl
  have t5 := hf 5 _ rfl
  have t6 := hf 6 _ rfl
  simp [cellsI, cellsS] at t0 t1 t2 t3 t4 t5 t6
  obtain ⟨a0, e0, z0, r0⟩ := DataW.trod_int Tryd.underlying3 t0
  obtain ⟨a1, e1, z1, r1⟩ := DataW.trod_int Tryd.underlying3 t1
  obtain ⟨a2, e2, z2, r2⟩ := DataW.trod_int Tryd.underlying3 t2
  obtain ⟨a3, e3, z3, r3⟩ := DataW.trod_int Tryd.underlying3 t3
  obtain ⟨a4, e4, z4, _⟩ := DataW.trod_string Tryd.underlying9 t4
  obtain ⟨a5, e5, z5, r5⟩ := DataW.trod_int Tryd.underlying3 t5
  obtain ⟨a6, e6, z6, r6⟩ := DataW.trod_int Tryd.underlying3 t6
  simp only [List.cons.injEq, and_true] at e0 e1 e2 e3 e4 e5 e6
  subst e0 e1 e2 e3 e4 e5 e6
  have q : ∀ f, R64 (fdN ⟨a0, a1, a2, a3, a4, a5, a6⟩ f) := by
    intro f
    unfold fdN
    simp only
    repeat' split
    · exact int_rng r0
    · exact int_rng r1
    · exact int_rng r2
    · exact int_rng r3
    · exact int_rng r5
    · exact int_rng r6
  refine ⟨⟨a0, a1, a2, a3, a4, a5, a6⟩, rfl, ⟨fun f => (q f).lo, fun f => (q f).hi⟩, ?_⟩
  rw [hx, z0, z1, z2, z3, z4, z5, z6]
  simp [Rows.uptoBulk, Rows.uptoBulkAll]
  omega
theorem bulk_map {H : Type} : ∀ (es : List (DataW H × List MemPlace)) (Q : List Sp), Q.length = es.length → (∀ (i : Nat) (e : DataW H × List MemPlace) (q : Sp), es[i]? = some e → Q[i]? = some q → q.sku.size + 8 ≤ Rows.uptoBulk e.1) → wtO Q ≤ 20 * Rows.uptoBulkAll (es.map (·.1))
  | [], [], _, _ => by simp [wtO]
  | [], q :: Q, h, _ => by simp at h
  | e :: es, [], h, _ => by simp at h
  | e :: es, q :: Q, h, hk => by
    have h1 := hk 0 e q rfl rfl
    have h2 := bulk_map es Q (by simpa using h) (fun i e q he hq => hk (i + 1) e q (by simpa using he) (by simpa using hq))
    rw [wtO_cons, List.map_cons]
    simp only [Rows.uptoBulkAll]
    omega
theorem bulk_at {H : Type} : ∀ (l : List (DataW H)) (d : DataW H), d ∈ l → Rows.uptoBulk d ≤ Rows.uptoBulkAll l
  | e :: l, d, h => by
    simp only [Rows.uptoBulkAll]
    rcases List.mem_cons.1 h with rfl | h
    · omega
    · have := bulk_at l d h; omega
theorem viewL {H : Type} {enc : TypeId × Value → H} {W : World} {fuel : Nat} {v : Value} {x : DataW H × List MemPlace}
    (h : DataW.trod enc Tryd.prog W 0 (fun _ => true) true fuel 24 [v] = some x) (hw : Rows.uptoBulk x.1 ≤ 1048576) : ∃ (ao : Option Addr) (n cap : Nat) (Q : List Sp), v = .slice ao n cap ∧ OSrc W ao n cap Q ∧ (∀ m, m ∈ Q → Ok m) ∧ wtO Q ≤ 100000000 := by
  rcases DataW.trod_slice Tryd.underlying24 h with h0 | ⟨a, len, cap, elems, rest, n, _, hcs, hx, hb, hl, hm, hlen, hel, hsp, hns⟩
  · have e : v = .slice none 0 0 := by simpa using h0.1
    exact ⟨none, 0, 0, [], e, ⟨rfl, (fun _ => ⟨rfl, rfl⟩), (fun ad h => by cases h)⟩, (fun m hm => by cases hm), by decide⟩
  · subst hx
    have e : v = .slice (some a) len cap := by simpa using hcs
    simp only [Rows.uptoBulk] at hw
    have key : ∀ i, i < len → ∃ q : Sp, OAt W (a.add (i * 7)) q ∧ ((∀ f, -9223372036854775808 ≤ fdN q f) ∧ ∀ f, fdN q f ≤ 9223372036854775807) ∧ ∀ y, elems[i]? = some y → q.sku.size + 8 ≤ Rows.uptoBulk y.1 := by
      intro i hi
      have he := hel i hi
      obtain ⟨y, hy⟩ : ∃ y, elems[i]? = some y := ⟨_, List.getElem?_eq_getElem (by omega)⟩
      rw [hy, cellsLn, Option.bind_eq_some_iff] at he
      obtain ⟨cs', hcs, hy'⟩ := he
      obtain ⟨_, -, hce⟩ := World.cells?_some hcs
      obtain ⟨q, rfl, hR, hB⟩ := open_line hy'
      have g0 := hce 0 (by omega)
      rw [add_nought] at g0
      exact ⟨q, ⟨g0, hce 1 (by omega), hce 2 (by omega), hce 3 (by omega), hce 4 (by omega), hce 5 (by omega), hce 6 (by omega)⟩, hR, fun y' hy2 => by rw [hy] at hy2; cases hy2; exact hB⟩
    obtain ⟨Q, hQ⟩ : ∃ Q, Q = (List.range len).map fun i => if h : i < len then Classical.choose (key i h) else sp0 := ⟨_, rfl⟩
    have hQl : Q.length = len := by rw [hQ]; simp
    have hQi : ∀ i (hi : i < len), Q[i]? = some (Classical.choose (key i hi)) := fun i hi => by rw [hQ]; simp [hi]
    have hQd : ∀ i (hi : i < len), Q.getD i sp0 = Classical.choose (key i hi) := fun i hi => by simp [List.getD, hQi i hi]
    refine ⟨some a, len, cap, Q, e, ⟨hQl, fun h => (by cases h), fun ad h t ht => ?_⟩, fun m hm => ?_, ?_⟩
    · obtain rfl := Option.some.inj h
      rw [hQd t ht]
      exact (Classical.choose_spec (key t ht)).1
    · obtain ⟨i, hi, rfl⟩ := List.getElem_of_mem hm
      have := hQi i (by omega)
      rw [List.getElem?_eq_getElem hi] at this
      rw [Option.some.inj this]
      have c := (Classical.choose_spec (key i (by omega))).2
      have h5 := c.2 elems[i] (List.getElem?_eq_getElem (by omega))
      have h6 := bulk_at (elems.map (·.1)) elems[i].1 (List.mem_map.2 ⟨_, List.getElem_mem _, rfl⟩)
      exact ⟨c.1.1, c.1.2, by omega⟩
    · have := bulk_map elems Q (by omega) (fun i e q he hq => by
        have hi : i < len := by have := (List.getElem?_eq_some_iff.1 hq).1; omega
        rw [hQi i hi] at hq
        cases hq
        exact (Classical.choose_spec (key i hi)).2.2 e he)
      omega
theorem open_script {H : Type} {enc : TypeId × Value → H} {W : World} {fuel : Nat} {cs : List Value} {x : DataW H × List MemPlace}
    (h : DataW.trod enc Tryd.prog W 0 (fun _ => true) true fuel 26 cs = some x) (hw : Rows.uptoBulk x.1 ≤ 1048576) :
    ∃ (a b c d e f : Int) (so : Option Addr) (n sc : Nat) (Q : List Sp), cs = [.int .i64 a, .int .i64 b, .int .i64 c, .int .i64 d, .int .i64 e, .int .i64 f, .slice so n sc] ∧ (∀ n, n ∈ [a, b, c, d, e, f] → R64 n) ∧ OSrc W so n sc Q ∧ (∀ m, m ∈ Q → Ok m) ∧ wtO Q ≤ 100000000 := by
  obtain ⟨xs, m, hm, hx, hcl, hxl, hf⟩ := DataW.trod_struct Tryd.underlying26 h
  obtain ⟨v0, v1, v2, v3, v4, v5, v6, rfl⟩ := list7 (hcl.trans cellsAn)
  obtain ⟨y0, y1, rfl⟩ := list2 hxl
  have t0 := hf 0 _ rfl
  have t1 := hf 1 _ rfl
  simp [cellsHd, cellsLs] at t0 t1
  subst hx
  simp only [Rows.uptoBulk, Rows.uptoBulkAll, List.map_cons, List.map_nil] at hw
  obtain ⟨so, n, sc, Q, rfl, S, hR, hW⟩ := viewL t1 (by omega)
  obtain ⟨ys, m2, _, hx2, hcl2, hxl2, hf2⟩ := DataW.trod_struct Tryd.underlying23 t0
  obtain ⟨u0, u1, u2, u3, u4, u5, rfl⟩ := list6 hxl2
  have s0 := hf2 0 _ rfl
  have s1 := hf2 1 _ rfl
  have s2 := hf2 2 _ rfl
  have s3 := hf2 3 _ rfl
  have s4 := hf2 4 _ rfl
  have s5 := hf2 5 _ rfl
  simp [cellsI] at s0 s1 s2 s3 s4 s5
  obtain ⟨a0, e0, -, r0⟩ := DataW.trod_int Tryd.underlying3 s0
  obtain ⟨a1, e1, -, r1⟩ := DataW.trod_int Tryd.underlying3 s1
  obtain ⟨a2, e2, -, r2⟩ := DataW.trod_int Tryd.underlying3 s2
  obtain ⟨a3, e3, -, r3⟩ := DataW.trod_int Tryd.underlying3 s3
  obtain ⟨a4, e4, -, r4⟩ := DataW.trod_int Tryd.underlying3 s4
  obtain ⟨a5, e5, -, r5⟩ := DataW.trod_int Tryd.underlying3 s5
  simp only [List.cons.injEq, and_true] at e0 e1 e2 e3 e4 e5
  subst e0 e1 e2 e3 e4 e5
  refine ⟨a0, a1, a2, a3, a4, a5, so, n, sc, Q, rfl, ?_, S, hR, hW⟩
  intro k hk
  simp only [List.mem_cons, List.not_mem_nil, or_false] at hk
  rcases hk with rfl | rfl | rfl | rfl | rfl | rfl
  · exact int_rng r0
  · exact int_rng r1
  · exact int_rng r2
  · exact int_rng r3
  · exact int_rng r4
  · exact int_rng r5
end Go.Proofs.YtocfbanbphhhbaaDoor
