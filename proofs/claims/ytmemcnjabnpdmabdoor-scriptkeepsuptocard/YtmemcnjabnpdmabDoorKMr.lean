/- Rows of ops: a row read is appended; one op is put; what stands while a script and one op more are laid. -/
import Derived.Test.YtmemcnjabnpdmabDoorKUt
import Derived.Test.YtmemcnjabnpdmabDoorKLk
import Derived.Laws.OwnMore
import Derived.Deep.MidRow
namespace Go.Proofs.YtmemcnjabnpdmabDoor
open Go.RowKit T Y V
variable {w w' w2 : World} {g : Nat}

theorem addr_add (a : Addr) (x y : Nat) : (a.add x).add y = a.add (x + y) := by
  unfold Addr.add
  split <;> split <;> simp_all <;> omega
theorem OSrc.flat {so : Option Addr} {m c : Nat} {X : List Sp} (S : OSrc w so m c X) (ad : Addr) (hb : so = some ad) (j : Nat) (u : Value) (hj : (ocs X)[j]? = some u) : w.cell? (ad.add j) = some u := by
  have hjl : j < (ocs X).length := (List.getElem?_eq_some_iff.1 hj).1
  rw [ocs_length, S.len] at hjl
  have A := S.cell ad hb (j / 7) (by omega)
  have h1 := ocs_at X (j / 7) (j % 7) (by rw [S.len]; omega) (by omega)
  rw [show j / 7 * 7 + j % 7 = j by omega, hj] at h1
  obtain ⟨c0, c1, c2, c3, c4, c5, c6⟩ := A
  rw [addr_add] at c1 c2 c3 c4 c5 c6
  rcases (show j % 7 = 0 ∨ j % 7 = 1 ∨ j % 7 = 2 ∨ j % 7 = 3 ∨ j % 7 = 4 ∨ j % 7 = 5 ∨ j % 7 = 6 by omega) with e | e | e | e | e | e | e
  · rw [e] at h1; rw [show j / 7 * 7 = j by omega] at c0; rw [c0, h1]; rfl
  · rw [e] at h1; rw [show j / 7 * 7 + 1 = j by omega] at c1; rw [c1, h1]; rfl
  · rw [e] at h1; rw [show j / 7 * 7 + 2 = j by omega] at c2; rw [c2, h1]; rfl
  · rw [e] at h1; rw [show j / 7 * 7 + 3 = j by omega] at c3; rw [c3, h1]; rfl
  · rw [e] at h1; rw [show j / 7 * 7 + 4 = j by omega] at c4; rw [c4, h1]; rfl
  · rw [e] at h1; rw [show j / 7 * 7 + 5 = j by omega] at c5; rw [c5, h1]; rfl
  · rw [e] at h1; rw [show j / 7 * 7 + 6 = j by omega] at c6; rw [c6, h1]; rfl
/-- append of a row that is read -/
theorem OR.runsS {ao so : Option Addr} {n c m c3 : Nat} {Q X : List Sp} (h : OR w ao n c Q) (S : OSrc w so m c3 X) (hb : n + m ≤ 2199023255452) (ty : TypeId) :
    ∃ bo c2 w2, (Builtin.append_ #[24, 24] ty #[.slice ao n c, .slice so m c3]).run Tryd.prog w = .ok (.slice bo (n + m) c2) w2 ∧ OR w2 bo (n + m) c2 (Q ++ X) ∧ Ap w w2 ao bo := by
  obtain ⟨i0, hi, hz0, hz1, hz2⟩ := info_parts infoO
  have e : (Value.agg #[.int .i64 0, .int .i64 0, .int .i64 0, .int .i64 0, .string ⟨#[]⟩, .int .i64 0, .int .i64 0]).cells.size = 7 := by simp [Value.cells]
  cases so with
  | none =>
    obtain ⟨rfl, rfl⟩ := S.nil rfl
    have e2 := List.eq_nil_of_length_eq_zero S.len
    subst e2
    exact ⟨ao, c, w, run_append_owned_none (P := Tryd.prog) (w := w) 0 24 ty 40 i0 7 Tryd.underlying24 hi _ n (ocs Q) h, by rw [List.append_nil]; exact h, Ap.refl _ _⟩
  | some ad =>
    obtain ⟨v', w2, hrun, hown, hgrow, hnil, hat⟩ := run_append_own_at (P := Tryd.prog) w 0 24 ty 40 i0 (.agg #[.int .i64 0, .int .i64 0, .int .i64 0, .int .i64 0, .string ⟨#[]⟩, .int .i64 0, .int .i64 0]) 7 64 Tryd.underlying24 hi hz0 hz1 hz2 e (by decide) (.slice ao n c) n (ocs Q) h ad m c3 (ocs X) (by rw [ocs_length, S.len]) (fun j u hj => S.flat ad rfl j u hj) (ocs_one X) (by unfold maxLen; omega) (by omega) (Nat.zero_le _)
    rw [← ocs_append] at hown
    obtain ⟨bo, c2, rfl, hP⟩ := OR.out hown
    rw [ownBlock_blk] at hgrow
    rw [ownBlock_blk, ownBlock_blk] at hat
    refine ⟨bo, c2, w2, hrun, hP, ⟨hgrow, ?_⟩⟩
    rcases hat with e | e
    · exact Or.inl e
    · exact Or.inr ⟨_, e, Nat.le_refl _⟩
theorem OR.lit (w : World) : OR (w.alloc (.cells #[] 40)) (some ⟨w.heap.size, 0, none⟩) 0 0 [] :=
  ⟨by simp [ocs], .inr ⟨w.heap.size, 0, _, rfl, Nat.zero_le _, heap_alloc_new w _, Nat.le_refl _, by unfold maxLen; omega, by simp, by simp [ocs]⟩⟩
theorem OR.one (w : World) (o : Sp) : OR (w.alloc (.cells (OC o) 40)) (some ⟨w.heap.size, 0, none⟩) 1 1 [o] :=
  ⟨by simp [ocs_length], .inr ⟨w.heap.size, 1, _, rfl, Nat.zero_le _, heap_alloc_new w _, Nat.le_refl _, by unfold maxLen; omega, by rfl, by rfl⟩⟩
/-- while the script wished for is laid -/
structure St7 (v0 v : World) (bo : Option Addr) (m c : Nat) (X : List Sp) (ga : Option Nat) : Prop where
  b : Below v0.heap.size v0 v
  r : OR v bo m c X
  k : ∀ j, blk bo = some j → v0.heap.size ≤ j
  z : ∀ g, ga = some g → SBox v g sc0 ∧ v0.heap.size ≤ g ∧ blk bo ≠ some g
section
variable {v0 v v2 : World} {bo b2 : Option Addr} {m c m2 c2 : Nat} {X X2 : List Sp} {ga : Option Nat}
theorem St7.nil (v0 : World) : St7 v0 v0 none 0 0 [] none := ⟨Below.refl _ _, OR.nil _, (fun j h => by cases h), (fun g h => by cases h)⟩
theorem St7.below (h : St7 v0 v bo m c X ga) (hb : Below v.heap.size v v2) : St7 v0 v2 bo m c X ga :=
  ⟨h.b.trans (hb.mono h.b.size), h.r.below hb, h.k, fun g hg => ⟨(h.z g hg).1.below hb, (h.z g hg).2⟩⟩
theorem St7.alloc (h : St7 v0 v bo m c X none) : St7 v0 (v.alloc (.cells #[.int .i64 0, .int .i64 0, .int .i64 0, .int .i64 0, .int .i64 0, .int .i64 0, .slice none 0 0] 26)) bo m c X (some v.heap.size) := by
  have h1 := h.below (below_new v (.cells #[.int .i64 0, .int .i64 0, .int .i64 0, .int .i64 0, .int .i64 0, .int .i64 0, .slice none 0 0] 26))
  refine ⟨h1.b, h1.r, h1.k, fun g hg => ?_⟩
  obtain rfl := Option.some.inj hg
  exact ⟨SBox_new v sc0, h.b.size, fun e => by have := h.r.lt _ e; omega⟩
theorem St7.lit (h : St7 v0 v none 0 0 [] ga) : St7 v0 (v.alloc (.cells #[] 40)) (some ⟨v.heap.size, 0, none⟩) 0 0 [] ga := by
  have h1 := h.below (below_new v (.cells #[] 40))
  refine ⟨h1.b, OR.lit v, fun j hj => ?_, fun g hg => ⟨(h1.z g hg).1, (h1.z g hg).2.1, fun e => ?_⟩⟩
  · have : v.heap.size = j := Option.some.inj hj
    have := h.b.size
    omega
  · have h2 : v.heap.size = g := Option.some.inj e
    have h3 := (h.z g hg).1.lt
    omega
theorem St7.app (h : St7 v0 v bo m c X ga) (R : OR v2 b2 m2 c2 X2) (A : Ap v v2 bo b2) : St7 v0 v2 b2 m2 c2 X2 ga := by
  refine ⟨h.b.trans ⟨A.grown.os, A.grown.tape, A.grown.output, A.grown.size, fun j hj => A.grown.block j (Nat.lt_of_lt_of_le hj h.b.size) (fun e => by have := h.k j e.symm; omega)⟩, R, fun j hj => ?_, fun g hg => ?_⟩
  · rcases A.lies with e | ⟨i, e, hi⟩
    · exact h.k j (e ▸ hj)
    · rw [e] at hj
      have h1 := Option.some.inj hj
      have h2 := h.b.size
      omega
  · obtain ⟨z1, z2, z3⟩ := h.z g hg
    refine ⟨(A.grown.block g z1.lt (fun e => z3 e.symm)).trans z1, z2, fun e2 => ?_⟩
    rcases A.lies with e | ⟨i, e, hi⟩
    · exact z3 (e ▸ e2)
    · rw [e] at e2
      have h1 := Option.some.inj e2
      have h2 := z1.lt
      omega
/-- the script wished for is laid -/
structure Wt (v0 v : World) (g : Nat) (a b d e f t : Int) (bo : Option Addr) (m c : Nat) (X : List Sp) : Prop where
  x : SBox v g ⟨a, b, d, e, f, t, bo, m, c⟩
  r : OR v bo m c X
  b : Below v0.heap.size v0 v
  h : v0.heap.size ≤ g
  k : ∀ j, blk bo = some j → v0.heap.size ≤ j ∧ j ≠ g
theorem St7.put {g : Nat} (h : St7 v0 v bo m c X (some g)) (a b d e f t : Int) : ∃ v2, (stS (.pointer (some ⟨g, 0, none⟩)) (.agg (SC ⟨a, b, d, e, f, t, bo, m, c⟩))).run Tryd.prog v = .ok () v2 ∧ Wt v0 v2 g a b d e f t bo m c X := by
  obtain ⟨z1, z2, z3⟩ := h.z g rfl
  obtain ⟨v2, h1, h2, h3⟩ := sc_put (o := ⟨a, b, d, e, f, t, bo, m, c⟩) z1
  exact ⟨v2, h1, ⟨h2, h.r.keep fun j hj => h3.gr.block j (h.r.lt j hj) (fun e => z3 (by rw [hj, e])), h.b.trans (h3.below z2 h.b.size), z2, fun j hj => ⟨h.k j hj, fun e => z3 (by rw [hj, e])⟩⟩⟩
theorem Wt.below {g : Nat} {a b d e f t : Int} (h : Wt v0 v g a b d e f t bo m c X) (hb : Below v.heap.size v v2) : Wt v0 v2 g a b d e f t bo m c X := ⟨h.x.below hb, h.r.below hb, h.b.trans (hb.mono h.b.size), h.h, h.k⟩
/-- something older is stored into -/
theorem Wt.old {g g2 : Nat} {a b d e f t : Int} (h : Wt v0 v g a b d e f t bo m c X) (hk : KG v v2 g2) (hg : g2 < v0.heap.size) : SBox v2 g ⟨a, b, d, e, f, t, bo, m, c⟩ ∧ OR v2 bo m c X :=
  ⟨(hk.gr.block g h.x.lt (fun e => by have := Option.some.inj e; have := h.h; omega)).trans h.x, h.r.keep fun j hj => hk.gr.block j (h.r.lt j hj) (fun e => by have := Option.some.inj e; have := (h.k j hj).1; omega)⟩
end
/-! ### an op put into a row -/
def setR (xs : List Value) : Nat → List Value → List Value
  | _, [] => xs
  | o, v :: r => setR (xs.set o v) (o + 1) r
theorem setR_append (a xs : List Value) : ∀ (vs : List Value) (o : Nat), setR (a ++ xs) (a.length + o) vs = a ++ setR xs o vs := by
  intro vs
  induction vs generalizing xs with
  | nil => intro o; rfl
  | cons v r ih =>
    intro o
    show setR ((a ++ xs).set (a.length + o) v) (a.length + o + 1) r = a ++ setR (xs.set o v) (o + 1) r
    rw [List.set_append_right _ _ (by omega), show a.length + o - a.length = o by omega, Nat.add_assoc, ih]
theorem ocs_set : ∀ (L : List Sp) (k : Nat) (x : Sp), k < L.length → setR (ocs L) (k * 7) (OC x).toList = ocs (L.set k x)
  | [], k, x, h => absurd h (Nat.not_lt_zero k)
  | e :: L, 0, x, _ => rfl
  | e :: L, k + 1, x, h => by
    have ih := ocs_set L k x (by simpa using h)
    show setR ((OC e).toList ++ ocs L) ((k + 1) * 7) (OC x).toList = (OC e).toList ++ ocs (L.set k x)
    have e7 : (OC e).toList.length = 7 := rfl
    rw [show (k + 1) * 7 = (OC e).toList.length + k * 7 by rw [e7]; omega, setR_append, ih]
theorem owns_setCells {base : Nat} {e : TypeId} {size g n cap : Nat} : ∀ (vs : List Value) (w : World) (xs : List Value) (o : Nat), w.ownsRow base e size (.slice (some ⟨g, 0, none⟩) n cap) n xs → (w.setCells g o vs).ownsRow base e size (.slice (some ⟨g, 0, none⟩) n cap) n (setR xs o vs) ∧ Ap w (w.setCells g o vs) (some ⟨g, 0, none⟩) (some ⟨g, 0, none⟩)
  | [], w, xs, o, h => ⟨h, Ap.refl _ _⟩
  | v :: r, w, xs, o, h => by
    obtain ⟨h1, g1⟩ := h.stored o v
    obtain ⟨h2, a2⟩ := owns_setCells r (w.setCell ⟨g, o, none⟩ v) (xs.set o v) (o + 1) h1
    exact ⟨h2, Ap.trans ⟨g1, Or.inl rfl⟩ a2⟩
theorem OR.put {ao : Option Addr} {n c : Nat} {A : List Sp} (h : OR w ao n c A) (k : Nat) (hk : k < n) (x : Sp) : ∃ b w2, ao = some ⟨b, 0, none⟩ ∧ (stO (.pointer (some ⟨b, k * 7, none⟩)) (.agg (OC x))).run Tryd.prog w = .ok () w2 ∧ OR w2 ao n c (A.set k x) ∧ Ap w w2 ao ao := by
  have hl := h.len
  obtain ⟨b, rfl, -⟩ := h.at k hk
  have ht : w.there b (k * 7) (OC x).size := fun j hj => by
    refine ⟨?_, h.frozenAt _⟩
    have hj7 : j < 7 := hj
    rw [h.cellAt (k * 7 + j) (by omega), ocs_at A k j (by omega) hj7]
    rcases (show j = 0 ∨ j = 1 ∨ j = 2 ∨ j = 3 ∨ j = 4 ∨ j = 5 ∨ j = 6 by omega) with rfl | rfl | rfl | rfl | rfl | rfl | rfl <;> rfl
  have hs := run_storeAt_mid (P := Tryd.prog) w b (k * 7) 40 (OC x) ht sizeO (by simp [OC, Value.oneCell'])
  obtain ⟨h2, g2⟩ := owns_setCells (OC x).toList w (ocs A) (k * 7) h
  rw [ocs_set A k x (by omega)] at h2
  exact ⟨b, _, rfl, hs, h2, g2⟩
theorem set_last (L : List Sp) (o p : Sp) (n : Nat) (h : L.length = n) : (L ++ [o]).set n p = L ++ [p] := by
  subst h
  rw [List.set_append_right _ _ (Nat.le_refl _)]
  simp
end Go.Proofs.YtmemcnjabnpdmabDoor
