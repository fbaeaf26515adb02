/- Dots: as values (replica, number) and in memory; a row of dots that the call grows. -/
import Derived.Test.YtojpjakpcihacaaGreatPKa
import Derived.Laws.AppendOwnNone
namespace Go.Proofs.YtojpjakpcihacaaGreat
open Go.RowKit

def ldD (v : Value) : Sem Value := Instr.loadAt 29 v
theorem ldD_eq (v : Value) : Instr.loadAt 29 v = ldD v := rfl
def stD (p v : Value) : Sem Unit := Instr.storeAt 29 p v
theorem stD_eq (p v : Value) : Instr.storeAt 29 p v = stD p v := rfl
theorem sizeD : (Tryz.prog.info? 29).map (·.size) = some 2 := by kernel_rfl
theorem infoD : (Tryz.prog.info? 29).map (fun i => (i.zero, i.size, i.bytes)) = some (some (.agg #[.int .i64 0, .int .i64 0]), 2, 16) := by kernel_rfl
theorem run_ldD {w : World} {p : Addr} {r : Rn} (A : RnAt w p r) : (ldD (.pointer (some p))).run Tryz.prog w = .ok (RV r) w := by
  have hl := run_loadCells_list (P := Tryz.prog) (w := w) p (RC r).toList (fun j v hv => by
    match j, hv with
    | 0, hv => cases hv; rw [add_zero]; exact A.c0
    | 1, hv => cases hv; exact A.c1
    | j + 2, hv => simp [RC] at hv)
  unfold ldD
  simp only [Instr.loadAt, Instr.sureAddr, Sem.run_bind, Sem.run_pure, Result.andThen]
  cases hq : Tryz.prog.info? 29 with
  | none => have := sizeD; simp [hq] at this
  | some x =>
    have hs : x.size = 2 := by have := sizeD; simpa [hq] using this
    have hagg : (isAgg 29).run Tryz.prog w = .ok true w := by
      unfold isAgg
      rw [Sem.run_bind, run_underlying Tryz.underlying29 w]
      rfl
    have e2 : (RC r).toList.length = 2 := rfl
    rw [e2] at hl
    simp [loadVar, Sem.run_bind, hagg, sizeOf, typeInfo, hq, hs, hl, RV]
theorem run_stD {w : World} {g : Nat} {T : TypeId} {r r' : Rn} (A : Box w g T r) : (stD (.pointer (some ⟨g, 0, none⟩)) (RV r')).run Tryz.prog w = .ok () (w.setRow g (RC r')) := by
  unfold stD
  have h := run_storeCells_from (P := Tryz.prog) g T (RC r').toList 0 (RC r) w A (by simp [RC]) (RC_one r')
  cases hq : Tryz.prog.info? 29 with
  | none => have := sizeD; simp [hq] at this
  | some x =>
    have hs : x.size = 2 := by have := sizeD; simpa [hq] using this
    simp only [Instr.storeAt, Instr.sureAddr, Sem.run_bind, Sem.run_pure, Result.andThen, storeVar, sizeOf, typeInfo, cells_RV, RC_size]
    simp at h
    simp [h, hq, hs]
/-- a variable made and filled -/
theorem madeD (w : World) (r : Rn) (g : Nat) (hg : w.heap.size = g) : ∃ w' : World, (stD (.pointer (some ⟨g, 0, none⟩)) (RV r)).run Tryz.prog (w.alloc (.cells (RC rn0) 29)) = .ok () w' ∧ Box w' g 29 r ∧ Below w.heap.size w w' ∧ w'.heap.size = w.heap.size + 1 := by
  subst hg
  refine ⟨_, run_stD (box_new w 29 rn0), (box_new w 29 rn0).setRow, below_setRow (below_new w _) (Nat.le_refl _), by simp [World.setRow]⟩
/-- the slice owns just these dots, in blocks from B on; below B0 all is as it was -/
structure OwnD (B0 B : Nat) (w w' : World) (ao : Option Addr) (cap : Nat) (acc : List Rn) : Prop where
  own : w'.ownsRow B 29 2 (.slice ao acc.length cap) acc.length (rcs acc)
  below : Below B0 w w'
  hB : B ≤ w'.heap.size
  hB0 : B0 ≤ B
theorem OwnD.later {B0 B : Nat} {w w' w2 : World} {ao : Option Addr} {cap : Nat} {acc : List Rn} (O : OwnD B0 B w w' ao cap acc) (hb : Below w'.heap.size w' w2) : OwnD B0 B w w2 ao cap acc := by
  refine ⟨⟨O.own.1, ?_⟩, O.below.trans (hb.mono (Nat.le_trans O.hB0 O.hB)), Nat.le_trans O.hB hb.size, O.hB0⟩
  rcases O.own.2 with h | ⟨g, cap2, cur, hv, hbg, hgg, r⟩
  · exact Or.inl h
  · exact Or.inr ⟨g, cap2, cur, hv, hbg, (hb.block g (Array.getElem?_eq_some_iff.1 hgg).1).trans hgg, r⟩
theorem rcs_cell {w : World} {E : List Rn} {ad : Addr} (h : ∀ t, t < E.length → RnAt w (ad.add (t * 2)) (E.getD t rn0)) (j : Nat) (u : Value) (hj : (rcs E)[j]? = some u) : w.cell? (ad.add j) = some u := by
  have hl : j < E.length * 2 := by rw [← rcs_length]; exact (List.getElem?_eq_some_iff.1 hj).1
  have ht : j / 2 < E.length := by omega
  have e := rcs_at E (j / 2) (j % 2) ht (by omega)
  rw [show j / 2 * 2 + j % 2 = j by omega, hj] at e
  have A := h (j / 2) ht
  have h2 : j % 2 = 0 ∨ j % 2 = 1 := by omega
  rcases h2 with h2 | h2
  · rw [h2] at e
    have e' : u = .int .i64 (E.getD (j / 2) rn0).lo := by simpa [RC] using e
    rw [e', show ad.add j = ad.add (j / 2 * 2) by rw [show j / 2 * 2 = j by omega]]
    exact A.c0
  · rw [h2] at e
    have e' : u = .int .i64 (E.getD (j / 2) rn0).hi := by simpa [RC] using e
    have := A.c1
    rw [add_add, show j / 2 * 2 + 1 = j by omega] at this
    rw [e']; exact this
/-- a list of dots is appended -/
theorem OwnD.append {B0 B : Nat} {w w' : World} {ao : Option Addr} {cap : Nat} {acc : List Rn} (O : OwnD B0 B w w' ao cap acc) (E : List Rn) (ad : Addr) (m c : Nat) (hm : E.length = m) (hE : ∀ t, t < m → RnAt w' (ad.add (t * 2)) (E.getD t rn0)) (hlen : acc.length + m ≤ 8796093022207)
    {ops : Array Oper} {rest : List Oper} {o : Oper} {a : Act} {Q : Exit → Act → World → Prop} (hgd : o.guard = none) (s x : Operand) (ho : o.op = .call { callee := .builtin .append, args := #[s, x], argTypes := #[112, 112] })
    (n : Nat) (hn : acc.length = n) (hs : a.eval s = .slice ao n cap) (hx : a.eval x = .slice (some ad) m c)
    (hK : ∀ (ao2 : Option Addr) (cap2 : Nat) (w2 : World), OwnD B0 B w w2 ao2 cap2 (acc ++ E) → wpList Tryz.prog ops Q rest (a.put o.dst (.slice ao2 (n + m) cap2)) w2) :
    wpList Tryz.prog ops Q (o :: rest) a w' := by
  subst hn hm
  obtain ⟨i0, hi, hz0, hz1, hz2⟩ := info_parts infoD
  have hB := O.hB
  have hB0 := O.hB0
  refine wpList_append_own _ hgd s x 112 ho B 29 i0 (.agg #[.int .i64 0, .int .i64 0]) 2 16 Tryz.underlying112 hi hz0 hz1 hz2 rfl (by decide) _ acc.length (rcs acc) hs O.own ad E.length c (rcs E) hx (rcs_length E) (fun j u hj => rcs_cell hE j u hj) (rcs_onecell E) (by unfold maxLen; omega) (by omega) hB ?_
  intro v' w2 hown hgrow _
  have hrow : ∀ k, (Value.slice ao acc.length cap).ownBlock = some k → B ≤ k := fun k hk => (O.own.lt k hk).1
  have hsz := hgrow.size
  have hb2 : Below B0 w w2 := O.below.grown hgrow (by omega) (fun k hk => by have := hrow k hk; omega)
  rw [← rcs_append] at hown
  rcases hown.2 with ⟨h0, h00⟩ | ⟨g, cap2, cur, hv, r⟩
  · subst h0
    have e1 : acc = [] := List.eq_nil_of_length_eq_zero (by omega)
    have e2 : E = [] := List.eq_nil_of_length_eq_zero (by omega)
    subst e1 e2
    exact hK none 0 w2 ⟨hown, hb2, by omega, hB0⟩
  · subst hv
    refine hK (some ⟨g, 0, none⟩) cap2 w2 ⟨?_, hb2, by omega, hB0⟩
    rw [List.length_append]; exact hown
/-- .. where what is appended is nil -/
theorem OwnD.appendNone {B0 B : Nat} {w w' : World} {ao : Option Addr} {cap : Nat} {acc : List Rn} (O : OwnD B0 B w w' ao cap acc)
    {ops : Array Oper} {rest : List Oper} {o : Oper} {a : Act} {Q : Exit → Act → World → Prop} (hgd : o.guard = none) (s x : Operand) (ho : o.op = .call { callee := .builtin .append, args := #[s, x], argTypes := #[112, 112] })
    (n : Nat) (hn : acc.length = n) (hs : a.eval s = .slice ao n cap) (hx : a.eval x = .slice none 0 0)
    (hK : wpList Tryz.prog ops Q rest (a.put o.dst (.slice ao n cap)) w') :
    wpList Tryz.prog ops Q (o :: rest) a w' := by
  subst hn
  obtain ⟨i0, hi, hz0, hz1, hz2⟩ := info_parts infoD
  exact wpList_append_own_none hgd s x 112 ho B 29 i0 2 Tryz.underlying112 hi _ acc.length (rcs acc) hs O.own hx hK
theorem OwnD.src {B0 B : Nat} {w w' : World} {ao : Option Addr} {cap : Nat} {acc : List Rn} (O : OwnD B0 B w w' ao cap acc) (hl : acc.length ≤ 8796093022207) : RSrc w' ao acc.length cap acc ∧ ∀ ad, ao = some ad → B ≤ ad.block := by
  rcases O.own.2 with ⟨h0, h00⟩ | ⟨g, cap2, cur, hv, hbg, hgg, hnc, hcm, hcsz, htake⟩
  · simp only [Value.slice.injEq] at h0
    obtain ⟨rfl, e0, rfl⟩ := h0
    exact ⟨⟨rfl, fun _ => ⟨h00, rfl⟩, (fun ad h => by cases h), by omega, Nat.zero_le _, hl⟩, fun ad h => (by cases h)⟩
  · simp only [Value.slice.injEq, true_and] at hv
    obtain ⟨rfl, rfl⟩ := hv
    have cell : ∀ t j, t < acc.length → j < 2 → w'.cell? ⟨g, t * 2 + j, none⟩ = (RC (acc.getD t rn0)).toList[j]? := fun t j ht hj => by
      rw [O.own.cellAt (t * 2 + j) (by omega), rcs_at _ t j ht hj]
    refine ⟨⟨rfl, fun h => (by cases h), fun ad h t ht => ?_, hnc, hcm, hl⟩, fun ad h => by obtain rfl := Option.some.inj h; exact hbg⟩
    obtain rfl := Option.some.inj h
    refine ⟨?_, ?_⟩
    · rw [Addr.add_lit, Nat.zero_add]; exact cell t 0 ht (by omega)
    · rw [Addr.add_lit, Addr.add_lit, Nat.zero_add]; exact cell t 1 ht (by omega)
/-- .. nil or not -/
theorem OwnD.appendS {B0 B : Nat} {w w' : World} {ao : Option Addr} {cap : Nat} {acc : List Rn} (O : OwnD B0 B w w' ao cap acc) (E : List Rn) (xo : Option Addr) (m c : Nat) (S : RSrc w' xo m c E) (hlen : acc.length + m ≤ 8796093022207)
    {ops : Array Oper} {rest : List Oper} {o : Oper} {a : Act} {Q : Exit → Act → World → Prop} (hgd : o.guard = none) (s x : Operand) (ho : o.op = .call { callee := .builtin .append, args := #[s, x], argTypes := #[112, 112] })
    (n : Nat) (hn : acc.length = n) (hs : a.eval s = .slice ao n cap) (hx : a.eval x = .slice xo m c)
    (hK : ∀ (ao2 : Option Addr) (cap2 : Nat) (w2 : World), OwnD B0 B w w2 ao2 cap2 (acc ++ E) → wpList Tryz.prog ops Q rest (a.put o.dst (.slice ao2 (n + m) cap2)) w2) :
    wpList Tryz.prog ops Q (o :: rest) a w' := by
  cases xo with
  | some ad => exact O.append E ad m c S.len (fun t ht => S.cell ad rfl t ht) hlen hgd s x ho n hn hs hx hK
  | none =>
    obtain ⟨rfl, rfl⟩ := S.nil rfl
    have e := List.eq_nil_of_length_eq_zero S.len
    subst e
    refine O.appendNone hgd s x ho n hn hs hx ?_
    have := hK ao cap w'
    rw [List.append_nil, Nat.add_zero] at this
    exact this O
/-- a new, empty row -/
theorem ownD_made (w : World) : OwnD w.heap.size w.heap.size w (w.alloc (.cells #[] 29)) (some ⟨w.heap.size, 0, none⟩) 0 [] :=
  ⟨World.ownsRow_made w #[] 0 (Nat.le_refl _) (Nat.zero_le _) rfl, below_new w _, by simp, Nat.le_refl _⟩
end Go.Proofs.YtojpjakpcihacaaGreat
