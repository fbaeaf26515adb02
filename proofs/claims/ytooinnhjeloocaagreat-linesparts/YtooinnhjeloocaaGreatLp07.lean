/- PDk RPv Shf -/
import Derived.Test.YtooinnhjeloocaaGreatLp03
import Derived.Laws.AppendOwnNone
import Derived.Shelf.SlSortCmp.WholeK
import Derived.Shelf.SlGeneric
import Derived.Ground.SlsfProg
import Derived.Test.YtooinnhjeloocaaGreatProg
namespace Go.Proofs.YtooinnhjeloocaaGreat
open Go.RowKit

def ldD (v : Value) : Sem Value := Instr.loadAt 28 v
theorem ldD_eq (v : Value) : Instr.loadAt 28 v = ldD v := rfl
def stD (p v : Value) : Sem Unit := Instr.storeAt 28 p v
theorem stD_eq (p v : Value) : Instr.storeAt 28 p v = stD p v := rfl
theorem sizeD : (Tryz.prog.info? 28).map (·.size) = some 2 := by kernel_rfl
theorem infoD : (Tryz.prog.info? 28).map (fun i => (i.zero, i.size, i.bytes)) = some (some (.agg #[.int .i64 0, .int .i64 0]), 2, 16) := by kernel_rfl
theorem run_ldD {w : World} {p : Addr} {r : Rn} (A : RnAt w p r) : (ldD (.pointer (some p))).run Tryz.prog w = .ok (RV r) w := by
  have hl := run_loadCells_list (P := Tryz.prog) (w := w) p (RC r).toList (fun j v hv => by
    match j, hv with
    | 0, hv => cases hv; rw [add_zero]; exact A.c0
    | 1, hv => cases hv; exact A.c1
    | j + 2, hv => simp [RC] at hv)
  unfold ldD
  simp only [Instr.loadAt, Instr.sureAddr, Sem.run_bind, Sem.run_pure, Result.andThen]
  cases hq : Tryz.prog.info? 28 with
  | none => have := sizeD; simp [hq] at this
  | some x =>
    have hs : x.size = 2 := by have := sizeD; simpa [hq] using this
    have hagg : (isAgg 28).run Tryz.prog w = .ok true w := by
      unfold isAgg
      rw [Sem.run_bind, run_underlying Tryz.underlying28 w]
      rfl
    have e2 : (RC r).toList.length = 2 := rfl
    rw [e2] at hl
    simp [loadVar, Sem.run_bind, hagg, sizeOf, typeInfo, hq, hs, hl, RV]
theorem run_stD {w : World} {g : Nat} {T : TypeId} {r r' : Rn} (A : Box w g T r) : (stD (.pointer (some ⟨g, 0, none⟩)) (RV r')).run Tryz.prog w = .ok () (w.setRow g (RC r')) := by
  unfold stD
  have h := run_storeCells_from (P := Tryz.prog) g T (RC r').toList 0 (RC r) w A (by simp [RC]) (RC_one r')
  cases hq : Tryz.prog.info? 28 with
  | none => have := sizeD; simp [hq] at this
  | some x =>
    have hs : x.size = 2 := by have := sizeD; simpa [hq] using this
    simp only [Instr.storeAt, Instr.sureAddr, Sem.run_bind, Sem.run_pure, Result.andThen, storeVar, sizeOf, typeInfo, cells_RV, RC_size]
    simp at h
    simp [h, hq, hs]
/-- a variable made and filled -/
theorem madeD (w : World) (r : Rn) (g : Nat) (hg : w.heap.size = g) : ∃ w' : World, (stD (.pointer (some ⟨g, 0, none⟩)) (RV r)).run Tryz.prog (w.alloc (.cells (RC rn0) 28)) = .ok () w' ∧ Box w' g 28 r ∧ Below w.heap.size w w' ∧ w'.heap.size = w.heap.size + 1 := by
  subst hg
  refine ⟨_, run_stD (box_new w 28 rn0), (box_new w 28 rn0).setRow, below_setRow (below_new w _) (Nat.le_refl _), by simp [World.setRow]⟩
/-- the slice owns just these dots, in blocks from B on; below B0 all is as it was -/
structure OwnD (B0 B : Nat) (w w' : World) (ao : Option Addr) (cap : Nat) (acc : List Rn) : Prop where
  own : w'.ownsRow B 28 2 (.slice ao acc.length cap) acc.length (rcs acc)
  below : Below B0 w w'
  hB : B ≤ w'.heap.size
  hB0 : B0 ≤ B
theorem OwnD.later {B0 B : Nat} {w w' w2 : World} {ao : Option Addr} {cap : Nat} {acc : List Rn} (O : OwnD B0 B w w' ao cap acc) (hb : Below w'.heap.size w' w2) : OwnD B0 B w w2 ao cap acc := by
  refine ⟨⟨O.own.1, ?_⟩, O.below.trans (hb.mono (Nat.le_trans O.hB0 O.hB)), Nat.le_trans O.hB hb.size, O.hB0⟩
  rcases O.own.2 with h | ⟨g, cap2, cur, hv, hbg, hgg, r⟩
  · exact Or.inl h
  · exact Or.inr ⟨g, cap2, cur, hv, hbg, (hb.block g (Array.getElem?_eq_some_iff.1 hgg).1).trans hgg, r⟩
theorem rcs_cell {w : World} {E : List Rn} {ad : Addr} (h : ∀ t, t < E.length → RnAt w (ad.add (t * 2)) (E.getD t rn0)) (j : Nat) (u : Value) (hj : (rcs E)[j]? = some u) : w.cell? (ad.add j) = some u := by
  have hl : j < E.length * 2 := by rw [← rcs_length]; exact (List.getElem?_eq_some_iff.1 hj).1
  have ht : j / 2 < E.length := by omega
  have e := rcs_at E (j / 2) (j % 2) ht (by omega)
  rw [show j / 2 * 2 + j % 2 = j by omega, hj] at e
  have A := h (j / 2) ht
  have h2 : j % 2 = 0 ∨ j % 2 = 1 := by omega
  rcases h2 with h2 | h2
  · rw [h2] at e
    have e' : u = .int .i64 (E.getD (j / 2) rn0).lo := by simpa [RC] using e
    rw [e', show ad.add j = ad.add (j / 2 * 2) by rw [show j / 2 * 2 = j by omega]]
    exact A.c0
  · rw [h2] at e
    have e' : u = .int .i64 (E.getD (j / 2) rn0).hi := by simpa [RC] using e
    have := A.c1
    rw [add_add, show j / 2 * 2 + 1 = j by omega] at this
    rw [e']; exact this
/-- a list of dots is appended -/
theorem OwnD.append {B0 B : Nat} {w w' : World} {ao : Option Addr} {cap : Nat} {acc : List Rn} (O : OwnD B0 B w w' ao cap acc) (E : List Rn) (ad : Addr) (m c : Nat) (hm : E.length = m) (hE : ∀ t, t < m → RnAt w' (ad.add (t * 2)) (E.getD t rn0)) (hlen : acc.length + m ≤ 8796093022207)
    {ops : Array Oper} {rest : List Oper} {o : Oper} {a : Act} {Q : Exit → Act → World → Prop} (hgd : o.guard = none) (s x : Operand) (ho : o.op = .call { callee := .builtin .append, args := #[s, x], argTypes := #[51, 51] })
    (n : Nat) (hn : acc.length = n) (hs : a.eval s = .slice ao n cap) (hx : a.eval x = .slice (some ad) m c)
    (hK : ∀ (ao2 : Option Addr) (cap2 : Nat) (w2 : World), OwnD B0 B w w2 ao2 cap2 (acc ++ E) → wpList Tryz.prog ops Q rest (a.put o.dst (.slice ao2 (n + m) cap2)) w2) :
    wpList Tryz.prog ops Q (o :: rest) a w' := by
  subst hn hm
  obtain ⟨i0, hi, hz0, hz1, hz2⟩ := info_parts infoD
  have hB := O.hB
  have hB0 := O.hB0
  refine wpList_append_own _ hgd s x 51 ho B 28 i0 (.agg #[.int .i64 0, .int .i64 0]) 2 16 Tryz.underlying51 hi hz0 hz1 hz2 rfl (by decide) _ acc.length (rcs acc) hs O.own ad E.length c (rcs E) hx (rcs_length E) (fun j u hj => rcs_cell hE j u hj) (rcs_onecell E) (by unfold maxLen; omega) (by omega) hB ?_
  intro v' w2 hown hgrow _
  have hrow : ∀ k, (Value.slice ao acc.length cap).ownBlock = some k → B ≤ k := fun k hk => (O.own.lt k hk).1
  have hsz := hgrow.size
  have hb2 : Below B0 w w2 := O.below.grown hgrow (by omega) (fun k hk => by have := hrow k hk; omega)
  rw [← rcs_append] at hown
  rcases hown.2 with ⟨h0, h00⟩ | ⟨g, cap2, cur, hv, r⟩
  · subst h0
    have e1 : acc = [] := List.eq_nil_of_length_eq_zero (by omega)
    have e2 : E = [] := List.eq_nil_of_length_eq_zero (by omega)
    subst e1 e2
    exact hK none 0 w2 ⟨hown, hb2, by omega, hB0⟩
  · subst hv
    refine hK (some ⟨g, 0, none⟩) cap2 w2 ⟨?_, hb2, by omega, hB0⟩
    rw [List.length_append]; exact hown
/-- .. where what is appended is nil -/
theorem OwnD.appendNone {B0 B : Nat} {w w' : World} {ao : Option Addr} {cap : Nat} {acc : List Rn} (O : OwnD B0 B w w' ao cap acc)
    {ops : Array Oper} {rest : List Oper} {o : Oper} {a : Act} {Q : Exit → Act → World → Prop} (hgd : o.guard = none) (s x : Operand) (ho : o.op = .call { callee := .builtin .append, args := #[s, x], argTypes := #[51, 51] })
    (n : Nat) (hn : acc.length = n) (hs : a.eval s = .slice ao n cap) (hx : a.eval x = .slice none 0 0)
    (hK : wpList Tryz.prog ops Q rest (a.put o.dst (.slice ao n cap)) w') :
    wpList Tryz.prog ops Q (o :: rest) a w' := by
  subst hn
  obtain ⟨i0, hi, hz0, hz1, hz2⟩ := info_parts infoD
  exact wpList_append_own_none hgd s x 51 ho B 28 i0 2 Tryz.underlying51 hi _ acc.length (rcs acc) hs O.own hx hK
theorem OwnD.src {B0 B : Nat} {w w' : World} {ao : Option Addr} {cap : Nat} {acc : List Rn} (O : OwnD B0 B w w' ao cap acc) (hl : acc.length ≤ 8796093022207) : RSrc w' ao acc.length cap acc ∧ ∀ ad, ao = some ad → B ≤ ad.block := by
  rcases O.own.2 with ⟨h0, h00⟩ | ⟨g, cap2, cur, hv, hbg, hgg, hnc, hcm, hcsz, htake⟩
  · simp only [Value.slice.injEq] at h0
    obtain ⟨rfl, e0, rfl⟩ := h0
    exact ⟨⟨rfl, fun _ => ⟨h00, rfl⟩, (fun ad h => by cases h), by omega, Nat.zero_le _, hl⟩, fun ad h => (by cases h)⟩
  · simp only [Value.slice.injEq, true_and] at hv
    obtain ⟨rfl, rfl⟩ := hv
    have cell : ∀ t j, t < acc.length → j < 2 → w'.cell? ⟨g, t * 2 + j, none⟩ = (RC (acc.getD t rn0)).toList[j]? := fun t j ht hj => by
      rw [O.own.cellAt (t * 2 + j) (by omega), rcs_at _ t j ht hj]
    refine ⟨⟨rfl, fun h => (by cases h), fun ad h t ht => ?_, hnc, hcm, hl⟩, fun ad h => by obtain rfl := Option.some.inj h; exact hbg⟩
    obtain rfl := Option.some.inj h
    refine ⟨?_, ?_⟩
    · rw [Addr.add_lit, Nat.zero_add]; exact cell t 0 ht (by omega)
    · rw [Addr.add_lit, Addr.add_lit, Nat.zero_add]; exact cell t 1 ht (by omega)
/-- .. nil or not -/
theorem OwnD.appendS {B0 B : Nat} {w w' : World} {ao : Option Addr} {cap : Nat} {acc : List Rn} (O : OwnD B0 B w w' ao cap acc) (E : List Rn) (xo : Option Addr) (m c : Nat) (S : RSrc w' xo m c E) (hlen : acc.length + m ≤ 8796093022207)
    {ops : Array Oper} {rest : List Oper} {o : Oper} {a : Act} {Q : Exit → Act → World → Prop} (hgd : o.guard = none) (s x : Operand) (ho : o.op = .call { callee := .builtin .append, args := #[s, x], argTypes := #[51, 51] })
    (n : Nat) (hn : acc.length = n) (hs : a.eval s = .slice ao n cap) (hx : a.eval x = .slice xo m c)
    (hK : ∀ (ao2 : Option Addr) (cap2 : Nat) (w2 : World), OwnD B0 B w w2 ao2 cap2 (acc ++ E) → wpList Tryz.prog ops Q rest (a.put o.dst (.slice ao2 (n + m) cap2)) w2) :
    wpList Tryz.prog ops Q (o :: rest) a w' := by
  cases xo with
  | some ad => exact O.append E ad m c S.len (fun t ht => S.cell ad rfl t ht) hlen hgd s x ho n hn hs hx hK
  | none =>
    obtain ⟨rfl, rfl⟩ := S.nil rfl
    have e := List.eq_nil_of_length_eq_zero S.len
    subst e
    refine O.appendNone hgd s x ho n hn hs hx ?_
    have := hK ao cap w'
    rw [List.append_nil, Nat.add_zero] at this
    exact this O
/-- a new, empty row -/
theorem ownD_made (w : World) : OwnD w.heap.size w.heap.size w (w.alloc (.cells #[] 28)) (some ⟨w.heap.size, 0, none⟩) 0 [] :=
  ⟨World.ownsRow_made w #[] 0 (Nat.le_refl _) (Nat.zero_le _) rfl, below_new w _, by simp, Nat.le_refl _⟩
end Go.Proofs.YtooinnhjeloocaaGreat
namespace Go.Proofs.YtooinnhjeloocaaGreat

theorem form_push {acc : List Rn} {r : Rn} (h : form 1 acc) (hg : ∀ i l, acc = i ++ [l] → l.hi + 2 ≤ r.lo) (h1 : 1 ≤ r.lo) (h2 : r.lo ≤ r.hi) (h3 : r.hi ≤ 1000000000) : form 1 (acc ++ [r]) := by
  rcases List.eq_nil_or_concat acc with e | ⟨i, l, e⟩
  · subst e; exact ⟨h1, h2, h3, trivial⟩
  · rw [List.concat_eq_append] at e
    subst e; exact form_snoc h (hg i l rfl) h2 h3
/-- so far has been met -/
structure MtInv (x y x' y' acc : List Rn) : Prop where
  frm : form 1 acc
  mm : ∀ n, (mem acc n ∨ (mem x' n ∧ mem y' n)) ↔ (mem x n ∧ mem y n)
  gap : ∀ i l, acc = i ++ [l] → ∀ n, mem x' n → mem y' n → l.hi + 2 ≤ n
  fx : form 1 x'
  fy : form 1 y'
theorem MtInv.start {x y : List Rn} (hx : form 1 x) (hy : form 1 y) : MtInv x y x y [] :=
  ⟨trivial, fun n => ⟨fun h => h.elim (fun e => absurd e (mem_nil n)) id, Or.inr⟩, (fun i l h => by cases i <;> cases h), hx, hy⟩
/-- what the two first runs have in common is laid behind -/
def met (acc : List Rn) (a b : Rn) : List Rn := if max a.lo b.lo ≤ min a.hi b.hi then acc ++ [⟨max a.lo b.lo, min a.hi b.hi⟩] else acc
theorem met_mem (acc : List Rn) (a b : Rn) (n : Int) : mem (met acc a b) n ↔ mem acc n ∨ (mem [a] n ∧ mem [b] n) := by
  unfold met
  rw [mem_one, mem_one]
  split
  · rw [mem_append, mem_one]
    simp only
    constructor
    · rintro (e | e)
      · exact Or.inl e
      · exact Or.inr ⟨⟨e.1, e.2.1, by omega, by omega⟩, ⟨e.1, e.2.1, by omega, by omega⟩⟩
    · rintro (e | ⟨e, f⟩)
      · exact Or.inl e
      · exact Or.inr ⟨e.1, e.2.1, by omega, by omega⟩
  · constructor
    · exact Or.inl
    · rintro (e | ⟨e, f⟩)
      · exact e
      · omega
theorem MtInv.form_met {x y xs ys acc : List Rn} {a b : Rn} (h : MtInv x y (a :: xs) (b :: ys) acc) : form 1 (met acc a b) := by
  unfold met
  have fa := h.fx
  have fb := h.fy
  split
  · refine form_push h.frm (fun i l e => ?_) ?_ ?_ ?_
    · refine h.gap i l e (max a.lo b.lo) ((mem_cons _ _ _).2 (Or.inl ⟨?_, ?_, ?_, ?_⟩)) ((mem_cons _ _ _).2 (Or.inl ⟨?_, ?_, ?_, ?_⟩)) <;> (have := fa.1; have := fa.2.1; have := fa.2.2.1; have := fb.1; have := fb.2.1; have := fb.2.2.1; omega)
    · have := fa.1; simp only; omega
    · simp only; assumption
    · have := fa.2.2.1; simp only; omega
  · exact h.frm
theorem met_gap {x y xs ys acc i : List Rn} {a b l : Rn} (h : MtInv x y (a :: xs) (b :: ys) acc) (e : met acc a b = i ++ [l]) : (∀ n, mem (a :: xs) n → mem (b :: ys) n → l.hi + 2 ≤ n) ∨ l.hi = min a.hi b.hi := by
  unfold met at e
  split at e
  · right
    have := List.append_inj_right' e rfl
    simp at this
    rw [← this]
  · exact Or.inl (h.gap i l e)
theorem MtInv.left {x y xs ys acc : List Rn} {a b : Rn} (h : MtInv x y (a :: xs) (b :: ys) acc) (hlt : a.hi < b.hi) : MtInv x y xs (b :: ys) (met acc a b) := by
  have fa := h.fx
  have fb := h.fy
  refine ⟨h.form_met, fun n => ?_, fun i l e n hx hy => ?_, form_mono (by have := fa.1; have := fa.2.1; omega) fa.2.2.2, fb⟩
  · rw [← h.mm n, met_mem]
    constructor
    · rintro ((e | ⟨e, f⟩) | ⟨e, f⟩)
      · exact Or.inl e
      · exact Or.inr ⟨(mem_cons _ _ _).2 (Or.inl ((mem_one _ _).1 e)), (mem_cons _ _ _).2 (Or.inl ((mem_one _ _).1 f))⟩
      · exact Or.inr ⟨(mem_cons _ _ _).2 (Or.inr e), f⟩
    · rintro (e | ⟨e, f⟩)
      · exact Or.inl (Or.inl e)
      · rcases (mem_cons _ _ _).1 e with e | e
        · rcases (mem_cons _ _ _).1 f with f | f
          · exact Or.inl (Or.inr ⟨(mem_one _ _).2 e, (mem_one _ _).2 f⟩)
          · have := form_ge fb.2.2.2 f; omega
        · exact Or.inr ⟨e, f⟩
  · rcases met_gap h e with g | g
    · exact g n ((mem_cons _ _ _).2 (Or.inr hx)) hy
    · have := form_ge fa.2.2.2 hx; omega
theorem MtInv.right {x y xs ys acc : List Rn} {a b : Rn} (h : MtInv x y (a :: xs) (b :: ys) acc) (hlt : ¬ a.hi < b.hi) : MtInv x y (a :: xs) ys (met acc a b) := by
  have fa := h.fx
  have fb := h.fy
  refine ⟨h.form_met, fun n => ?_, fun i l e n hx hy => ?_, fa, form_mono (by have := fb.1; have := fb.2.1; omega) fb.2.2.2⟩
  · rw [← h.mm n, met_mem]
    constructor
    · rintro ((e | ⟨e, f⟩) | ⟨e, f⟩)
      · exact Or.inl e
      · exact Or.inr ⟨(mem_cons _ _ _).2 (Or.inl ((mem_one _ _).1 e)), (mem_cons _ _ _).2 (Or.inl ((mem_one _ _).1 f))⟩
      · exact Or.inr ⟨e, (mem_cons _ _ _).2 (Or.inr f)⟩
    · rintro (e | ⟨e, f⟩)
      · exact Or.inl (Or.inl e)
      · rcases (mem_cons _ _ _).1 f with f | f
        · rcases (mem_cons _ _ _).1 e with e | e
          · exact Or.inl (Or.inr ⟨(mem_one _ _).2 e, (mem_one _ _).2 f⟩)
          · have := form_ge fa.2.2.2 e; omega
        · exact Or.inr ⟨e, f⟩
  · rcases met_gap h e with g | g
    · exact g n hx ((mem_cons _ _ _).2 (Or.inr hy))
    · have := form_ge fb.2.2.2 hy; omega
/-- R is the form of what is in both -/
def MeetOf (a b R : List Rn) : Prop := form 1 R ∧ ∀ n, mem R n ↔ mem a n ∧ mem b n
theorem MtInv.done {x y x' y' acc a b : List Rn} (h : MtInv x y x' y' acc) (he : x' = [] ∨ y' = []) (hx : NormOf a x) (hy : NormOf b y) : MeetOf a b acc := by
  refine ⟨h.frm, fun n => ?_⟩
  rw [← hx.2 n, ← hy.2 n, ← h.mm n]
  constructor
  · exact Or.inl
  · rintro (e | ⟨e, f⟩)
    · exact e
    · rcases he with he | he
      · subst he; exact absurd e (mem_nil n)
      · subst he; exact absurd f (mem_nil n)
/-- what lies outside of the runs so far, below next -/
structure OtInv (p q acc : List Rn) (next : Int) : Prop where
  frm : form 1 acc
  mm : ∀ n, mem acc n ↔ (1 ≤ n ∧ n ≤ 1000000000 ∧ n < next ∧ ¬ mem p n)
  gap : ∀ i l, acc = i ++ [l] → l.hi + 2 ≤ next
  lo : 1 ≤ next
  hi : next ≤ 1000000001
  pm : ∀ n, mem p n → n < next
  rest : form next q
theorem OtInv.start {R : List Rn} (h : form 1 R) : OtInv [] R [] 1 :=
  ⟨trivial, fun n => ⟨fun e => absurd e (mem_nil n), fun e => by omega⟩, (fun i l h => by cases i <;> cases h), Int.le_refl _, by omega, fun n e => absurd e (mem_nil n), h⟩
def outs (acc : List Rn) (next lo : Int) : List Rn := if next < lo then acc ++ [⟨next, lo - 1⟩] else acc
theorem outs_mem (acc : List Rn) (next lo n : Int) (h1 : 1 ≤ next) (h3 : lo ≤ 1000000001) : mem (outs acc next lo) n ↔ mem acc n ∨ (next ≤ n ∧ n < lo) := by
  unfold outs
  split
  · rw [mem_append, mem_one]
    simp only
    constructor
    · rintro (e | e)
      · exact Or.inl e
      · exact Or.inr (by omega)
    · rintro (e | e)
      · exact Or.inl e
      · exact Or.inr (by omega)
  · exact ⟨Or.inl, fun e => e.elim id (fun e => by omega)⟩
theorem outs_form {p q acc : List Rn} {next lo : Int} (h : OtInv p q acc next) (h3 : lo ≤ 1000000001) : form 1 (outs acc next lo) := by
  unfold outs
  split
  · refine form_push h.frm (fun i l e => h.gap i l e) h.lo ?_ ?_ <;> (simp only; omega)
  · exact h.frm
theorem OtInv.step {p q acc : List Rn} {next : Int} {r : Rn} (h : OtInv p (r :: q) acc next) : OtInv (p ++ [r]) q (outs acc next r.lo) (r.hi + 1) := by
  have fr := h.rest
  have f1 := fr.1; have f2 := fr.2.1; have f3 := fr.2.2.1
  have hlo := h.lo
  refine ⟨outs_form h (by omega), fun n => ?_, fun i l e => ?_, by omega, by omega, fun n hn => ?_, form_mono (by omega) fr.2.2.2⟩
  · rw [outs_mem _ _ _ _ hlo (by omega), h.mm n, mem_append, mem_one]
    constructor
    · rintro (e | e)
      · exact ⟨e.1, e.2.1, by omega, fun c => c.elim e.2.2.2 (fun c => by omega)⟩
      · exact ⟨by omega, by omega, by omega, fun c => c.elim (fun c => by have := h.pm n c; omega) (fun c => by omega)⟩
    · rintro ⟨e1, e2, e3, e4⟩
      by_cases c : n < next
      · exact Or.inl ⟨e1, e2, c, fun d => e4 (Or.inl d)⟩
      · exact Or.inr ⟨by omega, Classical.byContradiction fun d => e4 (Or.inr ⟨e1, e2, by omega, by omega⟩)⟩
  · unfold outs at e
    split at e
    · have := List.append_inj_right' e rfl
      simp at this
      rw [← this]; simp only; omega
    · have := h.gap i l e; omega
  · rw [mem_append, mem_one] at hn
    rcases hn with e | e
    · have := h.pm n e; omega
    · omega
/-- O is the form of what isn't in a -/
def OutOf (a O : List Rn) : Prop := form 1 O ∧ ∀ n, mem O n ↔ (1 ≤ n ∧ n ≤ 1000000000 ∧ ¬ mem a n)
theorem OtInv.done {R acc a : List Rn} {next : Int} (h : OtInv R [] acc next) (hR : NormOf a R) : OutOf a (outs acc next 1000000001) := by
  refine ⟨outs_form h (Int.le_refl _), fun n => ?_⟩
  rw [outs_mem _ _ _ _ h.lo (Int.le_refl _), h.mm n, ← hR.2 n]
  constructor
  · rintro (e | e)
    · exact ⟨e.1, e.2.1, e.2.2.2⟩
    · exact ⟨by have := h.lo; omega, by omega, fun c => by have := h.pm n c; omega⟩
  · rintro ⟨e1, e2, e3⟩
    by_cases c : n < next
    · exact Or.inl ⟨e1, e2, c, e3⟩
    · exact Or.inr ⟨by omega, by omega⟩
/-- R is the form of what is in a alone -/
def MinusOf (a b R : List Rn) : Prop := form 1 R ∧ ∀ n, mem R n ↔ mem a n ∧ ¬ mem b n
theorem minus_of {a b O R : List Rn} (hO : OutOf b O) (h : MeetOf a O R) : MinusOf a b R :=
  ⟨h.1, fun n => by rw [h.2 n, hO.2 n]; exact ⟨fun e => ⟨e.1, e.2.2.2⟩, fun e => ⟨e.1, e.1.1, e.1.2.1, e.2⟩⟩⟩
theorem MinusOf.unique {a b R R' : List Rn} (h : MinusOf a b R) (h' : MinusOf a b R') : R = R' := form_unique (Int.le_refl _) h.1 h'.1 (fun n => (h.2 n).trans (h'.2 n).symm)
theorem form_empty {a : List Rn} {l : Int} (hl : 1 ≤ l) (h : form l a) (he : ∀ n, ¬ mem a n) : a = [] := by
  cases a with
  | nil => rfl
  | cons r a => exact absurd ((mem_cons r a r.lo).2 (Or.inl ⟨by have := h.1; omega, by have := h.2; omega, Int.le_refl _, h.2.1⟩)) (he _)
/-- how many numbers -/
def sz : List Rn → Int
  | [] => 0
  | r :: a => (r.hi - r.lo + 1) + sz a
theorem sz_bd : ∀ {a : List Rn} {l : Int}, form l a → 0 ≤ sz a ∧ (a = [] ∨ sz a + l ≤ 1000000001) ∧ (sz a = 0 → a = [])
  | [], _, _ => ⟨Int.le_refl _, Or.inl rfl, fun _ => rfl⟩
  | r :: a, l, h => by
    have h1 := h.1; have h2 := h.2.1; have h3 := h.2.2.1
    obtain ⟨i1, i2, i3⟩ := sz_bd h.2.2.2
    refine ⟨by simp only [sz]; omega, Or.inr ?_, fun e => by simp only [sz] at e; omega⟩
    simp only [sz]
    rcases i2 with e | e
    · subst e; simp only [sz]; omega
    · omega
theorem sz_append (a b : List Rn) : sz (a ++ b) = sz a + sz b := by
  induction a with
  | nil => simp [sz]
  | cons r a ih => simp only [List.cons_append, sz, ih]; omega
theorem sz_take : ∀ (a : List Rn) (l : Int) (k : Nat), form l a → 0 ≤ sz (a.take k) ∧ sz (a.take k) ≤ sz a := by
  intro a
  induction a with
  | nil => intro l k _; simp [sz]
  | cons r a ih =>
    intro l k h
    cases k with
    | zero => have := (sz_bd h).1; simp [sz] at *; exact this
    | succ k =>
      have := ih _ k h.2.2.2
      have := h.2.1
      simp only [List.take_succ_cons, sz]
      omega
end Go.Proofs.YtooinnhjeloocaaGreat
namespace Go.Proofs
open Go.Shelf
def Tryz.sortR_ren : Go.Shelf.Ren := ⟨fun | 6 => 106 | 15 => 61 | 14 => 113 | 28 => 79 | 29 => 80 | 20 => 118 | 21 => 119 | 22 => 120 | 23 => 121 | 24 => 122 | 25 => 123 | 26 => 124 | 27 => 125 | 46 => 126 | 47 => 98 | 48 => 99 | 49 => 127 | 50 => 128 | 57 => 129 | n => n, fun | 22 => 71 | 24 => 75 | 25 => 139 | 3 => 3 | 39 => 91 | 0 => 0 | 53 => 112 | 55 => 114 | 4 => 4 | 46 => 106 | 45 => 105 | 50 => 84 | 5 => 5 | 9 => 9 | 66 => 129 | 70 => 133 | 76 => 141 | 77 => 124 | n => n, fun | n => n⟩
theorem Tryz.sortR : Go.Proofs.SlLaysF0.n6 Tryz.prog Tryz.sortR_ren := {
  mixed := by kernel_rfl
  f6 := ⟨Tryz.f106.name, by decide, Tryz.func106.trans (congrArg some (by kernel_rfl))⟩
  f14 := ⟨Tryz.f113.name, by decide, Tryz.func113.trans (congrArg some (by kernel_rfl))⟩
  f15 := Tryz.func61.trans (congrArg some (by kernel_rfl))
  f20 := ⟨Tryz.f118.name, by decide, Tryz.func118.trans (congrArg some (by kernel_rfl))⟩
  f21 := ⟨Tryz.f119.name, by decide, Tryz.func119.trans (congrArg some (by kernel_rfl))⟩
  f22 := ⟨Tryz.f120.name, by decide, Tryz.func120.trans (congrArg some (by kernel_rfl))⟩
  f23 := ⟨Tryz.f121.name, by decide, Tryz.func121.trans (congrArg some (by kernel_rfl))⟩
  f24 := ⟨Tryz.f122.name, by decide, Tryz.func122.trans (congrArg some (by kernel_rfl))⟩
  f25 := ⟨Tryz.f123.name, by decide, Tryz.func123.trans (congrArg some (by kernel_rfl))⟩
  f26 := ⟨Tryz.f124.name, by decide, Tryz.func124.trans (congrArg some (by kernel_rfl))⟩
  f27 := ⟨Tryz.f125.name, by decide, Tryz.func125.trans (congrArg some (by kernel_rfl))⟩
  f28 := Tryz.func79.trans (congrArg some (by kernel_rfl))
  f29 := Tryz.func80.trans (congrArg some (by kernel_rfl))
  f46 := ⟨Tryz.f126.name, by decide, Tryz.func126.trans (congrArg some (by kernel_rfl))⟩
  f47 := Tryz.func98.trans (congrArg some (by kernel_rfl))
  f48 := Tryz.func99.trans (congrArg some (by kernel_rfl))
  f49 := ⟨Tryz.f127.name, by decide, Tryz.func127.trans (congrArg some (by kernel_rfl))⟩
  f50 := ⟨Tryz.f128.name, by decide, Tryz.func128.trans (congrArg some (by kernel_rfl))⟩
  f57 := ⟨Tryz.f129.name, by decide, Tryz.func129.trans (congrArg some (by kernel_rfl))⟩
  t0 := Tryz.underlying0
  a0 := Tryz.isAgg0
  z0 := Tryz.sizeOf0
  v0 := Tryz.zeroValue0
  t3 := Tryz.underlying3
  a3 := Tryz.isAgg3
  z3 := Tryz.sizeOf3
  v3 := Tryz.zeroValue3
  t4 := Tryz.underlying4
  a4 := Tryz.isAgg4
  z4 := Tryz.sizeOf4
  v4 := Tryz.zeroValue4
  t5 := Tryz.underlying5
  a5 := Tryz.isAgg5
  z5 := Tryz.sizeOf5
  v5 := Tryz.zeroValue5
  t9 := Tryz.underlying9
  a9 := Tryz.isAgg9
  z9 := Tryz.sizeOf9
  v9 := Tryz.zeroValue9
  t22 := Tryz.underlying71
  a22 := Tryz.isAgg71
  z22 := Tryz.sizeOf71
  v22 := Tryz.zeroValue71
  t25 := Tryz.underlying139
  a25 := Tryz.isAgg139
  z25 := Tryz.sizeOf139
  v25 := Tryz.zeroValue139
  t39 := Tryz.underlying91
  a39 := Tryz.isAgg91
  z39 := Tryz.sizeOf91
  v39 := Tryz.zeroValue91
  t45 := Tryz.underlying105
  a45 := Tryz.isAgg105
  z45 := Tryz.sizeOf105
  v45 := Tryz.zeroValue105
  t46 := Tryz.underlying106
  a46 := Tryz.isAgg106
  z46 := Tryz.sizeOf106
  v46 := Tryz.zeroValue106
  t50 := Tryz.underlying84
  a50 := Tryz.isAgg84
  z50 := Tryz.sizeOf84
  v50 := Tryz.zeroValue84
  t53 := Tryz.underlying112
  a53 := Tryz.isAgg112
  z53 := Tryz.sizeOf112
  v53 := Tryz.zeroValue112
  t55 := Tryz.underlying114
  a55 := Tryz.isAgg114
  z55 := Tryz.sizeOf114
  v55 := Tryz.zeroValue114
  t66 := Tryz.underlying129
  a66 := Tryz.isAgg129
  z66 := Tryz.sizeOf129
  v66 := Tryz.zeroValue129
  t70 := Tryz.underlying133
  a70 := Tryz.isAgg133
  z70 := Tryz.sizeOf133
  v70 := Tryz.zeroValue133
  t76 := Tryz.underlying141
  a76 := Tryz.isAgg141
  z76 := Tryz.sizeOf141
  v76 := Tryz.zeroValue141
  t77 := Tryz.underlying124
  a77 := Tryz.isAgg124
  z77 := Tryz.sizeOf124
  v77 := Tryz.zeroValue124 }
end Go.Proofs
