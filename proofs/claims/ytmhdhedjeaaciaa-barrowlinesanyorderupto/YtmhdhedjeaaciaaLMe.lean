/- Lines in memory: a box, a row; loaded and stored whole; a row that the call grows. -/
import Derived.Test.YtmhdhedjeaaciaaLPl
import Derived.Test.YtmhdhedjeaaciaaLOwn2
namespace Go.Proofs.Ytmhdhedjeaaciaa
open Go.RowKit

/-- a line's cells -/
def LC (e : Ln) : Array Value := #[.string e.sku, .int .i64 e.qty, .int .i64 e.parts]
abbrev LV (e : Ln) : Value := .agg (LC e)
theorem LC_size (e : Ln) : (LC e).size = 3 := rfl
theorem LC_one (e : Ln) : ∀ v ∈ (LC e).toList, v.oneCell' = true := by
  intro v hv; simp [LC] at hv; rcases hv with rfl | rfl | rfl <;> rfl
theorem cells_LV (e : Ln) : (LV e).cells = LC e := by simp [Value.cells]
theorem zero_LC : (#[.string ⟨#[]⟩, .int .i64 0, .int .i64 0] : Array Value) = LC ln0 := rfl
/-- from the place p on there lies the line -/
structure LnAt (w : World) (p : Addr) (e : Ln) : Prop where
  c0 : w.cell? p = some (.string e.sku)
  c1 : w.cell? (p.add 1) = some (.int .i64 e.qty)
  c2 : w.cell? (p.add 2) = some (.int .i64 e.parts)
theorem LnAt.on {w w' : World} {p : Addr} {e : Ln} (S : LnAt w p e) (hb : Below w.heap.size w w') : LnAt w' p e := by
  have h0 := World.block_lt_of_cell? _ _ S.c0
  exact ⟨by rw [hb.cell h0]; exact S.c0, by rw [hb.cell (by rw [block_add]; exact h0)]; exact S.c1, by rw [hb.cell (by rw [block_add]; exact h0)]; exact S.c2⟩
/-- the block g is a variable that holds the line -/
def LBox (w : World) (g : Nat) (T : TypeId) (e : Ln) : Prop := w.heap[g]? = some (.cells (LC e) T (0, 0))
theorem LBox.lt {w : World} {g : Nat} {T : TypeId} {e : Ln} (h : LBox w g T e) : g < w.heap.size := (Array.getElem?_eq_some_iff.1 h).1
theorem LBox.at {w : World} {g : Nat} {T : TypeId} {e : Ln} (h : LBox w g T e) : LnAt w ⟨g, 0, none⟩ e := by
  unfold LBox at h
  refine ⟨?_, ?_, ?_⟩ <;> simp [Addr.add, World.cell?, h, LC]
theorem LBox.below {w w' : World} {g : Nat} {T : TypeId} {e : Ln} (h : LBox w g T e) (hb : Below w.heap.size w w') : LBox w' g T e := (hb.block g h.lt).trans h
theorem lbox_new (w : World) (T : TypeId) (e : Ln) : LBox (w.alloc (.cells (LC e) T)) w.heap.size T e := by unfold LBox; rw [heap_alloc_new]

def ldL (v : Value) : Sem Value := Instr.loadAt 29 v
theorem ldL_eq (v : Value) : Instr.loadAt 29 v = ldL v := rfl
def stL (p v : Value) : Sem Unit := Instr.storeAt 29 p v
theorem stL_eq (p v : Value) : Instr.storeAt 29 p v = stL p v := rfl
theorem sizeL : (Try.prog.info? 29).map (·.size) = some 3 := by kernel_rfl
theorem run_lvL {w : World} {p : Addr} {e : Ln} (A : LnAt w p e) : (loadVar 29 p).run Try.prog w = .ok (LV e) w := by
  have hl := run_loadCells_list (P := Try.prog) (w := w) p (LC e).toList (fun j v hv => by
    match j, hv with
    | 0, hv => cases hv; rw [add_zero]; exact A.c0
    | 1, hv => cases hv; exact A.c1
    | 2, hv => cases hv; exact A.c2
    | j + 3, hv => simp [LC] at hv)
  cases hq : Try.prog.info? 29 with
  | none => have := sizeL; simp [hq] at this
  | some x =>
    have hs : x.size = 3 := by have := sizeL; simpa [hq] using this
    have hagg : (isAgg 29).run Try.prog w = .ok true w := by
      unfold isAgg
      rw [Sem.run_bind, run_underlying Try.underlying29 w]
      rfl
    have e4 : (LC e).toList.length = 3 := rfl
    rw [e4] at hl
    simp [loadVar, Sem.run_bind, hagg, sizeOf, typeInfo, hq, hs, hl, LV]
theorem run_ldL {w : World} {p : Addr} {e : Ln} (A : LnAt w p e) : (ldL (.pointer (some p))).run Try.prog w = .ok (LV e) w := by
  unfold ldL
  simp only [Instr.loadAt, Instr.sureAddr, Sem.run_bind, Sem.run_pure, Result.andThen]
  exact run_lvL A
theorem run_stL {w : World} {g : Nat} {T : TypeId} {e e' : Ln} (A : LBox w g T e) :
    (stL (.pointer (some ⟨g, 0, none⟩)) (LV e')).run Try.prog w = .ok () (w.setRow g (LC e')) := by
  unfold stL
  have h := run_storeCells_from (P := Try.prog) g T (LC e').toList 0 (LC e) w A (by simp [LC]) (LC_one e')
  cases hq : Try.prog.info? 29 with
  | none => have := sizeL; simp [hq] at this
  | some x =>
    have hs : x.size = 3 := by have := sizeL; simpa [hq] using this
    simp only [Instr.storeAt, Instr.sureAddr, Sem.run_bind, Sem.run_pure, Result.andThen, storeVar, sizeOf, typeInfo, cells_LV, LC_size]
    simp at h
    simp [h, hq, hs]
theorem LBox.setRow {w : World} {g : Nat} {T : TypeId} {e e' : Ln} (A : LBox w g T e) : LBox (w.setRow g (LC e')) g T e' := setRow_heap w g _ _ _ _ A
/-- a variable made and filled -/
theorem madeL (w : World) (e : Ln) (g : Nat) (hg : w.heap.size = g) : ∃ w' : World, (stL (.pointer (some ⟨g, 0, none⟩)) (LV e)).run Try.prog (w.alloc (.cells (LC ln0) 29)) = .ok () w' ∧ LBox w' g 29 e ∧ Below w.heap.size w w' ∧ w'.heap.size = w.heap.size + 1 := by
  subst hg
  refine ⟨_, run_stL (lbox_new w 29 ln0), (lbox_new w 29 ln0).setRow, below_setRow (below_new w _) (Nat.le_refl _), by simp [World.setRow]⟩

/-- a row of lines -/
def LSrc (w : World) (ao : Option Addr) (m c : Nat) (L : List Ln) : Prop :=
  L.length = m ∧ (ao = none → m = 0 ∧ c = 0) ∧ (∀ ad, ao = some ad → ∀ t, t < m → LnAt w (ad.add (t * 3)) (L.getD t ln0)) ∧ (∀ e ∈ L, e.sku.size ≤ maxLen) ∧ m ≤ 3518437208883
theorem LSrc.below {w w' : World} {ao : Option Addr} {m c : Nat} {L : List Ln} (h : LSrc w ao m c L) (hb : Below w.heap.size w w') : LSrc w' ao m c L :=
  ⟨h.1, h.2.1, fun ad ha t ht => (h.2.2.1 ad ha t ht).on hb, h.2.2.2⟩
theorem LSrc.at {w : World} {ao : Option Addr} {m c : Nat} {L : List Ln} (h : LSrc w ao m c L) (k : Nat) (hk : k < m) : ∃ ad, ao = some ad ∧ LnAt w (ad.add (k * 3)) (L.getD k ln0) := by
  cases ao with
  | none => have := h.2.1 rfl; omega
  | some ad => exact ⟨ad, rfl, h.2.2.1 ad rfl k hk⟩
theorem LSrc.sku {w : World} {ao : Option Addr} {m c : Nat} {L : List Ln} (h : LSrc w ao m c L) (k : Nat) (hk : k < m) : (L.getD k ln0).sku.size ≤ maxLen := by
  have : L.getD k ln0 = L[k]'(by rw [h.1]; exact hk) := by simp [List.getD, h.1, hk]
  rw [this]
  exact h.2.2.2.1 _ (List.getElem_mem _)
theorem LSrc.none (w : World) : LSrc w none 0 0 [] := ⟨rfl, fun _ => ⟨rfl, rfl⟩, (fun ad h => by cases h), (fun e he => by cases he), by omega⟩
def lcs (L : List Ln) : List Value := (L.map (fun e => (LC e).toList)).flatten
theorem lcs_append (L R : List Ln) : lcs (L ++ R) = lcs L ++ lcs R := by simp [lcs]
theorem lcs_one (e : Ln) : lcs [e] = (LC e).toList := by simp [lcs]
theorem lcs_length (L : List Ln) : (lcs L).length = L.length * 3 := by
  induction L with
  | nil => rfl
  | cons a L ih => have : lcs (a :: L) = (LC a).toList ++ lcs L := rfl; rw [this, List.length_append, ih]; simp [LC]; omega
theorem lcs_at (L : List Ln) (t j : Nat) (ht : t < L.length) (hj : j < 3) : (lcs L)[t * 3 + j]? = (LC (L.getD t ln0)).toList[j]? := by
  induction L generalizing t with
  | nil => simp at ht
  | cons a L ih =>
    have e : lcs (a :: L) = (LC a).toList ++ lcs L := rfl
    cases t with
    | zero => rw [e, List.getElem?_append_left (by simp [LC]; omega)]; simp [List.getD]
    | succ t =>
      rw [e, List.getElem?_append_right (by simp [LC]; omega)]
      have h := ih t (by simpa using ht)
      have e4 : (t + 1) * 3 + j - (LC a).toList.length = t * 3 + j := by simp [LC]; omega
      rw [e4, h]; simp [List.getD]
theorem infoL : (Try.prog.info? 29).map (fun i => (i.zero, i.size, i.bytes)) = some (some (.agg #[.string ⟨#[]⟩, .int .i64 0, .int .i64 0]), 3, 32) := by kernel_rfl

/-- the slice owns just these entries, in blocks from B on; below B0 all is as it was -/
structure OwnL (B0 B : Nat) (w w' : World) (ao : Option Addr) (cap : Nat) (acc : List Ln) : Prop where
  own : w'.ownsRow B 29 3 (.slice ao acc.length cap) acc.length (lcs acc)
  below : Below B0 w w'
  hB : B ≤ w'.heap.size
  hB0 : B0 ≤ B
theorem OwnL.nil {B0 B : Nat} {w w' : World} (hb : Below B0 w w') (hB : B ≤ w'.heap.size) (h0 : B0 ≤ B) : OwnL B0 B w w' none 0 [] :=
  ⟨World.ownsRow_nil _ _ _ _, hb, hB, h0⟩
theorem OwnL.append {B0 B : Nat} {w w' : World} {ao : Option Addr} {cap : Nat} {acc : List Ln} (O : OwnL B0 B w w' ao cap acc) (e : Ln) (C : Array Value) (hC : C = LC e) (hlen : acc.length < 3518437208883)
    {ops : Array Oper} {rest : List Oper} {o : Oper} {a : Act} {Q : Exit → Act → World → Prop} (hgd : o.guard = none) (s x : Operand) (ho : o.op = .call { callee := .builtin .append, args := #[s, x], argTypes := #[24, 24] })
    (n : Nat) (hn : acc.length = n) (hs : a.eval s = .slice ao n cap) (hx : a.eval x = .slice (some ⟨w'.heap.size, 0, none⟩) 1 1)
    (hK : ∀ (g cap2 : Nat) (w2 : World), OwnL B0 B w w2 (some ⟨g, 0, none⟩) cap2 (acc ++ [e]) → (∀ k, k < B → w2.heap[k]? = w'.heap[k]?) → wpList Try.prog ops Q rest (a.put o.dst (.slice (some ⟨g, 0, none⟩) (n + 1) cap2)) w2) :
    wpList Try.prog ops Q (o :: rest) a (w'.alloc (.cells C 29)) := by
  subst hn hC
  obtain ⟨i0, hi, hz0, hz1, hz2⟩ := info_parts infoL
  have hB := O.hB
  have hB0 := O.hB0
  refine wpList_append_own _ hgd s x 24 ho B 29 i0 (.agg #[.string ⟨#[]⟩, .int .i64 0, .int .i64 0]) 3 32 Try.underlying24 hi hz0 hz1 hz2 rfl (by decide) _ acc.length (lcs acc) hs (O.own.alloc _) ⟨w'.heap.size, 0, none⟩ 1 1 (LC e).toList hx (by simp [LC]) ?_ ?_ (by unfold maxLen; omega) (by omega) (by simp; omega) ?_
  · intro j u hj
    rw [Addr.add_lit, Nat.zero_add, World.cell?_alloc_new]
    simpa using hj
  · intro u hu
    exact LC_one e u hu
  · intro v' w2 hown hgrow _
    rcases hown.2 with ⟨h0, h00⟩ | ⟨g, cap2, cur, hv, hbg, hgg, hnc, hcm, hcsz, htake⟩
    · omega
    · subst hv
      have hrow : ∀ k, (Value.slice ao acc.length cap).ownBlock = some k → B ≤ k := fun k hk => (O.own.lt k hk).1
      have hsz := hgrow.size
      rw [World.size_alloc] at hsz
      refine hK g cap2 w2 ⟨?_, (O.below.alloc (by omega) _).grown hgrow (by simp; omega) (fun k hk => by have := hrow k hk; omega), by omega, hB0⟩ (fun k hk => ?_)
      · rw [List.length_append, lcs_append, lcs_one]; exact hown
      · rw [hgrow.block k (by simp; omega) (fun e => by have := hrow k e.symm; omega)]
        exact Below.heap_alloc _ _ _ (by omega)
theorem OwnL.later {B0 B : Nat} {w w' w2 : World} {ao : Option Addr} {cap : Nat} {acc : List Ln} (O : OwnL B0 B w w' ao cap acc) (hb : Below w'.heap.size w' w2) : OwnL B0 B w w2 ao cap acc := by
  refine ⟨⟨O.own.1, ?_⟩, O.below.trans (hb.mono (Nat.le_trans O.hB0 O.hB)), Nat.le_trans O.hB hb.size, O.hB0⟩
  rcases O.own.2 with h | ⟨g, cap2, cur, hv, hbg, hgg, r⟩
  · exact Or.inl h
  · exact Or.inr ⟨g, cap2, cur, hv, hbg, (hb.block g (Array.getElem?_eq_some_iff.1 hgg).1).trans hgg, r⟩
theorem OwnL.src {B0 B : Nat} {w w' : World} {ao : Option Addr} {cap : Nat} {acc : List Ln} (O : OwnL B0 B w w' ao cap acc) (hs : ∀ e ∈ acc, e.sku.size ≤ maxLen) (hl : acc.length ≤ 3518437208883) : LSrc w' ao acc.length cap acc ∧ ∀ ad, ao = some ad → B ≤ ad.block := by
  rcases O.own.2 with ⟨h0, h00⟩ | ⟨g, cap2, cur, hv, hbg, hgg, hnc, hcm, hcsz, htake⟩
  · simp only [Value.slice.injEq] at h0
    obtain ⟨rfl, e0, rfl⟩ := h0
    exact ⟨⟨rfl, fun _ => ⟨h00, rfl⟩, fun ad h => (by cases h), hs, hl⟩, fun ad h => (by cases h)⟩
  · simp only [Value.slice.injEq, true_and] at hv
    obtain ⟨rfl, rfl⟩ := hv
    have cell : ∀ t j, t < acc.length → j < 3 → w'.cell? ⟨g, t * 3 + j, none⟩ = (LC (acc.getD t ln0)).toList[j]? := fun t j ht hj => by
      rw [O.own.cellAt (t * 3 + j) (by omega), lcs_at _ t j ht hj]
    refine ⟨⟨rfl, fun h => (by cases h), fun ad h t ht => ?_, hs, hl⟩, fun ad h => by obtain rfl := Option.some.inj h; exact hbg⟩
    obtain rfl := Option.some.inj h
    refine ⟨?_, ?_, ?_⟩
    · rw [Addr.add_lit, Nat.zero_add]; exact cell t 0 ht (by omega)
    · rw [Addr.add_lit, Addr.add_lit, Nat.zero_add]; exact cell t 1 ht (by omega)
    · rw [Addr.add_lit, Addr.add_lit, Nat.zero_add]; exact cell t 2 ht (by omega)
theorem OwnL.append2 {B0 B : Nat} {w w' : World} {ao : Option Addr} {cap : Nat} {acc : List Ln} (O : OwnL B0 B w w' ao cap acc) (e : Ln) (C : Array Value) (hC : C = LC e) (hlen : acc.length < 3518437208883)
    {ops : Array Oper} {rest : List Oper} {o : Oper} {a : Act} {Q : Exit → Act → World → Prop} (hgd : o.guard = none) (s x : Operand) (ho : o.op = .call { callee := .builtin .append, args := #[s, x], argTypes := #[24, 24] })
    (n : Nat) (hn : acc.length = n) (hs : a.eval s = .slice ao n cap) (hx : a.eval x = .slice (some ⟨w'.heap.size, 0, none⟩) 1 1)
    (hK : ∀ (g cap2 : Nat) (w2 : World), OwnL B0 B w w2 (some ⟨g, 0, none⟩) cap2 (acc ++ [e]) → (∀ k, k < w'.heap.size → (∀ ad, ao = some ad → ad.block ≠ k) → w2.heap[k]? = w'.heap[k]?) → ((∃ ad, ao = some ad ∧ ad.block = g) ∨ w'.heap.size < g) → wpList Try.prog ops Q rest (a.put o.dst (.slice (some ⟨g, 0, none⟩) (n + 1) cap2)) w2) :
    wpList Try.prog ops Q (o :: rest) a (w'.alloc (.cells C 29)) := by
  subst hn hC
  obtain ⟨i0, hi, hz0, hz1, hz2⟩ := info_parts infoL
  have hB := O.hB
  have hB0 := O.hB0
  refine wpList_append_own_at _ hgd s x 24 ho B 29 i0 (.agg #[.string ⟨#[]⟩, .int .i64 0, .int .i64 0]) 3 32 Try.underlying24 hi hz0 hz1 hz2 rfl (by decide) _ acc.length (lcs acc) hs (O.own.alloc _) ⟨w'.heap.size, 0, none⟩ 1 1 (LC e).toList hx (by simp [LC]) ?_ ?_ (by unfold maxLen; omega) (by omega) (by simp; omega) ?_
  · intro j u hj
    rw [Addr.add_lit, Nat.zero_add, World.cell?_alloc_new]
    simpa using hj
  · intro u hu
    exact LC_one e u hu
  · intro v' w2 hown hgrow _ hblk
    rcases hown.2 with ⟨h0, h00⟩ | ⟨g, cap2, cur, hv, hbg, hgg, hnc, hcm, hcsz, htake⟩
    · omega
    · subst hv
      have hrow : ∀ k, (Value.slice ao acc.length cap).ownBlock = some k → B ≤ k := fun k hk => (O.own.lt k hk).1
      have hsz := hgrow.size
      rw [World.size_alloc] at hsz
      refine hK g cap2 w2 ⟨?_, (O.below.alloc (by omega) _).grown hgrow (by simp; omega) (fun k hk => by have := hrow k hk; omega), by omega, hB0⟩ (fun k hk hne => ?_) ?_
      · rw [List.length_append, lcs_append, lcs_one]; exact hown
      · rw [hgrow.block k (by simp; omega) (fun e => by
          cases ao with
          | none => simp [Value.ownBlock] at e
          | some ad => simp [Value.ownBlock] at e; exact hne ad rfl e.symm)]
        exact Below.heap_alloc _ _ _ (by omega)
      · rcases hblk with h | h
        · cases ao with
          | none => simp [Value.ownBlock] at h
          | some ad => simp [Value.ownBlock] at h; exact Or.inl ⟨ad, rfl, h.symm⟩
        · simp [Value.ownBlock] at h; exact Or.inr (by omega)
theorem LSrc.kept {w w2 : World} {ao : Option Addr} {m c : Nat} {L : List Ln} (h : LSrc w ao m c L) (hk : ∀ ad, ao = some ad → w2.heap[ad.block]? = w.heap[ad.block]?) : LSrc w2 ao m c L := by
  refine ⟨h.1, h.2.1, fun ad ha t ht => ?_, h.2.2.2⟩
  have A := h.2.2.1 ad ha t ht
  have hb : ∀ j, w2.cell? ((ad.add (t * 3)).add j) = w.cell? ((ad.add (t * 3)).add j) := fun j => cell_kept (by rw [block_add, block_add]; exact hk ad ha)
  have hb0 : w2.cell? (ad.add (t * 3)) = w.cell? (ad.add (t * 3)) := cell_kept (by rw [block_add]; exact hk ad ha)
  exact ⟨hb0.trans A.c0, (hb 1).trans A.c1, (hb 2).trans A.c2⟩
theorem OwnL.lt {B0 B : Nat} {w w' : World} {ao : Option Addr} {cap : Nat} {acc : List Ln} (O : OwnL B0 B w w' ao cap acc) (ad : Addr) (h : ao = some ad) : ad.block < w'.heap.size := by
  subst h
  exact (O.own.lt ad.block (by simp [Value.ownBlock])).2
end Go.Proofs.Ytmhdhedjeaaciaa
