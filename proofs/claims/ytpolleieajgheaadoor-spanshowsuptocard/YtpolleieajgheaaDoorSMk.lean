/- Marks: as values, in memory; a row of marks; a row that the call grows. -/
import Derived.Test.YtpolleieajgheaaDoorSPl
namespace Go.Proofs.YtpolleieajgheaaDoor
open Go.RowKit

def MC (m : Mk) : Array Value := #[.int .i64 m.pos, .int .i64 (m.num : Int), .int .i64 m.step]
abbrev MV (m : Mk) : Value := .agg (MC m)
theorem MC_size (m : Mk) : (MC m).size = 3 := rfl
theorem MC_one (m : Mk) : ∀ v ∈ (MC m).toList, v.oneCell' = true := by
  intro v hv; simp [MC] at hv; rcases hv with rfl | rfl | rfl <;> rfl
theorem cells_MV (m : Mk) : (MV m).cells = MC m := by simp [Value.cells]
theorem zero_MC : (#[.int .i64 0, .int .i64 0, .int .i64 0] : Array Value) = MC mk0 := rfl
theorem fold_MC (m : Mk) : Array.foldl (fun cs x => cs.setIfInBounds x.snd x.fst) (MC mk0) (MC m).zipIdx 0 3 = MC m := rfl
theorem build_MC (x : Int) (y : Nat) (z : Int) : (((MC mk0).setIfInBounds 0 (.int .i64 x)).setIfInBounds 1 (.int .i64 (y : Int))).setIfInBounds 2 (.int .i64 z) = MC ⟨x, y, z⟩ := rfl
/-- from the place p on there lies the mark -/
structure MnAt (w : World) (p : Addr) (m : Mk) : Prop where
  c0 : w.cell? p = some (.int .i64 m.pos)
  c1 : w.cell? (p.add 1) = some (.int .i64 (m.num : Int))
  c2 : w.cell? (p.add 2) = some (.int .i64 m.step)
theorem MnAt.on {w w' : World} {p : Addr} {m : Mk} (S : MnAt w p m) (hb : Below w.heap.size w w') : MnAt w' p m := by
  have h0 := World.block_lt_of_cell? _ _ S.c0
  exact ⟨by rw [hb.cell h0]; exact S.c0, by rw [hb.cell (by rw [block_add]; exact h0)]; exact S.c1, by rw [hb.cell (by rw [block_add]; exact h0)]; exact S.c2⟩
def ldM (v : Value) : Sem Value := Instr.loadAt 59 v
theorem ldM_eq (v : Value) : Instr.loadAt 59 v = ldM v := rfl
theorem sizeM : (Tryd.prog.info? 59).map (·.size) = some 3 := by kernel_rfl
theorem infoM : (Tryd.prog.info? 59).map (fun i => (i.zero, i.size, i.bytes)) = some (some (.agg #[.int .i64 0, .int .i64 0, .int .i64 0]), 3, 24) := by kernel_rfl
theorem run_ldM {w : World} {p : Addr} {m : Mk} (A : MnAt w p m) : (ldM (.pointer (some p))).run Tryd.prog w = .ok (MV m) w := by
  have hl := run_loadCells_list (P := Tryd.prog) (w := w) p (MC m).toList (fun j v hv => by
    match j, hv with
    | 0, hv => cases hv; rw [add_zero]; exact A.c0
    | 1, hv => cases hv; exact A.c1
    | 2, hv => cases hv; exact A.c2
    | j + 3, hv => simp [MC] at hv)
  unfold ldM
  simp only [Instr.loadAt, Instr.sureAddr, Sem.run_bind, Sem.run_pure, Result.andThen]
  cases hq : Tryd.prog.info? 59 with
  | none => have := sizeM; simp [hq] at this
  | some x =>
    have hs : x.size = 3 := by have := sizeM; simpa [hq] using this
    have hagg : (isAgg 59).run Tryd.prog w = .ok true w := by
      unfold isAgg
      rw [Sem.run_bind, run_underlying Tryd.underlying59 w]
      rfl
    have e2 : (MC m).toList.length = 3 := rfl
    rw [e2] at hl
    simp [loadVar, Sem.run_bind, hagg, sizeOf, typeInfo, hq, hs, hl, MV]
/-- a row of marks -/
structure MSrc (w : World) (ao : Option Addr) (m c : Nat) (L : List Mk) : Prop where
  len : L.length = m
  nil : ao = none → m = 0
  cell : ∀ ad, ao = some ad → ∃ g, ad = ⟨g, 0, none⟩ ∧ ∀ t, t < m → MnAt w (ad.add (t * 3)) (L.getD t mk0)
theorem MSrc.below {w w' : World} {ao : Option Addr} {m c : Nat} {L : List Mk} (h : MSrc w ao m c L) (hb : Below w.heap.size w w') : MSrc w' ao m c L :=
  ⟨h.len, h.nil, fun ad ha => by obtain ⟨g, e, k⟩ := h.cell ad ha; exact ⟨g, e, fun t ht => (k t ht).on hb⟩⟩
theorem MSrc.at {w : World} {ao : Option Addr} {m c : Nat} {L : List Mk} (h : MSrc w ao m c L) (k : Nat) (hk : k < m) : ∃ g, ao = some ⟨g, 0, none⟩ ∧ MnAt w ⟨g, k * 3, none⟩ (L.getD k mk0) := by
  cases ao with
  | none => have := h.nil rfl; omega
  | some ad =>
    obtain ⟨g, rfl, c⟩ := h.cell ad rfl
    have := c k hk
    rw [Addr.add_lit, Nat.zero_add] at this
    exact ⟨g, rfl, this⟩
def mcs (L : List Mk) : List Value := (L.map (fun r => (MC r).toList)).flatten
theorem mcs_append (L R : List Mk) : mcs (L ++ R) = mcs L ++ mcs R := by simp [mcs]
theorem mcs_one (r : Mk) : mcs [r] = (MC r).toList := by simp [mcs]
theorem mcs_length (L : List Mk) : (mcs L).length = L.length * 3 := by
  induction L with
  | nil => rfl
  | cons a L ih => have : mcs (a :: L) = (MC a).toList ++ mcs L := rfl; rw [this, List.length_append, ih]; simp [MC]; omega
theorem mcs_at (L : List Mk) (t j : Nat) (ht : t < L.length) (hj : j < 3) : (mcs L)[t * 3 + j]? = (MC (L.getD t mk0)).toList[j]? := by
  induction L generalizing t with
  | nil => simp at ht
  | cons a L ih =>
    have e : mcs (a :: L) = (MC a).toList ++ mcs L := rfl
    cases t with
    | zero => rw [e, List.getElem?_append_left (by simp [MC]; omega)]; simp [List.getD]
    | succ t =>
      rw [e, List.getElem?_append_right (by simp [MC]; omega)]
      have h := ih t (by simpa using ht)
      have e4 : (t + 1) * 3 + j - (MC a).toList.length = t * 3 + j := by simp [MC]; omega
      rw [e4, h]; simp [List.getD]
/-- the slice owns just these marks, in blocks from B on; below B0 all is as it was -/
structure OwnM (B0 B : Nat) (w w' : World) (ao : Option Addr) (cap : Nat) (acc : List Mk) : Prop where
  own : w'.ownsRow B 59 3 (.slice ao acc.length cap) acc.length (mcs acc)
  below : Below B0 w w'
  hB : B ≤ w'.heap.size
  hB0 : B0 ≤ B
theorem OwnM.nil {B0 B : Nat} {w w' : World} (hb : Below B0 w w') (hB : B ≤ w'.heap.size) (h0 : B0 ≤ B) : OwnM B0 B w w' none 0 [] :=
  ⟨World.ownsRow_nil _ _ _ _, hb, hB, h0⟩
theorem OwnM.append {B0 B : Nat} {w w' : World} {ao : Option Addr} {cap : Nat} {acc : List Mk} (O : OwnM B0 B w w' ao cap acc) (e : Mk) (C : Array Value) (hC : C = MC e) (hlen : acc.length < 34359738368)
    {ops : Array Oper} {rest : List Oper} {o : Oper} {a : Act} {Q : Exit → Act → World → Prop} (hgd : o.guard = none) (s x : Operand) (ho : o.op = .call { callee := .builtin .append, args := #[s, x], argTypes := #[54, 54] })
    (n : Nat) (hn : acc.length = n) (hs : a.eval s = .slice ao n cap) (hx : a.eval x = .slice (some ⟨w'.heap.size, 0, none⟩) 1 1)
    (hK : ∀ (g cap2 : Nat) (w2 : World), OwnM B0 B w w2 (some ⟨g, 0, none⟩) cap2 (acc ++ [e]) → wpList Tryd.prog ops Q rest (a.put o.dst (.slice (some ⟨g, 0, none⟩) (n + 1) cap2)) w2) :
    wpList Tryd.prog ops Q (o :: rest) a (w'.alloc (.cells C 59)) := by
  subst hn hC
  obtain ⟨i0, hi, hz0, hz1, hz2⟩ := info_parts infoM
  have hB := O.hB
  have hB0 := O.hB0
  refine wpList_append_own _ hgd s x 54 ho B 59 i0 (.agg #[.int .i64 0, .int .i64 0, .int .i64 0]) 3 24 Tryd.underlying54 hi hz0 hz1 hz2 rfl (by decide) _ acc.length (mcs acc) hs (O.own.alloc _) ⟨w'.heap.size, 0, none⟩ 1 1 (MC e).toList hx (by simp [MC]) ?_ ?_ (by unfold maxLen; omega) (by omega) (by simp; omega) ?_
  · intro j u hj
    rw [Addr.add_lit, Nat.zero_add, World.cell?_alloc_new]
    simpa using hj
  · intro u hu
    exact MC_one e u hu
  · intro v' w2 hown hgrow _
    rcases hown.2 with ⟨h0, h00⟩ | ⟨g, cap2, cur, hv, r⟩
    · omega
    · subst hv
      have hrow : ∀ k, (Value.slice ao acc.length cap).ownBlock = some k → B ≤ k := fun k hk => (O.own.lt k hk).1
      have hsz := hgrow.size
      rw [World.size_alloc] at hsz
      refine hK g cap2 w2 ⟨?_, (O.below.alloc (by omega) _).grown hgrow (by simp; omega) (fun k hk => by have := hrow k hk; omega), by omega, hB0⟩
      rw [List.length_append, mcs_append, mcs_one]; exact hown
theorem OwnM.later {B0 B : Nat} {w w' w2 : World} {ao : Option Addr} {cap : Nat} {acc : List Mk} (O : OwnM B0 B w w' ao cap acc) (hb : Below w'.heap.size w' w2) : OwnM B0 B w w2 ao cap acc := by
  refine ⟨⟨O.own.1, ?_⟩, O.below.trans (hb.mono (Nat.le_trans O.hB0 O.hB)), Nat.le_trans O.hB hb.size, O.hB0⟩
  rcases O.own.2 with h | ⟨g, cap2, cur, hv, hbg, hgg, r⟩
  · exact Or.inl h
  · exact Or.inr ⟨g, cap2, cur, hv, hbg, (hb.block g (Array.getElem?_eq_some_iff.1 hgg).1).trans hgg, r⟩
theorem OwnM.src {B0 B : Nat} {w w' : World} {ao : Option Addr} {cap : Nat} {acc : List Mk} (O : OwnM B0 B w w' ao cap acc) : MSrc w' ao acc.length cap acc ∧ ∀ ad, ao = some ad → B ≤ ad.block := by
  rcases O.own.2 with ⟨h0, h00⟩ | ⟨g, cap2, cur, hv, hbg, hgg, hnc, hcm, hcsz, htake⟩
  · simp only [Value.slice.injEq] at h0
    obtain ⟨rfl, e0, rfl⟩ := h0
    exact ⟨⟨rfl, fun _ => h00, (fun ad h => by cases h)⟩, fun ad h => (by cases h)⟩
  · simp only [Value.slice.injEq, true_and] at hv
    obtain ⟨rfl, rfl⟩ := hv
    have cell : ∀ t j, t < acc.length → j < 3 → w'.cell? ⟨g, t * 3 + j, none⟩ = (MC (acc.getD t mk0)).toList[j]? := fun t j ht hj => by
      rw [O.own.cellAt (t * 3 + j) (by omega), mcs_at _ t j ht hj]
    refine ⟨⟨rfl, fun h => (by cases h), fun ad h => ?_⟩, fun ad h => by obtain rfl := Option.some.inj h; exact hbg⟩
    obtain rfl := Option.some.inj h
    refine ⟨g, rfl, fun t ht => ⟨?_, ?_, ?_⟩⟩
    · rw [Addr.add_lit, Nat.zero_add]; exact cell t 0 ht (by omega)
    · rw [Addr.add_lit, Addr.add_lit, Nat.zero_add]; exact cell t 1 ht (by omega)
    · rw [Addr.add_lit, Addr.add_lit, Nat.zero_add]; exact cell t 2 ht (by omega)
def mkM (a b : Value) : Sem Value := Instr.makeSlice 54 a b
theorem mkM_eq (a b : Value) : Instr.makeSlice 54 a b = mkM a b := rfl
/-- a list with room for n, made anew -/
theorem madeM (w : World) (n : Nat) (hn : n ≤ 34359738368) : ∃ w' : World, (mkM (.int .i64 0) (.int .i64 (n : Int))).run Tryd.prog w = .ok (.slice (some ⟨w.heap.size, 0, none⟩) 0 n) w' ∧ OwnM w.heap.size w.heap.size w w' (some ⟨w.heap.size, 0, none⟩) n [] := by
  obtain ⟨i0, hi, hz0, hz1, hz2⟩ := info_parts infoM
  obtain ⟨w', h1, h2, h3⟩ := run_make_own (P := Tryd.prog) w w.heap.size 54 59 i0 _ 3 Tryd.underlying54 hi hz0 hz1 .i64 .i64 n (by rw [hz2]; omega) (by unfold maxLen; omega) (Nat.le_refl _)
  exact ⟨w', h1, h2, (Below.refl _ _).grown h3 (Nat.le_refl _) (fun k hk => by cases hk), h3.size, Nat.le_refl _⟩
/-- a list of marks is handed back, new; old memory stands -/
def GivesM (w w' : World) (e : Ending) (P : List Mk → Prop) : Prop := ∃ ao n c L, e = .returned (.slice ao n c) ∧ MSrc w' ao n c L ∧ (∀ ad, ao = some ad → w.heap.size ≤ ad.block) ∧ Below w.heap.size w w' ∧ P L
end Go.Proofs.YtpolleieajgheaaDoor
