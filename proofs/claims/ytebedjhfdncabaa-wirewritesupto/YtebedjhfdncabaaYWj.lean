/- WireWrites: answers and copies grow; arrays of four are made; the script. -/
import Derived.Test.YtebedjhfdncabaaYWi
namespace Go.Proofs.Ytebedjhfdncabaa
open Go.RowKit
variable {w w' w2 w0 : World} {g : Nat} {col : Nat → Nat} {s : Ws} {lim : Nat}

/-- a row grew -/
structure G1 (w w2 : World) (v v2 : Value) : Prop where
  grown : w.grownBy w2 v.ownBlock
  lies : v2.ownBlock = v.ownBlock ∨ ∃ k, v2.ownBlock = some k ∧ w.heap.size ≤ k
theorem infoA : (Try.prog.info? 27).map (fun i => (i.zero, i.size, i.bytes)) = some (some (.slice none 0 0), 1, 24) := by kernel_rfl
theorem infoS : (Try.prog.info? 9).map (fun i => (i.zero, i.size, i.bytes)) = some (some (.string ⟨#[]⟩), 1, 16) := by kernel_rfl
theorem own_lt2 {T : TypeId} {v : Value} {n : Nat} {L : List Value} (h : w.ownsRow 0 T 1 v n L) (o : Obj) : (w.alloc o).ownsRow 0 T 1 v n L := own_keep h fun k hk => Below.heap_alloc w o k (own_lt h k hk)
theorem G1.new {o : Obj} {v v2 : Value} (h : G1 (w.alloc o) w2 v v2) : G1 w w2 v v2 := by
  have hs := h.grown.size
  rw [World.size_alloc] at hs
  refine ⟨⟨h.grown.os, h.grown.tape, h.grown.output, by omega, fun k hk hne => (h.grown.block k (by rw [World.size_alloc]; omega) hne).trans (Below.heap_alloc w o k hk)⟩, ?_⟩
  rcases h.lies with e | ⟨k, e, hk⟩
  · exact Or.inl e
  · rw [World.size_alloc] at hk
    exact Or.inr ⟨k, e, by omega⟩
theorem appA {v x : Value} {L : List Value} {n : Nat} (h : w.ownsRow 0 27 1 v n L) (hx : x.oneCell' = true) (hb : n + 1 ≤ 5000000000000)
    {ops : Array Oper} {rest : List Oper} {o : Oper} {a : Act} {Q : Exit → Act → World → Prop} (hgd : o.guard = none) (sl y : Operand) (ho : o.op = .call { callee := .builtin .append, args := #[sl, y], argTypes := #[33, 33] })
    (hs : a.eval sl = v) (hy : a.eval y = .slice (some ⟨w.heap.size, 0, none⟩) 1 1)
    (hK : ∀ (v2 : Value) (w2 : World), w2.ownsRow 0 27 1 v2 (n + 1) (L ++ [x]) → G1 w w2 v v2 → wpList Try.prog ops Q rest (a.put o.dst v2) w2) :
    wpList Try.prog ops Q (o :: rest) a (w.alloc (.cells #[x] 27)) := by
  obtain ⟨i0, hi, hz0, hz1, hz2⟩ := info_parts infoA
  refine wpList_append_own_at _ hgd sl y 33 ho 0 27 i0 (.slice none 0 0) 1 24 Try.underlying33 hi hz0 hz1 hz2 rfl (by decide) _ n L hs (own_lt2 h _) ⟨w.heap.size, 0, none⟩ 1 1 [x] hy rfl (fun j u hj => ?_) (by simpa using hx) (by unfold maxLen; omega) (by omega) (Nat.zero_le _) ?_
  · match j, hj with
    | 0, hj => cases hj; exact cell_one_new w _ _ 0 _ rfl
  · intro v' w2 hown hgrow _ hat
    refine hK v' w2 hown (G1.new ⟨hgrow, ?_⟩)
    rcases hat with e | e
    · exact Or.inl e
    · exact Or.inr ⟨_, e, Nat.le_refl _⟩
theorem appC {v x : Value} {L : List Value} {n : Nat} (h : w.ownsRow 0 9 1 v n L) (hx : x.oneCell' = true) (hb : n + 1 ≤ 5000000000000)
    {ops : Array Oper} {rest : List Oper} {o : Oper} {a : Act} {Q : Exit → Act → World → Prop} (hgd : o.guard = none) (sl y : Operand) (ho : o.op = .call { callee := .builtin .append, args := #[sl, y], argTypes := #[34, 34] })
    (hs : a.eval sl = v) (hy : a.eval y = .slice (some ⟨w.heap.size, 0, none⟩) 1 1)
    (hK : ∀ (v2 : Value) (w2 : World), w2.ownsRow 0 9 1 v2 (n + 1) (L ++ [x]) → G1 w w2 v v2 → wpList Try.prog ops Q rest (a.put o.dst v2) w2) :
    wpList Try.prog ops Q (o :: rest) a (w.alloc (.cells #[x] 9)) := by
  obtain ⟨i0, hi, hz0, hz1, hz2⟩ := info_parts infoS
  refine wpList_append_own_at _ hgd sl y 34 ho 0 9 i0 (.string ⟨#[]⟩) 1 16 Try.underlying34 hi hz0 hz1 hz2 rfl (by decide) _ n L hs (own_lt2 h _) ⟨w.heap.size, 0, none⟩ 1 1 [x] hy rfl (fun j u hj => ?_) (by simpa using hx) (by unfold maxLen; omega) (by omega) (Nat.zero_le _) ?_
  · match j, hj with
    | 0, hj => cases hj; exact cell_one_new w _ _ 0 _ rfl
  · intro v' w2 hown hgrow _ hat
    refine hK v' w2 hown (G1.new ⟨hgrow, ?_⟩)
    rcases hat with e | e
    · exact Or.inl e
    · exact Or.inr ⟨_, e, Nat.le_refl _⟩
theorem RK.grow {k n : Nat} {T : TypeId} {v v2 x : Value} {L : List Value} (h : RK w col k T v L) (hn : n = L.length) (O : w2.ownsRow 0 T 1 v2 (n + 1) (L ++ [x])) (G : G1 w w2 v v2) : RK w2 (nc w col k) k T v2 (L ++ [x]) := by
  subst hn
  refine ⟨by rw [List.length_append]; exact O, fun b e => ?_⟩
  rcases G.lies with y | ⟨q, y, hq⟩
  · rw [y] at e
    rw [nc_old k (own_lt h.1 b e)]; exact h.2 b e
  · rw [y] at e
    have := Option.some.inj e
    exact nc_new k (by omega)
theorem G1.st {k : Nat} {T : TypeId} {v v2 : Value} {L : List Value} (h : RK w col k T v L) (G : G1 w w2 v v2) : St col (fun c => c = k) w w2 :=
  ⟨G.grown.os, G.grown.tape, G.grown.output, G.grown.size, fun b hb hc => G.grown.block b hb (fun e => hc (h.2 b e.symm))⟩
/-- the answers have grown -/
theorem WI.addAns (h : WI w0 w col s lim) (hz : s.Zs.length = s.As.length) {v2 x : Value} {Z : List Int} (U : UK w col 14 x Z) (O : w2.ownsRow 0 27 1 v2 (s.As.length + 1) (s.As ++ [x])) (G : G1 w w2 s.av v2) :
    WI w0 w2 (nc w col 11) { s with av := v2, As := s.As ++ [x] } lim ∧ UK w2 (nc w col 11) 14 x Z := by
  have S := G.st h.ans
  obtain ⟨f1, f2, f3, f4, f5, f6, f7⟩ := h.frame S 11 (by omega) (by omega) (by omega)
  refine ⟨⟨f1, h.pn.keep S (by rw [h.cn]; omega), h.pb.keep S (by rw [h.cb]; omega), fun j hj => (h.wr j hj).keep S (by omega) 11, fun j hj => ⟨(h.un j hj).1.keep S (by omega) 11, (h.un j hj).2⟩, h.ans.grow rfl O G, h.cps.keep S (by omega) 11, fun j v Z h1 h2 => ?_, f3, f4, f5, f6, f7⟩, U.keep S (by omega) 11⟩
  have hj : j < s.As.length := by rw [← hz]; exact (List.getElem?_eq_some_iff.1 h2).1
  exact f2 j v Z (by rw [← h1]; exact (List.getElem?_append_left hj).symm) h2
/-- the copies have grown -/
theorem WI.addCpy (h : WI w0 w col s lim) {v2 x : Value} {Z : List Int} (hx : s.As[s.Zs.length]? = some x) (U : UK w col 14 x Z) (O : w2.ownsRow 0 9 1 v2 (s.Zs.length + 1) (strs s.Zs ++ [.string (strOfNums Z)])) (G : G1 w w2 s.cv v2) :
    WI w0 w2 (nc w col 12) { s with cv := v2, Zs := s.Zs ++ [Z] } lim := by
  have S := G.st h.cps
  obtain ⟨f1, f2, f3, f4, f5, f6, f7⟩ := h.frame S 12 (by omega) (by omega) (by omega)
  refine ⟨f1, h.pn.keep S (by rw [h.cn]; omega), h.pb.keep S (by rw [h.cb]; omega), fun j hj => (h.wr j hj).keep S (by omega) 12, fun j hj => ⟨(h.un j hj).1.keep S (by omega) 12, (h.un j hj).2⟩, h.ans.keep S (by omega) 12, ?_, fun j v Y h1 h2 => ?_, f3, f4, f5, f6, f7⟩
  · show RK w2 (nc w col 12) 12 9 v2 (strs (s.Zs ++ [Z]))
    have e : strs (s.Zs ++ [Z]) = strs s.Zs ++ [.string (strOfNums Z)] := by simp
    rw [e]
    exact h.cps.grow (by simp) O G
  · by_cases hj : j < s.Zs.length
    · exact f2 j v Y h1 (by rw [← h2]; exact (List.getElem?_append_left hj).symm)
    · have h2' : (s.Zs ++ [Z])[j]? = some Y := h2
      have hl := (List.getElem?_eq_some_iff.1 h2').1
      rw [List.length_append] at hl
      simp only [List.length_cons, List.length_nil] at hl
      obtain rfl : j = s.Zs.length := by omega
      rw [List.getElem?_concat_length] at h2'
      obtain rfl := Option.some.inj h2'
      have h1' : s.As[s.Zs.length]? = some v := h1
      rw [hx] at h1'
      obtain rfl := Option.some.inj h1'
      exact U.keep S (by omega) 12
/-- a new row -/
theorem UK.new {bo : Option Addr} {n c : Nat} {Z : List Int} (k : Nat) (B : BR w' bo n c Z) (N : NewB w w' bo) : UK w' (nc w col k) k (.slice bo n c) Z := ⟨bo, n, c, rfl, Or.inl B, fun b e => nc_new k (N.2 b e)⟩
theorem UK.nil (k : Nat) : UK w col k (.slice none 0 0) [] := ⟨none, 0, 0, rfl, Or.inl (BR.nil _), fun b e => by cases e⟩
theorem UK.str {k : Nat} {v : Value} {Z : List Int} (U : UK w col k v Z) : (convert 27 9 v).run Try.prog w = .ok (.string (strOfNums Z)) w := by
  obtain ⟨uo, m, c, rfl, B, -⟩ := U
  exact B.str
/-! ### arrays of four, made -/
def sW (p v : Value) : Sem Unit := Instr.storeAt 25 p v
theorem sW_eq (p v : Value) : Instr.storeAt 25 p v = sW p v := rfl
def sN (p v : Value) : Sem Unit := Instr.storeAt 31 p v
theorem sN_eq (p v : Value) : Instr.storeAt 31 p v = sN p v := rfl
def sB (p v : Value) : Sem Unit := Instr.storeAt 32 p v
theorem sB_eq (p v : Value) : Instr.storeAt 32 p v = sB p v := rfl
theorem made4 (T : TypeId) (hT : (Try.prog.info? T).map (·.size) = some 4) (w : World) (z f : Nat → Value) (hf : ∀ v ∈ (A4 f).toList, v.oneCell' = true) (g : Nat) (hg : w.heap.size = g) :
    ∃ w' : World, (Instr.storeAt T (.pointer (some ⟨g, 0, none⟩)) (.agg (A4 f))).run Try.prog (w.alloc (.cells (A4 z) T)) = .ok () w' ∧ Bx4 w' g T f ∧ Below w.heap.size w w' ∧ w'.heap.size = w.heap.size + 1 := by
  subst hg
  have hA : (w.alloc (.cells (A4 z) T)).heap[w.heap.size]? = some (.cells (A4 z) T (0, 0)) := heap_alloc_new w _
  have h := run_storeCells_from (P := Try.prog) w.heap.size T (A4 f).toList 0 (A4 z) _ hA (by simp [A4]) hf
  have hc : (Value.agg (A4 f)).cells = A4 f := by simp [Value.cells]
  refine ⟨(w.alloc (.cells (A4 z) T)).setRow w.heap.size (A4 f), ?_, setRow_heap _ _ _ _ _ _ hA, below_setRow (below_new w _) (Nat.le_refl _), by simp [World.setRow]⟩
  cases hq : Try.prog.info? T with
  | none => simp [hq] at hT
  | some x =>
    have hs : x.size = 4 := by simpa [hq] using hT
    simp only [Instr.storeAt, Instr.sureAddr, Sem.run_bind, Sem.run_pure, Result.andThen, storeVar, sizeOf, typeInfo, hc, A4_size]
    have e4 : (A4 z).size = (A4 f).toList.length := rfl
    simp [A4] at h
    simp [A4, h, hq, hs]
/-! ### the script -/
structure QSrc (w : World) (ao : Option Addr) (m c : Nat) (L : List Stp) : Prop where
  len : L.length = m
  nil : ao = none → m = 0 ∧ c = 0
  cell : ∀ ad, ao = some ad → ∀ t, t < m → QAt w (ad.add (t * 5)) (L.getD t q0)
  big : m ≤ 1048576
  each : ∀ t, t < m → (L.getD t q0).num ≤ 9223372036854775807 ∧ (L.getD t q0).txt.size ≤ 1048576
theorem QSrc.below {ao : Option Addr} {m c : Nat} {L : List Stp} (h : QSrc w ao m c L) (hb : Below w.heap.size w w') : QSrc w' ao m c L :=
  ⟨h.len, h.nil, fun ad ha t ht => (h.cell ad ha t ht).on hb, h.big, h.each⟩
theorem QSrc.at {ao : Option Addr} {m c : Nat} {L : List Stp} (h : QSrc w ao m c L) (k : Nat) (hk : k < m) : ∃ bb oo, ao = some ⟨bb, oo, none⟩ ∧ QAt w ⟨bb, oo + k * 5, none⟩ (L.getD k q0) := by
  cases ao with
  | none => have := h.nil rfl; omega
  | some ad =>
    have := World.cell?_spot (h.cell ad rfl 0 (by omega)).c0
    obtain ⟨bb, oo, s⟩ := ad
    have hs : s = none := by simpa [Addr.add] using this
    subst hs
    have A := h.cell _ rfl k hk
    rw [Addr.add_lit] at A
    exact ⟨bb, oo, rfl, A⟩
/-- at the loop's head -/
structure Rel (s : Ws) : Prop where
  eq : ∀ k, k < 4 → s.bad k = s.sp k ∧ (s.sp k = false → s.Z k = s.U k)
  zl : s.Zs.length = s.As.length
end Go.Proofs.Ytebedjhfdncabaa
