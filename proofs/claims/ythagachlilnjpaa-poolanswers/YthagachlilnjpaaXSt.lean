/- A script of the pool's laws in memory; append, run; what stays through the pool's calls. -/
import Derived.Test.YthagachlilnjpaaXOp
import Derived.OrdersHeld
namespace Go.Proofs.Ythagachlilnjpaa
open Go.RowKit Go.Maps
variable {w w' w2 w0 : World} {g mb g1 g3 : Nat}

theorem BR.runs {ao so : Option Addr} {n cap m c : Nat} {Z Y : List Int} (h : BR w ao n cap Z) (S : BS w so m c Y) (hb : n + m ≤ 140737488355328) (ty : TypeId) :
    ∃ bo cap2 w2, (Builtin.append_ #[29, 29] ty #[.slice ao n cap, .slice so m c]).run Try.prog w = .ok (.slice bo (n + m) cap2) w2 ∧ BR w2 bo (n + m) cap2 (Z ++ Y) ∧ Ap w w2 ao bo := by
  obtain ⟨i0, hi, hz0, hz1, hz2⟩ := info_parts infoB
  cases so with
  | none =>
    obtain ⟨rfl, rfl⟩ := S.nil rfl
    have e := List.eq_nil_of_length_eq_zero S.len
    subst e
    have hrun := run_append_owned_none (P := Try.prog) (w := w) 0 29 ty 5 i0 1 Try.underlying29 hi _ n (bcs Z) h
    exact ⟨ao, cap, w, hrun, by rw [List.append_nil]; exact h, Ap.refl _ _⟩
  | some ad =>
    obtain ⟨v', w2, hrun, hown, hgrow, hnil, hat⟩ := run_append_own_at (P := Try.prog) w 0 29 ty 5 i0 (.int .u8 0) 1 1 Try.underlying29 hi hz0 hz1 hz2 rfl (by decide) (.slice ao n cap) n (bcs Z) h ad m c (bcs Y) (by rw [bcs_length, S.len, Nat.mul_one]) (fun j u hj => by
      have hl : j < Y.length := by rw [← bcs_length]; exact (List.getElem?_eq_some_iff.1 hj).1
      rw [bcs_at Y j hl] at hj
      rw [S.cell ad rfl j (by rw [← S.len]; exact hl)]
      exact hj) (bcs_one Y) (by unfold maxLen; omega) (by omega) (Nat.zero_le _)
    rw [← bcs_append] at hown
    obtain ⟨bo, c2, rfl, hB⟩ := BR.out hown
    rw [ownBlock_blk] at hgrow
    rw [ownBlock_blk, ownBlock_blk] at hat
    refine ⟨bo, c2, w2, hrun, hB, ⟨hgrow, ?_⟩⟩
    rcases hat with e | e
    · exact Or.inl e
    · exact Or.inr ⟨_, e, Nat.le_refl _⟩
/-- append as an operation that comes up -/
theorem step_app {W : World} {ops : Array Oper} {o : Oper} {a : Act} {K : Act → World → Prop} {Q : Exit → Act → World → Prop} {E : Prop} {v1 v2 v' : Value} {w2 : World} (hgd : o.guard = none) (s x : Operand) (ho : o.op = .call { callee := .builtin .append, args := #[s, x], argTypes := #[29, 29] })
    (hs : a.eval s = v1) (hx : a.eval x = v2) (hrun : (Builtin.append_ #[29, 29] o.type #[v1, v2]).run Try.prog W = .ok v' w2) (hK : K (a.put o.dst v') w2) :
    if Region.wanted o (yielded ops a.tmps) = true then Oper.wp Try.prog o a W K Q else E := by
  have hw : Region.wanted o (yielded ops a.tmps) = true := by simp [Region.wanted, hgd]
  rw [if_pos hw]
  unfold Oper.wp
  simp [execOp, ho, resolve, invoke, builtin, hs, hx, hrun, Result.andThen]
  exact hK
structure OSrc (w : World) (ao : Option Addr) (m c : Nat) (L : List Opr) (Y : Nat → List Int) : Prop where
  len : L.length = m
  nil : ao = none → m = 0 ∧ c = 0
  cell : ∀ ad, ao = some ad → ∀ t, t < m → OAt w (ad.add (t * 6)) (L.getD t o0)
  big : m ≤ 2199023255552
  each : ∀ t, t < m → i64ok (L.getD t o0).nn ∧ i64ok (L.getD t o0).xx ∧ BS w (L.getD t o0).bo (L.getD t o0).bn (L.getD t o0).bc (Y t) ∧ (L.getD t o0).bn ≤ 140737488355328
theorem OSrc.below {ao : Option Addr} {m c : Nat} {L : List Opr} {Y : Nat → List Int} (h : OSrc w ao m c L Y) (hb : Below w.heap.size w w') : OSrc w' ao m c L Y :=
  ⟨h.len, h.nil, fun ad ha t ht => (h.cell ad ha t ht).on hb, h.big, fun t ht => ⟨(h.each t ht).1, (h.each t ht).2.1, (h.each t ht).2.2.1.below hb, (h.each t ht).2.2.2⟩⟩
theorem OSrc.at {ao : Option Addr} {m c : Nat} {L : List Opr} {Y : Nat → List Int} (h : OSrc w ao m c L Y) (k : Nat) (hk : k < m) : ∃ bb oo, ao = some ⟨bb, oo, none⟩ ∧ OAt w ⟨bb, oo + k * 6, none⟩ (L.getD k o0) := by
  cases ao with
  | none => have := h.nil rfl; omega
  | some ad =>
    have := World.cell?_spot (h.cell ad rfl 0 (by omega)).c0
    obtain ⟨bb, oo, s⟩ := ad
    have hs : s = none := by simpa [Addr.add] using this
    subst hs
    have A := h.cell _ rfl k hk
    rw [Addr.add_lit] at A
    exact ⟨bb, oo, rfl, A⟩
theorem o0_cells : OC o0 = #[.int .i64 0, .bool false, .int .i64 0, .int .i64 0, .int .i64 0, .slice none 0 0] := rfl
theorem setN {op : Opr} (h : OBox w g op) (v : Int) : OBox (w.setCell ⟨g, 2, none⟩ (.int .i64 v)) g { op with nn := v } := by
  unfold OBox at h ⊢
  simp [World.setCell, h, Array.getElem?_modify, OC]
theorem OBox.fw {op : Opr} (T : OBox w g1 op) (F : Fw w w' g mb) (h1 : g1 ≠ g) (h2 : g1 ≠ mb) : OBox w' g1 op := (F.block g1 T.lt h1 h2).trans T
/-- the step, and the letter that was read first -/
structure AX (w0 w : World) (g mb g1 g3 : Nat) (op : Opr) (a : Ltr) (Z : List Int) : Prop where
  ob : OBox w g1 op
  tb : TBox w g3 a
  br : BR w a.bo a.bn a.bc Z
  n1 : g1 ≠ g ∧ g1 ≠ mb
  n3 : g3 ≠ g ∧ g3 ≠ mb
  nb : ∀ k, blk a.bo = some k → k ≠ g ∧ k ≠ mb ∧ k ≠ g1
  bel : Below w0.heap.size w0 w
  gb : w0.heap.size ≤ g ∧ w0.heap.size ≤ mb ∧ w0.heap.size ≤ g1
  g13 : g3 ≠ g1
variable {op : Opr} {a : Ltr} {Z : List Int}
theorem AX.fw (h : AX w0 w g mb g1 g3 op a Z) (F : Fw w w' g mb) : AX w0 w' g mb g1 g3 op a Z :=
  ⟨h.ob.fw F h.n1.1 h.n1.2, h.tb.fw F h.n3.1 h.n3.2, h.br.fw F fun k e => ⟨(h.nb k e).1, (h.nb k e).2.1⟩, h.n1, h.n3, h.nb, Below.fw h.bel F h.gb.1 h.gb.2.1, h.gb, h.g13⟩
theorem AX.below (h : AX w0 w g mb g1 g3 op a Z) (hb : Below w.heap.size w w') : AX w0 w' g mb g1 g3 op a Z := h.fw (Fw.of_below hb)
theorem AX.set (h : AX w0 w g mb g1 g3 op a Z) (v : Int) : AX w0 (w.setCell ⟨g1, 2, none⟩ (.int .i64 v)) g mb g1 g3 { op with nn := v } a Z :=
  ⟨setN h.ob v, (set_other w g1 2 g3 _ h.g13).trans h.tb, h.br.keep fun k e => set_other w g1 2 k _ (h.nb k e).2.2, h.n1, h.n3, h.nb, Below.set h.bel g1 2 _ h.gb.2.2, h.gb, h.g13⟩
theorem Pl.setCell {made K : Nat} {M : Int → Option Ltr} {C : Int → List Int} (P : Pl w g mb made K M C) (j : Nat) (v : Value) (h1 : g1 ≠ g) (h2 : g1 ≠ mb) (hr : ∀ x l, M x = some l → ∀ k, blk l.bo = some k → k ≠ g1) : Pl (w.setCell ⟨g1, j, none⟩ v) g mb made K M C := by
  obtain ⟨D, h, hM⟩ := P.map
  refine ⟨(set_other w g1 j g v (Ne.symm h1)).trans P.box, ⟨D, owns_below h (set_other w g1 j mb v (Ne.symm h2)), hM⟩, fun x l e => ?_, P.dom, P.ne⟩
  have R := P.row x l e
  exact ⟨R.bs.blkKeep fun k ek => set_other w g1 j k v (hr x l e k ek), fun k ek => ⟨(R.ne k ek).1, (R.ne k ek).2.1, by rw [set_size]; exact (R.ne k ek).2.2⟩, R.big, R.cap⟩
end Go.Proofs.Ythagachlilnjpaa
