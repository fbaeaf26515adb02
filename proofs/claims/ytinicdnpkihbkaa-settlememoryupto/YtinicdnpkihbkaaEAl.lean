/- Two answers of Reach put into one list. -/
import Derived.Test.YtinicdnpkihbkaaEMi
import Derived.Test.YtinicdnpkihbkaaESl
namespace Go.Proofs.Ytinicdnpkihbkaa
open Go.RowKit
variable {w w0 w1 w2 w3 wr wa wb : World} {e t : TypeId} {ao so : Option Addr} {n c m c3 : Nat} {F G : List Sl}

/-- append of a row of slices that is read -/
theorem SO.appS (h : SO e w ao n c F) (ad : Addr) (hG : G.length = m) (hc : ∀ j, j < m → w.cell? (ad.add j) = some (slv (G.getD j sl0))) (hinf : (Try.prog.info? e).map (fun i => (i.zero, i.size, i.bytes)) = some (some (.slice none 0 0), 1, 24)) (hu : Try.prog.underlying t = some (.slice e)) (hb : n + m ≤ 1000000)
    {ops : Array Oper} {rest : List Oper} {o : Oper} {a : Act} {Qq : Exit → Act → World → Prop} (hgd : o.guard = none) (sl y : Operand) (ho : o.op = .call { callee := .builtin .append, args := #[sl, y], argTypes := #[t, t] })
    (hs : a.eval sl = .slice ao n c) (hy : a.eval y = .slice (some ad) m c3)
    (hK : ∀ (bo : Option Addr) (c2 : Nat) (w2 : World), SO e w2 bo (n + m) c2 (F ++ G) → Ap w w2 ao bo → wpList Try.prog ops Qq rest (a.put o.dst (.slice bo (n + m) c2)) w2) :
    wpList Try.prog ops Qq (o :: rest) a w := by
  obtain ⟨i0, hi, hz0, hz1, hz2⟩ := info_parts hinf
  have e1 : (Value.slice none 0 0).cells.size = 1 := by simp [Value.cells]
  refine wpList_append_own_at _ hgd sl y t ho 0 e i0 (.slice none 0 0) 1 24 hu hi hz0 hz1 hz2 e1 (by decide) _ n (scs F) hs h ad m c3 (scs G) hy (by rw [scs_length, hG, Nat.mul_one]) (fun j u hj => ?_) (scs_one G) (by unfold maxLen; omega) (by omega) (Nat.zero_le _) ?_
  · have hl : j < G.length := by rw [← scs_length]; exact (List.getElem?_eq_some_iff.1 hj).1
    rw [scs_at G j hl] at hj
    rw [hc j (by omega)]
    exact hj
  · intro v' w2 hown hgrow _ hat
    rw [← scs_append] at hown
    obtain ⟨bo, c2, rfl, hP⟩ := SO.out hown
    rw [ownBlock_blk] at hgrow
    rw [ownBlock_blk, ownBlock_blk] at hat
    refine hK bo c2 w2 hP ⟨hgrow, ?_⟩
    rcases hat with x | x
    · exact Or.inl x
    · exact Or.inr ⟨_, x, Nat.le_refl _⟩
theorem infoSI : (Try.prog.info? 33).map (fun i => (i.zero, i.size, i.bytes)) = some (some (.slice none 0 0), 1, 24) := by kernel_rfl
def fl (n : Nat) (F : Nat → Sl) : List Sl := (List.range n).map F
theorem fl_len (n : Nat) (F : Nat → Sl) : (fl n F).length = n := by simp [fl]
theorem fl_at (n : Nat) (F : Nat → Sl) (i : Nat) (h : i < n) : (fl n F).getD i sl0 = F i := by simp [fl, List.getD, h]
def xl (n : Nat) (X : Nat → List Int) : List (List Int) := (List.range n).map X
theorem xl_len (n : Nat) (X : Nat → List Int) : (xl n X).length = n := by simp [xl]
theorem xl_at (n : Nat) (X : Nat → List Int) (i : Nat) (h : i < n) : (xl n X).getD i [] = X i := by simp [xl, List.getD, h]
theorem getD_app_l {β : Type} (l k : List β) (z : β) (i : Nat) (h : i < l.length) : (l ++ k).getD i z = l.getD i z := by rw [List.getD_eq_getElem?_getD, List.getD_eq_getElem?_getD, List.getElem?_append_left h]
theorem getD_app_r {β : Type} (l k : List β) (z : β) (i : Nat) (h : l.length ≤ i) : (l ++ k).getD i z = k.getD (i - l.length) z := by rw [List.getD_eq_getElem?_getD, List.getD_eq_getElem?_getD, List.getElem?_append_right h]
/-- the lists of two answers, in one -/
theorem two_lists {ga gb : Nat} {Fa Fb : Nat → Sl} {Xa Xb : Nat → List Int} (Ma : Mat w0 wa ga n Fa Xa) (Mb : Mat wa wb gb n Fb Xb) (h0 : Below w.heap.size w w0) (hr : Below wb.heap.size wb wr) (so : SO 33 wr ao (n + n) c (fl n Fa ++ fl n Fb)) (hso : ∀ k, blk ao = some k → w2.heap.size ≤ k) (h2 : wb.heap.size ≤ w2.heap.size) (st : Stay wb w2 wr) (sz : w2.heap.size ≤ wr.heap.size) :
    LN w wb w2 wr ao (n + n) c (fl n Fa ++ fl n Fb) (xl n Xa ++ xl n Xb) := by
  have ga0 := fl_len n Fa
  have hx0 := xl_len n Xa
  have wl : w.heap.size ≤ w0.heap.size := h0.size
  have wl2 : w0.heap.size ≤ wa.heap.size := Ma.bel.size
  have wl3 : wa.heap.size ≤ wb.heap.size := Mb.bel.size
  have row : ∀ i, i < n + n → ∃ s x, (fl n Fa ++ fl n Fb).getD i sl0 = s ∧ (xl n Xa ++ xl n Xb).getD i [] = x ∧ IR wr s.a s.n s.c x ∧ (∀ k, blk s.a = some k → w.heap.size ≤ k ∧ k < wb.heap.size) ∧ ((i < n ∧ s = Fa i ∧ ∀ k, blk s.a = some k → k < wa.heap.size) ∨ (n ≤ i ∧ s = Fb (i - n) ∧ ∀ k, blk s.a = some k → wa.heap.size ≤ k)) := fun i hi => by
    by_cases h : i < n
    · refine ⟨Fa i, Xa i, by rw [getD_app_l _ _ _ _ (by omega), fl_at n Fa i h], by rw [getD_app_l _ _ _ _ (by omega), xl_at n Xa i h], ((Ma.row i h).below Mb.bel).below hr, fun k hk => ?_, Or.inl ⟨h, rfl, fun k hk => (Ma.row i h).lt k hk⟩⟩
      have h1 := (Ma.ne i h k hk).2
      have h2 := (Ma.row i h).lt k hk
      omega
    · have hj : i - n < n := by omega
      refine ⟨Fb (i - n), Xb (i - n), by rw [getD_app_r _ _ _ _ (by omega), ga0, fl_at n Fb _ hj], by rw [getD_app_r _ _ _ _ (by omega), hx0, xl_at n Xb _ hj], (Mb.row (i - n) hj).below hr, fun k hk => ?_, Or.inr ⟨by omega, rfl, fun k hk => (Mb.ne (i - n) hj k hk).2⟩⟩
      have h1 := (Mb.ne (i - n) hj k hk).2
      have h2 := (Mb.row (i - n) hj).lt k hk
      omega
  refine ⟨⟨so, by rw [List.length_append, xl_len, xl_len], fun i hi => ?_, ⟨h0.trans ((Ma.bel.trans ((Mb.bel.trans (hr.mono Mb.bel.size)).mono Ma.bel.size)).mono h0.size), fun k hk => by have := hso k hk; omega⟩, fun i hi k hk => ?_, fun i hi k hk x => ?_, fun i j hi hj hij k hk x => ?_⟩, fun i hi k hk => ?_, fun k hk => Or.inr (hso k hk), st, sz⟩
  · obtain ⟨s, x, e1, e2, h3, _⟩ := row i hi
    rw [e1, e2]
    exact h3
  · obtain ⟨s, x, e1, e2, h3, h4, _⟩ := row i hi
    rw [e1] at hk
    exact (h4 k hk).1
  · obtain ⟨s, y, e1, e2, h3, h4, _⟩ := row i hi
    rw [e1] at hk
    have := (h4 k hk).2
    have := hso k x
    omega
  · obtain ⟨s, y, e1, e2, h3, h4, h5⟩ := row i hi
    obtain ⟨s', y', e1', e2', h3', h4', h5'⟩ := row j hj
    rw [e1] at hk
    rw [e1'] at x
    rcases h5 with ⟨a1, a2, a3⟩ | ⟨a1, a2, a3⟩
    · rcases h5' with ⟨b1, b2, b3⟩ | ⟨b1, b2, b3⟩
      · rw [a2] at hk
        rw [b2] at x
        exact Ma.dis i j a1 b1 hij k hk x
      · have := a3 k hk
        have := b3 k x
        omega
    · rcases h5' with ⟨b1, b2, b3⟩ | ⟨b1, b2, b3⟩
      · have := a3 k hk
        have := b3 k x
        omega
      · rw [a2] at hk
        rw [b2] at x
        exact Mb.dis (i - n) (j - n) (by omega) (by omega) (by omega) k hk x
  · obtain ⟨s, x, e1, e2, h3, h4, _⟩ := row i hi
    rw [e1] at hk
    exact Or.inl (h4 k hk).2
end Go.Proofs.Ytinicdnpkihbkaa
