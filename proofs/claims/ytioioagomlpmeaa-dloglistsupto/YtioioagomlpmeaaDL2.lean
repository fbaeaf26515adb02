/- The law's apart: the lists grow. -/
import Derived.Test.YtioioagomlpmeaaDL1
namespace Go.Proofs.Ytioioagomlpmeaa
open Go.RowKit
variable {w0 w w' w2 : World} {β β' : Nat × Nat → Option Nat} {lo wo go ga : Option Addr} {n lc wc i r gc gm gcap : Nat} {F W G : List Sl} {X Y : Nat → List Int} {Z : List Int}

structure L2 (w0 w : World) (β : Nat × Nat → Option Nat) (lo : Option Addr) (n lc : Nat) (F : List Sl) (X : Nat → List Int) (wo : Option Addr) (wc : Nat) (W : List Sl) (go : Option Addr) (i gc : Nat) (G : List Sl) (Y : Nat → List Int) (r : Nat) : Prop where
  b : Bs w0 w β lo n lc F
  src : ∀ q, q < n → NSrc w (fr F q).a (fr F q).n (fr F q).c (X q)
  rows : ∀ q, r ≤ q → q < n → IR w (fr F q).a (fr F q).n (fr F q).c (X q)
  so : SO 34 w wo n wc W
  ow : β (0, 1) = blk wo
  wr : ∀ q, q < n → IR w (fr W q).a (fr W q).n (fr W q).c (Y q) ∧ β (2, q) = blk (fr W q).a
  sg : SO 34 w go i gc G
  og : β (0, 2) = blk go
  gr : ∀ q, q < i → IR w (fr G q).a (fr G q).n (fr G q).c (Y q) ∧ ((fr G q).a = (fr F q).a ∨ β (3, q) = blk (fr G q).a)
  yt : ∀ q, q < n → (Y q).take (fr F q).n = X q
  yo : ∀ q, r ≤ q → q < n → Y q = X q
/-- where the row in hand lies -/
def Loc (β : Nat × Nat → Option Nat) (F : List Sl) (i : Nat) (ga : Option Addr) : Prop := ga = (fr F i).a ∨ β (3, i) = blk ga
theorem L2.keep (h : L2 w0 w β lo n lc F X wo wc W go i gc G Y (i + 1)) (hi : i < n) (b : Bs w0 w' β' lo n lc F) (kp : ∀ y : Nat × Nat, y ≠ (3, i) → y ≠ (1, i) → ∀ k, β y = some k → w'.heap[k]? = w.heap[k]?) (eb : ∀ y : Nat × Nat, y ≠ (3, i) → β' y = β y) (s : NSrc w' (fr F i).a (fr F i).n (fr F i).c (X i)) :
    L2 w0 w' β' lo n lc F X wo wc W go i gc G Y (i + 1) := by
  refine ⟨b, fun q hq => ?_, fun q hr hq => ?_, ?_, ?_, fun q hq => ⟨?_, ?_⟩, ?_, ?_, fun q hq => ⟨?_, ?_⟩, h.yt, h.yo⟩
  · by_cases e : q = i
    · rw [e]; exact s
    · exact (h.src q hq).keep fun k e2 => kp (1, q) (ne12 (by decide)) (ne22 e) k (by rw [h.b.o1 q hq]; exact e2)
  · exact (h.rows q hr hq).keep fun k e2 => kp (1, q) (ne12 (by decide)) (ne22 (by omega)) k (by rw [h.b.o1 q hq]; exact e2)
  · exact h.so.keep fun k e => kp (0, 1) (ne12 (by decide)) (ne12 (by decide)) k (by rw [h.ow]; exact e)
  · rw [eb _ (ne12 (by decide))]; exact h.ow
  · exact (h.wr q hq).1.keep fun k e => kp (2, q) (ne12 (by decide)) (ne12 (by decide)) k (by rw [(h.wr q hq).2]; exact e)
  · rw [eb _ (ne12 (by decide))]; exact (h.wr q hq).2
  · exact h.sg.keep fun k e => kp (0, 2) (ne12 (by decide)) (ne12 (by decide)) k (by rw [h.og]; exact e)
  · rw [eb _ (ne12 (by decide))]; exact h.og
  · rcases (h.gr q hq).2 with g | g
    · exact (h.gr q hq).1.keep fun k e => kp (1, q) (ne12 (by decide)) (ne22 (by omega)) k (by rw [h.b.o1 q (by omega), ← g]; exact e)
    · exact (h.gr q hq).1.keep fun k e => kp (3, q) (ne22 (by omega)) (ne12 (by decide)) k (by rw [g]; exact e)
  · rcases (h.gr q hq).2 with g | g
    · exact Or.inl g
    · exact Or.inr (by rw [eb _ (ne22 (by omega))]; exact g)
/-- the row in hand grows -/
theorem L2.gstep {ga' : Option Addr} {gc' : Nat} {x : Int} (h : L2 w0 w β lo n lc F X wo wc W go i gc G Y (i + 1)) (hi : i < n) (hg : IR w ga gm gcap Z) (lc' : Loc β F i ga) (zt : Z.take (fr F i).n = X i) (zl : (fr F i).n ≤ gm)
    (r : IR w' ga' (gm + 1) gc' (Z ++ [x])) (a : Ap w w' ga ga') (al : ga' = ga ∨ NewB w w' ga') : ∃ β', L2 w0 w' β' lo n lc F X wo wc W go i gc G Y (i + 1) ∧ Loc β' F i ga' := by
  have hl := hg.len
  rcases lc' with e | e
  · rcases al with e1 | nb
    · subst e1
      refine ⟨β, h.keep hi (h.b.row i hi (by rw [← e]; exact a)) (fun y _ h1 k e2 => h.b.reg.kept a (by rw [h.b.o1 i hi, ← e]) y h1 k e2) (fun _ _ => rfl) ?_, Or.inl e⟩
      have f := r.front (an := (fr F i).n) (ac := (fr F i).c) (by omega) (fun hn => ((h.src i hi).nil (by rw [← e]; exact hn)).2)
      rw [List.take_append_of_le_length (by omega), zt, e] at f
      exact f
    · refine ⟨upd β (3, i) (blk ga'), h.keep hi (h.b.new nb (3, i) (by simp) (ne12 (by decide)) (fun k e => r.lt k e)) (fun y _ _ k e2 => nb.1.block k (h.b.reg.lt y k e2)) (fun y hy => upd_ne hy) ((h.src i hi).below nb.1), Or.inr (upd_at _ _ _)⟩
  · refine ⟨upd β (3, i) (blk ga'), h.keep hi (h.b.grow a (3, i) (by simp) (ne12 (by decide)) e (fun k e => r.lt k e)) (fun y h3 _ k e2 => h.b.reg.kept a e y h3 k e2) (fun y hy => upd_ne hy) ?_, Or.inr (upd_at _ _ _)⟩
    exact (h.src i hi).keep fun k e2 => h.b.reg.kept a e (1, i) (ne12 (by decide)) k (by rw [h.b.o1 i hi]; exact e2)
/-- the list that is wanted grows, and is stored -/
theorem L2.wstep {b : Nat} {b2 : Option Addr} {m2 c2 : Nat} {x : Int} (h : L2 w0 w β (lo) n lc F X (some ⟨b, 0, none⟩) wc W go i gc G Y (i + 1)) (hi : i < n) (hg : IR w ga gm gcap Z) (lc' : Loc β F i ga) (hzx : Z = Y i ++ [x]) (zt : Z.take (fr F i).n = X i)
    (r : IR w' b2 m2 c2 (Y i ++ [x])) (a : Ap w w' (fr W i).a b2) :
    ∃ β', L2 w0 (w'.setCell ⟨b, i, none⟩ (.slice b2 m2 c2)) β' lo n lc F X (some ⟨b, 0, none⟩) wc (W.set i ⟨b2, m2, c2⟩) go i gc G (Xu Y i Z) (i + 1) ∧ IR (w'.setCell ⟨b, i, none⟩ (.slice b2 m2 c2)) ga gm gcap Z ∧ Loc β' F i ga ∧ w'.cell? ⟨b, i, none⟩ = some (slv (fr W i)) ∧ w'.frozen? ⟨b, i, none⟩ = false := by
  have hx := (h.wr i hi).2
  have kp := h.b.reg.kept a hx
  have hWl := h.so.len
  have s1 : SO 34 w' (some ⟨b, 0, none⟩) n wc W := h.so.keep fun k e => kp (0, 1) (ne12 (by decide)) k (by rw [h.ow]; exact e)
  obtain ⟨b', eb, hc, hf, s2, a2⟩ := s1.put i hi ⟨b2, m2, c2⟩
  obtain rfl : b = b' := by cases eb; rfl
  have B1 := h.b.grow a (2, i) (by simp) (ne12 (by decide)) hx (fun k e => r.lt k e)
  have ow1 : upd β (2, i) (blk b2) (0, 1) = blk (some ⟨b, 0, none⟩ : Option Addr) := by rw [upd_ne (ne12 (by decide))]; exact h.ow
  have kp2 := B1.reg.kept a2 ow1
  have B2 := B1.grow a2 (0, 1) (by decide) (by decide) ow1 (fun k e => s2.lt k e)
  have eu : upd (upd β (2, i) (blk b2)) (0, 1) (blk (some ⟨b, 0, none⟩ : Option Addr)) = upd β (2, i) (blk b2) := by
    funext y
    by_cases hy : y = (0, 1)
    · rw [hy, upd_at, ow1]
    · rw [upd_ne hy]
  rw [eu] at B2
  have kk : ∀ y : Nat × Nat, y ≠ (2, i) → y ≠ (0, 1) → ∀ k, β y = some k → (w'.setCell ⟨b, i, none⟩ (slv ⟨b2, m2, c2⟩)).heap[k]? = w.heap[k]? := fun y h1 h2 k e => (kp2 y h2 k (by rw [upd_ne h1]; exact e)).trans (kp y h1 k e)
  refine ⟨upd β (2, i) (blk b2), ⟨B2, fun q hq => ?_, fun q hr hq => ?_, s2, ow1, fun q hq => ?_, ?_, ?_, fun q hq => ⟨?_, ?_⟩, fun q hq => ?_, fun q hr hq => ?_⟩, ?_, ?_, hc, hf⟩
  · exact (h.src q hq).keep fun k e => kk (1, q) (ne12 (by decide)) (ne12 (by decide)) k (by rw [h.b.o1 q hq]; exact e)
  · exact (h.rows q hr hq).keep fun k e => kk (1, q) (ne12 (by decide)) (ne12 (by decide)) k (by rw [h.b.o1 q hq]; exact e)
  · have ef : fr (W.set i ⟨b2, m2, c2⟩) q = if q = i then ⟨b2, m2, c2⟩ else fr W q := getD_set _ _ _ _ _ (by omega)
    rw [ef]
    by_cases e : q = i
    · rw [if_pos e, e, Xu_at, upd_at, hzx]
      exact ⟨r.keep fun k e => kp2 (2, i) (ne12 (by decide)) k (by rw [upd_at]; exact e), rfl⟩
    · rw [if_neg e, Xu_ne e, upd_ne (ne22 e)]
      exact ⟨(h.wr q hq).1.keep fun k e2 => kk (2, q) (ne22 e) (ne12 (by decide)) k (by rw [(h.wr q hq).2]; exact e2), (h.wr q hq).2⟩
  · exact h.sg.keep fun k e => kk (0, 2) (ne12 (by decide)) (by decide) k (by rw [h.og]; exact e)
  · rw [upd_ne (ne12 (by decide))]; exact h.og
  · rw [Xu_ne (by omega)]
    rcases (h.gr q hq).2 with g | g
    · exact (h.gr q hq).1.keep fun k e => kk (1, q) (ne12 (by decide)) (ne12 (by decide)) k (by rw [h.b.o1 q (by omega), ← g]; exact e)
    · exact (h.gr q hq).1.keep fun k e => kk (3, q) (ne12 (by decide)) (ne12 (by decide)) k (by rw [g]; exact e)
  · rw [upd_ne (ne12 (by decide))]; exact (h.gr q hq).2
  · by_cases e : q = i
    · rw [e, Xu_at]; exact zt
    · rw [Xu_ne e]; exact h.yt q hq
  · rw [Xu_ne (by omega)]; exact h.yo q hr hq
  · rcases lc' with g | g
    · exact hg.keep fun k e => kk (1, i) (ne12 (by decide)) (ne12 (by decide)) k (by rw [h.b.o1 i hi, ← g]; exact e)
    · exact hg.keep fun k e => kk (3, i) (ne12 (by decide)) (ne12 (by decide)) k (by rw [g]; exact e)
  · rcases lc' with g | g
    · exact Or.inl g
    · exact Or.inr (by rw [upd_ne (ne12 (by decide))]; exact g)
/-- the row in hand is put behind those that have grown -/
theorem L2.push {go' : Option Addr} {gc' : Nat} (h : L2 w0 w β lo n lc F X wo wc W go i gc G Y (i + 1)) (hi : i < n) (hg : IR w ga gm gcap (Y i)) (lc' : Loc β F i ga) (sg : SO 34 w' go' (i + 1) gc' (G ++ [⟨ga, gm, gcap⟩])) (a : Ap w w' go go') :
    ∃ β', L2 w0 w' β' lo n lc F X wo wc W go' (i + 1) gc' (G ++ [⟨ga, gm, gcap⟩]) Y (i + 1) := by
  have kp := h.b.reg.kept a h.og
  have hG := h.sg.len
  refine ⟨upd β (0, 2) (blk go'), h.b.grow a (0, 2) (by decide) (by decide) h.og (fun k e => sg.lt k e), fun q hq => ?_, fun q hr hq => ?_, ?_, ?_, fun q hq => ⟨?_, ?_⟩, sg, upd_at _ _ _, fun q hq => ?_, h.yt, h.yo⟩
  · exact (h.src q hq).keep fun k e => kp (1, q) (ne12 (by decide)) k (by rw [h.b.o1 q hq]; exact e)
  · exact (h.rows q hr hq).keep fun k e => kp (1, q) (ne12 (by decide)) k (by rw [h.b.o1 q hq]; exact e)
  · exact h.so.keep fun k e => kp (0, 1) (by decide) k (by rw [h.ow]; exact e)
  · rw [upd_ne (by decide)]; exact h.ow
  · exact (h.wr q hq).1.keep fun k e => kp (2, q) (ne12 (by decide)) k (by rw [(h.wr q hq).2]; exact e)
  · rw [upd_ne (ne12 (by decide))]; exact (h.wr q hq).2
  · have keepR : ∀ {a : Option Addr} {m c : Nat} {l : List Int} (q : Nat), q < n → IR w a m c l → (a = (fr F q).a ∨ β (3, q) = blk a) → IR w' a m c l := fun q hq hr hl => by
      rcases hl with g | g
      · exact hr.keep fun k e => kp (1, q) (ne12 (by decide)) k (by rw [h.b.o1 q hq, ← g]; exact e)
      · exact hr.keep fun k e => kp (3, q) (ne12 (by decide)) k (by rw [g]; exact e)
    rw [upd_ne (ne12 (by decide))]
    by_cases e : q = i
    · subst e
      have e1 : fr (G ++ [⟨ga, gm, gcap⟩]) q = ⟨ga, gm, gcap⟩ := getD_snoc_eq _ _ _ _ hG.symm
      rw [e1]
      exact ⟨keepR q hi hg lc', lc'⟩
    · have e1 : fr (G ++ [⟨ga, gm, gcap⟩]) q = fr G q := getD_snoc_lt _ _ _ _ (by omega)
      rw [e1]
      exact ⟨keepR q (by omega) (h.gr q (by omega)).1 (h.gr q (by omega)).2, (h.gr q (by omega)).2⟩
/-- the lists are marked: they begin to grow -/
theorem L1.l2 {wo : Option Addr} (h : L1 w0 w β lo n lc F X wo n wc W) : ∃ β', L2 w0 w β' lo n lc F X wo wc W none 0 0 [] X 0 := by
  have d := h.b.drop (0, 2) (by decide) (by decide)
  refine ⟨_, d, fun q hq => (h.rows q hq).src, fun q _ hq => h.rows q hq, h.so, by rw [upd_ne (by decide)]; exact h.ow, fun q hq => ⟨(h.wr q hq).1, by rw [upd_ne (ne12 (by decide))]; exact (h.wr q hq).2⟩, World.ownsRow_nil _ _ _ _, upd_at _ _ _, (fun q hq => by omega), fun q hq => List.take_of_length_le (by rw [(h.rows q hq).len]; exact Nat.le_refl _), fun q _ _ => rfl⟩
end Go.Proofs.Ytioioagomlpmeaa
