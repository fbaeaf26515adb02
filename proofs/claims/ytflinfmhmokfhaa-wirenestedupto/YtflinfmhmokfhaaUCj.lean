/- Asks of one reader beside another: what is kept is told by a predicate. -/
import Derived.Test.YtflinfmhmokfhaaUCt
import Derived.Test.YtflinfmhmokfhaaURu
namespace Go.Proofs.Ytflinfmhmokfhaa
open Go.RowKit
variable {Pr : Nat → Prop} {w0 w w' w2 w4 : World} {g g2 gg gn off gr o : Nat} {bz : Option Nat} {ro so lo : Option Addr} {rn rc sn sc ln lc : Nat} {Z Z0 : List Int} {G G0 : List Got} {P : List Ask}

structure Kj (Pr : Nat → Prop) (w w' : World) (g lv : Nat) : Prop where
  os : w'.os = w.os
  tape : w'.tape = w.tape
  output : w'.output = w.output
  size : w.heap.size ≤ w'.heap.size
  block : ∀ k, Pr k → k ≠ g → k ≠ lv → w'.heap[k]? = w.heap[k]?
/-- the reader, and the row of what was read -/
structure CJ (Pr : Nat → Prop) (w0 w : World) (g g2 : Nat) (bz : Option Nat) (ro : Option Addr) (rn rc : Nat) (Z : List Int) (lo : Option Addr) (ln lc : Nat) (G : List Got) : Prop where
  rl : RL w g ro rn rc Z
  v2 : Var w g2 (.slice lo ln lc) 24
  gr : GR w lo ln lc G
  ge : ∀ k, blk lo = some k → ¬ Pr k
  kl : Kj Pr w0 w g g2
  src : blk ro = bz
  pos : Pr g ∧ Pr g2 ∧ g ≠ g2
  lt : ∀ k, Pr k → k < w.heap.size
  sp : rn ≠ 0 → ∀ k, bz = some k → Pr k ∧ k ≠ g2 ∧ k ≠ g
theorem CJ.ne (h : CJ Pr w0 w g g2 bz ro rn rc Z lo ln lc G) {j : Nat} (hj : Pr j) (k : Nat) (e : blk lo = some k) : k ≠ j := fun x => h.ge k e (x ▸ hj)
theorem CJ.below (h : CJ Pr w0 w g g2 bz ro rn rc Z lo ln lc G) (b : Below w.heap.size w w') : CJ Pr w0 w' g g2 bz ro rn rc Z lo ln lc G := by
  obtain ⟨p1, p2, p3⟩ := h.pos
  exact ⟨h.rl.kg_below b, (b.block g2 h.v2.lt).trans h.v2, h.gr.below b, h.ge, ⟨b.os.trans h.kl.os, b.tape.trans h.kl.tape, b.output.trans h.kl.output, Nat.le_trans h.kl.size b.size, fun k hk e1 e2 => (b.block k (h.lt k hk)).trans (h.kl.block k hk e1 e2)⟩, h.src, ⟨p1, p2, p3⟩, fun k hk => Nat.lt_of_lt_of_le (h.lt k hk) b.size, h.sp⟩
theorem CJ.ask {k : Nat} (h : CJ Pr w0 w g g2 bz ro rn rc Z lo ln lc G) (M : Mv w w2 g ro rn k Z) : ∃ so sc, CJ Pr w0 w2 g g2 bz so (rn - k) sc (Z.drop k) lo ln lc G := by
  obtain ⟨so, sc, R, hb, K⟩ := M
  obtain ⟨p1, p2, p3⟩ := h.pos
  refine ⟨so, sc, R, (K.block g2 (h.lt _ p2) (Ne.symm p3)).trans h.v2, h.gr.keep (fun k e => K.block k (h.gr.lt k e) (h.ne p1 k e)), h.ge, ⟨K.os.trans h.kl.os, K.tape.trans h.kl.tape, K.output.trans h.kl.output, Nat.le_trans h.kl.size K.size, fun k hk e1 e2 => (K.block k (h.lt k hk) e1).trans (h.kl.block k hk e1 e2)⟩, hb.trans h.src, ⟨p1, p2, p3⟩, fun k hk => Nat.lt_of_lt_of_le (h.lt k hk) K.size, fun h0 => h.sp (by omega)⟩
theorem CJ.app {m : Got} {bo : Option Addr} {c2 : Nat} (h : CJ Pr w0 w g g2 bz ro rn rc Z lo ln lc G) (R : GR w4 bo (ln + 1) c2 (G ++ [m])) (A : Ap w w4 lo bo) :
    Var w4 g2 (.slice lo ln lc) 24 ∧ (∀ k, Pr k → w4.heap[k]? = w.heap[k]?) ∧ CJ Pr w0 (w4.setCell ⟨g2, 0, none⟩ (.slice bo (ln + 1) c2)) g g2 bz ro rn rc Z bo (ln + 1) c2 (G ++ [m]) := by
  obtain ⟨p1, p2, p3⟩ := h.pos
  have hlo : ∀ k, Pr k → some k ≠ blk lo := fun k hk e => h.ge k e.symm hk
  have hk : ∀ k, Pr k → w4.heap[k]? = w.heap[k]? := fun k hk => A.grown.block k (h.lt k hk) (hlo k hk)
  have V2 : Var w4 g2 (.slice lo ln lc) 24 := (hk g2 p2).trans h.v2
  have hs := A.grown.size
  have hge : ∀ k, blk bo = some k → ¬ Pr k := fun k e => by
    rcases A.lies with x | ⟨j, x, hj⟩
    · rw [x] at e; exact h.ge k e
    · rw [x] at e
      have := Option.some.inj e
      intro hp
      have := h.lt k hp
      omega
  refine ⟨V2, hk, ⟨?_, set_heap w4 g2 _ _ _ 0 _ V2, R.keep (fun k e => set_other w4 g2 0 k _ (fun x => hge k e (x ▸ p2))), hge, ⟨(setCell_os _ _ _).trans (A.grown.os.trans h.kl.os), (setCell_tape _ _ _).trans (A.grown.tape.trans h.kl.tape), (setCell_output _ _ _).trans (A.grown.output.trans h.kl.output), by rw [set_size]; exact Nat.le_trans h.kl.size hs, fun k hk0 h1 h2 => (set_other w4 g2 0 k _ h2).trans ((hk k hk0).trans (h.kl.block k hk0 h1 h2))⟩, h.src, ⟨p1, p2, p3⟩, fun k hk => by rw [set_size]; exact Nat.lt_of_lt_of_le (h.lt k hk) hs, h.sp⟩⟩
  have b : ∀ k, Pr k → k ≠ g2 → (w4.setCell ⟨g2, 0, none⟩ (.slice bo (ln + 1) c2)).heap[k]? = w.heap[k]? := fun k hk1 hk2 => (set_other w4 g2 0 k _ hk2).trans (hk k hk1)
  refine ⟨(b g p1 p3).trans h.rl.r, ⟨h.rl.s.1, h.rl.s.2.1, fun ad ha t ht => ?_, h.rl.s.2.2.2⟩, h.rl.cap, h.rl.big, h.rl.ne⟩
  have hb : blk ro = some ad.block := by rw [ha]; rfl
  have := h.sp (by omega) ad.block (by rw [← h.src]; exact hb)
  rw [← h.rl.s.2.2.1 ad ha t ht]
  exact World.cell?_of_block (w := w) (a := ad.add t) (by rw [block_of_add]; exact b ad.block this.1 this.2.1)
theorem CJ.bad {e : Int} (h : CJ Pr w0 w g gg bz ro rn rc Z lo ln lc G) (hG : Gave w w2 g e) : Kj Pr w0 w2 g gg ∧ Var w2 gg (.slice lo ln lc) 24 ∧ GR w2 lo ln lc G := by
  obtain ⟨p1, p2, p3⟩ := h.pos
  have K := hG.2
  exact ⟨⟨K.os.trans h.kl.os, K.tape.trans h.kl.tape, K.output.trans h.kl.output, Nat.le_trans h.kl.size K.size, fun k hk e1 e2 => (K.block k (h.lt k hk) e1).trans (h.kl.block k hk e1 e2)⟩, (K.block gg (h.lt _ p2) (Ne.symm p3)).trans h.v2, h.gr.keep (fun k e => K.block k (h.gr.lt k e) (h.ne p1 k e))⟩
/-! ### asks before the first panic of their own -/
def calm (P : List Ask) : List Ask := P.takeWhile fun s => decide (s.kind ≠ 8)
theorem calm_le (P : List Ask) : (calm P).length ≤ P.length := (List.takeWhile_sublist _).length_le
theorem calm_lt : ∀ (P : List Ask) (k : Nat), k ≤ (calm P).length → k < P.length → (P.getD k k0).kind ≠ 8 → k < (calm P).length ∧ (calm P).getD k k0 = P.getD k k0
  | [], k, _, h2, _ => by simp at h2
  | s :: P, 0, _, _, h3 => by
    have h : s.kind ≠ 8 := h3
    unfold calm
    rw [List.takeWhile_cons_of_pos (by simpa using h)]
    exact ⟨by simp, rfl⟩
  | s :: P, k + 1, h1, h2, h3 => by
    by_cases h : s.kind = 8
    · unfold calm at h1
      rw [List.takeWhile_cons_of_neg (by simpa using h)] at h1
      simp at h1
    · have e : calm (s :: P) = s :: calm P := by unfold calm; rw [List.takeWhile_cons_of_pos (by simpa using h)]
      rw [e] at h1 ⊢
      simp only [List.length_cons] at h1 h2 ⊢
      have := calm_lt P k (by omega) (by omega) h3
      exact ⟨by omega, this.2⟩
theorem calm_eq : ∀ (P : List Ask) (k : Nat), k ≤ (calm P).length → k < P.length → (P.getD k k0).kind = 8 → (calm P).length = k
  | [], k, _, h2, _ => by simp at h2
  | s :: P, 0, _, _, h3 => by
    have h : s.kind = 8 := h3
    unfold calm
    rw [List.takeWhile_cons_of_neg (by simpa using h)]
    rfl
  | s :: P, k + 1, h1, h2, h3 => by
    by_cases h : s.kind = 8
    · unfold calm at h1
      rw [List.takeWhile_cons_of_neg (by simpa using h)] at h1
      simp at h1
    · have e : calm (s :: P) = s :: calm P := by unfold calm; rw [List.takeWhile_cons_of_pos (by simpa using h)]
      rw [e] at h1 ⊢
      simp only [List.length_cons] at h1 h2 ⊢
      rw [calm_eq P k (by omega) (by omega) h3]
theorem calm_all (h : P.length ≤ (calm P).length) : calm P = P := (List.takeWhile_sublist _).eq_of_length (Nat.le_antisymm (calm_le P) h)
/-- all asks against those before the first panic -/
theorem rdT_calm : ∀ (P : List Ask) (Z : List Int), (rdT P Z).1 = (rdT (calm P) Z).1 ∧ ((rdT (calm P) Z).2.1 ≠ 0 → (rdT P Z).2.1 = (rdT (calm P) Z).2.1) ∧ ((rdT (calm P) Z).2.1 = 0 → (rdT P Z).2.1 = if (calm P).length < P.length then 8 else 0) ∧ (rdT P Z).2.2 = (rdT (calm P) Z).2.2
  | [], Z => ⟨rfl, fun h => absurd rfl h, fun _ => rfl, rfl⟩
  | s :: P, Z => by
    by_cases h : s.kind = 8
    · have e : calm (s :: P) = [] := by unfold calm; rw [List.takeWhile_cons_of_neg (by simpa using h)]
      have h8 : aE Z s.kind s.n = 8 := by rw [h]; rfl
      rw [e, rdT_bad (by rw [h8]; decide)]
      exact ⟨rfl, fun h => absurd rfl h, fun _ => by rw [h8]; rfl, rfl⟩
    · have e : calm (s :: P) = s :: calm P := by unfold calm; rw [List.takeWhile_cons_of_pos (by simpa using h)]
      rw [e]
      by_cases hp : aE Z s.kind s.n = 0
      · obtain ⟨i1, i2, i3, i4⟩ := rdT_calm P (Z.drop (aK Z s.kind))
        rw [rdT_ok hp, rdT_ok hp]
        refine ⟨by simp only [i1], i2, fun h0 => ?_, i4⟩
        simp only at h0 ⊢
        rw [i3 h0]
        simp only [List.length_cons, Nat.add_lt_add_iff_right]
      · rw [rdT_bad hp, rdT_bad hp]
        exact ⟨rfl, fun _ => rfl, fun h0 => absurd h0 hp, rfl⟩
/-! ### the asks as a closure finds them -/
structure TN (Pr : Nat → Prop) (w0 : World) (g gg gn off gr o : Nat) (so : Option Addr) (sn sc : Nat) (P : List Ask) : Prop where
  nc : w0.cell? ⟨gn, off, none⟩ = some (.slice so sn sc)
  vr : Var w0 gr (ptr o) 25
  qs : KSrc w0 so sn sc P
  pos : Pr gn ∧ gn ≠ g ∧ gn ≠ gg ∧ Pr gr ∧ gr ≠ g ∧ gr ≠ gg
  far : sn ≠ 0 → ∀ k, blk so = some k → Pr k ∧ k ≠ g ∧ k ≠ gg
  big : sn ≤ 2000000
def NS (gn off gr o : Nat) (so : Option Addr) (sn sc : Nat) (a : Addr) (s : Ask) (W : World) : Prop := W.cell? ⟨gn, off, none⟩ = some (.slice so sn sc) ∧ W.cell? ⟨gr, 0, none⟩ = some (ptr o) ∧ KAt W a s
theorem TN.nc' (h : TN Pr w0 g gg gn off gr o so sn sc P) (hw : ∀ j, Pr j → j ≠ g → j ≠ gg → w.heap[j]? = w0.heap[j]?) : w.cell? ⟨gn, off, none⟩ = some (.slice so sn sc) := by
  rw [World.cell?_of_block (w := w0) (hw gn h.pos.1 h.pos.2.1 h.pos.2.2.1)]
  exact h.nc
theorem TN.ss (h : TN Pr w0 g gg gn off gr o so sn sc P) {ad : Addr} {k : Nat} (ha : so = some ad) (hk : k < sn) (hw : ∀ j, Pr j → j ≠ g → j ≠ gg → w.heap[j]? = w0.heap[j]?) : NS gn off gr o so sn sc (ad.add (k * 2)) (P.getD k k0) w := by
  have hf := h.far (by omega) ad.block (by rw [ha]; rfl)
  exact ⟨h.nc' hw, (show Var w gr _ _ from (hw gr h.pos.2.2.2.1 h.pos.2.2.2.2.1 h.pos.2.2.2.2.2).trans h.vr).c, (h.qs.cell ad ha k hk).keep (by rw [block_of_add]; exact hw _ hf.1 hf.2.1 hf.2.2)⟩
/-- behind k asks -/
def JL (Pr : Nat → Prop) (w0 w : World) (g gg : Nat) (bz : Option Nat) (P : List Ask) (Z0 : List Int) (G0 : List Got) (k : Nat) : Prop :=
  ∃ ro rn rc Z lo ln lc G, CJ Pr w0 w g gg bz ro rn rc Z lo ln lc (G0 ++ G) ∧ k ≤ (calm P).length ∧ ln ≤ 4000000 + k ∧ rdT (calm P) Z0 = (G ++ (rdT ((calm P).drop k) Z).1, (rdT ((calm P).drop k) Z).2)
/-- what is left where they end by a panic -/
def BadJ (Pr : Nat → Prop) (w0 : World) (g gg : Nat) (P : List Ask) (Z0 : List Int) (G0 : List Got) (r : Ending) (w' : World) : Prop :=
  Kj Pr w0 w' g gg ∧ (∃ lo ln lc, Var w' gg (.slice lo ln lc) 24 ∧ GR w' lo ln lc (G0 ++ (rdT (calm P) Z0).1) ∧ ∀ k, blk lo = some k → ¬ Pr k) ∧
    ((r = .panicked (ups g) ∧ (rdT (calm P) Z0).2.1 ≠ 0 ∧ Rdr w' g none 0 0 (rdT (calm P) Z0).2.1 false) ∨
      ((∃ v, r = .panicked (bmE v false)) ∧ (rdT (calm P) Z0).2.1 = 0 ∧ (calm P).length < P.length ∧ ∃ so sc, Rdr w' g so (rdT (calm P) Z0).2.2.length sc 0 false))
/-- what is left behind them all -/
def GoodJ (Pr : Nat → Prop) (w0 : World) (g gg : Nat) (bz : Option Nat) (P : List Ask) (Z0 : List Int) (G0 : List Got) (w' : World) : Prop :=
  calm P = P ∧ (rdT P Z0).2.1 = 0 ∧ ∃ ro rc lo ln lc, CJ Pr w0 w' g gg bz ro (rdT P Z0).2.2.length rc (rdT P Z0).2.2 lo ln lc (G0 ++ (rdT P Z0).1)
theorem JL.done {k : Nat} (h : JL Pr w0 w g gg bz P Z0 G0 k) (hk : P.length ≤ k) : GoodJ Pr w0 g gg bz P Z0 G0 w := by
  obtain ⟨ro, rn, rc, Z, lo, ln, lc, G, hI, hc, -, hE⟩ := h
  have e := calm_all (P := P) (by omega)
  rw [e, List.drop_of_length_le hk] at hE
  have hN : rdT P Z0 = (G, 0, Z) := by rw [hE]; simp [rdT]
  refine ⟨e, by rw [hN], ro, rc, lo, ln, lc, ?_⟩
  rw [hN]
  have h2 : Z.length = rn := hI.rl.len
  show CJ Pr w0 w g gg bz ro Z.length rc Z lo ln lc (G0 ++ G)
  rw [h2]
  exact hI
theorem bad_of {Z : List Int} {s : Ask} {k : Nat} {e : Int} (hI : CJ Pr w0 w g gg bz ro rn rc Z lo ln lc (G0 ++ G)) (hE : rdT (calm P) Z0 = (G ++ (rdT ((calm P).drop k) Z).1, (rdT ((calm P).drop k) Z).2)) (hD : (calm P).drop k = s :: (calm P).drop (k + 1)) (he : aE Z s.kind s.n = e) (h0 : e ≠ 0) (hG : Gave w w2 g e) : BadJ Pr w0 g gg P Z0 G0 (.panicked (ups g)) w2 := by
  have hN : rdT (calm P) Z0 = (G, e, Z) := by
    rw [hE, hD, rdT_bad (by rw [he]; exact h0), he]
    simp
  have hB := hI.bad hG
  exact ⟨hB.1, ⟨lo, ln, lc, hB.2.1, by rw [hN]; exact hB.2.2, hI.ge⟩, Or.inl ⟨rfl, by rw [hN]; exact h0, by rw [hN]; exact hG.1⟩⟩
theorem boom_of {Z : List Int} {k : Nat} {v : Value} (hI : CJ Pr w0 w g gg bz ro rn rc Z lo ln lc (G0 ++ G)) (hE : rdT (calm P) Z0 = (G ++ (rdT ((calm P).drop k) Z).1, (rdT ((calm P).drop k) Z).2)) (hc : (calm P).length = k) (hk : k < P.length) : BadJ Pr w0 g gg P Z0 G0 (.panicked (bmE v false)) w := by
  have hN : rdT (calm P) Z0 = (G, 0, Z) := by
    rw [hE, List.drop_of_length_le (by omega)]
    simp [rdT]
  refine ⟨hI.kl, ⟨lo, ln, lc, hI.v2, by rw [hN]; exact hI.gr, hI.ge⟩, Or.inr ⟨⟨v, rfl⟩, by rw [hN], by omega, ?_⟩⟩
  rw [hN]
  have := hI.rl.r
  rw [← hI.rl.len] at this
  exact ⟨_, _, this⟩
end Go.Proofs.Ytflinfmhmokfhaa
